import PyProof.Rows.All
import Wide.All
import OpenK.AllK
import Wide.FinOn
import Lean
import PyProof.EqAt
import PyProof.EqKinds
import PyProof.TupleCall
import PyProof.ZipIter
import KE.KDictSum
import PyProof.Rows.SortStr
import PyProof.Rows.TupAdd
import PySem.Challenge.RW_quirehand_k01_faces_and_widths

set_option Elab.async false
set_option linter.all false
set_option bootstrap.genMatcherCode false
set_option genSizeOfSpec false
set_option maxRecDepth 100000
namespace L2
open PySem PySem.Spec PyProof.Rows
theorem au0 (h : True := by first | exact .inl rfl | exact .inr rfl | assumption) : True := trivial
theorem au1 (h : True := by decide) : True := trivial
theorem au2 (h : True := by intro _; rfl) : True := trivial
theorem au3 (h : True := by rfl) : True := trivial
theorem au4 (h : True := by with_unfolding_all rfl) : True := trivial
theorem au5 (h : True := by first | exact Or.inl rfl | exact Or.inr (Or.inl rfl) | exact Or.inr (Or.inr rfl)) : True := trivial
theorem au6 (h : True := by exact fun _ _ => rfl) : True := trivial
theorem au7 (h : True := by first | exact Or.inl rfl | exact Or.inr rfl) : True := trivial
theorem au8 (h : True := by size_fits) : True := trivial
theorem au9 (h : True := by exact rfl) : True := trivial
inductive Key where
  | inl (i : Int) | inr (x : Str) | non
  deriving DecidableEq
noncomputable def isNoneV : Value -> Bool
  | .none => true
  | _ => false
noncomputable def keyIs : Key -> Value -> Bool
  | .inl k, v => Value.isInt k v
  | .inr x, v => Value.isStrOf x v
  | .non, v => isNoneV v
noncomputable def keyH (w : World) : Key -> Int
  | .inl k => hashInt k
  | .inr x => hashStr w x
  | .non => 0xFCA86420
theorem isNoneV_shape {v : Value} (h : isNoneV v = true) : v = .none := by cases v <;> first | rfl | cases h
theorem keyIs_shape : ∀ {k : Key} {v : Value}, keyIs k v = true -> (∃ i t, k = Key.inl i /\ v = Value.int i t) \/ (∃ x t, k = Key.inr x /\ v = Value.str x t) \/ (k = Key.non /\ v = Value.none)
  | .inl i, v, h => by
    obtain ⟨t, e⟩ := Value.isInt_shape (k := i) (v := v) h
    exact .inl ⟨i, t, rfl, e⟩
  | .inr x, v, h => by
    obtain ⟨t, e⟩ := Value.isStrOf_shape (x := x) (v := v) h
    exact .inr (.inl ⟨x, t, rfl, e⟩)
  | .non, v, h => .inr (.inr ⟨rfl, isNoneV_shape h⟩)
theorem keyIs_int (i : Int) (t : Tok) : keyIs (.inl i) (.int i t) = true := by simp [keyIs, Value.isInt]
theorem keyIs_str (x : Str) (t : Tok) : keyIs (.inr x) (.str x t) = true := by simp [keyIs, Value.isStrOf]
theorem key_ll (a b : Int) : decide (Key.inl a = Key.inl b) = (a == b) := by
  by_cases e : a = b
  · subst e; simp
  · have h : ¬ Key.inl a = Key.inl b := fun q => e (Key.inl.inj q)
    rw [decide_eq_false h]
    exact (beq_eq_false_iff_ne.mpr e).symm
theorem key_rr (a b : Str) : decide (Key.inr a = Key.inr b) = decide (a = b) := by
  by_cases e : a = b
  · subst e; simp
  · have h : ¬ Key.inr a = Key.inr b := fun q => e (Key.inr.inj q)
    rw [decide_eq_false h, decide_eq_false e]
theorem slot_none_hash : Slot "NoneType" "__hash__" "NoneType.__hash__" :=
  .of (owner := "NoneType") (n := "__hash__") (by rw [typeLookup_type]; rw [builtinLookup_eq_fast]; kernel_rfl) (by decide +kernel) (by decide +kernel) (by decide +kernel)
    (by first | exact .inl (by decide +kernel) | exact .inr (by decide +kernel)) (by rw [isSubtype_type] ; kernel_rfl)
theorem entry_none_hash : entryFor table "NoneType.__hash__" = some Builtin.«NoneType.__hash__» := entryFor_of_fast (by kernel_rfl)
theorem args_none_hash (a : Value) : argsOk "NoneType.__hash__" ⟨[a], []⟩ := by unfold argsOk; kernel_rfl
theorem hash_none {prog : Program} {w : World} {A : Around} {E : Value -> Shared -> Prop} {s : Shared} {Q : Int -> Shared -> Prop} (h : Q 0xFCA86420 { s with toks := s.toks + 1 }) : wpAny (model prog w) A (pyHash .none) Q E s := by
  have hT : s.TypeIs .none "NoneType" := rfl
  show wpAny _ _ (pyHashByItsType .none) Q E s
  unfold pyHashByItsType
  refine wpAny_bind ?_
  rw [cRoomFor, if_neg (by decide)]
  refine wpAny_pure (wpAny_bind (wpAny_specialOf hT slot_none_hash.lookup ?_))
  rw [if_neg (by decide)]
  refine wpAny_bind (wpAny_specialOf hT slot_none_hash.lookup ?_)
  rw [if_neg (by decide)]
  refine wpAny_bind (wpAny_callSpecialIfBoundUnlessNone?_slot hT slot_none_hash (wpAny_call_entry slot_none_hash hT entry_none_hash ?_ (args_none_hash _)))
  show wpAny _ _ (do ret (<- mkInt 0xFCA86420)) _ _ s
  refine wpAny_ret_mkInt ?_
  show wpAny _ _ (pyHashByItsType.reduced 0xFCA86420) Q E _
  unfold pyHashByItsType.reduced
  rw [if_pos (by decide)]
  exact wpAny_pure h
noncomputable def mixKind (prog : Program) (w : World) : PySem.KeyKind prog w Key where
  is := keyIs
  hash := keyH w
  inj := fun v a b ha hb => by
    rcases keyIs_shape ha with ⟨i, t, rfl, rfl⟩ | ⟨x, t, rfl, rfl⟩ | ⟨rfl, rfl⟩
    · rcases keyIs_shape hb with ⟨j, u, rfl, e⟩ | ⟨y, u, rfl, e⟩ | ⟨rfl, e⟩
      · injection e with e1 _; rw [e1]
      · exact nomatch e
      · exact nomatch e
    · rcases keyIs_shape hb with ⟨j, u, rfl, e⟩ | ⟨y, u, rfl, e⟩ | ⟨rfl, e⟩
      · exact nomatch e
      · injection e with e1 _; rw [e1]
      · exact nomatch e
    · rcases keyIs_shape hb with ⟨j, u, rfl, e⟩ | ⟨y, u, rfl, e⟩ | ⟨rfl, e⟩
      · exact nomatch e
      · exact nomatch e
      · rfl
  byValue := fun k v h => by
    rcases keyIs_shape h with ⟨i, t, rfl, rfl⟩ | ⟨x, t, rfl, rfl⟩ | ⟨rfl, rfl⟩ <;> rfl
  pyHash := fun hv h => by
    rcases keyIs_shape hv with ⟨i, t, rfl, rfl⟩ | ⟨x, t, rfl, rfl⟩ | ⟨rfl, rfl⟩
    · exact wpAny_pyHash_int h
    · exact wpAny_pyHash_str h
    · exact hash_none h
  eqBool := fun hu hv h => by
    rcases keyIs_shape hu with ⟨i, t, rfl, rfl⟩ | ⟨x, t, rfl, rfl⟩ | ⟨rfl, rfl⟩
    · rcases keyIs_shape hv with ⟨j, u, rfl, rfl⟩ | ⟨y, u, rfl, rfl⟩ | ⟨rfl, rfl⟩
      · rw [key_ll] at h; exact wpAny_eqBool_int h
      · rw [decide_eq_false (by intro q; cases q)] at h; exact SeqAt.EqAt.int_str i t y u _ _ _ _ h
      · rw [decide_eq_false (by intro q; cases q)] at h; exact SeqAt.EqAt.int_none i t _ _ _ _ h
    · rcases keyIs_shape hv with ⟨j, u, rfl, rfl⟩ | ⟨y, u, rfl, rfl⟩ | ⟨rfl, rfl⟩
      · rw [decide_eq_false (by intro q; cases q)] at h; exact SeqAt.EqAt.str_int x t j u _ _ _ _ h
      · rw [key_rr] at h; exact wpAny_eqBool_str h
      · rw [decide_eq_false (by intro q; cases q)] at h; exact SeqAt.EqAt.str_none x t _ _ _ _ h
    · rcases keyIs_shape hv with ⟨j, u, rfl, rfl⟩ | ⟨y, u, rfl, rfl⟩ | ⟨rfl, rfl⟩
      · rw [decide_eq_false (by intro q; cases q)] at h; exact SeqAt.EqAt.none_int j u _ _ _ _ h
      · rw [decide_eq_false (by intro q; cases q)] at h; exact SeqAt.EqAt.none_str y u _ _ _ _ h
      · rw [decide_eq_true rfl] at h; exact SeqAt.EqAt.same .none _ _ _ _ h
  «strs» := fun k x t v h => by
    rcases keyIs_shape h with ⟨i, u, rfl, e⟩ | ⟨y, u, rfl, e⟩ | ⟨rfl, e⟩
    · exact nomatch e
    · injection e with e1 _
      subst e1
      cases v <;> rfl
    · exact nomatch e
theorem mixKind_int (prog : Program) (w : World) (i : Int) (t : Tok) : (mixKind prog w).is (.inl i) (.int i t) = true := keyIs_int i t
theorem mixKind_str (prog : Program) (w : World) (x : Str) (t : Tok) : (mixKind prog w).is (.inr x) (.str x t) = true := keyIs_str x t
theorem mixKind_non (prog : Program) (w : World) : (mixKind prog w).is .non .none = true := rfl
end L2
namespace L2
open PySem PySem.Spec PyProof.Rows
inductive V where
  | non | bl (b : Bool) | int (i : Int) | str (x : Str) | byt (b : Array UInt8) | flt (b : UInt64) | ref (a : Addr) | ty (n : String)
  deriving DecidableEq
noncomputable def RelV : V -> Value -> Prop
  | .non, u => u = Value.none
  | .bl b, u => u = Value.bool b
  | .int i, u => ∃ t, u = Value.int i t
  | .str x, u => ∃ t, u = Value.str x t
  | .byt b, u => ∃ t, u = Value.bytes b t
  | .flt b, u => ∃ t, u = Value.float b t
  | .ref a, u => u = Value.ref a
  | .ty n, u => u = Value.type n
noncomputable abbrev Vals : List V -> List Value -> Prop := Paired RelV
theorem Vals.length {xs : List V} {us : List Value} (r : Vals xs us) : xs.length = us.length := Paired.length r
theorem Vals.get : ∀ {xs : List V} {us : List Value} {i : Nat} {x : V}, Vals xs us -> xs[i]? = some x -> ∃ u, us[i]? = some u /\ RelV x u
  | _, _, _, _, .nil, e => by simp at e
  | _, _, 0, _, .cons r _, e => by simp at e; subst e; exact ⟨_, rfl, r⟩
  | _, _, i + 1, x, .cons _ t, e => by
    obtain ⟨u, h1, h2⟩ := Vals.get (i := i) (x := x) t (by simpa using e)
    exact ⟨u, by simpa using h1, h2⟩
theorem Vals.set {x : V} {u : Value} (r : RelV x u) : ∀ {xs : List V} {us : List Value} (i : Nat), Vals xs us -> Vals (xs.set i x) (us.set i u)
  | _, _, _, .nil => .nil
  | _, _, 0, .cons _ t => .cons r t
  | _, _, i + 1, .cons q t => .cons q (Vals.set r i t)
theorem Vals.append : ∀ {xs ys : List V} {us ws : List Value}, Vals xs us -> Vals ys ws -> Vals (xs ++ ys) (us ++ ws)
  | _, _, _, _, .nil, s => s
  | _, _, _, _, .cons r t, s => .cons r (Vals.append t s)
theorem Vals.take : ∀ {xs : List V} {us : List Value} (n : Nat), Vals xs us -> Vals (xs.take n) (us.take n)
  | _, _, 0, _ => .nil
  | _, _, _ + 1, .nil => .nil
  | _, _, n + 1, .cons r t => .cons r (Vals.take n t)
theorem Vals.drop : ∀ {xs : List V} {us : List Value} (n : Nat), Vals xs us -> Vals (xs.drop n) (us.drop n)
  | _, _, 0, r => r
  | _, _, _ + 1, .nil => .nil
  | _, _, n + 1, .cons _ t => Vals.drop n t
noncomputable def RelO : Option V -> Option Value -> Prop
  | some v, some u => RelV v u
  | none, none => True
  | _, _ => False
noncomputable def KV {κ : Type} : List (κ × V) -> List (κ × Value) -> Prop := Paired fun (p : κ × V) (q : κ × Value) => p.1 = q.1 /\ RelV p.2 q.2
noncomputable def kV : Key -> V
  | .inl i => .int i
  | .inr x => .str x
  | .non => .non
noncomputable def TupN (h : Heap) (a : Addr) (items : Array Value) : Prop := ∃ o, h.get? a = some o /\ o.cls = .type "tuple" /\ (o.dict = none /\ o.slots = #[]) /\ ∃ n, o.data = .seq items n
theorem TupN.tup {h : Heap} {a : Addr} {items : Array Value} (x : TupN h a items) : IsTup h a items := let ⟨o, ho, hc, _, n, hd⟩ := x; ⟨o, ho, hc, n, hd⟩
theorem TupN.lt {h : Heap} {a : Addr} {items : Array Value} (x : TupN h a items) : a < h.objs.size := x.tup.lt
theorem TupN.new (h : Heap) (items : Array Value) : TupN (h.push { cls := .type "tuple", data := .seq items }) h.objs.size items := ⟨_, Heap.get?_push_size _ rfl, rfl, ⟨rfl, rfl⟩, _, rfl⟩
inductive HO where
    | lst (xs : List V)
    | tup (xs : List V)
    | dK (kvs : List (Key × V)) | dT (kvs : List (List Key × V))
    | set (S : Int -> Bool) (n : Nat)
    | ins (C dx : Addr) (fs : List (Str × V))
    | own (x : Addr)
    | xd (fs : List (Str × V))
    | met (f x : Addr)
    | rng (lo hi : Int)
    | frz (o : Obj) (u : HO)
    | tbl (ps : Array Value)
    | ext (φ : Heap -> Prop)
noncomputable abbrev Hp := Addr -> Option HO
noncomputable def upd (H : Hp) (a : Addr) (o : HO) : Hp := fun b => if b = a then some o else H b
theorem upd_same {H : Hp} {a : Addr} {o : HO} : upd H a o a = some o := by unfold upd; rw [if_pos rfl]
theorem upd_ne {H : Hp} {a b : Addr} {o : HO} (h : b ≠ a) : upd H a o b = H b := by unfold upd; rw [if_neg h]
theorem ne_of {H : Hp} {a b : Addr} {o u : HO} (h : H a = some o) (h' : H b = some u) (d : o ≠ u) : a ≠ b := by
  intro e; subst e; rw [h] at h'; exact d (Option.some.inj h')
theorem ne_of_none {H : Hp} {a b : Addr} {o : HO} (h : H a = some o) (h' : H b = none) : a ≠ b := by
  intro e; subst e; rw [h] at h'; cases h'
section
variable (P : Program) (w : World)
noncomputable def ObjOk (H : Hp) (h : Heap) (a : Addr) : HO -> Prop
  | .lst xs => xs.length <= sizeLine /\ ∃ (its : List Value) (n : Nat), Vals xs its /\ h.get? a = some { cls := .type "list", data := .seq its.toArray n }
  | .tup xs => xs.length <= sizeLine /\ ∃ its : List Value, Vals xs its /\ TupN h a its.toArray
  | .dK kvs => kvs.length <= sizeLine /\ (a == sysModules) = false /\ ∃ vs, KV kvs vs /\ h.DictOf (mixKind P w) a vs
  | .dT kvs => kvs.length <= sizeLine /\ (a == sysModules) = false /\ ∃ xs : List (List Key × Addr × Value),
      Paired (fun (p : List Key × V) (q : List Key × Addr × Value) => p.1 = q.1 /\ H q.2.1 = some (.tup (p.1.map kV)) /\ RelV p.2 q.2.2) kvs xs /\
      ∃ o es ep, h.get? a = some o /\ o.ExactDict /\ o.data = .dict es ep /\ es.toList = xs.map (entryOfKey (tupleKind (mixKind P w))) /\ (xs.map (·.1)).Nodup
  | .set S n => h.SetOf (intKind P w) a S n
  | .ins C dx fs => H dx = some (.own a) /\ fs.length <= 1000 /\ dx ≠ a /\ h.get? a = some (PySem.W.instObj C dx) /\
      ∃ mA, h.Ns1 dx mA /\ (∀ f, RelO (fs.lookup f) (mA f)) /\ PySem.Within mA (fs.map (·.1))
  | .own _ => ∃ o, h.get? a = some o
  | .xd fs => ∃ mA, h.Ns1 a mA /\ ∀ f, RelO (fs.lookup f) (mA f)
  | .rng lo hi => ∃ t u v, h.get? a = some { cls := .type "range", data := .fields #[.int lo t, .int hi u, .int 1 v] }
  | .frz o u => h.get? a = some o /\ ObjOk H h a u
  | .tbl ps => h.get? a = some { cls := .none, data := .fields ps }
  | .met f x => h.get? a = some (PySem.W.methodObj (.ref f) (.ref x))
  | .ext φ => φ h /\ (∃ o, h.get? a = some o) /\ ∀ h1 h2 : Heap, φ h1 -> (∀ o, h1.get? a = some o -> h2.get? a = some o) -> φ h2
noncomputable def HOk (H : Hp) (h : Heap) : Prop := ∀ a o, H a = some o -> ObjOk P w H h a o
end
section
variable {P : Program} {w : World} {H H' : Hp} {h h' : Heap} {a : Addr} {o : HO}
theorem ObjOk.lt (x : ObjOk P w H h a o) : a < h.objs.size := by
  cases o with
  | lst xs => obtain ⟨_, _, _, _, e⟩ := x; exact Heap.lt_size e
  | tup xs => obtain ⟨_, _, _, p⟩ := x; exact p.lt
  | dK kvs => obtain ⟨_, _, _, _, o, _, _, e, _⟩ := x; exact Heap.lt_size e
  | dT kvs => obtain ⟨_, _, _, _, o, _, _, e, _⟩ := x; exact Heap.lt_size e
  | set S n => obtain ⟨o, _, _, _, e, _⟩ := x; exact Heap.lt_size e
  | ins C dx fs => obtain ⟨_, _, _, e, _⟩ := x; exact Heap.lt_size e
  | own y => obtain ⟨_, e⟩ := x; exact Heap.lt_size e
  | xd fs => obtain ⟨_, ⟨_, _, _, e, _⟩, _⟩ := x; exact Heap.lt_size e
  | rng lo hi => obtain ⟨_, _, _, e⟩ := x; exact Heap.lt_size e
  | frz ob u => obtain ⟨e, _⟩ := x; exact Heap.lt_size e
  | tbl ps => exact Heap.lt_size (show h.get? a = some _ from x)
  | met f y => exact Heap.lt_size (show h.get? a = some _ from x)
  | ext φ => obtain ⟨_, ⟨_, e⟩, _⟩ := x; exact Heap.lt_size e
theorem Paired.mapP {α β : Type} {F G : α -> β -> Prop} : ∀ {l₁ : List α} {l₂ : List β}, Paired F l₁ l₂ -> (∀ a b, F a b -> G a b) -> Paired G l₁ l₂
  | _, _, .nil, _ => .nil
  | _, _, .cons r t, f => .cons (f _ _ r) (Paired.mapP t f)
theorem ObjOk.stay (x : ObjOk P w H h a o) (k : ∀ b u, (b = a \/ H b = some (.own a)) -> h.get? b = some u -> h'.get? b = some u)
    (ho : ∀ b, H b = some (.own a) -> H' b = some (.own a)) (ht : ∀ b xs, H b = some (.tup xs) -> H' b = some (.tup xs)) : ObjOk P w H' h' a o := by
  induction o with
  | lst xs => obtain ⟨z, its, n, r, e⟩ := x; exact ⟨z, its, n, r, k _ _ (.inl rfl) e⟩
  | tup xs => obtain ⟨z, its, r, ob, e, c⟩ := x; exact ⟨z, its, r, ob, k _ _ (.inl rfl) e, c⟩
  | dK kvs => obtain ⟨z, y, vs, r, ob, es, ep, e, c⟩ := x; exact ⟨z, y, vs, r, ob, es, ep, k _ _ (.inl rfl) e, c⟩
  | dT kvs =>
    obtain ⟨z, y, xs, r, ob, es, ep, e, c⟩ := x
    exact ⟨z, y, xs, Paired.mapP r fun p q z => ⟨z.1, ht _ _ z.2.1, z.2.2⟩, ob, es, ep, k _ _ (.inl rfl) e, c⟩
  | set S n => obtain ⟨ob, es, ep, t, e, c⟩ := x; exact ⟨ob, es, ep, t, k _ _ (.inl rfl) e, c⟩
  | ins C dx fs =>
    obtain ⟨d, z, ne, e, mA, ⟨od, es, ep, e2, c⟩, r⟩ := x
    exact ⟨ho _ d, z, ne, k _ _ (.inl rfl) e, mA, ⟨od, es, ep, k _ _ (.inr d) e2, c⟩, r⟩
  | own y => obtain ⟨ob, e⟩ := x; exact ⟨ob, k _ _ (.inl rfl) e⟩
  | xd fs => obtain ⟨mA, ⟨od, es, ep, e, c⟩, r⟩ := x; exact ⟨mA, ⟨od, es, ep, k _ _ (.inl rfl) e, c⟩, r⟩
  | rng lo hi => obtain ⟨t, u, v, e⟩ := x; exact ⟨t, u, v, k _ _ (.inl rfl) e⟩
  | frz ob u ih => obtain ⟨e, q⟩ := x; exact ⟨k _ _ (.inl rfl) e, ih q⟩
  | tbl ps =>
    have e : h.get? a = some { cls := .none, data := .fields ps } := x
    show h'.get? a = some { cls := .none, data := .fields ps }
    exact k a _ (.inl rfl) e
  | met f y =>
    have e : h.get? a = some (PySem.W.methodObj (.ref f) (.ref y)) := x
    show h'.get? a = some (PySem.W.methodObj (.ref f) (.ref y))
    exact k a _ (.inl rfl) e
  | ext φ => obtain ⟨p, ⟨o, e⟩, st⟩ := x; exact ⟨st _ _ p fun o q => k _ _ (.inl rfl) q, ⟨o, k _ _ (.inl rfl) e⟩, st⟩
theorem HOk.lt (x : HOk P w H h) (e : H a = some o) : a < h.objs.size := (x a o e).lt
theorem HOk.fresh (x : HOk P w H h) (e : h.objs.size <= a) : H a = none := by
  cases q : H a with
  | none => rfl
  | some u => exact absurd (Nat.lt_of_lt_of_le (x.lt q) e) (Nat.lt_irrefl _)
theorem HOk.kept (x : HOk P w H h) (k : ∀ b u, h.get? b = some u -> h'.get? b = some u) : HOk P w H h' := fun a o e =>
  (x a o e).stay (fun b u _ q => k b u q) (fun _ q => q) fun _ _ q => q
theorem HOk.laid (x : HOk P w H h) (k : ∀ b u, h.get? b = some u -> h'.get? b = some u) (hp : h.objs.size <= a) (new : ObjOk P w (upd H a o) h' a o) : HOk P w (upd H a o) h' := fun b u e => by
  have hn := x.fresh hp
  by_cases hb : b = a
  · subst hb; rw [upd_same] at e; cases e; exact new
  · rw [upd_ne hb] at e
    exact (x b u e).stay (fun c v _ q => k c v q) (fun c q => by rw [upd_ne (ne_of_none q hn)]; exact q) fun c xs q => by rw [upd_ne (ne_of_none q hn)]; exact q
end
noncomputable def Rd (H : Hp) (a : Addr) (u : HO) : Prop := H a = some u \/ ∃ o, H a = some (.frz o u)
theorem Rd.of {H : Hp} {a : Addr} {u : HO} (h : H a = some u) : Rd H a u := .inl h
theorem Rd.ok {P : Program} {w : World} {H : Hp} {h : Heap} {a : Addr} {u : HO} (r : Rd H a u) (x : HOk P w H h) : ObjOk P w H h a u := by
  rcases r with r | ⟨o, r⟩
  · exact x a u r
  · obtain ⟨_, q⟩ := x a _ r
    exact q
noncomputable def Mut : Option HO -> Prop
  | some (.lst _) => True
  | some (.dK _) => True
  | some (.dT _) => True
  | some (.set _ _) => True
  | some (.ins _ _ _) => True
  | some (.ext _) => True
  | _ => False
section
variable {P : Program} {w : World} {H : Hp} {h h' : Heap} {x e : Addr} {o' : HO}
theorem HOk.write (ok : HOk P w H h) (mu : Mut (H x)) (he : e = x \/ H e = some (.own x)) (k : ∀ b u, b ≠ e -> h.get? b = some u -> h'.get? b = some u) (heo : ∃ u, h'.get? e = some u)
    (new : ObjOk P w (upd H x o') h' x o') : HOk P w (upd H x o') h' := fun b u q => by
  have nown : ∀ c y, H c = some (.own y) -> c ≠ x := fun c y r z => by subst z; rw [r] at mu; exact mu
  have ntup : ∀ c xs, H c = some (.tup xs) -> c ≠ x := fun c xs r z => by subst z; rw [r] at mu; exact mu
  by_cases hb : b = x
  · subst hb; rw [upd_same] at q; cases q; exact new
  · rw [upd_ne hb] at q
    by_cases hbe : b = e
    · have q' : H b = some (.own x) := by
        rcases he with z | z
        · exact absurd (hbe.trans z) hb
        · rw [hbe]; exact z
      rw [q] at q'; cases q'
      obtain ⟨v, hv⟩ := heo
      exact ⟨v, by rw [hbe]; exact hv⟩
    · refine (ok b u q).stay (fun c v hc r => k c v ?_ r) (fun c r => by rw [upd_ne (nown c b r)]; exact r) fun c xs r => by rw [upd_ne (ntup c xs r)]; exact r
      rcases hc with rfl | hc
      · exact hbe
      · rintro rfl
        rcases he with z | z
        · exact nown c b hc z
        · rw [hc] at z; cases z; exact hb rfl
end
structure Un (fs ex : List Addr) (H H' : Hp) (h h' : Heap) : Prop where
  keep : ∀ b o, h.get? b = some o -> H b = none -> b ∉ fs -> b ∉ ex -> h'.get? b = some o
  slot : ∀ b o, h.get? b = some o -> H b = none -> b ∈ fs -> b ∉ ex -> ∃ sl, h'.get? b = some { o with slots := sl }
  free : ∀ b o, h.get? b = some o -> H b = none -> b ∉ ex -> H' b = none
  there : ∀ b o, h.get? b = some o -> b ∉ ex -> ∃ o', h'.get? b = some o'
  tups : ∀ b xs, H b = some (.tup xs) -> H' b = some (.tup xs)
  frzs : ∀ b o u, H b = some (.frz o u) -> H' b = some (.frz o u)
  tbls : ∀ b ps, H b = some (.tbl ps) -> ∃ more, H' b = some (.tbl (ps ++ more))
section
variable {fs fs' ex ex' : List Addr} {H H1 H2 : Hp} {h h1 h2 h' : Heap} {a x e : Addr} {o : HO}
theorem Un.any (u : Un fs ex H H1 h h1) {b : Addr} {ob : Obj} (q : h.get? b = some ob) (n : H b = none) (hx : b ∉ ex) : ∃ sl, h1.get? b = some { ob with slots := sl } := by
  by_cases hb : b ∈ fs
  · exact u.slot b ob q n hb hx
  · exact ⟨ob.slots, u.keep b ob q n hb hx⟩
theorem Un.trans (a : Un fs ex H H1 h h1) (b : Un fs ex H1 H2 h1 h2) : Un fs ex H H2 h h2 where
  keep := fun c ob q n hc hx => b.keep c ob (a.keep c ob q n hc hx) (a.free c ob q n hx) hc hx
  slot := fun c ob q n hc hx => by
    obtain ⟨sl, e1⟩ := a.slot c ob q n hc hx
    obtain ⟨sl', e2⟩ := b.slot c _ e1 (a.free c ob q n hx) hc hx
    exact ⟨sl', e2⟩
  free := fun c ob q n hx => by
    obtain ⟨o', e1⟩ := a.there c ob q hx
    exact b.free c o' e1 (a.free c ob q n hx) hx
  there := fun c ob q hx => by
    obtain ⟨o', e1⟩ := a.there c ob q hx
    exact b.there c o' e1 hx
  tups := fun c xs q => b.tups c xs (a.tups c xs q)
  frzs := fun c ob xs q => b.frzs c ob xs (a.frzs c ob xs q)
  tbls := fun c ps q => by
    obtain ⟨m1, e1⟩ := a.tbls c ps q
    obtain ⟨m2, e2⟩ := b.tbls c _ e1
    exact ⟨m1 ++ m2, by rw [e2, Array.append_assoc]⟩
theorem Un.kept (k : ∀ b u, h.get? b = some u -> h'.get? b = some u) : Un fs ex H H h h' :=
  ⟨fun b ob q _ _ _ => k b ob q, fun b ob q _ _ _ => ⟨ob.slots, k b ob q⟩, fun _ _ _ n _ => n, fun b ob q _ => ⟨ob, k b ob q⟩, fun _ _ q => q, fun _ _ _ q => q, fun _ ps q => ⟨#[], by rw [q]; simp⟩⟩
theorem Un.refl : Un fs ex H H h h := Un.kept fun _ _ q => q
theorem Un.laid (k : ∀ b u, h.get? b = some u -> h'.get? b = some u) (hp : h.objs.size <= a) (hn : H a = none) : Un fs ex H (upd H a o) h h' where
  keep := fun b u q _ _ _ => k b u q
  slot := fun b u q _ _ _ => ⟨u.slots, k b u q⟩
  free := fun b u q n _ => by rw [upd_ne (Nat.ne_of_lt (Nat.lt_of_lt_of_le (Heap.lt_size q) hp))]; exact n
  there := fun b u q _ => ⟨u, k b u q⟩
  tups := fun b xs q => by rw [upd_ne (ne_of_none q hn)]; exact q
  frzs := fun b u xs q => by rw [upd_ne (ne_of_none q hn)]; exact q
  tbls := fun b ps q => ⟨#[], by rw [upd_ne (ne_of_none q hn), q]; simp⟩
theorem Un.write (mu : Mut (H x)) (he : e = x \/ H e = some (.own x)) (k : ∀ b u, b ≠ e -> h.get? b = some u -> h'.get? b = some u) (heo : ∃ u, h'.get? e = some u) : Un fs ex H (upd H x o) h h' := by
  have hx : ∀ b, H b = none -> b ≠ x := fun b n z => by subst z; rw [n] at mu; exact mu
  have hb : ∀ b, H b = none -> b ≠ e := fun b n z => by
    subst z
    rcases he with r | r
    · exact hx b n r
    · rw [n] at r; cases r
  have hm : ∀ b u, H b = some u -> ¬ Mut (some u) -> b ≠ x := fun b u q nm z => by subst z; rw [q] at mu; exact nm mu
  refine ⟨fun b u q n _ _ => k b u (hb b n) q, fun b u q n _ _ => ⟨u.slots, k b u (hb b n) q⟩, fun b u q n _ => by rw [upd_ne (hx b n)]; exact n, fun b u q _ => ?_,
    fun b xs q => by rw [upd_ne (hm b _ q fun z => z)]; exact q, fun b u xs q => by rw [upd_ne (hm b _ q fun z => z)]; exact q, fun b ps q => ⟨#[], by rw [upd_ne (hm b _ q fun z => z), q]; simp⟩⟩
  by_cases hbe : b = e
  · subst hbe; exact heo
  · exact ⟨u, k b u hbe q⟩
theorem Un.mono (u : Un fs ex H H1 h h1) (hs : ∀ b ∈ fs, b ∈ fs') (hx : ∀ b ∈ ex, b ∈ ex') : Un fs' ex' H H1 h h1 :=
  ⟨fun b ob q n hb he => u.keep b ob q n (fun z => hb (hs b z)) fun z => he (hx b z), fun _ _ q n _ he => u.any q n fun z => he (hx _ z), fun b ob q n he => u.free b ob q n fun z => he (hx b z), fun b ob q he => u.there b ob q fun z => he (hx b z), u.tups, u.frzs, u.tbls⟩
end
noncomputable def trk (h : Heap) (H : Hp) : List Addr := (List.range h.objs.size).filter fun a => (H a).isSome
noncomputable def hidT (h : Heap) (H : Hp) : Heap := PySem.W.hideAll h (trk h H)
theorem hidT_size (h : Heap) (H : Hp) : (hidT h H).objs.size = h.objs.size := PySem.W.hideAll_size _ _
theorem hidT_get {h : Heap} {H : Hp} {b : Addr} {o : Obj} (e : h.get? b = some o) (n : H b = none) : (hidT h H).get? b = some o :=
  PySem.W.hideAll_get _ e fun hm => by
    have q : (H b).isSome = true := (List.mem_filter.mp hm).2
    rw [n] at q; simp at q
theorem of_hidT {h : Heap} {H : Hp} {b : Addr} {o : Obj} (e : (hidT h H).get? b = some o) : h.get? b = some o /\ H b = none := by
  have e' : h.get? b = some o := PySem.W.of_hideAll (trk h H) e
  refine ⟨e', ?_⟩
  cases q : H b with
  | none => rfl
  | some x =>
    have hm : b ∈ trk h H := List.mem_filter.mpr ⟨List.mem_range.mpr (Heap.lt_size e'), by simp [q]⟩
    have z : (hidT h H).get? b = none := PySem.W.hideAll_none (trk h H) hm
    rw [z] at e; cases e
noncomputable def allNews (g h : Heap) (L : Addr) : List (Addr × Obj) := (List.range h.objs.size).filterMap fun a => if a = L \/ (g.get? a).isSome = true then none else (h.get? a).map fun o => (a, o)
noncomputable def rest (g h : Heap) (L d : Addr) : List (Addr × Obj) := (allNews g h L).filter fun p => decide (p.1 ≠ d)
end L2
namespace L2
open PySem PySem.Spec PyProof.Rows
structure Mod (K : PySem.W.Frag) (mg : Str -> Option Value) (base : Heap) : Prop where
  kin : K.In base
  glob : base.Ns mainGlobals mg
  blt : ∃ mb, base.Ns builtinsNs mb /\ ∀ x : Str, x ≠ "__name__" -> mb x = bootBuiltins x
  nolimit : base.NoLimit
structure Cx where
  prog : Program
  w : World
  K : PySem.W.Frag
  mg : Str -> Option Value
  base : Heap
  A : Around
  N : List Str
  s₀ : Shared
  H₀ : Hp
  env : Env
  outer : List Env
  stack : List Env
  ex : List Addr
  fn : Str -> Bool
  calm : Bool
  pn : List (Addr × Obj)
  xe : Value -> Shared -> Prop
noncomputable def frs (l : List Env) : List Addr := l.filterMap (·.frame)
noncomputable abbrev Cx.fs (X : Cx) : List Addr := frs X.outer
noncomputable def Vis (sc : Scope) (x : Str) : Prop := sc.names.lookup x = some .local \/ sc.names.lookup x = some .cell \/ sc.names.lookup x = some .free
noncomputable def Loc (sc : Scope) (x : Str) : Prop := sc.names.lookup x = some .local \/ sc.names.lookup x = some .cell
noncomputable def Look (env : Env) (h : Heap) (m : Str -> Option Value) (x : Str) (u : Value) : Prop :=
  (env.kindOf x = some .local /\ m x = some u) \/ ((env.kindOf x = some .cell \/ env.kindOf x = some .free) /\ ∃ c, env.cells.lookup x = some c /\ h.IsCell c (some u))
structure Cx.Ok (X : Cx) : Prop where
  mod : Mod X.K X.mg X.base
  kind : X.env.scope.kind = .function
  glob : X.env.globals = mainGlobals
  blt : X.env.builtins = builtinsNs
  above : X.s₀.heap.objs.size <= X.env.locals
  inj : ∀ x y c, X.env.cells.lookup x = some c -> X.env.cells.lookup y = some c -> x = y
  has : ∀ x, (X.env.kindOf x = some .cell \/ X.env.kindOf x = some .free) -> ∃ c, X.env.cells.lookup x = some c
  cab : ∀ x c, X.fn x = true -> X.env.cells.lookup x = some c -> X.s₀.heap.objs.size <= c
  hd : X.calm = true -> X.A.handled = none
  frames : X.A.frames = some X.stack
  stk : X.stack = X.outer \/ (X.stack = X.env :: X.outer /\ X.env.frame = some X.env.locals)
  exf : ∀ b ∈ X.ex, b ≠ X.env.locals /\ ∀ x c, X.env.cells.lookup x = some c -> c ≠ b
  bs : ∀ b o, X.base.get? b = some o -> X.s₀.heap.get? b = some o /\ X.H₀ b = none
  bsz : X.base.objs.size <= X.s₀.heap.objs.size
  noex : ∀ b o, X.base.get? b = some o -> b ∉ X.ex
  exfs : ∀ b ∈ X.ex, b ∉ X.fs
  funs : X.s₀.heap.FunFrames X.base X.outer
  frf : ∀ b ∈ X.fs, X.H₀ b = none
structure Inv (X : Cx) (pins : List (Addr × Obj)) (σ : List (Option V)) (H : Hp) (s : Shared) : Prop where
  ok : X.Ok
  os : s.os = X.s₀.os
  bare : AllBare s.gens
  base : Un X.fs X.ex X.H₀ H X.s₀.heap s.heap
  loc : ∃ m, s.heap.Ns X.env.locals m /\ ∀ (i : Nat) (x : Str) (v : V), X.N[i]? = some x -> σ[i]? = some (some v) -> Vis X.env.scope x -> ∃ u, RelV v u /\ Look X.env s.heap m x u
  cell : ∀ x c, X.env.cells.lookup x = some c -> ∃ v, s.heap.IsCell c v
  free : H X.env.locals = none
  freeC : ∀ x c, X.env.cells.lookup x = some c -> H c = none
  pin : ∀ p ∈ X.pn ++ pins, s.heap.get? p.1 = some p.2 /\ H p.1 = none /\ p.1 ≠ X.env.locals /\ p.1 ∉ X.fs /\ ∀ v, p.2.data ≠ .cell v
  hok : HOk X.prog X.w H s.heap
  len : σ.length = X.N.length
section
variable {X : Cx} {pins : List (Addr × Obj)} {σ : List (Option V)} {H H' : Hp} {s : Shared} {h' : Heap}
theorem Cx.Ok.nofr (ok : X.Ok) {b : Addr} {o : Obj} (e : X.base.get? b = some o) : b ∉ X.fs := fun hb => by
  have := (ok.funs.mem hb).1
  rw [e] at this; cases this
theorem Inv.bs (I : Inv X pins σ H s) : ∀ b o, X.base.get? b = some o -> s.heap.get? b = some o /\ H b = none := fun b o e =>
  ⟨I.base.keep b o (I.ok.bs b o e).1 (I.ok.bs b o e).2 (I.ok.nofr e) (I.ok.noex b o e), I.base.free b o (I.ok.bs b o e).1 (I.ok.bs b o e).2 (I.ok.noex b o e)⟩
theorem Inv.bk (I : Inv X pins σ H s) : ∀ b o, X.base.get? b = some o -> s.heap.get? b = some o := fun b o e => (I.bs b o e).1
theorem Inv.mod (I : Inv X pins σ H s) : Mod X.K X.mg X.base := I.ok.mod
theorem Inv.kIn (I : Inv X pins σ H s) : X.K.In s.heap := I.ok.mod.kin.keeps I.bk
theorem Inv.nolimit (I : Inv X pins σ H s) : s.heap.NoLimit := I.ok.mod.nolimit.keeps I.bk
theorem Inv.fr (I : Inv X pins σ H s) : ∃ m, Fr X.base X.env.locals s.heap m :=
  let ⟨m, hn, _⟩ := I.loc
  ⟨m, hn, I.bk, Nat.le_trans I.ok.bsz I.ok.above⟩
theorem Inv.lt (I : Inv X pins σ H s) : X.env.locals < s.heap.objs.size := let ⟨_, hn, _⟩ := I.loc; hn.lt
theorem Inv.sz (I : Inv X pins σ H s) : X.s₀.heap.objs.size <= s.heap.objs.size := Nat.le_trans I.ok.above (Nat.le_of_lt I.lt)
theorem Inv.nofs (I : Inv X pins σ H s) {a : Addr} (h : s.heap.objs.size <= a) : a ∉ X.fs := fun hb => by
  obtain ⟨_, o, ho, _⟩ := I.ok.funs.mem hb
  exact absurd (Nat.lt_of_lt_of_le (Heap.lt_size ho) (Nat.le_trans I.sz h)) (Nat.lt_irrefl _)
theorem Inv.cne (I : Inv X pins σ H s) : ∀ x c, X.env.cells.lookup x = some c -> c ≠ X.env.locals := fun x c e z => by
  obtain ⟨v, o, ho, hd⟩ := I.cell x c e
  obtain ⟨m, ⟨o', es, ep, ho', hd', _⟩, _⟩ := I.loc
  rw [z, ho'] at ho; cases ho; rw [hd'] at hd; cases hd
theorem Inv.funs (I : Inv X pins σ H s) : s.heap.FunFrames X.base X.outer := by
  have all : ∀ (l : List Env), (∀ b ∈ frs l, b ∈ X.fs) -> X.s₀.heap.FunFrames X.base l -> s.heap.FunFrames X.base l := by
    intro l
    induction l with
    | nil => intro _ _; trivial
    | cons env r ih =>
      intro hs hl
      obtain ⟨hk, ⟨L, o, hf, hn, ho, hd⟩, hr⟩ := hl
      have hL : L ∈ X.fs := hs L (by unfold frs; rw [List.filterMap_cons, hf]; exact List.mem_cons_self)
      obtain ⟨sl, e⟩ := I.base.slot L o ho (I.ok.frf L hL) hL fun z => I.ok.exfs L z hL
      exact ⟨hk, ⟨L, _, hf, hn, e, hd⟩, ih (fun b hb => hs b (by unfold frs; rw [List.filterMap_cons, hf]; exact List.mem_cons_of_mem _ hb)) hr⟩
  exact all X.outer (fun _ hb => hb) I.ok.funs
theorem Inv.stack (I : Inv X pins σ H s) : s.heap.FunFrames X.base X.stack := by
  rcases I.ok.stk with e | ⟨e, hf⟩
  · rw [e]; exact I.funs
  · rw [e]
    obtain ⟨m, hn, _⟩ := I.loc
    refine .cons (by rw [I.ok.kind]; decide) hf hn ?_ I.funs
    exact Heap.get?_none_of_le (Nat.le_trans I.ok.bsz I.ok.above)
theorem Inv.stkSub (I : Inv X pins σ H s) : ∀ b ∈ frs X.stack, b ∈ X.env.locals :: X.fs := fun b hb => by
  rcases I.ok.stk with e | ⟨e, hf⟩
  · rw [e] at hb; exact List.mem_cons_of_mem _ hb
  · rw [e] at hb
    unfold frs at hb
    rw [List.filterMap_cons, hf] at hb
    exact hb
theorem Inv.stkFree (I : Inv X pins σ H s) : ∀ b ∈ frs X.stack, H b = none := fun b hb => by
  rcases List.mem_cons.mp (I.stkSub b hb) with e | hb
  · rw [e]; exact I.free
  · obtain ⟨_, o, ho, _⟩ := I.ok.funs.mem hb
    exact I.base.free b o ho (I.ok.frf b hb) fun z => I.ok.exfs b z hb
theorem Inv.step {g' : Array GenState} {t' : Nat} {d' : Drawn} {ch : List Addr} (I : Inv X pins σ H s)
    (hch : ∀ b ∈ ch, (b ∈ X.ex \/ X.s₀.heap.objs.size <= b) /\ b ≠ X.env.locals /\ (∀ x c, X.env.cells.lookup x = some c -> c ≠ b) /\ ∀ p ∈ X.pn ++ pins, p.1 ≠ b)
    (keep : ∀ b o, b ≠ X.env.locals -> b ∉ X.fs -> b ∉ ch -> s.heap.get? b = some o -> H b = none -> h'.get? b = some o)
    (slot : ∀ b o, b ≠ X.env.locals -> b ∈ X.fs -> b ∉ ch -> s.heap.get? b = some o -> H b = none -> ∃ sl, h'.get? b = some { o with slots := sl }) (free : ∀ b o, b ∉ ch -> s.heap.get? b = some o -> H b = none -> H' b = none)
    (there : ∀ b o, b ∉ ch -> s.heap.get? b = some o -> ∃ o', h'.get? b = some o')
    (tups : ∀ b xs, H b = some (.tup xs) -> H' b = some (.tup xs)) (frzs : ∀ b o u, H b = some (.frz o u) -> H' b = some (.frz o u)) (tbls : ∀ b ps, H b = some (.tbl ps) -> ∃ more, H' b = some (.tbl (ps ++ more)))
    (ns : ∀ m, s.heap.Ns X.env.locals m -> h'.Ns X.env.locals m) (hok : HOk X.prog X.w H' h') (hg : AllBare g') :
    Inv X pins σ H' { s with heap := h', gens := g', drawn := d', toks := t' } := by
  have neL : ∀ b o, X.s₀.heap.get? b = some o -> b ≠ X.env.locals := fun b o e => Nat.ne_of_lt (Nat.lt_of_lt_of_le (Heap.lt_size e) I.ok.above)
  have neC : ∀ b o, X.s₀.heap.get? b = some o -> b ∉ X.ex -> b ∉ ch := fun b o e hx hb => by
    rcases (hch b hb).1 with z | z
    · exact hx z
    · exact absurd (Nat.lt_of_lt_of_le (Heap.lt_size e) z) (Nat.lt_irrefl _)
  have cellK : ∀ x c, X.env.cells.lookup x = some c -> ∀ v, s.heap.IsCell c v -> h'.IsCell c v := fun x c e v ⟨o, ho, hd⟩ => by
    have nch : c ∉ ch := fun z => (hch c z).2.2.1 x c e rfl
    by_cases hc : c ∈ X.fs
    · obtain ⟨sl, q⟩ := slot c o (I.cne x c e) hc nch ho (I.freeC x c e)
      exact ⟨_, q, hd⟩
    · exact ⟨o, keep c o (I.cne x c e) hc nch ho (I.freeC x c e), hd⟩
  refine ⟨I.ok, I.os, hg, ⟨fun b o e n hb hx => ?_, fun b o e n hb hx => ?_, fun b o e n hx => ?_, fun b o e hx => ?_, fun b xs e => tups b xs (I.base.tups b xs e), fun b o xs e => frzs b o xs (I.base.frzs b o xs e), fun b ps e => ?_⟩, ?_, fun x c e => ?_, ?_, fun x c e => ?_, fun p hp => ?_, hok, I.len⟩
  · exact keep b o (neL b o e) hb (neC b o e hx) (I.base.keep b o e n hb hx) (I.base.free b o e n hx)
  · obtain ⟨sl, e1⟩ := I.base.slot b o e n hb hx
    obtain ⟨sl', e2⟩ := slot b _ (neL b o e) hb (neC b o e hx) e1 (I.base.free b o e n hx)
    exact ⟨sl', e2⟩
  · obtain ⟨o', e1⟩ := I.base.there b o e hx
    exact free b o' (neC b o e hx) e1 (I.base.free b o e n hx)
  · obtain ⟨o', e1⟩ := I.base.there b o e hx
    exact there b o' (neC b o e hx) e1
  · obtain ⟨m1, e1⟩ := I.base.tbls b ps e
    obtain ⟨m2, e2⟩ := tbls b _ e1
    exact ⟨m1 ++ m2, by rw [e2, Array.append_assoc]⟩
  · obtain ⟨m, hn, hl⟩ := I.loc
    refine ⟨m, ns m hn, fun i x v e1 e2 e3 => ?_⟩
    obtain ⟨u, r, l⟩ := hl i x v e1 e2 e3
    refine ⟨u, r, ?_⟩
    rcases l with l | ⟨k, c, e, z⟩
    · exact .inl l
    · exact .inr ⟨k, c, e, cellK x c e _ z⟩
  · obtain ⟨v, z⟩ := I.cell x c e
    exact ⟨v, cellK x c e v z⟩
  · obtain ⟨m, ⟨o, _, _, ho, _⟩, _⟩ := I.loc
    exact free _ o (fun z => (hch _ z).2.1 rfl) ho I.free
  · obtain ⟨v, o, ho, hd⟩ := I.cell x c e
    exact free c o (fun z => (hch c z).2.2.1 x c e rfl) ho (I.freeC x c e)
  · obtain ⟨e, n, ne, nf, d⟩ := I.pin p hp
    have nch : p.1 ∉ ch := fun z => (hch p.1 z).2.2.2 p hp rfl
    exact ⟨keep p.1 p.2 ne nf nch e n, free p.1 p.2 nch e n, ne, nf, d⟩
theorem Inv.un {t' : Nat} (I : Inv X pins σ H s) (u : Un X.fs [] H H' s.heap h') (hok : HOk X.prog X.w H' h') : Inv X pins σ H' { s with heap := h', toks := t' } := by
  obtain ⟨m, ⟨o, es, ep, ho, r⟩, _⟩ := id I.loc
  obtain ⟨sl, hL⟩ := u.any ho I.free (by simp)
  exact I.step (g' := s.gens) (d' := s.drawn) (ch := []) (fun _ z => nomatch z) (fun b o _ hb _ e n => u.keep b o e n hb (by simp)) (fun b o _ hb _ e n => u.slot b o e n hb (by simp)) (fun b o _ e n => u.free b o e n (by simp)) (fun b o _ e => u.there b o e (by simp)) u.tups u.frzs u.tbls (fun m' hm => by
    obtain ⟨o', es', ep', ho', r'⟩ := hm
    rw [ho] at ho'; cases ho'
    exact ⟨_, es', ep', hL, r'⟩) hok I.bare
theorem Inv.call {g' : Array GenState} {t' : Nat} {d' : Drawn} {ch : List Addr} (I : Inv X pins σ H s) (u : Un (frs X.stack) ch H H' s.heap h') (hok : HOk X.prog X.w H' h') (hg : AllBare g')
    (hch : ∀ b ∈ ch, (b ∈ X.ex \/ X.s₀.heap.objs.size <= b) /\ b ≠ X.env.locals /\ (∀ x c, X.env.cells.lookup x = some c -> c ≠ b) /\ ∀ p ∈ X.pn ++ pins, p.1 ≠ b) :
    Inv X pins σ H' { s with heap := h', gens := g', drawn := d', toks := t' } := by
  obtain ⟨m, ⟨o, es, ep, ho, r⟩, _⟩ := id I.loc
  obtain ⟨sl, hL⟩ := u.any ho I.free fun z => (hch _ z).2.1 rfl
  exact I.step (ch := ch) hch (fun b o hL hb hc e n => u.keep b o e n (fun z => (List.mem_cons.mp (I.stkSub b z)).elim hL hb) hc) (fun b o _ _ hc e n => u.any e n hc) (fun b o hc e n => u.free b o e n hc) (fun b o hc e => u.there b o e hc) u.tups u.frzs u.tbls (fun m' hm => by
    obtain ⟨o', es', ep', ho', r'⟩ := hm
    rw [ho] at ho'; cases ho'
    exact ⟨_, es', ep', hL, r'⟩) hok hg
theorem Inv.turned {t' : Nat} {it : Addr} (I : Inv X pins σ H s) (k : ∀ b o, b ≠ it -> s.heap.get? b = some o -> h'.get? b = some o) (hn : H it = none) (hL : it ≠ X.env.locals)
    (h1 : it ∈ X.ex \/ X.s₀.heap.objs.size <= it) (h2 : ∀ x c, X.env.cells.lookup x = some c -> c ≠ it) (h3 : ∀ p ∈ X.pn ++ pins, p.1 ≠ it) : Inv X pins σ H { s with heap := h', toks := t' } := by
  have nit : ∀ b u, H b = some u -> b ≠ it := fun b u e z => by rw [z, hn] at e; cases e
  refine I.step (g' := s.gens) (d' := s.drawn) (ch := [it]) (fun b hb => ?_) (fun b o _ _ hc e _ => k b o (fun z => hc (by simp [z])) e) (fun b o _ _ hc e _ => ⟨o.slots, k b o (fun z => hc (by simp [z])) e⟩) (fun _ _ _ _ n => n)
    (fun b o hc e => ⟨o, k b o (fun z => hc (by simp [z])) e⟩) (fun _ _ e => e) (fun _ _ _ e => e) (fun b ps e => ⟨#[], by rw [e]; simp⟩) (fun m hm => ?_) (fun b u e => ?_) I.bare
  · have e : b = it := by simpa using hb
    subst e
    exact ⟨h1, hL, h2, h3⟩
  · obtain ⟨o, es, ep, ho, r⟩ := hm
    exact ⟨o, es, ep, k _ o (Ne.symm hL) ho, r⟩
  · refine (I.hok b u e).stay (fun c v hc q => k c v ?_ q) (fun _ q => q) fun _ _ q => q
    rcases hc with z | z
    · rw [z]; exact nit b u e
    · exact nit c _ z
theorem Inv.tok (I : Inv X pins σ H s) (t : Nat) : Inv X pins σ H { s with toks := t } := I.un (h' := s.heap) (t' := t) Un.refl I.hok
theorem Inv.kept {t' : Nat} (I : Inv X pins σ H s) (k : ∀ b u, s.heap.get? b = some u -> h'.get? b = some u) : Inv X pins σ H { s with heap := h', toks := t' } := I.un (Un.kept k) (I.hok.kept k)
theorem Inv.laid {a : Addr} {o : HO} {t' : Nat} (I : Inv X pins σ H s) (k : ∀ b u, s.heap.get? b = some u -> h'.get? b = some u) (hp : s.heap.objs.size <= a) (new : ObjOk X.prog X.w (upd H a o) h' a o) :
    Inv X pins σ (upd H a o) { s with heap := h', toks := t' } := I.un (Un.laid k hp (I.hok.fresh hp)) (I.hok.laid k hp new)
theorem Inv.write {x e : Addr} {o : HO} {t' : Nat} (I : Inv X pins σ H s) (mu : Mut (H x)) (he : e = x \/ H e = some (.own x)) (k : ∀ b u, b ≠ e -> s.heap.get? b = some u -> h'.get? b = some u) (heo : ∃ u, h'.get? e = some u)
    (new : ObjOk X.prog X.w (upd H x o) h' x o) : Inv X pins σ (upd H x o) { s with heap := h', toks := t' } := I.un (Un.write mu he k heo) (I.hok.write mu he k heo new)
theorem Inv.weak {σ' : List (Option V)} (I : Inv X pins σ H s) (hl : σ'.length = σ.length) (w : ∀ (i : Nat) v, σ'[i]? = some (some v) -> σ[i]? = some (some v)) : Inv X pins σ' H s :=
  ⟨I.ok, I.os, I.bare, I.base, let ⟨m, hn, hl'⟩ := I.loc; ⟨m, hn, fun i x v e1 e2 e3 => hl' i x v e1 (w i v e2) e3⟩, I.cell, I.free, I.freeC, I.pin, I.hok, hl.trans I.len⟩
theorem Inv.pins_of {pins' : List (Addr × Obj)} (I : Inv X pins σ H s) (h : ∀ p ∈ pins', s.heap.get? p.1 = some p.2 /\ H p.1 = none /\ p.1 ≠ X.env.locals /\ p.1 ∉ X.fs /\ ∀ v, p.2.data ≠ .cell v) : Inv X pins' σ H s :=
  ⟨I.ok, I.os, I.bare, I.base, I.loc, I.cell, I.free, I.freeC, fun p hp => (List.mem_append.mp hp).elim (fun z => I.pin p (List.mem_append_left _ z)) (h p), I.hok, I.len⟩
theorem nodup_ix {N : List Str} (hN : N.Nodup) {i j : Nat} {x : Str} (a : N[i]? = some x) (b : N[j]? = some x) : i = j := by
  obtain ⟨h1, e1⟩ := List.getElem?_eq_some_iff.mp a
  obtain ⟨h2, e2⟩ := List.getElem?_eq_some_iff.mp b
  exact (List.getElem_inj hN).mp (e1.trans e2.symm)
theorem store_ok2 {M : Model} {A : Around} {E : Value -> Shared -> Prop} {i : Nat} {x : Str} {v : V} {u : Value} {Q : Unit -> Shared -> Prop} (I : Inv X pins σ H s) (hN : X.N.Nodup) (hi : X.N[i]? = some x) (hx : Loc X.env.scope x) (r : RelV v u)
    (h : ∀ s', Inv X pins (σ.set i (some v)) H s' -> (∃ a, Heap.SameBut a s.heap s'.heap /\ (a = X.env.locals \/ X.env.cells.lookup x = some a)) -> Q () s') (hf : autoParam (X.fn x = true \/ X.env.scope.names.lookup x = some .local) L2.au0._auto_1) : wpAny M A (storeName X.env x u) Q E s := by
  obtain ⟨m, hn, hl⟩ := id I.loc
  have hcls : (X.env.scope.kind == .class || (X.env.scope.kind == .module && X.env.locals != X.env.globals)) = false := by rw [I.ok.kind]; rfl
  have hiσ : i < σ.length := by rw [I.len]; exact (List.getElem?_eq_some_iff.mp hi).1
  have cne := I.cne
  have tracked : ∀ {a : Addr} {h' : Heap}, (∃ o, s.heap.get? a = some o /\ H a = none) -> Heap.SameBut a s.heap h' -> HOk X.prog X.w H h' := fun {a h'} ha hs b ob e => by
    obtain ⟨_, _, hfree⟩ := ha
    refine (I.hok b ob e).stay (fun c w' hc q => (hs.2 c ?_).trans q) (fun _ q => q) fun _ _ q => q
    rintro rfl
    rcases hc with rfl | hc
    · rw [hfree] at e; cases e
    · rw [hfree] at hc; cases hc
  rcases hx with hk | hk
  · refine wpAny_storeName_local hk hn (fun h' hn' hs => ?_) hcls
    obtain ⟨oL, _, _, hoL, _⟩ := id hn
    refine h _ ⟨I.ok, I.os, I.bare, ⟨fun b o e n hb hx => ?_, fun b o e n hb hx => ?_, I.base.free, fun b o e hx => ?_, I.base.tups, I.base.frzs, I.base.tbls⟩, ⟨_, hn', fun j y v' e1 e2 e3 => ?_⟩, fun y c e => ?_, I.free, I.freeC, fun p hp => ?_, tracked ⟨oL, hoL, I.free⟩ hs, by simpa using I.len⟩ ⟨_, hs, .inl rfl⟩
    · exact (hs.2 b (Nat.ne_of_lt (Nat.lt_of_lt_of_le (Heap.lt_size e) I.ok.above))).trans (I.base.keep b o e n hb hx)
    · obtain ⟨sl, e1⟩ := I.base.slot b o e n hb hx
      exact ⟨sl, (hs.2 b (Nat.ne_of_lt (Nat.lt_of_lt_of_le (Heap.lt_size e) I.ok.above))).trans e1⟩
    · obtain ⟨o', e1⟩ := I.base.there b o e hx
      exact ⟨o', (hs.2 b (Nat.ne_of_lt (Nat.lt_of_lt_of_le (Heap.lt_size e) I.ok.above))).trans e1⟩
    · by_cases hj : j = i
      · subst hj
        rw [hi] at e1; cases e1
        rw [List.getElem?_set_self hiσ] at e2
        cases e2
        exact ⟨u, r, .inl ⟨hk, by simp⟩⟩
      · rw [List.getElem?_set_ne (Ne.symm hj)] at e2
        obtain ⟨u', r', q⟩ := hl j y v' e1 e2 e3
        refine ⟨u', r', ?_⟩
        rcases q with ⟨k, e⟩ | ⟨k, c, e, z⟩
        · refine .inl ⟨k, ?_⟩
          have : y ≠ x := fun e => hj (nodup_ix hN e1 (e ▸ hi))
          simp [this, e]
        · exact .inr ⟨k, c, e, z.sameBut hs (cne y c e)⟩
    · obtain ⟨w', z⟩ := I.cell y c e
      exact ⟨w', z.sameBut hs (cne y c e)⟩
    · obtain ⟨e, n, ne, nf, d⟩ := I.pin p hp
      exact ⟨(hs.2 p.1 ne).trans e, n, ne, nf, d⟩
  · have hfn : X.fn x = true := by
      rcases hf with z | z
      · exact z
      · rw [z] at hk; cases hk
    obtain ⟨c, hc⟩ := I.ok.has x (.inl hk)
    obtain ⟨w', z⟩ := I.cell x c hc
    refine wpAny_storeName_cell I.ok.kind hk hc z (fun h' hc' hs => ?_)
    obtain ⟨oc, hoc, hocd⟩ := id z
    refine h { s with heap := h' } ⟨I.ok, I.os, I.bare, ⟨fun b o e n hb hx => ?_, fun b o e n hb hx => ?_, I.base.free, fun b o e hx => ?_, I.base.tups, I.base.frzs, I.base.tbls⟩, ⟨m, hn.sameBut hs (Ne.symm (cne x c hc)), fun j y v' e1 e2 e3 => ?_⟩, fun y c' e => ?_, I.free, I.freeC, fun p hp => ?_, tracked ⟨oc, hoc, I.freeC x c hc⟩ hs, by simpa using I.len⟩ ⟨c, hs, .inr hc⟩
    · exact (hs.2 b (Nat.ne_of_lt (Nat.lt_of_lt_of_le (Heap.lt_size e) (I.ok.cab x c hfn hc)))).trans (I.base.keep b o e n hb hx)
    · obtain ⟨sl, e1⟩ := I.base.slot b o e n hb hx
      exact ⟨sl, (hs.2 b (Nat.ne_of_lt (Nat.lt_of_lt_of_le (Heap.lt_size e) (I.ok.cab x c hfn hc)))).trans e1⟩
    · obtain ⟨o', e1⟩ := I.base.there b o e hx
      exact ⟨o', (hs.2 b (Nat.ne_of_lt (Nat.lt_of_lt_of_le (Heap.lt_size e) (I.ok.cab x c hfn hc)))).trans e1⟩
    · by_cases hj : j = i
      · subst hj
        rw [hi] at e1; cases e1
        rw [List.getElem?_set_self hiσ] at e2
        cases e2
        exact ⟨u, r, .inr ⟨.inl hk, c, hc, hc'⟩⟩
      · rw [List.getElem?_set_ne (Ne.symm hj)] at e2
        obtain ⟨u', r', q⟩ := hl j y v' e1 e2 e3
        refine ⟨u', r', ?_⟩
        rcases q with q | ⟨k, c', e, z'⟩
        · exact .inl q
        · refine .inr ⟨k, c', e, z'.sameBut hs ?_⟩
          rintro rfl
          exact hj (nodup_ix hN e1 (I.ok.inj _ _ _ e hc ▸ hi))
    · by_cases hcc : c' = c
      · subst hcc; exact ⟨_, hc'⟩
      · obtain ⟨w2, z2⟩ := I.cell y c' e
        exact ⟨w2, z2.sameBut hs hcc⟩
    · obtain ⟨e, n, ne, nf, d⟩ := I.pin p hp
      refine ⟨(hs.2 p.1 ?_).trans e, n, ne, nf, d⟩
      intro q
      rw [q, hoc] at e
      have q' : oc = p.2 := Option.some.inj e
      exact d w' (by rw [<- q']; exact hocd)
theorem store_ok {M : Model} {A : Around} {E : Value -> Shared -> Prop} {i : Nat} {x : Str} {v : V} {u : Value} {Q : Unit -> Shared -> Prop} (I : Inv X pins σ H s) (hN : X.N.Nodup) (hi : X.N[i]? = some x) (hx : Loc X.env.scope x) (r : RelV v u)
    (h : ∀ s', Inv X pins (σ.set i (some v)) H s' -> Q () s') (hf : autoParam (X.fn x = true \/ X.env.scope.names.lookup x = some .local) L2.au0._auto_1) : wpAny M A (storeName X.env x u) Q E s :=
  store_ok2 I hN hi hx r (fun s' I' _ => h s' I') hf
theorem Inv.call' {s' : Shared} {ch : List Addr} (I : Inv X pins σ H s) (ho : s'.os = s.os) (u : Un (frs X.stack) ch H H' s.heap s'.heap) (hok : HOk X.prog X.w H' s'.heap) (hg : AllBare s'.gens)
    (hch : ∀ b ∈ ch, (b ∈ X.ex \/ X.s₀.heap.objs.size <= b) /\ b ≠ X.env.locals /\ (∀ x c, X.env.cells.lookup x = some c -> c ≠ b) /\ ∀ p ∈ X.pn ++ pins, p.1 ≠ b) : Inv X pins σ H' s' := by
  obtain ⟨h', g', d', t', o'⟩ := s'
  have e : o' = s.os := ho
  subst e
  exact I.call (g' := g') (t' := t') (d' := d') u hok hg hch
end
noncomputable abbrev XK := Value -> Option Addr -> Hp -> Prop
noncomputable abbrev St := List (Option V)
noncomputable abbrev VK := V -> Hp -> Prop
noncomputable abbrev TE := St -> Hp -> VK -> Prop
noncomputable abbrev TT := St -> Hp -> (Bool -> Hp -> Prop) -> Prop
noncomputable abbrev TA := St -> Hp -> (List V -> Hp -> Prop) -> Prop
structure Ends where
  nx : St -> Hp -> Prop
  rt : VK
  bk : St -> Hp -> Prop := fun _ _ => False
  ct : St -> Hp -> Prop := fun _ _ => False
noncomputable abbrev TS := Ends -> St -> Hp -> Prop
noncomputable def EP (X : Cx) (pins : List (Addr × Obj)) (σ : St) (Q : VK) (u : Value) (s' : Shared) : Prop := ∃ v H', Inv X pins σ H' s' /\ RelV v u /\ Q v H'
noncomputable def TP (X : Cx) (pins : List (Addr × Obj)) (σ : St) (Q : Bool -> Hp -> Prop) (b : Bool) (s' : Shared) : Prop := ∃ H', Inv X pins σ H' s' /\ Q b H'
noncomputable def AP (X : Cx) (pins : List (Addr × Obj)) (σ : St) (Q : List V -> Hp -> Prop) (us : List Value) (s' : Shared) : Prop := ∃ vs H', Inv X pins σ H' s' /\ Vals vs us /\ Q vs H'
noncomputable def SP (X : Cx) (pins : List (Addr × Obj)) (D : Ends) (f : Flow) (s' : Shared) : Prop :=
  match f with
  | .next => ∃ σ' H', Inv X pins σ' H' s' /\ D.nx σ' H'
  | .brk => ∃ σ' H', Inv X pins σ' H' s' /\ D.bk σ' H'
  | .cont => ∃ σ' H', Inv X pins σ' H' s' /\ D.ct σ' H'
  | .ret u => ∃ v σ' H', Inv X pins σ' H' s' /\ RelV v u /\ D.rt v H'
noncomputable def PE (X : Cx) (e : Expr) (t : TE) : Prop :=
  ∀ (pins : List (Addr × Obj)) (s : Shared) (σ : St) (H : Hp) (Q : VK), Inv X pins σ H s -> t σ H Q -> wpAny (model X.prog X.w) X.A (eval e X.env) (EP X pins σ Q) X.xe s
noncomputable def PT (X : Cx) (e : Expr) (t : TT) : Prop :=
  ∀ (pins : List (Addr × Obj)) (s : Shared) (σ : St) (H : Hp) (Q : Bool -> Hp -> Prop), Inv X pins σ H s -> t σ H Q -> wpAny (model X.prog X.w) X.A (isTrue e X.env (eval e X.env)) (TP X pins σ Q) X.xe s
noncomputable def PW (X : Cx) (e : Expr) (t : TT) : Prop :=
  ∀ (whole : Sem Value) (pins : List (Addr × Obj)) (s : Shared) (σ : St) (H : Hp) (Q : Bool -> Hp -> Prop), Inv X pins σ H s -> t σ H Q -> wpAny (model X.prog X.w) X.A (isTrue e X.env whole) (TP X pins σ Q) X.xe s
theorem PW.pt {X : Cx} {e : Expr} {t : TT} (h : PW X e t) : PT X e t := h _
noncomputable def PA (X : Cx) (es : List Expr) (t : TA) : Prop :=
  ∀ (pos : Pos) (pins : List (Addr × Obj)) (s : Shared) (σ : St) (H : Hp) (Q : List V -> Hp -> Prop), Inv X pins σ H s -> t σ H Q -> wpAny (model X.prog X.w) X.A (spliced (backTo pos (starEach es X.env))) (AP X pins σ Q) X.xe s
noncomputable def PS (X : Cx) (st : Stmt) (t : TS) : Prop :=
  ∀ (pins : List (Addr × Obj)) (s : Shared) (σ : St) (H : Hp) (D : Ends), Inv X pins σ H s -> t D σ H -> wpAny (model X.prog X.w) X.A (exec st X.env) (SP X pins D) X.xe s
noncomputable def PSs (X : Cx) (st : List Stmt) (t : TS) : Prop :=
  ∀ (pins : List (Addr × Obj)) (s : Shared) (σ : St) (H : Hp) (D : Ends), Inv X pins σ H s -> t D σ H -> wpAny (model X.prog X.w) X.A (execs st X.env) (SP X pins D) X.xe s
theorem thn {α : Type} {t : Sem α} {Q Q' : α -> Shared -> Prop} {M : Model} {A : Around} {E : Value -> Shared -> Prop} {s : Shared} (h : wpAny M A t Q E s) (hQ : ∀ a s, Q a s -> Q' a s) : wpAny M A t Q' E s := wpAny_mono h hQ fun _ _ x => x
end L2
namespace L2
open PySem PySem.Spec PyProof.Rows
section
variable {X : Cx}
noncomputable def tVar (i : Nat) : TE := fun σ H Q => ∃ v, σ[i]? = some (some v) /\ Q v H
noncomputable def tC (v : V) : TE := fun _ H Q => Q v H
theorem pe_var {i : Nat} {x : Str} {pos : Pos} (hN : X.N[i]? = some x) (hv : Vis X.env.scope x) (hd : autoParam ((x == ("__debug__" : Str)) = false) L2.au1._auto_1) (hcd : autoParam ((x == ("__classdict__" : Str)) = false) L2.au1._auto_1) : PE X (.Name x pos) (tVar i) := by
  intro pins s σ H Q I h
  obtain ⟨v, e, h⟩ := h
  obtain ⟨m, hn, hl⟩ := I.loc
  obtain ⟨u, r, l⟩ := hl i x v hN e hv
  have fin : EP X pins σ Q u s := ⟨v, H, I, r, h⟩
  rcases l with ⟨hk, hm⟩ | ⟨hk, c, hc, hcell⟩
  · exact wpAny_Name (wpAny_loadName_local I.ok.kind hk hn hm fin) hd
  · rcases hk with hk | hk
    · exact wpAny_Name (wpAny_loadName_cell I.ok.kind hk hc hcell fin) hd
    · exact wpAny_Name (wpAny_loadName_free I.ok.kind hk hc hcell fin hcd) hd
theorem pe_int {i j pos} : PE X (.Constant (.int i) j pos) (tC (.int i)) := fun _ _ _ H _ I h => wpAny_Constant_int ⟨.int i, H, I.tok _, ⟨_, rfl⟩, h⟩
theorem pe_bl {b j pos} : PE X (.Constant (.bool b) j pos) (tC (.bl b)) := fun _ _ _ H _ I h => Constant_bool ⟨.bl b, H, I, rfl, h⟩
theorem pe_non {j pos} : PE X (.Constant .none j pos) (tC .non) := fun _ _ _ H _ I h => Constant_none ⟨.non, H, I, rfl, h⟩
theorem pe_str {x j pos} : PE X (.Constant (.str x) j pos) (tC (.str x)) := fun _ _ _ H _ I h => Calls.Constant_str ⟨.str x, H, I.tok _, ⟨_, rfl⟩, h⟩
noncomputable def Gl (X : Cx) (x : Str) : Prop := X.env.kindOf x = some .globalImplicit
theorem ld_glob {E : Value -> Shared -> Prop} {pins : List (Addr × Obj)} {s : Shared} {σ : St} {H : Hp} {x : Str} {u : Value} {pos : Pos} {Q : Value -> Shared -> Prop} (I : Inv X pins σ H s) (hg : Gl X x) (hm : X.mg x = some u) (h : Q u s)
    (hd : autoParam ((x == ("__debug__" : Str)) = false) L2.au1._auto_1) : wpAny (model X.prog X.w) X.A (eval (.Name x pos) X.env) Q E s :=
  Calls.Name_function_global I.ok.kind hg (Calls.loadGlobal_global (by rw [I.ok.glob]; exact I.mod.glob.keeps I.bk) hm h) hd
theorem ld_blt {E : Value -> Shared -> Prop} {pins : List (Addr × Obj)} {s : Shared} {σ : St} {H : Hp} {x : Str} {u : Value} {pos : Pos} {Q : Value -> Shared -> Prop} (I : Inv X pins σ H s) (hg : Gl X x) (hm : X.mg x = none) (hv : bootBuiltins x = some u) (h : Q u s)
    (hn : autoParam (x ≠ "__name__") L2.au1._auto_1) (hd : autoParam ((x == ("__debug__" : Str)) = false) L2.au1._auto_1) : wpAny (model X.prog X.w) X.A (eval (.Name x pos) X.env) Q E s := by
  obtain ⟨mb, h1, h2⟩ := I.mod.blt
  exact Calls.Name_function_global I.ok.kind hg (Calls.loadGlobal_builtin (by rw [I.ok.glob]; exact I.mod.glob.keeps I.bk) hm (by rw [I.ok.blt]; exact h1.keeps I.bk) ((h2 x hn).trans hv) h) hd
theorem pe_glob {x : Str} {v : V} {u : Value} {pos : Pos} (hg : Gl X x) (hm : X.mg x = some u) (r : RelV v u) (hd : autoParam ((x == ("__debug__" : Str)) = false) L2.au1._auto_1) : PE X (.Name x pos) (tC v) :=
  fun _ _ _ H _ I h => ld_glob I hg hm ⟨v, H, I, r, h⟩ hd
theorem pe_bltn {x : Str} {v : V} {u : Value} {pos : Pos} (hg : Gl X x) (hm : X.mg x = none) (hv : bootBuiltins x = some u) (r : RelV v u) (hn : autoParam (x ≠ "__name__") L2.au1._auto_1) (hd : autoParam ((x == ("__debug__" : Str)) = false) L2.au1._auto_1) : PE X (.Name x pos) (tC v) :=
  fun _ _ _ H _ I h => ld_blt I hg hm hv ⟨v, H, I, r, h⟩ hn hd
variable {a b : Expr} {ta tb : TE} {pos : Pos}
noncomputable def tB (t : TE) : TT := fun σ H Q => t σ H fun x H1 => ∃ c, x = .bl c /\ Q c H1
theorem pt_val {e : Expr} {t : TE} (h : PE X e t) (he : autoParam (∀ whole, isTrue e X.env whole = (do let v <- whole; standAt e.pos; holding [v] (truthy v))) L2.au2._auto_1) : PT X e (tB t) := by
  intro pins s σ H Q I hw
  refine isTrue_plain (thn (h pins s σ H _ I hw) fun v s1 ⟨x, H1, I1, r1, q1⟩ => ?_) (he _)
  obtain ⟨d, rfl, q⟩ := q1
  cases r1
  exact wpAny_truthy_bool ⟨H1, I1, q⟩
variable {tA tB' : TT} {rest : List Expr}
noncomputable def tAnd (t u : TT) : TT := fun σ H Q => t σ H fun c H1 => if c = true then u σ H1 Q else Q false H1
noncomputable def tOr (t u : TT) : TT := fun σ H Q => t σ H fun c H1 => if c = true then Q true H1 else u σ H1 Q
noncomputable def tNot (t : TT) : TT := fun σ H Q => t σ H fun c H1 => Q (!c) H1
theorem pw_and1 (ha : PT X a tA) : PW X (.BoolOp .And [a] pos) tA := by
  intro wh pins s σ H Q I h
  refine isTrue_and (thn (ha pins s σ H Q I h) fun c s1 e => ?_)
  cases c with
  | true => exact isTrue_and_nil e
  | false => exact e
theorem pw_or1 (ha : PT X a tA) : PW X (.BoolOp .Or [a] pos) tA := by
  intro wh pins s σ H Q I h
  refine isTrue_or (thn (ha pins s σ H Q I h) fun c s1 e => ?_)
  cases c with
  | false => exact isTrue_or_nil e
  | true => exact e
theorem pw_and (ha : PT X a tA) (hb : PW X (.BoolOp .And (b :: rest) pos) tB') : PW X (.BoolOp .And (a :: b :: rest) pos) (tAnd tA tB') := by
  intro wh pins s σ H Q I h
  refine isTrue_and (thn (ha pins s σ H _ I h) fun c s1 ⟨H1, I1, q1⟩ => ?_)
  cases c with
  | true => exact hb wh pins s1 σ H1 Q I1 q1
  | false => exact ⟨H1, I1, q1⟩
theorem pw_or (ha : PT X a tA) (hb : PW X (.BoolOp .Or (b :: rest) pos) tB') : PW X (.BoolOp .Or (a :: b :: rest) pos) (tOr tA tB') := by
  intro wh pins s σ H Q I h
  refine isTrue_or (thn (ha pins s σ H _ I h) fun c s1 ⟨H1, I1, q1⟩ => ?_)
  cases c with
  | true => exact ⟨H1, I1, q1⟩
  | false => exact hb wh pins s1 σ H1 Q I1 q1
theorem pt_not (ha : PT X a tA) : PT X (.UnaryOp .Not a pos) (tNot tA) := by
  intro pins s σ H Q I h
  exact isTrue_not (ha pins s σ H (fun c H1 => Q (!c) H1) I h)
noncomputable def tAndV (ta tb : TE) : TE := fun σ H Q => ta σ H fun x H1 => ∃ c, x = .bl c /\ if c = true then tb σ H1 Q else Q (.bl false) H1
noncomputable def tNotV (ta : TE) : TE := fun σ H Q => ta σ H fun x H1 => ∃ c, x = .bl c /\ Q (.bl (!c)) H1
theorem pe_one {op} {t : TE} (h : PE X a t) : PE X (.BoolOp op [a] pos) t := fun pins s σ H Q I hw => BoolOp_one (h pins s σ H Q I hw)
theorem pe_and (ha : PE X a ta) (hb : PE X (.BoolOp .And (b :: rest) pos) tb) : PE X (.BoolOp .And (a :: b :: rest) pos) (tAndV ta tb) := by
  intro pins s σ H Q I h
  refine BoolOp_and (thn (ha pins s σ H _ I h) fun v s1 ⟨x, H1, I1, r1, q1⟩ => ?_)
  obtain ⟨c, rfl, q1⟩ := q1
  cases r1
  refine wpAny_truthy_bool ?_
  cases c with
  | true => exact hb pins s1 σ H1 Q I1 q1
  | false => exact ⟨.bl false, H1, I1, rfl, q1⟩
theorem pe_not (ha : PE X a ta) : PE X (.UnaryOp .Not a pos) (tNotV ta) := by
  intro pins s σ H Q I h
  refine UnaryOp_ (thn (ha pins s σ H _ I h) fun v s1 ⟨x, H1, I1, r1, q1⟩ => ?_)
  obtain ⟨c, rfl, q1⟩ := q1
  cases r1
  exact not_of (wpAny_truthy_bool ⟨.bl (!c), H1, I1, rfl, q1⟩)
end
end L2
namespace L2
open PySem PySem.Spec PyProof.Rows
noncomputable def SqL (K : PySem.W.Frag) (H : Hp) (a : Addr) (xs : List V) : Prop :=
  Rd H a (.lst xs) \/
    ∃ (o : Obj) (its : Array Value) (n : Nat), K.lookup a = some o /\ o.cls = .type "list" /\ o.dict = none /\ o.data = .seq its n /\ its.size <= sizeLine /\ Vals xs its.toList
noncomputable def SqT (K : PySem.W.Frag) (H : Hp) (a : Addr) (xs : List V) : Prop :=
  Rd H a (.tup xs) \/
    ∃ (o : Obj) (its : Array Value) (n : Nat), K.lookup a = some o /\ o.cls = .type "tuple" /\ (o.dict = none /\ o.slots = #[]) /\ o.data = .seq its n /\ its.size <= sizeLine /\ Vals xs its.toList
noncomputable def absV : Value -> Option V
  | .none => some .non
  | .bool b => some (.bl b)
  | .int i _ => some (.int i)
  | .str x _ => some (.str x)
  | .bytes b _ => some (.byt b)
  | .float b _ => some (.flt b)
  | .ref a => some (.ref a)
  | .type n => some (.ty n)
  | _ => none
theorem RelV.abs {x : V} {u : Value} (r : RelV x u) : absV u = some x := by
  cases x with
  | non => cases r; rfl
  | bl _ => cases r; rfl
  | int _ => obtain ⟨t, rfl⟩ := r; rfl
  | str _ => obtain ⟨t, rfl⟩ := r; rfl
  | byt _ => obtain ⟨t, rfl⟩ := r; rfl
  | flt _ => obtain ⟨t, rfl⟩ := r; rfl
  | ref _ => cases r; rfl
  | ty _ => cases r; rfl
theorem RelV.inj {x y : V} {u : Value} (r : RelV x u) (q : RelV y u) : x = y := Option.some.inj (r.abs.symm.trans q.abs)
theorem Vals.inj : ∀ {xs ys : List V} {us : List Value}, Vals xs us -> Vals ys us -> xs = ys
  | _, _, _, .nil, .nil => rfl
  | _, _, _, .cons r t, .cons r' t' => by rw [r.inj r', Vals.inj t t']
section
variable {X : Cx} {pins : List (Addr × Obj)} {σ : St} {H : Hp} {s : Shared} {a : Addr} {xs ys : List V}
theorem SqL.of {K : PySem.W.Frag} (h : H a = some (.lst xs)) : SqL K H a xs := .inl (.inl h)
theorem SqT.of {K : PySem.W.Frag} (h : H a = some (.tup xs)) : SqT K H a xs := .inl (.inl h)
theorem Inv.list (I : Inv X pins σ H s) (h : SqL X.K H a xs) : ∃ its : List Value, Vals xs its /\ PlainL s.heap a its.toArray /\ xs.length <= sizeLine := by
  rcases h with h | ⟨o, its, n, hk, hc, hd, hs, hz, r⟩
  · obtain ⟨z, its, n, r, e⟩ := h.ok I.hok
    exact ⟨its, r, ⟨_, n, e, rfl, rfl, rfl⟩, z⟩
  · refine ⟨its.toList, r, ⟨o, n, I.kIn a o hk, hc, hd, by simpa using hs⟩, ?_⟩
    have e := r.length
    simp only [Array.length_toList] at e
    lia
theorem Inv.tuple (I : Inv X pins σ H s) (h : SqT X.K H a xs) : ∃ its : List Value, Vals xs its /\ IsTup s.heap a its.toArray /\ xs.length <= sizeLine := by
  rcases h with h | ⟨o, its, n, hk, hc, _, hs, hz, r⟩
  · obtain ⟨z, its, r, p⟩ := h.ok I.hok
    exact ⟨its, r, p.tup, z⟩
  · refine ⟨its.toList, r, ⟨o, I.kIn a o hk, hc, n, by simpa using hs⟩, ?_⟩
    have e := r.length
    simp only [Array.length_toList] at e
    lia
theorem Inv.list_inj (I : Inv X pins σ H s) (h : SqL X.K H a xs) (h' : SqL X.K H a ys) : xs = ys := by
  obtain ⟨its, r, ⟨o, n, e, _, _, d⟩, _⟩ := I.list h
  obtain ⟨its', r', ⟨o', n', e', _, _, d'⟩, _⟩ := I.list h'
  rw [e] at e'; cases e'
  rw [d] at d'
  injection d' with d1 _
  have : its = its' := by simpa using congrArg Array.toList d1
  subst this
  exact r.inj r'
theorem Inv.tuple_inj (I : Inv X pins σ H s) (h : SqT X.K H a xs) (h' : SqT X.K H a ys) : xs = ys := by
  obtain ⟨its, r, ⟨o, e, _, n, d⟩, _⟩ := I.tuple h
  obtain ⟨its', r', ⟨o', e', _, n', d'⟩, _⟩ := I.tuple h'
  rw [e] at e'; cases e'
  rw [d] at d'
  injection d' with d1 _
  have : its = its' := by simpa using congrArg Array.toList d1
  subst this
  exact r.inj r'
end
noncomputable abbrev Cx.wish (X : Cx) (E : Value -> Shared -> Prop) : Cx := { X with xe := E }
noncomputable abbrev Cx.nox (X : Cx) : Cx := X.wish fun _ _ => False
theorem Cx.Ok.wish {X : Cx} (ok : X.Ok) (E : Value -> Shared -> Prop) : (X.wish E).Ok :=
  ⟨ok.mod, ok.kind, ok.glob, ok.blt, ok.above, ok.inj, ok.has, ok.cab, ok.hd, ok.frames, ok.stk, ok.exf, ok.bs, ok.bsz, ok.noex, ok.exfs, ok.funs, ok.frf⟩
theorem Cx.Ok.unwish {X : Cx} {E : Value -> Shared -> Prop} (ok : (X.wish E).Ok) : X.Ok :=
  ⟨ok.mod, ok.kind, ok.glob, ok.blt, ok.above, ok.inj, ok.has, ok.cab, ok.hd, ok.frames, ok.stk, ok.exf, ok.bs, ok.bsz, ok.noex, ok.exfs, ok.funs, ok.frf⟩
section
variable {X : Cx} {pins : List (Addr × Obj)} {σ : St} {H : Hp} {s : Shared} {E : Value -> Shared -> Prop}
theorem Inv.wish (I : Inv X pins σ H s) (E : Value -> Shared -> Prop) : Inv (X.wish E) pins σ H s := ⟨I.ok.wish E, I.os, I.bare, I.base, I.loc, I.cell, I.free, I.freeC, I.pin, I.hok, I.len⟩
theorem Inv.unwish (I : Inv (X.wish E) pins σ H s) : Inv X pins σ H s := ⟨I.ok.unwish, I.os, I.bare, I.base, I.loc, I.cell, I.free, I.freeC, I.pin, I.hok, I.len⟩
theorem SP.unwish {D : Ends} {f : Flow} {s' : Shared} (h : SP (X.wish E) pins D f s') : SP X pins D f s' := by
  cases f with
  | next => obtain ⟨σ', H', I, q⟩ := h; exact ⟨σ', H', I.unwish, q⟩
  | brk => obtain ⟨σ', H', I, q⟩ := h; exact ⟨σ', H', I.unwish, q⟩
  | cont => obtain ⟨σ', H', I, q⟩ := h; exact ⟨σ', H', I.unwish, q⟩
  | ret u => obtain ⟨v, σ', H', I, r, q⟩ := h; exact ⟨v, σ', H', I.unwish, r, q⟩
theorem PE.nox {e : Expr} {t : TE} (h : PE X.nox e t) : PE X e t := fun pins s σ H Q I hw =>
  wpAny_mono (h pins s σ H Q (I.wish _) hw) (fun _ _ ⟨v, H', I', r, q⟩ => ⟨v, H', I'.unwish, r, q⟩) fun _ _ z => False.elim z
theorem PT.nox {e : Expr} {t : TT} (h : PT X.nox e t) : PT X e t := fun pins s σ H Q I hw =>
  wpAny_mono (h pins s σ H Q (I.wish _) hw) (fun _ _ ⟨H', I', q⟩ => ⟨H', I'.unwish, q⟩) fun _ _ z => False.elim z
theorem PSs.nox {st : List Stmt} {t : TS} (h : PSs X.nox st t) : PSs X st t := fun pins s σ H D I hw =>
  wpAny_mono (h pins s σ H D (I.wish _) hw) (fun _ _ q => q.unwish) fun _ _ z => False.elim z
end
section
variable {X : Cx} {st : Stmt} {rest : List Stmt} {t u : TS} {e : Expr} {te : TE} {pos : Pos}
noncomputable def tNext : TS := fun D σ H => D.nx σ H
noncomputable def tSeq (t u : TS) : TS := fun D σ H => t { D with nx := u D } σ H
theorem pss_nil : PSs X [] tNext := fun _ _ σ H _ I h => wpAny_execs_nil ⟨σ, H, I, h⟩
theorem pss_cons (h1 : PS X st t) (h2 : PSs X rest u) : PSs X (st :: rest) (tSeq t u) := by
  intro pins s σ H D I h
  refine wpAny_execs_cons (thn (h1 pins s σ H { D with nx := u D } I h) fun f s1 q => ?_)
  cases f with
  | next =>
    obtain ⟨σ', H', I', q⟩ := q
    exact h2 pins s1 σ' H' D I' q
  | ret v => exact q
  | brk => exact q
  | cont => exact q
theorem pss_one (h1 : PS X st t) : PSs X [st] t := by
  intro pins s σ H D I h
  refine wpAny_execs_cons (thn (h1 pins s σ H D I h) fun f s1 q => ?_)
  cases f with
  | next => exact wpAny_execs_nil q
  | ret v => exact q
  | brk => exact q
  | cont => exact q
theorem Inv.quiet {pins : List (Addr × Obj)} {σ : St} {H : Hp} {s : Shared} (I : Inv X pins σ H s) : interactive X.env = false := by simp [interactive, I.ok.kind]
noncomputable def tDrop (te : TE) : TS := fun D σ H => te σ H fun _ H1 => D.nx σ H1
theorem ps_expr (he : PE X e te) (hs : autoParam (swapsWith e none pos.line X.env = pure false) L2.au3._auto_1) : PS X (.Expr e pos) (tDrop te) := by
  intro pins s σ H D I h
  exact wpAny_Expr_any (thn (he pins s σ H _ I h) fun v s1 ⟨x, H1, I1, r1, q1⟩ => ⟨σ, H1, I1, q1⟩) I.quiet hs
noncomputable def tRet (te : TE) : TS := fun D σ H => te σ H D.rt
theorem ps_ret (he : PE X e te) : PS X (.Return (some e) pos) (tRet te) := by
  intro pins s σ H D I h
  exact wpAny_Return_some (thn (he pins s σ H _ I h) fun v s1 ⟨x, H1, I1, r1, q1⟩ => ⟨x, σ, H1, I1, r1, q1⟩)
noncomputable def tIfS (c : TT) (t u : TS) : TS := fun D σ H => c σ H fun b H1 => if b = true then t D σ H1 else u D σ H1
theorem ps_if {c : Expr} {a b : List Stmt} {tc : TT} (hc : PT X c tc) (ha : PSs X a t) (hb : PSs X b u) : PS X (.If c a b pos) (tIfS tc t u) := by
  intro pins s σ H D I h
  refine wpAny_If (thn (hc pins s σ H _ I h) fun d s1 ⟨H1, I1, q1⟩ => ?_)
  cases d with
  | true => exact ha pins s1 σ H1 D I1 q1
  | false => exact hb pins s1 σ H1 D I1 q1
end
noncomputable abbrev TG := V -> St -> Hp -> (St -> Hp -> Prop) -> Prop
noncomputable abbrev TGs := List V -> St -> Hp -> (St -> Hp -> Prop) -> Prop
noncomputable def PG (X : Cx) (target : Expr) (t : TG) : Prop :=
  ∀ (pins : List (Addr × Obj)) (s : Shared) (σ : St) (H : Hp) (v : V) (u : Value) (Q : St -> Hp -> Prop), Inv X pins σ H s -> RelV v u -> t v σ H Q ->
    wpAny (model X.prog X.w) X.A (assign target X.env u) (fun _ s' => ∃ σ' H', Inv X pins σ' H' s' /\ Q σ' H') X.xe s
noncomputable def PGs (X : Cx) (ts : List Expr) (t : TGs) : Prop :=
  ∀ (pins : List (Addr × Obj)) (s : Shared) (σ : St) (H : Hp) (vs : List V) (us : List Value) (Q : St -> Hp -> Prop), Inv X pins σ H s -> Vals vs us -> t vs σ H Q ->
    wpAny (model X.prog X.w) X.A (assignInOrder ((assignEach ts X.env).map (·.2)) us) (fun _ s' => ∃ σ' H', Inv X pins σ' H' s' /\ Q σ' H') X.xe s
noncomputable abbrev TSet := V -> V -> V -> Hp -> (Hp -> Prop) -> Prop
noncomputable def PSet (X : Cx) (t : TSet) : Prop :=
  ∀ (pins : List (Addr × Obj)) (s : Shared) (σ : St) (H : Hp) (o i v : V) (ov iv u : Value) (Q : Hp -> Prop), Inv X pins σ H s -> RelV o ov -> RelV i iv -> RelV v u -> t o i v H Q ->
    wpAny (model X.prog X.w) X.A (setItem ov iv u) (fun _ s' => ∃ H', Inv X pins σ H' s' /\ Q H') X.xe s
noncomputable abbrev TIp := V -> V -> Hp -> VK -> Prop
noncomputable def PIp (X : Cx) (op : Operator) (t : TIp) : Prop :=
  ∀ (pins : List (Addr × Obj)) (s : Shared) (σ : St) (H : Hp) (x y : V) (v u : Value) (Q : VK), Inv X pins σ H s -> RelV x v -> RelV y u -> t x y H Q ->
    wpAny (model X.prog X.w) X.A (inplaceOp op v u) (EP X pins σ Q) X.xe s
section
variable {X : Cx} {pos : Pos}
noncomputable def gName (i : Nat) : TG := fun v σ H Q => Q (σ.set i (some v)) H
theorem pg_name {i : Nat} {x : Str} (hN : X.N.Nodup) (hi : X.N[i]? = some x) (hx : Loc X.env.scope x) (hf : autoParam (X.fn x = true \/ X.env.scope.names.lookup x = some .local) L2.au0._auto_1) : PG X (.Name x pos) (gName i) := by
  intro pins s σ H v u Q I r h
  exact wpAny_assign_Name (store_ok I hN hi hx r (fun s' I' => ⟨_, H, I', h⟩) hf)
noncomputable def gNil : TGs := fun vs σ H Q => vs = [] /\ Q σ H
noncomputable def gCons (t : TG) (u : TGs) : TGs := fun vs σ H Q => ∃ v r, vs = v :: r /\ t v σ H fun σ' H' => u r σ' H' Q
theorem pgs_nil : PGs X [] gNil := by
  intro pins s σ H vs us Q I r h
  obtain ⟨e, h⟩ := h
  subst e
  cases r
  exact assignInOrder_nil ⟨σ, H, I, h⟩
theorem pgs_cons {e : Expr} {es : List Expr} {t : TG} {u : TGs} (h1 : PG X e t) (h2 : PGs X es u)
    (hs : autoParam ((assignEach (e :: es) X.env).map (·.2) = assign e X.env :: (assignEach es X.env).map (·.2)) L2.au3._auto_1) : PGs X (e :: es) (gCons t u) := by
  intro pins s σ H vs us Q I r h
  obtain ⟨v, vr, e1, h⟩ := h
  subst e1
  cases r with
  | cons r rr =>
    rw [hs]
    refine assignInOrder_cons (thn (h1 pins s σ H _ _ _ I r h) fun _ s1 ⟨σ1, H1, I1, q1⟩ => ?_)
    exact h2 pins s1 σ1 H1 _ _ Q I1 rr q1
noncomputable def gTup (K : PySem.W.Frag) (n : Nat) (t : TGs) : TG := fun v σ H Q => ∃ a xs, v = .ref a /\ SqT K H a xs /\ xs.length = n /\ t xs σ H Q
theorem pg_tup {es : List Expr} {k : Nat} {t : TGs} {n : Nat} (hc : X.calm = true) (h : PGs X es t)
    (hn : autoParam ((assignEach es X.env).length = n) L2.au3._auto_1) (hst : autoParam ((assignEach es X.env).findIdx? (·.1) = none) L2.au3._auto_1) : PG X (.Tuple es k pos) (gTup X.K n t) := by
  intro pins s σ H v u Q I r hw
  obtain ⟨a, xs, e1, hq, hl, hw⟩ := hw
  subst e1
  cases r
  obtain ⟨its, rv, ht, hz⟩ := I.tuple hq
  refine assign_Tuple_tuple (I.ok.hd hc) ht (by simp [hn, <- hl, rv.length]) hst fun h' hx => ?_
  have I1 : Inv X pins σ H { s with heap := h' } := I.kept (t' := s.toks) fun b o e => hx b o (Nat.ne_of_lt (Heap.lt_size e)) e
  exact h pins _ σ H xs _ Q I1 (by simpa using rv) hw
noncomputable def gSub (to ti : TE) (t : TSet) : TG := fun v σ H Q => to σ H fun o H1 => ti σ H1 fun i H2 => t o i v H2 fun H3 => Q σ H3
theorem pg_sub {o i : Expr} {to ti : TE} {t : TSet} (ho : PE X o to) (hi : PE X i ti) (hs : PSet X t)
    (ha : autoParam (∀ v, assign (.Subscript o i pos) X.env v = (do
      let ov <- holding [v] (eval o X.env)
      let iv <- holding [v, ov] (eval i X.env)
      standAt pos
      holding [v, ov, iv] (setItem ov iv v)
      release [v, ov, iv] [])) L2.au2._auto_1) : PG X (.Subscript o i pos) (gSub to ti t) := by
  intro pins s σ H v u Q I r h
  rw [ha]
  refine wpAny_bind (wpAny_holding (thn (ho pins s σ H _ I h) fun ov s1 ⟨x, H1, I1, r1, q1⟩ => ?_))
  refine wpAny_bind (wpAny_holding (thn (hi pins s1 σ H1 _ I1 q1) fun iv s2 ⟨y, H2, I2, r2, q2⟩ => ?_))
  refine wpAny_bind (wpAny_standAt (wpAny_bind (wpAny_holding (thn (hs pins s2 σ H2 x y v ov iv u _ I2 r1 r2 r q2) fun _ s3 ⟨H3, I3, q3⟩ => ?_))))
  exact wpAny_release ⟨σ, H3, I3, q3⟩
noncomputable def tAsg (te : TE) (g : TG) : TS := fun D σ H => te σ H fun x H1 => g x σ H1 D.nx
theorem ps_asg {tg e : Expr} {te : TE} {g : TG} (he : PE X e te) (hg : PG X tg g) (hs : autoParam (swapsWithSole [tg] e pos.line X.env = pure false) L2.au3._auto_1) (hw : autoParam (swappedStores [tg] e X.env = pure none) L2.au3._auto_1)
    (h1 : autoParam ((assignEach [tg] X.env).map (·.2) = [assign tg X.env]) L2.au3._auto_1) : PS X (.Assign [tg] e pos) (tAsg te g) := by
  intro pins s σ H D I h
  refine wpAny_Assign_stores (thn (he pins s σ H _ I h) fun v s1 ⟨x, H1, I1, r1, q1⟩ => ?_) hs hw
  rw [h1]
  exact thn (hg pins s1 σ H1 x v _ I1 r1 q1) fun _ s2 q => q
theorem ps_set {i : Nat} {x : Str} {e : Expr} {te : TE} {pos' : Pos} (hN : X.N.Nodup) (hi : X.N[i]? = some x) (hx : Loc X.env.scope x) (he : PE X e te) (hs : autoParam (swapsWith e (some (.Name x pos')) pos.line X.env = pure false) L2.au3._auto_1) (hf : autoParam (X.fn x = true \/ X.env.scope.names.lookup x = some .local) L2.au0._auto_1) :
    PS X (.Assign [.Name x pos'] e pos) (tAsg te (gName i)) := by
  intro pins s σ H D I h
  refine wpAny_Assign_Name (thn (he pins s σ H _ I h) fun v s1 ⟨y, H1, I1, r1, q1⟩ => ?_) hs
  exact store_ok I1 hN hi hx r1 (fun s2 I2 => ⟨_, H1, I2, q1⟩) hf
end
section
variable {X : Cx} {pos : Pos}
end
structure It where
  go : Nat -> Hp -> Prop
  yld : Nat -> Hp -> V -> Hp -> Prop
  stop : Nat -> Hp -> Prop
noncomputable def FpOk (X : Cx) (pins : List (Addr × Obj)) (H : Hp) (b : Addr) : Prop :=
  H b = none /\ b ≠ X.env.locals /\ b ∉ X.fs /\ (b ∈ X.ex \/ X.s₀.heap.objs.size <= b) /\ (∀ x c, X.env.cells.lookup x = some c -> c ≠ b) /\ ∀ p ∈ X.pn ++ pins, p.1 ≠ b
theorem Inv.fpOk {X : Cx} {pins : List (Addr × Obj)} {σ : St} {H H' : Hp} {s : Shared} {b : Addr} (I : Inv X pins σ H s) (hb : s.heap.objs.size <= b) (hn : H' b = none) : FpOk X pins H' b := by
  refine ⟨hn, Nat.ne_of_gt (Nat.lt_of_lt_of_le I.lt hb), I.nofs hb, .inr (Nat.le_trans I.sz hb), fun x c e z => ?_, fun p hp z => ?_⟩
  · obtain ⟨v, q⟩ := I.cell x c e
    exact absurd (Nat.lt_of_lt_of_le q.lt (by rw [z]; exact hb)) (Nat.lt_irrefl _)
  · exact absurd (Nat.lt_of_lt_of_le (Heap.lt_size (I.pin p hp).1) (by rw [z]; exact hb)) (Nat.lt_irrefl _)
structure Turn (P : Program) (w : World) (K : PySem.W.Frag) (tg : Expr) (J : It) (fp : List Addr) (it : Addr) (tn : Nat -> Heap -> Prop) : Prop where
  mem : it ∈ fp
  obj : ∀ i h, tn i h -> ∀ b ∈ fp, ∃ o, h.get? b = some o /\ ∀ v, o.data ≠ .cell v
  keep : ∀ i h h', tn i h -> (∀ b ∈ fp, ∀ o, h.get? b = some o -> h'.get? b = some o) -> tn i h'
  item : ∀ (X : Cx), X.prog = P -> X.w = w -> X.K = K -> X.calm = true -> ∀ (i : Nat) (pins : List (Addr × Obj)) (s : Shared) (σ : St) (H : Hp) (E : Value -> Shared -> Prop), Inv X pins σ H s -> (∀ b ∈ fp, FpOk X pins H b) -> tn i s.heap -> J.go i H ->
    wpAny (model P w) X.A (pyNext (.ref it)) (fun r s1 => ∃ u, r = some u /\
      wpAny (model P w) X.A (letOwnedTupleGo tg (.ref it) u) (fun _ s2 => ∃ x H', Inv X pins σ H' s2 /\ RelV x u /\ J.yld i H x H' /\ tn (i + 1) s2.heap /\ ∀ b ∈ fp, H' b = none) E s1) E s
  done : ∀ (X : Cx), X.prog = P -> X.w = w -> X.K = K -> X.calm = true -> ∀ (i : Nat) (pins : List (Addr × Obj)) (s : Shared) (σ : St) (H : Hp) (E : Value -> Shared -> Prop), Inv X pins σ H s -> (∀ b ∈ fp, FpOk X pins H b) -> tn i s.heap -> J.stop i H ->
    wpAny (model P w) X.A (pyNext (.ref it)) (fun r s1 => r = none /\ Inv X pins σ H s1) E s
  self : ∀ (A : Around) (i : Nat) (s : Shared) (Q : Value -> Shared -> Prop) (E : Value -> Shared -> Prop), tn i s.heap -> Q (.ref it) s -> wpAny (model P w) A (pyIter (.ref it)) Q E s
noncomputable abbrev TI := St -> Hp -> (It -> Hp -> Prop) -> Prop
noncomputable def PIE (X : Cx) (pins : List (Addr × Obj)) (σ : St) (tg : Expr) (R : It -> Hp -> Prop) (itv : Value) (s2 : Shared) : Prop :=
  ∃ (it : Addr) (fp : List Addr) (tn : Nat -> Heap -> Prop) (J : It) (H' : Hp), itv = .ref it /\ Inv X pins σ H' s2 /\ Turn X.prog X.w X.K tg J fp it tn /\ tn 0 s2.heap /\ (∀ b ∈ fp, FpOk X pins H' b) /\ R J H'
noncomputable def PI (X : Cx) (tg iter : Expr) (wi : TI) : Prop :=
  ∀ (pins : List (Addr × Obj)) (s : Shared) (σ : St) (H : Hp) (R : It -> Hp -> Prop), Inv X pins σ H s -> wi σ H R ->
    wpAny (model X.prog X.w) X.A (eval iter X.env) (fun v s1 => wpAny (model X.prog X.w) X.A (pyIter v) (PIE X pins σ tg R) X.xe s1) X.xe s
theorem go_of {M : Model} {A : Around} {E : Value -> Shared -> Prop} {s : Shared} {tg : Expr} {it : Addr} {u : Value} {o : Obj} {n : String} {vs : Array Value} {Q : Unit -> Shared -> Prop} (ho : s.heap.get? it = some o) (hc : o.cls = .type n) (hd : o.data = .fields vs)
    (hn : ["enumerate", "zip", "dict_itemiterator", "dict_reverseitemiterator", "odict_iterator", "itertools.zip_longest", "itertools.pairwise"].contains n = false) (hQ : Q () s) : wpAny M A (letOwnedTupleGo tg (.ref it) u) Q E s := by
  unfold letOwnedTupleGo
  cases tg <;> first
    | exact wpAny_pure hQ
    | (cases u <;> first
        | exact wpAny_pure hQ
        | (refine wpAny_bind (wpAny_load ho ?_)
           rw [hc, hd]
           show wpAny M A (if (["enumerate", "zip", "dict_itemiterator", "dict_reverseitemiterator", "odict_iterator", "itertools.zip_longest", "itertools.pairwise"].contains n && vs[0]? == some (rawInt _)) = true then _ else _) Q E s
           rw [if_neg (by intro h; rw [hn, Bool.false_and] at h; cases h)]
           exact wpAny_pure hQ))
noncomputable def Itl (K : PySem.W.Frag) (a : Addr) : It :=
  ⟨fun i H => ∃ xs x, SqL K H a xs /\ xs[i]? = some x, fun i H x H' => H' = H /\ ∀ xs, SqL K H a xs -> xs[i]? = some x, fun i H => ∃ xs, SqL K H a xs /\ xs.length <= i⟩
noncomputable def Itt (K : PySem.W.Frag) (a : Addr) : It :=
  ⟨fun i H => ∃ xs x, SqT K H a xs /\ xs[i]? = some x, fun i H x H' => H' = H /\ ∀ xs, SqT K H a xs -> xs[i]? = some x, fun i H => ∃ xs, SqT K H a xs /\ xs.length <= i⟩
noncomputable def Itr (lo : Int) (n : Nat) : It := ⟨fun i _ => i < n, fun i H x H' => H' = H /\ x = .int (lo + i), fun i _ => n <= i⟩
theorem turn_list {P : Program} {w : World} {K : PySem.W.Frag} {tg : Expr} (a it : Addr) : Turn P w K tg (Itl K a) [it] it (fun i h => h.IsListIter it a i) where
  mem := by simp
  obj := fun i h st b hb => by
    have e : b = it := by simpa using hb
    subst e
    obtain ⟨o, e, c, d⟩ := st
    exact ⟨o, e, fun v z => by rw [d] at z; cases z⟩
  keep := fun i h h' st k => st.at fun o e => k it (by simp) o e
  item := by
    intro X hP hw hK hc i pins s σ H E I hf st hg
    subst hP hw hK
    obtain ⟨xs, x, hq, hx⟩ := hg
    obtain ⟨its, rv, p, hz⟩ := I.list hq
    obtain ⟨u, hu, ru⟩ := rv.get hx
    obtain ⟨f0, f1, f2, f3, f4, f5⟩ := hf it (by simp)
    refine wpAny_pyNext_list_item st p.isList (x := u) (by simpa using hu) fun h' st' sb => ?_
    have I1 : Inv X pins σ H { s with heap := h' } := I.turned (t' := s.toks) (fun b o hb e => (sb.2 b hb).trans e) f0 f1 f3 f4 f5
    obtain ⟨o, e, c, d⟩ := id st'
    exact ⟨u, rfl, go_of (s := { s with heap := h' }) e c d (by decide) ⟨x, H, I1, ru, ⟨rfl, fun ys hy => by rw [I.list_inj hy hq]; exact hx⟩, st', fun b hb => (hf b hb).1⟩⟩
  done := by
    intro X hP hw hK hc i pins s σ H E I hf st hg
    subst hP hw hK
    obtain ⟨xs, hq, hx⟩ := hg
    obtain ⟨its, rv, p, hz⟩ := I.list hq
    obtain ⟨f0, f1, f2, f3, f4, f5⟩ := hf it (by simp)
    have hl := rv.length
    exact wpAny_pyNext_list_end (I.ok.hd hc) st p.isList (by simp; lia) fun h' eb => ⟨rfl, I.turned (t' := s.toks) (fun b o hb e => eb b o hb e) f0 f1 f3 f4 f5⟩
  self := fun _ _ _ _ _ st h => wpAny_pyIter_listiter st h
theorem turn_tuple {P : Program} {w : World} {K : PySem.W.Frag} {tg : Expr} (a it : Addr) : Turn P w K tg (Itt K a) [it] it (fun i h => h.IsTupleIter it a i) where
  mem := by simp
  obj := fun i h st b hb => by
    have e : b = it := by simpa using hb
    subst e
    obtain ⟨o, e, c, d⟩ := st
    exact ⟨o, e, fun v z => by rw [d] at z; cases z⟩
  keep := fun i h h' st k => st.at fun o e => k it (by simp) o e
  item := by
    intro X hP hw hK hc i pins s σ H E I hf st hg
    subst hP hw hK
    obtain ⟨xs, x, hq, hx⟩ := hg
    obtain ⟨its, rv, p, hz⟩ := I.tuple hq
    obtain ⟨u, hu, ru⟩ := rv.get hx
    obtain ⟨f0, f1, f2, f3, f4, f5⟩ := hf it (by simp)
    refine wpAny_pyNext_tuple_item st (show s.heap.IsTuple a its.toArray from p) (x := u) (by simpa using hu) fun h' st' sb => ?_
    have I1 : Inv X pins σ H { s with heap := h' } := I.turned (t' := s.toks) (fun b o hb e => (sb.2 b hb).trans e) f0 f1 f3 f4 f5
    obtain ⟨o, e, c, d⟩ := id st'
    exact ⟨u, rfl, go_of (s := { s with heap := h' }) e c d (by decide) ⟨x, H, I1, ru, ⟨rfl, fun ys hy => by rw [I.tuple_inj hy hq]; exact hx⟩, st', fun b hb => (hf b hb).1⟩⟩
  done := by
    intro X hP hw hK hc i pins s σ H E I hf st hg
    subst hP hw hK
    obtain ⟨xs, hq, hx⟩ := hg
    obtain ⟨its, rv, p, hz⟩ := I.tuple hq
    obtain ⟨f0, f1, f2, f3, f4, f5⟩ := hf it (by simp)
    have hl := rv.length
    exact wpAny_pyNext_tuple_end (I.ok.hd hc) st (show s.heap.IsTuple a its.toArray from p) (by simp; lia) fun h' eb => ⟨rfl, I.turned (t' := s.toks) (fun b o hb e => eb b o hb e) f0 f1 f3 f4 f5⟩
  self := fun _ _ _ _ _ st h => wpAny_pyIter_tupleiter st h
theorem turn_range {P : Program} {w : World} {K : PySem.W.Frag} {tg : Expr} (it : Addr) (lo : Int) (n : Nat) : Turn P w K tg (Itr lo n) [it] it (fun i h => IsRangeIter h it (lo + (i : Nat) * 1) ((n : Int) - (i : Nat)) 1) where
  mem := by simp
  obj := fun i h st b hb => by
    have e : b = it := by simpa using hb
    subst e
    exact ⟨_, st, fun v z => by
      have z' : Data.fields _ = Data.cell v := z
      cases z'⟩
  keep := fun i h h' st k => k it (by simp) _ st
  item := by
    intro X hP hw hK hc i pins s σ H E I hf st hg
    subst hP hw hK
    obtain ⟨f0, f1, f2, f3, f4, f5⟩ := hf it (by simp)
    have W := Walks.range (prog := X.prog) (w := X.w) (I.ok.hd hc) it lo 1 n
    refine W.item i s _ _ hg st fun v h' tk hv st' kk => ?_
    obtain ⟨t, rfl⟩ := hv
    have I1 : Inv X pins σ H { s with heap := h', toks := tk } := I.turned (fun b o hb e => kk b o (by simpa using hb) e) f0 f1 f3 f4 f5
    refine ⟨_, rfl, go_of (s := { s with heap := h', toks := tk }) (n := "range_iterator") st' rfl rfl (by decide) ⟨.int (lo + i), H, I1, ⟨t, ?_⟩, ⟨rfl, rfl⟩, st', fun b hb => (hf b hb).1⟩⟩
    rw [Int.mul_one]
  done := by
    intro X hP hw hK hc i pins s σ H E I hf st hg
    subst hP hw hK
    obtain ⟨f0, f1, f2, f3, f4, f5⟩ := hf it (by simp)
    exact wpAny_pyNext_range_end (I.ok.hd hc) st (by have : n <= i := hg; lia) fun h' eb => ⟨rfl, I.turned (t' := s.toks) (fun b o hb e => eb b o hb e) f0 f1 f3 f4 f5⟩
  self := fun _ _ _ _ _ st h => wpAny_pyIter_rangeiter st h
end L2
namespace L2
open PySem PySem.Spec PyProof.Rows
section
variable {X : Cx} {tg : Expr}
noncomputable def iList (K : PySem.W.Frag) (tl : TE) : TI := fun σ H R => tl σ H fun x H1 => ∃ a, x = .ref a /\ (∃ xs, SqL K H1 a xs) /\ R (Itl K a) H1
noncomputable def iTup (K : PySem.W.Frag) (tl : TE) : TI := fun σ H R => tl σ H fun x H1 => ∃ a, x = .ref a /\ (∃ xs, SqT K H1 a xs) /\ R (Itt K a) H1
theorem pi_list {l : Expr} {tl : TE} (hl : PE X l tl) : PI X tg l (iList X.K tl) := by
  intro pins s σ H R I h
  refine thn (hl pins s σ H _ I h) fun v s1 ⟨x, H1, I1, r1, q1⟩ => ?_
  obtain ⟨a, e, ⟨xs, hq⟩, q⟩ := q1
  subst e
  cases r1
  obtain ⟨its, rv, p, hz⟩ := I1.list hq
  refine wpAny_pyIter_list p.isList ?_
  refine ⟨s1.heap.objs.size, [s1.heap.objs.size], _, _, H1, rfl, I1.kept (t' := s1.toks) fun b o e => Heap.get?_push_of_some _ e, turn_list a _, ⟨_, Heap.get?_push_size _ rfl, rfl, rfl⟩, fun b hb => ?_, q⟩
  have e : b = s1.heap.objs.size := by simpa using hb
  subst e
  exact I1.fpOk (Nat.le_refl _) (I1.hok.fresh (Nat.le_refl _))
theorem pi_tup {l : Expr} {tl : TE} (hl : PE X l tl) : PI X tg l (iTup X.K tl) := by
  intro pins s σ H R I h
  refine thn (hl pins s σ H _ I h) fun v s1 ⟨x, H1, I1, r1, q1⟩ => ?_
  obtain ⟨a, e, ⟨xs, hq⟩, q⟩ := q1
  subst e
  cases r1
  obtain ⟨its, rv, p, hz⟩ := I1.tuple hq
  refine wpAny_pyIter_tuple (show s1.heap.IsTuple a its.toArray from p) ?_
  refine ⟨s1.heap.objs.size, [s1.heap.objs.size], _, _, H1, rfl, I1.kept (t' := s1.toks) fun b o e => Heap.get?_push_of_some _ e, turn_tuple a _, ⟨_, Heap.get?_push_size _ rfl, rfl, rfl⟩, fun b hb => ?_, q⟩
  have e : b = s1.heap.objs.size := by simpa using hb
  subst e
  exact I1.fpOk (Nat.le_refl _) (I1.hok.fresh (Nat.le_refl _))
theorem range_it {pins : List (Addr × Obj)} {σ : St} {H : Hp} {s : Shared} {R : It -> Hp -> Prop} {E : Value -> Shared -> Prop} {lo hi : Int} {t u v : Tok} {tk : Nat} (I : Inv X pins σ H s) (h1 : -(2 ^ 62) <= lo) (h2 : lo < 2 ^ 62) (h3 : -(2 ^ 62) <= hi) (h4 : hi < 2 ^ 62)
    (q : R (Itr lo (hi - lo).toNat) H) : wpAny (model X.prog X.w) X.A (pyIter (.ref s.heap.objs.size)) (PIE X pins σ tg R) E { s with heap := s.heap.push { cls := .type "range", data := .fields #[.int lo t, .int hi u, .int 1 v] }, toks := tk } := by
  refine wpAny_pyIter_range (IsRange.new ..) (small_one h1 h2 h3 h4) ?_
  have I1 : Inv X pins σ H { s with heap := s.heap.push { cls := .type "range", data := .fields #[.int lo t, .int hi u, .int 1 v] }, toks := tk } := I.kept fun b o e => Heap.get?_push_of_some _ e
  refine ⟨(s.heap.push { cls := .type "range", data := .fields #[.int lo t, .int hi u, .int 1 v] }).objs.size, [(s.heap.push { cls := .type "range", data := .fields #[.int lo t, .int hi u, .int 1 v] }).objs.size], _, _, H, rfl,
    I1.kept (t' := tk) fun b o e => Heap.get?_push_of_some _ e, turn_range _ lo (hi - lo).toNat, ?_, fun b hb => ?_, q⟩
  · have e1 : lo + ((0 : Nat) : Int) * 1 = lo := by simp
    have e2 : (((hi - lo).toNat : Nat) : Int) - ((0 : Nat) : Int) = Builtin.Range.rangeSize lo hi 1 := by rw [rangeSize_one]; split <;> lia
    show IsRangeIter _ _ (lo + ((0 : Nat) : Int) * 1) ((((hi - lo).toNat : Nat) : Int) - ((0 : Nat) : Int)) 1
    rw [e1, e2]
    exact Heap.get?_push_size _ rfl
  · have e : b = (s.heap.push { cls := .type "range", data := .fields #[.int lo t, .int hi u, .int 1 v] }).objs.size := by simpa using hb
    subst e
    exact I1.fpOk (Nat.le_refl _) (I1.hok.fresh (Nat.le_refl _))
noncomputable def iRng1 (ta : TA) : TI := fun σ H R => ta σ H fun vs H1 => ∃ j : Int, vs = [.int j] /\ -(2 ^ 62) <= j /\ j < 2 ^ 62 /\ R (Itr 0 j.toNat) H1
theorem pi_range1 {a : Expr} {ta : TA} {p pos : Pos} (hg : Gl X "range") (hm : X.mg "range" = none) (ha : PA X [a] ta) (hs : autoParam (starEach [a] X.env = [(false, eval a X.env)]) L2.au3._auto_1) : PI X tg (.Call (.Name "range" p) [a] [] pos) (iRng1 ta) := by
  intro pins s σ H R I h
  refine Call_ (ld_blt I hg hm boot_range (PyProof.Rows.callWith_type1 (thn (ha pos pins s σ H _ I h) fun us s1 ⟨vs, H1, I1, r1, q1⟩ => ?_) hs rfl))
  obtain ⟨j, e, q1, q2, q⟩ := q1
  subst e
  cases r1 with
  | cons r rr =>
    cases rr
    obtain ⟨t, rfl⟩ := r
    exact call_range_1 (range_it I1 (by lia) (by lia) q1 q2 (by simpa using q))
noncomputable def tFor (wi : TI) (g : TG) (tb : TS) : TS := fun D σ H => wi σ H fun J H1 => ∃ W : Nat -> Nat -> St -> Hp -> Prop, (∃ m, W 0 m σ H1) /\ ∀ i m σ H, W i m σ H ->
  (J.stop i H /\ D.nx σ H) \/ (J.go i H /\ ∃ N : St -> Hp -> Prop, (∀ σ' H', N σ' H' -> ∃ m', m' < m /\ W (i + 1) m' σ' H') /\ ∀ x H', J.yld i H x H' -> g x σ H' fun σ2 H2 => tb { D with nx := N, ct := N, bk := D.nx } σ2 H2)
noncomputable def pinsAt (fp : List Addr) (h : Heap) : List (Addr × Obj) := fp.filterMap fun b => (h.get? b).map fun o => (b, o)
theorem mem_pinsAt {fp : List Addr} {h : Heap} {b : Addr} {o : Obj} (hb : b ∈ fp) (e : h.get? b = some o) : (b, o) ∈ pinsAt fp h := List.mem_filterMap.mpr ⟨b, hb, by rw [e]; rfl⟩
theorem of_pinsAt {fp : List Addr} {h : Heap} {p : Addr × Obj} (hp : p ∈ pinsAt fp h) : p.1 ∈ fp /\ h.get? p.1 = some p.2 := by
  obtain ⟨b, hb, e⟩ := List.mem_filterMap.mp hp
  cases q : h.get? b with
  | none => rw [q] at e; cases e
  | some o =>
    rw [q] at e
    have e' : (b, o) = p := Option.some.inj e
    subst e'
    exact ⟨hb, q⟩
theorem Inv.pinned {pins : List (Addr × Obj)} {σ : St} {H : Hp} {s : Shared} {fp : List Addr} (I : Inv X pins σ H s) (hf : ∀ b ∈ fp, FpOk X pins H b) (ho : ∀ b ∈ fp, ∃ o, s.heap.get? b = some o /\ ∀ v, o.data ≠ .cell v) : Inv X (pins ++ pinsAt fp s.heap) σ H s :=
  I.pins_of fun p hp => (List.mem_append.mp hp).elim (fun z => I.pin p (List.mem_append_right _ z)) fun z => by
    obtain ⟨hb, e⟩ := of_pinsAt z
    obtain ⟨f0, f1, f2, _⟩ := hf p.1 hb
    obtain ⟨o, e', d⟩ := ho p.1 hb
    rw [e] at e'; cases e'
    exact ⟨e, f0, f1, f2, d⟩
theorem Inv.unpinned {pins pl : List (Addr × Obj)} {σ : St} {H : Hp} {s : Shared} (I : Inv X (pins ++ pl) σ H s) : Inv X pins σ H s := I.pins_of fun p hp => I.pin p (List.mem_append_right _ (List.mem_append_left _ hp))
theorem ps_for {iter : Expr} {body : List Stmt} {wi : TI} {g : TG} {tb : TS} {pos : Pos} (hp : PassesOwn (model X.prog X.w) X.A X.env X.xe) (hc : X.calm = true) (hi : PI X tg iter wi) (hg : PG X tg g) (hb : PSs X body tb)
    (hs : autoParam (∀ x, foldedSetIterable iter X.env x = pure x) L2.au2._auto_1) : PS X (.For tg iter body [] pos) (tFor wi g tb) := by
  intro pins s σ H D I h
  refine wpAny_For (thn (hi pins s σ H _ I h) fun v s1 h1 => thn h1 fun itv s2 h2 => ?_) hs
  obtain ⟨it, fp, tn, J, H2, e, I2, T, st2, f2, W, ⟨m0, w0⟩, turn⟩ := h2
  subst e
  have stat : ∀ {H' : Hp}, (∀ b ∈ fp, H' b = none) -> ∀ b ∈ fp, FpOk X pins H' b := fun hn b hb => ⟨hn b hb, (f2 b hb).2⟩
  refine codeAny_forLoop_any (fun n s' => ∃ i σ' H', Inv X pins σ' H' s' /\ tn i s'.heap /\ (∀ b ∈ fp, H' b = none) /\ W i n σ' H') ?_ m0 ⟨0, σ, H2, I2, st2, fun b hb => (f2 b hb).1, w0⟩
  rintro n s3 ⟨i, σ3, H3, I3, st3, fr3, w3⟩
  rcases turn i n σ3 H3 w3 with ⟨stop, qn⟩ | ⟨go, N, hN, step⟩
  · refine wpAny_passesOwn hp (thn (T.done X rfl rfl rfl hc i pins s3 σ3 H3 X.xe I3 (stat fr3) st3 stop) fun r s4 ⟨hr, I4⟩ => ?_)
    subst hr
    exact wpAny_execs_nil ⟨σ3, H3, I4, qn⟩
  · refine wpAny_passesOwn hp (thn (T.item X rfl rfl rfl hc i pins s3 σ3 H3 X.xe I3 (stat fr3) st3 go) fun r s4 ⟨u, hr, h4⟩ => ?_)
    subst hr
    refine wpAny_passesOwn hp (thn h4 fun _ s5 ⟨x, H5, I5, r5, y5, st5, fr5⟩ => ?_)
    have I5' := I5.pinned (stat fr5) (T.obj _ _ st5)
    refine wpAny_passesOwn hp (thn (hg _ s5 σ3 H5 x u _ I5' r5 (step x H5 y5)) fun _ s6 ⟨σ6, H6, I6, q6⟩ => ?_)
    refine wpAny_passesOwn hp (thn (hb _ s6 σ6 H6 _ I6 q6) fun f s7 q7 => ?_)
    have again : ∀ {σ7 : St} {H7 : Hp}, Inv X (pins ++ pinsAt fp s5.heap) σ7 H7 s7 -> N σ7 H7 -> ∃ m, m < n /\ ∃ i σ' H', Inv X pins σ' H' s7 /\ tn i s7.heap /\ (∀ b ∈ fp, H' b = none) /\ W i m σ' H' := fun {σ7 H7} I7 n7 => by
      obtain ⟨m', hm, w7⟩ := hN σ7 H7 n7
      refine ⟨m', hm, i + 1, σ7, H7, I7.unpinned, T.keep _ _ _ st5 fun b hb o e => (I7.pin (b, o) (List.mem_append_right _ (List.mem_append_right _ (mem_pinsAt hb e)))).1, fun b hb => ?_, w7⟩
      obtain ⟨o, e, d⟩ := T.obj _ _ st5 b hb
      exact (I7.pin (b, o) (List.mem_append_right _ (List.mem_append_right _ (mem_pinsAt hb e)))).2.1
    cases f with
    | next => obtain ⟨σ7, H7, I7, n7⟩ := q7; exact again I7 n7
    | cont => obtain ⟨σ7, H7, I7, n7⟩ := q7; exact again I7 n7
    | brk => obtain ⟨σ7, H7, I7, q7⟩ := q7; exact ⟨σ7, H7, I7.unpinned, q7⟩
    | ret v => obtain ⟨x7, σ7, H7, I7, r7, q7⟩ := q7; exact ⟨x7, σ7, H7, I7.unpinned, r7, q7⟩
end
end L2
namespace L2
open PySem PySem.Spec PyProof.Rows
noncomputable abbrev R2 := V -> V -> Hp -> VK -> Prop
noncomputable def OpR (X : Cx) (f : Value -> Value -> Sem Value) (r : R2) : Prop :=
  ∀ (pins : List (Addr × Obj)) (s : Shared) (σ : St) (H : Hp) (x y : V) (v u : Value) (Q : VK), Inv X pins σ H s -> RelV x v -> RelV y u -> r x y H Q ->
    wpAny (model X.prog X.w) X.A (f v u) (EP X pins σ Q) X.xe s
noncomputable def UnR (X : Cx) (f : Value -> Sem Value) (r : V -> Hp -> VK -> Prop) : Prop :=
  ∀ (pins : List (Addr × Obj)) (s : Shared) (σ : St) (H : Hp) (x : V) (v : Value) (Q : VK), Inv X pins σ H s -> RelV x v -> r x H Q ->
    wpAny (model X.prog X.w) X.A (f v) (EP X pins σ Q) X.xe s
noncomputable def CallR (X : Cx) (f : Value) (r : List V -> Hp -> VK -> Prop) : Prop :=
  ∀ (pins : List (Addr × Obj)) (s : Shared) (σ : St) (H : Hp) (xs : List V) (us : List Value) (Q : VK), Inv X pins σ H s -> Vals xs us -> r xs H Q ->
    wpAny (model X.prog X.w) X.A (call f us) (EP X pins σ Q) X.xe s
noncomputable def tOp (r : R2) (ta tb : TE) : TE := fun σ H Q => ta σ H fun x H1 => tb σ H1 fun y H2 => r x y H2 Q
noncomputable def tUn (r : V -> Hp -> VK -> Prop) (ta : TE) : TE := fun σ H Q => ta σ H fun x H1 => r x H1 Q
noncomputable def rI (C : Int -> Int -> Prop) (g : Int -> Int -> V) : R2 := fun x y H Q => ∃ i j, x = .int i /\ y = .int j /\ C i j /\ Q (g i j) H
noncomputable def rI0 (g : Int -> Int -> V) : R2 := fun x y H Q => ∃ i j, x = .int i /\ y = .int j /\ Q (g i j) H
noncomputable def rU (g : Int -> V) : V -> Hp -> VK -> Prop := fun x H Q => ∃ i, x = .int i /\ Q (g i) H
section
variable {X : Cx} {a b c : Expr} {ta tb tc : TE} {pos : Pos}
theorem binT (ha : PE X a ta) (hb : PE X b tb) {pins : List (Addr × Obj)} {s : Shared} {σ : St} {H : Hp} {R : V -> V -> Hp -> Prop} (I : Inv X pins σ H s)
    (h : ta σ H fun x H1 => tb σ H1 fun y H2 => R x y H2) {Q : Value -> Shared -> Prop} {f : Value -> Value -> Sem Value}
    (hf : ∀ v u s2 x y H2, Inv X pins σ H2 s2 -> RelV x v -> RelV y u -> R x y H2 -> wpAny (model X.prog X.w) X.A (f v u) Q X.xe s2) :
    wpAny (model X.prog X.w) X.A (eval a X.env) (fun v s₁ => wpAny (model X.prog X.w) X.A (eval b X.env) (fun u s₂ => wpAny (model X.prog X.w) X.A (f v u) Q X.xe s₂) X.xe s₁) X.xe s := by
  refine thn (ha pins s σ H _ I h) fun v s1 ⟨x, H1, I1, r1, q1⟩ => ?_
  refine thn (hb pins s1 σ H1 _ I1 q1) fun u s2 ⟨y, H2, I2, r2, q2⟩ => ?_
  exact hf v u s2 x y H2 I2 r1 r2 q2
theorem pe_op {op : Operator} {r : R2} (ho : OpR X (binaryOp op) r) (ha : PE X a ta) (hb : PE X b tb) : PE X (.BinOp a op b pos) (tOp r ta tb) := by
  intro pins s σ H Q I h
  exact wpAny_BinOp (binT ha hb I h fun v u s2 x y H2 I2 rx ry q => ho pins s2 σ H2 x y v u Q I2 rx ry q)
theorem pe_un {op : UnaryOp} {r : V -> Hp -> VK -> Prop} (ho : UnR X (unaryOp op) r) (ha : PE X a ta) : PE X (.UnaryOp op a pos) (tUn r ta) := by
  intro pins s σ H Q I h
  exact UnaryOp_ (thn (ha pins s σ H _ I h) fun v s1 ⟨x, H1, I1, r1, q1⟩ => ho pins s1 σ H1 x v Q I1 r1 q1)
theorem opI {f : Value -> Value -> Sem Value} {C : Int -> Int -> Prop} {g : Int -> Int -> Int}
    (rule : ∀ (i j : Int) (t u : Tok) (s : Shared) (Q : Value -> Shared -> Prop) (E : Value -> Shared -> Prop), C i j -> Q (.int (g i j) s.toks) { s with toks := s.toks + 1 } -> wpAny (model X.prog X.w) X.A (f (.int i t) (.int j u)) Q E s) :
    OpR X f (rI C fun i j => .int (g i j)) := by
  intro pins s σ H x y v u Q I rx ry h
  obtain ⟨i, j, rfl, rfl, hc, q⟩ := h
  obtain ⟨t, rfl⟩ := rx
  obtain ⟨t', rfl⟩ := ry
  exact rule i j t t' s _ _ hc ⟨.int (g i j), H, I.tok _, ⟨_, rfl⟩, q⟩
theorem opI0 {f : Value -> Value -> Sem Value} {g : Int -> Int -> Int}
    (rule : ∀ (i j : Int) (t u : Tok) (s : Shared) (Q : Value -> Shared -> Prop) (E : Value -> Shared -> Prop), Q (.int (g i j) s.toks) { s with toks := s.toks + 1 } -> wpAny (model X.prog X.w) X.A (f (.int i t) (.int j u)) Q E s) :
    OpR X f (rI0 fun i j => .int (g i j)) := by
  intro pins s σ H x y v u Q I rx ry h
  obtain ⟨i, j, rfl, rfl, q⟩ := h
  obtain ⟨t, rfl⟩ := rx
  obtain ⟨t', rfl⟩ := ry
  exact rule i j t t' s _ _ ⟨.int (g i j), H, I.tok _, ⟨_, rfl⟩, q⟩
theorem opB0 {f : Value -> Value -> Sem Value} {g : Int -> Int -> Bool}
    (rule : ∀ (i j : Int) (t u : Tok) (s : Shared) (Q : Value -> Shared -> Prop) (E : Value -> Shared -> Prop), Q (.bool (g i j)) s -> wpAny (model X.prog X.w) X.A (f (.int i t) (.int j u)) Q E s) :
    OpR X f (rI0 fun i j => .bl (g i j)) := by
  intro pins s σ H x y v u Q I rx ry h
  obtain ⟨i, j, rfl, rfl, q⟩ := h
  obtain ⟨t, rfl⟩ := rx
  obtain ⟨t', rfl⟩ := ry
  exact rule i j t t' s _ _ ⟨.bl (g i j), H, I, rfl, q⟩
noncomputable def CDiv (i j : Int) : Prop := 0 < j /\ j < 1073741824
noncomputable def CMul (i j : Int) : Prop := (-(2 ^ 64) < i /\ i < 2 ^ 64) \/ (-(2 ^ 64) < j /\ j < 2 ^ 64)
theorem CMul.ok {i j : Int} (h : CMul i j) : IntMulOk i j := by
  rcases h with ⟨h1, h2⟩ | ⟨h1, h2⟩
  · exact .of_left (intBits_le_64 h1 h2)
  · exact .of_right (intBits_le_64 h1 h2)
theorem op_add : OpR X (binaryOp .Add) (rI0 fun i j => .int (i + j)) := opI0 fun _ _ _ _ _ _ _ q => add_int q
theorem op_sub : OpR X (binaryOp .Sub) (rI0 fun i j => .int (i - j)) := opI0 fun _ _ _ _ _ _ _ q => sub_int q
theorem op_mul : OpR X (binaryOp .Mult) (rI CMul fun i j => .int (i * j)) := opI fun _ _ _ _ _ _ _ hc q => mul_int q hc.ok
theorem op_fdiv : OpR X (binaryOp .FloorDiv) (rI CDiv fun i j => .int (i / j)) := opI fun i j _ _ _ _ _ hc q => by
  have h1 : (0 : Int) < j := hc.1
  have h2 : j < 1073741824 := hc.2
  exact floordiv_int (by omega) (by rw [Int.fdiv_eq_ediv_of_nonneg i (by omega)]; exact q) (.inl (PyProof.noPylong_small (by omega)))
theorem op_mod : OpR X (binaryOp .Mod) (rI (fun _ j => 0 < j) fun i j => .int (i % j)) := opI fun i j _ _ _ _ _ hc q => by
  have h1 : (0 : Int) < j := hc
  exact mod_int' (by lia) (by rw [Int.fmod_eq_emod_of_nonneg i (by lia)]; exact q)
theorem unI {f : Value -> Sem Value} {g : Int -> Int}
    (rule : ∀ (i : Int) (t : Tok) (s : Shared) (Q : Value -> Shared -> Prop) (E : Value -> Shared -> Prop), Q (.int (g i) s.toks) { s with toks := s.toks + 1 } -> wpAny (model X.prog X.w) X.A (f (.int i t)) Q E s) :
    UnR X f (rU fun i => .int (g i)) := by
  intro pins s σ H x v Q I rx h
  obtain ⟨i, rfl, q⟩ := h
  obtain ⟨t, rfl⟩ := rx
  exact rule i t s _ _ ⟨.int (g i), H, I.tok _, ⟨_, rfl⟩, q⟩
theorem un_neg : UnR X (unaryOp .USub) (rU fun i => .int (-i)) := unI fun _ _ _ _ _ q => neg_int q
end
section
variable {X : Cx} {a b c : Expr} {ta tb tc : TE} {pos : Pos}
theorem fin_bl {pins : List (Addr × Obj)} {σ : St} {H : Hp} {s : Shared} {Q : VK} {k k' : Bool} (I : Inv X pins σ H s) (q : Q (.bl k) H) (e : k = k') : EP X pins σ Q (.bool k') s := by
  subst e
  exact ⟨.bl k, H, I, rfl, q⟩
theorem op_lt : OpR X (compareOp .Lt) (rI0 fun i j => .bl (decide (i < j))) := opB0 fun _ _ _ _ _ _ _ q => lt_int q
theorem op_le : OpR X (compareOp .LtE) (rI0 fun i j => .bl (decide (i <= j))) := opB0 fun _ _ _ _ _ _ _ q => le_int q
theorem op_gt : OpR X (compareOp .Gt) (rI0 fun i j => .bl (decide (j < i))) := opB0 fun _ _ _ _ _ _ _ q => gt_int q
theorem OpR.or {f : Value -> Value -> Sem Value} {r r' : R2} (h : OpR X f r) (h' : OpR X f r') : OpR X f (fun x y H Q => r x y H Q \/ r' x y H Q) := by
  intro pins s σ H x y v u Q I rx ry q
  rcases q with q | q
  · exact h pins s σ H x y v u Q I rx ry q
  · exact h' pins s σ H x y v u Q I rx ry q
theorem nomark (b : Expr) {op : CmpOp} (h : autoParam (op ≠ .In) L2.au1._auto_1) (h2 : autoParam (op ≠ .NotIn) L2.au1._auto_1) : behindInMarks op b = false := by
  have e1 : (op == CmpOp.In) = false := by cases op <;> first | rfl | exact absurd rfl h
  have e2 : (op == CmpOp.NotIn) = false := by cases op <;> first | rfl | exact absurd rfl h2
  cases b with
  | Set elts k _ =>
    show (k == 0 && (op == .In || op == .NotIn) && elts.all (constantsAlone 8)) = false
    rw [e1, e2, Bool.or_self, Bool.and_false, Bool.false_and]
  | _ => rfl
theorem pe_cmpR {op : CmpOp} {r : R2} (ho : OpR X (compareOp op) r) (ha : PE X a ta) (hb : PE X b tb) (hm : behindInMarks op b = false) : PE X (.Compare a [op] [b] pos) (tOp r ta tb) := by
  intro pins s σ H Q I h
  exact wpAny_Compare1 (binT ha hb I h fun v u s2 x y H2 I2 rx ry q => ho pins s2 σ H2 x y v u Q I2 rx ry q) hm
noncomputable def tTest (t : TE) : TT := fun σ H Q => t σ H fun x H' => ∃ k, x = .bl k /\ Q k H'
theorem pt_cmpR {op : CmpOp} {r : R2} (ho : OpR X (compareOp op) r) (ha : PE X a ta) (hb : PE X b tb) (hm : behindInMarks op b = false) : PT X (.Compare a [op] [b] pos) (tTest (tOp r ta tb)) := by
  intro pins s σ H Q I h
  refine wpAny_isTrue_Compare1 (thn (ha pins s σ H _ I h) fun v s1 ⟨x, H1, I1, r1, q1⟩ => thn (hb pins s1 σ H1 _ I1 q1) fun u s2 ⟨y, H2, I2, r2, q2⟩ =>
    thn (ho pins s2 σ H2 x y v u _ I2 r1 r2 q2) fun c s3 ⟨z, H3, I3, r3, k, e, q3⟩ => ?_) hm
  subst e
  cases r3
  exact wpAny_truthy_bool ⟨H3, I3, q3⟩
noncomputable def tChain (r r' : R2) (ta tb tc : TE) : TE := fun σ H Q => ta σ H fun x H1 => tb σ H1 fun y H2 => r x y H2 fun z H3 => ∃ k, z = .bl k /\
  (if k = true then tc σ H3 fun w' H4 => r' y w' H4 Q else Q (.bl false) H3)
theorem pe_chain {op op' : CmpOp} {r r' : R2} (ho : OpR X (compareOp op) r) (ho' : OpR X (compareOp op') r') (ha : PE X a ta) (hb : PE X b tb) (hc : PE X c tc)
    (hm : autoParam (lastMarks [op, op'] [b, c] = false) L2.au4._auto_1) : PE X (.Compare a [op, op'] [b, c] pos) (tChain r r' ta tb tc) := by
  intro pins s σ H Q I h
  refine Compare_chain (thn (ha pins s σ H _ I h) fun v s1 ⟨x, H1, I1, r1, q1⟩ => chain_link (thn (hb pins s1 σ H1 _ I1 q1) fun u s2 ⟨y, H2, I2, r2, q2⟩ =>
    thn (ho pins s2 σ H2 x y v u _ I2 r1 r2 q2) fun d s3 ⟨z, H3, I3, r3, k, e, q3⟩ => ?_)) hm
  subst e
  cases r3
  refine wpAny_truthy_bool ?_
  cases k with
  | false => exact ite_ff ⟨.bl false, H3, I3, rfl, q3⟩
  | true => exact ite_tt (chain_last (thn (hc pins s3 σ H3 _ I3 q3) fun w' s4 ⟨z', H4, I4, r4, q4⟩ => ho' pins s4 σ H4 y z' u w' Q I4 r2 r4 q4))
theorem line63 : (sizeLine : Nat) < 2 ^ 63 := by rw [sizeLine_eq]; decide
theorem op_add_str : OpR X (binaryOp .Add) (fun x y H Q => ∃ i j, x = .str i /\ y = .str j /\ i.length + j.length <= sizeLine /\ Q (.str (i ++ j)) H) := by
  intro pins s σ H x y v u Q I rx ry h
  obtain ⟨i, j, rfl, rfl, hz, q⟩ := h
  obtain ⟨t, rfl⟩ := rx
  obtain ⟨t', rfl⟩ := ry
  exact add_str (fun t' tk => ⟨.str (i ++ j), H, I.tok _, ⟨_, rfl⟩, q⟩) hz
theorem vals1 {x : V} {us : List Value} (r : Vals [x] us) : ∃ u, us = [u] /\ RelV x u := by
  cases r with
  | cons r1 r2 => cases r2; exact ⟨_, rfl, r1⟩
theorem vals2 {x y : V} {us : List Value} (r : Vals [x, y] us) : ∃ u w', us = [u, w'] /\ RelV x u /\ RelV y w' := by
  cases r with
  | cons r1 r2 =>
    cases r2 with
    | cons r3 r4 => cases r4; exact ⟨_, _, rfl, r1, r3⟩
end
end L2
namespace L2
open PySem PySem.Spec PyProof.Rows
structure ObjM (h : Heap) (x dx C : Addr) (mA : Str -> Option Value) : Prop where
  obj : h.get? x = some (PySem.W.instObj C dx)
  ns : h.Ns1 dx mA
  ne : dx ≠ x
theorem lookIn_ns {h : Heap} {dx : Addr} {mA : Str -> Option Value} (n : h.Ns1 dx mA) : ∃ od, h.get? dx = some od /\ ∀ name, PySem.W.lookIn name od = some (mA name) := by
  obtain ⟨o, es, ep, ho, hd, hk, _, hm⟩ := n
  refine ⟨o, ho, fun name => ?_⟩
  have e := hm name
  unfold nsFind findBy at e
  rw [<- Array.find?_toList] at e
  unfold PySem.W.lookIn
  rw [hd]
  dsimp only
  split
  · rename_i y q
    rw [q] at e
    exact congrArg some e
  · rename_i q
    rw [q] at e
    have a : es.toList.any (·.refKey) = false := by
      rw [List.any_eq_false]
      intro y hy
      obtain ⟨z, t, hkey⟩ := hk y (Array.mem_toList_iff.mp hy)
      simp [DictEntry.refKey, hkey]
    have a' : ¬ es.toList.any (·.refKey) = true := by rw [a]; exact Bool.false_ne_true
    rw [if_neg a']
    exact congrArg some e
theorem ObjM.look {h : Heap} {x dx C : Addr} {mA : Str -> Option Value} (I : ObjM h x dx C mA) : ∃ od, PySem.W.InstAt h x (PySem.W.instObj C dx) C (some od) /\ ∀ name, PySem.W.lookIn name od = some (mA name) :=
  let ⟨od, ho, hl⟩ := lookIn_ns I.ns
  ⟨od, ⟨I.obj, rfl, rfl, ho⟩, hl⟩
section
variable {prog : Program} {w : World} {A : Around} {E : Value -> Shared -> Prop} {s : Shared} {K : PySem.W.Frag} {x dx C f : Addr} {mA : Str -> Option Value} {name : Str} {v : Value}
end
theorem RelO.some_of {v : V} {o : Option Value} (r : RelO (some v) o) : ∃ u, o = some u /\ RelV v u := by
  cases o with
  | none => exact (show False from r).elim
  | some u => exact ⟨u, rfl, r⟩
section
variable {P : Program} {w : World} {H H' : Hp} {h h' : Heap} {a C dx : Addr} {fs fs' : List (Str × V)}
theorem ins_get (hok : HOk P w H h) (e : H a = some (.ins C dx fs)) : ∃ mA, ObjM h a dx C mA /\ (∀ f, RelO (fs.lookup f) (mA f)) /\ PySem.Within mA (fs.map (·.1)) /\ fs.length <= 1000 /\ H dx = some (.own a) := by
  obtain ⟨d, z, ne, ob, mA, n, r, q⟩ := (show ObjOk P w H h a (.ins C dx fs) from hok a _ e)
  exact ⟨mA, ⟨ob, n, ne⟩, r, q, z, d⟩
end
structure Cls (K : PySem.W.Frag) (C : Addr) : Prop where
  pg : PySem.W.plainGet K C Str.empty = true
  hd : PySem.W.hasDictIn K C = true
  po : PySem.W.plainOver K C = true
  sa : PySem.W.findIn K (.ref C) "__setattr__" = some (some (.builtin "object.__setattr__"))
theorem Cls.get {K : PySem.W.Frag} {C : Addr} (c : Cls K C) (f : Str) : PySem.W.plainGet K C f = true := c.pg
structure Con (K : PySem.W.Frag) (C : Addr) (f : Str) (v : V) (u : Value) : Prop where
  at_ : PySem.W.findIn K (.ref C) f = some (some u)
  rel : RelV v u
  get : PySem.W.specialIn K u "__get__" = some none
  cp : PySem.W.copiedNames.contains f = false
structure Meth (K : PySem.W.Frag) (C : Addr) (m : Str) (f : Addr) : Prop where
  at_ : PySem.W.findIn K (.ref C) m = some (some (.ref f))
  fn : PySem.W.isFn K (.ref f) = true
  kp : PySem.W.keepIn K (.ref f) = true
section
variable {X : Cx} {pins : List (Addr × Obj)} {σ : St} {H : Hp} {s : Shared} {a C dx : Addr} {fs : List (Str × V)} {f : Str} {v : V} {A : Around} {E : Value -> Shared -> Prop}
end
section
variable {X : Cx} {o e value : Expr} {f : Str} {pos pos' tpos : Pos} {ta tv : TE}
end
section
variable {X : Cx} {pins : List (Addr × Obj)} {σ : St} {H : Hp} {s : Shared} {A : Around} {E : Value -> Shared -> Prop} {Q : Value -> Shared -> Prop} {c : Value} {b : Bool}
inductive TyOf (K : PySem.W.Frag) (H : Hp) : V -> Value -> Prop where
  | non : TyOf K H .non (.type "NoneType")
  | bl (x : Bool) : TyOf K H (.bl x) (.type "bool")
  | int (i : Int) : TyOf K H (.int i) (.type "int")
  | str (x : Str) : TyOf K H (.str x) (.type "str")
  | flt (x : UInt64) : TyOf K H (.flt x) (.type "float")
  | lst {a : Addr} {xs : List V} (e : H a = some (.lst xs)) : TyOf K H (.ref a) (.type "list")
  | frz {a : Addr} {o : Obj} {xs : List V} (e : H a = some (.frz o (.lst xs))) : TyOf K H (.ref a) (.type "list")
  | tup {a : Addr} {xs : List V} (e : H a = some (.tup xs)) : TyOf K H (.ref a) (.type "tuple")
  | dK {a : Addr} {kvs : List (Key × V)} (e : H a = some (.dK kvs)) : TyOf K H (.ref a) (.type "dict")
  | dT {a : Addr} {kvs : List (List Key × V)} (e : H a = some (.dT kvs)) : TyOf K H (.ref a) (.type "dict")
  | ins {a C dx : Addr} {fs : List (Str × V)} (e : H a = some (.ins C dx fs)) (cl : Cls K C) (ha : PySem.W.findIn K (.ref C) "__class__" = some (some (.builtin "object.__class__")))
      (hn : PySem.W.specialIn K (.builtin "object.__class__") "__get__" = some (some (.builtin "getset_descriptor.__get__"))) (htk : PySem.W.takesIn K (.builtin "object.__class__") = some true)
      (hm : PySem.W.mroIn K C (.type "object") = some true) : TyOf K H (.ref a) (.ref C)
theorem isinst_ok {x : V} {u t : Value} (I : Inv X pins σ H s) (rx : RelV x u) (ty : TyOf X.K H x t) (e : PySem.W.kitOne X.K t c = some b) (h : ∀ tk, Q (.bool b) { s with toks := tk }) :
    wpAny (model X.prog X.w) A (call (.builtin "isinstance") [u, c]) Q E s := by
  cases ty with
  | non => cases (show u = Value.none from rx); exact PySem.W.kia_one PySem.W.kitx_none I.kIn True.intro e (fun z => nomatch z) h
  | bl y => cases (show u = Value.bool y from rx); exact PySem.W.kia_one PySem.W.kitx_bool I.kIn True.intro e (fun z => nomatch z) h
  | int i => obtain ⟨t, q⟩ := (show ∃ t, u = Value.int i t from rx); cases q; exact PySem.W.kia_one PySem.W.kitx_int I.kIn True.intro e (fun z => nomatch z) h
  | str y => obtain ⟨t, q⟩ := (show ∃ t, u = Value.str y t from rx); cases q; exact PySem.W.kia_one PySem.W.kitx_str I.kIn True.intro e (fun z => nomatch z) h
  | flt y => obtain ⟨t, q⟩ := (show ∃ t, u = Value.float y t from rx); cases q; exact PySem.W.kia_one PySem.W.kitx_float I.kIn True.intro e (fun z => nomatch z) h
  | @lst a xs ea =>
    cases (show u = Value.ref a from rx)
    obtain ⟨_, _, n, _, h1⟩ := (show ObjOk X.prog X.w H s.heap a (.lst xs) from I.hok a _ ea)
    exact PySem.W.kia_one PySem.W.kitx_list I.kIn ⟨_, h1, rfl⟩ e (fun z => nomatch z) h
  | @frz a ob xs ea =>
    cases (show u = Value.ref a from rx)
    obtain ⟨_, _, _, n, _, h1⟩ := (show ObjOk X.prog X.w H s.heap a (.frz ob (.lst xs)) from I.hok a _ ea)
    exact PySem.W.kia_one PySem.W.kitx_list I.kIn ⟨_, h1, rfl⟩ e (fun z => nomatch z) h
  | @tup a xs ea =>
    cases (show u = Value.ref a from rx)
    obtain ⟨_, _, _, p⟩ := (show ObjOk X.prog X.w H s.heap a (.tup xs) from I.hok a _ ea)
    obtain ⟨o, h1, h2, _⟩ := p
    exact PySem.W.kia_one PySem.W.kitx_tuple I.kIn ⟨o, h1, h2⟩ e (fun z => nomatch z) h
  | @dK a kvs ea =>
    cases (show u = Value.ref a from rx)
    obtain ⟨_, _, vs, _, p⟩ := (show ObjOk X.prog X.w H s.heap a (.dK kvs) from I.hok a _ ea)
    obtain ⟨o, es, ep, h1, h2, _⟩ := p
    exact PySem.W.kia_one PySem.W.kitx_dict I.kIn ⟨o, h1, h2.1⟩ e (fun z => nomatch z) h
  | @dT a kvs ea =>
    cases (show u = Value.ref a from rx)
    obtain ⟨_, _, xs, _, o, es, ep, h1, h2, _⟩ := (show ObjOk X.prog X.w H s.heap a (.dT kvs) from I.hok a _ ea)
    exact PySem.W.kia_one PySem.W.kitx_dict I.kIn ⟨o, h1, h2.1⟩ e (fun z => nomatch z) h
  | @ins a C dx fs ea cl ha hn htk hm =>
    cases (show u = Value.ref a from rx)
    obtain ⟨mA, O, _⟩ := ins_get I.hok ea
    obtain ⟨od, J, _⟩ := O.look
    exact PySem.W.kia_one (PySem.W.kitx_own (cl.get _) cl.hd ha hn htk hm) I.kIn J e (fun z => nomatch z) h
end
end L2
namespace L2
open PySem PySem.Spec PyProof.Rows
structure Room (k : Nat) (A : Around) : Prop where
  hd : A.handled = none
  dp : A.depth + 3 * k + 5 < recursionLimit
  un : A.units + 16 * k + 200 < cLine
theorem Room.mono {j k : Nat} {A : Around} (r : Room k A) (h : j <= k) : Room j A := ⟨r.hd, by have := r.dp; lia, by have := r.un; lia⟩
theorem Room.deeper {k : Nat} {A : Around} (r : Room (k + 1) A) (env : Env) : Room k (A.deeper env) :=
  ⟨r.hd, by have := r.dp; show A.depth + 1 + 3 * k + 5 < _; lia, by have := r.un; show A.units + 3 + 16 * k + 200 < _; lia⟩
theorem Room.in1 {k : Nat} {A : Around} (r : Room (k + 1) A) : Room k A.in1 :=
  ⟨r.hd, by have := r.dp; show A.depth + 3 * k + 5 < _; lia, by have := r.un; show A.units + 1 + 16 * k + 200 < _; lia⟩
theorem Room.depth {k : Nat} {A : Around} (r : Room k A) : A.depth < recursionLimit := by have := r.dp; omega
theorem Room.units {k : Nat} {A : Around} (r : Room k A) : A.units + 64 < cLine := by have := r.un; lia
noncomputable def tNil : TA := fun _ H Q => Q [] H
noncomputable def tCons (ta : TE) (tr : TA) : TA := fun σ H Q => ta σ H fun x H1 => tr σ H1 fun xs H2 => Q (x :: xs) H2
section
variable {X : Cx} {e : Expr} {es : List Expr} {te : TE} {t : TA} {pos : Pos}
theorem pa_nil : PA X [] tNil := fun _ _ _ _ H Q I h => Calls.spliced_nil ⟨[], H, I, .nil, h⟩
theorem pa_cons (ha : PE X e te) (hr : PA X es t) (hs : autoParam (starEach (e :: es) X.env = (false, eval e X.env) :: starEach es X.env) L2.au3._auto_1) : PA X (e :: es) (tCons te t) := by
  intro pos pins s σ H Q I h
  rw [hs]
  show wpAny _ _ (spliced ((false, eval e X.env) :: backTo pos (starEach es X.env))) _ _ s
  refine Calls.spliced_cons (thn (ha pins s σ H _ I h) fun u s1 ⟨x, H1, I1, r1, q1⟩ => ?_)
  exact thn (hr pos pins s1 σ H1 _ I1 q1) fun us s2 ⟨xs, H2, I2, r2, q2⟩ => ⟨x :: xs, H2, I2, .cons r1 r2, q2⟩
noncomputable def tTup (t : TA) : TE := fun σ H Q => t σ H fun xs H1 => xs.length <= sizeLine /\ ∀ p, H1 p = none -> Q (.ref p) (upd H1 p (.tup xs))
noncomputable def tLst (t : TA) : TE := fun σ H Q => t σ H fun xs H1 => xs.length <= sizeLine /\ ∀ p, H1 p = none -> Q (.ref p) (upd H1 p (.lst xs))
theorem pe_tup {x1} (h : PA X es t) : PE X (.Tuple es x1 pos) (tTup t) := by
  intro pins s σ H Q I hq
  refine wpAny_Tuple_spliced (thn (h pos pins s σ H _ I hq) fun us s1 ⟨xs, H1, I1, r, z, q⟩ => ⟨by rw [<- r.length]; exact z, ?_⟩)
  have hf : H1 s1.heap.objs.size = none := I1.hok.fresh (Nat.le_refl _)
  refine ⟨.ref s1.heap.objs.size, upd H1 s1.heap.objs.size (.tup xs), I1.laid (t' := s1.toks) (fun b u e => Heap.get?_push_of_some _ e) (Nat.le_refl _) ?_, rfl, q _ hf⟩
  exact ⟨z, us, r, TupN.new _ _⟩
theorem pe_lst (h : PA X es t) : PE X (.List es pos) (tLst t) := by
  intro pins s σ H Q I hq
  refine wpAny_List_spliced (thn (h pos pins s σ H _ I hq) fun us s1 ⟨xs, H1, I1, r, z, q⟩ => ⟨by rw [<- r.length]; exact z, ?_⟩)
  have hf : H1 s1.heap.objs.size = none := I1.hok.fresh (Nat.le_refl _)
  refine ⟨.ref s1.heap.objs.size, upd H1 s1.heap.objs.size (.lst xs), I1.laid (t' := s1.toks) (fun b u e => Heap.get?_push_of_some _ e) (Nat.le_refl _) ?_, rfl, q _ hf⟩
  exact ⟨z, us, 0, r, Heap.get?_push_size _ rfl⟩
end
noncomputable abbrev Sp := List V -> Hp -> VK -> XK -> Prop
noncomputable abbrev CXT := List Env -> Hp -> Shared -> XK -> Value -> Shared -> Prop
structure Env0 (P : Program) (w : World) (K : PySem.W.Frag) (mg : Str -> Option Value) (base : Heap) (A : Around) (outer : List Env) (s : Shared) (H : Hp) : Prop where
  frames : A.frames = some outer
  mod : Mod K mg base
  bs : ∀ b o, base.get? b = some o -> s.heap.get? b = some o /\ H b = none
  bsz : base.objs.size <= s.heap.objs.size
  funs : s.heap.FunFrames base outer
  frf : ∀ b ∈ frs outer, H b = none
  hok : HOk P w H s.heap
  bare : AllBare s.gens
noncomputable def CE (outer : List Env) (P : Program) (w : World) (H : Hp) (s : Shared) (Q : VK) (u : Value) (s' : Shared) : Prop :=
  ∃ v H', s'.os = s.os /\ AllBare s'.gens /\ Un (frs outer) [] H H' s.heap s'.heap /\ HOk P w H' s'.heap /\ RelV v u /\ Q v H'
noncomputable def CR (CX : CXT) (outer : List Env) (P : Program) (w : World) (H : Hp) (s : Shared) (Q : VK) (E : XK) (r : Result) (s' : Shared) : Prop :=
  match r with
  | .ok (.ret u) => CE outer P w H s Q u s'
  | .ok _ => False
  | .error e => CX outer H s E e s'
structure FnOk (P : Program) (w : World) (K : PySem.W.Frag) (mg : Str -> Option Value) (base : Heap) (CX : CXT) (k : Nat) (f : Addr) (fd : FuncData) (ps : List Str) (sp : Sp) : Prop where
  len : ∀ vs H Q E, sp vs H Q E -> vs.length = ps.length
  run : ∀ (A : Around) (outer : List Env) (s : Shared) (H : Hp) (args : Args) (us : List Value) (vs : List V) (Q : VK) (E : XK), Room k A -> Env0 P w K mg base A outer s H -> BindsTo s fd args (ps.zip us) -> Vals vs us -> sp vs H Q E ->
    codeAny (model P w) A (.call (.ref f) args) (CR CX outer P w H s Q E) s
theorem FnOk.mono {P : Program} {w : World} {K : PySem.W.Frag} {mg : Str -> Option Value} {base : Heap} {CX : CXT} {j k : Nat} {f : Addr} {fd : FuncData} {ps : List Str} {sp : Sp} (F : FnOk P w K mg base CX j f fd ps sp) (h : j <= k) :
    FnOk P w K mg base CX k f fd ps sp := ⟨F.len, fun A outer s H args us vs Q E hr => F.run A outer s H args us vs Q E (hr.mono h)⟩
theorem FnOk.imp {P : Program} {w : World} {K : PySem.W.Frag} {mg : Str -> Option Value} {base : Heap} {CX : CXT} {k : Nat} {f : Addr} {fd : FuncData} {ps : List Str} {sp sp' : Sp} (F : FnOk P w K mg base CX k f fd ps sp)
    (h : ∀ vs H Q E, sp' vs H Q E -> sp vs H Q E) : FnOk P w K mg base CX k f fd ps sp' :=
  ⟨fun vs H Q E q => F.len vs H Q E (h _ _ _ _ q), fun A outer s H args us vs Q E hr he hb hv hs => F.run A outer s H args us vs Q E hr he hb hv (h _ _ _ _ hs)⟩
theorem Env0.in1 {P : Program} {w : World} {K : PySem.W.Frag} {mg : Str -> Option Value} {base : Heap} {A : Around} {outer : List Env} {s : Shared} {H : Hp} (e : Env0 P w K mg base A outer s H) :
    Env0 P w K mg base A.in1 outer s H := ⟨e.frames, e.mod, e.bs, e.bsz, e.funs, e.frf, e.hok, e.bare⟩
section
variable {X : Cx} {pins : List (Addr × Obj)} {σ : St} {H : Hp} {s s' : Shared}
theorem Inv.env0 (I : Inv X pins σ H s) : Env0 X.prog X.w X.K X.mg X.base X.A X.stack s H :=
  ⟨I.ok.frames, I.ok.mod, I.bs, Nat.le_trans I.ok.bsz I.sz, I.stack, I.stkFree, I.hok, I.bare⟩
theorem Inv.after {Q : VK} {u : Value} (I : Inv X pins σ H s) (h : CE X.stack X.prog X.w H s Q u s') : EP X pins σ Q u s' := by
  obtain ⟨v, H', os, bare, un, hok, r, q⟩ := h
  obtain ⟨hh, g, d, t, os'⟩ := s'
  obtain rfl : os' = s.os := os
  exact ⟨v, H', I.call (h' := hh) (g' := g) (d' := d) (t' := t) (ch := []) un hok bare (fun b z => absurd z (by simp)), r, q⟩
end
noncomputable def tCall (sp : Sp) (dvs : List V) (E : XK) (t : TA) : TE := fun σ H Q => t σ H fun vs H1 => sp (vs ++ dvs) H1 Q E
noncomputable def Binds (K : PySem.W.Frag) (fd : FuncData) (ps : List Str) (ds : List Value) : Prop :=
  ∀ (s : Shared) (us : List Value), K.In s.heap -> (us ++ ds).length = ps.length -> BindsTo s fd ⟨us, []⟩ (ps.zip (us ++ ds))
theorem Binds.all {K : PySem.W.Frag} {fd : FuncData} {ps : List Str} (h : ∀ us : List Value, us.length = ps.length -> bindArgs fd ⟨us, []⟩ = pure (ps.zip us)) : Binds K fd ps [] := fun s us _ hl => by
  rw [List.append_nil] at hl ⊢
  exact .of_eq (h us hl)
noncomputable def Passes (CX : CXT) (X : Cx) (E : XK) : Prop := ∀ (pins : List (Addr × Obj)) (σ : St) (H : Hp) (s : Shared) (e : Value) (s' : Shared), Inv X pins σ H s -> CX X.stack H s E e s' -> X.xe e s'
section
variable {X : Cx} {CX : CXT} {k : Nat} {f C : Addr} {fd : FuncData} {ps : List Str} {sp : Sp} {dvs : List V} {ds : List Value} {E : XK} {x m : Str} {p pos apos : Pos} {e o : Expr} {es : List Expr} {ta : TE} {t : TA}
theorem run_fn {pins : List (Addr × Obj)} {σ : St} {H : Hp} {s : Shared} {Q : VK} {us : List Value} {vs : List V} (F : FnOk X.prog X.w X.K X.mg X.base CX k f fd ps sp) (hr : Room k X.A) (hb : Binds X.K fd ps ds) (hd : Vals dvs ds) (hx : Passes CX X E)
    (I : Inv X pins σ H s) (r : Vals vs us) (h : sp (vs ++ dvs) H Q E) : wpAny (model X.prog X.w) X.A (call (.ref f) us) (EP X pins σ Q) X.xe s := by
  have r2 : Vals (vs ++ dvs) (us ++ ds) := r.append hd
  have hl : (us ++ ds).length = ps.length := by rw [<- r2.length]; exact F.len _ _ _ _ h
  refine wpAny_call (codeAny_mono (F.run X.A X.stack s H ⟨us, []⟩ (us ++ ds) (vs ++ dvs) Q E hr I.env0 (hb s us I.kIn hl) r2 h) fun r s' hq => ?_)
  cases r with
  | error e => exact hx pins σ H s e s' I hq
  | ok fl =>
    cases fl with
    | ret u => exact I.after hq
    | next => exact False.elim hq
    | brk => exact False.elim hq
    | cont => exact False.elim hq
theorem pe_call (F : FnOk X.prog X.w X.K X.mg X.base CX k f fd ps sp) (hr : Room k X.A) (hg : Gl X x) (hm : X.mg x = some (.ref f)) (hk : PySem.W.keepIn X.K (.ref f) = true) (hb : Binds X.K fd ps ds) (hd : Vals dvs ds) (hx : Passes CX X E)
    (ha : PA X (e :: es) t) (hdb : autoParam ((x == ("__debug__" : Str)) = false) L2.au1._auto_1) (he : autoParam (starEach (e :: es) X.env = (false, eval e X.env) :: starEach es X.env) L2.au3._auto_1) (hpl : autoParam ((backTo pos (starEach es X.env)).any (·.1) = false) L2.au3._auto_1) :
    PE X (.Call (.Name x p) (e :: es) [] pos) (tCall sp dvs E t) := by
  intro pins s σ H Q I h
  refine wpAny_Call_Name_kw (ld_glob I hg hm ?_ hdb)
  refine PySem.W.callWith_K (h₀ := X.base) I.ok.mod.kin hk (thn (ha pos pins s σ H _ I h) fun us s1 ⟨vs, H1, I1, r, q⟩ => ⟨I1.kIn, ?_⟩) he hpl
  exact run_fn F hr hb hd hx I1 r q
theorem pe_call0 (F : FnOk X.prog X.w X.K X.mg X.base CX k f fd ps sp) (hr : Room k X.A) (hg : Gl X x) (hm : X.mg x = some (.ref f)) (hk : PySem.W.keepIn X.K (.ref f) = true) (hb : Binds X.K fd ps ds) (hd : Vals dvs ds) (hx : Passes CX X E)
    (hdb : autoParam ((x == ("__debug__" : Str)) = false) L2.au1._auto_1) : PE X (.Call (.Name x p) [] [] pos) (tCall sp dvs E tNil) := by
  intro pins s σ H Q I h
  refine wpAny_Call_Name_kw (ld_glob I hg hm ?_ hdb)
  exact PySem.W.callWith_K0 I.kIn hk (run_fn (us := []) F hr hb hd hx I .nil h)
structure Mk (K : PySem.W.Frag) (C f : Addr) : Prop where
  makes : PySem.W.makesIn K C = true
  init : PySem.W.findIn K (.ref C) "__init__" = some (some (.ref f))
  fn : PySem.W.isFn K (.ref f) = true
  kp : PySem.W.keepIn K (.ref C) = true
end
section
variable {X : Cx} {CX : CXT} {k : Nat} {f C : Addr} {fd : FuncData} {ps ks : List Str} {sp : Sp} {E : XK} {x m : Str} {p pos apos kpos : Pos} {e o : Expr} {es : List Expr} {kws : List Keyword} {te ta : TE} {t tk : TA} {nm : Option Str}
structure KBinds (K : PySem.W.Frag) (fd : FuncData) (ps ks : List Str) (g : List Value -> List Value -> List Value) (gV : List V -> List V -> List V) : Prop where
  to : ∀ (s : Shared) (us ws : List Value), K.In s.heap -> (g us ws).length = ps.length -> BindsTo s fd ⟨us, ks.zip ws⟩ (ps.zip (g us ws))
  rel : ∀ {vs : List V} {us : List Value} {zs : List V} {ws : List Value}, Vals vs us -> Vals zs ws -> Vals (gV vs zs) (g us ws)
variable {g : List Value -> List Value -> List Value} {gV : List V -> List V -> List V}
end
structure FnScope (N P : List Str) (sc : Scope) : Prop where
  kind : sc.kind = .function
  co : sc.isCoroutine = false
  gen : sc.isGenerator = false
  nd : N.Nodup
  pre : N.take P.length = P
  par : ∀ x ∈ P, sc.names.lookup x = some .local \/ sc.names.lookup x = some .cell
  nofree : ∀ y ∈ sc.names, y.2 ≠ .free
theorem bindL_out {kindOf : Str -> Option NameKind} {x : Str} : ∀ {binds : List (Str × Value)} {m : Str -> Option Value}, (∀ v, (x, v) ∉ binds) -> bindL kindOf binds m x = m x
  | [], _, _ => rfl
  | (n, v) :: r, m, h => by
    unfold bindL
    rw [bindL_out fun w hw => h w (List.mem_cons_of_mem _ hw)]
    split
    · have : x ≠ n := by rintro rfl; exact h v List.mem_cons_self
      simp [this]
    · rfl
theorem bindC_out {kindOf : Str -> Option NameKind} {x : Str} : ∀ {binds : List (Str × Value)} {m : Str -> Option Value}, (∀ v, (x, v) ∉ binds) -> bindC kindOf binds m x = m x
  | [], _, _ => rfl
  | (n, v) :: r, m, h => by
    unfold bindC
    rw [bindC_out fun w hw => h w (List.mem_cons_of_mem _ hw)]
    split
    · rfl
    · have : x ≠ n := by rintro rfl; exact h v List.mem_cons_self
      simp [this]
theorem bindL_get {kindOf : Str -> Option NameKind} {x : Str} {v : Value} : ∀ {P : List Str} {vs : List Value} {i : Nat} {m : Str -> Option Value}, P.Nodup -> P[i]? = some x -> vs[i]? = some v -> kindOf x = some .local ->
    bindL kindOf (P.zip vs) m x = some v
  | [], _, _, _, _, h, _, _ => by simp at h
  | _ :: _, [], _, _, _, _, h, _ => by simp at h
  | p :: P, w :: vs, 0, m, nd, h1, h2, hk => by
    simp at h1 h2; subst h1; subst h2
    show bindL kindOf ((p, w) :: P.zip vs) m p = _
    unfold bindL
    rw [bindL_out fun v hv => (List.nodup_cons.mp nd).1 (List.of_mem_zip hv).1, if_pos hk]
    simp
  | p :: P, w :: vs, i + 1, m, nd, h1, h2, hk => by
    show bindL kindOf ((p, w) :: P.zip vs) m x = _
    unfold bindL
    exact bindL_get (i := i) (List.nodup_cons.mp nd).2 (by simpa using h1) (by simpa using h2) hk
theorem bindC_get {kindOf : Str -> Option NameKind} {x : Str} {v : Value} : ∀ {P : List Str} {vs : List Value} {i : Nat} {m : Str -> Option Value}, P.Nodup -> P[i]? = some x -> vs[i]? = some v -> kindOf x ≠ some .local ->
    bindC kindOf (P.zip vs) m x = some v
  | [], _, _, _, _, h, _, _ => by simp at h
  | _ :: _, [], _, _, _, _, h, _ => by simp at h
  | p :: P, w :: vs, 0, m, nd, h1, h2, hk => by
    simp at h1 h2; subst h1; subst h2
    show bindC kindOf ((p, w) :: P.zip vs) m p = _
    unfold bindC
    rw [bindC_out fun v hv => (List.nodup_cons.mp nd).1 (List.of_mem_zip hv).1, if_neg hk]
    simp
  | p :: P, w :: vs, i + 1, m, nd, h1, h2, hk => by
    show bindC kindOf ((p, w) :: P.zip vs) m x = _
    unfold bindC
    exact bindC_get (i := i) (List.nodup_cons.mp nd).2 (by simpa using h1) (by simpa using h2) hk
noncomputable def start (N : List Str) (vs : List V) : St := vs.map some ++ List.replicate (N.length - vs.length) none
noncomputable def cxOf (CX : CXT) (P : Program) (w : World) (K : PySem.W.Frag) (mg : Str -> Option Value) (base : Heap) (N : List Str) (qual : Str) (scope : Scope) (f : Addr) (cd : Value) (A : Around) (outer : List Env) (s : Shared) (H : Hp) (E : XK) : Cx where
  prog := P
  w := w
  K := K
  mg := mg
  base := base
  A := A.deeper (envOfC qual scope s.heap.objs.size f cd)
  N := N
  s₀ := s
  H₀ := H
  env := envOfC qual scope s.heap.objs.size f cd
  outer := outer
  stack := envOfC qual scope s.heap.objs.size f cd :: outer
  ex := []
  calm := true
  fn := fun _ => true
  pn := []
  xe := fun e s' => wpAny (model P w) (A.deeper (envOfC qual scope s.heap.objs.size f cd)) (leaving (envOfC qual scope s.heap.objs.size f cd) e) (fun _ s'' => CX outer H s E e s'') (fun e' s'' => CX outer H s E e' s'') s'
theorem cell_has {sc : Scope} {n : Nat} {x : Str} (h : sc.names.lookup x = some .cell) : ∃ c, (cellsFrom n sc.names []).lookup x = some c := by
  have q := PySem.W.cellsFrom_some sc.names n [] (.inl h)
  exact Option.isSome_iff_exists.mp q
theorem inv_start {CX : CXT} {P : Program} {w : World} {K : PySem.W.Frag} {mg : Str -> Option Value} {base : Heap} {N ps : List Str} {qual : Str} {scope : Scope} {f : Addr} {cd : Value} {A : Around} {outer : List Env} {s s1 : Shared} {H : Hp} {E : XK} {us : List Value} {vs : List V}
    (S : FnScope N ps scope) (hd : A.handled = none) (e0 : Env0 P w K mg base A outer s H) (hl : vs.length = ps.length) (r : Vals vs us)
    (x : InCallC s s.heap.objs.size (bindL (envOfC qual scope s.heap.objs.size f cd).kindOf (ps.zip us) fun _ => none) (cellsFrom (s.heap.objs.size + 1) scope.names []) (bindC (envOfC qual scope s.heap.objs.size f cd).kindOf (ps.zip us) fun _ => none) s1) :
    Inv (cxOf CX P w K mg base N qual scope f cd A outer s H E) [] (start N vs) H s1 := by
  have hpl : ps.length <= N.length := by have := congrArg List.length S.pre; rw [List.length_take] at this; lia
  obtain ⟨h1, tk, rfl, hk⟩ := x.done
  have noA : ∀ b : Addr, b ∉ (cxOf CX P w K mg base N qual scope f cd A outer s H E).ex := fun b z => absurd (show b ∈ ([] : List Addr) from z) (by simp)
  refine ⟨⟨e0.mod, S.kind, rfl, rfl, Nat.le_refl _, fun y z c h1 h2 => ?_, fun y hy => ?_, fun y c _ h => ?_, fun _ => hd, Around.frames_deeper e0.frames, .inr ⟨rfl, rfl⟩, fun b z => absurd z (noA b), e0.bs, e0.bsz, fun b _ _ => noA b, fun b z => absurd z (noA b), e0.funs, e0.frf⟩,
    rfl, e0.bare, Un.kept hk, ⟨_, x.toInCall.ns, fun i y v h1 h2 h3 => ?_⟩, fun y c h => ⟨_, x.cell y c h⟩, e0.hok.fresh (Nat.le_refl _), fun y c h => ?_, fun p hp => absurd (show p ∈ ([] : List (Addr × Obj)) from hp) (by simp), e0.hok.kept hk, ?_⟩
  · exact name_of_addr x.apart (PySem.mem_of_lookup h1) (PySem.mem_of_lookup h2)
  · have hy : scope.names.lookup y = some .cell \/ scope.names.lookup y = some .free := hy
    rcases hy with hy | hy
    · exact cell_has hy
    · exact absurd rfl (S.nofree _ (PySem.mem_of_lookup hy))
  · exact Nat.le_of_lt (x.above y c (PySem.mem_of_lookup h))
  · have hi : i < vs.length := by
      unfold start at h2
      by_cases hi : i < vs.length
      · exact hi
      · rw [List.getElem?_append_right (by simpa using hi)] at h2
        rw [List.getElem?_replicate] at h2
        split at h2 <;> cases h2
    have ha : vs[i]? = some v := by
      unfold start at h2
      rw [List.getElem?_append_left (by simpa using hi), List.getElem?_map] at h2
      cases e : vs[i]? with
      | none => rw [e] at h2; cases h2
      | some a => rw [e] at h2; cases h2; rfl
    obtain ⟨u, hu, rv⟩ := r.get ha
    have hp : ps[i]? = some y := by
      rw [<- S.pre, List.getElem?_take_of_lt (by lia)]; exact h1
    have ndP : ps.Nodup := by rw [<- S.pre]; exact S.nd.sublist (List.take_sublist _ _)
    refine ⟨u, rv, ?_⟩
    rcases S.par y (List.mem_of_getElem? hp) with k | k
    · exact .inl ⟨k, bindL_get ndP hp hu k⟩
    · obtain ⟨c, e⟩ := cell_has (n := s.heap.objs.size + 1) k
      refine .inr ⟨.inl k, c, e, ?_⟩
      have q := x.cell y c e
      rw [bindC_get ndP hp hu (by show scope.names.lookup y ≠ _; rw [k]; decide)] at q
      exact q
  · exact e0.hok.fresh (Nat.le_of_lt (x.above y c (PySem.mem_of_lookup h)))
  · unfold start
    show _ = N.length
    rw [List.length_append, List.length_map, List.length_replicate]
    lia
theorem fn_of {CX : CXT} {P : Program} {w : World} {K : PySem.W.Frag} {mg : Str -> Option Value} {base : Heap} {k : Nat} {f : Addr} {name qual : Str} {params : Arguments} {body : List Stmt} {scope : Scope} {dV kV doc pm cdv ct oc : Value} {an od : Option Addr}
    {osl : Array (Option Value)} {N ps : List Str} {sp : Sp} (lk : K.lookup f = some ⟨oc, od, .func (PySem.W.fnOf name qual params body scope dV kV doc pm an cdv ct), osl⟩) (hcd : PySem.W.codeIn K cdv qual = true) (S : FnScope N ps scope)
    (len : ∀ vs H Q E, sp vs H Q E -> vs.length = ps.length)
    (hbody : ∀ (A : Around) (outer : List Env) (s : Shared) (H : Hp) (vs : List V) (Q : VK) (E : XK), Room k (A.deeper (envOfC qual scope s.heap.objs.size f cdv)) -> sp vs H Q E ->
      ∃ t, PSs (cxOf CX P w K mg base N qual scope f cdv A outer s H E) body t /\ t { nx := fun _ H' => Q .non H', rt := Q } (start N vs) H) :
    FnOk P w K mg base CX (k + 1) f (PySem.W.fnOf name qual params body scope dV kV doc pm an cdv ct) ps sp := by
  refine ⟨len, fun A outer s H args us vs Q E hr e0 hb r hsp => ?_⟩
  have hl := len _ _ _ _ hsp
  have KX : K.In s.heap := e0.mod.kin.keeps fun b o e => (e0.bs b o e).1
  have lim : s.heap.NoLimit := e0.mod.nolimit.keeps fun b o e => (e0.bs b o e).1
  have hkind : ∀ y ∈ ps.zip us, scope.names.lookup y.1 = some .local \/ (scope.names.lookup y.1 = some .cell /\ ((cellsFrom (s.heap.objs.size + 1) scope.names []).lookup y.1).isSome = true) := fun ⟨n, v⟩ hy => by
    rcases S.par n (List.of_mem_zip hy).1 with q | q
    · exact .inl q
    · exact .inr ⟨q, PySem.W.cellsFrom_some _ _ _ (.inl q)⟩
  refine codeAny_call_function hr.depth (KX _ _ lk) rfl S.co S.gen rfl (PySem.W.codeRec_of KX hcd) (hb _ _ _ _ ?_)
  refine wpAny_newFunctionEnv_cells S.kind hkind fun env he s1 x => ?_
  subst he
  refine ⟨lim.keeps x.toInCall.keep, codeAny_func ?_⟩
  obtain ⟨t, ht, hq⟩ := hbody A outer s H vs Q E (hr.deeper _) hsp
  have I : Inv (cxOf CX P w K mg base N qual scope f cdv A outer s H E) [] (start N vs) H s1 := inv_start S hr.hd e0 hl r x
  refine wpAny_mono (ht [] s1 (start N vs) H _ I hq) (fun fl s' hs => ?_) fun e s' hs => hs
  have fin : ∀ {σ' : St} {H' : Hp} {v : V} {u : Value}, Inv (cxOf CX P w K mg base N qual scope f cdv A outer s H E) [] σ' H' s' -> RelV v u -> Q v H' -> CE outer P w H s Q u s' :=
    fun {σ' H' v u} J rv q => ⟨v, H', J.os, J.bare, J.base, J.hok, rv, q⟩
  cases fl with
  | ret u =>
    obtain ⟨v, σ', H', J, rv, q⟩ := hs
    exact fin J rv q
  | next =>
    obtain ⟨σ', H', J, q⟩ := hs
    exact fin (v := V.non) (u := Value.none) J rfl q
  | brk =>
    obtain ⟨_, _, _, q⟩ := hs
    exact False.elim q
  | cont =>
    obtain ⟨_, _, _, q⟩ := hs
    exact False.elim q
end L2
namespace L2
open PySem PySem.Spec PyProof.Rows
section
variable {X : Cx} {x : Str} {p pos : Pos} {e : Expr} {es : List Expr} {t : TA} {id T : String} {r : List V -> Hp -> VK -> Prop}
noncomputable def tCB (r : List V -> Hp -> VK -> Prop) (t : TA) : TE := fun σ H Q => t σ H fun vs H1 => r vs H1 Q
theorem pe_callB (hc : CallR X (.builtin id) r) (hg : Gl X x) (hm : X.mg x = none) (hv : bootBuiltins x = some (.builtin id)) (ha : PA X (e :: es) t) (hn : autoParam (x ≠ "__name__") L2.au1._auto_1) (hdb : autoParam ((x == ("__debug__" : Str)) = false) L2.au1._auto_1)
    (he : autoParam (starEach (e :: es) X.env = (false, eval e X.env) :: starEach es X.env) L2.au3._auto_1) (hpl : autoParam ((backTo pos (starEach es X.env)).any (·.1) = false) L2.au3._auto_1) : PE X (.Call (.Name x p) (e :: es) [] pos) (tCB r t) := by
  intro pins s σ H Q I h
  refine wpAny_Call_Name_kw (ld_blt I hg hm hv ?_ hn hdb)
  exact PyProof.Rows.callWith_builtin1 (thn (ha pos pins s σ H _ I h) fun us s1 ⟨vs, H1, I1, r1, q1⟩ => hc pins s1 σ H1 vs us Q I1 r1 q1) he hpl
theorem pe_callTy (hc : CallR X (.type T) r) (hg : Gl X x) (hm : X.mg x = none) (hv : bootBuiltins x = some (.type T)) (ha : PA X (e :: es) t) (hn : autoParam (x ≠ "__name__") L2.au1._auto_1) (hdb : autoParam ((x == ("__debug__" : Str)) = false) L2.au1._auto_1)
    (he : autoParam (starEach (e :: es) X.env = (false, eval e X.env) :: starEach es X.env) L2.au3._auto_1) (hpl : autoParam ((backTo pos (starEach es X.env)).any (·.1) = false) L2.au3._auto_1) : PE X (.Call (.Name x p) (e :: es) [] pos) (tCB r t) := by
  intro pins s σ H Q I h
  refine wpAny_Call_Name_kw (ld_blt I hg hm hv ?_ hn hdb)
  exact PyProof.Rows.callWith_type1 (thn (ha pos pins s σ H _ I h) fun us s1 ⟨vs, H1, I1, r1, q1⟩ => hc pins s1 σ H1 vs us Q I1 r1 q1) he hpl
end
end L2
namespace HT
open PySem PyProof.Rows
section
open PySem.SeqAt
open PySem.AutoSeq1 (wpAny_loadPart')
open PySem.MeetsSeq PySem.MeetsSeq2 PySem.MeetsSeq3
end
section
variable {prog : Program} {w : World} {A : Around} {E : Value -> Shared -> Prop} {s : Shared}
theorem cat_tup {t b : Addr} {vs ws : List Value} {Q : Value -> Shared -> Prop} (ht : IsTup s.heap t vs.toArray) (hb : IsTup s.heap b ws.toArray) (hv : vs ≠ [])
    (h1 : ws = [] -> Q (.ref t) s) (h2 : ws ≠ [] -> Q (.ref s.heap.objs.size) { s with heap := s.heap.push { cls := .type "tuple", data := .seq (vs ++ ws).toArray } })
    (hsz : vs.length + ws.length <= sizeLine) : wpAny (model prog w) A (binaryOp .Add (.ref t) (.ref b)) Q E s := by
  obtain ⟨⟨cls, dd, data, sl⟩, ho, hc, n, hd⟩ := id ht
  obtain ⟨⟨cls2, dd2, data2, sl2⟩, ho2, hc2, n2, hd2⟩ := id hb
  simp only at hc hd hc2 hd2
  subst hc hd hc2 hd2
  have e : vs.toArray ++ ws.toArray = (vs ++ ws).toArray := by simp
  by_cases hw : ws = []
  · exact concat_meets ⟨_, ho, rfl⟩ ⟨_, ho2, rfl⟩ noFill_tuple_add seq_tuple_add PySem.F.slot_tuple_add PySem.F.entry_tuple_add (PySem.F.args_tuple_add_2 _ _)
      (tuple_addW1 t b vs.toArray ws.toArray n n2 dd dd2 sl sl2 (by simpa using hv) (by simp [hw])) ⟨ho, ho2, h1 hw⟩
  · refine concat_meets ⟨_, ho, rfl⟩ ⟨_, ho2, rfl⟩ noFill_tuple_add seq_tuple_add PySem.F.slot_tuple_add PySem.F.entry_tuple_add (PySem.F.args_tuple_add_2 _ _)
      (tuple_addW2 t b vs.toArray ws.toArray n n2 dd dd2 sl sl2 (by simpa using hv) (by simpa using hw) (by rw [List.size_toArray, List.size_toArray]; exact hsz)) ⟨ho, ho2, ?_⟩
    rw [e]
    exact h2 hw
noncomputable def sIx (n d : Nat) : Option Int -> Nat
  | none => d
  | some v => if v < 0 then (v + (n : Int)).toNat else min v.toNat n
theorem sIx_none (n d : Nat) : sIx n d none = d := rfl
theorem sIx_nat (n d k : Nat) : sIx n d (some (k : Int)) = min k n := by
  show (if (k : Int) < 0 then ((k : Int) + (n : Int)).toNat else min (k : Int).toNat n) = min k n
  rw [if_neg (by lia), Int.toNat_natCast]
theorem sIx_le (n d : Nat) (hd : d <= n) (o : Option Int) : sIx n d o <= n := by
  cases o with
  | none => exact hd
  | some v =>
    show (if v < 0 then (v + (n : Int)).toNat else min v.toNat n) <= n
    by_cases hv : v < 0
    · rw [if_pos hv]; lia
    · rw [if_neg hv]; exact Nat.min_le_right _ _
theorem clip_eq (v : Int) (n d : Nat) : (if v < 0 then max (v + (n : Int)) 0 else min v (n : Int)) = ((sIx n d (some v) : Nat) : Int) := by
  show (if v < 0 then max (v + (n : Int)) 0 else min v (n : Int)) = (((if v < 0 then (v + (n : Int)).toNat else min v.toNat n) : Nat) : Int)
  by_cases hv : v < 0
  · simp only [if_pos hv]; lia
  · simp only [if_neg hv]; lia
theorem adjust_gen (lo hi : Option Int) (n : Nat) : Builtin.Slice.sliceAdjust lo hi 1 (n : Int) = (((sIx n 0 lo : Nat) : Int), ((sIx n n hi : Nat) : Int)) := by
  have h1 : ¬ ((1 : Int) < 0) := by lia
  unfold Builtin.Slice.sliceAdjust
  simp only [h1, if_false]
  refine Prod.ext ?_ ?_
  · cases lo with
    | none => rfl
    | some v => exact clip_eq v n 0
  · cases hi with
    | none => rfl
    | some v => exact clip_eq v n n
theorem places_gen (i j : Nat) : Builtin.Slice.slicePlaces (i : Int) (j : Int) 1 = j - i := by
  unfold Builtin.Slice.slicePlaces
  have h1 : (1 : Int) > 0 := by lia
  simp only [h1, if_true, Int.ediv_one]
  split <;> lia
theorem slicePart_ {v : Value} {o : Option Int} {Q : Option Int -> Shared -> Prop} (p : IsPart v o) (h : Q o s) : wpAny (model prog w) A (Builtin.Slice.slicePartIndex v) Q E s := by
  cases p with
  | none => exact slicePart_none h
  | int i t => exact slicePart_int h
theorem sliceApplied_gen {sl : Addr} {vl vu : Value} {lo hi : Option Int} {n : Nat} {Q : Int × Int × Nat -> Shared -> Prop} (hs : s.heap.IsSliceOf sl vl vu .none) (pl : IsPart vl lo) (pu : IsPart vu hi)
    (h : Q (((sIx n 0 lo : Nat) : Int), 1, sIx n n hi - sIx n 0 lo) s) : wpAny (model prog w) A (Builtin.Slice.sliceApplied (.ref sl) (pure (n : Int))) Q E s := by
  obtain ⟨os, hos, hcs, hds⟩ := id hs
  unfold Builtin.Slice.sliceApplied Builtin.Slice.sliceFields
  refine wpAny_bind (wpAny_bind (wpAny_field hos hds (x := vl) rfl (wpAny_bind (wpAny_field hos hds (x := vu) rfl (wpAny_bind (wpAny_field hos hds (x := .none) rfl (wpAny_pure ?_)))))))
  refine wpAny_bind (slicePart_none ?_)
  show wpAny _ _ (if ((1 : Int) == 0) = true then _ else _) _ _ s
  rw [if_neg (by decide)]
  refine wpAny_bind (slicePart_ pl (wpAny_bind (slicePart_ pu (wpAny_bind (wpAny_pure ?_)))))
  show wpAny _ _ (match Builtin.Slice.sliceAdjust lo hi 1 (n : Int) with | (lo, hi) => pure (lo, (1 : Int), Builtin.Slice.slicePlaces lo hi 1)) _ _ s
  rw [adjust_gen lo hi n]
  show wpAny _ _ (pure (((sIx n 0 lo : Nat) : Int), (1 : Int), Builtin.Slice.slicePlaces ((sIx n 0 lo : Nat) : Int) ((sIx n n hi : Nat) : Int) 1)) _ _ s
  rw [places_gen]
  exact wpAny_pure h
theorem pick_gen (xs : Array Value) (i k : Nat) : ((List.range k).filterMap fun (m : Nat) => xs[((i : Int) + (m : Int) * 1).toNat]?).toArray = ((xs.toList.drop i).take k).toArray := by
  have e : (fun (m : Nat) => xs[((i : Int) + (m : Int) * 1).toNat]?) = fun m => xs[i + m]? := by
    funext m
    have : ((i : Int) + (m : Int) * 1).toNat = i + m := by lia
    rw [this]
  rw [e]
  have := pick_run xs i k
  rw [List.filterMap_map] at this
  have e2 : ((fun x => xs[x]?) ∘ fun x => i + x) = fun m => xs[i + m]? := rfl
  rw [e2] at this
  rw [this]
theorem getItem_tuple_cut {t sl : Addr} {items : Array Value} {vl vu : Value} {lo hi : Option Int} {Q : Value -> Shared -> Prop} (ht : IsTup s.heap t items) (hs : s.heap.IsSliceOf sl vl vu .none) (pl : IsPart vl lo) (pu : IsPart vu hi)
    (hw : ¬ (sIx items.size 0 lo = 0 /\ sIx items.size items.size hi = items.size))
    (h : Q (.ref s.heap.objs.size) { s with heap := s.heap.push { cls := .type "tuple", data := .seq ((items.toList.drop (sIx items.size 0 lo)).take (sIx items.size items.size hi - sIx items.size 0 lo)).toArray } })
    (hsz : items.size <= sizeLine) : wpAny (model prog w) A (getItem (.ref t) (.ref sl)) Q E s := by
  have htake : sizeOk (.seq ((items.toList.drop (sIx items.size 0 lo)).take (sIx items.size items.size hi - sIx items.size 0 lo)).toArray) := by
    show ((items.toList.drop (sIx items.size 0 lo)).take (sIx items.size items.size hi - sIx items.size 0 lo)).toArray.size <= sizeLine
    rw [List.size_toArray, List.length_take, List.length_drop, Array.length_toList]
    omega
  have hj : sIx items.size items.size hi <= items.size := sIx_le _ _ (Nat.le_refl _) hi
  obtain ⟨os, hos, hcs, hds⟩ := id hs
  have hTs : s.TypeIs (.ref sl) "slice" := ⟨os, hos, hcs⟩
  unfold getItem
  try with_reducible refine wpAny_holding ?_
  first | refine wpAny_bind (wpAny_pure ?_) | skip
  refine wpAny_bind (wpAny_sequenceKey ht.typeIs (by decide) ?_)
  refine wpAny_bind (wpAny_callSpecial?_slot (name := Str.ofString "__getitem__") ht.typeIs PyProof.Rows.slot_tuple_getitem
    (wpAny_call_entry PyProof.Rows.slot_tuple_getitem ht.typeIs entry_tuple_getitem ?_ (args_tuple_getitem _ _)))
  show wpAny _ _ (Builtin.Tuple.tupleItemsOf (.ref t) >>= _) _ _ s
  refine wpAny_bind (tupleItemsOf_ ht ?_)
  refine wpAny_bind (wpAny_typeOf hTs ?_)
  rw [if_pos (by decide)]
  refine wpAny_bind (sliceApplied_gen hs pl pu ?_)
  have hno : ¬ ((((sIx items.size 0 lo : Nat) : Int) == 0 && (1 : Int) == 1 && (sIx items.size items.size hi - sIx items.size 0 lo) == items.size) = true) := by
    intro q
    rw [Bool.and_eq_true, Bool.and_eq_true] at q
    have q1 : ((sIx items.size 0 lo : Nat) : Int) = 0 := eq_of_beq q.1.1
    have q2 : sIx items.size items.size hi - sIx items.size 0 lo = items.size := eq_of_beq q.2
    exact hw ⟨by omega, by omega⟩
  show wpAny _ _ (if (((sIx items.size 0 lo : Nat) : Int) == 0 && (1 : Int) == 1 && (sIx items.size items.size hi - sIx items.size 0 lo) == items.size) = true then _ else _) _ _ s
  rw [if_neg hno, pick_gen]
  first
    | exact wpAny_bind (m := Builtin.Tuple.tupleExact _) (wpAny_newObj_type (wpAny_pure ⟨_, rfl, wpAny_pure h⟩) htake)
    | exact wpAny_bind (m := Builtin.Tuple.tupleExact _) (wpAny_newObj_type (wpAny_bind (wpAny_pure (wpAny_pure ⟨_, rfl, wpAny_pure h⟩))) htake)
    | exact wpAny_bind (wpAny_bind (m := Builtin.Tuple.tupleExact _) (wpAny_newObj_type (wpAny_pure (wpAny_pure ⟨_, rfl, wpAny_pure h⟩)) htake))
    | exact wpAny_bind (wpAny_bind (m := Builtin.Tuple.tupleExact _) (wpAny_newObj_type (wpAny_pure ⟨_, rfl, wpAny_pure h⟩) htake))
end
end HT
namespace L2
open PySem PySem.Spec PyProof.Rows
noncomputable abbrev TO := St -> Hp -> (Option Int -> Hp -> Prop) -> Prop
noncomputable def PO (X : Cx) (e : Option Expr) (t : TO) : Prop :=
  ∀ (pins : List (Addr × Obj)) (s : Shared) (σ : St) (H : Hp) (Q : Option Int -> Hp -> Prop), Inv X pins σ H s -> t σ H Q ->
    wpAny (model X.prog X.w) X.A (evalPart e X.env) (fun u s' => ∃ o H', Inv X pins σ H' s' /\ IsPart u o /\ Q o H') X.xe s
noncomputable def tNoPart : TO := fun _ H Q => Q none H
noncomputable def tPart (t : TE) : TO := fun σ H Q => t σ H fun x H1 => ∃ i, x = .int i /\ Q (some i) H1
section
variable {X : Cx} {e : Expr} {te : TE} {lo hi : Option Expr} {tl th : TO} {pos p2 : Pos}
theorem po_none : PO X none tNoPart := by
  intro pins s σ H Q I h
  rw [evalPart_none]
  exact wpAny_pure ⟨none, H, I, .none, h⟩
theorem po_some (h : PE X e te) : PO X (some e) (tPart te) := by
  intro pins s σ H Q I hw
  rw [evalPart_some]
  refine thn (h pins s σ H _ I hw) fun u s1 ⟨x, H1, I1, r1, q1⟩ => ?_
  obtain ⟨i, rfl, q⟩ := q1
  obtain ⟨t, rfl⟩ := r1
  exact ⟨some i, H1, I1, .int i t, q⟩
noncomputable def SlR (X : Cx) (r : V -> Option Int -> Option Int -> Hp -> VK -> Prop) : Prop :=
  ∀ (pins : List (Addr × Obj)) (s : Shared) (σ : St) (H : Hp) (x : V) (v vl vu : Value) (lo hi : Option Int) (sl : Addr) (Q : VK), Inv X pins σ H s -> RelV x v -> s.heap.IsSliceOf sl vl vu .none -> IsPart vl lo -> IsPart vu hi -> r x lo hi H Q ->
    ∃ T id, typeLookup (.type T) "__getitem__" = pure (some (.builtin id)) /\ s.TypeIs v T /\ wpAny (model X.prog X.w) X.A (getItem v (.ref sl)) (EP X pins σ Q) X.xe s
theorem SlR.or {r r' : V -> Option Int -> Option Int -> Hp -> VK -> Prop} (h : SlR X r) (h' : SlR X r') : SlR X (fun x lo hi H Q => r x lo hi H Q \/ r' x lo hi H Q) := by
  intro pins s σ H x v vl vu lo hi sl Q I rx hs pl pu q
  rcases q with q | q
  · exact h pins s σ H x v vl vu lo hi sl Q I rx hs pl pu q
  · exact h' pins s σ H x v vl vu lo hi sl Q I rx hs pl pu q
noncomputable def tSl (r : V -> Option Int -> Option Int -> Hp -> VK -> Prop) (te : TE) (tl th : TO) : TE := fun σ H Q => te σ H fun x H1 => tl σ H1 fun l H2 => th σ H2 fun u H3 => r x l u H3 Q
theorem pe_slice {r : V -> Option Int -> Option Int -> Hp -> VK -> Prop} (hr : SlR X r) (he : PE X e te) (hl : PO X lo tl) (hu : PO X hi th) : PE X (.Subscript e (.Slice lo hi none p2) pos) (tSl r te tl th) := by
  intro pins s σ H Q I h
  refine Subscript_ (thn (he pins s σ H _ I h) fun v s1 ⟨x, H1, I1, r1, q1⟩ => ?_)
  refine wpAny_Slice (thn (hl pins s1 σ H1 _ I1 q1) fun vl s2 ⟨l, H2, I2, pl, q2⟩ => thn (hu pins s2 σ H2 _ I2 q2) fun vu s3 ⟨u, H3, I3, pu, q3⟩ => ?_)
  rw [evalPart_none]
  refine wpAny_pure ?_
  have I4 : Inv X pins σ H3 { s3 with heap := s3.heap.push { cls := .type "slice", data := .fields #[vl, vu, .none] } } := I3.kept (t' := s3.toks) fun b ob q => Heap.get?_push_of_some _ q
  obtain ⟨T, id, hT, ht, hg⟩ := hr pins { s3 with heap := s3.heap.push { cls := .type "slice", data := .fields #[vl, vu, .none] } } σ H3 x v vl vu l u s3.heap.objs.size Q I4 r1 (Heap.IsSliceOf.new ..) pl pu q3
  show wpAny (model X.prog X.w) X.A (subscriptTail e (.Slice lo hi none p2) v (.ref s3.heap.objs.size)) (EP X pins σ Q) X.xe { s3 with heap := s3.heap.push { cls := .type "slice", data := .fields #[vl, vu, .none] } }
  exact tail_any (ops := [.ref s3.heap.objs.size, v]) ht hT hg (by with_unfolding_all rfl)
noncomputable def cutV (xs : List V) (lo hi : Option Int) : List V := (xs.drop (HT.sIx xs.length 0 lo)).take (HT.sIx xs.length xs.length hi - HT.sIx xs.length 0 lo)
theorem cutV_length (xs : List V) (lo hi : Option Int) : (cutV xs lo hi).length <= xs.length := by
  unfold cutV
  rw [List.length_take, List.length_drop]
  omega
noncomputable def rSlT (K : PySem.W.Frag) : V -> Option Int -> Option Int -> Hp -> VK -> Prop := fun x lo hi H Q => ∃ a xs, x = .ref a /\ SqT K H a xs /\
  ¬ (HT.sIx xs.length 0 lo = 0 /\ HT.sIx xs.length xs.length hi = xs.length) /\ ∀ p, H p = none -> Q (.ref p) (upd H p (.tup (cutV xs lo hi)))
theorem sl_tup : SlR X (rSlT X.K) := by
  intro pins s σ H x v vl vu lo hi sl Q I rx hs pl pu h
  obtain ⟨a, xs, rfl, hx, hw, q⟩ := h
  cases rx
  obtain ⟨its, r, ht, hz⟩ := I.tuple hx
  have hlen : its.toArray.size = xs.length := by rw [List.size_toArray]; exact r.length.symm
  refine ⟨"tuple", _, PyProof.Rows.slot_tuple_getitem.lookup, ht.typeIs, ?_⟩
  refine HT.getItem_tuple_cut ht hs pl pu (by rw [hlen]; exact hw) ?_ (by rw [hlen]; exact hz)
  rw [hlen]
  refine ⟨.ref s.heap.objs.size, _, I.laid (t' := s.toks) (o := .tup (cutV xs lo hi)) (fun b ob q => Heap.get?_push_of_some _ q) (Nat.le_refl _) ?_, rfl, q _ (I.hok.fresh (Nat.le_refl _))⟩
  exact ⟨Nat.le_trans (cutV_length xs lo hi) hz, _, (r.drop (HT.sIx xs.length 0 lo)).take (HT.sIx xs.length xs.length hi - HT.sIx xs.length 0 lo), TupN.new _ _⟩
noncomputable def rCatT (K : PySem.W.Frag) : R2 := fun x y H Q => ∃ a b xs ys, x = .ref a /\ y = .ref b /\ SqT K H a xs /\ SqT K H b ys /\ xs ≠ [] /\ xs.length + ys.length <= sizeLine /\
  (ys = [] -> Q (.ref a) H) /\ (ys ≠ [] -> ∀ p, H p = none -> Q (.ref p) (upd H p (.tup (xs ++ ys))))
theorem Vals.nil_iff {xs : List V} {us : List Value} (r : Vals xs us) : us = [] ↔ xs = [] := by
  cases r with
  | nil => simp
  | cons _ _ => simp
theorem op_catT : OpR X (binaryOp .Add) (rCatT X.K) := by
  intro pins s σ H x y v u Q I rx ry h
  obtain ⟨a, b, xs, ys, rfl, rfl, ha, hb, hx, hz, q1, q2⟩ := h
  cases rx
  cases ry
  obtain ⟨its, r1, p1, _⟩ := I.tuple ha
  obtain ⟨its2, r2, p2, _⟩ := I.tuple hb
  refine HT.cat_tup p1 p2 (fun z => hx (r1.nil_iff.mp z)) (fun z => ⟨.ref a, H, I, rfl, q1 (r2.nil_iff.mp z)⟩) (fun z => ?_) (by rw [<- r1.length, <- r2.length]; exact hz)
  refine ⟨.ref s.heap.objs.size, _, I.laid (t' := s.toks) (o := .tup (xs ++ ys)) (fun b ob q => Heap.get?_push_of_some _ q) (Nat.le_refl _) ?_, rfl, q2 (fun w => z (r2.nil_iff.mpr w)) _ (I.hok.fresh (Nat.le_refl _))⟩
  exact ⟨by rw [List.length_append]; exact hz, _, r1.append r2, TupN.new _ _⟩
end
end L2
namespace L2
open PySem PySem.Spec PyProof.Rows
noncomputable def ixN (n : Nat) (i : Int) : Option Nat := if 0 <= i then (if i < n then some i.toNat else none) else if -(n : Int) <= i then some (i + n).toNat else none
noncomputable def atI {α : Type} (xs : List α) (i : Int) : Option α := (ixN xs.length i).bind fun j => xs[j]?
theorem ixN_seq {n : Nat} {i : Int} {j : Nat} (h : ixN n i = some j) : seqIndex? i n = some j /\ j < n /\ -(n : Int) <= i /\ i < n := by
  unfold ixN at h
  by_cases h0 : 0 <= i
  · rw [if_pos h0] at h
    by_cases h1 : i < n
    · rw [if_pos h1] at h
      have e : i.toNat = j := Option.some.inj h
      exact ⟨by rw [seqIndex_of h0 h1, e], by lia, by lia, h1⟩
    · rw [if_neg h1] at h; cases h
  · rw [if_neg h0] at h
    by_cases h1 : -(n : Int) <= i
    · rw [if_pos h1] at h
      have e : (i + n).toNat = j := Option.some.inj h
      exact ⟨by rw [seqIndex_neg (by lia) h1, e], by lia, h1, by lia⟩
    · rw [if_neg h1] at h; cases h
theorem atI_get {α : Type} {xs : List α} {i : Int} {v : α} (h : atI xs i = some v) : ∃ j, seqIndex? i xs.length = some j /\ xs[j]? = some v /\ j < xs.length /\ -(xs.length : Int) <= i /\ i < xs.length := by
  unfold atI at h
  cases e : ixN xs.length i with
  | none => rw [e] at h; cases h
  | some j =>
    rw [e] at h
    obtain ⟨h1, h2, h3, h4⟩ := ixN_seq e
    exact ⟨j, h1, h, h2, h3, h4⟩
theorem atI_nat {α : Type} {xs : List α} {j : Nat} {v : α} (h : xs[j]? = some v) : atI xs (j : Int) = some v := by
  have hj : j < xs.length := (List.getElem?_eq_some_iff.mp h).1
  have e : ixN xs.length (j : Int) = some j := by
    unfold ixN
    rw [if_pos (by lia), if_pos (by lia)]; simp
  unfold atI; rw [e]; exact h
noncomputable def PlainIx (b : Expr) : Prop := ∀ o i, subscripted b false o i = operate [o, i] (getItem o i)
noncomputable def IxR (X : Cx) (r : R2) : Prop :=
  ∀ (value slice : Expr) (pins : List (Addr × Obj)) (s : Shared) (σ : St) (H : Hp) (x y : V) (v u : Value) (Q : VK), Inv X pins σ H s -> RelV x v -> RelV y u -> r x y H Q ->
    subscripted slice false v u = operate [v, u] (getItem v u) -> wpAny (model X.prog X.w) X.A (subscriptTail value slice v u) (EP X pins σ Q) X.xe s
noncomputable def MtR (X : Cx) (id : String) (r : V -> List V -> Hp -> VK -> Prop) : Prop :=
  ∀ (pins : List (Addr × Obj)) (s : Shared) (σ : St) (H : Hp) (x : V) (xs : List V) (v : Value) (us : List Value) (Q : VK), Inv X pins σ H s -> RelV x v -> Vals xs us -> r x xs H Q ->
    wpAny (model X.prog X.w) X.A (call (.builtin id) (v :: us)) (EP X pins σ Q) X.xe s
section
variable {X : Cx} {a b : Expr} {ta tb : TE} {pos : Pos}
theorem IxR.or {r r' : R2} (h : IxR X r) (h' : IxR X r') : IxR X (fun x y H Q => r x y H Q \/ r' x y H Q) := by
  intro value slice pins s σ H x y v u Q I rx ry q hs
  rcases q with q | q
  · exact h value slice pins s σ H x y v u Q I rx ry q hs
  · exact h' value slice pins s σ H x y v u Q I rx ry q hs
theorem MtR.or {id : String} {r r' : V -> List V -> Hp -> VK -> Prop} (h : MtR X id r) (h' : MtR X id r') : MtR X id (fun x xs H Q => r x xs H Q \/ r' x xs H Q) := by
  intro pins s σ H x xs v us Q I rx rs q
  rcases q with q | q
  · exact h pins s σ H x xs v us Q I rx rs q
  · exact h' pins s σ H x xs v us Q I rx rs q
theorem pe_ix {r : R2} (hr : IxR X r) (ha : PE X a ta) (hb : PE X b tb) (hs : PlainIx b) : PE X (.Subscript a b pos) (tOp r ta tb) := by
  intro pins s σ H Q I h
  exact Subscript_ (binT ha hb I h fun v u s2 x y H2 I2 rx ry q => hr a b pins s2 σ H2 x y v u Q I2 rx ry q (hs _ _))
noncomputable def rIxL (K : PySem.W.Frag) : R2 := fun x y H Q => ∃ p xs i v, x = .ref p /\ y = .int i /\ SqL K H p xs /\ atI xs i = some v /\ Q v H
noncomputable def rIxT (K : PySem.W.Frag) : R2 := fun x y H Q => ∃ p xs i v, x = .ref p /\ y = .int i /\ SqT K H p xs /\ atI xs i = some v /\ Q v H
noncomputable def rIxS : R2 := fun x y H Q => ∃ z i c, x = .str z /\ y = .int i /\ z.length <= sizeLine /\ atI z.cps.toList i = some c /\ Q (.str ⟨#[c]⟩) H
theorem ix_list : IxR X (rIxL X.K) := by
  intro value slice pins s σ H x y v u Q I rx ry h hs
  obtain ⟨p, xs, i, z, rfl, rfl, hq, he, q⟩ := h
  cases rx
  obtain ⟨t, rfl⟩ := ry
  obtain ⟨its, r, pl, hz⟩ := I.list hq
  obtain ⟨j, h1, h2, h3, h4, h5⟩ := atI_get he
  obtain ⟨w, ew, rw'⟩ := r.get h2
  have hl := r.length
  have hn := line63
  have fin : EP X pins σ Q w s := ⟨z, H, I, rw', q⟩
  by_cases h0 : 0 <= i
  · have hj : i.toNat = j := by
      rw [seqIndex_of h0 h5] at h1
      exact Option.some.inj h1
    exact item_listR pl.isList h0 (by lia) (by rw [hj]; simpa using ew) fin hs
  · have hj : (i + (its.toArray.size : Int)).toNat = j := by
      rw [seqIndex_neg (by lia) h4] at h1
      rw [List.size_toArray, <- hl]
      exact Option.some.inj h1
    exact subscriptTail_builtinR (x := w) pl.isList.typeIs slot_list_getitem.lookup
      (wpAny_getItem_list_neg (Q := fun r s' => r = w /\ EP X pins σ Q r s') pl.isList (by lia) (by rw [List.size_toArray] <;> lia) (by lia) (by rw [hj]; simpa using ew) ⟨rfl, fin⟩) hs
theorem ix_tup : IxR X (rIxT X.K) := by
  intro value slice pins s σ H x y v u Q I rx ry h hs
  obtain ⟨p, xs, i, z, rfl, rfl, hq, he, q⟩ := h
  cases rx
  obtain ⟨t, rfl⟩ := ry
  obtain ⟨its, r, pl, hz⟩ := I.tuple hq
  obtain ⟨j, h1, h2, h3, h4, h5⟩ := atI_get he
  obtain ⟨w, ew, rw'⟩ := r.get h2
  have hl := r.length
  have hn := line63
  have fin : EP X pins σ Q w s := ⟨z, H, I, rw', q⟩
  exact subscriptTail_builtinR (x := w) pl.typeIs slot_tuple_getitem.lookup
    (getItem_tuple (j := j) (Q := fun r s' => r = w /\ EP X pins σ Q r s') pl (by lia) (by lia) (by rw [List.size_toArray, <- hl]; exact h1) (by simpa using ew) ⟨rfl, fin⟩) hs
theorem ix_str : IxR X rIxS := by
  intro value slice pins s σ H x y v u Q I rx ry h hs
  obtain ⟨z, i, c, rfl, rfl, hz, he, q⟩ := h
  obtain ⟨t, rfl⟩ := rx
  obtain ⟨t', rfl⟩ := ry
  obtain ⟨j, h1, h2, h3, h4, h5⟩ := atI_get he
  have hl : z.cps.toList.length = z.length := by simp [Str.length]
  rw [hl] at h1 h4 h5
  have hn := line63
  exact tail_any (typeIs_str s z t) slot_str_getitem.lookup (getItem_str (c := c) (by
    have e1 : decide (i < -(2 ^ 63 : Int)) = false := decide_eq_false (by lia)
    have e2 : decide (i >= 2 ^ 63) = false := decide_eq_false (by lia)
    rw [e1, e2, Bool.or_false]) (by rw [h1]; simpa using h2) ⟨.str ⟨#[c]⟩, H, I.tok _, ⟨_, rfl⟩, q⟩) hs
noncomputable def rIx (K : PySem.W.Frag) : R2 := fun x y H Q => rIxL K x y H Q \/ rIxT K x y H Q \/ rIxS x y H Q
theorem ix_seq : IxR X (rIx X.K) := ix_list.or (ix_tup.or ix_str)
theorem mapSeq_set (its : List Value) (n j : Nat) (u : Value) : Obj.mapSeq (·.setIfInBounds j u) { cls := .type "list", data := .seq its.toArray n } = { cls := .type "list", data := .seq (its.set j u).toArray n } := by
  simp [Obj.mapSeq]
theorem Inv.lst {pins : List (Addr × Obj)} {σ : St} {H : Hp} {s : Shared} {p : Addr} {xs : List V} (I : Inv X pins σ H s) (h : H p = some (.lst xs)) :
    ∃ (its : List Value) (n : Nat), Vals xs its /\ s.heap.get? p = some { cls := .type "list", data := .seq its.toArray n } /\ xs.length <= sizeLine := by
  obtain ⟨z, its, n, r, e⟩ := I.hok p _ h
  exact ⟨its, n, r, e, z⟩
theorem Inv.lstUpd {pins : List (Addr × Obj)} {σ : St} {H : Hp} {s : Shared} {p : Addr} {xs ys : List V} {its its' : List Value} {n n' : Nat} {f : Obj -> Obj} (I : Inv X pins σ H s) (h : H p = some (.lst xs))
    (ho : s.heap.get? p = some { cls := .type "list", data := .seq its.toArray n }) (hf : f { cls := .type "list", data := .seq its.toArray n } = { cls := .type "list", data := .seq its'.toArray n' }) (r : Vals ys its') (hz : ys.length <= sizeLine) (t : Nat) :
    Inv X pins σ (upd H p (.lst ys)) { s with heap := s.heap.update p f, toks := t } := by
  have e : (s.heap.update p f).get? p = some { cls := .type "list", data := .seq its'.toArray n' } := by
    rw [Heap.get?_update_self f ho (by rw [hf] <;> rfl), hf]
  refine I.write (x := p) (e := p) (by rw [h]; trivial) (.inl rfl) (fun b u hb q => (Heap.get?_update_other _ _ (Ne.symm hb)).trans q) ⟨_, e⟩ ?_
  exact ⟨hz, its', n', r, e⟩
noncomputable def rSetL : V -> V -> V -> Hp -> (Hp -> Prop) -> Prop := fun o i v H Q => ∃ p xs k j, o = .ref p /\ i = .int k /\ H p = some (.lst xs) /\ ixN xs.length k = some j /\ Q (upd H p (.lst (xs.set j v)))
theorem set_list : PSet X rSetL := by
  intro pins s σ H o i v ov iv u Q I ro ri rv h
  obtain ⟨p, xs, k, j, rfl, rfl, hp, hj, q⟩ := h
  cases ro
  obtain ⟨t, rfl⟩ := ri
  obtain ⟨its, n, r, ho, hz⟩ := I.lst hp
  obtain ⟨h1, h2, h3, h4⟩ := ixN_seq hj
  have hl := r.length
  have hn := line63
  have I' : Inv X pins σ (upd H p (.lst (xs.set j v))) { s with heap := s.heap.update p (Obj.mapSeq (·.setIfInBounds j u)) } :=
    I.lstUpd hp ho (mapSeq_set its n j u) (r.set rv j) (by rw [List.length_set]; exact hz) s.toks
  by_cases h0 : 0 <= k
  · have hk : k.toNat = j := by
      rw [seqIndex_of h0 h4] at h1
      exact Option.some.inj h1
    exact PySem.W.ki_setAt ho h0 (by lia) (by rw [List.size_toArray, <- hl]; exact h4) (by rw [hk]; exact ⟨_, I', q⟩)
  · have hk : (k + (its.toArray.size : Int)).toNat = j := by
      rw [seqIndex_neg (by lia) h3] at h1
      rw [List.size_toArray, <- hl]
      exact Option.some.inj h1
    exact PySem.W.ki_setBack ho (by lia) (by rw [List.size_toArray, <- hl]; exact h3) (by lia) (by rw [hk]; exact ⟨_, I', q⟩)
theorem slice_bounds (lo hi : Option Int) (n : Nat) : (sliceBounds lo hi none n).1 = ((HT.sIx n 0 lo : Nat) : Int) /\ (sliceBounds lo hi none n).2.1 = ((HT.sIx n n hi : Nat) : Int) /\ (sliceBounds lo hi none n).2.2 = 1 := by
  refine ⟨?_, ?_, rfl⟩
  · cases lo with
    | none => simp [sliceBounds, HT.sIx]
    | some i =>
      simp only [sliceBounds, HT.sIx, Option.getD_none, show (1 : Int) > 0 by decide, if_true]
      by_cases h : i < 0
      · simp only [h, if_true] <;> lia
      · simp only [h, if_false] <;> lia
  · cases hi with
    | none => simp [sliceBounds, HT.sIx]
    | some i =>
      simp only [sliceBounds, HT.sIx, Option.getD_none, show (1 : Int) > 0 by decide, if_true]
      by_cases h : i < 0
      · simp only [h, if_true] <;> lia
      · simp only [h, if_false] <;> lia
theorem slicePick_cut (its : List Value) (lo hi : Option Int) : slicePick its.toArray lo hi none = ((its.drop (HT.sIx its.length 0 lo)).take (HT.sIx its.length its.length hi - HT.sIx its.length 0 lo)).toArray := by
  obtain ⟨h1, h2, h3⟩ := slice_bounds lo hi its.toArray.size
  unfold slicePick
  rw [h1, h2, h3]
  simp only [sliceRange_one, pick_run, List.size_toArray] <;> rfl
noncomputable def rSlL (K : PySem.W.Frag) : V -> Option Int -> Option Int -> Hp -> VK -> Prop := fun x lo hi H Q => ∃ a xs, x = .ref a /\ SqL K H a xs /\ ∀ p, H p = none -> Q (.ref p) (upd H p (.lst (cutV xs lo hi)))
theorem sl_list : SlR X (rSlL X.K) := by
  intro pins s σ H x v vl vu lo hi sl Q I rx hs pl pu h
  obtain ⟨a, xs, rfl, hx, q⟩ := h
  cases rx
  obtain ⟨its, r, ht, hz⟩ := I.list hx
  have hlen := r.length
  refine ⟨"list", _, slot_list_getitem.lookup, ht.isList.typeIs, ?_⟩
  refine wpAny_getItem_list_slice ht.isList hs pl pu .none (by simp) ?_ (by rw [List.size_toArray] <;> lia)
  rw [slicePick_cut, <- hlen]
  refine ⟨.ref s.heap.objs.size, _, I.laid (t' := s.toks) (o := .lst (cutV xs lo hi)) (fun b ob q => Heap.get?_push_of_some _ q) (Nat.le_refl _) ?_, rfl, q _ (I.hok.fresh (Nat.le_refl _))⟩
  exact ⟨Nat.le_trans (cutV_length xs lo hi) hz, _, 0, (r.drop (HT.sIx xs.length 0 lo)).take (HT.sIx xs.length xs.length hi - HT.sIx xs.length 0 lo), Heap.get?_push_size _ rfl⟩
noncomputable def flatV : V -> Bool
  | .non => true
  | .bl _ => true
  | .int _ => true
  | .str _ => true
  | _ => false
noncomputable def eqV : V -> V -> Bool
  | .non, .non => true
  | .bl a, .bl b => a == b
  | .bl a, .int b => (if a then 1 else 0) == b
  | .int a, .bl b => a == (if b then 1 else 0)
  | .int a, .int b => a == b
  | .str a, .str b => a == b
  | _, _ => false
theorem eqAt_V {A : Around} {s : Shared} {y x : V} {u v : Value} (ry : RelV y u) (rx : RelV x v) (fy : flatV y = true) (fx : flatV x = true) : SeqAt.EqAt A s u v (eqV y x) := by
  cases y with
  | non =>
    cases ry
    cases x with
    | non => cases rx; exact SeqAt.EqAt.same _
    | bl b => cases rx; exact SeqAt.EqAt.none_bool b
    | int b => obtain ⟨t, rfl⟩ := rx; exact SeqAt.EqAt.none_int b t
    | str b => obtain ⟨t, rfl⟩ := rx; exact SeqAt.EqAt.none_str b t
    | _ => exact absurd (show false = true from fx) Bool.false_ne_true
  | bl a =>
    cases ry
    cases x with
    | non => cases rx; exact SeqAt.EqAt.bool_none a
    | bl b => cases rx; exact SeqAt.EqAt.bool_bool a b
    | int b => obtain ⟨t, rfl⟩ := rx; exact SeqAt.EqAt.bool_int a b t
    | str b => obtain ⟨t, rfl⟩ := rx; exact SeqAt.EqAt.bool_str a b t
    | _ => exact absurd (show false = true from fx) Bool.false_ne_true
  | int a =>
    obtain ⟨t', rfl⟩ := ry
    cases x with
    | non => cases rx; exact SeqAt.EqAt.int_none a t'
    | bl b => cases rx; exact SeqAt.EqAt.int_bool a t' b
    | int b => obtain ⟨t, rfl⟩ := rx; exact SeqAt.EqAt.int_int a t' b t
    | str b => obtain ⟨t, rfl⟩ := rx; exact SeqAt.EqAt.int_str a t' b t
    | _ => exact absurd (show false = true from fx) Bool.false_ne_true
  | str a =>
    obtain ⟨t', rfl⟩ := ry
    cases x with
    | non => cases rx; exact SeqAt.EqAt.str_none a t'
    | bl b => cases rx; exact SeqAt.EqAt.str_bool a t' b
    | int b => obtain ⟨t, rfl⟩ := rx; exact SeqAt.EqAt.str_int a t' b t
    | str b => obtain ⟨t, rfl⟩ := rx; exact SeqAt.EqAt.str_str a t' b t
    | _ => exact absurd (show false = true from fx) Bool.false_ne_true
  | _ => exact absurd (show false = true from fy) Bool.false_ne_true
noncomputable def eqU (x : V) (u : Value) : Bool := match u with
  | .none => eqV .non x
  | .bool b => eqV (.bl b) x
  | .int i _ => eqV (.int i) x
  | .str z _ => eqV (.str z) x
  | _ => false
theorem eqU_of {x y : V} {u : Value} (r : RelV y u) (f : flatV y = true) : eqU x u = eqV y x := by
  cases y with
  | non => cases r; rfl
  | bl b => cases r; rfl
  | int i => obtain ⟨t, rfl⟩ := r; rfl
  | str z => obtain ⟨t, rfl⟩ := r; rfl
  | _ => exact absurd (show false = true from f) Bool.false_ne_true
theorem any_eqU {x : V} : ∀ {xs : List V} {us : List Value}, Vals xs us -> xs.all flatV = true -> us.any (eqU x) = xs.any fun y => eqV y x
  | _, _, .nil, _ => rfl
  | y :: xs, u :: us, .cons r t, f => by
    rw [List.all_cons, Bool.and_eq_true] at f
    rw [List.any_cons, List.any_cons, eqU_of r f.1, any_eqU t f.2]
theorem mem_eqAt {A : Around} {s : Shared} {x : V} {v : Value} (rx : RelV x v) (fx : flatV x = true) : ∀ {xs : List V} {us : List Value}, Vals xs us -> xs.all flatV = true -> ∀ u ∈ us, SeqAt.EqAt A s u v (eqU x u)
  | _, _, .nil, _ => fun u hu => by cases hu
  | y :: xs, u :: us, .cons r t, f => fun u' hu => by
    rw [List.all_cons, Bool.and_eq_true] at f
    rcases List.mem_cons.mp hu with rfl | hu
    · rw [eqU_of r f.1]; exact eqAt_V r rx f.1 fx
    · exact mem_eqAt rx fx t f.2 u' hu
noncomputable def inV (x : V) (xs : List V) : Bool := xs.any fun y => eqV y x
noncomputable def rIn (K : PySem.W.Frag) (neg : Bool) : R2 := fun x y H Q => ∃ p xs, y = .ref p /\ (SqL K H p xs \/ SqT K H p xs) /\ flatV x = true /\ xs.all flatV = true /\ Q (.bl (if neg then !inV x xs else inV x xs)) H
theorem op_notIn_seq : OpR X (compareOp .NotIn) (rIn X.K true) := by
  intro pins s σ H x y v u Q I rx ry h
  obtain ⟨p, xs, rfl, hq, fx, fs, q⟩ := h
  cases ry
  rcases hq with hq | hq
  · obtain ⟨its, r, pl, hz⟩ := I.list hq
    refine SeqAt.notIn_listAt (eqU x) pl.isList (fun w hw => mem_eqAt rx fx r fs w (by simpa using hw)) ⟨.bl _, H, I, rfl, ?_⟩
    rw [show its.toArray.any (eqU x) = its.any (eqU x) by simp, any_eqU r fs]
    exact q
  · obtain ⟨its, r, pl, hz⟩ := I.tuple hq
    refine SeqAt.notIn_tupleAt (eqU x) pl (fun w hw => mem_eqAt rx fx r fs w (by simpa using hw)) ⟨.bl _, H, I, rfl, ?_⟩
    rw [show its.toArray.any (eqU x) = its.any (eqU x) by simp, any_eqU r fs]
    exact q
theorem call_len_seq : CallR X (.builtin "len") (fun xs H Q => ∃ p ys, xs = [.ref p] /\ (SqL X.K H p ys \/ SqT X.K H p ys) /\ Q (.int ys.length) H) := by
  intro pins s σ H xs us Q I r h
  obtain ⟨p, ys, rfl, hq, q⟩ := h
  obtain ⟨u, rfl, rx⟩ := vals1 r
  cases rx
  have hn := line63
  rcases hq with hq | hq
  · obtain ⟨its, r', pl, hz⟩ := I.list hq
    have hlen := r'.length
    exact Calls.call_len_list pl.isList (by simp only [List.size_toArray] <;> lia) ⟨.int ys.length, H, I.tok _, ⟨s.toks + 1, by rw [List.size_toArray, hlen]⟩, q⟩
  · obtain ⟨its, r', pl, hz⟩ := I.tuple hq
    have hlen := r'.length
    exact len_tuple pl (by simp only [List.size_toArray] <;> lia) ⟨.int ys.length, H, I.tok _, ⟨s.toks + 1, by rw [List.size_toArray, hlen]⟩, q⟩
theorem call_len_str : CallR X (.builtin "len") (fun xs H Q => ∃ z, xs = [.str z] /\ z.length <= sizeLine /\ Q (.int z.length) H) := by
  intro pins s σ H xs us Q I r h
  obtain ⟨z, rfl, hz, q⟩ := h
  obtain ⟨u, rfl, t, rfl⟩ := vals1 r
  have hn := line63
  exact len_str (by lia) ⟨.int z.length, H, I.tok _, ⟨_, rfl⟩, q⟩
theorem CallR.or {f : Value} {r r' : List V -> Hp -> VK -> Prop} (h : CallR X f r) (h' : CallR X f r') : CallR X f (fun xs H Q => r xs H Q \/ r' xs H Q) := by
  intro pins s σ H xs us Q I rs q
  rcases q with q | q
  · exact h pins s σ H xs us Q I rs q
  · exact h' pins s σ H xs us Q I rs q
theorem call_list_of : CallR X (.type "list") (fun xs H Q => ∃ p ys, xs = [.ref p] /\ (SqL X.K H p ys \/ SqT X.K H p ys) /\ ∀ l, H l = none -> Q (.ref l) (upd H l (.lst ys))) := by
  intro pins s σ H xs us Q I r h
  obtain ⟨p, ys, rfl, hq, q⟩ := h
  obtain ⟨u, rfl, rx⟩ := vals1 r
  cases rx
  have fin : ∀ (its : List Value), Vals ys its -> ys.length <= sizeLine -> ∀ (h' : Heap) (c' : Nat), (∀ b o', s.heap.get? b = some o' -> h'.get? b = some o') ->
      h'.get? s.heap.objs.size = some { cls := .type "list", dict := none, data := .seq its.toArray c', slots := #[] } -> EP X pins σ Q (.ref s.heap.objs.size) { s with heap := h' } := fun its r' hz h' c' kp e =>
    ⟨.ref s.heap.objs.size, _, I.laid (t' := s.toks) kp (Nat.le_refl _) (show ObjOk X.prog X.w _ h' _ (.lst ys) from ⟨hz, its, c', r', e⟩), rfl, q _ (I.hok.fresh (Nat.le_refl _))⟩
  rcases hq with hq | hq
  · obtain ⟨its, r', pl, hz⟩ := I.list hq
    have hlen := r'.length
    obtain ⟨o, ho, hc, n, hd⟩ := pl.isList
    exact call_list_seq p (.inl rfl) ho hc hd (fun h' c' kp e => fin its r' hz h' c' kp e) (by simp only [List.size_toArray] <;> lia)
  · obtain ⟨its, r', pl, hz⟩ := I.tuple hq
    have hlen := r'.length
    obtain ⟨o, ho, hc, n, hd⟩ := pl
    exact call_list_seq p (.inr rfl) ho hc hd (fun h' c' kp e => fin its r' hz h' c' kp e) (by simp only [List.size_toArray] <;> lia)
theorem call_tuple_of : CallR X (.type "tuple") (fun xs H Q => ∃ p ys, xs = [.ref p] /\ ((SqL X.K H p ys /\ ∀ l, H l = none -> Q (.ref l) (upd H l (.tup ys))) \/ (SqT X.K H p ys /\ Q (.ref p) H))) := by
  intro pins s σ H xs us Q I r h
  obtain ⟨p, ys, rfl, h⟩ := h
  obtain ⟨u, rfl, rx⟩ := vals1 r
  cases rx
  rcases h with ⟨hq, q⟩ | ⟨hq, q⟩
  · obtain ⟨its, r', pl, hz⟩ := I.list hq
    have hlen := r'.length
    refine call_tuple_list pl.isList (fun h' kp => ?_) (by simp only [List.size_toArray] <;> lia)
    have I1 : Inv X pins σ H { s with heap := h' } := I.kept (t' := s.toks) kp
    have I2 : Inv X pins σ (upd H h'.objs.size (.tup ys)) { s with heap := h'.push { cls := .type "tuple", data := .seq its.toArray } } :=
      I1.laid (t' := s.toks) (fun b o e => Heap.get?_push_of_some _ e) (Nat.le_refl _) (show ObjOk X.prog X.w _ _ _ (.tup ys) from ⟨hz, its, r', TupN.new _ _⟩)
    exact ⟨.ref h'.objs.size, _, I2, rfl, q _ (I1.hok.fresh (Nat.le_refl _))⟩
  · obtain ⟨its, r', pl, hz⟩ := I.tuple hq
    exact call_tuple_same pl ⟨.ref p, H, I, rfl, q⟩
noncomputable def tyV (K : PySem.W.Frag) (T : String) (x : V) (H : Hp) : Prop := match x with
  | .str _ => T = "str"
  | .int _ => T = "int"
  | .ref p => (T = "list" /\ ∃ xs, SqL K H p xs) \/ (T = "tuple" /\ ∃ o, K.lookup p = some o /\ o.cls = .type "tuple" /\ o.dict = none) \/
      (T = "dict" /\ ((∃ kvs, H p = some (.dK kvs)) \/ ∃ kvs, H p = some (.dT kvs))) \/ (T = "set" /\ ∃ S n, H p = some (.set S n))
  | _ => False
theorem tyV_is {pins : List (Addr × Obj)} {σ : St} {H : Hp} {s : Shared} {T : String} {x : V} {v : Value} (I : Inv X pins σ H s) (r : RelV x v) (ty : tyV X.K T x H) :
    s.TypeIs v T /\ ∀ a, v = .ref a -> ∃ ob, s.heap.get? a = some ob /\ ob.dict = none := by
  cases x with
  | str z =>
    obtain ⟨t, rfl⟩ := r
    cases (show T = "str" from ty)
    exact ⟨typeIs_str s z t, fun _ e => nomatch e⟩
  | int i =>
    obtain ⟨t, rfl⟩ := r
    cases (show T = "int" from ty)
    exact ⟨typeIs_int s i t, fun _ e => nomatch e⟩
  | ref p =>
    cases r
    rcases ty with ⟨rfl, xs, hq⟩ | ⟨rfl, o, hk, hc, hd⟩ | ⟨rfl, hk⟩ | ⟨rfl, S, n, hk⟩
    · obtain ⟨its, _, pl, _⟩ := I.list hq
      refine ⟨pl.isList.typeIs, fun a e => ?_⟩
      cases e
      obtain ⟨o, n, e, c, hd, _⟩ := pl
      exact ⟨o, e, hd⟩
    · refine ⟨⟨o, I.kIn p o hk, hc⟩, fun a e => ?_⟩
      cases e
      exact ⟨o, I.kIn _ o hk, hd⟩
    · have z : ∃ o, s.heap.get? p = some o /\ o.ExactDict := by
        rcases hk with ⟨kvs, hk⟩ | ⟨kvs, hk⟩
        · obtain ⟨_, _, _, _, o, _, _, e, ex, _⟩ := I.hok p _ hk
          exact ⟨o, e, ex⟩
        · obtain ⟨_, _, _, _, o, _, _, e, ex, _⟩ := I.hok p _ hk
          exact ⟨o, e, ex⟩
      obtain ⟨o, e, ex⟩ := z
      refine ⟨⟨o, e, ex.1⟩, fun a e2 => ?_⟩
      cases e2
      exact ⟨o, e, ex.2.1⟩
    · obtain ⟨o, _, _, _, e, ex, _⟩ := I.hok p _ hk
      refine ⟨⟨o, e, ex.1⟩, fun a e2 => ?_⟩
      cases e2
      exact ⟨o, e, ex.2.1⟩
  | _ => exact False.elim ty
noncomputable def tBM (K : PySem.W.Frag) (T : String) (r : V -> List V -> Hp -> VK -> Prop) (to : TE) (t : TA) : TE := fun σ H Q => to σ H fun x H1 => tyV K T x H1 /\ t σ H1 fun xs H2 => r x xs H2 Q
variable {o e : Expr} {es : List Expr} {to : TE} {t : TA} {name : Str} {apos cpos : Pos} {T id : String} {r : V -> List V -> Hp -> VK -> Prop}
theorem pe_bm (pa : PlainAttrs T) (slot : Slot T name id) (hty : typeOf (.builtin id) = pure (.type "method_descriptor")) (hm : MtR X id r) (ho : PE X o to) (ha : PA X (e :: es) t)
    (hbase : autoParam (attributeBase o name X.env (eval o X.env) = eval o X.env) L2.au3._auto_1)
    (hfew : autoParam (((backTo cpos (starEach (e :: es) X.env)).all (fun x => !x.1) && (backToKw cpos (keywordEach [] X.env)).all (fun x => x.1.isSome)
      && decide ((e :: es).length + ([] : List Keyword).length + (if ([] : List Keyword).isEmpty then 0 else 1) < 30)) = true) L2.au3._auto_1)
    (hline : autoParam ((apos.endLine == cpos.line) = true) L2.au3._auto_1) (hs : autoParam (starEach (e :: es) X.env = (false, eval e X.env) :: starEach es X.env) L2.au3._auto_1) (hplain : autoParam ((backTo cpos (starEach es X.env)).any (·.1) = false) L2.au3._auto_1) :
    PE X (.Call (.Attribute o name apos) (e :: es) [] cpos) (tBM X.K T r to t) := by
  intro pins s σ H Q I h
  refine wpAny_Call_method_late hbase hfew hline rfl (thn (ho pins s σ H _ I h) fun v s1 ⟨x, H1, I1, r1, ty, q1⟩ => ?_)
  obtain ⟨h1, h2⟩ := tyV_is I1 r1 ty
  refine ⟨T, id, pa, slot, hty, h1, h2, ?_⟩
  have hA := ha cpos pins s1 σ H1 _ I1 q1
  rw [hs] at hA ⊢
  refine Calls.callWith_builtin (by show (false || (backTo cpos (starEach es X.env)).any (·.1)) = false; rw [hplain] <;> rfl) (Calls.evalArgs_plain ?_)
  exact thn hA fun us s2 ⟨vs, H2, I2, r2, q2⟩ => hm pins s2 σ H2 x vs v us Q I2 r1 r2 q2
end
end L2
namespace L2
open PySem PySem.Spec PyProof.Rows
noncomputable def MtM (X : Cx) (id : String) (r : V -> List V -> Hp -> VK -> Prop) : Prop :=
  ∀ (pins : List (Addr × Obj)) (s : Shared) (σ : St) (H : Hp) (x : V) (xs : List V) (v : Value) (us : List Value) (Q : VK), Inv X pins σ H s -> RelV x v -> Vals xs us -> r x xs H Q ->
    wpAny (model X.prog X.w) X.A (call (.builtin id) (v :: us)) (EP X pins σ Q) X.xe s
theorem Vals.one : ∀ {x : V} {us : List Value}, Vals [x] us -> ∃ u, us = [u] /\ RelV x u
  | _, _, .cons r .nil => ⟨_, rfl, r⟩
theorem Vals.two : ∀ {x y : V} {us : List Value}, Vals [x, y] us -> ∃ u v, us = [u, v] /\ RelV x u /\ RelV y v
  | _, _, _, .cons r (.cons q .nil) => ⟨_, _, rfl, r, q⟩
theorem Vals.zero : ∀ {us : List Value}, Vals [] us -> us = []
  | _, .nil => rfl
theorem Vals.reverse {xs : List V} {us : List Value} (h : Vals xs us) : Vals xs.reverse us.reverse := by
  induction h with
  | nil => exact .nil
  | cons r t ih => rw [List.reverse_cons, List.reverse_cons]; exact Vals.append ih (.cons r .nil)
theorem Vals.rep {xs : List V} {us : List Value} (h : Vals xs us) : ∀ k : Nat, Vals (List.replicate k xs).flatten (List.replicate k us).flatten
  | 0 => .nil
  | k + 1 => by
    rw [List.replicate_succ, List.replicate_succ, List.flatten_cons, List.flatten_cons]
    exact Vals.append h (Vals.rep h k)
theorem foldl_rep (its : List Value) : ∀ (k : Nat) (acc : List Value),
    List.foldl (fun x1 x2 => x1 ++ x2) acc.toArray (List.replicate k its.toArray) = (acc ++ (List.replicate k its).flatten).toArray
  | 0, acc => by simp
  | k + 1, acc => by
    have e : acc.toArray ++ its.toArray = (acc ++ its).toArray := by simp
    have e2 : (acc ++ its) ++ (List.replicate k its).flatten = acc ++ (List.replicate (k + 1) its).flatten := by
      rw [List.replicate_succ, List.flatten_cons, List.append_assoc]
    rw [<- e2, <- foldl_rep its k (acc ++ its), <- e, List.replicate_succ, List.foldl_cons]
section
variable {X : Cx} {pins : List (Addr × Obj)} {σ : St} {H : Hp} {s : Shared} {l b : Addr} {xs ys zs : List V}
theorem Inv.lset {its its' : List Value} {n : Nat} {f : Array Value -> Array Value} {t' : Nat} (I : Inv X pins σ H s) (hH : H l = some (.lst xs))
    (e : s.heap.get? l = some { cls := .type "list", data := .seq its.toArray n }) (hf : f its.toArray = its'.toArray) (hv : Vals ys its') (hz : ys.length <= sizeLine) :
    Inv X pins σ (upd H l (.lst ys)) { s with heap := s.heap.update l (Obj.mapSeq f), toks := t' } := by
  have q := PySem.IsL.update e f
  rw [hf] at q
  refine I.write (x := l) (e := l) (by rw [hH]; exact trivial) (.inl rfl) (fun b' u hb hu => (Heap.get?_update_other s.heap (Obj.mapSeq f) (Ne.symm hb)).trans hu) ⟨_, q⟩ ?_
  exact ⟨hz, its', _, hv, q⟩
theorem Inv.lnew {its : List Value} {t' : Nat} (I : Inv X pins σ H s) (hv : Vals ys its) (hz : ys.length <= sizeLine) :
    Inv X pins σ (upd H s.heap.objs.size (.lst ys)) { s with heap := s.heap.push { cls := .type "list", data := .seq its.toArray }, toks := t' } :=
  I.laid (fun _ _ q => Heap.get?_push_of_some _ q) (Nat.le_refl _) ⟨hz, its, 0, hv, Heap.get?_push_size _ rfl⟩
theorem Inv.fresh (I : Inv X pins σ H s) : H s.heap.objs.size = none := I.hok.fresh (Nat.le_refl _)
theorem Inv.lstM (I : Inv X pins σ H s) (hH : H l = some (.lst xs)) : xs.length <= sizeLine /\ ∃ (its : List Value) (n : Nat), Vals xs its /\ xs.length = its.length /\ s.heap.get? l = some { cls := .type "list", data := .seq its.toArray n } := by
  obtain ⟨z, its, n, r, e⟩ := I.hok l _ hH
  exact ⟨z, its, n, r, r.length, e⟩
theorem notLongL {n : Nat} (h : n <= sizeLine) : Builtin.List.listTooLong n = false := by
  unfold Builtin.List.listTooLong
  exact decide_eq_false (by lia)
end
section
variable {X : Cx}
noncomputable def rAppend : V -> List V -> Hp -> VK -> Prop := fun x vs H Q => ∃ l xs y, x = .ref l /\ vs = [y] /\ H l = some (.lst xs) /\ xs.length < sizeLine /\ Q .non (upd H l (.lst (xs ++ [y])))
theorem mt_append : MtM X "list.append" rAppend := by
  intro pins s σ H x vs v us Q I rx rv h
  obtain ⟨l, xs, y, rfl, rfl, hH, hz, q⟩ := h
  cases rx
  obtain ⟨u, rfl, ru⟩ := rv.one
  obtain ⟨z, its, n, r, hl, e⟩ := I.lstM hH
  refine call_meets F.slot_list_append ⟨_, e, rfl⟩ F.entry_list_append (F.args_list_append_2 _ _) (PySem.list_append l its.toArray n u (by rw [List.size_toArray]; lia)) ⟨e, ?_⟩
  refine ⟨.non, _, I.lset (its' := its ++ [u]) hH e (by simp) (r.append (.cons ru .nil)) ?_, rfl, q⟩
  rw [List.length_append, List.length_singleton]
  lia
noncomputable def rCat : R2 := fun x y H Q => ∃ l b xs zs, x = .ref l /\ y = .ref b /\ H l = some (.lst xs) /\ H b = some (.lst zs) /\ xs.length + zs.length <= sizeLine /\ ∀ p, H p = none -> Q (.ref p) (upd H p (.lst (xs ++ zs)))
theorem op_cat : OpR X (binaryOp .Add) rCat := by
  intro pins s σ H x y v u Q I rx ry h
  obtain ⟨l, b, xs, zs, rfl, rfl, hH, hB, hz, q⟩ := h
  cases rx
  cases ry
  obtain ⟨z, its, n, r, hl, e⟩ := I.lstM hH
  obtain ⟨z2, its2, n2, r2, hl2, e2⟩ := I.lstM hB
  refine PySem.P.add_list e e2 ?_ (by rw [List.size_toArray, List.size_toArray]; omega)
  have ea : its.toArray ++ its2.toArray = (its ++ its2).toArray := by simp
  rw [ea]
  exact ⟨.ref _, _, I.lnew (t' := s.toks) (r.append r2) (by rw [List.length_append]; omega), rfl, q _ I.fresh⟩
noncomputable def rRep : R2 := fun x y H Q => ∃ l k xs, x = .ref l /\ y = .int k /\ H l = some (.lst xs) /\ -(2 ^ 63) <= k /\ k < 2 ^ 63 /\ xs.length * k.toNat <= sizeLine /\
  ∀ p, H p = none -> Q (.ref p) (upd H p (.lst (List.replicate k.toNat xs).flatten))
theorem len_rep {α : Type} (xs : List α) (k : Nat) : (List.replicate k xs).flatten.length = k * xs.length := by
  induction k with
  | zero => simp
  | succ k ih => rw [List.replicate_succ, List.flatten_cons, List.length_append, ih, Nat.succ_mul, Nat.add_comm]
theorem op_rep : OpR X (binaryOp .Mult) rRep := by
  intro pins s σ H x y v u Q I rx ry h
  obtain ⟨l, k, xs, rfl, rfl, hH, h1, h2, hz, q⟩ := h
  cases rx
  obtain ⟨t, rfl⟩ := ry
  obtain ⟨z, its, n, r, hl, e⟩ := I.lstM hH
  have hlen : its.toArray.size * k.toNat <= sizeLine := by rw [List.size_toArray, <- hl]; exact hz
  have hcap : ¬ its.toArray.size * k.toNat > (2 ^ 63 - 1) / 8 := by
    have : (sizeLine : Nat) <= (2 ^ 63 - 1) / 8 := by decide
    lia
  have hfit : ¬ (!Builtin.List.listFitsIndex k) = true := by
    rw [fitsIndex_both h1 h2]
    exact Bool.false_ne_true
  have hlong : ¬ Builtin.List.listTooLong (its.toArray.size * k.toNat) = true := by
    rw [notLongL hlen]
    exact Bool.false_ne_true
  have hnew : List.foldl (fun x1 x2 => x1 ++ x2) #[] (List.replicate (if its.toArray.isEmpty = true then 0 else k.toNat) its.toArray) = (List.replicate k.toNat its).flatten.toArray := by
    have f0 : ∀ m : Nat, List.foldl (fun x1 x2 => x1 ++ x2) #[] (List.replicate m its.toArray) = (List.replicate m its).flatten.toArray := fun m => by
      have := foldl_rep its m []
      rw [List.nil_append] at this
      exact this
    rw [f0]
    cases its with
    | nil => simp
    | cons a r' => rw [if_neg (by simp)]
  refine wpAny_binaryOp_repeat_ref (T := "list") (U := "int") (by decide) ⟨_, e, rfl⟩ (fun s' => typeIs_int s' k t) noFill_list_mul F.fills_int_mul F.slot_int_rmul repeat_list F.slot_int_index.lookup
    (call_meets F.slot_int_rmul (typeIs_int s k t) F.entry_int_rmul (F.args_int_rmul_2 _ _) (int___rmul___int_list k t l its.toArray n)
      ⟨e, rfl, ⟨_, e, rfl⟩, call_meets F.slot_list_mul ⟨_, e, rfl⟩ F.entry_list_mul (F.args_list_mul_2 _ _) (AutoListH.list___mul___list_int_3 l its.toArray n k t hfit hcap hlong) ⟨e, ?_⟩⟩)
  rw [hnew]
  exact ⟨.ref _, _, I.lnew (t' := s.toks) (r.rep k.toNat) (by rw [len_rep, Nat.mul_comm]; exact hz), rfl, q _ I.fresh⟩
end
section
variable {prog : Program} {w : World} {A : Around} {E : Value -> Shared -> Prop} {s : Shared}
end
section
variable {X : Cx}
end
end L2
set_option maxRecDepth 100000
namespace L2
open PySem PySem.Spec PyProof.Rows
section
variable {κ : Type} [DecidableEq κ]
noncomputable def valV (kvs : List (κ × V)) (k : κ) : Option V := (kvs.find? fun kv => decide (kv.1 = k)).map (·.2)
noncomputable def putK (kvs : List (κ × V)) (k : κ) (v : V) : List (κ × V) :=
  if (kvs.any fun kv => decide (kv.1 = k)) = true then kvs.map (fun kv => if kv.1 = k then (kv.1, v) else kv) else kvs ++ [(k, v)]
noncomputable def dropK (kvs : List (κ × V)) (k : κ) : List (κ × V) := kvs.filter fun kv => decide (kv.1 ≠ k)
theorem valV_pos {p : κ × V} {r : List (κ × V)} {k : κ} (e : p.1 = k) : valV (p :: r) k = some p.2 := by simp [valV, List.find?_cons, e]
theorem valV_neg {p : κ × V} {r : List (κ × V)} {k : κ} (e : ¬ p.1 = k) : valV (p :: r) k = valV r k := by simp [valV, List.find?_cons, e]
theorem valV_any (k : κ) : ∀ kvs : List (κ × V), (kvs.any fun kv => decide (kv.1 = k)) = (valV kvs k).isSome
  | [] => rfl
  | p :: r => by
    rw [List.any_cons]
    by_cases e : p.1 = k
    · simp only [valV_pos e, decide_eq_true e, Bool.true_or, Option.isSome_some]
    · rw [valV_neg e, decide_eq_false e, Bool.false_or]; exact valV_any k r
theorem length_putK (kvs : List (κ × V)) (k : κ) (v : V) : (putK kvs k v).length <= kvs.length + 1 := by
  unfold putK
  split
  · rw [List.length_map]; lia
  · rw [List.length_append, List.length_cons, List.length_nil]; lia
theorem RelO.isSome_eq {o : Option V} {u : Option Value} (r : RelO o u) : o.isSome = u.isSome := by
  cases o with
  | none => cases u with
    | none => rfl
    | some _ => exact (show False from r).elim
  | some _ => cases u with
    | none => exact (show False from r).elim
    | some _ => rfl
theorem RelO.getD {o : Option V} {u : Option Value} {d : V} {d' : Value} (r : RelO o u) (rd : RelV d d') : RelV (o.getD d) (u.getD d') := by
  cases o with
  | none => cases u with
    | none => exact rd
    | some _ => exact (show False from r).elim
  | some _ => cases u with
    | none => exact (show False from r).elim
    | some _ => exact r
theorem KV.val {kvs : List (κ × V)} {vs : List (κ × Value)} (r : KV kvs vs) (k : κ) : RelO (valV kvs k) (valueAt vs k) := by
  unfold KV at r
  induction r with
  | nil => exact True.intro
  | @cons p q ps qs h t ih =>
    obtain ⟨h1, h2⟩ := h
    by_cases e : p.1 = k
    · have e' : q.1 = k := h1.symm.trans e
      have b : valueAt (q :: qs) k = some q.2 := by simp [valueAt, List.find?_cons, e']
      rw [valV_pos e, b]; exact h2
    · have e' : ¬ q.1 = k := fun z => e (h1.trans z)
      have b : valueAt (q :: qs) k = valueAt qs k := by simp [valueAt, List.find?_cons, e']
      rw [valV_neg e, b]; exact ih
theorem KV.any {kvs : List (κ × V)} {vs : List (κ × Value)} (r : KV kvs vs) (k : κ) : (kvs.any fun kv => decide (kv.1 = k)) = vs.any fun kv => decide (kv.1 = k) := by
  unfold KV at r
  induction r with
  | nil => rfl
  | cons h t ih => rw [List.any_cons, List.any_cons, ih, h.1]
theorem KV.repl {kvs : List (κ × V)} {vs : List (κ × Value)} (r : KV kvs vs) (k : κ) {y : V} {u : Value} (ry : RelV y u) :
    KV (kvs.map fun kv => if kv.1 = k then (kv.1, y) else kv) (vs.map fun kv => if kv.1 = k then (kv.1, u) else kv) := by
  unfold KV at r ⊢
  induction r with
  | nil => exact .nil
  | @cons p q ps qs h t ih =>
    rw [List.map_cons, List.map_cons]
    refine .cons ?_ ih
    obtain ⟨h1, h2⟩ := h
    by_cases e : p.1 = k
    · rw [if_pos e, if_pos (h1.symm.trans e)]; exact ⟨h1, ry⟩
    · rw [if_neg e, if_neg (fun z => e (h1.trans z))]; exact ⟨h1, h2⟩
theorem KV.put {kvs : List (κ × V)} {vs : List (κ × Value)} (r : KV kvs vs) (k : κ) {y : V} {u : Value} (ry : RelV y u) : KV (putK kvs k y) (stored vs k u) := by
  unfold putK stored
  rw [r.any k]
  by_cases e : (vs.any fun kv => decide (kv.1 = k)) = true
  · rw [if_pos e, if_pos e]; exact r.repl k ry
  · rw [if_neg e, if_neg e]; exact Paired.snoc r ⟨rfl, ry⟩
theorem KV.drop {kvs : List (κ × V)} {vs : List (κ × Value)} (r : KV kvs vs) (k : κ) : KV (dropK kvs k) (without vs k) := by
  unfold KV at r ⊢
  unfold dropK without
  induction r with
  | nil => exact .nil
  | @cons p q ps qs h t ih =>
    obtain ⟨h1, h2⟩ := h
    rw [List.filter_cons, List.filter_cons]
    by_cases e : p.1 = k
    · have a : ¬ decide (p.1 ≠ k) = true := by simp [e]
      have b : ¬ decide (q.1 ≠ k) = true := by simp [h1.symm.trans e]
      rw [if_neg a, if_neg b]; exact ih
    · have e' : ¬ q.1 = k := fun z => e (h1.trans z)
      have a : decide (p.1 ≠ k) = true := by simp [e]
      have b : decide (q.1 ≠ k) = true := by simp [e']
      rw [if_pos a, if_pos b]; exact .cons ⟨h1, h2⟩ ih
theorem KV.keys {kvs : List (κ × V)} {vs : List (κ × Value)} (r : KV kvs vs) : kvs.map (·.1) = vs.map (·.1) := by
  unfold KV at r
  induction r with
  | nil => rfl
  | cons h t ih => rw [List.map_cons, List.map_cons, ih, h.1]
theorem KV.length {kvs : List (κ × V)} {vs : List (κ × Value)} (r : KV kvs vs) : kvs.length = vs.length := Paired.length r
end
theorem kV_is {P : Program} {w : World} {k : Key} {u : Value} (r : RelV (kV k) u) : (mixKind P w).is k u = true := by
  cases k with
  | inl i => obtain ⟨t, e⟩ := (show ∃ t, u = Value.int i t from r); subst e; exact mixKind_int P w i t
  | inr x => obtain ⟨t, e⟩ := (show ∃ t, u = Value.str x t from r); subst e; exact mixKind_str P w x t
  | non => cases (show u = Value.none from r); exact mixKind_non P w
theorem items_are {P : Program} {w : World} : ∀ {ks : List Key} {us : List Value}, Vals (ks.map kV) us -> ItemsAre (mixKind P w) ks us
  | [], _, r => by rw [List.map_nil] at r; cases r; exact .nil
  | k :: ks, _, r => by
    rw [List.map_cons] at r
    cases r with
    | cons h t => exact .cons (kV_is h) (items_are t)
noncomputable abbrev KT (H : Hp) : List (List Key × V) -> List (List Key × Addr × Value) -> Prop := Paired fun p q => p.1 = q.1 /\ H q.2.1 = some (.tup (p.1.map kV)) /\ RelV p.2 q.2.2
theorem KT.val {H : Hp} {kvs : List (List Key × V)} {xs : List (List Key × Addr × Value)} (r : KT H kvs xs) (k : List Key) : RelO (valV kvs k) ((atKey xs k).map (·.2)) := by
  induction r with
  | nil => exact True.intro
  | @cons p q ps qs h t ih =>
    obtain ⟨h1, _, h2⟩ := h
    by_cases e : p.1 = k
    · have e' : q.1 = k := h1.symm.trans e
      have b : atKey (q :: qs) k = some q.2 := by simp [atKey, List.find?_cons, e']
      rw [valV_pos e, b]; exact h2
    · have e' : ¬ q.1 = k := fun z => e (h1.trans z)
      have b : atKey (q :: qs) k = atKey qs k := by simp [atKey, List.find?_cons, e']
      rw [valV_neg e, b]; exact ih
theorem KT.repl {H : Hp} {kvs : List (List Key × V)} {xs : List (List Key × Addr × Value)} (r : KT H kvs xs) (k : List Key) {y : V} {u : Value} (ry : RelV y u) :
    KT H (kvs.map fun kv => if kv.1 = k then (kv.1, y) else kv) (xs.map (putAt k u)) := by
  induction r with
  | nil => exact .nil
  | @cons p q ps qs h t ih =>
    rw [List.map_cons, List.map_cons]
    refine .cons ?_ ih
    obtain ⟨h1, h2, h3⟩ := h
    unfold putAt
    by_cases e : p.1 = k
    · rw [if_pos e, if_pos (h1.symm.trans e)]; exact ⟨h1, h2, ry⟩
    · rw [if_neg e, if_neg (fun z => e (h1.trans z))]; exact ⟨h1, h2, h3⟩
theorem KT.put {H : Hp} {kvs : List (List Key × V)} {xs : List (List Key × Addr × Value)} (r : KT H kvs xs) (k : List Key) {b : Addr} {y : V} {u : Value} (hb : H b = some (.tup (k.map kV))) (ry : RelV y u) :
    KT H (putK kvs k y) (storedH xs k b u) := by
  have e : (kvs.any fun kv => decide (kv.1 = k)) = (atKey xs k).isSome := by
    rw [valV_any, (r.val k).isSome_eq, Option.isSome_map]
  unfold putK storedH
  rw [e]
  by_cases q : (atKey xs k).isSome = true
  · rw [if_pos q, if_pos q]; exact r.repl k ry
  · rw [if_neg q, if_neg q]; exact Paired.snoc r ⟨rfl, hb, ry⟩
theorem KT.keeps {H H' : Hp} {kvs : List (List Key × V)} {xs : List (List Key × Addr × Value)} (r : KT H kvs xs) (ht : ∀ b ys, H b = some (.tup ys) -> H' b = some (.tup ys)) : KT H' kvs xs :=
  Paired.mapP r fun _ _ z => ⟨z.1, ht _ _ z.2.1, z.2.2⟩
section
variable {P : Program} {w : World} {H : Hp} {h : Heap} {a : Addr}
theorem rd_of {u : HO} (ok : HOk P w H h) (e : Rd H a u) : ObjOk P w H h a u := e.ok ok
theorem dk_rd {kvs : List (Key × V)} (ok : HOk P w H h) (e : Rd H a (.dK kvs)) : kvs.length <= sizeLine /\ (a == sysModules) = false /\ ∃ vs, KV kvs vs /\ h.DictOf (mixKind P w) a vs :=
  show ObjOk P w H h a (.dK kvs) from rd_of ok e
theorem dk_of {kvs : List (Key × V)} (ok : HOk P w H h) (e : H a = some (.dK kvs)) : kvs.length <= sizeLine /\ (a == sysModules) = false /\ ∃ vs, KV kvs vs /\ h.DictOf (mixKind P w) a vs := dk_rd ok (.inl e)
theorem key_of {ks : List Key} (ok : HOk P w H h) (e : H a = some (.tup (ks.map kV))) : (tupleKind (mixKind P w)).is h ks a := by
  obtain ⟨_, its, r, o, h1, h2, _, n, h3⟩ := (show ObjOk P w H h a (.tup (ks.map kV)) from ok a _ e)
  exact ⟨o, its.toArray, n, h1, h2, h3, by simpa using items_are r⟩
theorem dt_rd {kvs : List (List Key × V)} (ok : HOk P w H h) (e : Rd H a (.dT kvs)) : kvs.length <= sizeLine /\ (a == sysModules) = false /\
    ∃ xs, KT H kvs xs /\ h.DictOfH (tupleKind (mixKind P w)) a xs := by
  obtain ⟨z, y, xs, r, o, es, ep, h1, h2, h3, h4, h5⟩ := (show ObjOk P w H h a (.dT kvs) from rd_of ok e)
  refine ⟨z, y, xs, r, o, es, ep, h1, h2, h3, h4, fun x hx => ?_, h5⟩
  have all : ∀ {l : List (List Key × V)} {m : List (List Key × Addr × Value)}, KT H l m -> ∀ x ∈ m, (tupleKind (mixKind P w)).is h x.1 x.2.1 := by
    intro l m q
    induction q with
    | nil => intro x hx; exact nomatch hx
    | @cons p q ps qs hq t ih =>
      intro x hx
      rcases List.mem_cons.mp hx with e | hx
      · subst e
        exact key_of ok (by rw [<- hq.1]; exact hq.2.1)
      · exact ih x hx
  exact all r x hx
theorem dt_of {kvs : List (List Key × V)} (ok : HOk P w H h) (e : H a = some (.dT kvs)) : kvs.length <= sizeLine /\ (a == sysModules) = false /\
    ∃ xs, KT H kvs xs /\ h.DictOfH (tupleKind (mixKind P w)) a xs := dt_rd ok (.inl e)
end
noncomputable def DGet (H : Hp) (a : Addr) (y : V) (r : Option V) : Prop :=
  (∃ kvs k, Rd H a (.dK kvs) /\ y = kV k /\ r = valV kvs k) \/ ∃ kvs k b, Rd H a (.dT kvs) /\ y = .ref b /\ H b = some (.tup (k.map kV)) /\ r = valV kvs k
noncomputable def DPut (H : Hp) (a : Addr) (y v : V) (H' : Hp) : Prop :=
  (∃ kvs k, H a = some (.dK kvs) /\ y = kV k /\ kvs.length < sizeLine /\ H' = upd H a (.dK (putK kvs k v))) \/
  ∃ kvs k b, H a = some (.dT kvs) /\ y = .ref b /\ H b = some (.tup (k.map kV)) /\ kvs.length < sizeLine /\ H' = upd H a (.dT (putK kvs k v))
theorem DGet.k {H : Hp} {a : Addr} {kvs : List (Key × V)} {k : Key} (e : H a = some (.dK kvs)) : DGet H a (kV k) (valV kvs k) := .inl ⟨kvs, k, .inl e, rfl, rfl⟩
theorem DGet.t {H : Hp} {a b : Addr} {kvs : List (List Key × V)} {k : List Key} (e : H a = some (.dT kvs)) (eb : H b = some (.tup (k.map kV))) : DGet H a (.ref b) (valV kvs k) := .inr ⟨kvs, k, b, .inl e, rfl, eb, rfl⟩
theorem DPut.k {H : Hp} {a : Addr} {kvs : List (Key × V)} {k : Key} {v : V} (e : H a = some (.dK kvs)) (hl : kvs.length < sizeLine) : DPut H a (kV k) v (upd H a (.dK (putK kvs k v))) := .inl ⟨kvs, k, e, rfl, hl, rfl⟩
theorem DPut.t {H : Hp} {a b : Addr} {kvs : List (List Key × V)} {k : List Key} {v : V} (e : H a = some (.dT kvs)) (eb : H b = some (.tup (k.map kV))) (hl : kvs.length < sizeLine) :
    DPut H a (.ref b) v (upd H a (.dT (putK kvs k v))) := .inr ⟨kvs, k, b, e, rfl, eb, hl, rfl⟩
section
variable {X : Cx} {pins : List (Addr × Obj)} {σ : St} {H : Hp} {s : Shared} {a : Addr} {y v : V} {u r : Value} {o : Option V} {A : Around} {E : Value -> Shared -> Prop}
theorem Inv.big (I : Inv X pins σ H s) : sysModules < s.heap.objs.size := by
  have h : mainGlobals < s.heap.objs.size := (I.mod.glob.keeps I.bk).lt
  exact Nat.lt_trans (by decide) h
theorem d_getItem {Q : Value -> Shared -> Prop} (hu : A.units + 1 < cLine) (I : Inv X pins σ H s) (g : DGet H a y (some v)) (ry : RelV y u) (h : ∀ w' s', Inv X pins σ H s' -> RelV v w' -> Q w' s') :
    wpAny (model X.prog X.w) A (getItem (.ref a) u) Q E s := by
  rcases g with ⟨kvs, k, e, ey, l⟩ | ⟨kvs, k, b, e, ey, eb, l⟩
  · subst ey
    obtain ⟨z, hd, vs, rel, dd⟩ := dk_rd I.hok e
    obtain ⟨w', hw, rw'⟩ := RelO.some_of (v := v) (o := valueAt vs k) (by rw [l]; exact rel.val k)
    exact wpAny_getItem_of (kV_is ry) dd.mapOf hw (h w' _ (I.tok _) rw')
  · subst ey
    cases (show u = Value.ref b from ry)
    obtain ⟨z, hd, xs, rel, dd⟩ := dt_rd I.hok e
    obtain ⟨w', hw, rw'⟩ := RelO.some_of (v := v) (o := (atKey xs k).map (·.2)) (by rw [l]; exact rel.val k)
    obtain ⟨p, hp, hp2⟩ := Option.map_eq_some_iff.mp hw
    refine wpAny_getItem_heap (tupleKind_room_in1 hu) (key_of I.hok eb) dd hp ?_
    rw [hp2]
    exact h w' _ (I.tok _) rw'
theorem d_write {h' : Heap} {t' : Nat} {ob : HO} (I : Inv X pins σ H s) (mu : Mut (H a)) (hs : Heap.SameBut a s.heap h') (he : ∃ q, h'.get? a = some q) (new : ObjOk X.prog X.w (upd H a ob) h' a ob) :
    Inv X pins σ (upd H a ob) { s with heap := h', toks := t' } :=
  I.write (x := a) (e := a) mu (.inl rfl) (fun b q hb z => (hs.2 b hb).trans z) he new
theorem dk_new {P : Program} {w : World} {H' : Hp} {h' : Heap} {kvs : List (Key × V)} {vs : List (Key × Value)} (z : kvs.length <= sizeLine) (hd : (a == sysModules) = false) (rel : KV kvs vs) (dd : h'.DictOf (mixKind P w) a vs) :
    ObjOk P w H' h' a (.dK kvs) := ⟨z, hd, vs, rel, dd⟩
theorem d_setItem {H' : Hp} {Q : Unit -> Shared -> Prop} (hu : A.units + 1 < cLine) (I : Inv X pins σ H s) (g : DPut H a y v H') (ry : RelV y u) (rv : RelV v r) (h : ∀ s', Inv X pins σ H' s' -> Q () s') :
    wpAny (model X.prog X.w) A (setItem (.ref a) u r) Q E s := by
  rcases g with ⟨kvs, k, e, ey, l, eH⟩ | ⟨kvs, k, b, e, ey, eb, l, eH⟩
  · subst ey eH
    obtain ⟨z, hd, vs, rel, dd⟩ := dk_of I.hok e
    have hz : vs.length <= sizeLine := by rw [<- rel.length]; exact z
    have hl : (putK kvs k v).length <= sizeLine := by have := length_putK kvs k v; lia
    refine wpAny_setItem_pairs (hsz := hz) (kV_is ry) dd fun h' dd' hs => h _ ?_
    have he : ∃ q, h'.get? a = some q := let ⟨q, _, _, hq, _⟩ := dd'; ⟨q, hq⟩
    exact d_write I (by rw [e]; exact True.intro) hs he (dk_new hl hd (rel.put k rv) dd')
  · subst ey eH
    cases (show u = Value.ref b from ry)
    obtain ⟨z, hd, xs, rel, dd⟩ := dt_of I.hok e
    have hz : xs.length <= sizeLine := by rw [<- Paired.length rel]; exact z
    have hl : (putK kvs k v).length <= sizeLine := by have := length_putK kvs k v; lia
    refine wpAny_setItem_heap (hsz := hz) (tupleKind_room_in1 hu) (key_of I.hok eb) dd fun h' dd' hs => h _ ?_
    obtain ⟨q, es, ep, hq, h2, h3, h4, _, h5⟩ := dd'
    refine d_write I (by rw [e]; exact True.intro) hs ⟨q, hq⟩ ⟨hl, hd, _, (rel.put k eb rv).keeps fun c ys ec => ?_, q, es, ep, hq, h2, h3, h4, h5⟩
    rw [upd_ne (ne_of ec e (fun z => nomatch z))]
    exact ec
end
section
variable {X : Cx} {pins : List (Addr × Obj)} {σ : St} {H : Hp} {s : Shared} {a : Addr} {kvs : List (Key × V)} {k : Key} {u : Value} {A : Around} {E : Value -> Shared -> Prop}
theorem d_len {Q : Value -> Shared -> Prop} (I : Inv X pins σ H s) (e : Rd H a (.dK kvs)) (h : ∀ t s', Inv X pins σ H s' -> Q (.int kvs.length t) s') : wpAny (model X.prog X.w) A (call (.builtin "len") [.ref a]) Q E s := by
  obtain ⟨z, hd, vs, rel, dd⟩ := dk_rd I.hok e
  refine call_len_dict hd dd (by rw [<- rel.length]; rw [sizeLine_eq] at z; lia) ?_
  rw [<- rel.length]
  exact h _ _ (I.tok _)
end
noncomputable def NoSl (i : Expr) : Prop := ∀ ov iv, subscripted i false ov iv = operate [ov, iv] (getItem ov iv)
theorem subD_of {prog : Program} {w : World} {A : Around} {E : Value -> Shared -> Prop} {s : Shared} {env : Env} {value slice : Expr} {pos : Pos} {T id : String} {Q : Value -> Shared -> Prop}
    (hl : typeLookup (.type T) "__getitem__" = pure (some (.builtin id))) (hs : NoSl slice)
    (h : wpAny (model prog w) A (eval value env) (fun o s₁ => wpAny (model prog w) A (eval slice env) (fun i s₂ => s₂.TypeIs o T /\ wpAny (model prog w) A (getItem o i) Q E s₂) E s₁) E s) :
    wpAny (model prog w) A (eval (.Subscript value slice pos) env) Q E s := by
  refine Subscript_ (wpAny_mono h (fun o s₁ h₁ => wpAny_mono h₁ (fun i s₂ h₂ => ?_) fun _ _ x => x) fun _ _ x => x)
  obtain ⟨hT, h₂⟩ := h₂
  unfold subscriptTail
  refine wpAny_bind ?_
  rw [getitemInPython_of_ne hT.not_modules]
  refine wpAny_bind (wpAny_specialOf hT hl ?_)
  have fin : wpAny (model prog w) A (subscripted slice false o i) (fun r s₃ => wpAny (model prog w) A (letTemporaryGo value o r >>= fun _ => pure r) Q E s₃) E s₂ := by
    rw [hs o i]
    exact wpAny_operating (wpAny_mono h₂ (fun r s₃ h₃ => wpAny_bind (wpAny_letTemporaryGo (wpAny_pure h₃))) fun _ _ x => x)
  first
    | exact wpAny_pure (wpAny_bind fin)
    | exact wpAny_bind (wpAny_pure (wpAny_bind fin))
    | exact wpAny_bind fin
theorem dict_typeIs {X : Cx} {pins : List (Addr × Obj)} {σ : St} {H : Hp} {s : Shared} {a : Addr} {y : V} {o : Option V} (I : Inv X pins σ H s) (g : DGet H a y o) : s.TypeIs (.ref a) "dict" := by
  rcases g with ⟨kvs, k, e, _, _⟩ | ⟨kvs, k, b, e, _, _, _⟩
  · obtain ⟨_, _, vs, _, dd⟩ := dk_rd I.hok e
    exact dd.typeIs
  · obtain ⟨_, _, xs, _, dd⟩ := dt_rd I.hok e
    exact dd.typeIs
noncomputable def tDGet (td ty : TE) : TE := fun σ H Q => td σ H fun x H1 => ty σ H1 fun y H2 => ∃ a v, x = .ref a /\ DGet H2 a y (some v) /\ Q v H2
noncomputable def sDPut (td ty tv : TE) : TS := fun D σ H => tv σ H fun v H1 => td σ H1 fun x H2 => ty σ H2 fun y H3 => ∃ a H4, x = .ref a /\ DPut H3 a y v H4 /\ D.nx σ H4
section
variable {X : Cx} {o i e value : Expr} {pos pos' tpos : Pos} {td ty tv : TE}
theorem pe_dget (hu : X.A.units + 1 < cLine) (ho : PE X o td) (hi : PE X i ty) (hs : NoSl i) : PE X (.Subscript o i pos) (tDGet td ty) := by
  intro pins s σ H Q I h
  refine subD_of PySem.F.slot_dict_getitem.lookup hs (thn (ho pins s σ H _ I h) fun u s1 ⟨x, H1, I1, rx, q1⟩ => thn (hi pins s1 σ H1 _ I1 q1) fun iv s2 ⟨y, H2, I2, ry, a, v, ex, g, q2⟩ => ?_)
  subst ex
  obtain rfl : u = Value.ref a := rx
  exact ⟨dict_typeIs I2 g, d_getItem hu I2 g ry fun w' s3 I3 rw' => ⟨v, H2, I3, rw', q2⟩⟩
theorem ps_dput (hu : X.A.units + 1 < cLine) (ho : PE X o td) (hi : PE X i ty) (hv : PE X value tv) (hs : swapsWith value (some (.Subscript o i pos')) pos.line X.env = pure false) :
    PS X (.Assign [.Subscript o i pos'] value pos) (sDPut td ty tv) := by
  intro pins s σ H D I h
  refine wpAny_Assign_Subscript (thn (hv pins s σ H _ I h) fun r s1 ⟨v, H1, I1, rv, q1⟩ => thn (ho pins s1 σ H1 _ I1 q1) fun u s2 ⟨x, H2, I2, rx, q2⟩ => thn (hi pins s2 σ H2 _ I2 q2) fun iv s3 ⟨y, H3, I3, ry, a, H4, ex, g, q3⟩ => ?_) hs
  subst ex
  obtain rfl : u = Value.ref a := rx
  exact d_setItem hu I3 g ry rv fun s4 I4 => ⟨σ, H4, I4, q3⟩
end
theorem dk_empty {P : Program} {w : World} {H : Hp} (h : Heap) (hb : sysModules < h.objs.size) : ObjOk P w H (h.push { cls := .type "dict", data := .dict #[] }) h.objs.size (.dK []) :=
  ⟨Nat.zero_le _, beq_eq_false_iff_ne.mpr (Ne.symm (Nat.ne_of_lt hb)), [], .nil, Heap.DictOf.new h⟩
noncomputable def tDNewK : TE := fun _ H Q => ∀ p, H p = none -> Q (.ref p) (upd H p (.dK []))
section
variable {X : Cx} {pos : Pos}
theorem pe_dnewK : PE X (.Dict [] [] pos) tDNewK := fun pins s σ H Q I h =>
  wpAny_Dict_empty ⟨.ref s.heap.objs.size, _, I.laid (a := s.heap.objs.size) (o := .dK []) (t' := s.toks) (fun _ _ q => Heap.get?_push_of_some _ q) (Nat.le_refl _) (dk_empty s.heap I.big), rfl, h _ (I.hok.fresh (Nat.le_refl _))⟩
end
noncomputable def mergeK (kvs more : List (Key × V)) : List (Key × V) := more.foldl (fun acc kv => putK acc kv.1 kv.2) kvs
theorem KV.merge : ∀ {more : List (Key × V)} {rs : List (Key × Value)} {kvs : List (Key × V)} {vs : List (Key × Value)}, KV more rs -> KV kvs vs -> KV (mergeK kvs more) (merged vs rs) := by
  intro more rs kvs vs r
  unfold KV at r
  induction r generalizing kvs vs with
  | nil => intro q; exact q
  | @cons p q ps qs h t ih =>
    intro r0
    have e : KV (putK kvs p.1 p.2) (stored vs q.1 q.2) := by
      have := r0.put p.1 h.2
      rw [<- h.1]; exact this
    exact ih e
structure M1 (X : Cx) (o : Expr) (m : Str) (apos : Pos) (e : Expr) (cpos : Pos) : Prop where
  base : attributeBase o m X.env (eval o X.env) = eval o X.env
  few : ((backTo cpos (starEach [e] X.env)).all (fun x => !x.1) && (backToKw cpos (keywordEach [] X.env)).all (fun x => x.1.isSome)
    && decide (([e] : List Expr).length + ([] : List Keyword).length + (if ([] : List Keyword).isEmpty then 0 else 1) < 30)) = true
  line : (apos.endLine == cpos.line) = true
  trees : backTo cpos (starEach [e] X.env) = [(false, eval e X.env)]
structure M2 (X : Cx) (o : Expr) (m : Str) (apos : Pos) (e f : Expr) (cpos : Pos) : Prop where
  base : attributeBase o m X.env (eval o X.env) = eval o X.env
  few : ((backTo cpos (starEach [e, f] X.env)).all (fun x => !x.1) && (backToKw cpos (keywordEach [] X.env)).all (fun x => x.1.isSome)
    && decide (([e, f] : List Expr).length + ([] : List Keyword).length + (if ([] : List Keyword).isEmpty then 0 else 1) < 30)) = true
  line : (apos.endLine == cpos.line) = true
  trees : backTo cpos (starEach [e, f] X.env) = [(false, eval e X.env), (false, eval f X.env)]
noncomputable def IsD (H : Hp) (a : Addr) : Prop := (∃ kvs, Rd H a (.dK kvs)) \/ ∃ kvs, Rd H a (.dT kvs)
theorem isD_at {X : Cx} {pins : List (Addr × Obj)} {σ : St} {H : Hp} {s : Shared} {a : Addr} (I : Inv X pins σ H s) (d : IsD H a) :
    s.TypeIs (.ref a) "dict" /\ (∀ b, Value.ref a = .ref b -> ∃ ob, s.heap.get? b = some ob /\ ob.dict = none) /\ (a == sysModules) = false := by
  rcases d with ⟨kvs, e⟩ | ⟨kvs, e⟩
  · obtain ⟨_, hd, vs, _, dd⟩ := dk_rd I.hok e
    refine ⟨dd.typeIs, fun b q => ?_, hd⟩
    cases q
    obtain ⟨ob, _, _, h1, h2, _⟩ := dd
    exact ⟨ob, h1, h2.2.1⟩
  · obtain ⟨_, hd, xs, _, dd⟩ := dt_rd I.hok e
    refine ⟨dd.typeIs, fun b q => ?_, hd⟩
    cases q
    obtain ⟨ob, _, _, h1, h2, _⟩ := dd
    exact ⟨ob, h1, h2.2.1⟩
section
variable {X : Cx} {pins : List (Addr × Obj)} {σ : St} {H : Hp} {s : Shared} {a : Addr} {y d : V} {u r : Value} {o : Option V} {A : Around} {E : Value -> Shared -> Prop}
theorem d_get2 {Q : Value -> Shared -> Prop} (hu : A.units + 1 < cLine) (I : Inv X pins σ H s) (g : DGet H a y o) (ry : RelV y u) (rd : RelV d r) (h : ∀ w' s', Inv X pins σ H s' -> RelV (o.getD d) w' -> Q w' s') :
    wpAny (model X.prog X.w) A (call (.builtin "dict.get") [.ref a, u, r]) Q E s := by
  rcases g with ⟨kvs, k, e, ey, l⟩ | ⟨kvs, k, b, e, ey, eb, l⟩
  · subst ey
    obtain ⟨z, hd, vs, rel, dd⟩ := dk_rd I.hok e
    refine call_meetsIn PySem.F.slot_dict_get dd.typeIs PySem.F.entry_dict_get (PySem.F.args_dict_get_3 _ _ _) (meets_dict_get_default (mixKind X.prog X.w) a (kV_is ry) hd r) ⟨_, dd.mapOf, h _ _ (I.tok _) ?_⟩
    rw [l]
    exact (rel.val k).getD rd
  · subst ey
    cases (show u = Value.ref b from ry)
    obtain ⟨z, hd, xs, rel, dd⟩ := dt_rd I.hok e
    refine call_meetsIn PySem.F.slot_dict_get dd.typeIs PySem.F.entry_dict_get (PySem.F.args_dict_get_3 _ _ _) (meetsH_dict_get_default (tupleKind (mixKind X.prog X.w)) a b hd r) ⟨tupleKind_room_in1 hu, k, xs, key_of I.hok eb, dd, h _ _ (I.tok _) ?_⟩
    rw [l]
    exact (rel.val k).getD rd
end
noncomputable def tDGet2 (td ty tx : TE) : TE := fun σ H Q => td σ H fun x H1 => ∃ a, x = .ref a /\ IsD H1 a /\ ty σ H1 fun y H2 => tx σ H2 fun z H3 => ∃ o, DGet H3 a y o /\ Q (o.getD z) H3
section
variable {X : Cx} {o e f : Expr} {apos cpos : Pos} {td ty tx : TE}
theorem pe_dget2 (hu : X.A.units + 1 < cLine) (ho : PE X o td) (he : PE X e ty) (hf : PE X f tx) (m : M2 X o "get" apos e f cpos) : PE X (.Call (.Attribute o "get" apos) [e, f] [] cpos) (tDGet2 td ty tx) := by
  intro pins s σ H Q I h
  refine wpAny_Call_method m.base m.few m.line PySem.F.plainAttrs_dict PySem.F.slot_dict_get PySem.F.type_dict_get (thn (ho pins s σ H _ I h) fun u s1 ⟨x, H1, I1, rx, a, ex, d, q1⟩ => ?_)
  subst ex
  obtain rfl : u = Value.ref a := rx
  obtain ⟨t1, t2, _⟩ := isD_at I1 d
  refine ⟨t1, t2, ?_⟩
  rw [m.trees]
  refine Calls.callWith_builtin rfl (Calls.evalArgs_plain (Calls.spliced_cons (thn (he pins s1 σ H1 _ I1 q1) fun iv s2 ⟨y, H2, I2, ry, q2⟩ =>
    Calls.spliced_cons (thn (hf pins s2 σ H2 _ I2 q2) fun fv s3 ⟨z, H3, I3, rz, ov, g, q3⟩ => Calls.spliced_nil ?_))))
  exact d_get2 hu I3 g ry rz fun w' s4 I4 rw' => ⟨_, H3, I4, rw', q3⟩
end
section
variable {X : Cx} {pins : List (Addr × Obj)} {σ : St} {H : Hp} {s : Shared} {a : Addr} {kvs : List (Key × V)} {A : Around} {E : Value -> Shared -> Prop}
end
section
variable {X : Cx} {pins : List (Addr × Obj)} {σ : St} {H : Hp} {s : Shared} {a : Addr} {y : V} {u : Value} {A : Around} {E : Value -> Shared -> Prop}
end
end L2
namespace Att
open PySem PySem.W PySem.Calls PyProof.Rows
theorem ints_of_wellAll {P : Params} {h : Heap} : ∀ (ns : List Int) (vs : List Value), WellAll P h vs (ns.map WData.int) -> IntsAre vs ns := by
  intro ns
  induction ns with
  | nil =>
    intro vs w
    rw [List.map_nil] at w
    cases w
    exact .nil
  | cons n ns ih =>
    intro vs w
    rw [List.map_cons] at w
    cases w with
    | cons a b =>
      cases a
      exact .cons _ _ (ih _ b)
theorem script_of {l : OpenLaw} {n : Nat} (hn : l.most = some n) {P : Params} {h : Heap} {args : List WData} {vals : List Value}
    (hpre : l.row.toRowW.claim.pre args = true) (hwl : WellAll P h vals args) :
    ∃ a vs ns, vals = [Value.ref a] /\ args = [WData.list (ns.map WData.int)] /\ h.get? a = some { cls := .type "list", data := .seq vs.toArray } /\ IntsAre vs ns /\ ns.length <= n := by
  have hsh : WShape.hasAll [] args [.list .int] = true := (pre_splitW hpre).1
  have hc : l.pre.holds [] { args := args } = true := (pre_splitW hpre).2
  obtain ⟨d, r, rfl, h1, h2⟩ := hasAllW_cons hsh
  obtain rfl := hasAllW_nil h2
  obtain ⟨xs, rfl, h3⟩ := hasW_list h1
  obtain ⟨ns, rfl⟩ := items_int h3
  have hlen : ns.length <= n := by
    unfold OpenLaw.pre at hc
    have h4 : (WTm.not (.lt (.lit (.int (n : Int))) (.len (.arg 0)))).holds [] { args := [.list (ns.map .int)] } = true := by
      have h4 := (holds_andW hc).1
      rw [hn] at h4
      exact h4
    have h5 := condW_of h4 (w_not (w_lt w_lit (w_len_list (w_arg rfl))))
    rw [List.length_map] at h5
    refine Nat.le_of_not_lt fun q => ?_
    have q' : (n : Int) < ((ns.length : Nat) : Int) := by omega
    first
      | (rw [decide_eq_true q'] at h5; exact absurd h5 (by decide))
      | (simp at h5; omega)
  cases hwl with
  | cons w1 w2 =>
    cases w2
    cases w1 with
    | list ho hall => exact ⟨_, _, ns, rfl, rfl, ho, ints_of_wellAll ns _ hall, hlen⟩
theorem post_true (l : OpenLaw) (args : List WData) : l.row.toRowW.claim.post args (.bool true) args = true :=
  postW_of (r := l.row.toRowW) (X := (true == true))
    (show WShape.has [] (.bool true) .bool = true by first | rfl | decide | simp [WShape.has, WShape.arms, WShape.armsAll])
    (show (WTm.eq .res (.lit (.bool true))).value [] { args := args, res := some (.bool true), after := args } = some (.bool (true == true)) from w_eq_bool (w_res rfl) w_lit) rfl
theorem attach_call {l : OpenLaw} {n : Nat} {q : Program} {loose : List Str} {XP : (Str -> Option Value) -> Heap -> Prop} {YP : World -> Heap -> Prop} {d : DefRec}
    (hn : l.most = some n) (hdf : d.params.defaults = [])
    (call : ∀ (w : World) (s₀ s₁ : Shared) (mg mb : Str -> Option Value) (fa : Addr) (o : Obj) (pm cd doc : Value) (a : Addr) (vs : List Value) (ns : List Int),
      Ground q loose [] XP w s₀ mg mb s₁.heap -> YP w s₁.heap ->
      s₁.heap.get? fa = some o -> o.data = .func (docDef d.name d.params d.body d.scope pm cd doc) -> s₁.heap.CodeRec cd d.name -> mg d.name = some (.ref fa) ->
      s₁.heap.get? a = some { cls := .type "list", data := .seq vs.toArray } -> IntsAre vs ns -> ns.length <= n -> s₁.gens = #[] ->
      codeAny (model l.prog w) callerA (.call (.ref fa) ⟨[.ref a], []⟩) (fun r s' => r = .ok (.ret (.bool true)) /\ OldK s₁.heap s'.heap /\ s'.os = s₁.os /\ AllBare s'.gens) s₁) :
    WalkO q loose XP YP l.row.toRowW d [] (fun f vs => PySem.call f vs) := by
  intro w s₀ s₁ mg mb G Y fa o pm cd doc dV kV ho hd hcd hD hmg hg args vals as hpre hlay hrd hwl hlo
  obtain rfl : dV = .none := Dflts.none hD hdf
  obtain rfl : kV = .none := Dflts.noKw hD
  obtain ⟨a, vs, ns, rfl, rfl, hobj, hints, hlen⟩ := script_of hn hpre hwl
  refine enter_call (codeAny_mono (call w s₀ s₁ mg mb fa o pm cd doc a vs ns G Y ho (fd_plain hd) hcd hmg hobj hints hlen hg) fun r s' hq => ?_)
  obtain ⟨rfl, h2, h3, h4⟩ := hq
  exact ⟨.inl ⟨.bool true, .bool true, [], rfl, fun _ => rfl, .bool true, post_true l _, fun _ => ⟨List.Pairwise.nil, fun _ hm => (nomatch hm)⟩⟩, h2, h3, h4⟩
section
variable {prog : Program} {w : World} {A : Around} {E : Value -> Shared -> Prop} {s : Shared} {K : Frag}
end
end Att
namespace L2
open PySem PySem.Spec PyProof.Rows
theorem vals_ints : ∀ {vs : List Value} {ns : List Int}, IntsAre vs ns -> Vals (ns.map V.int) vs
  | _, _, .nil => .nil
  | _, _, .cons n t h => .cons ⟨t, rfl⟩ (vals_ints h)
noncomputable def Only (H : Hp) : Prop := ∀ b, H b = none \/ ∃ o xs, H b = some (.frz o (.lst xs))
theorem law_call {P : Program} {w : World} {K : PySem.W.Frag} {mg mb : Str -> Option Value} {CX : CXT} {k : Nat} {fa a : Addr} {fd : FuncData} {x : Str} {sp : Sp} {s₁ : Shared} {vs : List Value} {ns : List Int}
    (KX : K.In s₁.heap) (hns : s₁.heap.Ns mainGlobals mg) (hb : s₁.heap.Ns builtinsNs mb) (hbb : ∀ x : Str, x ≠ "__name__" -> mb x = bootBuiltins x) (hlim : s₁.heap.NoLimit) (hg : s₁.gens = #[])
    (ha : s₁.heap.get? a = some { cls := .type "list", data := .seq vs.toArray }) (hi : IntsAre vs ns) (hl : ns.length <= sizeLine) (hr : Room k callerA)
    (F : ∀ base : Heap, K.In base -> base.Ns mainGlobals mg -> FnOk P w K mg base CX k fa fd [x] sp) (hbind : ∀ (s : Shared) (u : Value), BindsTo s fd ⟨[u], []⟩ [(x, u)])
    (hsp : ∀ H : Hp, Only H -> SqL K H a (ns.map V.int) -> sp [.ref a] H (fun v _ => v = .bl true) fun _ _ _ => False)
    (hCX : ∀ H e s', CX [] H s₁ (fun _ _ _ => False) e s' -> False) :
    codeAny (model P w) callerA (.call (.ref fa) ⟨[.ref a], []⟩) (fun r s' => r = .ok (.ret (.bool true)) /\ OldK s₁.heap s'.heap /\ s'.os = s₁.os /\ AllBare s'.gens) s₁ := by
  have rv := vals_ints hi
  have lenV := hi.length
  have core : ∀ H : Hp, Only H -> SqL K H a (ns.map V.int) -> HOk P w H s₁.heap -> (∀ b, H b ≠ none -> b = a) -> (H a ≠ none -> K.lookup a = none) ->
      codeAny (model P w) callerA (.call (.ref fa) ⟨[.ref a], []⟩) (fun r s' => r = .ok (.ret (.bool true)) /\ OldK s₁.heap s'.heap /\ s'.os = s₁.os /\ AllBare s'.gens) s₁ := by
    intro H hO hS hok hA hK
    have base_of : ∀ {b : Addr} {o : Obj}, s₁.heap.get? b = some o -> H b = none -> (hidT s₁.heap H).get? b = some o := fun e n => hidT_get e n
    have noA : ∀ {b : Addr} {o : Obj} {es : Array DictEntry} {ep : Nat}, s₁.heap.get? b = some o -> o.data = .dict es ep -> H b = none := fun {b o es ep} e d => by
      cases q : H b with
      | none => rfl
      | some u =>
        have e' : b = a := hA b (by rw [q]; simp)
        subst e'
        rw [ha] at e; cases e
        have d' : Data.seq vs.toArray _ = Data.dict es ep := d
        cases d'
    have nsK : ∀ {b : Addr} {m : Str -> Option Value}, s₁.heap.Ns b m -> (hidT s₁.heap H).Ns b m := fun {b m} ⟨o, es, ep, e, d, r⟩ => ⟨o, es, ep, base_of e (noA e d), d, r⟩
    have hKb : K.In (hidT s₁.heap H) := fun b o e => base_of (KX b o e) (by
      cases q : H b with
      | none => rfl
      | some u =>
        have e' : b = a := hA b (by rw [q]; simp)
        subst e'
        rw [hK (by rw [q]; simp)] at e; cases e)
    have hM : Mod K mg (hidT s₁.heap H) := ⟨hKb, nsK hns, ⟨mb, nsK hb, hbb⟩, let ⟨mc, h1, h2⟩ := hlim; ⟨mc, nsK h1, h2⟩⟩
    have e0 : Env0 P w K mg (hidT s₁.heap H) callerA [] s₁ H := ⟨rfl, hM, fun b o e => of_hidT e, Nat.le_of_eq (hidT_size _ _), trivial, fun b hb => absurd (show b ∈ ([] : List Addr) from hb) (by simp), hok, .of_eq hg⟩
    refine codeAny_mono ((F _ hKb (nsK hns)).run callerA [] s₁ H ⟨[.ref a], []⟩ [.ref a] [.ref a] _ _ hr e0 (hbind s₁ (.ref a)) (.cons rfl .nil) (hsp H hO hS)) fun r s' h => ?_
    cases r with
    | error e => exact (hCX H e s' h).elim
    | ok fl =>
      cases fl with
      | next => exact False.elim h
      | brk => exact False.elim h
      | cont => exact False.elim h
      | ret u =>
        obtain ⟨v, H', os, bare, un, hok', r', q⟩ := h
        have q' : v = .bl true := q
        subst q'
        obtain rfl : u = Value.bool true := r'
        refine ⟨rfl, OldK.of_keep fun b o e => ?_, os, bare⟩
        cases q : H b with
        | none => exact un.keep b o e q (by intro z; exact absurd (show b ∈ ([] : List Addr) from z) (by simp)) (by simp)
        | some u =>
          rcases hO b with z | ⟨ob, xs, z⟩
          · rw [q] at z; cases z
          · have z2 := un.frzs b ob _ z
            obtain ⟨e1, _⟩ := hok b _ z
            obtain ⟨e2, _⟩ := hok' b _ z2
            rw [e] at e1; cases e1
            exact e2
  cases hk : K.lookup a with
  | some o =>
    have e := KX a o hk
    rw [ha] at e
    cases e
    refine core (fun _ => none) (fun _ => .inl rfl) (.inr ⟨_, vs.toArray, _, hk, rfl, rfl, rfl, by rw [List.size_toArray, lenV]; exact hl, by simpa using rv⟩) (fun b u z => by have z' : (none : Option HO) = some u := z; cases z') (fun b z => absurd rfl z) fun z => absurd rfl z
  | none =>
    refine core (fun b => if b = a then some (.frz { cls := .type "list", data := .seq vs.toArray } (.lst (ns.map V.int))) else none) (fun b => ?_) (.inl (.inr ⟨{ cls := .type "list", data := .seq vs.toArray }, if_pos rfl⟩)) (fun b u z => ?_) (fun b z => ?_) fun _ => hk
    · by_cases hb : b = a
      · exact .inr ⟨_, _, if_pos hb⟩
      · exact .inl (if_neg hb)
    · by_cases hb : b = a
      · have z' := (if_pos hb).symm.trans z
        cases z'
        subst hb
        exact ⟨ha, by rw [List.length_map]; exact hl, vs, _, rv, ha⟩
      · have z' := (if_neg hb).symm.trans z
        cases z'
    · by_cases hb : b = a
      · exact hb
      · exact absurd (if_neg hb) z
end L2
namespace L2
open PySem PySem.Spec PyProof.Rows
theorem walk_of {l : PySem.W.OpenLaw} {n k : Nat} {q : Program} {loose : List Str} {XP : (Str -> Option Value) -> Heap -> Prop} {YP : World -> Heap -> Prop} {d : DefRec} {K : Params -> PySem.W.Frag} {CX : World -> CXT} {sp : World -> Sp} {x : Str}
    (hn : l.most = some n) (hn2 : n <= sizeLine) (hdf : d.params.defaults = []) (hr : Room k callerA)
    (hY : ∀ (w : World) (h : Heap), YP w h -> (K w.params).In h)
    (F : ∀ (w : World) (mg : Str -> Option Value) (fa : Addr) (h : Heap), (K w.params).In h -> h.Ns mainGlobals mg -> mg d.name = some (.ref fa) ->
      ∃ fd : FuncData, (∀ (s : Shared) (u : Value), BindsTo s fd ⟨[u], []⟩ [(x, u)]) /\
        ∀ base : Heap, (K w.params).In base -> base.Ns mainGlobals mg -> FnOk l.prog w (K w.params) mg base (CX w) k fa fd [x] (sp w))
    (hsp : ∀ (w : World) (H : Hp) (a : Addr) (ns : List Int), ns.length <= n -> Only H -> SqL (K w.params) H a (ns.map V.int) -> sp w [.ref a] H (fun v _ => v = .bl true) fun _ _ _ => False)
    (hCX : ∀ (w : World) (H : Hp) (s : Shared) (e : Value) (s' : Shared), CX w [] H s (fun _ _ _ => False) e s' -> False) :
    PySem.W.WalkO q loose XP YP l.row.toRowW d [] (fun f vs => PySem.call f vs) := by
  refine Att.attach_call hn hdf fun w s₀ s₁ mg mb fa o pm cd doc a vs ns G Y ho hd hcd hmg hobj hints hlen hg => ?_
  have KX := hY w _ Y
  obtain ⟨fd, hb, hF⟩ := F w mg fa _ KX G.T.g hmg
  exact law_call KX G.T.g G.T.b G.T.builtins G.T.nolimit hg hobj hints (Nat.le_trans hlen hn2) hr hF hb (fun H hO hS => hsp w H a ns hlen hO hS) fun H e s' => hCX w H s₁ e s'
end L2
namespace L2
open PySem PySem.Spec PyProof.Rows
noncomputable def defArgs (s : Stmt) : Arguments := match s with
  | .FunctionDef _ a _ _ _ _ _ _ _ _ => a
  | _ => { posonlyargs := [], args := [], vararg := none, kwonlyargs := [], kw_defaults := [], kwarg := none, defaults := [] }
noncomputable def defBody (s : Stmt) : List Stmt := match s with
  | .FunctionDef _ _ b _ _ _ _ _ _ _ => b
  | _ => []
noncomputable def defScope (s : Stmt) : Scope := match s with
  | .FunctionDef _ _ _ _ _ _ sc _ _ _ => sc
  | _ => { kind := .function, names := [], isGenerator := false, isCoroutine := false }
noncomputable abbrev CX0 : CXT := fun _ _ _ _ _ _ => False
structure Fun (K : PySem.W.Frag) (x qual : Str) (st : Stmt) (f : Addr) (fd : FuncData) : Prop where
  ex : ∃ (oc : Value) (od : Option Addr) (kV doc pm : Value) (an : Option Addr) (cdv ct : Value) (osl : Array (Option Value)),
    fd = PySem.W.fnOf x qual (defArgs st) (defBody st) (defScope st) .none kV doc pm an cdv ct /\ K.lookup f = some ⟨oc, od, .func fd, osl⟩ /\ PySem.W.codeIn K cdv qual = true
  kp : PySem.W.keepIn K (.ref f) = true
section
variable {P : Program} {w : World} {K : PySem.W.Frag} {mg : Str -> Option Value} {base : Heap}
theorem Fun.ok {x qual : Str} {st : Stmt} {f : Addr} {fd : FuncData} {N ps : List Str} {k : Nat} {sp : Sp} (F : Fun K x qual st f fd) (S : FnScope N ps (defScope st)) (len : ∀ vs H Q E, sp vs H Q E -> vs.length = ps.length)
    (hbody : ∀ (cdv : Value) (A : Around) (outer : List Env) (s : Shared) (H : Hp) (vs : List V) (Q : VK) (E : XK), Room k (A.deeper (envOfC qual (defScope st) s.heap.objs.size f cdv)) -> sp vs H Q E ->
      ∃ t, PSs (cxOf CX0 P w K mg base N qual (defScope st) f cdv A outer s H E).nox (defBody st) t /\ t { nx := fun _ H' => Q .non H', rt := Q } (start N vs) H) : FnOk P w K mg base CX0 (k + 1) f fd ps sp := by
  obtain ⟨oc, od, kV, doc, pm, an, cdv, ct, osl, rfl, lk, hcd⟩ := F.ex
  refine fn_of lk hcd S len fun A outer s H vs Q E hr hsp => ?_
  obtain ⟨t, h, q⟩ := hbody cdv A outer s H vs Q E hr hsp
  exact ⟨t, h.nox, q⟩
theorem Fun.binds {x qual : Str} {st : Stmt} {f : Addr} {fd : FuncData} {ps : List Str} (F : Fun K x qual st f fd)
    (h : ∀ (kV doc pm : Value) (an : Option Addr) (cdv ct : Value) (us : List Value), us.length = ps.length -> bindArgs (PySem.W.fnOf x qual (defArgs st) (defBody st) (defScope st) .none kV doc pm an cdv ct) ⟨us, []⟩ = pure (ps.zip us)) : Binds K fd ps [] := by
  obtain ⟨oc, od, kV, doc, pm, an, cdv, ct, osl, rfl, lk, hcd⟩ := F.ex
  exact .all (h kV doc pm an cdv ct)
theorem fun_mk {x qual : Str} {st : Stmt} {f : Addr} {oc : Value} {od an : Option Addr} {osl : Array (Option Value)} {kV doc pm cdv ct : Value} (l : K.lookup f = some ⟨oc, od, .func (PySem.W.fnOf x qual (defArgs st) (defBody st) (defScope st) .none kV doc pm an cdv ct), osl⟩)
    (c : PySem.W.codeIn K cdv qual = true) (k : PySem.W.keepIn K (.ref f) = true) : Fun K x qual st f (PySem.W.fnOf x qual (defArgs st) (defBody st) (defScope st) .none kV doc pm an cdv ct) := ⟨⟨oc, od, kV, doc, pm, an, cdv, ct, osl, rfl, l, c⟩, k⟩
end
section
variable {X : Cx}
theorem pv (i : Nat) {x : Str} {pos : Pos} (hN : autoParam (X.N[i]? = some x) L2.au3._auto_1) (hv : autoParam (Vis X.env.scope x) L2.au5._auto_1) (hd : autoParam ((x == ("__debug__" : Str)) = false) L2.au1._auto_1)
    (hcd : autoParam ((x == ("__classdict__" : Str)) = false) L2.au1._auto_1) : PE X (.Name x pos) (tVar i) := pe_var hN hv hd hcd
theorem call_lenD : CallR X (.builtin "len") (fun xs H Q => ∃ a kvs, xs = [V.ref a] /\ H a = some (.dK kvs) /\ Q (.int kvs.length) H) := by
  intro pins s σ H xs us Q I r h
  obtain ⟨a, kvs, rfl, ha, q⟩ := h
  obtain ⟨u, rfl, ru⟩ := vals1 r
  cases ru
  exact d_len I (.inl ha) fun t s' I' => ⟨.int kvs.length, H, I', ⟨t, rfl⟩, q⟩
end
noncomputable def Same (H H' : Hp) : Prop := ∀ b o, H b = some o -> H' b = some o
theorem Same.refl (H : Hp) : Same H H := fun _ _ h => h
theorem Same.trans {H H1 H2 : Hp} (a : Same H H1) (b : Same H1 H2) : Same H H2 := fun c o h => b c o (a c o h)
theorem Same.free {H H' : Hp} (e : Same H H') {l : Addr} (h : H' l = Option.none) : H l = Option.none := by
  cases q : H l with
  | none => rfl
  | some o =>
    rw [e l o q] at h
    cases h
theorem Same.seq {K : PySem.W.Frag} {H H' : Hp} {a : Addr} {xs : List V} (e : Same H H') (h : SqL K H a xs) : SqL K H' a xs := by
  rcases h with (h | ⟨o, h⟩) | h
  · exact .inl (.inl (e _ _ h))
  · exact .inl (.inr ⟨o, e _ _ h⟩)
  · exact .inr h
section
variable {κ : Type} [DecidableEq κ]
end
end L2
set_option maxRecDepth 100000
set_option maxHeartbeats 4000000
namespace L2
open PySem PySem.Spec PyProof.Rows
noncomputable def Flies (fr : List Env) (H : Hp) (old : Addr -> Prop) (e : Addr) (cls : Value) (h : Heap) : Prop :=
  ∃ (B : Heap) (a0 : Value), Heap.FlyingW B fr e cls a0 h /\ ∀ b o, h.get? b = some o -> b ∉ frs fr -> (H b ≠ none \/ old b) -> B.get? b = some o
noncomputable def cxx (P : Program) (w : World) : CXT := fun outer H s E ev s' => ∃ (e : Addr) (cls : Value) (H' : Hp), ev = .ref e /\ s'.os = s.os /\ AllBare s'.gens /\
  Un (frs outer) [] H H' s.heap s'.heap /\ HOk P w H' s'.heap /\ Flies outer H' (fun b => ∃ o, s.heap.get? b = some o) e cls s'.heap /\ E cls none H'
theorem ObjOk.there {P : Program} {w : World} {H : Hp} {h : Heap} {a : Addr} {o : HO} (x : ObjOk P w H h a o) : ∃ ob, h.get? a = some ob := by
  cases o with
  | lst xs => obtain ⟨_, _, _, _, e⟩ := x; exact ⟨_, e⟩
  | tup xs => obtain ⟨_, _, _, _, e, _⟩ := x; exact ⟨_, e⟩
  | dK kvs => obtain ⟨_, _, _, _, o, _, _, e, _⟩ := x; exact ⟨_, e⟩
  | dT kvs => obtain ⟨_, _, _, _, o, _, _, e, _⟩ := x; exact ⟨_, e⟩
  | set S n => obtain ⟨o, _, _, _, e, _⟩ := x; exact ⟨_, e⟩
  | ins C dx fs => obtain ⟨_, _, _, e, _⟩ := x; exact ⟨_, e⟩
  | own y => obtain ⟨_, e⟩ := x; exact ⟨_, e⟩
  | xd fs => obtain ⟨_, ⟨_, _, _, e, _⟩, _⟩ := x; exact ⟨_, e⟩
  | rng lo hi => obtain ⟨_, _, _, e⟩ := x; exact ⟨_, e⟩
  | frz ob u => obtain ⟨e, _⟩ := x; exact ⟨_, e⟩
  | tbl ps => exact ⟨_, (show h.get? a = some _ from x)⟩
  | met f y => exact ⟨_, (show h.get? a = some _ from x)⟩
  | ext φ => obtain ⟨_, ⟨_, e⟩, _⟩ := x; exact ⟨_, e⟩
section
variable {X : Cx} {pins : List (Addr × Obj)} {σ : St} {H : Hp} {s : Shared}
theorem Inv.trkNo (I : Inv X pins σ H s) {b : Addr} {u : HO} (q : H b = some u) : b ∉ frs X.stack := fun m => by
  have z := I.stkFree b m
  rw [q] at z; cases z
theorem Inv.oldNo (I : Inv X pins σ H s) (hst : X.stack = X.env :: X.outer) (hf : X.env.frame = some X.env.locals) {b : Addr} {o : Obj} (q : X.s₀.heap.get? b = some o) (n : b ∉ X.fs) : b ∉ frs X.stack := fun m => by
  rcases List.mem_cons.mp (I.stkSub b m) with z | z
  · exact absurd z (Nat.ne_of_lt (Nat.lt_of_lt_of_le (Heap.lt_size q) I.ok.above))
  · exact n z
theorem end_fly {h' B : Heap} {e : Addr} {cls a0 : Value} {E : XK} (I : Inv X pins σ H s) (hst : X.stack = X.env :: X.outer) (hf : X.env.frame = some X.env.locals) (hex : X.ex = [])
    (fl : Heap.FlyingW B X.outer e cls a0 h') (cov : ∀ b o, s.heap.get? b = some o -> b ∉ frs X.stack -> (H b ≠ none \/ ∃ o, X.s₀.heap.get? b = some o) -> B.get? b = some o)
    (up : s.heap.UpToSlots h') (hE : E cls none H) : cxx X.prog X.w X.outer X.H₀ X.s₀ E (.ref e) { s with heap := h' } := by
  have nex : ∀ b : Addr, b ∉ X.ex := fun b z => by rw [hex] at z; cases z
  have trkd : ∀ b u v, H b = some u -> s.heap.get? b = some v -> h'.get? b = some v := fun b u v q r => fl.1 b v (cov b v r (I.trkNo q) (.inl (by rw [q]; simp)))
  have oldd : ∀ b o v, X.s₀.heap.get? b = some o -> b ∉ X.fs -> s.heap.get? b = some v -> h'.get? b = some v := fun b o v q n r => fl.1 b v (cov b v r (I.oldNo hst hf q n) (.inr ⟨o, q⟩))
  have frms : ∀ b o, b ∈ X.fs -> s.heap.get? b = some o -> ∃ sl, h'.get? b = some { o with slots := sl } := fun b o hb q => by
    obtain ⟨_, o2, ho2, nf⟩ := I.funs.mem hb
    rw [q] at ho2; cases ho2
    exact up b o q nf
  refine ⟨e, cls, H, rfl, I.os, I.bare, ⟨fun b o q n hb hx => ?_, fun b o q n hb hx => ?_, fun b o q n hx => I.base.free b o q n (nex b), fun b o q hx => ?_, I.base.tups, I.base.frzs, I.base.tbls⟩, fun b u q => ?_, ⟨B, a0, fl, fun b o q n hor => ?_⟩, hE⟩
  · exact oldd b o o q hb (I.base.keep b o q n hb (nex b))
  · obtain ⟨sl, e1⟩ := I.base.slot b o q n hb (nex b)
    obtain ⟨sl', e2⟩ := frms b _ hb e1
    exact ⟨sl', e2⟩
  · obtain ⟨o1, e1⟩ := I.base.there b o q (nex b)
    by_cases hb : b ∈ X.fs
    · obtain ⟨sl, e2⟩ := frms b o1 hb e1
      exact ⟨_, e2⟩
    · exact ⟨o1, oldd b o o1 q hb e1⟩
  · refine (I.hok b u q).stay (fun c v hc r => ?_) (fun _ z => z) fun _ _ z => z
    rcases hc with z | z
    · exact trkd c u v (by rw [z]; exact q) r
    · exact trkd c _ v z r
  · have q : h'.get? b = some o := q
    rcases hor with hb | ⟨o0, e0⟩
    · obtain ⟨u, hu⟩ := Option.ne_none_iff_exists'.mp hb
      obtain ⟨o1, e1⟩ := (I.hok b u hu).there
      have := trkd b u o1 hu e1
      rw [q] at this; cases this
      exact cov b _ e1 (I.trkNo hu) (.inl hb)
    · obtain ⟨o1, e1⟩ := I.base.there b o0 e0 (nex b)
      have := oldd b o0 o1 e0 n e1
      rw [q] at this; cases this
      exact cov b _ e1 (I.oldNo hst hf e0 n) (.inr ⟨o0, e0⟩)
end
section
variable {P : Program} {w : World} {K : PySem.W.Frag} {mg : Str -> Option Value} {base : Heap} {N : List Str} {qual : Str} {scope : Scope} {f : Addr} {cd : Value} {A : Around} {outer : List Env} {s : Shared} {H : Hp} {E : XK}
theorem passes_cxx : Passes (cxx P w) (cxOf (cxx P w) P w K mg base N qual scope f cd A outer s H E) E := by
  intro pins σ H1 s1 ev s' I hq
  obtain ⟨e, cls, H', rfl, os, bare, un, hok, ⟨B, a0, fl, cov⟩, hE⟩ := hq
  have I' := I.call' (ch := []) os un hok bare (fun b z => nomatch z)
  have hfr : (A.deeper (envOfC qual scope s.heap.objs.size f cd)).frames = some (envOfC qual scope s.heap.objs.size f cd :: outer) := I.ok.frames
  refine wpAny_leaves_onW (L := s.heap.objs.size) hfr rfl fl fun h' fl' up => ?_
  exact end_fly (E := E) I' rfl rfl rfl fl' (fun b o e1 e2 e3 => cov b o e1 e2 (by
    rcases e3 with z | ⟨o0, z⟩
    · exact .inl z
    · exact .inr (I.base.there b o0 z (fun q => nomatch q)))) up hE
theorem cxx_no {outer : List Env} {H : Hp} {s : Shared} {e : Value} {s' : Shared} (h : cxx P w outer H s (fun _ _ _ => False) e s') : False := let ⟨_, _, _, _, _, _, _, _, _, z⟩ := h; z
end
structure ErrCls (K : PySem.W.Frag) (mg : Str -> Option Value) (x : Str) (C : Addr) (bm : List Value) (newId : String) : Prop where
  gl : mg x = some (.ref C)
  own : ∀ h : Heap, K.In h -> h.Ns mainGlobals mg -> OwnCls x C bm newId mg h
theorem topRead_any {mg mb : Str -> Option Value} {h : Heap} (g : h.Ns mainGlobals mg) (b : h.Ns builtinsNs mb) (bb : ∀ x : Str, x ≠ "__name__" -> mb x = bootBuiltins x) (nl : h.NoLimit) (p : Program) : ∃ loose, PySem.W.TopRead p loose mg mb h := by
  obtain ⟨o, es, ep, ho, hd, hk, hf⟩ := id g
  refine ⟨es.toList.filterMap fun e => match e.key with | .str y _ => some y | _ => none, g, b, nl, bb, fun x _ hx _ _ _ => ?_⟩
  rw [<- hf]
  unfold nsFind findBy
  rw [<- Array.find?_toList]
  cases q : es.toList.find? (fun e => e.key.isStr x) with
  | none => rfl
  | some en =>
    exfalso
    have hm := List.mem_of_find?_eq_some q
    have hp := List.find?_some q
    obtain ⟨y, t, hy⟩ := hk en (by simpa using hm)
    rw [hy] at hp
    have hxy : y = x := by simpa [Value.isStr] using hp
    exact hx (List.mem_filterMap.mpr ⟨en, hm, by rw [hy, hxy]⟩)
end L2
set_option maxRecDepth 100000
set_option maxHeartbeats 4000000
namespace L2
open PySem PySem.Spec PyProof.Rows
structure ErrC (K : PySem.W.Frag) (x : Str) (C : Addr) : Prop where
  ns : PySem.W.nsIn K mainGlobals x = some (some (.ref C))
  ex : PySem.W.excIn K C [.type "ValueError", .type "Exception", .type "BaseException", .type "object"] "ValueError.__new__" = true
theorem ErrC.mg {K : PySem.W.Frag} {x : Str} {C : Addr} {h : Heap} {mg : Str -> Option Value} (e : ErrC K x C) (X : K.In h) (G : h.Ns mainGlobals mg) : mg x = some (.ref C) := PySem.W.mg_of X G e.ns
section
variable {X : Cx} {pins : List (Addr × Obj)} {σ : St} {H : Hp} {s : Shared}
theorem Inv.ownCls {x : Str} {C : Addr} (I : Inv X pins σ H s) (e : ErrC X.K x C) : OwnCls x C [.type "ValueError", .type "Exception", .type "BaseException", .type "object"] "ValueError.__new__" X.mg X.base := by
  obtain ⟨mb, b1, b2⟩ := I.mod.blt
  obtain ⟨loose, T⟩ := topRead_any I.mod.glob b1 b2 I.mod.nolimit X.prog
  exact PySem.W.own_of_in I.mod.kin T e.ns e.ex
theorem made_fly {P : Program} {w : World} {K : PySem.W.Frag} {mg : Str -> Option Value} {base : Heap} {N : List Str} {qual : Str} {scope : Scope} {f : Addr} {cd : Value} {A : Around} {outer : List Env} {s : Shared} {H : Hp} {E : XK}
    {pins : List (Addr × Obj)} {σ : St} {H1 : Hp} {s1 : Shared} {h' : Heap} {e : Addr} {cls : Value} {vs : List Value} (I : Inv (cxOf (cxx P w) P w K mg base N qual scope f cd A outer s H E) pins σ H1 s1)
    (hx : Heap.MadeExcOf s1.heap h' e cls vs) (hE : E cls none H1) : (cxOf (cxx P w) P w K mg base N qual scope f cd A outer s H E).xe (.ref e) { s1 with heap := h' } := by
  have hfr : (A.deeper (envOfC qual scope s.heap.objs.size f cd)).frames = some (envOfC qual scope s.heap.objs.size f cd :: outer) := I.ok.frames
  have fs := I.stack
  have hin : ∀ env ∈ (envOfC qual scope s.heap.objs.size f cd :: outer), ∀ b, env.frame = some b -> b ∈ frs (envOfC qual scope s.heap.objs.size f cd :: outer) := fun env he b hb => List.mem_filterMap.mpr ⟨env, he, hb⟩
  refine wpAny_leaves_madeW (L := s.heap.objs.size) (base := PySem.W.hideAll s1.heap (frs (envOfC qual scope s.heap.objs.size f cd :: outer))) hfr rfl (fun b o q => PySem.W.of_hideAll _ q) (PySem.W.funFrames_hide fs hin) hx fun h2 t fl tup nt up => ?_
  refine end_fly (E := E) (h' := h2) I rfl rfl rfl fl (fun b o q n _ => PySem.W.hideAll_get _ q n) (fun b o q nf => ?_) hE
  exact up b o (hx.keeps b o q) nf
end
noncomputable def tRaise (C : Addr) (E : XK) (ta : TA) : TS := fun _ σ H => ta σ H fun vs H1 => vs.length <= sizeLine /\ E (.ref C) none H1
theorem ps_raise {P : Program} {w : World} {K : PySem.W.Frag} {mg : Str -> Option Value} {base : Heap} {N : List Str} {qual : Str} {scope : Scope} {f : Addr} {cd : Value} {A : Around} {outer : List Env} {s : Shared} {H : Hp} {E : XK}
    {x : Str} {C : Addr} {e₀ : Expr} {rest : List Expr} {ta : TA} {np cpos pos : Pos} (hh : A.handled = none) (hc : ErrC K x C) (hg : Gl (cxOf (cxx P w) P w K mg base N qual scope f cd A outer s H E) x)
    (ha : PA (cxOf (cxx P w) P w K mg base N qual scope f cd A outer s H E) (e₀ :: rest) ta) (hd : autoParam ((x == ("__debug__" : Str)) = false) L2.au1._auto_1)
    (he : autoParam (starEach (e₀ :: rest) (envOfC qual scope s.heap.objs.size f cd) = (false, eval e₀ (envOfC qual scope s.heap.objs.size f cd)) :: starEach rest (envOfC qual scope s.heap.objs.size f cd)) L2.au3._auto_1)
    (hp : autoParam ((backTo cpos (starEach rest (envOfC qual scope s.heap.objs.size f cd))).any (·.1) = false) L2.au3._auto_1) :
    PS (cxOf (cxx P w) P w K mg base N qual scope f cd A outer s H E) (.Raise (some (.Call (.Name x np) (e₀ :: rest) [] cpos)) none pos) (tRaise C E ta) := by
  intro pins s1 σ H1 D I h
  obtain ⟨bm, NN, nm, q, bs, hdct, sn, sub, ab, col, dd, k0, k1, k2, k3, k5, mN, hC, hN, hni, T⟩ := (I.ownCls hc).obj
  have F := PySem.F.excBase_ValueError
  refine wpAny_Raise_call_subT (C := C) (nm := nm) (q := q) (N := NN) (bs := bs) (bm := bm) (hdct := hdct) (sn := sn) (sub := sub) (ab := ab) (col := col) (dd := dd) (k0 := k0) (k1 := k1) (k2 := k2) (k3 := k3) (k5 := k5) F (mN := mN)
    (T.hasType F.hasBase) hh (by show (backTo cpos (starEach (e₀ :: rest) (envOfC qual scope s.heap.objs.size f cd))).any (·.1) = false; rw [he]; exact hp) hni (ld_glob I hg (hc.mg I.mod.kin I.mod.glob) ⟨rfl, ?_⟩ hd)
  have hw := ha cpos pins s1 σ H1 _ I h
  have hw : wpAny (model P w) (A.deeper (envOfC qual scope s.heap.objs.size f cd)) (spliced (backTo cpos (starEach (e₀ :: rest) (envOfC qual scope s.heap.objs.size f cd)))) _ _ s1 := hw
  show wpAny _ _ (evalArgs (.ref C) true (backTo cpos (starEach (e₀ :: rest) (envOfC qual scope s.heap.objs.size f cd))) []) _ _ s1
  rw [he] at hw ⊢
  refine Calls.evalArgs_plain (thn hw fun us s2 ⟨vs, H2, I2, r, z, hE⟩ => ?_)
  refine ⟨rfl, by rw [<- r.length]; exact z, I2.bk _ _ hC, hN.keeps I2.bk, T.keeps I2.bk, fun h' e hx => made_fly I2 hx hE⟩
noncomputable abbrev Cx.within (X : Cx) (e : Addr) (oe : Obj) : Cx := { X with A := X.A.mark (some (.ref e)), calm := false, pn := X.pn ++ [(e, oe)], xe := fun _ _ => False }
section
variable {X : Cx} {pins : List (Addr × Obj)} {σ : St} {H : Hp} {s : Shared} {e : Addr} {oe : Obj}
theorem Cx.Ok.within (ok : X.Ok) : (X.within e oe).Ok :=
  ⟨ok.mod, ok.kind, ok.glob, ok.blt, ok.above, ok.inj, ok.has, ok.cab, (fun z => by cases z), ok.frames, ok.stk, ok.exf, ok.bs, ok.bsz, ok.noex, ok.exfs, ok.funs, ok.frf⟩
theorem Cx.Ok.without (ok : (X.within e oe).Ok) (hd : X.calm = true -> X.A.handled = none) : X.Ok :=
  ⟨ok.mod, ok.kind, ok.glob, ok.blt, ok.above, ok.inj, ok.has, ok.cab, hd, ok.frames, ok.stk, ok.exf, ok.bs, ok.bsz, ok.noex, ok.exfs, ok.funs, ok.frf⟩
theorem Inv.within (I : Inv X pins σ H s) (h1 : s.heap.get? e = some oe) (h2 : H e = none) (h3 : e ≠ X.env.locals) (h4 : e ∉ X.fs) (h5 : ∀ v, oe.data ≠ .cell v) : Inv (X.within e oe) pins σ H s :=
  ⟨I.ok.within, I.os, I.bare, I.base, I.loc, I.cell, I.free, I.freeC, fun p hp => by
    rcases List.mem_append.mp hp with z | z
    · rcases List.mem_append.mp z with z | z
      · exact I.pin p (List.mem_append_left _ z)
      · obtain rfl := List.mem_singleton.mp z
        exact ⟨h1, h2, h3, h4, h5⟩
    · exact I.pin p (List.mem_append_right _ z), I.hok, I.len⟩
theorem Inv.without (I : Inv (X.within e oe) pins σ H s) (hd : X.calm = true -> X.A.handled = none) : Inv X pins σ H s :=
  ⟨I.ok.without hd, I.os, I.bare, I.base, I.loc, I.cell, I.free, I.freeC, fun p hp => by
    rcases List.mem_append.mp hp with z | z
    · exact I.pin p (List.mem_append_left _ (List.mem_append_left _ z))
    · exact I.pin p (List.mem_append_right _ z), I.hok, I.len⟩
theorem SP.without {D : Ends} {f : Flow} (h : SP (X.within e oe) pins D f s) (hd : X.calm = true -> X.A.handled = none) : SP X pins D f s := by
  cases f with
  | next => obtain ⟨σ', H', I, q⟩ := h; exact ⟨σ', H', I.without hd, q⟩
  | brk => obtain ⟨σ', H', I, q⟩ := h; exact ⟨σ', H', I.without hd, q⟩
  | cont => obtain ⟨σ', H', I, q⟩ := h; exact ⟨σ', H', I.without hd, q⟩
  | ret u => obtain ⟨v, σ', H', I, r, q⟩ := h; exact ⟨v, σ', H', I.without hd, r, q⟩
theorem Inv.reframe {h' : Heap} {t' : Nat} {m' : Str -> Option Value} {σ' : St} (I : Inv X pins σ H s) (hn' : h'.Ns X.env.locals m') (hs : Heap.SameBut X.env.locals s.heap h') (hl : σ'.length = σ.length)
    (hv : ∀ m, s.heap.Ns X.env.locals m -> (∀ (i : Nat) (x : Str) (v : V), X.N[i]? = some x -> σ[i]? = some (some v) -> Vis X.env.scope x -> ∃ u, RelV v u /\ Look X.env s.heap m x u) ->
      ∀ (i : Nat) (x : Str) (v : V), X.N[i]? = some x -> σ'[i]? = some (some v) -> Vis X.env.scope x -> ∃ u, RelV v u /\ Look X.env s.heap m' x u) : Inv X pins σ' H { s with heap := h', toks := t' } := by
  obtain ⟨m, hn, hr⟩ := id I.loc
  obtain ⟨oL, _, _, hoL, _⟩ := id hn
  have tracked : HOk X.prog X.w H h' := fun b ob q => by
    refine (I.hok b ob q).stay (fun c v hc r => (hs.2 c ?_).trans r) (fun _ z => z) fun _ _ z => z
    rintro rfl
    rcases hc with rfl | hc
    · rw [I.free] at q; cases q
    · rw [I.free] at hc; cases hc
  have below : ∀ b o, X.s₀.heap.get? b = some o -> b ≠ X.env.locals := fun b o q => Nat.ne_of_lt (Nat.lt_of_lt_of_le (Heap.lt_size q) I.ok.above)
  refine ⟨I.ok, I.os, I.bare, ⟨fun b o q n hb hx => (hs.2 b (below b o q)).trans (I.base.keep b o q n hb hx), fun b o q n hb hx => ?_, I.base.free, fun b o q hx => ?_, I.base.tups, I.base.frzs, I.base.tbls⟩, ⟨m', hn', fun i x v e1 e2 e3 => ?_⟩, fun y c q => ?_, I.free, I.freeC, fun p hp => ?_, tracked, hl.trans I.len⟩
  · obtain ⟨sl, e1⟩ := I.base.slot b o q n hb hx
    exact ⟨sl, (hs.2 b (below b o q)).trans e1⟩
  · obtain ⟨o', e1⟩ := I.base.there b o q hx
    exact ⟨o', (hs.2 b (below b o q)).trans e1⟩
  · obtain ⟨u, r, l⟩ := hv m hn hr i x v e1 e2 e3
    refine ⟨u, r, ?_⟩
    rcases l with l | ⟨k, c, e, z⟩
    · exact .inl l
    · exact .inr ⟨k, c, e, z.sameBut hs (I.cne x c e)⟩
  · obtain ⟨w', z⟩ := I.cell y c q
    exact ⟨w', z.sameBut hs (I.cne y c q)⟩
  · obtain ⟨q, n, ne, nf, d⟩ := I.pin p hp
    exact ⟨(hs.2 p.1 ne).trans q, n, ne, nf, d⟩
theorem name_out {M : Model} {A : Around} {E : Value -> Shared -> Prop} {i : Nat} {n : Str} {pos : Pos} {Q : Unit -> Shared -> Prop} (I : Inv X pins σ H s) (hN : X.N.Nodup) (hi : X.N[i]? = some n) (hx : X.env.scope.names.lookup n = some .local)
    (h : ∀ s', Inv X pins (σ.set i none) H s' -> Q () s') : wpAny M A (do bindName X.env n .none; unbindBehindTheSuite X.env n pos) Q E s := by
  have hcls : (X.env.scope.kind == .class || (X.env.scope.kind == .module && X.env.locals != X.env.globals)) = false := by rw [I.ok.kind]; rfl
  have hl : X.env.kindOf n = some .local := hx
  refine wpAny_bind (wpAny_bindName (store_ok I hN hi (.inl hx) (v := .non) (u := .none) rfl (fun s1 I1 => ?_) (.inr hx)))
  unfold unbindBehindTheSuite
  refine wpAny_onRaise ?_
  unfold unbindName
  refine wpAny_bind (wpAny_point (wpAny_bind ?_))
  unfold deleteName
  simp only [hl, hcls]
  rw [if_neg (by decide)]
  obtain ⟨m, hn, hl'⟩ := id I1.loc
  have hiσ : i < σ.length := by rw [I.len]; exact (List.getElem?_eq_some_iff.mp hi).1
  have hmn : (m n).isSome = true := by
    obtain ⟨u, r, l⟩ := hl' i n .non hi (by rw [List.getElem?_set_self hiσ]) (.inl hx)
    rcases l with ⟨_, z⟩ | ⟨k, _⟩
    · rw [z]; rfl
    · rcases k with k | k
      · rw [hl] at k; cases k
      · rw [hl] at k; cases k
  refine wpAny_bind (wpAny_nsDel_keeps hn fun h2 v hn2 hs2 => ?_)
  rw [hmn]
  simp only [if_true, Bool.not_true, Bool.false_eq_true, if_false]
  refine wpAny_pure (wpAny_point (h _ ?_))
  have I2 : Inv X pins (σ.set i none) H { s1 with heap := h2, toks := s1.toks } := I1.reframe hn2 hs2 (by simp) (fun m0 hn0 hv0 j y v e1 e2 e3 => by
    have em : m0 = m := by
      funext z
      obtain ⟨o1, es1, ep1, a1, b1, _, c1⟩ := hn0
      obtain ⟨o2, es2, ep2, a2, b2, _, c2⟩ := hn
      rw [a1] at a2; cases a2
      rw [b1] at b2; cases b2
      rw [<- c1, <- c2]
    subst em
    have hj : j ≠ i := by
      rintro rfl
      rw [List.getElem?_set_self hiσ] at e2; cases e2
    rw [List.getElem?_set_ne (Ne.symm hj)] at e2
    obtain ⟨u, r, l⟩ := hv0 j y v e1 (by rw [List.getElem?_set_ne (Ne.symm hj)]; exact e2) e3
    refine ⟨u, r, ?_⟩
    have hy : y ≠ n := fun z => hj (nodup_ix hN e1 (z ▸ hi))
    rcases l with ⟨k, z⟩ | l
    · exact .inl ⟨k, by show (if y = n then _ else m0 y) = some u; rw [if_neg hy]; exact z⟩
    · exact .inr l)
  exact I2
end
end L2
set_option maxRecDepth 100000
set_option maxHeartbeats 4000000
namespace L2
open PySem PySem.Spec PyProof.Rows
structure ErrI (K : PySem.W.Frag) (C : Addr) : Prop where
  ga : PySem.W.findIn K (.ref C) "__getattribute__" = some (some (.builtin "BaseException.__getattribute__"))
  gt : PySem.W.findIn K (.ref C) "__getattr__" = some none
  cl : PySem.W.findIn K (.ref C) "__class__" = some (some (.builtin "object.__class__"))
  sp : PySem.W.specialIn K (.builtin "object.__class__") "__get__" = some (some (.builtin "getset_descriptor.__get__"))
  tk : PySem.W.takesIn K (.builtin "object.__class__") = some true
  mo : PySem.W.mroIn K C (.type "object") = some true
  mb : PySem.W.mroIn K C (.type "BaseException") = some true
  it : (PySem.W.clsIn K C).isSome = true
section
open PySem.W Builtin Builtin.ObjectAttr Builtin.Getset_descriptor
variable {prog : Program} {w : World} {A : Around} {E : Value -> Shared -> Prop} {s : Shared} {K : Frag} {e C : Addr}
theorem exc_class {Q : Option Value -> Shared -> Prop} (c : ErrI K C) (X : K.In s.heap) (LT : Looks (model prog w) s.heap (typeOf (.ref e)) (.ref C)) (h : Q (some (.ref C)) { s with toks := s.toks + 1 }) : wpAny (model prog w) A (getAttr? (.ref e) "__class__") Q E s := by
  obtain ⟨hh, g, d, t, os⟩ := s
  have L1 := looks_findIn (M := model prog w) X c.ga
  have L2' := looks_findIn (M := model prog w) X c.gt
  have L3 := looks_findIn (M := model prog w) X c.cl
  have L4 := looks_specialIn (M := model prog w) X c.sp
  have L5 := looks_takesIn (M := model prog w) X c.tk
  have L6 := looks_mroIn (M := model prog w) X c.mo
  have L7 := looks_mroIn (M := model prog w) X c.mb
  have hb := PySem.F.attr_ValueError.ga.bind (.ref e)
  unfold getAttr? getAttrBy? getAttrBy
  refine wpAny_bind (wpAny_mkText (wpAny_bind (wpAny_attempt (wpAny_holding ?_))))
  repeat (first | with_reducible refine wpAny_attempt ?_ | with_reducible refine wpAny_call ?_ | lk)
  refine codeAny_call_builtin PySem.F.attr_ValueError.ga.plain F.entry_bexc_ga ?_
  have hk : builtinKind "BaseException.__getattribute__" = some .slot := by decide +kernel
  have hsp : splitId "BaseException.__getattribute__" = some ("BaseException", "__getattribute__") := by decide +kernel
  have har := F.args_bexc_ga (.ref e) (.str "__class__" t)
  simp only [checkBuiltinCall, hk, hsp]
  unfold isInstance
  repeat (first | with_reducible refine wpAny_attempt ?_ | with_reducible refine wpAny_call ?_ | lk)
  have z : codeAny (model prog w) A.in1 (.call (.builtin "getset_descriptor.__get__") ⟨[.builtin "object.__class__", .ref e, .ref C], []⟩) (fun r s' => r = .ok (.ret (.ref C)) /\ s' = ⟨hh, g, d, t + 1, os⟩) ⟨hh, g, d, t + 1, os⟩ := by
    refine codeAny_call_builtin KF.slot_gs.plain KF.entry_gs ?_
    refine KF.slot_gs.check _ _ _ _ _ _ _ _ KF.type_class (KF.args_gs _ _ _) ?_
    unfold Builtin.«getset_descriptor.__get__»
    unfold descrGet
    rw [dga_obj]
    refine wpAny_bind (wpAny_pure ?_)
    unfold descrGetter descrCheckInstance
    unfold descrNameAndClass isInstance
    simp only [KF.owner_class]
    repeat lk
    refine ⟨Code.quiet_builtin _ (by decide +kernel), ?_⟩
    refine codeAny_builtin KF.entry_class ?_
    unfold Builtin.«object.__class__»
    unfold shownTypeOf
    repeat lk
    exact ⟨rfl, rfl⟩
  refine codeAny_mono z fun r s' q => ?_
  obtain ⟨rfl, rfl⟩ := q
  repeat lk
  exact h
end
end L2
set_option maxRecDepth 100000
set_option maxHeartbeats 4000000
namespace L2
open PySem PySem.Spec PyProof.Rows
section
open PySem.W
variable {K : Frag} {e C : Addr}
theorem errI_isType (c : ErrI K C) {M : Model} {h : Heap} (X : K.In h) : Looks M h (isType (.ref C)) true := by
  have z := c.it
  unfold clsIn at z
  split at z
  · rename_i a b cd sl ho
    intro A' Q' E' s' k q
    unfold isType
    unfold loadHead
    refine wpAny_bind (wpAny_loadPart (k _ _ (X _ _ ho)) ?_)
    exact wpAny_pure q
  · cases z
theorem kitx_exc (c : ErrI K C) : KitX K (.ref e) (.ref C) (fun h => ∃ o, h.get? e = some o /\ o.cls = .ref C) where
  ty := fun M h _ p => by
    obtain ⟨o, h1, h2⟩ := p
    exact h2 ▸ (Looks.ld h1).andThen .now
  it := fun _ _ X _ => errI_isType c X
  ne := fun h tp dd its n sl X htp => by
    refine Bool.eq_false_iff.mpr fun q => ?_
    have ee : C = tp := Value.ref.inj (beq_iff_eq.mp q)
    subst ee
    have z := c.it
    unfold clsIn at z
    split at z
    · rename_i a b cd sl' ho
      rw [X _ _ ho] at htp
      cases htp
    · cases z
  ca := fun {prog w A E Q s} X p k => by
    obtain ⟨o, h1, h2⟩ := p
    exact exc_class c X (h2 ▸ (Looks.ld h1).andThen .now) k
end
inductive IsTy (K : PySem.W.Frag) (pn : List (Addr × Obj)) (H : Hp) : V -> Value -> Prop where
  | of {x : V} {t : Value} (h : TyOf K H x t) : IsTy K pn H x t
  | frd {a : Addr} {o : Obj} {kvs : List (Key × V)} (e : H a = some (.frz o (.dK kvs))) : IsTy K pn H (.ref a) (.type "dict")
  | exc {a C : Addr} {oe : Obj} (hm : (a, oe) ∈ pn) (hc : oe.cls = .ref C) (c : ErrI K C) : IsTy K pn H (.ref a) (.ref C)
inductive ClV : V -> Value -> Prop where
  | ref (a : Addr) : ClV (.ref a) (.ref a)
  | ty (n : String) : ClV (.ty n) (.type n)
noncomputable def rIsi (K : PySem.W.Frag) (pn : List (Addr × Obj)) : List V -> Hp -> VK -> Prop := fun xs H Q => ∃ x c t u b, xs = [x, c] /\ IsTy K pn H x t /\ ClV c u /\ PySem.W.kitOne K t u = some b /\ Q (.bl b) H
theorem call_isi {X : Cx} : CallR X (.builtin "isinstance") (rIsi X.K X.pn) := by
  intro pins s σ H xs us Q I r h
  obtain ⟨x, c, t, u, b, rfl, ht, hc, hk, q⟩ := h
  obtain ⟨u1, u2, rfl, rx, rc⟩ := vals2 r
  have e2 : u2 = u := by cases hc with
    | ref a => exact rc
    | ty n => exact rc
  subst e2
  cases ht with
  | of ht => exact isinst_ok I rx ht hk fun tk => ⟨.bl b, H, I.tok tk, rfl, q⟩
  | @frd a o kvs e =>
    obtain rfl : u1 = Value.ref a := rx
    obtain ⟨_, _, _, vs, _, p⟩ := (show ObjOk X.prog X.w H s.heap a (.frz o (.dK kvs)) from I.hok a _ e)
    obtain ⟨o', es, ep, h1, h2, _⟩ := p
    exact PySem.W.kia_one PySem.W.kitx_dict I.kIn ⟨o', h1, h2.1⟩ hk (fun z => by cases z) fun tk => ⟨.bl b, H, I.tok tk, rfl, q⟩
  | exc hm hcl ci =>
    obtain ⟨e1, _⟩ := I.pin _ (List.mem_append_left _ hm)
    obtain rfl : u1 = Value.ref _ := rx
    exact PySem.W.kia_one (kitx_exc ci) I.kIn ⟨_, e1, hcl⟩ hk (fun z => by cases z) fun tk => ⟨.bl b, H, I.tok tk, rfl, q⟩
end L2
set_option maxRecDepth 100000
set_option maxHeartbeats 4000000
namespace L2
open PySem PySem.Spec PyProof.Rows
section
variable {X : Cx} {pins : List (Addr × Obj)} {σ : St} {H : Hp} {s : Shared}
theorem Inv.flown {h' B : Heap} {old : Addr -> Prop} (I : Inv X pins σ H s) (hst : X.stack = X.env :: X.outer) (hf : X.env.frame = some X.env.locals) (st : B.StaysIn h') (up : s.heap.UpToSlots h')
    (cov : ∀ b o, s.heap.get? b = some o -> b ∉ frs X.stack -> (H b ≠ none \/ old b) -> B.get? b = some o) (o1 : ∀ b o, X.s₀.heap.get? b = some o -> b ∉ X.ex -> old b) (o3 : ∀ p ∈ X.pn ++ pins, old p.1) :
    Inv X pins σ H { s with heap := h' } := by
  have trkd : ∀ b u v, H b = some u -> s.heap.get? b = some v -> h'.get? b = some v := fun b u v q r => st b v (cov b v r (I.trkNo q) (.inl (by rw [q]; simp)))
  have oldd : ∀ b o v, X.s₀.heap.get? b = some o -> b ∉ X.fs -> b ∉ X.ex -> s.heap.get? b = some v -> h'.get? b = some v := fun b o v q n x r => st b v (cov b v r (I.oldNo hst hf q n) (.inr (o1 b o q x)))
  have frms : ∀ b o, b ∈ X.fs -> s.heap.get? b = some o -> ∃ sl, h'.get? b = some { o with slots := sl } := fun b o hb q => by
    obtain ⟨_, o2, ho2, nf⟩ := I.funs.mem hb
    rw [q] at ho2; cases ho2
    exact up b o q nf
  have cellK : ∀ c v, s.heap.IsCell c v -> h'.IsCell c v := fun c v ⟨o, ho, hd⟩ => by
    obtain ⟨sl, e⟩ := up c o ho (fun vs q => by rw [hd] at q; cases q)
    exact ⟨_, e, hd⟩
  refine ⟨I.ok, I.os, I.bare, ⟨fun b o q n hb hx => oldd b o o q hb hx (I.base.keep b o q n hb hx), fun b o q n hb hx => ?_, I.base.free, fun b o q hx => ?_, I.base.tups, I.base.frzs, I.base.tbls⟩, ?_, fun y c q => ?_, I.free, I.freeC, fun p hp => ?_, fun b u q => ?_, I.len⟩
  · obtain ⟨sl, e1⟩ := I.base.slot b o q n hb hx
    obtain ⟨sl', e2⟩ := frms b _ hb e1
    exact ⟨sl', e2⟩
  · obtain ⟨o1', e1⟩ := I.base.there b o q hx
    by_cases hb : b ∈ X.fs
    · obtain ⟨sl, e2⟩ := frms b o1' hb e1
      exact ⟨_, e2⟩
    · exact ⟨o1', oldd b o o1' q hb hx e1⟩
  · obtain ⟨m, hn, hl⟩ := I.loc
    refine ⟨m, up.ns hn, fun i x v e1 e2 e3 => ?_⟩
    obtain ⟨u, r, l⟩ := hl i x v e1 e2 e3
    refine ⟨u, r, ?_⟩
    rcases l with l | ⟨k, c, e, z⟩
    · exact .inl l
    · exact .inr ⟨k, c, e, cellK c _ z⟩
  · obtain ⟨v, z⟩ := I.cell y c q
    exact ⟨v, cellK c v z⟩
  · obtain ⟨q, n, ne, nf, d⟩ := I.pin p hp
    have hns : p.1 ∉ frs X.stack := fun m => by
      rcases List.mem_cons.mp (I.stkSub p.1 m) with z | z
      · exact ne z
      · exact nf z
    exact ⟨st _ _ (cov _ _ q hns (.inr (o3 p hp))), n, ne, nf, d⟩
  · refine (I.hok b u q).stay (fun c v hc r => ?_) (fun _ z => z) fun _ _ z => z
    rcases hc with z | z
    · exact trkd c u v (by rw [z]; exact q) r
    · exact trkd c _ v z r
end
noncomputable def tTry (K : PySem.W.Frag) (CS : Addr) (i : Nat) (sp : Sp) (dvs : List V) (t : TA) (ts : Addr -> Obj -> TS) : TS := fun D σ H => t σ H fun vs H1 => sp (vs ++ dvs) H1 (fun _ H2 => D.nx σ H2)
  (fun cls _ H2 => ∃ C, cls = .ref C /\ PySem.W.exmOne K (.ref C) (.ref CS) = some true /\ ∀ (e : Addr) (oe : Obj), oe.cls = .ref C -> H2 e = none ->
    ts e oe { nx := fun σ' H' => D.nx (σ'.set i none) H', rt := D.rt, bk := fun σ' H' => D.bk (σ'.set i none) H', ct := fun σ' H' => D.ct (σ'.set i none) H' } (σ.set i (some (.ref e))) H2)
theorem ps_try {X : Cx} {k : Nat} {f CS : Addr} {fd : FuncData} {ps : List Str} {sp : Sp} {dvs : List V} {ds : List Value} {x xc n : Str} {p pos pos' pc hpos tpos : Pos} {e : Expr} {es : List Expr} {t : TA} {i : Nat} {b₀ : Stmt} {suite : List Stmt} {ts : Addr -> Obj -> TS}
    (hst : X.stack = X.env :: X.outer) (hf : X.env.frame = some X.env.locals) (hc : X.calm = true) (hN : X.N.Nodup)
    (F : FnOk X.prog X.w X.K X.mg X.base (cxx X.prog X.w) k f fd ps sp) (hr : Room k X.A) (hg : Gl X x) (hm : X.mg x = some (.ref f)) (hk : PySem.W.keepIn X.K (.ref f) = true) (hb : Binds X.K fd ps ds) (hd : Vals dvs ds)
    (ha : PA X.nox (e :: es) t) (hgc : Gl X xc) (hmc : X.mg xc = some (.ref CS)) (hi : X.N[i]? = some n) (hx : X.env.scope.names.lookup n = some .local)
    (hsuite : ∀ (e : Addr) (oe : Obj), PSs (X.within e oe) (b₀ :: suite) (ts e oe))
    (hdb : autoParam ((x == ("__debug__" : Str)) = false) L2.au1._auto_1) (hdc : autoParam ((xc == ("__debug__" : Str)) = false) L2.au1._auto_1)
    (he : autoParam (starEach (e :: es) X.env = (false, eval e X.env) :: starEach es X.env) L2.au3._auto_1) (hpl : autoParam ((backTo pos (starEach es X.env)).any (·.1) = false) L2.au3._auto_1)
    (hsw : autoParam (swapsWith (.Call (.Name x p) (e :: es) [] pos) none pos'.line X.env = pure false) L2.au3._auto_1) :
    PS X (.Try [.Expr (.Call (.Name x p) (e :: es) [] pos) pos'] [.ExceptHandler (some (.Name xc pc)) (some n) (b₀ :: suite) hpos] [] [] tpos) (tTry X.K CS i sp dvs t ts) := by
  intro pins s σ H D I h
  have hhd : X.calm = true -> X.A.handled = none := I.ok.hd
  refine wpAny_Try_except (wpAny_execs_cons (wpAny_Expr_any ?_ I.quiet hsw))
  refine wpAny_Call_Name_kw (ld_glob I hg hm ?_ hdb)
  refine PySem.W.callWith_K (h₀ := X.base) I.ok.mod.kin hk ?_ he hpl
  refine wpAny_mono (ha pos pins s σ H _ (I.wish _) h) (fun us s1 ⟨vs, H1, I1, r, q⟩ => ⟨I1.kIn, ?_⟩) fun _ _ z => z.elim
  have I1 : Inv X pins σ H1 s1 := I1.unwish
  have r2 : Vals (vs ++ dvs) (us ++ ds) := r.append hd
  have hl : (us ++ ds).length = ps.length := by rw [<- r2.length]; exact F.len _ _ _ _ q
  refine wpAny_call (codeAny_mono (F.run X.A X.stack s1 H1 ⟨us, []⟩ (us ++ ds) (vs ++ dvs) _ _ hr I1.env0 (hb s1 us I1.kIn hl) r2 q) fun r s' hq => ?_)
  cases r with
  | ok fl =>
    cases fl with
    | ret u =>
      obtain ⟨v, H2, I2, rv, qn⟩ := I1.after hq
      exact wpAny_execs_nil (wpAny_execs_nil ⟨σ, H2, I2, qn⟩)
    | next => exact False.elim hq
    | brk => exact False.elim hq
    | cont => exact False.elim hq
  | error ev =>
    obtain ⟨e1, cls, H2, rfl, os, bare, un, hok, ⟨B, a0, fl, cov⟩, C, rfl, hex, hsu⟩ := hq
    have I2 : Inv X pins σ H2 s' := I1.call' (ch := []) os un hok bare (fun b z => nomatch z)
    have fl' : Heap.FlyingW B (X.env :: X.outer) e1 (.ref C) a0 s'.heap := by rw [<- hst]; exact fl
    have hfr : X.A.frames = some (X.env :: X.outer) := by rw [<- hst]; exact I.ok.frames
    have o1 : ∀ b o, X.s₀.heap.get? b = some o -> b ∉ X.ex -> ∃ o, s1.heap.get? b = some o := fun b o q x => I1.base.there b o q x
    have o3 : ∀ p ∈ X.pn ++ pins, ∃ o, s1.heap.get? p.1 = some o := fun p hp => ⟨_, (I1.pin p hp).1⟩
    have flown : ∀ h' : Heap, B.StaysIn h' -> s'.heap.UpToSlots h' -> Inv X pins σ H2 { s' with heap := h' } := fun h' st up => I2.flown hst hf st up cov o1 o3
    have he2 : H2 e1 = none := by
      cases q : H2 e1 with
      | none => rfl
      | some u =>
        obtain ⟨o, ho⟩ := (I2.hok e1 u q).there
        have := cov e1 o ho (I2.trkNo q) (.inl (by rw [q]; simp))
        rw [fl.2.1] at this; cases this
    have apart : ∀ (h' : Heap), Heap.FlyingW B (X.env :: X.outer) e1 (.ref C) a0 h' -> ∃ oe, h'.get? e1 = some oe /\ oe.cls = .ref C /\ (∃ vs, oe.data = .fields vs) /\ e1 ≠ X.env.locals /\ e1 ∉ X.fs := fun h' z => by
      obtain ⟨oe, vs, q1, q2, q3, _⟩ := z.first
      have nfr : e1 ∉ frs (X.env :: X.outer) := fun m => by
        obtain ⟨_, o, ho, nf⟩ := z.2.2.1.mem m
        rw [q1] at ho; cases ho
        exact nf vs q3
      refine ⟨oe, q1, q2, ⟨vs, q3⟩, fun q => nfr ?_, fun m => nfr ?_⟩
      · rw [q]
        unfold frs
        rw [List.filterMap_cons, hf]
        exact List.mem_cons_self
      · unfold frs
        rw [List.filterMap_cons, hf]
        exact List.mem_cons_of_mem _ m
    refine wpAny_looks_onW hfr hf fl' fun h4 hd4 up4 => ?_
    refine wpAny_landsW hd4 fun h5 fl5 up5 => ?_
    have up5' : s'.heap.UpToSlots h5 := up4.trans up5
    have I5 := flown h5 fl5.1 up5'
    obtain ⟨oe5, g1, g2, ⟨vs5, g3⟩, g4, g5⟩ := apart h5 fl5
    have I5w : Inv (X.within e1 oe5) pins σ H2 { s' with heap := h5 } := I5.within g1 he2 g4 g5 (fun v q => by rw [g3] at q; cases q)
    refine wpAny_handleBy_cons (codeAny_handlers_test (ld_glob (X := X.within e1 oe5) I5w hgc hmc ?_ hdc)) (by intro q; cases q)
    have LT : PySem.W.Looks (model X.prog X.w) h5 (typeOf (.ref e1)) (.ref C) := g2 ▸ (PySem.W.Looks.ld g1).andThen .now
    refine (PySem.W.exm_one I5.kIn LT hex).here ?_
    refine codeAny_handlers_suite_as ?_
    refine lands_againW fl5 fun h6 fl6 up6 => ?_
    have I6 := flown h6 fl6.1 (up5'.trans up6)
    obtain ⟨oe6, k1, k2, ⟨vs6, k3⟩, k4, k5⟩ := apart h6 fl6
    refine store_ok2 I6 hN hi (.inl hx) (v := .ref e1) (u := .ref e1) rfl (fun s7 I7 sb => ?_) (.inr hx)
    obtain ⟨a7, sb7, ha7⟩ := sb
    have ne7 : e1 ≠ a7 := by
      rcases ha7 with z | z
      · rw [z]; exact k4
      · intro q
        obtain ⟨v, o, ho, hdd⟩ := I6.cell n a7 z
        rw [<- q] at ho
        have ho : h6.get? e1 = some o := ho
        rw [k1] at ho; cases ho
        rw [k3] at hdd; cases hdd
    have e7 : s7.heap.get? e1 = some oe6 := (sb7.2 e1 ne7).trans k1
    have I7w : Inv (X.within e1 oe6) pins (σ.set i (some (.ref e1))) H2 s7 := I7.within e7 he2 k4 k5 (fun v q => by rw [k3] at q; cases q)
    refine wpAny_mono (hsuite e1 oe6 pins s7 _ H2 _ I7w (hsu e1 oe6 k2 he2)) (fun fl8 s8 q8 => ?_) fun _ _ z => z.elim
    have q8 := SP.without q8 hhd
    cases fl8 with
    | next =>
      obtain ⟨σ8, H8, I8, q⟩ := q8
      exact name_out I8 hN hi hx fun s9 I9 => ⟨_, H8, I9, q⟩
    | brk =>
      obtain ⟨σ8, H8, I8, q⟩ := q8
      exact name_out I8 hN hi hx fun s9 I9 => ⟨_, H8, I9, q⟩
    | cont =>
      obtain ⟨σ8, H8, I8, q⟩ := q8
      exact name_out I8 hN hi hx fun s9 I9 => ⟨_, H8, I9, q⟩
    | ret u =>
      obtain ⟨v8, σ8, H8, I8, r8, q⟩ := q8
      exact name_out I8 hN hi hx fun s9 I9 => ⟨v8, _, H8, I9, r8, q⟩
end L2
set_option maxRecDepth 100000
set_option maxHeartbeats 4000000
namespace L2
open PySem PySem.Spec PyProof.Rows
noncomputable def closL (cells : List (Str × Addr)) : List (Str × NameKind) -> List (Str × Addr) -> List (Str × Addr)
  | [], acc => acc
  | (n, k) :: r, acc => closL cells r (if (k == .free) = true then (n, (cells.lookup n).getD 0) :: acc else acc)
theorem closureFor_of {scope : Scope} {env : Env} (h : ∀ y ∈ scope.names, y.2 = .free -> ∃ c, env.cells.lookup y.1 = some c) : closureFor scope env = pure (closL env.cells scope.names []) := by
  have go : ∀ (l : List (Str × NameKind)) (acc : List (Str × Addr)), (∀ y ∈ l, y.2 = .free -> ∃ c, env.cells.lookup y.1 = some c) ->
      (forIn l acc fun (x : Str × NameKind) (r : List (Str × Addr)) => (if (x.2 == .free) = true then (do let a <- cellOf env x.1; pure (ForInStep.yield ((x.1, a) :: r))) else pure (ForInStep.yield r) : Sem (ForInStep (List (Str × Addr))))) = pure (closL env.cells l acc) := by
    intro l
    induction l with
    | nil => intro acc _; rfl
    | cons x r ih =>
      intro acc hx
      obtain ⟨n, k⟩ := x
      rw [List.forIn_cons]
      have hr := fun acc => ih acc fun y hy => hx y (List.mem_cons_of_mem _ hy)
      by_cases hk : (k == NameKind.free) = true
      · obtain ⟨c, hc⟩ := hx (n, k) List.mem_cons_self (by simpa using hk)
        have hc' : env.cells.lookup n = some c := hc
        have e1 : cellOf env n = pure c := by unfold cellOf; rw [hc']
        simp only [hk, if_true, e1, pure_bind]
        unfold closL
        rw [if_pos hk, hc']
        exact hr _
      · simp only [hk, Bool.false_eq_true, if_false, pure_bind]
        unfold closL
        rw [if_neg hk]
        exact hr _
  unfold closureFor
  have e := go scope.names [] h
  simp only [bind_pure_comp, map_pure] at e ⊢
  first | exact e | (simp only [e, bind_pure]; done) | (rw [show (forIn scope.names ([] : List (Str × Addr)) _) = _ from e]; rfl)
theorem closL_lookup {cells : List (Str × Addr)} {x : Str} {c : Addr} : ∀ {names : List (Str × NameKind)} {acc : List (Str × Addr)}, (closL cells names acc).lookup x = some c -> acc.lookup x = some c \/ ((x, NameKind.free) ∈ names /\ c = (cells.lookup x).getD 0)
  | [], acc, h => .inl h
  | (n, k) :: r, acc, h => by
    unfold closL at h
    rcases closL_lookup h with z | ⟨z, e⟩
    · by_cases hk : (k == NameKind.free) = true
      · rw [if_pos hk] at z
        by_cases hx : (x == n) = true
        · rw [List.lookup_cons, hx] at z
          have e1 : x = n := by simpa using hx
          have e2 : k = NameKind.free := by simpa using hk
          subst e1 e2
          exact .inr ⟨List.mem_cons_self, (Option.some.inj z).symm⟩
        · have hx' : (x == n) = false := by simpa using hx
          rw [List.lookup_cons, hx'] at z
          exact .inl z
      · rw [if_neg hk] at z
        exact .inl z
    · exact .inr ⟨List.mem_cons_of_mem _ z, e⟩
theorem closL_has {cells : List (Str × Addr)} {x : Str} : ∀ {names : List (Str × NameKind)} {acc : List (Str × Addr)}, ((x, NameKind.free) ∈ names \/ ∃ c, acc.lookup x = some c) -> ∃ c, (closL cells names acc).lookup x = some c
  | [], acc, h => by
    rcases h with h | h
    · cases h
    · exact h
  | (n, k) :: r, acc, h => by
    unfold closL
    refine closL_has ?_
    rcases h with h | ⟨c, h⟩
    · rcases List.mem_cons.mp h with z | z
      · cases z
        refine .inr ⟨(cells.lookup x).getD 0, ?_⟩
        rw [if_pos (by decide), List.lookup_cons]
        simp only [beq_self_eq_true]
      · exact .inl z
    · by_cases hk : (k == NameKind.free) = true
      · rw [if_pos hk]
        by_cases hx : (x == n) = true
        · exact .inr ⟨_, by rw [List.lookup_cons, hx]⟩
        · have hx' : (x == n) = false := by simpa using hx
          exact .inr ⟨c, by rw [List.lookup_cons, hx']; exact h⟩
      · rw [if_neg hk]
        exact .inr ⟨c, h⟩
theorem lookup_relabel_of {env : Env} {x : Str} {k : NameKind} : ∀ {names : List (Str × NameKind)}, (names.map fun (n, k) => if (k == NameKind.free && env.scope.kind == .function && env.kindOf n == some .cell) then (n, NameKind.cell) else (n, k)).lookup x = some k ->
    ∃ k', names.lookup x = some k' /\ (k = k' \/ (k' = .free /\ k = .cell))
  | [], h => by cases h
  | (n, j) :: r, h => by
    rw [List.map_cons] at h
    by_cases hx : (x == n) = true
    · refine ⟨j, by rw [List.lookup_cons, hx], ?_⟩
      dsimp only at h
      by_cases hc : (j == NameKind.free && env.scope.kind == .function && env.kindOf n == some .cell) = true
      · rw [if_pos hc, List.lookup_cons, hx] at h
        simp only [Bool.and_eq_true] at hc
        exact .inr ⟨by simpa using hc.1.1, (Option.some.inj h).symm⟩
      · rw [if_neg hc, List.lookup_cons, hx] at h
        exact .inl (Option.some.inj h).symm
    · have hx' : (x == n) = false := by simpa using hx
      have e : (r.map fun (n, k) => if (k == NameKind.free && env.scope.kind == .function && env.kindOf n == some .cell) then (n, NameKind.cell) else (n, k)).lookup x = some k := by
        dsimp only at h
        by_cases hc : (j == NameKind.free && env.scope.kind == .function && env.kindOf n == some .cell) = true
        · rw [if_pos hc, List.lookup_cons, hx'] at h; exact h
        · rw [if_neg hc, List.lookup_cons, hx'] at h; exact h
      obtain ⟨k', e1, e2⟩ := lookup_relabel_of e
      exact ⟨k', by rw [List.lookup_cons, hx']; exact e1, e2⟩
structure CompScope (X : Cx) (N' : List Str) (fr : List (Option Nat)) (scope : Scope) : Prop where
  kind : scope.kind = .function
  nocell : ∀ y ∈ scope.names, y.2 ≠ .cell
  loc : ∀ y ∈ scope.names, y.2 = .local -> scope.names.lookup y.1 = some .local
  free : ∀ y ∈ scope.names, y.2 = .free -> ∃ c, X.env.cells.lookup y.1 = some c
  len : fr.length = N'.length
  fre : ∀ (j i : Nat) (x : Str), fr[j]? = some (some i) -> N'[j]? = some x -> X.N[i]? = some x /\ scope.names.lookup x = some .free /\ (X.env.kindOf x = some .cell \/ X.env.kindOf x = some .free)
noncomputable def compSt (fr : List (Option Nat)) (σ : St) : St := fr.map fun o => o.bind fun i => (σ[i]?).join
noncomputable def compCx (X : Cx) (scope : Scope) (N' : List Str) (s₃ : Shared) (H₃ : Hp) (fp : List Addr) (pins : List (Addr × Obj)) : Cx :=
  { X with N := N', s₀ := s₃, H₀ := H₃, env := compEnvC scope (closL X.env.cells scope.names []) s₃.heap.objs.size X.env, outer := X.stack, stack := X.stack, ex := fp, fn := fun _ => false, pn := X.pn ++ pins, xe := fun _ _ => False }
section
variable {X : Cx} {pins : List (Addr × Obj)} {σ : St} {H : Hp} {s : Shared} {N' : List Str} {fr : List (Option Nat)} {scope : Scope} {fp : List Addr}
theorem clos_cells (S : CompScope X N' fr scope) {x : Str} {c : Addr} (h : (closL X.env.cells scope.names []).lookup x = some c) : X.env.cells.lookup x = some c := by
  rcases closL_lookup h with z | ⟨z, e⟩
  · cases z
  · obtain ⟨c', hc⟩ := S.free _ z rfl
    have hc : X.env.cells.lookup x = some c' := hc
    rw [hc] at e
    rw [hc, e]; rfl
theorem comp_ok (I : Inv X pins σ H s) (S : CompScope X N' fr scope) (hf : ∀ b ∈ fp, FpOk X pins H b) (hlt : ∀ b ∈ fp, b < s.heap.objs.size) : (compCx X scope N' s H fp pins).Ok := by
  refine ⟨I.ok.mod, S.kind, I.ok.glob, I.ok.blt, Nat.le_refl _, fun x y c h1 h2 => I.ok.inj x y c (clos_cells S h1) (clos_cells S h2), fun x hx => ?_, (fun x c z => by cases z), I.ok.hd, I.ok.frames, .inl rfl, fun b hb => ⟨Nat.ne_of_lt (hlt b hb), fun x c h => (hf b hb).2.2.2.2.1 x c (clos_cells S h)⟩,
    I.bs, Nat.le_trans I.ok.bsz I.sz, fun b o e hb => ?_, fun b hb hm => ?_, I.stack, I.stkFree⟩
  · have hx : (relabel scope X.env).names.lookup x = some .cell \/ (relabel scope X.env).names.lookup x = some .free := hx
    have key : scope.names.lookup x = some .free := by
      rcases hx with h | h
      · obtain ⟨k', e1, e2⟩ := lookup_relabel_of h
        rcases e2 with z | ⟨z, _⟩
        · exact absurd z.symm (S.nocell _ (PySem.mem_of_lookup e1))
        · rw [e1, z]
      · obtain ⟨k', e1, e2⟩ := lookup_relabel_of h
        rcases e2 with z | ⟨_, z⟩
        · rw [e1, <- z]
        · cases z
    exact closL_has (.inl (PySem.mem_of_lookup key))
  · rcases (hf b hb).2.2.2.1 with z | z
    · exact I.ok.noex b o e z
    · exact absurd (Nat.lt_of_lt_of_le (Heap.lt_size e) (Nat.le_trans I.ok.bsz z)) (Nat.lt_irrefl _)
  · rcases List.mem_cons.mp (I.stkSub b hm) with z | z
    · exact (hf b hb).2.1 z
    · exact (hf b hb).2.2.1 z
theorem comp_in {h' : Heap} {m : Str -> Option Value} {tk : Nat} (I : Inv X pins σ H s) (S : CompScope X N' fr scope) (hf : ∀ b ∈ fp, FpOk X pins H b) (hlt : ∀ b ∈ fp, b < s.heap.objs.size) (hn : h'.Ns s.heap.objs.size m)
    (hk : ∀ b o, s.heap.get? b = some o -> h'.get? b = some o) : Inv (compCx X scope N' s H fp pins) [] (compSt fr σ) H { s with heap := h', toks := tk } := by
  refine ⟨comp_ok I S hf hlt, rfl, I.bare, Un.kept hk, ⟨m, hn, fun j x v e1 e2 e3 => ?_⟩, fun x c h => ?_, I.hok.fresh (Nat.le_refl _), fun x c h => I.freeC x c (clos_cells S h), fun p hp => ?_, I.hok.kept hk, by unfold compSt; rw [List.length_map]; exact S.len⟩
  · have e1 : N'[j]? = some x := e1
    unfold compSt at e2
    rw [List.getElem?_map] at e2
    cases hj : fr[j]? with
    | none => rw [hj] at e2; cases e2
    | some o =>
      rw [hj] at e2
      cases o with
      | none => cases e2
      | some i =>
        have e2 : (σ[i]?).join = some v := Option.some.inj e2
        have e2' : σ[i]? = some (some v) := by
          cases hq : σ[i]? with
          | none => rw [hq] at e2; cases e2
          | some w => rw [hq] at e2; rw [show w = some v from e2]
        obtain ⟨n1, n2, n3⟩ := S.fre j i x hj e1
        obtain ⟨m0, hn0, hl⟩ := I.loc
        have hvis : Vis X.env.scope x := by
          rcases n3 with z | z
          · exact .inr (.inl z)
          · exact .inr (.inr z)
        obtain ⟨u, r, l⟩ := hl i x v n1 e2' hvis
        refine ⟨u, r, .inr ⟨?_, ?_⟩⟩
        · have hh : ∀ {names : List (Str × NameKind)}, names.lookup x = some .free -> (names.map fun (n, k) => if (k == NameKind.free && X.env.scope.kind == .function && X.env.kindOf n == some .cell) then (n, NameKind.cell) else (n, k)).lookup x = some .cell \/
              (names.map fun (n, k) => if (k == NameKind.free && X.env.scope.kind == .function && X.env.kindOf n == some .cell) then (n, NameKind.cell) else (n, k)).lookup x = some .free := by
            intro names
            induction names with
            | nil => intro z; cases z
            | cons y r ih =>
              obtain ⟨n, k⟩ := y
              intro z
              rw [List.map_cons]
              dsimp only
              by_cases hx : (x == n) = true
              · rw [List.lookup_cons, hx] at z
                by_cases hc : (k == NameKind.free && X.env.scope.kind == .function && X.env.kindOf n == some .cell) = true
                · rw [if_pos hc]; exact .inl (by rw [List.lookup_cons, hx])
                · rw [if_neg hc]; exact .inr (by rw [List.lookup_cons, hx]; exact z)
              · have hx' : (x == n) = false := by simpa using hx
                rw [List.lookup_cons, hx'] at z
                have := ih z
                by_cases hc : (k == NameKind.free && X.env.scope.kind == .function && X.env.kindOf n == some .cell) = true
                · rw [if_pos hc, List.lookup_cons, hx']; exact this
                · rw [if_neg hc, List.lookup_cons, hx']; exact this
          exact hh n2
        · rcases l with ⟨k, _⟩ | ⟨k, c, e, z⟩
          · rcases n3 with q | q
            · rw [q] at k; cases k
            · rw [q] at k; cases k
          · obtain ⟨c', hc'⟩ := closL_has (cells := X.env.cells) (x := x) (names := scope.names) (acc := []) (.inl (PySem.mem_of_lookup n2))
            have e' := clos_cells S hc'
            rw [e] at e'; cases e'
            obtain ⟨o, ho, hd⟩ := z
            exact ⟨c, hc', o, hk _ _ ho, hd⟩
  · obtain ⟨v, o, ho, hd⟩ := I.cell x c (clos_cells S h)
    exact ⟨v, o, hk _ _ ho, hd⟩
  · have hp : p ∈ (X.pn ++ pins) ++ [] := hp
    rw [List.append_nil] at hp
    obtain ⟨q, n, ne, nf, d⟩ := I.pin p hp
    refine ⟨hk _ _ q, n, Nat.ne_of_lt (Heap.lt_size q), fun hm => ?_, d⟩
    rcases List.mem_cons.mp (I.stkSub p.1 hm) with z | z
    · exact ne z
    · exact nf z
end
end L2
set_option maxRecDepth 100000
set_option maxHeartbeats 4000000
namespace L2
open PySem PySem.Spec PyProof.Rows
section
variable {X : Cx} {pins : List (Addr × Obj)} {σ τ : St} {H H₃ H5 : Hp} {s₃ s5 : Shared} {N' : List Str} {scope : Scope} {fp : List Addr}
theorem comp_out {h' : Heap} (I : Inv X pins σ H₃ s₃) (J : Inv (compCx X scope N' s₃ H₃ fp pins) [] τ H5 s5) (hf : ∀ b ∈ fp, FpOk X pins H₃ b) (hs : Heap.SameBut s₃.heap.objs.size s5.heap h') : Inv X pins σ H5 { s5 with heap := h' } := by
  have hb : ∀ b o, s₃.heap.get? b = some o -> b ≠ s₃.heap.objs.size := fun b o q => Nat.ne_of_lt (Heap.lt_size q)
  have u : Un (frs X.stack) fp H₃ H5 s₃.heap s5.heap := J.base
  refine I.call' (s' := { s5 with heap := h' }) (ch := fp) J.os ⟨fun b o q n h1 h2 => (hs.2 b (hb b o q)).trans (u.keep b o q n h1 h2), fun b o q n h1 h2 => ?_, u.free, fun b o q h2 => ?_, u.tups, u.frzs, u.tbls⟩ (fun b ob q => ?_) J.bare (fun b m => ⟨(hf b m).2.2.2.1, (hf b m).2.1, (hf b m).2.2.2.2.1, (hf b m).2.2.2.2.2⟩)
  · obtain ⟨sl, e⟩ := u.slot b o q n h1 h2
    exact ⟨sl, (hs.2 b (hb b o q)).trans e⟩
  · obtain ⟨o', e⟩ := u.there b o q h2
    exact ⟨o', (hs.2 b (hb b o q)).trans e⟩
  · have fr : H5 s₃.heap.objs.size = none := J.free
    refine (J.hok b ob q).stay (fun c v hc r => (hs.2 c ?_).trans r) (fun _ z => z) fun _ _ z => z
    rintro rfl
    rcases hc with rfl | hc
    · rw [fr] at q; cases q
    · rw [fr] at hc; cases hc
end
noncomputable def PTs (X : Cx) (ifs : List Expr) (t : TT) : Prop :=
  ∀ (pins : List (Addr × Obj)) (s : Shared) (σ : St) (H : Hp) (Q : Bool -> Hp -> Prop), Inv X pins σ H s -> t σ H Q ->
    wpAny (model X.prog X.w) X.A (forIn ifs true fun c r => if r = true then do let ok <- isTrue c X.env (eval c X.env); pure (ForInStep.yield ok) else pure (ForInStep.yield r)) (TP X pins σ Q) X.xe s
noncomputable def tYes : TT := fun _ H Q => Q true H
theorem pts_nil {X : Cx} : PTs X [] tYes := fun _ _ _ H _ I h => wpAny_tests_nil ⟨H, I, h⟩
noncomputable def tComp (fr : List (Option Nat)) (wi : TI) (g : TG) (tc : TT) (te : TE) : TE := fun σ H Q => wi σ H fun J H1 => ∀ D, H1 D = none ->
  ∃ W : Nat -> Nat -> List V -> St -> Hp -> Prop, (∃ m, W 0 m [] (compSt fr σ) (upd H1 D (.lst []))) /\ ∀ i m ys τ H2, W i m ys τ H2 -> H2 D = some (.lst ys) /\
    ((J.stop i H2 /\ Q (.ref D) H2) \/ (J.go i H2 /\ ∀ x H3, J.yld i H2 x H3 -> g x τ H3 fun τ' H4 => tc τ' H4 fun b H5 => if b = true then te τ' H5 fun y H6 => H6 D = some (.lst ys) /\ ys.length < sizeLine /\ ∃ m', m' < m /\ W (i + 1) m' (ys ++ [y]) τ' (upd H6 D (.lst (ys ++ [y])))
      else ∃ m', m' < m /\ W (i + 1) m' ys τ' H5))
theorem comp_gen {X : Cx} {N' : List Str} {fr : List (Option Nat)} {scope : Scope} {tg iter elt : Expr} {ifs : List Expr} {wi : TI} {g : TG} {tc : TT} {te : TE} {pos cp : Pos} {use : Option (Value -> Sem Unit)} {Qf : Value -> Shared -> Prop} (hc : X.calm = true) (S : CompScope X N' fr scope) (hi : PI X tg iter wi)
    (hg : ∀ s₃ H₃ fp pins, PG (compCx X scope N' s₃ H₃ fp pins) tg g) (ht : ∀ s₃ H₃ fp pins, PTs (compCx X scope N' s₃ H₃ fp pins) ifs tc) (he : ∀ s₃ H₃ fp pins, PE (compCx X scope N' s₃ H₃ fp pins) elt te)
    (hs : ∀ x, foldedSetIterable iter X.env x = pure x) {pins : List (Addr × Obj)} {s : Shared} {σ : St} {H : Hp} {Q : VK} (I : Inv X pins σ H s) (h : tComp fr wi g tc te σ H Q)
    (hfin : ∀ (s₃ : Shared) (H₃ : Hp) (fp : List Addr) (D : Addr) (s6 : Shared) (τ : St) (H5 : Hp) (fl : Flow), Inv X pins σ H₃ s₃ -> (∀ b ∈ fp, FpOk X pins H₃ b) -> Inv (compCx X scope N' s₃ H₃ fp pins) [] τ H5 s6 -> Q (.ref D) H5 ->
      compPost (model X.prog X.w) X.A X.xe use Qf (.ref D) s₃.heap.objs.size (.ok fl) s6) :
    wpAny (model X.prog X.w) X.A (comprehension (.ListComp elt [⟨tg, iter, ifs, 0⟩] scope pos) scope X.env cp (newList []) false (eval iter X.env) use) Qf X.xe s := by
  refine wpAny_comprehension_free (use := use) rfl hs (closureFor_of S.free) S.kind S.loc ?_
  refine thn (hi pins s σ H _ I h) fun v s1 h1 => thn h1 fun itv s2 h2 => ?_
  obtain ⟨it, fp, tn, J, H2, rfl, I2, T, st2, f2, hW⟩ := h2
  refine wpAny_newObj_type ?_ (by size_fits)
  have hD : H2 s2.heap.objs.size = none := I2.hok.fresh (Nat.le_refl _)
  have I3 : Inv X pins σ (upd H2 s2.heap.objs.size (.lst [])) { s2 with heap := s2.heap.push { cls := .type "list", data := .seq ([] : List Value).toArray }, toks := s2.toks } :=
    I2.laid (fun b u e => Heap.get?_push_of_some _ e) (Nat.le_refl _) ⟨Nat.zero_le _, [], 0, .nil, Heap.get?_push_size _ rfl⟩
  generalize eD : s2.heap.objs.size = D at I3 hD ⊢
  generalize eH : upd H2 D (.lst []) = H3 at I3
  have f3 : ∀ b ∈ fp, FpOk X pins H3 b := fun b hb => by
    obtain ⟨g0, g1⟩ := f2 b hb
    refine ⟨?_, g1⟩
    obtain ⟨o, ho, _⟩ := T.obj 0 _ st2 b hb
    rw [<- eH, upd_ne (by rw [<- eD]; exact Nat.ne_of_lt (Heap.lt_size ho))]
    exact g0
  have lt3 : ∀ b ∈ fp, b < (s2.heap.push { cls := .type "list", data := .seq ([] : List Value).toArray }).objs.size := fun b hb => by
    obtain ⟨o, ho, _⟩ := T.obj 0 _ st2 b hb
    rw [Heap.size_push]
    exact Nat.lt_succ_of_lt (Heap.lt_size ho)
  have st3 : tn 0 (s2.heap.push { cls := .type "list", data := .seq ([] : List Value).toArray }) := T.keep _ _ _ st2 fun b _ o e => Heap.get?_push_of_some _ e
  obtain ⟨W, ⟨m0, w0⟩, turn⟩ := hW D hD
  rw [eH] at w0
  generalize es3 : ({ s2 with heap := s2.heap.push { cls := .type "list", data := .seq ([] : List Value).toArray }, toks := s2.toks } : Shared) = s3 at I3
  have lt3 : ∀ b ∈ fp, b < s3.heap.objs.size := by rw [<- es3]; exact lt3
  have st3 : tn 0 s3.heap := by rw [<- es3]; exact st3
  refine wpAny_newFunctionEnv S.nocell (by intro y hy; cases hy) (fun h4 hn4 hsb4 => ?_) S.kind
  have k4 : ∀ b o, s3.heap.get? b = some o -> h4.get? b = some o := fun b o e => (hsb4.2 b (Nat.ne_of_lt (Heap.lt_size e))).trans (Heap.get?_push_of_some _ e)
  have I4 : Inv (compCx X scope N' s3 H3 fp pins) [] (compSt fr σ) H3 { s3 with heap := h4, toks := s3.toks + ([] : List (Str × Value)).length } := comp_in I3 S f3 lt3 hn4 k4
  have st4 : tn 0 h4 := T.keep _ _ _ st3 fun b _ o e => k4 b o e
  have stat : ∀ {H' : Hp} {p' : List (Addr × Obj)}, p' = [] -> (∀ b ∈ fp, H' b = none) -> ∀ b ∈ fp, FpOk (compCx X scope N' s3 H3 fp pins) p' H' b := fun {H' p'} hp hn b hb => by
    subst hp
    obtain ⟨g0, g1, g2, g3, g4, g5⟩ := f3 b hb
    refine ⟨hn b hb, Nat.ne_of_lt (lt3 b hb), fun hm => ?_, .inl hb, fun x c h => g4 x c (clos_cells S h), fun p hp => ?_⟩
    · rcases List.mem_cons.mp (I3.stkSub b hm) with z | z
      · exact g1 z
      · exact g2 z
    · have hp : p ∈ (X.pn ++ pins) ++ [] := hp
      rw [List.append_nil] at hp
      exact g5 p hp
  have loop : ∀ s' : Shared, s' = { s3 with heap := h4, toks := s3.toks + ([] : List (Str × Value)).length } -> codeAny (model X.prog X.w) X.A (.compLoop (.ListComp elt [⟨tg, iter, ifs, 0⟩] scope pos) 0 (.ref it) (.ref D) (compEnvC scope (closL X.env.cells scope.names []) s3.heap.objs.size X.env))
      (compPost (model X.prog X.w) X.A X.xe use Qf (.ref D) s3.heap.objs.size) s' := by
    rintro s' rfl
    refine codeAny_loop rfl (fun n s' => ∃ i ys τ H', Inv (compCx X scope N' s3 H3 fp pins) [] τ H' s' /\ tn i s'.heap /\ (∀ b ∈ fp, H' b = none) /\ W i n ys τ H') ?_ m0 ⟨0, [], _, H3, I4, st4, fun b hb => (f3 b hb).1, w0⟩
    rintro n s5 ⟨i, ys, τ, H5, I5, st5, fr5, w5⟩
    show wpAny _ X.A ((compTurn (.ListComp elt [⟨tg, iter, ifs, 0⟩] scope pos) 0 (.ref it) (.ref D) (compEnvC scope (closL X.env.cells scope.names []) s3.heap.objs.size X.env)).onRaise (fun x => do noteFrame x (compEnvC scope (closL X.env.cells scope.names []) s3.heap.objs.size X.env); theTreesLotGoes x)) _ _ s5
    refine wpAny_noted ?_
    rw [compTurn_list]
    obtain ⟨hDy, hor⟩ := turn i n ys τ H5 w5
    rcases hor with ⟨stop, q⟩ | ⟨go, step⟩
    · refine wpAny_bind (wpAny_standAt (wpAny_bind (thn (T.done (compCx X scope N' s3 H3 fp pins) rfl rfl rfl hc i [] s5 τ H5 _ I5 (stat rfl fr5) st5 stop) fun r s6 ⟨hr, I6⟩ => ?_)))
      subst hr
      exact wpAny_pure (hfin s3 H3 fp D s6 τ H5 _ I3 f3 I6 q)
    · refine wpAny_bind (wpAny_standAt (wpAny_bind (thn (T.item (compCx X scope N' s3 H3 fp pins) rfl rfl rfl hc i [] s5 τ H5 _ I5 (stat rfl fr5) st5 go) fun r s6 ⟨u, hr, h6⟩ => ?_)))
      subst hr
      refine wpAny_bind (thn h6 fun _ s7 ⟨x, H7, I7, r7, y7, st7, fr7⟩ => ?_)
      have I7' := I7.pinned (stat rfl fr7) (T.obj _ _ st7)
      refine wpAny_bind (wpAny_mono (hg s3 H3 fp pins _ s7 τ H7 x u _ I7' r7 (step x H7 y7)) (fun _ s8 ⟨τ8, H8, I8, q8⟩ => ?_) fun _ _ z => False.elim z)
      refine wpAny_bind (wpAny_mono (ht s3 H3 fp pins _ s8 τ8 H8 _ I8 q8) (fun b s9 ⟨H9, I9, q9⟩ => ?_) fun _ _ z => False.elim z)
      have again : ∀ {s' : Shared} {H' : Hp}, Inv (compCx X scope N' s3 H3 fp pins) ([] ++ pinsAt fp s7.heap) τ8 H' s' -> tn (i + 1) s'.heap /\ ∀ b ∈ fp, H' b = none := fun {s' H'} I' => by
        refine ⟨T.keep _ _ _ st7 fun b hb o e => (I'.pin (b, o) (List.mem_append_right _ (List.mem_append_right _ (mem_pinsAt hb e)))).1, fun b hb => ?_⟩
        obtain ⟨o, e, d⟩ := T.obj _ _ st7 b hb
        exact (I'.pin (b, o) (List.mem_append_right _ (List.mem_append_right _ (mem_pinsAt hb e)))).2.1
      cases b with
      | false =>
        rw [if_neg Bool.false_ne_true] at q9
        obtain ⟨m', hm, w9⟩ := q9
        obtain ⟨a1, a2⟩ := again I9
        refine wpAny_pure ⟨rfl, m', hm, i + 1, ys, τ8, H9, I9.unpinned, a1, a2, w9⟩
      | true =>
        rw [if_pos rfl] at q9
        refine wpAny_bind (wpAny_bind (wpAny_mono (he s3 H3 fp pins _ s9 τ8 H9 _ I9 q9) (fun yv s10 ⟨y, H10, I10, r10, hD10, hz, m', hm, w10⟩ => ?_) fun _ _ z => False.elim z))
        refine wpAny_bind (wpAny_mono (mt_append (X := compCx X scope N' s3 H3 fp pins) _ s10 τ8 H10 (.ref D) [y] (.ref D) [yv] (fun _ H11 => H11 = upd H10 D (.lst (ys ++ [y]))) I10 rfl (.cons r10 .nil) ⟨D, ys, y, rfl, rfl, hD10, hz, rfl⟩) (fun _ s11 ⟨_, H11, I11, _, q11⟩ => ?_) fun _ _ z => False.elim z)
        subst q11
        obtain ⟨a1, a2⟩ := again I11
        exact wpAny_pure (wpAny_pure ⟨rfl, m', hm, i + 1, ys ++ [y], τ8, _, I11.unpinned, a1, a2, w10⟩)
  exact codeAny_compStart_list (loop _ rfl) (T.self _ 0 _ _ _ st4 (loop _ rfl))
theorem pe_comp {X : Cx} {N' : List Str} {fr : List (Option Nat)} {scope : Scope} {tg iter elt : Expr} {ifs : List Expr} {wi : TI} {g : TG} {tc : TT} {te : TE} {pos : Pos} (hc : X.calm = true) (S : CompScope X N' fr scope) (hi : PI X tg iter wi)
    (hg : ∀ s₃ H₃ fp pins, PG (compCx X scope N' s₃ H₃ fp pins) tg g) (ht : ∀ s₃ H₃ fp pins, PTs (compCx X scope N' s₃ H₃ fp pins) ifs tc) (he : ∀ s₃ H₃ fp pins, PE (compCx X scope N' s₃ H₃ fp pins) elt te)
    (hs : autoParam (∀ x, foldedSetIterable iter X.env x = pure x) L2.au2._auto_1) : PE X (.ListComp elt [⟨tg, iter, ifs, 0⟩] scope pos) (tComp fr wi g tc te) := by
  intro pins s σ H Q I h
  rw [eval_ListComp]
  refine comp_gen (use := none) hc S hi hg ht he hs I h fun s3 H3 fp D s6 τ H5 fl I3 f3 I6 q => ?_
  obtain ⟨m6, hn6, _⟩ := I6.loc
  exact ⟨m6, hn6, fun h7 hs7 => ⟨.ref D, H5, comp_out I3 I6 f3 hs7, rfl, q⟩⟩
end L2
set_option maxRecDepth 100000
set_option maxHeartbeats 4000000
namespace L2
open PySem PySem.Spec PyProof.Rows
section
variable {X : Cx}
end
noncomputable def signAt (x : Str) (i : Nat) (v : V) : Prop := ∃ c, x.cps[i]? = some c /\ v = .str ⟨#[c]⟩
noncomputable def Its (x : Str) : It := ⟨fun i _ => i < x.cps.size, fun i H v H' => H' = H /\ signAt x i v, fun i _ => x.cps.size <= i⟩
theorem turn_ascii {P : Program} {w : World} {K : PySem.W.Frag} {tg : Expr} (x : Str) (t : Tok) (it : Addr) : Turn P w K tg (Its x) [it] it (fun i h => h.IsStrIter it "str_ascii_iterator" x t i) where
  mem := by simp
  obj := fun i h st b hb => by
    have e : b = it := by simpa using hb
    subst e
    obtain ⟨o, e, c, d⟩ := st
    exact ⟨o, e, fun v z => by rw [d] at z; cases z⟩
  keep := fun i h h' st k => let ⟨o, ho, r⟩ := st; ⟨o, k it (by simp) o ho, r⟩
  item := by
    intro X hP hw hK hc i pins s σ H E I hf st hg
    subst hP hw hK
    have hg : i < x.cps.size := hg
    obtain ⟨f0, f1, f2, f3, f4, f5⟩ := hf it (by simp)
    refine wpAny_pyNext_ascii_item st (c := x.cps[i]) (by simp [hg]) fun h' st' sb => ?_
    have I1 : Inv X pins σ H { s with heap := h', toks := s.toks + 1 } := I.turned (fun b o hb e => (sb.2 b hb).trans e) f0 f1 f3 f4 f5
    obtain ⟨o, e, c, d⟩ := id st'
    exact ⟨_, rfl, go_of (s := { s with heap := h', toks := s.toks + 1 }) e c d (by decide) ⟨.str ⟨#[x.cps[i]]⟩, H, I1, ⟨_, rfl⟩, ⟨rfl, _, by simp [hg], rfl⟩, st', fun b hb => (hf b hb).1⟩⟩
  done := by
    intro X hP hw hK hc i pins s σ H E I hf st hg
    subst hP hw hK
    have hg : x.cps.size <= i := hg
    obtain ⟨f0, f1, f2, f3, f4, f5⟩ := hf it (by simp)
    exact wpAny_pyNext_ascii_end (I.ok.hd hc) st (by simp [hg]) fun h' eb => ⟨rfl, I.turned (t' := s.toks) (fun b o hb e => eb b o hb e) f0 f1 f3 f4 f5⟩
  self := fun _ _ _ _ _ st h => wpAny_pyIter_striter_ascii st h
theorem turn_wide {P : Program} {w : World} {K : PySem.W.Frag} {tg : Expr} (x : Str) (t : Tok) (it : Addr) : Turn P w K tg (Its x) [it] it (fun i h => h.IsStrIter it "str_iterator" x t i) where
  mem := by simp
  obj := fun i h st b hb => by
    have e : b = it := by simpa using hb
    subst e
    obtain ⟨o, e, c, d⟩ := st
    exact ⟨o, e, fun v z => by rw [d] at z; cases z⟩
  keep := fun i h h' st k => let ⟨o, ho, r⟩ := st; ⟨o, k it (by simp) o ho, r⟩
  item := by
    intro X hP hw hK hc i pins s σ H E I hf st hg
    subst hP hw hK
    have hg : i < x.cps.size := hg
    obtain ⟨f0, f1, f2, f3, f4, f5⟩ := hf it (by simp)
    refine wpAny_pyNext_wide_item st (c := x.cps[i]) (by simp [hg]) fun h' st' sb => ?_
    have I1 : Inv X pins σ H { s with heap := h', toks := s.toks + 1 } := I.turned (fun b o hb e => (sb.2 b hb).trans e) f0 f1 f3 f4 f5
    obtain ⟨o, e, c, d⟩ := id st'
    exact ⟨_, rfl, go_of (s := { s with heap := h', toks := s.toks + 1 }) e c d (by decide) ⟨.str ⟨#[x.cps[i]]⟩, H, I1, ⟨_, rfl⟩, ⟨rfl, _, by simp [hg], rfl⟩, st', fun b hb => (hf b hb).1⟩⟩
  done := by
    intro X hP hw hK hc i pins s σ H E I hf st hg
    subst hP hw hK
    have hg : x.cps.size <= i := hg
    obtain ⟨f0, f1, f2, f3, f4, f5⟩ := hf it (by simp)
    exact wpAny_pyNext_wide_end (I.ok.hd hc) st (by simp [hg]) fun h' eb => ⟨rfl, I.turned (t' := s.toks) (fun b o hb e => eb b o hb e) f0 f1 f3 f4 f5⟩
  self := fun _ _ _ _ _ st h => wpAny_pyIter_striter_wide st h
noncomputable def iStr (te : TE) : TI := fun σ H R => te σ H fun v H1 => ∃ x, v = .str x /\ R (Its x) H1
theorem pi_str {X : Cx} {tg e : Expr} {te : TE} (he : PE X e te) : PI X tg e (iStr te) := by
  intro pins s σ H R I h
  refine thn (he pins s σ H _ I h) fun v s1 ⟨y, H1, I1, r1, q1⟩ => ?_
  obtain ⟨x, rfl, q⟩ := q1
  obtain ⟨t, rfl⟩ := r1
  cases ha : x.cps.all (· < 128)
  · refine wpAny_pyIter_wide ha ?_
    refine ⟨s1.heap.objs.size, [s1.heap.objs.size], _, _, H1, rfl, I1.kept (t' := s1.toks) fun b o e => Heap.get?_push_of_some _ e, turn_wide x t _, ⟨_, Heap.get?_push_size _ rfl, rfl, rfl⟩, fun b hb => ?_, q⟩
    have e : b = s1.heap.objs.size := by simpa using hb
    subst e
    exact I1.fpOk (Nat.le_refl _) (I1.hok.fresh (Nat.le_refl _))
  · refine wpAny_pyIter_ascii ha ?_
    refine ⟨s1.heap.objs.size, [s1.heap.objs.size], _, _, H1, rfl, I1.kept (t' := s1.toks) fun b o e => Heap.get?_push_of_some _ e, turn_ascii x t _, ⟨_, Heap.get?_push_size _ rfl, rfl, rfl⟩, fun b hb => ?_, q⟩
    have e : b = s1.heap.objs.size := by simpa using hb
    subst e
    exact I1.fpOk (Nat.le_refl _) (I1.hok.fresh (Nat.le_refl _))
end L2
set_option maxRecDepth 100000
set_option maxHeartbeats 4000000
namespace L2
open PySem PySem.Spec PyProof.Rows
section
variable {X : Cx}
noncomputable def rSlS : V -> Option Int -> Option Int -> Hp -> VK -> Prop := fun x lo hi H Q => ∃ z, x = .str z /\ z.length <= sizeLine /\ Q (.str (Txt.slice z lo hi)) H
theorem sl_str : SlR X rSlS := by
  intro pins s σ H x v vl vu lo hi sl Q I rx hs pl pu h
  obtain ⟨z, rfl, hz, q⟩ := h
  obtain ⟨t, rfl⟩ := rx
  refine ⟨"str", _, F.slot_str_getitem.lookup, typeIs_str _ _ _, ?_⟩
  have fin : ∀ (l u : Option (Int × Tok)), vl = partValue l -> vu = partValue u -> l.map (·.1) = lo -> u.map (·.1) = hi -> wpAny (model X.prog X.w) X.A (getItem (.str z t) (.ref sl)) (EP X pins σ Q) X.xe s := by
    intro l u e1 e2 e3 e4
    subst e1 e2 e3 e4
    refine wpAny_getItem_str_slice (st := none) hs rfl (post_val_or_str ⟨Nat.le_trans (Txt.slice_le z _ _) hz, fun t' k => ?_⟩)
    exact ⟨.str _, H, I.tok k, ⟨t', rfl⟩, q⟩
  cases pl with
  | none =>
    cases pu with
    | none => exact fin none none rfl rfl rfl rfl
    | int j tj => exact fin none (some (j, tj)) rfl rfl rfl rfl
  | int i ti =>
    cases pu with
    | none => exact fin (some (i, ti)) none rfl rfl rfl rfl
    | int j tj => exact fin (some (i, ti)) (some (j, tj)) rfl rfl rfl rfl
end
end L2
set_option maxRecDepth 100000
set_option maxHeartbeats 4000000
namespace L2
open PySem PySem.Spec PyProof.Rows
section
variable {prog : Program} {w : World} {A : Around} {E : Value -> Shared -> Prop} {s : Shared} {K : Type} [DecidableEq K] {knd : KeyKind prog w K} {d : Addr} {kvs : List (K × Value)} {ep : Nat}
end
section
variable {X : Cx}
end
end L2
set_option maxRecDepth 100000
set_option maxHeartbeats 4000000
namespace L2
open PySem PySem.Spec PyProof.Rows
structure DefIn (K : PySem.W.Frag) (mg : Str -> Option Value) (x : Str) (st : Stmt) (ps : List Str) : Prop where
  ex : ∃ f fd, Fun K x x st f fd /\ mg x = some (.ref f) /\ Binds K fd ps []
theorem defIn_mk {K : PySem.W.Frag} {mg : Str -> Option Value} {x : Str} {st : Stmt} {ps : List Str} {h : Heap} {f : Addr} {oc : Value} {od an : Option Addr} {osl : Array (Option Value)} {kV doc pm cdv ct : Value} (X : K.In h) (G : h.Ns mainGlobals mg)
    (hb : ∀ (kV doc pm : Value) (an : Option Addr) (cdv ct : Value) (us : List Value), us.length = ps.length -> bindArgs (PySem.W.fnOf x x (defArgs st) (defBody st) (defScope st) .none kV doc pm an cdv ct) ⟨us, []⟩ = pure (ps.zip us))
    (a : PySem.W.nsIn K mainGlobals x = some (some (.ref f))) (l : K.lookup f = some ⟨oc, od, .func (PySem.W.fnOf x x (defArgs st) (defBody st) (defScope st) .none kV doc pm an cdv ct), osl⟩)
    (c : PySem.W.codeIn K cdv x = true) (k : PySem.W.keepIn K (.ref f) = true) : DefIn K mg x st ps :=
  ⟨f, _, fun_mk l c k, PySem.W.mg_of X G a, (fun_mk (st := st) l c k).binds hb⟩
structure Own (P : Program) (w : World) (K : PySem.W.Frag) (mg : Str -> Option Value) (base : Heap) (x : Str) (k : Nat) (ps : List Str) (sp : Sp) : Prop where
  ex : ∃ f fd, FnOk P w K mg base (cxx P w) k f fd ps sp /\ mg x = some (.ref f) /\ PySem.W.keepIn K (.ref f) = true /\ Binds K fd ps []
section
variable {P : Program} {w : World} {K : PySem.W.Frag} {mg : Str -> Option Value} {base : Heap} {x : Str} {st : Stmt} {N ps : List Str} {k : Nat} {sp : Sp}
theorem DefIn.own (D : DefIn K mg x st ps) (S : FnScope N ps (defScope st)) (len : ∀ vs H Q E, sp vs H Q E -> vs.length = ps.length)
    (hbody : ∀ (f : Addr) (cdv : Value) (A : Around) (outer : List Env) (s : Shared) (H : Hp) (vs : List V) (Q : VK) (E : XK), Room k (A.deeper (envOfC x (defScope st) s.heap.objs.size f cdv)) -> sp vs H Q E ->
      ∃ t, PSs (cxOf (cxx P w) P w K mg base N x (defScope st) f cdv A outer s H E) (defBody st) t /\ t { nx := fun _ H' => Q .non H', rt := Q } (start N vs) H) : Own P w K mg base x (k + 1) ps sp := by
  obtain ⟨f, fd, F, hm, hb⟩ := D.ex
  obtain ⟨oc, od, kV, doc, pm, an, cdv, ct, osl, rfl, lk, hcd⟩ := F.ex
  exact ⟨f, _, fn_of lk hcd S len fun A outer s H vs Q E hr hsp => hbody f cdv A outer s H vs Q E hr hsp, hm, F.kp, hb⟩
theorem Own.mono {j : Nat} (O : Own P w K mg base x j ps sp) (h : j <= k) : Own P w K mg base x k ps sp := by
  obtain ⟨f, fd, F, a, b, c⟩ := O.ex
  exact ⟨f, fd, F.mono h, a, b, c⟩
end
section
variable {X : Cx} {x : Str} {k : Nat} {ps : List Str} {sp : Sp} {E : XK} {e : Expr} {es : List Expr} {t : TA} {p pos : Pos}
theorem pe_own (O : Own X.prog X.w X.K X.mg X.base x k ps sp) (hr : Room k X.A) (hg : Gl X x) (hx : Passes (cxx X.prog X.w) X E) (ha : PA X (e :: es) t) (hdb : autoParam ((x == ("__debug__" : Str)) = false) L2.au1._auto_1)
    (he : autoParam (starEach (e :: es) X.env = (false, eval e X.env) :: starEach es X.env) L2.au3._auto_1) (hpl : autoParam ((backTo pos (starEach es X.env)).any (·.1) = false) L2.au3._auto_1) : PE X (.Call (.Name x p) (e :: es) [] pos) (tCall sp [] E t) := by
  obtain ⟨f, fd, F, hm, hk, hb⟩ := O.ex
  exact pe_call F hr hg hm hk hb .nil hx ha hdb he hpl
theorem pe_own0 (O : Own X.prog X.w X.K X.mg X.base x k ps sp) (hr : Room k X.A) (hg : Gl X x) (hx : Passes (cxx X.prog X.w) X E) (hdb : autoParam ((x == ("__debug__" : Str)) = false) L2.au1._auto_1) : PE X (.Call (.Name x p) [] [] pos) (tCall sp [] E tNil) := by
  obtain ⟨f, fd, F, hm, hk, hb⟩ := O.ex
  exact pe_call0 F hr hg hm hk hb .nil hx hdb
theorem ps_tryO {CS : Addr} {xc n : Str} {pos' pc hpos tpos : Pos} {i : Nat} {b₀ : Stmt} {suite : List Stmt} {ts : Addr -> Obj -> TS} (O : Own X.prog X.w X.K X.mg X.base x k ps sp) (hst : X.stack = X.env :: X.outer) (hf : X.env.frame = some X.env.locals) (hc : X.calm = true) (hN : X.N.Nodup) (hr : Room k X.A) (hg : Gl X x)
    (ha : PA X.nox (e :: es) t) (hgc : Gl X xc) (hmc : X.mg xc = some (.ref CS)) (hi : X.N[i]? = some n) (hx : X.env.scope.names.lookup n = some .local) (hsuite : ∀ (e : Addr) (oe : Obj), PSs (X.within e oe) (b₀ :: suite) (ts e oe))
    (hdb : autoParam ((x == ("__debug__" : Str)) = false) L2.au1._auto_1) (hdc : autoParam ((xc == ("__debug__" : Str)) = false) L2.au1._auto_1)
    (he : autoParam (starEach (e :: es) X.env = (false, eval e X.env) :: starEach es X.env) L2.au3._auto_1) (hpl : autoParam ((backTo pos (starEach es X.env)).any (·.1) = false) L2.au3._auto_1)
    (hsw : autoParam (swapsWith (.Call (.Name x p) (e :: es) [] pos) none pos'.line X.env = pure false) L2.au3._auto_1) :
    PS X (.Try [.Expr (.Call (.Name x p) (e :: es) [] pos) pos'] [.ExceptHandler (some (.Name xc pc)) (some n) (b₀ :: suite) hpos] [] [] tpos) (tTry X.K CS i sp [] t ts) := by
  obtain ⟨f, fd, F, hm, hk, hb⟩ := O.ex
  exact ps_try hst hf hc hN F hr hg hm hk hb .nil ha hgc hmc hi hx hsuite hdb hdc he hpl hsw
end
noncomputable def kinds : List String := ["NoneType", "bool", "int", "str", "list", "tuple", "dict"]
section
variable {K : PySem.W.Frag}
theorem kit_int : ∀ {T : String}, T ∈ kinds -> PySem.W.kitOne K (.type T) (.type "int") = some (T == "int" || T == "bool") := by
  intro T h
  simp only [kinds, List.mem_cons, List.not_mem_nil, or_false] at h
  rcases h with rfl | rfl | rfl | rfl | rfl | rfl | rfl <;> kernel_rfl
theorem kit_bool : ∀ {T : String}, T ∈ kinds -> PySem.W.kitOne K (.type T) (.type "bool") = some (T == "bool") := by
  intro T h
  simp only [kinds, List.mem_cons, List.not_mem_nil, or_false] at h
  rcases h with rfl | rfl | rfl | rfl | rfl | rfl | rfl <;> kernel_rfl
theorem kit_self : ∀ {T U : String}, T ∈ kinds -> U ∈ (["str", "list", "tuple", "dict"] : List String) -> PySem.W.kitOne K (.type T) (.type U) = some (T == U) := by
  intro T U h g
  simp only [kinds, List.mem_cons, List.not_mem_nil, or_false] at h g
  rcases g with rfl | rfl | rfl | rfl <;> rcases h with rfl | rfl | rfl | rfl | rfl | rfl | rfl <;> kernel_rfl
end
noncomputable def tIsi (K : PySem.W.Frag) (pn : List (Addr × Obj)) (u : V) (te : TE) : TE := fun σ H Q => te σ H fun v H1 => rIsi K pn [v, u] H1 Q
theorem pe_isi {X : Cx} {u : V} {te : TE} {e c : Expr} {p pos : Pos} (hg : Gl X "isinstance") (hm : X.mg "isinstance" = none) (he : PE X e te) (hc : PE X c (tC u)) (hs : autoParam (starEach [e, c] X.env = (false, eval e X.env) :: starEach [c] X.env) L2.au3._auto_1) (hs2 : autoParam (starEach [c] X.env = (false, eval c X.env) :: starEach [] X.env) L2.au3._auto_1)
    (hpl : autoParam ((backTo pos (starEach [c] X.env)).any (·.1) = false) L2.au3._auto_1) : PE X (.Call (.Name "isinstance" p) [e, c] [] pos) (tIsi X.K X.pn u te) := by
  have key := pe_callB (X := X) (x := "isinstance") (p := p) (pos := pos) call_isi hg hm Boot.«isinstance» (pa_cons he (pa_cons hc pa_nil hs2) hs) (by decide) (by decide) hs hpl
  intro pins s σ H Q I h
  exact key pins s σ H Q I h
end L2
set_option maxRecDepth 100000
set_option maxHeartbeats 4000000
namespace L2
open PySem PySem.Spec PyProof.Rows
inductive D where
  | non | bl (b : Bool) | int (i : Int) | str (x : Str) | tup (xs : List D) | lst (xs : List D) | dic (ks : List Key) (xs : List D) | frl (xs : List D)
inductive R (α : Type) where
  | ok (a : α) | err (c : Str) | bad
noncomputable def R.bind {α β : Type} (r : R α) (f : α -> R β) : R β := match r with
  | .ok a => f a
  | .err c => .err c
  | .bad => .bad
theorem R.ok_bind {α β : Type} (a : α) (f : α -> R β) : (R.ok a).bind f = f a := rfl
theorem R.err_bind {α β : Type} (c : Str) (f : α -> R β) : (R.err c : R α).bind f = .err c := rfl
mutual
noncomputable def D.imm : D -> Bool
  | .tup xs => D.imms xs
  | .lst _ => false
  | .dic _ _ => false
  | _ => true
noncomputable def D.imms : List D -> Bool
  | [] => true
  | d :: ds => D.imm d && D.imms ds
end
noncomputable def SqF (K : PySem.W.Frag) (H : Hp) (a : Addr) (vs : List V) : Prop := (∃ o, H a = some (.frz o (.lst vs))) \/
  ∃ (o : Obj) (its : Array Value) (n : Nat), K.lookup a = some o /\ o.cls = .type "list" /\ o.dict = none /\ o.data = .seq its n /\ its.size <= sizeLine /\ Vals vs its.toList
theorem SqF.sq {K : PySem.W.Frag} {H : Hp} {a : Addr} {vs : List V} (h : SqF K H a vs) : SqL K H a vs := by
  rcases h with ⟨o, h⟩ | h
  · exact .inl (.inr ⟨o, h⟩)
  · exact .inr h
mutual
noncomputable def Rep (K : PySem.W.Frag) (H : Hp) : D -> V -> List Addr -> Prop
  | .non, v, L => v = .non /\ L = []
  | .bl b, v, L => v = .bl b /\ L = []
  | .int i, v, L => v = .int i /\ L = []
  | .str x, v, L => v = .str x /\ L = []
  | .tup ds, v, L => ∃ a vs, v = .ref a /\ SqT K H a vs /\ Reps K H ds vs L
  | .lst ds, v, L => ∃ a vs L', v = .ref a /\ H a = some (.lst vs) /\ L = a :: L' /\ Reps K H ds vs L'
  | .dic ks ds, v, L => ∃ a kvs L', v = .ref a /\ H a = some (.dK kvs) /\ L = a :: L' /\ kvs.map (·.1) = ks /\ ks.Nodup /\ Reps K H ds (kvs.map (·.2)) L'
  | .frl ds, v, L => ∃ a vs, v = .ref a /\ SqF K H a vs /\ L = [] /\ D.imms ds = true /\ Reps K H ds vs []
noncomputable def Reps (K : PySem.W.Frag) (H : Hp) : List D -> List V -> List Addr -> Prop
  | [], vs, L => vs = [] /\ L = []
  | d :: ds, vs, L => ∃ v vs' L1 L2, vs = v :: vs' /\ L = L1 ++ L2 /\ Rep K H d v L1 /\ Reps K H ds vs' L2
end
structure TF (H H' : Hp) : Prop where
  tup : ∀ a xs, H a = some (.tup xs) -> H' a = some (.tup xs)
  frz : ∀ a o u, H a = some (.frz o u) -> H' a = some (.frz o u)
theorem Same.tf {H H' : Hp} (h : Same H H') : TF H H' := ⟨fun a xs e => h a _ e, fun a o u e => h a _ e⟩
theorem Same.non {H H1 : Hp} (s : Same H H1) {a : Addr} (h : H1 a = none) : H a = none := by
  cases e : H a with
  | none => rfl
  | some o => rw [s a o e] at h; cases h
theorem Same.new {H : Hp} {p : Addr} {o : HO} (h : H p = none) : Same H (upd H p o) := fun b u e => by
  rw [upd_ne (ne_of_none e h)]; exact e
theorem SqF.tf {K : PySem.W.Frag} {H H' : Hp} {a : Addr} {vs : List V} (h : SqF K H a vs) (s : TF H H') : SqF K H' a vs := by
  rcases h with ⟨o, h⟩ | h
  · exact .inl ⟨o, s.frz _ _ _ h⟩
  · exact .inr h
theorem SqT.tf {K : PySem.W.Frag} {H H' : Hp} {a : Addr} {vs : List V} (h : SqT K H a vs) (s : TF H H') : SqT K H' a vs := by
  rcases h with h | h
  · rcases h with h | ⟨o, h⟩
    · exact .inl (.inl (s.tup _ _ h))
    · exact .inl (.inr ⟨o, s.frz _ _ _ h⟩)
  · exact .inr h
section
variable {K : PySem.W.Frag} {H H' : Hp}
mutual
theorem Rep.keep (s : TF H H') : ∀ (d : D) (v : V) (L : List Addr), Rep K H d v L -> (∀ a ∈ L, H' a = H a) -> Rep K H' d v L
  | .non, _, _, h, _ => h
  | .bl _, _, _, h, _ => h
  | .int _, _, _, h, _ => h
  | .str _, _, _, h, _ => h
  | .tup ds, _, L, hq3, k => by
    obtain ⟨a, vs, e, h, r⟩ := hq3
    exact ⟨a, vs, e, h.tf s, Reps.keep s ds vs L r k⟩
  | .lst ds, _, L, hq3, k => by
      obtain ⟨a, vs, L', e, h1, h2, h3⟩ := hq3
      subst h2
      exact ⟨a, vs, L', e, by rw [k a List.mem_cons_self]; exact h1, rfl, Reps.keep s ds vs L' h3 fun b hb => k b (List.mem_cons_of_mem _ hb)⟩
  | .frl ds, _, L, hq3, k => by
    obtain ⟨a, vs, e, h1, h2, h3, h4⟩ := hq3
    exact ⟨a, vs, e, h1.tf s, h2, h3, Reps.keep s ds vs [] h4 (fun _ hb => nomatch hb)⟩
  | .dic ks ds, _, L, hq3, k => by
      obtain ⟨a, kvs, L', e, h1, h2, h3, h4, h5⟩ := hq3
      subst h2
      exact ⟨a, kvs, L', e, by rw [k a List.mem_cons_self]; exact h1, rfl, h3, h4, Reps.keep s ds _ L' h5 fun b hb => k b (List.mem_cons_of_mem _ hb)⟩
theorem Reps.keep (s : TF H H') : ∀ (ds : List D) (vs : List V) (L : List Addr), Reps K H ds vs L -> (∀ a ∈ L, H' a = H a) -> Reps K H' ds vs L
  | [], _, _, h, _ => h
  | d :: ds, _, _, hq3, k => by
    obtain ⟨v, vs', L1, L2, e1, e2, h1, h2⟩ := hq3
    subst e2
    exact ⟨v, vs', L1, L2, e1, rfl, Rep.keep s d v L1 h1 fun a ha => k a (List.mem_append_left _ ha), Reps.keep s ds vs' L2 h2 fun a ha => k a (List.mem_append_right _ ha)⟩
end
mutual
theorem Rep.dom : ∀ (d : D) (v : V) (L : List Addr), Rep K H d v L -> ∀ a ∈ L, (∃ vs, H a = some (.lst vs)) \/ ∃ kvs, H a = some (.dK kvs)
  | .non, _, _, h, a, ha => by rw [h.2] at ha; cases ha
  | .bl _, _, _, h, a, ha => by rw [h.2] at ha; cases ha
  | .int _, _, _, h, a, ha => by rw [h.2] at ha; cases ha
  | .str _, _, _, h, a, ha => by rw [h.2] at ha; cases ha
  | .tup ds, _, L, hq3, b, hb => by
    obtain ⟨a, vs, e, h, r⟩ := hq3
    exact Reps.dom ds vs L r b hb
  | .lst ds, _, L, hq3, b, hb => by
      obtain ⟨a, vs, L', e, h1, h2, h3⟩ := hq3
      subst h2
      rcases List.mem_cons.mp hb with z | z
      · subst z; exact .inl ⟨vs, h1⟩
      · exact Reps.dom ds vs L' h3 b z
  | .frl ds, _, L, hq3, b, hb => by
    obtain ⟨a, vs, e, h1, h2, h3, h4⟩ := hq3
    rw [h2] at hb; cases hb
  | .dic ks ds, _, L, hq3, b, hb => by
      obtain ⟨a, kvs, L', e, h1, h2, h3, h4, h5⟩ := hq3
      subst h2
      rcases List.mem_cons.mp hb with z | z
      · subst z; exact .inr ⟨kvs, h1⟩
      · exact Reps.dom ds _ L' h5 b z
theorem Reps.dom : ∀ (ds : List D) (vs : List V) (L : List Addr), Reps K H ds vs L -> ∀ a ∈ L, (∃ vs, H a = some (.lst vs)) \/ ∃ kvs, H a = some (.dK kvs)
  | [], _, _, h, a, ha => by rw [h.2] at ha; cases ha
  | d :: ds, _, _, hq3, a, ha => by
    obtain ⟨v, vs', L1, L2, e1, e2, h1, h2⟩ := hq3
    subst e2
    rcases List.mem_append.mp ha with z | z
    · exact Rep.dom d v L1 h1 a z
    · exact Reps.dom ds vs' L2 h2 a z
end
mutual
theorem Rep.imm : ∀ (d : D) (v : V) (L : List Addr), Rep K H d v L -> d.imm = true -> L = []
  | .non, _, _, h, _ => h.2
  | .bl _, _, _, h, _ => h.2
  | .int _, _, _, h, _ => h.2
  | .str _, _, _, h, _ => h.2
  | .tup ds, _, L, hq3, h => by
    obtain ⟨_, vs, _, _, r⟩ := hq3
    exact Reps.imm ds vs L r h
  | .lst _, _, _, _, h => nomatch h
  | .dic _ _, _, _, _, h => nomatch h
  | .frl _, _, _, hq3, _ => by
    obtain ⟨_, _, _, _, h, _⟩ := hq3
    exact h
theorem Reps.imm : ∀ (ds : List D) (vs : List V) (L : List Addr), Reps K H ds vs L -> D.imms ds = true -> L = []
  | [], _, _, h, _ => h.2
  | d :: ds, _, _, hq3, h => by
    obtain ⟨v, vs', L1, L2, _, e2, h1, h2⟩ := hq3
    have h : (d.imm && D.imms ds) = true := h
    rw [Bool.and_eq_true] at h
    rw [e2, Rep.imm d v L1 h1 h.1, Reps.imm ds vs' L2 h2 h.2]; rfl
end
theorem Rep.there {d : D} {v : V} {L : List Addr} (h : Rep K H d v L) {a : Addr} (ha : a ∈ L) : H a ≠ none := by
  rcases Rep.dom d v L h a ha with ⟨_, e⟩ | ⟨_, e⟩ <;> rw [e] <;> simp
theorem Reps.there {d : List D} {v : List V} {L : List Addr} (h : Reps K H d v L) {a : Addr} (ha : a ∈ L) : H a ≠ none := by
  rcases Reps.dom d v L h a ha with ⟨_, e⟩ | ⟨_, e⟩ <;> rw [e] <;> simp
theorem Same.at {a : Addr} (s : Same H H') (h : H a ≠ none) : H' a = H a := by
  cases e : H a with
  | none => exact absurd e h
  | some o => exact s a o e
theorem Rep.same {d : D} {v : V} {L : List Addr} (h : Rep K H d v L) (s : Same H H') : Rep K H' d v L := Rep.keep s.tf d v L h fun _ ha => s.at (h.there ha)
theorem Reps.same {d : List D} {v : List V} {L : List Addr} (h : Reps K H d v L) (s : Same H H') : Reps K H' d v L := Reps.keep s.tf d v L h fun _ ha => s.at (h.there ha)
theorem Reps.length : ∀ {ds : List D} {vs : List V} {L : List Addr}, Reps K H ds vs L -> vs.length = ds.length
  | [], _, _, hq3 => by
    obtain ⟨e, _⟩ := hq3
    rw [e]; rfl
  | d :: ds, _, _, hq3 => by
    obtain ⟨v, vs', L1, L2, e1, e2, h1, h2⟩ := hq3
    rw [e1, List.length_cons, List.length_cons, Reps.length h2]
theorem Reps.nil : Reps K H [] [] [] := ⟨rfl, rfl⟩
theorem Reps.cons {d : D} {v : V} {L1 : List Addr} {ds : List D} {vs : List V} {L2 : List Addr} (h : Rep K H d v L1) (t : Reps K H ds vs L2) : Reps K H (d :: ds) (v :: vs) (L1 ++ L2) := ⟨v, vs, L1, L2, rfl, rfl, h, t⟩
theorem Reps.get : ∀ {ds : List D} {vs : List V} {L : List Addr} {i : Nat} {d : D}, Reps K H ds vs L -> ds[i]? = some d -> ∃ v L1, vs[i]? = some v /\ Rep K H d v L1 /\ List.Sublist L1 L
  | [], _, _, _, _, _, e => by simp at e
  | d :: ds, _, _, 0, _, hq5, e => by
    obtain ⟨v, vs', L1, L2, e1, e2, h1, h2⟩ := hq5
    subst e1 e2
    simp at e
    subst e
    exact ⟨v, L1, rfl, h1, List.sublist_append_left _ _⟩
  | d :: ds, _, _, i + 1, d', hq5, e => by
    obtain ⟨v, vs', L1, L2, e1, e2, h1, h2⟩ := hq5
    subst e1 e2
    obtain ⟨v', L', a, b, c⟩ := Reps.get (i := i) (d := d') h2 (by simpa using e)
    exact ⟨v', L', by simpa using a, b, c.trans (List.sublist_append_right _ _)⟩
theorem Reps.append : ∀ {ds ds' : List D} {vs vs' : List V} {L L' : List Addr}, Reps K H ds vs L -> Reps K H ds' vs' L' -> Reps K H (ds ++ ds') (vs ++ vs') (L ++ L')
  | [], _, _, _, _, _, hq6, h => by
    obtain ⟨e1, e2⟩ := hq6
    subst e1 e2; exact h
  | d :: ds, _, _, _, _, _, hq6, h => by
    obtain ⟨v, vs', L1, L2, e1, e2, h1, h2⟩ := hq6
    subst e1 e2
    have := Reps.cons h1 (Reps.append h2 h)
    rw [<- List.append_assoc] at this
    exact this
theorem Reps.take : ∀ {ds : List D} {vs : List V} {L : List Addr} (n : Nat), Reps K H ds vs L -> ∃ L', Reps K H (ds.take n) (vs.take n) L' /\ List.Sublist L' L
  | _, _, _, 0, _ => ⟨[], by simpa using Reps.nil, List.nil_sublist _⟩
  | [], _, _, n + 1, hq4 => by
    obtain ⟨e1, e2⟩ := hq4
    subst e1 e2; exact ⟨[], by simpa using Reps.nil, List.nil_sublist _⟩
  | d :: ds, _, _, n + 1, hq4 => by
    obtain ⟨v, vs', L1, L2, e1, e2, h1, h2⟩ := hq4
    subst e1 e2
    obtain ⟨L', a, b⟩ := Reps.take n h2
    exact ⟨L1 ++ L', by simpa using Reps.cons h1 a, List.Sublist.append (List.Sublist.refl _) b⟩
theorem Reps.drop : ∀ {ds : List D} {vs : List V} {L : List Addr} (n : Nat), Reps K H ds vs L -> ∃ L', Reps K H (ds.drop n) (vs.drop n) L' /\ List.Sublist L' L
  | _, _, L, 0, h => ⟨L, by simpa using h, List.Sublist.refl _⟩
  | [], _, _, n + 1, hq4 => by
    obtain ⟨e1, e2⟩ := hq4
    subst e1 e2; exact ⟨[], by simpa using Reps.nil, List.nil_sublist _⟩
  | d :: ds, _, _, n + 1, hq4 => by
    obtain ⟨v, vs', L1, L2, e1, e2, h1, h2⟩ := hq4
    subst e1 e2
    obtain ⟨L', a, b⟩ := Reps.drop n h2
    exact ⟨L', by simpa using a, b.trans (List.sublist_append_right _ _)⟩
end
end L2
set_option maxRecDepth 100000
set_option maxHeartbeats 4000000
namespace L2
open PySem PySem.Spec PyProof.Rows
noncomputable abbrev Tn := List (Option D)
inductive Cl where
  | own | shr | brw | dead
  deriving DecidableEq
inductive Rc where
  | fresh | shr | bor
  deriving DecidableEq
structure EOk (K : PySem.W.Frag) (Γ : List Cl) (O : Addr -> Prop) (H : Hp) (σ : St) (τ : Tn) : Prop where
  dom : ∀ a, O a -> H a ≠ none
  slot : ∀ (i : Nat) (c : Cl), Γ[i]? = some c -> c ≠ .dead -> ∃ v d L, σ[i]? = some (some v) /\ τ[i]? = some (some d) /\ Rep K H d v L /\ (c = .shr -> ∀ a ∈ L, ¬ O a)
noncomputable def RcOk (c : Rc) (O : Addr -> Prop) (H : Hp) (L : List Addr) : Prop := match c with
  | .fresh => L.Nodup /\ ∀ a ∈ L, H a = none
  | .shr => ∀ a ∈ L, ¬ O a
  | .bor => True
noncomputable def post (K : PySem.W.Frag) (E : XK) (O : Addr -> Prop) (c : Rc) (H : Hp) (Q : VK) : R D -> Prop
  | .ok d => ∀ v H' L, Same H H' -> Rep K H' d v L -> RcOk c O H L -> Q v H'
  | .err n => ∀ C H', ErrC K n C -> Same H H' -> E (.ref C) none H'
  | .bad => False
noncomputable def postL (K : PySem.W.Frag) (E : XK) (O : Addr -> Prop) (c : Rc) (H : Hp) (Q : List V -> Hp -> Prop) : R (List D) -> Prop
  | .ok ds => ∀ vs H' L, Same H H' -> Reps K H' ds vs L -> RcOk c O H L -> Q vs H'
  | .err n => ∀ C H', ErrC K n C -> Same H H' -> E (.ref C) none H'
  | .bad => False
noncomputable def postB (K : PySem.W.Frag) (E : XK) (H : Hp) (Q : Bool -> Hp -> Prop) : R Bool -> Prop
  | .ok b => ∀ H', Same H H' -> Q b H'
  | .err n => ∀ C H', ErrC K n C -> Same H H' -> E (.ref C) none H'
  | .bad => False
section
variable {K : PySem.W.Frag} {Γ : List Cl} {O : Addr -> Prop} {H H1 : Hp} {σ : St} {τ : Tn} {E : XK} {c : Rc} {Q : VK}
theorem EOk.same (e : EOk K Γ O H σ τ) (s : Same H H1) : EOk K Γ O H1 σ τ :=
  ⟨fun a h => by rw [s.at (e.dom a h)]; exact e.dom a h, fun i c h1 h2 => by
    obtain ⟨v, d, L, a1, a2, a3, a4⟩ := e.slot i c h1 h2
    exact ⟨v, d, L, a1, a2, a3.same s, a4⟩⟩
theorem RcOk.same {L : List Addr} (h : RcOk c O H1 L) (s : Same H H1) : RcOk c O H L := by
  cases c with
  | fresh => exact ⟨h.1, fun a ha => s.non (h.2 a ha)⟩
  | shr => exact h
  | bor => exact h
theorem RcOk.shr {L : List Addr} (dom : ∀ a, O a -> H a ≠ none) (hc : c ≠ .bor) (h : RcOk c O H L) : ∀ a ∈ L, ¬ O a := by
  cases c with
  | fresh => exact fun a ha ho => dom a ho (h.2 a ha)
  | shr => exact h
  | bor => exact absurd rfl hc
theorem RcOk.nil : RcOk c O H [] := by
  cases c with
  | fresh => exact ⟨List.nodup_nil, fun a ha => by cases ha⟩
  | shr => exact fun a ha => by cases ha
  | bor => trivial
theorem post.same {r : R D} (h : post K E O c H Q r) (s : Same H H1) : post K E O c H1 Q r := by
  cases r with
  | ok d => exact fun v H' L s' r' c' => h v H' L (s.trans s') r' (c'.same s)
  | err n => exact fun C H' e s' => h C H' e (s.trans s')
  | bad => exact h
theorem postL.same {Q : List V -> Hp -> Prop} {r : R (List D)} (h : postL K E O c H Q r) (s : Same H H1) : postL K E O c H1 Q r := by
  cases r with
  | ok d => exact fun v H' L s' r' c' => h v H' L (s.trans s') r' (c'.same s)
  | err n => exact fun C H' e s' => h C H' e (s.trans s')
  | bad => exact h
theorem postB.same {Q : Bool -> Hp -> Prop} {r : R Bool} (h : postB K E H Q r) (s : Same H H1) : postB K E H1 Q r := by
  cases r with
  | ok d => exact fun H' s' => h H' (s.trans s')
  | err n => exact fun C H' e s' => h C H' e (s.trans s')
  | bad => exact h
end
noncomputable def ME (X : Cx) (E : XK) (Γ : List Cl) (e : Expr) (t : Tn -> R D) (c : Rc) : Prop :=
  ∃ te, PE X e te /\ ∀ O σ H τ Q, EOk X.K Γ O H σ τ -> post X.K E O c H Q (t τ) -> te σ H Q
noncomputable def MA (X : Cx) (E : XK) (Γ : List Cl) (es : List Expr) (t : Tn -> R (List D)) (c : Rc) : Prop :=
  (∀ τ ds, t τ = .ok ds -> ds.length = es.length) /\ ∃ ta, PA X es ta /\ ∀ O σ H τ Q, EOk X.K Γ O H σ τ -> postL X.K E O c H Q (t τ) -> ta σ H Q
noncomputable def MT (X : Cx) (E : XK) (Γ : List Cl) (e : Expr) (t : Tn -> R Bool) : Prop :=
  ∃ te, PT X e te /\ ∀ O σ H τ Q, EOk X.K Γ O H σ τ -> postB X.K E H Q (t τ) -> te σ H Q
noncomputable def MW (X : Cx) (E : XK) (Γ : List Cl) (e : Expr) (t : Tn -> R Bool) : Prop :=
  ∃ te, PW X e te /\ ∀ O σ H τ Q, EOk X.K Γ O H σ τ -> postB X.K E H Q (t τ) -> te σ H Q
theorem MW.mt {X : Cx} {E : XK} {Γ : List Cl} {e : Expr} {t : Tn -> R Bool} (h : MW X E Γ e t) : MT X E Γ e t := by
  obtain ⟨te, p, q⟩ := h
  exact ⟨te, p.pt, q⟩
noncomputable def Rc.of : Cl -> Rc
  | .shr => .shr
  | _ => .bor
noncomputable def Rc.both : Rc -> Rc -> Rc
  | .fresh, .fresh => .fresh
  | .bor, _ => .bor
  | _, .bor => .bor
  | _, _ => .shr
noncomputable def eVar (i : Nat) : Tn -> R D := fun τ => match τ[i]? with
  | some (some d) => .ok d
  | _ => .bad
noncomputable def eC (d : D) : Tn -> R D := fun _ => .ok d
noncomputable def eImm (t : Tn -> R D) : Tn -> R D := fun τ => (t τ).bind fun d => if d.imm = true then .ok d else .bad
noncomputable def eBin (g : D -> D -> R D) (a b : Tn -> R D) : Tn -> R D := fun τ => (a τ).bind fun x => (b τ).bind fun y => g x y
noncomputable def eUn (g : D -> R D) (a : Tn -> R D) : Tn -> R D := fun τ => (a τ).bind g
noncomputable def aNil : Tn -> R (List D) := fun _ => .ok []
noncomputable def aCons (a : Tn -> R D) (b : Tn -> R (List D)) : Tn -> R (List D) := fun τ => (a τ).bind fun x => (b τ).bind fun xs => .ok (x :: xs)
noncomputable def eL (g : List D -> R D) (a : Tn -> R (List D)) : Tn -> R D := fun τ => (a τ).bind g
noncomputable def asB : D -> R Bool
  | .bl b => .ok b
  | _ => .bad
noncomputable def eTest (a : Tn -> R D) : Tn -> R Bool := fun τ => (a τ).bind asB
noncomputable def bAnd (a b : Tn -> R Bool) : Tn -> R Bool := fun τ => (a τ).bind fun x => if x = true then b τ else .ok false
noncomputable def bOr (a b : Tn -> R Bool) : Tn -> R Bool := fun τ => (a τ).bind fun x => if x = true then .ok true else b τ
noncomputable def bNot (a : Tn -> R Bool) : Tn -> R Bool := fun τ => (a τ).bind fun x => .ok (!x)
noncomputable def eAnd (a b : Tn -> R D) : Tn -> R D := fun τ => (a τ).bind fun x => (asB x).bind fun k => if k = true then b τ else .ok (.bl false)
noncomputable def eNot (a : Tn -> R D) : Tn -> R D := fun τ => (a τ).bind fun x => (asB x).bind fun k => .ok (.bl (!k))
noncomputable def eChain (g g' : D -> D -> R D) (a b c : Tn -> R D) : Tn -> R D := fun τ => (a τ).bind fun x => (b τ).bind fun y => (g x y).bind fun z => (asB z).bind fun k => if k = true then (c τ).bind fun w => g' y w else .ok (.bl false)
section
variable {X : Cx} {E : XK} {Γ : List Cl} {e a b : Expr} {t ta tb tc : Tn -> R D} {c ca cb : Rc} {pos : Pos}
theorem me_name {i : Nat} {x : Str} {k : Cl} (hN : X.N[i]? = some x) (hk : Γ[i]? = some k) (hd : k ≠ .dead) (hv : Vis X.env.scope x) (hb : autoParam ((x == ("__debug__" : Str)) = false) L2.au1._auto_1) (hcd : autoParam ((x == ("__classdict__" : Str)) = false) L2.au1._auto_1) :
    ME X E Γ (.Name x pos) (eVar i) (Rc.of k) := by
  refine ⟨tVar i, pe_var hN hv hb hcd, fun O σ H τ Q ok h => ?_⟩
  obtain ⟨v, d, L, e1, e2, e3, e4⟩ := ok.slot i k hk hd
  unfold eVar at h
  rw [e2] at h
  refine ⟨v, e1, h v H L (Same.refl H) e3 ?_⟩
  cases k with
  | shr => exact e4 rfl
  | own => trivial
  | brw => trivial
  | dead => trivial
theorem me_c {d : D} {v : V} (hp : PE X e (tC v)) (hr : ∀ H, Rep X.K H d v []) : ME X E Γ e (eC d) .fresh :=
  ⟨tC v, hp, fun O σ H τ Q ok h => h v H [] (Same.refl H) (hr H) RcOk.nil⟩
theorem me_int {i : Int} {j} : ME X E Γ (.Constant (.int i) j pos) (eC (.int i)) .fresh := me_c pe_int fun _ => ⟨rfl, rfl⟩
theorem me_bl {i : Bool} {j} : ME X E Γ (.Constant (.bool i) j pos) (eC (.bl i)) .fresh := me_c pe_bl fun _ => ⟨rfl, rfl⟩
theorem me_non {j} : ME X E Γ (.Constant .none j pos) (eC .non) .fresh := me_c pe_non fun _ => ⟨rfl, rfl⟩
theorem me_str {x : Str} {j} : ME X E Γ (.Constant (.str x) j pos) (eC (.str x)) .fresh := me_c pe_str fun _ => ⟨rfl, rfl⟩
theorem me_imm (h : ME X E Γ e t c) : ME X E Γ e (eImm t) .fresh := by
  obtain ⟨te, p, q⟩ := h
  refine ⟨te, p, fun O σ H τ Q ok h => q O σ H τ Q ok ?_⟩
  unfold eImm at h
  cases ht : t τ with
  | ok d =>
    rw [ht] at h
    refine fun v H' L s r k => ?_
    rw [R.ok_bind] at h
    by_cases hi : d.imm = true
    · rw [if_pos hi] at h
      have := Rep.imm d v L r hi
      subst this
      exact h v H' [] s r RcOk.nil
    · rw [if_neg hi] at h; exact h.elim
  | err n => rw [ht] at h; exact h
  | bad => rw [ht] at h; exact h
theorem post.bind {K : PySem.W.Frag} {O : Addr -> Prop} {H : Hp} {Q Q' : VK} {r : R D} {f : D -> R D} (h : post K E O c H Q (r.bind f)) (hf : ∀ d, r = .ok d -> post K E O c H Q (f d) -> ∀ v H' L, Same H H' -> Rep K H' d v L -> RcOk ca O H L -> Q' v H') : post K E O ca H Q' r := by
  cases r with
  | ok d => exact hf d rfl h
  | err n => exact h
  | bad => exact h
theorem ma_nil : MA X E Γ [] aNil .fresh := ⟨fun τ ds h => by cases h; rfl, tNil, pa_nil, fun O σ H τ Q ok h => h [] H [] (Same.refl H) Reps.nil RcOk.nil⟩
theorem RcOk.append {K : PySem.W.Frag} {O : Addr -> Prop} {H H1 : Hp} {d : D} {v : V} {L1 L2 : List Addr} (dom : ∀ a, O a -> H a ≠ none) (s : Same H H1) (r : Rep K H1 d v L1) (h1 : RcOk ca O H L1) (h2 : RcOk cb O H1 L2) : RcOk (Rc.both ca cb) O H (L1 ++ L2) := by
  have dom1 : ∀ a, O a -> H1 a ≠ none := fun a h => by rw [s.at (dom a h)]; exact dom a h
  by_cases hf : ca = .fresh /\ cb = .fresh
  · obtain ⟨rfl, rfl⟩ := hf
    refine ⟨List.nodup_append.mpr ⟨h1.1, h2.1, fun a ha b hb z => ?_⟩, fun a ha => ?_⟩
    · subst z
      exact r.there ha (h2.2 a hb)
    · rcases List.mem_append.mp ha with z | z
      · exact h1.2 a z
      · exact s.non (h2.2 a z)
  · have key : ca ≠ .bor -> cb ≠ .bor -> ∀ a ∈ L1 ++ L2, ¬ O a := fun n1 n2 a ha => by
      rcases List.mem_append.mp ha with z | z
      · exact h1.shr dom n1 a z
      · exact h2.shr dom1 n2 a z
    cases ca <;> cases cb <;> first | exact absurd ⟨rfl, rfl⟩ hf | trivial | exact key (by simp) (by simp)
theorem ma_cons {es : List Expr} {u : Tn -> R (List D)} (h : ME X E Γ e t ca) (r : MA X E Γ es u cb) (hs : autoParam (starEach (e :: es) X.env = (false, eval e X.env) :: starEach es X.env) L2.au3._auto_1) : MA X E Γ (e :: es) (aCons t u) (Rc.both ca cb) := by
  obtain ⟨te, p1, q1⟩ := h
  obtain ⟨hl, ta, p2, q2⟩ := r
  refine ⟨fun τ ds h => ?_, tCons te ta, pa_cons p1 p2 hs, fun O σ H τ Q ok h => ?_⟩
  · unfold aCons at h
    cases h1 : t τ with
    | ok d =>
      rw [h1, R.ok_bind] at h
      cases h2 : u τ with
      | ok xs =>
        rw [h2, R.ok_bind] at h
        cases h
        rw [List.length_cons, List.length_cons, hl τ xs h2]
      | err n => rw [h2] at h; cases h
      | bad => rw [h2] at h; cases h
    | err n => rw [h1] at h; cases h
    | bad => rw [h1] at h; cases h
  · unfold aCons at h
    refine q1 O σ H τ _ ok ?_
    cases h1 : t τ with
    | ok d =>
      rw [h1, R.ok_bind] at h
      refine fun v H1 L1 s1 r1 k1 => q2 O σ H1 τ _ (ok.same s1) ?_
      cases h2 : u τ with
      | ok xs =>
        rw [h2, R.ok_bind] at h
        exact fun vs H2 L2 s2 r2 k2 => h (v :: vs) H2 (L1 ++ L2) (s1.trans s2) (Reps.cons (r1.same s2) r2) (RcOk.append ok.dom s1 r1 k1 k2)
      | err n => rw [h2] at h; exact fun C H' e s' => h C H' e (s1.trans s')
      | bad => rw [h2] at h; exact h
    | err n => rw [h1] at h; exact h
    | bad => rw [h1] at h; exact h
theorem me_tup {es : List Expr} {u : Tn -> R (List D)} {x1} (h : MA X E Γ es u c) (hz : autoParam (es.length <= 1000) L2.au1._auto_1) : ME X E Γ (.Tuple es x1 pos) (eL (fun ds => .ok (.tup ds)) u) c := by
  obtain ⟨hl, ta, p, q⟩ := h
  refine ⟨tTup ta, pe_tup p, fun O σ H τ Q ok h => q O σ H τ _ ok ?_⟩
  unfold eL at h
  have hs : sizeLine = 16777216 := sizeLine_eq
  cases hu : u τ with
  | ok ds =>
    rw [hu, R.ok_bind] at h
    refine fun vs H1 L s r k => ⟨by rw [r.length, hl τ ds hu]; lia, fun p hp => ?_⟩
    refine h _ _ L (s.trans (Same.new hp)) ⟨p, vs, rfl, SqT.of upd_same, r.same (Same.new hp)⟩ k
  | err n => rw [hu] at h; exact h
  | bad => rw [hu] at h; exact h
theorem me_lst {es : List Expr} {u : Tn -> R (List D)} (h : MA X E Γ es u c) (hz : autoParam (es.length <= 1000) L2.au1._auto_1) : ME X E Γ (.List es pos) (eL (fun ds => .ok (.lst ds)) u) c := by
  obtain ⟨hl, ta, p, q⟩ := h
  refine ⟨tLst ta, pe_lst p, fun O σ H τ Q ok h => q O σ H τ _ ok ?_⟩
  unfold eL at h
  have hs : sizeLine = 16777216 := sizeLine_eq
  cases hu : u τ with
  | ok ds =>
    rw [hu, R.ok_bind] at h
    refine fun vs H1 L s r k => ⟨by rw [r.length, hl τ ds hu]; lia, fun p hp => ?_⟩
    refine h _ _ (p :: L) (s.trans (Same.new hp)) ⟨p, vs, L, rfl, upd_same, rfl, r.same (Same.new hp)⟩ ?_
    have np : H p = none := s.non hp
    cases c with
    | fresh =>
      refine ⟨List.nodup_cons.mpr ⟨fun z => r.there z hp, k.1⟩, fun a ha => ?_⟩
      rcases List.mem_cons.mp ha with z | z
      · rw [z]; exact np
      · exact k.2 a z
    | shr =>
      intro a ha
      rcases List.mem_cons.mp ha with z | z
      · rw [z]; exact fun o => ok.dom p o np
      · exact k a z
    | bor => trivial
  | err n => rw [hu] at h; exact h
  | bad => rw [hu] at h; exact h
theorem mt_val (h : ME X E Γ e t c) (he : autoParam (∀ whole, isTrue e X.env whole = (do let v <- whole; standAt e.pos; holding [v] (truthy v))) L2.au2._auto_1) : MT X E Γ e (eTest t) := by
  obtain ⟨te, p, q⟩ := h
  refine ⟨tB te, pt_val p he, fun O σ H τ Q ok h => q O σ H τ _ ok ?_⟩
  unfold eTest at h
  cases ht : t τ with
  | ok d =>
    rw [ht, R.ok_bind] at h
    refine fun v H' L s r _ => ?_
    cases d with
    | bl k => exact ⟨k, r.1, h H' s⟩
    | _ => exact h.elim
  | err n => rw [ht] at h; exact h
  | bad => rw [ht] at h; exact h
variable {u v : Tn -> R Bool} {rest : List Expr}
theorem mt_not (h : MT X E Γ a u) : MT X E Γ (.UnaryOp .Not a pos) (bNot u) := by
  obtain ⟨te, p, q⟩ := h
  refine ⟨tNot te, pt_not p, fun O σ H τ Q ok h => q O σ H τ _ ok ?_⟩
  unfold bNot at h
  cases ht : u τ with
  | ok d => rw [ht, R.ok_bind] at h; exact h
  | err n => rw [ht] at h; exact h
  | bad => rw [ht] at h; exact h
theorem mw_and1 (h : MT X E Γ a u) : MW X E Γ (.BoolOp .And [a] pos) u := by
  obtain ⟨te, p, q⟩ := h
  exact ⟨te, pw_and1 p, q⟩
theorem mw_or1 (h : MT X E Γ a u) : MW X E Γ (.BoolOp .Or [a] pos) u := by
  obtain ⟨te, p, q⟩ := h
  exact ⟨te, pw_or1 p, q⟩
theorem mw_and (h : MT X E Γ a u) (r : MW X E Γ (.BoolOp .And (b :: rest) pos) v) : MW X E Γ (.BoolOp .And (a :: b :: rest) pos) (bAnd u v) := by
  obtain ⟨te, p, q⟩ := h
  obtain ⟨te', p', q'⟩ := r
  refine ⟨tAnd te te', pw_and p p', fun O σ H τ Q ok h => q O σ H τ _ ok ?_⟩
  unfold bAnd at h
  cases ht : u τ with
  | ok d =>
    rw [ht, R.ok_bind] at h
    refine fun H1 s1 => ?_
    cases d with
    | true => rw [if_pos rfl] at h ⊢; exact q' O σ H1 τ Q (ok.same s1) (h.same s1)
    | false => rw [if_neg Bool.false_ne_true] at h ⊢; exact h H1 s1
  | err n => rw [ht] at h; exact h
  | bad => rw [ht] at h; exact h
theorem mw_or (h : MT X E Γ a u) (r : MW X E Γ (.BoolOp .Or (b :: rest) pos) v) : MW X E Γ (.BoolOp .Or (a :: b :: rest) pos) (bOr u v) := by
  obtain ⟨te, p, q⟩ := h
  obtain ⟨te', p', q'⟩ := r
  refine ⟨tOr te te', pw_or p p', fun O σ H τ Q ok h => q O σ H τ _ ok ?_⟩
  unfold bOr at h
  cases ht : u τ with
  | ok d =>
    rw [ht, R.ok_bind] at h
    refine fun H1 s1 => ?_
    cases d with
    | true => rw [if_pos rfl] at h ⊢; exact h H1 s1
    | false => rw [if_neg Bool.false_ne_true] at h ⊢; exact q' O σ H1 τ Q (ok.same s1) (h.same s1)
  | err n => rw [ht] at h; exact h
  | bad => rw [ht] at h; exact h
theorem me_one {op} (h : ME X E Γ a t c) : ME X E Γ (.BoolOp op [a] pos) t c := by
  obtain ⟨te, p, q⟩ := h
  exact ⟨te, pe_one p, q⟩
theorem asB_post {K : PySem.W.Frag} {O : Addr -> Prop} {H : Hp} {Q : VK} {d : D} {f : Bool -> R D} (h : post K E O c H Q ((asB d).bind f)) {v : V} {H' : Hp} {L : List Addr} (r : Rep K H' d v L) : ∃ k, v = .bl k /\ d = .bl k /\ post K E O c H Q (f k) := by
  cases d with
  | bl k => exact ⟨k, r.1, rfl, h⟩
  | _ => exact h.elim
theorem me_and (ha : ME X E Γ a ta ca) (hb : ME X E Γ (.BoolOp .And (b :: rest) pos) tb c) : ME X E Γ (.BoolOp .And (a :: b :: rest) pos) (eAnd ta tb) c := by
  obtain ⟨te, p, q⟩ := ha
  obtain ⟨te', p', q'⟩ := hb
  refine ⟨tAndV te te', pe_and p p', fun O σ H τ Q ok h => q O σ H τ _ ok (post.bind h fun d _ h v H1 L s r _ => ?_)⟩
  obtain ⟨k, e1, e2, h⟩ := asB_post h r
  refine ⟨k, e1, ?_⟩
  cases k with
  | true => rw [if_pos rfl] at h ⊢; exact q' O σ H1 τ Q (ok.same s) (h.same s)
  | false => rw [if_neg Bool.false_ne_true] at h ⊢; exact h _ H1 [] s ⟨rfl, rfl⟩ RcOk.nil
theorem me_not (ha : ME X E Γ a ta ca) : ME X E Γ (.UnaryOp .Not a pos) (eNot ta) .fresh := by
  obtain ⟨te, p, q⟩ := ha
  refine ⟨tNotV te, pe_not p, fun O σ H τ Q ok h => q O σ H τ _ ok (post.bind h fun d _ h v H1 L s r _ => ?_)⟩
  obtain ⟨k, e1, e2, h⟩ := asB_post h r
  exact ⟨k, e1, h _ H1 [] s ⟨rfl, rfl⟩ RcOk.nil⟩
noncomputable def OpB (K : PySem.W.Frag) (r : R2) (g : D -> D -> R D) : Prop :=
  ∀ H x y dx dy Lx Ly (Q : VK), Rep K H dx x Lx -> Rep K H dy y Ly -> (∃ d, g dx dy = .ok d /\ ∀ v H' L, Same H H' -> Rep K H' d v L -> L.Nodup -> (∀ a ∈ L, H a = none) -> Q v H') -> r x y H Q
noncomputable def NoErr (g : D -> D -> R D) : Prop := ∀ x y n, g x y ≠ .err n
theorem bin_go {r : R2} {g : D -> D -> R D} {te te' : TE} (hB : OpB X.K r g) (hn : NoErr g) (q : ∀ O σ H τ Q, EOk X.K Γ O H σ τ -> post X.K E O ca H Q (ta τ) -> te σ H Q) (q' : ∀ O σ H τ Q, EOk X.K Γ O H σ τ -> post X.K E O cb H Q (tb τ) -> te' σ H Q)
    {O : Addr -> Prop} {σ : St} {H : Hp} {τ : Tn} {Q : VK} (ok : EOk X.K Γ O H σ τ) (h : post X.K E O .fresh H Q (eBin g ta tb τ)) : tOp r te te' σ H Q := by
  unfold eBin at h
  refine q O σ H τ _ ok (post.bind h fun dx _ h x H1 Lx s1 rx _ => q' O σ H1 τ _ (ok.same s1) (post.bind (h.same s1) fun dy _ h y H2 Ly s2 ry _ => ?_))
  cases hg : g dx dy with
  | ok d =>
    rw [hg] at h
    exact hB H2 x y dx dy Lx Ly Q (rx.same s2) ry ⟨d, hg, fun v H' L s r n1 n2 => h v H' L (s2.trans s) r ⟨n1, fun a ha => s2.non (n2 a ha)⟩⟩
  | err n => exact absurd hg (hn _ _ _)
  | bad => rw [hg] at h; exact h.elim
theorem me_op {op : Operator} {r : R2} {g : D -> D -> R D} (ho : OpR X (binaryOp op) r) (hB : OpB X.K r g) (hn : NoErr g) (ha : ME X E Γ a ta ca) (hb : ME X E Γ b tb cb) : ME X E Γ (.BinOp a op b pos) (eBin g ta tb) .fresh := by
  obtain ⟨te, p, q⟩ := ha
  obtain ⟨te', p', q'⟩ := hb
  exact ⟨_, pe_op ho p p', fun O σ H τ Q ok h => bin_go hB hn q q' ok h⟩
theorem me_cmp {op : CmpOp} {r : R2} {g : D -> D -> R D} (ho : OpR X (compareOp op) r) (hB : OpB X.K r g) (hn : NoErr g) (ha : ME X E Γ a ta ca) (hb : ME X E Γ b tb cb) (hm : behindInMarks op b = false) : ME X E Γ (.Compare a [op] [b] pos) (eBin g ta tb) .fresh := by
  obtain ⟨te, p, q⟩ := ha
  obtain ⟨te', p', q'⟩ := hb
  exact ⟨_, pe_cmpR ho p p' hm, fun O σ H τ Q ok h => bin_go hB hn q q' ok h⟩
theorem test_post {K : PySem.W.Frag} {O : Addr -> Prop} {H : Hp} {Q : Bool -> Hp -> Prop} {r : R D} (h : postB K E H Q (r.bind asB)) : post K E O c H (fun x H' => ∃ k, x = .bl k /\ Q k H') r := by
  cases r with
  | ok d =>
    refine fun v H' L s r _ => ?_
    cases d with
    | bl k => exact ⟨k, r.1, h H' s⟩
    | _ => exact h.elim
  | err n => exact h
  | bad => exact h
theorem mt_cmp {op : CmpOp} {r : R2} {g : D -> D -> R D} (ho : OpR X (compareOp op) r) (hB : OpB X.K r g) (hn : NoErr g) (ha : ME X E Γ a ta ca) (hb : ME X E Γ b tb cb) (hm : behindInMarks op b = false) : MT X E Γ (.Compare a [op] [b] pos) (eTest (eBin g ta tb)) := by
  obtain ⟨te, p, q⟩ := ha
  obtain ⟨te', p', q'⟩ := hb
  exact ⟨_, pt_cmpR ho p p' hm, fun O σ H τ Q ok h => bin_go (O := O) hB hn q q' ok (test_post h)⟩
theorem chain_go {c' : Expr} {cc : Rc} {r r' : R2} {g g' : D -> D -> R D} {te te' te2 : TE} (hB : OpB X.K r g) (hn : NoErr g) (hB' : OpB X.K r' g') (hn' : NoErr g') (q : ∀ O σ H τ Q, EOk X.K Γ O H σ τ -> post X.K E O ca H Q (ta τ) -> te σ H Q) (q' : ∀ O σ H τ Q, EOk X.K Γ O H σ τ -> post X.K E O cb H Q (tb τ) -> te' σ H Q)
    (q2 : ∀ O σ H τ Q, EOk X.K Γ O H σ τ -> post X.K E O cc H Q (tc τ) -> te2 σ H Q) {O : Addr -> Prop} {σ : St} {H : Hp} {τ : Tn} {Q : VK} (ok : EOk X.K Γ O H σ τ) (h : post X.K E O .fresh H Q (eChain g g' ta tb tc τ)) : tChain r r' te te' te2 σ H Q := by
  unfold eChain at h
  refine q O σ H τ _ ok (post.bind h fun dx _ h x H1 Lx s1 rx _ => q' O σ H1 τ _ (ok.same s1) (post.bind (h.same s1) fun dy _ h y H2 Ly s2 ry _ => ?_))
  cases hg : g dx dy with
  | ok d =>
    rw [hg, R.ok_bind] at h
    refine hB H2 x y dx dy Lx Ly _ (rx.same s2) ry ⟨d, hg, fun z H3 L s3 r3 n1 n2 => ?_⟩
    obtain ⟨k, e1, e2, h⟩ := asB_post (h.same s2) r3
    refine ⟨k, e1, ?_⟩
    cases k with
    | true =>
      rw [if_pos rfl] at h ⊢
      have ok3 := ((ok.same s1).same s2).same s3
      refine q2 O σ H3 τ _ ok3 (post.bind (h.same s3) fun dw _ h w H4 Lw s4 rw4 _ => ?_)
      cases hg' : g' dy dw with
      | ok d' =>
        rw [hg'] at h
        exact hB' H4 y w dy dw Ly Lw Q ((ry.same s3).same s4) rw4 ⟨d', hg', fun v H' L s r n1 n2 => h v H' L (s4.trans s) r ⟨n1, fun a ha => s4.non (n2 a ha)⟩⟩
      | err n => exact absurd hg' (hn' _ _ _)
      | bad => rw [hg'] at h; exact h.elim
    | false => rw [if_neg Bool.false_ne_true] at h ⊢; exact h _ H3 [] s3 ⟨rfl, rfl⟩ RcOk.nil
  | err n => exact absurd hg (hn _ _ _)
  | bad => rw [hg] at h; exact h.elim
theorem me_chain {op op' : CmpOp} {c' : Expr} {cc : Rc} {r r' : R2} {g g' : D -> D -> R D} (ho : OpR X (compareOp op) r) (hB : OpB X.K r g) (hn : NoErr g) (ho' : OpR X (compareOp op') r') (hB' : OpB X.K r' g') (hn' : NoErr g')
    (ha : ME X E Γ a ta ca) (hb : ME X E Γ b tb cb) (hc : ME X E Γ c' tc cc) (hm : autoParam (lastMarks [op, op'] [b, c'] = false) L2.au4._auto_1) : ME X E Γ (.Compare a [op, op'] [b, c'] pos) (eChain g g' ta tb tc) .fresh := by
  obtain ⟨te, p, q⟩ := ha
  obtain ⟨te', p', q'⟩ := hb
  obtain ⟨te2, p2, q2⟩ := hc
  exact ⟨_, pe_chain ho ho' p p' p2 hm, fun O σ H τ Q ok h => chain_go (c' := c') hB hn hB' hn' q q' q2 ok h⟩
noncomputable def ClB (K : PySem.W.Frag) (r : List V -> Hp -> VK -> Prop) (g : List D -> R D) : Prop :=
  ∀ H xs ds L (Q : VK), Reps K H ds xs L -> (∃ d, g ds = .ok d /\ ∀ v H' L', Same H H' -> Rep K H' d v L' -> L'.Nodup -> (∀ a ∈ L', H a = none) -> Q v H') -> r xs H Q
noncomputable def NoErrL (g : List D -> R D) : Prop := ∀ ds n, g ds ≠ .err n
variable {uL : Tn -> R (List D)} {es : List Expr}
theorem cb_go {r : List V -> Hp -> VK -> Prop} {g : List D -> R D} {ta' : TA} (hB : ClB X.K r g) (hn : NoErrL g) (q : ∀ O σ H τ Q, EOk X.K Γ O H σ τ -> postL X.K E O ca H Q (uL τ) -> ta' σ H Q)
    {O : Addr -> Prop} {σ : St} {H : Hp} {τ : Tn} {Q : VK} (ok : EOk X.K Γ O H σ τ) (h : post X.K E O .fresh H Q (eL g uL τ)) : tCB r ta' σ H Q := by
  refine q O σ H τ _ ok ?_
  unfold eL at h
  cases hu : uL τ with
  | ok ds =>
    rw [hu, R.ok_bind] at h
    refine fun vs H1 L s1 r1 _ => ?_
    cases hg : g ds with
    | ok d =>
      rw [hg] at h
      exact hB H1 vs ds L Q r1 ⟨d, hg, fun v H' L s r n1 n2 => h v H' L (s1.trans s) r ⟨n1, fun a ha => s1.non (n2 a ha)⟩⟩
    | err n => exact absurd hg (hn _ _)
    | bad => rw [hg] at h; exact h.elim
  | err n => rw [hu] at h; exact h
  | bad => rw [hu] at h; exact h
variable {x : Str} {id T : String} {p : Pos}
theorem me_callB {r : List V -> Hp -> VK -> Prop} {g : List D -> R D} (hc : CallR X (.builtin id) r) (hB : ClB X.K r g) (hn : NoErrL g) (hg : Gl X x) (hm : X.mg x = none) (hv : bootBuiltins x = some (.builtin id)) (ha : MA X E Γ (e :: es) uL ca) (hx : autoParam (x ≠ "__name__") L2.au1._auto_1) (hdb : autoParam ((x == ("__debug__" : Str)) = false) L2.au1._auto_1)
    (he : autoParam (starEach (e :: es) X.env = (false, eval e X.env) :: starEach es X.env) L2.au3._auto_1) (hpl : autoParam ((backTo pos (starEach es X.env)).any (·.1) = false) L2.au3._auto_1) : ME X E Γ (.Call (.Name x p) (e :: es) [] pos) (eL g uL) .fresh := by
  obtain ⟨_, ta', p', q⟩ := ha
  exact ⟨_, pe_callB hc hg hm hv p' hx hdb he hpl, fun O σ H τ Q ok h => cb_go hB hn q ok h⟩
theorem me_callTy {r : List V -> Hp -> VK -> Prop} {g : List D -> R D} (hc : CallR X (.type T) r) (hB : ClB X.K r g) (hn : NoErrL g) (hg : Gl X x) (hm : X.mg x = none) (hv : bootBuiltins x = some (.type T)) (ha : MA X E Γ (e :: es) uL ca) (hx : autoParam (x ≠ "__name__") L2.au1._auto_1) (hdb : autoParam ((x == ("__debug__" : Str)) = false) L2.au1._auto_1)
    (he : autoParam (starEach (e :: es) X.env = (false, eval e X.env) :: starEach es X.env) L2.au3._auto_1) (hpl : autoParam ((backTo pos (starEach es X.env)).any (·.1) = false) L2.au3._auto_1) : ME X E Γ (.Call (.Name x p) (e :: es) [] pos) (eL g uL) .fresh := by
  obtain ⟨_, ta', p', q⟩ := ha
  exact ⟨_, pe_callTy hc hg hm hv p' hx hdb he hpl, fun O σ H τ Q ok h => cb_go hB hn q ok h⟩
end
end L2
set_option maxRecDepth 100000
set_option maxHeartbeats 4000000
namespace L2
open PySem PySem.Spec PyProof.Rows
noncomputable def wpE (K : PySem.W.Frag) (E : XK) (Γ : List Cl) (t : Tn -> R D) (c : Rc) : TE := fun σ H Q => ∃ O τ, EOk K Γ O H σ τ /\ post K E O c H Q (t τ)
noncomputable def wpT (K : PySem.W.Frag) (E : XK) (Γ : List Cl) (t : Tn -> R Bool) : TT := fun σ H Q => ∃ O τ, EOk K Γ O H σ τ /\ postB K E H Q (t τ)
theorem ME.pe {X : Cx} {E : XK} {Γ : List Cl} {e : Expr} {t : Tn -> R D} {c : Rc} (h : ME X E Γ e t c) : PE X e (wpE X.K E Γ t c) := by
  obtain ⟨te, p, q⟩ := h
  rintro pins s σ H Q I ⟨O, τ, ok, z⟩
  exact p pins s σ H Q I (q O σ H τ Q ok z)
theorem MT.pt {X : Cx} {E : XK} {Γ : List Cl} {e : Expr} {t : Tn -> R Bool} (h : MT X E Γ e t) : PT X e (wpT X.K E Γ t) := by
  obtain ⟨te, p, q⟩ := h
  rintro pins s σ H Q I ⟨O, τ, ok, z⟩
  exact p pins s σ H Q I (q O σ H τ Q ok z)
structure SOk (K : PySem.W.Frag) (Γ : List Cl) (B H : Hp) (σ : St) (τ : Tn) (T : List Addr) : Prop where
  ext : Same B H
  lσ : σ.length = Γ.length
  lτ : τ.length = Γ.length
  ex : ∃ Ls : Nat -> List Addr,
    (∀ i c, Γ[i]? = some c -> c ≠ .dead -> ∃ v d, σ[i]? = some (some v) /\ τ[i]? = some (some d) /\ Rep K H d v (Ls i)) /\
    (∀ i, Γ[i]? = some .own -> (Ls i).Nodup /\ ∀ a ∈ Ls i, B a = none) /\
    (∀ i j c, i ≠ j -> Γ[i]? = some .own -> Γ[j]? = some c -> c ≠ .dead -> ∀ a ∈ Ls i, a ∉ Ls j) /\
    T.Nodup /\ (∀ a ∈ T, B a = none /\ H a ≠ none) /\ (∀ i c, Γ[i]? = some c -> c ≠ .dead -> ∀ a ∈ Ls i, a ∉ T)
inductive Fl where
  | nx (τ : Tn) | rt (d : D) | bk (τ : Tn) | ct (τ : Tn)
noncomputable def postV (K : PySem.W.Frag) (E : XK) (B : Hp) (Γ' : List Cl) (σ : St) (τ : Tn) (T : List Addr) (H : Hp) (Q : VK) : R D -> Prop
  | .ok d => ∀ v H' L, Same H H' -> Rep K H' d v L -> SOk K Γ' B H' σ τ (L ++ T) -> Q v H'
  | .err n => ∀ C H', ErrC K n C -> Same B H' -> E (.ref C) none H'
  | .bad => False
noncomputable def postVs (K : PySem.W.Frag) (E : XK) (B : Hp) (Γ' : List Cl) (σ : St) (τ : Tn) (T : List Addr) (H : Hp) (Q : List V -> Hp -> Prop) : R (List D) -> Prop
  | .ok ds => ∀ vs H' L, Same H H' -> Reps K H' ds vs L -> SOk K Γ' B H' σ τ (L ++ T) -> Q vs H'
  | .err n => ∀ C H', ErrC K n C -> Same B H' -> E (.ref C) none H'
  | .bad => False
noncomputable def postS (K : PySem.W.Frag) (E : XK) (B : Hp) (Γl Γ' : List Cl) (Z : Ends) : R Fl -> Prop
  | .ok (.nx τ') => ∀ σ' H', SOk K Γ' B H' σ' τ' [] -> Z.nx σ' H'
  | .ok (.rt d) => ∀ v H' L, Same B H' -> Rep K H' d v L -> L.Nodup -> (∀ a ∈ L, B a = none) -> Z.rt v H'
  | .ok (.bk τ') => ∀ σ' H', SOk K Γl B H' σ' τ' [] -> Z.bk σ' H'
  | .ok (.ct τ') => ∀ σ' H', SOk K Γl B H' σ' τ' [] -> Z.ct σ' H'
  | .err n => ∀ C H', ErrC K n C -> Same B H' -> E (.ref C) none H'
  | .bad => False
noncomputable def MV (X : Cx) (E : XK) (Γ : List Cl) (e : Expr) (t : Tn -> R D) (Γ' : List Cl) : Prop :=
  ∃ te, PE X e te /\ ∀ B σ H τ T Q, SOk X.K Γ B H σ τ T -> postV X.K E B Γ' σ τ T H Q (t τ) -> te σ H Q
noncomputable def MVs (X : Cx) (E : XK) (Γ : List Cl) (es : List Expr) (t : Tn -> R (List D)) (Γ' : List Cl) : Prop :=
  (∀ τ ds, t τ = .ok ds -> ds.length = es.length) /\ ∃ ta, PA X es ta /\ ∀ B σ H τ T Q, SOk X.K Γ B H σ τ T -> postVs X.K E B Γ' σ τ T H Q (t τ) -> ta σ H Q
noncomputable def MS (X : Cx) (E : XK) (Γl Γ : List Cl) (s : Stmt) (t : Tn -> R Fl) (Γ' : List Cl) : Prop :=
  ∃ ts, PS X s ts /\ ∀ B σ H τ Z, SOk X.K Γ B H σ τ [] -> postS X.K E B Γl Γ' Z (t τ) -> ts Z σ H
noncomputable def MSs (X : Cx) (E : XK) (Γl Γ : List Cl) (s : List Stmt) (t : Tn -> R Fl) (Γ' : List Cl) : Prop :=
  ∃ ts, PSs X s ts /\ ∀ B σ H τ Z, SOk X.K Γ B H σ τ [] -> postS X.K E B Γl Γ' Z (t τ) -> ts Z σ H
section
variable {K : PySem.W.Frag} {Γ Γ' : List Cl} {B H H1 : Hp} {σ : St} {τ : Tn} {T : List Addr}
theorem SOk.eok (h : SOk K Γ B H σ τ T) : ∃ O : Addr -> Prop, EOk K Γ O H σ τ /\ (∀ L : List Addr, (∀ a ∈ L, ¬ O a) -> ∃ Ls : Nat -> List Addr,
    (∀ i c, Γ[i]? = some c -> c ≠ .dead -> ∃ v d, σ[i]? = some (some v) /\ τ[i]? = some (some d) /\ Rep K H d v (Ls i)) /\
    (∀ i, Γ[i]? = some .own -> (Ls i).Nodup /\ ∀ a ∈ Ls i, B a = none) /\
    (∀ i j c, i ≠ j -> Γ[i]? = some .own -> Γ[j]? = some c -> c ≠ .dead -> ∀ a ∈ Ls i, a ∉ Ls j) /\
    T.Nodup /\ (∀ a ∈ T, B a = none /\ H a ≠ none) /\ (∀ i c, Γ[i]? = some c -> c ≠ .dead -> ∀ a ∈ Ls i, a ∉ T) /\ ∀ i, Γ[i]? = some .own -> ∀ a ∈ Ls i, a ∉ L) := by
  obtain ⟨Ls, h1, h2, h3, h4, h5, h6⟩ := h.ex
  refine ⟨fun a => ∃ i, Γ[i]? = some .own /\ a ∈ Ls i, ⟨fun a ⟨i, e, ha⟩ => ?_, fun i c e hc => ?_⟩, fun L hL => ⟨Ls, h1, h2, h3, h4, h5, h6, fun i e a ha hm => hL a hm ⟨i, e, ha⟩⟩⟩
  · obtain ⟨v, d, _, _, r⟩ := h1 i _ e (by simp)
    exact r.there ha
  · obtain ⟨v, d, e1, e2, r⟩ := h1 i c e hc
    refine ⟨v, d, Ls i, e1, e2, r, fun z a ha ⟨j, ej, hj⟩ => ?_⟩
    subst z
    have hij : j ≠ i := fun z => by subst z; rw [e] at ej; cases ej
    exact h3 j i _ hij ej e (by simp) a hj ha
theorem SOk.same (h : SOk K Γ B H σ τ T) (s : Same H H1) : SOk K Γ B H1 σ τ T := by
  obtain ⟨Ls, h1, h2, h3, h4, h5, h6⟩ := h.ex
  refine ⟨h.ext.trans s, h.lσ, h.lτ, Ls, fun i c e hc => ?_, h2, h3, h4, fun a ha => ⟨(h5 a ha).1, by rw [s.at (h5 a ha).2]; exact (h5 a ha).2⟩, h6⟩
  obtain ⟨v, d, e1, e2, r⟩ := h1 i c e hc
  exact ⟨v, d, e1, e2, r.same s⟩
theorem SOk.aside {L : List Addr} (h : SOk K Γ B H σ τ T) (s : Same H H1) (r : ∀ a ∈ L, H1 a ≠ none) (n1 : L.Nodup) (n2 : ∀ a ∈ L, H a = none) : SOk K Γ B H1 σ τ (L ++ T) := by
  obtain ⟨Ls, h1, h2, h3, h4, h5, h6⟩ := h.ex
  refine ⟨h.ext.trans s, h.lσ, h.lτ, Ls, fun i c e hc => ?_, h2, h3, List.nodup_append.mpr ⟨n1, h4, fun a ha b hb z => ?_⟩, fun a ha => ?_, fun i c e hc a ha hm => ?_⟩
  · obtain ⟨v, d, e1, e2, r⟩ := h1 i c e hc
    exact ⟨v, d, e1, e2, r.same s⟩
  · subst z; exact (h5 a hb).2 (n2 a ha)
  · rcases List.mem_append.mp ha with z | z
    · exact ⟨h.ext.non (n2 a z), r a z⟩
    · exact ⟨(h5 a z).1, by rw [s.at (h5 a z).2]; exact (h5 a z).2⟩
  · obtain ⟨v, d, e1, e2, r'⟩ := h1 i c e hc
    rcases List.mem_append.mp hm with z | z
    · exact r'.there ha (n2 a z)
    · exact h6 i c e hc a ha z
theorem SOk.perm {T' : List Addr} (h : SOk K Γ B H σ τ T) (p : T.Perm T') : SOk K Γ B H σ τ T' := by
  obtain ⟨Ls, h1, h2, h3, h4, h5, h6⟩ := h.ex
  exact ⟨h.ext, h.lσ, h.lτ, Ls, h1, h2, h3, p.nodup_iff.mp h4, fun a ha => h5 a (p.mem_iff.mpr ha), fun i c e hc a ha hm => h6 i c e hc a ha (p.mem_iff.mpr hm)⟩
noncomputable def wk1 : Cl -> Cl -> Bool
  | _, .dead => true
  | .own, .own => true
  | .own, .shr => true
  | .shr, .shr => true
  | _, _ => false
noncomputable def wk : List Cl -> List Cl -> Bool
  | [], [] => true
  | a :: r, b :: q => wk1 a b && wk r q
  | _, _ => false
theorem wk_len : ∀ {Γ Γ' : List Cl}, wk Γ Γ' = true -> Γ.length = Γ'.length
  | [], [], _ => rfl
  | a :: r, b :: q, h => by
    have h : (wk1 a b && wk r q) = true := h
    rw [Bool.and_eq_true] at h
    rw [List.length_cons, List.length_cons, wk_len h.2]
theorem wk_at : ∀ {Γ Γ' : List Cl} {i : Nat} {c : Cl}, wk Γ Γ' = true -> Γ'[i]? = some c -> ∃ k, Γ[i]? = some k /\ wk1 k c = true
  | [], [], _, _, _, e => by simp at e
  | a :: r, b :: q, 0, c, h, e => by
    have h : (wk1 a b && wk r q) = true := h
    rw [Bool.and_eq_true] at h
    simp at e; subst e
    exact ⟨a, rfl, h.1⟩
  | a :: r, b :: q, i + 1, c, h, e => by
    have h : (wk1 a b && wk r q) = true := h
    rw [Bool.and_eq_true] at h
    obtain ⟨k, h1, h2⟩ := wk_at (i := i) (c := c) h.2 (by simpa using e)
    exact ⟨k, by simpa using h1, h2⟩
theorem SOk.weak (h : SOk K Γ B H σ τ T) (w : wk Γ Γ' = true) : SOk K Γ' B H σ τ T := by
  obtain ⟨Ls, h1, h2, h3, h4, h5, h6⟩ := h.ex
  have live : ∀ (i : Nat) (c : Cl), Γ'[i]? = some c -> c ≠ Cl.dead -> ∃ k, Γ[i]? = some k /\ k ≠ Cl.dead /\ (c = Cl.own -> k = Cl.own) := fun i c e hc => by
    obtain ⟨k, e', w'⟩ := wk_at w e
    refine ⟨k, e', fun z => ?_, fun z => ?_⟩
    · subst z; cases c <;> first | exact absurd rfl hc | cases w'
    · subst z; cases k <;> first | rfl | cases w'
  refine ⟨h.ext, by rw [<- wk_len w]; exact h.lσ, by rw [<- wk_len w]; exact h.lτ, Ls, fun i c e hc => ?_, fun i e => ?_, fun i j c hij ei ej hc => ?_, h4, h5, fun i c e hc => ?_⟩
  · obtain ⟨k, e', n, _⟩ := live i c e hc
    exact h1 i k e' n
  · obtain ⟨k, e', n, o⟩ := live i _ e (by simp)
    rw [o rfl] at e'
    exact h2 i e'
  · obtain ⟨k, e', n, o⟩ := live i _ ei (by simp)
    obtain ⟨k2, e2, n2, _⟩ := live j c ej hc
    rw [o rfl] at e'
    exact h3 i j k2 hij e' e2 n2
  · obtain ⟨k, e', n, _⟩ := live i c e hc
    exact h6 i k e' n
theorem SOk.out {i : Nat} (h : SOk K Γ B H σ τ T) (e : Γ[i]? = some .own) : ∃ v d L, σ[i]? = some (some v) /\ τ[i]? = some (some d) /\ Rep K H d v L /\ SOk K (Γ.set i .dead) B H σ τ (L ++ T) := by
  obtain ⟨Ls, h1, h2, h3, h4, h5, h6⟩ := h.ex
  obtain ⟨v, d, e1, e2, r⟩ := h1 i _ e (by simp)
  have hi : i < Γ.length := (List.getElem?_eq_some_iff.mp e).1
  have at' : ∀ (j : Nat) (c : Cl), (Γ.set i .dead)[j]? = some c -> c ≠ .dead -> j ≠ i /\ Γ[j]? = some c := fun j c ej hc => by
    by_cases z : i = j
    · subst z; rw [List.getElem?_set_self hi] at ej; exact absurd (Option.some.inj ej).symm hc
    · rw [List.getElem?_set_ne z] at ej; exact ⟨Ne.symm z, ej⟩
  refine ⟨v, d, Ls i, e1, e2, r, ⟨h.ext, by rw [List.length_set]; exact h.lσ, by rw [List.length_set]; exact h.lτ, Ls, fun j c ej hc => h1 j c (at' j c ej hc).2 hc, fun j ej => h2 j (at' j _ ej (by simp)).2, fun j k c hjk ej ek hc => h3 j k c hjk (at' j _ ej (by simp)).2 (at' k c ek hc).2 hc,
    List.nodup_append.mpr ⟨(h2 i e).1, h4, fun a ha b hb z => ?_⟩, fun a ha => ?_, fun j c ej hc a ha hm => ?_⟩⟩
  · subst z; exact h6 i _ e (by simp) a ha hb
  · rcases List.mem_append.mp ha with z | z
    · exact ⟨(h2 i e).2 a z, r.there z⟩
    · exact h5 a z
  · obtain ⟨n, ej'⟩ := at' j c ej hc
    rcases List.mem_append.mp hm with z | z
    · exact h3 i j c (Ne.symm n) e ej' hc a z ha
    · exact h6 j c ej' hc a ha z
noncomputable def putL (Ls : Nat -> List Addr) (i : Nat) (L : List Addr) : Nat -> List Addr := fun j => if j = i then L else Ls j
theorem putL_self {Ls : Nat -> List Addr} {i : Nat} {L : List Addr} : putL Ls i L i = L := if_pos rfl
theorem putL_eq {Ls : Nat -> List Addr} {i j : Nat} {L : List Addr} (h : j = i) : putL Ls i L j = L := if_pos h
theorem putL_ne {Ls : Nat -> List Addr} {i j : Nat} {L : List Addr} (h : j ≠ i) : putL Ls i L j = Ls j := if_neg h
theorem SOk.into {i : Nat} {d : D} {v : V} {L : List Addr} (h : SOk K Γ B H σ τ (L ++ T)) (r : Rep K H d v L) (hi : i < Γ.length) : SOk K (Γ.set i .own) B H (σ.set i (some v)) (τ.set i (some d)) T := by
  obtain ⟨Ls, h1, h2, h3, h4, h5, h6⟩ := h.ex
  have hσ : i < σ.length := by rw [h.lσ]; exact hi
  have hτ : i < τ.length := by rw [h.lτ]; exact hi
  obtain ⟨n1, n2, n3⟩ := List.nodup_append.mp h4
  have at' : ∀ (j : Nat) (c : Cl), j ≠ i -> (Γ.set i .own)[j]? = some c -> Γ[j]? = some c := fun j c hj e => by rw [List.getElem?_set_ne (Ne.symm hj)] at e; exact e
  refine ⟨h.ext, by rw [List.length_set, List.length_set]; exact h.lσ, by rw [List.length_set, List.length_set]; exact h.lτ, putL Ls i L, fun j c e hc => ?_, fun j e => ?_, fun j k c hjk ej ek hc a ha hm => ?_, n2, fun a ha => h5 a (List.mem_append_right _ ha), fun j c e hc a ha hm => ?_⟩
  · by_cases z : j = i
    · subst z
      refine ⟨v, d, by rw [List.getElem?_set_self hσ], by rw [List.getElem?_set_self hτ], ?_⟩
      rw [putL_self]; exact r
    · obtain ⟨v', d', e1, e2, r'⟩ := h1 j c (at' j c z e) hc
      refine ⟨v', d', by rw [List.getElem?_set_ne (Ne.symm z)]; exact e1, by rw [List.getElem?_set_ne (Ne.symm z)]; exact e2, ?_⟩
      rw [putL_ne z]; exact r'
  · by_cases z : j = i
    · subst z; rw [putL_self]; exact ⟨n1, fun a ha => (h5 a (List.mem_append_left _ ha)).1⟩
    · rw [putL_ne z]; exact h2 j (at' j _ z e)
  · by_cases z : j = i
    · subst z
      rw [putL_self] at ha
      rw [putL_ne (Ne.symm hjk)] at hm
      exact h6 k c (at' k c (Ne.symm hjk) ek) hc a hm (List.mem_append_left _ ha)
    · rw [putL_ne z] at ha
      by_cases z2 : k = i
      · subst z2
        rw [putL_self] at hm
        exact h6 j _ (at' j _ z ej) (by simp) a ha (List.mem_append_left _ hm)
      · rw [putL_ne z2] at hm
        exact h3 j k c hjk (at' j _ z ej) (at' k c z2 ek) hc a ha hm
  · by_cases z : j = i
    · subst z; rw [putL_self] at ha; exact n3 a ha a hm rfl
    · rw [putL_ne z] at ha; exact h6 j c (at' j c z e) hc a ha (List.mem_append_right _ hm)
end
end L2
set_option maxRecDepth 100000
set_option maxHeartbeats 4000000
namespace L2
open PySem PySem.Spec PyProof.Rows
section
variable {K : PySem.W.Frag} {Γ Γ' : List Cl} {B H H1 : Hp} {σ : St} {τ : Tn} {T : List Addr}
theorem SOk.intoS {i : Nat} {d : D} {v : V} {L : List Addr} {Ls : Nat -> List Addr} (e0 : Same B H) (l1 : σ.length = Γ.length) (l2 : τ.length = Γ.length)
    (h1 : ∀ i c, Γ[i]? = some c -> c ≠ .dead -> ∃ v d, σ[i]? = some (some v) /\ τ[i]? = some (some d) /\ Rep K H d v (Ls i)) (h2 : ∀ i, Γ[i]? = some .own -> (Ls i).Nodup /\ ∀ a ∈ Ls i, B a = none)
    (h3 : ∀ i j c, i ≠ j -> Γ[i]? = some .own -> Γ[j]? = some c -> c ≠ .dead -> ∀ a ∈ Ls i, a ∉ Ls j) (h7 : ∀ i, Γ[i]? = some .own -> ∀ a ∈ Ls i, a ∉ L) (r : Rep K H d v L) (hi : i < Γ.length) :
    SOk K (Γ.set i .shr) B H (σ.set i (some v)) (τ.set i (some d)) [] := by
  have hσ : i < σ.length := by rw [l1]; exact hi
  have hτ : i < τ.length := by rw [l2]; exact hi
  have at' : ∀ (j : Nat) (c : Cl), j ≠ i -> (Γ.set i .shr)[j]? = some c -> Γ[j]? = some c := fun j c hj e => by rw [List.getElem?_set_ne (Ne.symm hj)] at e; exact e
  have nown : ∀ j : Nat, (Γ.set i .shr)[j]? = some .own -> j ≠ i := fun j e z => by subst z; rw [List.getElem?_set_self hi] at e; cases e
  refine ⟨e0, by rw [List.length_set, List.length_set]; exact l1, by rw [List.length_set, List.length_set]; exact l2, putL Ls i L, fun j c e hc => ?_, fun j e => ?_, fun j k c hjk ej ek hc a ha hm => ?_, List.nodup_nil, fun a ha => (nomatch ha), fun j c e hc a ha hm => (nomatch hm)⟩
  · by_cases z : j = i
    · subst z
      refine ⟨v, d, by rw [List.getElem?_set_self hσ], by rw [List.getElem?_set_self hτ], ?_⟩
      rw [putL_self]; exact r
    · obtain ⟨v', d', e1, e2, r'⟩ := h1 j c (at' j c z e) hc
      refine ⟨v', d', by rw [List.getElem?_set_ne (Ne.symm z)]; exact e1, by rw [List.getElem?_set_ne (Ne.symm z)]; exact e2, ?_⟩
      rw [putL_ne z]; exact r'
  · have z := nown j e
    rw [putL_ne z]; exact h2 j (at' j _ z e)
  · have z := nown j ej
    rw [putL_ne z] at ha
    by_cases z2 : k = i
    · rw [putL_eq z2] at hm; exact h7 j (at' j _ z ej) a ha hm
    · rw [putL_ne z2] at hm; exact h3 j k c hjk (at' j _ z ej) (at' k c z2 ek) hc a ha hm
end
section
variable {X : Cx} {E : XK} {Γ Γ1 Γ' Γl : List Cl} {e a b : Expr} {es : List Expr} {t : Tn -> R D} {u : Tn -> R (List D)} {c : Rc} {pos : Pos}
theorem mv_fresh (h : ME X E Γ e t .fresh) : MV X E Γ e t Γ := by
  obtain ⟨te, p, q⟩ := h
  refine ⟨te, p, fun B σ H τ T Q ok h => ?_⟩
  obtain ⟨O, eo, _⟩ := ok.eok
  refine q O σ H τ Q eo ?_
  cases ht : t τ with
  | ok d =>
    rw [ht] at h
    exact fun v H' L s r k => h v H' L s r (ok.aside s (fun a ha => r.there ha) k.1 k.2)
  | err n => rw [ht] at h; exact fun C H' e s => h C H' e (ok.ext.trans s)
  | bad => rw [ht] at h; exact h
theorem mv_name {i : Nat} {x : Str} (hN : X.N[i]? = some x) (hk : Γ[i]? = some .own) (hv : Vis X.env.scope x) (hb : autoParam ((x == ("__debug__" : Str)) = false) L2.au1._auto_1) (hcd : autoParam ((x == ("__classdict__" : Str)) = false) L2.au1._auto_1) : MV X E Γ (.Name x pos) (eVar i) (Γ.set i .dead) := by
  refine ⟨tVar i, pe_var hN hv hb hcd, fun B σ H τ T Q ok h => ?_⟩
  obtain ⟨v, d, L, e1, e2, r, ok'⟩ := ok.out hk
  unfold eVar at h
  rw [e2] at h
  exact ⟨v, e1, h v H L (Same.refl H) r ok'⟩
theorem mvs_nil : MVs X E Γ [] aNil Γ := ⟨fun τ ds h => by cases h; rfl, tNil, pa_nil, fun B σ H τ T Q ok h => h [] H [] (Same.refl H) Reps.nil ok⟩
theorem mvs_cons (h : MV X E Γ e t Γ1) (r : MVs X E Γ1 es u Γ') (hs : autoParam (starEach (e :: es) X.env = (false, eval e X.env) :: starEach es X.env) L2.au3._auto_1) : MVs X E Γ (e :: es) (aCons t u) Γ' := by
  obtain ⟨te, p1, q1⟩ := h
  obtain ⟨hl, ta, p2, q2⟩ := r
  refine ⟨fun τ ds h => ?_, tCons te ta, pa_cons p1 p2 hs, fun B σ H τ T Q ok h => ?_⟩
  · unfold aCons at h
    cases h1 : t τ with
    | ok d =>
      rw [h1, R.ok_bind] at h
      cases h2 : u τ with
      | ok xs =>
        rw [h2, R.ok_bind] at h
        cases h
        rw [List.length_cons, List.length_cons, hl τ xs h2]
      | err n => rw [h2] at h; cases h
      | bad => rw [h2] at h; cases h
    | err n => rw [h1] at h; cases h
    | bad => rw [h1] at h; cases h
  · unfold aCons at h
    refine q1 B σ H τ T _ ok ?_
    cases h1 : t τ with
    | ok d =>
      rw [h1, R.ok_bind] at h
      refine fun v H1 L1 s1 r1 k1 => q2 B σ H1 τ (L1 ++ T) _ k1 ?_
      cases h2 : u τ with
      | ok xs =>
        rw [h2, R.ok_bind] at h
        refine fun vs H2 L2 s2 r2 k2 => h (v :: vs) H2 (L1 ++ L2) (s1.trans s2) (Reps.cons (r1.same s2) r2) (k2.perm ?_)
        rw [<- List.append_assoc]
        exact List.Perm.append_right _ List.perm_append_comm
      | err n => rw [h2] at h; exact h
      | bad => rw [h2] at h; exact h
    | err n => rw [h1] at h; exact h
    | bad => rw [h1] at h; exact h
theorem mv_tup {x1} (h : MVs X E Γ es u Γ') (hz : autoParam (es.length <= 1000) L2.au1._auto_1) : MV X E Γ (.Tuple es x1 pos) (eL (fun ds => .ok (.tup ds)) u) Γ' := by
  obtain ⟨hl, ta, p, q⟩ := h
  refine ⟨tTup ta, pe_tup p, fun B σ H τ T Q ok h => q B σ H τ T _ ok ?_⟩
  unfold eL at h
  have hs : sizeLine = 16777216 := sizeLine_eq
  cases hu : u τ with
  | ok ds =>
    rw [hu, R.ok_bind] at h
    refine fun vs H1 L s r k => ⟨by rw [r.length, hl τ ds hu]; lia, fun p hp => ?_⟩
    exact h _ _ L (s.trans (Same.new hp)) ⟨p, vs, rfl, SqT.of upd_same, r.same (Same.new hp)⟩ (k.same (Same.new hp))
  | err n => rw [hu] at h; exact h
  | bad => rw [hu] at h; exact h
noncomputable def sSkip : Tn -> R Fl := fun τ => .ok (.nx τ)
noncomputable def sSeq (a b : Tn -> R Fl) : Tn -> R Fl := fun τ => (a τ).bind fun f => match f with
  | .nx τ' => b τ'
  | f => .ok f
noncomputable def sRet (t : Tn -> R D) : Tn -> R Fl := fun τ => (t τ).bind fun d => .ok (.rt d)
noncomputable def sSet (i : Nat) (t : Tn -> R D) : Tn -> R Fl := fun τ => (t τ).bind fun d => .ok (.nx (τ.set i (some d)))
noncomputable def sIf (k : Tn -> R Bool) (a b : Tn -> R Fl) : Tn -> R Fl := fun τ => (k τ).bind fun x => if x = true then a τ else b τ
theorem mss_nil : MSs X E Γl Γ [] sSkip Γ := ⟨tNext, pss_nil, fun B σ H τ Z ok h => h σ H ok⟩
theorem mss_one {s : Stmt} {t : Tn -> R Fl} (h : MS X E Γl Γ s t Γ') : MSs X E Γl Γ [s] t Γ' := by
  obtain ⟨ts, p, q⟩ := h
  exact ⟨ts, pss_one p, q⟩
theorem mss_cons {s : Stmt} {r : List Stmt} {t1 t2 : Tn -> R Fl} (h : MS X E Γl Γ s t1 Γ1) (k : MSs X E Γl Γ1 r t2 Γ') : MSs X E Γl Γ (s :: r) (sSeq t1 t2) Γ' := by
  obtain ⟨ts, p, q⟩ := h
  obtain ⟨ts', p', q'⟩ := k
  refine ⟨tSeq ts ts', pss_cons p p', fun B σ H τ Z ok h => q B σ H τ _ ok ?_⟩
  unfold sSeq at h
  cases ht : t1 τ with
  | ok f =>
    rw [ht, R.ok_bind] at h
    cases f with
    | nx τ' => exact fun σ' H' ok' => q' B σ' H' τ' Z ok' h
    | rt d => exact h
    | bk τ' => exact h
    | ct τ' => exact h
  | err n => rw [ht] at h; exact h
  | bad => rw [ht] at h; exact h
theorem ms_pre {s : Stmt} {t : Tn -> R Fl} (h : MS X E Γl Γ1 s t Γ') (w : wk Γ Γ1 = true) : MS X E Γl Γ s t Γ' := by
  obtain ⟨ts, p, q⟩ := h
  exact ⟨ts, p, fun B σ H τ Z ok h => q B σ H τ Z (ok.weak w) h⟩
theorem ms_ret (h : MV X E Γ e t Γ1) : MS X E Γl Γ (.Return (some e) pos) (sRet t) Γ' := by
  obtain ⟨te, p, q⟩ := h
  refine ⟨tRet te, ps_ret p, fun B σ H τ Z ok h => q B σ H τ [] _ ok ?_⟩
  unfold sRet at h
  cases ht : t τ with
  | ok d =>
    rw [ht, R.ok_bind] at h
    refine fun v H' L s r ok' => ?_
    obtain ⟨Ls, _, _, _, h4, h5, _⟩ := ok'.ex
    rw [List.append_nil] at h4 h5
    exact h v H' L ok'.ext r h4 fun a ha => (h5 a ha).1
  | err n => rw [ht] at h; exact h
  | bad => rw [ht] at h; exact h
theorem ms_if {k : Expr} {u : Tn -> R Bool} {sa sb : List Stmt} {t1 t2 : Tn -> R Fl} (hk : MT X E Γ k u) (ha : MSs X E Γl Γ sa t1 Γ') (hb : MSs X E Γl Γ sb t2 Γ') : MS X E Γl Γ (.If k sa sb pos) (sIf u t1 t2) Γ' := by
  obtain ⟨te, p, q⟩ := hk
  obtain ⟨ts1, p1, q1⟩ := ha
  obtain ⟨ts2, p2, q2⟩ := hb
  refine ⟨tIfS te ts1 ts2, ps_if p p1 p2, fun B σ H τ Z ok h => ?_⟩
  obtain ⟨O, eo, _⟩ := ok.eok
  refine q O σ H τ _ eo ?_
  unfold sIf at h
  cases ht : u τ with
  | ok x =>
    rw [ht, R.ok_bind] at h
    refine fun H1 s1 => ?_
    cases x with
    | true => rw [if_pos rfl] at h ⊢; exact q1 B σ H1 τ Z (ok.same s1) h
    | false => rw [if_neg Bool.false_ne_true] at h ⊢; exact q2 B σ H1 τ Z (ok.same s1) h
  | err n => rw [ht] at h; exact fun C H' e s => h C H' e (ok.ext.trans s)
  | bad => rw [ht] at h; exact h
theorem ms_set {i : Nat} {x : Str} {pos' : Pos} (hN : X.N.Nodup) (hi : X.N[i]? = some x) (hl : i < Γ1.length) (h : MV X E Γ e t Γ1) (hx : Loc X.env.scope x) (hs : autoParam (swapsWith e (some (.Name x pos')) pos.line X.env = pure false) L2.au3._auto_1) (hf : autoParam (X.fn x = true \/ X.env.scope.names.lookup x = some .local) L2.au0._auto_1) :
    MS X E Γl Γ (.Assign [.Name x pos'] e pos) (sSet i t) (Γ1.set i .own) := by
  obtain ⟨te, p, q⟩ := h
  refine ⟨_, ps_set hN hi hx p hs hf, fun B σ H τ Z ok h => q B σ H τ [] _ ok ?_⟩
  unfold sSet at h
  cases ht : t τ with
  | ok d =>
    rw [ht, R.ok_bind] at h
    exact fun v H' L s r ok' => h _ _ (ok'.into r hl)
  | err n => rw [ht] at h; exact h
  | bad => rw [ht] at h; exact h
theorem ms_setS {i : Nat} {x : Str} {pos' : Pos} (hN : X.N.Nodup) (hi : X.N[i]? = some x) (hl : i < Γ.length) (h : ME X E Γ e t c) (hc : c ≠ .bor) (hx : Loc X.env.scope x) (hs : autoParam (swapsWith e (some (.Name x pos')) pos.line X.env = pure false) L2.au3._auto_1) (hf : autoParam (X.fn x = true \/ X.env.scope.names.lookup x = some .local) L2.au0._auto_1) :
    MS X E Γl Γ (.Assign [.Name x pos'] e pos) (sSet i t) (Γ.set i .shr) := by
  obtain ⟨te, p, q⟩ := h
  refine ⟨_, ps_set hN hi hx p hs hf, fun B σ H τ Z ok h => ?_⟩
  obtain ⟨O, eo, hL⟩ := ok.eok
  refine q O σ H τ _ eo ?_
  unfold sSet at h
  cases ht : t τ with
  | ok d =>
    rw [ht, R.ok_bind] at h
    refine fun v H' L s r k => h _ _ ?_
    obtain ⟨Ls, h1, h2, h3, _, _, _, h7⟩ := hL L (k.shr eo.dom hc)
    exact SOk.intoS (ok.ext.trans s) ok.lσ ok.lτ (fun j c e hc => by obtain ⟨v', d', e1, e2, r'⟩ := h1 j c e hc; exact ⟨v', d', e1, e2, r'.same s⟩) h2 h3 h7 r hl
  | err n => rw [ht] at h; exact fun C H' e s => h C H' e (ok.ext.trans s)
  | bad => rw [ht] at h; exact h
end
end L2
set_option maxRecDepth 100000
set_option maxHeartbeats 4000000
namespace L2
open PySem PySem.Spec PyProof.Rows
section
variable {K : PySem.W.Frag} {Γ Γ' : List Cl} {B H H1 : Hp} {σ : St} {τ : Tn} {T : List Addr}
theorem SOk.slot {i : Nat} (h : SOk K Γ B H σ τ T) (e : Γ[i]? = some .own) : ∃ v d L, σ[i]? = some (some v) /\ τ[i]? = some (some d) /\ Rep K H d v L /\ L.Nodup /\ (∀ a ∈ L, B a = none /\ a ∉ T) /\
    ∀ (H2 : Hp) (d2 : D) (L2 Le T' : List Addr), T = Le ++ T' -> TF H H2 -> (∀ b, b ∉ L -> H b ≠ none -> H2 b = H b) -> Rep K H2 d2 v L2 -> (∀ a ∈ L2, a ∈ L \/ a ∈ Le) -> L2.Nodup -> SOk K Γ B H2 σ (τ.set i (some d2)) T' := by
  obtain ⟨Ls, h1, h2, h3, h4, h5, h6⟩ := h.ex
  obtain ⟨v, d, e1, e2, r⟩ := h1 i _ e (by simp)
  refine ⟨v, d, Ls i, e1, e2, r, (h2 i e).1, fun a ha => ⟨(h2 i e).2 a ha, h6 i _ e (by simp) a ha⟩, ?_⟩
  rintro H2 d2 L2 Le T' rfl tf kp r2 sub nd
  obtain ⟨n1, n2, n3⟩ := List.nodup_append.mp h4
  have hτ : i < τ.length := (List.getElem?_eq_some_iff.mp e2).1
  have notL : ∀ b, B b ≠ none -> b ∉ Ls i := fun b hb hm => hb ((h2 i e).2 b hm)
  refine ⟨fun b o q => ?_, h.lσ, by rw [List.length_set]; exact h.lτ, putL Ls i L2, fun j c ej hc => ?_, fun j ej => ?_, fun j k c hjk ej ek hc a ha hm => ?_, n2, fun a ha => ⟨(h5 a (List.mem_append_right _ ha)).1, ?_⟩, fun j c ej hc a ha hm => ?_⟩
  · have hq := h.ext b o q
    rw [kp b (notL b (by rw [q]; simp)) (by rw [hq]; simp)]; exact hq
  · by_cases z : j = i
    · subst z
      refine ⟨v, d2, e1, by rw [List.getElem?_set_self hτ], ?_⟩
      rw [putL_self]; exact r2
    · obtain ⟨v', d', q1, q2, r'⟩ := h1 j c ej hc
      refine ⟨v', d', q1, by rw [List.getElem?_set_ne (Ne.symm z)]; exact q2, ?_⟩
      rw [putL_ne z]
      exact Rep.keep tf d' v' _ r' fun a ha => kp a (fun hm => h3 i j c (Ne.symm z) e ej hc a hm ha) (r'.there ha)
  · by_cases z : j = i
    · subst z
      rw [putL_self]
      refine ⟨nd, fun a ha => ?_⟩
      rcases sub a ha with m | m
      · exact (h2 _ e).2 a m
      · exact (h5 a (List.mem_append_left _ m)).1
    · rw [putL_ne z]; exact h2 j ej
  · by_cases z : j = i
    · subst z
      rw [putL_self] at ha
      rw [putL_ne (Ne.symm hjk)] at hm
      rcases sub a ha with m | m
      · exact h3 _ k c hjk e ek hc a m hm
      · exact h6 k c ek hc a hm (List.mem_append_left _ m)
    · rw [putL_ne z] at ha
      by_cases z2 : k = i
      · subst z2
        rw [putL_self] at hm
        rcases sub a hm with m | m
        · exact h3 j _ _ hjk ej e (by simp) a ha m
        · exact h6 j _ ej (by simp) a ha (List.mem_append_left _ m)
      · rw [putL_ne z2] at hm; exact h3 j k c hjk ej ek hc a ha hm
  · have q := (h5 a (List.mem_append_right _ ha)).2
    rw [kp a (fun hm => h6 i _ e (by simp) a hm (List.mem_append_right _ ha)) q]; exact q
  · by_cases z : j = i
    · rw [putL_eq z] at ha
      rcases sub a ha with m | m
      · exact h6 i _ e (by simp) a m (List.mem_append_right _ hm)
      · exact n3 a m a hm rfl
    · rw [putL_ne z] at ha
      exact h6 j c ej hc a ha (List.mem_append_right _ hm)
theorem TF.upd {a : Addr} {o : HO} (h : (∃ vs, H a = some (.lst vs)) \/ ∃ kvs, H a = some (.dK kvs)) : TF H (upd H a o) := by
  refine ⟨fun b xs e => ?_, fun b p u e => ?_⟩
  · rw [upd_ne]
    · exact e
    · rintro rfl
      rcases h with ⟨_, h⟩ | ⟨_, h⟩ <;> rw [h] at e <;> cases e
  · rw [upd_ne]
    · exact e
    · rintro rfl
      rcases h with ⟨_, h⟩ | ⟨_, h⟩ <;> rw [h] at e <;> cases e
theorem Rep.upd {d : D} {v : V} {L : List Addr} {a : Addr} {o : HO} (r : Rep K H d v L) (h : (∃ vs, H a = some (.lst vs)) \/ ∃ kvs, H a = some (.dK kvs)) (n : a ∉ L) : Rep K (L2.upd H a o) d v L :=
  Rep.keep (TF.upd h) d v L r fun b hb => upd_ne fun z => n (z ▸ hb)
theorem Reps.upd {d : List D} {v : List V} {L : List Addr} {a : Addr} {o : HO} (r : Reps K H d v L) (h : (∃ vs, H a = some (.lst vs)) \/ ∃ kvs, H a = some (.dK kvs)) (n : a ∉ L) : Reps K (L2.upd H a o) d v L :=
  Reps.keep (TF.upd h) d v L r fun b hb => upd_ne fun z => n (z ▸ hb)
theorem Reps.set : ∀ {ds : List D} {vs : List V} {L : List Addr} {d : D} {v : V} {Le : List Addr} (j : Nat), Reps K H ds vs L -> Rep K H d v Le -> j < ds.length -> ∃ L2, Reps K H (ds.set j d) (vs.set j v) L2 /\ (∀ a ∈ L2, a ∈ L \/ a ∈ Le) /\ ((L ++ Le).Nodup -> L2.Nodup)
  | [], _, _, _, _, _, _, _, _, h => by simp at h
  | d :: ds, _, _, d', v', Le, 0, hq7, r, _ => by
    obtain ⟨v, vs', L1, L2, e1, e2, h1, h2⟩ := hq7
    subst e1 e2
    refine ⟨Le ++ L2, by simpa using Reps.cons r h2, fun a ha => ?_, fun n => ?_⟩
    · rcases List.mem_append.mp ha with z | z
      · exact .inr z
      · exact .inl (List.mem_append_right _ z)
    · obtain ⟨n1, n2, n3⟩ := List.nodup_append.mp n
      obtain ⟨m1, m2, m3⟩ := List.nodup_append.mp n1
      exact List.nodup_append.mpr ⟨n2, m2, fun a ha b hb z => n3 b (List.mem_append_right _ hb) a ha z.symm⟩
  | d :: ds, _, _, d', v', Le, j + 1, hq7, r, hj => by
    obtain ⟨v, vs', L1, L2, e1, e2, h1, h2⟩ := hq7
    subst e1 e2
    obtain ⟨L3, a1, a2, a3⟩ := Reps.set j h2 r (by simpa using hj)
    refine ⟨L1 ++ L3, by simpa using Reps.cons h1 a1, fun a ha => ?_, fun n => ?_⟩
    · rcases List.mem_append.mp ha with z | z
      · exact .inl (List.mem_append_left _ z)
      · rcases a2 a z with m | m
        · exact .inl (List.mem_append_right _ m)
        · exact .inr m
    · rw [List.append_assoc] at n
      obtain ⟨n1, n2, n3⟩ := List.nodup_append.mp n
      refine List.nodup_append.mpr ⟨n1, a3 n2, fun a ha b hb z => ?_⟩
      rcases a2 b hb with m | m
      · exact n3 a ha b (List.mem_append_left _ m) z
      · exact n3 a ha b (List.mem_append_right _ m) z
end
section
variable {X : Cx} {E : XK} {Γ Γ1 Γ' Γl : List Cl} {e a b : Expr} {es : List Expr} {t t' : Tn -> R D} {u : Tn -> R (List D)} {c : Rc} {pos : Pos}
noncomputable def sApp (i : Nat) (t : Tn -> R D) : Tn -> R Fl := fun τ => (eVar i τ).bind fun l => match l with
  | .lst ds => (t τ).bind fun d => if ds.length < sizeLine then .ok (.nx (τ.set i (some (.lst (ds ++ [d]))))) else .bad
  | _ => .bad
theorem ms_append {i : Nat} {x : Str} {p0 p1 p2 : Pos} (hN : X.N[i]? = some x) (h0 : Γ[i]? = some .own) (h : MV X E Γ e t Γ1) (hk : Γ1[i]? = some .own) (hv : Vis X.env.scope x) (hb : autoParam ((x == ("__debug__" : Str)) = false) L2.au1._auto_1) (hcd : autoParam ((x == ("__classdict__" : Str)) = false) L2.au1._auto_1)
    (hbase : autoParam (attributeBase (.Name x p0) "append" X.env (eval (.Name x p0) X.env) = eval (.Name x p0) X.env) L2.au3._auto_1)
    (hfew : autoParam (((backTo p2 (starEach [e] X.env)).all (fun x => !x.1) && (backToKw p2 (keywordEach [] X.env)).all (fun x => x.1.isSome) && decide ([e].length + ([] : List Keyword).length + (if ([] : List Keyword).isEmpty then 0 else 1) < 30)) = true) L2.au3._auto_1)
    (hline : autoParam ((p1.endLine == p2.line) = true) L2.au3._auto_1) (hs : autoParam (starEach [e] X.env = (false, eval e X.env) :: starEach [] X.env) L2.au3._auto_1) (hplain : autoParam ((backTo p2 (starEach [] X.env)).any (·.1) = false) L2.au3._auto_1)
    (hsw : autoParam (swapsWith (.Call (.Attribute (.Name x p0) "append" p1) [e] [] p2) none pos.line X.env = pure false) L2.au3._auto_1) :
    MS X E Γl Γ (.Expr (.Call (.Attribute (.Name x p0) "append" p1) [e] [] p2) pos) (sApp i t) Γ1 := by
  obtain ⟨te, p, q⟩ := h
  refine ⟨_, ps_expr (pe_bm PySem.F.plainAttrs_list PySem.F.slot_list_append PySem.F.type_list_append mt_append (pe_var (pos := p0) hN hv hb hcd) (pa_cons p pa_nil hs) hbase hfew hline hs hplain) hsw, fun B σ H τ Z ok h => ?_⟩
  obtain ⟨v, d, L, e1, e2, r, _⟩ := ok.slot h0
  refine ⟨v, e1, ?_⟩
  unfold sApp at h
  have ev : eVar i τ = .ok d := by unfold eVar; rw [e2]
  rw [ev, R.ok_bind] at h
  cases d with
  | lst ds =>
    obtain ⟨a, vs, L', rfl, ha, _, rs⟩ := r
    refine ⟨.inl ⟨rfl, vs, SqL.of ha⟩, q B σ H τ [] _ ok ?_⟩
    dsimp only at h
    cases ht : t τ with
    | ok d' =>
      rw [ht, R.ok_bind] at h
      refine fun y H1 Le s1 ry ok1 => ?_
      obtain ⟨v1, d1, L1, q1, q2, r1, n1, n2, fin⟩ := ok1.slot hk
      rw [e1] at q1
      cases q1
      rw [e2] at q2
      cases q2
      obtain ⟨a1, vs1, L1', z1, ha1, z2, rs1⟩ := r1
      cases z1
      subst z2
      have hl : vs1.length = ds.length := rs1.length
      by_cases hz : ds.length < sizeLine
      · rw [if_pos hz] at h
        have mu : (∃ vs, H1 a = some (.lst vs)) \/ ∃ kvs, H1 a = some (.dK kvs) := .inl ⟨_, ha1⟩
        have na : a ∉ Le := fun m => (n2 a List.mem_cons_self).2 (List.mem_append_left _ m)
        obtain ⟨m1, m2⟩ := List.nodup_cons.mp n1
        refine ⟨a, vs1, y, rfl, rfl, ha1, by lia, h _ _ (fin _ _ (a :: (L1' ++ Le)) Le [] rfl (TF.upd mu) (fun b hb _ => upd_ne fun z => hb (z ▸ List.mem_cons_self)) ?_ (fun b hb => ?_) ?_)⟩
        · refine ⟨a, vs1 ++ [y], L1' ++ Le, rfl, upd_same, rfl, Reps.append (rs1.upd mu m1) ?_⟩
          have := Reps.cons (ry.upd (o := .lst (vs1 ++ [y])) mu na) (Reps.nil (K := X.K) (H := upd H1 a (.lst (vs1 ++ [y]))))
          rw [List.append_nil] at this
          exact this
        · rcases List.mem_cons.mp hb with z | z
          · exact .inl (z ▸ List.mem_cons_self)
          · rcases List.mem_append.mp z with z | z
            · exact .inl (List.mem_cons_of_mem _ z)
            · exact .inr z
        · refine List.nodup_cons.mpr ⟨fun z => ?_, List.nodup_append.mpr ⟨m2, ?_, fun b hb b' hb' z => ?_⟩⟩
          · rcases List.mem_append.mp z with z | z
            · exact m1 z
            · exact na z
          · obtain ⟨_, _, _, _, w4, _⟩ := ok1.ex
            rw [List.append_nil] at w4
            exact w4
          · subst z
            exact (n2 b (List.mem_cons_of_mem _ hb)).2 (List.mem_append_left _ hb')
      · rw [if_neg hz] at h; exact h.elim
    | err n => rw [ht] at h; exact h
    | bad => rw [ht] at h; exact h
  | _ => exact h.elim
noncomputable def setD (ds : List D) (k : Int) (d : D) : R D := match ixN ds.length k with
  | some j => .ok (.lst (ds.set j d))
  | none => .bad
noncomputable def sPut (i : Nat) (t ti : Tn -> R D) : Tn -> R Fl := fun τ => (t τ).bind fun d => (eVar i τ).bind fun l => (ti τ).bind fun k => match l, k with
  | .lst ds, .int k => (setD ds k d).bind fun l' => .ok (.nx (τ.set i (some l')))
  | _, _ => .bad
theorem ms_put {i : Nat} {x : Str} {p0 p1 : Pos} {ix : Expr} {ti : Tn -> R D} (hN : X.N[i]? = some x) (h : MV X E Γ e t Γ1) (hi : ME X E Γ1 ix ti c) (hk : Γ1[i]? = some .own) (hv : Vis X.env.scope x) (hb : autoParam ((x == ("__debug__" : Str)) = false) L2.au1._auto_1) (hcd : autoParam ((x == ("__classdict__" : Str)) = false) L2.au1._auto_1)
    (ha : autoParam (∀ v, assign (.Subscript (.Name x p0) ix p1) X.env v = (do
      let ov <- holding [v] (eval (.Name x p0) X.env)
      let iv <- holding [v, ov] (eval ix X.env)
      standAt p1
      holding [v, ov, iv] (setItem ov iv v)
      release [v, ov, iv] [])) L2.au2._auto_1)
    (hs : autoParam (swapsWithSole [.Subscript (.Name x p0) ix p1] e pos.line X.env = pure false) L2.au3._auto_1) (hw : autoParam (swappedStores [.Subscript (.Name x p0) ix p1] e X.env = pure none) L2.au3._auto_1)
    (h1 : autoParam ((assignEach [.Subscript (.Name x p0) ix p1] X.env).map (·.2) = [assign (.Subscript (.Name x p0) ix p1) X.env]) L2.au3._auto_1) :
    MS X E Γl Γ (.Assign [.Subscript (.Name x p0) ix p1] e pos) (sPut i t ti) Γ1 := by
  obtain ⟨te, p, q⟩ := h
  obtain ⟨te', p', q'⟩ := hi
  refine ⟨_, ps_asg p (pg_sub (pe_var (pos := p0) hN hv hb hcd) p' set_list ha) hs hw h1, fun B σ H τ Z ok h => q B σ H τ [] _ ok ?_⟩
  unfold sPut at h
  cases ht : t τ with
  | ok d' =>
    rw [ht, R.ok_bind] at h
    refine fun y H1 Le s1 ry ok1 => ?_
    obtain ⟨v1, d1, L1, q1, q2, r1, n1, n2, _⟩ := ok1.slot hk
    refine ⟨v1, q1, ?_⟩
    have ev : eVar i τ = .ok d1 := by unfold eVar; rw [q2]
    rw [ev, R.ok_bind] at h
    obtain ⟨O, eo, _⟩ := ok1.eok
    refine q' O σ H1 τ _ eo ?_
    cases hk' : ti τ with
    | ok dk =>
      rw [hk', R.ok_bind] at h
      refine fun kv H2 Lk s2 rk _ => ?_
      have ok2 := ok1.same s2
      obtain ⟨v2, d2, L2, q3, q4, r2, m1, m2, fin⟩ := ok2.slot hk
      rw [q1] at q3
      cases q3
      rw [q2] at q4
      cases q4
      cases d1 with
      | lst ds =>
        cases dk with
        | int k =>
          obtain ⟨a, vs, L', rfl, ha2, z2, rs⟩ := r2
          subst z2
          dsimp only at h
          unfold setD at h
          cases hj : ixN ds.length k with
          | none => rw [hj] at h; exact h.elim
          | some j =>
            rw [hj] at h
            have hjl : j < ds.length := (ixN_seq hj).2.1
            have mu : (∃ vs, H2 a = some (.lst vs)) \/ ∃ kvs, H2 a = some (.dK kvs) := .inl ⟨_, ha2⟩
            have na : a ∉ Le := fun m => (m2 a List.mem_cons_self).2 (List.mem_append_left _ m)
            obtain ⟨w1, w2⟩ := List.nodup_cons.mp m1
            have nLe : Le.Nodup := by
              obtain ⟨_, _, _, _, w4, _⟩ := ok1.ex
              rw [List.append_nil] at w4
              exact w4
            have r3 := (ry.same s2).upd (o := .lst (vs.set j y)) mu na
            obtain ⟨L3, a1, a2, a3⟩ := Reps.set j (rs.upd (o := .lst (vs.set j y)) mu w1) r3 hjl
            refine ⟨a, vs, k, j, rfl, rk.1, ha2, by rw [rs.length]; exact hj, h _ _ (fin _ _ (a :: L3) Le [] rfl (TF.upd mu) (fun b hb _ => upd_ne fun z => hb (z ▸ List.mem_cons_self)) ⟨a, _, L3, rfl, upd_same, rfl, a1⟩ (fun b hb => ?_) ?_)⟩
            · rcases List.mem_cons.mp hb with z | z
              · exact .inl (z ▸ List.mem_cons_self)
              · rcases a2 b z with z | z
                · exact .inl (List.mem_cons_of_mem _ z)
                · exact .inr z
            · refine List.nodup_cons.mpr ⟨fun z => ?_, a3 (List.nodup_append.mpr ⟨w2, nLe, fun b hb b' hb' z => ?_⟩)⟩
              · rcases a2 a z with z | z
                · exact w1 z
                · exact na z
              · subst z
                exact (m2 b (List.mem_cons_of_mem _ hb)).2 (List.mem_append_left _ hb')
        | _ => exact h.elim
      | _ => exact h.elim
    | err n => rw [hk'] at h; exact fun C H' e s => h C H' e (ok1.ext.trans s)
    | bad => rw [hk'] at h; exact h
  | err n => rw [ht] at h; exact h
  | bad => rw [ht] at h; exact h
end
end L2
set_option maxRecDepth 100000
set_option maxHeartbeats 4000000
namespace L2
open PySem PySem.Spec PyProof.Rows
section
variable {K : PySem.W.Frag} {Γ Γ' : List Cl} {B B' H H1 : Hp} {σ : St} {τ : Tn} {T : List Addr}
theorem SOk.rebase (h : SOk K Γ B' H σ τ T) (s : Same B B') : SOk K Γ B H σ τ T := by
  obtain ⟨Ls, h1, h2, h3, h4, h5, h6⟩ := h.ex
  exact ⟨s.trans h.ext, h.lσ, h.lτ, Ls, h1, fun i e => ⟨(h2 i e).1, fun a ha => s.non ((h2 i e).2 a ha)⟩, h3, h4, fun a ha => ⟨s.non (h5 a ha).1, (h5 a ha).2⟩, h6⟩
open Classical in
theorem SOk.base (h : SOk K Γ B H σ τ []) : ∃ O : Addr -> Prop, EOk K Γ O H σ τ /\ (∀ a, O a -> (∃ vs, H a = some (.lst vs)) \/ ∃ kvs, H a = some (.dK kvs)) /\
    ∀ H1, Same H H1 -> ∃ B1, Same B B1 /\ SOk K Γ B1 H1 σ τ [] /\ ∀ a, ¬ O a -> B1 a = H1 a := by
  obtain ⟨Ls, h1, h2, h3, h4, h5, h6⟩ := h.ex
  refine ⟨fun a => ∃ i, Γ[i]? = some .own /\ a ∈ Ls i, ⟨fun a ⟨i, e, ha⟩ => ?_, fun i c e hc => ?_⟩, fun a ⟨i, e, ha⟩ => ?_, fun H1 s1 => ⟨fun a => if (∃ i, Γ[i]? = some .own /\ a ∈ Ls i) then none else H1 a, fun b o q => ?_, ⟨fun b o q => ?_, h.lσ, h.lτ, Ls, fun i c e hc => ?_, fun i e => ⟨(h2 i e).1, fun a ha => if_pos ⟨i, e, ha⟩⟩, h3, h4, fun a ha => (nomatch ha), h6⟩, fun a n => if_neg n⟩⟩
  · obtain ⟨v, d, _, _, r⟩ := h1 i _ e (by simp)
    exact r.there ha
  · obtain ⟨v, d, e1, e2, r⟩ := h1 i c e hc
    refine ⟨v, d, Ls i, e1, e2, r, fun z a ha ⟨j, ej, hj⟩ => ?_⟩
    subst z
    have hij : j ≠ i := fun z => by subst z; rw [e] at ej; cases ej
    exact h3 j i _ hij ej e (by simp) a hj ha
  · obtain ⟨v, d, _, _, r⟩ := h1 i _ e (by simp)
    exact Rep.dom d v _ r a ha
  · show (if (∃ i, Γ[i]? = some .own /\ b ∈ Ls i) then none else H1 b) = some o
    rw [if_neg]
    · exact s1 b o (h.ext b o q)
    · rintro ⟨i, e, hb⟩
      rw [(h2 i e).2 b hb] at q; cases q
  · have q : (if (∃ i, Γ[i]? = some .own /\ b ∈ Ls i) then none else H1 b) = some o := q
    by_cases z : ∃ i, Γ[i]? = some .own /\ b ∈ Ls i
    · rw [if_pos z] at q; cases q
    · rw [if_neg z] at q; exact q
  · obtain ⟨v, d, e1, e2, r⟩ := h1 i c e hc
    exact ⟨v, d, e1, e2, r.same s1⟩
theorem SOk.shrIn {i : Nat} {d : D} {v : V} {L : List Addr} (h : SOk K Γ B H σ τ []) (r : Rep K H d v L) (hL : ∀ a ∈ L, B a ≠ none) (hi : i < Γ.length) : SOk K (Γ.set i .shr) B H (σ.set i (some v)) (τ.set i (some d)) [] := by
  obtain ⟨Ls, h1, h2, h3, h4, h5, h6⟩ := h.ex
  exact SOk.intoS h.ext h.lσ h.lτ h1 h2 h3 (fun j e a ha hm => hL a hm ((h2 j e).2 a ha)) r hi
end
noncomputable def setAll {α : Type} : List (Option α) -> List Nat -> List α -> List (Option α)
  | σ, i :: is, v :: vs => setAll (σ.set i (some v)) is vs
  | σ, _, _ => σ
noncomputable def shrAll : List Cl -> List Nat -> List Cl
  | Γ, [] => Γ
  | Γ, i :: is => shrAll (Γ.set i .shr) is
theorem SOk.shrAll {K : PySem.W.Frag} {B H : Hp} {Γ : List Cl} {σ : St} {τ : Tn} {is : List Nat} {ds : List D} {vs : List V} {L : List Addr} (h : SOk K Γ B H σ τ []) (r : Reps K H ds vs L) (hL : ∀ a ∈ L, B a ≠ none) (hl : ds.length = is.length) (hi : ∀ i ∈ is, i < Γ.length) :
    SOk K (L2.shrAll Γ is) B H (setAll σ is vs) (setAll τ is ds) [] := by
  induction is generalizing Γ σ τ ds vs L with
  | nil =>
    cases ds with
    | nil => cases r.1; exact h
    | cons => cases hl
  | cons i is ih =>
    cases ds with
    | nil => cases hl
    | cons d ds =>
      obtain ⟨v, vs', La, Lb, e1, e2, r1, r2⟩ := r
      subst e1 e2
      exact ih (h.shrIn r1 (fun a ha => hL a (List.mem_append_left _ ha)) (hi i List.mem_cons_self)) r2 (fun a ha => hL a (List.mem_append_right _ ha)) (Nat.succ.inj hl) (fun j hj => by rw [List.length_set]; exact hi j (List.mem_cons_of_mem _ hj))
noncomputable def ItOk (K : PySem.W.Frag) (J : It) (ds : List D) (L : List Addr) (H : Hp) : Prop := (∀ a ∈ L, H a ≠ none) /\ ∀ H', TF H H' -> (∀ a ∈ L, H' a = H a) -> ∀ i,
  (∀ d, ds[i]? = some d -> J.go i H' /\ ∀ x H'', J.yld i H' x H'' -> Same H' H'' /\ ∃ L', Rep K H'' d x L' /\ ∀ a ∈ L', a ∈ L) /\ (ds.length <= i -> J.stop i H')
noncomputable def postI (K : PySem.W.Frag) (E : XK) (O : Addr -> Prop) (c : Rc) (H : Hp) (Rr : It -> Hp -> Prop) : R (List D) -> Prop
  | .ok ds => ∀ J H' L, Same H H' -> ItOk K J ds L H' -> (c ≠ .bor -> ∀ a ∈ L, ¬ O a) -> Rr J H'
  | .err n => ∀ C H', ErrC K n C -> Same H H' -> E (.ref C) none H'
  | .bad => False
noncomputable def MI (X : Cx) (E : XK) (Γ : List Cl) (tg iter : Expr) (t : Tn -> R (List D)) (c : Rc) : Prop :=
  ∃ wi, PI X tg iter wi /\ ∀ O σ H τ Rr, EOk X.K Γ O H σ τ -> postI X.K E O c H Rr (t τ) -> wi σ H Rr
inductive Tgt where
  | one (i : Nat) | many (is : List Nat)
noncomputable def Tgt.slots : Tgt -> List Nat
  | .one i => [i]
  | .many is => is
noncomputable def Tgt.asg : Tgt -> D -> Tn -> R Tn
  | .one i, d, τ => .ok (τ.set i (some d))
  | .many is, .tup ds, τ => if ds.length = is.length then .ok (setAll τ is ds) else .bad
  | .many _, _, _ => .bad
noncomputable def MG (X : Cx) (tg : Expr) : Tgt -> Prop
  | .one i => PG X tg (gName i)
  | .many is => ∃ g, PG X tg (gTup X.K is.length g) /\ ∀ (vs : List V) (σ : St) (H : Hp) (Q : St -> Hp -> Prop), vs.length = is.length -> Q (setAll σ is vs) H -> g vs σ H Q
noncomputable def forGo (asg : D -> Tn -> R Tn) (body : Tn -> R Fl) : List D -> Tn -> R Fl
  | [], τ => .ok (.nx τ)
  | d :: ds, τ => (asg d τ).bind fun τ1 => (body τ1).bind fun f => match f with
    | .nx τ2 => forGo asg body ds τ2
    | .ct τ2 => forGo asg body ds τ2
    | .bk τ2 => .ok (.nx τ2)
    | .rt r => .ok (.rt r)
noncomputable def sFor (it : Tn -> R (List D)) (tg : Tgt) (body : Tn -> R Fl) : Tn -> R Fl := fun τ => (it τ).bind fun ds => forGo tg.asg body ds τ
section
variable {X : Cx} {E : XK} {Γ Γ1 Γ2 Γ' Γl : List Cl} {pos : Pos}
noncomputable def tgG (K : PySem.W.Frag) (g : Tgt) : TG := fun v σ H Q => match g with
  | .one i => Q (σ.set i (some v)) H
  | .many is => ∃ a vs, v = .ref a /\ SqT K H a vs /\ vs.length = is.length /\ Q (setAll σ is vs) H
theorem MG.pg {tg : Expr} {g : Tgt} (h : MG X tg g) : PG X tg (tgG X.K g) := by
  cases g with
  | one i => exact h
  | many is =>
    obtain ⟨G, p, q⟩ := h
    rintro pins s σ H v u Q I r ⟨a, vs, e, hs, hl, z⟩
    exact p pins s σ H v u Q I r ⟨a, vs, e, hs, hl, q vs σ H Q hl z⟩
theorem tgG_in {K : PySem.W.Frag} {B H : Hp} {σ : St} {τ τ1 : Tn} {d : D} {v : V} {L : List Addr} {g : Tgt} (h : SOk K Γ B H σ τ []) (r : Rep K H d v L) (hL : ∀ a ∈ L, B a ≠ none) (hi : ∀ i ∈ g.slots, i < Γ.length) (ha : g.asg d τ = .ok τ1)
    {Q : St -> Hp -> Prop} (k : ∀ σ1, SOk K (L2.shrAll Γ g.slots) B H σ1 τ1 [] -> Q σ1 H) : tgG K g v σ H Q := by
  cases g with
  | one i => cases ha; exact k _ (h.shrIn r hL (hi i (by simp [Tgt.slots])))
  | many is =>
    cases d with
    | tup ds =>
      unfold Tgt.asg at ha
      dsimp only at ha
      by_cases hl : ds.length = is.length
      · rw [if_pos hl] at ha
        cases ha
        obtain ⟨a, vs, rfl, hs, rs⟩ := r
        have hv : vs.length = is.length := rs.length.trans hl
        exact ⟨a, vs, rfl, hs, hv, k _ (h.shrAll rs hL hl hi)⟩
      · rw [if_neg hl] at ha; cases ha
    | _ => cases ha
theorem for_q {it : Tn -> R (List D)} {g : Tgt} {tb : Tn -> R Fl} {c : Rc} {wi : TI} {ts : TS} (hcl : c ≠ .bor) (hn : ∀ i ∈ g.slots, i < Γ.length) (hw : wk Γ2 Γ = true) (q : ∀ O σ H τ Rr, EOk X.K Γ O H σ τ -> postI X.K E O c H Rr (it τ) -> wi σ H Rr) (q' : ∀ B σ H τ Z, SOk X.K (shrAll Γ g.slots) B H σ τ [] -> postS X.K E B Γ Γ2 Z (tb τ) -> ts Z σ H)
    (B : Hp) (σ : St) (H : Hp) (τ : Tn) (Z : Ends) (ok : SOk X.K Γ B H σ τ []) (h : postS X.K E B Γl Γ Z (sFor it g tb τ)) : tFor wi (tgG X.K g) ts Z σ H := by
  obtain ⟨O, eo, Od, hB⟩ := ok.base
  refine q O σ H τ _ eo ?_
  unfold sFor at h
  cases ht : it τ with
  | ok ds =>
    rw [ht, R.ok_bind] at h
    refine fun J H1 L s1 hit hO => ?_
    have hO := hO hcl
    obtain ⟨hLd, hit⟩ := hit
    obtain ⟨B1, sB, ok1, hB1⟩ := hB H1 s1
    have inL : ∀ a ∈ L, B1 a = H1 a := fun a ha => hB1 a (hO a ha)
    have Od1 : ∀ a, O a -> (∃ vs, H1 a = some (.lst vs)) \/ ∃ kvs, H1 a = some (.dK kvs) := fun a o => by
      rcases Od a o with ⟨vs, e⟩ | ⟨kvs, e⟩
      · exact .inl ⟨vs, s1 _ _ e⟩
      · exact .inr ⟨kvs, s1 _ _ e⟩
    have stay : ∀ H2, Same B1 H2 -> TF H1 H2 /\ ∀ a ∈ L, H2 a = H1 a := fun H2 s2 => by
      refine ⟨⟨fun a xs e => ?_, fun a o u e => ?_⟩, fun a ha => ?_⟩
      · refine s2 a _ ((hB1 a fun z => ?_).trans e)
        rcases Od1 a z with ⟨_, w⟩ | ⟨_, w⟩ <;> rw [e] at w <;> cases w
      · refine s2 a _ ((hB1 a fun z => ?_).trans e)
        rcases Od1 a z with ⟨_, w⟩ | ⟨_, w⟩ <;> rw [e] at w <;> cases w
      · rw [s2.at (by rw [inL a ha]; exact hLd a ha), inL a ha]
    refine ⟨fun i m σ2 H2 => m = ds.length - i /\ i <= ds.length /\ ∃ τ2, SOk X.K Γ B1 H2 σ2 τ2 [] /\ postS X.K E B Γl Γ Z (forGo g.asg tb (ds.drop i) τ2), ⟨ds.length, by simp, Nat.zero_le _, τ, ok1, h⟩, ?_⟩
    rintro i m σ2 H2 ⟨rfl, hile, τ2, ok2, h2⟩
    obtain ⟨tf, kp⟩ := stay H2 ok2.ext
    obtain ⟨go, stop⟩ := hit H2 tf kp i
    by_cases hlt : i < ds.length
    · obtain ⟨hgo, hy⟩ := go ds[i] (by simp [hlt])
      rw [List.drop_eq_getElem_cons hlt] at h2
      refine .inr ⟨hgo, fun σ' H' => i + 1 <= ds.length /\ ∃ τ', SOk X.K Γ B1 H' σ' τ' [] /\ postS X.K E B Γl Γ Z (forGo g.asg tb (ds.drop (i + 1)) τ'), fun σ' H' ⟨z, w⟩ => ⟨ds.length - (i + 1), by omega, rfl, z, w⟩, fun x H3 y => ?_⟩
      obtain ⟨s3, L', r', sub⟩ := hy x H3 y
      unfold forGo at h2
      cases ha : g.asg ds[i] τ2 with
      | ok τ3 =>
        rw [ha, R.ok_bind] at h2
        refine tgG_in (ok2.same s3) r' (fun a ha => by rw [inL a (sub a ha)]; exact hLd a (sub a ha)) hn ha fun σ3 ok3 => ?_
        refine q' B1 σ3 H3 τ3 _ ok3 ?_
        cases hb : tb τ3 with
        | ok f =>
          rw [hb, R.ok_bind] at h2
          cases f with
          | nx τ4 => exact fun σ' H' ok4 => ⟨hlt, τ4, ok4.weak hw, h2⟩
          | ct τ4 => exact fun σ' H' ok4 => ⟨hlt, τ4, ok4, h2⟩
          | bk τ4 => exact fun σ' H' ok4 => h2 σ' H' (ok4.rebase sB)
          | rt d => exact fun v H' L s r n1 n2 => h2 v H' L (sB.trans s) r n1 fun a ha => sB.non (n2 a ha)
        | err n => rw [hb] at h2; exact fun C H' e s => h2 C H' e (sB.trans s)
        | bad => rw [hb] at h2; exact h2
      | err n =>
        cases g with
        | one i => cases ha
        | many is =>
          unfold Tgt.asg at ha
          split at ha
          · cases ha
          · split at ha <;> cases ha
          · cases ha
      | bad => rw [ha] at h2; exact h2.elim
    · have e : i = ds.length := by omega
      subst e
      rw [List.drop_length] at h2
      exact .inl ⟨stop (Nat.le_refl _), h2 σ2 H2 (ok2.rebase sB)⟩
  | err n => rw [ht] at h; exact fun C H' e s => h C H' e (ok.ext.trans s)
  | bad => rw [ht] at h; exact h
theorem ms_for {tg iter : Expr} {body : List Stmt} {it : Tn -> R (List D)} {g : Tgt} {tb : Tn -> R Fl} {c : Rc} (hp : PassesOwn (model X.prog X.w) X.A X.env X.xe) (hc : X.calm = true) (hi : MI X E Γ tg iter it c) (hcl : c ≠ .bor) (hg : MG X tg g)
    (hn : ∀ i ∈ g.slots, i < Γ.length) (hb : MSs X E Γ (shrAll Γ g.slots) body tb Γ2) (hw : wk Γ2 Γ = true) (hs : autoParam (∀ x, foldedSetIterable iter X.env x = pure x) L2.au2._auto_1) : MS X E Γl Γ (.For tg iter body [] pos) (sFor it g tb) Γ := by
  obtain ⟨wi, p, q⟩ := hi
  obtain ⟨ts, p', q'⟩ := hb
  exact ⟨_, ps_for hp hc p hg.pg p' hs, for_q hcl hn hw q q'⟩
open Classical in
end
end L2
set_option maxRecDepth 100000
set_option maxHeartbeats 4000000
namespace L2
open PySem PySem.Spec PyProof.Rows
noncomputable def signs (x : Str) : List D := x.cps.toList.map fun c => .str ⟨#[c]⟩
noncomputable def asSeq : D -> R (List D)
  | .lst ds => .ok ds
  | .tup ds => .ok ds
  | .str x => .ok (signs x)
  | _ => .bad
noncomputable def iSeq (t : Tn -> R D) : Tn -> R (List D) := fun τ => (t τ).bind asSeq
noncomputable def rng (lo : Int) (n : Nat) : List D := (List.range n).map fun (i : Nat) => .int (lo + i)
noncomputable def rng1 : List D -> R (List D)
  | [.int j] => if -(2 ^ 62) <= j /\ j < 2 ^ 62 then .ok (rng 0 j.toNat) else .bad
  | _ => .bad
noncomputable def iL (g : List D -> R (List D)) (u : Tn -> R (List D)) : Tn -> R (List D) := fun τ => (u τ).bind g
section
variable {X : Cx} {E : XK} {Γ : List Cl} {tg e : Expr} {t : Tn -> R D} {u : Tn -> R (List D)} {c : Rc} {p pos : Pos}
theorem ItOk.list {K : PySem.W.Frag} {H : Hp} {a : Addr} {vs : List V} {ds : List D} {L L' : List Addr} (ha : H a = some (.lst vs)) (e : L = a :: L') (r : Reps K H ds vs L') : ItOk K (Itl K a) ds L H := by
  subst e
  refine ⟨fun b hb => ?_, fun H' tf kp i => ⟨fun d hd => ?_, fun hl => ?_⟩⟩
  · rcases List.mem_cons.mp hb with z | z
    · rw [z, ha]; simp
    · exact r.there z
  · have ha' : H' a = some (.lst vs) := (kp a List.mem_cons_self).trans ha
    obtain ⟨v, L1, e1, r1, sub⟩ := r.get hd
    refine ⟨⟨vs, v, SqL.of ha', e1⟩, fun x H'' ⟨e2, hy⟩ => ?_⟩
    subst e2
    have := hy vs (SqL.of ha')
    rw [e1] at this
    cases this
    exact ⟨Same.refl _, L1, Rep.keep tf d _ L1 r1 fun b hb => kp b (List.mem_cons_of_mem _ (sub.subset hb)), fun b hb => List.mem_cons_of_mem _ (sub.subset hb)⟩
  · have ha' : H' a = some (.lst vs) := (kp a List.mem_cons_self).trans ha
    exact ⟨vs, SqL.of ha', by rw [r.length]; exact hl⟩
theorem ItOk.tuple {K : PySem.W.Frag} {H : Hp} {a : Addr} {vs : List V} {ds : List D} {L : List Addr} (ha : SqT K H a vs) (hun : ∀ H' xs, TF H H' -> SqT K H' a xs -> xs = vs) (r : Reps K H ds vs L) : ItOk K (Itt K a) ds L H := by
  refine ⟨fun b hb => r.there hb, fun H' tf kp i => ⟨fun d hd => ?_, fun hl => ?_⟩⟩
  · have ha' := ha.tf tf
    obtain ⟨v, L1, e1, r1, sub⟩ := r.get hd
    refine ⟨⟨vs, v, ha', e1⟩, fun x H'' ⟨e2, hy⟩ => ?_⟩
    subst e2
    have := hy vs ha'
    rw [e1] at this
    cases this
    exact ⟨Same.refl _, L1, Rep.keep tf d _ L1 r1 fun b hb => kp b (sub.subset hb), fun b hb => sub.subset hb⟩
  · exact ⟨vs, ha.tf tf, by rw [r.length]; exact hl⟩
theorem ItOk.tup {K : PySem.W.Frag} {H : Hp} {a : Addr} {vs : List V} {ds : List D} {L : List Addr} (ha : SqT K H a vs) (r : Reps K H ds vs L) : ItOk K (Itt K a) ds L H := by
  refine ⟨fun b hb => r.there hb, fun H' tf kp i => ⟨fun d hd => ?_, fun hl => ?_⟩⟩
  · have ha' := ha.tf tf
    obtain ⟨v, L1, e1, r1, sub⟩ := r.get hd
    refine ⟨⟨vs, v, ha', e1⟩, fun x H'' ⟨e2, hy⟩ => ?_⟩
    subst e2
    have := hy vs ha'
    rw [e1] at this
    cases this
    exact ⟨Same.refl _, L1, Rep.keep tf d _ L1 r1 fun b hb => kp b (sub.subset hb), fun b hb => sub.subset hb⟩
  · exact ⟨vs, ha.tf tf, by rw [r.length]; exact hl⟩
theorem ItOk.str {K : PySem.W.Frag} {H : Hp} {x : Str} : ItOk K (Its x) (signs x) [] H := by
  refine ⟨fun b hb => (nomatch hb), fun H' tf kp i => ⟨fun d hd => ?_, fun hl => ?_⟩⟩
  · unfold signs at hd
    rw [List.getElem?_map] at hd
    cases hq : x.cps.toList[i]? with
    | none => rw [hq] at hd; cases hd
    | some k =>
      rw [hq] at hd
      have hd : D.str ⟨#[k]⟩ = d := Option.some.inj hd
      subst hd
      have hi : i < x.cps.size := by
        have := (List.getElem?_eq_some_iff.mp hq).1
        simpa using this
      refine ⟨hi, fun y H'' ⟨e2, c', e3, e4⟩ => ?_⟩
      subst e2 e4
      rw [<- Array.getElem?_toList, hq] at e3
      cases e3
      exact ⟨Same.refl _, [], ⟨rfl, rfl⟩, fun b hb => (nomatch hb)⟩
  · have : (signs x).length = x.cps.size := by simp [signs]
    show x.cps.size <= i
    lia
theorem ItOk.rng {K : PySem.W.Frag} {H : Hp} {lo : Int} {n : Nat} : ItOk K (Itr lo n) (L2.rng lo n) [] H := by
  refine ⟨fun b hb => (nomatch hb), fun H' tf kp i => ⟨fun d hd => ?_, fun hl => ?_⟩⟩
  · unfold L2.rng at hd
    rw [List.getElem?_map] at hd
    by_cases hi : i < n
    · rw [List.getElem?_range hi] at hd
      have hd : D.int (lo + (i : Int)) = d := Option.some.inj hd
      subst hd
      refine ⟨hi, fun y H'' ⟨e2, e3⟩ => ?_⟩
      subst e2 e3
      exact ⟨Same.refl _, [], ⟨rfl, rfl⟩, fun b hb => (nomatch hb)⟩
    · rw [List.getElem?_eq_none (by simp; lia)] at hd; cases hd
  · have : (L2.rng lo n).length = n := by simp [L2.rng]
    show n <= i
    lia
theorem mi_seq (h : ME X E Γ e t c) : MI X E Γ tg e (iSeq t) c := by
  obtain ⟨te, p, q⟩ := h
  refine ⟨fun σ H Rr => iList X.K te σ H Rr \/ iTup X.K te σ H Rr \/ iStr te σ H Rr, fun pins s σ H Rr I z => ?_, fun O σ H τ Rr ok h => ?_⟩
  · rcases z with z | z | z
    · exact pi_list p pins s σ H Rr I z
    · exact pi_tup p pins s σ H Rr I z
    · exact pi_str p pins s σ H Rr I z
  · unfold iSeq at h
    cases ht : t τ with
    | ok d =>
      rw [ht, R.ok_bind] at h
      cases d with
      | lst ds =>
        refine .inl (q O σ H τ _ ok ?_)
        rw [ht]
        refine fun v H1 L s r k => ?_
        obtain ⟨a, vs, L', rfl, ha, e, rs⟩ := r
        exact ⟨a, rfl, ⟨vs, SqL.of ha⟩, h _ H1 L s (ItOk.list ha e rs) fun n => k.shr ok.dom n⟩
      | tup ds =>
        refine .inr (.inl (q O σ H τ _ ok ?_))
        rw [ht]
        refine fun v H1 L s r k => ?_
        obtain ⟨a, vs, rfl, ha, rs⟩ := r
        exact ⟨a, rfl, ⟨vs, ha⟩, h _ H1 L s (ItOk.tup ha rs) fun n => k.shr ok.dom n⟩
      | str x =>
        refine .inr (.inr (q O σ H τ _ ok ?_))
        rw [ht]
        refine fun v H1 L s r k => ?_
        exact ⟨x, r.1, h _ H1 [] s ItOk.str fun n a ha => (nomatch ha)⟩
      | _ => exact h.elim
    | err n =>
      rw [ht] at h
      refine .inl (q O σ H τ _ ok ?_)
      rw [ht]; exact h
    | bad => rw [ht] at h; exact h.elim
theorem mi_range1 {a : Expr} (hg : Gl X "range") (hm : X.mg "range" = none) (ha : MA X E Γ [a] u c) (hs : autoParam (starEach [a] X.env = [(false, eval a X.env)]) L2.au3._auto_1) : MI X E Γ tg (.Call (.Name "range" p) [a] [] pos) (iL rng1 u) .fresh := by
  obtain ⟨_, ta, p', q⟩ := ha
  refine ⟨_, pi_range1 hg hm p' hs, fun O σ H τ Rr ok h => q O σ H τ _ ok ?_⟩
  unfold iL at h
  cases ht : u τ with
  | ok ds =>
    rw [ht, R.ok_bind] at h
    refine fun vs H1 L s r k => ?_
    unfold rng1 at h
    split at h
    · rename_i j
      obtain ⟨v, vs', L1, L2, e1, _, r1, r2⟩ := r
      obtain ⟨rfl, _⟩ := r1
      obtain ⟨rfl, _⟩ := r2
      by_cases hj : -(2 ^ 62) <= j /\ j < 2 ^ 62
      · rw [if_pos hj] at h
        exact ⟨j, e1, hj.1, hj.2, h _ H1 [] s ItOk.rng fun n a ha => (nomatch ha)⟩
      · rw [if_neg hj] at h; exact h.elim
    · exact h.elim
  | err n => rw [ht] at h; exact h
  | bad => rw [ht] at h; exact h
end
noncomputable def compT (fr : List (Option Nat)) (τ : Tn) : Tn := fr.map fun o => o.bind fun i => (τ[i]?).join
noncomputable def compC (fr : List (Option Nat)) (Γ : List Cl) : List Cl := fr.map fun o => match o with
  | some i => (match Γ[i]? with
    | some .shr => .shr
    | some .own => .brw
    | some .brw => .brw
    | _ => .dead)
  | none => .dead
noncomputable def clsAll (k : Cl) : List Cl -> List Nat -> List Cl
  | Γ, [] => Γ
  | Γ, i :: is => clsAll k (Γ.set i k) is
noncomputable def Cl.ofIt : Rc -> Cl
  | .bor => .brw
  | _ => .shr
noncomputable def compL (f : D -> R (Option D)) : List D -> R (List D)
  | [] => .ok []
  | d :: ds => (f d).bind fun o => (compL f ds).bind fun ys => .ok (o.toList ++ ys)
noncomputable def noErr {α : Type} : R α -> R α
  | .err _ => .bad
  | r => r
noncomputable def compF (asg : D -> Tn -> R Tn) (cnd : Tn -> R Bool) (elt : Tn -> R D) (τ : Tn) (d : D) : R (Option D) :=
  noErr ((asg d τ).bind fun τ1 => (cnd τ1).bind fun k => if k = true then (elt τ1).bind fun y => .ok (some y) else .ok none)
noncomputable def eComp (fr : List (Option Nat)) (it : Tn -> R (List D)) (g : Tgt) (cnd : Tn -> R Bool) (elt : Tn -> R D) : Tn -> R D := fun τ => (it τ).bind fun xs => (compL (compF g.asg cnd elt (compT fr τ)) xs).bind fun ys => if ys.length <= sizeLine then .ok (.lst ys) else .bad
noncomputable def MTs (X : Cx) (E : XK) (Γ : List Cl) (ifs : List Expr) (t : Tn -> R Bool) : Prop :=
  ∃ te, PTs X ifs te /\ ∀ O σ H τ Q, EOk X.K Γ O H σ τ -> postB X.K E H Q (t τ) -> te σ H Q
theorem mts_nil {X : Cx} {E : XK} {Γ : List Cl} : MTs X E Γ [] (fun _ => .ok true) := ⟨tYes, pts_nil, fun O σ H τ Q ok h => h H (Same.refl H)⟩
theorem MTs.pts {X : Cx} {E : XK} {Γ : List Cl} {e : List Expr} {t : Tn -> R Bool} (h : MTs X E Γ e t) : PTs X e (wpT X.K E Γ t) := by
  obtain ⟨te, p, q⟩ := h
  rintro pins s σ H Q I ⟨O, τ, ok, z⟩
  exact p pins s σ H Q I (q O σ H τ Q ok z)
section
variable {K : PySem.W.Frag} {Γ : List Cl} {O : Addr -> Prop} {H : Hp} {σ : St} {τ : Tn}
theorem EOk.comp {fr : List (Option Nat)} (h : EOk K Γ O H σ τ) : EOk K (compC fr Γ) O H (compSt fr σ) (compT fr τ) := by
  refine ⟨h.dom, fun j c e hc => ?_⟩
  unfold compC at e
  rw [List.getElem?_map] at e
  cases ho : fr[j]? with
  | none => rw [ho] at e; cases e
  | some o =>
    rw [ho] at e
    cases o with
    | none => exact absurd (Option.some.inj e).symm hc
    | some i =>
      have e : (match Γ[i]? with | some .shr => Cl.shr | some .own => .brw | some .brw => .brw | _ => .dead) = c := Option.some.inj e
      have key : ∃ k, Γ[i]? = some k /\ k ≠ .dead /\ (c = .shr -> k = .shr) := by
        cases hk : Γ[i]? with
        | none => rw [hk] at e; exact absurd e.symm hc
        | some k =>
          rw [hk] at e
          cases k with
          | own => subst e; exact ⟨_, rfl, by simp, fun z => by cases z⟩
          | shr => exact ⟨_, rfl, by simp, fun _ => rfl⟩
          | brw => subst e; exact ⟨_, rfl, by simp, fun z => by cases z⟩
          | dead => exact absurd e.symm hc
      obtain ⟨k, k1, k2, k3⟩ := key
      obtain ⟨v, d, L, e1, e2, r, hs⟩ := h.slot i k k1 k2
      refine ⟨v, d, L, ?_, ?_, r, fun z => hs (k3 z)⟩
      · unfold compSt; rw [List.getElem?_map, ho]; show some ((σ[i]?).join) = _; rw [e1]; rfl
      · unfold compT; rw [List.getElem?_map, ho]; show some ((τ[i]?).join) = _; rw [e2]; rfl
theorem EOk.put {i : Nat} {k : Cl} {d : D} {v : V} {L : List Addr} (h : EOk K Γ O H σ τ) (r : Rep K H d v L) (hk : k = .shr -> ∀ a ∈ L, ¬ O a) (h1 : σ.length = Γ.length) (h2 : τ.length = Γ.length) : EOk K (Γ.set i k) O H (σ.set i (some v)) (τ.set i (some d)) := by
  refine ⟨h.dom, fun j c e hc => ?_⟩
  by_cases z : i = j
  · subst z
    have hi : i < Γ.length := by
      have := (List.getElem?_eq_some_iff.mp e).1
      simpa using this
    rw [List.getElem?_set_self hi] at e
    cases e
    exact ⟨v, d, L, by rw [List.getElem?_set_self (by lia)], by rw [List.getElem?_set_self (by lia)], r, hk⟩
  · rw [List.getElem?_set_ne z] at e
    obtain ⟨v', d', L', a1, a2, a3, a4⟩ := h.slot j c e hc
    exact ⟨v', d', L', by rw [List.getElem?_set_ne z]; exact a1, by rw [List.getElem?_set_ne z]; exact a2, a3, a4⟩
end
theorem EOk.putAll {K : PySem.W.Frag} {O : Addr -> Prop} {H : Hp} {k : Cl} {Γ : List Cl} {σ : St} {τ : Tn} {is : List Nat} {ds : List D} {vs : List V} {L : List Addr} (h : EOk K Γ O H σ τ) (r : Reps K H ds vs L) (hL : k = .shr -> ∀ a ∈ L, ¬ O a) (hl : ds.length = is.length) (h1 : σ.length = Γ.length) (h2 : τ.length = Γ.length) :
    EOk K (clsAll k Γ is) O H (setAll σ is vs) (setAll τ is ds) := by
  induction is generalizing Γ σ τ ds vs L with
  | nil =>
    cases ds with
    | nil => cases r.1; exact h
    | cons => cases hl
  | cons i is ih =>
    cases ds with
    | nil => cases hl
    | cons d ds =>
      obtain ⟨v, vs', L1, L2, e1, e2, r1, r2⟩ := r
      subst e1 e2
      exact ih (h.put r1 (fun z a ha => hL z a (List.mem_append_left _ ha)) h1 h2) r2 (fun z a ha => hL z a (List.mem_append_right _ ha)) (Nat.succ.inj hl) (by rw [List.length_set, List.length_set]; exact h1) (by rw [List.length_set, List.length_set]; exact h2)
theorem setAll_len {α : Type} : ∀ (is : List Nat) (σ : List (Option α)) (vs : List α), (setAll σ is vs).length = σ.length
  | [], σ, vs => by unfold setAll; rfl
  | i :: is, σ, [] => by unfold setAll; rfl
  | i :: is, σ, v :: vs => by unfold setAll; rw [setAll_len is, List.length_set]
theorem setAll_ne {α : Type} {j : Nat} : ∀ (is : List Nat) (σ : List (Option α)) (vs : List α), j ∉ is -> (setAll σ is vs)[j]? = σ[j]?
  | [], σ, vs, _ => by unfold setAll; rfl
  | i :: is, σ, [], _ => by unfold setAll; rfl
  | i :: is, σ, v :: vs, h => by
    unfold setAll
    rw [setAll_ne is _ vs (fun z => h (List.mem_cons_of_mem _ z)), List.getElem?_set_ne (fun (z : i = j) => h (z ▸ List.mem_cons_self))]
theorem tgE_in {K : PySem.W.Frag} {Γ : List Cl} {O : Addr -> Prop} {H : Hp} {σ : St} {τ τ1 : Tn} {d : D} {v : V} {L : List Addr} {g : Tgt} {k : Cl} (h : EOk K Γ O H σ τ) (r : Rep K H d v L) (hL : k = .shr -> ∀ a ∈ L, ¬ O a) (h1 : σ.length = Γ.length) (h2 : τ.length = Γ.length) (ha : g.asg d τ = .ok τ1)
    {Q : St -> Hp -> Prop} (kk : ∀ σ1, EOk K (clsAll k Γ g.slots) O H σ1 τ1 -> σ1.length = σ.length -> (∀ j, j ∉ g.slots -> σ1[j]? = σ[j]?) -> Q σ1 H) : tgG K g v σ H Q := by
  cases g with
  | one i =>
    cases ha
    exact kk _ (h.put r hL h1 h2) (by simp) fun j hj => List.getElem?_set_ne fun z => hj (by simp [Tgt.slots, z])
  | many is =>
    cases d with
    | tup ds =>
      unfold Tgt.asg at ha
      dsimp only at ha
      by_cases hl : ds.length = is.length
      · rw [if_pos hl] at ha
        cases ha
        obtain ⟨a, vs, rfl, hs, rs⟩ := r
        have hv : vs.length = is.length := rs.length.trans hl
        exact ⟨a, vs, rfl, hs, hv, kk _ (h.putAll rs hL hl h1 h2) (setAll_len _ _ _) fun j hj => setAll_ne is σ vs hj⟩
      · rw [if_neg hl] at ha; cases ha
    | _ => cases ha
end L2
set_option maxRecDepth 100000
set_option maxHeartbeats 4000000
namespace L2
open PySem PySem.Spec PyProof.Rows
noncomputable abbrev noX : XK := fun _ _ _ => False
theorem noErr_ok {α : Type} {r : R α} {a : α} (h : noErr r = .ok a) : r = .ok a := by
  cases r with
  | ok b => exact h
  | err n => cases h
  | bad => cases h
theorem noErr_err {α : Type} {r : R α} {n : Str} (h : noErr r = .err n) : False := by cases r <;> cases h
theorem compL_noerr {f : D -> R (Option D)} (hf : ∀ d n, f d ≠ .err n) : ∀ (ds : List D) (n : Str), compL f ds ≠ .err n
  | [], n, h => by cases h
  | d :: ds, n, h => by
    unfold compL at h
    cases h1 : f d with
    | ok o =>
      rw [h1, R.ok_bind] at h
      cases h2 : compL f ds with
      | ok ys => rw [h2] at h; cases h
      | err m => exact compL_noerr hf ds m h2
      | bad => rw [h2] at h; cases h
    | err m => exact hf d m h1
    | bad => rw [h1] at h; cases h
theorem bind_ok {α β : Type} {r : R α} {f : α -> R β} {b : β} (h : r.bind f = .ok b) : ∃ a, r = .ok a /\ f a = .ok b := by
  cases r with
  | ok a => exact ⟨a, rfl, h⟩
  | err n => cases h
  | bad => cases h
theorem compL_cons {f : D -> R (Option D)} {d : D} {ds ys : List D} (h : compL f (d :: ds) = .ok ys) : ∃ o zs, f d = .ok o /\ compL f ds = .ok zs /\ ys = o.toList ++ zs := by
  unfold compL at h
  obtain ⟨o, h1, h⟩ := bind_ok h
  obtain ⟨zs, h2, h⟩ := bind_ok h
  cases h
  exact ⟨o, zs, h1, h2, rfl⟩
theorem EOk.live {K : PySem.W.Frag} {Γ : List Cl} {O : Addr -> Prop} {H : Hp} {σ σ' : St} {τ : Tn} (h : EOk K Γ O H σ τ) (e : ∀ (j : Nat) (c : Cl), Γ[j]? = some c -> c ≠ Cl.dead -> σ'[j]? = σ[j]?) : EOk K Γ O H σ' τ :=
  ⟨h.dom, fun i c e1 hc => by
    obtain ⟨v, d, L, a1, a2, a3, a4⟩ := h.slot i c e1 hc
    exact ⟨v, d, L, by rw [e i c e1 hc]; exact a1, a2, a3, a4⟩⟩
section
variable {X : Cx} {E : XK} {Γ : List Cl} {pos : Pos}
theorem comp_snd {fr : List (Option Nat)} {tg iter : Expr} {it : Tn -> R (List D)} {g : Tgt} {cnd : Tn -> R Bool} {te : Tn -> R D} {ci c : Rc} (hi : MI X E Γ tg iter it ci) (hcl : c ≠ .bor) (hd : ∀ j ∈ g.slots, (compC fr Γ)[j]? = some .dead) :
    ∃ wi, PI X tg iter wi /\ ∀ O σ H τ Q, EOk X.K Γ O H σ τ -> post X.K E O c H Q (eComp fr it g cnd te τ) -> tComp fr wi (tgG X.K g) (wpT X.K noX (clsAll (Cl.ofIt ci) (compC fr Γ) g.slots) cnd) (wpE X.K noX (clsAll (Cl.ofIt ci) (compC fr Γ) g.slots) te c) σ H Q := by
  have hT0 : ∀ σ H Q, (∃ O τ, EOk X.K (clsAll (Cl.ofIt ci) (compC fr Γ) g.slots) O H σ τ /\ postB X.K noX H Q (cnd τ)) -> wpT X.K noX (clsAll (Cl.ofIt ci) (compC fr Γ) g.slots) cnd σ H Q := fun _ _ _ h => h
  have hE0 : ∀ σ H Q, (∃ O τ, EOk X.K (clsAll (Cl.ofIt ci) (compC fr Γ) g.slots) O H σ τ /\ post X.K noX O c H Q (te τ)) -> wpE X.K noX (clsAll (Cl.ofIt ci) (compC fr Γ) g.slots) te c σ H Q := fun _ _ _ h => h
  generalize wpT X.K noX (clsAll (Cl.ofIt ci) (compC fr Γ) g.slots) cnd = TC at hT0 ⊢
  generalize wpE X.K noX (clsAll (Cl.ofIt ci) (compC fr Γ) g.slots) te c = TE0 at hE0 ⊢
  obtain ⟨wi, p, q⟩ := hi
  refine ⟨wi, p, fun O σ H τ Q ok h => q O σ H τ _ ok ?_⟩
  unfold eComp at h
  cases hit' : it τ with
  | err n => rw [hit'] at h; exact h
  | bad => rw [hit'] at h; exact h
  | ok ds =>
    rw [hit', R.ok_bind] at h
    refine fun J H1 L s1 hJ hO dd hD => ?_
    obtain ⟨hLd, hit⟩ := hJ
    generalize hF : compF g.asg cnd te (compT fr τ) = F at h
    cases hcL : compL F ds with
    | err n => exact absurd hcL (compL_noerr (fun d n z => by rw [<- hF] at z; exact noErr_err z) ds n)
    | bad => rw [hcL] at h; exact h.elim
    | ok ys =>
      rw [hcL, R.ok_bind] at h
      by_cases hz : ys.length <= sizeLine
      · rw [if_pos hz] at h
        have hD0 : H dd = none := s1.non hD
        have lenS : (compSt fr σ).length = (compC fr Γ).length := by simp [compSt, compC]
        have lenT : (compT fr τ).length = (compC fr Γ).length := by simp [compT, compC]
        obtain ⟨W, hW⟩ : ∃ W : Nat -> Nat -> List V -> St -> Hp -> Prop, ∀ i m ysv τ' H2, W i m ysv τ' H2 ↔ (m = ds.length - i /\ i <= ds.length /\ H2 dd = some (.lst ysv) /\ (∀ b, b ≠ dd -> H1 b ≠ none -> H2 b = H1 b) /\ τ'.length = (compC fr Γ).length /\ (∀ j, j ∉ g.slots -> τ'[j]? = (compSt fr σ)[j]?) /\
          ∃ dn rs Ly, ys = dn ++ rs /\ compL F (ds.drop i) = .ok rs /\ Reps X.K H2 dn ysv Ly /\ dd ∉ Ly /\ RcOk c O H1 Ly) := ⟨_, fun _ _ _ _ _ => Iff.rfl⟩
        refine ⟨W, ⟨ds.length, (hW _ _ _ _ _).mpr ⟨by simp, Nat.zero_le _, upd_same, fun b hb _ => upd_ne hb, lenS, fun _ _ => rfl, [], ys, [], rfl, by simpa using hcL, Reps.nil, by simp, RcOk.nil⟩⟩, ?_⟩
        intro i m ysv τ' H2 hw0
        obtain ⟨rfl, hile, hDy, kp, hl', hj', dn, rs, Ly, eys, hrs, rdn, nD, kLy⟩ := (hW _ _ _ _ _).mp hw0
        refine ⟨hDy, ?_⟩
        have sH : Same H H2 := fun b o e => by
          have e1 := s1 b o e
          have nb : b ≠ dd := ne_of_none e hD0
          rw [kp b nb (by rw [e1]; simp)]; exact e1
        have s12 : ∀ b o, H1 b = some o -> H2 b = some o := fun b o e => by
          rw [kp b (ne_of_none e hD) (by rw [e]; simp)]; exact e
        have okO : EOk X.K Γ (fun a => O a \/ a = dd) H2 σ τ := by
          refine ⟨fun a ha => ?_, fun j k e hk => ?_⟩
          · rcases ha with ha | ha
            · exact (ok.same sH).dom a ha
            · rw [ha, hDy]; simp
          · obtain ⟨v, d, L0, a1, a2, a3, a4⟩ := ok.slot j k e hk
            refine ⟨v, d, L0, a1, a2, a3.same sH, fun z a ha hm => ?_⟩
            rcases hm with hm | hm
            · exact a4 z a ha hm
            · exact a3.there ha (hm ▸ hD0)
        have okc : EOk X.K (compC fr Γ) (fun a => O a \/ a = dd) H2 τ' (compT fr τ) := (okO.comp (fr := fr)).live fun j k e hk => hj' j fun hm => by
          rw [hd j hm] at e; exact hk (Option.some.inj e).symm
        obtain ⟨go, stop⟩ := hit H2 ⟨fun a xs e => s12 a _ e, fun a o u e => s12 a _ e⟩ (fun a ha => kp a (fun z => hLd a ha (z ▸ hD)) (hLd a ha)) i
        by_cases hlt : i < ds.length
        · obtain ⟨hgo, hy⟩ := go ds[i] (by simp [hlt])
          refine .inr ⟨hgo, fun x H3 y => ?_⟩
          obtain ⟨s3, L', r', sub⟩ := hy x H3 y
          rw [List.drop_eq_getElem_cons hlt] at hrs
          obtain ⟨o, zs, ho, hzs, ers⟩ := compL_cons hrs
          rw [<- hF] at ho
          have ho := noErr_ok ho
          obtain ⟨τ1, ha, ho⟩ := bind_ok ho
          obtain ⟨k, hk, ho⟩ := bind_ok ho
          refine tgE_in (k := Cl.ofIt ci) (okc.same s3) r' (fun z a ha hm => ?_) hl' lenT ha fun σ1 ok1 hl1 hj1 => ?_
          · have hci : ci ≠ .bor := fun w => by subst w; cases z
            rcases hm with hm | hm
            · exact hO hci a (sub a ha) hm
            · exact hLd a (sub a ha) (hm ▸ hD)
          · refine hT0 _ _ _ ⟨_, τ1, ok1, ?_⟩
            rw [hk]
            refine fun H5 s5 => ?_
            have s25 := s3.trans s5
            cases k with
            | true =>
              rw [if_pos rfl] at ho
              dsimp only
              rw [if_pos rfl]
              obtain ⟨yd, hyd, ho⟩ := bind_ok ho
              cases ho
              refine hE0 _ _ _ ⟨_, τ1, ok1.same s5, ?_⟩
              rw [hyd]
              refine fun yv H6 Lw s6 r6 k6 => ?_
              have s26 := s25.trans s6
              have hD6 : H6 dd = some (.lst ysv) := s26 dd _ hDy
              have hlen : ysv.length = dn.length := rdn.length
              have nDw : dd ∉ Lw := fun hm => by
                cases c with
                | fresh => have := k6.2 dd hm; rw [s25 dd _ hDy] at this; cases this
                | shr => exact k6 dd hm (.inr rfl)
                | bor => exact hcl rfl
              have mu : (∃ vs, H6 dd = some (.lst vs)) \/ ∃ kvs, H6 dd = some (.dK kvs) := .inl ⟨_, hD6⟩
              refine ⟨hD6, ?_, ds.length - (i + 1), by lia, (hW _ _ _ _ _).mpr ⟨rfl, hlt, upd_same, fun b hb hn => ?_, by rw [hl1]; exact hl', fun j hj => (hj1 j hj).trans (hj' j hj), dn ++ [yd], zs, Ly ++ Lw, ?_, hzs, ?_, ?_, ?_⟩⟩
              · rw [eys, ers, List.length_append, List.length_append] at hz
                simp only [Option.toList, List.length_singleton] at hz
                lia
              · rw [upd_ne hb, <- kp b hb hn]
                exact s26.at (by rw [kp b hb hn]; exact hn)
              · rw [eys, ers, List.append_assoc]; rfl
              · have := Reps.append ((rdn.same s26).upd (o := .lst (ysv ++ [yv])) mu nD) (Reps.cons (r6.upd (o := .lst (ysv ++ [yv])) mu nDw) Reps.nil)
                rw [List.append_nil] at this
                exact this
              · intro hm
                rcases List.mem_append.mp hm with z | z
                · exact nD z
                · exact nDw z
              · cases c with
                | fresh =>
                  refine ⟨List.nodup_append.mpr ⟨kLy.1, k6.1, fun a ha b hb z => ?_⟩, fun a ha => ?_⟩
                  · subst z
                    have h2 := rdn.there ha
                    have h5 := k6.2 a hb
                    exact h2 (s25.non h5)
                  · rcases List.mem_append.mp ha with z | z
                    · exact kLy.2 a z
                    · have h5 := k6.2 a z
                      have h2 : H2 a = none := s25.non h5
                      cases e1 : H1 a with
                      | none => rfl
                      | some o => rw [s12 a o e1] at h2; cases h2
                | shr =>
                  intro a ha
                  rcases List.mem_append.mp ha with z | z
                  · exact kLy a z
                  · exact fun w => k6 a z (.inl w)
                | bor => exact absurd rfl hcl
            | false =>
              rw [if_neg Bool.false_ne_true] at ho
              dsimp only
              rw [if_neg Bool.false_ne_true]
              cases ho
              refine ⟨ds.length - (i + 1), by lia, (hW _ _ _ _ _).mpr ⟨rfl, hlt, s25 dd _ hDy, fun b hb hn => ?_, by rw [hl1]; exact hl', fun j hj => (hj1 j hj).trans (hj' j hj), dn, zs, Ly, ?_, hzs, rdn.same s25, nD, kLy⟩⟩
              · rw [<- kp b hb hn]
                exact s25.at (by rw [kp b hb hn]; exact hn)
              · rw [eys, ers]; rfl
        · have e : i = ds.length := by lia
          subst e
          rw [List.drop_length] at hrs
          cases hrs
          rw [List.append_nil] at eys
          subst eys
          refine .inl ⟨stop (Nat.le_refl _), h (.ref dd) H2 (dd :: Ly) sH ⟨dd, ysv, Ly, rfl, hDy, rfl, rdn⟩ ?_⟩
          cases c with
          | fresh =>
            refine ⟨List.nodup_cons.mpr ⟨nD, kLy.1⟩, fun a ha => ?_⟩
            rcases List.mem_cons.mp ha with z | z
            · rw [z]; exact hD0
            · exact s1.non (kLy.2 a z)
          | shr =>
            intro a ha
            rcases List.mem_cons.mp ha with z | z
            · rw [z]; exact fun w => ok.dom dd w hD0
            · exact kLy a z
          | bor => exact absurd rfl hcl
      · rw [if_neg hz] at h; exact h.elim
theorem me_comp {N' : List Str} {fr : List (Option Nat)} {scope : Scope} {tg iter elt : Expr} {ifs : List Expr} {it : Tn -> R (List D)} {g : Tgt} {cnd : Tn -> R Bool} {te : Tn -> R D} {ci c : Rc} (hc : X.calm = true) (S : CompScope X N' fr scope) (hi : MI X E Γ tg iter it ci)
    (hg : ∀ s₃ H₃ fp pins, MG (compCx X scope N' s₃ H₃ fp pins) tg g) (ht : ∀ s₃ H₃ fp pins, MTs (compCx X scope N' s₃ H₃ fp pins) noX (clsAll (Cl.ofIt ci) (compC fr Γ) g.slots) ifs cnd)
    (he : ∀ s₃ H₃ fp pins, ME (compCx X scope N' s₃ H₃ fp pins) noX (clsAll (Cl.ofIt ci) (compC fr Γ) g.slots) elt te c) (hcl : c ≠ .bor) (hd : ∀ j ∈ g.slots, (compC fr Γ)[j]? = some .dead)
    (hs : autoParam (∀ x, foldedSetIterable iter X.env x = pure x) L2.au2._auto_1) : ME X E Γ (.ListComp elt [⟨tg, iter, ifs, 0⟩] scope pos) (eComp fr it g cnd te) c := by
  obtain ⟨wi, p, q⟩ := comp_snd (cnd := cnd) (te := te) hi hcl hd
  exact ⟨_, pe_comp hc S p (fun s₃ H₃ fp pins => (hg s₃ H₃ fp pins).pg) (fun s₃ H₃ fp pins => (ht s₃ H₃ fp pins).pts) (fun s₃ H₃ fp pins => (he s₃ H₃ fp pins).pe) hs, q⟩
end
noncomputable def spM (K : PySem.W.Frag) (F : List D -> R D) (n : Nat) : Sp := fun vs H Q E => vs.length = n /\ ∃ ds L, Reps K H ds vs L /\ post K E (fun _ => False) .fresh H Q (F ds)
noncomputable def runB (n : Nat) (t : Tn -> R Fl) (ds : List D) : R D := match t (ds.map some ++ List.replicate (n - ds.length) none) with
  | .ok (.rt d) => .ok d
  | .ok (.nx _) => .ok .non
  | .err c => .err c
  | _ => .bad
noncomputable def prmC (n m : Nat) : List Cl := List.replicate m .shr ++ List.replicate (n - m) .dead
theorem Reps.slot {K : PySem.W.Frag} {H : Hp} {ds : List D} {vs : List V} {L : List Addr} (r : Reps K H ds vs L) : ∃ Ls : Nat -> List Addr, ∀ (i : Nat) (d : D), ds[i]? = some d -> ∃ v, vs[i]? = some v /\ Rep K H d v (Ls i) := by
  have : ∀ i : Nat, ∃ L1 : List Addr, ∀ d, ds[i]? = some d -> ∃ v, vs[i]? = some v /\ Rep K H d v L1 := fun i => by
    cases h : ds[i]? with
    | none => exact ⟨[], fun d z => by cases z⟩
    | some d =>
      obtain ⟨v, L1, e1, r1, _⟩ := r.get h
      exact ⟨L1, fun d' z => by cases z; exact ⟨v, e1, r1⟩⟩
  exact ⟨fun i => Classical.choose (this i), fun i => Classical.choose_spec (this i)⟩
theorem SOk.start {K : PySem.W.Frag} {H : Hp} {N : List Str} {ds : List D} {vs : List V} {L : List Addr} (r : Reps K H ds vs L) (hn : vs.length <= N.length) : SOk K (prmC N.length vs.length) H H (L2.start N vs) (ds.map some ++ List.replicate (N.length - ds.length) none) [] := by
  have hl := r.length
  have lp : (prmC N.length vs.length).length = N.length := by unfold prmC; rw [List.length_append, List.length_replicate, List.length_replicate]; lia
  obtain ⟨Ls, hL⟩ := r.slot
  have cls : ∀ i c, (prmC N.length vs.length)[i]? = some c -> c ≠ .dead -> i < vs.length /\ c = .shr := fun i c e hc => by
    unfold prmC at e
    by_cases hi : i < vs.length
    · rw [List.getElem?_append_left (by simpa using hi), List.getElem?_replicate, if_pos hi] at e
      exact ⟨hi, (Option.some.inj e).symm⟩
    · rw [List.getElem?_append_right (by simp; lia), List.getElem?_replicate] at e
      split at e
      · exact absurd (Option.some.inj e).symm hc
      · cases e
  have no : ∀ i : Nat, (prmC N.length vs.length)[i]? ≠ some Cl.own := fun i e => by
    have := (cls i _ e (by simp)).2
    cases this
  refine ⟨Same.refl H, ?_, ?_, Ls, fun i c e hc => ?_, fun i e => absurd e (no i), fun i j c _ e => absurd e (no i), List.nodup_nil, fun a ha => (nomatch ha), fun i c e hc a ha hm => (nomatch hm)⟩
  · unfold L2.start; rw [lp, List.length_append, List.length_map, List.length_replicate]; lia
  · rw [lp, List.length_append, List.length_map, List.length_replicate]; lia
  · obtain ⟨hi, _⟩ := cls i c e hc
    have hi' : i < ds.length := by lia
    obtain ⟨v, e1, r1⟩ := hL i ds[i] (by simp [hi'])
    refine ⟨v, ds[i], ?_, ?_, r1⟩
    · unfold L2.start
      rw [List.getElem?_append_left (by simpa using hi), List.getElem?_map, e1]; rfl
    · rw [List.getElem?_append_left (by simpa using hi'), List.getElem?_map]; simp [hi']
section
variable {P : Program} {w : World} {K : PySem.W.Frag} {mg : Str -> Option Value} {base : Heap} {x : Str} {st : Stmt} {N ps : List Str} {k : Nat} {t : Tn -> R Fl} {Γ' : List Cl}
theorem DefIn.mir (Df : DefIn K mg x st ps) (S : FnScope N ps (defScope st)) (hn : ps.length <= N.length)
    (hbody : ∀ (f : Addr) (cdv : Value) (A : Around) (outer : List Env) (s : Shared) (H : Hp) (E : XK), Room k (A.deeper (envOfC x (defScope st) s.heap.objs.size f cdv)) ->
      MSs (cxOf (cxx P w) P w K mg base N x (defScope st) f cdv A outer s H E) E [] (prmC N.length ps.length) (defBody st) t Γ') : Own P w K mg base x (k + 1) ps (spM K (runB N.length t) ps.length) := by
  refine Df.own S (fun vs H Q E h => h.1) fun f cdv A outer s H vs Q E hr h => ?_
  obtain ⟨hl, ds, L, r, h⟩ := h
  obtain ⟨ts, p, q⟩ := hbody f cdv A outer s H E hr
  refine ⟨ts, p, q H (start N vs) H _ _ (hl ▸ SOk.start r (by lia)) ?_⟩
  unfold runB at h
  cases ht : t (ds.map some ++ List.replicate (N.length - ds.length) none) with
  | ok f =>
    rw [ht] at h
    cases f with
    | nx τ' => exact fun σ' H' ok' => h .non H' [] ok'.ext ⟨rfl, rfl⟩ RcOk.nil
    | rt d => exact fun v H' L s r n1 n2 => h v H' L s r ⟨n1, n2⟩
    | bk τ' => exact h.elim
    | ct τ' => exact h.elim
  | err n => rw [ht] at h; exact fun C H' e s => h C H' e s
  | bad => rw [ht] at h; exact h.elim
theorem Own.conv {F G : List D -> R D} {n : Nat} (O : Own P w K mg base x k ps (spM K F n)) (h : ∀ ds, G ds ≠ .bad -> F ds = G ds) : Own P w K mg base x k ps (spM K G n) := by
  obtain ⟨f, fd, Fn, a, b, c⟩ := O.ex
  refine ⟨f, fd, Fn.imp fun vs H Q E ⟨hl, ds, L, r, z⟩ => ⟨hl, ds, L, r, ?_⟩, a, b, c⟩
  rw [h ds (fun w => by rw [w] at z; exact z)]
  exact z
end
section
variable {X : Cx} {E : XK} {Γ Γ' Γl : List Cl} {x : Str} {k : Nat} {ps : List Str} {F : List D -> R D} {e : Expr} {es : List Expr} {u : Tn -> R (List D)} {c : Rc} {p pos : Pos} {n : Nat}
theorem me_call (O : Own X.prog X.w X.K X.mg X.base x k ps (spM X.K F n)) (hr : Room k X.A) (hg : Gl X x) (hx : Passes (cxx X.prog X.w) X E) (ha : MA X E Γ (e :: es) u c) (hl : autoParam ((e :: es).length = n) L2.au3._auto_1) (hdb : autoParam ((x == ("__debug__" : Str)) = false) L2.au1._auto_1)
    (he : autoParam (starEach (e :: es) X.env = (false, eval e X.env) :: starEach es X.env) L2.au3._auto_1) (hpl : autoParam ((backTo pos (starEach es X.env)).any (·.1) = false) L2.au3._auto_1) : ME X E Γ (.Call (.Name x p) (e :: es) [] pos) (eL F u) .fresh := by
  obtain ⟨hlen, ta, pa, q⟩ := ha
  refine ⟨_, pe_own O hr hg hx pa hdb he hpl, fun O' σ H τ Q ok h => q O' σ H τ _ ok ?_⟩
  unfold eL at h
  cases hu : u τ with
  | ok ds =>
    rw [hu, R.ok_bind] at h
    refine fun vs H1 L s1 r1 _ => ?_
    have hv : (vs ++ []).length = n := by rw [List.append_nil, r1.length, hlen τ ds hu]; exact hl
    refine ⟨hv, ds, L, by rw [List.append_nil]; exact r1, ?_⟩
    have h1 := h.same s1
    cases hF : F ds with
    | ok d => rw [hF] at h1; exact h1
    | err n => rw [hF] at h1; exact h1
    | bad => rw [hF] at h1; exact h1
  | err n => rw [hu] at h; exact h
  | bad => rw [hu] at h; exact h
theorem me_call0 (O : Own X.prog X.w X.K X.mg X.base x k ps (spM X.K F 0)) (hr : Room k X.A) (hg : Gl X x) (hx : Passes (cxx X.prog X.w) X E) (hdb : autoParam ((x == ("__debug__" : Str)) = false) L2.au1._auto_1) : ME X E Γ (.Call (.Name x p) [] [] pos) (fun _ => F []) .fresh := by
  refine ⟨_, pe_own0 O hr hg hx hdb, fun O' σ H τ Q ok h => ⟨rfl, [], [], Reps.nil, ?_⟩⟩
  cases hF : F [] with
  | ok d => rw [hF] at h; exact h
  | err n => rw [hF] at h; exact h
  | bad => rw [hF] at h; exact h
end
end L2
set_option maxRecDepth 100000
set_option maxHeartbeats 4000000
namespace L2
open PySem PySem.Spec PyProof.Rows
noncomputable def D.isS : D -> Bool
  | .non => true
  | .bl _ => true
  | .int _ => true
  | .str _ => true
  | _ => false
noncomputable def eqS : D -> D -> Bool
  | .non, .non => true
  | .bl a, .bl b => a == b
  | .bl a, .int b => (if a then 1 else 0) == b
  | .int a, .bl b => a == (if b then 1 else 0)
  | .int a, .int b => a == b
  | .str a, .str b => a == b
  | _, _ => false
noncomputable def eqZip (f : D -> D -> Option Bool) : List D -> List D -> Option Bool
  | x :: xs, y :: ys => match f x y, eqZip f xs ys with
    | some a, some b => some (a && b)
    | _, _ => none
  | _, _ => some true
theorem nonB {b : Bool} (h : (none : Option Bool) = some b) : False := by cases h
noncomputable def eqF : Nat -> D -> D -> Option Bool
  | 0, x, y => if (x.isS && y.isS) = true then some (eqS x y) else none
  | n + 1, x, y => match x, y with
    | .lst xs, .lst ys => if xs.length = ys.length then eqZip (eqF n) xs ys else some false
    | .tup xs, .tup ys => (eqZip (eqF n) xs ys).map fun b => b && xs.length == ys.length
    | .frl xs, .lst ys => if xs.length = ys.length then eqZip (eqF n) xs ys else some false
    | .frl xs, .frl ys => if xs.length = ys.length then eqZip (eqF n) xs ys else some false
    | .lst _, .tup _ => some false
    | .tup _, .lst _ => some false
    | .lst _, y => if y.isS = true then some false else none
    | .tup _, y => if y.isS = true then some false else none
    | x, .lst _ => if x.isS = true then some false else none
    | x, .tup _ => if x.isS = true then some false else none
    | x, y => if (x.isS && y.isS) = true then some (eqS x y) else none
theorem scalU {K : PySem.W.Frag} {H : Hp} {d : D} {v : V} {L : List Addr} {u : Value} (h : d.isS = true) (r : Rep K H d v L) (q : RelV v u) :
    (d = .non /\ u = .none) \/ (∃ b, d = .bl b /\ u = .bool b) \/ (∃ i t, d = .int i /\ u = .int i t) \/ ∃ x t, d = .str x /\ u = .str x t := by
  cases d with
  | non => obtain ⟨rfl, _⟩ := r; exact .inl ⟨rfl, q⟩
  | bl b => obtain ⟨rfl, _⟩ := r; exact .inr (.inl ⟨b, rfl, q⟩)
  | int i => obtain ⟨rfl, _⟩ := r; obtain ⟨t, e⟩ := q; exact .inr (.inr (.inl ⟨i, t, rfl, e⟩))
  | str x => obtain ⟨rfl, _⟩ := r; obtain ⟨t, e⟩ := q; exact .inr (.inr (.inr ⟨x, t, rfl, e⟩))
  | _ => cases h
open SeqAt in
theorem rc_scal {A : Around} {s : Shared} {K : PySem.W.Frag} {H : Hp} {d1 d2 : D} {v1 v2 : V} {L1 L2 : List Addr} {u1 u2 : Value} (h1 : d1.isS = true) (h2 : d2.isS = true) (r1 : Rep K H d1 v1 L1) (r2 : Rep K H d2 v2 L2) (q1 : RelV v1 u1) (q2 : RelV v2 u2) :
    RcAt A s u1 u2 (eqS d1 d2) /\ EqAt A s u1 u2 (eqS d1 d2) /\ RcNeAt A s u1 u2 (!eqS d1 d2) := by
  rcases scalU h1 r1 q1 with ⟨rfl, rfl⟩ | ⟨a, rfl, rfl⟩ | ⟨a, t, rfl, rfl⟩ | ⟨a, t, rfl, rfl⟩ <;>
  rcases scalU h2 r2 q2 with ⟨rfl, rfl⟩ | ⟨b, rfl, rfl⟩ | ⟨b, t', rfl, rfl⟩ | ⟨b, t', rfl, rfl⟩
  · exact ⟨RcAt.none_none, EqAt.same _, RcNeAt.none_none⟩
  · exact ⟨RcAt.none_bool b, EqAt.none_bool b, RcNeAt.none_bool b⟩
  · exact ⟨RcAt.none_int b _, EqAt.none_int b _, RcNeAt.none_int b _⟩
  · exact ⟨RcAt.none_str b _, EqAt.none_str b _, RcNeAt.none_str b _⟩
  · exact ⟨RcAt.bool_none a, EqAt.bool_none a, RcNeAt.bool_none a⟩
  · exact ⟨RcAt.bool_bool a b, EqAt.bool_bool a b, RcNeAt.bool_bool a b⟩
  · exact ⟨RcAt.bool_int a b _, EqAt.bool_int a b _, RcNeAt.bool_int a b _⟩
  · exact ⟨RcAt.bool_str a b _, EqAt.bool_str a b _, RcNeAt.bool_str a b _⟩
  · exact ⟨RcAt.int_none a _, EqAt.int_none a _, RcNeAt.int_none a _⟩
  · exact ⟨RcAt.int_bool a _ b, EqAt.int_bool a _ b, RcNeAt.int_bool a _ b⟩
  · exact ⟨RcAt.int_int a _ b _, EqAt.int_int a _ b _, RcNeAt.int_int a _ b _⟩
  · exact ⟨RcAt.int_str a _ b _, EqAt.int_str a _ b _, RcNeAt.int_str a _ b _⟩
  · exact ⟨RcAt.str_none a _, EqAt.str_none a _, RcNeAt.str_none a _⟩
  · exact ⟨RcAt.str_bool a _ b, EqAt.str_bool a _ b, RcNeAt.str_bool a _ b⟩
  · exact ⟨RcAt.str_int a _ b _, EqAt.str_int a _ b _, RcNeAt.str_int a _ b _⟩
  · exact ⟨RcAt.str_str a _ b _, EqAt.str_str a _ b _, RcNeAt.str_str a _ b _⟩
open SeqAt in
theorem rc_ls {A : Around} {s : Shared} {K : PySem.W.Frag} {H : Hp} {d : D} {v : V} {L : List Addr} {u : Value} {l : Addr} {items : Array Value} (hd : d.isS = true) (r : Rep K H d v L) (q : RelV v u) (hl : s.heap.IsList l items) (hu : A.units < cLine) :
    (RcAt A s (.ref l) u false /\ EqAt A s (.ref l) u false /\ RcNeAt A s (.ref l) u true) /\ RcAt A s u (.ref l) false /\ EqAt A s u (.ref l) false /\ RcNeAt A s u (.ref l) true := by
  rcases scalU hd r q with ⟨rfl, rfl⟩ | ⟨b, rfl, rfl⟩ | ⟨b, t', rfl, rfl⟩ | ⟨b, t', rfl, rfl⟩
  · exact ⟨⟨RcAt.list_none hl hu, EqAt.list_none hl hu, RcNeAt.list_none hl hu⟩, RcAt.none_list hl hu, EqAt.none_list hl hu, RcNeAt.none_list hl hu⟩
  · exact ⟨⟨RcAt.list_bool b hl hu, EqAt.list_bool b hl hu, RcNeAt.list_bool b hl hu⟩, RcAt.bool_list b hl hu, EqAt.bool_list b hl hu, RcNeAt.bool_list b hl hu⟩
  · exact ⟨⟨RcAt.list_int b _ hl hu, EqAt.list_int b _ hl hu, RcNeAt.list_int b _ hl hu⟩, RcAt.int_list b _ hl hu, EqAt.int_list b _ hl hu, RcNeAt.int_list b _ hl hu⟩
  · exact ⟨⟨RcAt.list_str b _ hl hu, EqAt.list_str b _ hl hu, RcNeAt.list_str b _ hl hu⟩, RcAt.str_list b _ hl hu, EqAt.str_list b _ hl hu, RcNeAt.str_list b _ hl hu⟩
open SeqAt in
theorem rc_ts {A : Around} {s : Shared} {K : PySem.W.Frag} {H : Hp} {d : D} {v : V} {L : List Addr} {u : Value} {l : Addr} {items : Array Value} (hd : d.isS = true) (r : Rep K H d v L) (q : RelV v u) (hl : s.heap.IsTuple l items) (hu : A.units < cLine) :
    (RcAt A s (.ref l) u false /\ EqAt A s (.ref l) u false /\ RcNeAt A s (.ref l) u true) /\ RcAt A s u (.ref l) false /\ EqAt A s u (.ref l) false /\ RcNeAt A s u (.ref l) true := by
  rcases scalU hd r q with ⟨rfl, rfl⟩ | ⟨b, rfl, rfl⟩ | ⟨b, t', rfl, rfl⟩ | ⟨b, t', rfl, rfl⟩
  · exact ⟨⟨RcAt.tuple_none hl hu, EqAt.tuple_none hl hu, RcNeAt.tuple_none hl hu⟩, RcAt.none_tuple hl hu, EqAt.none_tuple hl hu, RcNeAt.none_tuple hl hu⟩
  · exact ⟨⟨RcAt.tuple_bool b hl hu, EqAt.tuple_bool b hl hu, RcNeAt.tuple_bool b hl hu⟩, RcAt.bool_tuple b hl hu, EqAt.bool_tuple b hl hu, RcNeAt.bool_tuple b hl hu⟩
  · exact ⟨⟨RcAt.tuple_int b _ hl hu, EqAt.tuple_int b _ hl hu, RcNeAt.tuple_int b _ hl hu⟩, RcAt.int_tuple b _ hl hu, EqAt.int_tuple b _ hl hu, RcNeAt.int_tuple b _ hl hu⟩
  · exact ⟨⟨RcAt.tuple_str b _ hl hu, EqAt.tuple_str b _ hl hu, RcNeAt.tuple_str b _ hl hu⟩, RcAt.str_tuple b _ hl hu, EqAt.str_tuple b _ hl hu, RcNeAt.str_tuple b _ hl hu⟩
noncomputable def eqAtJ (f : D -> D -> Option Bool) (xs ys : List D) (j : Nat) : Bool := match xs[j]?, ys[j]? with
  | some x, some y => (f x y).getD false
  | _, _ => true
theorem eqZip_all {f : D -> D -> Option Bool} : ∀ {xs ys : List D} {b : Bool}, eqZip f xs ys = some b -> b = (List.range (min xs.length ys.length)).all (eqAtJ f xs ys) /\ ∀ j x y, xs[j]? = some x -> ys[j]? = some y -> f x y = some (eqAtJ f xs ys j)
  | [], ys, b, h => by
    unfold eqZip at h
    cases h
    exact ⟨by simp, fun j x y e => by simp at e⟩
  | x :: xs, [], b, h => by
    unfold eqZip at h
    cases h
    exact ⟨by simp, fun j x y e e' => by simp at e'⟩
  | x :: xs, y :: ys, b, h => by
    unfold eqZip at h
    cases h1 : f x y with
    | none => rw [h1] at h; cases h
    | some a =>
      cases h2 : eqZip f xs ys with
      | none => rw [h1, h2] at h; cases h
      | some b' =>
        rw [h1, h2] at h
        cases h
        obtain ⟨e1, e2⟩ := eqZip_all h2
        have z0 : eqAtJ f (x :: xs) (y :: ys) 0 = a := by simp [eqAtJ, h1]
        have zs : ∀ j, eqAtJ f (x :: xs) (y :: ys) (j + 1) = eqAtJ f xs ys j := fun j => by simp [eqAtJ]
        refine ⟨?_, fun j x' y' ex ey => ?_⟩
        · have hm : min (x :: xs).length (y :: ys).length = min xs.length ys.length + 1 := by simp [Nat.succ_min_succ]
          rw [hm, List.range_succ_eq_map, List.all_cons, List.all_map, z0, e1]
          congr 1
        · cases j with
          | zero => simp at ex ey; subst ex ey; rw [z0]; exact h1
          | succ j => rw [zs]; exact e2 j x' y' (by simpa using ex) (by simpa using ey)
section
variable {X : Cx} {pins : List (Addr × Obj)} {σ : St} {H : Hp} {s : Shared}
noncomputable def D.ofV : V -> D
  | .bl b => .bl b
  | .int i => .int i
  | .str x => .str x
  | _ => .non
theorem Rep.ofV {K : PySem.W.Frag} {H : Hp} {d : D} {v : V} {L : List Addr} (h : ∀ a, v ≠ .ref a) (r : Rep K H d v L) : d = D.ofV v := by
  cases d with
  | non => rw [r.1]; rfl
  | bl => rw [r.1]; rfl
  | int => rw [r.1]; rfl
  | str => rw [r.1]; rfl
  | tup => obtain ⟨a, _, e, _⟩ := r; exact absurd e (h a)
  | lst => obtain ⟨a, _, _, e, _⟩ := r; exact absurd e (h a)
  | dic => obtain ⟨a, _, _, e, _⟩ := r; exact absurd e (h a)
  | frl => obtain ⟨a, _, e, _⟩ := r; exact absurd e (h a)
theorem Rep.oneS {K : PySem.W.Frag} {H : Hp} {d d' : D} {u v : V} {L L' : List Addr} (e : v = u) (hs : ∀ a, u ≠ .ref a) (r : Rep K H d v L) (r' : Rep K H d' v L') : d = d' := by
  subst e
  exact (r.ofV hs).trans (r'.ofV hs).symm
theorem Rep.noS {K : PySem.W.Frag} {H : Hp} {d : D} {a : Addr} {L : List Addr} (r : Rep K H d (.ref a) L) (h : d.isS = true) : False := by
  cases d with
  | non => cases r.1
  | bl => cases r.1
  | int => cases r.1
  | str => cases r.1
  | _ => cases h
theorem no_tl {a : Addr} {vs : List V} {o : HO} (I : Inv X pins σ H s) (h : SqT X.K H a vs) (h' : H a = some o) (n1 : ∀ xs, o ≠ .tup xs) (n2 : ∀ p xs, o ≠ .frz p (.tup xs)) : False := by
  rcases h with (z | ⟨p, z⟩) | ⟨o', its, n, hk, hc, _⟩
  · rw [z] at h'; exact n1 _ (Option.some.inj h').symm
  · rw [z] at h'; exact n2 _ _ (Option.some.inj h').symm
  · have := (I.bs a o' (I.mod.kin a o' hk)).2
    rw [this] at h'; cases h'
theorem no_fl {a : Addr} {vs : List V} {o : HO} (I : Inv X pins σ H s) (h : SqF X.K H a vs) (h' : H a = some o) (n2 : ∀ p xs, o ≠ .frz p (.lst xs)) : False := by
  rcases h with ⟨p, z⟩ | ⟨o', its, n, hk, hc, _⟩
  · rw [z] at h'; exact n2 _ _ (Option.some.inj h').symm
  · have := (I.bs a o' (I.mod.kin a o' hk)).2
    rw [this] at h'; cases h'
theorem no_tf {a : Addr} {vs ws : List V} (I : Inv X pins σ H s) (h' : SqT X.K H a ws) (h : SqF X.K H a vs) : False := by
  obtain ⟨its, _, ⟨o1, n1, e1, c1, _⟩, _⟩ := I.list h.sq
  obtain ⟨its2, _, ⟨o2, e2, c2, _⟩, _⟩ := I.tuple h'
  rw [e1] at e2
  cases e2
  rw [c1] at c2
  exact absurd c2 (by simp)
theorem no_ld {a : Addr} {xs : List V} {kvs : List (Key × V)} {H : Hp} (h : H a = some (.lst xs)) (h' : H a = some (.dK kvs)) : False := by
  rw [h] at h'; cases h'
mutual
theorem Rep.one (I : Inv X pins σ H s) : ∀ (d d' : D) (v : V) (L L' : List Addr), Rep X.K H d v L -> Rep X.K H d' v L' -> d = d'
  | .non, _, _, _, _, r, r' => Rep.oneS r.1 (fun _ z => V.noConfusion z) r r'
  | .bl _, _, _, _, _, r, r' => Rep.oneS r.1 (fun _ z => V.noConfusion z) r r'
  | .int _, _, _, _, _, r, r' => Rep.oneS r.1 (fun _ z => V.noConfusion z) r r'
  | .str _, _, _, _, _, r, r' => Rep.oneS r.1 (fun _ z => V.noConfusion z) r r'
  | .tup ds, d', _, L, L', hq5, r => by
    obtain ⟨a, vs, e, h, rs⟩ := hq5
    subst e
    cases d' with
    | non => exact (Rep.noS r rfl).elim
    | bl _ => exact (Rep.noS r rfl).elim
    | int _ => exact (Rep.noS r rfl).elim
    | str _ => exact (Rep.noS r rfl).elim
    | tup ds' =>
      obtain ⟨a', vs', e, h', rs'⟩ := r
      cases e
      cases I.tuple_inj h h'
      rw [Reps.one I ds ds' vs L L' rs rs']
    | lst _ =>
      obtain ⟨_, _, _, e, h', _⟩ := r
      cases e
      exact (no_tl I h h' (fun _ z => HO.noConfusion z) fun _ _ z => HO.noConfusion z).elim
    | dic _ _ =>
      obtain ⟨_, _, _, e, h', _⟩ := r
      cases e
      exact (no_tl I h h' (fun _ z => HO.noConfusion z) fun _ _ z => HO.noConfusion z).elim
    | frl _ =>
      obtain ⟨_, _, e, h', _⟩ := r
      cases e
      exact (no_tf I h h').elim
  | .lst ds, d', _, L, L', hq5, r => by
    obtain ⟨a, vs, L1, e, h, _, rs⟩ := hq5
    subst e
    cases d' with
    | non => exact (Rep.noS r rfl).elim
    | bl _ => exact (Rep.noS r rfl).elim
    | int _ => exact (Rep.noS r rfl).elim
    | str _ => exact (Rep.noS r rfl).elim
    | tup ds' =>
      obtain ⟨a', vs', e, h', rs'⟩ := r
      cases e
      exact (no_tl I h' h (fun _ z => HO.noConfusion z) fun _ _ z => HO.noConfusion z).elim
    | lst ds' =>
      obtain ⟨_, _, _, e, h', _, rs'⟩ := r
      cases e
      rw [h] at h'
      cases h'
      rw [Reps.one I ds ds' vs _ _ rs rs']
    | dic _ _ =>
      obtain ⟨_, _, _, e, h', _⟩ := r
      cases e
      exact (no_ld h h').elim
    | frl _ =>
      obtain ⟨_, _, e, h', _⟩ := r
      cases e
      exact (no_fl I h' h fun _ _ z => HO.noConfusion z).elim
  | .dic ks ds, d', _, L, L', hq5, r => by
    obtain ⟨a, kvs, L1, e, h, _, hk, _, rs⟩ := hq5
    subst e
    cases d' with
    | non => exact (Rep.noS r rfl).elim
    | bl _ => exact (Rep.noS r rfl).elim
    | int _ => exact (Rep.noS r rfl).elim
    | str _ => exact (Rep.noS r rfl).elim
    | tup ds' =>
      obtain ⟨a', vs', e, h', rs'⟩ := r
      cases e
      exact (no_tl I h' h (fun _ z => HO.noConfusion z) fun _ _ z => HO.noConfusion z).elim
    | lst ds' =>
      obtain ⟨_, _, _, e, h', _, rs'⟩ := r
      cases e
      exact (no_ld h' h).elim
    | dic ks' ds' =>
      obtain ⟨_, _, _, e, h', _, hk', _, rs'⟩ := r
      cases e
      rw [h] at h'
      cases h'
      rw [<- hk, <- hk', Reps.one I ds ds' _ _ _ rs rs']
    | frl _ =>
      obtain ⟨_, _, e, h', _⟩ := r
      cases e
      exact (no_fl I h' h fun _ _ z => HO.noConfusion z).elim
  | .frl ds, d', _, L, L', hq5, r => by
    obtain ⟨a, vs, e, h, _, _, rs⟩ := hq5
    subst e
    cases d' with
    | non => exact (Rep.noS r rfl).elim
    | bl _ => exact (Rep.noS r rfl).elim
    | int _ => exact (Rep.noS r rfl).elim
    | str _ => exact (Rep.noS r rfl).elim
    | tup ds' =>
      obtain ⟨a', vs', e, h', rs'⟩ := r
      cases e
      exact (no_tf I h' h).elim
    | lst ds' =>
      obtain ⟨_, _, _, e, h', _, rs'⟩ := r
      cases e
      exact (no_fl I h h' fun _ _ z => HO.noConfusion z).elim
    | dic ks' ds' =>
      obtain ⟨_, _, _, e, h', _, hk', _, rs'⟩ := r
      cases e
      exact (no_fl I h h' fun _ _ z => HO.noConfusion z).elim
    | frl ds' =>
      obtain ⟨_, _, e, h', _, _, rs'⟩ := r
      cases e
      have := I.list_inj h.sq h'.sq
      subst this
      rw [Reps.one I ds ds' vs _ _ rs rs']
theorem Reps.one (I : Inv X pins σ H s) : ∀ (ds ds' : List D) (vs : List V) (L L' : List Addr), Reps X.K H ds vs L -> Reps X.K H ds' vs L' -> ds = ds'
  | [], ds', _, _, _, hq5, r => by
    obtain ⟨e, _⟩ := hq5
    subst e
    cases ds' with
    | nil => rfl
    | cons _ _ => obtain ⟨_, _, _, _, e, _⟩ := r; cases e
  | d :: ds, ds', _, _, _, hq5, r => by
    obtain ⟨v, vs', L1, L2, e1, _, h1, h2⟩ := hq5
    subst e1
    cases ds' with
    | nil => obtain ⟨e, _⟩ := r; cases e
    | cons d' ds' =>
      obtain ⟨v', vs2, L3, L4, e, _, r1, r2⟩ := r
      cases e
      rw [Rep.one I d d' v _ _ h1 r1, Reps.one I ds ds' vs' _ _ h2 r2]
end
end
theorem eqS_refl : ∀ (d : D), d.isS = true -> eqS d d = true
  | .non, _ => rfl
  | .bl b, _ => beq_self_eq_true b
  | .int b, _ => beq_self_eq_true b
  | .str b, _ => beq_self_eq_true b
  | .tup _, h => nomatch h
  | .lst _, h => nomatch h
  | .dic _ _, h => nomatch h
  | .frl _, h => nomatch h
theorem eqF_refl : ∀ (n : Nat) (d : D) (b : Bool), eqF n d d = some b -> b = true := by
  intro n
  induction n with
  | zero =>
    intro d b h
    replace h : (if (d.isS && d.isS) = true then some (eqS d d) else none) = some b := h
    split at h
    · rename_i hs
      simp only [Bool.and_self] at hs
      rw [eqS_refl d hs] at h
      exact (Option.some.inj h).symm
    · cases h
  | succ n ih =>
    have zip : ∀ (xs : List D) (b : Bool), eqZip (eqF n) xs xs = some b -> b = true := by
      intro xs
      induction xs with
      | nil => intro b h; unfold eqZip at h; exact (Option.some.inj h).symm
      | cons x xs ihx =>
        intro b h
        unfold eqZip at h
        cases h1 : eqF n x x with
        | none => rw [h1] at h; cases h
        | some a =>
          cases h2 : eqZip (eqF n) xs xs with
          | none => rw [h1, h2] at h; cases h
          | some b' =>
            rw [h1, h2] at h
            cases h
            rw [ih x a h1, ihx b' h2]; rfl
    intro d b h
    cases d with
    | lst xs =>
      have h : (if xs.length = xs.length then eqZip (eqF n) xs xs else some false) = some b := h
      rw [if_pos rfl] at h
      exact zip xs b h
    | tup xs =>
      have h : (eqZip (eqF n) xs xs).map (fun b => b && xs.length == xs.length) = some b := h
      cases h1 : eqZip (eqF n) xs xs with
      | none => rw [h1] at h; cases h
      | some b' => rw [h1] at h; rw [zip xs b' h1] at h; simp at h; exact h.symm ▸ rfl
    | non => have h : some true = some b := h; exact (Option.some.inj h).symm
    | bl x => have h : some (x == x) = some b := h; exact (Option.some.inj h).symm.trans (beq_self_eq_true x)
    | int x => have h : some (x == x) = some b := h; exact (Option.some.inj h).symm.trans (beq_self_eq_true x)
    | str x => have h : some (x == x) = some b := h; exact (Option.some.inj h).symm.trans (beq_self_eq_true x)
    | dic _ _ => cases h
    | frl xs =>
      have h : (if xs.length = xs.length then eqZip (eqF n) xs xs else some false) = some b := h
      rw [if_pos rfl] at h
      exact zip xs b h
open SeqAt in
theorem eq_of_rc {A : Around} {s : Shared} {a a' : Addr} {b : Bool} (h : RcAt A s (.ref a) (.ref a') b) (hs : a = a' -> b = true) : EqAt A s (.ref a) (.ref a') b := by
  by_cases z : a = a'
  · subst z
    rw [hs rfl]
    exact EqAt.same _
  · exact EqAt.of_refs z h
open SeqAt in
theorem rc_lists {X : Cx} {pins : List (Addr × Obj)} {σ : St} {H : Hp} {s : Shared} (I : Inv X pins σ H s) {n : Nat} {A : Around} (hu0 : A.units < cLine)
    (ih : ∀ (d1 d2 : D) (v1 v2 : V) (L1 L2 : List Addr) (u1 u2 : Value) (b : Bool), eqF n d1 d2 = some b -> Rep X.K H d1 v1 L1 -> Rep X.K H d2 v2 L2 -> RelV v1 u1 -> RelV v2 u2 -> EqAt A.in1 s u1 u2 b)
    {a a2 : Addr} {vs vs2 : List V} {xs ys : List D} {L L2 : List Addr} {b : Bool} (ha : SqL X.K H a vs) (rs : Reps X.K H xs vs L) (ha2 : SqL X.K H a2 vs2) (rs2 : Reps X.K H ys vs2 L2)
    (h : (if xs.length = ys.length then eqZip (eqF n) xs ys else some false) = some b) (same : a = a2 -> b = true) : RcAt A s (.ref a) (.ref a2) b /\ EqAt A s (.ref a) (.ref a2) b /\ RcNeAt A s (.ref a) (.ref a2) (!b) := by
  obtain ⟨its, rv, pl, _⟩ := I.list ha
  obtain ⟨its2, rv2, pl2, _⟩ := I.list ha2
  have l1 : its.length = xs.length := by rw [<- rv.length, rs.length]
  have l2 : its2.length = ys.length := by rw [<- rv2.length, rs2.length]
  by_cases hl : xs.length = ys.length
  · rw [if_pos hl] at h
    obtain ⟨e1, e2⟩ := eqZip_all h
    have he : ∀ j (h1 : j < its.toArray.size) (h2 : j < its2.toArray.size), EqAt A.in1 s its.toArray[j] its2.toArray[j] (eqAtJ (eqF n) xs ys j) := fun j h1 h2 => by
      have h1' : j < xs.length := by simpa [l1] using h1
      have h2' : j < ys.length := by simpa [l2] using h2
      obtain ⟨w1, L3, g1, g2, _⟩ := rs.get (i := j) (d := xs[j]) (by simp [h1'])
      obtain ⟨w2, L4, g3, g4, _⟩ := rs2.get (i := j) (d := ys[j]) (by simp [h2'])
      obtain ⟨z1, k1, k2⟩ := rv.get g1
      obtain ⟨z2, k3, k4⟩ := rv2.get g3
      have m1 : its.toArray[j] = z1 := by
        have := (List.getElem?_eq_some_iff.mp k1).2
        simpa using this
      have m2 : its2.toArray[j] = z2 := by
        have := (List.getElem?_eq_some_iff.mp k3).2
        simpa using this
      rw [m1, m2]
      exact ih _ _ w1 w2 L3 L4 z1 z2 _ (e2 j _ _ (by simp [h1']) (by simp [h2'])) g2 g4 k2 k4
    have hsz : its.toArray.size = its2.toArray.size := by simp [l1, l2, hl]
    have eb : b = (List.range its.toArray.size).all (eqAtJ (eqF n) xs ys) := by
      rw [e1]
      congr 2
      simp [l1, hl]
    have rc := RcAt.lists pl.isList pl2.isList hsz hu0 he
    have rn := RcNeAt.lists pl.isList pl2.isList hsz hu0 he
    rw [<- eb] at rc rn
    exact ⟨rc, eq_of_rc rc same, rn⟩
  · rw [if_neg hl] at h
    cases h
    have hsz : (its.toArray.size != its2.toArray.size) = true := by simp [l1, l2, hl]
    have rc := RcAt.lists_lengths pl.isList pl2.isList hsz hu0
    exact ⟨rc, eq_of_rc rc same, RcNeAt.lists_lengths pl.isList pl2.isList hsz hu0⟩
open SeqAt in
theorem rc_eq {X : Cx} {pins : List (Addr × Obj)} {σ : St} {H : Hp} {s : Shared} (I : Inv X pins σ H s) : ∀ (n : Nat) (A : Around) (d1 d2 : D) (v1 v2 : V) (L1 L2 : List Addr) (u1 u2 : Value) (b : Bool), A.units + n < cLine -> eqF n d1 d2 = some b ->
    Rep X.K H d1 v1 L1 -> Rep X.K H d2 v2 L2 -> RelV v1 u1 -> RelV v2 u2 -> RcAt A s u1 u2 b /\ EqAt A s u1 u2 b /\ RcNeAt A s u1 u2 (!b) := by
  intro n
  induction n with
  | zero =>
    intro A d1 d2 v1 v2 L1 L2 u1 u2 b hu h r1 r2 q1 q2
    have h : (if (d1.isS && d2.isS) = true then some (eqS d1 d2) else none) = some b := h
    split at h
    · rename_i hs
      rw [Bool.and_eq_true] at hs
      cases h
      exact rc_scal hs.1 hs.2 r1 r2 q1 q2
    · cases h
  | succ n ih =>
    intro A d1 d2 v1 v2 L1 L2 u1 u2 b hu h r1 r2 q1 q2
    have hu0 : A.units < cLine := by lia
    have hu1 : A.in1.units + n < cLine := by show A.units + 1 + n < cLine; lia
    have same : ∀ a, v1 = .ref a -> v2 = .ref a -> b = true := fun a e1 e2 => by
      subst e1 e2
      have := Rep.one I d1 d2 _ _ _ r1 r2
      subst this
      exact eqF_refl (n + 1) d1 b h
    by_cases s1 : d1.isS = true
    · by_cases s2 : d2.isS = true
      · have e : b = eqS d1 d2 := by
          cases d1 <;> first | exact absurd s1 Bool.false_ne_true | (cases d2 <;> first | exact absurd s2 Bool.false_ne_true | exact (Option.some.inj h).symm)
        subst e
        exact rc_scal s1 s2 r1 r2 q1 q2
      · cases d2 with
        | lst ys =>
          have e : b = false := by cases d1 <;> first | exact absurd s1 Bool.false_ne_true | exact (Option.some.inj h).symm
          subst e
          obtain ⟨a, vs, L', e2, ha, _, rs⟩ := r2
          have q2 : u2 = Value.ref a := by rw [e2] at q2; exact q2
          rw [q2]
          obtain ⟨its, rv, pl, _⟩ := I.list (SqL.of ha)
          exact (rc_ls s1 r1 q1 pl.isList hu0).2
        | tup ys =>
          have e : b = false := by cases d1 <;> first | exact absurd s1 Bool.false_ne_true | exact (Option.some.inj h).symm
          subst e
          obtain ⟨a, vs, e2, ha, rs⟩ := r2
          have q2 : u2 = Value.ref a := by rw [e2] at q2; exact q2
          rw [q2]
          obtain ⟨its, rv, pl, _⟩ := I.tuple ha
          exact (rc_ts s1 r1 q1 pl hu0).2
        | dic _ _ => cases d1 <;> first | exact absurd s1 Bool.false_ne_true | exact (nonB (b := b) h).elim
        | frl _ => cases d1 <;> first | exact absurd s1 Bool.false_ne_true | exact (nonB (b := b) h).elim
        | _ => exact absurd rfl s2
    · cases d1 with
      | lst xs =>
        obtain ⟨a, vs, L', e1, ha, _, rs⟩ := r1
        have q1 : u1 = Value.ref a := by rw [e1] at q1; exact q1
        rw [q1]
        obtain ⟨its, rv, pl, _⟩ := I.list (SqL.of ha)
        cases d2 with
        | lst ys =>
          obtain ⟨a2, vs2, L2', e2, ha2, _, rs2⟩ := r2
          have q2 : u2 = Value.ref a2 := by rw [e2] at q2; exact q2
          rw [q2]
          exact rc_lists I hu0 (fun d1 d2 v1 v2 L1 L2 u1 u2 b e r1 r2 q1 q2 => (ih A.in1 d1 d2 v1 v2 L1 L2 u1 u2 b hu1 e r1 r2 q1 q2).2.1) (SqL.of ha) rs (SqL.of ha2) rs2 h fun z => same a e1 (by rw [z]; exact e2)
        | tup ys =>
          obtain ⟨a2, vs2, e2, ha2, rs2⟩ := r2
          have q2 : u2 = Value.ref a2 := by rw [e2] at q2; exact q2
          rw [q2]
          obtain ⟨its2, rv2, pl2, _⟩ := I.tuple ha2
          cases (Option.some.inj (show some false = some b from h))
          exact ⟨RcAt.list_tuple pl.isList pl2 hu0, EqAt.list_tuple pl.isList pl2 hu0, RcNeAt.list_tuple pl.isList pl2 hu0⟩
        | dic _ _ => exact (nonB (b := b) h).elim
        | frl _ => exact (nonB (b := b) h).elim
        | non => cases (Option.some.inj (show some false = some b from h)); exact (rc_ls (d := .non) rfl r2 q2 pl.isList hu0).1
        | bl x => cases (Option.some.inj (show some false = some b from h)); exact (rc_ls (d := .bl x) rfl r2 q2 pl.isList hu0).1
        | int x => cases (Option.some.inj (show some false = some b from h)); exact (rc_ls (d := .int x) rfl r2 q2 pl.isList hu0).1
        | str x => cases (Option.some.inj (show some false = some b from h)); exact (rc_ls (d := .str x) rfl r2 q2 pl.isList hu0).1
      | tup xs =>
        obtain ⟨a, vs, e1, ha, rs⟩ := r1
        have q1 : u1 = Value.ref a := by rw [e1] at q1; exact q1
        rw [q1]
        obtain ⟨its, rv, pl, _⟩ := I.tuple ha
        cases d2 with
        | tup ys =>
          obtain ⟨a2, vs2, e2, ha2, rs2⟩ := r2
          have q2 : u2 = Value.ref a2 := by rw [e2] at q2; exact q2
          rw [q2]
          obtain ⟨its2, rv2, pl2, _⟩ := I.tuple ha2
          have h : (eqZip (eqF n) xs ys).map (fun b => b && xs.length == ys.length) = some b := h
          have l1 : its.length = xs.length := by rw [<- rv.length, rs.length]
          have l2 : its2.length = ys.length := by rw [<- rv2.length, rs2.length]
          cases hz : eqZip (eqF n) xs ys with
          | none => rw [hz] at h; cases h
          | some b' =>
            rw [hz] at h
            have h : (b' && xs.length == ys.length) = b := Option.some.inj h
            have e1' := e1
            have e2' := e2
            obtain ⟨e1, e2⟩ := eqZip_all hz
            have he : ∀ j (h1 : j < its.toArray.size) (h2 : j < its2.toArray.size), EqAt A.in1 s its.toArray[j] its2.toArray[j] (eqAtJ (eqF n) xs ys j) := fun j h1 h2 => by
              have h1' : j < xs.length := by simpa [l1] using h1
              have h2' : j < ys.length := by simpa [l2] using h2
              obtain ⟨w1, L3, g1, g2, _⟩ := rs.get (i := j) (d := xs[j]) (by simp [h1'])
              obtain ⟨w2, L4, g3, g4, _⟩ := rs2.get (i := j) (d := ys[j]) (by simp [h2'])
              obtain ⟨z1, k1, k2⟩ := rv.get g1
              obtain ⟨z2, k3, k4⟩ := rv2.get g3
              have m1 : its.toArray[j] = z1 := by
                have := (List.getElem?_eq_some_iff.mp k1).2
                simpa using this
              have m2 : its2.toArray[j] = z2 := by
                have := (List.getElem?_eq_some_iff.mp k3).2
                simpa using this
              rw [m1, m2]
              exact (ih A.in1 _ _ w1 w2 L3 L4 z1 z2 _ hu1 (e2 j _ _ (by simp [h1']) (by simp [h2'])) g2 g4 k2 k4).2.1
            have eb : b = ((List.range (min its.toArray.size its2.toArray.size)).all (eqAtJ (eqF n) xs ys) && its.toArray.size == its2.toArray.size) := by
              rw [<- h, e1]
              simp [l1, l2]
            have rc := RcAt.tuples pl pl2 hu0 he
            have rn := RcNeAt.tuples pl pl2 hu0 he
            rw [<- eb] at rc rn
            exact ⟨rc, eq_of_rc rc fun z => same a e1' (by rw [z]; exact e2'), rn⟩
        | lst ys =>
          obtain ⟨a2, vs2, L2', e2, ha2, _, rs2⟩ := r2
          have q2 : u2 = Value.ref a2 := by rw [e2] at q2; exact q2
          rw [q2]
          obtain ⟨its2, rv2, pl2, _⟩ := I.list (SqL.of ha2)
          cases (Option.some.inj (show some false = some b from h))
          exact ⟨RcAt.tuple_list pl pl2.isList hu0, EqAt.tuple_list pl pl2.isList hu0, RcNeAt.tuple_list pl pl2.isList hu0⟩
        | dic _ _ => exact (nonB (b := b) h).elim
        | frl _ => exact (nonB (b := b) h).elim
        | non => cases (Option.some.inj (show some false = some b from h)); exact (rc_ts (d := .non) rfl r2 q2 pl hu0).1
        | bl x => cases (Option.some.inj (show some false = some b from h)); exact (rc_ts (d := .bl x) rfl r2 q2 pl hu0).1
        | int x => cases (Option.some.inj (show some false = some b from h)); exact (rc_ts (d := .int x) rfl r2 q2 pl hu0).1
        | str x => cases (Option.some.inj (show some false = some b from h)); exact (rc_ts (d := .str x) rfl r2 q2 pl hu0).1
      | dic _ _ => cases d2 <;> exact (nonB (b := b) h).elim
      | frl xs =>
        cases d2 with
        | lst ys =>
          obtain ⟨a, vs, e1, ha, _, _, rs⟩ := r1
          have q1 : u1 = Value.ref a := by rw [e1] at q1; exact q1
          rw [q1]
          obtain ⟨a2, vs2, L2', e2, ha2, _, rs2⟩ := r2
          have q2 : u2 = Value.ref a2 := by rw [e2] at q2; exact q2
          rw [q2]
          exact rc_lists I hu0 (fun d1 d2 v1 v2 L1 L2 u1 u2 b e r1 r2 q1 q2 => (ih A.in1 d1 d2 v1 v2 L1 L2 u1 u2 b hu1 e r1 r2 q1 q2).2.1) ha.sq rs (SqL.of ha2) rs2 h fun z => same a e1 (by rw [z]; exact e2)
        | tup ys => exact (nonB (b := b) h).elim
        | dic _ _ => exact (nonB (b := b) h).elim
        | frl ys =>
          obtain ⟨a, vs, e1, ha, _, _, rs⟩ := r1
          have q1 : u1 = Value.ref a := by rw [e1] at q1; exact q1
          rw [q1]
          obtain ⟨a2, vs2, e2, ha2, _, _, rs2⟩ := r2
          have q2 : u2 = Value.ref a2 := by rw [e2] at q2; exact q2
          rw [q2]
          exact rc_lists I hu0 (fun d1 d2 v1 v2 L1 L2 u1 u2 b e r1 r2 q1 q2 => (ih A.in1 d1 d2 v1 v2 L1 L2 u1 u2 b hu1 e r1 r2 q1 q2).2.1) ha.sq rs ha2.sq rs2 h fun z => same a e1 (by rw [z]; exact e2)
        | non => exact (nonB (b := b) h).elim
        | bl x => exact (nonB (b := b) h).elim
        | int x => exact (nonB (b := b) h).elim
        | str x => exact (nonB (b := b) h).elim
      | _ => exact absurd rfl s1
end L2
set_option maxRecDepth 100000
set_option maxHeartbeats 4000000
namespace L2
open PySem PySem.Spec PyProof.Rows
theorem imms_nil {K : PySem.W.Frag} {H : Hp} {ds : List D} {vs : List V} {L : List Addr} (r : Reps K H ds vs L) (h : D.imms ds = true) : Reps K H ds vs [] := by
  have := Reps.imm ds vs L r h
  subst this
  exact r
theorem new_lst {K : PySem.W.Frag} {H : Hp} {ds : List D} {vs : List V} {p : Addr} {Q : VK} (r : Reps K H ds vs []) (hp : H p = none) (q : ∀ v H' L, Same H H' -> Rep K H' (.lst ds) v L -> L.Nodup -> (∀ a ∈ L, H a = none) -> Q v H') : Q (.ref p) (upd H p (.lst vs)) :=
  q _ _ [p] (Same.new hp) ⟨p, vs, [], rfl, upd_same, rfl, r.same (Same.new hp)⟩ (by simp) (fun a ha => by rw [List.mem_singleton.mp ha]; exact hp)
noncomputable def addD : D -> D -> R D
  | .int i, .int j => .ok (.int (i + j))
  | .str x, .str y => if x.length + y.length <= sizeLine then .ok (.str (x ++ y)) else .bad
  | .lst xs, .lst ys => if D.imms xs = true /\ D.imms ys = true /\ xs.length + ys.length <= sizeLine then .ok (.lst (xs ++ ys)) else .bad
  | .tup xs, .tup ys => if D.imms xs = true /\ D.imms ys = true /\ xs ≠ [] /\ xs.length + ys.length <= sizeLine then .ok (.tup (xs ++ ys)) else .bad
  | _, _ => .bad
noncomputable def rAddA (K : PySem.W.Frag) : R2 := fun x y H Q => (∃ i j, x = .int i /\ y = .int j /\ Q (.int (i + j)) H) \/ (∃ i j, x = .str i /\ y = .str j /\ i.length + j.length <= sizeLine /\ Q (.str (i ++ j)) H) \/ rCat x y H Q \/ rCatT K x y H Q
theorem op_addA {X : Cx} : OpR X (binaryOp .Add) (rAddA X.K) := (OpR.or op_add (OpR.or op_add_str (OpR.or op_cat op_catT)))
theorem B_add {K : PySem.W.Frag} : OpB K (rAddA K) addD := by
  rintro H x y dx dy Lx Ly Q rx ry ⟨d, hg, q⟩
  unfold addD at hg
  split at hg
  · cases hg
    exact .inl ⟨_, _, rx.1, ry.1, q _ H [] (Same.refl H) ⟨rfl, rfl⟩ (by simp) (fun a ha => nomatch ha)⟩
  · split at hg
    · rename_i hz
      cases hg
      exact .inr (.inl ⟨_, _, rx.1, ry.1, hz, q _ H [] (Same.refl H) ⟨rfl, rfl⟩ (by simp) (fun a ha => nomatch ha)⟩)
    · cases hg
  · rename_i xs ys
    split at hg
    · rename_i hz
      cases hg
      obtain ⟨a, vs, L1, rfl, ha, _, rs⟩ := rx
      obtain ⟨b, ws, L2, rfl, hb, _, qs⟩ := ry
      refine .inr (.inr (.inl ⟨a, b, vs, ws, rfl, rfl, ha, hb, by rw [rs.length, qs.length]; exact hz.2.2, fun p hp => new_lst (ds := xs ++ ys) ?_ hp q⟩))
      exact Reps.append (imms_nil rs hz.1) (imms_nil qs hz.2.1)
    · cases hg
  · rename_i xs ys
    split at hg
    · rename_i hz
      cases hg
      obtain ⟨a, vs, rfl, ha, rs⟩ := rx
      obtain ⟨b, ws, rfl, hb, qs⟩ := ry
      have hne : vs ≠ [] := fun z => hz.2.2.1 (by have := rs.length; rw [z] at this; exact List.length_eq_zero_iff.mp this.symm)
      have rr := Reps.append (imms_nil rs hz.1) (imms_nil qs hz.2.1)
      refine .inr (.inr (.inr ⟨a, b, vs, ws, rfl, rfl, ha, hb, hne, by rw [rs.length, qs.length]; exact hz.2.2.2, fun z => ?_, fun _ p hp => ?_⟩))
      · subst z
        rw [List.append_nil] at rr
        exact q _ H [] (Same.refl H) ⟨a, vs, rfl, ha, rr⟩ (by simp) (fun a ha => nomatch ha)
      · exact q _ _ [] (Same.new hp) ⟨p, vs ++ ws, rfl, SqT.of upd_same, rr.same (Same.new hp)⟩ (by simp) (fun a ha => nomatch ha)
    · cases hg
  · cases hg
theorem N_add : NoErr addD := fun x y n h => by
  unfold addD at h
  split at h
  · cases h
  · split at h <;> cases h
  · split at h <;> cases h
  · split at h <;> cases h
  · cases h
noncomputable def intD (C : Int -> Int -> Bool) (g : Int -> Int -> D) : D -> D -> R D
  | .int i, .int j => if C i j = true then .ok (g i j) else .bad
  | _, _ => .bad
theorem N_int {C : Int -> Int -> Bool} {g : Int -> Int -> D} : NoErr (intD C g) := fun x y n h => by
  unfold intD at h
  split at h
  · split at h <;> cases h
  · cases h
noncomputable def VofS : D -> V
  | .int i => .int i
  | .bl b => .bl b
  | .str x => .str x
  | _ => .non
theorem VofS_rep {K : PySem.W.Frag} {H : Hp} : ∀ {d : D}, d.isS = true -> Rep K H d (VofS d) []
  | .non, _ => ⟨rfl, rfl⟩
  | .bl _, _ => ⟨rfl, rfl⟩
  | .int _, _ => ⟨rfl, rfl⟩
  | .str _, _ => ⟨rfl, rfl⟩
  | .tup _, h => nomatch h
  | .lst _, h => nomatch h
  | .dic _ _, h => nomatch h
  | .frl _, h => nomatch h
theorem B_int {K : PySem.W.Frag} {C : Int -> Int -> Bool} {g : Int -> Int -> D} {P : Int -> Int -> Prop} {gv : Int -> Int -> V} (hP : ∀ i j, C i j = true -> P i j) (hs : ∀ i j, (g i j).isS = true) (hv : ∀ i j, VofS (g i j) = gv i j) : OpB K (rI P gv) (intD C g) := by
  rintro H x y dx dy Lx Ly Q rx ry ⟨d, hg, q⟩
  unfold intD at hg
  split at hg
  · split at hg
    · rename_i i j hz
      cases hg
      refine ⟨i, j, rx.1, ry.1, hP i j hz, ?_⟩
      rw [<- hv]
      exact q _ H [] (Same.refl H) (VofS_rep (hs i j)) (by simp) (fun a ha => nomatch ha)
    · cases hg
  · cases hg
theorem B_int0 {K : PySem.W.Frag} {g : Int -> Int -> D} {gv : Int -> Int -> V} (hs : ∀ i j, (g i j).isS = true) (hv : ∀ i j, VofS (g i j) = gv i j) : OpB K (rI0 gv) (intD (fun _ _ => true) g) := by
  rintro H x y dx dy Lx Ly Q rx ry ⟨d, hg, q⟩
  unfold intD at hg
  split at hg
  · rw [if_pos rfl] at hg
    rename_i i j
    cases hg
    refine ⟨i, j, rx.1, ry.1, ?_⟩
    rw [<- hv]
    exact q _ H [] (Same.refl H) (VofS_rep (hs i j)) (by simp) (fun a ha => nomatch ha)
  · cases hg
noncomputable abbrev subD : D -> D -> R D := intD (fun _ _ => true) fun i j => .int (i - j)
noncomputable abbrev fdivD : D -> D -> R D := intD (fun _ j => decide (0 < j) && decide (j < 1073741824)) fun i j => .int (i / j)
noncomputable abbrev modD : D -> D -> R D := intD (fun _ j => decide (0 < j)) fun i j => .int (i % j)
noncomputable abbrev ltD : D -> D -> R D := intD (fun _ _ => true) fun i j => .bl (decide (i < j))
noncomputable abbrev leD : D -> D -> R D := intD (fun _ _ => true) fun i j => .bl (decide (i <= j))
noncomputable abbrev gtD : D -> D -> R D := intD (fun _ _ => true) fun i j => .bl (decide (j < i))
theorem B_sub {K : PySem.W.Frag} : OpB K (rI0 fun i j => .int (i - j)) subD := B_int0 (fun _ _ => rfl) fun _ _ => rfl
theorem B_fdiv {K : PySem.W.Frag} : OpB K (rI CDiv fun i j => .int (i / j)) fdivD := B_int (fun i j h => by simp only [Bool.and_eq_true, decide_eq_true_eq] at h; exact h) (fun _ _ => rfl) fun _ _ => rfl
theorem B_mod {K : PySem.W.Frag} : OpB K (rI (fun _ j => 0 < j) fun i j => .int (i % j)) modD := B_int (fun i j h => by simpa using h) (fun _ _ => rfl) fun _ _ => rfl
theorem B_lt {K : PySem.W.Frag} : OpB K (rI0 fun i j => .bl (decide (i < j))) ltD := B_int0 (fun _ _ => rfl) fun _ _ => rfl
theorem B_le {K : PySem.W.Frag} : OpB K (rI0 fun i j => .bl (decide (i <= j))) leD := B_int0 (fun _ _ => rfl) fun _ _ => rfl
theorem B_gt {K : PySem.W.Frag} : OpB K (rI0 fun i j => .bl (decide (j < i))) gtD := B_int0 (fun _ _ => rfl) fun _ _ => rfl
noncomputable def mulD : D -> D -> R D
  | .int i, .int j => if ((decide (-(2 ^ 64) < i) && decide (i < 2 ^ 64)) || (decide (-(2 ^ 64) < j) && decide (j < 2 ^ 64))) = true then .ok (.int (i * j)) else .bad
  | .lst xs, .int k => if D.imms xs = true /\ -(2 ^ 63) <= k /\ k < 2 ^ 63 /\ xs.length * k.toNat <= sizeLine then .ok (.lst (List.replicate k.toNat xs).flatten) else .bad
  | _, _ => .bad
theorem N_mul : NoErr mulD := fun x y n h => by
  unfold mulD at h
  split at h
  · split at h <;> cases h
  · split at h <;> cases h
  · cases h
theorem op_mulA {X : Cx} : OpR X (binaryOp .Mult) (fun x y H Q => rI CMul (fun i j => .int (i * j)) x y H Q \/ rRep x y H Q) := OpR.or op_mul op_rep
theorem Reps.rep {K : PySem.W.Frag} {H : Hp} {ds : List D} {vs : List V} (r : Reps K H ds vs []) : ∀ k : Nat, Reps K H (List.replicate k ds).flatten (List.replicate k vs).flatten []
  | 0 => by simpa using Reps.nil
  | k + 1 => by
    rw [List.replicate_succ, List.replicate_succ, List.flatten_cons, List.flatten_cons]
    exact Reps.append r (Reps.rep r k)
theorem B_mul {K : PySem.W.Frag} : OpB K (fun x y H Q => rI CMul (fun i j => .int (i * j)) x y H Q \/ rRep x y H Q) mulD := by
  rintro H x y dx dy Lx Ly Q rx ry ⟨d, hg, q⟩
  unfold mulD at hg
  split at hg
  · split at hg
    · rename_i i j hz
      cases hg
      refine .inl ⟨i, j, rx.1, ry.1, ?_, q _ H [] (Same.refl H) ⟨rfl, rfl⟩ (by simp) (fun a ha => nomatch ha)⟩
      simpa [CMul] using hz
    · cases hg
  · split at hg
    · rename_i xs k hz
      cases hg
      obtain ⟨a, vs, L1, rfl, ha, _, rs⟩ := rx
      exact .inr ⟨a, k, vs, rfl, ry.1, ha, hz.2.1, hz.2.2.1, by rw [rs.length]; exact hz.2.2.2, fun p hp => new_lst (Reps.rep (imms_nil rs hz.1) _) hp q⟩
    · cases hg
  · cases hg
noncomputable def rEqA (K : PySem.W.Frag) (neg : Bool) : R2 := fun x y H Q => ∃ dx dy Lx Ly b, Rep K H dx x Lx /\ Rep K H dy y Ly /\ eqF 12 dx dy = some b /\ Q (.bl (if neg = true then !b else b)) H
theorem op_eqA {X : Cx} (hu : X.A.units + 12 < cLine) : OpR X (compareOp .Eq) (rEqA X.K false) := by
  rintro pins s σ H x y v u Q I rx ry ⟨dx, dy, Lx, Ly, b, r1, r2, he, q⟩
  exact (rc_eq I 12 X.A dx dy x y Lx Ly v u b hu he r1 r2 rx ry).1 X.prog X.w X.xe _ ⟨.bl b, H, I, rfl, q⟩
theorem op_neA {X : Cx} (hu : X.A.units + 12 < cLine) : OpR X (compareOp .NotEq) (rEqA X.K true) := by
  rintro pins s σ H x y v u Q I rx ry ⟨dx, dy, Lx, Ly, b, r1, r2, he, q⟩
  exact (rc_eq I 12 X.A dx dy x y Lx Ly v u b hu he r1 r2 rx ry).2.2 X.prog X.w X.xe _ ⟨.bl (!b), H, I, rfl, q⟩
noncomputable def lookD : List Key -> List D -> Key -> Option D
  | k :: ks, d :: ds, j => if k = j then some d else lookD ks ds j
  | _, _, _ => none
noncomputable def hitsD (js : List Key) (ys : List D) : List Key -> List D -> Option Bool
  | k :: ks, x :: xs => match lookD js ys k with
    | none => some false
    | some y => if (x.isS && y.isS) = true then (hitsD js ys ks xs).map (eqS x y && ·) else none
  | _, _ => some true
theorem look_some {K : PySem.W.Frag} {H : Hp} : ∀ {kvs : List (Key × V)} {ds : List D} {L : List Addr} {k : Key} {d : D}, Reps K H ds (kvs.map (·.2)) L -> lookD (kvs.map (·.1)) ds k = some d -> ∃ v L1, valV kvs k = some v /\ Rep K H d v L1 /\ List.Sublist L1 L
  | [], ds, _, k, d, r, h => by cases ds <;> cases h
  | p :: kvs, [], _, k, d, r, h => by obtain ⟨e, _⟩ := r; cases e
  | p :: kvs, d0 :: ds, _, k, d, hq5, h => by
    obtain ⟨v, vs', L1, L2, e1, e2, r1, r2⟩ := hq5
    subst e2
    rw [List.map_cons] at e1
    cases e1
    rw [List.map_cons] at h
    unfold lookD at h
    by_cases hk : p.1 = k
    · rw [if_pos hk] at h
      cases h
      exact ⟨p.2, L1, valV_pos hk, r1, List.sublist_append_left _ _⟩
    · rw [if_neg hk] at h
      obtain ⟨v, L', a, b, c⟩ := look_some r2 h
      exact ⟨v, L', by rw [valV_neg hk]; exact a, b, c.trans (List.sublist_append_right _ _)⟩
theorem look_none {K : PySem.W.Frag} {H : Hp} : ∀ {kvs : List (Key × V)} {ds : List D} {L : List Addr} {k : Key}, Reps K H ds (kvs.map (·.2)) L -> lookD (kvs.map (·.1)) ds k = none -> valV kvs k = none
  | [], ds, _, k, r, h => rfl
  | p :: kvs, [], _, k, r, h => by obtain ⟨e, _⟩ := r; cases e
  | p :: kvs, d0 :: ds, _, k, hq4, h => by
    obtain ⟨v, vs', L1, L2, e1, e2, r1, r2⟩ := hq4
    subst e2
    rw [List.map_cons] at e1
    cases e1
    rw [List.map_cons] at h
    unfold lookD at h
    by_cases hk : p.1 = k
    · rw [if_pos hk] at h; cases h
    · rw [if_neg hk] at h
      rw [valV_neg hk]
      exact look_none r2 h
theorem hits_of {K : PySem.W.Frag} {H : Hp} {A : Around} {s : Shared} {kvb : List (Key × V)} {vb : List (Key × Value)} {ys : List D} {Lb : List Addr} (rb : KV kvb vb) (qb : Reps K H ys (kvb.map (·.2)) Lb) :
    ∀ {kva : List (Key × V)} {va : List (Key × Value)} {xs : List D} {La : List Addr} {b : Bool}, KV kva va -> Reps K H xs (kva.map (·.2)) La -> hitsD (kvb.map (·.1)) ys (kva.map (·.1)) xs = some b -> PySem.W.KeqHits A s vb va b := by
  intro kva va xs La b ra
  induction ra generalizing xs La b with
  | nil =>
    intro r h
    cases xs with
    | nil => cases h; exact .nil
    | cons _ _ => obtain ⟨_, _, _, _, e, _⟩ := r; cases e
  | @cons p q l1 l2 h1 _ ih =>
    intro r h
    cases xs with
    | nil => obtain ⟨e, _⟩ := r; cases e
    | cons x xs =>
      obtain ⟨v, vs', L1, L2, e1, e2, r1, r2⟩ := r
      rw [List.map_cons] at e1
      cases e1
      rw [List.map_cons] at h
      unfold hitsD at h
      have ek : q.1 = p.1 := h1.1.symm
      have hv := rb.val p.1
      cases hl : lookD (kvb.map (·.1)) ys p.1 with
      | none =>
        rw [hl] at h
        cases h
        rw [look_none qb hl] at hv
        have : valueAt vb q.1 = none := by
          rw [ek]
          cases hq : valueAt vb p.1 with
          | none => rfl
          | some y => rw [hq] at hv; exact hv.elim
        exact PySem.W.KeqHits.miss (k := q.1) (v := q.2) this
      | some y =>
        rw [hl] at h
        dsimp only at h
        split at h
        · rename_i hs
          rw [Bool.and_eq_true] at hs
          cases hr : hitsD (kvb.map (·.1)) ys (l1.map (·.1)) xs with
          | none => rw [hr] at h; cases h
          | some b' =>
            rw [hr] at h
            have h : (eqS x y && b') = b := Option.some.inj h
            obtain ⟨w, Lw, g1, g2, _⟩ := look_some qb hl
            rw [g1] at hv
            obtain ⟨yv, hy, ry⟩ := RelO.some_of (v := w) (o := valueAt vb p.1) hv
            rw [<- h]
            exact PySem.W.KeqHits.hit (k := q.1) (v := q.2) (by rw [ek]; exact hy) (rc_scal (A := A) (s := s) hs.1 hs.2 r1 g2 h1.2 ry).2.1 (ih r2 hr)
        · cases h
noncomputable def rEqDc (K : PySem.W.Frag) (neg : Bool) : R2 := fun x y H Q => ∃ a b kva kvb xs ys La Lb r, x = .ref a /\ y = .ref b /\ Rd H a (.dK kva) /\ Rd H b (.dK kvb) /\ Reps K H xs (kva.map (·.2)) La /\ Reps K H ys (kvb.map (·.2)) Lb /\
  (kva.length = kvb.length -> hitsD (kvb.map (·.1)) ys (kva.map (·.1)) xs = some r) /\ Q (.bl (if neg = true then !(kva.length == kvb.length && r) else (kva.length == kvb.length && r))) H
theorem op_eqDc {X : Cx} (hu : X.A.units < cLine) : OpR X (compareOp .Eq) (rEqDc X.K false) := by
  rintro pins s σ H x y v u Q I rx ry ⟨a, b, kva, kvb, xs, ys, La, Lb, r, e1, e2, ha, hb, qa, qb, hh, q⟩
  subst e1 e2
  obtain rfl : v = Value.ref a := rx
  obtain rfl : u = Value.ref b := ry
  obtain ⟨_, da, va, ra, oa⟩ := dk_rd I.hok ha
  obtain ⟨_, db, vb, rb, ob⟩ := dk_rd I.hok hb
  have l1 : va.length = kva.length := ra.length.symm
  have l2 : vb.length = kvb.length := rb.length.symm
  refine PySem.W.keq_eq (r := r) da db oa ob hu (fun e => hits_of rb qb ra qa (hh (by lia))) ?_
  rw [l1, l2]
  exact ⟨.bl _, H, I, rfl, q⟩
theorem op_neDc {X : Cx} (hu : X.A.units < cLine) : OpR X (compareOp .NotEq) (rEqDc X.K true) := by
  rintro pins s σ H x y v u Q I rx ry ⟨a, b, kva, kvb, xs, ys, La, Lb, r, e1, e2, ha, hb, qa, qb, hh, q⟩
  subst e1 e2
  obtain rfl : v = Value.ref a := rx
  obtain rfl : u = Value.ref b := ry
  obtain ⟨_, da, va, ra, oa⟩ := dk_rd I.hok ha
  obtain ⟨_, db, vb, rb, ob⟩ := dk_rd I.hok hb
  have l1 : va.length = kva.length := ra.length.symm
  have l2 : vb.length = kvb.length := rb.length.symm
  refine PySem.W.keq_ne (r := r) da db oa ob hu (fun e => hits_of rb qb ra qa (hh (by lia))) ?_
  rw [l1, l2]
  exact ⟨.bl _, H, I, rfl, q⟩
noncomputable def eqDic (ks : List Key) (xs : List D) (js : List Key) (ys : List D) : Option Bool := if ks.length = js.length then hitsD js ys ks xs else some false
noncomputable def eqR (neg : Bool) : D -> D -> R D
  | .dic ks xs, .dic js ys => match eqDic ks xs js ys with
    | some b => .ok (.bl (if neg = true then !b else b))
    | none => .bad
  | x, y => match eqF 12 x y with
    | some b => .ok (.bl (if neg = true then !b else b))
    | none => .bad
theorem N_eq {neg : Bool} : NoErr (eqR neg) := fun x y n h => by
  unfold eqR at h
  split at h
  · split at h <;> cases h
  · split at h <;> cases h
theorem B_eq {K : PySem.W.Frag} {neg : Bool} : OpB K (fun x y H Q => rEqA K neg x y H Q \/ rEqDc K neg x y H Q) (eqR neg) := by
  rintro H x y dx dy Lx Ly Q rx ry ⟨d, hg, q⟩
  unfold eqR at hg
  split at hg
  · rename_i ks xs js ys
    obtain ⟨a, kva, L1, rfl, ha, _, hk, _, rs⟩ := rx
    obtain ⟨b, kvb, L2, rfl, hb, _, hj, _, qs⟩ := ry
    have l1 : ks.length = kva.length := by rw [<- hk, List.length_map]
    have l2 : js.length = kvb.length := by rw [<- hj, List.length_map]
    unfold eqDic at hg
    by_cases hl : ks.length = js.length
    · rw [if_pos hl] at hg
      cases hr : hitsD js ys ks xs with
      | none => rw [hr] at hg; cases hg
      | some r =>
        rw [hr] at hg
        cases hg
        refine .inr ⟨a, b, kva, kvb, xs, ys, _, _, r, rfl, rfl, .inl ha, .inl hb, rs, qs, fun _ => by rw [hk, hj]; exact hr, ?_⟩
        have e : (kva.length == kvb.length && r) = r := by
          have : (kva.length == kvb.length) = true := by simp; lia
          rw [this, Bool.true_and]
        rw [e]
        exact q _ H [] (Same.refl H) ⟨rfl, rfl⟩ (by simp) (fun a ha => nomatch ha)
    · rw [if_neg hl] at hg
      cases hg
      refine .inr ⟨a, b, kva, kvb, xs, ys, _, _, false, rfl, rfl, .inl ha, .inl hb, rs, qs, fun z => absurd z (by lia), ?_⟩
      rw [Bool.and_false]
      exact q _ H [] (Same.refl H) ⟨rfl, rfl⟩ (by simp) (fun a ha => nomatch ha)
  · split at hg
    · rename_i b hb
      cases hg
      exact .inl ⟨dx, dy, Lx, Ly, b, rx, ry, hb, q _ H [] (Same.refl H) ⟨rfl, rfl⟩ (by simp) (fun a ha => nomatch ha)⟩
    · cases hg
theorem op_eqAll {X : Cx} (hu : X.A.units + 12 < cLine) : OpR X (compareOp .Eq) (fun x y H Q => rEqA X.K false x y H Q \/ rEqDc X.K false x y H Q) := OpR.or (op_eqA hu) (op_eqDc (by lia))
theorem op_neAll {X : Cx} (hu : X.A.units + 12 < cLine) : OpR X (compareOp .NotEq) (fun x y H Q => rEqA X.K true x y H Q \/ rEqDc X.K true x y H Q) := OpR.or (op_neA hu) (op_neDc (by lia))
end L2
set_option maxRecDepth 100000
set_option maxHeartbeats 4000000
namespace L2
open PySem PySem.Spec PyProof.Rows
noncomputable def keyOf : D -> Option Key
  | .int i => some (.inl i)
  | .str x => some (.inr x)
  | .non => some .non
  | _ => none
noncomputable def ixD : D -> D -> R D
  | .lst ds, .int i => match atI ds i with
    | some d => .ok d
    | none => .bad
  | .tup ds, .int i => match atI ds i with
    | some d => .ok d
    | none => .bad
  | .frl ds, .int i => match atI ds i with
    | some d => .ok d
    | none => .bad
  | .str x, .int i => if x.length <= sizeLine then (match atI x.cps.toList i with
    | some c => .ok (.str ⟨#[c]⟩)
    | none => .bad) else .bad
  | .dic ks ds, k => match keyOf k with
    | some k => (match lookD ks ds k with
      | some d => .ok d
      | none => .bad)
    | none => .bad
  | _, _ => .bad
theorem N_ix : NoErr ixD := fun x y n h => by
  unfold ixD at h
  split at h
  · split at h <;> cases h
  · split at h <;> cases h
  · split at h <;> cases h
  · split at h
    · split at h <;> cases h
    · cases h
  · split at h
    · split at h <;> cases h
    · cases h
  · cases h
theorem keyOf_rep {K : PySem.W.Frag} {H : Hp} {d : D} {v : V} {L : List Addr} {k : Key} (h : keyOf d = some k) (r : Rep K H d v L) : v = kV k := by
  cases d with
  | non => cases h; exact r.1
  | int i => cases h; exact r.1
  | str x => cases h; exact r.1
  | _ => cases h
theorem Reps.atI {K : PySem.W.Frag} {H : Hp} {ds : List D} {vs : List V} {L : List Addr} {i : Int} {d : D} (r : Reps K H ds vs L) (h : L2.atI ds i = some d) : ∃ v L1, L2.atI vs i = some v /\ Rep K H d v L1 /\ List.Sublist L1 L := by
  unfold L2.atI at h ⊢
  rw [r.length]
  cases e : ixN ds.length i with
  | none => rw [e] at h; cases h
  | some j =>
    rw [e] at h
    obtain ⟨v, L1, a, b, c⟩ := r.get h
    exact ⟨v, L1, a, b, c⟩
section
variable {X : Cx} {E : XK} {Γ : List Cl} {e a b : Expr} {es : List Expr} {t ta tb : Tn -> R D} {u : Tn -> R (List D)} {c ca cb : Rc} {pos p p2 : Pos}
theorem RcOk.sub {O : Addr -> Prop} {H : Hp} {L L' : List Addr} (h : RcOk c O H L) (s : List.Sublist L' L) : RcOk c O H L' := by
  cases c with
  | fresh => exact ⟨h.1.sublist s, fun a ha => h.2 a (s.subset ha)⟩
  | shr => exact fun a ha => h a (s.subset ha)
  | bor => trivial
theorem post.bind2 {K : PySem.W.Frag} {O : Addr -> Prop} {H H1 : Hp} {Q Q' : VK} {r : R D} {f : D -> R D} (h : post K E O c H Q (r.bind f)) (s : Same H H1) (hf : ∀ d, r = .ok d -> post K E O c H Q (f d) -> ∀ v H' L, Same H1 H' -> Rep K H' d v L -> RcOk ca O H1 L -> Q' v H') : post K E O ca H1 Q' r := by
  cases r with
  | ok d => exact hf d rfl h
  | err n => exact fun C H' e s' => h C H' e (s.trans s')
  | bad => exact h
theorem ix_seq_of {K : PySem.W.Frag} {H : Hp} {dx dy d : D} {x y : V} {Lx Ly : List Addr} {Q : VK} (hn : ∀ ks ds, dx ≠ .dic ks ds) (h : ixD dx dy = .ok d) (rx : Rep K H dx x Lx) (ry : Rep K H dy y Ly) (q : ∀ v L1, Rep K H d v L1 -> List.Sublist L1 Lx -> Q v H) : rIx K x y H Q := by
  unfold ixD at h
  split at h
  · split at h
    · rename_i hd
      cases h
      obtain ⟨a, vs, L', rfl, ha, e, rs⟩ := rx
      subst e
      obtain ⟨v, L1, g1, g2, g3⟩ := rs.atI hd
      exact .inl ⟨a, vs, _, v, rfl, ry.1, SqL.of ha, g1, q v L1 g2 (g3.trans (List.sublist_cons_self _ _))⟩
    · cases h
  · split at h
    · rename_i hd
      cases h
      obtain ⟨a, vs, rfl, ha, rs⟩ := rx
      obtain ⟨v, L1, g1, g2, g3⟩ := rs.atI hd
      exact .inr (.inl ⟨a, vs, _, v, rfl, ry.1, ha, g1, q v L1 g2 g3⟩)
    · cases h
  · split at h
    · rename_i hd
      cases h
      obtain ⟨a, vs, rfl, ha, e, _, rs⟩ := rx
      subst e
      obtain ⟨v, L1, g1, g2, g3⟩ := rs.atI hd
      exact .inl ⟨a, vs, _, v, rfl, ry.1, ha.sq, g1, q v L1 g2 g3⟩
    · cases h
  · split at h
    · rename_i hz
      split at h
      · rename_i hd
        cases h
        exact .inr (.inr ⟨_, _, _, rx.1, ry.1, hz, hd, q _ [] ⟨rfl, rfl⟩ (List.nil_sublist _)⟩)
      · cases h
    · cases h
  · rename_i ks ds
    exact absurd rfl (hn _ _)
  · cases h
theorem me_ix (hu : X.A.units + 1 < cLine) (ha : ME X E Γ a ta ca) (hb : ME X E Γ b tb cb) (hs : autoParam (PlainIx b) L2.au6._auto_1) : ME X E Γ (.Subscript a b pos) (eBin ixD ta tb) ca := by
  obtain ⟨te, p, q⟩ := ha
  obtain ⟨te', p', q'⟩ := hb
  refine ⟨fun σ H Q => tOp (rIx X.K) te te' σ H Q \/ tDGet te te' σ H Q, fun pins s σ H Q I z => ?_, fun O σ H τ Q ok h => ?_⟩
  · rcases z with z | z
    · exact pe_ix ix_seq p p' hs pins s σ H Q I z
    · exact pe_dget hu p p' hs pins s σ H Q I z
  · unfold eBin at h
    by_cases hd : ∃ ks ds, ta τ = .ok (.dic ks ds)
    · obtain ⟨ks, ds, hd⟩ := hd
      refine .inr (q O σ H τ _ ok (post.bind h fun dx hx h x H1 Lx s1 rx kx => ?_))
      rw [hd] at hx
      cases hx
      refine q' O σ H1 τ _ (ok.same s1) (post.bind2 h s1 fun dy _ h y H2 Ly s2 ry _ => ?_)
      have h : post X.K E O ca H Q (match keyOf dy with
        | some k => (match lookD ks ds k with
          | some d => .ok d
          | none => .bad)
        | none => .bad) := h
      cases hk : keyOf dy with
      | none => rw [hk] at h; exact h.elim
      | some k =>
        rw [hk] at h
        dsimp only at h
        cases hl : lookD ks ds k with
        | none => rw [hl] at h; exact h.elim
        | some d =>
          rw [hl] at h
          obtain ⟨ad, kvs, L', rfl, had, e2, hks, _, rs⟩ := rx
          subst e2
          rw [<- hks] at hl
          obtain ⟨v, L1, g1, g2, g3⟩ := look_some rs hl
          refine ⟨ad, v, rfl, ?_, h v H2 L1 (s1.trans s2) (g2.same s2) (kx.sub (g3.trans (List.sublist_cons_self _ _)))⟩
          rw [keyOf_rep hk ry, <- g1]
          exact DGet.k (s2 _ _ had)
    · refine .inl (q O σ H τ _ ok (post.bind h fun dx hx h x H1 Lx s1 rx kx => q' O σ H1 τ _ (ok.same s1) (post.bind2 h s1 fun dy _ h y H2 Ly s2 ry _ => ?_)))
      cases hg : ixD dx dy with
      | ok d =>
        rw [hg] at h
        exact ix_seq_of (fun ks ds z => hd ⟨ks, ds, by rw [hx, z]⟩) hg (rx.same s2) ry fun v L1 g1 g2 => h v H2 L1 (s1.trans s2) g1 (kx.sub g2)
      | err n => exact absurd hg (N_ix _ _ _)
      | bad => rw [hg] at h; exact h.elim
noncomputable def negD : D -> R D
  | .int i => .ok (.int (-i))
  | _ => .bad
theorem me_neg (ha : ME X E Γ a ta ca) : ME X E Γ (.UnaryOp .USub a pos) (eUn negD ta) .fresh := by
  obtain ⟨te, p, q⟩ := ha
  refine ⟨_, pe_un un_neg p, fun O σ H τ Q ok h => q O σ H τ _ ok (post.bind h fun d _ h v H1 L s1 r1 _ => ?_)⟩
  cases d with
  | int i => exact ⟨i, r1.1, h _ H1 [] s1 ⟨rfl, rfl⟩ RcOk.nil⟩
  | _ => exact h.elim
noncomputable def cutL {α : Type} (xs : List α) (lo hi : Option Int) : List α := (xs.drop (HT.sIx xs.length 0 lo)).take (HT.sIx xs.length xs.length hi - HT.sIx xs.length 0 lo)
noncomputable def slD (x : D) (lo hi : Option Int) : R D := match x with
  | .lst ds => if D.imms ds = true then .ok (.lst (cutL ds lo hi)) else .bad
  | .str z => if z.length <= sizeLine then .ok (.str (Txt.slice z lo hi)) else .bad
  | .tup ds => if D.imms ds = true /\ ¬ (HT.sIx ds.length 0 lo = 0 /\ HT.sIx ds.length ds.length hi = ds.length) then .ok (.tup (cutL ds lo hi)) else .bad
  | _ => .bad
noncomputable def eSl (t : Tn -> R D) (tl th : Tn -> R (Option Int)) : Tn -> R D := fun τ => (t τ).bind fun x => (tl τ).bind fun l => (th τ).bind fun h => slD x l h
noncomputable def oNone : Tn -> R (Option Int) := fun _ => .ok none
noncomputable def oSome (t : Tn -> R D) : Tn -> R (Option Int) := fun τ => (t τ).bind fun d => match d with
  | .int i => .ok (some i)
  | _ => .bad
noncomputable def postO (K : PySem.W.Frag) (E : XK) (H : Hp) (Q : Option Int -> Hp -> Prop) : R (Option Int) -> Prop
  | .ok o => ∀ H', Same H H' -> Q o H'
  | .err n => ∀ C H', ErrC K n C -> Same H H' -> E (.ref C) none H'
  | .bad => False
noncomputable def MO (X : Cx) (E : XK) (Γ : List Cl) (e : Option Expr) (t : Tn -> R (Option Int)) : Prop :=
  ∃ to, PO X e to /\ ∀ O σ H τ Q, EOk X.K Γ O H σ τ -> postO X.K E H Q (t τ) -> to σ H Q
theorem mo_none : MO X E Γ none oNone := ⟨tNoPart, po_none, fun O σ H τ Q ok h => h H (Same.refl H)⟩
theorem mo_some (h : ME X E Γ e t c) : MO X E Γ (some e) (oSome t) := by
  obtain ⟨te, p, q⟩ := h
  refine ⟨tPart te, po_some p, fun O σ H τ Q ok h => q O σ H τ _ ok ?_⟩
  unfold oSome at h
  cases ht : t τ with
  | ok d =>
    rw [ht, R.ok_bind] at h
    refine fun v H' L s r _ => ?_
    cases d with
    | int i => exact ⟨i, r.1, h H' s⟩
    | _ => exact h.elim
  | err n => rw [ht] at h; exact h
  | bad => rw [ht] at h; exact h
theorem Reps.cut {K : PySem.W.Frag} {H : Hp} {ds : List D} {vs : List V} {L : List Addr} (r : Reps K H ds vs L) (lo hi : Option Int) : ∃ L', Reps K H (cutL ds lo hi) (cutV vs lo hi) L' /\ List.Sublist L' L := by
  obtain ⟨L1, a, b⟩ := r.drop (HT.sIx ds.length 0 lo)
  obtain ⟨L2, c, d⟩ := a.take (HT.sIx ds.length ds.length hi - HT.sIx ds.length 0 lo)
  refine ⟨L2, ?_, d.trans b⟩
  unfold cutL cutV
  rw [r.length]
  exact c
theorem me_sl {lo hi : Option Expr} {tl th : Tn -> R (Option Int)} (he : ME X E Γ e t c) (hl : MO X E Γ lo tl) (hh : MO X E Γ hi th) : ME X E Γ (.Subscript e (.Slice lo hi none p2) pos) (eSl t tl th) .fresh := by
  obtain ⟨te, p, q⟩ := he
  obtain ⟨tl', pl, ql⟩ := hl
  obtain ⟨th', ph, qh⟩ := hh
  refine ⟨_, pe_slice (SlR.or sl_list (SlR.or sl_str sl_tup)) p pl ph, fun O σ H τ Q ok h => ?_⟩
  unfold eSl at h
  refine q O σ H τ _ ok (post.bind h fun dx hx h x H1 Lx s1 rx kx => ql O σ H1 τ _ (ok.same s1) ?_)
  cases h1 : tl τ with
  | err n => rw [h1] at h; exact fun C H' e s' => h C H' e (s1.trans s')
  | bad => rw [h1] at h; exact h
  | ok l =>
    rw [h1, R.ok_bind] at h
    refine fun H2 s2 => qh O σ H2 τ _ ((ok.same s1).same s2) ?_
    cases h2 : th τ with
    | err n => rw [h2] at h; exact fun C H' e s' => h C H' e ((s1.trans s2).trans s')
    | bad => rw [h2] at h; exact h
    | ok g =>
      rw [h2, R.ok_bind] at h
      refine fun H3 s3 => ?_
      have s03 := (s1.trans s2).trans s3
      have rx := (rx.same s2).same s3
      unfold slD at h
      cases dx with
      | lst ds =>
        dsimp only at h
        by_cases hz : D.imms ds = true
        · rw [if_pos hz] at h
          obtain ⟨a, vs, L', rfl, ha, _, rs⟩ := rx
          obtain ⟨L2, rc, _⟩ := (imms_nil rs hz).cut l g
          have e0 : L2 = [] := List.sublist_nil.mp ‹_›
          subst e0
          refine .inl ⟨a, vs, rfl, SqL.of ha, fun p hp => new_lst rc hp fun v H' L s r n1 n2 => h v H' L (s03.trans s) r ⟨n1, fun a ha => s03.non (n2 a ha)⟩⟩
        · rw [if_neg hz] at h; exact h.elim
      | str z =>
        dsimp only at h
        by_cases hz : z.length <= sizeLine
        · rw [if_pos hz] at h
          exact .inr (.inl ⟨z, rx.1, hz, h _ H3 [] s03 ⟨rfl, rfl⟩ RcOk.nil⟩)
        · rw [if_neg hz] at h; exact h.elim
      | tup ds =>
        dsimp only at h
        by_cases hz : D.imms ds = true /\ ¬ (HT.sIx ds.length 0 l = 0 /\ HT.sIx ds.length ds.length g = ds.length)
        · rw [if_pos hz] at h
          obtain ⟨a, vs, rfl, ha, rs⟩ := rx
          obtain ⟨L2, rc, _⟩ := (imms_nil rs hz.1).cut l g
          have e0 : L2 = [] := List.sublist_nil.mp ‹_›
          subst e0
          exact .inr (.inr ⟨a, vs, rfl, ha, by rw [rs.length]; exact hz.2, fun p hp => h _ _ [] (s03.trans (Same.new hp)) ⟨p, _, rfl, SqT.of upd_same, rc.same (Same.new hp)⟩ RcOk.nil⟩)
        · rw [if_neg hz] at h; exact h.elim
      | _ => exact h.elim
end
section
variable {X : Cx}
noncomputable def lenD : List D -> R D
  | [.lst ds] => .ok (.int ds.length)
  | [.tup ds] => .ok (.int ds.length)
  | [.frl ds] => .ok (.int ds.length)
  | [.str x] => if x.length <= sizeLine then .ok (.int x.length) else .bad
  | [.dic ks _] => .ok (.int ks.length)
  | _ => .bad
theorem N_len : NoErrL lenD := fun ds n h => by
  rcases ds with _ | ⟨d, _ | ⟨_, _⟩⟩
  · cases h
  · cases d with
    | str x =>
      replace h : (if x.length <= sizeLine then R.ok (D.int x.length) else .bad) = R.err n := h
      split at h <;> cases h
    | _ => cases h
  · cases d <;> cases h
theorem call_lenA : CallR X (.builtin "len") (fun xs H Q => (∃ p ys, xs = [.ref p] /\ (SqL X.K H p ys \/ SqT X.K H p ys) /\ Q (.int ys.length) H) \/ (∃ z, xs = [.str z] /\ z.length <= sizeLine /\ Q (.int z.length) H) \/ ∃ a kvs, xs = [V.ref a] /\ H a = some (.dK kvs) /\ Q (.int kvs.length) H) :=
  CallR.or call_len_seq (CallR.or call_len_str call_lenD)
theorem reps1 {K : PySem.W.Frag} {H : Hp} {d : D} {xs : List V} {L : List Addr} (r : Reps K H [d] xs L) : ∃ v, xs = [v] /\ Rep K H d v L := by
  obtain ⟨v, vs', L1, L2, e1, e2, r1, r2⟩ := r
  obtain ⟨rfl, rfl⟩ := r2
  rw [List.append_nil] at e2
  subst e2
  exact ⟨v, e1, r1⟩
theorem B_len {K : PySem.W.Frag} : ClB K (fun xs H Q => (∃ p ys, xs = [.ref p] /\ (SqL K H p ys \/ SqT K H p ys) /\ Q (.int ys.length) H) \/ (∃ z, xs = [.str z] /\ z.length <= sizeLine /\ Q (.int z.length) H) \/ ∃ a kvs, xs = [V.ref a] /\ H a = some (.dK kvs) /\ Q (.int kvs.length) H) lenD := by
  rintro H xs ds L Q r ⟨d, hg, q⟩
  have fin : ∀ n : Int, d = .int n -> Q (.int n) H := fun n e => q _ H [] (Same.refl H) (e ▸ ⟨rfl, rfl⟩) (by simp) (fun a ha => nomatch ha)
  rcases ds with _ | ⟨e, _ | ⟨_, _⟩⟩
  · cases hg
  · cases e with
    | lst es =>
      cases hg
      obtain ⟨v, rfl, a, vs, L', rfl, ha, _, rs⟩ := reps1 r
      exact .inl ⟨a, vs, rfl, .inl (SqL.of ha), fin _ (by rw [rs.length])⟩
    | tup es =>
      cases hg
      obtain ⟨v, rfl, a, vs, rfl, ha, rs⟩ := reps1 r
      exact .inl ⟨a, vs, rfl, .inr ha, fin _ (by rw [rs.length])⟩
    | frl es =>
      cases hg
      obtain ⟨v, rfl, a, vs, rfl, ha, _, _, rs⟩ := reps1 r
      exact .inl ⟨a, vs, rfl, .inl ha.sq, fin _ (by rw [rs.length])⟩
    | str x =>
      replace hg : (if x.length <= sizeLine then R.ok (D.int x.length) else .bad) = R.ok d := hg
      split at hg
      · rename_i hz
        cases hg
        obtain ⟨v, rfl, rfl, _⟩ := reps1 r
        exact .inr (.inl ⟨_, rfl, hz, fin _ rfl⟩)
      · cases hg
    | dic ks es =>
      cases hg
      obtain ⟨v, rfl, a, kvs, L', rfl, ha, _, hk, _⟩ := reps1 r
      exact .inr (.inr ⟨a, kvs, rfl, ha, fin _ (by rw [<- hk, List.length_map])⟩)
    | _ => cases hg
  · cases e <;> cases hg
noncomputable def intsOf : List D -> Option (List Int)
  | [] => some []
  | .int i :: ds => (intsOf ds).map (i :: ·)
  | _ => none
theorem intsOf_vals {K : PySem.W.Frag} {H : Hp} : ∀ {ds : List D} {vs : List V} {L : List Addr} {ns : List Int}, Reps K H ds vs L -> intsOf ds = some ns -> vs = ns.map V.int
  | [], _, _, ns, hq4, h => by
    obtain ⟨e, _⟩ := hq4
    subst e; cases h; rfl
  | .int i :: ds, _, _, ns, hq4, h => by
    obtain ⟨v, vs', L1, L2, e1, _, r1, r2⟩ := hq4
    subst e1
    have h : (intsOf ds).map (i :: ·) = some ns := h
    cases hi : intsOf ds with
    | none => rw [hi] at h; cases h
    | some ms =>
      rw [hi] at h
      cases h
      rw [r1.1, intsOf_vals r2 hi]; rfl
  | .non :: _, _, _, _, _, h => by cases h
  | .bl _ :: _, _, _, _, _, h => by cases h
  | .str _ :: _, _, _, _, _, h => by cases h
  | .tup _ :: _, _, _, _, _, h => by cases h
  | .lst _ :: _, _, _, _, _, h => by cases h
  | .dic _ _ :: _, _, _, _, _, h => by cases h
  | .frl _ :: _, _, _, _, _, h => by cases h
theorem vals_items : ∀ {ns : List Int} {us : List Value}, Vals (ns.map V.int) us -> ∃ xs : List (Int × Tok), us = xs.map (fun p => Value.int p.1 p.2) /\ xs.map (·.1) = ns
  | [], us, r => by cases r; exact ⟨[], rfl, rfl⟩
  | n :: ns, _, r => by
    rw [List.map_cons] at r
    cases r with
    | cons r1 r2 =>
      obtain ⟨t, rfl⟩ := r1
      obtain ⟨xs, rfl, e⟩ := vals_items r2
      exact ⟨(n, t) :: xs, rfl, by simp [e]⟩
noncomputable def sumD : List D -> R D
  | [.lst ds] => match intsOf ds with
    | some ns => .ok (.int ns.sum)
    | none => .bad
  | _ => .bad
theorem N_sum : NoErrL sumD := fun ds n h => by
  unfold sumD at h
  split at h
  · split at h <;> cases h
  · cases h
noncomputable def rSumL (K : PySem.W.Frag) : List V -> Hp -> VK -> Prop := fun xs H Q => ∃ (p : Addr) (ns : List Int), xs = [.ref p] /\ SqL K H p (ns.map V.int) /\ Q (.int ns.sum) H
theorem preSum_numAt (xs : List (Int × Tok)) : preSum (numAt xs.toArray) xs.toArray.size = (xs.map (·.1)).sum := by
  rw [preSum_eq, List.take_of_length_le (by simp)]
theorem call_sumL (hc : X.calm = true) : CallR X (.builtin "sum") (rSumL X.K) := by
  intro pins s σ H xs us Q I r h
  obtain ⟨p, ns, rfl, hs, q⟩ := h
  obtain ⟨u, rfl, ru⟩ := vals1 r
  obtain rfl : u = Value.ref p := ru
  obtain ⟨its, rv, pl, hz⟩ := I.list hs
  obtain ⟨ys, rfl, e⟩ := vals_items rv
  have hl : s.heap.IsList p (intItems ys.toArray) := by
    have := pl.isList
    simpa [intItems] using this
  refine sum_intListG (I.ok.hd hc) hl fun h' tk t' hk => ⟨.int ns.sum, H, I.kept hk, ⟨t', ?_⟩, q⟩
  rw [preSum_numAt, e]
theorem B_sum {K : PySem.W.Frag} : ClB K (rSumL K) sumD := by
  rintro H xs ds L Q r ⟨d, hg, q⟩
  unfold sumD at hg
  split at hg
  · split at hg
    · rename_i ds ns hn
      cases hg
      obtain ⟨v, rfl, a, vs, L', rfl, ha, _, rs⟩ := reps1 r
      exact ⟨a, ns, rfl, by rw [<- intsOf_vals rs hn]; exact SqL.of ha, q _ H [] (Same.refl H) ⟨rfl, rfl⟩ (by simp) (fun a ha => nomatch ha)⟩
    · cases hg
  · cases hg
noncomputable def list1D : List D -> R D
  | [.lst ds] => if D.imms ds = true then .ok (.lst ds) else .bad
  | [.tup ds] => if D.imms ds = true then .ok (.lst ds) else .bad
  | _ => .bad
theorem N_list1 : NoErrL list1D := fun ds n h => by
  unfold list1D at h
  split at h
  · split at h <;> cases h
  · split at h <;> cases h
  · cases h
theorem B_list1 {K : PySem.W.Frag} : ClB K (fun xs H Q => ∃ p ys, xs = [.ref p] /\ (SqL K H p ys \/ SqT K H p ys) /\ ∀ l, H l = none -> Q (.ref l) (upd H l (.lst ys))) list1D := by
  rintro H xs ds L Q r ⟨d, hg, q⟩
  unfold list1D at hg
  split at hg
  · split at hg
    · rename_i hz
      cases hg
      obtain ⟨v, rfl, a, vs, L', rfl, ha, _, rs⟩ := reps1 r
      exact ⟨a, vs, rfl, .inl (SqL.of ha), fun l hl => new_lst (imms_nil rs hz) hl q⟩
    · cases hg
  · split at hg
    · rename_i hz
      cases hg
      obtain ⟨v, rfl, a, vs, rfl, ha, rs⟩ := reps1 r
      exact ⟨a, vs, rfl, .inr ha, fun l hl => new_lst (imms_nil rs hz) hl q⟩
    · cases hg
  · cases hg
noncomputable def kindD : D -> String
  | .non => "NoneType"
  | .bl _ => "bool"
  | .int _ => "int"
  | .str _ => "str"
  | .tup _ => "tuple"
  | .lst _ => "list"
  | .frl _ => "list"
  | .dic _ _ => "dict"
theorem kindD_mem (d : D) : kindD d ∈ kinds := by cases d <;> simp [kindD, kinds]
noncomputable def isiB (d : D) (T : String) : Bool := kindD d == T || (kindD d == "bool" && T == "int")
noncomputable def rIsD (K : PySem.W.Frag) : List V -> Hp -> VK -> Prop := fun xs H Q => ∃ x T d L, xs = [x, .ty T] /\ Rep K H d x L /\ T ∈ (["int", "bool", "str", "list", "tuple", "dict"] : List String) /\ Q (.bl (isiB d T)) H
theorem kit_all {K : PySem.W.Frag} {d : D} {U : String} (hU : U ∈ (["int", "bool", "str", "list", "tuple", "dict"] : List String)) : PySem.W.kitOne K (.type (kindD d)) (.type U) = some (isiB d U) := by
  have hT := kindD_mem d
  unfold isiB
  simp only [List.mem_cons, List.not_mem_nil, or_false] at hU
  rcases hU with rfl | rfl | hU
  · rw [kit_int hT]
    simp
  · rw [kit_bool hT]
    have : (kindD d == "bool" && ("bool" : String) == "int") = false := by simp
    rw [this, Bool.or_false]
  · rw [kit_self hT (by simpa using hU)]
    have : (kindD d == "bool" && U == "int") = false := by
      rcases hU with rfl | rfl | rfl | rfl <;> simp
    rw [this, Bool.or_false]
theorem call_isD : CallR X (.builtin "isinstance") (rIsD X.K) := by
  intro pins s σ H xs us Q I r h
  obtain ⟨x, T, d, L, rfl, rd, hT, q⟩ := h
  obtain ⟨u, u2, rfl, rx, rT⟩ := vals2 r
  obtain rfl : u2 = Value.type T := rT
  have hk := kit_all (K := X.K) (d := d) hT
  have fin : ∀ tk, EP X pins σ Q (.bool (isiB d T)) { s with toks := tk } := fun tk => ⟨.bl _, H, I.tok tk, rfl, q⟩
  cases d with
  | non => obtain ⟨rfl, _⟩ := rd; exact isinst_ok I rx .non hk fin
  | bl b => obtain ⟨rfl, _⟩ := rd; exact isinst_ok I rx (.bl b) hk fin
  | int b => obtain ⟨rfl, _⟩ := rd; exact isinst_ok I rx (.int b) hk fin
  | str b => obtain ⟨rfl, _⟩ := rd; exact isinst_ok I rx (.str b) hk fin
  | lst _ => obtain ⟨a, _, _, rfl, e, _⟩ := rd; exact isinst_ok I rx (.lst e) hk fin
  | frl _ =>
    obtain ⟨a, vs, rfl, ha, _⟩ := rd
    obtain rfl : u = Value.ref a := rx
    obtain ⟨its, _, ⟨o, n, h1, h2, _⟩, _⟩ := I.list ha.sq
    exact PySem.W.kia_one PySem.W.kitx_list I.kIn ⟨o, h1, h2⟩ hk (fun z => nomatch z) fin
  | dic _ _ => obtain ⟨a, _, _, rfl, e, _⟩ := rd; exact isinst_ok I rx (.dK e) hk fin
  | tup _ =>
    obtain ⟨a, vs, rfl, ha, _⟩ := rd
    obtain rfl : u = Value.ref a := rx
    obtain ⟨its, _, ⟨o, h1, h2, _⟩, _⟩ := I.tuple ha
    exact PySem.W.kia_one PySem.W.kitx_tuple I.kIn ⟨o, h1, h2⟩ hk (fun z => nomatch z) fin
end
section
variable {X : Cx} {E : XK} {Γ : List Cl} {e c' : Expr} {t : Tn -> R D} {c : Rc} {pos p : Pos}
noncomputable def isiD (T : String) : D -> R D := fun d => .ok (.bl (isiB d T))
theorem me_isi {T : String} (hT : T ∈ (["int", "bool", "str", "list", "tuple", "dict"] : List String)) (hg : Gl X "isinstance") (hm : X.mg "isinstance" = none) (hc : PE X c' (tC (.ty T))) (he : ME X E Γ e t c) (hs : autoParam (starEach [e, c'] X.env = (false, eval e X.env) :: starEach [c'] X.env) L2.au3._auto_1) (hs2 : autoParam (starEach [c'] X.env = (false, eval c' X.env) :: starEach [] X.env) L2.au3._auto_1)
    (hpl : autoParam ((backTo pos (starEach [c'] X.env)).any (·.1) = false) L2.au3._auto_1) : ME X E Γ (.Call (.Name "isinstance" p) [e, c'] [] pos) (eUn (isiD T) t) .fresh := by
  obtain ⟨te, p', q⟩ := he
  refine ⟨_, pe_callB (x := "isinstance") call_isD hg hm Boot.«isinstance» (pa_cons p' (pa_cons hc pa_nil hs2) hs) (by decide) (by decide) hs hpl, fun O σ H τ Q ok h => q O σ H τ _ ok (post.bind h fun d _ h v H1 L s1 r1 _ => ?_)⟩
  exact ⟨v, T, d, L, rfl, r1, hT, h _ H1 [] s1 ⟨rfl, rfl⟩ RcOk.nil⟩
end
end L2
set_option maxRecDepth 100000
set_option maxHeartbeats 4000000
namespace L2
open PySem PySem.Spec PyProof.Rows
theorem putK_fresh {kvs : List (Key × V)} {k : Key} {v : V} (h : k ∉ kvs.map (·.1)) : putK kvs k v = kvs ++ [(k, v)] := by
  unfold putK
  rw [if_neg]
  intro z
  rw [List.any_eq_true] at z
  obtain ⟨p, hp, e⟩ := z
  exact h (List.mem_map.mpr ⟨p, hp, by simpa using e⟩)
section
variable {X : Cx} {E : XK} {Γ : List Cl} {e k v : Expr} {t : Tn -> R D} {u : Tn -> R (List D)} {c ca cb : Rc} {pos p : Pos} {ks : List Key} {keys : List (Option Expr)} {values : List Expr}
noncomputable def dict1D : List D -> R D
  | [.dic ks ds] => if D.imms ds = true then .ok (.dic ks ds) else .bad
  | _ => .bad
noncomputable def rDict1 : List V -> Hp -> VK -> Prop := fun xs H Q => ∃ a kvs, xs = [.ref a] /\ Rd H a (.dK kvs) /\ ∀ l, H l = none -> Q (.ref l) (upd H l (.dK kvs))
theorem call_dict1 : CallR X (.type "dict") rDict1 := by
  intro pins s σ H xs us Q I r h
  obtain ⟨a, kvs, rfl, hr, q⟩ := h
  obtain ⟨u, rfl, ru⟩ := vals1 r
  obtain rfl : u = Value.ref a := ru
  obtain ⟨z, hd, vs, rel, dd⟩ := dk_rd I.hok hr
  refine kt_call_dict hd dd (by rw [<- rel.length]; exact z) fun h' hm hs => ?_
  have hk : ∀ b o, s.heap.get? b = some o -> h'.get? b = some o := fun b o e => (hs.2 b (Nat.ne_of_lt (Heap.lt_size e))).trans (Heap.get?_push_of_some _ e)
  have hsz : s.heap.objs.size <= s.heap.objs.size := Nat.le_refl _
  refine ⟨.ref s.heap.objs.size, _, I.laid (o := .dK kvs) (t' := s.toks) hk hsz ?_, rfl, q _ (I.hok.fresh hsz)⟩
  refine ⟨z, ?_, vs, rel, hm⟩
  exact beq_eq_false_iff_ne.mpr (Ne.symm (Nat.ne_of_lt I.big))
theorem B_dict1 {K : PySem.W.Frag} : ClB K rDict1 dict1D := by
  rintro H xs ds L Q r ⟨d, hg, q⟩
  unfold dict1D at hg
  split at hg
  · split at hg
    · rename_i hz
      cases hg
      obtain ⟨v, rfl, a, kvs, L', rfl, ha, _, hk, hn, rs⟩ := reps1 r
      refine ⟨a, kvs, rfl, .inl ha, fun l hl => q _ _ [l] (Same.new hl) ⟨l, kvs, [], rfl, upd_same, rfl, hk, hn, (imms_nil rs hz).same (Same.new hl)⟩ (by simp) (fun b hb => by rw [List.mem_singleton.mp hb]; exact hl)⟩
    · cases hg
  · cases hg
end
end L2
set_option maxRecDepth 100000
set_option maxHeartbeats 4000000
namespace L2
open PySem PySem.Spec PyProof.Rows
theorem Room.u12 {k : Nat} {A : Around} (r : Room k A) : A.units + 12 < cLine := by have := r.un; lia
theorem Room.u1 {k : Nat} {A : Around} (r : Room k A) : A.units + 1 < cLine := by have := r.un; lia
noncomputable def compChk (outer : Scope) (N N' : List Str) (fr : List (Option Nat)) (scope : Scope) : Bool :=
  decide (scope.kind = .function) && scope.names.all (fun y => decide (y.2 ≠ .cell)) && scope.names.all (fun y => decide (y.2 ≠ .local) || decide (scope.names.lookup y.1 = some .local)) &&
  scope.names.all (fun y => decide (y.2 ≠ .free) || decide (outer.names.lookup y.1 = some .cell) || decide (outer.names.lookup y.1 = some .free)) && decide (fr.length = N'.length) &&
  (List.range fr.length).all fun j => match fr[j]?, N'[j]? with
    | some (some i), some x => decide (N[i]? = some x) && decide (scope.names.lookup x = some .free) && (decide (outer.names.lookup x = some .cell) || decide (outer.names.lookup x = some .free))
    | _, _ => true
theorem comp_scope {X : Cx} {N' : List Str} {fr : List (Option Nat)} {scope : Scope} (hc : ∀ x, (X.env.scope.names.lookup x = some .cell \/ X.env.scope.names.lookup x = some .free) -> ∃ c, X.env.cells.lookup x = some c) (h : compChk X.env.scope X.N N' fr scope = true) : CompScope X N' fr scope := by
  unfold compChk at h
  simp only [Bool.and_eq_true, decide_eq_true_eq, List.all_eq_true, Bool.or_eq_true] at h
  obtain ⟨⟨⟨⟨⟨h1, h2⟩, h3⟩, h4⟩, h5⟩, h6⟩ := h
  refine ⟨h1, h2, fun y hy e => ?_, fun y hy e => ?_, h5, fun j i x e1 e2 => ?_⟩
  · rcases h3 y hy with z | z
    · exact absurd e z
    · exact z
  · rcases h4 y hy with (z | z) | z
    · exact absurd e z
    · exact hc y.1 (.inl z)
    · exact hc y.1 (.inr z)
  · have hj : j < fr.length := (List.getElem?_eq_some_iff.mp e1).1
    have := h6 j (List.mem_range.mpr hj)
    rw [e1, e2] at this
    simp only [Bool.and_eq_true, decide_eq_true_eq, Bool.or_eq_true] at this
    exact ⟨this.1.1, this.1.2, this.2⟩
theorem cs_def {CX : CXT} {P : Program} {w : World} {K : PySem.W.Frag} {mg : Str -> Option Value} {base : Heap} {N : List Str} {qual : Str} {sc : Scope} {f : Addr} {cd : Value} {A : Around} {outer : List Env} {s : Shared} {H : Hp} {E : XK} {N' : List Str} {fr : List (Option Nat)} {scope : Scope}
    (nf : ∀ y ∈ sc.names, y.2 ≠ .free) (h : compChk sc N N' fr scope = true) : CompScope (cxOf CX P w K mg base N qual sc f cd A outer s H E) N' fr scope :=
  comp_scope (X := cxOf CX P w K mg base N qual sc f cd A outer s H E) (fun x hx => by
    rcases hx with hx | hx
    · exact cell_has hx
    · exact absurd rfl (nf _ (PySem.mem_of_lookup hx))) h
section
variable {X : Cx} {E : XK} {Γ Γ1 Γ' Γl : List Cl} {e : Expr} {t : Tn -> R D} {c : Rc} {pos pos' : Pos}
noncomputable def MGs (X : Cx) (es : List Expr) (is : List Nat) : Prop := ∃ g, PGs X es g /\ ∀ (vs : List V) (σ : St) (H : Hp) (Q : St -> Hp -> Prop), vs.length = is.length -> Q (setAll σ is vs) H -> g vs σ H Q
theorem mgs_nil : MGs X [] [] := ⟨gNil, pgs_nil, fun vs σ H Q hl q => by
  have : vs = [] := List.length_eq_zero_iff.mp hl
  subst this
  exact ⟨rfl, q⟩⟩
theorem mgs_cons {x : Expr} {es : List Expr} {i : Nat} {is : List Nat} (h : PG X x (gName i)) (r : MGs X es is) (hs : autoParam ((assignEach (x :: es) X.env).map (·.2) = assign x X.env :: (assignEach es X.env).map (·.2)) L2.au3._auto_1) : MGs X (x :: es) (i :: is) := by
  obtain ⟨g, p, q⟩ := r
  refine ⟨_, pgs_cons h p hs, fun vs σ H Q hl k => ?_⟩
  cases vs with
  | nil => cases hl
  | cons v vs => exact ⟨v, vs, rfl, q vs _ H Q (by simpa using hl) k⟩
theorem mg_many {es : List Expr} {k : Nat} {is : List Nat} (hc : X.calm = true) (h : MGs X es is) (hn : autoParam ((assignEach es X.env).length = is.length) L2.au3._auto_1) (hst : autoParam ((assignEach es X.env).findIdx? (·.1) = none) L2.au3._auto_1) : MG X (.Tuple es k pos) (.many is) := by
  obtain ⟨g, p, q⟩ := h
  exact ⟨g, pg_tup hc p hn hst, q⟩
theorem mg_one {i : Nat} {x : Expr} (h : PG X x (gName i)) : MG X x (.one i) := h
noncomputable def sAsg (g : Tgt) (t : Tn -> R D) : Tn -> R Fl := fun τ => (t τ).bind fun d => (g.asg d τ).bind fun τ1 => .ok (.nx τ1)
theorem ms_asg {tg : Expr} {g : Tgt} (h : ME X E Γ e t c) (hc : c ≠ .bor) (hg : MG X tg g) (hn : ∀ i ∈ g.slots, i < Γ.length) (hs : autoParam (swapsWithSole [tg] e pos.line X.env = pure false) L2.au3._auto_1) (hw : autoParam (swappedStores [tg] e X.env = pure none) L2.au3._auto_1)
    (h1 : autoParam ((assignEach [tg] X.env).map (·.2) = [assign tg X.env]) L2.au3._auto_1) : MS X E Γl Γ (.Assign [tg] e pos) (sAsg g t) (shrAll Γ g.slots) := by
  obtain ⟨te, p, q⟩ := h
  refine ⟨_, ps_asg p hg.pg hs hw h1, fun B σ H τ Z ok h => ?_⟩
  obtain ⟨O, eo, Od, hB⟩ := ok.base
  refine q O σ H τ _ eo ?_
  unfold sAsg at h
  cases ht : t τ with
  | ok d =>
    rw [ht, R.ok_bind] at h
    refine fun v H' L s r k => ?_
    obtain ⟨B1, sB, ok1, hB1⟩ := hB H' s
    have hL : ∀ a ∈ L, B1 a ≠ none := fun a ha => by rw [hB1 a (k.shr eo.dom hc a ha)]; exact r.there ha
    cases ha : g.asg d τ with
    | ok τ1 =>
      rw [ha, R.ok_bind] at h
      exact tgG_in ok1 r hL hn ha fun σ1 ok2 => h σ1 H' (ok2.rebase sB)
    | err n =>
      cases g with
      | one i => cases ha
      | many is =>
        unfold Tgt.asg at ha
        split at ha
        · cases ha
        · split at ha <;> cases ha
        · cases ha
    | bad => rw [ha] at h; exact h.elim
  | err n => rw [ht] at h; exact fun C H' e s => h C H' e (ok.ext.trans s)
  | bad => rw [ht] at h; exact h
theorem PIp.or {op : Operator} {r r' : R2} (h : PIp X op r) (h' : PIp X op r') : PIp X op (fun x y H Q => r x y H Q \/ r' x y H Q) := by
  intro pins s σ H x y v u Q I r1 r2 z
  rcases z with z | z
  · exact h pins s σ H x y v u Q I r1 r2 z
  · exact h' pins s σ H x y v u Q I r1 r2 z
structure Bl (mg : Str -> Option Value) : Prop where
  isinstance : mg "isinstance" = none
  int : mg "int" = none
  bool : mg "bool" = none
  str : mg "str" = none
  dict : mg "dict" = none
  list : mg "list" = none
  tuple : mg "tuple" = none
  len : mg "len" = none
  sum : mg "sum" = none
  max : mg "max" = none
  min : mg "min" = none
  all : mg "all" = none
  range : mg "range" = none
  enumerate : mg "enumerate" = none
  zip : mg "zip" = none
end
end L2
set_option maxRecDepth 100000
set_option maxHeartbeats 4000000
namespace L2
open PySem PySem.Spec PyProof.Rows
section
variable {X : Cx} {E : XK} {Γ Γ1 Γ' Γl : List Cl} {e : Expr} {t : Tn -> R D} {c : Rc} {pos pos' : Pos}
theorem mn (i : Nat) (k : Cl) {x : Str} (hN : autoParam (X.N[i]? = some x) L2.au3._auto_1) (hk : autoParam (Γ[i]? = some k) L2.au3._auto_1) (hd : autoParam (k ≠ .dead) L2.au1._auto_1) (hv : autoParam (Vis X.env.scope x) L2.au5._auto_1) (hb : autoParam ((x == ("__debug__" : Str)) = false) L2.au1._auto_1) (hcd : autoParam ((x == ("__classdict__" : Str)) = false) L2.au1._auto_1) :
    ME X E Γ (.Name x pos) (eVar i) (Rc.of k) := me_name hN hk hd hv hb hcd
theorem mvn (i : Nat) {x : Str} (hN : autoParam (X.N[i]? = some x) L2.au3._auto_1) (hk : autoParam (Γ[i]? = some .own) L2.au3._auto_1) (hv : autoParam (Vis X.env.scope x) L2.au5._auto_1) (hb : autoParam ((x == ("__debug__" : Str)) = false) L2.au1._auto_1) (hcd : autoParam ((x == ("__classdict__" : Str)) = false) L2.au1._auto_1) :
    MV X E Γ (.Name x pos) (eVar i) (Γ.set i .dead) := mv_name hN hk hv hb hcd
theorem st (i : Nat) {x : Str} (nd : X.N.Nodup) (h : MV X E Γ e t Γ1) (hi : autoParam (X.N[i]? = some x) L2.au3._auto_1) (hl : autoParam (i < Γ1.length) L2.au1._auto_1) (hx : autoParam (Loc X.env.scope x) L2.au7._auto_1) (hs : autoParam (swapsWith e (some (.Name x pos')) pos.line X.env = pure false) L2.au3._auto_1) (hf : autoParam (X.fn x = true \/ X.env.scope.names.lookup x = some .local) L2.au0._auto_1) :
    MS X E Γl Γ (.Assign [.Name x pos'] e pos) (sSet i t) (Γ1.set i .own) := ms_set nd hi hl h hx hs hf
theorem stS (i : Nat) {x : Str} (nd : X.N.Nodup) (h : ME X E Γ e t c) (hc : autoParam (c ≠ .bor) L2.au1._auto_1) (hi : autoParam (X.N[i]? = some x) L2.au3._auto_1) (hl : autoParam (i < Γ.length) L2.au1._auto_1) (hx : autoParam (Loc X.env.scope x) L2.au7._auto_1) (hs : autoParam (swapsWith e (some (.Name x pos')) pos.line X.env = pure false) L2.au3._auto_1) (hf : autoParam (X.fn x = true \/ X.env.scope.names.lookup x = some .local) L2.au0._auto_1) :
    MS X E Γl Γ (.Assign [.Name x pos'] e pos) (sSet i t) (Γ.set i .shr) := ms_setS nd hi hl h hc hx hs hf
theorem pgn (i : Nat) {x : Str} (nd : X.N.Nodup) (hi : autoParam (X.N[i]? = some x) L2.au3._auto_1) (hx : autoParam (Loc X.env.scope x) L2.au7._auto_1) (hf : autoParam (X.fn x = true \/ X.env.scope.names.lookup x = some .local) L2.au0._auto_1) : PG X (.Name x pos) (gName i) := pg_name nd hi hx hf
theorem app (i : Nat) {x : Str} {p0 p1 p2 : Pos} (h : MV X E Γ e t Γ1) (hN : autoParam (X.N[i]? = some x) L2.au3._auto_1) (h0 : autoParam (Γ[i]? = some .own) L2.au3._auto_1) (hk : autoParam (Γ1[i]? = some .own) L2.au3._auto_1) (hv : autoParam (Vis X.env.scope x) L2.au5._auto_1) (hb : autoParam ((x == ("__debug__" : Str)) = false) L2.au1._auto_1) (hcd : autoParam ((x == ("__classdict__" : Str)) = false) L2.au1._auto_1)
    (hbase : autoParam (attributeBase (.Name x p0) "append" X.env (eval (.Name x p0) X.env) = eval (.Name x p0) X.env) L2.au3._auto_1)
    (hfew : autoParam (((backTo p2 (starEach [e] X.env)).all (fun x => !x.1) && (backToKw p2 (keywordEach [] X.env)).all (fun x => x.1.isSome) && decide ([e].length + ([] : List Keyword).length + (if ([] : List Keyword).isEmpty then 0 else 1) < 30)) = true) L2.au3._auto_1)
    (hline : autoParam ((p1.endLine == p2.line) = true) L2.au3._auto_1) (hs : autoParam (starEach [e] X.env = (false, eval e X.env) :: starEach [] X.env) L2.au3._auto_1) (hplain : autoParam ((backTo p2 (starEach [] X.env)).any (·.1) = false) L2.au3._auto_1)
    (hsw : autoParam (swapsWith (.Call (.Attribute (.Name x p0) "append" p1) [e] [] p2) none pos.line X.env = pure false) L2.au3._auto_1) :
    MS X E Γl Γ (.Expr (.Call (.Attribute (.Name x p0) "append" p1) [e] [] p2) pos) (sApp i t) Γ1 := ms_append hN h0 h hk hv hb hcd hbase hfew hline hs hplain hsw
theorem put (i : Nat) {x : Str} {p0 p1 : Pos} {ix : Expr} {ti : Tn -> R D} (h : MV X E Γ e t Γ1) (hi : ME X E Γ1 ix ti c) (hN : autoParam (X.N[i]? = some x) L2.au3._auto_1) (hk : autoParam (Γ1[i]? = some .own) L2.au3._auto_1) (hv : autoParam (Vis X.env.scope x) L2.au5._auto_1) (hb : autoParam ((x == ("__debug__" : Str)) = false) L2.au1._auto_1) (hcd : autoParam ((x == ("__classdict__" : Str)) = false) L2.au1._auto_1)
    (ha : autoParam (∀ v, assign (.Subscript (.Name x p0) ix p1) X.env v = (do
      let ov <- holding [v] (eval (.Name x p0) X.env)
      let iv <- holding [v, ov] (eval ix X.env)
      standAt p1
      holding [v, ov, iv] (setItem ov iv v)
      release [v, ov, iv] [])) L2.au2._auto_1)
    (hs : autoParam (swapsWithSole [.Subscript (.Name x p0) ix p1] e pos.line X.env = pure false) L2.au3._auto_1) (hw : autoParam (swappedStores [.Subscript (.Name x p0) ix p1] e X.env = pure none) L2.au3._auto_1)
    (h1 : autoParam ((assignEach [.Subscript (.Name x p0) ix p1] X.env).map (·.2) = [assign (.Subscript (.Name x p0) ix p1) X.env]) L2.au3._auto_1) :
    MS X E Γl Γ (.Assign [.Subscript (.Name x p0) ix p1] e pos) (sPut i t ti) Γ1 := ms_put hN h hi hk hv hb hcd ha hs hw h1
end
end L2
set_option maxRecDepth 100000
set_option maxHeartbeats 4000000
namespace L2
open PySem PySem.Spec PyProof.Rows
section
variable {P : Program} {w : World} {K : PySem.W.Frag} {mg : Str -> Option Value} {base : Heap} {x : Str} {st : Stmt} {N ps : List Str} {k : Nat} {t : Tn -> R Fl} {Γ' : List Cl}
theorem mir_fn {f : Addr} {oc : Value} {od an : Option Addr} {osl : Array (Option Value)} {kV doc pm cdv ct : Value} (lk : K.lookup f = some ⟨oc, od, .func (PySem.W.fnOf x x (defArgs st) (defBody st) (defScope st) .none kV doc pm an cdv ct), osl⟩) (hcd : PySem.W.codeIn K cdv x = true)
    (S : FnScope N ps (defScope st)) (hn : ps.length <= N.length)
    (hbody : ∀ (f : Addr) (cdv : Value) (A : Around) (outer : List Env) (s : Shared) (H : Hp) (E : XK), Room k (A.deeper (envOfC x (defScope st) s.heap.objs.size f cdv)) ->
      MSs (cxOf (cxx P w) P w K mg base N x (defScope st) f cdv A outer s H E) E [] (prmC N.length ps.length) (defBody st) t Γ') :
    FnOk P w K mg base (cxx P w) (k + 1) f (PySem.W.fnOf x x (defArgs st) (defBody st) (defScope st) .none kV doc pm an cdv ct) ps (spM K (runB N.length t) ps.length) := by
  refine fn_of lk hcd S (fun vs H Q E h => h.1) fun A outer s H vs Q E hr h => ?_
  obtain ⟨hl, ds, L, r, h⟩ := h
  obtain ⟨ts, p, q⟩ := hbody f cdv A outer s H E hr
  refine ⟨ts, p, q H (start N vs) H _ _ (hl ▸ SOk.start r (by lia)) ?_⟩
  unfold runB at h
  cases ht : t (ds.map some ++ List.replicate (N.length - ds.length) none) with
  | ok f =>
    rw [ht] at h
    cases f with
    | nx τ' => exact fun σ' H' ok' => h .non H' [] ok'.ext ⟨rfl, rfl⟩ RcOk.nil
    | rt d => exact fun v H' L s r n1 n2 => h v H' L s r ⟨n1, n2⟩
    | bk τ' => exact h.elim
    | ct τ' => exact h.elim
  | err n => rw [ht] at h; exact fun C H' e s => h C H' e s
  | bad => rw [ht] at h; exact h.elim
end
theorem imms_ints : ∀ ns : List Int, D.imms (ns.map D.int) = true
  | [] => rfl
  | n :: ns => by rw [List.map_cons]; show (true && D.imms (ns.map D.int)) = true; rw [imms_ints ns]; rfl
theorem reps_ints {K : PySem.W.Frag} {H : Hp} : ∀ ns : List Int, Reps K H (ns.map D.int) (ns.map V.int) []
  | [] => Reps.nil
  | n :: ns => Reps.cons (L1 := []) ⟨rfl, rfl⟩ (reps_ints ns)
theorem spM_law {K : PySem.W.Frag} {H : Hp} {a : Addr} {ns : List Int} {F : List D -> R D} (hO : Only H) (hS : SqL K H a (ns.map V.int)) (hF : F [.frl (ns.map D.int)] = .ok (.bl true)) : spM K F 1 [.ref a] H (fun v _ => v = .bl true) fun _ _ _ => False := by
  have hs : SqF K H a (ns.map V.int) := by
    rcases hS with (z | z) | z
    · rcases hO a with w | ⟨o, xs, w⟩
      · rw [w] at z; cases z
      · rw [w] at z; cases z
    · exact .inl z
    · exact .inr z
  refine ⟨rfl, [.frl (ns.map D.int)], [], Reps.cons (L1 := []) ⟨a, ns.map V.int, rfl, hs, rfl, imms_ints ns, reps_ints ns⟩ Reps.nil, ?_⟩
  rw [hF]
  exact fun v H' L s r _ => r.1
theorem law_walk {Fm : List D -> R D} {k : Nat} {x : Str} {l : PySem.W.OpenLaw} {q : Program} {loose : List Str} {XP : (Str -> Option Value) -> Heap -> Prop} {YP : World -> Heap -> Prop} {d : DefRec} {K : Params -> PySem.W.Frag} (hF : ∀ ns : List Int, ns.length <= 63 -> Fm [.frl (ns.map D.int)] = .ok (.bl true)) (hr : Room k callerA) (hn : l.most = some 63) (hdf : d.params.defaults = [])
    (hY : ∀ (w : World) (h : Heap), YP w h -> (K w.params).In h)
    (F : ∀ (w : World) (mg : Str -> Option Value) (fa : Addr) (h : Heap), (K w.params).In h -> h.Ns mainGlobals mg -> mg d.name = some (.ref fa) ->
      ∃ fd : FuncData, (∀ (s : Shared) (u : Value), BindsTo s fd ⟨[u], []⟩ [(x, u)]) /\ ∀ base : Heap, (K w.params).In base -> base.Ns mainGlobals mg -> FnOk l.prog w (K w.params) mg base (cxx l.prog w) k fa fd [x] (spM (K w.params) Fm 1)) :
    PySem.W.WalkO q loose XP YP l.row.toRowW d [] (fun f vs => PySem.call f vs) :=
  L2.walk_of (n := 63) (k := k) (x := x) (CX := fun w => cxx l.prog w) (sp := fun w => spM (K w.params) Fm 1) hn (by decide) hdf hr hY F (fun w H a ns hl hO hS => spM_law hO hS (hF ns hl)) fun w H s e s' z => cxx_no z
end L2
set_option maxRecDepth 100000
set_option maxHeartbeats 4000000
namespace L2
open PySem PySem.Spec PyProof.Rows
section
variable {i j : Int} {C : Int -> Int -> Bool} {g : Int -> Int -> D}
theorem ev_add : addD (.int i) (.int j) = .ok (.int (i + j)) := rfl
theorem ev_int : L2.intD C g (.int i) (.int j) = if C i j = true then .ok (g i j) else .bad := rfl
theorem ev_mulr (h1 : -(2 ^ 64) < j) (h2 : j < 2 ^ 64) : mulD (.int i) (.int j) = .ok (.int (i * j)) := by
  have : ((decide (-(2 ^ 64) < i) && decide (i < 2 ^ 64)) || (decide (-(2 ^ 64) < j) && decide (j < 2 ^ 64))) = true := by rw [decide_eq_true h1, decide_eq_true h2]; simp
  exact if_pos this
theorem ev_mull (h1 : -(2 ^ 64) < i) (h2 : i < 2 ^ 64) : mulD (.int i) (.int j) = .ok (.int (i * j)) := by
  have : ((decide (-(2 ^ 64) < i) && decide (i < 2 ^ 64)) || (decide (-(2 ^ 64) < j) && decide (j < 2 ^ 64))) = true := by rw [decide_eq_true h1, decide_eq_true h2]; simp
  exact if_pos this
theorem ev_mulR (h1 : -18446744073709551616 < j) (h2 : j < 18446744073709551616) : mulD (.int i) (.int j) = .ok (.int (i * j)) := ev_mulr (by lia) (by lia)
theorem ev_mulL (h1 : -18446744073709551616 < i) (h2 : i < 18446744073709551616) : mulD (.int i) (.int j) = .ok (.int (i * j)) := ev_mull (by lia) (by lia)
theorem ev_fdiv (h1 : 0 < j) (h2 : j < 1073741824) : fdivD (.int i) (.int j) = .ok (.int (i / j)) := by
  simp [fdivD, ev_int, h1, h2]
theorem ev_mod (h1 : 0 < j) : modD (.int i) (.int j) = .ok (.int (i % j)) := by
  simp [modD, ev_int, h1]
theorem ev_eqi {neg : Bool} : eqR neg (.int i) (.int j) = .ok (.bl (if neg = true then !(i == j) else i == j)) := by
  cases neg <;> rfl
end
theorem atI_ok {α : Type} {xs : List α} {i : Int} {x : α} (h0 : 0 <= i) (h : xs[i.toNat]? = some x) : atI xs i = some x := by
  have hj : i.toNat < xs.length := (List.getElem?_eq_some_iff.mp h).1
  have := atI_nat h
  rw [Int.toNat_of_nonneg h0] at this
  exact this
theorem ev_ixl {ds : List D} {i : Int} {d : D} (h : atI ds i = some d) : ixD (.lst ds) (.int i) = .ok d := by show (match atI ds i with | some d => R.ok d | none => R.bad) = _; rw [h]
theorem ev_ixf {ds : List D} {i : Int} {d : D} (h : atI ds i = some d) : ixD (.frl ds) (.int i) = .ok d := by show (match atI ds i with | some d => R.ok d | none => R.bad) = _; rw [h]
theorem ev_ixs {x : Str} {i : Int} {c : Nat} (hz : x.length <= sizeLine) (h : atI x.cps.toList i = some c) : ixD (.str x) (.int i) = .ok (.str ⟨#[c]⟩) := by show (if x.length <= sizeLine then (match atI x.cps.toList i with | some c => R.ok (D.str ⟨#[c]⟩) | none => R.bad) else R.bad) = _; rw [if_pos hz, h]
theorem ev_ix1 {a b : D} {ds : List D} : ixD (.tup (a :: b :: ds)) (.int 1) = .ok b := by
  have : atI (a :: b :: ds) 1 = some b := atI_nat (j := 1) rfl
  show (match atI (a :: b :: ds) 1 with | some d => R.ok d | none => R.bad) = _; rw [this]
theorem ev_ix2 {a b c : D} {ds : List D} : ixD (.tup (a :: b :: c :: ds)) (.int 2) = .ok c := by
  have : atI (a :: b :: c :: ds) 2 = some c := atI_nat (j := 2) rfl
  show (match atI (a :: b :: c :: ds) 2 with | some d => R.ok d | none => R.bad) = _; rw [this]
theorem ev_lenf {ds : List D} : lenD [.frl ds] = .ok (.int ds.length) := rfl
theorem ev_lens {x : Str} (h : x.length <= sizeLine) : lenD [.str x] = .ok (.int x.length) := if_pos h
theorem intsOf_map : ∀ ns : List Int, intsOf (ns.map D.int) = some ns
  | [] => rfl
  | n :: ns => by rw [List.map_cons]; show (intsOf (ns.map D.int)).map (n :: ·) = _; rw [intsOf_map ns]; rfl
theorem ev_sum {ns : List Int} : sumD [.lst (ns.map D.int)] = .ok (.int ns.sum) := by
  simp only [sumD, intsOf_map]
theorem imms_map {α : Type} {f : α -> D} (h : ∀ a, (f a).imm = true) : ∀ xs : List α, D.imms (xs.map f) = true
  | [] => rfl
  | x :: xs => by rw [List.map_cons]; show ((f x).imm && D.imms (xs.map f)) = true; rw [h, imms_map h xs]; rfl
theorem forGo_inv {asg : D -> Tn -> R Tn} {body : Tn -> R Fl} (Iv : Nat -> Tn -> Prop) : ∀ (ds : List D) (k : Nat) (τ : Tn), Iv k τ ->
    (∀ i d τ, ds[i]? = some d -> Iv (k + i) τ -> ∃ τ1 τ2, asg d τ = .ok τ1 /\ (body τ1 = .ok (.nx τ2) \/ body τ1 = .ok (.ct τ2)) /\ Iv (k + i + 1) τ2) -> ∃ τ', forGo asg body ds τ = .ok (.nx τ') /\ Iv (k + ds.length) τ'
  | [], k, τ, h0, _ => ⟨τ, rfl, h0⟩
  | d :: ds, k, τ, h0, hs => by
    obtain ⟨τ1, τ2, e1, e2, h2⟩ := hs 0 d τ rfl h0
    obtain ⟨τ', e3, h3⟩ := forGo_inv Iv ds (k + 1) τ2 (by simpa using h2) fun i d' τ' hd hi => by
      obtain ⟨τ3, τ4, a, b, c⟩ := hs (i + 1) d' τ' (by simpa using hd) (by rw [<- Nat.add_assoc, Nat.add_right_comm]; exact hi)
      have e : k + 1 + i + 1 = k + (i + 1) + 1 := by lia
      exact ⟨τ3, τ4, a, b, e ▸ c⟩
    refine ⟨τ', ?_, by rw [List.length_cons, Nat.add_comm ds.length 1, <- Nat.add_assoc]; exact h3⟩
    unfold forGo
    rw [e1, R.ok_bind]
    rcases e2 with e2 | e2 <;> rw [e2, R.ok_bind] <;> exact e3
theorem compL_enc {α : Type} {enc : α -> D} {f : D -> R (Option D)} {o : α -> Option D} : ∀ {xs : List α}, (∀ x ∈ xs, f (enc x) = .ok (o x)) -> compL f (xs.map enc) = .ok (xs.filterMap o)
  | [], _ => rfl
  | x :: xs, h => by
    rw [List.map_cons]
    unfold compL
    rw [h x List.mem_cons_self, R.ok_bind, compL_enc fun y hy => h y (List.mem_cons_of_mem _ hy), R.ok_bind]
    cases ho : o x with
    | none => simp [List.filterMap_cons, ho]
    | some d => simp [List.filterMap_cons, ho]
theorem rng_get {lo : Int} {n i : Nat} {d : D} (h : (rng lo n)[i]? = some d) : i < n /\ d = .int (lo + i) := by
  unfold rng at h
  rw [List.getElem?_map] at h
  by_cases hi : i < n
  · rw [List.getElem?_range hi] at h
    exact ⟨hi, (Option.some.inj h).symm⟩
  · rw [List.getElem?_eq_none (by simp; lia)] at h; cases h
theorem rng_len {lo : Int} {n : Nat} : (rng lo n).length = n := by simp [rng]
theorem ev_rng1 {j : Int} (h1 : -(2 ^ 62) <= j) (h2 : j < 2 ^ 62) : rng1 [.int j] = .ok (rng 0 j.toNat) := if_pos ⟨h1, h2⟩
theorem noErr_ok' {α : Type} (a : α) : noErr (R.ok a) = .ok a := rfl
end L2
set_option maxRecDepth 100000
set_option maxHeartbeats 4000000
namespace L2
open PySem PySem.Spec PyProof.Rows
theorem ev_adds {x y : Str} (h : x.length + y.length <= sizeLine) : addD (.str x) (.str y) = .ok (.str (x ++ y)) := if_pos h
theorem ev_sub {i j : Int} : subD (.int i) (.int j) = .ok (.int (i - j)) := rfl
theorem ev_lt {i j : Int} : ltD (.int i) (.int j) = .ok (.bl (decide (i < j))) := rfl
theorem ev_le {i j : Int} : leD (.int i) (.int j) = .ok (.bl (decide (i <= j))) := rfl
theorem ev_gt {i j : Int} : gtD (.int i) (.int j) = .ok (.bl (decide (j < i))) := rfl
theorem ev_neg {i : Int} : negD (.int i) = .ok (.int (-i)) := rfl
theorem fm_some {α β : Type} (f : α -> β) (xs : List α) : xs.filterMap (fun x => some (f x)) = xs.map f := by
  induction xs with
  | nil => rfl
  | cons x xs ih => simp
end L2
set_option maxRecDepth 100000
set_option maxHeartbeats 4000000
namespace L2
open PySem PySem.Spec PyProof.Rows
noncomputable def appD (i : Nat) (τ : Tn) (ds : List D) (d : D) : R Fl := if ds.length < sizeLine then .ok (.nx (τ.set i (some (.lst (ds ++ [d]))))) else .bad
noncomputable def appL (i : Nat) (t : Tn -> R D) (τ : Tn) : D -> R Fl
  | .lst ds => (t τ).bind fun d => appD i τ ds d
  | _ => .bad
theorem ev_sApp {i : Nat} {t : Tn -> R D} {τ : Tn} : sApp i t τ = (eVar i τ).bind (appL i t τ) := by
  unfold sApp appL appD
  rfl
theorem ev_appL {i : Nat} {t : Tn -> R D} {τ : Tn} {ds : List D} : appL i t τ (.lst ds) = (t τ).bind fun d => appD i τ ds d := rfl
theorem ev_appD {i : Nat} {τ : Tn} {ds : List D} {d : D} (h : ds.length < 16777216) : appD i τ ds d = .ok (.nx (τ.set i (some (.lst (ds ++ [d]))))) := if_pos (by rw [sizeLine_eq]; exact h)
noncomputable def lstD (ys : List D) : R D := if ys.length <= sizeLine then .ok (.lst ys) else .bad
theorem ev_lstD {ys : List D} (h : ys.length <= 16777216) : lstD ys = .ok (.lst ys) := if_pos (by rw [sizeLine_eq]; exact h)
theorem ev_eComp {fr : List (Option Nat)} {it : Tn -> R (List D)} {g : Tgt} {c : Tn -> R Bool} {e : Tn -> R D} {τ : Tn} : eComp fr it g c e τ = (it τ).bind fun xs => (compL (compF g.asg c e (compT fr τ)) xs).bind lstD := rfl
theorem ev_ctN {τ : Tn} : compT [] τ = [] := rfl
theorem ev_ctO {fr : List (Option Nat)} {τ : Tn} : compT (none :: fr) τ = none :: compT fr τ := rfl
theorem ev_ctS {i : Nat} {fr : List (Option Nat)} {τ : Tn} : compT (some i :: fr) τ = (τ[i]?).join :: compT fr τ := rfl
theorem ev_join {a : Option D} : (some a).join = a := rfl
noncomputable def immD (d : D) : R D := if d.imm = true then .ok d else .bad
theorem ev_eImm {t : Tn -> R D} {τ : Tn} : eImm t τ = (t τ).bind immD := rfl
theorem ev_immI {i : Int} : immD (.int i) = .ok (.int i) := rfl
theorem ev_immT {ds : List D} (h : D.imms ds = true) : immD (.tup ds) = .ok (.tup ds) := if_pos h
theorem ev_imsN : D.imms [] = true := rfl
theorem ev_imsI {i : Int} {ds : List D} : D.imms (.int i :: ds) = D.imms ds := Bool.true_and _
theorem ev_imsS {i : Str} {ds : List D} : D.imms (.str i :: ds) = D.imms ds := Bool.true_and _
noncomputable def goF (asg : D -> Tn -> R Tn) (body : Tn -> R Fl) (ds : List D) : Fl -> R Fl
  | .nx τ2 => forGo asg body ds τ2
  | .ct τ2 => forGo asg body ds τ2
  | .bk τ2 => .ok (.nx τ2)
  | .rt r => .ok (.rt r)
theorem ev_forC {asg : D -> Tn -> R Tn} {body : Tn -> R Fl} {d : D} {ds : List D} {τ : Tn} : forGo asg body (d :: ds) τ = (asg d τ).bind fun τ1 => (body τ1).bind (goF asg body ds) := rfl
theorem ev_goN {asg : D -> Tn -> R Tn} {body : Tn -> R Fl} {ds : List D} {τ : Tn} : goF asg body ds (.nx τ) = forGo asg body ds τ := rfl
theorem ev_goR {asg : D -> Tn -> R Tn} {body : Tn -> R Fl} {ds : List D} {d : D} : goF asg body ds (.rt d) = .ok (.rt d) := rfl
theorem ev_for {it : Tn -> R (List D)} {g : Tgt} {B : Tn -> R Fl} {τ : Tn} {ds : List D} {f : R Fl} (h1 : it τ = .ok ds) (h2 : forGo g.asg B ds τ = f) : sFor it g B τ = f := by
  unfold sFor
  rw [h1]
  exact h2
end L2
set_option maxRecDepth 100000
set_option maxHeartbeats 4000000
namespace L2
open PySem PySem.Spec PyProof.Rows
section
variable {X : Cx} {E : XK} {Γ : List Cl} {e : Expr} {t : Tn -> R D} {c : Rc} {pos p2 : Pos}
end
end L2
set_option maxRecDepth 100000
set_option maxHeartbeats 4000000
namespace L2
open PySem PySem.Spec PyProof.Rows
section
variable {X : Cx}
end
end L2
set_option maxRecDepth 100000
set_option maxHeartbeats 4000000
namespace L2
open PySem PySem.Spec PyProof.Rows
section
variable {X : Cx} {tg : Expr}
end
section
variable {X : Cx} {E : XK} {Γ : List Cl} {tg : Expr} {u : Tn -> R (List D)} {c : Rc} {p pos : Pos}
end
end L2
set_option maxRecDepth 100000
set_option maxHeartbeats 4000000
namespace L2
open PySem PySem.Spec PyProof.Rows
end L2
set_option maxRecDepth 100000
set_option maxHeartbeats 4000000
namespace L2
open PySem PySem.Spec PyProof.Rows
noncomputable def tuple1D : List D -> R D
  | [.lst ds] => if D.imms ds = true then .ok (.tup ds) else .bad
  | [.tup ds] => if D.imms ds = true then .ok (.tup ds) else .bad
  | _ => .bad
theorem N_tuple1 : NoErrL tuple1D := fun ds n h => by
  unfold tuple1D at h
  split at h
  · split at h <;> cases h
  · split at h <;> cases h
  · cases h
theorem B_tuple1 {K : PySem.W.Frag} : ClB K (fun xs H Q => ∃ p ys, xs = [.ref p] /\ ((SqL K H p ys /\ ∀ l, H l = none -> Q (.ref l) (upd H l (.tup ys))) \/ (SqT K H p ys /\ Q (.ref p) H))) tuple1D := by
  rintro H xs ds L Q r ⟨d, hg, q⟩
  unfold tuple1D at hg
  split at hg
  · split at hg
    · rename_i ds hz
      cases hg
      obtain ⟨v, rfl, a, vs, L', rfl, ha, _, rs⟩ := reps1 r
      have rs0 := imms_nil rs hz
      refine ⟨a, vs, rfl, .inl ⟨SqL.of ha, fun l hl => q _ _ [] (Same.new hl) ⟨l, vs, rfl, SqT.of upd_same, rs0.same (Same.new hl)⟩ (by simp) (fun a ha => nomatch ha)⟩⟩
    · cases hg
  · split at hg
    · rename_i ds hz
      cases hg
      obtain ⟨v, rfl, a, vs, rfl, ha, rs⟩ := reps1 r
      have rs0 := imms_nil rs hz
      exact ⟨a, vs, rfl, .inr ⟨ha, q _ H [] (Same.refl H) ⟨a, vs, rfl, ha, rs0⟩ (by simp) (fun a ha => nomatch ha)⟩⟩
    · cases hg
  · cases hg
end L2
set_option maxRecDepth 100000
set_option maxHeartbeats 4000000
namespace L2
open PySem PySem.Spec PyProof.Rows
section
variable {X : Cx}
end
end L2
set_option maxRecDepth 100000
set_option maxHeartbeats 4000000
namespace L2
open PySem PySem.Spec PyProof.Rows
section
variable {X : Cx} {E : XK} {Γ : List Cl} {o e : Expr} {es : List Expr} {t : Tn -> R D} {u : Tn -> R (List D)} {c ca : Rc} {name : Str} {apos cpos : Pos} {id : String}
end
noncomputable def strsOf : List D -> Option (List Str)
  | [] => some []
  | .str b :: ds => (strsOf ds).map (b :: ·)
  | _ => none
noncomputable def joinD (z : Str) : List D -> R D
  | [.lst ds] => match strsOf ds with
    | some ys => if (ys.map (·.length)).sum + ys.length * z.length <= 16777216 then .ok (.str (Txt.join z ys)) else .bad
    | none => .bad
  | [.tup ds] => match strsOf ds with
    | some ys => if (ys.map (·.length)).sum + ys.length * z.length <= 16777216 then .ok (.str (Txt.join z ys)) else .bad
    | none => .bad
  | _ => .bad
end L2
set_option maxRecDepth 100000
set_option maxHeartbeats 4000000
namespace L2
open PySem PySem.Spec PyProof.Rows
theorem TupN.push {h : Heap} {a : Addr} {items : Array Value} (x : TupN h a items) (o : Obj) : TupN (h.push o) a items := let ⟨o', ho, r⟩ := x; ⟨o', Heap.get?_push_of_some o ho, r⟩
theorem TupN.at {h h' : Heap} {a : Addr} {items : Array Value} (x : TupN h a items) (k : ∀ b o, h.get? b = some o -> h'.get? b = some o) : TupN h' a items := let ⟨o', ho, r⟩ := x; ⟨o', k _ _ ho, r⟩
theorem TupN.isTuple {h : Heap} {a : Addr} {items : Array Value} (x : TupN h a items) : h.IsTuple a items := x.tup
theorem isTuple_at {h h' : Heap} {a : Addr} {items : Array Value} (x : h.IsTuple a items) (k : ∀ b o, h.get? b = some o -> h'.get? b = some o) : h'.IsTuple a items := let ⟨o', ho, r⟩ := x; ⟨o', k _ _ ho, r⟩
theorem Inv.tupN {X : Cx} {pins : List (Addr × Obj)} {σ : St} {H : Hp} {s : Shared} {a : Addr} {xs : List V} (I : Inv X pins σ H s) (h : SqT X.K H a xs) : ∃ its : List Value, Vals xs its /\ TupN s.heap a its.toArray /\ xs.length <= sizeLine := by
  rcases h with h | ⟨o, its, n, hk, hc, hn, hs, hz, r⟩
  · obtain ⟨z, its, r, p⟩ := h.ok I.hok
    exact ⟨its, r, p, z⟩
  · refine ⟨its.toList, r, ⟨o, I.kIn a o hk, hc, hn, n, by simpa using hs⟩, ?_⟩
    have e := r.length
    simp only [Array.length_toList] at e
    omega
theorem miss_tuple_keys : typeLookup (.type "tuple") "keys" = pure none := by rw [typeLookup_type, builtinLookup_eq_fast]; kernel_rfl
set_option maxRecDepth 8000 in
theorem getAttr?_miss_tuple {prog : Program} {w : World} {A : Around} {E : Value -> Shared -> Prop} {s : Shared} {a : Addr} {o : Obj} {xs : Array Value} {k : Nat} {name : Str} {Q : Option Value -> Shared -> Prop}
    (hx : s.heap.get? a = some o) (hc : o.cls = .type "tuple") (hdat : o.data = .seq xs k) (hd : o.dict = none) (hmiss : typeLookup (.type "tuple") name = pure none) (hname : (["__module__", "__name__", "__qualname__", "__doc__", "__annotations__"] : List Str).contains name = false) (hA : A.handled = none)
    (h : ∀ h' tk, (∀ b o, s.heap.get? b = some o -> h'.get? b = some o) -> Q none { s with heap := h', toks := tk }) (hsz : autoParam (name.length + 100 <= sizeLine) L2.au8._auto_1) :
    wpAny (model prog w) A (getAttr? (.ref a) name) Q E s := by
  obtain ⟨c, dct, dat, sl⟩ := o
  simp only at hc hdat hd
  subst hc hdat hd
  obtain ⟨hp, g, d, tk, os⟩ := s
  have hT : ∀ tk', (⟨hp, g, d, tk', os⟩ : Shared).TypeIs (.ref a) "tuple" := fun _ => ⟨_, hx, rfl⟩
  have f1 := sub_AttributeError
  have f3 := PySem.F.slot_tuple_getattribute.lookup
  have f4 := PySem.F.slot_tuple_getattribute.bind (.ref a)
  have f5 := am_tuple_getattr_none
  unfold getAttr? getAttrBy? getAttrBy
  repeat (any_goals (first | assumption | exact hT _ | ((with_reducible show wpAny _ _ (call (Value.builtin "tuple.__getattribute__") _ _) _ _ _); refine call_meets PySem.F.slot_tuple_getattribute (hT _) am_entry_tuple_getattribute (PySem.F.args_tuple_getattribute_2 _ _) (meets_getattribute_miss_tuple a xs k sl name _ hmiss hname hsz) ⟨hx, hA, fun h' tk' e hx' => ?_⟩) | wp_step))
  obtain ⟨t', u', he⟩ := hx'.there
  have hkeep := hx'.of.keeps
  show wpAny _ _ (getattributeRaised _ _ _ _ _ _ _) _ _ _
  unfold getattributeRaised
  repeat (any_goals (first | assumption | wp_step))
  all_goals exact h _ _ hkeep
theorem entry_dict_update_loop : entryFor table "dict.update.loop" = some Builtin.«dict.update.loop» := entryFor_of_tree (by kernel_rfl)
theorem plain_dict_update_loop : plainId "dict.update.loop" = true := by decide +kernel
noncomputable def PairsAt (P : Program) (w : World) (h : Heap) : List Value -> List (Key × Value) -> Prop := Paired fun (v : Value) (p : Key × Value) => ∃ b key, v = .ref b /\ h.IsTuple b #[key, p.2] /\ (mixKind P w).is p.1 key = true
theorem PairsAt.get {P : Program} {w : World} {h : Heap} : ∀ {its : List Value} {ps : List (Key × Value)} {i : Nat}, PairsAt P w h its ps -> i < its.length -> ∃ b key p, its[i]? = some (.ref b) /\ ps[i]? = some p /\ h.IsTuple b #[key, p.2] /\ (mixKind P w).is p.1 key = true
  | _, _, i, .nil, hi => by simp at hi
  | _, _, 0, .cons (a := v) (b := p) r t, _ => by
    obtain ⟨b, key, e, x, y⟩ := r
    exact ⟨b, key, p, by rw [e]; rfl, rfl, x, y⟩
  | _, _, i + 1, .cons r t, hi => by
    obtain ⟨b, key, p, e, e2, x, y⟩ := PairsAt.get (i := i) t (by simpa using hi)
    exact ⟨b, key, p, by simpa using e, by simpa using e2, x, y⟩
section
variable {prog : Program} {w : World} {A : Around} {R : Result -> Shared -> Prop}
theorem code_dict_pairs {h0 : Heap} {d I t : Addr} {items : List Value} {ps : List (Key × Value)} (hh : A.in1.handled = none) (hd0 : h0.get? d = none) (hI0 : h0.get? I = none) (hdI : d ≠ I) (ht0 : h0.IsTuple t items.toArray) (hp : PairsAt prog w h0 items ps) (hz : ps.length <= sizeLine) :
    ∀ (k i : Nat) (j : Int) (tk : Tok) (s : Shared), items.length - i = k -> i <= items.length -> s.heap.IsTupleIter I t i -> s.heap.DictOf (mixKind prog w) d (merged [] (ps.take i)) -> (∀ b o, h0.get? b = some o -> s.heap.get? b = some o) ->
      (∀ h' tk', h'.DictOf (mixKind prog w) d (merged [] ps) -> (∀ b o, h0.get? b = some o -> h'.get? b = some o) -> R (.ok (.ret .none)) { s with heap := h', toks := tk' }) ->
      codeAny (model prog w) A (.builtin "dict.update.loop" ⟨[.ref d, .ref I, .int j tk, .none], []⟩) R s := by
  have hlen : items.length = ps.length := Paired.length hp
  have hne : ∀ {b o}, h0.get? b = some o -> b ≠ d /\ b ≠ I := fun {b o} e => ⟨(fun z => by rw [z, hd0] at e; cases e), (fun z => by rw [z, hI0] at e; cases e)⟩
  intro k
  induction k with
  | zero =>
    intro i j tk s hk hi hit hD hkeep hR
    have hin : i = items.length := by omega
    subst hin
    refine codeAny_builtin entry_dict_update_loop ?_
    rw [Around.under_plainId plain_dict_update_loop _]
    show wpAny _ A.in1 (pyNext (.ref I) >>= _) _ _ s
    refine wpAny_bind (wpAny_pyNext_tuple_end hh hit (isTuple_at ht0 hkeep) (by simp) fun h' eb => ?_)
    show wpAny _ A.in1 (Builtin.Dict.addKeywords d [] >>= _) _ _ _
    refine wpAny_bind (wpAny_pure (wpAny_pure (hR h' s.toks ?_ fun b o e => eb b o (hne e).2 (hkeep b o e))))
    obtain ⟨o, es, ep, ho, rest⟩ := hD
    rw [hlen, List.take_length] at rest
    exact ⟨o, es, ep, eb d o hdI ho, rest⟩
  | succ k ih =>
    intro i j tk s hk hi hit hD hkeep hR
    have hlt : i < items.length := by omega
    obtain ⟨b, key, p, e1, e2, x, y⟩ := hp.get hlt
    refine codeAny_builtin entry_dict_update_loop ?_
    rw [Around.under_plainId plain_dict_update_loop _]
    show wpAny _ A.in1 (pyNext (.ref I) >>= _) _ _ s
    refine wpAny_bind (wpAny_pyNext_tuple_item hit (isTuple_at ht0 hkeep) (x := .ref b) (by simpa using e1) fun h1 hit1 sb1 => ?_)
    have hkeep1 : ∀ b o, h0.get? b = some o -> h1.get? b = some o := fun b o e => (sb1.2 b (hne e).2).trans (hkeep b o e)
    have hD1 : h1.DictOf (mixKind prog w) d (merged [] (ps.take i)) := by
      obtain ⟨o, es, ep, ho, rest⟩ := hD
      exact ⟨o, es, ep, (sb1.2 d hdI).trans ho, rest⟩
    have x1 := isTuple_at x hkeep1
    show wpAny _ A.in1 (holding [Value.ref b] _ >>= _) _ _ _
    refine wpAny_bind (wpAny_holding ?_)
    refine wpAny_bind (wpAny_tryCatch ?_)
    obtain ⟨ob, hob, hcb, nb, hdb⟩ := x1
    unfold Builtin.Dict.pairItems
    refine wpAny_bind (wpAny_typeOf ⟨ob, hob, hcb⟩ ?_)
    rw [if_pos (by decide)]
    refine wpAny_bind (wpAny_seqItems hob hdb ?_)
    refine wpAny_pure ?_
    show wpAny _ A.in1 (holding [key, p.2] (dictSet d key p.2)) _ _ _
    have hz1 : (merged [] (ps.take i)).length <= sizeLine := by
      have := merged_length_le [] (ps.take i)
      rw [List.length_take] at this
      simp only [List.length_nil] at this
      omega
    refine wpAny_holding (wpAny_dictSet_pairs (hsz := hz1) y hD1 fun h2 hD2 sb2 => ?_)
    rw [<- merged_take_succ [] ps i p e2] at hD2
    refine wpAny_pure ⟨plainId_quiet plain_dict_update_loop _, ih (i + 1) _ _ _ (by omega) hlt ?_ hD2 (fun b o e => (sb2.2 b (hne e).1).trans (hkeep1 b o e)) ?_⟩
    · obtain ⟨oi, hoi, r⟩ := hit1
      exact ⟨oi, (sb2.2 I (Ne.symm hdI)).trans hoi, r⟩
    · exact hR
end
section
variable {prog : Program} {w : World} {A : Around} {E : Value -> Shared -> Prop} {s : Shared}
theorem call_dict_pairs {t : Addr} {items : List Value} {ps : List (Key × Value)} {Q : Value -> Shared -> Prop} (hh : A.handled = none) (ht : TupN s.heap t items.toArray) (hp : PairsAt prog w s.heap items ps) (hz : ps.length <= sizeLine)
    (h : ∀ h' tk, h'.DictOf (mixKind prog w) s.heap.objs.size (merged [] ps) -> (∀ b o, s.heap.get? b = some o -> h'.get? b = some o) -> Q (.ref s.heap.objs.size) { s with heap := h', toks := tk }) :
    wpAny (model prog w) A (call (.type "dict") [.ref t]) Q E s := by
  refine callType_codes (Q₁ := fun obj s₁ => obj = .ref s.heap.objs.size /\ s₁ = { s with heap := s.heap.push { cls := .type "dict", data := .dict #[] } }) PySem.F.kt_called_dict (PySem.F.kt_typeCall_dict_1 _) PySem.F.entry_dict_init (kt_code_dict_new _ ⟨rfl, rfl⟩) ?_
  rintro obj s₁ ⟨rfl, rfl⟩
  have hnew : (s.heap.push { cls := .type "dict", data := .dict #[] }).DictOf (mixKind prog w) s.heap.objs.size [] := Heap.DictOf.new s.heap
  have ht' := ht.push { cls := .type "dict", data := .dict #[] }
  refine ⟨hnew.typeIs, PySem.F.args_dict_init_2 _ _, ?_⟩
  unfold Builtin.«dict.__init__»
  refine wpAny_bind ?_
  unfold Builtin.Dict.selfAndRest
  refine wpAny_bind (wpAny_notOrdered_dict hnew.typeIs ?_)
  show wpAny _ _ (pure (s.heap.objs.size, [Value.ref t])) _ _ _
  refine wpAny_pure ?_
  show wpAny _ _ (Builtin.Dict.updateFrom "dict.__init__" s.heap.objs.size (.ref t) [] .none) _ _ _
  unfold Builtin.Dict.updateFrom
  obtain ⟨ot, ht1, ht2, ⟨ht3, _⟩, nt, ht4⟩ := ht'
  refine wpAny_bind (wpAny_typeOf ⟨ot, ht1, ht2⟩ ?_)
  rw [if_pos (by decide)]
  refine wpAny_bind (getAttr?_miss_tuple ht1 ht2 ht4 ht3 miss_tuple_keys (by decide) hh (fun h1 tk1 k1 => ?_) (by size_fits))
  rw [if_pos (show (none : Option Value).isNone = true from rfl)]
  refine wpAny_bind (wpAny_rule ?_)
  have hlt : s.heap.objs.size < h1.objs.size := by
    have : h1.get? s.heap.objs.size = some _ := k1 _ _ (Heap.get?_push_size s.heap (o := { cls := .type "dict", data := .dict #[] }) rfl)
    exact Heap.lt_size this
  have hk01 : ∀ b o, s.heap.get? b = some o -> h1.get? b = some o := fun b o e => k1 b o (Heap.get?_push_of_some _ e)
  refine wpAny_bind (wpAny_pyIter_tuple (ht.at hk01).isTuple ?_)
  have hfr : ∀ b, s.heap.objs.size <= b -> s.heap.get? b = none := fun b hb => by
    cases e : s.heap.get? b with
    | none => rfl
    | some o => exact absurd (Heap.lt_size e) (Nat.not_lt.mpr hb)
  refine wpAny_pure ⟨plainId_quiet plain_dict_update_loop _, code_dict_pairs (A := A.in1) (h0 := s.heap) (d := s.heap.objs.size) (I := h1.objs.size) (t := t) (items := items) (ps := ps) hh (hfr _ (Nat.le_refl _)) (hfr _ (Nat.le_of_lt hlt)) (Nat.ne_of_lt hlt) ht.isTuple hp hz (items.length - 0) 0 0 0 _ rfl (Nat.zero_le _) ⟨_, Heap.get?_push_size _ rfl, rfl, rfl⟩ ?_ (fun b o e => Heap.get?_push_of_some _ (hk01 b o e)) ?_⟩
  · obtain ⟨o, es, ep, ho, rest⟩ := hnew
    exact ⟨o, es, ep, Heap.get?_push_of_some _ (k1 _ _ ho), rest⟩
  · exact fun h' tk' hD hk => ⟨rfl, h h' tk' hD hk⟩
end
end L2
set_option maxRecDepth 100000
set_option maxHeartbeats 4000000
namespace L2
open PySem PySem.Spec PyProof.Rows
noncomputable def replL {β : Type} : List Key -> List β -> Key -> β -> List β
  | k' :: ks, x :: xs, k, y => (if k' = k then y else x) :: replL ks xs k y
  | _, _, _, _ => []
noncomputable def putP (ks : List Key) (ds : List D) (k : Key) (d : D) : List Key × List D := if k ∈ ks then (ks, replL ks ds k d) else (ks ++ [k], ds ++ [d])
noncomputable def mergeP : List Key -> List D -> List (Key × D) -> List Key × List D
  | ks, ds, [] => (ks, ds)
  | ks, ds, (k, d) :: r => mergeP (putP ks ds k d).1 (putP ks ds k d).2 r
section
variable {K : PySem.W.Frag} {H : Hp}
theorem putK_in : ∀ {kvs : List (Key × V)} {k : Key} {v : V}, k ∈ kvs.map (·.1) -> putK kvs k v = kvs.map (fun kv => if kv.1 = k then (kv.1, v) else kv) := by
  intro kvs k v h
  unfold putK
  rw [if_pos]
  rw [List.any_eq_true]
  obtain ⟨p, hp, e⟩ := List.mem_map.mp h
  exact ⟨p, hp, by simpa using e⟩
theorem repl_fst : ∀ (kvs : List (Key × V)) (k : Key) (v : V), (kvs.map (fun kv => if kv.1 = k then (kv.1, v) else kv)).map (·.1) = kvs.map (·.1)
  | [], _, _ => rfl
  | p :: r, k, v => by
    rw [List.map_cons, List.map_cons, List.map_cons, repl_fst r k v]
    congr 1
    split <;> rfl
theorem repl_snd : ∀ (kvs : List (Key × V)) (k : Key) (v : V), (kvs.map (fun kv => if kv.1 = k then (kv.1, v) else kv)).map (·.2) = replL (kvs.map (·.1)) (kvs.map (·.2)) k v
  | [], _, _ => rfl
  | p :: r, k, v => by
    rw [List.map_cons, List.map_cons, List.map_cons, List.map_cons, repl_snd r k v]
    show _ = (if p.1 = k then v else p.2) :: _
    congr 1
    split <;> rfl
theorem Reps.repl {k : Key} {d : D} {v : V} (rd : Rep K H d v []) : ∀ {ks : List Key} {ds : List D} {vs : List V} {L : List Addr}, Reps K H ds vs L -> ks.length = ds.length -> ∃ L2, Reps K H (replL ks ds k d) (replL ks vs k v) L2 /\ List.Sublist L2 L
  | [], [], _, _, hq4, _ => by
    obtain ⟨e1, e2⟩ := hq4
    exact ⟨[], by subst e1; exact Reps.nil, List.nil_sublist _⟩
  | [], _ :: _, _, _, _, h => by cases h
  | _ :: _, [], _, _, _, h => by cases h
  | k' :: ks, d' :: ds, _, _, hq4, h => by
    obtain ⟨v', vs', L1, L2, e1, e2, h1, h2⟩ := hq4
    subst e1 e2
    obtain ⟨L3, a, b⟩ := Reps.repl (ks := ks) rd h2 (by simpa using h)
    by_cases e : k' = k
    · refine ⟨[] ++ L3, ?_, ?_⟩
      · show Reps K H ((if k' = k then d else d') :: replL ks ds k d) ((if k' = k then v else v') :: replL ks vs' k v) _
        rw [if_pos e, if_pos e]
        exact Reps.cons rd a
      · exact b.trans (List.sublist_append_right _ _)
    · refine ⟨L1 ++ L3, ?_, List.Sublist.append (List.Sublist.refl _) b⟩
      show Reps K H ((if k' = k then d else d') :: replL ks ds k d) ((if k' = k then v else v') :: replL ks vs' k v) _
      rw [if_neg e, if_neg e]
      exact Reps.cons h1 a
theorem rep_put {kvs : List (Key × V)} {ds : List D} {L : List Addr} {k : Key} {d : D} {v : V} (rs : Reps K H ds (kvs.map (·.2)) L) (nd : (kvs.map (·.1)).Nodup) (rd : Rep K H d v []) :
    (putK kvs k v).map (·.1) = (putP (kvs.map (·.1)) ds k d).1 /\ (putP (kvs.map (·.1)) ds k d).1.Nodup /\ ∃ L2, Reps K H (putP (kvs.map (·.1)) ds k d).2 ((putK kvs k v).map (·.2)) L2 /\ List.Sublist L2 L := by
  unfold putP
  by_cases h : k ∈ kvs.map (·.1)
  · rw [if_pos h, putK_in h, repl_fst, repl_snd]
    refine ⟨rfl, nd, Reps.repl rd rs ?_⟩
    rw [<- rs.length, List.length_map, List.length_map]
  · rw [if_neg h, putK_fresh h]
    refine ⟨by rw [List.map_append]; rfl, ?_, L, ?_, List.Sublist.refl _⟩
    · refine List.nodup_append.mpr ⟨nd, by simp, fun a ha b hb z => ?_⟩
      rw [List.mem_singleton] at hb
      subst hb z
      exact h ha
    · rw [List.map_append]
      have := Reps.append rs (Reps.cons rd (Reps.nil (K := K) (H := H)))
      rw [List.append_nil, List.append_nil] at this
      exact this
theorem rep_merge : ∀ (ps : List (Key × D)) (qs : List (Key × V)) (kvs : List (Key × V)) (ds : List D), Paired (fun (p : Key × D) (q : Key × V) => p.1 = q.1 /\ Rep K H p.2 q.2 []) ps qs -> Reps K H ds (kvs.map (·.2)) [] -> (kvs.map (·.1)).Nodup ->
    (mergeK kvs qs).map (·.1) = (mergeP (kvs.map (·.1)) ds ps).1 /\ (mergeP (kvs.map (·.1)) ds ps).1.Nodup /\ Reps K H (mergeP (kvs.map (·.1)) ds ps).2 ((mergeK kvs qs).map (·.2)) []
  | [], _, kvs, ds, h, rs, nd => by
    cases h
    exact ⟨rfl, nd, rs⟩
  | p :: ps, _, kvs, ds, h, rs, nd => by
    cases h with
    | @cons _ q _ qs e t =>
      obtain ⟨e1, e2⟩ := e
      obtain ⟨a1, a2, L2, a3, a4⟩ := rep_put (k := p.1) rs nd e2
      have z : L2 = [] := by simpa using a4
      subst z
      obtain ⟨b1, b2, b3⟩ := rep_merge ps qs (putK kvs p.1 q.2) _ t a3 (a1 ▸ a2)
      show (mergeK (putK kvs q.1 q.2) qs).map (·.1) = (mergeP (putP (kvs.map (·.1)) ds p.1 p.2).1 (putP (kvs.map (·.1)) ds p.1 p.2).2 ps).1 /\ _
      rw [<- e1, <- a1]
      refine ⟨b1, ?_, ?_⟩
      · show (mergeP (putP (kvs.map (·.1)) ds p.1 p.2).1 (putP (kvs.map (·.1)) ds p.1 p.2).2 ps).1.Nodup
        rw [<- a1]; exact b2
      · show Reps K H (mergeP (putP (kvs.map (·.1)) ds p.1 p.2).1 (putP (kvs.map (·.1)) ds p.1 p.2).2 ps).2 ((mergeK (putK kvs q.1 q.2) qs).map (·.2)) []
        rw [<- a1, <- e1]; exact b3
noncomputable def pairsOf : List D -> Option (List (Key × D))
  | [] => some []
  | .tup [k, d] :: ps => match keyOf k with
    | some k' => if d.imm = true then (pairsOf ps).map ((k', d) :: ·) else none
    | none => none
  | _ => none
theorem pairs_vals : ∀ {ps : List D} {kds : List (Key × D)} {vs : List V} {L : List Addr}, Reps K H ps vs L -> pairsOf ps = some kds ->
    ∃ qs : List (Key × V), Paired (fun (v : V) (q : Key × V) => ∃ b, v = .ref b /\ SqT K H b [kV q.1, q.2]) vs qs /\ Paired (fun (p : Key × D) (q : Key × V) => p.1 = q.1 /\ Rep K H p.2 q.2 []) kds qs
  | [], kds, _, _, hq4, h => by
    obtain ⟨e, _⟩ := hq4
    cases h; subst e
    exact ⟨[], .nil, .nil⟩
  | d :: ps, kds, _, _, hq4, h => by
    obtain ⟨v, vs', L1, L2, e1, e2, r1, r2⟩ := hq4
    subst e1
    unfold pairsOf at h
    split at h
    · rename_i e; cases e
    · rename_i k d' ps' e
      injection e with e3 e4
      subst e3 e4
      split at h
      · rename_i k' hk
        split at h
        · rename_i hi
          cases hp : pairsOf ps with
          | none => rw [hp] at h; cases h
          | some r =>
            rw [hp] at h
            cases h
            obtain ⟨qs, a, b⟩ := pairs_vals r2 hp
            obtain ⟨bb, ws, ev, hs, ⟨v1, ws', M1, M2, f1, f2, g1, v2, ws'', M3, M4, f3, f4, g2, g3, _⟩⟩ := r1
            subst f1 f3 g3
            have hM := Rep.imm _ _ _ g2 hi
            subst hM
            refine ⟨(k', v2) :: qs, .cons ⟨bb, ev, ?_⟩ a, .cons ⟨rfl, g2⟩ b⟩
            rw [<- keyOf_rep hk g1]
            exact hs
        · cases h
      · cases h
    · cases h
end
noncomputable def sKPut (i : Nat) (t ti : Tn -> R D) : Tn -> R Fl := fun τ => (t τ).bind fun d => (eVar i τ).bind fun l => (ti τ).bind fun k => match l, keyOf k with
  | .dic ks ds, some k => if d.imm = true /\ ks.length < sizeLine then .ok (.nx (τ.set i (some (.dic (putP ks ds k d).1 (putP ks ds k d).2)))) else .bad
  | _, _ => .bad
section
variable {X : Cx} {E : XK} {Γ Γ1 Γ' Γl : List Cl} {e a b o f : Expr} {es : List Expr} {t t' u v : Tn -> R D} {c ca cb : Rc} {pos : Pos}
theorem kput (i : Nat) {x : Str} {p0 p1 : Pos} {ix : Expr} {ti : Tn -> R D} (hu : X.A.units + 1 < cLine) (h : MV X E Γ e t Γ1) (hi : ME X E Γ1 ix ti c) (hN : autoParam (X.N[i]? = some x) L2.au3._auto_1) (hk : autoParam (Γ1[i]? = some .own) L2.au3._auto_1) (hv : autoParam (Vis X.env.scope x) L2.au5._auto_1) (hb : autoParam ((x == ("__debug__" : Str)) = false) L2.au1._auto_1) (hcd : autoParam ((x == ("__classdict__" : Str)) = false) L2.au1._auto_1)
    (hs : autoParam (swapsWith e (some (.Subscript (.Name x p0) ix p1)) pos.line X.env = pure false) L2.au3._auto_1) :
    MS X E Γl Γ (.Assign [.Subscript (.Name x p0) ix p1] e pos) (sKPut i t ti) Γ1 := by
  obtain ⟨te, p, q⟩ := h
  obtain ⟨te', p', q'⟩ := hi
  refine ⟨_, ps_dput hu (pe_var (pos := p0) hN hv hb hcd) p' p hs, fun B σ H τ Z ok h => q B σ H τ [] _ ok ?_⟩
  unfold sKPut at h
  cases ht : t τ with
  | ok d' =>
    rw [ht, R.ok_bind] at h
    refine fun y H1 Le s1 ry ok1 => ?_
    obtain ⟨v1, d1, L1, q1, q2, r1, n1, n2, _⟩ := ok1.slot hk
    refine ⟨v1, q1, ?_⟩
    have ev : eVar i τ = .ok d1 := by unfold eVar; rw [q2]
    rw [ev, R.ok_bind] at h
    obtain ⟨O, eo, _⟩ := ok1.eok
    refine q' O σ H1 τ _ eo ?_
    cases hk' : ti τ with
    | ok dk =>
      rw [hk', R.ok_bind] at h
      refine fun kv H2 Lk s2 rk _ => ?_
      have ok2 := ok1.same s2
      obtain ⟨v2, d2, L2, q3, q4, r2, m1, m2, fin⟩ := ok2.slot hk
      rw [q1] at q3
      cases q3
      rw [q2] at q4
      cases q4
      cases d1 with
      | dic ks ds =>
        cases hko : keyOf dk with
        | none => rw [hko] at h; exact h.elim
        | some k =>
          rw [hko] at h
          dsimp only at h
          by_cases hz : d'.imm = true /\ ks.length < sizeLine
          · rw [if_pos hz] at h
            obtain ⟨a, kvs, L', rfl, ha2, z2, hks, hnd, rs⟩ := r2
            subst z2
            have mu : (∃ vs, H2 a = some (.lst vs)) \/ ∃ kvs, H2 a = some (.dK kvs) := .inr ⟨_, ha2⟩
            have zL := Rep.imm _ _ _ ry hz.1
            subst zL
            obtain ⟨w1, w2⟩ := List.nodup_cons.mp m1
            have r3 := (ry.same s2).upd (o := .dK (putK kvs k y)) mu (by simp)
            have rs3 := rs.upd (o := .dK (putK kvs k y)) mu w1
            subst hks
            obtain ⟨a1, a2, L3, a3, a4⟩ := rep_put (k := k) rs3 hnd r3
            refine ⟨a, _, rfl, ?_, h _ _ (fin _ _ (a :: L3) [] [] rfl (TF.upd mu) (fun b hb _ => upd_ne fun z => hb (z ▸ List.mem_cons_self)) ⟨a, _, L3, rfl, upd_same, rfl, a1, a2, a3⟩ (fun b hb => ?_) ?_)⟩
            · rw [keyOf_rep hko rk]
              exact DPut.k ha2 (by have := hz.2; rw [List.length_map] at this; exact this)
            · rcases List.mem_cons.mp hb with z | z
              · exact .inl (z ▸ List.mem_cons_self)
              · exact .inl (List.mem_cons_of_mem _ (a4.subset z))
            · exact List.nodup_cons.mpr ⟨fun z => w1 (a4.subset z), w2.sublist a4⟩
          · rw [if_neg hz] at h; exact h.elim
      | _ => exact h.elim
    | err n => rw [hk'] at h; exact fun C H' e s => h C H' e (ok1.ext.trans s)
    | bad => rw [hk'] at h; exact h
  | err n => rw [ht] at h; exact h
  | bad => rw [ht] at h; exact h
noncomputable def getK (ks : List Key) (ds : List D) (k z : D) : R D := match keyOf k with
  | some k => if ((lookD ks ds k).getD z).imm = true then .ok ((lookD ks ds k).getD z) else .bad
  | none => .bad
noncomputable def eGet (t u v : Tn -> R D) : Tn -> R D := fun τ => (t τ).bind fun d => match d with
  | .dic ks ds => (u τ).bind fun k => (v τ).bind fun z => getK ks ds k z
  | _ => .bad
theorem me_get {apos cpos : Pos} (hu : X.A.units + 1 < cLine) (ho : ME X E Γ o t c) (he : ME X E Γ e u ca) (hf : ME X E Γ f v cb)
    (hbase : autoParam (attributeBase o "get" X.env (eval o X.env) = eval o X.env) L2.au3._auto_1)
    (hfew : autoParam (((backTo cpos (starEach [e, f] X.env)).all (fun x => !x.1) && (backToKw cpos (keywordEach [] X.env)).all (fun x => x.1.isSome)
      && decide (([e, f] : List Expr).length + ([] : List Keyword).length + (if ([] : List Keyword).isEmpty then 0 else 1) < 30)) = true) L2.au3._auto_1)
    (hline : autoParam ((apos.endLine == cpos.line) = true) L2.au3._auto_1) (htr : autoParam (backTo cpos (starEach [e, f] X.env) = [(false, eval e X.env), (false, eval f X.env)]) L2.au3._auto_1) :
    ME X E Γ (.Call (.Attribute o "get" apos) [e, f] [] cpos) (eGet t u v) .fresh := by
  obtain ⟨te, p, q⟩ := ho
  obtain ⟨te', p', q'⟩ := he
  obtain ⟨te'', p'', q''⟩ := hf
  refine ⟨_, pe_dget2 hu p p' p'' ⟨hbase, hfew, hline, htr⟩, fun O σ H τ Q ok h => ?_⟩
  unfold eGet at h
  refine q O σ H τ _ ok (post.bind h fun d hd h x H1 L1 s1 r1 _ => ?_)
  cases d with
  | dic ks ds =>
    obtain ⟨ad, kvs, L', rfl, had, e2, hks, _, rs⟩ := r1
    refine ⟨ad, rfl, .inl ⟨kvs, .inl had⟩, ?_⟩
    dsimp only at h
    refine q' O σ H1 τ _ (ok.same s1) (post.bind2 h s1 fun dk _ h y H2 Ly s2 ry _ => ?_)
    refine q'' O σ H2 τ _ ((ok.same s1).same s2) (post.bind2 h (s1.trans s2) fun dz _ h z H3 Lz s3 rz _ => ?_)
    unfold getK at h
    have sA : Same H H3 := s1.trans (s2.trans s3)
    cases hk : keyOf dk with
    | none => rw [hk] at h; exact h.elim
    | some k =>
      rw [hk] at h
      dsimp only at h
      have ek := keyOf_rep hk ry
      subst ek
      have had3 : H3 ad = some (.dK kvs) := s3 _ _ (s2 _ _ had)
      cases hl : lookD ks ds k with
      | some d =>
        rw [hl] at h
        by_cases hi : d.imm = true
        · rw [if_pos (show ((some d).getD dz).imm = true from hi)] at h
          rw [<- hks] at hl
          obtain ⟨w, L1, g1, g2, g3⟩ := look_some rs hl
          have zL := Rep.imm _ _ _ g2 hi
          subst zL
          refine ⟨valV kvs k, DGet.k had3, ?_⟩
          rw [g1]
          exact h w H3 [] sA ((g2.same s2).same s3) RcOk.nil
        · rw [if_neg (show ¬ ((some d).getD dz).imm = true from hi)] at h; exact h.elim
      | none =>
        rw [hl] at h
        by_cases hi : dz.imm = true
        · rw [if_pos (show ((none : Option D).getD dz).imm = true from hi)] at h
          rw [<- hks] at hl
          have g1 := look_none rs hl
          have zL := Rep.imm _ _ _ rz hi
          subst zL
          refine ⟨valV kvs k, DGet.k had3, ?_⟩
          rw [g1]
          exact h z H3 [] sA rz RcOk.nil
        · rw [if_neg (show ¬ ((none : Option D).getD dz).imm = true from hi)] at h; exact h.elim
  | _ => exact h.elim
end
end L2
set_option maxRecDepth 100000
set_option maxHeartbeats 4000000
namespace L2
open PySem PySem.Spec PyProof.Rows
noncomputable def rDictP (K : PySem.W.Frag) : List V -> Hp -> VK -> Prop := fun xs H Q => ∃ a vs, ∃ qs : List (Key × V), xs = [.ref a] /\ SqT K H a vs /\ Paired (fun (v : V) (q : Key × V) => ∃ b, v = .ref b /\ SqT K H b [kV q.1, q.2]) vs qs /\ ∀ l, H l = none -> Q (.ref l) (upd H l (.dK (mergeK [] qs)))
section
variable {X : Cx}
theorem pairs_at {pins : List (Addr × Obj)} {σ : St} {H : Hp} {s : Shared} (I : Inv X pins σ H s) : ∀ {vs : List V} {qs : List (Key × V)} {its : List Value}, Paired (fun (v : V) (q : Key × V) => ∃ b, v = .ref b /\ SqT X.K H b [kV q.1, q.2]) vs qs -> Vals vs its ->
    ∃ ps : List (Key × Value), PairsAt X.prog X.w s.heap its ps /\ KV qs ps
  | _, _, _, .nil, .nil => ⟨[], .nil, .nil⟩
  | _, _, _, .cons (b := q) h t, .cons r t2 => by
    obtain ⟨b, rfl, hs⟩ := h
    obtain ⟨ps, a1, a2⟩ := pairs_at I t t2
    obtain ⟨its2, r2, pl, _⟩ := I.tuple hs
    cases r
    cases r2 with
    | cons rk r3 =>
      cases r3 with
      | cons rv r4 =>
        cases r4
        rename_i key u
        exact ⟨(q.1, u) :: ps, .cons ⟨b, key, rfl, pl, kV_is rk⟩ a1, .cons ⟨rfl, rv⟩ a2⟩
theorem call_dictP (hc : X.calm = true) : CallR X (.type "dict") (rDictP X.K) := by
  intro pins s σ H xs us Q I r h
  obtain ⟨a, vs, qs, rfl, ha, hp, q⟩ := h
  obtain ⟨u, rfl, ru⟩ := vals1 r
  obtain rfl : u = Value.ref a := ru
  obtain ⟨its, rv, tn, hz⟩ := I.tupN ha
  obtain ⟨ps, hps, kv⟩ := pairs_at I hp rv
  have hl1 : vs.length = qs.length := Paired.length hp
  have hl2 := kv.length
  refine call_dict_pairs (I.ok.hd hc) tn hps (by omega) fun h' tk hD hk => ?_
  refine ⟨.ref s.heap.objs.size, _, I.laid (o := .dK (mergeK [] qs)) (t' := tk) hk (Nat.le_refl _) ?_, rfl, q _ (I.hok.fresh (Nat.le_refl _))⟩
  have hm : KV (mergeK [] qs) (merged [] ps) := KV.merge kv .nil
  refine ⟨?_, beq_eq_false_iff_ne.mpr (Ne.symm (Nat.ne_of_lt I.big)), _, hm, hD⟩
  have e1 := hm.length
  have e2 := merged_length_le [] ps
  simp only [List.length_nil] at e2
  omega
theorem call_dictA (hc : X.calm = true) : CallR X (.type "dict") (fun xs H Q => rDict1 xs H Q \/ rDictP X.K xs H Q) := CallR.or call_dict1 (call_dictP hc)
end
noncomputable def dictAD : List D -> R D
  | [.dic ks ds] => if D.imms ds = true then .ok (.dic ks ds) else .bad
  | [.tup ps] => match pairsOf ps with
    | some kds => .ok (.dic (mergeP [] [] kds).1 (mergeP [] [] kds).2)
    | none => .bad
  | _ => .bad
theorem N_dictA : NoErrL dictAD := fun ds n h => by
  unfold dictAD at h
  split at h
  · split at h <;> cases h
  · split at h <;> cases h
  · cases h
theorem B_dictA {K : PySem.W.Frag} : ClB K (fun xs H Q => rDict1 xs H Q \/ rDictP K xs H Q) dictAD := by
  rintro H xs ds L Q r ⟨d, hg, q⟩
  unfold dictAD at hg
  split at hg
  · rename_i ks ds
    refine .inl (B_dict1 H xs _ L Q r ⟨d, hg, q⟩)
  · rename_i ps
    split at hg
    · rename_i kds hp
      cases hg
      obtain ⟨v, rfl, a, vs, rfl, ha, rs⟩ := reps1 r
      obtain ⟨qs, h1, h2⟩ := pairs_vals rs hp
      refine .inr ⟨a, vs, qs, rfl, ha, h1, fun l hl => ?_⟩
      obtain ⟨b1, b2, b3⟩ := rep_merge kds qs [] [] h2 Reps.nil List.nodup_nil
      exact q _ _ [l] (Same.new hl) ⟨l, _, [], rfl, upd_same, rfl, b1, b2, b3.same (Same.new hl)⟩ (by simp) (fun b hb => by rw [List.mem_singleton.mp hb]; exact hl)
    · cases hg
  · cases hg
section
variable {X : Cx} {E : XK} {Γ : List Cl} {u : Tn -> R (List D)} {c : Rc} {p pos : Pos}
end
end L2
set_option maxRecDepth 100000
set_option maxHeartbeats 4000000
namespace L2
open PySem PySem.Spec PyProof.Rows
noncomputable def kputD (i : Nat) (τ : Tn) (d : D) : D -> D -> R Fl
  | .dic ks ds, k => (match keyOf k with
    | some k => if d.imm = true /\ ks.length < sizeLine then .ok (.nx (τ.set i (some (.dic (putP ks ds k d).1 (putP ks ds k d).2)))) else .bad
    | none => .bad)
  | _, _ => .bad
theorem ev_sKPut {i : Nat} {t ti : Tn -> R D} {τ : Tn} : sKPut i t ti τ = (t τ).bind fun d => (eVar i τ).bind fun l => (ti τ).bind fun k => kputD i τ d l k := by
  unfold sKPut
  congr 1; funext d; congr 1; funext l; congr 1; funext k
  cases l with
  | dic ks ds =>
    cases h : keyOf k <;> simp only [kputD, h]
  | _ => rfl
theorem ev_kput {i : Nat} {τ : Tn} {d : D} {ks : List Key} {ds : List D} {x : Str} (hd : d.imm = true) (hl : ks.length < 16777216) : kputD i τ d (.dic ks ds) (.str x) = .ok (.nx (τ.set i (some (.dic (putP ks ds (.inr x) d).1 (putP ks ds (.inr x) d).2)))) := if_pos ⟨hd, by rw [sizeLine_eq]; exact hl⟩
noncomputable def getDD (u v : Tn -> R D) (τ : Tn) : D -> R D
  | .dic ks ds => (u τ).bind fun k => (v τ).bind fun z => getK ks ds k z
  | _ => .bad
theorem ev_eGet {t u v : Tn -> R D} {τ : Tn} : eGet t u v τ = (t τ).bind (getDD u v τ) := by
  unfold eGet
  congr 1
theorem ev_getDD {u v : Tn -> R D} {τ : Tn} {ks : List Key} {ds : List D} : getDD u v τ (.dic ks ds) = (u τ).bind fun k => (v τ).bind fun z => getK ks ds k z := rfl
theorem look_int : ∀ (ks : List Key) (ns : List Int) (k : Key) (pl : Int), ∃ n, (lookD ks (ns.map D.int) k).getD (.int pl) = .int n
  | [], _, _, pl => ⟨pl, rfl⟩
  | _ :: _, [], _, pl => ⟨pl, rfl⟩
  | k' :: ks, n :: ns, k, pl => by
    rw [List.map_cons]
    unfold lookD
    by_cases h : k' = k
    · rw [if_pos h]; exact ⟨n, rfl⟩
    · rw [if_neg h]; exact look_int ks ns k pl
theorem repl_int : ∀ (ks : List Key) (ns : List Int) (k : Key) (m : Int), ks.length = ns.length -> ∃ ms : List Int, replL ks (ns.map D.int) k (.int m) = ms.map D.int /\ ms.length = ks.length
  | [], [], _, _, _ => ⟨[], rfl, rfl⟩
  | [], _ :: _, _, _, h => by cases h
  | _ :: _, [], _, _, h => by cases h
  | k' :: ks, n :: ns, k, m, h => by
    obtain ⟨ms, e, hl⟩ := repl_int ks ns k m (by simpa using h)
    rw [List.map_cons]
    unfold replL
    rw [e]
    by_cases hk : k' = k
    · exact ⟨m :: ms, by rw [if_pos hk]; rfl, by simp [hl]⟩
    · exact ⟨n :: ms, by rw [if_neg hk]; rfl, by simp [hl]⟩
theorem put_int (ks : List Key) (ns : List Int) (k : Key) (m : Int) (h : ks.length = ns.length) : ∃ ms : List Int, (putP ks (ns.map D.int) k (.int m)).2 = ms.map D.int /\ (putP ks (ns.map D.int) k (.int m)).1.length = ms.length /\ (putP ks (ns.map D.int) k (.int m)).1.length <= ks.length + 1 := by
  unfold putP
  by_cases hk : k ∈ ks
  · rw [if_pos hk]
    obtain ⟨ms, e, hl⟩ := repl_int ks ns k m h
    exact ⟨ms, e, hl.symm, Nat.le_succ _⟩
  · rw [if_neg hk]
    exact ⟨ns ++ [m], by simp, by simp [h], by simp⟩
theorem merge_int : ∀ (ps : List (Str × Int)) (ks : List Key) (ns : List Int), ks.length = ns.length -> ∃ ms : List Int, (mergeP ks (ns.map D.int) (ps.map fun p => (Key.inr p.1, D.int p.2))).2 = ms.map D.int /\ (mergeP ks (ns.map D.int) (ps.map fun p => (Key.inr p.1, D.int p.2))).1.length = ms.length /\ (mergeP ks (ns.map D.int) (ps.map fun p => (Key.inr p.1, D.int p.2))).1.length <= ks.length + ps.length
  | [], ks, ns, h => ⟨ns, rfl, h, Nat.le_refl _⟩
  | p :: ps, ks, ns, h => by
    obtain ⟨ms, e1, e2, e3⟩ := put_int ks ns (.inr p.1) p.2 h
    rw [List.map_cons]
    unfold mergeP
    rw [e1]
    obtain ⟨ms', f1, f2, f3⟩ := merge_int ps _ ms e2
    exact ⟨ms', f1, f2, by rw [List.length_cons]; omega⟩
theorem pairs_enc : ∀ ps : List (Str × Int), pairsOf (ps.map fun p : Str × Int => D.tup [.str p.1, .int p.2]) = some (ps.map fun p => (Key.inr p.1, D.int p.2))
  | [] => rfl
  | p :: ps => by
    rw [List.map_cons]
    show (match keyOf (D.str p.1) with
      | some k' => if (D.int p.2).imm = true then (pairsOf (ps.map fun p : Str × Int => D.tup [.str p.1, .int p.2])).map ((k', D.int p.2) :: ·) else none
      | none => none) = _
    rw [pairs_enc ps]
    rfl
theorem strsOf_map : ∀ ys : List Str, strsOf (ys.map D.str) = some ys
  | [] => rfl
  | y :: ys => by rw [List.map_cons]; show (strsOf (ys.map D.str)).map (y :: ·) = _; rw [strsOf_map ys]; rfl
theorem ev_joinD {z : Str} {ys : List Str} (h : (ys.map (·.length)).sum + ys.length * z.length <= 16777216) : joinD z [.lst (ys.map D.str)] = .ok (.str (Str.join z ys)) := by
  have e : Txt.join z ys = Str.join z ys := eq_of_beq (join_plain_closes z ys)
  simp only [joinD, strsOf_map, if_pos h, e]
theorem app_cps (x y : Str) : (x ++ y).cps.toList = x.cps.toList ++ y.cps.toList := by
  show (x.cps ++ y.cps).toList = _
  simp
theorem ev_tuple1 {ds : List D} (h : D.imms ds = true) : tuple1D [.lst ds] = .ok (.tup ds) := if_pos h
theorem ev_dictP {ps : List (Str × Int)} : dictAD [.tup (ps.map fun p => D.tup [.str p.1, .int p.2])] = .ok (.dic (mergeP [] [] (ps.map fun p => (Key.inr p.1, D.int p.2))).1 (mergeP [] [] (ps.map fun p => (Key.inr p.1, D.int p.2))).2) := by
  simp only [dictAD, pairs_enc]
end L2
set_option maxRecDepth 100000
set_option maxHeartbeats 4000000
namespace L2
open PySem PySem.Spec PyProof.Rows
section
variable {prog : Program} {w : World} {A : Around} {R : Result -> Shared -> Prop}
end
section
variable {prog : Program} {w : World} {A : Around} {E : Value -> Shared -> Prop} {s : Shared}
end
section
variable {X : Cx} {E : XK} {Γ : List Cl} {e f : Expr} {t u : Tn -> R D} {ca cb : Rc} {p pos kp : Pos} {te tf : TE}
end
end L2
set_option maxRecDepth 100000
set_option maxHeartbeats 4000000
namespace L2
open PySem PySem.Spec PyProof.Rows
end L2
set_option maxRecDepth 100000
set_option maxHeartbeats 4000000
namespace L2
open PySem PySem.Spec PyProof.Rows
section
open PySem.SeqAt PySem.MeetsSeq3
open PySem.AutoSeq1 (wpAny_loadPart')
end
end L2
set_option maxRecDepth 100000
set_option maxHeartbeats 4000000
namespace L2
open PySem PySem.Spec PyProof.Rows
section
variable {X : Cx} {E : XK} {Γ Γ1 Γ' Γl : List Cl} {e : Expr} {t : Tn -> R D} {pos : Pos}
end
end L2
set_option maxRecDepth 100000
set_option maxHeartbeats 4000000
namespace L2
open PySem PySem.Spec PyProof.Rows
section
open PySem.SeqAt PySem.MeetsSeq3
open PySem.AutoSeq1 (wpAny_loadPart')
end
section
variable {X : Cx} {pins : List (Addr × Obj)} {σ : St} {H : Hp} {s : Shared}
end
end L2
set_option maxRecDepth 100000
set_option maxHeartbeats 4000000
namespace L2
open PySem PySem.Spec PyProof.Rows
structure Src (P : Program) (w : World) (i l : Addr) (xs : Array Value) (st : Nat -> Heap -> Prop) : Prop where
  keep : ∀ k h h', st k h -> (∀ b, b = i \/ b = l -> ∀ o, h.get? b = some o -> h'.get? b = some o) -> st k h'
  obj : ∀ k h, st k h -> ∃ o vs, h.get? i = some o /\ o.data = .fields vs
  item : ∀ (A : Around) (k : Nat) (s : Shared) (Q : Value -> Shared -> Prop) (E : Value -> Shared -> Prop) (x : Value), st k s.heap -> xs[k]? = some x -> (∀ h', st (k + 1) h' -> Heap.SameBut i s.heap h' -> Q x { s with heap := h' }) -> wpAny (model P w) A (Builtin.SmallTypes.nextOf (.ref i)) Q E s
  stop : ∀ (A : Around) (k : Nat) (s : Shared) (Q : Value -> Shared -> Prop) (E : Value -> Shared -> Prop), A.handled = none -> st k s.heap -> xs[k]? = none -> (∀ h' e, Heap.ExtBut i s.heap h' -> (∃ o, h'.get? e = some o /\ o.cls = .type "StopIteration") -> E (.ref e) { s with heap := h' }) -> wpAny (model P w) A (Builtin.SmallTypes.nextOf (.ref i)) Q E s
section
variable {prog : Program} {w : World} {A : Around} {E : Value -> Shared -> Prop} {s : Shared}
end
section
variable {prog : Program} {w : World} {A : Around} {E : Value -> Shared -> Prop} {s : Shared}
variable {z TI TO i1 i2 l1 l2 : Addr} {k : Nat} {xs ys : Array Value} {st1 st2 : Nat -> Heap -> Prop} {a b : Value}
structure ZSt (z TI TO i1 i2 : Addr) (st1 st2 : Nat -> Heap -> Prop) (f0 : Value) (k1 k2 : Nat) (h : Heap) : Prop where
  z : IsZip h z TI TO f0
  ti : IsPair h TI (.ref i1) (.ref i2)
  to' : ∃ a b, IsPair h TO a b
  s1 : st1 k1 h
  s2 : st2 k2 h
theorem ZSt.keep {f0 : Value} {k1 k2 : Nat} {h h' : Heap} (D : ZipApart z TI TO i1 i2 l1 l2) (S1 : Src prog w i1 l1 xs st1) (S2 : Src prog w i2 l2 ys st2) (S : ZSt z TI TO i1 i2 st1 st2 f0 k1 k2 h) (e : ∀ c o, h.get? c = some o -> h'.get? c = some o) : ZSt z TI TO i1 i2 st1 st2 f0 k1 k2 h' :=
  ⟨e _ _ S.z, e _ _ S.ti, let ⟨a, b, q⟩ := S.to'; ⟨a, b, e _ _ q⟩, S1.keep _ _ _ S.s1 fun c _ o => e c o, S2.keep _ _ _ S.s2 fun c _ o => e c o⟩
end
end L2
set_option maxRecDepth 100000
set_option maxHeartbeats 4000000
namespace L2
open PySem PySem.Spec PyProof.Rows
noncomputable def IIt : Bool -> Heap -> Addr -> Addr -> Nat -> Prop
  | true, h, i, l, k => h.IsTupleIter i l k
  | false, h, i, l, k => h.IsListIter i l k
noncomputable def ISq : Bool -> Heap -> Addr -> Array Value -> Prop
  | true, h, l, xs => h.IsTuple l xs
  | false, h, l, xs => h.IsList l xs
theorem IIt.at {t : Bool} {h h' : Heap} {i l : Addr} {k : Nat} (x : IIt t h i l k) (e : ∀ o, h.get? i = some o -> h'.get? i = some o) : IIt t h' i l k := by
  cases t
  · exact Heap.IsListIter.at (h := h) x e
  · exact Heap.IsTupleIter.at (h := h) x e
theorem IIt.obj {t : Bool} {h : Heap} {i l : Addr} {k : Nat} (x : IIt t h i l k) : ∃ o vs, h.get? i = some o /\ o.data = .fields vs := by
  cases t
  · obtain ⟨o, a, _, b⟩ := (show h.IsListIter i l k from x); exact ⟨o, _, a, b⟩
  · obtain ⟨o, a, _, b⟩ := (show h.IsTupleIter i l k from x); exact ⟨o, _, a, b⟩
noncomputable def Sq (t : Bool) (K : PySem.W.Frag) (H : Hp) (a : Addr) (xs : List V) : Prop := if t = true then SqT K H a xs else SqL K H a xs
section
variable {X : Cx} {pins : List (Addr × Obj)} {σ : St} {H : Hp} {s : Shared} {a : Addr} {xs ys : List V} {h' : Heap}
theorem Inv.sq {t : Bool} (I : Inv X pins σ H s) (h : Sq t X.K H a xs) : ∃ its : List Value, Vals xs its /\ ISq t s.heap a its.toArray /\ xs.length <= sizeLine := by
  cases t
  · obtain ⟨its, r, p, z⟩ := I.list (show SqL X.K H a xs from h)
    exact ⟨its, r, p.isList, z⟩
  · obtain ⟨its, r, p, z⟩ := I.tuple (show SqT X.K H a xs from h)
    exact ⟨its, r, p, z⟩
end
noncomputable def Itz (K : PySem.W.Frag) (t1 t2 : Bool) (a b : Addr) : It :=
  ⟨fun i H => ∃ xs ys x y, Sq t1 K H a xs /\ Sq t2 K H b ys /\ xs[i]? = some x /\ ys[i]? = some y,
   fun i H v H' => ∃ p x y, H p = none /\ v = .ref p /\ H' = upd H p (.tup [x, y]) /\ ∀ xs ys, Sq t1 K H a xs -> Sq t2 K H b ys -> xs[i]? = some x /\ ys[i]? = some y,
   fun i H => ∃ xs ys, Sq t1 K H a xs /\ Sq t2 K H b ys /\ (xs.length <= i \/ ys.length <= i)⟩
end L2
set_option maxRecDepth 100000
set_option maxHeartbeats 4000000
namespace L2
open PySem PySem.Spec PyProof.Rows
section
variable {prog : Program} {w : World} {A : Around} {E : Value -> Shared -> Prop} {s : Shared}
end
section
variable {X : Cx}
end
noncomputable def zipGo (ds es : List D) : List D := (ds.zip es).map fun p => .tup [p.1, p.2]
theorem zipGo_get {ds es : List D} {i : Nat} {d : D} (h : (zipGo ds es)[i]? = some d) : ∃ x y, ds[i]? = some x /\ es[i]? = some y /\ d = .tup [x, y] := by
  unfold zipGo at h
  rw [List.getElem?_map] at h
  cases hz : (ds.zip es)[i]? with
  | none => rw [hz] at h; cases h
  | some p =>
    rw [hz] at h
    obtain ⟨h1, h2⟩ := List.getElem?_zip_eq_some.mp hz
    exact ⟨p.1, p.2, h1, h2, (Option.some.inj h).symm⟩
theorem zipGo_len (ds es : List D) : (zipGo ds es).length = min ds.length es.length := by unfold zipGo; rw [List.length_map, List.length_zip]
theorem ItOk.zip {K : PySem.W.Frag} {H : Hp} {t : Bool} {a b : Addr} {vs ws : List V} {ds es : List D} {L1 L1' L2 L2' : List Addr} (ha : ∀ H', TF H H' -> (∀ c ∈ L1, H' c = H c) -> Sq t K H' a vs) (h1 : Reps K H ds vs L1') (s1 : ∀ c ∈ L1', c ∈ L1) (d1 : ∀ c ∈ L1, H c ≠ none) (hb : H b = some (.lst ws)) (e2 : L2 = b :: L2') (h2 : Reps K H es ws L2') :
    ItOk K (Itz K t false a b) (zipGo ds es) (L1 ++ L2) H := by
  subst e2
  refine ⟨fun c hc => ?_, fun H' tf kp i => ⟨fun d hd => ?_, fun hl => ?_⟩⟩
  · rcases List.mem_append.mp hc with z | z
    · exact d1 c z
    · rcases List.mem_cons.mp z with z | z
      · rw [z, hb]; simp
      · exact h2.there z
  · have ha' := ha H' tf fun c hc => kp c (List.mem_append_left _ hc)
    have hb' : H' b = some (.lst ws) := (kp b (List.mem_append_right _ List.mem_cons_self)).trans hb
    obtain ⟨x, y, hx, hy, rfl⟩ := zipGo_get hd
    obtain ⟨v, M1, e1, r1, u1⟩ := h1.get hx
    obtain ⟨w, M2, e2, r2, u2⟩ := h2.get hy
    refine ⟨⟨vs, ws, v, w, ha', SqL.of hb', e1, e2⟩, fun z H'' ⟨p, x', y', hp, z1, z2, hq⟩ => ?_⟩
    subst z1 z2
    obtain ⟨q1, q2⟩ := hq vs ws ha' (SqL.of hb')
    rw [e1] at q1
    cases q1
    rw [e2] at q2
    cases q2
    have r1' : Rep K H' x v M1 := Rep.keep tf x _ M1 r1 fun c hc => kp c (List.mem_append_left _ (s1 c (u1.subset hc)))
    have r2' : Rep K H' y w M2 := Rep.keep tf y _ M2 r2 fun c hc => kp c (List.mem_append_right _ (List.mem_cons_of_mem _ (u2.subset hc)))
    refine ⟨Same.new hp, M1 ++ (M2 ++ []), ⟨p, _, rfl, SqT.of upd_same, ?_⟩, fun c hc => ?_⟩
    · exact Reps.cons (r1'.same (Same.new hp)) (Reps.cons (r2'.same (Same.new hp)) Reps.nil)
    · rw [List.append_nil] at hc
      rcases List.mem_append.mp hc with z | z
      · exact List.mem_append_left _ (s1 c (u1.subset z))
      · exact List.mem_append_right _ (List.mem_cons_of_mem _ (u2.subset z))
  · have ha' := ha H' tf fun c hc => kp c (List.mem_append_left _ hc)
    have hb' : H' b = some (.lst ws) := (kp b (List.mem_append_right _ List.mem_cons_self)).trans hb
    rw [zipGo_len] at hl
    have k1 := h1.length
    have k2 := h2.length
    refine ⟨vs, ws, ha', SqL.of hb', ?_⟩
    by_cases hc : vs.length <= i
    · exact .inl hc
    · exact .inr (by omega)
section
variable {X : Cx} {E : XK} {Γ : List Cl} {u : Tn -> R (List D)} {c : Rc} {p pos : Pos}
end
end L2
set_option maxRecDepth 100000
set_option maxHeartbeats 4000000
namespace L2
open PySem PySem.Spec PyProof.Rows
section
variable {prog : Program} {w : World} {A : Around} {E : Value -> Shared -> Prop} {s : Shared}
theorem getItem_tuple_whole {t sl : Addr} {items : Array Value} {vl vu : Value} {lo hi : Option Int} {Q : Value -> Shared -> Prop} (ht : IsTup s.heap t items) (hs : s.heap.IsSliceOf sl vl vu .none) (pl : IsPart vl lo) (pu : IsPart vu hi)
    (hw : HT.sIx items.size 0 lo = 0 /\ HT.sIx items.size items.size hi = items.size) (h : Q (.ref t) s) : wpAny (model prog w) A (getItem (.ref t) (.ref sl)) Q E s := by
  obtain ⟨os, hos, hcs, hds⟩ := id hs
  have hTs : s.TypeIs (.ref sl) "slice" := ⟨os, hos, hcs⟩
  unfold getItem
  try with_reducible refine wpAny_holding ?_
  first | refine wpAny_bind (wpAny_pure ?_) | skip
  refine wpAny_bind (wpAny_sequenceKey ht.typeIs (by decide) ?_)
  refine wpAny_bind (wpAny_callSpecial?_slot (name := Str.ofString "__getitem__") ht.typeIs PyProof.Rows.slot_tuple_getitem (wpAny_call_entry PyProof.Rows.slot_tuple_getitem ht.typeIs entry_tuple_getitem ?_ (args_tuple_getitem _ _)))
  show wpAny _ _ (Builtin.Tuple.tupleItemsOf (.ref t) >>= _) _ _ s
  refine wpAny_bind (tupleItemsOf_ ht ?_)
  refine wpAny_bind (wpAny_typeOf hTs ?_)
  rw [if_pos (by decide)]
  refine wpAny_bind (HT.sliceApplied_gen hs pl pu ?_)
  have hyes : (((HT.sIx items.size 0 lo : Nat) : Int) == 0 && (1 : Int) == 1 && (HT.sIx items.size items.size hi - HT.sIx items.size 0 lo) == items.size) = true := by
    rw [hw.1, hw.2]
    simp
  show wpAny _ _ (if (((HT.sIx items.size 0 lo : Nat) : Int) == 0 && (1 : Int) == 1 && (HT.sIx items.size items.size hi - HT.sIx items.size 0 lo) == items.size) = true then _ else _) _ _ s
  rw [if_pos hyes]
  refine wpAny_bind (m := Builtin.Tuple.tupleIsExact _) ?_
  unfold Builtin.Tuple.tupleIsExact
  refine wpAny_bind (wpAny_typeOf ht.typeIs (wpAny_pure ?_))
  rw [if_pos (by decide)]
  exact wpAny_bind (wpAny_rule (wpAny_pure ⟨_, rfl, wpAny_pure h⟩))
end
noncomputable def rSlA (K : PySem.W.Frag) : V -> Option Int -> Option Int -> Hp -> VK -> Prop := fun x lo hi H Q => ∃ a xs, x = .ref a /\ SqT K H a xs /\ ((HT.sIx xs.length 0 lo = 0 /\ HT.sIx xs.length xs.length hi = xs.length) -> Q (.ref a) H) /\
  (¬ (HT.sIx xs.length 0 lo = 0 /\ HT.sIx xs.length xs.length hi = xs.length) -> ∀ p, H p = none -> Q (.ref p) (upd H p (.tup (cutV xs lo hi))))
theorem sl_tupA {X : Cx} : SlR X (rSlA X.K) := by
  intro pins s σ H x v vl vu lo hi sl Q I rx hs pl pu h
  obtain ⟨a, xs, rfl, hx, q1, q2⟩ := h
  by_cases hw : HT.sIx xs.length 0 lo = 0 /\ HT.sIx xs.length xs.length hi = xs.length
  · cases rx
    obtain ⟨its, r, ht, hz⟩ := I.tuple hx
    have hlen : its.toArray.size = xs.length := by rw [List.size_toArray]; exact r.length.symm
    exact ⟨"tuple", _, PyProof.Rows.slot_tuple_getitem.lookup, ht.typeIs, getItem_tuple_whole ht hs pl pu (by rw [hlen]; exact hw) ⟨.ref a, H, I, rfl, q1 hw⟩⟩
  · exact sl_tup pins s σ H _ v vl vu lo hi sl Q I rx hs pl pu ⟨a, xs, rfl, hx, hw, q2 hw⟩
theorem cutL_whole {α : Type} (xs : List α) {lo hi : Option Int} (h : HT.sIx xs.length 0 lo = 0 /\ HT.sIx xs.length xs.length hi = xs.length) : cutL xs lo hi = xs := by
  unfold cutL
  rw [h.1, h.2, List.drop_zero, Nat.sub_zero, List.take_length]
noncomputable def slA (x : D) (lo hi : Option Int) : R D := match x with
  | .lst ds => if D.imms ds = true then .ok (.lst (cutL ds lo hi)) else .bad
  | .str z => if z.length <= sizeLine then .ok (.str (Txt.slice z lo hi)) else .bad
  | .tup ds => if D.imms ds = true then .ok (.tup (cutL ds lo hi)) else .bad
  | _ => .bad
noncomputable def eSlA (t : Tn -> R D) (tl th : Tn -> R (Option Int)) : Tn -> R D := fun τ => (t τ).bind fun x => (tl τ).bind fun l => (th τ).bind fun h => slA x l h
section
variable {X : Cx} {E : XK} {Γ : List Cl} {e : Expr} {t : Tn -> R D} {c : Rc} {p2 pos : Pos}
theorem me_slA {lo hi : Option Expr} {tl th : Tn -> R (Option Int)} (he : ME X E Γ e t c) (hl : MO X E Γ lo tl) (hh : MO X E Γ hi th) : ME X E Γ (.Subscript e (.Slice lo hi none p2) pos) (eSlA t tl th) .fresh := by
  obtain ⟨te, p, q⟩ := he
  obtain ⟨tl', pl, ql⟩ := hl
  obtain ⟨th', ph, qh⟩ := hh
  refine ⟨_, pe_slice (SlR.or sl_list (SlR.or sl_str sl_tupA)) p pl ph, fun O σ H τ Q ok h => ?_⟩
  unfold eSlA at h
  refine q O σ H τ _ ok (post.bind h fun dx hx h x H1 Lx s1 rx kx => ql O σ H1 τ _ (ok.same s1) ?_)
  cases h1 : tl τ with
  | err n => rw [h1] at h; exact fun C H' e s' => h C H' e (s1.trans s')
  | bad => rw [h1] at h; exact h
  | ok l =>
    rw [h1, R.ok_bind] at h
    refine fun H2 s2 => qh O σ H2 τ _ ((ok.same s1).same s2) ?_
    cases h2 : th τ with
    | err n => rw [h2] at h; exact fun C H' e s' => h C H' e ((s1.trans s2).trans s')
    | bad => rw [h2] at h; exact h
    | ok g =>
      rw [h2, R.ok_bind] at h
      refine fun H3 s3 => ?_
      have s03 := (s1.trans s2).trans s3
      have rx := (rx.same s2).same s3
      unfold slA at h
      cases dx with
      | lst ds =>
        dsimp only at h
        by_cases hz : D.imms ds = true
        · rw [if_pos hz] at h
          obtain ⟨a, vs, L', rfl, ha, _, rs⟩ := rx
          obtain ⟨L2, rc, _⟩ := (imms_nil rs hz).cut l g
          have e0 : L2 = [] := List.sublist_nil.mp ‹_›
          subst e0
          refine .inl ⟨a, vs, rfl, SqL.of ha, fun p hp => new_lst rc hp fun v H' L s r n1 n2 => h v H' L (s03.trans s) r ⟨n1, fun a ha => s03.non (n2 a ha)⟩⟩
        · rw [if_neg hz] at h; exact h.elim
      | str z =>
        dsimp only at h
        by_cases hz : z.length <= sizeLine
        · rw [if_pos hz] at h
          exact .inr (.inl ⟨z, rx.1, hz, h _ H3 [] s03 ⟨rfl, rfl⟩ RcOk.nil⟩)
        · rw [if_neg hz] at h; exact h.elim
      | tup ds =>
        dsimp only at h
        by_cases hz : D.imms ds = true
        · rw [if_pos hz] at h
          obtain ⟨a, vs, rfl, ha, rs⟩ := rx
          have rs0 := imms_nil rs hz
          obtain ⟨L2, rc, _⟩ := rs0.cut l g
          have e0 : L2 = [] := List.sublist_nil.mp ‹_›
          subst e0
          refine .inr (.inr ⟨a, vs, rfl, ha, fun hw => ?_, fun hw p hp => h _ _ [] (s03.trans (Same.new hp)) ⟨p, _, rfl, SqT.of upd_same, rc.same (Same.new hp)⟩ RcOk.nil⟩)
          rw [rs.length] at hw
          rw [cutL_whole ds hw] at h
          exact h _ H3 [] s03 ⟨a, vs, rfl, ha, rs0⟩ RcOk.nil
        · rw [if_neg hz] at h; exact h.elim
      | _ => exact h.elim
end
section
variable {X : Cx} {E : XK} {Γ Γl : List Cl} {pos : Pos}
end
end L2
set_option maxRecDepth 100000
set_option maxHeartbeats 4000000
namespace L2
open PySem PySem.Spec PyProof.Rows
end L2
set_option maxRecDepth 100000
set_option maxHeartbeats 4000000
namespace L2
open PySem PySem.Spec PyProof.Rows
noncomputable def sErr (x : Str) (u : Tn -> R (List D)) : Tn -> R Fl := fun τ => (u τ).bind fun ds => if ds.length <= sizeLine then .err x else .bad
theorem ms_raise {P : Program} {w : World} {K : PySem.W.Frag} {mg : Str -> Option Value} {base : Heap} {N : List Str} {qual : Str} {scope : Scope} {f : Addr} {cd : Value} {A : Around} {outer : List Env} {s : Shared} {H : Hp} {E : XK} {Γ Γl Γ' : List Cl}
    {x : Str} {C : Addr} {e₀ : Expr} {u : Tn -> R (List D)} {c : Rc} {np cpos pos : Pos} (hc : ErrC K x C) (hg : Gl (cxOf (cxx P w) P w K mg base N qual scope f cd A outer s H E) x)
    (ha : MA (cxOf (cxx P w) P w K mg base N qual scope f cd A outer s H E) E Γ [e₀] u c) (hd : autoParam ((x == ("__debug__" : Str)) = false) L2.au1._auto_1)
    (he : autoParam (starEach [e₀] (envOfC qual scope s.heap.objs.size f cd) = (false, eval e₀ (envOfC qual scope s.heap.objs.size f cd)) :: starEach [] (envOfC qual scope s.heap.objs.size f cd)) L2.au3._auto_1) :
    MS (cxOf (cxx P w) P w K mg base N qual scope f cd A outer s H E) E Γl Γ (.Raise (some (.Call (.Name x np) [e₀] [] cpos)) none pos) (sErr x u) Γ' := by
  obtain ⟨_, ta, pa, q⟩ := ha
  refine ⟨tRaise C E ta, fun pins s1 σ H1 D I h => ps_raise (A := A) (show A.handled = none from I.ok.hd rfl) hc hg pa hd he rfl pins s1 σ H1 D I h, fun B σ H1 τ Z ok h => ?_⟩
  obtain ⟨O, eok, _⟩ := ok.eok
  refine q O σ H1 τ _ eok ?_
  unfold sErr at h
  cases hu : u τ with
  | ok ds =>
    rw [hu, R.ok_bind] at h
    refine fun vs H' L s r _ => ?_
    by_cases hz : ds.length <= sizeLine
    · rw [if_pos hz] at h
      exact ⟨by rw [r.length]; exact hz, h C H' hc (ok.ext.trans s)⟩
    · rw [if_neg hz] at h; exact h.elim
  | err n => rw [hu] at h; exact fun C' H' e s => h C' H' e (ok.ext.trans s)
  | bad => rw [hu] at h; exact h.elim
noncomputable def sTryE (F : List D -> R D) (u : Tn -> R (List D)) (g : Str -> Option D) : Tn -> R Fl := fun τ => match u τ with
  | .ok ds => (match F ds with
    | .ok d => .ok (.nx τ)
    | .err m => (match g m with | some d => .ok (.rt d) | none => .bad)
    | .bad => .bad)
  | _ => .bad
noncomputable def Suite (X : Cx) (CS : Addr) (i : Nat) (sts : List Stmt) (g : Str -> Option D) : Prop := ∀ (m : Str) (d : D), g m = some d -> ∀ C, ErrC X.K m C -> PySem.W.exmOne X.K (.ref C) (.ref CS) = some true /\
  ∃ ts : Addr -> Obj -> TS, (∀ e oe, PSs (X.within e oe) sts (ts e oe)) /\ ∀ e oe (Z : Ends) (σ : St) (H : Hp), σ.length = X.N.length -> oe.cls = .ref C -> H e = none -> σ[i]? = some (some (.ref e)) -> (∀ v H', Same H H' -> Rep X.K H' d v [] -> Z.rt v H') -> ts e oe Z σ H
noncomputable def Suite.ts {X : Cx} {CS : Addr} {i : Nat} {sts : List Stmt} {g : Str -> Option D} (hs : Suite X CS i sts g) (e : Addr) (oe : Obj) : TS := fun Z σ H => ∃ (m : Str) (d : L2.D) (hg : g m = some d) (C : Addr) (hC : ErrC X.K m C), Classical.choose (hs m d hg C hC).2 e oe Z σ H
theorem Suite.pss {X : Cx} {CS : Addr} {i : Nat} {sts : List Stmt} {g : Str -> Option D} (hs : Suite X CS i sts g) (e : Addr) (oe : Obj) : PSs (X.within e oe) sts (hs.ts e oe) := by
  intro pins s σ H Z I h
  obtain ⟨m, d, hg, C, hC, z⟩ := h
  exact (Classical.choose_spec (hs m d hg C hC).2).1 e oe pins s σ H Z I z
section
variable {X : Cx} {E : XK} {Γ Γl Γ' : List Cl} {k : Nat} {CS : Addr} {ps : List Str} {F : List D -> R D} {nA : Nat} {x xc n : Str} {p pos pos' pc hpos tpos : Pos} {e : Expr} {es : List Expr} {u : Tn -> R (List D)} {c : Rc} {i : Nat} {b₀ : Stmt} {suite : List Stmt} {g : Str -> Option D}
theorem ms_tryE (O : Own X.prog X.w X.K X.mg X.base x k ps (spM X.K F nA)) (hN : X.N.Nodup) (hr : Room k X.A) (hg : Gl X x) (ha : MA X.nox (fun _ _ _ => False) Γ (e :: es) u c) (hgc : Gl X xc) (hmc : X.mg xc = some (.ref CS)) (hi : X.N[i]? = some n) (hx : X.env.scope.names.lookup n = some .local) (hil : i < X.N.length) (hΓ : Γ.length = X.N.length) (hs : Suite X CS i (b₀ :: suite) g)
    (hst : autoParam (X.stack = X.env :: X.outer) L2.au3._auto_1) (hf : autoParam (X.env.frame = some X.env.locals) L2.au3._auto_1) (hc : autoParam (X.calm = true) L2.au3._auto_1) (hl : autoParam ((e :: es).length = nA) L2.au3._auto_1)
    (hdb : autoParam ((x == ("__debug__" : Str)) = false) L2.au1._auto_1) (hdc : autoParam ((xc == ("__debug__" : Str)) = false) L2.au1._auto_1)
    (he : autoParam (starEach (e :: es) X.env = (false, eval e X.env) :: starEach es X.env) L2.au3._auto_1) (hpl : autoParam ((backTo pos (starEach es X.env)).any (·.1) = false) L2.au3._auto_1)
    (hsw : autoParam (swapsWith (.Call (.Name x p) (e :: es) [] pos) none pos'.line X.env = pure false) L2.au3._auto_1) :
    MS X E Γl Γ (.Try [.Expr (.Call (.Name x p) (e :: es) [] pos) pos'] [.ExceptHandler (some (.Name xc pc)) (some n) (b₀ :: suite) hpos] [] [] tpos) (sTryE F u g) Γ := by
  obtain ⟨hlen, ta, pa, q⟩ := ha
  refine ⟨_, ps_tryO O hst hf hc hN hr hg pa hgc hmc hi hx hs.pss hdb hdc he hpl hsw, fun B σ H τ Z ok h => ?_⟩
  obtain ⟨O', eok, _⟩ := ok.eok
  refine q O' σ H τ _ eok ?_
  unfold sTryE at h
  cases hu : u τ with
  | ok ds =>
    rw [hu] at h
    dsimp only at h
    refine fun vs H1 L s r _ => ?_
    have hv : (vs ++ []).length = nA := by rw [List.append_nil, r.length, hlen τ ds hu]; exact hl
    refine ⟨hv, ds, L, by rw [List.append_nil]; exact r, ?_⟩
    have sB : Same B H1 := ok.ext.trans s
    cases hF : F ds with
    | ok d =>
      rw [hF] at h
      exact fun v H' L' s' r' k' => h σ H' (ok.same (s.trans s'))
    | err m =>
      rw [hF] at h
      dsimp only at h
      cases hgm : g m with
      | some d =>
        rw [hgm] at h
        dsimp only at h
        intro C H' hC s'
        refine ⟨C, rfl, (hs m d hgm C hC).1, fun e1 oe hcls hn => ⟨m, d, hgm, C, hC, ?_⟩⟩
        refine (Classical.choose_spec (hs m d hgm C hC).2).2 e1 oe _ _ H' (by rw [List.length_set, ok.lσ, hΓ]) hcls hn ?_ fun v H2 s2 r2 => h v H2 [] ((sB.trans s').trans s2) r2 List.nodup_nil fun a ha => nomatch ha
        rw [List.getElem?_set_self (by rw [ok.lσ, hΓ]; exact hil)]
      | none => rw [hgm] at h; exact h.elim
    | bad => rw [hF] at h; exact h.elim
  | err m => rw [hu] at h; exact h.elim
  | bad => rw [hu] at h; exact h.elim
end
end L2
set_option maxRecDepth 100000
set_option maxHeartbeats 4000000
namespace L2
open PySem PySem.Spec PyProof.Rows
inductive ClVs : List V -> List Value -> Prop where
  | nil : ClVs [] []
  | cons {c : V} {u : Value} {cs : List V} {us : List Value} (h : ClV c u) (t : ClVs cs us) : ClVs (c :: cs) (u :: us)
theorem ClVs.vals : ∀ {cs : List V} {us its : List Value}, ClVs cs us -> Vals cs its -> its = us
  | _, _, _, .nil, .nil => rfl
  | _, _, _, .cons h t, .cons r rs => by
    rw [ClVs.vals t rs]
    congr 1
    cases h with
    | ref a => exact r
    | ty n => exact r
section
variable {X : Cx} {E : XK} {Γ Γl : List Cl} {pos : Pos}
end
end L2
set_option maxRecDepth 100000
set_option maxHeartbeats 4000000
namespace L2
open PySem PySem.Spec PyProof.Rows
theorem ms_raiseE {P : Program} {w : World} {K : PySem.W.Frag} {mg : Str -> Option Value} {base : Heap} {N : List Str} {qual : Str} {scope : Scope} {f : Addr} {cd : Value} {A : Around} {outer : List Env} {s : Shared} {H : Hp} {E : XK} {Γ Γl Γ' : List Cl}
    {x : Str} {e₀ : Expr} {u : Tn -> R (List D)} {c : Rc} {np cpos pos : Pos} (hc : ∃ C, ErrC K x C) (hg : Gl (cxOf (cxx P w) P w K mg base N qual scope f cd A outer s H E) x)
    (ha : MA (cxOf (cxx P w) P w K mg base N qual scope f cd A outer s H E) E Γ [e₀] u c) (hd : autoParam ((x == ("__debug__" : Str)) = false) L2.au1._auto_1)
    (he : autoParam (starEach [e₀] (envOfC qual scope s.heap.objs.size f cd) = (false, eval e₀ (envOfC qual scope s.heap.objs.size f cd)) :: starEach [] (envOfC qual scope s.heap.objs.size f cd)) L2.au3._auto_1) :
    MS (cxOf (cxx P w) P w K mg base N qual scope f cd A outer s H E) E Γl Γ (.Raise (some (.Call (.Name x np) [e₀] [] cpos)) none pos) (sErr x u) Γ' := by
  obtain ⟨C, hc⟩ := hc
  exact ms_raise hc hg ha hd he
section
variable {X : Cx} {E : XK} {Γ Γl Γ' : List Cl} {k : Nat} {ps : List Str} {F : List D -> R D} {nA : Nat} {x xc n : Str} {p pos pos' pc hpos tpos : Pos} {e : Expr} {es : List Expr} {u : Tn -> R (List D)} {c : Rc} {i : Nat} {b₀ : Stmt} {suite : List Stmt} {g : Str -> Option D}
theorem ms_tryEC (O : Own X.prog X.w X.K X.mg X.base x k ps (spM X.K F nA)) (hN : X.N.Nodup) (hr : Room k X.A) (hg : Gl X x) (ha : MA X.nox (fun _ _ _ => False) Γ (e :: es) u c) (hgc : Gl X xc) (hi : X.N[i]? = some n) (hx : X.env.scope.names.lookup n = some .local) (hil : i < X.N.length) (hΓ : Γ.length = X.N.length) (hs : ∃ CS, X.mg xc = some (.ref CS) /\ Suite X CS i (b₀ :: suite) g)
    (hst : autoParam (X.stack = X.env :: X.outer) L2.au3._auto_1) (hf : autoParam (X.env.frame = some X.env.locals) L2.au3._auto_1) (hc : autoParam (X.calm = true) L2.au3._auto_1) (hl : autoParam ((e :: es).length = nA) L2.au3._auto_1)
    (hdb : autoParam ((x == ("__debug__" : Str)) = false) L2.au1._auto_1) (hdc : autoParam ((xc == ("__debug__" : Str)) = false) L2.au1._auto_1)
    (he : autoParam (starEach (e :: es) X.env = (false, eval e X.env) :: starEach es X.env) L2.au3._auto_1) (hpl : autoParam ((backTo pos (starEach es X.env)).any (·.1) = false) L2.au3._auto_1)
    (hsw : autoParam (swapsWith (.Call (.Name x p) (e :: es) [] pos) none pos'.line X.env = pure false) L2.au3._auto_1) :
    MS X E Γl Γ (.Try [.Expr (.Call (.Name x p) (e :: es) [] pos) pos'] [.ExceptHandler (some (.Name xc pc)) (some n) (b₀ :: suite) hpos] [] [] tpos) (sTryE F u g) Γ := by
  obtain ⟨CS, h1, h2⟩ := hs
  exact ms_tryE O hN hr hg ha hgc h1 hi hx hil hΓ h2 hst hf hc hl hdb hdc he hpl hsw
end
end L2
set_option maxRecDepth 100000
set_option maxHeartbeats 4000000
namespace L2
open PySem PySem.Spec PyProof.Rows
structure CompScopeC (X : Cx) (xc : Str) (N' : List Str) (fr : List (Option Nat)) (scope : Scope) : Prop where
  kind : scope.kind = .function
  one : ∃ pre post, scope.names = pre ++ (xc, NameKind.cell) :: post /\ ∀ y ∈ pre ++ post, y.2 ≠ .cell
  nox : ∀ y ∈ scope.names, y.1 = xc -> y.2 = .cell
  loc : ∀ y ∈ scope.names, y.2 = .local -> scope.names.lookup y.1 = some .local
  free : ∀ y ∈ scope.names, y.2 = .free -> ∃ c, X.env.cells.lookup y.1 = some c
  len : fr.length = N'.length
  fre : ∀ (j i : Nat) (x : Str), fr[j]? = some (some i) -> N'[j]? = some x -> X.N[i]? = some x /\ scope.names.lookup x = some .free /\ (X.env.kindOf x = some .cell \/ X.env.kindOf x = some .free)
section
variable {X : Cx} {pins : List (Addr × Obj)} {σ : St} {H : Hp} {s : Shared} {xc : Str} {N' : List Str} {fr : List (Option Nat)} {scope : Scope} {fp : List Addr}
end
section
variable {X : Cx} {pins : List (Addr × Obj)} {σ τ : St} {H H₃ H5 : Hp} {s₃ s5 : Shared} {xc : Str} {N' : List Str} {scope : Scope} {fp : List Addr}
end
end L2
set_option maxRecDepth 100000
set_option maxHeartbeats 4000000
namespace L2
open PySem PySem.Spec PyProof.Rows
section
variable {X : Cx} {E : XK} {Γ : List Cl} {pos : Pos}
end
theorem lenS {α : Type} {us : List α} {n : Nat} (h : us.length = n + 1) : ∃ a t, us = a :: t /\ t.length = n := by
  cases us with
  | nil => cases h
  | cons a t => exact ⟨a, t, rfl, Nat.succ.inj h⟩
theorem len0 {α : Type} {us : List α} (h : us.length = 0) : us = [] := List.length_eq_zero_iff.mp h
theorem bd1 {α : Type} {P : List α -> Prop} (h : ∀ a, P [a]) : ∀ us : List α, us.length = 1 -> P us := fun us hl => by
  obtain ⟨a, t, rfl, h1⟩ := lenS hl
  cases len0 h1
  exact h a
theorem bd2 {α : Type} {P : List α -> Prop} (h : ∀ a b, P [a, b]) : ∀ us : List α, us.length = 2 -> P us := fun us hl => by
  obtain ⟨a, t, rfl, h1⟩ := lenS hl
  exact bd1 (P := fun t => P (a :: t)) (h a) t h1
theorem bd3 {α : Type} {P : List α -> Prop} (h : ∀ a b c, P [a, b, c]) : ∀ us : List α, us.length = 3 -> P us := fun us hl => by
  obtain ⟨a, t, rfl, h1⟩ := lenS hl
  exact bd2 (P := fun t => P (a :: t)) (h a) t h1
end L2
set_option maxRecDepth 100000
set_option maxHeartbeats 4000000
namespace L2
open PySem PySem.Spec PyProof.Rows
end L2
set_option maxRecDepth 100000
set_option maxHeartbeats 4000000
namespace L2
open PySem PySem.Spec PyProof.Rows
section
variable {X : Cx} {E : XK} {Γ Γl : List Cl} {x1 x2 xr d nm : Str} {F1 F2 : List D -> R D} {es : List Expr} {u : Tn -> R (List D)} {c : Rc} {i k n : Nat} {f1 f2 : Addr} {ps : List Str} {p1 p2 p3 p4 p5 p6 p7 p8 p9 p10 p11 p12 : Pos} {ct : Nat} {jj : _}
end
theorem me_disp0 {X : Cx} {E : XK} {Γ : List Cl} {pos : Pos} : ME X E Γ (.Dict [] [] pos) (eC (.dic [] [])) .fresh :=
  ⟨_, pe_dnewK, fun O σ H τ Q ok h p hp => h (.ref p) _ [p] (Same.new hp) ⟨p, [], [], rfl, upd_same, rfl, rfl, List.nodup_nil, rfl, rfl⟩ ⟨List.nodup_cons.mpr ⟨List.not_mem_nil, List.nodup_nil⟩, fun a ha => by rw [List.mem_singleton.mp ha]; exact hp⟩⟩
end L2
set_option maxRecDepth 100000
set_option maxHeartbeats 4000000
namespace L2
open PySem PySem.Spec PyProof.Rows
section
variable {K : PySem.W.Frag} {Γ : List Cl} {B H : Hp} {σ : St} {τ : Tn} {T T' : List Addr}
theorem SOk.subT (h : SOk K Γ B H σ τ T) (nd : T'.Nodup) (hs : ∀ a ∈ T', a ∈ T) : SOk K Γ B H σ τ T' := by
  obtain ⟨Ls, h1, h2, h3, h4, h5, h6⟩ := h.ex
  exact ⟨h.ext, h.lσ, h.lτ, Ls, h1, h2, h3, nd, fun a ha => h5 a (hs a ha), fun i c e hc a ha hm => h6 i c e hc a ha (hs a hm)⟩
theorem SOk.nodT (h : SOk K Γ B H σ τ T) : T.Nodup := by
  obtain ⟨Ls, h1, h2, h3, h4, h5, h6⟩ := h.ex
  exact h4
end
noncomputable def catD : D -> D -> R D
  | .lst xs, .lst ys => if xs.length + ys.length <= sizeLine then .ok (.lst (xs ++ ys)) else .bad
  | _, _ => .bad
theorem mv_cat {X : Cx} {E : XK} {Γ Γ1 Γ2 : List Cl} {a b : Expr} {ta tb : Tn -> R D} {pos : Pos} (ha : MV X E Γ a ta Γ1) (hb : MV X E Γ1 b tb Γ2) : MV X E Γ (.BinOp a .Add b pos) (eBin catD ta tb) Γ2 := by
  obtain ⟨te1, p1, q1⟩ := ha
  obtain ⟨te2, p2, q2⟩ := hb
  refine ⟨_, pe_op op_cat p1 p2, fun B σ H τ T Q ok h => q1 B σ H τ T _ ok ?_⟩
  unfold eBin at h
  cases h1 : ta τ with
  | err n => rw [h1] at h; exact h
  | bad => rw [h1] at h; exact h
  | ok d1 =>
    rw [h1, R.ok_bind] at h
    refine fun v H1 L s1 r1 ok1 => q2 B σ H1 τ (L ++ T) _ ok1 ?_
    cases h2 : tb τ with
    | err n => rw [h2] at h; exact h
    | bad => rw [h2] at h; exact h
    | ok d2 =>
      rw [h2, R.ok_bind] at h
      refine fun w H2 L2 s2 r2 ok2 => ?_
      have r1 := r1.same s2
      unfold catD at h
      split at h
      · rename_i xs ys
        split at h
        · rename_i hz
          obtain ⟨l, vs, L1', rfl, hl, rfl, rs⟩ := r1
          obtain ⟨b, ws, L2', rfl, hb, rfl, qs⟩ := r2
          refine ⟨l, b, vs, ws, rfl, rfl, hl, hb, by rw [rs.length, qs.length]; exact hz, fun p hp => ?_⟩
          have sn : Same H2 (upd H2 p (.lst (vs ++ ws))) := Same.new hp
          refine h (.ref p) _ (p :: (L1' ++ L2')) ((s1.trans s2).trans sn) ⟨p, vs ++ ws, L1' ++ L2', rfl, upd_same, rfl, Reps.append (rs.same sn) (qs.same sn)⟩ ?_
          have ok3 := ok2.aside (L := [p]) sn (fun a ha => by rw [List.mem_singleton.mp ha, upd_same]; simp) (List.nodup_cons.mpr ⟨List.not_mem_nil, List.nodup_nil⟩) (fun a ha => by rw [List.mem_singleton.mp ha]; exact hp)
          have nd := ok3.nodT
          have pm : List.Perm ([p] ++ ((b :: L2') ++ ((l :: L1') ++ T))) (b :: l :: ((p :: (L1' ++ L2')) ++ T)) := by
            rw [List.perm_iff_count]
            intro a
            simp only [List.count_append, List.count_cons, List.count_nil]
            lia
          have nd2 := (List.nodup_cons.mp (List.nodup_cons.mp (pm.nodup_iff.mp nd)).2).2
          exact ok3.subT nd2 fun a ha => pm.mem_iff.mpr (List.mem_cons_of_mem _ (List.mem_cons_of_mem _ ha))
        · exact h.elim
      · exact h.elim
end L2
set_option maxRecDepth 100000
set_option maxHeartbeats 4000000
namespace L2
open PySem PySem.Spec PyProof.Rows
section
variable {P : Program} {w : World} {K : PySem.W.Frag} {mg : Str -> Option Value} {base : Heap} {x : Str} {st : Stmt} {N ps : List Str} {k : Nat} {t : Tn -> R Fl} {Γ' : List Cl}
end
noncomputable def isB (neg : Bool) : D -> D -> R D
  | .bl c, .bl d => .ok (.bl (if neg = true then c != d else c == d))
  | _, _ => .bad
theorem N_isB {neg : Bool} : NoErr (isB neg) := fun x y n h => by
  unfold isB at h
  split at h <;> cases h
theorem op_notB {X : Cx} : OpR X (compareOp .IsNot) (fun x y H Q => ∃ c d, x = .bl c /\ y = .bl d /\ Q (.bl (c != d)) H) := by
  intro pins s σ H x y v u Q I rx ry h
  obtain ⟨c, d, rfl, rfl, q⟩ := h
  cases rx
  cases ry
  exact isnot_bool (fin_bl I q rfl)
theorem B_notB {K : PySem.W.Frag} : OpB K (fun x y H Q => ∃ c d, x = .bl c /\ y = .bl d /\ Q (.bl (c != d)) H) (isB true) := by
  rintro H x y dx dy Lx Ly Q rx ry ⟨d, hg, q⟩
  unfold isB at hg
  split at hg
  · cases hg
    exact ⟨_, _, rx.1, ry.1, q _ H [] (Same.refl H) ⟨rfl, rfl⟩ (by simp) (fun a ha => nomatch ha)⟩
  · cases hg
section
variable {K : PySem.W.Frag} {pn : List (Addr × Obj)} {σ : St} {H : Hp} {Q : VK} {e : Addr} {oe : Obj} {C : Addr}
theorem isi_of {i : Nat} {c : V} {u : Value} {b : Bool} (mem : (e, oe) ∈ pn) (hcls : oe.cls = .ref C) (iT : ErrI K C) (hc : ClV c u) (k : PySem.W.kitOne K (.ref C) u = some b) (hσ : σ[i]? = some (some (.ref e))) (h : Q (.bl b) H) : tIsi K pn c (tVar i) σ H Q :=
  ⟨_, hσ, _, _, _, _, _, rfl, .exc mem hcls iT, hc, k, h⟩
theorem tcat {A1 : TE} {j : Nat} {p : Addr} {xs ys : List V} (hj : σ[j]? = some (some (.ref p))) (hp : H p = some (.lst xs)) (hl : xs.length + ys.length <= 100) (h1 : ∀ Q : VK, (∀ q H', Same H H' -> H' q = some (.lst ys) -> Q (.ref q) H') -> A1 σ H Q)
    (h : ∀ q H', Same H H' -> H' q = some (.lst (xs ++ ys)) -> Q (.ref q) H') : tOp rCat (tVar j) A1 σ H Q :=
  ⟨_, hj, h1 _ fun q H' s hq => ⟨p, q, xs, ys, rfl, rfl, s _ _ hp, hq, by rw [sizeLine_eq]; omega, fun r hr => h r _ (s.trans (Same.new hr)) upd_same⟩⟩
theorem tnot {j : Nat} {p : Addr} {xs : List V} (hj : σ[j]? = some (some (.ref p))) (hp : H p = some (.lst xs)) (hf : xs.all flatV = true) (hi : inV (.bl true) xs = false) (h : Q (.bl true) H) : tOp (rIn K true) (tC (.bl true)) (tVar j) σ H Q :=
  ⟨_, hj, p, xs, rfl, .inl (SqL.of hp), rfl, hf, by rw [hi]; exact h⟩
theorem tand {A1 A2 : TE} (h1 : ∀ Q : VK, Q (.bl true) H -> A1 σ H Q) (h2 : A2 σ H Q) : tAndV A1 A2 σ H Q := h1 _ ⟨true, rfl, by rw [if_pos rfl]; exact h2⟩
end
theorem seq_set {te : TE} {i : Nat} {u : TS} {D : Ends} {σ : St} {H : Hp} (h : te σ H fun v H1 => u D (σ.set i (some v)) H1) : tSeq (tAsg te (gName i)) u D σ H := h
theorem ret_of {te : TE} {D : Ends} {σ : St} {H : Hp} (h : te σ H D.rt) : tRet te D σ H := h
end L2
set_option maxRecDepth 100000
set_option maxHeartbeats 4000000
namespace L2
open PySem PySem.Spec PyProof.Rows
section
variable {X : Cx} {E : XK} {Γ Γ1 Γ2 Γa Γb Γl Γ' : List Cl} {pos : Pos}
end
theorem at_of {K : PySem.W.Frag} {H : Hp} {d : D} : ∀ {ds : List D} {vs : List V} {L : List Addr} {k : Nat}, Reps K H ds vs L -> ds[k]? = some d -> L.Nodup -> ∃ v Ld, vs[k]? = some v /\ Rep K H d v Ld /\ Ld.Nodup /\ (∀ a ∈ Ld, a ∈ L) /\
    ∀ (H2 : Hp) (d2 : D) (L2 : List Addr), TF H H2 -> (∀ b, b ∉ Ld -> H b ≠ none -> H2 b = H b) -> Rep K H2 d2 v L2 -> (∀ a ∈ L2, a ∈ Ld) -> L2.Nodup -> ∃ L', Reps K H2 (ds.set k d2) vs L' /\ (∀ a ∈ L', a ∈ L) /\ L'.Nodup
  | [], _, _, k, _, h, _ => by cases k <;> cases h
  | e :: ds, _, _, 0, hq, h, nd => by
    obtain ⟨v, vs', L1, L2, e1, e2, r1, r2⟩ := hq
    subst e1 e2
    cases h
    obtain ⟨n1, n2, n3⟩ := List.nodup_append.mp nd
    refine ⟨v, L1, rfl, r1, n1, fun a ha => List.mem_append_left _ ha, fun H2 d2 L3 tf kp r3 sb nd3 => ⟨L3 ++ L2, ?_, fun a ha => ?_, ?_⟩⟩
    · exact ⟨v, vs', L3, L2, rfl, rfl, r3, Reps.keep tf ds vs' L2 r2 fun a ha => kp a (fun z => n3 a z a ha rfl) (r2.there ha)⟩
    · rcases List.mem_append.mp ha with z | z
      · exact List.mem_append_left _ (sb a z)
      · exact List.mem_append_right _ z
    · exact List.nodup_append.mpr ⟨nd3, n2, fun a ha b hb z => n3 a (sb a ha) b hb z⟩
  | e :: ds, _, _, k + 1, hq, h, nd => by
    obtain ⟨v, vs', L1, L2, e1, e2, r1, r2⟩ := hq
    subst e1 e2
    obtain ⟨n1, n2, n3⟩ := List.nodup_append.mp nd
    obtain ⟨w, Ld, g1, g2, g3, g4, g5⟩ := at_of (k := k) r2 (by simpa using h) n2
    refine ⟨w, Ld, by simpa using g1, g2, g3, fun a ha => List.mem_append_right _ (g4 a ha), fun H2 d2 L3 tf kp r3 sb nd3 => ?_⟩
    obtain ⟨L', q1, q2, q3⟩ := g5 H2 d2 L3 tf kp r3 sb nd3
    refine ⟨L1 ++ L', ?_, fun a ha => ?_, ?_⟩
    · exact ⟨v, vs', L1, L', rfl, rfl, Rep.keep tf e v L1 r1 fun a ha => kp a (fun z => n3 a ha a (g4 a z) rfl) (r1.there ha), q1⟩
    · rcases List.mem_append.mp ha with z | z
      · exact List.mem_append_left _ z
      · exact List.mem_append_right _ (q2 a z)
    · exact List.nodup_append.mpr ⟨n1, q3, fun a ha b hb z => n3 a ha b (q2 b hb) z⟩
theorem SOk.at {K : PySem.W.Frag} {Γ : List Cl} {B H : Hp} {σ : St} {τ : Tn} {i k : Nat} {ds : List D} {d : D} (h : SOk K Γ B H σ τ []) (e : Γ[i]? = some .own) (hτ : τ[i]? = some (some (.lst ds))) (hk : ds[k]? = some d) :
    ∃ a vs v Ld, σ[i]? = some (some (.ref a)) /\ H a = some (.lst vs) /\ vs[k]? = some v /\ Rep K H d v Ld /\ Ld.Nodup /\ ∀ (H2 : Hp) (d2 : D) (L2 : List Addr), TF H H2 -> (∀ b, b ∉ Ld -> H b ≠ none -> H2 b = H b) -> Rep K H2 d2 v L2 -> (∀ a ∈ L2, a ∈ Ld) -> L2.Nodup -> SOk K Γ B H2 σ (τ.set i (some (.lst (ds.set k d2)))) [] := by
  obtain ⟨v0, d0, L, e1, e2, r, nd, n2, fin⟩ := h.slot e
  rw [hτ] at e2
  cases e2
  obtain ⟨a, vs, L', rfl, ha, rfl, rs⟩ := r
  obtain ⟨m1, m2⟩ := List.nodup_cons.mp nd
  obtain ⟨v, Ld, g1, g2, g3, g4, g5⟩ := at_of rs hk m2
  refine ⟨a, vs, v, Ld, e1, ha, g1, g2, g3, fun H2 d2 L2 tf kp r2 sb nd2 => ?_⟩
  obtain ⟨L3, q1, q2, q3⟩ := g5 H2 d2 L2 tf kp r2 sb nd2
  have hal : a ∉ Ld := fun z => m1 (g4 a z)
  have ha2 : H2 a = some (.lst vs) := by rw [kp a hal (by rw [ha]; simp)]; exact ha
  refine fin H2 _ (a :: L3) [] [] rfl tf (fun b hb hn => kp b (fun z => hb (List.mem_cons_of_mem _ (g4 b z))) hn) ⟨a, vs, L3, rfl, ha2, rfl, q1⟩ (fun b hb => .inl ?_) (List.nodup_cons.mpr ⟨fun z => m1 (q2 a z), q3⟩)
  rcases List.mem_cons.mp hb with z | z
  · rw [z]; exact List.mem_cons_self
  · exact List.mem_cons_of_mem _ (q2 b z)
section
variable {X : Cx} {E : XK} {Γ Γl : List Cl} {pos : Pos} {e : Expr} {t : Tn -> R D} {c : Rc}
end
end L2
set_option maxRecDepth 100000
set_option maxHeartbeats 4000000
namespace L2
open PySem PySem.Spec PyProof.Rows
section
open PySem.SeqAt PySem.MeetsSeq3
open PySem.AutoSeq1 (wpAny_loadPart')
end
end L2
set_option maxRecDepth 100000
set_option maxHeartbeats 4000000
namespace L2
open PySem PySem.Spec PyProof.Rows
section
variable {X : Cx} {E : XK} {Γ Γl : List Cl} {pos : Pos} {e : Expr} {t : Tn -> R D} {c : Rc}
end
end L2
set_option maxRecDepth 100000
set_option maxHeartbeats 4000000
namespace L2
open PySem PySem.Spec PyProof.Rows
section
variable {X : Cx} {E : XK} {Γ : List Cl} {o : Expr} {t : Tn -> R D} {c : Rc} {apos cpos : Pos}
end
end L2
set_option maxRecDepth 100000
set_option maxHeartbeats 4000000
namespace L2
open PySem PySem.Spec PyProof.Rows
section
variable {X : Cx} {E : XK} {Γ : List Cl} {e : Expr} {t : Tn -> R D} {c : Rc}
end
end L2
set_option maxRecDepth 100000
set_option maxHeartbeats 4000000
namespace L2
open PySem PySem.Spec PyProof.Rows
section
variable {X : Cx} {E : XK} {Γ : List Cl} {e : Expr} {t : Tn -> R D} {c : Rc} {p2 p3 p4 pos : Pos} {j : Nat}
theorem pe_m1 : PE X (.UnaryOp .USub (.Constant (.int 1) j p3) p4) (tC (.int (-1))) := fun pins s σ H Q I h => pe_un un_neg pe_int pins s σ H Q I ⟨1, rfl, h⟩
end
end L2
set_option maxRecDepth 100000
set_option maxHeartbeats 4000000
namespace L2
open PySem PySem.Spec PyProof.Rows
theorem TF.trans {H H1 H2 : Hp} (a : TF H H1) (b : TF H1 H2) : TF H H2 := ⟨fun x xs e => b.tup x xs (a.tup x xs e), fun x o u e => b.frz x o u (a.frz x o u e)⟩
section
variable {X : Cx} {E : XK} {Γ Γl : List Cl} {pos : Pos} {e : Expr} {t : Tn -> R D} {c : Rc}
end
end L2
set_option maxRecDepth 100000
set_option maxHeartbeats 4000000
namespace L2
open PySem PySem.Spec PyProof.Rows
section
variable {X : Cx} {E : XK} {Γ Γl : List Cl} {pos : Pos} {e : Expr} {t : Tn -> R D} {c : Rc}
end
end L2
set_option maxRecDepth 100000
set_option maxHeartbeats 4000000
namespace L2
open PySem PySem.Spec PyProof.Rows PySem.Builtin.Str
section
variable {X : Cx} {E : XK} {Γ : List Cl} {o : Expr} {t : Tn -> R D} {c : Rc} {apos cpos : Pos}
end
noncomputable def inS (a b : Str) : Bool := !(occurrences b a 0 b.length 1).isEmpty
noncomputable def rInS : R2 := fun x y H Q => ∃ a b, x = .str a /\ y = .str b /\ Q (.bl (inS a b)) H
theorem op_inS {X : Cx} : OpR X (compareOp .In) rInS := by
  intro pins s σ H x y v u Q I rx ry h
  obtain ⟨a, b, rfl, rfl, q⟩ := h
  obtain ⟨t, rfl⟩ := rx
  obtain ⟨t', rfl⟩ := ry
  exact in_str ⟨.bl (inS a b), H, I, rfl, q⟩
noncomputable def inSD : D -> D -> R D
  | .str a, .str b => .ok (.bl (inS a b))
  | _, _ => .bad
theorem N_inS : NoErr inSD := fun x y n h => by
  unfold inSD at h
  split at h <;> cases h
theorem B_inS {K : PySem.W.Frag} : OpB K rInS inSD := by
  rintro H x y dx dy Lx Ly Q rx ry ⟨d, hg, q⟩
  unfold inSD at hg
  split at hg
  · cases hg
    exact ⟨_, _, rx.1, ry.1, q _ H [] (Same.refl H) ⟨rfl, rfl⟩ (by simp) (fun a ha => nomatch ha)⟩
  · cases hg
end L2
set_option maxRecDepth 100000
set_option maxHeartbeats 4000000
namespace L2
open PySem PySem.Spec PyProof.Rows
noncomputable def PEp (X : Cx) (e : Expr) (t : TE) : Prop :=
  ∀ (pins : List (Addr × Obj)) (s : Shared) (σ : St) (H : Hp) (Q : VK), 0 < s.toks -> Inv X pins σ H s -> t σ H Q -> wpAny (model X.prog X.w) X.A (eval e X.env) (EP X pins σ Q) X.xe s
theorem PE.p {X : Cx} {e : Expr} {t : TE} (h : PE X e t) : PEp X e t := fun pins s σ H Q _ I => h pins s σ H Q I
theorem PEp.up {X : Cx} {e : Expr} {t : TE} (h : PEp X e t) {pins : List (Addr × Obj)} {s : Shared} {σ : St} {H : Hp} {Q : VK} (hs : 0 < s.toks) (I : Inv X pins σ H s) (ht : t σ H Q) : wpAny (model X.prog X.w) X.A (eval e X.env) (fun v s' => 0 < s'.toks /\ EP X pins σ Q v s') X.xe s :=
  wpAny_mono (wpAny_toks_of (n := 1) hs (h pins s σ H Q hs I ht)) (fun _ _ h => h) fun _ _ h => h.2
section
variable {X : Cx} {o : Expr} {to : TE} {a b : Str} {j1 j2 : Nat} {p1 p2 apos cpos : Pos}
end
section
end
end L2
set_option maxRecDepth 100000
set_option maxHeartbeats 4000000
namespace L2
open PySem PySem.Spec PyProof.Rows
noncomputable def MEp (X : Cx) (E : XK) (Γ : List Cl) (e : Expr) (t : Tn -> R D) (c : Rc) : Prop :=
  ∃ te, PEp X e te /\ ∀ O σ H τ Q, EOk X.K Γ O H σ τ -> post X.K E O c H Q (t τ) -> te σ H Q
section
variable {X : Cx} {E : XK} {Γ Γ' Γl : List Cl} {e o : Expr} {t : Tn -> R D} {c : Rc} {a b : Str} {j1 j2 : Nat} {p1 p2 apos cpos pos : Pos}
theorem ME.p (h : ME X E Γ e t c) : MEp X E Γ e t c := by
  obtain ⟨te, p, q⟩ := h
  exact ⟨te, p.p, q⟩
end
section
variable {P : Program} {w : World} {K : PySem.W.Frag} {mg : Str -> Option Value} {base : Heap} {x : Str} {st : Stmt} {N ps : List Str} {k : Nat} {t : Tn -> R Fl} {Γ' : List Cl}
end
end L2
set_option maxRecDepth 100000
set_option maxHeartbeats 4000000
namespace L2
open PySem PySem.Spec PyProof.Rows
section
open PySem.SeqAt PySem.MeetsSeq3
open PySem.AutoSeq1 (wpAny_loadPart')
end
end L2
set_option maxRecDepth 100000
set_option maxHeartbeats 4000000
namespace L2
open PySem PySem.Spec PyProof.Rows
section
open PySem.SeqAt PySem.MeetsSeq PySem.MeetsSeq3
open PySem.AutoSeq1 (wpAny_loadPart')
end
end L2
set_option maxRecDepth 100000
set_option maxHeartbeats 4000000
namespace L2
open PySem PySem.Spec PyProof.Rows
section
variable {X : Cx} {E : XK} {Γ Γs Γl : List Cl} {x : Str} {k : Nat} {ps : List Str} {F : List D -> R D} {e : Expr} {es : List Expr} {t : Tn -> R D} {u : Tn -> R (List D)} {c : Rc} {p pos : Pos} {n : Nat}
end
end L2
set_option maxRecDepth 100000
set_option maxHeartbeats 4000000
namespace L2
open PySem PySem.Spec PyProof.Rows
section
variable {X : Cx} {E : XK} {Γ Γl : List Cl} {pos : Pos}
end
end L2
set_option maxRecDepth 100000
set_option maxHeartbeats 4000000
namespace L2
open PySem PySem.Spec PyProof.Rows
section
end
end L2
set_option maxRecDepth 100000
set_option maxHeartbeats 4000000
namespace L2
open PySem PySem.Spec PyProof.Rows
noncomputable def SuiteA (X : Cx) (CS : Addr) (i j : Nat) (sts : List Stmt) (g : Str -> Option Int) : Prop := ∀ (m : Str) (k : Int), g m = some k -> ∀ C, ErrC X.K m C -> PySem.W.exmOne X.K (.ref C) (.ref CS) = some true /\
  ∃ ts : Addr -> Obj -> TS, (∀ e oe, PSs (X.within e oe) sts (ts e oe)) /\ ∀ e oe (Z : Ends) (σ : St) (H : Hp) (n : Int), σ.length = X.N.length -> oe.cls = .ref C -> H e = none -> σ[i]? = some (some (.ref e)) -> σ[j]? = some (some (.int n)) -> (∀ H', Same H H' -> Z.nx (σ.set j (some (.int (n + k)))) H') -> ts e oe Z σ H
noncomputable def SuiteA.ts {X : Cx} {CS : Addr} {i j : Nat} {sts : List Stmt} {g : Str -> Option Int} (hs : SuiteA X CS i j sts g) (e : Addr) (oe : Obj) : TS := fun Z σ H => ∃ (m : Str) (k : Int) (hg : g m = some k) (C : Addr) (hC : ErrC X.K m C), Classical.choose (hs m k hg C hC).2 e oe Z σ H
theorem SuiteA.pss {X : Cx} {CS : Addr} {i j : Nat} {sts : List Stmt} {g : Str -> Option Int} (hs : SuiteA X CS i j sts g) (e : Addr) (oe : Obj) : PSs (X.within e oe) sts (hs.ts e oe) := by
  intro pins s σ H Z I h
  obtain ⟨m, k, hg, C, hC, z⟩ := h
  exact (Classical.choose_spec (hs m k hg C hC).2).1 e oe pins s σ H Z I z
section
variable {X : Cx} {E : XK} {Γ Γl Γ' : List Cl} {k : Nat} {CS : Addr} {ps : List Str} {F : List D -> R D} {nA : Nat} {x xc n : Str} {p pos pos' pc hpos tpos : Pos} {e : Expr} {es : List Expr} {u : Tn -> R (List D)} {c : Rc} {i j : Nat} {b₀ : Stmt} {suite : List Stmt} {g : Str -> Option Int}
end
end L2
set_option maxRecDepth 100000
set_option maxHeartbeats 4000000
namespace L2
open PySem PySem.Spec PyProof.Rows
section
variable {X : Cx} {E : XK} {Γ : List Cl} {pos : Pos} {x : Str}
theorem me_globS {z : Str} (h : ∃ t, X.mg x = some (.str z t)) (hg : autoParam (Gl X x) L2.au9._auto_1) (hd : autoParam ((x == ("__debug__" : Str)) = false) L2.au1._auto_1) : ME X E Γ (.Name x pos) (eC (.str z)) .fresh := by
  obtain ⟨t, ht⟩ := h
  exact me_c (pe_glob (v := .str z) hg ht ⟨t, rfl⟩ hd) fun _ => ⟨rfl, rfl⟩
theorem me_globI {i : Int} (h : ∃ t, X.mg x = some (.int i t)) (hg : autoParam (Gl X x) L2.au9._auto_1) (hd : autoParam ((x == ("__debug__" : Str)) = false) L2.au1._auto_1) : ME X E Γ (.Name x pos) (eC (.int i)) .fresh := by
  obtain ⟨t, ht⟩ := h
  exact me_c (pe_glob (v := .int i) hg ht ⟨t, rfl⟩ hd) fun _ => ⟨rfl, rfl⟩
end
noncomputable def ixL (x k : D) : R D := match x with
  | .lst ds => ixD (.lst ds) k
  | _ => .bad
section
variable {X : Cx} {E : XK} {Γ Γl : List Cl} {pos p0 : Pos} {ix : Expr} {ti : Tn -> R D} {c : Rc}
theorem mv_ixN (i : Nat) {x : Str} (hi : ME X E Γ ix ti c) (hpl : PlainIx ix) (hN : autoParam (X.N[i]? = some x) L2.au3._auto_1) (h0 : autoParam (Γ[i]? = some .own) L2.au3._auto_1) (hv : autoParam (Vis X.env.scope x) L2.au5._auto_1) (hb : autoParam ((x == ("__debug__" : Str)) = false) L2.au1._auto_1) (hcd : autoParam ((x == ("__classdict__" : Str)) = false) L2.au1._auto_1) :
    MV X E Γ (.Subscript (.Name x p0) ix pos) (eBin ixL (eVar i) ti) (Γ.set i .dead) := by
  obtain ⟨te, p, q⟩ := hi
  refine ⟨_, pe_ix ix_seq (pe_var (pos := p0) hN hv hb hcd) p hpl, fun B σ H τ T Q ok h => ?_⟩
  obtain ⟨v, d, L, e1, e2, r, ok1⟩ := ok.out h0
  refine ⟨v, e1, ?_⟩
  obtain ⟨O, eo, _⟩ := ok.eok
  refine q O σ H τ _ eo ?_
  have ev : eVar i τ = .ok d := by unfold eVar; rw [e2]
  unfold eBin at h
  rw [ev, R.ok_bind] at h
  cases ht : ti τ with
  | err m => rw [ht] at h; exact fun C H' e s => h C H' e (ok.ext.trans s)
  | bad => rw [ht] at h; exact h
  | ok dk =>
    rw [ht, R.ok_bind] at h
    refine fun y H1 Ly s1 ry _ => ?_
    cases d with
    | lst ds =>
      cases hg : ixD (.lst ds) dk with
      | err m => exact absurd hg (N_ix _ _ _)
      | bad => rw [show ixL (.lst ds) dk = ixD (.lst ds) dk from rfl, hg] at h; exact h.elim
      | ok d2 =>
        rw [show ixL (.lst ds) dk = ixD (.lst ds) dk from rfl, hg] at h
        refine ix_seq_of (by intro ks ds z; cases z) hg (r.same s1) ry fun w L1 g1 g2 => ?_
        have okT := ok1.same s1
        have nd := okT.nodT
        obtain ⟨n1, n2, n3⟩ := List.nodup_append.mp nd
        refine h w H1 L1 s1 g1 (okT.subT (List.nodup_append.mpr ⟨n1.sublist g2, n2, fun a ha b hb' z => n3 a (g2.subset ha) b hb' z⟩) fun a ha => ?_)
        rcases List.mem_append.mp ha with z | z
        · exact List.mem_append_left _ (g2.subset z)
        · exact List.mem_append_right _ z
    | _ => exact h.elim
end
section
variable {X : Cx} {E : XK} {Γ Γl Γ' : List Cl} {k : Nat} {ps : List Str} {F : List D -> R D} {nA : Nat} {x xc n : Str} {p pos pos' pc hpos tpos : Pos} {e : Expr} {es : List Expr} {u : Tn -> R (List D)} {c : Rc} {i j : Nat} {b₀ : Stmt} {suite : List Stmt} {g : Str -> Option Int}
end
end L2
set_option maxRecDepth 100000
set_option maxHeartbeats 4000000
namespace L2
open PySem PySem.Spec PyProof.Rows
section
variable {X : Cx} {E : XK} {Γ Γl : List Cl} {pos : Pos}
end
end L2
set_option maxRecDepth 100000
set_option maxHeartbeats 4000000
namespace L2
open PySem PySem.Spec PyProof.Rows
section
variable {X : Cx} {st : Stmt} {rest : List Stmt} {t u : TS}
end
section
variable {X : Cx} {tg : Expr}
end
section
variable {X : Cx} {E : XK} {Γ Γ1 Γ2 Γ' Γl : List Cl} {pos : Pos} {e : Expr} {t : Tn -> R D} {c : Rc}
end
end L2
set_option maxRecDepth 100000
set_option maxHeartbeats 4000000
namespace L2
open PySem PySem.Spec PyProof.Rows
end L2
set_option maxRecDepth 100000
set_option maxHeartbeats 4000000
namespace L2
open PySem PySem.Spec PyProof.Rows
theorem op_pow10 {X : Cx} : OpR X (binaryOp .Pow) (rI (fun i j => i = 10 /\ j = 20) fun i j => .int (i ^ j.toNat)) := opI fun i j t u s Q E hc q => by
  obtain ⟨rfl, rfl⟩ := hc
  exact AutoIntOps.pow_4 (by decide) (by decide) (by decide) (by decide) (by decide +kernel) q
noncomputable def powD : D -> D -> R D
  | .int i, .int j => if i = 10 /\ j = 20 then .ok (.int (i ^ j.toNat)) else .bad
  | _, _ => .bad
theorem N_pow : NoErr powD := fun x y n h => by
  unfold powD at h
  split at h
  · split at h <;> cases h
  · cases h
theorem B_pow {K : PySem.W.Frag} : OpB K (rI (fun i j => i = 10 /\ j = 20) fun i j => .int (i ^ j.toNat)) powD := by
  rintro H x y dx dy Lx Ly Q rx ry ⟨d, hg, q⟩
  unfold powD at hg
  split at hg
  · split at hg
    · rename_i hz
      cases hg
      exact ⟨_, _, rx.1, ry.1, hz, q _ H [] (Same.refl H) ⟨rfl, rfl⟩ (by simp) (fun a ha => nomatch ha)⟩
    · cases hg
  · cases hg
noncomputable def leStr (a b : Str) : Bool := !decide (b.cps.toList < a.cps.toList)
noncomputable def rLeS : R2 := fun x y H Q => ∃ a b, x = .str a /\ y = .str b /\ Q (.bl (leStr a b)) H
theorem op_leS {X : Cx} : OpR X (compareOp .LtE) rLeS := by
  intro pins s σ H x y v u Q I rx ry h
  obtain ⟨a, b, rfl, rfl, q⟩ := h
  obtain ⟨t, rfl⟩ := rx
  obtain ⟨t', rfl⟩ := ry
  refine P.le_str ?_
  have e : (!(decide (b.cps.toList < a.cps.toList))) = leStr a b := rfl
  exact ⟨.bl (leStr a b), H, I, by show _ = Value.bool _; rw [<- e], q⟩
noncomputable def leSD : D -> D -> R D
  | .str a, .str b => .ok (.bl (leStr a b))
  | _, _ => .bad
theorem N_leS : NoErr leSD := fun x y n h => by
  unfold leSD at h
  split at h <;> cases h
theorem B_leS {K : PySem.W.Frag} : OpB K rLeS leSD := by
  rintro H x y dx dy Lx Ly Q rx ry ⟨d, hg, q⟩
  unfold leSD at hg
  split at hg
  · cases hg
    exact ⟨_, _, rx.1, ry.1, q _ H [] (Same.refl H) ⟨rfl, rfl⟩ (by simp) (fun a ha => nomatch ha)⟩
  · cases hg
end L2
set_option maxRecDepth 100000
set_option maxHeartbeats 4000000
namespace L2
open PySem PySem.Spec PyProof.Rows
noncomputable def rSortK (K : PySem.W.Frag) : List V -> Hp -> VK -> Prop := fun xs H Q => ∃ (a : Addr) (kvs : List (Key × V)) (ss : List Str), xs = [.ref a] /\ H a = some (.dK kvs) /\ kvs.map (·.1) = ss.map Key.inr /\ ss.length < 64 /\ ∀ ss' : List Str, ss'.Perm ss -> sortedS ss' = true -> ∀ l, H l = none -> Q (.ref l) (upd H l (.lst (ss'.map V.str)))
theorem kv_keys : ∀ {kvs : List (Key × V)} {vs : List (Key × Value)}, KV kvs vs -> vs.map (·.1) = kvs.map (·.1)
  | _, _, .nil => rfl
  | _, _, .cons h1 r => by rw [List.map_cons, List.map_cons, kv_keys r, h1.1]
theorem strs_of_items {P : Program} {w : World} {vs : List (Key × Value)} {ss : List Str} (hk : vs.map (·.1) = ss.map Key.inr) {acc : Array Value} (hacc : ItemsOf (fun i v => ∃ k x, vs[i]? = some (k, x) /\ (mixKind P w).is k v = true) acc vs.length) : StrsAre acc.toList ss := by
  obtain ⟨hsz, hit⟩ := hacc
  have hlen : vs.length = ss.length := by have := congrArg List.length hk; simpa using this
  have key : ∀ (n : Nat), n <= ss.length -> StrsAre (acc.toList.drop (ss.length - n)) (ss.drop (ss.length - n)) := by
    intro n
    induction n with
    | zero =>
      intro _
      rw [Nat.sub_zero, List.drop_length, List.drop_of_length_le (by rw [Array.length_toList, hsz, hlen]; exact Nat.le_refl _)]
      exact .nil
    | succ n ih =>
      intro hn
      have ih := ih (by omega)
      have h1 : ss.length - (n + 1) < ss.length := by omega
      have h0 : acc.toList.length = ss.length := Array.length_toList.trans (hsz.trans hlen)
      have h2 : ss.length - (n + 1) < acc.toList.length := by omega
      have e0 : ss.length - (n + 1) + 1 = ss.length - n := by omega
      rw [List.drop_eq_getElem_cons h1, List.drop_eq_getElem_cons h2, e0]
      have hv : acc[ss.length - (n + 1)]? = some (acc.toList[ss.length - (n + 1)]) := by
        rw [<- Array.getElem?_toList]
        exact List.getElem?_eq_getElem h2
      obtain ⟨k, x, e1, e2⟩ := hit _ _ hv
      have e3 : (vs.map (·.1))[ss.length - (n + 1)]? = some k := by rw [List.getElem?_map, e1]; rfl
      rw [hk, List.getElem?_map, List.getElem?_eq_getElem h1] at e3
      have e4 : Key.inr ss[ss.length - (n + 1)] = k := Option.some.inj e3
      rw [<- e4] at e2
      have e2 : keyIs (Key.inr ss[ss.length - (n + 1)]) acc.toList[ss.length - (n + 1)] = true := e2
      rcases keyIs_shape e2 with ⟨i, t, q1, q2⟩ | ⟨y, t, q1, q2⟩ | ⟨q1, q2⟩
      · cases q1
      · cases q1
        rw [q2]
        exact .cons _ t ih
      · cases q1
  have := key ss.length (Nat.le_refl _)
  rw [Nat.sub_self, List.drop_zero, List.drop_zero] at this
  exact this
section
variable {X : Cx}
theorem vals_strsA : ∀ {us : List Value} {ss : List Str}, StrsAre us ss -> Vals (ss.map V.str) us
  | _, _, .nil => .nil
  | _, _, .cons x t h => .cons ⟨t, rfl⟩ (vals_strsA h)
theorem call_sortK (hc : X.calm = true) : CallR X (.builtin "sorted") (rSortK X.K) := by
  intro pins s σ H xs us Q I r h
  obtain ⟨a, kvs, ss, rfl, ha, hks, h64, q⟩ := h
  obtain ⟨u, rfl, ru⟩ := vals1 r
  obtain rfl : u = Value.ref a := ru
  obtain ⟨hz, hlo, vs, kv, dd⟩ := dk_of I.hok ha
  obtain ⟨ep, dd⟩ := dd.dictAt
  have hkv : vs.map (·.1) = ss.map Key.inr := by
    rw [<- hks]
    exact kv_keys kv
  have hlen : vs.length = ss.length := by have := congrArg List.length hkv; simpa using this
  refine Calls.call_function_entry kind_sorted plain_sorted entry_sorted (args_sorted1 _) ?_
  unfold Builtin.«sorted»
  refine wpAny_bind (m := checkCount "sorted" 1 1 _) (wpAny_pure ?_)
  refine wpAny_bind (PySem.W.kdu_collect (PySem.W.kdl_dict hlo) (I.ok.hd hc) dd (by rw [hlen, sizeLine_eq]; omega) fun h' tk acc hk hacc => ?_)
  have hS := strs_of_items hkv hacc
  have I1 : Inv X pins σ H { s with heap := h', toks := tk } := I.kept hk
  refine wpAny_bind (wpAny_newList ?_)
  have hoL : (h'.push (seqObj "list" acc.toList.toArray 0)).get? h'.objs.size = some (seqObj "list" acc.toList.toArray 0) := Heap.get?_push_size _ rfl
  have hl64 : acc.toList.length < 64 := by
    have := congrArg List.length hS.strs
    rw [List.length_map] at this
    omega
  refine wpAny_bind (wpAny_holding (wpAny_call_entry slot_list_sort ⟨_, hoL, rfl⟩ entry_list_sort (list_sort_treeK strKind_oneLt hoL hS.keysOf (fun v₁ v₂ rest e => keyKind_strs (by rw [<- e]; exact hS)) hl64 fun st' hp hs => ⟨_, rfl, ?_⟩) (args_list_sort _)))
  obtain ⟨ss', h1, h2, h3⟩ := sorted_out_str hS hp hs
  have hl2 : ss'.length < 64 := by rw [h2.length_eq]; exact h64
  obtain ⟨e, he⟩ := sortedHeap_at (vs := acc.toList) (out := (arrOf st').map (·.2)) hoL
  refine wpAny_pure ⟨_, rfl, .ref h'.objs.size, _, I1.laid (t' := tk) (o := .lst (ss'.map V.str)) (fun b ob q => ?_) (Nat.le_refl _) ?_, rfl, q ss' h2 h3 _ (I1.hok.fresh (Nat.le_refl _))⟩
  · have hb : b < h'.objs.size := Heap.lt_size q
    rw [sortedHeap_old (Nat.ne_of_lt hb) (by rw [size_push']; exact Nat.lt_succ_of_lt hb)]
    exact Heap.get?_push_of_some _ q
  · refine ⟨by rw [List.length_map]; show _ <= sizeLine; rw [sizeLine_eq]; omega, ((arrOf st').map (·.2)).toList, e, vals_strsA h1, ?_⟩
    rw [Array.toArray_toList]
    exact he
end
theorem leStr_iff (a b : Str) : leStr a b = true ↔ a.cps.toList <= b.cps.toList := by
  unfold leStr
  rw [Bool.not_eq_true', decide_eq_false_iff_not]
  exact Iff.rfl
theorem leStr_trans (a b c : Str) (h1 : leStr a b = true) (h2 : leStr b c = true) : leStr a c = true := (leStr_iff a c).mpr (List.le_trans ((leStr_iff a b).mp h1) ((leStr_iff b c).mp h2))
theorem leStr_total (a b : Str) : (leStr a b || leStr b a) = true := by
  rw [Bool.or_eq_true]
  rcases List.le_total a.cps.toList b.cps.toList with h | h
  · exact .inl ((leStr_iff a b).mpr h)
  · exact .inr ((leStr_iff b a).mpr h)
theorem leStr_anti (a b : Str) (h1 : leStr a b = true) (h2 : leStr b a = true) : a = b := by
  have e := List.le_antisymm ((leStr_iff a b).mp h1) ((leStr_iff b a).mp h2)
  obtain ⟨x⟩ := a
  obtain ⟨y⟩ := b
  have e : x = y := Array.toList_inj.mp e
  rw [e]
theorem rising_pw : ∀ (l : List Str) (p : Str), risingS p l = true -> (p :: l).Pairwise (fun a b => leStr a b = true)
  | [], p, _ => List.pairwise_singleton _ _
  | x :: r, p, h => by
    have h : (!ltCps x.cps.toList p.cps.toList && risingS x r) = true := h
    rw [Bool.and_eq_true] at h
    have ih := rising_pw r x h.2
    have h0 : leStr p x = true := by
      have := h.1
      rw [ltCps_eq] at this
      exact this
    refine List.pairwise_cons.mpr ⟨fun y hy => ?_, ih⟩
    rcases List.mem_cons.mp hy with e | e
    · rw [e]; exact h0
    · exact leStr_trans _ _ _ h0 ((List.pairwise_cons.mp ih).1 y e)
theorem sorted_pw : ∀ (l : List Str), sortedS l = true -> l.Pairwise (fun a b => leStr a b = true)
  | [], _ => .nil
  | x :: r, h => rising_pw r x h
noncomputable def sortS (ss : List Str) : List Str := ss.mergeSort leStr
theorem sortS_pw (ss : List Str) : (sortS ss).Pairwise (fun a b => leStr a b = true) := List.pairwise_mergeSort leStr_trans leStr_total ss
theorem sortS_perm (ss : List Str) : (sortS ss).Perm ss := List.mergeSort_perm ss leStr
theorem sortS_uniq {ss ss' : List Str} (hp : ss'.Perm ss) (hs : sortedS ss' = true) : ss' = sortS ss :=
  List.Perm.eq_of_pairwise (fun a b _ _ => leStr_anti a b) (sorted_pw ss' hs) (sortS_pw ss) (hp.trans (sortS_perm ss).symm)
noncomputable def inrs : List Key -> Option (List Str)
  | [] => some []
  | .inr z :: ks => (inrs ks).map (z :: ·)
  | _ => none
theorem inrs_eq : ∀ {ks : List Key} {ss : List Str}, inrs ks = some ss -> ks = ss.map Key.inr
  | [], ss, h => by cases h; rfl
  | .inr z :: ks, ss, h => by
    unfold inrs at h
    cases hq : inrs ks with
    | none => rw [hq] at h; cases h
    | some s2 =>
      rw [hq] at h
      cases h
      rw [List.map_cons, <- inrs_eq hq]
  | .inl _ :: _, _, h => by cases h
  | .non :: _, _, h => by cases h
noncomputable def sortKD : List D -> R D
  | [.dic ks ds] => (match inrs ks with
    | some ss => if ss.length < 64 then .ok (.lst ((sortS ss).map D.str)) else .bad
    | none => .bad)
  | _ => .bad
theorem N_sortK : NoErrL sortKD := fun ds n h => by
  unfold sortKD at h
  split at h
  · split at h
    · split at h <;> cases h
    · cases h
  · cases h
theorem reps_strsB {K : PySem.W.Frag} {H : Hp} : ∀ ss : List Str, Reps K H (ss.map D.str) (ss.map V.str) []
  | [] => Reps.nil
  | z :: ss => ⟨_, _, [], [], rfl, rfl, ⟨rfl, rfl⟩, reps_strsB ss⟩
theorem B_sortK {K : PySem.W.Frag} : ClB K (rSortK K) sortKD := by
  rintro H xs ds L Q r ⟨d, hg, q⟩
  unfold sortKD at hg
  split at hg
  · split at hg
    · split at hg
      · rename_i ks ds ss hn hz
        cases hg
        obtain ⟨v, rfl, ad, kvs, L', rfl, had, e2, hks, _, rs⟩ := reps1 r
        refine ⟨ad, kvs, ss, rfl, had, by rw [hks]; exact inrs_eq hn, hz, fun ss' hp hs l hl => ?_⟩
        rw [sortS_uniq hp hs]
        exact new_lst (reps_strsB _) hl q
      · cases hg
    · cases hg
  · cases hg
end L2
set_option maxRecDepth 100000
set_option maxHeartbeats 4000000
namespace L2
open PySem PySem.Spec PyProof.Rows
section
variable {prog : Program} {w : World} {A : Around} {E : Value -> Shared -> Prop} {s : Shared}
theorem sliceApplied_rev {sl : Addr} {t : Tok} {n : Nat} {Q : Int × Int × Nat -> Shared -> Prop} (hs : s.heap.IsSliceOf sl .none .none (.int (-1) t)) (h : Q ((n : Int) - 1, -1, n) s) : wpAny (model prog w) A (Builtin.Slice.sliceApplied (.ref sl) (pure (n : Int))) Q E s := by
  obtain ⟨os, hos, hcs, hds⟩ := id hs
  unfold Builtin.Slice.sliceApplied Builtin.Slice.sliceFields
  refine wpAny_bind (wpAny_bind (wpAny_field hos hds (x := .none) rfl (wpAny_bind (wpAny_field hos hds (x := .none) rfl (wpAny_bind (wpAny_field hos hds (x := .int (-1) t) rfl (wpAny_pure ?_)))))))
  refine wpAny_bind (HT.slicePart_ (.int (-1) t) ?_)
  show wpAny _ _ (if ((-1 : Int) == 0) = true then _ else _) _ _ s
  rw [if_neg (by decide)]
  refine wpAny_bind (HT.slicePart_ .none (wpAny_bind (HT.slicePart_ .none (wpAny_bind (wpAny_pure ?_)))))
  show wpAny _ _ (pure (((n : Int) - 1, (-1 : Int), Builtin.Slice.slicePlaces ((n : Int) - 1) (-1) (-1)))) _ _ s
  have e : Builtin.Slice.slicePlaces ((n : Int) - 1) (-1) (-1) = n := by
    unfold Builtin.Slice.slicePlaces
    rw [if_neg (by decide)]
    by_cases h0 : (n : Int) - 1 > -1
    · rw [if_pos h0]
      show (((n : Int) - 1 - -1 - 1) / 1 + 1).toNat = n
      rw [Int.ediv_one]
      lia
    · rw [if_neg h0]
      show (0 : Int).toNat = n
      lia
  rw [e]
  exact wpAny_pure h
theorem fmap_some {α β : Type} {f : α -> Option β} {g : α -> β} : ∀ l : List α, (∀ m ∈ l, f m = some (g m)) -> l.filterMap f = l.map g
  | [], _ => rfl
  | x :: l, h => by rw [List.filterMap_cons, h x List.mem_cons_self, List.map_cons, fmap_some l fun m hm => h m (List.mem_cons_of_mem _ hm)]
theorem pick_rev (xs : List Value) : ((List.range xs.length).filterMap fun (m : Nat) => xs.toArray[((xs.length : Int) - 1 + (m : Int) * -1).toNat]?).toArray = xs.reverse.toArray := by
  congr 1
  have h : ∀ m ∈ List.range xs.length, xs.toArray[((xs.length : Int) - 1 + (m : Int) * -1).toNat]? = some (xs.reverse.getD m .none) := by
    intro m hm
    have hm := List.mem_range.mp hm
    have e : ((xs.length : Int) - 1 + (m : Int) * -1).toNat = xs.length - 1 - m := by omega
    rw [e, List.getElem?_toArray, List.getD_eq_getElem?_getD, List.getElem?_reverse hm]
    rw [List.getElem?_eq_getElem (by omega)]
    rfl
  rw [fmap_some _ h]
  apply List.ext_getElem?
  intro i
  rw [List.getElem?_map]
  by_cases hi : i < xs.length
  · rw [List.getElem?_range hi]
    show some (xs.reverse.getD i .none) = _
    rw [List.getD_eq_getElem?_getD, List.getElem?_eq_getElem (by rw [List.length_reverse]; exact hi)]
    rfl
  · rw [List.getElem?_eq_none_iff.mpr (by rw [List.length_range]; omega), List.getElem?_eq_none_iff.mpr (by rw [List.length_reverse]; omega)]
    rfl
theorem getItem_tuple_rev {t sl : Addr} {items : List Value} {tj : Tok} {Q : Value -> Shared -> Prop} (ht : IsTup s.heap t items.toArray) (hs : s.heap.IsSliceOf sl .none .none (.int (-1) tj)) (hsz : items.length <= sizeLine)
    (h : Q (.ref s.heap.objs.size) { s with heap := s.heap.push { cls := .type "tuple", data := .seq items.reverse.toArray } }) : wpAny (model prog w) A (getItem (.ref t) (.ref sl)) Q E s := by
  have htake : sizeOk (.seq items.reverse.toArray) := by
    show items.reverse.toArray.size <= sizeLine
    rw [List.size_toArray, List.length_reverse]
    exact hsz
  obtain ⟨os, hos, hcs, hds⟩ := id hs
  have hTs : s.TypeIs (.ref sl) "slice" := ⟨os, hos, hcs⟩
  unfold getItem
  try with_reducible refine wpAny_holding ?_
  first | refine wpAny_bind (wpAny_pure ?_) | skip
  refine wpAny_bind (wpAny_sequenceKey ht.typeIs (by decide) ?_)
  refine wpAny_bind (wpAny_callSpecial?_slot (name := Str.ofString "__getitem__") ht.typeIs PyProof.Rows.slot_tuple_getitem (wpAny_call_entry PyProof.Rows.slot_tuple_getitem ht.typeIs entry_tuple_getitem ?_ (args_tuple_getitem _ _)))
  show wpAny _ _ (Builtin.Tuple.tupleItemsOf (.ref t) >>= _) _ _ s
  refine wpAny_bind (tupleItemsOf_ ht ?_)
  refine wpAny_bind (wpAny_typeOf hTs ?_)
  rw [if_pos (by decide)]
  refine wpAny_bind (sliceApplied_rev hs ?_)
  have hno : ¬ ((((items.toArray.size : Int) - 1 == 0) && (-1 : Int) == 1 && items.toArray.size == items.toArray.size) = true) := by
    intro q
    rw [Bool.and_eq_true, Bool.and_eq_true] at q
    exact absurd q.1.2 (by decide)
  show wpAny _ _ (if ((((items.toArray.size : Int) - 1 == 0) && (-1 : Int) == 1 && items.toArray.size == items.toArray.size) = true) then _ else _) _ _ s
  rw [if_neg hno, List.size_toArray, pick_rev]
  first
    | exact wpAny_bind (m := Builtin.Tuple.tupleExact _) (wpAny_newObj_type (wpAny_pure ⟨_, rfl, wpAny_pure h⟩) htake)
    | exact wpAny_bind (m := Builtin.Tuple.tupleExact _) (wpAny_newObj_type (wpAny_bind (wpAny_pure (wpAny_pure ⟨_, rfl, wpAny_pure h⟩))) htake)
    | exact wpAny_bind (wpAny_bind (m := Builtin.Tuple.tupleExact _) (wpAny_newObj_type (wpAny_pure (wpAny_pure ⟨_, rfl, wpAny_pure h⟩)) htake))
    | exact wpAny_bind (wpAny_bind (m := Builtin.Tuple.tupleExact _) (wpAny_newObj_type (wpAny_pure ⟨_, rfl, wpAny_pure h⟩) htake))
end
theorem vals_rev : ∀ {xs : List V} {us : List Value}, Vals xs us -> Vals xs.reverse us.reverse
  | _, _, .nil => .nil
  | _, _, .cons r1 r2 => by
    rw [List.reverse_cons, List.reverse_cons]
    exact Vals.append (vals_rev r2) (.cons r1 .nil)
theorem reps_rev {K : PySem.W.Frag} {H : Hp} : ∀ {ds : List D} {vs : List V}, Reps K H ds vs [] -> Reps K H ds.reverse vs.reverse []
  | [], vs, r => by
    obtain ⟨rfl, _⟩ := r
    exact Reps.nil
  | d :: ds, _, r => by
    obtain ⟨v, vs', L1, L2, rfl, e2, r1, r2⟩ := r
    have e3 : L1 = [] /\ L2 = [] := List.append_eq_nil_iff.mp e2.symm
    obtain ⟨rfl, rfl⟩ := e3
    rw [List.reverse_cons, List.reverse_cons]
    exact Reps.append (reps_rev r2) (⟨v, [], [], [], rfl, rfl, r1, Reps.nil⟩ : Reps K H [d] [v] [])
theorem pe_revT {X : Cx} {e g : Expr} {te : TE} {tg : TO} {p2 pos : Pos} (he : PE X e te) (hg : PO X (some g) tg) : PE X (.Subscript e (.Slice none none (some g) p2) pos)
    (fun σ H Q => te σ H fun x H1 => tg σ H1 fun o H2 => o = some (-1) /\ ∃ a xs, x = .ref a /\ SqT X.K H2 a xs /\ ∀ p, H2 p = none -> Q (.ref p) (upd H2 p (.tup xs.reverse))) := by
  intro pins s σ H Q I h
  refine Subscript_ (thn (he pins s σ H _ I h) fun v s1 ⟨x, H1, I1, r1, q1⟩ => ?_)
  refine wpAny_Slice (thn (po_none pins s1 σ H1 (fun o H2 => o = none /\ H2 = H1) I1 ⟨rfl, rfl⟩) fun vl s2 ⟨l, H2, I2, pl, e1, e2⟩ => thn (po_none pins s2 σ H2 (fun o H3 => o = none /\ H3 = H2) I2 ⟨rfl, rfl⟩) fun vu s3 ⟨u, H3, I3, pu, e3, e4⟩ => ?_)
  subst e1 e2 e3 e4
  refine thn (hg pins s3 σ H3 _ I3 q1) fun vs s4 ⟨o, H4, I4, ps, e5, a, xs, e6, hx, q⟩ => ?_
  subst e5 e6
  cases r1
  cases pl
  cases pu
  cases ps with
  | int _ tj =>
    have I5 : Inv X pins σ H4 { s4 with heap := s4.heap.push { cls := .type "slice", data := .fields #[.none, .none, .int (-1) tj] } } := I4.kept (t' := s4.toks) fun b ob q => Heap.get?_push_of_some _ q
    obtain ⟨its, r, ht, hz⟩ := I5.tuple hx
    have hq : wpAny (model X.prog X.w) X.A (getItem (.ref a) (.ref s4.heap.objs.size)) (EP X pins σ Q) X.xe { s4 with heap := s4.heap.push { cls := .type "slice", data := .fields #[.none, .none, .int (-1) tj] } } := by
      refine getItem_tuple_rev ht ⟨_, Heap.get?_push_size _ rfl, rfl, rfl⟩ (by rw [<- r.length]; exact hz) ?_
      refine ⟨.ref _, _, I5.laid (t' := s4.toks) (o := .tup xs.reverse) (fun b ob q => Heap.get?_push_of_some _ q) (Nat.le_refl _) ?_, rfl, q _ (I5.hok.fresh (Nat.le_refl _))⟩
      exact ⟨by rw [List.length_reverse]; exact hz, _, vals_rev r, TupN.new _ _⟩
    show wpAny (model X.prog X.w) X.A (subscriptTail e (.Slice none none (some g) p2) (.ref a) (.ref s4.heap.objs.size)) (EP X pins σ Q) X.xe _
    exact tail_any (ops := [.ref a, .ref s4.heap.objs.size]) ht.typeIs PyProof.Rows.slot_tuple_getitem.lookup hq (by with_unfolding_all rfl)
noncomputable def revTD : D -> R D
  | .tup ds => if D.imms ds = true then .ok (.tup ds.reverse) else .bad
  | _ => .bad
noncomputable def eRevT (t : Tn -> R D) : Tn -> R D := fun τ => (t τ).bind revTD
section
variable {X : Cx} {E : XK} {Γ : List Cl} {e : Expr} {t : Tn -> R D} {c : Rc} {p2 p3 p4 pos : Pos} {j : Nat}
theorem me_revT (he : ME X E Γ e t c) : ME X E Γ (.Subscript e (.Slice none none (some (.UnaryOp .USub (.Constant (.int 1) j p3) p4)) p2) pos) (eRevT t) .fresh := by
  obtain ⟨te, p, q⟩ := he
  refine ⟨_, pe_revT p (po_some pe_m1), fun O σ H τ Q ok h => ?_⟩
  unfold eRevT at h
  refine q O σ H τ _ ok (post.bind h fun d hd h x H1 L1 s1 r1 _ => ?_)
  cases d with
  | tup ds =>
    obtain ⟨a, vs, rfl, ha, rs⟩ := r1
    unfold revTD at h
    dsimp only at h
    split at h
    · rename_i hz
      have rs0 := imms_nil rs hz
      refine ⟨-1, rfl, rfl, a, vs, rfl, ha, fun p hp => ?_⟩
      have sn : Same H1 (upd H1 p (.tup vs.reverse)) := Same.new hp
      exact h _ _ [] (s1.trans sn) ⟨p, _, rfl, SqT.of upd_same, (reps_rev rs0).same sn⟩ ⟨by simp, fun a ha => nomatch ha⟩
    · exact h.elim
  | _ => exact h.elim
end
noncomputable def rCatA (K : PySem.W.Frag) : R2 := fun x y H Q => ∃ a b xs ys, x = .ref a /\ y = .ref b /\ SqT K H a xs /\ SqT K H b ys /\ xs.length + ys.length <= sizeLine /\
  (xs = [] -> Q (.ref b) H) /\ (xs ≠ [] -> ys = [] -> Q (.ref a) H) /\ (xs ≠ [] -> ys ≠ [] -> ∀ p, H p = none -> Q (.ref p) (upd H p (.tup (xs ++ ys))))
theorem cat_tupA {prog : Program} {w : World} {A : Around} {E : Value -> Shared -> Prop} {s : Shared} {t b : Addr} {vs ws : List Value} {Q : Value -> Shared -> Prop} (ht : IsTup s.heap t vs.toArray) (hb : IsTup s.heap b ws.toArray) (h0 : vs = [] -> Q (.ref b) s)
    (h1 : vs ≠ [] -> ws = [] -> Q (.ref t) s) (h2 : vs ≠ [] -> ws ≠ [] -> Q (.ref s.heap.objs.size) { s with heap := s.heap.push { cls := .type "tuple", data := .seq (vs ++ ws).toArray } })
    (hsz : vs.length + ws.length <= sizeLine) : wpAny (model prog w) A (binaryOp .Add (.ref t) (.ref b)) Q E s := by
  by_cases hv : vs = []
  · obtain ⟨⟨cls, dd, data, sl⟩, ho, hc, n, hd⟩ := id ht
    obtain ⟨⟨cls2, dd2, data2, sl2⟩, ho2, hc2, n2, hd2⟩ := id hb
    simp only at hc hd hc2 hd2
    subst hc hd hc2 hd2
    exact concat_meets ⟨_, ho, rfl⟩ ⟨_, ho2, rfl⟩ noFill_tuple_add seq_tuple_add PySem.F.slot_tuple_add PySem.F.entry_tuple_add (PySem.F.args_tuple_add_2 _ _)
      (tuple_addW0 t b vs.toArray ws.toArray n n2 dd dd2 sl sl2 (by simp [hv])) ⟨ho, ho2, h0 hv⟩
  · exact HT.cat_tup ht hb hv (h1 hv) (h2 hv) hsz
theorem op_catA {X : Cx} : OpR X (binaryOp .Add) (rCatA X.K) := by
  intro pins s σ H x y v u Q I rx ry h
  obtain ⟨a, b, xs, ys, rfl, rfl, ha, hb, hz, q0, q1, q2⟩ := h
  cases rx
  cases ry
  obtain ⟨its, r1, p1, _⟩ := I.tuple ha
  obtain ⟨its2, r2, p2, _⟩ := I.tuple hb
  refine cat_tupA p1 p2 (fun z => ⟨.ref b, H, I, rfl, q0 (r1.nil_iff.mp z)⟩) (fun z z2 => ⟨.ref a, H, I, rfl, q1 (fun w => z (r1.nil_iff.mpr w)) (r2.nil_iff.mp z2)⟩) (fun z z2 => ?_) (by rw [<- r1.length, <- r2.length]; exact hz)
  refine ⟨.ref s.heap.objs.size, _, I.laid (t' := s.toks) (o := .tup (xs ++ ys)) (fun b ob q => Heap.get?_push_of_some _ q) (Nat.le_refl _) ?_, rfl, q2 (fun w => z (r1.nil_iff.mpr w)) (fun w => z2 (r2.nil_iff.mpr w)) _ (I.hok.fresh (Nat.le_refl _))⟩
  exact ⟨by rw [List.length_append]; exact hz, _, r1.append r2, TupN.new _ _⟩
noncomputable def catTD : D -> D -> R D
  | .tup xs, .tup ys => if xs.length + ys.length <= sizeLine then .ok (.tup (xs ++ ys)) else .bad
  | _, _ => .bad
theorem mv_catT {X : Cx} {E : XK} {Γ Γ1 Γ2 : List Cl} {a b : Expr} {ta tb : Tn -> R D} {pos : Pos} (ha : MV X E Γ a ta Γ1) (hb : MV X E Γ1 b tb Γ2) : MV X E Γ (.BinOp a .Add b pos) (eBin catTD ta tb) Γ2 := by
  obtain ⟨te1, p1, q1⟩ := ha
  obtain ⟨te2, p2, q2⟩ := hb
  refine ⟨_, pe_op op_catA p1 p2, fun B σ H τ T Q ok h => q1 B σ H τ T _ ok ?_⟩
  unfold eBin at h
  cases h1 : ta τ with
  | err n => rw [h1] at h; exact h
  | bad => rw [h1] at h; exact h
  | ok d1 =>
    rw [h1, R.ok_bind] at h
    refine fun v H1 L s1 r1 ok1 => q2 B σ H1 τ (L ++ T) _ ok1 ?_
    cases h2 : tb τ with
    | err n => rw [h2] at h; exact h
    | bad => rw [h2] at h; exact h
    | ok d2 =>
      rw [h2, R.ok_bind] at h
      refine fun w H2 L2 s2 r2 ok2 => ?_
      have r1 := r1.same s2
      unfold catTD at h
      split at h
      · rename_i xs ys
        split at h
        · rename_i hz
          obtain ⟨l, vs, rfl, hl, rs⟩ := r1
          obtain ⟨b, ws, rfl, hb, qs⟩ := r2
          have pm : List.Perm (L2 ++ (L ++ T)) ((L ++ L2) ++ T) := by
            rw [List.perm_iff_count]
            intro a
            simp only [List.count_append]
            lia
          have ok3 : SOk X.K Γ2 B H2 σ τ ((L ++ L2) ++ T) := ok2.subT (pm.nodup_iff.mp ok2.nodT) fun a ha => pm.mem_iff.mpr ha
          have rr := Reps.append rs qs
          refine ⟨l, b, vs, ws, rfl, rfl, hl, hb, by rw [rs.length, qs.length]; exact hz, fun z => ?_, fun z z2 => ?_, fun z z2 p hp => ?_⟩
          · refine h (.ref b) H2 (L ++ L2) (s1.trans s2) ⟨b, ws, rfl, hb, ?_⟩ ok3
            rw [z, List.nil_append] at rr
            exact rr
          · refine h (.ref l) H2 (L ++ L2) (s1.trans s2) ⟨l, vs, rfl, hl, ?_⟩ ok3
            rw [z2, List.append_nil] at rr
            exact rr
          · have sn : Same H2 (upd H2 p (.tup (vs ++ ws))) := Same.new hp
            exact h (.ref p) _ (L ++ L2) ((s1.trans s2).trans sn) ⟨p, vs ++ ws, rfl, SqT.of upd_same, rr.same sn⟩ (ok3.same sn)
        · exact h.elim
      · exact h.elim
end L2
set_option maxRecDepth 100000
set_option maxHeartbeats 4000000
namespace K01
open PySem PySem.Spec PyProof.Rows L2
noncomputable def top (i : Nat) : Stmt := PySem.Challenge.pw_quirehand_k01_faces_and_widths.main.body.getD i (.Pass ⟨0, 0, 0, 0⟩)
section
variable {P : Program} {w : World} {K : PySem.W.Frag} {mg : Str -> Option Value} {base : Heap}
structure Gl0 (K : PySem.W.Frag) (mg : Str -> Option Value) : Prop where
  SIGNS : ∃ t, mg "SIGNS" = some (.str "abcdefghijklmnopqrstuvwxyzABCDEFGHIJKLMNOPQRSTUVWXYZ0123456789.,;:!?'\"()-/" t)
  LEAST_WIDTH : ∃ t, mg "LEAST_WIDTH" = some (.int 1 t)
  MOST_WIDTH : ∃ t, mg "MOST_WIDTH" = some (.int 20 t)
theorem it_of {C : Addr} {bm : List Value} {n : String} (h : PySem.W.excIn K C bm n = true) : (PySem.W.clsIn K C).isSome = true := by
  unfold PySem.W.excIn at h
  split at h
  · rename_i hl
    unfold PySem.W.clsIn
    rw [hl]
    rfl
  · cases h
structure Cls (K : PySem.W.Frag) (mg : Str -> Option Value) : Prop where
  e_BadFace : ∃ C, ErrC K "BadFace" C
  ve : mg "ValueError" = none
  so : mg "sorted" = none
  ex : ∃ CS CT c1 c2 c3 c4 c5 c6 c7 c8 c9 : Addr, mg "SetError" = some (.ref CS) /\ ErrC K "BadFace" CT /\ ErrI K CT /\ mg "BadFace" = some (.ref CT) /\ PySem.W.kitOne K (.ref CT) (.type "ValueError") = some true /\ PySem.W.exmOne K (.ref CT) (.ref CS) = some true /\ (mg "BadBlocks" = some (.ref c1) /\ PySem.W.kitOne K (.ref CT) (.ref c1) = some false) /\ (mg "BadBook" = some (.ref c2) /\ PySem.W.kitOne K (.ref CT) (.ref c2) = some false) /\ (mg "BadBreaks" = some (.ref c3) /\ PySem.W.kitOne K (.ref CT) (.ref c3) = some false) /\ (mg "BadRules" = some (.ref c4) /\ PySem.W.kitOne K (.ref CT) (.ref c4) = some false) /\ (mg "BadText" = some (.ref c5) /\ PySem.W.kitOne K (.ref CT) (.ref c5) = some false) /\ (mg "BadWord" = some (.ref c6) /\ PySem.W.kitOne K (.ref CT) (.ref c6) = some false) /\ (mg "NoNote" = some (.ref c7) /\ PySem.W.kitOne K (.ref CT) (.ref c7) = some false) /\ (mg "NoPlace" = some (.ref c8) /\ PySem.W.kitOne K (.ref CT) (.ref c8) = some false) /\ (mg "TooWide" = some (.ref c9) /\ PySem.W.kitOne K (.ref CT) (.ref c9) = some false)
noncomputable def t_is_whole : Tn -> R Fl := (sRet (eAnd (eUn (isiD "int") (eVar 0)) (eNot (eUn (isiD "bool") (eVar 0)))))
noncomputable def F_is_whole : List D -> R D := runB 1 t_is_whole
theorem sc_is_whole : FnScope ["thing"] ["thing"] (defScope (top 13)) := ⟨rfl, rfl, rfl, by decide +kernel, rfl, by decide +kernel, by decide +kernel⟩
theorem ok_is_whole (Df : DefIn K mg "is_whole" (top 13) ["thing"]) (B : Bl mg) (G : Gl0 K mg) (Cl : Cls K mg)  : Own P w K mg base "is_whole" 1 ["thing"] (spM K F_is_whole 1) :=
  Df.mir (k := 0) (Γ' := [.shr]) sc_is_whole (by decide) fun f cdv A outer s H E hr => (mss_one (ms_ret (mv_fresh (me_and (me_isi (T := "int") (by decide) rfl B.isinstance (pe_bltn (v := .ty "int") rfl B.int Boot.«int» rfl) (mn 0 .shr)) (me_one (me_not (me_isi (T := "bool") (by decide) rfl B.isinstance (pe_bltn (v := .ty "bool") rfl B.bool Boot.«bool» rfl) (mn 0 .shr))))))))
noncomputable def t_is_within : Tn -> R Fl := (sRet (eAnd (eL F_is_whole (aCons (eVar 0) aNil)) (eChain leD leD (eVar 1) (eVar 0) (eVar 2))))
noncomputable def F_is_within : List D -> R D := runB 3 t_is_within
theorem sc_is_within : FnScope ["thing", "least", "most"] ["thing", "least", "most"] (defScope (top 14)) := ⟨rfl, rfl, rfl, by decide +kernel, rfl, by decide +kernel, by decide +kernel⟩
theorem ok_is_within (Df : DefIn K mg "is_within" (top 14) ["thing", "least", "most"]) (B : Bl mg) (G : Gl0 K mg) (Cl : Cls K mg) (O_is_whole : Own P w K mg base "is_whole" 1 ["thing"] (spM K F_is_whole 1)) : Own P w K mg base "is_within" 2 ["thing", "least", "most"] (spM K F_is_within 3) :=
  Df.mir (k := 1) (Γ' := [.shr, .shr, .shr]) sc_is_within (by decide) fun f cdv A outer s H E hr => (mss_one (ms_ret (mv_fresh (me_and (me_call (O_is_whole.mono (by decide)) hr (by exact rfl) passes_cxx (ma_cons (mn 0 .shr) ma_nil)) (me_one (me_chain op_le B_le N_int op_le B_le N_int (mn 1 .shr) (mn 0 .shr) (mn 2 .shr)))))))
noncomputable def t_is_sign : Tn -> R Fl := (sRet (eAnd (eUn (isiD "str") (eVar 0)) (eAnd (eBin (eqR false) (eL lenD (aCons (eVar 0) aNil)) (eC (.int 1))) (eBin inSD (eVar 0) (eC (.str "abcdefghijklmnopqrstuvwxyzABCDEFGHIJKLMNOPQRSTUVWXYZ0123456789.,;:!?'\"()-/"))))))
noncomputable def F_is_sign : List D -> R D := runB 1 t_is_sign
theorem sc_is_sign : FnScope ["thing"] ["thing"] (defScope (top 19)) := ⟨rfl, rfl, rfl, by decide +kernel, rfl, by decide +kernel, by decide +kernel⟩
theorem ok_is_sign (Df : DefIn K mg "is_sign" (top 19) ["thing"]) (B : Bl mg) (G : Gl0 K mg) (Cl : Cls K mg)  : Own P w K mg base "is_sign" 1 ["thing"] (spM K F_is_sign 1) :=
  Df.mir (k := 0) (Γ' := [.shr]) sc_is_sign (by decide) fun f cdv A outer s H E hr => (mss_one (ms_ret (mv_fresh (me_and (me_isi (T := "str") (by decide) rfl B.isinstance (pe_bltn (v := .ty "str") rfl B.str Boot.«str» rfl) (mn 0 .shr)) (me_and (me_cmp (op_eqAll hr.u12) B_eq N_eq (me_callB call_lenA B_len N_len (by exact rfl) B.len PySem.boot_len (ma_cons (mn 0 .shr) ma_nil)) me_int (nomark _)) (me_one (me_cmp op_inS B_inS N_inS (mn 0 .shr) (me_globS G.SIGNS) (by exact rfl))))))))
noncomputable def t_is_width : Tn -> R Fl := (sRet (eL F_is_within (aCons (eVar 0) (aCons (eC (.int 1)) (aCons (eC (.int 20)) aNil)))))
noncomputable def F_is_width : List D -> R D := runB 1 t_is_width
theorem sc_is_width : FnScope ["thing"] ["thing"] (defScope (top 20)) := ⟨rfl, rfl, rfl, by decide +kernel, rfl, by decide +kernel, by decide +kernel⟩
theorem ok_is_width (Df : DefIn K mg "is_width" (top 20) ["thing"]) (B : Bl mg) (G : Gl0 K mg) (Cl : Cls K mg) (O_is_within : Own P w K mg base "is_within" 2 ["thing", "least", "most"] (spM K F_is_within 3)) : Own P w K mg base "is_width" 3 ["thing"] (spM K F_is_width 1) :=
  Df.mir (k := 2) (Γ' := [.shr]) sc_is_width (by decide) fun f cdv A outer s H E hr => (mss_one (ms_ret (mv_fresh (me_call (O_is_within.mono (by decide)) hr (by exact rfl) passes_cxx (ma_cons (mn 0 .shr) (ma_cons (me_globI G.LEAST_WIDTH) (ma_cons (me_globI G.MOST_WIDTH) ma_nil)))))))
noncomputable def t_is_odd_pair : Tn -> R Fl := (sSeq (sIf (bOr (bNot (eTest (eUn (isiD "tuple") (eVar 0)))) (eTest (eBin (eqR true) (eL lenD (aCons (eVar 0) aNil)) (eC (.int 2))))) (sRet (eC (.bl false))) sSkip) (sRet (eAnd (eL F_is_sign (aCons (eBin ixD (eVar 0) (eC (.int 0))) aNil)) (eL F_is_width (aCons (eBin ixD (eVar 0) (eC (.int 1))) aNil)))))
noncomputable def F_is_odd_pair : List D -> R D := runB 1 t_is_odd_pair
theorem sc_is_odd_pair : FnScope ["thing"] ["thing"] (defScope (top 21)) := ⟨rfl, rfl, rfl, by decide +kernel, rfl, by decide +kernel, by decide +kernel⟩
theorem ok_is_odd_pair (Df : DefIn K mg "is_odd_pair" (top 21) ["thing"]) (B : Bl mg) (G : Gl0 K mg) (Cl : Cls K mg) (O_is_sign : Own P w K mg base "is_sign" 1 ["thing"] (spM K F_is_sign 1)) (O_is_width : Own P w K mg base "is_width" 3 ["thing"] (spM K F_is_width 1)) : Own P w K mg base "is_odd_pair" 4 ["thing"] (spM K F_is_odd_pair 1) :=
  Df.mir (k := 3) (Γ' := [.shr]) sc_is_odd_pair (by decide) fun f cdv A outer s H E hr => (mss_cons (ms_if (MW.mt (mw_or (mt_not (mt_val (me_isi (T := "tuple") (by decide) rfl B.isinstance (pe_bltn (v := .ty "tuple") rfl B.tuple Boot.«tuple» rfl) (mn 0 .shr)))) (mw_or1 (mt_cmp (op_neAll hr.u12) B_eq N_eq (me_callB call_lenA B_len N_len (by exact rfl) B.len PySem.boot_len (ma_cons (mn 0 .shr) ma_nil)) me_int (nomark _))))) (mss_one (ms_ret (mv_fresh me_bl))) mss_nil) (mss_one (ms_ret (mv_fresh (me_and (me_call (O_is_sign.mono (by decide)) hr (by exact rfl) passes_cxx (ma_cons (me_ix hr.u1 (mn 0 .shr) me_int) ma_nil)) (me_one (me_call (O_is_width.mono (by decide)) hr (by exact rfl) passes_cxx (ma_cons (me_ix hr.u1 (mn 0 .shr) me_int) ma_nil))))))))
noncomputable def t_is_odd : Tn -> R Fl := (sSeq (sIf (bNot (eTest (eUn (isiD "tuple") (eVar 0)))) (sRet (eC (.bl false))) sSkip) (sSeq (sSet 1 (eC (.str ""))) (sSeq (sFor (iSeq (eVar 0)) (.one 2) (sSeq (sIf (bOr (bNot (eTest (eL F_is_odd_pair (aCons (eVar 2) aNil)))) (eTest (eBin leSD (eBin ixD (eVar 2) (eC (.int 0))) (eVar 1)))) (sRet (eC (.bl false))) sSkip) (sSet 1 (eBin ixD (eVar 2) (eC (.int 0)))))) (sRet (eC (.bl true))))))
noncomputable def F_is_odd : List D -> R D := runB 3 t_is_odd
theorem sc_is_odd : FnScope ["thing", "ahead", "pair"] ["thing"] (defScope (top 22)) := ⟨rfl, rfl, rfl, by decide +kernel, rfl, by decide +kernel, by decide +kernel⟩
theorem ok_is_odd (Df : DefIn K mg "is_odd" (top 22) ["thing"]) (B : Bl mg) (G : Gl0 K mg) (Cl : Cls K mg) (O_is_odd_pair : Own P w K mg base "is_odd_pair" 4 ["thing"] (spM K F_is_odd_pair 1)) : Own P w K mg base "is_odd" 5 ["thing"] (spM K F_is_odd 1) :=
  Df.mir (k := 4) (Γ' := [.shr, .dead, .dead]) sc_is_odd (by decide) fun f cdv A outer s H E hr => (mss_cons (ms_if (mt_not (mt_val (me_isi (T := "tuple") (by decide) rfl B.isinstance (pe_bltn (v := .ty "tuple") rfl B.tuple Boot.«tuple» rfl) (mn 0 .shr)))) (mss_one (ms_ret (mv_fresh me_bl))) mss_nil) (mss_cons (L2.st 1 sc_is_odd.nd (mv_fresh me_str)) (mss_cons (ms_pre (Γ1 := [.shr, .shr, .dead]) (ms_for (Γ2 := [.shr, .shr, .shr]) PassesOwn.leaving rfl (mi_seq (mn 0 .shr)) (by decide) (mg_one (pgn 2 sc_is_odd.nd)) (by decide) (mss_cons (ms_if (MW.mt (mw_or (mt_not (mt_val (me_call (O_is_odd_pair.mono (by decide)) hr (by exact rfl) passes_cxx (ma_cons (mn 2 .shr) ma_nil)))) (mw_or1 (mt_cmp op_leS B_leS N_leS (me_ix hr.u1 (mn 2 .shr) me_int) (mn 1 .shr) (nomark _))))) (mss_one (ms_ret (mv_fresh me_bl))) mss_nil) (mss_one (stS 1 sc_is_odd.nd (me_ix hr.u1 (mn 2 .shr) me_int)))) rfl) rfl) (mss_one (ms_ret (mv_fresh me_bl))))))
noncomputable def t_is_face : Tn -> R Fl := (sSeq (sIf (bOr (bNot (eTest (eUn (isiD "tuple") (eVar 0)))) (eTest (eBin (eqR true) (eL lenD (aCons (eVar 0) aNil)) (eC (.int 3))))) (sRet (eC (.bl false))) sSkip) (sRet (eAnd (eL F_is_width (aCons (eBin ixD (eVar 0) (eC (.int 0))) aNil)) (eAnd (eL F_is_width (aCons (eBin ixD (eVar 0) (eC (.int 1))) aNil)) (eL F_is_odd (aCons (eBin ixD (eVar 0) (eC (.int 2))) aNil))))))
noncomputable def F_is_face : List D -> R D := runB 1 t_is_face
theorem sc_is_face : FnScope ["thing"] ["thing"] (defScope (top 23)) := ⟨rfl, rfl, rfl, by decide +kernel, rfl, by decide +kernel, by decide +kernel⟩
theorem ok_is_face (Df : DefIn K mg "is_face" (top 23) ["thing"]) (B : Bl mg) (G : Gl0 K mg) (Cl : Cls K mg) (O_is_width : Own P w K mg base "is_width" 3 ["thing"] (spM K F_is_width 1)) (O_is_odd : Own P w K mg base "is_odd" 5 ["thing"] (spM K F_is_odd 1)) : Own P w K mg base "is_face" 6 ["thing"] (spM K F_is_face 1) :=
  Df.mir (k := 5) (Γ' := [.shr]) sc_is_face (by decide) fun f cdv A outer s H E hr => (mss_cons (ms_if (MW.mt (mw_or (mt_not (mt_val (me_isi (T := "tuple") (by decide) rfl B.isinstance (pe_bltn (v := .ty "tuple") rfl B.tuple Boot.«tuple» rfl) (mn 0 .shr)))) (mw_or1 (mt_cmp (op_neAll hr.u12) B_eq N_eq (me_callB call_lenA B_len N_len (by exact rfl) B.len PySem.boot_len (ma_cons (mn 0 .shr) ma_nil)) me_int (nomark _))))) (mss_one (ms_ret (mv_fresh me_bl))) mss_nil) (mss_one (ms_ret (mv_fresh (me_and (me_call (O_is_width.mono (by decide)) hr (by exact rfl) passes_cxx (ma_cons (me_ix hr.u1 (mn 0 .shr) me_int) ma_nil)) (me_and (me_call (O_is_width.mono (by decide)) hr (by exact rfl) passes_cxx (ma_cons (me_ix hr.u1 (mn 0 .shr) me_int) ma_nil)) (me_one (me_call (O_is_odd.mono (by decide)) hr (by exact rfl) passes_cxx (ma_cons (me_ix hr.u1 (mn 0 .shr) me_int) ma_nil)))))))))
noncomputable def t_need_face : Tn -> R Fl := (sSeq (sIf (bNot (eTest (eL F_is_face (aCons (eVar 0) aNil)))) (sErr "BadFace" (aCons (eC (.str "a face is a tuple of plain, blank and odd")) aNil)) sSkip) (sRet (eC (.bl true))))
noncomputable def F_need_face : List D -> R D := runB 1 t_need_face
theorem sc_need_face : FnScope ["face"] ["face"] (defScope (top 24)) := ⟨rfl, rfl, rfl, by decide +kernel, rfl, by decide +kernel, by decide +kernel⟩
theorem ok_need_face (Df : DefIn K mg "need_face" (top 24) ["face"]) (B : Bl mg) (G : Gl0 K mg) (Cl : Cls K mg) (O_is_face : Own P w K mg base "is_face" 6 ["thing"] (spM K F_is_face 1)) : Own P w K mg base "need_face" 7 ["face"] (spM K F_need_face 1) :=
  Df.mir (k := 6) (Γ' := [.shr]) sc_need_face (by decide) fun f cdv A outer s H E hr => (mss_cons (ms_if (mt_not (mt_val (me_call (O_is_face.mono (by decide)) hr (by exact rfl) passes_cxx (ma_cons (mn 0 .shr) ma_nil)))) (mss_one (ms_raiseE Cl.e_BadFace rfl (ma_cons me_str ma_nil))) mss_nil) (mss_one (ms_ret (mv_fresh me_bl))))
noncomputable def t_wide : Tn -> R Fl := (sSeq (sSet 2 (eL dictAD (aCons (eBin ixD (eVar 0) (eC (.int 2))) aNil))) (sSeq (sKPut 2 (eImm (eBin ixD (eVar 0) (eC (.int 1)))) (eC (.str " "))) (sRet (eL sumD (aCons (eComp [none, some 2, some 0] (iSeq (eVar 1)) (.one 0) (fun _ => .ok true) (eGet (eVar 1) (eVar 0) (eBin ixD (eVar 2) (eC (.int 0))))) aNil)))))
noncomputable def F_wide : List D -> R D := runB 3 t_wide
theorem sc_wide : FnScope ["face", "line", "widths"] ["face", "line"] (defScope (top 25)) := ⟨rfl, rfl, rfl, by decide +kernel, rfl, by decide +kernel, by decide +kernel⟩
theorem ok_wide (Df : DefIn K mg "wide" (top 25) ["face", "line"]) (B : Bl mg) (G : Gl0 K mg) (Cl : Cls K mg)  : Own P w K mg base "wide" 1 ["face", "line"] (spM K F_wide 2) :=
  Df.mir (k := 0) (Γ' := [.shr, .shr, .dead]) sc_wide (by decide) fun f cdv A outer s H E hr => (mss_cons (L2.st 2 sc_wide.nd (mv_fresh (me_callTy (call_dictA (by exact rfl)) B_dictA N_dictA (by exact rfl) B.dict Boot.«dict» (ma_cons (me_ix hr.u1 (mn 0 .shr) me_int) ma_nil)))) (mss_cons (kput 2 hr.u1 (mv_fresh (me_imm (me_ix hr.u1 (mn 0 .shr) me_int))) me_str) (mss_one (ms_ret (mv_fresh (me_callB (call_sumL rfl) B_sum N_sum (by exact rfl) B.sum PyProof.Rows.boot_sum (ma_cons (me_comp (N' := ["sign", "widths", "face"]) (fr := [none, some 2, some 0]) rfl (cs_def sc_wide.nofree (by decide +kernel)) (mi_seq (mn 1 .shr)) (fun _ _ _ _ => (mg_one (pgn 0 (show List.Nodup (["sign", "widths", "face"] : List Str) from by decide +kernel)))) (fun _ _ _ _ => mts_nil) (fun _ _ _ _ => (me_get hr.u1 (mn 1 .brw) (mn 0 .shr) (me_ix hr.u1 (mn 2 .shr) me_int))) (by decide) (by decide)) ma_nil)))))))
noncomputable def t__law_cell_at : Tn -> R Fl := (sSeq (sIf (eTest (eBin ltD (eVar 1) (eL lenD (aCons (eVar 0) aNil)))) (sRet (eImm (eBin ixD (eVar 0) (eVar 1)))) sSkip) (sRet (eC (.int 0))))
noncomputable def F__law_cell_at : List D -> R D := runB 2 t__law_cell_at
theorem sc__law_cell_at : FnScope ["_law_script", "_law_k"] ["_law_script", "_law_k"] (defScope (top 27)) := ⟨rfl, rfl, rfl, by decide +kernel, rfl, by decide +kernel, by decide +kernel⟩
theorem ok__law_cell_at (Df : DefIn K mg "_law_cell_at" (top 27) ["_law_script", "_law_k"]) (B : Bl mg) (G : Gl0 K mg) (Cl : Cls K mg)  : Own P w K mg base "_law_cell_at" 1 ["_law_script", "_law_k"] (spM K F__law_cell_at 2) :=
  Df.mir (k := 0) (Γ' := [.shr, .shr]) sc__law_cell_at (by decide) fun f cdv A outer s H E hr => (mss_cons (ms_if (mt_cmp op_lt B_lt N_int (mn 1 .shr) (me_callB call_lenA B_len N_len (by exact rfl) B.len PySem.boot_len (ma_cons (mn 0 .shr) ma_nil)) (nomark _)) (mss_one (ms_ret (mv_fresh (me_imm (me_ix hr.u1 (mn 0 .shr) (mn 1 .shr)))))) mss_nil) (mss_one (ms_ret (mv_fresh me_int))))
noncomputable def t__law_signs : Tn -> R Fl := (sSeq (sSet 0 (eC (.str "!\"'(),-./0123456789:;?ABCDEFGHIJKLMNOPQRSTUVWXYZ"))) (sRet (eBin addD (eVar 0) (eC (.str "abcdefghijklmnopqrstuvwxyz")))))
noncomputable def F__law_signs : List D -> R D := runB 1 t__law_signs
theorem sc__law_signs : FnScope ["_law_some"] [] (defScope (top 28)) := ⟨rfl, rfl, rfl, by decide +kernel, rfl, by decide +kernel, by decide +kernel⟩
theorem ok__law_signs (Df : DefIn K mg "_law_signs" (top 28) []) (B : Bl mg) (G : Gl0 K mg) (Cl : Cls K mg)  : Own P w K mg base "_law_signs" 1 [] (spM K F__law_signs 0) :=
  Df.mir (k := 0) (Γ' := [.dead]) sc__law_signs (by decide) fun f cdv A outer s H E hr => (mss_cons (L2.st 0 sc__law_signs.nd (mv_fresh me_str)) (mss_one (ms_ret (mv_fresh (me_op op_addA B_add N_add (mn 0 .own) me_str)))))
noncomputable def t__law_others : Tn -> R Fl := (sRet (eC (.str " #$&*+<=>\x40[\\]^_`{|}~")))
noncomputable def F__law_others : List D -> R D := runB 0 t__law_others
theorem sc__law_others : FnScope [] [] (defScope (top 29)) := ⟨rfl, rfl, rfl, by decide +kernel, rfl, by decide +kernel, by decide +kernel⟩
theorem ok__law_others (Df : DefIn K mg "_law_others" (top 29) []) (B : Bl mg) (G : Gl0 K mg) (Cl : Cls K mg)  : Own P w K mg base "_law_others" 1 [] (spM K F__law_others 0) :=
  Df.mir (k := 0) (Γ' := []) sc__law_others (by decide) fun f cdv A outer s H E hr => (mss_one (ms_ret (mv_fresh me_str)))
noncomputable def t__law_odd : Tn -> R Fl := (sSeq (sSet 1 (fun _ => F__law_signs [])) (sSeq (sSet 2 (eC (.dic [] []))) (sSeq (sFor (iL rng1 (aCons (eBin modD (eL F__law_cell_at (aCons (eVar 0) (aCons (eC (.int 2)) aNil))) (eC (.int 10))) aNil)) (.one 3) (sSeq (sSet 4 (eBin modD (eBin mulD (eBin addD (eBin addD (eL F__law_cell_at (aCons (eVar 0) (aCons (eBin addD (eC (.int 10)) (eBin modD (eVar 3) (eC (.int 8)))) aNil))) (eBin mulD (eC (.int 7919)) (eVar 3))) (eC (.int 1))) (eC (.int 48271))) (eC (.int 1000003)))) (sKPut 2 (eBin addD (eC (.int 1)) (eBin modD (eBin fdivD (eVar 4) (eC (.int 74))) (eC (.int 20)))) (eBin ixD (eVar 1) (eBin modD (eVar 4) (eC (.int 74))))))) (sRet (eL tuple1D (aCons (eComp [none, some 2] (iSeq (eL sortKD (aCons (eVar 2) aNil))) (.one 0) (fun _ => .ok true) (eImm (eL (fun ds => .ok (.tup ds)) (aCons (eVar 0) (aCons (eBin ixD (eVar 1) (eVar 0)) aNil))))) aNil))))))
noncomputable def F__law_odd : List D -> R D := runB 5 t__law_odd
theorem sc__law_odd : FnScope ["_law_script", "_law_signs_here", "_law_found", "_law_k", "_law_cell"] ["_law_script"] (defScope (top 30)) := ⟨rfl, rfl, rfl, by decide +kernel, rfl, by decide +kernel, by decide +kernel⟩
theorem ok__law_odd (Df : DefIn K mg "_law_odd" (top 30) ["_law_script"]) (B : Bl mg) (G : Gl0 K mg) (Cl : Cls K mg) (O__law_signs : Own P w K mg base "_law_signs" 1 [] (spM K F__law_signs 0)) (O__law_cell_at : Own P w K mg base "_law_cell_at" 1 ["_law_script", "_law_k"] (spM K F__law_cell_at 2)) : Own P w K mg base "_law_odd" 2 ["_law_script"] (spM K F__law_odd 1) :=
  Df.mir (k := 1) (Γ' := [.shr, .dead, .dead, .dead, .dead]) sc__law_odd (by decide) fun f cdv A outer s H E hr => (mss_cons (L2.st 1 sc__law_odd.nd (mv_fresh (me_call0 (O__law_signs.mono (by decide)) hr rfl passes_cxx))) (mss_cons (L2.st 2 sc__law_odd.nd (mv_fresh me_disp0)) (mss_cons (ms_for (Γ2 := [.shr, .own, .own, .shr, .own]) PassesOwn.leaving rfl (mi_range1 rfl B.range (ma_cons (me_op op_mod B_mod N_int (me_call (O__law_cell_at.mono (by decide)) hr (by exact rfl) passes_cxx (ma_cons (mn 0 .shr) (ma_cons me_int ma_nil))) me_int) ma_nil)) (by decide) (mg_one (pgn 3 sc__law_odd.nd)) (by decide) (mss_cons (L2.st 4 sc__law_odd.nd (mv_fresh (me_op op_mod B_mod N_int (me_op op_mulA B_mul N_mul (me_op op_addA B_add N_add (me_op op_addA B_add N_add (me_call (O__law_cell_at.mono (by decide)) hr (by exact rfl) passes_cxx (ma_cons (mn 0 .shr) (ma_cons (me_op op_addA B_add N_add me_int (me_op op_mod B_mod N_int (mn 3 .shr) me_int)) ma_nil))) (me_op op_mulA B_mul N_mul me_int (mn 3 .shr))) me_int) me_int) me_int))) (mss_one (kput 2 hr.u1 (mv_fresh (me_op op_addA B_add N_add me_int (me_op op_mod B_mod N_int (me_op op_fdiv B_fdiv N_int (mn 4 .own) me_int) me_int))) (me_ix hr.u1 (mn 1 .own) (me_op op_mod B_mod N_int (mn 4 .own) me_int))))) rfl) (mss_one (ms_ret (mv_fresh (me_callTy call_tuple_of B_tuple1 N_tuple1 (by exact rfl) B.tuple Boot.«tuple» (ma_cons (me_comp (N' := ["_law_sign", "_law_found"]) (fr := [none, some 2]) rfl (cs_def sc__law_odd.nofree (by decide +kernel)) (mi_seq (me_callB (call_sortK (by exact rfl)) B_sortK N_sortK (by exact rfl) Cl.so PyProof.Rows.boot_sorted (ma_cons (mn 2 .own) ma_nil))) (fun _ _ _ _ => (mg_one (pgn 0 (show List.Nodup (["_law_sign", "_law_found"] : List Str) from by decide +kernel)))) (fun _ _ _ _ => mts_nil) (fun _ _ _ _ => (me_imm (me_tup (ma_cons (mn 0 .shr) (ma_cons (me_ix hr.u1 (mn 1 .brw) (mn 0 .shr)) ma_nil))))) (by decide) (by decide)) ma_nil))))))))
noncomputable def t__law_wrong_width : Tn -> R Fl := (sSeq (sSet 1 (eBin modD (eBin fdivD (eVar 0) (eC (.int 8))) (eBin powD (eC (.int 10)) (eC (.int 20))))) (sRet (eBin ixD (eL (fun ds => .ok (.lst ds)) (aCons (eC (.int 0)) (aCons (eC (.int 21)) (aCons (eBin addD (eC (.int 21)) (eVar 1)) (aCons (eBin subD (eUn negD (eC (.int 1))) (eVar 1)) (aCons (eC (.bl true)) (aCons (eC (.bl false)) (aCons (eC (.str "5")) (aCons (eC .non) aNil))))))))) (eBin modD (eVar 0) (eC (.int 8))))))
noncomputable def F__law_wrong_width : List D -> R D := runB 2 t__law_wrong_width
theorem sc__law_wrong_width : FnScope ["_law_cell", "_law_far"] ["_law_cell"] (defScope (top 31)) := ⟨rfl, rfl, rfl, by decide +kernel, rfl, by decide +kernel, by decide +kernel⟩
theorem ok__law_wrong_width (Df : DefIn K mg "_law_wrong_width" (top 31) ["_law_cell"]) (B : Bl mg) (G : Gl0 K mg) (Cl : Cls K mg)  : Own P w K mg base "_law_wrong_width" 1 ["_law_cell"] (spM K F__law_wrong_width 1) :=
  Df.mir (k := 0) (Γ' := [.shr, .dead]) sc__law_wrong_width (by decide) fun f cdv A outer s H E hr => (mss_cons (L2.st 1 sc__law_wrong_width.nd (mv_fresh (me_op op_mod B_mod N_int (me_op op_fdiv B_fdiv N_int (mn 0 .shr) me_int) (me_op op_pow10 B_pow N_pow me_int me_int)))) (mss_one (ms_ret (mv_fresh (me_ix hr.u1 (me_lst (ma_cons me_int (ma_cons me_int (ma_cons (me_op op_addA B_add N_add me_int (mn 1 .own)) (ma_cons (me_op op_sub B_sub N_int (me_neg me_int) (mn 1 .own)) (ma_cons me_bl (ma_cons me_bl (ma_cons me_str (ma_cons me_non ma_nil))))))))) (me_op op_mod B_mod N_int (mn 0 .shr) me_int))))))
noncomputable def t__law_wrong_sign : Tn -> R Fl := (sSeq (sIf (eTest (eBin ltD (eBin modD (eVar 0) (eC (.int 3))) (eC (.int 2)))) (sRet (eBin ixD (fun _ => F__law_others []) (eBin modD (eBin fdivD (eVar 0) (eC (.int 3))) (eC (.int 20))))) sSkip) (sRet (eBin ixD (eL (fun ds => .ok (.lst ds)) (aCons (eC (.str "")) (aCons (eC (.str "ab")) (aCons (eC (.int 5)) (aCons (eC .non) (aCons (eL (fun ds => .ok (.lst ds)) (aCons (eC (.str "a")) aNil)) (aCons (eL (fun ds => .ok (.tup ds)) (aCons (eC (.str "a")) aNil)) (aCons (eC (.bl true)) (aCons (eC (.str "\n")) (aCons (eC (.str "  ")) aNil)))))))))) (eBin modD (eBin fdivD (eVar 0) (eC (.int 3))) (eC (.int 9))))))
noncomputable def F__law_wrong_sign : List D -> R D := runB 1 t__law_wrong_sign
theorem sc__law_wrong_sign : FnScope ["_law_cell"] ["_law_cell"] (defScope (top 32)) := ⟨rfl, rfl, rfl, by decide +kernel, rfl, by decide +kernel, by decide +kernel⟩
theorem ok__law_wrong_sign (Df : DefIn K mg "_law_wrong_sign" (top 32) ["_law_cell"]) (B : Bl mg) (G : Gl0 K mg) (Cl : Cls K mg) (O__law_others : Own P w K mg base "_law_others" 1 [] (spM K F__law_others 0)) : Own P w K mg base "_law_wrong_sign" 2 ["_law_cell"] (spM K F__law_wrong_sign 1) :=
  Df.mir (k := 1) (Γ' := [.shr]) sc__law_wrong_sign (by decide) fun f cdv A outer s H E hr => (mss_cons (ms_if (mt_cmp op_lt B_lt N_int (me_op op_mod B_mod N_int (mn 0 .shr) me_int) me_int (nomark _)) (mss_one (ms_ret (mv_fresh (me_ix hr.u1 (me_call0 (O__law_others.mono (by decide)) hr rfl passes_cxx) (me_op op_mod B_mod N_int (me_op op_fdiv B_fdiv N_int (mn 0 .shr) me_int) me_int))))) mss_nil) (mss_one (ms_ret (mv_fresh (me_ix hr.u1 (me_lst (ma_cons me_str (ma_cons me_str (ma_cons me_int (ma_cons me_non (ma_cons (me_lst (ma_cons me_str ma_nil)) (ma_cons (me_tup (ma_cons me_str ma_nil)) (ma_cons me_bl (ma_cons me_str (ma_cons me_str ma_nil)))))))))) (me_op op_mod B_mod N_int (me_op op_fdiv B_fdiv N_int (mn 0 .shr) me_int) me_int))))))
noncomputable def t__law_wrong_odd : Tn -> R Fl := (sSeq (sSet 2 (eBin modD (eVar 1) (eBin addD (eL lenD (aCons (eVar 0) aNil)) (eC (.int 1))))) (sSeq (sSet 3 (eBin fdivD (eVar 1) (eC (.int 11)))) (sSeq (sSet 4 (eL (fun ds => .ok (.lst ds)) (aCons (eL (fun ds => .ok (.tup ds)) (aCons (eL F__law_wrong_sign (aCons (eVar 3) aNil)) (aCons (eC (.int 5)) aNil))) (aCons (eL (fun ds => .ok (.tup ds)) (aCons (eC (.str "a")) (aCons (eL F__law_wrong_width (aCons (eVar 3) aNil)) aNil))) (aCons (eL (fun ds => .ok (.lst ds)) (aCons (eC (.str "a")) (aCons (eC (.int 5)) aNil))) (aCons (eL (fun ds => .ok (.tup ds)) (aCons (eC (.str "a")) (aCons (eC (.int 5)) (aCons (eC (.int 5)) aNil)))) (aCons (eL (fun ds => .ok (.tup ds)) (aCons (eC (.str "a")) aNil)) (aCons (eC .non) (aCons (eC (.str "a5")) aNil))))))))) (sSeq (sIf (bAnd (eTest (eBin gtD (eBin modD (eBin fdivD (eVar 1) (eC (.int 7))) (eC (.int 3))) (eC (.int 0)))) (eTest (eBin gtD (eL lenD (aCons (eVar 0) aNil)) (eC (.int 1))))) (sSeq (sSet 5 (eBin addD (eSlA (eVar 0) oNone (oSome (eBin addD (eC (.int 1)) (eBin modD (eVar 2) (eL lenD (aCons (eVar 0) aNil)))))) (eSlA (eVar 0) (oSome (eBin modD (eVar 2) (eL lenD (aCons (eVar 0) aNil)))) oNone))) (sRet (eBin ixD (eL (fun ds => .ok (.lst ds)) (aCons (eRevT (eVar 0)) (aCons (eImm (eVar 5)) (aCons (eBin addD (eSlA (eVar 0) oNone (oSome (eC (.int 1)))) (eVar 0)) (aCons (eBin addD (eBin addD (eSlA (eVar 0) (oSome (eC (.int 1))) (oSome (eC (.int 2)))) (eSlA (eVar 0) oNone (oSome (eC (.int 1))))) (eSlA (eVar 0) (oSome (eC (.int 2))) oNone)) aNil))))) (eBin modD (eVar 3) (eC (.int 4)))))) sSkip) (sRet (eBin catTD (eBin catTD (eSlA (eVar 0) oNone (oSome (eVar 2))) (eL (fun ds => .ok (.tup ds)) (aCons (eBin ixL (eVar 4) (eBin modD (eVar 3) (eC (.int 7)))) aNil))) (eSlA (eVar 0) (oSome (eVar 2)) oNone)))))))
noncomputable def F__law_wrong_odd : List D -> R D := runB 6 t__law_wrong_odd
theorem sc__law_wrong_odd : FnScope ["_law_odd_here", "_law_cell", "_law_at", "_law_more", "_law_some", "_law_twice"] ["_law_odd_here", "_law_cell"] (defScope (top 33)) := ⟨rfl, rfl, rfl, by decide +kernel, rfl, by decide +kernel, by decide +kernel⟩
theorem ok__law_wrong_odd (Df : DefIn K mg "_law_wrong_odd" (top 33) ["_law_odd_here", "_law_cell"]) (B : Bl mg) (G : Gl0 K mg) (Cl : Cls K mg) (O__law_wrong_sign : Own P w K mg base "_law_wrong_sign" 2 ["_law_cell"] (spM K F__law_wrong_sign 1)) (O__law_wrong_width : Own P w K mg base "_law_wrong_width" 1 ["_law_cell"] (spM K F__law_wrong_width 1)) : Own P w K mg base "_law_wrong_odd" 3 ["_law_odd_here", "_law_cell"] (spM K F__law_wrong_odd 2) :=
  Df.mir (k := 2) (Γ' := [.shr, .shr, .dead, .dead, .dead, .dead]) sc__law_wrong_odd (by decide) fun f cdv A outer s H E hr => (mss_cons (L2.st 2 sc__law_wrong_odd.nd (mv_fresh (me_op op_mod B_mod N_int (mn 1 .shr) (me_op op_addA B_add N_add (me_callB call_lenA B_len N_len (by exact rfl) B.len PySem.boot_len (ma_cons (mn 0 .shr) ma_nil)) me_int)))) (mss_cons (L2.st 3 sc__law_wrong_odd.nd (mv_fresh (me_op op_fdiv B_fdiv N_int (mn 1 .shr) me_int))) (mss_cons (L2.st 4 sc__law_wrong_odd.nd (mv_fresh (me_lst (ma_cons (me_tup (ma_cons (me_call (O__law_wrong_sign.mono (by decide)) hr (by exact rfl) passes_cxx (ma_cons (mn 3 .own) ma_nil)) (ma_cons me_int ma_nil))) (ma_cons (me_tup (ma_cons me_str (ma_cons (me_call (O__law_wrong_width.mono (by decide)) hr (by exact rfl) passes_cxx (ma_cons (mn 3 .own) ma_nil)) ma_nil))) (ma_cons (me_lst (ma_cons me_str (ma_cons me_int ma_nil))) (ma_cons (me_tup (ma_cons me_str (ma_cons me_int (ma_cons me_int ma_nil)))) (ma_cons (me_tup (ma_cons me_str ma_nil)) (ma_cons me_non (ma_cons me_str ma_nil)))))))))) (mss_cons (ms_if (MW.mt (mw_and (mt_cmp op_gt B_gt N_int (me_op op_mod B_mod N_int (me_op op_fdiv B_fdiv N_int (mn 1 .shr) me_int) me_int) me_int (nomark _)) (mw_and1 (mt_cmp op_gt B_gt N_int (me_callB call_lenA B_len N_len (by exact rfl) B.len PySem.boot_len (ma_cons (mn 0 .shr) ma_nil)) me_int (nomark _))))) (mss_cons (L2.st 5 sc__law_wrong_odd.nd (mv_fresh (me_op op_addA B_add N_add (me_slA (mn 0 .shr) mo_none (mo_some (me_op op_addA B_add N_add me_int (me_op op_mod B_mod N_int (mn 2 .own) (me_callB call_lenA B_len N_len (by exact rfl) B.len PySem.boot_len (ma_cons (mn 0 .shr) ma_nil)))))) (me_slA (mn 0 .shr) (mo_some (me_op op_mod B_mod N_int (mn 2 .own) (me_callB call_lenA B_len N_len (by exact rfl) B.len PySem.boot_len (ma_cons (mn 0 .shr) ma_nil)))) mo_none)))) (mss_one (ms_ret (mv_fresh (me_ix hr.u1 (me_lst (ma_cons (me_revT (mn 0 .shr)) (ma_cons (me_imm (mn 5 .own)) (ma_cons (me_op op_addA B_add N_add (me_slA (mn 0 .shr) mo_none (mo_some me_int)) (mn 0 .shr)) (ma_cons (me_op op_addA B_add N_add (me_op op_addA B_add N_add (me_slA (mn 0 .shr) (mo_some me_int) (mo_some me_int)) (me_slA (mn 0 .shr) mo_none (mo_some me_int))) (me_slA (mn 0 .shr) (mo_some me_int) mo_none)) ma_nil))))) (me_op op_mod B_mod N_int (mn 3 .own) me_int)))))) mss_nil) (mss_one (ms_ret (mv_catT (mv_catT (mv_fresh (me_slA (mn 0 .shr) mo_none (mo_some (mn 2 .own)))) (mv_tup (mvs_cons (mv_ixN 4 (me_op op_mod B_mod N_int (mn 3 .own) me_int) (fun _ _ => rfl)) mvs_nil))) (mv_fresh (me_slA (mn 0 .shr) (mo_some (mn 2 .own)) mo_none)))))))))
noncomputable def t__law_spoilt : Tn -> R Fl := (sSeq (sSet 2 (eBin fdivD (eVar 1) (eC (.int 8)))) (sSeq (sAsg (.many [3, 4, 5]) (eVar 0)) (sSeq (sSet 6 (eL (fun ds => .ok (.lst ds)) (aCons (eL (fun ds => .ok (.tup ds)) (aCons (eL F__law_wrong_width (aCons (eVar 2) aNil)) (aCons (eImm (eVar 4)) (aCons (eImm (eVar 5)) aNil)))) (aCons (eL (fun ds => .ok (.tup ds)) (aCons (eImm (eVar 3)) (aCons (eL F__law_wrong_width (aCons (eVar 2) aNil)) (aCons (eImm (eVar 5)) aNil)))) (aCons (eL (fun ds => .ok (.tup ds)) (aCons (eImm (eVar 3)) (aCons (eImm (eVar 4)) (aCons (eL list1D (aCons (eVar 5) aNil)) aNil)))) aNil))))) (sSeq (sSet 6 (eBin catD (eVar 6) (eL (fun ds => .ok (.lst ds)) (aCons (eL (fun ds => .ok (.tup ds)) (aCons (eImm (eVar 3)) (aCons (eImm (eVar 4)) (aCons (eL F__law_wrong_odd (aCons (eVar 5) (aCons (eVar 2) aNil))) aNil)))) (aCons (eL (fun ds => .ok (.tup ds)) (aCons (eImm (eVar 3)) (aCons (eImm (eVar 4)) (aCons (eL F__law_wrong_odd (aCons (eVar 5) (aCons (eBin fdivD (eVar 2) (eC (.int 3))) aNil))) aNil)))) aNil))))) (sSeq (sSet 6 (eBin catD (eVar 6) (eL (fun ds => .ok (.lst ds)) (aCons (eL (fun ds => .ok (.lst ds)) (aCons (eImm (eVar 3)) (aCons (eImm (eVar 4)) (aCons (eImm (eVar 5)) aNil)))) (aCons (eBin ixD (eL (fun ds => .ok (.lst ds)) (aCons (eL (fun ds => .ok (.tup ds)) (aCons (eImm (eVar 3)) (aCons (eImm (eVar 4)) aNil))) (aCons (eL (fun ds => .ok (.tup ds)) (aCons (eImm (eVar 3)) (aCons (eImm (eVar 4)) (aCons (eImm (eVar 5)) (aCons (eImm (eVar 5)) aNil))))) (aCons (eC .non) (aCons (eC (.str "face")) (aCons (eC (.dic [] [])) aNil)))))) (eBin modD (eVar 2) (eC (.int 5)))) aNil))))) (sSeq (sApp 6 (eL (fun ds => .ok (.tup ds)) (aCons (eImm (eVar 3)) (aCons (eImm (eVar 4)) (aCons (eBin ixD (eL (fun ds => .ok (.lst ds)) (aCons (eC .non) (aCons (eC (.str "a")) (aCons (eC (.int 5)) (aCons (eC (.dic [] [])) (aCons (eL (fun ds => .ok (.tup ds)) (aCons (eL (fun ds => .ok (.tup ds)) (aCons (eC (.str "a")) (aCons (eC (.int 5)) aNil))) (aCons (eC .non) aNil))) aNil)))))) (eBin modD (eVar 2) (eC (.int 5)))) aNil))))) (sRet (eBin ixL (eVar 6) (eBin modD (eVar 1) (eC (.int 8)))))))))))
noncomputable def F__law_spoilt : List D -> R D := runB 7 t__law_spoilt
theorem sc__law_spoilt : FnScope ["_law_face", "_law_cell", "_law_more", "_law_plain", "_law_blank", "_law_odd_here", "_law_some"] ["_law_face", "_law_cell"] (defScope (top 34)) := ⟨rfl, rfl, rfl, by decide +kernel, rfl, by decide +kernel, by decide +kernel⟩
theorem ok__law_spoilt (Df : DefIn K mg "_law_spoilt" (top 34) ["_law_face", "_law_cell"]) (B : Bl mg) (G : Gl0 K mg) (Cl : Cls K mg) (O__law_wrong_width : Own P w K mg base "_law_wrong_width" 1 ["_law_cell"] (spM K F__law_wrong_width 1)) (O__law_wrong_odd : Own P w K mg base "_law_wrong_odd" 3 ["_law_odd_here", "_law_cell"] (spM K F__law_wrong_odd 2)) : Own P w K mg base "_law_spoilt" 4 ["_law_face", "_law_cell"] (spM K F__law_spoilt 2) :=
  Df.mir (k := 3) (Γ' := [.shr, .shr, .dead, .dead, .dead, .dead, .dead]) sc__law_spoilt (by decide) fun f cdv A outer s H E hr => (mss_cons (L2.st 2 sc__law_spoilt.nd (mv_fresh (me_op op_fdiv B_fdiv N_int (mn 1 .shr) me_int))) (mss_cons (ms_asg (mn 0 .shr) (by decide) (mg_many rfl (mgs_cons (pgn 3 sc__law_spoilt.nd) (mgs_cons (pgn 4 sc__law_spoilt.nd) (mgs_cons (pgn 5 sc__law_spoilt.nd) mgs_nil)))) (by decide)) (mss_cons (L2.st 6 sc__law_spoilt.nd (mv_fresh (me_lst (ma_cons (me_tup (ma_cons (me_call (O__law_wrong_width.mono (by decide)) hr (by exact rfl) passes_cxx (ma_cons (mn 2 .own) ma_nil)) (ma_cons (me_imm (mn 4 .shr)) (ma_cons (me_imm (mn 5 .shr)) ma_nil)))) (ma_cons (me_tup (ma_cons (me_imm (mn 3 .shr)) (ma_cons (me_call (O__law_wrong_width.mono (by decide)) hr (by exact rfl) passes_cxx (ma_cons (mn 2 .own) ma_nil)) (ma_cons (me_imm (mn 5 .shr)) ma_nil)))) (ma_cons (me_tup (ma_cons (me_imm (mn 3 .shr)) (ma_cons (me_imm (mn 4 .shr)) (ma_cons (me_callTy call_list_of B_list1 N_list1 (by exact rfl) B.list Boot.«list» (ma_cons (mn 5 .shr) ma_nil)) ma_nil)))) ma_nil)))))) (mss_cons (L2.st 6 sc__law_spoilt.nd (mv_cat (mvn 6) (mv_fresh (me_lst (ma_cons (me_tup (ma_cons (me_imm (mn 3 .shr)) (ma_cons (me_imm (mn 4 .shr)) (ma_cons (me_call (O__law_wrong_odd.mono (by decide)) hr (by exact rfl) passes_cxx (ma_cons (mn 5 .shr) (ma_cons (mn 2 .own) ma_nil))) ma_nil)))) (ma_cons (me_tup (ma_cons (me_imm (mn 3 .shr)) (ma_cons (me_imm (mn 4 .shr)) (ma_cons (me_call (O__law_wrong_odd.mono (by decide)) hr (by exact rfl) passes_cxx (ma_cons (mn 5 .shr) (ma_cons (me_op op_fdiv B_fdiv N_int (mn 2 .own) me_int) ma_nil))) ma_nil)))) ma_nil)))))) (mss_cons (L2.st 6 sc__law_spoilt.nd (mv_cat (mvn 6) (mv_fresh (me_lst (ma_cons (me_lst (ma_cons (me_imm (mn 3 .shr)) (ma_cons (me_imm (mn 4 .shr)) (ma_cons (me_imm (mn 5 .shr)) ma_nil)))) (ma_cons (me_ix hr.u1 (me_lst (ma_cons (me_tup (ma_cons (me_imm (mn 3 .shr)) (ma_cons (me_imm (mn 4 .shr)) ma_nil))) (ma_cons (me_tup (ma_cons (me_imm (mn 3 .shr)) (ma_cons (me_imm (mn 4 .shr)) (ma_cons (me_imm (mn 5 .shr)) (ma_cons (me_imm (mn 5 .shr)) ma_nil))))) (ma_cons me_non (ma_cons me_str (ma_cons me_disp0 ma_nil)))))) (me_op op_mod B_mod N_int (mn 2 .own) me_int)) ma_nil)))))) (mss_cons (app 6 (mv_fresh (me_tup (ma_cons (me_imm (mn 3 .shr)) (ma_cons (me_imm (mn 4 .shr)) (ma_cons (me_ix hr.u1 (me_lst (ma_cons me_non (ma_cons me_str (ma_cons me_int (ma_cons me_disp0 (ma_cons (me_tup (ma_cons (me_tup (ma_cons me_str (ma_cons me_int ma_nil))) (ma_cons me_non ma_nil))) ma_nil)))))) (me_op op_mod B_mod N_int (mn 2 .own) me_int)) ma_nil)))))) (mss_one (ms_ret (mv_ixN 6 (me_op op_mod B_mod N_int (mn 1 .shr) me_int) (fun _ _ => rfl))))))))))
theorem nd__law_refused : (["_law_face", "e", "_law_some"] : List Str).Nodup := by decide +kernel
noncomputable def g__law_refused : Str -> Option D := fun m => if m = "BadFace" then some (.bl true) else none
noncomputable def sts__law_refused : List Stmt := match defBody (top 35) with
  | .Try _ [.ExceptHandler _ _ b _] _ _ _ :: _ => b
  | _ => []
noncomputable abbrev cxR (P : Program) (w : World) (K : PySem.W.Frag) (mg : Str -> Option Value) (base : Heap) (f : Addr) (cdv : Value) (A : Around) (outer : List Env) (s : Shared) (H : Hp) (E : XK) : Cx := cxOf (cxx P w) P w K mg base ["_law_face", "e", "_law_some"] "_law_refused" (defScope (top 35)) f cdv A outer s H E
theorem tl4 {A1 A2 A3 A4 : TE} {σ : L2.St} {H : Hp} {Q : VK} (h1 : ∀ Q : VK, Q (.bl false) H -> A1 σ H Q) (h2 : ∀ Q : VK, Q (.bl false) H -> A2 σ H Q) (h3 : ∀ Q : VK, Q (.bl false) H -> A3 σ H Q) (h4 : ∀ Q : VK, Q (.bl false) H -> A4 σ H Q)
    (h : ∀ p H', Same H H' -> H' p = some (.lst [.bl false, .bl false, .bl false, .bl false]) -> Q (.ref p) H') : tLst (tCons A1 (tCons A2 (tCons A3 (tCons A4 tNil)))) σ H Q :=
  h1 _ (h2 _ (h3 _ (h4 _ ⟨by show 4 <= sizeLine; decide, fun p hp => h p _ (Same.new hp) upd_same⟩)))
theorem suite__law_refused (Cl : Cls K mg) (B : Bl mg) (f : Addr) (cdv : Value) (A : Around) (outer : List Env) (s : Shared) (H : Hp) (E : XK) :
    ∃ CS, (cxR P w K mg base f cdv A outer s H E).mg "SetError" = some (.ref CS) /\ Suite (cxR P w K mg base f cdv A outer s H E) CS 1 sts__law_refused g__law_refused := by
  obtain ⟨CS, CT, c1, c2, c3, c4, c5, c6, c7, c8, c9, hS, eT, iT, mT, kV, xS, ⟨m1, k1⟩, ⟨m2, k2⟩, ⟨m3, k3⟩, ⟨m4, k4⟩, ⟨m5, k5⟩, ⟨m6, k6⟩, ⟨m7, k7⟩, ⟨m8, k8⟩, ⟨m9, k9⟩⟩ := Cl.ex
  refine ⟨CS, hS, fun m d hg C hC => ?_⟩
  have hm : m = "BadFace" /\ d = .bl true := by
    unfold g__law_refused at hg
    split at hg
    · exact ⟨by assumption, (Option.some.inj hg).symm⟩
    · cases hg
  obtain ⟨rfl, rfl⟩ := hm
  have hCT : C = CT := by
    have h1 : PySem.W.nsIn K mainGlobals "BadFace" = some (some (.ref C)) := hC.ns
    rw [eT.ns] at h1
    cases h1
    rfl
  subst hCT
  refine ⟨xS, _, fun e oe =>
    pss_cons (ps_set (i := 2) nd__law_refused rfl (Or.inl rfl) (pe_lst (pa_cons (pe_isi rfl B.isinstance (pv 1) (pe_glob (v := .ref c1) rfl m1 rfl)) (pa_cons (pe_isi rfl B.isinstance (pv 1) (pe_glob (v := .ref c2) rfl m2 rfl)) (pa_cons (pe_isi rfl B.isinstance (pv 1) (pe_glob (v := .ref c3) rfl m3 rfl)) (pa_cons (pe_isi rfl B.isinstance (pv 1) (pe_glob (v := .ref c4) rfl m4 rfl)) pa_nil))))))
    (pss_cons (ps_set (i := 2) nd__law_refused rfl (Or.inl rfl) (pe_op op_cat (pv 2) (pe_lst (pa_cons (pe_isi rfl B.isinstance (pv 1) (pe_glob (v := .ref c5) rfl m5 rfl)) (pa_cons (pe_isi rfl B.isinstance (pv 1) (pe_glob (v := .ref c6) rfl m6 rfl)) (pa_cons (pe_isi rfl B.isinstance (pv 1) (pe_glob (v := .ref c7) rfl m7 rfl)) (pa_cons (pe_isi rfl B.isinstance (pv 1) (pe_glob (v := .ref c8) rfl m8 rfl)) pa_nil)))))))
    (pss_one (ps_ret (pe_and (pe_isi rfl B.isinstance (pv 1) (pe_glob (v := .ref C) rfl mT rfl)) (pe_and (pe_isi rfl B.isinstance (pv 1) (pe_bltn (v := .ty "ValueError") rfl Cl.ve Boot.«ValueError» rfl)) (pe_and (pe_cmpR op_notIn_seq pe_bl (pv 2) rfl) (pe_one (pe_not (pe_isi rfl B.isinstance (pv 1) (pe_glob (v := .ref c9) rfl m9 rfl)))))))))), fun e oe Z σ H1 hl hcls hn hσ hQ => ?_⟩
  have hl3 : 2 < σ.length := by rw [hl]; show 2 < 3; decide
  have q3 : PySem.W.kitOne K (.ref C) (.ref C) = some true := by unfold PySem.W.kitOne; rw [if_pos (by simp)]
  have mem : (e, oe) ∈ ((cxR P w K mg base f cdv A outer s H E).within e oe).pn := List.mem_append_right _ (List.mem_singleton.mpr rfl)
  refine seq_set (tl4 (fun Q h => isi_of mem hcls iT (.ref _) k1 hσ h) (fun Q h => isi_of mem hcls iT (.ref _) k2 hσ h) (fun Q h => isi_of mem hcls iT (.ref _) k3 hσ h) (fun Q h => isi_of mem hcls iT (.ref _) k4 hσ h) fun p1 H2 s2 g2 => ?_)
  have hσ : (σ.set 2 (some (.ref p1)))[1]? = some (some (.ref e)) := by rw [List.getElem?_set_ne (by decide)]; exact hσ
  refine seq_set (tcat (by rw [List.getElem?_set_self hl3]) g2 (by decide) (fun Q h => tl4 (fun Q h => isi_of mem hcls iT (.ref _) k5 hσ h) (fun Q h => isi_of mem hcls iT (.ref _) k6 hσ h) (fun Q h => isi_of mem hcls iT (.ref _) k7 hσ h) (fun Q h => isi_of mem hcls iT (.ref _) k8 hσ h) h) fun p2 H3 s3 g3 => ?_)
  have hσ : ((σ.set 2 (some (.ref p1))).set 2 (some (.ref p2)))[1]? = some (some (.ref e)) := by rw [List.getElem?_set_ne (by decide)]; exact hσ
  refine ret_of (tand (fun Q h => isi_of mem hcls iT (.ref _) q3 hσ h) (tand (fun Q h => isi_of mem hcls iT (.ty _) kV hσ h) (tand (fun Q h => tnot (by rw [List.getElem?_set_self (by rw [List.length_set]; exact hl3)]) g3 rfl rfl h) (isi_of mem hcls iT (.ref _) k9 hσ ⟨false, rfl, hQ _ _ (s2.trans s3) ⟨rfl, rfl⟩⟩))))
noncomputable def t__law_refused : Tn -> R Fl := (sSeq (sTryE F_need_face (aCons (eVar 0) aNil) g__law_refused) (sRet (eC (.bl false))))
noncomputable def F__law_refused : List D -> R D := runB 3 t__law_refused
theorem sc__law_refused : FnScope ["_law_face", "e", "_law_some"] ["_law_face"] (defScope (top 35)) := ⟨rfl, rfl, rfl, by decide +kernel, rfl, by decide +kernel, by decide +kernel⟩
theorem ok__law_refused (Df : DefIn K mg "_law_refused" (top 35) ["_law_face"]) (B : Bl mg) (G : Gl0 K mg) (Cl : Cls K mg) (O_need_face : Own P w K mg base "need_face" 7 ["face"] (spM K F_need_face 1)) : Own P w K mg base "_law_refused" 8 ["_law_face"] (spM K F__law_refused 1) :=
  Df.mir (k := 7) (Γ' := [.shr, .dead, .dead]) sc__law_refused (by decide) fun f cdv A outer s H E hr => (mss_cons (ms_tryEC (O_need_face.mono (by decide)) sc__law_refused.nd hr rfl (ma_cons (mn 0 .shr) ma_nil) rfl rfl rfl (show 1 < 3 by decide) rfl (suite__law_refused Cl B f cdv A outer s H E)) (mss_one (ms_ret (mv_fresh me_bl))))
noncomputable def t__law_told : Tn -> R Fl := (sSeq (sSet 2 (eL F_is_sign (aCons (eVar 0) aNil))) (sRet (eAnd (eUn (isiD "bool") (eVar 2)) (eBin (eqR false) (eVar 2) (eVar 1)))))
noncomputable def F__law_told : List D -> R D := runB 3 t__law_told
theorem sc__law_told : FnScope ["_law_thing", "_law_due", "_law_found"] ["_law_thing", "_law_due"] (defScope (top 36)) := ⟨rfl, rfl, rfl, by decide +kernel, rfl, by decide +kernel, by decide +kernel⟩
theorem ok__law_told (Df : DefIn K mg "_law_told" (top 36) ["_law_thing", "_law_due"]) (B : Bl mg) (G : Gl0 K mg) (Cl : Cls K mg) (O_is_sign : Own P w K mg base "is_sign" 1 ["thing"] (spM K F_is_sign 1)) : Own P w K mg base "_law_told" 2 ["_law_thing", "_law_due"] (spM K F__law_told 2) :=
  Df.mir (k := 1) (Γ' := [.shr, .shr, .dead]) sc__law_told (by decide) fun f cdv A outer s H E hr => (mss_cons (L2.st 2 sc__law_told.nd (mv_fresh (me_call (O_is_sign.mono (by decide)) hr (by exact rfl) passes_cxx (ma_cons (mn 0 .shr) ma_nil)))) (mss_one (ms_ret (mv_fresh (me_and (me_isi (T := "bool") (by decide) rfl B.isinstance (pe_bltn (v := .ty "bool") rfl B.bool Boot.«bool» rfl) (mn 2 .own)) (me_one (me_cmp (op_eqAll hr.u12) B_eq N_eq (mn 2 .own) (mn 1 .shr) (nomark _))))))))
noncomputable def t_law : Tn -> R Fl := (sSeq (sSet 1 (fun _ => F__law_signs [])) (sSeq (sSet 2 (eL (fun ds => .ok (.tup ds)) (aCons (eBin addD (eC (.int 1)) (eBin modD (eL F__law_cell_at (aCons (eVar 0) (aCons (eC (.int 0)) aNil))) (eC (.int 20)))) (aCons (eBin addD (eC (.int 1)) (eBin modD (eL F__law_cell_at (aCons (eVar 0) (aCons (eC (.int 1)) aNil))) (eC (.int 20)))) (aCons (eL F__law_odd (aCons (eVar 0) aNil)) aNil))))) (sSeq (sSet 3 (eL F__law_cell_at (aCons (eVar 0) (aCons (eC (.int 3)) aNil)))) (sSeq (sIf (bOr (bNot (eTest (eL F__law_told (aCons (eBin ixD (eVar 1) (eBin modD (eVar 3) (eC (.int 74)))) (aCons (eC (.bl true)) aNil))))) (bNot (eTest (eL F__law_told (aCons (eBin ixD (fun _ => F__law_others []) (eBin modD (eVar 3) (eC (.int 20)))) (aCons (eC (.bl false)) aNil)))))) (sRet (eC (.bl false))) sSkip) (sSeq (sIf (bNot (eTest (eL F__law_told (aCons (eBin ixD (eL (fun ds => .ok (.lst ds)) (aCons (eC .non) (aCons (eC (.str "")) (aCons (eC (.str "ab")) (aCons (eC (.int 5)) (aCons (eC (.bl true)) (aCons (eL (fun ds => .ok (.lst ds)) (aCons (eC (.str "a")) aNil)) (aCons (eL (fun ds => .ok (.tup ds)) (aCons (eC (.str "a")) aNil)) (aCons (eC (.dic [] [])) (aCons (eC (.str "\n")) aNil)))))))))) (eBin modD (eVar 3) (eC (.int 9)))) (aCons (eC (.bl false)) aNil))))) (sRet (eC (.bl false))) sSkip) (sSeq (sIf (eTest (eBin (eqR false) (eBin modD (eL F__law_cell_at (aCons (eVar 0) (aCons (eC (.int 4)) aNil))) (eC (.int 2))) (eC (.int 1)))) (sRet (eL F__law_refused (aCons (eL F__law_spoilt (aCons (eVar 2) (aCons (eL F__law_cell_at (aCons (eVar 0) (aCons (eC (.int 5)) aNil))) aNil))) aNil))) sSkip) (sSeq (sIf (eTest (eBin (isB true) (eL F_need_face (aCons (eVar 2) aNil)) (eC (.bl true)))) (sRet (eC (.bl false))) sSkip) (sSeq (sSet 4 (eL dictAD (aCons (eBin ixD (eVar 2) (eC (.int 2))) aNil))) (sSeq (sKPut 4 (eImm (eBin ixD (eVar 2) (eC (.int 1)))) (eC (.str " "))) (sSeq (sSet 5 (eC (.str ""))) (sSeq (sFor (iL rng1 (aCons (eBin modD (eL F__law_cell_at (aCons (eVar 0) (aCons (eC (.int 6)) aNil))) (eC (.int 41))) aNil)) (.one 6) (sSeq (sSet 7 (eBin modD (eBin mulD (eBin addD (eL F__law_cell_at (aCons (eVar 0) (aCons (eBin addD (eC (.int 18)) (eBin modD (eVar 6) (eC (.int 9)))) aNil))) (eBin mulD (eC (.int 31)) (eVar 6))) (eC (.int 16807))) (eC (.int 1000003)))) (sSeq (sSet 5 (eBin addD (eVar 5) (eBin ixD (eBin addD (eVar 1) (eC (.str "  "))) (eBin modD (eVar 7) (eC (.int 76)))))) (sIf (bAnd (eTest (eBin (eqR false) (eBin modD (eBin fdivD (eVar 7) (eC (.int 76))) (eC (.int 3))) (eC (.int 1)))) (eTest (eBin (eqR true) (eBin ixD (eVar 2) (eC (.int 2))) (eL (fun ds => .ok (.tup ds)) aNil)))) (sSet 5 (eBin addD (eSl (eVar 5) oNone (oSome (eUn negD (eC (.int 1))))) (eBin ixD (eBin ixD (eBin ixD (eVar 2) (eC (.int 2))) (eBin modD (eBin fdivD (eVar 7) (eC (.int 228))) (eL lenD (aCons (eBin ixD (eVar 2) (eC (.int 2))) aNil)))) (eC (.int 0))))) sSkip)))) (sSeq (sSet 8 (eL F_wide (aCons (eVar 2) (aCons (eVar 5) aNil)))) (sSeq (sIf (bOr (bNot (eTest (eUn (isiD "int") (eVar 8)))) (eTest (eUn (isiD "bool") (eVar 8)))) (sRet (eC (.bl false))) sSkip) (sRet (eBin (eqR false) (eVar 8) (eL sumD (aCons (eComp [none, some 4, some 2] (iSeq (eVar 5)) (.one 0) (fun _ => .ok true) (eGet (eVar 1) (eVar 0) (eBin ixD (eVar 2) (eC (.int 0))))) aNil)))))))))))))))))
noncomputable def F_law : List D -> R D := runB 9 t_law
theorem sc_law : FnScope ["_law_script", "_law_signs_here", "_law_face", "_law_cell", "_law_widths", "_law_line", "_law_k", "_law_more", "_law_found"] ["_law_script"] (defScope (top 37)) := ⟨rfl, rfl, rfl, by decide +kernel, rfl, by decide +kernel, by decide +kernel⟩
theorem body_law (B : Bl mg) (G : Gl0 K mg) (Cl : Cls K mg) (O__law_signs : Own P w K mg base "_law_signs" 1 [] (spM K F__law_signs 0)) (O__law_cell_at : Own P w K mg base "_law_cell_at" 1 ["_law_script", "_law_k"] (spM K F__law_cell_at 2)) (O_wide : Own P w K mg base "wide" 1 ["face", "line"] (spM K F_wide 2)) (O__law_odd : Own P w K mg base "_law_odd" 2 ["_law_script"] (spM K F__law_odd 1)) (O__law_told : Own P w K mg base "_law_told" 2 ["_law_thing", "_law_due"] (spM K F__law_told 2)) (O__law_refused : Own P w K mg base "_law_refused" 8 ["_law_face"] (spM K F__law_refused 1)) (O_need_face : Own P w K mg base "need_face" 7 ["face"] (spM K F_need_face 1)) (O__law_spoilt : Own P w K mg base "_law_spoilt" 4 ["_law_face", "_law_cell"] (spM K F__law_spoilt 2)) (O__law_others : Own P w K mg base "_law_others" 1 [] (spM K F__law_others 0)) : ∀ (f : Addr) (cdv : Value) (A : Around) (outer : List Env) (s : Shared) (H : Hp) (E : XK), Room 8 (A.deeper (envOfC "law" (defScope (top 37)) s.heap.objs.size f cdv)) -> MSs (cxOf (cxx P w) P w K mg base ["_law_script", "_law_signs_here", "_law_face", "_law_cell", "_law_widths", "_law_line", "_law_k", "_law_more", "_law_found"] "law" (defScope (top 37)) f cdv A outer s H E) E [] (prmC 9 1) (defBody (top 37)) t_law [.shr, .dead, .dead, .dead, .dead, .dead, .dead, .dead, .dead] :=
  fun f cdv A outer s H E hr => (mss_cons (L2.st 1 sc_law.nd (mv_fresh (me_call0 (O__law_signs.mono (by decide)) hr rfl passes_cxx))) (mss_cons (L2.st 2 sc_law.nd (mv_fresh (me_tup (ma_cons (me_op op_addA B_add N_add me_int (me_op op_mod B_mod N_int (me_call (O__law_cell_at.mono (by decide)) hr (by exact rfl) passes_cxx (ma_cons (mn 0 .shr) (ma_cons me_int ma_nil))) me_int)) (ma_cons (me_op op_addA B_add N_add me_int (me_op op_mod B_mod N_int (me_call (O__law_cell_at.mono (by decide)) hr (by exact rfl) passes_cxx (ma_cons (mn 0 .shr) (ma_cons me_int ma_nil))) me_int)) (ma_cons (me_call (O__law_odd.mono (by decide)) hr (by exact rfl) passes_cxx (ma_cons (mn 0 .shr) ma_nil)) ma_nil)))))) (mss_cons (L2.st 3 sc_law.nd (mv_fresh (me_call (O__law_cell_at.mono (by decide)) hr (by exact rfl) passes_cxx (ma_cons (mn 0 .shr) (ma_cons me_int ma_nil))))) (mss_cons (ms_if (MW.mt (mw_or (mt_not (mt_val (me_call (O__law_told.mono (by decide)) hr (by exact rfl) passes_cxx (ma_cons (me_ix hr.u1 (mn 1 .own) (me_op op_mod B_mod N_int (mn 3 .own) me_int)) (ma_cons me_bl ma_nil))))) (mw_or1 (mt_not (mt_val (me_call (O__law_told.mono (by decide)) hr (by exact rfl) passes_cxx (ma_cons (me_ix hr.u1 (me_call0 (O__law_others.mono (by decide)) hr rfl passes_cxx) (me_op op_mod B_mod N_int (mn 3 .own) me_int)) (ma_cons me_bl ma_nil)))))))) (mss_one (ms_ret (mv_fresh me_bl))) mss_nil) (mss_cons (ms_if (mt_not (mt_val (me_call (O__law_told.mono (by decide)) hr (by exact rfl) passes_cxx (ma_cons (me_ix hr.u1 (me_lst (ma_cons me_non (ma_cons me_str (ma_cons me_str (ma_cons me_int (ma_cons me_bl (ma_cons (me_lst (ma_cons me_str ma_nil)) (ma_cons (me_tup (ma_cons me_str ma_nil)) (ma_cons me_disp0 (ma_cons me_str ma_nil)))))))))) (me_op op_mod B_mod N_int (mn 3 .own) me_int)) (ma_cons me_bl ma_nil))))) (mss_one (ms_ret (mv_fresh me_bl))) mss_nil) (mss_cons (ms_if (mt_cmp (op_eqAll hr.u12) B_eq N_eq (me_op op_mod B_mod N_int (me_call (O__law_cell_at.mono (by decide)) hr (by exact rfl) passes_cxx (ma_cons (mn 0 .shr) (ma_cons me_int ma_nil))) me_int) me_int (nomark _)) (mss_one (ms_ret (mv_fresh (me_call (O__law_refused.mono (by decide)) hr (by exact rfl) passes_cxx (ma_cons (me_call (O__law_spoilt.mono (by decide)) hr (by exact rfl) passes_cxx (ma_cons (mn 2 .own) (ma_cons (me_call (O__law_cell_at.mono (by decide)) hr (by exact rfl) passes_cxx (ma_cons (mn 0 .shr) (ma_cons me_int ma_nil))) ma_nil))) ma_nil))))) mss_nil) (mss_cons (ms_if (mt_cmp op_notB B_notB N_isB (me_call (O_need_face.mono (by decide)) hr (by exact rfl) passes_cxx (ma_cons (mn 2 .own) ma_nil)) me_bl (nomark _)) (mss_one (ms_ret (mv_fresh me_bl))) mss_nil) (mss_cons (L2.st 4 sc_law.nd (mv_fresh (me_callTy (call_dictA (by exact rfl)) B_dictA N_dictA (by exact rfl) B.dict Boot.«dict» (ma_cons (me_ix hr.u1 (mn 2 .own) me_int) ma_nil)))) (mss_cons (kput 4 hr.u1 (mv_fresh (me_imm (me_ix hr.u1 (mn 2 .own) me_int))) me_str) (mss_cons (L2.st 5 sc_law.nd (mv_fresh me_str)) (mss_cons (ms_for (Γ2 := [.shr, .own, .own, .own, .own, .own, .shr, .own, .dead]) PassesOwn.leaving rfl (mi_range1 rfl B.range (ma_cons (me_op op_mod B_mod N_int (me_call (O__law_cell_at.mono (by decide)) hr (by exact rfl) passes_cxx (ma_cons (mn 0 .shr) (ma_cons me_int ma_nil))) me_int) ma_nil)) (by decide) (mg_one (pgn 6 sc_law.nd)) (by decide) (mss_cons (L2.st 7 sc_law.nd (mv_fresh (me_op op_mod B_mod N_int (me_op op_mulA B_mul N_mul (me_op op_addA B_add N_add (me_call (O__law_cell_at.mono (by decide)) hr (by exact rfl) passes_cxx (ma_cons (mn 0 .shr) (ma_cons (me_op op_addA B_add N_add me_int (me_op op_mod B_mod N_int (mn 6 .shr) me_int)) ma_nil))) (me_op op_mulA B_mul N_mul me_int (mn 6 .shr))) me_int) me_int))) (mss_cons (L2.st 5 sc_law.nd (mv_fresh (me_op op_addA B_add N_add (mn 5 .own) (me_ix hr.u1 (me_op op_addA B_add N_add (mn 1 .own) me_str) (me_op op_mod B_mod N_int (mn 7 .own) me_int))))) (mss_one (ms_if (MW.mt (mw_and (mt_cmp (op_eqAll hr.u12) B_eq N_eq (me_op op_mod B_mod N_int (me_op op_fdiv B_fdiv N_int (mn 7 .own) me_int) me_int) me_int (nomark _)) (mw_and1 (mt_cmp (op_neAll hr.u12) B_eq N_eq (me_ix hr.u1 (mn 2 .own) me_int) (me_tup ma_nil) (nomark _))))) (mss_one (L2.st 5 sc_law.nd (mv_fresh (me_op op_addA B_add N_add (me_sl (mn 5 .own) mo_none (mo_some (me_neg me_int))) (me_ix hr.u1 (me_ix hr.u1 (me_ix hr.u1 (mn 2 .own) me_int) (me_op op_mod B_mod N_int (me_op op_fdiv B_fdiv N_int (mn 7 .own) me_int) (me_callB call_lenA B_len N_len (by exact rfl) B.len PySem.boot_len (ma_cons (me_ix hr.u1 (mn 2 .own) me_int) ma_nil)))) me_int))))) mss_nil)))) rfl) (mss_cons (L2.st 8 sc_law.nd (mv_fresh (me_call (O_wide.mono (by decide)) hr (by exact rfl) passes_cxx (ma_cons (mn 2 .own) (ma_cons (mn 5 .own) ma_nil))))) (mss_cons (ms_if (MW.mt (mw_or (mt_not (mt_val (me_isi (T := "int") (by decide) rfl B.isinstance (pe_bltn (v := .ty "int") rfl B.int Boot.«int» rfl) (mn 8 .own)))) (mw_or1 (mt_val (me_isi (T := "bool") (by decide) rfl B.isinstance (pe_bltn (v := .ty "bool") rfl B.bool Boot.«bool» rfl) (mn 8 .own)))))) (mss_one (ms_ret (mv_fresh me_bl))) mss_nil) (mss_one (ms_ret (mv_fresh (me_cmp (op_eqAll hr.u12) B_eq N_eq (mn 8 .own) (me_callB (call_sumL rfl) B_sum N_sum (by exact rfl) B.sum PyProof.Rows.boot_sum (ma_cons (me_comp (N' := ["_law_sign", "_law_widths", "_law_face"]) (fr := [none, some 4, some 2]) rfl (cs_def sc_law.nofree (by decide +kernel)) (mi_seq (mn 5 .own)) (fun _ _ _ _ => (mg_one (pgn 0 (show List.Nodup (["_law_sign", "_law_widths", "_law_face"] : List Str) from by decide +kernel)))) (fun _ _ _ _ => mts_nil) (fun _ _ _ _ => (me_get hr.u1 (mn 1 .brw) (mn 0 .brw) (me_ix hr.u1 (mn 2 .brw) me_int))) (by decide) (by decide)) ma_nil)) (nomark _))))))))))))))))))
theorem all_mk {h : Heap} {fa : Addr} (X : K.In h) (G : h.Ns mainGlobals mg) (hfa : mg "law" = some (.ref fa))
    {f_is_whole : Addr} {od_is_whole an_is_whole : Option Addr} {sl_is_whole : Array (Option Value)} {oc_is_whole kV_is_whole dc_is_whole pm_is_whole cd_is_whole ct_is_whole : Value}
    {f_is_within : Addr} {od_is_within an_is_within : Option Addr} {sl_is_within : Array (Option Value)} {oc_is_within kV_is_within dc_is_within pm_is_within cd_is_within ct_is_within : Value}
    {f_is_sign : Addr} {od_is_sign an_is_sign : Option Addr} {sl_is_sign : Array (Option Value)} {oc_is_sign kV_is_sign dc_is_sign pm_is_sign cd_is_sign ct_is_sign : Value}
    {f_is_width : Addr} {od_is_width an_is_width : Option Addr} {sl_is_width : Array (Option Value)} {oc_is_width kV_is_width dc_is_width pm_is_width cd_is_width ct_is_width : Value}
    {f_is_odd_pair : Addr} {od_is_odd_pair an_is_odd_pair : Option Addr} {sl_is_odd_pair : Array (Option Value)} {oc_is_odd_pair kV_is_odd_pair dc_is_odd_pair pm_is_odd_pair cd_is_odd_pair ct_is_odd_pair : Value}
    {f_is_odd : Addr} {od_is_odd an_is_odd : Option Addr} {sl_is_odd : Array (Option Value)} {oc_is_odd kV_is_odd dc_is_odd pm_is_odd cd_is_odd ct_is_odd : Value}
    {f_is_face : Addr} {od_is_face an_is_face : Option Addr} {sl_is_face : Array (Option Value)} {oc_is_face kV_is_face dc_is_face pm_is_face cd_is_face ct_is_face : Value}
    {f_need_face : Addr} {od_need_face an_need_face : Option Addr} {sl_need_face : Array (Option Value)} {oc_need_face kV_need_face dc_need_face pm_need_face cd_need_face ct_need_face : Value}
    {f_wide : Addr} {od_wide an_wide : Option Addr} {sl_wide : Array (Option Value)} {oc_wide kV_wide dc_wide pm_wide cd_wide ct_wide : Value}
    {f__law_cell_at : Addr} {od__law_cell_at an__law_cell_at : Option Addr} {sl__law_cell_at : Array (Option Value)} {oc__law_cell_at kV__law_cell_at dc__law_cell_at pm__law_cell_at cd__law_cell_at ct__law_cell_at : Value}
    {f__law_signs : Addr} {od__law_signs an__law_signs : Option Addr} {sl__law_signs : Array (Option Value)} {oc__law_signs kV__law_signs dc__law_signs pm__law_signs cd__law_signs ct__law_signs : Value}
    {f__law_others : Addr} {od__law_others an__law_others : Option Addr} {sl__law_others : Array (Option Value)} {oc__law_others kV__law_others dc__law_others pm__law_others cd__law_others ct__law_others : Value}
    {f__law_odd : Addr} {od__law_odd an__law_odd : Option Addr} {sl__law_odd : Array (Option Value)} {oc__law_odd kV__law_odd dc__law_odd pm__law_odd cd__law_odd ct__law_odd : Value}
    {f__law_wrong_width : Addr} {od__law_wrong_width an__law_wrong_width : Option Addr} {sl__law_wrong_width : Array (Option Value)} {oc__law_wrong_width kV__law_wrong_width dc__law_wrong_width pm__law_wrong_width cd__law_wrong_width ct__law_wrong_width : Value}
    {f__law_wrong_sign : Addr} {od__law_wrong_sign an__law_wrong_sign : Option Addr} {sl__law_wrong_sign : Array (Option Value)} {oc__law_wrong_sign kV__law_wrong_sign dc__law_wrong_sign pm__law_wrong_sign cd__law_wrong_sign ct__law_wrong_sign : Value}
    {f__law_wrong_odd : Addr} {od__law_wrong_odd an__law_wrong_odd : Option Addr} {sl__law_wrong_odd : Array (Option Value)} {oc__law_wrong_odd kV__law_wrong_odd dc__law_wrong_odd pm__law_wrong_odd cd__law_wrong_odd ct__law_wrong_odd : Value}
    {f__law_spoilt : Addr} {od__law_spoilt an__law_spoilt : Option Addr} {sl__law_spoilt : Array (Option Value)} {oc__law_spoilt kV__law_spoilt dc__law_spoilt pm__law_spoilt cd__law_spoilt ct__law_spoilt : Value}
    {f__law_refused : Addr} {od__law_refused an__law_refused : Option Addr} {sl__law_refused : Array (Option Value)} {oc__law_refused kV__law_refused dc__law_refused pm__law_refused cd__law_refused ct__law_refused : Value}
    {f__law_told : Addr} {od__law_told an__law_told : Option Addr} {sl__law_told : Array (Option Value)} {oc__law_told kV__law_told dc__law_told pm__law_told cd__law_told ct__law_told : Value}
    {f_law : Addr} {od_law an_law : Option Addr} {sl_law : Array (Option Value)} {oc_law kV_law dc_law pm_law cd_law ct_law : Value}
    {tk_SIGNS : Tok}
    {tk_LEAST_WIDTH : Tok}
    {tk_MOST_WIDTH : Tok}
    {CS CT c1 c2 c3 c4 c5 c6 c7 c8 c9 : Addr}
    (a_is_whole : PySem.W.nsIn K mainGlobals "is_whole" = some (some (.ref f_is_whole))) (l_is_whole : K.lookup f_is_whole = some ⟨oc_is_whole, od_is_whole, .func (PySem.W.fnOf "is_whole" "is_whole" (defArgs (top 13)) (defBody (top 13)) (defScope (top 13)) .none kV_is_whole dc_is_whole pm_is_whole an_is_whole cd_is_whole ct_is_whole), sl_is_whole⟩) (c_is_whole : PySem.W.codeIn K cd_is_whole "is_whole" = true) (k_is_whole : PySem.W.keepIn K (.ref f_is_whole) = true)
    (a_is_within : PySem.W.nsIn K mainGlobals "is_within" = some (some (.ref f_is_within))) (l_is_within : K.lookup f_is_within = some ⟨oc_is_within, od_is_within, .func (PySem.W.fnOf "is_within" "is_within" (defArgs (top 14)) (defBody (top 14)) (defScope (top 14)) .none kV_is_within dc_is_within pm_is_within an_is_within cd_is_within ct_is_within), sl_is_within⟩) (c_is_within : PySem.W.codeIn K cd_is_within "is_within" = true) (k_is_within : PySem.W.keepIn K (.ref f_is_within) = true)
    (a_is_sign : PySem.W.nsIn K mainGlobals "is_sign" = some (some (.ref f_is_sign))) (l_is_sign : K.lookup f_is_sign = some ⟨oc_is_sign, od_is_sign, .func (PySem.W.fnOf "is_sign" "is_sign" (defArgs (top 19)) (defBody (top 19)) (defScope (top 19)) .none kV_is_sign dc_is_sign pm_is_sign an_is_sign cd_is_sign ct_is_sign), sl_is_sign⟩) (c_is_sign : PySem.W.codeIn K cd_is_sign "is_sign" = true) (k_is_sign : PySem.W.keepIn K (.ref f_is_sign) = true)
    (a_is_width : PySem.W.nsIn K mainGlobals "is_width" = some (some (.ref f_is_width))) (l_is_width : K.lookup f_is_width = some ⟨oc_is_width, od_is_width, .func (PySem.W.fnOf "is_width" "is_width" (defArgs (top 20)) (defBody (top 20)) (defScope (top 20)) .none kV_is_width dc_is_width pm_is_width an_is_width cd_is_width ct_is_width), sl_is_width⟩) (c_is_width : PySem.W.codeIn K cd_is_width "is_width" = true) (k_is_width : PySem.W.keepIn K (.ref f_is_width) = true)
    (a_is_odd_pair : PySem.W.nsIn K mainGlobals "is_odd_pair" = some (some (.ref f_is_odd_pair))) (l_is_odd_pair : K.lookup f_is_odd_pair = some ⟨oc_is_odd_pair, od_is_odd_pair, .func (PySem.W.fnOf "is_odd_pair" "is_odd_pair" (defArgs (top 21)) (defBody (top 21)) (defScope (top 21)) .none kV_is_odd_pair dc_is_odd_pair pm_is_odd_pair an_is_odd_pair cd_is_odd_pair ct_is_odd_pair), sl_is_odd_pair⟩) (c_is_odd_pair : PySem.W.codeIn K cd_is_odd_pair "is_odd_pair" = true) (k_is_odd_pair : PySem.W.keepIn K (.ref f_is_odd_pair) = true)
    (a_is_odd : PySem.W.nsIn K mainGlobals "is_odd" = some (some (.ref f_is_odd))) (l_is_odd : K.lookup f_is_odd = some ⟨oc_is_odd, od_is_odd, .func (PySem.W.fnOf "is_odd" "is_odd" (defArgs (top 22)) (defBody (top 22)) (defScope (top 22)) .none kV_is_odd dc_is_odd pm_is_odd an_is_odd cd_is_odd ct_is_odd), sl_is_odd⟩) (c_is_odd : PySem.W.codeIn K cd_is_odd "is_odd" = true) (k_is_odd : PySem.W.keepIn K (.ref f_is_odd) = true)
    (a_is_face : PySem.W.nsIn K mainGlobals "is_face" = some (some (.ref f_is_face))) (l_is_face : K.lookup f_is_face = some ⟨oc_is_face, od_is_face, .func (PySem.W.fnOf "is_face" "is_face" (defArgs (top 23)) (defBody (top 23)) (defScope (top 23)) .none kV_is_face dc_is_face pm_is_face an_is_face cd_is_face ct_is_face), sl_is_face⟩) (c_is_face : PySem.W.codeIn K cd_is_face "is_face" = true) (k_is_face : PySem.W.keepIn K (.ref f_is_face) = true)
    (a_need_face : PySem.W.nsIn K mainGlobals "need_face" = some (some (.ref f_need_face))) (l_need_face : K.lookup f_need_face = some ⟨oc_need_face, od_need_face, .func (PySem.W.fnOf "need_face" "need_face" (defArgs (top 24)) (defBody (top 24)) (defScope (top 24)) .none kV_need_face dc_need_face pm_need_face an_need_face cd_need_face ct_need_face), sl_need_face⟩) (c_need_face : PySem.W.codeIn K cd_need_face "need_face" = true) (k_need_face : PySem.W.keepIn K (.ref f_need_face) = true)
    (a_wide : PySem.W.nsIn K mainGlobals "wide" = some (some (.ref f_wide))) (l_wide : K.lookup f_wide = some ⟨oc_wide, od_wide, .func (PySem.W.fnOf "wide" "wide" (defArgs (top 25)) (defBody (top 25)) (defScope (top 25)) .none kV_wide dc_wide pm_wide an_wide cd_wide ct_wide), sl_wide⟩) (c_wide : PySem.W.codeIn K cd_wide "wide" = true) (k_wide : PySem.W.keepIn K (.ref f_wide) = true)
    (a__law_cell_at : PySem.W.nsIn K mainGlobals "_law_cell_at" = some (some (.ref f__law_cell_at))) (l__law_cell_at : K.lookup f__law_cell_at = some ⟨oc__law_cell_at, od__law_cell_at, .func (PySem.W.fnOf "_law_cell_at" "_law_cell_at" (defArgs (top 27)) (defBody (top 27)) (defScope (top 27)) .none kV__law_cell_at dc__law_cell_at pm__law_cell_at an__law_cell_at cd__law_cell_at ct__law_cell_at), sl__law_cell_at⟩) (c__law_cell_at : PySem.W.codeIn K cd__law_cell_at "_law_cell_at" = true) (k__law_cell_at : PySem.W.keepIn K (.ref f__law_cell_at) = true)
    (a__law_signs : PySem.W.nsIn K mainGlobals "_law_signs" = some (some (.ref f__law_signs))) (l__law_signs : K.lookup f__law_signs = some ⟨oc__law_signs, od__law_signs, .func (PySem.W.fnOf "_law_signs" "_law_signs" (defArgs (top 28)) (defBody (top 28)) (defScope (top 28)) .none kV__law_signs dc__law_signs pm__law_signs an__law_signs cd__law_signs ct__law_signs), sl__law_signs⟩) (c__law_signs : PySem.W.codeIn K cd__law_signs "_law_signs" = true) (k__law_signs : PySem.W.keepIn K (.ref f__law_signs) = true)
    (a__law_others : PySem.W.nsIn K mainGlobals "_law_others" = some (some (.ref f__law_others))) (l__law_others : K.lookup f__law_others = some ⟨oc__law_others, od__law_others, .func (PySem.W.fnOf "_law_others" "_law_others" (defArgs (top 29)) (defBody (top 29)) (defScope (top 29)) .none kV__law_others dc__law_others pm__law_others an__law_others cd__law_others ct__law_others), sl__law_others⟩) (c__law_others : PySem.W.codeIn K cd__law_others "_law_others" = true) (k__law_others : PySem.W.keepIn K (.ref f__law_others) = true)
    (a__law_odd : PySem.W.nsIn K mainGlobals "_law_odd" = some (some (.ref f__law_odd))) (l__law_odd : K.lookup f__law_odd = some ⟨oc__law_odd, od__law_odd, .func (PySem.W.fnOf "_law_odd" "_law_odd" (defArgs (top 30)) (defBody (top 30)) (defScope (top 30)) .none kV__law_odd dc__law_odd pm__law_odd an__law_odd cd__law_odd ct__law_odd), sl__law_odd⟩) (c__law_odd : PySem.W.codeIn K cd__law_odd "_law_odd" = true) (k__law_odd : PySem.W.keepIn K (.ref f__law_odd) = true)
    (a__law_wrong_width : PySem.W.nsIn K mainGlobals "_law_wrong_width" = some (some (.ref f__law_wrong_width))) (l__law_wrong_width : K.lookup f__law_wrong_width = some ⟨oc__law_wrong_width, od__law_wrong_width, .func (PySem.W.fnOf "_law_wrong_width" "_law_wrong_width" (defArgs (top 31)) (defBody (top 31)) (defScope (top 31)) .none kV__law_wrong_width dc__law_wrong_width pm__law_wrong_width an__law_wrong_width cd__law_wrong_width ct__law_wrong_width), sl__law_wrong_width⟩) (c__law_wrong_width : PySem.W.codeIn K cd__law_wrong_width "_law_wrong_width" = true) (k__law_wrong_width : PySem.W.keepIn K (.ref f__law_wrong_width) = true)
    (a__law_wrong_sign : PySem.W.nsIn K mainGlobals "_law_wrong_sign" = some (some (.ref f__law_wrong_sign))) (l__law_wrong_sign : K.lookup f__law_wrong_sign = some ⟨oc__law_wrong_sign, od__law_wrong_sign, .func (PySem.W.fnOf "_law_wrong_sign" "_law_wrong_sign" (defArgs (top 32)) (defBody (top 32)) (defScope (top 32)) .none kV__law_wrong_sign dc__law_wrong_sign pm__law_wrong_sign an__law_wrong_sign cd__law_wrong_sign ct__law_wrong_sign), sl__law_wrong_sign⟩) (c__law_wrong_sign : PySem.W.codeIn K cd__law_wrong_sign "_law_wrong_sign" = true) (k__law_wrong_sign : PySem.W.keepIn K (.ref f__law_wrong_sign) = true)
    (a__law_wrong_odd : PySem.W.nsIn K mainGlobals "_law_wrong_odd" = some (some (.ref f__law_wrong_odd))) (l__law_wrong_odd : K.lookup f__law_wrong_odd = some ⟨oc__law_wrong_odd, od__law_wrong_odd, .func (PySem.W.fnOf "_law_wrong_odd" "_law_wrong_odd" (defArgs (top 33)) (defBody (top 33)) (defScope (top 33)) .none kV__law_wrong_odd dc__law_wrong_odd pm__law_wrong_odd an__law_wrong_odd cd__law_wrong_odd ct__law_wrong_odd), sl__law_wrong_odd⟩) (c__law_wrong_odd : PySem.W.codeIn K cd__law_wrong_odd "_law_wrong_odd" = true) (k__law_wrong_odd : PySem.W.keepIn K (.ref f__law_wrong_odd) = true)
    (a__law_spoilt : PySem.W.nsIn K mainGlobals "_law_spoilt" = some (some (.ref f__law_spoilt))) (l__law_spoilt : K.lookup f__law_spoilt = some ⟨oc__law_spoilt, od__law_spoilt, .func (PySem.W.fnOf "_law_spoilt" "_law_spoilt" (defArgs (top 34)) (defBody (top 34)) (defScope (top 34)) .none kV__law_spoilt dc__law_spoilt pm__law_spoilt an__law_spoilt cd__law_spoilt ct__law_spoilt), sl__law_spoilt⟩) (c__law_spoilt : PySem.W.codeIn K cd__law_spoilt "_law_spoilt" = true) (k__law_spoilt : PySem.W.keepIn K (.ref f__law_spoilt) = true)
    (a__law_refused : PySem.W.nsIn K mainGlobals "_law_refused" = some (some (.ref f__law_refused))) (l__law_refused : K.lookup f__law_refused = some ⟨oc__law_refused, od__law_refused, .func (PySem.W.fnOf "_law_refused" "_law_refused" (defArgs (top 35)) (defBody (top 35)) (defScope (top 35)) .none kV__law_refused dc__law_refused pm__law_refused an__law_refused cd__law_refused ct__law_refused), sl__law_refused⟩) (c__law_refused : PySem.W.codeIn K cd__law_refused "_law_refused" = true) (k__law_refused : PySem.W.keepIn K (.ref f__law_refused) = true)
    (a__law_told : PySem.W.nsIn K mainGlobals "_law_told" = some (some (.ref f__law_told))) (l__law_told : K.lookup f__law_told = some ⟨oc__law_told, od__law_told, .func (PySem.W.fnOf "_law_told" "_law_told" (defArgs (top 36)) (defBody (top 36)) (defScope (top 36)) .none kV__law_told dc__law_told pm__law_told an__law_told cd__law_told ct__law_told), sl__law_told⟩) (c__law_told : PySem.W.codeIn K cd__law_told "_law_told" = true) (k__law_told : PySem.W.keepIn K (.ref f__law_told) = true)
    (a_law : PySem.W.nsIn K mainGlobals "law" = some (some (.ref f_law))) (l_law : K.lookup f_law = some ⟨oc_law, od_law, .func (PySem.W.fnOf "law" "law" (defArgs (top 37)) (defBody (top 37)) (defScope (top 37)) .none kV_law dc_law pm_law an_law cd_law ct_law), sl_law⟩) (c_law : PySem.W.codeIn K cd_law "law" = true) (k_law : PySem.W.keepIn K (.ref f_law) = true)
    (z_isinstance : PySem.W.nsIn K mainGlobals "isinstance" = some none)
    (z_int : PySem.W.nsIn K mainGlobals "int" = some none)
    (z_bool : PySem.W.nsIn K mainGlobals "bool" = some none)
    (z_str : PySem.W.nsIn K mainGlobals "str" = some none)
    (z_dict : PySem.W.nsIn K mainGlobals "dict" = some none)
    (z_list : PySem.W.nsIn K mainGlobals "list" = some none)
    (z_tuple : PySem.W.nsIn K mainGlobals "tuple" = some none)
    (z_len : PySem.W.nsIn K mainGlobals "len" = some none)
    (z_sum : PySem.W.nsIn K mainGlobals "sum" = some none)
    (z_max : PySem.W.nsIn K mainGlobals "max" = some none)
    (z_min : PySem.W.nsIn K mainGlobals "min" = some none)
    (z_all : PySem.W.nsIn K mainGlobals "all" = some none)
    (z_range : PySem.W.nsIn K mainGlobals "range" = some none)
    (z_enumerate : PySem.W.nsIn K mainGlobals "enumerate" = some none)
    (z_zip : PySem.W.nsIn K mainGlobals "zip" = some none)
    (gv_SIGNS : PySem.W.nsIn K mainGlobals "SIGNS" = some (some (.str "abcdefghijklmnopqrstuvwxyzABCDEFGHIJKLMNOPQRSTUVWXYZ0123456789.,;:!?'\"()-/" tk_SIGNS)))
    (gv_LEAST_WIDTH : PySem.W.nsIn K mainGlobals "LEAST_WIDTH" = some (some (.int 1 tk_LEAST_WIDTH)))
    (gv_MOST_WIDTH : PySem.W.nsIn K mainGlobals "MOST_WIDTH" = some (some (.int 20 tk_MOST_WIDTH)))
    (y_S : PySem.W.nsIn K mainGlobals "SetError" = some (some (.ref CS)))
    (y_T : PySem.W.nsIn K mainGlobals "BadFace" = some (some (.ref CT)))
    (y_X : PySem.W.excIn K CT [.type "ValueError", .type "Exception", .type "BaseException", .type "object"] "ValueError.__new__" = true)
    (y_V : PySem.W.nsIn K mainGlobals "ValueError" = some none)
    (y_ga : PySem.W.findIn K (.ref CT) "__getattribute__" = some (some (.builtin "BaseException.__getattribute__")))
    (y_gt : PySem.W.findIn K (.ref CT) "__getattr__" = some none)
    (y_cl : PySem.W.findIn K (.ref CT) "__class__" = some (some (.builtin "object.__class__")))
    (y_sp : PySem.W.specialIn K (.builtin "object.__class__") "__get__" = some (some (.builtin "getset_descriptor.__get__")))
    (y_tk : PySem.W.takesIn K (.builtin "object.__class__") = some true)
    (y_mo : PySem.W.mroIn K CT (.type "object") = some true)
    (y_mb : PySem.W.mroIn K CT (.type "BaseException") = some true)
    (y_kV : PySem.W.kitOne K (.ref CT) (.type "ValueError") = some true)
    (y_xS : PySem.W.exmOne K (.ref CT) (.ref CS) = some true)
    (y_m1 : PySem.W.nsIn K mainGlobals "BadBlocks" = some (some (.ref c1)))
    (y_k1 : PySem.W.kitOne K (.ref CT) (.ref c1) = some false)
    (y_m2 : PySem.W.nsIn K mainGlobals "BadBook" = some (some (.ref c2)))
    (y_k2 : PySem.W.kitOne K (.ref CT) (.ref c2) = some false)
    (y_m3 : PySem.W.nsIn K mainGlobals "BadBreaks" = some (some (.ref c3)))
    (y_k3 : PySem.W.kitOne K (.ref CT) (.ref c3) = some false)
    (y_m4 : PySem.W.nsIn K mainGlobals "BadRules" = some (some (.ref c4)))
    (y_k4 : PySem.W.kitOne K (.ref CT) (.ref c4) = some false)
    (y_m5 : PySem.W.nsIn K mainGlobals "BadText" = some (some (.ref c5)))
    (y_k5 : PySem.W.kitOne K (.ref CT) (.ref c5) = some false)
    (y_m6 : PySem.W.nsIn K mainGlobals "BadWord" = some (some (.ref c6)))
    (y_k6 : PySem.W.kitOne K (.ref CT) (.ref c6) = some false)
    (y_m7 : PySem.W.nsIn K mainGlobals "NoNote" = some (some (.ref c7)))
    (y_k7 : PySem.W.kitOne K (.ref CT) (.ref c7) = some false)
    (y_m8 : PySem.W.nsIn K mainGlobals "NoPlace" = some (some (.ref c8)))
    (y_k8 : PySem.W.kitOne K (.ref CT) (.ref c8) = some false)
    (y_m9 : PySem.W.nsIn K mainGlobals "TooWide" = some (some (.ref c9)))
    (y_k9 : PySem.W.kitOne K (.ref CT) (.ref c9) = some false)
    (y_so : PySem.W.nsIn K mainGlobals "sorted" = some none) :
    ∃ fd : FuncData, (∀ (s : Shared) (v : Value), BindsTo s fd ⟨[v], []⟩ [("_law_script", v)]) /\ ∀ base : Heap, K.In base -> base.Ns mainGlobals mg -> FnOk P w K mg base (cxx P w) 9 fa fd ["_law_script"] (spM K F_law 1) := by
  have e := hfa.symm.trans (PySem.W.mg_of X G a_law)
  cases e
  have B : Bl mg := ⟨PySem.W.mg_none_of X G z_isinstance, PySem.W.mg_none_of X G z_int, PySem.W.mg_none_of X G z_bool, PySem.W.mg_none_of X G z_str, PySem.W.mg_none_of X G z_dict, PySem.W.mg_none_of X G z_list, PySem.W.mg_none_of X G z_tuple, PySem.W.mg_none_of X G z_len, PySem.W.mg_none_of X G z_sum, PySem.W.mg_none_of X G z_max, PySem.W.mg_none_of X G z_min, PySem.W.mg_none_of X G z_all, PySem.W.mg_none_of X G z_range, PySem.W.mg_none_of X G z_enumerate, PySem.W.mg_none_of X G z_zip⟩
  have Gv : Gl0 K mg := ⟨⟨_, PySem.W.mg_of X G gv_SIGNS⟩, ⟨_, PySem.W.mg_of X G gv_LEAST_WIDTH⟩, ⟨_, PySem.W.mg_of X G gv_MOST_WIDTH⟩⟩
  have Cl : Cls K mg := ⟨⟨CT, y_T, y_X⟩, PySem.W.mg_none_of X G y_V, PySem.W.mg_none_of X G y_so, CS, CT, c1, c2, c3, c4, c5, c6, c7, c8, c9, PySem.W.mg_of X G y_S, ⟨y_T, y_X⟩, ⟨y_ga, y_gt, y_cl, y_sp, y_tk, y_mo, y_mb, it_of y_X⟩, PySem.W.mg_of X G y_T, y_kV, y_xS, ⟨PySem.W.mg_of X G y_m1, y_k1⟩, ⟨PySem.W.mg_of X G y_m2, y_k2⟩, ⟨PySem.W.mg_of X G y_m3, y_k3⟩, ⟨PySem.W.mg_of X G y_m4, y_k4⟩, ⟨PySem.W.mg_of X G y_m5, y_k5⟩, ⟨PySem.W.mg_of X G y_m6, y_k6⟩, ⟨PySem.W.mg_of X G y_m7, y_k7⟩, ⟨PySem.W.mg_of X G y_m8, y_k8⟩, ⟨PySem.W.mg_of X G y_m9, y_k9⟩⟩
  refine ⟨PySem.W.fnOf "law" "law" (defArgs (top 37)) (defBody (top 37)) (defScope (top 37)) .none kV_law dc_law pm_law an_law cd_law ct_law, fun s v => .of_eq rfl, fun base _ _ => ?_⟩
  have D_is_whole : DefIn K mg "is_whole" (top 13) ["thing"] := defIn_mk X G (fun _ _ _ _ _ _ => bd1 fun _ => rfl) a_is_whole l_is_whole c_is_whole k_is_whole
  have O_is_whole := ok_is_whole (P := P) (w := w) (base := base) D_is_whole B Gv Cl 
  have D_is_within : DefIn K mg "is_within" (top 14) ["thing", "least", "most"] := defIn_mk X G (fun _ _ _ _ _ _ => bd3 fun _ _ _ => rfl) a_is_within l_is_within c_is_within k_is_within
  have O_is_within := ok_is_within (P := P) (w := w) (base := base) D_is_within B Gv Cl O_is_whole
  have D_is_sign : DefIn K mg "is_sign" (top 19) ["thing"] := defIn_mk X G (fun _ _ _ _ _ _ => bd1 fun _ => rfl) a_is_sign l_is_sign c_is_sign k_is_sign
  have O_is_sign := ok_is_sign (P := P) (w := w) (base := base) D_is_sign B Gv Cl 
  have D_is_width : DefIn K mg "is_width" (top 20) ["thing"] := defIn_mk X G (fun _ _ _ _ _ _ => bd1 fun _ => rfl) a_is_width l_is_width c_is_width k_is_width
  have O_is_width := ok_is_width (P := P) (w := w) (base := base) D_is_width B Gv Cl O_is_within
  have D_is_odd_pair : DefIn K mg "is_odd_pair" (top 21) ["thing"] := defIn_mk X G (fun _ _ _ _ _ _ => bd1 fun _ => rfl) a_is_odd_pair l_is_odd_pair c_is_odd_pair k_is_odd_pair
  have O_is_odd_pair := ok_is_odd_pair (P := P) (w := w) (base := base) D_is_odd_pair B Gv Cl O_is_sign O_is_width
  have D_is_odd : DefIn K mg "is_odd" (top 22) ["thing"] := defIn_mk X G (fun _ _ _ _ _ _ => bd1 fun _ => rfl) a_is_odd l_is_odd c_is_odd k_is_odd
  have O_is_odd := ok_is_odd (P := P) (w := w) (base := base) D_is_odd B Gv Cl O_is_odd_pair
  have D_is_face : DefIn K mg "is_face" (top 23) ["thing"] := defIn_mk X G (fun _ _ _ _ _ _ => bd1 fun _ => rfl) a_is_face l_is_face c_is_face k_is_face
  have O_is_face := ok_is_face (P := P) (w := w) (base := base) D_is_face B Gv Cl O_is_width O_is_odd
  have D_need_face : DefIn K mg "need_face" (top 24) ["face"] := defIn_mk X G (fun _ _ _ _ _ _ => bd1 fun _ => rfl) a_need_face l_need_face c_need_face k_need_face
  have O_need_face := ok_need_face (P := P) (w := w) (base := base) D_need_face B Gv Cl O_is_face
  have D_wide : DefIn K mg "wide" (top 25) ["face", "line"] := defIn_mk X G (fun _ _ _ _ _ _ => bd2 fun _ _ => rfl) a_wide l_wide c_wide k_wide
  have O_wide := ok_wide (P := P) (w := w) (base := base) D_wide B Gv Cl 
  have D__law_cell_at : DefIn K mg "_law_cell_at" (top 27) ["_law_script", "_law_k"] := defIn_mk X G (fun _ _ _ _ _ _ => bd2 fun _ _ => rfl) a__law_cell_at l__law_cell_at c__law_cell_at k__law_cell_at
  have O__law_cell_at := ok__law_cell_at (P := P) (w := w) (base := base) D__law_cell_at B Gv Cl 
  have D__law_signs : DefIn K mg "_law_signs" (top 28) [] := defIn_mk X G (fun _ _ _ _ _ _ => fun us hl => by cases len0 hl; rfl) a__law_signs l__law_signs c__law_signs k__law_signs
  have O__law_signs := ok__law_signs (P := P) (w := w) (base := base) D__law_signs B Gv Cl 
  have D__law_others : DefIn K mg "_law_others" (top 29) [] := defIn_mk X G (fun _ _ _ _ _ _ => fun us hl => by cases len0 hl; rfl) a__law_others l__law_others c__law_others k__law_others
  have O__law_others := ok__law_others (P := P) (w := w) (base := base) D__law_others B Gv Cl 
  have D__law_odd : DefIn K mg "_law_odd" (top 30) ["_law_script"] := defIn_mk X G (fun _ _ _ _ _ _ => bd1 fun _ => rfl) a__law_odd l__law_odd c__law_odd k__law_odd
  have O__law_odd := ok__law_odd (P := P) (w := w) (base := base) D__law_odd B Gv Cl O__law_signs O__law_cell_at
  have D__law_wrong_width : DefIn K mg "_law_wrong_width" (top 31) ["_law_cell"] := defIn_mk X G (fun _ _ _ _ _ _ => bd1 fun _ => rfl) a__law_wrong_width l__law_wrong_width c__law_wrong_width k__law_wrong_width
  have O__law_wrong_width := ok__law_wrong_width (P := P) (w := w) (base := base) D__law_wrong_width B Gv Cl 
  have D__law_wrong_sign : DefIn K mg "_law_wrong_sign" (top 32) ["_law_cell"] := defIn_mk X G (fun _ _ _ _ _ _ => bd1 fun _ => rfl) a__law_wrong_sign l__law_wrong_sign c__law_wrong_sign k__law_wrong_sign
  have O__law_wrong_sign := ok__law_wrong_sign (P := P) (w := w) (base := base) D__law_wrong_sign B Gv Cl O__law_others
  have D__law_wrong_odd : DefIn K mg "_law_wrong_odd" (top 33) ["_law_odd_here", "_law_cell"] := defIn_mk X G (fun _ _ _ _ _ _ => bd2 fun _ _ => rfl) a__law_wrong_odd l__law_wrong_odd c__law_wrong_odd k__law_wrong_odd
  have O__law_wrong_odd := ok__law_wrong_odd (P := P) (w := w) (base := base) D__law_wrong_odd B Gv Cl O__law_wrong_sign O__law_wrong_width
  have D__law_spoilt : DefIn K mg "_law_spoilt" (top 34) ["_law_face", "_law_cell"] := defIn_mk X G (fun _ _ _ _ _ _ => bd2 fun _ _ => rfl) a__law_spoilt l__law_spoilt c__law_spoilt k__law_spoilt
  have O__law_spoilt := ok__law_spoilt (P := P) (w := w) (base := base) D__law_spoilt B Gv Cl O__law_wrong_width O__law_wrong_odd
  have D__law_refused : DefIn K mg "_law_refused" (top 35) ["_law_face"] := defIn_mk X G (fun _ _ _ _ _ _ => bd1 fun _ => rfl) a__law_refused l__law_refused c__law_refused k__law_refused
  have O__law_refused := ok__law_refused (P := P) (w := w) (base := base) D__law_refused B Gv Cl O_need_face
  have D__law_told : DefIn K mg "_law_told" (top 36) ["_law_thing", "_law_due"] := defIn_mk X G (fun _ _ _ _ _ _ => bd2 fun _ _ => rfl) a__law_told l__law_told c__law_told k__law_told
  have O__law_told := ok__law_told (P := P) (w := w) (base := base) D__law_told B Gv Cl O_is_sign
  exact mir_fn l_law c_law sc_law (by decide) (body_law B Gv Cl O__law_signs O__law_cell_at O_wide O__law_odd O__law_told O__law_refused O_need_face O__law_spoilt O__law_others)
end
end K01

set_option maxRecDepth 100000
set_option maxHeartbeats 4000000
namespace K01
open PySem PyProof.Rows L2
noncomputable def WW1 : Tn -> R Fl := (sSet 1 (eBin modD (eBin fdivD (eVar 0) (eC (.int 8))) (eBin powD (eC (.int 10)) (eC (.int 20)))))
noncomputable def WW2 : Tn -> R Fl := (sRet (eBin ixD (eL (fun ds => .ok (.lst ds)) (aCons (eC (.int 0)) (aCons (eC (.int 21)) (aCons (eBin addD (eC (.int 21)) (eVar 1)) (aCons (eBin subD (eUn negD (eC (.int 1))) (eVar 1)) (aCons (eC (.bl true)) (aCons (eC (.bl false)) (aCons (eC (.str "5")) (aCons (eC .non) aNil))))))))) (eBin modD (eVar 0) (eC (.int 8)))))
theorem tWW : F__law_wrong_width = runB 2 (sSeq WW1 WW2) := rfl
noncomputable def S (l : List Nat) : Str := ⟨l.toArray⟩
theorem S_len (l : List Nat) : (S l).length = l.length := List.size_toArray
theorem S_cps (l : List Nat) : (S l).cps.toList = l := List.toList_toArray
theorem str_S (z : Str) : z = S z.cps.toList := by
  obtain ⟨a⟩ := z
  show (⟨a⟩ : Str) = ⟨a.toList.toArray⟩
  rw [Array.toArray_toList]
theorem S_app (a b : List Nat) : S a ++ S b = S (a ++ b) := by
  rw [str_S (S a ++ S b), app_cps, S_cps, S_cps]
theorem S_inj {a b : List Nat} (h : S a = S b) : a = b := by
  have := congrArg (fun z : Str => z.cps.toList) h
  rw [S_cps, S_cps] at this
  exact this
theorem S_eq (a b : List Nat) : (S a == S b) = decide (a = b) := by
  by_cases h : a = b
  · subst h; simp
  · rw [decide_eq_false h]
    exact beq_false_of_ne fun z => h (S_inj z)
theorem join_cons (x : Str) : ∀ ys : List Str, Str.join "" (x :: ys) = x ++ Str.join "" ys
  | [] => (Str.append_empty x).symm
  | y :: ys => by
    show x ++ "" ++ Str.join "" (y :: ys) = x ++ Str.join "" (y :: ys)
    have : (x ++ ("" : Str)) = x := Str.append_empty x
    rw [this]
noncomputable def one (c : Nat) : Str := S [c]
theorem join_one : ∀ cs : List Nat, Str.join "" (cs.map one) = S cs
  | [] => rfl
  | c :: cs => by
    rw [List.map_cons, join_cons, join_one cs]
    exact S_app [c] cs
theorem sum_one (cs : List Nat) : ((cs.map one).map (·.length)).sum = cs.length := by
  induction cs with
  | nil => rfl
  | cons c cs ih => rw [List.map_cons, List.map_cons, List.sum_cons, ih, List.length_cons]; show 1 + _ = _; lia
theorem join_ok (cs : List Nat) (h : cs.length <= 1000) : joinD "" [.lst (cs.map fun c => D.str (one c))] = .ok (.str (S cs)) := by
  have e : (cs.map fun c => D.str (one c)) = (cs.map one).map D.str := by rw [List.map_map]; rfl
  have e0 : Str.length "" = 0 := by decide
  rw [e, ev_joinD (by rw [sum_one, e0, List.length_map]; lia), join_one]
theorem ix_at {cs : List Nat} {i : Int} {c : Nat} (hl : cs.length <= 1000) (h0 : 0 <= i) (h : cs[i.toNat]? = some c) : ixD (.str (S cs)) (.int i) = .ok (.str (one c)) :=
  ev_ixs (by rw [S_len, sizeLine_eq]; lia) (atI_ok h0 (by rw [S_cps]; exact h))
theorem pickS {z : Str} {i : Int} {p : Nat -> Prop} (hz : z.length <= 1000) (h0 : 0 <= i) (h1 : i < z.length) (hp : ∀ c ∈ z.cps.toList, p c) : ∃ c, ixD (.str z) (.int i) = .ok (.str (one c)) /\ p c := by
  have hl : z.cps.toList.length = z.length := by simp [Str.length]
  have hi : i.toNat < z.cps.toList.length := by lia
  refine ⟨z.cps.toList[i.toNat], ?_, hp _ (List.getElem_mem hi)⟩
  have := ix_at (cs := z.cps.toList) (i := i) (by lia) h0 (List.getElem?_eq_getElem hi)
  rw [<- str_S z] at this
  exact this
noncomputable def enc1 (c : Nat) : D := .str (one c)
noncomputable abbrev Z2 : Str := "abcdefghijklmnopqrstuvwxyzABCDEFGHIJKLMNOPQRSTUVWXYZ0123456789.,;:!?'\"()-/"
noncomputable def okS (c : Nat) : Prop := c ∈ Z2.cps.toList
theorem z2_len : Z2.length = 74 := by decide +kernel
theorem okS.lt {c : Nat} (h : okS c) : c < 128 := by
  have : ∀ c ∈ Z2.cps.toList, c < 128 := by decide +kernel
  exact this c h
theorem z2_lt : ∀ c ∈ Z2.cps.toList, okS c := fun _ h => h
theorem inS_one (c : Nat) (z : Str) : inS (one c) z = decide (c ∈ z.cps.toList) := StrLaws.found_one z c
theorem len_S (l : List Nat) (h : l.length <= 1000) : lenD [.str (S l)] = .ok (.int (l.length : Nat)) := by rw [ev_lens (by rw [S_len, sizeLine_eq]; lia), S_len]
theorem is_sign_g (A : Str) (c : Nat) : runB 1 (sRet (eAnd (eUn (isiD "str") (eVar 0)) (eAnd (eBin (eqR false) (eL lenD (aCons (eVar 0) aNil)) (eC (.int 1))) (eBin inSD (eVar 0) (eC (.str A)))))) [.str (one c)] = .ok (.bl (decide (c ∈ A.cps.toList))) := by
  have h1 : isiD "str" (.str (one c)) = .ok (.bl true) := rfl
  have h2 := len_S [c] (by simp)
  have h2 : lenD [.str (one c)] = .ok (.int 1) := h2
  have h3 : inSD (.str (one c)) (.str A) = .ok (.bl (decide (c ∈ A.cps.toList))) := by
    show R.ok (D.bl (inS (one c) A)) = _
    rw [inS_one]
  have h4 : eqR false (.int 1) (.int 1) = .ok (.bl true) := by rw [ev_eqi]; rfl
  generalize one c = z at *
  generalize decide (c ∈ A.cps.toList) = b at *
  simp only [runB, sRet, eVar, eC, eBin, eUn, eL, aNil, aCons, eAnd, asB, R.ok_bind, List.map_cons, List.map_nil, List.length_cons, List.length_nil, List.replicate_zero, List.cons_append, List.nil_append, List.getElem?_cons_zero, Nat.reduceSub, Nat.zero_add, if_true, h1, h2, h3, h4]
noncomputable instance (c : Nat) : Decidable (okS c) := by unfold okS; infer_instance
theorem is_sign (c : Nat) : F_is_sign [.str (one c)] = .ok (.bl (decide (okS c))) := is_sign_g Z2 c
theorem signs_S (cs : List Nat) : L2.signs (S cs) = cs.map enc1 := by
  unfold L2.signs
  rw [S_cps]
  rfl
theorem ev_nei (x y : Int) : eqR true (.int x) (.int y) = .ok (.bl (!(x == y))) := rfl
theorem cell (ns : List Int) (k : Int) (hk : 0 <= k) : ∃ v, F__law_cell_at [.frl (ns.map .int), .int k] = .ok (.int v) := by
  by_cases h : k < (ns.length : Int)
  · have hm : k.toNat < ns.length := by omega
    have hix : ixD (.frl (ns.map .int)) (.int k) = .ok (.int ns[k.toNat]) := ev_ixf (atI_ok hk (by rw [List.getElem?_map, List.getElem?_eq_getElem hm]; rfl))
    have e1 : decide (k < (ns.length : Int)) = true := decide_eq_true h
    refine ⟨ns[k.toNat], ?_⟩
    generalize ns[k.toNat] = v at *
    simp only [F__law_cell_at, t__law_cell_at, ev_eImm, ev_immI, sSkip, runB, sSeq, sRet, sIf, eVar, eC, eBin, eL, aNil, aCons, eTest, asB, R.ok_bind, List.map_cons, List.map_nil, List.length_cons, List.length_nil, List.replicate_zero, List.cons_append, List.nil_append, List.getElem?_cons_zero, List.getElem?_cons_succ, Nat.reduceAdd, Nat.reduceSub, Nat.zero_add, ev_lt, ev_lenf, if_true, List.length_map, e1, hix]
  · have e1 : decide (k < (ns.length : Int)) = false := decide_eq_false h
    refine ⟨0, ?_⟩
    simp only [F__law_cell_at, t__law_cell_at, ev_eImm, sSkip, runB, sSeq, sRet, sIf, eVar, eC, eBin, eL, aNil, aCons, eTest, asB, R.ok_bind, List.map_cons, List.map_nil, List.length_cons, List.length_nil, List.replicate_zero, List.cons_append, List.nil_append, List.getElem?_cons_zero, List.getElem?_cons_succ, Nat.reduceAdd, Nat.reduceSub, Nat.zero_add, ev_lt, ev_lenf, if_false, Bool.false_eq_true, List.length_map, e1]
theorem width_int (n : Int) : F_is_width [.int n] = .ok (.bl (decide (1 <= n) && decide (n <= 20))) := by
  have i1 : isiD "int" (.int n) = .ok (.bl true) := rfl
  have i2 : isiD "bool" (.int n) = .ok (.bl false) := rfl
  cases h1 : decide (1 <= n) with
  | true => simp only [F_is_width, t_is_width, F_is_within, t_is_within, F_is_whole, t_is_whole, runB, sRet, eVar, eC, eUn, eL, aNil, aCons, eAnd, eNot, eChain, asB, R.ok_bind, List.map_cons, List.map_nil, List.length_cons, List.length_nil, List.replicate_zero, List.cons_append, List.nil_append, List.getElem?_cons_zero, List.getElem?_cons_succ, Nat.reduceAdd, Nat.reduceSub, Nat.zero_add, ev_le, if_true, i1, i2, h1, Bool.not_false, Bool.true_and]
  | false => simp only [F_is_width, t_is_width, F_is_within, t_is_within, F_is_whole, t_is_whole, runB, sRet, eVar, eC, eUn, eL, aNil, aCons, eAnd, eNot, eChain, asB, R.ok_bind, List.map_cons, List.map_nil, List.length_cons, List.length_nil, List.replicate_zero, List.cons_append, List.nil_append, List.getElem?_cons_zero, List.getElem?_cons_succ, Nat.reduceAdd, Nat.reduceSub, Nat.zero_add, ev_le, if_true, if_false, Bool.false_eq_true, i1, i2, h1, Bool.not_false, Bool.false_and]
theorem width_ok (n : Int) (h1 : 1 <= n) (h2 : n <= 20) : F_is_width [.int n] = .ok (.bl true) := by rw [width_int, decide_eq_true h1, decide_eq_true h2]; rfl
theorem width_bad (n : Int) (h : n < 1 \/ 20 < n) : F_is_width [.int n] = .ok (.bl false) := by
  rw [width_int]
  rcases h with h | h
  · rw [decide_eq_false (show ¬ 1 <= n by lia), Bool.false_and]
  · rw [decide_eq_false (show ¬ n <= 20 by lia), Bool.and_false]
theorem width_bl (b : Bool) : F_is_width [.bl b] = .ok (.bl false) := by
  have i1 : isiD "int" (.bl b) = .ok (.bl true) := rfl
  have i2 : isiD "bool" (.bl b) = .ok (.bl true) := rfl
  simp only [F_is_width, t_is_width, F_is_within, t_is_within, F_is_whole, t_is_whole, runB, sRet, eVar, eC, eUn, eL, aNil, aCons, eAnd, eNot, eChain, asB, R.ok_bind, List.map_cons, List.map_nil, List.length_cons, List.length_nil, List.replicate_zero, List.cons_append, List.nil_append, List.getElem?_cons_zero, List.getElem?_cons_succ, Nat.reduceAdd, Nat.reduceSub, Nat.zero_add, if_true, if_false, Bool.false_eq_true, i1, i2, Bool.not_true]
theorem width_no (d : D) (h : isiD "int" d = .ok (.bl false)) : F_is_width [d] = .ok (.bl false) := by
  simp only [F_is_width, t_is_width, F_is_within, t_is_within, F_is_whole, t_is_whole, runB, sRet, eVar, eC, eUn, eL, aNil, aCons, eAnd, eNot, eChain, asB, R.ok_bind, List.map_cons, List.map_nil, List.length_cons, List.length_nil, List.replicate_zero, List.cons_append, List.nil_append, List.getElem?_cons_zero, List.getElem?_cons_succ, Nat.reduceAdd, Nat.reduceSub, Nat.zero_add, if_false, Bool.false_eq_true, h]
theorem wrong_width (n : Int) : ∃ d, F__law_wrong_width [.int n] = .ok d /\ F_is_width [d] = .ok (.bl false) := by
  have d8 : fdivD (.int n) (.int 8) = .ok (.int (n / 8)) := ev_fdiv (by decide) (by decide)
  have m8 : modD (.int n) (.int 8) = .ok (.int (n % 8)) := ev_mod (by decide)
  have pw : powD (.int 10) (.int 20) = .ok (.int 100000000000000000000) := rfl
  have mp : modD (.int (n / 8)) (.int 100000000000000000000) = .ok (.int (n / 8 % 100000000000000000000)) := ev_mod (by decide)
  have f0 : 0 <= n / 8 % 100000000000000000000 := Int.emod_nonneg _ (by decide)
  generalize n / 8 % 100000000000000000000 = f at *
  have e1 : WW1 [some (.int n), none] = .ok (.nx [some (.int n), some (.int f)]) := by
    simp only [WW1, sSet, eVar, eC, eBin, R.ok_bind, List.getElem?_cons_zero, List.set_cons_zero, List.set_cons_succ, d8, pw, mp]
  have hi : (n % 8).toNat < [D.int 0, .int 21, .int (21 + f), .int (-1 - f), .bl true, .bl false, .str "5", .non].length := by show _ < 8; omega
  have hx : ixD (.lst [D.int 0, .int 21, .int (21 + f), .int (-1 - f), .bl true, .bl false, .str "5", .non]) (.int (n % 8)) = .ok ([D.int 0, .int 21, .int (21 + f), .int (-1 - f), .bl true, .bl false, .str "5", .non][(n % 8).toNat]) := ev_ixl (atI_ok (by omega) (List.getElem?_eq_getElem hi))
  have hw : ∀ d ∈ [D.int 0, .int 21, .int (21 + f), .int (-1 - f), .bl true, .bl false, .str "5", .non], F_is_width [d] = .ok (.bl false) := by
    intro d hd
    simp only [List.mem_cons, List.not_mem_nil, or_false] at hd
    rcases hd with rfl | rfl | rfl | rfl | rfl | rfl | rfl | rfl
    · exact width_bad _ (by omega)
    · exact width_bad _ (by omega)
    · exact width_bad _ (by omega)
    · exact width_bad _ (by omega)
    · exact width_bl _
    · exact width_bl _
    · exact width_no _ rfl
    · exact width_no _ rfl
  have hw := hw _ (List.getElem_mem hi)
  refine ⟨_, ?_, hw⟩
  clear hw
  have ng : negD (.int 1) = .ok (.int (-1)) := rfl
  rw [tWW]
  generalize [D.int 0, .int 21, .int (21 + f), .int (-1 - f), .bl true, .bl false, .str "5", .non][(n % 8).toNat] = d at *
  generalize n % 8 = k at *
  simp only [WW2, runB, sSeq, sRet, eVar, eC, eBin, eUn, eL, aNil, aCons, R.ok_bind, List.map_cons, List.map_nil, List.length_cons, List.length_nil, List.replicate_succ, List.replicate_zero, List.cons_append, List.nil_append, List.getElem?_cons_zero, List.getElem?_cons_succ, Nat.reduceSub, Nat.zero_add, ev_add, ev_sub, Int.reduceNeg, e1, m8, ng, hx]
theorem sign_no (d : D) (h : isiD "str" d = .ok (.bl false)) : F_is_sign [d] = .ok (.bl false) := by
  simp only [F_is_sign, t_is_sign, runB, sRet, eVar, eC, eBin, eUn, eL, aNil, aCons, eAnd, asB, R.ok_bind, List.map_cons, List.map_nil, List.length_cons, List.length_nil, List.replicate_zero, List.cons_append, List.nil_append, List.getElem?_cons_zero, Nat.reduceSub, Nat.zero_add, if_false, Bool.false_eq_true, h]
theorem sign_len_g (A : Str) (cs : List Nat) (h : cs.length ≠ 1) (hl : cs.length <= 1000) : runB 1 (sRet (eAnd (eUn (isiD "str") (eVar 0)) (eAnd (eBin (eqR false) (eL lenD (aCons (eVar 0) aNil)) (eC (.int 1))) (eBin inSD (eVar 0) (eC (.str A)))))) [.str (S cs)] = .ok (.bl false) := by
  have i1 : isiD "str" (.str (S cs)) = .ok (.bl true) := rfl
  have h2 := len_S cs hl
  have e1 : eqR false (.int (cs.length : Nat)) (.int 1) = .ok (.bl false) := by rw [ev_eqi, beq_false_of_ne (by lia)]; rfl
  generalize ((cs.length : Nat) : Int) = l at *
  generalize S cs = W at *
  simp only [runB, sRet, eVar, eC, eBin, eUn, eL, aNil, aCons, eAnd, asB, R.ok_bind, List.map_cons, List.map_nil, List.length_cons, List.length_nil, List.replicate_zero, List.cons_append, List.nil_append, List.getElem?_cons_zero, Nat.reduceSub, Nat.zero_add, if_true, if_false, Bool.false_eq_true, i1, h2, e1]
theorem sign_len (cs : List Nat) (h : cs.length ≠ 1) (hl : cs.length <= 1000) : F_is_sign [.str (S cs)] = .ok (.bl false) := sign_len_g Z2 cs h hl
noncomputable abbrev OT : Str := " #$&*+<=>\x40[\\]^_`{|}~"
theorem ot_len : OT.length = 20 := by decide +kernel
theorem ot_no : ∀ c ∈ OT.cps.toList, ¬ okS c := by unfold okS; decide +kernel
theorem others : F__law_others [] = .ok (.str OT) := rfl
theorem other_at (i : Int) (h0 : 0 <= i) (h1 : i < 20) : ∃ c, ixD (.str OT) (.int i) = .ok (.str (one c)) /\ ¬ okS c := pickS (by rw [ot_len]; decide) h0 (by rw [ot_len]; exact h1) ot_no
noncomputable abbrev SG1 : Str := "!\"'(),-./0123456789:;?ABCDEFGHIJKLMNOPQRSTUVWXYZ"
noncomputable abbrev SG2 : Str := "abcdefghijklmnopqrstuvwxyz"
noncomputable def SGl : List Nat := SG1.cps.toList ++ SG2.cps.toList
theorem sgl_ok : ∀ c ∈ SGl, okS c := by unfold okS SGl; decide +kernel
theorem sgl_len : SGl.length = 74 := by decide +kernel
theorem signs_g (A B : Str) (h : A.length + B.length <= 1000) : runB 1 (sSeq (sSet 0 (eC (.str A))) (sRet (eBin addD (eVar 0) (eC (.str B))))) [] = .ok (.str (A ++ B)) := by
  have e : addD (.str A) (.str B) = .ok (.str (A ++ B)) := ev_adds (by rw [sizeLine_eq]; lia)
  simp only [runB, sSeq, sSet, sRet, eVar, eC, eBin, R.ok_bind, List.map_nil, List.length_nil, List.replicate_succ, List.replicate_zero, List.nil_append, List.getElem?_cons_zero, List.set_cons_zero, Nat.reduceSub, e]
theorem law_signs : F__law_signs [] = .ok (.str (S SGl)) := by
  have h : F__law_signs [] = .ok (.str (SG1 ++ SG2)) := signs_g SG1 SG2 (by decide +kernel)
  have e : SG1 ++ SG2 = S SGl := by
    rw [str_S SG1, str_S SG2, S_app]
    rfl
  rw [h, e]
theorem sg_at (i : Int) (h0 : 0 <= i) (h1 : i < 74) : ∃ c, ixD (.str (S SGl)) (.int i) = .ok (.str (one c)) /\ okS c := pickS (by rw [S_len, sgl_len]; decide) h0 (by rw [S_len, sgl_len]; exact h1) (by rw [S_cps]; exact sgl_ok)
noncomputable def odds : List D := [.str "", .str "ab", .int 5, .non, .lst [.str "a"], .tup [.str "a"], .bl true, .str "\n", .str "  "]
theorem odds_no : ∀ d ∈ odds, F_is_sign [d] = .ok (.bl false) := by
  intro d hd
  unfold odds at hd
  simp only [List.mem_cons, List.not_mem_nil, or_false] at hd
  rcases hd with rfl | rfl | rfl | rfl | rfl | rfl | rfl | rfl | rfl
  · exact sign_len [] (by decide) (by decide)
  · exact sign_len [97, 98] (by decide) (by decide)
  · exact sign_no _ rfl
  · exact sign_no _ rfl
  · exact sign_no _ rfl
  · exact sign_no _ rfl
  · exact sign_no _ rfl
  · have h : F_is_sign [.str (one 10)] = .ok (.bl (decide (okS 10))) := is_sign 10
    rw [decide_eq_false (by unfold okS; decide +kernel)] at h
    exact h
  · exact sign_len [32, 32] (by decide) (by decide)
theorem wrong_sign (n : Int) : ∃ d, F__law_wrong_sign [.int n] = .ok d /\ F_is_sign [d] = .ok (.bl false) := by
  have d3 : fdivD (.int n) (.int 3) = .ok (.int (n / 3)) := ev_fdiv (by decide) (by decide)
  have m3 : modD (.int n) (.int 3) = .ok (.int (n % 3)) := ev_mod (by decide)
  have m20 : modD (.int (n / 3)) (.int 20) = .ok (.int (n / 3 % 20)) := ev_mod (by decide)
  have m9 : modD (.int (n / 3)) (.int 9) = .ok (.int (n / 3 % 9)) := ev_mod (by decide)
  have ho := others
  cases h2 : decide (n % 3 < 2) with
  | true =>
    obtain ⟨c, e, hc⟩ := other_at (n / 3 % 20) (by lia) (by lia)
    have hs := is_sign c
    rw [decide_eq_false hc] at hs
    refine ⟨.str (one c), ?_, hs⟩
    generalize one c = z at *
    generalize OT = O at *
    generalize n / 3 % 20 = k at *
    generalize n % 3 = k3 at *
    simp only [F__law_wrong_sign, t__law_wrong_sign, sSkip, runB, sSeq, sRet, sIf, eVar, eC, eBin, eL, aNil, aCons, eTest, asB, R.ok_bind, List.map_cons, List.map_nil, List.length_cons, List.length_nil, List.replicate_zero, List.cons_append, List.nil_append, List.getElem?_cons_zero, Nat.reduceSub, Nat.zero_add, ev_lt, if_true, d3, m3, m20, h2, ho, e]
  | false =>
    have hi : (n / 3 % 9).toNat < odds.length := by show _ < 9; lia
    have hx : ixD (.lst odds) (.int (n / 3 % 9)) = .ok odds[(n / 3 % 9).toNat] := ev_ixl (atI_ok (by lia) (List.getElem?_eq_getElem hi))
    have hw := odds_no _ (List.getElem_mem hi)
    refine ⟨_, ?_, hw⟩
    clear hw
    generalize odds[(n / 3 % 9).toNat] = d at *
    generalize n / 3 % 9 = k at *
    generalize n % 3 = k3 at *
    unfold odds at hx
    simp only [F__law_wrong_sign, t__law_wrong_sign, sSkip, runB, sSeq, sRet, sIf, eVar, eC, eBin, eL, aNil, aCons, eTest, asB, R.ok_bind, List.map_cons, List.map_nil, List.length_cons, List.length_nil, List.replicate_zero, List.cons_append, List.nil_append, List.getElem?_cons_zero, Nat.reduceSub, Nat.zero_add, ev_lt, ev_mod, if_false, Bool.false_eq_true, Int.reduceLT, d3, m3, m9, h2, hx]
end K01

set_option maxRecDepth 100000
set_option maxHeartbeats 4000000
namespace K01
open PySem PyProof.Rows L2
noncomputable def bO : Tn -> R Fl := (sSeq (sSet 4 (eBin modD (eBin mulD (eBin addD (eBin addD (eL F__law_cell_at (aCons (eVar 0) (aCons (eBin addD (eC (.int 10)) (eBin modD (eVar 3) (eC (.int 8)))) aNil))) (eBin mulD (eC (.int 7919)) (eVar 3))) (eC (.int 1))) (eC (.int 48271))) (eC (.int 1000003)))) (sKPut 2 (eBin addD (eC (.int 1)) (eBin modD (eBin fdivD (eVar 4) (eC (.int 74))) (eC (.int 20)))) (eBin ixD (eVar 1) (eBin modD (eVar 4) (eC (.int 74))))))
noncomputable def EO : Tn -> R D := (eImm (eL (fun ds => .ok (.tup ds)) (aCons (eVar 0) (aCons (eBin ixD (eVar 1) (eVar 0)) aNil))))
noncomputable def TOD : Tn -> R Fl := (sSeq (sSet 1 (fun _ => F__law_signs [])) (sSeq (sSet 2 (eC (.dic [] []))) (sSeq (sFor (iL rng1 (aCons (eBin modD (eL F__law_cell_at (aCons (eVar 0) (aCons (eC (.int 2)) aNil))) (eC (.int 10))) aNil)) (.one 3) bO) (sRet (eL tuple1D (aCons (eComp [none, some 2] (iSeq (eL sortKD (aCons (eVar 2) aNil))) (.one 0) (fun _ => .ok true) EO) aNil))))))
theorem tOD : F__law_odd = runB 5 TOD := rfl
noncomputable def kk (c : Nat) : Key := .inr (one c)
theorem kk_inj {a b : Nat} (h : kk a = kk b) : a = b := by
  unfold kk one at h
  cases h
  rfl
theorem kk_mem {c : Nat} {ks : List Nat} : kk c ∈ ks.map kk ↔ c ∈ ks := by
  constructor
  · intro h
    obtain ⟨d, hd, e⟩ := List.mem_map.mp h
    rw [<- kk_inj e]; exact hd
  · exact fun h => List.mem_map.mpr ⟨c, h, rfl⟩
theorem repl_bd : ∀ (ks : List Nat) (ns : List Int) (c : Nat) (m : Int), ks.length = ns.length -> ∃ ms : List Int, replL (ks.map kk) (ns.map D.int) (kk c) (.int m) = ms.map D.int /\ ms.length = ks.length /\ ∀ n ∈ ms, n ∈ ns \/ n = m
  | [], [], _, _, _ => ⟨[], rfl, rfl, fun n h => (nomatch h)⟩
  | [], _ :: _, _, _, h => by cases h
  | _ :: _, [], _, _, h => by cases h
  | k :: ks, n :: ns, c, m, h => by
    obtain ⟨ms, e, hl, hb⟩ := repl_bd ks ns c m (by simpa using h)
    rw [List.map_cons, List.map_cons]
    show ∃ ms, (if kk k = kk c then D.int m else D.int n) :: replL (ks.map kk) (ns.map D.int) (kk c) (.int m) = _ /\ _
    rw [e]
    by_cases hk : kk k = kk c
    · exact ⟨m :: ms, by rw [if_pos hk]; rfl, by simp [hl], fun x hx => by
        rcases List.mem_cons.mp hx with e | e
        · exact .inr e
        · rcases hb x e with q | q
          · exact .inl (List.mem_cons_of_mem _ q)
          · exact .inr q⟩
    · exact ⟨n :: ms, by rw [if_neg hk]; rfl, by simp [hl], fun x hx => by
        rcases List.mem_cons.mp hx with e | e
        · exact .inl (by rw [e]; exact List.mem_cons_self)
        · rcases hb x e with q | q
          · exact .inl (List.mem_cons_of_mem _ q)
          · exact .inr q⟩
structure Fd (ks : List Nat) (ns : List Int) : Prop where
  len : ks.length = ns.length
  nd : ks.Nodup
  ok : ∀ c ∈ ks, okS c
  bd : ∀ n ∈ ns, 1 <= n /\ n <= 20
theorem put_fd {ks : List Nat} {ns : List Int} (F : Fd ks ns) (c : Nat) (hc : okS c) (m : Int) (m1 : 1 <= m) (m2 : m <= 20) : ∃ ks' ns', putP (ks.map kk) (ns.map D.int) (kk c) (.int m) = (ks'.map kk, ns'.map D.int) /\ Fd ks' ns' /\ ks'.length <= ks.length + 1 := by
  unfold putP
  by_cases h : kk c ∈ ks.map kk
  · rw [if_pos h]
    obtain ⟨ms, e, hl, hb⟩ := repl_bd ks ns c m F.len
    refine ⟨ks, ms, by rw [e], ⟨hl.symm, F.nd, F.ok, fun n hn => ?_⟩, Nat.le_succ _⟩
    rcases hb n hn with q | q
    · exact F.bd n q
    · rw [q]; exact ⟨m1, m2⟩
  · rw [if_neg h]
    refine ⟨ks ++ [c], ns ++ [m], by rw [List.map_append, List.map_append]; rfl, ⟨by rw [List.length_append, List.length_append, F.len]; rfl, List.nodup_append.mpr ⟨F.nd, by simp, fun a ha b hb e => h (kk_mem.mpr (by rw [List.mem_singleton.mp hb] at e; rw [<- e]; exact ha))⟩, fun x hx => ?_, fun x hx => ?_⟩, by rw [List.length_append]; exact Nat.le_refl _⟩
    · rcases List.mem_append.mp hx with q | q
      · exact F.ok x q
      · rw [List.mem_singleton.mp q]; exact hc
    · rcases List.mem_append.mp hx with q | q
      · exact F.bd x q
      · rw [List.mem_singleton.mp q]; exact ⟨m1, m2⟩
theorem bO_ok (S0 : D) (ks ks' : List Key) (ds ds' : List D) (j v m : Int) (c : Nat) (x4 : Option D) (h1 : F__law_cell_at [S0, .int (10 + j % 8)] = .ok (.int v)) (h2 : ixD (.str (S SGl)) (.int ((v + 7919 * j + 1) * 48271 % 1000003 % 74)) = .ok (.str (one c))) (hm : 1 + (v + 7919 * j + 1) * 48271 % 1000003 / 74 % 20 = m)
    (hp : putP ks ds (.inr (one c)) (.int m) = (ks', ds')) (hl : ks.length < 16777216) :
    bO [some S0, some (.str (S SGl)), some (.dic ks ds), some (.int j), x4] = .ok (.nx [some S0, some (.str (S SGl)), some (.dic ks' ds'), some (.int j), some (.int ((v + 7919 * j + 1) * 48271 % 1000003))]) := by
  have m8 : modD (.int j) (.int 8) = .ok (.int (j % 8)) := ev_mod (by decide)
  have mu : mulD (.int 7919) (.int j) = .ok (.int (7919 * j)) := ev_mulL (by decide) (by decide)
  have mu2 : mulD (.int (v + 7919 * j + 1)) (.int 48271) = .ok (.int ((v + 7919 * j + 1) * 48271)) := ev_mulR (by decide) (by decide)
  have mp : modD (.int ((v + 7919 * j + 1) * 48271)) (.int 1000003) = .ok (.int ((v + 7919 * j + 1) * 48271 % 1000003)) := ev_mod (by decide)
  generalize (v + 7919 * j + 1) * 48271 % 1000003 = q at *
  generalize (v + 7919 * j + 1) * 48271 = q1 at *
  have d74 : fdivD (.int q) (.int 74) = .ok (.int (q / 74)) := ev_fdiv (by decide) (by decide)
  have m20 : modD (.int (q / 74)) (.int 20) = .ok (.int (q / 74 % 20)) := ev_mod (by decide)
  have m74 : modD (.int q) (.int 74) = .ok (.int (q % 74)) := ev_mod (by decide)
  have hp1 : (putP ks ds (.inr (one c)) (.int m)).1 = ks' := by rw [hp]
  have hp2 : (putP ks ds (.inr (one c)) (.int m)).2 = ds' := by rw [hp]
  have hk : ∀ τ : Tn, kputD 2 τ (.int m) (.dic ks ds) (.str (one c)) = .ok (.nx (τ.set 2 (some (.dic ks' ds')))) := fun τ => by rw [ev_kput rfl hl, hp1, hp2]
  clear hp1 hp2 hp
  generalize one c = z at *
  generalize S SGl = W at *
  generalize 7919 * j = q0 at *
  simp only [bO, sSeq, sSet, eVar, eC, eBin, eL, aNil, aCons, R.ok_bind, List.getElem?_cons_zero, List.getElem?_cons_succ, List.set_cons_zero, List.set_cons_succ, ev_add, m8, h1, mu, mu2, mp, d74, m20, m74, h2, hm, ev_sKPut, hk]
theorem lO_ok (ns : List Int) (m : Nat) (hm : m <= 9) : ∃ (ks : List Nat) (vs : List Int) (y3 y4 : Option D), Fd ks vs /\ ks.length <= m /\
    forGo (Tgt.one 3).asg bO (rng 0 m) [some (.frl (ns.map .int)), some (.str (S SGl)), some (.dic [] []), none, none] = .ok (.nx [some (.frl (ns.map .int)), some (.str (S SGl)), some (.dic (ks.map kk) (vs.map D.int)), y3, y4]) := by
  obtain ⟨τ', e2, ks, vs, y3, y4, g1, g2, h⟩ := forGo_inv (asg := (Tgt.one 3).asg) (body := bO)
    (fun i τ => ∃ (ks : List Nat) (vs : List Int) (y3 y4 : Option D), Fd ks vs /\ ks.length <= i /\ τ = [some (.frl (ns.map .int)), some (.str (S SGl)), some (.dic (ks.map kk) (vs.map D.int)), y3, y4]) (rng 0 m) 0
    [some (.frl (ns.map .int)), some (.str (S SGl)), some (.dic [] []), none, none] ⟨[], [], none, none, ⟨rfl, List.nodup_nil, fun c h => (nomatch h), fun c h => (nomatch h)⟩, Nat.le_refl _, rfl⟩ (fun i q τ hd ⟨ks, vs, y3, y4, F, hl, h⟩ => by
      obtain ⟨hi, rfl⟩ := rng_get hd
      subst h
      obtain ⟨v, hv⟩ := cell ns (10 + ((0 : Int) + (i : Nat)) % 8) (by lia)
      obtain ⟨c, hc, oc⟩ := sg_at ((v + 7919 * ((0 : Int) + (i : Nat)) + 1) * 48271 % 1000003 % 74) (Int.emod_nonneg _ (by decide)) (Int.emod_lt_of_pos _ (by decide))
      obtain ⟨ks', vs', hp, F', hl'⟩ := put_fd F c oc (1 + (v + 7919 * ((0 : Int) + (i : Nat)) + 1) * 48271 % 1000003 / 74 % 20) (by have := Int.emod_nonneg ((v + 7919 * ((0 : Int) + (i : Nat)) + 1) * 48271 % 1000003 / 74) (show (20 : Int) ≠ 0 by decide); lia) (by have := Int.emod_lt_of_pos ((v + 7919 * ((0 : Int) + (i : Nat)) + 1) * 48271 % 1000003 / 74) (show (0 : Int) < 20 by decide); lia)
      have hb := bO_ok (.frl (ns.map .int)) (ks.map kk) _ (vs.map D.int) _ ((0 : Int) + (i : Nat)) v _ c y4 hv hc rfl hp (by rw [List.length_map]; lia)
      exact ⟨_, _, rfl, .inl hb, ks', vs', _, _, F', by lia, rfl⟩)
  exact ⟨ks, vs, y3, y4, g1, by rw [rng_len] at g2; lia, by rw [e2, h]⟩
noncomputable def encPr (p : Nat × Int) : D := .tup [.str (one p.1), .int p.2]
structure Gd (P : List (Nat × Int)) : Prop where
  up : (P.map Prod.fst).Pairwise (· < ·)
  ok : ∀ p ∈ P, okS p.1
  bd : ∀ p ∈ P, 1 <= p.2 /\ p.2 <= 20
theorem le_one (a b : Nat) : leStr (one a) (one b) = decide (a <= b) := by
  show (!decide ([b] < [a])) = _
  by_cases h : a <= b
  · rw [decide_eq_true h, decide_eq_false (by rw [List.cons_lt_cons_iff]; rintro (q | ⟨_, q⟩); lia; exact absurd q (List.not_lt_nil _))]
    rfl
  · rw [decide_eq_false h, decide_eq_true (by rw [List.cons_lt_cons_iff]; exact .inl (by lia))]
    rfl
theorem inrs_kk : ∀ ks : List Nat, inrs (ks.map kk) = some (ks.map one)
  | [] => rfl
  | k :: ks => by
    rw [List.map_cons]
    show (inrs (ks.map kk)).map (one k :: ·) = _
    rw [inrs_kk ks]
    rfl
noncomputable def unS (z : Str) : Nat := z.cps.toList.headD 0
theorem un_one (c : Nat) : unS (one c) = c := rfl
theorem sort_kk (ks : List Nat) (nd : ks.Nodup) : ∃ cs : List Nat, sortS (ks.map one) = cs.map one /\ cs.Perm ks /\ cs.Pairwise (· < ·) := by
  have hp := sortS_perm (ks.map one)
  have hw := sortS_pw (ks.map one)
  have e1 : sortS (ks.map one) = ((sortS (ks.map one)).map unS).map one := by
    have : ∀ z ∈ sortS (ks.map one), one (unS z) = z := fun z hz => by
      obtain ⟨c, _, rfl⟩ := List.mem_map.mp (hp.mem_iff.mp hz)
      rfl
    rw [List.map_map]
    conv => lhs; rw [<- List.map_id (sortS (ks.map one))]
    exact List.map_congr_left fun z hz => (this z hz).symm
  have p2 : ((sortS (ks.map one)).map unS).Perm ks := by
    have := hp.map unS
    rw [List.map_map] at this
    have e : ks.map (unS ∘ one) = ks := by
      conv => rhs; rw [<- List.map_id ks]
      rfl
    rw [e] at this
    exact this
  refine ⟨(sortS (ks.map one)).map unS, e1, p2, ?_⟩
  generalize (sortS (ks.map one)).map unS = cs at *
  rw [e1] at hw
  have nd2 : cs.Nodup := p2.nodup_iff.mpr nd
  rw [List.pairwise_map] at hw
  have := hw.and nd2
  exact this.imp fun {a b} h => by
    have h1 := h.1
    rw [le_one] at h1
    have := of_decide_eq_true h1
    have := h.2
    lia
theorem look_kk : ∀ (ks : List Nat) (vs : List Int) (c : Nat), ks.length = vs.length -> c ∈ ks -> ∃ n ∈ vs, lookD (ks.map kk) (vs.map D.int) (kk c) = some (.int n)
  | [], _, _, _, h => by cases h
  | _ :: _, [], _, h, _ => by cases h
  | k :: ks, v :: vs, c, hl, h => by
    rw [List.map_cons, List.map_cons]
    show ∃ n ∈ v :: vs, (if kk k = kk c then some (D.int v) else lookD (ks.map kk) (vs.map D.int) (kk c)) = _
    by_cases e : kk k = kk c
    · exact ⟨v, List.mem_cons_self, if_pos e⟩
    · have hc : c ∈ ks := by
        rcases List.mem_cons.mp h with q | q
        · exact absurd (by rw [q]) e
        · exact q
      obtain ⟨n, hn, q⟩ := look_kk ks vs c (by simpa using hl) hc
      exact ⟨n, List.mem_cons_of_mem _ hn, by rw [if_neg e]; exact q⟩
noncomputable def wv (ks : List Nat) (vs : List Int) (c : Nat) : Int := match lookD (ks.map kk) (vs.map D.int) (kk c) with
  | some (.int n) => n
  | _ => 0
theorem wv_ok {ks : List Nat} {vs : List Int} (F : Fd ks vs) {c : Nat} (h : c ∈ ks) : ixD (.dic (ks.map kk) (vs.map D.int)) (.str (one c)) = .ok (.int (wv ks vs c)) /\ 1 <= wv ks vs c /\ wv ks vs c <= 20 := by
  obtain ⟨n, hn, e⟩ := look_kk ks vs c F.len h
  have ew : wv ks vs c = n := by unfold wv; rw [e]
  rw [ew]
  refine ⟨?_, F.bd n hn⟩
  show (match lookD (ks.map kk) (vs.map D.int) (kk c) with
      | some d => R.ok d
      | none => .bad) = _
  rw [e]
theorem odd_seq (S0 SG DK : D) (y3 y4 : Option D) (m : Int) (v : Int) (L LL : List D) (R0 : List D) (h0 : F__law_signs [] = .ok SG) (h1 : F__law_cell_at [S0, .int 2] = .ok (.int v)) (hm : modD (.int v) (.int 10) = .ok (.int m)) (e1 : rng1 [.int m] = .ok R0) (h : forGo (Tgt.one 3).asg bO R0 [some S0, some SG, some (.dic [] []), none, none] = .ok (.nx [some S0, some SG, some DK, y3, y4]))
    (hs : sortKD [DK] = .ok (.lst L)) (hc : compL (compF (Tgt.one 0).asg (fun _ => .ok true) EO [none, some DK]) L = .ok LL) (hk : lstD LL = .ok (.lst LL)) (ht : tuple1D [.lst LL] = .ok (.tup LL)) : runB 5 TOD [S0] = .ok (.tup LL) := by
  have eF : sFor (iL rng1 (aCons (eBin modD (eL F__law_cell_at (aCons (eVar 0) (aCons (eC (.int 2)) aNil))) (eC (.int 10))) aNil)) (.one 3) bO [some S0, some SG, some (.dic [] []), none, none] = _ := ev_for (by simp only [eVar, eC, eBin, eL, aNil, aCons, iL, R.ok_bind, List.getElem?_cons_zero, h1, hm, e1]) h
  simp only [TOD, ev_eComp, ev_ctN, ev_ctO, ev_ctS, ev_join, runB, sSeq, sSet, sRet, eVar, eC, eL, aNil, aCons, iSeq, asSeq, R.ok_bind, List.map_cons, List.map_nil, List.length_cons, List.length_nil, List.replicate_succ, List.replicate_zero, List.cons_append, List.nil_append, List.getElem?_cons_zero, List.getElem?_cons_succ, List.set_cons_zero, List.set_cons_succ, Nat.reduceSub, Nat.zero_add, h0, eF, hs, hc, hk, ht]
theorem law_odd (ns : List Int) : ∃ P : List (Nat × Int), F__law_odd [.frl (ns.map .int)] = .ok (.tup (P.map encPr)) /\ Gd P /\ P.length <= 9 := by
  obtain ⟨v, hv⟩ := cell ns 2 (by decide)
  have m10 : modD (.int v) (.int 10) = .ok (.int (v % 10)) := ev_mod (by decide)
  have e1 : rng1 [D.int (v % 10)] = .ok (rng 0 (v % 10).toNat) := ev_rng1 (by lia) (by lia)
  obtain ⟨ks, vs, y3, y4, F, hl, h⟩ := lO_ok ns (v % 10).toNat (by lia)
  obtain ⟨cs, hs, hp, hup⟩ := sort_kk ks F.nd
  have hs2 : sortKD [.dic (ks.map kk) (vs.map D.int)] = .ok (.lst ((cs.map one).map D.str)) := by
    show (match inrs (ks.map kk) with
      | some ss => if ss.length < 64 then R.ok (D.lst ((sortS ss).map D.str)) else .bad
      | none => .bad) = _
    rw [inrs_kk]
    show (if (ks.map one).length < 64 then R.ok (D.lst ((sortS (ks.map one)).map D.str)) else .bad) = _
    rw [if_pos (by rw [List.length_map]; lia), hs]
  have hcl : cs.length = ks.length := hp.length_eq
  have hc : compL (compF (Tgt.one 0).asg (fun _ => .ok true) EO [none, some (.dic (ks.map kk) (vs.map D.int))]) ((cs.map one).map D.str) = .ok ((cs.map fun c => (c, wv ks vs c)).map encPr) := by
    have := compL_enc (enc := fun c => D.str (one c)) (f := compF (Tgt.one 0).asg (fun _ => .ok true) EO [none, some (.dic (ks.map kk) (vs.map D.int))]) (o := fun c => some (encPr (c, wv ks vs c))) (xs := cs) fun c hc => by
      have hx := (wv_ok F (hp.mem_iff.mp hc)).1
      show _ = R.ok (some (D.tup [.str (one c), .int (wv ks vs c)]))
      generalize wv ks vs c = n at *
      generalize D.dic (ks.map kk) (vs.map D.int) = DK at *
      generalize one c = z at *
      simp only [compF, noErr_ok', EO, ev_eImm, ev_immT, ev_imsN, ev_imsI, ev_imsS, eVar, eBin, eL, aNil, aCons, Tgt.asg, R.ok_bind, List.getElem?_cons_zero, List.getElem?_cons_succ, List.set_cons_zero, if_true, hx]
    rw [fm_some] at this
    rw [List.map_map]
    show compL _ (cs.map fun c => D.str (one c)) = _
    rw [this, List.map_map]
    rfl
  refine ⟨cs.map fun c => (c, wv ks vs c), ?_, ⟨?_, fun p hpp => ?_, fun p hpp => ?_⟩, by rw [List.length_map]; lia⟩
  · rw [tOD]
    exact odd_seq _ _ _ y3 y4 _ v _ _ _ law_signs hv m10 e1 h hs2 hc (ev_lstD (by rw [List.length_map, List.length_map]; lia)) (ev_tuple1 (imms_map (fun _ => rfl) _))
  · rw [List.map_map]
    have e : cs.map (Prod.fst ∘ fun c => (c, wv ks vs c)) = cs := by
      conv => rhs; rw [<- List.map_id cs]
      rfl
    rw [e]
    exact hup
  · obtain ⟨c, hcc, rfl⟩ := List.mem_map.mp hpp
    exact F.ok c (hp.mem_iff.mp hcc)
  · obtain ⟨c, hcc, rfl⟩ := List.mem_map.mp hpp
    exact (wv_ok F (hp.mem_iff.mp hcc)).2
end K01

set_option maxRecDepth 100000
set_option maxHeartbeats 4000000
namespace K01
open PySem PyProof.Rows L2
noncomputable def bI : Tn -> R Fl := (sSeq (sIf (bOr (bNot (eTest (eL F_is_odd_pair (aCons (eVar 2) aNil)))) (eTest (eBin leSD (eBin ixD (eVar 2) (eC (.int 0))) (eVar 1)))) (sRet (eC (.bl false))) sSkip) (sSet 1 (eBin ixD (eVar 2) (eC (.int 0)))))
noncomputable def TIO : Tn -> R Fl := (sSeq (sIf (bNot (eTest (eUn (isiD "tuple") (eVar 0)))) (sRet (eC (.bl false))) sSkip) (sSeq (sSet 1 (eC (.str ""))) (sSeq (sFor (iSeq (eVar 0)) (.one 2) bI) (sRet (eC (.bl true))))))
theorem tIO : F_is_odd = runB 3 TIO := rfl
noncomputable def It (d : D) (o : Option (Nat × Int)) : Prop := F_is_odd_pair [d] = .ok (.bl o.isSome) /\ ∀ p, o = some p -> d = encPr p
theorem pair_g (a b : D) (x y : Bool) (h1 : F_is_sign [a] = .ok (.bl x)) (h2 : F_is_width [b] = .ok (.bl y)) : F_is_odd_pair [.tup [a, b]] = .ok (.bl (x && y)) := by
  have i1 : isiD "tuple" (.tup [a, b]) = .ok (.bl true) := rfl
  have e1 : lenD [.tup [a, b]] = .ok (.int 2) := rfl
  have e2 : eqR true (.int 2) (.int 2) = .ok (.bl false) := by rw [ev_nei]; rfl
  have x0 : ixD (.tup [a, b]) (.int 0) = .ok a := rfl
  have x1 : ixD (.tup [a, b]) (.int 1) = .ok b := rfl
  cases x with
  | true => simp only [F_is_odd_pair, t_is_odd_pair, sSkip, runB, sSeq, sRet, sIf, eVar, eC, eBin, eUn, eL, aNil, aCons, eTest, bOr, bNot, eAnd, asB, R.ok_bind, List.map_cons, List.map_nil, List.length_cons, List.length_nil, List.replicate_zero, List.cons_append, List.nil_append, List.getElem?_cons_zero, Nat.reduceSub, Nat.zero_add, if_true, if_false, Bool.false_eq_true, i1, e1, e2, x0, x1, h1, h2, Bool.not_true, Bool.true_and]
  | false => simp only [F_is_odd_pair, t_is_odd_pair, sSkip, runB, sSeq, sRet, sIf, eVar, eC, eBin, eUn, eL, aNil, aCons, eTest, bOr, bNot, eAnd, asB, R.ok_bind, List.map_cons, List.map_nil, List.length_cons, List.length_nil, List.replicate_zero, List.cons_append, List.nil_append, List.getElem?_cons_zero, Nat.reduceSub, Nat.zero_add, if_false, Bool.false_eq_true, i1, e1, e2, x0, x1, h1, h2, Bool.not_true, Bool.false_and]
theorem pair_no (d : D) (h : isiD "tuple" d = .ok (.bl false)) : It d none := by
  refine ⟨?_, fun p e => by cases e⟩
  show _ = R.ok (D.bl false)
  simp only [F_is_odd_pair, t_is_odd_pair, sSkip, runB, sSeq, sRet, sIf, eVar, eC, eBin, eUn, eL, aNil, aCons, eTest, bOr, bNot, eAnd, asB, R.ok_bind, List.map_cons, List.map_nil, List.length_cons, List.length_nil, List.replicate_zero, List.cons_append, List.nil_append, List.getElem?_cons_zero, Nat.reduceSub, Nat.zero_add, if_true, h, Bool.not_false]
theorem pair_len (ds : List D) (h : ds.length ≠ 2) : It (.tup ds) none := by
  refine ⟨?_, fun p e => by cases e⟩
  have i1 : isiD "tuple" (.tup ds) = .ok (.bl true) := rfl
  have e1 : lenD [.tup ds] = .ok (.int (ds.length : Nat)) := rfl
  have e2 : eqR true (.int (ds.length : Nat)) (.int 2) = .ok (.bl true) := by rw [ev_nei, beq_false_of_ne (by lia)]; rfl
  show _ = R.ok (D.bl false)
  generalize ((ds.length : Nat) : Int) = n at *
  simp only [F_is_odd_pair, t_is_odd_pair, sSkip, runB, sSeq, sRet, sIf, eVar, eC, eBin, eUn, eL, aNil, aCons, eTest, bOr, bNot, eAnd, asB, R.ok_bind, List.map_cons, List.map_nil, List.length_cons, List.length_nil, List.replicate_zero, List.cons_append, List.nil_append, List.getElem?_cons_zero, Nat.reduceSub, Nat.zero_add, if_true, if_false, Bool.false_eq_true, i1, e1, e2, Bool.not_true]
theorem It.good {p : Nat × Int} (h1 : okS p.1) (h2 : 1 <= p.2 /\ p.2 <= 20) : It (encPr p) (some p) := by
  refine ⟨?_, fun q e => by cases e; rfl⟩
  have hs := is_sign p.1
  rw [decide_eq_true h1] at hs
  exact pair_g _ _ _ _ hs (width_ok _ h2.1 h2.2)
noncomputable def goO : List (Option (Nat × Int)) -> Str -> Bool
  | [], _ => true
  | none :: _, _ => false
  | some p :: r, a => if leStr (one p.1) a = true then false else goO r (one p.1)
theorem bI_no (T d : D) (a : Str) (h : F_is_odd_pair [d] = .ok (.bl false)) : bI [some T, some (.str a), some d] = .ok (.rt (.bl false)) := by
  simp only [bI, sSkip, sSeq, sSet, sRet, sIf, eVar, eC, eBin, eL, aNil, aCons, eTest, bOr, bNot, asB, R.ok_bind, List.getElem?_cons_zero, List.getElem?_cons_succ, if_true, h, Bool.not_false]
theorem bI_ok (T : D) (p : Nat × Int) (a : Str) (h : F_is_odd_pair [encPr p] = .ok (.bl true)) : bI [some T, some (.str a), some (encPr p)] = if leStr (one p.1) a = true then .ok (.rt (.bl false)) else .ok (.nx [some T, some (.str (one p.1)), some (encPr p)]) := by
  have x0 : ixD (encPr p) (.int 0) = .ok (.str (one p.1)) := rfl
  have h2 : leSD (.str (one p.1)) (.str a) = .ok (.bl (leStr (one p.1) a)) := rfl
  cases hb : leStr (one p.1) a with
  | true =>
    rw [hb] at h2
    rw [if_pos rfl]
    generalize encPr p = d at *
    generalize one p.1 = z at *
    simp only [bI, sSkip, sSeq, sSet, sRet, sIf, eVar, eC, eBin, eL, aNil, aCons, eTest, bOr, bNot, asB, R.ok_bind, List.getElem?_cons_zero, List.getElem?_cons_succ, if_true, if_false, Bool.false_eq_true, h, x0, h2, Bool.not_true]
  | false =>
    rw [hb] at h2
    rw [if_neg (by decide)]
    generalize encPr p = d at *
    generalize one p.1 = z at *
    simp only [bI, sSkip, sSeq, sSet, sRet, sIf, eVar, eC, eBin, eL, aNil, aCons, eTest, bOr, bNot, asB, R.ok_bind, List.getElem?_cons_zero, List.getElem?_cons_succ, List.set_cons_zero, List.set_cons_succ, if_false, Bool.false_eq_true, h, x0, h2, Bool.not_true]
theorem lI (T : D) : ∀ (xs : List (D × Option (Nat × Int))) (_ : ∀ x ∈ xs, It x.1 x.2) (a : Str) (y2 : Option D),
    (goO (xs.map Prod.snd) a = false /\ forGo (Tgt.one 2).asg bI (xs.map Prod.fst) [some T, some (.str a), y2] = .ok (.rt (.bl false))) \/ (goO (xs.map Prod.snd) a = true /\ ∃ z y2', forGo (Tgt.one 2).asg bI (xs.map Prod.fst) [some T, some (.str a), y2] = .ok (.nx [some T, z, y2']))
  | [], _, a, y2 => .inr ⟨rfl, some (.str a), y2, rfl⟩
  | (d, o) :: xs, hx, a, y2 => by
    obtain ⟨h1, h2⟩ := hx (d, o) List.mem_cons_self
    dsimp only at h1 h2
    rw [List.map_cons, List.map_cons, ev_forC]
    show (goO (o :: xs.map Prod.snd) a = false /\ (bI [some T, some (.str a), some d]).bind _ = _) \/ (goO (o :: xs.map Prod.snd) a = true /\ ∃ z y2', (bI [some T, some (.str a), some d]).bind _ = _)
    cases o with
    | none =>
      refine .inl ⟨rfl, ?_⟩
      rw [bI_no T d a h1, R.ok_bind, ev_goR]
    | some p =>
      obtain rfl := h2 p rfl
      have hb := bI_ok T p a h1
      by_cases hm : leStr (one p.1) a = true
      · rw [if_pos hm] at hb
        refine .inl ⟨if_pos hm, ?_⟩
        rw [hb, R.ok_bind, ev_goR]
      · rw [if_neg hm] at hb
        have eg : goO (some p :: xs.map Prod.snd) a = goO (xs.map Prod.snd) (one p.1) := if_neg hm
        rw [eg, hb, R.ok_bind, ev_goN]
        exact lI T xs (fun x h => hx x (List.mem_cons_of_mem _ h)) (one p.1) _
theorem is_odd_no (d : D) (h : isiD "tuple" d = .ok (.bl false)) : F_is_odd [d] = .ok (.bl false) := by
  rw [tIO]
  simp only [TIO, sSkip, runB, sSeq, sSet, sRet, sIf, eVar, eC, eUn, eTest, bNot, asB, R.ok_bind, List.map_cons, List.map_nil, List.length_cons, List.length_nil, List.replicate_succ, List.replicate_zero, List.cons_append, List.nil_append, List.getElem?_cons_zero, Nat.reduceSub, Nat.zero_add, if_true, h, Bool.not_false]
theorem is_odd_go (xs : List (D × Option (Nat × Int))) (hx : ∀ x ∈ xs, It x.1 x.2) : F_is_odd [.tup (xs.map Prod.fst)] = .ok (.bl (goO (xs.map Prod.snd) ⟨#[]⟩)) := by
  have i1 : isiD "tuple" (.tup (xs.map Prod.fst)) = .ok (.bl true) := rfl
  have key := lI (.tup (xs.map Prod.fst)) xs hx ⟨#[]⟩ none
  have hz : ("" : Str) = ⟨#[]⟩ := rfl
  rw [<- hz] at key ⊢
  rw [tIO]
  generalize xs.map Prod.fst = L at *
  rcases key with ⟨k1, k2⟩ | ⟨k1, z, y2, k2⟩
  · rw [k1]
    have eF : sFor (iSeq (eVar 0)) (.one 2) bI [some (.tup L), some (.str ""), none] = _ := ev_for (by simp only [eVar, iSeq, asSeq, R.ok_bind, List.getElem?_cons_zero]) k2
    simp only [TIO, sSkip, runB, sSeq, sSet, sRet, sIf, eVar, eC, eUn, eTest, bNot, asB, R.ok_bind, List.map_cons, List.map_nil, List.length_cons, List.length_nil, List.replicate_succ, List.replicate_zero, List.cons_append, List.nil_append, List.getElem?_cons_zero, List.set_cons_zero, List.set_cons_succ, Nat.reduceSub, Nat.zero_add, if_false, Bool.false_eq_true, i1, eF, Bool.not_true]
  · rw [k1]
    have eF : sFor (iSeq (eVar 0)) (.one 2) bI [some (.tup L), some (.str ""), none] = _ := ev_for (by simp only [eVar, iSeq, asSeq, R.ok_bind, List.getElem?_cons_zero]) k2
    simp only [TIO, sSkip, runB, sSeq, sSet, sRet, sIf, eVar, eC, eUn, eTest, bNot, asB, R.ok_bind, List.map_cons, List.map_nil, List.length_cons, List.length_nil, List.replicate_succ, List.replicate_zero, List.cons_append, List.nil_append, List.getElem?_cons_zero, List.set_cons_zero, List.set_cons_succ, Nat.reduceSub, Nat.zero_add, if_false, Bool.false_eq_true, i1, eF, Bool.not_true]
theorem le_none (c : Nat) : leStr (one c) ⟨#[]⟩ = false := by
  show (!decide (([] : List Nat) < [c])) = false
  rw [decide_eq_true (List.nil_lt_cons _ _)]
  rfl
theorem goO_none : ∀ (os : List (Option (Nat × Int))) (a : Str), none ∈ os -> goO os a = false
  | none :: _, _, _ => rfl
  | some p :: r, a, h => by
    show (if leStr (one p.1) a = true then false else goO r (one p.1)) = false
    rcases List.mem_cons.mp h with e | e
    · cases e
    · split
      · rfl
      · exact goO_none r _ e
theorem goO_one : ∀ (P : List (Nat × Int)) (a : Nat), goO (P.map some) (one a) = decide ((a :: P.map Prod.fst).Pairwise (· < ·))
  | [], a => by rw [List.map_nil, List.map_nil, decide_eq_true (List.pairwise_singleton _ _)]; rfl
  | p :: P, a => by
    rw [List.map_cons, List.map_cons]
    show (if leStr (one p.1) (one a) = true then false else goO (P.map some) (one p.1)) = _
    rw [le_one, goO_one P p.1]
    by_cases h : p.1 <= a
    · rw [decide_eq_true h, if_pos rfl, decide_eq_false]
      intro hq
      have := (List.pairwise_cons.mp hq).1 p.1 List.mem_cons_self
      lia
    · rw [decide_eq_false h, if_neg (by decide)]
      congr 1
      refine propext ⟨fun hq => List.pairwise_cons.mpr ⟨fun b hb => ?_, hq⟩, fun hq => (List.pairwise_cons.mp hq).2⟩
      rcases List.mem_cons.mp hb with e | e
      · lia
      · have := (List.pairwise_cons.mp hq).1 b e
        lia
theorem goO_some (P : List (Nat × Int)) : goO (P.map some) ⟨#[]⟩ = decide ((P.map Prod.fst).Pairwise (· < ·)) := by
  cases P with
  | nil => rfl
  | cons p P =>
    rw [List.map_cons, List.map_cons]
    show (if leStr (one p.1) ⟨#[]⟩ = true then false else goO (P.map some) (one p.1)) = _
    rw [le_none, if_neg (by decide), goO_one]
theorem odd_of (P : List (Nat × Int)) (h1 : ∀ p ∈ P, okS p.1) (h2 : ∀ p ∈ P, 1 <= p.2 /\ p.2 <= 20) : F_is_odd [.tup (P.map encPr)] = .ok (.bl (decide ((P.map Prod.fst).Pairwise (· < ·)))) := by
  have h := is_odd_go (P.map fun p => (encPr p, some p)) (fun x hx => by
    obtain ⟨p, hp, rfl⟩ := List.mem_map.mp hx
    exact It.good (h1 p hp) (h2 p hp))
  rw [List.map_map, List.map_map] at h
  have h : F_is_odd [.tup (P.map encPr)] = .ok (.bl (goO (P.map some) ⟨#[]⟩)) := h
  rw [h, goO_some]
theorem odd_bad (A B : List (Nat × Int)) (d : D) (hA : ∀ p ∈ A ++ B, okS p.1 /\ 1 <= p.2 /\ p.2 <= 20) (hd : It d none) : F_is_odd [.tup (A.map encPr ++ [d] ++ B.map encPr)] = .ok (.bl false) := by
  have h := is_odd_go (A.map (fun p => (encPr p, some p)) ++ [(d, none)] ++ B.map (fun p => (encPr p, some p))) (fun x hx => by
    have g : ∀ ll : List (Nat × Int), (∀ p ∈ ll, p ∈ A ++ B) -> x ∈ ll.map (fun p => (encPr p, some p)) -> It x.1 x.2 := fun ll hs hm => by
      obtain ⟨p, hp, rfl⟩ := List.mem_map.mp hm
      exact It.good (hA p (hs p hp)).1 (hA p (hs p hp)).2
    rcases List.mem_append.mp hx with q | q
    · rcases List.mem_append.mp q with q | q
      · exact g _ (fun j hj => List.mem_append_left _ hj) q
      · rw [List.mem_singleton.mp q]; exact hd
    · exact g _ (fun j hj => List.mem_append_right _ hj) q)
  simp only [List.map_append, List.map_map, List.map_cons, List.map_nil] at h
  have h : F_is_odd [.tup (A.map encPr ++ [d] ++ B.map encPr)] = .ok (.bl (goO (A.map some ++ [none] ++ B.map some) ⟨#[]⟩)) := h
  rw [h, goO_none _ _ (List.mem_append_left _ (List.mem_append_right _ (List.mem_singleton.mpr rfl)))]
theorem face_g (a b o : D) (x y z : Bool) (h1 : F_is_width [a] = .ok (.bl x)) (h2 : F_is_width [b] = .ok (.bl y)) (h3 : F_is_odd [o] = .ok (.bl z)) : F_is_face [.tup [a, b, o]] = .ok (.bl (x && (y && z))) := by
  have i1 : isiD "tuple" (.tup [a, b, o]) = .ok (.bl true) := rfl
  have e1 : lenD [.tup [a, b, o]] = .ok (.int 3) := rfl
  have e2 : eqR true (.int 3) (.int 3) = .ok (.bl false) := by rw [ev_nei]; rfl
  have x0 : ixD (.tup [a, b, o]) (.int 0) = .ok a := rfl
  have x1 : ixD (.tup [a, b, o]) (.int 1) = .ok b := rfl
  have x2 : ixD (.tup [a, b, o]) (.int 2) = .ok o := rfl
  cases x with
  | false => simp only [F_is_face, t_is_face, sSkip, runB, sSeq, sRet, sIf, eVar, eC, eBin, eUn, eL, aNil, aCons, eTest, bOr, bNot, eAnd, asB, R.ok_bind, List.map_cons, List.map_nil, List.length_cons, List.length_nil, List.replicate_zero, List.cons_append, List.nil_append, List.getElem?_cons_zero, Nat.reduceSub, Nat.zero_add, ev_ix1, ev_ix2, if_false, Bool.false_eq_true, i1, e1, e2, x0, h1, Bool.not_true, Bool.false_and]
  | true =>
    cases y with
    | false => simp only [F_is_face, t_is_face, sSkip, runB, sSeq, sRet, sIf, eVar, eC, eBin, eUn, eL, aNil, aCons, eTest, bOr, bNot, eAnd, asB, R.ok_bind, List.map_cons, List.map_nil, List.length_cons, List.length_nil, List.replicate_zero, List.cons_append, List.nil_append, List.getElem?_cons_zero, Nat.reduceSub, Nat.zero_add, ev_ix2, if_true, if_false, Bool.false_eq_true, i1, e1, e2, x0, x1, h1, h2, Bool.not_true, Bool.false_and, Bool.true_and]
    | true => simp only [F_is_face, t_is_face, sSkip, runB, sSeq, sRet, sIf, eVar, eC, eBin, eUn, eL, aNil, aCons, eTest, bOr, bNot, eAnd, asB, R.ok_bind, List.map_cons, List.map_nil, List.length_cons, List.length_nil, List.replicate_zero, List.cons_append, List.nil_append, List.getElem?_cons_zero, Nat.reduceSub, Nat.zero_add, if_true, if_false, Bool.false_eq_true, i1, e1, e2, x0, x1, x2, h1, h2, h3, Bool.not_true, Bool.true_and]
theorem face_no (d : D) (h : isiD "tuple" d = .ok (.bl false)) : F_is_face [d] = .ok (.bl false) := by
  simp only [F_is_face, t_is_face, sSkip, runB, sSeq, sRet, sIf, eVar, eC, eBin, eUn, eL, aNil, aCons, eTest, bOr, bNot, eAnd, asB, R.ok_bind, List.map_cons, List.map_nil, List.length_cons, List.length_nil, List.replicate_zero, List.cons_append, List.nil_append, List.getElem?_cons_zero, Nat.reduceSub, Nat.zero_add, if_true, h, Bool.not_false]
theorem face_len (ds : List D) (h : ds.length ≠ 3) : F_is_face [.tup ds] = .ok (.bl false) := by
  have i1 : isiD "tuple" (.tup ds) = .ok (.bl true) := rfl
  have e1 : lenD [.tup ds] = .ok (.int (ds.length : Nat)) := rfl
  have e2 : eqR true (.int (ds.length : Nat)) (.int 3) = .ok (.bl true) := by rw [ev_nei, beq_false_of_ne (by lia)]; rfl
  generalize ((ds.length : Nat) : Int) = n at *
  simp only [F_is_face, t_is_face, sSkip, runB, sSeq, sRet, sIf, eVar, eC, eBin, eUn, eL, aNil, aCons, eTest, bOr, bNot, eAnd, asB, R.ok_bind, List.map_cons, List.map_nil, List.length_cons, List.length_nil, List.replicate_zero, List.cons_append, List.nil_append, List.getElem?_cons_zero, Nat.reduceSub, Nat.zero_add, if_true, if_false, Bool.false_eq_true, i1, e1, e2, Bool.not_true]
theorem need_ok (d : D) (h : F_is_face [d] = .ok (.bl true)) : F_need_face [d] = .ok (.bl true) := by
  simp only [F_need_face, t_need_face, sSkip, runB, sSeq, sRet, sIf, eVar, eC, eL, aNil, aCons, eTest, bNot, asB, R.ok_bind, List.map_cons, List.map_nil, List.length_cons, List.length_nil, List.replicate_zero, List.cons_append, List.nil_append, List.getElem?_cons_zero, Nat.reduceSub, Nat.zero_add, if_false, Bool.false_eq_true, h, Bool.not_true]
theorem need_err (d : D) (h : F_is_face [d] = .ok (.bl false)) : F_need_face [d] = .err "BadFace" := by
  have e : ∀ τ, sErr "BadFace" (aCons (eC (.str "a face is a tuple of plain, blank and odd")) aNil) τ = .err "BadFace" := fun τ => by
    unfold sErr
    simp only [eC, aNil, aCons, R.ok_bind, List.length_cons, List.length_nil, Nat.zero_add]
    rw [if_pos (by rw [sizeLine_eq]; decide)]
  simp only [F_need_face, t_need_face, sSkip, runB, sSeq, sRet, sIf, eVar, eC, eL, aNil, aCons, eTest, bNot, asB, R.ok_bind, R.err_bind, List.map_cons, List.map_nil, List.length_cons, List.length_nil, List.replicate_zero, List.cons_append, List.nil_append, List.getElem?_cons_zero, Nat.reduceSub, Nat.zero_add, if_true, h, Bool.not_false, e]
theorem tryE {F : List D -> R D} {u : Tn -> R (List D)} {g : Str -> Option D} {τ : Tn} {ds : List D} {m : Str} {d : D} (h1 : u τ = .ok ds) (h2 : F ds = .err m) (h3 : g m = some d) : sTryE F u g τ = .ok (.rt d) := by
  unfold sTryE
  simp only [h1, h2, h3]
theorem refused (d : D) (h : F_is_face [d] = .ok (.bl false)) : F__law_refused [d] = .ok (.bl true) := by
  have hn := need_err d h
  have g1 : g__law_refused "BadFace" = some (.bl true) := if_pos rfl
  have t1 : sTryE F_need_face (aCons (eVar 0) aNil) g__law_refused [some d, none, none] = .ok (.rt (.bl true)) := tryE (ds := [d]) (by simp only [eVar, aNil, aCons, R.ok_bind, List.getElem?_cons_zero]) hn g1
  show runB 3 t__law_refused [d] = _
  unfold t__law_refused
  simp only [runB, sSeq, sRet, eC, R.ok_bind, List.map_cons, List.map_nil, List.length_cons, List.length_nil, List.replicate_succ, List.replicate_zero, List.cons_append, List.nil_append, Nat.reduceSub, Nat.zero_add, t1]
end K01

set_option maxRecDepth 100000
set_option maxHeartbeats 4000000
namespace K01
open PySem PyProof.Rows L2
noncomputable def W0 : Tn -> R Fl := (sSet 2 (eBin modD (eVar 1) (eBin addD (eL lenD (aCons (eVar 0) aNil)) (eC (.int 1)))))
noncomputable def W1 : Tn -> R Fl := (sSet 3 (eBin fdivD (eVar 1) (eC (.int 11))))
noncomputable def W2 : Tn -> R Fl := (sSet 4 (eL (fun ds => .ok (.lst ds)) (aCons (eL (fun ds => .ok (.tup ds)) (aCons (eL F__law_wrong_sign (aCons (eVar 3) aNil)) (aCons (eC (.int 5)) aNil))) (aCons (eL (fun ds => .ok (.tup ds)) (aCons (eC (.str "a")) (aCons (eL F__law_wrong_width (aCons (eVar 3) aNil)) aNil))) (aCons (eL (fun ds => .ok (.lst ds)) (aCons (eC (.str "a")) (aCons (eC (.int 5)) aNil))) (aCons (eL (fun ds => .ok (.tup ds)) (aCons (eC (.str "a")) (aCons (eC (.int 5)) (aCons (eC (.int 5)) aNil)))) (aCons (eL (fun ds => .ok (.tup ds)) (aCons (eC (.str "a")) aNil)) (aCons (eC .non) (aCons (eC (.str "a5")) aNil)))))))))
noncomputable def W3 : Tn -> R Fl := (sIf (bAnd (eTest (eBin gtD (eBin modD (eBin fdivD (eVar 1) (eC (.int 7))) (eC (.int 3))) (eC (.int 0)))) (eTest (eBin gtD (eL lenD (aCons (eVar 0) aNil)) (eC (.int 1))))) (sSeq (sSet 5 (eBin addD (eSlA (eVar 0) oNone (oSome (eBin addD (eC (.int 1)) (eBin modD (eVar 2) (eL lenD (aCons (eVar 0) aNil)))))) (eSlA (eVar 0) (oSome (eBin modD (eVar 2) (eL lenD (aCons (eVar 0) aNil)))) oNone))) (sRet (eBin ixD (eL (fun ds => .ok (.lst ds)) (aCons (eRevT (eVar 0)) (aCons (eImm (eVar 5)) (aCons (eBin addD (eSlA (eVar 0) oNone (oSome (eC (.int 1)))) (eVar 0)) (aCons (eBin addD (eBin addD (eSlA (eVar 0) (oSome (eC (.int 1))) (oSome (eC (.int 2)))) (eSlA (eVar 0) oNone (oSome (eC (.int 1))))) (eSlA (eVar 0) (oSome (eC (.int 2))) oNone)) aNil))))) (eBin modD (eVar 3) (eC (.int 4)))))) sSkip)
noncomputable def W4 : Tn -> R Fl := (sRet (eBin catTD (eBin catTD (eSlA (eVar 0) oNone (oSome (eVar 2))) (eL (fun ds => .ok (.tup ds)) (aCons (eBin ixL (eVar 4) (eBin modD (eVar 3) (eC (.int 7)))) aNil))) (eSlA (eVar 0) (oSome (eVar 2)) oNone)))
theorem tWO : F__law_wrong_odd = runB 6 (sSeq W0 (sSeq W1 (sSeq W2 (sSeq W3 W4)))) := rfl
noncomputable def P0 : Tn -> R Fl := (sSet 2 (eBin fdivD (eVar 1) (eC (.int 8))))
noncomputable def P1 : Tn -> R Fl := (sAsg (.many [3, 4, 5]) (eVar 0))
noncomputable def P2 : Tn -> R Fl := (sSet 6 (eL (fun ds => .ok (.lst ds)) (aCons (eL (fun ds => .ok (.tup ds)) (aCons (eL F__law_wrong_width (aCons (eVar 2) aNil)) (aCons (eImm (eVar 4)) (aCons (eImm (eVar 5)) aNil)))) (aCons (eL (fun ds => .ok (.tup ds)) (aCons (eImm (eVar 3)) (aCons (eL F__law_wrong_width (aCons (eVar 2) aNil)) (aCons (eImm (eVar 5)) aNil)))) (aCons (eL (fun ds => .ok (.tup ds)) (aCons (eImm (eVar 3)) (aCons (eImm (eVar 4)) (aCons (eL list1D (aCons (eVar 5) aNil)) aNil)))) aNil)))))
noncomputable def P3 : Tn -> R Fl := (sSet 6 (eBin catD (eVar 6) (eL (fun ds => .ok (.lst ds)) (aCons (eL (fun ds => .ok (.tup ds)) (aCons (eImm (eVar 3)) (aCons (eImm (eVar 4)) (aCons (eL F__law_wrong_odd (aCons (eVar 5) (aCons (eVar 2) aNil))) aNil)))) (aCons (eL (fun ds => .ok (.tup ds)) (aCons (eImm (eVar 3)) (aCons (eImm (eVar 4)) (aCons (eL F__law_wrong_odd (aCons (eVar 5) (aCons (eBin fdivD (eVar 2) (eC (.int 3))) aNil))) aNil)))) aNil)))))
noncomputable def P4 : Tn -> R Fl := (sSet 6 (eBin catD (eVar 6) (eL (fun ds => .ok (.lst ds)) (aCons (eL (fun ds => .ok (.lst ds)) (aCons (eImm (eVar 3)) (aCons (eImm (eVar 4)) (aCons (eImm (eVar 5)) aNil)))) (aCons (eBin ixD (eL (fun ds => .ok (.lst ds)) (aCons (eL (fun ds => .ok (.tup ds)) (aCons (eImm (eVar 3)) (aCons (eImm (eVar 4)) aNil))) (aCons (eL (fun ds => .ok (.tup ds)) (aCons (eImm (eVar 3)) (aCons (eImm (eVar 4)) (aCons (eImm (eVar 5)) (aCons (eImm (eVar 5)) aNil))))) (aCons (eC .non) (aCons (eC (.str "face")) (aCons (eC (.dic [] [])) aNil)))))) (eBin modD (eVar 2) (eC (.int 5)))) aNil)))))
noncomputable def P5 : Tn -> R Fl := (sApp 6 (eL (fun ds => .ok (.tup ds)) (aCons (eImm (eVar 3)) (aCons (eImm (eVar 4)) (aCons (eBin ixD (eL (fun ds => .ok (.lst ds)) (aCons (eC .non) (aCons (eC (.str "a")) (aCons (eC (.int 5)) (aCons (eC (.dic [] [])) (aCons (eL (fun ds => .ok (.tup ds)) (aCons (eL (fun ds => .ok (.tup ds)) (aCons (eC (.str "a")) (aCons (eC (.int 5)) aNil))) (aCons (eC .non) aNil))) aNil)))))) (eBin modD (eVar 2) (eC (.int 5)))) aNil)))))
noncomputable def P6 : Tn -> R Fl := (sRet (eBin ixL (eVar 6) (eBin modD (eVar 1) (eC (.int 8)))))
theorem tSP : F__law_spoilt = runB 7 (sSeq P0 (sSeq P1 (sSeq P2 (sSeq P3 (sSeq P4 (sSeq P5 P6)))))) := rfl
theorem cut_to {α : Type} {xs : List α} {b : Nat} (hb : b <= xs.length) : cutL xs none (some (b : Int)) = xs.take b := by
  unfold cutL
  rw [HT.sIx_nat, HT.sIx_none, Nat.min_eq_left hb]
  rfl
theorem cut_from {α : Type} {xs : List α} {a : Nat} (ha : a <= xs.length) : cutL xs (some (a : Int)) none = xs.drop a := by
  unfold cutL
  rw [HT.sIx_nat, HT.sIx_none, Nat.min_eq_left ha]
  exact List.take_of_length_le (by rw [List.length_drop]; lia)
theorem cut_mid {α : Type} {xs : List α} {a b : Nat} (ha : a <= xs.length) (hb : b <= xs.length) : cutL xs (some (a : Int)) (some (b : Int)) = (xs.drop a).take (b - a) := by
  unfold cutL
  rw [HT.sIx_nat, HT.sIx_nat, Nat.min_eq_left ha, Nat.min_eq_left hb]
theorem imms_P (P : List (Nat × Int)) : D.imms (P.map encPr) = true := imms_map (fun _ => rfl) P
theorem imm_P (P : List (Nat × Int)) : immD (.tup (P.map encPr)) = .ok (.tup (P.map encPr)) := by
  show (if (D.tup (P.map encPr)).imm = true then R.ok (D.tup (P.map encPr)) else .bad) = _
  exact if_pos (imms_P P)
theorem sl_to (P : List (Nat × Int)) (b : Nat) (hb : b <= P.length) : slA (.tup (P.map encPr)) none (some (b : Int)) = .ok (.tup ((P.take b).map encPr)) := by
  show (if D.imms (P.map encPr) = true then R.ok (D.tup (cutL (P.map encPr) none (some (b : Int)))) else .bad) = _
  rw [if_pos (imms_P P), cut_to (by rw [List.length_map]; exact hb), List.map_take]
theorem sl_from (P : List (Nat × Int)) (b : Nat) (hb : b <= P.length) : slA (.tup (P.map encPr)) (some (b : Int)) none = .ok (.tup ((P.drop b).map encPr)) := by
  show (if D.imms (P.map encPr) = true then R.ok (D.tup (cutL (P.map encPr) (some (b : Int)) none)) else .bad) = _
  rw [if_pos (imms_P P), cut_from (by rw [List.length_map]; exact hb), List.map_drop]
theorem sl_mid (P : List (Nat × Int)) (a b : Nat) (ha : a <= P.length) (hb : b <= P.length) : slA (.tup (P.map encPr)) (some (a : Int)) (some (b : Int)) = .ok (.tup (((P.drop a).take (b - a)).map encPr)) := by
  show (if D.imms (P.map encPr) = true then R.ok (D.tup (cutL (P.map encPr) (some (a : Int)) (some (b : Int)))) else .bad) = _
  rw [if_pos (imms_P P), cut_mid (by rw [List.length_map]; exact ha) (by rw [List.length_map]; exact hb), List.map_take, List.map_drop]
theorem add_P (P Q : List (Nat × Int)) (h : P ≠ []) (hl : P.length + Q.length <= 1000) : addD (.tup (P.map encPr)) (.tup (Q.map encPr)) = .ok (.tup ((P ++ Q).map encPr)) := by
  show (if D.imms (P.map encPr) = true /\ D.imms (Q.map encPr) = true /\ P.map encPr ≠ [] /\ (P.map encPr).length + (Q.map encPr).length <= sizeLine then R.ok (D.tup (P.map encPr ++ Q.map encPr)) else .bad) = _
  rw [if_pos ⟨imms_P P, imms_P Q, by simpa using h, by rw [sizeLine_eq, List.length_map, List.length_map]; lia⟩, List.map_append]
theorem rev_P (P : List (Nat × Int)) : revTD (.tup (P.map encPr)) = .ok (.tup (P.reverse.map encPr)) := by
  show (if D.imms (P.map encPr) = true then R.ok (D.tup (P.map encPr).reverse) else .bad) = _
  rw [if_pos (imms_P P), List.map_reverse]
theorem nonup {P : List (Nat × Int)} (G : Gd P) (Q : List (Nat × Int)) (hs : ∀ p ∈ Q, p ∈ P) (hn : ¬ (Q.map Prod.fst).Pairwise (· < ·)) : F_is_odd [.tup (Q.map encPr)] = .ok (.bl false) := by
  rw [odd_of Q (fun p hp => G.ok p (hs p hp)) (fun p hp => G.bd p (hs p hp)), decide_eq_false hn]
theorem two {P : List (Nat × Int)} (h : 1 < P.length) : ∃ p0 p1 r, P = p0 :: p1 :: r := by
  rcases P with _ | ⟨p0, _ | ⟨p1, r⟩⟩
  · cases h
  · exact absurd h (by simp)
  · exact ⟨p0, p1, r, rfl⟩
theorem four {P : List (Nat × Int)} (G : Gd P) (h : 1 < P.length) (k : Nat) (hk : k < P.length) : ∀ d ∈ [D.tup (P.reverse.map encPr), .tup ((P.take (1 + k) ++ P.drop k).map encPr), .tup ((P.take 1 ++ P).map encPr), .tup (((P.drop 1).take 1 ++ P.take 1 ++ P.drop 2).map encPr)], F_is_odd [d] = .ok (.bl false) := by
  obtain ⟨p0, p1, r, e⟩ := two h
  have h01 : p0.1 < p1.1 := by
    have := G.up
    rw [e, List.map_cons, List.map_cons] at this
    exact (List.pairwise_cons.mp this).1 _ List.mem_cons_self
  intro d hd
  simp only [List.mem_cons, List.not_mem_nil, or_false] at hd
  rcases hd with rfl | rfl | rfl | rfl
  · refine nonup G _ (fun p hp => List.mem_reverse.mp hp) fun hq => ?_
    rw [List.map_reverse, List.pairwise_reverse, e, List.map_cons, List.map_cons] at hq
    have := (List.pairwise_cons.mp hq).1 p1.1 List.mem_cons_self
    lia
  · refine nonup G _ (fun p hp => ?_) fun hq => ?_
    · rcases List.mem_append.mp hp with q | q
      · exact List.mem_of_mem_take q
      · exact List.mem_of_mem_drop q
    · rw [List.map_append] at hq
      have h1 : P[k] ∈ P.take (1 + k) := List.mem_of_getElem? (i := k) (by rw [List.getElem?_take_of_lt (by lia), List.getElem?_eq_getElem hk])
      have h2 : P[k] ∈ P.drop k := List.mem_of_getElem? (i := 0) (by rw [List.getElem?_drop, Nat.add_zero, List.getElem?_eq_getElem hk])
      have := (List.pairwise_append.mp hq).2.2 _ (List.mem_map.mpr ⟨_, h1, rfl⟩) _ (List.mem_map.mpr ⟨_, h2, rfl⟩)
      lia
  · refine nonup G _ (fun p hp => ?_) fun hq => ?_
    · rcases List.mem_append.mp hp with q | q
      · exact List.mem_of_mem_take q
      · exact q
    · rw [List.map_append] at hq
      have := (List.pairwise_append.mp hq).2.2 p0.1 (by rw [e]; exact List.mem_cons_self) p0.1 (by rw [e]; exact List.mem_cons_self)
      lia
  · refine nonup G _ (fun p hp => ?_) fun hq => ?_
    · rcases List.mem_append.mp hp with q | q
      · rcases List.mem_append.mp q with q | q
        · exact List.mem_of_mem_drop (List.mem_of_mem_take q)
        · exact List.mem_of_mem_take q
      · exact List.mem_of_mem_drop q
    · rw [List.map_append, List.map_append] at hq
      have hq := (List.pairwise_append.mp hq).1
      have := (List.pairwise_append.mp hq).2.2 p1.1 (by rw [e]; exact List.mem_cons_self) p0.1 (by rw [e]; exact List.mem_cons_self)
      lia
noncomputable def seven (ws ww : D) : List D := [.tup [ws, .int 5], .tup [.str "a", ww], .lst [.str "a", .int 5], .tup [.str "a", .int 5, .int 5], .tup [.str "a"], .non, .str "a5"]
theorem ok_a : okS 97 := by unfold okS; decide +kernel
theorem sign_a : F_is_sign [.str "a"] = .ok (.bl true) := by
  have := is_sign 97
  rw [decide_eq_true ok_a] at this
  exact this
theorem seven_no (ws ww : D) (h1 : F_is_sign [ws] = .ok (.bl false)) (h2 : F_is_width [ww] = .ok (.bl false)) : ∀ d ∈ seven ws ww, It d none := by
  intro d hd
  unfold seven at hd
  simp only [List.mem_cons, List.not_mem_nil, or_false] at hd
  rcases hd with rfl | rfl | rfl | rfl | rfl | rfl | rfl
  · exact ⟨pair_g _ _ _ _ h1 (width_ok 5 (by decide) (by decide)), fun p e => by cases e⟩
  · exact ⟨pair_g _ _ _ _ sign_a h2, fun p e => by cases e⟩
  · exact pair_no _ rfl
  · exact pair_len _ (by decide)
  · exact pair_len _ (by decide)
  · exact pair_no _ rfl
  · exact pair_no _ rfl
theorem wo_tail (A B : List (Nat × Int)) (d : D) (hl : A.length + B.length <= 100) : ∃ M, catTD (.tup (A.map encPr)) (.tup [d]) = .ok (.tup M) /\ catTD (.tup M) (.tup (B.map encPr)) = .ok (.tup (A.map encPr ++ [d] ++ B.map encPr)) := by
  refine ⟨A.map encPr ++ [d], ?_, ?_⟩
  · show (if (A.map encPr).length + [d].length <= sizeLine then R.ok (D.tup (A.map encPr ++ [d])) else .bad) = _
    rw [if_pos (by rw [sizeLine_eq, List.length_map]; show _ + 1 <= _; lia)]
  · show (if (A.map encPr ++ [d]).length + (B.map encPr).length <= sizeLine then R.ok (D.tup (A.map encPr ++ [d] ++ B.map encPr)) else .bad) = _
    rw [if_pos (by rw [sizeLine_eq, List.length_append, List.length_map, List.length_map, List.length_singleton]; lia)]
theorem wrong_odd (P : List (Nat × Int)) (G : Gd P) (hl : P.length <= 9) (n : Int) : ∃ d, F__law_wrong_odd [.tup (P.map encPr), .int n] = .ok d /\ F_is_odd [d] = .ok (.bl false) := by
  have e : lenD [.tup (P.map encPr)] = .ok (.int (P.length : Nat)) := by
    show R.ok (D.int ((P.map encPr).length : Nat)) = _
    rw [List.length_map]
  have mN : modD (.int n) (.int ((P.length : Nat) + 1)) = .ok (.int (n % ((P.length : Nat) + 1))) := ev_mod (by lia)
  have q0 : 0 <= n % (((P.length : Nat) : Int) + 1) := Int.emod_nonneg _ (by lia)
  have q1 : n % (((P.length : Nat) : Int) + 1) < ((P.length : Nat) : Int) + 1 := Int.emod_lt_of_pos _ (by lia)
  generalize n % (((P.length : Nat) : Int) + 1) = Q at *
  have d11 : fdivD (.int n) (.int 11) = .ok (.int (n / 11)) := ev_fdiv (by decide) (by decide)
  have d7 : fdivD (.int n) (.int 7) = .ok (.int (n / 7)) := ev_fdiv (by decide) (by decide)
  have m3 : modD (.int (n / 7)) (.int 3) = .ok (.int (n / 7 % 3)) := ev_mod (by decide)
  have m4 : modD (.int (n / 11)) (.int 4) = .ok (.int (n / 11 % 4)) := ev_mod (by decide)
  have m7 : modD (.int (n / 11)) (.int 7) = .ok (.int (n / 11 % 7)) := ev_mod (by decide)
  obtain ⟨ws, hws, hws2⟩ := wrong_sign (n / 11)
  obtain ⟨ww, hww, hww2⟩ := wrong_width (n / 11)
  have e0 : W0 [some (.tup (P.map encPr)), some (.int n), none, none, none, none] = .ok (.nx [some (.tup (P.map encPr)), some (.int n), some (.int Q), none, none, none]) := by
    clear q0 q1 hws2 hww2
    generalize P.map encPr = L at *
    generalize ((P.length : Nat) : Int) = N at *
    simp only [W0, sSet, eVar, eC, eBin, eL, aNil, aCons, R.ok_bind, List.getElem?_cons_zero, List.getElem?_cons_succ, List.set_cons_zero, List.set_cons_succ, ev_add, e, mN]
  have e2 : (sSeq W1 W2) [some (.tup (P.map encPr)), some (.int n), some (.int Q), none, none, none] = .ok (.nx [some (.tup (P.map encPr)), some (.int n), some (.int Q), some (.int (n / 11)), some (.lst (seven ws ww)), none]) := by
    unfold seven
    generalize P.map encPr = L at *
    simp only [W1, W2, sSeq, sSet, eVar, eC, eBin, eL, aNil, aCons, R.ok_bind, List.getElem?_cons_zero, List.getElem?_cons_succ, List.set_cons_zero, List.set_cons_succ, d11, hws, hww]
  have e12 : ∃ τ, W1 [some (.tup (P.map encPr)), some (.int n), some (.int Q), none, none, none] = .ok (.nx τ) /\ W2 τ = .ok (.nx [some (.tup (P.map encPr)), some (.int n), some (.int Q), some (.int (n / 11)), some (.lst (seven ws ww)), none]) := by
    unfold sSeq at e2
    cases h : W1 [some (.tup (P.map encPr)), some (.int n), some (.int Q), none, none, none] with
    | ok f => rw [h, R.ok_bind] at e2; cases f with
      | nx τ => exact ⟨τ, rfl, e2⟩
      | _ => cases e2
    | err m => rw [h] at e2; cases e2
    | bad => rw [h] at e2; cases e2
  obtain ⟨τ1, e1, e2⟩ := e12
  rw [tWO]
  have main : (∃ d, W3 [some (.tup (P.map encPr)), some (.int n), some (.int Q), some (.int (n / 11)), some (.lst (seven ws ww)), none] = .ok (.rt d) /\ F_is_odd [d] = .ok (.bl false)) \/ (W3 [some (.tup (P.map encPr)), some (.int n), some (.int Q), some (.int (n / 11)), some (.lst (seven ws ww)), none] = .ok (.nx [some (.tup (P.map encPr)), some (.int n), some (.int Q), some (.int (n / 11)), some (.lst (seven ws ww)), none])) := by
    cases z1 : decide (n / 7 % 3 > 0) with
    | false =>
      refine .inr ?_
      generalize P.map encPr = L at *
      generalize n / 7 % 3 = k at *
      simp only [W3, ev_eImm, sSkip, sSeq, sSet, sRet, sIf, eVar, eC, eBin, eL, aNil, aCons, eTest, bAnd, asB, R.ok_bind, List.getElem?_cons_zero, List.getElem?_cons_succ, List.set_cons_zero, List.set_cons_succ, ev_gt, if_false, Bool.false_eq_true, d7, m3, z1]
    | true =>
      cases z2 : decide (((P.length : Nat) : Int) > 1) with
      | false =>
        refine .inr ?_
        clear q0 q1 mN
        generalize P.map encPr = L at *
        generalize ((P.length : Nat) : Int) = N at *
        generalize n / 7 % 3 = k at *
        simp only [W3, ev_eImm, sSkip, sSeq, sSet, sRet, sIf, eVar, eC, eBin, eL, aNil, aCons, eTest, bAnd, asB, R.ok_bind, List.getElem?_cons_zero, List.getElem?_cons_succ, List.set_cons_zero, List.set_cons_succ, ev_gt, if_true, if_false, Bool.false_eq_true, d7, m3, z1, e, z2]
      | true =>
        have hgt : 1 < P.length := by have := of_decide_eq_true z2; lia
        have mr : modD (.int Q) (.int (P.length : Nat)) = .ok (.int (Q % (P.length : Nat))) := ev_mod (by lia)
        have r0 : 0 <= Q % ((P.length : Nat) : Int) := Int.emod_nonneg _ (by lia)
        have r1 : Q % ((P.length : Nat) : Int) < ((P.length : Nat) : Int) := Int.emod_lt_of_pos _ (by lia)
        generalize Q % ((P.length : Nat) : Int) = k at *
        have hk : k.toNat < P.length := by lia
        have F4 := four G hgt k.toNat hk
        have s1 := sl_to P (1 + k.toNat) (by lia)
        rw [show (((1 + k.toNat : Nat) : Int)) = 1 + k by lia] at s1
        have s2 := sl_from P k.toNat (by lia)
        rw [show ((k.toNat : Nat) : Int) = k by lia] at s2
        have s3 : slA (.tup (P.map encPr)) none (some 1) = .ok (.tup ((P.take 1).map encPr)) := sl_to P 1 (by lia)
        have s4 : slA (.tup (P.map encPr)) (some 1) (some 2) = .ok (.tup (((P.drop 1).take 1).map encPr)) := sl_mid P 1 2 (by lia) (by lia)
        have s5 : slA (.tup (P.map encPr)) (some 2) none = .ok (.tup ((P.drop 2).map encPr)) := sl_from P 2 (by lia)
        have n1 : P.take (1 + k.toNat) ≠ [] := fun z => by have := congrArg List.length z; rw [List.length_take, List.length_nil] at this; lia
        have n2 : P.take 1 ≠ [] := fun z => by have := congrArg List.length z; rw [List.length_take, List.length_nil] at this; lia
        have n3 : (P.drop 1).take 1 ≠ [] := fun z => by have := congrArg List.length z; rw [List.length_take, List.length_drop, List.length_nil] at this; lia
        have n4 : (P.drop 1).take 1 ++ P.take 1 ≠ [] := fun z => n3 (List.append_eq_nil_iff.mp z).1
        have a1 := add_P (P.take (1 + k.toNat)) (P.drop k.toNat) n1 (by rw [List.length_take, List.length_drop]; lia)
        have a2 := add_P (P.take 1) P n2 (by rw [List.length_take]; lia)
        have a3 := add_P ((P.drop 1).take 1) (P.take 1) n3 (by rw [List.length_take, List.length_take]; lia)
        have a4 := add_P ((P.drop 1).take 1 ++ P.take 1) (P.drop 2) n4 (by rw [List.length_append, List.length_take, List.length_take, List.length_drop, List.length_drop]; lia)
        have rv := rev_P P
        have im := imm_P (P.take (1 + k.toNat) ++ P.drop k.toNat)
        have hi : (n / 11 % 4).toNat < [D.tup (P.reverse.map encPr), .tup ((P.take (1 + k.toNat) ++ P.drop k.toNat).map encPr), .tup ((P.take 1 ++ P).map encPr), .tup (((P.drop 1).take 1 ++ P.take 1 ++ P.drop 2).map encPr)].length := by show _ < 4; lia
        have hx : ixD (.lst [D.tup (P.reverse.map encPr), .tup ((P.take (1 + k.toNat) ++ P.drop k.toNat).map encPr), .tup ((P.take 1 ++ P).map encPr), .tup (((P.drop 1).take 1 ++ P.take 1 ++ P.drop 2).map encPr)]) (.int (n / 11 % 4)) = .ok ([D.tup (P.reverse.map encPr), .tup ((P.take (1 + k.toNat) ++ P.drop k.toNat).map encPr), .tup ((P.take 1 ++ P).map encPr), .tup (((P.drop 1).take 1 ++ P.take 1 ++ P.drop 2).map encPr)][(n / 11 % 4).toNat]) := ev_ixl (atI_ok (by lia) (List.getElem?_eq_getElem hi))
        have hw := F4 _ (List.getElem_mem hi)
        refine .inl ⟨_, ?_, hw⟩
        clear hw F4 n1 n2 n3 n4 hws2 hww2
        generalize [D.tup (P.reverse.map encPr), .tup ((P.take (1 + k.toNat) ++ P.drop k.toNat).map encPr), .tup ((P.take 1 ++ P).map encPr), .tup (((P.drop 1).take 1 ++ P.take 1 ++ P.drop 2).map encPr)][(n / 11 % 4).toNat] = d at *
        have ev1 : eRevT (eVar 0) = fun τ => (eVar 0 τ).bind revTD := rfl
        have ea : ∀ (t : Tn -> R D) (tl th : Tn -> R (Option Int)) (τ : Tn), eSlA t tl th τ = (t τ).bind fun x => (tl τ).bind fun l => (th τ).bind fun h => slA x l h := fun _ _ _ _ => rfl
        generalize ((P.drop 1).take 1 ++ P.take 1 ++ P.drop 2).map encPr = X1 at *
        generalize ((P.drop 1).take 1 ++ P.take 1).map encPr = X2 at *
        generalize ((P.drop 1).take 1).map encPr = X3 at *
        generalize (P.take 1 ++ P).map encPr = X4 at *
        generalize (P.take (1 + k.toNat) ++ P.drop k.toNat).map encPr = X5 at *
        generalize (P.take (1 + k.toNat)).map encPr = X6 at *
        generalize (P.drop k.toNat).map encPr = X7 at *
        generalize (P.take 1).map encPr = X8 at *
        generalize (P.drop 2).map encPr = X9 at *
        generalize P.reverse.map encPr = X10 at *
        generalize P.map encPr = L at *
        generalize seven ws ww = SV at *
        generalize ((P.length : Nat) : Int) = N at *
        generalize n / 7 % 3 = kk3 at *
        generalize n / 11 % 4 = k4 at *
        simp only [W3, ev_eImm, sSkip, sSeq, sSet, sRet, sIf, eVar, eC, eBin, eL, aNil, aCons, eTest, bAnd, oNone, oSome, asB, R.ok_bind, List.getElem?_cons_zero, List.getElem?_cons_succ, List.set_cons_zero, List.set_cons_succ, ev_add, ev_gt, if_true, ev1, ea, d7, m3, z1, e, z2, mr, s1, s2, s3, s4, s5, a1, a2, a3, a4, rv, im, m4, hx]
  rcases main with ⟨d, h3, hd⟩ | h3
  · refine ⟨d, ?_, hd⟩
    generalize P.map encPr = L at *
    generalize seven ws ww = SV at *
    simp only [runB, sSeq, R.ok_bind, List.map_cons, List.map_nil, List.length_cons, List.length_nil, List.replicate_succ, List.replicate_zero, List.cons_append, List.nil_append, Nat.reduceAdd, Nat.reduceSub, Nat.zero_add, e0, e1, e2, h3]
  · have hi : (n / 11 % 7).toNat < (seven ws ww).length := by show _ < 7; lia
    have hx : ixL (.lst (seven ws ww)) (.int (n / 11 % 7)) = .ok (seven ws ww)[(n / 11 % 7).toNat] := ev_ixl (atI_ok (by lia) (List.getElem?_eq_getElem hi))
    have hi2 := seven_no ws ww hws2 hww2 _ (List.getElem_mem hi)
    have hq : Q.toNat <= P.length := by lia
    have s1 := sl_to P Q.toNat hq
    have s2 := sl_from P Q.toNat hq
    rw [show ((Q.toNat : Nat) : Int) = Q by lia] at s1 s2
    obtain ⟨M, c1, c2⟩ := wo_tail (P.take Q.toNat) (P.drop Q.toNat) (seven ws ww)[(n / 11 % 7).toNat] (by rw [List.length_take, List.length_drop]; lia)
    refine ⟨_, ?_, odd_bad (P.take Q.toNat) (P.drop Q.toNat) (seven ws ww)[(n / 11 % 7).toNat] (fun p hp => by rw [List.take_append_drop] at hp; exact ⟨G.ok p hp, G.bd p hp⟩) hi2⟩
    clear hi2 hws2 hww2
    have ea : ∀ (t : Tn -> R D) (tl th : Tn -> R (Option Int)) (τ : Tn), eSlA t tl th τ = (t τ).bind fun x => (tl τ).bind fun l => (th τ).bind fun h => slA x l h := fun _ _ _ _ => rfl
    generalize (P.take Q.toNat).map encPr ++ [(seven ws ww)[(n / 11 % 7).toNat]] ++ (P.drop Q.toNat).map encPr = X1 at *
    generalize (seven ws ww)[(n / 11 % 7).toNat] = d at *
    generalize (P.take Q.toNat).map encPr = X2 at *
    generalize (P.drop Q.toNat).map encPr = X3 at *
    generalize P.map encPr = L at *
    generalize seven ws ww = SV at *
    generalize n / 11 % 7 = k7 at *
    simp only [W4, runB, sSeq, sRet, eVar, eC, eBin, eL, aNil, aCons, oNone, oSome, R.ok_bind, List.map_cons, List.map_nil, List.length_cons, List.length_nil, List.replicate_succ, List.replicate_zero, List.cons_append, List.nil_append, List.getElem?_cons_zero, List.getElem?_cons_succ, Nat.reduceAdd, Nat.reduceSub, Nat.zero_add, ea, e0, e1, e2, h3, m7, hx, s1, s2, c1, c2]
noncomputable def five (pl bl : Int) (L : List D) : List D := [.tup [.int pl, .int bl], .tup [.int pl, .int bl, .tup L, .tup L], .non, .str "face", .dic [] []]
theorem five_no (pl bl : Int) (L : List D) : ∀ d ∈ five pl bl L, F_is_face [d] = .ok (.bl false) := by
  intro d hd
  unfold five at hd
  simp only [List.mem_cons, List.not_mem_nil, or_false] at hd
  rcases hd with rfl | rfl | rfl | rfl | rfl
  · exact face_len _ (by show 2 ≠ 3; decide)
  · exact face_len _ (by show 4 ≠ 3; decide)
  · exact face_no _ rfl
  · exact face_no _ rfl
  · exact face_no _ rfl
noncomputable def fiveO : List D := [.non, .str "a", .int 5, .dic [] [], .tup [.tup [.str "a", .int 5], .non]]
theorem fiveO_no : ∀ d ∈ fiveO, F_is_odd [d] = .ok (.bl false) := by
  intro d hd
  unfold fiveO at hd
  simp only [List.mem_cons, List.not_mem_nil, or_false] at hd
  rcases hd with rfl | rfl | rfl | rfl | rfl
  · exact is_odd_no _ rfl
  · exact is_odd_no _ rfl
  · exact is_odd_no _ rfl
  · exact is_odd_no _ rfl
  · exact odd_bad [(97, 5)] [] .non (fun p hp => by
      have : p = (97, 5) := List.mem_singleton.mp hp
      rw [this]
      exact ⟨ok_a, by decide, by decide⟩) (pair_no _ rfl)
theorem cat_l (xs ys : List D) (h : xs.length + ys.length <= 100) : catD (.lst xs) (.lst ys) = .ok (.lst (xs ++ ys)) := by
  show (if xs.length + ys.length <= sizeLine then R.ok (D.lst (xs ++ ys)) else .bad) = _
  exact if_pos (by rw [sizeLine_eq]; lia)
theorem sp_seq (FC : D) (n pl bl : Int) (L : List D) (ww wo1 wo2 X Y Z : D) (hF : FC = .tup [.int pl, .int bl, .tup L]) (hI : immD (.tup L) = .ok (.tup L)) (hL : list1D [.tup L] = .ok (.lst L)) (h1 : F__law_wrong_width [.int (n / 8)] = .ok ww) (h2 : F__law_wrong_odd [.tup L, .int (n / 8)] = .ok wo1) (h3 : F__law_wrong_odd [.tup L, .int (n / 8 / 3)] = .ok wo2)
    (hX : ixD (.lst (five pl bl L)) (.int (n / 8 % 5)) = .ok X) (hY : ixD (.lst fiveO) (.int (n / 8 % 5)) = .ok Y)
    (hZ : ixL (.lst [.tup [ww, .int bl, .tup L], .tup [.int pl, ww, .tup L], .tup [.int pl, .int bl, .lst L], .tup [.int pl, .int bl, wo1], .tup [.int pl, .int bl, wo2], .lst [.int pl, .int bl, .tup L], X, .tup [.int pl, .int bl, Y]]) (.int (n % 8)) = .ok Z) : F__law_spoilt [FC, .int n] = .ok Z := by
  have d8 : fdivD (.int n) (.int 8) = .ok (.int (n / 8)) := ev_fdiv (by decide) (by decide)
  have d3 : fdivD (.int (n / 8)) (.int 3) = .ok (.int (n / 8 / 3)) := ev_fdiv (by decide) (by decide)
  have m5 : modD (.int (n / 8)) (.int 5) = .ok (.int (n / 8 % 5)) := ev_mod (by decide)
  have m8 : modD (.int n) (.int 8) = .ok (.int (n % 8)) := ev_mod (by decide)
  have c1 := cat_l [.tup [ww, .int bl, .tup L], .tup [.int pl, ww, .tup L], .tup [.int pl, .int bl, .lst L]] [.tup [.int pl, .int bl, wo1], .tup [.int pl, .int bl, wo2]] (by show 3 + 2 <= 100; decide)
  have c2 := cat_l [.tup [ww, .int bl, .tup L], .tup [.int pl, ww, .tup L], .tup [.int pl, .int bl, .lst L], .tup [.int pl, .int bl, wo1], .tup [.int pl, .int bl, wo2]] [.lst [.int pl, .int bl, .tup L], X] (by show 5 + 2 <= 100; decide)
  simp only [List.cons_append, List.nil_append] at c1 c2
  have k0 : P0 [some FC, some (.int n), none, none, none, none, none] = .ok (.nx [some FC, some (.int n), some (.int (n / 8)), none, none, none, none]) := by
    simp only [P0, sSet, eVar, eC, eBin, R.ok_bind, List.getElem?_cons_zero, List.getElem?_cons_succ, List.set_cons_zero, List.set_cons_succ, d8]
  have k1 : P1 [some FC, some (.int n), some (.int (n / 8)), none, none, none, none] = .ok (.nx [some FC, some (.int n), some (.int (n / 8)), some (.int pl), some (.int bl), some (.tup L), none]) := by
    subst hF
    rfl
  generalize FC = FF at *
  have k2 : P2 [some FF, some (.int n), some (.int (n / 8)), some (.int pl), some (.int bl), some (.tup L), none] = .ok (.nx [some FF, some (.int n), some (.int (n / 8)), some (.int pl), some (.int bl), some (.tup L), some (.lst [.tup [ww, .int bl, .tup L], .tup [.int pl, ww, .tup L], .tup [.int pl, .int bl, .lst L]])]) := by
    clear hZ hX hY c1 c2
    simp only [P2, ev_eImm, ev_immI, sSet, eVar, eL, aNil, aCons, R.ok_bind, List.getElem?_cons_zero, List.getElem?_cons_succ, List.set_cons_zero, List.set_cons_succ, h1, hI, hL]
  have k3 : P3 [some FF, some (.int n), some (.int (n / 8)), some (.int pl), some (.int bl), some (.tup L), some (.lst [.tup [ww, .int bl, .tup L], .tup [.int pl, ww, .tup L], .tup [.int pl, .int bl, .lst L]])] = .ok (.nx [some FF, some (.int n), some (.int (n / 8)), some (.int pl), some (.int bl), some (.tup L), some (.lst [.tup [ww, .int bl, .tup L], .tup [.int pl, ww, .tup L], .tup [.int pl, .int bl, .lst L], .tup [.int pl, .int bl, wo1], .tup [.int pl, .int bl, wo2]])]) := by
    clear hZ hX hY c2
    simp only [P3, ev_eImm, ev_immI, sSet, eVar, eC, eBin, eL, aNil, aCons, R.ok_bind, List.getElem?_cons_zero, List.getElem?_cons_succ, List.set_cons_zero, List.set_cons_succ, h2, h3, d3, c1]
  unfold five at hX
  have k4 : P4 [some FF, some (.int n), some (.int (n / 8)), some (.int pl), some (.int bl), some (.tup L), some (.lst [.tup [ww, .int bl, .tup L], .tup [.int pl, ww, .tup L], .tup [.int pl, .int bl, .lst L], .tup [.int pl, .int bl, wo1], .tup [.int pl, .int bl, wo2]])] = .ok (.nx [some FF, some (.int n), some (.int (n / 8)), some (.int pl), some (.int bl), some (.tup L), some (.lst [.tup [ww, .int bl, .tup L], .tup [.int pl, ww, .tup L], .tup [.int pl, .int bl, .lst L], .tup [.int pl, .int bl, wo1], .tup [.int pl, .int bl, wo2], .lst [.int pl, .int bl, .tup L], X])]) := by
    clear hZ hY c1
    generalize n / 8 % 5 = k5 at *
    simp only [P4, ev_eImm, ev_immI, sSet, eVar, eC, eBin, eL, aNil, aCons, R.ok_bind, List.getElem?_cons_zero, List.getElem?_cons_succ, List.set_cons_zero, List.set_cons_succ, m5, hX, hI, c2]
  unfold fiveO at hY
  have k5 : P5 [some FF, some (.int n), some (.int (n / 8)), some (.int pl), some (.int bl), some (.tup L), some (.lst [.tup [ww, .int bl, .tup L], .tup [.int pl, ww, .tup L], .tup [.int pl, .int bl, .lst L], .tup [.int pl, .int bl, wo1], .tup [.int pl, .int bl, wo2], .lst [.int pl, .int bl, .tup L], X])] = .ok (.nx [some FF, some (.int n), some (.int (n / 8)), some (.int pl), some (.int bl), some (.tup L), some (.lst [.tup [ww, .int bl, .tup L], .tup [.int pl, ww, .tup L], .tup [.int pl, .int bl, .lst L], .tup [.int pl, .int bl, wo1], .tup [.int pl, .int bl, wo2], .lst [.int pl, .int bl, .tup L], X, .tup [.int pl, .int bl, Y]])]) := by
    clear hZ hX c1 c2
    generalize n / 8 % 5 = k5 at *
    have hlen : ([.tup [ww, .int bl, .tup L], .tup [.int pl, ww, .tup L], .tup [.int pl, .int bl, .lst L], .tup [.int pl, .int bl, wo1], .tup [.int pl, .int bl, wo2], .lst [.int pl, .int bl, .tup L], X] : List D).length < 16777216 := by show 7 < _; decide
    have e : P5 [some FF, some (.int n), some (.int (n / 8)), some (.int pl), some (.int bl), some (.tup L), some (.lst [.tup [ww, .int bl, .tup L], .tup [.int pl, ww, .tup L], .tup [.int pl, .int bl, .lst L], .tup [.int pl, .int bl, wo1], .tup [.int pl, .int bl, wo2], .lst [.int pl, .int bl, .tup L], X])] = .ok (.nx [some FF, some (.int n), some (.int (n / 8)), some (.int pl), some (.int bl), some (.tup L), some (.lst ([.tup [ww, .int bl, .tup L], .tup [.int pl, ww, .tup L], .tup [.int pl, .int bl, .lst L], .tup [.int pl, .int bl, wo1], .tup [.int pl, .int bl, wo2], .lst [.int pl, .int bl, .tup L], X] ++ [.tup [.int pl, .int bl, Y]]))]) := by
      generalize ([.tup [ww, .int bl, .tup L], .tup [.int pl, ww, .tup L], .tup [.int pl, .int bl, .lst L], .tup [.int pl, .int bl, wo1], .tup [.int pl, .int bl, wo2], .lst [.int pl, .int bl, .tup L], X] : List D) = XS at *
      simp only [P5, ev_sApp, ev_appL, ev_appD, ev_eImm, ev_immI, eVar, eC, eBin, eL, aNil, aCons, R.ok_bind, List.getElem?_cons_zero, List.getElem?_cons_succ, List.set_cons_zero, List.set_cons_succ, m5, hY, hlen]
    exact e
  rw [tSP]
  generalize ([.tup [ww, .int bl, .tup L], .tup [.int pl, ww, .tup L], .tup [.int pl, .int bl, .lst L], .tup [.int pl, .int bl, wo1], .tup [.int pl, .int bl, wo2], .lst [.int pl, .int bl, .tup L], X, .tup [.int pl, .int bl, Y]] : List D) = XS at *
  generalize n % 8 = k8 at *
  simp only [runB, sSeq, sRet, eVar, eC, eBin, R.ok_bind, List.map_cons, List.map_nil, List.length_cons, List.length_nil, List.replicate_succ, List.replicate_zero, List.cons_append, List.nil_append, List.getElem?_cons_zero, List.getElem?_cons_succ, Nat.reduceAdd, Nat.reduceSub, Nat.zero_add, k0, k1, k2, k3, k4, k5, P6, m8, hZ]
theorem spoilt (P : List (Nat × Int)) (G : Gd P) (hl : P.length <= 9) (pl bl : Int) (p1 : 1 <= pl /\ pl <= 20) (b1 : 1 <= bl /\ bl <= 20) (n : Int) : ∃ d, F__law_spoilt [.tup [.int pl, .int bl, .tup (P.map encPr)], .int n] = .ok d /\ F_is_face [d] = .ok (.bl false) := by
  obtain ⟨ww, h1, w1⟩ := wrong_width (n / 8)
  obtain ⟨wo1, h2, w2⟩ := wrong_odd P G hl (n / 8)
  obtain ⟨wo2, h3, w3⟩ := wrong_odd P G hl (n / 8 / 3)
  have hpl := width_ok pl p1.1 p1.2
  have hbl := width_ok bl b1.1 b1.2
  have hi : (n / 8 % 5).toNat < (five pl bl (P.map encPr)).length := by show _ < 5; lia
  have hX : ixD (.lst (five pl bl (P.map encPr))) (.int (n / 8 % 5)) = .ok (five pl bl (P.map encPr))[(n / 8 % 5).toNat] := ev_ixl (atI_ok (by lia) (List.getElem?_eq_getElem hi))
  have fX := five_no pl bl (P.map encPr) _ (List.getElem_mem hi)
  have hi2 : (n / 8 % 5).toNat < fiveO.length := by show _ < 5; lia
  have hY : ixD (.lst fiveO) (.int (n / 8 % 5)) = .ok fiveO[(n / 8 % 5).toNat] := ev_ixl (atI_ok (by lia) (List.getElem?_eq_getElem hi2))
  have fY := fiveO_no _ (List.getElem_mem hi2)
  generalize (five pl bl (P.map encPr))[(n / 8 % 5).toNat] = X at *
  generalize fiveO[(n / 8 % 5).toNat] = Y at *
  have godd : F_is_odd [.tup (P.map encPr)] = .ok (.bl true) := by rw [odd_of P G.ok G.bd, decide_eq_true G.up]
  have hw : ∀ d ∈ ([.tup [ww, .int bl, .tup (P.map encPr)], .tup [.int pl, ww, .tup (P.map encPr)], .tup [.int pl, .int bl, .lst (P.map encPr)], .tup [.int pl, .int bl, wo1], .tup [.int pl, .int bl, wo2], .lst [.int pl, .int bl, .tup (P.map encPr)], X, .tup [.int pl, .int bl, Y]] : List D), F_is_face [d] = .ok (.bl false) := by
    intro d hd
    simp only [List.mem_cons, List.not_mem_nil, or_false] at hd
    rcases hd with rfl | rfl | rfl | rfl | rfl | rfl | rfl | rfl
    · exact face_g _ _ _ _ _ _ w1 hbl godd
    · exact face_g _ _ _ _ _ _ hpl w1 godd
    · exact face_g _ _ _ _ _ _ hpl hbl (is_odd_no _ rfl)
    · exact face_g _ _ _ _ _ _ hpl hbl w2
    · exact face_g _ _ _ _ _ _ hpl hbl w3
    · exact face_no _ rfl
    · exact fX
    · exact face_g _ _ _ _ _ _ hpl hbl fY
  have hi3 : (n % 8).toNat < ([.tup [ww, .int bl, .tup (P.map encPr)], .tup [.int pl, ww, .tup (P.map encPr)], .tup [.int pl, .int bl, .lst (P.map encPr)], .tup [.int pl, .int bl, wo1], .tup [.int pl, .int bl, wo2], .lst [.int pl, .int bl, .tup (P.map encPr)], X, .tup [.int pl, .int bl, Y]] : List D).length := by show _ < 8; lia
  exact ⟨_, sp_seq _ n pl bl _ ww wo1 wo2 X Y _ rfl (imm_P P) (by show (if D.imms (P.map encPr) = true then R.ok (D.lst (P.map encPr)) else .bad) = _; exact if_pos (imms_P P)) h1 h2 h3 hX hY (ev_ixl (atI_ok (by lia) (List.getElem?_eq_getElem hi3))), hw _ (List.getElem_mem hi3)⟩
end K01

set_option maxRecDepth 100000
set_option maxHeartbeats 4000000
namespace K01
open PySem PyProof.Rows L2
noncomputable def bL : Tn -> R Fl := (sSeq (sSet 7 (eBin modD (eBin mulD (eBin addD (eL F__law_cell_at (aCons (eVar 0) (aCons (eBin addD (eC (.int 18)) (eBin modD (eVar 6) (eC (.int 9)))) aNil))) (eBin mulD (eC (.int 31)) (eVar 6))) (eC (.int 16807))) (eC (.int 1000003)))) (sSeq (sSet 5 (eBin addD (eVar 5) (eBin ixD (eBin addD (eVar 1) (eC (.str "  "))) (eBin modD (eVar 7) (eC (.int 76)))))) (sIf (bAnd (eTest (eBin (eqR false) (eBin modD (eBin fdivD (eVar 7) (eC (.int 76))) (eC (.int 3))) (eC (.int 1)))) (eTest (eBin (eqR true) (eBin ixD (eVar 2) (eC (.int 2))) (eL (fun ds => .ok (.tup ds)) aNil)))) (sSet 5 (eBin addD (eSl (eVar 5) oNone (oSome (eUn negD (eC (.int 1))))) (eBin ixD (eBin ixD (eBin ixD (eVar 2) (eC (.int 2))) (eBin modD (eBin fdivD (eVar 7) (eC (.int 228))) (eL lenD (aCons (eBin ixD (eVar 2) (eC (.int 2))) aNil)))) (eC (.int 0))))) sSkip)))
noncomputable def L0 : Tn -> R Fl := (sSet 1 (fun _ => F__law_signs []))
noncomputable def L1 : Tn -> R Fl := (sSet 2 (eL (fun ds => .ok (.tup ds)) (aCons (eBin addD (eC (.int 1)) (eBin modD (eL F__law_cell_at (aCons (eVar 0) (aCons (eC (.int 0)) aNil))) (eC (.int 20)))) (aCons (eBin addD (eC (.int 1)) (eBin modD (eL F__law_cell_at (aCons (eVar 0) (aCons (eC (.int 1)) aNil))) (eC (.int 20)))) (aCons (eL F__law_odd (aCons (eVar 0) aNil)) aNil)))))
noncomputable def L2 : Tn -> R Fl := (sSet 3 (eL F__law_cell_at (aCons (eVar 0) (aCons (eC (.int 3)) aNil))))
noncomputable def L3 : Tn -> R Fl := (sIf (bOr (bNot (eTest (eL F__law_told (aCons (eBin ixD (eVar 1) (eBin modD (eVar 3) (eC (.int 74)))) (aCons (eC (.bl true)) aNil))))) (bNot (eTest (eL F__law_told (aCons (eBin ixD (fun _ => F__law_others []) (eBin modD (eVar 3) (eC (.int 20)))) (aCons (eC (.bl false)) aNil)))))) (sRet (eC (.bl false))) sSkip)
noncomputable def L4 : Tn -> R Fl := (sIf (bNot (eTest (eL F__law_told (aCons (eBin ixD (eL (fun ds => .ok (.lst ds)) (aCons (eC .non) (aCons (eC (.str "")) (aCons (eC (.str "ab")) (aCons (eC (.int 5)) (aCons (eC (.bl true)) (aCons (eL (fun ds => .ok (.lst ds)) (aCons (eC (.str "a")) aNil)) (aCons (eL (fun ds => .ok (.tup ds)) (aCons (eC (.str "a")) aNil)) (aCons (eC (.dic [] [])) (aCons (eC (.str "\n")) aNil)))))))))) (eBin modD (eVar 3) (eC (.int 9)))) (aCons (eC (.bl false)) aNil))))) (sRet (eC (.bl false))) sSkip)
noncomputable def L5 : Tn -> R Fl := (sIf (eTest (eBin (eqR false) (eBin modD (eL F__law_cell_at (aCons (eVar 0) (aCons (eC (.int 4)) aNil))) (eC (.int 2))) (eC (.int 1)))) (sRet (eL F__law_refused (aCons (eL F__law_spoilt (aCons (eVar 2) (aCons (eL F__law_cell_at (aCons (eVar 0) (aCons (eC (.int 5)) aNil))) aNil))) aNil))) sSkip)
noncomputable def L6 : Tn -> R Fl := (sIf (eTest (eBin (isB true) (eL F_need_face (aCons (eVar 2) aNil)) (eC (.bl true)))) (sRet (eC (.bl false))) sSkip)
noncomputable def L7 : Tn -> R Fl := (sSet 4 (eL dictAD (aCons (eBin ixD (eVar 2) (eC (.int 2))) aNil)))
noncomputable def L8 : Tn -> R Fl := (sKPut 4 (eImm (eBin ixD (eVar 2) (eC (.int 1)))) (eC (.str " ")))
noncomputable def L9 : Tn -> R Fl := (sSet 5 (eC (.str "")))
noncomputable def L11 : Tn -> R Fl := (sSet 8 (eL F_wide (aCons (eVar 2) (aCons (eVar 5) aNil))))
noncomputable def L12 : Tn -> R Fl := (sIf (bOr (bNot (eTest (eUn (isiD "int") (eVar 8)))) (eTest (eUn (isiD "bool") (eVar 8)))) (sRet (eC (.bl false))) sSkip)
noncomputable def L13 : Tn -> R Fl := (sRet (eBin (eqR false) (eVar 8) (eL sumD (aCons (eComp [none, some 4, some 2] (iSeq (eVar 5)) (.one 0) (fun _ => .ok true) (eGet (eVar 1) (eVar 0) (eBin ixD (eVar 2) (eC (.int 0))))) aNil))))
noncomputable def L10 : Tn -> R Fl := (sFor (iL rng1 (aCons (eBin modD (eL F__law_cell_at (aCons (eVar 0) (aCons (eC (.int 6)) aNil))) (eC (.int 41))) aNil)) (.one 6) bL)
theorem tLW : F_law = runB 9 (sSeq L0 (sSeq L1 (sSeq L2 (sSeq L3 (sSeq L4 (sSeq L5 (sSeq L6 (sSeq L7 (sSeq L8 (sSeq L9 (sSeq L10 (sSeq L11 (sSeq L12 L13))))))))))))) := rfl
theorem told_ok (d : D) (b : Bool) (h : F_is_sign [d] = .ok (.bl b)) : F__law_told [d, .bl b] = .ok (.bl true) := by
  have i1 : isiD "bool" (.bl b) = .ok (.bl true) := rfl
  have e : eqR false (.bl b) (.bl b) = .ok (.bl true) := by cases b <;> rfl
  simp only [F__law_told, t__law_told, runB, sSeq, sSet, sRet, eVar, eBin, eUn, eL, aNil, aCons, eAnd, asB, R.ok_bind, List.map_cons, List.map_nil, List.length_cons, List.length_nil, List.replicate_succ, List.replicate_zero, List.cons_append, List.nil_append, List.getElem?_cons_zero, List.getElem?_cons_succ, List.set_cons_zero, List.set_cons_succ, Nat.reduceAdd, Nat.reduceSub, Nat.zero_add, if_true, h, i1, e]
noncomputable def wcO (ks : List Key) (ds : List D) (pl : Int) (c : Nat) : Int := match (lookD ks ds (.inr ⟨#[c]⟩)).getD (.int pl) with
  | .int n => n
  | _ => 0
theorem get_ok {ks : List Key} {ns : List Int} {pl : Int} {c : Nat} : getK ks (ns.map D.int) (.str ⟨#[c]⟩) (.int pl) = .ok (.int (wcO ks (ns.map D.int) pl c)) := by
  obtain ⟨n, e⟩ := look_int ks ns (.inr ⟨#[c]⟩) pl
  show (if ((lookD ks (ns.map D.int) (.inr ⟨#[c]⟩)).getD (.int pl)).imm = true then R.ok ((lookD ks (ns.map D.int) (.inr ⟨#[c]⟩)).getD (.int pl)) else .bad) = _
  unfold wcO
  rw [e]
  rfl
theorem comp_wide (DK F : D) (ks : List Key) (ns : List Int) (pl : Int) (x : Str) (hD : DK = .dic ks (ns.map D.int)) (h0 : ixD F (.int 0) = .ok (.int pl)) : compL (compF (Tgt.one 0).asg (fun _ => .ok true) (eGet (eVar 1) (eVar 0) (eBin ixD (eVar 2) (eC (.int 0)))) [none, some DK, some F]) (signs x) = .ok ((x.cps.toList.map (wcO ks (ns.map D.int) pl)).map D.int) := by
  subst hD
  have := compL_enc (enc := fun c => D.str ⟨#[c]⟩) (f := compF (Tgt.one 0).asg (fun _ => .ok true) (eGet (eVar 1) (eVar 0) (eBin ixD (eVar 2) (eC (.int 0)))) [none, some (.dic ks (ns.map D.int)), some F]) (o := fun c => some (.int (wcO ks (ns.map D.int) pl c))) (xs := x.cps.toList) fun c _ => by
    have h3 := get_ok (ks := ks) (ns := ns) (pl := pl) (c := c)
    generalize ns.map D.int = ds at *
    simp only [compF, noErr_ok', ev_eGet, ev_getDD, eVar, eC, eBin, Tgt.asg, R.ok_bind, List.getElem?_cons_zero, List.getElem?_cons_succ, List.set_cons_zero, if_true, h0, h3]
  rw [fm_some] at this
  show compL _ (x.cps.toList.map fun c => D.str ⟨#[c]⟩) = _
  rw [this, List.map_map]
  rfl
theorem dict_ok (P : List (Nat × Int)) (hl : P.length <= 9) (bl : Int) : ∃ (ks ks1 : List Key) (ds : List D) (ns : List Int), dictAD [.tup (P.map encPr)] = .ok (.dic ks ds) /\ ks.length < 16777216 /\ putP ks ds (.inr " ") (.int bl) = (ks1, ns.map D.int) := by
  obtain ⟨ms, e1, e2, e3⟩ := merge_int (P.map fun p => (one p.1, p.2)) [] [] rfl
  simp only [List.map_nil, List.length_nil, Nat.zero_add, List.length_map] at e1 e2 e3
  have hd := ev_dictP (ps := P.map fun p => (one p.1, p.2))
  have e0 : (P.map fun p => (one p.1, p.2)).map (fun p => D.tup [.str p.1, .int p.2]) = P.map encPr := by rw [List.map_map]; rfl
  rw [e0] at hd
  generalize mergeP [] [] ((P.map fun p => (one p.1, p.2)).map fun p => (Key.inr p.1, D.int p.2)) = m at e1 e2 e3 hd
  obtain ⟨ks, ds⟩ := m
  simp only at e1 e2 e3 hd
  subst e1
  obtain ⟨ns, f1, f2, f3⟩ := put_int ks ms (.inr " ") bl e2
  generalize hq : putP ks (ms.map D.int) (.inr " ") (.int bl) = q at f1 f2 f3
  obtain ⟨ks1, ds1⟩ := q
  simp only at f1 f2 f3
  subst f1
  exact ⟨ks, ks1, ms.map D.int, ns, hd, by lia, hq⟩
theorem wide_ok (F O : D) (pl bl : Int) (ks ks1 : List Key) (ds : List D) (ns : List Int) (x : Str) (hx : x.length <= 1000) (h0 : ixD F (.int 0) = .ok (.int pl)) (h1 : ixD F (.int 1) = .ok (.int bl)) (h2 : ixD F (.int 2) = .ok O) (hd : dictAD [O] = .ok (.dic ks ds)) (hl : ks.length < 16777216) (hp : putP ks ds (.inr " ") (.int bl) = (ks1, ns.map D.int)) :
    F_wide [F, .str x] = .ok (.int (x.cps.toList.map (wcO ks1 (ns.map D.int) pl)).sum) := by
  have hp1 : (putP ks ds (.inr " ") (.int bl)).1 = ks1 := by rw [hp]
  have hp2 : (putP ks ds (.inr " ") (.int bl)).2 = ns.map D.int := by rw [hp]
  have hk : ∀ τ : Tn, kputD 2 τ (.int bl) (.dic ks ds) (.str " ") = .ok (.nx (τ.set 2 (some (.dic ks1 (ns.map D.int))))) := fun τ => by rw [ev_kput rfl hl, hp1, hp2]
  have hc := comp_wide (.dic ks1 (ns.map D.int)) F ks1 ns pl x rfl h0
  have hlen : ((x.cps.toList.map (wcO ks1 (ns.map D.int) pl)).map D.int).length <= 16777216 := by
    rw [List.length_map, List.length_map, Array.length_toList]; show x.length <= _; lia
  have hs := ev_sum (ns := x.cps.toList.map (wcO ks1 (ns.map D.int) pl))
  have hlst := ev_lstD hlen
  clear hp1 hp2 hp
  generalize (x.cps.toList.map (wcO ks1 (ns.map D.int) pl)).sum = sm at *
  generalize (x.cps.toList.map (wcO ks1 (ns.map D.int) pl)).map D.int = LL at *
  generalize D.dic ks1 (ns.map D.int) = DK at *
  simp only [F_wide, t_wide, ev_eComp, ev_ctN, ev_ctO, ev_ctS, ev_join, ev_eImm, ev_immI, runB, sSeq, sSet, sRet, eVar, eC, eBin, eL, aNil, aCons, iSeq, asSeq, R.ok_bind, List.map_cons, List.map_nil, List.length_cons, List.length_nil, List.replicate_succ, List.replicate_zero, List.cons_append, List.nil_append, List.getElem?_cons_zero, List.getElem?_cons_succ, List.set_cons_zero, List.set_cons_succ, Nat.reduceAdd, Nat.reduceSub, Nat.zero_add, h1, h2, hd, ev_sKPut, hk, hc, hlst, hs]
theorem last_ok (F O DK : D) (pl : Int) (ks1 : List Key) (ns : List Int) (x : Str) (hx : x.length <= 1000) (hD : DK = .dic ks1 (ns.map D.int)) (h0 : ixD F (.int 0) = .ok (.int pl)) (s0 s1 s3 s6 s7 : Option D) :
    L13 [s0, s1, some F, s3, some DK, some (.str x), s6, s7, some (.int (x.cps.toList.map (wcO ks1 (ns.map D.int) pl)).sum)] = .ok (.rt (.bl true)) := by
  have hc := comp_wide DK F ks1 ns pl x hD h0
  have hlen : ((x.cps.toList.map (wcO ks1 (ns.map D.int) pl)).map D.int).length <= 16777216 := by
    rw [List.length_map, List.length_map, Array.length_toList]; show x.length <= _; lia
  have hs := ev_sum (ns := x.cps.toList.map (wcO ks1 (ns.map D.int) pl))
  have hlst := ev_lstD hlen
  have he : eqR false (.int (x.cps.toList.map (wcO ks1 (ns.map D.int) pl)).sum) (.int (x.cps.toList.map (wcO ks1 (ns.map D.int) pl)).sum) = .ok (.bl true) := by rw [ev_eqi, beq_self_eq_true]; rfl
  clear hD
  generalize (x.cps.toList.map (wcO ks1 (ns.map D.int) pl)).sum = sm at *
  generalize (x.cps.toList.map (wcO ks1 (ns.map D.int) pl)).map D.int = LL at *
  simp only [L13, ev_eComp, ev_ctN, ev_ctO, ev_ctS, ev_join, sRet, eVar, eBin, eL, aNil, aCons, iSeq, asSeq, R.ok_bind, List.getElem?_cons_zero, List.getElem?_cons_succ, hc, hlst, hs, he]
theorem app_len (x y : Str) : (x ++ y).length = x.length + y.length := by
  have e : (x ++ y).cps.toList.length = _ := congrArg List.length (app_cps x y)
  rw [List.length_append] at e
  simpa [Str.length] using e
theorem line_seq (S0 F DK O : D) (SG SP z z2 one1 z3 : Str) (v j q : Int) (s3 s7 s8 : Option D) (h1 : F__law_cell_at [S0, .int (18 + j % 9)] = .ok (.int v)) (hq : (v + 31 * j) * 16807 % 1000003 = q) (ha : addD (.str SG) (.str "  ") = .ok (.str SP)) (hx : ixD (.str SP) (.int (q % 76)) = .ok (.str one1)) (hb : addD (.str z) (.str one1) = .ok (.str z2))
    (hif : (sIf (bAnd (eTest (eBin (eqR false) (eBin modD (eBin fdivD (eVar 7) (eC (.int 76))) (eC (.int 3))) (eC (.int 1)))) (eTest (eBin (eqR true) (eBin ixD (eVar 2) (eC (.int 2))) (eL (fun ds => .ok (.tup ds)) aNil)))) (sSet 5 (eBin addD (eSl (eVar 5) oNone (oSome (eUn negD (eC (.int 1))))) (eBin ixD (eBin ixD (eBin ixD (eVar 2) (eC (.int 2))) (eBin modD (eBin fdivD (eVar 7) (eC (.int 228))) (eL lenD (aCons (eBin ixD (eVar 2) (eC (.int 2))) aNil)))) (eC (.int 0))))) sSkip) [some S0, some (.str SG), some F, s3, some DK, some (.str z2), some (.int j), some (.int q), s8] = .ok (.nx [some S0, some (.str SG), some F, s3, some DK, some (.str z3), some (.int j), some (.int q), s8])) :
    bL [some S0, some (.str SG), some F, s3, some DK, some (.str z), some (.int j), s7, s8] = .ok (.nx [some S0, some (.str SG), some F, s3, some DK, some (.str z3), some (.int j), some (.int q), s8]) := by
  have m9 : modD (.int j) (.int 9) = .ok (.int (j % 9)) := ev_mod (by decide)
  have mu : mulD (.int 31) (.int j) = .ok (.int (31 * j)) := ev_mulL (by decide) (by decide)
  have mu2 : mulD (.int (v + 31 * j)) (.int 16807) = .ok (.int ((v + 31 * j) * 16807)) := ev_mulR (by decide) (by decide)
  have mp : modD (.int ((v + 31 * j) * 16807)) (.int 1000003) = .ok (.int ((v + 31 * j) * 16807 % 1000003)) := ev_mod (by decide)
  rw [hq] at mp
  have m76 : modD (.int q) (.int 76) = .ok (.int (q % 76)) := ev_mod (by decide)
  clear hq
  generalize q % 76 = k76 at *
  generalize (v + 31 * j) * 16807 = q1 at *
  generalize 31 * j = q0 at *
  unfold bL
  revert hif
  generalize (sIf (bAnd (eTest (eBin (eqR false) (eBin modD (eBin fdivD (eVar 7) (eC (.int 76))) (eC (.int 3))) (eC (.int 1)))) (eTest (eBin (eqR true) (eBin ixD (eVar 2) (eC (.int 2))) (eL (fun ds => .ok (.tup ds)) aNil)))) (sSet 5 (eBin addD (eSl (eVar 5) oNone (oSome (eUn negD (eC (.int 1))))) (eBin ixD (eBin ixD (eBin ixD (eVar 2) (eC (.int 2))) (eBin modD (eBin fdivD (eVar 7) (eC (.int 228))) (eL lenD (aCons (eBin ixD (eVar 2) (eC (.int 2))) aNil)))) (eC (.int 0))))) sSkip) = IFF
  intro hif
  simp only [sSeq, sSet, eVar, eC, eBin, eL, aNil, aCons, R.ok_bind, List.getElem?_cons_zero, List.getElem?_cons_succ, List.set_cons_zero, List.set_cons_succ, ev_add, m9, h1, mu, mu2, mp, m76, ha, hx, hb, hif]
theorem if_line (S0 SG F DK : D) (P : List (Nat × Int)) (h2 : ixD F (.int 2) = .ok (.tup (P.map encPr))) (z : Str) (hz : z.length <= 500) (j q : Int) (s3 s8 : Option D) : ∃ z3 : Str, z3.length <= z.length + 1 /\ (sIf (bAnd (eTest (eBin (eqR false) (eBin modD (eBin fdivD (eVar 7) (eC (.int 76))) (eC (.int 3))) (eC (.int 1)))) (eTest (eBin (eqR true) (eBin ixD (eVar 2) (eC (.int 2))) (eL (fun ds => .ok (.tup ds)) aNil)))) (sSet 5 (eBin addD (eSl (eVar 5) oNone (oSome (eUn negD (eC (.int 1))))) (eBin ixD (eBin ixD (eBin ixD (eVar 2) (eC (.int 2))) (eBin modD (eBin fdivD (eVar 7) (eC (.int 228))) (eL lenD (aCons (eBin ixD (eVar 2) (eC (.int 2))) aNil)))) (eC (.int 0))))) sSkip) [some S0, some SG, some F, s3, some DK, some (.str z), some (.int j), some (.int q), s8] = .ok (.nx [some S0, some SG, some F, s3, some DK, some (.str z3), some (.int j), some (.int q), s8]) := by
  have d76 : fdivD (.int q) (.int 76) = .ok (.int (q / 76)) := ev_fdiv (by decide) (by decide)
  have m3 : modD (.int (q / 76)) (.int 3) = .ok (.int (q / 76 % 3)) := ev_mod (by decide)
  have d228 : fdivD (.int q) (.int 228) = .ok (.int (q / 228)) := ev_fdiv (by decide) (by decide)
  have hne : eqR true (.tup (P.map encPr)) (.tup []) = .ok (.bl (!(P.length == 0))) := by
    show (match (eqZip (eqF 11) (P.map encPr) []).map fun b => b && (P.map encPr).length == ([] : List D).length with
      | some b => R.ok (D.bl (if true = true then !b else b))
      | none => .bad) = _
    have : eqZip (eqF 11) (P.map encPr) [] = some true := by cases P <;> rfl
    rw [this, List.length_map]
    rfl
  cases z1 : (q / 76 % 3 == 1) with
  | false =>
    refine ⟨z, Nat.le_succ _, ?_⟩
    generalize q / 76 % 3 = k at *
    simp only [sSkip, sSet, sIf, eVar, eC, eBin, eUn, eL, aNil, aCons, eTest, bAnd, eSl, oNone, oSome, asB, R.ok_bind, List.getElem?_cons_zero, List.getElem?_cons_succ, List.set_cons_zero, List.set_cons_succ, ev_neg, ev_fdiv, ev_eqi, if_false, Bool.false_eq_true, Int.reduceLT, Int.reduceNeg, d76, m3, z1]
  | true =>
    by_cases h0 : P.length = 0
    · rw [(beq_iff_eq (a := P.length)).mpr h0] at hne
      refine ⟨z, Nat.le_succ _, ?_⟩
      generalize P.map encPr = L at *
      generalize q / 76 % 3 = k at *
      simp only [sSkip, sSet, sIf, eVar, eC, eBin, eUn, eL, aNil, aCons, eTest, bAnd, eSl, oNone, oSome, asB, R.ok_bind, List.getElem?_cons_zero, List.getElem?_cons_succ, List.set_cons_zero, List.set_cons_succ, ev_neg, ev_fdiv, ev_eqi, if_true, if_false, Bool.false_eq_true, Int.reduceLT, Int.reduceNeg, d76, m3, z1, h2, hne, Bool.not_true]
    · rw [beq_false_of_ne h0] at hne
      have el : lenD [.tup (P.map encPr)] = .ok (.int (P.length : Nat)) := by
        show R.ok (D.int ((P.map encPr).length : Nat)) = _
        rw [List.length_map]
      have mN : modD (.int (q / 228)) (.int (P.length : Nat)) = .ok (.int (q / 228 % (P.length : Nat))) := ev_mod (by lia)
      have q0 : 0 <= q / 228 % ((P.length : Nat) : Int) := Int.emod_nonneg _ (by lia)
      have q1 : q / 228 % ((P.length : Nat) : Int) < ((P.length : Nat) : Int) := Int.emod_lt_of_pos _ (by lia)
      generalize q / 228 % ((P.length : Nat) : Int) = k at *
      have hi : k.toNat < P.length := by lia
      have hx : ixD (.tup (P.map encPr)) (.int k) = .ok (encPr P[k.toNat]) := by
        have : atI (P.map encPr) k = some (encPr P[k.toNat]) := atI_ok q0 (by rw [List.getElem?_map, List.getElem?_eq_getElem hi]; rfl)
        show (match atI (P.map encPr) k with | some d => R.ok d | none => R.bad) = _
        rw [this]
      have hx2 : ixD (encPr P[k.toNat]) (.int 0) = .ok (.str (one P[k.toNat].1)) := rfl
      have ng : negD (.int 1) = .ok (.int (-1)) := rfl
      have hs : slD (.str z) none (some (-1)) = .ok (.str (Txt.slice z none (some (-1)))) := by
        show (if z.length <= sizeLine then _ else _) = _
        rw [if_pos (by rw [sizeLine_eq]; lia)]
      have hsl : (Txt.slice z none (some (-1))).length <= z.length := Txt.slice_le z _ _
      have l1 : (one P[k.toNat].1).length = 1 := rfl
      have ha : addD (.str (Txt.slice z none (some (-1)))) (.str (one P[k.toNat].1)) = .ok (.str (Txt.slice z none (some (-1)) ++ one P[k.toNat].1)) := ev_adds (by rw [sizeLine_eq, l1]; lia)
      refine ⟨Txt.slice z none (some (-1)) ++ one P[k.toNat].1, by rw [app_len, l1]; lia, ?_⟩
      clear hsl l1
      generalize Txt.slice z none (some (-1)) ++ one P[k.toNat].1 = z3 at *
      generalize Txt.slice z none (some (-1)) = z2 at *
      generalize one P[k.toNat].1 = o1 at *
      generalize encPr P[k.toNat] = p at *
      generalize P.map encPr = L at *
      generalize ((P.length : Nat) : Int) = N at *
      generalize q / 76 % 3 = k3 at *
      simp only [sSkip, sSet, sIf, eVar, eC, eBin, eUn, eL, aNil, aCons, eTest, bAnd, eSl, oNone, oSome, asB, R.ok_bind, List.getElem?_cons_zero, List.getElem?_cons_succ, List.set_cons_zero, List.set_cons_succ, ev_eqi, if_true, if_false, Bool.false_eq_true, Int.reduceNeg, d76, m3, z1, h2, hne, Bool.not_false, ng, hs, el, d228, mN, hx, hx2, ha]
theorem sp_at (i : Int) (h0 : 0 <= i) (h1 : i < 76) : ∃ c, ixD (.str (S (SGl ++ [32, 32]))) (.int i) = .ok (.str (one c)) := by
  obtain ⟨c, e, _⟩ := pickS (z := S (SGl ++ [32, 32])) (i := i) (p := fun _ => True) (by rw [S_len, List.length_append, sgl_len]; decide) h0 (by rw [S_len, List.length_append, sgl_len]; exact h1) (fun _ _ => trivial)
  exact ⟨c, e⟩
theorem lL_ok (ns : List Int) (F DK : D) (P : List (Nat × Int)) (h2 : ixD F (.int 2) = .ok (.tup (P.map encPr))) (m : Nat) (hm : m <= 40) (s3 : Option D) : ∃ (z : Str) (y6 y7 : Option D), z.length <= 200 /\
    forGo (Tgt.one 6).asg bL (rng 0 m) [some (.frl (ns.map .int)), some (.str (S SGl)), some F, s3, some DK, some (.str ""), none, none, none] = .ok (.nx [some (.frl (ns.map .int)), some (.str (S SGl)), some F, s3, some DK, some (.str z), y6, y7, none]) := by
  obtain ⟨τ', e2, z, y6, y7, g1, h⟩ := forGo_inv (asg := (Tgt.one 6).asg) (body := bL)
    (fun i τ => ∃ (z : Str) (y6 y7 : Option D), z.length <= 2 * i /\ τ = [some (.frl (ns.map .int)), some (.str (S SGl)), some F, s3, some DK, some (.str z), y6, y7, none]) (rng 0 m) 0
    [some (.frl (ns.map .int)), some (.str (S SGl)), some F, s3, some DK, some (.str ""), none, none, none] ⟨"", none, none, Nat.le_refl _, rfl⟩ (fun i q τ hd ⟨z, y6, y7, hz, h⟩ => by
      obtain ⟨hi, rfl⟩ := rng_get hd
      subst h
      obtain ⟨v, hv⟩ := cell ns (18 + ((0 : Int) + (i : Nat)) % 9) (by lia)
      have hab : addD (.str (S SGl)) (.str "  ") = .ok (.str (S (SGl ++ [32, 32]))) := by
        have e : ("  " : Str) = S [32, 32] := rfl
        rw [e, ev_adds (by rw [S_len, S_len, sizeLine_eq, sgl_len]; decide), S_app]
      obtain ⟨c, hc⟩ := sp_at ((v + 31 * ((0 : Int) + (i : Nat))) * 16807 % 1000003 % 76) (Int.emod_nonneg _ (by decide)) (Int.emod_lt_of_pos _ (by decide))
      have l1 : (one c).length = 1 := rfl
      have hb2 : addD (.str z) (.str (one c)) = .ok (.str (z ++ one c)) := ev_adds (by rw [sizeLine_eq, l1]; lia)
      have hlen : (z ++ one c).length = z.length + 1 := by rw [app_len, l1]
      obtain ⟨z3, hz3, hif⟩ := if_line (.frl (ns.map .int)) (.str (S SGl)) F DK P h2 (z ++ one c) (by lia) ((0 : Int) + (i : Nat)) ((v + 31 * ((0 : Int) + (i : Nat))) * 16807 % 1000003) s3 none
      have hB := line_seq (.frl (ns.map .int)) F DK F (S SGl) _ z _ _ z3 v ((0 : Int) + (i : Nat)) _ s3 y7 none hv rfl hab hc hb2 hif
      exact ⟨_, _, rfl, .inl hB, z3, _, _, by lia, rfl⟩)
  exact ⟨z, y6, y7, by rw [rng_len] at g1; lia, by rw [e2, h]⟩
noncomputable def nine : List D := [.non, .str "", .str "ab", .int 5, .bl true, .lst [.str "a"], .tup [.str "a"], .dic [] [], .str "\n"]
theorem nine_no : ∀ d ∈ nine, F_is_sign [d] = .ok (.bl false) := by
  intro d hd
  unfold nine at hd
  simp only [List.mem_cons, List.not_mem_nil, or_false] at hd
  rcases hd with rfl | rfl | rfl | rfl | rfl | rfl | rfl | rfl | rfl
  · exact sign_no _ rfl
  · exact sign_len [] (by decide) (by decide)
  · exact sign_len [97, 98] (by decide) (by decide)
  · exact sign_no _ rfl
  · exact sign_no _ rfl
  · exact sign_no _ rfl
  · exact sign_no _ rfl
  · exact sign_no _ rfl
  · have h : F_is_sign [.str (one 10)] = .ok (.bl (decide (okS 10))) := is_sign 10
    rw [decide_eq_false (by unfold okS; decide +kernel)] at h
    exact h
theorem law_true (ns : List Int) (h : ns.length <= 63) : F_law [.frl (ns.map D.int)] = .ok (.bl true) := by
  obtain ⟨P, hP, G, hl⟩ := law_odd ns
  obtain ⟨v0, c0⟩ := cell ns 0 (by decide)
  obtain ⟨v1, c1⟩ := cell ns 1 (by decide)
  obtain ⟨v3, c3⟩ := cell ns 3 (by decide)
  obtain ⟨v4, c4⟩ := cell ns 4 (by decide)
  obtain ⟨v5, c5⟩ := cell ns 5 (by decide)
  obtain ⟨v6, c6⟩ := cell ns 6 (by decide)
  have hg := law_signs
  have m20a : modD (.int v0) (.int 20) = .ok (.int (v0 % 20)) := ev_mod (by decide)
  have m20b : modD (.int v1) (.int 20) = .ok (.int (v1 % 20)) := ev_mod (by decide)
  have p1 : 1 <= 1 + v0 % 20 /\ 1 + v0 % 20 <= 20 := by lia
  have b1 : 1 <= 1 + v1 % 20 /\ 1 + v1 % 20 <= 20 := by lia
  have m41 : modD (.int v6) (.int 41) = .ok (.int (v6 % 41)) := ev_mod (by decide)
  have e41 : rng1 [D.int (v6 % 41)] = .ok (rng 0 (v6 % 41).toNat) := ev_rng1 (by lia) (by lia)
  obtain ⟨ca, ea, oa⟩ := sg_at (v3 % 74) (by lia) (by lia)
  obtain ⟨cb, eb, ob⟩ := other_at (v3 % 20) (by lia) (by lia)
  have ta : F__law_told [.str (one ca), .bl true] = .ok (.bl true) := told_ok _ _ (by have := is_sign ca; rw [decide_eq_true oa] at this; exact this)
  have tb : F__law_told [.str (one cb), .bl false] = .ok (.bl true) := told_ok _ _ (by have := is_sign cb; rw [decide_eq_false ob] at this; exact this)
  have hi9 : (v3 % 9).toNat < nine.length := by show _ < 9; lia
  have h9 : ixD (.lst nine) (.int (v3 % 9)) = .ok nine[(v3 % 9).toNat] := ev_ixl (atI_ok (by lia) (List.getElem?_eq_getElem hi9))
  have t9 : F__law_told [nine[(v3 % 9).toNat], .bl false] = .ok (.bl true) := told_ok _ _ (nine_no _ (List.getElem_mem hi9))
  generalize nine[(v3 % 9).toNat] = d9 at *
  have ho := others
  have m74 : modD (.int v3) (.int 74) = .ok (.int (v3 % 74)) := ev_mod (by decide)
  have m20c : modD (.int v3) (.int 20) = .ok (.int (v3 % 20)) := ev_mod (by decide)
  have m9 : modD (.int v3) (.int 9) = .ok (.int (v3 % 9)) := ev_mod (by decide)
  have m2 : modD (.int v4) (.int 2) = .ok (.int (v4 % 2)) := ev_mod (by decide)
  obtain ⟨d, hd, hd2⟩ := spoilt P G hl (1 + v0 % 20) (1 + v1 % 20) p1 b1 v5
  have hrf := refused d hd2
  obtain ⟨ks, ks1, ds, ms, hdic, hkl, hput⟩ := dict_ok P hl (1 + v1 % 20)
  have x0 : ixD (.tup [.int (1 + v0 % 20), .int (1 + v1 % 20), .tup (P.map encPr)]) (.int 0) = .ok (.int (1 + v0 % 20)) := rfl
  have x1 : ixD (.tup [.int (1 + v0 % 20), .int (1 + v1 % 20), .tup (P.map encPr)]) (.int 1) = .ok (.int (1 + v1 % 20)) := rfl
  have x2 : ixD (.tup [.int (1 + v0 % 20), .int (1 + v1 % 20), .tup (P.map encPr)]) (.int 2) = .ok (.tup (P.map encPr)) := rfl
  obtain ⟨z, y6, y7, hz, hloop⟩ := lL_ok ns (.tup [.int (1 + v0 % 20), .int (1 + v1 % 20), .tup (P.map encPr)]) (.dic ks1 (ms.map D.int)) P x2 (v6 % 41).toNat (by lia) (some (.int v3))
  have hwide := wide_ok _ _ (1 + v0 % 20) (1 + v1 % 20) ks ks1 ds ms z (by lia) x0 x1 x2 hdic hkl hput
  have hlast := last_ok (.tup [.int (1 + v0 % 20), .int (1 + v1 % 20), .tup (P.map encPr)]) .non (.dic ks1 (ms.map D.int)) (1 + v0 % 20) ks1 ms z (by lia) rfl x0 (some (.frl (ns.map .int))) (some (.str (S SGl))) (some (.int v3)) y6 y7
  have hnf : F_need_face [.tup [.int (1 + v0 % 20), .int (1 + v1 % 20), .tup (P.map encPr)]] = .ok (.bl true) := need_ok _ (face_g _ _ _ true true true (width_ok _ p1.1 p1.2) (width_ok _ b1.1 b1.2) (by rw [odd_of P G.ok G.bd, decide_eq_true G.up]))
  have hp1 : (putP ks ds (.inr " ") (.int (1 + v1 % 20))).1 = ks1 := by rw [hput]
  have hp2 : (putP ks ds (.inr " ") (.int (1 + v1 % 20))).2 = ms.map D.int := by rw [hput]
  have hk : ∀ τ : Tn, kputD 4 τ (.int (1 + v1 % 20)) (.dic ks ds) (.str " ") = .ok (.nx (τ.set 4 (some (.dic ks1 (ms.map D.int))))) := fun τ => by rw [ev_kput rfl hkl, hp1, hp2]
  clear hp1 hp2 hput p1 b1 hd2 oa ob
  have i1 : isB true (.bl true) (.bl true) = .ok (.bl false) := rfl
  generalize (z.cps.toList.map (wcO ks1 (ms.map D.int) (1 + v0 % 20))).sum = sm at *
  have j1 : isiD "int" (.int sm) = .ok (.bl true) := rfl
  have j2 : isiD "bool" (.int sm) = .ok (.bl false) := rfl
  have w1 : ∀ (S0 SG : D) (L : List D) (_ : F__law_signs [] = .ok SG) (_ : F__law_cell_at [S0, .int 0] = .ok (.int v0)) (_ : F__law_cell_at [S0, .int 1] = .ok (.int v1)) (_ : F__law_cell_at [S0, .int 3] = .ok (.int v3)) (_ : F__law_odd [S0] = .ok (.tup L)), (sSeq L0 (sSeq L1 L2)) [some S0, none, none, none, none, none, none, none, none] = .ok (.nx [some S0, some SG, some (.tup [.int (1 + v0 % 20), .int (1 + v1 % 20), .tup L]), some (.int v3), none, none, none, none, none]) := by
    intro S0 SG L a1 a2 a3 a4 a5
    generalize v0 % 20 = r0 at *
    generalize v1 % 20 = r1 at *
    simp only [L0, L1, K01.L2, sSeq, sSet, eVar, eC, eBin, eL, aNil, aCons, R.ok_bind, List.getElem?_cons_zero, List.set_cons_zero, List.set_cons_succ, ev_add, a1, a2, a3, a4, a5, m20a, m20b]
  have w1 := w1 _ _ _ hg c0 c1 c3 hP
  generalize hFC : D.tup [.int (1 + v0 % 20), .int (1 + v1 % 20), .tup (P.map encPr)] = FC at *
  clear hFC
  generalize D.tup (P.map encPr) = O at *
  generalize D.dic ks1 (ms.map D.int) = DK at *
  have k3 : L3 [some (.frl (ns.map .int)), some (.str (S SGl)), some FC, some (.int v3), none, none, none, none, none] = .ok (.nx [some (.frl (ns.map .int)), some (.str (S SGl)), some FC, some (.int v3), none, none, none, none, none]) := by
    generalize D.frl (ns.map .int) = S0 at *
    generalize S SGl = SG at *
    generalize OT = OO at *
    generalize one ca = A1 at *
    generalize one cb = A2 at *
    generalize v3 % 74 = r74 at *
    generalize v3 % 20 = r20 at *
    simp only [L3, sSkip, sRet, sIf, eVar, eC, eBin, eL, aNil, aCons, eTest, bOr, bNot, asB, R.ok_bind, List.getElem?_cons_zero, List.getElem?_cons_succ, if_false, Bool.false_eq_true, m74, ea, ta, ho, m20c, eb, tb, Bool.not_true]
  have k4 : L4 [some (.frl (ns.map .int)), some (.str (S SGl)), some FC, some (.int v3), none, none, none, none, none] = .ok (.nx [some (.frl (ns.map .int)), some (.str (S SGl)), some FC, some (.int v3), none, none, none, none, none]) := by
    unfold nine at h9
    generalize D.frl (ns.map .int) = S0 at *
    generalize S SGl = SG at *
    generalize v3 % 9 = r9 at *
    simp only [L4, sSkip, sRet, sIf, eVar, eC, eBin, eL, aNil, aCons, eTest, bNot, asB, R.ok_bind, List.getElem?_cons_zero, List.getElem?_cons_succ, if_false, Bool.false_eq_true, m9, h9, t9, Bool.not_true]
  have w012 : ∃ τ1 τ2, L0 [some (.frl (ns.map .int)), none, none, none, none, none, none, none, none] = .ok (.nx τ1) /\ L1 τ1 = .ok (.nx τ2) /\ K01.L2 τ2 = .ok (.nx [some (.frl (ns.map .int)), some (.str (S SGl)), some FC, some (.int v3), none, none, none, none, none]) := by
    unfold sSeq at w1
    cases e0 : L0 [some (.frl (ns.map .int)), none, none, none, none, none, none, none, none] with
    | ok f =>
      rw [e0, R.ok_bind] at w1
      cases f with
      | nx τ1 =>
        dsimp only at w1
        cases e1 : L1 τ1 with
        | ok f =>
          rw [e1, R.ok_bind] at w1
          cases f with
          | nx τ2 => exact ⟨τ1, τ2, rfl, e1, w1⟩
          | _ => cases w1
        | err m => rw [e1] at w1; cases w1
        | bad => rw [e1] at w1; cases w1
      | _ => cases w1
    | err m => rw [e0] at w1; cases w1
    | bad => rw [e0] at w1; cases w1
  obtain ⟨τ1, τ2, k0, k1, k2⟩ := w012
  rw [tLW]
  generalize D.frl (ns.map .int) = S0 at *
  generalize S SGl = SG at *
  cases z2 : (v4 % 2 == 1) with
  | true =>
    have k5 : L5 [some S0, some (.str SG), some FC, some (.int v3), none, none, none, none, none] = .ok (.rt (.bl true)) := by
      generalize v4 % 2 = r2 at *
      simp only [L5, sSkip, sRet, sIf, eVar, eC, eBin, eL, aNil, aCons, eTest, asB, R.ok_bind, List.getElem?_cons_zero, List.getElem?_cons_succ, ev_eqi, if_true, if_false, Bool.false_eq_true, c4, m2, z2, c5, hd, hrf]
    simp only [runB, sSeq, R.ok_bind, List.map_cons, List.map_nil, List.length_cons, List.length_nil, List.replicate_succ, List.replicate_zero, List.cons_append, List.nil_append, Nat.reduceSub, Nat.zero_add, k0, k1, k2, k3, k4, k5]
  | false =>
    have k5 : L5 [some S0, some (.str SG), some FC, some (.int v3), none, none, none, none, none] = .ok (.nx [some S0, some (.str SG), some FC, some (.int v3), none, none, none, none, none]) := by
      generalize v4 % 2 = r2 at *
      simp only [L5, sSkip, sRet, sIf, eVar, eC, eBin, eL, aNil, aCons, eTest, asB, R.ok_bind, List.getElem?_cons_zero, List.getElem?_cons_succ, ev_eqi, if_false, Bool.false_eq_true, c4, m2, z2]
    have k6 : L6 [some S0, some (.str SG), some FC, some (.int v3), none, none, none, none, none] = .ok (.nx [some S0, some (.str SG), some FC, some (.int v3), none, none, none, none, none]) := by
      simp only [L6, sSkip, sRet, sIf, eVar, eC, eBin, eL, aNil, aCons, eTest, asB, R.ok_bind, List.getElem?_cons_zero, List.getElem?_cons_succ, if_false, Bool.false_eq_true, hnf, i1]
    have k7 : L7 [some S0, some (.str SG), some FC, some (.int v3), none, none, none, none, none] = .ok (.nx [some S0, some (.str SG), some FC, some (.int v3), some (.dic ks ds), none, none, none, none]) := by
      simp only [L7, sSet, eVar, eC, eBin, eL, aNil, aCons, R.ok_bind, List.getElem?_cons_zero, List.getElem?_cons_succ, List.set_cons_zero, List.set_cons_succ, x2, hdic]
    have k8 : L8 [some S0, some (.str SG), some FC, some (.int v3), some (.dic ks ds), none, none, none, none] = .ok (.nx [some S0, some (.str SG), some FC, some (.int v3), some DK, none, none, none, none]) := by
      generalize 1 + v1 % 20 = bl at *
      simp only [L8, ev_eImm, ev_immI, eVar, eC, eBin, R.ok_bind, List.getElem?_cons_zero, List.getElem?_cons_succ, List.set_cons_zero, List.set_cons_succ, x1, ev_sKPut, hk]
    have k9 : L9 [some S0, some (.str SG), some FC, some (.int v3), some DK, none, none, none, none] = .ok (.nx [some S0, some (.str SG), some FC, some (.int v3), some DK, some (.str ""), none, none, none]) := by
      simp only [L9, sSet, eC, R.ok_bind, List.set_cons_zero, List.set_cons_succ]
    generalize (v6 % 41).toNat = mm at *
    have k10 : L10 [some S0, some (.str SG), some FC, some (.int v3), some DK, some (.str ""), none, none, none] = .ok (.nx [some S0, some (.str SG), some FC, some (.int v3), some DK, some (.str z), y6, y7, none]) := by
      unfold L10
      exact ev_for (by
        generalize v6 % 41 = r41 at *
        simp only [eVar, eC, eBin, eL, aNil, aCons, iL, R.ok_bind, List.getElem?_cons_zero, c6, m41, e41]) hloop
    have k11 : L11 [some S0, some (.str SG), some FC, some (.int v3), some DK, some (.str z), y6, y7, none] = .ok (.nx [some S0, some (.str SG), some FC, some (.int v3), some DK, some (.str z), y6, y7, some (.int sm)]) := by
      simp only [L11, sSet, eVar, eL, aNil, aCons, R.ok_bind, List.getElem?_cons_zero, List.getElem?_cons_succ, List.set_cons_zero, List.set_cons_succ, hwide]
    have k12 : L12 [some S0, some (.str SG), some FC, some (.int v3), some DK, some (.str z), y6, y7, some (.int sm)] = .ok (.nx [some S0, some (.str SG), some FC, some (.int v3), some DK, some (.str z), y6, y7, some (.int sm)]) := by
      simp only [L12, sSkip, sRet, sIf, eVar, eC, eUn, eTest, bOr, bNot, asB, R.ok_bind, List.getElem?_cons_zero, List.getElem?_cons_succ, if_false, Bool.false_eq_true, j1, j2, Bool.not_true]
    simp only [runB, sSeq, R.ok_bind, List.map_cons, List.map_nil, List.length_cons, List.length_nil, List.replicate_succ, List.replicate_zero, List.cons_append, List.nil_append, Nat.reduceSub, Nat.zero_add, k0, k1, k2, k3, k4, k5, k6, k7, k8, k9, k10, k11, k12, hlast]
end K01

open PySem PySem.W PyProof.Rows L2
set_option maxRecDepth 100000 in
set_option maxHeartbeats 0 in
theorem PySem.Challenge.cw_quirehand_k01_faces_and_widths_holds : PySem.Challenge.rw_quirehand_k01_faces_and_widths.Holds := by
  w_on; o_law; k_head; (case hw => w_witness2)
  k_fill
  refine L2.law_walk (l := PySem.Challenge.rw_quirehand_k01_faces_and_widths) (Fm := K01.F_law) (k := 9) (x := "_law_script") K01.law_true ⟨rfl, by decide, by decide⟩ rfl rfl (fun w h Y => PySem.W.kIn_of Y) ?F
  case F =>
    intro w mg fa h KX G hmg
    refine' K01.all_mk KX G hmg ?a_is_whole ?l_is_whole ?c_is_whole ?k_is_whole ?a_is_within ?l_is_within ?c_is_within ?k_is_within ?a_is_sign ?l_is_sign ?c_is_sign ?k_is_sign ?a_is_width ?l_is_width ?c_is_width ?k_is_width ?a_is_odd_pair ?l_is_odd_pair ?c_is_odd_pair ?k_is_odd_pair ?a_is_odd ?l_is_odd ?c_is_odd ?k_is_odd ?a_is_face ?l_is_face ?c_is_face ?k_is_face ?a_need_face ?l_need_face ?c_need_face ?k_need_face ?a_wide ?l_wide ?c_wide ?k_wide ?a__law_cell_at ?l__law_cell_at ?c__law_cell_at ?k__law_cell_at ?a__law_signs ?l__law_signs ?c__law_signs ?k__law_signs ?a__law_others ?l__law_others ?c__law_others ?k__law_others ?a__law_odd ?l__law_odd ?c__law_odd ?k__law_odd ?a__law_wrong_width ?l__law_wrong_width ?c__law_wrong_width ?k__law_wrong_width ?a__law_wrong_sign ?l__law_wrong_sign ?c__law_wrong_sign ?k__law_wrong_sign ?a__law_wrong_odd ?l__law_wrong_odd ?c__law_wrong_odd ?k__law_wrong_odd ?a__law_spoilt ?l__law_spoilt ?c__law_spoilt ?k__law_spoilt ?a__law_refused ?l__law_refused ?c__law_refused ?k__law_refused ?a__law_told ?l__law_told ?c__law_told ?k__law_told ?a_law ?l_law ?c_law ?k_law ?z_isinstance ?z_int ?z_bool ?z_str ?z_dict ?z_list ?z_tuple ?z_len ?z_sum ?z_max ?z_min ?z_all ?z_range ?z_enumerate ?z_zip ?gv_SIGNS ?gv_LEAST_WIDTH ?gv_MOST_WIDTH ?y_S ?y_T ?y_X ?y_V ?y_ga ?y_gt ?y_cl ?y_sp ?y_tk ?y_mo ?y_mb ?y_kV ?y_xS ?y_m1 ?y_k1 ?y_m2 ?y_k2 ?y_m3 ?y_k3 ?y_m4 ?y_k4 ?y_m5 ?y_k5 ?y_m6 ?y_k6 ?y_m7 ?y_k7 ?y_m8 ?y_k8 ?y_m9 ?y_k9 ?y_so
    (case a_is_whole => k_is)
    (case l_is_whole => k_is)
    (case c_is_whole => k_is)
    (case k_is_whole => k_is)
    (case a_is_within => k_is)
    (case l_is_within => k_is)
    (case c_is_within => k_is)
    (case k_is_within => k_is)
    (case a_is_sign => k_is)
    (case l_is_sign => k_is)
    (case c_is_sign => k_is)
    (case k_is_sign => k_is)
    (case a_is_width => k_is)
    (case l_is_width => k_is)
    (case c_is_width => k_is)
    (case k_is_width => k_is)
    (case a_is_odd_pair => k_is)
    (case l_is_odd_pair => k_is)
    (case c_is_odd_pair => k_is)
    (case k_is_odd_pair => k_is)
    (case a_is_odd => k_is)
    (case l_is_odd => k_is)
    (case c_is_odd => k_is)
    (case k_is_odd => k_is)
    (case a_is_face => k_is)
    (case l_is_face => k_is)
    (case c_is_face => k_is)
    (case k_is_face => k_is)
    (case a_need_face => k_is)
    (case l_need_face => k_is)
    (case c_need_face => k_is)
    (case k_need_face => k_is)
    (case a_wide => k_is)
    (case l_wide => k_is)
    (case c_wide => k_is)
    (case k_wide => k_is)
    (case a__law_cell_at => k_is)
    (case l__law_cell_at => k_is)
    (case c__law_cell_at => k_is)
    (case k__law_cell_at => k_is)
    (case a__law_signs => k_is)
    (case l__law_signs => k_is)
    (case c__law_signs => k_is)
    (case k__law_signs => k_is)
    (case a__law_others => k_is)
    (case l__law_others => k_is)
    (case c__law_others => k_is)
    (case k__law_others => k_is)
    (case a__law_odd => k_is)
    (case l__law_odd => k_is)
    (case c__law_odd => k_is)
    (case k__law_odd => k_is)
    (case a__law_wrong_width => k_is)
    (case l__law_wrong_width => k_is)
    (case c__law_wrong_width => k_is)
    (case k__law_wrong_width => k_is)
    (case a__law_wrong_sign => k_is)
    (case l__law_wrong_sign => k_is)
    (case c__law_wrong_sign => k_is)
    (case k__law_wrong_sign => k_is)
    (case a__law_wrong_odd => k_is)
    (case l__law_wrong_odd => k_is)
    (case c__law_wrong_odd => k_is)
    (case k__law_wrong_odd => k_is)
    (case a__law_spoilt => k_is)
    (case l__law_spoilt => k_is)
    (case c__law_spoilt => k_is)
    (case k__law_spoilt => k_is)
    (case a__law_refused => k_is)
    (case l__law_refused => k_is)
    (case c__law_refused => k_is)
    (case k__law_refused => k_is)
    (case a__law_told => k_is)
    (case l__law_told => k_is)
    (case c__law_told => k_is)
    (case k__law_told => k_is)
    (case a_law => k_is)
    (case l_law => k_is)
    (case c_law => k_is)
    (case k_law => k_is)
    (case z_isinstance => k_is)
    (case z_int => k_is)
    (case z_bool => k_is)
    (case z_str => k_is)
    (case z_dict => k_is)
    (case z_list => k_is)
    (case z_tuple => k_is)
    (case z_len => k_is)
    (case z_sum => k_is)
    (case z_max => k_is)
    (case z_min => k_is)
    (case z_all => k_is)
    (case z_range => k_is)
    (case z_enumerate => k_is)
    (case z_zip => k_is)
    (case gv_SIGNS => k_is)
    (case gv_LEAST_WIDTH => k_is)
    (case gv_MOST_WIDTH => k_is)
    (case y_S => k_is)
    (case y_T => k_is)
    (case y_X => k_exc)
    (case y_V => k_is)
    (case y_ga => k_is)
    (case y_gt => k_is)
    (case y_cl => k_is)
    (case y_sp => k_is)
    (case y_tk => k_is)
    (case y_mo => k_is)
    (case y_mb => k_is)
    (case y_kV => kit_is)
    (case y_xS => kts_exm)
    (case y_m1 => k_is)
    (case y_k1 => kit_is)
    (case y_m2 => k_is)
    (case y_k2 => kit_is)
    (case y_m3 => k_is)
    (case y_k3 => kit_is)
    (case y_m4 => k_is)
    (case y_k4 => kit_is)
    (case y_m5 => k_is)
    (case y_k5 => kit_is)
    (case y_m6 => k_is)
    (case y_k6 => kit_is)
    (case y_m7 => k_is)
    (case y_k7 => kit_is)
    (case y_m8 => k_is)
    (case y_k8 => kit_is)
    (case y_m9 => k_is)
    (case y_k9 => kit_is)
    (case y_so => k_is)
#print axioms PySem.Challenge.cw_quirehand_k01_faces_and_widths_holds

