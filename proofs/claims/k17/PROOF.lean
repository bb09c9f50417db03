import PyProof.Rows.All
import Wide.All
import OpenK.AllK
import Wide.FinOn
import Lean
import PyProof.EqAt
import PyProof.EqKinds
import PyProof.TupleCall
import PyProof.ZipIter
import PySem.Challenge.RW_quirehand_k17_whole_columns

set_option Elab.async false
set_option linter.all false
set_option bootstrap.genMatcherCode false
set_option genSizeOfSpec false
set_option maxRecDepth 100000
namespace L2
open PySem PySem.Spec PyProof.Rows
inductive Key where
  | inl (i : Int) | inr (x : Str) | non
  deriving DecidableEq
noncomputable def isNoneV : Value -> Bool
  | .none => true
  | _ => false
noncomputable def keyIs : Key -> Value -> Bool
  | .inl k, v => Value.isInt k v
  | .inr x, v => Value.isStrOf x v
  | .non, v => isNoneV v
noncomputable def keyH (w : World) : Key -> Int
  | .inl k => hashInt k
  | .inr x => hashStr w x
  | .non => 0xFCA86420
theorem isNoneV_shape {v : Value} (h : isNoneV v = true) : v = .none := by cases v <;> first | rfl | cases h
theorem keyIs_shape : ∀ {k : Key} {v : Value}, keyIs k v = true -> (∃ i t, k = Key.inl i /\ v = Value.int i t) \/ (∃ x t, k = Key.inr x /\ v = Value.str x t) \/ (k = Key.non /\ v = Value.none)
  | .inl i, v, h => by
    obtain ⟨t, e⟩ := Value.isInt_shape (k := i) (v := v) h
    exact .inl ⟨i, t, rfl, e⟩
  | .inr x, v, h => by
    obtain ⟨t, e⟩ := Value.isStrOf_shape (x := x) (v := v) h
    exact .inr (.inl ⟨x, t, rfl, e⟩)
  | .non, v, h => .inr (.inr ⟨rfl, isNoneV_shape h⟩)
theorem keyIs_int (i : Int) (t : Tok) : keyIs (.inl i) (.int i t) = true := by simp [keyIs, Value.isInt]
theorem keyIs_str (x : Str) (t : Tok) : keyIs (.inr x) (.str x t) = true := by simp [keyIs, Value.isStrOf]
theorem key_ll (a b : Int) : decide (Key.inl a = Key.inl b) = (a == b) := by
  by_cases e : a = b
  · subst e; simp
  · have h : ¬ Key.inl a = Key.inl b := fun q => e (Key.inl.inj q)
    rw [decide_eq_false h]
    exact (beq_eq_false_iff_ne.mpr e).symm
theorem key_rr (a b : Str) : decide (Key.inr a = Key.inr b) = decide (a = b) := by
  by_cases e : a = b
  · subst e; simp
  · have h : ¬ Key.inr a = Key.inr b := fun q => e (Key.inr.inj q)
    rw [decide_eq_false h, decide_eq_false e]
theorem slot_none_hash : Slot "NoneType" "__hash__" "NoneType.__hash__" :=
  .of (owner := "NoneType") (n := "__hash__") (by rw [typeLookup_type]; rw [builtinLookup_eq_fast]; kernel_rfl) (by decide +kernel) (by decide +kernel) (by decide +kernel)
    (by first | exact .inl (by decide +kernel) | exact .inr (by decide +kernel)) (by rw [isSubtype_type] ; kernel_rfl)
theorem entry_none_hash : entryFor table "NoneType.__hash__" = some Builtin.«NoneType.__hash__» := entryFor_of_fast (by kernel_rfl)
theorem args_none_hash (a : Value) : argsOk "NoneType.__hash__" ⟨[a], []⟩ := by unfold argsOk; kernel_rfl
theorem hash_none {prog : Program} {w : World} {A : Around} {E : Value -> Shared -> Prop} {s : Shared} {Q : Int -> Shared -> Prop} (h : Q 0xFCA86420 { s with toks := s.toks + 1 }) : wpAny (model prog w) A (pyHash .none) Q E s := by
  have hT : s.TypeIs .none "NoneType" := rfl
  show wpAny _ _ (pyHashByItsType .none) Q E s
  unfold pyHashByItsType
  refine wpAny_bind ?_
  rw [cRoomFor, if_neg (by decide)]
  refine wpAny_pure (wpAny_bind (wpAny_specialOf hT slot_none_hash.lookup ?_))
  rw [if_neg (by decide)]
  refine wpAny_bind (wpAny_specialOf hT slot_none_hash.lookup ?_)
  rw [if_neg (by decide)]
  refine wpAny_bind (wpAny_callSpecialIfBoundUnlessNone?_slot hT slot_none_hash (wpAny_call_entry slot_none_hash hT entry_none_hash ?_ (args_none_hash _)))
  show wpAny _ _ (do ret (<- mkInt 0xFCA86420)) _ _ s
  refine wpAny_ret_mkInt ?_
  show wpAny _ _ (pyHashByItsType.reduced 0xFCA86420) Q E _
  unfold pyHashByItsType.reduced
  rw [if_pos (by decide)]
  exact wpAny_pure h
noncomputable def mixKind (prog : Program) (w : World) : PySem.KeyKind prog w Key where
  is := keyIs
  hash := keyH w
  inj := fun v a b ha hb => by
    rcases keyIs_shape ha with ⟨i, t, rfl, rfl⟩ | ⟨x, t, rfl, rfl⟩ | ⟨rfl, rfl⟩
    · rcases keyIs_shape hb with ⟨j, u, rfl, e⟩ | ⟨y, u, rfl, e⟩ | ⟨rfl, e⟩
      · injection e with e1 _; rw [e1]
      · exact nomatch e
      · exact nomatch e
    · rcases keyIs_shape hb with ⟨j, u, rfl, e⟩ | ⟨y, u, rfl, e⟩ | ⟨rfl, e⟩
      · exact nomatch e
      · injection e with e1 _; rw [e1]
      · exact nomatch e
    · rcases keyIs_shape hb with ⟨j, u, rfl, e⟩ | ⟨y, u, rfl, e⟩ | ⟨rfl, e⟩
      · exact nomatch e
      · exact nomatch e
      · rfl
  byValue := fun k v h => by
    rcases keyIs_shape h with ⟨i, t, rfl, rfl⟩ | ⟨x, t, rfl, rfl⟩ | ⟨rfl, rfl⟩ <;> rfl
  pyHash := fun hv h => by
    rcases keyIs_shape hv with ⟨i, t, rfl, rfl⟩ | ⟨x, t, rfl, rfl⟩ | ⟨rfl, rfl⟩
    · exact wpAny_pyHash_int h
    · exact wpAny_pyHash_str h
    · exact hash_none h
  eqBool := fun hu hv h => by
    rcases keyIs_shape hu with ⟨i, t, rfl, rfl⟩ | ⟨x, t, rfl, rfl⟩ | ⟨rfl, rfl⟩
    · rcases keyIs_shape hv with ⟨j, u, rfl, rfl⟩ | ⟨y, u, rfl, rfl⟩ | ⟨rfl, rfl⟩
      · rw [key_ll] at h; exact wpAny_eqBool_int h
      · rw [decide_eq_false (by intro q; cases q)] at h; exact SeqAt.EqAt.int_str i t y u _ _ _ _ h
      · rw [decide_eq_false (by intro q; cases q)] at h; exact SeqAt.EqAt.int_none i t _ _ _ _ h
    · rcases keyIs_shape hv with ⟨j, u, rfl, rfl⟩ | ⟨y, u, rfl, rfl⟩ | ⟨rfl, rfl⟩
      · rw [decide_eq_false (by intro q; cases q)] at h; exact SeqAt.EqAt.str_int x t j u _ _ _ _ h
      · rw [key_rr] at h; exact wpAny_eqBool_str h
      · rw [decide_eq_false (by intro q; cases q)] at h; exact SeqAt.EqAt.str_none x t _ _ _ _ h
    · rcases keyIs_shape hv with ⟨j, u, rfl, rfl⟩ | ⟨y, u, rfl, rfl⟩ | ⟨rfl, rfl⟩
      · rw [decide_eq_false (by intro q; cases q)] at h; exact SeqAt.EqAt.none_int j u _ _ _ _ h
      · rw [decide_eq_false (by intro q; cases q)] at h; exact SeqAt.EqAt.none_str y u _ _ _ _ h
      · rw [decide_eq_true rfl] at h; exact SeqAt.EqAt.same .none _ _ _ _ h
  «strs» := fun k x t v h => by
    rcases keyIs_shape h with ⟨i, u, rfl, e⟩ | ⟨y, u, rfl, e⟩ | ⟨rfl, e⟩
    · exact nomatch e
    · injection e with e1 _
      subst e1
      cases v <;> rfl
    · exact nomatch e
theorem mixKind_int (prog : Program) (w : World) (i : Int) (t : Tok) : (mixKind prog w).is (.inl i) (.int i t) = true := keyIs_int i t
theorem mixKind_str (prog : Program) (w : World) (x : Str) (t : Tok) : (mixKind prog w).is (.inr x) (.str x t) = true := keyIs_str x t
theorem mixKind_non (prog : Program) (w : World) : (mixKind prog w).is .non .none = true := rfl
end L2
namespace L2
open PySem PySem.Spec PyProof.Rows
inductive V where
  | non | bl (b : Bool) | int (i : Int) | str (x : Str) | byt (b : Array UInt8) | flt (b : UInt64) | ref (a : Addr) | ty (n : String)
  deriving DecidableEq
noncomputable def RelV : V -> Value -> Prop
  | .non, u => u = Value.none
  | .bl b, u => u = Value.bool b
  | .int i, u => ∃ t, u = Value.int i t
  | .str x, u => ∃ t, u = Value.str x t
  | .byt b, u => ∃ t, u = Value.bytes b t
  | .flt b, u => ∃ t, u = Value.float b t
  | .ref a, u => u = Value.ref a
  | .ty n, u => u = Value.type n
noncomputable abbrev Vals : List V -> List Value -> Prop := Paired RelV
theorem Vals.length {xs : List V} {us : List Value} (r : Vals xs us) : xs.length = us.length := Paired.length r
theorem Vals.get : ∀ {xs : List V} {us : List Value} {i : Nat} {x : V}, Vals xs us -> xs[i]? = some x -> ∃ u, us[i]? = some u /\ RelV x u
  | _, _, _, _, .nil, e => by simp at e
  | _, _, 0, _, .cons r _, e => by simp at e; subst e; exact ⟨_, rfl, r⟩
  | _, _, i + 1, x, .cons _ t, e => by
    obtain ⟨u, h1, h2⟩ := Vals.get (i := i) (x := x) t (by simpa using e)
    exact ⟨u, by simpa using h1, h2⟩
theorem Vals.append : ∀ {xs ys : List V} {us ws : List Value}, Vals xs us -> Vals ys ws -> Vals (xs ++ ys) (us ++ ws)
  | _, _, _, _, .nil, s => s
  | _, _, _, _, .cons r t, s => .cons r (Vals.append t s)
noncomputable def RelO : Option V -> Option Value -> Prop
  | some v, some u => RelV v u
  | none, none => True
  | _, _ => False
noncomputable def KV {κ : Type} : List (κ × V) -> List (κ × Value) -> Prop := Paired fun (p : κ × V) (q : κ × Value) => p.1 = q.1 /\ RelV p.2 q.2
noncomputable def kV : Key -> V
  | .inl i => .int i
  | .inr x => .str x
  | .non => .non
noncomputable def TupN (h : Heap) (a : Addr) (items : Array Value) : Prop := ∃ o, h.get? a = some o /\ o.cls = .type "tuple" /\ o.dict = none /\ ∃ n, o.data = .seq items n
theorem TupN.tup {h : Heap} {a : Addr} {items : Array Value} (x : TupN h a items) : IsTup h a items := let ⟨o, ho, hc, _, n, hd⟩ := x; ⟨o, ho, hc, n, hd⟩
theorem TupN.lt {h : Heap} {a : Addr} {items : Array Value} (x : TupN h a items) : a < h.objs.size := x.tup.lt
theorem TupN.new (h : Heap) (items : Array Value) : TupN (h.push { cls := .type "tuple", data := .seq items }) h.objs.size items := ⟨_, Heap.get?_push_size _ rfl, rfl, rfl, _, rfl⟩
inductive HO where
    | lst (xs : List V)
    | tup (xs : List V)
    | dK (kvs : List (Key × V)) | dT (kvs : List (List Key × V))
    | set (S : Int -> Bool) (n : Nat)
    | ins (C dx : Addr) (fs : List (Str × V))
    | own (x : Addr)
    | xd (fs : List (Str × V))
    | met (f x : Addr)
    | rng (lo hi : Int)
    | frz (o : Obj) (u : HO)
    | tbl (ps : Array Value)
    | ext (φ : Heap -> Prop)
noncomputable abbrev Hp := Addr -> Option HO
noncomputable def upd (H : Hp) (a : Addr) (o : HO) : Hp := fun b => if b = a then some o else H b
theorem upd_same {H : Hp} {a : Addr} {o : HO} : upd H a o a = some o := by unfold upd; rw [if_pos rfl]
theorem upd_ne {H : Hp} {a b : Addr} {o : HO} (h : b ≠ a) : upd H a o b = H b := by unfold upd; rw [if_neg h]
theorem ne_of {H : Hp} {a b : Addr} {o u : HO} (h : H a = some o) (h' : H b = some u) (d : o ≠ u) : a ≠ b := by
  intro e; subst e; rw [h] at h'; exact d (Option.some.inj h')
theorem ne_of_none {H : Hp} {a b : Addr} {o : HO} (h : H a = some o) (h' : H b = none) : a ≠ b := by
  intro e; subst e; rw [h] at h'; cases h'
section
variable (P : Program) (w : World)
noncomputable def ObjOk (H : Hp) (h : Heap) (a : Addr) : HO -> Prop
  | .lst xs => xs.length <= sizeLine /\ ∃ (its : List Value) (n : Nat), Vals xs its /\ h.get? a = some { cls := .type "list", data := .seq its.toArray n }
  | .tup xs => xs.length <= sizeLine /\ ∃ its : List Value, Vals xs its /\ TupN h a its.toArray
  | .dK kvs => kvs.length <= sizeLine /\ (a == sysModules) = false /\ ∃ vs, KV kvs vs /\ h.DictOf (mixKind P w) a vs
  | .dT kvs => kvs.length <= sizeLine /\ (a == sysModules) = false /\ ∃ xs : List (List Key × Addr × Value),
      Paired (fun (p : List Key × V) (q : List Key × Addr × Value) => p.1 = q.1 /\ H q.2.1 = some (.tup (p.1.map kV)) /\ RelV p.2 q.2.2) kvs xs /\
      ∃ o es ep, h.get? a = some o /\ o.ExactDict /\ o.data = .dict es ep /\ es.toList = xs.map (entryOfKey (tupleKind (mixKind P w))) /\ (xs.map (·.1)).Nodup
  | .set S n => h.SetOf (intKind P w) a S n
  | .ins C dx fs => H dx = some (.own a) /\ fs.length <= 1000 /\ dx ≠ a /\ h.get? a = some (PySem.W.instObj C dx) /\
      ∃ mA, h.Ns1 dx mA /\ (∀ f, RelO (fs.lookup f) (mA f)) /\ PySem.Within mA (fs.map (·.1))
  | .own _ => ∃ o, h.get? a = some o
  | .xd fs => ∃ mA, h.Ns1 a mA /\ ∀ f, RelO (fs.lookup f) (mA f)
  | .rng lo hi => ∃ t u v, h.get? a = some { cls := .type "range", data := .fields #[.int lo t, .int hi u, .int 1 v] }
  | .frz o u => h.get? a = some o /\ ObjOk H h a u
  | .tbl ps => h.get? a = some { cls := .none, data := .fields ps }
  | .met f x => h.get? a = some (PySem.W.methodObj (.ref f) (.ref x))
  | .ext φ => φ h /\ (∃ o, h.get? a = some o) /\ ∀ h1 h2 : Heap, φ h1 -> (∀ o, h1.get? a = some o -> h2.get? a = some o) -> φ h2
noncomputable def HOk (H : Hp) (h : Heap) : Prop := ∀ a o, H a = some o -> ObjOk P w H h a o
end
section
variable {P : Program} {w : World} {H H' : Hp} {h h' : Heap} {a : Addr} {o : HO}
theorem ObjOk.lt (x : ObjOk P w H h a o) : a < h.objs.size := by
  cases o with
  | lst xs => obtain ⟨_, _, _, _, e⟩ := x; exact Heap.lt_size e
  | tup xs => obtain ⟨_, _, _, p⟩ := x; exact p.lt
  | dK kvs => obtain ⟨_, _, _, _, o, _, _, e, _⟩ := x; exact Heap.lt_size e
  | dT kvs => obtain ⟨_, _, _, _, o, _, _, e, _⟩ := x; exact Heap.lt_size e
  | set S n => obtain ⟨o, _, _, _, e, _⟩ := x; exact Heap.lt_size e
  | ins C dx fs => obtain ⟨_, _, _, e, _⟩ := x; exact Heap.lt_size e
  | own y => obtain ⟨_, e⟩ := x; exact Heap.lt_size e
  | xd fs => obtain ⟨_, ⟨_, _, _, e, _⟩, _⟩ := x; exact Heap.lt_size e
  | rng lo hi => obtain ⟨_, _, _, e⟩ := x; exact Heap.lt_size e
  | frz ob u => obtain ⟨e, _⟩ := x; exact Heap.lt_size e
  | tbl ps => exact Heap.lt_size (show h.get? a = some _ from x)
  | met f y => exact Heap.lt_size (show h.get? a = some _ from x)
  | ext φ => obtain ⟨_, ⟨_, e⟩, _⟩ := x; exact Heap.lt_size e
theorem Paired.mapP {α β : Type} {F G : α -> β -> Prop} : ∀ {l₁ : List α} {l₂ : List β}, Paired F l₁ l₂ -> (∀ a b, F a b -> G a b) -> Paired G l₁ l₂
  | _, _, .nil, _ => .nil
  | _, _, .cons r t, f => .cons (f _ _ r) (Paired.mapP t f)
theorem ObjOk.stay (x : ObjOk P w H h a o) (k : ∀ b u, (b = a \/ H b = some (.own a)) -> h.get? b = some u -> h'.get? b = some u)
    (ho : ∀ b, H b = some (.own a) -> H' b = some (.own a)) (ht : ∀ b xs, H b = some (.tup xs) -> H' b = some (.tup xs)) : ObjOk P w H' h' a o := by
  induction o with
  | lst xs => obtain ⟨z, its, n, r, e⟩ := x; exact ⟨z, its, n, r, k _ _ (.inl rfl) e⟩
  | tup xs => obtain ⟨z, its, r, ob, e, c⟩ := x; exact ⟨z, its, r, ob, k _ _ (.inl rfl) e, c⟩
  | dK kvs => obtain ⟨z, y, vs, r, ob, es, ep, e, c⟩ := x; exact ⟨z, y, vs, r, ob, es, ep, k _ _ (.inl rfl) e, c⟩
  | dT kvs =>
    obtain ⟨z, y, xs, r, ob, es, ep, e, c⟩ := x
    exact ⟨z, y, xs, Paired.mapP r fun p q z => ⟨z.1, ht _ _ z.2.1, z.2.2⟩, ob, es, ep, k _ _ (.inl rfl) e, c⟩
  | set S n => obtain ⟨ob, es, ep, t, e, c⟩ := x; exact ⟨ob, es, ep, t, k _ _ (.inl rfl) e, c⟩
  | ins C dx fs =>
    obtain ⟨d, z, ne, e, mA, ⟨od, es, ep, e2, c⟩, r⟩ := x
    exact ⟨ho _ d, z, ne, k _ _ (.inl rfl) e, mA, ⟨od, es, ep, k _ _ (.inr d) e2, c⟩, r⟩
  | own y => obtain ⟨ob, e⟩ := x; exact ⟨ob, k _ _ (.inl rfl) e⟩
  | xd fs => obtain ⟨mA, ⟨od, es, ep, e, c⟩, r⟩ := x; exact ⟨mA, ⟨od, es, ep, k _ _ (.inl rfl) e, c⟩, r⟩
  | rng lo hi => obtain ⟨t, u, v, e⟩ := x; exact ⟨t, u, v, k _ _ (.inl rfl) e⟩
  | frz ob u ih => obtain ⟨e, q⟩ := x; exact ⟨k _ _ (.inl rfl) e, ih q⟩
  | tbl ps =>
    have e : h.get? a = some { cls := .none, data := .fields ps } := x
    show h'.get? a = some { cls := .none, data := .fields ps }
    exact k a _ (.inl rfl) e
  | met f y =>
    have e : h.get? a = some (PySem.W.methodObj (.ref f) (.ref y)) := x
    show h'.get? a = some (PySem.W.methodObj (.ref f) (.ref y))
    exact k a _ (.inl rfl) e
  | ext φ => obtain ⟨p, ⟨o, e⟩, st⟩ := x; exact ⟨st _ _ p fun o q => k _ _ (.inl rfl) q, ⟨o, k _ _ (.inl rfl) e⟩, st⟩
theorem HOk.lt (x : HOk P w H h) (e : H a = some o) : a < h.objs.size := (x a o e).lt
theorem HOk.fresh (x : HOk P w H h) (e : h.objs.size <= a) : H a = none := by
  cases q : H a with
  | none => rfl
  | some u => exact absurd (Nat.lt_of_lt_of_le (x.lt q) e) (Nat.lt_irrefl _)
theorem HOk.kept (x : HOk P w H h) (k : ∀ b u, h.get? b = some u -> h'.get? b = some u) : HOk P w H h' := fun a o e =>
  (x a o e).stay (fun b u _ q => k b u q) (fun _ q => q) fun _ _ q => q
theorem HOk.laid (x : HOk P w H h) (k : ∀ b u, h.get? b = some u -> h'.get? b = some u) (hp : h.objs.size <= a) (new : ObjOk P w (upd H a o) h' a o) : HOk P w (upd H a o) h' := fun b u e => by
  have hn := x.fresh hp
  by_cases hb : b = a
  · subst hb; rw [upd_same] at e; cases e; exact new
  · rw [upd_ne hb] at e
    exact (x b u e).stay (fun c v _ q => k c v q) (fun c q => by rw [upd_ne (ne_of_none q hn)]; exact q) fun c xs q => by rw [upd_ne (ne_of_none q hn)]; exact q
end
noncomputable def Rd (H : Hp) (a : Addr) (u : HO) : Prop := H a = some u \/ ∃ o, H a = some (.frz o u)
theorem Rd.ok {P : Program} {w : World} {H : Hp} {h : Heap} {a : Addr} {u : HO} (r : Rd H a u) (x : HOk P w H h) : ObjOk P w H h a u := by
  rcases r with r | ⟨o, r⟩
  · exact x a u r
  · obtain ⟨_, q⟩ := x a _ r
    exact q
noncomputable def Mut : Option HO -> Prop
  | some (.lst _) => True
  | some (.dK _) => True
  | some (.dT _) => True
  | some (.set _ _) => True
  | some (.ins _ _ _) => True
  | some (.ext _) => True
  | _ => False
section
variable {P : Program} {w : World} {H : Hp} {h h' : Heap} {x e : Addr} {o' : HO}
theorem HOk.write (ok : HOk P w H h) (mu : Mut (H x)) (he : e = x \/ H e = some (.own x)) (k : ∀ b u, b ≠ e -> h.get? b = some u -> h'.get? b = some u) (heo : ∃ u, h'.get? e = some u)
    (new : ObjOk P w (upd H x o') h' x o') : HOk P w (upd H x o') h' := fun b u q => by
  have nown : ∀ c y, H c = some (.own y) -> c ≠ x := fun c y r z => by subst z; rw [r] at mu; exact mu
  have ntup : ∀ c xs, H c = some (.tup xs) -> c ≠ x := fun c xs r z => by subst z; rw [r] at mu; exact mu
  by_cases hb : b = x
  · subst hb; rw [upd_same] at q; cases q; exact new
  · rw [upd_ne hb] at q
    by_cases hbe : b = e
    · have q' : H b = some (.own x) := by
        rcases he with z | z
        · exact absurd (hbe.trans z) hb
        · rw [hbe]; exact z
      rw [q] at q'; cases q'
      obtain ⟨v, hv⟩ := heo
      exact ⟨v, by rw [hbe]; exact hv⟩
    · refine (ok b u q).stay (fun c v hc r => k c v ?_ r) (fun c r => by rw [upd_ne (nown c b r)]; exact r) fun c xs r => by rw [upd_ne (ntup c xs r)]; exact r
      rcases hc with rfl | hc
      · exact hbe
      · rintro rfl
        rcases he with z | z
        · exact nown c b hc z
        · rw [hc] at z; cases z; exact hb rfl
end
structure Un (fs ex : List Addr) (H H' : Hp) (h h' : Heap) : Prop where
  keep : ∀ b o, h.get? b = some o -> H b = none -> b ∉ fs -> b ∉ ex -> h'.get? b = some o
  slot : ∀ b o, h.get? b = some o -> H b = none -> b ∈ fs -> b ∉ ex -> ∃ sl, h'.get? b = some { o with slots := sl }
  free : ∀ b o, h.get? b = some o -> H b = none -> b ∉ ex -> H' b = none
  there : ∀ b o, h.get? b = some o -> b ∉ ex -> ∃ o', h'.get? b = some o'
  tups : ∀ b xs, H b = some (.tup xs) -> H' b = some (.tup xs)
  frzs : ∀ b o u, H b = some (.frz o u) -> H' b = some (.frz o u)
  tbls : ∀ b ps, H b = some (.tbl ps) -> ∃ more, H' b = some (.tbl (ps ++ more))
section
variable {fs fs' ex ex' : List Addr} {H H1 H2 : Hp} {h h1 h2 h' : Heap} {a x e : Addr} {o : HO}
theorem Un.any (u : Un fs ex H H1 h h1) {b : Addr} {ob : Obj} (q : h.get? b = some ob) (n : H b = none) (hx : b ∉ ex) : ∃ sl, h1.get? b = some { ob with slots := sl } := by
  by_cases hb : b ∈ fs
  · exact u.slot b ob q n hb hx
  · exact ⟨ob.slots, u.keep b ob q n hb hx⟩
theorem Un.kept (k : ∀ b u, h.get? b = some u -> h'.get? b = some u) : Un fs ex H H h h' :=
  ⟨fun b ob q _ _ _ => k b ob q, fun b ob q _ _ _ => ⟨ob.slots, k b ob q⟩, fun _ _ _ n _ => n, fun b ob q _ => ⟨ob, k b ob q⟩, fun _ _ q => q, fun _ _ _ q => q, fun _ ps q => ⟨#[], by rw [q]; simp⟩⟩
theorem Un.refl : Un fs ex H H h h := Un.kept fun _ _ q => q
theorem Un.laid (k : ∀ b u, h.get? b = some u -> h'.get? b = some u) (hp : h.objs.size <= a) (hn : H a = none) : Un fs ex H (upd H a o) h h' where
  keep := fun b u q _ _ _ => k b u q
  slot := fun b u q _ _ _ => ⟨u.slots, k b u q⟩
  free := fun b u q n _ => by rw [upd_ne (Nat.ne_of_lt (Nat.lt_of_lt_of_le (Heap.lt_size q) hp))]; exact n
  there := fun b u q _ => ⟨u, k b u q⟩
  tups := fun b xs q => by rw [upd_ne (ne_of_none q hn)]; exact q
  frzs := fun b u xs q => by rw [upd_ne (ne_of_none q hn)]; exact q
  tbls := fun b ps q => ⟨#[], by rw [upd_ne (ne_of_none q hn), q]; simp⟩
theorem Un.write (mu : Mut (H x)) (he : e = x \/ H e = some (.own x)) (k : ∀ b u, b ≠ e -> h.get? b = some u -> h'.get? b = some u) (heo : ∃ u, h'.get? e = some u) : Un fs ex H (upd H x o) h h' := by
  have hx : ∀ b, H b = none -> b ≠ x := fun b n z => by subst z; rw [n] at mu; exact mu
  have hb : ∀ b, H b = none -> b ≠ e := fun b n z => by
    subst z
    rcases he with r | r
    · exact hx b n r
    · rw [n] at r; cases r
  have hm : ∀ b u, H b = some u -> ¬ Mut (some u) -> b ≠ x := fun b u q nm z => by subst z; rw [q] at mu; exact nm mu
  refine ⟨fun b u q n _ _ => k b u (hb b n) q, fun b u q n _ _ => ⟨u.slots, k b u (hb b n) q⟩, fun b u q n _ => by rw [upd_ne (hx b n)]; exact n, fun b u q _ => ?_,
    fun b xs q => by rw [upd_ne (hm b _ q fun z => z)]; exact q, fun b u xs q => by rw [upd_ne (hm b _ q fun z => z)]; exact q, fun b ps q => ⟨#[], by rw [upd_ne (hm b _ q fun z => z), q]; simp⟩⟩
  by_cases hbe : b = e
  · subst hbe; exact heo
  · exact ⟨u, k b u hbe q⟩
end
noncomputable def trk (h : Heap) (H : Hp) : List Addr := (List.range h.objs.size).filter fun a => (H a).isSome
noncomputable def hidT (h : Heap) (H : Hp) : Heap := PySem.W.hideAll h (trk h H)
theorem hidT_size (h : Heap) (H : Hp) : (hidT h H).objs.size = h.objs.size := PySem.W.hideAll_size _ _
theorem hidT_get {h : Heap} {H : Hp} {b : Addr} {o : Obj} (e : h.get? b = some o) (n : H b = none) : (hidT h H).get? b = some o :=
  PySem.W.hideAll_get _ e fun hm => by
    have q : (H b).isSome = true := (List.mem_filter.mp hm).2
    rw [n] at q; simp at q
theorem of_hidT {h : Heap} {H : Hp} {b : Addr} {o : Obj} (e : (hidT h H).get? b = some o) : h.get? b = some o /\ H b = none := by
  have e' : h.get? b = some o := PySem.W.of_hideAll (trk h H) e
  refine ⟨e', ?_⟩
  cases q : H b with
  | none => rfl
  | some x =>
    have hm : b ∈ trk h H := List.mem_filter.mpr ⟨List.mem_range.mpr (Heap.lt_size e'), by simp [q]⟩
    have z : (hidT h H).get? b = none := PySem.W.hideAll_none (trk h H) hm
    rw [z] at e; cases e
end L2
namespace L2
open PySem PySem.Spec PyProof.Rows
structure Mod (K : PySem.W.Frag) (mg : Str -> Option Value) (base : Heap) : Prop where
  kin : K.In base
  glob : base.Ns mainGlobals mg
  blt : ∃ mb, base.Ns builtinsNs mb /\ ∀ x : Str, x ≠ "__name__" -> mb x = bootBuiltins x
  nolimit : base.NoLimit
structure Cx where
  prog : Program
  w : World
  K : PySem.W.Frag
  mg : Str -> Option Value
  base : Heap
  A : Around
  N : List Str
  s₀ : Shared
  H₀ : Hp
  env : Env
  outer : List Env
  stack : List Env
  ex : List Addr
  fn : Str -> Bool
  calm : Bool
  pn : List (Addr × Obj)
  xe : Value -> Shared -> Prop
noncomputable def frs (l : List Env) : List Addr := l.filterMap (·.frame)
noncomputable abbrev Cx.fs (X : Cx) : List Addr := frs X.outer
noncomputable def Vis (sc : Scope) (x : Str) : Prop := sc.names.lookup x = some .local \/ sc.names.lookup x = some .cell \/ sc.names.lookup x = some .free
noncomputable def Loc (sc : Scope) (x : Str) : Prop := sc.names.lookup x = some .local \/ sc.names.lookup x = some .cell
noncomputable def Look (env : Env) (h : Heap) (m : Str -> Option Value) (x : Str) (u : Value) : Prop :=
  (env.kindOf x = some .local /\ m x = some u) \/ ((env.kindOf x = some .cell \/ env.kindOf x = some .free) /\ ∃ c, env.cells.lookup x = some c /\ h.IsCell c (some u))
structure Cx.Ok (X : Cx) : Prop where
  mod : Mod X.K X.mg X.base
  kind : X.env.scope.kind = .function
  glob : X.env.globals = mainGlobals
  blt : X.env.builtins = builtinsNs
  above : X.s₀.heap.objs.size <= X.env.locals
  inj : ∀ x y c, X.env.cells.lookup x = some c -> X.env.cells.lookup y = some c -> x = y
  has : ∀ x, (X.env.kindOf x = some .cell \/ X.env.kindOf x = some .free) -> ∃ c, X.env.cells.lookup x = some c
  cab : ∀ x c, X.fn x = true -> X.env.cells.lookup x = some c -> X.s₀.heap.objs.size <= c
  hd : X.calm = true -> X.A.handled = none
  frames : X.A.frames = some X.stack
  stk : X.stack = X.outer \/ (X.stack = X.env :: X.outer /\ X.env.frame = some X.env.locals)
  exf : ∀ b ∈ X.ex, b ≠ X.env.locals /\ ∀ x c, X.env.cells.lookup x = some c -> c ≠ b
  bs : ∀ b o, X.base.get? b = some o -> X.s₀.heap.get? b = some o /\ X.H₀ b = none
  bsz : X.base.objs.size <= X.s₀.heap.objs.size
  noex : ∀ b o, X.base.get? b = some o -> b ∉ X.ex
  exfs : ∀ b ∈ X.ex, b ∉ X.fs
  funs : X.s₀.heap.FunFrames X.base X.outer
  frf : ∀ b ∈ X.fs, X.H₀ b = none
structure Inv (X : Cx) (pins : List (Addr × Obj)) (σ : List (Option V)) (H : Hp) (s : Shared) : Prop where
  ok : X.Ok
  os : s.os = X.s₀.os
  bare : AllBare s.gens
  base : Un X.fs X.ex X.H₀ H X.s₀.heap s.heap
  loc : ∃ m, s.heap.Ns X.env.locals m /\ ∀ (i : Nat) (x : Str) (v : V), X.N[i]? = some x -> σ[i]? = some (some v) -> Vis X.env.scope x -> ∃ u, RelV v u /\ Look X.env s.heap m x u
  cell : ∀ x c, X.env.cells.lookup x = some c -> ∃ v, s.heap.IsCell c v
  free : H X.env.locals = none
  freeC : ∀ x c, X.env.cells.lookup x = some c -> H c = none
  pin : ∀ p ∈ X.pn ++ pins, s.heap.get? p.1 = some p.2 /\ H p.1 = none /\ p.1 ≠ X.env.locals /\ p.1 ∉ X.fs /\ ∀ v, p.2.data ≠ .cell v
  hok : HOk X.prog X.w H s.heap
  len : σ.length = X.N.length
section
variable {X : Cx} {pins : List (Addr × Obj)} {σ : List (Option V)} {H H' : Hp} {s : Shared} {h' : Heap}
theorem Cx.Ok.nofr (ok : X.Ok) {b : Addr} {o : Obj} (e : X.base.get? b = some o) : b ∉ X.fs := fun hb => by
  have := (ok.funs.mem hb).1
  rw [e] at this; cases this
theorem Inv.bs (I : Inv X pins σ H s) : ∀ b o, X.base.get? b = some o -> s.heap.get? b = some o /\ H b = none := fun b o e =>
  ⟨I.base.keep b o (I.ok.bs b o e).1 (I.ok.bs b o e).2 (I.ok.nofr e) (I.ok.noex b o e), I.base.free b o (I.ok.bs b o e).1 (I.ok.bs b o e).2 (I.ok.noex b o e)⟩
theorem Inv.bk (I : Inv X pins σ H s) : ∀ b o, X.base.get? b = some o -> s.heap.get? b = some o := fun b o e => (I.bs b o e).1
theorem Inv.mod (I : Inv X pins σ H s) : Mod X.K X.mg X.base := I.ok.mod
theorem Inv.kIn (I : Inv X pins σ H s) : X.K.In s.heap := I.ok.mod.kin.keeps I.bk
theorem Inv.lt (I : Inv X pins σ H s) : X.env.locals < s.heap.objs.size := let ⟨_, hn, _⟩ := I.loc; hn.lt
theorem Inv.sz (I : Inv X pins σ H s) : X.s₀.heap.objs.size <= s.heap.objs.size := Nat.le_trans I.ok.above (Nat.le_of_lt I.lt)
theorem Inv.nofs (I : Inv X pins σ H s) {a : Addr} (h : s.heap.objs.size <= a) : a ∉ X.fs := fun hb => by
  obtain ⟨_, o, ho, _⟩ := I.ok.funs.mem hb
  exact absurd (Nat.lt_of_lt_of_le (Heap.lt_size ho) (Nat.le_trans I.sz h)) (Nat.lt_irrefl _)
theorem Inv.cne (I : Inv X pins σ H s) : ∀ x c, X.env.cells.lookup x = some c -> c ≠ X.env.locals := fun x c e z => by
  obtain ⟨v, o, ho, hd⟩ := I.cell x c e
  obtain ⟨m, ⟨o', es, ep, ho', hd', _⟩, _⟩ := I.loc
  rw [z, ho'] at ho; cases ho; rw [hd'] at hd; cases hd
theorem Inv.funs (I : Inv X pins σ H s) : s.heap.FunFrames X.base X.outer := by
  have all : ∀ (l : List Env), (∀ b ∈ frs l, b ∈ X.fs) -> X.s₀.heap.FunFrames X.base l -> s.heap.FunFrames X.base l := by
    intro l
    induction l with
    | nil => intro _ _; trivial
    | cons env r ih =>
      intro hs hl
      obtain ⟨hk, ⟨L, o, hf, hn, ho, hd⟩, hr⟩ := hl
      have hL : L ∈ X.fs := hs L (by unfold frs; rw [List.filterMap_cons, hf]; exact List.mem_cons_self)
      obtain ⟨sl, e⟩ := I.base.slot L o ho (I.ok.frf L hL) hL fun z => I.ok.exfs L z hL
      exact ⟨hk, ⟨L, _, hf, hn, e, hd⟩, ih (fun b hb => hs b (by unfold frs; rw [List.filterMap_cons, hf]; exact List.mem_cons_of_mem _ hb)) hr⟩
  exact all X.outer (fun _ hb => hb) I.ok.funs
theorem Inv.stack (I : Inv X pins σ H s) : s.heap.FunFrames X.base X.stack := by
  rcases I.ok.stk with e | ⟨e, hf⟩
  · rw [e]; exact I.funs
  · rw [e]
    obtain ⟨m, hn, _⟩ := I.loc
    refine .cons (by rw [I.ok.kind]; decide) hf hn ?_ I.funs
    exact Heap.get?_none_of_le (Nat.le_trans I.ok.bsz I.ok.above)
theorem Inv.stkSub (I : Inv X pins σ H s) : ∀ b ∈ frs X.stack, b ∈ X.env.locals :: X.fs := fun b hb => by
  rcases I.ok.stk with e | ⟨e, hf⟩
  · rw [e] at hb; exact List.mem_cons_of_mem _ hb
  · rw [e] at hb
    unfold frs at hb
    rw [List.filterMap_cons, hf] at hb
    exact hb
theorem Inv.stkFree (I : Inv X pins σ H s) : ∀ b ∈ frs X.stack, H b = none := fun b hb => by
  rcases List.mem_cons.mp (I.stkSub b hb) with e | hb
  · rw [e]; exact I.free
  · obtain ⟨_, o, ho, _⟩ := I.ok.funs.mem hb
    exact I.base.free b o ho (I.ok.frf b hb) fun z => I.ok.exfs b z hb
theorem Inv.step {g' : Array GenState} {t' : Nat} {d' : Drawn} {ch : List Addr} (I : Inv X pins σ H s)
    (hch : ∀ b ∈ ch, (b ∈ X.ex \/ X.s₀.heap.objs.size <= b) /\ b ≠ X.env.locals /\ (∀ x c, X.env.cells.lookup x = some c -> c ≠ b) /\ ∀ p ∈ X.pn ++ pins, p.1 ≠ b)
    (keep : ∀ b o, b ≠ X.env.locals -> b ∉ X.fs -> b ∉ ch -> s.heap.get? b = some o -> H b = none -> h'.get? b = some o)
    (slot : ∀ b o, b ≠ X.env.locals -> b ∈ X.fs -> b ∉ ch -> s.heap.get? b = some o -> H b = none -> ∃ sl, h'.get? b = some { o with slots := sl }) (free : ∀ b o, b ∉ ch -> s.heap.get? b = some o -> H b = none -> H' b = none)
    (there : ∀ b o, b ∉ ch -> s.heap.get? b = some o -> ∃ o', h'.get? b = some o')
    (tups : ∀ b xs, H b = some (.tup xs) -> H' b = some (.tup xs)) (frzs : ∀ b o u, H b = some (.frz o u) -> H' b = some (.frz o u)) (tbls : ∀ b ps, H b = some (.tbl ps) -> ∃ more, H' b = some (.tbl (ps ++ more)))
    (ns : ∀ m, s.heap.Ns X.env.locals m -> h'.Ns X.env.locals m) (hok : HOk X.prog X.w H' h') (hg : AllBare g') :
    Inv X pins σ H' { s with heap := h', gens := g', drawn := d', toks := t' } := by
  have neL : ∀ b o, X.s₀.heap.get? b = some o -> b ≠ X.env.locals := fun b o e => Nat.ne_of_lt (Nat.lt_of_lt_of_le (Heap.lt_size e) I.ok.above)
  have neC : ∀ b o, X.s₀.heap.get? b = some o -> b ∉ X.ex -> b ∉ ch := fun b o e hx hb => by
    rcases (hch b hb).1 with z | z
    · exact hx z
    · exact absurd (Nat.lt_of_lt_of_le (Heap.lt_size e) z) (Nat.lt_irrefl _)
  have cellK : ∀ x c, X.env.cells.lookup x = some c -> ∀ v, s.heap.IsCell c v -> h'.IsCell c v := fun x c e v ⟨o, ho, hd⟩ => by
    have nch : c ∉ ch := fun z => (hch c z).2.2.1 x c e rfl
    by_cases hc : c ∈ X.fs
    · obtain ⟨sl, q⟩ := slot c o (I.cne x c e) hc nch ho (I.freeC x c e)
      exact ⟨_, q, hd⟩
    · exact ⟨o, keep c o (I.cne x c e) hc nch ho (I.freeC x c e), hd⟩
  refine ⟨I.ok, I.os, hg, ⟨fun b o e n hb hx => ?_, fun b o e n hb hx => ?_, fun b o e n hx => ?_, fun b o e hx => ?_, fun b xs e => tups b xs (I.base.tups b xs e), fun b o xs e => frzs b o xs (I.base.frzs b o xs e), fun b ps e => ?_⟩, ?_, fun x c e => ?_, ?_, fun x c e => ?_, fun p hp => ?_, hok, I.len⟩
  · exact keep b o (neL b o e) hb (neC b o e hx) (I.base.keep b o e n hb hx) (I.base.free b o e n hx)
  · obtain ⟨sl, e1⟩ := I.base.slot b o e n hb hx
    obtain ⟨sl', e2⟩ := slot b _ (neL b o e) hb (neC b o e hx) e1 (I.base.free b o e n hx)
    exact ⟨sl', e2⟩
  · obtain ⟨o', e1⟩ := I.base.there b o e hx
    exact free b o' (neC b o e hx) e1 (I.base.free b o e n hx)
  · obtain ⟨o', e1⟩ := I.base.there b o e hx
    exact there b o' (neC b o e hx) e1
  · obtain ⟨m1, e1⟩ := I.base.tbls b ps e
    obtain ⟨m2, e2⟩ := tbls b _ e1
    exact ⟨m1 ++ m2, by rw [e2, Array.append_assoc]⟩
  · obtain ⟨m, hn, hl⟩ := I.loc
    refine ⟨m, ns m hn, fun i x v e1 e2 e3 => ?_⟩
    obtain ⟨u, r, l⟩ := hl i x v e1 e2 e3
    refine ⟨u, r, ?_⟩
    rcases l with l | ⟨k, c, e, z⟩
    · exact .inl l
    · exact .inr ⟨k, c, e, cellK x c e _ z⟩
  · obtain ⟨v, z⟩ := I.cell x c e
    exact ⟨v, cellK x c e v z⟩
  · obtain ⟨m, ⟨o, _, _, ho, _⟩, _⟩ := I.loc
    exact free _ o (fun z => (hch _ z).2.1 rfl) ho I.free
  · obtain ⟨v, o, ho, hd⟩ := I.cell x c e
    exact free c o (fun z => (hch c z).2.2.1 x c e rfl) ho (I.freeC x c e)
  · obtain ⟨e, n, ne, nf, d⟩ := I.pin p hp
    have nch : p.1 ∉ ch := fun z => (hch p.1 z).2.2.2 p hp rfl
    exact ⟨keep p.1 p.2 ne nf nch e n, free p.1 p.2 nch e n, ne, nf, d⟩
theorem Inv.un {t' : Nat} (I : Inv X pins σ H s) (u : Un X.fs [] H H' s.heap h') (hok : HOk X.prog X.w H' h') : Inv X pins σ H' { s with heap := h', toks := t' } := by
  obtain ⟨m, ⟨o, es, ep, ho, r⟩, _⟩ := id I.loc
  obtain ⟨sl, hL⟩ := u.any ho I.free (by simp)
  exact I.step (g' := s.gens) (d' := s.drawn) (ch := []) (fun _ z => nomatch z) (fun b o _ hb _ e n => u.keep b o e n hb (by simp)) (fun b o _ hb _ e n => u.slot b o e n hb (by simp)) (fun b o _ e n => u.free b o e n (by simp)) (fun b o _ e => u.there b o e (by simp)) u.tups u.frzs u.tbls (fun m' hm => by
    obtain ⟨o', es', ep', ho', r'⟩ := hm
    rw [ho] at ho'; cases ho'
    exact ⟨_, es', ep', hL, r'⟩) hok I.bare
theorem Inv.call {g' : Array GenState} {t' : Nat} {d' : Drawn} {ch : List Addr} (I : Inv X pins σ H s) (u : Un (frs X.stack) ch H H' s.heap h') (hok : HOk X.prog X.w H' h') (hg : AllBare g')
    (hch : ∀ b ∈ ch, (b ∈ X.ex \/ X.s₀.heap.objs.size <= b) /\ b ≠ X.env.locals /\ (∀ x c, X.env.cells.lookup x = some c -> c ≠ b) /\ ∀ p ∈ X.pn ++ pins, p.1 ≠ b) :
    Inv X pins σ H' { s with heap := h', gens := g', drawn := d', toks := t' } := by
  obtain ⟨m, ⟨o, es, ep, ho, r⟩, _⟩ := id I.loc
  obtain ⟨sl, hL⟩ := u.any ho I.free fun z => (hch _ z).2.1 rfl
  exact I.step (ch := ch) hch (fun b o hL hb hc e n => u.keep b o e n (fun z => (List.mem_cons.mp (I.stkSub b z)).elim hL hb) hc) (fun b o _ _ hc e n => u.any e n hc) (fun b o hc e n => u.free b o e n hc) (fun b o hc e => u.there b o e hc) u.tups u.frzs u.tbls (fun m' hm => by
    obtain ⟨o', es', ep', ho', r'⟩ := hm
    rw [ho] at ho'; cases ho'
    exact ⟨_, es', ep', hL, r'⟩) hok hg
theorem Inv.turned {t' : Nat} {it : Addr} (I : Inv X pins σ H s) (k : ∀ b o, b ≠ it -> s.heap.get? b = some o -> h'.get? b = some o) (hn : H it = none) (hL : it ≠ X.env.locals)
    (h1 : it ∈ X.ex \/ X.s₀.heap.objs.size <= it) (h2 : ∀ x c, X.env.cells.lookup x = some c -> c ≠ it) (h3 : ∀ p ∈ X.pn ++ pins, p.1 ≠ it) : Inv X pins σ H { s with heap := h', toks := t' } := by
  have nit : ∀ b u, H b = some u -> b ≠ it := fun b u e z => by rw [z, hn] at e; cases e
  refine I.step (g' := s.gens) (d' := s.drawn) (ch := [it]) (fun b hb => ?_) (fun b o _ _ hc e _ => k b o (fun z => hc (by simp [z])) e) (fun b o _ _ hc e _ => ⟨o.slots, k b o (fun z => hc (by simp [z])) e⟩) (fun _ _ _ _ n => n)
    (fun b o hc e => ⟨o, k b o (fun z => hc (by simp [z])) e⟩) (fun _ _ e => e) (fun _ _ _ e => e) (fun b ps e => ⟨#[], by rw [e]; simp⟩) (fun m hm => ?_) (fun b u e => ?_) I.bare
  · have e : b = it := by simpa using hb
    subst e
    exact ⟨h1, hL, h2, h3⟩
  · obtain ⟨o, es, ep, ho, r⟩ := hm
    exact ⟨o, es, ep, k _ o (Ne.symm hL) ho, r⟩
  · refine (I.hok b u e).stay (fun c v hc q => k c v ?_ q) (fun _ q => q) fun _ _ q => q
    rcases hc with z | z
    · rw [z]; exact nit b u e
    · exact nit c _ z
theorem Inv.tok (I : Inv X pins σ H s) (t : Nat) : Inv X pins σ H { s with toks := t } := I.un (h' := s.heap) (t' := t) Un.refl I.hok
theorem Inv.kept {t' : Nat} (I : Inv X pins σ H s) (k : ∀ b u, s.heap.get? b = some u -> h'.get? b = some u) : Inv X pins σ H { s with heap := h', toks := t' } := I.un (Un.kept k) (I.hok.kept k)
theorem Inv.laid {a : Addr} {o : HO} {t' : Nat} (I : Inv X pins σ H s) (k : ∀ b u, s.heap.get? b = some u -> h'.get? b = some u) (hp : s.heap.objs.size <= a) (new : ObjOk X.prog X.w (upd H a o) h' a o) :
    Inv X pins σ (upd H a o) { s with heap := h', toks := t' } := I.un (Un.laid k hp (I.hok.fresh hp)) (I.hok.laid k hp new)
theorem Inv.write {x e : Addr} {o : HO} {t' : Nat} (I : Inv X pins σ H s) (mu : Mut (H x)) (he : e = x \/ H e = some (.own x)) (k : ∀ b u, b ≠ e -> s.heap.get? b = some u -> h'.get? b = some u) (heo : ∃ u, h'.get? e = some u)
    (new : ObjOk X.prog X.w (upd H x o) h' x o) : Inv X pins σ (upd H x o) { s with heap := h', toks := t' } := I.un (Un.write mu he k heo) (I.hok.write mu he k heo new)
theorem Inv.pins_of {pins' : List (Addr × Obj)} (I : Inv X pins σ H s) (h : ∀ p ∈ pins', s.heap.get? p.1 = some p.2 /\ H p.1 = none /\ p.1 ≠ X.env.locals /\ p.1 ∉ X.fs /\ ∀ v, p.2.data ≠ .cell v) : Inv X pins' σ H s :=
  ⟨I.ok, I.os, I.bare, I.base, I.loc, I.cell, I.free, I.freeC, fun p hp => (List.mem_append.mp hp).elim (fun z => I.pin p (List.mem_append_left _ z)) (h p), I.hok, I.len⟩
theorem nodup_ix {N : List Str} (hN : N.Nodup) {i j : Nat} {x : Str} (a : N[i]? = some x) (b : N[j]? = some x) : i = j := by
  obtain ⟨h1, e1⟩ := List.getElem?_eq_some_iff.mp a
  obtain ⟨h2, e2⟩ := List.getElem?_eq_some_iff.mp b
  exact (List.getElem_inj hN).mp (e1.trans e2.symm)
theorem store_ok2 {M : Model} {A : Around} {E : Value -> Shared -> Prop} {i : Nat} {x : Str} {v : V} {u : Value} {Q : Unit -> Shared -> Prop} (I : Inv X pins σ H s) (hN : X.N.Nodup) (hi : X.N[i]? = some x) (hx : Loc X.env.scope x) (r : RelV v u)
    (h : ∀ s', Inv X pins (σ.set i (some v)) H s' -> (∃ a, Heap.SameBut a s.heap s'.heap /\ (a = X.env.locals \/ X.env.cells.lookup x = some a)) -> Q () s') (hf : X.fn x = true \/ X.env.scope.names.lookup x = some .local := by first | exact .inl rfl | exact .inr rfl | assumption) : wpAny M A (storeName X.env x u) Q E s := by
  obtain ⟨m, hn, hl⟩ := id I.loc
  have hcls : (X.env.scope.kind == .class || (X.env.scope.kind == .module && X.env.locals != X.env.globals)) = false := by rw [I.ok.kind]; rfl
  have hiσ : i < σ.length := by rw [I.len]; exact (List.getElem?_eq_some_iff.mp hi).1
  have cne := I.cne
  have tracked : ∀ {a : Addr} {h' : Heap}, (∃ o, s.heap.get? a = some o /\ H a = none) -> Heap.SameBut a s.heap h' -> HOk X.prog X.w H h' := fun {a h'} ha hs b ob e => by
    obtain ⟨_, _, hfree⟩ := ha
    refine (I.hok b ob e).stay (fun c w' hc q => (hs.2 c ?_).trans q) (fun _ q => q) fun _ _ q => q
    rintro rfl
    rcases hc with rfl | hc
    · rw [hfree] at e; cases e
    · rw [hfree] at hc; cases hc
  rcases hx with hk | hk
  · refine wpAny_storeName_local hk hn (fun h' hn' hs => ?_) hcls
    obtain ⟨oL, _, _, hoL, _⟩ := id hn
    refine h _ ⟨I.ok, I.os, I.bare, ⟨fun b o e n hb hx => ?_, fun b o e n hb hx => ?_, I.base.free, fun b o e hx => ?_, I.base.tups, I.base.frzs, I.base.tbls⟩, ⟨_, hn', fun j y v' e1 e2 e3 => ?_⟩, fun y c e => ?_, I.free, I.freeC, fun p hp => ?_, tracked ⟨oL, hoL, I.free⟩ hs, by simpa using I.len⟩ ⟨_, hs, .inl rfl⟩
    · exact (hs.2 b (Nat.ne_of_lt (Nat.lt_of_lt_of_le (Heap.lt_size e) I.ok.above))).trans (I.base.keep b o e n hb hx)
    · obtain ⟨sl, e1⟩ := I.base.slot b o e n hb hx
      exact ⟨sl, (hs.2 b (Nat.ne_of_lt (Nat.lt_of_lt_of_le (Heap.lt_size e) I.ok.above))).trans e1⟩
    · obtain ⟨o', e1⟩ := I.base.there b o e hx
      exact ⟨o', (hs.2 b (Nat.ne_of_lt (Nat.lt_of_lt_of_le (Heap.lt_size e) I.ok.above))).trans e1⟩
    · by_cases hj : j = i
      · subst hj
        rw [hi] at e1; cases e1
        rw [List.getElem?_set_self hiσ] at e2
        cases e2
        exact ⟨u, r, .inl ⟨hk, by simp⟩⟩
      · rw [List.getElem?_set_ne (Ne.symm hj)] at e2
        obtain ⟨u', r', q⟩ := hl j y v' e1 e2 e3
        refine ⟨u', r', ?_⟩
        rcases q with ⟨k, e⟩ | ⟨k, c, e, z⟩
        · refine .inl ⟨k, ?_⟩
          have : y ≠ x := fun e => hj (nodup_ix hN e1 (e ▸ hi))
          simp [this, e]
        · exact .inr ⟨k, c, e, z.sameBut hs (cne y c e)⟩
    · obtain ⟨w', z⟩ := I.cell y c e
      exact ⟨w', z.sameBut hs (cne y c e)⟩
    · obtain ⟨e, n, ne, nf, d⟩ := I.pin p hp
      exact ⟨(hs.2 p.1 ne).trans e, n, ne, nf, d⟩
  · have hfn : X.fn x = true := by
      rcases hf with z | z
      · exact z
      · rw [z] at hk; cases hk
    obtain ⟨c, hc⟩ := I.ok.has x (.inl hk)
    obtain ⟨w', z⟩ := I.cell x c hc
    refine wpAny_storeName_cell I.ok.kind hk hc z (fun h' hc' hs => ?_)
    obtain ⟨oc, hoc, hocd⟩ := id z
    refine h { s with heap := h' } ⟨I.ok, I.os, I.bare, ⟨fun b o e n hb hx => ?_, fun b o e n hb hx => ?_, I.base.free, fun b o e hx => ?_, I.base.tups, I.base.frzs, I.base.tbls⟩, ⟨m, hn.sameBut hs (Ne.symm (cne x c hc)), fun j y v' e1 e2 e3 => ?_⟩, fun y c' e => ?_, I.free, I.freeC, fun p hp => ?_, tracked ⟨oc, hoc, I.freeC x c hc⟩ hs, by simpa using I.len⟩ ⟨c, hs, .inr hc⟩
    · exact (hs.2 b (Nat.ne_of_lt (Nat.lt_of_lt_of_le (Heap.lt_size e) (I.ok.cab x c hfn hc)))).trans (I.base.keep b o e n hb hx)
    · obtain ⟨sl, e1⟩ := I.base.slot b o e n hb hx
      exact ⟨sl, (hs.2 b (Nat.ne_of_lt (Nat.lt_of_lt_of_le (Heap.lt_size e) (I.ok.cab x c hfn hc)))).trans e1⟩
    · obtain ⟨o', e1⟩ := I.base.there b o e hx
      exact ⟨o', (hs.2 b (Nat.ne_of_lt (Nat.lt_of_lt_of_le (Heap.lt_size e) (I.ok.cab x c hfn hc)))).trans e1⟩
    · by_cases hj : j = i
      · subst hj
        rw [hi] at e1; cases e1
        rw [List.getElem?_set_self hiσ] at e2
        cases e2
        exact ⟨u, r, .inr ⟨.inl hk, c, hc, hc'⟩⟩
      · rw [List.getElem?_set_ne (Ne.symm hj)] at e2
        obtain ⟨u', r', q⟩ := hl j y v' e1 e2 e3
        refine ⟨u', r', ?_⟩
        rcases q with q | ⟨k, c', e, z'⟩
        · exact .inl q
        · refine .inr ⟨k, c', e, z'.sameBut hs ?_⟩
          rintro rfl
          exact hj (nodup_ix hN e1 (I.ok.inj _ _ _ e hc ▸ hi))
    · by_cases hcc : c' = c
      · subst hcc; exact ⟨_, hc'⟩
      · obtain ⟨w2, z2⟩ := I.cell y c' e
        exact ⟨w2, z2.sameBut hs hcc⟩
    · obtain ⟨e, n, ne, nf, d⟩ := I.pin p hp
      refine ⟨(hs.2 p.1 ?_).trans e, n, ne, nf, d⟩
      intro q
      rw [q, hoc] at e
      have q' : oc = p.2 := Option.some.inj e
      exact d w' (by rw [<- q']; exact hocd)
theorem store_ok {M : Model} {A : Around} {E : Value -> Shared -> Prop} {i : Nat} {x : Str} {v : V} {u : Value} {Q : Unit -> Shared -> Prop} (I : Inv X pins σ H s) (hN : X.N.Nodup) (hi : X.N[i]? = some x) (hx : Loc X.env.scope x) (r : RelV v u)
    (h : ∀ s', Inv X pins (σ.set i (some v)) H s' -> Q () s') (hf : X.fn x = true \/ X.env.scope.names.lookup x = some .local := by first | exact .inl rfl | exact .inr rfl | assumption) : wpAny M A (storeName X.env x u) Q E s :=
  store_ok2 I hN hi hx r (fun s' I' _ => h s' I') hf
theorem Inv.call' {s' : Shared} {ch : List Addr} (I : Inv X pins σ H s) (ho : s'.os = s.os) (u : Un (frs X.stack) ch H H' s.heap s'.heap) (hok : HOk X.prog X.w H' s'.heap) (hg : AllBare s'.gens)
    (hch : ∀ b ∈ ch, (b ∈ X.ex \/ X.s₀.heap.objs.size <= b) /\ b ≠ X.env.locals /\ (∀ x c, X.env.cells.lookup x = some c -> c ≠ b) /\ ∀ p ∈ X.pn ++ pins, p.1 ≠ b) : Inv X pins σ H' s' := by
  obtain ⟨h', g', d', t', o'⟩ := s'
  have e : o' = s.os := ho
  subst e
  exact I.call (g' := g') (t' := t') (d' := d') u hok hg hch
end
noncomputable abbrev XK := Value -> Option Addr -> Hp -> Prop
noncomputable abbrev St := List (Option V)
noncomputable abbrev VK := V -> Hp -> Prop
noncomputable abbrev TE := St -> Hp -> VK -> Prop
noncomputable abbrev TT := St -> Hp -> (Bool -> Hp -> Prop) -> Prop
noncomputable abbrev TA := St -> Hp -> (List V -> Hp -> Prop) -> Prop
structure Ends where
  nx : St -> Hp -> Prop
  rt : VK
  bk : St -> Hp -> Prop := fun _ _ => False
  ct : St -> Hp -> Prop := fun _ _ => False
noncomputable abbrev TS := Ends -> St -> Hp -> Prop
noncomputable def EP (X : Cx) (pins : List (Addr × Obj)) (σ : St) (Q : VK) (u : Value) (s' : Shared) : Prop := ∃ v H', Inv X pins σ H' s' /\ RelV v u /\ Q v H'
noncomputable def TP (X : Cx) (pins : List (Addr × Obj)) (σ : St) (Q : Bool -> Hp -> Prop) (b : Bool) (s' : Shared) : Prop := ∃ H', Inv X pins σ H' s' /\ Q b H'
noncomputable def AP (X : Cx) (pins : List (Addr × Obj)) (σ : St) (Q : List V -> Hp -> Prop) (us : List Value) (s' : Shared) : Prop := ∃ vs H', Inv X pins σ H' s' /\ Vals vs us /\ Q vs H'
noncomputable def SP (X : Cx) (pins : List (Addr × Obj)) (D : Ends) (f : Flow) (s' : Shared) : Prop :=
  match f with
  | .next => ∃ σ' H', Inv X pins σ' H' s' /\ D.nx σ' H'
  | .brk => ∃ σ' H', Inv X pins σ' H' s' /\ D.bk σ' H'
  | .cont => ∃ σ' H', Inv X pins σ' H' s' /\ D.ct σ' H'
  | .ret u => ∃ v σ' H', Inv X pins σ' H' s' /\ RelV v u /\ D.rt v H'
noncomputable def PE (X : Cx) (e : Expr) (t : TE) : Prop :=
  ∀ (pins : List (Addr × Obj)) (s : Shared) (σ : St) (H : Hp) (Q : VK), Inv X pins σ H s -> t σ H Q -> wpAny (model X.prog X.w) X.A (eval e X.env) (EP X pins σ Q) X.xe s
noncomputable def PT (X : Cx) (e : Expr) (t : TT) : Prop :=
  ∀ (pins : List (Addr × Obj)) (s : Shared) (σ : St) (H : Hp) (Q : Bool -> Hp -> Prop), Inv X pins σ H s -> t σ H Q -> wpAny (model X.prog X.w) X.A (isTrue e X.env (eval e X.env)) (TP X pins σ Q) X.xe s
noncomputable def PW (X : Cx) (e : Expr) (t : TT) : Prop :=
  ∀ (whole : Sem Value) (pins : List (Addr × Obj)) (s : Shared) (σ : St) (H : Hp) (Q : Bool -> Hp -> Prop), Inv X pins σ H s -> t σ H Q -> wpAny (model X.prog X.w) X.A (isTrue e X.env whole) (TP X pins σ Q) X.xe s
theorem PW.pt {X : Cx} {e : Expr} {t : TT} (h : PW X e t) : PT X e t := h _
noncomputable def PA (X : Cx) (es : List Expr) (t : TA) : Prop :=
  ∀ (pos : Pos) (pins : List (Addr × Obj)) (s : Shared) (σ : St) (H : Hp) (Q : List V -> Hp -> Prop), Inv X pins σ H s -> t σ H Q -> wpAny (model X.prog X.w) X.A (spliced (backTo pos (starEach es X.env))) (AP X pins σ Q) X.xe s
noncomputable def PS (X : Cx) (st : Stmt) (t : TS) : Prop :=
  ∀ (pins : List (Addr × Obj)) (s : Shared) (σ : St) (H : Hp) (D : Ends), Inv X pins σ H s -> t D σ H -> wpAny (model X.prog X.w) X.A (exec st X.env) (SP X pins D) X.xe s
noncomputable def PSs (X : Cx) (st : List Stmt) (t : TS) : Prop :=
  ∀ (pins : List (Addr × Obj)) (s : Shared) (σ : St) (H : Hp) (D : Ends), Inv X pins σ H s -> t D σ H -> wpAny (model X.prog X.w) X.A (execs st X.env) (SP X pins D) X.xe s
theorem thn {α : Type} {t : Sem α} {Q Q' : α -> Shared -> Prop} {M : Model} {A : Around} {E : Value -> Shared -> Prop} {s : Shared} (h : wpAny M A t Q E s) (hQ : ∀ a s, Q a s -> Q' a s) : wpAny M A t Q' E s := wpAny_mono h hQ fun _ _ x => x
end L2
namespace L2
open PySem PySem.Spec PyProof.Rows
section
variable {X : Cx}
noncomputable def tVar (i : Nat) : TE := fun σ H Q => ∃ v, σ[i]? = some (some v) /\ Q v H
noncomputable def tC (v : V) : TE := fun _ H Q => Q v H
theorem pe_var {i : Nat} {x : Str} {pos : Pos} (hN : X.N[i]? = some x) (hv : Vis X.env.scope x) (hd : (x == ("__debug__" : Str)) = false := by decide) (hcd : (x == ("__classdict__" : Str)) = false := by decide) : PE X (.Name x pos) (tVar i) := by
  intro pins s σ H Q I h
  obtain ⟨v, e, h⟩ := h
  obtain ⟨m, hn, hl⟩ := I.loc
  obtain ⟨u, r, l⟩ := hl i x v hN e hv
  have fin : EP X pins σ Q u s := ⟨v, H, I, r, h⟩
  rcases l with ⟨hk, hm⟩ | ⟨hk, c, hc, hcell⟩
  · exact wpAny_Name (wpAny_loadName_local I.ok.kind hk hn hm fin) hd
  · rcases hk with hk | hk
    · exact wpAny_Name (wpAny_loadName_cell I.ok.kind hk hc hcell fin) hd
    · exact wpAny_Name (wpAny_loadName_free I.ok.kind hk hc hcell fin hcd) hd
theorem pe_int {i j pos} : PE X (.Constant (.int i) j pos) (tC (.int i)) := fun _ _ _ H _ I h => wpAny_Constant_int ⟨.int i, H, I.tok _, ⟨_, rfl⟩, h⟩
theorem pe_bl {b j pos} : PE X (.Constant (.bool b) j pos) (tC (.bl b)) := fun _ _ _ H _ I h => Constant_bool ⟨.bl b, H, I, rfl, h⟩
theorem pe_str {x j pos} : PE X (.Constant (.str x) j pos) (tC (.str x)) := fun _ _ _ H _ I h => Calls.Constant_str ⟨.str x, H, I.tok _, ⟨_, rfl⟩, h⟩
noncomputable def Gl (X : Cx) (x : Str) : Prop := X.env.kindOf x = some .globalImplicit
theorem ld_glob {E : Value -> Shared -> Prop} {pins : List (Addr × Obj)} {s : Shared} {σ : St} {H : Hp} {x : Str} {u : Value} {pos : Pos} {Q : Value -> Shared -> Prop} (I : Inv X pins σ H s) (hg : Gl X x) (hm : X.mg x = some u) (h : Q u s)
    (hd : (x == ("__debug__" : Str)) = false := by decide) : wpAny (model X.prog X.w) X.A (eval (.Name x pos) X.env) Q E s :=
  Calls.Name_function_global I.ok.kind hg (Calls.loadGlobal_global (by rw [I.ok.glob]; exact I.mod.glob.keeps I.bk) hm h) hd
theorem ld_blt {E : Value -> Shared -> Prop} {pins : List (Addr × Obj)} {s : Shared} {σ : St} {H : Hp} {x : Str} {u : Value} {pos : Pos} {Q : Value -> Shared -> Prop} (I : Inv X pins σ H s) (hg : Gl X x) (hm : X.mg x = none) (hv : bootBuiltins x = some u) (h : Q u s)
    (hn : x ≠ "__name__" := by decide) (hd : (x == ("__debug__" : Str)) = false := by decide) : wpAny (model X.prog X.w) X.A (eval (.Name x pos) X.env) Q E s := by
  obtain ⟨mb, h1, h2⟩ := I.mod.blt
  exact Calls.Name_function_global I.ok.kind hg (Calls.loadGlobal_builtin (by rw [I.ok.glob]; exact I.mod.glob.keeps I.bk) hm (by rw [I.ok.blt]; exact h1.keeps I.bk) ((h2 x hn).trans hv) h) hd
theorem pe_glob {x : Str} {v : V} {u : Value} {pos : Pos} (hg : Gl X x) (hm : X.mg x = some u) (r : RelV v u) (hd : (x == ("__debug__" : Str)) = false := by decide) : PE X (.Name x pos) (tC v) :=
  fun _ _ _ H _ I h => ld_glob I hg hm ⟨v, H, I, r, h⟩ hd
theorem pe_bltn {x : Str} {v : V} {u : Value} {pos : Pos} (hg : Gl X x) (hm : X.mg x = none) (hv : bootBuiltins x = some u) (r : RelV v u) (hn : x ≠ "__name__" := by decide) (hd : (x == ("__debug__" : Str)) = false := by decide) : PE X (.Name x pos) (tC v) :=
  fun _ _ _ H _ I h => ld_blt I hg hm hv ⟨v, H, I, r, h⟩ hn hd
variable {a b : Expr} {ta tb : TE} {pos : Pos}
noncomputable def tB (t : TE) : TT := fun σ H Q => t σ H fun x H1 => ∃ c, x = .bl c /\ Q c H1
theorem pt_val {e : Expr} {t : TE} (h : PE X e t) (he : ∀ whole, isTrue e X.env whole = (do let v <- whole; standAt e.pos; holding [v] (truthy v)) := by intro _; rfl) : PT X e (tB t) := by
  intro pins s σ H Q I hw
  refine isTrue_plain (thn (h pins s σ H _ I hw) fun v s1 ⟨x, H1, I1, r1, q1⟩ => ?_) (he _)
  obtain ⟨d, rfl, q⟩ := q1
  cases r1
  exact wpAny_truthy_bool ⟨H1, I1, q⟩
variable {tA tB' : TT} {rest : List Expr}
noncomputable def tAnd (t u : TT) : TT := fun σ H Q => t σ H fun c H1 => if c = true then u σ H1 Q else Q false H1
noncomputable def tOr (t u : TT) : TT := fun σ H Q => t σ H fun c H1 => if c = true then Q true H1 else u σ H1 Q
noncomputable def tNot (t : TT) : TT := fun σ H Q => t σ H fun c H1 => Q (!c) H1
theorem pw_and1 (ha : PT X a tA) : PW X (.BoolOp .And [a] pos) tA := by
  intro wh pins s σ H Q I h
  refine isTrue_and (thn (ha pins s σ H Q I h) fun c s1 e => ?_)
  cases c with
  | true => exact isTrue_and_nil e
  | false => exact e
theorem pw_or1 (ha : PT X a tA) : PW X (.BoolOp .Or [a] pos) tA := by
  intro wh pins s σ H Q I h
  refine isTrue_or (thn (ha pins s σ H Q I h) fun c s1 e => ?_)
  cases c with
  | false => exact isTrue_or_nil e
  | true => exact e
theorem pw_and (ha : PT X a tA) (hb : PW X (.BoolOp .And (b :: rest) pos) tB') : PW X (.BoolOp .And (a :: b :: rest) pos) (tAnd tA tB') := by
  intro wh pins s σ H Q I h
  refine isTrue_and (thn (ha pins s σ H _ I h) fun c s1 ⟨H1, I1, q1⟩ => ?_)
  cases c with
  | true => exact hb wh pins s1 σ H1 Q I1 q1
  | false => exact ⟨H1, I1, q1⟩
theorem pw_or (ha : PT X a tA) (hb : PW X (.BoolOp .Or (b :: rest) pos) tB') : PW X (.BoolOp .Or (a :: b :: rest) pos) (tOr tA tB') := by
  intro wh pins s σ H Q I h
  refine isTrue_or (thn (ha pins s σ H _ I h) fun c s1 ⟨H1, I1, q1⟩ => ?_)
  cases c with
  | true => exact ⟨H1, I1, q1⟩
  | false => exact hb wh pins s1 σ H1 Q I1 q1
theorem pt_not (ha : PT X a tA) : PT X (.UnaryOp .Not a pos) (tNot tA) := by
  intro pins s σ H Q I h
  exact isTrue_not (ha pins s σ H (fun c H1 => Q (!c) H1) I h)
noncomputable def tAndV (ta tb : TE) : TE := fun σ H Q => ta σ H fun x H1 => ∃ c, x = .bl c /\ if c = true then tb σ H1 Q else Q (.bl false) H1
noncomputable def tOrV (ta tb : TE) : TE := fun σ H Q => ta σ H fun x H1 => ∃ c, x = .bl c /\ if c = true then Q (.bl true) H1 else tb σ H1 Q
noncomputable def tNotV (ta : TE) : TE := fun σ H Q => ta σ H fun x H1 => ∃ c, x = .bl c /\ Q (.bl (!c)) H1
theorem pe_one {op} {t : TE} (h : PE X a t) : PE X (.BoolOp op [a] pos) t := fun pins s σ H Q I hw => BoolOp_one (h pins s σ H Q I hw)
theorem pe_and (ha : PE X a ta) (hb : PE X (.BoolOp .And (b :: rest) pos) tb) : PE X (.BoolOp .And (a :: b :: rest) pos) (tAndV ta tb) := by
  intro pins s σ H Q I h
  refine BoolOp_and (thn (ha pins s σ H _ I h) fun v s1 ⟨x, H1, I1, r1, q1⟩ => ?_)
  obtain ⟨c, rfl, q1⟩ := q1
  cases r1
  refine wpAny_truthy_bool ?_
  cases c with
  | true => exact hb pins s1 σ H1 Q I1 q1
  | false => exact ⟨.bl false, H1, I1, rfl, q1⟩
theorem pe_or (ha : PE X a ta) (hb : PE X (.BoolOp .Or (b :: rest) pos) tb) : PE X (.BoolOp .Or (a :: b :: rest) pos) (tOrV ta tb) := by
  intro pins s σ H Q I h
  refine BoolOp_or (thn (ha pins s σ H _ I h) fun v s1 ⟨x, H1, I1, r1, q1⟩ => ?_)
  obtain ⟨c, rfl, q1⟩ := q1
  cases r1
  refine wpAny_truthy_bool ?_
  cases c with
  | false => exact hb pins s1 σ H1 Q I1 q1
  | true => exact ⟨.bl true, H1, I1, rfl, q1⟩
theorem pe_not (ha : PE X a ta) : PE X (.UnaryOp .Not a pos) (tNotV ta) := by
  intro pins s σ H Q I h
  refine UnaryOp_ (thn (ha pins s σ H _ I h) fun v s1 ⟨x, H1, I1, r1, q1⟩ => ?_)
  obtain ⟨c, rfl, q1⟩ := q1
  cases r1
  exact not_of (wpAny_truthy_bool ⟨.bl (!c), H1, I1, rfl, q1⟩)
noncomputable def tIf (t : TT) (ta tb : TE) : TE := fun σ H Q => t σ H fun c H1 => if c = true then ta σ H1 Q else tb σ H1 Q
theorem pe_ifExp {c : Expr} (hc : PT X c tA) (ha : PE X a ta) (hb : PE X b tb) : PE X (.IfExp c a b pos) (tIf tA ta tb) := by
  intro pins s σ H Q I h
  refine wpAny_IfExp (thn (hc pins s σ H _ I h) fun d s1 ⟨H1, I1, q1⟩ => ?_)
  cases d with
  | true => exact ha pins s1 σ H1 Q I1 q1
  | false => exact hb pins s1 σ H1 Q I1 q1
end
end L2
namespace L2
open PySem PySem.Spec PyProof.Rows
noncomputable def SqL (K : PySem.W.Frag) (H : Hp) (a : Addr) (xs : List V) : Prop :=
  Rd H a (.lst xs) \/
    ∃ (o : Obj) (its : Array Value) (n : Nat), K.lookup a = some o /\ o.cls = .type "list" /\ o.dict = none /\ o.data = .seq its n /\ its.size <= sizeLine /\ Vals xs its.toList
noncomputable def SqT (K : PySem.W.Frag) (H : Hp) (a : Addr) (xs : List V) : Prop :=
  Rd H a (.tup xs) \/
    ∃ (o : Obj) (its : Array Value) (n : Nat), K.lookup a = some o /\ o.cls = .type "tuple" /\ o.dict = none /\ o.data = .seq its n /\ its.size <= sizeLine /\ Vals xs its.toList
noncomputable def absV : Value -> Option V
  | .none => some .non
  | .bool b => some (.bl b)
  | .int i _ => some (.int i)
  | .str x _ => some (.str x)
  | .bytes b _ => some (.byt b)
  | .float b _ => some (.flt b)
  | .ref a => some (.ref a)
  | .type n => some (.ty n)
  | _ => none
theorem RelV.abs {x : V} {u : Value} (r : RelV x u) : absV u = some x := by
  cases x with
  | non => cases r; rfl
  | bl _ => cases r; rfl
  | int _ => obtain ⟨t, rfl⟩ := r; rfl
  | str _ => obtain ⟨t, rfl⟩ := r; rfl
  | byt _ => obtain ⟨t, rfl⟩ := r; rfl
  | flt _ => obtain ⟨t, rfl⟩ := r; rfl
  | ref _ => cases r; rfl
  | ty _ => cases r; rfl
theorem RelV.inj {x y : V} {u : Value} (r : RelV x u) (q : RelV y u) : x = y := Option.some.inj (r.abs.symm.trans q.abs)
theorem Vals.inj : ∀ {xs ys : List V} {us : List Value}, Vals xs us -> Vals ys us -> xs = ys
  | _, _, _, .nil, .nil => rfl
  | _, _, _, .cons r t, .cons r' t' => by rw [r.inj r', Vals.inj t t']
section
variable {X : Cx} {pins : List (Addr × Obj)} {σ : St} {H : Hp} {s : Shared} {a : Addr} {xs ys : List V}
theorem SqL.of {K : PySem.W.Frag} (h : H a = some (.lst xs)) : SqL K H a xs := .inl (.inl h)
theorem SqT.of {K : PySem.W.Frag} (h : H a = some (.tup xs)) : SqT K H a xs := .inl (.inl h)
theorem Inv.list (I : Inv X pins σ H s) (h : SqL X.K H a xs) : ∃ its : List Value, Vals xs its /\ PlainL s.heap a its.toArray /\ xs.length <= sizeLine := by
  rcases h with h | ⟨o, its, n, hk, hc, hd, hs, hz, r⟩
  · obtain ⟨z, its, n, r, e⟩ := h.ok I.hok
    exact ⟨its, r, ⟨_, n, e, rfl, rfl, rfl⟩, z⟩
  · refine ⟨its.toList, r, ⟨o, n, I.kIn a o hk, hc, hd, by simpa using hs⟩, ?_⟩
    have e := r.length
    simp only [Array.length_toList] at e
    omega
theorem Inv.tuple (I : Inv X pins σ H s) (h : SqT X.K H a xs) : ∃ its : List Value, Vals xs its /\ IsTup s.heap a its.toArray /\ xs.length <= sizeLine := by
  rcases h with h | ⟨o, its, n, hk, hc, _, hs, hz, r⟩
  · obtain ⟨z, its, r, p⟩ := h.ok I.hok
    exact ⟨its, r, p.tup, z⟩
  · refine ⟨its.toList, r, ⟨o, I.kIn a o hk, hc, n, by simpa using hs⟩, ?_⟩
    have e := r.length
    simp only [Array.length_toList] at e
    omega
theorem Inv.list_inj (I : Inv X pins σ H s) (h : SqL X.K H a xs) (h' : SqL X.K H a ys) : xs = ys := by
  obtain ⟨its, r, ⟨o, n, e, _, _, d⟩, _⟩ := I.list h
  obtain ⟨its', r', ⟨o', n', e', _, _, d'⟩, _⟩ := I.list h'
  rw [e] at e'; cases e'
  rw [d] at d'
  injection d' with d1 _
  have : its = its' := by simpa using congrArg Array.toList d1
  subst this
  exact r.inj r'
theorem Inv.tuple_inj (I : Inv X pins σ H s) (h : SqT X.K H a xs) (h' : SqT X.K H a ys) : xs = ys := by
  obtain ⟨its, r, ⟨o, e, _, n, d⟩, _⟩ := I.tuple h
  obtain ⟨its', r', ⟨o', e', _, n', d'⟩, _⟩ := I.tuple h'
  rw [e] at e'; cases e'
  rw [d] at d'
  injection d' with d1 _
  have : its = its' := by simpa using congrArg Array.toList d1
  subst this
  exact r.inj r'
end
noncomputable abbrev Cx.wish (X : Cx) (E : Value -> Shared -> Prop) : Cx := { X with xe := E }
noncomputable abbrev Cx.nox (X : Cx) : Cx := X.wish fun _ _ => False
theorem Cx.Ok.wish {X : Cx} (ok : X.Ok) (E : Value -> Shared -> Prop) : (X.wish E).Ok :=
  ⟨ok.mod, ok.kind, ok.glob, ok.blt, ok.above, ok.inj, ok.has, ok.cab, ok.hd, ok.frames, ok.stk, ok.exf, ok.bs, ok.bsz, ok.noex, ok.exfs, ok.funs, ok.frf⟩
theorem Cx.Ok.unwish {X : Cx} {E : Value -> Shared -> Prop} (ok : (X.wish E).Ok) : X.Ok :=
  ⟨ok.mod, ok.kind, ok.glob, ok.blt, ok.above, ok.inj, ok.has, ok.cab, ok.hd, ok.frames, ok.stk, ok.exf, ok.bs, ok.bsz, ok.noex, ok.exfs, ok.funs, ok.frf⟩
section
variable {X : Cx} {pins : List (Addr × Obj)} {σ : St} {H : Hp} {s : Shared} {E : Value -> Shared -> Prop}
theorem Inv.wish (I : Inv X pins σ H s) (E : Value -> Shared -> Prop) : Inv (X.wish E) pins σ H s := ⟨I.ok.wish E, I.os, I.bare, I.base, I.loc, I.cell, I.free, I.freeC, I.pin, I.hok, I.len⟩
theorem Inv.unwish (I : Inv (X.wish E) pins σ H s) : Inv X pins σ H s := ⟨I.ok.unwish, I.os, I.bare, I.base, I.loc, I.cell, I.free, I.freeC, I.pin, I.hok, I.len⟩
end
section
variable {X : Cx} {st : Stmt} {rest : List Stmt} {t u : TS} {e : Expr} {te : TE} {pos : Pos}
noncomputable def tNext : TS := fun D σ H => D.nx σ H
noncomputable def tSeq (t u : TS) : TS := fun D σ H => t { D with nx := u D } σ H
theorem pss_nil : PSs X [] tNext := fun _ _ σ H _ I h => wpAny_execs_nil ⟨σ, H, I, h⟩
theorem pss_cons (h1 : PS X st t) (h2 : PSs X rest u) : PSs X (st :: rest) (tSeq t u) := by
  intro pins s σ H D I h
  refine wpAny_execs_cons (thn (h1 pins s σ H { D with nx := u D } I h) fun f s1 q => ?_)
  cases f with
  | next =>
    obtain ⟨σ', H', I', q⟩ := q
    exact h2 pins s1 σ' H' D I' q
  | ret v => exact q
  | brk => exact q
  | cont => exact q
theorem pss_one (h1 : PS X st t) : PSs X [st] t := by
  intro pins s σ H D I h
  refine wpAny_execs_cons (thn (h1 pins s σ H D I h) fun f s1 q => ?_)
  cases f with
  | next => exact wpAny_execs_nil q
  | ret v => exact q
  | brk => exact q
  | cont => exact q
theorem Inv.quiet {pins : List (Addr × Obj)} {σ : St} {H : Hp} {s : Shared} (I : Inv X pins σ H s) : interactive X.env = false := by simp [interactive, I.ok.kind]
noncomputable def tDrop (te : TE) : TS := fun D σ H => te σ H fun _ H1 => D.nx σ H1
theorem ps_expr (he : PE X e te) (hs : swapsWith e none pos.line X.env = pure false := by rfl) : PS X (.Expr e pos) (tDrop te) := by
  intro pins s σ H D I h
  exact wpAny_Expr_any (thn (he pins s σ H _ I h) fun v s1 ⟨x, H1, I1, r1, q1⟩ => ⟨σ, H1, I1, q1⟩) I.quiet hs
noncomputable def tRet (te : TE) : TS := fun D σ H => te σ H D.rt
theorem ps_ret (he : PE X e te) : PS X (.Return (some e) pos) (tRet te) := by
  intro pins s σ H D I h
  exact wpAny_Return_some (thn (he pins s σ H _ I h) fun v s1 ⟨x, H1, I1, r1, q1⟩ => ⟨x, σ, H1, I1, r1, q1⟩)
noncomputable def tIfS (c : TT) (t u : TS) : TS := fun D σ H => c σ H fun b H1 => if b = true then t D σ H1 else u D σ H1
theorem ps_if {c : Expr} {a b : List Stmt} {tc : TT} (hc : PT X c tc) (ha : PSs X a t) (hb : PSs X b u) : PS X (.If c a b pos) (tIfS tc t u) := by
  intro pins s σ H D I h
  refine wpAny_If (thn (hc pins s σ H _ I h) fun d s1 ⟨H1, I1, q1⟩ => ?_)
  cases d with
  | true => exact ha pins s1 σ H1 D I1 q1
  | false => exact hb pins s1 σ H1 D I1 q1
end
noncomputable abbrev TG := V -> St -> Hp -> (St -> Hp -> Prop) -> Prop
noncomputable abbrev TGs := List V -> St -> Hp -> (St -> Hp -> Prop) -> Prop
noncomputable def PG (X : Cx) (target : Expr) (t : TG) : Prop :=
  ∀ (pins : List (Addr × Obj)) (s : Shared) (σ : St) (H : Hp) (v : V) (u : Value) (Q : St -> Hp -> Prop), Inv X pins σ H s -> RelV v u -> t v σ H Q ->
    wpAny (model X.prog X.w) X.A (assign target X.env u) (fun _ s' => ∃ σ' H', Inv X pins σ' H' s' /\ Q σ' H') X.xe s
noncomputable def PGs (X : Cx) (ts : List Expr) (t : TGs) : Prop :=
  ∀ (pins : List (Addr × Obj)) (s : Shared) (σ : St) (H : Hp) (vs : List V) (us : List Value) (Q : St -> Hp -> Prop), Inv X pins σ H s -> Vals vs us -> t vs σ H Q ->
    wpAny (model X.prog X.w) X.A (assignInOrder ((assignEach ts X.env).map (·.2)) us) (fun _ s' => ∃ σ' H', Inv X pins σ' H' s' /\ Q σ' H') X.xe s
section
variable {X : Cx} {pos : Pos}
noncomputable def gName (i : Nat) : TG := fun v σ H Q => Q (σ.set i (some v)) H
theorem pg_name {i : Nat} {x : Str} (hN : X.N.Nodup) (hi : X.N[i]? = some x) (hx : Loc X.env.scope x) (hf : X.fn x = true \/ X.env.scope.names.lookup x = some .local := by first | exact .inl rfl | exact .inr rfl | assumption) : PG X (.Name x pos) (gName i) := by
  intro pins s σ H v u Q I r h
  exact wpAny_assign_Name (store_ok I hN hi hx r (fun s' I' => ⟨_, H, I', h⟩) hf)
noncomputable def gNil : TGs := fun vs σ H Q => vs = [] /\ Q σ H
noncomputable def gCons (t : TG) (u : TGs) : TGs := fun vs σ H Q => ∃ v r, vs = v :: r /\ t v σ H fun σ' H' => u r σ' H' Q
theorem pgs_nil : PGs X [] gNil := by
  intro pins s σ H vs us Q I r h
  obtain ⟨e, h⟩ := h
  subst e
  cases r
  exact assignInOrder_nil ⟨σ, H, I, h⟩
theorem pgs_cons {e : Expr} {es : List Expr} {t : TG} {u : TGs} (h1 : PG X e t) (h2 : PGs X es u)
    (hs : (assignEach (e :: es) X.env).map (·.2) = assign e X.env :: (assignEach es X.env).map (·.2) := by rfl) : PGs X (e :: es) (gCons t u) := by
  intro pins s σ H vs us Q I r h
  obtain ⟨v, vr, e1, h⟩ := h
  subst e1
  cases r with
  | cons r rr =>
    rw [hs]
    refine assignInOrder_cons (thn (h1 pins s σ H _ _ _ I r h) fun _ s1 ⟨σ1, H1, I1, q1⟩ => ?_)
    exact h2 pins s1 σ1 H1 _ _ Q I1 rr q1
noncomputable def gTup (K : PySem.W.Frag) (n : Nat) (t : TGs) : TG := fun v σ H Q => ∃ a xs, v = .ref a /\ SqT K H a xs /\ xs.length = n /\ t xs σ H Q
theorem pg_tup {es : List Expr} {k : Nat} {t : TGs} {n : Nat} (hc : X.calm = true) (h : PGs X es t)
    (hn : (assignEach es X.env).length = n := by rfl) (hst : (assignEach es X.env).findIdx? (·.1) = none := by rfl) : PG X (.Tuple es k pos) (gTup X.K n t) := by
  intro pins s σ H v u Q I r hw
  obtain ⟨a, xs, e1, hq, hl, hw⟩ := hw
  subst e1
  cases r
  obtain ⟨its, rv, ht, hz⟩ := I.tuple hq
  refine assign_Tuple_tuple (I.ok.hd hc) ht (by simp [hn, <- hl, rv.length]) hst fun h' hx => ?_
  have I1 : Inv X pins σ H { s with heap := h' } := I.kept (t' := s.toks) fun b o e => hx b o (Nat.ne_of_lt (Heap.lt_size e)) e
  exact h pins _ σ H xs _ Q I1 (by simpa using rv) hw
noncomputable def tAsg (te : TE) (g : TG) : TS := fun D σ H => te σ H fun x H1 => g x σ H1 D.nx
theorem ps_set {i : Nat} {x : Str} {e : Expr} {te : TE} {pos' : Pos} (hN : X.N.Nodup) (hi : X.N[i]? = some x) (hx : Loc X.env.scope x) (he : PE X e te) (hs : swapsWith e (some (.Name x pos')) pos.line X.env = pure false := by rfl) (hf : X.fn x = true \/ X.env.scope.names.lookup x = some .local := by first | exact .inl rfl | exact .inr rfl | assumption) :
    PS X (.Assign [.Name x pos'] e pos) (tAsg te (gName i)) := by
  intro pins s σ H D I h
  refine wpAny_Assign_Name (thn (he pins s σ H _ I h) fun v s1 ⟨y, H1, I1, r1, q1⟩ => ?_) hs
  exact store_ok I1 hN hi hx r1 (fun s2 I2 => ⟨_, H1, I2, q1⟩) hf
end
section
variable {X : Cx} {pos : Pos}
noncomputable def tWhile (c : TT) (tb : TS) : TS := fun D σ H => ∃ W : Nat -> St -> Hp -> Prop, (∃ m, W m σ H) /\ ∀ m σ H, W m σ H ->
  c σ H fun b H1 => if b = true then ∃ N : St -> Hp -> Prop, (∀ σ' H', N σ' H' -> ∃ m', m' < m /\ W m' σ' H') /\ tb { D with nx := N, ct := N, bk := D.nx } σ H1 else D.nx σ H1
theorem ps_while {c : Expr} {body : List Stmt} {tc : TT} {tb : TS} (hp : PassesOwn (model X.prog X.w) X.A X.env X.xe) (hc : PT X c tc) (hb : PSs X body tb) : PS X (.While c body [] pos) (tWhile tc tb) := by
  intro pins s σ H D I h
  obtain ⟨W, ⟨m0, w0⟩, turn⟩ := h
  refine wpAny_While (codeAny_whileLoop (fun n s' => ∃ σ' H', Inv X pins σ' H' s' /\ W n σ' H') ?_ m0 ⟨σ, H, I, w0⟩)
  rintro n s1 ⟨σ1, H1, I1, w1⟩
  refine wpAny_passesOwn hp (thn (hc pins s1 σ1 H1 _ I1 (turn n σ1 H1 w1)) fun b s2 ⟨H2, I2, q2⟩ => ?_)
  cases b with
  | true =>
    obtain ⟨N, hN, q2⟩ := q2
    rw [if_pos rfl]
    refine wpAny_passesOwn hp (thn (hb pins s2 σ1 H2 _ I2 q2) fun f s3 q3 => ?_)
    cases f with
    | next =>
      obtain ⟨σ3, H3, I3, n3⟩ := q3
      obtain ⟨m', hm, w3⟩ := hN σ3 H3 n3
      exact ⟨m', hm, σ3, H3, I3, w3⟩
    | cont =>
      obtain ⟨σ3, H3, I3, n3⟩ := q3
      obtain ⟨m', hm, w3⟩ := hN σ3 H3 n3
      exact ⟨m', hm, σ3, H3, I3, w3⟩
    | brk => exact q3
    | ret v => exact q3
  | false =>
    rw [if_neg Bool.false_ne_true]
    exact wpAny_execs_nil ⟨σ1, H2, I2, q2⟩
end
structure It where
  go : Nat -> Hp -> Prop
  yld : Nat -> Hp -> V -> Hp -> Prop
  stop : Nat -> Hp -> Prop
noncomputable def FpOk (X : Cx) (pins : List (Addr × Obj)) (H : Hp) (b : Addr) : Prop :=
  H b = none /\ b ≠ X.env.locals /\ b ∉ X.fs /\ (b ∈ X.ex \/ X.s₀.heap.objs.size <= b) /\ (∀ x c, X.env.cells.lookup x = some c -> c ≠ b) /\ ∀ p ∈ X.pn ++ pins, p.1 ≠ b
theorem Inv.fpOk {X : Cx} {pins : List (Addr × Obj)} {σ : St} {H H' : Hp} {s : Shared} {b : Addr} (I : Inv X pins σ H s) (hb : s.heap.objs.size <= b) (hn : H' b = none) : FpOk X pins H' b := by
  refine ⟨hn, Nat.ne_of_gt (Nat.lt_of_lt_of_le I.lt hb), I.nofs hb, .inr (Nat.le_trans I.sz hb), fun x c e z => ?_, fun p hp z => ?_⟩
  · obtain ⟨v, q⟩ := I.cell x c e
    exact absurd (Nat.lt_of_lt_of_le q.lt (by rw [z]; exact hb)) (Nat.lt_irrefl _)
  · exact absurd (Nat.lt_of_lt_of_le (Heap.lt_size (I.pin p hp).1) (by rw [z]; exact hb)) (Nat.lt_irrefl _)
structure Turn (P : Program) (w : World) (K : PySem.W.Frag) (tg : Expr) (J : It) (fp : List Addr) (it : Addr) (tn : Nat -> Heap -> Prop) : Prop where
  mem : it ∈ fp
  obj : ∀ i h, tn i h -> ∀ b ∈ fp, ∃ o, h.get? b = some o /\ ∀ v, o.data ≠ .cell v
  keep : ∀ i h h', tn i h -> (∀ b ∈ fp, ∀ o, h.get? b = some o -> h'.get? b = some o) -> tn i h'
  item : ∀ (X : Cx), X.prog = P -> X.w = w -> X.K = K -> X.calm = true -> ∀ (i : Nat) (pins : List (Addr × Obj)) (s : Shared) (σ : St) (H : Hp) (E : Value -> Shared -> Prop), Inv X pins σ H s -> (∀ b ∈ fp, FpOk X pins H b) -> tn i s.heap -> J.go i H ->
    wpAny (model P w) X.A (pyNext (.ref it)) (fun r s1 => ∃ u, r = some u /\
      wpAny (model P w) X.A (letOwnedTupleGo tg (.ref it) u) (fun _ s2 => ∃ x H', Inv X pins σ H' s2 /\ RelV x u /\ J.yld i H x H' /\ tn (i + 1) s2.heap /\ ∀ b ∈ fp, H' b = none) E s1) E s
  done : ∀ (X : Cx), X.prog = P -> X.w = w -> X.K = K -> X.calm = true -> ∀ (i : Nat) (pins : List (Addr × Obj)) (s : Shared) (σ : St) (H : Hp) (E : Value -> Shared -> Prop), Inv X pins σ H s -> (∀ b ∈ fp, FpOk X pins H b) -> tn i s.heap -> J.stop i H ->
    wpAny (model P w) X.A (pyNext (.ref it)) (fun r s1 => r = none /\ Inv X pins σ H s1) E s
  self : ∀ (A : Around) (i : Nat) (s : Shared) (Q : Value -> Shared -> Prop) (E : Value -> Shared -> Prop), tn i s.heap -> Q (.ref it) s -> wpAny (model P w) A (pyIter (.ref it)) Q E s
noncomputable abbrev TI := St -> Hp -> (It -> Hp -> Prop) -> Prop
noncomputable def PIE (X : Cx) (pins : List (Addr × Obj)) (σ : St) (tg : Expr) (R : It -> Hp -> Prop) (itv : Value) (s2 : Shared) : Prop :=
  ∃ (it : Addr) (fp : List Addr) (tn : Nat -> Heap -> Prop) (J : It) (H' : Hp), itv = .ref it /\ Inv X pins σ H' s2 /\ Turn X.prog X.w X.K tg J fp it tn /\ tn 0 s2.heap /\ (∀ b ∈ fp, FpOk X pins H' b) /\ R J H'
noncomputable def PI (X : Cx) (tg iter : Expr) (wi : TI) : Prop :=
  ∀ (pins : List (Addr × Obj)) (s : Shared) (σ : St) (H : Hp) (R : It -> Hp -> Prop), Inv X pins σ H s -> wi σ H R ->
    wpAny (model X.prog X.w) X.A (eval iter X.env) (fun v s1 => wpAny (model X.prog X.w) X.A (pyIter v) (PIE X pins σ tg R) X.xe s1) X.xe s
theorem go_of {M : Model} {A : Around} {E : Value -> Shared -> Prop} {s : Shared} {tg : Expr} {it : Addr} {u : Value} {o : Obj} {n : String} {vs : Array Value} {Q : Unit -> Shared -> Prop} (ho : s.heap.get? it = some o) (hc : o.cls = .type n) (hd : o.data = .fields vs)
    (hn : ["enumerate", "zip", "dict_itemiterator", "dict_reverseitemiterator", "odict_iterator", "itertools.zip_longest", "itertools.pairwise"].contains n = false) (hQ : Q () s) : wpAny M A (letOwnedTupleGo tg (.ref it) u) Q E s := by
  unfold letOwnedTupleGo
  cases tg <;> first
    | exact wpAny_pure hQ
    | (cases u <;> first
        | exact wpAny_pure hQ
        | (refine wpAny_bind (wpAny_load ho ?_)
           rw [hc, hd]
           show wpAny M A (if (["enumerate", "zip", "dict_itemiterator", "dict_reverseitemiterator", "odict_iterator", "itertools.zip_longest", "itertools.pairwise"].contains n && vs[0]? == some (rawInt _)) = true then _ else _) Q E s
           rw [if_neg (by intro h; rw [hn, Bool.false_and] at h; cases h)]
           exact wpAny_pure hQ))
noncomputable def Itl (K : PySem.W.Frag) (a : Addr) : It :=
  ⟨fun i H => ∃ xs x, SqL K H a xs /\ xs[i]? = some x, fun i H x H' => H' = H /\ ∀ xs, SqL K H a xs -> xs[i]? = some x, fun i H => ∃ xs, SqL K H a xs /\ xs.length <= i⟩
noncomputable def Itt (K : PySem.W.Frag) (a : Addr) : It :=
  ⟨fun i H => ∃ xs x, SqT K H a xs /\ xs[i]? = some x, fun i H x H' => H' = H /\ ∀ xs, SqT K H a xs -> xs[i]? = some x, fun i H => ∃ xs, SqT K H a xs /\ xs.length <= i⟩
noncomputable def Itr (lo : Int) (n : Nat) : It := ⟨fun i _ => i < n, fun i H x H' => H' = H /\ x = .int (lo + i), fun i _ => n <= i⟩
theorem turn_list {P : Program} {w : World} {K : PySem.W.Frag} {tg : Expr} (a it : Addr) : Turn P w K tg (Itl K a) [it] it (fun i h => h.IsListIter it a i) where
  mem := by simp
  obj := fun i h st b hb => by
    have e : b = it := by simpa using hb
    subst e
    obtain ⟨o, e, c, d⟩ := st
    exact ⟨o, e, fun v z => by rw [d] at z; cases z⟩
  keep := fun i h h' st k => st.at fun o e => k it (by simp) o e
  item := by
    intro X hP hw hK hc i pins s σ H E I hf st hg
    subst hP hw hK
    obtain ⟨xs, x, hq, hx⟩ := hg
    obtain ⟨its, rv, p, hz⟩ := I.list hq
    obtain ⟨u, hu, ru⟩ := rv.get hx
    obtain ⟨f0, f1, f2, f3, f4, f5⟩ := hf it (by simp)
    refine wpAny_pyNext_list_item st p.isList (x := u) (by simpa using hu) fun h' st' sb => ?_
    have I1 : Inv X pins σ H { s with heap := h' } := I.turned (t' := s.toks) (fun b o hb e => (sb.2 b hb).trans e) f0 f1 f3 f4 f5
    obtain ⟨o, e, c, d⟩ := id st'
    exact ⟨u, rfl, go_of (s := { s with heap := h' }) e c d (by decide) ⟨x, H, I1, ru, ⟨rfl, fun ys hy => by rw [I.list_inj hy hq]; exact hx⟩, st', fun b hb => (hf b hb).1⟩⟩
  done := by
    intro X hP hw hK hc i pins s σ H E I hf st hg
    subst hP hw hK
    obtain ⟨xs, hq, hx⟩ := hg
    obtain ⟨its, rv, p, hz⟩ := I.list hq
    obtain ⟨f0, f1, f2, f3, f4, f5⟩ := hf it (by simp)
    have hl := rv.length
    exact wpAny_pyNext_list_end (I.ok.hd hc) st p.isList (by simp; omega) fun h' eb => ⟨rfl, I.turned (t' := s.toks) (fun b o hb e => eb b o hb e) f0 f1 f3 f4 f5⟩
  self := fun _ _ _ _ _ st h => wpAny_pyIter_listiter st h
theorem turn_tuple {P : Program} {w : World} {K : PySem.W.Frag} {tg : Expr} (a it : Addr) : Turn P w K tg (Itt K a) [it] it (fun i h => h.IsTupleIter it a i) where
  mem := by simp
  obj := fun i h st b hb => by
    have e : b = it := by simpa using hb
    subst e
    obtain ⟨o, e, c, d⟩ := st
    exact ⟨o, e, fun v z => by rw [d] at z; cases z⟩
  keep := fun i h h' st k => st.at fun o e => k it (by simp) o e
  item := by
    intro X hP hw hK hc i pins s σ H E I hf st hg
    subst hP hw hK
    obtain ⟨xs, x, hq, hx⟩ := hg
    obtain ⟨its, rv, p, hz⟩ := I.tuple hq
    obtain ⟨u, hu, ru⟩ := rv.get hx
    obtain ⟨f0, f1, f2, f3, f4, f5⟩ := hf it (by simp)
    refine wpAny_pyNext_tuple_item st (show s.heap.IsTuple a its.toArray from p) (x := u) (by simpa using hu) fun h' st' sb => ?_
    have I1 : Inv X pins σ H { s with heap := h' } := I.turned (t' := s.toks) (fun b o hb e => (sb.2 b hb).trans e) f0 f1 f3 f4 f5
    obtain ⟨o, e, c, d⟩ := id st'
    exact ⟨u, rfl, go_of (s := { s with heap := h' }) e c d (by decide) ⟨x, H, I1, ru, ⟨rfl, fun ys hy => by rw [I.tuple_inj hy hq]; exact hx⟩, st', fun b hb => (hf b hb).1⟩⟩
  done := by
    intro X hP hw hK hc i pins s σ H E I hf st hg
    subst hP hw hK
    obtain ⟨xs, hq, hx⟩ := hg
    obtain ⟨its, rv, p, hz⟩ := I.tuple hq
    obtain ⟨f0, f1, f2, f3, f4, f5⟩ := hf it (by simp)
    have hl := rv.length
    exact wpAny_pyNext_tuple_end (I.ok.hd hc) st (show s.heap.IsTuple a its.toArray from p) (by simp; omega) fun h' eb => ⟨rfl, I.turned (t' := s.toks) (fun b o hb e => eb b o hb e) f0 f1 f3 f4 f5⟩
  self := fun _ _ _ _ _ st h => wpAny_pyIter_tupleiter st h
theorem turn_range {P : Program} {w : World} {K : PySem.W.Frag} {tg : Expr} (it : Addr) (lo : Int) (n : Nat) : Turn P w K tg (Itr lo n) [it] it (fun i h => IsRangeIter h it (lo + (i : Nat) * 1) ((n : Int) - (i : Nat)) 1) where
  mem := by simp
  obj := fun i h st b hb => by
    have e : b = it := by simpa using hb
    subst e
    exact ⟨_, st, fun v z => by
      have z' : Data.fields _ = Data.cell v := z
      cases z'⟩
  keep := fun i h h' st k => k it (by simp) _ st
  item := by
    intro X hP hw hK hc i pins s σ H E I hf st hg
    subst hP hw hK
    obtain ⟨f0, f1, f2, f3, f4, f5⟩ := hf it (by simp)
    have W := Walks.range (prog := X.prog) (w := X.w) (I.ok.hd hc) it lo 1 n
    refine W.item i s _ _ hg st fun v h' tk hv st' kk => ?_
    obtain ⟨t, rfl⟩ := hv
    have I1 : Inv X pins σ H { s with heap := h', toks := tk } := I.turned (fun b o hb e => kk b o (by simpa using hb) e) f0 f1 f3 f4 f5
    refine ⟨_, rfl, go_of (s := { s with heap := h', toks := tk }) (n := "range_iterator") st' rfl rfl (by decide) ⟨.int (lo + i), H, I1, ⟨t, ?_⟩, ⟨rfl, rfl⟩, st', fun b hb => (hf b hb).1⟩⟩
    rw [Int.mul_one]
  done := by
    intro X hP hw hK hc i pins s σ H E I hf st hg
    subst hP hw hK
    obtain ⟨f0, f1, f2, f3, f4, f5⟩ := hf it (by simp)
    exact wpAny_pyNext_range_end (I.ok.hd hc) st (by have : n <= i := hg; omega) fun h' eb => ⟨rfl, I.turned (t' := s.toks) (fun b o hb e => eb b o hb e) f0 f1 f3 f4 f5⟩
  self := fun _ _ _ _ _ st h => wpAny_pyIter_rangeiter st h
end L2
namespace L2
open PySem PySem.Spec PyProof.Rows
section
variable {X : Cx} {tg : Expr}
noncomputable def iList (K : PySem.W.Frag) (tl : TE) : TI := fun σ H R => tl σ H fun x H1 => ∃ a, x = .ref a /\ (∃ xs, SqL K H1 a xs) /\ R (Itl K a) H1
noncomputable def iTup (K : PySem.W.Frag) (tl : TE) : TI := fun σ H R => tl σ H fun x H1 => ∃ a, x = .ref a /\ (∃ xs, SqT K H1 a xs) /\ R (Itt K a) H1
theorem pi_list {l : Expr} {tl : TE} (hl : PE X l tl) : PI X tg l (iList X.K tl) := by
  intro pins s σ H R I h
  refine thn (hl pins s σ H _ I h) fun v s1 ⟨x, H1, I1, r1, q1⟩ => ?_
  obtain ⟨a, e, ⟨xs, hq⟩, q⟩ := q1
  subst e
  cases r1
  obtain ⟨its, rv, p, hz⟩ := I1.list hq
  refine wpAny_pyIter_list p.isList ?_
  refine ⟨s1.heap.objs.size, [s1.heap.objs.size], _, _, H1, rfl, I1.kept (t' := s1.toks) fun b o e => Heap.get?_push_of_some _ e, turn_list a _, ⟨_, Heap.get?_push_size _ rfl, rfl, rfl⟩, fun b hb => ?_, q⟩
  have e : b = s1.heap.objs.size := by simpa using hb
  subst e
  exact I1.fpOk (Nat.le_refl _) (I1.hok.fresh (Nat.le_refl _))
theorem pi_tup {l : Expr} {tl : TE} (hl : PE X l tl) : PI X tg l (iTup X.K tl) := by
  intro pins s σ H R I h
  refine thn (hl pins s σ H _ I h) fun v s1 ⟨x, H1, I1, r1, q1⟩ => ?_
  obtain ⟨a, e, ⟨xs, hq⟩, q⟩ := q1
  subst e
  cases r1
  obtain ⟨its, rv, p, hz⟩ := I1.tuple hq
  refine wpAny_pyIter_tuple (show s1.heap.IsTuple a its.toArray from p) ?_
  refine ⟨s1.heap.objs.size, [s1.heap.objs.size], _, _, H1, rfl, I1.kept (t' := s1.toks) fun b o e => Heap.get?_push_of_some _ e, turn_tuple a _, ⟨_, Heap.get?_push_size _ rfl, rfl, rfl⟩, fun b hb => ?_, q⟩
  have e : b = s1.heap.objs.size := by simpa using hb
  subst e
  exact I1.fpOk (Nat.le_refl _) (I1.hok.fresh (Nat.le_refl _))
theorem range_it {pins : List (Addr × Obj)} {σ : St} {H : Hp} {s : Shared} {R : It -> Hp -> Prop} {E : Value -> Shared -> Prop} {lo hi : Int} {t u v : Tok} {tk : Nat} (I : Inv X pins σ H s) (h1 : -(2 ^ 62) <= lo) (h2 : lo < 2 ^ 62) (h3 : -(2 ^ 62) <= hi) (h4 : hi < 2 ^ 62)
    (q : R (Itr lo (hi - lo).toNat) H) : wpAny (model X.prog X.w) X.A (pyIter (.ref s.heap.objs.size)) (PIE X pins σ tg R) E { s with heap := s.heap.push { cls := .type "range", data := .fields #[.int lo t, .int hi u, .int 1 v] }, toks := tk } := by
  refine wpAny_pyIter_range (IsRange.new ..) (small_one h1 h2 h3 h4) ?_
  have I1 : Inv X pins σ H { s with heap := s.heap.push { cls := .type "range", data := .fields #[.int lo t, .int hi u, .int 1 v] }, toks := tk } := I.kept fun b o e => Heap.get?_push_of_some _ e
  refine ⟨(s.heap.push { cls := .type "range", data := .fields #[.int lo t, .int hi u, .int 1 v] }).objs.size, [(s.heap.push { cls := .type "range", data := .fields #[.int lo t, .int hi u, .int 1 v] }).objs.size], _, _, H, rfl,
    I1.kept (t' := tk) fun b o e => Heap.get?_push_of_some _ e, turn_range _ lo (hi - lo).toNat, ?_, fun b hb => ?_, q⟩
  · have e1 : lo + ((0 : Nat) : Int) * 1 = lo := by simp
    have e2 : (((hi - lo).toNat : Nat) : Int) - ((0 : Nat) : Int) = Builtin.Range.rangeSize lo hi 1 := by rw [rangeSize_one]; split <;> omega
    show IsRangeIter _ _ (lo + ((0 : Nat) : Int) * 1) ((((hi - lo).toNat : Nat) : Int) - ((0 : Nat) : Int)) 1
    rw [e1, e2]
    exact Heap.get?_push_size _ rfl
  · have e : b = (s.heap.push { cls := .type "range", data := .fields #[.int lo t, .int hi u, .int 1 v] }).objs.size := by simpa using hb
    subst e
    exact I1.fpOk (Nat.le_refl _) (I1.hok.fresh (Nat.le_refl _))
noncomputable def iRng1 (ta : TA) : TI := fun σ H R => ta σ H fun vs H1 => ∃ j : Int, vs = [.int j] /\ -(2 ^ 62) <= j /\ j < 2 ^ 62 /\ R (Itr 0 j.toNat) H1
noncomputable def iRng2 (ta : TA) : TI := fun σ H R => ta σ H fun vs H1 => ∃ i j : Int, vs = [.int i, .int j] /\ (-(2 ^ 62) <= i /\ i < 2 ^ 62 /\ -(2 ^ 62) <= j /\ j < 2 ^ 62) /\ R (Itr i (j - i).toNat) H1
theorem pi_range1 {a : Expr} {ta : TA} {p pos : Pos} (hg : Gl X "range") (hm : X.mg "range" = none) (ha : PA X [a] ta) (hs : starEach [a] X.env = [(false, eval a X.env)] := by rfl) : PI X tg (.Call (.Name "range" p) [a] [] pos) (iRng1 ta) := by
  intro pins s σ H R I h
  refine Call_ (ld_blt I hg hm boot_range (PyProof.Rows.callWith_type1 (thn (ha pos pins s σ H _ I h) fun us s1 ⟨vs, H1, I1, r1, q1⟩ => ?_) hs rfl))
  obtain ⟨j, e, q1, q2, q⟩ := q1
  subst e
  cases r1 with
  | cons r rr =>
    cases rr
    obtain ⟨t, rfl⟩ := r
    exact call_range_1 (range_it I1 (by omega) (by omega) q1 q2 (by simpa using q))
theorem pi_range2 {a b : Expr} {ta : TA} {p pos : Pos} (hg : Gl X "range") (hm : X.mg "range" = none) (ha : PA X [a, b] ta) (hs : starEach [a, b] X.env = [(false, eval a X.env), (false, eval b X.env)] := by rfl) (hs2 : starEach [b] X.env = [(false, eval b X.env)] := by rfl) :
    PI X tg (.Call (.Name "range" p) [a, b] [] pos) (iRng2 ta) := by
  intro pins s σ H R I h
  refine Call_ (ld_blt I hg hm boot_range (PyProof.Rows.callWith_type1 (thn (ha pos pins s σ H _ I h) fun us s1 ⟨vs, H1, I1, r1, q1⟩ => ?_) (by rw [hs, hs2]) (by rw [hs2]; rfl)))
  obtain ⟨i, j, e, ⟨q1, q2, q3, q4⟩, q⟩ := q1
  subst e
  cases r1 with
  | cons r rr =>
    cases rr with
    | cons r' rr =>
      cases rr
      obtain ⟨t, rfl⟩ := r
      obtain ⟨t', rfl⟩ := r'
      exact call_range_2 (range_it I1 q1 q2 q3 q4 q)
noncomputable def tFor (wi : TI) (g : TG) (tb : TS) : TS := fun D σ H => wi σ H fun J H1 => ∃ W : Nat -> Nat -> St -> Hp -> Prop, (∃ m, W 0 m σ H1) /\ ∀ i m σ H, W i m σ H ->
  (J.stop i H /\ D.nx σ H) \/ (J.go i H /\ ∃ N : St -> Hp -> Prop, (∀ σ' H', N σ' H' -> ∃ m', m' < m /\ W (i + 1) m' σ' H') /\ ∀ x H', J.yld i H x H' -> g x σ H' fun σ2 H2 => tb { D with nx := N, ct := N, bk := D.nx } σ2 H2)
noncomputable def pinsAt (fp : List Addr) (h : Heap) : List (Addr × Obj) := fp.filterMap fun b => (h.get? b).map fun o => (b, o)
theorem mem_pinsAt {fp : List Addr} {h : Heap} {b : Addr} {o : Obj} (hb : b ∈ fp) (e : h.get? b = some o) : (b, o) ∈ pinsAt fp h := List.mem_filterMap.mpr ⟨b, hb, by rw [e]; rfl⟩
theorem of_pinsAt {fp : List Addr} {h : Heap} {p : Addr × Obj} (hp : p ∈ pinsAt fp h) : p.1 ∈ fp /\ h.get? p.1 = some p.2 := by
  obtain ⟨b, hb, e⟩ := List.mem_filterMap.mp hp
  cases q : h.get? b with
  | none => rw [q] at e; cases e
  | some o =>
    rw [q] at e
    have e' : (b, o) = p := Option.some.inj e
    subst e'
    exact ⟨hb, q⟩
theorem Inv.pinned {pins : List (Addr × Obj)} {σ : St} {H : Hp} {s : Shared} {fp : List Addr} (I : Inv X pins σ H s) (hf : ∀ b ∈ fp, FpOk X pins H b) (ho : ∀ b ∈ fp, ∃ o, s.heap.get? b = some o /\ ∀ v, o.data ≠ .cell v) : Inv X (pins ++ pinsAt fp s.heap) σ H s :=
  I.pins_of fun p hp => (List.mem_append.mp hp).elim (fun z => I.pin p (List.mem_append_right _ z)) fun z => by
    obtain ⟨hb, e⟩ := of_pinsAt z
    obtain ⟨f0, f1, f2, _⟩ := hf p.1 hb
    obtain ⟨o, e', d⟩ := ho p.1 hb
    rw [e] at e'; cases e'
    exact ⟨e, f0, f1, f2, d⟩
theorem Inv.unpinned {pins pl : List (Addr × Obj)} {σ : St} {H : Hp} {s : Shared} (I : Inv X (pins ++ pl) σ H s) : Inv X pins σ H s := I.pins_of fun p hp => I.pin p (List.mem_append_right _ (List.mem_append_left _ hp))
theorem ps_for {iter : Expr} {body : List Stmt} {wi : TI} {g : TG} {tb : TS} {pos : Pos} (hp : PassesOwn (model X.prog X.w) X.A X.env X.xe) (hc : X.calm = true) (hi : PI X tg iter wi) (hg : PG X tg g) (hb : PSs X body tb)
    (hs : ∀ x, foldedSetIterable iter X.env x = pure x := by intro _; rfl) : PS X (.For tg iter body [] pos) (tFor wi g tb) := by
  intro pins s σ H D I h
  refine wpAny_For (thn (hi pins s σ H _ I h) fun v s1 h1 => thn h1 fun itv s2 h2 => ?_) hs
  obtain ⟨it, fp, tn, J, H2, e, I2, T, st2, f2, W, ⟨m0, w0⟩, turn⟩ := h2
  subst e
  have stat : ∀ {H' : Hp}, (∀ b ∈ fp, H' b = none) -> ∀ b ∈ fp, FpOk X pins H' b := fun hn b hb => ⟨hn b hb, (f2 b hb).2⟩
  refine codeAny_forLoop_any (fun n s' => ∃ i σ' H', Inv X pins σ' H' s' /\ tn i s'.heap /\ (∀ b ∈ fp, H' b = none) /\ W i n σ' H') ?_ m0 ⟨0, σ, H2, I2, st2, fun b hb => (f2 b hb).1, w0⟩
  rintro n s3 ⟨i, σ3, H3, I3, st3, fr3, w3⟩
  rcases turn i n σ3 H3 w3 with ⟨stop, qn⟩ | ⟨go, N, hN, step⟩
  · refine wpAny_passesOwn hp (thn (T.done X rfl rfl rfl hc i pins s3 σ3 H3 X.xe I3 (stat fr3) st3 stop) fun r s4 ⟨hr, I4⟩ => ?_)
    subst hr
    exact wpAny_execs_nil ⟨σ3, H3, I4, qn⟩
  · refine wpAny_passesOwn hp (thn (T.item X rfl rfl rfl hc i pins s3 σ3 H3 X.xe I3 (stat fr3) st3 go) fun r s4 ⟨u, hr, h4⟩ => ?_)
    subst hr
    refine wpAny_passesOwn hp (thn h4 fun _ s5 ⟨x, H5, I5, r5, y5, st5, fr5⟩ => ?_)
    have I5' := I5.pinned (stat fr5) (T.obj _ _ st5)
    refine wpAny_passesOwn hp (thn (hg _ s5 σ3 H5 x u _ I5' r5 (step x H5 y5)) fun _ s6 ⟨σ6, H6, I6, q6⟩ => ?_)
    refine wpAny_passesOwn hp (thn (hb _ s6 σ6 H6 _ I6 q6) fun f s7 q7 => ?_)
    have again : ∀ {σ7 : St} {H7 : Hp}, Inv X (pins ++ pinsAt fp s5.heap) σ7 H7 s7 -> N σ7 H7 -> ∃ m, m < n /\ ∃ i σ' H', Inv X pins σ' H' s7 /\ tn i s7.heap /\ (∀ b ∈ fp, H' b = none) /\ W i m σ' H' := fun {σ7 H7} I7 n7 => by
      obtain ⟨m', hm, w7⟩ := hN σ7 H7 n7
      refine ⟨m', hm, i + 1, σ7, H7, I7.unpinned, T.keep _ _ _ st5 fun b hb o e => (I7.pin (b, o) (List.mem_append_right _ (List.mem_append_right _ (mem_pinsAt hb e)))).1, fun b hb => ?_, w7⟩
      obtain ⟨o, e, d⟩ := T.obj _ _ st5 b hb
      exact (I7.pin (b, o) (List.mem_append_right _ (List.mem_append_right _ (mem_pinsAt hb e)))).2.1
    cases f with
    | next => obtain ⟨σ7, H7, I7, n7⟩ := q7; exact again I7 n7
    | cont => obtain ⟨σ7, H7, I7, n7⟩ := q7; exact again I7 n7
    | brk => obtain ⟨σ7, H7, I7, q7⟩ := q7; exact ⟨σ7, H7, I7.unpinned, q7⟩
    | ret v => obtain ⟨x7, σ7, H7, I7, r7, q7⟩ := q7; exact ⟨x7, σ7, H7, I7.unpinned, r7, q7⟩
end
end L2
namespace L2
open PySem PySem.Spec PyProof.Rows
noncomputable abbrev R2 := V -> V -> Hp -> VK -> Prop
noncomputable def OpR (X : Cx) (f : Value -> Value -> Sem Value) (r : R2) : Prop :=
  ∀ (pins : List (Addr × Obj)) (s : Shared) (σ : St) (H : Hp) (x y : V) (v u : Value) (Q : VK), Inv X pins σ H s -> RelV x v -> RelV y u -> r x y H Q ->
    wpAny (model X.prog X.w) X.A (f v u) (EP X pins σ Q) X.xe s
noncomputable def CallR (X : Cx) (f : Value) (r : List V -> Hp -> VK -> Prop) : Prop :=
  ∀ (pins : List (Addr × Obj)) (s : Shared) (σ : St) (H : Hp) (xs : List V) (us : List Value) (Q : VK), Inv X pins σ H s -> Vals xs us -> r xs H Q ->
    wpAny (model X.prog X.w) X.A (call f us) (EP X pins σ Q) X.xe s
noncomputable def tOp (r : R2) (ta tb : TE) : TE := fun σ H Q => ta σ H fun x H1 => tb σ H1 fun y H2 => r x y H2 Q
noncomputable def rI (C : Int -> Int -> Prop) (g : Int -> Int -> V) : R2 := fun x y H Q => ∃ i j, x = .int i /\ y = .int j /\ C i j /\ Q (g i j) H
noncomputable def rI0 (g : Int -> Int -> V) : R2 := fun x y H Q => ∃ i j, x = .int i /\ y = .int j /\ Q (g i j) H
section
variable {X : Cx} {a b c : Expr} {ta tb tc : TE} {pos : Pos}
theorem binT (ha : PE X a ta) (hb : PE X b tb) {pins : List (Addr × Obj)} {s : Shared} {σ : St} {H : Hp} {R : V -> V -> Hp -> Prop} (I : Inv X pins σ H s)
    (h : ta σ H fun x H1 => tb σ H1 fun y H2 => R x y H2) {Q : Value -> Shared -> Prop} {f : Value -> Value -> Sem Value}
    (hf : ∀ v u s2 x y H2, Inv X pins σ H2 s2 -> RelV x v -> RelV y u -> R x y H2 -> wpAny (model X.prog X.w) X.A (f v u) Q X.xe s2) :
    wpAny (model X.prog X.w) X.A (eval a X.env) (fun v s₁ => wpAny (model X.prog X.w) X.A (eval b X.env) (fun u s₂ => wpAny (model X.prog X.w) X.A (f v u) Q X.xe s₂) X.xe s₁) X.xe s := by
  refine thn (ha pins s σ H _ I h) fun v s1 ⟨x, H1, I1, r1, q1⟩ => ?_
  refine thn (hb pins s1 σ H1 _ I1 q1) fun u s2 ⟨y, H2, I2, r2, q2⟩ => ?_
  exact hf v u s2 x y H2 I2 r1 r2 q2
theorem pe_op {op : Operator} {r : R2} (ho : OpR X (binaryOp op) r) (ha : PE X a ta) (hb : PE X b tb) : PE X (.BinOp a op b pos) (tOp r ta tb) := by
  intro pins s σ H Q I h
  exact wpAny_BinOp (binT ha hb I h fun v u s2 x y H2 I2 rx ry q => ho pins s2 σ H2 x y v u Q I2 rx ry q)
theorem opI {f : Value -> Value -> Sem Value} {C : Int -> Int -> Prop} {g : Int -> Int -> Int}
    (rule : ∀ (i j : Int) (t u : Tok) (s : Shared) (Q : Value -> Shared -> Prop) (E : Value -> Shared -> Prop), C i j -> Q (.int (g i j) s.toks) { s with toks := s.toks + 1 } -> wpAny (model X.prog X.w) X.A (f (.int i t) (.int j u)) Q E s) :
    OpR X f (rI C fun i j => .int (g i j)) := by
  intro pins s σ H x y v u Q I rx ry h
  obtain ⟨i, j, rfl, rfl, hc, q⟩ := h
  obtain ⟨t, rfl⟩ := rx
  obtain ⟨t', rfl⟩ := ry
  exact rule i j t t' s _ _ hc ⟨.int (g i j), H, I.tok _, ⟨_, rfl⟩, q⟩
theorem opI0 {f : Value -> Value -> Sem Value} {g : Int -> Int -> Int}
    (rule : ∀ (i j : Int) (t u : Tok) (s : Shared) (Q : Value -> Shared -> Prop) (E : Value -> Shared -> Prop), Q (.int (g i j) s.toks) { s with toks := s.toks + 1 } -> wpAny (model X.prog X.w) X.A (f (.int i t) (.int j u)) Q E s) :
    OpR X f (rI0 fun i j => .int (g i j)) := by
  intro pins s σ H x y v u Q I rx ry h
  obtain ⟨i, j, rfl, rfl, q⟩ := h
  obtain ⟨t, rfl⟩ := rx
  obtain ⟨t', rfl⟩ := ry
  exact rule i j t t' s _ _ ⟨.int (g i j), H, I.tok _, ⟨_, rfl⟩, q⟩
theorem opB0 {f : Value -> Value -> Sem Value} {g : Int -> Int -> Bool}
    (rule : ∀ (i j : Int) (t u : Tok) (s : Shared) (Q : Value -> Shared -> Prop) (E : Value -> Shared -> Prop), Q (.bool (g i j)) s -> wpAny (model X.prog X.w) X.A (f (.int i t) (.int j u)) Q E s) :
    OpR X f (rI0 fun i j => .bl (g i j)) := by
  intro pins s σ H x y v u Q I rx ry h
  obtain ⟨i, j, rfl, rfl, q⟩ := h
  obtain ⟨t, rfl⟩ := rx
  obtain ⟨t', rfl⟩ := ry
  exact rule i j t t' s _ _ ⟨.bl (g i j), H, I, rfl, q⟩
noncomputable def CDiv (i j : Int) : Prop := 0 < j /\ j < 1073741824
noncomputable def CMul (i j : Int) : Prop := (-(2 ^ 64) < i /\ i < 2 ^ 64) \/ (-(2 ^ 64) < j /\ j < 2 ^ 64)
theorem CMul.ok {i j : Int} (h : CMul i j) : IntMulOk i j := by
  rcases h with ⟨h1, h2⟩ | ⟨h1, h2⟩
  · exact .of_left (intBits_le_64 h1 h2)
  · exact .of_right (intBits_le_64 h1 h2)
theorem op_add : OpR X (binaryOp .Add) (rI0 fun i j => .int (i + j)) := opI0 fun _ _ _ _ _ _ _ q => add_int q
theorem op_sub : OpR X (binaryOp .Sub) (rI0 fun i j => .int (i - j)) := opI0 fun _ _ _ _ _ _ _ q => sub_int q
theorem op_mul : OpR X (binaryOp .Mult) (rI CMul fun i j => .int (i * j)) := opI fun _ _ _ _ _ _ _ hc q => mul_int q hc.ok
theorem op_fdiv : OpR X (binaryOp .FloorDiv) (rI CDiv fun i j => .int (i / j)) := opI fun i j _ _ _ _ _ hc q => by
  have h1 : (0 : Int) < j := hc.1
  have h2 : j < 1073741824 := hc.2
  exact floordiv_int (by omega) (by rw [Int.fdiv_eq_ediv_of_nonneg i (by omega)]; exact q) (.inl (PyProof.noPylong_small (by omega)))
theorem op_mod : OpR X (binaryOp .Mod) (rI (fun _ j => 0 < j) fun i j => .int (i % j)) := opI fun i j _ _ _ _ _ hc q => by
  have h1 : (0 : Int) < j := hc
  exact mod_int' (by omega) (by rw [Int.fmod_eq_emod_of_nonneg i (by omega)]; exact q)
end
section
variable {X : Cx} {a b c : Expr} {ta tb tc : TE} {pos : Pos}
theorem op_lt : OpR X (compareOp .Lt) (rI0 fun i j => .bl (decide (i < j))) := opB0 fun _ _ _ _ _ _ _ q => lt_int q
theorem op_le : OpR X (compareOp .LtE) (rI0 fun i j => .bl (decide (i <= j))) := opB0 fun _ _ _ _ _ _ _ q => le_int q
theorem op_gt : OpR X (compareOp .Gt) (rI0 fun i j => .bl (decide (j < i))) := opB0 fun _ _ _ _ _ _ _ q => gt_int q
theorem OpR.or {f : Value -> Value -> Sem Value} {r r' : R2} (h : OpR X f r) (h' : OpR X f r') : OpR X f (fun x y H Q => r x y H Q \/ r' x y H Q) := by
  intro pins s σ H x y v u Q I rx ry q
  rcases q with q | q
  · exact h pins s σ H x y v u Q I rx ry q
  · exact h' pins s σ H x y v u Q I rx ry q
theorem nomark (b : Expr) {op : CmpOp} (h : op ≠ .In := by decide) (h2 : op ≠ .NotIn := by decide) : behindInMarks op b = false := by
  have e1 : (op == CmpOp.In) = false := by cases op <;> first | rfl | exact absurd rfl h
  have e2 : (op == CmpOp.NotIn) = false := by cases op <;> first | rfl | exact absurd rfl h2
  cases b <;> simp [behindInMarks, e1, e2]
theorem pe_cmpR {op : CmpOp} {r : R2} (ho : OpR X (compareOp op) r) (ha : PE X a ta) (hb : PE X b tb) (hm : behindInMarks op b = false) : PE X (.Compare a [op] [b] pos) (tOp r ta tb) := by
  intro pins s σ H Q I h
  exact wpAny_Compare1 (binT ha hb I h fun v u s2 x y H2 I2 rx ry q => ho pins s2 σ H2 x y v u Q I2 rx ry q) hm
noncomputable def tTest (t : TE) : TT := fun σ H Q => t σ H fun x H' => ∃ k, x = .bl k /\ Q k H'
theorem pt_cmpR {op : CmpOp} {r : R2} (ho : OpR X (compareOp op) r) (ha : PE X a ta) (hb : PE X b tb) (hm : behindInMarks op b = false) : PT X (.Compare a [op] [b] pos) (tTest (tOp r ta tb)) := by
  intro pins s σ H Q I h
  refine wpAny_isTrue_Compare1 (thn (ha pins s σ H _ I h) fun v s1 ⟨x, H1, I1, r1, q1⟩ => thn (hb pins s1 σ H1 _ I1 q1) fun u s2 ⟨y, H2, I2, r2, q2⟩ =>
    thn (ho pins s2 σ H2 x y v u _ I2 r1 r2 q2) fun c s3 ⟨z, H3, I3, r3, k, e, q3⟩ => ?_) hm
  subst e
  cases r3
  exact wpAny_truthy_bool ⟨H3, I3, q3⟩
noncomputable def tChain (r r' : R2) (ta tb tc : TE) : TE := fun σ H Q => ta σ H fun x H1 => tb σ H1 fun y H2 => r x y H2 fun z H3 => ∃ k, z = .bl k /\
  (if k = true then tc σ H3 fun w' H4 => r' y w' H4 Q else Q (.bl false) H3)
theorem pt_chain {op op' : CmpOp} {r r' : R2} (ho : OpR X (compareOp op) r) (ho' : OpR X (compareOp op') r') (ha : PE X a ta) (hb : PE X b tb) (hc : PE X c tc)
    (hm : lastMarks [op, op'] [b, c] = false := by with_unfolding_all rfl) : PT X (.Compare a [op, op'] [b, c] pos) (tTest (tChain r r' ta tb tc)) := by
  intro pins s σ H Q I h
  refine isTrue_chain (thn (ha pins s σ H _ I h) fun v s1 ⟨x, H1, I1, r1, q1⟩ => test_link (thn (hb pins s1 σ H1 _ I1 q1) fun u s2 ⟨y, H2, I2, r2, q2⟩ =>
    thn (ho pins s2 σ H2 x y v u _ I2 r1 r2 q2) fun d s3 ⟨z, H3, I3, r3, k, e, q3⟩ => ?_)) hm
  subst e
  cases r3
  refine wpAny_truthy_bool ?_
  cases k with
  | false =>
    obtain ⟨k', e', q'⟩ := q3
    cases e'
    exact ite_ff ⟨H3, I3, q'⟩
  | true =>
    refine ite_tt (test_last (thn (hc pins s3 σ H3 _ I3 q3) fun w' s4 ⟨z', H4, I4, r4, q4⟩ => thn (ho' pins s4 σ H4 y z' u w' _ I4 r2 r4 q4) fun d' s5 ⟨z2, H5, I5, r5, k2, e2, q5⟩ => ?_))
    subst e2
    cases r5
    exact wpAny_truthy_bool ⟨H5, I5, q5⟩
theorem line63 : (sizeLine : Nat) < 2 ^ 63 := by rw [sizeLine_eq]; decide
theorem op_add_str : OpR X (binaryOp .Add) (fun x y H Q => ∃ i j, x = .str i /\ y = .str j /\ i.length + j.length <= sizeLine /\ Q (.str (i ++ j)) H) := by
  intro pins s σ H x y v u Q I rx ry h
  obtain ⟨i, j, rfl, rfl, hz, q⟩ := h
  obtain ⟨t, rfl⟩ := rx
  obtain ⟨t', rfl⟩ := ry
  exact add_str (fun t' tk => ⟨.str (i ++ j), H, I.tok _, ⟨_, rfl⟩, q⟩) hz
theorem vals1 {x : V} {us : List Value} (r : Vals [x] us) : ∃ u, us = [u] /\ RelV x u := by
  cases r with
  | cons r1 r2 => cases r2; exact ⟨_, rfl, r1⟩
theorem vals2 {x y : V} {us : List Value} (r : Vals [x, y] us) : ∃ u w', us = [u, w'] /\ RelV x u /\ RelV y w' := by
  cases r with
  | cons r1 r2 =>
    cases r2 with
    | cons r3 r4 => cases r4; exact ⟨_, _, rfl, r1, r3⟩
theorem call_max2 (hc : X.calm = true) : CallR X (.builtin "max") (fun xs H Q => ∃ i j, xs = [.int i, .int j] /\ Q (.int (if j > i then j else i)) H) := by
  intro pins s σ H xs us Q I r h
  obtain ⟨i, j, rfl, q⟩ := h
  obtain ⟨u, w', rfl, ⟨t, rfl⟩, ⟨t', rfl⟩⟩ := vals2 r
  refine max_two_ints (I.ok.hd hc) fun h' tk k => ⟨_, H, I.kept k, ?_, q⟩
  by_cases hj : j > i
  · rw [if_pos hj, if_pos hj]; exact ⟨_, rfl⟩
  · rw [if_neg hj, if_neg hj]; exact ⟨_, rfl⟩
theorem call_min2 (hc : X.calm = true) : CallR X (.builtin "min") (fun xs H Q => ∃ i j, xs = [.int i, .int j] /\ Q (.int (if j < i then j else i)) H) := by
  intro pins s σ H xs us Q I r h
  obtain ⟨i, j, rfl, q⟩ := h
  obtain ⟨u, w', rfl, ⟨t, rfl⟩, ⟨t', rfl⟩⟩ := vals2 r
  refine min_two_ints (I.ok.hd hc) fun h' tk k => ⟨_, H, I.kept k, ?_, q⟩
  by_cases hj : j < i
  · rw [if_pos hj, if_pos hj]; exact ⟨_, rfl⟩
  · rw [if_neg hj, if_neg hj]; exact ⟨_, rfl⟩
theorem call_int1 : CallR X (.type "int") (fun xs H Q => (∃ i, xs = [.int i] /\ Q (.int i) H) \/ ∃ k, xs = [.bl k] /\ Q (.int (if k then 1 else 0)) H) := by
  intro pins s σ H xs us Q I r h
  rcases h with ⟨i, rfl, q⟩ | ⟨k, rfl, q⟩
  · obtain ⟨u, rfl, t, rfl⟩ := vals1 r
    exact call_int_int ⟨.int i, H, I, ⟨_, rfl⟩, q⟩
  · obtain ⟨u, rfl, r1⟩ := vals1 r
    cases r1
    exact call_int_bool ⟨.int (if k then 1 else 0), H, I.tok _, ⟨_, rfl⟩, q⟩
end
end L2
namespace L2
open PySem PySem.Spec PyProof.Rows
structure ObjM (h : Heap) (x dx C : Addr) (mA : Str -> Option Value) : Prop where
  obj : h.get? x = some (PySem.W.instObj C dx)
  ns : h.Ns1 dx mA
  ne : dx ≠ x
theorem lookIn_ns {h : Heap} {dx : Addr} {mA : Str -> Option Value} (n : h.Ns1 dx mA) : ∃ od, h.get? dx = some od /\ ∀ name, PySem.W.lookIn name od = some (mA name) := by
  obtain ⟨o, es, ep, ho, hd, hk, _, hm⟩ := n
  refine ⟨o, ho, fun name => ?_⟩
  have e := hm name
  unfold nsFind findBy at e
  rw [<- Array.find?_toList] at e
  unfold PySem.W.lookIn
  rw [hd]
  dsimp only
  split
  · rename_i y q
    rw [q] at e
    exact congrArg some e
  · rename_i q
    rw [q] at e
    have a : es.toList.any (·.refKey) = false := by
      rw [List.any_eq_false]
      intro y hy
      obtain ⟨z, t, hkey⟩ := hk y (Array.mem_toList_iff.mp hy)
      simp [DictEntry.refKey, hkey]
    have a' : ¬ es.toList.any (·.refKey) = true := by rw [a]; exact Bool.false_ne_true
    rw [if_neg a']
    exact congrArg some e
theorem ObjM.look {h : Heap} {x dx C : Addr} {mA : Str -> Option Value} (I : ObjM h x dx C mA) : ∃ od, PySem.W.InstAt h x (PySem.W.instObj C dx) C (some od) /\ ∀ name, PySem.W.lookIn name od = some (mA name) :=
  let ⟨od, ho, hl⟩ := lookIn_ns I.ns
  ⟨od, ⟨I.obj, rfl, rfl, ho⟩, hl⟩
section
variable {prog : Program} {w : World} {A : Around} {E : Value -> Shared -> Prop} {s : Shared} {K : PySem.W.Frag} {x dx C f : Addr} {mA : Str -> Option Value} {name : Str} {v : Value}
end
theorem RelO.some_of {v : V} {o : Option Value} (r : RelO (some v) o) : ∃ u, o = some u /\ RelV v u := by
  cases o with
  | none => exact (show False from r).elim
  | some u => exact ⟨u, rfl, r⟩
section
variable {P : Program} {w : World} {H H' : Hp} {h h' : Heap} {a C dx : Addr} {fs fs' : List (Str × V)}
theorem ins_get (hok : HOk P w H h) (e : H a = some (.ins C dx fs)) : ∃ mA, ObjM h a dx C mA /\ (∀ f, RelO (fs.lookup f) (mA f)) /\ PySem.Within mA (fs.map (·.1)) /\ fs.length <= 1000 /\ H dx = some (.own a) := by
  obtain ⟨d, z, ne, ob, mA, n, r, q⟩ := (show ObjOk P w H h a (.ins C dx fs) from hok a _ e)
  exact ⟨mA, ⟨ob, n, ne⟩, r, q, z, d⟩
end
structure Cls (K : PySem.W.Frag) (C : Addr) : Prop where
  pg : PySem.W.plainGet K C Str.empty = true
  hd : PySem.W.hasDictIn K C = true
  po : PySem.W.plainOver K C = true
  sa : PySem.W.findIn K (.ref C) "__setattr__" = some (some (.builtin "object.__setattr__"))
theorem Cls.get {K : PySem.W.Frag} {C : Addr} (c : Cls K C) (f : Str) : PySem.W.plainGet K C f = true := c.pg
section
variable {X : Cx} {pins : List (Addr × Obj)} {σ : St} {H : Hp} {s : Shared} {a C dx : Addr} {fs : List (Str × V)} {f : Str} {v : V} {A : Around} {E : Value -> Shared -> Prop}
end
section
variable {X : Cx} {o e value : Expr} {f : Str} {pos pos' tpos : Pos} {ta tv : TE}
end
section
variable {X : Cx} {pins : List (Addr × Obj)} {σ : St} {H : Hp} {s : Shared} {A : Around} {E : Value -> Shared -> Prop} {Q : Value -> Shared -> Prop} {c : Value} {b : Bool}
inductive TyOf (K : PySem.W.Frag) (H : Hp) : V -> Value -> Prop where
  | non : TyOf K H .non (.type "NoneType")
  | bl (x : Bool) : TyOf K H (.bl x) (.type "bool")
  | int (i : Int) : TyOf K H (.int i) (.type "int")
  | str (x : Str) : TyOf K H (.str x) (.type "str")
  | flt (x : UInt64) : TyOf K H (.flt x) (.type "float")
  | lst {a : Addr} {xs : List V} (e : H a = some (.lst xs)) : TyOf K H (.ref a) (.type "list")
  | frz {a : Addr} {o : Obj} {xs : List V} (e : H a = some (.frz o (.lst xs))) : TyOf K H (.ref a) (.type "list")
  | tup {a : Addr} {xs : List V} (e : H a = some (.tup xs)) : TyOf K H (.ref a) (.type "tuple")
  | dK {a : Addr} {kvs : List (Key × V)} (e : H a = some (.dK kvs)) : TyOf K H (.ref a) (.type "dict")
  | dT {a : Addr} {kvs : List (List Key × V)} (e : H a = some (.dT kvs)) : TyOf K H (.ref a) (.type "dict")
  | ins {a C dx : Addr} {fs : List (Str × V)} (e : H a = some (.ins C dx fs)) (cl : Cls K C) (ha : PySem.W.findIn K (.ref C) "__class__" = some (some (.builtin "object.__class__")))
      (hn : PySem.W.specialIn K (.builtin "object.__class__") "__get__" = some (some (.builtin "getset_descriptor.__get__"))) (htk : PySem.W.takesIn K (.builtin "object.__class__") = some true)
      (hm : PySem.W.mroIn K C (.type "object") = some true) : TyOf K H (.ref a) (.ref C)
theorem isinst_ok {x : V} {u t : Value} (I : Inv X pins σ H s) (rx : RelV x u) (ty : TyOf X.K H x t) (e : PySem.W.kitOne X.K t c = some b) (h : ∀ tk, Q (.bool b) { s with toks := tk }) :
    wpAny (model X.prog X.w) A (call (.builtin "isinstance") [u, c]) Q E s := by
  cases ty with
  | non => cases (show u = Value.none from rx); exact PySem.W.kia_one PySem.W.kitx_none I.kIn True.intro e (fun z => nomatch z) h
  | bl y => cases (show u = Value.bool y from rx); exact PySem.W.kia_one PySem.W.kitx_bool I.kIn True.intro e (fun z => nomatch z) h
  | int i => obtain ⟨t, q⟩ := (show ∃ t, u = Value.int i t from rx); cases q; exact PySem.W.kia_one PySem.W.kitx_int I.kIn True.intro e (fun z => nomatch z) h
  | str y => obtain ⟨t, q⟩ := (show ∃ t, u = Value.str y t from rx); cases q; exact PySem.W.kia_one PySem.W.kitx_str I.kIn True.intro e (fun z => nomatch z) h
  | flt y => obtain ⟨t, q⟩ := (show ∃ t, u = Value.float y t from rx); cases q; exact PySem.W.kia_one PySem.W.kitx_float I.kIn True.intro e (fun z => nomatch z) h
  | @lst a xs ea =>
    cases (show u = Value.ref a from rx)
    obtain ⟨_, _, n, _, h1⟩ := (show ObjOk X.prog X.w H s.heap a (.lst xs) from I.hok a _ ea)
    exact PySem.W.kia_one PySem.W.kitx_list I.kIn ⟨_, h1, rfl⟩ e (fun z => nomatch z) h
  | @frz a ob xs ea =>
    cases (show u = Value.ref a from rx)
    obtain ⟨_, _, _, n, _, h1⟩ := (show ObjOk X.prog X.w H s.heap a (.frz ob (.lst xs)) from I.hok a _ ea)
    exact PySem.W.kia_one PySem.W.kitx_list I.kIn ⟨_, h1, rfl⟩ e (fun z => nomatch z) h
  | @tup a xs ea =>
    cases (show u = Value.ref a from rx)
    obtain ⟨_, _, _, p⟩ := (show ObjOk X.prog X.w H s.heap a (.tup xs) from I.hok a _ ea)
    obtain ⟨o, h1, h2, _⟩ := p
    exact PySem.W.kia_one PySem.W.kitx_tuple I.kIn ⟨o, h1, h2⟩ e (fun z => nomatch z) h
  | @dK a kvs ea =>
    cases (show u = Value.ref a from rx)
    obtain ⟨_, _, vs, _, p⟩ := (show ObjOk X.prog X.w H s.heap a (.dK kvs) from I.hok a _ ea)
    obtain ⟨o, es, ep, h1, h2, _⟩ := p
    exact PySem.W.kia_one PySem.W.kitx_dict I.kIn ⟨o, h1, h2.1⟩ e (fun z => nomatch z) h
  | @dT a kvs ea =>
    cases (show u = Value.ref a from rx)
    obtain ⟨_, _, xs, _, o, es, ep, h1, h2, _⟩ := (show ObjOk X.prog X.w H s.heap a (.dT kvs) from I.hok a _ ea)
    exact PySem.W.kia_one PySem.W.kitx_dict I.kIn ⟨o, h1, h2.1⟩ e (fun z => nomatch z) h
  | @ins a C dx fs ea cl ha hn htk hm =>
    cases (show u = Value.ref a from rx)
    obtain ⟨mA, O, _⟩ := ins_get I.hok ea
    obtain ⟨od, J, _⟩ := O.look
    exact PySem.W.kia_one (PySem.W.kitx_own (cl.get _) cl.hd ha hn htk hm) I.kIn J e (fun z => nomatch z) h
end
end L2
namespace L2
open PySem PySem.Spec PyProof.Rows
structure Room (k : Nat) (A : Around) : Prop where
  hd : A.handled = none
  dp : A.depth + 3 * k + 5 < recursionLimit
  un : A.units + 16 * k + 200 < cLine
theorem Room.mono {j k : Nat} {A : Around} (r : Room k A) (h : j <= k) : Room j A := ⟨r.hd, by have := r.dp; omega, by have := r.un; omega⟩
theorem Room.deeper {k : Nat} {A : Around} (r : Room (k + 1) A) (env : Env) : Room k (A.deeper env) :=
  ⟨r.hd, by have := r.dp; show A.depth + 1 + 3 * k + 5 < _; omega, by have := r.un; show A.units + 3 + 16 * k + 200 < _; omega⟩
theorem Room.depth {k : Nat} {A : Around} (r : Room k A) : A.depth < recursionLimit := by have := r.dp; omega
noncomputable def tNil : TA := fun _ H Q => Q [] H
noncomputable def tCons (ta : TE) (tr : TA) : TA := fun σ H Q => ta σ H fun x H1 => tr σ H1 fun xs H2 => Q (x :: xs) H2
section
variable {X : Cx} {e : Expr} {es : List Expr} {te : TE} {t : TA} {pos : Pos}
theorem pa_nil : PA X [] tNil := fun _ _ _ _ H Q I h => Calls.spliced_nil ⟨[], H, I, .nil, h⟩
theorem pa_cons (ha : PE X e te) (hr : PA X es t) (hs : starEach (e :: es) X.env = (false, eval e X.env) :: starEach es X.env := by rfl) : PA X (e :: es) (tCons te t) := by
  intro pos pins s σ H Q I h
  rw [hs]
  show wpAny _ _ (spliced ((false, eval e X.env) :: backTo pos (starEach es X.env))) _ _ s
  refine Calls.spliced_cons (thn (ha pins s σ H _ I h) fun u s1 ⟨x, H1, I1, r1, q1⟩ => ?_)
  exact thn (hr pos pins s1 σ H1 _ I1 q1) fun us s2 ⟨xs, H2, I2, r2, q2⟩ => ⟨x :: xs, H2, I2, .cons r1 r2, q2⟩
noncomputable def tTup (t : TA) : TE := fun σ H Q => t σ H fun xs H1 => xs.length <= sizeLine /\ ∀ p, H1 p = none -> Q (.ref p) (upd H1 p (.tup xs))
noncomputable def tLst (t : TA) : TE := fun σ H Q => t σ H fun xs H1 => xs.length <= sizeLine /\ ∀ p, H1 p = none -> Q (.ref p) (upd H1 p (.lst xs))
theorem pe_tup {x1} (h : PA X es t) : PE X (.Tuple es x1 pos) (tTup t) := by
  intro pins s σ H Q I hq
  refine wpAny_Tuple_spliced (thn (h pos pins s σ H _ I hq) fun us s1 ⟨xs, H1, I1, r, z, q⟩ => ⟨by rw [<- r.length]; exact z, ?_⟩)
  have hf : H1 s1.heap.objs.size = none := I1.hok.fresh (Nat.le_refl _)
  refine ⟨.ref s1.heap.objs.size, upd H1 s1.heap.objs.size (.tup xs), I1.laid (t' := s1.toks) (fun b u e => Heap.get?_push_of_some _ e) (Nat.le_refl _) ?_, rfl, q _ hf⟩
  exact ⟨z, us, r, TupN.new _ _⟩
theorem pe_lst (h : PA X es t) : PE X (.List es pos) (tLst t) := by
  intro pins s σ H Q I hq
  refine wpAny_List_spliced (thn (h pos pins s σ H _ I hq) fun us s1 ⟨xs, H1, I1, r, z, q⟩ => ⟨by rw [<- r.length]; exact z, ?_⟩)
  have hf : H1 s1.heap.objs.size = none := I1.hok.fresh (Nat.le_refl _)
  refine ⟨.ref s1.heap.objs.size, upd H1 s1.heap.objs.size (.lst xs), I1.laid (t' := s1.toks) (fun b u e => Heap.get?_push_of_some _ e) (Nat.le_refl _) ?_, rfl, q _ hf⟩
  exact ⟨z, us, 0, r, Heap.get?_push_size _ rfl⟩
end
noncomputable abbrev Sp := List V -> Hp -> VK -> XK -> Prop
noncomputable abbrev CXT := List Env -> Hp -> Shared -> XK -> Value -> Shared -> Prop
structure Env0 (P : Program) (w : World) (K : PySem.W.Frag) (mg : Str -> Option Value) (base : Heap) (A : Around) (outer : List Env) (s : Shared) (H : Hp) : Prop where
  frames : A.frames = some outer
  mod : Mod K mg base
  bs : ∀ b o, base.get? b = some o -> s.heap.get? b = some o /\ H b = none
  bsz : base.objs.size <= s.heap.objs.size
  funs : s.heap.FunFrames base outer
  frf : ∀ b ∈ frs outer, H b = none
  hok : HOk P w H s.heap
  bare : AllBare s.gens
noncomputable def CE (outer : List Env) (P : Program) (w : World) (H : Hp) (s : Shared) (Q : VK) (u : Value) (s' : Shared) : Prop :=
  ∃ v H', s'.os = s.os /\ AllBare s'.gens /\ Un (frs outer) [] H H' s.heap s'.heap /\ HOk P w H' s'.heap /\ RelV v u /\ Q v H'
noncomputable def CR (CX : CXT) (outer : List Env) (P : Program) (w : World) (H : Hp) (s : Shared) (Q : VK) (E : XK) (r : Result) (s' : Shared) : Prop :=
  match r with
  | .ok (.ret u) => CE outer P w H s Q u s'
  | .ok _ => False
  | .error e => CX outer H s E e s'
structure FnOk (P : Program) (w : World) (K : PySem.W.Frag) (mg : Str -> Option Value) (base : Heap) (CX : CXT) (k : Nat) (f : Addr) (fd : FuncData) (ps : List Str) (sp : Sp) : Prop where
  len : ∀ vs H Q E, sp vs H Q E -> vs.length = ps.length
  run : ∀ (A : Around) (outer : List Env) (s : Shared) (H : Hp) (args : Args) (us : List Value) (vs : List V) (Q : VK) (E : XK), Room k A -> Env0 P w K mg base A outer s H -> BindsTo s fd args (ps.zip us) -> Vals vs us -> sp vs H Q E ->
    codeAny (model P w) A (.call (.ref f) args) (CR CX outer P w H s Q E) s
theorem FnOk.mono {P : Program} {w : World} {K : PySem.W.Frag} {mg : Str -> Option Value} {base : Heap} {CX : CXT} {j k : Nat} {f : Addr} {fd : FuncData} {ps : List Str} {sp : Sp} (F : FnOk P w K mg base CX j f fd ps sp) (h : j <= k) :
    FnOk P w K mg base CX k f fd ps sp := ⟨F.len, fun A outer s H args us vs Q E hr => F.run A outer s H args us vs Q E (hr.mono h)⟩
section
variable {X : Cx} {pins : List (Addr × Obj)} {σ : St} {H : Hp} {s s' : Shared}
theorem Inv.env0 (I : Inv X pins σ H s) : Env0 X.prog X.w X.K X.mg X.base X.A X.stack s H :=
  ⟨I.ok.frames, I.ok.mod, I.bs, Nat.le_trans I.ok.bsz I.sz, I.stack, I.stkFree, I.hok, I.bare⟩
theorem Inv.after {Q : VK} {u : Value} (I : Inv X pins σ H s) (h : CE X.stack X.prog X.w H s Q u s') : EP X pins σ Q u s' := by
  obtain ⟨v, H', os, bare, un, hok, r, q⟩ := h
  obtain ⟨hh, g, d, t, os'⟩ := s'
  obtain rfl : os' = s.os := os
  exact ⟨v, H', I.call (h' := hh) (g' := g) (d' := d) (t' := t) (ch := []) un hok bare (fun b z => absurd z (by simp)), r, q⟩
end
noncomputable def tCall (sp : Sp) (dvs : List V) (E : XK) (t : TA) : TE := fun σ H Q => t σ H fun vs H1 => sp (vs ++ dvs) H1 Q E
noncomputable def Binds (K : PySem.W.Frag) (fd : FuncData) (ps : List Str) (ds : List Value) : Prop :=
  ∀ (s : Shared) (us : List Value), K.In s.heap -> (us ++ ds).length = ps.length -> BindsTo s fd ⟨us, []⟩ (ps.zip (us ++ ds))
theorem Binds.all {K : PySem.W.Frag} {fd : FuncData} {ps : List Str} (h : ∀ us : List Value, us.length = ps.length -> bindArgs fd ⟨us, []⟩ = pure (ps.zip us)) : Binds K fd ps [] := fun s us _ hl => by
  rw [List.append_nil] at hl ⊢
  exact .of_eq (h us hl)
noncomputable def Passes (CX : CXT) (X : Cx) (E : XK) : Prop := ∀ (pins : List (Addr × Obj)) (σ : St) (H : Hp) (s : Shared) (e : Value) (s' : Shared), Inv X pins σ H s -> CX X.stack H s E e s' -> X.xe e s'
section
variable {X : Cx} {CX : CXT} {k : Nat} {f C : Addr} {fd : FuncData} {ps : List Str} {sp : Sp} {dvs : List V} {ds : List Value} {E : XK} {x m : Str} {p pos apos : Pos} {e o : Expr} {es : List Expr} {ta : TE} {t : TA}
theorem run_fn {pins : List (Addr × Obj)} {σ : St} {H : Hp} {s : Shared} {Q : VK} {us : List Value} {vs : List V} (F : FnOk X.prog X.w X.K X.mg X.base CX k f fd ps sp) (hr : Room k X.A) (hb : Binds X.K fd ps ds) (hd : Vals dvs ds) (hx : Passes CX X E)
    (I : Inv X pins σ H s) (r : Vals vs us) (h : sp (vs ++ dvs) H Q E) : wpAny (model X.prog X.w) X.A (call (.ref f) us) (EP X pins σ Q) X.xe s := by
  have r2 : Vals (vs ++ dvs) (us ++ ds) := r.append hd
  have hl : (us ++ ds).length = ps.length := by rw [<- r2.length]; exact F.len _ _ _ _ h
  refine wpAny_call (codeAny_mono (F.run X.A X.stack s H ⟨us, []⟩ (us ++ ds) (vs ++ dvs) Q E hr I.env0 (hb s us I.kIn hl) r2 h) fun r s' hq => ?_)
  cases r with
  | error e => exact hx pins σ H s e s' I hq
  | ok fl =>
    cases fl with
    | ret u => exact I.after hq
    | next => exact False.elim hq
    | brk => exact False.elim hq
    | cont => exact False.elim hq
theorem pe_call (F : FnOk X.prog X.w X.K X.mg X.base CX k f fd ps sp) (hr : Room k X.A) (hg : Gl X x) (hm : X.mg x = some (.ref f)) (hk : PySem.W.keepIn X.K (.ref f) = true) (hb : Binds X.K fd ps ds) (hd : Vals dvs ds) (hx : Passes CX X E)
    (ha : PA X (e :: es) t) (hdb : (x == ("__debug__" : Str)) = false := by decide) (he : starEach (e :: es) X.env = (false, eval e X.env) :: starEach es X.env := by rfl) (hpl : (backTo pos (starEach es X.env)).any (·.1) = false := by rfl) :
    PE X (.Call (.Name x p) (e :: es) [] pos) (tCall sp dvs E t) := by
  intro pins s σ H Q I h
  refine wpAny_Call_Name_kw (ld_glob I hg hm ?_ hdb)
  refine PySem.W.callWith_K (h₀ := X.base) I.ok.mod.kin hk (thn (ha pos pins s σ H _ I h) fun us s1 ⟨vs, H1, I1, r, q⟩ => ⟨I1.kIn, ?_⟩) he hpl
  exact run_fn F hr hb hd hx I1 r q
end
section
variable {X : Cx} {CX : CXT} {k : Nat} {f C : Addr} {fd : FuncData} {ps ks : List Str} {sp : Sp} {E : XK} {x m : Str} {p pos apos kpos : Pos} {e o : Expr} {es : List Expr} {kws : List Keyword} {te ta : TE} {t tk : TA} {nm : Option Str}
variable {g : List Value -> List Value -> List Value} {gV : List V -> List V -> List V}
end
structure FnScope (N P : List Str) (sc : Scope) : Prop where
  kind : sc.kind = .function
  co : sc.isCoroutine = false
  gen : sc.isGenerator = false
  nd : N.Nodup
  pre : N.take P.length = P
  par : ∀ x ∈ P, sc.names.lookup x = some .local \/ sc.names.lookup x = some .cell
  nofree : ∀ y ∈ sc.names, y.2 ≠ .free
theorem bindL_out {kindOf : Str -> Option NameKind} {x : Str} : ∀ {binds : List (Str × Value)} {m : Str -> Option Value}, (∀ v, (x, v) ∉ binds) -> bindL kindOf binds m x = m x
  | [], _, _ => rfl
  | (n, v) :: r, m, h => by
    unfold bindL
    rw [bindL_out fun w hw => h w (List.mem_cons_of_mem _ hw)]
    split
    · have : x ≠ n := by rintro rfl; exact h v List.mem_cons_self
      simp [this]
    · rfl
theorem bindC_out {kindOf : Str -> Option NameKind} {x : Str} : ∀ {binds : List (Str × Value)} {m : Str -> Option Value}, (∀ v, (x, v) ∉ binds) -> bindC kindOf binds m x = m x
  | [], _, _ => rfl
  | (n, v) :: r, m, h => by
    unfold bindC
    rw [bindC_out fun w hw => h w (List.mem_cons_of_mem _ hw)]
    split
    · rfl
    · have : x ≠ n := by rintro rfl; exact h v List.mem_cons_self
      simp [this]
theorem bindL_get {kindOf : Str -> Option NameKind} {x : Str} {v : Value} : ∀ {P : List Str} {vs : List Value} {i : Nat} {m : Str -> Option Value}, P.Nodup -> P[i]? = some x -> vs[i]? = some v -> kindOf x = some .local ->
    bindL kindOf (P.zip vs) m x = some v
  | [], _, _, _, _, h, _, _ => by simp at h
  | _ :: _, [], _, _, _, _, h, _ => by simp at h
  | p :: P, w :: vs, 0, m, nd, h1, h2, hk => by
    simp at h1 h2; subst h1; subst h2
    show bindL kindOf ((p, w) :: P.zip vs) m p = _
    unfold bindL
    rw [bindL_out fun v hv => (List.nodup_cons.mp nd).1 (List.of_mem_zip hv).1, if_pos hk]
    simp
  | p :: P, w :: vs, i + 1, m, nd, h1, h2, hk => by
    show bindL kindOf ((p, w) :: P.zip vs) m x = _
    unfold bindL
    exact bindL_get (i := i) (List.nodup_cons.mp nd).2 (by simpa using h1) (by simpa using h2) hk
theorem bindC_get {kindOf : Str -> Option NameKind} {x : Str} {v : Value} : ∀ {P : List Str} {vs : List Value} {i : Nat} {m : Str -> Option Value}, P.Nodup -> P[i]? = some x -> vs[i]? = some v -> kindOf x ≠ some .local ->
    bindC kindOf (P.zip vs) m x = some v
  | [], _, _, _, _, h, _, _ => by simp at h
  | _ :: _, [], _, _, _, _, h, _ => by simp at h
  | p :: P, w :: vs, 0, m, nd, h1, h2, hk => by
    simp at h1 h2; subst h1; subst h2
    show bindC kindOf ((p, w) :: P.zip vs) m p = _
    unfold bindC
    rw [bindC_out fun v hv => (List.nodup_cons.mp nd).1 (List.of_mem_zip hv).1, if_neg hk]
    simp
  | p :: P, w :: vs, i + 1, m, nd, h1, h2, hk => by
    show bindC kindOf ((p, w) :: P.zip vs) m x = _
    unfold bindC
    exact bindC_get (i := i) (List.nodup_cons.mp nd).2 (by simpa using h1) (by simpa using h2) hk
noncomputable def start (N : List Str) (vs : List V) : St := vs.map some ++ List.replicate (N.length - vs.length) none
noncomputable def cxOf (CX : CXT) (P : Program) (w : World) (K : PySem.W.Frag) (mg : Str -> Option Value) (base : Heap) (N : List Str) (qual : Str) (scope : Scope) (f : Addr) (cd : Value) (A : Around) (outer : List Env) (s : Shared) (H : Hp) (E : XK) : Cx where
  prog := P
  w := w
  K := K
  mg := mg
  base := base
  A := A.deeper (envOfC qual scope s.heap.objs.size f cd)
  N := N
  s₀ := s
  H₀ := H
  env := envOfC qual scope s.heap.objs.size f cd
  outer := outer
  stack := envOfC qual scope s.heap.objs.size f cd :: outer
  ex := []
  calm := true
  fn := fun _ => true
  pn := []
  xe := fun e s' => wpAny (model P w) (A.deeper (envOfC qual scope s.heap.objs.size f cd)) (leaving (envOfC qual scope s.heap.objs.size f cd) e) (fun _ s'' => CX outer H s E e s'') (fun e' s'' => CX outer H s E e' s'') s'
theorem cell_has {sc : Scope} {n : Nat} {x : Str} (h : sc.names.lookup x = some .cell) : ∃ c, (cellsFrom n sc.names []).lookup x = some c := by
  have q := PySem.W.cellsFrom_some sc.names n [] (.inl h)
  exact Option.isSome_iff_exists.mp q
theorem inv_start {CX : CXT} {P : Program} {w : World} {K : PySem.W.Frag} {mg : Str -> Option Value} {base : Heap} {N ps : List Str} {qual : Str} {scope : Scope} {f : Addr} {cd : Value} {A : Around} {outer : List Env} {s s1 : Shared} {H : Hp} {E : XK} {us : List Value} {vs : List V}
    (S : FnScope N ps scope) (hd : A.handled = none) (e0 : Env0 P w K mg base A outer s H) (hl : vs.length = ps.length) (r : Vals vs us)
    (x : InCallC s s.heap.objs.size (bindL (envOfC qual scope s.heap.objs.size f cd).kindOf (ps.zip us) fun _ => none) (cellsFrom (s.heap.objs.size + 1) scope.names []) (bindC (envOfC qual scope s.heap.objs.size f cd).kindOf (ps.zip us) fun _ => none) s1) :
    Inv (cxOf CX P w K mg base N qual scope f cd A outer s H E) [] (start N vs) H s1 := by
  have hpl : ps.length <= N.length := by have := congrArg List.length S.pre; rw [List.length_take] at this; omega
  obtain ⟨h1, tk, rfl, hk⟩ := x.done
  have noA : ∀ b : Addr, b ∉ (cxOf CX P w K mg base N qual scope f cd A outer s H E).ex := fun b z => absurd (show b ∈ ([] : List Addr) from z) (by simp)
  refine ⟨⟨e0.mod, S.kind, rfl, rfl, Nat.le_refl _, fun y z c h1 h2 => ?_, fun y hy => ?_, fun y c _ h => ?_, fun _ => hd, Around.frames_deeper e0.frames, .inr ⟨rfl, rfl⟩, fun b z => absurd z (noA b), e0.bs, e0.bsz, fun b _ _ => noA b, fun b z => absurd z (noA b), e0.funs, e0.frf⟩,
    rfl, e0.bare, Un.kept hk, ⟨_, x.toInCall.ns, fun i y v h1 h2 h3 => ?_⟩, fun y c h => ⟨_, x.cell y c h⟩, e0.hok.fresh (Nat.le_refl _), fun y c h => ?_, fun p hp => absurd (show p ∈ ([] : List (Addr × Obj)) from hp) (by simp), e0.hok.kept hk, ?_⟩
  · exact name_of_addr x.apart (PySem.mem_of_lookup h1) (PySem.mem_of_lookup h2)
  · have hy : scope.names.lookup y = some .cell \/ scope.names.lookup y = some .free := hy
    rcases hy with hy | hy
    · exact cell_has hy
    · exact absurd rfl (S.nofree _ (PySem.mem_of_lookup hy))
  · exact Nat.le_of_lt (x.above y c (PySem.mem_of_lookup h))
  · have hi : i < vs.length := by
      unfold start at h2
      by_cases hi : i < vs.length
      · exact hi
      · rw [List.getElem?_append_right (by simpa using hi)] at h2
        rw [List.getElem?_replicate] at h2
        split at h2 <;> cases h2
    have ha : vs[i]? = some v := by
      unfold start at h2
      rw [List.getElem?_append_left (by simpa using hi), List.getElem?_map] at h2
      cases e : vs[i]? with
      | none => rw [e] at h2; cases h2
      | some a => rw [e] at h2; cases h2; rfl
    obtain ⟨u, hu, rv⟩ := r.get ha
    have hp : ps[i]? = some y := by
      rw [<- S.pre, List.getElem?_take_of_lt (by omega)]; exact h1
    have ndP : ps.Nodup := by rw [<- S.pre]; exact S.nd.sublist (List.take_sublist _ _)
    refine ⟨u, rv, ?_⟩
    rcases S.par y (List.mem_of_getElem? hp) with k | k
    · exact .inl ⟨k, bindL_get ndP hp hu k⟩
    · obtain ⟨c, e⟩ := cell_has (n := s.heap.objs.size + 1) k
      refine .inr ⟨.inl k, c, e, ?_⟩
      have q := x.cell y c e
      rw [bindC_get ndP hp hu (by show scope.names.lookup y ≠ _; rw [k]; decide)] at q
      exact q
  · exact e0.hok.fresh (Nat.le_of_lt (x.above y c (PySem.mem_of_lookup h)))
  · unfold start
    show _ = N.length
    rw [List.length_append, List.length_map, List.length_replicate]
    omega
theorem fn_of {CX : CXT} {P : Program} {w : World} {K : PySem.W.Frag} {mg : Str -> Option Value} {base : Heap} {k : Nat} {f : Addr} {name qual : Str} {params : Arguments} {body : List Stmt} {scope : Scope} {dV kV doc pm cdv ct oc : Value} {an od : Option Addr}
    {osl : Array (Option Value)} {N ps : List Str} {sp : Sp} (lk : K.lookup f = some ⟨oc, od, .func (PySem.W.fnOf name qual params body scope dV kV doc pm an cdv ct), osl⟩) (hcd : PySem.W.codeIn K cdv qual = true) (S : FnScope N ps scope)
    (len : ∀ vs H Q E, sp vs H Q E -> vs.length = ps.length)
    (hbody : ∀ (A : Around) (outer : List Env) (s : Shared) (H : Hp) (vs : List V) (Q : VK) (E : XK), Room k (A.deeper (envOfC qual scope s.heap.objs.size f cdv)) -> sp vs H Q E ->
      ∃ t, PSs (cxOf CX P w K mg base N qual scope f cdv A outer s H E) body t /\ t { nx := fun _ H' => Q .non H', rt := Q } (start N vs) H) :
    FnOk P w K mg base CX (k + 1) f (PySem.W.fnOf name qual params body scope dV kV doc pm an cdv ct) ps sp := by
  refine ⟨len, fun A outer s H args us vs Q E hr e0 hb r hsp => ?_⟩
  have hl := len _ _ _ _ hsp
  have KX : K.In s.heap := e0.mod.kin.keeps fun b o e => (e0.bs b o e).1
  have lim : s.heap.NoLimit := e0.mod.nolimit.keeps fun b o e => (e0.bs b o e).1
  have hkind : ∀ y ∈ ps.zip us, scope.names.lookup y.1 = some .local \/ (scope.names.lookup y.1 = some .cell /\ ((cellsFrom (s.heap.objs.size + 1) scope.names []).lookup y.1).isSome = true) := fun ⟨n, v⟩ hy => by
    rcases S.par n (List.of_mem_zip hy).1 with q | q
    · exact .inl q
    · exact .inr ⟨q, PySem.W.cellsFrom_some _ _ _ (.inl q)⟩
  refine codeAny_call_function hr.depth (KX _ _ lk) rfl S.co S.gen rfl (PySem.W.codeRec_of KX hcd) (hb _ _ _ _ ?_)
  refine wpAny_newFunctionEnv_cells S.kind hkind fun env he s1 x => ?_
  subst he
  refine ⟨lim.keeps x.toInCall.keep, codeAny_func ?_⟩
  obtain ⟨t, ht, hq⟩ := hbody A outer s H vs Q E (hr.deeper _) hsp
  have I : Inv (cxOf CX P w K mg base N qual scope f cdv A outer s H E) [] (start N vs) H s1 := inv_start S hr.hd e0 hl r x
  refine wpAny_mono (ht [] s1 (start N vs) H _ I hq) (fun fl s' hs => ?_) fun e s' hs => hs
  have fin : ∀ {σ' : St} {H' : Hp} {v : V} {u : Value}, Inv (cxOf CX P w K mg base N qual scope f cdv A outer s H E) [] σ' H' s' -> RelV v u -> Q v H' -> CE outer P w H s Q u s' :=
    fun {σ' H' v u} J rv q => ⟨v, H', J.os, J.bare, J.base, J.hok, rv, q⟩
  cases fl with
  | ret u =>
    obtain ⟨v, σ', H', J, rv, q⟩ := hs
    exact fin J rv q
  | next =>
    obtain ⟨σ', H', J, q⟩ := hs
    exact fin (v := V.non) (u := Value.none) J rfl q
  | brk =>
    obtain ⟨_, _, _, q⟩ := hs
    exact False.elim q
  | cont =>
    obtain ⟨_, _, _, q⟩ := hs
    exact False.elim q
end L2
namespace L2
open PySem PySem.Spec PyProof.Rows
section
variable {X : Cx} {x : Str} {p pos : Pos} {e : Expr} {es : List Expr} {t : TA} {id T : String} {r : List V -> Hp -> VK -> Prop}
noncomputable def tCB (r : List V -> Hp -> VK -> Prop) (t : TA) : TE := fun σ H Q => t σ H fun vs H1 => r vs H1 Q
theorem pe_callB (hc : CallR X (.builtin id) r) (hg : Gl X x) (hm : X.mg x = none) (hv : bootBuiltins x = some (.builtin id)) (ha : PA X (e :: es) t) (hn : x ≠ "__name__" := by decide) (hdb : (x == ("__debug__" : Str)) = false := by decide)
    (he : starEach (e :: es) X.env = (false, eval e X.env) :: starEach es X.env := by rfl) (hpl : (backTo pos (starEach es X.env)).any (·.1) = false := by rfl) : PE X (.Call (.Name x p) (e :: es) [] pos) (tCB r t) := by
  intro pins s σ H Q I h
  refine wpAny_Call_Name_kw (ld_blt I hg hm hv ?_ hn hdb)
  exact PyProof.Rows.callWith_builtin1 (thn (ha pos pins s σ H _ I h) fun us s1 ⟨vs, H1, I1, r1, q1⟩ => hc pins s1 σ H1 vs us Q I1 r1 q1) he hpl
theorem pe_callTy (hc : CallR X (.type T) r) (hg : Gl X x) (hm : X.mg x = none) (hv : bootBuiltins x = some (.type T)) (ha : PA X (e :: es) t) (hn : x ≠ "__name__" := by decide) (hdb : (x == ("__debug__" : Str)) = false := by decide)
    (he : starEach (e :: es) X.env = (false, eval e X.env) :: starEach es X.env := by rfl) (hpl : (backTo pos (starEach es X.env)).any (·.1) = false := by rfl) : PE X (.Call (.Name x p) (e :: es) [] pos) (tCB r t) := by
  intro pins s σ H Q I h
  refine wpAny_Call_Name_kw (ld_blt I hg hm hv ?_ hn hdb)
  exact PyProof.Rows.callWith_type1 (thn (ha pos pins s σ H _ I h) fun us s1 ⟨vs, H1, I1, r1, q1⟩ => hc pins s1 σ H1 vs us Q I1 r1 q1) he hpl
end
end L2
namespace HT
open PySem PyProof.Rows
section
open PySem.SeqAt
open PySem.AutoSeq1 (wpAny_loadPart')
open PySem.MeetsSeq PySem.MeetsSeq2 PySem.MeetsSeq3
end
section
variable {prog : Program} {w : World} {A : Around} {E : Value -> Shared -> Prop} {s : Shared}
theorem cat_tup {t b : Addr} {vs ws : List Value} {Q : Value -> Shared -> Prop} (ht : IsTup s.heap t vs.toArray) (hb : IsTup s.heap b ws.toArray) (hv : vs ≠ [])
    (h1 : ws = [] -> Q (.ref t) s) (h2 : ws ≠ [] -> Q (.ref s.heap.objs.size) { s with heap := s.heap.push { cls := .type "tuple", data := .seq (vs ++ ws).toArray } })
    (hsz : vs.length + ws.length <= sizeLine) : wpAny (model prog w) A (binaryOp .Add (.ref t) (.ref b)) Q E s := by
  obtain ⟨⟨cls, dd, data, sl⟩, ho, hc, n, hd⟩ := id ht
  obtain ⟨⟨cls2, dd2, data2, sl2⟩, ho2, hc2, n2, hd2⟩ := id hb
  simp only at hc hd hc2 hd2
  subst hc hd hc2 hd2
  have e : vs.toArray ++ ws.toArray = (vs ++ ws).toArray := by simp
  by_cases hw : ws = []
  · exact concat_meets ⟨_, ho, rfl⟩ ⟨_, ho2, rfl⟩ noFill_tuple_add seq_tuple_add PySem.F.slot_tuple_add PySem.F.entry_tuple_add (PySem.F.args_tuple_add_2 _ _)
      (tuple_addW1 t b vs.toArray ws.toArray n n2 dd dd2 sl sl2 (by simpa using hv) (by simp [hw])) ⟨ho, ho2, h1 hw⟩
  · refine concat_meets ⟨_, ho, rfl⟩ ⟨_, ho2, rfl⟩ noFill_tuple_add seq_tuple_add PySem.F.slot_tuple_add PySem.F.entry_tuple_add (PySem.F.args_tuple_add_2 _ _)
      (tuple_addW2 t b vs.toArray ws.toArray n n2 dd dd2 sl sl2 (by simpa using hv) (by simpa using hw) (by rw [List.size_toArray, List.size_toArray]; exact hsz)) ⟨ho, ho2, ?_⟩
    rw [e]
    exact h2 hw
end
end HT
namespace L2
open PySem PySem.Spec PyProof.Rows
theorem intsAre_of {ns : List Int} : ∀ {us : List Value}, Vals (ns.map V.int) us -> IntsAre us ns := by
  induction ns with
  | nil => intro us r; rw [List.map_nil] at r; cases r; exact .nil
  | cons n ns ih =>
    intro us r
    rw [List.map_cons] at r
    cases r with
    | cons r1 r2 =>
      obtain ⟨t, e⟩ := r1
      subst e
      exact .cons n t (ih r2)
section
variable {X : Cx} {e : Expr} {te : TE} {lo hi : Option Expr} {tl th : TO} {pos p2 : Pos}
noncomputable def rCatT (K : PySem.W.Frag) : R2 := fun x y H Q => ∃ a b xs ys, x = .ref a /\ y = .ref b /\ SqT K H a xs /\ SqT K H b ys /\ xs ≠ [] /\ xs.length + ys.length <= sizeLine /\
  (ys = [] -> Q (.ref a) H) /\ (ys ≠ [] -> ∀ p, H p = none -> Q (.ref p) (upd H p (.tup (xs ++ ys))))
theorem Vals.nil_iff {xs : List V} {us : List Value} (r : Vals xs us) : us = [] ↔ xs = [] := by
  cases r with
  | nil => simp
  | cons _ _ => simp
theorem op_catT : OpR X (binaryOp .Add) (rCatT X.K) := by
  intro pins s σ H x y v u Q I rx ry h
  obtain ⟨a, b, xs, ys, rfl, rfl, ha, hb, hx, hz, q1, q2⟩ := h
  cases rx
  cases ry
  obtain ⟨its, r1, p1, _⟩ := I.tuple ha
  obtain ⟨its2, r2, p2, _⟩ := I.tuple hb
  refine HT.cat_tup p1 p2 (fun z => hx (r1.nil_iff.mp z)) (fun z => ⟨.ref a, H, I, rfl, q1 (r2.nil_iff.mp z)⟩) (fun z => ?_) (by rw [<- r1.length, <- r2.length]; exact hz)
  refine ⟨.ref s.heap.objs.size, _, I.laid (t' := s.toks) (o := .tup (xs ++ ys)) (fun b ob q => Heap.get?_push_of_some _ q) (Nat.le_refl _) ?_, rfl, q2 (fun w => z (r2.nil_iff.mpr w)) _ (I.hok.fresh (Nat.le_refl _))⟩
  exact ⟨by rw [List.length_append]; exact hz, _, r1.append r2, TupN.new _ _⟩
end
end L2
namespace L2
open PySem PySem.Spec PyProof.Rows
noncomputable def ixN (n : Nat) (i : Int) : Option Nat := if 0 <= i then (if i < n then some i.toNat else none) else if -(n : Int) <= i then some (i + n).toNat else none
noncomputable def atI {α : Type} (xs : List α) (i : Int) : Option α := (ixN xs.length i).bind fun j => xs[j]?
theorem ixN_seq {n : Nat} {i : Int} {j : Nat} (h : ixN n i = some j) : seqIndex? i n = some j /\ j < n /\ -(n : Int) <= i /\ i < n := by
  unfold ixN at h
  by_cases h0 : 0 <= i
  · rw [if_pos h0] at h
    by_cases h1 : i < n
    · rw [if_pos h1] at h
      have e : i.toNat = j := Option.some.inj h
      exact ⟨by rw [seqIndex_of h0 h1, e], by omega, by omega, h1⟩
    · rw [if_neg h1] at h; cases h
  · rw [if_neg h0] at h
    by_cases h1 : -(n : Int) <= i
    · rw [if_pos h1] at h
      have e : (i + n).toNat = j := Option.some.inj h
      exact ⟨by rw [seqIndex_neg (by omega) h1, e], by omega, h1, by omega⟩
    · rw [if_neg h1] at h; cases h
theorem atI_get {α : Type} {xs : List α} {i : Int} {v : α} (h : atI xs i = some v) : ∃ j, seqIndex? i xs.length = some j /\ xs[j]? = some v /\ j < xs.length /\ -(xs.length : Int) <= i /\ i < xs.length := by
  unfold atI at h
  cases e : ixN xs.length i with
  | none => rw [e] at h; cases h
  | some j =>
    rw [e] at h
    obtain ⟨h1, h2, h3, h4⟩ := ixN_seq e
    exact ⟨j, h1, h, h2, h3, h4⟩
theorem atI_nat {α : Type} {xs : List α} {j : Nat} {v : α} (h : xs[j]? = some v) : atI xs (j : Int) = some v := by
  have hj : j < xs.length := (List.getElem?_eq_some_iff.mp h).1
  have e : ixN xs.length (j : Int) = some j := by
    unfold ixN
    rw [if_pos (by omega), if_pos (by omega)]; simp
  unfold atI; rw [e]; exact h
noncomputable def PlainIx (b : Expr) : Prop := ∀ o i, subscripted b false o i = operate [o, i] (getItem o i)
noncomputable def IxR (X : Cx) (r : R2) : Prop :=
  ∀ (value slice : Expr) (pins : List (Addr × Obj)) (s : Shared) (σ : St) (H : Hp) (x y : V) (v u : Value) (Q : VK), Inv X pins σ H s -> RelV x v -> RelV y u -> r x y H Q ->
    subscripted slice false v u = operate [v, u] (getItem v u) -> wpAny (model X.prog X.w) X.A (subscriptTail value slice v u) (EP X pins σ Q) X.xe s
noncomputable def MtR (X : Cx) (id : String) (r : V -> List V -> Hp -> VK -> Prop) : Prop :=
  ∀ (pins : List (Addr × Obj)) (s : Shared) (σ : St) (H : Hp) (x : V) (xs : List V) (v : Value) (us : List Value) (Q : VK), Inv X pins σ H s -> RelV x v -> Vals xs us -> r x xs H Q ->
    wpAny (model X.prog X.w) X.A (call (.builtin id) (v :: us)) (EP X pins σ Q) X.xe s
section
variable {X : Cx} {a b : Expr} {ta tb : TE} {pos : Pos}
theorem IxR.or {r r' : R2} (h : IxR X r) (h' : IxR X r') : IxR X (fun x y H Q => r x y H Q \/ r' x y H Q) := by
  intro value slice pins s σ H x y v u Q I rx ry q hs
  rcases q with q | q
  · exact h value slice pins s σ H x y v u Q I rx ry q hs
  · exact h' value slice pins s σ H x y v u Q I rx ry q hs
theorem pe_ix {r : R2} (hr : IxR X r) (ha : PE X a ta) (hb : PE X b tb) (hs : PlainIx b) : PE X (.Subscript a b pos) (tOp r ta tb) := by
  intro pins s σ H Q I h
  exact Subscript_ (binT ha hb I h fun v u s2 x y H2 I2 rx ry q => hr a b pins s2 σ H2 x y v u Q I2 rx ry q (hs _ _))
noncomputable def rIxL (K : PySem.W.Frag) : R2 := fun x y H Q => ∃ p xs i v, x = .ref p /\ y = .int i /\ SqL K H p xs /\ atI xs i = some v /\ Q v H
noncomputable def rIxT (K : PySem.W.Frag) : R2 := fun x y H Q => ∃ p xs i v, x = .ref p /\ y = .int i /\ SqT K H p xs /\ atI xs i = some v /\ Q v H
noncomputable def rIxS : R2 := fun x y H Q => ∃ z i c, x = .str z /\ y = .int i /\ z.length <= sizeLine /\ atI z.cps.toList i = some c /\ Q (.str ⟨#[c]⟩) H
theorem ix_list : IxR X (rIxL X.K) := by
  intro value slice pins s σ H x y v u Q I rx ry h hs
  obtain ⟨p, xs, i, z, rfl, rfl, hq, he, q⟩ := h
  cases rx
  obtain ⟨t, rfl⟩ := ry
  obtain ⟨its, r, pl, hz⟩ := I.list hq
  obtain ⟨j, h1, h2, h3, h4, h5⟩ := atI_get he
  obtain ⟨w, ew, rw'⟩ := r.get h2
  have hl := r.length
  have hn := line63
  have fin : EP X pins σ Q w s := ⟨z, H, I, rw', q⟩
  by_cases h0 : 0 <= i
  · have hj : i.toNat = j := by
      rw [seqIndex_of h0 h5] at h1
      exact Option.some.inj h1
    exact item_listR pl.isList h0 (by omega) (by rw [hj]; simpa using ew) fin hs
  · have hj : (i + (its.toArray.size : Int)).toNat = j := by
      rw [seqIndex_neg (by omega) h4] at h1
      rw [List.size_toArray, <- hl]
      exact Option.some.inj h1
    exact subscriptTail_builtinR (x := w) pl.isList.typeIs slot_list_getitem.lookup
      (wpAny_getItem_list_neg (Q := fun r s' => r = w /\ EP X pins σ Q r s') pl.isList (by omega) (by rw [List.size_toArray] <;> omega) (by omega) (by rw [hj]; simpa using ew) ⟨rfl, fin⟩) hs
theorem ix_tup : IxR X (rIxT X.K) := by
  intro value slice pins s σ H x y v u Q I rx ry h hs
  obtain ⟨p, xs, i, z, rfl, rfl, hq, he, q⟩ := h
  cases rx
  obtain ⟨t, rfl⟩ := ry
  obtain ⟨its, r, pl, hz⟩ := I.tuple hq
  obtain ⟨j, h1, h2, h3, h4, h5⟩ := atI_get he
  obtain ⟨w, ew, rw'⟩ := r.get h2
  have hl := r.length
  have hn := line63
  have fin : EP X pins σ Q w s := ⟨z, H, I, rw', q⟩
  exact subscriptTail_builtinR (x := w) pl.typeIs slot_tuple_getitem.lookup
    (getItem_tuple (j := j) (Q := fun r s' => r = w /\ EP X pins σ Q r s') pl (by omega) (by omega) (by rw [List.size_toArray, <- hl]; exact h1) (by simpa using ew) ⟨rfl, fin⟩) hs
theorem ix_str : IxR X rIxS := by
  intro value slice pins s σ H x y v u Q I rx ry h hs
  obtain ⟨z, i, c, rfl, rfl, hz, he, q⟩ := h
  obtain ⟨t, rfl⟩ := rx
  obtain ⟨t', rfl⟩ := ry
  obtain ⟨j, h1, h2, h3, h4, h5⟩ := atI_get he
  have hl : z.cps.toList.length = z.length := by simp [Str.length]
  rw [hl] at h1 h4 h5
  have hn := line63
  exact tail_any (typeIs_str s z t) slot_str_getitem.lookup (getItem_str (c := c) (by
    have e1 : decide (i < -(2 ^ 63 : Int)) = false := decide_eq_false (by omega)
    have e2 : decide (i >= 2 ^ 63) = false := decide_eq_false (by omega)
    rw [e1, e2, Bool.or_false]) (by rw [h1]; simpa using h2) ⟨.str ⟨#[c]⟩, H, I.tok _, ⟨_, rfl⟩, q⟩) hs
noncomputable def rIx (K : PySem.W.Frag) : R2 := fun x y H Q => rIxL K x y H Q \/ rIxT K x y H Q \/ rIxS x y H Q
theorem ix_seq : IxR X (rIx X.K) := ix_list.or (ix_tup.or ix_str)
theorem call_len_seq : CallR X (.builtin "len") (fun xs H Q => ∃ p ys, xs = [.ref p] /\ (SqL X.K H p ys \/ SqT X.K H p ys) /\ Q (.int ys.length) H) := by
  intro pins s σ H xs us Q I r h
  obtain ⟨p, ys, rfl, hq, q⟩ := h
  obtain ⟨u, rfl, rx⟩ := vals1 r
  cases rx
  have hn := line63
  rcases hq with hq | hq
  · obtain ⟨its, r', pl, hz⟩ := I.list hq
    have hlen := r'.length
    exact Calls.call_len_list pl.isList (by simp only [List.size_toArray] <;> omega) ⟨.int ys.length, H, I.tok _, ⟨s.toks + 1, by rw [List.size_toArray, hlen]⟩, q⟩
  · obtain ⟨its, r', pl, hz⟩ := I.tuple hq
    have hlen := r'.length
    exact len_tuple pl (by simp only [List.size_toArray] <;> omega) ⟨.int ys.length, H, I.tok _, ⟨s.toks + 1, by rw [List.size_toArray, hlen]⟩, q⟩
theorem call_len_str : CallR X (.builtin "len") (fun xs H Q => ∃ z, xs = [.str z] /\ z.length <= sizeLine /\ Q (.int z.length) H) := by
  intro pins s σ H xs us Q I r h
  obtain ⟨z, rfl, hz, q⟩ := h
  obtain ⟨u, rfl, t, rfl⟩ := vals1 r
  have hn := line63
  exact len_str (by omega) ⟨.int z.length, H, I.tok _, ⟨_, rfl⟩, q⟩
theorem CallR.or {f : Value} {r r' : List V -> Hp -> VK -> Prop} (h : CallR X f r) (h' : CallR X f r') : CallR X f (fun xs H Q => r xs H Q \/ r' xs H Q) := by
  intro pins s σ H xs us Q I rs q
  rcases q with q | q
  · exact h pins s σ H xs us Q I rs q
  · exact h' pins s σ H xs us Q I rs q
theorem call_tuple_of : CallR X (.type "tuple") (fun xs H Q => ∃ p ys, xs = [.ref p] /\ ((SqL X.K H p ys /\ ∀ l, H l = none -> Q (.ref l) (upd H l (.tup ys))) \/ (SqT X.K H p ys /\ Q (.ref p) H))) := by
  intro pins s σ H xs us Q I r h
  obtain ⟨p, ys, rfl, h⟩ := h
  obtain ⟨u, rfl, rx⟩ := vals1 r
  cases rx
  rcases h with ⟨hq, q⟩ | ⟨hq, q⟩
  · obtain ⟨its, r', pl, hz⟩ := I.list hq
    have hlen := r'.length
    refine call_tuple_list pl.isList (fun h' kp => ?_) (by simp only [List.size_toArray] <;> omega)
    have I1 : Inv X pins σ H { s with heap := h' } := I.kept (t' := s.toks) kp
    have I2 : Inv X pins σ (upd H h'.objs.size (.tup ys)) { s with heap := h'.push { cls := .type "tuple", data := .seq its.toArray } } :=
      I1.laid (t' := s.toks) (fun b o e => Heap.get?_push_of_some _ e) (Nat.le_refl _) (show ObjOk X.prog X.w _ _ _ (.tup ys) from ⟨hz, its, r', TupN.new _ _⟩)
    exact ⟨.ref h'.objs.size, _, I2, rfl, q _ (I1.hok.fresh (Nat.le_refl _))⟩
  · obtain ⟨its, r', pl, hz⟩ := I.tuple hq
    exact call_tuple_same pl ⟨.ref p, H, I, rfl, q⟩
noncomputable def tyV (K : PySem.W.Frag) (T : String) (x : V) (H : Hp) : Prop := match x with
  | .str _ => T = "str"
  | .int _ => T = "int"
  | .ref p => (T = "list" /\ ∃ xs, SqL K H p xs) \/ (T = "tuple" /\ ∃ o, K.lookup p = some o /\ o.cls = .type "tuple" /\ o.dict = none) \/
      (T = "dict" /\ ((∃ kvs, H p = some (.dK kvs)) \/ ∃ kvs, H p = some (.dT kvs))) \/ (T = "set" /\ ∃ S n, H p = some (.set S n))
  | _ => False
theorem tyV_is {pins : List (Addr × Obj)} {σ : St} {H : Hp} {s : Shared} {T : String} {x : V} {v : Value} (I : Inv X pins σ H s) (r : RelV x v) (ty : tyV X.K T x H) :
    s.TypeIs v T /\ ∀ a, v = .ref a -> ∃ ob, s.heap.get? a = some ob /\ ob.dict = none := by
  cases x with
  | str z =>
    obtain ⟨t, rfl⟩ := r
    cases (show T = "str" from ty)
    exact ⟨typeIs_str s z t, fun _ e => nomatch e⟩
  | int i =>
    obtain ⟨t, rfl⟩ := r
    cases (show T = "int" from ty)
    exact ⟨typeIs_int s i t, fun _ e => nomatch e⟩
  | ref p =>
    cases r
    rcases ty with ⟨rfl, xs, hq⟩ | ⟨rfl, o, hk, hc, hd⟩ | ⟨rfl, hk⟩ | ⟨rfl, S, n, hk⟩
    · obtain ⟨its, _, pl, _⟩ := I.list hq
      refine ⟨pl.isList.typeIs, fun a e => ?_⟩
      cases e
      obtain ⟨o, n, e, c, hd, _⟩ := pl
      exact ⟨o, e, hd⟩
    · refine ⟨⟨o, I.kIn p o hk, hc⟩, fun a e => ?_⟩
      cases e
      exact ⟨o, I.kIn _ o hk, hd⟩
    · have z : ∃ o, s.heap.get? p = some o /\ o.ExactDict := by
        rcases hk with ⟨kvs, hk⟩ | ⟨kvs, hk⟩
        · obtain ⟨_, _, _, _, o, _, _, e, ex, _⟩ := I.hok p _ hk
          exact ⟨o, e, ex⟩
        · obtain ⟨_, _, _, _, o, _, _, e, ex, _⟩ := I.hok p _ hk
          exact ⟨o, e, ex⟩
      obtain ⟨o, e, ex⟩ := z
      refine ⟨⟨o, e, ex.1⟩, fun a e2 => ?_⟩
      cases e2
      exact ⟨o, e, ex.2.1⟩
    · obtain ⟨o, _, _, _, e, ex, _⟩ := I.hok p _ hk
      refine ⟨⟨o, e, ex.1⟩, fun a e2 => ?_⟩
      cases e2
      exact ⟨o, e, ex.2.1⟩
  | _ => exact False.elim ty
noncomputable def tBM (K : PySem.W.Frag) (T : String) (r : V -> List V -> Hp -> VK -> Prop) (to : TE) (t : TA) : TE := fun σ H Q => to σ H fun x H1 => tyV K T x H1 /\ t σ H1 fun xs H2 => r x xs H2 Q
variable {o e : Expr} {es : List Expr} {to : TE} {t : TA} {name : Str} {apos cpos : Pos} {T id : String} {r : V -> List V -> Hp -> VK -> Prop}
theorem pe_bm (pa : PlainAttrs T) (slot : Slot T name id) (hty : typeOf (.builtin id) = pure (.type "method_descriptor")) (hm : MtR X id r) (ho : PE X o to) (ha : PA X (e :: es) t)
    (hbase : attributeBase o name X.env (eval o X.env) = eval o X.env := by rfl)
    (hfew : ((backTo cpos (starEach (e :: es) X.env)).all (fun x => !x.1) && (backToKw cpos (keywordEach [] X.env)).all (fun x => x.1.isSome)
      && decide ((e :: es).length + ([] : List Keyword).length + (if ([] : List Keyword).isEmpty then 0 else 1) < 30)) = true := by rfl)
    (hline : (apos.endLine == cpos.line) = true := by rfl) (hs : starEach (e :: es) X.env = (false, eval e X.env) :: starEach es X.env := by rfl) (hplain : (backTo cpos (starEach es X.env)).any (·.1) = false := by rfl) :
    PE X (.Call (.Attribute o name apos) (e :: es) [] cpos) (tBM X.K T r to t) := by
  intro pins s σ H Q I h
  refine wpAny_Call_method_late hbase hfew hline rfl (thn (ho pins s σ H _ I h) fun v s1 ⟨x, H1, I1, r1, ty, q1⟩ => ?_)
  obtain ⟨h1, h2⟩ := tyV_is I1 r1 ty
  refine ⟨T, id, pa, slot, hty, h1, h2, ?_⟩
  have hA := ha cpos pins s1 σ H1 _ I1 q1
  rw [hs] at hA ⊢
  refine Calls.callWith_builtin (by show (false || (backTo cpos (starEach es X.env)).any (·.1)) = false; rw [hplain] <;> rfl) (Calls.evalArgs_plain ?_)
  exact thn hA fun us s2 ⟨vs, H2, I2, r2, q2⟩ => hm pins s2 σ H2 x vs v us Q I2 r1 r2 q2
end
end L2
namespace L2
open PySem PySem.Spec PyProof.Rows
noncomputable def MtM (X : Cx) (id : String) (r : V -> List V -> Hp -> VK -> Prop) : Prop :=
  ∀ (pins : List (Addr × Obj)) (s : Shared) (σ : St) (H : Hp) (x : V) (xs : List V) (v : Value) (us : List Value) (Q : VK), Inv X pins σ H s -> RelV x v -> Vals xs us -> r x xs H Q ->
    wpAny (model X.prog X.w) X.A (call (.builtin id) (v :: us)) (EP X pins σ Q) X.xe s
theorem Vals.one : ∀ {x : V} {us : List Value}, Vals [x] us -> ∃ u, us = [u] /\ RelV x u
  | _, _, .cons r .nil => ⟨_, rfl, r⟩
theorem Vals.rep {xs : List V} {us : List Value} (h : Vals xs us) : ∀ k : Nat, Vals (List.replicate k xs).flatten (List.replicate k us).flatten
  | 0 => .nil
  | k + 1 => by
    rw [List.replicate_succ, List.replicate_succ, List.flatten_cons, List.flatten_cons]
    exact Vals.append h (Vals.rep h k)
theorem foldl_rep (its : List Value) : ∀ (k : Nat) (acc : List Value),
    List.foldl (fun x1 x2 => x1 ++ x2) acc.toArray (List.replicate k its.toArray) = (acc ++ (List.replicate k its).flatten).toArray
  | 0, acc => by simp
  | k + 1, acc => by
    have e : acc.toArray ++ its.toArray = (acc ++ its).toArray := by simp
    have e2 : (acc ++ its) ++ (List.replicate k its).flatten = acc ++ (List.replicate (k + 1) its).flatten := by
      rw [List.replicate_succ, List.flatten_cons, List.append_assoc]
    rw [<- e2, <- foldl_rep its k (acc ++ its), <- e, List.replicate_succ, List.foldl_cons]
section
variable {X : Cx} {pins : List (Addr × Obj)} {σ : St} {H : Hp} {s : Shared} {l b : Addr} {xs ys zs : List V}
theorem Inv.lset {its its' : List Value} {n : Nat} {f : Array Value -> Array Value} {t' : Nat} (I : Inv X pins σ H s) (hH : H l = some (.lst xs))
    (e : s.heap.get? l = some { cls := .type "list", data := .seq its.toArray n }) (hf : f its.toArray = its'.toArray) (hv : Vals ys its') (hz : ys.length <= sizeLine) :
    Inv X pins σ (upd H l (.lst ys)) { s with heap := s.heap.update l (Obj.mapSeq f), toks := t' } := by
  have q := PySem.IsL.update e f
  rw [hf] at q
  refine I.write (x := l) (e := l) (by rw [hH]; exact trivial) (.inl rfl) (fun b' u hb hu => (Heap.get?_update_other s.heap (Obj.mapSeq f) (Ne.symm hb)).trans hu) ⟨_, q⟩ ?_
  exact ⟨hz, its', _, hv, q⟩
theorem Inv.lnew {its : List Value} {t' : Nat} (I : Inv X pins σ H s) (hv : Vals ys its) (hz : ys.length <= sizeLine) :
    Inv X pins σ (upd H s.heap.objs.size (.lst ys)) { s with heap := s.heap.push { cls := .type "list", data := .seq its.toArray }, toks := t' } :=
  I.laid (fun _ _ q => Heap.get?_push_of_some _ q) (Nat.le_refl _) ⟨hz, its, 0, hv, Heap.get?_push_size _ rfl⟩
theorem Inv.fresh (I : Inv X pins σ H s) : H s.heap.objs.size = none := I.hok.fresh (Nat.le_refl _)
theorem Inv.lstM (I : Inv X pins σ H s) (hH : H l = some (.lst xs)) : xs.length <= sizeLine /\ ∃ (its : List Value) (n : Nat), Vals xs its /\ xs.length = its.length /\ s.heap.get? l = some { cls := .type "list", data := .seq its.toArray n } := by
  obtain ⟨z, its, n, r, e⟩ := I.hok l _ hH
  exact ⟨z, its, n, r, r.length, e⟩
theorem notLongL {n : Nat} (h : n <= sizeLine) : Builtin.List.listTooLong n = false := by
  unfold Builtin.List.listTooLong
  exact decide_eq_false (by omega)
end
section
variable {X : Cx}
noncomputable def rAppend : V -> List V -> Hp -> VK -> Prop := fun x vs H Q => ∃ l xs y, x = .ref l /\ vs = [y] /\ H l = some (.lst xs) /\ xs.length < sizeLine /\ Q .non (upd H l (.lst (xs ++ [y])))
theorem mt_append : MtM X "list.append" rAppend := by
  intro pins s σ H x vs v us Q I rx rv h
  obtain ⟨l, xs, y, rfl, rfl, hH, hz, q⟩ := h
  cases rx
  obtain ⟨u, rfl, ru⟩ := rv.one
  obtain ⟨z, its, n, r, hl, e⟩ := I.lstM hH
  refine call_meets F.slot_list_append ⟨_, e, rfl⟩ F.entry_list_append (F.args_list_append_2 _ _) (PySem.list_append l its.toArray n u (by rw [List.size_toArray]; omega)) ⟨e, ?_⟩
  refine ⟨.non, _, I.lset (its' := its ++ [u]) hH e (by simp) (r.append (.cons ru .nil)) ?_, rfl, q⟩
  rw [List.length_append, List.length_singleton]
  omega
noncomputable def rCat : R2 := fun x y H Q => ∃ l b xs zs, x = .ref l /\ y = .ref b /\ H l = some (.lst xs) /\ H b = some (.lst zs) /\ xs.length + zs.length <= sizeLine /\ ∀ p, H p = none -> Q (.ref p) (upd H p (.lst (xs ++ zs)))
theorem op_cat : OpR X (binaryOp .Add) rCat := by
  intro pins s σ H x y v u Q I rx ry h
  obtain ⟨l, b, xs, zs, rfl, rfl, hH, hB, hz, q⟩ := h
  cases rx
  cases ry
  obtain ⟨z, its, n, r, hl, e⟩ := I.lstM hH
  obtain ⟨z2, its2, n2, r2, hl2, e2⟩ := I.lstM hB
  refine PySem.P.add_list e e2 ?_ (by rw [List.size_toArray, List.size_toArray]; omega)
  have ea : its.toArray ++ its2.toArray = (its ++ its2).toArray := by simp
  rw [ea]
  exact ⟨.ref _, _, I.lnew (t' := s.toks) (r.append r2) (by rw [List.length_append]; omega), rfl, q _ I.fresh⟩
noncomputable def rRep : R2 := fun x y H Q => ∃ l k xs, x = .ref l /\ y = .int k /\ H l = some (.lst xs) /\ -(2 ^ 63) <= k /\ k < 2 ^ 63 /\ xs.length * k.toNat <= sizeLine /\
  ∀ p, H p = none -> Q (.ref p) (upd H p (.lst (List.replicate k.toNat xs).flatten))
theorem len_rep {α : Type} (xs : List α) (k : Nat) : (List.replicate k xs).flatten.length = k * xs.length := by
  induction k with
  | zero => simp
  | succ k ih => rw [List.replicate_succ, List.flatten_cons, List.length_append, ih, Nat.succ_mul, Nat.add_comm]
theorem op_rep : OpR X (binaryOp .Mult) rRep := by
  intro pins s σ H x y v u Q I rx ry h
  obtain ⟨l, k, xs, rfl, rfl, hH, h1, h2, hz, q⟩ := h
  cases rx
  obtain ⟨t, rfl⟩ := ry
  obtain ⟨z, its, n, r, hl, e⟩ := I.lstM hH
  have hlen : its.toArray.size * k.toNat <= sizeLine := by rw [List.size_toArray, <- hl]; exact hz
  have hcap : ¬ its.toArray.size * k.toNat > (2 ^ 63 - 1) / 8 := by
    have : (sizeLine : Nat) <= (2 ^ 63 - 1) / 8 := by decide
    omega
  have hfit : ¬ (!Builtin.List.listFitsIndex k) = true := by
    rw [fitsIndex_both h1 h2]
    exact Bool.false_ne_true
  have hlong : ¬ Builtin.List.listTooLong (its.toArray.size * k.toNat) = true := by
    rw [notLongL hlen]
    exact Bool.false_ne_true
  have hnew : List.foldl (fun x1 x2 => x1 ++ x2) #[] (List.replicate (if its.toArray.isEmpty = true then 0 else k.toNat) its.toArray) = (List.replicate k.toNat its).flatten.toArray := by
    have f0 : ∀ m : Nat, List.foldl (fun x1 x2 => x1 ++ x2) #[] (List.replicate m its.toArray) = (List.replicate m its).flatten.toArray := fun m => by
      have := foldl_rep its m []
      rw [List.nil_append] at this
      exact this
    rw [f0]
    cases its with
    | nil => simp
    | cons a r' => rw [if_neg (by simp)]
  refine wpAny_binaryOp_repeat_ref (T := "list") (U := "int") (by decide) ⟨_, e, rfl⟩ (fun s' => typeIs_int s' k t) noFill_list_mul F.fills_int_mul F.slot_int_rmul repeat_list F.slot_int_index.lookup
    (call_meets F.slot_int_rmul (typeIs_int s k t) F.entry_int_rmul (F.args_int_rmul_2 _ _) (int___rmul___int_list k t l its.toArray n)
      ⟨e, rfl, ⟨_, e, rfl⟩, call_meets F.slot_list_mul ⟨_, e, rfl⟩ F.entry_list_mul (F.args_list_mul_2 _ _) (AutoListH.list___mul___list_int_3 l its.toArray n k t hfit hcap hlong) ⟨e, ?_⟩⟩)
  rw [hnew]
  exact ⟨.ref _, _, I.lnew (t' := s.toks) (r.rep k.toNat) (by rw [len_rep, Nat.mul_comm]; exact hz), rfl, q _ I.fresh⟩
end
section
variable {prog : Program} {w : World} {A : Around} {E : Value -> Shared -> Prop} {s : Shared}
end
section
variable {X : Cx}
end
end L2
set_option maxRecDepth 100000
namespace L2
open PySem PySem.Spec PyProof.Rows
section
variable {κ : Type} [DecidableEq κ]
noncomputable def valV (kvs : List (κ × V)) (k : κ) : Option V := (kvs.find? fun kv => decide (kv.1 = k)).map (·.2)
noncomputable def putK (kvs : List (κ × V)) (k : κ) (v : V) : List (κ × V) :=
  if (kvs.any fun kv => decide (kv.1 = k)) = true then kvs.map (fun kv => if kv.1 = k then (kv.1, v) else kv) else kvs ++ [(k, v)]
theorem valV_pos {p : κ × V} {r : List (κ × V)} {k : κ} (e : p.1 = k) : valV (p :: r) k = some p.2 := by simp [valV, List.find?_cons, e]
theorem valV_neg {p : κ × V} {r : List (κ × V)} {k : κ} (e : ¬ p.1 = k) : valV (p :: r) k = valV r k := by simp [valV, List.find?_cons, e]
theorem valV_any (k : κ) : ∀ kvs : List (κ × V), (kvs.any fun kv => decide (kv.1 = k)) = (valV kvs k).isSome
  | [] => rfl
  | p :: r => by
    rw [List.any_cons]
    by_cases e : p.1 = k
    · simp only [valV_pos e, decide_eq_true e, Bool.true_or, Option.isSome_some]
    · rw [valV_neg e, decide_eq_false e, Bool.false_or]; exact valV_any k r
theorem length_putK (kvs : List (κ × V)) (k : κ) (v : V) : (putK kvs k v).length <= kvs.length + 1 := by
  unfold putK
  split
  · rw [List.length_map]; omega
  · rw [List.length_append, List.length_cons, List.length_nil]; omega
theorem RelO.isSome_eq {o : Option V} {u : Option Value} (r : RelO o u) : o.isSome = u.isSome := by
  cases o with
  | none => cases u with
    | none => rfl
    | some _ => exact (show False from r).elim
  | some _ => cases u with
    | none => exact (show False from r).elim
    | some _ => rfl
theorem RelO.getD {o : Option V} {u : Option Value} {d : V} {d' : Value} (r : RelO o u) (rd : RelV d d') : RelV (o.getD d) (u.getD d') := by
  cases o with
  | none => cases u with
    | none => exact rd
    | some _ => exact (show False from r).elim
  | some _ => cases u with
    | none => exact (show False from r).elim
    | some _ => exact r
theorem KV.val {kvs : List (κ × V)} {vs : List (κ × Value)} (r : KV kvs vs) (k : κ) : RelO (valV kvs k) (valueAt vs k) := by
  unfold KV at r
  induction r with
  | nil => exact True.intro
  | @cons p q ps qs h t ih =>
    obtain ⟨h1, h2⟩ := h
    by_cases e : p.1 = k
    · have e' : q.1 = k := h1.symm.trans e
      have b : valueAt (q :: qs) k = some q.2 := by simp [valueAt, List.find?_cons, e']
      rw [valV_pos e, b]; exact h2
    · have e' : ¬ q.1 = k := fun z => e (h1.trans z)
      have b : valueAt (q :: qs) k = valueAt qs k := by simp [valueAt, List.find?_cons, e']
      rw [valV_neg e, b]; exact ih
theorem KV.any {kvs : List (κ × V)} {vs : List (κ × Value)} (r : KV kvs vs) (k : κ) : (kvs.any fun kv => decide (kv.1 = k)) = vs.any fun kv => decide (kv.1 = k) := by
  unfold KV at r
  induction r with
  | nil => rfl
  | cons h t ih => rw [List.any_cons, List.any_cons, ih, h.1]
theorem KV.repl {kvs : List (κ × V)} {vs : List (κ × Value)} (r : KV kvs vs) (k : κ) {y : V} {u : Value} (ry : RelV y u) :
    KV (kvs.map fun kv => if kv.1 = k then (kv.1, y) else kv) (vs.map fun kv => if kv.1 = k then (kv.1, u) else kv) := by
  unfold KV at r ⊢
  induction r with
  | nil => exact .nil
  | @cons p q ps qs h t ih =>
    rw [List.map_cons, List.map_cons]
    refine .cons ?_ ih
    obtain ⟨h1, h2⟩ := h
    by_cases e : p.1 = k
    · rw [if_pos e, if_pos (h1.symm.trans e)]; exact ⟨h1, ry⟩
    · rw [if_neg e, if_neg (fun z => e (h1.trans z))]; exact ⟨h1, h2⟩
theorem KV.put {kvs : List (κ × V)} {vs : List (κ × Value)} (r : KV kvs vs) (k : κ) {y : V} {u : Value} (ry : RelV y u) : KV (putK kvs k y) (stored vs k u) := by
  unfold putK stored
  rw [r.any k]
  by_cases e : (vs.any fun kv => decide (kv.1 = k)) = true
  · rw [if_pos e, if_pos e]; exact r.repl k ry
  · rw [if_neg e, if_neg e]; exact Paired.snoc r ⟨rfl, ry⟩
theorem KV.length {kvs : List (κ × V)} {vs : List (κ × Value)} (r : KV kvs vs) : kvs.length = vs.length := Paired.length r
end
theorem kV_is {P : Program} {w : World} {k : Key} {u : Value} (r : RelV (kV k) u) : (mixKind P w).is k u = true := by
  cases k with
  | inl i => obtain ⟨t, e⟩ := (show ∃ t, u = Value.int i t from r); subst e; exact mixKind_int P w i t
  | inr x => obtain ⟨t, e⟩ := (show ∃ t, u = Value.str x t from r); subst e; exact mixKind_str P w x t
  | non => cases (show u = Value.none from r); exact mixKind_non P w
theorem items_are {P : Program} {w : World} : ∀ {ks : List Key} {us : List Value}, Vals (ks.map kV) us -> ItemsAre (mixKind P w) ks us
  | [], _, r => by rw [List.map_nil] at r; cases r; exact .nil
  | k :: ks, _, r => by
    rw [List.map_cons] at r
    cases r with
    | cons h t => exact .cons (kV_is h) (items_are t)
noncomputable abbrev KT (H : Hp) : List (List Key × V) -> List (List Key × Addr × Value) -> Prop := Paired fun p q => p.1 = q.1 /\ H q.2.1 = some (.tup (p.1.map kV)) /\ RelV p.2 q.2.2
theorem KT.val {H : Hp} {kvs : List (List Key × V)} {xs : List (List Key × Addr × Value)} (r : KT H kvs xs) (k : List Key) : RelO (valV kvs k) ((atKey xs k).map (·.2)) := by
  induction r with
  | nil => exact True.intro
  | @cons p q ps qs h t ih =>
    obtain ⟨h1, _, h2⟩ := h
    by_cases e : p.1 = k
    · have e' : q.1 = k := h1.symm.trans e
      have b : atKey (q :: qs) k = some q.2 := by simp [atKey, List.find?_cons, e']
      rw [valV_pos e, b]; exact h2
    · have e' : ¬ q.1 = k := fun z => e (h1.trans z)
      have b : atKey (q :: qs) k = atKey qs k := by simp [atKey, List.find?_cons, e']
      rw [valV_neg e, b]; exact ih
theorem KT.repl {H : Hp} {kvs : List (List Key × V)} {xs : List (List Key × Addr × Value)} (r : KT H kvs xs) (k : List Key) {y : V} {u : Value} (ry : RelV y u) :
    KT H (kvs.map fun kv => if kv.1 = k then (kv.1, y) else kv) (xs.map (putAt k u)) := by
  induction r with
  | nil => exact .nil
  | @cons p q ps qs h t ih =>
    rw [List.map_cons, List.map_cons]
    refine .cons ?_ ih
    obtain ⟨h1, h2, h3⟩ := h
    unfold putAt
    by_cases e : p.1 = k
    · rw [if_pos e, if_pos (h1.symm.trans e)]; exact ⟨h1, h2, ry⟩
    · rw [if_neg e, if_neg (fun z => e (h1.trans z))]; exact ⟨h1, h2, h3⟩
theorem KT.put {H : Hp} {kvs : List (List Key × V)} {xs : List (List Key × Addr × Value)} (r : KT H kvs xs) (k : List Key) {b : Addr} {y : V} {u : Value} (hb : H b = some (.tup (k.map kV))) (ry : RelV y u) :
    KT H (putK kvs k y) (storedH xs k b u) := by
  have e : (kvs.any fun kv => decide (kv.1 = k)) = (atKey xs k).isSome := by
    rw [valV_any, (r.val k).isSome_eq, Option.isSome_map]
  unfold putK storedH
  rw [e]
  by_cases q : (atKey xs k).isSome = true
  · rw [if_pos q, if_pos q]; exact r.repl k ry
  · rw [if_neg q, if_neg q]; exact Paired.snoc r ⟨rfl, hb, ry⟩
theorem KT.keeps {H H' : Hp} {kvs : List (List Key × V)} {xs : List (List Key × Addr × Value)} (r : KT H kvs xs) (ht : ∀ b ys, H b = some (.tup ys) -> H' b = some (.tup ys)) : KT H' kvs xs :=
  Paired.mapP r fun _ _ z => ⟨z.1, ht _ _ z.2.1, z.2.2⟩
section
variable {P : Program} {w : World} {H : Hp} {h : Heap} {a : Addr}
theorem rd_of {u : HO} (ok : HOk P w H h) (e : Rd H a u) : ObjOk P w H h a u := e.ok ok
theorem dk_rd {kvs : List (Key × V)} (ok : HOk P w H h) (e : Rd H a (.dK kvs)) : kvs.length <= sizeLine /\ (a == sysModules) = false /\ ∃ vs, KV kvs vs /\ h.DictOf (mixKind P w) a vs :=
  show ObjOk P w H h a (.dK kvs) from rd_of ok e
theorem dk_of {kvs : List (Key × V)} (ok : HOk P w H h) (e : H a = some (.dK kvs)) : kvs.length <= sizeLine /\ (a == sysModules) = false /\ ∃ vs, KV kvs vs /\ h.DictOf (mixKind P w) a vs := dk_rd ok (.inl e)
theorem key_of {ks : List Key} (ok : HOk P w H h) (e : H a = some (.tup (ks.map kV))) : (tupleKind (mixKind P w)).is h ks a := by
  obtain ⟨_, its, r, o, h1, h2, _, n, h3⟩ := (show ObjOk P w H h a (.tup (ks.map kV)) from ok a _ e)
  exact ⟨o, its.toArray, n, h1, h2, h3, by simpa using items_are r⟩
theorem dt_rd {kvs : List (List Key × V)} (ok : HOk P w H h) (e : Rd H a (.dT kvs)) : kvs.length <= sizeLine /\ (a == sysModules) = false /\
    ∃ xs, KT H kvs xs /\ h.DictOfH (tupleKind (mixKind P w)) a xs := by
  obtain ⟨z, y, xs, r, o, es, ep, h1, h2, h3, h4, h5⟩ := (show ObjOk P w H h a (.dT kvs) from rd_of ok e)
  refine ⟨z, y, xs, r, o, es, ep, h1, h2, h3, h4, fun x hx => ?_, h5⟩
  have all : ∀ {l : List (List Key × V)} {m : List (List Key × Addr × Value)}, KT H l m -> ∀ x ∈ m, (tupleKind (mixKind P w)).is h x.1 x.2.1 := by
    intro l m q
    induction q with
    | nil => intro x hx; exact nomatch hx
    | @cons p q ps qs hq t ih =>
      intro x hx
      rcases List.mem_cons.mp hx with e | hx
      · subst e
        exact key_of ok (by rw [<- hq.1]; exact hq.2.1)
      · exact ih x hx
  exact all r x hx
theorem dt_of {kvs : List (List Key × V)} (ok : HOk P w H h) (e : H a = some (.dT kvs)) : kvs.length <= sizeLine /\ (a == sysModules) = false /\
    ∃ xs, KT H kvs xs /\ h.DictOfH (tupleKind (mixKind P w)) a xs := dt_rd ok (.inl e)
end
noncomputable def DGet (H : Hp) (a : Addr) (y : V) (r : Option V) : Prop :=
  (∃ kvs k, Rd H a (.dK kvs) /\ y = kV k /\ r = valV kvs k) \/ ∃ kvs k b, Rd H a (.dT kvs) /\ y = .ref b /\ H b = some (.tup (k.map kV)) /\ r = valV kvs k
noncomputable def DPut (H : Hp) (a : Addr) (y v : V) (H' : Hp) : Prop :=
  (∃ kvs k, H a = some (.dK kvs) /\ y = kV k /\ kvs.length < sizeLine /\ H' = upd H a (.dK (putK kvs k v))) \/
  ∃ kvs k b, H a = some (.dT kvs) /\ y = .ref b /\ H b = some (.tup (k.map kV)) /\ kvs.length < sizeLine /\ H' = upd H a (.dT (putK kvs k v))
theorem DGet.k {H : Hp} {a : Addr} {kvs : List (Key × V)} {k : Key} (e : H a = some (.dK kvs)) : DGet H a (kV k) (valV kvs k) := .inl ⟨kvs, k, .inl e, rfl, rfl⟩
theorem DPut.k {H : Hp} {a : Addr} {kvs : List (Key × V)} {k : Key} {v : V} (e : H a = some (.dK kvs)) (hl : kvs.length < sizeLine) : DPut H a (kV k) v (upd H a (.dK (putK kvs k v))) := .inl ⟨kvs, k, e, rfl, hl, rfl⟩
section
variable {X : Cx} {pins : List (Addr × Obj)} {σ : St} {H : Hp} {s : Shared} {a : Addr} {y v : V} {u r : Value} {o : Option V} {A : Around} {E : Value -> Shared -> Prop}
theorem Inv.big (I : Inv X pins σ H s) : sysModules < s.heap.objs.size := by
  have h : mainGlobals < s.heap.objs.size := (I.mod.glob.keeps I.bk).lt
  exact Nat.lt_trans (by decide) h
theorem d_getItem {Q : Value -> Shared -> Prop} (hu : A.units + 1 < cLine) (I : Inv X pins σ H s) (g : DGet H a y (some v)) (ry : RelV y u) (h : ∀ w' s', Inv X pins σ H s' -> RelV v w' -> Q w' s') :
    wpAny (model X.prog X.w) A (getItem (.ref a) u) Q E s := by
  rcases g with ⟨kvs, k, e, ey, l⟩ | ⟨kvs, k, b, e, ey, eb, l⟩
  · subst ey
    obtain ⟨z, hd, vs, rel, dd⟩ := dk_rd I.hok e
    obtain ⟨w', hw, rw'⟩ := RelO.some_of (v := v) (o := valueAt vs k) (by rw [l]; exact rel.val k)
    exact wpAny_getItem_of (kV_is ry) dd.mapOf hw (h w' _ (I.tok _) rw')
  · subst ey
    cases (show u = Value.ref b from ry)
    obtain ⟨z, hd, xs, rel, dd⟩ := dt_rd I.hok e
    obtain ⟨w', hw, rw'⟩ := RelO.some_of (v := v) (o := (atKey xs k).map (·.2)) (by rw [l]; exact rel.val k)
    obtain ⟨p, hp, hp2⟩ := Option.map_eq_some_iff.mp hw
    refine wpAny_getItem_heap (tupleKind_room_in1 hu) (key_of I.hok eb) dd hp ?_
    rw [hp2]
    exact h w' _ (I.tok _) rw'
theorem d_write {h' : Heap} {t' : Nat} {ob : HO} (I : Inv X pins σ H s) (mu : Mut (H a)) (hs : Heap.SameBut a s.heap h') (he : ∃ q, h'.get? a = some q) (new : ObjOk X.prog X.w (upd H a ob) h' a ob) :
    Inv X pins σ (upd H a ob) { s with heap := h', toks := t' } :=
  I.write (x := a) (e := a) mu (.inl rfl) (fun b q hb z => (hs.2 b hb).trans z) he new
theorem dk_new {P : Program} {w : World} {H' : Hp} {h' : Heap} {kvs : List (Key × V)} {vs : List (Key × Value)} (z : kvs.length <= sizeLine) (hd : (a == sysModules) = false) (rel : KV kvs vs) (dd : h'.DictOf (mixKind P w) a vs) :
    ObjOk P w H' h' a (.dK kvs) := ⟨z, hd, vs, rel, dd⟩
theorem d_setItem {H' : Hp} {Q : Unit -> Shared -> Prop} (hu : A.units + 1 < cLine) (I : Inv X pins σ H s) (g : DPut H a y v H') (ry : RelV y u) (rv : RelV v r) (h : ∀ s', Inv X pins σ H' s' -> Q () s') :
    wpAny (model X.prog X.w) A (setItem (.ref a) u r) Q E s := by
  rcases g with ⟨kvs, k, e, ey, l, eH⟩ | ⟨kvs, k, b, e, ey, eb, l, eH⟩
  · subst ey eH
    obtain ⟨z, hd, vs, rel, dd⟩ := dk_of I.hok e
    have hz : vs.length <= sizeLine := by rw [<- rel.length]; exact z
    have hl : (putK kvs k v).length <= sizeLine := by have := length_putK kvs k v; omega
    refine wpAny_setItem_pairs (hsz := hz) (kV_is ry) dd fun h' dd' hs => h _ ?_
    have he : ∃ q, h'.get? a = some q := let ⟨q, _, _, hq, _⟩ := dd'; ⟨q, hq⟩
    exact d_write I (by rw [e]; exact True.intro) hs he (dk_new hl hd (rel.put k rv) dd')
  · subst ey eH
    cases (show u = Value.ref b from ry)
    obtain ⟨z, hd, xs, rel, dd⟩ := dt_of I.hok e
    have hz : xs.length <= sizeLine := by rw [<- Paired.length rel]; exact z
    have hl : (putK kvs k v).length <= sizeLine := by have := length_putK kvs k v; omega
    refine wpAny_setItem_heap (hsz := hz) (tupleKind_room_in1 hu) (key_of I.hok eb) dd fun h' dd' hs => h _ ?_
    obtain ⟨q, es, ep, hq, h2, h3, h4, _, h5⟩ := dd'
    refine d_write I (by rw [e]; exact True.intro) hs ⟨q, hq⟩ ⟨hl, hd, _, (rel.put k eb rv).keeps fun c ys ec => ?_, q, es, ep, hq, h2, h3, h4, h5⟩
    rw [upd_ne (ne_of ec e (fun z => nomatch z))]
    exact ec
end
section
variable {X : Cx} {pins : List (Addr × Obj)} {σ : St} {H : Hp} {s : Shared} {a : Addr} {kvs : List (Key × V)} {k : Key} {u : Value} {A : Around} {E : Value -> Shared -> Prop}
theorem d_len {Q : Value -> Shared -> Prop} (I : Inv X pins σ H s) (e : Rd H a (.dK kvs)) (h : ∀ t s', Inv X pins σ H s' -> Q (.int kvs.length t) s') : wpAny (model X.prog X.w) A (call (.builtin "len") [.ref a]) Q E s := by
  obtain ⟨z, hd, vs, rel, dd⟩ := dk_rd I.hok e
  refine call_len_dict hd dd (by rw [<- rel.length]; rw [sizeLine_eq] at z; omega) ?_
  rw [<- rel.length]
  exact h _ _ (I.tok _)
end
noncomputable def NoSl (i : Expr) : Prop := ∀ ov iv, subscripted i false ov iv = operate [ov, iv] (getItem ov iv)
theorem subD_of {prog : Program} {w : World} {A : Around} {E : Value -> Shared -> Prop} {s : Shared} {env : Env} {value slice : Expr} {pos : Pos} {T id : String} {Q : Value -> Shared -> Prop}
    (hl : typeLookup (.type T) "__getitem__" = pure (some (.builtin id))) (hs : NoSl slice)
    (h : wpAny (model prog w) A (eval value env) (fun o s₁ => wpAny (model prog w) A (eval slice env) (fun i s₂ => s₂.TypeIs o T /\ wpAny (model prog w) A (getItem o i) Q E s₂) E s₁) E s) :
    wpAny (model prog w) A (eval (.Subscript value slice pos) env) Q E s := by
  refine Subscript_ (wpAny_mono h (fun o s₁ h₁ => wpAny_mono h₁ (fun i s₂ h₂ => ?_) fun _ _ x => x) fun _ _ x => x)
  obtain ⟨hT, h₂⟩ := h₂
  unfold subscriptTail
  refine wpAny_bind ?_
  rw [getitemInPython_of_ne hT.not_modules]
  refine wpAny_bind (wpAny_specialOf hT hl ?_)
  have fin : wpAny (model prog w) A (subscripted slice false o i) (fun r s₃ => wpAny (model prog w) A (letTemporaryGo value o r >>= fun _ => pure r) Q E s₃) E s₂ := by
    rw [hs o i]
    exact wpAny_operating (wpAny_mono h₂ (fun r s₃ h₃ => wpAny_bind (wpAny_letTemporaryGo (wpAny_pure h₃))) fun _ _ x => x)
  first
    | exact wpAny_pure (wpAny_bind fin)
    | exact wpAny_bind (wpAny_pure (wpAny_bind fin))
    | exact wpAny_bind fin
theorem dict_typeIs {X : Cx} {pins : List (Addr × Obj)} {σ : St} {H : Hp} {s : Shared} {a : Addr} {y : V} {o : Option V} (I : Inv X pins σ H s) (g : DGet H a y o) : s.TypeIs (.ref a) "dict" := by
  rcases g with ⟨kvs, k, e, _, _⟩ | ⟨kvs, k, b, e, _, _, _⟩
  · obtain ⟨_, _, vs, _, dd⟩ := dk_rd I.hok e
    exact dd.typeIs
  · obtain ⟨_, _, xs, _, dd⟩ := dt_rd I.hok e
    exact dd.typeIs
noncomputable def tDGet (td ty : TE) : TE := fun σ H Q => td σ H fun x H1 => ty σ H1 fun y H2 => ∃ a v, x = .ref a /\ DGet H2 a y (some v) /\ Q v H2
noncomputable def sDPut (td ty tv : TE) : TS := fun D σ H => tv σ H fun v H1 => td σ H1 fun x H2 => ty σ H2 fun y H3 => ∃ a H4, x = .ref a /\ DPut H3 a y v H4 /\ D.nx σ H4
section
variable {X : Cx} {o i e value : Expr} {pos pos' tpos : Pos} {td ty tv : TE}
theorem pe_dget (hu : X.A.units + 1 < cLine) (ho : PE X o td) (hi : PE X i ty) (hs : NoSl i) : PE X (.Subscript o i pos) (tDGet td ty) := by
  intro pins s σ H Q I h
  refine subD_of PySem.F.slot_dict_getitem.lookup hs (thn (ho pins s σ H _ I h) fun u s1 ⟨x, H1, I1, rx, q1⟩ => thn (hi pins s1 σ H1 _ I1 q1) fun iv s2 ⟨y, H2, I2, ry, a, v, ex, g, q2⟩ => ?_)
  subst ex
  obtain rfl : u = Value.ref a := rx
  exact ⟨dict_typeIs I2 g, d_getItem hu I2 g ry fun w' s3 I3 rw' => ⟨v, H2, I3, rw', q2⟩⟩
theorem ps_dput (hu : X.A.units + 1 < cLine) (ho : PE X o td) (hi : PE X i ty) (hv : PE X value tv) (hs : swapsWith value (some (.Subscript o i pos')) pos.line X.env = pure false) :
    PS X (.Assign [.Subscript o i pos'] value pos) (sDPut td ty tv) := by
  intro pins s σ H D I h
  refine wpAny_Assign_Subscript (thn (hv pins s σ H _ I h) fun r s1 ⟨v, H1, I1, rv, q1⟩ => thn (ho pins s1 σ H1 _ I1 q1) fun u s2 ⟨x, H2, I2, rx, q2⟩ => thn (hi pins s2 σ H2 _ I2 q2) fun iv s3 ⟨y, H3, I3, ry, a, H4, ex, g, q3⟩ => ?_) hs
  subst ex
  obtain rfl : u = Value.ref a := rx
  exact d_setItem hu I3 g ry rv fun s4 I4 => ⟨σ, H4, I4, q3⟩
end
theorem dk_empty {P : Program} {w : World} {H : Hp} (h : Heap) (hb : sysModules < h.objs.size) : ObjOk P w H (h.push { cls := .type "dict", data := .dict #[] }) h.objs.size (.dK []) :=
  ⟨Nat.zero_le _, beq_eq_false_iff_ne.mpr (Ne.symm (Nat.ne_of_lt hb)), [], .nil, Heap.DictOf.new h⟩
section
variable {X : Cx} {pos : Pos}
end
noncomputable def tPairs : List (TE × TE) -> St -> Hp -> (List (V × V) -> Hp -> Prop) -> Prop
  | [], _, H, Q => Q [] H
  | (tk, tv) :: r, σ, H, Q => tk σ H fun x H1 => tv σ H1 fun y H2 => tPairs r σ H2 fun ps H3 => Q ((x, y) :: ps) H3
noncomputable abbrev VV : List (V × V) -> List (Value × Value) -> Prop := Paired fun p q => RelV p.1 q.1 /\ RelV p.2 q.2
noncomputable def PPs (X : Cx) (pos : Pos) (keys : List (Option Expr)) (values : List Expr) (trs : List (TE × TE)) : Prop :=
  ∀ (pins : List (Addr × Obj)) (s : Shared) (σ : St) (H : Hp) (Q : List (V × V) -> Hp -> Prop), Inv X pins σ H s -> tPairs trs σ H Q ->
    wpAny (model X.prog X.w) X.A (evalPairs (pairTrees keys values X.env pos)) (fun vs s' => ∃ ps H', Inv X pins σ H' s' /\ VV ps vs /\ Q ps H') X.xe s
theorem pps_nil {X : Cx} {pos : Pos} : PPs X pos [] [] [] := fun pins s σ H Q I h => pairTrees_nil_walk ⟨[], H, I, .nil, h⟩
theorem pps_cons {X : Cx} {pos : Pos} {k v : Expr} {ks : List (Option Expr)} {vs : List Expr} {tk tv : TE} {trs : List (TE × TE)} (hk : PE X k tk) (hv : PE X v tv) (hr : PPs X pos ks vs trs) :
    PPs X pos (some k :: ks) (v :: vs) ((tk, tv) :: trs) := fun pins s σ H Q I h =>
  pairTrees_cons_walk (thn (hk pins s σ H _ I h) fun u s1 ⟨x, H1, I1, rx, q1⟩ => thn (hv pins s1 σ H1 _ I1 q1) fun w2 s2 ⟨y, H2, I2, ry, q2⟩ =>
    thn (hr pins s2 σ H2 _ I2 q2) fun ws s3 ⟨ps, H3, I3, rel, q3⟩ => ⟨(x, y) :: ps, H3, I3, .cons ⟨rx, ry⟩ rel, q3⟩)
noncomputable def mergeK (kvs more : List (Key × V)) : List (Key × V) := more.foldl (fun acc kv => putK acc kv.1 kv.2) kvs
theorem KV.merge : ∀ {more : List (Key × V)} {rs : List (Key × Value)} {kvs : List (Key × V)} {vs : List (Key × Value)}, KV more rs -> KV kvs vs -> KV (mergeK kvs more) (merged vs rs) := by
  intro more rs kvs vs r
  unfold KV at r
  induction r generalizing kvs vs with
  | nil => intro q; exact q
  | @cons p q ps qs h t ih =>
    intro r0
    have e : KV (putK kvs p.1 p.2) (stored vs q.1 q.2) := by
      have := r0.put p.1 h.2
      rw [<- h.1]; exact this
    exact ih e
theorem length_mergeK : ∀ (more kvs : List (Key × V)), (mergeK kvs more).length <= kvs.length + more.length
  | [], kvs => by show kvs.length <= kvs.length + 0; omega
  | p :: r, kvs => by
    have h1 := length_mergeK r (putK kvs p.1 p.2)
    have h2 := length_putK kvs p.1 p.2
    show (mergeK (putK kvs p.1 p.2) r).length <= _
    rw [List.length_cons]; omega
theorem carries_of {P : Program} {w : World} : ∀ {kvs : List (Key × V)} {ws : List (Value × Value)}, VV (kvs.map fun kv => (kV kv.1, kv.2)) ws -> ∃ rs, Carries (mixKind P w) ws rs /\ KV kvs rs
  | [], _, r => by rw [List.map_nil] at r; cases r; exact ⟨[], True.intro, .nil⟩
  | p :: kvs, _, r => by
    rw [List.map_cons] at r
    cases r with
    | @cons a b as bs h t =>
      obtain ⟨rs, c, q⟩ := carries_of (P := P) (w := w) t
      obtain ⟨b1, b2⟩ := b
      exact ⟨(p.1, b2) :: rs, ⟨kV_is h.1, rfl, c⟩, .cons ⟨rfl, h.2⟩ q⟩
noncomputable def tDisp (trs : List (TE × TE)) : TE := fun σ H Q => ∀ p, H p = none -> tPairs trs σ (upd H p (.dK [])) fun ps H2 => H2 p = some (.dK []) /\ ∃ kvs : List (Key × V), ps = kvs.map (fun kv => (kV kv.1, kv.2)) /\ kvs.length <= 15 /\ Q (.ref p) (upd H2 p (.dK (mergeK [] kvs)))
theorem pe_disp {X : Cx} {pos : Pos} {keys : List (Option Expr)} {values : List Expr} {trs : List (TE × TE)} (h : PPs X pos keys values trs) (hall : keys.all (·.isSome) = true) (hl : keys.length = values.length) (h0 : keys ≠ [])
    (h15 : keys.length <= 15) : PE X (.Dict keys values pos) (tDisp trs) := by
  intro pins s σ H Q I q
  have hn := I.hok.fresh (Nat.le_refl s.heap.objs.size)
  have I1 := I.laid (a := s.heap.objs.size) (o := .dK []) (h' := s.heap.push { cls := .type "dict", data := .dict #[] }) (t' := s.toks) (fun _ _ q => Heap.get?_push_of_some _ q) (Nat.le_refl _) (dk_empty s.heap I.big)
  refine wpAny_Dict_walk (knd := mixKind X.prog X.w) hall hl h0 h15 (thn (h pins _ σ _ _ I1 (q _ hn)) fun ws s2 ⟨ps, H2, I2, rel, e, kvs, ep, lk, q2⟩ => ?_)
  subst ep
  obtain ⟨rs, c, rk⟩ := carries_of (P := X.prog) (w := X.w) rel
  obtain ⟨z, hd, vs0, r0, dd⟩ := dk_of I2.hok e
  cases r0
  refine ⟨rs, c, dd, fun h' dd' hs => ⟨.ref s.heap.objs.size, _, ?_, rfl, q2⟩⟩
  have hz : (mergeK [] kvs).length <= sizeLine := by
    have h1 := length_mergeK kvs []
    rw [List.length_nil] at h1
    rw [sizeLine_eq]; omega
  have he : ∃ q, h'.get? s.heap.objs.size = some q := let ⟨q, _, _, hq, _⟩ := dd'; ⟨q, hq⟩
  exact d_write I2 (by rw [e]; exact True.intro) hs he (dk_new hz hd (rk.merge .nil) dd')
structure M2 (X : Cx) (o : Expr) (m : Str) (apos : Pos) (e f : Expr) (cpos : Pos) : Prop where
  base : attributeBase o m X.env (eval o X.env) = eval o X.env
  few : ((backTo cpos (starEach [e, f] X.env)).all (fun x => !x.1) && (backToKw cpos (keywordEach [] X.env)).all (fun x => x.1.isSome)
    && decide (([e, f] : List Expr).length + ([] : List Keyword).length + (if ([] : List Keyword).isEmpty then 0 else 1) < 30)) = true
  line : (apos.endLine == cpos.line) = true
  trees : backTo cpos (starEach [e, f] X.env) = [(false, eval e X.env), (false, eval f X.env)]
noncomputable def IsD (H : Hp) (a : Addr) : Prop := (∃ kvs, Rd H a (.dK kvs)) \/ ∃ kvs, Rd H a (.dT kvs)
theorem isD_at {X : Cx} {pins : List (Addr × Obj)} {σ : St} {H : Hp} {s : Shared} {a : Addr} (I : Inv X pins σ H s) (d : IsD H a) :
    s.TypeIs (.ref a) "dict" /\ (∀ b, Value.ref a = .ref b -> ∃ ob, s.heap.get? b = some ob /\ ob.dict = none) /\ (a == sysModules) = false := by
  rcases d with ⟨kvs, e⟩ | ⟨kvs, e⟩
  · obtain ⟨_, hd, vs, _, dd⟩ := dk_rd I.hok e
    refine ⟨dd.typeIs, fun b q => ?_, hd⟩
    cases q
    obtain ⟨ob, _, _, h1, h2, _⟩ := dd
    exact ⟨ob, h1, h2.2.1⟩
  · obtain ⟨_, hd, xs, _, dd⟩ := dt_rd I.hok e
    refine ⟨dd.typeIs, fun b q => ?_, hd⟩
    cases q
    obtain ⟨ob, _, _, h1, h2, _⟩ := dd
    exact ⟨ob, h1, h2.2.1⟩
section
variable {X : Cx} {pins : List (Addr × Obj)} {σ : St} {H : Hp} {s : Shared} {a : Addr} {y d : V} {u r : Value} {o : Option V} {A : Around} {E : Value -> Shared -> Prop}
theorem d_get2 {Q : Value -> Shared -> Prop} (hu : A.units + 1 < cLine) (I : Inv X pins σ H s) (g : DGet H a y o) (ry : RelV y u) (rd : RelV d r) (h : ∀ w' s', Inv X pins σ H s' -> RelV (o.getD d) w' -> Q w' s') :
    wpAny (model X.prog X.w) A (call (.builtin "dict.get") [.ref a, u, r]) Q E s := by
  rcases g with ⟨kvs, k, e, ey, l⟩ | ⟨kvs, k, b, e, ey, eb, l⟩
  · subst ey
    obtain ⟨z, hd, vs, rel, dd⟩ := dk_rd I.hok e
    refine call_meetsIn PySem.F.slot_dict_get dd.typeIs PySem.F.entry_dict_get (PySem.F.args_dict_get_3 _ _ _) (meets_dict_get_default (mixKind X.prog X.w) a (kV_is ry) hd r) ⟨_, dd.mapOf, h _ _ (I.tok _) ?_⟩
    rw [l]
    exact (rel.val k).getD rd
  · subst ey
    cases (show u = Value.ref b from ry)
    obtain ⟨z, hd, xs, rel, dd⟩ := dt_rd I.hok e
    refine call_meetsIn PySem.F.slot_dict_get dd.typeIs PySem.F.entry_dict_get (PySem.F.args_dict_get_3 _ _ _) (meetsH_dict_get_default (tupleKind (mixKind X.prog X.w)) a b hd r) ⟨tupleKind_room_in1 hu, k, xs, key_of I.hok eb, dd, h _ _ (I.tok _) ?_⟩
    rw [l]
    exact (rel.val k).getD rd
end
noncomputable def tDGet2 (td ty tx : TE) : TE := fun σ H Q => td σ H fun x H1 => ∃ a, x = .ref a /\ IsD H1 a /\ ty σ H1 fun y H2 => tx σ H2 fun z H3 => ∃ o, DGet H3 a y o /\ Q (o.getD z) H3
section
variable {X : Cx} {o e f : Expr} {apos cpos : Pos} {td ty tx : TE}
theorem pe_dget2 (hu : X.A.units + 1 < cLine) (ho : PE X o td) (he : PE X e ty) (hf : PE X f tx) (m : M2 X o "get" apos e f cpos) : PE X (.Call (.Attribute o "get" apos) [e, f] [] cpos) (tDGet2 td ty tx) := by
  intro pins s σ H Q I h
  refine wpAny_Call_method m.base m.few m.line PySem.F.plainAttrs_dict PySem.F.slot_dict_get PySem.F.type_dict_get (thn (ho pins s σ H _ I h) fun u s1 ⟨x, H1, I1, rx, a, ex, d, q1⟩ => ?_)
  subst ex
  obtain rfl : u = Value.ref a := rx
  obtain ⟨t1, t2, _⟩ := isD_at I1 d
  refine ⟨t1, t2, ?_⟩
  rw [m.trees]
  refine Calls.callWith_builtin rfl (Calls.evalArgs_plain (Calls.spliced_cons (thn (he pins s1 σ H1 _ I1 q1) fun iv s2 ⟨y, H2, I2, ry, q2⟩ =>
    Calls.spliced_cons (thn (hf pins s2 σ H2 _ I2 q2) fun fv s3 ⟨z, H3, I3, rz, ov, g, q3⟩ => Calls.spliced_nil ?_))))
  exact d_get2 hu I3 g ry rz fun w' s4 I4 rw' => ⟨_, H3, I4, rw', q3⟩
end
section
variable {X : Cx} {pins : List (Addr × Obj)} {σ : St} {H : Hp} {s : Shared} {a : Addr} {kvs : List (Key × V)} {A : Around} {E : Value -> Shared -> Prop}
end
section
variable {X : Cx} {pins : List (Addr × Obj)} {σ : St} {H : Hp} {s : Shared} {a : Addr} {y : V} {u : Value} {A : Around} {E : Value -> Shared -> Prop}
end
end L2
namespace Att
open PySem PySem.W PySem.Calls PyProof.Rows
theorem ints_of_wellAll {P : Params} {h : Heap} : ∀ (ns : List Int) (vs : List Value), WellAll P h vs (ns.map WData.int) -> IntsAre vs ns := by
  intro ns
  induction ns with
  | nil =>
    intro vs w
    rw [List.map_nil] at w
    cases w
    exact .nil
  | cons n ns ih =>
    intro vs w
    rw [List.map_cons] at w
    cases w with
    | cons a b =>
      cases a
      exact .cons _ _ (ih _ b)
theorem script_of {l : OpenLaw} {n : Nat} (hn : l.most = some n) {P : Params} {h : Heap} {args : List WData} {vals : List Value}
    (hpre : l.row.toRowW.claim.pre args = true) (hwl : WellAll P h vals args) :
    ∃ a vs ns, vals = [Value.ref a] /\ args = [WData.list (ns.map WData.int)] /\ h.get? a = some { cls := .type "list", data := .seq vs.toArray } /\ IntsAre vs ns /\ ns.length <= n := by
  have hsh : WShape.hasAll [] args [.list .int] = true := (pre_splitW hpre).1
  have hc : l.pre.holds [] { args := args } = true := (pre_splitW hpre).2
  obtain ⟨d, r, rfl, h1, h2⟩ := hasAllW_cons hsh
  obtain rfl := hasAllW_nil h2
  obtain ⟨xs, rfl, h3⟩ := hasW_list h1
  obtain ⟨ns, rfl⟩ := items_int h3
  have hlen : ns.length <= n := by
    unfold OpenLaw.pre at hc
    have h4 : (WTm.not (.lt (.lit (.int (n : Int))) (.len (.arg 0)))).holds [] { args := [.list (ns.map .int)] } = true := by
      have h4 := (holds_andW hc).1
      rw [hn] at h4
      exact h4
    have h5 := condW_of h4 (w_not (w_lt w_lit (w_len_list (w_arg rfl))))
    rw [List.length_map] at h5
    refine Nat.le_of_not_lt fun q => ?_
    have q' : (n : Int) < ((ns.length : Nat) : Int) := by omega
    first
      | (rw [decide_eq_true q'] at h5; exact absurd h5 (by decide))
      | (simp at h5; omega)
  cases hwl with
  | cons w1 w2 =>
    cases w2
    cases w1 with
    | list ho hall => exact ⟨_, _, ns, rfl, rfl, ho, ints_of_wellAll ns _ hall, hlen⟩
theorem post_true (l : OpenLaw) (args : List WData) : l.row.toRowW.claim.post args (.bool true) args = true :=
  postW_of (r := l.row.toRowW) (X := (true == true))
    (show WShape.has [] (.bool true) .bool = true by first | rfl | decide | simp [WShape.has, WShape.arms, WShape.armsAll])
    (show (WTm.eq .res (.lit (.bool true))).value [] { args := args, res := some (.bool true), after := args } = some (.bool (true == true)) from w_eq_bool (w_res rfl) w_lit) rfl
theorem attach_call {l : OpenLaw} {n : Nat} {q : Program} {loose : List Str} {XP : (Str -> Option Value) -> Heap -> Prop} {YP : World -> Heap -> Prop} {d : DefRec}
    (hn : l.most = some n) (hdf : d.params.defaults = [])
    (call : ∀ (w : World) (s₀ s₁ : Shared) (mg mb : Str -> Option Value) (fa : Addr) (o : Obj) (pm cd doc : Value) (a : Addr) (vs : List Value) (ns : List Int),
      Ground q loose [] XP w s₀ mg mb s₁.heap -> YP w s₁.heap ->
      s₁.heap.get? fa = some o -> o.data = .func (docDef d.name d.params d.body d.scope pm cd doc) -> s₁.heap.CodeRec cd d.name -> mg d.name = some (.ref fa) ->
      s₁.heap.get? a = some { cls := .type "list", data := .seq vs.toArray } -> IntsAre vs ns -> ns.length <= n -> s₁.gens = #[] ->
      codeAny (model l.prog w) callerA (.call (.ref fa) ⟨[.ref a], []⟩) (fun r s' => r = .ok (.ret (.bool true)) /\ OldK s₁.heap s'.heap /\ s'.os = s₁.os /\ AllBare s'.gens) s₁) :
    WalkO q loose XP YP l.row.toRowW d [] (fun f vs => PySem.call f vs) := by
  intro w s₀ s₁ mg mb G Y fa o pm cd doc dV kV ho hd hcd hD hmg hg args vals as hpre hlay hrd hwl hlo
  obtain rfl : dV = .none := Dflts.none hD hdf
  obtain rfl : kV = .none := Dflts.noKw hD
  obtain ⟨a, vs, ns, rfl, rfl, hobj, hints, hlen⟩ := script_of hn hpre hwl
  refine enter_call (codeAny_mono (call w s₀ s₁ mg mb fa o pm cd doc a vs ns G Y ho (fd_plain hd) hcd hmg hobj hints hlen hg) fun r s' hq => ?_)
  obtain ⟨rfl, h2, h3, h4⟩ := hq
  exact ⟨.inl ⟨.bool true, .bool true, [], rfl, fun _ => rfl, .bool true, post_true l _, fun _ => ⟨List.Pairwise.nil, fun _ hm => (nomatch hm)⟩⟩, h2, h3, h4⟩
section
variable {prog : Program} {w : World} {A : Around} {E : Value -> Shared -> Prop} {s : Shared} {K : Frag}
end
end Att
namespace L2
open PySem PySem.Spec PyProof.Rows
theorem vals_ints : ∀ {vs : List Value} {ns : List Int}, IntsAre vs ns -> Vals (ns.map V.int) vs
  | _, _, .nil => .nil
  | _, _, .cons n t h => .cons ⟨t, rfl⟩ (vals_ints h)
noncomputable def Only (H : Hp) : Prop := ∀ b, H b = none \/ ∃ o xs, H b = some (.frz o (.lst xs))
theorem law_call {P : Program} {w : World} {K : PySem.W.Frag} {mg mb : Str -> Option Value} {CX : CXT} {k : Nat} {fa a : Addr} {fd : FuncData} {x : Str} {sp : Sp} {s₁ : Shared} {vs : List Value} {ns : List Int}
    (KX : K.In s₁.heap) (hns : s₁.heap.Ns mainGlobals mg) (hb : s₁.heap.Ns builtinsNs mb) (hbb : ∀ x : Str, x ≠ "__name__" -> mb x = bootBuiltins x) (hlim : s₁.heap.NoLimit) (hg : s₁.gens = #[])
    (ha : s₁.heap.get? a = some { cls := .type "list", data := .seq vs.toArray }) (hi : IntsAre vs ns) (hl : ns.length <= sizeLine) (hr : Room k callerA)
    (F : ∀ base : Heap, K.In base -> base.Ns mainGlobals mg -> FnOk P w K mg base CX k fa fd [x] sp) (hbind : ∀ (s : Shared) (u : Value), BindsTo s fd ⟨[u], []⟩ [(x, u)])
    (hsp : ∀ H : Hp, Only H -> SqL K H a (ns.map V.int) -> sp [.ref a] H (fun v _ => v = .bl true) fun _ _ _ => False)
    (hCX : ∀ H e s', CX [] H s₁ (fun _ _ _ => False) e s' -> False) :
    codeAny (model P w) callerA (.call (.ref fa) ⟨[.ref a], []⟩) (fun r s' => r = .ok (.ret (.bool true)) /\ OldK s₁.heap s'.heap /\ s'.os = s₁.os /\ AllBare s'.gens) s₁ := by
  have rv := vals_ints hi
  have lenV := hi.length
  have core : ∀ H : Hp, Only H -> SqL K H a (ns.map V.int) -> HOk P w H s₁.heap -> (∀ b, H b ≠ none -> b = a) -> (H a ≠ none -> K.lookup a = none) ->
      codeAny (model P w) callerA (.call (.ref fa) ⟨[.ref a], []⟩) (fun r s' => r = .ok (.ret (.bool true)) /\ OldK s₁.heap s'.heap /\ s'.os = s₁.os /\ AllBare s'.gens) s₁ := by
    intro H hO hS hok hA hK
    have base_of : ∀ {b : Addr} {o : Obj}, s₁.heap.get? b = some o -> H b = none -> (hidT s₁.heap H).get? b = some o := fun e n => hidT_get e n
    have noA : ∀ {b : Addr} {o : Obj} {es : Array DictEntry} {ep : Nat}, s₁.heap.get? b = some o -> o.data = .dict es ep -> H b = none := fun {b o es ep} e d => by
      cases q : H b with
      | none => rfl
      | some u =>
        have e' : b = a := hA b (by rw [q]; simp)
        subst e'
        rw [ha] at e; cases e
        have d' : Data.seq vs.toArray _ = Data.dict es ep := d
        cases d'
    have nsK : ∀ {b : Addr} {m : Str -> Option Value}, s₁.heap.Ns b m -> (hidT s₁.heap H).Ns b m := fun {b m} ⟨o, es, ep, e, d, r⟩ => ⟨o, es, ep, base_of e (noA e d), d, r⟩
    have hKb : K.In (hidT s₁.heap H) := fun b o e => base_of (KX b o e) (by
      cases q : H b with
      | none => rfl
      | some u =>
        have e' : b = a := hA b (by rw [q]; simp)
        subst e'
        rw [hK (by rw [q]; simp)] at e; cases e)
    have hM : Mod K mg (hidT s₁.heap H) := ⟨hKb, nsK hns, ⟨mb, nsK hb, hbb⟩, let ⟨mc, h1, h2⟩ := hlim; ⟨mc, nsK h1, h2⟩⟩
    have e0 : Env0 P w K mg (hidT s₁.heap H) callerA [] s₁ H := ⟨rfl, hM, fun b o e => of_hidT e, Nat.le_of_eq (hidT_size _ _), trivial, fun b hb => absurd (show b ∈ ([] : List Addr) from hb) (by simp), hok, .of_eq hg⟩
    refine codeAny_mono ((F _ hKb (nsK hns)).run callerA [] s₁ H ⟨[.ref a], []⟩ [.ref a] [.ref a] _ _ hr e0 (hbind s₁ (.ref a)) (.cons rfl .nil) (hsp H hO hS)) fun r s' h => ?_
    cases r with
    | error e => exact (hCX H e s' h).elim
    | ok fl =>
      cases fl with
      | next => exact False.elim h
      | brk => exact False.elim h
      | cont => exact False.elim h
      | ret u =>
        obtain ⟨v, H', os, bare, un, hok', r', q⟩ := h
        have q' : v = .bl true := q
        subst q'
        obtain rfl : u = Value.bool true := r'
        refine ⟨rfl, OldK.of_keep fun b o e => ?_, os, bare⟩
        cases q : H b with
        | none => exact un.keep b o e q (by intro z; exact absurd (show b ∈ ([] : List Addr) from z) (by simp)) (by simp)
        | some u =>
          rcases hO b with z | ⟨ob, xs, z⟩
          · rw [q] at z; cases z
          · have z2 := un.frzs b ob _ z
            obtain ⟨e1, _⟩ := hok b _ z
            obtain ⟨e2, _⟩ := hok' b _ z2
            rw [e] at e1; cases e1
            exact e2
  cases hk : K.lookup a with
  | some o =>
    have e := KX a o hk
    rw [ha] at e
    cases e
    refine core (fun _ => none) (fun _ => .inl rfl) (.inr ⟨_, vs.toArray, _, hk, rfl, rfl, rfl, by rw [List.size_toArray, lenV]; exact hl, by simpa using rv⟩) (fun b u z => by have z' : (none : Option HO) = some u := z; cases z') (fun b z => absurd rfl z) fun z => absurd rfl z
  | none =>
    refine core (fun b => if b = a then some (.frz { cls := .type "list", data := .seq vs.toArray } (.lst (ns.map V.int))) else none) (fun b => ?_) (.inl (.inr ⟨{ cls := .type "list", data := .seq vs.toArray }, if_pos rfl⟩)) (fun b u z => ?_) (fun b z => ?_) fun _ => hk
    · by_cases hb : b = a
      · exact .inr ⟨_, _, if_pos hb⟩
      · exact .inl (if_neg hb)
    · by_cases hb : b = a
      · have z' := (if_pos hb).symm.trans z
        cases z'
        subst hb
        exact ⟨ha, by rw [List.length_map]; exact hl, vs, _, rv, ha⟩
      · have z' := (if_neg hb).symm.trans z
        cases z'
    · by_cases hb : b = a
      · exact hb
      · exact absurd (if_neg hb) z
end L2
namespace L2
open PySem PySem.Spec PyProof.Rows
theorem walk_of {l : PySem.W.OpenLaw} {n k : Nat} {q : Program} {loose : List Str} {XP : (Str -> Option Value) -> Heap -> Prop} {YP : World -> Heap -> Prop} {d : DefRec} {K : Params -> PySem.W.Frag} {CX : World -> CXT} {sp : World -> Sp} {x : Str}
    (hn : l.most = some n) (hn2 : n <= sizeLine) (hdf : d.params.defaults = []) (hr : Room k callerA)
    (hY : ∀ (w : World) (h : Heap), YP w h -> (K w.params).In h)
    (F : ∀ (w : World) (mg : Str -> Option Value) (fa : Addr) (h : Heap), (K w.params).In h -> h.Ns mainGlobals mg -> mg d.name = some (.ref fa) ->
      ∃ fd : FuncData, (∀ (s : Shared) (u : Value), BindsTo s fd ⟨[u], []⟩ [(x, u)]) /\
        ∀ base : Heap, (K w.params).In base -> base.Ns mainGlobals mg -> FnOk l.prog w (K w.params) mg base (CX w) k fa fd [x] (sp w))
    (hsp : ∀ (w : World) (H : Hp) (a : Addr) (ns : List Int), ns.length <= n -> Only H -> SqL (K w.params) H a (ns.map V.int) -> sp w [.ref a] H (fun v _ => v = .bl true) fun _ _ _ => False)
    (hCX : ∀ (w : World) (H : Hp) (s : Shared) (e : Value) (s' : Shared), CX w [] H s (fun _ _ _ => False) e s' -> False) :
    PySem.W.WalkO q loose XP YP l.row.toRowW d [] (fun f vs => PySem.call f vs) := by
  refine Att.attach_call hn hdf fun w s₀ s₁ mg mb fa o pm cd doc a vs ns G Y ho hd hcd hmg hobj hints hlen hg => ?_
  have KX := hY w _ Y
  obtain ⟨fd, hb, hF⟩ := F w mg fa _ KX G.T.g hmg
  exact law_call KX G.T.g G.T.b G.T.builtins G.T.nolimit hg hobj hints (Nat.le_trans hlen hn2) hr hF hb (fun H hO hS => hsp w H a ns hlen hO hS) fun H e s' => hCX w H s₁ e s'
end L2
namespace L2
open PySem PySem.Spec PyProof.Rows
noncomputable def defArgs (s : Stmt) : Arguments := match s with
  | .FunctionDef _ a _ _ _ _ _ _ _ _ => a
  | _ => { posonlyargs := [], args := [], vararg := none, kwonlyargs := [], kw_defaults := [], kwarg := none, defaults := [] }
noncomputable def defBody (s : Stmt) : List Stmt := match s with
  | .FunctionDef _ _ b _ _ _ _ _ _ _ => b
  | _ => []
noncomputable def defScope (s : Stmt) : Scope := match s with
  | .FunctionDef _ _ _ _ _ _ sc _ _ _ => sc
  | _ => { kind := .function, names := [], isGenerator := false, isCoroutine := false }
structure Fun (K : PySem.W.Frag) (x qual : Str) (st : Stmt) (f : Addr) (fd : FuncData) : Prop where
  ex : ∃ (oc : Value) (od : Option Addr) (kV doc pm : Value) (an : Option Addr) (cdv ct : Value) (osl : Array (Option Value)),
    fd = PySem.W.fnOf x qual (defArgs st) (defBody st) (defScope st) .none kV doc pm an cdv ct /\ K.lookup f = some ⟨oc, od, .func fd, osl⟩ /\ PySem.W.codeIn K cdv qual = true
  kp : PySem.W.keepIn K (.ref f) = true
section
variable {P : Program} {w : World} {K : PySem.W.Frag} {mg : Str -> Option Value} {base : Heap}
theorem Fun.binds {x qual : Str} {st : Stmt} {f : Addr} {fd : FuncData} {ps : List Str} (F : Fun K x qual st f fd)
    (h : ∀ (kV doc pm : Value) (an : Option Addr) (cdv ct : Value) (us : List Value), us.length = ps.length -> bindArgs (PySem.W.fnOf x qual (defArgs st) (defBody st) (defScope st) .none kV doc pm an cdv ct) ⟨us, []⟩ = pure (ps.zip us)) : Binds K fd ps [] := by
  obtain ⟨oc, od, kV, doc, pm, an, cdv, ct, osl, rfl, lk, hcd⟩ := F.ex
  exact .all (h kV doc pm an cdv ct)
theorem fun_mk {x qual : Str} {st : Stmt} {f : Addr} {oc : Value} {od an : Option Addr} {osl : Array (Option Value)} {kV doc pm cdv ct : Value} (l : K.lookup f = some ⟨oc, od, .func (PySem.W.fnOf x qual (defArgs st) (defBody st) (defScope st) .none kV doc pm an cdv ct), osl⟩)
    (c : PySem.W.codeIn K cdv qual = true) (k : PySem.W.keepIn K (.ref f) = true) : Fun K x qual st f (PySem.W.fnOf x qual (defArgs st) (defBody st) (defScope st) .none kV doc pm an cdv ct) := ⟨⟨oc, od, kV, doc, pm, an, cdv, ct, osl, rfl, l, c⟩, k⟩
end
section
variable {X : Cx}
theorem pv (i : Nat) {x : Str} {pos : Pos} (hN : X.N[i]? = some x := by rfl) (hv : Vis X.env.scope x := by first | exact Or.inl rfl | exact Or.inr (Or.inl rfl) | exact Or.inr (Or.inr rfl)) (hd : (x == ("__debug__" : Str)) = false := by decide)
    (hcd : (x == ("__classdict__" : Str)) = false := by decide) : PE X (.Name x pos) (tVar i) := pe_var hN hv hd hcd
theorem call_lenD : CallR X (.builtin "len") (fun xs H Q => ∃ a kvs, xs = [V.ref a] /\ H a = some (.dK kvs) /\ Q (.int kvs.length) H) := by
  intro pins s σ H xs us Q I r h
  obtain ⟨a, kvs, rfl, ha, q⟩ := h
  obtain ⟨u, rfl, ru⟩ := vals1 r
  cases ru
  exact d_len I (.inl ha) fun t s' I' => ⟨.int kvs.length, H, I', ⟨t, rfl⟩, q⟩
end
theorem iteF {A B : Prop} (h : B) : if false = true then A else B := by
  rw [if_neg Bool.false_ne_true]
  exact h
theorem iteT {A B : Prop} (h : A) : if true = true then A else B := by
  rw [if_pos rfl]
  exact h
noncomputable def Same (H H' : Hp) : Prop := ∀ b o, H b = some o -> H' b = some o
theorem Same.refl (H : Hp) : Same H H := fun _ _ h => h
theorem Same.trans {H H1 H2 : Hp} (a : Same H H1) (b : Same H1 H2) : Same H H2 := fun c o h => b c o (a c o h)
section
variable {κ : Type} [DecidableEq κ]
end
end L2
set_option maxRecDepth 100000
set_option maxHeartbeats 4000000
namespace L2
open PySem PySem.Spec PyProof.Rows
noncomputable def Flies (fr : List Env) (H : Hp) (old : Addr -> Prop) (e : Addr) (cls : Value) (h : Heap) : Prop :=
  ∃ (B : Heap) (a0 : Value), Heap.FlyingW B fr e cls a0 h /\ ∀ b o, h.get? b = some o -> b ∉ frs fr -> (H b ≠ none \/ old b) -> B.get? b = some o
noncomputable def cxx (P : Program) (w : World) : CXT := fun outer H s E ev s' => ∃ (e : Addr) (cls : Value) (H' : Hp), ev = .ref e /\ s'.os = s.os /\ AllBare s'.gens /\
  Un (frs outer) [] H H' s.heap s'.heap /\ HOk P w H' s'.heap /\ Flies outer H' (fun b => ∃ o, s.heap.get? b = some o) e cls s'.heap /\ E cls none H'
theorem ObjOk.there {P : Program} {w : World} {H : Hp} {h : Heap} {a : Addr} {o : HO} (x : ObjOk P w H h a o) : ∃ ob, h.get? a = some ob := by
  cases o with
  | lst xs => obtain ⟨_, _, _, _, e⟩ := x; exact ⟨_, e⟩
  | tup xs => obtain ⟨_, _, _, _, e, _⟩ := x; exact ⟨_, e⟩
  | dK kvs => obtain ⟨_, _, _, _, o, _, _, e, _⟩ := x; exact ⟨_, e⟩
  | dT kvs => obtain ⟨_, _, _, _, o, _, _, e, _⟩ := x; exact ⟨_, e⟩
  | set S n => obtain ⟨o, _, _, _, e, _⟩ := x; exact ⟨_, e⟩
  | ins C dx fs => obtain ⟨_, _, _, e, _⟩ := x; exact ⟨_, e⟩
  | own y => obtain ⟨_, e⟩ := x; exact ⟨_, e⟩
  | xd fs => obtain ⟨_, ⟨_, _, _, e, _⟩, _⟩ := x; exact ⟨_, e⟩
  | rng lo hi => obtain ⟨_, _, _, e⟩ := x; exact ⟨_, e⟩
  | frz ob u => obtain ⟨e, _⟩ := x; exact ⟨_, e⟩
  | tbl ps => exact ⟨_, (show h.get? a = some _ from x)⟩
  | met f y => exact ⟨_, (show h.get? a = some _ from x)⟩
  | ext φ => obtain ⟨_, ⟨_, e⟩, _⟩ := x; exact ⟨_, e⟩
section
variable {X : Cx} {pins : List (Addr × Obj)} {σ : St} {H : Hp} {s : Shared}
theorem Inv.trkNo (I : Inv X pins σ H s) {b : Addr} {u : HO} (q : H b = some u) : b ∉ frs X.stack := fun m => by
  have z := I.stkFree b m
  rw [q] at z; cases z
theorem Inv.oldNo (I : Inv X pins σ H s) (hst : X.stack = X.env :: X.outer) (hf : X.env.frame = some X.env.locals) {b : Addr} {o : Obj} (q : X.s₀.heap.get? b = some o) (n : b ∉ X.fs) : b ∉ frs X.stack := fun m => by
  rcases List.mem_cons.mp (I.stkSub b m) with z | z
  · exact absurd z (Nat.ne_of_lt (Nat.lt_of_lt_of_le (Heap.lt_size q) I.ok.above))
  · exact n z
theorem end_fly {h' B : Heap} {e : Addr} {cls a0 : Value} {E : XK} (I : Inv X pins σ H s) (hst : X.stack = X.env :: X.outer) (hf : X.env.frame = some X.env.locals) (hex : X.ex = [])
    (fl : Heap.FlyingW B X.outer e cls a0 h') (cov : ∀ b o, s.heap.get? b = some o -> b ∉ frs X.stack -> (H b ≠ none \/ ∃ o, X.s₀.heap.get? b = some o) -> B.get? b = some o)
    (up : s.heap.UpToSlots h') (hE : E cls none H) : cxx X.prog X.w X.outer X.H₀ X.s₀ E (.ref e) { s with heap := h' } := by
  have nex : ∀ b : Addr, b ∉ X.ex := fun b z => by rw [hex] at z; cases z
  have trkd : ∀ b u v, H b = some u -> s.heap.get? b = some v -> h'.get? b = some v := fun b u v q r => fl.1 b v (cov b v r (I.trkNo q) (.inl (by rw [q]; simp)))
  have oldd : ∀ b o v, X.s₀.heap.get? b = some o -> b ∉ X.fs -> s.heap.get? b = some v -> h'.get? b = some v := fun b o v q n r => fl.1 b v (cov b v r (I.oldNo hst hf q n) (.inr ⟨o, q⟩))
  have frms : ∀ b o, b ∈ X.fs -> s.heap.get? b = some o -> ∃ sl, h'.get? b = some { o with slots := sl } := fun b o hb q => by
    obtain ⟨_, o2, ho2, nf⟩ := I.funs.mem hb
    rw [q] at ho2; cases ho2
    exact up b o q nf
  refine ⟨e, cls, H, rfl, I.os, I.bare, ⟨fun b o q n hb hx => ?_, fun b o q n hb hx => ?_, fun b o q n hx => I.base.free b o q n (nex b), fun b o q hx => ?_, I.base.tups, I.base.frzs, I.base.tbls⟩, fun b u q => ?_, ⟨B, a0, fl, fun b o q n hor => ?_⟩, hE⟩
  · exact oldd b o o q hb (I.base.keep b o q n hb (nex b))
  · obtain ⟨sl, e1⟩ := I.base.slot b o q n hb (nex b)
    obtain ⟨sl', e2⟩ := frms b _ hb e1
    exact ⟨sl', e2⟩
  · obtain ⟨o1, e1⟩ := I.base.there b o q (nex b)
    by_cases hb : b ∈ X.fs
    · obtain ⟨sl, e2⟩ := frms b o1 hb e1
      exact ⟨_, e2⟩
    · exact ⟨o1, oldd b o o1 q hb e1⟩
  · refine (I.hok b u q).stay (fun c v hc r => ?_) (fun _ z => z) fun _ _ z => z
    rcases hc with z | z
    · exact trkd c u v (by rw [z]; exact q) r
    · exact trkd c _ v z r
  · have q : h'.get? b = some o := q
    rcases hor with hb | ⟨o0, e0⟩
    · obtain ⟨u, hu⟩ := Option.ne_none_iff_exists'.mp hb
      obtain ⟨o1, e1⟩ := (I.hok b u hu).there
      have := trkd b u o1 hu e1
      rw [q] at this; cases this
      exact cov b _ e1 (I.trkNo hu) (.inl hb)
    · obtain ⟨o1, e1⟩ := I.base.there b o0 e0 (nex b)
      have := oldd b o0 o1 e0 n e1
      rw [q] at this; cases this
      exact cov b _ e1 (I.oldNo hst hf e0 n) (.inr ⟨o0, e0⟩)
end
section
variable {P : Program} {w : World} {K : PySem.W.Frag} {mg : Str -> Option Value} {base : Heap} {N : List Str} {qual : Str} {scope : Scope} {f : Addr} {cd : Value} {A : Around} {outer : List Env} {s : Shared} {H : Hp} {E : XK}
theorem passes_cxx : Passes (cxx P w) (cxOf (cxx P w) P w K mg base N qual scope f cd A outer s H E) E := by
  intro pins σ H1 s1 ev s' I hq
  obtain ⟨e, cls, H', rfl, os, bare, un, hok, ⟨B, a0, fl, cov⟩, hE⟩ := hq
  have I' := I.call' (ch := []) os un hok bare (fun b z => nomatch z)
  have hfr : (A.deeper (envOfC qual scope s.heap.objs.size f cd)).frames = some (envOfC qual scope s.heap.objs.size f cd :: outer) := I.ok.frames
  refine wpAny_leaves_onW (L := s.heap.objs.size) hfr rfl fl fun h' fl' up => ?_
  exact end_fly (E := E) I' rfl rfl rfl fl' (fun b o e1 e2 e3 => cov b o e1 e2 (by
    rcases e3 with z | ⟨o0, z⟩
    · exact .inl z
    · exact .inr (I.base.there b o0 z (fun q => nomatch q)))) up hE
theorem passes_no {X : Cx} : Passes (cxx P w) X (fun _ _ _ => False) := fun _ _ _ _ _ _ _ ⟨_, _, _, _, _, _, _, _, _, z⟩ => z.elim
theorem cxx_no {outer : List Env} {H : Hp} {s : Shared} {e : Value} {s' : Shared} (h : cxx P w outer H s (fun _ _ _ => False) e s') : False := let ⟨_, _, _, _, _, _, _, _, _, z⟩ := h; z
end
theorem topRead_any {mg mb : Str -> Option Value} {h : Heap} (g : h.Ns mainGlobals mg) (b : h.Ns builtinsNs mb) (bb : ∀ x : Str, x ≠ "__name__" -> mb x = bootBuiltins x) (nl : h.NoLimit) (p : Program) : ∃ loose, PySem.W.TopRead p loose mg mb h := by
  obtain ⟨o, es, ep, ho, hd, hk, hf⟩ := id g
  refine ⟨es.toList.filterMap fun e => match e.key with | .str y _ => some y | _ => none, g, b, nl, bb, fun x _ hx _ _ _ => ?_⟩
  rw [<- hf]
  unfold nsFind findBy
  rw [<- Array.find?_toList]
  cases q : es.toList.find? (fun e => e.key.isStr x) with
  | none => rfl
  | some en =>
    exfalso
    have hm := List.mem_of_find?_eq_some q
    have hp := List.find?_some q
    obtain ⟨y, t, hy⟩ := hk en (by simpa using hm)
    rw [hy] at hp
    have hxy : y = x := by simpa [Value.isStr] using hp
    exact hx (List.mem_filterMap.mpr ⟨en, hm, by rw [hy, hxy]⟩)
end L2
set_option maxRecDepth 100000
set_option maxHeartbeats 4000000
namespace L2
open PySem PySem.Spec PyProof.Rows
structure ErrC (K : PySem.W.Frag) (x : Str) (C : Addr) : Prop where
  ns : PySem.W.nsIn K mainGlobals x = some (some (.ref C))
  ex : PySem.W.excIn K C [.type "ValueError", .type "Exception", .type "BaseException", .type "object"] "ValueError.__new__" = true
theorem ErrC.mg {K : PySem.W.Frag} {x : Str} {C : Addr} {h : Heap} {mg : Str -> Option Value} (e : ErrC K x C) (X : K.In h) (G : h.Ns mainGlobals mg) : mg x = some (.ref C) := PySem.W.mg_of X G e.ns
section
variable {X : Cx} {pins : List (Addr × Obj)} {σ : St} {H : Hp} {s : Shared}
theorem Inv.ownCls {x : Str} {C : Addr} (I : Inv X pins σ H s) (e : ErrC X.K x C) : OwnCls x C [.type "ValueError", .type "Exception", .type "BaseException", .type "object"] "ValueError.__new__" X.mg X.base := by
  obtain ⟨mb, b1, b2⟩ := I.mod.blt
  obtain ⟨loose, T⟩ := topRead_any I.mod.glob b1 b2 I.mod.nolimit X.prog
  exact PySem.W.own_of_in I.mod.kin T e.ns e.ex
theorem made_fly {P : Program} {w : World} {K : PySem.W.Frag} {mg : Str -> Option Value} {base : Heap} {N : List Str} {qual : Str} {scope : Scope} {f : Addr} {cd : Value} {A : Around} {outer : List Env} {s : Shared} {H : Hp} {E : XK}
    {pins : List (Addr × Obj)} {σ : St} {H1 : Hp} {s1 : Shared} {h' : Heap} {e : Addr} {cls : Value} {vs : List Value} (I : Inv (cxOf (cxx P w) P w K mg base N qual scope f cd A outer s H E) pins σ H1 s1)
    (hx : Heap.MadeExcOf s1.heap h' e cls vs) (hE : E cls none H1) : (cxOf (cxx P w) P w K mg base N qual scope f cd A outer s H E).xe (.ref e) { s1 with heap := h' } := by
  have hfr : (A.deeper (envOfC qual scope s.heap.objs.size f cd)).frames = some (envOfC qual scope s.heap.objs.size f cd :: outer) := I.ok.frames
  have fs := I.stack
  have hin : ∀ env ∈ (envOfC qual scope s.heap.objs.size f cd :: outer), ∀ b, env.frame = some b -> b ∈ frs (envOfC qual scope s.heap.objs.size f cd :: outer) := fun env he b hb => List.mem_filterMap.mpr ⟨env, he, hb⟩
  refine wpAny_leaves_madeW (L := s.heap.objs.size) (base := PySem.W.hideAll s1.heap (frs (envOfC qual scope s.heap.objs.size f cd :: outer))) hfr rfl (fun b o q => PySem.W.of_hideAll _ q) (PySem.W.funFrames_hide fs hin) hx fun h2 t fl tup nt up => ?_
  refine end_fly (E := E) (h' := h2) I rfl rfl rfl fl (fun b o q n _ => PySem.W.hideAll_get _ q n) (fun b o q nf => ?_) hE
  exact up b o (hx.keeps b o q) nf
end
noncomputable def tRaise (C : Addr) (E : XK) (ta : TA) : TS := fun _ σ H => ta σ H fun vs H1 => vs.length <= sizeLine /\ E (.ref C) none H1
theorem ps_raise {P : Program} {w : World} {K : PySem.W.Frag} {mg : Str -> Option Value} {base : Heap} {N : List Str} {qual : Str} {scope : Scope} {f : Addr} {cd : Value} {A : Around} {outer : List Env} {s : Shared} {H : Hp} {E : XK}
    {x : Str} {C : Addr} {e₀ : Expr} {rest : List Expr} {ta : TA} {np cpos pos : Pos} (hh : A.handled = none) (hc : ErrC K x C) (hg : Gl (cxOf (cxx P w) P w K mg base N qual scope f cd A outer s H E) x)
    (ha : PA (cxOf (cxx P w) P w K mg base N qual scope f cd A outer s H E) (e₀ :: rest) ta) (hd : (x == ("__debug__" : Str)) = false := by decide)
    (he : starEach (e₀ :: rest) (envOfC qual scope s.heap.objs.size f cd) = (false, eval e₀ (envOfC qual scope s.heap.objs.size f cd)) :: starEach rest (envOfC qual scope s.heap.objs.size f cd) := by rfl)
    (hp : (backTo cpos (starEach rest (envOfC qual scope s.heap.objs.size f cd))).any (·.1) = false := by rfl) :
    PS (cxOf (cxx P w) P w K mg base N qual scope f cd A outer s H E) (.Raise (some (.Call (.Name x np) (e₀ :: rest) [] cpos)) none pos) (tRaise C E ta) := by
  intro pins s1 σ H1 D I h
  obtain ⟨bm, NN, nm, q, bs, hdct, sn, sub, ab, col, dd, k0, k1, k2, k3, k5, mN, hC, hN, hni, T⟩ := (I.ownCls hc).obj
  have F := PySem.F.excBase_ValueError
  refine wpAny_Raise_call_subT (C := C) (nm := nm) (q := q) (N := NN) (bs := bs) (bm := bm) (hdct := hdct) (sn := sn) (sub := sub) (ab := ab) (col := col) (dd := dd) (k0 := k0) (k1 := k1) (k2 := k2) (k3 := k3) (k5 := k5) F (mN := mN)
    (T.hasType F.hasBase) hh (by show (backTo cpos (starEach (e₀ :: rest) (envOfC qual scope s.heap.objs.size f cd))).any (·.1) = false; rw [he]; exact hp) hni (ld_glob I hg (hc.mg I.mod.kin I.mod.glob) ⟨rfl, ?_⟩ hd)
  have hw := ha cpos pins s1 σ H1 _ I h
  have hw : wpAny (model P w) (A.deeper (envOfC qual scope s.heap.objs.size f cd)) (spliced (backTo cpos (starEach (e₀ :: rest) (envOfC qual scope s.heap.objs.size f cd)))) _ _ s1 := hw
  show wpAny _ _ (evalArgs (.ref C) true (backTo cpos (starEach (e₀ :: rest) (envOfC qual scope s.heap.objs.size f cd))) []) _ _ s1
  rw [he] at hw ⊢
  refine Calls.evalArgs_plain (thn hw fun us s2 ⟨vs, H2, I2, r, z, hE⟩ => ?_)
  refine ⟨rfl, by rw [<- r.length]; exact z, I2.bk _ _ hC, hN.keeps I2.bk, T.keeps I2.bk, fun h' e hx => made_fly I2 hx hE⟩
noncomputable abbrev Cx.within (X : Cx) (e : Addr) (oe : Obj) : Cx := { X with A := X.A.mark (some (.ref e)), calm := false, pn := X.pn ++ [(e, oe)], xe := fun _ _ => False }
section
variable {X : Cx} {pins : List (Addr × Obj)} {σ : St} {H : Hp} {s : Shared} {e : Addr} {oe : Obj}
theorem Cx.Ok.within (ok : X.Ok) : (X.within e oe).Ok :=
  ⟨ok.mod, ok.kind, ok.glob, ok.blt, ok.above, ok.inj, ok.has, ok.cab, (fun z => by cases z), ok.frames, ok.stk, ok.exf, ok.bs, ok.bsz, ok.noex, ok.exfs, ok.funs, ok.frf⟩
theorem Cx.Ok.without (ok : (X.within e oe).Ok) (hd : X.calm = true -> X.A.handled = none) : X.Ok :=
  ⟨ok.mod, ok.kind, ok.glob, ok.blt, ok.above, ok.inj, ok.has, ok.cab, hd, ok.frames, ok.stk, ok.exf, ok.bs, ok.bsz, ok.noex, ok.exfs, ok.funs, ok.frf⟩
theorem Inv.within (I : Inv X pins σ H s) (h1 : s.heap.get? e = some oe) (h2 : H e = none) (h3 : e ≠ X.env.locals) (h4 : e ∉ X.fs) (h5 : ∀ v, oe.data ≠ .cell v) : Inv (X.within e oe) pins σ H s :=
  ⟨I.ok.within, I.os, I.bare, I.base, I.loc, I.cell, I.free, I.freeC, fun p hp => by
    rcases List.mem_append.mp hp with z | z
    · rcases List.mem_append.mp z with z | z
      · exact I.pin p (List.mem_append_left _ z)
      · obtain rfl := List.mem_singleton.mp z
        exact ⟨h1, h2, h3, h4, h5⟩
    · exact I.pin p (List.mem_append_right _ z), I.hok, I.len⟩
theorem Inv.without (I : Inv (X.within e oe) pins σ H s) (hd : X.calm = true -> X.A.handled = none) : Inv X pins σ H s :=
  ⟨I.ok.without hd, I.os, I.bare, I.base, I.loc, I.cell, I.free, I.freeC, fun p hp => by
    rcases List.mem_append.mp hp with z | z
    · exact I.pin p (List.mem_append_left _ (List.mem_append_left _ z))
    · exact I.pin p (List.mem_append_right _ z), I.hok, I.len⟩
theorem SP.without {D : Ends} {f : Flow} (h : SP (X.within e oe) pins D f s) (hd : X.calm = true -> X.A.handled = none) : SP X pins D f s := by
  cases f with
  | next => obtain ⟨σ', H', I, q⟩ := h; exact ⟨σ', H', I.without hd, q⟩
  | brk => obtain ⟨σ', H', I, q⟩ := h; exact ⟨σ', H', I.without hd, q⟩
  | cont => obtain ⟨σ', H', I, q⟩ := h; exact ⟨σ', H', I.without hd, q⟩
  | ret u => obtain ⟨v, σ', H', I, r, q⟩ := h; exact ⟨v, σ', H', I.without hd, r, q⟩
theorem Inv.reframe {h' : Heap} {t' : Nat} {m' : Str -> Option Value} {σ' : St} (I : Inv X pins σ H s) (hn' : h'.Ns X.env.locals m') (hs : Heap.SameBut X.env.locals s.heap h') (hl : σ'.length = σ.length)
    (hv : ∀ m, s.heap.Ns X.env.locals m -> (∀ (i : Nat) (x : Str) (v : V), X.N[i]? = some x -> σ[i]? = some (some v) -> Vis X.env.scope x -> ∃ u, RelV v u /\ Look X.env s.heap m x u) ->
      ∀ (i : Nat) (x : Str) (v : V), X.N[i]? = some x -> σ'[i]? = some (some v) -> Vis X.env.scope x -> ∃ u, RelV v u /\ Look X.env s.heap m' x u) : Inv X pins σ' H { s with heap := h', toks := t' } := by
  obtain ⟨m, hn, hr⟩ := id I.loc
  obtain ⟨oL, _, _, hoL, _⟩ := id hn
  have tracked : HOk X.prog X.w H h' := fun b ob q => by
    refine (I.hok b ob q).stay (fun c v hc r => (hs.2 c ?_).trans r) (fun _ z => z) fun _ _ z => z
    rintro rfl
    rcases hc with rfl | hc
    · rw [I.free] at q; cases q
    · rw [I.free] at hc; cases hc
  have below : ∀ b o, X.s₀.heap.get? b = some o -> b ≠ X.env.locals := fun b o q => Nat.ne_of_lt (Nat.lt_of_lt_of_le (Heap.lt_size q) I.ok.above)
  refine ⟨I.ok, I.os, I.bare, ⟨fun b o q n hb hx => (hs.2 b (below b o q)).trans (I.base.keep b o q n hb hx), fun b o q n hb hx => ?_, I.base.free, fun b o q hx => ?_, I.base.tups, I.base.frzs, I.base.tbls⟩, ⟨m', hn', fun i x v e1 e2 e3 => ?_⟩, fun y c q => ?_, I.free, I.freeC, fun p hp => ?_, tracked, hl.trans I.len⟩
  · obtain ⟨sl, e1⟩ := I.base.slot b o q n hb hx
    exact ⟨sl, (hs.2 b (below b o q)).trans e1⟩
  · obtain ⟨o', e1⟩ := I.base.there b o q hx
    exact ⟨o', (hs.2 b (below b o q)).trans e1⟩
  · obtain ⟨u, r, l⟩ := hv m hn hr i x v e1 e2 e3
    refine ⟨u, r, ?_⟩
    rcases l with l | ⟨k, c, e, z⟩
    · exact .inl l
    · exact .inr ⟨k, c, e, z.sameBut hs (I.cne x c e)⟩
  · obtain ⟨w', z⟩ := I.cell y c q
    exact ⟨w', z.sameBut hs (I.cne y c q)⟩
  · obtain ⟨q, n, ne, nf, d⟩ := I.pin p hp
    exact ⟨(hs.2 p.1 ne).trans q, n, ne, nf, d⟩
theorem name_out {M : Model} {A : Around} {E : Value -> Shared -> Prop} {i : Nat} {n : Str} {pos : Pos} {Q : Unit -> Shared -> Prop} (I : Inv X pins σ H s) (hN : X.N.Nodup) (hi : X.N[i]? = some n) (hx : X.env.scope.names.lookup n = some .local)
    (h : ∀ s', Inv X pins (σ.set i none) H s' -> Q () s') : wpAny M A (do bindName X.env n .none; unbindBehindTheSuite X.env n pos) Q E s := by
  have hcls : (X.env.scope.kind == .class || (X.env.scope.kind == .module && X.env.locals != X.env.globals)) = false := by rw [I.ok.kind]; rfl
  have hl : X.env.kindOf n = some .local := hx
  refine wpAny_bind (wpAny_bindName (store_ok I hN hi (.inl hx) (v := .non) (u := .none) rfl (fun s1 I1 => ?_) (.inr hx)))
  unfold unbindBehindTheSuite
  refine wpAny_onRaise ?_
  unfold unbindName
  refine wpAny_bind (wpAny_point (wpAny_bind ?_))
  unfold deleteName
  simp only [hl, hcls]
  rw [if_neg (by decide)]
  obtain ⟨m, hn, hl'⟩ := id I1.loc
  have hiσ : i < σ.length := by rw [I.len]; exact (List.getElem?_eq_some_iff.mp hi).1
  have hmn : (m n).isSome = true := by
    obtain ⟨u, r, l⟩ := hl' i n .non hi (by rw [List.getElem?_set_self hiσ]) (.inl hx)
    rcases l with ⟨_, z⟩ | ⟨k, _⟩
    · rw [z]; rfl
    · rcases k with k | k
      · rw [hl] at k; cases k
      · rw [hl] at k; cases k
  refine wpAny_bind (wpAny_nsDel_keeps hn fun h2 v hn2 hs2 => ?_)
  rw [hmn]
  simp only [if_true, Bool.not_true, Bool.false_eq_true, if_false]
  refine wpAny_pure (wpAny_point (h _ ?_))
  have I2 : Inv X pins (σ.set i none) H { s1 with heap := h2, toks := s1.toks } := I1.reframe hn2 hs2 (by simp) (fun m0 hn0 hv0 j y v e1 e2 e3 => by
    have em : m0 = m := by
      funext z
      obtain ⟨o1, es1, ep1, a1, b1, _, c1⟩ := hn0
      obtain ⟨o2, es2, ep2, a2, b2, _, c2⟩ := hn
      rw [a1] at a2; cases a2
      rw [b1] at b2; cases b2
      rw [<- c1, <- c2]
    subst em
    have hj : j ≠ i := by
      rintro rfl
      rw [List.getElem?_set_self hiσ] at e2; cases e2
    rw [List.getElem?_set_ne (Ne.symm hj)] at e2
    obtain ⟨u, r, l⟩ := hv0 j y v e1 (by rw [List.getElem?_set_ne (Ne.symm hj)]; exact e2) e3
    refine ⟨u, r, ?_⟩
    have hy : y ≠ n := fun z => hj (nodup_ix hN e1 (z ▸ hi))
    rcases l with ⟨k, z⟩ | l
    · exact .inl ⟨k, by show (if y = n then _ else m0 y) = some u; rw [if_neg hy]; exact z⟩
    · exact .inr l)
  exact I2
end
end L2
set_option maxRecDepth 100000
set_option maxHeartbeats 4000000
namespace L2
open PySem PySem.Spec PyProof.Rows
structure ErrI (K : PySem.W.Frag) (C : Addr) : Prop where
  ga : PySem.W.findIn K (.ref C) "__getattribute__" = some (some (.builtin "BaseException.__getattribute__"))
  gt : PySem.W.findIn K (.ref C) "__getattr__" = some none
  cl : PySem.W.findIn K (.ref C) "__class__" = some (some (.builtin "object.__class__"))
  sp : PySem.W.specialIn K (.builtin "object.__class__") "__get__" = some (some (.builtin "getset_descriptor.__get__"))
  tk : PySem.W.takesIn K (.builtin "object.__class__") = some true
  mo : PySem.W.mroIn K C (.type "object") = some true
  mb : PySem.W.mroIn K C (.type "BaseException") = some true
  it : (PySem.W.clsIn K C).isSome = true
section
open PySem.W Builtin Builtin.ObjectAttr Builtin.Getset_descriptor
variable {prog : Program} {w : World} {A : Around} {E : Value -> Shared -> Prop} {s : Shared} {K : Frag} {e C : Addr}
theorem exc_class {Q : Option Value -> Shared -> Prop} (c : ErrI K C) (X : K.In s.heap) (LT : Looks (model prog w) s.heap (typeOf (.ref e)) (.ref C)) (h : Q (some (.ref C)) { s with toks := s.toks + 1 }) : wpAny (model prog w) A (getAttr? (.ref e) "__class__") Q E s := by
  obtain ⟨hh, g, d, t, os⟩ := s
  have L1 := looks_findIn (M := model prog w) X c.ga
  have L2' := looks_findIn (M := model prog w) X c.gt
  have L3 := looks_findIn (M := model prog w) X c.cl
  have L4 := looks_specialIn (M := model prog w) X c.sp
  have L5 := looks_takesIn (M := model prog w) X c.tk
  have L6 := looks_mroIn (M := model prog w) X c.mo
  have L7 := looks_mroIn (M := model prog w) X c.mb
  have hb := PySem.F.attr_ValueError.ga.bind (.ref e)
  unfold getAttr? getAttrBy? getAttrBy
  refine wpAny_bind (wpAny_mkText (wpAny_bind (wpAny_attempt (wpAny_holding ?_))))
  repeat (first | with_reducible refine wpAny_attempt ?_ | with_reducible refine wpAny_call ?_ | lk)
  refine codeAny_call_builtin PySem.F.attr_ValueError.ga.plain F.entry_bexc_ga ?_
  have hk : builtinKind "BaseException.__getattribute__" = some .slot := by decide +kernel
  have hsp : splitId "BaseException.__getattribute__" = some ("BaseException", "__getattribute__") := by decide +kernel
  have har := F.args_bexc_ga (.ref e) (.str "__class__" t)
  simp only [checkBuiltinCall, hk, hsp]
  unfold isInstance
  repeat (first | with_reducible refine wpAny_attempt ?_ | with_reducible refine wpAny_call ?_ | lk)
  have z : codeAny (model prog w) A.in1 (.call (.builtin "getset_descriptor.__get__") ⟨[.builtin "object.__class__", .ref e, .ref C], []⟩) (fun r s' => r = .ok (.ret (.ref C)) /\ s' = ⟨hh, g, d, t + 1, os⟩) ⟨hh, g, d, t + 1, os⟩ := by
    refine codeAny_call_builtin KF.slot_gs.plain KF.entry_gs ?_
    refine KF.slot_gs.check _ _ _ _ _ _ _ _ KF.type_class (KF.args_gs _ _ _) ?_
    unfold Builtin.«getset_descriptor.__get__»
    unfold descrGet
    rw [dga_obj]
    refine wpAny_bind (wpAny_pure ?_)
    unfold descrGetter descrCheckInstance
    unfold descrNameAndClass isInstance
    simp only [KF.owner_class]
    repeat lk
    refine ⟨Code.quiet_builtin _ (by decide +kernel), ?_⟩
    refine codeAny_builtin KF.entry_class ?_
    unfold Builtin.«object.__class__»
    unfold shownTypeOf
    repeat lk
    exact ⟨rfl, rfl⟩
  refine codeAny_mono z fun r s' q => ?_
  obtain ⟨rfl, rfl⟩ := q
  repeat lk
  exact h
end
end L2
set_option maxRecDepth 100000
set_option maxHeartbeats 4000000
namespace L2
open PySem PySem.Spec PyProof.Rows
section
open PySem.W
variable {K : Frag} {e C : Addr}
theorem errI_isType (c : ErrI K C) {M : Model} {h : Heap} (X : K.In h) : Looks M h (isType (.ref C)) true := by
  have z := c.it
  unfold clsIn at z
  split at z
  · rename_i a b cd sl ho
    intro A' Q' E' s' k q
    unfold isType
    unfold loadHead
    refine wpAny_bind (wpAny_loadPart (k _ _ (X _ _ ho)) ?_)
    exact wpAny_pure q
  · cases z
theorem kitx_exc (c : ErrI K C) : KitX K (.ref e) (.ref C) (fun h => ∃ o, h.get? e = some o /\ o.cls = .ref C) where
  ty := fun M h _ p => by
    obtain ⟨o, h1, h2⟩ := p
    exact h2 ▸ (Looks.ld h1).andThen .now
  it := fun _ _ X _ => errI_isType c X
  ne := fun h tp dd its n sl X htp => by
    refine Bool.eq_false_iff.mpr fun q => ?_
    have ee : C = tp := Value.ref.inj (beq_iff_eq.mp q)
    subst ee
    have z := c.it
    unfold clsIn at z
    split at z
    · rename_i a b cd sl' ho
      rw [X _ _ ho] at htp
      cases htp
    · cases z
  ca := fun {prog w A E Q s} X p k => by
    obtain ⟨o, h1, h2⟩ := p
    exact exc_class c X (h2 ▸ (Looks.ld h1).andThen .now) k
end
inductive IsTy (K : PySem.W.Frag) (pn : List (Addr × Obj)) (H : Hp) : V -> Value -> Prop where
  | of {x : V} {t : Value} (h : TyOf K H x t) : IsTy K pn H x t
  | frd {a : Addr} {o : Obj} {kvs : List (Key × V)} (e : H a = some (.frz o (.dK kvs))) : IsTy K pn H (.ref a) (.type "dict")
  | exc {a C : Addr} {oe : Obj} (hm : (a, oe) ∈ pn) (hc : oe.cls = .ref C) (c : ErrI K C) : IsTy K pn H (.ref a) (.ref C)
inductive ClV : V -> Value -> Prop where
  | ref (a : Addr) : ClV (.ref a) (.ref a)
  | ty (n : String) : ClV (.ty n) (.type n)
noncomputable def rIsi (K : PySem.W.Frag) (pn : List (Addr × Obj)) : List V -> Hp -> VK -> Prop := fun xs H Q => ∃ x c t u b, xs = [x, c] /\ IsTy K pn H x t /\ ClV c u /\ PySem.W.kitOne K t u = some b /\ Q (.bl b) H
theorem call_isi {X : Cx} : CallR X (.builtin "isinstance") (rIsi X.K X.pn) := by
  intro pins s σ H xs us Q I r h
  obtain ⟨x, c, t, u, b, rfl, ht, hc, hk, q⟩ := h
  obtain ⟨u1, u2, rfl, rx, rc⟩ := vals2 r
  have e2 : u2 = u := by cases hc with
    | ref a => exact rc
    | ty n => exact rc
  subst e2
  cases ht with
  | of ht => exact isinst_ok I rx ht hk fun tk => ⟨.bl b, H, I.tok tk, rfl, q⟩
  | @frd a o kvs e =>
    obtain rfl : u1 = Value.ref a := rx
    obtain ⟨_, _, _, vs, _, p⟩ := (show ObjOk X.prog X.w H s.heap a (.frz o (.dK kvs)) from I.hok a _ e)
    obtain ⟨o', es, ep, h1, h2, _⟩ := p
    exact PySem.W.kia_one PySem.W.kitx_dict I.kIn ⟨o', h1, h2.1⟩ hk (fun z => by cases z) fun tk => ⟨.bl b, H, I.tok tk, rfl, q⟩
  | exc hm hcl ci =>
    obtain ⟨e1, _⟩ := I.pin _ (List.mem_append_left _ hm)
    obtain rfl : u1 = Value.ref _ := rx
    exact PySem.W.kia_one (kitx_exc ci) I.kIn ⟨_, e1, hcl⟩ hk (fun z => by cases z) fun tk => ⟨.bl b, H, I.tok tk, rfl, q⟩
end L2
set_option maxRecDepth 100000
set_option maxHeartbeats 4000000
namespace L2
open PySem PySem.Spec PyProof.Rows
section
variable {X : Cx} {pins : List (Addr × Obj)} {σ : St} {H : Hp} {s : Shared}
theorem Inv.flown {h' B : Heap} {old : Addr -> Prop} (I : Inv X pins σ H s) (hst : X.stack = X.env :: X.outer) (hf : X.env.frame = some X.env.locals) (st : B.StaysIn h') (up : s.heap.UpToSlots h')
    (cov : ∀ b o, s.heap.get? b = some o -> b ∉ frs X.stack -> (H b ≠ none \/ old b) -> B.get? b = some o) (o1 : ∀ b o, X.s₀.heap.get? b = some o -> b ∉ X.ex -> old b) (o3 : ∀ p ∈ X.pn ++ pins, old p.1) :
    Inv X pins σ H { s with heap := h' } := by
  have trkd : ∀ b u v, H b = some u -> s.heap.get? b = some v -> h'.get? b = some v := fun b u v q r => st b v (cov b v r (I.trkNo q) (.inl (by rw [q]; simp)))
  have oldd : ∀ b o v, X.s₀.heap.get? b = some o -> b ∉ X.fs -> b ∉ X.ex -> s.heap.get? b = some v -> h'.get? b = some v := fun b o v q n x r => st b v (cov b v r (I.oldNo hst hf q n) (.inr (o1 b o q x)))
  have frms : ∀ b o, b ∈ X.fs -> s.heap.get? b = some o -> ∃ sl, h'.get? b = some { o with slots := sl } := fun b o hb q => by
    obtain ⟨_, o2, ho2, nf⟩ := I.funs.mem hb
    rw [q] at ho2; cases ho2
    exact up b o q nf
  have cellK : ∀ c v, s.heap.IsCell c v -> h'.IsCell c v := fun c v ⟨o, ho, hd⟩ => by
    obtain ⟨sl, e⟩ := up c o ho (fun vs q => by rw [hd] at q; cases q)
    exact ⟨_, e, hd⟩
  refine ⟨I.ok, I.os, I.bare, ⟨fun b o q n hb hx => oldd b o o q hb hx (I.base.keep b o q n hb hx), fun b o q n hb hx => ?_, I.base.free, fun b o q hx => ?_, I.base.tups, I.base.frzs, I.base.tbls⟩, ?_, fun y c q => ?_, I.free, I.freeC, fun p hp => ?_, fun b u q => ?_, I.len⟩
  · obtain ⟨sl, e1⟩ := I.base.slot b o q n hb hx
    obtain ⟨sl', e2⟩ := frms b _ hb e1
    exact ⟨sl', e2⟩
  · obtain ⟨o1', e1⟩ := I.base.there b o q hx
    by_cases hb : b ∈ X.fs
    · obtain ⟨sl, e2⟩ := frms b o1' hb e1
      exact ⟨_, e2⟩
    · exact ⟨o1', oldd b o o1' q hb hx e1⟩
  · obtain ⟨m, hn, hl⟩ := I.loc
    refine ⟨m, up.ns hn, fun i x v e1 e2 e3 => ?_⟩
    obtain ⟨u, r, l⟩ := hl i x v e1 e2 e3
    refine ⟨u, r, ?_⟩
    rcases l with l | ⟨k, c, e, z⟩
    · exact .inl l
    · exact .inr ⟨k, c, e, cellK c _ z⟩
  · obtain ⟨v, z⟩ := I.cell y c q
    exact ⟨v, cellK c v z⟩
  · obtain ⟨q, n, ne, nf, d⟩ := I.pin p hp
    have hns : p.1 ∉ frs X.stack := fun m => by
      rcases List.mem_cons.mp (I.stkSub p.1 m) with z | z
      · exact ne z
      · exact nf z
    exact ⟨st _ _ (cov _ _ q hns (.inr (o3 p hp))), n, ne, nf, d⟩
  · refine (I.hok b u q).stay (fun c v hc r => ?_) (fun _ z => z) fun _ _ z => z
    rcases hc with z | z
    · exact trkd c u v (by rw [z]; exact q) r
    · exact trkd c _ v z r
end
end L2
set_option maxRecDepth 100000
set_option maxHeartbeats 4000000
namespace L2
open PySem PySem.Spec PyProof.Rows
noncomputable def closL (cells : List (Str × Addr)) : List (Str × NameKind) -> List (Str × Addr) -> List (Str × Addr)
  | [], acc => acc
  | (n, k) :: r, acc => closL cells r (if (k == .free) = true then (n, (cells.lookup n).getD 0) :: acc else acc)
theorem closureFor_of {scope : Scope} {env : Env} (h : ∀ y ∈ scope.names, y.2 = .free -> ∃ c, env.cells.lookup y.1 = some c) : closureFor scope env = pure (closL env.cells scope.names []) := by
  have go : ∀ (l : List (Str × NameKind)) (acc : List (Str × Addr)), (∀ y ∈ l, y.2 = .free -> ∃ c, env.cells.lookup y.1 = some c) ->
      (forIn l acc fun (x : Str × NameKind) (r : List (Str × Addr)) => (if (x.2 == .free) = true then (do let a <- cellOf env x.1; pure (ForInStep.yield ((x.1, a) :: r))) else pure (ForInStep.yield r) : Sem (ForInStep (List (Str × Addr))))) = pure (closL env.cells l acc) := by
    intro l
    induction l with
    | nil => intro acc _; rfl
    | cons x r ih =>
      intro acc hx
      obtain ⟨n, k⟩ := x
      rw [List.forIn_cons]
      have hr := fun acc => ih acc fun y hy => hx y (List.mem_cons_of_mem _ hy)
      by_cases hk : (k == NameKind.free) = true
      · obtain ⟨c, hc⟩ := hx (n, k) List.mem_cons_self (by simpa using hk)
        have hc' : env.cells.lookup n = some c := hc
        have e1 : cellOf env n = pure c := by unfold cellOf; rw [hc']
        simp only [hk, if_true, e1, pure_bind]
        unfold closL
        rw [if_pos hk, hc']
        exact hr _
      · simp only [hk, Bool.false_eq_true, if_false, pure_bind]
        unfold closL
        rw [if_neg hk]
        exact hr _
  unfold closureFor
  have e := go scope.names [] h
  simp only [bind_pure_comp, map_pure] at e ⊢
  first | exact e | (simp only [e, bind_pure]; done) | (rw [show (forIn scope.names ([] : List (Str × Addr)) _) = _ from e]; rfl)
theorem closL_lookup {cells : List (Str × Addr)} {x : Str} {c : Addr} : ∀ {names : List (Str × NameKind)} {acc : List (Str × Addr)}, (closL cells names acc).lookup x = some c -> acc.lookup x = some c \/ ((x, NameKind.free) ∈ names /\ c = (cells.lookup x).getD 0)
  | [], acc, h => .inl h
  | (n, k) :: r, acc, h => by
    unfold closL at h
    rcases closL_lookup h with z | ⟨z, e⟩
    · by_cases hk : (k == NameKind.free) = true
      · rw [if_pos hk] at z
        by_cases hx : (x == n) = true
        · rw [List.lookup_cons, hx] at z
          have e1 : x = n := by simpa using hx
          have e2 : k = NameKind.free := by simpa using hk
          subst e1 e2
          exact .inr ⟨List.mem_cons_self, (Option.some.inj z).symm⟩
        · have hx' : (x == n) = false := by simpa using hx
          rw [List.lookup_cons, hx'] at z
          exact .inl z
      · rw [if_neg hk] at z
        exact .inl z
    · exact .inr ⟨List.mem_cons_of_mem _ z, e⟩
theorem closL_has {cells : List (Str × Addr)} {x : Str} : ∀ {names : List (Str × NameKind)} {acc : List (Str × Addr)}, ((x, NameKind.free) ∈ names \/ ∃ c, acc.lookup x = some c) -> ∃ c, (closL cells names acc).lookup x = some c
  | [], acc, h => by
    rcases h with h | h
    · cases h
    · exact h
  | (n, k) :: r, acc, h => by
    unfold closL
    refine closL_has ?_
    rcases h with h | ⟨c, h⟩
    · rcases List.mem_cons.mp h with z | z
      · cases z
        refine .inr ⟨(cells.lookup x).getD 0, ?_⟩
        rw [if_pos (by decide), List.lookup_cons]
        simp only [beq_self_eq_true]
      · exact .inl z
    · by_cases hk : (k == NameKind.free) = true
      · rw [if_pos hk]
        by_cases hx : (x == n) = true
        · exact .inr ⟨_, by rw [List.lookup_cons, hx]⟩
        · have hx' : (x == n) = false := by simpa using hx
          exact .inr ⟨c, by rw [List.lookup_cons, hx']; exact h⟩
      · rw [if_neg hk]
        exact .inr ⟨c, h⟩
theorem lookup_relabel_of {env : Env} {x : Str} {k : NameKind} : ∀ {names : List (Str × NameKind)}, (names.map fun (n, k) => if (k == NameKind.free && env.scope.kind == .function && env.kindOf n == some .cell) then (n, NameKind.cell) else (n, k)).lookup x = some k ->
    ∃ k', names.lookup x = some k' /\ (k = k' \/ (k' = .free /\ k = .cell))
  | [], h => by cases h
  | (n, j) :: r, h => by
    rw [List.map_cons] at h
    by_cases hx : (x == n) = true
    · refine ⟨j, by rw [List.lookup_cons, hx], ?_⟩
      dsimp only at h
      by_cases hc : (j == NameKind.free && env.scope.kind == .function && env.kindOf n == some .cell) = true
      · rw [if_pos hc, List.lookup_cons, hx] at h
        simp only [Bool.and_eq_true] at hc
        exact .inr ⟨by simpa using hc.1.1, (Option.some.inj h).symm⟩
      · rw [if_neg hc, List.lookup_cons, hx] at h
        exact .inl (Option.some.inj h).symm
    · have hx' : (x == n) = false := by simpa using hx
      have e : (r.map fun (n, k) => if (k == NameKind.free && env.scope.kind == .function && env.kindOf n == some .cell) then (n, NameKind.cell) else (n, k)).lookup x = some k := by
        dsimp only at h
        by_cases hc : (j == NameKind.free && env.scope.kind == .function && env.kindOf n == some .cell) = true
        · rw [if_pos hc, List.lookup_cons, hx'] at h; exact h
        · rw [if_neg hc, List.lookup_cons, hx'] at h; exact h
      obtain ⟨k', e1, e2⟩ := lookup_relabel_of e
      exact ⟨k', by rw [List.lookup_cons, hx']; exact e1, e2⟩
structure CompScope (X : Cx) (N' : List Str) (fr : List (Option Nat)) (scope : Scope) : Prop where
  kind : scope.kind = .function
  nocell : ∀ y ∈ scope.names, y.2 ≠ .cell
  loc : ∀ y ∈ scope.names, y.2 = .local -> scope.names.lookup y.1 = some .local
  free : ∀ y ∈ scope.names, y.2 = .free -> ∃ c, X.env.cells.lookup y.1 = some c
  len : fr.length = N'.length
  fre : ∀ (j i : Nat) (x : Str), fr[j]? = some (some i) -> N'[j]? = some x -> X.N[i]? = some x /\ scope.names.lookup x = some .free /\ (X.env.kindOf x = some .cell \/ X.env.kindOf x = some .free)
noncomputable def compSt (fr : List (Option Nat)) (σ : St) : St := fr.map fun o => o.bind fun i => (σ[i]?).join
noncomputable def compCx (X : Cx) (scope : Scope) (N' : List Str) (s₃ : Shared) (H₃ : Hp) (fp : List Addr) (pins : List (Addr × Obj)) : Cx :=
  { X with N := N', s₀ := s₃, H₀ := H₃, env := compEnvC scope (closL X.env.cells scope.names []) s₃.heap.objs.size X.env, outer := X.stack, stack := X.stack, ex := fp, fn := fun _ => false, pn := X.pn ++ pins, xe := fun _ _ => False }
section
variable {X : Cx} {pins : List (Addr × Obj)} {σ : St} {H : Hp} {s : Shared} {N' : List Str} {fr : List (Option Nat)} {scope : Scope} {fp : List Addr}
theorem clos_cells (S : CompScope X N' fr scope) {x : Str} {c : Addr} (h : (closL X.env.cells scope.names []).lookup x = some c) : X.env.cells.lookup x = some c := by
  rcases closL_lookup h with z | ⟨z, e⟩
  · cases z
  · obtain ⟨c', hc⟩ := S.free _ z rfl
    have hc : X.env.cells.lookup x = some c' := hc
    rw [hc] at e
    rw [hc, e]; rfl
theorem comp_ok (I : Inv X pins σ H s) (S : CompScope X N' fr scope) (hf : ∀ b ∈ fp, FpOk X pins H b) (hlt : ∀ b ∈ fp, b < s.heap.objs.size) : (compCx X scope N' s H fp pins).Ok := by
  refine ⟨I.ok.mod, S.kind, I.ok.glob, I.ok.blt, Nat.le_refl _, fun x y c h1 h2 => I.ok.inj x y c (clos_cells S h1) (clos_cells S h2), fun x hx => ?_, (fun x c z => by cases z), I.ok.hd, I.ok.frames, .inl rfl, fun b hb => ⟨Nat.ne_of_lt (hlt b hb), fun x c h => (hf b hb).2.2.2.2.1 x c (clos_cells S h)⟩,
    I.bs, Nat.le_trans I.ok.bsz I.sz, fun b o e hb => ?_, fun b hb hm => ?_, I.stack, I.stkFree⟩
  · have hx : (relabel scope X.env).names.lookup x = some .cell \/ (relabel scope X.env).names.lookup x = some .free := hx
    have key : scope.names.lookup x = some .free := by
      rcases hx with h | h
      · obtain ⟨k', e1, e2⟩ := lookup_relabel_of h
        rcases e2 with z | ⟨z, _⟩
        · exact absurd z.symm (S.nocell _ (PySem.mem_of_lookup e1))
        · rw [e1, z]
      · obtain ⟨k', e1, e2⟩ := lookup_relabel_of h
        rcases e2 with z | ⟨_, z⟩
        · rw [e1, <- z]
        · cases z
    exact closL_has (.inl (PySem.mem_of_lookup key))
  · rcases (hf b hb).2.2.2.1 with z | z
    · exact I.ok.noex b o e z
    · exact absurd (Nat.lt_of_lt_of_le (Heap.lt_size e) (Nat.le_trans I.ok.bsz z)) (Nat.lt_irrefl _)
  · rcases List.mem_cons.mp (I.stkSub b hm) with z | z
    · exact (hf b hb).2.1 z
    · exact (hf b hb).2.2.1 z
theorem comp_in {h' : Heap} {m : Str -> Option Value} {tk : Nat} (I : Inv X pins σ H s) (S : CompScope X N' fr scope) (hf : ∀ b ∈ fp, FpOk X pins H b) (hlt : ∀ b ∈ fp, b < s.heap.objs.size) (hn : h'.Ns s.heap.objs.size m)
    (hk : ∀ b o, s.heap.get? b = some o -> h'.get? b = some o) : Inv (compCx X scope N' s H fp pins) [] (compSt fr σ) H { s with heap := h', toks := tk } := by
  refine ⟨comp_ok I S hf hlt, rfl, I.bare, Un.kept hk, ⟨m, hn, fun j x v e1 e2 e3 => ?_⟩, fun x c h => ?_, I.hok.fresh (Nat.le_refl _), fun x c h => I.freeC x c (clos_cells S h), fun p hp => ?_, I.hok.kept hk, by unfold compSt; rw [List.length_map]; exact S.len⟩
  · have e1 : N'[j]? = some x := e1
    unfold compSt at e2
    rw [List.getElem?_map] at e2
    cases hj : fr[j]? with
    | none => rw [hj] at e2; cases e2
    | some o =>
      rw [hj] at e2
      cases o with
      | none => cases e2
      | some i =>
        have e2 : (σ[i]?).join = some v := Option.some.inj e2
        have e2' : σ[i]? = some (some v) := by
          cases hq : σ[i]? with
          | none => rw [hq] at e2; cases e2
          | some w => rw [hq] at e2; rw [show w = some v from e2]
        obtain ⟨n1, n2, n3⟩ := S.fre j i x hj e1
        obtain ⟨m0, hn0, hl⟩ := I.loc
        have hvis : Vis X.env.scope x := by
          rcases n3 with z | z
          · exact .inr (.inl z)
          · exact .inr (.inr z)
        obtain ⟨u, r, l⟩ := hl i x v n1 e2' hvis
        refine ⟨u, r, .inr ⟨?_, ?_⟩⟩
        · have hh : ∀ {names : List (Str × NameKind)}, names.lookup x = some .free -> (names.map fun (n, k) => if (k == NameKind.free && X.env.scope.kind == .function && X.env.kindOf n == some .cell) then (n, NameKind.cell) else (n, k)).lookup x = some .cell \/
              (names.map fun (n, k) => if (k == NameKind.free && X.env.scope.kind == .function && X.env.kindOf n == some .cell) then (n, NameKind.cell) else (n, k)).lookup x = some .free := by
            intro names
            induction names with
            | nil => intro z; cases z
            | cons y r ih =>
              obtain ⟨n, k⟩ := y
              intro z
              rw [List.map_cons]
              dsimp only
              by_cases hx : (x == n) = true
              · rw [List.lookup_cons, hx] at z
                by_cases hc : (k == NameKind.free && X.env.scope.kind == .function && X.env.kindOf n == some .cell) = true
                · rw [if_pos hc]; exact .inl (by rw [List.lookup_cons, hx])
                · rw [if_neg hc]; exact .inr (by rw [List.lookup_cons, hx]; exact z)
              · have hx' : (x == n) = false := by simpa using hx
                rw [List.lookup_cons, hx'] at z
                have := ih z
                by_cases hc : (k == NameKind.free && X.env.scope.kind == .function && X.env.kindOf n == some .cell) = true
                · rw [if_pos hc, List.lookup_cons, hx']; exact this
                · rw [if_neg hc, List.lookup_cons, hx']; exact this
          exact hh n2
        · rcases l with ⟨k, _⟩ | ⟨k, c, e, z⟩
          · rcases n3 with q | q
            · rw [q] at k; cases k
            · rw [q] at k; cases k
          · obtain ⟨c', hc'⟩ := closL_has (cells := X.env.cells) (x := x) (names := scope.names) (acc := []) (.inl (PySem.mem_of_lookup n2))
            have e' := clos_cells S hc'
            rw [e] at e'; cases e'
            obtain ⟨o, ho, hd⟩ := z
            exact ⟨c, hc', o, hk _ _ ho, hd⟩
  · obtain ⟨v, o, ho, hd⟩ := I.cell x c (clos_cells S h)
    exact ⟨v, o, hk _ _ ho, hd⟩
  · have hp : p ∈ (X.pn ++ pins) ++ [] := hp
    rw [List.append_nil] at hp
    obtain ⟨q, n, ne, nf, d⟩ := I.pin p hp
    refine ⟨hk _ _ q, n, Nat.ne_of_lt (Heap.lt_size q), fun hm => ?_, d⟩
    rcases List.mem_cons.mp (I.stkSub p.1 hm) with z | z
    · exact ne z
    · exact nf z
end
end L2
set_option maxRecDepth 100000
set_option maxHeartbeats 4000000
namespace L2
open PySem PySem.Spec PyProof.Rows
section
variable {X : Cx} {pins : List (Addr × Obj)} {σ τ : St} {H H₃ H5 : Hp} {s₃ s5 : Shared} {N' : List Str} {scope : Scope} {fp : List Addr}
theorem comp_out {h' : Heap} (I : Inv X pins σ H₃ s₃) (J : Inv (compCx X scope N' s₃ H₃ fp pins) [] τ H5 s5) (hf : ∀ b ∈ fp, FpOk X pins H₃ b) (hs : Heap.SameBut s₃.heap.objs.size s5.heap h') : Inv X pins σ H5 { s5 with heap := h' } := by
  have hb : ∀ b o, s₃.heap.get? b = some o -> b ≠ s₃.heap.objs.size := fun b o q => Nat.ne_of_lt (Heap.lt_size q)
  have u : Un (frs X.stack) fp H₃ H5 s₃.heap s5.heap := J.base
  refine I.call' (s' := { s5 with heap := h' }) (ch := fp) J.os ⟨fun b o q n h1 h2 => (hs.2 b (hb b o q)).trans (u.keep b o q n h1 h2), fun b o q n h1 h2 => ?_, u.free, fun b o q h2 => ?_, u.tups, u.frzs, u.tbls⟩ (fun b ob q => ?_) J.bare (fun b m => ⟨(hf b m).2.2.2.1, (hf b m).2.1, (hf b m).2.2.2.2.1, (hf b m).2.2.2.2.2⟩)
  · obtain ⟨sl, e⟩ := u.slot b o q n h1 h2
    exact ⟨sl, (hs.2 b (hb b o q)).trans e⟩
  · obtain ⟨o', e⟩ := u.there b o q h2
    exact ⟨o', (hs.2 b (hb b o q)).trans e⟩
  · have fr : H5 s₃.heap.objs.size = none := J.free
    refine (J.hok b ob q).stay (fun c v hc r => (hs.2 c ?_).trans r) (fun _ z => z) fun _ _ z => z
    rintro rfl
    rcases hc with rfl | hc
    · rw [fr] at q; cases q
    · rw [fr] at hc; cases hc
end
noncomputable def PTs (X : Cx) (ifs : List Expr) (t : TT) : Prop :=
  ∀ (pins : List (Addr × Obj)) (s : Shared) (σ : St) (H : Hp) (Q : Bool -> Hp -> Prop), Inv X pins σ H s -> t σ H Q ->
    wpAny (model X.prog X.w) X.A (forIn ifs true fun c r => if r = true then do let ok <- isTrue c X.env (eval c X.env); pure (ForInStep.yield ok) else pure (ForInStep.yield r)) (TP X pins σ Q) X.xe s
noncomputable def tYes : TT := fun _ H Q => Q true H
theorem pts_nil {X : Cx} : PTs X [] tYes := fun _ _ _ H _ I h => wpAny_tests_nil ⟨H, I, h⟩
theorem pts_one {X : Cx} {c : Expr} {t : TT} (h : PT X c t) : PTs X [c] t := fun pins s σ H Q I q => wpAny_tests_one (h pins s σ H Q I q)
noncomputable def tComp (fr : List (Option Nat)) (wi : TI) (g : TG) (tc : TT) (te : TE) : TE := fun σ H Q => wi σ H fun J H1 => ∀ D, H1 D = none ->
  ∃ W : Nat -> Nat -> List V -> St -> Hp -> Prop, (∃ m, W 0 m [] (compSt fr σ) (upd H1 D (.lst []))) /\ ∀ i m ys τ H2, W i m ys τ H2 -> H2 D = some (.lst ys) /\
    ((J.stop i H2 /\ Q (.ref D) H2) \/ (J.go i H2 /\ ∀ x H3, J.yld i H2 x H3 -> g x τ H3 fun τ' H4 => tc τ' H4 fun b H5 => if b = true then te τ' H5 fun y H6 => H6 D = some (.lst ys) /\ ys.length < sizeLine /\ ∃ m', m' < m /\ W (i + 1) m' (ys ++ [y]) τ' (upd H6 D (.lst (ys ++ [y])))
      else ∃ m', m' < m /\ W (i + 1) m' ys τ' H5))
theorem comp_gen {X : Cx} {N' : List Str} {fr : List (Option Nat)} {scope : Scope} {tg iter elt : Expr} {ifs : List Expr} {wi : TI} {g : TG} {tc : TT} {te : TE} {pos cp : Pos} {use : Option (Value -> Sem Unit)} {Qf : Value -> Shared -> Prop} (hc : X.calm = true) (S : CompScope X N' fr scope) (hi : PI X tg iter wi)
    (hg : ∀ s₃ H₃ fp pins, PG (compCx X scope N' s₃ H₃ fp pins) tg g) (ht : ∀ s₃ H₃ fp pins, PTs (compCx X scope N' s₃ H₃ fp pins) ifs tc) (he : ∀ s₃ H₃ fp pins, PE (compCx X scope N' s₃ H₃ fp pins) elt te)
    (hs : ∀ x, foldedSetIterable iter X.env x = pure x) {pins : List (Addr × Obj)} {s : Shared} {σ : St} {H : Hp} {Q : VK} (I : Inv X pins σ H s) (h : tComp fr wi g tc te σ H Q)
    (hfin : ∀ (s₃ : Shared) (H₃ : Hp) (fp : List Addr) (D : Addr) (s6 : Shared) (τ : St) (H5 : Hp) (fl : Flow), Inv X pins σ H₃ s₃ -> (∀ b ∈ fp, FpOk X pins H₃ b) -> Inv (compCx X scope N' s₃ H₃ fp pins) [] τ H5 s6 -> Q (.ref D) H5 ->
      compPost (model X.prog X.w) X.A X.xe use Qf (.ref D) s₃.heap.objs.size (.ok fl) s6) :
    wpAny (model X.prog X.w) X.A (comprehension (.ListComp elt [⟨tg, iter, ifs, 0⟩] scope pos) scope X.env cp (newList []) false (eval iter X.env) use) Qf X.xe s := by
  refine wpAny_comprehension_free (use := use) rfl hs (closureFor_of S.free) S.kind S.loc ?_
  refine thn (hi pins s σ H _ I h) fun v s1 h1 => thn h1 fun itv s2 h2 => ?_
  obtain ⟨it, fp, tn, J, H2, rfl, I2, T, st2, f2, hW⟩ := h2
  refine wpAny_newObj_type ?_ (by size_fits)
  have hD : H2 s2.heap.objs.size = none := I2.hok.fresh (Nat.le_refl _)
  have I3 : Inv X pins σ (upd H2 s2.heap.objs.size (.lst [])) { s2 with heap := s2.heap.push { cls := .type "list", data := .seq ([] : List Value).toArray }, toks := s2.toks } :=
    I2.laid (fun b u e => Heap.get?_push_of_some _ e) (Nat.le_refl _) ⟨Nat.zero_le _, [], 0, .nil, Heap.get?_push_size _ rfl⟩
  generalize eD : s2.heap.objs.size = D at I3 hD ⊢
  generalize eH : upd H2 D (.lst []) = H3 at I3
  have f3 : ∀ b ∈ fp, FpOk X pins H3 b := fun b hb => by
    obtain ⟨g0, g1⟩ := f2 b hb
    refine ⟨?_, g1⟩
    obtain ⟨o, ho, _⟩ := T.obj 0 _ st2 b hb
    rw [<- eH, upd_ne (by rw [<- eD]; exact Nat.ne_of_lt (Heap.lt_size ho))]
    exact g0
  have lt3 : ∀ b ∈ fp, b < (s2.heap.push { cls := .type "list", data := .seq ([] : List Value).toArray }).objs.size := fun b hb => by
    obtain ⟨o, ho, _⟩ := T.obj 0 _ st2 b hb
    rw [Heap.size_push]
    exact Nat.lt_succ_of_lt (Heap.lt_size ho)
  have st3 : tn 0 (s2.heap.push { cls := .type "list", data := .seq ([] : List Value).toArray }) := T.keep _ _ _ st2 fun b _ o e => Heap.get?_push_of_some _ e
  obtain ⟨W, ⟨m0, w0⟩, turn⟩ := hW D hD
  rw [eH] at w0
  generalize es3 : ({ s2 with heap := s2.heap.push { cls := .type "list", data := .seq ([] : List Value).toArray }, toks := s2.toks } : Shared) = s3 at I3
  have lt3 : ∀ b ∈ fp, b < s3.heap.objs.size := by rw [<- es3]; exact lt3
  have st3 : tn 0 s3.heap := by rw [<- es3]; exact st3
  refine wpAny_newFunctionEnv S.nocell (by intro y hy; cases hy) (fun h4 hn4 hsb4 => ?_) S.kind
  have k4 : ∀ b o, s3.heap.get? b = some o -> h4.get? b = some o := fun b o e => (hsb4.2 b (Nat.ne_of_lt (Heap.lt_size e))).trans (Heap.get?_push_of_some _ e)
  have I4 : Inv (compCx X scope N' s3 H3 fp pins) [] (compSt fr σ) H3 { s3 with heap := h4, toks := s3.toks + ([] : List (Str × Value)).length } := comp_in I3 S f3 lt3 hn4 k4
  have st4 : tn 0 h4 := T.keep _ _ _ st3 fun b _ o e => k4 b o e
  have stat : ∀ {H' : Hp} {p' : List (Addr × Obj)}, p' = [] -> (∀ b ∈ fp, H' b = none) -> ∀ b ∈ fp, FpOk (compCx X scope N' s3 H3 fp pins) p' H' b := fun {H' p'} hp hn b hb => by
    subst hp
    obtain ⟨g0, g1, g2, g3, g4, g5⟩ := f3 b hb
    refine ⟨hn b hb, Nat.ne_of_lt (lt3 b hb), fun hm => ?_, .inl hb, fun x c h => g4 x c (clos_cells S h), fun p hp => ?_⟩
    · rcases List.mem_cons.mp (I3.stkSub b hm) with z | z
      · exact g1 z
      · exact g2 z
    · have hp : p ∈ (X.pn ++ pins) ++ [] := hp
      rw [List.append_nil] at hp
      exact g5 p hp
  have loop : ∀ s' : Shared, s' = { s3 with heap := h4, toks := s3.toks + ([] : List (Str × Value)).length } -> codeAny (model X.prog X.w) X.A (.compLoop (.ListComp elt [⟨tg, iter, ifs, 0⟩] scope pos) 0 (.ref it) (.ref D) (compEnvC scope (closL X.env.cells scope.names []) s3.heap.objs.size X.env))
      (compPost (model X.prog X.w) X.A X.xe use Qf (.ref D) s3.heap.objs.size) s' := by
    rintro s' rfl
    refine codeAny_loop rfl (fun n s' => ∃ i ys τ H', Inv (compCx X scope N' s3 H3 fp pins) [] τ H' s' /\ tn i s'.heap /\ (∀ b ∈ fp, H' b = none) /\ W i n ys τ H') ?_ m0 ⟨0, [], _, H3, I4, st4, fun b hb => (f3 b hb).1, w0⟩
    rintro n s5 ⟨i, ys, τ, H5, I5, st5, fr5, w5⟩
    show wpAny _ X.A ((compTurn (.ListComp elt [⟨tg, iter, ifs, 0⟩] scope pos) 0 (.ref it) (.ref D) (compEnvC scope (closL X.env.cells scope.names []) s3.heap.objs.size X.env)).onRaise (fun x => do noteFrame x (compEnvC scope (closL X.env.cells scope.names []) s3.heap.objs.size X.env); theTreesLotGoes x)) _ _ s5
    refine wpAny_noted ?_
    rw [compTurn_list]
    obtain ⟨hDy, hor⟩ := turn i n ys τ H5 w5
    rcases hor with ⟨stop, q⟩ | ⟨go, step⟩
    · refine wpAny_bind (wpAny_standAt (wpAny_bind (thn (T.done (compCx X scope N' s3 H3 fp pins) rfl rfl rfl hc i [] s5 τ H5 _ I5 (stat rfl fr5) st5 stop) fun r s6 ⟨hr, I6⟩ => ?_)))
      subst hr
      exact wpAny_pure (hfin s3 H3 fp D s6 τ H5 _ I3 f3 I6 q)
    · refine wpAny_bind (wpAny_standAt (wpAny_bind (thn (T.item (compCx X scope N' s3 H3 fp pins) rfl rfl rfl hc i [] s5 τ H5 _ I5 (stat rfl fr5) st5 go) fun r s6 ⟨u, hr, h6⟩ => ?_)))
      subst hr
      refine wpAny_bind (thn h6 fun _ s7 ⟨x, H7, I7, r7, y7, st7, fr7⟩ => ?_)
      have I7' := I7.pinned (stat rfl fr7) (T.obj _ _ st7)
      refine wpAny_bind (wpAny_mono (hg s3 H3 fp pins _ s7 τ H7 x u _ I7' r7 (step x H7 y7)) (fun _ s8 ⟨τ8, H8, I8, q8⟩ => ?_) fun _ _ z => False.elim z)
      refine wpAny_bind (wpAny_mono (ht s3 H3 fp pins _ s8 τ8 H8 _ I8 q8) (fun b s9 ⟨H9, I9, q9⟩ => ?_) fun _ _ z => False.elim z)
      have again : ∀ {s' : Shared} {H' : Hp}, Inv (compCx X scope N' s3 H3 fp pins) ([] ++ pinsAt fp s7.heap) τ8 H' s' -> tn (i + 1) s'.heap /\ ∀ b ∈ fp, H' b = none := fun {s' H'} I' => by
        refine ⟨T.keep _ _ _ st7 fun b hb o e => (I'.pin (b, o) (List.mem_append_right _ (List.mem_append_right _ (mem_pinsAt hb e)))).1, fun b hb => ?_⟩
        obtain ⟨o, e, d⟩ := T.obj _ _ st7 b hb
        exact (I'.pin (b, o) (List.mem_append_right _ (List.mem_append_right _ (mem_pinsAt hb e)))).2.1
      cases b with
      | false =>
        rw [if_neg Bool.false_ne_true] at q9
        obtain ⟨m', hm, w9⟩ := q9
        obtain ⟨a1, a2⟩ := again I9
        refine wpAny_pure ⟨rfl, m', hm, i + 1, ys, τ8, H9, I9.unpinned, a1, a2, w9⟩
      | true =>
        rw [if_pos rfl] at q9
        refine wpAny_bind (wpAny_bind (wpAny_mono (he s3 H3 fp pins _ s9 τ8 H9 _ I9 q9) (fun yv s10 ⟨y, H10, I10, r10, hD10, hz, m', hm, w10⟩ => ?_) fun _ _ z => False.elim z))
        refine wpAny_bind (wpAny_mono (mt_append (X := compCx X scope N' s3 H3 fp pins) _ s10 τ8 H10 (.ref D) [y] (.ref D) [yv] (fun _ H11 => H11 = upd H10 D (.lst (ys ++ [y]))) I10 rfl (.cons r10 .nil) ⟨D, ys, y, rfl, rfl, hD10, hz, rfl⟩) (fun _ s11 ⟨_, H11, I11, _, q11⟩ => ?_) fun _ _ z => False.elim z)
        subst q11
        obtain ⟨a1, a2⟩ := again I11
        exact wpAny_pure (wpAny_pure ⟨rfl, m', hm, i + 1, ys ++ [y], τ8, _, I11.unpinned, a1, a2, w10⟩)
  exact codeAny_compStart_list (loop _ rfl) (T.self _ 0 _ _ _ st4 (loop _ rfl))
theorem pe_comp {X : Cx} {N' : List Str} {fr : List (Option Nat)} {scope : Scope} {tg iter elt : Expr} {ifs : List Expr} {wi : TI} {g : TG} {tc : TT} {te : TE} {pos : Pos} (hc : X.calm = true) (S : CompScope X N' fr scope) (hi : PI X tg iter wi)
    (hg : ∀ s₃ H₃ fp pins, PG (compCx X scope N' s₃ H₃ fp pins) tg g) (ht : ∀ s₃ H₃ fp pins, PTs (compCx X scope N' s₃ H₃ fp pins) ifs tc) (he : ∀ s₃ H₃ fp pins, PE (compCx X scope N' s₃ H₃ fp pins) elt te)
    (hs : ∀ x, foldedSetIterable iter X.env x = pure x := by intro _; rfl) : PE X (.ListComp elt [⟨tg, iter, ifs, 0⟩] scope pos) (tComp fr wi g tc te) := by
  intro pins s σ H Q I h
  rw [eval_ListComp]
  refine comp_gen (use := none) hc S hi hg ht he hs I h fun s3 H3 fp D s6 τ H5 fl I3 f3 I6 q => ?_
  obtain ⟨m6, hn6, _⟩ := I6.loc
  exact ⟨m6, hn6, fun h7 hs7 => ⟨.ref D, H5, comp_out I3 I6 f3 hs7, rfl, q⟩⟩
theorem ps_comp {X : Cx} {N' : List Str} {fr : List (Option Nat)} {scope : Scope} {tg iter elt : Expr} {ifs : List Expr} {wi : TI} {g : TG} {tc : TT} {te : TE} {pos pos' cpos : Pos} {i : Nat} {x : Str} (hc : X.calm = true) (S : CompScope X N' fr scope) (hi : PI X tg iter wi)
    (hg : ∀ s₃ H₃ fp pins, PG (compCx X scope N' s₃ H₃ fp pins) tg g) (ht : ∀ s₃ H₃ fp pins, PTs (compCx X scope N' s₃ H₃ fp pins) ifs tc) (he : ∀ s₃ H₃ fp pins, PE (compCx X scope N' s₃ H₃ fp pins) elt te)
    (hN : X.N.Nodup) (hix : X.N[i]? = some x) (hx : Loc X.env.scope x) (hsw : swapsWith (.ListComp elt [⟨tg, iter, ifs, 0⟩] scope cpos) (some (.Name x pos')) pos.line X.env = pure true)
    (hs : ∀ x, foldedSetIterable iter X.env x = pure x := by intro _; rfl) (hf : X.fn x = true \/ X.env.scope.names.lookup x = some .local := by first | exact .inl rfl | exact .inr rfl | assumption) : PS X (.Assign [.Name x pos'] (.ListComp elt [⟨tg, iter, ifs, 0⟩] scope cpos) pos) (tAsg (tComp fr wi g tc te) (gName i)) := by
  intro pins s σ H Z I h
  rw [exec_Assign_Name_used _ _ _ _ hsw]
  refine wpAny_bind (wpAny_standAt (wpAny_bind ?_))
  show wpAny _ _ (comprehension (.ListComp elt [⟨tg, iter, ifs, 0⟩] scope cpos) scope X.env (firstIterPos [⟨tg, iter, ifs, 0⟩] cpos) (newList []) false (eval iter X.env) (some (assign (.Name x pos') X.env)) >>= fun _ => pure ()) _ _ s
  refine wpAny_bind (comp_gen (use := some (assign (.Name x pos') X.env)) hc S hi hg ht he hs I h fun s3 H3 fp D s6 τ H5 fl I3 f3 I6 q => ?_)
  obtain ⟨m6, hn6, _⟩ := id I6.loc
  have I7 : Inv X pins σ H5 s6 := comp_out (h' := s6.heap) I3 I6 f3 ⟨rfl, fun _ _ => rfl⟩
  have ltC : X.env.locals < s3.heap.objs.size := I3.lt
  have cC : ∀ y c, X.env.cells.lookup y = some c -> c ≠ s3.heap.objs.size := fun y c e z => by
    obtain ⟨v, o, ho, _⟩ := I3.cell y c e
    exact absurd (Heap.lt_size ho) (by rw [z]; exact Nat.lt_irrefl _)
  show wpAny (model X.prog X.w) X.A (assign (.Name x pos') X.env (.ref D)) _ X.xe s6
  refine wpAny_assign_Name (store_ok2 I7 hN hix hx (v := .ref D) (u := .ref D) rfl (fun s8 I8 sb => ?_) hf)
  obtain ⟨a8, sb8, ha8⟩ := sb
  have neC : s3.heap.objs.size ≠ a8 := by
    rcases ha8 with z | z
    · rw [z]; exact Nat.ne_of_gt ltC
    · exact fun w => cC x a8 z w.symm
  have hn8 : s8.heap.Ns s3.heap.objs.size m6 := by
    obtain ⟨o, es, ep, ho, r⟩ := hn6
    exact ⟨o, es, ep, (sb8.2 _ neC).trans ho, r⟩
  refine ⟨m6, hn8, fun h9 hs9 => ?_⟩
  have frC : H5 s3.heap.objs.size = none := I6.free
  refine wpAny_pure (wpAny_pure ⟨_, H5, ?_, q⟩)
  have := I8.turned (h' := h9) (t' := s8.toks) (it := s3.heap.objs.size) (fun b o hb e => (hs9.2 b hb).trans e) frC (Nat.ne_of_gt ltC) (.inr (Nat.le_trans I3.ok.above (Nat.le_of_lt ltC))) cC (fun p hp z => ?_)
  · exact this
  · have := Heap.lt_size (I3.pin p hp).1
    rw [z] at this
    exact Nat.lt_irrefl _ this
end L2
set_option maxRecDepth 100000
set_option maxHeartbeats 4000000
namespace L2
open PySem PySem.Spec PyProof.Rows
noncomputable def Ite (K : PySem.W.Frag) (a : Addr) : It :=
  ⟨fun i H => ∃ xs x, SqL K H a xs /\ xs[i]? = some x, fun i H x H' => ∃ p y, H p = none /\ x = .ref p /\ H' = upd H p (.tup [.int i, y]) /\ ∀ xs, SqL K H a xs -> xs[i]? = some y, fun i H => ∃ xs, SqL K H a xs /\ xs.length <= i⟩
theorem turn_enum {P : Program} {w : World} {K : PySem.W.Frag} {elts : List Expr} {x1 : Nat} {tpos : Pos} (a e it : Addr) (hne : e ≠ it) : Turn P w K (.Tuple elts x1 tpos) (Ite K a) [e, it] e (fun i h => (∃ old, IsEnum h e it i old) /\ h.IsListIter it a i) where
  mem := by simp
  obj := fun i h st b hb => by
    obtain ⟨⟨old, s1⟩, o, e1, c, d⟩ := st
    have hb : b = e \/ b = it := by simpa using hb
    rcases hb with rfl | rfl
    · exact ⟨_, s1, fun v z => by cases z⟩
    · exact ⟨o, e1, fun v z => by rw [d] at z; cases z⟩
  keep := fun i h h' st k => by
    obtain ⟨⟨old, s1⟩, s2⟩ := st
    exact ⟨⟨old, k e (by simp) _ s1⟩, s2.at fun o q => k it (by simp) o q⟩
  item := by
    intro X hP hw hK hc i pins s σ H E I hf st hg
    subst hP hw hK
    obtain ⟨⟨old, s1⟩, s2⟩ := st
    obtain ⟨xs, x, hq, hx⟩ := hg
    obtain ⟨its, rv, p, hz⟩ := I.list hq
    obtain ⟨u, hu, ru⟩ := rv.get hx
    obtain ⟨f0, f1, f2, f3, f4, f5⟩ := hf e (by simp)
    obtain ⟨g0, g1, g2, g3, g4, g5⟩ := hf it (by simp)
    refine wpAny_pyNext_enum_item s1 s2 p.isList (x := u) (by simpa using hu) hne fun h1 out it1 tup sz kp => ?_
    refine ⟨_, rfl, wpAny_letOwnedTupleGo_enum out fun h2 en2 sb2 => ?_⟩
    have sb2 : Heap.SameBut e h1 h2 := sb2
    have eT : e ≠ s.heap.objs.size := Nat.ne_of_lt (Heap.lt_size s1)
    have iT : it ≠ s.heap.objs.size := by
      obtain ⟨o, q, _⟩ := s2
      exact Nat.ne_of_lt (Heap.lt_size q)
    have hfresh : H s.heap.objs.size = none := I.hok.fresh (Nat.le_refl _)
    have keep2 : ∀ b o, b ≠ e -> b ≠ it -> s.heap.get? b = some o -> h2.get? b = some o := fun b o n1 n2 q => (sb2.2 b n1).trans (kp b o n1 n2 q)
    have nE : ∀ b u, H b = some u -> b ≠ e := fun b u q z => by rw [z, f0] at q; cases q
    have nI : ∀ b u, H b = some u -> b ≠ it := fun b u q z => by rw [z, g0] at q; cases q
    have htup : h2.get? s.heap.objs.size = some { cls := .type "tuple", data := .seq #[.int i s.toks, u] } := (sb2.2 _ (Ne.symm eT)).trans tup
    have hok2 : HOk X.prog X.w (upd H s.heap.objs.size (.tup [.int i, x])) h2 := fun b ob q => by
      by_cases hb : b = s.heap.objs.size
      · subst hb
        rw [upd_same] at q; cases q
        exact ⟨by show 2 <= sizeLine; decide, [.int i s.toks, u], .cons ⟨_, rfl⟩ (.cons ru .nil), ⟨_, htup, rfl, rfl, _, rfl⟩⟩
      · rw [upd_ne hb] at q
        refine (I.hok b ob q).stay (fun c v hc r => keep2 c v ?_ ?_ r) (fun c z => ?_) fun c ys z => ?_
        · rcases hc with rfl | hc
          · exact nE c _ q
          · exact nE c _ hc
        · rcases hc with rfl | hc
          · exact nI c _ q
          · exact nI c _ hc
        · rw [upd_ne (ne_of_none z hfresh)]; exact z
        · rw [upd_ne (ne_of_none z hfresh)]; exact z
    have I2 : Inv X pins σ (upd H s.heap.objs.size (.tup [.int i, x])) { s with heap := h2, gens := s.gens, drawn := s.drawn, toks := s.toks + 1 } := by
      refine I.step (ch := [e, it]) (fun b hb => ?_) (fun b o _ _ hc q _ => keep2 b o (fun z => hc (by simp [z])) (fun z => hc (by simp [z])) q) (fun b o _ _ hc q _ => ⟨o.slots, keep2 b o (fun z => hc (by simp [z])) (fun z => hc (by simp [z])) q⟩) (fun b o hc q n => ?_)
        (fun b o hc q => ⟨o, keep2 b o (fun z => hc (by simp [z])) (fun z => hc (by simp [z])) q⟩) (fun b ys z => by rw [upd_ne (ne_of_none z hfresh)]; exact z) (fun b o v z => by rw [upd_ne (ne_of_none z hfresh)]; exact z)
        (fun b ps z => ⟨#[], by rw [upd_ne (ne_of_none z hfresh), z]; simp⟩) (fun m hm => ?_) hok2 I.bare
      · have hb : b = e \/ b = it := by simpa using hb
        rcases hb with rfl | rfl
        · exact ⟨f3, f1, f4, f5⟩
        · exact ⟨g3, g1, g4, g5⟩
      · rw [upd_ne (Nat.ne_of_lt (Heap.lt_size q))]; exact n
      · obtain ⟨o, es, ep, ho, r⟩ := hm
        exact ⟨o, es, ep, keep2 _ o (Ne.symm f1) (Ne.symm g1) ho, r⟩
    refine ⟨.ref s.heap.objs.size, _, I2, rfl, ⟨s.heap.objs.size, x, hfresh, rfl, rfl, fun ys hy => by rw [I.list_inj hy hq]; exact hx⟩, ⟨⟨u, ?_⟩, ?_⟩, fun b hb => ?_⟩
    · exact_mod_cast en2
    · exact it1.at fun o q => (sb2.2 it (Ne.symm hne)).trans q
    · have hb : b = e \/ b = it := by simpa using hb
      rcases hb with rfl | rfl
      · rw [upd_ne eT]; exact f0
      · rw [upd_ne iT]; exact g0
  done := by
    intro X hP hw hK hc i pins s σ H E I hf st hg
    subst hP hw hK
    obtain ⟨⟨old, s1⟩, s2⟩ := st
    obtain ⟨xs, hq, hx⟩ := hg
    obtain ⟨its, rv, p, hz⟩ := I.list hq
    obtain ⟨g0, g1, g2, g3, g4, g5⟩ := hf it (by simp)
    have hl := rv.length
    exact wpAny_pyNext_enum_end (I.ok.hd hc) s1 s2 p.isList (by simp; omega) fun h' eb => ⟨rfl, I.turned (t' := s.toks) (fun b o hb q => eb b o hb q) g0 g1 g3 g4 g5⟩
  self := fun A i s Q E st h => by
    obtain ⟨⟨old, s1⟩, s2⟩ := st
    exact wpAny_pyIter_enum s1 h
noncomputable def iEnum (K : PySem.W.Frag) (ta : TA) : TI := fun σ H R => ta σ H fun vs H1 => ∃ a, vs = [.ref a] /\ (∃ xs, SqL K H1 a xs) /\ R (Ite K a) H1
section
variable {X : Cx}
theorem pi_enum {a : Expr} {ta : TA} {p pos tpos : Pos} {elts : List Expr} {x1 : Nat} (hg : Gl X "enumerate") (hm : X.mg "enumerate" = none) (ha : PA X [a] ta) (hb : bootBuiltins "enumerate" = some (.type "enumerate") := by rfl) (hs : starEach [a] X.env = [(false, eval a X.env)] := by rfl) :
    PI X (.Tuple elts x1 tpos) (.Call (.Name "enumerate" p) [a] [] pos) (iEnum X.K ta) := by
  intro pins s σ H R I h
  refine Call_ (ld_blt I hg hm hb (PyProof.Rows.callWith_type1 (thn (ha pos pins s σ H _ I h) fun us s1 ⟨vs, H1, I1, r1, q1⟩ => ?_) hs rfl))
  obtain ⟨a, e, ⟨xs, hq⟩, q⟩ := q1
  subst e
  obtain ⟨u, rfl, ru⟩ := r1.one
  cases ru
  obtain ⟨its, rv, pl, hz⟩ := I1.list hq
  refine call_enumerate_list pl.isList fun h' en it sz kp => ?_
  refine wpAny_pyIter_enum en ?_
  have I2 : Inv X pins σ H1 { s1 with heap := h', toks := s1.toks } := I1.kept kp
  refine ⟨s1.heap.objs.size + 1, [s1.heap.objs.size + 1, s1.heap.objs.size], _, _, H1, rfl, I2, turn_enum a _ _ (Nat.succ_ne_self _), ⟨⟨.none, en⟩, it⟩, fun b hb => ?_, q⟩
  have hb : b = s1.heap.objs.size + 1 \/ b = s1.heap.objs.size := by simpa using hb
  rcases hb with rfl | rfl
  · exact I1.fpOk (Nat.le_succ _) (I1.hok.fresh (Nat.le_succ _))
  · exact I1.fpOk (Nat.le_refl _) (I1.hok.fresh (Nat.le_refl _))
end
noncomputable def signAt (x : Str) (i : Nat) (v : V) : Prop := ∃ c, x.cps[i]? = some c /\ v = .str ⟨#[c]⟩
noncomputable def Its (x : Str) : It := ⟨fun i _ => i < x.cps.size, fun i H v H' => H' = H /\ signAt x i v, fun i _ => x.cps.size <= i⟩
theorem turn_ascii {P : Program} {w : World} {K : PySem.W.Frag} {tg : Expr} (x : Str) (t : Tok) (it : Addr) : Turn P w K tg (Its x) [it] it (fun i h => h.IsStrIter it "str_ascii_iterator" x t i) where
  mem := by simp
  obj := fun i h st b hb => by
    have e : b = it := by simpa using hb
    subst e
    obtain ⟨o, e, c, d⟩ := st
    exact ⟨o, e, fun v z => by rw [d] at z; cases z⟩
  keep := fun i h h' st k => let ⟨o, ho, r⟩ := st; ⟨o, k it (by simp) o ho, r⟩
  item := by
    intro X hP hw hK hc i pins s σ H E I hf st hg
    subst hP hw hK
    have hg : i < x.cps.size := hg
    obtain ⟨f0, f1, f2, f3, f4, f5⟩ := hf it (by simp)
    refine wpAny_pyNext_ascii_item st (c := x.cps[i]) (by simp [hg]) fun h' st' sb => ?_
    have I1 : Inv X pins σ H { s with heap := h', toks := s.toks + 1 } := I.turned (fun b o hb e => (sb.2 b hb).trans e) f0 f1 f3 f4 f5
    obtain ⟨o, e, c, d⟩ := id st'
    exact ⟨_, rfl, go_of (s := { s with heap := h', toks := s.toks + 1 }) e c d (by decide) ⟨.str ⟨#[x.cps[i]]⟩, H, I1, ⟨_, rfl⟩, ⟨rfl, _, by simp [hg], rfl⟩, st', fun b hb => (hf b hb).1⟩⟩
  done := by
    intro X hP hw hK hc i pins s σ H E I hf st hg
    subst hP hw hK
    have hg : x.cps.size <= i := hg
    obtain ⟨f0, f1, f2, f3, f4, f5⟩ := hf it (by simp)
    exact wpAny_pyNext_ascii_end (I.ok.hd hc) st (by simp [hg]) fun h' eb => ⟨rfl, I.turned (t' := s.toks) (fun b o hb e => eb b o hb e) f0 f1 f3 f4 f5⟩
  self := fun _ _ _ _ _ st h => wpAny_pyIter_striter_ascii st h
theorem turn_wide {P : Program} {w : World} {K : PySem.W.Frag} {tg : Expr} (x : Str) (t : Tok) (it : Addr) : Turn P w K tg (Its x) [it] it (fun i h => h.IsStrIter it "str_iterator" x t i) where
  mem := by simp
  obj := fun i h st b hb => by
    have e : b = it := by simpa using hb
    subst e
    obtain ⟨o, e, c, d⟩ := st
    exact ⟨o, e, fun v z => by rw [d] at z; cases z⟩
  keep := fun i h h' st k => let ⟨o, ho, r⟩ := st; ⟨o, k it (by simp) o ho, r⟩
  item := by
    intro X hP hw hK hc i pins s σ H E I hf st hg
    subst hP hw hK
    have hg : i < x.cps.size := hg
    obtain ⟨f0, f1, f2, f3, f4, f5⟩ := hf it (by simp)
    refine wpAny_pyNext_wide_item st (c := x.cps[i]) (by simp [hg]) fun h' st' sb => ?_
    have I1 : Inv X pins σ H { s with heap := h', toks := s.toks + 1 } := I.turned (fun b o hb e => (sb.2 b hb).trans e) f0 f1 f3 f4 f5
    obtain ⟨o, e, c, d⟩ := id st'
    exact ⟨_, rfl, go_of (s := { s with heap := h', toks := s.toks + 1 }) e c d (by decide) ⟨.str ⟨#[x.cps[i]]⟩, H, I1, ⟨_, rfl⟩, ⟨rfl, _, by simp [hg], rfl⟩, st', fun b hb => (hf b hb).1⟩⟩
  done := by
    intro X hP hw hK hc i pins s σ H E I hf st hg
    subst hP hw hK
    have hg : x.cps.size <= i := hg
    obtain ⟨f0, f1, f2, f3, f4, f5⟩ := hf it (by simp)
    exact wpAny_pyNext_wide_end (I.ok.hd hc) st (by simp [hg]) fun h' eb => ⟨rfl, I.turned (t' := s.toks) (fun b o hb e => eb b o hb e) f0 f1 f3 f4 f5⟩
  self := fun _ _ _ _ _ st h => wpAny_pyIter_striter_wide st h
noncomputable def iStr (te : TE) : TI := fun σ H R => te σ H fun v H1 => ∃ x, v = .str x /\ R (Its x) H1
theorem pi_str {X : Cx} {tg e : Expr} {te : TE} (he : PE X e te) : PI X tg e (iStr te) := by
  intro pins s σ H R I h
  refine thn (he pins s σ H _ I h) fun v s1 ⟨y, H1, I1, r1, q1⟩ => ?_
  obtain ⟨x, rfl, q⟩ := q1
  obtain ⟨t, rfl⟩ := r1
  cases ha : x.cps.all (· < 128)
  · refine wpAny_pyIter_wide ha ?_
    refine ⟨s1.heap.objs.size, [s1.heap.objs.size], _, _, H1, rfl, I1.kept (t' := s1.toks) fun b o e => Heap.get?_push_of_some _ e, turn_wide x t _, ⟨_, Heap.get?_push_size _ rfl, rfl, rfl⟩, fun b hb => ?_, q⟩
    have e : b = s1.heap.objs.size := by simpa using hb
    subst e
    exact I1.fpOk (Nat.le_refl _) (I1.hok.fresh (Nat.le_refl _))
  · refine wpAny_pyIter_ascii ha ?_
    refine ⟨s1.heap.objs.size, [s1.heap.objs.size], _, _, H1, rfl, I1.kept (t' := s1.toks) fun b o e => Heap.get?_push_of_some _ e, turn_ascii x t _, ⟨_, Heap.get?_push_size _ rfl, rfl, rfl⟩, fun b hb => ?_, q⟩
    have e : b = s1.heap.objs.size := by simpa using hb
    subst e
    exact I1.fpOk (Nat.le_refl _) (I1.hok.fresh (Nat.le_refl _))
end L2
set_option maxRecDepth 100000
set_option maxHeartbeats 4000000
namespace L2
open PySem PySem.Spec PyProof.Rows
section
variable {X : Cx}
end
end L2
set_option maxRecDepth 100000
set_option maxHeartbeats 4000000
namespace L2
open PySem PySem.Spec PyProof.Rows
section
variable {prog : Program} {w : World} {A : Around} {E : Value -> Shared -> Prop} {s : Shared} {K : Type} [DecidableEq K] {knd : KeyKind prog w K} {d : Addr} {kvs : List (K × Value)} {ep : Nat}
end
section
variable {X : Cx}
end
end L2
set_option maxRecDepth 100000
set_option maxHeartbeats 4000000
namespace L2
open PySem PySem.Spec PyProof.Rows
structure DefIn (K : PySem.W.Frag) (mg : Str -> Option Value) (x : Str) (st : Stmt) (ps : List Str) : Prop where
  ex : ∃ f fd, Fun K x x st f fd /\ mg x = some (.ref f) /\ Binds K fd ps []
theorem defIn_mk {K : PySem.W.Frag} {mg : Str -> Option Value} {x : Str} {st : Stmt} {ps : List Str} {h : Heap} {f : Addr} {oc : Value} {od an : Option Addr} {osl : Array (Option Value)} {kV doc pm cdv ct : Value} (X : K.In h) (G : h.Ns mainGlobals mg)
    (hb : ∀ (kV doc pm : Value) (an : Option Addr) (cdv ct : Value) (us : List Value), us.length = ps.length -> bindArgs (PySem.W.fnOf x x (defArgs st) (defBody st) (defScope st) .none kV doc pm an cdv ct) ⟨us, []⟩ = pure (ps.zip us))
    (a : PySem.W.nsIn K mainGlobals x = some (some (.ref f))) (l : K.lookup f = some ⟨oc, od, .func (PySem.W.fnOf x x (defArgs st) (defBody st) (defScope st) .none kV doc pm an cdv ct), osl⟩)
    (c : PySem.W.codeIn K cdv x = true) (k : PySem.W.keepIn K (.ref f) = true) : DefIn K mg x st ps :=
  ⟨f, _, fun_mk l c k, PySem.W.mg_of X G a, (fun_mk (st := st) l c k).binds hb⟩
structure Own (P : Program) (w : World) (K : PySem.W.Frag) (mg : Str -> Option Value) (base : Heap) (x : Str) (k : Nat) (ps : List Str) (sp : Sp) : Prop where
  ex : ∃ f fd, FnOk P w K mg base (cxx P w) k f fd ps sp /\ mg x = some (.ref f) /\ PySem.W.keepIn K (.ref f) = true /\ Binds K fd ps []
section
variable {P : Program} {w : World} {K : PySem.W.Frag} {mg : Str -> Option Value} {base : Heap} {x : Str} {st : Stmt} {N ps : List Str} {k : Nat} {sp : Sp}
theorem DefIn.own (D : DefIn K mg x st ps) (S : FnScope N ps (defScope st)) (len : ∀ vs H Q E, sp vs H Q E -> vs.length = ps.length)
    (hbody : ∀ (f : Addr) (cdv : Value) (A : Around) (outer : List Env) (s : Shared) (H : Hp) (vs : List V) (Q : VK) (E : XK), Room k (A.deeper (envOfC x (defScope st) s.heap.objs.size f cdv)) -> sp vs H Q E ->
      ∃ t, PSs (cxOf (cxx P w) P w K mg base N x (defScope st) f cdv A outer s H E) (defBody st) t /\ t { nx := fun _ H' => Q .non H', rt := Q } (start N vs) H) : Own P w K mg base x (k + 1) ps sp := by
  obtain ⟨f, fd, F, hm, hb⟩ := D.ex
  obtain ⟨oc, od, kV, doc, pm, an, cdv, ct, osl, rfl, lk, hcd⟩ := F.ex
  exact ⟨f, _, fn_of lk hcd S len fun A outer s H vs Q E hr hsp => hbody f cdv A outer s H vs Q E hr hsp, hm, F.kp, hb⟩
theorem Own.mono {j : Nat} (O : Own P w K mg base x j ps sp) (h : j <= k) : Own P w K mg base x k ps sp := by
  obtain ⟨f, fd, F, a, b, c⟩ := O.ex
  exact ⟨f, fd, F.mono h, a, b, c⟩
end
section
variable {X : Cx} {x : Str} {k : Nat} {ps : List Str} {sp : Sp} {E : XK} {e : Expr} {es : List Expr} {t : TA} {p pos : Pos}
theorem pe_own (O : Own X.prog X.w X.K X.mg X.base x k ps sp) (hr : Room k X.A) (hg : Gl X x) (hx : Passes (cxx X.prog X.w) X E) (ha : PA X (e :: es) t) (hdb : (x == ("__debug__" : Str)) = false := by decide)
    (he : starEach (e :: es) X.env = (false, eval e X.env) :: starEach es X.env := by rfl) (hpl : (backTo pos (starEach es X.env)).any (·.1) = false := by rfl) : PE X (.Call (.Name x p) (e :: es) [] pos) (tCall sp [] E t) := by
  obtain ⟨f, fd, F, hm, hk, hb⟩ := O.ex
  exact pe_call F hr hg hm hk hb .nil hx ha hdb he hpl
end
noncomputable def kinds : List String := ["NoneType", "bool", "int", "str", "list", "tuple", "dict"]
section
variable {K : PySem.W.Frag}
theorem kit_int : ∀ {T : String}, T ∈ kinds -> PySem.W.kitOne K (.type T) (.type "int") = some (T == "int" || T == "bool") := by
  intro T h
  simp only [kinds, List.mem_cons, List.not_mem_nil, or_false] at h
  rcases h with rfl | rfl | rfl | rfl | rfl | rfl | rfl <;> kernel_rfl
theorem kit_bool : ∀ {T : String}, T ∈ kinds -> PySem.W.kitOne K (.type T) (.type "bool") = some (T == "bool") := by
  intro T h
  simp only [kinds, List.mem_cons, List.not_mem_nil, or_false] at h
  rcases h with rfl | rfl | rfl | rfl | rfl | rfl | rfl <;> kernel_rfl
theorem kit_self : ∀ {T U : String}, T ∈ kinds -> U ∈ (["str", "list", "tuple", "dict"] : List String) -> PySem.W.kitOne K (.type T) (.type U) = some (T == U) := by
  intro T U h g
  simp only [kinds, List.mem_cons, List.not_mem_nil, or_false] at h g
  rcases g with rfl | rfl | rfl | rfl <;> rcases h with rfl | rfl | rfl | rfl | rfl | rfl | rfl <;> kernel_rfl
end
noncomputable def tIsi (K : PySem.W.Frag) (pn : List (Addr × Obj)) (u : V) (te : TE) : TE := fun σ H Q => te σ H fun v H1 => rIsi K pn [v, u] H1 Q
theorem pe_isi {X : Cx} {u : V} {te : TE} {e c : Expr} {p pos : Pos} (hg : Gl X "isinstance") (hm : X.mg "isinstance" = none) (he : PE X e te) (hc : PE X c (tC u)) (hs : starEach [e, c] X.env = (false, eval e X.env) :: starEach [c] X.env := by rfl) (hs2 : starEach [c] X.env = (false, eval c X.env) :: starEach [] X.env := by rfl)
    (hpl : (backTo pos (starEach [c] X.env)).any (·.1) = false := by rfl) : PE X (.Call (.Name "isinstance" p) [e, c] [] pos) (tIsi X.K X.pn u te) := by
  have key := pe_callB (X := X) (x := "isinstance") (p := p) (pos := pos) call_isi hg hm Boot.«isinstance» (pa_cons he (pa_cons hc pa_nil hs2) hs) (by decide) (by decide) hs hpl
  intro pins s σ H Q I h
  exact key pins s σ H Q I h
end L2
set_option maxRecDepth 100000
set_option maxHeartbeats 4000000
namespace L2
open PySem PySem.Spec PyProof.Rows
inductive D where
  | non | bl (b : Bool) | int (i : Int) | str (x : Str) | tup (xs : List D) | lst (xs : List D) | dic (ks : List Key) (xs : List D) | frl (xs : List D)
inductive R (α : Type) where
  | ok (a : α) | err (c : Str) | bad
noncomputable def R.bind {α β : Type} (r : R α) (f : α -> R β) : R β := match r with
  | .ok a => f a
  | .err c => .err c
  | .bad => .bad
theorem R.ok_bind {α β : Type} (a : α) (f : α -> R β) : (R.ok a).bind f = f a := rfl
mutual
noncomputable def D.imm : D -> Bool
  | .tup xs => D.imms xs
  | .lst _ => false
  | .dic _ _ => false
  | _ => true
noncomputable def D.imms : List D -> Bool
  | [] => true
  | d :: ds => D.imm d && D.imms ds
end
noncomputable def SqF (K : PySem.W.Frag) (H : Hp) (a : Addr) (vs : List V) : Prop := (∃ o, H a = some (.frz o (.lst vs))) \/
  ∃ (o : Obj) (its : Array Value) (n : Nat), K.lookup a = some o /\ o.cls = .type "list" /\ o.dict = none /\ o.data = .seq its n /\ its.size <= sizeLine /\ Vals vs its.toList
theorem SqF.sq {K : PySem.W.Frag} {H : Hp} {a : Addr} {vs : List V} (h : SqF K H a vs) : SqL K H a vs := by
  rcases h with ⟨o, h⟩ | h
  · exact .inl (.inr ⟨o, h⟩)
  · exact .inr h
mutual
noncomputable def Rep (K : PySem.W.Frag) (H : Hp) : D -> V -> List Addr -> Prop
  | .non, v, L => v = .non /\ L = []
  | .bl b, v, L => v = .bl b /\ L = []
  | .int i, v, L => v = .int i /\ L = []
  | .str x, v, L => v = .str x /\ L = []
  | .tup ds, v, L => ∃ a vs, v = .ref a /\ SqT K H a vs /\ Reps K H ds vs L
  | .lst ds, v, L => ∃ a vs L', v = .ref a /\ H a = some (.lst vs) /\ L = a :: L' /\ Reps K H ds vs L'
  | .dic ks ds, v, L => ∃ a kvs L', v = .ref a /\ H a = some (.dK kvs) /\ L = a :: L' /\ kvs.map (·.1) = ks /\ ks.Nodup /\ Reps K H ds (kvs.map (·.2)) L'
  | .frl ds, v, L => ∃ a vs, v = .ref a /\ SqF K H a vs /\ L = [] /\ D.imms ds = true /\ Reps K H ds vs []
noncomputable def Reps (K : PySem.W.Frag) (H : Hp) : List D -> List V -> List Addr -> Prop
  | [], vs, L => vs = [] /\ L = []
  | d :: ds, vs, L => ∃ v vs' L1 L2, vs = v :: vs' /\ L = L1 ++ L2 /\ Rep K H d v L1 /\ Reps K H ds vs' L2
end
structure TF (H H' : Hp) : Prop where
  tup : ∀ a xs, H a = some (.tup xs) -> H' a = some (.tup xs)
  frz : ∀ a o u, H a = some (.frz o u) -> H' a = some (.frz o u)
theorem Same.tf {H H' : Hp} (h : Same H H') : TF H H' := ⟨fun a xs e => h a _ e, fun a o u e => h a _ e⟩
theorem Same.non {H H1 : Hp} (s : Same H H1) {a : Addr} (h : H1 a = none) : H a = none := by
  cases e : H a with
  | none => rfl
  | some o => rw [s a o e] at h; cases h
theorem Same.new {H : Hp} {p : Addr} {o : HO} (h : H p = none) : Same H (upd H p o) := fun b u e => by
  rw [upd_ne (ne_of_none e h)]; exact e
theorem SqF.tf {K : PySem.W.Frag} {H H' : Hp} {a : Addr} {vs : List V} (h : SqF K H a vs) (s : TF H H') : SqF K H' a vs := by
  rcases h with ⟨o, h⟩ | h
  · exact .inl ⟨o, s.frz _ _ _ h⟩
  · exact .inr h
theorem SqT.tf {K : PySem.W.Frag} {H H' : Hp} {a : Addr} {vs : List V} (h : SqT K H a vs) (s : TF H H') : SqT K H' a vs := by
  rcases h with h | h
  · rcases h with h | ⟨o, h⟩
    · exact .inl (.inl (s.tup _ _ h))
    · exact .inl (.inr ⟨o, s.frz _ _ _ h⟩)
  · exact .inr h
section
variable {K : PySem.W.Frag} {H H' : Hp}
mutual
theorem Rep.keep (s : TF H H') : ∀ (d : D) (v : V) (L : List Addr), Rep K H d v L -> (∀ a ∈ L, H' a = H a) -> Rep K H' d v L
  | .non, _, _, h, _ => h
  | .bl _, _, _, h, _ => h
  | .int _, _, _, h, _ => h
  | .str _, _, _, h, _ => h
  | .tup ds, _, L, hq3, k => by
    obtain ⟨a, vs, e, h, r⟩ := hq3
    exact ⟨a, vs, e, h.tf s, Reps.keep s ds vs L r k⟩
  | .lst ds, _, L, hq3, k => by
      obtain ⟨a, vs, L', e, h1, h2, h3⟩ := hq3
      subst h2
      exact ⟨a, vs, L', e, by rw [k a List.mem_cons_self]; exact h1, rfl, Reps.keep s ds vs L' h3 fun b hb => k b (List.mem_cons_of_mem _ hb)⟩
  | .frl ds, _, L, hq3, k => by
    obtain ⟨a, vs, e, h1, h2, h3, h4⟩ := hq3
    exact ⟨a, vs, e, h1.tf s, h2, h3, Reps.keep s ds vs [] h4 (fun _ hb => nomatch hb)⟩
  | .dic ks ds, _, L, hq3, k => by
      obtain ⟨a, kvs, L', e, h1, h2, h3, h4, h5⟩ := hq3
      subst h2
      exact ⟨a, kvs, L', e, by rw [k a List.mem_cons_self]; exact h1, rfl, h3, h4, Reps.keep s ds _ L' h5 fun b hb => k b (List.mem_cons_of_mem _ hb)⟩
theorem Reps.keep (s : TF H H') : ∀ (ds : List D) (vs : List V) (L : List Addr), Reps K H ds vs L -> (∀ a ∈ L, H' a = H a) -> Reps K H' ds vs L
  | [], _, _, h, _ => h
  | d :: ds, _, _, hq3, k => by
    obtain ⟨v, vs', L1, L2, e1, e2, h1, h2⟩ := hq3
    subst e2
    exact ⟨v, vs', L1, L2, e1, rfl, Rep.keep s d v L1 h1 fun a ha => k a (List.mem_append_left _ ha), Reps.keep s ds vs' L2 h2 fun a ha => k a (List.mem_append_right _ ha)⟩
end
mutual
theorem Rep.dom : ∀ (d : D) (v : V) (L : List Addr), Rep K H d v L -> ∀ a ∈ L, (∃ vs, H a = some (.lst vs)) \/ ∃ kvs, H a = some (.dK kvs)
  | .non, _, _, h, a, ha => by rw [h.2] at ha; cases ha
  | .bl _, _, _, h, a, ha => by rw [h.2] at ha; cases ha
  | .int _, _, _, h, a, ha => by rw [h.2] at ha; cases ha
  | .str _, _, _, h, a, ha => by rw [h.2] at ha; cases ha
  | .tup ds, _, L, hq3, b, hb => by
    obtain ⟨a, vs, e, h, r⟩ := hq3
    exact Reps.dom ds vs L r b hb
  | .lst ds, _, L, hq3, b, hb => by
      obtain ⟨a, vs, L', e, h1, h2, h3⟩ := hq3
      subst h2
      rcases List.mem_cons.mp hb with z | z
      · subst z; exact .inl ⟨vs, h1⟩
      · exact Reps.dom ds vs L' h3 b z
  | .frl ds, _, L, hq3, b, hb => by
    obtain ⟨a, vs, e, h1, h2, h3, h4⟩ := hq3
    rw [h2] at hb; cases hb
  | .dic ks ds, _, L, hq3, b, hb => by
      obtain ⟨a, kvs, L', e, h1, h2, h3, h4, h5⟩ := hq3
      subst h2
      rcases List.mem_cons.mp hb with z | z
      · subst z; exact .inr ⟨kvs, h1⟩
      · exact Reps.dom ds _ L' h5 b z
theorem Reps.dom : ∀ (ds : List D) (vs : List V) (L : List Addr), Reps K H ds vs L -> ∀ a ∈ L, (∃ vs, H a = some (.lst vs)) \/ ∃ kvs, H a = some (.dK kvs)
  | [], _, _, h, a, ha => by rw [h.2] at ha; cases ha
  | d :: ds, _, _, hq3, a, ha => by
    obtain ⟨v, vs', L1, L2, e1, e2, h1, h2⟩ := hq3
    subst e2
    rcases List.mem_append.mp ha with z | z
    · exact Rep.dom d v L1 h1 a z
    · exact Reps.dom ds vs' L2 h2 a z
end
mutual
theorem Rep.imm : ∀ (d : D) (v : V) (L : List Addr), Rep K H d v L -> d.imm = true -> L = []
  | .non, _, _, h, _ => h.2
  | .bl _, _, _, h, _ => h.2
  | .int _, _, _, h, _ => h.2
  | .str _, _, _, h, _ => h.2
  | .tup ds, _, L, hq3, h => by
    obtain ⟨_, vs, _, _, r⟩ := hq3
    exact Reps.imm ds vs L r h
  | .lst _, _, _, _, h => nomatch h
  | .dic _ _, _, _, _, h => nomatch h
  | .frl _, _, _, hq3, _ => by
    obtain ⟨_, _, _, _, h, _⟩ := hq3
    exact h
theorem Reps.imm : ∀ (ds : List D) (vs : List V) (L : List Addr), Reps K H ds vs L -> D.imms ds = true -> L = []
  | [], _, _, h, _ => h.2
  | d :: ds, _, _, hq3, h => by
    obtain ⟨v, vs', L1, L2, _, e2, h1, h2⟩ := hq3
    have h : (d.imm && D.imms ds) = true := h
    rw [Bool.and_eq_true] at h
    rw [e2, Rep.imm d v L1 h1 h.1, Reps.imm ds vs' L2 h2 h.2]; rfl
end
theorem Rep.there {d : D} {v : V} {L : List Addr} (h : Rep K H d v L) {a : Addr} (ha : a ∈ L) : H a ≠ none := by
  rcases Rep.dom d v L h a ha with ⟨_, e⟩ | ⟨_, e⟩ <;> rw [e] <;> simp
theorem Reps.there {d : List D} {v : List V} {L : List Addr} (h : Reps K H d v L) {a : Addr} (ha : a ∈ L) : H a ≠ none := by
  rcases Reps.dom d v L h a ha with ⟨_, e⟩ | ⟨_, e⟩ <;> rw [e] <;> simp
theorem Same.at {a : Addr} (s : Same H H') (h : H a ≠ none) : H' a = H a := by
  cases e : H a with
  | none => exact absurd e h
  | some o => exact s a o e
theorem Rep.same {d : D} {v : V} {L : List Addr} (h : Rep K H d v L) (s : Same H H') : Rep K H' d v L := Rep.keep s.tf d v L h fun _ ha => s.at (h.there ha)
theorem Reps.same {d : List D} {v : List V} {L : List Addr} (h : Reps K H d v L) (s : Same H H') : Reps K H' d v L := Reps.keep s.tf d v L h fun _ ha => s.at (h.there ha)
theorem Reps.length : ∀ {ds : List D} {vs : List V} {L : List Addr}, Reps K H ds vs L -> vs.length = ds.length
  | [], _, _, hq3 => by
    obtain ⟨e, _⟩ := hq3
    rw [e]; rfl
  | d :: ds, _, _, hq3 => by
    obtain ⟨v, vs', L1, L2, e1, e2, h1, h2⟩ := hq3
    rw [e1, List.length_cons, List.length_cons, Reps.length h2]
theorem Reps.nil : Reps K H [] [] [] := ⟨rfl, rfl⟩
theorem Reps.cons {d : D} {v : V} {L1 : List Addr} {ds : List D} {vs : List V} {L2 : List Addr} (h : Rep K H d v L1) (t : Reps K H ds vs L2) : Reps K H (d :: ds) (v :: vs) (L1 ++ L2) := ⟨v, vs, L1, L2, rfl, rfl, h, t⟩
theorem Reps.get : ∀ {ds : List D} {vs : List V} {L : List Addr} {i : Nat} {d : D}, Reps K H ds vs L -> ds[i]? = some d -> ∃ v L1, vs[i]? = some v /\ Rep K H d v L1 /\ List.Sublist L1 L
  | [], _, _, _, _, _, e => by simp at e
  | d :: ds, _, _, 0, _, hq5, e => by
    obtain ⟨v, vs', L1, L2, e1, e2, h1, h2⟩ := hq5
    subst e1 e2
    simp at e
    subst e
    exact ⟨v, L1, rfl, h1, List.sublist_append_left _ _⟩
  | d :: ds, _, _, i + 1, d', hq5, e => by
    obtain ⟨v, vs', L1, L2, e1, e2, h1, h2⟩ := hq5
    subst e1 e2
    obtain ⟨v', L', a, b, c⟩ := Reps.get (i := i) (d := d') h2 (by simpa using e)
    exact ⟨v', L', by simpa using a, b, c.trans (List.sublist_append_right _ _)⟩
theorem Reps.append : ∀ {ds ds' : List D} {vs vs' : List V} {L L' : List Addr}, Reps K H ds vs L -> Reps K H ds' vs' L' -> Reps K H (ds ++ ds') (vs ++ vs') (L ++ L')
  | [], _, _, _, _, _, hq6, h => by
    obtain ⟨e1, e2⟩ := hq6
    subst e1 e2; exact h
  | d :: ds, _, _, _, _, _, hq6, h => by
    obtain ⟨v, vs', L1, L2, e1, e2, h1, h2⟩ := hq6
    subst e1 e2
    have := Reps.cons h1 (Reps.append h2 h)
    rw [<- List.append_assoc] at this
    exact this
end
end L2
set_option maxRecDepth 100000
set_option maxHeartbeats 4000000
namespace L2
open PySem PySem.Spec PyProof.Rows
noncomputable abbrev Tn := List (Option D)
inductive Cl where
  | own | shr | brw | dead
  deriving DecidableEq
inductive Rc where
  | fresh | shr | bor
  deriving DecidableEq
structure EOk (K : PySem.W.Frag) (Γ : List Cl) (O : Addr -> Prop) (H : Hp) (σ : St) (τ : Tn) : Prop where
  dom : ∀ a, O a -> H a ≠ none
  slot : ∀ (i : Nat) (c : Cl), Γ[i]? = some c -> c ≠ .dead -> ∃ v d L, σ[i]? = some (some v) /\ τ[i]? = some (some d) /\ Rep K H d v L /\ (c = .shr -> ∀ a ∈ L, ¬ O a)
noncomputable def RcOk (c : Rc) (O : Addr -> Prop) (H : Hp) (L : List Addr) : Prop := match c with
  | .fresh => L.Nodup /\ ∀ a ∈ L, H a = none
  | .shr => ∀ a ∈ L, ¬ O a
  | .bor => True
noncomputable def post (K : PySem.W.Frag) (E : XK) (O : Addr -> Prop) (c : Rc) (H : Hp) (Q : VK) : R D -> Prop
  | .ok d => ∀ v H' L, Same H H' -> Rep K H' d v L -> RcOk c O H L -> Q v H'
  | .err n => ∀ C H', ErrC K n C -> Same H H' -> E (.ref C) none H'
  | .bad => False
noncomputable def postL (K : PySem.W.Frag) (E : XK) (O : Addr -> Prop) (c : Rc) (H : Hp) (Q : List V -> Hp -> Prop) : R (List D) -> Prop
  | .ok ds => ∀ vs H' L, Same H H' -> Reps K H' ds vs L -> RcOk c O H L -> Q vs H'
  | .err n => ∀ C H', ErrC K n C -> Same H H' -> E (.ref C) none H'
  | .bad => False
noncomputable def postB (K : PySem.W.Frag) (E : XK) (H : Hp) (Q : Bool -> Hp -> Prop) : R Bool -> Prop
  | .ok b => ∀ H', Same H H' -> Q b H'
  | .err n => ∀ C H', ErrC K n C -> Same H H' -> E (.ref C) none H'
  | .bad => False
section
variable {K : PySem.W.Frag} {Γ : List Cl} {O : Addr -> Prop} {H H1 : Hp} {σ : St} {τ : Tn} {E : XK} {c : Rc} {Q : VK}
theorem EOk.same (e : EOk K Γ O H σ τ) (s : Same H H1) : EOk K Γ O H1 σ τ :=
  ⟨fun a h => by rw [s.at (e.dom a h)]; exact e.dom a h, fun i c h1 h2 => by
    obtain ⟨v, d, L, a1, a2, a3, a4⟩ := e.slot i c h1 h2
    exact ⟨v, d, L, a1, a2, a3.same s, a4⟩⟩
theorem RcOk.same {L : List Addr} (h : RcOk c O H1 L) (s : Same H H1) : RcOk c O H L := by
  cases c with
  | fresh => exact ⟨h.1, fun a ha => s.non (h.2 a ha)⟩
  | shr => exact h
  | bor => exact h
theorem RcOk.shr {L : List Addr} (dom : ∀ a, O a -> H a ≠ none) (hc : c ≠ .bor) (h : RcOk c O H L) : ∀ a ∈ L, ¬ O a := by
  cases c with
  | fresh => exact fun a ha ho => dom a ho (h.2 a ha)
  | shr => exact h
  | bor => exact absurd rfl hc
theorem RcOk.nil : RcOk c O H [] := by
  cases c with
  | fresh => exact ⟨List.nodup_nil, fun a ha => by cases ha⟩
  | shr => exact fun a ha => by cases ha
  | bor => trivial
theorem post.same {r : R D} (h : post K E O c H Q r) (s : Same H H1) : post K E O c H1 Q r := by
  cases r with
  | ok d => exact fun v H' L s' r' c' => h v H' L (s.trans s') r' (c'.same s)
  | err n => exact fun C H' e s' => h C H' e (s.trans s')
  | bad => exact h
theorem postB.same {Q : Bool -> Hp -> Prop} {r : R Bool} (h : postB K E H Q r) (s : Same H H1) : postB K E H1 Q r := by
  cases r with
  | ok d => exact fun H' s' => h H' (s.trans s')
  | err n => exact fun C H' e s' => h C H' e (s.trans s')
  | bad => exact h
end
noncomputable def ME (X : Cx) (E : XK) (Γ : List Cl) (e : Expr) (t : Tn -> R D) (c : Rc) : Prop :=
  ∃ te, PE X e te /\ ∀ O σ H τ Q, EOk X.K Γ O H σ τ -> post X.K E O c H Q (t τ) -> te σ H Q
noncomputable def MA (X : Cx) (E : XK) (Γ : List Cl) (es : List Expr) (t : Tn -> R (List D)) (c : Rc) : Prop :=
  (∀ τ ds, t τ = .ok ds -> ds.length = es.length) /\ ∃ ta, PA X es ta /\ ∀ O σ H τ Q, EOk X.K Γ O H σ τ -> postL X.K E O c H Q (t τ) -> ta σ H Q
noncomputable def MT (X : Cx) (E : XK) (Γ : List Cl) (e : Expr) (t : Tn -> R Bool) : Prop :=
  ∃ te, PT X e te /\ ∀ O σ H τ Q, EOk X.K Γ O H σ τ -> postB X.K E H Q (t τ) -> te σ H Q
noncomputable def MW (X : Cx) (E : XK) (Γ : List Cl) (e : Expr) (t : Tn -> R Bool) : Prop :=
  ∃ te, PW X e te /\ ∀ O σ H τ Q, EOk X.K Γ O H σ τ -> postB X.K E H Q (t τ) -> te σ H Q
theorem MW.mt {X : Cx} {E : XK} {Γ : List Cl} {e : Expr} {t : Tn -> R Bool} (h : MW X E Γ e t) : MT X E Γ e t := by
  obtain ⟨te, p, q⟩ := h
  exact ⟨te, p.pt, q⟩
noncomputable def Rc.of : Cl -> Rc
  | .shr => .shr
  | _ => .bor
noncomputable def Rc.both : Rc -> Rc -> Rc
  | .fresh, .fresh => .fresh
  | .bor, _ => .bor
  | _, .bor => .bor
  | _, _ => .shr
noncomputable def eVar (i : Nat) : Tn -> R D := fun τ => match τ[i]? with
  | some (some d) => .ok d
  | _ => .bad
noncomputable def eC (d : D) : Tn -> R D := fun _ => .ok d
noncomputable def eImm (t : Tn -> R D) : Tn -> R D := fun τ => (t τ).bind fun d => if d.imm = true then .ok d else .bad
noncomputable def eBin (g : D -> D -> R D) (a b : Tn -> R D) : Tn -> R D := fun τ => (a τ).bind fun x => (b τ).bind fun y => g x y
noncomputable def eUn (g : D -> R D) (a : Tn -> R D) : Tn -> R D := fun τ => (a τ).bind g
noncomputable def aNil : Tn -> R (List D) := fun _ => .ok []
noncomputable def aCons (a : Tn -> R D) (b : Tn -> R (List D)) : Tn -> R (List D) := fun τ => (a τ).bind fun x => (b τ).bind fun xs => .ok (x :: xs)
noncomputable def eL (g : List D -> R D) (a : Tn -> R (List D)) : Tn -> R D := fun τ => (a τ).bind g
noncomputable def asB : D -> R Bool
  | .bl b => .ok b
  | _ => .bad
noncomputable def eTest (a : Tn -> R D) : Tn -> R Bool := fun τ => (a τ).bind asB
noncomputable def bAnd (a b : Tn -> R Bool) : Tn -> R Bool := fun τ => (a τ).bind fun x => if x = true then b τ else .ok false
noncomputable def bOr (a b : Tn -> R Bool) : Tn -> R Bool := fun τ => (a τ).bind fun x => if x = true then .ok true else b τ
noncomputable def bNot (a : Tn -> R Bool) : Tn -> R Bool := fun τ => (a τ).bind fun x => .ok (!x)
noncomputable def eAnd (a b : Tn -> R D) : Tn -> R D := fun τ => (a τ).bind fun x => (asB x).bind fun k => if k = true then b τ else .ok (.bl false)
noncomputable def eOr (a b : Tn -> R D) : Tn -> R D := fun τ => (a τ).bind fun x => (asB x).bind fun k => if k = true then .ok (.bl true) else b τ
noncomputable def eNot (a : Tn -> R D) : Tn -> R D := fun τ => (a τ).bind fun x => (asB x).bind fun k => .ok (.bl (!k))
noncomputable def eIf (c : Tn -> R Bool) (a b : Tn -> R D) : Tn -> R D := fun τ => (c τ).bind fun k => if k = true then a τ else b τ
noncomputable def eChain (g g' : D -> D -> R D) (a b c : Tn -> R D) : Tn -> R D := fun τ => (a τ).bind fun x => (b τ).bind fun y => (g x y).bind fun z => (asB z).bind fun k => if k = true then (c τ).bind fun w => g' y w else .ok (.bl false)
section
variable {X : Cx} {E : XK} {Γ : List Cl} {e a b : Expr} {t ta tb tc : Tn -> R D} {c ca cb : Rc} {pos : Pos}
theorem me_name {i : Nat} {x : Str} {k : Cl} (hN : X.N[i]? = some x) (hk : Γ[i]? = some k) (hd : k ≠ .dead) (hv : Vis X.env.scope x) (hb : (x == ("__debug__" : Str)) = false := by decide) (hcd : (x == ("__classdict__" : Str)) = false := by decide) :
    ME X E Γ (.Name x pos) (eVar i) (Rc.of k) := by
  refine ⟨tVar i, pe_var hN hv hb hcd, fun O σ H τ Q ok h => ?_⟩
  obtain ⟨v, d, L, e1, e2, e3, e4⟩ := ok.slot i k hk hd
  unfold eVar at h
  rw [e2] at h
  refine ⟨v, e1, h v H L (Same.refl H) e3 ?_⟩
  cases k with
  | shr => exact e4 rfl
  | own => trivial
  | brw => trivial
  | dead => trivial
theorem me_c {d : D} {v : V} (hp : PE X e (tC v)) (hr : ∀ H, Rep X.K H d v []) : ME X E Γ e (eC d) .fresh :=
  ⟨tC v, hp, fun O σ H τ Q ok h => h v H [] (Same.refl H) (hr H) RcOk.nil⟩
theorem me_int {i : Int} {j} : ME X E Γ (.Constant (.int i) j pos) (eC (.int i)) .fresh := me_c pe_int fun _ => ⟨rfl, rfl⟩
theorem me_bl {i : Bool} {j} : ME X E Γ (.Constant (.bool i) j pos) (eC (.bl i)) .fresh := me_c pe_bl fun _ => ⟨rfl, rfl⟩
theorem me_str {x : Str} {j} : ME X E Γ (.Constant (.str x) j pos) (eC (.str x)) .fresh := me_c pe_str fun _ => ⟨rfl, rfl⟩
theorem me_imm (h : ME X E Γ e t c) : ME X E Γ e (eImm t) .fresh := by
  obtain ⟨te, p, q⟩ := h
  refine ⟨te, p, fun O σ H τ Q ok h => q O σ H τ Q ok ?_⟩
  unfold eImm at h
  cases ht : t τ with
  | ok d =>
    rw [ht] at h
    refine fun v H' L s r k => ?_
    rw [R.ok_bind] at h
    by_cases hi : d.imm = true
    · rw [if_pos hi] at h
      have := Rep.imm d v L r hi
      subst this
      exact h v H' [] s r RcOk.nil
    · rw [if_neg hi] at h; exact h.elim
  | err n => rw [ht] at h; exact h
  | bad => rw [ht] at h; exact h
theorem post.bind {K : PySem.W.Frag} {O : Addr -> Prop} {H : Hp} {Q Q' : VK} {r : R D} {f : D -> R D} (h : post K E O c H Q (r.bind f)) (hf : ∀ d, r = .ok d -> post K E O c H Q (f d) -> ∀ v H' L, Same H H' -> Rep K H' d v L -> RcOk ca O H L -> Q' v H') : post K E O ca H Q' r := by
  cases r with
  | ok d => exact hf d rfl h
  | err n => exact h
  | bad => exact h
theorem ma_nil : MA X E Γ [] aNil .fresh := ⟨fun τ ds h => by cases h; rfl, tNil, pa_nil, fun O σ H τ Q ok h => h [] H [] (Same.refl H) Reps.nil RcOk.nil⟩
theorem RcOk.append {K : PySem.W.Frag} {O : Addr -> Prop} {H H1 : Hp} {d : D} {v : V} {L1 L2 : List Addr} (dom : ∀ a, O a -> H a ≠ none) (s : Same H H1) (r : Rep K H1 d v L1) (h1 : RcOk ca O H L1) (h2 : RcOk cb O H1 L2) : RcOk (Rc.both ca cb) O H (L1 ++ L2) := by
  have dom1 : ∀ a, O a -> H1 a ≠ none := fun a h => by rw [s.at (dom a h)]; exact dom a h
  by_cases hf : ca = .fresh /\ cb = .fresh
  · obtain ⟨rfl, rfl⟩ := hf
    refine ⟨List.nodup_append.mpr ⟨h1.1, h2.1, fun a ha b hb z => ?_⟩, fun a ha => ?_⟩
    · subst z
      exact r.there ha (h2.2 a hb)
    · rcases List.mem_append.mp ha with z | z
      · exact h1.2 a z
      · exact s.non (h2.2 a z)
  · have key : ca ≠ .bor -> cb ≠ .bor -> ∀ a ∈ L1 ++ L2, ¬ O a := fun n1 n2 a ha => by
      rcases List.mem_append.mp ha with z | z
      · exact h1.shr dom n1 a z
      · exact h2.shr dom1 n2 a z
    cases ca <;> cases cb <;> first | exact absurd ⟨rfl, rfl⟩ hf | trivial | exact key (by simp) (by simp)
theorem ma_cons {es : List Expr} {u : Tn -> R (List D)} (h : ME X E Γ e t ca) (r : MA X E Γ es u cb) (hs : starEach (e :: es) X.env = (false, eval e X.env) :: starEach es X.env := by rfl) : MA X E Γ (e :: es) (aCons t u) (Rc.both ca cb) := by
  obtain ⟨te, p1, q1⟩ := h
  obtain ⟨hl, ta, p2, q2⟩ := r
  refine ⟨fun τ ds h => ?_, tCons te ta, pa_cons p1 p2 hs, fun O σ H τ Q ok h => ?_⟩
  · unfold aCons at h
    cases h1 : t τ with
    | ok d =>
      rw [h1, R.ok_bind] at h
      cases h2 : u τ with
      | ok xs =>
        rw [h2, R.ok_bind] at h
        cases h
        rw [List.length_cons, List.length_cons, hl τ xs h2]
      | err n => rw [h2] at h; cases h
      | bad => rw [h2] at h; cases h
    | err n => rw [h1] at h; cases h
    | bad => rw [h1] at h; cases h
  · unfold aCons at h
    refine q1 O σ H τ _ ok ?_
    cases h1 : t τ with
    | ok d =>
      rw [h1, R.ok_bind] at h
      refine fun v H1 L1 s1 r1 k1 => q2 O σ H1 τ _ (ok.same s1) ?_
      cases h2 : u τ with
      | ok xs =>
        rw [h2, R.ok_bind] at h
        exact fun vs H2 L2 s2 r2 k2 => h (v :: vs) H2 (L1 ++ L2) (s1.trans s2) (Reps.cons (r1.same s2) r2) (RcOk.append ok.dom s1 r1 k1 k2)
      | err n => rw [h2] at h; exact fun C H' e s' => h C H' e (s1.trans s')
      | bad => rw [h2] at h; exact h
    | err n => rw [h1] at h; exact h
    | bad => rw [h1] at h; exact h
theorem me_tup {es : List Expr} {u : Tn -> R (List D)} {x1} (h : MA X E Γ es u c) (hz : es.length <= 1000 := by decide) : ME X E Γ (.Tuple es x1 pos) (eL (fun ds => .ok (.tup ds)) u) c := by
  obtain ⟨hl, ta, p, q⟩ := h
  refine ⟨tTup ta, pe_tup p, fun O σ H τ Q ok h => q O σ H τ _ ok ?_⟩
  unfold eL at h
  have hs : sizeLine = 16777216 := sizeLine_eq
  cases hu : u τ with
  | ok ds =>
    rw [hu, R.ok_bind] at h
    refine fun vs H1 L s r k => ⟨by rw [r.length, hl τ ds hu]; omega, fun p hp => ?_⟩
    refine h _ _ L (s.trans (Same.new hp)) ⟨p, vs, rfl, SqT.of upd_same, r.same (Same.new hp)⟩ k
  | err n => rw [hu] at h; exact h
  | bad => rw [hu] at h; exact h
theorem me_lst {es : List Expr} {u : Tn -> R (List D)} (h : MA X E Γ es u c) (hz : es.length <= 1000 := by decide) : ME X E Γ (.List es pos) (eL (fun ds => .ok (.lst ds)) u) c := by
  obtain ⟨hl, ta, p, q⟩ := h
  refine ⟨tLst ta, pe_lst p, fun O σ H τ Q ok h => q O σ H τ _ ok ?_⟩
  unfold eL at h
  have hs : sizeLine = 16777216 := sizeLine_eq
  cases hu : u τ with
  | ok ds =>
    rw [hu, R.ok_bind] at h
    refine fun vs H1 L s r k => ⟨by rw [r.length, hl τ ds hu]; omega, fun p hp => ?_⟩
    refine h _ _ (p :: L) (s.trans (Same.new hp)) ⟨p, vs, L, rfl, upd_same, rfl, r.same (Same.new hp)⟩ ?_
    have np : H p = none := s.non hp
    cases c with
    | fresh =>
      refine ⟨List.nodup_cons.mpr ⟨fun z => r.there z hp, k.1⟩, fun a ha => ?_⟩
      rcases List.mem_cons.mp ha with z | z
      · rw [z]; exact np
      · exact k.2 a z
    | shr =>
      intro a ha
      rcases List.mem_cons.mp ha with z | z
      · rw [z]; exact fun o => ok.dom p o np
      · exact k a z
    | bor => trivial
  | err n => rw [hu] at h; exact h
  | bad => rw [hu] at h; exact h
theorem mt_val (h : ME X E Γ e t c) (he : ∀ whole, isTrue e X.env whole = (do let v <- whole; standAt e.pos; holding [v] (truthy v)) := by intro _; rfl) : MT X E Γ e (eTest t) := by
  obtain ⟨te, p, q⟩ := h
  refine ⟨tB te, pt_val p he, fun O σ H τ Q ok h => q O σ H τ _ ok ?_⟩
  unfold eTest at h
  cases ht : t τ with
  | ok d =>
    rw [ht, R.ok_bind] at h
    refine fun v H' L s r _ => ?_
    cases d with
    | bl k => exact ⟨k, r.1, h H' s⟩
    | _ => exact h.elim
  | err n => rw [ht] at h; exact h
  | bad => rw [ht] at h; exact h
variable {u v : Tn -> R Bool} {rest : List Expr}
theorem mt_not (h : MT X E Γ a u) : MT X E Γ (.UnaryOp .Not a pos) (bNot u) := by
  obtain ⟨te, p, q⟩ := h
  refine ⟨tNot te, pt_not p, fun O σ H τ Q ok h => q O σ H τ _ ok ?_⟩
  unfold bNot at h
  cases ht : u τ with
  | ok d => rw [ht, R.ok_bind] at h; exact h
  | err n => rw [ht] at h; exact h
  | bad => rw [ht] at h; exact h
theorem mw_and1 (h : MT X E Γ a u) : MW X E Γ (.BoolOp .And [a] pos) u := by
  obtain ⟨te, p, q⟩ := h
  exact ⟨te, pw_and1 p, q⟩
theorem mw_or1 (h : MT X E Γ a u) : MW X E Γ (.BoolOp .Or [a] pos) u := by
  obtain ⟨te, p, q⟩ := h
  exact ⟨te, pw_or1 p, q⟩
theorem mw_and (h : MT X E Γ a u) (r : MW X E Γ (.BoolOp .And (b :: rest) pos) v) : MW X E Γ (.BoolOp .And (a :: b :: rest) pos) (bAnd u v) := by
  obtain ⟨te, p, q⟩ := h
  obtain ⟨te', p', q'⟩ := r
  refine ⟨tAnd te te', pw_and p p', fun O σ H τ Q ok h => q O σ H τ _ ok ?_⟩
  unfold bAnd at h
  cases ht : u τ with
  | ok d =>
    rw [ht, R.ok_bind] at h
    refine fun H1 s1 => ?_
    cases d with
    | true => rw [if_pos rfl] at h ⊢; exact q' O σ H1 τ Q (ok.same s1) (h.same s1)
    | false => rw [if_neg Bool.false_ne_true] at h ⊢; exact h H1 s1
  | err n => rw [ht] at h; exact h
  | bad => rw [ht] at h; exact h
theorem mw_or (h : MT X E Γ a u) (r : MW X E Γ (.BoolOp .Or (b :: rest) pos) v) : MW X E Γ (.BoolOp .Or (a :: b :: rest) pos) (bOr u v) := by
  obtain ⟨te, p, q⟩ := h
  obtain ⟨te', p', q'⟩ := r
  refine ⟨tOr te te', pw_or p p', fun O σ H τ Q ok h => q O σ H τ _ ok ?_⟩
  unfold bOr at h
  cases ht : u τ with
  | ok d =>
    rw [ht, R.ok_bind] at h
    refine fun H1 s1 => ?_
    cases d with
    | true => rw [if_pos rfl] at h ⊢; exact h H1 s1
    | false => rw [if_neg Bool.false_ne_true] at h ⊢; exact q' O σ H1 τ Q (ok.same s1) (h.same s1)
  | err n => rw [ht] at h; exact h
  | bad => rw [ht] at h; exact h
theorem me_one {op} (h : ME X E Γ a t c) : ME X E Γ (.BoolOp op [a] pos) t c := by
  obtain ⟨te, p, q⟩ := h
  exact ⟨te, pe_one p, q⟩
theorem asB_post {K : PySem.W.Frag} {O : Addr -> Prop} {H : Hp} {Q : VK} {d : D} {f : Bool -> R D} (h : post K E O c H Q ((asB d).bind f)) {v : V} {H' : Hp} {L : List Addr} (r : Rep K H' d v L) : ∃ k, v = .bl k /\ d = .bl k /\ post K E O c H Q (f k) := by
  cases d with
  | bl k => exact ⟨k, r.1, rfl, h⟩
  | _ => exact h.elim
theorem me_and (ha : ME X E Γ a ta ca) (hb : ME X E Γ (.BoolOp .And (b :: rest) pos) tb c) : ME X E Γ (.BoolOp .And (a :: b :: rest) pos) (eAnd ta tb) c := by
  obtain ⟨te, p, q⟩ := ha
  obtain ⟨te', p', q'⟩ := hb
  refine ⟨tAndV te te', pe_and p p', fun O σ H τ Q ok h => q O σ H τ _ ok (post.bind h fun d _ h v H1 L s r _ => ?_)⟩
  obtain ⟨k, e1, e2, h⟩ := asB_post h r
  refine ⟨k, e1, ?_⟩
  cases k with
  | true => rw [if_pos rfl] at h ⊢; exact q' O σ H1 τ Q (ok.same s) (h.same s)
  | false => rw [if_neg Bool.false_ne_true] at h ⊢; exact h _ H1 [] s ⟨rfl, rfl⟩ RcOk.nil
theorem me_or (ha : ME X E Γ a ta ca) (hb : ME X E Γ (.BoolOp .Or (b :: rest) pos) tb c) : ME X E Γ (.BoolOp .Or (a :: b :: rest) pos) (eOr ta tb) c := by
  obtain ⟨te, p, q⟩ := ha
  obtain ⟨te', p', q'⟩ := hb
  refine ⟨tOrV te te', pe_or p p', fun O σ H τ Q ok h => q O σ H τ _ ok (post.bind h fun d _ h v H1 L s r _ => ?_)⟩
  obtain ⟨k, e1, e2, h⟩ := asB_post h r
  refine ⟨k, e1, ?_⟩
  cases k with
  | true => rw [if_pos rfl] at h ⊢; exact h _ H1 [] s ⟨rfl, rfl⟩ RcOk.nil
  | false => rw [if_neg Bool.false_ne_true] at h ⊢; exact q' O σ H1 τ Q (ok.same s) (h.same s)
theorem me_not (ha : ME X E Γ a ta ca) : ME X E Γ (.UnaryOp .Not a pos) (eNot ta) .fresh := by
  obtain ⟨te, p, q⟩ := ha
  refine ⟨tNotV te, pe_not p, fun O σ H τ Q ok h => q O σ H τ _ ok (post.bind h fun d _ h v H1 L s r _ => ?_)⟩
  obtain ⟨k, e1, e2, h⟩ := asB_post h r
  exact ⟨k, e1, h _ H1 [] s ⟨rfl, rfl⟩ RcOk.nil⟩
theorem me_ifE {k : Expr} (hk : MT X E Γ k u) (ha : ME X E Γ a ta c) (hb : ME X E Γ b tb c) : ME X E Γ (.IfExp k a b pos) (eIf u ta tb) c := by
  obtain ⟨te, p, q⟩ := hk
  obtain ⟨te1, p1, q1⟩ := ha
  obtain ⟨te2, p2, q2⟩ := hb
  refine ⟨tIf te te1 te2, pe_ifExp p p1 p2, fun O σ H τ Q ok h => q O σ H τ _ ok ?_⟩
  unfold eIf at h
  cases ht : u τ with
  | ok d =>
    rw [ht, R.ok_bind] at h
    refine fun H1 s1 => ?_
    cases d with
    | true => rw [if_pos rfl] at h ⊢; exact q1 O σ H1 τ Q (ok.same s1) (h.same s1)
    | false => rw [if_neg Bool.false_ne_true] at h ⊢; exact q2 O σ H1 τ Q (ok.same s1) (h.same s1)
  | err n => rw [ht] at h; exact h
  | bad => rw [ht] at h; exact h
noncomputable def OpB (K : PySem.W.Frag) (r : R2) (g : D -> D -> R D) : Prop :=
  ∀ H x y dx dy Lx Ly (Q : VK), Rep K H dx x Lx -> Rep K H dy y Ly -> (∃ d, g dx dy = .ok d /\ ∀ v H' L, Same H H' -> Rep K H' d v L -> L.Nodup -> (∀ a ∈ L, H a = none) -> Q v H') -> r x y H Q
noncomputable def NoErr (g : D -> D -> R D) : Prop := ∀ x y n, g x y ≠ .err n
theorem bin_go {r : R2} {g : D -> D -> R D} {te te' : TE} (hB : OpB X.K r g) (hn : NoErr g) (q : ∀ O σ H τ Q, EOk X.K Γ O H σ τ -> post X.K E O ca H Q (ta τ) -> te σ H Q) (q' : ∀ O σ H τ Q, EOk X.K Γ O H σ τ -> post X.K E O cb H Q (tb τ) -> te' σ H Q)
    {O : Addr -> Prop} {σ : St} {H : Hp} {τ : Tn} {Q : VK} (ok : EOk X.K Γ O H σ τ) (h : post X.K E O .fresh H Q (eBin g ta tb τ)) : tOp r te te' σ H Q := by
  unfold eBin at h
  refine q O σ H τ _ ok (post.bind h fun dx _ h x H1 Lx s1 rx _ => q' O σ H1 τ _ (ok.same s1) (post.bind (h.same s1) fun dy _ h y H2 Ly s2 ry _ => ?_))
  cases hg : g dx dy with
  | ok d =>
    rw [hg] at h
    exact hB H2 x y dx dy Lx Ly Q (rx.same s2) ry ⟨d, hg, fun v H' L s r n1 n2 => h v H' L (s2.trans s) r ⟨n1, fun a ha => s2.non (n2 a ha)⟩⟩
  | err n => exact absurd hg (hn _ _ _)
  | bad => rw [hg] at h; exact h.elim
theorem me_op {op : Operator} {r : R2} {g : D -> D -> R D} (ho : OpR X (binaryOp op) r) (hB : OpB X.K r g) (hn : NoErr g) (ha : ME X E Γ a ta ca) (hb : ME X E Γ b tb cb) : ME X E Γ (.BinOp a op b pos) (eBin g ta tb) .fresh := by
  obtain ⟨te, p, q⟩ := ha
  obtain ⟨te', p', q'⟩ := hb
  exact ⟨_, pe_op ho p p', fun O σ H τ Q ok h => bin_go hB hn q q' ok h⟩
theorem me_cmp {op : CmpOp} {r : R2} {g : D -> D -> R D} (ho : OpR X (compareOp op) r) (hB : OpB X.K r g) (hn : NoErr g) (ha : ME X E Γ a ta ca) (hb : ME X E Γ b tb cb) (hm : behindInMarks op b = false) : ME X E Γ (.Compare a [op] [b] pos) (eBin g ta tb) .fresh := by
  obtain ⟨te, p, q⟩ := ha
  obtain ⟨te', p', q'⟩ := hb
  exact ⟨_, pe_cmpR ho p p' hm, fun O σ H τ Q ok h => bin_go hB hn q q' ok h⟩
theorem test_post {K : PySem.W.Frag} {O : Addr -> Prop} {H : Hp} {Q : Bool -> Hp -> Prop} {r : R D} (h : postB K E H Q (r.bind asB)) : post K E O c H (fun x H' => ∃ k, x = .bl k /\ Q k H') r := by
  cases r with
  | ok d =>
    refine fun v H' L s r _ => ?_
    cases d with
    | bl k => exact ⟨k, r.1, h H' s⟩
    | _ => exact h.elim
  | err n => exact h
  | bad => exact h
theorem mt_cmp {op : CmpOp} {r : R2} {g : D -> D -> R D} (ho : OpR X (compareOp op) r) (hB : OpB X.K r g) (hn : NoErr g) (ha : ME X E Γ a ta ca) (hb : ME X E Γ b tb cb) (hm : behindInMarks op b = false) : MT X E Γ (.Compare a [op] [b] pos) (eTest (eBin g ta tb)) := by
  obtain ⟨te, p, q⟩ := ha
  obtain ⟨te', p', q'⟩ := hb
  exact ⟨_, pt_cmpR ho p p' hm, fun O σ H τ Q ok h => bin_go (O := O) hB hn q q' ok (test_post h)⟩
theorem chain_go {c' : Expr} {cc : Rc} {r r' : R2} {g g' : D -> D -> R D} {te te' te2 : TE} (hB : OpB X.K r g) (hn : NoErr g) (hB' : OpB X.K r' g') (hn' : NoErr g') (q : ∀ O σ H τ Q, EOk X.K Γ O H σ τ -> post X.K E O ca H Q (ta τ) -> te σ H Q) (q' : ∀ O σ H τ Q, EOk X.K Γ O H σ τ -> post X.K E O cb H Q (tb τ) -> te' σ H Q)
    (q2 : ∀ O σ H τ Q, EOk X.K Γ O H σ τ -> post X.K E O cc H Q (tc τ) -> te2 σ H Q) {O : Addr -> Prop} {σ : St} {H : Hp} {τ : Tn} {Q : VK} (ok : EOk X.K Γ O H σ τ) (h : post X.K E O .fresh H Q (eChain g g' ta tb tc τ)) : tChain r r' te te' te2 σ H Q := by
  unfold eChain at h
  refine q O σ H τ _ ok (post.bind h fun dx _ h x H1 Lx s1 rx _ => q' O σ H1 τ _ (ok.same s1) (post.bind (h.same s1) fun dy _ h y H2 Ly s2 ry _ => ?_))
  cases hg : g dx dy with
  | ok d =>
    rw [hg, R.ok_bind] at h
    refine hB H2 x y dx dy Lx Ly _ (rx.same s2) ry ⟨d, hg, fun z H3 L s3 r3 n1 n2 => ?_⟩
    obtain ⟨k, e1, e2, h⟩ := asB_post (h.same s2) r3
    refine ⟨k, e1, ?_⟩
    cases k with
    | true =>
      rw [if_pos rfl] at h ⊢
      have ok3 := ((ok.same s1).same s2).same s3
      refine q2 O σ H3 τ _ ok3 (post.bind (h.same s3) fun dw _ h w H4 Lw s4 rw4 _ => ?_)
      cases hg' : g' dy dw with
      | ok d' =>
        rw [hg'] at h
        exact hB' H4 y w dy dw Ly Lw Q ((ry.same s3).same s4) rw4 ⟨d', hg', fun v H' L s r n1 n2 => h v H' L (s4.trans s) r ⟨n1, fun a ha => s4.non (n2 a ha)⟩⟩
      | err n => exact absurd hg' (hn' _ _ _)
      | bad => rw [hg'] at h; exact h.elim
    | false => rw [if_neg Bool.false_ne_true] at h ⊢; exact h _ H3 [] s3 ⟨rfl, rfl⟩ RcOk.nil
  | err n => exact absurd hg (hn _ _ _)
  | bad => rw [hg] at h; exact h.elim
theorem mt_chain {op op' : CmpOp} {c' : Expr} {cc : Rc} {r r' : R2} {g g' : D -> D -> R D} (ho : OpR X (compareOp op) r) (hB : OpB X.K r g) (hn : NoErr g) (ho' : OpR X (compareOp op') r') (hB' : OpB X.K r' g') (hn' : NoErr g')
    (ha : ME X E Γ a ta ca) (hb : ME X E Γ b tb cb) (hc : ME X E Γ c' tc cc) (hm : lastMarks [op, op'] [b, c'] = false := by with_unfolding_all rfl) : MT X E Γ (.Compare a [op, op'] [b, c'] pos) (eTest (eChain g g' ta tb tc)) := by
  obtain ⟨te, p, q⟩ := ha
  obtain ⟨te', p', q'⟩ := hb
  obtain ⟨te2, p2, q2⟩ := hc
  exact ⟨_, pt_chain ho ho' p p' p2 hm, fun O σ H τ Q ok h => chain_go (c' := c') (O := O) hB hn hB' hn' q q' q2 ok (test_post h)⟩
noncomputable def ClB (K : PySem.W.Frag) (r : List V -> Hp -> VK -> Prop) (g : List D -> R D) : Prop :=
  ∀ H xs ds L (Q : VK), Reps K H ds xs L -> (∃ d, g ds = .ok d /\ ∀ v H' L', Same H H' -> Rep K H' d v L' -> L'.Nodup -> (∀ a ∈ L', H a = none) -> Q v H') -> r xs H Q
noncomputable def NoErrL (g : List D -> R D) : Prop := ∀ ds n, g ds ≠ .err n
variable {uL : Tn -> R (List D)} {es : List Expr}
theorem cb_go {r : List V -> Hp -> VK -> Prop} {g : List D -> R D} {ta' : TA} (hB : ClB X.K r g) (hn : NoErrL g) (q : ∀ O σ H τ Q, EOk X.K Γ O H σ τ -> postL X.K E O ca H Q (uL τ) -> ta' σ H Q)
    {O : Addr -> Prop} {σ : St} {H : Hp} {τ : Tn} {Q : VK} (ok : EOk X.K Γ O H σ τ) (h : post X.K E O .fresh H Q (eL g uL τ)) : tCB r ta' σ H Q := by
  refine q O σ H τ _ ok ?_
  unfold eL at h
  cases hu : uL τ with
  | ok ds =>
    rw [hu, R.ok_bind] at h
    refine fun vs H1 L s1 r1 _ => ?_
    cases hg : g ds with
    | ok d =>
      rw [hg] at h
      exact hB H1 vs ds L Q r1 ⟨d, hg, fun v H' L s r n1 n2 => h v H' L (s1.trans s) r ⟨n1, fun a ha => s1.non (n2 a ha)⟩⟩
    | err n => exact absurd hg (hn _ _)
    | bad => rw [hg] at h; exact h.elim
  | err n => rw [hu] at h; exact h
  | bad => rw [hu] at h; exact h
variable {x : Str} {id T : String} {p : Pos}
theorem me_callB {r : List V -> Hp -> VK -> Prop} {g : List D -> R D} (hc : CallR X (.builtin id) r) (hB : ClB X.K r g) (hn : NoErrL g) (hg : Gl X x) (hm : X.mg x = none) (hv : bootBuiltins x = some (.builtin id)) (ha : MA X E Γ (e :: es) uL ca) (hx : x ≠ "__name__" := by decide) (hdb : (x == ("__debug__" : Str)) = false := by decide)
    (he : starEach (e :: es) X.env = (false, eval e X.env) :: starEach es X.env := by rfl) (hpl : (backTo pos (starEach es X.env)).any (·.1) = false := by rfl) : ME X E Γ (.Call (.Name x p) (e :: es) [] pos) (eL g uL) .fresh := by
  obtain ⟨_, ta', p', q⟩ := ha
  exact ⟨_, pe_callB hc hg hm hv p' hx hdb he hpl, fun O σ H τ Q ok h => cb_go hB hn q ok h⟩
theorem me_callTy {r : List V -> Hp -> VK -> Prop} {g : List D -> R D} (hc : CallR X (.type T) r) (hB : ClB X.K r g) (hn : NoErrL g) (hg : Gl X x) (hm : X.mg x = none) (hv : bootBuiltins x = some (.type T)) (ha : MA X E Γ (e :: es) uL ca) (hx : x ≠ "__name__" := by decide) (hdb : (x == ("__debug__" : Str)) = false := by decide)
    (he : starEach (e :: es) X.env = (false, eval e X.env) :: starEach es X.env := by rfl) (hpl : (backTo pos (starEach es X.env)).any (·.1) = false := by rfl) : ME X E Γ (.Call (.Name x p) (e :: es) [] pos) (eL g uL) .fresh := by
  obtain ⟨_, ta', p', q⟩ := ha
  exact ⟨_, pe_callTy hc hg hm hv p' hx hdb he hpl, fun O σ H τ Q ok h => cb_go hB hn q ok h⟩
end
end L2
set_option maxRecDepth 100000
set_option maxHeartbeats 4000000
namespace L2
open PySem PySem.Spec PyProof.Rows
noncomputable def wpE (K : PySem.W.Frag) (E : XK) (Γ : List Cl) (t : Tn -> R D) (c : Rc) : TE := fun σ H Q => ∃ O τ, EOk K Γ O H σ τ /\ post K E O c H Q (t τ)
noncomputable def wpT (K : PySem.W.Frag) (E : XK) (Γ : List Cl) (t : Tn -> R Bool) : TT := fun σ H Q => ∃ O τ, EOk K Γ O H σ τ /\ postB K E H Q (t τ)
theorem ME.pe {X : Cx} {E : XK} {Γ : List Cl} {e : Expr} {t : Tn -> R D} {c : Rc} (h : ME X E Γ e t c) : PE X e (wpE X.K E Γ t c) := by
  obtain ⟨te, p, q⟩ := h
  rintro pins s σ H Q I ⟨O, τ, ok, z⟩
  exact p pins s σ H Q I (q O σ H τ Q ok z)
theorem MT.pt {X : Cx} {E : XK} {Γ : List Cl} {e : Expr} {t : Tn -> R Bool} (h : MT X E Γ e t) : PT X e (wpT X.K E Γ t) := by
  obtain ⟨te, p, q⟩ := h
  rintro pins s σ H Q I ⟨O, τ, ok, z⟩
  exact p pins s σ H Q I (q O σ H τ Q ok z)
structure SOk (K : PySem.W.Frag) (Γ : List Cl) (B H : Hp) (σ : St) (τ : Tn) (T : List Addr) : Prop where
  ext : Same B H
  lσ : σ.length = Γ.length
  lτ : τ.length = Γ.length
  ex : ∃ Ls : Nat -> List Addr,
    (∀ i c, Γ[i]? = some c -> c ≠ .dead -> ∃ v d, σ[i]? = some (some v) /\ τ[i]? = some (some d) /\ Rep K H d v (Ls i)) /\
    (∀ i, Γ[i]? = some .own -> (Ls i).Nodup /\ ∀ a ∈ Ls i, B a = none) /\
    (∀ i j c, i ≠ j -> Γ[i]? = some .own -> Γ[j]? = some c -> c ≠ .dead -> ∀ a ∈ Ls i, a ∉ Ls j) /\
    T.Nodup /\ (∀ a ∈ T, B a = none /\ H a ≠ none) /\ (∀ i c, Γ[i]? = some c -> c ≠ .dead -> ∀ a ∈ Ls i, a ∉ T)
inductive Fl where
  | nx (τ : Tn) | rt (d : D) | bk (τ : Tn) | ct (τ : Tn)
noncomputable def postV (K : PySem.W.Frag) (E : XK) (B : Hp) (Γ' : List Cl) (σ : St) (τ : Tn) (T : List Addr) (H : Hp) (Q : VK) : R D -> Prop
  | .ok d => ∀ v H' L, Same H H' -> Rep K H' d v L -> SOk K Γ' B H' σ τ (L ++ T) -> Q v H'
  | .err n => ∀ C H', ErrC K n C -> Same B H' -> E (.ref C) none H'
  | .bad => False
noncomputable def postVs (K : PySem.W.Frag) (E : XK) (B : Hp) (Γ' : List Cl) (σ : St) (τ : Tn) (T : List Addr) (H : Hp) (Q : List V -> Hp -> Prop) : R (List D) -> Prop
  | .ok ds => ∀ vs H' L, Same H H' -> Reps K H' ds vs L -> SOk K Γ' B H' σ τ (L ++ T) -> Q vs H'
  | .err n => ∀ C H', ErrC K n C -> Same B H' -> E (.ref C) none H'
  | .bad => False
noncomputable def postS (K : PySem.W.Frag) (E : XK) (B : Hp) (Γl Γ' : List Cl) (Z : Ends) : R Fl -> Prop
  | .ok (.nx τ') => ∀ σ' H', SOk K Γ' B H' σ' τ' [] -> Z.nx σ' H'
  | .ok (.rt d) => ∀ v H' L, Same B H' -> Rep K H' d v L -> L.Nodup -> (∀ a ∈ L, B a = none) -> Z.rt v H'
  | .ok (.bk τ') => ∀ σ' H', SOk K Γl B H' σ' τ' [] -> Z.bk σ' H'
  | .ok (.ct τ') => ∀ σ' H', SOk K Γl B H' σ' τ' [] -> Z.ct σ' H'
  | .err n => ∀ C H', ErrC K n C -> Same B H' -> E (.ref C) none H'
  | .bad => False
noncomputable def MV (X : Cx) (E : XK) (Γ : List Cl) (e : Expr) (t : Tn -> R D) (Γ' : List Cl) : Prop :=
  ∃ te, PE X e te /\ ∀ B σ H τ T Q, SOk X.K Γ B H σ τ T -> postV X.K E B Γ' σ τ T H Q (t τ) -> te σ H Q
noncomputable def MVs (X : Cx) (E : XK) (Γ : List Cl) (es : List Expr) (t : Tn -> R (List D)) (Γ' : List Cl) : Prop :=
  (∀ τ ds, t τ = .ok ds -> ds.length = es.length) /\ ∃ ta, PA X es ta /\ ∀ B σ H τ T Q, SOk X.K Γ B H σ τ T -> postVs X.K E B Γ' σ τ T H Q (t τ) -> ta σ H Q
noncomputable def MS (X : Cx) (E : XK) (Γl Γ : List Cl) (s : Stmt) (t : Tn -> R Fl) (Γ' : List Cl) : Prop :=
  ∃ ts, PS X s ts /\ ∀ B σ H τ Z, SOk X.K Γ B H σ τ [] -> postS X.K E B Γl Γ' Z (t τ) -> ts Z σ H
noncomputable def MSs (X : Cx) (E : XK) (Γl Γ : List Cl) (s : List Stmt) (t : Tn -> R Fl) (Γ' : List Cl) : Prop :=
  ∃ ts, PSs X s ts /\ ∀ B σ H τ Z, SOk X.K Γ B H σ τ [] -> postS X.K E B Γl Γ' Z (t τ) -> ts Z σ H
section
variable {K : PySem.W.Frag} {Γ Γ' : List Cl} {B H H1 : Hp} {σ : St} {τ : Tn} {T : List Addr}
theorem SOk.eok (h : SOk K Γ B H σ τ T) : ∃ O : Addr -> Prop, EOk K Γ O H σ τ /\ (∀ L : List Addr, (∀ a ∈ L, ¬ O a) -> ∃ Ls : Nat -> List Addr,
    (∀ i c, Γ[i]? = some c -> c ≠ .dead -> ∃ v d, σ[i]? = some (some v) /\ τ[i]? = some (some d) /\ Rep K H d v (Ls i)) /\
    (∀ i, Γ[i]? = some .own -> (Ls i).Nodup /\ ∀ a ∈ Ls i, B a = none) /\
    (∀ i j c, i ≠ j -> Γ[i]? = some .own -> Γ[j]? = some c -> c ≠ .dead -> ∀ a ∈ Ls i, a ∉ Ls j) /\
    T.Nodup /\ (∀ a ∈ T, B a = none /\ H a ≠ none) /\ (∀ i c, Γ[i]? = some c -> c ≠ .dead -> ∀ a ∈ Ls i, a ∉ T) /\ ∀ i, Γ[i]? = some .own -> ∀ a ∈ Ls i, a ∉ L) := by
  obtain ⟨Ls, h1, h2, h3, h4, h5, h6⟩ := h.ex
  refine ⟨fun a => ∃ i, Γ[i]? = some .own /\ a ∈ Ls i, ⟨fun a ⟨i, e, ha⟩ => ?_, fun i c e hc => ?_⟩, fun L hL => ⟨Ls, h1, h2, h3, h4, h5, h6, fun i e a ha hm => hL a hm ⟨i, e, ha⟩⟩⟩
  · obtain ⟨v, d, _, _, r⟩ := h1 i _ e (by simp)
    exact r.there ha
  · obtain ⟨v, d, e1, e2, r⟩ := h1 i c e hc
    refine ⟨v, d, Ls i, e1, e2, r, fun z a ha ⟨j, ej, hj⟩ => ?_⟩
    subst z
    have hij : j ≠ i := fun z => by subst z; rw [e] at ej; cases ej
    exact h3 j i _ hij ej e (by simp) a hj ha
theorem SOk.same (h : SOk K Γ B H σ τ T) (s : Same H H1) : SOk K Γ B H1 σ τ T := by
  obtain ⟨Ls, h1, h2, h3, h4, h5, h6⟩ := h.ex
  refine ⟨h.ext.trans s, h.lσ, h.lτ, Ls, fun i c e hc => ?_, h2, h3, h4, fun a ha => ⟨(h5 a ha).1, by rw [s.at (h5 a ha).2]; exact (h5 a ha).2⟩, h6⟩
  obtain ⟨v, d, e1, e2, r⟩ := h1 i c e hc
  exact ⟨v, d, e1, e2, r.same s⟩
theorem SOk.aside {L : List Addr} (h : SOk K Γ B H σ τ T) (s : Same H H1) (r : ∀ a ∈ L, H1 a ≠ none) (n1 : L.Nodup) (n2 : ∀ a ∈ L, H a = none) : SOk K Γ B H1 σ τ (L ++ T) := by
  obtain ⟨Ls, h1, h2, h3, h4, h5, h6⟩ := h.ex
  refine ⟨h.ext.trans s, h.lσ, h.lτ, Ls, fun i c e hc => ?_, h2, h3, List.nodup_append.mpr ⟨n1, h4, fun a ha b hb z => ?_⟩, fun a ha => ?_, fun i c e hc a ha hm => ?_⟩
  · obtain ⟨v, d, e1, e2, r⟩ := h1 i c e hc
    exact ⟨v, d, e1, e2, r.same s⟩
  · subst z; exact (h5 a hb).2 (n2 a ha)
  · rcases List.mem_append.mp ha with z | z
    · exact ⟨h.ext.non (n2 a z), r a z⟩
    · exact ⟨(h5 a z).1, by rw [s.at (h5 a z).2]; exact (h5 a z).2⟩
  · obtain ⟨v, d, e1, e2, r'⟩ := h1 i c e hc
    rcases List.mem_append.mp hm with z | z
    · exact r'.there ha (n2 a z)
    · exact h6 i c e hc a ha z
theorem SOk.perm {T' : List Addr} (h : SOk K Γ B H σ τ T) (p : T.Perm T') : SOk K Γ B H σ τ T' := by
  obtain ⟨Ls, h1, h2, h3, h4, h5, h6⟩ := h.ex
  exact ⟨h.ext, h.lσ, h.lτ, Ls, h1, h2, h3, p.nodup_iff.mp h4, fun a ha => h5 a (p.mem_iff.mpr ha), fun i c e hc a ha hm => h6 i c e hc a ha (p.mem_iff.mpr hm)⟩
noncomputable def wk1 : Cl -> Cl -> Bool
  | _, .dead => true
  | .own, .own => true
  | .own, .shr => true
  | .shr, .shr => true
  | _, _ => false
noncomputable def wk : List Cl -> List Cl -> Bool
  | [], [] => true
  | a :: r, b :: q => wk1 a b && wk r q
  | _, _ => false
theorem wk_len : ∀ {Γ Γ' : List Cl}, wk Γ Γ' = true -> Γ.length = Γ'.length
  | [], [], _ => rfl
  | a :: r, b :: q, h => by
    have h : (wk1 a b && wk r q) = true := h
    rw [Bool.and_eq_true] at h
    rw [List.length_cons, List.length_cons, wk_len h.2]
theorem wk_at : ∀ {Γ Γ' : List Cl} {i : Nat} {c : Cl}, wk Γ Γ' = true -> Γ'[i]? = some c -> ∃ k, Γ[i]? = some k /\ wk1 k c = true
  | [], [], _, _, _, e => by simp at e
  | a :: r, b :: q, 0, c, h, e => by
    have h : (wk1 a b && wk r q) = true := h
    rw [Bool.and_eq_true] at h
    simp at e; subst e
    exact ⟨a, rfl, h.1⟩
  | a :: r, b :: q, i + 1, c, h, e => by
    have h : (wk1 a b && wk r q) = true := h
    rw [Bool.and_eq_true] at h
    obtain ⟨k, h1, h2⟩ := wk_at (i := i) (c := c) h.2 (by simpa using e)
    exact ⟨k, by simpa using h1, h2⟩
theorem SOk.weak (h : SOk K Γ B H σ τ T) (w : wk Γ Γ' = true) : SOk K Γ' B H σ τ T := by
  obtain ⟨Ls, h1, h2, h3, h4, h5, h6⟩ := h.ex
  have live : ∀ (i : Nat) (c : Cl), Γ'[i]? = some c -> c ≠ Cl.dead -> ∃ k, Γ[i]? = some k /\ k ≠ Cl.dead /\ (c = Cl.own -> k = Cl.own) := fun i c e hc => by
    obtain ⟨k, e', w'⟩ := wk_at w e
    refine ⟨k, e', fun z => ?_, fun z => ?_⟩
    · subst z; cases c <;> first | exact absurd rfl hc | cases w'
    · subst z; cases k <;> first | rfl | cases w'
  refine ⟨h.ext, by rw [<- wk_len w]; exact h.lσ, by rw [<- wk_len w]; exact h.lτ, Ls, fun i c e hc => ?_, fun i e => ?_, fun i j c hij ei ej hc => ?_, h4, h5, fun i c e hc => ?_⟩
  · obtain ⟨k, e', n, _⟩ := live i c e hc
    exact h1 i k e' n
  · obtain ⟨k, e', n, o⟩ := live i _ e (by simp)
    rw [o rfl] at e'
    exact h2 i e'
  · obtain ⟨k, e', n, o⟩ := live i _ ei (by simp)
    obtain ⟨k2, e2, n2, _⟩ := live j c ej hc
    rw [o rfl] at e'
    exact h3 i j k2 hij e' e2 n2
  · obtain ⟨k, e', n, _⟩ := live i c e hc
    exact h6 i k e' n
theorem SOk.out {i : Nat} (h : SOk K Γ B H σ τ T) (e : Γ[i]? = some .own) : ∃ v d L, σ[i]? = some (some v) /\ τ[i]? = some (some d) /\ Rep K H d v L /\ SOk K (Γ.set i .dead) B H σ τ (L ++ T) := by
  obtain ⟨Ls, h1, h2, h3, h4, h5, h6⟩ := h.ex
  obtain ⟨v, d, e1, e2, r⟩ := h1 i _ e (by simp)
  have hi : i < Γ.length := (List.getElem?_eq_some_iff.mp e).1
  have at' : ∀ (j : Nat) (c : Cl), (Γ.set i .dead)[j]? = some c -> c ≠ .dead -> j ≠ i /\ Γ[j]? = some c := fun j c ej hc => by
    by_cases z : i = j
    · subst z; rw [List.getElem?_set_self hi] at ej; exact absurd (Option.some.inj ej).symm hc
    · rw [List.getElem?_set_ne z] at ej; exact ⟨Ne.symm z, ej⟩
  refine ⟨v, d, Ls i, e1, e2, r, ⟨h.ext, by rw [List.length_set]; exact h.lσ, by rw [List.length_set]; exact h.lτ, Ls, fun j c ej hc => h1 j c (at' j c ej hc).2 hc, fun j ej => h2 j (at' j _ ej (by simp)).2, fun j k c hjk ej ek hc => h3 j k c hjk (at' j _ ej (by simp)).2 (at' k c ek hc).2 hc,
    List.nodup_append.mpr ⟨(h2 i e).1, h4, fun a ha b hb z => ?_⟩, fun a ha => ?_, fun j c ej hc a ha hm => ?_⟩⟩
  · subst z; exact h6 i _ e (by simp) a ha hb
  · rcases List.mem_append.mp ha with z | z
    · exact ⟨(h2 i e).2 a z, r.there z⟩
    · exact h5 a z
  · obtain ⟨n, ej'⟩ := at' j c ej hc
    rcases List.mem_append.mp hm with z | z
    · exact h3 i j c (Ne.symm n) e ej' hc a z ha
    · exact h6 j c ej' hc a ha z
noncomputable def putL (Ls : Nat -> List Addr) (i : Nat) (L : List Addr) : Nat -> List Addr := fun j => if j = i then L else Ls j
theorem putL_self {Ls : Nat -> List Addr} {i : Nat} {L : List Addr} : putL Ls i L i = L := if_pos rfl
theorem putL_eq {Ls : Nat -> List Addr} {i j : Nat} {L : List Addr} (h : j = i) : putL Ls i L j = L := if_pos h
theorem putL_ne {Ls : Nat -> List Addr} {i j : Nat} {L : List Addr} (h : j ≠ i) : putL Ls i L j = Ls j := if_neg h
theorem SOk.into {i : Nat} {d : D} {v : V} {L : List Addr} (h : SOk K Γ B H σ τ (L ++ T)) (r : Rep K H d v L) (hi : i < Γ.length) : SOk K (Γ.set i .own) B H (σ.set i (some v)) (τ.set i (some d)) T := by
  obtain ⟨Ls, h1, h2, h3, h4, h5, h6⟩ := h.ex
  have hσ : i < σ.length := by rw [h.lσ]; exact hi
  have hτ : i < τ.length := by rw [h.lτ]; exact hi
  obtain ⟨n1, n2, n3⟩ := List.nodup_append.mp h4
  have at' : ∀ (j : Nat) (c : Cl), j ≠ i -> (Γ.set i .own)[j]? = some c -> Γ[j]? = some c := fun j c hj e => by rw [List.getElem?_set_ne (Ne.symm hj)] at e; exact e
  refine ⟨h.ext, by rw [List.length_set, List.length_set]; exact h.lσ, by rw [List.length_set, List.length_set]; exact h.lτ, putL Ls i L, fun j c e hc => ?_, fun j e => ?_, fun j k c hjk ej ek hc a ha hm => ?_, n2, fun a ha => h5 a (List.mem_append_right _ ha), fun j c e hc a ha hm => ?_⟩
  · by_cases z : j = i
    · subst z
      refine ⟨v, d, by rw [List.getElem?_set_self hσ], by rw [List.getElem?_set_self hτ], ?_⟩
      rw [putL_self]; exact r
    · obtain ⟨v', d', e1, e2, r'⟩ := h1 j c (at' j c z e) hc
      refine ⟨v', d', by rw [List.getElem?_set_ne (Ne.symm z)]; exact e1, by rw [List.getElem?_set_ne (Ne.symm z)]; exact e2, ?_⟩
      rw [putL_ne z]; exact r'
  · by_cases z : j = i
    · subst z; rw [putL_self]; exact ⟨n1, fun a ha => (h5 a (List.mem_append_left _ ha)).1⟩
    · rw [putL_ne z]; exact h2 j (at' j _ z e)
  · by_cases z : j = i
    · subst z
      rw [putL_self] at ha
      rw [putL_ne (Ne.symm hjk)] at hm
      exact h6 k c (at' k c (Ne.symm hjk) ek) hc a hm (List.mem_append_left _ ha)
    · rw [putL_ne z] at ha
      by_cases z2 : k = i
      · subst z2
        rw [putL_self] at hm
        exact h6 j _ (at' j _ z ej) (by simp) a ha (List.mem_append_left _ hm)
      · rw [putL_ne z2] at hm
        exact h3 j k c hjk (at' j _ z ej) (at' k c z2 ek) hc a ha hm
  · by_cases z : j = i
    · subst z; rw [putL_self] at ha; exact n3 a ha a hm rfl
    · rw [putL_ne z] at ha; exact h6 j c (at' j c z e) hc a ha (List.mem_append_right _ hm)
end
end L2
set_option maxRecDepth 100000
set_option maxHeartbeats 4000000
namespace L2
open PySem PySem.Spec PyProof.Rows
section
variable {K : PySem.W.Frag} {Γ Γ' : List Cl} {B H H1 : Hp} {σ : St} {τ : Tn} {T : List Addr}
theorem SOk.intoS {i : Nat} {d : D} {v : V} {L : List Addr} {Ls : Nat -> List Addr} (e0 : Same B H) (l1 : σ.length = Γ.length) (l2 : τ.length = Γ.length)
    (h1 : ∀ i c, Γ[i]? = some c -> c ≠ .dead -> ∃ v d, σ[i]? = some (some v) /\ τ[i]? = some (some d) /\ Rep K H d v (Ls i)) (h2 : ∀ i, Γ[i]? = some .own -> (Ls i).Nodup /\ ∀ a ∈ Ls i, B a = none)
    (h3 : ∀ i j c, i ≠ j -> Γ[i]? = some .own -> Γ[j]? = some c -> c ≠ .dead -> ∀ a ∈ Ls i, a ∉ Ls j) (h7 : ∀ i, Γ[i]? = some .own -> ∀ a ∈ Ls i, a ∉ L) (r : Rep K H d v L) (hi : i < Γ.length) :
    SOk K (Γ.set i .shr) B H (σ.set i (some v)) (τ.set i (some d)) [] := by
  have hσ : i < σ.length := by rw [l1]; exact hi
  have hτ : i < τ.length := by rw [l2]; exact hi
  have at' : ∀ (j : Nat) (c : Cl), j ≠ i -> (Γ.set i .shr)[j]? = some c -> Γ[j]? = some c := fun j c hj e => by rw [List.getElem?_set_ne (Ne.symm hj)] at e; exact e
  have nown : ∀ j : Nat, (Γ.set i .shr)[j]? = some .own -> j ≠ i := fun j e z => by subst z; rw [List.getElem?_set_self hi] at e; cases e
  refine ⟨e0, by rw [List.length_set, List.length_set]; exact l1, by rw [List.length_set, List.length_set]; exact l2, putL Ls i L, fun j c e hc => ?_, fun j e => ?_, fun j k c hjk ej ek hc a ha hm => ?_, List.nodup_nil, fun a ha => (nomatch ha), fun j c e hc a ha hm => (nomatch hm)⟩
  · by_cases z : j = i
    · subst z
      refine ⟨v, d, by rw [List.getElem?_set_self hσ], by rw [List.getElem?_set_self hτ], ?_⟩
      rw [putL_self]; exact r
    · obtain ⟨v', d', e1, e2, r'⟩ := h1 j c (at' j c z e) hc
      refine ⟨v', d', by rw [List.getElem?_set_ne (Ne.symm z)]; exact e1, by rw [List.getElem?_set_ne (Ne.symm z)]; exact e2, ?_⟩
      rw [putL_ne z]; exact r'
  · have z := nown j e
    rw [putL_ne z]; exact h2 j (at' j _ z e)
  · have z := nown j ej
    rw [putL_ne z] at ha
    by_cases z2 : k = i
    · rw [putL_eq z2] at hm; exact h7 j (at' j _ z ej) a ha hm
    · rw [putL_ne z2] at hm; exact h3 j k c hjk (at' j _ z ej) (at' k c z2 ek) hc a ha hm
end
section
variable {X : Cx} {E : XK} {Γ Γ1 Γ' Γl : List Cl} {e a b : Expr} {es : List Expr} {t : Tn -> R D} {u : Tn -> R (List D)} {c : Rc} {pos : Pos}
theorem mv_fresh (h : ME X E Γ e t .fresh) : MV X E Γ e t Γ := by
  obtain ⟨te, p, q⟩ := h
  refine ⟨te, p, fun B σ H τ T Q ok h => ?_⟩
  obtain ⟨O, eo, _⟩ := ok.eok
  refine q O σ H τ Q eo ?_
  cases ht : t τ with
  | ok d =>
    rw [ht] at h
    exact fun v H' L s r k => h v H' L s r (ok.aside s (fun a ha => r.there ha) k.1 k.2)
  | err n => rw [ht] at h; exact fun C H' e s => h C H' e (ok.ext.trans s)
  | bad => rw [ht] at h; exact h
theorem mv_name {i : Nat} {x : Str} (hN : X.N[i]? = some x) (hk : Γ[i]? = some .own) (hv : Vis X.env.scope x) (hb : (x == ("__debug__" : Str)) = false := by decide) (hcd : (x == ("__classdict__" : Str)) = false := by decide) : MV X E Γ (.Name x pos) (eVar i) (Γ.set i .dead) := by
  refine ⟨tVar i, pe_var hN hv hb hcd, fun B σ H τ T Q ok h => ?_⟩
  obtain ⟨v, d, L, e1, e2, r, ok'⟩ := ok.out hk
  unfold eVar at h
  rw [e2] at h
  exact ⟨v, e1, h v H L (Same.refl H) r ok'⟩
theorem mvs_nil : MVs X E Γ [] aNil Γ := ⟨fun τ ds h => by cases h; rfl, tNil, pa_nil, fun B σ H τ T Q ok h => h [] H [] (Same.refl H) Reps.nil ok⟩
theorem mvs_cons (h : MV X E Γ e t Γ1) (r : MVs X E Γ1 es u Γ') (hs : starEach (e :: es) X.env = (false, eval e X.env) :: starEach es X.env := by rfl) : MVs X E Γ (e :: es) (aCons t u) Γ' := by
  obtain ⟨te, p1, q1⟩ := h
  obtain ⟨hl, ta, p2, q2⟩ := r
  refine ⟨fun τ ds h => ?_, tCons te ta, pa_cons p1 p2 hs, fun B σ H τ T Q ok h => ?_⟩
  · unfold aCons at h
    cases h1 : t τ with
    | ok d =>
      rw [h1, R.ok_bind] at h
      cases h2 : u τ with
      | ok xs =>
        rw [h2, R.ok_bind] at h
        cases h
        rw [List.length_cons, List.length_cons, hl τ xs h2]
      | err n => rw [h2] at h; cases h
      | bad => rw [h2] at h; cases h
    | err n => rw [h1] at h; cases h
    | bad => rw [h1] at h; cases h
  · unfold aCons at h
    refine q1 B σ H τ T _ ok ?_
    cases h1 : t τ with
    | ok d =>
      rw [h1, R.ok_bind] at h
      refine fun v H1 L1 s1 r1 k1 => q2 B σ H1 τ (L1 ++ T) _ k1 ?_
      cases h2 : u τ with
      | ok xs =>
        rw [h2, R.ok_bind] at h
        refine fun vs H2 L2 s2 r2 k2 => h (v :: vs) H2 (L1 ++ L2) (s1.trans s2) (Reps.cons (r1.same s2) r2) (k2.perm ?_)
        rw [<- List.append_assoc]
        exact List.Perm.append_right _ List.perm_append_comm
      | err n => rw [h2] at h; exact h
      | bad => rw [h2] at h; exact h
    | err n => rw [h1] at h; exact h
    | bad => rw [h1] at h; exact h
theorem mv_tup {x1} (h : MVs X E Γ es u Γ') (hz : es.length <= 1000 := by decide) : MV X E Γ (.Tuple es x1 pos) (eL (fun ds => .ok (.tup ds)) u) Γ' := by
  obtain ⟨hl, ta, p, q⟩ := h
  refine ⟨tTup ta, pe_tup p, fun B σ H τ T Q ok h => q B σ H τ T _ ok ?_⟩
  unfold eL at h
  have hs : sizeLine = 16777216 := sizeLine_eq
  cases hu : u τ with
  | ok ds =>
    rw [hu, R.ok_bind] at h
    refine fun vs H1 L s r k => ⟨by rw [r.length, hl τ ds hu]; omega, fun p hp => ?_⟩
    exact h _ _ L (s.trans (Same.new hp)) ⟨p, vs, rfl, SqT.of upd_same, r.same (Same.new hp)⟩ (k.same (Same.new hp))
  | err n => rw [hu] at h; exact h
  | bad => rw [hu] at h; exact h
noncomputable def sSkip : Tn -> R Fl := fun τ => .ok (.nx τ)
noncomputable def sSeq (a b : Tn -> R Fl) : Tn -> R Fl := fun τ => (a τ).bind fun f => match f with
  | .nx τ' => b τ'
  | f => .ok f
noncomputable def sRet (t : Tn -> R D) : Tn -> R Fl := fun τ => (t τ).bind fun d => .ok (.rt d)
noncomputable def sSet (i : Nat) (t : Tn -> R D) : Tn -> R Fl := fun τ => (t τ).bind fun d => .ok (.nx (τ.set i (some d)))
noncomputable def sIf (k : Tn -> R Bool) (a b : Tn -> R Fl) : Tn -> R Fl := fun τ => (k τ).bind fun x => if x = true then a τ else b τ
theorem mss_nil : MSs X E Γl Γ [] sSkip Γ := ⟨tNext, pss_nil, fun B σ H τ Z ok h => h σ H ok⟩
theorem mss_one {s : Stmt} {t : Tn -> R Fl} (h : MS X E Γl Γ s t Γ') : MSs X E Γl Γ [s] t Γ' := by
  obtain ⟨ts, p, q⟩ := h
  exact ⟨ts, pss_one p, q⟩
theorem mss_cons {s : Stmt} {r : List Stmt} {t1 t2 : Tn -> R Fl} (h : MS X E Γl Γ s t1 Γ1) (k : MSs X E Γl Γ1 r t2 Γ') : MSs X E Γl Γ (s :: r) (sSeq t1 t2) Γ' := by
  obtain ⟨ts, p, q⟩ := h
  obtain ⟨ts', p', q'⟩ := k
  refine ⟨tSeq ts ts', pss_cons p p', fun B σ H τ Z ok h => q B σ H τ _ ok ?_⟩
  unfold sSeq at h
  cases ht : t1 τ with
  | ok f =>
    rw [ht, R.ok_bind] at h
    cases f with
    | nx τ' => exact fun σ' H' ok' => q' B σ' H' τ' Z ok' h
    | rt d => exact h
    | bk τ' => exact h
    | ct τ' => exact h
  | err n => rw [ht] at h; exact h
  | bad => rw [ht] at h; exact h
theorem ms_pre {s : Stmt} {t : Tn -> R Fl} (h : MS X E Γl Γ1 s t Γ') (w : wk Γ Γ1 = true) : MS X E Γl Γ s t Γ' := by
  obtain ⟨ts, p, q⟩ := h
  exact ⟨ts, p, fun B σ H τ Z ok h => q B σ H τ Z (ok.weak w) h⟩
theorem ms_ret (h : MV X E Γ e t Γ1) : MS X E Γl Γ (.Return (some e) pos) (sRet t) Γ' := by
  obtain ⟨te, p, q⟩ := h
  refine ⟨tRet te, ps_ret p, fun B σ H τ Z ok h => q B σ H τ [] _ ok ?_⟩
  unfold sRet at h
  cases ht : t τ with
  | ok d =>
    rw [ht, R.ok_bind] at h
    refine fun v H' L s r ok' => ?_
    obtain ⟨Ls, _, _, _, h4, h5, _⟩ := ok'.ex
    rw [List.append_nil] at h4 h5
    exact h v H' L ok'.ext r h4 fun a ha => (h5 a ha).1
  | err n => rw [ht] at h; exact h
  | bad => rw [ht] at h; exact h
theorem ms_if {k : Expr} {u : Tn -> R Bool} {sa sb : List Stmt} {t1 t2 : Tn -> R Fl} (hk : MT X E Γ k u) (ha : MSs X E Γl Γ sa t1 Γ') (hb : MSs X E Γl Γ sb t2 Γ') : MS X E Γl Γ (.If k sa sb pos) (sIf u t1 t2) Γ' := by
  obtain ⟨te, p, q⟩ := hk
  obtain ⟨ts1, p1, q1⟩ := ha
  obtain ⟨ts2, p2, q2⟩ := hb
  refine ⟨tIfS te ts1 ts2, ps_if p p1 p2, fun B σ H τ Z ok h => ?_⟩
  obtain ⟨O, eo, _⟩ := ok.eok
  refine q O σ H τ _ eo ?_
  unfold sIf at h
  cases ht : u τ with
  | ok x =>
    rw [ht, R.ok_bind] at h
    refine fun H1 s1 => ?_
    cases x with
    | true => rw [if_pos rfl] at h ⊢; exact q1 B σ H1 τ Z (ok.same s1) h
    | false => rw [if_neg Bool.false_ne_true] at h ⊢; exact q2 B σ H1 τ Z (ok.same s1) h
  | err n => rw [ht] at h; exact fun C H' e s => h C H' e (ok.ext.trans s)
  | bad => rw [ht] at h; exact h
theorem ms_set {i : Nat} {x : Str} {pos' : Pos} (hN : X.N.Nodup) (hi : X.N[i]? = some x) (hl : i < Γ1.length) (h : MV X E Γ e t Γ1) (hx : Loc X.env.scope x) (hs : swapsWith e (some (.Name x pos')) pos.line X.env = pure false := by rfl) (hf : X.fn x = true \/ X.env.scope.names.lookup x = some .local := by first | exact .inl rfl | exact .inr rfl | assumption) :
    MS X E Γl Γ (.Assign [.Name x pos'] e pos) (sSet i t) (Γ1.set i .own) := by
  obtain ⟨te, p, q⟩ := h
  refine ⟨_, ps_set hN hi hx p hs hf, fun B σ H τ Z ok h => q B σ H τ [] _ ok ?_⟩
  unfold sSet at h
  cases ht : t τ with
  | ok d =>
    rw [ht, R.ok_bind] at h
    exact fun v H' L s r ok' => h _ _ (ok'.into r hl)
  | err n => rw [ht] at h; exact h
  | bad => rw [ht] at h; exact h
theorem ms_setS {i : Nat} {x : Str} {pos' : Pos} (hN : X.N.Nodup) (hi : X.N[i]? = some x) (hl : i < Γ.length) (h : ME X E Γ e t c) (hc : c ≠ .bor) (hx : Loc X.env.scope x) (hs : swapsWith e (some (.Name x pos')) pos.line X.env = pure false := by rfl) (hf : X.fn x = true \/ X.env.scope.names.lookup x = some .local := by first | exact .inl rfl | exact .inr rfl | assumption) :
    MS X E Γl Γ (.Assign [.Name x pos'] e pos) (sSet i t) (Γ.set i .shr) := by
  obtain ⟨te, p, q⟩ := h
  refine ⟨_, ps_set hN hi hx p hs hf, fun B σ H τ Z ok h => ?_⟩
  obtain ⟨O, eo, hL⟩ := ok.eok
  refine q O σ H τ _ eo ?_
  unfold sSet at h
  cases ht : t τ with
  | ok d =>
    rw [ht, R.ok_bind] at h
    refine fun v H' L s r k => h _ _ ?_
    obtain ⟨Ls, h1, h2, h3, _, _, _, h7⟩ := hL L (k.shr eo.dom hc)
    exact SOk.intoS (ok.ext.trans s) ok.lσ ok.lτ (fun j c e hc => by obtain ⟨v', d', e1, e2, r'⟩ := h1 j c e hc; exact ⟨v', d', e1, e2, r'.same s⟩) h2 h3 h7 r hl
  | err n => rw [ht] at h; exact fun C H' e s => h C H' e (ok.ext.trans s)
  | bad => rw [ht] at h; exact h
end
end L2
set_option maxRecDepth 100000
set_option maxHeartbeats 4000000
namespace L2
open PySem PySem.Spec PyProof.Rows
section
variable {K : PySem.W.Frag} {Γ Γ' : List Cl} {B H H1 : Hp} {σ : St} {τ : Tn} {T : List Addr}
theorem SOk.slot {i : Nat} (h : SOk K Γ B H σ τ T) (e : Γ[i]? = some .own) : ∃ v d L, σ[i]? = some (some v) /\ τ[i]? = some (some d) /\ Rep K H d v L /\ L.Nodup /\ (∀ a ∈ L, B a = none /\ a ∉ T) /\
    ∀ (H2 : Hp) (d2 : D) (L2 Le T' : List Addr), T = Le ++ T' -> TF H H2 -> (∀ b, b ∉ L -> H b ≠ none -> H2 b = H b) -> Rep K H2 d2 v L2 -> (∀ a ∈ L2, a ∈ L \/ a ∈ Le) -> L2.Nodup -> SOk K Γ B H2 σ (τ.set i (some d2)) T' := by
  obtain ⟨Ls, h1, h2, h3, h4, h5, h6⟩ := h.ex
  obtain ⟨v, d, e1, e2, r⟩ := h1 i _ e (by simp)
  refine ⟨v, d, Ls i, e1, e2, r, (h2 i e).1, fun a ha => ⟨(h2 i e).2 a ha, h6 i _ e (by simp) a ha⟩, ?_⟩
  rintro H2 d2 L2 Le T' rfl tf kp r2 sub nd
  obtain ⟨n1, n2, n3⟩ := List.nodup_append.mp h4
  have hτ : i < τ.length := (List.getElem?_eq_some_iff.mp e2).1
  have notL : ∀ b, B b ≠ none -> b ∉ Ls i := fun b hb hm => hb ((h2 i e).2 b hm)
  refine ⟨fun b o q => ?_, h.lσ, by rw [List.length_set]; exact h.lτ, putL Ls i L2, fun j c ej hc => ?_, fun j ej => ?_, fun j k c hjk ej ek hc a ha hm => ?_, n2, fun a ha => ⟨(h5 a (List.mem_append_right _ ha)).1, ?_⟩, fun j c ej hc a ha hm => ?_⟩
  · have hq := h.ext b o q
    rw [kp b (notL b (by rw [q]; simp)) (by rw [hq]; simp)]; exact hq
  · by_cases z : j = i
    · subst z
      refine ⟨v, d2, e1, by rw [List.getElem?_set_self hτ], ?_⟩
      rw [putL_self]; exact r2
    · obtain ⟨v', d', q1, q2, r'⟩ := h1 j c ej hc
      refine ⟨v', d', q1, by rw [List.getElem?_set_ne (Ne.symm z)]; exact q2, ?_⟩
      rw [putL_ne z]
      exact Rep.keep tf d' v' _ r' fun a ha => kp a (fun hm => h3 i j c (Ne.symm z) e ej hc a hm ha) (r'.there ha)
  · by_cases z : j = i
    · subst z
      rw [putL_self]
      refine ⟨nd, fun a ha => ?_⟩
      rcases sub a ha with m | m
      · exact (h2 _ e).2 a m
      · exact (h5 a (List.mem_append_left _ m)).1
    · rw [putL_ne z]; exact h2 j ej
  · by_cases z : j = i
    · subst z
      rw [putL_self] at ha
      rw [putL_ne (Ne.symm hjk)] at hm
      rcases sub a ha with m | m
      · exact h3 _ k c hjk e ek hc a m hm
      · exact h6 k c ek hc a hm (List.mem_append_left _ m)
    · rw [putL_ne z] at ha
      by_cases z2 : k = i
      · subst z2
        rw [putL_self] at hm
        rcases sub a hm with m | m
        · exact h3 j _ _ hjk ej e (by simp) a ha m
        · exact h6 j _ ej (by simp) a ha (List.mem_append_left _ m)
      · rw [putL_ne z2] at hm; exact h3 j k c hjk ej ek hc a ha hm
  · have q := (h5 a (List.mem_append_right _ ha)).2
    rw [kp a (fun hm => h6 i _ e (by simp) a hm (List.mem_append_right _ ha)) q]; exact q
  · by_cases z : j = i
    · rw [putL_eq z] at ha
      rcases sub a ha with m | m
      · exact h6 i _ e (by simp) a m (List.mem_append_right _ hm)
      · exact n3 a m a hm rfl
    · rw [putL_ne z] at ha
      exact h6 j c ej hc a ha (List.mem_append_right _ hm)
theorem TF.upd {a : Addr} {o : HO} (h : (∃ vs, H a = some (.lst vs)) \/ ∃ kvs, H a = some (.dK kvs)) : TF H (upd H a o) := by
  refine ⟨fun b xs e => ?_, fun b p u e => ?_⟩
  · rw [upd_ne]
    · exact e
    · rintro rfl
      rcases h with ⟨_, h⟩ | ⟨_, h⟩ <;> rw [h] at e <;> cases e
  · rw [upd_ne]
    · exact e
    · rintro rfl
      rcases h with ⟨_, h⟩ | ⟨_, h⟩ <;> rw [h] at e <;> cases e
theorem Rep.upd {d : D} {v : V} {L : List Addr} {a : Addr} {o : HO} (r : Rep K H d v L) (h : (∃ vs, H a = some (.lst vs)) \/ ∃ kvs, H a = some (.dK kvs)) (n : a ∉ L) : Rep K (L2.upd H a o) d v L :=
  Rep.keep (TF.upd h) d v L r fun b hb => upd_ne fun z => n (z ▸ hb)
theorem Reps.upd {d : List D} {v : List V} {L : List Addr} {a : Addr} {o : HO} (r : Reps K H d v L) (h : (∃ vs, H a = some (.lst vs)) \/ ∃ kvs, H a = some (.dK kvs)) (n : a ∉ L) : Reps K (L2.upd H a o) d v L :=
  Reps.keep (TF.upd h) d v L r fun b hb => upd_ne fun z => n (z ▸ hb)
end
section
variable {X : Cx} {E : XK} {Γ Γ1 Γ' Γl : List Cl} {e a b : Expr} {es : List Expr} {t t' : Tn -> R D} {u : Tn -> R (List D)} {c : Rc} {pos : Pos}
noncomputable def sApp (i : Nat) (t : Tn -> R D) : Tn -> R Fl := fun τ => (eVar i τ).bind fun l => match l with
  | .lst ds => (t τ).bind fun d => if ds.length < sizeLine then .ok (.nx (τ.set i (some (.lst (ds ++ [d]))))) else .bad
  | _ => .bad
theorem ms_append {i : Nat} {x : Str} {p0 p1 p2 : Pos} (hN : X.N[i]? = some x) (h0 : Γ[i]? = some .own) (h : MV X E Γ e t Γ1) (hk : Γ1[i]? = some .own) (hv : Vis X.env.scope x) (hb : (x == ("__debug__" : Str)) = false := by decide) (hcd : (x == ("__classdict__" : Str)) = false := by decide)
    (hbase : attributeBase (.Name x p0) "append" X.env (eval (.Name x p0) X.env) = eval (.Name x p0) X.env := by rfl)
    (hfew : ((backTo p2 (starEach [e] X.env)).all (fun x => !x.1) && (backToKw p2 (keywordEach [] X.env)).all (fun x => x.1.isSome) && decide ([e].length + ([] : List Keyword).length + (if ([] : List Keyword).isEmpty then 0 else 1) < 30)) = true := by rfl)
    (hline : (p1.endLine == p2.line) = true := by rfl) (hs : starEach [e] X.env = (false, eval e X.env) :: starEach [] X.env := by rfl) (hplain : (backTo p2 (starEach [] X.env)).any (·.1) = false := by rfl)
    (hsw : swapsWith (.Call (.Attribute (.Name x p0) "append" p1) [e] [] p2) none pos.line X.env = pure false := by rfl) :
    MS X E Γl Γ (.Expr (.Call (.Attribute (.Name x p0) "append" p1) [e] [] p2) pos) (sApp i t) Γ1 := by
  obtain ⟨te, p, q⟩ := h
  refine ⟨_, ps_expr (pe_bm PySem.F.plainAttrs_list PySem.F.slot_list_append PySem.F.type_list_append mt_append (pe_var (pos := p0) hN hv hb hcd) (pa_cons p pa_nil hs) hbase hfew hline hs hplain) hsw, fun B σ H τ Z ok h => ?_⟩
  obtain ⟨v, d, L, e1, e2, r, _⟩ := ok.slot h0
  refine ⟨v, e1, ?_⟩
  unfold sApp at h
  have ev : eVar i τ = .ok d := by unfold eVar; rw [e2]
  rw [ev, R.ok_bind] at h
  cases d with
  | lst ds =>
    obtain ⟨a, vs, L', rfl, ha, _, rs⟩ := r
    refine ⟨.inl ⟨rfl, vs, SqL.of ha⟩, q B σ H τ [] _ ok ?_⟩
    dsimp only at h
    cases ht : t τ with
    | ok d' =>
      rw [ht, R.ok_bind] at h
      refine fun y H1 Le s1 ry ok1 => ?_
      obtain ⟨v1, d1, L1, q1, q2, r1, n1, n2, fin⟩ := ok1.slot hk
      rw [e1] at q1
      cases q1
      rw [e2] at q2
      cases q2
      obtain ⟨a1, vs1, L1', z1, ha1, z2, rs1⟩ := r1
      cases z1
      subst z2
      have hl : vs1.length = ds.length := rs1.length
      by_cases hz : ds.length < sizeLine
      · rw [if_pos hz] at h
        have mu : (∃ vs, H1 a = some (.lst vs)) \/ ∃ kvs, H1 a = some (.dK kvs) := .inl ⟨_, ha1⟩
        have na : a ∉ Le := fun m => (n2 a List.mem_cons_self).2 (List.mem_append_left _ m)
        obtain ⟨m1, m2⟩ := List.nodup_cons.mp n1
        refine ⟨a, vs1, y, rfl, rfl, ha1, by omega, h _ _ (fin _ _ (a :: (L1' ++ Le)) Le [] rfl (TF.upd mu) (fun b hb _ => upd_ne fun z => hb (z ▸ List.mem_cons_self)) ?_ (fun b hb => ?_) ?_)⟩
        · refine ⟨a, vs1 ++ [y], L1' ++ Le, rfl, upd_same, rfl, Reps.append (rs1.upd mu m1) ?_⟩
          have := Reps.cons (ry.upd (o := .lst (vs1 ++ [y])) mu na) (Reps.nil (K := X.K) (H := upd H1 a (.lst (vs1 ++ [y]))))
          rw [List.append_nil] at this
          exact this
        · rcases List.mem_cons.mp hb with z | z
          · exact .inl (z ▸ List.mem_cons_self)
          · rcases List.mem_append.mp z with z | z
            · exact .inl (List.mem_cons_of_mem _ z)
            · exact .inr z
        · refine List.nodup_cons.mpr ⟨fun z => ?_, List.nodup_append.mpr ⟨m2, ?_, fun b hb b' hb' z => ?_⟩⟩
          · rcases List.mem_append.mp z with z | z
            · exact m1 z
            · exact na z
          · obtain ⟨_, _, _, _, w4, _⟩ := ok1.ex
            rw [List.append_nil] at w4
            exact w4
          · subst z
            exact (n2 b (List.mem_cons_of_mem _ hb)).2 (List.mem_append_left _ hb')
      · rw [if_neg hz] at h; exact h.elim
    | err n => rw [ht] at h; exact h
    | bad => rw [ht] at h; exact h
  | _ => exact h.elim
noncomputable def setD (ds : List D) (k : Int) (d : D) : R D := match ixN ds.length k with
  | some j => .ok (.lst (ds.set j d))
  | none => .bad
noncomputable def sPut (i : Nat) (t ti : Tn -> R D) : Tn -> R Fl := fun τ => (t τ).bind fun d => (eVar i τ).bind fun l => (ti τ).bind fun k => match l, k with
  | .lst ds, .int k => (setD ds k d).bind fun l' => .ok (.nx (τ.set i (some l')))
  | _, _ => .bad
end
end L2
set_option maxRecDepth 100000
set_option maxHeartbeats 4000000
namespace L2
open PySem PySem.Spec PyProof.Rows
section
variable {K : PySem.W.Frag} {Γ Γ' : List Cl} {B B' H H1 : Hp} {σ : St} {τ : Tn} {T : List Addr}
theorem SOk.rebase (h : SOk K Γ B' H σ τ T) (s : Same B B') : SOk K Γ B H σ τ T := by
  obtain ⟨Ls, h1, h2, h3, h4, h5, h6⟩ := h.ex
  exact ⟨s.trans h.ext, h.lσ, h.lτ, Ls, h1, fun i e => ⟨(h2 i e).1, fun a ha => s.non ((h2 i e).2 a ha)⟩, h3, h4, fun a ha => ⟨s.non (h5 a ha).1, (h5 a ha).2⟩, h6⟩
open Classical in
theorem SOk.base (h : SOk K Γ B H σ τ []) : ∃ O : Addr -> Prop, EOk K Γ O H σ τ /\ (∀ a, O a -> (∃ vs, H a = some (.lst vs)) \/ ∃ kvs, H a = some (.dK kvs)) /\
    ∀ H1, Same H H1 -> ∃ B1, Same B B1 /\ SOk K Γ B1 H1 σ τ [] /\ ∀ a, ¬ O a -> B1 a = H1 a := by
  obtain ⟨Ls, h1, h2, h3, h4, h5, h6⟩ := h.ex
  refine ⟨fun a => ∃ i, Γ[i]? = some .own /\ a ∈ Ls i, ⟨fun a ⟨i, e, ha⟩ => ?_, fun i c e hc => ?_⟩, fun a ⟨i, e, ha⟩ => ?_, fun H1 s1 => ⟨fun a => if (∃ i, Γ[i]? = some .own /\ a ∈ Ls i) then none else H1 a, fun b o q => ?_, ⟨fun b o q => ?_, h.lσ, h.lτ, Ls, fun i c e hc => ?_, fun i e => ⟨(h2 i e).1, fun a ha => if_pos ⟨i, e, ha⟩⟩, h3, h4, fun a ha => (nomatch ha), h6⟩, fun a n => if_neg n⟩⟩
  · obtain ⟨v, d, _, _, r⟩ := h1 i _ e (by simp)
    exact r.there ha
  · obtain ⟨v, d, e1, e2, r⟩ := h1 i c e hc
    refine ⟨v, d, Ls i, e1, e2, r, fun z a ha ⟨j, ej, hj⟩ => ?_⟩
    subst z
    have hij : j ≠ i := fun z => by subst z; rw [e] at ej; cases ej
    exact h3 j i _ hij ej e (by simp) a hj ha
  · obtain ⟨v, d, _, _, r⟩ := h1 i _ e (by simp)
    exact Rep.dom d v _ r a ha
  · show (if (∃ i, Γ[i]? = some .own /\ b ∈ Ls i) then none else H1 b) = some o
    rw [if_neg]
    · exact s1 b o (h.ext b o q)
    · rintro ⟨i, e, hb⟩
      rw [(h2 i e).2 b hb] at q; cases q
  · have q : (if (∃ i, Γ[i]? = some .own /\ b ∈ Ls i) then none else H1 b) = some o := q
    by_cases z : ∃ i, Γ[i]? = some .own /\ b ∈ Ls i
    · rw [if_pos z] at q; cases q
    · rw [if_neg z] at q; exact q
  · obtain ⟨v, d, e1, e2, r⟩ := h1 i c e hc
    exact ⟨v, d, e1, e2, r.same s1⟩
theorem SOk.shrIn {i : Nat} {d : D} {v : V} {L : List Addr} (h : SOk K Γ B H σ τ []) (r : Rep K H d v L) (hL : ∀ a ∈ L, B a ≠ none) (hi : i < Γ.length) : SOk K (Γ.set i .shr) B H (σ.set i (some v)) (τ.set i (some d)) [] := by
  obtain ⟨Ls, h1, h2, h3, h4, h5, h6⟩ := h.ex
  exact SOk.intoS h.ext h.lσ h.lτ h1 h2 h3 (fun j e a ha hm => hL a hm ((h2 j e).2 a ha)) r hi
end
noncomputable def setAll {α : Type} : List (Option α) -> List Nat -> List α -> List (Option α)
  | σ, i :: is, v :: vs => setAll (σ.set i (some v)) is vs
  | σ, _, _ => σ
noncomputable def shrAll : List Cl -> List Nat -> List Cl
  | Γ, [] => Γ
  | Γ, i :: is => shrAll (Γ.set i .shr) is
theorem SOk.shrAll {K : PySem.W.Frag} {B H : Hp} {Γ : List Cl} {σ : St} {τ : Tn} {is : List Nat} {ds : List D} {vs : List V} {L : List Addr} (h : SOk K Γ B H σ τ []) (r : Reps K H ds vs L) (hL : ∀ a ∈ L, B a ≠ none) (hl : ds.length = is.length) (hi : ∀ i ∈ is, i < Γ.length) :
    SOk K (L2.shrAll Γ is) B H (setAll σ is vs) (setAll τ is ds) [] := by
  induction is generalizing Γ σ τ ds vs L with
  | nil =>
    cases ds with
    | nil => cases r.1; exact h
    | cons => cases hl
  | cons i is ih =>
    cases ds with
    | nil => cases hl
    | cons d ds =>
      obtain ⟨v, vs', La, Lb, e1, e2, r1, r2⟩ := r
      subst e1 e2
      exact ih (h.shrIn r1 (fun a ha => hL a (List.mem_append_left _ ha)) (hi i List.mem_cons_self)) r2 (fun a ha => hL a (List.mem_append_right _ ha)) (Nat.succ.inj hl) (fun j hj => by rw [List.length_set]; exact hi j (List.mem_cons_of_mem _ hj))
noncomputable def ItOk (K : PySem.W.Frag) (J : It) (ds : List D) (L : List Addr) (H : Hp) : Prop := (∀ a ∈ L, H a ≠ none) /\ ∀ H', TF H H' -> (∀ a ∈ L, H' a = H a) -> ∀ i,
  (∀ d, ds[i]? = some d -> J.go i H' /\ ∀ x H'', J.yld i H' x H'' -> Same H' H'' /\ ∃ L', Rep K H'' d x L' /\ ∀ a ∈ L', a ∈ L) /\ (ds.length <= i -> J.stop i H')
noncomputable def postI (K : PySem.W.Frag) (E : XK) (O : Addr -> Prop) (c : Rc) (H : Hp) (Rr : It -> Hp -> Prop) : R (List D) -> Prop
  | .ok ds => ∀ J H' L, Same H H' -> ItOk K J ds L H' -> (c ≠ .bor -> ∀ a ∈ L, ¬ O a) -> Rr J H'
  | .err n => ∀ C H', ErrC K n C -> Same H H' -> E (.ref C) none H'
  | .bad => False
noncomputable def MI (X : Cx) (E : XK) (Γ : List Cl) (tg iter : Expr) (t : Tn -> R (List D)) (c : Rc) : Prop :=
  ∃ wi, PI X tg iter wi /\ ∀ O σ H τ Rr, EOk X.K Γ O H σ τ -> postI X.K E O c H Rr (t τ) -> wi σ H Rr
inductive Tgt where
  | one (i : Nat) | many (is : List Nat)
noncomputable def Tgt.slots : Tgt -> List Nat
  | .one i => [i]
  | .many is => is
noncomputable def Tgt.asg : Tgt -> D -> Tn -> R Tn
  | .one i, d, τ => .ok (τ.set i (some d))
  | .many is, .tup ds, τ => if ds.length = is.length then .ok (setAll τ is ds) else .bad
  | .many _, _, _ => .bad
noncomputable def MG (X : Cx) (tg : Expr) : Tgt -> Prop
  | .one i => PG X tg (gName i)
  | .many is => ∃ g, PG X tg (gTup X.K is.length g) /\ ∀ (vs : List V) (σ : St) (H : Hp) (Q : St -> Hp -> Prop), vs.length = is.length -> Q (setAll σ is vs) H -> g vs σ H Q
noncomputable def forGo (asg : D -> Tn -> R Tn) (body : Tn -> R Fl) : List D -> Tn -> R Fl
  | [], τ => .ok (.nx τ)
  | d :: ds, τ => (asg d τ).bind fun τ1 => (body τ1).bind fun f => match f with
    | .nx τ2 => forGo asg body ds τ2
    | .ct τ2 => forGo asg body ds τ2
    | .bk τ2 => .ok (.nx τ2)
    | .rt r => .ok (.rt r)
noncomputable def sFor (it : Tn -> R (List D)) (tg : Tgt) (body : Tn -> R Fl) : Tn -> R Fl := fun τ => (it τ).bind fun ds => forGo tg.asg body ds τ
section
variable {X : Cx} {E : XK} {Γ Γ1 Γ2 Γ' Γl : List Cl} {pos : Pos}
noncomputable def tgG (K : PySem.W.Frag) (g : Tgt) : TG := fun v σ H Q => match g with
  | .one i => Q (σ.set i (some v)) H
  | .many is => ∃ a vs, v = .ref a /\ SqT K H a vs /\ vs.length = is.length /\ Q (setAll σ is vs) H
theorem MG.pg {tg : Expr} {g : Tgt} (h : MG X tg g) : PG X tg (tgG X.K g) := by
  cases g with
  | one i => exact h
  | many is =>
    obtain ⟨G, p, q⟩ := h
    rintro pins s σ H v u Q I r ⟨a, vs, e, hs, hl, z⟩
    exact p pins s σ H v u Q I r ⟨a, vs, e, hs, hl, q vs σ H Q hl z⟩
theorem tgG_in {K : PySem.W.Frag} {B H : Hp} {σ : St} {τ τ1 : Tn} {d : D} {v : V} {L : List Addr} {g : Tgt} (h : SOk K Γ B H σ τ []) (r : Rep K H d v L) (hL : ∀ a ∈ L, B a ≠ none) (hi : ∀ i ∈ g.slots, i < Γ.length) (ha : g.asg d τ = .ok τ1)
    {Q : St -> Hp -> Prop} (k : ∀ σ1, SOk K (L2.shrAll Γ g.slots) B H σ1 τ1 [] -> Q σ1 H) : tgG K g v σ H Q := by
  cases g with
  | one i => cases ha; exact k _ (h.shrIn r hL (hi i (by simp [Tgt.slots])))
  | many is =>
    cases d with
    | tup ds =>
      unfold Tgt.asg at ha
      dsimp only at ha
      by_cases hl : ds.length = is.length
      · rw [if_pos hl] at ha
        cases ha
        obtain ⟨a, vs, rfl, hs, rs⟩ := r
        have hv : vs.length = is.length := rs.length.trans hl
        exact ⟨a, vs, rfl, hs, hv, k _ (h.shrAll rs hL hl hi)⟩
      · rw [if_neg hl] at ha; cases ha
    | _ => cases ha
theorem ms_for {tg iter : Expr} {body : List Stmt} {it : Tn -> R (List D)} {g : Tgt} {tb : Tn -> R Fl} {c : Rc} (hp : PassesOwn (model X.prog X.w) X.A X.env X.xe) (hc : X.calm = true) (hi : MI X E Γ tg iter it c) (hcl : c ≠ .bor) (hg : MG X tg g)
    (hn : ∀ i ∈ g.slots, i < Γ.length) (hb : MSs X E Γ (shrAll Γ g.slots) body tb Γ2) (hw : wk Γ2 Γ = true) (hs : ∀ x, foldedSetIterable iter X.env x = pure x := by intro _; rfl) : MS X E Γl Γ (.For tg iter body [] pos) (sFor it g tb) Γ := by
  obtain ⟨wi, p, q⟩ := hi
  obtain ⟨ts, p', q'⟩ := hb
  refine ⟨_, ps_for hp hc p hg.pg p' hs, fun B σ H τ Z ok h => ?_⟩
  obtain ⟨O, eo, Od, hB⟩ := ok.base
  refine q O σ H τ _ eo ?_
  unfold sFor at h
  cases ht : it τ with
  | ok ds =>
    rw [ht, R.ok_bind] at h
    refine fun J H1 L s1 hit hO => ?_
    have hO := hO hcl
    obtain ⟨hLd, hit⟩ := hit
    obtain ⟨B1, sB, ok1, hB1⟩ := hB H1 s1
    have inL : ∀ a ∈ L, B1 a = H1 a := fun a ha => hB1 a (hO a ha)
    have Od1 : ∀ a, O a -> (∃ vs, H1 a = some (.lst vs)) \/ ∃ kvs, H1 a = some (.dK kvs) := fun a o => by
      rcases Od a o with ⟨vs, e⟩ | ⟨kvs, e⟩
      · exact .inl ⟨vs, s1 _ _ e⟩
      · exact .inr ⟨kvs, s1 _ _ e⟩
    have stay : ∀ H2, Same B1 H2 -> TF H1 H2 /\ ∀ a ∈ L, H2 a = H1 a := fun H2 s2 => by
      refine ⟨⟨fun a xs e => ?_, fun a o u e => ?_⟩, fun a ha => ?_⟩
      · refine s2 a _ ((hB1 a fun z => ?_).trans e)
        rcases Od1 a z with ⟨_, w⟩ | ⟨_, w⟩ <;> rw [e] at w <;> cases w
      · refine s2 a _ ((hB1 a fun z => ?_).trans e)
        rcases Od1 a z with ⟨_, w⟩ | ⟨_, w⟩ <;> rw [e] at w <;> cases w
      · rw [s2.at (by rw [inL a ha]; exact hLd a ha), inL a ha]
    refine ⟨fun i m σ2 H2 => m = ds.length - i /\ i <= ds.length /\ ∃ τ2, SOk X.K Γ B1 H2 σ2 τ2 [] /\ postS X.K E B Γl Γ Z (forGo g.asg tb (ds.drop i) τ2), ⟨ds.length, by simp, Nat.zero_le _, τ, ok1, h⟩, ?_⟩
    rintro i m σ2 H2 ⟨rfl, hile, τ2, ok2, h2⟩
    obtain ⟨tf, kp⟩ := stay H2 ok2.ext
    obtain ⟨go, stop⟩ := hit H2 tf kp i
    by_cases hlt : i < ds.length
    · obtain ⟨hgo, hy⟩ := go ds[i] (by simp [hlt])
      rw [List.drop_eq_getElem_cons hlt] at h2
      refine .inr ⟨hgo, fun σ' H' => i + 1 <= ds.length /\ ∃ τ', SOk X.K Γ B1 H' σ' τ' [] /\ postS X.K E B Γl Γ Z (forGo g.asg tb (ds.drop (i + 1)) τ'), fun σ' H' ⟨z, w⟩ => ⟨ds.length - (i + 1), by omega, rfl, z, w⟩, fun x H3 y => ?_⟩
      obtain ⟨s3, L', r', sub⟩ := hy x H3 y
      unfold forGo at h2
      cases ha : g.asg ds[i] τ2 with
      | ok τ3 =>
        rw [ha, R.ok_bind] at h2
        refine tgG_in (ok2.same s3) r' (fun a ha => by rw [inL a (sub a ha)]; exact hLd a (sub a ha)) hn ha fun σ3 ok3 => ?_
        refine q' B1 σ3 H3 τ3 _ ok3 ?_
        cases hb : tb τ3 with
        | ok f =>
          rw [hb, R.ok_bind] at h2
          cases f with
          | nx τ4 => exact fun σ' H' ok4 => ⟨hlt, τ4, ok4.weak hw, h2⟩
          | ct τ4 => exact fun σ' H' ok4 => ⟨hlt, τ4, ok4, h2⟩
          | bk τ4 => exact fun σ' H' ok4 => h2 σ' H' (ok4.rebase sB)
          | rt d => exact fun v H' L s r n1 n2 => h2 v H' L (sB.trans s) r n1 fun a ha => sB.non (n2 a ha)
        | err n => rw [hb] at h2; exact fun C H' e s => h2 C H' e (sB.trans s)
        | bad => rw [hb] at h2; exact h2
      | err n =>
        cases g with
        | one i => cases ha
        | many is =>
          unfold Tgt.asg at ha
          split at ha
          · cases ha
          · split at ha <;> cases ha
          · cases ha
      | bad => rw [ha] at h2; exact h2.elim
    · have e : i = ds.length := by omega
      subst e
      rw [List.drop_length] at h2
      exact .inl ⟨stop (Nat.le_refl _), h2 σ2 H2 (ok2.rebase sB)⟩
  | err n => rw [ht] at h; exact fun C H' e s => h C H' e (ok.ext.trans s)
  | bad => rw [ht] at h; exact h
noncomputable def whGo (k : Tn -> R Bool) (body : Tn -> R Fl) : Nat -> Tn -> R Fl
  | 0, _ => .bad
  | n + 1, τ => (k τ).bind fun x => if x = true then (body τ).bind fun f => match f with
    | .nx τ2 => whGo k body n τ2
    | .ct τ2 => whGo k body n τ2
    | .bk τ2 => .ok (.nx τ2)
    | .rt r => .ok (.rt r)
    else .ok (.nx τ)
open Classical in
noncomputable def sWhile (k : Tn -> R Bool) (body : Tn -> R Fl) : Tn -> R Fl := fun τ => if h : ∃ n, whGo k body n τ ≠ .bad then whGo k body (Classical.choose h) τ else .bad
theorem whGo_succ {k : Tn -> R Bool} {body : Tn -> R Fl} : ∀ (n : Nat) (τ : Tn), whGo k body n τ ≠ .bad -> whGo k body (n + 1) τ = whGo k body n τ
  | 0, τ, h => absurd rfl h
  | n + 1, τ, h => by
    unfold whGo at h
    rw [whGo, whGo]
    cases hk : k τ with
    | ok x =>
      rw [hk, R.ok_bind] at h
      rw [R.ok_bind, R.ok_bind]
      cases x with
      | true =>
        rw [if_pos rfl] at h
        rw [if_pos rfl, if_pos rfl]
        cases hb : body τ with
        | ok f =>
          rw [hb, R.ok_bind] at h
          rw [R.ok_bind, R.ok_bind]
          cases f with
          | nx τ2 => exact whGo_succ n τ2 h
          | ct τ2 => exact whGo_succ n τ2 h
          | bk τ2 => rfl
          | rt d => rfl
        | err n => rfl
        | bad => rfl
      | false => rfl
    | err n => rfl
    | bad => rfl
theorem whGo_le {k : Tn -> R Bool} {body : Tn -> R Fl} {n m : Nat} {τ : Tn} (h : whGo k body n τ ≠ .bad) (hm : n <= m) : whGo k body m τ = whGo k body n τ := by
  obtain ⟨j, rfl⟩ := Nat.le.dest hm
  induction j with
  | zero => rfl
  | succ j ih =>
    have := ih (Nat.le_add_right _ _)
    rw [<- Nat.add_assoc, whGo_succ (n + j) τ (by rw [this]; exact h), this]
theorem sWhile_of {k : Tn -> R Bool} {body : Tn -> R Fl} {n : Nat} {τ : Tn} {r : R Fl} (h : whGo k body n τ = r) (hr : r ≠ .bad) : sWhile k body τ = r := by
  have hx : ∃ n, whGo k body n τ ≠ .bad := ⟨n, by rw [h]; exact hr⟩
  unfold sWhile
  rw [dif_pos hx]
  have h2 := Classical.choose_spec hx
  rcases Nat.le_total n (Classical.choose hx) with z | z
  · rw [whGo_le (by rw [h]; exact hr) z, h]
  · rw [<- whGo_le h2 z, h]
theorem sWhile_get {k : Tn -> R Bool} {body : Tn -> R Fl} {τ : Tn} : sWhile k body τ = .bad \/ ∃ n, whGo k body n τ = sWhile k body τ /\ sWhile k body τ ≠ .bad := by
  by_cases hx : ∃ n, whGo k body n τ ≠ .bad
  · refine .inr ⟨Classical.choose hx, ?_, ?_⟩ <;> unfold sWhile <;> rw [dif_pos hx]
    exact Classical.choose_spec hx
  · refine .inl ?_
    unfold sWhile
    rw [dif_neg hx]
theorem ms_while {k : Expr} {body : List Stmt} {u : Tn -> R Bool} {tb : Tn -> R Fl} (hp : PassesOwn (model X.prog X.w) X.A X.env X.xe) (hk : MT X E Γ k u) (hb : MSs X E Γ Γ body tb Γ2) (hw : wk Γ2 Γ = true) : MS X E Γl Γ (.While k body [] pos) (sWhile u tb) Γ := by
  obtain ⟨te, p, q⟩ := hk
  obtain ⟨ts, p', q'⟩ := hb
  refine ⟨_, ps_while hp p p', fun B σ H τ Z ok h => ?_⟩
  rcases sWhile_get (k := u) (body := tb) (τ := τ) with z | ⟨n, hn, _⟩
  · rw [z] at h; exact h.elim
  rw [<- hn] at h
  refine ⟨fun m σ2 H2 => ∃ τ2, SOk X.K Γ B H2 σ2 τ2 [] /\ postS X.K E B Γl Γ Z (whGo u tb m τ2), ⟨n, τ, ok, h⟩, ?_⟩
  rintro m σ2 H2 ⟨τ2, ok2, h2⟩
  cases m with
  | zero => exact h2.elim
  | succ m =>
    obtain ⟨O, eo, _⟩ := ok2.eok
    refine q O σ2 H2 τ2 _ eo ?_
    unfold whGo at h2
    cases ht : u τ2 with
    | ok x =>
      rw [ht, R.ok_bind] at h2
      refine fun H3 s3 => ?_
      cases x with
      | true =>
        rw [if_pos rfl] at h2 ⊢
        refine ⟨fun σ' H' => ∃ τ', SOk X.K Γ B H' σ' τ' [] /\ postS X.K E B Γl Γ Z (whGo u tb m τ'), fun σ' H' w => ⟨m, Nat.lt_succ_self _, w⟩, q' B σ2 H3 τ2 _ (ok2.same s3) ?_⟩
        cases hb : tb τ2 with
        | ok f =>
          rw [hb, R.ok_bind] at h2
          cases f with
          | nx τ4 => exact fun σ' H' ok4 => ⟨τ4, ok4.weak hw, h2⟩
          | ct τ4 => exact fun σ' H' ok4 => ⟨τ4, ok4, h2⟩
          | bk τ4 => exact fun σ' H' ok4 => h2 σ' H' ok4
          | rt d => exact h2
        | err n => rw [hb] at h2; exact h2
        | bad => rw [hb] at h2; exact h2
      | false => rw [if_neg Bool.false_ne_true] at h2 ⊢; exact h2 σ2 H3 (ok2.same s3)
    | err n => rw [ht] at h2; exact fun C H' e s => h2 C H' e (ok2.ext.trans s)
    | bad => rw [ht] at h2; exact h2
end
end L2
set_option maxRecDepth 100000
set_option maxHeartbeats 4000000
namespace L2
open PySem PySem.Spec PyProof.Rows
noncomputable def signs (x : Str) : List D := x.cps.toList.map fun c => .str ⟨#[c]⟩
noncomputable def asSeq : D -> R (List D)
  | .lst ds => .ok ds
  | .tup ds => .ok ds
  | .str x => .ok (signs x)
  | _ => .bad
noncomputable def iSeq (t : Tn -> R D) : Tn -> R (List D) := fun τ => (t τ).bind asSeq
noncomputable def rng (lo : Int) (n : Nat) : List D := (List.range n).map fun (i : Nat) => .int (lo + i)
noncomputable def rng1 : List D -> R (List D)
  | [.int j] => if -(2 ^ 62) <= j /\ j < 2 ^ 62 then .ok (rng 0 j.toNat) else .bad
  | _ => .bad
noncomputable def rng2 : List D -> R (List D)
  | [.int i, .int j] => if -(2 ^ 62) <= i /\ i < 2 ^ 62 /\ -(2 ^ 62) <= j /\ j < 2 ^ 62 then .ok (rng i (j - i).toNat) else .bad
  | _ => .bad
noncomputable def enumGo : Nat -> List D -> List D
  | _, [] => []
  | n, d :: ds => .tup [.int n, d] :: enumGo (n + 1) ds
noncomputable def enumL : List D -> R (List D)
  | [.lst ds] => .ok (enumGo 0 ds)
  | _ => .bad
noncomputable def iL (g : List D -> R (List D)) (u : Tn -> R (List D)) : Tn -> R (List D) := fun τ => (u τ).bind g
theorem enumGo_len : ∀ (n : Nat) (ds : List D), (enumGo n ds).length = ds.length
  | _, [] => rfl
  | n, d :: ds => by unfold enumGo; rw [List.length_cons, List.length_cons, enumGo_len (n + 1) ds]
theorem enumGo_get : ∀ (n : Nat) (ds : List D) (i : Nat) (d : D), (enumGo n ds)[i]? = some d -> ∃ d', ds[i]? = some d' /\ d = .tup [.int ((n + i : Nat) : Int), d']
  | _, [], _, _, h => by simp [enumGo] at h
  | n, d :: ds, 0, e, h => by
    unfold enumGo at h
    simp at h
    exact ⟨d, rfl, h.symm⟩
  | n, d :: ds, i + 1, e, h => by
    unfold enumGo at h
    obtain ⟨d', h1, h2⟩ := enumGo_get (n + 1) ds i e (by simpa using h)
    exact ⟨d', by simpa using h1, by rw [h2, Nat.add_assoc, Nat.add_comm 1 i]⟩
section
variable {X : Cx} {E : XK} {Γ : List Cl} {tg e : Expr} {t : Tn -> R D} {u : Tn -> R (List D)} {c : Rc} {p pos : Pos}
theorem ItOk.list {K : PySem.W.Frag} {H : Hp} {a : Addr} {vs : List V} {ds : List D} {L L' : List Addr} (ha : H a = some (.lst vs)) (e : L = a :: L') (r : Reps K H ds vs L') : ItOk K (Itl K a) ds L H := by
  subst e
  refine ⟨fun b hb => ?_, fun H' tf kp i => ⟨fun d hd => ?_, fun hl => ?_⟩⟩
  · rcases List.mem_cons.mp hb with z | z
    · rw [z, ha]; simp
    · exact r.there z
  · have ha' : H' a = some (.lst vs) := (kp a List.mem_cons_self).trans ha
    obtain ⟨v, L1, e1, r1, sub⟩ := r.get hd
    refine ⟨⟨vs, v, SqL.of ha', e1⟩, fun x H'' ⟨e2, hy⟩ => ?_⟩
    subst e2
    have := hy vs (SqL.of ha')
    rw [e1] at this
    cases this
    exact ⟨Same.refl _, L1, Rep.keep tf d _ L1 r1 fun b hb => kp b (List.mem_cons_of_mem _ (sub.subset hb)), fun b hb => List.mem_cons_of_mem _ (sub.subset hb)⟩
  · have ha' : H' a = some (.lst vs) := (kp a List.mem_cons_self).trans ha
    exact ⟨vs, SqL.of ha', by rw [r.length]; exact hl⟩
theorem ItOk.tuple {K : PySem.W.Frag} {H : Hp} {a : Addr} {vs : List V} {ds : List D} {L : List Addr} (ha : SqT K H a vs) (hun : ∀ H' xs, TF H H' -> SqT K H' a xs -> xs = vs) (r : Reps K H ds vs L) : ItOk K (Itt K a) ds L H := by
  refine ⟨fun b hb => r.there hb, fun H' tf kp i => ⟨fun d hd => ?_, fun hl => ?_⟩⟩
  · have ha' := ha.tf tf
    obtain ⟨v, L1, e1, r1, sub⟩ := r.get hd
    refine ⟨⟨vs, v, ha', e1⟩, fun x H'' ⟨e2, hy⟩ => ?_⟩
    subst e2
    have := hy vs ha'
    rw [e1] at this
    cases this
    exact ⟨Same.refl _, L1, Rep.keep tf d _ L1 r1 fun b hb => kp b (sub.subset hb), fun b hb => sub.subset hb⟩
  · exact ⟨vs, ha.tf tf, by rw [r.length]; exact hl⟩
theorem ItOk.tup {K : PySem.W.Frag} {H : Hp} {a : Addr} {vs : List V} {ds : List D} {L : List Addr} (ha : SqT K H a vs) (r : Reps K H ds vs L) : ItOk K (Itt K a) ds L H := by
  refine ⟨fun b hb => r.there hb, fun H' tf kp i => ⟨fun d hd => ?_, fun hl => ?_⟩⟩
  · have ha' := ha.tf tf
    obtain ⟨v, L1, e1, r1, sub⟩ := r.get hd
    refine ⟨⟨vs, v, ha', e1⟩, fun x H'' ⟨e2, hy⟩ => ?_⟩
    subst e2
    have := hy vs ha'
    rw [e1] at this
    cases this
    exact ⟨Same.refl _, L1, Rep.keep tf d _ L1 r1 fun b hb => kp b (sub.subset hb), fun b hb => sub.subset hb⟩
  · exact ⟨vs, ha.tf tf, by rw [r.length]; exact hl⟩
theorem ItOk.str {K : PySem.W.Frag} {H : Hp} {x : Str} : ItOk K (Its x) (signs x) [] H := by
  refine ⟨fun b hb => (nomatch hb), fun H' tf kp i => ⟨fun d hd => ?_, fun hl => ?_⟩⟩
  · unfold signs at hd
    rw [List.getElem?_map] at hd
    cases hq : x.cps.toList[i]? with
    | none => rw [hq] at hd; cases hd
    | some k =>
      rw [hq] at hd
      have hd : D.str ⟨#[k]⟩ = d := Option.some.inj hd
      subst hd
      have hi : i < x.cps.size := by
        have := (List.getElem?_eq_some_iff.mp hq).1
        simpa using this
      refine ⟨hi, fun y H'' ⟨e2, c', e3, e4⟩ => ?_⟩
      subst e2 e4
      rw [<- Array.getElem?_toList, hq] at e3
      cases e3
      exact ⟨Same.refl _, [], ⟨rfl, rfl⟩, fun b hb => (nomatch hb)⟩
  · have : (signs x).length = x.cps.size := by simp [signs]
    show x.cps.size <= i
    omega
theorem ItOk.rng {K : PySem.W.Frag} {H : Hp} {lo : Int} {n : Nat} : ItOk K (Itr lo n) (L2.rng lo n) [] H := by
  refine ⟨fun b hb => (nomatch hb), fun H' tf kp i => ⟨fun d hd => ?_, fun hl => ?_⟩⟩
  · unfold L2.rng at hd
    rw [List.getElem?_map] at hd
    by_cases hi : i < n
    · rw [List.getElem?_range hi] at hd
      have hd : D.int (lo + (i : Int)) = d := Option.some.inj hd
      subst hd
      refine ⟨hi, fun y H'' ⟨e2, e3⟩ => ?_⟩
      subst e2 e3
      exact ⟨Same.refl _, [], ⟨rfl, rfl⟩, fun b hb => (nomatch hb)⟩
    · rw [List.getElem?_eq_none (by simp; omega)] at hd; cases hd
  · have : (L2.rng lo n).length = n := by simp [L2.rng]
    show n <= i
    omega
theorem ItOk.enum {K : PySem.W.Frag} {H : Hp} {a : Addr} {vs : List V} {ds : List D} {L L' : List Addr} (ha : H a = some (.lst vs)) (e : L = a :: L') (r : Reps K H ds vs L') : ItOk K (Ite K a) (enumGo 0 ds) L H := by
  subst e
  refine ⟨fun b hb => ?_, fun H' tf kp i => ⟨fun d hd => ?_, fun hl => ?_⟩⟩
  · rcases List.mem_cons.mp hb with z | z
    · rw [z, ha]; simp
    · exact r.there z
  · have ha' : H' a = some (.lst vs) := (kp a List.mem_cons_self).trans ha
    obtain ⟨d', hd', rfl⟩ := enumGo_get 0 ds i d hd
    obtain ⟨v, L1, e1, r1, sub⟩ := r.get hd'
    refine ⟨⟨vs, v, SqL.of ha', e1⟩, fun x H'' ⟨p, y, hp, e2, e3, hy⟩ => ?_⟩
    subst e2 e3
    have := hy vs (SqL.of ha')
    rw [e1] at this
    cases this
    refine ⟨Same.new hp, L1, ⟨p, _, rfl, SqT.of upd_same, ?_⟩, fun b hb => List.mem_cons_of_mem _ (sub.subset hb)⟩
    have r2 : Rep K H' d' v L1 := Rep.keep tf d' _ L1 r1 fun b hb => kp b (List.mem_cons_of_mem _ (sub.subset hb))
    have := Reps.cons (K := K) (H := upd H' p (.tup [.int (i : Int), v])) (d := .int ((0 + i : Nat) : Int)) (v := .int (i : Int)) (L1 := []) ⟨by simp, rfl⟩ (Reps.cons (r2.same (Same.new hp)) Reps.nil)
    simpa using this
  · have ha' : H' a = some (.lst vs) := (kp a List.mem_cons_self).trans ha
    rw [enumGo_len] at hl
    exact ⟨vs, SqL.of ha', by rw [r.length]; exact hl⟩
theorem mi_seq (h : ME X E Γ e t c) : MI X E Γ tg e (iSeq t) c := by
  obtain ⟨te, p, q⟩ := h
  refine ⟨fun σ H Rr => iList X.K te σ H Rr \/ iTup X.K te σ H Rr \/ iStr te σ H Rr, fun pins s σ H Rr I z => ?_, fun O σ H τ Rr ok h => ?_⟩
  · rcases z with z | z | z
    · exact pi_list p pins s σ H Rr I z
    · exact pi_tup p pins s σ H Rr I z
    · exact pi_str p pins s σ H Rr I z
  · unfold iSeq at h
    cases ht : t τ with
    | ok d =>
      rw [ht, R.ok_bind] at h
      cases d with
      | lst ds =>
        refine .inl (q O σ H τ _ ok ?_)
        rw [ht]
        refine fun v H1 L s r k => ?_
        obtain ⟨a, vs, L', rfl, ha, e, rs⟩ := r
        exact ⟨a, rfl, ⟨vs, SqL.of ha⟩, h _ H1 L s (ItOk.list ha e rs) fun n => k.shr ok.dom n⟩
      | tup ds =>
        refine .inr (.inl (q O σ H τ _ ok ?_))
        rw [ht]
        refine fun v H1 L s r k => ?_
        obtain ⟨a, vs, rfl, ha, rs⟩ := r
        exact ⟨a, rfl, ⟨vs, ha⟩, h _ H1 L s (ItOk.tup ha rs) fun n => k.shr ok.dom n⟩
      | str x =>
        refine .inr (.inr (q O σ H τ _ ok ?_))
        rw [ht]
        refine fun v H1 L s r k => ?_
        exact ⟨x, r.1, h _ H1 [] s ItOk.str fun n a ha => (nomatch ha)⟩
      | _ => exact h.elim
    | err n =>
      rw [ht] at h
      refine .inl (q O σ H τ _ ok ?_)
      rw [ht]; exact h
    | bad => rw [ht] at h; exact h.elim
theorem mi_range1 {a : Expr} (hg : Gl X "range") (hm : X.mg "range" = none) (ha : MA X E Γ [a] u c) (hs : starEach [a] X.env = [(false, eval a X.env)] := by rfl) : MI X E Γ tg (.Call (.Name "range" p) [a] [] pos) (iL rng1 u) .fresh := by
  obtain ⟨_, ta, p', q⟩ := ha
  refine ⟨_, pi_range1 hg hm p' hs, fun O σ H τ Rr ok h => q O σ H τ _ ok ?_⟩
  unfold iL at h
  cases ht : u τ with
  | ok ds =>
    rw [ht, R.ok_bind] at h
    refine fun vs H1 L s r k => ?_
    unfold rng1 at h
    split at h
    · rename_i j
      obtain ⟨v, vs', L1, L2, e1, _, r1, r2⟩ := r
      obtain ⟨rfl, _⟩ := r1
      obtain ⟨rfl, _⟩ := r2
      by_cases hj : -(2 ^ 62) <= j /\ j < 2 ^ 62
      · rw [if_pos hj] at h
        exact ⟨j, e1, hj.1, hj.2, h _ H1 [] s ItOk.rng fun n a ha => (nomatch ha)⟩
      · rw [if_neg hj] at h; exact h.elim
    · exact h.elim
  | err n => rw [ht] at h; exact h
  | bad => rw [ht] at h; exact h
theorem mi_range2 {a b : Expr} (hg : Gl X "range") (hm : X.mg "range" = none) (ha : MA X E Γ [a, b] u c) (hs : starEach [a, b] X.env = [(false, eval a X.env), (false, eval b X.env)] := by rfl) (hs2 : starEach [b] X.env = [(false, eval b X.env)] := by rfl) : MI X E Γ tg (.Call (.Name "range" p) [a, b] [] pos) (iL rng2 u) .fresh := by
  obtain ⟨_, ta, p', q⟩ := ha
  refine ⟨_, pi_range2 hg hm p' hs hs2, fun O σ H τ Rr ok h => q O σ H τ _ ok ?_⟩
  unfold iL at h
  cases ht : u τ with
  | ok ds =>
    rw [ht, R.ok_bind] at h
    refine fun vs H1 L s r k => ?_
    unfold rng2 at h
    split at h
    · rename_i i j
      obtain ⟨v, vs', L1, L2, e1, _, r1, v2, vs2, L3, L4, e2, _, r2, r3⟩ := r
      obtain ⟨rfl, _⟩ := r1
      obtain ⟨rfl, _⟩ := r2
      obtain ⟨rfl, _⟩ := r3
      subst e2
      by_cases hj : -(2 ^ 62) <= i /\ i < 2 ^ 62 /\ -(2 ^ 62) <= j /\ j < 2 ^ 62
      · rw [if_pos hj] at h
        exact ⟨i, j, e1, hj, h _ H1 [] s ItOk.rng fun n a ha => (nomatch ha)⟩
      · rw [if_neg hj] at h; exact h.elim
    · exact h.elim
  | err n => rw [ht] at h; exact h
  | bad => rw [ht] at h; exact h
theorem mi_enum {a : Expr} {elts : List Expr} {x1 : Nat} {tpos : Pos} (hg : Gl X "enumerate") (hm : X.mg "enumerate" = none) (ha : MA X E Γ [a] u c) (hb : bootBuiltins "enumerate" = some (.type "enumerate") := by rfl) (hs : starEach [a] X.env = [(false, eval a X.env)] := by rfl) :
    MI X E Γ (.Tuple elts x1 tpos) (.Call (.Name "enumerate" p) [a] [] pos) (iL enumL u) c := by
  obtain ⟨_, ta, p', q⟩ := ha
  refine ⟨_, pi_enum hg hm p' hb hs, fun O σ H τ Rr ok h => q O σ H τ _ ok ?_⟩
  unfold iL at h
  cases ht : u τ with
  | ok ds =>
    rw [ht, R.ok_bind] at h
    refine fun vs H1 L s r k => ?_
    unfold enumL at h
    split at h
    · rename_i ds
      obtain ⟨v, vs', L1, L2, e1, e2, r1, r2⟩ := r
      obtain ⟨rfl, rfl⟩ := r2
      rw [List.append_nil] at e2
      subst e2
      obtain ⟨a', vs2, L', rfl, ha, e, rs⟩ := r1
      exact ⟨a', e1, ⟨vs2, SqL.of ha⟩, h _ H1 _ s (ItOk.enum ha e rs) fun n => k.shr ok.dom n⟩
    · exact h.elim
  | err n => rw [ht] at h; exact h
  | bad => rw [ht] at h; exact h
end
noncomputable def compT (fr : List (Option Nat)) (τ : Tn) : Tn := fr.map fun o => o.bind fun i => (τ[i]?).join
noncomputable def compC (fr : List (Option Nat)) (Γ : List Cl) : List Cl := fr.map fun o => match o with
  | some i => (match Γ[i]? with
    | some .shr => .shr
    | some .own => .brw
    | some .brw => .brw
    | _ => .dead)
  | none => .dead
noncomputable def clsAll (k : Cl) : List Cl -> List Nat -> List Cl
  | Γ, [] => Γ
  | Γ, i :: is => clsAll k (Γ.set i k) is
noncomputable def Cl.ofIt : Rc -> Cl
  | .bor => .brw
  | _ => .shr
noncomputable def compL (f : D -> R (Option D)) : List D -> R (List D)
  | [] => .ok []
  | d :: ds => (f d).bind fun o => (compL f ds).bind fun ys => .ok (o.toList ++ ys)
noncomputable def noErr {α : Type} : R α -> R α
  | .err _ => .bad
  | r => r
noncomputable def compF (asg : D -> Tn -> R Tn) (cnd : Tn -> R Bool) (elt : Tn -> R D) (τ : Tn) (d : D) : R (Option D) :=
  noErr ((asg d τ).bind fun τ1 => (cnd τ1).bind fun k => if k = true then (elt τ1).bind fun y => .ok (some y) else .ok none)
noncomputable def eComp (fr : List (Option Nat)) (it : Tn -> R (List D)) (g : Tgt) (cnd : Tn -> R Bool) (elt : Tn -> R D) : Tn -> R D := fun τ => (it τ).bind fun xs => (compL (compF g.asg cnd elt (compT fr τ)) xs).bind fun ys => if ys.length <= sizeLine then .ok (.lst ys) else .bad
noncomputable def MTs (X : Cx) (E : XK) (Γ : List Cl) (ifs : List Expr) (t : Tn -> R Bool) : Prop :=
  ∃ te, PTs X ifs te /\ ∀ O σ H τ Q, EOk X.K Γ O H σ τ -> postB X.K E H Q (t τ) -> te σ H Q
theorem mts_nil {X : Cx} {E : XK} {Γ : List Cl} : MTs X E Γ [] (fun _ => .ok true) := ⟨tYes, pts_nil, fun O σ H τ Q ok h => h H (Same.refl H)⟩
theorem mts_one {X : Cx} {E : XK} {Γ : List Cl} {e : Expr} {t : Tn -> R Bool} (h : MT X E Γ e t) : MTs X E Γ [e] t := by
  obtain ⟨te, p, q⟩ := h
  exact ⟨te, pts_one p, q⟩
theorem MTs.pts {X : Cx} {E : XK} {Γ : List Cl} {e : List Expr} {t : Tn -> R Bool} (h : MTs X E Γ e t) : PTs X e (wpT X.K E Γ t) := by
  obtain ⟨te, p, q⟩ := h
  rintro pins s σ H Q I ⟨O, τ, ok, z⟩
  exact p pins s σ H Q I (q O σ H τ Q ok z)
theorem Same.upd_of {H H1 H2 : Hp} {p : Addr} {o : HO} (h : H p = none) (s : Same H H2) : Same H (upd H2 p o) := fun b u e => by
  rw [upd_ne (ne_of_none e h)]; exact s b u e
section
variable {K : PySem.W.Frag} {Γ : List Cl} {O : Addr -> Prop} {H : Hp} {σ : St} {τ : Tn}
theorem EOk.comp {fr : List (Option Nat)} (h : EOk K Γ O H σ τ) : EOk K (compC fr Γ) O H (compSt fr σ) (compT fr τ) := by
  refine ⟨h.dom, fun j c e hc => ?_⟩
  unfold compC at e
  rw [List.getElem?_map] at e
  cases ho : fr[j]? with
  | none => rw [ho] at e; cases e
  | some o =>
    rw [ho] at e
    cases o with
    | none => exact absurd (Option.some.inj e).symm hc
    | some i =>
      have e : (match Γ[i]? with | some .shr => Cl.shr | some .own => .brw | some .brw => .brw | _ => .dead) = c := Option.some.inj e
      have key : ∃ k, Γ[i]? = some k /\ k ≠ .dead /\ (c = .shr -> k = .shr) := by
        cases hk : Γ[i]? with
        | none => rw [hk] at e; exact absurd e.symm hc
        | some k =>
          rw [hk] at e
          cases k with
          | own => subst e; exact ⟨_, rfl, by simp, fun z => by cases z⟩
          | shr => exact ⟨_, rfl, by simp, fun _ => rfl⟩
          | brw => subst e; exact ⟨_, rfl, by simp, fun z => by cases z⟩
          | dead => exact absurd e.symm hc
      obtain ⟨k, k1, k2, k3⟩ := key
      obtain ⟨v, d, L, e1, e2, r, hs⟩ := h.slot i k k1 k2
      refine ⟨v, d, L, ?_, ?_, r, fun z => hs (k3 z)⟩
      · unfold compSt; rw [List.getElem?_map, ho]; show some ((σ[i]?).join) = _; rw [e1]; rfl
      · unfold compT; rw [List.getElem?_map, ho]; show some ((τ[i]?).join) = _; rw [e2]; rfl
theorem EOk.put {i : Nat} {k : Cl} {d : D} {v : V} {L : List Addr} (h : EOk K Γ O H σ τ) (r : Rep K H d v L) (hk : k = .shr -> ∀ a ∈ L, ¬ O a) (h1 : σ.length = Γ.length) (h2 : τ.length = Γ.length) : EOk K (Γ.set i k) O H (σ.set i (some v)) (τ.set i (some d)) := by
  refine ⟨h.dom, fun j c e hc => ?_⟩
  by_cases z : i = j
  · subst z
    have hi : i < Γ.length := by
      have := (List.getElem?_eq_some_iff.mp e).1
      simpa using this
    rw [List.getElem?_set_self hi] at e
    cases e
    exact ⟨v, d, L, by rw [List.getElem?_set_self (by omega)], by rw [List.getElem?_set_self (by omega)], r, hk⟩
  · rw [List.getElem?_set_ne z] at e
    obtain ⟨v', d', L', a1, a2, a3, a4⟩ := h.slot j c e hc
    exact ⟨v', d', L', by rw [List.getElem?_set_ne z]; exact a1, by rw [List.getElem?_set_ne z]; exact a2, a3, a4⟩
end
theorem EOk.putAll {K : PySem.W.Frag} {O : Addr -> Prop} {H : Hp} {k : Cl} {Γ : List Cl} {σ : St} {τ : Tn} {is : List Nat} {ds : List D} {vs : List V} {L : List Addr} (h : EOk K Γ O H σ τ) (r : Reps K H ds vs L) (hL : k = .shr -> ∀ a ∈ L, ¬ O a) (hl : ds.length = is.length) (h1 : σ.length = Γ.length) (h2 : τ.length = Γ.length) :
    EOk K (clsAll k Γ is) O H (setAll σ is vs) (setAll τ is ds) := by
  induction is generalizing Γ σ τ ds vs L with
  | nil =>
    cases ds with
    | nil => cases r.1; exact h
    | cons => cases hl
  | cons i is ih =>
    cases ds with
    | nil => cases hl
    | cons d ds =>
      obtain ⟨v, vs', L1, L2, e1, e2, r1, r2⟩ := r
      subst e1 e2
      exact ih (h.put r1 (fun z a ha => hL z a (List.mem_append_left _ ha)) h1 h2) r2 (fun z a ha => hL z a (List.mem_append_right _ ha)) (Nat.succ.inj hl) (by rw [List.length_set, List.length_set]; exact h1) (by rw [List.length_set, List.length_set]; exact h2)
theorem setAll_len {α : Type} : ∀ (is : List Nat) (σ : List (Option α)) (vs : List α), (setAll σ is vs).length = σ.length
  | [], σ, vs => by unfold setAll; rfl
  | i :: is, σ, [] => by unfold setAll; rfl
  | i :: is, σ, v :: vs => by unfold setAll; rw [setAll_len is, List.length_set]
theorem setAll_ne {α : Type} {j : Nat} : ∀ (is : List Nat) (σ : List (Option α)) (vs : List α), j ∉ is -> (setAll σ is vs)[j]? = σ[j]?
  | [], σ, vs, _ => by unfold setAll; rfl
  | i :: is, σ, [], _ => by unfold setAll; rfl
  | i :: is, σ, v :: vs, h => by
    unfold setAll
    rw [setAll_ne is _ vs (fun z => h (List.mem_cons_of_mem _ z)), List.getElem?_set_ne (fun (z : i = j) => h (z ▸ List.mem_cons_self))]
theorem tgE_in {K : PySem.W.Frag} {Γ : List Cl} {O : Addr -> Prop} {H : Hp} {σ : St} {τ τ1 : Tn} {d : D} {v : V} {L : List Addr} {g : Tgt} {k : Cl} (h : EOk K Γ O H σ τ) (r : Rep K H d v L) (hL : k = .shr -> ∀ a ∈ L, ¬ O a) (h1 : σ.length = Γ.length) (h2 : τ.length = Γ.length) (ha : g.asg d τ = .ok τ1)
    {Q : St -> Hp -> Prop} (kk : ∀ σ1, EOk K (clsAll k Γ g.slots) O H σ1 τ1 -> σ1.length = σ.length -> (∀ j, j ∉ g.slots -> σ1[j]? = σ[j]?) -> Q σ1 H) : tgG K g v σ H Q := by
  cases g with
  | one i =>
    cases ha
    exact kk _ (h.put r hL h1 h2) (by simp) fun j hj => List.getElem?_set_ne fun z => hj (by simp [Tgt.slots, z])
  | many is =>
    cases d with
    | tup ds =>
      unfold Tgt.asg at ha
      dsimp only at ha
      by_cases hl : ds.length = is.length
      · rw [if_pos hl] at ha
        cases ha
        obtain ⟨a, vs, rfl, hs, rs⟩ := r
        have hv : vs.length = is.length := rs.length.trans hl
        exact ⟨a, vs, rfl, hs, hv, kk _ (h.putAll rs hL hl h1 h2) (setAll_len _ _ _) fun j hj => setAll_ne is σ vs hj⟩
      · rw [if_neg hl] at ha; cases ha
    | _ => cases ha
end L2
set_option maxRecDepth 100000
set_option maxHeartbeats 4000000
namespace L2
open PySem PySem.Spec PyProof.Rows
noncomputable abbrev noX : XK := fun _ _ _ => False
theorem noErr_ok {α : Type} {r : R α} {a : α} (h : noErr r = .ok a) : r = .ok a := by
  cases r with
  | ok b => exact h
  | err n => cases h
  | bad => cases h
theorem noErr_err {α : Type} {r : R α} {n : Str} (h : noErr r = .err n) : False := by cases r <;> cases h
theorem compL_noerr {f : D -> R (Option D)} (hf : ∀ d n, f d ≠ .err n) : ∀ (ds : List D) (n : Str), compL f ds ≠ .err n
  | [], n, h => by cases h
  | d :: ds, n, h => by
    unfold compL at h
    cases h1 : f d with
    | ok o =>
      rw [h1, R.ok_bind] at h
      cases h2 : compL f ds with
      | ok ys => rw [h2] at h; cases h
      | err m => exact compL_noerr hf ds m h2
      | bad => rw [h2] at h; cases h
    | err m => exact hf d m h1
    | bad => rw [h1] at h; cases h
theorem bind_ok {α β : Type} {r : R α} {f : α -> R β} {b : β} (h : r.bind f = .ok b) : ∃ a, r = .ok a /\ f a = .ok b := by
  cases r with
  | ok a => exact ⟨a, rfl, h⟩
  | err n => cases h
  | bad => cases h
theorem compL_cons {f : D -> R (Option D)} {d : D} {ds ys : List D} (h : compL f (d :: ds) = .ok ys) : ∃ o zs, f d = .ok o /\ compL f ds = .ok zs /\ ys = o.toList ++ zs := by
  unfold compL at h
  obtain ⟨o, h1, h⟩ := bind_ok h
  obtain ⟨zs, h2, h⟩ := bind_ok h
  cases h
  exact ⟨o, zs, h1, h2, rfl⟩
theorem EOk.live {K : PySem.W.Frag} {Γ : List Cl} {O : Addr -> Prop} {H : Hp} {σ σ' : St} {τ : Tn} (h : EOk K Γ O H σ τ) (e : ∀ (j : Nat) (c : Cl), Γ[j]? = some c -> c ≠ Cl.dead -> σ'[j]? = σ[j]?) : EOk K Γ O H σ' τ :=
  ⟨h.dom, fun i c e1 hc => by
    obtain ⟨v, d, L, a1, a2, a3, a4⟩ := h.slot i c e1 hc
    exact ⟨v, d, L, by rw [e i c e1 hc]; exact a1, a2, a3, a4⟩⟩
section
variable {X : Cx} {E : XK} {Γ : List Cl} {pos : Pos}
theorem comp_snd {fr : List (Option Nat)} {tg iter : Expr} {it : Tn -> R (List D)} {g : Tgt} {cnd : Tn -> R Bool} {te : Tn -> R D} {ci c : Rc} (hi : MI X E Γ tg iter it ci) (hcl : c ≠ .bor) (hd : ∀ j ∈ g.slots, (compC fr Γ)[j]? = some .dead) :
    ∃ wi, PI X tg iter wi /\ ∀ O σ H τ Q, EOk X.K Γ O H σ τ -> post X.K E O c H Q (eComp fr it g cnd te τ) -> tComp fr wi (tgG X.K g) (wpT X.K noX (clsAll (Cl.ofIt ci) (compC fr Γ) g.slots) cnd) (wpE X.K noX (clsAll (Cl.ofIt ci) (compC fr Γ) g.slots) te c) σ H Q := by
  obtain ⟨wi, p, q⟩ := hi
  refine ⟨wi, p, fun O σ H τ Q ok h => q O σ H τ _ ok ?_⟩
  unfold eComp at h
  cases hit' : it τ with
  | err n => rw [hit'] at h; exact h
  | bad => rw [hit'] at h; exact h
  | ok ds =>
    rw [hit', R.ok_bind] at h
    refine fun J H1 L s1 hJ hO dd hD => ?_
    obtain ⟨hLd, hit⟩ := hJ
    generalize hF : compF g.asg cnd te (compT fr τ) = F at h
    cases hcL : compL F ds with
    | err n => exact absurd hcL (compL_noerr (fun d n z => by rw [<- hF] at z; exact noErr_err z) ds n)
    | bad => rw [hcL] at h; exact h.elim
    | ok ys =>
      rw [hcL, R.ok_bind] at h
      by_cases hz : ys.length <= sizeLine
      · rw [if_pos hz] at h
        have hD0 : H dd = none := s1.non hD
        have lenS : (compSt fr σ).length = (compC fr Γ).length := by simp [compSt, compC]
        have lenT : (compT fr τ).length = (compC fr Γ).length := by simp [compT, compC]
        refine ⟨fun i m ysv τ' H2 => m = ds.length - i /\ i <= ds.length /\ H2 dd = some (.lst ysv) /\ (∀ b, b ≠ dd -> H1 b ≠ none -> H2 b = H1 b) /\ τ'.length = (compC fr Γ).length /\ (∀ j, j ∉ g.slots -> τ'[j]? = (compSt fr σ)[j]?) /\
          ∃ dn rs Ly, ys = dn ++ rs /\ compL F (ds.drop i) = .ok rs /\ Reps X.K H2 dn ysv Ly /\ dd ∉ Ly /\ RcOk c O H1 Ly, ⟨ds.length, by simp, Nat.zero_le _, upd_same, fun b hb _ => upd_ne hb, lenS, fun _ _ => rfl, [], ys, [], rfl, by simpa using hcL, Reps.nil, by simp, RcOk.nil⟩, ?_⟩
        rintro i m ysv τ' H2 ⟨rfl, hile, hDy, kp, hl', hj', dn, rs, Ly, eys, hrs, rdn, nD, kLy⟩
        refine ⟨hDy, ?_⟩
        have sH : Same H H2 := fun b o e => by
          have e1 := s1 b o e
          have nb : b ≠ dd := ne_of_none e hD0
          rw [kp b nb (by rw [e1]; simp)]; exact e1
        have s12 : ∀ b o, H1 b = some o -> H2 b = some o := fun b o e => by
          rw [kp b (ne_of_none e hD) (by rw [e]; simp)]; exact e
        have okO : EOk X.K Γ (fun a => O a \/ a = dd) H2 σ τ := by
          refine ⟨fun a ha => ?_, fun j k e hk => ?_⟩
          · rcases ha with ha | ha
            · exact (ok.same sH).dom a ha
            · rw [ha, hDy]; simp
          · obtain ⟨v, d, L0, a1, a2, a3, a4⟩ := ok.slot j k e hk
            refine ⟨v, d, L0, a1, a2, a3.same sH, fun z a ha hm => ?_⟩
            rcases hm with hm | hm
            · exact a4 z a ha hm
            · exact a3.there ha (hm ▸ hD0)
        have okc : EOk X.K (compC fr Γ) (fun a => O a \/ a = dd) H2 τ' (compT fr τ) := (okO.comp (fr := fr)).live fun j k e hk => hj' j fun hm => by
          rw [hd j hm] at e; exact hk (Option.some.inj e).symm
        obtain ⟨go, stop⟩ := hit H2 ⟨fun a xs e => s12 a _ e, fun a o u e => s12 a _ e⟩ (fun a ha => kp a (fun z => hLd a ha (z ▸ hD)) (hLd a ha)) i
        by_cases hlt : i < ds.length
        · obtain ⟨hgo, hy⟩ := go ds[i] (by simp [hlt])
          refine .inr ⟨hgo, fun x H3 y => ?_⟩
          obtain ⟨s3, L', r', sub⟩ := hy x H3 y
          rw [List.drop_eq_getElem_cons hlt] at hrs
          obtain ⟨o, zs, ho, hzs, ers⟩ := compL_cons hrs
          rw [<- hF] at ho
          have ho := noErr_ok ho
          obtain ⟨τ1, ha, ho⟩ := bind_ok ho
          obtain ⟨k, hk, ho⟩ := bind_ok ho
          refine tgE_in (k := Cl.ofIt ci) (okc.same s3) r' (fun z a ha hm => ?_) hl' lenT ha fun σ1 ok1 hl1 hj1 => ?_
          · have hci : ci ≠ .bor := fun w => by subst w; cases z
            rcases hm with hm | hm
            · exact hO hci a (sub a ha) hm
            · exact hLd a (sub a ha) (hm ▸ hD)
          · refine ⟨_, τ1, ok1, ?_⟩
            rw [hk]
            refine fun H5 s5 => ?_
            have s25 := s3.trans s5
            cases k with
            | true =>
              rw [if_pos rfl] at ho
              dsimp only
              rw [if_pos rfl]
              obtain ⟨yd, hyd, ho⟩ := bind_ok ho
              cases ho
              refine ⟨_, τ1, ok1.same s5, ?_⟩
              rw [hyd]
              refine fun yv H6 Lw s6 r6 k6 => ?_
              have s26 := s25.trans s6
              have hD6 : H6 dd = some (.lst ysv) := s26 dd _ hDy
              have hlen : ysv.length = dn.length := rdn.length
              have nDw : dd ∉ Lw := fun hm => by
                cases c with
                | fresh => have := k6.2 dd hm; rw [s25 dd _ hDy] at this; cases this
                | shr => exact k6 dd hm (.inr rfl)
                | bor => exact hcl rfl
              have mu : (∃ vs, H6 dd = some (.lst vs)) \/ ∃ kvs, H6 dd = some (.dK kvs) := .inl ⟨_, hD6⟩
              refine ⟨hD6, ?_, ds.length - (i + 1), by omega, rfl, hlt, upd_same, fun b hb hn => ?_, by rw [hl1]; exact hl', fun j hj => (hj1 j hj).trans (hj' j hj), dn ++ [yd], zs, Ly ++ Lw, ?_, hzs, ?_, ?_, ?_⟩
              · rw [eys, ers, List.length_append, List.length_append] at hz
                simp only [Option.toList, List.length_singleton] at hz
                omega
              · rw [upd_ne hb, <- kp b hb hn]
                exact s26.at (by rw [kp b hb hn]; exact hn)
              · rw [eys, ers, List.append_assoc]; rfl
              · have := Reps.append ((rdn.same s26).upd (o := .lst (ysv ++ [yv])) mu nD) (Reps.cons (r6.upd (o := .lst (ysv ++ [yv])) mu nDw) Reps.nil)
                rw [List.append_nil] at this
                exact this
              · intro hm
                rcases List.mem_append.mp hm with z | z
                · exact nD z
                · exact nDw z
              · cases c with
                | fresh =>
                  refine ⟨List.nodup_append.mpr ⟨kLy.1, k6.1, fun a ha b hb z => ?_⟩, fun a ha => ?_⟩
                  · subst z
                    have h2 := rdn.there ha
                    have h5 := k6.2 a hb
                    exact h2 (s25.non h5)
                  · rcases List.mem_append.mp ha with z | z
                    · exact kLy.2 a z
                    · have h5 := k6.2 a z
                      have h2 : H2 a = none := s25.non h5
                      cases e1 : H1 a with
                      | none => rfl
                      | some o => rw [s12 a o e1] at h2; cases h2
                | shr =>
                  intro a ha
                  rcases List.mem_append.mp ha with z | z
                  · exact kLy a z
                  · exact fun w => k6 a z (.inl w)
                | bor => exact absurd rfl hcl
            | false =>
              rw [if_neg Bool.false_ne_true] at ho
              dsimp only
              rw [if_neg Bool.false_ne_true]
              cases ho
              refine ⟨ds.length - (i + 1), by omega, rfl, hlt, s25 dd _ hDy, fun b hb hn => ?_, by rw [hl1]; exact hl', fun j hj => (hj1 j hj).trans (hj' j hj), dn, zs, Ly, ?_, hzs, rdn.same s25, nD, kLy⟩
              · rw [<- kp b hb hn]
                exact s25.at (by rw [kp b hb hn]; exact hn)
              · rw [eys, ers]; rfl
        · have e : i = ds.length := by omega
          subst e
          rw [List.drop_length] at hrs
          cases hrs
          rw [List.append_nil] at eys
          subst eys
          refine .inl ⟨stop (Nat.le_refl _), h (.ref dd) H2 (dd :: Ly) sH ⟨dd, ysv, Ly, rfl, hDy, rfl, rdn⟩ ?_⟩
          cases c with
          | fresh =>
            refine ⟨List.nodup_cons.mpr ⟨nD, kLy.1⟩, fun a ha => ?_⟩
            rcases List.mem_cons.mp ha with z | z
            · rw [z]; exact hD0
            · exact s1.non (kLy.2 a z)
          | shr =>
            intro a ha
            rcases List.mem_cons.mp ha with z | z
            · rw [z]; exact fun w => ok.dom dd w hD0
            · exact kLy a z
          | bor => exact absurd rfl hcl
      · rw [if_neg hz] at h; exact h.elim
theorem me_comp {N' : List Str} {fr : List (Option Nat)} {scope : Scope} {tg iter elt : Expr} {ifs : List Expr} {it : Tn -> R (List D)} {g : Tgt} {cnd : Tn -> R Bool} {te : Tn -> R D} {ci c : Rc} (hc : X.calm = true) (S : CompScope X N' fr scope) (hi : MI X E Γ tg iter it ci)
    (hg : ∀ s₃ H₃ fp pins, MG (compCx X scope N' s₃ H₃ fp pins) tg g) (ht : ∀ s₃ H₃ fp pins, MTs (compCx X scope N' s₃ H₃ fp pins) noX (clsAll (Cl.ofIt ci) (compC fr Γ) g.slots) ifs cnd)
    (he : ∀ s₃ H₃ fp pins, ME (compCx X scope N' s₃ H₃ fp pins) noX (clsAll (Cl.ofIt ci) (compC fr Γ) g.slots) elt te c) (hcl : c ≠ .bor) (hd : ∀ j ∈ g.slots, (compC fr Γ)[j]? = some .dead)
    (hs : ∀ x, foldedSetIterable iter X.env x = pure x := by intro _; rfl) : ME X E Γ (.ListComp elt [⟨tg, iter, ifs, 0⟩] scope pos) (eComp fr it g cnd te) c := by
  obtain ⟨wi, p, q⟩ := comp_snd (cnd := cnd) (te := te) hi hcl hd
  exact ⟨_, pe_comp hc S p (fun s₃ H₃ fp pins => (hg s₃ H₃ fp pins).pg) (fun s₃ H₃ fp pins => (ht s₃ H₃ fp pins).pts) (fun s₃ H₃ fp pins => (he s₃ H₃ fp pins).pe) hs, q⟩
theorem ms_comp {Γl : List Cl} {N' : List Str} {fr : List (Option Nat)} {scope : Scope} {tg iter elt : Expr} {ifs : List Expr} {it : Tn -> R (List D)} {g : Tgt} {cnd : Tn -> R Bool} {te : Tn -> R D} {ci : Rc} {i : Nat} {x : Str} {pos' cpos : Pos} (hc : X.calm = true) (S : CompScope X N' fr scope) (hi : MI X E Γ tg iter it ci)
    (hg : ∀ s₃ H₃ fp pins, MG (compCx X scope N' s₃ H₃ fp pins) tg g) (ht : ∀ s₃ H₃ fp pins, MTs (compCx X scope N' s₃ H₃ fp pins) noX (clsAll (Cl.ofIt ci) (compC fr Γ) g.slots) ifs cnd)
    (he : ∀ s₃ H₃ fp pins, ME (compCx X scope N' s₃ H₃ fp pins) noX (clsAll (Cl.ofIt ci) (compC fr Γ) g.slots) elt te .fresh) (hd : ∀ j ∈ g.slots, (compC fr Γ)[j]? = some .dead)
    (hN : X.N.Nodup) (hix : X.N[i]? = some x) (hl : i < Γ.length) (hx : Loc X.env.scope x) (hsw : swapsWith (.ListComp elt [⟨tg, iter, ifs, 0⟩] scope cpos) (some (.Name x pos')) pos.line X.env = pure true)
    (hs : ∀ x, foldedSetIterable iter X.env x = pure x := by intro _; rfl) (hf : X.fn x = true \/ X.env.scope.names.lookup x = some .local := by first | exact .inl rfl | exact .inr rfl | assumption) :
    MS X E Γl Γ (.Assign [.Name x pos'] (.ListComp elt [⟨tg, iter, ifs, 0⟩] scope cpos) pos) (sSet i (eComp fr it g cnd te)) (Γ.set i .own) := by
  obtain ⟨wi, p, q⟩ := comp_snd (cnd := cnd) (te := te) (c := .fresh) hi (by decide) hd
  refine ⟨_, ps_comp (g := tgG X.K g) (tc := wpT X.K noX (clsAll (Cl.ofIt ci) (compC fr Γ) g.slots) cnd) (te := wpE X.K noX (clsAll (Cl.ofIt ci) (compC fr Γ) g.slots) te .fresh) hc S p (fun s₃ H₃ fp pins => (hg s₃ H₃ fp pins).pg) (fun s₃ H₃ fp pins => (ht s₃ H₃ fp pins).pts) (fun s₃ H₃ fp pins => (he s₃ H₃ fp pins).pe) hN hix hx hsw hs hf, fun B σ H τ Z ok h => ?_⟩
  obtain ⟨O, eo, _⟩ := ok.eok
  refine q O σ H τ _ eo ?_
  unfold sSet at h
  cases ht' : eComp fr it g cnd te τ with
  | ok d =>
    rw [ht', R.ok_bind] at h
    exact fun v H' L s r k => h _ _ (SOk.into (T := []) (ok.aside s (fun a ha => r.there ha) k.1 k.2) r hl)
  | err n => rw [ht'] at h; exact fun C H' e s => h C H' e (ok.ext.trans s)
  | bad => rw [ht'] at h; exact h
end
noncomputable def spM (K : PySem.W.Frag) (F : List D -> R D) (n : Nat) : Sp := fun vs H Q E => vs.length = n /\ ∃ ds L, Reps K H ds vs L /\ post K E (fun _ => False) .fresh H Q (F ds)
noncomputable def runB (n : Nat) (t : Tn -> R Fl) (ds : List D) : R D := match t (ds.map some ++ List.replicate (n - ds.length) none) with
  | .ok (.rt d) => .ok d
  | .ok (.nx _) => .ok .non
  | .err c => .err c
  | _ => .bad
noncomputable def prmC (n m : Nat) : List Cl := List.replicate m .shr ++ List.replicate (n - m) .dead
theorem Reps.slot {K : PySem.W.Frag} {H : Hp} {ds : List D} {vs : List V} {L : List Addr} (r : Reps K H ds vs L) : ∃ Ls : Nat -> List Addr, ∀ (i : Nat) (d : D), ds[i]? = some d -> ∃ v, vs[i]? = some v /\ Rep K H d v (Ls i) := by
  have : ∀ i : Nat, ∃ L1 : List Addr, ∀ d, ds[i]? = some d -> ∃ v, vs[i]? = some v /\ Rep K H d v L1 := fun i => by
    cases h : ds[i]? with
    | none => exact ⟨[], fun d z => by cases z⟩
    | some d =>
      obtain ⟨v, L1, e1, r1, _⟩ := r.get h
      exact ⟨L1, fun d' z => by cases z; exact ⟨v, e1, r1⟩⟩
  exact ⟨fun i => Classical.choose (this i), fun i => Classical.choose_spec (this i)⟩
theorem SOk.start {K : PySem.W.Frag} {H : Hp} {N : List Str} {ds : List D} {vs : List V} {L : List Addr} (r : Reps K H ds vs L) (hn : vs.length <= N.length) : SOk K (prmC N.length vs.length) H H (L2.start N vs) (ds.map some ++ List.replicate (N.length - ds.length) none) [] := by
  have hl := r.length
  have lp : (prmC N.length vs.length).length = N.length := by unfold prmC; rw [List.length_append, List.length_replicate, List.length_replicate]; omega
  obtain ⟨Ls, hL⟩ := r.slot
  have cls : ∀ i c, (prmC N.length vs.length)[i]? = some c -> c ≠ .dead -> i < vs.length /\ c = .shr := fun i c e hc => by
    unfold prmC at e
    by_cases hi : i < vs.length
    · rw [List.getElem?_append_left (by simpa using hi), List.getElem?_replicate, if_pos hi] at e
      exact ⟨hi, (Option.some.inj e).symm⟩
    · rw [List.getElem?_append_right (by simp; omega), List.getElem?_replicate] at e
      split at e
      · exact absurd (Option.some.inj e).symm hc
      · cases e
  have no : ∀ i : Nat, (prmC N.length vs.length)[i]? ≠ some Cl.own := fun i e => by
    have := (cls i _ e (by simp)).2
    cases this
  refine ⟨Same.refl H, ?_, ?_, Ls, fun i c e hc => ?_, fun i e => absurd e (no i), fun i j c _ e => absurd e (no i), List.nodup_nil, fun a ha => (nomatch ha), fun i c e hc a ha hm => (nomatch hm)⟩
  · unfold L2.start; rw [lp, List.length_append, List.length_map, List.length_replicate]; omega
  · rw [lp, List.length_append, List.length_map, List.length_replicate]; omega
  · obtain ⟨hi, _⟩ := cls i c e hc
    have hi' : i < ds.length := by omega
    obtain ⟨v, e1, r1⟩ := hL i ds[i] (by simp [hi'])
    refine ⟨v, ds[i], ?_, ?_, r1⟩
    · unfold L2.start
      rw [List.getElem?_append_left (by simpa using hi), List.getElem?_map, e1]; rfl
    · rw [List.getElem?_append_left (by simpa using hi'), List.getElem?_map]; simp [hi']
section
variable {P : Program} {w : World} {K : PySem.W.Frag} {mg : Str -> Option Value} {base : Heap} {x : Str} {st : Stmt} {N ps : List Str} {k : Nat} {t : Tn -> R Fl} {Γ' : List Cl}
theorem DefIn.mir (Df : DefIn K mg x st ps) (S : FnScope N ps (defScope st)) (hn : ps.length <= N.length)
    (hbody : ∀ (f : Addr) (cdv : Value) (A : Around) (outer : List Env) (s : Shared) (H : Hp) (E : XK), Room k (A.deeper (envOfC x (defScope st) s.heap.objs.size f cdv)) ->
      MSs (cxOf (cxx P w) P w K mg base N x (defScope st) f cdv A outer s H E) E [] (prmC N.length ps.length) (defBody st) t Γ') : Own P w K mg base x (k + 1) ps (spM K (runB N.length t) ps.length) := by
  refine Df.own S (fun vs H Q E h => h.1) fun f cdv A outer s H vs Q E hr h => ?_
  obtain ⟨hl, ds, L, r, h⟩ := h
  obtain ⟨ts, p, q⟩ := hbody f cdv A outer s H E hr
  refine ⟨ts, p, q H (start N vs) H _ _ (hl ▸ SOk.start r (by omega)) ?_⟩
  unfold runB at h
  cases ht : t (ds.map some ++ List.replicate (N.length - ds.length) none) with
  | ok f =>
    rw [ht] at h
    cases f with
    | nx τ' => exact fun σ' H' ok' => h .non H' [] ok'.ext ⟨rfl, rfl⟩ RcOk.nil
    | rt d => exact fun v H' L s r n1 n2 => h v H' L s r ⟨n1, n2⟩
    | bk τ' => exact h.elim
    | ct τ' => exact h.elim
  | err n => rw [ht] at h; exact fun C H' e s => h C H' e s
  | bad => rw [ht] at h; exact h.elim
end
section
variable {X : Cx} {E : XK} {Γ Γ' Γl : List Cl} {x : Str} {k : Nat} {ps : List Str} {F : List D -> R D} {e : Expr} {es : List Expr} {u : Tn -> R (List D)} {c : Rc} {p pos : Pos} {n : Nat}
theorem me_call (O : Own X.prog X.w X.K X.mg X.base x k ps (spM X.K F n)) (hr : Room k X.A) (hg : Gl X x) (hx : Passes (cxx X.prog X.w) X E) (ha : MA X E Γ (e :: es) u c) (hl : (e :: es).length = n := by rfl) (hdb : (x == ("__debug__" : Str)) = false := by decide)
    (he : starEach (e :: es) X.env = (false, eval e X.env) :: starEach es X.env := by rfl) (hpl : (backTo pos (starEach es X.env)).any (·.1) = false := by rfl) : ME X E Γ (.Call (.Name x p) (e :: es) [] pos) (eL F u) .fresh := by
  obtain ⟨hlen, ta, pa, q⟩ := ha
  refine ⟨_, pe_own O hr hg hx pa hdb he hpl, fun O' σ H τ Q ok h => q O' σ H τ _ ok ?_⟩
  unfold eL at h
  cases hu : u τ with
  | ok ds =>
    rw [hu, R.ok_bind] at h
    refine fun vs H1 L s1 r1 _ => ?_
    have hv : (vs ++ []).length = n := by rw [List.append_nil, r1.length, hlen τ ds hu]; exact hl
    refine ⟨hv, ds, L, by rw [List.append_nil]; exact r1, ?_⟩
    have h1 := h.same s1
    cases hF : F ds with
    | ok d => rw [hF] at h1; exact h1
    | err n => rw [hF] at h1; exact h1
    | bad => rw [hF] at h1; exact h1
  | err n => rw [hu] at h; exact h
  | bad => rw [hu] at h; exact h
end
end L2
set_option maxRecDepth 100000
set_option maxHeartbeats 4000000
namespace L2
open PySem PySem.Spec PyProof.Rows
noncomputable def D.isS : D -> Bool
  | .non => true
  | .bl _ => true
  | .int _ => true
  | .str _ => true
  | _ => false
noncomputable def eqS : D -> D -> Bool
  | .non, .non => true
  | .bl a, .bl b => a == b
  | .bl a, .int b => (if a then 1 else 0) == b
  | .int a, .bl b => a == (if b then 1 else 0)
  | .int a, .int b => a == b
  | .str a, .str b => a == b
  | _, _ => false
noncomputable def eqZip (f : D -> D -> Option Bool) : List D -> List D -> Option Bool
  | x :: xs, y :: ys => match f x y, eqZip f xs ys with
    | some a, some b => some (a && b)
    | _, _ => none
  | _, _ => some true
theorem nonB {b : Bool} (h : (none : Option Bool) = some b) : False := by cases h
noncomputable def eqF : Nat -> D -> D -> Option Bool
  | 0, x, y => if (x.isS && y.isS) = true then some (eqS x y) else none
  | n + 1, x, y => match x, y with
    | .lst xs, .lst ys => if xs.length = ys.length then eqZip (eqF n) xs ys else some false
    | .tup xs, .tup ys => (eqZip (eqF n) xs ys).map fun b => b && xs.length == ys.length
    | .frl xs, .lst ys => if xs.length = ys.length then eqZip (eqF n) xs ys else some false
    | .lst _, .tup _ => some false
    | .tup _, .lst _ => some false
    | .lst _, y => if y.isS = true then some false else none
    | .tup _, y => if y.isS = true then some false else none
    | x, .lst _ => if x.isS = true then some false else none
    | x, .tup _ => if x.isS = true then some false else none
    | x, y => if (x.isS && y.isS) = true then some (eqS x y) else none
theorem scalU {K : PySem.W.Frag} {H : Hp} {d : D} {v : V} {L : List Addr} {u : Value} (h : d.isS = true) (r : Rep K H d v L) (q : RelV v u) :
    (d = .non /\ u = .none) \/ (∃ b, d = .bl b /\ u = .bool b) \/ (∃ i t, d = .int i /\ u = .int i t) \/ ∃ x t, d = .str x /\ u = .str x t := by
  cases d with
  | non => obtain ⟨rfl, _⟩ := r; exact .inl ⟨rfl, q⟩
  | bl b => obtain ⟨rfl, _⟩ := r; exact .inr (.inl ⟨b, rfl, q⟩)
  | int i => obtain ⟨rfl, _⟩ := r; obtain ⟨t, e⟩ := q; exact .inr (.inr (.inl ⟨i, t, rfl, e⟩))
  | str x => obtain ⟨rfl, _⟩ := r; obtain ⟨t, e⟩ := q; exact .inr (.inr (.inr ⟨x, t, rfl, e⟩))
  | _ => cases h
open SeqAt in
theorem rc_scal {A : Around} {s : Shared} {K : PySem.W.Frag} {H : Hp} {d1 d2 : D} {v1 v2 : V} {L1 L2 : List Addr} {u1 u2 : Value} (h1 : d1.isS = true) (h2 : d2.isS = true) (r1 : Rep K H d1 v1 L1) (r2 : Rep K H d2 v2 L2) (q1 : RelV v1 u1) (q2 : RelV v2 u2) :
    RcAt A s u1 u2 (eqS d1 d2) /\ EqAt A s u1 u2 (eqS d1 d2) /\ RcNeAt A s u1 u2 (!eqS d1 d2) := by
  rcases scalU h1 r1 q1 with ⟨rfl, rfl⟩ | ⟨a, rfl, rfl⟩ | ⟨a, t, rfl, rfl⟩ | ⟨a, t, rfl, rfl⟩ <;>
  rcases scalU h2 r2 q2 with ⟨rfl, rfl⟩ | ⟨b, rfl, rfl⟩ | ⟨b, t', rfl, rfl⟩ | ⟨b, t', rfl, rfl⟩
  · exact ⟨RcAt.none_none, EqAt.same _, RcNeAt.none_none⟩
  · exact ⟨RcAt.none_bool b, EqAt.none_bool b, RcNeAt.none_bool b⟩
  · exact ⟨RcAt.none_int b _, EqAt.none_int b _, RcNeAt.none_int b _⟩
  · exact ⟨RcAt.none_str b _, EqAt.none_str b _, RcNeAt.none_str b _⟩
  · exact ⟨RcAt.bool_none a, EqAt.bool_none a, RcNeAt.bool_none a⟩
  · exact ⟨RcAt.bool_bool a b, EqAt.bool_bool a b, RcNeAt.bool_bool a b⟩
  · exact ⟨RcAt.bool_int a b _, EqAt.bool_int a b _, RcNeAt.bool_int a b _⟩
  · exact ⟨RcAt.bool_str a b _, EqAt.bool_str a b _, RcNeAt.bool_str a b _⟩
  · exact ⟨RcAt.int_none a _, EqAt.int_none a _, RcNeAt.int_none a _⟩
  · exact ⟨RcAt.int_bool a _ b, EqAt.int_bool a _ b, RcNeAt.int_bool a _ b⟩
  · exact ⟨RcAt.int_int a _ b _, EqAt.int_int a _ b _, RcNeAt.int_int a _ b _⟩
  · exact ⟨RcAt.int_str a _ b _, EqAt.int_str a _ b _, RcNeAt.int_str a _ b _⟩
  · exact ⟨RcAt.str_none a _, EqAt.str_none a _, RcNeAt.str_none a _⟩
  · exact ⟨RcAt.str_bool a _ b, EqAt.str_bool a _ b, RcNeAt.str_bool a _ b⟩
  · exact ⟨RcAt.str_int a _ b _, EqAt.str_int a _ b _, RcNeAt.str_int a _ b _⟩
  · exact ⟨RcAt.str_str a _ b _, EqAt.str_str a _ b _, RcNeAt.str_str a _ b _⟩
open SeqAt in
theorem rc_ls {A : Around} {s : Shared} {K : PySem.W.Frag} {H : Hp} {d : D} {v : V} {L : List Addr} {u : Value} {l : Addr} {items : Array Value} (hd : d.isS = true) (r : Rep K H d v L) (q : RelV v u) (hl : s.heap.IsList l items) (hu : A.units < cLine) :
    (RcAt A s (.ref l) u false /\ EqAt A s (.ref l) u false /\ RcNeAt A s (.ref l) u true) /\ RcAt A s u (.ref l) false /\ EqAt A s u (.ref l) false /\ RcNeAt A s u (.ref l) true := by
  rcases scalU hd r q with ⟨rfl, rfl⟩ | ⟨b, rfl, rfl⟩ | ⟨b, t', rfl, rfl⟩ | ⟨b, t', rfl, rfl⟩
  · exact ⟨⟨RcAt.list_none hl hu, EqAt.list_none hl hu, RcNeAt.list_none hl hu⟩, RcAt.none_list hl hu, EqAt.none_list hl hu, RcNeAt.none_list hl hu⟩
  · exact ⟨⟨RcAt.list_bool b hl hu, EqAt.list_bool b hl hu, RcNeAt.list_bool b hl hu⟩, RcAt.bool_list b hl hu, EqAt.bool_list b hl hu, RcNeAt.bool_list b hl hu⟩
  · exact ⟨⟨RcAt.list_int b _ hl hu, EqAt.list_int b _ hl hu, RcNeAt.list_int b _ hl hu⟩, RcAt.int_list b _ hl hu, EqAt.int_list b _ hl hu, RcNeAt.int_list b _ hl hu⟩
  · exact ⟨⟨RcAt.list_str b _ hl hu, EqAt.list_str b _ hl hu, RcNeAt.list_str b _ hl hu⟩, RcAt.str_list b _ hl hu, EqAt.str_list b _ hl hu, RcNeAt.str_list b _ hl hu⟩
open SeqAt in
theorem rc_ts {A : Around} {s : Shared} {K : PySem.W.Frag} {H : Hp} {d : D} {v : V} {L : List Addr} {u : Value} {l : Addr} {items : Array Value} (hd : d.isS = true) (r : Rep K H d v L) (q : RelV v u) (hl : s.heap.IsTuple l items) (hu : A.units < cLine) :
    (RcAt A s (.ref l) u false /\ EqAt A s (.ref l) u false /\ RcNeAt A s (.ref l) u true) /\ RcAt A s u (.ref l) false /\ EqAt A s u (.ref l) false /\ RcNeAt A s u (.ref l) true := by
  rcases scalU hd r q with ⟨rfl, rfl⟩ | ⟨b, rfl, rfl⟩ | ⟨b, t', rfl, rfl⟩ | ⟨b, t', rfl, rfl⟩
  · exact ⟨⟨RcAt.tuple_none hl hu, EqAt.tuple_none hl hu, RcNeAt.tuple_none hl hu⟩, RcAt.none_tuple hl hu, EqAt.none_tuple hl hu, RcNeAt.none_tuple hl hu⟩
  · exact ⟨⟨RcAt.tuple_bool b hl hu, EqAt.tuple_bool b hl hu, RcNeAt.tuple_bool b hl hu⟩, RcAt.bool_tuple b hl hu, EqAt.bool_tuple b hl hu, RcNeAt.bool_tuple b hl hu⟩
  · exact ⟨⟨RcAt.tuple_int b _ hl hu, EqAt.tuple_int b _ hl hu, RcNeAt.tuple_int b _ hl hu⟩, RcAt.int_tuple b _ hl hu, EqAt.int_tuple b _ hl hu, RcNeAt.int_tuple b _ hl hu⟩
  · exact ⟨⟨RcAt.tuple_str b _ hl hu, EqAt.tuple_str b _ hl hu, RcNeAt.tuple_str b _ hl hu⟩, RcAt.str_tuple b _ hl hu, EqAt.str_tuple b _ hl hu, RcNeAt.str_tuple b _ hl hu⟩
noncomputable def eqAtJ (f : D -> D -> Option Bool) (xs ys : List D) (j : Nat) : Bool := match xs[j]?, ys[j]? with
  | some x, some y => (f x y).getD false
  | _, _ => true
theorem eqZip_all {f : D -> D -> Option Bool} : ∀ {xs ys : List D} {b : Bool}, eqZip f xs ys = some b -> b = (List.range (min xs.length ys.length)).all (eqAtJ f xs ys) /\ ∀ j x y, xs[j]? = some x -> ys[j]? = some y -> f x y = some (eqAtJ f xs ys j)
  | [], ys, b, h => by
    unfold eqZip at h
    cases h
    exact ⟨by simp, fun j x y e => by simp at e⟩
  | x :: xs, [], b, h => by
    unfold eqZip at h
    cases h
    exact ⟨by simp, fun j x y e e' => by simp at e'⟩
  | x :: xs, y :: ys, b, h => by
    unfold eqZip at h
    cases h1 : f x y with
    | none => rw [h1] at h; cases h
    | some a =>
      cases h2 : eqZip f xs ys with
      | none => rw [h1, h2] at h; cases h
      | some b' =>
        rw [h1, h2] at h
        cases h
        obtain ⟨e1, e2⟩ := eqZip_all h2
        have z0 : eqAtJ f (x :: xs) (y :: ys) 0 = a := by simp [eqAtJ, h1]
        have zs : ∀ j, eqAtJ f (x :: xs) (y :: ys) (j + 1) = eqAtJ f xs ys j := fun j => by simp [eqAtJ]
        refine ⟨?_, fun j x' y' ex ey => ?_⟩
        · have hm : min (x :: xs).length (y :: ys).length = min xs.length ys.length + 1 := by simp [Nat.succ_min_succ]
          rw [hm, List.range_succ_eq_map, List.all_cons, List.all_map, z0, e1]
          congr 1
        · cases j with
          | zero => simp at ex ey; subst ex ey; rw [z0]; exact h1
          | succ j => rw [zs]; exact e2 j x' y' (by simpa using ex) (by simpa using ey)
section
variable {X : Cx} {pins : List (Addr × Obj)} {σ : St} {H : Hp} {s : Shared}
noncomputable def D.ofV : V -> D
  | .bl b => .bl b
  | .int i => .int i
  | .str x => .str x
  | _ => .non
theorem Rep.ofV {K : PySem.W.Frag} {H : Hp} {d : D} {v : V} {L : List Addr} (h : ∀ a, v ≠ .ref a) (r : Rep K H d v L) : d = D.ofV v := by
  cases d with
  | non => rw [r.1]; rfl
  | bl => rw [r.1]; rfl
  | int => rw [r.1]; rfl
  | str => rw [r.1]; rfl
  | tup => obtain ⟨a, _, e, _⟩ := r; exact absurd e (h a)
  | lst => obtain ⟨a, _, _, e, _⟩ := r; exact absurd e (h a)
  | dic => obtain ⟨a, _, _, e, _⟩ := r; exact absurd e (h a)
  | frl => obtain ⟨a, _, e, _⟩ := r; exact absurd e (h a)
theorem Rep.oneS {K : PySem.W.Frag} {H : Hp} {d d' : D} {u v : V} {L L' : List Addr} (e : v = u) (hs : ∀ a, u ≠ .ref a) (r : Rep K H d v L) (r' : Rep K H d' v L') : d = d' := by
  subst e
  exact (r.ofV hs).trans (r'.ofV hs).symm
theorem Rep.noS {K : PySem.W.Frag} {H : Hp} {d : D} {a : Addr} {L : List Addr} (r : Rep K H d (.ref a) L) (h : d.isS = true) : False := by
  cases d with
  | non => cases r.1
  | bl => cases r.1
  | int => cases r.1
  | str => cases r.1
  | _ => cases h
theorem no_tl {a : Addr} {vs : List V} {o : HO} (I : Inv X pins σ H s) (h : SqT X.K H a vs) (h' : H a = some o) (n1 : ∀ xs, o ≠ .tup xs) (n2 : ∀ p xs, o ≠ .frz p (.tup xs)) : False := by
  rcases h with (z | ⟨p, z⟩) | ⟨o', its, n, hk, hc, _⟩
  · rw [z] at h'; exact n1 _ (Option.some.inj h').symm
  · rw [z] at h'; exact n2 _ _ (Option.some.inj h').symm
  · have := (I.bs a o' (I.mod.kin a o' hk)).2
    rw [this] at h'; cases h'
theorem no_fl {a : Addr} {vs : List V} {o : HO} (I : Inv X pins σ H s) (h : SqF X.K H a vs) (h' : H a = some o) (n2 : ∀ p xs, o ≠ .frz p (.lst xs)) : False := by
  rcases h with ⟨p, z⟩ | ⟨o', its, n, hk, hc, _⟩
  · rw [z] at h'; exact n2 _ _ (Option.some.inj h').symm
  · have := (I.bs a o' (I.mod.kin a o' hk)).2
    rw [this] at h'; cases h'
theorem no_tf {a : Addr} {vs ws : List V} (I : Inv X pins σ H s) (h' : SqT X.K H a ws) (h : SqF X.K H a vs) : False := by
  obtain ⟨its, _, ⟨o1, n1, e1, c1, _⟩, _⟩ := I.list h.sq
  obtain ⟨its2, _, ⟨o2, e2, c2, _⟩, _⟩ := I.tuple h'
  rw [e1] at e2
  cases e2
  rw [c1] at c2
  exact absurd c2 (by simp)
theorem no_ld {a : Addr} {xs : List V} {kvs : List (Key × V)} {H : Hp} (h : H a = some (.lst xs)) (h' : H a = some (.dK kvs)) : False := by
  rw [h] at h'; cases h'
mutual
theorem Rep.one (I : Inv X pins σ H s) : ∀ (d d' : D) (v : V) (L L' : List Addr), Rep X.K H d v L -> Rep X.K H d' v L' -> d = d'
  | .non, _, _, _, _, r, r' => Rep.oneS r.1 (fun _ z => V.noConfusion z) r r'
  | .bl _, _, _, _, _, r, r' => Rep.oneS r.1 (fun _ z => V.noConfusion z) r r'
  | .int _, _, _, _, _, r, r' => Rep.oneS r.1 (fun _ z => V.noConfusion z) r r'
  | .str _, _, _, _, _, r, r' => Rep.oneS r.1 (fun _ z => V.noConfusion z) r r'
  | .tup ds, d', _, L, L', hq5, r => by
    obtain ⟨a, vs, e, h, rs⟩ := hq5
    subst e
    cases d' with
    | non => exact (Rep.noS r rfl).elim
    | bl _ => exact (Rep.noS r rfl).elim
    | int _ => exact (Rep.noS r rfl).elim
    | str _ => exact (Rep.noS r rfl).elim
    | tup ds' =>
      obtain ⟨a', vs', e, h', rs'⟩ := r
      cases e
      cases I.tuple_inj h h'
      rw [Reps.one I ds ds' vs L L' rs rs']
    | lst _ =>
      obtain ⟨_, _, _, e, h', _⟩ := r
      cases e
      exact (no_tl I h h' (fun _ z => HO.noConfusion z) fun _ _ z => HO.noConfusion z).elim
    | dic _ _ =>
      obtain ⟨_, _, _, e, h', _⟩ := r
      cases e
      exact (no_tl I h h' (fun _ z => HO.noConfusion z) fun _ _ z => HO.noConfusion z).elim
    | frl _ =>
      obtain ⟨_, _, e, h', _⟩ := r
      cases e
      exact (no_tf I h h').elim
  | .lst ds, d', _, L, L', hq5, r => by
    obtain ⟨a, vs, L1, e, h, _, rs⟩ := hq5
    subst e
    cases d' with
    | non => exact (Rep.noS r rfl).elim
    | bl _ => exact (Rep.noS r rfl).elim
    | int _ => exact (Rep.noS r rfl).elim
    | str _ => exact (Rep.noS r rfl).elim
    | tup ds' =>
      obtain ⟨a', vs', e, h', rs'⟩ := r
      cases e
      exact (no_tl I h' h (fun _ z => HO.noConfusion z) fun _ _ z => HO.noConfusion z).elim
    | lst ds' =>
      obtain ⟨_, _, _, e, h', _, rs'⟩ := r
      cases e
      rw [h] at h'
      cases h'
      rw [Reps.one I ds ds' vs _ _ rs rs']
    | dic _ _ =>
      obtain ⟨_, _, _, e, h', _⟩ := r
      cases e
      exact (no_ld h h').elim
    | frl _ =>
      obtain ⟨_, _, e, h', _⟩ := r
      cases e
      exact (no_fl I h' h fun _ _ z => HO.noConfusion z).elim
  | .dic ks ds, d', _, L, L', hq5, r => by
    obtain ⟨a, kvs, L1, e, h, _, hk, _, rs⟩ := hq5
    subst e
    cases d' with
    | non => exact (Rep.noS r rfl).elim
    | bl _ => exact (Rep.noS r rfl).elim
    | int _ => exact (Rep.noS r rfl).elim
    | str _ => exact (Rep.noS r rfl).elim
    | tup ds' =>
      obtain ⟨a', vs', e, h', rs'⟩ := r
      cases e
      exact (no_tl I h' h (fun _ z => HO.noConfusion z) fun _ _ z => HO.noConfusion z).elim
    | lst ds' =>
      obtain ⟨_, _, _, e, h', _, rs'⟩ := r
      cases e
      exact (no_ld h' h).elim
    | dic ks' ds' =>
      obtain ⟨_, _, _, e, h', _, hk', _, rs'⟩ := r
      cases e
      rw [h] at h'
      cases h'
      rw [<- hk, <- hk', Reps.one I ds ds' _ _ _ rs rs']
    | frl _ =>
      obtain ⟨_, _, e, h', _⟩ := r
      cases e
      exact (no_fl I h' h fun _ _ z => HO.noConfusion z).elim
  | .frl ds, d', _, L, L', hq5, r => by
    obtain ⟨a, vs, e, h, _, _, rs⟩ := hq5
    subst e
    cases d' with
    | non => exact (Rep.noS r rfl).elim
    | bl _ => exact (Rep.noS r rfl).elim
    | int _ => exact (Rep.noS r rfl).elim
    | str _ => exact (Rep.noS r rfl).elim
    | tup ds' =>
      obtain ⟨a', vs', e, h', rs'⟩ := r
      cases e
      exact (no_tf I h' h).elim
    | lst ds' =>
      obtain ⟨_, _, _, e, h', _, rs'⟩ := r
      cases e
      exact (no_fl I h h' fun _ _ z => HO.noConfusion z).elim
    | dic ks' ds' =>
      obtain ⟨_, _, _, e, h', _, hk', _, rs'⟩ := r
      cases e
      exact (no_fl I h h' fun _ _ z => HO.noConfusion z).elim
    | frl ds' =>
      obtain ⟨_, _, e, h', _, _, rs'⟩ := r
      cases e
      have := I.list_inj h.sq h'.sq
      subst this
      rw [Reps.one I ds ds' vs _ _ rs rs']
theorem Reps.one (I : Inv X pins σ H s) : ∀ (ds ds' : List D) (vs : List V) (L L' : List Addr), Reps X.K H ds vs L -> Reps X.K H ds' vs L' -> ds = ds'
  | [], ds', _, _, _, hq5, r => by
    obtain ⟨e, _⟩ := hq5
    subst e
    cases ds' with
    | nil => rfl
    | cons _ _ => obtain ⟨_, _, _, _, e, _⟩ := r; cases e
  | d :: ds, ds', _, _, _, hq5, r => by
    obtain ⟨v, vs', L1, L2, e1, _, h1, h2⟩ := hq5
    subst e1
    cases ds' with
    | nil => obtain ⟨e, _⟩ := r; cases e
    | cons d' ds' =>
      obtain ⟨v', vs2, L3, L4, e, _, r1, r2⟩ := r
      cases e
      rw [Rep.one I d d' v _ _ h1 r1, Reps.one I ds ds' vs' _ _ h2 r2]
end
end
theorem eqS_refl : ∀ (d : D), d.isS = true -> eqS d d = true
  | .non, _ => rfl
  | .bl b, _ => by simp [eqS]
  | .int b, _ => by simp [eqS]
  | .str b, _ => by simp [eqS]
  | .tup _, h => nomatch h
  | .lst _, h => nomatch h
  | .dic _ _, h => nomatch h
  | .frl _, h => nomatch h
theorem eqF_refl : ∀ (n : Nat) (d : D) (b : Bool), eqF n d d = some b -> b = true := by
  intro n
  induction n with
  | zero =>
    intro d b h
    unfold eqF at h
    split at h
    · rename_i hs
      simp only [Bool.and_self] at hs
      rw [eqS_refl d hs] at h
      exact (Option.some.inj h).symm
    · cases h
  | succ n ih =>
    have zip : ∀ (xs : List D) (b : Bool), eqZip (eqF n) xs xs = some b -> b = true := by
      intro xs
      induction xs with
      | nil => intro b h; unfold eqZip at h; exact (Option.some.inj h).symm
      | cons x xs ihx =>
        intro b h
        unfold eqZip at h
        cases h1 : eqF n x x with
        | none => rw [h1] at h; cases h
        | some a =>
          cases h2 : eqZip (eqF n) xs xs with
          | none => rw [h1, h2] at h; cases h
          | some b' =>
            rw [h1, h2] at h
            cases h
            rw [ih x a h1, ihx b' h2]; rfl
    intro d b h
    cases d with
    | lst xs =>
      have h : (if xs.length = xs.length then eqZip (eqF n) xs xs else some false) = some b := h
      rw [if_pos rfl] at h
      exact zip xs b h
    | tup xs =>
      have h : (eqZip (eqF n) xs xs).map (fun b => b && xs.length == xs.length) = some b := h
      cases h1 : eqZip (eqF n) xs xs with
      | none => rw [h1] at h; cases h
      | some b' => rw [h1] at h; rw [zip xs b' h1] at h; simp at h; exact h.symm ▸ rfl
    | non => unfold eqF at h; exact (Option.some.inj h).symm
    | bl x => unfold eqF at h; simp [D.isS, eqS] at h; exact h.symm ▸ rfl
    | int x => unfold eqF at h; simp [D.isS, eqS] at h; exact h.symm ▸ rfl
    | str x => unfold eqF at h; simp [D.isS, eqS] at h; exact h.symm ▸ rfl
    | dic _ _ => unfold eqF at h; simp [D.isS] at h
    | frl _ => unfold eqF at h; simp [D.isS] at h
open SeqAt in
theorem eq_of_rc {A : Around} {s : Shared} {a a' : Addr} {b : Bool} (h : RcAt A s (.ref a) (.ref a') b) (hs : a = a' -> b = true) : EqAt A s (.ref a) (.ref a') b := by
  by_cases z : a = a'
  · subst z
    rw [hs rfl]
    exact EqAt.same _
  · exact EqAt.of_refs z h
open SeqAt in
theorem rc_lists {X : Cx} {pins : List (Addr × Obj)} {σ : St} {H : Hp} {s : Shared} (I : Inv X pins σ H s) {n : Nat} {A : Around} (hu0 : A.units < cLine)
    (ih : ∀ (d1 d2 : D) (v1 v2 : V) (L1 L2 : List Addr) (u1 u2 : Value) (b : Bool), eqF n d1 d2 = some b -> Rep X.K H d1 v1 L1 -> Rep X.K H d2 v2 L2 -> RelV v1 u1 -> RelV v2 u2 -> EqAt A.in1 s u1 u2 b)
    {a a2 : Addr} {vs vs2 : List V} {xs ys : List D} {L L2 : List Addr} {b : Bool} (ha : SqL X.K H a vs) (rs : Reps X.K H xs vs L) (ha2 : SqL X.K H a2 vs2) (rs2 : Reps X.K H ys vs2 L2)
    (h : (if xs.length = ys.length then eqZip (eqF n) xs ys else some false) = some b) (same : a = a2 -> b = true) : RcAt A s (.ref a) (.ref a2) b /\ EqAt A s (.ref a) (.ref a2) b /\ RcNeAt A s (.ref a) (.ref a2) (!b) := by
  obtain ⟨its, rv, pl, _⟩ := I.list ha
  obtain ⟨its2, rv2, pl2, _⟩ := I.list ha2
  have l1 : its.length = xs.length := by rw [<- rv.length, rs.length]
  have l2 : its2.length = ys.length := by rw [<- rv2.length, rs2.length]
  by_cases hl : xs.length = ys.length
  · rw [if_pos hl] at h
    obtain ⟨e1, e2⟩ := eqZip_all h
    have he : ∀ j (h1 : j < its.toArray.size) (h2 : j < its2.toArray.size), EqAt A.in1 s its.toArray[j] its2.toArray[j] (eqAtJ (eqF n) xs ys j) := fun j h1 h2 => by
      have h1' : j < xs.length := by simpa [l1] using h1
      have h2' : j < ys.length := by simpa [l2] using h2
      obtain ⟨w1, L3, g1, g2, _⟩ := rs.get (i := j) (d := xs[j]) (by simp [h1'])
      obtain ⟨w2, L4, g3, g4, _⟩ := rs2.get (i := j) (d := ys[j]) (by simp [h2'])
      obtain ⟨z1, k1, k2⟩ := rv.get g1
      obtain ⟨z2, k3, k4⟩ := rv2.get g3
      have m1 : its.toArray[j] = z1 := by
        have := (List.getElem?_eq_some_iff.mp k1).2
        simpa using this
      have m2 : its2.toArray[j] = z2 := by
        have := (List.getElem?_eq_some_iff.mp k3).2
        simpa using this
      rw [m1, m2]
      exact ih _ _ w1 w2 L3 L4 z1 z2 _ (e2 j _ _ (by simp [h1']) (by simp [h2'])) g2 g4 k2 k4
    have hsz : its.toArray.size = its2.toArray.size := by simp [l1, l2, hl]
    have eb : b = (List.range its.toArray.size).all (eqAtJ (eqF n) xs ys) := by
      rw [e1]
      congr 2
      simp [l1, hl]
    have rc := RcAt.lists pl.isList pl2.isList hsz hu0 he
    have rn := RcNeAt.lists pl.isList pl2.isList hsz hu0 he
    rw [<- eb] at rc rn
    exact ⟨rc, eq_of_rc rc same, rn⟩
  · rw [if_neg hl] at h
    cases h
    have hsz : (its.toArray.size != its2.toArray.size) = true := by simp [l1, l2, hl]
    have rc := RcAt.lists_lengths pl.isList pl2.isList hsz hu0
    exact ⟨rc, eq_of_rc rc same, RcNeAt.lists_lengths pl.isList pl2.isList hsz hu0⟩
open SeqAt in
theorem rc_eq {X : Cx} {pins : List (Addr × Obj)} {σ : St} {H : Hp} {s : Shared} (I : Inv X pins σ H s) : ∀ (n : Nat) (A : Around) (d1 d2 : D) (v1 v2 : V) (L1 L2 : List Addr) (u1 u2 : Value) (b : Bool), A.units + n < cLine -> eqF n d1 d2 = some b ->
    Rep X.K H d1 v1 L1 -> Rep X.K H d2 v2 L2 -> RelV v1 u1 -> RelV v2 u2 -> RcAt A s u1 u2 b /\ EqAt A s u1 u2 b /\ RcNeAt A s u1 u2 (!b) := by
  intro n
  induction n with
  | zero =>
    intro A d1 d2 v1 v2 L1 L2 u1 u2 b hu h r1 r2 q1 q2
    have h : (if (d1.isS && d2.isS) = true then some (eqS d1 d2) else none) = some b := h
    split at h
    · rename_i hs
      rw [Bool.and_eq_true] at hs
      cases h
      exact rc_scal hs.1 hs.2 r1 r2 q1 q2
    · cases h
  | succ n ih =>
    intro A d1 d2 v1 v2 L1 L2 u1 u2 b hu h r1 r2 q1 q2
    have hu0 : A.units < cLine := by omega
    have hu1 : A.in1.units + n < cLine := by show A.units + 1 + n < cLine; omega
    have same : ∀ a, v1 = .ref a -> v2 = .ref a -> b = true := fun a e1 e2 => by
      subst e1 e2
      have := Rep.one I d1 d2 _ _ _ r1 r2
      subst this
      exact eqF_refl (n + 1) d1 b h
    by_cases s1 : d1.isS = true
    · by_cases s2 : d2.isS = true
      · have e : b = eqS d1 d2 := by
          cases d1 <;> first | exact absurd s1 Bool.false_ne_true | (cases d2 <;> first | exact absurd s2 Bool.false_ne_true | exact (Option.some.inj h).symm)
        subst e
        exact rc_scal s1 s2 r1 r2 q1 q2
      · cases d2 with
        | lst ys =>
          have e : b = false := by cases d1 <;> first | exact absurd s1 Bool.false_ne_true | exact (Option.some.inj h).symm
          subst e
          obtain ⟨a, vs, L', e2, ha, _, rs⟩ := r2
          have q2 : u2 = Value.ref a := by rw [e2] at q2; exact q2
          rw [q2]
          obtain ⟨its, rv, pl, _⟩ := I.list (SqL.of ha)
          exact (rc_ls s1 r1 q1 pl.isList hu0).2
        | tup ys =>
          have e : b = false := by cases d1 <;> first | exact absurd s1 Bool.false_ne_true | exact (Option.some.inj h).symm
          subst e
          obtain ⟨a, vs, e2, ha, rs⟩ := r2
          have q2 : u2 = Value.ref a := by rw [e2] at q2; exact q2
          rw [q2]
          obtain ⟨its, rv, pl, _⟩ := I.tuple ha
          exact (rc_ts s1 r1 q1 pl hu0).2
        | dic _ _ => cases d1 <;> first | exact absurd s1 Bool.false_ne_true | exact (nonB (b := b) h).elim
        | frl _ => cases d1 <;> first | exact absurd s1 Bool.false_ne_true | exact (nonB (b := b) h).elim
        | _ => exact absurd rfl s2
    · cases d1 with
      | lst xs =>
        obtain ⟨a, vs, L', e1, ha, _, rs⟩ := r1
        have q1 : u1 = Value.ref a := by rw [e1] at q1; exact q1
        rw [q1]
        obtain ⟨its, rv, pl, _⟩ := I.list (SqL.of ha)
        cases d2 with
        | lst ys =>
          obtain ⟨a2, vs2, L2', e2, ha2, _, rs2⟩ := r2
          have q2 : u2 = Value.ref a2 := by rw [e2] at q2; exact q2
          rw [q2]
          exact rc_lists I hu0 (fun d1 d2 v1 v2 L1 L2 u1 u2 b e r1 r2 q1 q2 => (ih A.in1 d1 d2 v1 v2 L1 L2 u1 u2 b hu1 e r1 r2 q1 q2).2.1) (SqL.of ha) rs (SqL.of ha2) rs2 h fun z => same a e1 (by rw [z]; exact e2)
        | tup ys =>
          obtain ⟨a2, vs2, e2, ha2, rs2⟩ := r2
          have q2 : u2 = Value.ref a2 := by rw [e2] at q2; exact q2
          rw [q2]
          obtain ⟨its2, rv2, pl2, _⟩ := I.tuple ha2
          cases (Option.some.inj (show some false = some b from h))
          exact ⟨RcAt.list_tuple pl.isList pl2 hu0, EqAt.list_tuple pl.isList pl2 hu0, RcNeAt.list_tuple pl.isList pl2 hu0⟩
        | dic _ _ => exact (nonB (b := b) h).elim
        | frl _ => exact (nonB (b := b) h).elim
        | non => cases (Option.some.inj (show some false = some b from h)); exact (rc_ls (d := .non) rfl r2 q2 pl.isList hu0).1
        | bl x => cases (Option.some.inj (show some false = some b from h)); exact (rc_ls (d := .bl x) rfl r2 q2 pl.isList hu0).1
        | int x => cases (Option.some.inj (show some false = some b from h)); exact (rc_ls (d := .int x) rfl r2 q2 pl.isList hu0).1
        | str x => cases (Option.some.inj (show some false = some b from h)); exact (rc_ls (d := .str x) rfl r2 q2 pl.isList hu0).1
      | tup xs =>
        obtain ⟨a, vs, e1, ha, rs⟩ := r1
        have q1 : u1 = Value.ref a := by rw [e1] at q1; exact q1
        rw [q1]
        obtain ⟨its, rv, pl, _⟩ := I.tuple ha
        cases d2 with
        | tup ys =>
          obtain ⟨a2, vs2, e2, ha2, rs2⟩ := r2
          have q2 : u2 = Value.ref a2 := by rw [e2] at q2; exact q2
          rw [q2]
          obtain ⟨its2, rv2, pl2, _⟩ := I.tuple ha2
          have h : (eqZip (eqF n) xs ys).map (fun b => b && xs.length == ys.length) = some b := h
          have l1 : its.length = xs.length := by rw [<- rv.length, rs.length]
          have l2 : its2.length = ys.length := by rw [<- rv2.length, rs2.length]
          cases hz : eqZip (eqF n) xs ys with
          | none => rw [hz] at h; cases h
          | some b' =>
            rw [hz] at h
            have h : (b' && xs.length == ys.length) = b := Option.some.inj h
            have e1' := e1
            have e2' := e2
            obtain ⟨e1, e2⟩ := eqZip_all hz
            have he : ∀ j (h1 : j < its.toArray.size) (h2 : j < its2.toArray.size), EqAt A.in1 s its.toArray[j] its2.toArray[j] (eqAtJ (eqF n) xs ys j) := fun j h1 h2 => by
              have h1' : j < xs.length := by simpa [l1] using h1
              have h2' : j < ys.length := by simpa [l2] using h2
              obtain ⟨w1, L3, g1, g2, _⟩ := rs.get (i := j) (d := xs[j]) (by simp [h1'])
              obtain ⟨w2, L4, g3, g4, _⟩ := rs2.get (i := j) (d := ys[j]) (by simp [h2'])
              obtain ⟨z1, k1, k2⟩ := rv.get g1
              obtain ⟨z2, k3, k4⟩ := rv2.get g3
              have m1 : its.toArray[j] = z1 := by
                have := (List.getElem?_eq_some_iff.mp k1).2
                simpa using this
              have m2 : its2.toArray[j] = z2 := by
                have := (List.getElem?_eq_some_iff.mp k3).2
                simpa using this
              rw [m1, m2]
              exact (ih A.in1 _ _ w1 w2 L3 L4 z1 z2 _ hu1 (e2 j _ _ (by simp [h1']) (by simp [h2'])) g2 g4 k2 k4).2.1
            have eb : b = ((List.range (min its.toArray.size its2.toArray.size)).all (eqAtJ (eqF n) xs ys) && its.toArray.size == its2.toArray.size) := by
              rw [<- h, e1]
              simp [l1, l2]
            have rc := RcAt.tuples pl pl2 hu0 he
            have rn := RcNeAt.tuples pl pl2 hu0 he
            rw [<- eb] at rc rn
            exact ⟨rc, eq_of_rc rc fun z => same a e1' (by rw [z]; exact e2'), rn⟩
        | lst ys =>
          obtain ⟨a2, vs2, L2', e2, ha2, _, rs2⟩ := r2
          have q2 : u2 = Value.ref a2 := by rw [e2] at q2; exact q2
          rw [q2]
          obtain ⟨its2, rv2, pl2, _⟩ := I.list (SqL.of ha2)
          cases (Option.some.inj (show some false = some b from h))
          exact ⟨RcAt.tuple_list pl pl2.isList hu0, EqAt.tuple_list pl pl2.isList hu0, RcNeAt.tuple_list pl pl2.isList hu0⟩
        | dic _ _ => exact (nonB (b := b) h).elim
        | frl _ => exact (nonB (b := b) h).elim
        | non => cases (Option.some.inj (show some false = some b from h)); exact (rc_ts (d := .non) rfl r2 q2 pl hu0).1
        | bl x => cases (Option.some.inj (show some false = some b from h)); exact (rc_ts (d := .bl x) rfl r2 q2 pl hu0).1
        | int x => cases (Option.some.inj (show some false = some b from h)); exact (rc_ts (d := .int x) rfl r2 q2 pl hu0).1
        | str x => cases (Option.some.inj (show some false = some b from h)); exact (rc_ts (d := .str x) rfl r2 q2 pl hu0).1
      | dic _ _ => cases d2 <;> exact (nonB (b := b) h).elim
      | frl xs =>
        cases d2 with
        | lst ys =>
          obtain ⟨a, vs, e1, ha, _, _, rs⟩ := r1
          have q1 : u1 = Value.ref a := by rw [e1] at q1; exact q1
          rw [q1]
          obtain ⟨a2, vs2, L2', e2, ha2, _, rs2⟩ := r2
          have q2 : u2 = Value.ref a2 := by rw [e2] at q2; exact q2
          rw [q2]
          exact rc_lists I hu0 (fun d1 d2 v1 v2 L1 L2 u1 u2 b e r1 r2 q1 q2 => (ih A.in1 d1 d2 v1 v2 L1 L2 u1 u2 b hu1 e r1 r2 q1 q2).2.1) ha.sq rs (SqL.of ha2) rs2 h fun z => same a e1 (by rw [z]; exact e2)
        | tup ys => exact (nonB (b := b) h).elim
        | dic _ _ => exact (nonB (b := b) h).elim
        | frl _ => exact (nonB (b := b) h).elim
        | non => exact (nonB (b := b) h).elim
        | bl x => exact (nonB (b := b) h).elim
        | int x => exact (nonB (b := b) h).elim
        | str x => exact (nonB (b := b) h).elim
      | _ => exact absurd rfl s1
end L2
set_option maxRecDepth 100000
set_option maxHeartbeats 4000000
namespace L2
open PySem PySem.Spec PyProof.Rows
theorem imms_nil {K : PySem.W.Frag} {H : Hp} {ds : List D} {vs : List V} {L : List Addr} (r : Reps K H ds vs L) (h : D.imms ds = true) : Reps K H ds vs [] := by
  have := Reps.imm ds vs L r h
  subst this
  exact r
theorem new_lst {K : PySem.W.Frag} {H : Hp} {ds : List D} {vs : List V} {p : Addr} {Q : VK} (r : Reps K H ds vs []) (hp : H p = none) (q : ∀ v H' L, Same H H' -> Rep K H' (.lst ds) v L -> L.Nodup -> (∀ a ∈ L, H a = none) -> Q v H') : Q (.ref p) (upd H p (.lst vs)) :=
  q _ _ [p] (Same.new hp) ⟨p, vs, [], rfl, upd_same, rfl, r.same (Same.new hp)⟩ (by simp) (fun a ha => by rw [List.mem_singleton.mp ha]; exact hp)
noncomputable def addD : D -> D -> R D
  | .int i, .int j => .ok (.int (i + j))
  | .str x, .str y => if x.length + y.length <= sizeLine then .ok (.str (x ++ y)) else .bad
  | .lst xs, .lst ys => if D.imms xs = true /\ D.imms ys = true /\ xs.length + ys.length <= sizeLine then .ok (.lst (xs ++ ys)) else .bad
  | .tup xs, .tup ys => if D.imms xs = true /\ D.imms ys = true /\ xs ≠ [] /\ xs.length + ys.length <= sizeLine then .ok (.tup (xs ++ ys)) else .bad
  | _, _ => .bad
noncomputable def rAddA (K : PySem.W.Frag) : R2 := fun x y H Q => (∃ i j, x = .int i /\ y = .int j /\ Q (.int (i + j)) H) \/ (∃ i j, x = .str i /\ y = .str j /\ i.length + j.length <= sizeLine /\ Q (.str (i ++ j)) H) \/ rCat x y H Q \/ rCatT K x y H Q
theorem op_addA {X : Cx} : OpR X (binaryOp .Add) (rAddA X.K) := (OpR.or op_add (OpR.or op_add_str (OpR.or op_cat op_catT)))
theorem B_add {K : PySem.W.Frag} : OpB K (rAddA K) addD := by
  rintro H x y dx dy Lx Ly Q rx ry ⟨d, hg, q⟩
  unfold addD at hg
  split at hg
  · cases hg
    exact .inl ⟨_, _, rx.1, ry.1, q _ H [] (Same.refl H) ⟨rfl, rfl⟩ (by simp) (fun a ha => nomatch ha)⟩
  · split at hg
    · rename_i hz
      cases hg
      exact .inr (.inl ⟨_, _, rx.1, ry.1, hz, q _ H [] (Same.refl H) ⟨rfl, rfl⟩ (by simp) (fun a ha => nomatch ha)⟩)
    · cases hg
  · rename_i xs ys
    split at hg
    · rename_i hz
      cases hg
      obtain ⟨a, vs, L1, rfl, ha, _, rs⟩ := rx
      obtain ⟨b, ws, L2, rfl, hb, _, qs⟩ := ry
      refine .inr (.inr (.inl ⟨a, b, vs, ws, rfl, rfl, ha, hb, by rw [rs.length, qs.length]; exact hz.2.2, fun p hp => new_lst (ds := xs ++ ys) ?_ hp q⟩))
      exact Reps.append (imms_nil rs hz.1) (imms_nil qs hz.2.1)
    · cases hg
  · rename_i xs ys
    split at hg
    · rename_i hz
      cases hg
      obtain ⟨a, vs, rfl, ha, rs⟩ := rx
      obtain ⟨b, ws, rfl, hb, qs⟩ := ry
      have hne : vs ≠ [] := fun z => hz.2.2.1 (by have := rs.length; rw [z] at this; exact List.length_eq_zero_iff.mp this.symm)
      have rr := Reps.append (imms_nil rs hz.1) (imms_nil qs hz.2.1)
      refine .inr (.inr (.inr ⟨a, b, vs, ws, rfl, rfl, ha, hb, hne, by rw [rs.length, qs.length]; exact hz.2.2.2, fun z => ?_, fun _ p hp => ?_⟩))
      · subst z
        rw [List.append_nil] at rr
        exact q _ H [] (Same.refl H) ⟨a, vs, rfl, ha, rr⟩ (by simp) (fun a ha => nomatch ha)
      · exact q _ _ [] (Same.new hp) ⟨p, vs ++ ws, rfl, SqT.of upd_same, rr.same (Same.new hp)⟩ (by simp) (fun a ha => nomatch ha)
    · cases hg
  · cases hg
theorem N_add : NoErr addD := fun x y n h => by
  unfold addD at h
  split at h
  · cases h
  · split at h <;> cases h
  · split at h <;> cases h
  · split at h <;> cases h
  · cases h
noncomputable def intD (C : Int -> Int -> Bool) (g : Int -> Int -> D) : D -> D -> R D
  | .int i, .int j => if C i j = true then .ok (g i j) else .bad
  | _, _ => .bad
theorem N_int {C : Int -> Int -> Bool} {g : Int -> Int -> D} : NoErr (intD C g) := fun x y n h => by
  unfold intD at h
  split at h
  · split at h <;> cases h
  · cases h
noncomputable def VofS : D -> V
  | .int i => .int i
  | .bl b => .bl b
  | .str x => .str x
  | _ => .non
theorem VofS_rep {K : PySem.W.Frag} {H : Hp} : ∀ {d : D}, d.isS = true -> Rep K H d (VofS d) []
  | .non, _ => ⟨rfl, rfl⟩
  | .bl _, _ => ⟨rfl, rfl⟩
  | .int _, _ => ⟨rfl, rfl⟩
  | .str _, _ => ⟨rfl, rfl⟩
  | .tup _, h => nomatch h
  | .lst _, h => nomatch h
  | .dic _ _, h => nomatch h
  | .frl _, h => nomatch h
theorem B_int {K : PySem.W.Frag} {C : Int -> Int -> Bool} {g : Int -> Int -> D} {P : Int -> Int -> Prop} {gv : Int -> Int -> V} (hP : ∀ i j, C i j = true -> P i j) (hs : ∀ i j, (g i j).isS = true) (hv : ∀ i j, VofS (g i j) = gv i j) : OpB K (rI P gv) (intD C g) := by
  rintro H x y dx dy Lx Ly Q rx ry ⟨d, hg, q⟩
  unfold intD at hg
  split at hg
  · split at hg
    · rename_i i j hz
      cases hg
      refine ⟨i, j, rx.1, ry.1, hP i j hz, ?_⟩
      rw [<- hv]
      exact q _ H [] (Same.refl H) (VofS_rep (hs i j)) (by simp) (fun a ha => nomatch ha)
    · cases hg
  · cases hg
theorem B_int0 {K : PySem.W.Frag} {g : Int -> Int -> D} {gv : Int -> Int -> V} (hs : ∀ i j, (g i j).isS = true) (hv : ∀ i j, VofS (g i j) = gv i j) : OpB K (rI0 gv) (intD (fun _ _ => true) g) := by
  rintro H x y dx dy Lx Ly Q rx ry ⟨d, hg, q⟩
  unfold intD at hg
  split at hg
  · rw [if_pos rfl] at hg
    rename_i i j
    cases hg
    refine ⟨i, j, rx.1, ry.1, ?_⟩
    rw [<- hv]
    exact q _ H [] (Same.refl H) (VofS_rep (hs i j)) (by simp) (fun a ha => nomatch ha)
  · cases hg
noncomputable abbrev subD : D -> D -> R D := intD (fun _ _ => true) fun i j => .int (i - j)
noncomputable abbrev fdivD : D -> D -> R D := intD (fun _ j => decide (0 < j) && decide (j < 1073741824)) fun i j => .int (i / j)
noncomputable abbrev modD : D -> D -> R D := intD (fun _ j => decide (0 < j)) fun i j => .int (i % j)
noncomputable abbrev ltD : D -> D -> R D := intD (fun _ _ => true) fun i j => .bl (decide (i < j))
noncomputable abbrev leD : D -> D -> R D := intD (fun _ _ => true) fun i j => .bl (decide (i <= j))
noncomputable abbrev gtD : D -> D -> R D := intD (fun _ _ => true) fun i j => .bl (decide (j < i))
theorem B_sub {K : PySem.W.Frag} : OpB K (rI0 fun i j => .int (i - j)) subD := B_int0 (fun _ _ => rfl) fun _ _ => rfl
theorem B_fdiv {K : PySem.W.Frag} : OpB K (rI CDiv fun i j => .int (i / j)) fdivD := B_int (fun i j h => by simp only [Bool.and_eq_true, decide_eq_true_eq] at h; exact h) (fun _ _ => rfl) fun _ _ => rfl
theorem B_mod {K : PySem.W.Frag} : OpB K (rI (fun _ j => 0 < j) fun i j => .int (i % j)) modD := B_int (fun i j h => by simpa using h) (fun _ _ => rfl) fun _ _ => rfl
theorem B_lt {K : PySem.W.Frag} : OpB K (rI0 fun i j => .bl (decide (i < j))) ltD := B_int0 (fun _ _ => rfl) fun _ _ => rfl
theorem B_le {K : PySem.W.Frag} : OpB K (rI0 fun i j => .bl (decide (i <= j))) leD := B_int0 (fun _ _ => rfl) fun _ _ => rfl
theorem B_gt {K : PySem.W.Frag} : OpB K (rI0 fun i j => .bl (decide (j < i))) gtD := B_int0 (fun _ _ => rfl) fun _ _ => rfl
noncomputable def mulD : D -> D -> R D
  | .int i, .int j => if ((decide (-(2 ^ 64) < i) && decide (i < 2 ^ 64)) || (decide (-(2 ^ 64) < j) && decide (j < 2 ^ 64))) = true then .ok (.int (i * j)) else .bad
  | .lst xs, .int k => if D.imms xs = true /\ -(2 ^ 63) <= k /\ k < 2 ^ 63 /\ xs.length * k.toNat <= sizeLine then .ok (.lst (List.replicate k.toNat xs).flatten) else .bad
  | _, _ => .bad
theorem N_mul : NoErr mulD := fun x y n h => by
  unfold mulD at h
  split at h
  · split at h <;> cases h
  · split at h <;> cases h
  · cases h
theorem op_mulA {X : Cx} : OpR X (binaryOp .Mult) (fun x y H Q => rI CMul (fun i j => .int (i * j)) x y H Q \/ rRep x y H Q) := OpR.or op_mul op_rep
theorem Reps.rep {K : PySem.W.Frag} {H : Hp} {ds : List D} {vs : List V} (r : Reps K H ds vs []) : ∀ k : Nat, Reps K H (List.replicate k ds).flatten (List.replicate k vs).flatten []
  | 0 => by simpa using Reps.nil
  | k + 1 => by
    rw [List.replicate_succ, List.replicate_succ, List.flatten_cons, List.flatten_cons]
    exact Reps.append r (Reps.rep r k)
theorem B_mul {K : PySem.W.Frag} : OpB K (fun x y H Q => rI CMul (fun i j => .int (i * j)) x y H Q \/ rRep x y H Q) mulD := by
  rintro H x y dx dy Lx Ly Q rx ry ⟨d, hg, q⟩
  unfold mulD at hg
  split at hg
  · split at hg
    · rename_i i j hz
      cases hg
      refine .inl ⟨i, j, rx.1, ry.1, ?_, q _ H [] (Same.refl H) ⟨rfl, rfl⟩ (by simp) (fun a ha => nomatch ha)⟩
      simpa [CMul] using hz
    · cases hg
  · split at hg
    · rename_i xs k hz
      cases hg
      obtain ⟨a, vs, L1, rfl, ha, _, rs⟩ := rx
      exact .inr ⟨a, k, vs, rfl, ry.1, ha, hz.2.1, hz.2.2.1, by rw [rs.length]; exact hz.2.2.2, fun p hp => new_lst (Reps.rep (imms_nil rs hz.1) _) hp q⟩
    · cases hg
  · cases hg
noncomputable def rEqA (K : PySem.W.Frag) (neg : Bool) : R2 := fun x y H Q => ∃ dx dy Lx Ly b, Rep K H dx x Lx /\ Rep K H dy y Ly /\ eqF 12 dx dy = some b /\ Q (.bl (if neg = true then !b else b)) H
theorem op_eqA {X : Cx} (hu : X.A.units + 12 < cLine) : OpR X (compareOp .Eq) (rEqA X.K false) := by
  rintro pins s σ H x y v u Q I rx ry ⟨dx, dy, Lx, Ly, b, r1, r2, he, q⟩
  exact (rc_eq I 12 X.A dx dy x y Lx Ly v u b hu he r1 r2 rx ry).1 X.prog X.w X.xe _ ⟨.bl b, H, I, rfl, q⟩
theorem op_neA {X : Cx} (hu : X.A.units + 12 < cLine) : OpR X (compareOp .NotEq) (rEqA X.K true) := by
  rintro pins s σ H x y v u Q I rx ry ⟨dx, dy, Lx, Ly, b, r1, r2, he, q⟩
  exact (rc_eq I 12 X.A dx dy x y Lx Ly v u b hu he r1 r2 rx ry).2.2 X.prog X.w X.xe _ ⟨.bl (!b), H, I, rfl, q⟩
noncomputable def lookD : List Key -> List D -> Key -> Option D
  | k :: ks, d :: ds, j => if k = j then some d else lookD ks ds j
  | _, _, _ => none
noncomputable def hitsD (js : List Key) (ys : List D) : List Key -> List D -> Option Bool
  | k :: ks, x :: xs => match lookD js ys k with
    | none => some false
    | some y => if (x.isS && y.isS) = true then (hitsD js ys ks xs).map (eqS x y && ·) else none
  | _, _ => some true
theorem look_some {K : PySem.W.Frag} {H : Hp} : ∀ {kvs : List (Key × V)} {ds : List D} {L : List Addr} {k : Key} {d : D}, Reps K H ds (kvs.map (·.2)) L -> lookD (kvs.map (·.1)) ds k = some d -> ∃ v L1, valV kvs k = some v /\ Rep K H d v L1 /\ List.Sublist L1 L
  | [], ds, _, k, d, r, h => by cases ds <;> cases h
  | p :: kvs, [], _, k, d, r, h => by obtain ⟨e, _⟩ := r; cases e
  | p :: kvs, d0 :: ds, _, k, d, hq5, h => by
    obtain ⟨v, vs', L1, L2, e1, e2, r1, r2⟩ := hq5
    subst e2
    rw [List.map_cons] at e1
    cases e1
    rw [List.map_cons] at h
    unfold lookD at h
    by_cases hk : p.1 = k
    · rw [if_pos hk] at h
      cases h
      exact ⟨p.2, L1, valV_pos hk, r1, List.sublist_append_left _ _⟩
    · rw [if_neg hk] at h
      obtain ⟨v, L', a, b, c⟩ := look_some r2 h
      exact ⟨v, L', by rw [valV_neg hk]; exact a, b, c.trans (List.sublist_append_right _ _)⟩
theorem look_none {K : PySem.W.Frag} {H : Hp} : ∀ {kvs : List (Key × V)} {ds : List D} {L : List Addr} {k : Key}, Reps K H ds (kvs.map (·.2)) L -> lookD (kvs.map (·.1)) ds k = none -> valV kvs k = none
  | [], ds, _, k, r, h => rfl
  | p :: kvs, [], _, k, r, h => by obtain ⟨e, _⟩ := r; cases e
  | p :: kvs, d0 :: ds, _, k, hq4, h => by
    obtain ⟨v, vs', L1, L2, e1, e2, r1, r2⟩ := hq4
    subst e2
    rw [List.map_cons] at e1
    cases e1
    rw [List.map_cons] at h
    unfold lookD at h
    by_cases hk : p.1 = k
    · rw [if_pos hk] at h; cases h
    · rw [if_neg hk] at h
      rw [valV_neg hk]
      exact look_none r2 h
theorem hits_of {K : PySem.W.Frag} {H : Hp} {A : Around} {s : Shared} {kvb : List (Key × V)} {vb : List (Key × Value)} {ys : List D} {Lb : List Addr} (rb : KV kvb vb) (qb : Reps K H ys (kvb.map (·.2)) Lb) :
    ∀ {kva : List (Key × V)} {va : List (Key × Value)} {xs : List D} {La : List Addr} {b : Bool}, KV kva va -> Reps K H xs (kva.map (·.2)) La -> hitsD (kvb.map (·.1)) ys (kva.map (·.1)) xs = some b -> PySem.W.KeqHits A s vb va b := by
  intro kva va xs La b ra
  induction ra generalizing xs La b with
  | nil =>
    intro r h
    cases xs with
    | nil => cases h; exact .nil
    | cons _ _ => obtain ⟨_, _, _, _, e, _⟩ := r; cases e
  | @cons p q l1 l2 h1 _ ih =>
    intro r h
    cases xs with
    | nil => obtain ⟨e, _⟩ := r; cases e
    | cons x xs =>
      obtain ⟨v, vs', L1, L2, e1, e2, r1, r2⟩ := r
      rw [List.map_cons] at e1
      cases e1
      rw [List.map_cons] at h
      unfold hitsD at h
      have ek : q.1 = p.1 := h1.1.symm
      have hv := rb.val p.1
      cases hl : lookD (kvb.map (·.1)) ys p.1 with
      | none =>
        rw [hl] at h
        cases h
        rw [look_none qb hl] at hv
        have : valueAt vb q.1 = none := by
          rw [ek]
          cases hq : valueAt vb p.1 with
          | none => rfl
          | some y => rw [hq] at hv; exact hv.elim
        exact PySem.W.KeqHits.miss (k := q.1) (v := q.2) this
      | some y =>
        rw [hl] at h
        dsimp only at h
        split at h
        · rename_i hs
          rw [Bool.and_eq_true] at hs
          cases hr : hitsD (kvb.map (·.1)) ys (l1.map (·.1)) xs with
          | none => rw [hr] at h; cases h
          | some b' =>
            rw [hr] at h
            have h : (eqS x y && b') = b := Option.some.inj h
            obtain ⟨w, Lw, g1, g2, _⟩ := look_some qb hl
            rw [g1] at hv
            obtain ⟨yv, hy, ry⟩ := RelO.some_of (v := w) (o := valueAt vb p.1) hv
            rw [<- h]
            exact PySem.W.KeqHits.hit (k := q.1) (v := q.2) (by rw [ek]; exact hy) (rc_scal (A := A) (s := s) hs.1 hs.2 r1 g2 h1.2 ry).2.1 (ih r2 hr)
        · cases h
noncomputable def rEqDc (K : PySem.W.Frag) (neg : Bool) : R2 := fun x y H Q => ∃ a b kva kvb xs ys La Lb r, x = .ref a /\ y = .ref b /\ Rd H a (.dK kva) /\ Rd H b (.dK kvb) /\ Reps K H xs (kva.map (·.2)) La /\ Reps K H ys (kvb.map (·.2)) Lb /\
  (kva.length = kvb.length -> hitsD (kvb.map (·.1)) ys (kva.map (·.1)) xs = some r) /\ Q (.bl (if neg = true then !(kva.length == kvb.length && r) else (kva.length == kvb.length && r))) H
theorem op_eqDc {X : Cx} (hu : X.A.units < cLine) : OpR X (compareOp .Eq) (rEqDc X.K false) := by
  rintro pins s σ H x y v u Q I rx ry ⟨a, b, kva, kvb, xs, ys, La, Lb, r, e1, e2, ha, hb, qa, qb, hh, q⟩
  subst e1 e2
  obtain rfl : v = Value.ref a := rx
  obtain rfl : u = Value.ref b := ry
  obtain ⟨_, da, va, ra, oa⟩ := dk_rd I.hok ha
  obtain ⟨_, db, vb, rb, ob⟩ := dk_rd I.hok hb
  have l1 : va.length = kva.length := ra.length.symm
  have l2 : vb.length = kvb.length := rb.length.symm
  refine PySem.W.keq_eq (r := r) da db oa ob hu (fun e => hits_of rb qb ra qa (hh (by omega))) ?_
  rw [l1, l2]
  exact ⟨.bl _, H, I, rfl, q⟩
theorem op_neDc {X : Cx} (hu : X.A.units < cLine) : OpR X (compareOp .NotEq) (rEqDc X.K true) := by
  rintro pins s σ H x y v u Q I rx ry ⟨a, b, kva, kvb, xs, ys, La, Lb, r, e1, e2, ha, hb, qa, qb, hh, q⟩
  subst e1 e2
  obtain rfl : v = Value.ref a := rx
  obtain rfl : u = Value.ref b := ry
  obtain ⟨_, da, va, ra, oa⟩ := dk_rd I.hok ha
  obtain ⟨_, db, vb, rb, ob⟩ := dk_rd I.hok hb
  have l1 : va.length = kva.length := ra.length.symm
  have l2 : vb.length = kvb.length := rb.length.symm
  refine PySem.W.keq_ne (r := r) da db oa ob hu (fun e => hits_of rb qb ra qa (hh (by omega))) ?_
  rw [l1, l2]
  exact ⟨.bl _, H, I, rfl, q⟩
noncomputable def eqDic (ks : List Key) (xs : List D) (js : List Key) (ys : List D) : Option Bool := if ks.length = js.length then hitsD js ys ks xs else some false
noncomputable def eqR (neg : Bool) : D -> D -> R D
  | .dic ks xs, .dic js ys => match eqDic ks xs js ys with
    | some b => .ok (.bl (if neg = true then !b else b))
    | none => .bad
  | x, y => match eqF 12 x y with
    | some b => .ok (.bl (if neg = true then !b else b))
    | none => .bad
theorem N_eq {neg : Bool} : NoErr (eqR neg) := fun x y n h => by
  unfold eqR at h
  split at h
  · split at h <;> cases h
  · split at h <;> cases h
theorem B_eq {K : PySem.W.Frag} {neg : Bool} : OpB K (fun x y H Q => rEqA K neg x y H Q \/ rEqDc K neg x y H Q) (eqR neg) := by
  rintro H x y dx dy Lx Ly Q rx ry ⟨d, hg, q⟩
  unfold eqR at hg
  split at hg
  · rename_i ks xs js ys
    obtain ⟨a, kva, L1, rfl, ha, _, hk, _, rs⟩ := rx
    obtain ⟨b, kvb, L2, rfl, hb, _, hj, _, qs⟩ := ry
    have l1 : ks.length = kva.length := by rw [<- hk, List.length_map]
    have l2 : js.length = kvb.length := by rw [<- hj, List.length_map]
    unfold eqDic at hg
    by_cases hl : ks.length = js.length
    · rw [if_pos hl] at hg
      cases hr : hitsD js ys ks xs with
      | none => rw [hr] at hg; cases hg
      | some r =>
        rw [hr] at hg
        cases hg
        refine .inr ⟨a, b, kva, kvb, xs, ys, _, _, r, rfl, rfl, .inl ha, .inl hb, rs, qs, fun _ => by rw [hk, hj]; exact hr, ?_⟩
        have e : (kva.length == kvb.length && r) = r := by
          have : (kva.length == kvb.length) = true := by simp; omega
          rw [this, Bool.true_and]
        rw [e]
        exact q _ H [] (Same.refl H) ⟨rfl, rfl⟩ (by simp) (fun a ha => nomatch ha)
    · rw [if_neg hl] at hg
      cases hg
      refine .inr ⟨a, b, kva, kvb, xs, ys, _, _, false, rfl, rfl, .inl ha, .inl hb, rs, qs, fun z => absurd z (by omega), ?_⟩
      rw [Bool.and_false]
      exact q _ H [] (Same.refl H) ⟨rfl, rfl⟩ (by simp) (fun a ha => nomatch ha)
  · split at hg
    · rename_i b hb
      cases hg
      exact .inl ⟨dx, dy, Lx, Ly, b, rx, ry, hb, q _ H [] (Same.refl H) ⟨rfl, rfl⟩ (by simp) (fun a ha => nomatch ha)⟩
    · cases hg
theorem op_eqAll {X : Cx} (hu : X.A.units + 12 < cLine) : OpR X (compareOp .Eq) (fun x y H Q => rEqA X.K false x y H Q \/ rEqDc X.K false x y H Q) := OpR.or (op_eqA hu) (op_eqDc (by omega))
theorem op_neAll {X : Cx} (hu : X.A.units + 12 < cLine) : OpR X (compareOp .NotEq) (fun x y H Q => rEqA X.K true x y H Q \/ rEqDc X.K true x y H Q) := OpR.or (op_neA hu) (op_neDc (by omega))
end L2
set_option maxRecDepth 100000
set_option maxHeartbeats 4000000
namespace L2
open PySem PySem.Spec PyProof.Rows
noncomputable def keyOf : D -> Option Key
  | .int i => some (.inl i)
  | .str x => some (.inr x)
  | .non => some .non
  | _ => none
noncomputable def ixD : D -> D -> R D
  | .lst ds, .int i => match atI ds i with
    | some d => .ok d
    | none => .bad
  | .tup ds, .int i => match atI ds i with
    | some d => .ok d
    | none => .bad
  | .frl ds, .int i => match atI ds i with
    | some d => .ok d
    | none => .bad
  | .str x, .int i => if x.length <= sizeLine then (match atI x.cps.toList i with
    | some c => .ok (.str ⟨#[c]⟩)
    | none => .bad) else .bad
  | .dic ks ds, k => match keyOf k with
    | some k => (match lookD ks ds k with
      | some d => .ok d
      | none => .bad)
    | none => .bad
  | _, _ => .bad
theorem N_ix : NoErr ixD := fun x y n h => by
  unfold ixD at h
  split at h
  · split at h <;> cases h
  · split at h <;> cases h
  · split at h <;> cases h
  · split at h
    · split at h <;> cases h
    · cases h
  · split at h
    · split at h <;> cases h
    · cases h
  · cases h
theorem keyOf_rep {K : PySem.W.Frag} {H : Hp} {d : D} {v : V} {L : List Addr} {k : Key} (h : keyOf d = some k) (r : Rep K H d v L) : v = kV k := by
  cases d with
  | non => cases h; exact r.1
  | int i => cases h; exact r.1
  | str x => cases h; exact r.1
  | _ => cases h
theorem Reps.atI {K : PySem.W.Frag} {H : Hp} {ds : List D} {vs : List V} {L : List Addr} {i : Int} {d : D} (r : Reps K H ds vs L) (h : L2.atI ds i = some d) : ∃ v L1, L2.atI vs i = some v /\ Rep K H d v L1 /\ List.Sublist L1 L := by
  unfold L2.atI at h ⊢
  rw [r.length]
  cases e : ixN ds.length i with
  | none => rw [e] at h; cases h
  | some j =>
    rw [e] at h
    obtain ⟨v, L1, a, b, c⟩ := r.get h
    exact ⟨v, L1, a, b, c⟩
section
variable {X : Cx} {E : XK} {Γ : List Cl} {e a b : Expr} {es : List Expr} {t ta tb : Tn -> R D} {u : Tn -> R (List D)} {c ca cb : Rc} {pos p p2 : Pos}
theorem RcOk.sub {O : Addr -> Prop} {H : Hp} {L L' : List Addr} (h : RcOk c O H L) (s : List.Sublist L' L) : RcOk c O H L' := by
  cases c with
  | fresh => exact ⟨h.1.sublist s, fun a ha => h.2 a (s.subset ha)⟩
  | shr => exact fun a ha => h a (s.subset ha)
  | bor => trivial
theorem post.bind2 {K : PySem.W.Frag} {O : Addr -> Prop} {H H1 : Hp} {Q Q' : VK} {r : R D} {f : D -> R D} (h : post K E O c H Q (r.bind f)) (s : Same H H1) (hf : ∀ d, r = .ok d -> post K E O c H Q (f d) -> ∀ v H' L, Same H1 H' -> Rep K H' d v L -> RcOk ca O H1 L -> Q' v H') : post K E O ca H1 Q' r := by
  cases r with
  | ok d => exact hf d rfl h
  | err n => exact fun C H' e s' => h C H' e (s.trans s')
  | bad => exact h
theorem ix_seq_of {K : PySem.W.Frag} {H : Hp} {dx dy d : D} {x y : V} {Lx Ly : List Addr} {Q : VK} (hn : ∀ ks ds, dx ≠ .dic ks ds) (h : ixD dx dy = .ok d) (rx : Rep K H dx x Lx) (ry : Rep K H dy y Ly) (q : ∀ v L1, Rep K H d v L1 -> List.Sublist L1 Lx -> Q v H) : rIx K x y H Q := by
  unfold ixD at h
  split at h
  · split at h
    · rename_i hd
      cases h
      obtain ⟨a, vs, L', rfl, ha, e, rs⟩ := rx
      subst e
      obtain ⟨v, L1, g1, g2, g3⟩ := rs.atI hd
      exact .inl ⟨a, vs, _, v, rfl, ry.1, SqL.of ha, g1, q v L1 g2 (g3.trans (List.sublist_cons_self _ _))⟩
    · cases h
  · split at h
    · rename_i hd
      cases h
      obtain ⟨a, vs, rfl, ha, rs⟩ := rx
      obtain ⟨v, L1, g1, g2, g3⟩ := rs.atI hd
      exact .inr (.inl ⟨a, vs, _, v, rfl, ry.1, ha, g1, q v L1 g2 g3⟩)
    · cases h
  · split at h
    · rename_i hd
      cases h
      obtain ⟨a, vs, rfl, ha, e, _, rs⟩ := rx
      subst e
      obtain ⟨v, L1, g1, g2, g3⟩ := rs.atI hd
      exact .inl ⟨a, vs, _, v, rfl, ry.1, ha.sq, g1, q v L1 g2 g3⟩
    · cases h
  · split at h
    · rename_i hz
      split at h
      · rename_i hd
        cases h
        exact .inr (.inr ⟨_, _, _, rx.1, ry.1, hz, hd, q _ [] ⟨rfl, rfl⟩ (List.nil_sublist _)⟩)
      · cases h
    · cases h
  · rename_i ks ds
    exact absurd rfl (hn _ _)
  · cases h
theorem me_ix (hu : X.A.units + 1 < cLine) (ha : ME X E Γ a ta ca) (hb : ME X E Γ b tb cb) (hs : PlainIx b := by exact fun _ _ => rfl) : ME X E Γ (.Subscript a b pos) (eBin ixD ta tb) ca := by
  obtain ⟨te, p, q⟩ := ha
  obtain ⟨te', p', q'⟩ := hb
  refine ⟨fun σ H Q => tOp (rIx X.K) te te' σ H Q \/ tDGet te te' σ H Q, fun pins s σ H Q I z => ?_, fun O σ H τ Q ok h => ?_⟩
  · rcases z with z | z
    · exact pe_ix ix_seq p p' hs pins s σ H Q I z
    · exact pe_dget hu p p' hs pins s σ H Q I z
  · unfold eBin at h
    by_cases hd : ∃ ks ds, ta τ = .ok (.dic ks ds)
    · obtain ⟨ks, ds, hd⟩ := hd
      refine .inr (q O σ H τ _ ok (post.bind h fun dx hx h x H1 Lx s1 rx kx => ?_))
      rw [hd] at hx
      cases hx
      refine q' O σ H1 τ _ (ok.same s1) (post.bind2 h s1 fun dy _ h y H2 Ly s2 ry _ => ?_)
      have h : post X.K E O ca H Q (match keyOf dy with
        | some k => (match lookD ks ds k with
          | some d => .ok d
          | none => .bad)
        | none => .bad) := h
      cases hk : keyOf dy with
      | none => rw [hk] at h; exact h.elim
      | some k =>
        rw [hk] at h
        dsimp only at h
        cases hl : lookD ks ds k with
        | none => rw [hl] at h; exact h.elim
        | some d =>
          rw [hl] at h
          obtain ⟨ad, kvs, L', rfl, had, e2, hks, _, rs⟩ := rx
          subst e2
          rw [<- hks] at hl
          obtain ⟨v, L1, g1, g2, g3⟩ := look_some rs hl
          refine ⟨ad, v, rfl, ?_, h v H2 L1 (s1.trans s2) (g2.same s2) (kx.sub (g3.trans (List.sublist_cons_self _ _)))⟩
          rw [keyOf_rep hk ry, <- g1]
          exact DGet.k (s2 _ _ had)
    · refine .inl (q O σ H τ _ ok (post.bind h fun dx hx h x H1 Lx s1 rx kx => q' O σ H1 τ _ (ok.same s1) (post.bind2 h s1 fun dy _ h y H2 Ly s2 ry _ => ?_)))
      cases hg : ixD dx dy with
      | ok d =>
        rw [hg] at h
        exact ix_seq_of (fun ks ds z => hd ⟨ks, ds, by rw [hx, z]⟩) hg (rx.same s2) ry fun v L1 g1 g2 => h v H2 L1 (s1.trans s2) g1 (kx.sub g2)
      | err n => exact absurd hg (N_ix _ _ _)
      | bad => rw [hg] at h; exact h.elim
end
section
variable {X : Cx}
noncomputable def lenD : List D -> R D
  | [.lst ds] => .ok (.int ds.length)
  | [.tup ds] => .ok (.int ds.length)
  | [.frl ds] => .ok (.int ds.length)
  | [.str x] => if x.length <= sizeLine then .ok (.int x.length) else .bad
  | [.dic ks _] => .ok (.int ks.length)
  | _ => .bad
theorem N_len : NoErrL lenD := fun ds n h => by
  unfold lenD at h
  split at h
  · cases h
  · cases h
  · cases h
  · split at h <;> cases h
  · cases h
  · cases h
theorem call_lenA : CallR X (.builtin "len") (fun xs H Q => (∃ p ys, xs = [.ref p] /\ (SqL X.K H p ys \/ SqT X.K H p ys) /\ Q (.int ys.length) H) \/ (∃ z, xs = [.str z] /\ z.length <= sizeLine /\ Q (.int z.length) H) \/ ∃ a kvs, xs = [V.ref a] /\ H a = some (.dK kvs) /\ Q (.int kvs.length) H) :=
  CallR.or call_len_seq (CallR.or call_len_str call_lenD)
theorem reps1 {K : PySem.W.Frag} {H : Hp} {d : D} {xs : List V} {L : List Addr} (r : Reps K H [d] xs L) : ∃ v, xs = [v] /\ Rep K H d v L := by
  obtain ⟨v, vs', L1, L2, e1, e2, r1, r2⟩ := r
  obtain ⟨rfl, rfl⟩ := r2
  rw [List.append_nil] at e2
  subst e2
  exact ⟨v, e1, r1⟩
theorem reps2 {K : PySem.W.Frag} {H : Hp} {d d' : D} {xs : List V} {L : List Addr} (r : Reps K H [d, d'] xs L) : ∃ v v' L1 L2, xs = [v, v'] /\ L = L1 ++ L2 /\ Rep K H d v L1 /\ Rep K H d' v' L2 := by
  obtain ⟨v, vs', L1, L2, e1, e2, r1, r2⟩ := r
  obtain ⟨v', rfl, r3⟩ := reps1 r2
  exact ⟨v, v', L1, L2, e1, e2, r1, r3⟩
theorem B_len {K : PySem.W.Frag} : ClB K (fun xs H Q => (∃ p ys, xs = [.ref p] /\ (SqL K H p ys \/ SqT K H p ys) /\ Q (.int ys.length) H) \/ (∃ z, xs = [.str z] /\ z.length <= sizeLine /\ Q (.int z.length) H) \/ ∃ a kvs, xs = [V.ref a] /\ H a = some (.dK kvs) /\ Q (.int kvs.length) H) lenD := by
  rintro H xs ds L Q r ⟨d, hg, q⟩
  have fin : ∀ n : Int, d = .int n -> Q (.int n) H := fun n e => q _ H [] (Same.refl H) (e ▸ ⟨rfl, rfl⟩) (by simp) (fun a ha => nomatch ha)
  unfold lenD at hg
  split at hg
  · cases hg
    obtain ⟨v, rfl, a, vs, L', rfl, ha, _, rs⟩ := reps1 r
    exact .inl ⟨a, vs, rfl, .inl (SqL.of ha), fin _ (by rw [rs.length])⟩
  · cases hg
    obtain ⟨v, rfl, a, vs, rfl, ha, rs⟩ := reps1 r
    exact .inl ⟨a, vs, rfl, .inr ha, fin _ (by rw [rs.length])⟩
  · cases hg
    obtain ⟨v, rfl, a, vs, rfl, ha, _, _, rs⟩ := reps1 r
    exact .inl ⟨a, vs, rfl, .inl ha.sq, fin _ (by rw [rs.length])⟩
  · split at hg
    · rename_i hz
      cases hg
      obtain ⟨v, rfl, rfl, _⟩ := reps1 r
      exact .inr (.inl ⟨_, rfl, hz, fin _ rfl⟩)
    · cases hg
  · cases hg
    obtain ⟨v, rfl, a, kvs, L', rfl, ha, _, hk, _⟩ := reps1 r
    exact .inr (.inr ⟨a, kvs, rfl, ha, fin _ (by rw [<- hk, List.length_map])⟩)
  · cases hg
noncomputable def intsOf : List D -> Option (List Int)
  | [] => some []
  | .int i :: ds => (intsOf ds).map (i :: ·)
  | _ => none
theorem intsOf_vals {K : PySem.W.Frag} {H : Hp} : ∀ {ds : List D} {vs : List V} {L : List Addr} {ns : List Int}, Reps K H ds vs L -> intsOf ds = some ns -> vs = ns.map V.int
  | [], _, _, ns, hq4, h => by
    obtain ⟨e, _⟩ := hq4
    subst e; cases h; rfl
  | .int i :: ds, _, _, ns, hq4, h => by
    obtain ⟨v, vs', L1, L2, e1, _, r1, r2⟩ := hq4
    subst e1
    have h : (intsOf ds).map (i :: ·) = some ns := h
    cases hi : intsOf ds with
    | none => rw [hi] at h; cases h
    | some ms =>
      rw [hi] at h
      cases h
      rw [r1.1, intsOf_vals r2 hi]; rfl
  | .non :: _, _, _, _, _, h => by cases h
  | .bl _ :: _, _, _, _, _, h => by cases h
  | .str _ :: _, _, _, _, _, h => by cases h
  | .tup _ :: _, _, _, _, _, h => by cases h
  | .lst _ :: _, _, _, _, _, h => by cases h
  | .dic _ _ :: _, _, _, _, _, h => by cases h
  | .frl _ :: _, _, _, _, _, h => by cases h
theorem vals_items : ∀ {ns : List Int} {us : List Value}, Vals (ns.map V.int) us -> ∃ xs : List (Int × Tok), us = xs.map (fun p => Value.int p.1 p.2) /\ xs.map (·.1) = ns
  | [], us, r => by cases r; exact ⟨[], rfl, rfl⟩
  | n :: ns, _, r => by
    rw [List.map_cons] at r
    cases r with
    | cons r1 r2 =>
      obtain ⟨t, rfl⟩ := r1
      obtain ⟨xs, rfl, e⟩ := vals_items r2
      exact ⟨(n, t) :: xs, rfl, by simp [e]⟩
noncomputable def sumD : List D -> R D
  | [.lst ds] => match intsOf ds with
    | some ns => .ok (.int ns.sum)
    | none => .bad
  | _ => .bad
theorem N_sum : NoErrL sumD := fun ds n h => by
  unfold sumD at h
  split at h
  · split at h <;> cases h
  · cases h
noncomputable def rSumL (K : PySem.W.Frag) : List V -> Hp -> VK -> Prop := fun xs H Q => ∃ (p : Addr) (ns : List Int), xs = [.ref p] /\ SqL K H p (ns.map V.int) /\ Q (.int ns.sum) H
theorem preSum_numAt (xs : List (Int × Tok)) : preSum (numAt xs.toArray) xs.toArray.size = (xs.map (·.1)).sum := by
  rw [preSum_eq, List.take_of_length_le (by simp)]
theorem call_sumL (hc : X.calm = true) : CallR X (.builtin "sum") (rSumL X.K) := by
  intro pins s σ H xs us Q I r h
  obtain ⟨p, ns, rfl, hs, q⟩ := h
  obtain ⟨u, rfl, ru⟩ := vals1 r
  obtain rfl : u = Value.ref p := ru
  obtain ⟨its, rv, pl, hz⟩ := I.list hs
  obtain ⟨ys, rfl, e⟩ := vals_items rv
  have hl : s.heap.IsList p (intItems ys.toArray) := by
    have := pl.isList
    simpa [intItems] using this
  refine sum_intListG (I.ok.hd hc) hl fun h' tk t' hk => ⟨.int ns.sum, H, I.kept hk, ⟨t', ?_⟩, q⟩
  rw [preSum_numAt, e]
theorem B_sum {K : PySem.W.Frag} : ClB K (rSumL K) sumD := by
  rintro H xs ds L Q r ⟨d, hg, q⟩
  unfold sumD at hg
  split at hg
  · split at hg
    · rename_i ds ns hn
      cases hg
      obtain ⟨v, rfl, a, vs, L', rfl, ha, _, rs⟩ := reps1 r
      exact ⟨a, ns, rfl, by rw [<- intsOf_vals rs hn]; exact SqL.of ha, q _ H [] (Same.refl H) ⟨rfl, rfl⟩ (by simp) (fun a ha => nomatch ha)⟩
    · cases hg
  · cases hg
noncomputable def max2D : List D -> R D
  | [.int i, .int j] => .ok (.int (if j > i then j else i))
  | _ => .bad
theorem N_max2 : NoErrL max2D := fun ds n h => by unfold max2D at h; split at h <;> cases h
theorem B_max2 {K : PySem.W.Frag} : ClB K (fun xs H Q => ∃ i j, xs = [.int i, .int j] /\ Q (.int (if j > i then j else i)) H) max2D := by
  rintro H xs ds L Q r ⟨d, hg, q⟩
  unfold max2D at hg
  split at hg
  · cases hg
    obtain ⟨v, v', L1, L2, rfl, _, ⟨rfl, _⟩, ⟨rfl, _⟩⟩ := reps2 r
    exact ⟨_, _, rfl, q _ H [] (Same.refl H) ⟨rfl, rfl⟩ (by simp) (fun a ha => nomatch ha)⟩
  · cases hg
noncomputable def kindD : D -> String
  | .non => "NoneType"
  | .bl _ => "bool"
  | .int _ => "int"
  | .str _ => "str"
  | .tup _ => "tuple"
  | .lst _ => "list"
  | .frl _ => "list"
  | .dic _ _ => "dict"
theorem kindD_mem (d : D) : kindD d ∈ kinds := by cases d <;> simp [kindD, kinds]
noncomputable def isiB (d : D) (T : String) : Bool := kindD d == T || (kindD d == "bool" && T == "int")
noncomputable def rIsD (K : PySem.W.Frag) : List V -> Hp -> VK -> Prop := fun xs H Q => ∃ x T d L, xs = [x, .ty T] /\ Rep K H d x L /\ T ∈ (["int", "bool", "str", "list", "tuple", "dict"] : List String) /\ Q (.bl (isiB d T)) H
theorem kit_all {K : PySem.W.Frag} {d : D} {U : String} (hU : U ∈ (["int", "bool", "str", "list", "tuple", "dict"] : List String)) : PySem.W.kitOne K (.type (kindD d)) (.type U) = some (isiB d U) := by
  have hT := kindD_mem d
  unfold isiB
  simp only [List.mem_cons, List.not_mem_nil, or_false] at hU
  rcases hU with rfl | rfl | hU
  · rw [kit_int hT]
    simp
  · rw [kit_bool hT]
    have : (kindD d == "bool" && ("bool" : String) == "int") = false := by simp
    rw [this, Bool.or_false]
  · rw [kit_self hT (by simpa using hU)]
    have : (kindD d == "bool" && U == "int") = false := by
      rcases hU with rfl | rfl | rfl | rfl <;> simp
    rw [this, Bool.or_false]
theorem call_isD : CallR X (.builtin "isinstance") (rIsD X.K) := by
  intro pins s σ H xs us Q I r h
  obtain ⟨x, T, d, L, rfl, rd, hT, q⟩ := h
  obtain ⟨u, u2, rfl, rx, rT⟩ := vals2 r
  obtain rfl : u2 = Value.type T := rT
  have hk := kit_all (K := X.K) (d := d) hT
  have fin : ∀ tk, EP X pins σ Q (.bool (isiB d T)) { s with toks := tk } := fun tk => ⟨.bl _, H, I.tok tk, rfl, q⟩
  cases d with
  | non => obtain ⟨rfl, _⟩ := rd; exact isinst_ok I rx .non hk fin
  | bl b => obtain ⟨rfl, _⟩ := rd; exact isinst_ok I rx (.bl b) hk fin
  | int b => obtain ⟨rfl, _⟩ := rd; exact isinst_ok I rx (.int b) hk fin
  | str b => obtain ⟨rfl, _⟩ := rd; exact isinst_ok I rx (.str b) hk fin
  | lst _ => obtain ⟨a, _, _, rfl, e, _⟩ := rd; exact isinst_ok I rx (.lst e) hk fin
  | frl _ =>
    obtain ⟨a, vs, rfl, ha, _⟩ := rd
    obtain rfl : u = Value.ref a := rx
    obtain ⟨its, _, ⟨o, n, h1, h2, _⟩, _⟩ := I.list ha.sq
    exact PySem.W.kia_one PySem.W.kitx_list I.kIn ⟨o, h1, h2⟩ hk (fun z => nomatch z) fin
  | dic _ _ => obtain ⟨a, _, _, rfl, e, _⟩ := rd; exact isinst_ok I rx (.dK e) hk fin
  | tup _ =>
    obtain ⟨a, vs, rfl, ha, _⟩ := rd
    obtain rfl : u = Value.ref a := rx
    obtain ⟨its, _, ⟨o, h1, h2, _⟩, _⟩ := I.tuple ha
    exact PySem.W.kia_one PySem.W.kitx_tuple I.kIn ⟨o, h1, h2⟩ hk (fun z => nomatch z) fin
end
section
variable {X : Cx} {E : XK} {Γ : List Cl} {e c' : Expr} {t : Tn -> R D} {c : Rc} {pos p : Pos}
noncomputable def isiD (T : String) : D -> R D := fun d => .ok (.bl (isiB d T))
theorem me_isi {T : String} (hT : T ∈ (["int", "bool", "str", "list", "tuple", "dict"] : List String)) (hg : Gl X "isinstance") (hm : X.mg "isinstance" = none) (hc : PE X c' (tC (.ty T))) (he : ME X E Γ e t c) (hs : starEach [e, c'] X.env = (false, eval e X.env) :: starEach [c'] X.env := by rfl) (hs2 : starEach [c'] X.env = (false, eval c' X.env) :: starEach [] X.env := by rfl)
    (hpl : (backTo pos (starEach [c'] X.env)).any (·.1) = false := by rfl) : ME X E Γ (.Call (.Name "isinstance" p) [e, c'] [] pos) (eUn (isiD T) t) .fresh := by
  obtain ⟨te, p', q⟩ := he
  refine ⟨_, pe_callB (x := "isinstance") call_isD hg hm Boot.«isinstance» (pa_cons p' (pa_cons hc pa_nil hs2) hs) (by decide) (by decide) hs hpl, fun O σ H τ Q ok h => q O σ H τ _ ok (post.bind h fun d _ h v H1 L s1 r1 _ => ?_)⟩
  exact ⟨v, T, d, L, rfl, r1, hT, h _ H1 [] s1 ⟨rfl, rfl⟩ RcOk.nil⟩
end
end L2
set_option maxRecDepth 100000
set_option maxHeartbeats 4000000
namespace L2
open PySem PySem.Spec PyProof.Rows
noncomputable def zipKV (ks : List Key) (vs : List V) : List (V × V) := (ks.zip vs).map fun kv => (kV kv.1, kv.2)
theorem putK_fresh {kvs : List (Key × V)} {k : Key} {v : V} (h : k ∉ kvs.map (·.1)) : putK kvs k v = kvs ++ [(k, v)] := by
  unfold putK
  rw [if_neg]
  intro z
  rw [List.any_eq_true] at z
  obtain ⟨p, hp, e⟩ := z
  exact h (List.mem_map.mpr ⟨p, hp, by simpa using e⟩)
theorem mergeK_new : ∀ (more kvs : List (Key × V)), ((kvs ++ more).map (·.1)).Nodup -> mergeK kvs more = kvs ++ more
  | [], kvs, _ => by simp [mergeK]
  | p :: r, kvs, h => by
    have hp : p.1 ∉ kvs.map (·.1) := by
      rw [List.map_append, List.map_cons] at h
      obtain ⟨_, _, h3⟩ := List.nodup_append.mp h
      exact fun z => h3 p.1 z p.1 List.mem_cons_self rfl
    show mergeK (putK kvs p.1 p.2) r = _
    rw [putK_fresh hp, mergeK_new r _ (by rw [List.append_assoc]; exact h), List.append_assoc]
    rfl
theorem zip_fst : ∀ (ks : List Key) (vs : List V), vs.length = ks.length -> (ks.zip vs).map (·.1) = ks
  | [], _, _ => rfl
  | k :: ks, [], h => by cases h
  | k :: ks, v :: vs, h => by rw [List.zip_cons_cons, List.map_cons, zip_fst ks vs (by simpa using h)]
theorem zip_snd : ∀ (ks : List Key) (vs : List V), vs.length = ks.length -> (ks.zip vs).map (·.2) = vs
  | [], [], _ => rfl
  | [], _ :: _, h => by cases h
  | k :: ks, [], h => by cases h
  | k :: ks, v :: vs, h => by rw [List.zip_cons_cons, List.map_cons, zip_snd ks vs (by simpa using h)]
section
variable {X : Cx} {E : XK} {Γ : List Cl} {e k v : Expr} {t : Tn -> R D} {u : Tn -> R (List D)} {c ca cb : Rc} {pos p : Pos} {ks : List Key} {keys : List (Option Expr)} {values : List Expr}
noncomputable def MPs (X : Cx) (E : XK) (Γ : List Cl) (pos : Pos) (keys : List (Option Expr)) (values : List Expr) (ks : List Key) (t : Tn -> R (List D)) (c : Rc) : Prop :=
  (∀ τ ds, t τ = .ok ds -> ds.length = ks.length) /\ ∃ trs, PPs X pos keys values trs /\ ∀ O σ H τ (Q : List (V × V) -> Hp -> Prop), EOk X.K Γ O H σ τ -> postL X.K E O c H (fun vs H' => Q (zipKV ks vs) H') (t τ) -> tPairs trs σ H Q
theorem mps_nil : MPs X E Γ pos [] [] [] aNil .fresh := ⟨fun τ ds h => by cases h; rfl, [], pps_nil, fun O σ H τ Q ok h => h [] H [] (Same.refl H) Reps.nil RcOk.nil⟩
theorem mps_cons {key : Key} (hk : PE X k (tC (kV key))) (h : ME X E Γ v t ca) (r : MPs X E Γ pos keys values ks u cb) : MPs X E Γ pos (some k :: keys) (v :: values) (key :: ks) (aCons t u) (Rc.both ca cb) := by
  obtain ⟨te, p1, q1⟩ := h
  obtain ⟨hl, trs, p2, q2⟩ := r
  refine ⟨fun τ ds h => ?_, _, pps_cons hk p1 p2, fun O σ H τ Q ok h => ?_⟩
  · unfold aCons at h
    obtain ⟨d, h1, h⟩ := bind_ok h
    obtain ⟨xs, h2, h⟩ := bind_ok h
    cases h
    rw [List.length_cons, List.length_cons, hl τ xs h2]
  · unfold aCons at h
    refine q1 O σ H τ _ ok ?_
    cases h1 : t τ with
    | ok d =>
      rw [h1, R.ok_bind] at h
      refine fun v H1 L1 s1 r1 k1 => q2 O σ H1 τ _ (ok.same s1) ?_
      cases h2 : u τ with
      | ok xs =>
        rw [h2, R.ok_bind] at h
        exact fun vs H2 L2 s2 r2 k2 => h (v :: vs) H2 (L1 ++ L2) (s1.trans s2) (Reps.cons (r1.same s2) r2) (RcOk.append ok.dom s1 r1 k1 k2)
      | err n => rw [h2] at h; exact fun C H' e s' => h C H' e (s1.trans s')
      | bad => rw [h2] at h; exact h
    | err n => rw [h1] at h; exact h
    | bad => rw [h1] at h; exact h
theorem me_disp (h : MPs X E Γ pos keys values ks u c) (hc : c ≠ .bor) (hnd : ks.Nodup := by decide) (hlk : ks.length <= 15 := by decide) (hall : keys.all (·.isSome) = true := by rfl) (hl : keys.length = values.length := by rfl) (h0 : keys ≠ [] := by simp) (h15 : keys.length <= 15 := by decide) :
    ME X E Γ (.Dict keys values pos) (eL (fun ds => .ok (.dic ks ds)) u) c := by
  obtain ⟨hlen, trs, p, q⟩ := h
  refine ⟨_, pe_disp p hall hl h0 h15, fun O σ H τ Q ok h dd hd => ?_⟩
  have s0 : Same H (upd H dd (.dK [])) := Same.new hd
  have okO : EOk X.K Γ (fun a => O a \/ a = dd) (upd H dd (.dK [])) σ τ := by
    refine ⟨fun a ha => ?_, fun j k e hk => ?_⟩
    · rcases ha with ha | ha
      · exact (ok.same s0).dom a ha
      · rw [ha, upd_same]; simp
    · obtain ⟨v, d, L0, a1, a2, a3, a4⟩ := ok.slot j k e hk
      refine ⟨v, d, L0, a1, a2, a3.same s0, fun z a ha hm => ?_⟩
      rcases hm with hm | hm
      · exact a4 z a ha hm
      · exact a3.there ha (hm ▸ hd)
  refine q _ σ _ τ _ okO ?_
  unfold eL at h
  cases hu : u τ with
  | err n => rw [hu] at h; exact fun C H' e s' => h C H' e (s0.trans s')
  | bad => rw [hu] at h; exact h
  | ok ds =>
    rw [hu, R.ok_bind] at h
    refine fun vs H2 L s2 r k2 => ?_
    have hD2 : H2 dd = some (.dK []) := s2 _ _ upd_same
    have hv : vs.length = ks.length := by rw [r.length, hlen τ ds hu]
    have nD : dd ∉ L := fun hm => by
      cases c with
      | fresh => have := k2.2 dd hm; rw [upd_same] at this; cases this
      | shr => exact k2 dd hm (.inr rfl)
      | bor => exact hc rfl
    refine ⟨hD2, ks.zip vs, rfl, by rw [List.length_zip]; omega, ?_⟩
    have em : mergeK [] (ks.zip vs) = ks.zip vs := by
      have := mergeK_new (ks.zip vs) [] (by rw [List.nil_append, zip_fst ks vs hv]; exact hnd)
      rw [this]; rfl
    rw [em]
    have mu : (∃ vs, H2 dd = some (.lst vs)) \/ ∃ kvs, H2 dd = some (.dK kvs) := .inr ⟨_, hD2⟩
    refine h (.ref dd) _ (dd :: L) ?_ ⟨dd, ks.zip vs, L, rfl, upd_same, rfl, zip_fst ks vs hv, hnd, ?_⟩ ?_
    · exact Same.upd_of (H1 := H) hd (s0.trans s2)
    · rw [zip_snd ks vs hv]
      exact r.upd mu nD
    · cases c with
      | fresh =>
        refine ⟨List.nodup_cons.mpr ⟨nD, k2.1⟩, fun a ha => ?_⟩
        rcases List.mem_cons.mp ha with z | z
        · rw [z]; exact hd
        · exact s0.non (k2.2 a z)
      | shr =>
        intro a ha
        rcases List.mem_cons.mp ha with z | z
        · rw [z]; exact fun w => ok.dom dd w hd
        · exact fun w => k2 a z (.inl w)
      | bor => exact absurd rfl hc
noncomputable def dict1D : List D -> R D
  | [.dic ks ds] => if D.imms ds = true then .ok (.dic ks ds) else .bad
  | _ => .bad
noncomputable def rDict1 : List V -> Hp -> VK -> Prop := fun xs H Q => ∃ a kvs, xs = [.ref a] /\ Rd H a (.dK kvs) /\ ∀ l, H l = none -> Q (.ref l) (upd H l (.dK kvs))
theorem call_dict1 : CallR X (.type "dict") rDict1 := by
  intro pins s σ H xs us Q I r h
  obtain ⟨a, kvs, rfl, hr, q⟩ := h
  obtain ⟨u, rfl, ru⟩ := vals1 r
  obtain rfl : u = Value.ref a := ru
  obtain ⟨z, hd, vs, rel, dd⟩ := dk_rd I.hok hr
  refine kt_call_dict hd dd (by rw [<- rel.length]; exact z) fun h' hm hs => ?_
  have hk : ∀ b o, s.heap.get? b = some o -> h'.get? b = some o := fun b o e => (hs.2 b (Nat.ne_of_lt (Heap.lt_size e))).trans (Heap.get?_push_of_some _ e)
  have hsz : s.heap.objs.size <= s.heap.objs.size := Nat.le_refl _
  refine ⟨.ref s.heap.objs.size, _, I.laid (o := .dK kvs) (t' := s.toks) hk hsz ?_, rfl, q _ (I.hok.fresh hsz)⟩
  refine ⟨z, ?_, vs, rel, hm⟩
  exact beq_eq_false_iff_ne.mpr (Ne.symm (Nat.ne_of_lt I.big))
theorem B_dict1 {K : PySem.W.Frag} : ClB K rDict1 dict1D := by
  rintro H xs ds L Q r ⟨d, hg, q⟩
  unfold dict1D at hg
  split at hg
  · split at hg
    · rename_i hz
      cases hg
      obtain ⟨v, rfl, a, kvs, L', rfl, ha, _, hk, hn, rs⟩ := reps1 r
      refine ⟨a, kvs, rfl, .inl ha, fun l hl => q _ _ [l] (Same.new hl) ⟨l, kvs, [], rfl, upd_same, rfl, hk, hn, (imms_nil rs hz).same (Same.new hl)⟩ (by simp) (fun b hb => by rw [List.mem_singleton.mp hb]; exact hl)⟩
    · cases hg
  · cases hg
end
end L2
set_option maxRecDepth 100000
set_option maxHeartbeats 4000000
namespace L2
open PySem PySem.Spec PyProof.Rows
theorem Room.u12 {k : Nat} {A : Around} (r : Room k A) : A.units + 12 < cLine := by have := r.un; omega
theorem Room.u1 {k : Nat} {A : Around} (r : Room k A) : A.units + 1 < cLine := by have := r.un; omega
noncomputable def compChk (outer : Scope) (N N' : List Str) (fr : List (Option Nat)) (scope : Scope) : Bool :=
  decide (scope.kind = .function) && scope.names.all (fun y => decide (y.2 ≠ .cell)) && scope.names.all (fun y => decide (y.2 ≠ .local) || decide (scope.names.lookup y.1 = some .local)) &&
  scope.names.all (fun y => decide (y.2 ≠ .free) || decide (outer.names.lookup y.1 = some .cell) || decide (outer.names.lookup y.1 = some .free)) && decide (fr.length = N'.length) &&
  (List.range fr.length).all fun j => match fr[j]?, N'[j]? with
    | some (some i), some x => decide (N[i]? = some x) && decide (scope.names.lookup x = some .free) && (decide (outer.names.lookup x = some .cell) || decide (outer.names.lookup x = some .free))
    | _, _ => true
theorem comp_scope {X : Cx} {N' : List Str} {fr : List (Option Nat)} {scope : Scope} (hc : ∀ x, (X.env.scope.names.lookup x = some .cell \/ X.env.scope.names.lookup x = some .free) -> ∃ c, X.env.cells.lookup x = some c) (h : compChk X.env.scope X.N N' fr scope = true) : CompScope X N' fr scope := by
  unfold compChk at h
  simp only [Bool.and_eq_true, decide_eq_true_eq, List.all_eq_true, Bool.or_eq_true] at h
  obtain ⟨⟨⟨⟨⟨h1, h2⟩, h3⟩, h4⟩, h5⟩, h6⟩ := h
  refine ⟨h1, h2, fun y hy e => ?_, fun y hy e => ?_, h5, fun j i x e1 e2 => ?_⟩
  · rcases h3 y hy with z | z
    · exact absurd e z
    · exact z
  · rcases h4 y hy with (z | z) | z
    · exact absurd e z
    · exact hc y.1 (.inl z)
    · exact hc y.1 (.inr z)
  · have hj : j < fr.length := (List.getElem?_eq_some_iff.mp e1).1
    have := h6 j (List.mem_range.mpr hj)
    rw [e1, e2] at this
    simp only [Bool.and_eq_true, decide_eq_true_eq, Bool.or_eq_true] at this
    exact ⟨this.1.1, this.1.2, this.2⟩
theorem cs_def {CX : CXT} {P : Program} {w : World} {K : PySem.W.Frag} {mg : Str -> Option Value} {base : Heap} {N : List Str} {qual : Str} {sc : Scope} {f : Addr} {cd : Value} {A : Around} {outer : List Env} {s : Shared} {H : Hp} {E : XK} {N' : List Str} {fr : List (Option Nat)} {scope : Scope}
    (nf : ∀ y ∈ sc.names, y.2 ≠ .free) (h : compChk sc N N' fr scope = true) : CompScope (cxOf CX P w K mg base N qual sc f cd A outer s H E) N' fr scope :=
  comp_scope (X := cxOf CX P w K mg base N qual sc f cd A outer s H E) (fun x hx => by
    rcases hx with hx | hx
    · exact cell_has hx
    · exact absurd rfl (nf _ (PySem.mem_of_lookup hx))) h
theorem cs_comp {X : Cx} {s₃ : Shared} {H₃ : Hp} {fp : List Addr} {pins : List (Addr × Obj)} {sc : Scope} {N N' : List Str} {fr : List (Option Nat)} {scope : Scope} (nf : ∀ y ∈ sc.names, y.2 ≠ .cell)
    (h : compChk (relabel sc X.env) N N' fr scope = true) : CompScope (compCx X sc N s₃ H₃ fp pins) N' fr scope :=
  comp_scope (X := compCx X sc N s₃ H₃ fp pins) (fun x hx => by
    have hx : (relabel sc X.env).names.lookup x = some .cell \/ (relabel sc X.env).names.lookup x = some .free := hx
    have key : sc.names.lookup x = some .free := by
      rcases hx with h | h
      · obtain ⟨k', e1, e2⟩ := lookup_relabel_of h
        rcases e2 with z | ⟨z, _⟩
        · exact absurd z.symm (nf _ (PySem.mem_of_lookup e1))
        · rw [e1, z]
      · obtain ⟨k', e1, e2⟩ := lookup_relabel_of h
        rcases e2 with z | ⟨_, z⟩
        · rw [e1, <- z]
        · cases z
    exact closL_has (.inl (PySem.mem_of_lookup key))) h
section
variable {X : Cx} {E : XK} {Γ Γ1 Γ' Γl : List Cl} {e : Expr} {t : Tn -> R D} {c : Rc} {pos pos' : Pos}
noncomputable def MGs (X : Cx) (es : List Expr) (is : List Nat) : Prop := ∃ g, PGs X es g /\ ∀ (vs : List V) (σ : St) (H : Hp) (Q : St -> Hp -> Prop), vs.length = is.length -> Q (setAll σ is vs) H -> g vs σ H Q
theorem mgs_nil : MGs X [] [] := ⟨gNil, pgs_nil, fun vs σ H Q hl q => by
  have : vs = [] := List.length_eq_zero_iff.mp hl
  subst this
  exact ⟨rfl, q⟩⟩
theorem mgs_cons {x : Expr} {es : List Expr} {i : Nat} {is : List Nat} (h : PG X x (gName i)) (r : MGs X es is) (hs : (assignEach (x :: es) X.env).map (·.2) = assign x X.env :: (assignEach es X.env).map (·.2) := by rfl) : MGs X (x :: es) (i :: is) := by
  obtain ⟨g, p, q⟩ := r
  refine ⟨_, pgs_cons h p hs, fun vs σ H Q hl k => ?_⟩
  cases vs with
  | nil => cases hl
  | cons v vs => exact ⟨v, vs, rfl, q vs _ H Q (by simpa using hl) k⟩
theorem mg_many {es : List Expr} {k : Nat} {is : List Nat} (hc : X.calm = true) (h : MGs X es is) (hn : (assignEach es X.env).length = is.length := by rfl) (hst : (assignEach es X.env).findIdx? (·.1) = none := by rfl) : MG X (.Tuple es k pos) (.many is) := by
  obtain ⟨g, p, q⟩ := h
  exact ⟨g, pg_tup hc p hn hst, q⟩
theorem mg_one {i : Nat} {x : Expr} (h : PG X x (gName i)) : MG X x (.one i) := h
structure Bl (mg : Str -> Option Value) : Prop where
  isinstance : mg "isinstance" = none
  int : mg "int" = none
  bool : mg "bool" = none
  str : mg "str" = none
  dict : mg "dict" = none
  list : mg "list" = none
  tuple : mg "tuple" = none
  len : mg "len" = none
  sum : mg "sum" = none
  max : mg "max" = none
  min : mg "min" = none
  all : mg "all" = none
  range : mg "range" = none
  enumerate : mg "enumerate" = none
  zip : mg "zip" = none
end
end L2
set_option maxRecDepth 100000
set_option maxHeartbeats 4000000
namespace L2
open PySem PySem.Spec PyProof.Rows
section
variable {X : Cx} {E : XK} {Γ Γ1 Γ' Γl : List Cl} {e : Expr} {t : Tn -> R D} {c : Rc} {pos pos' : Pos}
theorem mn (i : Nat) (k : Cl) {x : Str} (hN : X.N[i]? = some x := by rfl) (hk : Γ[i]? = some k := by rfl) (hd : k ≠ .dead := by decide) (hv : Vis X.env.scope x := by first | exact Or.inl rfl | exact Or.inr (Or.inl rfl) | exact Or.inr (Or.inr rfl)) (hb : (x == ("__debug__" : Str)) = false := by decide) (hcd : (x == ("__classdict__" : Str)) = false := by decide) :
    ME X E Γ (.Name x pos) (eVar i) (Rc.of k) := me_name hN hk hd hv hb hcd
theorem mvn (i : Nat) {x : Str} (hN : X.N[i]? = some x := by rfl) (hk : Γ[i]? = some .own := by rfl) (hv : Vis X.env.scope x := by first | exact Or.inl rfl | exact Or.inr (Or.inl rfl) | exact Or.inr (Or.inr rfl)) (hb : (x == ("__debug__" : Str)) = false := by decide) (hcd : (x == ("__classdict__" : Str)) = false := by decide) :
    MV X E Γ (.Name x pos) (eVar i) (Γ.set i .dead) := mv_name hN hk hv hb hcd
theorem st (i : Nat) {x : Str} (nd : X.N.Nodup) (h : MV X E Γ e t Γ1) (hi : X.N[i]? = some x := by rfl) (hl : i < Γ1.length := by decide) (hx : Loc X.env.scope x := by first | exact Or.inl rfl | exact Or.inr rfl) (hs : swapsWith e (some (.Name x pos')) pos.line X.env = pure false := by rfl) (hf : X.fn x = true \/ X.env.scope.names.lookup x = some .local := by first | exact .inl rfl | exact .inr rfl | assumption) :
    MS X E Γl Γ (.Assign [.Name x pos'] e pos) (sSet i t) (Γ1.set i .own) := ms_set nd hi hl h hx hs hf
theorem stS (i : Nat) {x : Str} (nd : X.N.Nodup) (h : ME X E Γ e t c) (hc : c ≠ .bor := by decide) (hi : X.N[i]? = some x := by rfl) (hl : i < Γ.length := by decide) (hx : Loc X.env.scope x := by first | exact Or.inl rfl | exact Or.inr rfl) (hs : swapsWith e (some (.Name x pos')) pos.line X.env = pure false := by rfl) (hf : X.fn x = true \/ X.env.scope.names.lookup x = some .local := by first | exact .inl rfl | exact .inr rfl | assumption) :
    MS X E Γl Γ (.Assign [.Name x pos'] e pos) (sSet i t) (Γ.set i .shr) := ms_setS nd hi hl h hc hx hs hf
theorem pgn (i : Nat) {x : Str} (nd : X.N.Nodup) (hi : X.N[i]? = some x := by rfl) (hx : Loc X.env.scope x := by first | exact Or.inl rfl | exact Or.inr rfl) (hf : X.fn x = true \/ X.env.scope.names.lookup x = some .local := by first | exact .inl rfl | exact .inr rfl | assumption) : PG X (.Name x pos) (gName i) := pg_name nd hi hx hf
theorem app (i : Nat) {x : Str} {p0 p1 p2 : Pos} (h : MV X E Γ e t Γ1) (hN : X.N[i]? = some x := by rfl) (h0 : Γ[i]? = some .own := by rfl) (hk : Γ1[i]? = some .own := by rfl) (hv : Vis X.env.scope x := by first | exact Or.inl rfl | exact Or.inr (Or.inl rfl) | exact Or.inr (Or.inr rfl)) (hb : (x == ("__debug__" : Str)) = false := by decide) (hcd : (x == ("__classdict__" : Str)) = false := by decide)
    (hbase : attributeBase (.Name x p0) "append" X.env (eval (.Name x p0) X.env) = eval (.Name x p0) X.env := by rfl)
    (hfew : ((backTo p2 (starEach [e] X.env)).all (fun x => !x.1) && (backToKw p2 (keywordEach [] X.env)).all (fun x => x.1.isSome) && decide ([e].length + ([] : List Keyword).length + (if ([] : List Keyword).isEmpty then 0 else 1) < 30)) = true := by rfl)
    (hline : (p1.endLine == p2.line) = true := by rfl) (hs : starEach [e] X.env = (false, eval e X.env) :: starEach [] X.env := by rfl) (hplain : (backTo p2 (starEach [] X.env)).any (·.1) = false := by rfl)
    (hsw : swapsWith (.Call (.Attribute (.Name x p0) "append" p1) [e] [] p2) none pos.line X.env = pure false := by rfl) :
    MS X E Γl Γ (.Expr (.Call (.Attribute (.Name x p0) "append" p1) [e] [] p2) pos) (sApp i t) Γ1 := ms_append hN h0 h hk hv hb hcd hbase hfew hline hs hplain hsw
theorem stC (i : Nat) {x : Str} {N' : List Str} {fr : List (Option Nat)} {scope : Scope} {tg iter elt : Expr} {ifs : List Expr} {it : Tn -> R (List D)} {g : Tgt} {cnd : Tn -> R Bool} {te : Tn -> R D} {ci : Rc} {cpos : Pos} (nd : X.N.Nodup) (hc : X.calm = true) (S : CompScope X N' fr scope) (hi : MI X E Γ tg iter it ci)
    (hg : ∀ s₃ H₃ fp pins, MG (compCx X scope N' s₃ H₃ fp pins) tg g) (ht : ∀ s₃ H₃ fp pins, MTs (compCx X scope N' s₃ H₃ fp pins) noX (clsAll (Cl.ofIt ci) (compC fr Γ) g.slots) ifs cnd)
    (he : ∀ s₃ H₃ fp pins, ME (compCx X scope N' s₃ H₃ fp pins) noX (clsAll (Cl.ofIt ci) (compC fr Γ) g.slots) elt te .fresh) (hd : ∀ j ∈ g.slots, (compC fr Γ)[j]? = some .dead)
    (hix : X.N[i]? = some x := by rfl) (hl : i < Γ.length := by decide) (hx : Loc X.env.scope x := by first | exact Or.inl rfl | exact Or.inr rfl) (hsw : swapsWith (.ListComp elt [⟨tg, iter, ifs, 0⟩] scope cpos) (some (.Name x pos')) pos.line X.env = pure true := by rfl)
    (hs : ∀ x, foldedSetIterable iter X.env x = pure x := by intro _; rfl) (hf : X.fn x = true \/ X.env.scope.names.lookup x = some .local := by first | exact .inl rfl | exact .inr rfl | assumption) :
    MS X E Γl Γ (.Assign [.Name x pos'] (.ListComp elt [⟨tg, iter, ifs, 0⟩] scope cpos) pos) (sSet i (eComp fr it g cnd te)) (Γ.set i .own) := ms_comp hc S hi hg ht he hd nd hix hl hx hsw hs hf
end
end L2
set_option maxRecDepth 100000
set_option maxHeartbeats 4000000
namespace L2
open PySem PySem.Spec PyProof.Rows
section
variable {P : Program} {w : World} {K : PySem.W.Frag} {mg : Str -> Option Value} {base : Heap} {x : Str} {st : Stmt} {N ps : List Str} {k : Nat} {t : Tn -> R Fl} {Γ' : List Cl}
theorem mir_fn {f : Addr} {oc : Value} {od an : Option Addr} {osl : Array (Option Value)} {kV doc pm cdv ct : Value} (lk : K.lookup f = some ⟨oc, od, .func (PySem.W.fnOf x x (defArgs st) (defBody st) (defScope st) .none kV doc pm an cdv ct), osl⟩) (hcd : PySem.W.codeIn K cdv x = true)
    (S : FnScope N ps (defScope st)) (hn : ps.length <= N.length)
    (hbody : ∀ (f : Addr) (cdv : Value) (A : Around) (outer : List Env) (s : Shared) (H : Hp) (E : XK), Room k (A.deeper (envOfC x (defScope st) s.heap.objs.size f cdv)) ->
      MSs (cxOf (cxx P w) P w K mg base N x (defScope st) f cdv A outer s H E) E [] (prmC N.length ps.length) (defBody st) t Γ') :
    FnOk P w K mg base (cxx P w) (k + 1) f (PySem.W.fnOf x x (defArgs st) (defBody st) (defScope st) .none kV doc pm an cdv ct) ps (spM K (runB N.length t) ps.length) := by
  refine fn_of lk hcd S (fun vs H Q E h => h.1) fun A outer s H vs Q E hr h => ?_
  obtain ⟨hl, ds, L, r, h⟩ := h
  obtain ⟨ts, p, q⟩ := hbody f cdv A outer s H E hr
  refine ⟨ts, p, q H (start N vs) H _ _ (hl ▸ SOk.start r (by omega)) ?_⟩
  unfold runB at h
  cases ht : t (ds.map some ++ List.replicate (N.length - ds.length) none) with
  | ok f =>
    rw [ht] at h
    cases f with
    | nx τ' => exact fun σ' H' ok' => h .non H' [] ok'.ext ⟨rfl, rfl⟩ RcOk.nil
    | rt d => exact fun v H' L s r n1 n2 => h v H' L s r ⟨n1, n2⟩
    | bk τ' => exact h.elim
    | ct τ' => exact h.elim
  | err n => rw [ht] at h; exact fun C H' e s => h C H' e s
  | bad => rw [ht] at h; exact h.elim
end
theorem imms_ints : ∀ ns : List Int, D.imms (ns.map D.int) = true
  | [] => rfl
  | n :: ns => by rw [List.map_cons]; show (true && D.imms (ns.map D.int)) = true; rw [imms_ints ns]; rfl
theorem reps_ints {K : PySem.W.Frag} {H : Hp} : ∀ ns : List Int, Reps K H (ns.map D.int) (ns.map V.int) []
  | [] => Reps.nil
  | n :: ns => Reps.cons (L1 := []) ⟨rfl, rfl⟩ (reps_ints ns)
theorem spM_law {K : PySem.W.Frag} {H : Hp} {a : Addr} {ns : List Int} {F : List D -> R D} (hO : Only H) (hS : SqL K H a (ns.map V.int)) (hF : F [.frl (ns.map D.int)] = .ok (.bl true)) : spM K F 1 [.ref a] H (fun v _ => v = .bl true) fun _ _ _ => False := by
  have hs : SqF K H a (ns.map V.int) := by
    rcases hS with (z | z) | z
    · rcases hO a with w | ⟨o, xs, w⟩
      · rw [w] at z; cases z
      · rw [w] at z; cases z
    · exact .inl z
    · exact .inr z
  refine ⟨rfl, [.frl (ns.map D.int)], [], Reps.cons (L1 := []) ⟨a, ns.map V.int, rfl, hs, rfl, imms_ints ns, reps_ints ns⟩ Reps.nil, ?_⟩
  rw [hF]
  exact fun v H' L s r _ => r.1
theorem law_walk {Fm : List D -> R D} {k : Nat} {x : Str} {l : PySem.W.OpenLaw} {q : Program} {loose : List Str} {XP : (Str -> Option Value) -> Heap -> Prop} {YP : World -> Heap -> Prop} {d : DefRec} {K : Params -> PySem.W.Frag} (hF : ∀ ns : List Int, ns.length <= 63 -> Fm [.frl (ns.map D.int)] = .ok (.bl true)) (hr : Room k callerA) (hn : l.most = some 63) (hdf : d.params.defaults = [])
    (hY : ∀ (w : World) (h : Heap), YP w h -> (K w.params).In h)
    (F : ∀ (w : World) (mg : Str -> Option Value) (fa : Addr) (h : Heap), (K w.params).In h -> h.Ns mainGlobals mg -> mg d.name = some (.ref fa) ->
      ∃ fd : FuncData, (∀ (s : Shared) (u : Value), BindsTo s fd ⟨[u], []⟩ [(x, u)]) /\ ∀ base : Heap, (K w.params).In base -> base.Ns mainGlobals mg -> FnOk l.prog w (K w.params) mg base (cxx l.prog w) k fa fd [x] (spM (K w.params) Fm 1)) :
    PySem.W.WalkO q loose XP YP l.row.toRowW d [] (fun f vs => PySem.call f vs) :=
  L2.walk_of (n := 63) (k := k) (x := x) (CX := fun w => cxx l.prog w) (sp := fun w => spM (K w.params) Fm 1) hn (by decide) hdf hr hY F (fun w H a ns hl hO hS => spM_law hO hS (hF ns hl)) fun w H s e s' z => cxx_no z
end L2
set_option maxRecDepth 100000
set_option maxHeartbeats 4000000
namespace L2
open PySem PySem.Spec PyProof.Rows
section
variable {i j : Int} {C : Int -> Int -> Bool} {g : Int -> Int -> D}
theorem ev_add : addD (.int i) (.int j) = .ok (.int (i + j)) := rfl
theorem ev_int : L2.intD C g (.int i) (.int j) = if C i j = true then .ok (g i j) else .bad := rfl
theorem ev_mulr (h1 : -(2 ^ 64) < j) (h2 : j < 2 ^ 64) : mulD (.int i) (.int j) = .ok (.int (i * j)) := by
  have : ((decide (-(2 ^ 64) < i) && decide (i < 2 ^ 64)) || (decide (-(2 ^ 64) < j) && decide (j < 2 ^ 64))) = true := by rw [decide_eq_true h1, decide_eq_true h2]; simp
  exact if_pos this
theorem ev_mull (h1 : -(2 ^ 64) < i) (h2 : i < 2 ^ 64) : mulD (.int i) (.int j) = .ok (.int (i * j)) := by
  have : ((decide (-(2 ^ 64) < i) && decide (i < 2 ^ 64)) || (decide (-(2 ^ 64) < j) && decide (j < 2 ^ 64))) = true := by rw [decide_eq_true h1, decide_eq_true h2]; simp
  exact if_pos this
theorem ev_mulR (h1 : -18446744073709551616 < j) (h2 : j < 18446744073709551616) : mulD (.int i) (.int j) = .ok (.int (i * j)) := ev_mulr (by omega) (by omega)
theorem ev_mulL (h1 : -18446744073709551616 < i) (h2 : i < 18446744073709551616) : mulD (.int i) (.int j) = .ok (.int (i * j)) := ev_mull (by omega) (by omega)
theorem ev_fdiv (h1 : 0 < j) (h2 : j < 1073741824) : fdivD (.int i) (.int j) = .ok (.int (i / j)) := by
  simp [fdivD, ev_int, h1, h2]
theorem ev_mod (h1 : 0 < j) : modD (.int i) (.int j) = .ok (.int (i % j)) := by
  simp [modD, ev_int, h1]
theorem ev_eqi {neg : Bool} : eqR neg (.int i) (.int j) = .ok (.bl (if neg = true then !(i == j) else i == j)) := by
  simp [eqR, eqF, D.isS, eqS]
end
theorem atI_ok {α : Type} {xs : List α} {i : Int} {x : α} (h0 : 0 <= i) (h : xs[i.toNat]? = some x) : atI xs i = some x := by
  have hj : i.toNat < xs.length := (List.getElem?_eq_some_iff.mp h).1
  have := atI_nat h
  rw [Int.toNat_of_nonneg h0] at this
  exact this
theorem ev_ixl {ds : List D} {i : Int} {d : D} (h : atI ds i = some d) : ixD (.lst ds) (.int i) = .ok d := by simp only [ixD, h]
theorem ev_ixf {ds : List D} {i : Int} {d : D} (h : atI ds i = some d) : ixD (.frl ds) (.int i) = .ok d := by simp only [ixD, h]
theorem ev_ixs {x : Str} {i : Int} {c : Nat} (hz : x.length <= sizeLine) (h : atI x.cps.toList i = some c) : ixD (.str x) (.int i) = .ok (.str ⟨#[c]⟩) := by simp only [ixD, h, if_pos hz]
theorem ev_ix0 {a : D} {ds : List D} : ixD (.tup (a :: ds)) (.int 0) = .ok a := by
  have : atI (a :: ds) 0 = some a := atI_nat (j := 0) rfl
  simp only [ixD, this]
theorem ev_ix1 {a b : D} {ds : List D} : ixD (.tup (a :: b :: ds)) (.int 1) = .ok b := by
  have : atI (a :: b :: ds) 1 = some b := atI_nat (j := 1) rfl
  simp only [ixD, this]
theorem ev_ix2 {a b c : D} {ds : List D} : ixD (.tup (a :: b :: c :: ds)) (.int 2) = .ok c := by
  have : atI (a :: b :: c :: ds) 2 = some c := atI_nat (j := 2) rfl
  simp only [ixD, this]
theorem ev_lenl {ds : List D} : lenD [.lst ds] = .ok (.int ds.length) := rfl
theorem ev_lenf {ds : List D} : lenD [.frl ds] = .ok (.int ds.length) := rfl
theorem intsOf_map : ∀ ns : List Int, intsOf (ns.map D.int) = some ns
  | [] => rfl
  | n :: ns => by rw [List.map_cons]; show (intsOf (ns.map D.int)).map (n :: ·) = _; rw [intsOf_map ns]; rfl
theorem ev_sum {ns : List Int} : sumD [.lst (ns.map D.int)] = .ok (.int ns.sum) := by
  simp only [sumD, intsOf_map]
theorem imms_map {α : Type} {f : α -> D} (h : ∀ a, (f a).imm = true) : ∀ xs : List α, D.imms (xs.map f) = true
  | [] => rfl
  | x :: xs => by rw [List.map_cons]; show ((f x).imm && D.imms (xs.map f)) = true; rw [h, imms_map h xs]; rfl
theorem forGo_inv {asg : D -> Tn -> R Tn} {body : Tn -> R Fl} (Iv : Nat -> Tn -> Prop) : ∀ (ds : List D) (k : Nat) (τ : Tn), Iv k τ ->
    (∀ i d τ, ds[i]? = some d -> Iv (k + i) τ -> ∃ τ1 τ2, asg d τ = .ok τ1 /\ (body τ1 = .ok (.nx τ2) \/ body τ1 = .ok (.ct τ2)) /\ Iv (k + i + 1) τ2) -> ∃ τ', forGo asg body ds τ = .ok (.nx τ') /\ Iv (k + ds.length) τ'
  | [], k, τ, h0, _ => ⟨τ, rfl, h0⟩
  | d :: ds, k, τ, h0, hs => by
    obtain ⟨τ1, τ2, e1, e2, h2⟩ := hs 0 d τ rfl h0
    obtain ⟨τ', e3, h3⟩ := forGo_inv Iv ds (k + 1) τ2 (by simpa using h2) fun i d' τ' hd hi => by
      obtain ⟨τ3, τ4, a, b, c⟩ := hs (i + 1) d' τ' (by simpa using hd) (by rw [<- Nat.add_assoc, Nat.add_right_comm]; exact hi)
      have e : k + 1 + i + 1 = k + (i + 1) + 1 := by omega
      exact ⟨τ3, τ4, a, b, e ▸ c⟩
    refine ⟨τ', ?_, by rw [List.length_cons, Nat.add_comm ds.length 1, <- Nat.add_assoc]; exact h3⟩
    unfold forGo
    rw [e1, R.ok_bind]
    rcases e2 with e2 | e2 <;> rw [e2, R.ok_bind] <;> exact e3
theorem compL_enc {α : Type} {enc : α -> D} {f : D -> R (Option D)} {o : α -> Option D} : ∀ {xs : List α}, (∀ x ∈ xs, f (enc x) = .ok (o x)) -> compL f (xs.map enc) = .ok (xs.filterMap o)
  | [], _ => rfl
  | x :: xs, h => by
    rw [List.map_cons]
    unfold compL
    rw [h x List.mem_cons_self, R.ok_bind, compL_enc fun y hy => h y (List.mem_cons_of_mem _ hy), R.ok_bind]
    cases ho : o x with
    | none => simp [List.filterMap_cons, ho]
    | some d => simp [List.filterMap_cons, ho]
theorem compL_rng {f : D -> R (Option D)} {o : Nat -> Option D} {lo : Int} {n : Nat} (h : ∀ i, i < n -> f (.int (lo + i)) = .ok (o i)) : compL f (rng lo n) = .ok ((List.range n).filterMap o) :=
  compL_enc (enc := fun (i : Nat) => .int (lo + i)) fun i hi => h i (List.mem_range.mp hi)
theorem ev_rng1 {j : Int} (h1 : -(2 ^ 62) <= j) (h2 : j < 2 ^ 62) : rng1 [.int j] = .ok (rng 0 j.toNat) := if_pos ⟨h1, h2⟩
theorem ev_rng2 {i j : Int} (h1 : -(2 ^ 62) <= i) (h2 : i < 2 ^ 62) (h3 : -(2 ^ 62) <= j) (h4 : j < 2 ^ 62) : rng2 [.int i, .int j] = .ok (rng i (j - i).toNat) := if_pos ⟨h1, h2, h3, h4⟩
theorem noErr_ok' {α : Type} (a : α) : noErr (R.ok a) = .ok a := rfl
end L2
set_option maxRecDepth 100000
set_option maxHeartbeats 4000000
namespace L2
open PySem PySem.Spec PyProof.Rows
theorem ev_sub {i j : Int} : subD (.int i) (.int j) = .ok (.int (i - j)) := rfl
theorem ev_lt {i j : Int} : ltD (.int i) (.int j) = .ok (.bl (decide (i < j))) := rfl
theorem ev_le {i j : Int} : leD (.int i) (.int j) = .ok (.bl (decide (i <= j))) := rfl
theorem ev_gt {i j : Int} : gtD (.int i) (.int j) = .ok (.bl (decide (j < i))) := rfl
theorem fm_some {α β : Type} (f : α -> β) (xs : List α) : xs.filterMap (fun x => some (f x)) = xs.map f := by
  induction xs with
  | nil => rfl
  | cons x xs ih => simp
theorem fm_if {α β : Type} (p : α -> Bool) (f : α -> β) (xs : List α) : xs.filterMap (fun x => if p x = true then some (f x) else none) = (xs.filter p).map f := by
  induction xs with
  | nil => rfl
  | cons x xs ih =>
    by_cases h : p x = true
    · simp [List.filterMap_cons, h, ih]
    · simp [List.filterMap_cons, h, ih]
theorem eqZip_self {f : D -> D -> Option Bool} : ∀ {ds : List D}, (∀ d ∈ ds, f d d = some true) -> eqZip f ds ds = some true
  | [], _ => rfl
  | d :: ds, h => by
    unfold eqZip
    rw [h d List.mem_cons_self, eqZip_self fun x hx => h x (List.mem_cons_of_mem _ hx)]
    rfl
theorem eqF_int (n : Nat) (i j : Int) : eqF n (.int i) (.int j) = some (i == j) := by cases n <;> simp [eqF, D.isS, eqS]
theorem eqF_lst (n : Nat) {xs : List D} (h : ∀ d ∈ xs, eqF n d d = some true) : eqF (n + 1) (.lst xs) (.lst xs) = some true := by
  show (if xs.length = xs.length then eqZip (eqF n) xs xs else some false) = _
  rw [if_pos rfl, eqZip_self h]
end L2
set_option maxRecDepth 100000
set_option maxHeartbeats 4000000
namespace L2
open PySem PySem.Spec PyProof.Rows
noncomputable def appD (i : Nat) (τ : Tn) (ds : List D) (d : D) : R Fl := if ds.length < sizeLine then .ok (.nx (τ.set i (some (.lst (ds ++ [d]))))) else .bad
noncomputable def appL (i : Nat) (t : Tn -> R D) (τ : Tn) : D -> R Fl
  | .lst ds => (t τ).bind fun d => appD i τ ds d
  | _ => .bad
theorem ev_sApp {i : Nat} {t : Tn -> R D} {τ : Tn} : sApp i t τ = (eVar i τ).bind (appL i t τ) := by
  unfold sApp appL appD
  rfl
theorem ev_appL {i : Nat} {t : Tn -> R D} {τ : Tn} {ds : List D} : appL i t τ (.lst ds) = (t τ).bind fun d => appD i τ ds d := rfl
theorem ev_appD {i : Nat} {τ : Tn} {ds : List D} {d : D} (h : ds.length < 16777216) : appD i τ ds d = .ok (.nx (τ.set i (some (.lst (ds ++ [d]))))) := if_pos (by rw [sizeLine_eq]; exact h)
noncomputable def lstD (ys : List D) : R D := if ys.length <= sizeLine then .ok (.lst ys) else .bad
theorem ev_lstD {ys : List D} (h : ys.length <= 16777216) : lstD ys = .ok (.lst ys) := if_pos (by rw [sizeLine_eq]; exact h)
theorem ev_eComp {fr : List (Option Nat)} {it : Tn -> R (List D)} {g : Tgt} {c : Tn -> R Bool} {e : Tn -> R D} {τ : Tn} : eComp fr it g c e τ = (it τ).bind fun xs => (compL (compF g.asg c e (compT fr τ)) xs).bind lstD := rfl
theorem ev_ctN {τ : Tn} : compT [] τ = [] := rfl
theorem ev_ctO {fr : List (Option Nat)} {τ : Tn} : compT (none :: fr) τ = none :: compT fr τ := rfl
theorem ev_ctS {i : Nat} {fr : List (Option Nat)} {τ : Tn} : compT (some i :: fr) τ = (τ[i]?).join :: compT fr τ := rfl
theorem ev_join {a : Option D} : (some a).join = a := rfl
noncomputable def immD (d : D) : R D := if d.imm = true then .ok d else .bad
theorem ev_eImm {t : Tn -> R D} {τ : Tn} : eImm t τ = (t τ).bind immD := rfl
theorem ev_immI {i : Int} : immD (.int i) = .ok (.int i) := rfl
theorem ev_immS {s : Str} : immD (.str s) = .ok (.str s) := rfl
theorem ev_immT {ds : List D} (h : D.imms ds = true) : immD (.tup ds) = .ok (.tup ds) := if_pos h
theorem ev_imsN : D.imms [] = true := rfl
theorem ev_imsI {i : Int} {ds : List D} : D.imms (.int i :: ds) = D.imms ds := Bool.true_and _
theorem ev_imsS {i : Str} {ds : List D} : D.imms (.str i :: ds) = D.imms ds := Bool.true_and _
noncomputable def goF (asg : D -> Tn -> R Tn) (body : Tn -> R Fl) (ds : List D) : Fl -> R Fl
  | .nx τ2 => forGo asg body ds τ2
  | .ct τ2 => forGo asg body ds τ2
  | .bk τ2 => .ok (.nx τ2)
  | .rt r => .ok (.rt r)
theorem ev_forC {asg : D -> Tn -> R Tn} {body : Tn -> R Fl} {d : D} {ds : List D} {τ : Tn} : forGo asg body (d :: ds) τ = (asg d τ).bind fun τ1 => (body τ1).bind (goF asg body ds) := rfl
theorem ev_goN {asg : D -> Tn -> R Tn} {body : Tn -> R Fl} {ds : List D} {τ : Tn} : goF asg body ds (.nx τ) = forGo asg body ds τ := rfl
theorem ev_goR {asg : D -> Tn -> R Tn} {body : Tn -> R Fl} {ds : List D} {d : D} : goF asg body ds (.rt d) = .ok (.rt d) := rfl
theorem ev_isiI {i : Int} : isiD "int" (.int i) = .ok (.bl true) := rfl
theorem ev_isiB {i : Int} : isiD "bool" (.int i) = .ok (.bl false) := rfl
theorem ev_for {it : Tn -> R (List D)} {g : Tgt} {B : Tn -> R Fl} {τ : Tn} {ds : List D} {f : R Fl} (h1 : it τ = .ok ds) (h2 : forGo g.asg B ds τ = f) : sFor it g B τ = f := by
  unfold sFor
  rw [h1]
  exact h2
end L2
set_option maxRecDepth 100000
set_option maxHeartbeats 4000000
namespace L2
open PySem PySem.Spec PyProof.Rows
noncomputable def min2D : List D -> R D
  | [.int i, .int j] => .ok (.int (if j < i then j else i))
  | _ => .bad
theorem N_min2 : NoErrL min2D := fun ds n h => by unfold min2D at h; split at h <;> cases h
theorem B_min2 {K : PySem.W.Frag} : ClB K (fun xs H Q => ∃ i j, xs = [.int i, .int j] /\ Q (.int (if j < i then j else i)) H) min2D := by
  rintro H xs ds L Q r ⟨d, hg, q⟩
  unfold min2D at hg
  split at hg
  · cases hg
    obtain ⟨v, v', L1, L2, rfl, _, ⟨rfl, _⟩, ⟨rfl, _⟩⟩ := reps2 r
    exact ⟨_, _, rfl, q _ H [] (Same.refl H) ⟨rfl, rfl⟩ (by simp) (fun a ha => nomatch ha)⟩
  · cases hg
section
variable {X : Cx} {E : XK} {Γ : List Cl} {e : Expr} {t : Tn -> R D} {c : Rc} {pos p2 : Pos}
end
end L2
set_option maxRecDepth 100000
set_option maxHeartbeats 4000000
namespace L2
open PySem PySem.Spec PyProof.Rows
noncomputable def bestV (lt : Int -> Int -> Bool) (f : Nat -> Int) : Nat -> Int
  | 0 => f 0
  | k + 1 => if lt (f (k + 1)) (bestV lt f k) = true then f (k + 1) else bestV lt f k
theorem best_arg (lt : Int -> Int -> Bool) (f : Nat -> Int) : ∀ k, f (argBest (fun i j => lt (f i) (f j)) k) = bestV lt f k
  | 0 => rfl
  | k + 1 => by
    have ih := best_arg lt f k
    unfold argBest bestV
    rw [<- ih]
    by_cases h : lt (f (k + 1)) (f (argBest (fun i j => lt (f i) (f j)) k)) = true
    · rw [if_pos h, if_pos h]
    · rw [if_neg h, if_neg h]
noncomputable def maxV (ns : List Int) : Int := bestV (fun i j => decide (i > j)) (fun i => ns.getD i 0) (ns.length - 1)
theorem numAt_getD (ys : List (Int × Tok)) (i : Nat) : numAt ys.toArray i = (ys.map (·.1)).getD i 0 := by
  unfold numAt
  simp [List.getD]
noncomputable def rMaxL (K : PySem.W.Frag) : List V -> Hp -> VK -> Prop := fun xs H Q => ∃ (p : Addr) (ns : List Int), xs = [.ref p] /\ SqL K H p (ns.map V.int) /\ 0 < ns.length /\ Q (.int (maxV ns)) H
section
variable {X : Cx}
theorem item_val {ys : List (Int × Tok)} {k : Nat} {v : Value} (h : (intItems ys.toArray)[k]? = some v) : ∃ t, v = .int (numAt ys.toArray k) t := by
  have := intItems_at h
  simpa using this
theorem call_maxL (hc : X.calm = true) : CallR X (.builtin "max") (rMaxL X.K) := by
  intro pins s σ H xs us Q I r h
  obtain ⟨p, ns, rfl, hs, hn, q⟩ := h
  obtain ⟨u, rfl, ru⟩ := vals1 r
  obtain rfl : u = Value.ref p := ru
  obtain ⟨its, rv, pl, hz⟩ := I.list hs
  obtain ⟨ys, rfl, e⟩ := vals_items rv
  have hl : s.heap.IsList p (intItems ys.toArray) := by
    have := pl.isList
    simpa [intItems] using this
  subst e
  refine max_intList (I.ok.hd hc) hl (by simpa using hn) fun v h' tk hv hk => ?_
  obtain ⟨t, rfl⟩ := item_val hv
  refine ⟨.int (maxV (ys.map (·.1))), H, I.kept hk, ⟨t, ?_⟩, q⟩
  have e1 := best_arg (fun i j => decide (i > j)) (numAt ys.toArray) (ys.toArray.size - 1)
  rw [e1]
  unfold maxV
  have e2 : numAt ys.toArray = fun i => (ys.map (·.1)).getD i 0 := funext fun i => numAt_getD ys i
  rw [e2]
  simp
end
noncomputable def bestD (g : List Int -> Int) : List D -> R D
  | [.lst ds] => match intsOf ds with
    | some (n :: ns) => .ok (.int (g (n :: ns)))
    | _ => .bad
  | _ => .bad
noncomputable def maxLD : List D -> R D := bestD maxV
theorem N_best {g : List Int -> Int} : NoErrL (bestD g) := fun ds n h => by
  unfold bestD at h
  split at h
  · split at h <;> cases h
  · cases h
theorem N_maxL : NoErrL maxLD := N_best
theorem B_maxL {K : PySem.W.Frag} : ClB K (rMaxL K) maxLD := by
  rintro H xs ds L Q r ⟨d, hg, q⟩
  unfold maxLD bestD at hg
  split at hg
  · split at hg
    · rename_i ds n ns hn
      cases hg
      obtain ⟨v, rfl, a, vs, L', rfl, ha, _, rs⟩ := reps1 r
      exact ⟨a, n :: ns, rfl, by rw [<- intsOf_vals rs hn]; exact SqL.of ha, by simp, q _ H [] (Same.refl H) ⟨rfl, rfl⟩ (by simp) (fun a ha => nomatch ha)⟩
    · cases hg
  · cases hg
end L2
set_option maxRecDepth 100000
set_option maxHeartbeats 4000000
namespace L2
open PySem PySem.Spec PyProof.Rows
section
variable {X : Cx} {tg : Expr}
end
section
variable {X : Cx} {E : XK} {Γ : List Cl} {tg : Expr} {u : Tn -> R (List D)} {c : Rc} {p pos : Pos}
end
end L2
set_option maxRecDepth 100000
set_option maxHeartbeats 4000000
namespace L2
open PySem PySem.Spec PyProof.Rows
end L2
set_option maxRecDepth 100000
set_option maxHeartbeats 4000000
namespace L2
open PySem PySem.Spec PyProof.Rows
noncomputable def tuple1D : List D -> R D
  | [.lst ds] => if D.imms ds = true then .ok (.tup ds) else .bad
  | [.tup ds] => if D.imms ds = true then .ok (.tup ds) else .bad
  | _ => .bad
theorem N_tuple1 : NoErrL tuple1D := fun ds n h => by
  unfold tuple1D at h
  split at h
  · split at h <;> cases h
  · split at h <;> cases h
  · cases h
theorem B_tuple1 {K : PySem.W.Frag} : ClB K (fun xs H Q => ∃ p ys, xs = [.ref p] /\ ((SqL K H p ys /\ ∀ l, H l = none -> Q (.ref l) (upd H l (.tup ys))) \/ (SqT K H p ys /\ Q (.ref p) H))) tuple1D := by
  rintro H xs ds L Q r ⟨d, hg, q⟩
  unfold tuple1D at hg
  split at hg
  · split at hg
    · rename_i ds hz
      cases hg
      obtain ⟨v, rfl, a, vs, L', rfl, ha, _, rs⟩ := reps1 r
      have rs0 := imms_nil rs hz
      refine ⟨a, vs, rfl, .inl ⟨SqL.of ha, fun l hl => q _ _ [] (Same.new hl) ⟨l, vs, rfl, SqT.of upd_same, rs0.same (Same.new hl)⟩ (by simp) (fun a ha => nomatch ha)⟩⟩
    · cases hg
  · split at hg
    · rename_i ds hz
      cases hg
      obtain ⟨v, rfl, a, vs, rfl, ha, rs⟩ := reps1 r
      have rs0 := imms_nil rs hz
      exact ⟨a, vs, rfl, .inr ⟨ha, q _ H [] (Same.refl H) ⟨a, vs, rfl, ha, rs0⟩ (by simp) (fun a ha => nomatch ha)⟩⟩
    · cases hg
  · cases hg
end L2
set_option maxRecDepth 100000
set_option maxHeartbeats 4000000
namespace L2
open PySem PySem.Spec PyProof.Rows
theorem vals_bools : ∀ {bs : List Bool} {us : List Value}, Vals (bs.map V.bl) us -> us = bs.map Value.bool
  | [], us, r => by cases r; rfl
  | b :: bs, _, r => by
    rw [List.map_cons] at r
    cases r with
    | cons r1 r2 =>
      obtain rfl : _ = Value.bool b := r1
      rw [List.map_cons, vals_bools r2]
theorem rangeAll (bs : List Bool) : ((List.range bs.length).all fun i => (bs[i]?).getD true) = bs.all id := by
  rw [Bool.eq_iff_iff, List.all_eq_true, List.all_eq_true]
  constructor
  · intro h b hb
    obtain ⟨i, hi, e⟩ := List.getElem_of_mem hb
    have := h i (List.mem_range.mpr hi)
    rw [List.getElem?_eq_getElem hi, e] at this
    exact this
  · intro h i hi
    have hi := List.mem_range.mp hi
    rw [List.getElem?_eq_getElem hi]
    exact h _ (List.getElem_mem hi)
noncomputable def rAllL (K : PySem.W.Frag) : List V -> Hp -> VK -> Prop := fun xs H Q => ∃ (p : Addr) (bs : List Bool), xs = [.ref p] /\ SqL K H p (bs.map V.bl) /\ Q (.bl (bs.all id)) H
section
variable {X : Cx}
theorem call_allL (hc : X.calm = true) : CallR X (.builtin "all") (rAllL X.K) := by
  intro pins s σ H xs us Q I r h
  obtain ⟨p, bs, rfl, hs, q⟩ := h
  obtain ⟨u, rfl, ru⟩ := vals1 r
  obtain rfl : u = Value.ref p := ru
  obtain ⟨its, rv, pl, hz⟩ := I.list hs
  have e := vals_bools rv
  subst e
  have hl : s.heap.IsList p (bs.map Value.bool).toArray := pl.isList
  have hlt : p < s.heap.objs.size := by obtain ⟨_, e, _⟩ := hl; exact Heap.lt_size e
  refine call_all_walk (wpAny_pyIter_list hl ?_)
  refine ⟨_, _, _, _, _, _, fun i => (bs[i]?).getD true, rfl, Walks.list (A := X.A.in1) (I.ok.hd hc) _ p (Nat.ne_of_lt hlt) (bs.map Value.bool).toArray, ⟨⟨_, Heap.get?_push_size _ rfl, rfl, rfl⟩, hl.push _⟩, fun i v s' Q' E' hP hQ => ?_, fun h' tk hk => ?_⟩
  · have hP : (bs.map Value.bool)[i]? = some v := by simpa using hP
    rw [List.getElem?_map] at hP
    cases hb : bs[i]? with
    | none => rw [hb] at hP; cases hP
    | some b =>
      rw [hb] at hP
      cases hP
      simp only [hb, Option.getD_some] at hQ
      exact wpAny_truthy_bool hQ
  · have e : ((List.range (bs.map Value.bool).toArray.size).all fun i => (bs[i]?).getD true) = bs.all id := by
      rw [List.size_toArray, List.length_map]
      exact rangeAll bs
    rw [e]
    refine ⟨.bl (bs.all id), H, I.kept fun b o eb => hk b o (fun hm => ?_) (Heap.get?_push_of_some _ eb), rfl, q⟩
    rw [List.mem_singleton.mp hm] at eb
    exact Nat.lt_irrefl _ (Heap.lt_size eb)
end
noncomputable def boolsOf : List D -> Option (List Bool)
  | [] => some []
  | .bl b :: ds => (boolsOf ds).map (b :: ·)
  | _ => none
theorem boolsOf_vals {K : PySem.W.Frag} {H : Hp} : ∀ {ds : List D} {bs : List Bool} {vs : List V} {L : List Addr}, Reps K H ds vs L -> boolsOf ds = some bs -> vs = bs.map V.bl
  | [], bs, _, _, hq4, h => by
    obtain ⟨e, _⟩ := hq4
    cases h; exact e
  | .bl b :: ds, bs, _, _, hq4, h => by
    obtain ⟨v, vs', L1, L2, e1, e2, r1, r2⟩ := hq4
    unfold boolsOf at h
    cases hb : boolsOf ds with
    | none => rw [hb] at h; cases h
    | some cs =>
      rw [hb] at h
      cases h
      rw [e1, r1.1, boolsOf_vals r2 hb]
      rfl
  | .non :: _, _, _, _, _, h => by cases h
  | .int _ :: _, _, _, _, _, h => by cases h
  | .str _ :: _, _, _, _, _, h => by cases h
  | .tup _ :: _, _, _, _, _, h => by cases h
  | .lst _ :: _, _, _, _, _, h => by cases h
  | .dic _ _ :: _, _, _, _, _, h => by cases h
  | .frl _ :: _, _, _, _, _, h => by cases h
noncomputable def allD : List D -> R D
  | [.lst ds] => match boolsOf ds with
    | some bs => .ok (.bl (bs.all id))
    | none => .bad
  | _ => .bad
theorem N_all : NoErrL allD := fun ds n h => by
  unfold allD at h
  split at h
  · split at h <;> cases h
  · cases h
theorem B_all {K : PySem.W.Frag} : ClB K (rAllL K) allD := by
  rintro H xs ds L Q r ⟨d, hg, q⟩
  unfold allD at hg
  split at hg
  · split at hg
    · rename_i ds bs hn
      cases hg
      obtain ⟨v, rfl, a, vs, L', rfl, ha, _, rs⟩ := reps1 r
      exact ⟨a, bs, rfl, by rw [<- boolsOf_vals rs hn]; exact SqL.of ha, q _ H [] (Same.refl H) ⟨rfl, rfl⟩ (by simp) (fun a ha => nomatch ha)⟩
    · cases hg
  · cases hg
end L2
set_option maxRecDepth 100000
set_option maxHeartbeats 4000000
namespace L2
open PySem PySem.Spec PyProof.Rows
noncomputable def eSm (g : Str -> List D -> R D) (t : Tn -> R D) (u : Tn -> R (List D)) : Tn -> R D := fun τ => (t τ).bind fun d => match d with
  | .str z => (u τ).bind fun ds => g z ds
  | _ => .bad
noncomputable def SmB (K : PySem.W.Frag) (r : V -> List V -> Hp -> VK -> Prop) (g : Str -> List D -> R D) : Prop :=
  ∀ H z xs ds L (Q : VK), Reps K H ds xs L -> (∃ d, g z ds = .ok d /\ ∀ v H' L', Same H H' -> Rep K H' d v L' -> L'.Nodup -> (∀ a ∈ L', H a = none) -> Q v H') -> r (.str z) xs H Q
section
variable {X : Cx} {E : XK} {Γ : List Cl} {o e : Expr} {es : List Expr} {t : Tn -> R D} {u : Tn -> R (List D)} {c ca : Rc} {name : Str} {apos cpos : Pos} {id : String}
theorem me_sm {r : V -> List V -> Hp -> VK -> Prop} {g : Str -> List D -> R D} (pa : PlainAttrs "str") (slot : Slot "str" name id) (hty : typeOf (.builtin id) = pure (.type "method_descriptor")) (hm : MtR X id r) (hB : SmB X.K r g) (hn : ∀ z, NoErrL (g z)) (ho : ME X E Γ o t c) (ha : MA X E Γ (e :: es) u ca)
    (hbase : attributeBase o name X.env (eval o X.env) = eval o X.env := by rfl)
    (hfew : ((backTo cpos (starEach (e :: es) X.env)).all (fun x => !x.1) && (backToKw cpos (keywordEach [] X.env)).all (fun x => x.1.isSome)
      && decide ((e :: es).length + ([] : List Keyword).length + (if ([] : List Keyword).isEmpty then 0 else 1) < 30)) = true := by rfl)
    (hline : (apos.endLine == cpos.line) = true := by rfl) (hs : starEach (e :: es) X.env = (false, eval e X.env) :: starEach es X.env := by rfl) (hplain : (backTo cpos (starEach es X.env)).any (·.1) = false := by rfl) :
    ME X E Γ (.Call (.Attribute o name apos) (e :: es) [] cpos) (eSm g t u) .fresh := by
  obtain ⟨te, p, q⟩ := ho
  obtain ⟨_, ta', p', q'⟩ := ha
  refine ⟨_, pe_bm pa slot hty hm p p' hbase hfew hline hs hplain, fun O σ H τ Q ok h => ?_⟩
  unfold eSm at h
  refine q O σ H τ _ ok (post.bind h fun d hd h x H1 L1 s1 r1 _ => ?_)
  cases d with
  | str z =>
    obtain ⟨rfl, _⟩ := r1
    refine ⟨rfl, q' O σ H1 τ _ (ok.same s1) ?_⟩
    dsimp only at h
    cases hu : u τ with
    | ok ds =>
      rw [hu, R.ok_bind] at h
      refine fun vs H2 L s2 r2 _ => ?_
      cases hg : g z ds with
      | ok d =>
        rw [hg] at h
        exact hB H2 z vs ds L Q r2 ⟨d, hg, fun v H' L s r n1 n2 => h v H' L ((s1.trans s2).trans s) r ⟨n1, fun a ha => (s1.trans s2).non (n2 a ha)⟩⟩
      | err n => exact absurd hg (hn _ _ _)
      | bad => rw [hg] at h; exact h.elim
    | err n => rw [hu] at h; exact fun C H' e s' => h C H' e (s1.trans s')
    | bad => rw [hu] at h; exact h
  | _ => exact h.elim
end
noncomputable def strsOf : List D -> Option (List Str)
  | [] => some []
  | .str b :: ds => (strsOf ds).map (b :: ·)
  | _ => none
theorem strsOf_vals {K : PySem.W.Frag} {H : Hp} : ∀ {ds : List D} {bs : List Str} {vs : List V} {L : List Addr}, Reps K H ds vs L -> strsOf ds = some bs -> vs = bs.map V.str
  | [], bs, _, _, hq4, h => by
    obtain ⟨e, _⟩ := hq4
    cases h; exact e
  | .str b :: ds, bs, _, _, hq4, h => by
    obtain ⟨v, vs', L1, L2, e1, e2, r1, r2⟩ := hq4
    unfold strsOf at h
    cases hb : strsOf ds with
    | none => rw [hb] at h; cases h
    | some cs =>
      rw [hb] at h
      cases h
      rw [e1, r1.1, strsOf_vals r2 hb]
      rfl
  | .non :: _, _, _, _, _, h => by cases h
  | .int _ :: _, _, _, _, _, h => by cases h
  | .bl _ :: _, _, _, _, _, h => by cases h
  | .tup _ :: _, _, _, _, _, h => by cases h
  | .lst _ :: _, _, _, _, _, h => by cases h
  | .dic _ _ :: _, _, _, _, _, h => by cases h
  | .frl _ :: _, _, _, _, _, h => by cases h
theorem vals_strs : ∀ {ys : List Str} {us : List Value}, Vals (ys.map V.str) us -> StrsAre us ys
  | [], us, r => by cases r; exact .nil
  | y :: ys, _, r => by
    rw [List.map_cons] at r
    cases r with
    | cons r1 r2 =>
      obtain ⟨t, rfl⟩ := r1
      exact .cons y t (vals_strs r2)
noncomputable def rJoin (K : PySem.W.Frag) : V -> List V -> Hp -> VK -> Prop := fun x xs H Q => ∃ z p ys, x = .str z /\ xs = [.ref p] /\ (SqL K H p (ys.map V.str) \/ SqT K H p (ys.map V.str)) /\ (ys.map (·.length)).sum + ys.length * z.length <= 16777216 /\ Q (.str (Txt.join z ys)) H
theorem mt_joinL {X : Cx} : MtR X "str.join" (rJoin X.K) := by
  intro pins s σ H x xs v us Q I rx rs h
  obtain ⟨z, p, ys, rfl, rfl, hq, hz, q⟩ := h
  obtain ⟨t, rfl⟩ := rx
  obtain ⟨u, rfl, ru⟩ := vals1 rs
  obtain rfl : u = Value.ref p := ru
  rcases hq with hq | hq
  · obtain ⟨its, r, pl, _⟩ := I.list hq
    exact join_list pl.isList (by simpa using vals_strs r) hz fun t' k => ⟨.str (Txt.join z ys), H, I.tok _, ⟨t', rfl⟩, q⟩
  · obtain ⟨its, r, pl, _⟩ := I.tuple hq
    exact join_tuple pl (by simpa using vals_strs r) hz fun t' k => ⟨.str (Txt.join z ys), H, I.tok _, ⟨t', rfl⟩, q⟩
noncomputable def joinD (z : Str) : List D -> R D
  | [.lst ds] => match strsOf ds with
    | some ys => if (ys.map (·.length)).sum + ys.length * z.length <= 16777216 then .ok (.str (Txt.join z ys)) else .bad
    | none => .bad
  | [.tup ds] => match strsOf ds with
    | some ys => if (ys.map (·.length)).sum + ys.length * z.length <= 16777216 then .ok (.str (Txt.join z ys)) else .bad
    | none => .bad
  | _ => .bad
theorem N_join (z : Str) : NoErrL (joinD z) := fun ds n h => by
  unfold joinD at h
  split at h
  · split at h
    · split at h <;> cases h
    · cases h
  · split at h
    · split at h <;> cases h
    · cases h
  · cases h
theorem B_join {K : PySem.W.Frag} : SmB K (rJoin K) joinD := by
  rintro H z xs ds L Q r ⟨d, hg, q⟩
  unfold joinD at hg
  split at hg
  · split at hg
    · rename_i ds ys hn
      split at hg
      · rename_i hz
        cases hg
        obtain ⟨v, rfl, a, vs, L', rfl, ha, _, rs⟩ := reps1 r
        exact ⟨z, a, ys, rfl, rfl, .inl (by rw [<- strsOf_vals rs hn]; exact SqL.of ha), hz, q _ H [] (Same.refl H) ⟨rfl, rfl⟩ (by simp) (fun a ha => nomatch ha)⟩
      · cases hg
    · cases hg
  · split at hg
    · rename_i ds ys hn
      split at hg
      · rename_i hz
        cases hg
        obtain ⟨v, rfl, a, vs, rfl, ha, rs⟩ := reps1 r
        exact ⟨z, a, ys, rfl, rfl, .inr (by rw [<- strsOf_vals rs hn]; exact ha), hz, q _ H [] (Same.refl H) ⟨rfl, rfl⟩ (by simp) (fun a ha => nomatch ha)⟩
      · cases hg
    · cases hg
  · cases hg
end L2
set_option maxRecDepth 100000
set_option maxHeartbeats 4000000
namespace L2
open PySem PySem.Spec PyProof.Rows
theorem TupN.push {h : Heap} {a : Addr} {items : Array Value} (x : TupN h a items) (o : Obj) : TupN (h.push o) a items := let ⟨o', ho, r⟩ := x; ⟨o', Heap.get?_push_of_some o ho, r⟩
theorem TupN.at {h h' : Heap} {a : Addr} {items : Array Value} (x : TupN h a items) (k : ∀ b o, h.get? b = some o -> h'.get? b = some o) : TupN h' a items := let ⟨o', ho, r⟩ := x; ⟨o', k _ _ ho, r⟩
theorem TupN.isTuple {h : Heap} {a : Addr} {items : Array Value} (x : TupN h a items) : h.IsTuple a items := x.tup
theorem isTuple_at {h h' : Heap} {a : Addr} {items : Array Value} (x : h.IsTuple a items) (k : ∀ b o, h.get? b = some o -> h'.get? b = some o) : h'.IsTuple a items := let ⟨o', ho, r⟩ := x; ⟨o', k _ _ ho, r⟩
theorem Inv.tupN {X : Cx} {pins : List (Addr × Obj)} {σ : St} {H : Hp} {s : Shared} {a : Addr} {xs : List V} (I : Inv X pins σ H s) (h : SqT X.K H a xs) : ∃ its : List Value, Vals xs its /\ TupN s.heap a its.toArray /\ xs.length <= sizeLine := by
  rcases h with h | ⟨o, its, n, hk, hc, hn, hs, hz, r⟩
  · obtain ⟨z, its, r, p⟩ := h.ok I.hok
    exact ⟨its, r, p, z⟩
  · refine ⟨its.toList, r, ⟨o, I.kIn a o hk, hc, hn, n, by simpa using hs⟩, ?_⟩
    have e := r.length
    simp only [Array.length_toList] at e
    omega
theorem miss_tuple_keys : typeLookup (.type "tuple") "keys" = pure none := by rw [typeLookup_type, builtinLookup_eq_fast]; kernel_rfl
set_option maxRecDepth 8000 in
theorem getAttr?_miss_tuple {prog : Program} {w : World} {A : Around} {E : Value -> Shared -> Prop} {s : Shared} {a : Addr} {o : Obj} {xs : Array Value} {k : Nat} {name : Str} {Q : Option Value -> Shared -> Prop}
    (hx : s.heap.get? a = some o) (hc : o.cls = .type "tuple") (hdat : o.data = .seq xs k) (hd : o.dict = none) (hmiss : typeLookup (.type "tuple") name = pure none) (hname : (["__module__", "__name__", "__qualname__", "__doc__", "__annotations__"] : List Str).contains name = false) (hA : A.handled = none)
    (h : ∀ h' tk, (∀ b o, s.heap.get? b = some o -> h'.get? b = some o) -> Q none { s with heap := h', toks := tk }) (hsz : name.length + 100 <= sizeLine := by size_fits) :
    wpAny (model prog w) A (getAttr? (.ref a) name) Q E s := by
  obtain ⟨c, dct, dat, sl⟩ := o
  simp only at hc hdat hd
  subst hc hdat hd
  obtain ⟨hp, g, d, tk, os⟩ := s
  have hT : ∀ tk', (⟨hp, g, d, tk', os⟩ : Shared).TypeIs (.ref a) "tuple" := fun _ => ⟨_, hx, rfl⟩
  have f1 := sub_AttributeError
  have f3 := PySem.F.slot_tuple_getattribute.lookup
  have f4 := PySem.F.slot_tuple_getattribute.bind (.ref a)
  have f5 := am_tuple_getattr_none
  unfold getAttr? getAttrBy? getAttrBy
  repeat (any_goals (first | assumption | exact hT _ | ((with_reducible show wpAny _ _ (call (Value.builtin "tuple.__getattribute__") _ _) _ _ _); refine call_meets PySem.F.slot_tuple_getattribute (hT _) am_entry_tuple_getattribute (PySem.F.args_tuple_getattribute_2 _ _) (meets_getattribute_miss_tuple a xs k sl name _ hmiss hname hsz) ⟨hx, hA, fun h' tk' e hx' => ?_⟩) | wp_step))
  obtain ⟨t', u', he⟩ := hx'.there
  have hkeep := hx'.of.keeps
  show wpAny _ _ (getattributeRaised _ _ _ _ _ _ _) _ _ _
  unfold getattributeRaised
  repeat (any_goals (first | assumption | wp_step))
  all_goals exact h _ _ hkeep
theorem entry_dict_update_loop : entryFor table "dict.update.loop" = some Builtin.«dict.update.loop» := entryFor_of_tree (by kernel_rfl)
theorem plain_dict_update_loop : plainId "dict.update.loop" = true := by decide +kernel
noncomputable def PairsAt (P : Program) (w : World) (h : Heap) : List Value -> List (Key × Value) -> Prop := Paired fun (v : Value) (p : Key × Value) => ∃ b key, v = .ref b /\ h.IsTuple b #[key, p.2] /\ (mixKind P w).is p.1 key = true
theorem PairsAt.get {P : Program} {w : World} {h : Heap} : ∀ {its : List Value} {ps : List (Key × Value)} {i : Nat}, PairsAt P w h its ps -> i < its.length -> ∃ b key p, its[i]? = some (.ref b) /\ ps[i]? = some p /\ h.IsTuple b #[key, p.2] /\ (mixKind P w).is p.1 key = true
  | _, _, i, .nil, hi => by simp at hi
  | _, _, 0, .cons (a := v) (b := p) r t, _ => by
    obtain ⟨b, key, e, x, y⟩ := r
    exact ⟨b, key, p, by rw [e]; rfl, rfl, x, y⟩
  | _, _, i + 1, .cons r t, hi => by
    obtain ⟨b, key, p, e, e2, x, y⟩ := PairsAt.get (i := i) t (by simpa using hi)
    exact ⟨b, key, p, by simpa using e, by simpa using e2, x, y⟩
section
variable {prog : Program} {w : World} {A : Around} {R : Result -> Shared -> Prop}
theorem code_dict_pairs {h0 : Heap} {d I t : Addr} {items : List Value} {ps : List (Key × Value)} (hh : A.in1.handled = none) (hd0 : h0.get? d = none) (hI0 : h0.get? I = none) (hdI : d ≠ I) (ht0 : h0.IsTuple t items.toArray) (hp : PairsAt prog w h0 items ps) (hz : ps.length <= sizeLine) :
    ∀ (k i : Nat) (j : Int) (tk : Tok) (s : Shared), items.length - i = k -> i <= items.length -> s.heap.IsTupleIter I t i -> s.heap.DictOf (mixKind prog w) d (merged [] (ps.take i)) -> (∀ b o, h0.get? b = some o -> s.heap.get? b = some o) ->
      (∀ h' tk', h'.DictOf (mixKind prog w) d (merged [] ps) -> (∀ b o, h0.get? b = some o -> h'.get? b = some o) -> R (.ok (.ret .none)) { s with heap := h', toks := tk' }) ->
      codeAny (model prog w) A (.builtin "dict.update.loop" ⟨[.ref d, .ref I, .int j tk, .none], []⟩) R s := by
  have hlen : items.length = ps.length := Paired.length hp
  have hne : ∀ {b o}, h0.get? b = some o -> b ≠ d /\ b ≠ I := fun {b o} e => ⟨(fun z => by rw [z, hd0] at e; cases e), (fun z => by rw [z, hI0] at e; cases e)⟩
  intro k
  induction k with
  | zero =>
    intro i j tk s hk hi hit hD hkeep hR
    have hin : i = items.length := by omega
    subst hin
    refine codeAny_builtin entry_dict_update_loop ?_
    rw [Around.under_plainId plain_dict_update_loop _]
    show wpAny _ A.in1 (pyNext (.ref I) >>= _) _ _ s
    refine wpAny_bind (wpAny_pyNext_tuple_end hh hit (isTuple_at ht0 hkeep) (by simp) fun h' eb => ?_)
    show wpAny _ A.in1 (Builtin.Dict.addKeywords d [] >>= _) _ _ _
    refine wpAny_bind (wpAny_pure (wpAny_pure (hR h' s.toks ?_ fun b o e => eb b o (hne e).2 (hkeep b o e))))
    obtain ⟨o, es, ep, ho, rest⟩ := hD
    rw [hlen, List.take_length] at rest
    exact ⟨o, es, ep, eb d o hdI ho, rest⟩
  | succ k ih =>
    intro i j tk s hk hi hit hD hkeep hR
    have hlt : i < items.length := by omega
    obtain ⟨b, key, p, e1, e2, x, y⟩ := hp.get hlt
    refine codeAny_builtin entry_dict_update_loop ?_
    rw [Around.under_plainId plain_dict_update_loop _]
    show wpAny _ A.in1 (pyNext (.ref I) >>= _) _ _ s
    refine wpAny_bind (wpAny_pyNext_tuple_item hit (isTuple_at ht0 hkeep) (x := .ref b) (by simpa using e1) fun h1 hit1 sb1 => ?_)
    have hkeep1 : ∀ b o, h0.get? b = some o -> h1.get? b = some o := fun b o e => (sb1.2 b (hne e).2).trans (hkeep b o e)
    have hD1 : h1.DictOf (mixKind prog w) d (merged [] (ps.take i)) := by
      obtain ⟨o, es, ep, ho, rest⟩ := hD
      exact ⟨o, es, ep, (sb1.2 d hdI).trans ho, rest⟩
    have x1 := isTuple_at x hkeep1
    show wpAny _ A.in1 (holding [Value.ref b] _ >>= _) _ _ _
    refine wpAny_bind (wpAny_holding ?_)
    refine wpAny_bind (wpAny_tryCatch ?_)
    obtain ⟨ob, hob, hcb, nb, hdb⟩ := x1
    unfold Builtin.Dict.pairItems
    refine wpAny_bind (wpAny_typeOf ⟨ob, hob, hcb⟩ ?_)
    rw [if_pos (by decide)]
    refine wpAny_bind (wpAny_seqItems hob hdb ?_)
    refine wpAny_pure ?_
    show wpAny _ A.in1 (holding [key, p.2] (dictSet d key p.2)) _ _ _
    have hz1 : (merged [] (ps.take i)).length <= sizeLine := by
      have := merged_length_le [] (ps.take i)
      rw [List.length_take] at this
      simp only [List.length_nil] at this
      omega
    refine wpAny_holding (wpAny_dictSet_pairs (hsz := hz1) y hD1 fun h2 hD2 sb2 => ?_)
    rw [<- merged_take_succ [] ps i p e2] at hD2
    refine wpAny_pure ⟨plainId_quiet plain_dict_update_loop _, ih (i + 1) _ _ _ (by omega) hlt ?_ hD2 (fun b o e => (sb2.2 b (hne e).1).trans (hkeep1 b o e)) ?_⟩
    · obtain ⟨oi, hoi, r⟩ := hit1
      exact ⟨oi, (sb2.2 I (Ne.symm hdI)).trans hoi, r⟩
    · exact hR
end
section
variable {prog : Program} {w : World} {A : Around} {E : Value -> Shared -> Prop} {s : Shared}
theorem call_dict_pairs {t : Addr} {items : List Value} {ps : List (Key × Value)} {Q : Value -> Shared -> Prop} (hh : A.handled = none) (ht : TupN s.heap t items.toArray) (hp : PairsAt prog w s.heap items ps) (hz : ps.length <= sizeLine)
    (h : ∀ h' tk, h'.DictOf (mixKind prog w) s.heap.objs.size (merged [] ps) -> (∀ b o, s.heap.get? b = some o -> h'.get? b = some o) -> Q (.ref s.heap.objs.size) { s with heap := h', toks := tk }) :
    wpAny (model prog w) A (call (.type "dict") [.ref t]) Q E s := by
  refine callType_codes (Q₁ := fun obj s₁ => obj = .ref s.heap.objs.size /\ s₁ = { s with heap := s.heap.push { cls := .type "dict", data := .dict #[] } }) PySem.F.kt_called_dict (PySem.F.kt_typeCall_dict_1 _) PySem.F.entry_dict_init (kt_code_dict_new _ ⟨rfl, rfl⟩) ?_
  rintro obj s₁ ⟨rfl, rfl⟩
  have hnew : (s.heap.push { cls := .type "dict", data := .dict #[] }).DictOf (mixKind prog w) s.heap.objs.size [] := Heap.DictOf.new s.heap
  have ht' := ht.push { cls := .type "dict", data := .dict #[] }
  refine ⟨hnew.typeIs, PySem.F.args_dict_init_2 _ _, ?_⟩
  unfold Builtin.«dict.__init__»
  refine wpAny_bind ?_
  unfold Builtin.Dict.selfAndRest
  refine wpAny_bind (wpAny_notOrdered_dict hnew.typeIs ?_)
  show wpAny _ _ (pure (s.heap.objs.size, [Value.ref t])) _ _ _
  refine wpAny_pure ?_
  show wpAny _ _ (Builtin.Dict.updateFrom "dict.__init__" s.heap.objs.size (.ref t) [] .none) _ _ _
  unfold Builtin.Dict.updateFrom
  obtain ⟨ot, ht1, ht2, ht3, nt, ht4⟩ := ht'
  refine wpAny_bind (wpAny_typeOf ⟨ot, ht1, ht2⟩ ?_)
  rw [if_pos (by decide)]
  refine wpAny_bind (getAttr?_miss_tuple ht1 ht2 ht4 ht3 miss_tuple_keys (by decide) hh (fun h1 tk1 k1 => ?_) (by size_fits))
  rw [if_pos (show (none : Option Value).isNone = true from rfl)]
  refine wpAny_bind (wpAny_rule ?_)
  have hlt : s.heap.objs.size < h1.objs.size := by
    have : h1.get? s.heap.objs.size = some _ := k1 _ _ (Heap.get?_push_size s.heap (o := { cls := .type "dict", data := .dict #[] }) rfl)
    exact Heap.lt_size this
  have hk01 : ∀ b o, s.heap.get? b = some o -> h1.get? b = some o := fun b o e => k1 b o (Heap.get?_push_of_some _ e)
  refine wpAny_bind (wpAny_pyIter_tuple (ht.at hk01).isTuple ?_)
  have hfr : ∀ b, s.heap.objs.size <= b -> s.heap.get? b = none := fun b hb => by
    cases e : s.heap.get? b with
    | none => rfl
    | some o => exact absurd (Heap.lt_size e) (Nat.not_lt.mpr hb)
  refine wpAny_pure ⟨plainId_quiet plain_dict_update_loop _, code_dict_pairs (A := A.in1) (h0 := s.heap) (d := s.heap.objs.size) (I := h1.objs.size) (t := t) (items := items) (ps := ps) hh (hfr _ (Nat.le_refl _)) (hfr _ (Nat.le_of_lt hlt)) (Nat.ne_of_lt hlt) ht.isTuple hp hz (items.length - 0) 0 0 0 _ rfl (Nat.zero_le _) ⟨_, Heap.get?_push_size _ rfl, rfl, rfl⟩ ?_ (fun b o e => Heap.get?_push_of_some _ (hk01 b o e)) ?_⟩
  · obtain ⟨o, es, ep, ho, rest⟩ := hnew
    exact ⟨o, es, ep, Heap.get?_push_of_some _ (k1 _ _ ho), rest⟩
  · exact fun h' tk' hD hk => ⟨rfl, h h' tk' hD hk⟩
end
end L2
set_option maxRecDepth 100000
set_option maxHeartbeats 4000000
namespace L2
open PySem PySem.Spec PyProof.Rows
noncomputable def replL {β : Type} : List Key -> List β -> Key -> β -> List β
  | k' :: ks, x :: xs, k, y => (if k' = k then y else x) :: replL ks xs k y
  | _, _, _, _ => []
noncomputable def putP (ks : List Key) (ds : List D) (k : Key) (d : D) : List Key × List D := if k ∈ ks then (ks, replL ks ds k d) else (ks ++ [k], ds ++ [d])
noncomputable def mergeP : List Key -> List D -> List (Key × D) -> List Key × List D
  | ks, ds, [] => (ks, ds)
  | ks, ds, (k, d) :: r => mergeP (putP ks ds k d).1 (putP ks ds k d).2 r
section
variable {K : PySem.W.Frag} {H : Hp}
theorem putK_in : ∀ {kvs : List (Key × V)} {k : Key} {v : V}, k ∈ kvs.map (·.1) -> putK kvs k v = kvs.map (fun kv => if kv.1 = k then (kv.1, v) else kv) := by
  intro kvs k v h
  unfold putK
  rw [if_pos]
  rw [List.any_eq_true]
  obtain ⟨p, hp, e⟩ := List.mem_map.mp h
  exact ⟨p, hp, by simpa using e⟩
theorem repl_fst : ∀ (kvs : List (Key × V)) (k : Key) (v : V), (kvs.map (fun kv => if kv.1 = k then (kv.1, v) else kv)).map (·.1) = kvs.map (·.1)
  | [], _, _ => rfl
  | p :: r, k, v => by
    rw [List.map_cons, List.map_cons, List.map_cons, repl_fst r k v]
    congr 1
    split <;> rfl
theorem repl_snd : ∀ (kvs : List (Key × V)) (k : Key) (v : V), (kvs.map (fun kv => if kv.1 = k then (kv.1, v) else kv)).map (·.2) = replL (kvs.map (·.1)) (kvs.map (·.2)) k v
  | [], _, _ => rfl
  | p :: r, k, v => by
    rw [List.map_cons, List.map_cons, List.map_cons, List.map_cons, repl_snd r k v]
    show _ = (if p.1 = k then v else p.2) :: _
    congr 1
    split <;> rfl
theorem Reps.repl {k : Key} {d : D} {v : V} (rd : Rep K H d v []) : ∀ {ks : List Key} {ds : List D} {vs : List V} {L : List Addr}, Reps K H ds vs L -> ks.length = ds.length -> ∃ L2, Reps K H (replL ks ds k d) (replL ks vs k v) L2 /\ List.Sublist L2 L
  | [], [], _, _, hq4, _ => by
    obtain ⟨e1, e2⟩ := hq4
    exact ⟨[], by subst e1; exact Reps.nil, List.nil_sublist _⟩
  | [], _ :: _, _, _, _, h => by cases h
  | _ :: _, [], _, _, _, h => by cases h
  | k' :: ks, d' :: ds, _, _, hq4, h => by
    obtain ⟨v', vs', L1, L2, e1, e2, h1, h2⟩ := hq4
    subst e1 e2
    obtain ⟨L3, a, b⟩ := Reps.repl (ks := ks) rd h2 (by simpa using h)
    by_cases e : k' = k
    · refine ⟨[] ++ L3, ?_, ?_⟩
      · show Reps K H ((if k' = k then d else d') :: replL ks ds k d) ((if k' = k then v else v') :: replL ks vs' k v) _
        rw [if_pos e, if_pos e]
        exact Reps.cons rd a
      · exact b.trans (List.sublist_append_right _ _)
    · refine ⟨L1 ++ L3, ?_, List.Sublist.append (List.Sublist.refl _) b⟩
      show Reps K H ((if k' = k then d else d') :: replL ks ds k d) ((if k' = k then v else v') :: replL ks vs' k v) _
      rw [if_neg e, if_neg e]
      exact Reps.cons h1 a
theorem rep_put {kvs : List (Key × V)} {ds : List D} {L : List Addr} {k : Key} {d : D} {v : V} (rs : Reps K H ds (kvs.map (·.2)) L) (nd : (kvs.map (·.1)).Nodup) (rd : Rep K H d v []) :
    (putK kvs k v).map (·.1) = (putP (kvs.map (·.1)) ds k d).1 /\ (putP (kvs.map (·.1)) ds k d).1.Nodup /\ ∃ L2, Reps K H (putP (kvs.map (·.1)) ds k d).2 ((putK kvs k v).map (·.2)) L2 /\ List.Sublist L2 L := by
  unfold putP
  by_cases h : k ∈ kvs.map (·.1)
  · rw [if_pos h, putK_in h, repl_fst, repl_snd]
    refine ⟨rfl, nd, Reps.repl rd rs ?_⟩
    rw [<- rs.length, List.length_map, List.length_map]
  · rw [if_neg h, putK_fresh h]
    refine ⟨by rw [List.map_append]; rfl, ?_, L, ?_, List.Sublist.refl _⟩
    · refine List.nodup_append.mpr ⟨nd, by simp, fun a ha b hb z => ?_⟩
      rw [List.mem_singleton] at hb
      subst hb z
      exact h ha
    · rw [List.map_append]
      have := Reps.append rs (Reps.cons rd (Reps.nil (K := K) (H := H)))
      rw [List.append_nil, List.append_nil] at this
      exact this
theorem rep_merge : ∀ (ps : List (Key × D)) (qs : List (Key × V)) (kvs : List (Key × V)) (ds : List D), Paired (fun (p : Key × D) (q : Key × V) => p.1 = q.1 /\ Rep K H p.2 q.2 []) ps qs -> Reps K H ds (kvs.map (·.2)) [] -> (kvs.map (·.1)).Nodup ->
    (mergeK kvs qs).map (·.1) = (mergeP (kvs.map (·.1)) ds ps).1 /\ (mergeP (kvs.map (·.1)) ds ps).1.Nodup /\ Reps K H (mergeP (kvs.map (·.1)) ds ps).2 ((mergeK kvs qs).map (·.2)) []
  | [], _, kvs, ds, h, rs, nd => by
    cases h
    exact ⟨rfl, nd, rs⟩
  | p :: ps, _, kvs, ds, h, rs, nd => by
    cases h with
    | @cons _ q _ qs e t =>
      obtain ⟨e1, e2⟩ := e
      obtain ⟨a1, a2, L2, a3, a4⟩ := rep_put (k := p.1) rs nd e2
      have z : L2 = [] := by simpa using a4
      subst z
      obtain ⟨b1, b2, b3⟩ := rep_merge ps qs (putK kvs p.1 q.2) _ t a3 (a1 ▸ a2)
      show (mergeK (putK kvs q.1 q.2) qs).map (·.1) = (mergeP (putP (kvs.map (·.1)) ds p.1 p.2).1 (putP (kvs.map (·.1)) ds p.1 p.2).2 ps).1 /\ _
      rw [<- e1, <- a1]
      refine ⟨b1, ?_, ?_⟩
      · show (mergeP (putP (kvs.map (·.1)) ds p.1 p.2).1 (putP (kvs.map (·.1)) ds p.1 p.2).2 ps).1.Nodup
        rw [<- a1]; exact b2
      · show Reps K H (mergeP (putP (kvs.map (·.1)) ds p.1 p.2).1 (putP (kvs.map (·.1)) ds p.1 p.2).2 ps).2 ((mergeK (putK kvs q.1 q.2) qs).map (·.2)) []
        rw [<- a1, <- e1]; exact b3
noncomputable def pairsOf : List D -> Option (List (Key × D))
  | [] => some []
  | .tup [k, d] :: ps => match keyOf k with
    | some k' => if d.imm = true then (pairsOf ps).map ((k', d) :: ·) else none
    | none => none
  | _ => none
theorem pairs_vals : ∀ {ps : List D} {kds : List (Key × D)} {vs : List V} {L : List Addr}, Reps K H ps vs L -> pairsOf ps = some kds ->
    ∃ qs : List (Key × V), Paired (fun (v : V) (q : Key × V) => ∃ b, v = .ref b /\ SqT K H b [kV q.1, q.2]) vs qs /\ Paired (fun (p : Key × D) (q : Key × V) => p.1 = q.1 /\ Rep K H p.2 q.2 []) kds qs
  | [], kds, _, _, hq4, h => by
    obtain ⟨e, _⟩ := hq4
    cases h; subst e
    exact ⟨[], .nil, .nil⟩
  | d :: ps, kds, _, _, hq4, h => by
    obtain ⟨v, vs', L1, L2, e1, e2, r1, r2⟩ := hq4
    subst e1
    unfold pairsOf at h
    split at h
    · rename_i e; cases e
    · rename_i k d' ps' e
      injection e with e3 e4
      subst e3 e4
      split at h
      · rename_i k' hk
        split at h
        · rename_i hi
          cases hp : pairsOf ps with
          | none => rw [hp] at h; cases h
          | some r =>
            rw [hp] at h
            cases h
            obtain ⟨qs, a, b⟩ := pairs_vals r2 hp
            obtain ⟨bb, ws, ev, hs, ⟨v1, ws', M1, M2, f1, f2, g1, v2, ws'', M3, M4, f3, f4, g2, g3, _⟩⟩ := r1
            subst f1 f3 g3
            have hM := Rep.imm _ _ _ g2 hi
            subst hM
            refine ⟨(k', v2) :: qs, .cons ⟨bb, ev, ?_⟩ a, .cons ⟨rfl, g2⟩ b⟩
            rw [<- keyOf_rep hk g1]
            exact hs
        · cases h
      · cases h
    · cases h
end
noncomputable def sKPut (i : Nat) (t ti : Tn -> R D) : Tn -> R Fl := fun τ => (t τ).bind fun d => (eVar i τ).bind fun l => (ti τ).bind fun k => match l, keyOf k with
  | .dic ks ds, some k => if d.imm = true /\ ks.length < sizeLine then .ok (.nx (τ.set i (some (.dic (putP ks ds k d).1 (putP ks ds k d).2)))) else .bad
  | _, _ => .bad
section
variable {X : Cx} {E : XK} {Γ Γ1 Γ' Γl : List Cl} {e a b o f : Expr} {es : List Expr} {t t' u v : Tn -> R D} {c ca cb : Rc} {pos : Pos}
theorem kput (i : Nat) {x : Str} {p0 p1 : Pos} {ix : Expr} {ti : Tn -> R D} (hu : X.A.units + 1 < cLine) (h : MV X E Γ e t Γ1) (hi : ME X E Γ1 ix ti c) (hN : X.N[i]? = some x := by rfl) (hk : Γ1[i]? = some .own := by rfl) (hv : Vis X.env.scope x := by first | exact Or.inl rfl | exact Or.inr (Or.inl rfl) | exact Or.inr (Or.inr rfl)) (hb : (x == ("__debug__" : Str)) = false := by decide) (hcd : (x == ("__classdict__" : Str)) = false := by decide)
    (hs : swapsWith e (some (.Subscript (.Name x p0) ix p1)) pos.line X.env = pure false := by rfl) :
    MS X E Γl Γ (.Assign [.Subscript (.Name x p0) ix p1] e pos) (sKPut i t ti) Γ1 := by
  obtain ⟨te, p, q⟩ := h
  obtain ⟨te', p', q'⟩ := hi
  refine ⟨_, ps_dput hu (pe_var (pos := p0) hN hv hb hcd) p' p hs, fun B σ H τ Z ok h => q B σ H τ [] _ ok ?_⟩
  unfold sKPut at h
  cases ht : t τ with
  | ok d' =>
    rw [ht, R.ok_bind] at h
    refine fun y H1 Le s1 ry ok1 => ?_
    obtain ⟨v1, d1, L1, q1, q2, r1, n1, n2, _⟩ := ok1.slot hk
    refine ⟨v1, q1, ?_⟩
    have ev : eVar i τ = .ok d1 := by unfold eVar; rw [q2]
    rw [ev, R.ok_bind] at h
    obtain ⟨O, eo, _⟩ := ok1.eok
    refine q' O σ H1 τ _ eo ?_
    cases hk' : ti τ with
    | ok dk =>
      rw [hk', R.ok_bind] at h
      refine fun kv H2 Lk s2 rk _ => ?_
      have ok2 := ok1.same s2
      obtain ⟨v2, d2, L2, q3, q4, r2, m1, m2, fin⟩ := ok2.slot hk
      rw [q1] at q3
      cases q3
      rw [q2] at q4
      cases q4
      cases d1 with
      | dic ks ds =>
        cases hko : keyOf dk with
        | none => rw [hko] at h; exact h.elim
        | some k =>
          rw [hko] at h
          dsimp only at h
          by_cases hz : d'.imm = true /\ ks.length < sizeLine
          · rw [if_pos hz] at h
            obtain ⟨a, kvs, L', rfl, ha2, z2, hks, hnd, rs⟩ := r2
            subst z2
            have mu : (∃ vs, H2 a = some (.lst vs)) \/ ∃ kvs, H2 a = some (.dK kvs) := .inr ⟨_, ha2⟩
            have zL := Rep.imm _ _ _ ry hz.1
            subst zL
            obtain ⟨w1, w2⟩ := List.nodup_cons.mp m1
            have r3 := (ry.same s2).upd (o := .dK (putK kvs k y)) mu (by simp)
            have rs3 := rs.upd (o := .dK (putK kvs k y)) mu w1
            subst hks
            obtain ⟨a1, a2, L3, a3, a4⟩ := rep_put (k := k) rs3 hnd r3
            refine ⟨a, _, rfl, ?_, h _ _ (fin _ _ (a :: L3) [] [] rfl (TF.upd mu) (fun b hb _ => upd_ne fun z => hb (z ▸ List.mem_cons_self)) ⟨a, _, L3, rfl, upd_same, rfl, a1, a2, a3⟩ (fun b hb => ?_) ?_)⟩
            · rw [keyOf_rep hko rk]
              exact DPut.k ha2 (by have := hz.2; rw [List.length_map] at this; exact this)
            · rcases List.mem_cons.mp hb with z | z
              · exact .inl (z ▸ List.mem_cons_self)
              · exact .inl (List.mem_cons_of_mem _ (a4.subset z))
            · exact List.nodup_cons.mpr ⟨fun z => w1 (a4.subset z), w2.sublist a4⟩
          · rw [if_neg hz] at h; exact h.elim
      | _ => exact h.elim
    | err n => rw [hk'] at h; exact fun C H' e s => h C H' e (ok1.ext.trans s)
    | bad => rw [hk'] at h; exact h
  | err n => rw [ht] at h; exact h
  | bad => rw [ht] at h; exact h
noncomputable def getK (ks : List Key) (ds : List D) (k z : D) : R D := match keyOf k with
  | some k => if ((lookD ks ds k).getD z).imm = true then .ok ((lookD ks ds k).getD z) else .bad
  | none => .bad
noncomputable def eGet (t u v : Tn -> R D) : Tn -> R D := fun τ => (t τ).bind fun d => match d with
  | .dic ks ds => (u τ).bind fun k => (v τ).bind fun z => getK ks ds k z
  | _ => .bad
theorem me_get {apos cpos : Pos} (hu : X.A.units + 1 < cLine) (ho : ME X E Γ o t c) (he : ME X E Γ e u ca) (hf : ME X E Γ f v cb)
    (hbase : attributeBase o "get" X.env (eval o X.env) = eval o X.env := by rfl)
    (hfew : ((backTo cpos (starEach [e, f] X.env)).all (fun x => !x.1) && (backToKw cpos (keywordEach [] X.env)).all (fun x => x.1.isSome)
      && decide (([e, f] : List Expr).length + ([] : List Keyword).length + (if ([] : List Keyword).isEmpty then 0 else 1) < 30)) = true := by rfl)
    (hline : (apos.endLine == cpos.line) = true := by rfl) (htr : backTo cpos (starEach [e, f] X.env) = [(false, eval e X.env), (false, eval f X.env)] := by rfl) :
    ME X E Γ (.Call (.Attribute o "get" apos) [e, f] [] cpos) (eGet t u v) .fresh := by
  obtain ⟨te, p, q⟩ := ho
  obtain ⟨te', p', q'⟩ := he
  obtain ⟨te'', p'', q''⟩ := hf
  refine ⟨_, pe_dget2 hu p p' p'' ⟨hbase, hfew, hline, htr⟩, fun O σ H τ Q ok h => ?_⟩
  unfold eGet at h
  refine q O σ H τ _ ok (post.bind h fun d hd h x H1 L1 s1 r1 _ => ?_)
  cases d with
  | dic ks ds =>
    obtain ⟨ad, kvs, L', rfl, had, e2, hks, _, rs⟩ := r1
    refine ⟨ad, rfl, .inl ⟨kvs, .inl had⟩, ?_⟩
    dsimp only at h
    refine q' O σ H1 τ _ (ok.same s1) (post.bind2 h s1 fun dk _ h y H2 Ly s2 ry _ => ?_)
    refine q'' O σ H2 τ _ ((ok.same s1).same s2) (post.bind2 h (s1.trans s2) fun dz _ h z H3 Lz s3 rz _ => ?_)
    unfold getK at h
    have sA : Same H H3 := s1.trans (s2.trans s3)
    cases hk : keyOf dk with
    | none => rw [hk] at h; exact h.elim
    | some k =>
      rw [hk] at h
      dsimp only at h
      have ek := keyOf_rep hk ry
      subst ek
      have had3 : H3 ad = some (.dK kvs) := s3 _ _ (s2 _ _ had)
      cases hl : lookD ks ds k with
      | some d =>
        rw [hl] at h
        by_cases hi : d.imm = true
        · rw [if_pos (show ((some d).getD dz).imm = true from hi)] at h
          rw [<- hks] at hl
          obtain ⟨w, L1, g1, g2, g3⟩ := look_some rs hl
          have zL := Rep.imm _ _ _ g2 hi
          subst zL
          refine ⟨valV kvs k, DGet.k had3, ?_⟩
          rw [g1]
          exact h w H3 [] sA ((g2.same s2).same s3) RcOk.nil
        · rw [if_neg (show ¬ ((some d).getD dz).imm = true from hi)] at h; exact h.elim
      | none =>
        rw [hl] at h
        by_cases hi : dz.imm = true
        · rw [if_pos (show ((none : Option D).getD dz).imm = true from hi)] at h
          rw [<- hks] at hl
          have g1 := look_none rs hl
          have zL := Rep.imm _ _ _ rz hi
          subst zL
          refine ⟨valV kvs k, DGet.k had3, ?_⟩
          rw [g1]
          exact h z H3 [] sA rz RcOk.nil
        · rw [if_neg (show ¬ ((none : Option D).getD dz).imm = true from hi)] at h; exact h.elim
  | _ => exact h.elim
end
end L2
set_option maxRecDepth 100000
set_option maxHeartbeats 4000000
namespace L2
open PySem PySem.Spec PyProof.Rows
noncomputable def rDictP (K : PySem.W.Frag) : List V -> Hp -> VK -> Prop := fun xs H Q => ∃ a vs, ∃ qs : List (Key × V), xs = [.ref a] /\ SqT K H a vs /\ Paired (fun (v : V) (q : Key × V) => ∃ b, v = .ref b /\ SqT K H b [kV q.1, q.2]) vs qs /\ ∀ l, H l = none -> Q (.ref l) (upd H l (.dK (mergeK [] qs)))
section
variable {X : Cx}
theorem pairs_at {pins : List (Addr × Obj)} {σ : St} {H : Hp} {s : Shared} (I : Inv X pins σ H s) : ∀ {vs : List V} {qs : List (Key × V)} {its : List Value}, Paired (fun (v : V) (q : Key × V) => ∃ b, v = .ref b /\ SqT X.K H b [kV q.1, q.2]) vs qs -> Vals vs its ->
    ∃ ps : List (Key × Value), PairsAt X.prog X.w s.heap its ps /\ KV qs ps
  | _, _, _, .nil, .nil => ⟨[], .nil, .nil⟩
  | _, _, _, .cons (b := q) h t, .cons r t2 => by
    obtain ⟨b, rfl, hs⟩ := h
    obtain ⟨ps, a1, a2⟩ := pairs_at I t t2
    obtain ⟨its2, r2, pl, _⟩ := I.tuple hs
    cases r
    cases r2 with
    | cons rk r3 =>
      cases r3 with
      | cons rv r4 =>
        cases r4
        rename_i key u
        exact ⟨(q.1, u) :: ps, .cons ⟨b, key, rfl, pl, kV_is rk⟩ a1, .cons ⟨rfl, rv⟩ a2⟩
theorem call_dictP (hc : X.calm = true) : CallR X (.type "dict") (rDictP X.K) := by
  intro pins s σ H xs us Q I r h
  obtain ⟨a, vs, qs, rfl, ha, hp, q⟩ := h
  obtain ⟨u, rfl, ru⟩ := vals1 r
  obtain rfl : u = Value.ref a := ru
  obtain ⟨its, rv, tn, hz⟩ := I.tupN ha
  obtain ⟨ps, hps, kv⟩ := pairs_at I hp rv
  have hl1 : vs.length = qs.length := Paired.length hp
  have hl2 := kv.length
  refine call_dict_pairs (I.ok.hd hc) tn hps (by omega) fun h' tk hD hk => ?_
  refine ⟨.ref s.heap.objs.size, _, I.laid (o := .dK (mergeK [] qs)) (t' := tk) hk (Nat.le_refl _) ?_, rfl, q _ (I.hok.fresh (Nat.le_refl _))⟩
  have hm : KV (mergeK [] qs) (merged [] ps) := KV.merge kv .nil
  refine ⟨?_, beq_eq_false_iff_ne.mpr (Ne.symm (Nat.ne_of_lt I.big)), _, hm, hD⟩
  have e1 := hm.length
  have e2 := merged_length_le [] ps
  simp only [List.length_nil] at e2
  omega
theorem call_dictA (hc : X.calm = true) : CallR X (.type "dict") (fun xs H Q => rDict1 xs H Q \/ rDictP X.K xs H Q) := CallR.or call_dict1 (call_dictP hc)
end
noncomputable def dictAD : List D -> R D
  | [.dic ks ds] => if D.imms ds = true then .ok (.dic ks ds) else .bad
  | [.tup ps] => match pairsOf ps with
    | some kds => .ok (.dic (mergeP [] [] kds).1 (mergeP [] [] kds).2)
    | none => .bad
  | _ => .bad
theorem N_dictA : NoErrL dictAD := fun ds n h => by
  unfold dictAD at h
  split at h
  · split at h <;> cases h
  · split at h <;> cases h
  · cases h
theorem B_dictA {K : PySem.W.Frag} : ClB K (fun xs H Q => rDict1 xs H Q \/ rDictP K xs H Q) dictAD := by
  rintro H xs ds L Q r ⟨d, hg, q⟩
  unfold dictAD at hg
  split at hg
  · rename_i ks ds
    refine .inl (B_dict1 H xs _ L Q r ⟨d, hg, q⟩)
  · rename_i ps
    split at hg
    · rename_i kds hp
      cases hg
      obtain ⟨v, rfl, a, vs, rfl, ha, rs⟩ := reps1 r
      obtain ⟨qs, h1, h2⟩ := pairs_vals rs hp
      refine .inr ⟨a, vs, qs, rfl, ha, h1, fun l hl => ?_⟩
      obtain ⟨b1, b2, b3⟩ := rep_merge kds qs [] [] h2 Reps.nil List.nodup_nil
      exact q _ _ [l] (Same.new hl) ⟨l, _, [], rfl, upd_same, rfl, b1, b2, b3.same (Same.new hl)⟩ (by simp) (fun b hb => by rw [List.mem_singleton.mp hb]; exact hl)
    · cases hg
  · cases hg
noncomputable def Ites (x : Str) : It :=
  ⟨fun i H => i < x.cps.size, fun i H v H' => ∃ p c, H p = none /\ v = .ref p /\ x.cps[i]? = some c /\ H' = upd H p (.tup [.int i, .str ⟨#[c]⟩]), fun i H => x.cps.size <= i⟩
theorem draws_str {prog : Program} {w : World} {A : Around} (hh : A.handled = none) (it : Addr) (x : Str) (t : Tok) :
    Draws prog w A it [it] x.cps.size (fun i v => ∃ c u, x.cps[i]? = some c /\ v = .str ⟨#[c]⟩ u) (fun i h => h.IsStrIter it (strIterType x) x t i) := by
  cases ha : x.cps.all (· < 128)
  · have e : strIterType x = "str_iterator" := by simp [strIterType, ha]
    rw [e]; exact Draws.strWide hh it x t
  · have e : strIterType x = "str_ascii_iterator" := by simp [strIterType, ha]
    rw [e]; exact Draws.strAscii hh it x t
theorem turn_enumS {P : Program} {w : World} {K : PySem.W.Frag} {elts : List Expr} {x1 : Nat} {tpos : Pos} (x : Str) (t : Tok) (e it : Addr) (hne : e ≠ it) : Turn P w K (.Tuple elts x1 tpos) (Ites x) [e, it] e (fun i h => i <= x.cps.size /\ (∃ old, IsEnum h e it i old) /\ h.IsStrIter it (strIterType x) x t i) where
  mem := by simp
  obj := fun i h st b hb => by
    obtain ⟨_, ⟨old, s1⟩, o, e1, c, d⟩ := st
    have hb : b = e \/ b = it := by simpa using hb
    rcases hb with rfl | rfl
    · exact ⟨_, s1, fun v z => by cases z⟩
    · exact ⟨o, e1, fun v z => by rw [d] at z; cases z⟩
  keep := fun i h h' st k => by
    obtain ⟨z, ⟨old, s1⟩, o, e1, r⟩ := st
    exact ⟨z, ⟨old, k e (by simp) _ s1⟩, o, k it (by simp) o e1, r⟩
  item := by
    intro X hP hw hK hc i pins s σ H E I hf st hg
    subst hP hw hK
    obtain ⟨hzi, ⟨old, s1⟩, s2⟩ := st
    have hg : i < x.cps.size := hg
    obtain ⟨f0, f1, f2, f3, f4, f5⟩ := hf e (by simp)
    obtain ⟨g0, g1, g2, g3, g4, g5⟩ := hf it (by simp)
    refine wpAny_pyNext_enum_itemD (draws_str (A := X.A.in1) (I.ok.hd hc) it x t) s1 s2 hg hne (by simpa using hne) fun v h1 tk hv out it1 tup sz kp => ?_
    obtain ⟨c, uu, hcx, rfl⟩ := hv
    refine ⟨_, rfl, wpAny_letOwnedTupleGo_enum out fun h2 en2 sb2 => ?_⟩
    have sb2 : Heap.SameBut e h1 h2 := sb2
    have eT : e ≠ s.heap.objs.size := Nat.ne_of_lt (Heap.lt_size s1)
    have iT : it ≠ s.heap.objs.size := by
      obtain ⟨o, q, _⟩ := s2
      exact Nat.ne_of_lt (Heap.lt_size q)
    have hfresh : H s.heap.objs.size = none := I.hok.fresh (Nat.le_refl _)
    have keep2 : ∀ b o, b ≠ e -> b ≠ it -> s.heap.get? b = some o -> h2.get? b = some o := fun b o n1 n2 q => (sb2.2 b n1).trans (kp b o n1 n2 q)
    have nE : ∀ b u, H b = some u -> b ≠ e := fun b u q z => by rw [z, f0] at q; cases q
    have nI : ∀ b u, H b = some u -> b ≠ it := fun b u q z => by rw [z, g0] at q; cases q
    have htup : h2.get? s.heap.objs.size = some { cls := .type "tuple", data := .seq #[.int i tk, .str ⟨#[c]⟩ uu] } := (sb2.2 _ (Ne.symm eT)).trans tup
    have hok2 : HOk X.prog X.w (upd H s.heap.objs.size (.tup [.int i, .str ⟨#[c]⟩])) h2 := fun b ob q => by
      by_cases hb : b = s.heap.objs.size
      · subst hb
        rw [upd_same] at q; cases q
        exact ⟨by show 2 <= sizeLine; decide, [.int i tk, .str ⟨#[c]⟩ uu], .cons ⟨_, rfl⟩ (.cons ⟨_, rfl⟩ .nil), ⟨_, htup, rfl, rfl, _, rfl⟩⟩
      · rw [upd_ne hb] at q
        refine (I.hok b ob q).stay (fun c v hc r => keep2 c v ?_ ?_ r) (fun c z => ?_) fun c ys z => ?_
        · rcases hc with rfl | hc
          · exact nE c _ q
          · exact nE c _ hc
        · rcases hc with rfl | hc
          · exact nI c _ q
          · exact nI c _ hc
        · rw [upd_ne (ne_of_none z hfresh)]; exact z
        · rw [upd_ne (ne_of_none z hfresh)]; exact z
    have I2 : Inv X pins σ (upd H s.heap.objs.size (.tup [.int i, .str ⟨#[c]⟩])) { s with heap := h2, gens := s.gens, drawn := s.drawn, toks := tk + 1 } := by
      refine I.step (ch := [e, it]) (fun b hb => ?_) (fun b o _ _ hc q _ => keep2 b o (fun z => hc (by simp [z])) (fun z => hc (by simp [z])) q) (fun b o _ _ hc q _ => ⟨o.slots, keep2 b o (fun z => hc (by simp [z])) (fun z => hc (by simp [z])) q⟩) (fun b o hc q n => ?_)
        (fun b o hc q => ⟨o, keep2 b o (fun z => hc (by simp [z])) (fun z => hc (by simp [z])) q⟩) (fun b ys z => by rw [upd_ne (ne_of_none z hfresh)]; exact z) (fun b o v z => by rw [upd_ne (ne_of_none z hfresh)]; exact z)
        (fun b ps z => ⟨#[], by rw [upd_ne (ne_of_none z hfresh), z]; simp⟩) (fun m hm => ?_) hok2 I.bare
      · have hb : b = e \/ b = it := by simpa using hb
        rcases hb with rfl | rfl
        · exact ⟨f3, f1, f4, f5⟩
        · exact ⟨g3, g1, g4, g5⟩
      · rw [upd_ne (Nat.ne_of_lt (Heap.lt_size q))]; exact n
      · obtain ⟨o, es, ep, ho, r⟩ := hm
        exact ⟨o, es, ep, keep2 _ o (Ne.symm f1) (Ne.symm g1) ho, r⟩
    refine ⟨.ref s.heap.objs.size, _, I2, rfl, ⟨s.heap.objs.size, c, hfresh, rfl, hcx, rfl⟩, ⟨hg, ⟨.str ⟨#[c]⟩ uu, ?_⟩, ?_⟩, fun b hb => ?_⟩
    · exact_mod_cast en2
    · obtain ⟨o, q, r⟩ := it1
      exact ⟨o, (sb2.2 it (Ne.symm hne)).trans q, r⟩
    · have hb : b = e \/ b = it := by simpa using hb
      rcases hb with rfl | rfl
      · rw [upd_ne eT]; exact f0
      · rw [upd_ne iT]; exact g0
  done := by
    intro X hP hw hK hc i pins s σ H E I hf st hg
    subst hP hw hK
    obtain ⟨hzi, ⟨old, s1⟩, s2⟩ := st
    have hg : x.cps.size <= i := hg
    have hi : i = x.cps.size := by omega
    subst hi
    obtain ⟨g0, g1, g2, g3, g4, g5⟩ := hf it (by simp)
    exact wpAny_pyNext_enum_endD (draws_str (A := X.A.in1) (I.ok.hd hc) it x t) s1 s2 fun h' eb => ⟨rfl, I.turned (t' := s.toks) (fun b o hb q => eb b o hb q) g0 g1 g3 g4 g5⟩
  self := fun A i s Q E st h => by
    obtain ⟨_, ⟨old, s1⟩, s2⟩ := st
    exact wpAny_pyIter_enum s1 h
noncomputable def iEnumS (ta : TA) : TI := fun σ H R => ta σ H fun vs H1 => ∃ x, vs = [.str x] /\ R (Ites x) H1
section
variable {X : Cx} {E : XK} {Γ : List Cl} {u : Tn -> R (List D)} {c : Rc} {p pos : Pos}
theorem pi_enumS {a : Expr} {ta : TA} {p pos tpos : Pos} {elts : List Expr} {x1 : Nat} (hg : Gl X "enumerate") (hm : X.mg "enumerate" = none) (ha : PA X [a] ta) (hb : bootBuiltins "enumerate" = some (.type "enumerate") := by rfl) (hs : starEach [a] X.env = [(false, eval a X.env)] := by rfl) :
    PI X (.Tuple elts x1 tpos) (.Call (.Name "enumerate" p) [a] [] pos) (iEnumS ta) := by
  intro pins s σ H R I h
  refine Call_ (ld_blt I hg hm hb (PyProof.Rows.callWith_type1 (thn (ha pos pins s σ H _ I h) fun us s1 ⟨vs, H1, I1, r1, q1⟩ => ?_) hs rfl))
  obtain ⟨x, e, q⟩ := q1
  subst e
  obtain ⟨u, rfl, ru⟩ := r1.one
  obtain ⟨t, rfl⟩ := ru
  refine call_enumerate_str fun h' en it sz kp => ?_
  refine wpAny_pyIter_enum en ?_
  have I2 : Inv X pins σ H1 { s1 with heap := h', toks := s1.toks } := I1.kept kp
  refine ⟨s1.heap.objs.size + 1, [s1.heap.objs.size + 1, s1.heap.objs.size], _, _, H1, rfl, I2, turn_enumS x t _ _ (Nat.succ_ne_self _), ⟨Nat.zero_le _, ⟨.none, en⟩, it⟩, fun b hb => ?_, q⟩
  have hb : b = s1.heap.objs.size + 1 \/ b = s1.heap.objs.size := by simpa using hb
  rcases hb with rfl | rfl
  · exact I1.fpOk (Nat.le_succ _) (I1.hok.fresh (Nat.le_succ _))
  · exact I1.fpOk (Nat.le_refl _) (I1.hok.fresh (Nat.le_refl _))
theorem ItOk.enumS {K : PySem.W.Frag} {H : Hp} {x : Str} : ItOk K (Ites x) (enumGo 0 (signs x)) [] H := by
  refine ⟨fun b hb => (nomatch hb), fun H' tf kp i => ⟨fun d hd => ?_, fun hl => ?_⟩⟩
  · obtain ⟨d', hd', rfl⟩ := enumGo_get 0 _ i d hd
    have hd2 : (x.cps.toList.map fun c => D.str ⟨#[c]⟩)[i]? = some d' := hd'
    rw [List.getElem?_map] at hd2
    cases hq : x.cps.toList[i]? with
    | none => rw [hq] at hd2; cases hd2
    | some c =>
      rw [hq] at hd2
      cases hd2
      have hi : i < x.cps.size := by
        have := (List.getElem?_eq_some_iff.mp hq).1
        simpa using this
      refine ⟨hi, fun y H'' ⟨p, c', hp, e2, e3, e4⟩ => ?_⟩
      subst e2 e4
      rw [<- Array.getElem?_toList, hq] at e3
      cases e3
      refine ⟨Same.new hp, [], ⟨p, _, rfl, SqT.of upd_same, ?_⟩, fun b hb => (nomatch hb)⟩
      exact ⟨_, _, [], [], rfl, rfl, ⟨by simp, rfl⟩, _, _, [], [], rfl, rfl, ⟨rfl, rfl⟩, rfl, rfl⟩
  · rw [enumGo_len] at hl
    have : (signs x).length = x.cps.size := by simp [signs]
    show x.cps.size <= i
    omega
noncomputable def enumA : List D -> R (List D)
  | [.lst ds] => .ok (enumGo 0 ds)
  | [.str x] => .ok (enumGo 0 (signs x))
  | _ => .bad
theorem mi_enumS {a : Expr} {elts : List Expr} {x1 : Nat} {tpos : Pos} (hg : Gl X "enumerate") (hm : X.mg "enumerate" = none) (ha : MA X E Γ [a] u c) (hb : bootBuiltins "enumerate" = some (.type "enumerate") := by rfl) (hs : starEach [a] X.env = [(false, eval a X.env)] := by rfl) :
    MI X E Γ (.Tuple elts x1 tpos) (.Call (.Name "enumerate" p) [a] [] pos) (iL enumA u) c := by
  obtain ⟨_, ta, p', q⟩ := ha
  refine ⟨fun σ H Rr => iEnum X.K ta σ H Rr \/ iEnumS ta σ H Rr, fun pins s σ H Rr I z => ?_, fun O σ H τ Rr ok h => ?_⟩
  · rcases z with z | z
    · exact pi_enum hg hm p' hb hs pins s σ H Rr I z
    · exact pi_enumS hg hm p' hb hs pins s σ H Rr I z
  · unfold iL at h
    cases ht : u τ with
    | ok ds =>
      rw [ht, R.ok_bind] at h
      unfold enumA at h
      split at h
      · rename_i ds
        refine .inl (q O σ H τ _ ok ?_)
        rw [ht]
        refine fun vs H1 L s r k => ?_
        obtain ⟨v, vs', L1, L2, e1, e2, r1, r2⟩ := r
        obtain ⟨rfl, rfl⟩ := r2
        rw [List.append_nil] at e2
        subst e2
        obtain ⟨a', vs2, L', rfl, ha, e, rs⟩ := r1
        exact ⟨a', e1, ⟨vs2, SqL.of ha⟩, h _ H1 _ s (ItOk.enum ha e rs) fun n => k.shr ok.dom n⟩
      · rename_i x
        refine .inr (q O σ H τ _ ok ?_)
        rw [ht]
        refine fun vs H1 L s r k => ?_
        obtain ⟨v, vs', L1, L2, e1, e2, r1, r2⟩ := r
        obtain ⟨rfl, rfl⟩ := r2
        obtain ⟨rfl, rfl⟩ := r1
        exact ⟨x, e1, h _ H1 [] s ItOk.enumS fun n a ha => (nomatch ha)⟩
      · exact h.elim
    | err n => rw [ht] at h; exact .inl (q O σ H τ _ ok (by rw [ht]; exact h))
    | bad => rw [ht] at h; exact h.elim
end
end L2
set_option maxRecDepth 100000
set_option maxHeartbeats 4000000
namespace L2
open PySem PySem.Spec PyProof.Rows
noncomputable def kputD (i : Nat) (τ : Tn) (d : D) : D -> D -> R Fl
  | .dic ks ds, k => (match keyOf k with
    | some k => if d.imm = true /\ ks.length < sizeLine then .ok (.nx (τ.set i (some (.dic (putP ks ds k d).1 (putP ks ds k d).2)))) else .bad
    | none => .bad)
  | _, _ => .bad
theorem ev_sKPut {i : Nat} {t ti : Tn -> R D} {τ : Tn} : sKPut i t ti τ = (t τ).bind fun d => (eVar i τ).bind fun l => (ti τ).bind fun k => kputD i τ d l k := by
  unfold sKPut
  congr 1; funext d; congr 1; funext l; congr 1; funext k
  cases l with
  | dic ks ds =>
    cases h : keyOf k <;> simp only [kputD, h]
  | _ => rfl
theorem ev_kput {i : Nat} {τ : Tn} {d : D} {ks : List Key} {ds : List D} {x : Str} (hd : d.imm = true) (hl : ks.length < 16777216) : kputD i τ d (.dic ks ds) (.str x) = .ok (.nx (τ.set i (some (.dic (putP ks ds (.inr x) d).1 (putP ks ds (.inr x) d).2)))) := if_pos ⟨hd, by rw [sizeLine_eq]; exact hl⟩
noncomputable def getDD (u v : Tn -> R D) (τ : Tn) : D -> R D
  | .dic ks ds => (u τ).bind fun k => (v τ).bind fun z => getK ks ds k z
  | _ => .bad
theorem ev_eGet {t u v : Tn -> R D} {τ : Tn} : eGet t u v τ = (t τ).bind (getDD u v τ) := by
  unfold eGet
  congr 1
theorem ev_getDD {u v : Tn -> R D} {τ : Tn} {ks : List Key} {ds : List D} : getDD u v τ (.dic ks ds) = (u τ).bind fun k => (v τ).bind fun z => getK ks ds k z := rfl
noncomputable def smD (g : Str -> List D -> R D) (u : Tn -> R (List D)) (τ : Tn) : D -> R D
  | .str z => (u τ).bind fun ds => g z ds
  | _ => .bad
theorem ev_eSm {g : Str -> List D -> R D} {t : Tn -> R D} {u : Tn -> R (List D)} {τ : Tn} : eSm g t u τ = (t τ).bind (smD g u τ) := by
  unfold eSm
  congr 1
theorem ev_smD {g : Str -> List D -> R D} {u : Tn -> R (List D)} {τ : Tn} {z : Str} : smD g u τ (.str z) = (u τ).bind fun ds => g z ds := rfl
theorem look_int : ∀ (ks : List Key) (ns : List Int) (k : Key) (pl : Int), ∃ n, (lookD ks (ns.map D.int) k).getD (.int pl) = .int n
  | [], _, _, pl => ⟨pl, rfl⟩
  | _ :: _, [], _, pl => ⟨pl, rfl⟩
  | k' :: ks, n :: ns, k, pl => by
    rw [List.map_cons]
    unfold lookD
    by_cases h : k' = k
    · rw [if_pos h]; exact ⟨n, rfl⟩
    · rw [if_neg h]; exact look_int ks ns k pl
theorem repl_int : ∀ (ks : List Key) (ns : List Int) (k : Key) (m : Int), ks.length = ns.length -> ∃ ms : List Int, replL ks (ns.map D.int) k (.int m) = ms.map D.int /\ ms.length = ks.length
  | [], [], _, _, _ => ⟨[], rfl, rfl⟩
  | [], _ :: _, _, _, h => by cases h
  | _ :: _, [], _, _, h => by cases h
  | k' :: ks, n :: ns, k, m, h => by
    obtain ⟨ms, e, hl⟩ := repl_int ks ns k m (by simpa using h)
    rw [List.map_cons]
    unfold replL
    rw [e]
    by_cases hk : k' = k
    · exact ⟨m :: ms, by rw [if_pos hk]; rfl, by simp [hl]⟩
    · exact ⟨n :: ms, by rw [if_neg hk]; rfl, by simp [hl]⟩
theorem put_int (ks : List Key) (ns : List Int) (k : Key) (m : Int) (h : ks.length = ns.length) : ∃ ms : List Int, (putP ks (ns.map D.int) k (.int m)).2 = ms.map D.int /\ (putP ks (ns.map D.int) k (.int m)).1.length = ms.length /\ (putP ks (ns.map D.int) k (.int m)).1.length <= ks.length + 1 := by
  unfold putP
  by_cases hk : k ∈ ks
  · rw [if_pos hk]
    obtain ⟨ms, e, hl⟩ := repl_int ks ns k m h
    exact ⟨ms, e, hl.symm, Nat.le_succ _⟩
  · rw [if_neg hk]
    exact ⟨ns ++ [m], by simp, by simp [h], by simp⟩
theorem merge_int : ∀ (ps : List (Str × Int)) (ks : List Key) (ns : List Int), ks.length = ns.length -> ∃ ms : List Int, (mergeP ks (ns.map D.int) (ps.map fun p => (Key.inr p.1, D.int p.2))).2 = ms.map D.int /\ (mergeP ks (ns.map D.int) (ps.map fun p => (Key.inr p.1, D.int p.2))).1.length = ms.length /\ (mergeP ks (ns.map D.int) (ps.map fun p => (Key.inr p.1, D.int p.2))).1.length <= ks.length + ps.length
  | [], ks, ns, h => ⟨ns, rfl, h, Nat.le_refl _⟩
  | p :: ps, ks, ns, h => by
    obtain ⟨ms, e1, e2, e3⟩ := put_int ks ns (.inr p.1) p.2 h
    rw [List.map_cons]
    unfold mergeP
    rw [e1]
    obtain ⟨ms', f1, f2, f3⟩ := merge_int ps _ ms e2
    exact ⟨ms', f1, f2, by rw [List.length_cons]; omega⟩
theorem look_repl : ∀ (ks : List Key) (ds : List D) (k : Key) (d : D), ks.length = ds.length -> k ∈ ks -> lookD ks (replL ks ds k d) k = some d
  | [], _, _, _, _, h => by cases h
  | _ :: _, [], _, _, h, _ => by cases h
  | k' :: ks, x :: ds, k, d, h, hm => by
    unfold replL lookD
    by_cases hk : k' = k
    · rw [if_pos hk, if_pos hk]
    · rw [if_neg hk]
      rcases List.mem_cons.mp hm with z | z
      · exact absurd z.symm hk
      · exact look_repl ks ds k d (by simpa using h) z
theorem look_app : ∀ (ks : List Key) (ds : List D) (k : Key) (d : D), ks.length = ds.length -> k ∉ ks -> lookD (ks ++ [k]) (ds ++ [d]) k = some d
  | [], [], k, d, _, _ => by
    show lookD [k] [d] k = _
    unfold lookD
    rw [if_pos rfl]
  | [], _ :: _, _, _, h, _ => by cases h
  | _ :: _, [], _, _, h, _ => by cases h
  | k' :: ks, x :: ds, k, d, h, hm => by
    show lookD (k' :: (ks ++ [k])) (x :: (ds ++ [d])) k = _
    unfold lookD
    rw [if_neg (show ¬ k' = k from fun z => hm (by rw [z]; exact List.mem_cons_self)), look_app ks ds k d (by simpa using h) (fun z => hm (List.mem_cons_of_mem _ z))]
theorem look_put (ks : List Key) (ds : List D) (k : Key) (d : D) (h : ks.length = ds.length) : lookD (putP ks ds k d).1 (putP ks ds k d).2 k = some d := by
  unfold putP
  by_cases hk : k ∈ ks
  · rw [if_pos hk]; exact look_repl ks ds k d h hk
  · rw [if_neg hk]; exact look_app ks ds k d h hk
theorem pairs_enc : ∀ ps : List (Str × Int), pairsOf (ps.map fun p : Str × Int => D.tup [.str p.1, .int p.2]) = some (ps.map fun p => (Key.inr p.1, D.int p.2))
  | [] => rfl
  | p :: ps => by
    rw [List.map_cons]
    show (match keyOf (D.str p.1) with
      | some k' => if (D.int p.2).imm = true then (pairsOf (ps.map fun p : Str × Int => D.tup [.str p.1, .int p.2])).map ((k', D.int p.2) :: ·) else none
      | none => none) = _
    rw [pairs_enc ps]
    rfl
theorem imms_pairs : ∀ ps : List (Str × Int), D.imms (ps.map fun p => D.tup [.str p.1, .int p.2]) = true
  | [] => rfl
  | p :: ps => by rw [List.map_cons]; show (true && D.imms (ps.map fun p => D.tup [.str p.1, .int p.2])) = true; rw [imms_pairs ps]; rfl
theorem strsOf_map : ∀ ys : List Str, strsOf (ys.map D.str) = some ys
  | [] => rfl
  | y :: ys => by rw [List.map_cons]; show (strsOf (ys.map D.str)).map (y :: ·) = _; rw [strsOf_map ys]; rfl
theorem ev_joinD {z : Str} {ys : List Str} (h : (ys.map (·.length)).sum + ys.length * z.length <= 16777216) : joinD z [.lst (ys.map D.str)] = .ok (.str (Str.join z ys)) := by
  have e : Txt.join z ys = Str.join z ys := eq_of_beq (join_plain_closes z ys)
  simp only [joinD, strsOf_map, if_pos h, e]
theorem enumGo_zip : ∀ (k : Nat) (ds : List D), enumGo k ds = (ds.zipIdx k).map fun p => .tup [.int (p.2 : Int), p.1]
  | _, [] => rfl
  | k, d :: ds => by
    unfold enumGo
    rw [List.zipIdx_cons, List.map_cons, enumGo_zip (k + 1) ds]
theorem ev_enumL {ds : List D} : enumL [.lst ds] = .ok (enumGo 0 ds) := rfl
theorem ev_enumS {x : Str} : enumA [.str x] = .ok (enumGo 0 (signs x)) := rfl
theorem ev_tuple1 {ds : List D} (h : D.imms ds = true) : tuple1D [.lst ds] = .ok (.tup ds) := if_pos h
theorem ev_dictP {ps : List (Str × Int)} : dictAD [.tup (ps.map fun p => D.tup [.str p.1, .int p.2])] = .ok (.dic (mergeP [] [] (ps.map fun p => (Key.inr p.1, D.int p.2))).1 (mergeP [] [] (ps.map fun p => (Key.inr p.1, D.int p.2))).2) := by
  simp only [dictAD, pairs_enc]
theorem ev_eqne {d : D} (hd : ∀ ks xs, d ≠ .dic ks xs) (h : eqF 12 d d = some true) : eqR true d d = .ok (.bl false) := by
  cases d with
  | dic ks xs => exact absurd rfl (hd ks xs)
  | _ => simp only [eqR, h] <;> rfl
end L2
set_option maxRecDepth 100000
set_option maxHeartbeats 4000000
namespace L2
open PySem PySem.Spec PyProof.Rows
noncomputable def topI : Option Int -> List Int -> Option Int
  | o, [] => o
  | none, n :: ns => topI (some n) ns
  | some m, n :: ns => topI (some (if n > m then n else m)) ns
noncomputable def bestO (h : Heap) (S : Addr) (o : Option Value) : Prop := ∃ c, h.get? S = some { cls := .type "list", dict := none, data := .seq (match o with | none => #[] | some v => #[v, v]) c, slots := #[] }
noncomputable def intO (o : Option Int) (v : Option Value) : Prop := match o, v with
  | none, none => True
  | some m, some u => ∃ t, u = .int m t
  | _, _ => False
section
variable {prog : Program} {w : World} {A : Around} {R : Result -> Shared -> Prop}
theorem loop_maxd {d : Value} {I S l : Addr} {items : List Value} (hIS : I ≠ S) (hlI : l ≠ I) (hlS : l ≠ S) (hh : A.in1.handled = none) :
    ∀ (ns : List Int) (i : Nat) (s : Shared) (o : Option Int) (v : Option Value), items.length = i + ns.length -> (∀ j n, ns[j]? = some n -> ∃ t, items[i + j]? = some (.int n t)) -> s.heap.IsListIter I l i -> s.heap.IsList l items.toArray -> bestO s.heap S v -> intO o v ->
      (∀ h' tk u, (match topI o ns with | none => u = d | some m => ∃ t, u = Value.int m t) -> (∀ b ob, b ≠ I -> b ≠ S -> s.heap.get? b = some ob -> h'.get? b = some ob) -> R (.ok (.ret u)) { s with heap := h', toks := tk }) ->
      codeAny (model prog w) A (.builtin "max.loop" ⟨[.ref I, .none, .ref S], [("default", d)]⟩) R s := by
  intro ns
  induction ns with
  | nil =>
    intro i s o v hlen hit hI hl hS ho hR
    obtain ⟨c, hS⟩ := hS
    refine codeAny_builtin PySem.F.entry_max_loop ?_
    rw [Around.under_plainId PySem.F.plain_max_loop _]
    show wpAny _ A.in1 (seqItems? (.ref S) >>= _) _ _ s
    refine wpAny_bind (wpAny_seqItems hS rfl ?_)
    show wpAny _ A.in1 (tryCatch (pyNext (.ref I)) _ >>= _) _ _ s
    refine wpAny_bind (wpAny_tryCatch (wpAny_pyNext_list_end hh hI hl (by simp at hlen; simp; omega) fun h' eb => ?_))
    cases o with
    | none =>
      cases v with
      | none =>
        refine wpAny_bind (wpAny_rule (wpAny_pure (hR h' s.toks d rfl fun b ob n1 n2 e => eb b ob n1 e)))
      | some u => exact ho.elim
    | some m =>
      cases v with
      | none => exact ho.elim
      | some u =>
        obtain ⟨t, rfl⟩ := ho
        show wpAny _ A.in1 (updateSeq S (fun _ => #[]) >>= _) _ _ _
        refine wpAny_bind (wpAny_updateSeq (eb S _ (Ne.symm hIS) hS) rfl (wpAny_bind (wpAny_letGo (wpAny_pure ?_))))
        refine hR _ s.toks (.int m t) ⟨t, rfl⟩ fun b ob n1 n2 e => ?_
        exact (Heap.get?_update_other _ _ (Ne.symm n2)).trans (eb b ob n1 e)
  | cons n ns ih =>
    intro i s o v hlen hit hI hl hS ho hR
    obtain ⟨c, hS⟩ := hS
    obtain ⟨t0, hx⟩ := hit 0 n rfl
    refine codeAny_builtin PySem.F.entry_max_loop ?_
    rw [Around.under_plainId PySem.F.plain_max_loop _]
    show wpAny _ A.in1 (seqItems? (.ref S) >>= _) _ _ s
    refine wpAny_bind (wpAny_seqItems hS rfl ?_)
    show wpAny _ A.in1 (tryCatch (pyNext (.ref I)) _ >>= _) _ _ s
    refine wpAny_bind (wpAny_tryCatch (wpAny_pyNext_list_item hI hl (x := .int n t0) (by simpa using hx) fun h1 hI1 sb1 => ?_))
    have hS1 := (sb1.2 S (Ne.symm hIS)).trans hS
    have hl1 : h1.IsList l items.toArray := hl.extBut sb1.extBut hlI
    have hlen' : items.length = (i + 1) + ns.length := by rw [List.length_cons] at hlen; omega
    have hit' : ∀ j n, ns[j]? = some n -> ∃ t, items[i + 1 + j]? = some (.int n t) := fun j m hj => by
      have := hit (j + 1) m (by simpa using hj)
      rwa [show i + (j + 1) = i + 1 + j by omega] at this
    have hname : (toString "max" ++ toString ".loop" : String) = "max.loop" := by decide
    have put : ∀ (m : Int) (t : Tok) (xs : Array Value) (c' : Nat) (tk : Nat), h1.get? S = some { cls := .type "list", dict := none, data := .seq xs c', slots := #[] } -> topI o (n :: ns) = topI (some m) ns ->
        codeAny (model prog w) A (.builtin "max.loop" ⟨[.ref I, .none, .ref S], [("default", d)]⟩) R { s with heap := h1.update S (Obj.mapSeq fun _ => #[.int m t, .int m t]), toks := tk } := fun m t xs c' tk e eo => by
      refine ih (i + 1) _ (some m) (some (.int m t)) hlen' hit' ?_ ?_ ⟨_, Heap.get?_update_self _ e rfl⟩ ⟨t, rfl⟩ fun h' tk' u hu hk => ?_
      · obtain ⟨oi, a, b⟩ := hI1
        exact ⟨oi, (Heap.get?_update_other _ _ (Ne.symm hIS)).trans a, b⟩
      · exact hl1.at fun ob a => (Heap.get?_update_other _ _ (Ne.symm hlS)).trans a
      · rw [<- eo] at hu
        exact hR h' tk' u hu fun b ob n1 n2 a => hk b ob n1 n2 ((Heap.get?_update_other _ _ (Ne.symm n2)).trans ((sb1.2 b n1).trans a))
    cases o with
    | none =>
      cases v with
      | some u => exact ho.elim
      | none =>
        show wpAny _ A.in1 (updateSeq S (fun _ => #[.int n t0, .int n t0]) >>= _) _ _ _
        refine wpAny_bind (wpAny_updateSeq hS1 rfl ?_)
        rw [hname]
        exact wpAny_pure ⟨plainId_quiet PySem.F.plain_max_loop _, put n t0 _ _ _ hS1 rfl⟩
    | some m =>
      cases v with
      | none => exact ho.elim
      | some u =>
        obtain ⟨t, rfl⟩ := ho
        show wpAny _ A.in1 (tryCatch (holding [.int n t0, .int n t0] (richCompare .Gt (.int n t0) (.int m t) >>= _)) _ >>= _) _ _ _
        refine wpAny_bind (wpAny_tryCatch (wpAny_holding (wpAny_bind (CmpOf.ints_gt (P := fun k v => ∃ t, v = .int (if k = 0 then n else m) t) (fun k => if k = 0 then n else m) (fun _ _ h => h) 0 1 (.int n t0) (.int m t) _ _ _ ⟨t0, rfl⟩ ⟨t, rfl⟩ ?_))))
        refine wpAny_bind (wpAny_holding (wpAny_truthy_bool ?_))
        refine wpAny_bind (wpAny_letGo (wpAny_pure ?_))
        by_cases hg : n > m
        · have hd : (fun i j : Nat => decide ((if i = 0 then n else m) > (if j = 0 then n else m))) 0 1 = true := decide_eq_true hg
          rw [if_pos hd]
          refine wpAny_bind (wpAny_updateSeq hS1 rfl (wpAny_bind (wpAny_letGo ?_)))
          rw [hname]
          exact wpAny_pure ⟨plainId_quiet PySem.F.plain_max_loop _, put n t0 _ _ _ hS1 (by show topI (some (if n > m then n else m)) ns = _; rw [if_pos hg])⟩
        · have hd : (fun i j : Nat => decide ((if i = 0 then n else m) > (if j = 0 then n else m))) 0 1 = false := decide_eq_false hg
          rw [if_neg (by rw [hd]; exact Bool.false_ne_true)]
          refine wpAny_bind (wpAny_letGo ?_)
          rw [hname]
          refine wpAny_pure ⟨plainId_quiet PySem.F.plain_max_loop _, ih (i + 1) _ (some m) (some (.int m t)) hlen' hit' hI1 hl1 ⟨_, hS1⟩ ⟨t, rfl⟩ fun h' tk' u hu hk => ?_⟩
          have eo : topI (some m) (n :: ns) = topI (some m) ns := by show topI (some (if n > m then n else m)) ns = _; rw [if_neg hg]
          rw [<- eo] at hu
          exact hR h' tk' u hu fun b ob n1 n2 a => hk b ob n1 n2 ((sb1.2 b n1).trans a)
end
section
variable {prog : Program} {w : World} {A : Around} {E : Value -> Shared -> Prop} {s : Shared}
theorem call_maxd {l : Addr} {items : List Value} {ns : List Int} {d : Value} {Q : Value -> Shared -> Prop} (hh : A.handled = none) (hl : s.heap.IsList l items.toArray) (hi : IntsAre items ns)
    (h : ∀ h' tk u, (match topI none ns with | none => u = d | some m => ∃ t, u = Value.int m t) -> (∀ b ob, s.heap.get? b = some ob -> h'.get? b = some ob) -> Q u { s with heap := h', toks := tk }) :
    wpAny (model prog w) A (call (.builtin "max") [.ref l] [("default", d)]) Q E s := by
  have hname : (toString "max" ++ toString ".loop" : String) = "max.loop" := by decide
  have hlt : l < s.heap.objs.size := by obtain ⟨o, ho, _⟩ := hl; exact Heap.lt_size ho
  refine wpAny_call (codeAny_call_builtin PySem.F.plain_max PySem.F.entry_max ?_)
  have body : wpAny (model prog w) A.in1 (Builtin.«max» ⟨[.ref l], [("default", d)]⟩) (fun fin s' => match fin with
      | .done f => (match (Except.ok f : Result) with | .ok (.ret v) => Q v s' | .ok _ => False | .error e => E e s')
      | .again c' => c'.quiet = true /\ codeAny (model prog w) A c' (fun r s' => match r with | .ok (.ret v) => Q v s' | .ok _ => False | .error e => E e s') s') E s := by
    show wpAny _ A.in1 (Builtin.Builtins.bindParams "max" ["key", "default"] 0 ⟨[], [("default", d)]⟩ >>= _) _ _ s
    refine wpAny_bind (wpAny_of_eq (show Builtin.Builtins.bindParams "max" ["key", "default"] 0 ⟨[], [("default", d)]⟩ = pure [none, some d] from rfl) ?_)
    refine wpAny_bind (wpAny_pure ?_)
    refine wpAny_bind (wpAny_pyIter_list hl ?_)
    refine wpAny_bind (wpAny_newObj_type ?_)
    rw [hname]
    have hz : (s.heap.push { cls := .type "list_iterator", data := .fields #[.ref l, .int 0 0] }).objs.size = s.heap.objs.size + 1 := Heap.size_push ..
    refine wpAny_pure ⟨plainId_quiet PySem.F.plain_max_loop _, ?_⟩
    refine loop_maxd (I := s.heap.objs.size) (S := (s.heap.push { cls := .type "list_iterator", data := .fields #[.ref l, .int 0 0] }).objs.size) (l := l) (items := items) (by rw [hz]; exact Nat.ne_of_lt (Nat.lt_succ_self _)) (Nat.ne_of_lt hlt) (by rw [hz]; exact Nat.ne_of_lt (Nat.lt_succ_of_lt hlt)) hh ns 0 _ none none (by rw [Nat.zero_add]; exact hi.length) (fun j n hj => ?_) ?_ ((hl.push _).push _) ⟨_, Heap.get?_push_size _ rfl⟩ trivial fun h' tk u hu hk => ?_
    · rw [Nat.zero_add]
      have hj2 : j < items.length := by rw [hi.length]; exact (List.getElem?_eq_some_iff.mp hj).1
      obtain ⟨t, e⟩ := PyProof.Rows.IntsAre.int_at hi j _ (List.getElem?_eq_getElem hj2)
      refine ⟨t, ?_⟩
      rw [List.getElem?_eq_getElem hj2, e]
      simp [List.getD, hj]
    · exact ⟨_, Heap.get?_push_of_some _ (Heap.get?_push_size _ rfl), rfl, rfl⟩
    · refine h h' tk u hu fun b ob e => ?_
      have hb := Heap.lt_size e
      exact hk b ob (Nat.ne_of_lt hb) (by rw [hz]; exact Nat.ne_of_lt (Nat.lt_succ_of_lt hb)) (Heap.get?_push_of_some _ (Heap.get?_push_of_some _ e))
  have ha : argsOk "max" ⟨[.ref l], [("default", d)]⟩ := by unfold argsOk; kernel_rfl
  simp only [checkBuiltinCall, PySem.F.kind_max]
  cases hsig : Manifest.signature? "max" with
  | none => exact wpAny_pure body
  | some sig =>
    have ha' : Bind.checkArgs "max" sig ⟨[.ref l], [("default", d)]⟩ = pure () := by simpa only [argsOk, hsig] using ha
    simp only [ha']
    exact wpAny_pure body
end
noncomputable def tMaxd (K : PySem.W.Frag) (te tf : TE) : TE := fun σ H Q => te σ H fun x H1 => tf σ H1 fun y H2 => ∃ p ns, x = .ref p /\ SqL K H2 p (ns.map V.int) /\ (match topI none ns with | none => Q y H2 | some m => Q (.int m) H2)
section
variable {X : Cx} {E : XK} {Γ : List Cl} {e f : Expr} {t u : Tn -> R D} {ca cb : Rc} {p pos kp : Pos} {te tf : TE}
theorem pe_maxd (hc : X.calm = true) (hg : Gl X "max") (hm : X.mg "max" = none) (ha : PE X e te) (hd : PE X f tf) (he : starEach [e] X.env = (false, eval e X.env) :: starEach [] X.env := by rfl)
    (he2 : backTo pos (starEach [e] X.env) = (false, eval e X.env) :: backTo pos (starEach [] X.env) := by rfl) (hplain : (backTo pos (starEach [e] X.env)).any (·.1) = false := by rfl)
    (hall : (backToKw pos (keywordEach [⟨some "default", f, kp⟩] X.env)).all (·.1.isSome) = true := by rfl) (hkw : (backToKw pos (keywordEach [⟨some "default", f, kp⟩] X.env)).any (·.1.isNone) = false := by rfl) :
    PE X (.Call (.Name "max" p) [e] [⟨some "default", f, kp⟩] pos) (tMaxd X.K te tf) := by
  intro pins s σ H Q I h
  refine wpAny_Call_Name_kw (ld_blt I hg hm PyProof.Rows.boot_max ?_ (by decide) (by decide))
  refine PyProof.Rows.callWith_kw ?_ he2 hplain hall hkw
  refine thn ((pa_cons ha pa_nil he) pos pins s σ H (fun xs H1 => match xs with
    | [x] => tf σ H1 fun y H2 => ∃ p ns, x = .ref p /\ SqL X.K H2 p (ns.map V.int) /\ (match topI none ns with | none => Q y H2 | some m => Q (.int m) H2)
    | _ => False) I h) fun us s1 ⟨vs, H1, I1, r1, q1⟩ => ?_
  match vs, r1, q1 with
  | [x], r1, q1 =>
    obtain ⟨ux, rfl, rx⟩ := vals1 r1
    refine PyProof.Rows.kws_cons (thn (hd pins s1 σ H1 _ I1 q1) fun uy s2 ⟨y, H2, I2, ry, q2⟩ => PyProof.Rows.kws_nil ?_)
    obtain ⟨a, ns, rfl, hs, q⟩ := q2
    obtain rfl : ux = Value.ref a := rx
    obtain ⟨its, rv, pl, hz⟩ := I2.list hs
    show wpAny _ _ (call (.builtin "max") [.ref a] [("default", uy)]) _ _ _
    refine call_maxd (I2.ok.hd hc) pl.isList (intsAre_of rv) fun h' tk v hv hk => ?_
    cases hT : topI none ns with
    | none =>
      rw [hT] at hv q
      have hv : v = uy := hv
      subst hv
      exact ⟨y, H2, I2.kept hk, ry, q⟩
    | some m =>
      rw [hT] at hv q
      exact ⟨.int m, H2, I2.kept hk, hv, q⟩
noncomputable def maxdD : D -> D -> R D
  | .lst ds, d => (match intsOf ds with
    | some ns => (match topI none ns with
      | none => if d.imm = true then .ok d else .bad
      | some m => .ok (.int m))
    | none => .bad)
  | _, _ => .bad
theorem me_maxd (hc : X.calm = true) (hg : Gl X "max") (hm : X.mg "max" = none) (ha : ME X E Γ e t ca) (hd : ME X E Γ f u cb) (he : starEach [e] X.env = (false, eval e X.env) :: starEach [] X.env := by rfl)
    (he2 : backTo pos (starEach [e] X.env) = (false, eval e X.env) :: backTo pos (starEach [] X.env) := by rfl) (hplain : (backTo pos (starEach [e] X.env)).any (·.1) = false := by rfl)
    (hall : (backToKw pos (keywordEach [⟨some "default", f, kp⟩] X.env)).all (·.1.isSome) = true := by rfl) (hkw : (backToKw pos (keywordEach [⟨some "default", f, kp⟩] X.env)).any (·.1.isNone) = false := by rfl) :
    ME X E Γ (.Call (.Name "max" p) [e] [⟨some "default", f, kp⟩] pos) (eBin maxdD t u) .fresh := by
  obtain ⟨te, p1, q1⟩ := ha
  obtain ⟨tf, p2, q2⟩ := hd
  refine ⟨_, pe_maxd hc hg hm p1 p2 he he2 hplain hall hkw, fun O σ H τ Q ok h => ?_⟩
  unfold eBin at h
  refine q1 O σ H τ _ ok (post.bind h fun dx hx h x H1 Lx s1 rx kx => q2 O σ H1 τ _ (ok.same s1) (post.bind2 h s1 fun dy _ h y H2 Ly s2 ry _ => ?_))
  cases dx with
  | lst ds =>
    have h : post X.K E O .fresh H Q (match intsOf ds with
      | some ns => (match topI none ns with
        | none => if dy.imm = true then .ok dy else .bad
        | some m => .ok (.int m))
      | none => .bad) := h
    obtain ⟨a, vs, L', rfl, had, e2, rs⟩ := rx
    cases hi : intsOf ds with
    | none => rw [hi] at h; exact h.elim
    | some ns =>
      rw [hi] at h
      dsimp only at h
      have ev := intsOf_vals rs hi
      subst ev
      refine ⟨a, ns, rfl, SqL.of (s2 _ _ had), ?_⟩
      cases hT : topI none ns with
      | none =>
        rw [hT] at h
        dsimp only at h
        by_cases hz : dy.imm = true
        · rw [if_pos hz] at h
          have zL := Rep.imm _ _ _ ry hz
          subst zL
          exact h y H2 [] (s1.trans s2) ry RcOk.nil
        · rw [if_neg hz] at h; exact h.elim
      | some m =>
        rw [hT] at h
        exact h (.int m) H2 [] (s1.trans s2) ⟨rfl, rfl⟩ RcOk.nil
  | _ => exact h.elim
theorem top_some : ∀ (ns : List Int) (m : Int), ∃ k, topI (some m) ns = some k
  | [], m => ⟨m, rfl⟩
  | n :: ns, m => top_some ns _
theorem top_ge : ∀ (ns : List Int) (m k : Int), topI (some m) ns = some k -> m <= k /\ (∀ n ∈ ns, n <= k) /\ (k = m \/ k ∈ ns)
  | [], m, k, h => by cases h; exact ⟨Int.le_refl _, fun n hn => (by cases hn), .inl rfl⟩
  | n :: ns, m, k, h => by
    obtain ⟨a, b, c⟩ := top_ge ns _ k (show topI (some (if n > m then n else m)) ns = some k from h)
    by_cases hg : n > m
    · rw [if_pos hg] at a c
      refine ⟨by omega, fun x hx => ?_, ?_⟩
      · rcases List.mem_cons.mp hx with z | z
        · rw [z]; exact a
        · exact b x z
      · rcases c with c | c
        · exact .inr (c ▸ List.mem_cons_self)
        · exact .inr (List.mem_cons_of_mem _ c)
    · rw [if_neg hg] at a c
      refine ⟨a, fun x hx => ?_, ?_⟩
      · rcases List.mem_cons.mp hx with z | z
        · rw [z]; omega
        · exact b x z
      · rcases c with c | c
        · exact .inl c
        · exact .inr (List.mem_cons_of_mem _ c)
theorem ev_maxd {ns : List Int} {d : Int} : ∃ k, maxdD (.lst (ns.map D.int)) (.int d) = .ok (.int k) /\ (ns = [] -> k = d) /\ (∀ n ∈ ns, n <= k) /\ (ns ≠ [] -> k ∈ ns) := by
  cases ns with
  | nil => exact ⟨d, rfl, fun _ => rfl, fun n hn => (by cases hn), fun h => absurd rfl h⟩
  | cons n ns =>
    obtain ⟨k, hk⟩ := top_some ns n
    obtain ⟨a, b, c⟩ := top_ge ns n k hk
    refine ⟨k, ?_, fun h => (by cases h), fun x hx => ?_, fun _ => ?_⟩
    · have hT : topI none (n :: ns) = some k := hk
      simp only [maxdD, intsOf_map, hT]
    · rcases List.mem_cons.mp hx with z | z
      · rw [z]; exact a
      · exact b x z
    · rcases c with c | c
      · rw [c]; exact List.mem_cons_self
      · exact List.mem_cons_of_mem _ c
end
end L2
set_option maxRecDepth 100000
set_option maxHeartbeats 4000000
namespace L2
open PySem PySem.Spec PyProof.Rows
theorem repl_pos : ∀ (ks : List Key) (ns : List Int) (k : Key) (m : Int), ks.length = ns.length -> (∀ n ∈ ns, 1 <= n) -> 1 <= m -> ∃ ms : List Int, replL ks (ns.map D.int) k (.int m) = ms.map D.int /\ ms.length = ks.length /\ ∀ n ∈ ms, 1 <= n
  | [], [], _, _, _, _, _ => ⟨[], rfl, rfl, fun n hn => by cases hn⟩
  | [], _ :: _, _, _, h, _, _ => by cases h
  | _ :: _, [], _, _, h, _, _ => by cases h
  | k' :: ks, n :: ns, k, m, h, hp, hm => by
    obtain ⟨ms, e, hl, hq⟩ := repl_pos ks ns k m (by simpa using h) (fun x hx => hp x (List.mem_cons_of_mem _ hx)) hm
    rw [List.map_cons]
    unfold replL
    rw [e]
    by_cases hk : k' = k
    · refine ⟨m :: ms, by rw [if_pos hk]; rfl, by simp [hl], fun x hx => ?_⟩
      rcases List.mem_cons.mp hx with z | z
      · rw [z]; exact hm
      · exact hq x z
    · refine ⟨n :: ms, by rw [if_neg hk]; rfl, by simp [hl], fun x hx => ?_⟩
      rcases List.mem_cons.mp hx with z | z
      · rw [z]; exact hp n List.mem_cons_self
      · exact hq x z
theorem put_pos (ks : List Key) (ns : List Int) (k : Key) (m : Int) (h : ks.length = ns.length) (hp : ∀ n ∈ ns, 1 <= n) (hm : 1 <= m) : ∃ ms : List Int, (putP ks (ns.map D.int) k (.int m)).2 = ms.map D.int /\ (putP ks (ns.map D.int) k (.int m)).1.length = ms.length /\ (putP ks (ns.map D.int) k (.int m)).1.length <= ks.length + 1 /\ ∀ n ∈ ms, 1 <= n := by
  unfold putP
  by_cases hk : k ∈ ks
  · rw [if_pos hk]
    obtain ⟨ms, e, hl, hq⟩ := repl_pos ks ns k m h hp hm
    exact ⟨ms, e, hl.symm, Nat.le_succ _, hq⟩
  · rw [if_neg hk]
    refine ⟨ns ++ [m], by simp, by simp [h], by simp, fun x hx => ?_⟩
    rcases List.mem_append.mp hx with z | z
    · exact hp x z
    · rw [List.mem_singleton.mp z]; exact hm
theorem merge_pos : ∀ (ps : List (Str × Int)) (ks : List Key) (ns : List Int), ks.length = ns.length -> (∀ n ∈ ns, 1 <= n) -> (∀ p ∈ ps, 1 <= p.2) -> ∃ ms : List Int, (mergeP ks (ns.map D.int) (ps.map fun p => (Key.inr p.1, D.int p.2))).2 = ms.map D.int /\ (mergeP ks (ns.map D.int) (ps.map fun p => (Key.inr p.1, D.int p.2))).1.length = ms.length /\ (mergeP ks (ns.map D.int) (ps.map fun p => (Key.inr p.1, D.int p.2))).1.length <= ks.length + ps.length /\ ∀ n ∈ ms, 1 <= n
  | [], ks, ns, h, hp, _ => ⟨ns, rfl, h, Nat.le_refl _, hp⟩
  | p :: ps, ks, ns, h, hp, hq => by
    obtain ⟨ms, e1, e2, e3, e4⟩ := put_pos ks ns (.inr p.1) p.2 h hp (hq p List.mem_cons_self)
    rw [List.map_cons]
    unfold mergeP
    rw [e1]
    obtain ⟨ms', f1, f2, f3, f4⟩ := merge_pos ps _ ms e2 e4 fun x hx => hq x (List.mem_cons_of_mem _ hx)
    exact ⟨ms', f1, f2, by rw [List.length_cons]; omega, f4⟩
theorem look_pos : ∀ (ks : List Key) (ns : List Int) (k : Key) (pl : Int), (∀ n ∈ ns, 1 <= n) -> 1 <= pl -> ∃ n, (lookD ks (ns.map D.int) k).getD (.int pl) = .int n /\ 1 <= n
  | [], _, _, pl, _, h => ⟨pl, rfl, h⟩
  | _ :: _, [], _, pl, _, h => ⟨pl, rfl, h⟩
  | k' :: ks, n :: ns, k, pl, hp, h => by
    rw [List.map_cons]
    unfold lookD
    by_cases hk : k' = k
    · rw [if_pos hk]; exact ⟨n, rfl, hp n List.mem_cons_self⟩
    · rw [if_neg hk]; exact look_pos ks ns k pl (fun x hx => hp x (List.mem_cons_of_mem _ hx)) h
theorem sum_pos {α : Type} (f : α -> Int) (h : ∀ a, 1 <= f a) : ∀ xs : List α, (xs.length : Int) <= (xs.map f).sum
  | [] => by simp
  | x :: xs => by
    have := sum_pos f h xs
    have h1 := h x
    rw [List.map_cons, List.sum_cons, List.length_cons]
    push_cast
    omega
theorem best_spec (f : Nat -> Int) : ∀ k, (∀ i, i <= k -> f i <= bestV (fun i j => decide (i > j)) f k) /\ ∃ i, i <= k /\ bestV (fun i j => decide (i > j)) f k = f i
  | 0 => ⟨fun i hi => by have : i = 0 := by omega
                         subst this; exact Int.le_refl _, 0, Nat.le_refl _, rfl⟩
  | k + 1 => by
    obtain ⟨a, i, hi, e⟩ := best_spec f k
    unfold bestV
    by_cases h : decide (f (k + 1) > bestV (fun i j => decide (i > j)) f k) = true
    · rw [if_pos h]
      have h' := of_decide_eq_true h
      refine ⟨fun j hj => ?_, k + 1, Nat.le_refl _, rfl⟩
      by_cases hj2 : j = k + 1
      · subst hj2; exact Int.le_refl _
      · have := a j (by omega); omega
    · rw [if_neg h]
      have h' : ¬ (f (k + 1) > bestV (fun i j => decide (i > j)) f k) := fun z => h (decide_eq_true z)
      refine ⟨fun j hj => ?_, i, by omega, e⟩
      by_cases hj2 : j = k + 1
      · subst hj2; omega
      · exact a j (by omega)
theorem ev_maxL (n : Int) (ns : List Int) : ∃ k, maxLD [.lst ((n :: ns).map D.int)] = .ok (.int k) /\ (∀ x ∈ n :: ns, x <= k) /\ k ∈ n :: ns := by
  have e : maxLD [.lst ((n :: ns).map D.int)] = .ok (.int (maxV (n :: ns))) := by
    show (match intsOf ((n :: ns).map D.int) with
      | some (n :: ns) => R.ok (D.int (maxV (n :: ns)))
      | _ => .bad) = _
    rw [intsOf_map]
  obtain ⟨a, i, hi, ei⟩ := best_spec (fun i => (n :: ns).getD i 0) ((n :: ns).length - 1)
  refine ⟨_, e, fun x hx => ?_, ?_⟩
  · obtain ⟨j, hj, rfl⟩ := List.getElem_of_mem hx
    have := a j (by simp at hj ⊢; omega)
    rw [List.getD_eq_getElem?_getD, List.getElem?_eq_getElem hj] at this
    exact this
  · show bestV _ _ _ ∈ _
    rw [ei]
    have hl : i < (n :: ns).length := by simp at hi ⊢; omega
    rw [List.getD_eq_getElem?_getD, List.getElem?_eq_getElem hl]
    exact List.getElem_mem hl
theorem boolsOf_map : ∀ bs : List Bool, boolsOf (bs.map D.bl) = some bs
  | [] => rfl
  | b :: bs => by rw [List.map_cons]; show (boolsOf (bs.map D.bl)).map (b :: ·) = _; rw [boolsOf_map bs]; rfl
theorem ev_allD {bs : List Bool} : allD [.lst (bs.map D.bl)] = .ok (.bl (bs.all id)) := by
  simp only [allD, boolsOf_map]
end L2
set_option maxRecDepth 100000
set_option maxHeartbeats 4000000
namespace L2
open PySem PySem.Spec PyProof.Rows
section
open PySem.SeqAt PySem.MeetsSeq3
open PySem.AutoSeq1 (wpAny_loadPart')
end
end L2
set_option maxRecDepth 100000
set_option maxHeartbeats 4000000
namespace L2
open PySem PySem.Spec PyProof.Rows
noncomputable def rUpd : V -> List V -> Hp -> VK -> Prop := fun x xs H Q => ∃ a b kvs more, x = .ref a /\ xs = [.ref b] /\ a ≠ b /\ H a = some (.dK kvs) /\ H b = some (.dK more) /\ kvs.length + more.length <= sizeLine /\ Q .non (upd H a (.dK (mergeK kvs more)))
theorem mt_upd {X : Cx} : MtR X "dict.update" rUpd := by
  intro pins s σ H x xs v us Q I rx rs h
  obtain ⟨a, b, kvs, more, rfl, rfl, hab, ha, hb, hz, q⟩ := h
  obtain rfl : v = Value.ref a := rx
  obtain ⟨u, rfl, ru⟩ := vals1 rs
  obtain rfl : u = Value.ref b := ru
  obtain ⟨z1, hd1, vs1, rel1, dd1⟩ := dk_of I.hok ha
  obtain ⟨z2, hd2, vs2, rel2, dd2⟩ := dk_of I.hok hb
  have hl1 := rel1.length
  have hl2 := rel2.length
  refine call_meetsIn PySem.F.slot_dict_update dd1.typeIs PySem.F.entry_dict_update (PySem.F.args_dict_update_2 _ _) (meets_dict_update (mixKind X.prog X.w) a b hab hd2) ⟨vs1, vs2, dd1, dd2, by omega, fun h' dd' _ hs => ?_⟩
  have he : ∃ q, h'.get? a = some q := let ⟨q, _, _, hq, _⟩ := dd'; ⟨q, hq⟩
  have hm : KV (mergeK kvs more) (merged vs1 vs2) := KV.merge rel2 rel1
  have hl : (mergeK kvs more).length <= sizeLine := by
    have e1 := hm.length
    have e2 := merged_length_le vs1 vs2
    omega
  exact ⟨.non, _, d_write (t' := s.toks) I (by rw [ha]; exact True.intro) hs he (dk_new hl hd1 hm dd'), rfl, q⟩
theorem zip_paired {K : PySem.W.Frag} {H : Hp} : ∀ {kvs : List (Key × V)} {ds : List D}, Reps K H ds (kvs.map (·.2)) [] -> Paired (fun (p : Key × D) (q : Key × V) => p.1 = q.1 /\ Rep K H p.2 q.2 []) ((kvs.map (·.1)).zip ds) kvs
  | [], ds, r => by
    cases ds with
    | nil => exact .nil
    | cons d ds => obtain ⟨_, _, _, _, e, _⟩ := r; cases e
  | p :: kvs, [], r => by obtain ⟨e, _⟩ := r; cases e
  | p :: kvs, d :: ds, hq2 => by
    obtain ⟨v, vs', L1, L2, e1, e2, r1, r2⟩ := hq2
    rw [List.map_cons] at e1
    cases e1
    have h := List.append_eq_nil_iff.mp e2.symm
    obtain ⟨rfl, rfl⟩ := h
    exact .cons ⟨rfl, r1⟩ (zip_paired r2)
noncomputable def sUpd (i : Nat) (t : Tn -> R D) : Tn -> R Fl := fun τ => (eVar i τ).bind fun l => match l with
  | .dic ks ds => (t τ).bind fun d => match d with
    | .dic js es => if D.imms ds = true /\ D.imms es = true /\ ks.length + js.length <= sizeLine then .ok (.nx (τ.set i (some (.dic (mergeP ks ds (js.zip es)).1 (mergeP ks ds (js.zip es)).2)))) else .bad
    | _ => .bad
  | _ => .bad
section
variable {X : Cx} {E : XK} {Γ Γ1 Γ' Γl : List Cl} {e : Expr} {t : Tn -> R D} {pos : Pos}
theorem upt (i : Nat) {x : Str} {p0 p1 p2 : Pos} (h : MV X E Γ e t Γ1) (hN : X.N[i]? = some x := by rfl) (h0 : Γ[i]? = some .own := by rfl) (hk : Γ1[i]? = some .own := by rfl) (hv : Vis X.env.scope x := by first | exact Or.inl rfl | exact Or.inr (Or.inl rfl) | exact Or.inr (Or.inr rfl)) (hb : (x == ("__debug__" : Str)) = false := by decide) (hcd : (x == ("__classdict__" : Str)) = false := by decide)
    (hbase : attributeBase (.Name x p0) "update" X.env (eval (.Name x p0) X.env) = eval (.Name x p0) X.env := by rfl)
    (hfew : ((backTo p2 (starEach [e] X.env)).all (fun x => !x.1) && (backToKw p2 (keywordEach [] X.env)).all (fun x => x.1.isSome) && decide ([e].length + ([] : List Keyword).length + (if ([] : List Keyword).isEmpty then 0 else 1) < 30)) = true := by rfl)
    (hline : (p1.endLine == p2.line) = true := by rfl) (hs : starEach [e] X.env = (false, eval e X.env) :: starEach [] X.env := by rfl) (hplain : (backTo p2 (starEach [] X.env)).any (·.1) = false := by rfl)
    (hsw : swapsWith (.Call (.Attribute (.Name x p0) "update" p1) [e] [] p2) none pos.line X.env = pure false := by rfl) :
    MS X E Γl Γ (.Expr (.Call (.Attribute (.Name x p0) "update" p1) [e] [] p2) pos) (sUpd i t) Γ1 := by
  obtain ⟨te, p, q⟩ := h
  refine ⟨_, ps_expr (pe_bm PySem.F.plainAttrs_dict PySem.F.slot_dict_update PySem.F.type_dict_update mt_upd (pe_var (pos := p0) hN hv hb hcd) (pa_cons p pa_nil hs) hbase hfew hline hs hplain) hsw, fun B σ H τ Z ok h => ?_⟩
  obtain ⟨v, d, L, e1, e2, r, _⟩ := ok.slot h0
  refine ⟨v, e1, ?_⟩
  unfold sUpd at h
  have ev : eVar i τ = .ok d := by unfold eVar; rw [e2]
  rw [ev, R.ok_bind] at h
  cases d with
  | dic ks ds =>
    obtain ⟨a, kvs, L', rfl, ha, _, hks, hnd, rs⟩ := r
    refine ⟨.inr (.inr (.inl ⟨rfl, .inl ⟨kvs, ha⟩⟩)), q B σ H τ [] _ ok ?_⟩
    dsimp only at h
    cases ht : t τ with
    | ok d' =>
      rw [ht, R.ok_bind] at h
      refine fun y H1 Le s1 ry ok1 => ?_
      cases d' with
      | dic js es =>
        dsimp only at h
        by_cases hz : D.imms ds = true /\ D.imms es = true /\ ks.length + js.length <= sizeLine
        · rw [if_pos hz] at h
          obtain ⟨v1, d1, L1, q1, q2, r1, n1, n2, fin⟩ := ok1.slot hk
          rw [e1] at q1
          cases q1
          rw [e2] at q2
          cases q2
          obtain ⟨a1, kvs1, L1', z1, ha1, z2, hks1, hnd1, rs1⟩ := r1
          cases z1
          subst z2
          obtain ⟨b, kvs2, L2', rfl, hb2, z3, hjs, hnd2, rs2⟩ := ry
          subst z3
          have hab : a ≠ b := fun z => (n2 a List.mem_cons_self).2 (List.mem_append_left _ (z ▸ List.mem_cons_self))
          have mu : (∃ vs, H1 a = some (.lst vs)) \/ ∃ kvs, H1 a = some (.dK kvs) := .inr ⟨_, ha1⟩
          have rs1' := imms_nil rs1 hz.1
          have rs2' := imms_nil rs2 hz.2.1
          have e3 := Reps.imm _ _ _ rs1 hz.1
          subst e3
          have k1 := rs1'.upd (o := .dK (mergeK kvs1 kvs2)) mu (by simp)
          have k2 := rs2'.upd (o := .dK (mergeK kvs1 kvs2)) mu (by simp)
          subst hks1 hjs
          obtain ⟨b1, b2, b3⟩ := rep_merge _ kvs2 kvs1 ds (zip_paired k2) k1 hnd1
          refine ⟨a, b, kvs1, kvs2, rfl, rfl, hab, ha1, hb2, by have := hz.2.2; rw [List.length_map, List.length_map] at this; exact this, h _ _ (fin _ _ [a] (b :: L2') [] rfl (TF.upd mu) (fun c hc _ => upd_ne fun z => hc (z ▸ List.mem_cons_self)) ⟨a, _, [], rfl, upd_same, rfl, b1, b2, b3⟩ (fun c hc => .inl (by rw [List.mem_singleton.mp hc]; exact List.mem_cons_self)) (by simp))⟩
        · rw [if_neg hz] at h; exact h.elim
      | _ => exact h.elim
    | err n => rw [ht] at h; exact h
    | bad => rw [ht] at h; exact h
  | _ => exact h.elim
end
end L2
set_option maxRecDepth 100000
set_option maxHeartbeats 4000000
namespace L2
open PySem PySem.Spec PyProof.Rows
section
open PySem.SeqAt PySem.MeetsSeq3
open PySem.AutoSeq1 (wpAny_loadPart')
end
section
variable {X : Cx} {pins : List (Addr × Obj)} {σ : St} {H : Hp} {s : Shared}
end
end L2
set_option maxRecDepth 100000
set_option maxHeartbeats 4000000
namespace L2
open PySem PySem.Spec PyProof.Rows
section
variable {prog : Program} {w : World} {A : Around} {E : Value -> Shared -> Prop} {s : Shared}
end
section
variable {prog : Program} {w : World} {A : Around} {E : Value -> Shared -> Prop} {s : Shared}
variable {z TI TO i1 i2 l1 l2 : Addr} {k : Nat} {xs ys : Array Value} {st1 st2 : Nat -> Heap -> Prop} {a b : Value}
end
end L2
set_option maxRecDepth 100000
set_option maxHeartbeats 4000000
namespace L2
open PySem PySem.Spec PyProof.Rows
section
variable {X : Cx} {pins : List (Addr × Obj)} {σ : St} {H : Hp} {s : Shared} {a : Addr} {xs ys : List V} {h' : Heap}
end
end L2
set_option maxRecDepth 100000
set_option maxHeartbeats 4000000
namespace L2
open PySem PySem.Spec PyProof.Rows
section
variable {prog : Program} {w : World} {A : Around} {E : Value -> Shared -> Prop} {s : Shared}
end
section
variable {X : Cx}
end
section
variable {X : Cx} {E : XK} {Γ : List Cl} {u : Tn -> R (List D)} {c : Rc} {p pos : Pos}
end
end L2
set_option maxRecDepth 100000
set_option maxHeartbeats 4000000
namespace L2
open PySem PySem.Spec PyProof.Rows
section
variable {prog : Program} {w : World} {A : Around} {E : Value -> Shared -> Prop} {s : Shared}
end
section
variable {X : Cx} {E : XK} {Γ : List Cl} {e : Expr} {t : Tn -> R D} {c : Rc} {p2 pos : Pos}
end
section
variable {X : Cx} {E : XK} {Γ Γl : List Cl} {pos : Pos}
end
end L2
set_option maxRecDepth 100000
set_option maxHeartbeats 4000000
namespace L2
open PySem PySem.Spec PyProof.Rows
noncomputable def tTryR (K : PySem.W.Frag) (CS : Addr) (i : Nat) (sp : Sp) (dvs : List V) (t : TA) (ts : Addr -> Obj -> TS) : TS := fun D σ H => t σ H fun vs H1 => sp (vs ++ dvs) H1 (fun v H2 => D.rt v H2)
  (fun cls _ H2 => ∃ C, cls = .ref C /\ PySem.W.exmOne K (.ref C) (.ref CS) = some true /\ ∀ (e : Addr) (oe : Obj), oe.cls = .ref C -> H2 e = none ->
    ts e oe { nx := fun σ' H' => D.nx (σ'.set i none) H', rt := D.rt, bk := fun σ' H' => D.bk (σ'.set i none) H', ct := fun σ' H' => D.ct (σ'.set i none) H' } (σ.set i (some (.ref e))) H2)
theorem ps_tryR {X : Cx} {k : Nat} {f CS : Addr} {fd : FuncData} {ps : List Str} {sp : Sp} {dvs : List V} {ds : List Value} {x xc n : Str} {p pos pos' pc hpos tpos : Pos} {e : Expr} {es : List Expr} {t : TA} {i : Nat} {b₀ : Stmt} {suite : List Stmt} {ts : Addr -> Obj -> TS}
    (hst : X.stack = X.env :: X.outer) (hf : X.env.frame = some X.env.locals) (hc : X.calm = true) (hN : X.N.Nodup)
    (F : FnOk X.prog X.w X.K X.mg X.base (cxx X.prog X.w) k f fd ps sp) (hr : Room k X.A) (hg : Gl X x) (hm : X.mg x = some (.ref f)) (hk : PySem.W.keepIn X.K (.ref f) = true) (hb : Binds X.K fd ps ds) (hd : Vals dvs ds)
    (ha : PA X.nox (e :: es) t) (hgc : Gl X xc) (hmc : X.mg xc = some (.ref CS)) (hi : X.N[i]? = some n) (hx : X.env.scope.names.lookup n = some .local)
    (hsuite : ∀ (e : Addr) (oe : Obj), PSs (X.within e oe) (b₀ :: suite) (ts e oe))
    (hdb : (x == ("__debug__" : Str)) = false := by decide) (hdc : (xc == ("__debug__" : Str)) = false := by decide)
    (he : starEach (e :: es) X.env = (false, eval e X.env) :: starEach es X.env := by rfl) (hpl : (backTo pos (starEach es X.env)).any (·.1) = false := by rfl)
    (hsw : True := trivial) :
    PS X (.Try [.Return (some (.Call (.Name x p) (e :: es) [] pos)) pos'] [.ExceptHandler (some (.Name xc pc)) (some n) (b₀ :: suite) hpos] [] [] tpos) (tTryR X.K CS i sp dvs t ts) := by
  intro pins s σ H D I h
  have hhd : X.calm = true -> X.A.handled = none := I.ok.hd
  refine wpAny_Try_except (wpAny_execs_cons (wpAny_Return_some ?_))
  refine wpAny_Call_Name_kw (ld_glob I hg hm ?_ hdb)
  refine PySem.W.callWith_K (h₀ := X.base) I.ok.mod.kin hk ?_ he hpl
  refine wpAny_mono (ha pos pins s σ H _ (I.wish _) h) (fun us s1 ⟨vs, H1, I1, r, q⟩ => ⟨I1.kIn, ?_⟩) fun _ _ z => z.elim
  have I1 : Inv X pins σ H1 s1 := I1.unwish
  have r2 : Vals (vs ++ dvs) (us ++ ds) := r.append hd
  have hl : (us ++ ds).length = ps.length := by rw [<- r2.length]; exact F.len _ _ _ _ q
  refine wpAny_call (codeAny_mono (F.run X.A X.stack s1 H1 ⟨us, []⟩ (us ++ ds) (vs ++ dvs) _ _ hr I1.env0 (hb s1 us I1.kIn hl) r2 q) fun r s' hq => ?_)
  cases r with
  | ok fl =>
    cases fl with
    | ret u =>
      obtain ⟨v, H2, I2, rv, qn⟩ := I1.after hq
      exact ⟨v, σ, H2, I2, rv, qn⟩
    | next => exact False.elim hq
    | brk => exact False.elim hq
    | cont => exact False.elim hq
  | error ev =>
    obtain ⟨e1, cls, H2, rfl, os, bare, un, hok, ⟨B, a0, fl, cov⟩, C, rfl, hex, hsu⟩ := hq
    have I2 : Inv X pins σ H2 s' := I1.call' (ch := []) os un hok bare (fun b z => nomatch z)
    have fl' : Heap.FlyingW B (X.env :: X.outer) e1 (.ref C) a0 s'.heap := by rw [<- hst]; exact fl
    have hfr : X.A.frames = some (X.env :: X.outer) := by rw [<- hst]; exact I.ok.frames
    have o1 : ∀ b o, X.s₀.heap.get? b = some o -> b ∉ X.ex -> ∃ o, s1.heap.get? b = some o := fun b o q x => I1.base.there b o q x
    have o3 : ∀ p ∈ X.pn ++ pins, ∃ o, s1.heap.get? p.1 = some o := fun p hp => ⟨_, (I1.pin p hp).1⟩
    have flown : ∀ h' : Heap, B.StaysIn h' -> s'.heap.UpToSlots h' -> Inv X pins σ H2 { s' with heap := h' } := fun h' st up => I2.flown hst hf st up cov o1 o3
    have he2 : H2 e1 = none := by
      cases q : H2 e1 with
      | none => rfl
      | some u =>
        obtain ⟨o, ho⟩ := (I2.hok e1 u q).there
        have := cov e1 o ho (I2.trkNo q) (.inl (by rw [q]; simp))
        rw [fl.2.1] at this; cases this
    have apart : ∀ (h' : Heap), Heap.FlyingW B (X.env :: X.outer) e1 (.ref C) a0 h' -> ∃ oe, h'.get? e1 = some oe /\ oe.cls = .ref C /\ (∃ vs, oe.data = .fields vs) /\ e1 ≠ X.env.locals /\ e1 ∉ X.fs := fun h' z => by
      obtain ⟨oe, vs, q1, q2, q3, _⟩ := z.first
      have nfr : e1 ∉ frs (X.env :: X.outer) := fun m => by
        obtain ⟨_, o, ho, nf⟩ := z.2.2.1.mem m
        rw [q1] at ho; cases ho
        exact nf vs q3
      refine ⟨oe, q1, q2, ⟨vs, q3⟩, fun q => nfr ?_, fun m => nfr ?_⟩
      · rw [q]
        unfold frs
        rw [List.filterMap_cons, hf]
        exact List.mem_cons_self
      · unfold frs
        rw [List.filterMap_cons, hf]
        exact List.mem_cons_of_mem _ m
    refine wpAny_looks_onW hfr hf fl' fun h4 hd4 up4 => ?_
    refine wpAny_landsW hd4 fun h5 fl5 up5 => ?_
    have up5' : s'.heap.UpToSlots h5 := up4.trans up5
    have I5 := flown h5 fl5.1 up5'
    obtain ⟨oe5, g1, g2, ⟨vs5, g3⟩, g4, g5⟩ := apart h5 fl5
    have I5w : Inv (X.within e1 oe5) pins σ H2 { s' with heap := h5 } := I5.within g1 he2 g4 g5 (fun v q => by rw [g3] at q; cases q)
    refine wpAny_handleBy_cons (codeAny_handlers_test (ld_glob (X := X.within e1 oe5) I5w hgc hmc ?_ hdc)) (by intro q; cases q)
    have LT : PySem.W.Looks (model X.prog X.w) h5 (typeOf (.ref e1)) (.ref C) := g2 ▸ (PySem.W.Looks.ld g1).andThen .now
    refine (PySem.W.exm_one I5.kIn LT hex).here ?_
    refine codeAny_handlers_suite_as ?_
    refine lands_againW fl5 fun h6 fl6 up6 => ?_
    have I6 := flown h6 fl6.1 (up5'.trans up6)
    obtain ⟨oe6, k1, k2, ⟨vs6, k3⟩, k4, k5⟩ := apart h6 fl6
    refine store_ok2 I6 hN hi (.inl hx) (v := .ref e1) (u := .ref e1) rfl (fun s7 I7 sb => ?_) (.inr hx)
    obtain ⟨a7, sb7, ha7⟩ := sb
    have ne7 : e1 ≠ a7 := by
      rcases ha7 with z | z
      · rw [z]; exact k4
      · intro q
        obtain ⟨v, o, ho, hdd⟩ := I6.cell n a7 z
        rw [<- q] at ho
        have ho : h6.get? e1 = some o := ho
        rw [k1] at ho; cases ho
        rw [k3] at hdd; cases hdd
    have e7 : s7.heap.get? e1 = some oe6 := (sb7.2 e1 ne7).trans k1
    have I7w : Inv (X.within e1 oe6) pins (σ.set i (some (.ref e1))) H2 s7 := I7.within e7 he2 k4 k5 (fun v q => by rw [k3] at q; cases q)
    refine wpAny_mono (hsuite e1 oe6 pins s7 _ H2 _ I7w (hsu e1 oe6 k2 he2)) (fun fl8 s8 q8 => ?_) fun _ _ z => z.elim
    have q8 := SP.without q8 hhd
    cases fl8 with
    | next =>
      obtain ⟨σ8, H8, I8, q⟩ := q8
      exact name_out I8 hN hi hx fun s9 I9 => ⟨_, H8, I9, q⟩
    | brk =>
      obtain ⟨σ8, H8, I8, q⟩ := q8
      exact name_out I8 hN hi hx fun s9 I9 => ⟨_, H8, I9, q⟩
    | cont =>
      obtain ⟨σ8, H8, I8, q⟩ := q8
      exact name_out I8 hN hi hx fun s9 I9 => ⟨_, H8, I9, q⟩
    | ret u =>
      obtain ⟨v8, σ8, H8, I8, r8, q⟩ := q8
      exact name_out I8 hN hi hx fun s9 I9 => ⟨v8, _, H8, I9, r8, q⟩
end L2
set_option maxRecDepth 100000
set_option maxHeartbeats 4000000
namespace L2
open PySem PySem.Spec PyProof.Rows
noncomputable def sErr (x : Str) (u : Tn -> R (List D)) : Tn -> R Fl := fun τ => (u τ).bind fun ds => if ds.length <= sizeLine then .err x else .bad
theorem ms_raise {P : Program} {w : World} {K : PySem.W.Frag} {mg : Str -> Option Value} {base : Heap} {N : List Str} {qual : Str} {scope : Scope} {f : Addr} {cd : Value} {A : Around} {outer : List Env} {s : Shared} {H : Hp} {E : XK} {Γ Γl Γ' : List Cl}
    {x : Str} {C : Addr} {e₀ : Expr} {u : Tn -> R (List D)} {c : Rc} {np cpos pos : Pos} (hc : ErrC K x C) (hg : Gl (cxOf (cxx P w) P w K mg base N qual scope f cd A outer s H E) x)
    (ha : MA (cxOf (cxx P w) P w K mg base N qual scope f cd A outer s H E) E Γ [e₀] u c) (hd : (x == ("__debug__" : Str)) = false := by decide)
    (he : starEach [e₀] (envOfC qual scope s.heap.objs.size f cd) = (false, eval e₀ (envOfC qual scope s.heap.objs.size f cd)) :: starEach [] (envOfC qual scope s.heap.objs.size f cd) := by rfl) :
    MS (cxOf (cxx P w) P w K mg base N qual scope f cd A outer s H E) E Γl Γ (.Raise (some (.Call (.Name x np) [e₀] [] cpos)) none pos) (sErr x u) Γ' := by
  obtain ⟨_, ta, pa, q⟩ := ha
  refine ⟨tRaise C E ta, fun pins s1 σ H1 D I h => ps_raise (A := A) (show A.handled = none from I.ok.hd rfl) hc hg pa hd he rfl pins s1 σ H1 D I h, fun B σ H1 τ Z ok h => ?_⟩
  obtain ⟨O, eok, _⟩ := ok.eok
  refine q O σ H1 τ _ eok ?_
  unfold sErr at h
  cases hu : u τ with
  | ok ds =>
    rw [hu, R.ok_bind] at h
    refine fun vs H' L s r _ => ?_
    by_cases hz : ds.length <= sizeLine
    · rw [if_pos hz] at h
      exact ⟨by rw [r.length]; exact hz, h C H' hc (ok.ext.trans s)⟩
    · rw [if_neg hz] at h; exact h.elim
  | err n => rw [hu] at h; exact fun C' H' e s => h C' H' e (ok.ext.trans s)
  | bad => rw [hu] at h; exact h.elim
noncomputable def sTryR (F : List D -> R D) (u : Tn -> R (List D)) (g : Str -> Option D) : Tn -> R Fl := fun τ => match u τ with
  | .ok ds => (match F ds with
    | .ok d => .ok (.rt d)
    | .err m => (match g m with | some d => .ok (.rt d) | none => .bad)
    | .bad => .bad)
  | _ => .bad
noncomputable def Suite (X : Cx) (CS : Addr) (i : Nat) (sts : List Stmt) (g : Str -> Option D) : Prop := ∀ (m : Str) (d : D), g m = some d -> ∀ C, ErrC X.K m C -> PySem.W.exmOne X.K (.ref C) (.ref CS) = some true /\
  ∃ ts : Addr -> Obj -> TS, (∀ e oe, PSs (X.within e oe) sts (ts e oe)) /\ ∀ e oe (Z : Ends) (σ : St) (H : Hp), σ.length = X.N.length -> oe.cls = .ref C -> H e = none -> σ[i]? = some (some (.ref e)) -> (∀ v H', Same H H' -> Rep X.K H' d v [] -> Z.rt v H') -> ts e oe Z σ H
noncomputable def Suite.ts {X : Cx} {CS : Addr} {i : Nat} {sts : List Stmt} {g : Str -> Option D} (hs : Suite X CS i sts g) (e : Addr) (oe : Obj) : TS := fun Z σ H => ∃ (m : Str) (d : L2.D) (hg : g m = some d) (C : Addr) (hC : ErrC X.K m C), Classical.choose (hs m d hg C hC).2 e oe Z σ H
theorem Suite.pss {X : Cx} {CS : Addr} {i : Nat} {sts : List Stmt} {g : Str -> Option D} (hs : Suite X CS i sts g) (e : Addr) (oe : Obj) : PSs (X.within e oe) sts (hs.ts e oe) := by
  intro pins s σ H Z I h
  obtain ⟨m, d, hg, C, hC, z⟩ := h
  exact (Classical.choose_spec (hs m d hg C hC).2).1 e oe pins s σ H Z I z
section
variable {X : Cx} {E : XK} {Γ Γl Γ' : List Cl} {k : Nat} {CS : Addr} {ps : List Str} {F : List D -> R D} {nA : Nat} {x xc n : Str} {p pos pos' pc hpos tpos : Pos} {e : Expr} {es : List Expr} {u : Tn -> R (List D)} {c : Rc} {i : Nat} {b₀ : Stmt} {suite : List Stmt} {g : Str -> Option D}
theorem ms_tryR (O : Own X.prog X.w X.K X.mg X.base x k ps (spM X.K F nA)) (hN : X.N.Nodup) (hr : Room k X.A) (hg : Gl X x) (ha : MA X.nox (fun _ _ _ => False) Γ (e :: es) u c) (hgc : Gl X xc) (hmc : X.mg xc = some (.ref CS)) (hi : X.N[i]? = some n) (hx : X.env.scope.names.lookup n = some .local) (hil : i < X.N.length) (hΓ : Γ.length = X.N.length) (hs : Suite X CS i (b₀ :: suite) g)
    (hst : X.stack = X.env :: X.outer := by rfl) (hf : X.env.frame = some X.env.locals := by rfl) (hc : X.calm = true := by rfl) (hl : (e :: es).length = nA := by rfl)
    (hdb : (x == ("__debug__" : Str)) = false := by decide) (hdc : (xc == ("__debug__" : Str)) = false := by decide)
    (he : starEach (e :: es) X.env = (false, eval e X.env) :: starEach es X.env := by rfl) (hpl : (backTo pos (starEach es X.env)).any (·.1) = false := by rfl) :
    MS X E Γl Γ (.Try [.Return (some (.Call (.Name x p) (e :: es) [] pos)) pos'] [.ExceptHandler (some (.Name xc pc)) (some n) (b₀ :: suite) hpos] [] [] tpos) (sTryR F u g) Γ' := by
  obtain ⟨hlen, ta, pa, q⟩ := ha
  obtain ⟨f, fd, Fo, hm, hk, hb⟩ := O.ex
  refine ⟨_, ps_tryR hst hf hc hN Fo hr hg hm hk hb .nil pa hgc hmc hi hx hs.pss hdb hdc he hpl, fun B σ H τ Z ok h => ?_⟩
  obtain ⟨O', eok, _⟩ := ok.eok
  refine q O' σ H τ _ eok ?_
  unfold sTryR at h
  cases hu : u τ with
  | ok ds =>
    rw [hu] at h
    dsimp only at h
    refine fun vs H1 L s r _ => ?_
    have hv : (vs ++ []).length = nA := by rw [List.append_nil, r.length, hlen τ ds hu]; exact hl
    refine ⟨hv, ds, L, by rw [List.append_nil]; exact r, ?_⟩
    have sB : Same B H1 := ok.ext.trans s
    cases hF : F ds with
    | ok d =>
      rw [hF] at h
      exact fun v H' L' s' r' k' => h v H' L' (sB.trans s') r' k'.1 fun a ha => sB.non (k'.2 a ha)
    | err m =>
      rw [hF] at h
      dsimp only at h
      cases hgm : g m with
      | some d =>
        rw [hgm] at h
        dsimp only at h
        intro C H' hC s'
        refine ⟨C, rfl, (hs m d hgm C hC).1, fun e1 oe hcls hn => ⟨m, d, hgm, C, hC, ?_⟩⟩
        refine (Classical.choose_spec (hs m d hgm C hC).2).2 e1 oe _ _ H' (by rw [List.length_set, ok.lσ, hΓ]) hcls hn ?_ fun v H2 s2 r2 => h v H2 [] ((sB.trans s').trans s2) r2 List.nodup_nil fun a ha => nomatch ha
        rw [List.getElem?_set_self (by rw [ok.lσ, hΓ]; exact hil)]
      | none => rw [hgm] at h; exact h.elim
    | bad => rw [hF] at h; exact h.elim
  | err m => rw [hu] at h; exact h.elim
  | bad => rw [hu] at h; exact h.elim
end
end L2
set_option maxRecDepth 100000
set_option maxHeartbeats 4000000
namespace L2
open PySem PySem.Spec PyProof.Rows
inductive ClVs : List V -> List Value -> Prop where
  | nil : ClVs [] []
  | cons {c : V} {u : Value} {cs : List V} {us : List Value} (h : ClV c u) (t : ClVs cs us) : ClVs (c :: cs) (u :: us)
theorem ClVs.vals : ∀ {cs : List V} {us its : List Value}, ClVs cs us -> Vals cs its -> its = us
  | _, _, _, .nil, .nil => rfl
  | _, _, _, .cons h t, .cons r rs => by
    rw [ClVs.vals t rs]
    congr 1
    cases h with
    | ref a => exact r
    | ty n => exact r
noncomputable def rIsiT (K : PySem.W.Frag) (pn : List (Addr × Obj)) : List V -> Hp -> VK -> Prop := fun xs H Q => ∃ a oe C tp cs us b, xs = [.ref a, .ref tp] /\ (a, oe) ∈ pn /\ oe.cls = .ref C /\ ErrI K C /\ SqT K H tp cs /\ ClVs cs us /\ PySem.W.kitAny K (.ref C) us = some b /\ Q (.bl b) H
theorem call_isiT {X : Cx} : CallR X (.builtin "isinstance") (rIsiT X.K X.pn) := by
  intro pins s σ H xs us Q I r h
  obtain ⟨a, oe, C, tp, cs, cus, b, rfl, hm, hc, ci, ht, hcl, hk, q⟩ := h
  obtain ⟨u1, u2, rfl, rx, rc⟩ := vals2 r
  obtain rfl : u1 = Value.ref a := rx
  obtain rfl : u2 = Value.ref tp := rc
  obtain ⟨e1, _⟩ := I.pin _ (List.mem_append_left _ hm)
  obtain ⟨its, rv, ⟨o, ho, hcls, n, hd⟩, _⟩ := I.tuple ht
  have e2 := hcl.vals rv
  subst e2
  obtain ⟨cls, dd, data, sl⟩ := o
  have hcls : cls = .type "tuple" := hcls
  have hd : data = .seq its.toArray n := hd
  subst hcls hd
  exact PySem.W.kia_tup (kitx_exc ci) I.kIn ⟨_, e1, hc⟩ ho hk (fun z => by cases z) fun tk => ⟨.bl b, H, I.tok tk, rfl, q⟩
noncomputable def rMul1 : R2 := fun x y H Q => ∃ z, x = .str z /\ y = .int 1 /\ Q (.str z) H
theorem op_mul1 {X : Cx} : OpR X (binaryOp .Mult) rMul1 := by
  intro pins s σ H x y v u Q I rx ry h
  obtain ⟨z, rfl, rfl, q⟩ := h
  obtain ⟨t, rfl⟩ := rx
  obtain ⟨t', rfl⟩ := ry
  refine PySem.P.mul_str (by decide) (fun _ h => by simp at h) (fun _ h => by simp at h) ?_
  rw [if_neg (by decide), if_pos (by simp)]
  exact ⟨.str z, H, I, ⟨_, rfl⟩, q⟩
noncomputable def appAt : List D -> Nat -> D -> Option (List D)
  | .lst xs :: r, 0, d => if xs.length < sizeLine then some (.lst (xs ++ [d]) :: r) else none
  | e :: r, k + 1, d => (appAt r k d).map (e :: ·)
  | _, _, _ => none
noncomputable def sAppAt (i k : Nat) (d : D) : Tn -> R Fl := fun τ => (eVar i τ).bind fun l => match l with
  | .tup ds => (match appAt ds k d with | some es => .ok (.nx (τ.set i (some (.tup es)))) | none => .bad)
  | .lst ds => (match appAt ds k d with | some es => .ok (.nx (τ.set i (some (.lst es)))) | none => .bad)
  | _ => .bad
theorem app_of {K : PySem.W.Frag} {H : Hp} {d : D} {v : V} (rd : ∀ H', Rep K H' d v []) : ∀ {ds es : List D} {vs : List V} {L : List Addr} {k : Nat}, Reps K H ds vs L -> appAt ds k d = some es -> L.Nodup -> ∃ b ws, vs[k]? = some (.ref b) /\ H b = some (.lst ws) /\ ws.length < sizeLine /\ b ∈ L /\ Reps K (upd H b (.lst (ws ++ [v]))) es vs L
  | [], _, _, _, k, _, h, _ => by cases k <;> cases h
  | d0 :: ds, es, _, _, 0, hq5, h, nd => by
    obtain ⟨v0, vs', L1, L2, e1, e2, r1, r2⟩ := hq5
    subst e1 e2
    cases d0 with
    | lst fs =>
      obtain ⟨b, ws, L', rfl, hb, e, rs⟩ := r1
      subst e
      have hl : ws.length = fs.length := rs.length
      have h : (if fs.length < sizeLine then some (D.lst (fs ++ [d]) :: ds) else none) = some es := h
      by_cases hz : fs.length < sizeLine
      · rw [if_pos hz] at h
        cases h
        have mu : (∃ vs, H b = some (.lst vs)) \/ ∃ kvs, H b = some (.dK kvs) := .inl ⟨_, hb⟩
        obtain ⟨n1, n2, n3⟩ := List.nodup_append.mp nd
        obtain ⟨m1, m2⟩ := List.nodup_cons.mp n1
        refine ⟨b, ws, rfl, hb, by omega, List.mem_append_left _ List.mem_cons_self, Reps.cons ⟨b, _, L', rfl, upd_same, rfl, ?_⟩ (r2.upd mu fun z => n3 b List.mem_cons_self b z rfl)⟩
        have := Reps.append (rs.upd (o := .lst (ws ++ [v])) mu m1) (Reps.cons (rd (upd H b (.lst (ws ++ [v])))) Reps.nil)
        rw [List.append_nil, List.append_nil] at this
        exact this
      · rw [if_neg hz] at h; cases h
    | _ => cases h
  | d0 :: ds, es, _, _, k + 1, hq5, h, nd => by
    obtain ⟨v0, vs', L1, L2, e1, e2, r1, r2⟩ := hq5
    subst e1 e2
    have h : (appAt ds k d).map (d0 :: ·) = some es := by cases d0 <;> exact h
    cases hq : appAt ds k d with
    | none => rw [hq] at h; cases h
    | some fs =>
      rw [hq] at h
      cases h
      obtain ⟨n1, n2, n3⟩ := List.nodup_append.mp nd
      obtain ⟨b, ws, a1, a2, a3, a4, a5⟩ := app_of rd r2 hq n2
      have mu : (∃ vs, H b = some (.lst vs)) \/ ∃ kvs, H b = some (.dK kvs) := .inl ⟨_, a2⟩
      exact ⟨b, ws, by simpa using a1, a2, a3, List.mem_append_right _ a4, Reps.cons (r1.upd mu fun z => n3 b z b a4 rfl) a5⟩
section
variable {X : Cx} {E : XK} {Γ Γl : List Cl} {pos : Pos}
theorem appc (i k : Nat) (d : D) {v : V} {te : TE} {ae : Expr} {x : Str} {n : Int} {c0 : Nat} {p0 p1 p2 p3 p4 : Pos} (pe : PE X ae (tC v)) (rd : ∀ H', Rep X.K H' d v []) (hn : n = (k : Int) := by rfl) (hN : X.N[i]? = some x := by rfl) (h0 : Γ[i]? = some .own := by rfl) (hv : Vis X.env.scope x := by first | exact Or.inl rfl | exact Or.inr (Or.inl rfl) | exact Or.inr (Or.inr rfl)) (hb : (x == ("__debug__" : Str)) = false := by decide) (hcd : (x == ("__classdict__" : Str)) = false := by decide)
    (hbase : attributeBase (.Subscript (.Name x p0) (.Constant (.int n) c0 p3) p4) "append" X.env (eval (.Subscript (.Name x p0) (.Constant (.int n) c0 p3) p4) X.env) = eval (.Subscript (.Name x p0) (.Constant (.int n) c0 p3) p4) X.env := by rfl)
    (hfew : ((backTo p2 (starEach [ae] X.env)).all (fun x => !x.1) && (backToKw p2 (keywordEach [] X.env)).all (fun x => x.1.isSome) && decide ([ae].length + ([] : List Keyword).length + (if ([] : List Keyword).isEmpty then 0 else 1) < 30)) = true := by rfl)
    (hline : (p1.endLine == p2.line) = true := by rfl) (hs : starEach [ae] X.env = (false, eval ae X.env) :: starEach [] X.env := by rfl) (hplain : (backTo p2 (starEach [] X.env)).any (·.1) = false := by rfl)
    (hsw : swapsWith (.Call (.Attribute (.Subscript (.Name x p0) (.Constant (.int n) c0 p3) p4) "append" p1) [ae] [] p2) none pos.line X.env = pure false := by rfl) :
    MS X E Γl Γ (.Expr (.Call (.Attribute (.Subscript (.Name x p0) (.Constant (.int n) c0 p3) p4) "append" p1) [ae] [] p2) pos) (sAppAt i k d) Γ := by
  subst hn
  refine ⟨_, ps_expr (pe_bm PySem.F.plainAttrs_list PySem.F.slot_list_append PySem.F.type_list_append mt_append (pe_ix ix_seq (pe_var (pos := p0) hN hv hb hcd) pe_int (fun _ _ => rfl)) (pa_cons pe pa_nil hs) hbase hfew hline hs hplain) hsw, fun B σ H τ Z ok h => ?_⟩
  obtain ⟨v0, d0, L, e1, e2, r, nd, n2, fin⟩ := ok.slot h0
  refine ⟨v0, e1, ?_⟩
  unfold sAppAt at h
  have ev : eVar i τ = .ok d0 := by unfold eVar; rw [e2]
  rw [ev, R.ok_bind] at h
  cases d0 with
  | tup ds =>
    dsimp only at h
    cases hq : appAt ds k d with
    | none => rw [hq] at h; exact h.elim
    | some es =>
      rw [hq] at h
      obtain ⟨a, vs, rfl, ha, rs⟩ := r
      obtain ⟨b, ws, c1, c2, cz, c3, c4⟩ := app_of rd rs hq nd
      have mu : (∃ vs, H b = some (.lst vs)) \/ ∃ kvs, H b = some (.dK kvs) := .inl ⟨_, c2⟩
      refine .inr (.inl ⟨a, vs, (k : Int), .ref b, rfl, rfl, ha, atI_nat c1, .inl ⟨rfl, ws, SqL.of c2⟩, b, ws, v, rfl, rfl, c2, cz, ?_⟩)
      exact h _ _ (fin _ _ L [] [] rfl (TF.upd mu) (fun c hc _ => upd_ne fun z => hc (z ▸ c3)) ⟨a, vs, rfl, ha.tf (TF.upd mu), c4⟩ (fun c hc => .inl hc) nd)
  | lst ds =>
    dsimp only at h
    cases hq : appAt ds k d with
    | none => rw [hq] at h; exact h.elim
    | some es =>
      rw [hq] at h
      obtain ⟨a, vs, L1, rfl, ha, e, rs⟩ := r
      subst e
      obtain ⟨m1, m2⟩ := List.nodup_cons.mp nd
      obtain ⟨b, ws, c1, c2, cz, c3, c4⟩ := app_of rd rs hq m2
      have mu : (∃ vs, H b = some (.lst vs)) \/ ∃ kvs, H b = some (.dK kvs) := .inl ⟨_, c2⟩
      have hab : a ≠ b := fun z => m1 (z ▸ c3)
      refine .inl ⟨a, vs, (k : Int), .ref b, rfl, rfl, SqL.of ha, atI_nat c1, .inl ⟨rfl, ws, SqL.of c2⟩, b, ws, v, rfl, rfl, c2, cz, ?_⟩
      exact h _ _ (fin _ _ (a :: L1) [] [] rfl (TF.upd mu) (fun c hc _ => upd_ne fun z => hc (z ▸ List.mem_cons_of_mem _ c3)) ⟨a, vs, L1, rfl, by rw [upd_ne hab]; exact ha, rfl, c4⟩ (fun c hc => .inl hc) nd)
  | _ => exact h.elim
end
end L2
set_option maxRecDepth 100000
set_option maxHeartbeats 4000000
namespace L2
open PySem PySem.Spec PyProof.Rows
theorem ms_raiseE {P : Program} {w : World} {K : PySem.W.Frag} {mg : Str -> Option Value} {base : Heap} {N : List Str} {qual : Str} {scope : Scope} {f : Addr} {cd : Value} {A : Around} {outer : List Env} {s : Shared} {H : Hp} {E : XK} {Γ Γl Γ' : List Cl}
    {x : Str} {e₀ : Expr} {u : Tn -> R (List D)} {c : Rc} {np cpos pos : Pos} (hc : ∃ C, ErrC K x C) (hg : Gl (cxOf (cxx P w) P w K mg base N qual scope f cd A outer s H E) x)
    (ha : MA (cxOf (cxx P w) P w K mg base N qual scope f cd A outer s H E) E Γ [e₀] u c) (hd : (x == ("__debug__" : Str)) = false := by decide)
    (he : starEach [e₀] (envOfC qual scope s.heap.objs.size f cd) = (false, eval e₀ (envOfC qual scope s.heap.objs.size f cd)) :: starEach [] (envOfC qual scope s.heap.objs.size f cd) := by rfl) :
    MS (cxOf (cxx P w) P w K mg base N qual scope f cd A outer s H E) E Γl Γ (.Raise (some (.Call (.Name x np) [e₀] [] cpos)) none pos) (sErr x u) Γ' := by
  obtain ⟨C, hc⟩ := hc
  exact ms_raise hc hg ha hd he
section
variable {X : Cx} {E : XK} {Γ Γl Γ' : List Cl} {k : Nat} {ps : List Str} {F : List D -> R D} {nA : Nat} {x xc n : Str} {p pos pos' pc hpos tpos : Pos} {e : Expr} {es : List Expr} {u : Tn -> R (List D)} {c : Rc} {i : Nat} {b₀ : Stmt} {suite : List Stmt} {g : Str -> Option D}
theorem ms_tryRC (O : Own X.prog X.w X.K X.mg X.base x k ps (spM X.K F nA)) (hN : X.N.Nodup) (hr : Room k X.A) (hg : Gl X x) (ha : MA X.nox (fun _ _ _ => False) Γ (e :: es) u c) (hgc : Gl X xc) (hi : X.N[i]? = some n) (hx : X.env.scope.names.lookup n = some .local) (hil : i < X.N.length) (hΓ : Γ.length = X.N.length) (hs : ∃ CS, X.mg xc = some (.ref CS) /\ Suite X CS i (b₀ :: suite) g)
    (hst : X.stack = X.env :: X.outer := by rfl) (hf : X.env.frame = some X.env.locals := by rfl) (hc : X.calm = true := by rfl) (hl : (e :: es).length = nA := by rfl)
    (hdb : (x == ("__debug__" : Str)) = false := by decide) (hdc : (xc == ("__debug__" : Str)) = false := by decide)
    (he : starEach (e :: es) X.env = (false, eval e X.env) :: starEach es X.env := by rfl) (hpl : (backTo pos (starEach es X.env)).any (·.1) = false := by rfl) :
    MS X E Γl Γ (.Try [.Return (some (.Call (.Name x p) (e :: es) [] pos)) pos'] [.ExceptHandler (some (.Name xc pc)) (some n) (b₀ :: suite) hpos] [] [] tpos) (sTryR F u g) Γ' := by
  obtain ⟨CS, h1, h2⟩ := hs
  exact ms_tryR O hN hr hg ha hgc h1 hi hx hil hΓ h2 hst hf hc hl hdb hdc he hpl
end
end L2
set_option maxRecDepth 100000
set_option maxHeartbeats 4000000
namespace L2
open PySem PySem.Spec PyProof.Rows
structure CompScopeC (X : Cx) (xc : Str) (N' : List Str) (fr : List (Option Nat)) (scope : Scope) : Prop where
  kind : scope.kind = .function
  one : ∃ pre post, scope.names = pre ++ (xc, NameKind.cell) :: post /\ ∀ y ∈ pre ++ post, y.2 ≠ .cell
  nox : ∀ y ∈ scope.names, y.1 = xc -> y.2 = .cell
  loc : ∀ y ∈ scope.names, y.2 = .local -> scope.names.lookup y.1 = some .local
  free : ∀ y ∈ scope.names, y.2 = .free -> ∃ c, X.env.cells.lookup y.1 = some c
  len : fr.length = N'.length
  fre : ∀ (j i : Nat) (x : Str), fr[j]? = some (some i) -> N'[j]? = some x -> X.N[i]? = some x /\ scope.names.lookup x = some .free /\ (X.env.kindOf x = some .cell \/ X.env.kindOf x = some .free)
noncomputable def compCxC (X : Cx) (scope : Scope) (xc : Str) (N' : List Str) (s₃ : Shared) (H₃ : Hp) (fp : List Addr) (pins : List (Addr × Obj)) : Cx :=
  { X with N := N', s₀ := s₃, H₀ := H₃, env := compEnvC scope ((xc, s₃.heap.objs.size + 1) :: closL X.env.cells scope.names []) s₃.heap.objs.size X.env, outer := X.stack, stack := X.stack, ex := fp, fn := fun y => y == xc, pn := X.pn ++ pins, xe := fun _ _ => False }
theorem forIn_skip {α β : Type} {f : α -> β -> Sem (ForInStep β)} {l' : List α} : ∀ {l : List α} (c : β), (∀ x ∈ l, ∀ c, f x c = pure (.yield c)) -> forIn (l ++ l') c f = forIn l' c f
  | [], _, _ => rfl
  | x :: l, c, h => by
    rw [List.cons_append, List.forIn_cons, h x List.mem_cons_self, pure_bind]
    exact forIn_skip c fun y hy => h y (List.mem_cons_of_mem _ hy)
theorem newEnvC {M : Model} {A : Around} {E : Value -> Shared -> Prop} {s : Shared} {scope : Scope} {globals : Addr} {closure : List (Str × Addr)} {qual : Str} {func : Option Addr} {code : Value} {outer : Env} {builtins : Addr} {Q : Env -> Shared -> Prop} {xc : Str} {pre post : List (Str × NameKind)}
    (hn : scope.names = pre ++ (xc, NameKind.cell) :: post) (hc : ∀ y ∈ pre ++ post, y.2 ≠ .cell)
    (hQ : Q { scope, locals := s.heap.objs.size, globals, cells := (xc, s.heap.objs.size + 1) :: closure, qual, func, code := outer.code, frame := outer.frame, builtins := outer.builtins } { s with heap := (s.heap.push { cls := .type "dict", data := .dict #[] }).push { cls := .type "cell", data := .cell none } }) :
    wpAny M A (newFunctionEnv scope globals closure [] qual func code (some outer) builtins) Q E s := by
  simp only [newFunctionEnv, Option.isSome_some, if_true]
  refine wpAny_bind (wpAny_alloc ?_)
  rw [hn, forIn_skip closure (fun x hx c => by
    obtain ⟨name, kind⟩ := x
    have : (kind == NameKind.cell) = false := by simpa using hc _ (List.mem_append_left _ hx)
    simp only [this, Bool.false_eq_true, if_false]), List.forIn_cons]
  have hz : (s.heap.push { cls := .type "dict", data := .dict #[] }).objs.size = s.heap.objs.size + 1 := Heap.size_push ..
  have e0 : (NameKind.cell == NameKind.cell) = true := rfl
  simp only [e0, if_true]
  refine wpAny_bind (wpAny_bind (wpAny_bind (wpAny_alloc (wpAny_pure ?_))))
  dsimp only
  rw [forIn_yield_id _ (fun x hx c => by
    obtain ⟨name, kind⟩ := x
    have : (kind == NameKind.cell) = false := by simpa using hc _ (List.mem_append_right _ hx)
    simp only [this, Bool.false_eq_true, if_false])]
  refine wpAny_pure ?_
  rw [List.forIn_nil, pure_bind]
  refine wpAny_pure ?_
  rw [hz]
  exact hQ
section
variable {X : Cx} {pins : List (Addr × Obj)} {σ : St} {H : Hp} {s : Shared} {xc : Str} {N' : List Str} {fr : List (Option Nat)} {scope : Scope} {fp : List Addr}
theorem clos_cellsC (S : CompScopeC X xc N' fr scope) {c0 c : Addr} {x : Str} (h : ((xc, c0) :: closL X.env.cells scope.names []).lookup x = some c) : (x = xc /\ c = c0) \/ (x ≠ xc /\ X.env.cells.lookup x = some c) := by
  rw [List.lookup_cons] at h
  by_cases hx : (x == xc) = true
  · rw [hx] at h
    exact .inl ⟨eq_of_beq hx, (Option.some.inj h).symm⟩
  · have hx' : (x == xc) = false := by simpa using hx
    rw [hx'] at h
    refine .inr ⟨fun z => hx (by rw [z]; simp), ?_⟩
    rcases closL_lookup h with z | ⟨z, e⟩
    · cases z
    · obtain ⟨c', hc⟩ := S.free _ z rfl
      have hc : X.env.cells.lookup x = some c' := hc
      rw [hc] at e
      rw [hc, e]; rfl
theorem oldCell (I : Inv X pins σ H s) {x : Str} {c : Addr} (h : X.env.cells.lookup x = some c) : c < s.heap.objs.size := by
  obtain ⟨v, o, ho, _⟩ := I.cell x c h
  exact Heap.lt_size ho
theorem comp_okC (I : Inv X pins σ H s) (S : CompScopeC X xc N' fr scope) (hf : ∀ b ∈ fp, FpOk X pins H b) (hlt : ∀ b ∈ fp, b < s.heap.objs.size) : (compCxC X scope xc N' s H fp pins).Ok := by
  refine ⟨I.ok.mod, S.kind, I.ok.glob, I.ok.blt, Nat.le_refl _, fun x y c h1 h2 => ?_, fun x hx => ?_, fun x c hx h => ?_, I.ok.hd, I.ok.frames, .inl rfl, fun b hb => ⟨Nat.ne_of_lt (hlt b hb), fun x c h => ?_⟩,
    I.bs, Nat.le_trans I.ok.bsz I.sz, fun b o e hb => ?_, fun b hb hm => ?_, I.stack, I.stkFree⟩
  · rcases clos_cellsC S h1 with ⟨a1, a2⟩ | ⟨a1, a2⟩ <;> rcases clos_cellsC S h2 with ⟨b1, b2⟩ | ⟨b1, b2⟩
    · rw [a1, b1]
    · rw [a2] at b2; exact absurd (oldCell I b2) (Nat.not_lt.mpr (Nat.le_succ _))
    · rw [b2] at a2; exact absurd (oldCell I a2) (Nat.not_lt.mpr (Nat.le_succ _))
    · exact I.ok.inj x y c a2 b2
  · have hx : (relabel scope X.env).names.lookup x = some .cell \/ (relabel scope X.env).names.lookup x = some .free := hx
    by_cases hxc : x = xc
    · exact ⟨s.heap.objs.size + 1, by rw [hxc]; show ((xc, s.heap.objs.size + 1) :: _).lookup xc = _; rw [List.lookup_cons]; simp⟩
    have key : scope.names.lookup x = some .free := by
      rcases hx with h | h
      · obtain ⟨k', e1, e2⟩ := lookup_relabel_of h
        rcases e2 with z | ⟨z, _⟩
        · exfalso
          have hm := PySem.mem_of_lookup e1
          obtain ⟨pre, post, hn, hc⟩ := S.one
          rw [hn] at hm
          rcases List.mem_append.mp hm with q | q
          · exact hc _ (List.mem_append_left _ q) z.symm
          · rcases List.mem_cons.mp q with q | q
            · exact hxc (by injection q)
            · exact hc _ (List.mem_append_right _ q) z.symm
        · rw [e1, z]
      · obtain ⟨k', e1, e2⟩ := lookup_relabel_of h
        rcases e2 with z | ⟨_, z⟩
        · rw [e1, <- z]
        · cases z
    obtain ⟨c, hc⟩ := closL_has (cells := X.env.cells) (names := scope.names) (acc := []) (.inl (PySem.mem_of_lookup key))
    refine ⟨c, ?_⟩
    show ((xc, s.heap.objs.size + 1) :: _).lookup x = _
    rw [List.lookup_cons, show (x == xc) = false by simpa using hxc]
    exact hc
  · have hx : (x == xc) = true := hx
    have hx := eq_of_beq hx
    rcases clos_cellsC S h with ⟨_, z⟩ | ⟨z, _⟩
    · rw [z]; exact Nat.le_succ _
    · exact absurd hx z
  · rcases clos_cellsC S h with ⟨_, z⟩ | ⟨_, z⟩
    · rw [z]; exact Nat.ne_of_gt (Nat.lt_succ_of_lt (hlt b hb))
    · exact (hf b hb).2.2.2.2.1 x c z
  · rcases (hf b hb).2.2.2.1 with z | z
    · exact I.ok.noex b o e z
    · exact absurd (Nat.lt_of_lt_of_le (Heap.lt_size e) (Nat.le_trans I.ok.bsz z)) (Nat.lt_irrefl _)
  · rcases List.mem_cons.mp (I.stkSub b hm) with z | z
    · exact (hf b hb).2.1 z
    · exact (hf b hb).2.2.1 z
theorem comp_inC {h' : Heap} {m : Str -> Option Value} {tk : Nat} (I : Inv X pins σ H s) (S : CompScopeC X xc N' fr scope) (hf : ∀ b ∈ fp, FpOk X pins H b) (hlt : ∀ b ∈ fp, b < s.heap.objs.size) (hn : h'.Ns s.heap.objs.size m)
    (hk : ∀ b o, s.heap.get? b = some o -> h'.get? b = some o) (hcl : h'.IsCell (s.heap.objs.size + 1) none) : Inv (compCxC X scope xc N' s H fp pins) [] (compSt fr σ) H { s with heap := h', toks := tk } := by
  refine ⟨comp_okC I S hf hlt, rfl, I.bare, Un.kept hk, ⟨m, hn, fun j x v e1 e2 e3 => ?_⟩, fun x c h => ?_, I.hok.fresh (Nat.le_refl _), fun x c h => by
    rcases clos_cellsC S h with ⟨_, z⟩ | ⟨_, z⟩
    · rw [z]; exact I.hok.fresh (Nat.le_succ _)
    · exact I.freeC x c z, fun p hp => ?_, I.hok.kept hk, by unfold compSt; rw [List.length_map]; exact S.len⟩
  · have e1 : N'[j]? = some x := e1
    unfold compSt at e2
    rw [List.getElem?_map] at e2
    cases hj : fr[j]? with
    | none => rw [hj] at e2; cases e2
    | some o =>
      rw [hj] at e2
      cases o with
      | none => cases e2
      | some i =>
        have e2 : (σ[i]?).join = some v := Option.some.inj e2
        have e2' : σ[i]? = some (some v) := by
          cases hq : σ[i]? with
          | none => rw [hq] at e2; cases e2
          | some w => rw [hq] at e2; rw [show w = some v from e2]
        obtain ⟨n1, n2, n3⟩ := S.fre j i x hj e1
        obtain ⟨m0, hn0, hl⟩ := I.loc
        have hvis : Vis X.env.scope x := by
          rcases n3 with z | z
          · exact .inr (.inl z)
          · exact .inr (.inr z)
        obtain ⟨u, r, l⟩ := hl i x v n1 e2' hvis
        refine ⟨u, r, .inr ⟨?_, ?_⟩⟩
        · have hh : ∀ {names : List (Str × NameKind)}, names.lookup x = some .free -> (names.map fun (n, k) => if (k == NameKind.free && X.env.scope.kind == .function && X.env.kindOf n == some .cell) then (n, NameKind.cell) else (n, k)).lookup x = some .cell \/
              (names.map fun (n, k) => if (k == NameKind.free && X.env.scope.kind == .function && X.env.kindOf n == some .cell) then (n, NameKind.cell) else (n, k)).lookup x = some .free := by
            intro names
            induction names with
            | nil => intro z; cases z
            | cons y r ih =>
              obtain ⟨n, k⟩ := y
              intro z
              rw [List.map_cons]
              dsimp only
              by_cases hx : (x == n) = true
              · rw [List.lookup_cons, hx] at z
                by_cases hc : (k == NameKind.free && X.env.scope.kind == .function && X.env.kindOf n == some .cell) = true
                · rw [if_pos hc]; exact .inl (by rw [List.lookup_cons, hx])
                · rw [if_neg hc]; exact .inr (by rw [List.lookup_cons, hx]; exact z)
              · have hx' : (x == n) = false := by simpa using hx
                rw [List.lookup_cons, hx'] at z
                have := ih z
                by_cases hc : (k == NameKind.free && X.env.scope.kind == .function && X.env.kindOf n == some .cell) = true
                · rw [if_pos hc, List.lookup_cons, hx']; exact this
                · rw [if_neg hc, List.lookup_cons, hx']; exact this
          exact hh n2
        · rcases l with ⟨k, _⟩ | ⟨k, c, e, z⟩
          · rcases n3 with q | q
            · rw [q] at k; cases k
            · rw [q] at k; cases k
          · obtain ⟨c', hc'⟩ := closL_has (cells := X.env.cells) (x := x) (names := scope.names) (acc := []) (.inl (PySem.mem_of_lookup n2))
            have nx : x ≠ xc := fun z => by
              have := S.nox _ (PySem.mem_of_lookup n2) z
              cases this
            have hc' : ((xc, s.heap.objs.size + 1) :: closL X.env.cells scope.names []).lookup x = some c' := by
              rw [List.lookup_cons, show (x == xc) = false by simpa using nx]
              exact hc'
            have e' : X.env.cells.lookup x = some c' := by
              rcases clos_cellsC S hc' with ⟨z, _⟩ | ⟨_, z⟩
              · exact absurd z nx
              · exact z
            rw [e] at e'; cases e'
            obtain ⟨o, ho, hd⟩ := z
            exact ⟨c, hc', o, hk _ _ ho, hd⟩
  · rcases clos_cellsC S h with ⟨_, z⟩ | ⟨_, z⟩
    · rw [z]; exact ⟨none, hcl⟩
    · obtain ⟨v, o, ho, hd⟩ := I.cell x c z
      exact ⟨v, o, hk _ _ ho, hd⟩
  · have hp : p ∈ (X.pn ++ pins) ++ [] := hp
    rw [List.append_nil] at hp
    obtain ⟨q, n, ne, nf, d⟩ := I.pin p hp
    refine ⟨hk _ _ q, n, Nat.ne_of_lt (Heap.lt_size q), fun hm => ?_, d⟩
    rcases List.mem_cons.mp (I.stkSub p.1 hm) with z | z
    · exact ne z
    · exact nf z
end
section
variable {X : Cx} {pins : List (Addr × Obj)} {σ τ : St} {H H₃ H5 : Hp} {s₃ s5 : Shared} {xc : Str} {N' : List Str} {scope : Scope} {fp : List Addr}
theorem comp_outC {h' : Heap} (I : Inv X pins σ H₃ s₃) (J : Inv (compCxC X scope xc N' s₃ H₃ fp pins) [] τ H5 s5) (hf : ∀ b ∈ fp, FpOk X pins H₃ b) (hs : Heap.SameBut s₃.heap.objs.size s5.heap h') : Inv X pins σ H5 { s5 with heap := h' } := by
  have hb : ∀ b o, s₃.heap.get? b = some o -> b ≠ s₃.heap.objs.size := fun b o q => Nat.ne_of_lt (Heap.lt_size q)
  have u : Un (frs X.stack) fp H₃ H5 s₃.heap s5.heap := J.base
  refine I.call' (s' := { s5 with heap := h' }) (ch := fp) J.os ⟨fun b o q n h1 h2 => (hs.2 b (hb b o q)).trans (u.keep b o q n h1 h2), fun b o q n h1 h2 => ?_, u.free, fun b o q h2 => ?_, u.tups, u.frzs, u.tbls⟩ (fun b ob q => ?_) J.bare (fun b m => ⟨(hf b m).2.2.2.1, (hf b m).2.1, (hf b m).2.2.2.2.1, (hf b m).2.2.2.2.2⟩)
  · obtain ⟨sl, e⟩ := u.slot b o q n h1 h2
    exact ⟨sl, (hs.2 b (hb b o q)).trans e⟩
  · obtain ⟨o', e⟩ := u.there b o q h2
    exact ⟨o', (hs.2 b (hb b o q)).trans e⟩
  · have fr : H5 s₃.heap.objs.size = none := J.free
    refine (J.hok b ob q).stay (fun c v hc r => (hs.2 c ?_).trans r) (fun _ z => z) fun _ _ z => z
    rintro rfl
    rcases hc with rfl | hc
    · rw [fr] at q; cases q
    · rw [fr] at hc; cases hc
end
theorem comp_genC {X : Cx} {xc : Str} {N' : List Str} {fr : List (Option Nat)} {scope : Scope} {tg iter elt : Expr} {ifs : List Expr} {wi : TI} {g : TG} {tc : TT} {te : TE} {pos cp : Pos} {use : Option (Value -> Sem Unit)} {Qf : Value -> Shared -> Prop} (hc : X.calm = true) (S : CompScopeC X xc N' fr scope) (hi : PI X tg iter wi)
    (hg : ∀ s₃ H₃ fp pins, PG (compCxC X scope xc N' s₃ H₃ fp pins) tg g) (ht : ∀ s₃ H₃ fp pins, PTs (compCxC X scope xc N' s₃ H₃ fp pins) ifs tc) (he : ∀ s₃ H₃ fp pins, PE (compCxC X scope xc N' s₃ H₃ fp pins) elt te)
    (hs : ∀ x, foldedSetIterable iter X.env x = pure x) {pins : List (Addr × Obj)} {s : Shared} {σ : St} {H : Hp} {Q : VK} (I : Inv X pins σ H s) (h : tComp fr wi g tc te σ H Q)
    (hfin : ∀ (s₃ : Shared) (H₃ : Hp) (fp : List Addr) (D : Addr) (s6 : Shared) (τ : St) (H5 : Hp) (fl : Flow), Inv X pins σ H₃ s₃ -> (∀ b ∈ fp, FpOk X pins H₃ b) -> Inv (compCxC X scope xc N' s₃ H₃ fp pins) [] τ H5 s6 -> Q (.ref D) H5 ->
      compPost (model X.prog X.w) X.A X.xe use Qf (.ref D) s₃.heap.objs.size (.ok fl) s6) :
    wpAny (model X.prog X.w) X.A (comprehension (.ListComp elt [⟨tg, iter, ifs, 0⟩] scope pos) scope X.env cp (newList []) false (eval iter X.env) use) Qf X.xe s := by
  refine wpAny_comprehension_free (use := use) rfl hs (closureFor_of S.free) S.kind S.loc ?_
  refine thn (hi pins s σ H _ I h) fun v s1 h1 => thn h1 fun itv s2 h2 => ?_
  obtain ⟨it, fp, tn, J, H2, rfl, I2, T, st2, f2, hW⟩ := h2
  refine wpAny_newObj_type ?_ (by size_fits)
  have hD : H2 s2.heap.objs.size = none := I2.hok.fresh (Nat.le_refl _)
  have I3 : Inv X pins σ (upd H2 s2.heap.objs.size (.lst [])) { s2 with heap := s2.heap.push { cls := .type "list", data := .seq ([] : List Value).toArray }, toks := s2.toks } :=
    I2.laid (fun b u e => Heap.get?_push_of_some _ e) (Nat.le_refl _) ⟨Nat.zero_le _, [], 0, .nil, Heap.get?_push_size _ rfl⟩
  generalize eD : s2.heap.objs.size = D at I3 hD ⊢
  generalize eH : upd H2 D (.lst []) = H3 at I3
  have f3 : ∀ b ∈ fp, FpOk X pins H3 b := fun b hb => by
    obtain ⟨g0, g1⟩ := f2 b hb
    refine ⟨?_, g1⟩
    obtain ⟨o, ho, _⟩ := T.obj 0 _ st2 b hb
    rw [<- eH, upd_ne (by rw [<- eD]; exact Nat.ne_of_lt (Heap.lt_size ho))]
    exact g0
  have lt3 : ∀ b ∈ fp, b < (s2.heap.push { cls := .type "list", data := .seq ([] : List Value).toArray }).objs.size := fun b hb => by
    obtain ⟨o, ho, _⟩ := T.obj 0 _ st2 b hb
    rw [Heap.size_push]
    exact Nat.lt_succ_of_lt (Heap.lt_size ho)
  have st3 : tn 0 (s2.heap.push { cls := .type "list", data := .seq ([] : List Value).toArray }) := T.keep _ _ _ st2 fun b _ o e => Heap.get?_push_of_some _ e
  obtain ⟨W, ⟨m0, w0⟩, turn⟩ := hW D hD
  rw [eH] at w0
  generalize es3 : ({ s2 with heap := s2.heap.push { cls := .type "list", data := .seq ([] : List Value).toArray }, toks := s2.toks } : Shared) = s3 at I3
  have lt3 : ∀ b ∈ fp, b < s3.heap.objs.size := by rw [<- es3]; exact lt3
  have st3 : tn 0 s3.heap := by rw [<- es3]; exact st3
  obtain ⟨pre, post, hnm, hcm⟩ := S.one
  refine newEnvC hnm hcm ?_
  generalize e4 : (s3.heap.push { cls := .type "dict", data := .dict #[] }).push { cls := .type "cell", data := .cell none } = h4
  have k4 : ∀ b o, s3.heap.get? b = some o -> h4.get? b = some o := fun b o e => by rw [<- e4]; exact Heap.get?_push_of_some _ (Heap.get?_push_of_some _ e)
  have hz1 : (s3.heap.push { cls := .type "dict", data := .dict #[] }).objs.size = s3.heap.objs.size + 1 := Heap.size_push ..
  have hn4 : h4.Ns s3.heap.objs.size (fun x => ([] : List (Str × Value)).reverse.lookup x) := by
    obtain ⟨o, es, ep, ho, r⟩ := Heap.Ns.new (h := s3.heap) (cls := .type "dict")
    exact ⟨o, es, ep, by rw [<- e4]; exact Heap.get?_push_of_some _ ho, r⟩
  have hc4 : h4.IsCell (s3.heap.objs.size + 1) none := ⟨_, by rw [<- e4, <- hz1]; exact Heap.get?_push_size _ rfl, rfl⟩
  have I4 : Inv (compCxC X scope xc N' s3 H3 fp pins) [] (compSt fr σ) H3 { s3 with heap := h4, toks := s3.toks } := comp_inC I3 S f3 lt3 hn4 k4 hc4
  have st4 : tn 0 h4 := T.keep _ _ _ st3 fun b _ o e => k4 b o e
  have stat : ∀ {H' : Hp} {p' : List (Addr × Obj)}, p' = [] -> (∀ b ∈ fp, H' b = none) -> ∀ b ∈ fp, FpOk (compCxC X scope xc N' s3 H3 fp pins) p' H' b := fun {H' p'} hp hn b hb => by
    subst hp
    obtain ⟨g0, g1, g2, g3, g4, g5⟩ := f3 b hb
    refine ⟨hn b hb, Nat.ne_of_lt (lt3 b hb), fun hm => ?_, .inl hb, fun x c h => ?_, fun p hp => ?_⟩
    · rcases List.mem_cons.mp (I3.stkSub b hm) with z | z
      · exact g1 z
      · exact g2 z
    · rcases clos_cellsC S h with ⟨_, z⟩ | ⟨_, z⟩
      · rw [z]; exact Nat.ne_of_gt (Nat.lt_succ_of_lt (lt3 b hb))
      · exact g4 x c z
    · have hp : p ∈ (X.pn ++ pins) ++ [] := hp
      rw [List.append_nil] at hp
      exact g5 p hp
  have loop : ∀ s' : Shared, s' = { s3 with heap := h4, toks := s3.toks } -> codeAny (model X.prog X.w) X.A (.compLoop (.ListComp elt [⟨tg, iter, ifs, 0⟩] scope pos) 0 (.ref it) (.ref D) (compEnvC scope ((xc, s3.heap.objs.size + 1) :: closL X.env.cells scope.names []) s3.heap.objs.size X.env))
      (compPost (model X.prog X.w) X.A X.xe use Qf (.ref D) s3.heap.objs.size) s' := by
    rintro s' rfl
    refine codeAny_loop rfl (fun n s' => ∃ i ys τ H', Inv (compCxC X scope xc N' s3 H3 fp pins) [] τ H' s' /\ tn i s'.heap /\ (∀ b ∈ fp, H' b = none) /\ W i n ys τ H') ?_ m0 ⟨0, [], _, H3, I4, st4, fun b hb => (f3 b hb).1, w0⟩
    rintro n s5 ⟨i, ys, τ, H5, I5, st5, fr5, w5⟩
    show wpAny _ X.A ((compTurn (.ListComp elt [⟨tg, iter, ifs, 0⟩] scope pos) 0 (.ref it) (.ref D) (compEnvC scope ((xc, s3.heap.objs.size + 1) :: closL X.env.cells scope.names []) s3.heap.objs.size X.env)).onRaise (fun x => do noteFrame x (compEnvC scope ((xc, s3.heap.objs.size + 1) :: closL X.env.cells scope.names []) s3.heap.objs.size X.env); theTreesLotGoes x)) _ _ s5
    refine wpAny_noted ?_
    rw [compTurn_list]
    obtain ⟨hDy, hor⟩ := turn i n ys τ H5 w5
    rcases hor with ⟨stop, q⟩ | ⟨go, step⟩
    · refine wpAny_bind (wpAny_standAt (wpAny_bind (thn (T.done (compCxC X scope xc N' s3 H3 fp pins) rfl rfl rfl hc i [] s5 τ H5 _ I5 (stat rfl fr5) st5 stop) fun r s6 ⟨hr, I6⟩ => ?_)))
      subst hr
      exact wpAny_pure (hfin s3 H3 fp D s6 τ H5 _ I3 f3 I6 q)
    · refine wpAny_bind (wpAny_standAt (wpAny_bind (thn (T.item (compCxC X scope xc N' s3 H3 fp pins) rfl rfl rfl hc i [] s5 τ H5 _ I5 (stat rfl fr5) st5 go) fun r s6 ⟨u, hr, h6⟩ => ?_)))
      subst hr
      refine wpAny_bind (thn h6 fun _ s7 ⟨x, H7, I7, r7, y7, st7, fr7⟩ => ?_)
      have I7' := I7.pinned (stat rfl fr7) (T.obj _ _ st7)
      refine wpAny_bind (wpAny_mono (hg s3 H3 fp pins _ s7 τ H7 x u _ I7' r7 (step x H7 y7)) (fun _ s8 ⟨τ8, H8, I8, q8⟩ => ?_) fun _ _ z => False.elim z)
      refine wpAny_bind (wpAny_mono (ht s3 H3 fp pins _ s8 τ8 H8 _ I8 q8) (fun b s9 ⟨H9, I9, q9⟩ => ?_) fun _ _ z => False.elim z)
      have again : ∀ {s' : Shared} {H' : Hp}, Inv (compCxC X scope xc N' s3 H3 fp pins) ([] ++ pinsAt fp s7.heap) τ8 H' s' -> tn (i + 1) s'.heap /\ ∀ b ∈ fp, H' b = none := fun {s' H'} I' => by
        refine ⟨T.keep _ _ _ st7 fun b hb o e => (I'.pin (b, o) (List.mem_append_right _ (List.mem_append_right _ (mem_pinsAt hb e)))).1, fun b hb => ?_⟩
        obtain ⟨o, e, d⟩ := T.obj _ _ st7 b hb
        exact (I'.pin (b, o) (List.mem_append_right _ (List.mem_append_right _ (mem_pinsAt hb e)))).2.1
      cases b with
      | false =>
        rw [if_neg Bool.false_ne_true] at q9
        obtain ⟨m', hm, w9⟩ := q9
        obtain ⟨a1, a2⟩ := again I9
        refine wpAny_pure ⟨rfl, m', hm, i + 1, ys, τ8, H9, I9.unpinned, a1, a2, w9⟩
      | true =>
        rw [if_pos rfl] at q9
        refine wpAny_bind (wpAny_bind (wpAny_mono (he s3 H3 fp pins _ s9 τ8 H9 _ I9 q9) (fun yv s10 ⟨y, H10, I10, r10, hD10, hz, m', hm, w10⟩ => ?_) fun _ _ z => False.elim z))
        refine wpAny_bind (wpAny_mono (mt_append (X := compCxC X scope xc N' s3 H3 fp pins) _ s10 τ8 H10 (.ref D) [y] (.ref D) [yv] (fun _ H11 => H11 = upd H10 D (.lst (ys ++ [y]))) I10 rfl (.cons r10 .nil) ⟨D, ys, y, rfl, rfl, hD10, hz, rfl⟩) (fun _ s11 ⟨_, H11, I11, _, q11⟩ => ?_) fun _ _ z => False.elim z)
        subst q11
        obtain ⟨a1, a2⟩ := again I11
        exact wpAny_pure (wpAny_pure ⟨rfl, m', hm, i + 1, ys ++ [y], τ8, _, I11.unpinned, a1, a2, w10⟩)
  exact codeAny_compStart_list (loop _ rfl) (T.self _ 0 _ _ _ st4 (loop _ rfl))
theorem pe_compC {X : Cx} {xc : Str} {N' : List Str} {fr : List (Option Nat)} {scope : Scope} {tg iter elt : Expr} {ifs : List Expr} {wi : TI} {g : TG} {tc : TT} {te : TE} {pos : Pos} (hc : X.calm = true) (S : CompScopeC X xc N' fr scope) (hi : PI X tg iter wi)
    (hg : ∀ s₃ H₃ fp pins, PG (compCxC X scope xc N' s₃ H₃ fp pins) tg g) (ht : ∀ s₃ H₃ fp pins, PTs (compCxC X scope xc N' s₃ H₃ fp pins) ifs tc) (he : ∀ s₃ H₃ fp pins, PE (compCxC X scope xc N' s₃ H₃ fp pins) elt te)
    (hs : ∀ x, foldedSetIterable iter X.env x = pure x := by intro _; rfl) : PE X (.ListComp elt [⟨tg, iter, ifs, 0⟩] scope pos) (tComp fr wi g tc te) := by
  intro pins s σ H Q I h
  rw [eval_ListComp]
  refine comp_genC (use := none) hc S hi hg ht he hs I h fun s3 H3 fp D s6 τ H5 fl I3 f3 I6 q => ?_
  obtain ⟨m6, hn6, _⟩ := I6.loc
  exact ⟨m6, hn6, fun h7 hs7 => ⟨.ref D, H5, comp_outC I3 I6 f3 hs7, rfl, q⟩⟩
end L2
set_option maxRecDepth 100000
set_option maxHeartbeats 4000000
namespace L2
open PySem PySem.Spec PyProof.Rows
section
variable {X : Cx} {E : XK} {Γ : List Cl} {pos : Pos}
theorem me_compC (xc : Str) {N' : List Str} {fr : List (Option Nat)} {scope : Scope} {tg iter elt : Expr} {ifs : List Expr} {it : Tn -> R (List D)} {g : Tgt} {cnd : Tn -> R Bool} {te : Tn -> R D} {ci c : Rc} (hc : X.calm = true) (S : CompScopeC X xc N' fr scope) (hi : MI X E Γ tg iter it ci)
    (hg : ∀ s₃ H₃ fp pins, MG (compCxC X scope xc N' s₃ H₃ fp pins) tg g) (ht : ∀ s₃ H₃ fp pins, MTs (compCxC X scope xc N' s₃ H₃ fp pins) noX (clsAll (Cl.ofIt ci) (compC fr Γ) g.slots) ifs cnd)
    (he : ∀ s₃ H₃ fp pins, ME (compCxC X scope xc N' s₃ H₃ fp pins) noX (clsAll (Cl.ofIt ci) (compC fr Γ) g.slots) elt te c) (hcl : c ≠ .bor) (hd : ∀ j ∈ g.slots, (compC fr Γ)[j]? = some .dead)
    (hs : ∀ x, foldedSetIterable iter X.env x = pure x := by intro _; rfl) : ME X E Γ (.ListComp elt [⟨tg, iter, ifs, 0⟩] scope pos) (eComp fr it g cnd te) c := by
  obtain ⟨wi, p, q⟩ := comp_snd (cnd := cnd) (te := te) hi hcl hd
  exact ⟨_, pe_compC hc S p (fun s₃ H₃ fp pins => (hg s₃ H₃ fp pins).pg) (fun s₃ H₃ fp pins => (ht s₃ H₃ fp pins).pts) (fun s₃ H₃ fp pins => (he s₃ H₃ fp pins).pe) hs, q⟩
end
noncomputable def isC (y : Str × NameKind) : Bool := decide (y.2 = .cell)
noncomputable def compChkC (outer : Scope) (N : List Str) (xc : Str) (N' : List Str) (fr : List (Option Nat)) (scope : Scope) : Bool :=
  decide (scope.kind = .function) && decide (scope.names = scope.names.takeWhile (fun y => !isC y) ++ (xc, NameKind.cell) :: (scope.names.dropWhile fun y => !isC y).tail) && (scope.names.takeWhile (fun y => !isC y) ++ (scope.names.dropWhile fun y => !isC y).tail).all (fun y => decide (y.2 ≠ .cell)) &&
  scope.names.all (fun y => decide (y.1 ≠ xc) || decide (y.2 = .cell)) && scope.names.all (fun y => decide (y.2 ≠ .local) || decide (scope.names.lookup y.1 = some .local)) &&
  scope.names.all (fun y => decide (y.2 ≠ .free) || decide (outer.names.lookup y.1 = some .cell) || decide (outer.names.lookup y.1 = some .free)) && decide (fr.length = N'.length) &&
  (List.range fr.length).all fun j => match fr[j]?, N'[j]? with
    | some (some i), some x => decide (N[i]? = some x) && decide (scope.names.lookup x = some .free) && (decide (outer.names.lookup x = some .cell) || decide (outer.names.lookup x = some .free))
    | _, _ => true
theorem comp_scopeC {X : Cx} {xc : Str} {N' : List Str} {fr : List (Option Nat)} {scope : Scope} (hc : ∀ x, (X.env.scope.names.lookup x = some .cell \/ X.env.scope.names.lookup x = some .free) -> ∃ c, X.env.cells.lookup x = some c) (h : compChkC X.env.scope X.N xc N' fr scope = true) : CompScopeC X xc N' fr scope := by
  unfold compChkC at h
  simp only [Bool.and_eq_true, decide_eq_true_eq, List.all_eq_true, Bool.or_eq_true] at h
  obtain ⟨⟨⟨⟨⟨⟨⟨h1, h2⟩, h2'⟩, h2''⟩, h3⟩, h4⟩, h5⟩, h6⟩ := h
  refine ⟨h1, ⟨_, _, h2, h2'⟩, fun y hy e => ?_, fun y hy e => ?_, fun y hy e => ?_, h5, fun j i x e1 e2 => ?_⟩
  · rcases h2'' y hy with z | z
    · exact absurd e z
    · exact z
  · rcases h3 y hy with z | z
    · exact absurd e z
    · exact z
  · rcases h4 y hy with (z | z) | z
    · exact absurd e z
    · exact hc y.1 (.inl z)
    · exact hc y.1 (.inr z)
  · have hj : j < fr.length := (List.getElem?_eq_some_iff.mp e1).1
    have := h6 j (List.mem_range.mpr hj)
    rw [e1, e2] at this
    simp only [Bool.and_eq_true, decide_eq_true_eq, Bool.or_eq_true] at this
    exact ⟨this.1.1, this.1.2, this.2⟩
theorem cs_defC {CX : CXT} {P : Program} {w : World} {K : PySem.W.Frag} {mg : Str -> Option Value} {base : Heap} {N : List Str} {qual : Str} {sc : Scope} {f : Addr} {cd : Value} {A : Around} {outer : List Env} {s : Shared} {H : Hp} {E : XK} {xc : Str} {N' : List Str} {fr : List (Option Nat)} {scope : Scope}
    (nf : ∀ y ∈ sc.names, y.2 ≠ .free) (h : compChkC sc N xc N' fr scope = true) : CompScopeC (cxOf CX P w K mg base N qual sc f cd A outer s H E) xc N' fr scope :=
  comp_scopeC (X := cxOf CX P w K mg base N qual sc f cd A outer s H E) (fun x hx => by
    rcases hx with hx | hx
    · exact cell_has hx
    · exact absurd rfl (nf _ (PySem.mem_of_lookup hx))) h
theorem cs_compC {X : Cx} {s₃ : Shared} {H₃ : Hp} {fp : List Addr} {pins : List (Addr × Obj)} {sc : Scope} {xc : Str} {N N' : List Str} {fr : List (Option Nat)} {scope : Scope} (nf : ∀ y ∈ sc.names, y.2 = .cell -> y.1 = xc)
    (h : compChk (relabel sc X.env) N N' fr scope = true) : CompScope (compCxC X sc xc N s₃ H₃ fp pins) N' fr scope :=
  comp_scope (X := compCxC X sc xc N s₃ H₃ fp pins) (fun x hx => by
    have hx : (relabel sc X.env).names.lookup x = some .cell \/ (relabel sc X.env).names.lookup x = some .free := hx
    by_cases hxc : x = xc
    · exact ⟨s₃.heap.objs.size + 1, by rw [hxc]; show ((xc, s₃.heap.objs.size + 1) :: _).lookup xc = _; rw [List.lookup_cons]; simp⟩
    have key : sc.names.lookup x = some .free := by
      rcases hx with h | h
      · obtain ⟨k', e1, e2⟩ := lookup_relabel_of h
        rcases e2 with z | ⟨z, _⟩
        · exact absurd (nf _ (PySem.mem_of_lookup e1) z.symm) hxc
        · rw [e1, z]
      · obtain ⟨k', e1, e2⟩ := lookup_relabel_of h
        rcases e2 with z | ⟨_, z⟩
        · rw [e1, <- z]
        · cases z
    obtain ⟨c, hc⟩ := closL_has (cells := X.env.cells) (names := sc.names) (acc := []) (.inl (PySem.mem_of_lookup key))
    refine ⟨c, ?_⟩
    show ((xc, s₃.heap.objs.size + 1) :: _).lookup x = _
    rw [List.lookup_cons, show (x == xc) = false by simpa using hxc]
    exact hc) h
theorem lenS {α : Type} {us : List α} {n : Nat} (h : us.length = n + 1) : ∃ a t, us = a :: t /\ t.length = n := by
  cases us with
  | nil => cases h
  | cons a t => exact ⟨a, t, rfl, Nat.succ.inj h⟩
theorem len0 {α : Type} {us : List α} (h : us.length = 0) : us = [] := List.length_eq_zero_iff.mp h
theorem ix_any {P : Int -> Prop} (ns : List Int) {i : Int} (h0 : 0 <= i) (h1 : i < ns.length) (hP : ∀ x ∈ ns, P x) : ∃ v, ixD (.lst (ns.map D.int)) (.int i) = .ok (.int v) /\ P v := by
  have hl : i.toNat < ns.length := by omega
  refine ⟨ns[i.toNat], ev_ixl (atI_ok h0 ?_), hP _ (List.getElem_mem hl)⟩
  rw [List.getElem?_map, List.getElem?_eq_getElem hl]
  rfl
theorem bd1 {α : Type} {P : List α -> Prop} (h : ∀ a, P [a]) : ∀ us : List α, us.length = 1 -> P us := fun us hl => by
  obtain ⟨a, t, rfl, h1⟩ := lenS hl
  cases len0 h1
  exact h a
theorem bd2 {α : Type} {P : List α -> Prop} (h : ∀ a b, P [a, b]) : ∀ us : List α, us.length = 2 -> P us := fun us hl => by
  obtain ⟨a, t, rfl, h1⟩ := lenS hl
  exact bd1 (P := fun t => P (a :: t)) (h a) t h1
theorem bd3 {α : Type} {P : List α -> Prop} (h : ∀ a b c, P [a, b, c]) : ∀ us : List α, us.length = 3 -> P us := fun us hl => by
  obtain ⟨a, t, rfl, h1⟩ := lenS hl
  exact bd2 (P := fun t => P (a :: t)) (h a) t h1
theorem bd4 {α : Type} {P : List α -> Prop} (h : ∀ a b c d, P [a, b, c, d]) : ∀ us : List α, us.length = 4 -> P us := fun us hl => by
  obtain ⟨a, t, rfl, h1⟩ := lenS hl
  exact bd3 (P := fun t => P (a :: t)) (h a) t h1
theorem bd5 {α : Type} {P : List α -> Prop} (h : ∀ a b c d e, P [a, b, c, d, e]) : ∀ us : List α, us.length = 5 -> P us := fun us hl => by
  obtain ⟨a, t, rfl, h1⟩ := lenS hl
  exact bd4 (P := fun t => P (a :: t)) (h a) t h1
end L2
set_option maxRecDepth 100000
set_option maxHeartbeats 4000000
namespace K17
open PySem PySem.Spec PyProof.Rows L2
noncomputable def top (i : Nat) : Stmt := PySem.Challenge.pw_quirehand_k17_whole_columns.main.body.getD i (.Pass ⟨0, 0, 0, 0⟩)
section
variable {P : Program} {w : World} {K : PySem.W.Frag} {mg : Str -> Option Value} {base : Heap}
theorem it_of {C : Addr} {bm : List Value} {n : String} (h : PySem.W.excIn K C bm n = true) : (PySem.W.clsIn K C).isSome = true := by
  unfold PySem.W.excIn at h
  split at h
  · rename_i hl
    unfold PySem.W.clsIn
    rw [hl]
    rfl
  · cases h
structure Cls (K : PySem.W.Frag) (mg : Str -> Option Value) : Prop where
  e_TooWide : ∃ C, ErrC K "TooWide" C
  ve : mg "ValueError" = none
  ex : ∃ CS CT c1 c2 c3 c4 c5 c6 c7 c8 c9 : Addr, mg "SetError" = some (.ref CS) /\ ErrC K "TooWide" CT /\ ErrI K CT /\ mg "TooWide" = some (.ref CT) /\ PySem.W.kitOne K (.ref CT) (.type "ValueError") = some true /\ PySem.W.exmOne K (.ref CT) (.ref CS) = some true /\ (mg "BadBlocks" = some (.ref c1) /\ PySem.W.kitOne K (.ref CT) (.ref c1) = some false) /\ (mg "BadBook" = some (.ref c2) /\ PySem.W.kitOne K (.ref CT) (.ref c2) = some false) /\ (mg "BadBreaks" = some (.ref c3) /\ PySem.W.kitOne K (.ref CT) (.ref c3) = some false) /\ (mg "BadFace" = some (.ref c4) /\ PySem.W.kitOne K (.ref CT) (.ref c4) = some false) /\ (mg "BadRules" = some (.ref c5) /\ PySem.W.kitOne K (.ref CT) (.ref c5) = some false) /\ (mg "BadText" = some (.ref c6) /\ PySem.W.kitOne K (.ref CT) (.ref c6) = some false) /\ (mg "BadWord" = some (.ref c7) /\ PySem.W.kitOne K (.ref CT) (.ref c7) = some false) /\ (mg "NoNote" = some (.ref c8) /\ PySem.W.kitOne K (.ref CT) (.ref c8) = some false) /\ (mg "NoPlace" = some (.ref c9) /\ PySem.W.kitOne K (.ref CT) (.ref c9) = some false)
noncomputable def t_wide : Tn -> R Fl := (sSeq (sSet 2 (eL dictAD (aCons (eBin ixD (eVar 0) (eC (.int 2))) aNil))) (sSeq (sKPut 2 (eImm (eBin ixD (eVar 0) (eC (.int 1)))) (eC (.str " "))) (sRet (eL sumD (aCons (eComp [none, some 2, some 0] (iSeq (eVar 1)) (.one 0) (fun _ => .ok true) (eGet (eVar 1) (eVar 0) (eBin ixD (eVar 2) (eC (.int 0))))) aNil)))))
noncomputable def F_wide : List D -> R D := runB 3 t_wide
theorem sc_wide : FnScope ["face", "line", "widths"] ["face", "line"] (defScope (top 13)) := ⟨rfl, rfl, rfl, by decide +kernel, rfl, by decide +kernel, by decide +kernel⟩
theorem ok_wide (Df : DefIn K mg "wide" (top 13) ["face", "line"]) (B : Bl mg) (Cl : Cls K mg)  : Own P w K mg base "wide" 1 ["face", "line"] (spM K F_wide 2) :=
  Df.mir (k := 0) (Γ' := [.shr, .shr, .dead]) sc_wide (by decide) fun f cdv A outer s H E hr => (mss_cons (L2.st 2 sc_wide.nd (mv_fresh (me_callTy (call_dictA (by exact rfl)) B_dictA N_dictA (by exact rfl) B.dict Boot.«dict» (ma_cons (me_ix hr.u1 (mn 0 .shr) me_int) ma_nil)))) (mss_cons (kput 2 hr.u1 (mv_fresh (me_imm (me_ix hr.u1 (mn 0 .shr) me_int))) me_str) (mss_one (ms_ret (mv_fresh (me_callB (call_sumL rfl) B_sum N_sum (by exact rfl) B.sum PyProof.Rows.boot_sum (ma_cons (me_comp (N' := ["sign", "widths", "face"]) (fr := [none, some 2, some 0]) rfl (cs_def sc_wide.nofree (by decide +kernel)) (mi_seq (mn 1 .shr)) (fun _ _ _ _ => (mg_one (pgn 0 (show List.Nodup (["sign", "widths", "face"] : List Str) from by decide +kernel)))) (fun _ _ _ _ => mts_nil) (fun _ _ _ _ => (me_get hr.u1 (mn 1 .brw) (mn 0 .shr) (me_ix hr.u1 (mn 2 .shr) me_int))) (by decide) (by decide)) ma_nil)))))))
noncomputable def t_word_widths : Tn -> R Fl := (sRet (eComp [none, some 0] (iSeq (eVar 1)) (.one 0) (fun _ => .ok true) (eL F_wide (aCons (eVar 1) (aCons (eVar 0) aNil)))))
noncomputable def F_word_widths : List D -> R D := runB 2 t_word_widths
theorem sc_word_widths : FnScope ["face", "words"] ["face", "words"] (defScope (top 15)) := ⟨rfl, rfl, rfl, by decide +kernel, rfl, by decide +kernel, by decide +kernel⟩
theorem ok_word_widths (Df : DefIn K mg "word_widths" (top 15) ["face", "words"]) (B : Bl mg) (Cl : Cls K mg) (O_wide : Own P w K mg base "wide" 1 ["face", "line"] (spM K F_wide 2)) : Own P w K mg base "word_widths" 2 ["face", "words"] (spM K F_word_widths 2) :=
  Df.mir (k := 1) (Γ' := [.shr, .shr]) sc_word_widths (by decide) fun f cdv A outer s H E hr => (mss_one (ms_ret (mv_fresh (me_comp (N' := ["word", "face"]) (fr := [none, some 0]) rfl (cs_def sc_word_widths.nofree (by decide +kernel)) (mi_seq (mn 1 .shr)) (fun _ _ _ _ => (mg_one (pgn 0 (show List.Nodup (["word", "face"] : List Str) from by decide +kernel)))) (fun _ _ _ _ => mts_nil) (fun _ _ _ _ => (me_call (O_wide.mono (by decide)) hr (by exact rfl) passes_no (ma_cons (mn 1 .shr) (ma_cons (mn 0 .shr) ma_nil)))) (by decide) (by decide)))))
noncomputable def t_fill : Tn -> R Fl := (sSeq (sSet 3 (eL (fun ds => .ok (.lst ds)) aNil)) (sSeq (sSet 4 (eC (.int 0))) (sSeq (sSet 5 (eC (.int 0))) (sSeq (sFor (iL enumL (aCons (eVar 0) aNil)) (.many [6, 7]) (sSeq (sIf (bAnd (eTest (eBin gtD (eVar 6) (eVar 4))) (eTest (eBin gtD (eBin addD (eBin addD (eVar 5) (eVar 1)) (eVar 7)) (eVar 2)))) (sSeq (sApp 3 (eImm (eL (fun ds => .ok (.tup ds)) (aCons (eVar 4) (aCons (eVar 6) aNil))))) (sSet 4 (eVar 6))) sSkip) (sSet 5 (eIf (eTest (eBin (eqR false) (eVar 6) (eVar 4))) (eImm (eVar 7)) (eBin addD (eBin addD (eVar 5) (eVar 1)) (eVar 7)))))) (sSeq (sIf (eTest (eBin ltD (eVar 4) (eL lenD (aCons (eVar 0) aNil)))) (sApp 3 (eImm (eL (fun ds => .ok (.tup ds)) (aCons (eVar 4) (aCons (eL lenD (aCons (eVar 0) aNil)) aNil))))) sSkip) (sRet (eVar 3)))))))
noncomputable def F_fill : List D -> R D := runB 8 t_fill
theorem sc_fill : FnScope ["widths", "blank", "width", "lines", "begin", "full", "place", "word_width"] ["widths", "blank", "width"] (defScope (top 16)) := ⟨rfl, rfl, rfl, by decide +kernel, rfl, by decide +kernel, by decide +kernel⟩
theorem ok_fill (Df : DefIn K mg "fill" (top 16) ["widths", "blank", "width"]) (B : Bl mg) (Cl : Cls K mg)  : Own P w K mg base "fill" 1 ["widths", "blank", "width"] (spM K F_fill 3) :=
  Df.mir (k := 0) (Γ' := [.shr, .shr, .shr, .dead, .dead, .dead, .dead, .dead]) sc_fill (by decide) fun f cdv A outer s H E hr => (mss_cons (L2.st 3 sc_fill.nd (mv_fresh (me_lst ma_nil))) (mss_cons (L2.st 4 sc_fill.nd (mv_fresh me_int)) (mss_cons (L2.st 5 sc_fill.nd (mv_fresh me_int)) (mss_cons (ms_pre (Γ1 := [.shr, .shr, .shr, .own, .shr, .own, .dead, .dead]) (ms_for (Γ2 := [.shr, .shr, .shr, .own, .shr, .own, .shr, .shr]) PassesOwn.leaving rfl (mi_enum rfl B.enumerate (ma_cons (mn 0 .shr) ma_nil)) (by decide) (mg_many rfl (mgs_cons (pgn 6 sc_fill.nd) (mgs_cons (pgn 7 sc_fill.nd) mgs_nil))) (by decide) (mss_cons (ms_if (MW.mt (mw_and (mt_cmp op_gt B_gt N_int (mn 6 .shr) (mn 4 .shr) (nomark _)) (mw_and1 (mt_cmp op_gt B_gt N_int (me_op op_addA B_add N_add (me_op op_addA B_add N_add (mn 5 .own) (mn 1 .shr)) (mn 7 .shr)) (mn 2 .shr) (nomark _))))) (mss_cons (app 3 (mv_fresh (me_imm (me_tup (ma_cons (mn 4 .shr) (ma_cons (mn 6 .shr) ma_nil)))))) (mss_one (stS 4 sc_fill.nd (mn 6 .shr)))) mss_nil) (mss_one (L2.st 5 sc_fill.nd (mv_fresh (me_ifE (mt_cmp (op_eqAll hr.u12) B_eq N_eq (mn 6 .shr) (mn 4 .shr) (nomark _)) (me_imm (mn 7 .shr)) (me_op op_addA B_add N_add (me_op op_addA B_add N_add (mn 5 .own) (mn 1 .shr)) (mn 7 .shr))))))) rfl) rfl) (mss_cons (ms_if (mt_cmp op_lt B_lt N_int (mn 4 .shr) (me_callB call_lenA B_len N_len (by exact rfl) B.len PySem.boot_len (ma_cons (mn 0 .shr) ma_nil)) (nomark _)) (mss_one (app 3 (mv_fresh (me_imm (me_tup (ma_cons (mn 4 .shr) (ma_cons (me_callB call_lenA B_len N_len (by exact rfl) B.len PySem.boot_len (ma_cons (mn 0 .shr) ma_nil)) ma_nil))))))) mss_nil) (mss_one (ms_ret (mvn 3))))))))
noncomputable def t_go_in : Tn -> R Fl := (sRet (eL allD (aCons (eComp [none, some 3, some 1, some 2] (iSeq (eVar 0)) (.one 0) (fun _ => .ok true) (eBin leD (eL lenD (aCons (eL F_fill (aCons (eVar 0) (aCons (eVar 2) (aCons (eVar 3) aNil)))) aNil)) (eVar 1))) aNil)))
noncomputable def F_go_in : List D -> R D := runB 4 t_go_in
theorem sc_go_in : FnScope ["cells", "blank", "width", "rows"] ["cells", "blank", "width", "rows"] (defScope (top 17)) := ⟨rfl, rfl, rfl, by decide +kernel, rfl, by decide +kernel, by decide +kernel⟩
theorem ok_go_in (Df : DefIn K mg "go_in" (top 17) ["cells", "blank", "width", "rows"]) (B : Bl mg) (Cl : Cls K mg) (O_fill : Own P w K mg base "fill" 1 ["widths", "blank", "width"] (spM K F_fill 3)) : Own P w K mg base "go_in" 2 ["cells", "blank", "width", "rows"] (spM K F_go_in 4) :=
  Df.mir (k := 1) (Γ' := [.shr, .shr, .shr, .shr]) sc_go_in (by decide) fun f cdv A outer s H E hr => (mss_one (ms_ret (mv_fresh (me_callB (call_allL (by exact rfl)) B_all N_all (by exact rfl) B.all Boot.«all» (ma_cons (me_comp (N' := ["widths", "rows", "blank", "width"]) (fr := [none, some 3, some 1, some 2]) rfl (cs_def sc_go_in.nofree (by decide +kernel)) (mi_seq (mn 0 .shr)) (fun _ _ _ _ => (mg_one (pgn 0 (show List.Nodup (["widths", "rows", "blank", "width"] : List Str) from by decide +kernel)))) (fun _ _ _ _ => mts_nil) (fun _ _ _ _ => (me_cmp op_le B_le N_int (me_callB call_lenA B_len N_len (by exact rfl) B.len PySem.boot_len (ma_cons (me_call (O_fill.mono (by decide)) hr (by exact rfl) passes_no (ma_cons (mn 0 .shr) (ma_cons (mn 2 .shr) (ma_cons (mn 3 .shr) ma_nil)))) ma_nil)) (mn 1 .shr) (nomark _))) (by decide) (by decide)) ma_nil)))))
noncomputable def t_least_width : Tn -> R Fl := (sSeq (sSet 3 (eComp [none, some 0] (iSeq (eVar 1)) (.one 0) (fun _ => .ok true) (eL F_word_widths (aCons (eVar 1) (aCons (eVar 0) aNil))))) (sSeq (sSet 4 (eBin maxdD (eComp [none] (iSeq (eVar 3)) (.one 0) (fun _ => .ok true) (eBin maxdD (eVar 0) (eC (.int 1)))) (eC (.int 1)))) (sSeq (sSet 5 (eBin maxdD (eComp [none, some 0] (iSeq (eVar 3)) (.one 0) (fun _ => .ok true) (eBin addD (eL sumD (aCons (eVar 0) aNil)) (eBin mulD (eBin ixD (eVar 1) (eC (.int 1))) (eL lenD (aCons (eVar 0) aNil))))) (eC (.int 1)))) (sSeq (sWhile (eTest (eBin ltD (eVar 4) (eVar 5))) (sSeq (sSet 6 (eBin fdivD (eBin addD (eVar 4) (eVar 5)) (eC (.int 2)))) (sIf (eTest (eL F_go_in (aCons (eVar 3) (aCons (eBin ixD (eVar 0) (eC (.int 1))) (aCons (eVar 6) (aCons (eVar 2) aNil)))))) (sSet 5 (eImm (eVar 6))) (sSet 4 (eBin addD (eVar 6) (eC (.int 1))))))) (sRet (eVar 4))))))
noncomputable def F_least_width : List D -> R D := runB 7 t_least_width
theorem sc_least_width : FnScope ["face", "cells", "rows", "widths", "least", "most", "middle"] ["face", "cells", "rows"] (defScope (top 18)) := ⟨rfl, rfl, rfl, by decide +kernel, rfl, by decide +kernel, by decide +kernel⟩
theorem ok_least_width (Df : DefIn K mg "least_width" (top 18) ["face", "cells", "rows"]) (B : Bl mg) (Cl : Cls K mg) (O_word_widths : Own P w K mg base "word_widths" 2 ["face", "words"] (spM K F_word_widths 2)) (O_go_in : Own P w K mg base "go_in" 2 ["cells", "blank", "width", "rows"] (spM K F_go_in 4)) : Own P w K mg base "least_width" 3 ["face", "cells", "rows"] (spM K F_least_width 3) :=
  Df.mir (k := 2) (Γ' := [.shr, .shr, .shr, .dead, .dead, .dead, .dead]) sc_least_width (by decide) fun f cdv A outer s H E hr => (mss_cons (stC 3 (N' := ["words", "face"]) (fr := [none, some 0]) sc_least_width.nd rfl (cs_def sc_least_width.nofree (by decide +kernel)) (mi_seq (mn 1 .shr)) (fun _ _ _ _ => (mg_one (pgn 0 (show List.Nodup (["words", "face"] : List Str) from by decide +kernel)))) (fun _ _ _ _ => mts_nil) (fun _ _ _ _ => (me_call (O_word_widths.mono (by decide)) hr (by exact rfl) passes_no (ma_cons (mn 1 .shr) (ma_cons (mn 0 .shr) ma_nil)))) (by decide)) (mss_cons (L2.st 4 sc_least_width.nd (mv_fresh (me_maxd (by exact rfl) (by exact rfl) B.max (me_comp (N' := ["part"]) (fr := [none]) rfl (cs_def sc_least_width.nofree (by decide +kernel)) (mi_seq (mn 3 .own)) (fun _ _ _ _ => (mg_one (pgn 0 (show List.Nodup (["part"] : List Str) from by decide +kernel)))) (fun _ _ _ _ => mts_nil) (fun _ _ _ _ => (me_maxd (by exact rfl) (by exact rfl) B.max (mn 0 .brw) me_int)) (by decide) (by decide)) me_int))) (mss_cons (L2.st 5 sc_least_width.nd (mv_fresh (me_maxd (by exact rfl) (by exact rfl) B.max (me_comp (N' := ["part", "face"]) (fr := [none, some 0]) rfl (cs_def sc_least_width.nofree (by decide +kernel)) (mi_seq (mn 3 .own)) (fun _ _ _ _ => (mg_one (pgn 0 (show List.Nodup (["part", "face"] : List Str) from by decide +kernel)))) (fun _ _ _ _ => mts_nil) (fun _ _ _ _ => (me_op op_addA B_add N_add (me_callB (call_sumL rfl) B_sum N_sum (by exact rfl) B.sum PyProof.Rows.boot_sum (ma_cons (mn 0 .brw) ma_nil)) (me_op op_mulA B_mul N_mul (me_ix hr.u1 (mn 1 .shr) me_int) (me_callB call_lenA B_len N_len (by exact rfl) B.len PySem.boot_len (ma_cons (mn 0 .brw) ma_nil))))) (by decide) (by decide)) me_int))) (mss_cons (ms_while (Γ2 := [.shr, .shr, .shr, .own, .own, .own, .own]) PassesOwn.leaving (mt_cmp op_lt B_lt N_int (mn 4 .own) (mn 5 .own) (nomark _)) (mss_cons (L2.st 6 sc_least_width.nd (mv_fresh (me_op op_fdiv B_fdiv N_int (me_op op_addA B_add N_add (mn 4 .own) (mn 5 .own)) me_int))) (mss_one (ms_if (mt_val (me_call (O_go_in.mono (by decide)) hr (by exact rfl) passes_cxx (ma_cons (mn 3 .own) (ma_cons (me_ix hr.u1 (mn 0 .shr) me_int) (ma_cons (mn 6 .own) (ma_cons (mn 2 .shr) ma_nil)))))) (mss_one (L2.st 5 sc_least_width.nd (mv_fresh (me_imm (mn 6 .own))))) (mss_one (L2.st 4 sc_least_width.nd (mv_fresh (me_op op_addA B_add N_add (mn 6 .own) me_int))))))) rfl) (mss_one (ms_ret (mvn 4)))))))
noncomputable def t_between : Tn -> R Fl := (sRet (eBin mulD (eC (.int 2)) (eBin ixD (eVar 0) (eC (.int 1)))))
noncomputable def F_between : List D -> R D := runB 1 t_between
theorem sc_between : FnScope ["face"] ["face"] (defScope (top 20)) := ⟨rfl, rfl, rfl, by decide +kernel, rfl, by decide +kernel, by decide +kernel⟩
theorem ok_between (Df : DefIn K mg "between" (top 20) ["face"]) (B : Bl mg) (Cl : Cls K mg)  : Own P w K mg base "between" 1 ["face"] (spM K F_between 1) :=
  Df.mir (k := 0) (Γ' := [.shr]) sc_between (by decide) fun f cdv A outer s H E hr => (mss_one (ms_ret (mv_fresh (me_op op_mulA B_mul N_mul me_int (me_ix hr.u1 (mn 0 .shr) me_int)))))
noncomputable def t_column_cells : Tn -> R Fl := (sRet (eComp [none, some 0] (iL rng1 (aCons (eL lenD (aCons (eBin ixD (eVar 0) (eC (.int 0))) aNil)) aNil)) (.one 0) (fun _ => .ok true) (eComp [none, some 0] (iSeq (eVar 1)) (.one 0) (fun _ => .ok true) (eImm (eBin ixD (eVar 0) (eVar 1))))))
noncomputable def F_column_cells : List D -> R D := runB 1 t_column_cells
theorem sc_column_cells : FnScope ["table"] ["table"] (defScope (top 21)) := ⟨rfl, rfl, rfl, by decide +kernel, rfl, by decide +kernel, by decide +kernel⟩
theorem ok_column_cells (Df : DefIn K mg "column_cells" (top 21) ["table"]) (B : Bl mg) (Cl : Cls K mg)  : Own P w K mg base "column_cells" 1 ["table"] (spM K F_column_cells 1) :=
  Df.mir (k := 0) (Γ' := [.shr]) sc_column_cells (by decide) fun f cdv A outer s H E hr => (mss_one (ms_ret (mv_fresh (me_compC "at" (N' := ["at", "table"]) (fr := [none, some 0]) rfl (cs_defC sc_column_cells.nofree (by decide +kernel)) (mi_range1 rfl B.range (ma_cons (me_callB call_lenA B_len N_len (by exact rfl) B.len PySem.boot_len (ma_cons (me_ix hr.u1 (mn 0 .shr) me_int) ma_nil)) ma_nil)) (fun _ _ _ _ => (mg_one (pgn 0 (show List.Nodup (["at", "table"] : List Str) from by decide +kernel)))) (fun _ _ _ _ => mts_nil) (fun _ _ _ _ => (me_comp (N' := ["row", "at"]) (fr := [none, some 0]) rfl (cs_compC (by decide +kernel) (by first | decide +kernel | exact rfl)) (mi_seq (mn 1 .shr)) (fun _ _ _ _ => (mg_one (pgn 0 (show List.Nodup (["row", "at"] : List Str) from by decide +kernel)))) (fun _ _ _ _ => mts_nil) (fun _ _ _ _ => (me_imm (me_ix hr.u1 (mn 0 .shr) (mn 1 .shr)))) (by decide) (by decide))) (by decide) (by decide)))))
noncomputable def t_most_lines : Tn -> R Fl := (sRet (eL maxLD (aCons (eComp [none] (iSeq (eVar 0)) (.one 0) (fun _ => .ok true) (eL maxLD (aCons (eComp [none] (iSeq (eVar 0)) (.one 0) (fun _ => .ok true) (eL lenD (aCons (eVar 0) aNil))) aNil))) aNil)))
noncomputable def F_most_lines : List D -> R D := runB 1 t_most_lines
theorem sc_most_lines : FnScope ["table"] ["table"] (defScope (top 22)) := ⟨rfl, rfl, rfl, by decide +kernel, rfl, by decide +kernel, by decide +kernel⟩
theorem ok_most_lines (Df : DefIn K mg "most_lines" (top 22) ["table"]) (B : Bl mg) (Cl : Cls K mg)  : Own P w K mg base "most_lines" 1 ["table"] (spM K F_most_lines 1) :=
  Df.mir (k := 0) (Γ' := [.shr]) sc_most_lines (by decide) fun f cdv A outer s H E hr => (mss_one (ms_ret (mv_fresh (me_callB (call_maxL (by exact rfl)) B_maxL N_maxL (by exact rfl) B.max PyProof.Rows.boot_max (ma_cons (me_comp (N' := ["row"]) (fr := [none]) rfl (cs_def sc_most_lines.nofree (by decide +kernel)) (mi_seq (mn 0 .shr)) (fun _ _ _ _ => (mg_one (pgn 0 (show List.Nodup (["row"] : List Str) from by decide +kernel)))) (fun _ _ _ _ => mts_nil) (fun _ _ _ _ => (me_callB (call_maxL (by exact rfl)) B_maxL N_maxL (by exact rfl) B.max PyProof.Rows.boot_max (ma_cons (me_comp (N' := ["cell"]) (fr := [none]) rfl (cs_comp (by first | decide +kernel | exact rfl) (by first | decide +kernel | exact rfl)) (mi_seq (mn 0 .shr)) (fun _ _ _ _ => (mg_one (pgn 0 (show List.Nodup (["cell"] : List Str) from by decide +kernel)))) (fun _ _ _ _ => mts_nil) (fun _ _ _ _ => (me_callB call_lenA B_len N_len (by exact rfl) B.len PySem.boot_len (ma_cons (mn 0 .shr) ma_nil))) (by decide) (by decide)) ma_nil))) (by decide) (by decide)) ma_nil)))))
noncomputable def t_columns : Tn -> R Fl := (sSeq (sSet 3 (eL F_column_cells (aCons (eVar 2) aNil))) (sSeq (sSet 4 (eBin subD (eBin ixD (eVar 1) (eC (.str "width"))) (eBin mulD (eL F_between (aCons (eVar 0) aNil)) (eBin subD (eL lenD (aCons (eVar 3) aNil)) (eC (.int 1)))))) (sSeq (sFor (iL rng2 (aCons (eC (.int 1)) (aCons (eBin addD (eL max2D (aCons (eC (.int 1)) (aCons (eL F_most_lines (aCons (eVar 2) aNil)) aNil))) (eC (.int 1))) aNil))) (.one 5) (sSeq (sSet 6 (eComp [none, some 0, some 5] (iSeq (eVar 3)) (.one 0) (fun _ => .ok true) (eL F_least_width (aCons (eVar 1) (aCons (eVar 0) (aCons (eVar 2) aNil)))))) (sIf (eTest (eBin leD (eL sumD (aCons (eVar 6) aNil)) (eVar 4))) (sRet (eL (fun ds => .ok (.tup ds)) (aCons (eImm (eVar 5)) (aCons (eVar 6) aNil)))) sSkip))) (sErr "TooWide" (aCons (eC (.str "the table is wider than the rules' width for any number of lines")) aNil)))))
noncomputable def F_columns : List D -> R D := runB 7 t_columns
theorem sc_columns : FnScope ["face", "rules", "table", "cells", "free", "lines", "widths"] ["face", "rules", "table"] (defScope (top 23)) := ⟨rfl, rfl, rfl, by decide +kernel, rfl, by decide +kernel, by decide +kernel⟩
theorem ok_columns (Df : DefIn K mg "columns" (top 23) ["face", "rules", "table"]) (B : Bl mg) (Cl : Cls K mg) (O_column_cells : Own P w K mg base "column_cells" 1 ["table"] (spM K F_column_cells 1)) (O_between : Own P w K mg base "between" 1 ["face"] (spM K F_between 1)) (O_least_width : Own P w K mg base "least_width" 3 ["face", "cells", "rows"] (spM K F_least_width 3)) (O_most_lines : Own P w K mg base "most_lines" 1 ["table"] (spM K F_most_lines 1)) : Own P w K mg base "columns" 4 ["face", "rules", "table"] (spM K F_columns 3) :=
  Df.mir (k := 3) (Γ' := [.shr, .shr, .shr, .dead, .dead, .dead, .dead]) sc_columns (by decide) fun f cdv A outer s H E hr => (mss_cons (L2.st 3 sc_columns.nd (mv_fresh (me_call (O_column_cells.mono (by decide)) hr (by exact rfl) passes_cxx (ma_cons (mn 2 .shr) ma_nil)))) (mss_cons (L2.st 4 sc_columns.nd (mv_fresh (me_op op_sub B_sub N_int (me_ix hr.u1 (mn 1 .shr) me_str) (me_op op_mulA B_mul N_mul (me_call (O_between.mono (by decide)) hr (by exact rfl) passes_cxx (ma_cons (mn 0 .shr) ma_nil)) (me_op op_sub B_sub N_int (me_callB call_lenA B_len N_len (by exact rfl) B.len PySem.boot_len (ma_cons (mn 3 .own) ma_nil)) me_int))))) (mss_cons (ms_for (Γ2 := [.shr, .shr, .shr, .own, .own, .shr, .own]) PassesOwn.leaving rfl (mi_range2 rfl B.range (ma_cons me_int (ma_cons (me_op op_addA B_add N_add (me_callB (call_max2 (by exact rfl)) B_max2 N_max2 (by exact rfl) B.max PyProof.Rows.boot_max (ma_cons me_int (ma_cons (me_call (O_most_lines.mono (by decide)) hr (by exact rfl) passes_cxx (ma_cons (mn 2 .shr) ma_nil)) ma_nil))) me_int) ma_nil))) (by decide) (mg_one (pgn 5 sc_columns.nd)) (by decide) (mss_cons (stC 6 (N' := ["part", "face", "lines"]) (fr := [none, some 0, some 5]) sc_columns.nd rfl (cs_def sc_columns.nofree (by decide +kernel)) (mi_seq (mn 3 .own)) (fun _ _ _ _ => (mg_one (pgn 0 (show List.Nodup (["part", "face", "lines"] : List Str) from by decide +kernel)))) (fun _ _ _ _ => mts_nil) (fun _ _ _ _ => (me_call (O_least_width.mono (by decide)) hr (by exact rfl) passes_no (ma_cons (mn 1 .shr) (ma_cons (mn 0 .brw) (ma_cons (mn 2 .shr) ma_nil))))) (by decide)) (mss_one (ms_if (mt_cmp op_le B_le N_int (me_callB (call_sumL rfl) B_sum N_sum (by exact rfl) B.sum PyProof.Rows.boot_sum (ma_cons (mn 6 .own) ma_nil)) (mn 4 .own) (nomark _)) (mss_one (ms_ret (mv_tup (mvs_cons (mv_fresh (me_imm (mn 5 .shr))) (mvs_cons (mvn 6) mvs_nil))))) mss_nil))) rfl) (mss_one (ms_raiseE Cl.e_TooWide rfl (ma_cons me_str ma_nil))))))
noncomputable def t__law_cell : Tn -> R Fl := (sSeq (sIf (eTest (eBin ltD (eVar 1) (eL lenD (aCons (eVar 0) aNil)))) (sRet (eImm (eBin ixD (eVar 0) (eVar 1)))) sSkip) (sRet (eC (.int 0))))
noncomputable def F__law_cell : List D -> R D := runB 2 t__law_cell
theorem sc__law_cell : FnScope ["_law_script", "_law_k"] ["_law_script", "_law_k"] (defScope (top 25)) := ⟨rfl, rfl, rfl, by decide +kernel, rfl, by decide +kernel, by decide +kernel⟩
theorem ok__law_cell (Df : DefIn K mg "_law_cell" (top 25) ["_law_script", "_law_k"]) (B : Bl mg) (Cl : Cls K mg)  : Own P w K mg base "_law_cell" 1 ["_law_script", "_law_k"] (spM K F__law_cell 2) :=
  Df.mir (k := 0) (Γ' := [.shr, .shr]) sc__law_cell (by decide) fun f cdv A outer s H E hr => (mss_cons (ms_if (mt_cmp op_lt B_lt N_int (mn 1 .shr) (me_callB call_lenA B_len N_len (by exact rfl) B.len PySem.boot_len (ma_cons (mn 0 .shr) ma_nil)) (nomark _)) (mss_one (ms_ret (mv_fresh (me_imm (me_ix hr.u1 (mn 0 .shr) (mn 1 .shr)))))) mss_nil) (mss_one (ms_ret (mv_fresh me_int))))
noncomputable def t__law_mixed : Tn -> R Fl := (sRet (eBin modD (eBin addD (eBin mulD (eBin addD (eL F__law_cell (aCons (eVar 0) (aCons (eVar 1) aNil))) (eBin mulD (eBin mulD (eC (.int 7919)) (eVar 1)) (eVar 1))) (eC (.int 48271))) (eC (.int 12345))) (eC (.int 2147483647))))
noncomputable def F__law_mixed : List D -> R D := runB 2 t__law_mixed
theorem sc__law_mixed : FnScope ["_law_script", "_law_k"] ["_law_script", "_law_k"] (defScope (top 26)) := ⟨rfl, rfl, rfl, by decide +kernel, rfl, by decide +kernel, by decide +kernel⟩
theorem ok__law_mixed (Df : DefIn K mg "_law_mixed" (top 26) ["_law_script", "_law_k"]) (B : Bl mg) (Cl : Cls K mg) (O__law_cell : Own P w K mg base "_law_cell" 1 ["_law_script", "_law_k"] (spM K F__law_cell 2)) : Own P w K mg base "_law_mixed" 2 ["_law_script", "_law_k"] (spM K F__law_mixed 2) :=
  Df.mir (k := 1) (Γ' := [.shr, .shr]) sc__law_mixed (by decide) fun f cdv A outer s H E hr => (mss_one (ms_ret (mv_fresh (me_op op_mod B_mod N_int (me_op op_addA B_add N_add (me_op op_mulA B_mul N_mul (me_op op_addA B_add N_add (me_call (O__law_cell.mono (by decide)) hr (by exact rfl) passes_cxx (ma_cons (mn 0 .shr) (ma_cons (mn 1 .shr) ma_nil))) (me_op op_mulA B_mul N_mul (me_op op_mulA B_mul N_mul me_int (mn 1 .shr)) (mn 1 .shr))) me_int) me_int) me_int))))
noncomputable def t__law_whole : Tn -> R Fl := (sRet (eAnd (eUn (isiD "int") (eVar 0)) (eNot (eUn (isiD "bool") (eVar 0)))))
noncomputable def F__law_whole : List D -> R D := runB 1 t__law_whole
theorem sc__law_whole : FnScope ["_law_found"] ["_law_found"] (defScope (top 27)) := ⟨rfl, rfl, rfl, by decide +kernel, rfl, by decide +kernel, by decide +kernel⟩
theorem ok__law_whole (Df : DefIn K mg "_law_whole" (top 27) ["_law_found"]) (B : Bl mg) (Cl : Cls K mg)  : Own P w K mg base "_law_whole" 1 ["_law_found"] (spM K F__law_whole 1) :=
  Df.mir (k := 0) (Γ' := [.shr]) sc__law_whole (by decide) fun f cdv A outer s H E hr => (mss_one (ms_ret (mv_fresh (me_and (me_isi (T := "int") (by decide) rfl B.isinstance (pe_bltn (v := .ty "int") rfl B.int Boot.«int» rfl) (mn 0 .shr)) (me_one (me_not (me_isi (T := "bool") (by decide) rfl B.isinstance (pe_bltn (v := .ty "bool") rfl B.bool Boot.«bool» rfl) (mn 0 .shr))))))))
noncomputable def t__law_face : Tn -> R Fl := (sSeq (sSet 1 (eL F__law_mixed (aCons (eVar 0) (aCons (eC (.int 0)) aNil)))) (sSeq (sSet 2 (eC (.str "!\"'(),-./0123456789:;?ABCDEFGHIJKLMNOPQRSTUVWXYZabcdefghijklmnopqrstuvwxyz"))) (sSeq (sIf (eTest (eBin (eqR false) (eBin modD (eVar 1) (eC (.int 3))) (eC (.int 0)))) (sRet (eL (fun ds => .ok (.tup ds)) (aCons (eC (.int 1)) (aCons (eBin addD (eC (.int 1)) (eBin modD (eBin fdivD (eVar 1) (eC (.int 3))) (eC (.int 2)))) (aCons (eL (fun ds => .ok (.tup ds)) aNil) aNil))))) sSkip) (sSeq (sSet 3 (eBin ixD (eL (fun ds => .ok (.lst ds)) (aCons (eC (.int 6)) (aCons (eC (.int 7)) (aCons (eC (.int 8)) (aCons (eC (.int 9)) (aCons (eC (.int 10)) (aCons (eC (.int 11)) (aCons (eC (.int 13)) (aCons (eC (.int 17)) (aCons (eC (.int 1)) (aCons (eC (.int 5)) aNil))))))))))) (eBin modD (eBin fdivD (eVar 1) (eC (.int 1200))) (eC (.int 10))))) (sSeq (sSet 4 (eComp [none, none, some 1, some 3] (iL enumA (aCons (eVar 2) aNil)) (.many [0, 1]) (eTest (eBin (eqR false) (eBin modD (eBin addD (eBin fdivD (eVar 2) (eC (.int 11))) (eVar 0)) (eVar 3)) (eC (.int 0)))) (eImm (eL (fun ds => .ok (.tup ds)) (aCons (eVar 1) (aCons (eBin addD (eC (.int 1)) (eBin modD (eBin addD (eBin fdivD (eVar 2) (eC (.int 7))) (eBin mulD (eBin mulD (eC (.int 3)) (eVar 0)) (eVar 0))) (eC (.int 20)))) aNil)))))) (sRet (eL (fun ds => .ok (.tup ds)) (aCons (eBin addD (eC (.int 1)) (eBin modD (eBin fdivD (eVar 1) (eC (.int 3))) (eC (.int 20)))) (aCons (eBin addD (eC (.int 1)) (eBin modD (eBin fdivD (eVar 1) (eC (.int 60))) (eC (.int 20)))) (aCons (eL tuple1D (aCons (eVar 4) aNil)) aNil))))))))))
noncomputable def F__law_face : List D -> R D := runB 5 t__law_face
theorem sc__law_face : FnScope ["_law_script", "_law_cell_here", "_law_signs", "_law_step", "_law_odd"] ["_law_script"] (defScope (top 28)) := ⟨rfl, rfl, rfl, by decide +kernel, rfl, by decide +kernel, by decide +kernel⟩
theorem ok__law_face (Df : DefIn K mg "_law_face" (top 28) ["_law_script"]) (B : Bl mg) (Cl : Cls K mg) (O__law_mixed : Own P w K mg base "_law_mixed" 2 ["_law_script", "_law_k"] (spM K F__law_mixed 2)) : Own P w K mg base "_law_face" 3 ["_law_script"] (spM K F__law_face 1) :=
  Df.mir (k := 2) (Γ' := [.shr, .dead, .dead, .dead, .dead]) sc__law_face (by decide) fun f cdv A outer s H E hr => (mss_cons (L2.st 1 sc__law_face.nd (mv_fresh (me_call (O__law_mixed.mono (by decide)) hr (by exact rfl) passes_cxx (ma_cons (mn 0 .shr) (ma_cons me_int ma_nil))))) (mss_cons (L2.st 2 sc__law_face.nd (mv_fresh me_str)) (mss_cons (ms_if (mt_cmp (op_eqAll hr.u12) B_eq N_eq (me_op op_mod B_mod N_int (mn 1 .own) me_int) me_int (nomark _)) (mss_one (ms_ret (mv_fresh (me_tup (ma_cons me_int (ma_cons (me_op op_addA B_add N_add me_int (me_op op_mod B_mod N_int (me_op op_fdiv B_fdiv N_int (mn 1 .own) me_int) me_int)) (ma_cons (me_tup ma_nil) ma_nil))))))) mss_nil) (mss_cons (L2.st 3 sc__law_face.nd (mv_fresh (me_ix hr.u1 (me_lst (ma_cons me_int (ma_cons me_int (ma_cons me_int (ma_cons me_int (ma_cons me_int (ma_cons me_int (ma_cons me_int (ma_cons me_int (ma_cons me_int (ma_cons me_int ma_nil))))))))))) (me_op op_mod B_mod N_int (me_op op_fdiv B_fdiv N_int (mn 1 .own) me_int) me_int)))) (mss_cons (stC 4 (N' := ["_law_j", "_law_sign", "_law_cell_here", "_law_step"]) (fr := [none, none, some 1, some 3]) sc__law_face.nd rfl (cs_def sc__law_face.nofree (by decide +kernel)) (mi_enumS rfl B.enumerate (ma_cons (mn 2 .own) ma_nil)) (fun _ _ _ _ => (mg_many rfl (mgs_cons (pgn 0 (show List.Nodup (["_law_j", "_law_sign", "_law_cell_here", "_law_step"] : List Str) from by decide +kernel)) (mgs_cons (pgn 1 (show List.Nodup (["_law_j", "_law_sign", "_law_cell_here", "_law_step"] : List Str) from by decide +kernel)) mgs_nil)))) (fun _ _ _ _ => (mts_one (mt_cmp (op_eqAll hr.u12) B_eq N_eq (me_op op_mod B_mod N_int (me_op op_addA B_add N_add (me_op op_fdiv B_fdiv N_int (mn 2 .brw) me_int) (mn 0 .brw)) (mn 3 .brw)) me_int (nomark _)))) (fun _ _ _ _ => (me_imm (me_tup (ma_cons (mn 1 .brw) (ma_cons (me_op op_addA B_add N_add me_int (me_op op_mod B_mod N_int (me_op op_addA B_add N_add (me_op op_fdiv B_fdiv N_int (mn 2 .brw) me_int) (me_op op_mulA B_mul N_mul (me_op op_mulA B_mul N_mul me_int (mn 0 .brw)) (mn 0 .brw))) me_int)) ma_nil))))) (by decide)) (mss_one (ms_ret (mv_fresh (me_tup (ma_cons (me_op op_addA B_add N_add me_int (me_op op_mod B_mod N_int (me_op op_fdiv B_fdiv N_int (mn 1 .own) me_int) me_int)) (ma_cons (me_op op_addA B_add N_add me_int (me_op op_mod B_mod N_int (me_op op_fdiv B_fdiv N_int (mn 1 .own) me_int) me_int)) (ma_cons (me_callTy call_tuple_of B_tuple1 N_tuple1 (by exact rfl) B.tuple Boot.«tuple» (ma_cons (mn 4 .own) ma_nil)) ma_nil))))))))))))
noncomputable def t__law_word : Tn -> R Fl := (sSeq (sSet 1 (eC (.str "abcdefghijklmnopqrstuvwxyzABCDEFGHIJKLMNOPQRSTUVWXYZ0123456789.,;:!?'\"()-/"))) (sSeq (sSet 2 (eBin addD (eC (.int 1)) (eBin modD (eVar 0) (eC (.int 5))))) (sSeq (sIf (eTest (eBin (eqR false) (eBin modD (eBin fdivD (eVar 0) (eC (.int 5))) (eC (.int 11))) (eC (.int 3)))) (sSet 2 (eBin addD (eC (.int 1)) (eBin modD (eBin fdivD (eVar 0) (eC (.int 55))) (eC (.int 40))))) sSkip) (sRet (eSm joinD (eC (.str "")) (aCons (eComp [none, some 1, some 0] (iL rng1 (aCons (eVar 2) aNil)) (.one 0) (fun _ => .ok true) (eImm (eBin ixD (eVar 1) (eBin modD (eBin addD (eBin fdivD (eVar 2) (eC (.int 7))) (eBin mulD (eBin mulD (eVar 0) (eVar 0)) (eBin addD (eC (.int 1)) (eBin modD (eBin fdivD (eVar 2) (eC (.int 600))) (eC (.int 7)))))) (eC (.int 74)))))) aNil))))))
noncomputable def F__law_word : List D -> R D := runB 3 t__law_word
theorem sc__law_word : FnScope ["_law_cell_here", "_law_signs", "_law_size"] ["_law_cell_here"] (defScope (top 29)) := ⟨rfl, rfl, rfl, by decide +kernel, rfl, by decide +kernel, by decide +kernel⟩
theorem ok__law_word (Df : DefIn K mg "_law_word" (top 29) ["_law_cell_here"]) (B : Bl mg) (Cl : Cls K mg)  : Own P w K mg base "_law_word" 1 ["_law_cell_here"] (spM K F__law_word 1) :=
  Df.mir (k := 0) (Γ' := [.shr, .dead, .dead]) sc__law_word (by decide) fun f cdv A outer s H E hr => (mss_cons (L2.st 1 sc__law_word.nd (mv_fresh me_str)) (mss_cons (L2.st 2 sc__law_word.nd (mv_fresh (me_op op_addA B_add N_add me_int (me_op op_mod B_mod N_int (mn 0 .shr) me_int)))) (mss_cons (ms_if (mt_cmp (op_eqAll hr.u12) B_eq N_eq (me_op op_mod B_mod N_int (me_op op_fdiv B_fdiv N_int (mn 0 .shr) me_int) me_int) me_int (nomark _)) (mss_one (L2.st 2 sc__law_word.nd (mv_fresh (me_op op_addA B_add N_add me_int (me_op op_mod B_mod N_int (me_op op_fdiv B_fdiv N_int (mn 0 .shr) me_int) me_int))))) mss_nil) (mss_one (ms_ret (mv_fresh (me_sm PySem.F.plainAttrs_str PySem.F.slot_str_join PySem.F.type_str_join mt_joinL B_join N_join me_str (ma_cons (me_comp (N' := ["_law_j", "_law_signs", "_law_cell_here"]) (fr := [none, some 1, some 0]) rfl (cs_def sc__law_word.nofree (by decide +kernel)) (mi_range1 rfl B.range (ma_cons (mn 2 .own) ma_nil)) (fun _ _ _ _ => (mg_one (pgn 0 (show List.Nodup (["_law_j", "_law_signs", "_law_cell_here"] : List Str) from by decide +kernel)))) (fun _ _ _ _ => mts_nil) (fun _ _ _ _ => (me_imm (me_ix hr.u1 (mn 1 .brw) (me_op op_mod B_mod N_int (me_op op_addA B_add N_add (me_op op_fdiv B_fdiv N_int (mn 2 .shr) me_int) (me_op op_mulA B_mul N_mul (me_op op_mulA B_mul N_mul (mn 0 .shr) (mn 0 .shr)) (me_op op_addA B_add N_add me_int (me_op op_mod B_mod N_int (me_op op_fdiv B_fdiv N_int (mn 2 .shr) me_int) me_int)))) me_int)))) (by decide) (by decide)) ma_nil))))))))
noncomputable def t__law_words : Tn -> R Fl := (sSeq (sSet 1 (eBin ixD (eL (fun ds => .ok (.lst ds)) (aCons (eC (.int 0)) (aCons (eC (.int 1)) (aCons (eC (.int 2)) (aCons (eC (.int 3)) (aCons (eC (.int 4)) (aCons (eC (.int 5)) (aCons (eC (.int 2)) (aCons (eC (.int 3)) aNil))))))))) (eBin modD (eVar 0) (eC (.int 8))))) (sSeq (sIf (eTest (eBin (eqR false) (eBin modD (eBin fdivD (eVar 0) (eC (.int 8))) (eC (.int 12))) (eC (.int 5)))) (sSet 1 (eBin addD (eC (.int 6)) (eBin modD (eBin fdivD (eVar 0) (eC (.int 96))) (eC (.int 7))))) sSkip) (sRet (eComp [none, some 0] (iL rng1 (aCons (eVar 1) aNil)) (.one 0) (fun _ => .ok true) (eL F__law_word (aCons (eBin modD (eBin mulD (eBin mulD (eBin addD (eBin fdivD (eVar 1) (eC (.int 13))) (eC (.int 30011))) (eBin addD (eBin mulD (eVar 0) (eVar 0)) (eC (.int 1)))) (eC (.int 16807))) (eC (.int 2147483647))) aNil))))))
noncomputable def F__law_words : List D -> R D := runB 2 t__law_words
theorem sc__law_words : FnScope ["_law_number", "_law_many"] ["_law_number"] (defScope (top 30)) := ⟨rfl, rfl, rfl, by decide +kernel, rfl, by decide +kernel, by decide +kernel⟩
theorem ok__law_words (Df : DefIn K mg "_law_words" (top 30) ["_law_number"]) (B : Bl mg) (Cl : Cls K mg) (O__law_word : Own P w K mg base "_law_word" 1 ["_law_cell_here"] (spM K F__law_word 1)) : Own P w K mg base "_law_words" 2 ["_law_number"] (spM K F__law_words 1) :=
  Df.mir (k := 1) (Γ' := [.shr, .dead]) sc__law_words (by decide) fun f cdv A outer s H E hr => (mss_cons (L2.st 1 sc__law_words.nd (mv_fresh (me_ix hr.u1 (me_lst (ma_cons me_int (ma_cons me_int (ma_cons me_int (ma_cons me_int (ma_cons me_int (ma_cons me_int (ma_cons me_int (ma_cons me_int ma_nil))))))))) (me_op op_mod B_mod N_int (mn 0 .shr) me_int)))) (mss_cons (ms_if (mt_cmp (op_eqAll hr.u12) B_eq N_eq (me_op op_mod B_mod N_int (me_op op_fdiv B_fdiv N_int (mn 0 .shr) me_int) me_int) me_int (nomark _)) (mss_one (L2.st 1 sc__law_words.nd (mv_fresh (me_op op_addA B_add N_add me_int (me_op op_mod B_mod N_int (me_op op_fdiv B_fdiv N_int (mn 0 .shr) me_int) me_int))))) mss_nil) (mss_one (ms_ret (mv_fresh (me_comp (N' := ["_law_k", "_law_number"]) (fr := [none, some 0]) rfl (cs_def sc__law_words.nofree (by decide +kernel)) (mi_range1 rfl B.range (ma_cons (mn 1 .own) ma_nil)) (fun _ _ _ _ => (mg_one (pgn 0 (show List.Nodup (["_law_k", "_law_number"] : List Str) from by decide +kernel)))) (fun _ _ _ _ => mts_nil) (fun _ _ _ _ => (me_call (O__law_word.mono (by decide)) hr (by exact rfl) passes_no (ma_cons (me_op op_mod B_mod N_int (me_op op_mulA B_mul N_mul (me_op op_mulA B_mul N_mul (me_op op_addA B_add N_add (me_op op_fdiv B_fdiv N_int (mn 1 .shr) me_int) me_int) (me_op op_addA B_add N_add (me_op op_mulA B_mul N_mul (mn 0 .shr) (mn 0 .shr)) me_int)) me_int) me_int) ma_nil))) (by decide) (by decide)))))))
noncomputable def t__law_table : Tn -> R Fl := (sSeq (sSet 1 (eL F__law_mixed (aCons (eVar 0) (aCons (eC (.int 1)) aNil)))) (sSeq (sSet 2 (eBin addD (eC (.int 1)) (eBin modD (eVar 1) (eC (.int 2))))) (sSeq (sIf (eTest (eBin (eqR false) (eBin modD (eBin fdivD (eVar 1) (eC (.int 3))) (eC (.int 16))) (eC (.int 1)))) (sSet 2 (eBin addD (eC (.int 1)) (eBin modD (eBin fdivD (eVar 1) (eC (.int 48))) (eC (.int 6))))) sSkip) (sSeq (sSet 3 (eBin ixD (eL (fun ds => .ok (.lst ds)) (aCons (eC (.int 1)) (aCons (eC (.int 2)) (aCons (eC (.int 2)) (aCons (eC (.int 3)) (aCons (eC (.int 1)) (aCons (eC (.int 4)) (aCons (eC (.int 2)) (aCons (eC (.int 3)) aNil))))))))) (eBin modD (eBin fdivD (eVar 1) (eC (.int 150))) (eC (.int 8))))) (sRet (eComp [none, some 0, some 3] (iL rng1 (aCons (eVar 2) aNil)) (.one 0) (fun _ => .ok true) (eComp [none, some 1, some 0] (iL rng1 (aCons (eVar 2) aNil)) (.one 0) (fun _ => .ok true) (eL F__law_words (aCons (eL F__law_mixed (aCons (eVar 1) (aCons (eBin addD (eBin addD (eC (.int 3)) (eBin mulD (eC (.int 4)) (eVar 2))) (eVar 0)) aNil))) aNil)))))))))
noncomputable def F__law_table : List D -> R D := runB 4 t__law_table
theorem sc__law_table : FnScope ["_law_script", "_law_number", "_law_many", "_law_many_cells"] ["_law_script"] (defScope (top 31)) := ⟨rfl, rfl, rfl, by decide +kernel, rfl, by decide +kernel, by decide +kernel⟩
theorem ok__law_table (Df : DefIn K mg "_law_table" (top 31) ["_law_script"]) (B : Bl mg) (Cl : Cls K mg) (O__law_mixed : Own P w K mg base "_law_mixed" 2 ["_law_script", "_law_k"] (spM K F__law_mixed 2)) (O__law_words : Own P w K mg base "_law_words" 2 ["_law_number"] (spM K F__law_words 1)) : Own P w K mg base "_law_table" 3 ["_law_script"] (spM K F__law_table 1) :=
  Df.mir (k := 2) (Γ' := [.shr, .dead, .dead, .dead]) sc__law_table (by decide) fun f cdv A outer s H E hr => (mss_cons (L2.st 1 sc__law_table.nd (mv_fresh (me_call (O__law_mixed.mono (by decide)) hr (by exact rfl) passes_cxx (ma_cons (mn 0 .shr) (ma_cons me_int ma_nil))))) (mss_cons (L2.st 2 sc__law_table.nd (mv_fresh (me_op op_addA B_add N_add me_int (me_op op_mod B_mod N_int (mn 1 .own) me_int)))) (mss_cons (ms_if (mt_cmp (op_eqAll hr.u12) B_eq N_eq (me_op op_mod B_mod N_int (me_op op_fdiv B_fdiv N_int (mn 1 .own) me_int) me_int) me_int (nomark _)) (mss_one (L2.st 2 sc__law_table.nd (mv_fresh (me_op op_addA B_add N_add me_int (me_op op_mod B_mod N_int (me_op op_fdiv B_fdiv N_int (mn 1 .own) me_int) me_int))))) mss_nil) (mss_cons (L2.st 3 sc__law_table.nd (mv_fresh (me_ix hr.u1 (me_lst (ma_cons me_int (ma_cons me_int (ma_cons me_int (ma_cons me_int (ma_cons me_int (ma_cons me_int (ma_cons me_int (ma_cons me_int ma_nil))))))))) (me_op op_mod B_mod N_int (me_op op_fdiv B_fdiv N_int (mn 1 .own) me_int) me_int)))) (mss_one (ms_ret (mv_fresh (me_compC "_law_row" (N' := ["_law_row", "_law_script", "_law_many_cells"]) (fr := [none, some 0, some 3]) rfl (cs_defC sc__law_table.nofree (by decide +kernel)) (mi_range1 rfl B.range (ma_cons (mn 2 .own) ma_nil)) (fun _ _ _ _ => (mg_one (pgn 0 (show List.Nodup (["_law_row", "_law_script", "_law_many_cells"] : List Str) from by decide +kernel)))) (fun _ _ _ _ => mts_nil) (fun _ _ _ _ => (me_comp (N' := ["_law_k", "_law_script", "_law_row"]) (fr := [none, some 1, some 0]) rfl (cs_compC (by decide +kernel) (by first | decide +kernel | exact rfl)) (mi_range1 rfl B.range (ma_cons (mn 2 .brw) ma_nil)) (fun _ _ _ _ => (mg_one (pgn 0 (show List.Nodup (["_law_k", "_law_script", "_law_row"] : List Str) from by decide +kernel)))) (fun _ _ _ _ => mts_nil) (fun _ _ _ _ => (me_call (O__law_words.mono (by decide)) hr (by exact rfl) passes_no (ma_cons (me_call (O__law_mixed.mono (by decide)) hr (by exact rfl) passes_no (ma_cons (mn 1 .shr) (ma_cons (me_op op_addA B_add N_add (me_op op_addA B_add N_add me_int (me_op op_mulA B_mul N_mul me_int (mn 2 .shr))) (mn 0 .shr)) ma_nil))) ma_nil))) (by decide) (by decide))) (by decide) (by decide)))))))))
noncomputable def t__law_widths : Tn -> R Fl := (sRet (eComp [none, some 0, some 2, some 1] (iL rng1 (aCons (eL lenD (aCons (eBin ixD (eVar 1) (eC (.int 0))) aNil)) aNil)) (.one 0) (fun _ => .ok true) (eL F_least_width (aCons (eVar 1) (aCons (eComp [none, some 0] (iSeq (eVar 3)) (.one 0) (fun _ => .ok true) (eBin ixD (eVar 0) (eVar 1))) (aCons (eVar 2) aNil))))))
noncomputable def F__law_widths : List D -> R D := runB 3 t__law_widths
theorem sc__law_widths : FnScope ["_law_face_here", "_law_table_here", "_law_rows"] ["_law_face_here", "_law_table_here", "_law_rows"] (defScope (top 32)) := ⟨rfl, rfl, rfl, by decide +kernel, rfl, by decide +kernel, by decide +kernel⟩
theorem ok__law_widths (Df : DefIn K mg "_law_widths" (top 32) ["_law_face_here", "_law_table_here", "_law_rows"]) (B : Bl mg) (Cl : Cls K mg) (O_least_width : Own P w K mg base "least_width" 3 ["face", "cells", "rows"] (spM K F_least_width 3)) : Own P w K mg base "_law_widths" 4 ["_law_face_here", "_law_table_here", "_law_rows"] (spM K F__law_widths 3) :=
  Df.mir (k := 3) (Γ' := [.shr, .shr, .shr]) sc__law_widths (by decide) fun f cdv A outer s H E hr => (mss_one (ms_ret (mv_fresh (me_compC "_law_k" (N' := ["_law_k", "_law_face_here", "_law_rows", "_law_table_here"]) (fr := [none, some 0, some 2, some 1]) rfl (cs_defC sc__law_widths.nofree (by decide +kernel)) (mi_range1 rfl B.range (ma_cons (me_callB call_lenA B_len N_len (by exact rfl) B.len PySem.boot_len (ma_cons (me_ix hr.u1 (mn 1 .shr) me_int) ma_nil)) ma_nil)) (fun _ _ _ _ => (mg_one (pgn 0 (show List.Nodup (["_law_k", "_law_face_here", "_law_rows", "_law_table_here"] : List Str) from by decide +kernel)))) (fun _ _ _ _ => mts_nil) (fun _ _ _ _ => (me_call (O_least_width.mono (by decide)) hr (by exact rfl) passes_no (ma_cons (mn 1 .shr) (ma_cons (me_comp (N' := ["_law_row", "_law_k"]) (fr := [none, some 0]) rfl (cs_compC (by decide +kernel) (by first | decide +kernel | exact rfl)) (mi_seq (mn 3 .shr)) (fun _ _ _ _ => (mg_one (pgn 0 (show List.Nodup (["_law_row", "_law_k"] : List Str) from by decide +kernel)))) (fun _ _ _ _ => mts_nil) (fun _ _ _ _ => (me_ix hr.u1 (mn 0 .shr) (mn 1 .shr))) (by decide) (by decide)) (ma_cons (mn 2 .shr) ma_nil))))) (by decide) (by decide)))))
noncomputable def t__law_breadth : Tn -> R Fl := (sSeq (sSet 3 (eL F__law_widths (aCons (eVar 0) (aCons (eVar 1) (aCons (eVar 2) aNil))))) (sRet (eBin addD (eL sumD (aCons (eVar 3) aNil)) (eBin mulD (eBin mulD (eC (.int 2)) (eBin ixD (eVar 0) (eC (.int 1)))) (eBin subD (eL lenD (aCons (eVar 3) aNil)) (eC (.int 1)))))))
noncomputable def F__law_breadth : List D -> R D := runB 4 t__law_breadth
theorem sc__law_breadth : FnScope ["_law_face_here", "_law_table_here", "_law_rows", "_law_widths_here"] ["_law_face_here", "_law_table_here", "_law_rows"] (defScope (top 33)) := ⟨rfl, rfl, rfl, by decide +kernel, rfl, by decide +kernel, by decide +kernel⟩
theorem ok__law_breadth (Df : DefIn K mg "_law_breadth" (top 33) ["_law_face_here", "_law_table_here", "_law_rows"]) (B : Bl mg) (Cl : Cls K mg) (O__law_widths : Own P w K mg base "_law_widths" 4 ["_law_face_here", "_law_table_here", "_law_rows"] (spM K F__law_widths 3)) : Own P w K mg base "_law_breadth" 5 ["_law_face_here", "_law_table_here", "_law_rows"] (spM K F__law_breadth 3) :=
  Df.mir (k := 4) (Γ' := [.shr, .shr, .shr, .dead]) sc__law_breadth (by decide) fun f cdv A outer s H E hr => (mss_cons (L2.st 3 sc__law_breadth.nd (mv_fresh (me_call (O__law_widths.mono (by decide)) hr (by exact rfl) passes_cxx (ma_cons (mn 0 .shr) (ma_cons (mn 1 .shr) (ma_cons (mn 2 .shr) ma_nil)))))) (mss_one (ms_ret (mv_fresh (me_op op_addA B_add N_add (me_callB (call_sumL rfl) B_sum N_sum (by exact rfl) B.sum PyProof.Rows.boot_sum (ma_cons (mn 3 .own) ma_nil)) (me_op op_mulA B_mul N_mul (me_op op_mulA B_mul N_mul me_int (me_ix hr.u1 (mn 0 .shr) me_int)) (me_op op_sub B_sub N_int (me_callB call_lenA B_len N_len (by exact rfl) B.len PySem.boot_len (ma_cons (mn 3 .own) ma_nil)) me_int)))))))
noncomputable def t__law_room : Tn -> R Fl := (sSeq (sIf (eTest (eBin (eqR false) (eBin modD (eVar 2) (eC (.int 4))) (eC (.int 0)))) (sRet (eBin addD (eC (.int 4)) (eBin modD (eBin fdivD (eVar 2) (eC (.int 4))) (eBin ixD (eL (fun ds => .ok (.lst ds)) (aCons (eC (.int 40)) (aCons (eC (.int 200)) (aCons (eC (.int 1997)) aNil)))) (eBin modD (eBin fdivD (eVar 2) (eC (.int 90))) (eC (.int 3))))))) sSkip) (sSeq (sSet 3 (eBin subD (eBin addD (eL F__law_breadth (aCons (eVar 0) (aCons (eVar 1) (aCons (eBin addD (eC (.int 1)) (eBin modD (eBin fdivD (eVar 2) (eC (.int 4))) (eC (.int 4)))) aNil)))) (eBin modD (eBin fdivD (eVar 2) (eC (.int 16))) (eC (.int 3)))) (eC (.int 1)))) (sRet (eL min2D (aCons (eC (.int 2000)) (aCons (eL max2D (aCons (eC (.int 4)) (aCons (eVar 3) aNil))) aNil))))))
noncomputable def F__law_room : List D -> R D := runB 4 t__law_room
theorem sc__law_room : FnScope ["_law_face_here", "_law_table_here", "_law_number", "_law_near"] ["_law_face_here", "_law_table_here", "_law_number"] (defScope (top 34)) := ⟨rfl, rfl, rfl, by decide +kernel, rfl, by decide +kernel, by decide +kernel⟩
theorem ok__law_room (Df : DefIn K mg "_law_room" (top 34) ["_law_face_here", "_law_table_here", "_law_number"]) (B : Bl mg) (Cl : Cls K mg) (O__law_breadth : Own P w K mg base "_law_breadth" 5 ["_law_face_here", "_law_table_here", "_law_rows"] (spM K F__law_breadth 3)) : Own P w K mg base "_law_room" 6 ["_law_face_here", "_law_table_here", "_law_number"] (spM K F__law_room 3) :=
  Df.mir (k := 5) (Γ' := [.shr, .shr, .shr, .dead]) sc__law_room (by decide) fun f cdv A outer s H E hr => (mss_cons (ms_if (mt_cmp (op_eqAll hr.u12) B_eq N_eq (me_op op_mod B_mod N_int (mn 2 .shr) me_int) me_int (nomark _)) (mss_one (ms_ret (mv_fresh (me_op op_addA B_add N_add me_int (me_op op_mod B_mod N_int (me_op op_fdiv B_fdiv N_int (mn 2 .shr) me_int) (me_ix hr.u1 (me_lst (ma_cons me_int (ma_cons me_int (ma_cons me_int ma_nil)))) (me_op op_mod B_mod N_int (me_op op_fdiv B_fdiv N_int (mn 2 .shr) me_int) me_int))))))) mss_nil) (mss_cons (L2.st 3 sc__law_room.nd (mv_fresh (me_op op_sub B_sub N_int (me_op op_addA B_add N_add (me_call (O__law_breadth.mono (by decide)) hr (by exact rfl) passes_cxx (ma_cons (mn 0 .shr) (ma_cons (mn 1 .shr) (ma_cons (me_op op_addA B_add N_add me_int (me_op op_mod B_mod N_int (me_op op_fdiv B_fdiv N_int (mn 2 .shr) me_int) me_int)) ma_nil)))) (me_op op_mod B_mod N_int (me_op op_fdiv B_fdiv N_int (mn 2 .shr) me_int) me_int)) me_int))) (mss_one (ms_ret (mv_fresh (me_callB (call_min2 (by exact rfl)) B_min2 N_min2 (by exact rfl) B.min PyProof.Rows.boot_min (ma_cons me_int (ma_cons (me_callB (call_max2 (by exact rfl)) B_max2 N_max2 (by exact rfl) B.max PyProof.Rows.boot_max (ma_cons me_int (ma_cons (mn 3 .own) ma_nil))) ma_nil))))))))
noncomputable def t__law_rules : Tn -> R Fl := (sSeq (sSet 2 (eL F__law_mixed (aCons (eVar 0) (aCons (eC (.int 2)) aNil)))) (sSeq (sSet 3 (eL (fun ds => .ok (.dic [.inr "width", .inr "height", .inr "part", .inr "twin"] ds)) (aCons (eImm (eVar 1)) (aCons (eBin addD (eC (.int 2)) (eBin modD (eVar 2) (eC (.int 199)))) (aCons (eBin modD (eVar 2) (eC (.int 7))) (aCons (eBin modD (eVar 2) (eC (.int 9))) aNil)))))) (sSeq (sUpd 3 (eL (fun ds => .ok (.dic [.inr "over", .inr "lone", .inr "late"] ds)) (aCons (eBin addD (eC (.int 1)) (eBin modD (eVar 2) (eC (.int 5)))) (aCons (eBin modD (eVar 2) (eC (.int 11))) (aCons (eBin modD (eVar 2) (eC (.int 13))) aNil))))) (sSeq (sUpd 3 (eL (fun ds => .ok (.dic [.inr "gap", .inr "ahead", .inr "behind"] ds)) (aCons (eBin modD (eVar 2) (eC (.int 6))) (aCons (eBin addD (eC (.int 1)) (eBin modD (eVar 2) (eC (.int 6)))) (aCons (eC (.int 2)) aNil))))) (sRet (eVar 3))))))
noncomputable def F__law_rules : List D -> R D := runB 4 t__law_rules
theorem sc__law_rules : FnScope ["_law_script", "_law_width", "_law_number", "_law_found"] ["_law_script", "_law_width"] (defScope (top 35)) := ⟨rfl, rfl, rfl, by decide +kernel, rfl, by decide +kernel, by decide +kernel⟩
theorem ok__law_rules (Df : DefIn K mg "_law_rules" (top 35) ["_law_script", "_law_width"]) (B : Bl mg) (Cl : Cls K mg) (O__law_mixed : Own P w K mg base "_law_mixed" 2 ["_law_script", "_law_k"] (spM K F__law_mixed 2)) : Own P w K mg base "_law_rules" 3 ["_law_script", "_law_width"] (spM K F__law_rules 2) :=
  Df.mir (k := 2) (Γ' := [.shr, .shr, .dead, .dead]) sc__law_rules (by decide) fun f cdv A outer s H E hr => (mss_cons (L2.st 2 sc__law_rules.nd (mv_fresh (me_call (O__law_mixed.mono (by decide)) hr (by exact rfl) passes_cxx (ma_cons (mn 0 .shr) (ma_cons me_int ma_nil))))) (mss_cons (L2.st 3 sc__law_rules.nd (mv_fresh (me_disp (mps_cons (key := .inr "width") pe_str (me_imm (mn 1 .shr)) (mps_cons (key := .inr "height") pe_str (me_op op_addA B_add N_add me_int (me_op op_mod B_mod N_int (mn 2 .own) me_int)) (mps_cons (key := .inr "part") pe_str (me_op op_mod B_mod N_int (mn 2 .own) me_int) (mps_cons (key := .inr "twin") pe_str (me_op op_mod B_mod N_int (mn 2 .own) me_int) mps_nil)))) (by decide)))) (mss_cons (upt 3 (mv_fresh (me_disp (mps_cons (key := .inr "over") pe_str (me_op op_addA B_add N_add me_int (me_op op_mod B_mod N_int (mn 2 .own) me_int)) (mps_cons (key := .inr "lone") pe_str (me_op op_mod B_mod N_int (mn 2 .own) me_int) (mps_cons (key := .inr "late") pe_str (me_op op_mod B_mod N_int (mn 2 .own) me_int) mps_nil))) (by decide)))) (mss_cons (upt 3 (mv_fresh (me_disp (mps_cons (key := .inr "gap") pe_str (me_op op_mod B_mod N_int (mn 2 .own) me_int) (mps_cons (key := .inr "ahead") pe_str (me_op op_addA B_add N_add me_int (me_op op_mod B_mod N_int (mn 2 .own) me_int)) (mps_cons (key := .inr "behind") pe_str me_int mps_nil))) (by decide)))) (mss_one (ms_ret (mvn 3)))))))
theorem nd__law_told : (["_law_face_here", "_law_rules_here", "_law_table_here", "e", "_law_other"] : List Str).Nodup := by decide +kernel
noncomputable def g__law_told : Str -> Option D := fun m => if m = "TooWide" then some (.str "too wide") else none
noncomputable def sts__law_told : List Stmt := match defBody (top 36) with
  | [.Try _ [.ExceptHandler _ _ b _] _ _ _] => b
  | _ => []
noncomputable def SuG (P : Program) (w : World) (K : PySem.W.Frag) (mg : Str -> Option Value) (base : Heap) (f : Addr) (cdv : Value) (A : Around) (outer : List Env) (s : Shared) (H : Hp) (E : XK) : Prop := ∃ CS, (cxOf (cxx P w) P w K mg base ["_law_face_here", "_law_rules_here", "_law_table_here", "e", "_law_other"] "_law_told" (defScope (top 36)) f cdv A outer s H E).mg "SetError" = some (.ref CS) /\
    Suite (cxOf (cxx P w) P w K mg base ["_law_face_here", "_law_rules_here", "_law_table_here", "e", "_law_other"] "_law_told" (defScope (top 36)) f cdv A outer s H E) CS 3 sts__law_told g__law_told
theorem suite__law_told (Cl : Cls K mg) (B : Bl mg) (f : Addr) (cdv : Value) (A : Around) (outer : List Env) (s : Shared) (H : Hp) (E : XK) : SuG P w K mg base f cdv A outer s H E := by
  obtain ⟨CS, CT, c1, c2, c3, c4, c5, c6, c7, c8, c9, hS, eT, iT, mT, kV, xS, ⟨m1, k1⟩, ⟨m2, k2⟩, ⟨m3, k3⟩, ⟨m4, k4⟩, ⟨m5, k5⟩, ⟨m6, k6⟩, ⟨m7, k7⟩, ⟨m8, k8⟩, ⟨m9, k9⟩⟩ := Cl.ex
  unfold SuG
  refine ⟨CS, hS, fun m d hg C hC => ?_⟩
  have hm : m = "TooWide" /\ d = .str "too wide" := by
    unfold g__law_told at hg
    split at hg
    · exact ⟨by assumption, (Option.some.inj hg).symm⟩
    · cases hg
  obtain ⟨rfl, rfl⟩ := hm
  have hCT : C = CT := by
    have h1 : PySem.W.nsIn K mainGlobals "TooWide" = some (some (.ref C)) := hC.ns
    rw [eT.ns] at h1
    cases h1
    rfl
  subst hCT
  refine ⟨xS, _, fun e oe => pss_cons (ps_set (i := 4) nd__law_told rfl (Or.inl rfl) (pe_callB (x := "isinstance") call_isiT rfl B.isinstance Boot.«isinstance» (pa_cons (pv 3) (pa_cons (pe_tup (pa_cons (pe_glob (v := .ref c1) rfl m1 rfl) (pa_cons (pe_glob (v := .ref c2) rfl m2 rfl) (pa_cons (pe_glob (v := .ref c3) rfl m3 rfl) (pa_cons (pe_glob (v := .ref c4) rfl m4 rfl) (pa_cons (pe_glob (v := .ref c5) rfl m5 rfl) pa_nil)))))) pa_nil))))
    (pss_cons (ps_set (i := 4) nd__law_told rfl (Or.inl rfl) (pe_or (pv 4) (pe_one (pe_callB (x := "isinstance") call_isiT rfl B.isinstance Boot.«isinstance» (pa_cons (pv 3) (pa_cons (pe_tup (pa_cons (pe_glob (v := .ref c6) rfl m6 rfl) (pa_cons (pe_glob (v := .ref c7) rfl m7 rfl) (pa_cons (pe_glob (v := .ref c8) rfl m8 rfl) (pa_cons (pe_glob (v := .ref c9) rfl m9 rfl) pa_nil))))) pa_nil))))))
    (pss_one (ps_ret (pe_op op_mul1 pe_str (pe_callTy (x := "int") call_int1 rfl B.int Boot.«int» (pa_cons (pe_and (pe_isi rfl B.isinstance (pv 3) (pe_glob (v := .ref C) rfl mT rfl)) (pe_and (pe_isi rfl B.isinstance (pv 3) (pe_bltn (v := .ty "ValueError") rfl Cl.ve Boot.«ValueError» rfl)) (pe_one (pe_not (pv 4))))) pa_nil)))))), fun e oe Z σ H hl hcls hn hσ h => ?_⟩
  have hl5 : σ.length = 5 := hl
  clear hl
  revert hσ
  revert hl5
  revert σ
  refine bd5 (fun s0 s1 s2 s3 s4 hσ => ?_)
  have hs3 : s3 = some (.ref e) := Option.some.inj hσ
  subst hs3
  have q1 : PySem.W.kitAny K (.ref C) [.ref c1, .ref c2, .ref c3, .ref c4, .ref c5] = some false := by simp only [PySem.W.kitAny, k1, k2, k3, k4, k5]
  have q2 : PySem.W.kitAny K (.ref C) [.ref c6, .ref c7, .ref c8, .ref c9] = some false := by simp only [PySem.W.kitAny, k6, k7, k8, k9]
  have q3 : PySem.W.kitOne K (.ref C) (.ref C) = some true := by unfold PySem.W.kitOne; rw [if_pos (by simp)]
  have mem : (e, oe) ∈ ((cxOf (cxx P w) P w K mg base ["_law_face_here", "_law_rules_here", "_law_table_here", "e", "_law_other"] "_law_told" (defScope (top 36)) f cdv A outer s H E).within e oe).pn := List.mem_append_right _ (List.mem_singleton.mpr rfl)
  refine ⟨_, rfl, by show 5 <= sizeLine; decide, fun p hp => ⟨e, oe, C, p, _, _, false, rfl, mem, hcls, iT, SqT.of upd_same, .cons (.ref _) (.cons (.ref _) (.cons (.ref _) (.cons (.ref _) (.cons (.ref _) .nil)))), q1, ?_⟩⟩
  refine ⟨_, rfl, false, rfl, iteF ⟨_, rfl, by show 4 <= sizeLine; decide, fun p2 hp2 => ⟨e, oe, C, p2, _, _, false, rfl, mem, hcls, iT, SqT.of upd_same, .cons (.ref _) (.cons (.ref _) (.cons (.ref _) (.cons (.ref _) .nil))), q2, ?_⟩⟩⟩
  refine ⟨_, rfl, _, _, _, _, _, rfl, .exc mem hcls iT, .ref _, q3, true, rfl, iteT ⟨_, rfl, _, _, _, _, _, rfl, .exc mem hcls iT, .ty _, kV, true, rfl, iteT ⟨_, rfl, false, rfl, .inr ⟨_, rfl, _, rfl, rfl, ?_⟩⟩⟩⟩
  exact h _ _ ((Same.new hp).trans (Same.new hp2)) ⟨rfl, rfl⟩
noncomputable def t__law_told : Tn -> R Fl := (sTryR F_columns (aCons (eVar 0) (aCons (eVar 1) (aCons (eVar 2) aNil))) g__law_told)
noncomputable def F__law_told : List D -> R D := runB 5 t__law_told
theorem sc__law_told : FnScope ["_law_face_here", "_law_rules_here", "_law_table_here", "e", "_law_other"] ["_law_face_here", "_law_rules_here", "_law_table_here"] (defScope (top 36)) := ⟨rfl, rfl, rfl, by decide +kernel, rfl, by decide +kernel, by decide +kernel⟩
theorem ok__law_told (Df : DefIn K mg "_law_told" (top 36) ["_law_face_here", "_law_rules_here", "_law_table_here"]) (B : Bl mg) (Cl : Cls K mg) (O_columns : Own P w K mg base "columns" 4 ["face", "rules", "table"] (spM K F_columns 3)) : Own P w K mg base "_law_told" 5 ["_law_face_here", "_law_rules_here", "_law_table_here"] (spM K F__law_told 3) :=
  Df.mir (k := 4) (Γ' := [.shr, .shr, .shr, .dead, .dead]) sc__law_told (by decide) fun f cdv A outer s H E hr => (mss_one (ms_tryRC (O_columns.mono (by decide)) sc__law_told.nd hr rfl (ma_cons (mn 0 .shr) (ma_cons (mn 1 .shr) (ma_cons (mn 2 .shr) ma_nil))) rfl rfl rfl (show 3 < 5 by decide) rfl (suite__law_told Cl B f cdv A outer s H E)))
noncomputable def t__law_good : Tn -> R Fl := (sSeq (sSet 4 (eL maxLD (aCons (eBin addD (eL (fun ds => .ok (.lst ds)) (aCons (eC (.int 1)) aNil)) (eComp [none] (iSeq (eVar 1)) (.one 0) (fun _ => .ok true) (eL maxLD (aCons (eComp [none] (iSeq (eVar 0)) (.one 0) (fun _ => .ok true) (eL lenD (aCons (eVar 0) aNil))) aNil)))) aNil))) (sSeq (sIf (eTest (eBin (eqR false) (eVar 3) (eC (.str "too wide")))) (sRet (eBin gtD (eL F__law_breadth (aCons (eVar 0) (aCons (eVar 1) (aCons (eVar 4) aNil)))) (eVar 2))) sSkip) (sSeq (sIf (bOr (bNot (eTest (eUn (isiD "tuple") (eVar 3)))) (bOr (eTest (eBin (eqR true) (eL lenD (aCons (eVar 3) aNil)) (eC (.int 2)))) (bOr (bNot (eTest (eL F__law_whole (aCons (eBin ixD (eVar 3) (eC (.int 0))) aNil)))) (bNot (eTest (eUn (isiD "list") (eBin ixD (eVar 3) (eC (.int 1))))))))) (sRet (eC (.bl false))) sSkip) (sSeq (sIf (bOr (bNot (eTest (eChain leD leD (eC (.int 1)) (eBin ixD (eVar 3) (eC (.int 0))) (eVar 4)))) (bNot (eTest (eL allD (aCons (eComp [none] (iSeq (eBin ixD (eVar 3) (eC (.int 1)))) (.one 0) (fun _ => .ok true) (eL F__law_whole (aCons (eVar 0) aNil))) aNil))))) (sRet (eC (.bl false))) sSkip) (sSeq (sIf (bOr (eTest (eBin (eqR true) (eBin ixD (eVar 3) (eC (.int 1))) (eL F__law_widths (aCons (eVar 0) (aCons (eVar 1) (aCons (eBin ixD (eVar 3) (eC (.int 0))) aNil)))))) (eTest (eBin gtD (eL F__law_breadth (aCons (eVar 0) (aCons (eVar 1) (aCons (eBin ixD (eVar 3) (eC (.int 0))) aNil)))) (eVar 2)))) (sRet (eC (.bl false))) sSkip) (sRet (eOr (eBin (eqR false) (eBin ixD (eVar 3) (eC (.int 0))) (eC (.int 1))) (eBin gtD (eL F__law_breadth (aCons (eVar 0) (aCons (eVar 1) (aCons (eBin subD (eBin ixD (eVar 3) (eC (.int 0))) (eC (.int 1))) aNil)))) (eVar 2)))))))))
noncomputable def F__law_good : List D -> R D := runB 5 t__law_good
theorem sc__law_good : FnScope ["_law_face_here", "_law_table_here", "_law_width", "_law_found", "_law_most"] ["_law_face_here", "_law_table_here", "_law_width", "_law_found"] (defScope (top 37)) := ⟨rfl, rfl, rfl, by decide +kernel, rfl, by decide +kernel, by decide +kernel⟩
theorem ok__law_good (Df : DefIn K mg "_law_good" (top 37) ["_law_face_here", "_law_table_here", "_law_width", "_law_found"]) (B : Bl mg) (Cl : Cls K mg) (O__law_breadth : Own P w K mg base "_law_breadth" 5 ["_law_face_here", "_law_table_here", "_law_rows"] (spM K F__law_breadth 3)) (O__law_whole : Own P w K mg base "_law_whole" 1 ["_law_found"] (spM K F__law_whole 1)) (O__law_widths : Own P w K mg base "_law_widths" 4 ["_law_face_here", "_law_table_here", "_law_rows"] (spM K F__law_widths 3)) : Own P w K mg base "_law_good" 6 ["_law_face_here", "_law_table_here", "_law_width", "_law_found"] (spM K F__law_good 4) :=
  Df.mir (k := 5) (Γ' := [.shr, .shr, .shr, .shr, .dead]) sc__law_good (by decide) fun f cdv A outer s H E hr => (mss_cons (L2.st 4 sc__law_good.nd (mv_fresh (me_callB (call_maxL (by exact rfl)) B_maxL N_maxL (by exact rfl) B.max PyProof.Rows.boot_max (ma_cons (me_op op_addA B_add N_add (me_lst (ma_cons me_int ma_nil)) (me_comp (N' := ["_law_row"]) (fr := [none]) rfl (cs_def sc__law_good.nofree (by decide +kernel)) (mi_seq (mn 1 .shr)) (fun _ _ _ _ => (mg_one (pgn 0 (show List.Nodup (["_law_row"] : List Str) from by decide +kernel)))) (fun _ _ _ _ => mts_nil) (fun _ _ _ _ => (me_callB (call_maxL (by exact rfl)) B_maxL N_maxL (by exact rfl) B.max PyProof.Rows.boot_max (ma_cons (me_comp (N' := ["_law_words_here"]) (fr := [none]) rfl (cs_comp (by first | decide +kernel | exact rfl) (by first | decide +kernel | exact rfl)) (mi_seq (mn 0 .shr)) (fun _ _ _ _ => (mg_one (pgn 0 (show List.Nodup (["_law_words_here"] : List Str) from by decide +kernel)))) (fun _ _ _ _ => mts_nil) (fun _ _ _ _ => (me_callB call_lenA B_len N_len (by exact rfl) B.len PySem.boot_len (ma_cons (mn 0 .shr) ma_nil))) (by decide) (by decide)) ma_nil))) (by decide) (by decide))) ma_nil)))) (mss_cons (ms_if (mt_cmp (op_eqAll hr.u12) B_eq N_eq (mn 3 .shr) me_str (nomark _)) (mss_one (ms_ret (mv_fresh (me_cmp op_gt B_gt N_int (me_call (O__law_breadth.mono (by decide)) hr (by exact rfl) passes_cxx (ma_cons (mn 0 .shr) (ma_cons (mn 1 .shr) (ma_cons (mn 4 .own) ma_nil)))) (mn 2 .shr) (nomark _))))) mss_nil) (mss_cons (ms_if (MW.mt (mw_or (mt_not (mt_val (me_isi (T := "tuple") (by decide) rfl B.isinstance (pe_bltn (v := .ty "tuple") rfl B.tuple Boot.«tuple» rfl) (mn 3 .shr)))) (mw_or (mt_cmp (op_neAll hr.u12) B_eq N_eq (me_callB call_lenA B_len N_len (by exact rfl) B.len PySem.boot_len (ma_cons (mn 3 .shr) ma_nil)) me_int (nomark _)) (mw_or (mt_not (mt_val (me_call (O__law_whole.mono (by decide)) hr (by exact rfl) passes_cxx (ma_cons (me_ix hr.u1 (mn 3 .shr) me_int) ma_nil)))) (mw_or1 (mt_not (mt_val (me_isi (T := "list") (by decide) rfl B.isinstance (pe_bltn (v := .ty "list") rfl B.list Boot.«list» rfl) (me_ix hr.u1 (mn 3 .shr) me_int))))))))) (mss_one (ms_ret (mv_fresh me_bl))) mss_nil) (mss_cons (ms_if (MW.mt (mw_or (mt_not (mt_chain op_le B_le N_int op_le B_le N_int me_int (me_ix hr.u1 (mn 3 .shr) me_int) (mn 4 .own))) (mw_or1 (mt_not (mt_val (me_callB (call_allL (by exact rfl)) B_all N_all (by exact rfl) B.all Boot.«all» (ma_cons (me_comp (N' := ["_law_one"]) (fr := [none]) rfl (cs_def sc__law_good.nofree (by decide +kernel)) (mi_seq (me_ix hr.u1 (mn 3 .shr) me_int)) (fun _ _ _ _ => (mg_one (pgn 0 (show List.Nodup (["_law_one"] : List Str) from by decide +kernel)))) (fun _ _ _ _ => mts_nil) (fun _ _ _ _ => (me_call (O__law_whole.mono (by decide)) hr (by exact rfl) passes_no (ma_cons (mn 0 .shr) ma_nil))) (by decide) (by decide)) ma_nil))))))) (mss_one (ms_ret (mv_fresh me_bl))) mss_nil) (mss_cons (ms_if (MW.mt (mw_or (mt_cmp (op_neAll hr.u12) B_eq N_eq (me_ix hr.u1 (mn 3 .shr) me_int) (me_call (O__law_widths.mono (by decide)) hr (by exact rfl) passes_cxx (ma_cons (mn 0 .shr) (ma_cons (mn 1 .shr) (ma_cons (me_ix hr.u1 (mn 3 .shr) me_int) ma_nil)))) (nomark _)) (mw_or1 (mt_cmp op_gt B_gt N_int (me_call (O__law_breadth.mono (by decide)) hr (by exact rfl) passes_cxx (ma_cons (mn 0 .shr) (ma_cons (mn 1 .shr) (ma_cons (me_ix hr.u1 (mn 3 .shr) me_int) ma_nil)))) (mn 2 .shr) (nomark _))))) (mss_one (ms_ret (mv_fresh me_bl))) mss_nil) (mss_one (ms_ret (mv_fresh (me_or (me_cmp (op_eqAll hr.u12) B_eq N_eq (me_ix hr.u1 (mn 3 .shr) me_int) me_int (nomark _)) (me_one (me_cmp op_gt B_gt N_int (me_call (O__law_breadth.mono (by decide)) hr (by exact rfl) passes_cxx (ma_cons (mn 0 .shr) (ma_cons (mn 1 .shr) (ma_cons (me_op op_sub B_sub N_int (me_ix hr.u1 (mn 3 .shr) me_int) me_int) ma_nil)))) (mn 2 .shr) (nomark _))))))))))))
noncomputable def t_law : Tn -> R Fl := (sSeq (sSet 1 (eL F__law_face (aCons (eVar 0) aNil))) (sSeq (sSet 2 (eL F__law_table (aCons (eVar 0) aNil))) (sSeq (sSet 3 (eL tuple1D (aCons (eComp [none] (iSeq (eVar 2)) (.one 0) (fun _ => .ok true) (eL tuple1D (aCons (eComp [none] (iSeq (eVar 0)) (.one 0) (fun _ => .ok true) (eL tuple1D (aCons (eVar 0) aNil))) aNil))) aNil))) (sSeq (sSet 4 (eL F__law_room (aCons (eVar 1) (aCons (eVar 3) (aCons (eL F__law_mixed (aCons (eVar 0) (aCons (eC (.int 28)) aNil))) aNil))))) (sSeq (sFor (iSeq (eL (fun ds => .ok (.lst ds)) (aCons (eVar 4) (aCons (eL F__law_room (aCons (eVar 1) (aCons (eVar 3) (aCons (eL F__law_mixed (aCons (eVar 0) (aCons (eC (.int 29)) aNil))) aNil)))) (aCons (eVar 4) aNil))))) (.one 5) (sSeq (sSet 6 (eL F__law_rules (aCons (eVar 0) (aCons (eVar 5) aNil)))) (sSeq (sSet 7 (eL dictAD (aCons (eVar 6) aNil))) (sSeq (sSet 8 (eL F__law_told (aCons (eVar 1) (aCons (eVar 7) (aCons (eVar 3) aNil))))) (sSeq (sIf (bOr (bNot (eTest (eL F__law_good (aCons (eVar 1) (aCons (eVar 3) (aCons (eVar 5) (aCons (eVar 8) aNil))))))) (eTest (eBin (eqR true) (eVar 7) (eVar 6)))) (sRet (eC (.bl false))) sSkip) (sIf (eTest (eUn (isiD "tuple") (eVar 8))) (sAppAt 8 1 (.int 0)) sSkip)))))) (sRet (eC (.bl true))))))))
noncomputable def F_law : List D -> R D := runB 9 t_law
theorem sc_law : FnScope ["_law_script", "_law_face_here", "_law_rows", "_law_table_here", "_law_first", "_law_width", "_law_rules_here", "_law_handed", "_law_found"] ["_law_script"] (defScope (top 38)) := ⟨rfl, rfl, rfl, by decide +kernel, rfl, by decide +kernel, by decide +kernel⟩
theorem body_law (B : Bl mg) (Cl : Cls K mg) (O__law_face : Own P w K mg base "_law_face" 3 ["_law_script"] (spM K F__law_face 1)) (O__law_table : Own P w K mg base "_law_table" 3 ["_law_script"] (spM K F__law_table 1)) (O__law_room : Own P w K mg base "_law_room" 6 ["_law_face_here", "_law_table_here", "_law_number"] (spM K F__law_room 3)) (O__law_mixed : Own P w K mg base "_law_mixed" 2 ["_law_script", "_law_k"] (spM K F__law_mixed 2)) (O__law_rules : Own P w K mg base "_law_rules" 3 ["_law_script", "_law_width"] (spM K F__law_rules 2)) (O__law_told : Own P w K mg base "_law_told" 5 ["_law_face_here", "_law_rules_here", "_law_table_here"] (spM K F__law_told 3)) (O__law_good : Own P w K mg base "_law_good" 6 ["_law_face_here", "_law_table_here", "_law_width", "_law_found"] (spM K F__law_good 4)) : ∀ (f : Addr) (cdv : Value) (A : Around) (outer : List Env) (s : Shared) (H : Hp) (E : XK), Room 6 (A.deeper (envOfC "law" (defScope (top 38)) s.heap.objs.size f cdv)) -> MSs (cxOf (cxx P w) P w K mg base ["_law_script", "_law_face_here", "_law_rows", "_law_table_here", "_law_first", "_law_width", "_law_rules_here", "_law_handed", "_law_found"] "law" (defScope (top 38)) f cdv A outer s H E) E [] (prmC 9 1) (defBody (top 38)) t_law [.shr, .dead, .dead, .dead, .dead, .dead, .dead, .dead, .dead] :=
  fun f cdv A outer s H E hr => (mss_cons (L2.st 1 sc_law.nd (mv_fresh (me_call (O__law_face.mono (by decide)) hr (by exact rfl) passes_cxx (ma_cons (mn 0 .shr) ma_nil)))) (mss_cons (L2.st 2 sc_law.nd (mv_fresh (me_call (O__law_table.mono (by decide)) hr (by exact rfl) passes_cxx (ma_cons (mn 0 .shr) ma_nil)))) (mss_cons (L2.st 3 sc_law.nd (mv_fresh (me_callTy call_tuple_of B_tuple1 N_tuple1 (by exact rfl) B.tuple Boot.«tuple» (ma_cons (me_comp (N' := ["_law_row"]) (fr := [none]) rfl (cs_def sc_law.nofree (by decide +kernel)) (mi_seq (mn 2 .own)) (fun _ _ _ _ => (mg_one (pgn 0 (show List.Nodup (["_law_row"] : List Str) from by decide +kernel)))) (fun _ _ _ _ => mts_nil) (fun _ _ _ _ => (me_callTy call_tuple_of B_tuple1 N_tuple1 (by exact rfl) B.tuple Boot.«tuple» (ma_cons (me_comp (N' := ["_law_words_here"]) (fr := [none]) rfl (cs_comp (by first | decide +kernel | exact rfl) (by first | decide +kernel | exact rfl)) (mi_seq (mn 0 .brw)) (fun _ _ _ _ => (mg_one (pgn 0 (show List.Nodup (["_law_words_here"] : List Str) from by decide +kernel)))) (fun _ _ _ _ => mts_nil) (fun _ _ _ _ => (me_callTy call_tuple_of B_tuple1 N_tuple1 (by exact rfl) B.tuple Boot.«tuple» (ma_cons (mn 0 .brw) ma_nil))) (by decide) (by decide)) ma_nil))) (by decide) (by decide)) ma_nil)))) (mss_cons (L2.st 4 sc_law.nd (mv_fresh (me_call (O__law_room.mono (by decide)) hr (by exact rfl) passes_cxx (ma_cons (mn 1 .own) (ma_cons (mn 3 .own) (ma_cons (me_call (O__law_mixed.mono (by decide)) hr (by exact rfl) passes_cxx (ma_cons (mn 0 .shr) (ma_cons me_int ma_nil))) ma_nil)))))) (mss_cons (ms_pre (Γ1 := [.shr, .shr, .own, .shr, .shr, .dead, .dead, .dead, .dead]) (ms_for (Γ2 := [.shr, .shr, .own, .shr, .shr, .shr, .own, .own, .own]) PassesOwn.leaving rfl (mi_seq (me_lst (ma_cons (mn 4 .shr) (ma_cons (me_call (O__law_room.mono (by decide)) hr (by exact rfl) passes_cxx (ma_cons (mn 1 .shr) (ma_cons (mn 3 .shr) (ma_cons (me_call (O__law_mixed.mono (by decide)) hr (by exact rfl) passes_cxx (ma_cons (mn 0 .shr) (ma_cons me_int ma_nil))) ma_nil)))) (ma_cons (mn 4 .shr) ma_nil))))) (by decide) (mg_one (pgn 5 sc_law.nd)) (by decide) (mss_cons (L2.st 6 sc_law.nd (mv_fresh (me_call (O__law_rules.mono (by decide)) hr (by exact rfl) passes_cxx (ma_cons (mn 0 .shr) (ma_cons (mn 5 .shr) ma_nil))))) (mss_cons (L2.st 7 sc_law.nd (mv_fresh (me_callTy (call_dictA (by exact rfl)) B_dictA N_dictA (by exact rfl) B.dict Boot.«dict» (ma_cons (mn 6 .own) ma_nil)))) (mss_cons (L2.st 8 sc_law.nd (mv_fresh (me_call (O__law_told.mono (by decide)) hr (by exact rfl) passes_cxx (ma_cons (mn 1 .shr) (ma_cons (mn 7 .own) (ma_cons (mn 3 .shr) ma_nil)))))) (mss_cons (ms_if (MW.mt (mw_or (mt_not (mt_val (me_call (O__law_good.mono (by decide)) hr (by exact rfl) passes_cxx (ma_cons (mn 1 .shr) (ma_cons (mn 3 .shr) (ma_cons (mn 5 .shr) (ma_cons (mn 8 .own) ma_nil))))))) (mw_or1 (mt_cmp (op_neAll hr.u12) B_eq N_eq (mn 7 .own) (mn 6 .own) (nomark _))))) (mss_one (ms_ret (mv_fresh me_bl))) mss_nil) (mss_one (ms_if (mt_val (me_isi (T := "tuple") (by decide) rfl B.isinstance (pe_bltn (v := .ty "tuple") rfl B.tuple Boot.«tuple» rfl) (mn 8 .own))) (mss_one (appc 8 1 (.int 0) (te := tC .non) pe_int (fun _ => ⟨rfl, rfl⟩))) mss_nil)))))) rfl) rfl) (mss_one (ms_ret (mv_fresh me_bl))))))))
theorem all_mk {h : Heap} {fa : Addr} (X : K.In h) (G : h.Ns mainGlobals mg) (hfa : mg "law" = some (.ref fa))
    {f_wide : Addr} {od_wide an_wide : Option Addr} {sl_wide : Array (Option Value)} {oc_wide kV_wide dc_wide pm_wide cd_wide ct_wide : Value}
    {f_word_widths : Addr} {od_word_widths an_word_widths : Option Addr} {sl_word_widths : Array (Option Value)} {oc_word_widths kV_word_widths dc_word_widths pm_word_widths cd_word_widths ct_word_widths : Value}
    {f_fill : Addr} {od_fill an_fill : Option Addr} {sl_fill : Array (Option Value)} {oc_fill kV_fill dc_fill pm_fill cd_fill ct_fill : Value}
    {f_go_in : Addr} {od_go_in an_go_in : Option Addr} {sl_go_in : Array (Option Value)} {oc_go_in kV_go_in dc_go_in pm_go_in cd_go_in ct_go_in : Value}
    {f_least_width : Addr} {od_least_width an_least_width : Option Addr} {sl_least_width : Array (Option Value)} {oc_least_width kV_least_width dc_least_width pm_least_width cd_least_width ct_least_width : Value}
    {f_between : Addr} {od_between an_between : Option Addr} {sl_between : Array (Option Value)} {oc_between kV_between dc_between pm_between cd_between ct_between : Value}
    {f_column_cells : Addr} {od_column_cells an_column_cells : Option Addr} {sl_column_cells : Array (Option Value)} {oc_column_cells kV_column_cells dc_column_cells pm_column_cells cd_column_cells ct_column_cells : Value}
    {f_most_lines : Addr} {od_most_lines an_most_lines : Option Addr} {sl_most_lines : Array (Option Value)} {oc_most_lines kV_most_lines dc_most_lines pm_most_lines cd_most_lines ct_most_lines : Value}
    {f_columns : Addr} {od_columns an_columns : Option Addr} {sl_columns : Array (Option Value)} {oc_columns kV_columns dc_columns pm_columns cd_columns ct_columns : Value}
    {f__law_cell : Addr} {od__law_cell an__law_cell : Option Addr} {sl__law_cell : Array (Option Value)} {oc__law_cell kV__law_cell dc__law_cell pm__law_cell cd__law_cell ct__law_cell : Value}
    {f__law_mixed : Addr} {od__law_mixed an__law_mixed : Option Addr} {sl__law_mixed : Array (Option Value)} {oc__law_mixed kV__law_mixed dc__law_mixed pm__law_mixed cd__law_mixed ct__law_mixed : Value}
    {f__law_whole : Addr} {od__law_whole an__law_whole : Option Addr} {sl__law_whole : Array (Option Value)} {oc__law_whole kV__law_whole dc__law_whole pm__law_whole cd__law_whole ct__law_whole : Value}
    {f__law_face : Addr} {od__law_face an__law_face : Option Addr} {sl__law_face : Array (Option Value)} {oc__law_face kV__law_face dc__law_face pm__law_face cd__law_face ct__law_face : Value}
    {f__law_word : Addr} {od__law_word an__law_word : Option Addr} {sl__law_word : Array (Option Value)} {oc__law_word kV__law_word dc__law_word pm__law_word cd__law_word ct__law_word : Value}
    {f__law_words : Addr} {od__law_words an__law_words : Option Addr} {sl__law_words : Array (Option Value)} {oc__law_words kV__law_words dc__law_words pm__law_words cd__law_words ct__law_words : Value}
    {f__law_table : Addr} {od__law_table an__law_table : Option Addr} {sl__law_table : Array (Option Value)} {oc__law_table kV__law_table dc__law_table pm__law_table cd__law_table ct__law_table : Value}
    {f__law_widths : Addr} {od__law_widths an__law_widths : Option Addr} {sl__law_widths : Array (Option Value)} {oc__law_widths kV__law_widths dc__law_widths pm__law_widths cd__law_widths ct__law_widths : Value}
    {f__law_breadth : Addr} {od__law_breadth an__law_breadth : Option Addr} {sl__law_breadth : Array (Option Value)} {oc__law_breadth kV__law_breadth dc__law_breadth pm__law_breadth cd__law_breadth ct__law_breadth : Value}
    {f__law_room : Addr} {od__law_room an__law_room : Option Addr} {sl__law_room : Array (Option Value)} {oc__law_room kV__law_room dc__law_room pm__law_room cd__law_room ct__law_room : Value}
    {f__law_rules : Addr} {od__law_rules an__law_rules : Option Addr} {sl__law_rules : Array (Option Value)} {oc__law_rules kV__law_rules dc__law_rules pm__law_rules cd__law_rules ct__law_rules : Value}
    {f__law_told : Addr} {od__law_told an__law_told : Option Addr} {sl__law_told : Array (Option Value)} {oc__law_told kV__law_told dc__law_told pm__law_told cd__law_told ct__law_told : Value}
    {f__law_good : Addr} {od__law_good an__law_good : Option Addr} {sl__law_good : Array (Option Value)} {oc__law_good kV__law_good dc__law_good pm__law_good cd__law_good ct__law_good : Value}
    {f_law : Addr} {od_law an_law : Option Addr} {sl_law : Array (Option Value)} {oc_law kV_law dc_law pm_law cd_law ct_law : Value}
    {CS CT c1 c2 c3 c4 c5 c6 c7 c8 c9 : Addr}
    (a_wide : PySem.W.nsIn K mainGlobals "wide" = some (some (.ref f_wide))) (l_wide : K.lookup f_wide = some ⟨oc_wide, od_wide, .func (PySem.W.fnOf "wide" "wide" (defArgs (top 13)) (defBody (top 13)) (defScope (top 13)) .none kV_wide dc_wide pm_wide an_wide cd_wide ct_wide), sl_wide⟩) (c_wide : PySem.W.codeIn K cd_wide "wide" = true) (k_wide : PySem.W.keepIn K (.ref f_wide) = true)
    (a_word_widths : PySem.W.nsIn K mainGlobals "word_widths" = some (some (.ref f_word_widths))) (l_word_widths : K.lookup f_word_widths = some ⟨oc_word_widths, od_word_widths, .func (PySem.W.fnOf "word_widths" "word_widths" (defArgs (top 15)) (defBody (top 15)) (defScope (top 15)) .none kV_word_widths dc_word_widths pm_word_widths an_word_widths cd_word_widths ct_word_widths), sl_word_widths⟩) (c_word_widths : PySem.W.codeIn K cd_word_widths "word_widths" = true) (k_word_widths : PySem.W.keepIn K (.ref f_word_widths) = true)
    (a_fill : PySem.W.nsIn K mainGlobals "fill" = some (some (.ref f_fill))) (l_fill : K.lookup f_fill = some ⟨oc_fill, od_fill, .func (PySem.W.fnOf "fill" "fill" (defArgs (top 16)) (defBody (top 16)) (defScope (top 16)) .none kV_fill dc_fill pm_fill an_fill cd_fill ct_fill), sl_fill⟩) (c_fill : PySem.W.codeIn K cd_fill "fill" = true) (k_fill : PySem.W.keepIn K (.ref f_fill) = true)
    (a_go_in : PySem.W.nsIn K mainGlobals "go_in" = some (some (.ref f_go_in))) (l_go_in : K.lookup f_go_in = some ⟨oc_go_in, od_go_in, .func (PySem.W.fnOf "go_in" "go_in" (defArgs (top 17)) (defBody (top 17)) (defScope (top 17)) .none kV_go_in dc_go_in pm_go_in an_go_in cd_go_in ct_go_in), sl_go_in⟩) (c_go_in : PySem.W.codeIn K cd_go_in "go_in" = true) (k_go_in : PySem.W.keepIn K (.ref f_go_in) = true)
    (a_least_width : PySem.W.nsIn K mainGlobals "least_width" = some (some (.ref f_least_width))) (l_least_width : K.lookup f_least_width = some ⟨oc_least_width, od_least_width, .func (PySem.W.fnOf "least_width" "least_width" (defArgs (top 18)) (defBody (top 18)) (defScope (top 18)) .none kV_least_width dc_least_width pm_least_width an_least_width cd_least_width ct_least_width), sl_least_width⟩) (c_least_width : PySem.W.codeIn K cd_least_width "least_width" = true) (k_least_width : PySem.W.keepIn K (.ref f_least_width) = true)
    (a_between : PySem.W.nsIn K mainGlobals "between" = some (some (.ref f_between))) (l_between : K.lookup f_between = some ⟨oc_between, od_between, .func (PySem.W.fnOf "between" "between" (defArgs (top 20)) (defBody (top 20)) (defScope (top 20)) .none kV_between dc_between pm_between an_between cd_between ct_between), sl_between⟩) (c_between : PySem.W.codeIn K cd_between "between" = true) (k_between : PySem.W.keepIn K (.ref f_between) = true)
    (a_column_cells : PySem.W.nsIn K mainGlobals "column_cells" = some (some (.ref f_column_cells))) (l_column_cells : K.lookup f_column_cells = some ⟨oc_column_cells, od_column_cells, .func (PySem.W.fnOf "column_cells" "column_cells" (defArgs (top 21)) (defBody (top 21)) (defScope (top 21)) .none kV_column_cells dc_column_cells pm_column_cells an_column_cells cd_column_cells ct_column_cells), sl_column_cells⟩) (c_column_cells : PySem.W.codeIn K cd_column_cells "column_cells" = true) (k_column_cells : PySem.W.keepIn K (.ref f_column_cells) = true)
    (a_most_lines : PySem.W.nsIn K mainGlobals "most_lines" = some (some (.ref f_most_lines))) (l_most_lines : K.lookup f_most_lines = some ⟨oc_most_lines, od_most_lines, .func (PySem.W.fnOf "most_lines" "most_lines" (defArgs (top 22)) (defBody (top 22)) (defScope (top 22)) .none kV_most_lines dc_most_lines pm_most_lines an_most_lines cd_most_lines ct_most_lines), sl_most_lines⟩) (c_most_lines : PySem.W.codeIn K cd_most_lines "most_lines" = true) (k_most_lines : PySem.W.keepIn K (.ref f_most_lines) = true)
    (a_columns : PySem.W.nsIn K mainGlobals "columns" = some (some (.ref f_columns))) (l_columns : K.lookup f_columns = some ⟨oc_columns, od_columns, .func (PySem.W.fnOf "columns" "columns" (defArgs (top 23)) (defBody (top 23)) (defScope (top 23)) .none kV_columns dc_columns pm_columns an_columns cd_columns ct_columns), sl_columns⟩) (c_columns : PySem.W.codeIn K cd_columns "columns" = true) (k_columns : PySem.W.keepIn K (.ref f_columns) = true)
    (a__law_cell : PySem.W.nsIn K mainGlobals "_law_cell" = some (some (.ref f__law_cell))) (l__law_cell : K.lookup f__law_cell = some ⟨oc__law_cell, od__law_cell, .func (PySem.W.fnOf "_law_cell" "_law_cell" (defArgs (top 25)) (defBody (top 25)) (defScope (top 25)) .none kV__law_cell dc__law_cell pm__law_cell an__law_cell cd__law_cell ct__law_cell), sl__law_cell⟩) (c__law_cell : PySem.W.codeIn K cd__law_cell "_law_cell" = true) (k__law_cell : PySem.W.keepIn K (.ref f__law_cell) = true)
    (a__law_mixed : PySem.W.nsIn K mainGlobals "_law_mixed" = some (some (.ref f__law_mixed))) (l__law_mixed : K.lookup f__law_mixed = some ⟨oc__law_mixed, od__law_mixed, .func (PySem.W.fnOf "_law_mixed" "_law_mixed" (defArgs (top 26)) (defBody (top 26)) (defScope (top 26)) .none kV__law_mixed dc__law_mixed pm__law_mixed an__law_mixed cd__law_mixed ct__law_mixed), sl__law_mixed⟩) (c__law_mixed : PySem.W.codeIn K cd__law_mixed "_law_mixed" = true) (k__law_mixed : PySem.W.keepIn K (.ref f__law_mixed) = true)
    (a__law_whole : PySem.W.nsIn K mainGlobals "_law_whole" = some (some (.ref f__law_whole))) (l__law_whole : K.lookup f__law_whole = some ⟨oc__law_whole, od__law_whole, .func (PySem.W.fnOf "_law_whole" "_law_whole" (defArgs (top 27)) (defBody (top 27)) (defScope (top 27)) .none kV__law_whole dc__law_whole pm__law_whole an__law_whole cd__law_whole ct__law_whole), sl__law_whole⟩) (c__law_whole : PySem.W.codeIn K cd__law_whole "_law_whole" = true) (k__law_whole : PySem.W.keepIn K (.ref f__law_whole) = true)
    (a__law_face : PySem.W.nsIn K mainGlobals "_law_face" = some (some (.ref f__law_face))) (l__law_face : K.lookup f__law_face = some ⟨oc__law_face, od__law_face, .func (PySem.W.fnOf "_law_face" "_law_face" (defArgs (top 28)) (defBody (top 28)) (defScope (top 28)) .none kV__law_face dc__law_face pm__law_face an__law_face cd__law_face ct__law_face), sl__law_face⟩) (c__law_face : PySem.W.codeIn K cd__law_face "_law_face" = true) (k__law_face : PySem.W.keepIn K (.ref f__law_face) = true)
    (a__law_word : PySem.W.nsIn K mainGlobals "_law_word" = some (some (.ref f__law_word))) (l__law_word : K.lookup f__law_word = some ⟨oc__law_word, od__law_word, .func (PySem.W.fnOf "_law_word" "_law_word" (defArgs (top 29)) (defBody (top 29)) (defScope (top 29)) .none kV__law_word dc__law_word pm__law_word an__law_word cd__law_word ct__law_word), sl__law_word⟩) (c__law_word : PySem.W.codeIn K cd__law_word "_law_word" = true) (k__law_word : PySem.W.keepIn K (.ref f__law_word) = true)
    (a__law_words : PySem.W.nsIn K mainGlobals "_law_words" = some (some (.ref f__law_words))) (l__law_words : K.lookup f__law_words = some ⟨oc__law_words, od__law_words, .func (PySem.W.fnOf "_law_words" "_law_words" (defArgs (top 30)) (defBody (top 30)) (defScope (top 30)) .none kV__law_words dc__law_words pm__law_words an__law_words cd__law_words ct__law_words), sl__law_words⟩) (c__law_words : PySem.W.codeIn K cd__law_words "_law_words" = true) (k__law_words : PySem.W.keepIn K (.ref f__law_words) = true)
    (a__law_table : PySem.W.nsIn K mainGlobals "_law_table" = some (some (.ref f__law_table))) (l__law_table : K.lookup f__law_table = some ⟨oc__law_table, od__law_table, .func (PySem.W.fnOf "_law_table" "_law_table" (defArgs (top 31)) (defBody (top 31)) (defScope (top 31)) .none kV__law_table dc__law_table pm__law_table an__law_table cd__law_table ct__law_table), sl__law_table⟩) (c__law_table : PySem.W.codeIn K cd__law_table "_law_table" = true) (k__law_table : PySem.W.keepIn K (.ref f__law_table) = true)
    (a__law_widths : PySem.W.nsIn K mainGlobals "_law_widths" = some (some (.ref f__law_widths))) (l__law_widths : K.lookup f__law_widths = some ⟨oc__law_widths, od__law_widths, .func (PySem.W.fnOf "_law_widths" "_law_widths" (defArgs (top 32)) (defBody (top 32)) (defScope (top 32)) .none kV__law_widths dc__law_widths pm__law_widths an__law_widths cd__law_widths ct__law_widths), sl__law_widths⟩) (c__law_widths : PySem.W.codeIn K cd__law_widths "_law_widths" = true) (k__law_widths : PySem.W.keepIn K (.ref f__law_widths) = true)
    (a__law_breadth : PySem.W.nsIn K mainGlobals "_law_breadth" = some (some (.ref f__law_breadth))) (l__law_breadth : K.lookup f__law_breadth = some ⟨oc__law_breadth, od__law_breadth, .func (PySem.W.fnOf "_law_breadth" "_law_breadth" (defArgs (top 33)) (defBody (top 33)) (defScope (top 33)) .none kV__law_breadth dc__law_breadth pm__law_breadth an__law_breadth cd__law_breadth ct__law_breadth), sl__law_breadth⟩) (c__law_breadth : PySem.W.codeIn K cd__law_breadth "_law_breadth" = true) (k__law_breadth : PySem.W.keepIn K (.ref f__law_breadth) = true)
    (a__law_room : PySem.W.nsIn K mainGlobals "_law_room" = some (some (.ref f__law_room))) (l__law_room : K.lookup f__law_room = some ⟨oc__law_room, od__law_room, .func (PySem.W.fnOf "_law_room" "_law_room" (defArgs (top 34)) (defBody (top 34)) (defScope (top 34)) .none kV__law_room dc__law_room pm__law_room an__law_room cd__law_room ct__law_room), sl__law_room⟩) (c__law_room : PySem.W.codeIn K cd__law_room "_law_room" = true) (k__law_room : PySem.W.keepIn K (.ref f__law_room) = true)
    (a__law_rules : PySem.W.nsIn K mainGlobals "_law_rules" = some (some (.ref f__law_rules))) (l__law_rules : K.lookup f__law_rules = some ⟨oc__law_rules, od__law_rules, .func (PySem.W.fnOf "_law_rules" "_law_rules" (defArgs (top 35)) (defBody (top 35)) (defScope (top 35)) .none kV__law_rules dc__law_rules pm__law_rules an__law_rules cd__law_rules ct__law_rules), sl__law_rules⟩) (c__law_rules : PySem.W.codeIn K cd__law_rules "_law_rules" = true) (k__law_rules : PySem.W.keepIn K (.ref f__law_rules) = true)
    (a__law_told : PySem.W.nsIn K mainGlobals "_law_told" = some (some (.ref f__law_told))) (l__law_told : K.lookup f__law_told = some ⟨oc__law_told, od__law_told, .func (PySem.W.fnOf "_law_told" "_law_told" (defArgs (top 36)) (defBody (top 36)) (defScope (top 36)) .none kV__law_told dc__law_told pm__law_told an__law_told cd__law_told ct__law_told), sl__law_told⟩) (c__law_told : PySem.W.codeIn K cd__law_told "_law_told" = true) (k__law_told : PySem.W.keepIn K (.ref f__law_told) = true)
    (a__law_good : PySem.W.nsIn K mainGlobals "_law_good" = some (some (.ref f__law_good))) (l__law_good : K.lookup f__law_good = some ⟨oc__law_good, od__law_good, .func (PySem.W.fnOf "_law_good" "_law_good" (defArgs (top 37)) (defBody (top 37)) (defScope (top 37)) .none kV__law_good dc__law_good pm__law_good an__law_good cd__law_good ct__law_good), sl__law_good⟩) (c__law_good : PySem.W.codeIn K cd__law_good "_law_good" = true) (k__law_good : PySem.W.keepIn K (.ref f__law_good) = true)
    (a_law : PySem.W.nsIn K mainGlobals "law" = some (some (.ref f_law))) (l_law : K.lookup f_law = some ⟨oc_law, od_law, .func (PySem.W.fnOf "law" "law" (defArgs (top 38)) (defBody (top 38)) (defScope (top 38)) .none kV_law dc_law pm_law an_law cd_law ct_law), sl_law⟩) (c_law : PySem.W.codeIn K cd_law "law" = true) (k_law : PySem.W.keepIn K (.ref f_law) = true)
    (z_isinstance : PySem.W.nsIn K mainGlobals "isinstance" = some none)
    (z_int : PySem.W.nsIn K mainGlobals "int" = some none)
    (z_bool : PySem.W.nsIn K mainGlobals "bool" = some none)
    (z_str : PySem.W.nsIn K mainGlobals "str" = some none)
    (z_dict : PySem.W.nsIn K mainGlobals "dict" = some none)
    (z_list : PySem.W.nsIn K mainGlobals "list" = some none)
    (z_tuple : PySem.W.nsIn K mainGlobals "tuple" = some none)
    (z_len : PySem.W.nsIn K mainGlobals "len" = some none)
    (z_sum : PySem.W.nsIn K mainGlobals "sum" = some none)
    (z_max : PySem.W.nsIn K mainGlobals "max" = some none)
    (z_min : PySem.W.nsIn K mainGlobals "min" = some none)
    (z_all : PySem.W.nsIn K mainGlobals "all" = some none)
    (z_range : PySem.W.nsIn K mainGlobals "range" = some none)
    (z_enumerate : PySem.W.nsIn K mainGlobals "enumerate" = some none)
    (z_zip : PySem.W.nsIn K mainGlobals "zip" = some none)
    (y_S : PySem.W.nsIn K mainGlobals "SetError" = some (some (.ref CS)))
    (y_T : PySem.W.nsIn K mainGlobals "TooWide" = some (some (.ref CT)))
    (y_X : PySem.W.excIn K CT [.type "ValueError", .type "Exception", .type "BaseException", .type "object"] "ValueError.__new__" = true)
    (y_V : PySem.W.nsIn K mainGlobals "ValueError" = some none)
    (y_ga : PySem.W.findIn K (.ref CT) "__getattribute__" = some (some (.builtin "BaseException.__getattribute__")))
    (y_gt : PySem.W.findIn K (.ref CT) "__getattr__" = some none)
    (y_cl : PySem.W.findIn K (.ref CT) "__class__" = some (some (.builtin "object.__class__")))
    (y_sp : PySem.W.specialIn K (.builtin "object.__class__") "__get__" = some (some (.builtin "getset_descriptor.__get__")))
    (y_tk : PySem.W.takesIn K (.builtin "object.__class__") = some true)
    (y_mo : PySem.W.mroIn K CT (.type "object") = some true)
    (y_mb : PySem.W.mroIn K CT (.type "BaseException") = some true)
    (y_kV : PySem.W.kitOne K (.ref CT) (.type "ValueError") = some true)
    (y_xS : PySem.W.exmOne K (.ref CT) (.ref CS) = some true)
    (y_m1 : PySem.W.nsIn K mainGlobals "BadBlocks" = some (some (.ref c1)))
    (y_k1 : PySem.W.kitOne K (.ref CT) (.ref c1) = some false)
    (y_m2 : PySem.W.nsIn K mainGlobals "BadBook" = some (some (.ref c2)))
    (y_k2 : PySem.W.kitOne K (.ref CT) (.ref c2) = some false)
    (y_m3 : PySem.W.nsIn K mainGlobals "BadBreaks" = some (some (.ref c3)))
    (y_k3 : PySem.W.kitOne K (.ref CT) (.ref c3) = some false)
    (y_m4 : PySem.W.nsIn K mainGlobals "BadFace" = some (some (.ref c4)))
    (y_k4 : PySem.W.kitOne K (.ref CT) (.ref c4) = some false)
    (y_m5 : PySem.W.nsIn K mainGlobals "BadRules" = some (some (.ref c5)))
    (y_k5 : PySem.W.kitOne K (.ref CT) (.ref c5) = some false)
    (y_m6 : PySem.W.nsIn K mainGlobals "BadText" = some (some (.ref c6)))
    (y_k6 : PySem.W.kitOne K (.ref CT) (.ref c6) = some false)
    (y_m7 : PySem.W.nsIn K mainGlobals "BadWord" = some (some (.ref c7)))
    (y_k7 : PySem.W.kitOne K (.ref CT) (.ref c7) = some false)
    (y_m8 : PySem.W.nsIn K mainGlobals "NoNote" = some (some (.ref c8)))
    (y_k8 : PySem.W.kitOne K (.ref CT) (.ref c8) = some false)
    (y_m9 : PySem.W.nsIn K mainGlobals "NoPlace" = some (some (.ref c9)))
    (y_k9 : PySem.W.kitOne K (.ref CT) (.ref c9) = some false) :
    ∃ fd : FuncData, (∀ (s : Shared) (v : Value), BindsTo s fd ⟨[v], []⟩ [("_law_script", v)]) /\ ∀ base : Heap, K.In base -> base.Ns mainGlobals mg -> FnOk P w K mg base (cxx P w) 7 fa fd ["_law_script"] (spM K F_law 1) := by
  have e := hfa.symm.trans (PySem.W.mg_of X G a_law)
  cases e
  have B : Bl mg := ⟨PySem.W.mg_none_of X G z_isinstance, PySem.W.mg_none_of X G z_int, PySem.W.mg_none_of X G z_bool, PySem.W.mg_none_of X G z_str, PySem.W.mg_none_of X G z_dict, PySem.W.mg_none_of X G z_list, PySem.W.mg_none_of X G z_tuple, PySem.W.mg_none_of X G z_len, PySem.W.mg_none_of X G z_sum, PySem.W.mg_none_of X G z_max, PySem.W.mg_none_of X G z_min, PySem.W.mg_none_of X G z_all, PySem.W.mg_none_of X G z_range, PySem.W.mg_none_of X G z_enumerate, PySem.W.mg_none_of X G z_zip⟩
  have Cl : Cls K mg := ⟨⟨CT, y_T, y_X⟩, PySem.W.mg_none_of X G y_V, CS, CT, c1, c2, c3, c4, c5, c6, c7, c8, c9, PySem.W.mg_of X G y_S, ⟨y_T, y_X⟩, ⟨y_ga, y_gt, y_cl, y_sp, y_tk, y_mo, y_mb, it_of y_X⟩, PySem.W.mg_of X G y_T, y_kV, y_xS, ⟨PySem.W.mg_of X G y_m1, y_k1⟩, ⟨PySem.W.mg_of X G y_m2, y_k2⟩, ⟨PySem.W.mg_of X G y_m3, y_k3⟩, ⟨PySem.W.mg_of X G y_m4, y_k4⟩, ⟨PySem.W.mg_of X G y_m5, y_k5⟩, ⟨PySem.W.mg_of X G y_m6, y_k6⟩, ⟨PySem.W.mg_of X G y_m7, y_k7⟩, ⟨PySem.W.mg_of X G y_m8, y_k8⟩, ⟨PySem.W.mg_of X G y_m9, y_k9⟩⟩
  refine ⟨PySem.W.fnOf "law" "law" (defArgs (top 38)) (defBody (top 38)) (defScope (top 38)) .none kV_law dc_law pm_law an_law cd_law ct_law, fun s v => .of_eq rfl, fun base _ _ => ?_⟩
  have D_wide : DefIn K mg "wide" (top 13) ["face", "line"] := defIn_mk X G (fun _ _ _ _ _ _ => bd2 fun _ _ => rfl) a_wide l_wide c_wide k_wide
  have O_wide := ok_wide (P := P) (w := w) (base := base) D_wide B Cl 
  have D_word_widths : DefIn K mg "word_widths" (top 15) ["face", "words"] := defIn_mk X G (fun _ _ _ _ _ _ => bd2 fun _ _ => rfl) a_word_widths l_word_widths c_word_widths k_word_widths
  have O_word_widths := ok_word_widths (P := P) (w := w) (base := base) D_word_widths B Cl O_wide
  have D_fill : DefIn K mg "fill" (top 16) ["widths", "blank", "width"] := defIn_mk X G (fun _ _ _ _ _ _ => bd3 fun _ _ _ => rfl) a_fill l_fill c_fill k_fill
  have O_fill := ok_fill (P := P) (w := w) (base := base) D_fill B Cl 
  have D_go_in : DefIn K mg "go_in" (top 17) ["cells", "blank", "width", "rows"] := defIn_mk X G (fun _ _ _ _ _ _ => bd4 fun _ _ _ _ => rfl) a_go_in l_go_in c_go_in k_go_in
  have O_go_in := ok_go_in (P := P) (w := w) (base := base) D_go_in B Cl O_fill
  have D_least_width : DefIn K mg "least_width" (top 18) ["face", "cells", "rows"] := defIn_mk X G (fun _ _ _ _ _ _ => bd3 fun _ _ _ => rfl) a_least_width l_least_width c_least_width k_least_width
  have O_least_width := ok_least_width (P := P) (w := w) (base := base) D_least_width B Cl O_word_widths O_go_in
  have D_between : DefIn K mg "between" (top 20) ["face"] := defIn_mk X G (fun _ _ _ _ _ _ => bd1 fun _ => rfl) a_between l_between c_between k_between
  have O_between := ok_between (P := P) (w := w) (base := base) D_between B Cl 
  have D_column_cells : DefIn K mg "column_cells" (top 21) ["table"] := defIn_mk X G (fun _ _ _ _ _ _ => bd1 fun _ => rfl) a_column_cells l_column_cells c_column_cells k_column_cells
  have O_column_cells := ok_column_cells (P := P) (w := w) (base := base) D_column_cells B Cl 
  have D_most_lines : DefIn K mg "most_lines" (top 22) ["table"] := defIn_mk X G (fun _ _ _ _ _ _ => bd1 fun _ => rfl) a_most_lines l_most_lines c_most_lines k_most_lines
  have O_most_lines := ok_most_lines (P := P) (w := w) (base := base) D_most_lines B Cl 
  have D_columns : DefIn K mg "columns" (top 23) ["face", "rules", "table"] := defIn_mk X G (fun _ _ _ _ _ _ => bd3 fun _ _ _ => rfl) a_columns l_columns c_columns k_columns
  have O_columns := ok_columns (P := P) (w := w) (base := base) D_columns B Cl O_column_cells O_between O_least_width O_most_lines
  have D__law_cell : DefIn K mg "_law_cell" (top 25) ["_law_script", "_law_k"] := defIn_mk X G (fun _ _ _ _ _ _ => bd2 fun _ _ => rfl) a__law_cell l__law_cell c__law_cell k__law_cell
  have O__law_cell := ok__law_cell (P := P) (w := w) (base := base) D__law_cell B Cl 
  have D__law_mixed : DefIn K mg "_law_mixed" (top 26) ["_law_script", "_law_k"] := defIn_mk X G (fun _ _ _ _ _ _ => bd2 fun _ _ => rfl) a__law_mixed l__law_mixed c__law_mixed k__law_mixed
  have O__law_mixed := ok__law_mixed (P := P) (w := w) (base := base) D__law_mixed B Cl O__law_cell
  have D__law_whole : DefIn K mg "_law_whole" (top 27) ["_law_found"] := defIn_mk X G (fun _ _ _ _ _ _ => bd1 fun _ => rfl) a__law_whole l__law_whole c__law_whole k__law_whole
  have O__law_whole := ok__law_whole (P := P) (w := w) (base := base) D__law_whole B Cl 
  have D__law_face : DefIn K mg "_law_face" (top 28) ["_law_script"] := defIn_mk X G (fun _ _ _ _ _ _ => bd1 fun _ => rfl) a__law_face l__law_face c__law_face k__law_face
  have O__law_face := ok__law_face (P := P) (w := w) (base := base) D__law_face B Cl O__law_mixed
  have D__law_word : DefIn K mg "_law_word" (top 29) ["_law_cell_here"] := defIn_mk X G (fun _ _ _ _ _ _ => bd1 fun _ => rfl) a__law_word l__law_word c__law_word k__law_word
  have O__law_word := ok__law_word (P := P) (w := w) (base := base) D__law_word B Cl 
  have D__law_words : DefIn K mg "_law_words" (top 30) ["_law_number"] := defIn_mk X G (fun _ _ _ _ _ _ => bd1 fun _ => rfl) a__law_words l__law_words c__law_words k__law_words
  have O__law_words := ok__law_words (P := P) (w := w) (base := base) D__law_words B Cl O__law_word
  have D__law_table : DefIn K mg "_law_table" (top 31) ["_law_script"] := defIn_mk X G (fun _ _ _ _ _ _ => bd1 fun _ => rfl) a__law_table l__law_table c__law_table k__law_table
  have O__law_table := ok__law_table (P := P) (w := w) (base := base) D__law_table B Cl O__law_mixed O__law_words
  have D__law_widths : DefIn K mg "_law_widths" (top 32) ["_law_face_here", "_law_table_here", "_law_rows"] := defIn_mk X G (fun _ _ _ _ _ _ => bd3 fun _ _ _ => rfl) a__law_widths l__law_widths c__law_widths k__law_widths
  have O__law_widths := ok__law_widths (P := P) (w := w) (base := base) D__law_widths B Cl O_least_width
  have D__law_breadth : DefIn K mg "_law_breadth" (top 33) ["_law_face_here", "_law_table_here", "_law_rows"] := defIn_mk X G (fun _ _ _ _ _ _ => bd3 fun _ _ _ => rfl) a__law_breadth l__law_breadth c__law_breadth k__law_breadth
  have O__law_breadth := ok__law_breadth (P := P) (w := w) (base := base) D__law_breadth B Cl O__law_widths
  have D__law_room : DefIn K mg "_law_room" (top 34) ["_law_face_here", "_law_table_here", "_law_number"] := defIn_mk X G (fun _ _ _ _ _ _ => bd3 fun _ _ _ => rfl) a__law_room l__law_room c__law_room k__law_room
  have O__law_room := ok__law_room (P := P) (w := w) (base := base) D__law_room B Cl O__law_breadth
  have D__law_rules : DefIn K mg "_law_rules" (top 35) ["_law_script", "_law_width"] := defIn_mk X G (fun _ _ _ _ _ _ => bd2 fun _ _ => rfl) a__law_rules l__law_rules c__law_rules k__law_rules
  have O__law_rules := ok__law_rules (P := P) (w := w) (base := base) D__law_rules B Cl O__law_mixed
  have D__law_told : DefIn K mg "_law_told" (top 36) ["_law_face_here", "_law_rules_here", "_law_table_here"] := defIn_mk X G (fun _ _ _ _ _ _ => bd3 fun _ _ _ => rfl) a__law_told l__law_told c__law_told k__law_told
  have O__law_told := ok__law_told (P := P) (w := w) (base := base) D__law_told B Cl O_columns
  have D__law_good : DefIn K mg "_law_good" (top 37) ["_law_face_here", "_law_table_here", "_law_width", "_law_found"] := defIn_mk X G (fun _ _ _ _ _ _ => bd4 fun _ _ _ _ => rfl) a__law_good l__law_good c__law_good k__law_good
  have O__law_good := ok__law_good (P := P) (w := w) (base := base) D__law_good B Cl O__law_breadth O__law_whole O__law_widths
  exact mir_fn l_law c_law sc_law (by decide) (body_law B Cl O__law_face O__law_table O__law_room O__law_mixed O__law_rules O__law_told O__law_good)
end
end K17

set_option maxRecDepth 100000
set_option maxHeartbeats 4000000
namespace K17
open PySem PyProof.Rows L2
noncomputable def fc (pl bl : Int) (odd : List (Str × Int)) : D := .tup [.int pl, .int bl, .tup (odd.map fun p => .tup [.str p.1, .int p.2])]
noncomputable def wcO (ks : List Key) (ds : List D) (pl : Int) (c : Nat) : Int := match (lookD ks ds (.inr ⟨#[c]⟩)).getD (.int pl) with
  | .int n => n
  | _ => 0
theorem get_ok {ks : List Key} {ns : List Int} {pl : Int} {c : Nat} : getK ks (ns.map D.int) (.str ⟨#[c]⟩) (.int pl) = .ok (.int (wcO ks (ns.map D.int) pl c)) := by
  obtain ⟨n, e⟩ := look_int ks ns (.inr ⟨#[c]⟩) pl
  show (if ((lookD ks (ns.map D.int) (.inr ⟨#[c]⟩)).getD (.int pl)).imm = true then R.ok ((lookD ks (ns.map D.int) (.inr ⟨#[c]⟩)).getD (.int pl)) else .bad) = _
  unfold wcO
  rw [e]
  rfl
theorem wide_seq (odd : D) (ks ks1 : List Key) (ds ds1 : List D) (pl bl : Int) (x : Str) (wc : Nat -> Int) (h1 : dictAD [odd] = .ok (.dic ks ds)) (hl : ks.length < 16777216) (h2 : putP ks ds (.inr " ") (.int bl) = (ks1, ds1))
    (h3 : ∀ c, getK ks1 ds1 (.str ⟨#[c]⟩) (.int pl) = .ok (.int (wc c))) (hx : x.length <= 16777216) :
    F_wide [.tup [.int pl, .int bl, odd], .str x] = .ok (.int (x.cps.toList.map wc).sum) := by
  have hp1 : (putP ks ds (.inr " ") (.int bl)).1 = ks1 := by rw [h2]
  have hp2 : (putP ks ds (.inr " ") (.int bl)).2 = ds1 := by rw [h2]
  have hk : ∀ τ : Tn, kputD 2 τ (.int bl) (.dic ks ds) (.str " ") = .ok (.nx (τ.set 2 (some (.dic ks1 ds1)))) := fun τ => by rw [ev_kput rfl hl, hp1, hp2]
  have hc : compL (compF (Tgt.one 0).asg (fun _ => .ok true) (eGet (eVar 1) (eVar 0) (eBin ixD (eVar 2) (eC (.int 0)))) [none, some (.dic ks1 ds1), some (.tup [.int pl, .int bl, odd])]) (signs x) = .ok ((x.cps.toList.map wc).map D.int) := by
    have := compL_enc (enc := fun c => D.str ⟨#[c]⟩) (f := compF (Tgt.one 0).asg (fun _ => .ok true) (eGet (eVar 1) (eVar 0) (eBin ixD (eVar 2) (eC (.int 0)))) [none, some (.dic ks1 ds1), some (.tup [.int pl, .int bl, odd])]) (o := fun c => some (.int (wc c))) (xs := x.cps.toList) fun c _ => by
      simp only [compF, noErr_ok', ev_eGet, ev_getDD, eVar, eC, eBin, Tgt.asg, R.ok_bind, List.getElem?_cons_zero, List.getElem?_cons_succ, List.set_cons_zero, ev_ix0, if_true, h3]
    rw [fm_some] at this
    show compL _ (x.cps.toList.map fun c => D.str ⟨#[c]⟩) = _
    rw [this, List.map_map]
    rfl
  have hlen : ((x.cps.toList.map wc).map D.int).length <= 16777216 := by
    rw [List.length_map, List.length_map, Array.length_toList]; exact hx
  simp only [F_wide, t_wide, ev_eComp, ev_ctN, ev_ctO, ev_ctS, ev_join, ev_eImm, ev_immI, runB, sSeq, sSet, sRet, eVar, eC, eBin, eL, aNil, aCons, iSeq, asSeq, R.ok_bind, List.map_cons, List.map_nil, List.length_cons, List.length_nil, List.replicate_succ, List.replicate_zero, List.cons_append, List.nil_append, List.getElem?_cons_zero, List.getElem?_cons_succ, List.set_cons_zero, List.set_cons_succ, Nat.reduceAdd, Nat.reduceSub, Nat.zero_add, ev_ix1, ev_ix2, h1, ev_sKPut, hk, hc, ev_lstD hlen, ev_sum]
noncomputable def wd (wc : Nat -> Int) (x : Str) : Int := (x.cps.toList.map wc).sum
noncomputable def S (vs : List Int) (bl : Int) (a e : Nat) : Int := ((vs.drop a).take (e - a)).sum + ((e : Int) - a - 1) * bl
theorem S_succ {vs : List Int} {bl : Int} {a e : Nat} {v : Int} (hae : a <= e) (hv : vs[e]? = some v) : S vs bl a (e + 1) = S vs bl a e + bl + v := by
  unfold S
  have e1 : e + 1 - a = (e - a) + 1 := by omega
  have e2 : (vs.drop a)[e - a]? = some v := by rw [List.getElem?_drop, show a + (e - a) = e by omega]; exact hv
  rw [e1, List.take_add_one, e2, List.sum_append]
  show _ + [v].sum + _ = _
  rw [List.sum_singleton]
  have : (((e + 1 : Nat) : Int) - a - 1) * bl = ((e : Int) - a - 1) * bl + bl := by
    rw [show ((e + 1 : Nat) : Int) - a - 1 = ((e : Int) - a - 1) + 1 by push_cast; omega, Int.add_mul, Int.one_mul]
  rw [this]
  omega
theorem S_one {vs : List Int} {bl : Int} {a : Nat} {v : Int} (hv : vs[a]? = some v) : S vs bl a (a + 1) = v := by
  unfold S
  have e2 : (vs.drop a)[0]? = some v := by rw [List.getElem?_drop]; exact hv
  rw [show a + 1 - a = 0 + 1 by omega, List.take_add_one, e2]
  show ([v] : List Int).sum + _ = v
  rw [List.sum_singleton, show ((a + 1 : Nat) : Int) - a - 1 = 0 by push_cast; omega, Int.zero_mul]
  omega
theorem widths_ok {f : D} {wc : Nat -> Int} (hw : ∀ x : Str, x.length <= 16777216 -> F_wide [f, .str x] = .ok (.int (wd wc x))) (ws : List Str) (hl : ∀ x ∈ ws, x.length <= 16777216) (hn : ws.length <= 16777216) :
    F_word_widths [f, .lst (ws.map D.str)] = .ok (.lst ((ws.map (wd wc)).map D.int)) /\ F_word_widths [f, .tup (ws.map D.str)] = .ok (.lst ((ws.map (wd wc)).map D.int)) := by
  have hc : compL (compF (Tgt.one 0).asg (fun _ => .ok true) (eL F_wide (aCons (eVar 1) (aCons (eVar 0) aNil))) [none, some f]) (ws.map D.str) = .ok ((ws.map (wd wc)).map D.int) := by
    have := compL_enc (enc := D.str) (f := compF (Tgt.one 0).asg (fun _ => .ok true) (eL F_wide (aCons (eVar 1) (aCons (eVar 0) aNil))) [none, some f]) (o := fun x => some (.int (wd wc x))) (xs := ws) fun x hx => by
      simp only [compF, noErr_ok', eVar, eL, aNil, aCons, Tgt.asg, R.ok_bind, List.getElem?_cons_zero, List.getElem?_cons_succ, List.set_cons_zero, if_true, hw x (hl x hx)]
    rw [fm_some] at this
    rw [this, List.map_map]
    rfl
  have hlen : ((ws.map (wd wc)).map D.int).length <= 16777216 := by rw [List.length_map, List.length_map]; exact hn
  constructor
  · simp only [F_word_widths, t_word_widths, ev_eComp, ev_ctN, ev_ctO, ev_ctS, ev_join, runB, sRet, eVar, iSeq, asSeq, R.ok_bind, List.map_cons, List.map_nil, List.length_cons, List.length_nil, List.replicate_zero, List.cons_append, List.nil_append, List.getElem?_cons_zero, List.getElem?_cons_succ, Nat.reduceAdd, Nat.reduceSub, Nat.zero_add, hc, ev_lstD hlen]
  · simp only [F_word_widths, t_word_widths, ev_eComp, ev_ctN, ev_ctO, ev_ctS, ev_join, runB, sRet, eVar, iSeq, asSeq, R.ok_bind, List.map_cons, List.map_nil, List.length_cons, List.length_nil, List.replicate_zero, List.cons_append, List.nil_append, List.getElem?_cons_zero, List.getElem?_cons_succ, Nat.reduceAdd, Nat.reduceSub, Nat.zero_add, hc, ev_lstD hlen]
end K17

set_option maxRecDepth 100000
set_option maxHeartbeats 4000000
namespace K17
open PySem PyProof.Rows L2
noncomputable def prD (p : Nat × Nat) : D := .tup [.int (p.1 : Int), .int (p.2 : Int)]
noncomputable def Good (vs : List Int) (bl wi : Int) : List (Nat × Nat) -> Nat -> Nat -> Prop
  | [], a, b => a = b
  | p :: r, a, b => p.1 = a /\ a < p.2 /\ p.2 <= vs.length /\ (1 < p.2 - a -> S vs bl a p.2 <= wi) /\ (p.2 < vs.length -> wi < S vs bl a (p.2 + 1)) /\ Good vs bl wi r p.2 b
theorem Good.snoc {vs : List Int} {bl wi : Int} : ∀ {ps : List (Nat × Nat)} {a b e : Nat}, Good vs bl wi ps a b -> b < e -> e <= vs.length -> (1 < e - b -> S vs bl b e <= wi) -> (e < vs.length -> wi < S vs bl b (e + 1)) -> Good vs bl wi (ps ++ [(b, e)]) a e
  | [], a, b, e, h, h1, h2, h3, h4 => by
    have h : a = b := h
    subst h
    exact ⟨rfl, h1, h2, h3, h4, rfl⟩
  | p :: r, a, b, e, hq4, h1, h2, h3, h4 => by
    obtain ⟨g1, g2, g3, g4, g5, g6⟩ := hq4
    exact ⟨g1, g2, g3, g4, g5, Good.snoc g6 h1 h2 h3 h4⟩
noncomputable def bodyF : Tn -> R Fl := (sSeq (sIf (bAnd (eTest (eBin gtD (eVar 6) (eVar 4))) (eTest (eBin gtD (eBin addD (eBin addD (eVar 5) (eVar 1)) (eVar 7)) (eVar 2)))) (sSeq (sApp 3 (eImm (eL (fun ds => .ok (.tup ds)) (aCons (eVar 4) (aCons (eVar 6) aNil))))) (sSet 4 (eVar 6))) sSkip) (sSet 5 (eIf (eTest (eBin (eqR false) (eVar 6) (eVar 4))) (eImm (eVar 7)) (eBin addD (eBin addD (eVar 5) (eVar 1)) (eVar 7)))))
theorem bF1 (V : D) (bl wi b f p w : Int) (ls : List D) (hl : ls.length < 16777216) (h1 : b < p) (h2 : wi < f + bl + w) :
    bodyF [some V, some (.int bl), some (.int wi), some (.lst ls), some (.int b), some (.int f), some (.int p), some (.int w)] = .ok (.nx [some V, some (.int bl), some (.int wi), some (.lst (ls ++ [.tup [.int b, .int p]])), some (.int p), some (.int w), some (.int p), some (.int w)]) := by
  have e1 : decide (b < p) = true := decide_eq_true h1
  have e2 : decide (wi < f + bl + w) = true := decide_eq_true h2
  simp only [bodyF, ev_sApp, ev_appL, ev_appD, ev_eImm, ev_immI, ev_immT, ev_imsN, ev_imsI, sSkip, sSeq, sSet, sIf, eVar, eBin, eL, aNil, aCons, eTest, bAnd, eIf, asB, R.ok_bind, List.getElem?_cons_zero, List.getElem?_cons_succ, List.set_cons_zero, List.set_cons_succ, ev_add, ev_gt, ev_eqi, if_true, if_false, Bool.false_eq_true, e1, e2, hl, beq_self_eq_true]
theorem bF2 (V : D) (bl wi b f p w : Int) (ls : List D) (h1 : b < p) (h2 : f + bl + w <= wi) :
    bodyF [some V, some (.int bl), some (.int wi), some (.lst ls), some (.int b), some (.int f), some (.int p), some (.int w)] = .ok (.nx [some V, some (.int bl), some (.int wi), some (.lst ls), some (.int b), some (.int (f + bl + w)), some (.int p), some (.int w)]) := by
  have e1 : decide (b < p) = true := decide_eq_true h1
  have e2 : decide (wi < f + bl + w) = false := decide_eq_false (by omega)
  have e3 : (p == b) = false := beq_eq_false_iff_ne.mpr (by omega)
  simp only [bodyF, ev_sApp, ev_appL, ev_eImm, ev_immI, ev_immT, ev_imsN, ev_imsI, sSkip, sSeq, sSet, sIf, eVar, eBin, eL, aNil, aCons, eTest, bAnd, eIf, asB, R.ok_bind, List.getElem?_cons_zero, List.getElem?_cons_succ, List.set_cons_zero, List.set_cons_succ, ev_add, ev_gt, ev_eqi, if_true, if_false, Bool.false_eq_true, e1, e2, e3]
theorem bF3 (V : D) (bl wi b f w : Int) (ls : List D) :
    bodyF [some V, some (.int bl), some (.int wi), some (.lst ls), some (.int b), some (.int f), some (.int b), some (.int w)] = .ok (.nx [some V, some (.int bl), some (.int wi), some (.lst ls), some (.int b), some (.int w), some (.int b), some (.int w)]) := by
  have e1 : decide (b < b) = false := decide_eq_false (by omega)
  simp only [bodyF, ev_sApp, ev_appL, ev_eImm, ev_immI, ev_immT, ev_imsN, ev_imsI, sSkip, sSeq, sSet, sIf, eVar, eBin, eL, aNil, aCons, eTest, bAnd, eIf, asB, R.ok_bind, List.getElem?_cons_zero, List.getElem?_cons_succ, List.set_cons_zero, List.set_cons_succ, ev_add, ev_gt, ev_eqi, if_true, if_false, Bool.false_eq_true, e1, beq_self_eq_true]
theorem lF (V : D) (vs : List Int) (bl wi : Int) (hv : vs.length <= 1000) : ∃ (ps : List (Nat × Nat)) (b : Nat) (f : Int) (y z : Option D), forGo (Tgt.many [6, 7]).asg bodyF (enumGo 0 (vs.map D.int)) [some V, some (.int bl), some (.int wi), some (.lst []), some (.int 0), some (.int 0), none, none] = .ok (.nx [some V, some (.int bl), some (.int wi), some (.lst (ps.map prD)), some (.int (b : Int)), some (.int f), y, z]) /\
    Good vs bl wi ps 0 b /\ b <= vs.length /\ ps.length <= vs.length /\ (b < vs.length -> 1 < vs.length - b -> S vs bl b vs.length <= wi) /\ (0 < vs.length -> b < vs.length) := by
  obtain ⟨τ', e2, ps, b, f, y, z, h, g, hb, hp, hf, hk⟩ := forGo_inv (asg := (Tgt.many [6, 7]).asg) (body := bodyF)
    (fun k τ => ∃ (ps : List (Nat × Nat)) (b : Nat) (f : Int) (y z : Option D), τ = [some V, some (.int bl), some (.int wi), some (.lst (ps.map prD)), some (.int (b : Int)), some (.int f), y, z] /\ Good vs bl wi ps 0 b /\ b <= k /\ ps.length <= k /\ (b < k -> f = S vs bl b k /\ (1 < k - b -> f <= wi)) /\ (0 < k -> b < k))
    (enumGo 0 (vs.map D.int)) 0 [some V, some (.int bl), some (.int wi), some (.lst []), some (.int 0), some (.int 0), none, none] ⟨[], 0, 0, none, none, rfl, rfl, Nat.le_refl _, Nat.le_refl _, fun h => absurd h (Nat.lt_irrefl _), fun h => h⟩ (fun i d τ hd hx => by
      obtain ⟨ps, b, f, y, z, e, g, hb, hp, hf, hk⟩ := hx
      obtain ⟨d', hd', rfl⟩ := enumGo_get 0 _ i d hd
      rw [List.getElem?_map] at hd'
      cases hv' : vs[i]? with
      | none => rw [hv'] at hd'; cases hd'
      | some w =>
        rw [hv'] at hd'
        cases hd'
        subst e
        have hi : i < vs.length := (List.getElem?_eq_some_iff.mp hv').1
        simp only [Nat.zero_add] at hb hp hf hk ⊢
        have ea : (Tgt.many [6, 7]).asg (.tup [.int (i : Int), .int w]) [some V, some (.int bl), some (.int wi), some (.lst (ps.map prD)), some (.int (b : Int)), some (.int f), y, z] = .ok [some V, some (.int bl), some (.int wi), some (.lst (ps.map prD)), some (.int (b : Int)), some (.int f), some (.int (i : Int)), some (.int w)] := rfl
        by_cases hbi : b < i
        · obtain ⟨f1, f2⟩ := hf hbi
          have es := S_succ (vs := vs) (bl := bl) (a := b) (e := i) (Nat.le_of_lt hbi) hv'
          by_cases hc : wi < f + bl + w
          · refine ⟨_, _, ea, .inl (bF1 V bl wi b f i w (ps.map prD) (by rw [List.length_map]; omega) (by omega) hc), ps ++ [(b, i)], i, w, _, _, by rw [List.map_append]; rfl, Good.snoc g hbi (by omega) (fun h => by rw [<- f1]; exact f2 h) (fun _ => by rw [es, <- f1]; exact hc), by omega, by rw [List.length_append, List.length_singleton]; omega, fun _ => ⟨(S_one hv').symm, fun h => by omega⟩, fun _ => by omega⟩
          · refine ⟨_, _, ea, .inl (bF2 V bl wi b f i w (ps.map prD) (by omega) (by omega)), ps, b, f + bl + w, _, _, rfl, g, by omega, by omega, fun _ => ⟨by rw [es, <- f1], fun _ => by omega⟩, fun _ => by omega⟩
        · have hbe : b = i := by omega
          subst hbe
          refine ⟨_, _, ea, .inl (bF3 V bl wi b f w (ps.map prD)), ps, b, w, _, _, rfl, g, by omega, by omega, fun _ => ⟨(S_one hv').symm, fun h => by omega⟩, fun _ => by omega⟩)
  have hlen : (enumGo 0 (vs.map D.int)).length = vs.length := by rw [enumGo_len, List.length_map]
  rw [Nat.zero_add, hlen] at hb hp hf hk
  exact ⟨ps, b, f, y, z, by rw [e2, h], g, hb, hp, fun h1 h2 => by obtain ⟨f1, f2⟩ := hf h1; rw [<- f1]; exact f2 h2, hk⟩
noncomputable def TF (SF : Tn -> R Fl) : Tn -> R Fl := (sSeq (sSet 3 (eL (fun ds => .ok (.lst ds)) aNil)) (sSeq (sSet 4 (eC (.int 0))) (sSeq (sSet 5 (eC (.int 0))) (sSeq SF (sSeq (sIf (eTest (eBin ltD (eVar 4) (eL lenD (aCons (eVar 0) aNil)))) (sApp 3 (eImm (eL (fun ds => .ok (.tup ds)) (aCons (eVar 4) (aCons (eL lenD (aCons (eVar 0) aNil)) aNil))))) sSkip) (sRet (eVar 3)))))))
theorem fill_seq1 (SF : Tn -> R Fl) (ds ls : List D) (bl wi b f n : Int) (y z : Option D) (hn : (ds.length : Int) = n) (hb : b < n) (hl : ls.length < 16777216) (h : SF [some (.lst ds), some (.int bl), some (.int wi), some (.lst []), some (.int 0), some (.int 0), none, none] = .ok (.nx [some (.lst ds), some (.int bl), some (.int wi), some (.lst ls), some (.int b), some (.int f), y, z])) :
    runB 8 (TF SF) [.lst ds, .int bl, .int wi] = .ok (.lst (ls ++ [.tup [.int b, .int n]])) := by
  have e1 : decide (b < n) = true := decide_eq_true hb
  simp only [TF, ev_sApp, ev_appL, ev_appD, ev_eImm, ev_immT, ev_imsN, ev_imsI, sSkip, runB, sSeq, sSet, sRet, sIf, eVar, eC, eBin, eL, aNil, aCons, eTest, asB, R.ok_bind, List.map_cons, List.map_nil, List.length_cons, List.length_nil, List.replicate_succ, List.replicate_zero, List.cons_append, List.nil_append, List.getElem?_cons_zero, List.getElem?_cons_succ, List.set_cons_zero, List.set_cons_succ, Nat.reduceAdd, Nat.reduceSub, Nat.zero_add, ev_lt, ev_lenl, if_true, h, hn, e1, hl]
theorem fill_seq2 (SF : Tn -> R Fl) (ds ls : List D) (bl wi b f n : Int) (y z : Option D) (hn : (ds.length : Int) = n) (hb : ¬ b < n) (h : SF [some (.lst ds), some (.int bl), some (.int wi), some (.lst []), some (.int 0), some (.int 0), none, none] = .ok (.nx [some (.lst ds), some (.int bl), some (.int wi), some (.lst ls), some (.int b), some (.int f), y, z])) :
    runB 8 (TF SF) [.lst ds, .int bl, .int wi] = .ok (.lst ls) := by
  have e1 : decide (b < n) = false := decide_eq_false hb
  simp only [TF, ev_sApp, ev_appL, ev_eImm, ev_immT, ev_imsN, ev_imsI, sSkip, runB, sSeq, sSet, sRet, sIf, eVar, eC, eBin, eL, aNil, aCons, eTest, asB, R.ok_bind, List.map_cons, List.map_nil, List.length_cons, List.length_nil, List.replicate_succ, List.replicate_zero, List.cons_append, List.nil_append, List.getElem?_cons_zero, List.getElem?_cons_succ, List.set_cons_zero, List.set_cons_succ, Nat.reduceAdd, Nat.reduceSub, Nat.zero_add, ev_lt, ev_lenl, if_false, Bool.false_eq_true, h, hn, e1]
theorem fill_ok (vs : List Int) (bl wi : Int) (hv : vs.length <= 1000) : ∃ ps : List (Nat × Nat), F_fill [.lst (vs.map D.int), .int bl, .int wi] = .ok (.lst (ps.map prD)) /\ Good vs bl wi ps 0 vs.length /\ ps.length <= 1001 := by
  obtain ⟨ps, b, f, y, z, e, g, hb, hp, hf, hk⟩ := lF (.lst (vs.map D.int)) vs bl wi hv
  have hT : F_fill = runB 8 (TF (sFor (iL enumL (aCons (eVar 0) aNil)) (.many [6, 7]) bodyF)) := rfl
  have hF := ev_for (it := iL enumL (aCons (eVar 0) aNil)) (g := .many [6, 7]) (B := bodyF) (τ := [some (.lst (vs.map D.int)), some (.int bl), some (.int wi), some (.lst []), some (.int 0), some (.int 0), none, none]) (ds := enumGo 0 (vs.map D.int)) (by simp only [eVar, aNil, aCons, iL, R.ok_bind, List.getElem?_cons_zero, ev_enumL]) e
  have hn : (((vs.map D.int).length : Nat) : Int) = (vs.length : Int) := by rw [List.length_map]
  by_cases hlt : b < vs.length
  · refine ⟨ps ++ [(b, vs.length)], ?_, Good.snoc g hlt (Nat.le_refl _) (fun h => hf hlt h) (fun h => absurd h (Nat.lt_irrefl _)), by rw [List.length_append, List.length_singleton]; omega⟩
    rw [hT, fill_seq1 _ (vs.map D.int) (ps.map prD) bl wi b f vs.length y z hn (by omega) (by rw [List.length_map]; omega) hF, List.map_append]
    rfl
  · have hbe : b = vs.length := by omega
    refine ⟨ps, ?_, hbe ▸ g, by omega⟩
    rw [hT]
    exact fill_seq2 _ (vs.map D.int) (ps.map prD) bl wi b f vs.length y z hn (by omega) hF
end K17

set_option maxRecDepth 100000
set_option maxHeartbeats 4000000
namespace K17
open PySem PyProof.Rows L2
theorem whole_ok (i : Int) : F__law_whole [.int i] = .ok (.bl true) := by
  simp only [F__law_whole, t__law_whole, ev_isiI, ev_isiB, runB, sRet, eVar, eUn, eAnd, eNot, asB, R.ok_bind, List.map_cons, List.map_nil, List.length_cons, List.length_nil, List.replicate_zero, List.cons_append, List.nil_append, List.getElem?_cons_zero, Nat.reduceSub, Nat.zero_add, if_true, Bool.not_false]
end K17

set_option maxRecDepth 100000
set_option maxHeartbeats 4000000
namespace K17
open PySem PyProof.Rows L2
theorem cell_ok (ns : List Int) (k : Int) (hk : 0 <= k) (hl : ns.length <= 63) : ∃ v, F__law_cell [.frl (ns.map .int), .int k] = .ok (.int v) := by
  by_cases h : k < (ns.length : Int)
  · have hm : k.toNat < ns.length := by omega
    have hix : ixD (.frl (ns.map .int)) (.int k) = .ok (.int ns[k.toNat]) := ev_ixf (atI_ok hk (by rw [List.getElem?_map, List.getElem?_eq_getElem hm]; rfl))
    have e1 : decide (k < (ns.length : Int)) = true := decide_eq_true h
    refine ⟨ns[k.toNat], ?_⟩
    generalize ns[k.toNat] = v at *
    simp only [F__law_cell, t__law_cell, ev_eImm, ev_immI, sSkip, runB, sSeq, sRet, sIf, eVar, eC, eBin, eL, aNil, aCons, eTest, asB, R.ok_bind, List.map_cons, List.map_nil, List.length_cons, List.length_nil, List.replicate_zero, List.cons_append, List.nil_append, List.getElem?_cons_zero, List.getElem?_cons_succ, Nat.reduceAdd, Nat.reduceSub, Nat.zero_add, ev_lt, ev_lenf, if_true, List.length_map, e1, hix]
  · have e1 : decide (k < (ns.length : Int)) = false := decide_eq_false h
    refine ⟨0, ?_⟩
    simp only [F__law_cell, t__law_cell, ev_eImm, sSkip, runB, sSeq, sRet, sIf, eVar, eC, eBin, eL, aNil, aCons, eTest, asB, R.ok_bind, List.map_cons, List.map_nil, List.length_cons, List.length_nil, List.replicate_zero, List.cons_append, List.nil_append, List.getElem?_cons_zero, List.getElem?_cons_succ, Nat.reduceAdd, Nat.reduceSub, Nat.zero_add, ev_lt, ev_lenf, if_false, Bool.false_eq_true, List.length_map, e1]
theorem mixed (ns : List Int) (k : Int) (hk : 0 <= k) (hk2 : k <= 1000) (hl : ns.length <= 63) : ∃ v, F__law_mixed [.frl (ns.map .int), .int k] = .ok (.int v) /\ 0 <= v /\ v < 2147483647 := by
  obtain ⟨v, hv⟩ := cell_ok ns k hk hl
  have b1 : -18446744073709551616 < 7919 * k := by omega
  have b2 : 7919 * k < 18446744073709551616 := by omega
  have e1 : mulD (.int 7919) (.int k) = .ok (.int (7919 * k)) := ev_mulL (by decide) (by decide)
  have e2 : mulD (.int (7919 * k)) (.int k) = .ok (.int (7919 * k * k)) := ev_mulL b1 b2
  have e3 : mulD (.int (v + 7919 * k * k)) (.int 48271) = .ok (.int ((v + 7919 * k * k) * 48271)) := ev_mulR (by decide) (by decide)
  refine ⟨((v + 7919 * k * k) * 48271 + 12345) % 2147483647, ?_, Int.emod_nonneg _ (by decide), Int.emod_lt_of_pos _ (by decide)⟩
  simp only [F__law_mixed, t__law_mixed, runB, sRet, eVar, eC, eBin, eL, aNil, aCons, R.ok_bind, List.map_cons, List.map_nil, List.length_cons, List.length_nil, List.replicate_zero, List.cons_append, List.nil_append, List.getElem?_cons_zero, List.getElem?_cons_succ, Nat.reduceAdd, Nat.reduceSub, Nat.zero_add, ev_add, ev_mod, Int.reduceLT, hv, e1, e2, e3]
noncomputable abbrev SG : Str := "abcdefghijklmnopqrstuvwxyzABCDEFGHIJKLMNOPQRSTUVWXYZ0123456789.,;:!?'\"()-/"
theorem sg_len : SG.length = 74 := by decide +kernel
theorem sign (x : Int) : ∃ c, ixD (.str SG) (.int (x % 74)) = .ok (.str ⟨#[c]⟩) := by
  have h1 := Int.emod_nonneg x (b := 74) (by decide)
  have h2 := Int.emod_lt_of_pos x (b := 74) (by decide)
  have hl : SG.cps.toList.length = 74 := by have := sg_len; simpa [Str.length] using this
  have hi : (x % 74).toNat < SG.cps.toList.length := by omega
  exact ⟨_, ev_ixs (by rw [sg_len]; decide) (atI_ok h1 (List.getElem?_eq_getElem hi))⟩
noncomputable abbrev SF : Str := "!\"'(),-./0123456789:;?ABCDEFGHIJKLMNOPQRSTUVWXYZabcdefghijklmnopqrstuvwxyz"
theorem sf_len : SF.length = 74 := by decide +kernel
noncomputable def TFa (S : Str) : Tn -> R Fl := (sSeq (sSet 1 (eL F__law_mixed (aCons (eVar 0) (aCons (eC (.int 0)) aNil)))) (sSeq (sSet 2 (eC (.str S))) (sSeq (sIf (eTest (eBin (eqR false) (eBin modD (eVar 1) (eC (.int 3))) (eC (.int 0)))) (sRet (eL (fun ds => .ok (.tup ds)) (aCons (eC (.int 1)) (aCons (eBin addD (eC (.int 1)) (eBin modD (eBin fdivD (eVar 1) (eC (.int 3))) (eC (.int 2)))) (aCons (eL (fun ds => .ok (.tup ds)) aNil) aNil))))) sSkip) (sSeq (sSet 3 (eBin ixD (eL (fun ds => .ok (.lst ds)) (aCons (eC (.int 6)) (aCons (eC (.int 7)) (aCons (eC (.int 8)) (aCons (eC (.int 9)) (aCons (eC (.int 10)) (aCons (eC (.int 11)) (aCons (eC (.int 13)) (aCons (eC (.int 17)) (aCons (eC (.int 1)) (aCons (eC (.int 5)) aNil))))))))))) (eBin modD (eBin fdivD (eVar 1) (eC (.int 1200))) (eC (.int 10))))) (sSeq (sSet 4 (eComp [none, none, some 1, some 3] (iL enumA (aCons (eVar 2) aNil)) (.many [0, 1]) (eTest (eBin (eqR false) (eBin modD (eBin addD (eBin fdivD (eVar 2) (eC (.int 11))) (eVar 0)) (eVar 3)) (eC (.int 0)))) (eImm (eL (fun ds => .ok (.tup ds)) (aCons (eVar 1) (aCons (eBin addD (eC (.int 1)) (eBin modD (eBin addD (eBin fdivD (eVar 2) (eC (.int 7))) (eBin mulD (eBin mulD (eC (.int 3)) (eVar 0)) (eVar 0))) (eC (.int 20)))) aNil)))))) (sRet (eL (fun ds => .ok (.tup ds)) (aCons (eBin addD (eC (.int 1)) (eBin modD (eBin fdivD (eVar 1) (eC (.int 3))) (eC (.int 20)))) (aCons (eBin addD (eC (.int 1)) (eBin modD (eBin fdivD (eVar 1) (eC (.int 60))) (eC (.int 20)))) (aCons (eL tuple1D (aCons (eVar 4) aNil)) aNil))))))))))
theorem step_ok (n : Int) : ∃ v, ixD (.lst [.int 6, .int 7, .int 8, .int 9, .int 10, .int 11, .int 13, .int 17, .int 1, .int 5]) (.int (n / 1200 % 10)) = .ok (.int v) /\ 0 < v := by
  exact ix_any [6, 7, 8, 9, 10, 11, 13, 17, 1, 5] (Int.emod_nonneg _ (by decide)) (Int.emod_lt_of_pos _ (by decide)) (by decide)
theorem odd_ok (S : Str) (hS : S.length <= 1000) (n v : Int) (hv : 0 < v) : ∃ odd : List (Str × Int), (odd.length <= 1000 /\ ∀ p ∈ odd, 1 <= p.2) /\ compL (compF (Tgt.many [0, 1]).asg (eTest (eBin (eqR false) (eBin modD (eBin addD (eBin fdivD (eVar 2) (eC (.int 11))) (eVar 0)) (eVar 3)) (eC (.int 0)))) (eImm (eL (fun ds => .ok (.tup ds)) (aCons (eVar 1) (aCons (eBin addD (eC (.int 1)) (eBin modD (eBin addD (eBin fdivD (eVar 2) (eC (.int 7))) (eBin mulD (eBin mulD (eC (.int 3)) (eVar 0)) (eVar 0))) (eC (.int 20)))) aNil)))) [none, none, some (.int n), some (.int v)]) (enumGo 0 (signs S)) = .ok (odd.map fun p => .tup [.str p.1, .int p.2]) := by
  let p : Nat × Nat -> Bool := fun q => (n / 11 + (q.2 : Int)) % v == 0
  let g : Nat × Nat -> Str × Int := fun q => (⟨#[q.1]⟩, 1 + (n / 7 + 3 * (q.2 : Int) * (q.2 : Int)) % 20)
  have hz : enumGo 0 (signs S) = (S.cps.toList.zipIdx).map fun q => D.tup [.int (q.2 : Int), .str ⟨#[q.1]⟩] := by
    rw [enumGo_zip]
    unfold L2.signs
    rw [List.zipIdx_map, List.map_map]
    rfl
  have hc := compL_enc (enc := fun q : Nat × Nat => D.tup [.int (q.2 : Int), .str ⟨#[q.1]⟩]) (xs := S.cps.toList.zipIdx) (o := fun q => if p q = true then some (D.tup [.str (g q).1, .int (g q).2]) else none) (f := compF (Tgt.many [0, 1]).asg (eTest (eBin (eqR false) (eBin modD (eBin addD (eBin fdivD (eVar 2) (eC (.int 11))) (eVar 0)) (eVar 3)) (eC (.int 0)))) (eImm (eL (fun ds => .ok (.tup ds)) (aCons (eVar 1) (aCons (eBin addD (eC (.int 1)) (eBin modD (eBin addD (eBin fdivD (eVar 2) (eC (.int 7))) (eBin mulD (eBin mulD (eC (.int 3)) (eVar 0)) (eVar 0))) (eC (.int 20)))) aNil)))) [none, none, some (.int n), some (.int v)]) fun q hq => by
    have hq2 : q.2 < 1000 := by
      have := List.mem_zipIdx hq
      have h2 : S.cps.toList.length = S.length := by simp [Str.length]
      omega
    have hb : (0 : Int) <= (q.2 : Int) /\ (q.2 : Int) < 1000 := by omega
    show compF _ _ _ _ (D.tup [.int (q.2 : Int), .str ⟨#[q.1]⟩]) = .ok (if ((n / 11 + (q.2 : Int)) % v == 0) = true then some (D.tup [.str ⟨#[q.1]⟩, .int (1 + (n / 7 + 3 * (q.2 : Int) * (q.2 : Int)) % 20)]) else none)
    generalize (q.2 : Int) = j at *
    have ea : (Tgt.many [0, 1]).asg (D.tup [.int j, .str ⟨#[q.1]⟩]) [none, none, some (.int n), some (.int v)] = .ok [some (.int j), some (.str ⟨#[q.1]⟩), some (.int n), some (.int v)] := rfl
    have e1 : mulD (.int 3) (.int j) = .ok (.int (3 * j)) := ev_mulL (by decide) (by decide)
    have e2 : mulD (.int (3 * j)) (.int j) = .ok (.int (3 * j * j)) := ev_mulL (by omega) (by omega)
    have e3 : modD (.int (n / 11 + j)) (.int v) = .ok (.int ((n / 11 + j) % v)) := ev_mod hv
    cases hb : ((n / 11 + j) % v == 0) with
    | true => simp -implicitDefEqProofs only [compF, noErr_ok', setAll, ev_eImm, ev_immT, ev_imsN, ev_imsI, ev_imsS, eVar, eC, eBin, eL, aNil, aCons, eTest, asB, Tgt.asg, R.ok_bind, List.length_cons, List.length_nil, List.getElem?_cons_zero, List.getElem?_cons_succ, List.set_cons_zero, List.set_cons_succ, Nat.reduceAdd, Nat.zero_add, ev_add, ev_mod, ev_fdiv, ev_eqi, if_true, if_false, Bool.false_eq_true, Int.reduceLT, e1, e2, e3, hb]
    | false => simp -implicitDefEqProofs only [compF, noErr_ok', setAll, ev_eImm, ev_immT, ev_imsN, ev_imsI, ev_imsS, eVar, eC, eBin, eL, aNil, aCons, eTest, asB, Tgt.asg, R.ok_bind, List.length_cons, List.length_nil, List.getElem?_cons_zero, List.getElem?_cons_succ, List.set_cons_zero, List.set_cons_succ, Nat.reduceAdd, Nat.zero_add, ev_add, ev_mod, ev_fdiv, ev_eqi, if_true, if_false, Bool.false_eq_true, Int.reduceLT, e1, e2, e3, hb]
  refine ⟨(S.cps.toList.zipIdx.filter p).map g, ⟨?_, fun q hq => ?_⟩, ?_⟩
  · rw [List.length_map]
    have := List.length_filter_le p S.cps.toList.zipIdx
    rw [List.length_zipIdx] at this
    have h2 : S.cps.toList.length = S.length := by simp [Str.length]
    omega
  · obtain ⟨r, _, rfl⟩ := List.mem_map.mp hq
    show 1 <= 1 + (n / 7 + 3 * (r.2 : Int) * (r.2 : Int)) % 20
    have := Int.emod_nonneg (n / 7 + 3 * (r.2 : Int) * (r.2 : Int)) (b := 20) (by decide)
    omega
  · rw [hz, hc, fm_if, List.map_map]
    rfl
theorem face_g (S : Str) (hS : S.length <= 1000) (scr : D) (n : Int) (hn : F__law_mixed [scr, .int 0] = .ok (.int n)) : ∃ pl bl odd, runB 5 (TFa S) [scr] = .ok (fc pl bl odd) /\ odd.length <= 1000 /\ 1 <= pl /\ 1 <= bl /\ ∀ p ∈ odd, 1 <= p.2 := by
  by_cases h3 : (n % 3 == 0) = true
  · refine ⟨1, 1 + n / 3 % 2, [], ?_, by simp, by decide, by omega, fun p hp => by cases hp⟩
    simp only [TFa, ev_eComp, ev_ctN, ev_ctO, ev_ctS, sSkip, runB, sSeq, sSet, sRet, sIf, eVar, eC, eBin, eL, aNil, aCons, eTest, iL, asB, R.ok_bind, List.map_cons, List.map_nil, List.length_cons, List.length_nil, List.replicate_succ, List.replicate_zero, List.cons_append, List.nil_append, List.getElem?_cons_zero, List.getElem?_cons_succ, List.set_cons_zero, List.set_cons_succ, Nat.reduceSub, Nat.zero_add, ev_add, ev_mod, ev_fdiv, ev_eqi, if_true, if_false, Bool.false_eq_true, Int.reduceLT, hn, h3, fc]
  · have h3 : (n % 3 == 0) = false := by simpa using h3
    obtain ⟨v, e1, hv⟩ := step_ok n
    obtain ⟨odd, ho, hc⟩ := odd_ok S hS n v hv
    refine ⟨1 + n / 3 % 20, 1 + n / 60 % 20, odd, ?_, ho.1, by omega, by omega, ho.2⟩
    have ho := ho.1
    have hl : (odd.map fun p => D.tup [.str p.1, .int p.2]).length <= 16777216 := by rw [List.length_map]; omega
    simp only [TFa, ev_eComp, ev_ctN, ev_ctO, ev_ctS, ev_join, sSkip, runB, sSeq, sSet, sRet, sIf, eVar, eC, eBin, eL, aNil, aCons, eTest, iL, asB, R.ok_bind, List.map_cons, List.map_nil, List.length_cons, List.length_nil, List.replicate_succ, List.replicate_zero, List.cons_append, List.nil_append, List.getElem?_cons_zero, List.getElem?_cons_succ, List.set_cons_zero, List.set_cons_succ, Nat.reduceSub, Nat.zero_add, ev_add, ev_mod, ev_fdiv, ev_eqi, if_false, Bool.false_eq_true, Int.reduceLT, hn, h3, e1, ev_enumS, hc, ev_lstD hl, ev_tuple1 (imms_pairs odd), fc]
theorem face_ok (ns : List Int) (hl : ns.length <= 63) : ∃ pl bl odd, F__law_face [.frl (ns.map .int)] = .ok (fc pl bl odd) /\ odd.length <= 1000 /\ 1 <= pl /\ 1 <= bl /\ ∀ p ∈ odd, 1 <= p.2 := by
  obtain ⟨n, hn, _⟩ := mixed ns 0 (by decide) (by decide) hl
  exact face_g SF (by rw [sf_len]; decide) _ n hn
noncomputable def JW : Tn -> R D := (eSm joinD (eC (.str "")) (aCons (eComp [none, some 1, some 0] (iL rng1 (aCons (eVar 2) aNil)) (.one 0) (fun _ => .ok true) (eImm (eBin ixD (eVar 1) (eBin modD (eBin addD (eBin fdivD (eVar 2) (eC (.int 7))) (eBin mulD (eBin mulD (eVar 0) (eVar 0)) (eBin addD (eC (.int 1)) (eBin modD (eBin fdivD (eVar 2) (eC (.int 600))) (eC (.int 7)))))) (eC (.int 74)))))) aNil))
noncomputable def TW (S : Str) (J : Tn -> R D) : Tn -> R Fl := (sSeq (sSet 1 (eC (.str S))) (sSeq (sSet 2 (eBin addD (eC (.int 1)) (eBin modD (eVar 0) (eC (.int 5))))) (sSeq (sIf (eTest (eBin (eqR false) (eBin modD (eBin fdivD (eVar 0) (eC (.int 5))) (eC (.int 11))) (eC (.int 3)))) (sSet 2 (eBin addD (eC (.int 1)) (eBin modD (eBin fdivD (eVar 0) (eC (.int 55))) (eC (.int 40))))) sSkip) (sRet J))))
theorem sum_ones : ∀ (xs : List Nat), ((xs.map fun c => (⟨#[c]⟩ : Str)).map (·.length)).sum = xs.length
  | [] => rfl
  | x :: xs => by
    rw [List.map_cons, List.map_cons, List.sum_cons, sum_ones xs, List.length_cons]
    show 1 + xs.length = _
    omega
theorem app_len (x y : Str) : (x ++ y).length = x.length + y.length := by
  show (x.cps ++ y.cps).size = _
  rw [Array.size_append]
  rfl
theorem join_one : ∀ xs : List Nat, (Str.join "" (xs.map fun c => (⟨#[c]⟩ : Str))).length = xs.length
  | [] => rfl
  | [x] => rfl
  | x :: y :: r => by
    have ih := join_one (y :: r)
    show ((⟨#[x]⟩ : Str) ++ "" ++ Str.join "" ((y :: r).map fun c => (⟨#[c]⟩ : Str))).length = _
    rw [app_len, app_len, ih]
    show 1 + 0 + (y :: r).length = (y :: r).length + 1
    omega
theorem wcomp (S : Str) (f : Int -> Nat) (hf : ∀ x : Int, ixD (.str S) (.int (x % 74)) = .ok (.str ⟨#[f x]⟩)) (n : Int) (m : Nat) (hm : m <= 40) :
    compL (compF (Tgt.one 0).asg (fun _ => .ok true) (eImm (eBin ixD (eVar 1) (eBin modD (eBin addD (eBin fdivD (eVar 2) (eC (.int 7))) (eBin mulD (eBin mulD (eVar 0) (eVar 0)) (eBin addD (eC (.int 1)) (eBin modD (eBin fdivD (eVar 2) (eC (.int 600))) (eC (.int 7)))))) (eC (.int 74))))) [none, some (.str S), some (.int n)]) (rng 0 m) = .ok ((((List.range m).map fun (i : Nat) => f (n / 7 + (0 + (i : Int)) * (0 + (i : Int)) * (1 + n / 600 % 7))).map fun c => (⟨#[c]⟩ : Str)).map D.str) := by
  have := compL_rng (f := compF (Tgt.one 0).asg (fun _ => .ok true) (eImm (eBin ixD (eVar 1) (eBin modD (eBin addD (eBin fdivD (eVar 2) (eC (.int 7))) (eBin mulD (eBin mulD (eVar 0) (eVar 0)) (eBin addD (eC (.int 1)) (eBin modD (eBin fdivD (eVar 2) (eC (.int 600))) (eC (.int 7)))))) (eC (.int 74))))) [none, some (.str S), some (.int n)]) (o := fun i => some (D.str ⟨#[f (n / 7 + (0 + (i : Int)) * (0 + (i : Int)) * (1 + n / 600 % 7))]⟩)) (lo := 0) (n := m) fun i hi => by
    have hb : 0 <= (0 : Int) + (i : Int) /\ (0 : Int) + (i : Int) < 40 := by omega
    generalize (0 : Int) + (i : Int) = j at *
    have e1 : mulD (.int j) (.int j) = .ok (.int (j * j)) := ev_mulL (by omega) (by omega)
    have e2 : mulD (.int (j * j)) (.int (1 + n / 600 % 7)) = .ok (.int (j * j * (1 + n / 600 % 7))) := ev_mulR (by omega) (by omega)
    simp -implicitDefEqProofs only [compF, noErr_ok', ev_eImm, ev_immS, eVar, eC, eBin, Tgt.asg, R.ok_bind, List.getElem?_cons_zero, List.getElem?_cons_succ, List.set_cons_zero, ev_add, ev_mod, ev_fdiv, if_true, Int.reduceLT, e1, e2, hf]
  rw [this, fm_some, List.map_map, List.map_map]
  rfl
theorem word_s1 (S : Str) (J : Tn -> R D) (n : Int) (x : Str) (h3 : (n / 5 % 11 == 3) = true) (e : J [some (.int n), some (.str S), some (.int (1 + n / 55 % 40))] = .ok (.str x)) : runB 3 (TW S J) [.int n] = .ok (.str x) := by
  simp only [TW, sSkip, runB, sSeq, sSet, sRet, sIf, eVar, eC, eBin, eTest, asB, R.ok_bind, List.map_cons, List.map_nil, List.length_cons, List.length_nil, List.replicate_succ, List.replicate_zero, List.cons_append, List.nil_append, List.getElem?_cons_zero, List.set_cons_zero, List.set_cons_succ, Nat.reduceSub, Nat.zero_add, ev_add, ev_mod, ev_fdiv, ev_eqi, if_true, if_false, Bool.false_eq_true, Int.reduceLT, h3, e]
theorem word_s2 (S : Str) (J : Tn -> R D) (n : Int) (x : Str) (h3 : (n / 5 % 11 == 3) = false) (e : J [some (.int n), some (.str S), some (.int (1 + n % 5))] = .ok (.str x)) : runB 3 (TW S J) [.int n] = .ok (.str x) := by
  simp only [TW, sSkip, runB, sSeq, sSet, sRet, sIf, eVar, eC, eBin, eTest, asB, R.ok_bind, List.map_cons, List.map_nil, List.length_cons, List.length_nil, List.replicate_succ, List.replicate_zero, List.cons_append, List.nil_append, List.getElem?_cons_zero, List.set_cons_zero, List.set_cons_succ, Nat.reduceSub, Nat.zero_add, ev_add, ev_mod, ev_fdiv, ev_eqi, if_false, Bool.false_eq_true, Int.reduceLT, h3, e]
theorem word_g (S : Str) (f : Int -> Nat) (hf : ∀ x : Int, ixD (.str S) (.int (x % 74)) = .ok (.str ⟨#[f x]⟩)) (n : Int) (hn : 0 <= n) : ∃ x : Str, runB 3 (TW S JW) [.int n] = .ok (.str x) /\ 1 <= x.length /\ x.length <= 40 := by
  have key : ∀ z : Int, 1 <= z -> z <= 40 -> ∃ x : Str, JW [some (.int n), some (.str S), some (.int z)] = .ok (.str x) /\ 1 <= x.length /\ x.length <= 40 := fun z h1 h2 => by
    have e1 : rng1 [D.int z] = .ok (rng 0 z.toNat) := ev_rng1 (by omega) (by omega)
    have e2 := wcomp S f hf n z.toNat (by omega)
    generalize hxs : ((List.range z.toNat).map fun (i : Nat) => f (n / 7 + (0 + (i : Int)) * (0 + (i : Int)) * (1 + n / 600 % 7))) = xs at e2
    have hlx : xs.length <= 40 /\ 1 <= xs.length := by rw [<- hxs, List.length_map, List.length_range]; omega
    have hs := sum_ones xs
    have e0 : ("" : Str).length = 0 := rfl
    have e3 : joinD "" [.lst ((xs.map fun c => (⟨#[c]⟩ : Str)).map D.str)] = .ok (.str (Str.join "" (xs.map fun c => (⟨#[c]⟩ : Str)))) := ev_joinD (by rw [hs, e0]; omega)
    have hl : ((xs.map fun c => (⟨#[c]⟩ : Str)).map D.str).length <= 16777216 := by rw [List.length_map, List.length_map]; omega
    have hj := join_one xs
    refine ⟨Str.join "" (xs.map fun c => (⟨#[c]⟩ : Str)), ?_, by omega, by omega⟩
    simp only [JW, ev_eSm, ev_smD, ev_eComp, ev_ctN, ev_ctO, ev_ctS, ev_join, eVar, eC, aNil, aCons, iL, R.ok_bind, List.getElem?_cons_zero, List.getElem?_cons_succ, e1, e2, ev_lstD hl, e3]
  cases h3 : (n / 5 % 11 == 3) with
  | true =>
    obtain ⟨x, e, hx⟩ := key (1 + n / 55 % 40) (by omega) (by omega)
    exact ⟨x, word_s1 S JW n x h3 e, hx⟩
  | false =>
    obtain ⟨x, e, hx⟩ := key (1 + n % 5) (by omega) (by omega)
    exact ⟨x, word_s2 S JW n x h3 e, hx⟩
theorem word_ok (n : Int) (hn : 0 <= n) : ∃ x : Str, F__law_word [.int n] = .ok (.str x) /\ 1 <= x.length /\ x.length <= 40 :=
  word_g SG (fun x => Classical.choose (sign x)) (fun x => Classical.choose_spec (sign x)) n hn
end K17

set_option maxRecDepth 100000
set_option maxHeartbeats 4000000
namespace K17
open PySem PyProof.Rows L2
noncomputable def CW : Tn -> R D := (eComp [none, some 0] (iL rng1 (aCons (eVar 1) aNil)) (.one 0) (fun _ => .ok true) (eL F__law_word (aCons (eBin modD (eBin mulD (eBin mulD (eBin addD (eBin fdivD (eVar 1) (eC (.int 13))) (eC (.int 30011))) (eBin addD (eBin mulD (eVar 0) (eVar 0)) (eC (.int 1)))) (eC (.int 16807))) (eC (.int 2147483647))) aNil)))
noncomputable def TWs (C : Tn -> R D) : Tn -> R Fl := (sSeq (sSet 1 (eBin ixD (eL (fun ds => .ok (.lst ds)) (aCons (eC (.int 0)) (aCons (eC (.int 1)) (aCons (eC (.int 2)) (aCons (eC (.int 3)) (aCons (eC (.int 4)) (aCons (eC (.int 5)) (aCons (eC (.int 2)) (aCons (eC (.int 3)) aNil))))))))) (eBin modD (eVar 0) (eC (.int 8))))) (sSeq (sIf (eTest (eBin (eqR false) (eBin modD (eBin fdivD (eVar 0) (eC (.int 8))) (eC (.int 12))) (eC (.int 5)))) (sSet 1 (eBin addD (eC (.int 6)) (eBin modD (eBin fdivD (eVar 0) (eC (.int 96))) (eC (.int 7))))) sSkip) (sRet C)))
theorem cw_ok (n : Int) (hn : 0 <= n) (hn2 : n < 2147483647) (z : Int) (h1 : 0 <= z) (h2 : z <= 12) : ∃ ws : List Str, CW [some (.int n), some (.int z)] = .ok (.lst (ws.map D.str)) /\ ws.length <= 12 /\ ∀ x ∈ ws, 1 <= x.length /\ x.length <= 40 := by
  have e1 : rng1 [D.int z] = .ok (rng 0 z.toNat) := ev_rng1 (by omega) (by omega)
  let g : Nat -> Str := fun i => Classical.choose (word_ok ((n / 13 + 30011) * ((0 + (i : Int)) * (0 + (i : Int)) + 1) * 16807 % 2147483647) (Int.emod_nonneg _ (by decide)))
  have hg : ∀ i : Nat, F__law_word [.int ((n / 13 + 30011) * ((0 + (i : Int)) * (0 + (i : Int)) + 1) * 16807 % 2147483647)] = .ok (.str (g i)) /\ 1 <= (g i).length /\ (g i).length <= 40 := fun i => Classical.choose_spec (word_ok ((n / 13 + 30011) * ((0 + (i : Int)) * (0 + (i : Int)) + 1) * 16807 % 2147483647) (Int.emod_nonneg _ (by decide)))
  have hc := compL_rng (f := compF (Tgt.one 0).asg (fun _ => .ok true) (eL F__law_word (aCons (eBin modD (eBin mulD (eBin mulD (eBin addD (eBin fdivD (eVar 1) (eC (.int 13))) (eC (.int 30011))) (eBin addD (eBin mulD (eVar 0) (eVar 0)) (eC (.int 1)))) (eC (.int 16807))) (eC (.int 2147483647))) aNil)) [none, some (.int n)]) (o := fun i => some (D.str (g i))) (lo := 0) (n := z.toNat) fun i hi => by
    have hb : 0 <= (0 : Int) + (i : Int) /\ (0 : Int) + (i : Int) < 13 := by omega
    have hw := (hg i).1
    generalize g i = x at *
    generalize (0 : Int) + (i : Int) = j at *
    have f1 : mulD (.int j) (.int j) = .ok (.int (j * j)) := ev_mulL (by omega) (by omega)
    have f2 : mulD (.int (n / 13 + 30011)) (.int (j * j + 1)) = .ok (.int ((n / 13 + 30011) * (j * j + 1))) := ev_mulL (by omega) (by omega)
    have f3 : mulD (.int ((n / 13 + 30011) * (j * j + 1))) (.int 16807) = .ok (.int ((n / 13 + 30011) * (j * j + 1) * 16807)) := ev_mulR (by decide) (by decide)
    simp -implicitDefEqProofs only [compF, noErr_ok', eVar, eC, eBin, eL, aNil, aCons, Tgt.asg, R.ok_bind, List.getElem?_cons_zero, List.getElem?_cons_succ, List.set_cons_zero, ev_add, ev_mod, ev_fdiv, if_true, Int.reduceLT, f1, f2, f3, hw]
  rw [fm_some] at hc
  have hl : ((List.range z.toNat).map fun i => D.str (g i)).length <= 16777216 := by rw [List.length_map, List.length_range]; omega
  refine ⟨(List.range z.toNat).map g, ?_, by rw [List.length_map, List.length_range]; omega, fun x hx => ?_⟩
  · rw [List.map_map]
    show _ = R.ok (D.lst ((List.range z.toNat).map fun i => D.str (g i)))
    simp -implicitDefEqProofs only [CW, ev_eComp, ev_ctN, ev_ctO, ev_ctS, ev_join, eVar, aNil, aCons, iL, R.ok_bind, List.getElem?_cons_zero, List.getElem?_cons_succ, e1, hc, ev_lstD hl]
  · obtain ⟨i, _, rfl⟩ := List.mem_map.mp hx
    exact (hg i).2
theorem words_s1 (C : Tn -> R D) (n v : Int) (r : D) (hv : ixD (.lst [.int 0, .int 1, .int 2, .int 3, .int 4, .int 5, .int 2, .int 3]) (.int (n % 8)) = .ok (.int v)) (h : (n / 8 % 12 == 5) = true) (e : C [some (.int n), some (.int (6 + n / 96 % 7))] = .ok r) : runB 2 (TWs C) [.int n] = .ok r := by
  simp only [TWs, sSkip, runB, sSeq, sSet, sRet, sIf, eVar, eC, eBin, eL, aNil, aCons, eTest, asB, R.ok_bind, List.map_cons, List.map_nil, List.length_cons, List.length_nil, List.replicate_succ, List.replicate_zero, List.cons_append, List.nil_append, List.getElem?_cons_zero, List.set_cons_zero, List.set_cons_succ, Nat.reduceSub, Nat.zero_add, ev_add, ev_mod, ev_fdiv, ev_eqi, if_true, if_false, Bool.false_eq_true, Int.reduceLT, hv, h, e]
theorem words_s2 (C : Tn -> R D) (n v : Int) (r : D) (hv : ixD (.lst [.int 0, .int 1, .int 2, .int 3, .int 4, .int 5, .int 2, .int 3]) (.int (n % 8)) = .ok (.int v)) (h : (n / 8 % 12 == 5) = false) (e : C [some (.int n), some (.int v)] = .ok r) : runB 2 (TWs C) [.int n] = .ok r := by
  simp only [TWs, sSkip, runB, sSeq, sSet, sRet, sIf, eVar, eC, eBin, eL, aNil, aCons, eTest, asB, R.ok_bind, List.map_cons, List.map_nil, List.length_cons, List.length_nil, List.replicate_succ, List.replicate_zero, List.cons_append, List.nil_append, List.getElem?_cons_zero, List.set_cons_zero, List.set_cons_succ, Nat.reduceSub, Nat.zero_add, ev_add, ev_mod, ev_fdiv, ev_eqi, if_false, Bool.false_eq_true, Int.reduceLT, hv, h, e]
theorem many_ok (n : Int) : ∃ v, ixD (.lst [.int 0, .int 1, .int 2, .int 3, .int 4, .int 5, .int 2, .int 3]) (.int (n % 8)) = .ok (.int v) /\ 0 <= v /\ v <= 12 := by
  exact ix_any (P := fun v => 0 <= v /\ v <= 12) [0, 1, 2, 3, 4, 5, 2, 3] (Int.emod_nonneg _ (by decide)) (Int.emod_lt_of_pos _ (by decide)) (by decide)
theorem words_ok (n : Int) (hn : 0 <= n) (hn2 : n < 2147483647) : ∃ ws : List Str, F__law_words [.int n] = .ok (.lst (ws.map D.str)) /\ ws.length <= 12 /\ ∀ x ∈ ws, 1 <= x.length /\ x.length <= 40 := by
  have hT : F__law_words = runB 2 (TWs CW) := rfl
  obtain ⟨v, hv, h1, h2⟩ := many_ok n
  cases h : (n / 8 % 12 == 5) with
  | true =>
    obtain ⟨ws, e, r⟩ := cw_ok n hn hn2 (6 + n / 96 % 7) (by omega) (by omega)
    exact ⟨ws, by rw [hT]; exact words_s1 CW n v _ hv h e, r⟩
  | false =>
    obtain ⟨ws, e, r⟩ := cw_ok n hn hn2 v h1 h2
    exact ⟨ws, by rw [hT]; exact words_s2 CW n v _ hv h e, r⟩
end K17

set_option maxRecDepth 100000
set_option maxHeartbeats 4000000
namespace K17
open PySem PyProof.Rows L2
theorem wide_pos (pl bl : Int) (odd : List (Str × Int)) (ho : odd.length <= 1000) (hpl : 1 <= pl) (hbl : 1 <= bl) (hod : ∀ p ∈ odd, 1 <= p.2) : ∃ wc : Nat -> Int, wc 32 = bl /\ (∀ c, 1 <= wc c) /\ ∀ x : Str, x.length <= 16777216 -> F_wide [fc pl bl odd, .str x] = .ok (.int (wd wc x)) := by
  obtain ⟨ms, e1, e2, e3, e4⟩ := merge_pos odd [] [] rfl (fun n hn => by cases hn) hod
  simp only [List.map_nil, List.length_nil, Nat.zero_add] at e1 e2 e3
  generalize hm : mergeP [] [] (odd.map fun p => (Key.inr p.1, D.int p.2)) = m at e1 e2 e3
  obtain ⟨ks, ds⟩ := m
  simp only at e1 e2 e3
  subst e1
  obtain ⟨ns, f1, f2, f3, f4⟩ := put_pos ks ms (.inr " ") bl e2 e4 hbl
  have lp := look_put ks (ms.map D.int) (.inr " ") (.int bl) (by rw [e2, List.length_map])
  generalize hq : putP ks (ms.map D.int) (.inr " ") (.int bl) = q at f1 f2 f3 lp
  obtain ⟨ks1, ds1⟩ := q
  simp only at f1 f2 f3 lp
  subst f1
  refine ⟨wcO ks1 (ns.map D.int) pl, ?_, fun c => ?_, fun x hx => ?_⟩
  · have e : (" " : Str) = ⟨#[32]⟩ := rfl
    rw [e] at lp
    unfold wcO
    rw [lp]
    rfl
  · obtain ⟨n, e, hn⟩ := look_pos ks1 ns (.inr ⟨#[c]⟩) pl f4 hpl
    unfold wcO
    rw [e]
    exact hn
  · refine wide_seq _ ks ks1 (ms.map D.int) (ns.map D.int) pl bl x _ ?_ (by omega) hq (fun c => get_ok) hx
    rw [ev_dictP, hm]
theorem wd_pos {wc : Nat -> Int} (h : ∀ c, 1 <= wc c) {x : Str} (hx : 1 <= x.length) : 1 <= wd wc x := by
  have := sum_pos wc h x.cps.toList
  have e : x.cps.toList.length = x.length := by simp [Str.length]
  unfold wd
  omega
theorem S_mono {vs : List Int} {bl : Int} (hv : ∀ v ∈ vs, 1 <= v) (hb : 1 <= bl) {a e : Nat} (hae : a <= e) : ∀ k, e + k <= vs.length -> S vs bl a e <= S vs bl a (e + k)
  | 0, _ => Int.le_refl _
  | k + 1, h => by
    have ih := S_mono hv hb hae k (by omega)
    have hlt : e + k < vs.length := by omega
    have hs := S_succ (vs := vs) (bl := bl) (a := a) (e := e + k) (by omega) (List.getElem?_eq_getElem hlt)
    have hp := hv _ (List.getElem_mem hlt)
    rw [<- Nat.add_assoc, hs]
    omega
theorem Good.one {vs : List Int} {bl wi : Int} (hv : ∀ v ∈ vs, 1 <= v) (hb : 1 <= bl) {ps : List (Nat × Nat)} (g : Good vs bl wi ps 0 vs.length) (h : S vs bl 0 vs.length <= wi) : ps.length <= 1 := by
  cases ps with
  | nil => simp
  | cons p r =>
    obtain ⟨g1, g2, g3, g4, g5, g6⟩ := g
    by_cases he : p.2 < vs.length
    · have := g5 he
      have hm := S_mono hv hb (a := 0) (e := p.2 + 1) (by omega) (vs.length - (p.2 + 1)) (by omega)
      rw [show p.2 + 1 + (vs.length - (p.2 + 1)) = vs.length by omega] at hm
      omega
    · cases r with
      | nil => simp
      | cons q r =>
        obtain ⟨h1, h2, h3, _⟩ := g6
        omega
theorem Good.zero {vs : List Int} {bl wi : Int} {ps : List (Nat × Nat)} (g : Good vs bl wi ps 0 vs.length) (h : vs = []) : ps.length = 0 := by
  cases ps with
  | nil => rfl
  | cons p r =>
    obtain ⟨g1, g2, g3, _⟩ := g
    rw [h] at g3
    simp at g3
    omega
end K17

set_option maxRecDepth 100000
set_option maxHeartbeats 4000000
namespace K17
open PySem PyProof.Rows L2
noncomputable def cellD (c : List Str) : D := .lst (c.map D.str)
noncomputable def cellT (c : List Str) : D := .tup (c.map D.str)
noncomputable def cellI (wc : Nat -> Int) (c : List Str) : D := .lst ((c.map (wd wc)).map D.int)
noncomputable def CellsOk (cs : List (List Str)) : Prop := cs.length <= 1000 /\ ∀ c ∈ cs, c.length <= 12 /\ ∀ x ∈ c, 1 <= x.length /\ x.length <= 40
structure Cnt (f : D) (bl : Int) (wc : Nat -> Int) (cn : List Str -> Int -> Nat) : Prop where
  fill : ∀ c wi, c.length <= 12 -> (∀ x ∈ c, 1 <= x.length /\ x.length <= 40) -> ∃ L, F_fill [cellI wc c, .int bl, .int wi] = .ok (.lst L) /\ L.length = cn c wi
  one : ∀ c wi, c.length <= 12 -> (∀ x ∈ c, 1 <= x.length /\ x.length <= 40) -> (c.map (wd wc)).sum + bl * (c.length : Int) <= wi -> cn c wi <= 1
  zero : ∀ wi, cn [] wi = 0
theorem cnt_ex {f : D} {bl : Int} {wc : Nat -> Int} (hw : ∀ x : Str, x.length <= 16777216 -> F_wide [f, .str x] = .ok (.int (wd wc x))) (h32 : wc 32 = bl) (hc : ∀ c, 1 <= wc c) (hb : 1 <= bl) : ∃ cn, Cnt f bl wc cn := by
  have key : ∀ (p : List Str × Int), ∃ m : Nat, p.1.length <= 12 -> (∀ x ∈ p.1, 1 <= x.length /\ x.length <= 40) -> (∃ L, F_fill [cellI wc p.1, .int bl, .int p.2] = .ok (.lst L) /\ L.length = m) /\ ((p.1.map (wd wc)).sum + bl * (p.1.length : Int) <= p.2 -> m <= 1) /\ (p.1 = [] -> m = 0) := by
    rintro ⟨c, wi⟩
    by_cases h1 : c.length <= 12
    · by_cases h2 : ∀ x ∈ c, 1 <= x.length /\ x.length <= 40
      · have hvl : (c.map (wd wc)).length = c.length := List.length_map _
        obtain ⟨ps, e, g, _⟩ := fill_ok (c.map (wd wc)) bl wi (by omega)
        have hv : ∀ v ∈ c.map (wd wc), 1 <= v := fun v hv => by
          obtain ⟨x, hx, rfl⟩ := List.mem_map.mp hv
          exact wd_pos hc (h2 x hx).1
        refine ⟨ps.length, fun _ _ => ⟨⟨_, e, List.length_map _⟩, fun hs => ?_, fun hz => ?_⟩⟩
        · refine Good.one hv hb g ?_
          have hs : (c.map (wd wc)).sum + bl * (c.length : Int) <= wi := hs
          unfold S
          rw [hvl, List.drop_zero, Nat.sub_zero, <- hvl, List.take_length, hvl]
          have : ((c.length : Int) - (0 : Nat) - 1) * bl = bl * (c.length : Int) - bl := by
            rw [show (c.length : Int) - (0 : Nat) - 1 = (c.length : Int) - 1 by omega, Int.sub_mul, Int.one_mul, Int.mul_comm]
          rw [this]
          omega
        · have hz : c = [] := hz
          exact Good.zero g (by rw [hz]; rfl)
      · exact ⟨0, fun _ z => absurd z h2⟩
    · exact ⟨0, fun z => absurd z h1⟩
  refine ⟨fun c wi => Classical.choose (key (c, wi)), ⟨fun c wi h1 h2 => ?_, fun c wi h1 h2 h3 => ?_, fun wi => ?_⟩⟩
  · exact (Classical.choose_spec (key (c, wi)) h1 h2).1
  · exact (Classical.choose_spec (key (c, wi)) h1 h2).2.1 h3
  · exact (Classical.choose_spec (key ([], wi)) (by simp) (fun x hx => by cases hx)).2.2 rfl
noncomputable def fitB (cn : List Str -> Int -> Nat) (cs : List (List Str)) (rows wi : Int) : Bool := (cs.map fun c => decide ((cn c wi : Int) <= rows)).all id
section
variable {f : D} {bl : Int} {wc : Nat -> Int} {cn : List Str -> Int -> Nat} {cs : List (List Str)}
theorem gi_ok (C : Cnt f bl wc cn) (ok : CellsOk cs) (rows wi : Int) : F_go_in [.lst (cs.map (cellI wc)), .int bl, .int wi, .int rows] = .ok (.bl (fitB cn cs rows wi)) := by
  have hc : compL (compF (Tgt.one 0).asg (fun _ => .ok true) (eBin leD (eL lenD (aCons (eL F_fill (aCons (eVar 0) (aCons (eVar 2) (aCons (eVar 3) aNil)))) aNil)) (eVar 1)) [none, some (.int rows), some (.int bl), some (.int wi)]) (cs.map (cellI wc)) = .ok ((cs.map fun c => decide ((cn c wi : Int) <= rows)).map D.bl) := by
    have := compL_enc (enc := cellI wc) (xs := cs) (o := fun c => some (.bl (decide ((cn c wi : Int) <= rows)))) (f := compF (Tgt.one 0).asg (fun _ => .ok true) (eBin leD (eL lenD (aCons (eL F_fill (aCons (eVar 0) (aCons (eVar 2) (aCons (eVar 3) aNil)))) aNil)) (eVar 1)) [none, some (.int rows), some (.int bl), some (.int wi)]) fun c hc => by
      obtain ⟨L, e1, e2⟩ := C.fill c wi (ok.2 c hc).1 (ok.2 c hc).2
      have e3 : ((L.length : Nat) : Int) = (cn c wi : Int) := by rw [e2]
      generalize (cn c wi : Int) = N at *
      generalize cellI wc c = cI at *
      simp only [compF, noErr_ok', eVar, eBin, eL, aNil, aCons, Tgt.asg, R.ok_bind, List.getElem?_cons_zero, List.getElem?_cons_succ, List.set_cons_zero, ev_le, ev_lenl, if_true, e1, e3]
    rw [fm_some] at this
    rw [this, List.map_map]
    rfl
  have hlen : ((cs.map fun c => decide ((cn c wi : Int) <= rows)).map D.bl).length <= 16777216 := by
    rw [List.length_map, List.length_map]; have := ok.1; omega
  unfold fitB
  simp only [F_go_in, t_go_in, ev_eComp, ev_ctN, ev_ctO, ev_ctS, ev_join, runB, sRet, eVar, eL, aNil, aCons, iSeq, asSeq, R.ok_bind, List.map_cons, List.map_nil, List.length_cons, List.length_nil, List.replicate_zero, List.cons_append, List.nil_append, List.getElem?_cons_zero, List.getElem?_cons_succ, Nat.reduceAdd, Nat.reduceSub, Nat.zero_add, hc, ev_lstD hlen, ev_allD]
end
end K17

set_option maxRecDepth 100000
set_option maxHeartbeats 4000000
namespace K17
open PySem PyProof.Rows L2
noncomputable def Lsp (wc : Nat -> Int) (cs : List (List Str)) (k : Int) : Prop := 1 <= k /\ (∀ c ∈ cs, ∀ x ∈ c, wd wc x <= k) /\ (k = 1 \/ ∃ c ∈ cs, ∃ x ∈ c, k = wd wc x)
section
variable {f : D} {bl : Int} {wc : Nat -> Int} {cn : List Str -> Int -> Nat} {cs : List (List Str)}
noncomputable def bs (fit : Int -> Bool) : Nat -> Int -> Int -> Int
  | 0, lo, _ => lo
  | n + 1, lo, hi => if lo < hi then (if fit ((lo + hi) / 2) = true then bs fit n lo ((lo + hi) / 2) else bs fit n ((lo + hi) / 2 + 1) hi) else lo
theorem bs_spec (fit : Int -> Bool) (L : Int) : ∀ (n : Nat) (lo hi : Int), (hi - lo).toNat <= n -> L <= lo -> (lo = L \/ fit (lo - 1) = false) -> (lo <= hi -> fit hi = true) -> (hi < lo -> fit lo = true) ->
    L <= bs fit n lo hi /\ (bs fit n lo hi = L \/ fit (bs fit n lo hi - 1) = false) /\ fit (bs fit n lo hi) = true
  | 0, lo, hi, h, h1, h2, h3, h4 => by
    refine ⟨h1, h2, ?_⟩
    show fit lo = true
    by_cases hl : hi < lo
    · exact h4 hl
    · have : hi = lo := by omega
      rw [<- this]; exact h3 (by omega)
  | n + 1, lo, hi, h, h1, h2, h3, h4 => by
    unfold bs
    by_cases hlt : lo < hi
    · rw [if_pos hlt]
      cases hf : fit ((lo + hi) / 2) with
      | true => rw [if_pos rfl]; exact bs_spec fit L n lo _ (by omega) h1 h2 (fun _ => hf) (fun z => by omega)
      | false => rw [if_neg Bool.false_ne_true]; exact bs_spec fit L n _ hi (by omega) (by omega) (.inr (by rw [Int.add_sub_cancel]; exact hf)) (fun _ => h3 (by omega)) (fun z => by omega)
    · rw [if_neg hlt]
      refine ⟨h1, h2, ?_⟩
      by_cases hl : hi < lo
      · exact h4 hl
      · have : hi = lo := by omega
        rw [<- this]; exact h3 (by omega)
noncomputable def kB : Tn -> R Bool := (eTest (eBin ltD (eVar 4) (eVar 5)))
noncomputable def bB (G : Tn -> R Bool) : Tn -> R Fl := (sSeq (sSet 6 (eBin fdivD (eBin addD (eVar 4) (eVar 5)) (eC (.int 2)))) (sIf G (sSet 5 (eImm (eVar 6))) (sSet 4 (eBin addD (eVar 6) (eC (.int 1))))))
noncomputable def GB : Tn -> R Bool := (eTest (eL F_go_in (aCons (eVar 3) (aCons (eBin ixD (eVar 0) (eC (.int 1))) (aCons (eVar 6) (aCons (eVar 2) aNil))))))
theorem kB_ok (a b c d : Option D) (lo hi : Int) (y : Option D) : kB [a, b, c, d, some (.int lo), some (.int hi), y] = .ok (decide (lo < hi)) := by
  simp only [kB, eVar, eBin, eTest, asB, R.ok_bind, List.getElem?_cons_zero, List.getElem?_cons_succ, ev_lt]
theorem bB_t (G : Tn -> R Bool) (a b c d : Option D) (lo hi : Int) (y : Option D) (h : G [a, b, c, d, some (.int lo), some (.int hi), some (.int ((lo + hi) / 2))] = .ok true) : bB G [a, b, c, d, some (.int lo), some (.int hi), y] = .ok (.nx [a, b, c, d, some (.int lo), some (.int ((lo + hi) / 2)), some (.int ((lo + hi) / 2))]) := by
  simp only [bB, ev_eImm, ev_immI, sSeq, sSet, sIf, eVar, eC, eBin, R.ok_bind, List.getElem?_cons_zero, List.getElem?_cons_succ, List.set_cons_zero, List.set_cons_succ, ev_add, ev_fdiv, if_true, Int.reduceLT, h]
theorem bB_f (G : Tn -> R Bool) (a b c d : Option D) (lo hi : Int) (y : Option D) (h : G [a, b, c, d, some (.int lo), some (.int hi), some (.int ((lo + hi) / 2))] = .ok false) : bB G [a, b, c, d, some (.int lo), some (.int hi), y] = .ok (.nx [a, b, c, d, some (.int ((lo + hi) / 2 + 1)), some (.int hi), some (.int ((lo + hi) / 2))]) := by
  simp only [bB, ev_eImm, ev_immI, sSeq, sSet, sIf, eVar, eC, eBin, R.ok_bind, List.getElem?_cons_zero, List.getElem?_cons_succ, List.set_cons_zero, List.set_cons_succ, ev_add, ev_fdiv, if_false, Bool.false_eq_true, Int.reduceLT, h]
theorem gB_ok (W V : D) (rows lo hi mid : Int) (r : Bool) (h1 : ixD f (.int 1) = .ok (.int bl)) (h2 : F_go_in [V, .int bl, .int mid, .int rows] = .ok (.bl r)) : GB [some f, some W, some (.int rows), some V, some (.int lo), some (.int hi), some (.int mid)] = .ok r := by
  simp only [GB, eVar, eC, eBin, eL, aNil, aCons, eTest, asB, R.ok_bind, List.getElem?_cons_zero, List.getElem?_cons_succ, h1, h2]
theorem wB_ok (W V : D) (rows : Int) (fit : Int -> Bool) (h1 : ixD f (.int 1) = .ok (.int bl)) (h2 : ∀ mid, F_go_in [V, .int bl, .int mid, .int rows] = .ok (.bl (fit mid))) :
    ∀ (n : Nat) (lo hi : Int) (y : Option D), (hi - lo).toNat <= n -> ∃ hi' y', whGo kB (bB GB) (n + 1) [some f, some W, some (.int rows), some V, some (.int lo), some (.int hi), y] = .ok (.nx [some f, some W, some (.int rows), some V, some (.int (bs fit n lo hi)), some (.int hi'), y'])
  | 0, lo, hi, y, h => by
    refine ⟨hi, y, ?_⟩
    rw [whGo, kB_ok, decide_eq_false (by omega), R.ok_bind, if_neg Bool.false_ne_true]
    rfl
  | n + 1, lo, hi, y, h => by
    unfold bs
    by_cases hlt : lo < hi
    · rw [if_pos hlt]
      have hg := gB_ok (f := f) (bl := bl) W V rows lo hi ((lo + hi) / 2) _ h1 (h2 ((lo + hi) / 2))
      cases hf : fit ((lo + hi) / 2) with
      | true =>
        rw [hf] at hg
        obtain ⟨hi', y', e⟩ := wB_ok W V rows fit h1 h2 n lo ((lo + hi) / 2) (some (.int ((lo + hi) / 2))) (by omega)
        refine ⟨hi', y', ?_⟩
        rw [if_pos rfl, whGo, kB_ok, decide_eq_true hlt, R.ok_bind, if_pos rfl, bB_t GB _ _ _ _ lo hi y hg, R.ok_bind]
        exact e
      | false =>
        rw [hf] at hg
        obtain ⟨hi', y', e⟩ := wB_ok W V rows fit h1 h2 n ((lo + hi) / 2 + 1) hi (some (.int ((lo + hi) / 2))) (by omega)
        refine ⟨hi', y', ?_⟩
        rw [if_neg Bool.false_ne_true, whGo, kB_ok, decide_eq_true hlt, R.ok_bind, if_pos rfl, bB_f GB _ _ _ _ lo hi y hg, R.ok_bind]
        exact e
    · refine ⟨hi, y, ?_⟩
      rw [if_neg hlt, whGo, kB_ok, decide_eq_false hlt, R.ok_bind, if_neg Bool.false_ne_true]
noncomputable def C3 : Tn -> R D := (eComp [none, some 0] (iSeq (eVar 1)) (.one 0) (fun _ => .ok true) (eL F_word_widths (aCons (eVar 1) (aCons (eVar 0) aNil))))
noncomputable def C4 : Tn -> R D := (eComp [none] (iSeq (eVar 3)) (.one 0) (fun _ => .ok true) (eBin maxdD (eVar 0) (eC (.int 1))))
noncomputable def C5 : Tn -> R D := (eComp [none, some 0] (iSeq (eVar 3)) (.one 0) (fun _ => .ok true) (eBin addD (eL sumD (aCons (eVar 0) aNil)) (eBin mulD (eBin ixD (eVar 1) (eC (.int 1))) (eL lenD (aCons (eVar 0) aNil)))))
noncomputable def TLw (c3 c4 c5 : Tn -> R D) (SF : Tn -> R Fl) : Tn -> R Fl := (sSeq (sSet 3 c3) (sSeq (sSet 4 (eBin maxdD c4 (eC (.int 1)))) (sSeq (sSet 5 (eBin maxdD c5 (eC (.int 1)))) (sSeq SF (sRet (eVar 4))))))
theorem lw_seq (c3 c4 c5 : Tn -> R D) (SF : Tn -> R Fl) (W V U4 U5 : D) (rows lo hi w : Int) (x y : Option D) (h3 : c3 [some f, some W, some (.int rows), none, none, none, none] = .ok V) (h4 : c4 [some f, some W, some (.int rows), some V, none, none, none] = .ok U4) (h4' : maxdD U4 (.int 1) = .ok (.int lo))
    (h5 : c5 [some f, some W, some (.int rows), some V, some (.int lo), none, none] = .ok U5) (h5' : maxdD U5 (.int 1) = .ok (.int hi)) (h6 : SF [some f, some W, some (.int rows), some V, some (.int lo), some (.int hi), none] = .ok (.nx [some f, some W, some (.int rows), some V, some (.int w), x, y])) :
    runB 7 (TLw c3 c4 c5 SF) [f, W, .int rows] = .ok (.int w) := by
  simp only [TLw, runB, sSeq, sSet, sRet, eVar, eC, eBin, R.ok_bind, List.map_cons, List.map_nil, List.length_cons, List.length_nil, List.replicate_succ, List.replicate_zero, List.cons_append, List.nil_append, List.getElem?_cons_zero, List.getElem?_cons_succ, List.set_cons_zero, List.set_cons_succ, Nat.reduceAdd, Nat.reduceSub, Nat.zero_add, h3, h4, h4', h5, h5', h6]
theorem c3_ok (hw : ∀ x : Str, x.length <= 16777216 -> F_wide [f, .str x] = .ok (.int (wd wc x))) (ok : CellsOk cs) (rows : Int) : C3 [some f, some (.lst (cs.map cellD)), some (.int rows), none, none, none, none] = .ok (.lst (cs.map (cellI wc))) /\ C3 [some f, some (.lst (cs.map cellT)), some (.int rows), none, none, none, none] = .ok (.lst (cs.map (cellI wc))) := by
  have hlen : (cs.map (cellI wc)).length <= 16777216 := by rw [List.length_map]; have := ok.1; omega
  have hx : ∀ c ∈ cs, F_word_widths [f, cellD c] = .ok (cellI wc c) /\ F_word_widths [f, cellT c] = .ok (cellI wc c) := fun c hc => widths_ok hw c (fun x hx => by have := ((ok.2 c hc).2 x hx).2; omega) (by have := (ok.2 c hc).1; omega)
  constructor
  · have := compL_enc (enc := cellD) (xs := cs) (o := fun c => some (cellI wc c)) (f := compF (Tgt.one 0).asg (fun _ => .ok true) (eL F_word_widths (aCons (eVar 1) (aCons (eVar 0) aNil))) [none, some f]) fun c hc => by
      have e := (hx c hc).1
      generalize cellD c = cI at *
      simp only [compF, noErr_ok', eVar, eL, aNil, aCons, Tgt.asg, R.ok_bind, List.getElem?_cons_zero, List.getElem?_cons_succ, List.set_cons_zero, if_true, e]
    rw [fm_some] at this
    simp only [C3, ev_eComp, ev_ctN, ev_ctO, ev_ctS, ev_join, eVar, iSeq, asSeq, R.ok_bind, List.getElem?_cons_zero, List.getElem?_cons_succ, this, ev_lstD hlen]
  · have := compL_enc (enc := cellT) (xs := cs) (o := fun c => some (cellI wc c)) (f := compF (Tgt.one 0).asg (fun _ => .ok true) (eL F_word_widths (aCons (eVar 1) (aCons (eVar 0) aNil))) [none, some f]) fun c hc => by
      have e := (hx c hc).2
      generalize cellT c = cI at *
      simp only [compF, noErr_ok', eVar, eL, aNil, aCons, Tgt.asg, R.ok_bind, List.getElem?_cons_zero, List.getElem?_cons_succ, List.set_cons_zero, if_true, e]
    rw [fm_some] at this
    simp only [C3, ev_eComp, ev_ctN, ev_ctO, ev_ctS, ev_join, eVar, iSeq, asSeq, R.ok_bind, List.getElem?_cons_zero, List.getElem?_cons_succ, this, ev_lstD hlen]
theorem c4_ok (ok : CellsOk cs) : ∃ mx : List Str -> Int, (∀ a b c d e, C4 [a, b, c, some (.lst (cs.map (cellI wc))), d, e, none] = .ok (.lst ((cs.map mx).map D.int))) /\ ∀ c, (c = [] -> mx c = 1) /\ (∀ x ∈ c, wd wc x <= mx c) /\ (c ≠ [] -> ∃ x ∈ c, mx c = wd wc x) := by
  have key : ∀ c : List Str, ∃ k, maxdD (cellI wc c) (.int 1) = .ok (.int k) /\ (c = [] -> k = 1) /\ (∀ x ∈ c, wd wc x <= k) /\ (c ≠ [] -> ∃ x ∈ c, k = wd wc x) := fun c => by
    obtain ⟨k, e, h1, h2, h3⟩ := ev_maxd (ns := c.map (wd wc)) (d := 1)
    refine ⟨k, e, fun h => h1 (by rw [h]; rfl), fun x hx => h2 _ (List.mem_map.mpr ⟨x, hx, rfl⟩), fun h => ?_⟩
    obtain ⟨x, hx, ex⟩ := List.mem_map.mp (h3 (by simpa using h))
    exact ⟨x, hx, ex.symm⟩
  refine ⟨fun c => Classical.choose (key c), fun a b c d e => ?_, fun c => (Classical.choose_spec (key c)).2⟩
  have := compL_enc (enc := cellI wc) (xs := cs) (o := fun c => some (.int (Classical.choose (key c)))) (f := compF (Tgt.one 0).asg (fun _ => .ok true) (eBin maxdD (eVar 0) (eC (.int 1))) [none]) fun c hc => by
    have e := (Classical.choose_spec (key c)).1
    generalize Classical.choose (key c) = k at *
    generalize cellI wc c = cI at *
    simp only [compF, noErr_ok', eVar, eC, eBin, Tgt.asg, R.ok_bind, List.getElem?_cons_zero, List.set_cons_zero, if_true, e]
  rw [fm_some] at this
  have hlen : (cs.map fun c => D.int (Classical.choose (key c))).length <= 16777216 := by rw [List.length_map]; have := ok.1; omega
  rw [List.map_map]
  show _ = R.ok (D.lst (cs.map fun c => D.int (Classical.choose (key c))))
  simp only [C4, ev_eComp, ev_ctN, ev_ctO, eVar, iSeq, asSeq, R.ok_bind, List.getElem?_cons_zero, List.getElem?_cons_succ, this, ev_lstD hlen]
theorem c5_ok (ok : CellsOk cs) (h1 : ixD f (.int 1) = .ok (.int bl)) (b c d : Option D) : C5 [some f, b, c, some (.lst (cs.map (cellI wc))), d, none, none] = .ok (.lst ((cs.map fun c => (c.map (wd wc)).sum + bl * (c.length : Int)).map D.int)) := by
  have := compL_enc (enc := cellI wc) (xs := cs) (o := fun c => some (.int ((c.map (wd wc)).sum + bl * (c.length : Int)))) (f := compF (Tgt.one 0).asg (fun _ => .ok true) (eBin addD (eL sumD (aCons (eVar 0) aNil)) (eBin mulD (eBin ixD (eVar 1) (eC (.int 1))) (eL lenD (aCons (eVar 0) aNil)))) [none, some f]) fun c hc => by
    have hl := (ok.2 c hc).1
    have e1 : sumD [cellI wc c] = .ok (.int (c.map (wd wc)).sum) := ev_sum
    have e2 : lenD [cellI wc c] = .ok (.int (c.length : Int)) := by
      show R.ok (D.int ((((c.map (wd wc)).map D.int).length : Nat) : Int)) = _
      rw [List.length_map, List.length_map]
    have e3 : mulD (.int bl) (.int (c.length : Int)) = .ok (.int (bl * (c.length : Int))) := ev_mulR (by omega) (by omega)
    generalize (c.length : Int) = N at *
    generalize (c.map (wd wc)).sum = s at *
    generalize cellI wc c = cI at *
    simp only [compF, noErr_ok', eVar, eC, eBin, eL, aNil, aCons, Tgt.asg, R.ok_bind, List.getElem?_cons_zero, List.getElem?_cons_succ, List.set_cons_zero, ev_add, if_true, e1, e2, h1, e3]
  rw [fm_some] at this
  have hlen : (cs.map fun c => D.int ((c.map (wd wc)).sum + bl * (c.length : Int))).length <= 16777216 := by rw [List.length_map]; have := ok.1; omega
  rw [List.map_map]
  show _ = R.ok (D.lst (cs.map fun c => D.int ((c.map (wd wc)).sum + bl * (c.length : Int))))
  simp only [C5, ev_eComp, ev_ctN, ev_ctO, ev_ctS, ev_join, eVar, iSeq, asSeq, R.ok_bind, List.getElem?_cons_zero, List.getElem?_cons_succ, this, ev_lstD hlen]
theorem fit_all {rows wi : Int} (h : ∀ c ∈ cs, (cn c wi : Int) <= rows) : fitB cn cs rows wi = true := by
  unfold fitB
  rw [List.all_eq_true]
  intro b hb
  obtain ⟨c, hc, rfl⟩ := List.mem_map.mp hb
  exact decide_eq_true (h c hc)
theorem lw_ok (hw : ∀ x : Str, x.length <= 16777216 -> F_wide [f, .str x] = .ok (.int (wd wc x))) (h1 : ixD f (.int 1) = .ok (.int bl)) (hp : ∀ c, 1 <= wc c) (hb : 1 <= bl) (C : Cnt f bl wc cn) (ok : CellsOk cs) (rows : Int) (hr : 1 <= rows) :
    ∃ L w, Lsp wc cs L /\ F_least_width [f, .lst (cs.map cellD), .int rows] = .ok (.int w) /\ F_least_width [f, .lst (cs.map cellT), .int rows] = .ok (.int w) /\ L <= w /\ (w = L \/ fitB cn cs rows (w - 1) = false) /\ fitB cn cs rows w = true := by
  obtain ⟨mx, e4, m4⟩ := c4_ok (wc := wc) ok
  obtain ⟨L, eL, l1, l2, l3⟩ := ev_maxd (ns := cs.map mx) (d := 1)
  obtain ⟨M, eM, n1, n2, n3⟩ := ev_maxd (ns := cs.map fun c => (c.map (wd wc)).sum + bl * (c.length : Int)) (d := 1)
  have hL : Lsp wc cs L := by
    refine ⟨?_, fun c hc x hx => ?_, ?_⟩
    · by_cases hz : cs = []
      · rw [l1 (by rw [hz]; rfl)]; decide
      · obtain ⟨c, hc, e⟩ := List.mem_map.mp (l3 (by simpa using hz))
        by_cases hz2 : c = []
        · rw [<- e, (m4 c).1 hz2]; decide
        · obtain ⟨x, hx, ex⟩ := (m4 c).2.2 hz2
          rw [<- e, ex]
          exact wd_pos hp ((ok.2 c hc).2 x hx).1
    · have a := l2 _ (List.mem_map.mpr ⟨c, hc, rfl⟩)
      have b := (m4 c).2.1 x hx
      omega
    · by_cases hz : cs = []
      · exact .inl (l1 (by rw [hz]; rfl))
      · obtain ⟨c, hc, e⟩ := List.mem_map.mp (l3 (by simpa using hz))
        by_cases hz2 : c = []
        · exact .inl (by rw [<- e, (m4 c).1 hz2])
        · obtain ⟨x, hx, ex⟩ := (m4 c).2.2 hz2
          exact .inr ⟨c, hc, x, hx, by rw [<- e, ex]⟩
  have fM : L <= M -> fitB cn cs rows M = true := fun _ => fit_all fun c hc => by
    have a := n2 _ (List.mem_map.mpr ⟨c, hc, rfl⟩)
    have b := C.one c M (ok.2 c hc).1 (ok.2 c hc).2 a
    omega
  have fL : M < L -> fitB cn cs rows L = true := fun hlt => fit_all fun c hc => by
    by_cases hz : c = []
    · rw [hz, C.zero]; omega
    · exfalso
      have a := n2 _ (List.mem_map.mpr ⟨c, hc, rfl⟩)
      have cl : (1 : Int) <= (c.length : Int) := by
        have : 0 < c.length := List.length_pos_iff.mpr hz
        omega
      have s0 : ∀ (xs : List Str), (∀ x ∈ xs, 1 <= x.length) -> 0 <= (xs.map (wd wc)).sum := by
        intro xs
        induction xs with
        | nil => intro _; simp
        | cons x xs ih =>
          intro h
          have := ih fun y hy => h y (List.mem_cons_of_mem _ hy)
          have := wd_pos hp (h x List.mem_cons_self)
          rw [List.map_cons, List.sum_cons]
          omega
      have sx : ∀ (xs : List Str), (∀ x ∈ xs, 1 <= x.length) -> ∀ x ∈ xs, wd wc x <= (xs.map (wd wc)).sum := by
        intro xs
        induction xs with
        | nil => intro _ x hx; cases hx
        | cons y xs ih =>
          intro h x hx
          have i0 := s0 xs fun y hy => h y (List.mem_cons_of_mem _ hy)
          have i1 := wd_pos hp (h y List.mem_cons_self)
          rw [List.map_cons, List.sum_cons]
          rcases List.mem_cons.mp hx with z | z
          · rw [z]; omega
          · have := ih (fun y hy => h y (List.mem_cons_of_mem _ hy)) x z
            omega
      have bm : 0 <= bl * (c.length : Int) := Int.mul_nonneg (by omega) (by omega)
      have b1 : 1 <= bl * (c.length : Int) := by
        have := Int.mul_le_mul (a := 1) (b := 1) (c := bl) (d := (c.length : Int)) hb cl (by decide) (by omega)
        omega
      have sc := s0 c fun x hx => ((ok.2 c hc).2 x hx).1
      rcases hL.2.2 with z | ⟨c', hc', x, hx, z⟩
      · omega
      · have a' := n2 _ (List.mem_map.mpr ⟨c', hc', rfl⟩)
        have b' := sx c' (fun x hx => ((ok.2 c' hc').2 x hx).1) x hx
        have bm' : 0 <= bl * (c'.length : Int) := Int.mul_nonneg (by omega) (by omega)
        omega
  obtain ⟨w1, w2, w3⟩ := bs_spec (fitB cn cs rows) L (M - L).toNat L M (Nat.le_refl _) (Int.le_refl _) (.inl rfl) fM fL
  obtain ⟨c3a, c3b⟩ := c3_ok hw ok rows
  have hT : F_least_width = runB 7 (TLw C3 C4 C5 (sWhile kB (bB GB))) := rfl
  refine ⟨L, bs (fitB cn cs rows) (M - L).toNat L M, hL, ?_, ?_, w1, w2, w3⟩
  · obtain ⟨hi', y', e⟩ := wB_ok (f := f) (bl := bl) (.lst (cs.map cellD)) (.lst (cs.map (cellI wc))) rows (fitB cn cs rows) h1 (fun mid => gi_ok C ok rows mid) (M - L).toNat L M none (Nat.le_refl _)
    rw [hT]
    exact lw_seq C3 C4 C5 _ _ _ _ _ rows L M _ _ _ c3a (e4 _ _ _ _ _) eL (c5_ok ok h1 _ _ _) eM (sWhile_of e (by simp))
  · obtain ⟨hi', y', e⟩ := wB_ok (f := f) (bl := bl) (.lst (cs.map cellT)) (.lst (cs.map (cellI wc))) rows (fitB cn cs rows) h1 (fun mid => gi_ok C ok rows mid) (M - L).toNat L M none (Nat.le_refl _)
    rw [hT]
    exact lw_seq C3 C4 C5 _ _ _ _ _ rows L M _ _ _ c3b (e4 _ _ _ _ _) eL (c5_ok ok h1 _ _ _) eM (sWhile_of e (by simp))
end
end K17

set_option maxRecDepth 100000
set_option maxHeartbeats 4000000
namespace K17
open PySem PyProof.Rows L2
noncomputable def rowT (r : List (List Str)) : D := .tup (r.map cellT)
noncomputable def tabT (tb : List (List (List Str))) : D := .tup (tb.map rowT)
structure Tb (tb : List (List (List Str))) (m : Nat) : Prop where
  n1 : 1 <= tb.length
  n2 : tb.length <= 10
  m1 : 1 <= m
  m2 : m <= 10
  row : ∀ r ∈ tb, r.length = m
  ok : ∀ r ∈ tb, ∀ c ∈ r, c.length <= 12 /\ ∀ x ∈ c, 1 <= x.length /\ x.length <= 40
noncomputable def col (tb : List (List (List Str))) (k : Nat) : List (List Str) := tb.map fun r => r.getD k []
section
variable {tb : List (List (List Str))} {m : Nat}
theorem ev_ixt {ds : List D} {i : Int} {d : D} (h : atI ds i = some d) : ixD (.tup ds) (.int i) = .ok d := by simp only [ixD, h]
theorem ix_row (r : List (List Str)) (k : Nat) (h : k < r.length) : ixD (rowT r) (.int (k : Int)) = .ok (cellT (r.getD k [])) := by
  have e : atI (r.map cellT) (k : Int) = some (cellT (r.getD k [])) := atI_nat (by rw [List.getElem?_map, List.getElem?_eq_getElem h, List.getD_eq_getElem?_getD, List.getElem?_eq_getElem h]; rfl)
  unfold rowT
  exact ev_ixt e
theorem imm_cell (c : List Str) : immD (cellT c) = .ok (cellT c) := if_pos (show D.imms (c.map D.str) = true from imms_map (fun _ => rfl) c)
theorem len_tab : lenD [rowT (tb.getD 0 [])] = .ok (.int ((tb.getD 0 []).length : Int)) := by
  show R.ok (D.int (((tb.getD 0 []).map cellT).length : Int)) = _
  rw [List.length_map]
theorem get0 (T : Tb tb m) : (tb.getD 0 []) ∈ tb /\ (tb.getD 0 []).length = m /\ ixD (tabT tb) (.int 0) = .ok (rowT (tb.getD 0 [])) := by
  have h := T.n1
  have e : tb.getD 0 [] = tb[0] := by rw [List.getD_eq_getElem?_getD, List.getElem?_eq_getElem h]; rfl
  have hm : tb.getD 0 [] ∈ tb := by rw [e]; exact List.getElem_mem _
  refine ⟨hm, T.row _ hm, ?_⟩
  have : atI (tb.map rowT) ((0 : Nat) : Int) = some (rowT (tb.getD 0 [])) := atI_nat (by rw [List.getElem?_map, List.getElem?_eq_getElem h, e]; rfl)
  unfold tabT
  exact ev_ixt this
noncomputable def I1 : Tn -> R D := (eComp [none, some 0] (iSeq (eVar 1)) (.one 0) (fun _ => .ok true) (eImm (eBin ixD (eVar 0) (eVar 1))))
theorem i1_ok (T : Tb tb m) (k : Nat) (hk : k < m) : I1 [some (.int (k : Int)), some (tabT tb)] = .ok (.lst ((col tb k).map cellT)) := by
  have hc := compL_enc (enc := rowT) (xs := tb) (o := fun r => some (cellT (r.getD k []))) (f := compF (Tgt.one 0).asg (fun _ => .ok true) (eImm (eBin ixD (eVar 0) (eVar 1))) [none, some (.int (k : Int))]) fun r hr => by
    have e1 := ix_row r k (by rw [T.row r hr]; exact hk)
    have e2 := imm_cell (r.getD k [])
    generalize cellT (r.getD k []) = q at *
    generalize rowT r = w at *
    generalize (k : Int) = K at *
    simp only [compF, noErr_ok', ev_eImm, eVar, eBin, Tgt.asg, R.ok_bind, List.getElem?_cons_zero, List.getElem?_cons_succ, List.set_cons_zero, if_true, e1, e2]
  rw [fm_some] at hc
  have hl : (tb.map fun r => cellT (r.getD k [])).length <= 16777216 := by rw [List.length_map]; have := T.n2; omega
  have hd := ev_lstD hl
  have ha : asSeq (tabT tb) = .ok (tb.map rowT) := rfl
  unfold col
  rw [List.map_map]
  show _ = R.ok (D.lst (tb.map fun r => cellT (r.getD k [])))
  unfold I1
  rw [ev_eComp]
  show ((R.ok (tb.map rowT)).bind _) = _
  rw [R.ok_bind]
  show (compL (compF (Tgt.one 0).asg (fun _ => .ok true) (eImm (eBin ixD (eVar 0) (eVar 1))) [none, some (.int (k : Int))]) (tb.map rowT)).bind lstD = _
  rw [hc, R.ok_bind, hd]
noncomputable def I2 : Tn -> R D := (eComp [none, some 0] (iSeq (eVar 3)) (.one 0) (fun _ => .ok true) (eBin ixD (eVar 0) (eVar 1)))
theorem i2_ok (T : Tb tb m) (k : Nat) (hk : k < m) (a b : Option D) : I2 [some (.int (k : Int)), a, b, some (tabT tb)] = .ok (.lst ((col tb k).map cellT)) := by
  have hc := compL_enc (enc := rowT) (xs := tb) (o := fun r => some (cellT (r.getD k []))) (f := compF (Tgt.one 0).asg (fun _ => .ok true) (eBin ixD (eVar 0) (eVar 1)) [none, some (.int (k : Int))]) fun r hr => by
    have e1 := ix_row r k (by rw [T.row r hr]; exact hk)
    generalize cellT (r.getD k []) = q at *
    generalize rowT r = w at *
    generalize (k : Int) = K at *
    simp only [compF, noErr_ok', eVar, eBin, Tgt.asg, R.ok_bind, List.getElem?_cons_zero, List.getElem?_cons_succ, List.set_cons_zero, if_true, e1]
  rw [fm_some] at hc
  have hl : (tb.map fun r => cellT (r.getD k [])).length <= 16777216 := by rw [List.length_map]; have := T.n2; omega
  have hd := ev_lstD hl
  have ha : asSeq (tabT tb) = .ok (tb.map rowT) := rfl
  unfold col
  rw [List.map_map]
  show _ = R.ok (D.lst (tb.map fun r => cellT (r.getD k [])))
  unfold I2
  rw [ev_eComp]
  show ((R.ok (tb.map rowT)).bind _) = _
  rw [R.ok_bind]
  show (compL (compF (Tgt.one 0).asg (fun _ => .ok true) (eBin ixD (eVar 0) (eVar 1)) [none, some (.int (k : Int))]) (tb.map rowT)).bind lstD = _
  rw [hc, R.ok_bind, hd]
theorem rng_m (T : Tb tb m) : rng1 [.int (m : Int)] = .ok (rng 0 m) := (ev_rng1 (by omega) (by have := T.m2; omega)).trans (by rw [Int.toNat_natCast])
noncomputable def colsD (tb : List (List (List Str))) (m : Nat) : D := .lst ((List.range m).map fun k => .lst ((col tb k).map cellT))
theorem cc_ok (T : Tb tb m) : F_column_cells [tabT tb] = .ok (colsD tb m) := by
  obtain ⟨_, g2, g3⟩ := get0 T
  have hl := len_tab (tb := tb)
  rw [g2] at hl
  have hr := rng_m T
  have hc := compL_rng (f := compF (Tgt.one 0).asg (fun _ => .ok true) I1 [none, some (tabT tb)]) (o := fun k => some (.lst ((col tb k).map cellT))) (lo := 0) (n := m) fun k hk => by
    have e := i1_ok T k hk
    have ez : (0 : Int) + (k : Int) = (k : Int) := Int.zero_add _
    rw [ez]
    generalize D.lst ((col tb k).map cellT) = q at *
    generalize tabT tb = TT at *
    generalize (k : Int) = K at *
    simp -implicitDefEqProofs only [compF, noErr_ok', Tgt.asg, R.ok_bind, List.set_cons_zero, if_true, e]
  rw [fm_some] at hc
  have hlen : ((List.range m).map fun k => D.lst ((col tb k).map cellT)).length <= 16777216 := by rw [List.length_map, List.length_range]; have := T.m2; omega
  have hd := ev_lstD hlen
  have hT : F_column_cells = runB 1 (sRet (eComp [none, some 0] (iL rng1 (aCons (eL lenD (aCons (eBin ixD (eVar 0) (eC (.int 0))) aNil)) aNil)) (.one 0) (fun _ => .ok true) I1)) := rfl
  rw [hT]
  unfold colsD
  generalize ((List.range m).map fun k => D.lst ((col tb k).map cellT)) = Y at *
  generalize rowT (tb.getD 0 []) = R0 at *
  generalize tabT tb = TT at *
  simp -implicitDefEqProofs only [ev_eComp, ev_ctN, ev_ctO, ev_ctS, ev_join, runB, sRet, eVar, eC, eBin, eL, aNil, aCons, iL, R.ok_bind, List.map_cons, List.map_nil, List.length_cons, List.length_nil, List.replicate_zero, List.cons_append, List.nil_append, List.getElem?_cons_zero, Nat.reduceSub, Nat.zero_add, g3, hl, hr, hc, hd]
structure LW (f : D) (tb : List (List (List Str))) (m : Nat) (bl : Int) (w : Int -> Nat -> Int) : Prop where
  e : ∀ r k, 1 <= r -> k < m -> F_least_width [f, .lst ((col tb k).map cellT), .int r] = .ok (.int (w r k))
  b : ixD f (.int 1) = .ok (.int bl)
noncomputable def wds (w : Int -> Nat -> Int) (m : Nat) (r : Int) : List Int := (List.range m).map (w r)
variable {f : D} {bl : Int} {w : Int -> Nat -> Int}
theorem law_wds (T : Tb tb m) (Lw : LW f tb m bl w) (r : Int) (hr1 : 1 <= r) : F__law_widths [f, tabT tb, .int r] = .ok (.lst ((wds w m r).map D.int)) := by
  obtain ⟨_, g2, g3⟩ := get0 T
  have hl := len_tab (tb := tb)
  rw [g2] at hl
  have hr := rng_m T
  have hc := compL_rng (f := compF (Tgt.one 0).asg (fun _ => .ok true) (eL F_least_width (aCons (eVar 1) (aCons I2 (aCons (eVar 2) aNil)))) [none, some f, some (.int r), some (tabT tb)]) (o := fun k => some (.int (w r k))) (lo := 0) (n := m) fun k hk => by
    have e := i2_ok T k hk (some f) (some (.int r))
    have e2 := Lw.e r k hr1 hk
    have ez : (0 : Int) + (k : Int) = (k : Int) := Int.zero_add _
    rw [ez]
    generalize D.lst ((col tb k).map cellT) = q at *
    generalize tabT tb = TT at *
    generalize (k : Int) = K at *
    simp -implicitDefEqProofs only [compF, noErr_ok', eVar, eL, aNil, aCons, Tgt.asg, R.ok_bind, List.getElem?_cons_zero, List.getElem?_cons_succ, List.set_cons_zero, if_true, e, e2]
  rw [fm_some] at hc
  have hlen : ((List.range m).map fun k => D.int (w r k)).length <= 16777216 := by rw [List.length_map, List.length_range]; have := T.m2; omega
  have hd := ev_lstD hlen
  have hT : F__law_widths = runB 3 (sRet (eComp [none, some 0, some 2, some 1] (iL rng1 (aCons (eL lenD (aCons (eBin ixD (eVar 1) (eC (.int 0))) aNil)) aNil)) (.one 0) (fun _ => .ok true) (eL F_least_width (aCons (eVar 1) (aCons I2 (aCons (eVar 2) aNil)))))) := rfl
  rw [hT]
  unfold wds
  rw [List.map_map]
  show _ = R.ok (D.lst ((List.range m).map fun k => D.int (w r k)))
  generalize ((List.range m).map fun k => D.int (w r k)) = Y at *
  generalize rowT (tb.getD 0 []) = R0 at *
  generalize tabT tb = TT at *
  simp -implicitDefEqProofs only [ev_eComp, ev_ctN, ev_ctO, ev_ctS, ev_join, runB, sRet, eVar, eC, eBin, eL, aNil, aCons, iL, R.ok_bind, List.map_cons, List.map_nil, List.length_cons, List.length_nil, List.replicate_zero, List.cons_append, List.nil_append, List.getElem?_cons_zero, List.getElem?_cons_succ, Nat.reduceAdd, Nat.reduceSub, Nat.zero_add, g3, hl, hr, hc, hd]
noncomputable def br (w : Int -> Nat -> Int) (m : Nat) (bl r : Int) : Int := (wds w m r).sum + 2 * bl * ((m : Int) - 1)
theorem wds_len (r : Int) : (wds w m r).length = m := by unfold wds; rw [List.length_map, List.length_range]
theorem breadth (T : Tb tb m) (Lw : LW f tb m bl w) (r : Int) (hr1 : 1 <= r) : F__law_breadth [f, tabT tb, .int r] = .ok (.int (br w m bl r)) := by
  have h1 := law_wds T Lw r hr1
  have h2 := ev_sum (ns := wds w m r)
  have h3 : lenD [.lst ((wds w m r).map D.int)] = .ok (.int (m : Int)) := by rw [ev_lenl, List.length_map, wds_len]
  have h4 := Lw.b
  have m1 : mulD (.int 2) (.int bl) = .ok (.int (2 * bl)) := ev_mulL (by decide) (by decide)
  have m2 : mulD (.int (2 * bl)) (.int ((m : Int) - 1)) = .ok (.int (2 * bl * ((m : Int) - 1))) := ev_mulR (by have := T.m2; omega) (by have := T.m2; omega)
  unfold br
  generalize D.lst ((wds w m r).map D.int) = Y at *
  generalize tabT tb = TT at *
  generalize (m : Int) = M at *
  simp only [F__law_breadth, t__law_breadth, runB, sSeq, sSet, sRet, eVar, eC, eBin, eL, aNil, aCons, R.ok_bind, List.map_cons, List.map_nil, List.length_cons, List.length_nil, List.replicate_succ, List.replicate_zero, List.cons_append, List.nil_append, List.getElem?_cons_zero, List.getElem?_cons_succ, List.set_cons_zero, List.set_cons_succ, Nat.reduceAdd, Nat.reduceSub, Nat.zero_add, ev_add, ev_sub, h1, h2, h3, h4, m1, m2]
noncomputable def R3 : Tn -> R D := (eComp [none] (iSeq (eVar 0)) (.one 0) (fun _ => .ok true) (eL lenD (aCons (eVar 0) aNil)))
theorem row_max (r : List (List Str)) (hr : 1 <= r.length) (hl : r.length <= 10) (hb : ∀ c ∈ r, c.length <= 12) : ∃ v : Int, v <= 12 /\ (eL maxLD (aCons R3 aNil)) [some (rowT r)] = .ok (.int v) := by
  have hc := compL_enc (enc := cellT) (xs := r) (o := fun c => some (.int (c.length : Int))) (f := compF (Tgt.one 0).asg (fun _ => .ok true) (eL lenD (aCons (eVar 0) aNil)) [none]) fun c hc => by
    have e1 : lenD [cellT c] = .ok (.int (c.length : Int)) := by
      show R.ok (D.int ((c.map D.str).length : Int)) = _
      rw [List.length_map]
    generalize cellT c = q at *
    generalize (c.length : Int) = N at *
    simp only [compF, noErr_ok', eVar, eL, aNil, aCons, Tgt.asg, R.ok_bind, List.getElem?_cons_zero, List.set_cons_zero, if_true, e1]
  rw [fm_some] at hc
  have hlen : (r.map fun c => D.int (c.length : Int)).length <= 16777216 := by rw [List.length_map]; omega
  have hd := ev_lstD hlen
  have ha : asSeq (rowT r) = .ok (r.map cellT) := rfl
  cases r with
  | nil => simp at hr
  | cons c0 cs =>
    obtain ⟨v, hv, _, hmem⟩ := ev_maxL (c0.length : Int) (cs.map fun c => (c.length : Int))
    have hv12 : v <= 12 := by
      rcases List.mem_cons.mp hmem with z | z
      · have := hb c0 List.mem_cons_self; omega
      · obtain ⟨c, hc', rfl⟩ := List.mem_map.mp z
        have := hb c (List.mem_cons_of_mem _ hc'); omega
    have hv : maxLD [.lst ((c0 :: cs).map fun c => D.int (c.length : Int))] = .ok (.int v) := by
      have e : ((c0.length : Int) :: cs.map fun c => (c.length : Int)).map D.int = (c0 :: cs).map fun c => D.int (c.length : Int) := by
        rw [List.map_cons, List.map_cons, List.map_map]
        rfl
      rw [e] at hv
      exact hv
    refine ⟨v, hv12, ?_⟩
    have hR : R3 [some (rowT (c0 :: cs))] = .ok (.lst ((c0 :: cs).map fun c => D.int (c.length : Int))) := by
      unfold R3
      rw [ev_eComp]
      show ((R.ok ((c0 :: cs).map cellT)).bind _) = _
      rw [R.ok_bind]
      show (compL (compF (Tgt.one 0).asg (fun _ => .ok true) (eL lenD (aCons (eVar 0) aNil)) [none]) ((c0 :: cs).map cellT)).bind lstD = _
      rw [hc, R.ok_bind, hd]
    unfold eL aCons aNil
    rw [hR, R.ok_bind, R.ok_bind, R.ok_bind]
    exact hv
theorem rows_max (T : Tb tb m) : ∃ vs : List Int, vs.length = tb.length /\ (∀ v ∈ vs, v <= 12) /\ ∀ a b c, eComp [none] (iSeq (eVar 0)) (.one 0) (fun _ => .ok true) (eL maxLD (aCons R3 aNil)) (some (tabT tb) :: a) = .ok (.lst (vs.map D.int)) /\ eComp [none] (iSeq (eVar 1)) (.one 0) (fun _ => .ok true) (eL maxLD (aCons R3 aNil)) (b :: some (tabT tb) :: c) = .ok (.lst (vs.map D.int)) := by
  have key : ∀ r : List (List Str), ∃ v : Int, r ∈ tb -> v <= 12 /\ (eL maxLD (aCons R3 aNil)) [some (rowT r)] = .ok (.int v) := fun r => by
    by_cases hr : r ∈ tb
    · obtain ⟨v, hv⟩ := row_max r (by rw [T.row r hr]; exact T.m1) (by rw [T.row r hr]; exact T.m2) (fun c hc => (T.ok r hr c hc).1)
      exact ⟨v, fun _ => hv⟩
    · exact ⟨0, fun z => absurd z hr⟩
  have hc := compL_enc (enc := rowT) (xs := tb) (o := fun r => some (.int (Classical.choose (key r)))) (f := compF (Tgt.one 0).asg (fun _ => .ok true) (eL maxLD (aCons R3 aNil)) [none]) fun r hr => by
    have e1 := (Classical.choose_spec (key r) hr).2
    generalize Classical.choose (key r) = v at *
    show noErr ((R.ok [some (rowT r)]).bind _) = _
    rw [R.ok_bind, R.ok_bind, if_pos rfl, e1]
    rfl
  rw [fm_some] at hc
  have hlen : (tb.map fun r => D.int (Classical.choose (key r))).length <= 16777216 := by rw [List.length_map]; have := T.n2; omega
  refine ⟨tb.map fun r => Classical.choose (key r), List.length_map _, fun v hv => ?_, fun a b c => ?_⟩
  · obtain ⟨r, hr, rfl⟩ := List.mem_map.mp hv
    exact (Classical.choose_spec (key r) hr).1
  rw [List.map_map]
  have e0 : (fun τ : Tn => eVar 0 τ) = eVar 0 := rfl
  constructor
  · rw [ev_eComp]
    show ((R.ok (tb.map rowT)).bind _) = _
    rw [R.ok_bind]
    show (compL (compF (Tgt.one 0).asg (fun _ => .ok true) (eL maxLD (aCons R3 aNil)) [none]) (tb.map rowT)).bind lstD = _
    rw [hc, R.ok_bind, ev_lstD hlen]
    rfl
  · rw [ev_eComp]
    show ((R.ok (tb.map rowT)).bind _) = _
    rw [R.ok_bind]
    show (compL (compF (Tgt.one 0).asg (fun _ => .ok true) (eL maxLD (aCons R3 aNil)) [none]) (tb.map rowT)).bind lstD = _
    rw [hc, R.ok_bind, ev_lstD hlen]
    rfl
end
end K17

set_option maxRecDepth 100000
set_option maxHeartbeats 4000000
namespace K17
open PySem PyProof.Rows L2
section
variable {tb : List (List (List Str))} {m : Nat} {f : D} {bl : Int} {w : Int -> Nat -> Int}
noncomputable def MO : Tn -> R D := (eL maxLD (aCons (eBin addD (eL (fun ds => .ok (.lst ds)) (aCons (eC (.int 1)) aNil)) (eComp [none] (iSeq (eVar 1)) (.one 0) (fun _ => .ok true) (eL maxLD (aCons (eComp [none] (iSeq (eVar 0)) (.one 0) (fun _ => .ok true) (eL lenD (aCons (eVar 0) aNil))) aNil)))) aNil))
theorem most (T : Tb tb m) : ∃ ml mo : Int, F_most_lines [tabT tb] = .ok (.int ml) /\ max2D [.int 1, .int ml] = .ok (.int mo) /\ (∀ a c, MO (a :: some (tabT tb) :: c) = .ok (.int mo)) /\ 1 <= mo /\ mo <= 12 := by
  obtain ⟨vs, hl, hb, hc⟩ := rows_max T
  cases vs with
  | nil => have := T.n1; rw [<- hl] at this; simp at this
  | cons v vs =>
    obtain ⟨ml, e1, l1, l2⟩ := ev_maxL v vs
    obtain ⟨mo, e2, o1, o2⟩ := ev_maxL 1 (v :: vs)
    have hmo : mo = if ml > 1 then ml else 1 := by
      have h1 := o1 1 List.mem_cons_self
      have h2 := o1 ml (List.mem_cons_of_mem _ l2)
      rcases List.mem_cons.mp o2 with z | z
      · split <;> omega
      · have := l1 mo z
        split <;> omega
    refine ⟨ml, mo, ?_, ?_, fun a c => ?_, o1 1 List.mem_cons_self, ?_⟩
    · have h0 := (hc [] none []).1
      have hT : F_most_lines = runB 1 (sRet (eL maxLD (aCons (eComp [none] (iSeq (eVar 0)) (.one 0) (fun _ => .ok true) (eL maxLD (aCons R3 aNil))) aNil))) := rfl
      rw [hT]
      unfold runB sRet eL aCons aNil
      show (match (((eComp [none] (iSeq (eVar 0)) (.one 0) (fun _ => .ok true) (eL maxLD (aCons R3 aNil)) [some (tabT tb)]).bind fun x => (R.ok []).bind fun xs => .ok (x :: xs)).bind maxLD).bind fun d => R.ok (Fl.rt d) with
        | .ok (.rt d) => R.ok d
        | .ok (.nx _) => R.ok .non
        | .err c => .err c
        | _ => .bad) = _
      rw [h0, R.ok_bind, R.ok_bind, R.ok_bind, e1, R.ok_bind]
    · rw [hmo]; rfl
    · have h0 := (hc [] a c).2
      have ha : addD (.lst [.int 1]) (.lst ((v :: vs).map D.int)) = .ok (.lst ((1 :: v :: vs).map D.int)) := by
        refine if_pos ⟨rfl, imms_map (fun _ => rfl) _, ?_⟩
        rw [List.length_map, sizeLine_eq]
        have := T.n2
        rw [<- hl] at this
        show 1 + (v :: vs).length <= 16777216
        omega
      show ((((R.ok (D.lst [.int 1])).bind fun x => (eComp [none] (iSeq (eVar 1)) (.one 0) (fun _ => .ok true) (eL maxLD (aCons R3 aNil)) (a :: some (tabT tb) :: c)).bind fun y => addD x y).bind fun x => (R.ok []).bind fun xs => .ok (x :: xs)).bind maxLD) = _
      rw [h0, R.ok_bind, R.ok_bind, ha, R.ok_bind, R.ok_bind, R.ok_bind, e2]
    · rcases List.mem_cons.mp o2 with z | z
      · omega
      · exact hb mo z
noncomputable def CV : Tn -> R D := (eComp [none, some 0, some 5] (iSeq (eVar 3)) (.one 0) (fun _ => .ok true) (eL F_least_width (aCons (eVar 1) (aCons (eVar 0) (aCons (eVar 2) aNil)))))
theorem cw2_ok (T : Tb tb m) (Lw : LW f tb m bl w) (l : Int) (hl : 1 <= l) (a b c d : Option D) : CV [some f, a, b, some (colsD tb m), c, some (.int l), d] = .ok (.lst ((wds w m l).map D.int)) := by
  have hc := compL_enc (enc := fun k => D.lst ((col tb k).map cellT)) (xs := List.range m) (o := fun k => some (.int (w l k))) (f := compF (Tgt.one 0).asg (fun _ => .ok true) (eL F_least_width (aCons (eVar 1) (aCons (eVar 0) (aCons (eVar 2) aNil)))) [none, some f, some (.int l)]) fun k hk => by
    have e2 := Lw.e l k hl (List.mem_range.mp hk)
    generalize D.lst ((col tb k).map cellT) = q at *
    simp only [compF, noErr_ok', eVar, eL, aNil, aCons, Tgt.asg, R.ok_bind, List.getElem?_cons_zero, List.getElem?_cons_succ, List.set_cons_zero, if_true, e2]
  rw [fm_some] at hc
  have hlen : ((List.range m).map fun k => D.int (w l k)).length <= 16777216 := by rw [List.length_map, List.length_range]; have := T.m2; omega
  unfold wds
  rw [List.map_map]
  unfold CV
  rw [ev_eComp]
  show ((R.ok ((List.range m).map fun k => D.lst ((col tb k).map cellT))).bind _) = _
  rw [R.ok_bind]
  show (compL (compF (Tgt.one 0).asg (fun _ => .ok true) (eL F_least_width (aCons (eVar 1) (aCons (eVar 0) (aCons (eVar 2) aNil)))) [none, some f, some (.int l)]) ((List.range m).map fun k => D.lst ((col tb k).map cellT))).bind lstD = _
  rw [hc, R.ok_bind, ev_lstD hlen]
  rfl
noncomputable def bC (CW : Tn -> R D) : Tn -> R Fl := (sSeq (sSet 6 CW) (sIf (eTest (eBin leD (eL sumD (aCons (eVar 6) aNil)) (eVar 4))) (sRet (eL (fun ds => .ok (.tup ds)) (aCons (eImm (eVar 5)) (aCons (eVar 6) aNil)))) sSkip))
theorem bC_ok (CW : Tn -> R D) (a b c d y : Option D) (l free : Int) (ns : List Int) (h : CW [a, b, c, d, some (.int free), some (.int l), y] = .ok (.lst (ns.map D.int))) : bC CW [a, b, c, d, some (.int free), some (.int l), y] = .ok (if ns.sum <= free then .rt (.tup [.int l, .lst (ns.map D.int)]) else .nx [a, b, c, d, some (.int free), some (.int l), some (.lst (ns.map D.int))]) := by
  have hs := ev_sum (ns := ns)
  generalize D.lst (ns.map D.int) = Y at *
  by_cases p : ns.sum <= free
  · have d1 : decide (ns.sum <= free) = true := decide_eq_true p
    rw [if_pos p]
    simp only [bC, ev_eImm, ev_immI, sSkip, sSeq, sSet, sRet, sIf, eVar, eBin, eL, aNil, aCons, eTest, asB, R.ok_bind, List.getElem?_cons_zero, List.getElem?_cons_succ, List.set_cons_zero, List.set_cons_succ, ev_le, if_true, h, hs, d1]
  · have d1 : decide (ns.sum <= free) = false := decide_eq_false p
    rw [if_neg p]
    simp only [bC, ev_eImm, ev_immI, sSkip, sSeq, sSet, sRet, sIf, eVar, eBin, eL, aNil, aCons, eTest, asB, R.ok_bind, List.getElem?_cons_zero, List.getElem?_cons_succ, List.set_cons_zero, List.set_cons_succ, ev_le, if_false, Bool.false_eq_true, h, hs, d1]
theorem rng_cons (lo : Int) (n : Nat) : rng lo (n + 1) = .int lo :: rng (lo + 1) n := by
  unfold rng
  rw [List.range_succ_eq_map, List.map_cons, List.map_map]
  congr 1
  · show D.int (lo + ((0 : Nat) : Int)) = _
    congr 1
    omega
  · refine List.map_congr_left fun i _ => ?_
    show D.int (lo + ((i + 1 : Nat) : Int)) = D.int (lo + 1 + (i : Int))
    congr 1
    push_cast
    omega
theorem lC (T : Tb tb m) (Lw : LW f tb m bl w) (a b : Option D) (free : Int) : ∀ (n : Nat) (l0 : Int) (x y : Option D), 1 <= l0 ->
    (∃ l, l0 <= l /\ l < l0 + n /\ (wds w m l).sum <= free /\ (∀ j, l0 <= j -> j < l -> free < (wds w m j).sum) /\ forGo (Tgt.one 5).asg (bC CV) (rng l0 n) [some f, a, b, some (colsD tb m), some (.int free), x, y] = .ok (.rt (.tup [.int l, .lst ((wds w m l).map D.int)]))) \/
    ((∀ j, l0 <= j -> j < l0 + n -> free < (wds w m j).sum) /\ ∃ x' y', forGo (Tgt.one 5).asg (bC CV) (rng l0 n) [some f, a, b, some (colsD tb m), some (.int free), x, y] = .ok (.nx [some f, a, b, some (colsD tb m), some (.int free), x', y']))
  | 0, l0, x, y, _ => .inr ⟨fun j h1 h2 => by omega, x, y, rfl⟩
  | n + 1, l0, x, y, h1 => by
    have hb := bC_ok CV (some f) a b (some (colsD tb m)) y l0 free (wds w m l0) (cw2_ok T Lw l0 h1 a b (some (.int free)) y)
    have ea : (Tgt.one 5).asg (.int l0) [some f, a, b, some (colsD tb m), some (.int free), x, y] = .ok [some f, a, b, some (colsD tb m), some (.int free), some (.int l0), y] := rfl
    rw [rng_cons, ev_forC, ea, R.ok_bind, hb, R.ok_bind]
    by_cases p : (wds w m l0).sum <= free
    · left
      refine ⟨l0, by omega, by omega, p, fun j g1 g2 => by omega, ?_⟩
      rw [if_pos p, ev_goR]
    · rw [if_neg p, ev_goN]
      rcases lC T Lw a b free n (l0 + 1) (some (.int l0)) (some (.lst ((wds w m l0).map D.int))) (by omega) with ⟨l, g1, g2, g3, g4, g5⟩ | ⟨g1, g2⟩
      · left
        refine ⟨l, by omega, by push_cast; omega, g3, fun j q1 q2 => ?_, g5⟩
        by_cases hj : j = l0
        · rw [hj]; omega
        · exact g4 j (by omega) q2
      · right
        refine ⟨fun j q1 q2 => ?_, g2⟩
        by_cases hj : j = l0
        · rw [hj]; omega
        · exact g1 j (by omega) (by push_cast at q2; omega)
noncomputable def TCo (SF : Tn -> R Fl) : Tn -> R Fl := (sSeq (sSet 3 (eL F_column_cells (aCons (eVar 2) aNil))) (sSeq (sSet 4 (eBin subD (eBin ixD (eVar 1) (eC (.str "width"))) (eBin mulD (eL F_between (aCons (eVar 0) aNil)) (eBin subD (eL lenD (aCons (eVar 3) aNil)) (eC (.int 1)))))) (sSeq SF (sErr "TooWide" (aCons (eC (.str "the table is wider than the rules' width for any number of lines")) aNil)))))
theorem col_seq (SF : Tn -> R Fl) (RL TT Cs : D) (wi M free : Int) (h1 : F_column_cells [TT] = .ok Cs) (h2 : ixD RL (.str "width") = .ok (.int wi)) (h3 : ixD f (.int 1) = .ok (.int bl)) (hM : 0 <= M /\ M <= 1000) (h4 : lenD [Cs] = .ok (.int M)) (hf : free = wi - 2 * bl * (M - 1)) :
    (∀ d, SF [some f, some RL, some TT, some Cs, some (.int free), none, none] = .ok (.rt d) -> runB 7 (TCo SF) [f, RL, TT] = .ok d) /\ (∀ x y, SF [some f, some RL, some TT, some Cs, some (.int free), none, none] = .ok (.nx [some f, some RL, some TT, some Cs, some (.int free), x, y]) -> runB 7 (TCo SF) [f, RL, TT] = .err "TooWide") := by
  subst hf
  have m1 : mulD (.int 2) (.int bl) = .ok (.int (2 * bl)) := ev_mulL (by decide) (by decide)
  have m2 : mulD (.int (2 * bl)) (.int (M - 1)) = .ok (.int (2 * bl * (M - 1))) := ev_mulR (by omega) (by omega)
  have hbt : F_between [f] = .ok (.int (2 * bl)) := by
    simp only [F_between, t_between, runB, sRet, eVar, eC, eBin, R.ok_bind, List.map_cons, List.map_nil, List.length_cons, List.length_nil, List.replicate_zero, List.cons_append, List.nil_append, List.getElem?_cons_zero, Nat.reduceSub, Nat.zero_add, h3, m1]
  constructor
  · intro d h
    simp only [TCo, runB, sSeq, sSet, eVar, eC, eBin, eL, aNil, aCons, R.ok_bind, List.map_cons, List.map_nil, List.length_cons, List.length_nil, List.replicate_succ, List.replicate_zero, List.cons_append, List.nil_append, List.getElem?_cons_zero, List.getElem?_cons_succ, List.set_cons_zero, List.set_cons_succ, Nat.reduceAdd, Nat.reduceSub, Nat.zero_add, ev_sub, h1, h2, hbt, h4, m2, h]
  · intro x y h
    have hE : ∀ τ : Tn, sErr "TooWide" (aCons (eC (.str "the table is wider than the rules' width for any number of lines")) aNil) τ = .err "TooWide" := fun τ => rfl
    simp only [TCo, runB, sSeq, sSet, eVar, eC, eBin, eL, aNil, aCons, R.ok_bind, List.map_cons, List.map_nil, List.length_cons, List.length_nil, List.replicate_succ, List.replicate_zero, List.cons_append, List.nil_append, List.getElem?_cons_zero, List.getElem?_cons_succ, List.set_cons_zero, List.set_cons_succ, Nat.reduceAdd, Nat.reduceSub, Nat.zero_add, ev_sub, h1, h2, hbt, h4, m2, h, hE]
theorem columns_ok (T : Tb tb m) (Lw : LW f tb m bl w) (RL : D) (wi : Int) (h2 : ixD RL (.str "width") = .ok (.int wi)) : ∃ mo : Int, 1 <= mo /\ (∀ a c, MO (a :: some (tabT tb) :: c) = .ok (.int mo)) /\
    ((∃ l, 1 <= l /\ l <= mo /\ br w m bl l <= wi /\ (l = 1 \/ wi < br w m bl (l - 1)) /\ F_columns [f, RL, tabT tb] = .ok (.tup [.int l, .lst ((wds w m l).map D.int)])) \/ (wi < br w m bl mo /\ F_columns [f, RL, tabT tb] = .err "TooWide")) := by
  obtain ⟨ml, mo, e1, e2, e3, o1, o2⟩ := most T
  refine ⟨mo, o1, e3, ?_⟩
  have hc := cc_ok T
  have h4 : lenD [colsD tb m] = .ok (.int (m : Int)) := by
    show R.ok (D.int (((List.range m).map fun k => D.lst ((col tb k).map cellT)).length : Int)) = _
    rw [List.length_map, List.length_range]
  have hr : rng2 [.int 1, .int (mo + 1)] = .ok (rng 1 mo.toNat) := by
    rw [ev_rng2 (by decide) (by decide) (by omega) (by omega)]
    congr 2
    omega
  have hT : F_columns = runB 7 (TCo (sFor (iL rng2 (aCons (eC (.int 1)) (aCons (eBin addD (eL max2D (aCons (eC (.int 1)) (aCons (eL F_most_lines (aCons (eVar 2) aNil)) aNil))) (eC (.int 1))) aNil))) (.one 5) (bC CV))) := rfl
  have hS := col_seq (f := f) (bl := bl) (sFor (iL rng2 (aCons (eC (.int 1)) (aCons (eBin addD (eL max2D (aCons (eC (.int 1)) (aCons (eL F_most_lines (aCons (eVar 2) aNil)) aNil))) (eC (.int 1))) aNil))) (.one 5) (bC CV)) RL (tabT tb) (colsD tb m) wi m (wi - 2 * bl * ((m : Int) - 1)) hc h2 Lw.b ⟨by omega, by have := T.m2; omega⟩ h4 rfl
  rw [<- hT] at hS
  have hit : (iL rng2 (aCons (eC (.int 1)) (aCons (eBin addD (eL max2D (aCons (eC (.int 1)) (aCons (eL F_most_lines (aCons (eVar 2) aNil)) aNil))) (eC (.int 1))) aNil))) [some f, some RL, some (tabT tb), some (colsD tb m), some (.int (wi - 2 * bl * ((m : Int) - 1))), none, none] = .ok (rng 1 mo.toNat) := by
    generalize tabT tb = TT at *
    generalize colsD tb m = CS at *
    generalize (m : Int) = M at *
    simp only [eVar, eC, eBin, eL, aNil, aCons, iL, R.ok_bind, List.getElem?_cons_zero, List.getElem?_cons_succ, ev_add, e1, e2, hr]
  rcases lC T Lw (some RL) (some (tabT tb)) (wi - 2 * bl * ((m : Int) - 1)) mo.toNat 1 none none (by decide) with ⟨l, g1, g2, g3, g4, g5⟩ | ⟨g1, x, y, g2⟩
  · left
    refine ⟨l, g1, by omega, ?_, ?_, hS.1 _ (ev_for hit g5)⟩
    · unfold br; omega
    · by_cases h1 : l = 1
      · exact .inl h1
      · right
        have := g4 (l - 1) (by omega) (by omega)
        unfold br; omega
  · right
    refine ⟨?_, hS.2 _ _ (ev_for hit g2)⟩
    have := g1 mo (by omega) (by omega)
    unfold br; omega
theorem told_ok (RL TT : D) : (∀ d, F_columns [f, RL, TT] = .ok d -> F__law_told [f, RL, TT] = .ok d) /\ (F_columns [f, RL, TT] = .err "TooWide" -> F__law_told [f, RL, TT] = .ok (.str "too wide")) := by
  have hg : g__law_told "TooWide" = some (.str "too wide") := by unfold g__law_told; rw [if_pos rfl]
  have e0 : runB 5 t__law_told [f, RL, TT] = (match sTryR F_columns (aCons (eVar 0) (aCons (eVar 1) (aCons (eVar 2) aNil))) g__law_told [some f, some RL, some TT, none, none] with
    | .ok (.rt d) => R.ok d
    | .ok (.nx _) => R.ok .non
    | .err c => .err c
    | _ => .bad) := rfl
  have e1 : (aCons (eVar 0) (aCons (eVar 1) (aCons (eVar 2) aNil))) [some f, some RL, some TT, none, none] = .ok [f, RL, TT] := rfl
  have hT : F__law_told = runB 5 t__law_told := rfl
  rw [hT, e0]
  unfold sTryR
  rw [e1]
  dsimp only
  constructor
  · intro d h
    rw [h]
  · intro h
    rw [h]
    dsimp only
    rw [hg]
noncomputable def AL : Tn -> R D := (eL allD (aCons (eComp [none] (iSeq (eBin ixD (eVar 3) (eC (.int 1)))) (.one 0) (fun _ => .ok true) (eL F__law_whole (aCons (eVar 0) aNil))) aNil))
noncomputable def TG (MO AL : Tn -> R D) : Tn -> R Fl := (sSeq (sSet 4 MO) (sSeq (sIf (eTest (eBin (eqR false) (eVar 3) (eC (.str "too wide")))) (sRet (eBin gtD (eL F__law_breadth (aCons (eVar 0) (aCons (eVar 1) (aCons (eVar 4) aNil)))) (eVar 2))) sSkip) (sSeq (sIf (bOr (bNot (eTest (eUn (isiD "tuple") (eVar 3)))) (bOr (eTest (eBin (eqR true) (eL lenD (aCons (eVar 3) aNil)) (eC (.int 2)))) (bOr (bNot (eTest (eL F__law_whole (aCons (eBin ixD (eVar 3) (eC (.int 0))) aNil)))) (bNot (eTest (eUn (isiD "list") (eBin ixD (eVar 3) (eC (.int 1))))))))) (sRet (eC (.bl false))) sSkip) (sSeq (sIf (bOr (bNot (eTest (eChain leD leD (eC (.int 1)) (eBin ixD (eVar 3) (eC (.int 0))) (eVar 4)))) (bNot (eTest AL))) (sRet (eC (.bl false))) sSkip) (sSeq (sIf (bOr (eTest (eBin (eqR true) (eBin ixD (eVar 3) (eC (.int 1))) (eL F__law_widths (aCons (eVar 0) (aCons (eVar 1) (aCons (eBin ixD (eVar 3) (eC (.int 0))) aNil)))))) (eTest (eBin gtD (eL F__law_breadth (aCons (eVar 0) (aCons (eVar 1) (aCons (eBin ixD (eVar 3) (eC (.int 0))) aNil)))) (eVar 2)))) (sRet (eC (.bl false))) sSkip) (sRet (eOr (eBin (eqR false) (eBin ixD (eVar 3) (eC (.int 0))) (eC (.int 1))) (eBin gtD (eL F__law_breadth (aCons (eVar 0) (aCons (eVar 1) (aCons (eBin subD (eBin ixD (eVar 3) (eC (.int 0))) (eC (.int 1))) aNil)))) (eVar 2)))))))))
theorem good_w (MO AL : Tn -> R D) (TT : D) (wi mo b : Int) (h1 : MO [some f, some TT, some (.int wi), some (.str "too wide"), none] = .ok (.int mo)) (h2 : F__law_breadth [f, TT, .int mo] = .ok (.int b)) (h3 : wi < b) : runB 5 (TG MO AL) [f, TT, .int wi, .str "too wide"] = .ok (.bl true) := by
  have e1 : eqR false (.str "too wide") (.str "too wide") = .ok (.bl true) := rfl
  have d1 : decide (wi < b) = true := decide_eq_true h3
  simp only [TG, sSkip, runB, sSeq, sSet, sRet, sIf, eVar, eC, eBin, eUn, eL, aNil, aCons, eTest, bOr, bNot, eOr, eChain, asB, R.ok_bind, List.map_cons, List.map_nil, List.length_cons, List.length_nil, List.replicate_succ, List.replicate_zero, List.cons_append, List.nil_append, List.getElem?_cons_zero, List.getElem?_cons_succ, List.set_cons_zero, List.set_cons_succ, Nat.reduceAdd, Nat.reduceSub, Nat.zero_add, ev_gt, if_true, h1, h2, e1, d1]
theorem good_t (MO AL : Tn -> R D) (TT : D) (wi mo l b : Int) (ns : List Int) (h1 : MO [some f, some TT, some (.int wi), some (.tup [.int l, .lst (ns.map D.int)]), none] = .ok (.int mo)) (hA : AL [some f, some TT, some (.int wi), some (.tup [.int l, .lst (ns.map D.int)]), some (.int mo)] = .ok (.bl true)) (hl : 1 <= l /\ l <= mo) (h2 : F__law_widths [f, TT, .int l] = .ok (.lst (ns.map D.int))) (h3 : F__law_breadth [f, TT, .int l] = .ok (.int b)) (h4 : b <= wi) (h5 : l = 1 \/ ∃ c, F__law_breadth [f, TT, .int (l - 1)] = .ok (.int c) /\ wi < c) :
    runB 5 (TG MO AL) [f, TT, .int wi, .tup [.int l, .lst (ns.map D.int)]] = .ok (.bl true) := by
  have q1 : eqR false (.tup [.int l, .lst (ns.map D.int)]) (.str "too wide") = .ok (.bl false) := rfl
  have q2 : isiD "tuple" (.tup [.int l, .lst (ns.map D.int)]) = .ok (.bl true) := rfl
  have q3 : lenD [.tup [.int l, .lst (ns.map D.int)]] = .ok (.int 2) := rfl
  have q4 : eqR true (.int 2) (.int 2) = .ok (.bl false) := rfl
  have q5 : ixD (.tup [.int l, .lst (ns.map D.int)]) (.int 0) = .ok (.int l) := rfl
  have q6 : ixD (.tup [.int l, .lst (ns.map D.int)]) (.int 1) = .ok (.lst (ns.map D.int)) := rfl
  have q7 : isiD "list" (.lst (ns.map D.int)) = .ok (.bl true) := rfl
  have q8 : eqR true (.lst (ns.map D.int)) (.lst (ns.map D.int)) = .ok (.bl false) := ev_eqne (fun _ _ z => nomatch z) (eqF_lst 11 fun d hd => by
    obtain ⟨s, _, rfl⟩ := List.mem_map.mp hd
    rw [eqF_int]; simp)
  have d1 : decide ((1 : Int) <= l) = true := decide_eq_true hl.1
  have d2 : decide (l <= mo) = true := decide_eq_true hl.2
  have d3 : decide (wi < b) = false := decide_eq_false (by omega)
  generalize D.lst (ns.map D.int) = Y at *
  generalize D.tup [.int l, Y] = Z at *
  rcases h5 with h5 | ⟨c, h5, h6⟩
  · have d4 : eqR false (.int l) (.int 1) = .ok (.bl true) := by rw [h5]; rfl
    simp only [TG, sSkip, runB, sSeq, sSet, sRet, sIf, eVar, eC, eBin, eUn, eL, aNil, aCons, eTest, bOr, bNot, eOr, eChain, asB, R.ok_bind, List.map_cons, List.map_nil, List.length_cons, List.length_nil, List.replicate_succ, List.replicate_zero, List.cons_append, List.nil_append, List.getElem?_cons_zero, List.getElem?_cons_succ, List.set_cons_zero, List.set_cons_succ, Nat.reduceAdd, Nat.reduceSub, Nat.zero_add, ev_sub, ev_le, ev_gt, if_true, if_false, Bool.false_eq_true, h1, q1, q2, q3, q4, q5, q6, q7, q8, whole_ok, hA, d1, d2, d3, h2, h3, d4, Bool.not_true]
  · have d5 : decide (wi < c) = true := decide_eq_true h6
    by_cases hl1 : l = 1
    · have d4 : eqR false (.int l) (.int 1) = .ok (.bl true) := by rw [hl1]; rfl
      simp only [TG, sSkip, runB, sSeq, sSet, sRet, sIf, eVar, eC, eBin, eUn, eL, aNil, aCons, eTest, bOr, bNot, eOr, eChain, asB, R.ok_bind, List.map_cons, List.map_nil, List.length_cons, List.length_nil, List.replicate_succ, List.replicate_zero, List.cons_append, List.nil_append, List.getElem?_cons_zero, List.getElem?_cons_succ, List.set_cons_zero, List.set_cons_succ, Nat.reduceAdd, Nat.reduceSub, Nat.zero_add, ev_sub, ev_le, ev_gt, if_true, if_false, Bool.false_eq_true, h1, q1, q2, q3, q4, q5, q6, q7, q8, whole_ok, hA, d1, d2, d3, h2, h3, d4, Bool.not_true]
    · have d4 : eqR false (.int l) (.int 1) = .ok (.bl false) := by
        rw [ev_eqi, beq_eq_false_iff_ne.mpr hl1]; rfl
      simp only [TG, sSkip, runB, sSeq, sSet, sRet, sIf, eVar, eC, eBin, eUn, eL, aNil, aCons, eTest, bOr, bNot, eOr, eChain, asB, R.ok_bind, List.map_cons, List.map_nil, List.length_cons, List.length_nil, List.replicate_succ, List.replicate_zero, List.cons_append, List.nil_append, List.getElem?_cons_zero, List.getElem?_cons_succ, List.set_cons_zero, List.set_cons_succ, Nat.reduceAdd, Nat.reduceSub, Nat.zero_add, ev_sub, ev_le, ev_gt, if_true, if_false, Bool.false_eq_true, h1, q1, q2, q3, q4, q5, q6, q7, q8, whole_ok, hA, d1, d2, d3, d5, h2, h3, h5, d4, Bool.not_true]
theorem al_ok (a b c e : Option D) (l : Int) (ns : List Int) (hn : ns.length <= 1000) : AL [a, b, c, some (.tup [.int l, .lst (ns.map D.int)]), e] = .ok (.bl true) := by
  have q6 : ixD (.tup [.int l, .lst (ns.map D.int)]) (.int 1) = .ok (.lst (ns.map D.int)) := rfl
  have hc := compL_enc (enc := D.int) (xs := ns) (o := fun _ => some (D.bl true)) (f := compF (Tgt.one 0).asg (fun _ => .ok true) (eL F__law_whole (aCons (eVar 0) aNil)) [none]) fun x hx => by
    have := whole_ok x
    simp only [compF, noErr_ok', eVar, eL, aNil, aCons, Tgt.asg, R.ok_bind, List.getElem?_cons_zero, List.set_cons_zero, if_true, this]
  rw [fm_some] at hc
  have hlen : (ns.map fun _ => D.bl true).length <= 16777216 := by rw [List.length_map]; omega
  have hd := ev_lstD hlen
  have ha : allD [.lst (ns.map fun _ => D.bl true)] = .ok (.bl true) := by
    have := ev_allD (bs := ns.map fun _ => true)
    rw [List.map_map] at this
    refine this.trans ?_
    congr 2
    rw [List.all_eq_true]
    intro x hx
    obtain ⟨_, _, rfl⟩ := List.mem_map.mp hx
    rfl
  generalize (ns.map fun _ => D.bl true) = Y at *
  generalize hZ : D.tup [.int l, .lst (ns.map D.int)] = Z at *
  simp only [AL, ev_eComp, ev_ctN, ev_ctO, eVar, eC, eBin, eL, aNil, aCons, iSeq, asSeq, R.ok_bind, List.getElem?_cons_zero, List.getElem?_cons_succ, q6, hc, hd, ha]
theorem step_ok2 (T : Tb tb m) (Lw : LW f tb m bl w) (RL : D) (wi : Int) (h2 : ixD RL (.str "width") = .ok (.int wi)) : ∃ fd : D, F__law_told [f, RL, tabT tb] = .ok fd /\ F__law_good [f, tabT tb, .int wi, fd] = .ok (.bl true) /\ (fd = .str "too wide" \/ ∃ (l : Int) (ns : List Int), fd = .tup [.int l, .lst (ns.map D.int)] /\ ns.length <= 1000) := by
  obtain ⟨mo, o1, hM, hr⟩ := columns_ok T Lw RL wi h2
  have hT : F__law_good = runB 5 (TG MO AL) := rfl
  obtain ⟨t1, t2⟩ := told_ok (f := f) RL (tabT tb)
  rcases hr with ⟨l, l1, l2, l3, l4, l5⟩ | ⟨l1, l2⟩
  · have hn : (wds w m l).length <= 1000 := by rw [wds_len]; have := T.m2; omega
    refine ⟨_, t1 _ l5, ?_, .inr ⟨l, wds w m l, rfl, hn⟩⟩
    rw [hT]
    refine good_t MO AL (tabT tb) wi mo l (br w m bl l) (wds w m l) (hM _ _) (al_ok _ _ _ _ l _ hn) ⟨l1, l2⟩ (law_wds T Lw l l1) (breadth T Lw l l1) l3 ?_
    rcases l4 with z | z
    · exact .inl z
    · by_cases h1 : l = 1
      · exact .inl h1
      · exact .inr ⟨_, breadth T Lw (l - 1) (by omega), z⟩
  · refine ⟨_, t2 l2, ?_, .inl rfl⟩
    rw [hT]
    exact good_w MO AL (tabT tb) wi mo _ (hM _ _) (breadth T Lw mo o1) l1
end
end K17

set_option maxRecDepth 100000
set_option maxHeartbeats 4000000
namespace K17
open PySem PyProof.Rows L2
noncomputable def dicR (wi n : Int) : D := .dic [.inr "width", .inr "height", .inr "part", .inr "twin", .inr "over", .inr "lone", .inr "late", .inr "gap", .inr "ahead", .inr "behind"] [.int wi, .int (2 + n % 199), .int (n % 7), .int (n % 9), .int (1 + n % 5), .int (n % 11), .int (n % 13), .int (n % 6), .int (1 + n % 6), .int 2]
noncomputable def SU1 : Tn -> R Fl := (sUpd 3 (eL (fun ds => .ok (.dic [.inr "over", .inr "lone", .inr "late"] ds)) (aCons (eBin addD (eC (.int 1)) (eBin modD (eVar 2) (eC (.int 5)))) (aCons (eBin modD (eVar 2) (eC (.int 11))) (aCons (eBin modD (eVar 2) (eC (.int 13))) aNil)))))
noncomputable def SU2 : Tn -> R Fl := (sUpd 3 (eL (fun ds => .ok (.dic [.inr "gap", .inr "ahead", .inr "behind"] ds)) (aCons (eBin modD (eVar 2) (eC (.int 6))) (aCons (eBin addD (eC (.int 1)) (eBin modD (eVar 2) (eC (.int 6)))) (aCons (eC (.int 2)) aNil)))))
noncomputable def TR (SU1 SU2 : Tn -> R Fl) : Tn -> R Fl := (sSeq (sSet 2 (eL F__law_mixed (aCons (eVar 0) (aCons (eC (.int 2)) aNil)))) (sSeq (sSet 3 (eL (fun ds => .ok (.dic [.inr "width", .inr "height", .inr "part", .inr "twin"] ds)) (aCons (eImm (eVar 1)) (aCons (eBin addD (eC (.int 2)) (eBin modD (eVar 2) (eC (.int 199)))) (aCons (eBin modD (eVar 2) (eC (.int 7))) (aCons (eBin modD (eVar 2) (eC (.int 9))) aNil)))))) (sSeq SU1 (sSeq SU2 (sRet (eVar 3))))))
theorem upd_ok (i : Nat) (t : Tn -> R D) (τ : Tn) (ks js ls : List Key) (ds es fs : List D) (h1 : eVar i τ = .ok (.dic ks ds)) (h2 : t τ = .ok (.dic js es)) (h3 : D.imms ds = true /\ D.imms es = true /\ ks.length + js.length <= sizeLine) (h4 : mergeP ks ds (js.zip es) = (ls, fs)) : sUpd i t τ = .ok (.nx (τ.set i (some (.dic ls fs)))) := by
  unfold sUpd
  rw [h1, R.ok_bind]
  dsimp only
  rw [h2, R.ok_bind]
  dsimp only
  rw [if_pos h3, h4]
theorem su1_ok (scr : D) (wi n : Int) : SU1 [some scr, some (.int wi), some (.int n), some (.dic [.inr "width", .inr "height", .inr "part", .inr "twin"] [.int wi, .int (2 + n % 199), .int (n % 7), .int (n % 9)])] = .ok (.nx [some scr, some (.int wi), some (.int n), some (.dic [.inr "width", .inr "height", .inr "part", .inr "twin", .inr "over", .inr "lone", .inr "late"] [.int wi, .int (2 + n % 199), .int (n % 7), .int (n % 9), .int (1 + n % 5), .int (n % 11), .int (n % 13)])]) := by
  refine upd_ok 3 _ _ [.inr "width", .inr "height", .inr "part", .inr "twin"] [.inr "over", .inr "lone", .inr "late"] [.inr "width", .inr "height", .inr "part", .inr "twin", .inr "over", .inr "lone", .inr "late"] [.int wi, .int (2 + n % 199), .int (n % 7), .int (n % 9)] [.int (1 + n % 5), .int (n % 11), .int (n % 13)] [.int wi, .int (2 + n % 199), .int (n % 7), .int (n % 9), .int (1 + n % 5), .int (n % 11), .int (n % 13)] rfl ?_ ⟨rfl, rfl, by decide⟩ (by rfl)
  simp only [eVar, eC, eBin, eL, aNil, aCons, R.ok_bind, List.getElem?_cons_zero, List.getElem?_cons_succ, ev_add, ev_mod, Int.reduceLT]
theorem su2_ok (scr : D) (wi n : Int) : SU2 [some scr, some (.int wi), some (.int n), some (.dic [.inr "width", .inr "height", .inr "part", .inr "twin", .inr "over", .inr "lone", .inr "late"] [.int wi, .int (2 + n % 199), .int (n % 7), .int (n % 9), .int (1 + n % 5), .int (n % 11), .int (n % 13)])] = .ok (.nx [some scr, some (.int wi), some (.int n), some (dicR wi n)]) := by
  refine upd_ok 3 _ _ [.inr "width", .inr "height", .inr "part", .inr "twin", .inr "over", .inr "lone", .inr "late"] [.inr "gap", .inr "ahead", .inr "behind"] [.inr "width", .inr "height", .inr "part", .inr "twin", .inr "over", .inr "lone", .inr "late", .inr "gap", .inr "ahead", .inr "behind"] [.int wi, .int (2 + n % 199), .int (n % 7), .int (n % 9), .int (1 + n % 5), .int (n % 11), .int (n % 13)] [.int (n % 6), .int (1 + n % 6), .int 2] [.int wi, .int (2 + n % 199), .int (n % 7), .int (n % 9), .int (1 + n % 5), .int (n % 11), .int (n % 13), .int (n % 6), .int (1 + n % 6), .int 2] rfl ?_ ⟨rfl, rfl, by decide⟩ (by rfl)
  simp only [eVar, eC, eBin, eL, aNil, aCons, R.ok_bind, List.getElem?_cons_zero, List.getElem?_cons_succ, ev_add, ev_mod, Int.reduceLT]
theorem rules_seq (SU1 SU2 : Tn -> R Fl) (scr d1 d2 : D) (wi n : Int) (h : F__law_mixed [scr, .int 2] = .ok (.int n)) (h1 : SU1 [some scr, some (.int wi), some (.int n), some (.dic [.inr "width", .inr "height", .inr "part", .inr "twin"] [.int wi, .int (2 + n % 199), .int (n % 7), .int (n % 9)])] = .ok (.nx [some scr, some (.int wi), some (.int n), some d1])) (h2 : SU2 [some scr, some (.int wi), some (.int n), some d1] = .ok (.nx [some scr, some (.int wi), some (.int n), some d2])) : runB 4 (TR SU1 SU2) [scr, .int wi] = .ok d2 := by
  simp only [TR, ev_eImm, ev_immI, runB, sSeq, sSet, sRet, eVar, eC, eBin, eL, aNil, aCons, R.ok_bind, List.map_cons, List.map_nil, List.length_cons, List.length_nil, List.replicate_succ, List.replicate_zero, List.cons_append, List.nil_append, List.getElem?_cons_zero, List.getElem?_cons_succ, List.set_cons_zero, List.set_cons_succ, Nat.reduceAdd, Nat.reduceSub, Nat.zero_add, ev_add, ev_mod, Int.reduceLT, h, h1, h2]
theorem rules_ok (scr : D) (wi n : Int) (h : F__law_mixed [scr, .int 2] = .ok (.int n)) : F__law_rules [scr, .int wi] = .ok (dicR wi n) := by
  have eT : F__law_rules = runB 4 (TR SU1 SU2) := rfl
  rw [eT]
  exact rules_seq SU1 SU2 scr _ _ wi n h (su1_ok _ _ _) (su2_ok _ _ _)
theorem eq_R0 (wi n : Int) (A : List Key) (B : List D) (k0 : lookD A B (.inr "width") = some (.int wi)) (k1 : lookD A B (.inr "height") = some (.int (2 + n % 199))) (k2 : lookD A B (.inr "part") = some (.int (n % 7))) (k3 : lookD A B (.inr "twin") = some (.int (n % 9))) (k4 : lookD A B (.inr "over") = some (.int (1 + n % 5))) (k5 : lookD A B (.inr "lone") = some (.int (n % 11))) (k6 : lookD A B (.inr "late") = some (.int (n % 13))) (k7 : lookD A B (.inr "gap") = some (.int (n % 6))) (k8 : lookD A B (.inr "ahead") = some (.int (1 + n % 6))) (k9 : lookD A B (.inr "behind") = some (.int 2)) : L2.hitsD A B [.inr "width", .inr "height", .inr "part", .inr "twin", .inr "over", .inr "lone", .inr "late", .inr "gap", .inr "ahead", .inr "behind"] [.int wi, .int (2 + n % 199), .int (n % 7), .int (n % 9), .int (1 + n % 5), .int (n % 11), .int (n % 13), .int (n % 6), .int (1 + n % 6), .int 2] = some true := by
  simp only [L2.hitsD, k0, k1, k2, k3, k4, k5, k6, k7, k8, k9, D.isS, eqS, Bool.and_self, if_true, Option.map_some, beq_self_eq_true]
theorem eq_R (wi n : Int) : eqR true (dicR wi n) (dicR wi n) = .ok (.bl false) := by
  have h : eqDic [.inr "width", .inr "height", .inr "part", .inr "twin", .inr "over", .inr "lone", .inr "late", .inr "gap", .inr "ahead", .inr "behind"] [.int wi, .int (2 + n % 199), .int (n % 7), .int (n % 9), .int (1 + n % 5), .int (n % 11), .int (n % 13), .int (n % 6), .int (1 + n % 6), .int 2] [.inr "width", .inr "height", .inr "part", .inr "twin", .inr "over", .inr "lone", .inr "late", .inr "gap", .inr "ahead", .inr "behind"] [.int wi, .int (2 + n % 199), .int (n % 7), .int (n % 9), .int (1 + n % 5), .int (n % 11), .int (n % 13), .int (n % 6), .int (1 + n % 6), .int 2] = some true := by
    unfold eqDic
    rw [if_pos rfl]
    exact eq_R0 wi n _ _ rfl rfl rfl rfl rfl rfl rfl rfl rfl rfl
  show (match eqDic [.inr "width", .inr "height", .inr "part", .inr "twin", .inr "over", .inr "lone", .inr "late", .inr "gap", .inr "ahead", .inr "behind"] [.int wi, .int (2 + n % 199), .int (n % 7), .int (n % 9), .int (1 + n % 5), .int (n % 11), .int (n % 13), .int (n % 6), .int (1 + n % 6), .int 2] [.inr "width", .inr "height", .inr "part", .inr "twin", .inr "over", .inr "lone", .inr "late", .inr "gap", .inr "ahead", .inr "behind"] [.int wi, .int (2 + n % 199), .int (n % 7), .int (n % 9), .int (1 + n % 5), .int (n % 11), .int (n % 13), .int (n % 6), .int (1 + n % 6), .int 2] with
    | some b => R.ok (D.bl (if true = true then !b else b))
    | none => .bad) = _
  rw [h]
  rfl
theorem three_ok (n : Int) : ∃ v, ixD (.lst [.int 40, .int 200, .int 1997]) (.int (n / 90 % 3)) = .ok (.int v) /\ 0 < v := by
  exact ix_any [40, 200, 1997] (Int.emod_nonneg _ (by decide)) (Int.emod_lt_of_pos _ (by decide)) (by decide)
theorem room_ok {tb : List (List (List Str))} {m : Nat} {f : D} {bl : Int} {w : Int -> Nat -> Int} (T : Tb tb m) (Lw : LW f tb m bl w) (n : Int) : ∃ v, F__law_room [f, tabT tb, .int n] = .ok (.int v) := by
  obtain ⟨v, hv, hv0⟩ := three_ok n
  have e0 : modD (.int (n / 4)) (.int v) = .ok (.int (n / 4 % v)) := ev_mod hv0
  cases h4 : (n % 4 == 0) with
  | true =>
    refine ⟨4 + n / 4 % v, ?_⟩
    simp only [F__law_room, t__law_room, sSkip, runB, sSeq, sSet, sRet, sIf, eVar, eC, eBin, eL, aNil, aCons, eTest, asB, R.ok_bind, List.map_cons, List.map_nil, List.length_cons, List.length_nil, List.replicate_succ, List.replicate_zero, List.cons_append, List.nil_append, List.getElem?_cons_zero, List.getElem?_cons_succ, Nat.reduceAdd, Nat.reduceSub, Nat.zero_add, ev_add, ev_mod, ev_fdiv, ev_eqi, if_true, if_false, Bool.false_eq_true, Int.reduceLT, h4, hv, e0]
  | false =>
    have hb := breadth T Lw (1 + n / 4 % 4) (by omega)
    generalize br w m bl (1 + n / 4 % 4) = s at *
    have e5 : max2D [.int 4, .int (s + n / 16 % 3 - 1)] = .ok (.int (if s + n / 16 % 3 - 1 > 4 then s + n / 16 % 3 - 1 else 4)) := rfl
    generalize (if s + n / 16 % 3 - 1 > 4 then s + n / 16 % 3 - 1 else 4) = q at *
    have e6 : ∃ z, min2D [.int 2000, .int q] = .ok (.int z) := ⟨_, rfl⟩
    obtain ⟨z, e6⟩ := e6
    refine ⟨z, ?_⟩
    generalize tabT tb = TT at *
    simp only [F__law_room, t__law_room, sSkip, runB, sSeq, sSet, sRet, sIf, eVar, eC, eBin, eL, aNil, aCons, eTest, asB, R.ok_bind, List.map_cons, List.map_nil, List.length_cons, List.length_nil, List.replicate_succ, List.replicate_zero, List.cons_append, List.nil_append, List.getElem?_cons_zero, List.getElem?_cons_succ, List.set_cons_zero, List.set_cons_succ, Nat.reduceAdd, Nat.reduceSub, Nat.zero_add, ev_add, ev_sub, ev_mod, ev_fdiv, ev_eqi, if_false, Bool.false_eq_true, Int.reduceLT, h4, hb, e5, e6]
noncomputable def rowD (r : List (List Str)) : D := .lst (r.map cellD)
theorem eight_ok (n : Int) : ∃ v : Nat, ixD (.lst [.int 1, .int 2, .int 2, .int 3, .int 1, .int 4, .int 2, .int 3]) (.int (n / 150 % 8)) = .ok (.int (v : Int)) /\ 1 <= v /\ v <= 4 := by
  obtain ⟨v, e, h1, h2⟩ := ix_any (P := fun v => 1 <= v /\ v <= 4) [1, 2, 2, 3, 1, 4, 2, 3] (i := n / 150 % 8) (Int.emod_nonneg _ (by decide)) (Int.emod_lt_of_pos _ (by decide)) (by decide)
  exact ⟨v.toNat, by rw [show ((v.toNat : Nat) : Int) = v by omega]; exact e, by omega, by omega⟩
noncomputable def IN : Tn -> R D := (eComp [none, some 1, some 0] (iL rng1 (aCons (eVar 2) aNil)) (.one 0) (fun _ => .ok true) (eL F__law_words (aCons (eL F__law_mixed (aCons (eVar 1) (aCons (eBin addD (eBin addD (eC (.int 3)) (eBin mulD (eC (.int 4)) (eVar 2))) (eVar 0)) aNil))) aNil)))
noncomputable def CT : Tn -> R D := eComp [none, some 0, some 3] (iL rng1 (aCons (eVar 2) aNil)) (.one 0) (fun _ => .ok true) IN
noncomputable def TTb (CT : Tn -> R D) : Tn -> R Fl := (sSeq (sSet 1 (eL F__law_mixed (aCons (eVar 0) (aCons (eC (.int 1)) aNil)))) (sSeq (sSet 2 (eBin addD (eC (.int 1)) (eBin modD (eVar 1) (eC (.int 2))))) (sSeq (sIf (eTest (eBin (eqR false) (eBin modD (eBin fdivD (eVar 1) (eC (.int 3))) (eC (.int 16))) (eC (.int 1)))) (sSet 2 (eBin addD (eC (.int 1)) (eBin modD (eBin fdivD (eVar 1) (eC (.int 48))) (eC (.int 6))))) sSkip) (sSeq (sSet 3 (eBin ixD (eL (fun ds => .ok (.lst ds)) (aCons (eC (.int 1)) (aCons (eC (.int 2)) (aCons (eC (.int 2)) (aCons (eC (.int 3)) (aCons (eC (.int 1)) (aCons (eC (.int 4)) (aCons (eC (.int 2)) (aCons (eC (.int 3)) aNil))))))))) (eBin modD (eBin fdivD (eVar 1) (eC (.int 150))) (eC (.int 8))))) (sRet CT)))))
theorem tb_ex (ns : List Int) (hl : ns.length <= 63) : ∃ cell : Nat -> Nat -> List Str, ∀ i k : Nat, i < 6 -> k < 4 -> (∃ v, F__law_mixed [.frl (ns.map .int), .int (3 + 4 * (i : Int) + (k : Int))] = .ok (.int v) /\ F__law_words [.int v] = .ok (cellD (cell i k))) /\ (cell i k).length <= 12 /\ ∀ x ∈ cell i k, 1 <= x.length /\ x.length <= 40 := by
  have key : ∀ i k : Nat, ∃ c : List Str, i < 6 -> k < 4 -> (∃ v, F__law_mixed [.frl (ns.map .int), .int (3 + 4 * (i : Int) + (k : Int))] = .ok (.int v) /\ F__law_words [.int v] = .ok (cellD c)) /\ c.length <= 12 /\ ∀ x ∈ c, 1 <= x.length /\ x.length <= 40 := fun i k => by
    by_cases hi : i < 6 /\ k < 4
    · obtain ⟨v, ev, v0, v1⟩ := mixed ns (3 + 4 * (i : Int) + (k : Int)) (by omega) (by omega) hl
      obtain ⟨ws, ew, w1, w2⟩ := words_ok v v0 v1
      exact ⟨ws, fun _ _ => ⟨⟨v, ev, ew⟩, w1, w2⟩⟩
    · exact ⟨[], fun a b => absurd ⟨a, b⟩ hi⟩
  exact ⟨fun i k => Classical.choose (key i k), fun i k hi hk => Classical.choose_spec (key i k) hi hk⟩
theorem in_ok (ns : List Int) (cell : Nat -> Nat -> List Str) (i mc : Nat) (hi : i < 6) (hm : mc <= 4) (h : ∀ k : Nat, k < 4 -> ∃ v, F__law_mixed [.frl (ns.map .int), .int (3 + 4 * (i : Int) + (k : Int))] = .ok (.int v) /\ F__law_words [.int v] = .ok (cellD (cell i k))) : IN [some (.int (i : Int)), some (.frl (ns.map .int)), some (.int (mc : Int))] = .ok (rowD ((List.range mc).map (cell i))) := by
  have hr : rng1 [.int (mc : Int)] = .ok (rng 0 mc) := (ev_rng1 (by omega) (by omega)).trans (by rw [Int.toNat_natCast])
  have hc := compL_rng (f := compF (Tgt.one 0).asg (fun _ => .ok true) (eL F__law_words (aCons (eL F__law_mixed (aCons (eVar 1) (aCons (eBin addD (eBin addD (eC (.int 3)) (eBin mulD (eC (.int 4)) (eVar 2))) (eVar 0)) aNil))) aNil)) [none, some (.frl (ns.map .int)), some (.int (i : Int))]) (o := fun k => some (cellD (cell i k))) (lo := 0) (n := mc) fun k hk => by
    obtain ⟨v, e1, e2⟩ := h k (by omega)
    rw [Int.zero_add]
    have e3 : mulD (.int 4) (.int (i : Int)) = .ok (.int (4 * (i : Int))) := ev_mulL (by decide) (by decide)
    generalize cellD (cell i k) = q at *
    generalize D.frl (ns.map .int) = scr at *
    generalize (i : Int) = I at *
    generalize (k : Int) = K at *
    simp -implicitDefEqProofs only [compF, noErr_ok', eVar, eC, eBin, eL, aNil, aCons, Tgt.asg, R.ok_bind, List.getElem?_cons_zero, List.getElem?_cons_succ, List.set_cons_zero, ev_add, if_true, e1, e2, e3]
  rw [fm_some] at hc
  have hlen : ((List.range mc).map fun k => cellD (cell i k)).length <= 16777216 := by rw [List.length_map, List.length_range]; omega
  have hd := ev_lstD hlen
  unfold rowD
  rw [List.map_map]
  show _ = R.ok (D.lst ((List.range mc).map fun k => cellD (cell i k)))
  generalize ((List.range mc).map fun k => cellD (cell i k)) = Y at *
  generalize D.frl (ns.map .int) = scr at *
  generalize (mc : Int) = M at *
  simp -implicitDefEqProofs only [IN, ev_eComp, ev_ctN, ev_ctO, ev_ctS, ev_join, eVar, aNil, aCons, iL, R.ok_bind, List.getElem?_cons_zero, List.getElem?_cons_succ, hr, hc, hd]
theorem ct_ok (ns : List Int) (cell : Nat -> Nat -> List Str) (nr mc : Nat) (hn : nr <= 6) (hm : mc <= 4) (h : ∀ i k : Nat, i < 6 -> k < 4 -> ∃ v, F__law_mixed [.frl (ns.map .int), .int (3 + 4 * (i : Int) + (k : Int))] = .ok (.int v) /\ F__law_words [.int v] = .ok (cellD (cell i k))) (a : Option D) : CT [some (.frl (ns.map .int)), a, some (.int (nr : Int)), some (.int (mc : Int))] = .ok (.lst (((List.range nr).map fun i => (List.range mc).map (cell i)).map rowD)) := by
  have hr : rng1 [.int (nr : Int)] = .ok (rng 0 nr) := (ev_rng1 (by omega) (by omega)).trans (by rw [Int.toNat_natCast])
  have hc := compL_rng (f := compF (Tgt.one 0).asg (fun _ => .ok true) IN [none, some (.frl (ns.map .int)), some (.int (mc : Int))]) (o := fun i => some (rowD ((List.range mc).map (cell i)))) (lo := 0) (n := nr) fun i hi => by
    have e := in_ok ns cell i mc (by omega) hm fun k hk => h i k (by omega) hk
    rw [Int.zero_add]
    generalize rowD ((List.range mc).map (cell i)) = q at *
    generalize D.frl (ns.map .int) = scr at *
    generalize (i : Int) = I at *
    simp -implicitDefEqProofs only [compF, noErr_ok', Tgt.asg, R.ok_bind, List.set_cons_zero, if_true, e]
  rw [fm_some] at hc
  have hlen : ((List.range nr).map fun i => rowD ((List.range mc).map (cell i))).length <= 16777216 := by rw [List.length_map, List.length_range]; omega
  have hd := ev_lstD hlen
  rw [List.map_map]
  show _ = R.ok (D.lst ((List.range nr).map fun i => rowD ((List.range mc).map (cell i))))
  generalize ((List.range nr).map fun i => rowD ((List.range mc).map (cell i))) = Y at *
  generalize D.frl (ns.map .int) = scr at *
  generalize (nr : Int) = M at *
  simp -implicitDefEqProofs only [CT, ev_eComp, ev_ctN, ev_ctO, ev_ctS, ev_join, eVar, aNil, aCons, iL, R.ok_bind, List.getElem?_cons_zero, List.getElem?_cons_succ, hr, hc, hd]
theorem table_seq (CT : Tn -> R D) (scr q : D) (n nr mc : Int) (h1 : F__law_mixed [scr, .int 1] = .ok (.int n)) (hn : nr = if (n / 3 % 16 == 1) = true then 1 + n / 48 % 6 else 1 + n % 2) (h2 : ixD (.lst [.int 1, .int 2, .int 2, .int 3, .int 1, .int 4, .int 2, .int 3]) (.int (n / 150 % 8)) = .ok (.int mc)) (h3 : CT [some scr, some (.int n), some (.int nr), some (.int mc)] = .ok q) : runB 4 (TTb CT) [scr] = .ok q := by
  subst hn
  cases hb : (n / 3 % 16 == 1) with
  | true =>
    rw [hb, if_pos rfl] at h3
    simp only [TTb, sSkip, runB, sSeq, sSet, sRet, sIf, eVar, eC, eBin, eL, aNil, aCons, eTest, asB, R.ok_bind, List.map_cons, List.map_nil, List.length_cons, List.length_nil, List.replicate_succ, List.replicate_zero, List.cons_append, List.nil_append, List.getElem?_cons_zero, List.getElem?_cons_succ, List.set_cons_zero, List.set_cons_succ, Nat.reduceSub, Nat.zero_add, ev_add, ev_mod, ev_fdiv, ev_eqi, if_true, if_false, Bool.false_eq_true, Int.reduceLT, h1, hb, h2, h3]
  | false =>
    rw [hb, if_neg Bool.false_ne_true] at h3
    simp only [TTb, sSkip, runB, sSeq, sSet, sRet, sIf, eVar, eC, eBin, eL, aNil, aCons, eTest, asB, R.ok_bind, List.map_cons, List.map_nil, List.length_cons, List.length_nil, List.replicate_succ, List.replicate_zero, List.cons_append, List.nil_append, List.getElem?_cons_zero, List.getElem?_cons_succ, List.set_cons_zero, List.set_cons_succ, Nat.reduceSub, Nat.zero_add, ev_add, ev_mod, ev_fdiv, ev_eqi, if_false, Bool.false_eq_true, Int.reduceLT, h1, hb, h2, h3]
theorem table_ok (ns : List Int) (hl : ns.length <= 63) : ∃ (tb : List (List (List Str))) (m : Nat), Tb tb m /\ F__law_table [.frl (ns.map .int)] = .ok (.lst (tb.map rowD)) := by
  obtain ⟨n, hn, n0, _⟩ := mixed ns 1 (by decide) (by decide) hl
  obtain ⟨mc, h2, m1, m2⟩ := eight_ok n
  obtain ⟨cell, hc⟩ := tb_ex ns hl
  obtain ⟨nr, hnr⟩ : ∃ nr : Nat, (nr : Int) = if (n / 3 % 16 == 1) = true then 1 + n / 48 % 6 else 1 + n % 2 := ⟨(if (n / 3 % 16 == 1) = true then 1 + n / 48 % 6 else 1 + n % 2).toNat, by split <;> omega⟩
  have hb : 1 <= nr /\ nr <= 6 := by split at hnr <;> omega
  have eT : F__law_table = runB 4 (TTb CT) := rfl
  refine ⟨(List.range nr).map fun i => (List.range mc).map (cell i), mc, ⟨by rw [List.length_map, List.length_range]; exact hb.1, by rw [List.length_map, List.length_range]; omega, m1, by omega, fun r hr => ?_, fun r hr c hcc => ?_⟩, ?_⟩
  · obtain ⟨i, _, rfl⟩ := List.mem_map.mp hr
    rw [List.length_map, List.length_range]
  · obtain ⟨i, hi, rfl⟩ := List.mem_map.mp hr
    obtain ⟨k, hk, rfl⟩ := List.mem_map.mp hcc
    exact (hc i k (by have := List.mem_range.mp hi; omega) (by have := List.mem_range.mp hk; omega)).2
  · rw [eT]
    exact table_seq CT _ _ n nr mc hn hnr h2 (ct_ok ns cell nr mc hb.2 m2 (fun i k hi hk => (hc i k hi hk).1) _)
noncomputable def C9 : Tn -> R D := (eL tuple1D (aCons (eComp [none] (iSeq (eVar 2)) (.one 0) (fun _ => .ok true) (eL tuple1D (aCons (eComp [none] (iSeq (eVar 0)) (.one 0) (fun _ => .ok true) (eL tuple1D (aCons (eVar 0) aNil))) aNil))) aNil))
noncomputable def cC : Tn -> R D := (eComp [none] (iSeq (eVar 0)) (.one 0) (fun _ => .ok true) (eL tuple1D (aCons (eVar 0) aNil)))
theorem cC_ok (r : List (List Str)) (hr : r.length <= 1000) : cC [some (rowD r)] = .ok (.lst (r.map cellT)) := by
  have hc := compL_enc (enc := cellD) (xs := r) (o := fun c => some (cellT c)) (f := compF (Tgt.one 0).asg (fun _ => .ok true) (eL tuple1D (aCons (eVar 0) aNil)) [none]) fun c hc => by
    have h1 : tuple1D [cellD c] = .ok (cellT c) := ev_tuple1 (imms_map (fun _ => rfl) c)
    generalize cellD c = X at *
    simp only [compF, noErr_ok', eVar, eL, aNil, aCons, Tgt.asg, R.ok_bind, List.getElem?_cons_zero, List.set_cons_zero, if_true, h1]
  rw [fm_some] at hc
  have hlen : (r.map cellT).length <= 16777216 := by rw [List.length_map]; omega
  unfold cC
  rw [ev_eComp]
  show ((R.ok (r.map cellD)).bind _) = _
  rw [R.ok_bind]
  show (compL (compF (Tgt.one 0).asg (fun _ => .ok true) (eL tuple1D (aCons (eVar 0) aNil)) [none]) (r.map cellD)).bind lstD = _
  rw [hc, R.ok_bind, ev_lstD hlen]
theorem imm_cT (c : List Str) : (cellT c).imm = true := by show D.imms (c.map D.str) = true; exact imms_map (fun _ => rfl) c
theorem c3_ok2 (tb : List (List (List Str))) (m : Nat) (T : Tb tb m) (a b d e f g h i : Option D) : C9 [a, b, some (.lst (tb.map rowD)), d, e, f, g, h, i] = .ok (tabT tb) := by
  have hc := compL_enc (enc := rowD) (xs := tb) (o := fun r => some (rowT r)) (f := compF (Tgt.one 0).asg (fun _ => .ok true) (eL tuple1D (aCons cC aNil)) [none]) fun r hr => by
    have h1 := cC_ok r (by rw [T.row r hr]; have := T.m2; omega)
    have h2 : tuple1D [.lst (r.map cellT)] = .ok (rowT r) := ev_tuple1 (imms_map imm_cT r)
    show noErr ((R.ok [some (rowD r)]).bind _) = _
    rw [R.ok_bind, R.ok_bind, if_pos rfl]
    unfold eL aCons aNil
    rw [h1, R.ok_bind, R.ok_bind, R.ok_bind, h2]
    rfl
  rw [fm_some] at hc
  have hlen : (tb.map rowT).length <= 16777216 := by rw [List.length_map]; have := T.n2; omega
  have hA : eComp [none] (iSeq (eVar 2)) (.one 0) (fun _ => .ok true) (eL tuple1D (aCons cC aNil)) [a, b, some (.lst (tb.map rowD)), d, e, f, g, h, i] = .ok (.lst (tb.map rowT)) := by
    rw [ev_eComp]
    show ((R.ok (tb.map rowD)).bind _) = _
    rw [R.ok_bind]
    show (compL (compF (Tgt.one 0).asg (fun _ => .ok true) (eL tuple1D (aCons cC aNil)) [none]) (tb.map rowD)).bind lstD = _
    rw [hc, R.ok_bind, ev_lstD hlen]
  have hT : C9 = eL tuple1D (aCons (eComp [none] (iSeq (eVar 2)) (.one 0) (fun _ => .ok true) (eL tuple1D (aCons cC aNil))) aNil) := rfl
  have h2 : tuple1D [.lst (tb.map rowT)] = .ok (tabT tb) := ev_tuple1 (imms_map (fun r => by show D.imms (r.map cellT) = true; exact imms_map imm_cT r) tb)
  rw [hT]
  unfold eL aCons aNil
  rw [show eComp [none] (iSeq (eVar 2)) (.one 0) (fun _ => .ok true) (fun τ => (((cC τ).bind fun x => (R.ok []).bind fun xs => R.ok (x :: xs)).bind tuple1D)) [a, b, some (.lst (tb.map rowD)), d, e, f, g, h, i] = .ok (.lst (tb.map rowT)) from hA, R.ok_bind, R.ok_bind, R.ok_bind, h2]
noncomputable def bZ : Tn -> R Fl := (sSeq (sSet 6 (eL F__law_rules (aCons (eVar 0) (aCons (eVar 5) aNil)))) (sSeq (sSet 7 (eL dictAD (aCons (eVar 6) aNil))) (sSeq (sSet 8 (eL F__law_told (aCons (eVar 1) (aCons (eVar 7) (aCons (eVar 3) aNil))))) (sSeq (sIf (bOr (bNot (eTest (eL F__law_good (aCons (eVar 1) (aCons (eVar 3) (aCons (eVar 5) (aCons (eVar 8) aNil))))))) (eTest (eBin (eqR true) (eVar 7) (eVar 6)))) (sRet (eC (.bl false))) sSkip) (sIf (eTest (eUn (isiD "tuple") (eVar 8))) (sAppAt 8 1 (.int 0)) sSkip)))))
theorem bZ_s (scr f Ro TT c : D) (wi : Int) (RL : D) (x y z : Option D) (h1 : F__law_rules [scr, .int wi] = .ok RL) (h2 : dictAD [RL] = .ok RL) (h3 : F__law_told [f, RL, TT] = .ok (.str "too wide")) (h4 : F__law_good [f, TT, .int wi, .str "too wide"] = .ok (.bl true)) (h5 : eqR true RL RL = .ok (.bl false)) :
    bZ [some scr, some f, some Ro, some TT, some c, some (.int wi), x, y, z] = .ok (.nx [some scr, some f, some Ro, some TT, some c, some (.int wi), some RL, some RL, some (.str "too wide")]) := by
  have e1 : isiD "tuple" (.str "too wide") = .ok (.bl false) := rfl
  simp only [bZ, sSkip, sSeq, sSet, sRet, sIf, eVar, eC, eBin, eUn, eL, aNil, aCons, eTest, bOr, bNot, asB, R.ok_bind, List.getElem?_cons_zero, List.getElem?_cons_succ, List.set_cons_zero, List.set_cons_succ, if_false, Bool.false_eq_true, h1, h2, h3, h4, h5, e1, Bool.not_true]
theorem bZ_t (scr f Ro TT c : D) (wi l : Int) (ns : List Int) (hn : ns.length <= 1000) (RL : D) (x y z : Option D) (h1 : F__law_rules [scr, .int wi] = .ok RL) (h2 : dictAD [RL] = .ok RL) (h3 : F__law_told [f, RL, TT] = .ok (.tup [.int l, .lst (ns.map D.int)])) (h4 : F__law_good [f, TT, .int wi, .tup [.int l, .lst (ns.map D.int)]] = .ok (.bl true)) (h5 : eqR true RL RL = .ok (.bl false)) :
    bZ [some scr, some f, some Ro, some TT, some c, some (.int wi), x, y, z] = .ok (.nx [some scr, some f, some Ro, some TT, some c, some (.int wi), some RL, some RL, some (.tup [.int l, .lst (ns.map D.int ++ [.int 0])])]) := by
  have e1 : isiD "tuple" (.tup [.int l, .lst (ns.map D.int)]) = .ok (.bl true) := rfl
  have e2 : sAppAt 8 1 (.int 0) [some scr, some f, some Ro, some TT, some c, some (.int wi), some RL, some RL, some (.tup [.int l, .lst (ns.map D.int)])] = .ok (.nx [some scr, some f, some Ro, some TT, some c, some (.int wi), some RL, some RL, some (.tup [.int l, .lst (ns.map D.int ++ [.int 0])])]) := by
    have ha : appAt [.int l, .lst (ns.map D.int)] 1 (.int 0) = some [.int l, .lst (ns.map D.int ++ [.int 0])] := by
      show ((if (ns.map D.int).length < sizeLine then some [D.lst (ns.map D.int ++ [.int 0])] else none).map (D.int l :: ·)) = _
      rw [if_pos (by rw [List.length_map, sizeLine_eq]; omega)]
      rfl
    unfold sAppAt
    show (match appAt [.int l, .lst (ns.map D.int)] 1 (.int 0) with | some es => R.ok (Fl.nx _) | none => .bad) = _
    rw [ha]
    rfl
  generalize D.tup [.int l, .lst (ns.map D.int)] = Z at *
  simp only [bZ, sSkip, sSeq, sSet, sRet, sIf, eVar, eC, eBin, eUn, eL, aNil, aCons, eTest, bOr, bNot, asB, R.ok_bind, List.getElem?_cons_zero, List.getElem?_cons_succ, List.set_cons_zero, List.set_cons_succ, if_true, if_false, Bool.false_eq_true, h1, h2, h3, h4, h5, e1, e2, Bool.not_true]
theorem lZ (scr f Ro TT c : D) : ∀ (Ws : List Int) (x y z u : Option D), (∀ wi ∈ Ws, ∃ RL fd, F__law_rules [scr, .int wi] = .ok RL /\ dictAD [RL] = .ok RL /\ eqR true RL RL = .ok (.bl false) /\ F__law_told [f, RL, TT] = .ok fd /\ F__law_good [f, TT, .int wi, fd] = .ok (.bl true) /\ (fd = .str "too wide" \/ ∃ (l : Int) (ns : List Int), fd = .tup [.int l, .lst (ns.map D.int)] /\ ns.length <= 1000)) ->
    ∃ x' y' z' u', forGo (Tgt.one 5).asg bZ (Ws.map D.int) [some scr, some f, some Ro, some TT, some c, x, y, z, u] = .ok (.nx [some scr, some f, some Ro, some TT, some c, x', y', z', u'])
  | [], x, y, z, u, _ => ⟨x, y, z, u, rfl⟩
  | wi :: Ws, x, y, z, u, h => by
    obtain ⟨RL, fd, h1, h2, h5, h3, h4, h6⟩ := h wi List.mem_cons_self
    have ea : (Tgt.one 5).asg (.int wi) [some scr, some f, some Ro, some TT, some c, x, y, z, u] = .ok [some scr, some f, some Ro, some TT, some c, some (.int wi), y, z, u] := rfl
    rcases h6 with rfl | ⟨l, ns, rfl, hn⟩
    · obtain ⟨x', y', z', u', e⟩ := lZ scr f Ro TT c Ws (some (.int wi)) (some RL) (some RL) (some (.str "too wide")) fun v hv => h v (List.mem_cons_of_mem _ hv)
      refine ⟨x', y', z', u', ?_⟩
      rw [List.map_cons, ev_forC, ea, R.ok_bind, bZ_s scr f Ro TT c wi RL y z u h1 h2 h3 h4 h5, R.ok_bind, ev_goN]
      exact e
    · obtain ⟨x', y', z', u', e⟩ := lZ scr f Ro TT c Ws (some (.int wi)) (some RL) (some RL) (some (.tup [.int l, .lst (ns.map D.int ++ [.int 0])])) fun v hv => h v (List.mem_cons_of_mem _ hv)
      refine ⟨x', y', z', u', ?_⟩
      rw [List.map_cons, ev_forC, ea, R.ok_bind, bZ_t scr f Ro TT c wi l ns hn RL y z u h1 h2 h3 h4 h5, R.ok_bind, ev_goN]
      exact e
noncomputable def TL (C3 : Tn -> R D) (SF : Tn -> R Fl) : Tn -> R Fl := (sSeq (sSet 1 (eL F__law_face (aCons (eVar 0) aNil))) (sSeq (sSet 2 (eL F__law_table (aCons (eVar 0) aNil))) (sSeq (sSet 3 C3) (sSeq (sSet 4 (eL F__law_room (aCons (eVar 1) (aCons (eVar 3) (aCons (eL F__law_mixed (aCons (eVar 0) (aCons (eC (.int 28)) aNil))) aNil))))) (sSeq SF (sRet (eC (.bl true))))))))
theorem law_seq (C3 : Tn -> R D) (SF : Tn -> R Fl) (scr f Ro TT : D) (n v : Int) (h1 : F__law_face [scr] = .ok f) (h2 : F__law_table [scr] = .ok Ro) (h3 : C3 [some scr, some f, some Ro, none, none, none, none, none, none] = .ok TT) (h4 : F__law_mixed [scr, .int 28] = .ok (.int n)) (h5 : F__law_room [f, TT, .int n] = .ok (.int v))
    (h6 : ∃ x y z u, SF [some scr, some f, some Ro, some TT, some (.int v), none, none, none, none] = .ok (.nx [some scr, some f, some Ro, some TT, some (.int v), x, y, z, u])) : runB 9 (TL C3 SF) [scr] = .ok (.bl true) := by
  obtain ⟨x, y, z, u, h6⟩ := h6
  simp only [TL, runB, sSeq, sSet, sRet, eVar, eC, eL, aNil, aCons, R.ok_bind, List.map_cons, List.map_nil, List.length_cons, List.length_nil, List.replicate_succ, List.replicate_zero, List.cons_append, List.nil_append, List.getElem?_cons_zero, List.getElem?_cons_succ, List.set_cons_zero, List.set_cons_succ, Nat.reduceSub, Nat.zero_add, h1, h2, h3, h4, h5, h6]
theorem law_true (ns : List Int) (h : ns.length <= 63) : F_law [.frl (ns.map D.int)] = .ok (.bl true) := by
  obtain ⟨pl, bl, odd, hf, ho, hpl, hbl, hod⟩ := face_ok ns h
  obtain ⟨wc, h32, hp, hw⟩ := wide_pos pl bl odd ho hpl hbl hod
  obtain ⟨cn, C⟩ := cnt_ex hw h32 hp hbl
  have hf1 : ixD (fc pl bl odd) (.int 1) = .ok (.int bl) := rfl
  obtain ⟨tb, m, T, hTb⟩ := table_ok ns h
  have hcol : ∀ k, CellsOk (col tb k) := fun k => by
    refine ⟨by unfold col; rw [List.length_map]; have := T.n2; omega, fun c hc => ?_⟩
    unfold col at hc
    obtain ⟨r, hr, rfl⟩ := List.mem_map.mp hc
    by_cases hk : k < r.length
    · have e : r.getD k [] = r[k] := by rw [List.getD_eq_getElem?_getD, List.getElem?_eq_getElem hk]; rfl
      rw [e]
      exact T.ok r hr _ (List.getElem_mem _)
    · have e : r.getD k [] = [] := by rw [List.getD_eq_getElem?_getD, List.getElem?_eq_none (by omega)]; rfl
      rw [e]
      exact ⟨by simp, fun x hx => by cases hx⟩
  have key : ∀ (r : Int) (k : Nat), ∃ v : Int, 1 <= r -> F_least_width [fc pl bl odd, .lst ((col tb k).map cellT), .int r] = .ok (.int v) := fun r k => by
    by_cases hr : 1 <= r
    · obtain ⟨_, v, _, _, e, _⟩ := lw_ok hw hf1 hp hbl C (hcol k) r hr
      exact ⟨v, fun _ => e⟩
    · exact ⟨0, fun z => absurd z hr⟩
  have Lw : LW (fc pl bl odd) tb m bl (fun r k => Classical.choose (key r k)) := ⟨fun r k hr _ => Classical.choose_spec (key r k) hr, hf1⟩
  obtain ⟨n2, hn2, _⟩ := mixed ns 2 (by decide) (by decide) h
  obtain ⟨n28, hn28, _⟩ := mixed ns 28 (by decide) (by decide) h
  obtain ⟨n29, hn29, _⟩ := mixed ns 29 (by decide) (by decide) h
  obtain ⟨v1, hv1⟩ := room_ok T Lw n28
  obtain ⟨v2, hv2⟩ := room_ok T Lw n29
  have hC3 := c3_ok2 tb m T (some (.frl (ns.map .int))) (some (fc pl bl odd)) none none none none none none
  obtain ⟨x, y, z, u, e⟩ := lZ (.frl (ns.map .int)) (fc pl bl odd) (.lst (tb.map rowD)) (tabT tb) (.int v1) [v1, v2, v1] none none none none fun wi _ => by
    obtain ⟨fd, q1, q2, q3⟩ := step_ok2 T Lw (dicR wi n2) wi rfl
    exact ⟨dicR wi n2, fd, rules_ok _ wi n2 hn2, rfl, eq_R wi n2, q1, q2, q3⟩
  have hT : F_law = runB 9 (TL C9 (sFor (iSeq (eL (fun ds => .ok (.lst ds)) (aCons (eVar 4) (aCons (eL F__law_room (aCons (eVar 1) (aCons (eVar 3) (aCons (eL F__law_mixed (aCons (eVar 0) (aCons (eC (.int 29)) aNil))) aNil)))) (aCons (eVar 4) aNil))))) (.one 5) bZ)) := rfl
  rw [hT]
  refine law_seq C9 _ _ _ _ _ n28 v1 hf hTb hC3 hn28 hv1 ⟨x, y, z, u, ev_for (ds := [v1, v2, v1].map D.int) ?_ e⟩
  generalize D.frl (ns.map .int) = scr at *
  generalize tabT tb = TT at *
  generalize fc pl bl odd = F at *
  simp only [eVar, eC, eL, aNil, aCons, iSeq, asSeq, R.ok_bind, List.map_cons, List.map_nil, List.getElem?_cons_zero, List.getElem?_cons_succ, hn29, hv2]
end K17

open PySem PySem.W PyProof.Rows L2
set_option maxRecDepth 100000 in
set_option maxHeartbeats 0 in
theorem PySem.Challenge.cw_quirehand_k17_whole_columns_holds : PySem.Challenge.rw_quirehand_k17_whole_columns.Holds := by
  w_on; o_law; k_head; (case hw => w_witness2)
  k_fill
  refine L2.law_walk (l := PySem.Challenge.rw_quirehand_k17_whole_columns) (Fm := K17.F_law) (k := 7) (x := "_law_script") K17.law_true ⟨rfl, by decide, by decide⟩ rfl rfl (fun w h Y => PySem.W.kIn_of Y) ?F
  case F =>
    intro w mg fa h KX G hmg
    refine' K17.all_mk KX G hmg ?a_wide ?l_wide ?c_wide ?k_wide ?a_word_widths ?l_word_widths ?c_word_widths ?k_word_widths ?a_fill ?l_fill ?c_fill ?k_fill ?a_go_in ?l_go_in ?c_go_in ?k_go_in ?a_least_width ?l_least_width ?c_least_width ?k_least_width ?a_between ?l_between ?c_between ?k_between ?a_column_cells ?l_column_cells ?c_column_cells ?k_column_cells ?a_most_lines ?l_most_lines ?c_most_lines ?k_most_lines ?a_columns ?l_columns ?c_columns ?k_columns ?a__law_cell ?l__law_cell ?c__law_cell ?k__law_cell ?a__law_mixed ?l__law_mixed ?c__law_mixed ?k__law_mixed ?a__law_whole ?l__law_whole ?c__law_whole ?k__law_whole ?a__law_face ?l__law_face ?c__law_face ?k__law_face ?a__law_word ?l__law_word ?c__law_word ?k__law_word ?a__law_words ?l__law_words ?c__law_words ?k__law_words ?a__law_table ?l__law_table ?c__law_table ?k__law_table ?a__law_widths ?l__law_widths ?c__law_widths ?k__law_widths ?a__law_breadth ?l__law_breadth ?c__law_breadth ?k__law_breadth ?a__law_room ?l__law_room ?c__law_room ?k__law_room ?a__law_rules ?l__law_rules ?c__law_rules ?k__law_rules ?a__law_told ?l__law_told ?c__law_told ?k__law_told ?a__law_good ?l__law_good ?c__law_good ?k__law_good ?a_law ?l_law ?c_law ?k_law ?z_isinstance ?z_int ?z_bool ?z_str ?z_dict ?z_list ?z_tuple ?z_len ?z_sum ?z_max ?z_min ?z_all ?z_range ?z_enumerate ?z_zip ?y_S ?y_T ?y_X ?y_V ?y_ga ?y_gt ?y_cl ?y_sp ?y_tk ?y_mo ?y_mb ?y_kV ?y_xS ?y_m1 ?y_k1 ?y_m2 ?y_k2 ?y_m3 ?y_k3 ?y_m4 ?y_k4 ?y_m5 ?y_k5 ?y_m6 ?y_k6 ?y_m7 ?y_k7 ?y_m8 ?y_k8 ?y_m9 ?y_k9
    (case a_wide => k_is)
    (case l_wide => k_is)
    (case c_wide => k_is)
    (case k_wide => k_is)
    (case a_word_widths => k_is)
    (case l_word_widths => k_is)
    (case c_word_widths => k_is)
    (case k_word_widths => k_is)
    (case a_fill => k_is)
    (case l_fill => k_is)
    (case c_fill => k_is)
    (case k_fill => k_is)
    (case a_go_in => k_is)
    (case l_go_in => k_is)
    (case c_go_in => k_is)
    (case k_go_in => k_is)
    (case a_least_width => k_is)
    (case l_least_width => k_is)
    (case c_least_width => k_is)
    (case k_least_width => k_is)
    (case a_between => k_is)
    (case l_between => k_is)
    (case c_between => k_is)
    (case k_between => k_is)
    (case a_column_cells => k_is)
    (case l_column_cells => k_is)
    (case c_column_cells => k_is)
    (case k_column_cells => k_is)
    (case a_most_lines => k_is)
    (case l_most_lines => k_is)
    (case c_most_lines => k_is)
    (case k_most_lines => k_is)
    (case a_columns => k_is)
    (case l_columns => k_is)
    (case c_columns => k_is)
    (case k_columns => k_is)
    (case a__law_cell => k_is)
    (case l__law_cell => k_is)
    (case c__law_cell => k_is)
    (case k__law_cell => k_is)
    (case a__law_mixed => k_is)
    (case l__law_mixed => k_is)
    (case c__law_mixed => k_is)
    (case k__law_mixed => k_is)
    (case a__law_whole => k_is)
    (case l__law_whole => k_is)
    (case c__law_whole => k_is)
    (case k__law_whole => k_is)
    (case a__law_face => k_is)
    (case l__law_face => k_is)
    (case c__law_face => k_is)
    (case k__law_face => k_is)
    (case a__law_word => k_is)
    (case l__law_word => k_is)
    (case c__law_word => k_is)
    (case k__law_word => k_is)
    (case a__law_words => k_is)
    (case l__law_words => k_is)
    (case c__law_words => k_is)
    (case k__law_words => k_is)
    (case a__law_table => k_is)
    (case l__law_table => k_is)
    (case c__law_table => k_is)
    (case k__law_table => k_is)
    (case a__law_widths => k_is)
    (case l__law_widths => k_is)
    (case c__law_widths => k_is)
    (case k__law_widths => k_is)
    (case a__law_breadth => k_is)
    (case l__law_breadth => k_is)
    (case c__law_breadth => k_is)
    (case k__law_breadth => k_is)
    (case a__law_room => k_is)
    (case l__law_room => k_is)
    (case c__law_room => k_is)
    (case k__law_room => k_is)
    (case a__law_rules => k_is)
    (case l__law_rules => k_is)
    (case c__law_rules => k_is)
    (case k__law_rules => k_is)
    (case a__law_told => k_is)
    (case l__law_told => k_is)
    (case c__law_told => k_is)
    (case k__law_told => k_is)
    (case a__law_good => k_is)
    (case l__law_good => k_is)
    (case c__law_good => k_is)
    (case k__law_good => k_is)
    (case a_law => k_is)
    (case l_law => k_is)
    (case c_law => k_is)
    (case k_law => k_is)
    (case z_isinstance => k_is)
    (case z_int => k_is)
    (case z_bool => k_is)
    (case z_str => k_is)
    (case z_dict => k_is)
    (case z_list => k_is)
    (case z_tuple => k_is)
    (case z_len => k_is)
    (case z_sum => k_is)
    (case z_max => k_is)
    (case z_min => k_is)
    (case z_all => k_is)
    (case z_range => k_is)
    (case z_enumerate => k_is)
    (case z_zip => k_is)
    (case y_S => k_is)
    (case y_T => k_is)
    (case y_X => k_exc)
    (case y_V => k_is)
    (case y_ga => k_is)
    (case y_gt => k_is)
    (case y_cl => k_is)
    (case y_sp => k_is)
    (case y_tk => k_is)
    (case y_mo => k_is)
    (case y_mb => k_is)
    (case y_kV => kit_is)
    (case y_xS => kts_exm)
    (case y_m1 => k_is)
    (case y_k1 => kit_is)
    (case y_m2 => k_is)
    (case y_k2 => kit_is)
    (case y_m3 => k_is)
    (case y_k3 => kit_is)
    (case y_m4 => k_is)
    (case y_k4 => kit_is)
    (case y_m5 => k_is)
    (case y_k5 => kit_is)
    (case y_m6 => k_is)
    (case y_k6 => kit_is)
    (case y_m7 => k_is)
    (case y_k7 => kit_is)
    (case y_m8 => k_is)
    (case y_k8 => kit_is)
    (case y_m9 => k_is)
    (case y_k9 => kit_is)
#print axioms PySem.Challenge.cw_quirehand_k17_whole_columns_holds

