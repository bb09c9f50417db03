import PyProof.Rows.All
import Wide.All
import OpenK.AllK
import Wide.FinOn
import Lean
import PyProof.EqAt
import PyProof.EqKinds
import PyProof.TupleCall
import PyProof.ZipIter
import PySem.Challenge.RW_quirehand_k03_joints_that_fit

set_option Elab.async false
set_option linter.all false
set_option maxRecDepth 100000
namespace L2
open PySem PySem.Spec PyProof.Rows
inductive Key where
  | inl (i : Int) | inr (x : Str) | non
  deriving DecidableEq
def isNoneV : Value → Bool
  | .none => true
  | _ => false
def keyIs : Key → Value → Bool
  | .inl k, v => Value.isInt k v
  | .inr x, v => Value.isStrOf x v
  | .non, v => isNoneV v
def keyH (w : World) : Key → Int
  | .inl k => hashInt k
  | .inr x => hashStr w x
  | .non => 0xFCA86420
theorem isNoneV_shape {v : Value} (h : isNoneV v = true) : v = .none := by cases v <;> first | rfl | cases h
theorem keyIs_shape : ∀ {k : Key} {v : Value}, keyIs k v = true → (∃ i t, k = Key.inl i ∧ v = Value.int i t) ∨ (∃ x t, k = Key.inr x ∧ v = Value.str x t) ∨ (k = Key.non ∧ v = Value.none)
  | .inl i, v, h => by
    obtain ⟨t, e⟩ := Value.isInt_shape (k := i) (v := v) h
    exact .inl ⟨i, t, rfl, e⟩
  | .inr x, v, h => by
    obtain ⟨t, e⟩ := Value.isStrOf_shape (x := x) (v := v) h
    exact .inr (.inl ⟨x, t, rfl, e⟩)
  | .non, v, h => .inr (.inr ⟨rfl, isNoneV_shape h⟩)
theorem keyIs_int (i : Int) (t : Tok) : keyIs (.inl i) (.int i t) = true := by simp [keyIs, Value.isInt]
theorem keyIs_str (x : Str) (t : Tok) : keyIs (.inr x) (.str x t) = true := by simp [keyIs, Value.isStrOf]
theorem key_ll (a b : Int) : decide (Key.inl a = Key.inl b) = (a == b) := by
  by_cases e : a = b
  · subst e; simp
  · have h : ¬ Key.inl a = Key.inl b := fun q => e (Key.inl.inj q)
    rw [decide_eq_false h]
    exact (beq_eq_false_iff_ne.mpr e).symm
theorem key_rr (a b : Str) : decide (Key.inr a = Key.inr b) = decide (a = b) := by
  by_cases e : a = b
  · subst e; simp
  · have h : ¬ Key.inr a = Key.inr b := fun q => e (Key.inr.inj q)
    rw [decide_eq_false h, decide_eq_false e]
theorem slot_none_hash : Slot "NoneType" "__hash__" "NoneType.__hash__" :=
  .of (owner := "NoneType") (n := "__hash__") (by rw [typeLookup_type]; rw [builtinLookup_eq_fast]; kernel_rfl) (by decide +kernel) (by decide +kernel) (by decide +kernel)
    (by first | exact .inl (by decide +kernel) | exact .inr (by decide +kernel)) (by rw [isSubtype_type] ; kernel_rfl)
theorem entry_none_hash : entryFor table "NoneType.__hash__" = some Builtin.«NoneType.__hash__» := entryFor_of_fast (by kernel_rfl)
theorem args_none_hash (a : Value) : argsOk "NoneType.__hash__" ⟨[a], []⟩ := by unfold argsOk; kernel_rfl
theorem hash_none {prog : Program} {w : World} {A : Around} {E : Value → Shared → Prop} {s : Shared} {Q : Int → Shared → Prop} (h : Q 0xFCA86420 { s with toks := s.toks + 1 }) : wpAny (model prog w) A (pyHash .none) Q E s := by
  have hT : s.TypeIs .none "NoneType" := rfl
  show wpAny _ _ (pyHashByItsType .none) Q E s
  unfold pyHashByItsType
  refine wpAny_bind ?_
  rw [cRoomFor, if_neg (by decide)]
  refine wpAny_pure (wpAny_bind (wpAny_specialOf hT slot_none_hash.lookup ?_))
  rw [if_neg (by decide)]
  refine wpAny_bind (wpAny_specialOf hT slot_none_hash.lookup ?_)
  rw [if_neg (by decide)]
  refine wpAny_bind (wpAny_callSpecialIfBoundUnlessNone?_slot hT slot_none_hash (wpAny_call_entry slot_none_hash hT entry_none_hash ?_ (args_none_hash _)))
  show wpAny _ _ (do ret (← mkInt 0xFCA86420)) _ _ s
  refine wpAny_ret_mkInt ?_
  show wpAny _ _ (pyHashByItsType.reduced 0xFCA86420) Q E _
  unfold pyHashByItsType.reduced
  rw [if_pos (by decide)]
  exact wpAny_pure h
def mixKind (prog : Program) (w : World) : PySem.KeyKind prog w Key where
  is := keyIs
  hash := keyH w
  inj := fun v a b ha hb => by
    rcases keyIs_shape ha with ⟨i, t, rfl, rfl⟩ | ⟨x, t, rfl, rfl⟩ | ⟨rfl, rfl⟩
    · rcases keyIs_shape hb with ⟨j, u, rfl, e⟩ | ⟨y, u, rfl, e⟩ | ⟨rfl, e⟩
      · injection e with e1 _; rw [e1]
      · exact nomatch e
      · exact nomatch e
    · rcases keyIs_shape hb with ⟨j, u, rfl, e⟩ | ⟨y, u, rfl, e⟩ | ⟨rfl, e⟩
      · exact nomatch e
      · injection e with e1 _; rw [e1]
      · exact nomatch e
    · rcases keyIs_shape hb with ⟨j, u, rfl, e⟩ | ⟨y, u, rfl, e⟩ | ⟨rfl, e⟩
      · exact nomatch e
      · exact nomatch e
      · rfl
  byValue := fun k v h => by
    rcases keyIs_shape h with ⟨i, t, rfl, rfl⟩ | ⟨x, t, rfl, rfl⟩ | ⟨rfl, rfl⟩ <;> rfl
  pyHash := fun hv h => by
    rcases keyIs_shape hv with ⟨i, t, rfl, rfl⟩ | ⟨x, t, rfl, rfl⟩ | ⟨rfl, rfl⟩
    · exact wpAny_pyHash_int h
    · exact wpAny_pyHash_str h
    · exact hash_none h
  eqBool := fun hu hv h => by
    rcases keyIs_shape hu with ⟨i, t, rfl, rfl⟩ | ⟨x, t, rfl, rfl⟩ | ⟨rfl, rfl⟩
    · rcases keyIs_shape hv with ⟨j, u, rfl, rfl⟩ | ⟨y, u, rfl, rfl⟩ | ⟨rfl, rfl⟩
      · rw [key_ll] at h; exact wpAny_eqBool_int h
      · rw [decide_eq_false (by intro q; cases q)] at h; exact SeqAt.EqAt.int_str i t y u _ _ _ _ h
      · rw [decide_eq_false (by intro q; cases q)] at h; exact SeqAt.EqAt.int_none i t _ _ _ _ h
    · rcases keyIs_shape hv with ⟨j, u, rfl, rfl⟩ | ⟨y, u, rfl, rfl⟩ | ⟨rfl, rfl⟩
      · rw [decide_eq_false (by intro q; cases q)] at h; exact SeqAt.EqAt.str_int x t j u _ _ _ _ h
      · rw [key_rr] at h; exact wpAny_eqBool_str h
      · rw [decide_eq_false (by intro q; cases q)] at h; exact SeqAt.EqAt.str_none x t _ _ _ _ h
    · rcases keyIs_shape hv with ⟨j, u, rfl, rfl⟩ | ⟨y, u, rfl, rfl⟩ | ⟨rfl, rfl⟩
      · rw [decide_eq_false (by intro q; cases q)] at h; exact SeqAt.EqAt.none_int j u _ _ _ _ h
      · rw [decide_eq_false (by intro q; cases q)] at h; exact SeqAt.EqAt.none_str y u _ _ _ _ h
      · rw [decide_eq_true rfl] at h; exact SeqAt.EqAt.same .none _ _ _ _ h
  «strs» := fun k x t v h => by
    rcases keyIs_shape h with ⟨i, u, rfl, e⟩ | ⟨y, u, rfl, e⟩ | ⟨rfl, e⟩
    · exact nomatch e
    · injection e with e1 _
      subst e1
      cases v <;> rfl
    · exact nomatch e
theorem mixKind_int (prog : Program) (w : World) (i : Int) (t : Tok) : (mixKind prog w).is (.inl i) (.int i t) = true := keyIs_int i t
theorem mixKind_str (prog : Program) (w : World) (x : Str) (t : Tok) : (mixKind prog w).is (.inr x) (.str x t) = true := keyIs_str x t
theorem mixKind_non (prog : Program) (w : World) : (mixKind prog w).is .non .none = true := rfl
end L2
namespace L2
open PySem PySem.Spec PyProof.Rows
inductive V where
  | non | bl (b : Bool) | int (i : Int) | str (x : Str) | byt (b : Array UInt8) | flt (b : UInt64) | ref (a : Addr) | ty (n : String)
  deriving DecidableEq
def RelV : V → Value → Prop
  | .non, u => u = Value.none
  | .bl b, u => u = Value.bool b
  | .int i, u => ∃ t, u = Value.int i t
  | .str x, u => ∃ t, u = Value.str x t
  | .byt b, u => ∃ t, u = Value.bytes b t
  | .flt b, u => ∃ t, u = Value.float b t
  | .ref a, u => u = Value.ref a
  | .ty n, u => u = Value.type n
abbrev Vals : List V → List Value → Prop := Paired RelV
theorem Vals.length {xs : List V} {us : List Value} (r : Vals xs us) : xs.length = us.length := Paired.length r
theorem Vals.get : ∀ {xs : List V} {us : List Value} {i : Nat} {x : V}, Vals xs us → xs[i]? = some x → ∃ u, us[i]? = some u ∧ RelV x u
  | _, _, _, _, .nil, e => by simp at e
  | _, _, 0, _, .cons r _, e => by simp at e; subst e; exact ⟨_, rfl, r⟩
  | _, _, i + 1, x, .cons _ t, e => by
    obtain ⟨u, h1, h2⟩ := Vals.get (i := i) (x := x) t (by simpa using e)
    exact ⟨u, by simpa using h1, h2⟩
theorem Vals.set {x : V} {u : Value} (r : RelV x u) : ∀ {xs : List V} {us : List Value} (i : Nat), Vals xs us → Vals (xs.set i x) (us.set i u)
  | _, _, _, .nil => .nil
  | _, _, 0, .cons _ t => .cons r t
  | _, _, i + 1, .cons q t => .cons q (Vals.set r i t)
theorem Vals.append : ∀ {xs ys : List V} {us ws : List Value}, Vals xs us → Vals ys ws → Vals (xs ++ ys) (us ++ ws)
  | _, _, _, _, .nil, s => s
  | _, _, _, _, .cons r t, s => .cons r (Vals.append t s)
theorem Vals.take : ∀ {xs : List V} {us : List Value} (n : Nat), Vals xs us → Vals (xs.take n) (us.take n)
  | _, _, 0, _ => .nil
  | _, _, _ + 1, .nil => .nil
  | _, _, n + 1, .cons r t => .cons r (Vals.take n t)
theorem Vals.drop : ∀ {xs : List V} {us : List Value} (n : Nat), Vals xs us → Vals (xs.drop n) (us.drop n)
  | _, _, 0, r => r
  | _, _, _ + 1, .nil => .nil
  | _, _, n + 1, .cons _ t => Vals.drop n t
def RelO : Option V → Option Value → Prop
  | some v, some u => RelV v u
  | none, none => True
  | _, _ => False
def KV {κ : Type} : List (κ × V) → List (κ × Value) → Prop := Paired fun (p : κ × V) (q : κ × Value) => p.1 = q.1 ∧ RelV p.2 q.2
def kV : Key → V
  | .inl i => .int i
  | .inr x => .str x
  | .non => .non
def TupN (h : Heap) (a : Addr) (items : Array Value) : Prop := ∃ o, h.get? a = some o ∧ o.cls = .type "tuple" ∧ (o.dict = none ∧ o.slots = #[]) ∧ ∃ n, o.data = .seq items n
theorem TupN.tup {h : Heap} {a : Addr} {items : Array Value} (x : TupN h a items) : IsTup h a items := let ⟨o, ho, hc, _, n, hd⟩ := x; ⟨o, ho, hc, n, hd⟩
theorem TupN.lt {h : Heap} {a : Addr} {items : Array Value} (x : TupN h a items) : a < h.objs.size := x.tup.lt
theorem TupN.new (h : Heap) (items : Array Value) : TupN (h.push { cls := .type "tuple", data := .seq items }) h.objs.size items := ⟨_, Heap.get?_push_size _ rfl, rfl, ⟨rfl, rfl⟩, _, rfl⟩
inductive HO where
    | lst (xs : List V)
    | tup (xs : List V)
    | dK (kvs : List (Key × V)) | dT (kvs : List (List Key × V))
    | set (S : Int → Bool) (n : Nat)
    | ins (C dx : Addr) (fs : List (Str × V))
    | own (x : Addr)
    | xd (fs : List (Str × V))
    | met (f x : Addr)
    | rng (lo hi : Int)
    | frz (o : Obj) (u : HO)
    | tbl (ps : Array Value)
    | ext (φ : Heap → Prop)
abbrev Hp := Addr → Option HO
def upd (H : Hp) (a : Addr) (o : HO) : Hp := fun b => if b = a then some o else H b
theorem upd_same {H : Hp} {a : Addr} {o : HO} : upd H a o a = some o := by unfold upd; rw [if_pos rfl]
theorem upd_ne {H : Hp} {a b : Addr} {o : HO} (h : b ≠ a) : upd H a o b = H b := by unfold upd; rw [if_neg h]
theorem ne_of_none {H : Hp} {a b : Addr} {o : HO} (h : H a = some o) (h' : H b = none) : a ≠ b := by
  intro e; subst e; rw [h] at h'; cases h'
section
variable (P : Program) (w : World)
def ObjOk (H : Hp) (h : Heap) (a : Addr) : HO → Prop
  | .lst xs => xs.length ≤ sizeLine ∧ ∃ (its : List Value) (n : Nat), Vals xs its ∧ h.get? a = some { cls := .type "list", data := .seq its.toArray n }
  | .tup xs => xs.length ≤ sizeLine ∧ ∃ its : List Value, Vals xs its ∧ TupN h a its.toArray
  | .dK kvs => kvs.length ≤ sizeLine ∧ (a == sysModules) = false ∧ ∃ vs, KV kvs vs ∧ h.DictOf (mixKind P w) a vs
  | .dT kvs => kvs.length ≤ sizeLine ∧ (a == sysModules) = false ∧ ∃ xs : List (List Key × Addr × Value),
      Paired (fun (p : List Key × V) (q : List Key × Addr × Value) => p.1 = q.1 ∧ H q.2.1 = some (.tup (p.1.map kV)) ∧ RelV p.2 q.2.2) kvs xs ∧
      ∃ o es ep, h.get? a = some o ∧ o.ExactDict ∧ o.data = .dict es ep ∧ es.toList = xs.map (entryOfKey (tupleKind (mixKind P w))) ∧ (xs.map (·.1)).Nodup
  | .set S n => h.SetOf (intKind P w) a S n
  | .ins C dx fs => H dx = some (.own a) ∧ fs.length ≤ 1000 ∧ dx ≠ a ∧ h.get? a = some (PySem.W.instObj C dx) ∧
      ∃ mA, h.Ns1 dx mA ∧ (∀ f, RelO (fs.lookup f) (mA f)) ∧ PySem.Within mA (fs.map (·.1))
  | .own _ => ∃ o, h.get? a = some o
  | .xd fs => ∃ mA, h.Ns1 a mA ∧ ∀ f, RelO (fs.lookup f) (mA f)
  | .rng lo hi => ∃ t u v, h.get? a = some { cls := .type "range", data := .fields #[.int lo t, .int hi u, .int 1 v] }
  | .frz o u => h.get? a = some o ∧ ObjOk H h a u
  | .tbl ps => h.get? a = some { cls := .none, data := .fields ps }
  | .met f x => h.get? a = some (PySem.W.methodObj (.ref f) (.ref x))
  | .ext φ => φ h ∧ (∃ o, h.get? a = some o) ∧ ∀ h1 h2 : Heap, φ h1 → (∀ o, h1.get? a = some o → h2.get? a = some o) → φ h2
def HOk (H : Hp) (h : Heap) : Prop := ∀ a o, H a = some o → ObjOk P w H h a o
end
section
variable {P : Program} {w : World} {H H' : Hp} {h h' : Heap} {a : Addr} {o : HO}
theorem ObjOk.lt (x : ObjOk P w H h a o) : a < h.objs.size := by
  cases o with
  | lst xs => obtain ⟨_, _, _, _, e⟩ := x; exact Heap.lt_size e
  | tup xs => obtain ⟨_, _, _, p⟩ := x; exact p.lt
  | dK kvs => obtain ⟨_, _, _, _, o, _, _, e, _⟩ := x; exact Heap.lt_size e
  | dT kvs => obtain ⟨_, _, _, _, o, _, _, e, _⟩ := x; exact Heap.lt_size e
  | set S n => obtain ⟨o, _, _, _, e, _⟩ := x; exact Heap.lt_size e
  | ins C dx fs => obtain ⟨_, _, _, e, _⟩ := x; exact Heap.lt_size e
  | own y => obtain ⟨_, e⟩ := x; exact Heap.lt_size e
  | xd fs => obtain ⟨_, ⟨_, _, _, e, _⟩, _⟩ := x; exact Heap.lt_size e
  | rng lo hi => obtain ⟨_, _, _, e⟩ := x; exact Heap.lt_size e
  | frz ob u => obtain ⟨e, _⟩ := x; exact Heap.lt_size e
  | tbl ps => exact Heap.lt_size (show h.get? a = some _ from x)
  | met f y => exact Heap.lt_size (show h.get? a = some _ from x)
  | ext φ => obtain ⟨_, ⟨_, e⟩, _⟩ := x; exact Heap.lt_size e
theorem Paired.mapP {α β : Type} {F G : α → β → Prop} : ∀ {l₁ : List α} {l₂ : List β}, Paired F l₁ l₂ → (∀ a b, F a b → G a b) → Paired G l₁ l₂
  | _, _, .nil, _ => .nil
  | _, _, .cons r t, f => .cons (f _ _ r) (Paired.mapP t f)
theorem ObjOk.stay (x : ObjOk P w H h a o) (k : ∀ b u, (b = a ∨ H b = some (.own a)) → h.get? b = some u → h'.get? b = some u)
    (ho : ∀ b, H b = some (.own a) → H' b = some (.own a)) (ht : ∀ b xs, H b = some (.tup xs) → H' b = some (.tup xs)) : ObjOk P w H' h' a o := by
  induction o with
  | lst xs => obtain ⟨z, its, n, r, e⟩ := x; exact ⟨z, its, n, r, k _ _ (.inl rfl) e⟩
  | tup xs => obtain ⟨z, its, r, ob, e, c⟩ := x; exact ⟨z, its, r, ob, k _ _ (.inl rfl) e, c⟩
  | dK kvs => obtain ⟨z, y, vs, r, ob, es, ep, e, c⟩ := x; exact ⟨z, y, vs, r, ob, es, ep, k _ _ (.inl rfl) e, c⟩
  | dT kvs =>
    obtain ⟨z, y, xs, r, ob, es, ep, e, c⟩ := x
    exact ⟨z, y, xs, Paired.mapP r fun p q z => ⟨z.1, ht _ _ z.2.1, z.2.2⟩, ob, es, ep, k _ _ (.inl rfl) e, c⟩
  | set S n => obtain ⟨ob, es, ep, t, e, c⟩ := x; exact ⟨ob, es, ep, t, k _ _ (.inl rfl) e, c⟩
  | ins C dx fs =>
    obtain ⟨d, z, ne, e, mA, ⟨od, es, ep, e2, c⟩, r⟩ := x
    exact ⟨ho _ d, z, ne, k _ _ (.inl rfl) e, mA, ⟨od, es, ep, k _ _ (.inr d) e2, c⟩, r⟩
  | own y => obtain ⟨ob, e⟩ := x; exact ⟨ob, k _ _ (.inl rfl) e⟩
  | xd fs => obtain ⟨mA, ⟨od, es, ep, e, c⟩, r⟩ := x; exact ⟨mA, ⟨od, es, ep, k _ _ (.inl rfl) e, c⟩, r⟩
  | rng lo hi => obtain ⟨t, u, v, e⟩ := x; exact ⟨t, u, v, k _ _ (.inl rfl) e⟩
  | frz ob u ih => obtain ⟨e, q⟩ := x; exact ⟨k _ _ (.inl rfl) e, ih q⟩
  | tbl ps =>
    have e : h.get? a = some { cls := .none, data := .fields ps } := x
    show h'.get? a = some { cls := .none, data := .fields ps }
    exact k a _ (.inl rfl) e
  | met f y =>
    have e : h.get? a = some (PySem.W.methodObj (.ref f) (.ref y)) := x
    show h'.get? a = some (PySem.W.methodObj (.ref f) (.ref y))
    exact k a _ (.inl rfl) e
  | ext φ => obtain ⟨p, ⟨o, e⟩, st⟩ := x; exact ⟨st _ _ p fun o q => k _ _ (.inl rfl) q, ⟨o, k _ _ (.inl rfl) e⟩, st⟩
theorem HOk.lt (x : HOk P w H h) (e : H a = some o) : a < h.objs.size := (x a o e).lt
theorem HOk.fresh (x : HOk P w H h) (e : h.objs.size ≤ a) : H a = none := by
  cases q : H a with
  | none => rfl
  | some u => exact absurd (Nat.lt_of_lt_of_le (x.lt q) e) (Nat.lt_irrefl _)
theorem HOk.kept (x : HOk P w H h) (k : ∀ b u, h.get? b = some u → h'.get? b = some u) : HOk P w H h' := fun a o e =>
  (x a o e).stay (fun b u _ q => k b u q) (fun _ q => q) fun _ _ q => q
theorem HOk.laid (x : HOk P w H h) (k : ∀ b u, h.get? b = some u → h'.get? b = some u) (hp : h.objs.size ≤ a) (new : ObjOk P w (upd H a o) h' a o) : HOk P w (upd H a o) h' := fun b u e => by
  have hn := x.fresh hp
  by_cases hb : b = a
  · subst hb; rw [upd_same] at e; cases e; exact new
  · rw [upd_ne hb] at e
    exact (x b u e).stay (fun c v _ q => k c v q) (fun c q => by rw [upd_ne (ne_of_none q hn)]; exact q) fun c xs q => by rw [upd_ne (ne_of_none q hn)]; exact q
end
def Rd (H : Hp) (a : Addr) (u : HO) : Prop := H a = some u ∨ ∃ o, H a = some (.frz o u)
theorem Rd.of {H : Hp} {a : Addr} {u : HO} (h : H a = some u) : Rd H a u := .inl h
theorem Rd.ok {P : Program} {w : World} {H : Hp} {h : Heap} {a : Addr} {u : HO} (r : Rd H a u) (x : HOk P w H h) : ObjOk P w H h a u := by
  rcases r with r | ⟨o, r⟩
  · exact x a u r
  · obtain ⟨_, q⟩ := x a _ r
    exact q
def Mut : Option HO → Prop
  | some (.lst _) => True
  | some (.dK _) => True
  | some (.dT _) => True
  | some (.set _ _) => True
  | some (.ins _ _ _) => True
  | some (.ext _) => True
  | _ => False
section
variable {P : Program} {w : World} {H : Hp} {h h' : Heap} {x e : Addr} {o' : HO}
theorem HOk.write (ok : HOk P w H h) (mu : Mut (H x)) (he : e = x ∨ H e = some (.own x)) (k : ∀ b u, b ≠ e → h.get? b = some u → h'.get? b = some u) (heo : ∃ u, h'.get? e = some u)
    (new : ObjOk P w (upd H x o') h' x o') : HOk P w (upd H x o') h' := fun b u q => by
  have nown : ∀ c y, H c = some (.own y) → c ≠ x := fun c y r z => by subst z; rw [r] at mu; exact mu
  have ntup : ∀ c xs, H c = some (.tup xs) → c ≠ x := fun c xs r z => by subst z; rw [r] at mu; exact mu
  by_cases hb : b = x
  · subst hb; rw [upd_same] at q; cases q; exact new
  · rw [upd_ne hb] at q
    by_cases hbe : b = e
    · have q' : H b = some (.own x) := by
        rcases he with z | z
        · exact absurd (hbe.trans z) hb
        · rw [hbe]; exact z
      rw [q] at q'; cases q'
      obtain ⟨v, hv⟩ := heo
      exact ⟨v, by rw [hbe]; exact hv⟩
    · refine (ok b u q).stay (fun c v hc r => k c v ?_ r) (fun c r => by rw [upd_ne (nown c b r)]; exact r) fun c xs r => by rw [upd_ne (ntup c xs r)]; exact r
      rcases hc with rfl | hc
      · exact hbe
      · rintro rfl
        rcases he with z | z
        · exact nown c b hc z
        · rw [hc] at z; cases z; exact hb rfl
end
structure Un (fs ex : List Addr) (H H' : Hp) (h h' : Heap) : Prop where
  keep : ∀ b o, h.get? b = some o → H b = none → b ∉ fs → b ∉ ex → h'.get? b = some o
  slot : ∀ b o, h.get? b = some o → H b = none → b ∈ fs → b ∉ ex → ∃ sl, h'.get? b = some { o with slots := sl }
  free : ∀ b o, h.get? b = some o → H b = none → b ∉ ex → H' b = none
  there : ∀ b o, h.get? b = some o → b ∉ ex → ∃ o', h'.get? b = some o'
  tups : ∀ b xs, H b = some (.tup xs) → H' b = some (.tup xs)
  frzs : ∀ b o u, H b = some (.frz o u) → H' b = some (.frz o u)
  tbls : ∀ b ps, H b = some (.tbl ps) → ∃ more, H' b = some (.tbl (ps ++ more))
section
variable {fs fs' ex ex' : List Addr} {H H1 H2 : Hp} {h h1 h2 h' : Heap} {a x e : Addr} {o : HO}
theorem Un.any (u : Un fs ex H H1 h h1) {b : Addr} {ob : Obj} (q : h.get? b = some ob) (n : H b = none) (hx : b ∉ ex) : ∃ sl, h1.get? b = some { ob with slots := sl } := by
  by_cases hb : b ∈ fs
  · exact u.slot b ob q n hb hx
  · exact ⟨ob.slots, u.keep b ob q n hb hx⟩
theorem Un.trans (a : Un fs ex H H1 h h1) (b : Un fs ex H1 H2 h1 h2) : Un fs ex H H2 h h2 where
  keep := fun c ob q n hc hx => b.keep c ob (a.keep c ob q n hc hx) (a.free c ob q n hx) hc hx
  slot := fun c ob q n hc hx => by
    obtain ⟨sl, e1⟩ := a.slot c ob q n hc hx
    obtain ⟨sl', e2⟩ := b.slot c _ e1 (a.free c ob q n hx) hc hx
    exact ⟨sl', e2⟩
  free := fun c ob q n hx => by
    obtain ⟨o', e1⟩ := a.there c ob q hx
    exact b.free c o' e1 (a.free c ob q n hx) hx
  there := fun c ob q hx => by
    obtain ⟨o', e1⟩ := a.there c ob q hx
    exact b.there c o' e1 hx
  tups := fun c xs q => b.tups c xs (a.tups c xs q)
  frzs := fun c ob xs q => b.frzs c ob xs (a.frzs c ob xs q)
  tbls := fun c ps q => by
    obtain ⟨m1, e1⟩ := a.tbls c ps q
    obtain ⟨m2, e2⟩ := b.tbls c _ e1
    exact ⟨m1 ++ m2, by rw [e2, Array.append_assoc]⟩
theorem Un.kept (k : ∀ b u, h.get? b = some u → h'.get? b = some u) : Un fs ex H H h h' :=
  ⟨fun b ob q _ _ _ => k b ob q, fun b ob q _ _ _ => ⟨ob.slots, k b ob q⟩, fun _ _ _ n _ => n, fun b ob q _ => ⟨ob, k b ob q⟩, fun _ _ q => q, fun _ _ _ q => q, fun _ ps q => ⟨#[], by rw [q]; simp⟩⟩
theorem Un.refl : Un fs ex H H h h := Un.kept fun _ _ q => q
theorem Un.laid (k : ∀ b u, h.get? b = some u → h'.get? b = some u) (hp : h.objs.size ≤ a) (hn : H a = none) : Un fs ex H (upd H a o) h h' where
  keep := fun b u q _ _ _ => k b u q
  slot := fun b u q _ _ _ => ⟨u.slots, k b u q⟩
  free := fun b u q n _ => by rw [upd_ne (Nat.ne_of_lt (Nat.lt_of_lt_of_le (Heap.lt_size q) hp))]; exact n
  there := fun b u q _ => ⟨u, k b u q⟩
  tups := fun b xs q => by rw [upd_ne (ne_of_none q hn)]; exact q
  frzs := fun b u xs q => by rw [upd_ne (ne_of_none q hn)]; exact q
  tbls := fun b ps q => ⟨#[], by rw [upd_ne (ne_of_none q hn), q]; simp⟩
theorem Un.write (mu : Mut (H x)) (he : e = x ∨ H e = some (.own x)) (k : ∀ b u, b ≠ e → h.get? b = some u → h'.get? b = some u) (heo : ∃ u, h'.get? e = some u) : Un fs ex H (upd H x o) h h' := by
  have hx : ∀ b, H b = none → b ≠ x := fun b n z => by subst z; rw [n] at mu; exact mu
  have hb : ∀ b, H b = none → b ≠ e := fun b n z => by
    subst z
    rcases he with r | r
    · exact hx b n r
    · rw [n] at r; cases r
  have hm : ∀ b u, H b = some u → ¬ Mut (some u) → b ≠ x := fun b u q nm z => by subst z; rw [q] at mu; exact nm mu
  refine ⟨fun b u q n _ _ => k b u (hb b n) q, fun b u q n _ _ => ⟨u.slots, k b u (hb b n) q⟩, fun b u q n _ => by rw [upd_ne (hx b n)]; exact n, fun b u q _ => ?_,
    fun b xs q => by rw [upd_ne (hm b _ q fun z => z)]; exact q, fun b u xs q => by rw [upd_ne (hm b _ q fun z => z)]; exact q, fun b ps q => ⟨#[], by rw [upd_ne (hm b _ q fun z => z), q]; simp⟩⟩
  by_cases hbe : b = e
  · subst hbe; exact heo
  · exact ⟨u, k b u hbe q⟩
theorem Un.mono (u : Un fs ex H H1 h h1) (hs : ∀ b ∈ fs, b ∈ fs') (hx : ∀ b ∈ ex, b ∈ ex') : Un fs' ex' H H1 h h1 :=
  ⟨fun b ob q n hb he => u.keep b ob q n (fun z => hb (hs b z)) fun z => he (hx b z), fun _ _ q n _ he => u.any q n fun z => he (hx _ z), fun b ob q n he => u.free b ob q n fun z => he (hx b z), fun b ob q he => u.there b ob q fun z => he (hx b z), u.tups, u.frzs, u.tbls⟩
end
def trk (h : Heap) (H : Hp) : List Addr := (List.range h.objs.size).filter fun a => (H a).isSome
def hidT (h : Heap) (H : Hp) : Heap := PySem.W.hideAll h (trk h H)
theorem hidT_size (h : Heap) (H : Hp) : (hidT h H).objs.size = h.objs.size := PySem.W.hideAll_size _ _
theorem hidT_get {h : Heap} {H : Hp} {b : Addr} {o : Obj} (e : h.get? b = some o) (n : H b = none) : (hidT h H).get? b = some o :=
  PySem.W.hideAll_get _ e fun hm => by
    have q : (H b).isSome = true := (List.mem_filter.mp hm).2
    rw [n] at q; simp at q
theorem of_hidT {h : Heap} {H : Hp} {b : Addr} {o : Obj} (e : (hidT h H).get? b = some o) : h.get? b = some o ∧ H b = none := by
  have e' : h.get? b = some o := PySem.W.of_hideAll (trk h H) e
  refine ⟨e', ?_⟩
  cases q : H b with
  | none => rfl
  | some x =>
    have hm : b ∈ trk h H := List.mem_filter.mpr ⟨List.mem_range.mpr (Heap.lt_size e'), by simp [q]⟩
    have z : (hidT h H).get? b = none := PySem.W.hideAll_none (trk h H) hm
    rw [z] at e; cases e
def allNews (g h : Heap) (L : Addr) : List (Addr × Obj) := (List.range h.objs.size).filterMap fun a => if a = L ∨ (g.get? a).isSome = true then none else (h.get? a).map fun o => (a, o)
def rest (g h : Heap) (L d : Addr) : List (Addr × Obj) := (allNews g h L).filter fun p => decide (p.1 ≠ d)
end L2
namespace L2
open PySem PySem.Spec PyProof.Rows
structure Mod (K : PySem.W.Frag) (mg : Str → Option Value) (base : Heap) : Prop where
  kin : K.In base
  glob : base.Ns mainGlobals mg
  blt : ∃ mb, base.Ns builtinsNs mb ∧ ∀ x : Str, x ≠ "__name__" → mb x = bootBuiltins x
  nolimit : base.NoLimit
structure Cx where
  prog : Program
  w : World
  K : PySem.W.Frag
  mg : Str → Option Value
  base : Heap
  A : Around
  N : List Str
  s₀ : Shared
  H₀ : Hp
  env : Env
  outer : List Env
  stack : List Env
  ex : List Addr
  fn : Str → Bool
  calm : Bool
  pn : List (Addr × Obj)
  xe : Value → Shared → Prop
def frs (l : List Env) : List Addr := l.filterMap (·.frame)
abbrev Cx.fs (X : Cx) : List Addr := frs X.outer
def Vis (sc : Scope) (x : Str) : Prop := sc.names.lookup x = some .local ∨ sc.names.lookup x = some .cell ∨ sc.names.lookup x = some .free
def Loc (sc : Scope) (x : Str) : Prop := sc.names.lookup x = some .local ∨ sc.names.lookup x = some .cell
def Look (env : Env) (h : Heap) (m : Str → Option Value) (x : Str) (u : Value) : Prop :=
  (env.kindOf x = some .local ∧ m x = some u) ∨ ((env.kindOf x = some .cell ∨ env.kindOf x = some .free) ∧ ∃ c, env.cells.lookup x = some c ∧ h.IsCell c (some u))
structure Cx.Ok (X : Cx) : Prop where
  mod : Mod X.K X.mg X.base
  kind : X.env.scope.kind = .function
  glob : X.env.globals = mainGlobals
  blt : X.env.builtins = builtinsNs
  above : X.s₀.heap.objs.size ≤ X.env.locals
  inj : ∀ x y c, X.env.cells.lookup x = some c → X.env.cells.lookup y = some c → x = y
  has : ∀ x, (X.env.kindOf x = some .cell ∨ X.env.kindOf x = some .free) → ∃ c, X.env.cells.lookup x = some c
  cab : ∀ x c, X.fn x = true → X.env.cells.lookup x = some c → X.s₀.heap.objs.size ≤ c
  hd : X.calm = true → X.A.handled = none
  frames : X.A.frames = some X.stack
  stk : X.stack = X.outer ∨ (X.stack = X.env :: X.outer ∧ X.env.frame = some X.env.locals)
  exf : ∀ b ∈ X.ex, b ≠ X.env.locals ∧ ∀ x c, X.env.cells.lookup x = some c → c ≠ b
  bs : ∀ b o, X.base.get? b = some o → X.s₀.heap.get? b = some o ∧ X.H₀ b = none
  bsz : X.base.objs.size ≤ X.s₀.heap.objs.size
  noex : ∀ b o, X.base.get? b = some o → b ∉ X.ex
  exfs : ∀ b ∈ X.ex, b ∉ X.fs
  funs : X.s₀.heap.FunFrames X.base X.outer
  frf : ∀ b ∈ X.fs, X.H₀ b = none
structure Inv (X : Cx) (pins : List (Addr × Obj)) (σ : List (Option V)) (H : Hp) (s : Shared) : Prop where
  ok : X.Ok
  os : s.os = X.s₀.os
  bare : AllBare s.gens
  base : Un X.fs X.ex X.H₀ H X.s₀.heap s.heap
  loc : ∃ m, s.heap.Ns X.env.locals m ∧ ∀ (i : Nat) (x : Str) (v : V), X.N[i]? = some x → σ[i]? = some (some v) → Vis X.env.scope x → ∃ u, RelV v u ∧ Look X.env s.heap m x u
  cell : ∀ x c, X.env.cells.lookup x = some c → ∃ v, s.heap.IsCell c v
  free : H X.env.locals = none
  freeC : ∀ x c, X.env.cells.lookup x = some c → H c = none
  pin : ∀ p ∈ X.pn ++ pins, s.heap.get? p.1 = some p.2 ∧ H p.1 = none ∧ p.1 ≠ X.env.locals ∧ p.1 ∉ X.fs ∧ ∀ v, p.2.data ≠ .cell v
  hok : HOk X.prog X.w H s.heap
  len : σ.length = X.N.length
section
variable {X : Cx} {pins : List (Addr × Obj)} {σ : List (Option V)} {H H' : Hp} {s : Shared} {h' : Heap}
theorem Cx.Ok.nofr (ok : X.Ok) {b : Addr} {o : Obj} (e : X.base.get? b = some o) : b ∉ X.fs := fun hb => by
  have := (ok.funs.mem hb).1
  rw [e] at this; cases this
theorem Inv.bs (I : Inv X pins σ H s) : ∀ b o, X.base.get? b = some o → s.heap.get? b = some o ∧ H b = none := fun b o e =>
  ⟨I.base.keep b o (I.ok.bs b o e).1 (I.ok.bs b o e).2 (I.ok.nofr e) (I.ok.noex b o e), I.base.free b o (I.ok.bs b o e).1 (I.ok.bs b o e).2 (I.ok.noex b o e)⟩
theorem Inv.bk (I : Inv X pins σ H s) : ∀ b o, X.base.get? b = some o → s.heap.get? b = some o := fun b o e => (I.bs b o e).1
theorem Inv.mod (I : Inv X pins σ H s) : Mod X.K X.mg X.base := I.ok.mod
theorem Inv.kIn (I : Inv X pins σ H s) : X.K.In s.heap := I.ok.mod.kin.keeps I.bk
theorem Inv.nolimit (I : Inv X pins σ H s) : s.heap.NoLimit := I.ok.mod.nolimit.keeps I.bk
theorem Inv.fr (I : Inv X pins σ H s) : ∃ m, Fr X.base X.env.locals s.heap m :=
  let ⟨m, hn, _⟩ := I.loc
  ⟨m, hn, I.bk, Nat.le_trans I.ok.bsz I.ok.above⟩
theorem Inv.lt (I : Inv X pins σ H s) : X.env.locals < s.heap.objs.size := let ⟨_, hn, _⟩ := I.loc; hn.lt
theorem Inv.sz (I : Inv X pins σ H s) : X.s₀.heap.objs.size ≤ s.heap.objs.size := Nat.le_trans I.ok.above (Nat.le_of_lt I.lt)
theorem Inv.nofs (I : Inv X pins σ H s) {a : Addr} (h : s.heap.objs.size ≤ a) : a ∉ X.fs := fun hb => by
  obtain ⟨_, o, ho, _⟩ := I.ok.funs.mem hb
  exact absurd (Nat.lt_of_lt_of_le (Heap.lt_size ho) (Nat.le_trans I.sz h)) (Nat.lt_irrefl _)
theorem Inv.cne (I : Inv X pins σ H s) : ∀ x c, X.env.cells.lookup x = some c → c ≠ X.env.locals := fun x c e z => by
  obtain ⟨v, o, ho, hd⟩ := I.cell x c e
  obtain ⟨m, ⟨o', es, ep, ho', hd', _⟩, _⟩ := I.loc
  rw [z, ho'] at ho; cases ho; rw [hd'] at hd; cases hd
theorem Inv.funs (I : Inv X pins σ H s) : s.heap.FunFrames X.base X.outer := by
  have all : ∀ (l : List Env), (∀ b ∈ frs l, b ∈ X.fs) → X.s₀.heap.FunFrames X.base l → s.heap.FunFrames X.base l := by
    intro l
    induction l with
    | nil => intro _ _; trivial
    | cons env r ih =>
      intro hs hl
      obtain ⟨hk, ⟨L, o, hf, hn, ho, hd⟩, hr⟩ := hl
      have hL : L ∈ X.fs := hs L (by unfold frs; rw [List.filterMap_cons, hf]; exact List.mem_cons_self)
      obtain ⟨sl, e⟩ := I.base.slot L o ho (I.ok.frf L hL) hL fun z => I.ok.exfs L z hL
      exact ⟨hk, ⟨L, _, hf, hn, e, hd⟩, ih (fun b hb => hs b (by unfold frs; rw [List.filterMap_cons, hf]; exact List.mem_cons_of_mem _ hb)) hr⟩
  exact all X.outer (fun _ hb => hb) I.ok.funs
theorem Inv.stack (I : Inv X pins σ H s) : s.heap.FunFrames X.base X.stack := by
  rcases I.ok.stk with e | ⟨e, hf⟩
  · rw [e]; exact I.funs
  · rw [e]
    obtain ⟨m, hn, _⟩ := I.loc
    refine .cons (by rw [I.ok.kind]; decide) hf hn ?_ I.funs
    exact Heap.get?_none_of_le (Nat.le_trans I.ok.bsz I.ok.above)
theorem Inv.stkSub (I : Inv X pins σ H s) : ∀ b ∈ frs X.stack, b ∈ X.env.locals :: X.fs := fun b hb => by
  rcases I.ok.stk with e | ⟨e, hf⟩
  · rw [e] at hb; exact List.mem_cons_of_mem _ hb
  · rw [e] at hb
    unfold frs at hb
    rw [List.filterMap_cons, hf] at hb
    exact hb
theorem Inv.stkFree (I : Inv X pins σ H s) : ∀ b ∈ frs X.stack, H b = none := fun b hb => by
  rcases List.mem_cons.mp (I.stkSub b hb) with e | hb
  · rw [e]; exact I.free
  · obtain ⟨_, o, ho, _⟩ := I.ok.funs.mem hb
    exact I.base.free b o ho (I.ok.frf b hb) fun z => I.ok.exfs b z hb
theorem Inv.step {g' : Array GenState} {t' : Nat} {d' : Drawn} {ch : List Addr} (I : Inv X pins σ H s)
    (hch : ∀ b ∈ ch, (b ∈ X.ex ∨ X.s₀.heap.objs.size ≤ b) ∧ b ≠ X.env.locals ∧ (∀ x c, X.env.cells.lookup x = some c → c ≠ b) ∧ ∀ p ∈ X.pn ++ pins, p.1 ≠ b)
    (keep : ∀ b o, b ≠ X.env.locals → b ∉ X.fs → b ∉ ch → s.heap.get? b = some o → H b = none → h'.get? b = some o)
    (slot : ∀ b o, b ≠ X.env.locals → b ∈ X.fs → b ∉ ch → s.heap.get? b = some o → H b = none → ∃ sl, h'.get? b = some { o with slots := sl }) (free : ∀ b o, b ∉ ch → s.heap.get? b = some o → H b = none → H' b = none)
    (there : ∀ b o, b ∉ ch → s.heap.get? b = some o → ∃ o', h'.get? b = some o')
    (tups : ∀ b xs, H b = some (.tup xs) → H' b = some (.tup xs)) (frzs : ∀ b o u, H b = some (.frz o u) → H' b = some (.frz o u)) (tbls : ∀ b ps, H b = some (.tbl ps) → ∃ more, H' b = some (.tbl (ps ++ more)))
    (ns : ∀ m, s.heap.Ns X.env.locals m → h'.Ns X.env.locals m) (hok : HOk X.prog X.w H' h') (hg : AllBare g') :
    Inv X pins σ H' { s with heap := h', gens := g', drawn := d', toks := t' } := by
  have neL : ∀ b o, X.s₀.heap.get? b = some o → b ≠ X.env.locals := fun b o e => Nat.ne_of_lt (Nat.lt_of_lt_of_le (Heap.lt_size e) I.ok.above)
  have neC : ∀ b o, X.s₀.heap.get? b = some o → b ∉ X.ex → b ∉ ch := fun b o e hx hb => by
    rcases (hch b hb).1 with z | z
    · exact hx z
    · exact absurd (Nat.lt_of_lt_of_le (Heap.lt_size e) z) (Nat.lt_irrefl _)
  have cellK : ∀ x c, X.env.cells.lookup x = some c → ∀ v, s.heap.IsCell c v → h'.IsCell c v := fun x c e v ⟨o, ho, hd⟩ => by
    have nch : c ∉ ch := fun z => (hch c z).2.2.1 x c e rfl
    by_cases hc : c ∈ X.fs
    · obtain ⟨sl, q⟩ := slot c o (I.cne x c e) hc nch ho (I.freeC x c e)
      exact ⟨_, q, hd⟩
    · exact ⟨o, keep c o (I.cne x c e) hc nch ho (I.freeC x c e), hd⟩
  refine ⟨I.ok, I.os, hg, ⟨fun b o e n hb hx => ?_, fun b o e n hb hx => ?_, fun b o e n hx => ?_, fun b o e hx => ?_, fun b xs e => tups b xs (I.base.tups b xs e), fun b o xs e => frzs b o xs (I.base.frzs b o xs e), fun b ps e => ?_⟩, ?_, fun x c e => ?_, ?_, fun x c e => ?_, fun p hp => ?_, hok, I.len⟩
  · exact keep b o (neL b o e) hb (neC b o e hx) (I.base.keep b o e n hb hx) (I.base.free b o e n hx)
  · obtain ⟨sl, e1⟩ := I.base.slot b o e n hb hx
    obtain ⟨sl', e2⟩ := slot b _ (neL b o e) hb (neC b o e hx) e1 (I.base.free b o e n hx)
    exact ⟨sl', e2⟩
  · obtain ⟨o', e1⟩ := I.base.there b o e hx
    exact free b o' (neC b o e hx) e1 (I.base.free b o e n hx)
  · obtain ⟨o', e1⟩ := I.base.there b o e hx
    exact there b o' (neC b o e hx) e1
  · obtain ⟨m1, e1⟩ := I.base.tbls b ps e
    obtain ⟨m2, e2⟩ := tbls b _ e1
    exact ⟨m1 ++ m2, by rw [e2, Array.append_assoc]⟩
  · obtain ⟨m, hn, hl⟩ := I.loc
    refine ⟨m, ns m hn, fun i x v e1 e2 e3 => ?_⟩
    obtain ⟨u, r, l⟩ := hl i x v e1 e2 e3
    refine ⟨u, r, ?_⟩
    rcases l with l | ⟨k, c, e, z⟩
    · exact .inl l
    · exact .inr ⟨k, c, e, cellK x c e _ z⟩
  · obtain ⟨v, z⟩ := I.cell x c e
    exact ⟨v, cellK x c e v z⟩
  · obtain ⟨m, ⟨o, _, _, ho, _⟩, _⟩ := I.loc
    exact free _ o (fun z => (hch _ z).2.1 rfl) ho I.free
  · obtain ⟨v, o, ho, hd⟩ := I.cell x c e
    exact free c o (fun z => (hch c z).2.2.1 x c e rfl) ho (I.freeC x c e)
  · obtain ⟨e, n, ne, nf, d⟩ := I.pin p hp
    have nch : p.1 ∉ ch := fun z => (hch p.1 z).2.2.2 p hp rfl
    exact ⟨keep p.1 p.2 ne nf nch e n, free p.1 p.2 nch e n, ne, nf, d⟩
theorem Inv.un {t' : Nat} (I : Inv X pins σ H s) (u : Un X.fs [] H H' s.heap h') (hok : HOk X.prog X.w H' h') : Inv X pins σ H' { s with heap := h', toks := t' } := by
  obtain ⟨m, ⟨o, es, ep, ho, r⟩, _⟩ := id I.loc
  obtain ⟨sl, hL⟩ := u.any ho I.free (by simp)
  exact I.step (g' := s.gens) (d' := s.drawn) (ch := []) (fun _ z => nomatch z) (fun b o _ hb _ e n => u.keep b o e n hb (by simp)) (fun b o _ hb _ e n => u.slot b o e n hb (by simp)) (fun b o _ e n => u.free b o e n (by simp)) (fun b o _ e => u.there b o e (by simp)) u.tups u.frzs u.tbls (fun m' hm => by
    obtain ⟨o', es', ep', ho', r'⟩ := hm
    rw [ho] at ho'; cases ho'
    exact ⟨_, es', ep', hL, r'⟩) hok I.bare
theorem Inv.call {g' : Array GenState} {t' : Nat} {d' : Drawn} {ch : List Addr} (I : Inv X pins σ H s) (u : Un (frs X.stack) ch H H' s.heap h') (hok : HOk X.prog X.w H' h') (hg : AllBare g')
    (hch : ∀ b ∈ ch, (b ∈ X.ex ∨ X.s₀.heap.objs.size ≤ b) ∧ b ≠ X.env.locals ∧ (∀ x c, X.env.cells.lookup x = some c → c ≠ b) ∧ ∀ p ∈ X.pn ++ pins, p.1 ≠ b) :
    Inv X pins σ H' { s with heap := h', gens := g', drawn := d', toks := t' } := by
  obtain ⟨m, ⟨o, es, ep, ho, r⟩, _⟩ := id I.loc
  obtain ⟨sl, hL⟩ := u.any ho I.free fun z => (hch _ z).2.1 rfl
  exact I.step (ch := ch) hch (fun b o hL hb hc e n => u.keep b o e n (fun z => (List.mem_cons.mp (I.stkSub b z)).elim hL hb) hc) (fun b o _ _ hc e n => u.any e n hc) (fun b o hc e n => u.free b o e n hc) (fun b o hc e => u.there b o e hc) u.tups u.frzs u.tbls (fun m' hm => by
    obtain ⟨o', es', ep', ho', r'⟩ := hm
    rw [ho] at ho'; cases ho'
    exact ⟨_, es', ep', hL, r'⟩) hok hg
theorem Inv.turned {t' : Nat} {it : Addr} (I : Inv X pins σ H s) (k : ∀ b o, b ≠ it → s.heap.get? b = some o → h'.get? b = some o) (hn : H it = none) (hL : it ≠ X.env.locals)
    (h1 : it ∈ X.ex ∨ X.s₀.heap.objs.size ≤ it) (h2 : ∀ x c, X.env.cells.lookup x = some c → c ≠ it) (h3 : ∀ p ∈ X.pn ++ pins, p.1 ≠ it) : Inv X pins σ H { s with heap := h', toks := t' } := by
  have nit : ∀ b u, H b = some u → b ≠ it := fun b u e z => by rw [z, hn] at e; cases e
  refine I.step (g' := s.gens) (d' := s.drawn) (ch := [it]) (fun b hb => ?_) (fun b o _ _ hc e _ => k b o (fun z => hc (by simp [z])) e) (fun b o _ _ hc e _ => ⟨o.slots, k b o (fun z => hc (by simp [z])) e⟩) (fun _ _ _ _ n => n)
    (fun b o hc e => ⟨o, k b o (fun z => hc (by simp [z])) e⟩) (fun _ _ e => e) (fun _ _ _ e => e) (fun b ps e => ⟨#[], by rw [e]; simp⟩) (fun m hm => ?_) (fun b u e => ?_) I.bare
  · have e : b = it := by simpa using hb
    subst e
    exact ⟨h1, hL, h2, h3⟩
  · obtain ⟨o, es, ep, ho, r⟩ := hm
    exact ⟨o, es, ep, k _ o (Ne.symm hL) ho, r⟩
  · refine (I.hok b u e).stay (fun c v hc q => k c v ?_ q) (fun _ q => q) fun _ _ q => q
    rcases hc with z | z
    · rw [z]; exact nit b u e
    · exact nit c _ z
theorem Inv.tok (I : Inv X pins σ H s) (t : Nat) : Inv X pins σ H { s with toks := t } := I.un (h' := s.heap) (t' := t) Un.refl I.hok
theorem Inv.kept {t' : Nat} (I : Inv X pins σ H s) (k : ∀ b u, s.heap.get? b = some u → h'.get? b = some u) : Inv X pins σ H { s with heap := h', toks := t' } := I.un (Un.kept k) (I.hok.kept k)
theorem Inv.laid {a : Addr} {o : HO} {t' : Nat} (I : Inv X pins σ H s) (k : ∀ b u, s.heap.get? b = some u → h'.get? b = some u) (hp : s.heap.objs.size ≤ a) (new : ObjOk X.prog X.w (upd H a o) h' a o) :
    Inv X pins σ (upd H a o) { s with heap := h', toks := t' } := I.un (Un.laid k hp (I.hok.fresh hp)) (I.hok.laid k hp new)
theorem Inv.write {x e : Addr} {o : HO} {t' : Nat} (I : Inv X pins σ H s) (mu : Mut (H x)) (he : e = x ∨ H e = some (.own x)) (k : ∀ b u, b ≠ e → s.heap.get? b = some u → h'.get? b = some u) (heo : ∃ u, h'.get? e = some u)
    (new : ObjOk X.prog X.w (upd H x o) h' x o) : Inv X pins σ (upd H x o) { s with heap := h', toks := t' } := I.un (Un.write mu he k heo) (I.hok.write mu he k heo new)
theorem Inv.weak {σ' : List (Option V)} (I : Inv X pins σ H s) (hl : σ'.length = σ.length) (w : ∀ (i : Nat) v, σ'[i]? = some (some v) → σ[i]? = some (some v)) : Inv X pins σ' H s :=
  ⟨I.ok, I.os, I.bare, I.base, let ⟨m, hn, hl'⟩ := I.loc; ⟨m, hn, fun i x v e1 e2 e3 => hl' i x v e1 (w i v e2) e3⟩, I.cell, I.free, I.freeC, I.pin, I.hok, hl.trans I.len⟩
theorem Inv.pins_of {pins' : List (Addr × Obj)} (I : Inv X pins σ H s) (h : ∀ p ∈ pins', s.heap.get? p.1 = some p.2 ∧ H p.1 = none ∧ p.1 ≠ X.env.locals ∧ p.1 ∉ X.fs ∧ ∀ v, p.2.data ≠ .cell v) : Inv X pins' σ H s :=
  ⟨I.ok, I.os, I.bare, I.base, I.loc, I.cell, I.free, I.freeC, fun p hp => (List.mem_append.mp hp).elim (fun z => I.pin p (List.mem_append_left _ z)) (h p), I.hok, I.len⟩
theorem nodup_ix {N : List Str} (hN : N.Nodup) {i j : Nat} {x : Str} (a : N[i]? = some x) (b : N[j]? = some x) : i = j := by
  obtain ⟨h1, e1⟩ := List.getElem?_eq_some_iff.mp a
  obtain ⟨h2, e2⟩ := List.getElem?_eq_some_iff.mp b
  exact (List.getElem_inj hN).mp (e1.trans e2.symm)
theorem store_ok2 {M : Model} {A : Around} {E : Value → Shared → Prop} {i : Nat} {x : Str} {v : V} {u : Value} {Q : Unit → Shared → Prop} (I : Inv X pins σ H s) (hN : X.N.Nodup) (hi : X.N[i]? = some x) (hx : Loc X.env.scope x) (r : RelV v u)
    (h : ∀ s', Inv X pins (σ.set i (some v)) H s' → (∃ a, Heap.SameBut a s.heap s'.heap ∧ (a = X.env.locals ∨ X.env.cells.lookup x = some a)) → Q () s') (hf : X.fn x = true ∨ X.env.scope.names.lookup x = some .local := by first | exact .inl rfl | exact .inr rfl | assumption) : wpAny M A (storeName X.env x u) Q E s := by
  obtain ⟨m, hn, hl⟩ := id I.loc
  have hcls : (X.env.scope.kind == .class || (X.env.scope.kind == .module && X.env.locals != X.env.globals)) = false := by rw [I.ok.kind]; rfl
  have hiσ : i < σ.length := by rw [I.len]; exact (List.getElem?_eq_some_iff.mp hi).1
  have cne := I.cne
  have tracked : ∀ {a : Addr} {h' : Heap}, (∃ o, s.heap.get? a = some o ∧ H a = none) → Heap.SameBut a s.heap h' → HOk X.prog X.w H h' := fun {a h'} ha hs b ob e => by
    obtain ⟨_, _, hfree⟩ := ha
    refine (I.hok b ob e).stay (fun c w' hc q => (hs.2 c ?_).trans q) (fun _ q => q) fun _ _ q => q
    rintro rfl
    rcases hc with rfl | hc
    · rw [hfree] at e; cases e
    · rw [hfree] at hc; cases hc
  rcases hx with hk | hk
  · refine wpAny_storeName_local hk hn (fun h' hn' hs => ?_) hcls
    obtain ⟨oL, _, _, hoL, _⟩ := id hn
    refine h _ ⟨I.ok, I.os, I.bare, ⟨fun b o e n hb hx => ?_, fun b o e n hb hx => ?_, I.base.free, fun b o e hx => ?_, I.base.tups, I.base.frzs, I.base.tbls⟩, ⟨_, hn', fun j y v' e1 e2 e3 => ?_⟩, fun y c e => ?_, I.free, I.freeC, fun p hp => ?_, tracked ⟨oL, hoL, I.free⟩ hs, by simpa using I.len⟩ ⟨_, hs, .inl rfl⟩
    · exact (hs.2 b (Nat.ne_of_lt (Nat.lt_of_lt_of_le (Heap.lt_size e) I.ok.above))).trans (I.base.keep b o e n hb hx)
    · obtain ⟨sl, e1⟩ := I.base.slot b o e n hb hx
      exact ⟨sl, (hs.2 b (Nat.ne_of_lt (Nat.lt_of_lt_of_le (Heap.lt_size e) I.ok.above))).trans e1⟩
    · obtain ⟨o', e1⟩ := I.base.there b o e hx
      exact ⟨o', (hs.2 b (Nat.ne_of_lt (Nat.lt_of_lt_of_le (Heap.lt_size e) I.ok.above))).trans e1⟩
    · by_cases hj : j = i
      · subst hj
        rw [hi] at e1; cases e1
        rw [List.getElem?_set_self hiσ] at e2
        cases e2
        exact ⟨u, r, .inl ⟨hk, by simp⟩⟩
      · rw [List.getElem?_set_ne (Ne.symm hj)] at e2
        obtain ⟨u', r', q⟩ := hl j y v' e1 e2 e3
        refine ⟨u', r', ?_⟩
        rcases q with ⟨k, e⟩ | ⟨k, c, e, z⟩
        · refine .inl ⟨k, ?_⟩
          have : y ≠ x := fun e => hj (nodup_ix hN e1 (e ▸ hi))
          simp [this, e]
        · exact .inr ⟨k, c, e, z.sameBut hs (cne y c e)⟩
    · obtain ⟨w', z⟩ := I.cell y c e
      exact ⟨w', z.sameBut hs (cne y c e)⟩
    · obtain ⟨e, n, ne, nf, d⟩ := I.pin p hp
      exact ⟨(hs.2 p.1 ne).trans e, n, ne, nf, d⟩
  · have hfn : X.fn x = true := by
      rcases hf with z | z
      · exact z
      · rw [z] at hk; cases hk
    obtain ⟨c, hc⟩ := I.ok.has x (.inl hk)
    obtain ⟨w', z⟩ := I.cell x c hc
    refine wpAny_storeName_cell I.ok.kind hk hc z (fun h' hc' hs => ?_)
    obtain ⟨oc, hoc, hocd⟩ := id z
    refine h { s with heap := h' } ⟨I.ok, I.os, I.bare, ⟨fun b o e n hb hx => ?_, fun b o e n hb hx => ?_, I.base.free, fun b o e hx => ?_, I.base.tups, I.base.frzs, I.base.tbls⟩, ⟨m, hn.sameBut hs (Ne.symm (cne x c hc)), fun j y v' e1 e2 e3 => ?_⟩, fun y c' e => ?_, I.free, I.freeC, fun p hp => ?_, tracked ⟨oc, hoc, I.freeC x c hc⟩ hs, by simpa using I.len⟩ ⟨c, hs, .inr hc⟩
    · exact (hs.2 b (Nat.ne_of_lt (Nat.lt_of_lt_of_le (Heap.lt_size e) (I.ok.cab x c hfn hc)))).trans (I.base.keep b o e n hb hx)
    · obtain ⟨sl, e1⟩ := I.base.slot b o e n hb hx
      exact ⟨sl, (hs.2 b (Nat.ne_of_lt (Nat.lt_of_lt_of_le (Heap.lt_size e) (I.ok.cab x c hfn hc)))).trans e1⟩
    · obtain ⟨o', e1⟩ := I.base.there b o e hx
      exact ⟨o', (hs.2 b (Nat.ne_of_lt (Nat.lt_of_lt_of_le (Heap.lt_size e) (I.ok.cab x c hfn hc)))).trans e1⟩
    · by_cases hj : j = i
      · subst hj
        rw [hi] at e1; cases e1
        rw [List.getElem?_set_self hiσ] at e2
        cases e2
        exact ⟨u, r, .inr ⟨.inl hk, c, hc, hc'⟩⟩
      · rw [List.getElem?_set_ne (Ne.symm hj)] at e2
        obtain ⟨u', r', q⟩ := hl j y v' e1 e2 e3
        refine ⟨u', r', ?_⟩
        rcases q with q | ⟨k, c', e, z'⟩
        · exact .inl q
        · refine .inr ⟨k, c', e, z'.sameBut hs ?_⟩
          rintro rfl
          exact hj (nodup_ix hN e1 (I.ok.inj _ _ _ e hc ▸ hi))
    · by_cases hcc : c' = c
      · subst hcc; exact ⟨_, hc'⟩
      · obtain ⟨w2, z2⟩ := I.cell y c' e
        exact ⟨w2, z2.sameBut hs hcc⟩
    · obtain ⟨e, n, ne, nf, d⟩ := I.pin p hp
      refine ⟨(hs.2 p.1 ?_).trans e, n, ne, nf, d⟩
      intro q
      rw [q, hoc] at e
      have q' : oc = p.2 := Option.some.inj e
      exact d w' (by rw [← q']; exact hocd)
theorem store_ok {M : Model} {A : Around} {E : Value → Shared → Prop} {i : Nat} {x : Str} {v : V} {u : Value} {Q : Unit → Shared → Prop} (I : Inv X pins σ H s) (hN : X.N.Nodup) (hi : X.N[i]? = some x) (hx : Loc X.env.scope x) (r : RelV v u)
    (h : ∀ s', Inv X pins (σ.set i (some v)) H s' → Q () s') (hf : X.fn x = true ∨ X.env.scope.names.lookup x = some .local := by first | exact .inl rfl | exact .inr rfl | assumption) : wpAny M A (storeName X.env x u) Q E s :=
  store_ok2 I hN hi hx r (fun s' I' _ => h s' I') hf
theorem Inv.call' {s' : Shared} {ch : List Addr} (I : Inv X pins σ H s) (ho : s'.os = s.os) (u : Un (frs X.stack) ch H H' s.heap s'.heap) (hok : HOk X.prog X.w H' s'.heap) (hg : AllBare s'.gens)
    (hch : ∀ b ∈ ch, (b ∈ X.ex ∨ X.s₀.heap.objs.size ≤ b) ∧ b ≠ X.env.locals ∧ (∀ x c, X.env.cells.lookup x = some c → c ≠ b) ∧ ∀ p ∈ X.pn ++ pins, p.1 ≠ b) : Inv X pins σ H' s' := by
  obtain ⟨h', g', d', t', o'⟩ := s'
  have e : o' = s.os := ho
  subst e
  exact I.call (g' := g') (t' := t') (d' := d') u hok hg hch
end
abbrev XK := Value → Option Addr → Hp → Prop
abbrev St := List (Option V)
abbrev VK := V → Hp → Prop
abbrev TE := St → Hp → VK → Prop
abbrev TT := St → Hp → (Bool → Hp → Prop) → Prop
abbrev TA := St → Hp → (List V → Hp → Prop) → Prop
structure Ends where
  nx : St → Hp → Prop
  rt : VK
  bk : St → Hp → Prop := fun _ _ => False
  ct : St → Hp → Prop := fun _ _ => False
abbrev TS := Ends → St → Hp → Prop
def EP (X : Cx) (pins : List (Addr × Obj)) (σ : St) (Q : VK) (u : Value) (s' : Shared) : Prop := ∃ v H', Inv X pins σ H' s' ∧ RelV v u ∧ Q v H'
def TP (X : Cx) (pins : List (Addr × Obj)) (σ : St) (Q : Bool → Hp → Prop) (b : Bool) (s' : Shared) : Prop := ∃ H', Inv X pins σ H' s' ∧ Q b H'
def AP (X : Cx) (pins : List (Addr × Obj)) (σ : St) (Q : List V → Hp → Prop) (us : List Value) (s' : Shared) : Prop := ∃ vs H', Inv X pins σ H' s' ∧ Vals vs us ∧ Q vs H'
def SP (X : Cx) (pins : List (Addr × Obj)) (D : Ends) (f : Flow) (s' : Shared) : Prop :=
  match f with
  | .next => ∃ σ' H', Inv X pins σ' H' s' ∧ D.nx σ' H'
  | .brk => ∃ σ' H', Inv X pins σ' H' s' ∧ D.bk σ' H'
  | .cont => ∃ σ' H', Inv X pins σ' H' s' ∧ D.ct σ' H'
  | .ret u => ∃ v σ' H', Inv X pins σ' H' s' ∧ RelV v u ∧ D.rt v H'
def PE (X : Cx) (e : Expr) (t : TE) : Prop :=
  ∀ (pins : List (Addr × Obj)) (s : Shared) (σ : St) (H : Hp) (Q : VK), Inv X pins σ H s → t σ H Q → wpAny (model X.prog X.w) X.A (eval e X.env) (EP X pins σ Q) X.xe s
def PT (X : Cx) (e : Expr) (t : TT) : Prop :=
  ∀ (pins : List (Addr × Obj)) (s : Shared) (σ : St) (H : Hp) (Q : Bool → Hp → Prop), Inv X pins σ H s → t σ H Q → wpAny (model X.prog X.w) X.A (isTrue e X.env (eval e X.env)) (TP X pins σ Q) X.xe s
def PW (X : Cx) (e : Expr) (t : TT) : Prop :=
  ∀ (whole : Sem Value) (pins : List (Addr × Obj)) (s : Shared) (σ : St) (H : Hp) (Q : Bool → Hp → Prop), Inv X pins σ H s → t σ H Q → wpAny (model X.prog X.w) X.A (isTrue e X.env whole) (TP X pins σ Q) X.xe s
theorem PW.pt {X : Cx} {e : Expr} {t : TT} (h : PW X e t) : PT X e t := h _
def PA (X : Cx) (es : List Expr) (t : TA) : Prop :=
  ∀ (pos : Pos) (pins : List (Addr × Obj)) (s : Shared) (σ : St) (H : Hp) (Q : List V → Hp → Prop), Inv X pins σ H s → t σ H Q → wpAny (model X.prog X.w) X.A (spliced (backTo pos (starEach es X.env))) (AP X pins σ Q) X.xe s
def PS (X : Cx) (st : Stmt) (t : TS) : Prop :=
  ∀ (pins : List (Addr × Obj)) (s : Shared) (σ : St) (H : Hp) (D : Ends), Inv X pins σ H s → t D σ H → wpAny (model X.prog X.w) X.A (exec st X.env) (SP X pins D) X.xe s
def PSs (X : Cx) (st : List Stmt) (t : TS) : Prop :=
  ∀ (pins : List (Addr × Obj)) (s : Shared) (σ : St) (H : Hp) (D : Ends), Inv X pins σ H s → t D σ H → wpAny (model X.prog X.w) X.A (execs st X.env) (SP X pins D) X.xe s
theorem thn {α : Type} {t : Sem α} {Q Q' : α → Shared → Prop} {M : Model} {A : Around} {E : Value → Shared → Prop} {s : Shared} (h : wpAny M A t Q E s) (hQ : ∀ a s, Q a s → Q' a s) : wpAny M A t Q' E s := wpAny_mono h hQ fun _ _ x => x
end L2
namespace L2
open PySem PySem.Spec PyProof.Rows
section
variable {X : Cx}
def tVar (i : Nat) : TE := fun σ H Q => ∃ v, σ[i]? = some (some v) ∧ Q v H
def tC (v : V) : TE := fun _ H Q => Q v H
theorem pe_var {i : Nat} {x : Str} {pos : Pos} (hN : X.N[i]? = some x) (hv : Vis X.env.scope x) (hd : (x == ("__debug__" : Str)) = false := by decide) (hcd : (x == ("__classdict__" : Str)) = false := by decide) : PE X (.Name x pos) (tVar i) := by
  intro pins s σ H Q I h
  obtain ⟨v, e, h⟩ := h
  obtain ⟨m, hn, hl⟩ := I.loc
  obtain ⟨u, r, l⟩ := hl i x v hN e hv
  have fin : EP X pins σ Q u s := ⟨v, H, I, r, h⟩
  rcases l with ⟨hk, hm⟩ | ⟨hk, c, hc, hcell⟩
  · exact wpAny_Name (wpAny_loadName_local I.ok.kind hk hn hm fin) hd
  · rcases hk with hk | hk
    · exact wpAny_Name (wpAny_loadName_cell I.ok.kind hk hc hcell fin) hd
    · exact wpAny_Name (wpAny_loadName_free I.ok.kind hk hc hcell fin hcd) hd
theorem pe_int {i j pos} : PE X (.Constant (.int i) j pos) (tC (.int i)) := fun _ _ _ H _ I h => wpAny_Constant_int ⟨.int i, H, I.tok _, ⟨_, rfl⟩, h⟩
theorem pe_bl {b j pos} : PE X (.Constant (.bool b) j pos) (tC (.bl b)) := fun _ _ _ H _ I h => Constant_bool ⟨.bl b, H, I, rfl, h⟩
theorem pe_str {x j pos} : PE X (.Constant (.str x) j pos) (tC (.str x)) := fun _ _ _ H _ I h => Calls.Constant_str ⟨.str x, H, I.tok _, ⟨_, rfl⟩, h⟩
def Gl (X : Cx) (x : Str) : Prop := X.env.kindOf x = some .globalImplicit
theorem ld_glob {E : Value → Shared → Prop} {pins : List (Addr × Obj)} {s : Shared} {σ : St} {H : Hp} {x : Str} {u : Value} {pos : Pos} {Q : Value → Shared → Prop} (I : Inv X pins σ H s) (hg : Gl X x) (hm : X.mg x = some u) (h : Q u s)
    (hd : (x == ("__debug__" : Str)) = false := by decide) : wpAny (model X.prog X.w) X.A (eval (.Name x pos) X.env) Q E s :=
  Calls.Name_function_global I.ok.kind hg (Calls.loadGlobal_global (by rw [I.ok.glob]; exact I.mod.glob.keeps I.bk) hm h) hd
theorem ld_blt {E : Value → Shared → Prop} {pins : List (Addr × Obj)} {s : Shared} {σ : St} {H : Hp} {x : Str} {u : Value} {pos : Pos} {Q : Value → Shared → Prop} (I : Inv X pins σ H s) (hg : Gl X x) (hm : X.mg x = none) (hv : bootBuiltins x = some u) (h : Q u s)
    (hn : x ≠ "__name__" := by decide) (hd : (x == ("__debug__" : Str)) = false := by decide) : wpAny (model X.prog X.w) X.A (eval (.Name x pos) X.env) Q E s := by
  obtain ⟨mb, h1, h2⟩ := I.mod.blt
  exact Calls.Name_function_global I.ok.kind hg (Calls.loadGlobal_builtin (by rw [I.ok.glob]; exact I.mod.glob.keeps I.bk) hm (by rw [I.ok.blt]; exact h1.keeps I.bk) ((h2 x hn).trans hv) h) hd
theorem pe_bltn {x : Str} {v : V} {u : Value} {pos : Pos} (hg : Gl X x) (hm : X.mg x = none) (hv : bootBuiltins x = some u) (r : RelV v u) (hn : x ≠ "__name__" := by decide) (hd : (x == ("__debug__" : Str)) = false := by decide) : PE X (.Name x pos) (tC v) :=
  fun _ _ _ H _ I h => ld_blt I hg hm hv ⟨v, H, I, r, h⟩ hn hd
variable {a b : Expr} {ta tb : TE} {pos : Pos}
def tB (t : TE) : TT := fun σ H Q => t σ H fun x H1 => ∃ c, x = .bl c ∧ Q c H1
theorem pt_val {e : Expr} {t : TE} (h : PE X e t) (he : ∀ whole, isTrue e X.env whole = (do let v ← whole; standAt e.pos; holding [v] (truthy v)) := by intro _; rfl) : PT X e (tB t) := by
  intro pins s σ H Q I hw
  refine isTrue_plain (thn (h pins s σ H _ I hw) fun v s1 ⟨x, H1, I1, r1, q1⟩ => ?_) (he _)
  obtain ⟨d, rfl, q⟩ := q1
  cases r1
  exact wpAny_truthy_bool ⟨H1, I1, q⟩
variable {tA tB' : TT} {rest : List Expr}
def tAnd (t u : TT) : TT := fun σ H Q => t σ H fun c H1 => if c = true then u σ H1 Q else Q false H1
def tOr (t u : TT) : TT := fun σ H Q => t σ H fun c H1 => if c = true then Q true H1 else u σ H1 Q
def tNot (t : TT) : TT := fun σ H Q => t σ H fun c H1 => Q (!c) H1
theorem pw_and1 (ha : PT X a tA) : PW X (.BoolOp .And [a] pos) tA := by
  intro wh pins s σ H Q I h
  refine isTrue_and (thn (ha pins s σ H Q I h) fun c s1 e => ?_)
  cases c with
  | true => exact isTrue_and_nil e
  | false => exact e
theorem pw_or1 (ha : PT X a tA) : PW X (.BoolOp .Or [a] pos) tA := by
  intro wh pins s σ H Q I h
  refine isTrue_or (thn (ha pins s σ H Q I h) fun c s1 e => ?_)
  cases c with
  | false => exact isTrue_or_nil e
  | true => exact e
theorem pw_and (ha : PT X a tA) (hb : PW X (.BoolOp .And (b :: rest) pos) tB') : PW X (.BoolOp .And (a :: b :: rest) pos) (tAnd tA tB') := by
  intro wh pins s σ H Q I h
  refine isTrue_and (thn (ha pins s σ H _ I h) fun c s1 ⟨H1, I1, q1⟩ => ?_)
  cases c with
  | true => exact hb wh pins s1 σ H1 Q I1 q1
  | false => exact ⟨H1, I1, q1⟩
theorem pw_or (ha : PT X a tA) (hb : PW X (.BoolOp .Or (b :: rest) pos) tB') : PW X (.BoolOp .Or (a :: b :: rest) pos) (tOr tA tB') := by
  intro wh pins s σ H Q I h
  refine isTrue_or (thn (ha pins s σ H _ I h) fun c s1 ⟨H1, I1, q1⟩ => ?_)
  cases c with
  | true => exact ⟨H1, I1, q1⟩
  | false => exact hb wh pins s1 σ H1 Q I1 q1
theorem pt_not (ha : PT X a tA) : PT X (.UnaryOp .Not a pos) (tNot tA) := by
  intro pins s σ H Q I h
  exact isTrue_not (ha pins s σ H (fun c H1 => Q (!c) H1) I h)
def tAndV (ta tb : TE) : TE := fun σ H Q => ta σ H fun x H1 => ∃ c, x = .bl c ∧ if c = true then tb σ H1 Q else Q (.bl false) H1
theorem pe_one {op} {t : TE} (h : PE X a t) : PE X (.BoolOp op [a] pos) t := fun pins s σ H Q I hw => BoolOp_one (h pins s σ H Q I hw)
theorem pe_and (ha : PE X a ta) (hb : PE X (.BoolOp .And (b :: rest) pos) tb) : PE X (.BoolOp .And (a :: b :: rest) pos) (tAndV ta tb) := by
  intro pins s σ H Q I h
  refine BoolOp_and (thn (ha pins s σ H _ I h) fun v s1 ⟨x, H1, I1, r1, q1⟩ => ?_)
  obtain ⟨c, rfl, q1⟩ := q1
  cases r1
  refine wpAny_truthy_bool ?_
  cases c with
  | true => exact hb pins s1 σ H1 Q I1 q1
  | false => exact ⟨.bl false, H1, I1, rfl, q1⟩
end
end L2
namespace L2
open PySem PySem.Spec PyProof.Rows
def SqL (K : PySem.W.Frag) (H : Hp) (a : Addr) (xs : List V) : Prop :=
  Rd H a (.lst xs) ∨
    ∃ (o : Obj) (its : Array Value) (n : Nat), K.lookup a = some o ∧ o.cls = .type "list" ∧ o.dict = none ∧ o.data = .seq its n ∧ its.size ≤ sizeLine ∧ Vals xs its.toList
def SqT (K : PySem.W.Frag) (H : Hp) (a : Addr) (xs : List V) : Prop :=
  Rd H a (.tup xs) ∨
    ∃ (o : Obj) (its : Array Value) (n : Nat), K.lookup a = some o ∧ o.cls = .type "tuple" ∧ (o.dict = none ∧ o.slots = #[]) ∧ o.data = .seq its n ∧ its.size ≤ sizeLine ∧ Vals xs its.toList
def absV : Value → Option V
  | .none => some .non
  | .bool b => some (.bl b)
  | .int i _ => some (.int i)
  | .str x _ => some (.str x)
  | .bytes b _ => some (.byt b)
  | .float b _ => some (.flt b)
  | .ref a => some (.ref a)
  | .type n => some (.ty n)
  | _ => none
theorem RelV.abs {x : V} {u : Value} (r : RelV x u) : absV u = some x := by
  cases x with
  | non => cases r; rfl
  | bl _ => cases r; rfl
  | int _ => obtain ⟨t, rfl⟩ := r; rfl
  | str _ => obtain ⟨t, rfl⟩ := r; rfl
  | byt _ => obtain ⟨t, rfl⟩ := r; rfl
  | flt _ => obtain ⟨t, rfl⟩ := r; rfl
  | ref _ => cases r; rfl
  | ty _ => cases r; rfl
theorem RelV.inj {x y : V} {u : Value} (r : RelV x u) (q : RelV y u) : x = y := Option.some.inj (r.abs.symm.trans q.abs)
theorem Vals.inj : ∀ {xs ys : List V} {us : List Value}, Vals xs us → Vals ys us → xs = ys
  | _, _, _, .nil, .nil => rfl
  | _, _, _, .cons r t, .cons r' t' => by rw [r.inj r', Vals.inj t t']
section
variable {X : Cx} {pins : List (Addr × Obj)} {σ : St} {H : Hp} {s : Shared} {a : Addr} {xs ys : List V}
theorem SqL.of {K : PySem.W.Frag} (h : H a = some (.lst xs)) : SqL K H a xs := .inl (.inl h)
theorem SqT.of {K : PySem.W.Frag} (h : H a = some (.tup xs)) : SqT K H a xs := .inl (.inl h)
theorem Inv.list (I : Inv X pins σ H s) (h : SqL X.K H a xs) : ∃ its : List Value, Vals xs its ∧ PlainL s.heap a its.toArray ∧ xs.length ≤ sizeLine := by
  rcases h with h | ⟨o, its, n, hk, hc, hd, hs, hz, r⟩
  · obtain ⟨z, its, n, r, e⟩ := h.ok I.hok
    exact ⟨its, r, ⟨_, n, e, rfl, rfl, rfl⟩, z⟩
  · refine ⟨its.toList, r, ⟨o, n, I.kIn a o hk, hc, hd, by simpa using hs⟩, ?_⟩
    have e := r.length
    simp only [Array.length_toList] at e
    omega
theorem Inv.tuple (I : Inv X pins σ H s) (h : SqT X.K H a xs) : ∃ its : List Value, Vals xs its ∧ IsTup s.heap a its.toArray ∧ xs.length ≤ sizeLine := by
  rcases h with h | ⟨o, its, n, hk, hc, _, hs, hz, r⟩
  · obtain ⟨z, its, r, p⟩ := h.ok I.hok
    exact ⟨its, r, p.tup, z⟩
  · refine ⟨its.toList, r, ⟨o, I.kIn a o hk, hc, n, by simpa using hs⟩, ?_⟩
    have e := r.length
    simp only [Array.length_toList] at e
    omega
theorem Inv.list_inj (I : Inv X pins σ H s) (h : SqL X.K H a xs) (h' : SqL X.K H a ys) : xs = ys := by
  obtain ⟨its, r, ⟨o, n, e, _, _, d⟩, _⟩ := I.list h
  obtain ⟨its', r', ⟨o', n', e', _, _, d'⟩, _⟩ := I.list h'
  rw [e] at e'; cases e'
  rw [d] at d'
  injection d' with d1 _
  have : its = its' := by simpa using congrArg Array.toList d1
  subst this
  exact r.inj r'
theorem Inv.tuple_inj (I : Inv X pins σ H s) (h : SqT X.K H a xs) (h' : SqT X.K H a ys) : xs = ys := by
  obtain ⟨its, r, ⟨o, e, _, n, d⟩, _⟩ := I.tuple h
  obtain ⟨its', r', ⟨o', e', _, n', d'⟩, _⟩ := I.tuple h'
  rw [e] at e'; cases e'
  rw [d] at d'
  injection d' with d1 _
  have : its = its' := by simpa using congrArg Array.toList d1
  subst this
  exact r.inj r'
end
abbrev Cx.wish (X : Cx) (E : Value → Shared → Prop) : Cx := { X with xe := E }
abbrev Cx.nox (X : Cx) : Cx := X.wish fun _ _ => False
theorem Cx.Ok.wish {X : Cx} (ok : X.Ok) (E : Value → Shared → Prop) : (X.wish E).Ok :=
  ⟨ok.mod, ok.kind, ok.glob, ok.blt, ok.above, ok.inj, ok.has, ok.cab, ok.hd, ok.frames, ok.stk, ok.exf, ok.bs, ok.bsz, ok.noex, ok.exfs, ok.funs, ok.frf⟩
theorem Cx.Ok.unwish {X : Cx} {E : Value → Shared → Prop} (ok : (X.wish E).Ok) : X.Ok :=
  ⟨ok.mod, ok.kind, ok.glob, ok.blt, ok.above, ok.inj, ok.has, ok.cab, ok.hd, ok.frames, ok.stk, ok.exf, ok.bs, ok.bsz, ok.noex, ok.exfs, ok.funs, ok.frf⟩
section
variable {X : Cx} {pins : List (Addr × Obj)} {σ : St} {H : Hp} {s : Shared} {E : Value → Shared → Prop}
theorem Inv.wish (I : Inv X pins σ H s) (E : Value → Shared → Prop) : Inv (X.wish E) pins σ H s := ⟨I.ok.wish E, I.os, I.bare, I.base, I.loc, I.cell, I.free, I.freeC, I.pin, I.hok, I.len⟩
theorem Inv.unwish (I : Inv (X.wish E) pins σ H s) : Inv X pins σ H s := ⟨I.ok.unwish, I.os, I.bare, I.base, I.loc, I.cell, I.free, I.freeC, I.pin, I.hok, I.len⟩
theorem SP.unwish {D : Ends} {f : Flow} {s' : Shared} (h : SP (X.wish E) pins D f s') : SP X pins D f s' := by
  cases f with
  | next => obtain ⟨σ', H', I, q⟩ := h; exact ⟨σ', H', I.unwish, q⟩
  | brk => obtain ⟨σ', H', I, q⟩ := h; exact ⟨σ', H', I.unwish, q⟩
  | cont => obtain ⟨σ', H', I, q⟩ := h; exact ⟨σ', H', I.unwish, q⟩
  | ret u => obtain ⟨v, σ', H', I, r, q⟩ := h; exact ⟨v, σ', H', I.unwish, r, q⟩
theorem PE.nox {e : Expr} {t : TE} (h : PE X.nox e t) : PE X e t := fun pins s σ H Q I hw =>
  wpAny_mono (h pins s σ H Q (I.wish _) hw) (fun _ _ ⟨v, H', I', r, q⟩ => ⟨v, H', I'.unwish, r, q⟩) fun _ _ z => False.elim z
theorem PT.nox {e : Expr} {t : TT} (h : PT X.nox e t) : PT X e t := fun pins s σ H Q I hw =>
  wpAny_mono (h pins s σ H Q (I.wish _) hw) (fun _ _ ⟨H', I', q⟩ => ⟨H', I'.unwish, q⟩) fun _ _ z => False.elim z
theorem PSs.nox {st : List Stmt} {t : TS} (h : PSs X.nox st t) : PSs X st t := fun pins s σ H D I hw =>
  wpAny_mono (h pins s σ H D (I.wish _) hw) (fun _ _ q => q.unwish) fun _ _ z => False.elim z
end
section
variable {X : Cx} {st : Stmt} {rest : List Stmt} {t u : TS} {e : Expr} {te : TE} {pos : Pos}
def tNext : TS := fun D σ H => D.nx σ H
def tSeq (t u : TS) : TS := fun D σ H => t { D with nx := u D } σ H
theorem pss_nil : PSs X [] tNext := fun _ _ σ H _ I h => wpAny_execs_nil ⟨σ, H, I, h⟩
theorem pss_cons (h1 : PS X st t) (h2 : PSs X rest u) : PSs X (st :: rest) (tSeq t u) := by
  intro pins s σ H D I h
  refine wpAny_execs_cons (thn (h1 pins s σ H { D with nx := u D } I h) fun f s1 q => ?_)
  cases f with
  | next =>
    obtain ⟨σ', H', I', q⟩ := q
    exact h2 pins s1 σ' H' D I' q
  | ret v => exact q
  | brk => exact q
  | cont => exact q
theorem pss_one (h1 : PS X st t) : PSs X [st] t := by
  intro pins s σ H D I h
  refine wpAny_execs_cons (thn (h1 pins s σ H D I h) fun f s1 q => ?_)
  cases f with
  | next => exact wpAny_execs_nil q
  | ret v => exact q
  | brk => exact q
  | cont => exact q
theorem Inv.quiet {pins : List (Addr × Obj)} {σ : St} {H : Hp} {s : Shared} (I : Inv X pins σ H s) : interactive X.env = false := by simp [interactive, I.ok.kind]
def tDrop (te : TE) : TS := fun D σ H => te σ H fun _ H1 => D.nx σ H1
theorem ps_expr (he : PE X e te) (hs : swapsWith e none pos.line X.env = pure false := by rfl) : PS X (.Expr e pos) (tDrop te) := by
  intro pins s σ H D I h
  exact wpAny_Expr_any (thn (he pins s σ H _ I h) fun v s1 ⟨x, H1, I1, r1, q1⟩ => ⟨σ, H1, I1, q1⟩) I.quiet hs
def tRet (te : TE) : TS := fun D σ H => te σ H D.rt
theorem ps_ret (he : PE X e te) : PS X (.Return (some e) pos) (tRet te) := by
  intro pins s σ H D I h
  exact wpAny_Return_some (thn (he pins s σ H _ I h) fun v s1 ⟨x, H1, I1, r1, q1⟩ => ⟨x, σ, H1, I1, r1, q1⟩)
def tIfS (c : TT) (t u : TS) : TS := fun D σ H => c σ H fun b H1 => if b = true then t D σ H1 else u D σ H1
theorem ps_if {c : Expr} {a b : List Stmt} {tc : TT} (hc : PT X c tc) (ha : PSs X a t) (hb : PSs X b u) : PS X (.If c a b pos) (tIfS tc t u) := by
  intro pins s σ H D I h
  refine wpAny_If (thn (hc pins s σ H _ I h) fun d s1 ⟨H1, I1, q1⟩ => ?_)
  cases d with
  | true => exact ha pins s1 σ H1 D I1 q1
  | false => exact hb pins s1 σ H1 D I1 q1
end
abbrev TG := V → St → Hp → (St → Hp → Prop) → Prop
abbrev TGs := List V → St → Hp → (St → Hp → Prop) → Prop
def PG (X : Cx) (target : Expr) (t : TG) : Prop :=
  ∀ (pins : List (Addr × Obj)) (s : Shared) (σ : St) (H : Hp) (v : V) (u : Value) (Q : St → Hp → Prop), Inv X pins σ H s → RelV v u → t v σ H Q →
    wpAny (model X.prog X.w) X.A (assign target X.env u) (fun _ s' => ∃ σ' H', Inv X pins σ' H' s' ∧ Q σ' H') X.xe s
abbrev TSet := V → V → V → Hp → (Hp → Prop) → Prop
def PSet (X : Cx) (t : TSet) : Prop :=
  ∀ (pins : List (Addr × Obj)) (s : Shared) (σ : St) (H : Hp) (o i v : V) (ov iv u : Value) (Q : Hp → Prop), Inv X pins σ H s → RelV o ov → RelV i iv → RelV v u → t o i v H Q →
    wpAny (model X.prog X.w) X.A (setItem ov iv u) (fun _ s' => ∃ H', Inv X pins σ H' s' ∧ Q H') X.xe s
abbrev TIp := V → V → Hp → VK → Prop
def PIp (X : Cx) (op : Operator) (t : TIp) : Prop :=
  ∀ (pins : List (Addr × Obj)) (s : Shared) (σ : St) (H : Hp) (x y : V) (v u : Value) (Q : VK), Inv X pins σ H s → RelV x v → RelV y u → t x y H Q →
    wpAny (model X.prog X.w) X.A (inplaceOp op v u) (EP X pins σ Q) X.xe s
section
variable {X : Cx} {pos : Pos}
def gName (i : Nat) : TG := fun v σ H Q => Q (σ.set i (some v)) H
theorem pg_name {i : Nat} {x : Str} (hN : X.N.Nodup) (hi : X.N[i]? = some x) (hx : Loc X.env.scope x) (hf : X.fn x = true ∨ X.env.scope.names.lookup x = some .local := by first | exact .inl rfl | exact .inr rfl | assumption) : PG X (.Name x pos) (gName i) := by
  intro pins s σ H v u Q I r h
  exact wpAny_assign_Name (store_ok I hN hi hx r (fun s' I' => ⟨_, H, I', h⟩) hf)
def gTup (K : PySem.W.Frag) (n : Nat) (t : TGs) : TG := fun v σ H Q => ∃ a xs, v = .ref a ∧ SqT K H a xs ∧ xs.length = n ∧ t xs σ H Q
def gSub (to ti : TE) (t : TSet) : TG := fun v σ H Q => to σ H fun o H1 => ti σ H1 fun i H2 => t o i v H2 fun H3 => Q σ H3
theorem pg_sub {o i : Expr} {to ti : TE} {t : TSet} (ho : PE X o to) (hi : PE X i ti) (hs : PSet X t)
    (ha : ∀ v, assign (.Subscript o i pos) X.env v = (do
      let ov ← holding [v] (eval o X.env)
      let iv ← holding [v, ov] (eval i X.env)
      standAt pos
      holding [v, ov, iv] (setItem ov iv v)
      release [v, ov, iv] []) := by intro _; rfl) : PG X (.Subscript o i pos) (gSub to ti t) := by
  intro pins s σ H v u Q I r h
  rw [ha]
  refine wpAny_bind (wpAny_holding (thn (ho pins s σ H _ I h) fun ov s1 ⟨x, H1, I1, r1, q1⟩ => ?_))
  refine wpAny_bind (wpAny_holding (thn (hi pins s1 σ H1 _ I1 q1) fun iv s2 ⟨y, H2, I2, r2, q2⟩ => ?_))
  refine wpAny_bind (wpAny_standAt (wpAny_bind (wpAny_holding (thn (hs pins s2 σ H2 x y v ov iv u _ I2 r1 r2 r q2) fun _ s3 ⟨H3, I3, q3⟩ => ?_))))
  exact wpAny_release ⟨σ, H3, I3, q3⟩
def tAsg (te : TE) (g : TG) : TS := fun D σ H => te σ H fun x H1 => g x σ H1 D.nx
theorem ps_asg {tg e : Expr} {te : TE} {g : TG} (he : PE X e te) (hg : PG X tg g) (hs : swapsWithSole [tg] e pos.line X.env = pure false := by rfl) (hw : swappedStores [tg] e X.env = pure none := by rfl)
    (h1 : (assignEach [tg] X.env).map (·.2) = [assign tg X.env] := by rfl) : PS X (.Assign [tg] e pos) (tAsg te g) := by
  intro pins s σ H D I h
  refine wpAny_Assign_stores (thn (he pins s σ H _ I h) fun v s1 ⟨x, H1, I1, r1, q1⟩ => ?_) hs hw
  rw [h1]
  exact thn (hg pins s1 σ H1 x v _ I1 r1 q1) fun _ s2 q => q
theorem ps_set {i : Nat} {x : Str} {e : Expr} {te : TE} {pos' : Pos} (hN : X.N.Nodup) (hi : X.N[i]? = some x) (hx : Loc X.env.scope x) (he : PE X e te) (hs : swapsWith e (some (.Name x pos')) pos.line X.env = pure false := by rfl) (hf : X.fn x = true ∨ X.env.scope.names.lookup x = some .local := by first | exact .inl rfl | exact .inr rfl | assumption) :
    PS X (.Assign [.Name x pos'] e pos) (tAsg te (gName i)) := by
  intro pins s σ H D I h
  refine wpAny_Assign_Name (thn (he pins s σ H _ I h) fun v s1 ⟨y, H1, I1, r1, q1⟩ => ?_) hs
  exact store_ok I1 hN hi hx r1 (fun s2 I2 => ⟨_, H1, I2, q1⟩) hf
end
section
variable {X : Cx} {pos : Pos}
end
structure It where
  go : Nat → Hp → Prop
  yld : Nat → Hp → V → Hp → Prop
  stop : Nat → Hp → Prop
def FpOk (X : Cx) (pins : List (Addr × Obj)) (H : Hp) (b : Addr) : Prop :=
  H b = none ∧ b ≠ X.env.locals ∧ b ∉ X.fs ∧ (b ∈ X.ex ∨ X.s₀.heap.objs.size ≤ b) ∧ (∀ x c, X.env.cells.lookup x = some c → c ≠ b) ∧ ∀ p ∈ X.pn ++ pins, p.1 ≠ b
theorem Inv.fpOk {X : Cx} {pins : List (Addr × Obj)} {σ : St} {H H' : Hp} {s : Shared} {b : Addr} (I : Inv X pins σ H s) (hb : s.heap.objs.size ≤ b) (hn : H' b = none) : FpOk X pins H' b := by
  refine ⟨hn, Nat.ne_of_gt (Nat.lt_of_lt_of_le I.lt hb), I.nofs hb, .inr (Nat.le_trans I.sz hb), fun x c e z => ?_, fun p hp z => ?_⟩
  · obtain ⟨v, q⟩ := I.cell x c e
    exact absurd (Nat.lt_of_lt_of_le q.lt (by rw [z]; exact hb)) (Nat.lt_irrefl _)
  · exact absurd (Nat.lt_of_lt_of_le (Heap.lt_size (I.pin p hp).1) (by rw [z]; exact hb)) (Nat.lt_irrefl _)
structure Turn (P : Program) (w : World) (K : PySem.W.Frag) (tg : Expr) (J : It) (fp : List Addr) (it : Addr) (tn : Nat → Heap → Prop) : Prop where
  mem : it ∈ fp
  obj : ∀ i h, tn i h → ∀ b ∈ fp, ∃ o, h.get? b = some o ∧ ∀ v, o.data ≠ .cell v
  keep : ∀ i h h', tn i h → (∀ b ∈ fp, ∀ o, h.get? b = some o → h'.get? b = some o) → tn i h'
  item : ∀ (X : Cx), X.prog = P → X.w = w → X.K = K → X.calm = true → ∀ (i : Nat) (pins : List (Addr × Obj)) (s : Shared) (σ : St) (H : Hp) (E : Value → Shared → Prop), Inv X pins σ H s → (∀ b ∈ fp, FpOk X pins H b) → tn i s.heap → J.go i H →
    wpAny (model P w) X.A (pyNext (.ref it)) (fun r s1 => ∃ u, r = some u ∧
      wpAny (model P w) X.A (letOwnedTupleGo tg (.ref it) u) (fun _ s2 => ∃ x H', Inv X pins σ H' s2 ∧ RelV x u ∧ J.yld i H x H' ∧ tn (i + 1) s2.heap ∧ ∀ b ∈ fp, H' b = none) E s1) E s
  done : ∀ (X : Cx), X.prog = P → X.w = w → X.K = K → X.calm = true → ∀ (i : Nat) (pins : List (Addr × Obj)) (s : Shared) (σ : St) (H : Hp) (E : Value → Shared → Prop), Inv X pins σ H s → (∀ b ∈ fp, FpOk X pins H b) → tn i s.heap → J.stop i H →
    wpAny (model P w) X.A (pyNext (.ref it)) (fun r s1 => r = none ∧ Inv X pins σ H s1) E s
  self : ∀ (A : Around) (i : Nat) (s : Shared) (Q : Value → Shared → Prop) (E : Value → Shared → Prop), tn i s.heap → Q (.ref it) s → wpAny (model P w) A (pyIter (.ref it)) Q E s
abbrev TI := St → Hp → (It → Hp → Prop) → Prop
def PIE (X : Cx) (pins : List (Addr × Obj)) (σ : St) (tg : Expr) (R : It → Hp → Prop) (itv : Value) (s2 : Shared) : Prop :=
  ∃ (it : Addr) (fp : List Addr) (tn : Nat → Heap → Prop) (J : It) (H' : Hp), itv = .ref it ∧ Inv X pins σ H' s2 ∧ Turn X.prog X.w X.K tg J fp it tn ∧ tn 0 s2.heap ∧ (∀ b ∈ fp, FpOk X pins H' b) ∧ R J H'
def PI (X : Cx) (tg iter : Expr) (wi : TI) : Prop :=
  ∀ (pins : List (Addr × Obj)) (s : Shared) (σ : St) (H : Hp) (R : It → Hp → Prop), Inv X pins σ H s → wi σ H R →
    wpAny (model X.prog X.w) X.A (eval iter X.env) (fun v s1 => wpAny (model X.prog X.w) X.A (pyIter v) (PIE X pins σ tg R) X.xe s1) X.xe s
theorem go_of {M : Model} {A : Around} {E : Value → Shared → Prop} {s : Shared} {tg : Expr} {it : Addr} {u : Value} {o : Obj} {n : String} {vs : Array Value} {Q : Unit → Shared → Prop} (ho : s.heap.get? it = some o) (hc : o.cls = .type n) (hd : o.data = .fields vs)
    (hn : ["enumerate", "zip", "dict_itemiterator", "dict_reverseitemiterator", "odict_iterator", "itertools.zip_longest", "itertools.pairwise"].contains n = false) (hQ : Q () s) : wpAny M A (letOwnedTupleGo tg (.ref it) u) Q E s := by
  unfold letOwnedTupleGo
  cases tg <;> first
    | exact wpAny_pure hQ
    | (cases u <;> first
        | exact wpAny_pure hQ
        | (refine wpAny_bind (wpAny_load ho ?_)
           rw [hc, hd]
           show wpAny M A (if (["enumerate", "zip", "dict_itemiterator", "dict_reverseitemiterator", "odict_iterator", "itertools.zip_longest", "itertools.pairwise"].contains n && vs[0]? == some (rawInt _)) = true then _ else _) Q E s
           rw [if_neg (by intro h; rw [hn, Bool.false_and] at h; cases h)]
           exact wpAny_pure hQ))
def Itl (K : PySem.W.Frag) (a : Addr) : It :=
  ⟨fun i H => ∃ xs x, SqL K H a xs ∧ xs[i]? = some x, fun i H x H' => H' = H ∧ ∀ xs, SqL K H a xs → xs[i]? = some x, fun i H => ∃ xs, SqL K H a xs ∧ xs.length ≤ i⟩
def Itt (K : PySem.W.Frag) (a : Addr) : It :=
  ⟨fun i H => ∃ xs x, SqT K H a xs ∧ xs[i]? = some x, fun i H x H' => H' = H ∧ ∀ xs, SqT K H a xs → xs[i]? = some x, fun i H => ∃ xs, SqT K H a xs ∧ xs.length ≤ i⟩
def Itr (lo : Int) (n : Nat) : It := ⟨fun i _ => i < n, fun i H x H' => H' = H ∧ x = .int (lo + i), fun i _ => n ≤ i⟩
theorem turn_range {P : Program} {w : World} {K : PySem.W.Frag} {tg : Expr} (it : Addr) (lo : Int) (n : Nat) : Turn P w K tg (Itr lo n) [it] it (fun i h => IsRangeIter h it (lo + (i : Nat) * 1) ((n : Int) - (i : Nat)) 1) where
  mem := by simp
  obj := fun i h st b hb => by
    have e : b = it := by simpa using hb
    subst e
    exact ⟨_, st, fun v z => by
      have z' : Data.fields _ = Data.cell v := z
      cases z'⟩
  keep := fun i h h' st k => k it (by simp) _ st
  item := by
    intro X hP hw hK hc i pins s σ H E I hf st hg
    subst hP hw hK
    obtain ⟨f0, f1, f2, f3, f4, f5⟩ := hf it (by simp)
    have W := Walks.range (prog := X.prog) (w := X.w) (I.ok.hd hc) it lo 1 n
    refine W.item i s _ _ hg st fun v h' tk hv st' kk => ?_
    obtain ⟨t, rfl⟩ := hv
    have I1 : Inv X pins σ H { s with heap := h', toks := tk } := I.turned (fun b o hb e => kk b o (by simpa using hb) e) f0 f1 f3 f4 f5
    refine ⟨_, rfl, go_of (s := { s with heap := h', toks := tk }) (n := "range_iterator") st' rfl rfl (by decide) ⟨.int (lo + i), H, I1, ⟨t, ?_⟩, ⟨rfl, rfl⟩, st', fun b hb => (hf b hb).1⟩⟩
    rw [Int.mul_one]
  done := by
    intro X hP hw hK hc i pins s σ H E I hf st hg
    subst hP hw hK
    obtain ⟨f0, f1, f2, f3, f4, f5⟩ := hf it (by simp)
    exact wpAny_pyNext_range_end (I.ok.hd hc) st (by have : n ≤ i := hg; omega) fun h' eb => ⟨rfl, I.turned (t' := s.toks) (fun b o hb e => eb b o hb e) f0 f1 f3 f4 f5⟩
  self := fun _ _ _ _ _ st h => wpAny_pyIter_rangeiter st h
end L2
namespace L2
open PySem PySem.Spec PyProof.Rows
section
variable {X : Cx} {tg : Expr}
theorem range_it {pins : List (Addr × Obj)} {σ : St} {H : Hp} {s : Shared} {R : It → Hp → Prop} {E : Value → Shared → Prop} {lo hi : Int} {t u v : Tok} {tk : Nat} (I : Inv X pins σ H s) (h1 : -(2 ^ 62) ≤ lo) (h2 : lo < 2 ^ 62) (h3 : -(2 ^ 62) ≤ hi) (h4 : hi < 2 ^ 62)
    (q : R (Itr lo (hi - lo).toNat) H) : wpAny (model X.prog X.w) X.A (pyIter (.ref s.heap.objs.size)) (PIE X pins σ tg R) E { s with heap := s.heap.push { cls := .type "range", data := .fields #[.int lo t, .int hi u, .int 1 v] }, toks := tk } := by
  refine wpAny_pyIter_range (IsRange.new ..) (small_one h1 h2 h3 h4) ?_
  have I1 : Inv X pins σ H { s with heap := s.heap.push { cls := .type "range", data := .fields #[.int lo t, .int hi u, .int 1 v] }, toks := tk } := I.kept fun b o e => Heap.get?_push_of_some _ e
  refine ⟨(s.heap.push { cls := .type "range", data := .fields #[.int lo t, .int hi u, .int 1 v] }).objs.size, [(s.heap.push { cls := .type "range", data := .fields #[.int lo t, .int hi u, .int 1 v] }).objs.size], _, _, H, rfl,
    I1.kept (t' := tk) fun b o e => Heap.get?_push_of_some _ e, turn_range _ lo (hi - lo).toNat, ?_, fun b hb => ?_, q⟩
  · have e1 : lo + ((0 : Nat) : Int) * 1 = lo := by simp
    have e2 : (((hi - lo).toNat : Nat) : Int) - ((0 : Nat) : Int) = Builtin.Range.rangeSize lo hi 1 := by rw [rangeSize_one]; split <;> omega
    show IsRangeIter _ _ (lo + ((0 : Nat) : Int) * 1) ((((hi - lo).toNat : Nat) : Int) - ((0 : Nat) : Int)) 1
    rw [e1, e2]
    exact Heap.get?_push_size _ rfl
  · have e : b = (s.heap.push { cls := .type "range", data := .fields #[.int lo t, .int hi u, .int 1 v] }).objs.size := by simpa using hb
    subst e
    exact I1.fpOk (Nat.le_refl _) (I1.hok.fresh (Nat.le_refl _))
def iRng1 (ta : TA) : TI := fun σ H R => ta σ H fun vs H1 => ∃ j : Int, vs = [.int j] ∧ -(2 ^ 62) ≤ j ∧ j < 2 ^ 62 ∧ R (Itr 0 j.toNat) H1
def iRng2 (ta : TA) : TI := fun σ H R => ta σ H fun vs H1 => ∃ i j : Int, vs = [.int i, .int j] ∧ (-(2 ^ 62) ≤ i ∧ i < 2 ^ 62 ∧ -(2 ^ 62) ≤ j ∧ j < 2 ^ 62) ∧ R (Itr i (j - i).toNat) H1
theorem pi_range1 {a : Expr} {ta : TA} {p pos : Pos} (hg : Gl X "range") (hm : X.mg "range" = none) (ha : PA X [a] ta) (hs : starEach [a] X.env = [(false, eval a X.env)] := by rfl) : PI X tg (.Call (.Name "range" p) [a] [] pos) (iRng1 ta) := by
  intro pins s σ H R I h
  refine Call_ (ld_blt I hg hm boot_range (PyProof.Rows.callWith_type1 (thn (ha pos pins s σ H _ I h) fun us s1 ⟨vs, H1, I1, r1, q1⟩ => ?_) hs rfl))
  obtain ⟨j, e, q1, q2, q⟩ := q1
  subst e
  cases r1 with
  | cons r rr =>
    cases rr
    obtain ⟨t, rfl⟩ := r
    exact call_range_1 (range_it I1 (by omega) (by omega) q1 q2 (by simpa using q))
theorem pi_range2 {a b : Expr} {ta : TA} {p pos : Pos} (hg : Gl X "range") (hm : X.mg "range" = none) (ha : PA X [a, b] ta) (hs : starEach [a, b] X.env = [(false, eval a X.env), (false, eval b X.env)] := by rfl) (hs2 : starEach [b] X.env = [(false, eval b X.env)] := by rfl) :
    PI X tg (.Call (.Name "range" p) [a, b] [] pos) (iRng2 ta) := by
  intro pins s σ H R I h
  refine Call_ (ld_blt I hg hm boot_range (PyProof.Rows.callWith_type1 (thn (ha pos pins s σ H _ I h) fun us s1 ⟨vs, H1, I1, r1, q1⟩ => ?_) (by rw [hs, hs2]) (by rw [hs2]; rfl)))
  obtain ⟨i, j, e, ⟨q1, q2, q3, q4⟩, q⟩ := q1
  subst e
  cases r1 with
  | cons r rr =>
    cases rr with
    | cons r' rr =>
      cases rr
      obtain ⟨t, rfl⟩ := r
      obtain ⟨t', rfl⟩ := r'
      exact call_range_2 (range_it I1 q1 q2 q3 q4 q)
def tFor (wi : TI) (g : TG) (tb : TS) : TS := fun D σ H => wi σ H fun J H1 => ∃ W : Nat → Nat → St → Hp → Prop, (∃ m, W 0 m σ H1) ∧ ∀ i m σ H, W i m σ H →
  (J.stop i H ∧ D.nx σ H) ∨ (J.go i H ∧ ∃ N : St → Hp → Prop, (∀ σ' H', N σ' H' → ∃ m', m' < m ∧ W (i + 1) m' σ' H') ∧ ∀ x H', J.yld i H x H' → g x σ H' fun σ2 H2 => tb { D with nx := N, ct := N, bk := D.nx } σ2 H2)
def pinsAt (fp : List Addr) (h : Heap) : List (Addr × Obj) := fp.filterMap fun b => (h.get? b).map fun o => (b, o)
theorem mem_pinsAt {fp : List Addr} {h : Heap} {b : Addr} {o : Obj} (hb : b ∈ fp) (e : h.get? b = some o) : (b, o) ∈ pinsAt fp h := List.mem_filterMap.mpr ⟨b, hb, by rw [e]; rfl⟩
theorem of_pinsAt {fp : List Addr} {h : Heap} {p : Addr × Obj} (hp : p ∈ pinsAt fp h) : p.1 ∈ fp ∧ h.get? p.1 = some p.2 := by
  obtain ⟨b, hb, e⟩ := List.mem_filterMap.mp hp
  cases q : h.get? b with
  | none => rw [q] at e; cases e
  | some o =>
    rw [q] at e
    have e' : (b, o) = p := Option.some.inj e
    subst e'
    exact ⟨hb, q⟩
theorem Inv.pinned {pins : List (Addr × Obj)} {σ : St} {H : Hp} {s : Shared} {fp : List Addr} (I : Inv X pins σ H s) (hf : ∀ b ∈ fp, FpOk X pins H b) (ho : ∀ b ∈ fp, ∃ o, s.heap.get? b = some o ∧ ∀ v, o.data ≠ .cell v) : Inv X (pins ++ pinsAt fp s.heap) σ H s :=
  I.pins_of fun p hp => (List.mem_append.mp hp).elim (fun z => I.pin p (List.mem_append_right _ z)) fun z => by
    obtain ⟨hb, e⟩ := of_pinsAt z
    obtain ⟨f0, f1, f2, _⟩ := hf p.1 hb
    obtain ⟨o, e', d⟩ := ho p.1 hb
    rw [e] at e'; cases e'
    exact ⟨e, f0, f1, f2, d⟩
theorem Inv.unpinned {pins pl : List (Addr × Obj)} {σ : St} {H : Hp} {s : Shared} (I : Inv X (pins ++ pl) σ H s) : Inv X pins σ H s := I.pins_of fun p hp => I.pin p (List.mem_append_right _ (List.mem_append_left _ hp))
theorem ps_for {iter : Expr} {body : List Stmt} {wi : TI} {g : TG} {tb : TS} {pos : Pos} (hp : PassesOwn (model X.prog X.w) X.A X.env X.xe) (hc : X.calm = true) (hi : PI X tg iter wi) (hg : PG X tg g) (hb : PSs X body tb)
    (hs : ∀ x, foldedSetIterable iter X.env x = pure x := by intro _; rfl) : PS X (.For tg iter body [] pos) (tFor wi g tb) := by
  intro pins s σ H D I h
  refine wpAny_For (thn (hi pins s σ H _ I h) fun v s1 h1 => thn h1 fun itv s2 h2 => ?_) hs
  obtain ⟨it, fp, tn, J, H2, e, I2, T, st2, f2, W, ⟨m0, w0⟩, turn⟩ := h2
  subst e
  have stat : ∀ {H' : Hp}, (∀ b ∈ fp, H' b = none) → ∀ b ∈ fp, FpOk X pins H' b := fun hn b hb => ⟨hn b hb, (f2 b hb).2⟩
  refine codeAny_forLoop_any (fun n s' => ∃ i σ' H', Inv X pins σ' H' s' ∧ tn i s'.heap ∧ (∀ b ∈ fp, H' b = none) ∧ W i n σ' H') ?_ m0 ⟨0, σ, H2, I2, st2, fun b hb => (f2 b hb).1, w0⟩
  rintro n s3 ⟨i, σ3, H3, I3, st3, fr3, w3⟩
  rcases turn i n σ3 H3 w3 with ⟨stop, qn⟩ | ⟨go, N, hN, step⟩
  · refine wpAny_passesOwn hp (thn (T.done X rfl rfl rfl hc i pins s3 σ3 H3 X.xe I3 (stat fr3) st3 stop) fun r s4 ⟨hr, I4⟩ => ?_)
    subst hr
    exact wpAny_execs_nil ⟨σ3, H3, I4, qn⟩
  · refine wpAny_passesOwn hp (thn (T.item X rfl rfl rfl hc i pins s3 σ3 H3 X.xe I3 (stat fr3) st3 go) fun r s4 ⟨u, hr, h4⟩ => ?_)
    subst hr
    refine wpAny_passesOwn hp (thn h4 fun _ s5 ⟨x, H5, I5, r5, y5, st5, fr5⟩ => ?_)
    have I5' := I5.pinned (stat fr5) (T.obj _ _ st5)
    refine wpAny_passesOwn hp (thn (hg _ s5 σ3 H5 x u _ I5' r5 (step x H5 y5)) fun _ s6 ⟨σ6, H6, I6, q6⟩ => ?_)
    refine wpAny_passesOwn hp (thn (hb _ s6 σ6 H6 _ I6 q6) fun f s7 q7 => ?_)
    have again : ∀ {σ7 : St} {H7 : Hp}, Inv X (pins ++ pinsAt fp s5.heap) σ7 H7 s7 → N σ7 H7 → ∃ m, m < n ∧ ∃ i σ' H', Inv X pins σ' H' s7 ∧ tn i s7.heap ∧ (∀ b ∈ fp, H' b = none) ∧ W i m σ' H' := fun {σ7 H7} I7 n7 => by
      obtain ⟨m', hm, w7⟩ := hN σ7 H7 n7
      refine ⟨m', hm, i + 1, σ7, H7, I7.unpinned, T.keep _ _ _ st5 fun b hb o e => (I7.pin (b, o) (List.mem_append_right _ (List.mem_append_right _ (mem_pinsAt hb e)))).1, fun b hb => ?_, w7⟩
      obtain ⟨o, e, d⟩ := T.obj _ _ st5 b hb
      exact (I7.pin (b, o) (List.mem_append_right _ (List.mem_append_right _ (mem_pinsAt hb e)))).2.1
    cases f with
    | next => obtain ⟨σ7, H7, I7, n7⟩ := q7; exact again I7 n7
    | cont => obtain ⟨σ7, H7, I7, n7⟩ := q7; exact again I7 n7
    | brk => obtain ⟨σ7, H7, I7, q7⟩ := q7; exact ⟨σ7, H7, I7.unpinned, q7⟩
    | ret v => obtain ⟨x7, σ7, H7, I7, r7, q7⟩ := q7; exact ⟨x7, σ7, H7, I7.unpinned, r7, q7⟩
end
end L2
namespace L2
open PySem PySem.Spec PyProof.Rows
abbrev R2 := V → V → Hp → VK → Prop
def OpR (X : Cx) (f : Value → Value → Sem Value) (r : R2) : Prop :=
  ∀ (pins : List (Addr × Obj)) (s : Shared) (σ : St) (H : Hp) (x y : V) (v u : Value) (Q : VK), Inv X pins σ H s → RelV x v → RelV y u → r x y H Q →
    wpAny (model X.prog X.w) X.A (f v u) (EP X pins σ Q) X.xe s
def CallR (X : Cx) (f : Value) (r : List V → Hp → VK → Prop) : Prop :=
  ∀ (pins : List (Addr × Obj)) (s : Shared) (σ : St) (H : Hp) (xs : List V) (us : List Value) (Q : VK), Inv X pins σ H s → Vals xs us → r xs H Q →
    wpAny (model X.prog X.w) X.A (call f us) (EP X pins σ Q) X.xe s
def tOp (r : R2) (ta tb : TE) : TE := fun σ H Q => ta σ H fun x H1 => tb σ H1 fun y H2 => r x y H2 Q
def rI (C : Int → Int → Prop) (g : Int → Int → V) : R2 := fun x y H Q => ∃ i j, x = .int i ∧ y = .int j ∧ C i j ∧ Q (g i j) H
def rI0 (g : Int → Int → V) : R2 := fun x y H Q => ∃ i j, x = .int i ∧ y = .int j ∧ Q (g i j) H
section
variable {X : Cx} {a b c : Expr} {ta tb tc : TE} {pos : Pos}
theorem binT (ha : PE X a ta) (hb : PE X b tb) {pins : List (Addr × Obj)} {s : Shared} {σ : St} {H : Hp} {R : V → V → Hp → Prop} (I : Inv X pins σ H s)
    (h : ta σ H fun x H1 => tb σ H1 fun y H2 => R x y H2) {Q : Value → Shared → Prop} {f : Value → Value → Sem Value}
    (hf : ∀ v u s2 x y H2, Inv X pins σ H2 s2 → RelV x v → RelV y u → R x y H2 → wpAny (model X.prog X.w) X.A (f v u) Q X.xe s2) :
    wpAny (model X.prog X.w) X.A (eval a X.env) (fun v s₁ => wpAny (model X.prog X.w) X.A (eval b X.env) (fun u s₂ => wpAny (model X.prog X.w) X.A (f v u) Q X.xe s₂) X.xe s₁) X.xe s := by
  refine thn (ha pins s σ H _ I h) fun v s1 ⟨x, H1, I1, r1, q1⟩ => ?_
  refine thn (hb pins s1 σ H1 _ I1 q1) fun u s2 ⟨y, H2, I2, r2, q2⟩ => ?_
  exact hf v u s2 x y H2 I2 r1 r2 q2
theorem pe_op {op : Operator} {r : R2} (ho : OpR X (binaryOp op) r) (ha : PE X a ta) (hb : PE X b tb) : PE X (.BinOp a op b pos) (tOp r ta tb) := by
  intro pins s σ H Q I h
  exact wpAny_BinOp (binT ha hb I h fun v u s2 x y H2 I2 rx ry q => ho pins s2 σ H2 x y v u Q I2 rx ry q)
theorem opI {f : Value → Value → Sem Value} {C : Int → Int → Prop} {g : Int → Int → Int}
    (rule : ∀ (i j : Int) (t u : Tok) (s : Shared) (Q : Value → Shared → Prop) (E : Value → Shared → Prop), C i j → Q (.int (g i j) s.toks) { s with toks := s.toks + 1 } → wpAny (model X.prog X.w) X.A (f (.int i t) (.int j u)) Q E s) :
    OpR X f (rI C fun i j => .int (g i j)) := by
  intro pins s σ H x y v u Q I rx ry h
  obtain ⟨i, j, rfl, rfl, hc, q⟩ := h
  obtain ⟨t, rfl⟩ := rx
  obtain ⟨t', rfl⟩ := ry
  exact rule i j t t' s _ _ hc ⟨.int (g i j), H, I.tok _, ⟨_, rfl⟩, q⟩
theorem opI0 {f : Value → Value → Sem Value} {g : Int → Int → Int}
    (rule : ∀ (i j : Int) (t u : Tok) (s : Shared) (Q : Value → Shared → Prop) (E : Value → Shared → Prop), Q (.int (g i j) s.toks) { s with toks := s.toks + 1 } → wpAny (model X.prog X.w) X.A (f (.int i t) (.int j u)) Q E s) :
    OpR X f (rI0 fun i j => .int (g i j)) := by
  intro pins s σ H x y v u Q I rx ry h
  obtain ⟨i, j, rfl, rfl, q⟩ := h
  obtain ⟨t, rfl⟩ := rx
  obtain ⟨t', rfl⟩ := ry
  exact rule i j t t' s _ _ ⟨.int (g i j), H, I.tok _, ⟨_, rfl⟩, q⟩
theorem opB0 {f : Value → Value → Sem Value} {g : Int → Int → Bool}
    (rule : ∀ (i j : Int) (t u : Tok) (s : Shared) (Q : Value → Shared → Prop) (E : Value → Shared → Prop), Q (.bool (g i j)) s → wpAny (model X.prog X.w) X.A (f (.int i t) (.int j u)) Q E s) :
    OpR X f (rI0 fun i j => .bl (g i j)) := by
  intro pins s σ H x y v u Q I rx ry h
  obtain ⟨i, j, rfl, rfl, q⟩ := h
  obtain ⟨t, rfl⟩ := rx
  obtain ⟨t', rfl⟩ := ry
  exact rule i j t t' s _ _ ⟨.bl (g i j), H, I, rfl, q⟩
def CDiv (i j : Int) : Prop := 0 < j ∧ j < 1073741824
def CMul (i j : Int) : Prop := (-(2 ^ 64) < i ∧ i < 2 ^ 64) ∨ (-(2 ^ 64) < j ∧ j < 2 ^ 64)
theorem CMul.ok {i j : Int} (h : CMul i j) : IntMulOk i j := by
  rcases h with ⟨h1, h2⟩ | ⟨h1, h2⟩
  · exact .of_left (intBits_le_64 h1 h2)
  · exact .of_right (intBits_le_64 h1 h2)
theorem op_add : OpR X (binaryOp .Add) (rI0 fun i j => .int (i + j)) := opI0 fun _ _ _ _ _ _ _ q => add_int q
theorem op_sub : OpR X (binaryOp .Sub) (rI0 fun i j => .int (i - j)) := opI0 fun _ _ _ _ _ _ _ q => sub_int q
theorem op_mul : OpR X (binaryOp .Mult) (rI CMul fun i j => .int (i * j)) := opI fun _ _ _ _ _ _ _ hc q => mul_int q hc.ok
theorem op_fdiv : OpR X (binaryOp .FloorDiv) (rI CDiv fun i j => .int (i / j)) := opI fun i j _ _ _ _ _ hc q => by
  have h1 : (0 : Int) < j := hc.1
  have h2 : j < 1073741824 := hc.2
  exact floordiv_int (by omega) (by rw [Int.fdiv_eq_ediv_of_nonneg i (by omega)]; exact q) (.inl (PyProof.noPylong_small (by omega)))
theorem op_mod : OpR X (binaryOp .Mod) (rI (fun _ j => 0 < j) fun i j => .int (i % j)) := opI fun i j _ _ _ _ _ hc q => by
  have h1 : (0 : Int) < j := hc
  exact mod_int' (by omega) (by rw [Int.fmod_eq_emod_of_nonneg i (by omega)]; exact q)
end
section
variable {X : Cx} {a b c : Expr} {ta tb tc : TE} {pos : Pos}
theorem op_lt : OpR X (compareOp .Lt) (rI0 fun i j => .bl (decide (i < j))) := opB0 fun _ _ _ _ _ _ _ q => lt_int q
theorem op_le : OpR X (compareOp .LtE) (rI0 fun i j => .bl (decide (i ≤ j))) := opB0 fun _ _ _ _ _ _ _ q => le_int q
theorem op_gt : OpR X (compareOp .Gt) (rI0 fun i j => .bl (decide (j < i))) := opB0 fun _ _ _ _ _ _ _ q => gt_int q
theorem op_ge : OpR X (compareOp .GtE) (rI0 fun i j => .bl (decide (j ≤ i))) := opB0 fun _ _ _ _ _ _ _ q => ge_int q
theorem OpR.or {f : Value → Value → Sem Value} {r r' : R2} (h : OpR X f r) (h' : OpR X f r') : OpR X f (fun x y H Q => r x y H Q ∨ r' x y H Q) := by
  intro pins s σ H x y v u Q I rx ry q
  rcases q with q | q
  · exact h pins s σ H x y v u Q I rx ry q
  · exact h' pins s σ H x y v u Q I rx ry q
theorem nomark (b : Expr) {op : CmpOp} (h : op ≠ .In := by decide) (h2 : op ≠ .NotIn := by decide) : behindInMarks op b = false := by
  have e1 : (op == CmpOp.In) = false := by cases op <;> first | rfl | exact absurd rfl h
  have e2 : (op == CmpOp.NotIn) = false := by cases op <;> first | rfl | exact absurd rfl h2
  cases b <;> simp [behindInMarks, e1, e2]
theorem pe_cmpR {op : CmpOp} {r : R2} (ho : OpR X (compareOp op) r) (ha : PE X a ta) (hb : PE X b tb) (hm : behindInMarks op b = false) : PE X (.Compare a [op] [b] pos) (tOp r ta tb) := by
  intro pins s σ H Q I h
  exact wpAny_Compare1 (binT ha hb I h fun v u s2 x y H2 I2 rx ry q => ho pins s2 σ H2 x y v u Q I2 rx ry q) hm
def tTest (t : TE) : TT := fun σ H Q => t σ H fun x H' => ∃ k, x = .bl k ∧ Q k H'
theorem pt_cmpR {op : CmpOp} {r : R2} (ho : OpR X (compareOp op) r) (ha : PE X a ta) (hb : PE X b tb) (hm : behindInMarks op b = false) : PT X (.Compare a [op] [b] pos) (tTest (tOp r ta tb)) := by
  intro pins s σ H Q I h
  refine wpAny_isTrue_Compare1 (thn (ha pins s σ H _ I h) fun v s1 ⟨x, H1, I1, r1, q1⟩ => thn (hb pins s1 σ H1 _ I1 q1) fun u s2 ⟨y, H2, I2, r2, q2⟩ =>
    thn (ho pins s2 σ H2 x y v u _ I2 r1 r2 q2) fun c s3 ⟨z, H3, I3, r3, k, e, q3⟩ => ?_) hm
  subst e
  cases r3
  exact wpAny_truthy_bool ⟨H3, I3, q3⟩
def tChain (r r' : R2) (ta tb tc : TE) : TE := fun σ H Q => ta σ H fun x H1 => tb σ H1 fun y H2 => r x y H2 fun z H3 => ∃ k, z = .bl k ∧
  (if k = true then tc σ H3 fun w' H4 => r' y w' H4 Q else Q (.bl false) H3)
theorem pt_chain {op op' : CmpOp} {r r' : R2} (ho : OpR X (compareOp op) r) (ho' : OpR X (compareOp op') r') (ha : PE X a ta) (hb : PE X b tb) (hc : PE X c tc)
    (hm : lastMarks [op, op'] [b, c] = false := by with_unfolding_all rfl) : PT X (.Compare a [op, op'] [b, c] pos) (tTest (tChain r r' ta tb tc)) := by
  intro pins s σ H Q I h
  refine isTrue_chain (thn (ha pins s σ H _ I h) fun v s1 ⟨x, H1, I1, r1, q1⟩ => test_link (thn (hb pins s1 σ H1 _ I1 q1) fun u s2 ⟨y, H2, I2, r2, q2⟩ =>
    thn (ho pins s2 σ H2 x y v u _ I2 r1 r2 q2) fun d s3 ⟨z, H3, I3, r3, k, e, q3⟩ => ?_)) hm
  subst e
  cases r3
  refine wpAny_truthy_bool ?_
  cases k with
  | false =>
    obtain ⟨k', e', q'⟩ := q3
    cases e'
    exact ite_ff ⟨H3, I3, q'⟩
  | true =>
    refine ite_tt (test_last (thn (hc pins s3 σ H3 _ I3 q3) fun w' s4 ⟨z', H4, I4, r4, q4⟩ => thn (ho' pins s4 σ H4 y z' u w' _ I4 r2 r4 q4) fun d' s5 ⟨z2, H5, I5, r5, k2, e2, q5⟩ => ?_))
    subst e2
    cases r5
    exact wpAny_truthy_bool ⟨H5, I5, q5⟩
theorem line63 : (sizeLine : Nat) < 2 ^ 63 := by rw [sizeLine_eq]; decide
theorem op_add_str : OpR X (binaryOp .Add) (fun x y H Q => ∃ i j, x = .str i ∧ y = .str j ∧ i.length + j.length ≤ sizeLine ∧ Q (.str (i ++ j)) H) := by
  intro pins s σ H x y v u Q I rx ry h
  obtain ⟨i, j, rfl, rfl, hz, q⟩ := h
  obtain ⟨t, rfl⟩ := rx
  obtain ⟨t', rfl⟩ := ry
  exact add_str (fun t' tk => ⟨.str (i ++ j), H, I.tok _, ⟨_, rfl⟩, q⟩) hz
theorem vals1 {x : V} {us : List Value} (r : Vals [x] us) : ∃ u, us = [u] ∧ RelV x u := by
  cases r with
  | cons r1 r2 => cases r2; exact ⟨_, rfl, r1⟩
theorem vals2 {x y : V} {us : List Value} (r : Vals [x, y] us) : ∃ u w', us = [u, w'] ∧ RelV x u ∧ RelV y w' := by
  cases r with
  | cons r1 r2 =>
    cases r2 with
    | cons r3 r4 => cases r4; exact ⟨_, _, rfl, r1, r3⟩
theorem call_max2 (hc : X.calm = true) : CallR X (.builtin "max") (fun xs H Q => ∃ i j, xs = [.int i, .int j] ∧ Q (.int (if j > i then j else i)) H) := by
  intro pins s σ H xs us Q I r h
  obtain ⟨i, j, rfl, q⟩ := h
  obtain ⟨u, w', rfl, ⟨t, rfl⟩, ⟨t', rfl⟩⟩ := vals2 r
  refine max_two_ints (I.ok.hd hc) fun h' tk k => ⟨_, H, I.kept k, ?_, q⟩
  by_cases hj : j > i
  · rw [if_pos hj, if_pos hj]; exact ⟨_, rfl⟩
  · rw [if_neg hj, if_neg hj]; exact ⟨_, rfl⟩
theorem call_int1 : CallR X (.type "int") (fun xs H Q => (∃ i, xs = [.int i] ∧ Q (.int i) H) ∨ ∃ k, xs = [.bl k] ∧ Q (.int (if k then 1 else 0)) H) := by
  intro pins s σ H xs us Q I r h
  rcases h with ⟨i, rfl, q⟩ | ⟨k, rfl, q⟩
  · obtain ⟨u, rfl, t, rfl⟩ := vals1 r
    exact call_int_int ⟨.int i, H, I, ⟨_, rfl⟩, q⟩
  · obtain ⟨u, rfl, r1⟩ := vals1 r
    cases r1
    exact call_int_bool ⟨.int (if k then 1 else 0), H, I.tok _, ⟨_, rfl⟩, q⟩
end
end L2
namespace L2
open PySem PySem.Spec PyProof.Rows
structure ObjM (h : Heap) (x dx C : Addr) (mA : Str → Option Value) : Prop where
  obj : h.get? x = some (PySem.W.instObj C dx)
  ns : h.Ns1 dx mA
  ne : dx ≠ x
theorem lookIn_ns {h : Heap} {dx : Addr} {mA : Str → Option Value} (n : h.Ns1 dx mA) : ∃ od, h.get? dx = some od ∧ ∀ name, PySem.W.lookIn name od = some (mA name) := by
  obtain ⟨o, es, ep, ho, hd, hk, _, hm⟩ := n
  refine ⟨o, ho, fun name => ?_⟩
  have e := hm name
  unfold nsFind findBy at e
  rw [← Array.find?_toList] at e
  unfold PySem.W.lookIn
  rw [hd]
  dsimp only
  split
  · rename_i y q
    rw [q] at e
    exact congrArg some e
  · rename_i q
    rw [q] at e
    have a : es.toList.any (·.refKey) = false := by
      rw [List.any_eq_false]
      intro y hy
      obtain ⟨z, t, hkey⟩ := hk y (Array.mem_toList_iff.mp hy)
      simp [DictEntry.refKey, hkey]
    have a' : ¬ es.toList.any (·.refKey) = true := by rw [a]; exact Bool.false_ne_true
    rw [if_neg a']
    exact congrArg some e
theorem ObjM.look {h : Heap} {x dx C : Addr} {mA : Str → Option Value} (I : ObjM h x dx C mA) : ∃ od, PySem.W.InstAt h x (PySem.W.instObj C dx) C (some od) ∧ ∀ name, PySem.W.lookIn name od = some (mA name) :=
  let ⟨od, ho, hl⟩ := lookIn_ns I.ns
  ⟨od, ⟨I.obj, rfl, rfl, ho⟩, hl⟩
section
variable {prog : Program} {w : World} {A : Around} {E : Value → Shared → Prop} {s : Shared} {K : PySem.W.Frag} {x dx C f : Addr} {mA : Str → Option Value} {name : Str} {v : Value}
end
theorem RelO.some_of {v : V} {o : Option Value} (r : RelO (some v) o) : ∃ u, o = some u ∧ RelV v u := by
  cases o with
  | none => exact (show False from r).elim
  | some u => exact ⟨u, rfl, r⟩
section
variable {P : Program} {w : World} {H H' : Hp} {h h' : Heap} {a C dx : Addr} {fs fs' : List (Str × V)}
theorem ins_get (hok : HOk P w H h) (e : H a = some (.ins C dx fs)) : ∃ mA, ObjM h a dx C mA ∧ (∀ f, RelO (fs.lookup f) (mA f)) ∧ PySem.Within mA (fs.map (·.1)) ∧ fs.length ≤ 1000 ∧ H dx = some (.own a) := by
  obtain ⟨d, z, ne, ob, mA, n, r, q⟩ := (show ObjOk P w H h a (.ins C dx fs) from hok a _ e)
  exact ⟨mA, ⟨ob, n, ne⟩, r, q, z, d⟩
end
structure Cls (K : PySem.W.Frag) (C : Addr) : Prop where
  pg : PySem.W.plainGet K C Str.empty = true
  hd : PySem.W.hasDictIn K C = true
  po : PySem.W.plainOver K C = true
  sa : PySem.W.findIn K (.ref C) "__setattr__" = some (some (.builtin "object.__setattr__"))
theorem Cls.get {K : PySem.W.Frag} {C : Addr} (c : Cls K C) (f : Str) : PySem.W.plainGet K C f = true := c.pg
structure Con (K : PySem.W.Frag) (C : Addr) (f : Str) (v : V) (u : Value) : Prop where
  at_ : PySem.W.findIn K (.ref C) f = some (some u)
  rel : RelV v u
  get : PySem.W.specialIn K u "__get__" = some none
  cp : PySem.W.copiedNames.contains f = false
structure Meth (K : PySem.W.Frag) (C : Addr) (m : Str) (f : Addr) : Prop where
  at_ : PySem.W.findIn K (.ref C) m = some (some (.ref f))
  fn : PySem.W.isFn K (.ref f) = true
  kp : PySem.W.keepIn K (.ref f) = true
section
variable {X : Cx} {pins : List (Addr × Obj)} {σ : St} {H : Hp} {s : Shared} {a C dx : Addr} {fs : List (Str × V)} {f : Str} {v : V} {A : Around} {E : Value → Shared → Prop}
end
section
variable {X : Cx} {o e value : Expr} {f : Str} {pos pos' tpos : Pos} {ta tv : TE}
end
section
variable {X : Cx} {pins : List (Addr × Obj)} {σ : St} {H : Hp} {s : Shared} {A : Around} {E : Value → Shared → Prop} {Q : Value → Shared → Prop} {c : Value} {b : Bool}
inductive TyOf (K : PySem.W.Frag) (H : Hp) : V → Value → Prop where
  | non : TyOf K H .non (.type "NoneType")
  | bl (x : Bool) : TyOf K H (.bl x) (.type "bool")
  | int (i : Int) : TyOf K H (.int i) (.type "int")
  | str (x : Str) : TyOf K H (.str x) (.type "str")
  | flt (x : UInt64) : TyOf K H (.flt x) (.type "float")
  | lst {a : Addr} {xs : List V} (e : H a = some (.lst xs)) : TyOf K H (.ref a) (.type "list")
  | frz {a : Addr} {o : Obj} {xs : List V} (e : H a = some (.frz o (.lst xs))) : TyOf K H (.ref a) (.type "list")
  | tup {a : Addr} {xs : List V} (e : H a = some (.tup xs)) : TyOf K H (.ref a) (.type "tuple")
  | dK {a : Addr} {kvs : List (Key × V)} (e : H a = some (.dK kvs)) : TyOf K H (.ref a) (.type "dict")
  | dT {a : Addr} {kvs : List (List Key × V)} (e : H a = some (.dT kvs)) : TyOf K H (.ref a) (.type "dict")
  | ins {a C dx : Addr} {fs : List (Str × V)} (e : H a = some (.ins C dx fs)) (cl : Cls K C) (ha : PySem.W.findIn K (.ref C) "__class__" = some (some (.builtin "object.__class__")))
      (hn : PySem.W.specialIn K (.builtin "object.__class__") "__get__" = some (some (.builtin "getset_descriptor.__get__"))) (htk : PySem.W.takesIn K (.builtin "object.__class__") = some true)
      (hm : PySem.W.mroIn K C (.type "object") = some true) : TyOf K H (.ref a) (.ref C)
theorem isinst_ok {x : V} {u t : Value} (I : Inv X pins σ H s) (rx : RelV x u) (ty : TyOf X.K H x t) (e : PySem.W.kitOne X.K t c = some b) (h : ∀ tk, Q (.bool b) { s with toks := tk }) :
    wpAny (model X.prog X.w) A (call (.builtin "isinstance") [u, c]) Q E s := by
  cases ty with
  | non => cases (show u = Value.none from rx); exact PySem.W.kia_one PySem.W.kitx_none I.kIn True.intro e (fun z => nomatch z) h
  | bl y => cases (show u = Value.bool y from rx); exact PySem.W.kia_one PySem.W.kitx_bool I.kIn True.intro e (fun z => nomatch z) h
  | int i => obtain ⟨t, q⟩ := (show ∃ t, u = Value.int i t from rx); cases q; exact PySem.W.kia_one PySem.W.kitx_int I.kIn True.intro e (fun z => nomatch z) h
  | str y => obtain ⟨t, q⟩ := (show ∃ t, u = Value.str y t from rx); cases q; exact PySem.W.kia_one PySem.W.kitx_str I.kIn True.intro e (fun z => nomatch z) h
  | flt y => obtain ⟨t, q⟩ := (show ∃ t, u = Value.float y t from rx); cases q; exact PySem.W.kia_one PySem.W.kitx_float I.kIn True.intro e (fun z => nomatch z) h
  | @lst a xs ea =>
    cases (show u = Value.ref a from rx)
    obtain ⟨_, _, n, _, h1⟩ := (show ObjOk X.prog X.w H s.heap a (.lst xs) from I.hok a _ ea)
    exact PySem.W.kia_one PySem.W.kitx_list I.kIn ⟨_, h1, rfl⟩ e (fun z => nomatch z) h
  | @frz a ob xs ea =>
    cases (show u = Value.ref a from rx)
    obtain ⟨_, _, _, n, _, h1⟩ := (show ObjOk X.prog X.w H s.heap a (.frz ob (.lst xs)) from I.hok a _ ea)
    exact PySem.W.kia_one PySem.W.kitx_list I.kIn ⟨_, h1, rfl⟩ e (fun z => nomatch z) h
  | @tup a xs ea =>
    cases (show u = Value.ref a from rx)
    obtain ⟨_, _, _, p⟩ := (show ObjOk X.prog X.w H s.heap a (.tup xs) from I.hok a _ ea)
    obtain ⟨o, h1, h2, _⟩ := p
    exact PySem.W.kia_one PySem.W.kitx_tuple I.kIn ⟨o, h1, h2⟩ e (fun z => nomatch z) h
  | @dK a kvs ea =>
    cases (show u = Value.ref a from rx)
    obtain ⟨_, _, vs, _, p⟩ := (show ObjOk X.prog X.w H s.heap a (.dK kvs) from I.hok a _ ea)
    obtain ⟨o, es, ep, h1, h2, _⟩ := p
    exact PySem.W.kia_one PySem.W.kitx_dict I.kIn ⟨o, h1, h2.1⟩ e (fun z => nomatch z) h
  | @dT a kvs ea =>
    cases (show u = Value.ref a from rx)
    obtain ⟨_, _, xs, _, o, es, ep, h1, h2, _⟩ := (show ObjOk X.prog X.w H s.heap a (.dT kvs) from I.hok a _ ea)
    exact PySem.W.kia_one PySem.W.kitx_dict I.kIn ⟨o, h1, h2.1⟩ e (fun z => nomatch z) h
  | @ins a C dx fs ea cl ha hn htk hm =>
    cases (show u = Value.ref a from rx)
    obtain ⟨mA, O, _⟩ := ins_get I.hok ea
    obtain ⟨od, J, _⟩ := O.look
    exact PySem.W.kia_one (PySem.W.kitx_own (cl.get _) cl.hd ha hn htk hm) I.kIn J e (fun z => nomatch z) h
end
end L2
namespace L2
open PySem PySem.Spec PyProof.Rows
structure Room (k : Nat) (A : Around) : Prop where
  hd : A.handled = none
  dp : A.depth + 3 * k + 5 < recursionLimit
  un : A.units + 16 * k + 200 < cLine
theorem Room.mono {j k : Nat} {A : Around} (r : Room k A) (h : j ≤ k) : Room j A := ⟨r.hd, by have := r.dp; omega, by have := r.un; omega⟩
theorem Room.deeper {k : Nat} {A : Around} (r : Room (k + 1) A) (env : Env) : Room k (A.deeper env) :=
  ⟨r.hd, by have := r.dp; show A.depth + 1 + 3 * k + 5 < _; omega, by have := r.un; show A.units + 3 + 16 * k + 200 < _; omega⟩
theorem Room.in1 {k : Nat} {A : Around} (r : Room (k + 1) A) : Room k A.in1 :=
  ⟨r.hd, by have := r.dp; show A.depth + 3 * k + 5 < _; omega, by have := r.un; show A.units + 1 + 16 * k + 200 < _; omega⟩
theorem Room.depth {k : Nat} {A : Around} (r : Room k A) : A.depth < recursionLimit := by have := r.dp; omega
theorem Room.units {k : Nat} {A : Around} (r : Room k A) : A.units + 64 < cLine := by have := r.un; omega
def tNil : TA := fun _ H Q => Q [] H
def tCons (ta : TE) (tr : TA) : TA := fun σ H Q => ta σ H fun x H1 => tr σ H1 fun xs H2 => Q (x :: xs) H2
section
variable {X : Cx} {e : Expr} {es : List Expr} {te : TE} {t : TA} {pos : Pos}
theorem pa_nil : PA X [] tNil := fun _ _ _ _ H Q I h => Calls.spliced_nil ⟨[], H, I, .nil, h⟩
theorem pa_cons (ha : PE X e te) (hr : PA X es t) (hs : starEach (e :: es) X.env = (false, eval e X.env) :: starEach es X.env := by rfl) : PA X (e :: es) (tCons te t) := by
  intro pos pins s σ H Q I h
  rw [hs]
  show wpAny _ _ (spliced ((false, eval e X.env) :: backTo pos (starEach es X.env))) _ _ s
  refine Calls.spliced_cons (thn (ha pins s σ H _ I h) fun u s1 ⟨x, H1, I1, r1, q1⟩ => ?_)
  exact thn (hr pos pins s1 σ H1 _ I1 q1) fun us s2 ⟨xs, H2, I2, r2, q2⟩ => ⟨x :: xs, H2, I2, .cons r1 r2, q2⟩
def tLst (t : TA) : TE := fun σ H Q => t σ H fun xs H1 => xs.length ≤ sizeLine ∧ ∀ p, H1 p = none → Q (.ref p) (upd H1 p (.lst xs))
theorem pe_lst (h : PA X es t) : PE X (.List es pos) (tLst t) := by
  intro pins s σ H Q I hq
  refine wpAny_List_spliced (thn (h pos pins s σ H _ I hq) fun us s1 ⟨xs, H1, I1, r, z, q⟩ => ⟨by rw [← r.length]; exact z, ?_⟩)
  have hf : H1 s1.heap.objs.size = none := I1.hok.fresh (Nat.le_refl _)
  refine ⟨.ref s1.heap.objs.size, upd H1 s1.heap.objs.size (.lst xs), I1.laid (t' := s1.toks) (fun b u e => Heap.get?_push_of_some _ e) (Nat.le_refl _) ?_, rfl, q _ hf⟩
  exact ⟨z, us, 0, r, Heap.get?_push_size _ rfl⟩
end
abbrev Sp := List V → Hp → VK → XK → Prop
abbrev CXT := List Env → Hp → Shared → XK → Value → Shared → Prop
structure Env0 (P : Program) (w : World) (K : PySem.W.Frag) (mg : Str → Option Value) (base : Heap) (A : Around) (outer : List Env) (s : Shared) (H : Hp) : Prop where
  frames : A.frames = some outer
  mod : Mod K mg base
  bs : ∀ b o, base.get? b = some o → s.heap.get? b = some o ∧ H b = none
  bsz : base.objs.size ≤ s.heap.objs.size
  funs : s.heap.FunFrames base outer
  frf : ∀ b ∈ frs outer, H b = none
  hok : HOk P w H s.heap
  bare : AllBare s.gens
def CE (outer : List Env) (P : Program) (w : World) (H : Hp) (s : Shared) (Q : VK) (u : Value) (s' : Shared) : Prop :=
  ∃ v H', s'.os = s.os ∧ AllBare s'.gens ∧ Un (frs outer) [] H H' s.heap s'.heap ∧ HOk P w H' s'.heap ∧ RelV v u ∧ Q v H'
def CR (CX : CXT) (outer : List Env) (P : Program) (w : World) (H : Hp) (s : Shared) (Q : VK) (E : XK) (r : Result) (s' : Shared) : Prop :=
  match r with
  | .ok (.ret u) => CE outer P w H s Q u s'
  | .ok _ => False
  | .error e => CX outer H s E e s'
structure FnOk (P : Program) (w : World) (K : PySem.W.Frag) (mg : Str → Option Value) (base : Heap) (CX : CXT) (k : Nat) (f : Addr) (fd : FuncData) (ps : List Str) (sp : Sp) : Prop where
  len : ∀ vs H Q E, sp vs H Q E → vs.length = ps.length
  run : ∀ (A : Around) (outer : List Env) (s : Shared) (H : Hp) (args : Args) (us : List Value) (vs : List V) (Q : VK) (E : XK), Room k A → Env0 P w K mg base A outer s H → BindsTo s fd args (ps.zip us) → Vals vs us → sp vs H Q E →
    codeAny (model P w) A (.call (.ref f) args) (CR CX outer P w H s Q E) s
theorem FnOk.mono {P : Program} {w : World} {K : PySem.W.Frag} {mg : Str → Option Value} {base : Heap} {CX : CXT} {j k : Nat} {f : Addr} {fd : FuncData} {ps : List Str} {sp : Sp} (F : FnOk P w K mg base CX j f fd ps sp) (h : j ≤ k) :
    FnOk P w K mg base CX k f fd ps sp := ⟨F.len, fun A outer s H args us vs Q E hr => F.run A outer s H args us vs Q E (hr.mono h)⟩
theorem Env0.in1 {P : Program} {w : World} {K : PySem.W.Frag} {mg : Str → Option Value} {base : Heap} {A : Around} {outer : List Env} {s : Shared} {H : Hp} (e : Env0 P w K mg base A outer s H) :
    Env0 P w K mg base A.in1 outer s H := ⟨e.frames, e.mod, e.bs, e.bsz, e.funs, e.frf, e.hok, e.bare⟩
section
variable {X : Cx} {pins : List (Addr × Obj)} {σ : St} {H : Hp} {s s' : Shared}
theorem Inv.env0 (I : Inv X pins σ H s) : Env0 X.prog X.w X.K X.mg X.base X.A X.stack s H :=
  ⟨I.ok.frames, I.ok.mod, I.bs, Nat.le_trans I.ok.bsz I.sz, I.stack, I.stkFree, I.hok, I.bare⟩
theorem Inv.after {Q : VK} {u : Value} (I : Inv X pins σ H s) (h : CE X.stack X.prog X.w H s Q u s') : EP X pins σ Q u s' := by
  obtain ⟨v, H', os, bare, un, hok, r, q⟩ := h
  obtain ⟨hh, g, d, t, os'⟩ := s'
  obtain rfl : os' = s.os := os
  exact ⟨v, H', I.call (h' := hh) (g' := g) (d' := d) (t' := t) (ch := []) un hok bare (fun b z => absurd z (by simp)), r, q⟩
end
def tCall (sp : Sp) (dvs : List V) (E : XK) (t : TA) : TE := fun σ H Q => t σ H fun vs H1 => sp (vs ++ dvs) H1 Q E
def Binds (K : PySem.W.Frag) (fd : FuncData) (ps : List Str) (ds : List Value) : Prop :=
  ∀ (s : Shared) (us : List Value), K.In s.heap → (us ++ ds).length = ps.length → BindsTo s fd ⟨us, []⟩ (ps.zip (us ++ ds))
theorem Binds.all {K : PySem.W.Frag} {fd : FuncData} {ps : List Str} (h : ∀ us : List Value, us.length = ps.length → bindArgs fd ⟨us, []⟩ = pure (ps.zip us)) : Binds K fd ps [] := fun s us _ hl => by
  rw [List.append_nil] at hl ⊢
  exact .of_eq (h us hl)
def Passes (CX : CXT) (X : Cx) (E : XK) : Prop := ∀ (pins : List (Addr × Obj)) (σ : St) (H : Hp) (s : Shared) (e : Value) (s' : Shared), Inv X pins σ H s → CX X.stack H s E e s' → X.xe e s'
section
variable {X : Cx} {CX : CXT} {k : Nat} {f C : Addr} {fd : FuncData} {ps : List Str} {sp : Sp} {dvs : List V} {ds : List Value} {E : XK} {x m : Str} {p pos apos : Pos} {e o : Expr} {es : List Expr} {ta : TE} {t : TA}
theorem run_fn {pins : List (Addr × Obj)} {σ : St} {H : Hp} {s : Shared} {Q : VK} {us : List Value} {vs : List V} (F : FnOk X.prog X.w X.K X.mg X.base CX k f fd ps sp) (hr : Room k X.A) (hb : Binds X.K fd ps ds) (hd : Vals dvs ds) (hx : Passes CX X E)
    (I : Inv X pins σ H s) (r : Vals vs us) (h : sp (vs ++ dvs) H Q E) : wpAny (model X.prog X.w) X.A (call (.ref f) us) (EP X pins σ Q) X.xe s := by
  have r2 : Vals (vs ++ dvs) (us ++ ds) := r.append hd
  have hl : (us ++ ds).length = ps.length := by rw [← r2.length]; exact F.len _ _ _ _ h
  refine wpAny_call (codeAny_mono (F.run X.A X.stack s H ⟨us, []⟩ (us ++ ds) (vs ++ dvs) Q E hr I.env0 (hb s us I.kIn hl) r2 h) fun r s' hq => ?_)
  cases r with
  | error e => exact hx pins σ H s e s' I hq
  | ok fl =>
    cases fl with
    | ret u => exact I.after hq
    | next => exact False.elim hq
    | brk => exact False.elim hq
    | cont => exact False.elim hq
theorem pe_call (F : FnOk X.prog X.w X.K X.mg X.base CX k f fd ps sp) (hr : Room k X.A) (hg : Gl X x) (hm : X.mg x = some (.ref f)) (hk : PySem.W.keepIn X.K (.ref f) = true) (hb : Binds X.K fd ps ds) (hd : Vals dvs ds) (hx : Passes CX X E)
    (ha : PA X (e :: es) t) (hdb : (x == ("__debug__" : Str)) = false := by decide) (he : starEach (e :: es) X.env = (false, eval e X.env) :: starEach es X.env := by rfl) (hpl : (backTo pos (starEach es X.env)).any (·.1) = false := by rfl) :
    PE X (.Call (.Name x p) (e :: es) [] pos) (tCall sp dvs E t) := by
  intro pins s σ H Q I h
  refine wpAny_Call_Name_kw (ld_glob I hg hm ?_ hdb)
  refine PySem.W.callWith_K (h₀ := X.base) I.ok.mod.kin hk (thn (ha pos pins s σ H _ I h) fun us s1 ⟨vs, H1, I1, r, q⟩ => ⟨I1.kIn, ?_⟩) he hpl
  exact run_fn F hr hb hd hx I1 r q
structure Mk (K : PySem.W.Frag) (C f : Addr) : Prop where
  makes : PySem.W.makesIn K C = true
  init : PySem.W.findIn K (.ref C) "__init__" = some (some (.ref f))
  fn : PySem.W.isFn K (.ref f) = true
  kp : PySem.W.keepIn K (.ref C) = true
end
section
variable {X : Cx} {CX : CXT} {k : Nat} {f C : Addr} {fd : FuncData} {ps ks : List Str} {sp : Sp} {E : XK} {x m : Str} {p pos apos kpos : Pos} {e o : Expr} {es : List Expr} {kws : List Keyword} {te ta : TE} {t tk : TA} {nm : Option Str}
structure KBinds (K : PySem.W.Frag) (fd : FuncData) (ps ks : List Str) (g : List Value → List Value → List Value) (gV : List V → List V → List V) : Prop where
  to : ∀ (s : Shared) (us ws : List Value), K.In s.heap → (g us ws).length = ps.length → BindsTo s fd ⟨us, ks.zip ws⟩ (ps.zip (g us ws))
  rel : ∀ {vs : List V} {us : List Value} {zs : List V} {ws : List Value}, Vals vs us → Vals zs ws → Vals (gV vs zs) (g us ws)
variable {g : List Value → List Value → List Value} {gV : List V → List V → List V}
end
structure FnScope (N P : List Str) (sc : Scope) : Prop where
  kind : sc.kind = .function
  co : sc.isCoroutine = false
  gen : sc.isGenerator = false
  nd : N.Nodup
  pre : N.take P.length = P
  par : ∀ x ∈ P, sc.names.lookup x = some .local ∨ sc.names.lookup x = some .cell
  nofree : ∀ y ∈ sc.names, y.2 ≠ .free
theorem bindL_out {kindOf : Str → Option NameKind} {x : Str} : ∀ {binds : List (Str × Value)} {m : Str → Option Value}, (∀ v, (x, v) ∉ binds) → bindL kindOf binds m x = m x
  | [], _, _ => rfl
  | (n, v) :: r, m, h => by
    unfold bindL
    rw [bindL_out fun w hw => h w (List.mem_cons_of_mem _ hw)]
    split
    · have : x ≠ n := by rintro rfl; exact h v List.mem_cons_self
      simp [this]
    · rfl
theorem bindC_out {kindOf : Str → Option NameKind} {x : Str} : ∀ {binds : List (Str × Value)} {m : Str → Option Value}, (∀ v, (x, v) ∉ binds) → bindC kindOf binds m x = m x
  | [], _, _ => rfl
  | (n, v) :: r, m, h => by
    unfold bindC
    rw [bindC_out fun w hw => h w (List.mem_cons_of_mem _ hw)]
    split
    · rfl
    · have : x ≠ n := by rintro rfl; exact h v List.mem_cons_self
      simp [this]
theorem bindL_get {kindOf : Str → Option NameKind} {x : Str} {v : Value} : ∀ {P : List Str} {vs : List Value} {i : Nat} {m : Str → Option Value}, P.Nodup → P[i]? = some x → vs[i]? = some v → kindOf x = some .local →
    bindL kindOf (P.zip vs) m x = some v
  | [], _, _, _, _, h, _, _ => by simp at h
  | _ :: _, [], _, _, _, _, h, _ => by simp at h
  | p :: P, w :: vs, 0, m, nd, h1, h2, hk => by
    simp at h1 h2; subst h1; subst h2
    show bindL kindOf ((p, w) :: P.zip vs) m p = _
    unfold bindL
    rw [bindL_out fun v hv => (List.nodup_cons.mp nd).1 (List.of_mem_zip hv).1, if_pos hk]
    simp
  | p :: P, w :: vs, i + 1, m, nd, h1, h2, hk => by
    show bindL kindOf ((p, w) :: P.zip vs) m x = _
    unfold bindL
    exact bindL_get (i := i) (List.nodup_cons.mp nd).2 (by simpa using h1) (by simpa using h2) hk
theorem bindC_get {kindOf : Str → Option NameKind} {x : Str} {v : Value} : ∀ {P : List Str} {vs : List Value} {i : Nat} {m : Str → Option Value}, P.Nodup → P[i]? = some x → vs[i]? = some v → kindOf x ≠ some .local →
    bindC kindOf (P.zip vs) m x = some v
  | [], _, _, _, _, h, _, _ => by simp at h
  | _ :: _, [], _, _, _, _, h, _ => by simp at h
  | p :: P, w :: vs, 0, m, nd, h1, h2, hk => by
    simp at h1 h2; subst h1; subst h2
    show bindC kindOf ((p, w) :: P.zip vs) m p = _
    unfold bindC
    rw [bindC_out fun v hv => (List.nodup_cons.mp nd).1 (List.of_mem_zip hv).1, if_neg hk]
    simp
  | p :: P, w :: vs, i + 1, m, nd, h1, h2, hk => by
    show bindC kindOf ((p, w) :: P.zip vs) m x = _
    unfold bindC
    exact bindC_get (i := i) (List.nodup_cons.mp nd).2 (by simpa using h1) (by simpa using h2) hk
def start (N : List Str) (vs : List V) : St := vs.map some ++ List.replicate (N.length - vs.length) none
def cxOf (CX : CXT) (P : Program) (w : World) (K : PySem.W.Frag) (mg : Str → Option Value) (base : Heap) (N : List Str) (qual : Str) (scope : Scope) (f : Addr) (cd : Value) (A : Around) (outer : List Env) (s : Shared) (H : Hp) (E : XK) : Cx where
  prog := P
  w := w
  K := K
  mg := mg
  base := base
  A := A.deeper (envOfC qual scope s.heap.objs.size f cd)
  N := N
  s₀ := s
  H₀ := H
  env := envOfC qual scope s.heap.objs.size f cd
  outer := outer
  stack := envOfC qual scope s.heap.objs.size f cd :: outer
  ex := []
  calm := true
  fn := fun _ => true
  pn := []
  xe := fun e s' => wpAny (model P w) (A.deeper (envOfC qual scope s.heap.objs.size f cd)) (leaving (envOfC qual scope s.heap.objs.size f cd) e) (fun _ s'' => CX outer H s E e s'') (fun e' s'' => CX outer H s E e' s'') s'
theorem cell_has {sc : Scope} {n : Nat} {x : Str} (h : sc.names.lookup x = some .cell) : ∃ c, (cellsFrom n sc.names []).lookup x = some c := by
  have q := PySem.W.cellsFrom_some sc.names n [] (.inl h)
  exact Option.isSome_iff_exists.mp q
theorem inv_start {CX : CXT} {P : Program} {w : World} {K : PySem.W.Frag} {mg : Str → Option Value} {base : Heap} {N ps : List Str} {qual : Str} {scope : Scope} {f : Addr} {cd : Value} {A : Around} {outer : List Env} {s s1 : Shared} {H : Hp} {E : XK} {us : List Value} {vs : List V}
    (S : FnScope N ps scope) (hd : A.handled = none) (e0 : Env0 P w K mg base A outer s H) (hl : vs.length = ps.length) (r : Vals vs us)
    (x : InCallC s s.heap.objs.size (bindL (envOfC qual scope s.heap.objs.size f cd).kindOf (ps.zip us) fun _ => none) (cellsFrom (s.heap.objs.size + 1) scope.names []) (bindC (envOfC qual scope s.heap.objs.size f cd).kindOf (ps.zip us) fun _ => none) s1) :
    Inv (cxOf CX P w K mg base N qual scope f cd A outer s H E) [] (start N vs) H s1 := by
  have hpl : ps.length ≤ N.length := by have := congrArg List.length S.pre; rw [List.length_take] at this; omega
  obtain ⟨h1, tk, rfl, hk⟩ := x.done
  have noA : ∀ b : Addr, b ∉ (cxOf CX P w K mg base N qual scope f cd A outer s H E).ex := fun b z => absurd (show b ∈ ([] : List Addr) from z) (by simp)
  refine ⟨⟨e0.mod, S.kind, rfl, rfl, Nat.le_refl _, fun y z c h1 h2 => ?_, fun y hy => ?_, fun y c _ h => ?_, fun _ => hd, Around.frames_deeper e0.frames, .inr ⟨rfl, rfl⟩, fun b z => absurd z (noA b), e0.bs, e0.bsz, fun b _ _ => noA b, fun b z => absurd z (noA b), e0.funs, e0.frf⟩,
    rfl, e0.bare, Un.kept hk, ⟨_, x.toInCall.ns, fun i y v h1 h2 h3 => ?_⟩, fun y c h => ⟨_, x.cell y c h⟩, e0.hok.fresh (Nat.le_refl _), fun y c h => ?_, fun p hp => absurd (show p ∈ ([] : List (Addr × Obj)) from hp) (by simp), e0.hok.kept hk, ?_⟩
  · exact name_of_addr x.apart (PySem.mem_of_lookup h1) (PySem.mem_of_lookup h2)
  · have hy : scope.names.lookup y = some .cell ∨ scope.names.lookup y = some .free := hy
    rcases hy with hy | hy
    · exact cell_has hy
    · exact absurd rfl (S.nofree _ (PySem.mem_of_lookup hy))
  · exact Nat.le_of_lt (x.above y c (PySem.mem_of_lookup h))
  · have hi : i < vs.length := by
      unfold start at h2
      by_cases hi : i < vs.length
      · exact hi
      · rw [List.getElem?_append_right (by simpa using hi)] at h2
        rw [List.getElem?_replicate] at h2
        split at h2 <;> cases h2
    have ha : vs[i]? = some v := by
      unfold start at h2
      rw [List.getElem?_append_left (by simpa using hi), List.getElem?_map] at h2
      cases e : vs[i]? with
      | none => rw [e] at h2; cases h2
      | some a => rw [e] at h2; cases h2; rfl
    obtain ⟨u, hu, rv⟩ := r.get ha
    have hp : ps[i]? = some y := by
      rw [← S.pre, List.getElem?_take_of_lt (by omega)]; exact h1
    have ndP : ps.Nodup := by rw [← S.pre]; exact S.nd.sublist (List.take_sublist _ _)
    refine ⟨u, rv, ?_⟩
    rcases S.par y (List.mem_of_getElem? hp) with k | k
    · exact .inl ⟨k, bindL_get ndP hp hu k⟩
    · obtain ⟨c, e⟩ := cell_has (n := s.heap.objs.size + 1) k
      refine .inr ⟨.inl k, c, e, ?_⟩
      have q := x.cell y c e
      rw [bindC_get ndP hp hu (by show scope.names.lookup y ≠ _; rw [k]; decide)] at q
      exact q
  · exact e0.hok.fresh (Nat.le_of_lt (x.above y c (PySem.mem_of_lookup h)))
  · unfold start
    show _ = N.length
    rw [List.length_append, List.length_map, List.length_replicate]
    omega
theorem fn_of {CX : CXT} {P : Program} {w : World} {K : PySem.W.Frag} {mg : Str → Option Value} {base : Heap} {k : Nat} {f : Addr} {name qual : Str} {params : Arguments} {body : List Stmt} {scope : Scope} {dV kV doc pm cdv ct oc : Value} {an od : Option Addr}
    {osl : Array (Option Value)} {N ps : List Str} {sp : Sp} (lk : K.lookup f = some ⟨oc, od, .func (PySem.W.fnOf name qual params body scope dV kV doc pm an cdv ct), osl⟩) (hcd : PySem.W.codeIn K cdv qual = true) (S : FnScope N ps scope)
    (len : ∀ vs H Q E, sp vs H Q E → vs.length = ps.length)
    (hbody : ∀ (A : Around) (outer : List Env) (s : Shared) (H : Hp) (vs : List V) (Q : VK) (E : XK), Room k (A.deeper (envOfC qual scope s.heap.objs.size f cdv)) → sp vs H Q E →
      ∃ t, PSs (cxOf CX P w K mg base N qual scope f cdv A outer s H E) body t ∧ t { nx := fun _ H' => Q .non H', rt := Q } (start N vs) H) :
    FnOk P w K mg base CX (k + 1) f (PySem.W.fnOf name qual params body scope dV kV doc pm an cdv ct) ps sp := by
  refine ⟨len, fun A outer s H args us vs Q E hr e0 hb r hsp => ?_⟩
  have hl := len _ _ _ _ hsp
  have KX : K.In s.heap := e0.mod.kin.keeps fun b o e => (e0.bs b o e).1
  have lim : s.heap.NoLimit := e0.mod.nolimit.keeps fun b o e => (e0.bs b o e).1
  have hkind : ∀ y ∈ ps.zip us, scope.names.lookup y.1 = some .local ∨ (scope.names.lookup y.1 = some .cell ∧ ((cellsFrom (s.heap.objs.size + 1) scope.names []).lookup y.1).isSome = true) := fun ⟨n, v⟩ hy => by
    rcases S.par n (List.of_mem_zip hy).1 with q | q
    · exact .inl q
    · exact .inr ⟨q, PySem.W.cellsFrom_some _ _ _ (.inl q)⟩
  refine codeAny_call_function hr.depth (KX _ _ lk) rfl S.co S.gen rfl (PySem.W.codeRec_of KX hcd) (hb _ _ _ _ ?_)
  refine wpAny_newFunctionEnv_cells S.kind hkind fun env he s1 x => ?_
  subst he
  refine ⟨lim.keeps x.toInCall.keep, codeAny_func ?_⟩
  obtain ⟨t, ht, hq⟩ := hbody A outer s H vs Q E (hr.deeper _) hsp
  have I : Inv (cxOf CX P w K mg base N qual scope f cdv A outer s H E) [] (start N vs) H s1 := inv_start S hr.hd e0 hl r x
  refine wpAny_mono (ht [] s1 (start N vs) H _ I hq) (fun fl s' hs => ?_) fun e s' hs => hs
  have fin : ∀ {σ' : St} {H' : Hp} {v : V} {u : Value}, Inv (cxOf CX P w K mg base N qual scope f cdv A outer s H E) [] σ' H' s' → RelV v u → Q v H' → CE outer P w H s Q u s' :=
    fun {σ' H' v u} J rv q => ⟨v, H', J.os, J.bare, J.base, J.hok, rv, q⟩
  cases fl with
  | ret u =>
    obtain ⟨v, σ', H', J, rv, q⟩ := hs
    exact fin J rv q
  | next =>
    obtain ⟨σ', H', J, q⟩ := hs
    exact fin (v := V.non) (u := Value.none) J rfl q
  | brk =>
    obtain ⟨_, _, _, q⟩ := hs
    exact False.elim q
  | cont =>
    obtain ⟨_, _, _, q⟩ := hs
    exact False.elim q
end L2
namespace L2
open PySem PySem.Spec PyProof.Rows
section
variable {X : Cx} {x : Str} {p pos : Pos} {e : Expr} {es : List Expr} {t : TA} {id T : String} {r : List V → Hp → VK → Prop}
def tCB (r : List V → Hp → VK → Prop) (t : TA) : TE := fun σ H Q => t σ H fun vs H1 => r vs H1 Q
theorem pe_callB (hc : CallR X (.builtin id) r) (hg : Gl X x) (hm : X.mg x = none) (hv : bootBuiltins x = some (.builtin id)) (ha : PA X (e :: es) t) (hn : x ≠ "__name__" := by decide) (hdb : (x == ("__debug__" : Str)) = false := by decide)
    (he : starEach (e :: es) X.env = (false, eval e X.env) :: starEach es X.env := by rfl) (hpl : (backTo pos (starEach es X.env)).any (·.1) = false := by rfl) : PE X (.Call (.Name x p) (e :: es) [] pos) (tCB r t) := by
  intro pins s σ H Q I h
  refine wpAny_Call_Name_kw (ld_blt I hg hm hv ?_ hn hdb)
  exact PyProof.Rows.callWith_builtin1 (thn (ha pos pins s σ H _ I h) fun us s1 ⟨vs, H1, I1, r1, q1⟩ => hc pins s1 σ H1 vs us Q I1 r1 q1) he hpl
theorem pe_callTy (hc : CallR X (.type T) r) (hg : Gl X x) (hm : X.mg x = none) (hv : bootBuiltins x = some (.type T)) (ha : PA X (e :: es) t) (hn : x ≠ "__name__" := by decide) (hdb : (x == ("__debug__" : Str)) = false := by decide)
    (he : starEach (e :: es) X.env = (false, eval e X.env) :: starEach es X.env := by rfl) (hpl : (backTo pos (starEach es X.env)).any (·.1) = false := by rfl) : PE X (.Call (.Name x p) (e :: es) [] pos) (tCB r t) := by
  intro pins s σ H Q I h
  refine wpAny_Call_Name_kw (ld_blt I hg hm hv ?_ hn hdb)
  exact PyProof.Rows.callWith_type1 (thn (ha pos pins s σ H _ I h) fun us s1 ⟨vs, H1, I1, r1, q1⟩ => hc pins s1 σ H1 vs us Q I1 r1 q1) he hpl
end
end L2
namespace HT
open PySem PyProof.Rows
section
open PySem.SeqAt
open PySem.AutoSeq1 (wpAny_loadPart')
open PySem.MeetsSeq PySem.MeetsSeq2 PySem.MeetsSeq3
end
section
variable {prog : Program} {w : World} {A : Around} {E : Value → Shared → Prop} {s : Shared}
theorem cat_tup {t b : Addr} {vs ws : List Value} {Q : Value → Shared → Prop} (ht : IsTup s.heap t vs.toArray) (hb : IsTup s.heap b ws.toArray) (hv : vs ≠ [])
    (h1 : ws = [] → Q (.ref t) s) (h2 : ws ≠ [] → Q (.ref s.heap.objs.size) { s with heap := s.heap.push { cls := .type "tuple", data := .seq (vs ++ ws).toArray } })
    (hsz : vs.length + ws.length ≤ sizeLine) : wpAny (model prog w) A (binaryOp .Add (.ref t) (.ref b)) Q E s := by
  obtain ⟨⟨cls, dd, data, sl⟩, ho, hc, n, hd⟩ := id ht
  obtain ⟨⟨cls2, dd2, data2, sl2⟩, ho2, hc2, n2, hd2⟩ := id hb
  simp only at hc hd hc2 hd2
  subst hc hd hc2 hd2
  have e : vs.toArray ++ ws.toArray = (vs ++ ws).toArray := by simp
  by_cases hw : ws = []
  · exact concat_meets ⟨_, ho, rfl⟩ ⟨_, ho2, rfl⟩ noFill_tuple_add seq_tuple_add PySem.F.slot_tuple_add PySem.F.entry_tuple_add (PySem.F.args_tuple_add_2 _ _)
      (tuple_addW1 t b vs.toArray ws.toArray n n2 dd dd2 sl sl2 (by simpa using hv) (by simp [hw])) ⟨ho, ho2, h1 hw⟩
  · refine concat_meets ⟨_, ho, rfl⟩ ⟨_, ho2, rfl⟩ noFill_tuple_add seq_tuple_add PySem.F.slot_tuple_add PySem.F.entry_tuple_add (PySem.F.args_tuple_add_2 _ _)
      (tuple_addW2 t b vs.toArray ws.toArray n n2 dd dd2 sl sl2 (by simpa using hv) (by simpa using hw) (by rw [List.size_toArray, List.size_toArray]; exact hsz)) ⟨ho, ho2, ?_⟩
    rw [e]
    exact h2 hw
def sIx (n d : Nat) : Option Int → Nat
  | none => d
  | some v => if v < 0 then (v + (n : Int)).toNat else min v.toNat n
theorem sIx_none (n d : Nat) : sIx n d none = d := rfl
theorem sIx_nat (n d k : Nat) : sIx n d (some (k : Int)) = min k n := by
  show (if (k : Int) < 0 then ((k : Int) + (n : Int)).toNat else min (k : Int).toNat n) = min k n
  rw [if_neg (by omega), Int.toNat_natCast]
theorem sIx_le (n d : Nat) (hd : d ≤ n) (o : Option Int) : sIx n d o ≤ n := by
  cases o with
  | none => exact hd
  | some v =>
    show (if v < 0 then (v + (n : Int)).toNat else min v.toNat n) ≤ n
    by_cases hv : v < 0
    · rw [if_pos hv]; omega
    · rw [if_neg hv]; exact Nat.min_le_right _ _
theorem clip_eq (v : Int) (n d : Nat) : (if v < 0 then max (v + (n : Int)) 0 else min v (n : Int)) = ((sIx n d (some v) : Nat) : Int) := by
  show (if v < 0 then max (v + (n : Int)) 0 else min v (n : Int)) = (((if v < 0 then (v + (n : Int)).toNat else min v.toNat n) : Nat) : Int)
  by_cases hv : v < 0
  · simp only [if_pos hv]; omega
  · simp only [if_neg hv]; omega
theorem adjust_gen (lo hi : Option Int) (n : Nat) : Builtin.Slice.sliceAdjust lo hi 1 (n : Int) = (((sIx n 0 lo : Nat) : Int), ((sIx n n hi : Nat) : Int)) := by
  have h1 : ¬ ((1 : Int) < 0) := by omega
  unfold Builtin.Slice.sliceAdjust
  simp only [h1, if_false]
  refine Prod.ext ?_ ?_
  · cases lo with
    | none => rfl
    | some v => exact clip_eq v n 0
  · cases hi with
    | none => rfl
    | some v => exact clip_eq v n n
theorem places_gen (i j : Nat) : Builtin.Slice.slicePlaces (i : Int) (j : Int) 1 = j - i := by
  unfold Builtin.Slice.slicePlaces
  have h1 : (1 : Int) > 0 := by omega
  simp only [h1, if_true, Int.ediv_one]
  split <;> omega
theorem slicePart_ {v : Value} {o : Option Int} {Q : Option Int → Shared → Prop} (p : IsPart v o) (h : Q o s) : wpAny (model prog w) A (Builtin.Slice.slicePartIndex v) Q E s := by
  cases p with
  | none => exact slicePart_none h
  | int i t => exact slicePart_int h
theorem sliceApplied_gen {sl : Addr} {vl vu : Value} {lo hi : Option Int} {n : Nat} {Q : Int × Int × Nat → Shared → Prop} (hs : s.heap.IsSliceOf sl vl vu .none) (pl : IsPart vl lo) (pu : IsPart vu hi)
    (h : Q (((sIx n 0 lo : Nat) : Int), 1, sIx n n hi - sIx n 0 lo) s) : wpAny (model prog w) A (Builtin.Slice.sliceApplied (.ref sl) (pure (n : Int))) Q E s := by
  obtain ⟨os, hos, hcs, hds⟩ := id hs
  unfold Builtin.Slice.sliceApplied Builtin.Slice.sliceFields
  refine wpAny_bind (wpAny_bind (wpAny_field hos hds (x := vl) rfl (wpAny_bind (wpAny_field hos hds (x := vu) rfl (wpAny_bind (wpAny_field hos hds (x := .none) rfl (wpAny_pure ?_)))))))
  refine wpAny_bind (slicePart_none ?_)
  show wpAny _ _ (if ((1 : Int) == 0) = true then _ else _) _ _ s
  rw [if_neg (by decide)]
  refine wpAny_bind (slicePart_ pl (wpAny_bind (slicePart_ pu (wpAny_bind (wpAny_pure ?_)))))
  show wpAny _ _ (match Builtin.Slice.sliceAdjust lo hi 1 (n : Int) with | (lo, hi) => pure (lo, (1 : Int), Builtin.Slice.slicePlaces lo hi 1)) _ _ s
  rw [adjust_gen lo hi n]
  show wpAny _ _ (pure (((sIx n 0 lo : Nat) : Int), (1 : Int), Builtin.Slice.slicePlaces ((sIx n 0 lo : Nat) : Int) ((sIx n n hi : Nat) : Int) 1)) _ _ s
  rw [places_gen]
  exact wpAny_pure h
theorem pick_gen (xs : Array Value) (i k : Nat) : ((List.range k).filterMap fun (m : Nat) => xs[((i : Int) + (m : Int) * 1).toNat]?).toArray = ((xs.toList.drop i).take k).toArray := by
  have e : (fun (m : Nat) => xs[((i : Int) + (m : Int) * 1).toNat]?) = fun m => xs[i + m]? := by
    funext m
    have : ((i : Int) + (m : Int) * 1).toNat = i + m := by omega
    rw [this]
  rw [e]
  have := pick_run xs i k
  rw [List.filterMap_map] at this
  have e2 : ((fun x => xs[x]?) ∘ fun x => i + x) = fun m => xs[i + m]? := rfl
  rw [e2] at this
  rw [this]
theorem getItem_tuple_cut {t sl : Addr} {items : Array Value} {vl vu : Value} {lo hi : Option Int} {Q : Value → Shared → Prop} (ht : IsTup s.heap t items) (hs : s.heap.IsSliceOf sl vl vu .none) (pl : IsPart vl lo) (pu : IsPart vu hi)
    (hw : ¬ (sIx items.size 0 lo = 0 ∧ sIx items.size items.size hi = items.size))
    (h : Q (.ref s.heap.objs.size) { s with heap := s.heap.push { cls := .type "tuple", data := .seq ((items.toList.drop (sIx items.size 0 lo)).take (sIx items.size items.size hi - sIx items.size 0 lo)).toArray } })
    (hsz : items.size ≤ sizeLine) : wpAny (model prog w) A (getItem (.ref t) (.ref sl)) Q E s := by
  have htake : sizeOk (.seq ((items.toList.drop (sIx items.size 0 lo)).take (sIx items.size items.size hi - sIx items.size 0 lo)).toArray) := by
    show ((items.toList.drop (sIx items.size 0 lo)).take (sIx items.size items.size hi - sIx items.size 0 lo)).toArray.size ≤ sizeLine
    rw [List.size_toArray, List.length_take, List.length_drop, Array.length_toList]
    omega
  have hj : sIx items.size items.size hi ≤ items.size := sIx_le _ _ (Nat.le_refl _) hi
  obtain ⟨os, hos, hcs, hds⟩ := id hs
  have hTs : s.TypeIs (.ref sl) "slice" := ⟨os, hos, hcs⟩
  unfold getItem
  try with_reducible refine wpAny_holding ?_
  first | refine wpAny_bind (wpAny_pure ?_) | skip
  refine wpAny_bind (wpAny_sequenceKey ht.typeIs (by decide) ?_)
  refine wpAny_bind (wpAny_callSpecial?_slot (name := Str.ofString "__getitem__") ht.typeIs PyProof.Rows.slot_tuple_getitem
    (wpAny_call_entry PyProof.Rows.slot_tuple_getitem ht.typeIs entry_tuple_getitem ?_ (args_tuple_getitem _ _)))
  show wpAny _ _ (Builtin.Tuple.tupleItemsOf (.ref t) >>= _) _ _ s
  refine wpAny_bind (tupleItemsOf_ ht ?_)
  refine wpAny_bind (wpAny_typeOf hTs ?_)
  rw [if_pos (by decide)]
  refine wpAny_bind (sliceApplied_gen hs pl pu ?_)
  have hno : ¬ ((((sIx items.size 0 lo : Nat) : Int) == 0 && (1 : Int) == 1 && (sIx items.size items.size hi - sIx items.size 0 lo) == items.size) = true) := by
    intro q
    rw [Bool.and_eq_true, Bool.and_eq_true] at q
    have q1 : ((sIx items.size 0 lo : Nat) : Int) = 0 := eq_of_beq q.1.1
    have q2 : sIx items.size items.size hi - sIx items.size 0 lo = items.size := eq_of_beq q.2
    exact hw ⟨by omega, by omega⟩
  show wpAny _ _ (if (((sIx items.size 0 lo : Nat) : Int) == 0 && (1 : Int) == 1 && (sIx items.size items.size hi - sIx items.size 0 lo) == items.size) = true then _ else _) _ _ s
  rw [if_neg hno, pick_gen]
  first
    | exact wpAny_bind (m := Builtin.Tuple.tupleExact _) (wpAny_newObj_type (wpAny_pure ⟨_, rfl, wpAny_pure h⟩) htake)
    | exact wpAny_bind (m := Builtin.Tuple.tupleExact _) (wpAny_newObj_type (wpAny_bind (wpAny_pure (wpAny_pure ⟨_, rfl, wpAny_pure h⟩))) htake)
    | exact wpAny_bind (wpAny_bind (m := Builtin.Tuple.tupleExact _) (wpAny_newObj_type (wpAny_pure (wpAny_pure ⟨_, rfl, wpAny_pure h⟩)) htake))
    | exact wpAny_bind (wpAny_bind (m := Builtin.Tuple.tupleExact _) (wpAny_newObj_type (wpAny_pure ⟨_, rfl, wpAny_pure h⟩) htake))
end
end HT
namespace L2
open PySem PySem.Spec PyProof.Rows
abbrev TO := St → Hp → (Option Int → Hp → Prop) → Prop
def PO (X : Cx) (e : Option Expr) (t : TO) : Prop :=
  ∀ (pins : List (Addr × Obj)) (s : Shared) (σ : St) (H : Hp) (Q : Option Int → Hp → Prop), Inv X pins σ H s → t σ H Q →
    wpAny (model X.prog X.w) X.A (evalPart e X.env) (fun u s' => ∃ o H', Inv X pins σ H' s' ∧ IsPart u o ∧ Q o H') X.xe s
def tNoPart : TO := fun _ H Q => Q none H
def tPart (t : TE) : TO := fun σ H Q => t σ H fun x H1 => ∃ i, x = .int i ∧ Q (some i) H1
section
variable {X : Cx} {e : Expr} {te : TE} {lo hi : Option Expr} {tl th : TO} {pos p2 : Pos}
theorem po_none : PO X none tNoPart := by
  intro pins s σ H Q I h
  rw [evalPart_none]
  exact wpAny_pure ⟨none, H, I, .none, h⟩
theorem po_some (h : PE X e te) : PO X (some e) (tPart te) := by
  intro pins s σ H Q I hw
  rw [evalPart_some]
  refine thn (h pins s σ H _ I hw) fun u s1 ⟨x, H1, I1, r1, q1⟩ => ?_
  obtain ⟨i, rfl, q⟩ := q1
  obtain ⟨t, rfl⟩ := r1
  exact ⟨some i, H1, I1, .int i t, q⟩
def SlR (X : Cx) (r : V → Option Int → Option Int → Hp → VK → Prop) : Prop :=
  ∀ (pins : List (Addr × Obj)) (s : Shared) (σ : St) (H : Hp) (x : V) (v vl vu : Value) (lo hi : Option Int) (sl : Addr) (Q : VK), Inv X pins σ H s → RelV x v → s.heap.IsSliceOf sl vl vu .none → IsPart vl lo → IsPart vu hi → r x lo hi H Q →
    ∃ T id, typeLookup (.type T) "__getitem__" = pure (some (.builtin id)) ∧ s.TypeIs v T ∧ wpAny (model X.prog X.w) X.A (getItem v (.ref sl)) (EP X pins σ Q) X.xe s
theorem SlR.or {r r' : V → Option Int → Option Int → Hp → VK → Prop} (h : SlR X r) (h' : SlR X r') : SlR X (fun x lo hi H Q => r x lo hi H Q ∨ r' x lo hi H Q) := by
  intro pins s σ H x v vl vu lo hi sl Q I rx hs pl pu q
  rcases q with q | q
  · exact h pins s σ H x v vl vu lo hi sl Q I rx hs pl pu q
  · exact h' pins s σ H x v vl vu lo hi sl Q I rx hs pl pu q
def tSl (r : V → Option Int → Option Int → Hp → VK → Prop) (te : TE) (tl th : TO) : TE := fun σ H Q => te σ H fun x H1 => tl σ H1 fun l H2 => th σ H2 fun u H3 => r x l u H3 Q
theorem pe_slice {r : V → Option Int → Option Int → Hp → VK → Prop} (hr : SlR X r) (he : PE X e te) (hl : PO X lo tl) (hu : PO X hi th) : PE X (.Subscript e (.Slice lo hi none p2) pos) (tSl r te tl th) := by
  intro pins s σ H Q I h
  refine Subscript_ (thn (he pins s σ H _ I h) fun v s1 ⟨x, H1, I1, r1, q1⟩ => ?_)
  refine wpAny_Slice (thn (hl pins s1 σ H1 _ I1 q1) fun vl s2 ⟨l, H2, I2, pl, q2⟩ => thn (hu pins s2 σ H2 _ I2 q2) fun vu s3 ⟨u, H3, I3, pu, q3⟩ => ?_)
  rw [evalPart_none]
  refine wpAny_pure ?_
  have I4 : Inv X pins σ H3 { s3 with heap := s3.heap.push { cls := .type "slice", data := .fields #[vl, vu, .none] } } := I3.kept (t' := s3.toks) fun b ob q => Heap.get?_push_of_some _ q
  obtain ⟨T, id, hT, ht, hg⟩ := hr pins { s3 with heap := s3.heap.push { cls := .type "slice", data := .fields #[vl, vu, .none] } } σ H3 x v vl vu l u s3.heap.objs.size Q I4 r1 (Heap.IsSliceOf.new ..) pl pu q3
  show wpAny (model X.prog X.w) X.A (subscriptTail e (.Slice lo hi none p2) v (.ref s3.heap.objs.size)) (EP X pins σ Q) X.xe { s3 with heap := s3.heap.push { cls := .type "slice", data := .fields #[vl, vu, .none] } }
  exact tail_any (ops := [.ref s3.heap.objs.size, v]) ht hT hg (by with_unfolding_all rfl)
def cutV (xs : List V) (lo hi : Option Int) : List V := (xs.drop (HT.sIx xs.length 0 lo)).take (HT.sIx xs.length xs.length hi - HT.sIx xs.length 0 lo)
theorem cutV_length (xs : List V) (lo hi : Option Int) : (cutV xs lo hi).length ≤ xs.length := by
  unfold cutV
  rw [List.length_take, List.length_drop]
  omega
def rSlT (K : PySem.W.Frag) : V → Option Int → Option Int → Hp → VK → Prop := fun x lo hi H Q => ∃ a xs, x = .ref a ∧ SqT K H a xs ∧
  ¬ (HT.sIx xs.length 0 lo = 0 ∧ HT.sIx xs.length xs.length hi = xs.length) ∧ ∀ p, H p = none → Q (.ref p) (upd H p (.tup (cutV xs lo hi)))
theorem sl_tup : SlR X (rSlT X.K) := by
  intro pins s σ H x v vl vu lo hi sl Q I rx hs pl pu h
  obtain ⟨a, xs, rfl, hx, hw, q⟩ := h
  cases rx
  obtain ⟨its, r, ht, hz⟩ := I.tuple hx
  have hlen : its.toArray.size = xs.length := by rw [List.size_toArray]; exact r.length.symm
  refine ⟨"tuple", _, PyProof.Rows.slot_tuple_getitem.lookup, ht.typeIs, ?_⟩
  refine HT.getItem_tuple_cut ht hs pl pu (by rw [hlen]; exact hw) ?_ (by rw [hlen]; exact hz)
  rw [hlen]
  refine ⟨.ref s.heap.objs.size, _, I.laid (t' := s.toks) (o := .tup (cutV xs lo hi)) (fun b ob q => Heap.get?_push_of_some _ q) (Nat.le_refl _) ?_, rfl, q _ (I.hok.fresh (Nat.le_refl _))⟩
  exact ⟨Nat.le_trans (cutV_length xs lo hi) hz, _, (r.drop (HT.sIx xs.length 0 lo)).take (HT.sIx xs.length xs.length hi - HT.sIx xs.length 0 lo), TupN.new _ _⟩
def rCatT (K : PySem.W.Frag) : R2 := fun x y H Q => ∃ a b xs ys, x = .ref a ∧ y = .ref b ∧ SqT K H a xs ∧ SqT K H b ys ∧ xs ≠ [] ∧ xs.length + ys.length ≤ sizeLine ∧
  (ys = [] → Q (.ref a) H) ∧ (ys ≠ [] → ∀ p, H p = none → Q (.ref p) (upd H p (.tup (xs ++ ys))))
theorem Vals.nil_iff {xs : List V} {us : List Value} (r : Vals xs us) : us = [] ↔ xs = [] := by
  cases r with
  | nil => simp
  | cons _ _ => simp
theorem op_catT : OpR X (binaryOp .Add) (rCatT X.K) := by
  intro pins s σ H x y v u Q I rx ry h
  obtain ⟨a, b, xs, ys, rfl, rfl, ha, hb, hx, hz, q1, q2⟩ := h
  cases rx
  cases ry
  obtain ⟨its, r1, p1, _⟩ := I.tuple ha
  obtain ⟨its2, r2, p2, _⟩ := I.tuple hb
  refine HT.cat_tup p1 p2 (fun z => hx (r1.nil_iff.mp z)) (fun z => ⟨.ref a, H, I, rfl, q1 (r2.nil_iff.mp z)⟩) (fun z => ?_) (by rw [← r1.length, ← r2.length]; exact hz)
  refine ⟨.ref s.heap.objs.size, _, I.laid (t' := s.toks) (o := .tup (xs ++ ys)) (fun b ob q => Heap.get?_push_of_some _ q) (Nat.le_refl _) ?_, rfl, q2 (fun w => z (r2.nil_iff.mpr w)) _ (I.hok.fresh (Nat.le_refl _))⟩
  exact ⟨by rw [List.length_append]; exact hz, _, r1.append r2, TupN.new _ _⟩
end
end L2
namespace L2
open PySem PySem.Spec PyProof.Rows
def ixN (n : Nat) (i : Int) : Option Nat := if 0 ≤ i then (if i < n then some i.toNat else none) else if -(n : Int) ≤ i then some (i + n).toNat else none
def atI {α : Type} (xs : List α) (i : Int) : Option α := (ixN xs.length i).bind fun j => xs[j]?
theorem ixN_seq {n : Nat} {i : Int} {j : Nat} (h : ixN n i = some j) : seqIndex? i n = some j ∧ j < n ∧ -(n : Int) ≤ i ∧ i < n := by
  unfold ixN at h
  by_cases h0 : 0 ≤ i
  · rw [if_pos h0] at h
    by_cases h1 : i < n
    · rw [if_pos h1] at h
      have e : i.toNat = j := Option.some.inj h
      exact ⟨by rw [seqIndex_of h0 h1, e], by omega, by omega, h1⟩
    · rw [if_neg h1] at h; cases h
  · rw [if_neg h0] at h
    by_cases h1 : -(n : Int) ≤ i
    · rw [if_pos h1] at h
      have e : (i + n).toNat = j := Option.some.inj h
      exact ⟨by rw [seqIndex_neg (by omega) h1, e], by omega, h1, by omega⟩
    · rw [if_neg h1] at h; cases h
theorem atI_get {α : Type} {xs : List α} {i : Int} {v : α} (h : atI xs i = some v) : ∃ j, seqIndex? i xs.length = some j ∧ xs[j]? = some v ∧ j < xs.length ∧ -(xs.length : Int) ≤ i ∧ i < xs.length := by
  unfold atI at h
  cases e : ixN xs.length i with
  | none => rw [e] at h; cases h
  | some j =>
    rw [e] at h
    obtain ⟨h1, h2, h3, h4⟩ := ixN_seq e
    exact ⟨j, h1, h, h2, h3, h4⟩
theorem atI_nat {α : Type} {xs : List α} {j : Nat} {v : α} (h : xs[j]? = some v) : atI xs (j : Int) = some v := by
  have hj : j < xs.length := (List.getElem?_eq_some_iff.mp h).1
  have e : ixN xs.length (j : Int) = some j := by
    unfold ixN
    rw [if_pos (by omega), if_pos (by omega)]; simp
  unfold atI; rw [e]; exact h
def PlainIx (b : Expr) : Prop := ∀ o i, subscripted b false o i = operate [o, i] (getItem o i)
def IxR (X : Cx) (r : R2) : Prop :=
  ∀ (value slice : Expr) (pins : List (Addr × Obj)) (s : Shared) (σ : St) (H : Hp) (x y : V) (v u : Value) (Q : VK), Inv X pins σ H s → RelV x v → RelV y u → r x y H Q →
    subscripted slice false v u = operate [v, u] (getItem v u) → wpAny (model X.prog X.w) X.A (subscriptTail value slice v u) (EP X pins σ Q) X.xe s
def MtR (X : Cx) (id : String) (r : V → List V → Hp → VK → Prop) : Prop :=
  ∀ (pins : List (Addr × Obj)) (s : Shared) (σ : St) (H : Hp) (x : V) (xs : List V) (v : Value) (us : List Value) (Q : VK), Inv X pins σ H s → RelV x v → Vals xs us → r x xs H Q →
    wpAny (model X.prog X.w) X.A (call (.builtin id) (v :: us)) (EP X pins σ Q) X.xe s
section
variable {X : Cx} {a b : Expr} {ta tb : TE} {pos : Pos}
theorem IxR.or {r r' : R2} (h : IxR X r) (h' : IxR X r') : IxR X (fun x y H Q => r x y H Q ∨ r' x y H Q) := by
  intro value slice pins s σ H x y v u Q I rx ry q hs
  rcases q with q | q
  · exact h value slice pins s σ H x y v u Q I rx ry q hs
  · exact h' value slice pins s σ H x y v u Q I rx ry q hs
theorem MtR.or {id : String} {r r' : V → List V → Hp → VK → Prop} (h : MtR X id r) (h' : MtR X id r') : MtR X id (fun x xs H Q => r x xs H Q ∨ r' x xs H Q) := by
  intro pins s σ H x xs v us Q I rx rs q
  rcases q with q | q
  · exact h pins s σ H x xs v us Q I rx rs q
  · exact h' pins s σ H x xs v us Q I rx rs q
theorem pe_ix {r : R2} (hr : IxR X r) (ha : PE X a ta) (hb : PE X b tb) (hs : PlainIx b) : PE X (.Subscript a b pos) (tOp r ta tb) := by
  intro pins s σ H Q I h
  exact Subscript_ (binT ha hb I h fun v u s2 x y H2 I2 rx ry q => hr a b pins s2 σ H2 x y v u Q I2 rx ry q (hs _ _))
def rIxL (K : PySem.W.Frag) : R2 := fun x y H Q => ∃ p xs i v, x = .ref p ∧ y = .int i ∧ SqL K H p xs ∧ atI xs i = some v ∧ Q v H
def rIxT (K : PySem.W.Frag) : R2 := fun x y H Q => ∃ p xs i v, x = .ref p ∧ y = .int i ∧ SqT K H p xs ∧ atI xs i = some v ∧ Q v H
def rIxS : R2 := fun x y H Q => ∃ z i c, x = .str z ∧ y = .int i ∧ z.length ≤ sizeLine ∧ atI z.cps.toList i = some c ∧ Q (.str ⟨#[c]⟩) H
theorem ix_list : IxR X (rIxL X.K) := by
  intro value slice pins s σ H x y v u Q I rx ry h hs
  obtain ⟨p, xs, i, z, rfl, rfl, hq, he, q⟩ := h
  cases rx
  obtain ⟨t, rfl⟩ := ry
  obtain ⟨its, r, pl, hz⟩ := I.list hq
  obtain ⟨j, h1, h2, h3, h4, h5⟩ := atI_get he
  obtain ⟨w, ew, rw'⟩ := r.get h2
  have hl := r.length
  have hn := line63
  have fin : EP X pins σ Q w s := ⟨z, H, I, rw', q⟩
  by_cases h0 : 0 ≤ i
  · have hj : i.toNat = j := by
      rw [seqIndex_of h0 h5] at h1
      exact Option.some.inj h1
    exact item_listR pl.isList h0 (by omega) (by rw [hj]; simpa using ew) fin hs
  · have hj : (i + (its.toArray.size : Int)).toNat = j := by
      rw [seqIndex_neg (by omega) h4] at h1
      rw [List.size_toArray, ← hl]
      exact Option.some.inj h1
    exact subscriptTail_builtinR (x := w) pl.isList.typeIs slot_list_getitem.lookup
      (wpAny_getItem_list_neg (Q := fun r s' => r = w ∧ EP X pins σ Q r s') pl.isList (by omega) (by rw [List.size_toArray] <;> omega) (by omega) (by rw [hj]; simpa using ew) ⟨rfl, fin⟩) hs
theorem ix_tup : IxR X (rIxT X.K) := by
  intro value slice pins s σ H x y v u Q I rx ry h hs
  obtain ⟨p, xs, i, z, rfl, rfl, hq, he, q⟩ := h
  cases rx
  obtain ⟨t, rfl⟩ := ry
  obtain ⟨its, r, pl, hz⟩ := I.tuple hq
  obtain ⟨j, h1, h2, h3, h4, h5⟩ := atI_get he
  obtain ⟨w, ew, rw'⟩ := r.get h2
  have hl := r.length
  have hn := line63
  have fin : EP X pins σ Q w s := ⟨z, H, I, rw', q⟩
  exact subscriptTail_builtinR (x := w) pl.typeIs slot_tuple_getitem.lookup
    (getItem_tuple (j := j) (Q := fun r s' => r = w ∧ EP X pins σ Q r s') pl (by omega) (by omega) (by rw [List.size_toArray, ← hl]; exact h1) (by simpa using ew) ⟨rfl, fin⟩) hs
theorem ix_str : IxR X rIxS := by
  intro value slice pins s σ H x y v u Q I rx ry h hs
  obtain ⟨z, i, c, rfl, rfl, hz, he, q⟩ := h
  obtain ⟨t, rfl⟩ := rx
  obtain ⟨t', rfl⟩ := ry
  obtain ⟨j, h1, h2, h3, h4, h5⟩ := atI_get he
  have hl : z.cps.toList.length = z.length := by simp [Str.length]
  rw [hl] at h1 h4 h5
  have hn := line63
  exact tail_any (typeIs_str s z t) slot_str_getitem.lookup (getItem_str (c := c) (by
    have e1 : decide (i < -(2 ^ 63 : Int)) = false := decide_eq_false (by omega)
    have e2 : decide (i ≥ 2 ^ 63) = false := decide_eq_false (by omega)
    rw [e1, e2, Bool.or_false]) (by rw [h1]; simpa using h2) ⟨.str ⟨#[c]⟩, H, I.tok _, ⟨_, rfl⟩, q⟩) hs
def rIx (K : PySem.W.Frag) : R2 := fun x y H Q => rIxL K x y H Q ∨ rIxT K x y H Q ∨ rIxS x y H Q
theorem ix_seq : IxR X (rIx X.K) := ix_list.or (ix_tup.or ix_str)
theorem mapSeq_set (its : List Value) (n j : Nat) (u : Value) : Obj.mapSeq (·.setIfInBounds j u) { cls := .type "list", data := .seq its.toArray n } = { cls := .type "list", data := .seq (its.set j u).toArray n } := by
  simp [Obj.mapSeq]
theorem Inv.lst {pins : List (Addr × Obj)} {σ : St} {H : Hp} {s : Shared} {p : Addr} {xs : List V} (I : Inv X pins σ H s) (h : H p = some (.lst xs)) :
    ∃ (its : List Value) (n : Nat), Vals xs its ∧ s.heap.get? p = some { cls := .type "list", data := .seq its.toArray n } ∧ xs.length ≤ sizeLine := by
  obtain ⟨z, its, n, r, e⟩ := I.hok p _ h
  exact ⟨its, n, r, e, z⟩
theorem Inv.lstUpd {pins : List (Addr × Obj)} {σ : St} {H : Hp} {s : Shared} {p : Addr} {xs ys : List V} {its its' : List Value} {n n' : Nat} {f : Obj → Obj} (I : Inv X pins σ H s) (h : H p = some (.lst xs))
    (ho : s.heap.get? p = some { cls := .type "list", data := .seq its.toArray n }) (hf : f { cls := .type "list", data := .seq its.toArray n } = { cls := .type "list", data := .seq its'.toArray n' }) (r : Vals ys its') (hz : ys.length ≤ sizeLine) (t : Nat) :
    Inv X pins σ (upd H p (.lst ys)) { s with heap := s.heap.update p f, toks := t } := by
  have e : (s.heap.update p f).get? p = some { cls := .type "list", data := .seq its'.toArray n' } := by
    rw [Heap.get?_update_self f ho (by rw [hf] <;> rfl), hf]
  refine I.write (x := p) (e := p) (by rw [h]; trivial) (.inl rfl) (fun b u hb q => (Heap.get?_update_other _ _ (Ne.symm hb)).trans q) ⟨_, e⟩ ?_
  exact ⟨hz, its', n', r, e⟩
def rSetL : V → V → V → Hp → (Hp → Prop) → Prop := fun o i v H Q => ∃ p xs k j, o = .ref p ∧ i = .int k ∧ H p = some (.lst xs) ∧ ixN xs.length k = some j ∧ Q (upd H p (.lst (xs.set j v)))
theorem set_list : PSet X rSetL := by
  intro pins s σ H o i v ov iv u Q I ro ri rv h
  obtain ⟨p, xs, k, j, rfl, rfl, hp, hj, q⟩ := h
  cases ro
  obtain ⟨t, rfl⟩ := ri
  obtain ⟨its, n, r, ho, hz⟩ := I.lst hp
  obtain ⟨h1, h2, h3, h4⟩ := ixN_seq hj
  have hl := r.length
  have hn := line63
  have I' : Inv X pins σ (upd H p (.lst (xs.set j v))) { s with heap := s.heap.update p (Obj.mapSeq (·.setIfInBounds j u)) } :=
    I.lstUpd hp ho (mapSeq_set its n j u) (r.set rv j) (by rw [List.length_set]; exact hz) s.toks
  by_cases h0 : 0 ≤ k
  · have hk : k.toNat = j := by
      rw [seqIndex_of h0 h4] at h1
      exact Option.some.inj h1
    exact PySem.W.ki_setAt ho h0 (by omega) (by rw [List.size_toArray, ← hl]; exact h4) (by rw [hk]; exact ⟨_, I', q⟩)
  · have hk : (k + (its.toArray.size : Int)).toNat = j := by
      rw [seqIndex_neg (by omega) h3] at h1
      rw [List.size_toArray, ← hl]
      exact Option.some.inj h1
    exact PySem.W.ki_setBack ho (by omega) (by rw [List.size_toArray, ← hl]; exact h3) (by omega) (by rw [hk]; exact ⟨_, I', q⟩)
theorem slice_bounds (lo hi : Option Int) (n : Nat) : (sliceBounds lo hi none n).1 = ((HT.sIx n 0 lo : Nat) : Int) ∧ (sliceBounds lo hi none n).2.1 = ((HT.sIx n n hi : Nat) : Int) ∧ (sliceBounds lo hi none n).2.2 = 1 := by
  refine ⟨?_, ?_, rfl⟩
  · cases lo with
    | none => simp [sliceBounds, HT.sIx]
    | some i =>
      simp only [sliceBounds, HT.sIx, Option.getD_none, show (1 : Int) > 0 by decide, if_true]
      by_cases h : i < 0
      · simp only [h, if_true] <;> omega
      · simp only [h, if_false] <;> omega
  · cases hi with
    | none => simp [sliceBounds, HT.sIx]
    | some i =>
      simp only [sliceBounds, HT.sIx, Option.getD_none, show (1 : Int) > 0 by decide, if_true]
      by_cases h : i < 0
      · simp only [h, if_true] <;> omega
      · simp only [h, if_false] <;> omega
theorem slicePick_cut (its : List Value) (lo hi : Option Int) : slicePick its.toArray lo hi none = ((its.drop (HT.sIx its.length 0 lo)).take (HT.sIx its.length its.length hi - HT.sIx its.length 0 lo)).toArray := by
  obtain ⟨h1, h2, h3⟩ := slice_bounds lo hi its.toArray.size
  unfold slicePick
  rw [h1, h2, h3]
  simp only [sliceRange_one, pick_run, List.size_toArray] <;> rfl
def rSlL (K : PySem.W.Frag) : V → Option Int → Option Int → Hp → VK → Prop := fun x lo hi H Q => ∃ a xs, x = .ref a ∧ SqL K H a xs ∧ ∀ p, H p = none → Q (.ref p) (upd H p (.lst (cutV xs lo hi)))
theorem sl_list : SlR X (rSlL X.K) := by
  intro pins s σ H x v vl vu lo hi sl Q I rx hs pl pu h
  obtain ⟨a, xs, rfl, hx, q⟩ := h
  cases rx
  obtain ⟨its, r, ht, hz⟩ := I.list hx
  have hlen := r.length
  refine ⟨"list", _, slot_list_getitem.lookup, ht.isList.typeIs, ?_⟩
  refine wpAny_getItem_list_slice ht.isList hs pl pu .none (by simp) ?_ (by rw [List.size_toArray] <;> omega)
  rw [slicePick_cut, ← hlen]
  refine ⟨.ref s.heap.objs.size, _, I.laid (t' := s.toks) (o := .lst (cutV xs lo hi)) (fun b ob q => Heap.get?_push_of_some _ q) (Nat.le_refl _) ?_, rfl, q _ (I.hok.fresh (Nat.le_refl _))⟩
  exact ⟨Nat.le_trans (cutV_length xs lo hi) hz, _, 0, (r.drop (HT.sIx xs.length 0 lo)).take (HT.sIx xs.length xs.length hi - HT.sIx xs.length 0 lo), Heap.get?_push_size _ rfl⟩
theorem call_len_seq : CallR X (.builtin "len") (fun xs H Q => ∃ p ys, xs = [.ref p] ∧ (SqL X.K H p ys ∨ SqT X.K H p ys) ∧ Q (.int ys.length) H) := by
  intro pins s σ H xs us Q I r h
  obtain ⟨p, ys, rfl, hq, q⟩ := h
  obtain ⟨u, rfl, rx⟩ := vals1 r
  cases rx
  have hn := line63
  rcases hq with hq | hq
  · obtain ⟨its, r', pl, hz⟩ := I.list hq
    have hlen := r'.length
    exact Calls.call_len_list pl.isList (by simp only [List.size_toArray] <;> omega) ⟨.int ys.length, H, I.tok _, ⟨s.toks + 1, by rw [List.size_toArray, hlen]⟩, q⟩
  · obtain ⟨its, r', pl, hz⟩ := I.tuple hq
    have hlen := r'.length
    exact len_tuple pl (by simp only [List.size_toArray] <;> omega) ⟨.int ys.length, H, I.tok _, ⟨s.toks + 1, by rw [List.size_toArray, hlen]⟩, q⟩
theorem call_len_str : CallR X (.builtin "len") (fun xs H Q => ∃ z, xs = [.str z] ∧ z.length ≤ sizeLine ∧ Q (.int z.length) H) := by
  intro pins s σ H xs us Q I r h
  obtain ⟨z, rfl, hz, q⟩ := h
  obtain ⟨u, rfl, t, rfl⟩ := vals1 r
  have hn := line63
  exact len_str (by omega) ⟨.int z.length, H, I.tok _, ⟨_, rfl⟩, q⟩
theorem CallR.or {f : Value} {r r' : List V → Hp → VK → Prop} (h : CallR X f r) (h' : CallR X f r') : CallR X f (fun xs H Q => r xs H Q ∨ r' xs H Q) := by
  intro pins s σ H xs us Q I rs q
  rcases q with q | q
  · exact h pins s σ H xs us Q I rs q
  · exact h' pins s σ H xs us Q I rs q
def tyV (K : PySem.W.Frag) (T : String) (x : V) (H : Hp) : Prop := match x with
  | .str _ => T = "str"
  | .int _ => T = "int"
  | .ref p => (T = "list" ∧ ∃ xs, SqL K H p xs) ∨ (T = "tuple" ∧ ∃ o, K.lookup p = some o ∧ o.cls = .type "tuple" ∧ o.dict = none) ∨
      (T = "dict" ∧ ((∃ kvs, H p = some (.dK kvs)) ∨ ∃ kvs, H p = some (.dT kvs))) ∨ (T = "set" ∧ ∃ S n, H p = some (.set S n))
  | _ => False
theorem tyV_is {pins : List (Addr × Obj)} {σ : St} {H : Hp} {s : Shared} {T : String} {x : V} {v : Value} (I : Inv X pins σ H s) (r : RelV x v) (ty : tyV X.K T x H) :
    s.TypeIs v T ∧ ∀ a, v = .ref a → ∃ ob, s.heap.get? a = some ob ∧ ob.dict = none := by
  cases x with
  | str z =>
    obtain ⟨t, rfl⟩ := r
    cases (show T = "str" from ty)
    exact ⟨typeIs_str s z t, fun _ e => nomatch e⟩
  | int i =>
    obtain ⟨t, rfl⟩ := r
    cases (show T = "int" from ty)
    exact ⟨typeIs_int s i t, fun _ e => nomatch e⟩
  | ref p =>
    cases r
    rcases ty with ⟨rfl, xs, hq⟩ | ⟨rfl, o, hk, hc, hd⟩ | ⟨rfl, hk⟩ | ⟨rfl, S, n, hk⟩
    · obtain ⟨its, _, pl, _⟩ := I.list hq
      refine ⟨pl.isList.typeIs, fun a e => ?_⟩
      cases e
      obtain ⟨o, n, e, c, hd, _⟩ := pl
      exact ⟨o, e, hd⟩
    · refine ⟨⟨o, I.kIn p o hk, hc⟩, fun a e => ?_⟩
      cases e
      exact ⟨o, I.kIn _ o hk, hd⟩
    · have z : ∃ o, s.heap.get? p = some o ∧ o.ExactDict := by
        rcases hk with ⟨kvs, hk⟩ | ⟨kvs, hk⟩
        · obtain ⟨_, _, _, _, o, _, _, e, ex, _⟩ := I.hok p _ hk
          exact ⟨o, e, ex⟩
        · obtain ⟨_, _, _, _, o, _, _, e, ex, _⟩ := I.hok p _ hk
          exact ⟨o, e, ex⟩
      obtain ⟨o, e, ex⟩ := z
      refine ⟨⟨o, e, ex.1⟩, fun a e2 => ?_⟩
      cases e2
      exact ⟨o, e, ex.2.1⟩
    · obtain ⟨o, _, _, _, e, ex, _⟩ := I.hok p _ hk
      refine ⟨⟨o, e, ex.1⟩, fun a e2 => ?_⟩
      cases e2
      exact ⟨o, e, ex.2.1⟩
  | _ => exact False.elim ty
def tBM0 (K : PySem.W.Frag) (T : String) (r : V → List V → Hp → VK → Prop) (to : TE) : TE := fun σ H Q => to σ H fun x H1 => tyV K T x H1 ∧ r x [] H1 Q
def tBM (K : PySem.W.Frag) (T : String) (r : V → List V → Hp → VK → Prop) (to : TE) (t : TA) : TE := fun σ H Q => to σ H fun x H1 => tyV K T x H1 ∧ t σ H1 fun xs H2 => r x xs H2 Q
variable {o e : Expr} {es : List Expr} {to : TE} {t : TA} {name : Str} {apos cpos : Pos} {T id : String} {r : V → List V → Hp → VK → Prop}
theorem pe_bm0 (pa : PlainAttrs T) (slot : Slot T name id) (hty : typeOf (.builtin id) = pure (.type "method_descriptor")) (hm : MtR X id r) (ho : PE X o to)
    (hbase : attributeBase o name X.env (eval o X.env) = eval o X.env := by rfl) (hline : (apos.endLine == cpos.line) = true := by rfl) : PE X (.Call (.Attribute o name apos) [] [] cpos) (tBM0 X.K T r to) := by
  intro pins s σ H Q I h
  refine wpAny_Call_method0_late hbase hline (thn (ho pins s σ H _ I h) fun v s1 ⟨x, H1, I1, r1, ty, q1⟩ => ?_)
  obtain ⟨h1, h2⟩ := tyV_is I1 r1 ty
  exact ⟨T, id, pa, slot, hty, h1, h2, Calls.callWith_builtin rfl (PySem.evalArgs_none (hm pins s1 σ H1 x [] v [] Q I1 r1 .nil q1))⟩
theorem pe_bm (pa : PlainAttrs T) (slot : Slot T name id) (hty : typeOf (.builtin id) = pure (.type "method_descriptor")) (hm : MtR X id r) (ho : PE X o to) (ha : PA X (e :: es) t)
    (hbase : attributeBase o name X.env (eval o X.env) = eval o X.env := by rfl)
    (hfew : ((backTo cpos (starEach (e :: es) X.env)).all (fun x => !x.1) && (backToKw cpos (keywordEach [] X.env)).all (fun x => x.1.isSome)
      && decide ((e :: es).length + ([] : List Keyword).length + (if ([] : List Keyword).isEmpty then 0 else 1) < 30)) = true := by rfl)
    (hline : (apos.endLine == cpos.line) = true := by rfl) (hs : starEach (e :: es) X.env = (false, eval e X.env) :: starEach es X.env := by rfl) (hplain : (backTo cpos (starEach es X.env)).any (·.1) = false := by rfl) :
    PE X (.Call (.Attribute o name apos) (e :: es) [] cpos) (tBM X.K T r to t) := by
  intro pins s σ H Q I h
  refine wpAny_Call_method_late hbase hfew hline rfl (thn (ho pins s σ H _ I h) fun v s1 ⟨x, H1, I1, r1, ty, q1⟩ => ?_)
  obtain ⟨h1, h2⟩ := tyV_is I1 r1 ty
  refine ⟨T, id, pa, slot, hty, h1, h2, ?_⟩
  have hA := ha cpos pins s1 σ H1 _ I1 q1
  rw [hs] at hA ⊢
  refine Calls.callWith_builtin (by show (false || (backTo cpos (starEach es X.env)).any (·.1)) = false; rw [hplain] <;> rfl) (Calls.evalArgs_plain ?_)
  exact thn hA fun us s2 ⟨vs, H2, I2, r2, q2⟩ => hm pins s2 σ H2 x vs v us Q I2 r1 r2 q2
end
end L2
namespace L2
open PySem PySem.Spec PyProof.Rows
def MtM (X : Cx) (id : String) (r : V → List V → Hp → VK → Prop) : Prop :=
  ∀ (pins : List (Addr × Obj)) (s : Shared) (σ : St) (H : Hp) (x : V) (xs : List V) (v : Value) (us : List Value) (Q : VK), Inv X pins σ H s → RelV x v → Vals xs us → r x xs H Q →
    wpAny (model X.prog X.w) X.A (call (.builtin id) (v :: us)) (EP X pins σ Q) X.xe s
theorem Vals.one : ∀ {x : V} {us : List Value}, Vals [x] us → ∃ u, us = [u] ∧ RelV x u
  | _, _, .cons r .nil => ⟨_, rfl, r⟩
theorem Vals.zero : ∀ {us : List Value}, Vals [] us → us = []
  | _, .nil => rfl
theorem Vals.rep {xs : List V} {us : List Value} (h : Vals xs us) : ∀ k : Nat, Vals (List.replicate k xs).flatten (List.replicate k us).flatten
  | 0 => .nil
  | k + 1 => by
    rw [List.replicate_succ, List.replicate_succ, List.flatten_cons, List.flatten_cons]
    exact Vals.append h (Vals.rep h k)
theorem foldl_rep (its : List Value) : ∀ (k : Nat) (acc : List Value),
    List.foldl (fun x1 x2 => x1 ++ x2) acc.toArray (List.replicate k its.toArray) = (acc ++ (List.replicate k its).flatten).toArray
  | 0, acc => by simp
  | k + 1, acc => by
    have e : acc.toArray ++ its.toArray = (acc ++ its).toArray := by simp
    have e2 : (acc ++ its) ++ (List.replicate k its).flatten = acc ++ (List.replicate (k + 1) its).flatten := by
      rw [List.replicate_succ, List.flatten_cons, List.append_assoc]
    rw [← e2, ← foldl_rep its k (acc ++ its), ← e, List.replicate_succ, List.foldl_cons]
section
variable {X : Cx} {pins : List (Addr × Obj)} {σ : St} {H : Hp} {s : Shared} {l b : Addr} {xs ys zs : List V}
theorem Inv.lset {its its' : List Value} {n : Nat} {f : Array Value → Array Value} {t' : Nat} (I : Inv X pins σ H s) (hH : H l = some (.lst xs))
    (e : s.heap.get? l = some { cls := .type "list", data := .seq its.toArray n }) (hf : f its.toArray = its'.toArray) (hv : Vals ys its') (hz : ys.length ≤ sizeLine) :
    Inv X pins σ (upd H l (.lst ys)) { s with heap := s.heap.update l (Obj.mapSeq f), toks := t' } := by
  have q := PySem.IsL.update e f
  rw [hf] at q
  refine I.write (x := l) (e := l) (by rw [hH]; exact trivial) (.inl rfl) (fun b' u hb hu => (Heap.get?_update_other s.heap (Obj.mapSeq f) (Ne.symm hb)).trans hu) ⟨_, q⟩ ?_
  exact ⟨hz, its', _, hv, q⟩
theorem Inv.lnew {its : List Value} {t' : Nat} (I : Inv X pins σ H s) (hv : Vals ys its) (hz : ys.length ≤ sizeLine) :
    Inv X pins σ (upd H s.heap.objs.size (.lst ys)) { s with heap := s.heap.push { cls := .type "list", data := .seq its.toArray }, toks := t' } :=
  I.laid (fun _ _ q => Heap.get?_push_of_some _ q) (Nat.le_refl _) ⟨hz, its, 0, hv, Heap.get?_push_size _ rfl⟩
theorem Inv.fresh (I : Inv X pins σ H s) : H s.heap.objs.size = none := I.hok.fresh (Nat.le_refl _)
theorem Inv.lstM (I : Inv X pins σ H s) (hH : H l = some (.lst xs)) : xs.length ≤ sizeLine ∧ ∃ (its : List Value) (n : Nat), Vals xs its ∧ xs.length = its.length ∧ s.heap.get? l = some { cls := .type "list", data := .seq its.toArray n } := by
  obtain ⟨z, its, n, r, e⟩ := I.hok l _ hH
  exact ⟨z, its, n, r, r.length, e⟩
theorem notLongL {n : Nat} (h : n ≤ sizeLine) : Builtin.List.listTooLong n = false := by
  unfold Builtin.List.listTooLong
  exact decide_eq_false (by omega)
end
section
variable {X : Cx}
def rAppend : V → List V → Hp → VK → Prop := fun x vs H Q => ∃ l xs y, x = .ref l ∧ vs = [y] ∧ H l = some (.lst xs) ∧ xs.length < sizeLine ∧ Q .non (upd H l (.lst (xs ++ [y])))
theorem mt_append : MtM X "list.append" rAppend := by
  intro pins s σ H x vs v us Q I rx rv h
  obtain ⟨l, xs, y, rfl, rfl, hH, hz, q⟩ := h
  cases rx
  obtain ⟨u, rfl, ru⟩ := rv.one
  obtain ⟨z, its, n, r, hl, e⟩ := I.lstM hH
  refine call_meets F.slot_list_append ⟨_, e, rfl⟩ F.entry_list_append (F.args_list_append_2 _ _) (PySem.list_append l its.toArray n u (by rw [List.size_toArray]; omega)) ⟨e, ?_⟩
  refine ⟨.non, _, I.lset (its' := its ++ [u]) hH e (by simp) (r.append (.cons ru .nil)) ?_, rfl, q⟩
  rw [List.length_append, List.length_singleton]
  omega
def rCat : R2 := fun x y H Q => ∃ l b xs zs, x = .ref l ∧ y = .ref b ∧ H l = some (.lst xs) ∧ H b = some (.lst zs) ∧ xs.length + zs.length ≤ sizeLine ∧ ∀ p, H p = none → Q (.ref p) (upd H p (.lst (xs ++ zs)))
theorem op_cat : OpR X (binaryOp .Add) rCat := by
  intro pins s σ H x y v u Q I rx ry h
  obtain ⟨l, b, xs, zs, rfl, rfl, hH, hB, hz, q⟩ := h
  cases rx
  cases ry
  obtain ⟨z, its, n, r, hl, e⟩ := I.lstM hH
  obtain ⟨z2, its2, n2, r2, hl2, e2⟩ := I.lstM hB
  refine PySem.P.add_list e e2 ?_ (by rw [List.size_toArray, List.size_toArray]; omega)
  have ea : its.toArray ++ its2.toArray = (its ++ its2).toArray := by simp
  rw [ea]
  exact ⟨.ref _, _, I.lnew (t' := s.toks) (r.append r2) (by rw [List.length_append]; omega), rfl, q _ I.fresh⟩
def rRep : R2 := fun x y H Q => ∃ l k xs, x = .ref l ∧ y = .int k ∧ H l = some (.lst xs) ∧ -(2 ^ 63) ≤ k ∧ k < 2 ^ 63 ∧ xs.length * k.toNat ≤ sizeLine ∧
  ∀ p, H p = none → Q (.ref p) (upd H p (.lst (List.replicate k.toNat xs).flatten))
theorem len_rep {α : Type} (xs : List α) (k : Nat) : (List.replicate k xs).flatten.length = k * xs.length := by
  induction k with
  | zero => simp
  | succ k ih => rw [List.replicate_succ, List.flatten_cons, List.length_append, ih, Nat.succ_mul, Nat.add_comm]
theorem op_rep : OpR X (binaryOp .Mult) rRep := by
  intro pins s σ H x y v u Q I rx ry h
  obtain ⟨l, k, xs, rfl, rfl, hH, h1, h2, hz, q⟩ := h
  cases rx
  obtain ⟨t, rfl⟩ := ry
  obtain ⟨z, its, n, r, hl, e⟩ := I.lstM hH
  have hlen : its.toArray.size * k.toNat ≤ sizeLine := by rw [List.size_toArray, ← hl]; exact hz
  have hcap : ¬ its.toArray.size * k.toNat > (2 ^ 63 - 1) / 8 := by
    have : (sizeLine : Nat) ≤ (2 ^ 63 - 1) / 8 := by decide
    omega
  have hfit : ¬ (!Builtin.List.listFitsIndex k) = true := by
    rw [fitsIndex_both h1 h2]
    exact Bool.false_ne_true
  have hlong : ¬ Builtin.List.listTooLong (its.toArray.size * k.toNat) = true := by
    rw [notLongL hlen]
    exact Bool.false_ne_true
  have hnew : List.foldl (fun x1 x2 => x1 ++ x2) #[] (List.replicate (if its.toArray.isEmpty = true then 0 else k.toNat) its.toArray) = (List.replicate k.toNat its).flatten.toArray := by
    have f0 : ∀ m : Nat, List.foldl (fun x1 x2 => x1 ++ x2) #[] (List.replicate m its.toArray) = (List.replicate m its).flatten.toArray := fun m => by
      have := foldl_rep its m []
      rw [List.nil_append] at this
      exact this
    rw [f0]
    cases its with
    | nil => simp
    | cons a r' => rw [if_neg (by simp)]
  refine wpAny_binaryOp_repeat_ref (T := "list") (U := "int") (by decide) ⟨_, e, rfl⟩ (fun s' => typeIs_int s' k t) noFill_list_mul F.fills_int_mul F.slot_int_rmul repeat_list F.slot_int_index.lookup
    (call_meets F.slot_int_rmul (typeIs_int s k t) F.entry_int_rmul (F.args_int_rmul_2 _ _) (int___rmul___int_list k t l its.toArray n)
      ⟨e, rfl, ⟨_, e, rfl⟩, call_meets F.slot_list_mul ⟨_, e, rfl⟩ F.entry_list_mul (F.args_list_mul_2 _ _) (AutoListH.list___mul___list_int_3 l its.toArray n k t hfit hcap hlong) ⟨e, ?_⟩⟩)
  rw [hnew]
  exact ⟨.ref _, _, I.lnew (t' := s.toks) (r.rep k.toNat) (by rw [len_rep, Nat.mul_comm]; exact hz), rfl, q _ I.fresh⟩
end
section
variable {prog : Program} {w : World} {A : Around} {E : Value → Shared → Prop} {s : Shared}
end
section
variable {X : Cx}
end
end L2
set_option maxRecDepth 100000
namespace L2
open PySem PySem.Spec PyProof.Rows
section
variable {κ : Type} [DecidableEq κ]
def valV (kvs : List (κ × V)) (k : κ) : Option V := (kvs.find? fun kv => decide (kv.1 = k)).map (·.2)
def putK (kvs : List (κ × V)) (k : κ) (v : V) : List (κ × V) :=
  if (kvs.any fun kv => decide (kv.1 = k)) = true then kvs.map (fun kv => if kv.1 = k then (kv.1, v) else kv) else kvs ++ [(k, v)]
def dropK (kvs : List (κ × V)) (k : κ) : List (κ × V) := kvs.filter fun kv => decide (kv.1 ≠ k)
theorem valV_pos {p : κ × V} {r : List (κ × V)} {k : κ} (e : p.1 = k) : valV (p :: r) k = some p.2 := by simp [valV, List.find?_cons, e]
theorem valV_neg {p : κ × V} {r : List (κ × V)} {k : κ} (e : ¬ p.1 = k) : valV (p :: r) k = valV r k := by simp [valV, List.find?_cons, e]
theorem valV_any (k : κ) : ∀ kvs : List (κ × V), (kvs.any fun kv => decide (kv.1 = k)) = (valV kvs k).isSome
  | [] => rfl
  | p :: r => by
    rw [List.any_cons]
    by_cases e : p.1 = k
    · simp only [valV_pos e, decide_eq_true e, Bool.true_or, Option.isSome_some]
    · rw [valV_neg e, decide_eq_false e, Bool.false_or]; exact valV_any k r
theorem RelO.isSome_eq {o : Option V} {u : Option Value} (r : RelO o u) : o.isSome = u.isSome := by
  cases o with
  | none => cases u with
    | none => rfl
    | some _ => exact (show False from r).elim
  | some _ => cases u with
    | none => exact (show False from r).elim
    | some _ => rfl
theorem RelO.getD {o : Option V} {u : Option Value} {d : V} {d' : Value} (r : RelO o u) (rd : RelV d d') : RelV (o.getD d) (u.getD d') := by
  cases o with
  | none => cases u with
    | none => exact rd
    | some _ => exact (show False from r).elim
  | some _ => cases u with
    | none => exact (show False from r).elim
    | some _ => exact r
theorem KV.val {kvs : List (κ × V)} {vs : List (κ × Value)} (r : KV kvs vs) (k : κ) : RelO (valV kvs k) (valueAt vs k) := by
  unfold KV at r
  induction r with
  | nil => exact True.intro
  | @cons p q ps qs h t ih =>
    obtain ⟨h1, h2⟩ := h
    by_cases e : p.1 = k
    · have e' : q.1 = k := h1.symm.trans e
      have b : valueAt (q :: qs) k = some q.2 := by simp [valueAt, List.find?_cons, e']
      rw [valV_pos e, b]; exact h2
    · have e' : ¬ q.1 = k := fun z => e (h1.trans z)
      have b : valueAt (q :: qs) k = valueAt qs k := by simp [valueAt, List.find?_cons, e']
      rw [valV_neg e, b]; exact ih
theorem KV.any {kvs : List (κ × V)} {vs : List (κ × Value)} (r : KV kvs vs) (k : κ) : (kvs.any fun kv => decide (kv.1 = k)) = vs.any fun kv => decide (kv.1 = k) := by
  unfold KV at r
  induction r with
  | nil => rfl
  | cons h t ih => rw [List.any_cons, List.any_cons, ih, h.1]
theorem KV.repl {kvs : List (κ × V)} {vs : List (κ × Value)} (r : KV kvs vs) (k : κ) {y : V} {u : Value} (ry : RelV y u) :
    KV (kvs.map fun kv => if kv.1 = k then (kv.1, y) else kv) (vs.map fun kv => if kv.1 = k then (kv.1, u) else kv) := by
  unfold KV at r ⊢
  induction r with
  | nil => exact .nil
  | @cons p q ps qs h t ih =>
    rw [List.map_cons, List.map_cons]
    refine .cons ?_ ih
    obtain ⟨h1, h2⟩ := h
    by_cases e : p.1 = k
    · rw [if_pos e, if_pos (h1.symm.trans e)]; exact ⟨h1, ry⟩
    · rw [if_neg e, if_neg (fun z => e (h1.trans z))]; exact ⟨h1, h2⟩
theorem KV.put {kvs : List (κ × V)} {vs : List (κ × Value)} (r : KV kvs vs) (k : κ) {y : V} {u : Value} (ry : RelV y u) : KV (putK kvs k y) (stored vs k u) := by
  unfold putK stored
  rw [r.any k]
  by_cases e : (vs.any fun kv => decide (kv.1 = k)) = true
  · rw [if_pos e, if_pos e]; exact r.repl k ry
  · rw [if_neg e, if_neg e]; exact Paired.snoc r ⟨rfl, ry⟩
theorem KV.drop {kvs : List (κ × V)} {vs : List (κ × Value)} (r : KV kvs vs) (k : κ) : KV (dropK kvs k) (without vs k) := by
  unfold KV at r ⊢
  unfold dropK without
  induction r with
  | nil => exact .nil
  | @cons p q ps qs h t ih =>
    obtain ⟨h1, h2⟩ := h
    rw [List.filter_cons, List.filter_cons]
    by_cases e : p.1 = k
    · have a : ¬ decide (p.1 ≠ k) = true := by simp [e]
      have b : ¬ decide (q.1 ≠ k) = true := by simp [h1.symm.trans e]
      rw [if_neg a, if_neg b]; exact ih
    · have e' : ¬ q.1 = k := fun z => e (h1.trans z)
      have a : decide (p.1 ≠ k) = true := by simp [e]
      have b : decide (q.1 ≠ k) = true := by simp [e']
      rw [if_pos a, if_pos b]; exact .cons ⟨h1, h2⟩ ih
theorem KV.keys {kvs : List (κ × V)} {vs : List (κ × Value)} (r : KV kvs vs) : kvs.map (·.1) = vs.map (·.1) := by
  unfold KV at r
  induction r with
  | nil => rfl
  | cons h t ih => rw [List.map_cons, List.map_cons, ih, h.1]
theorem KV.length {kvs : List (κ × V)} {vs : List (κ × Value)} (r : KV kvs vs) : kvs.length = vs.length := Paired.length r
end
theorem kV_is {P : Program} {w : World} {k : Key} {u : Value} (r : RelV (kV k) u) : (mixKind P w).is k u = true := by
  cases k with
  | inl i => obtain ⟨t, e⟩ := (show ∃ t, u = Value.int i t from r); subst e; exact mixKind_int P w i t
  | inr x => obtain ⟨t, e⟩ := (show ∃ t, u = Value.str x t from r); subst e; exact mixKind_str P w x t
  | non => cases (show u = Value.none from r); exact mixKind_non P w
theorem items_are {P : Program} {w : World} : ∀ {ks : List Key} {us : List Value}, Vals (ks.map kV) us → ItemsAre (mixKind P w) ks us
  | [], _, r => by rw [List.map_nil] at r; cases r; exact .nil
  | k :: ks, _, r => by
    rw [List.map_cons] at r
    cases r with
    | cons h t => exact .cons (kV_is h) (items_are t)
abbrev KT (H : Hp) : List (List Key × V) → List (List Key × Addr × Value) → Prop := Paired fun p q => p.1 = q.1 ∧ H q.2.1 = some (.tup (p.1.map kV)) ∧ RelV p.2 q.2.2
theorem KT.val {H : Hp} {kvs : List (List Key × V)} {xs : List (List Key × Addr × Value)} (r : KT H kvs xs) (k : List Key) : RelO (valV kvs k) ((atKey xs k).map (·.2)) := by
  induction r with
  | nil => exact True.intro
  | @cons p q ps qs h t ih =>
    obtain ⟨h1, _, h2⟩ := h
    by_cases e : p.1 = k
    · have e' : q.1 = k := h1.symm.trans e
      have b : atKey (q :: qs) k = some q.2 := by simp [atKey, List.find?_cons, e']
      rw [valV_pos e, b]; exact h2
    · have e' : ¬ q.1 = k := fun z => e (h1.trans z)
      have b : atKey (q :: qs) k = atKey qs k := by simp [atKey, List.find?_cons, e']
      rw [valV_neg e, b]; exact ih
theorem KT.repl {H : Hp} {kvs : List (List Key × V)} {xs : List (List Key × Addr × Value)} (r : KT H kvs xs) (k : List Key) {y : V} {u : Value} (ry : RelV y u) :
    KT H (kvs.map fun kv => if kv.1 = k then (kv.1, y) else kv) (xs.map (putAt k u)) := by
  induction r with
  | nil => exact .nil
  | @cons p q ps qs h t ih =>
    rw [List.map_cons, List.map_cons]
    refine .cons ?_ ih
    obtain ⟨h1, h2, h3⟩ := h
    unfold putAt
    by_cases e : p.1 = k
    · rw [if_pos e, if_pos (h1.symm.trans e)]; exact ⟨h1, h2, ry⟩
    · rw [if_neg e, if_neg (fun z => e (h1.trans z))]; exact ⟨h1, h2, h3⟩
theorem KT.put {H : Hp} {kvs : List (List Key × V)} {xs : List (List Key × Addr × Value)} (r : KT H kvs xs) (k : List Key) {b : Addr} {y : V} {u : Value} (hb : H b = some (.tup (k.map kV))) (ry : RelV y u) :
    KT H (putK kvs k y) (storedH xs k b u) := by
  have e : (kvs.any fun kv => decide (kv.1 = k)) = (atKey xs k).isSome := by
    rw [valV_any, (r.val k).isSome_eq, Option.isSome_map]
  unfold putK storedH
  rw [e]
  by_cases q : (atKey xs k).isSome = true
  · rw [if_pos q, if_pos q]; exact r.repl k ry
  · rw [if_neg q, if_neg q]; exact Paired.snoc r ⟨rfl, hb, ry⟩
theorem KT.keeps {H H' : Hp} {kvs : List (List Key × V)} {xs : List (List Key × Addr × Value)} (r : KT H kvs xs) (ht : ∀ b ys, H b = some (.tup ys) → H' b = some (.tup ys)) : KT H' kvs xs :=
  Paired.mapP r fun _ _ z => ⟨z.1, ht _ _ z.2.1, z.2.2⟩
section
variable {P : Program} {w : World} {H : Hp} {h : Heap} {a : Addr}
theorem rd_of {u : HO} (ok : HOk P w H h) (e : Rd H a u) : ObjOk P w H h a u := e.ok ok
theorem dk_rd {kvs : List (Key × V)} (ok : HOk P w H h) (e : Rd H a (.dK kvs)) : kvs.length ≤ sizeLine ∧ (a == sysModules) = false ∧ ∃ vs, KV kvs vs ∧ h.DictOf (mixKind P w) a vs :=
  show ObjOk P w H h a (.dK kvs) from rd_of ok e
theorem key_of {ks : List Key} (ok : HOk P w H h) (e : H a = some (.tup (ks.map kV))) : (tupleKind (mixKind P w)).is h ks a := by
  obtain ⟨_, its, r, o, h1, h2, _, n, h3⟩ := (show ObjOk P w H h a (.tup (ks.map kV)) from ok a _ e)
  exact ⟨o, its.toArray, n, h1, h2, h3, by simpa using items_are r⟩
theorem dt_rd {kvs : List (List Key × V)} (ok : HOk P w H h) (e : Rd H a (.dT kvs)) : kvs.length ≤ sizeLine ∧ (a == sysModules) = false ∧
    ∃ xs, KT H kvs xs ∧ h.DictOfH (tupleKind (mixKind P w)) a xs := by
  obtain ⟨z, y, xs, r, o, es, ep, h1, h2, h3, h4, h5⟩ := (show ObjOk P w H h a (.dT kvs) from rd_of ok e)
  refine ⟨z, y, xs, r, o, es, ep, h1, h2, h3, h4, fun x hx => ?_, h5⟩
  have all : ∀ {l : List (List Key × V)} {m : List (List Key × Addr × Value)}, KT H l m → ∀ x ∈ m, (tupleKind (mixKind P w)).is h x.1 x.2.1 := by
    intro l m q
    induction q with
    | nil => intro x hx; exact nomatch hx
    | @cons p q ps qs hq t ih =>
      intro x hx
      rcases List.mem_cons.mp hx with e | hx
      · subst e
        exact key_of ok (by rw [← hq.1]; exact hq.2.1)
      · exact ih x hx
  exact all r x hx
end
def DGet (H : Hp) (a : Addr) (y : V) (r : Option V) : Prop :=
  (∃ kvs k, Rd H a (.dK kvs) ∧ y = kV k ∧ r = valV kvs k) ∨ ∃ kvs k b, Rd H a (.dT kvs) ∧ y = .ref b ∧ H b = some (.tup (k.map kV)) ∧ r = valV kvs k
def DPut (H : Hp) (a : Addr) (y v : V) (H' : Hp) : Prop :=
  (∃ kvs k, H a = some (.dK kvs) ∧ y = kV k ∧ kvs.length < sizeLine ∧ H' = upd H a (.dK (putK kvs k v))) ∨
  ∃ kvs k b, H a = some (.dT kvs) ∧ y = .ref b ∧ H b = some (.tup (k.map kV)) ∧ kvs.length < sizeLine ∧ H' = upd H a (.dT (putK kvs k v))
theorem DGet.k {H : Hp} {a : Addr} {kvs : List (Key × V)} {k : Key} (e : H a = some (.dK kvs)) : DGet H a (kV k) (valV kvs k) := .inl ⟨kvs, k, .inl e, rfl, rfl⟩
theorem DGet.t {H : Hp} {a b : Addr} {kvs : List (List Key × V)} {k : List Key} (e : H a = some (.dT kvs)) (eb : H b = some (.tup (k.map kV))) : DGet H a (.ref b) (valV kvs k) := .inr ⟨kvs, k, b, .inl e, rfl, eb, rfl⟩
theorem DPut.k {H : Hp} {a : Addr} {kvs : List (Key × V)} {k : Key} {v : V} (e : H a = some (.dK kvs)) (hl : kvs.length < sizeLine) : DPut H a (kV k) v (upd H a (.dK (putK kvs k v))) := .inl ⟨kvs, k, e, rfl, hl, rfl⟩
theorem DPut.t {H : Hp} {a b : Addr} {kvs : List (List Key × V)} {k : List Key} {v : V} (e : H a = some (.dT kvs)) (eb : H b = some (.tup (k.map kV))) (hl : kvs.length < sizeLine) :
    DPut H a (.ref b) v (upd H a (.dT (putK kvs k v))) := .inr ⟨kvs, k, b, e, rfl, eb, hl, rfl⟩
section
variable {X : Cx} {pins : List (Addr × Obj)} {σ : St} {H : Hp} {s : Shared} {a : Addr} {y v : V} {u r : Value} {o : Option V} {A : Around} {E : Value → Shared → Prop}
theorem d_getItem {Q : Value → Shared → Prop} (hu : A.units + 1 < cLine) (I : Inv X pins σ H s) (g : DGet H a y (some v)) (ry : RelV y u) (h : ∀ w' s', Inv X pins σ H s' → RelV v w' → Q w' s') :
    wpAny (model X.prog X.w) A (getItem (.ref a) u) Q E s := by
  rcases g with ⟨kvs, k, e, ey, l⟩ | ⟨kvs, k, b, e, ey, eb, l⟩
  · subst ey
    obtain ⟨z, hd, vs, rel, dd⟩ := dk_rd I.hok e
    obtain ⟨w', hw, rw'⟩ := RelO.some_of (v := v) (o := valueAt vs k) (by rw [l]; exact rel.val k)
    exact wpAny_getItem_of (kV_is ry) dd.mapOf hw (h w' _ (I.tok _) rw')
  · subst ey
    cases (show u = Value.ref b from ry)
    obtain ⟨z, hd, xs, rel, dd⟩ := dt_rd I.hok e
    obtain ⟨w', hw, rw'⟩ := RelO.some_of (v := v) (o := (atKey xs k).map (·.2)) (by rw [l]; exact rel.val k)
    obtain ⟨p, hp, hp2⟩ := Option.map_eq_some_iff.mp hw
    refine wpAny_getItem_heap (tupleKind_room_in1 hu) (key_of I.hok eb) dd hp ?_
    rw [hp2]
    exact h w' _ (I.tok _) rw'
end
section
variable {X : Cx} {pins : List (Addr × Obj)} {σ : St} {H : Hp} {s : Shared} {a : Addr} {kvs : List (Key × V)} {k : Key} {u : Value} {A : Around} {E : Value → Shared → Prop}
theorem d_len {Q : Value → Shared → Prop} (I : Inv X pins σ H s) (e : Rd H a (.dK kvs)) (h : ∀ t s', Inv X pins σ H s' → Q (.int kvs.length t) s') : wpAny (model X.prog X.w) A (call (.builtin "len") [.ref a]) Q E s := by
  obtain ⟨z, hd, vs, rel, dd⟩ := dk_rd I.hok e
  refine call_len_dict hd dd (by rw [← rel.length]; rw [sizeLine_eq] at z; omega) ?_
  rw [← rel.length]
  exact h _ _ (I.tok _)
end
def NoSl (i : Expr) : Prop := ∀ ov iv, subscripted i false ov iv = operate [ov, iv] (getItem ov iv)
theorem subD_of {prog : Program} {w : World} {A : Around} {E : Value → Shared → Prop} {s : Shared} {env : Env} {value slice : Expr} {pos : Pos} {T id : String} {Q : Value → Shared → Prop}
    (hl : typeLookup (.type T) "__getitem__" = pure (some (.builtin id))) (hs : NoSl slice)
    (h : wpAny (model prog w) A (eval value env) (fun o s₁ => wpAny (model prog w) A (eval slice env) (fun i s₂ => s₂.TypeIs o T ∧ wpAny (model prog w) A (getItem o i) Q E s₂) E s₁) E s) :
    wpAny (model prog w) A (eval (.Subscript value slice pos) env) Q E s := by
  refine Subscript_ (wpAny_mono h (fun o s₁ h₁ => wpAny_mono h₁ (fun i s₂ h₂ => ?_) fun _ _ x => x) fun _ _ x => x)
  obtain ⟨hT, h₂⟩ := h₂
  unfold subscriptTail
  refine wpAny_bind ?_
  rw [getitemInPython_of_ne hT.not_modules]
  refine wpAny_bind (wpAny_specialOf hT hl ?_)
  have fin : wpAny (model prog w) A (subscripted slice false o i) (fun r s₃ => wpAny (model prog w) A (letTemporaryGo value o r >>= fun _ => pure r) Q E s₃) E s₂ := by
    rw [hs o i]
    exact wpAny_operating (wpAny_mono h₂ (fun r s₃ h₃ => wpAny_bind (wpAny_letTemporaryGo (wpAny_pure h₃))) fun _ _ x => x)
  first
    | exact wpAny_pure (wpAny_bind fin)
    | exact wpAny_bind (wpAny_pure (wpAny_bind fin))
    | exact wpAny_bind fin
theorem dict_typeIs {X : Cx} {pins : List (Addr × Obj)} {σ : St} {H : Hp} {s : Shared} {a : Addr} {y : V} {o : Option V} (I : Inv X pins σ H s) (g : DGet H a y o) : s.TypeIs (.ref a) "dict" := by
  rcases g with ⟨kvs, k, e, _, _⟩ | ⟨kvs, k, b, e, _, _, _⟩
  · obtain ⟨_, _, vs, _, dd⟩ := dk_rd I.hok e
    exact dd.typeIs
  · obtain ⟨_, _, xs, _, dd⟩ := dt_rd I.hok e
    exact dd.typeIs
def tDGet (td ty : TE) : TE := fun σ H Q => td σ H fun x H1 => ty σ H1 fun y H2 => ∃ a v, x = .ref a ∧ DGet H2 a y (some v) ∧ Q v H2
section
variable {X : Cx} {o i e value : Expr} {pos pos' tpos : Pos} {td ty tv : TE}
theorem pe_dget (hu : X.A.units + 1 < cLine) (ho : PE X o td) (hi : PE X i ty) (hs : NoSl i) : PE X (.Subscript o i pos) (tDGet td ty) := by
  intro pins s σ H Q I h
  refine subD_of PySem.F.slot_dict_getitem.lookup hs (thn (ho pins s σ H _ I h) fun u s1 ⟨x, H1, I1, rx, q1⟩ => thn (hi pins s1 σ H1 _ I1 q1) fun iv s2 ⟨y, H2, I2, ry, a, v, ex, g, q2⟩ => ?_)
  subst ex
  obtain rfl : u = Value.ref a := rx
  exact ⟨dict_typeIs I2 g, d_getItem hu I2 g ry fun w' s3 I3 rw' => ⟨v, H2, I3, rw', q2⟩⟩
end
section
variable {X : Cx} {pos : Pos}
end
structure M1 (X : Cx) (o : Expr) (m : Str) (apos : Pos) (e : Expr) (cpos : Pos) : Prop where
  base : attributeBase o m X.env (eval o X.env) = eval o X.env
  few : ((backTo cpos (starEach [e] X.env)).all (fun x => !x.1) && (backToKw cpos (keywordEach [] X.env)).all (fun x => x.1.isSome)
    && decide (([e] : List Expr).length + ([] : List Keyword).length + (if ([] : List Keyword).isEmpty then 0 else 1) < 30)) = true
  line : (apos.endLine == cpos.line) = true
  trees : backTo cpos (starEach [e] X.env) = [(false, eval e X.env)]
structure M2 (X : Cx) (o : Expr) (m : Str) (apos : Pos) (e f : Expr) (cpos : Pos) : Prop where
  base : attributeBase o m X.env (eval o X.env) = eval o X.env
  few : ((backTo cpos (starEach [e, f] X.env)).all (fun x => !x.1) && (backToKw cpos (keywordEach [] X.env)).all (fun x => x.1.isSome)
    && decide (([e, f] : List Expr).length + ([] : List Keyword).length + (if ([] : List Keyword).isEmpty then 0 else 1) < 30)) = true
  line : (apos.endLine == cpos.line) = true
  trees : backTo cpos (starEach [e, f] X.env) = [(false, eval e X.env), (false, eval f X.env)]
section
variable {X : Cx} {pins : List (Addr × Obj)} {σ : St} {H : Hp} {s : Shared} {a : Addr} {y d : V} {u r : Value} {o : Option V} {A : Around} {E : Value → Shared → Prop}
end
section
variable {X : Cx} {o e f : Expr} {apos cpos : Pos} {td ty tx : TE}
end
section
variable {X : Cx} {pins : List (Addr × Obj)} {σ : St} {H : Hp} {s : Shared} {a : Addr} {kvs : List (Key × V)} {A : Around} {E : Value → Shared → Prop}
end
section
variable {X : Cx} {pins : List (Addr × Obj)} {σ : St} {H : Hp} {s : Shared} {a : Addr} {y : V} {u : Value} {A : Around} {E : Value → Shared → Prop}
end
end L2
namespace Att
open PySem PySem.W PySem.Calls PyProof.Rows
theorem ints_of_wellAll {P : Params} {h : Heap} : ∀ (ns : List Int) (vs : List Value), WellAll P h vs (ns.map WData.int) → IntsAre vs ns := by
  intro ns
  induction ns with
  | nil =>
    intro vs w
    rw [List.map_nil] at w
    cases w
    exact .nil
  | cons n ns ih =>
    intro vs w
    rw [List.map_cons] at w
    cases w with
    | cons a b =>
      cases a
      exact .cons _ _ (ih _ b)
theorem script_of {l : OpenLaw} {n : Nat} (hn : l.most = some n) {P : Params} {h : Heap} {args : List WData} {vals : List Value}
    (hpre : l.row.toRowW.claim.pre args = true) (hwl : WellAll P h vals args) :
    ∃ a vs ns, vals = [Value.ref a] ∧ args = [WData.list (ns.map WData.int)] ∧ h.get? a = some { cls := .type "list", data := .seq vs.toArray } ∧ IntsAre vs ns ∧ ns.length ≤ n := by
  have hsh : WShape.hasAll [] args [.list .int] = true := (pre_splitW hpre).1
  have hc : l.pre.holds [] { args := args } = true := (pre_splitW hpre).2
  obtain ⟨d, r, rfl, h1, h2⟩ := hasAllW_cons hsh
  obtain rfl := hasAllW_nil h2
  obtain ⟨xs, rfl, h3⟩ := hasW_list h1
  obtain ⟨ns, rfl⟩ := items_int h3
  have hlen : ns.length ≤ n := by
    unfold OpenLaw.pre at hc
    have h4 : (WTm.not (.lt (.lit (.int (n : Int))) (.len (.arg 0)))).holds [] { args := [.list (ns.map .int)] } = true := by
      have h4 := (holds_andW hc).1
      rw [hn] at h4
      exact h4
    have h5 := condW_of h4 (w_not (w_lt w_lit (w_len_list (w_arg rfl))))
    rw [List.length_map] at h5
    refine Nat.le_of_not_lt fun q => ?_
    have q' : (n : Int) < ((ns.length : Nat) : Int) := by omega
    first
      | (rw [decide_eq_true q'] at h5; exact absurd h5 (by decide))
      | (simp at h5; omega)
  cases hwl with
  | cons w1 w2 =>
    cases w2
    cases w1 with
    | list ho hall => exact ⟨_, _, ns, rfl, rfl, ho, ints_of_wellAll ns _ hall, hlen⟩
theorem post_true (l : OpenLaw) (args : List WData) : l.row.toRowW.claim.post args (.bool true) args = true :=
  postW_of (r := l.row.toRowW) (X := (true == true))
    (show WShape.has [] (.bool true) .bool = true by first | rfl | decide | simp [WShape.has, WShape.arms, WShape.armsAll])
    (show (WTm.eq .res (.lit (.bool true))).value [] { args := args, res := some (.bool true), after := args } = some (.bool (true == true)) from w_eq_bool (w_res rfl) w_lit) rfl
theorem attach_call {l : OpenLaw} {n : Nat} {q : Program} {loose : List Str} {XP : (Str → Option Value) → Heap → Prop} {YP : World → Heap → Prop} {d : DefRec}
    (hn : l.most = some n) (hdf : d.params.defaults = [])
    (call : ∀ (w : World) (s₀ s₁ : Shared) (mg mb : Str → Option Value) (fa : Addr) (o : Obj) (pm cd doc : Value) (a : Addr) (vs : List Value) (ns : List Int),
      Ground q loose [] XP w s₀ mg mb s₁.heap → YP w s₁.heap →
      s₁.heap.get? fa = some o → o.data = .func (docDef d.name d.params d.body d.scope pm cd doc) → s₁.heap.CodeRec cd d.name → mg d.name = some (.ref fa) →
      s₁.heap.get? a = some { cls := .type "list", data := .seq vs.toArray } → IntsAre vs ns → ns.length ≤ n → s₁.gens = #[] →
      codeAny (model l.prog w) callerA (.call (.ref fa) ⟨[.ref a], []⟩) (fun r s' => r = .ok (.ret (.bool true)) ∧ OldK s₁.heap s'.heap ∧ s'.os = s₁.os ∧ AllBare s'.gens) s₁) :
    WalkO q loose XP YP l.row.toRowW d [] (fun f vs => PySem.call f vs) := by
  intro w s₀ s₁ mg mb G Y fa o pm cd doc dV kV ho hd hcd hD hmg hg args vals as hpre hlay hrd hwl hlo
  obtain rfl : dV = .none := Dflts.none hD hdf
  obtain rfl : kV = .none := Dflts.noKw hD
  obtain ⟨a, vs, ns, rfl, rfl, hobj, hints, hlen⟩ := script_of hn hpre hwl
  refine enter_call (codeAny_mono (call w s₀ s₁ mg mb fa o pm cd doc a vs ns G Y ho (fd_plain hd) hcd hmg hobj hints hlen hg) fun r s' hq => ?_)
  obtain ⟨rfl, h2, h3, h4⟩ := hq
  exact ⟨.inl ⟨.bool true, .bool true, [], rfl, fun _ => rfl, .bool true, post_true l _, fun _ => ⟨List.Pairwise.nil, fun _ hm => (nomatch hm)⟩⟩, h2, h3, h4⟩
section
variable {prog : Program} {w : World} {A : Around} {E : Value → Shared → Prop} {s : Shared} {K : Frag}
end
end Att
namespace L2
open PySem PySem.Spec PyProof.Rows
theorem vals_ints : ∀ {vs : List Value} {ns : List Int}, IntsAre vs ns → Vals (ns.map V.int) vs
  | _, _, .nil => .nil
  | _, _, .cons n t h => .cons ⟨t, rfl⟩ (vals_ints h)
def Only (H : Hp) : Prop := ∀ b, H b = none ∨ ∃ o xs, H b = some (.frz o (.lst xs))
theorem law_call {P : Program} {w : World} {K : PySem.W.Frag} {mg mb : Str → Option Value} {CX : CXT} {k : Nat} {fa a : Addr} {fd : FuncData} {x : Str} {sp : Sp} {s₁ : Shared} {vs : List Value} {ns : List Int}
    (KX : K.In s₁.heap) (hns : s₁.heap.Ns mainGlobals mg) (hb : s₁.heap.Ns builtinsNs mb) (hbb : ∀ x : Str, x ≠ "__name__" → mb x = bootBuiltins x) (hlim : s₁.heap.NoLimit) (hg : s₁.gens = #[])
    (ha : s₁.heap.get? a = some { cls := .type "list", data := .seq vs.toArray }) (hi : IntsAre vs ns) (hl : ns.length ≤ sizeLine) (hr : Room k callerA)
    (F : ∀ base : Heap, K.In base → base.Ns mainGlobals mg → FnOk P w K mg base CX k fa fd [x] sp) (hbind : ∀ (s : Shared) (u : Value), BindsTo s fd ⟨[u], []⟩ [(x, u)])
    (hsp : ∀ H : Hp, Only H → SqL K H a (ns.map V.int) → sp [.ref a] H (fun v _ => v = .bl true) fun _ _ _ => False)
    (hCX : ∀ H e s', CX [] H s₁ (fun _ _ _ => False) e s' → False) :
    codeAny (model P w) callerA (.call (.ref fa) ⟨[.ref a], []⟩) (fun r s' => r = .ok (.ret (.bool true)) ∧ OldK s₁.heap s'.heap ∧ s'.os = s₁.os ∧ AllBare s'.gens) s₁ := by
  have rv := vals_ints hi
  have lenV := hi.length
  have core : ∀ H : Hp, Only H → SqL K H a (ns.map V.int) → HOk P w H s₁.heap → (∀ b, H b ≠ none → b = a) → (H a ≠ none → K.lookup a = none) →
      codeAny (model P w) callerA (.call (.ref fa) ⟨[.ref a], []⟩) (fun r s' => r = .ok (.ret (.bool true)) ∧ OldK s₁.heap s'.heap ∧ s'.os = s₁.os ∧ AllBare s'.gens) s₁ := by
    intro H hO hS hok hA hK
    have base_of : ∀ {b : Addr} {o : Obj}, s₁.heap.get? b = some o → H b = none → (hidT s₁.heap H).get? b = some o := fun e n => hidT_get e n
    have noA : ∀ {b : Addr} {o : Obj} {es : Array DictEntry} {ep : Nat}, s₁.heap.get? b = some o → o.data = .dict es ep → H b = none := fun {b o es ep} e d => by
      cases q : H b with
      | none => rfl
      | some u =>
        have e' : b = a := hA b (by rw [q]; simp)
        subst e'
        rw [ha] at e; cases e
        have d' : Data.seq vs.toArray _ = Data.dict es ep := d
        cases d'
    have nsK : ∀ {b : Addr} {m : Str → Option Value}, s₁.heap.Ns b m → (hidT s₁.heap H).Ns b m := fun {b m} ⟨o, es, ep, e, d, r⟩ => ⟨o, es, ep, base_of e (noA e d), d, r⟩
    have hKb : K.In (hidT s₁.heap H) := fun b o e => base_of (KX b o e) (by
      cases q : H b with
      | none => rfl
      | some u =>
        have e' : b = a := hA b (by rw [q]; simp)
        subst e'
        rw [hK (by rw [q]; simp)] at e; cases e)
    have hM : Mod K mg (hidT s₁.heap H) := ⟨hKb, nsK hns, ⟨mb, nsK hb, hbb⟩, let ⟨mc, h1, h2⟩ := hlim; ⟨mc, nsK h1, h2⟩⟩
    have e0 : Env0 P w K mg (hidT s₁.heap H) callerA [] s₁ H := ⟨rfl, hM, fun b o e => of_hidT e, Nat.le_of_eq (hidT_size _ _), trivial, fun b hb => absurd (show b ∈ ([] : List Addr) from hb) (by simp), hok, .of_eq hg⟩
    refine codeAny_mono ((F _ hKb (nsK hns)).run callerA [] s₁ H ⟨[.ref a], []⟩ [.ref a] [.ref a] _ _ hr e0 (hbind s₁ (.ref a)) (.cons rfl .nil) (hsp H hO hS)) fun r s' h => ?_
    cases r with
    | error e => exact (hCX H e s' h).elim
    | ok fl =>
      cases fl with
      | next => exact False.elim h
      | brk => exact False.elim h
      | cont => exact False.elim h
      | ret u =>
        obtain ⟨v, H', os, bare, un, hok', r', q⟩ := h
        have q' : v = .bl true := q
        subst q'
        obtain rfl : u = Value.bool true := r'
        refine ⟨rfl, OldK.of_keep fun b o e => ?_, os, bare⟩
        cases q : H b with
        | none => exact un.keep b o e q (by intro z; exact absurd (show b ∈ ([] : List Addr) from z) (by simp)) (by simp)
        | some u =>
          rcases hO b with z | ⟨ob, xs, z⟩
          · rw [q] at z; cases z
          · have z2 := un.frzs b ob _ z
            obtain ⟨e1, _⟩ := hok b _ z
            obtain ⟨e2, _⟩ := hok' b _ z2
            rw [e] at e1; cases e1
            exact e2
  cases hk : K.lookup a with
  | some o =>
    have e := KX a o hk
    rw [ha] at e
    cases e
    refine core (fun _ => none) (fun _ => .inl rfl) (.inr ⟨_, vs.toArray, _, hk, rfl, rfl, rfl, by rw [List.size_toArray, lenV]; exact hl, by simpa using rv⟩) (fun b u z => by have z' : (none : Option HO) = some u := z; cases z') (fun b z => absurd rfl z) fun z => absurd rfl z
  | none =>
    refine core (fun b => if b = a then some (.frz { cls := .type "list", data := .seq vs.toArray } (.lst (ns.map V.int))) else none) (fun b => ?_) (.inl (.inr ⟨{ cls := .type "list", data := .seq vs.toArray }, if_pos rfl⟩)) (fun b u z => ?_) (fun b z => ?_) fun _ => hk
    · by_cases hb : b = a
      · exact .inr ⟨_, _, if_pos hb⟩
      · exact .inl (if_neg hb)
    · by_cases hb : b = a
      · have z' := (if_pos hb).symm.trans z
        cases z'
        subst hb
        exact ⟨ha, by rw [List.length_map]; exact hl, vs, _, rv, ha⟩
      · have z' := (if_neg hb).symm.trans z
        cases z'
    · by_cases hb : b = a
      · exact hb
      · exact absurd (if_neg hb) z
end L2
namespace L2
open PySem PySem.Spec PyProof.Rows
theorem walk_of {l : PySem.W.OpenLaw} {n k : Nat} {q : Program} {loose : List Str} {XP : (Str → Option Value) → Heap → Prop} {YP : World → Heap → Prop} {d : DefRec} {K : Params → PySem.W.Frag} {CX : World → CXT} {sp : World → Sp} {x : Str}
    (hn : l.most = some n) (hn2 : n ≤ sizeLine) (hdf : d.params.defaults = []) (hr : Room k callerA)
    (hY : ∀ (w : World) (h : Heap), YP w h → (K w.params).In h)
    (F : ∀ (w : World) (mg : Str → Option Value) (fa : Addr) (h : Heap), (K w.params).In h → h.Ns mainGlobals mg → mg d.name = some (.ref fa) →
      ∃ fd : FuncData, (∀ (s : Shared) (u : Value), BindsTo s fd ⟨[u], []⟩ [(x, u)]) ∧
        ∀ base : Heap, (K w.params).In base → base.Ns mainGlobals mg → FnOk l.prog w (K w.params) mg base (CX w) k fa fd [x] (sp w))
    (hsp : ∀ (w : World) (H : Hp) (a : Addr) (ns : List Int), ns.length ≤ n → Only H → SqL (K w.params) H a (ns.map V.int) → sp w [.ref a] H (fun v _ => v = .bl true) fun _ _ _ => False)
    (hCX : ∀ (w : World) (H : Hp) (s : Shared) (e : Value) (s' : Shared), CX w [] H s (fun _ _ _ => False) e s' → False) :
    PySem.W.WalkO q loose XP YP l.row.toRowW d [] (fun f vs => PySem.call f vs) := by
  refine Att.attach_call hn hdf fun w s₀ s₁ mg mb fa o pm cd doc a vs ns G Y ho hd hcd hmg hobj hints hlen hg => ?_
  have KX := hY w _ Y
  obtain ⟨fd, hb, hF⟩ := F w mg fa _ KX G.T.g hmg
  exact law_call KX G.T.g G.T.b G.T.builtins G.T.nolimit hg hobj hints (Nat.le_trans hlen hn2) hr hF hb (fun H hO hS => hsp w H a ns hlen hO hS) fun H e s' => hCX w H s₁ e s'
end L2
namespace L2
open PySem PySem.Spec PyProof.Rows
def defArgs (s : Stmt) : Arguments := match s with
  | .FunctionDef _ a _ _ _ _ _ _ _ _ => a
  | _ => { posonlyargs := [], args := [], vararg := none, kwonlyargs := [], kw_defaults := [], kwarg := none, defaults := [] }
def defBody (s : Stmt) : List Stmt := match s with
  | .FunctionDef _ _ b _ _ _ _ _ _ _ => b
  | _ => []
def defScope (s : Stmt) : Scope := match s with
  | .FunctionDef _ _ _ _ _ _ sc _ _ _ => sc
  | _ => { kind := .function, names := [], isGenerator := false, isCoroutine := false }
abbrev CX0 : CXT := fun _ _ _ _ _ _ => False
structure Fun (K : PySem.W.Frag) (x qual : Str) (st : Stmt) (f : Addr) (fd : FuncData) : Prop where
  ex : ∃ (oc : Value) (od : Option Addr) (kV doc pm : Value) (an : Option Addr) (cdv ct : Value) (osl : Array (Option Value)),
    fd = PySem.W.fnOf x qual (defArgs st) (defBody st) (defScope st) .none kV doc pm an cdv ct ∧ K.lookup f = some ⟨oc, od, .func fd, osl⟩ ∧ PySem.W.codeIn K cdv qual = true
  kp : PySem.W.keepIn K (.ref f) = true
section
variable {P : Program} {w : World} {K : PySem.W.Frag} {mg : Str → Option Value} {base : Heap}
theorem Fun.ok {x qual : Str} {st : Stmt} {f : Addr} {fd : FuncData} {N ps : List Str} {k : Nat} {sp : Sp} (F : Fun K x qual st f fd) (S : FnScope N ps (defScope st)) (len : ∀ vs H Q E, sp vs H Q E → vs.length = ps.length)
    (hbody : ∀ (cdv : Value) (A : Around) (outer : List Env) (s : Shared) (H : Hp) (vs : List V) (Q : VK) (E : XK), Room k (A.deeper (envOfC qual (defScope st) s.heap.objs.size f cdv)) → sp vs H Q E →
      ∃ t, PSs (cxOf CX0 P w K mg base N qual (defScope st) f cdv A outer s H E).nox (defBody st) t ∧ t { nx := fun _ H' => Q .non H', rt := Q } (start N vs) H) : FnOk P w K mg base CX0 (k + 1) f fd ps sp := by
  obtain ⟨oc, od, kV, doc, pm, an, cdv, ct, osl, rfl, lk, hcd⟩ := F.ex
  refine fn_of lk hcd S len fun A outer s H vs Q E hr hsp => ?_
  obtain ⟨t, h, q⟩ := hbody cdv A outer s H vs Q E hr hsp
  exact ⟨t, h.nox, q⟩
theorem Fun.binds {x qual : Str} {st : Stmt} {f : Addr} {fd : FuncData} {ps : List Str} (F : Fun K x qual st f fd)
    (h : ∀ (kV doc pm : Value) (an : Option Addr) (cdv ct : Value) (us : List Value), us.length = ps.length → bindArgs (PySem.W.fnOf x qual (defArgs st) (defBody st) (defScope st) .none kV doc pm an cdv ct) ⟨us, []⟩ = pure (ps.zip us)) : Binds K fd ps [] := by
  obtain ⟨oc, od, kV, doc, pm, an, cdv, ct, osl, rfl, lk, hcd⟩ := F.ex
  exact .all (h kV doc pm an cdv ct)
theorem fun_mk {x qual : Str} {st : Stmt} {f : Addr} {oc : Value} {od an : Option Addr} {osl : Array (Option Value)} {kV doc pm cdv ct : Value} (l : K.lookup f = some ⟨oc, od, .func (PySem.W.fnOf x qual (defArgs st) (defBody st) (defScope st) .none kV doc pm an cdv ct), osl⟩)
    (c : PySem.W.codeIn K cdv qual = true) (k : PySem.W.keepIn K (.ref f) = true) : Fun K x qual st f (PySem.W.fnOf x qual (defArgs st) (defBody st) (defScope st) .none kV doc pm an cdv ct) := ⟨⟨oc, od, kV, doc, pm, an, cdv, ct, osl, rfl, l, c⟩, k⟩
end
section
variable {X : Cx}
theorem call_lenD : CallR X (.builtin "len") (fun xs H Q => ∃ a kvs, xs = [V.ref a] ∧ H a = some (.dK kvs) ∧ Q (.int kvs.length) H) := by
  intro pins s σ H xs us Q I r h
  obtain ⟨a, kvs, rfl, ha, q⟩ := h
  obtain ⟨u, rfl, ru⟩ := vals1 r
  cases ru
  exact d_len I (.inl ha) fun t s' I' => ⟨.int kvs.length, H, I', ⟨t, rfl⟩, q⟩
end
def Same (H H' : Hp) : Prop := ∀ b o, H b = some o → H' b = some o
theorem Same.refl (H : Hp) : Same H H := fun _ _ h => h
theorem Same.trans {H H1 H2 : Hp} (a : Same H H1) (b : Same H1 H2) : Same H H2 := fun c o h => b c o (a c o h)
theorem Same.free {H H' : Hp} (e : Same H H') {l : Addr} (h : H' l = Option.none) : H l = Option.none := by
  cases q : H l with
  | none => rfl
  | some o =>
    rw [e l o q] at h
    cases h
theorem Same.seq {K : PySem.W.Frag} {H H' : Hp} {a : Addr} {xs : List V} (e : Same H H') (h : SqL K H a xs) : SqL K H' a xs := by
  rcases h with (h | ⟨o, h⟩) | h
  · exact .inl (.inl (e _ _ h))
  · exact .inl (.inr ⟨o, e _ _ h⟩)
  · exact .inr h
section
variable {κ : Type} [DecidableEq κ]
end
end L2
set_option maxRecDepth 100000
set_option maxHeartbeats 4000000
namespace L2
open PySem PySem.Spec PyProof.Rows
def Flies (fr : List Env) (H : Hp) (old : Addr → Prop) (e : Addr) (cls : Value) (h : Heap) : Prop :=
  ∃ (B : Heap) (a0 : Value), Heap.FlyingW B fr e cls a0 h ∧ ∀ b o, h.get? b = some o → b ∉ frs fr → (H b ≠ none ∨ old b) → B.get? b = some o
def cxx (P : Program) (w : World) : CXT := fun outer H s E ev s' => ∃ (e : Addr) (cls : Value) (H' : Hp), ev = .ref e ∧ s'.os = s.os ∧ AllBare s'.gens ∧
  Un (frs outer) [] H H' s.heap s'.heap ∧ HOk P w H' s'.heap ∧ Flies outer H' (fun b => ∃ o, s.heap.get? b = some o) e cls s'.heap ∧ E cls none H'
theorem ObjOk.there {P : Program} {w : World} {H : Hp} {h : Heap} {a : Addr} {o : HO} (x : ObjOk P w H h a o) : ∃ ob, h.get? a = some ob := by
  cases o with
  | lst xs => obtain ⟨_, _, _, _, e⟩ := x; exact ⟨_, e⟩
  | tup xs => obtain ⟨_, _, _, _, e, _⟩ := x; exact ⟨_, e⟩
  | dK kvs => obtain ⟨_, _, _, _, o, _, _, e, _⟩ := x; exact ⟨_, e⟩
  | dT kvs => obtain ⟨_, _, _, _, o, _, _, e, _⟩ := x; exact ⟨_, e⟩
  | set S n => obtain ⟨o, _, _, _, e, _⟩ := x; exact ⟨_, e⟩
  | ins C dx fs => obtain ⟨_, _, _, e, _⟩ := x; exact ⟨_, e⟩
  | own y => obtain ⟨_, e⟩ := x; exact ⟨_, e⟩
  | xd fs => obtain ⟨_, ⟨_, _, _, e, _⟩, _⟩ := x; exact ⟨_, e⟩
  | rng lo hi => obtain ⟨_, _, _, e⟩ := x; exact ⟨_, e⟩
  | frz ob u => obtain ⟨e, _⟩ := x; exact ⟨_, e⟩
  | tbl ps => exact ⟨_, (show h.get? a = some _ from x)⟩
  | met f y => exact ⟨_, (show h.get? a = some _ from x)⟩
  | ext φ => obtain ⟨_, ⟨_, e⟩, _⟩ := x; exact ⟨_, e⟩
section
variable {X : Cx} {pins : List (Addr × Obj)} {σ : St} {H : Hp} {s : Shared}
theorem Inv.trkNo (I : Inv X pins σ H s) {b : Addr} {u : HO} (q : H b = some u) : b ∉ frs X.stack := fun m => by
  have z := I.stkFree b m
  rw [q] at z; cases z
theorem Inv.oldNo (I : Inv X pins σ H s) (hst : X.stack = X.env :: X.outer) (hf : X.env.frame = some X.env.locals) {b : Addr} {o : Obj} (q : X.s₀.heap.get? b = some o) (n : b ∉ X.fs) : b ∉ frs X.stack := fun m => by
  rcases List.mem_cons.mp (I.stkSub b m) with z | z
  · exact absurd z (Nat.ne_of_lt (Nat.lt_of_lt_of_le (Heap.lt_size q) I.ok.above))
  · exact n z
theorem end_fly {h' B : Heap} {e : Addr} {cls a0 : Value} {E : XK} (I : Inv X pins σ H s) (hst : X.stack = X.env :: X.outer) (hf : X.env.frame = some X.env.locals) (hex : X.ex = [])
    (fl : Heap.FlyingW B X.outer e cls a0 h') (cov : ∀ b o, s.heap.get? b = some o → b ∉ frs X.stack → (H b ≠ none ∨ ∃ o, X.s₀.heap.get? b = some o) → B.get? b = some o)
    (up : s.heap.UpToSlots h') (hE : E cls none H) : cxx X.prog X.w X.outer X.H₀ X.s₀ E (.ref e) { s with heap := h' } := by
  have nex : ∀ b : Addr, b ∉ X.ex := fun b z => by rw [hex] at z; cases z
  have trkd : ∀ b u v, H b = some u → s.heap.get? b = some v → h'.get? b = some v := fun b u v q r => fl.1 b v (cov b v r (I.trkNo q) (.inl (by rw [q]; simp)))
  have oldd : ∀ b o v, X.s₀.heap.get? b = some o → b ∉ X.fs → s.heap.get? b = some v → h'.get? b = some v := fun b o v q n r => fl.1 b v (cov b v r (I.oldNo hst hf q n) (.inr ⟨o, q⟩))
  have frms : ∀ b o, b ∈ X.fs → s.heap.get? b = some o → ∃ sl, h'.get? b = some { o with slots := sl } := fun b o hb q => by
    obtain ⟨_, o2, ho2, nf⟩ := I.funs.mem hb
    rw [q] at ho2; cases ho2
    exact up b o q nf
  refine ⟨e, cls, H, rfl, I.os, I.bare, ⟨fun b o q n hb hx => ?_, fun b o q n hb hx => ?_, fun b o q n hx => I.base.free b o q n (nex b), fun b o q hx => ?_, I.base.tups, I.base.frzs, I.base.tbls⟩, fun b u q => ?_, ⟨B, a0, fl, fun b o q n hor => ?_⟩, hE⟩
  · exact oldd b o o q hb (I.base.keep b o q n hb (nex b))
  · obtain ⟨sl, e1⟩ := I.base.slot b o q n hb (nex b)
    obtain ⟨sl', e2⟩ := frms b _ hb e1
    exact ⟨sl', e2⟩
  · obtain ⟨o1, e1⟩ := I.base.there b o q (nex b)
    by_cases hb : b ∈ X.fs
    · obtain ⟨sl, e2⟩ := frms b o1 hb e1
      exact ⟨_, e2⟩
    · exact ⟨o1, oldd b o o1 q hb e1⟩
  · refine (I.hok b u q).stay (fun c v hc r => ?_) (fun _ z => z) fun _ _ z => z
    rcases hc with z | z
    · exact trkd c u v (by rw [z]; exact q) r
    · exact trkd c _ v z r
  · have q : h'.get? b = some o := q
    rcases hor with hb | ⟨o0, e0⟩
    · obtain ⟨u, hu⟩ := Option.ne_none_iff_exists'.mp hb
      obtain ⟨o1, e1⟩ := (I.hok b u hu).there
      have := trkd b u o1 hu e1
      rw [q] at this; cases this
      exact cov b _ e1 (I.trkNo hu) (.inl hb)
    · obtain ⟨o1, e1⟩ := I.base.there b o0 e0 (nex b)
      have := oldd b o0 o1 e0 n e1
      rw [q] at this; cases this
      exact cov b _ e1 (I.oldNo hst hf e0 n) (.inr ⟨o0, e0⟩)
end
section
variable {P : Program} {w : World} {K : PySem.W.Frag} {mg : Str → Option Value} {base : Heap} {N : List Str} {qual : Str} {scope : Scope} {f : Addr} {cd : Value} {A : Around} {outer : List Env} {s : Shared} {H : Hp} {E : XK}
theorem passes_cxx : Passes (cxx P w) (cxOf (cxx P w) P w K mg base N qual scope f cd A outer s H E) E := by
  intro pins σ H1 s1 ev s' I hq
  obtain ⟨e, cls, H', rfl, os, bare, un, hok, ⟨B, a0, fl, cov⟩, hE⟩ := hq
  have I' := I.call' (ch := []) os un hok bare (fun b z => nomatch z)
  have hfr : (A.deeper (envOfC qual scope s.heap.objs.size f cd)).frames = some (envOfC qual scope s.heap.objs.size f cd :: outer) := I.ok.frames
  refine wpAny_leaves_onW (L := s.heap.objs.size) hfr rfl fl fun h' fl' up => ?_
  exact end_fly (E := E) I' rfl rfl rfl fl' (fun b o e1 e2 e3 => cov b o e1 e2 (by
    rcases e3 with z | ⟨o0, z⟩
    · exact .inl z
    · exact .inr (I.base.there b o0 z (fun q => nomatch q)))) up hE
theorem passes_no {X : Cx} : Passes (cxx P w) X (fun _ _ _ => False) := fun _ _ _ _ _ _ _ ⟨_, _, _, _, _, _, _, _, _, z⟩ => z.elim
theorem cxx_no {outer : List Env} {H : Hp} {s : Shared} {e : Value} {s' : Shared} (h : cxx P w outer H s (fun _ _ _ => False) e s') : False := let ⟨_, _, _, _, _, _, _, _, _, z⟩ := h; z
end
structure ErrCls (K : PySem.W.Frag) (mg : Str → Option Value) (x : Str) (C : Addr) (bm : List Value) (newId : String) : Prop where
  gl : mg x = some (.ref C)
  own : ∀ h : Heap, K.In h → h.Ns mainGlobals mg → OwnCls x C bm newId mg h
end L2
set_option maxRecDepth 100000
set_option maxHeartbeats 4000000
namespace L2
open PySem PySem.Spec PyProof.Rows
structure ErrC (K : PySem.W.Frag) (x : Str) (C : Addr) : Prop where
  ns : PySem.W.nsIn K mainGlobals x = some (some (.ref C))
  ex : PySem.W.excIn K C [.type "ValueError", .type "Exception", .type "BaseException", .type "object"] "ValueError.__new__" = true
theorem ErrC.mg {K : PySem.W.Frag} {x : Str} {C : Addr} {h : Heap} {mg : Str → Option Value} (e : ErrC K x C) (X : K.In h) (G : h.Ns mainGlobals mg) : mg x = some (.ref C) := PySem.W.mg_of X G e.ns
section
variable {X : Cx} {pins : List (Addr × Obj)} {σ : St} {H : Hp} {s : Shared}
end
abbrev Cx.within (X : Cx) (e : Addr) (oe : Obj) : Cx := { X with A := X.A.mark (some (.ref e)), calm := false, pn := X.pn ++ [(e, oe)], xe := fun _ _ => False }
section
variable {X : Cx} {pins : List (Addr × Obj)} {σ : St} {H : Hp} {s : Shared} {e : Addr} {oe : Obj}
theorem Cx.Ok.within (ok : X.Ok) : (X.within e oe).Ok :=
  ⟨ok.mod, ok.kind, ok.glob, ok.blt, ok.above, ok.inj, ok.has, ok.cab, (fun z => by cases z), ok.frames, ok.stk, ok.exf, ok.bs, ok.bsz, ok.noex, ok.exfs, ok.funs, ok.frf⟩
theorem Cx.Ok.without (ok : (X.within e oe).Ok) (hd : X.calm = true → X.A.handled = none) : X.Ok :=
  ⟨ok.mod, ok.kind, ok.glob, ok.blt, ok.above, ok.inj, ok.has, ok.cab, hd, ok.frames, ok.stk, ok.exf, ok.bs, ok.bsz, ok.noex, ok.exfs, ok.funs, ok.frf⟩
theorem Inv.within (I : Inv X pins σ H s) (h1 : s.heap.get? e = some oe) (h2 : H e = none) (h3 : e ≠ X.env.locals) (h4 : e ∉ X.fs) (h5 : ∀ v, oe.data ≠ .cell v) : Inv (X.within e oe) pins σ H s :=
  ⟨I.ok.within, I.os, I.bare, I.base, I.loc, I.cell, I.free, I.freeC, fun p hp => by
    rcases List.mem_append.mp hp with z | z
    · rcases List.mem_append.mp z with z | z
      · exact I.pin p (List.mem_append_left _ z)
      · obtain rfl := List.mem_singleton.mp z
        exact ⟨h1, h2, h3, h4, h5⟩
    · exact I.pin p (List.mem_append_right _ z), I.hok, I.len⟩
theorem Inv.without (I : Inv (X.within e oe) pins σ H s) (hd : X.calm = true → X.A.handled = none) : Inv X pins σ H s :=
  ⟨I.ok.without hd, I.os, I.bare, I.base, I.loc, I.cell, I.free, I.freeC, fun p hp => by
    rcases List.mem_append.mp hp with z | z
    · exact I.pin p (List.mem_append_left _ (List.mem_append_left _ z))
    · exact I.pin p (List.mem_append_right _ z), I.hok, I.len⟩
theorem SP.without {D : Ends} {f : Flow} (h : SP (X.within e oe) pins D f s) (hd : X.calm = true → X.A.handled = none) : SP X pins D f s := by
  cases f with
  | next => obtain ⟨σ', H', I, q⟩ := h; exact ⟨σ', H', I.without hd, q⟩
  | brk => obtain ⟨σ', H', I, q⟩ := h; exact ⟨σ', H', I.without hd, q⟩
  | cont => obtain ⟨σ', H', I, q⟩ := h; exact ⟨σ', H', I.without hd, q⟩
  | ret u => obtain ⟨v, σ', H', I, r, q⟩ := h; exact ⟨v, σ', H', I.without hd, r, q⟩
end
end L2
set_option maxRecDepth 100000
set_option maxHeartbeats 4000000
namespace L2
open PySem PySem.Spec PyProof.Rows
structure ErrI (K : PySem.W.Frag) (C : Addr) : Prop where
  ga : PySem.W.findIn K (.ref C) "__getattribute__" = some (some (.builtin "BaseException.__getattribute__"))
  gt : PySem.W.findIn K (.ref C) "__getattr__" = some none
  cl : PySem.W.findIn K (.ref C) "__class__" = some (some (.builtin "object.__class__"))
  sp : PySem.W.specialIn K (.builtin "object.__class__") "__get__" = some (some (.builtin "getset_descriptor.__get__"))
  tk : PySem.W.takesIn K (.builtin "object.__class__") = some true
  mo : PySem.W.mroIn K C (.type "object") = some true
  mb : PySem.W.mroIn K C (.type "BaseException") = some true
  it : (PySem.W.clsIn K C).isSome = true
section
open PySem.W Builtin Builtin.ObjectAttr Builtin.Getset_descriptor
variable {prog : Program} {w : World} {A : Around} {E : Value → Shared → Prop} {s : Shared} {K : Frag} {e C : Addr}
end
end L2
set_option maxRecDepth 100000
set_option maxHeartbeats 4000000
namespace L2
open PySem PySem.Spec PyProof.Rows
section
open PySem.W
variable {K : Frag} {e C : Addr}
end
inductive IsTy (K : PySem.W.Frag) (pn : List (Addr × Obj)) (H : Hp) : V → Value → Prop where
  | of {x : V} {t : Value} (h : TyOf K H x t) : IsTy K pn H x t
  | frd {a : Addr} {o : Obj} {kvs : List (Key × V)} (e : H a = some (.frz o (.dK kvs))) : IsTy K pn H (.ref a) (.type "dict")
  | exc {a C : Addr} {oe : Obj} (hm : (a, oe) ∈ pn) (hc : oe.cls = .ref C) (c : ErrI K C) : IsTy K pn H (.ref a) (.ref C)
inductive ClV : V → Value → Prop where
  | ref (a : Addr) : ClV (.ref a) (.ref a)
  | ty (n : String) : ClV (.ty n) (.type n)
end L2
set_option maxRecDepth 100000
set_option maxHeartbeats 4000000
namespace L2
open PySem PySem.Spec PyProof.Rows
section
variable {X : Cx} {pins : List (Addr × Obj)} {σ : St} {H : Hp} {s : Shared}
end
end L2
set_option maxRecDepth 100000
set_option maxHeartbeats 4000000
namespace L2
open PySem PySem.Spec PyProof.Rows
def closL (cells : List (Str × Addr)) : List (Str × NameKind) → List (Str × Addr) → List (Str × Addr)
  | [], acc => acc
  | (n, k) :: r, acc => closL cells r (if (k == .free) = true then (n, (cells.lookup n).getD 0) :: acc else acc)
theorem closureFor_of {scope : Scope} {env : Env} (h : ∀ y ∈ scope.names, y.2 = .free → ∃ c, env.cells.lookup y.1 = some c) : closureFor scope env = pure (closL env.cells scope.names []) := by
  have go : ∀ (l : List (Str × NameKind)) (acc : List (Str × Addr)), (∀ y ∈ l, y.2 = .free → ∃ c, env.cells.lookup y.1 = some c) →
      (forIn l acc fun (x : Str × NameKind) (r : List (Str × Addr)) => (if (x.2 == .free) = true then (do let a ← cellOf env x.1; pure (ForInStep.yield ((x.1, a) :: r))) else pure (ForInStep.yield r) : Sem (ForInStep (List (Str × Addr))))) = pure (closL env.cells l acc) := by
    intro l
    induction l with
    | nil => intro acc _; rfl
    | cons x r ih =>
      intro acc hx
      obtain ⟨n, k⟩ := x
      rw [List.forIn_cons]
      have hr := fun acc => ih acc fun y hy => hx y (List.mem_cons_of_mem _ hy)
      by_cases hk : (k == NameKind.free) = true
      · obtain ⟨c, hc⟩ := hx (n, k) List.mem_cons_self (by simpa using hk)
        have hc' : env.cells.lookup n = some c := hc
        have e1 : cellOf env n = pure c := by unfold cellOf; rw [hc']
        simp only [hk, if_true, e1, pure_bind]
        unfold closL
        rw [if_pos hk, hc']
        exact hr _
      · simp only [hk, Bool.false_eq_true, if_false, pure_bind]
        unfold closL
        rw [if_neg hk]
        exact hr _
  unfold closureFor
  have e := go scope.names [] h
  simp only [bind_pure_comp, map_pure] at e ⊢
  first | exact e | (simp only [e, bind_pure]; done) | (rw [show (forIn scope.names ([] : List (Str × Addr)) _) = _ from e]; rfl)
theorem closL_lookup {cells : List (Str × Addr)} {x : Str} {c : Addr} : ∀ {names : List (Str × NameKind)} {acc : List (Str × Addr)}, (closL cells names acc).lookup x = some c → acc.lookup x = some c ∨ ((x, NameKind.free) ∈ names ∧ c = (cells.lookup x).getD 0)
  | [], acc, h => .inl h
  | (n, k) :: r, acc, h => by
    unfold closL at h
    rcases closL_lookup h with z | ⟨z, e⟩
    · by_cases hk : (k == NameKind.free) = true
      · rw [if_pos hk] at z
        by_cases hx : (x == n) = true
        · rw [List.lookup_cons, hx] at z
          have e1 : x = n := by simpa using hx
          have e2 : k = NameKind.free := by simpa using hk
          subst e1 e2
          exact .inr ⟨List.mem_cons_self, (Option.some.inj z).symm⟩
        · have hx' : (x == n) = false := by simpa using hx
          rw [List.lookup_cons, hx'] at z
          exact .inl z
      · rw [if_neg hk] at z
        exact .inl z
    · exact .inr ⟨List.mem_cons_of_mem _ z, e⟩
theorem closL_has {cells : List (Str × Addr)} {x : Str} : ∀ {names : List (Str × NameKind)} {acc : List (Str × Addr)}, ((x, NameKind.free) ∈ names ∨ ∃ c, acc.lookup x = some c) → ∃ c, (closL cells names acc).lookup x = some c
  | [], acc, h => by
    rcases h with h | h
    · cases h
    · exact h
  | (n, k) :: r, acc, h => by
    unfold closL
    refine closL_has ?_
    rcases h with h | ⟨c, h⟩
    · rcases List.mem_cons.mp h with z | z
      · cases z
        refine .inr ⟨(cells.lookup x).getD 0, ?_⟩
        rw [if_pos (by decide), List.lookup_cons]
        simp only [beq_self_eq_true]
      · exact .inl z
    · by_cases hk : (k == NameKind.free) = true
      · rw [if_pos hk]
        by_cases hx : (x == n) = true
        · exact .inr ⟨_, by rw [List.lookup_cons, hx]⟩
        · have hx' : (x == n) = false := by simpa using hx
          exact .inr ⟨c, by rw [List.lookup_cons, hx']; exact h⟩
      · rw [if_neg hk]
        exact .inr ⟨c, h⟩
theorem lookup_relabel_of {env : Env} {x : Str} {k : NameKind} : ∀ {names : List (Str × NameKind)}, (names.map fun (n, k) => if (k == NameKind.free && env.scope.kind == .function && env.kindOf n == some .cell) then (n, NameKind.cell) else (n, k)).lookup x = some k →
    ∃ k', names.lookup x = some k' ∧ (k = k' ∨ (k' = .free ∧ k = .cell))
  | [], h => by cases h
  | (n, j) :: r, h => by
    rw [List.map_cons] at h
    by_cases hx : (x == n) = true
    · refine ⟨j, by rw [List.lookup_cons, hx], ?_⟩
      dsimp only at h
      by_cases hc : (j == NameKind.free && env.scope.kind == .function && env.kindOf n == some .cell) = true
      · rw [if_pos hc, List.lookup_cons, hx] at h
        simp only [Bool.and_eq_true] at hc
        exact .inr ⟨by simpa using hc.1.1, (Option.some.inj h).symm⟩
      · rw [if_neg hc, List.lookup_cons, hx] at h
        exact .inl (Option.some.inj h).symm
    · have hx' : (x == n) = false := by simpa using hx
      have e : (r.map fun (n, k) => if (k == NameKind.free && env.scope.kind == .function && env.kindOf n == some .cell) then (n, NameKind.cell) else (n, k)).lookup x = some k := by
        dsimp only at h
        by_cases hc : (j == NameKind.free && env.scope.kind == .function && env.kindOf n == some .cell) = true
        · rw [if_pos hc, List.lookup_cons, hx'] at h; exact h
        · rw [if_neg hc, List.lookup_cons, hx'] at h; exact h
      obtain ⟨k', e1, e2⟩ := lookup_relabel_of e
      exact ⟨k', by rw [List.lookup_cons, hx']; exact e1, e2⟩
structure CompScope (X : Cx) (N' : List Str) (fr : List (Option Nat)) (scope : Scope) : Prop where
  kind : scope.kind = .function
  nocell : ∀ y ∈ scope.names, y.2 ≠ .cell
  loc : ∀ y ∈ scope.names, y.2 = .local → scope.names.lookup y.1 = some .local
  free : ∀ y ∈ scope.names, y.2 = .free → ∃ c, X.env.cells.lookup y.1 = some c
  len : fr.length = N'.length
  fre : ∀ (j i : Nat) (x : Str), fr[j]? = some (some i) → N'[j]? = some x → X.N[i]? = some x ∧ scope.names.lookup x = some .free ∧ (X.env.kindOf x = some .cell ∨ X.env.kindOf x = some .free)
def compSt (fr : List (Option Nat)) (σ : St) : St := fr.map fun o => o.bind fun i => (σ[i]?).join
def compCx (X : Cx) (scope : Scope) (N' : List Str) (s₃ : Shared) (H₃ : Hp) (fp : List Addr) (pins : List (Addr × Obj)) : Cx :=
  { X with N := N', s₀ := s₃, H₀ := H₃, env := compEnvC scope (closL X.env.cells scope.names []) s₃.heap.objs.size X.env, outer := X.stack, stack := X.stack, ex := fp, fn := fun _ => false, pn := X.pn ++ pins, xe := fun _ _ => False }
section
variable {X : Cx} {pins : List (Addr × Obj)} {σ : St} {H : Hp} {s : Shared} {N' : List Str} {fr : List (Option Nat)} {scope : Scope} {fp : List Addr}
theorem clos_cells (S : CompScope X N' fr scope) {x : Str} {c : Addr} (h : (closL X.env.cells scope.names []).lookup x = some c) : X.env.cells.lookup x = some c := by
  rcases closL_lookup h with z | ⟨z, e⟩
  · cases z
  · obtain ⟨c', hc⟩ := S.free _ z rfl
    have hc : X.env.cells.lookup x = some c' := hc
    rw [hc] at e
    rw [hc, e]; rfl
theorem comp_ok (I : Inv X pins σ H s) (S : CompScope X N' fr scope) (hf : ∀ b ∈ fp, FpOk X pins H b) (hlt : ∀ b ∈ fp, b < s.heap.objs.size) : (compCx X scope N' s H fp pins).Ok := by
  refine ⟨I.ok.mod, S.kind, I.ok.glob, I.ok.blt, Nat.le_refl _, fun x y c h1 h2 => I.ok.inj x y c (clos_cells S h1) (clos_cells S h2), fun x hx => ?_, (fun x c z => by cases z), I.ok.hd, I.ok.frames, .inl rfl, fun b hb => ⟨Nat.ne_of_lt (hlt b hb), fun x c h => (hf b hb).2.2.2.2.1 x c (clos_cells S h)⟩,
    I.bs, Nat.le_trans I.ok.bsz I.sz, fun b o e hb => ?_, fun b hb hm => ?_, I.stack, I.stkFree⟩
  · have hx : (relabel scope X.env).names.lookup x = some .cell ∨ (relabel scope X.env).names.lookup x = some .free := hx
    have key : scope.names.lookup x = some .free := by
      rcases hx with h | h
      · obtain ⟨k', e1, e2⟩ := lookup_relabel_of h
        rcases e2 with z | ⟨z, _⟩
        · exact absurd z.symm (S.nocell _ (PySem.mem_of_lookup e1))
        · rw [e1, z]
      · obtain ⟨k', e1, e2⟩ := lookup_relabel_of h
        rcases e2 with z | ⟨_, z⟩
        · rw [e1, ← z]
        · cases z
    exact closL_has (.inl (PySem.mem_of_lookup key))
  · rcases (hf b hb).2.2.2.1 with z | z
    · exact I.ok.noex b o e z
    · exact absurd (Nat.lt_of_lt_of_le (Heap.lt_size e) (Nat.le_trans I.ok.bsz z)) (Nat.lt_irrefl _)
  · rcases List.mem_cons.mp (I.stkSub b hm) with z | z
    · exact (hf b hb).2.1 z
    · exact (hf b hb).2.2.1 z
theorem comp_in {h' : Heap} {m : Str → Option Value} {tk : Nat} (I : Inv X pins σ H s) (S : CompScope X N' fr scope) (hf : ∀ b ∈ fp, FpOk X pins H b) (hlt : ∀ b ∈ fp, b < s.heap.objs.size) (hn : h'.Ns s.heap.objs.size m)
    (hk : ∀ b o, s.heap.get? b = some o → h'.get? b = some o) : Inv (compCx X scope N' s H fp pins) [] (compSt fr σ) H { s with heap := h', toks := tk } := by
  refine ⟨comp_ok I S hf hlt, rfl, I.bare, Un.kept hk, ⟨m, hn, fun j x v e1 e2 e3 => ?_⟩, fun x c h => ?_, I.hok.fresh (Nat.le_refl _), fun x c h => I.freeC x c (clos_cells S h), fun p hp => ?_, I.hok.kept hk, by unfold compSt; rw [List.length_map]; exact S.len⟩
  · have e1 : N'[j]? = some x := e1
    unfold compSt at e2
    rw [List.getElem?_map] at e2
    cases hj : fr[j]? with
    | none => rw [hj] at e2; cases e2
    | some o =>
      rw [hj] at e2
      cases o with
      | none => cases e2
      | some i =>
        have e2 : (σ[i]?).join = some v := Option.some.inj e2
        have e2' : σ[i]? = some (some v) := by
          cases hq : σ[i]? with
          | none => rw [hq] at e2; cases e2
          | some w => rw [hq] at e2; rw [show w = some v from e2]
        obtain ⟨n1, n2, n3⟩ := S.fre j i x hj e1
        obtain ⟨m0, hn0, hl⟩ := I.loc
        have hvis : Vis X.env.scope x := by
          rcases n3 with z | z
          · exact .inr (.inl z)
          · exact .inr (.inr z)
        obtain ⟨u, r, l⟩ := hl i x v n1 e2' hvis
        refine ⟨u, r, .inr ⟨?_, ?_⟩⟩
        · have hh : ∀ {names : List (Str × NameKind)}, names.lookup x = some .free → (names.map fun (n, k) => if (k == NameKind.free && X.env.scope.kind == .function && X.env.kindOf n == some .cell) then (n, NameKind.cell) else (n, k)).lookup x = some .cell ∨
              (names.map fun (n, k) => if (k == NameKind.free && X.env.scope.kind == .function && X.env.kindOf n == some .cell) then (n, NameKind.cell) else (n, k)).lookup x = some .free := by
            intro names
            induction names with
            | nil => intro z; cases z
            | cons y r ih =>
              obtain ⟨n, k⟩ := y
              intro z
              rw [List.map_cons]
              dsimp only
              by_cases hx : (x == n) = true
              · rw [List.lookup_cons, hx] at z
                by_cases hc : (k == NameKind.free && X.env.scope.kind == .function && X.env.kindOf n == some .cell) = true
                · rw [if_pos hc]; exact .inl (by rw [List.lookup_cons, hx])
                · rw [if_neg hc]; exact .inr (by rw [List.lookup_cons, hx]; exact z)
              · have hx' : (x == n) = false := by simpa using hx
                rw [List.lookup_cons, hx'] at z
                have := ih z
                by_cases hc : (k == NameKind.free && X.env.scope.kind == .function && X.env.kindOf n == some .cell) = true
                · rw [if_pos hc, List.lookup_cons, hx']; exact this
                · rw [if_neg hc, List.lookup_cons, hx']; exact this
          exact hh n2
        · rcases l with ⟨k, _⟩ | ⟨k, c, e, z⟩
          · rcases n3 with q | q
            · rw [q] at k; cases k
            · rw [q] at k; cases k
          · obtain ⟨c', hc'⟩ := closL_has (cells := X.env.cells) (x := x) (names := scope.names) (acc := []) (.inl (PySem.mem_of_lookup n2))
            have e' := clos_cells S hc'
            rw [e] at e'; cases e'
            obtain ⟨o, ho, hd⟩ := z
            exact ⟨c, hc', o, hk _ _ ho, hd⟩
  · obtain ⟨v, o, ho, hd⟩ := I.cell x c (clos_cells S h)
    exact ⟨v, o, hk _ _ ho, hd⟩
  · have hp : p ∈ (X.pn ++ pins) ++ [] := hp
    rw [List.append_nil] at hp
    obtain ⟨q, n, ne, nf, d⟩ := I.pin p hp
    refine ⟨hk _ _ q, n, Nat.ne_of_lt (Heap.lt_size q), fun hm => ?_, d⟩
    rcases List.mem_cons.mp (I.stkSub p.1 hm) with z | z
    · exact ne z
    · exact nf z
end
end L2
set_option maxRecDepth 100000
set_option maxHeartbeats 4000000
namespace L2
open PySem PySem.Spec PyProof.Rows
section
variable {X : Cx} {pins : List (Addr × Obj)} {σ τ : St} {H H₃ H5 : Hp} {s₃ s5 : Shared} {N' : List Str} {scope : Scope} {fp : List Addr}
theorem comp_out {h' : Heap} (I : Inv X pins σ H₃ s₃) (J : Inv (compCx X scope N' s₃ H₃ fp pins) [] τ H5 s5) (hf : ∀ b ∈ fp, FpOk X pins H₃ b) (hs : Heap.SameBut s₃.heap.objs.size s5.heap h') : Inv X pins σ H5 { s5 with heap := h' } := by
  have hb : ∀ b o, s₃.heap.get? b = some o → b ≠ s₃.heap.objs.size := fun b o q => Nat.ne_of_lt (Heap.lt_size q)
  have u : Un (frs X.stack) fp H₃ H5 s₃.heap s5.heap := J.base
  refine I.call' (s' := { s5 with heap := h' }) (ch := fp) J.os ⟨fun b o q n h1 h2 => (hs.2 b (hb b o q)).trans (u.keep b o q n h1 h2), fun b o q n h1 h2 => ?_, u.free, fun b o q h2 => ?_, u.tups, u.frzs, u.tbls⟩ (fun b ob q => ?_) J.bare (fun b m => ⟨(hf b m).2.2.2.1, (hf b m).2.1, (hf b m).2.2.2.2.1, (hf b m).2.2.2.2.2⟩)
  · obtain ⟨sl, e⟩ := u.slot b o q n h1 h2
    exact ⟨sl, (hs.2 b (hb b o q)).trans e⟩
  · obtain ⟨o', e⟩ := u.there b o q h2
    exact ⟨o', (hs.2 b (hb b o q)).trans e⟩
  · have fr : H5 s₃.heap.objs.size = none := J.free
    refine (J.hok b ob q).stay (fun c v hc r => (hs.2 c ?_).trans r) (fun _ z => z) fun _ _ z => z
    rintro rfl
    rcases hc with rfl | hc
    · rw [fr] at q; cases q
    · rw [fr] at hc; cases hc
end
def PTs (X : Cx) (ifs : List Expr) (t : TT) : Prop :=
  ∀ (pins : List (Addr × Obj)) (s : Shared) (σ : St) (H : Hp) (Q : Bool → Hp → Prop), Inv X pins σ H s → t σ H Q →
    wpAny (model X.prog X.w) X.A (forIn ifs true fun c r => if r = true then do let ok ← isTrue c X.env (eval c X.env); pure (ForInStep.yield ok) else pure (ForInStep.yield r)) (TP X pins σ Q) X.xe s
def tYes : TT := fun _ H Q => Q true H
theorem pts_nil {X : Cx} : PTs X [] tYes := fun _ _ _ H _ I h => wpAny_tests_nil ⟨H, I, h⟩
theorem pts_one {X : Cx} {c : Expr} {t : TT} (h : PT X c t) : PTs X [c] t := fun pins s σ H Q I q => wpAny_tests_one (h pins s σ H Q I q)
def tComp (fr : List (Option Nat)) (wi : TI) (g : TG) (tc : TT) (te : TE) : TE := fun σ H Q => wi σ H fun J H1 => ∀ D, H1 D = none →
  ∃ W : Nat → Nat → List V → St → Hp → Prop, (∃ m, W 0 m [] (compSt fr σ) (upd H1 D (.lst []))) ∧ ∀ i m ys τ H2, W i m ys τ H2 → H2 D = some (.lst ys) ∧
    ((J.stop i H2 ∧ Q (.ref D) H2) ∨ (J.go i H2 ∧ ∀ x H3, J.yld i H2 x H3 → g x τ H3 fun τ' H4 => tc τ' H4 fun b H5 => if b = true then te τ' H5 fun y H6 => H6 D = some (.lst ys) ∧ ys.length < sizeLine ∧ ∃ m', m' < m ∧ W (i + 1) m' (ys ++ [y]) τ' (upd H6 D (.lst (ys ++ [y])))
      else ∃ m', m' < m ∧ W (i + 1) m' ys τ' H5))
theorem comp_gen {X : Cx} {N' : List Str} {fr : List (Option Nat)} {scope : Scope} {tg iter elt : Expr} {ifs : List Expr} {wi : TI} {g : TG} {tc : TT} {te : TE} {pos cp : Pos} {use : Option (Value → Sem Unit)} {Qf : Value → Shared → Prop} (hc : X.calm = true) (S : CompScope X N' fr scope) (hi : PI X tg iter wi)
    (hg : ∀ s₃ H₃ fp pins, PG (compCx X scope N' s₃ H₃ fp pins) tg g) (ht : ∀ s₃ H₃ fp pins, PTs (compCx X scope N' s₃ H₃ fp pins) ifs tc) (he : ∀ s₃ H₃ fp pins, PE (compCx X scope N' s₃ H₃ fp pins) elt te)
    (hs : ∀ x, foldedSetIterable iter X.env x = pure x) {pins : List (Addr × Obj)} {s : Shared} {σ : St} {H : Hp} {Q : VK} (I : Inv X pins σ H s) (h : tComp fr wi g tc te σ H Q)
    (hfin : ∀ (s₃ : Shared) (H₃ : Hp) (fp : List Addr) (D : Addr) (s6 : Shared) (τ : St) (H5 : Hp) (fl : Flow), Inv X pins σ H₃ s₃ → (∀ b ∈ fp, FpOk X pins H₃ b) → Inv (compCx X scope N' s₃ H₃ fp pins) [] τ H5 s6 → Q (.ref D) H5 →
      compPost (model X.prog X.w) X.A X.xe use Qf (.ref D) s₃.heap.objs.size (.ok fl) s6) :
    wpAny (model X.prog X.w) X.A (comprehension (.ListComp elt [⟨tg, iter, ifs, 0⟩] scope pos) scope X.env cp (newList []) false (eval iter X.env) use) Qf X.xe s := by
  refine wpAny_comprehension_free (use := use) rfl hs (closureFor_of S.free) S.kind S.loc ?_
  refine thn (hi pins s σ H _ I h) fun v s1 h1 => thn h1 fun itv s2 h2 => ?_
  obtain ⟨it, fp, tn, J, H2, rfl, I2, T, st2, f2, hW⟩ := h2
  refine wpAny_newObj_type ?_ (by size_fits)
  have hD : H2 s2.heap.objs.size = none := I2.hok.fresh (Nat.le_refl _)
  have I3 : Inv X pins σ (upd H2 s2.heap.objs.size (.lst [])) { s2 with heap := s2.heap.push { cls := .type "list", data := .seq ([] : List Value).toArray }, toks := s2.toks } :=
    I2.laid (fun b u e => Heap.get?_push_of_some _ e) (Nat.le_refl _) ⟨Nat.zero_le _, [], 0, .nil, Heap.get?_push_size _ rfl⟩
  generalize eD : s2.heap.objs.size = D at I3 hD ⊢
  generalize eH : upd H2 D (.lst []) = H3 at I3
  have f3 : ∀ b ∈ fp, FpOk X pins H3 b := fun b hb => by
    obtain ⟨g0, g1⟩ := f2 b hb
    refine ⟨?_, g1⟩
    obtain ⟨o, ho, _⟩ := T.obj 0 _ st2 b hb
    rw [← eH, upd_ne (by rw [← eD]; exact Nat.ne_of_lt (Heap.lt_size ho))]
    exact g0
  have lt3 : ∀ b ∈ fp, b < (s2.heap.push { cls := .type "list", data := .seq ([] : List Value).toArray }).objs.size := fun b hb => by
    obtain ⟨o, ho, _⟩ := T.obj 0 _ st2 b hb
    rw [Heap.size_push]
    exact Nat.lt_succ_of_lt (Heap.lt_size ho)
  have st3 : tn 0 (s2.heap.push { cls := .type "list", data := .seq ([] : List Value).toArray }) := T.keep _ _ _ st2 fun b _ o e => Heap.get?_push_of_some _ e
  obtain ⟨W, ⟨m0, w0⟩, turn⟩ := hW D hD
  rw [eH] at w0
  generalize es3 : ({ s2 with heap := s2.heap.push { cls := .type "list", data := .seq ([] : List Value).toArray }, toks := s2.toks } : Shared) = s3 at I3
  have lt3 : ∀ b ∈ fp, b < s3.heap.objs.size := by rw [← es3]; exact lt3
  have st3 : tn 0 s3.heap := by rw [← es3]; exact st3
  refine wpAny_newFunctionEnv S.nocell (by intro y hy; cases hy) (fun h4 hn4 hsb4 => ?_) S.kind
  have k4 : ∀ b o, s3.heap.get? b = some o → h4.get? b = some o := fun b o e => (hsb4.2 b (Nat.ne_of_lt (Heap.lt_size e))).trans (Heap.get?_push_of_some _ e)
  have I4 : Inv (compCx X scope N' s3 H3 fp pins) [] (compSt fr σ) H3 { s3 with heap := h4, toks := s3.toks + ([] : List (Str × Value)).length } := comp_in I3 S f3 lt3 hn4 k4
  have st4 : tn 0 h4 := T.keep _ _ _ st3 fun b _ o e => k4 b o e
  have stat : ∀ {H' : Hp} {p' : List (Addr × Obj)}, p' = [] → (∀ b ∈ fp, H' b = none) → ∀ b ∈ fp, FpOk (compCx X scope N' s3 H3 fp pins) p' H' b := fun {H' p'} hp hn b hb => by
    subst hp
    obtain ⟨g0, g1, g2, g3, g4, g5⟩ := f3 b hb
    refine ⟨hn b hb, Nat.ne_of_lt (lt3 b hb), fun hm => ?_, .inl hb, fun x c h => g4 x c (clos_cells S h), fun p hp => ?_⟩
    · rcases List.mem_cons.mp (I3.stkSub b hm) with z | z
      · exact g1 z
      · exact g2 z
    · have hp : p ∈ (X.pn ++ pins) ++ [] := hp
      rw [List.append_nil] at hp
      exact g5 p hp
  have loop : ∀ s' : Shared, s' = { s3 with heap := h4, toks := s3.toks + ([] : List (Str × Value)).length } → codeAny (model X.prog X.w) X.A (.compLoop (.ListComp elt [⟨tg, iter, ifs, 0⟩] scope pos) 0 (.ref it) (.ref D) (compEnvC scope (closL X.env.cells scope.names []) s3.heap.objs.size X.env))
      (compPost (model X.prog X.w) X.A X.xe use Qf (.ref D) s3.heap.objs.size) s' := by
    rintro s' rfl
    refine codeAny_loop rfl (fun n s' => ∃ i ys τ H', Inv (compCx X scope N' s3 H3 fp pins) [] τ H' s' ∧ tn i s'.heap ∧ (∀ b ∈ fp, H' b = none) ∧ W i n ys τ H') ?_ m0 ⟨0, [], _, H3, I4, st4, fun b hb => (f3 b hb).1, w0⟩
    rintro n s5 ⟨i, ys, τ, H5, I5, st5, fr5, w5⟩
    show wpAny _ X.A ((compTurn (.ListComp elt [⟨tg, iter, ifs, 0⟩] scope pos) 0 (.ref it) (.ref D) (compEnvC scope (closL X.env.cells scope.names []) s3.heap.objs.size X.env)).onRaise (fun x => do noteFrame x (compEnvC scope (closL X.env.cells scope.names []) s3.heap.objs.size X.env); theTreesLotGoes x)) _ _ s5
    refine wpAny_noted ?_
    rw [compTurn_list]
    obtain ⟨hDy, hor⟩ := turn i n ys τ H5 w5
    rcases hor with ⟨stop, q⟩ | ⟨go, step⟩
    · refine wpAny_bind (wpAny_standAt (wpAny_bind (thn (T.done (compCx X scope N' s3 H3 fp pins) rfl rfl rfl hc i [] s5 τ H5 _ I5 (stat rfl fr5) st5 stop) fun r s6 ⟨hr, I6⟩ => ?_)))
      subst hr
      exact wpAny_pure (hfin s3 H3 fp D s6 τ H5 _ I3 f3 I6 q)
    · refine wpAny_bind (wpAny_standAt (wpAny_bind (thn (T.item (compCx X scope N' s3 H3 fp pins) rfl rfl rfl hc i [] s5 τ H5 _ I5 (stat rfl fr5) st5 go) fun r s6 ⟨u, hr, h6⟩ => ?_)))
      subst hr
      refine wpAny_bind (thn h6 fun _ s7 ⟨x, H7, I7, r7, y7, st7, fr7⟩ => ?_)
      have I7' := I7.pinned (stat rfl fr7) (T.obj _ _ st7)
      refine wpAny_bind (wpAny_mono (hg s3 H3 fp pins _ s7 τ H7 x u _ I7' r7 (step x H7 y7)) (fun _ s8 ⟨τ8, H8, I8, q8⟩ => ?_) fun _ _ z => False.elim z)
      refine wpAny_bind (wpAny_mono (ht s3 H3 fp pins _ s8 τ8 H8 _ I8 q8) (fun b s9 ⟨H9, I9, q9⟩ => ?_) fun _ _ z => False.elim z)
      have again : ∀ {s' : Shared} {H' : Hp}, Inv (compCx X scope N' s3 H3 fp pins) ([] ++ pinsAt fp s7.heap) τ8 H' s' → tn (i + 1) s'.heap ∧ ∀ b ∈ fp, H' b = none := fun {s' H'} I' => by
        refine ⟨T.keep _ _ _ st7 fun b hb o e => (I'.pin (b, o) (List.mem_append_right _ (List.mem_append_right _ (mem_pinsAt hb e)))).1, fun b hb => ?_⟩
        obtain ⟨o, e, d⟩ := T.obj _ _ st7 b hb
        exact (I'.pin (b, o) (List.mem_append_right _ (List.mem_append_right _ (mem_pinsAt hb e)))).2.1
      cases b with
      | false =>
        rw [if_neg Bool.false_ne_true] at q9
        obtain ⟨m', hm, w9⟩ := q9
        obtain ⟨a1, a2⟩ := again I9
        refine wpAny_pure ⟨rfl, m', hm, i + 1, ys, τ8, H9, I9.unpinned, a1, a2, w9⟩
      | true =>
        rw [if_pos rfl] at q9
        refine wpAny_bind (wpAny_bind (wpAny_mono (he s3 H3 fp pins _ s9 τ8 H9 _ I9 q9) (fun yv s10 ⟨y, H10, I10, r10, hD10, hz, m', hm, w10⟩ => ?_) fun _ _ z => False.elim z))
        refine wpAny_bind (wpAny_mono (mt_append (X := compCx X scope N' s3 H3 fp pins) _ s10 τ8 H10 (.ref D) [y] (.ref D) [yv] (fun _ H11 => H11 = upd H10 D (.lst (ys ++ [y]))) I10 rfl (.cons r10 .nil) ⟨D, ys, y, rfl, rfl, hD10, hz, rfl⟩) (fun _ s11 ⟨_, H11, I11, _, q11⟩ => ?_) fun _ _ z => False.elim z)
        subst q11
        obtain ⟨a1, a2⟩ := again I11
        exact wpAny_pure (wpAny_pure ⟨rfl, m', hm, i + 1, ys ++ [y], τ8, _, I11.unpinned, a1, a2, w10⟩)
  exact codeAny_compStart_list (loop _ rfl) (T.self _ 0 _ _ _ st4 (loop _ rfl))
theorem pe_comp {X : Cx} {N' : List Str} {fr : List (Option Nat)} {scope : Scope} {tg iter elt : Expr} {ifs : List Expr} {wi : TI} {g : TG} {tc : TT} {te : TE} {pos : Pos} (hc : X.calm = true) (S : CompScope X N' fr scope) (hi : PI X tg iter wi)
    (hg : ∀ s₃ H₃ fp pins, PG (compCx X scope N' s₃ H₃ fp pins) tg g) (ht : ∀ s₃ H₃ fp pins, PTs (compCx X scope N' s₃ H₃ fp pins) ifs tc) (he : ∀ s₃ H₃ fp pins, PE (compCx X scope N' s₃ H₃ fp pins) elt te)
    (hs : ∀ x, foldedSetIterable iter X.env x = pure x := by intro _; rfl) : PE X (.ListComp elt [⟨tg, iter, ifs, 0⟩] scope pos) (tComp fr wi g tc te) := by
  intro pins s σ H Q I h
  rw [eval_ListComp]
  refine comp_gen (use := none) hc S hi hg ht he hs I h fun s3 H3 fp D s6 τ H5 fl I3 f3 I6 q => ?_
  obtain ⟨m6, hn6, _⟩ := I6.loc
  exact ⟨m6, hn6, fun h7 hs7 => ⟨.ref D, H5, comp_out I3 I6 f3 hs7, rfl, q⟩⟩
theorem ps_comp {X : Cx} {N' : List Str} {fr : List (Option Nat)} {scope : Scope} {tg iter elt : Expr} {ifs : List Expr} {wi : TI} {g : TG} {tc : TT} {te : TE} {pos pos' cpos : Pos} {i : Nat} {x : Str} (hc : X.calm = true) (S : CompScope X N' fr scope) (hi : PI X tg iter wi)
    (hg : ∀ s₃ H₃ fp pins, PG (compCx X scope N' s₃ H₃ fp pins) tg g) (ht : ∀ s₃ H₃ fp pins, PTs (compCx X scope N' s₃ H₃ fp pins) ifs tc) (he : ∀ s₃ H₃ fp pins, PE (compCx X scope N' s₃ H₃ fp pins) elt te)
    (hN : X.N.Nodup) (hix : X.N[i]? = some x) (hx : Loc X.env.scope x) (hsw : swapsWith (.ListComp elt [⟨tg, iter, ifs, 0⟩] scope cpos) (some (.Name x pos')) pos.line X.env = pure true)
    (hs : ∀ x, foldedSetIterable iter X.env x = pure x := by intro _; rfl) (hf : X.fn x = true ∨ X.env.scope.names.lookup x = some .local := by first | exact .inl rfl | exact .inr rfl | assumption) : PS X (.Assign [.Name x pos'] (.ListComp elt [⟨tg, iter, ifs, 0⟩] scope cpos) pos) (tAsg (tComp fr wi g tc te) (gName i)) := by
  intro pins s σ H Z I h
  rw [exec_Assign_Name_used _ _ _ _ hsw]
  refine wpAny_bind (wpAny_standAt (wpAny_bind ?_))
  show wpAny _ _ (comprehension (.ListComp elt [⟨tg, iter, ifs, 0⟩] scope cpos) scope X.env (firstIterPos [⟨tg, iter, ifs, 0⟩] cpos) (newList []) false (eval iter X.env) (some (assign (.Name x pos') X.env)) >>= fun _ => pure ()) _ _ s
  refine wpAny_bind (comp_gen (use := some (assign (.Name x pos') X.env)) hc S hi hg ht he hs I h fun s3 H3 fp D s6 τ H5 fl I3 f3 I6 q => ?_)
  obtain ⟨m6, hn6, _⟩ := id I6.loc
  have I7 : Inv X pins σ H5 s6 := comp_out (h' := s6.heap) I3 I6 f3 ⟨rfl, fun _ _ => rfl⟩
  have ltC : X.env.locals < s3.heap.objs.size := I3.lt
  have cC : ∀ y c, X.env.cells.lookup y = some c → c ≠ s3.heap.objs.size := fun y c e z => by
    obtain ⟨v, o, ho, _⟩ := I3.cell y c e
    exact absurd (Heap.lt_size ho) (by rw [z]; exact Nat.lt_irrefl _)
  show wpAny (model X.prog X.w) X.A (assign (.Name x pos') X.env (.ref D)) _ X.xe s6
  refine wpAny_assign_Name (store_ok2 I7 hN hix hx (v := .ref D) (u := .ref D) rfl (fun s8 I8 sb => ?_) hf)
  obtain ⟨a8, sb8, ha8⟩ := sb
  have neC : s3.heap.objs.size ≠ a8 := by
    rcases ha8 with z | z
    · rw [z]; exact Nat.ne_of_gt ltC
    · exact fun w => cC x a8 z w.symm
  have hn8 : s8.heap.Ns s3.heap.objs.size m6 := by
    obtain ⟨o, es, ep, ho, r⟩ := hn6
    exact ⟨o, es, ep, (sb8.2 _ neC).trans ho, r⟩
  refine ⟨m6, hn8, fun h9 hs9 => ?_⟩
  have frC : H5 s3.heap.objs.size = none := I6.free
  refine wpAny_pure (wpAny_pure ⟨_, H5, ?_, q⟩)
  have := I8.turned (h' := h9) (t' := s8.toks) (it := s3.heap.objs.size) (fun b o hb e => (hs9.2 b hb).trans e) frC (Nat.ne_of_gt ltC) (.inr (Nat.le_trans I3.ok.above (Nat.le_of_lt ltC))) cC (fun p hp z => ?_)
  · exact this
  · have := Heap.lt_size (I3.pin p hp).1
    rw [z] at this
    exact Nat.lt_irrefl _ this
end L2
set_option maxRecDepth 100000
set_option maxHeartbeats 4000000
namespace L2
open PySem PySem.Spec PyProof.Rows
section
variable {X : Cx}
end
def signAt (x : Str) (i : Nat) (v : V) : Prop := ∃ c, x.cps[i]? = some c ∧ v = .str ⟨#[c]⟩
def Its (x : Str) : It := ⟨fun i _ => i < x.cps.size, fun i H v H' => H' = H ∧ signAt x i v, fun i _ => x.cps.size ≤ i⟩
end L2
set_option maxRecDepth 100000
set_option maxHeartbeats 4000000
namespace L2
open PySem PySem.Spec PyProof.Rows
section
variable {X : Cx}
def rSlS : V → Option Int → Option Int → Hp → VK → Prop := fun x lo hi H Q => ∃ z, x = .str z ∧ z.length ≤ sizeLine ∧ Q (.str (Txt.slice z lo hi)) H
theorem sl_str : SlR X rSlS := by
  intro pins s σ H x v vl vu lo hi sl Q I rx hs pl pu h
  obtain ⟨z, rfl, hz, q⟩ := h
  obtain ⟨t, rfl⟩ := rx
  refine ⟨"str", _, F.slot_str_getitem.lookup, typeIs_str _ _ _, ?_⟩
  have fin : ∀ (l u : Option (Int × Tok)), vl = partValue l → vu = partValue u → l.map (·.1) = lo → u.map (·.1) = hi → wpAny (model X.prog X.w) X.A (getItem (.str z t) (.ref sl)) (EP X pins σ Q) X.xe s := by
    intro l u e1 e2 e3 e4
    subst e1 e2 e3 e4
    refine wpAny_getItem_str_slice (st := none) hs rfl (post_val_or_str ⟨Nat.le_trans (Txt.slice_le z _ _) hz, fun t' k => ?_⟩)
    exact ⟨.str _, H, I.tok k, ⟨t', rfl⟩, q⟩
  cases pl with
  | none =>
    cases pu with
    | none => exact fin none none rfl rfl rfl rfl
    | int j tj => exact fin none (some (j, tj)) rfl rfl rfl rfl
  | int i ti =>
    cases pu with
    | none => exact fin (some (i, ti)) none rfl rfl rfl rfl
    | int j tj => exact fin (some (i, ti)) (some (j, tj)) rfl rfl rfl rfl
end
end L2
set_option maxRecDepth 100000
set_option maxHeartbeats 4000000
namespace L2
open PySem PySem.Spec PyProof.Rows
section
variable {prog : Program} {w : World} {A : Around} {E : Value → Shared → Prop} {s : Shared} {K : Type} [DecidableEq K] {knd : KeyKind prog w K} {d : Addr} {kvs : List (K × Value)} {ep : Nat}
end
section
variable {X : Cx}
end
end L2
set_option maxRecDepth 100000
set_option maxHeartbeats 4000000
namespace L2
open PySem PySem.Spec PyProof.Rows
structure DefIn (K : PySem.W.Frag) (mg : Str → Option Value) (x : Str) (st : Stmt) (ps : List Str) : Prop where
  ex : ∃ f fd, Fun K x x st f fd ∧ mg x = some (.ref f) ∧ Binds K fd ps []
theorem defIn_mk {K : PySem.W.Frag} {mg : Str → Option Value} {x : Str} {st : Stmt} {ps : List Str} {h : Heap} {f : Addr} {oc : Value} {od an : Option Addr} {osl : Array (Option Value)} {kV doc pm cdv ct : Value} (X : K.In h) (G : h.Ns mainGlobals mg)
    (hb : ∀ (kV doc pm : Value) (an : Option Addr) (cdv ct : Value) (us : List Value), us.length = ps.length → bindArgs (PySem.W.fnOf x x (defArgs st) (defBody st) (defScope st) .none kV doc pm an cdv ct) ⟨us, []⟩ = pure (ps.zip us))
    (a : PySem.W.nsIn K mainGlobals x = some (some (.ref f))) (l : K.lookup f = some ⟨oc, od, .func (PySem.W.fnOf x x (defArgs st) (defBody st) (defScope st) .none kV doc pm an cdv ct), osl⟩)
    (c : PySem.W.codeIn K cdv x = true) (k : PySem.W.keepIn K (.ref f) = true) : DefIn K mg x st ps :=
  ⟨f, _, fun_mk l c k, PySem.W.mg_of X G a, (fun_mk (st := st) l c k).binds hb⟩
structure Own (P : Program) (w : World) (K : PySem.W.Frag) (mg : Str → Option Value) (base : Heap) (x : Str) (k : Nat) (ps : List Str) (sp : Sp) : Prop where
  ex : ∃ f fd, FnOk P w K mg base (cxx P w) k f fd ps sp ∧ mg x = some (.ref f) ∧ PySem.W.keepIn K (.ref f) = true ∧ Binds K fd ps []
section
variable {P : Program} {w : World} {K : PySem.W.Frag} {mg : Str → Option Value} {base : Heap} {x : Str} {st : Stmt} {N ps : List Str} {k : Nat} {sp : Sp}
theorem DefIn.own (D : DefIn K mg x st ps) (S : FnScope N ps (defScope st)) (len : ∀ vs H Q E, sp vs H Q E → vs.length = ps.length)
    (hbody : ∀ (f : Addr) (cdv : Value) (A : Around) (outer : List Env) (s : Shared) (H : Hp) (vs : List V) (Q : VK) (E : XK), Room k (A.deeper (envOfC x (defScope st) s.heap.objs.size f cdv)) → sp vs H Q E →
      ∃ t, PSs (cxOf (cxx P w) P w K mg base N x (defScope st) f cdv A outer s H E) (defBody st) t ∧ t { nx := fun _ H' => Q .non H', rt := Q } (start N vs) H) : Own P w K mg base x (k + 1) ps sp := by
  obtain ⟨f, fd, F, hm, hb⟩ := D.ex
  obtain ⟨oc, od, kV, doc, pm, an, cdv, ct, osl, rfl, lk, hcd⟩ := F.ex
  exact ⟨f, _, fn_of lk hcd S len fun A outer s H vs Q E hr hsp => hbody f cdv A outer s H vs Q E hr hsp, hm, F.kp, hb⟩
theorem Own.mono {j : Nat} (O : Own P w K mg base x j ps sp) (h : j ≤ k) : Own P w K mg base x k ps sp := by
  obtain ⟨f, fd, F, a, b, c⟩ := O.ex
  exact ⟨f, fd, F.mono h, a, b, c⟩
end
section
variable {X : Cx} {x : Str} {k : Nat} {ps : List Str} {sp : Sp} {E : XK} {e : Expr} {es : List Expr} {t : TA} {p pos : Pos}
theorem pe_own (O : Own X.prog X.w X.K X.mg X.base x k ps sp) (hr : Room k X.A) (hg : Gl X x) (hx : Passes (cxx X.prog X.w) X E) (ha : PA X (e :: es) t) (hdb : (x == ("__debug__" : Str)) = false := by decide)
    (he : starEach (e :: es) X.env = (false, eval e X.env) :: starEach es X.env := by rfl) (hpl : (backTo pos (starEach es X.env)).any (·.1) = false := by rfl) : PE X (.Call (.Name x p) (e :: es) [] pos) (tCall sp [] E t) := by
  obtain ⟨f, fd, F, hm, hk, hb⟩ := O.ex
  exact pe_call F hr hg hm hk hb .nil hx ha hdb he hpl
end
def kinds : List String := ["NoneType", "bool", "int", "str", "list", "tuple", "dict"]
section
variable {K : PySem.W.Frag}
theorem kit_int : ∀ {T : String}, T ∈ kinds → PySem.W.kitOne K (.type T) (.type "int") = some (T == "int" || T == "bool") := by
  intro T h
  simp only [kinds, List.mem_cons, List.not_mem_nil, or_false] at h
  rcases h with rfl | rfl | rfl | rfl | rfl | rfl | rfl <;> kernel_rfl
theorem kit_bool : ∀ {T : String}, T ∈ kinds → PySem.W.kitOne K (.type T) (.type "bool") = some (T == "bool") := by
  intro T h
  simp only [kinds, List.mem_cons, List.not_mem_nil, or_false] at h
  rcases h with rfl | rfl | rfl | rfl | rfl | rfl | rfl <;> kernel_rfl
theorem kit_self : ∀ {T U : String}, T ∈ kinds → U ∈ (["str", "list", "tuple", "dict"] : List String) → PySem.W.kitOne K (.type T) (.type U) = some (T == U) := by
  intro T U h g
  simp only [kinds, List.mem_cons, List.not_mem_nil, or_false] at h g
  rcases g with rfl | rfl | rfl | rfl <;> rcases h with rfl | rfl | rfl | rfl | rfl | rfl | rfl <;> kernel_rfl
end
end L2
set_option maxRecDepth 100000
set_option maxHeartbeats 4000000
namespace L2
open PySem PySem.Spec PyProof.Rows
inductive D where
  | non | bl (b : Bool) | int (i : Int) | str (x : Str) | tup (xs : List D) | lst (xs : List D) | dic (ks : List Key) (xs : List D) | frl (xs : List D)
inductive R (α : Type) where
  | ok (a : α) | err (c : Str) | bad
def R.bind {α β : Type} (r : R α) (f : α → R β) : R β := match r with
  | .ok a => f a
  | .err c => .err c
  | .bad => .bad
theorem R.ok_bind {α β : Type} (a : α) (f : α → R β) : (R.ok a).bind f = f a := rfl
theorem R.err_bind {α β : Type} (c : Str) (f : α → R β) : (R.err c : R α).bind f = .err c := rfl
theorem R.bad_bind {α β : Type} (f : α → R β) : (R.bad : R α).bind f = .bad := rfl
mutual
def D.imm : D → Bool
  | .tup xs => D.imms xs
  | .lst _ => false
  | .dic _ _ => false
  | _ => true
def D.imms : List D → Bool
  | [] => true
  | d :: ds => D.imm d && D.imms ds
end
def SqF (K : PySem.W.Frag) (H : Hp) (a : Addr) (vs : List V) : Prop := (∃ o, H a = some (.frz o (.lst vs))) ∨
  ∃ (o : Obj) (its : Array Value) (n : Nat), K.lookup a = some o ∧ o.cls = .type "list" ∧ o.dict = none ∧ o.data = .seq its n ∧ its.size ≤ sizeLine ∧ Vals vs its.toList
theorem SqF.sq {K : PySem.W.Frag} {H : Hp} {a : Addr} {vs : List V} (h : SqF K H a vs) : SqL K H a vs := by
  rcases h with ⟨o, h⟩ | h
  · exact .inl (.inr ⟨o, h⟩)
  · exact .inr h
mutual
def Rep (K : PySem.W.Frag) (H : Hp) : D → V → List Addr → Prop
  | .non, v, L => v = .non ∧ L = []
  | .bl b, v, L => v = .bl b ∧ L = []
  | .int i, v, L => v = .int i ∧ L = []
  | .str x, v, L => v = .str x ∧ L = []
  | .tup ds, v, L => ∃ a vs, v = .ref a ∧ SqT K H a vs ∧ Reps K H ds vs L
  | .lst ds, v, L => ∃ a vs L', v = .ref a ∧ H a = some (.lst vs) ∧ L = a :: L' ∧ Reps K H ds vs L'
  | .dic ks ds, v, L => ∃ a kvs L', v = .ref a ∧ H a = some (.dK kvs) ∧ L = a :: L' ∧ kvs.map (·.1) = ks ∧ ks.Nodup ∧ Reps K H ds (kvs.map (·.2)) L'
  | .frl ds, v, L => ∃ a vs, v = .ref a ∧ SqF K H a vs ∧ L = [] ∧ D.imms ds = true ∧ Reps K H ds vs []
def Reps (K : PySem.W.Frag) (H : Hp) : List D → List V → List Addr → Prop
  | [], vs, L => vs = [] ∧ L = []
  | d :: ds, vs, L => ∃ v vs' L1 L2, vs = v :: vs' ∧ L = L1 ++ L2 ∧ Rep K H d v L1 ∧ Reps K H ds vs' L2
end
structure TF (H H' : Hp) : Prop where
  tup : ∀ a xs, H a = some (.tup xs) → H' a = some (.tup xs)
  frz : ∀ a o u, H a = some (.frz o u) → H' a = some (.frz o u)
theorem Same.tf {H H' : Hp} (h : Same H H') : TF H H' := ⟨fun a xs e => h a _ e, fun a o u e => h a _ e⟩
theorem Same.non {H H1 : Hp} (s : Same H H1) {a : Addr} (h : H1 a = none) : H a = none := by
  cases e : H a with
  | none => rfl
  | some o => rw [s a o e] at h; cases h
theorem Same.new {H : Hp} {p : Addr} {o : HO} (h : H p = none) : Same H (upd H p o) := fun b u e => by
  rw [upd_ne (ne_of_none e h)]; exact e
theorem SqF.tf {K : PySem.W.Frag} {H H' : Hp} {a : Addr} {vs : List V} (h : SqF K H a vs) (s : TF H H') : SqF K H' a vs := by
  rcases h with ⟨o, h⟩ | h
  · exact .inl ⟨o, s.frz _ _ _ h⟩
  · exact .inr h
theorem SqT.tf {K : PySem.W.Frag} {H H' : Hp} {a : Addr} {vs : List V} (h : SqT K H a vs) (s : TF H H') : SqT K H' a vs := by
  rcases h with h | h
  · rcases h with h | ⟨o, h⟩
    · exact .inl (.inl (s.tup _ _ h))
    · exact .inl (.inr ⟨o, s.frz _ _ _ h⟩)
  · exact .inr h
section
variable {K : PySem.W.Frag} {H H' : Hp}
mutual
theorem Rep.keep (s : TF H H') : ∀ (d : D) (v : V) (L : List Addr), Rep K H d v L → (∀ a ∈ L, H' a = H a) → Rep K H' d v L
  | .non, _, _, h, _ => h
  | .bl _, _, _, h, _ => h
  | .int _, _, _, h, _ => h
  | .str _, _, _, h, _ => h
  | .tup ds, _, L, hq3, k => by
    obtain ⟨a, vs, e, h, r⟩ := hq3
    exact ⟨a, vs, e, h.tf s, Reps.keep s ds vs L r k⟩
  | .lst ds, _, L, hq3, k => by
      obtain ⟨a, vs, L', e, h1, h2, h3⟩ := hq3
      subst h2
      exact ⟨a, vs, L', e, by rw [k a List.mem_cons_self]; exact h1, rfl, Reps.keep s ds vs L' h3 fun b hb => k b (List.mem_cons_of_mem _ hb)⟩
  | .frl ds, _, L, hq3, k => by
    obtain ⟨a, vs, e, h1, h2, h3, h4⟩ := hq3
    exact ⟨a, vs, e, h1.tf s, h2, h3, Reps.keep s ds vs [] h4 (fun _ hb => nomatch hb)⟩
  | .dic ks ds, _, L, hq3, k => by
      obtain ⟨a, kvs, L', e, h1, h2, h3, h4, h5⟩ := hq3
      subst h2
      exact ⟨a, kvs, L', e, by rw [k a List.mem_cons_self]; exact h1, rfl, h3, h4, Reps.keep s ds _ L' h5 fun b hb => k b (List.mem_cons_of_mem _ hb)⟩
theorem Reps.keep (s : TF H H') : ∀ (ds : List D) (vs : List V) (L : List Addr), Reps K H ds vs L → (∀ a ∈ L, H' a = H a) → Reps K H' ds vs L
  | [], _, _, h, _ => h
  | d :: ds, _, _, hq3, k => by
    obtain ⟨v, vs', L1, L2, e1, e2, h1, h2⟩ := hq3
    subst e2
    exact ⟨v, vs', L1, L2, e1, rfl, Rep.keep s d v L1 h1 fun a ha => k a (List.mem_append_left _ ha), Reps.keep s ds vs' L2 h2 fun a ha => k a (List.mem_append_right _ ha)⟩
end
mutual
theorem Rep.dom : ∀ (d : D) (v : V) (L : List Addr), Rep K H d v L → ∀ a ∈ L, (∃ vs, H a = some (.lst vs)) ∨ ∃ kvs, H a = some (.dK kvs)
  | .non, _, _, h, a, ha => by rw [h.2] at ha; cases ha
  | .bl _, _, _, h, a, ha => by rw [h.2] at ha; cases ha
  | .int _, _, _, h, a, ha => by rw [h.2] at ha; cases ha
  | .str _, _, _, h, a, ha => by rw [h.2] at ha; cases ha
  | .tup ds, _, L, hq3, b, hb => by
    obtain ⟨a, vs, e, h, r⟩ := hq3
    exact Reps.dom ds vs L r b hb
  | .lst ds, _, L, hq3, b, hb => by
      obtain ⟨a, vs, L', e, h1, h2, h3⟩ := hq3
      subst h2
      rcases List.mem_cons.mp hb with z | z
      · subst z; exact .inl ⟨vs, h1⟩
      · exact Reps.dom ds vs L' h3 b z
  | .frl ds, _, L, hq3, b, hb => by
    obtain ⟨a, vs, e, h1, h2, h3, h4⟩ := hq3
    rw [h2] at hb; cases hb
  | .dic ks ds, _, L, hq3, b, hb => by
      obtain ⟨a, kvs, L', e, h1, h2, h3, h4, h5⟩ := hq3
      subst h2
      rcases List.mem_cons.mp hb with z | z
      · subst z; exact .inr ⟨kvs, h1⟩
      · exact Reps.dom ds _ L' h5 b z
theorem Reps.dom : ∀ (ds : List D) (vs : List V) (L : List Addr), Reps K H ds vs L → ∀ a ∈ L, (∃ vs, H a = some (.lst vs)) ∨ ∃ kvs, H a = some (.dK kvs)
  | [], _, _, h, a, ha => by rw [h.2] at ha; cases ha
  | d :: ds, _, _, hq3, a, ha => by
    obtain ⟨v, vs', L1, L2, e1, e2, h1, h2⟩ := hq3
    subst e2
    rcases List.mem_append.mp ha with z | z
    · exact Rep.dom d v L1 h1 a z
    · exact Reps.dom ds vs' L2 h2 a z
end
mutual
theorem Rep.imm : ∀ (d : D) (v : V) (L : List Addr), Rep K H d v L → d.imm = true → L = []
  | .non, _, _, h, _ => h.2
  | .bl _, _, _, h, _ => h.2
  | .int _, _, _, h, _ => h.2
  | .str _, _, _, h, _ => h.2
  | .tup ds, _, L, hq3, h => by
    obtain ⟨_, vs, _, _, r⟩ := hq3
    exact Reps.imm ds vs L r h
  | .lst _, _, _, _, h => nomatch h
  | .dic _ _, _, _, _, h => nomatch h
  | .frl _, _, _, hq3, _ => by
    obtain ⟨_, _, _, _, h, _⟩ := hq3
    exact h
theorem Reps.imm : ∀ (ds : List D) (vs : List V) (L : List Addr), Reps K H ds vs L → D.imms ds = true → L = []
  | [], _, _, h, _ => h.2
  | d :: ds, _, _, hq3, h => by
    obtain ⟨v, vs', L1, L2, _, e2, h1, h2⟩ := hq3
    have h : (d.imm && D.imms ds) = true := h
    rw [Bool.and_eq_true] at h
    rw [e2, Rep.imm d v L1 h1 h.1, Reps.imm ds vs' L2 h2 h.2]; rfl
end
theorem Rep.there {d : D} {v : V} {L : List Addr} (h : Rep K H d v L) {a : Addr} (ha : a ∈ L) : H a ≠ none := by
  rcases Rep.dom d v L h a ha with ⟨_, e⟩ | ⟨_, e⟩ <;> rw [e] <;> simp
theorem Reps.there {d : List D} {v : List V} {L : List Addr} (h : Reps K H d v L) {a : Addr} (ha : a ∈ L) : H a ≠ none := by
  rcases Reps.dom d v L h a ha with ⟨_, e⟩ | ⟨_, e⟩ <;> rw [e] <;> simp
theorem Same.at {a : Addr} (s : Same H H') (h : H a ≠ none) : H' a = H a := by
  cases e : H a with
  | none => exact absurd e h
  | some o => exact s a o e
theorem Rep.same {d : D} {v : V} {L : List Addr} (h : Rep K H d v L) (s : Same H H') : Rep K H' d v L := Rep.keep s.tf d v L h fun _ ha => s.at (h.there ha)
theorem Reps.same {d : List D} {v : List V} {L : List Addr} (h : Reps K H d v L) (s : Same H H') : Reps K H' d v L := Reps.keep s.tf d v L h fun _ ha => s.at (h.there ha)
theorem Reps.length : ∀ {ds : List D} {vs : List V} {L : List Addr}, Reps K H ds vs L → vs.length = ds.length
  | [], _, _, hq3 => by
    obtain ⟨e, _⟩ := hq3
    rw [e]; rfl
  | d :: ds, _, _, hq3 => by
    obtain ⟨v, vs', L1, L2, e1, e2, h1, h2⟩ := hq3
    rw [e1, List.length_cons, List.length_cons, Reps.length h2]
theorem Reps.nil : Reps K H [] [] [] := ⟨rfl, rfl⟩
theorem Reps.cons {d : D} {v : V} {L1 : List Addr} {ds : List D} {vs : List V} {L2 : List Addr} (h : Rep K H d v L1) (t : Reps K H ds vs L2) : Reps K H (d :: ds) (v :: vs) (L1 ++ L2) := ⟨v, vs, L1, L2, rfl, rfl, h, t⟩
theorem Reps.get : ∀ {ds : List D} {vs : List V} {L : List Addr} {i : Nat} {d : D}, Reps K H ds vs L → ds[i]? = some d → ∃ v L1, vs[i]? = some v ∧ Rep K H d v L1 ∧ List.Sublist L1 L
  | [], _, _, _, _, _, e => by simp at e
  | d :: ds, _, _, 0, _, hq5, e => by
    obtain ⟨v, vs', L1, L2, e1, e2, h1, h2⟩ := hq5
    subst e1 e2
    simp at e
    subst e
    exact ⟨v, L1, rfl, h1, List.sublist_append_left _ _⟩
  | d :: ds, _, _, i + 1, d', hq5, e => by
    obtain ⟨v, vs', L1, L2, e1, e2, h1, h2⟩ := hq5
    subst e1 e2
    obtain ⟨v', L', a, b, c⟩ := Reps.get (i := i) (d := d') h2 (by simpa using e)
    exact ⟨v', L', by simpa using a, b, c.trans (List.sublist_append_right _ _)⟩
theorem Reps.append : ∀ {ds ds' : List D} {vs vs' : List V} {L L' : List Addr}, Reps K H ds vs L → Reps K H ds' vs' L' → Reps K H (ds ++ ds') (vs ++ vs') (L ++ L')
  | [], _, _, _, _, _, hq6, h => by
    obtain ⟨e1, e2⟩ := hq6
    subst e1 e2; exact h
  | d :: ds, _, _, _, _, _, hq6, h => by
    obtain ⟨v, vs', L1, L2, e1, e2, h1, h2⟩ := hq6
    subst e1 e2
    have := Reps.cons h1 (Reps.append h2 h)
    rw [← List.append_assoc] at this
    exact this
theorem Reps.take : ∀ {ds : List D} {vs : List V} {L : List Addr} (n : Nat), Reps K H ds vs L → ∃ L', Reps K H (ds.take n) (vs.take n) L' ∧ List.Sublist L' L
  | _, _, _, 0, _ => ⟨[], by simpa using Reps.nil, List.nil_sublist _⟩
  | [], _, _, n + 1, hq4 => by
    obtain ⟨e1, e2⟩ := hq4
    subst e1 e2; exact ⟨[], by simpa using Reps.nil, List.nil_sublist _⟩
  | d :: ds, _, _, n + 1, hq4 => by
    obtain ⟨v, vs', L1, L2, e1, e2, h1, h2⟩ := hq4
    subst e1 e2
    obtain ⟨L', a, b⟩ := Reps.take n h2
    exact ⟨L1 ++ L', by simpa using Reps.cons h1 a, List.Sublist.append (List.Sublist.refl _) b⟩
theorem Reps.drop : ∀ {ds : List D} {vs : List V} {L : List Addr} (n : Nat), Reps K H ds vs L → ∃ L', Reps K H (ds.drop n) (vs.drop n) L' ∧ List.Sublist L' L
  | _, _, L, 0, h => ⟨L, by simpa using h, List.Sublist.refl _⟩
  | [], _, _, n + 1, hq4 => by
    obtain ⟨e1, e2⟩ := hq4
    subst e1 e2; exact ⟨[], by simpa using Reps.nil, List.nil_sublist _⟩
  | d :: ds, _, _, n + 1, hq4 => by
    obtain ⟨v, vs', L1, L2, e1, e2, h1, h2⟩ := hq4
    subst e1 e2
    obtain ⟨L', a, b⟩ := Reps.drop n h2
    exact ⟨L', by simpa using a, b.trans (List.sublist_append_right _ _)⟩
end
end L2
set_option maxRecDepth 100000
set_option maxHeartbeats 4000000
namespace L2
open PySem PySem.Spec PyProof.Rows
abbrev Tn := List (Option D)
inductive Cl where
  | own | shr | brw | dead
  deriving DecidableEq
inductive Rc where
  | fresh | shr | bor
  deriving DecidableEq
structure EOk (K : PySem.W.Frag) (Γ : List Cl) (O : Addr → Prop) (H : Hp) (σ : St) (τ : Tn) : Prop where
  dom : ∀ a, O a → H a ≠ none
  slot : ∀ (i : Nat) (c : Cl), Γ[i]? = some c → c ≠ .dead → ∃ v d L, σ[i]? = some (some v) ∧ τ[i]? = some (some d) ∧ Rep K H d v L ∧ (c = .shr → ∀ a ∈ L, ¬ O a)
def RcOk (c : Rc) (O : Addr → Prop) (H : Hp) (L : List Addr) : Prop := match c with
  | .fresh => L.Nodup ∧ ∀ a ∈ L, H a = none
  | .shr => ∀ a ∈ L, ¬ O a
  | .bor => True
def post (K : PySem.W.Frag) (E : XK) (O : Addr → Prop) (c : Rc) (H : Hp) (Q : VK) : R D → Prop
  | .ok d => ∀ v H' L, Same H H' → Rep K H' d v L → RcOk c O H L → Q v H'
  | .err n => ∀ C H', ErrC K n C → Same H H' → E (.ref C) none H'
  | .bad => False
def postL (K : PySem.W.Frag) (E : XK) (O : Addr → Prop) (c : Rc) (H : Hp) (Q : List V → Hp → Prop) : R (List D) → Prop
  | .ok ds => ∀ vs H' L, Same H H' → Reps K H' ds vs L → RcOk c O H L → Q vs H'
  | .err n => ∀ C H', ErrC K n C → Same H H' → E (.ref C) none H'
  | .bad => False
def postB (K : PySem.W.Frag) (E : XK) (H : Hp) (Q : Bool → Hp → Prop) : R Bool → Prop
  | .ok b => ∀ H', Same H H' → Q b H'
  | .err n => ∀ C H', ErrC K n C → Same H H' → E (.ref C) none H'
  | .bad => False
section
variable {K : PySem.W.Frag} {Γ : List Cl} {O : Addr → Prop} {H H1 : Hp} {σ : St} {τ : Tn} {E : XK} {c : Rc} {Q : VK}
theorem EOk.same (e : EOk K Γ O H σ τ) (s : Same H H1) : EOk K Γ O H1 σ τ :=
  ⟨fun a h => by rw [s.at (e.dom a h)]; exact e.dom a h, fun i c h1 h2 => by
    obtain ⟨v, d, L, a1, a2, a3, a4⟩ := e.slot i c h1 h2
    exact ⟨v, d, L, a1, a2, a3.same s, a4⟩⟩
theorem RcOk.same {L : List Addr} (h : RcOk c O H1 L) (s : Same H H1) : RcOk c O H L := by
  cases c with
  | fresh => exact ⟨h.1, fun a ha => s.non (h.2 a ha)⟩
  | shr => exact h
  | bor => exact h
theorem RcOk.shr {L : List Addr} (dom : ∀ a, O a → H a ≠ none) (hc : c ≠ .bor) (h : RcOk c O H L) : ∀ a ∈ L, ¬ O a := by
  cases c with
  | fresh => exact fun a ha ho => dom a ho (h.2 a ha)
  | shr => exact h
  | bor => exact absurd rfl hc
theorem RcOk.nil : RcOk c O H [] := by
  cases c with
  | fresh => exact ⟨List.nodup_nil, fun a ha => by cases ha⟩
  | shr => exact fun a ha => by cases ha
  | bor => trivial
theorem post.same {r : R D} (h : post K E O c H Q r) (s : Same H H1) : post K E O c H1 Q r := by
  cases r with
  | ok d => exact fun v H' L s' r' c' => h v H' L (s.trans s') r' (c'.same s)
  | err n => exact fun C H' e s' => h C H' e (s.trans s')
  | bad => exact h
theorem postL.same {Q : List V → Hp → Prop} {r : R (List D)} (h : postL K E O c H Q r) (s : Same H H1) : postL K E O c H1 Q r := by
  cases r with
  | ok d => exact fun v H' L s' r' c' => h v H' L (s.trans s') r' (c'.same s)
  | err n => exact fun C H' e s' => h C H' e (s.trans s')
  | bad => exact h
theorem postB.same {Q : Bool → Hp → Prop} {r : R Bool} (h : postB K E H Q r) (s : Same H H1) : postB K E H1 Q r := by
  cases r with
  | ok d => exact fun H' s' => h H' (s.trans s')
  | err n => exact fun C H' e s' => h C H' e (s.trans s')
  | bad => exact h
end
def ME (X : Cx) (E : XK) (Γ : List Cl) (e : Expr) (t : Tn → R D) (c : Rc) : Prop :=
  ∃ te, PE X e te ∧ ∀ O σ H τ Q, EOk X.K Γ O H σ τ → post X.K E O c H Q (t τ) → te σ H Q
def MA (X : Cx) (E : XK) (Γ : List Cl) (es : List Expr) (t : Tn → R (List D)) (c : Rc) : Prop :=
  (∀ τ ds, t τ = .ok ds → ds.length = es.length) ∧ ∃ ta, PA X es ta ∧ ∀ O σ H τ Q, EOk X.K Γ O H σ τ → postL X.K E O c H Q (t τ) → ta σ H Q
def MT (X : Cx) (E : XK) (Γ : List Cl) (e : Expr) (t : Tn → R Bool) : Prop :=
  ∃ te, PT X e te ∧ ∀ O σ H τ Q, EOk X.K Γ O H σ τ → postB X.K E H Q (t τ) → te σ H Q
def MW (X : Cx) (E : XK) (Γ : List Cl) (e : Expr) (t : Tn → R Bool) : Prop :=
  ∃ te, PW X e te ∧ ∀ O σ H τ Q, EOk X.K Γ O H σ τ → postB X.K E H Q (t τ) → te σ H Q
theorem MW.mt {X : Cx} {E : XK} {Γ : List Cl} {e : Expr} {t : Tn → R Bool} (h : MW X E Γ e t) : MT X E Γ e t := by
  obtain ⟨te, p, q⟩ := h
  exact ⟨te, p.pt, q⟩
def Rc.of : Cl → Rc
  | .shr => .shr
  | _ => .bor
def Rc.both : Rc → Rc → Rc
  | .fresh, .fresh => .fresh
  | .bor, _ => .bor
  | _, .bor => .bor
  | _, _ => .shr
def eVar (i : Nat) : Tn → R D := fun τ => match τ[i]? with
  | some (some d) => .ok d
  | _ => .bad
def eC (d : D) : Tn → R D := fun _ => .ok d
def eImm (t : Tn → R D) : Tn → R D := fun τ => (t τ).bind fun d => if d.imm = true then .ok d else .bad
def eBin (g : D → D → R D) (a b : Tn → R D) : Tn → R D := fun τ => (a τ).bind fun x => (b τ).bind fun y => g x y
def eUn (g : D → R D) (a : Tn → R D) : Tn → R D := fun τ => (a τ).bind g
def aNil : Tn → R (List D) := fun _ => .ok []
def aCons (a : Tn → R D) (b : Tn → R (List D)) : Tn → R (List D) := fun τ => (a τ).bind fun x => (b τ).bind fun xs => .ok (x :: xs)
def eL (g : List D → R D) (a : Tn → R (List D)) : Tn → R D := fun τ => (a τ).bind g
def asB : D → R Bool
  | .bl b => .ok b
  | _ => .bad
def eTest (a : Tn → R D) : Tn → R Bool := fun τ => (a τ).bind asB
def bAnd (a b : Tn → R Bool) : Tn → R Bool := fun τ => (a τ).bind fun x => if x = true then b τ else .ok false
def bOr (a b : Tn → R Bool) : Tn → R Bool := fun τ => (a τ).bind fun x => if x = true then .ok true else b τ
def bNot (a : Tn → R Bool) : Tn → R Bool := fun τ => (a τ).bind fun x => .ok (!x)
def eAnd (a b : Tn → R D) : Tn → R D := fun τ => (a τ).bind fun x => (asB x).bind fun k => if k = true then b τ else .ok (.bl false)
def eOr (a b : Tn → R D) : Tn → R D := fun τ => (a τ).bind fun x => (asB x).bind fun k => if k = true then .ok (.bl true) else b τ
def eNot (a : Tn → R D) : Tn → R D := fun τ => (a τ).bind fun x => (asB x).bind fun k => .ok (.bl (!k))
def eIf (c : Tn → R Bool) (a b : Tn → R D) : Tn → R D := fun τ => (c τ).bind fun k => if k = true then a τ else b τ
def eChain (g g' : D → D → R D) (a b c : Tn → R D) : Tn → R D := fun τ => (a τ).bind fun x => (b τ).bind fun y => (g x y).bind fun z => (asB z).bind fun k => if k = true then (c τ).bind fun w => g' y w else .ok (.bl false)
section
variable {X : Cx} {E : XK} {Γ : List Cl} {e a b : Expr} {t ta tb tc : Tn → R D} {c ca cb : Rc} {pos : Pos}
theorem me_name {i : Nat} {x : Str} {k : Cl} (hN : X.N[i]? = some x) (hk : Γ[i]? = some k) (hd : k ≠ .dead) (hv : Vis X.env.scope x) (hb : (x == ("__debug__" : Str)) = false := by decide) (hcd : (x == ("__classdict__" : Str)) = false := by decide) :
    ME X E Γ (.Name x pos) (eVar i) (Rc.of k) := by
  refine ⟨tVar i, pe_var hN hv hb hcd, fun O σ H τ Q ok h => ?_⟩
  obtain ⟨v, d, L, e1, e2, e3, e4⟩ := ok.slot i k hk hd
  unfold eVar at h
  rw [e2] at h
  refine ⟨v, e1, h v H L (Same.refl H) e3 ?_⟩
  cases k with
  | shr => exact e4 rfl
  | own => trivial
  | brw => trivial
  | dead => trivial
theorem me_c {d : D} {v : V} (hp : PE X e (tC v)) (hr : ∀ H, Rep X.K H d v []) : ME X E Γ e (eC d) .fresh :=
  ⟨tC v, hp, fun O σ H τ Q ok h => h v H [] (Same.refl H) (hr H) RcOk.nil⟩
theorem me_int {i : Int} {j} : ME X E Γ (.Constant (.int i) j pos) (eC (.int i)) .fresh := me_c pe_int fun _ => ⟨rfl, rfl⟩
theorem me_bl {i : Bool} {j} : ME X E Γ (.Constant (.bool i) j pos) (eC (.bl i)) .fresh := me_c pe_bl fun _ => ⟨rfl, rfl⟩
theorem me_str {x : Str} {j} : ME X E Γ (.Constant (.str x) j pos) (eC (.str x)) .fresh := me_c pe_str fun _ => ⟨rfl, rfl⟩
theorem me_imm (h : ME X E Γ e t c) : ME X E Γ e (eImm t) .fresh := by
  obtain ⟨te, p, q⟩ := h
  refine ⟨te, p, fun O σ H τ Q ok h => q O σ H τ Q ok ?_⟩
  unfold eImm at h
  cases ht : t τ with
  | ok d =>
    rw [ht] at h
    refine fun v H' L s r k => ?_
    rw [R.ok_bind] at h
    by_cases hi : d.imm = true
    · rw [if_pos hi] at h
      have := Rep.imm d v L r hi
      subst this
      exact h v H' [] s r RcOk.nil
    · rw [if_neg hi] at h; exact h.elim
  | err n => rw [ht] at h; exact h
  | bad => rw [ht] at h; exact h
theorem post.bind {K : PySem.W.Frag} {O : Addr → Prop} {H : Hp} {Q Q' : VK} {r : R D} {f : D → R D} (h : post K E O c H Q (r.bind f)) (hf : ∀ d, r = .ok d → post K E O c H Q (f d) → ∀ v H' L, Same H H' → Rep K H' d v L → RcOk ca O H L → Q' v H') : post K E O ca H Q' r := by
  cases r with
  | ok d => exact hf d rfl h
  | err n => exact h
  | bad => exact h
theorem ma_nil : MA X E Γ [] aNil .fresh := ⟨fun τ ds h => by cases h; rfl, tNil, pa_nil, fun O σ H τ Q ok h => h [] H [] (Same.refl H) Reps.nil RcOk.nil⟩
theorem RcOk.append {K : PySem.W.Frag} {O : Addr → Prop} {H H1 : Hp} {d : D} {v : V} {L1 L2 : List Addr} (dom : ∀ a, O a → H a ≠ none) (s : Same H H1) (r : Rep K H1 d v L1) (h1 : RcOk ca O H L1) (h2 : RcOk cb O H1 L2) : RcOk (Rc.both ca cb) O H (L1 ++ L2) := by
  have dom1 : ∀ a, O a → H1 a ≠ none := fun a h => by rw [s.at (dom a h)]; exact dom a h
  by_cases hf : ca = .fresh ∧ cb = .fresh
  · obtain ⟨rfl, rfl⟩ := hf
    refine ⟨List.nodup_append.mpr ⟨h1.1, h2.1, fun a ha b hb z => ?_⟩, fun a ha => ?_⟩
    · subst z
      exact r.there ha (h2.2 a hb)
    · rcases List.mem_append.mp ha with z | z
      · exact h1.2 a z
      · exact s.non (h2.2 a z)
  · have key : ca ≠ .bor → cb ≠ .bor → ∀ a ∈ L1 ++ L2, ¬ O a := fun n1 n2 a ha => by
      rcases List.mem_append.mp ha with z | z
      · exact h1.shr dom n1 a z
      · exact h2.shr dom1 n2 a z
    cases ca <;> cases cb <;> first | exact absurd ⟨rfl, rfl⟩ hf | trivial | exact key (by simp) (by simp)
theorem ma_cons {es : List Expr} {u : Tn → R (List D)} (h : ME X E Γ e t ca) (r : MA X E Γ es u cb) (hs : starEach (e :: es) X.env = (false, eval e X.env) :: starEach es X.env := by rfl) : MA X E Γ (e :: es) (aCons t u) (Rc.both ca cb) := by
  obtain ⟨te, p1, q1⟩ := h
  obtain ⟨hl, ta, p2, q2⟩ := r
  refine ⟨fun τ ds h => ?_, tCons te ta, pa_cons p1 p2 hs, fun O σ H τ Q ok h => ?_⟩
  · unfold aCons at h
    cases h1 : t τ with
    | ok d =>
      rw [h1, R.ok_bind] at h
      cases h2 : u τ with
      | ok xs =>
        rw [h2, R.ok_bind] at h
        cases h
        rw [List.length_cons, List.length_cons, hl τ xs h2]
      | err n => rw [h2] at h; cases h
      | bad => rw [h2] at h; cases h
    | err n => rw [h1] at h; cases h
    | bad => rw [h1] at h; cases h
  · unfold aCons at h
    refine q1 O σ H τ _ ok ?_
    cases h1 : t τ with
    | ok d =>
      rw [h1, R.ok_bind] at h
      refine fun v H1 L1 s1 r1 k1 => q2 O σ H1 τ _ (ok.same s1) ?_
      cases h2 : u τ with
      | ok xs =>
        rw [h2, R.ok_bind] at h
        exact fun vs H2 L2 s2 r2 k2 => h (v :: vs) H2 (L1 ++ L2) (s1.trans s2) (Reps.cons (r1.same s2) r2) (RcOk.append ok.dom s1 r1 k1 k2)
      | err n => rw [h2] at h; exact fun C H' e s' => h C H' e (s1.trans s')
      | bad => rw [h2] at h; exact h
    | err n => rw [h1] at h; exact h
    | bad => rw [h1] at h; exact h
theorem me_lst {es : List Expr} {u : Tn → R (List D)} (h : MA X E Γ es u c) (hz : es.length ≤ 1000 := by decide) : ME X E Γ (.List es pos) (eL (fun ds => .ok (.lst ds)) u) c := by
  obtain ⟨hl, ta, p, q⟩ := h
  refine ⟨tLst ta, pe_lst p, fun O σ H τ Q ok h => q O σ H τ _ ok ?_⟩
  unfold eL at h
  have hs : sizeLine = 16777216 := sizeLine_eq
  cases hu : u τ with
  | ok ds =>
    rw [hu, R.ok_bind] at h
    refine fun vs H1 L s r k => ⟨by rw [r.length, hl τ ds hu]; lia, fun p hp => ?_⟩
    refine h _ _ (p :: L) (s.trans (Same.new hp)) ⟨p, vs, L, rfl, upd_same, rfl, r.same (Same.new hp)⟩ ?_
    have np : H p = none := s.non hp
    cases c with
    | fresh =>
      refine ⟨List.nodup_cons.mpr ⟨fun z => r.there z hp, k.1⟩, fun a ha => ?_⟩
      rcases List.mem_cons.mp ha with z | z
      · rw [z]; exact np
      · exact k.2 a z
    | shr =>
      intro a ha
      rcases List.mem_cons.mp ha with z | z
      · rw [z]; exact fun o => ok.dom p o np
      · exact k a z
    | bor => trivial
  | err n => rw [hu] at h; exact h
  | bad => rw [hu] at h; exact h
theorem mt_val (h : ME X E Γ e t c) (he : ∀ whole, isTrue e X.env whole = (do let v ← whole; standAt e.pos; holding [v] (truthy v)) := by intro _; rfl) : MT X E Γ e (eTest t) := by
  obtain ⟨te, p, q⟩ := h
  refine ⟨tB te, pt_val p he, fun O σ H τ Q ok h => q O σ H τ _ ok ?_⟩
  unfold eTest at h
  cases ht : t τ with
  | ok d =>
    rw [ht, R.ok_bind] at h
    refine fun v H' L s r _ => ?_
    cases d with
    | bl k => exact ⟨k, r.1, h H' s⟩
    | _ => exact h.elim
  | err n => rw [ht] at h; exact h
  | bad => rw [ht] at h; exact h
variable {u v : Tn → R Bool} {rest : List Expr}
theorem mt_not (h : MT X E Γ a u) : MT X E Γ (.UnaryOp .Not a pos) (bNot u) := by
  obtain ⟨te, p, q⟩ := h
  refine ⟨tNot te, pt_not p, fun O σ H τ Q ok h => q O σ H τ _ ok ?_⟩
  unfold bNot at h
  cases ht : u τ with
  | ok d => rw [ht, R.ok_bind] at h; exact h
  | err n => rw [ht] at h; exact h
  | bad => rw [ht] at h; exact h
theorem mw_and1 (h : MT X E Γ a u) : MW X E Γ (.BoolOp .And [a] pos) u := by
  obtain ⟨te, p, q⟩ := h
  exact ⟨te, pw_and1 p, q⟩
theorem mw_or1 (h : MT X E Γ a u) : MW X E Γ (.BoolOp .Or [a] pos) u := by
  obtain ⟨te, p, q⟩ := h
  exact ⟨te, pw_or1 p, q⟩
theorem mw_and (h : MT X E Γ a u) (r : MW X E Γ (.BoolOp .And (b :: rest) pos) v) : MW X E Γ (.BoolOp .And (a :: b :: rest) pos) (bAnd u v) := by
  obtain ⟨te, p, q⟩ := h
  obtain ⟨te', p', q'⟩ := r
  refine ⟨tAnd te te', pw_and p p', fun O σ H τ Q ok h => q O σ H τ _ ok ?_⟩
  unfold bAnd at h
  cases ht : u τ with
  | ok d =>
    rw [ht, R.ok_bind] at h
    refine fun H1 s1 => ?_
    cases d with
    | true => rw [if_pos rfl] at h ⊢; exact q' O σ H1 τ Q (ok.same s1) (h.same s1)
    | false => rw [if_neg Bool.false_ne_true] at h ⊢; exact h H1 s1
  | err n => rw [ht] at h; exact h
  | bad => rw [ht] at h; exact h
theorem mw_or (h : MT X E Γ a u) (r : MW X E Γ (.BoolOp .Or (b :: rest) pos) v) : MW X E Γ (.BoolOp .Or (a :: b :: rest) pos) (bOr u v) := by
  obtain ⟨te, p, q⟩ := h
  obtain ⟨te', p', q'⟩ := r
  refine ⟨tOr te te', pw_or p p', fun O σ H τ Q ok h => q O σ H τ _ ok ?_⟩
  unfold bOr at h
  cases ht : u τ with
  | ok d =>
    rw [ht, R.ok_bind] at h
    refine fun H1 s1 => ?_
    cases d with
    | true => rw [if_pos rfl] at h ⊢; exact h H1 s1
    | false => rw [if_neg Bool.false_ne_true] at h ⊢; exact q' O σ H1 τ Q (ok.same s1) (h.same s1)
  | err n => rw [ht] at h; exact h
  | bad => rw [ht] at h; exact h
theorem me_one {op} (h : ME X E Γ a t c) : ME X E Γ (.BoolOp op [a] pos) t c := by
  obtain ⟨te, p, q⟩ := h
  exact ⟨te, pe_one p, q⟩
theorem asB_post {K : PySem.W.Frag} {O : Addr → Prop} {H : Hp} {Q : VK} {d : D} {f : Bool → R D} (h : post K E O c H Q ((asB d).bind f)) {v : V} {H' : Hp} {L : List Addr} (r : Rep K H' d v L) : ∃ k, v = .bl k ∧ d = .bl k ∧ post K E O c H Q (f k) := by
  cases d with
  | bl k => exact ⟨k, r.1, rfl, h⟩
  | _ => exact h.elim
theorem me_and (ha : ME X E Γ a ta ca) (hb : ME X E Γ (.BoolOp .And (b :: rest) pos) tb c) : ME X E Γ (.BoolOp .And (a :: b :: rest) pos) (eAnd ta tb) c := by
  obtain ⟨te, p, q⟩ := ha
  obtain ⟨te', p', q'⟩ := hb
  refine ⟨tAndV te te', pe_and p p', fun O σ H τ Q ok h => q O σ H τ _ ok (post.bind h fun d _ h v H1 L s r _ => ?_)⟩
  obtain ⟨k, e1, e2, h⟩ := asB_post h r
  refine ⟨k, e1, ?_⟩
  cases k with
  | true => rw [if_pos rfl] at h ⊢; exact q' O σ H1 τ Q (ok.same s) (h.same s)
  | false => rw [if_neg Bool.false_ne_true] at h ⊢; exact h _ H1 [] s ⟨rfl, rfl⟩ RcOk.nil
def OpB (K : PySem.W.Frag) (r : R2) (g : D → D → R D) : Prop :=
  ∀ H x y dx dy Lx Ly (Q : VK), Rep K H dx x Lx → Rep K H dy y Ly → (∃ d, g dx dy = .ok d ∧ ∀ v H' L, Same H H' → Rep K H' d v L → L.Nodup → (∀ a ∈ L, H a = none) → Q v H') → r x y H Q
def NoErr (g : D → D → R D) : Prop := ∀ x y n, g x y ≠ .err n
theorem bin_go {r : R2} {g : D → D → R D} {te te' : TE} (hB : OpB X.K r g) (hn : NoErr g) (q : ∀ O σ H τ Q, EOk X.K Γ O H σ τ → post X.K E O ca H Q (ta τ) → te σ H Q) (q' : ∀ O σ H τ Q, EOk X.K Γ O H σ τ → post X.K E O cb H Q (tb τ) → te' σ H Q)
    {O : Addr → Prop} {σ : St} {H : Hp} {τ : Tn} {Q : VK} (ok : EOk X.K Γ O H σ τ) (h : post X.K E O .fresh H Q (eBin g ta tb τ)) : tOp r te te' σ H Q := by
  unfold eBin at h
  refine q O σ H τ _ ok (post.bind h fun dx _ h x H1 Lx s1 rx _ => q' O σ H1 τ _ (ok.same s1) (post.bind (h.same s1) fun dy _ h y H2 Ly s2 ry _ => ?_))
  cases hg : g dx dy with
  | ok d =>
    rw [hg] at h
    exact hB H2 x y dx dy Lx Ly Q (rx.same s2) ry ⟨d, hg, fun v H' L s r n1 n2 => h v H' L (s2.trans s) r ⟨n1, fun a ha => s2.non (n2 a ha)⟩⟩
  | err n => exact absurd hg (hn _ _ _)
  | bad => rw [hg] at h; exact h.elim
theorem me_op {op : Operator} {r : R2} {g : D → D → R D} (ho : OpR X (binaryOp op) r) (hB : OpB X.K r g) (hn : NoErr g) (ha : ME X E Γ a ta ca) (hb : ME X E Γ b tb cb) : ME X E Γ (.BinOp a op b pos) (eBin g ta tb) .fresh := by
  obtain ⟨te, p, q⟩ := ha
  obtain ⟨te', p', q'⟩ := hb
  exact ⟨_, pe_op ho p p', fun O σ H τ Q ok h => bin_go hB hn q q' ok h⟩
theorem me_cmp {op : CmpOp} {r : R2} {g : D → D → R D} (ho : OpR X (compareOp op) r) (hB : OpB X.K r g) (hn : NoErr g) (ha : ME X E Γ a ta ca) (hb : ME X E Γ b tb cb) (hm : behindInMarks op b = false) : ME X E Γ (.Compare a [op] [b] pos) (eBin g ta tb) .fresh := by
  obtain ⟨te, p, q⟩ := ha
  obtain ⟨te', p', q'⟩ := hb
  exact ⟨_, pe_cmpR ho p p' hm, fun O σ H τ Q ok h => bin_go hB hn q q' ok h⟩
theorem test_post {K : PySem.W.Frag} {O : Addr → Prop} {H : Hp} {Q : Bool → Hp → Prop} {r : R D} (h : postB K E H Q (r.bind asB)) : post K E O c H (fun x H' => ∃ k, x = .bl k ∧ Q k H') r := by
  cases r with
  | ok d =>
    refine fun v H' L s r _ => ?_
    cases d with
    | bl k => exact ⟨k, r.1, h H' s⟩
    | _ => exact h.elim
  | err n => exact h
  | bad => exact h
theorem mt_cmp {op : CmpOp} {r : R2} {g : D → D → R D} (ho : OpR X (compareOp op) r) (hB : OpB X.K r g) (hn : NoErr g) (ha : ME X E Γ a ta ca) (hb : ME X E Γ b tb cb) (hm : behindInMarks op b = false) : MT X E Γ (.Compare a [op] [b] pos) (eTest (eBin g ta tb)) := by
  obtain ⟨te, p, q⟩ := ha
  obtain ⟨te', p', q'⟩ := hb
  exact ⟨_, pt_cmpR ho p p' hm, fun O σ H τ Q ok h => bin_go (O := O) hB hn q q' ok (test_post h)⟩
theorem chain_go {c' : Expr} {cc : Rc} {r r' : R2} {g g' : D → D → R D} {te te' te2 : TE} (hB : OpB X.K r g) (hn : NoErr g) (hB' : OpB X.K r' g') (hn' : NoErr g') (q : ∀ O σ H τ Q, EOk X.K Γ O H σ τ → post X.K E O ca H Q (ta τ) → te σ H Q) (q' : ∀ O σ H τ Q, EOk X.K Γ O H σ τ → post X.K E O cb H Q (tb τ) → te' σ H Q)
    (q2 : ∀ O σ H τ Q, EOk X.K Γ O H σ τ → post X.K E O cc H Q (tc τ) → te2 σ H Q) {O : Addr → Prop} {σ : St} {H : Hp} {τ : Tn} {Q : VK} (ok : EOk X.K Γ O H σ τ) (h : post X.K E O .fresh H Q (eChain g g' ta tb tc τ)) : tChain r r' te te' te2 σ H Q := by
  unfold eChain at h
  refine q O σ H τ _ ok (post.bind h fun dx _ h x H1 Lx s1 rx _ => q' O σ H1 τ _ (ok.same s1) (post.bind (h.same s1) fun dy _ h y H2 Ly s2 ry _ => ?_))
  cases hg : g dx dy with
  | ok d =>
    rw [hg, R.ok_bind] at h
    refine hB H2 x y dx dy Lx Ly _ (rx.same s2) ry ⟨d, hg, fun z H3 L s3 r3 n1 n2 => ?_⟩
    obtain ⟨k, e1, e2, h⟩ := asB_post (h.same s2) r3
    refine ⟨k, e1, ?_⟩
    cases k with
    | true =>
      rw [if_pos rfl] at h ⊢
      have ok3 := ((ok.same s1).same s2).same s3
      refine q2 O σ H3 τ _ ok3 (post.bind (h.same s3) fun dw _ h w H4 Lw s4 rw4 _ => ?_)
      cases hg' : g' dy dw with
      | ok d' =>
        rw [hg'] at h
        exact hB' H4 y w dy dw Ly Lw Q ((ry.same s3).same s4) rw4 ⟨d', hg', fun v H' L s r n1 n2 => h v H' L (s4.trans s) r ⟨n1, fun a ha => s4.non (n2 a ha)⟩⟩
      | err n => exact absurd hg' (hn' _ _ _)
      | bad => rw [hg'] at h; exact h.elim
    | false => rw [if_neg Bool.false_ne_true] at h ⊢; exact h _ H3 [] s3 ⟨rfl, rfl⟩ RcOk.nil
  | err n => exact absurd hg (hn _ _ _)
  | bad => rw [hg] at h; exact h.elim
theorem mt_chain {op op' : CmpOp} {c' : Expr} {cc : Rc} {r r' : R2} {g g' : D → D → R D} (ho : OpR X (compareOp op) r) (hB : OpB X.K r g) (hn : NoErr g) (ho' : OpR X (compareOp op') r') (hB' : OpB X.K r' g') (hn' : NoErr g')
    (ha : ME X E Γ a ta ca) (hb : ME X E Γ b tb cb) (hc : ME X E Γ c' tc cc) (hm : lastMarks [op, op'] [b, c'] = false := by with_unfolding_all rfl) : MT X E Γ (.Compare a [op, op'] [b, c'] pos) (eTest (eChain g g' ta tb tc)) := by
  obtain ⟨te, p, q⟩ := ha
  obtain ⟨te', p', q'⟩ := hb
  obtain ⟨te2, p2, q2⟩ := hc
  exact ⟨_, pt_chain ho ho' p p' p2 hm, fun O σ H τ Q ok h => chain_go (c' := c') (O := O) hB hn hB' hn' q q' q2 ok (test_post h)⟩
def eChain3 (g g' g2 : D → D → R D) (a b c d : Tn → R D) : Tn → R D := fun τ => (a τ).bind fun x => (b τ).bind fun y => (g x y).bind fun z => (asB z).bind fun k => if k = true then (c τ).bind fun w => (g' y w).bind fun z' => (asB z').bind fun k' => if k' = true then (d τ).bind fun v => g2 w v else .ok (.bl false) else .ok (.bl false)
def ClB (K : PySem.W.Frag) (r : List V → Hp → VK → Prop) (g : List D → R D) : Prop :=
  ∀ H xs ds L (Q : VK), Reps K H ds xs L → (∃ d, g ds = .ok d ∧ ∀ v H' L', Same H H' → Rep K H' d v L' → L'.Nodup → (∀ a ∈ L', H a = none) → Q v H') → r xs H Q
def NoErrL (g : List D → R D) : Prop := ∀ ds n, g ds ≠ .err n
variable {uL : Tn → R (List D)} {es : List Expr}
theorem cb_go {r : List V → Hp → VK → Prop} {g : List D → R D} {ta' : TA} (hB : ClB X.K r g) (hn : NoErrL g) (q : ∀ O σ H τ Q, EOk X.K Γ O H σ τ → postL X.K E O ca H Q (uL τ) → ta' σ H Q)
    {O : Addr → Prop} {σ : St} {H : Hp} {τ : Tn} {Q : VK} (ok : EOk X.K Γ O H σ τ) (h : post X.K E O .fresh H Q (eL g uL τ)) : tCB r ta' σ H Q := by
  refine q O σ H τ _ ok ?_
  unfold eL at h
  cases hu : uL τ with
  | ok ds =>
    rw [hu, R.ok_bind] at h
    refine fun vs H1 L s1 r1 _ => ?_
    cases hg : g ds with
    | ok d =>
      rw [hg] at h
      exact hB H1 vs ds L Q r1 ⟨d, hg, fun v H' L s r n1 n2 => h v H' L (s1.trans s) r ⟨n1, fun a ha => s1.non (n2 a ha)⟩⟩
    | err n => exact absurd hg (hn _ _)
    | bad => rw [hg] at h; exact h.elim
  | err n => rw [hu] at h; exact h
  | bad => rw [hu] at h; exact h
variable {x : Str} {id T : String} {p : Pos}
theorem me_callB {r : List V → Hp → VK → Prop} {g : List D → R D} (hc : CallR X (.builtin id) r) (hB : ClB X.K r g) (hn : NoErrL g) (hg : Gl X x) (hm : X.mg x = none) (hv : bootBuiltins x = some (.builtin id)) (ha : MA X E Γ (e :: es) uL ca) (hx : x ≠ "__name__" := by decide) (hdb : (x == ("__debug__" : Str)) = false := by decide)
    (he : starEach (e :: es) X.env = (false, eval e X.env) :: starEach es X.env := by rfl) (hpl : (backTo pos (starEach es X.env)).any (·.1) = false := by rfl) : ME X E Γ (.Call (.Name x p) (e :: es) [] pos) (eL g uL) .fresh := by
  obtain ⟨_, ta', p', q⟩ := ha
  exact ⟨_, pe_callB hc hg hm hv p' hx hdb he hpl, fun O σ H τ Q ok h => cb_go hB hn q ok h⟩
theorem me_callTy {r : List V → Hp → VK → Prop} {g : List D → R D} (hc : CallR X (.type T) r) (hB : ClB X.K r g) (hn : NoErrL g) (hg : Gl X x) (hm : X.mg x = none) (hv : bootBuiltins x = some (.type T)) (ha : MA X E Γ (e :: es) uL ca) (hx : x ≠ "__name__" := by decide) (hdb : (x == ("__debug__" : Str)) = false := by decide)
    (he : starEach (e :: es) X.env = (false, eval e X.env) :: starEach es X.env := by rfl) (hpl : (backTo pos (starEach es X.env)).any (·.1) = false := by rfl) : ME X E Γ (.Call (.Name x p) (e :: es) [] pos) (eL g uL) .fresh := by
  obtain ⟨_, ta', p', q⟩ := ha
  exact ⟨_, pe_callTy hc hg hm hv p' hx hdb he hpl, fun O σ H τ Q ok h => cb_go hB hn q ok h⟩
end
end L2
set_option maxRecDepth 100000
set_option maxHeartbeats 4000000
namespace L2
open PySem PySem.Spec PyProof.Rows
def wpE (K : PySem.W.Frag) (E : XK) (Γ : List Cl) (t : Tn → R D) (c : Rc) : TE := fun σ H Q => ∃ O τ, EOk K Γ O H σ τ ∧ post K E O c H Q (t τ)
def wpT (K : PySem.W.Frag) (E : XK) (Γ : List Cl) (t : Tn → R Bool) : TT := fun σ H Q => ∃ O τ, EOk K Γ O H σ τ ∧ postB K E H Q (t τ)
theorem ME.pe {X : Cx} {E : XK} {Γ : List Cl} {e : Expr} {t : Tn → R D} {c : Rc} (h : ME X E Γ e t c) : PE X e (wpE X.K E Γ t c) := by
  obtain ⟨te, p, q⟩ := h
  rintro pins s σ H Q I ⟨O, τ, ok, z⟩
  exact p pins s σ H Q I (q O σ H τ Q ok z)
theorem MT.pt {X : Cx} {E : XK} {Γ : List Cl} {e : Expr} {t : Tn → R Bool} (h : MT X E Γ e t) : PT X e (wpT X.K E Γ t) := by
  obtain ⟨te, p, q⟩ := h
  rintro pins s σ H Q I ⟨O, τ, ok, z⟩
  exact p pins s σ H Q I (q O σ H τ Q ok z)
structure SOk (K : PySem.W.Frag) (Γ : List Cl) (B H : Hp) (σ : St) (τ : Tn) (T : List Addr) : Prop where
  ext : Same B H
  lσ : σ.length = Γ.length
  lτ : τ.length = Γ.length
  ex : ∃ Ls : Nat → List Addr,
    (∀ i c, Γ[i]? = some c → c ≠ .dead → ∃ v d, σ[i]? = some (some v) ∧ τ[i]? = some (some d) ∧ Rep K H d v (Ls i)) ∧
    (∀ i, Γ[i]? = some .own → (Ls i).Nodup ∧ ∀ a ∈ Ls i, B a = none) ∧
    (∀ i j c, i ≠ j → Γ[i]? = some .own → Γ[j]? = some c → c ≠ .dead → ∀ a ∈ Ls i, a ∉ Ls j) ∧
    T.Nodup ∧ (∀ a ∈ T, B a = none ∧ H a ≠ none) ∧ (∀ i c, Γ[i]? = some c → c ≠ .dead → ∀ a ∈ Ls i, a ∉ T)
inductive Fl where
  | nx (τ : Tn) | rt (d : D) | bk (τ : Tn) | ct (τ : Tn)
def postV (K : PySem.W.Frag) (E : XK) (B : Hp) (Γ' : List Cl) (σ : St) (τ : Tn) (T : List Addr) (H : Hp) (Q : VK) : R D → Prop
  | .ok d => ∀ v H' L, Same H H' → Rep K H' d v L → SOk K Γ' B H' σ τ (L ++ T) → Q v H'
  | .err n => ∀ C H', ErrC K n C → Same B H' → E (.ref C) none H'
  | .bad => False
def postS (K : PySem.W.Frag) (E : XK) (B : Hp) (Γl Γ' : List Cl) (Z : Ends) : R Fl → Prop
  | .ok (.nx τ') => ∀ σ' H', SOk K Γ' B H' σ' τ' [] → Z.nx σ' H'
  | .ok (.rt d) => ∀ v H' L, Same B H' → Rep K H' d v L → L.Nodup → (∀ a ∈ L, B a = none) → Z.rt v H'
  | .ok (.bk τ') => ∀ σ' H', SOk K Γl B H' σ' τ' [] → Z.bk σ' H'
  | .ok (.ct τ') => ∀ σ' H', SOk K Γl B H' σ' τ' [] → Z.ct σ' H'
  | .err n => ∀ C H', ErrC K n C → Same B H' → E (.ref C) none H'
  | .bad => False
def MV (X : Cx) (E : XK) (Γ : List Cl) (e : Expr) (t : Tn → R D) (Γ' : List Cl) : Prop :=
  ∃ te, PE X e te ∧ ∀ B σ H τ T Q, SOk X.K Γ B H σ τ T → postV X.K E B Γ' σ τ T H Q (t τ) → te σ H Q
def MS (X : Cx) (E : XK) (Γl Γ : List Cl) (s : Stmt) (t : Tn → R Fl) (Γ' : List Cl) : Prop :=
  ∃ ts, PS X s ts ∧ ∀ B σ H τ Z, SOk X.K Γ B H σ τ [] → postS X.K E B Γl Γ' Z (t τ) → ts Z σ H
def MSs (X : Cx) (E : XK) (Γl Γ : List Cl) (s : List Stmt) (t : Tn → R Fl) (Γ' : List Cl) : Prop :=
  ∃ ts, PSs X s ts ∧ ∀ B σ H τ Z, SOk X.K Γ B H σ τ [] → postS X.K E B Γl Γ' Z (t τ) → ts Z σ H
section
variable {K : PySem.W.Frag} {Γ Γ' : List Cl} {B H H1 : Hp} {σ : St} {τ : Tn} {T : List Addr}
theorem SOk.eok (h : SOk K Γ B H σ τ T) : ∃ O : Addr → Prop, EOk K Γ O H σ τ ∧ (∀ L : List Addr, (∀ a ∈ L, ¬ O a) → ∃ Ls : Nat → List Addr,
    (∀ i c, Γ[i]? = some c → c ≠ .dead → ∃ v d, σ[i]? = some (some v) ∧ τ[i]? = some (some d) ∧ Rep K H d v (Ls i)) ∧
    (∀ i, Γ[i]? = some .own → (Ls i).Nodup ∧ ∀ a ∈ Ls i, B a = none) ∧
    (∀ i j c, i ≠ j → Γ[i]? = some .own → Γ[j]? = some c → c ≠ .dead → ∀ a ∈ Ls i, a ∉ Ls j) ∧
    T.Nodup ∧ (∀ a ∈ T, B a = none ∧ H a ≠ none) ∧ (∀ i c, Γ[i]? = some c → c ≠ .dead → ∀ a ∈ Ls i, a ∉ T) ∧ ∀ i, Γ[i]? = some .own → ∀ a ∈ Ls i, a ∉ L) := by
  obtain ⟨Ls, h1, h2, h3, h4, h5, h6⟩ := h.ex
  refine ⟨fun a => ∃ i, Γ[i]? = some .own ∧ a ∈ Ls i, ⟨fun a ⟨i, e, ha⟩ => ?_, fun i c e hc => ?_⟩, fun L hL => ⟨Ls, h1, h2, h3, h4, h5, h6, fun i e a ha hm => hL a hm ⟨i, e, ha⟩⟩⟩
  · obtain ⟨v, d, _, _, r⟩ := h1 i _ e (by simp)
    exact r.there ha
  · obtain ⟨v, d, e1, e2, r⟩ := h1 i c e hc
    refine ⟨v, d, Ls i, e1, e2, r, fun z a ha ⟨j, ej, hj⟩ => ?_⟩
    subst z
    have hij : j ≠ i := fun z => by subst z; rw [e] at ej; cases ej
    exact h3 j i _ hij ej e (by simp) a hj ha
theorem SOk.same (h : SOk K Γ B H σ τ T) (s : Same H H1) : SOk K Γ B H1 σ τ T := by
  obtain ⟨Ls, h1, h2, h3, h4, h5, h6⟩ := h.ex
  refine ⟨h.ext.trans s, h.lσ, h.lτ, Ls, fun i c e hc => ?_, h2, h3, h4, fun a ha => ⟨(h5 a ha).1, by rw [s.at (h5 a ha).2]; exact (h5 a ha).2⟩, h6⟩
  obtain ⟨v, d, e1, e2, r⟩ := h1 i c e hc
  exact ⟨v, d, e1, e2, r.same s⟩
theorem SOk.aside {L : List Addr} (h : SOk K Γ B H σ τ T) (s : Same H H1) (r : ∀ a ∈ L, H1 a ≠ none) (n1 : L.Nodup) (n2 : ∀ a ∈ L, H a = none) : SOk K Γ B H1 σ τ (L ++ T) := by
  obtain ⟨Ls, h1, h2, h3, h4, h5, h6⟩ := h.ex
  refine ⟨h.ext.trans s, h.lσ, h.lτ, Ls, fun i c e hc => ?_, h2, h3, List.nodup_append.mpr ⟨n1, h4, fun a ha b hb z => ?_⟩, fun a ha => ?_, fun i c e hc a ha hm => ?_⟩
  · obtain ⟨v, d, e1, e2, r⟩ := h1 i c e hc
    exact ⟨v, d, e1, e2, r.same s⟩
  · subst z; exact (h5 a hb).2 (n2 a ha)
  · rcases List.mem_append.mp ha with z | z
    · exact ⟨h.ext.non (n2 a z), r a z⟩
    · exact ⟨(h5 a z).1, by rw [s.at (h5 a z).2]; exact (h5 a z).2⟩
  · obtain ⟨v, d, e1, e2, r'⟩ := h1 i c e hc
    rcases List.mem_append.mp hm with z | z
    · exact r'.there ha (n2 a z)
    · exact h6 i c e hc a ha z
def wk1 : Cl → Cl → Bool
  | _, .dead => true
  | .own, .own => true
  | .own, .shr => true
  | .shr, .shr => true
  | _, _ => false
def wk : List Cl → List Cl → Bool
  | [], [] => true
  | a :: r, b :: q => wk1 a b && wk r q
  | _, _ => false
theorem wk_len : ∀ {Γ Γ' : List Cl}, wk Γ Γ' = true → Γ.length = Γ'.length
  | [], [], _ => rfl
  | a :: r, b :: q, h => by
    have h : (wk1 a b && wk r q) = true := h
    rw [Bool.and_eq_true] at h
    rw [List.length_cons, List.length_cons, wk_len h.2]
theorem wk_at : ∀ {Γ Γ' : List Cl} {i : Nat} {c : Cl}, wk Γ Γ' = true → Γ'[i]? = some c → ∃ k, Γ[i]? = some k ∧ wk1 k c = true
  | [], [], _, _, _, e => by simp at e
  | a :: r, b :: q, 0, c, h, e => by
    have h : (wk1 a b && wk r q) = true := h
    rw [Bool.and_eq_true] at h
    simp at e; subst e
    exact ⟨a, rfl, h.1⟩
  | a :: r, b :: q, i + 1, c, h, e => by
    have h : (wk1 a b && wk r q) = true := h
    rw [Bool.and_eq_true] at h
    obtain ⟨k, h1, h2⟩ := wk_at (i := i) (c := c) h.2 (by simpa using e)
    exact ⟨k, by simpa using h1, h2⟩
theorem SOk.weak (h : SOk K Γ B H σ τ T) (w : wk Γ Γ' = true) : SOk K Γ' B H σ τ T := by
  obtain ⟨Ls, h1, h2, h3, h4, h5, h6⟩ := h.ex
  have live : ∀ (i : Nat) (c : Cl), Γ'[i]? = some c → c ≠ Cl.dead → ∃ k, Γ[i]? = some k ∧ k ≠ Cl.dead ∧ (c = Cl.own → k = Cl.own) := fun i c e hc => by
    obtain ⟨k, e', w'⟩ := wk_at w e
    refine ⟨k, e', fun z => ?_, fun z => ?_⟩
    · subst z; cases c <;> first | exact absurd rfl hc | cases w'
    · subst z; cases k <;> first | rfl | cases w'
  refine ⟨h.ext, by rw [← wk_len w]; exact h.lσ, by rw [← wk_len w]; exact h.lτ, Ls, fun i c e hc => ?_, fun i e => ?_, fun i j c hij ei ej hc => ?_, h4, h5, fun i c e hc => ?_⟩
  · obtain ⟨k, e', n, _⟩ := live i c e hc
    exact h1 i k e' n
  · obtain ⟨k, e', n, o⟩ := live i _ e (by simp)
    rw [o rfl] at e'
    exact h2 i e'
  · obtain ⟨k, e', n, o⟩ := live i _ ei (by simp)
    obtain ⟨k2, e2, n2, _⟩ := live j c ej hc
    rw [o rfl] at e'
    exact h3 i j k2 hij e' e2 n2
  · obtain ⟨k, e', n, _⟩ := live i c e hc
    exact h6 i k e' n
def putL (Ls : Nat → List Addr) (i : Nat) (L : List Addr) : Nat → List Addr := fun j => if j = i then L else Ls j
theorem putL_self {Ls : Nat → List Addr} {i : Nat} {L : List Addr} : putL Ls i L i = L := if_pos rfl
theorem putL_eq {Ls : Nat → List Addr} {i j : Nat} {L : List Addr} (h : j = i) : putL Ls i L j = L := if_pos h
theorem putL_ne {Ls : Nat → List Addr} {i j : Nat} {L : List Addr} (h : j ≠ i) : putL Ls i L j = Ls j := if_neg h
theorem SOk.into {i : Nat} {d : D} {v : V} {L : List Addr} (h : SOk K Γ B H σ τ (L ++ T)) (r : Rep K H d v L) (hi : i < Γ.length) : SOk K (Γ.set i .own) B H (σ.set i (some v)) (τ.set i (some d)) T := by
  obtain ⟨Ls, h1, h2, h3, h4, h5, h6⟩ := h.ex
  have hσ : i < σ.length := by rw [h.lσ]; exact hi
  have hτ : i < τ.length := by rw [h.lτ]; exact hi
  obtain ⟨n1, n2, n3⟩ := List.nodup_append.mp h4
  have at' : ∀ (j : Nat) (c : Cl), j ≠ i → (Γ.set i .own)[j]? = some c → Γ[j]? = some c := fun j c hj e => by rw [List.getElem?_set_ne (Ne.symm hj)] at e; exact e
  refine ⟨h.ext, by rw [List.length_set, List.length_set]; exact h.lσ, by rw [List.length_set, List.length_set]; exact h.lτ, putL Ls i L, fun j c e hc => ?_, fun j e => ?_, fun j k c hjk ej ek hc a ha hm => ?_, n2, fun a ha => h5 a (List.mem_append_right _ ha), fun j c e hc a ha hm => ?_⟩
  · by_cases z : j = i
    · subst z
      refine ⟨v, d, by rw [List.getElem?_set_self hσ], by rw [List.getElem?_set_self hτ], ?_⟩
      rw [putL_self]; exact r
    · obtain ⟨v', d', e1, e2, r'⟩ := h1 j c (at' j c z e) hc
      refine ⟨v', d', by rw [List.getElem?_set_ne (Ne.symm z)]; exact e1, by rw [List.getElem?_set_ne (Ne.symm z)]; exact e2, ?_⟩
      rw [putL_ne z]; exact r'
  · by_cases z : j = i
    · subst z; rw [putL_self]; exact ⟨n1, fun a ha => (h5 a (List.mem_append_left _ ha)).1⟩
    · rw [putL_ne z]; exact h2 j (at' j _ z e)
  · by_cases z : j = i
    · subst z
      rw [putL_self] at ha
      rw [putL_ne (Ne.symm hjk)] at hm
      exact h6 k c (at' k c (Ne.symm hjk) ek) hc a hm (List.mem_append_left _ ha)
    · rw [putL_ne z] at ha
      by_cases z2 : k = i
      · subst z2
        rw [putL_self] at hm
        exact h6 j _ (at' j _ z ej) (by simp) a ha (List.mem_append_left _ hm)
      · rw [putL_ne z2] at hm
        exact h3 j k c hjk (at' j _ z ej) (at' k c z2 ek) hc a ha hm
  · by_cases z : j = i
    · subst z; rw [putL_self] at ha; exact n3 a ha a hm rfl
    · rw [putL_ne z] at ha; exact h6 j c (at' j c z e) hc a ha (List.mem_append_right _ hm)
end
end L2
set_option maxRecDepth 100000
set_option maxHeartbeats 4000000
namespace L2
open PySem PySem.Spec PyProof.Rows
section
variable {K : PySem.W.Frag} {Γ Γ' : List Cl} {B H H1 : Hp} {σ : St} {τ : Tn} {T : List Addr}
theorem SOk.intoS {i : Nat} {d : D} {v : V} {L : List Addr} {Ls : Nat → List Addr} (e0 : Same B H) (l1 : σ.length = Γ.length) (l2 : τ.length = Γ.length)
    (h1 : ∀ i c, Γ[i]? = some c → c ≠ .dead → ∃ v d, σ[i]? = some (some v) ∧ τ[i]? = some (some d) ∧ Rep K H d v (Ls i)) (h2 : ∀ i, Γ[i]? = some .own → (Ls i).Nodup ∧ ∀ a ∈ Ls i, B a = none)
    (h3 : ∀ i j c, i ≠ j → Γ[i]? = some .own → Γ[j]? = some c → c ≠ .dead → ∀ a ∈ Ls i, a ∉ Ls j) (h7 : ∀ i, Γ[i]? = some .own → ∀ a ∈ Ls i, a ∉ L) (r : Rep K H d v L) (hi : i < Γ.length) :
    SOk K (Γ.set i .shr) B H (σ.set i (some v)) (τ.set i (some d)) [] := by
  have hσ : i < σ.length := by rw [l1]; exact hi
  have hτ : i < τ.length := by rw [l2]; exact hi
  have at' : ∀ (j : Nat) (c : Cl), j ≠ i → (Γ.set i .shr)[j]? = some c → Γ[j]? = some c := fun j c hj e => by rw [List.getElem?_set_ne (Ne.symm hj)] at e; exact e
  have nown : ∀ j : Nat, (Γ.set i .shr)[j]? = some .own → j ≠ i := fun j e z => by subst z; rw [List.getElem?_set_self hi] at e; cases e
  refine ⟨e0, by rw [List.length_set, List.length_set]; exact l1, by rw [List.length_set, List.length_set]; exact l2, putL Ls i L, fun j c e hc => ?_, fun j e => ?_, fun j k c hjk ej ek hc a ha hm => ?_, List.nodup_nil, fun a ha => (nomatch ha), fun j c e hc a ha hm => (nomatch hm)⟩
  · by_cases z : j = i
    · subst z
      refine ⟨v, d, by rw [List.getElem?_set_self hσ], by rw [List.getElem?_set_self hτ], ?_⟩
      rw [putL_self]; exact r
    · obtain ⟨v', d', e1, e2, r'⟩ := h1 j c (at' j c z e) hc
      refine ⟨v', d', by rw [List.getElem?_set_ne (Ne.symm z)]; exact e1, by rw [List.getElem?_set_ne (Ne.symm z)]; exact e2, ?_⟩
      rw [putL_ne z]; exact r'
  · have z := nown j e
    rw [putL_ne z]; exact h2 j (at' j _ z e)
  · have z := nown j ej
    rw [putL_ne z] at ha
    by_cases z2 : k = i
    · rw [putL_eq z2] at hm; exact h7 j (at' j _ z ej) a ha hm
    · rw [putL_ne z2] at hm; exact h3 j k c hjk (at' j _ z ej) (at' k c z2 ek) hc a ha hm
end
section
variable {X : Cx} {E : XK} {Γ Γ1 Γ' Γl : List Cl} {e a b : Expr} {es : List Expr} {t : Tn → R D} {u : Tn → R (List D)} {c : Rc} {pos : Pos}
theorem mv_fresh (h : ME X E Γ e t .fresh) : MV X E Γ e t Γ := by
  obtain ⟨te, p, q⟩ := h
  refine ⟨te, p, fun B σ H τ T Q ok h => ?_⟩
  obtain ⟨O, eo, _⟩ := ok.eok
  refine q O σ H τ Q eo ?_
  cases ht : t τ with
  | ok d =>
    rw [ht] at h
    exact fun v H' L s r k => h v H' L s r (ok.aside s (fun a ha => r.there ha) k.1 k.2)
  | err n => rw [ht] at h; exact fun C H' e s => h C H' e (ok.ext.trans s)
  | bad => rw [ht] at h; exact h
def sSkip : Tn → R Fl := fun τ => .ok (.nx τ)
def sSeq (a b : Tn → R Fl) : Tn → R Fl := fun τ => (a τ).bind fun f => match f with
  | .nx τ' => b τ'
  | f => .ok f
def sDrop (t : Tn → R D) : Tn → R Fl := fun τ => (t τ).bind fun _ => .ok (.nx τ)
def sRet (t : Tn → R D) : Tn → R Fl := fun τ => (t τ).bind fun d => .ok (.rt d)
def sSet (i : Nat) (t : Tn → R D) : Tn → R Fl := fun τ => (t τ).bind fun d => .ok (.nx (τ.set i (some d)))
def sIf (k : Tn → R Bool) (a b : Tn → R Fl) : Tn → R Fl := fun τ => (k τ).bind fun x => if x = true then a τ else b τ
theorem mss_nil : MSs X E Γl Γ [] sSkip Γ := ⟨tNext, pss_nil, fun B σ H τ Z ok h => h σ H ok⟩
theorem mss_one {s : Stmt} {t : Tn → R Fl} (h : MS X E Γl Γ s t Γ') : MSs X E Γl Γ [s] t Γ' := by
  obtain ⟨ts, p, q⟩ := h
  exact ⟨ts, pss_one p, q⟩
theorem mss_cons {s : Stmt} {r : List Stmt} {t1 t2 : Tn → R Fl} (h : MS X E Γl Γ s t1 Γ1) (k : MSs X E Γl Γ1 r t2 Γ') : MSs X E Γl Γ (s :: r) (sSeq t1 t2) Γ' := by
  obtain ⟨ts, p, q⟩ := h
  obtain ⟨ts', p', q'⟩ := k
  refine ⟨tSeq ts ts', pss_cons p p', fun B σ H τ Z ok h => q B σ H τ _ ok ?_⟩
  unfold sSeq at h
  cases ht : t1 τ with
  | ok f =>
    rw [ht, R.ok_bind] at h
    cases f with
    | nx τ' => exact fun σ' H' ok' => q' B σ' H' τ' Z ok' h
    | rt d => exact h
    | bk τ' => exact h
    | ct τ' => exact h
  | err n => rw [ht] at h; exact h
  | bad => rw [ht] at h; exact h
theorem mss_weak {s : List Stmt} {t : Tn → R Fl} (h : MSs X E Γl Γ s t Γ1) (w : wk Γ1 Γ' = true) : MSs X E Γl Γ s t Γ' := by
  obtain ⟨ts, p, q⟩ := h
  refine ⟨ts, p, fun B σ H τ Z ok h => q B σ H τ Z ok ?_⟩
  cases ht : t τ with
  | ok f =>
    rw [ht] at h
    cases f with
    | nx τ' => exact fun σ' H' ok' => h σ' H' (ok'.weak w)
    | rt d => exact h
    | bk τ' => exact h
    | ct τ' => exact h
  | err n => rw [ht] at h; exact h
  | bad => rw [ht] at h; exact h
theorem ms_ret (h : MV X E Γ e t Γ1) : MS X E Γl Γ (.Return (some e) pos) (sRet t) Γ' := by
  obtain ⟨te, p, q⟩ := h
  refine ⟨tRet te, ps_ret p, fun B σ H τ Z ok h => q B σ H τ [] _ ok ?_⟩
  unfold sRet at h
  cases ht : t τ with
  | ok d =>
    rw [ht, R.ok_bind] at h
    refine fun v H' L s r ok' => ?_
    obtain ⟨Ls, _, _, _, h4, h5, _⟩ := ok'.ex
    rw [List.append_nil] at h4 h5
    exact h v H' L ok'.ext r h4 fun a ha => (h5 a ha).1
  | err n => rw [ht] at h; exact h
  | bad => rw [ht] at h; exact h
theorem ms_if {k : Expr} {u : Tn → R Bool} {sa sb : List Stmt} {t1 t2 : Tn → R Fl} (hk : MT X E Γ k u) (ha : MSs X E Γl Γ sa t1 Γ') (hb : MSs X E Γl Γ sb t2 Γ') : MS X E Γl Γ (.If k sa sb pos) (sIf u t1 t2) Γ' := by
  obtain ⟨te, p, q⟩ := hk
  obtain ⟨ts1, p1, q1⟩ := ha
  obtain ⟨ts2, p2, q2⟩ := hb
  refine ⟨tIfS te ts1 ts2, ps_if p p1 p2, fun B σ H τ Z ok h => ?_⟩
  obtain ⟨O, eo, _⟩ := ok.eok
  refine q O σ H τ _ eo ?_
  unfold sIf at h
  cases ht : u τ with
  | ok x =>
    rw [ht, R.ok_bind] at h
    refine fun H1 s1 => ?_
    cases x with
    | true => rw [if_pos rfl] at h ⊢; exact q1 B σ H1 τ Z (ok.same s1) h
    | false => rw [if_neg Bool.false_ne_true] at h ⊢; exact q2 B σ H1 τ Z (ok.same s1) h
  | err n => rw [ht] at h; exact fun C H' e s => h C H' e (ok.ext.trans s)
  | bad => rw [ht] at h; exact h
theorem ms_set {i : Nat} {x : Str} {pos' : Pos} (hN : X.N.Nodup) (hi : X.N[i]? = some x) (hl : i < Γ1.length) (h : MV X E Γ e t Γ1) (hx : Loc X.env.scope x) (hs : swapsWith e (some (.Name x pos')) pos.line X.env = pure false := by rfl) (hf : X.fn x = true ∨ X.env.scope.names.lookup x = some .local := by first | exact .inl rfl | exact .inr rfl | assumption) :
    MS X E Γl Γ (.Assign [.Name x pos'] e pos) (sSet i t) (Γ1.set i .own) := by
  obtain ⟨te, p, q⟩ := h
  refine ⟨_, ps_set hN hi hx p hs hf, fun B σ H τ Z ok h => q B σ H τ [] _ ok ?_⟩
  unfold sSet at h
  cases ht : t τ with
  | ok d =>
    rw [ht, R.ok_bind] at h
    exact fun v H' L s r ok' => h _ _ (ok'.into r hl)
  | err n => rw [ht] at h; exact h
  | bad => rw [ht] at h; exact h
theorem ms_setS {i : Nat} {x : Str} {pos' : Pos} (hN : X.N.Nodup) (hi : X.N[i]? = some x) (hl : i < Γ.length) (h : ME X E Γ e t c) (hc : c ≠ .bor) (hx : Loc X.env.scope x) (hs : swapsWith e (some (.Name x pos')) pos.line X.env = pure false := by rfl) (hf : X.fn x = true ∨ X.env.scope.names.lookup x = some .local := by first | exact .inl rfl | exact .inr rfl | assumption) :
    MS X E Γl Γ (.Assign [.Name x pos'] e pos) (sSet i t) (Γ.set i .shr) := by
  obtain ⟨te, p, q⟩ := h
  refine ⟨_, ps_set hN hi hx p hs hf, fun B σ H τ Z ok h => ?_⟩
  obtain ⟨O, eo, hL⟩ := ok.eok
  refine q O σ H τ _ eo ?_
  unfold sSet at h
  cases ht : t τ with
  | ok d =>
    rw [ht, R.ok_bind] at h
    refine fun v H' L s r k => h _ _ ?_
    obtain ⟨Ls, h1, h2, h3, _, _, _, h7⟩ := hL L (k.shr eo.dom hc)
    exact SOk.intoS (ok.ext.trans s) ok.lσ ok.lτ (fun j c e hc => by obtain ⟨v', d', e1, e2, r'⟩ := h1 j c e hc; exact ⟨v', d', e1, e2, r'.same s⟩) h2 h3 h7 r hl
  | err n => rw [ht] at h; exact fun C H' e s => h C H' e (ok.ext.trans s)
  | bad => rw [ht] at h; exact h
end
end L2
set_option maxRecDepth 100000
set_option maxHeartbeats 4000000
namespace L2
open PySem PySem.Spec PyProof.Rows
section
variable {K : PySem.W.Frag} {Γ Γ' : List Cl} {B H H1 : Hp} {σ : St} {τ : Tn} {T : List Addr}
theorem SOk.slot {i : Nat} (h : SOk K Γ B H σ τ T) (e : Γ[i]? = some .own) : ∃ v d L, σ[i]? = some (some v) ∧ τ[i]? = some (some d) ∧ Rep K H d v L ∧ L.Nodup ∧ (∀ a ∈ L, B a = none ∧ a ∉ T) ∧
    ∀ (H2 : Hp) (d2 : D) (L2 Le T' : List Addr), T = Le ++ T' → TF H H2 → (∀ b, b ∉ L → H b ≠ none → H2 b = H b) → Rep K H2 d2 v L2 → (∀ a ∈ L2, a ∈ L ∨ a ∈ Le) → L2.Nodup → SOk K Γ B H2 σ (τ.set i (some d2)) T' := by
  obtain ⟨Ls, h1, h2, h3, h4, h5, h6⟩ := h.ex
  obtain ⟨v, d, e1, e2, r⟩ := h1 i _ e (by simp)
  refine ⟨v, d, Ls i, e1, e2, r, (h2 i e).1, fun a ha => ⟨(h2 i e).2 a ha, h6 i _ e (by simp) a ha⟩, ?_⟩
  rintro H2 d2 L2 Le T' rfl tf kp r2 sub nd
  obtain ⟨n1, n2, n3⟩ := List.nodup_append.mp h4
  have hτ : i < τ.length := (List.getElem?_eq_some_iff.mp e2).1
  have notL : ∀ b, B b ≠ none → b ∉ Ls i := fun b hb hm => hb ((h2 i e).2 b hm)
  refine ⟨fun b o q => ?_, h.lσ, by rw [List.length_set]; exact h.lτ, putL Ls i L2, fun j c ej hc => ?_, fun j ej => ?_, fun j k c hjk ej ek hc a ha hm => ?_, n2, fun a ha => ⟨(h5 a (List.mem_append_right _ ha)).1, ?_⟩, fun j c ej hc a ha hm => ?_⟩
  · have hq := h.ext b o q
    rw [kp b (notL b (by rw [q]; simp)) (by rw [hq]; simp)]; exact hq
  · by_cases z : j = i
    · subst z
      refine ⟨v, d2, e1, by rw [List.getElem?_set_self hτ], ?_⟩
      rw [putL_self]; exact r2
    · obtain ⟨v', d', q1, q2, r'⟩ := h1 j c ej hc
      refine ⟨v', d', q1, by rw [List.getElem?_set_ne (Ne.symm z)]; exact q2, ?_⟩
      rw [putL_ne z]
      exact Rep.keep tf d' v' _ r' fun a ha => kp a (fun hm => h3 i j c (Ne.symm z) e ej hc a hm ha) (r'.there ha)
  · by_cases z : j = i
    · subst z
      rw [putL_self]
      refine ⟨nd, fun a ha => ?_⟩
      rcases sub a ha with m | m
      · exact (h2 _ e).2 a m
      · exact (h5 a (List.mem_append_left _ m)).1
    · rw [putL_ne z]; exact h2 j ej
  · by_cases z : j = i
    · subst z
      rw [putL_self] at ha
      rw [putL_ne (Ne.symm hjk)] at hm
      rcases sub a ha with m | m
      · exact h3 _ k c hjk e ek hc a m hm
      · exact h6 k c ek hc a hm (List.mem_append_left _ m)
    · rw [putL_ne z] at ha
      by_cases z2 : k = i
      · subst z2
        rw [putL_self] at hm
        rcases sub a hm with m | m
        · exact h3 j _ _ hjk ej e (by simp) a ha m
        · exact h6 j _ ej (by simp) a ha (List.mem_append_left _ m)
      · rw [putL_ne z2] at hm; exact h3 j k c hjk ej ek hc a ha hm
  · have q := (h5 a (List.mem_append_right _ ha)).2
    rw [kp a (fun hm => h6 i _ e (by simp) a hm (List.mem_append_right _ ha)) q]; exact q
  · by_cases z : j = i
    · rw [putL_eq z] at ha
      rcases sub a ha with m | m
      · exact h6 i _ e (by simp) a m (List.mem_append_right _ hm)
      · exact n3 a m a hm rfl
    · rw [putL_ne z] at ha
      exact h6 j c ej hc a ha (List.mem_append_right _ hm)
theorem TF.upd {a : Addr} {o : HO} (h : (∃ vs, H a = some (.lst vs)) ∨ ∃ kvs, H a = some (.dK kvs)) : TF H (upd H a o) := by
  refine ⟨fun b xs e => ?_, fun b p u e => ?_⟩
  · rw [upd_ne]
    · exact e
    · rintro rfl
      rcases h with ⟨_, h⟩ | ⟨_, h⟩ <;> rw [h] at e <;> cases e
  · rw [upd_ne]
    · exact e
    · rintro rfl
      rcases h with ⟨_, h⟩ | ⟨_, h⟩ <;> rw [h] at e <;> cases e
theorem Rep.upd {d : D} {v : V} {L : List Addr} {a : Addr} {o : HO} (r : Rep K H d v L) (h : (∃ vs, H a = some (.lst vs)) ∨ ∃ kvs, H a = some (.dK kvs)) (n : a ∉ L) : Rep K (L2.upd H a o) d v L :=
  Rep.keep (TF.upd h) d v L r fun b hb => upd_ne fun z => n (z ▸ hb)
theorem Reps.upd {d : List D} {v : List V} {L : List Addr} {a : Addr} {o : HO} (r : Reps K H d v L) (h : (∃ vs, H a = some (.lst vs)) ∨ ∃ kvs, H a = some (.dK kvs)) (n : a ∉ L) : Reps K (L2.upd H a o) d v L :=
  Reps.keep (TF.upd h) d v L r fun b hb => upd_ne fun z => n (z ▸ hb)
theorem Reps.set : ∀ {ds : List D} {vs : List V} {L : List Addr} {d : D} {v : V} {Le : List Addr} (j : Nat), Reps K H ds vs L → Rep K H d v Le → j < ds.length → ∃ L2, Reps K H (ds.set j d) (vs.set j v) L2 ∧ (∀ a ∈ L2, a ∈ L ∨ a ∈ Le) ∧ ((L ++ Le).Nodup → L2.Nodup)
  | [], _, _, _, _, _, _, _, _, h => by simp at h
  | d :: ds, _, _, d', v', Le, 0, hq7, r, _ => by
    obtain ⟨v, vs', L1, L2, e1, e2, h1, h2⟩ := hq7
    subst e1 e2
    refine ⟨Le ++ L2, by simpa using Reps.cons r h2, fun a ha => ?_, fun n => ?_⟩
    · rcases List.mem_append.mp ha with z | z
      · exact .inr z
      · exact .inl (List.mem_append_right _ z)
    · obtain ⟨n1, n2, n3⟩ := List.nodup_append.mp n
      obtain ⟨m1, m2, m3⟩ := List.nodup_append.mp n1
      exact List.nodup_append.mpr ⟨n2, m2, fun a ha b hb z => n3 b (List.mem_append_right _ hb) a ha z.symm⟩
  | d :: ds, _, _, d', v', Le, j + 1, hq7, r, hj => by
    obtain ⟨v, vs', L1, L2, e1, e2, h1, h2⟩ := hq7
    subst e1 e2
    obtain ⟨L3, a1, a2, a3⟩ := Reps.set j h2 r (by simpa using hj)
    refine ⟨L1 ++ L3, by simpa using Reps.cons h1 a1, fun a ha => ?_, fun n => ?_⟩
    · rcases List.mem_append.mp ha with z | z
      · exact .inl (List.mem_append_left _ z)
      · rcases a2 a z with m | m
        · exact .inl (List.mem_append_right _ m)
        · exact .inr m
    · rw [List.append_assoc] at n
      obtain ⟨n1, n2, n3⟩ := List.nodup_append.mp n
      refine List.nodup_append.mpr ⟨n1, a3 n2, fun a ha b hb z => ?_⟩
      rcases a2 b hb with m | m
      · exact n3 a ha b (List.mem_append_left _ m) z
      · exact n3 a ha b (List.mem_append_right _ m) z
end
section
variable {X : Cx} {E : XK} {Γ Γ1 Γ' Γl : List Cl} {e a b : Expr} {es : List Expr} {t t' : Tn → R D} {u : Tn → R (List D)} {c : Rc} {pos : Pos}
def sApp (i : Nat) (t : Tn → R D) : Tn → R Fl := fun τ => (eVar i τ).bind fun l => match l with
  | .lst ds => (t τ).bind fun d => if ds.length < sizeLine then .ok (.nx (τ.set i (some (.lst (ds ++ [d]))))) else .bad
  | _ => .bad
theorem ms_append {i : Nat} {x : Str} {p0 p1 p2 : Pos} (hN : X.N[i]? = some x) (h0 : Γ[i]? = some .own) (h : MV X E Γ e t Γ1) (hk : Γ1[i]? = some .own) (hv : Vis X.env.scope x) (hb : (x == ("__debug__" : Str)) = false := by decide) (hcd : (x == ("__classdict__" : Str)) = false := by decide)
    (hbase : attributeBase (.Name x p0) "append" X.env (eval (.Name x p0) X.env) = eval (.Name x p0) X.env := by rfl)
    (hfew : ((backTo p2 (starEach [e] X.env)).all (fun x => !x.1) && (backToKw p2 (keywordEach [] X.env)).all (fun x => x.1.isSome) && decide ([e].length + ([] : List Keyword).length + (if ([] : List Keyword).isEmpty then 0 else 1) < 30)) = true := by rfl)
    (hline : (p1.endLine == p2.line) = true := by rfl) (hs : starEach [e] X.env = (false, eval e X.env) :: starEach [] X.env := by rfl) (hplain : (backTo p2 (starEach [] X.env)).any (·.1) = false := by rfl)
    (hsw : swapsWith (.Call (.Attribute (.Name x p0) "append" p1) [e] [] p2) none pos.line X.env = pure false := by rfl) :
    MS X E Γl Γ (.Expr (.Call (.Attribute (.Name x p0) "append" p1) [e] [] p2) pos) (sApp i t) Γ1 := by
  obtain ⟨te, p, q⟩ := h
  refine ⟨_, ps_expr (pe_bm PySem.F.plainAttrs_list PySem.F.slot_list_append PySem.F.type_list_append mt_append (pe_var (pos := p0) hN hv hb hcd) (pa_cons p pa_nil hs) hbase hfew hline hs hplain) hsw, fun B σ H τ Z ok h => ?_⟩
  obtain ⟨v, d, L, e1, e2, r, _⟩ := ok.slot h0
  refine ⟨v, e1, ?_⟩
  unfold sApp at h
  have ev : eVar i τ = .ok d := by unfold eVar; rw [e2]
  rw [ev, R.ok_bind] at h
  cases d with
  | lst ds =>
    obtain ⟨a, vs, L', rfl, ha, _, rs⟩ := r
    refine ⟨.inl ⟨rfl, vs, SqL.of ha⟩, q B σ H τ [] _ ok ?_⟩
    dsimp only at h
    cases ht : t τ with
    | ok d' =>
      rw [ht, R.ok_bind] at h
      refine fun y H1 Le s1 ry ok1 => ?_
      obtain ⟨v1, d1, L1, q1, q2, r1, n1, n2, fin⟩ := ok1.slot hk
      rw [e1] at q1
      cases q1
      rw [e2] at q2
      cases q2
      obtain ⟨a1, vs1, L1', z1, ha1, z2, rs1⟩ := r1
      cases z1
      subst z2
      have hl : vs1.length = ds.length := rs1.length
      by_cases hz : ds.length < sizeLine
      · rw [if_pos hz] at h
        have mu : (∃ vs, H1 a = some (.lst vs)) ∨ ∃ kvs, H1 a = some (.dK kvs) := .inl ⟨_, ha1⟩
        have na : a ∉ Le := fun m => (n2 a List.mem_cons_self).2 (List.mem_append_left _ m)
        obtain ⟨m1, m2⟩ := List.nodup_cons.mp n1
        refine ⟨a, vs1, y, rfl, rfl, ha1, by lia, h _ _ (fin _ _ (a :: (L1' ++ Le)) Le [] rfl (TF.upd mu) (fun b hb _ => upd_ne fun z => hb (z ▸ List.mem_cons_self)) ?_ (fun b hb => ?_) ?_)⟩
        · refine ⟨a, vs1 ++ [y], L1' ++ Le, rfl, upd_same, rfl, Reps.append (rs1.upd mu m1) ?_⟩
          have := Reps.cons (ry.upd (o := .lst (vs1 ++ [y])) mu na) (Reps.nil (K := X.K) (H := upd H1 a (.lst (vs1 ++ [y]))))
          rw [List.append_nil] at this
          exact this
        · rcases List.mem_cons.mp hb with z | z
          · exact .inl (z ▸ List.mem_cons_self)
          · rcases List.mem_append.mp z with z | z
            · exact .inl (List.mem_cons_of_mem _ z)
            · exact .inr z
        · refine List.nodup_cons.mpr ⟨fun z => ?_, List.nodup_append.mpr ⟨m2, ?_, fun b hb b' hb' z => ?_⟩⟩
          · rcases List.mem_append.mp z with z | z
            · exact m1 z
            · exact na z
          · obtain ⟨_, _, _, _, w4, _⟩ := ok1.ex
            rw [List.append_nil] at w4
            exact w4
          · subst z
            exact (n2 b (List.mem_cons_of_mem _ hb)).2 (List.mem_append_left _ hb')
      · rw [if_neg hz] at h; exact h.elim
    | err n => rw [ht] at h; exact h
    | bad => rw [ht] at h; exact h
  | _ => exact h.elim
def setD (ds : List D) (k : Int) (d : D) : R D := match ixN ds.length k with
  | some j => .ok (.lst (ds.set j d))
  | none => .bad
def sPut (i : Nat) (t ti : Tn → R D) : Tn → R Fl := fun τ => (t τ).bind fun d => (eVar i τ).bind fun l => (ti τ).bind fun k => match l, k with
  | .lst ds, .int k => (setD ds k d).bind fun l' => .ok (.nx (τ.set i (some l')))
  | _, _ => .bad
theorem ms_put {i : Nat} {x : Str} {p0 p1 : Pos} {ix : Expr} {ti : Tn → R D} (hN : X.N[i]? = some x) (h : MV X E Γ e t Γ1) (hi : ME X E Γ1 ix ti c) (hk : Γ1[i]? = some .own) (hv : Vis X.env.scope x) (hb : (x == ("__debug__" : Str)) = false := by decide) (hcd : (x == ("__classdict__" : Str)) = false := by decide)
    (ha : ∀ v, assign (.Subscript (.Name x p0) ix p1) X.env v = (do
      let ov ← holding [v] (eval (.Name x p0) X.env)
      let iv ← holding [v, ov] (eval ix X.env)
      standAt p1
      holding [v, ov, iv] (setItem ov iv v)
      release [v, ov, iv] []) := by intro _; rfl)
    (hs : swapsWithSole [.Subscript (.Name x p0) ix p1] e pos.line X.env = pure false := by rfl) (hw : swappedStores [.Subscript (.Name x p0) ix p1] e X.env = pure none := by rfl)
    (h1 : (assignEach [.Subscript (.Name x p0) ix p1] X.env).map (·.2) = [assign (.Subscript (.Name x p0) ix p1) X.env] := by rfl) :
    MS X E Γl Γ (.Assign [.Subscript (.Name x p0) ix p1] e pos) (sPut i t ti) Γ1 := by
  obtain ⟨te, p, q⟩ := h
  obtain ⟨te', p', q'⟩ := hi
  refine ⟨_, ps_asg p (pg_sub (pe_var (pos := p0) hN hv hb hcd) p' set_list ha) hs hw h1, fun B σ H τ Z ok h => q B σ H τ [] _ ok ?_⟩
  unfold sPut at h
  cases ht : t τ with
  | ok d' =>
    rw [ht, R.ok_bind] at h
    refine fun y H1 Le s1 ry ok1 => ?_
    obtain ⟨v1, d1, L1, q1, q2, r1, n1, n2, _⟩ := ok1.slot hk
    refine ⟨v1, q1, ?_⟩
    have ev : eVar i τ = .ok d1 := by unfold eVar; rw [q2]
    rw [ev, R.ok_bind] at h
    obtain ⟨O, eo, _⟩ := ok1.eok
    refine q' O σ H1 τ _ eo ?_
    cases hk' : ti τ with
    | ok dk =>
      rw [hk', R.ok_bind] at h
      refine fun kv H2 Lk s2 rk _ => ?_
      have ok2 := ok1.same s2
      obtain ⟨v2, d2, L2, q3, q4, r2, m1, m2, fin⟩ := ok2.slot hk
      rw [q1] at q3
      cases q3
      rw [q2] at q4
      cases q4
      cases d1 with
      | lst ds =>
        cases dk with
        | int k =>
          obtain ⟨a, vs, L', rfl, ha2, z2, rs⟩ := r2
          subst z2
          dsimp only at h
          unfold setD at h
          cases hj : ixN ds.length k with
          | none => rw [hj] at h; exact h.elim
          | some j =>
            rw [hj] at h
            have hjl : j < ds.length := (ixN_seq hj).2.1
            have mu : (∃ vs, H2 a = some (.lst vs)) ∨ ∃ kvs, H2 a = some (.dK kvs) := .inl ⟨_, ha2⟩
            have na : a ∉ Le := fun m => (m2 a List.mem_cons_self).2 (List.mem_append_left _ m)
            obtain ⟨w1, w2⟩ := List.nodup_cons.mp m1
            have nLe : Le.Nodup := by
              obtain ⟨_, _, _, _, w4, _⟩ := ok1.ex
              rw [List.append_nil] at w4
              exact w4
            have r3 := (ry.same s2).upd (o := .lst (vs.set j y)) mu na
            obtain ⟨L3, a1, a2, a3⟩ := Reps.set j (rs.upd (o := .lst (vs.set j y)) mu w1) r3 hjl
            refine ⟨a, vs, k, j, rfl, rk.1, ha2, by rw [rs.length]; exact hj, h _ _ (fin _ _ (a :: L3) Le [] rfl (TF.upd mu) (fun b hb _ => upd_ne fun z => hb (z ▸ List.mem_cons_self)) ⟨a, _, L3, rfl, upd_same, rfl, a1⟩ (fun b hb => ?_) ?_)⟩
            · rcases List.mem_cons.mp hb with z | z
              · exact .inl (z ▸ List.mem_cons_self)
              · rcases a2 b z with z | z
                · exact .inl (List.mem_cons_of_mem _ z)
                · exact .inr z
            · refine List.nodup_cons.mpr ⟨fun z => ?_, a3 (List.nodup_append.mpr ⟨w2, nLe, fun b hb b' hb' z => ?_⟩)⟩
              · rcases a2 a z with z | z
                · exact w1 z
                · exact na z
              · subst z
                exact (m2 b (List.mem_cons_of_mem _ hb)).2 (List.mem_append_left _ hb')
        | _ => exact h.elim
      | _ => exact h.elim
    | err n => rw [hk'] at h; exact fun C H' e s => h C H' e (ok1.ext.trans s)
    | bad => rw [hk'] at h; exact h
  | err n => rw [ht] at h; exact h
  | bad => rw [ht] at h; exact h
end
end L2
set_option maxRecDepth 100000
set_option maxHeartbeats 4000000
namespace L2
open PySem PySem.Spec PyProof.Rows
section
variable {K : PySem.W.Frag} {Γ Γ' : List Cl} {B B' H H1 : Hp} {σ : St} {τ : Tn} {T : List Addr}
theorem SOk.rebase (h : SOk K Γ B' H σ τ T) (s : Same B B') : SOk K Γ B H σ τ T := by
  obtain ⟨Ls, h1, h2, h3, h4, h5, h6⟩ := h.ex
  exact ⟨s.trans h.ext, h.lσ, h.lτ, Ls, h1, fun i e => ⟨(h2 i e).1, fun a ha => s.non ((h2 i e).2 a ha)⟩, h3, h4, fun a ha => ⟨s.non (h5 a ha).1, (h5 a ha).2⟩, h6⟩
open Classical in
theorem SOk.base (h : SOk K Γ B H σ τ []) : ∃ O : Addr → Prop, EOk K Γ O H σ τ ∧ (∀ a, O a → (∃ vs, H a = some (.lst vs)) ∨ ∃ kvs, H a = some (.dK kvs)) ∧
    ∀ H1, Same H H1 → ∃ B1, Same B B1 ∧ SOk K Γ B1 H1 σ τ [] ∧ ∀ a, ¬ O a → B1 a = H1 a := by
  obtain ⟨Ls, h1, h2, h3, h4, h5, h6⟩ := h.ex
  refine ⟨fun a => ∃ i, Γ[i]? = some .own ∧ a ∈ Ls i, ⟨fun a ⟨i, e, ha⟩ => ?_, fun i c e hc => ?_⟩, fun a ⟨i, e, ha⟩ => ?_, fun H1 s1 => ⟨fun a => if (∃ i, Γ[i]? = some .own ∧ a ∈ Ls i) then none else H1 a, fun b o q => ?_, ⟨fun b o q => ?_, h.lσ, h.lτ, Ls, fun i c e hc => ?_, fun i e => ⟨(h2 i e).1, fun a ha => if_pos ⟨i, e, ha⟩⟩, h3, h4, fun a ha => (nomatch ha), h6⟩, fun a n => if_neg n⟩⟩
  · obtain ⟨v, d, _, _, r⟩ := h1 i _ e (by simp)
    exact r.there ha
  · obtain ⟨v, d, e1, e2, r⟩ := h1 i c e hc
    refine ⟨v, d, Ls i, e1, e2, r, fun z a ha ⟨j, ej, hj⟩ => ?_⟩
    subst z
    have hij : j ≠ i := fun z => by subst z; rw [e] at ej; cases ej
    exact h3 j i _ hij ej e (by simp) a hj ha
  · obtain ⟨v, d, _, _, r⟩ := h1 i _ e (by simp)
    exact Rep.dom d v _ r a ha
  · show (if (∃ i, Γ[i]? = some .own ∧ b ∈ Ls i) then none else H1 b) = some o
    rw [if_neg]
    · exact s1 b o (h.ext b o q)
    · rintro ⟨i, e, hb⟩
      rw [(h2 i e).2 b hb] at q; cases q
  · have q : (if (∃ i, Γ[i]? = some .own ∧ b ∈ Ls i) then none else H1 b) = some o := q
    by_cases z : ∃ i, Γ[i]? = some .own ∧ b ∈ Ls i
    · rw [if_pos z] at q; cases q
    · rw [if_neg z] at q; exact q
  · obtain ⟨v, d, e1, e2, r⟩ := h1 i c e hc
    exact ⟨v, d, e1, e2, r.same s1⟩
theorem SOk.shrIn {i : Nat} {d : D} {v : V} {L : List Addr} (h : SOk K Γ B H σ τ []) (r : Rep K H d v L) (hL : ∀ a ∈ L, B a ≠ none) (hi : i < Γ.length) : SOk K (Γ.set i .shr) B H (σ.set i (some v)) (τ.set i (some d)) [] := by
  obtain ⟨Ls, h1, h2, h3, h4, h5, h6⟩ := h.ex
  exact SOk.intoS h.ext h.lσ h.lτ h1 h2 h3 (fun j e a ha hm => hL a hm ((h2 j e).2 a ha)) r hi
end
def setAll {α : Type} : List (Option α) → List Nat → List α → List (Option α)
  | σ, i :: is, v :: vs => setAll (σ.set i (some v)) is vs
  | σ, _, _ => σ
def shrAll : List Cl → List Nat → List Cl
  | Γ, [] => Γ
  | Γ, i :: is => shrAll (Γ.set i .shr) is
theorem SOk.shrAll {K : PySem.W.Frag} {B H : Hp} {Γ : List Cl} {σ : St} {τ : Tn} {is : List Nat} {ds : List D} {vs : List V} {L : List Addr} (h : SOk K Γ B H σ τ []) (r : Reps K H ds vs L) (hL : ∀ a ∈ L, B a ≠ none) (hl : ds.length = is.length) (hi : ∀ i ∈ is, i < Γ.length) :
    SOk K (L2.shrAll Γ is) B H (setAll σ is vs) (setAll τ is ds) [] := by
  induction is generalizing Γ σ τ ds vs L with
  | nil =>
    cases ds with
    | nil => cases r.1; exact h
    | cons => cases hl
  | cons i is ih =>
    cases ds with
    | nil => cases hl
    | cons d ds =>
      obtain ⟨v, vs', La, Lb, e1, e2, r1, r2⟩ := r
      subst e1 e2
      exact ih (h.shrIn r1 (fun a ha => hL a (List.mem_append_left _ ha)) (hi i List.mem_cons_self)) r2 (fun a ha => hL a (List.mem_append_right _ ha)) (Nat.succ.inj hl) (fun j hj => by rw [List.length_set]; exact hi j (List.mem_cons_of_mem _ hj))
def ItOk (K : PySem.W.Frag) (J : It) (ds : List D) (L : List Addr) (H : Hp) : Prop := (∀ a ∈ L, H a ≠ none) ∧ ∀ H', TF H H' → (∀ a ∈ L, H' a = H a) → ∀ i,
  (∀ d, ds[i]? = some d → J.go i H' ∧ ∀ x H'', J.yld i H' x H'' → Same H' H'' ∧ ∃ L', Rep K H'' d x L' ∧ ∀ a ∈ L', a ∈ L) ∧ (ds.length ≤ i → J.stop i H')
def postI (K : PySem.W.Frag) (E : XK) (O : Addr → Prop) (c : Rc) (H : Hp) (Rr : It → Hp → Prop) : R (List D) → Prop
  | .ok ds => ∀ J H' L, Same H H' → ItOk K J ds L H' → (c ≠ .bor → ∀ a ∈ L, ¬ O a) → Rr J H'
  | .err n => ∀ C H', ErrC K n C → Same H H' → E (.ref C) none H'
  | .bad => False
def MI (X : Cx) (E : XK) (Γ : List Cl) (tg iter : Expr) (t : Tn → R (List D)) (c : Rc) : Prop :=
  ∃ wi, PI X tg iter wi ∧ ∀ O σ H τ Rr, EOk X.K Γ O H σ τ → postI X.K E O c H Rr (t τ) → wi σ H Rr
inductive Tgt where
  | one (i : Nat) | many (is : List Nat)
def Tgt.slots : Tgt → List Nat
  | .one i => [i]
  | .many is => is
def Tgt.asg : Tgt → D → Tn → R Tn
  | .one i, d, τ => .ok (τ.set i (some d))
  | .many is, .tup ds, τ => if ds.length = is.length then .ok (setAll τ is ds) else .bad
  | .many _, _, _ => .bad
def MG (X : Cx) (tg : Expr) : Tgt → Prop
  | .one i => PG X tg (gName i)
  | .many is => ∃ g, PG X tg (gTup X.K is.length g) ∧ ∀ (vs : List V) (σ : St) (H : Hp) (Q : St → Hp → Prop), vs.length = is.length → Q (setAll σ is vs) H → g vs σ H Q
def forGo (asg : D → Tn → R Tn) (body : Tn → R Fl) : List D → Tn → R Fl
  | [], τ => .ok (.nx τ)
  | d :: ds, τ => (asg d τ).bind fun τ1 => (body τ1).bind fun f => match f with
    | .nx τ2 => forGo asg body ds τ2
    | .ct τ2 => forGo asg body ds τ2
    | .bk τ2 => .ok (.nx τ2)
    | .rt r => .ok (.rt r)
def sFor (it : Tn → R (List D)) (tg : Tgt) (body : Tn → R Fl) : Tn → R Fl := fun τ => (it τ).bind fun ds => forGo tg.asg body ds τ
section
variable {X : Cx} {E : XK} {Γ Γ1 Γ2 Γ' Γl : List Cl} {pos : Pos}
def tgG (K : PySem.W.Frag) (g : Tgt) : TG := fun v σ H Q => match g with
  | .one i => Q (σ.set i (some v)) H
  | .many is => ∃ a vs, v = .ref a ∧ SqT K H a vs ∧ vs.length = is.length ∧ Q (setAll σ is vs) H
theorem MG.pg {tg : Expr} {g : Tgt} (h : MG X tg g) : PG X tg (tgG X.K g) := by
  cases g with
  | one i => exact h
  | many is =>
    obtain ⟨G, p, q⟩ := h
    rintro pins s σ H v u Q I r ⟨a, vs, e, hs, hl, z⟩
    exact p pins s σ H v u Q I r ⟨a, vs, e, hs, hl, q vs σ H Q hl z⟩
theorem tgG_in {K : PySem.W.Frag} {B H : Hp} {σ : St} {τ τ1 : Tn} {d : D} {v : V} {L : List Addr} {g : Tgt} (h : SOk K Γ B H σ τ []) (r : Rep K H d v L) (hL : ∀ a ∈ L, B a ≠ none) (hi : ∀ i ∈ g.slots, i < Γ.length) (ha : g.asg d τ = .ok τ1)
    {Q : St → Hp → Prop} (k : ∀ σ1, SOk K (L2.shrAll Γ g.slots) B H σ1 τ1 [] → Q σ1 H) : tgG K g v σ H Q := by
  cases g with
  | one i => cases ha; exact k _ (h.shrIn r hL (hi i (by simp [Tgt.slots])))
  | many is =>
    cases d with
    | tup ds =>
      unfold Tgt.asg at ha
      dsimp only at ha
      by_cases hl : ds.length = is.length
      · rw [if_pos hl] at ha
        cases ha
        obtain ⟨a, vs, rfl, hs, rs⟩ := r
        have hv : vs.length = is.length := rs.length.trans hl
        exact ⟨a, vs, rfl, hs, hv, k _ (h.shrAll rs hL hl hi)⟩
      · rw [if_neg hl] at ha; cases ha
    | _ => cases ha
theorem ms_for {tg iter : Expr} {body : List Stmt} {it : Tn → R (List D)} {g : Tgt} {tb : Tn → R Fl} {c : Rc} (hp : PassesOwn (model X.prog X.w) X.A X.env X.xe) (hc : X.calm = true) (hi : MI X E Γ tg iter it c) (hcl : c ≠ .bor) (hg : MG X tg g)
    (hn : ∀ i ∈ g.slots, i < Γ.length) (hb : MSs X E Γ (shrAll Γ g.slots) body tb Γ2) (hw : wk Γ2 Γ = true) (hs : ∀ x, foldedSetIterable iter X.env x = pure x := by intro _; rfl) : MS X E Γl Γ (.For tg iter body [] pos) (sFor it g tb) Γ := by
  obtain ⟨wi, p, q⟩ := hi
  obtain ⟨ts, p', q'⟩ := hb
  refine ⟨_, ps_for hp hc p hg.pg p' hs, fun B σ H τ Z ok h => ?_⟩
  obtain ⟨O, eo, Od, hB⟩ := ok.base
  refine q O σ H τ _ eo ?_
  unfold sFor at h
  cases ht : it τ with
  | ok ds =>
    rw [ht, R.ok_bind] at h
    refine fun J H1 L s1 hit hO => ?_
    have hO := hO hcl
    obtain ⟨hLd, hit⟩ := hit
    obtain ⟨B1, sB, ok1, hB1⟩ := hB H1 s1
    have inL : ∀ a ∈ L, B1 a = H1 a := fun a ha => hB1 a (hO a ha)
    have Od1 : ∀ a, O a → (∃ vs, H1 a = some (.lst vs)) ∨ ∃ kvs, H1 a = some (.dK kvs) := fun a o => by
      rcases Od a o with ⟨vs, e⟩ | ⟨kvs, e⟩
      · exact .inl ⟨vs, s1 _ _ e⟩
      · exact .inr ⟨kvs, s1 _ _ e⟩
    have stay : ∀ H2, Same B1 H2 → TF H1 H2 ∧ ∀ a ∈ L, H2 a = H1 a := fun H2 s2 => by
      refine ⟨⟨fun a xs e => ?_, fun a o u e => ?_⟩, fun a ha => ?_⟩
      · refine s2 a _ ((hB1 a fun z => ?_).trans e)
        rcases Od1 a z with ⟨_, w⟩ | ⟨_, w⟩ <;> rw [e] at w <;> cases w
      · refine s2 a _ ((hB1 a fun z => ?_).trans e)
        rcases Od1 a z with ⟨_, w⟩ | ⟨_, w⟩ <;> rw [e] at w <;> cases w
      · rw [s2.at (by rw [inL a ha]; exact hLd a ha), inL a ha]
    refine ⟨fun i m σ2 H2 => m = ds.length - i ∧ i ≤ ds.length ∧ ∃ τ2, SOk X.K Γ B1 H2 σ2 τ2 [] ∧ postS X.K E B Γl Γ Z (forGo g.asg tb (ds.drop i) τ2), ⟨ds.length, by simp, Nat.zero_le _, τ, ok1, h⟩, ?_⟩
    rintro i m σ2 H2 ⟨rfl, hile, τ2, ok2, h2⟩
    obtain ⟨tf, kp⟩ := stay H2 ok2.ext
    obtain ⟨go, stop⟩ := hit H2 tf kp i
    by_cases hlt : i < ds.length
    · obtain ⟨hgo, hy⟩ := go ds[i] (by simp [hlt])
      rw [List.drop_eq_getElem_cons hlt] at h2
      refine .inr ⟨hgo, fun σ' H' => i + 1 ≤ ds.length ∧ ∃ τ', SOk X.K Γ B1 H' σ' τ' [] ∧ postS X.K E B Γl Γ Z (forGo g.asg tb (ds.drop (i + 1)) τ'), fun σ' H' ⟨z, w⟩ => ⟨ds.length - (i + 1), by omega, rfl, z, w⟩, fun x H3 y => ?_⟩
      obtain ⟨s3, L', r', sub⟩ := hy x H3 y
      unfold forGo at h2
      cases ha : g.asg ds[i] τ2 with
      | ok τ3 =>
        rw [ha, R.ok_bind] at h2
        refine tgG_in (ok2.same s3) r' (fun a ha => by rw [inL a (sub a ha)]; exact hLd a (sub a ha)) hn ha fun σ3 ok3 => ?_
        refine q' B1 σ3 H3 τ3 _ ok3 ?_
        cases hb : tb τ3 with
        | ok f =>
          rw [hb, R.ok_bind] at h2
          cases f with
          | nx τ4 => exact fun σ' H' ok4 => ⟨hlt, τ4, ok4.weak hw, h2⟩
          | ct τ4 => exact fun σ' H' ok4 => ⟨hlt, τ4, ok4, h2⟩
          | bk τ4 => exact fun σ' H' ok4 => h2 σ' H' (ok4.rebase sB)
          | rt d => exact fun v H' L s r n1 n2 => h2 v H' L (sB.trans s) r n1 fun a ha => sB.non (n2 a ha)
        | err n => rw [hb] at h2; exact fun C H' e s => h2 C H' e (sB.trans s)
        | bad => rw [hb] at h2; exact h2
      | err n =>
        cases g with
        | one i => cases ha
        | many is =>
          unfold Tgt.asg at ha
          split at ha
          · cases ha
          · split at ha <;> cases ha
          · cases ha
      | bad => rw [ha] at h2; exact h2.elim
    · have e : i = ds.length := by omega
      subst e
      rw [List.drop_length] at h2
      exact .inl ⟨stop (Nat.le_refl _), h2 σ2 H2 (ok2.rebase sB)⟩
  | err n => rw [ht] at h; exact fun C H' e s => h C H' e (ok.ext.trans s)
  | bad => rw [ht] at h; exact h
open Classical in
end
end L2
set_option maxRecDepth 100000
set_option maxHeartbeats 4000000
namespace L2
open PySem PySem.Spec PyProof.Rows
def signs (x : Str) : List D := x.cps.toList.map fun c => .str ⟨#[c]⟩
def asSeq : D → R (List D)
  | .lst ds => .ok ds
  | .tup ds => .ok ds
  | .str x => .ok (signs x)
  | _ => .bad
def iSeq (t : Tn → R D) : Tn → R (List D) := fun τ => (t τ).bind asSeq
def rng (lo : Int) (n : Nat) : List D := (List.range n).map fun (i : Nat) => .int (lo + i)
def rng1 : List D → R (List D)
  | [.int j] => if -(2 ^ 62) ≤ j ∧ j < 2 ^ 62 then .ok (rng 0 j.toNat) else .bad
  | _ => .bad
def rng2 : List D → R (List D)
  | [.int i, .int j] => if -(2 ^ 62) ≤ i ∧ i < 2 ^ 62 ∧ -(2 ^ 62) ≤ j ∧ j < 2 ^ 62 then .ok (rng i (j - i).toNat) else .bad
  | _ => .bad
def iL (g : List D → R (List D)) (u : Tn → R (List D)) : Tn → R (List D) := fun τ => (u τ).bind g
section
variable {X : Cx} {E : XK} {Γ : List Cl} {tg e : Expr} {t : Tn → R D} {u : Tn → R (List D)} {c : Rc} {p pos : Pos}
theorem ItOk.list {K : PySem.W.Frag} {H : Hp} {a : Addr} {vs : List V} {ds : List D} {L L' : List Addr} (ha : H a = some (.lst vs)) (e : L = a :: L') (r : Reps K H ds vs L') : ItOk K (Itl K a) ds L H := by
  subst e
  refine ⟨fun b hb => ?_, fun H' tf kp i => ⟨fun d hd => ?_, fun hl => ?_⟩⟩
  · rcases List.mem_cons.mp hb with z | z
    · rw [z, ha]; simp
    · exact r.there z
  · have ha' : H' a = some (.lst vs) := (kp a List.mem_cons_self).trans ha
    obtain ⟨v, L1, e1, r1, sub⟩ := r.get hd
    refine ⟨⟨vs, v, SqL.of ha', e1⟩, fun x H'' ⟨e2, hy⟩ => ?_⟩
    subst e2
    have := hy vs (SqL.of ha')
    rw [e1] at this
    cases this
    exact ⟨Same.refl _, L1, Rep.keep tf d _ L1 r1 fun b hb => kp b (List.mem_cons_of_mem _ (sub.subset hb)), fun b hb => List.mem_cons_of_mem _ (sub.subset hb)⟩
  · have ha' : H' a = some (.lst vs) := (kp a List.mem_cons_self).trans ha
    exact ⟨vs, SqL.of ha', by rw [r.length]; exact hl⟩
theorem ItOk.tuple {K : PySem.W.Frag} {H : Hp} {a : Addr} {vs : List V} {ds : List D} {L : List Addr} (ha : SqT K H a vs) (hun : ∀ H' xs, TF H H' → SqT K H' a xs → xs = vs) (r : Reps K H ds vs L) : ItOk K (Itt K a) ds L H := by
  refine ⟨fun b hb => r.there hb, fun H' tf kp i => ⟨fun d hd => ?_, fun hl => ?_⟩⟩
  · have ha' := ha.tf tf
    obtain ⟨v, L1, e1, r1, sub⟩ := r.get hd
    refine ⟨⟨vs, v, ha', e1⟩, fun x H'' ⟨e2, hy⟩ => ?_⟩
    subst e2
    have := hy vs ha'
    rw [e1] at this
    cases this
    exact ⟨Same.refl _, L1, Rep.keep tf d _ L1 r1 fun b hb => kp b (sub.subset hb), fun b hb => sub.subset hb⟩
  · exact ⟨vs, ha.tf tf, by rw [r.length]; exact hl⟩
theorem ItOk.tup {K : PySem.W.Frag} {H : Hp} {a : Addr} {vs : List V} {ds : List D} {L : List Addr} (ha : SqT K H a vs) (r : Reps K H ds vs L) : ItOk K (Itt K a) ds L H := by
  refine ⟨fun b hb => r.there hb, fun H' tf kp i => ⟨fun d hd => ?_, fun hl => ?_⟩⟩
  · have ha' := ha.tf tf
    obtain ⟨v, L1, e1, r1, sub⟩ := r.get hd
    refine ⟨⟨vs, v, ha', e1⟩, fun x H'' ⟨e2, hy⟩ => ?_⟩
    subst e2
    have := hy vs ha'
    rw [e1] at this
    cases this
    exact ⟨Same.refl _, L1, Rep.keep tf d _ L1 r1 fun b hb => kp b (sub.subset hb), fun b hb => sub.subset hb⟩
  · exact ⟨vs, ha.tf tf, by rw [r.length]; exact hl⟩
theorem ItOk.str {K : PySem.W.Frag} {H : Hp} {x : Str} : ItOk K (Its x) (signs x) [] H := by
  refine ⟨fun b hb => (nomatch hb), fun H' tf kp i => ⟨fun d hd => ?_, fun hl => ?_⟩⟩
  · unfold signs at hd
    rw [List.getElem?_map] at hd
    cases hq : x.cps.toList[i]? with
    | none => rw [hq] at hd; cases hd
    | some k =>
      rw [hq] at hd
      have hd : D.str ⟨#[k]⟩ = d := Option.some.inj hd
      subst hd
      have hi : i < x.cps.size := by
        have := (List.getElem?_eq_some_iff.mp hq).1
        simpa using this
      refine ⟨hi, fun y H'' ⟨e2, c', e3, e4⟩ => ?_⟩
      subst e2 e4
      rw [← Array.getElem?_toList, hq] at e3
      cases e3
      exact ⟨Same.refl _, [], ⟨rfl, rfl⟩, fun b hb => (nomatch hb)⟩
  · have : (signs x).length = x.cps.size := by simp [signs]
    show x.cps.size ≤ i
    lia
theorem ItOk.rng {K : PySem.W.Frag} {H : Hp} {lo : Int} {n : Nat} : ItOk K (Itr lo n) (L2.rng lo n) [] H := by
  refine ⟨fun b hb => (nomatch hb), fun H' tf kp i => ⟨fun d hd => ?_, fun hl => ?_⟩⟩
  · unfold L2.rng at hd
    rw [List.getElem?_map] at hd
    by_cases hi : i < n
    · rw [List.getElem?_range hi] at hd
      have hd : D.int (lo + (i : Int)) = d := Option.some.inj hd
      subst hd
      refine ⟨hi, fun y H'' ⟨e2, e3⟩ => ?_⟩
      subst e2 e3
      exact ⟨Same.refl _, [], ⟨rfl, rfl⟩, fun b hb => (nomatch hb)⟩
    · rw [List.getElem?_eq_none (by simp; lia)] at hd; cases hd
  · have : (L2.rng lo n).length = n := by simp [L2.rng]
    show n ≤ i
    lia
theorem mi_range1 {a : Expr} (hg : Gl X "range") (hm : X.mg "range" = none) (ha : MA X E Γ [a] u c) (hs : starEach [a] X.env = [(false, eval a X.env)] := by rfl) : MI X E Γ tg (.Call (.Name "range" p) [a] [] pos) (iL rng1 u) .fresh := by
  obtain ⟨_, ta, p', q⟩ := ha
  refine ⟨_, pi_range1 hg hm p' hs, fun O σ H τ Rr ok h => q O σ H τ _ ok ?_⟩
  unfold iL at h
  cases ht : u τ with
  | ok ds =>
    rw [ht, R.ok_bind] at h
    refine fun vs H1 L s r k => ?_
    unfold rng1 at h
    split at h
    · rename_i j
      obtain ⟨v, vs', L1, L2, e1, _, r1, r2⟩ := r
      obtain ⟨rfl, _⟩ := r1
      obtain ⟨rfl, _⟩ := r2
      by_cases hj : -(2 ^ 62) ≤ j ∧ j < 2 ^ 62
      · rw [if_pos hj] at h
        exact ⟨j, e1, hj.1, hj.2, h _ H1 [] s ItOk.rng fun n a ha => (nomatch ha)⟩
      · rw [if_neg hj] at h; exact h.elim
    · exact h.elim
  | err n => rw [ht] at h; exact h
  | bad => rw [ht] at h; exact h
theorem mi_range2 {a b : Expr} (hg : Gl X "range") (hm : X.mg "range" = none) (ha : MA X E Γ [a, b] u c) (hs : starEach [a, b] X.env = [(false, eval a X.env), (false, eval b X.env)] := by rfl) (hs2 : starEach [b] X.env = [(false, eval b X.env)] := by rfl) : MI X E Γ tg (.Call (.Name "range" p) [a, b] [] pos) (iL rng2 u) .fresh := by
  obtain ⟨_, ta, p', q⟩ := ha
  refine ⟨_, pi_range2 hg hm p' hs hs2, fun O σ H τ Rr ok h => q O σ H τ _ ok ?_⟩
  unfold iL at h
  cases ht : u τ with
  | ok ds =>
    rw [ht, R.ok_bind] at h
    refine fun vs H1 L s r k => ?_
    unfold rng2 at h
    split at h
    · rename_i i j
      obtain ⟨v, vs', L1, L2, e1, _, r1, v2, vs2, L3, L4, e2, _, r2, r3⟩ := r
      obtain ⟨rfl, _⟩ := r1
      obtain ⟨rfl, _⟩ := r2
      obtain ⟨rfl, _⟩ := r3
      subst e2
      by_cases hj : -(2 ^ 62) ≤ i ∧ i < 2 ^ 62 ∧ -(2 ^ 62) ≤ j ∧ j < 2 ^ 62
      · rw [if_pos hj] at h
        exact ⟨i, j, e1, hj, h _ H1 [] s ItOk.rng fun n a ha => (nomatch ha)⟩
      · rw [if_neg hj] at h; exact h.elim
    · exact h.elim
  | err n => rw [ht] at h; exact h
  | bad => rw [ht] at h; exact h
end
def compT (fr : List (Option Nat)) (τ : Tn) : Tn := fr.map fun o => o.bind fun i => (τ[i]?).join
def compC (fr : List (Option Nat)) (Γ : List Cl) : List Cl := fr.map fun o => match o with
  | some i => (match Γ[i]? with
    | some .shr => .shr
    | some .own => .brw
    | some .brw => .brw
    | _ => .dead)
  | none => .dead
def clsAll (k : Cl) : List Cl → List Nat → List Cl
  | Γ, [] => Γ
  | Γ, i :: is => clsAll k (Γ.set i k) is
def Cl.ofIt : Rc → Cl
  | .bor => .brw
  | _ => .shr
def compL (f : D → R (Option D)) : List D → R (List D)
  | [] => .ok []
  | d :: ds => (f d).bind fun o => (compL f ds).bind fun ys => .ok (o.toList ++ ys)
def noErr {α : Type} : R α → R α
  | .err _ => .bad
  | r => r
def compF (asg : D → Tn → R Tn) (cnd : Tn → R Bool) (elt : Tn → R D) (τ : Tn) (d : D) : R (Option D) :=
  noErr ((asg d τ).bind fun τ1 => (cnd τ1).bind fun k => if k = true then (elt τ1).bind fun y => .ok (some y) else .ok none)
def eComp (fr : List (Option Nat)) (it : Tn → R (List D)) (g : Tgt) (cnd : Tn → R Bool) (elt : Tn → R D) : Tn → R D := fun τ => (it τ).bind fun xs => (compL (compF g.asg cnd elt (compT fr τ)) xs).bind fun ys => if ys.length ≤ sizeLine then .ok (.lst ys) else .bad
def MTs (X : Cx) (E : XK) (Γ : List Cl) (ifs : List Expr) (t : Tn → R Bool) : Prop :=
  ∃ te, PTs X ifs te ∧ ∀ O σ H τ Q, EOk X.K Γ O H σ τ → postB X.K E H Q (t τ) → te σ H Q
theorem mts_nil {X : Cx} {E : XK} {Γ : List Cl} : MTs X E Γ [] (fun _ => .ok true) := ⟨tYes, pts_nil, fun O σ H τ Q ok h => h H (Same.refl H)⟩
theorem mts_one {X : Cx} {E : XK} {Γ : List Cl} {e : Expr} {t : Tn → R Bool} (h : MT X E Γ e t) : MTs X E Γ [e] t := by
  obtain ⟨te, p, q⟩ := h
  exact ⟨te, pts_one p, q⟩
theorem MTs.pts {X : Cx} {E : XK} {Γ : List Cl} {e : List Expr} {t : Tn → R Bool} (h : MTs X E Γ e t) : PTs X e (wpT X.K E Γ t) := by
  obtain ⟨te, p, q⟩ := h
  rintro pins s σ H Q I ⟨O, τ, ok, z⟩
  exact p pins s σ H Q I (q O σ H τ Q ok z)
section
variable {K : PySem.W.Frag} {Γ : List Cl} {O : Addr → Prop} {H : Hp} {σ : St} {τ : Tn}
theorem EOk.comp {fr : List (Option Nat)} (h : EOk K Γ O H σ τ) : EOk K (compC fr Γ) O H (compSt fr σ) (compT fr τ) := by
  refine ⟨h.dom, fun j c e hc => ?_⟩
  unfold compC at e
  rw [List.getElem?_map] at e
  cases ho : fr[j]? with
  | none => rw [ho] at e; cases e
  | some o =>
    rw [ho] at e
    cases o with
    | none => exact absurd (Option.some.inj e).symm hc
    | some i =>
      have e : (match Γ[i]? with | some .shr => Cl.shr | some .own => .brw | some .brw => .brw | _ => .dead) = c := Option.some.inj e
      have key : ∃ k, Γ[i]? = some k ∧ k ≠ .dead ∧ (c = .shr → k = .shr) := by
        cases hk : Γ[i]? with
        | none => rw [hk] at e; exact absurd e.symm hc
        | some k =>
          rw [hk] at e
          cases k with
          | own => subst e; exact ⟨_, rfl, by simp, fun z => by cases z⟩
          | shr => exact ⟨_, rfl, by simp, fun _ => rfl⟩
          | brw => subst e; exact ⟨_, rfl, by simp, fun z => by cases z⟩
          | dead => exact absurd e.symm hc
      obtain ⟨k, k1, k2, k3⟩ := key
      obtain ⟨v, d, L, e1, e2, r, hs⟩ := h.slot i k k1 k2
      refine ⟨v, d, L, ?_, ?_, r, fun z => hs (k3 z)⟩
      · unfold compSt; rw [List.getElem?_map, ho]; show some ((σ[i]?).join) = _; rw [e1]; rfl
      · unfold compT; rw [List.getElem?_map, ho]; show some ((τ[i]?).join) = _; rw [e2]; rfl
theorem EOk.put {i : Nat} {k : Cl} {d : D} {v : V} {L : List Addr} (h : EOk K Γ O H σ τ) (r : Rep K H d v L) (hk : k = .shr → ∀ a ∈ L, ¬ O a) (h1 : σ.length = Γ.length) (h2 : τ.length = Γ.length) : EOk K (Γ.set i k) O H (σ.set i (some v)) (τ.set i (some d)) := by
  refine ⟨h.dom, fun j c e hc => ?_⟩
  by_cases z : i = j
  · subst z
    have hi : i < Γ.length := by
      have := (List.getElem?_eq_some_iff.mp e).1
      simpa using this
    rw [List.getElem?_set_self hi] at e
    cases e
    exact ⟨v, d, L, by rw [List.getElem?_set_self (by lia)], by rw [List.getElem?_set_self (by lia)], r, hk⟩
  · rw [List.getElem?_set_ne z] at e
    obtain ⟨v', d', L', a1, a2, a3, a4⟩ := h.slot j c e hc
    exact ⟨v', d', L', by rw [List.getElem?_set_ne z]; exact a1, by rw [List.getElem?_set_ne z]; exact a2, a3, a4⟩
end
theorem EOk.putAll {K : PySem.W.Frag} {O : Addr → Prop} {H : Hp} {k : Cl} {Γ : List Cl} {σ : St} {τ : Tn} {is : List Nat} {ds : List D} {vs : List V} {L : List Addr} (h : EOk K Γ O H σ τ) (r : Reps K H ds vs L) (hL : k = .shr → ∀ a ∈ L, ¬ O a) (hl : ds.length = is.length) (h1 : σ.length = Γ.length) (h2 : τ.length = Γ.length) :
    EOk K (clsAll k Γ is) O H (setAll σ is vs) (setAll τ is ds) := by
  induction is generalizing Γ σ τ ds vs L with
  | nil =>
    cases ds with
    | nil => cases r.1; exact h
    | cons => cases hl
  | cons i is ih =>
    cases ds with
    | nil => cases hl
    | cons d ds =>
      obtain ⟨v, vs', L1, L2, e1, e2, r1, r2⟩ := r
      subst e1 e2
      exact ih (h.put r1 (fun z a ha => hL z a (List.mem_append_left _ ha)) h1 h2) r2 (fun z a ha => hL z a (List.mem_append_right _ ha)) (Nat.succ.inj hl) (by rw [List.length_set, List.length_set]; exact h1) (by rw [List.length_set, List.length_set]; exact h2)
theorem setAll_len {α : Type} : ∀ (is : List Nat) (σ : List (Option α)) (vs : List α), (setAll σ is vs).length = σ.length
  | [], σ, vs => by unfold setAll; rfl
  | i :: is, σ, [] => by unfold setAll; rfl
  | i :: is, σ, v :: vs => by unfold setAll; rw [setAll_len is, List.length_set]
theorem setAll_ne {α : Type} {j : Nat} : ∀ (is : List Nat) (σ : List (Option α)) (vs : List α), j ∉ is → (setAll σ is vs)[j]? = σ[j]?
  | [], σ, vs, _ => by unfold setAll; rfl
  | i :: is, σ, [], _ => by unfold setAll; rfl
  | i :: is, σ, v :: vs, h => by
    unfold setAll
    rw [setAll_ne is _ vs (fun z => h (List.mem_cons_of_mem _ z)), List.getElem?_set_ne (fun (z : i = j) => h (z ▸ List.mem_cons_self))]
theorem tgE_in {K : PySem.W.Frag} {Γ : List Cl} {O : Addr → Prop} {H : Hp} {σ : St} {τ τ1 : Tn} {d : D} {v : V} {L : List Addr} {g : Tgt} {k : Cl} (h : EOk K Γ O H σ τ) (r : Rep K H d v L) (hL : k = .shr → ∀ a ∈ L, ¬ O a) (h1 : σ.length = Γ.length) (h2 : τ.length = Γ.length) (ha : g.asg d τ = .ok τ1)
    {Q : St → Hp → Prop} (kk : ∀ σ1, EOk K (clsAll k Γ g.slots) O H σ1 τ1 → σ1.length = σ.length → (∀ j, j ∉ g.slots → σ1[j]? = σ[j]?) → Q σ1 H) : tgG K g v σ H Q := by
  cases g with
  | one i =>
    cases ha
    exact kk _ (h.put r hL h1 h2) (by simp) fun j hj => List.getElem?_set_ne fun z => hj (by simp [Tgt.slots, z])
  | many is =>
    cases d with
    | tup ds =>
      unfold Tgt.asg at ha
      dsimp only at ha
      by_cases hl : ds.length = is.length
      · rw [if_pos hl] at ha
        cases ha
        obtain ⟨a, vs, rfl, hs, rs⟩ := r
        have hv : vs.length = is.length := rs.length.trans hl
        exact ⟨a, vs, rfl, hs, hv, kk _ (h.putAll rs hL hl h1 h2) (setAll_len _ _ _) fun j hj => setAll_ne is σ vs hj⟩
      · rw [if_neg hl] at ha; cases ha
    | _ => cases ha
end L2
set_option maxRecDepth 100000
set_option maxHeartbeats 4000000
namespace L2
open PySem PySem.Spec PyProof.Rows
abbrev noX : XK := fun _ _ _ => False
theorem noErr_ok {α : Type} {r : R α} {a : α} (h : noErr r = .ok a) : r = .ok a := by
  cases r with
  | ok b => exact h
  | err n => cases h
  | bad => cases h
theorem noErr_err {α : Type} {r : R α} {n : Str} (h : noErr r = .err n) : False := by cases r <;> cases h
theorem compL_noerr {f : D → R (Option D)} (hf : ∀ d n, f d ≠ .err n) : ∀ (ds : List D) (n : Str), compL f ds ≠ .err n
  | [], n, h => by cases h
  | d :: ds, n, h => by
    unfold compL at h
    cases h1 : f d with
    | ok o =>
      rw [h1, R.ok_bind] at h
      cases h2 : compL f ds with
      | ok ys => rw [h2] at h; cases h
      | err m => exact compL_noerr hf ds m h2
      | bad => rw [h2] at h; cases h
    | err m => exact hf d m h1
    | bad => rw [h1] at h; cases h
theorem bind_ok {α β : Type} {r : R α} {f : α → R β} {b : β} (h : r.bind f = .ok b) : ∃ a, r = .ok a ∧ f a = .ok b := by
  cases r with
  | ok a => exact ⟨a, rfl, h⟩
  | err n => cases h
  | bad => cases h
theorem compL_cons {f : D → R (Option D)} {d : D} {ds ys : List D} (h : compL f (d :: ds) = .ok ys) : ∃ o zs, f d = .ok o ∧ compL f ds = .ok zs ∧ ys = o.toList ++ zs := by
  unfold compL at h
  obtain ⟨o, h1, h⟩ := bind_ok h
  obtain ⟨zs, h2, h⟩ := bind_ok h
  cases h
  exact ⟨o, zs, h1, h2, rfl⟩
theorem EOk.live {K : PySem.W.Frag} {Γ : List Cl} {O : Addr → Prop} {H : Hp} {σ σ' : St} {τ : Tn} (h : EOk K Γ O H σ τ) (e : ∀ (j : Nat) (c : Cl), Γ[j]? = some c → c ≠ Cl.dead → σ'[j]? = σ[j]?) : EOk K Γ O H σ' τ :=
  ⟨h.dom, fun i c e1 hc => by
    obtain ⟨v, d, L, a1, a2, a3, a4⟩ := h.slot i c e1 hc
    exact ⟨v, d, L, by rw [e i c e1 hc]; exact a1, a2, a3, a4⟩⟩
section
variable {X : Cx} {E : XK} {Γ : List Cl} {pos : Pos}
theorem comp_snd {fr : List (Option Nat)} {tg iter : Expr} {it : Tn → R (List D)} {g : Tgt} {cnd : Tn → R Bool} {te : Tn → R D} {ci c : Rc} (hi : MI X E Γ tg iter it ci) (hcl : c ≠ .bor) (hd : ∀ j ∈ g.slots, (compC fr Γ)[j]? = some .dead) :
    ∃ wi, PI X tg iter wi ∧ ∀ O σ H τ Q, EOk X.K Γ O H σ τ → post X.K E O c H Q (eComp fr it g cnd te τ) → tComp fr wi (tgG X.K g) (wpT X.K noX (clsAll (Cl.ofIt ci) (compC fr Γ) g.slots) cnd) (wpE X.K noX (clsAll (Cl.ofIt ci) (compC fr Γ) g.slots) te c) σ H Q := by
  have hT0 : ∀ σ H Q, (∃ O τ, EOk X.K (clsAll (Cl.ofIt ci) (compC fr Γ) g.slots) O H σ τ ∧ postB X.K noX H Q (cnd τ)) → wpT X.K noX (clsAll (Cl.ofIt ci) (compC fr Γ) g.slots) cnd σ H Q := fun _ _ _ h => h
  have hE0 : ∀ σ H Q, (∃ O τ, EOk X.K (clsAll (Cl.ofIt ci) (compC fr Γ) g.slots) O H σ τ ∧ post X.K noX O c H Q (te τ)) → wpE X.K noX (clsAll (Cl.ofIt ci) (compC fr Γ) g.slots) te c σ H Q := fun _ _ _ h => h
  generalize wpT X.K noX (clsAll (Cl.ofIt ci) (compC fr Γ) g.slots) cnd = TC at hT0 ⊢
  generalize wpE X.K noX (clsAll (Cl.ofIt ci) (compC fr Γ) g.slots) te c = TE0 at hE0 ⊢
  obtain ⟨wi, p, q⟩ := hi
  refine ⟨wi, p, fun O σ H τ Q ok h => q O σ H τ _ ok ?_⟩
  unfold eComp at h
  cases hit' : it τ with
  | err n => rw [hit'] at h; exact h
  | bad => rw [hit'] at h; exact h
  | ok ds =>
    rw [hit', R.ok_bind] at h
    refine fun J H1 L s1 hJ hO dd hD => ?_
    obtain ⟨hLd, hit⟩ := hJ
    generalize hF : compF g.asg cnd te (compT fr τ) = F at h
    cases hcL : compL F ds with
    | err n => exact absurd hcL (compL_noerr (fun d n z => by rw [← hF] at z; exact noErr_err z) ds n)
    | bad => rw [hcL] at h; exact h.elim
    | ok ys =>
      rw [hcL, R.ok_bind] at h
      by_cases hz : ys.length ≤ sizeLine
      · rw [if_pos hz] at h
        have hD0 : H dd = none := s1.non hD
        have lenS : (compSt fr σ).length = (compC fr Γ).length := by simp [compSt, compC]
        have lenT : (compT fr τ).length = (compC fr Γ).length := by simp [compT, compC]
        obtain ⟨W, hW⟩ : ∃ W : Nat → Nat → List V → St → Hp → Prop, ∀ i m ysv τ' H2, W i m ysv τ' H2 ↔ (m = ds.length - i ∧ i ≤ ds.length ∧ H2 dd = some (.lst ysv) ∧ (∀ b, b ≠ dd → H1 b ≠ none → H2 b = H1 b) ∧ τ'.length = (compC fr Γ).length ∧ (∀ j, j ∉ g.slots → τ'[j]? = (compSt fr σ)[j]?) ∧
          ∃ dn rs Ly, ys = dn ++ rs ∧ compL F (ds.drop i) = .ok rs ∧ Reps X.K H2 dn ysv Ly ∧ dd ∉ Ly ∧ RcOk c O H1 Ly) := ⟨_, fun _ _ _ _ _ => Iff.rfl⟩
        refine ⟨W, ⟨ds.length, (hW _ _ _ _ _).mpr ⟨by simp, Nat.zero_le _, upd_same, fun b hb _ => upd_ne hb, lenS, fun _ _ => rfl, [], ys, [], rfl, by simpa using hcL, Reps.nil, by simp, RcOk.nil⟩⟩, ?_⟩
        intro i m ysv τ' H2 hw0
        obtain ⟨rfl, hile, hDy, kp, hl', hj', dn, rs, Ly, eys, hrs, rdn, nD, kLy⟩ := (hW _ _ _ _ _).mp hw0
        refine ⟨hDy, ?_⟩
        have sH : Same H H2 := fun b o e => by
          have e1 := s1 b o e
          have nb : b ≠ dd := ne_of_none e hD0
          rw [kp b nb (by rw [e1]; simp)]; exact e1
        have s12 : ∀ b o, H1 b = some o → H2 b = some o := fun b o e => by
          rw [kp b (ne_of_none e hD) (by rw [e]; simp)]; exact e
        have okO : EOk X.K Γ (fun a => O a ∨ a = dd) H2 σ τ := by
          refine ⟨fun a ha => ?_, fun j k e hk => ?_⟩
          · rcases ha with ha | ha
            · exact (ok.same sH).dom a ha
            · rw [ha, hDy]; simp
          · obtain ⟨v, d, L0, a1, a2, a3, a4⟩ := ok.slot j k e hk
            refine ⟨v, d, L0, a1, a2, a3.same sH, fun z a ha hm => ?_⟩
            rcases hm with hm | hm
            · exact a4 z a ha hm
            · exact a3.there ha (hm ▸ hD0)
        have okc : EOk X.K (compC fr Γ) (fun a => O a ∨ a = dd) H2 τ' (compT fr τ) := (okO.comp (fr := fr)).live fun j k e hk => hj' j fun hm => by
          rw [hd j hm] at e; exact hk (Option.some.inj e).symm
        obtain ⟨go, stop⟩ := hit H2 ⟨fun a xs e => s12 a _ e, fun a o u e => s12 a _ e⟩ (fun a ha => kp a (fun z => hLd a ha (z ▸ hD)) (hLd a ha)) i
        by_cases hlt : i < ds.length
        · obtain ⟨hgo, hy⟩ := go ds[i] (by simp [hlt])
          refine .inr ⟨hgo, fun x H3 y => ?_⟩
          obtain ⟨s3, L', r', sub⟩ := hy x H3 y
          rw [List.drop_eq_getElem_cons hlt] at hrs
          obtain ⟨o, zs, ho, hzs, ers⟩ := compL_cons hrs
          rw [← hF] at ho
          have ho := noErr_ok ho
          obtain ⟨τ1, ha, ho⟩ := bind_ok ho
          obtain ⟨k, hk, ho⟩ := bind_ok ho
          refine tgE_in (k := Cl.ofIt ci) (okc.same s3) r' (fun z a ha hm => ?_) hl' lenT ha fun σ1 ok1 hl1 hj1 => ?_
          · have hci : ci ≠ .bor := fun w => by subst w; cases z
            rcases hm with hm | hm
            · exact hO hci a (sub a ha) hm
            · exact hLd a (sub a ha) (hm ▸ hD)
          · refine hT0 _ _ _ ⟨_, τ1, ok1, ?_⟩
            rw [hk]
            refine fun H5 s5 => ?_
            have s25 := s3.trans s5
            cases k with
            | true =>
              rw [if_pos rfl] at ho
              dsimp only
              rw [if_pos rfl]
              obtain ⟨yd, hyd, ho⟩ := bind_ok ho
              cases ho
              refine hE0 _ _ _ ⟨_, τ1, ok1.same s5, ?_⟩
              rw [hyd]
              refine fun yv H6 Lw s6 r6 k6 => ?_
              have s26 := s25.trans s6
              have hD6 : H6 dd = some (.lst ysv) := s26 dd _ hDy
              have hlen : ysv.length = dn.length := rdn.length
              have nDw : dd ∉ Lw := fun hm => by
                cases c with
                | fresh => have := k6.2 dd hm; rw [s25 dd _ hDy] at this; cases this
                | shr => exact k6 dd hm (.inr rfl)
                | bor => exact hcl rfl
              have mu : (∃ vs, H6 dd = some (.lst vs)) ∨ ∃ kvs, H6 dd = some (.dK kvs) := .inl ⟨_, hD6⟩
              refine ⟨hD6, ?_, ds.length - (i + 1), by lia, (hW _ _ _ _ _).mpr ⟨rfl, hlt, upd_same, fun b hb hn => ?_, by rw [hl1]; exact hl', fun j hj => (hj1 j hj).trans (hj' j hj), dn ++ [yd], zs, Ly ++ Lw, ?_, hzs, ?_, ?_, ?_⟩⟩
              · rw [eys, ers, List.length_append, List.length_append] at hz
                simp only [Option.toList, List.length_singleton] at hz
                lia
              · rw [upd_ne hb, ← kp b hb hn]
                exact s26.at (by rw [kp b hb hn]; exact hn)
              · rw [eys, ers, List.append_assoc]; rfl
              · have := Reps.append ((rdn.same s26).upd (o := .lst (ysv ++ [yv])) mu nD) (Reps.cons (r6.upd (o := .lst (ysv ++ [yv])) mu nDw) Reps.nil)
                rw [List.append_nil] at this
                exact this
              · intro hm
                rcases List.mem_append.mp hm with z | z
                · exact nD z
                · exact nDw z
              · cases c with
                | fresh =>
                  refine ⟨List.nodup_append.mpr ⟨kLy.1, k6.1, fun a ha b hb z => ?_⟩, fun a ha => ?_⟩
                  · subst z
                    have h2 := rdn.there ha
                    have h5 := k6.2 a hb
                    exact h2 (s25.non h5)
                  · rcases List.mem_append.mp ha with z | z
                    · exact kLy.2 a z
                    · have h5 := k6.2 a z
                      have h2 : H2 a = none := s25.non h5
                      cases e1 : H1 a with
                      | none => rfl
                      | some o => rw [s12 a o e1] at h2; cases h2
                | shr =>
                  intro a ha
                  rcases List.mem_append.mp ha with z | z
                  · exact kLy a z
                  · exact fun w => k6 a z (.inl w)
                | bor => exact absurd rfl hcl
            | false =>
              rw [if_neg Bool.false_ne_true] at ho
              dsimp only
              rw [if_neg Bool.false_ne_true]
              cases ho
              refine ⟨ds.length - (i + 1), by lia, (hW _ _ _ _ _).mpr ⟨rfl, hlt, s25 dd _ hDy, fun b hb hn => ?_, by rw [hl1]; exact hl', fun j hj => (hj1 j hj).trans (hj' j hj), dn, zs, Ly, ?_, hzs, rdn.same s25, nD, kLy⟩⟩
              · rw [← kp b hb hn]
                exact s25.at (by rw [kp b hb hn]; exact hn)
              · rw [eys, ers]; rfl
        · have e : i = ds.length := by lia
          subst e
          rw [List.drop_length] at hrs
          cases hrs
          rw [List.append_nil] at eys
          subst eys
          refine .inl ⟨stop (Nat.le_refl _), h (.ref dd) H2 (dd :: Ly) sH ⟨dd, ysv, Ly, rfl, hDy, rfl, rdn⟩ ?_⟩
          cases c with
          | fresh =>
            refine ⟨List.nodup_cons.mpr ⟨nD, kLy.1⟩, fun a ha => ?_⟩
            rcases List.mem_cons.mp ha with z | z
            · rw [z]; exact hD0
            · exact s1.non (kLy.2 a z)
          | shr =>
            intro a ha
            rcases List.mem_cons.mp ha with z | z
            · rw [z]; exact fun w => ok.dom dd w hD0
            · exact kLy a z
          | bor => exact absurd rfl hcl
      · rw [if_neg hz] at h; exact h.elim
theorem me_comp {N' : List Str} {fr : List (Option Nat)} {scope : Scope} {tg iter elt : Expr} {ifs : List Expr} {it : Tn → R (List D)} {g : Tgt} {cnd : Tn → R Bool} {te : Tn → R D} {ci c : Rc} (hc : X.calm = true) (S : CompScope X N' fr scope) (hi : MI X E Γ tg iter it ci)
    (hg : ∀ s₃ H₃ fp pins, MG (compCx X scope N' s₃ H₃ fp pins) tg g) (ht : ∀ s₃ H₃ fp pins, MTs (compCx X scope N' s₃ H₃ fp pins) noX (clsAll (Cl.ofIt ci) (compC fr Γ) g.slots) ifs cnd)
    (he : ∀ s₃ H₃ fp pins, ME (compCx X scope N' s₃ H₃ fp pins) noX (clsAll (Cl.ofIt ci) (compC fr Γ) g.slots) elt te c) (hcl : c ≠ .bor) (hd : ∀ j ∈ g.slots, (compC fr Γ)[j]? = some .dead)
    (hs : ∀ x, foldedSetIterable iter X.env x = pure x := by intro _; rfl) : ME X E Γ (.ListComp elt [⟨tg, iter, ifs, 0⟩] scope pos) (eComp fr it g cnd te) c := by
  obtain ⟨wi, p, q⟩ := comp_snd (cnd := cnd) (te := te) hi hcl hd
  exact ⟨_, pe_comp hc S p (fun s₃ H₃ fp pins => (hg s₃ H₃ fp pins).pg) (fun s₃ H₃ fp pins => (ht s₃ H₃ fp pins).pts) (fun s₃ H₃ fp pins => (he s₃ H₃ fp pins).pe) hs, q⟩
theorem ms_comp {Γl : List Cl} {N' : List Str} {fr : List (Option Nat)} {scope : Scope} {tg iter elt : Expr} {ifs : List Expr} {it : Tn → R (List D)} {g : Tgt} {cnd : Tn → R Bool} {te : Tn → R D} {ci : Rc} {i : Nat} {x : Str} {pos' cpos : Pos} (hc : X.calm = true) (S : CompScope X N' fr scope) (hi : MI X E Γ tg iter it ci)
    (hg : ∀ s₃ H₃ fp pins, MG (compCx X scope N' s₃ H₃ fp pins) tg g) (ht : ∀ s₃ H₃ fp pins, MTs (compCx X scope N' s₃ H₃ fp pins) noX (clsAll (Cl.ofIt ci) (compC fr Γ) g.slots) ifs cnd)
    (he : ∀ s₃ H₃ fp pins, ME (compCx X scope N' s₃ H₃ fp pins) noX (clsAll (Cl.ofIt ci) (compC fr Γ) g.slots) elt te .fresh) (hd : ∀ j ∈ g.slots, (compC fr Γ)[j]? = some .dead)
    (hN : X.N.Nodup) (hix : X.N[i]? = some x) (hl : i < Γ.length) (hx : Loc X.env.scope x) (hsw : swapsWith (.ListComp elt [⟨tg, iter, ifs, 0⟩] scope cpos) (some (.Name x pos')) pos.line X.env = pure true)
    (hs : ∀ x, foldedSetIterable iter X.env x = pure x := by intro _; rfl) (hf : X.fn x = true ∨ X.env.scope.names.lookup x = some .local := by first | exact .inl rfl | exact .inr rfl | assumption) :
    MS X E Γl Γ (.Assign [.Name x pos'] (.ListComp elt [⟨tg, iter, ifs, 0⟩] scope cpos) pos) (sSet i (eComp fr it g cnd te)) (Γ.set i .own) := by
  obtain ⟨wi, p, q⟩ := comp_snd (cnd := cnd) (te := te) (c := .fresh) hi (by decide) hd
  refine ⟨_, ps_comp (g := tgG X.K g) (tc := wpT X.K noX (clsAll (Cl.ofIt ci) (compC fr Γ) g.slots) cnd) (te := wpE X.K noX (clsAll (Cl.ofIt ci) (compC fr Γ) g.slots) te .fresh) hc S p (fun s₃ H₃ fp pins => (hg s₃ H₃ fp pins).pg) (fun s₃ H₃ fp pins => (ht s₃ H₃ fp pins).pts) (fun s₃ H₃ fp pins => (he s₃ H₃ fp pins).pe) hN hix hx hsw hs hf, fun B σ H τ Z ok h => ?_⟩
  obtain ⟨O, eo, _⟩ := ok.eok
  refine q O σ H τ _ eo ?_
  unfold sSet at h
  cases ht' : eComp fr it g cnd te τ with
  | ok d =>
    rw [ht', R.ok_bind] at h
    exact fun v H' L s r k => h _ _ (SOk.into (T := []) (ok.aside s (fun a ha => r.there ha) k.1 k.2) r hl)
  | err n => rw [ht'] at h; exact fun C H' e s => h C H' e (ok.ext.trans s)
  | bad => rw [ht'] at h; exact h
end
def spM (K : PySem.W.Frag) (F : List D → R D) (n : Nat) : Sp := fun vs H Q E => vs.length = n ∧ ∃ ds L, Reps K H ds vs L ∧ post K E (fun _ => False) .fresh H Q (F ds)
def runB (n : Nat) (t : Tn → R Fl) (ds : List D) : R D := match t (ds.map some ++ List.replicate (n - ds.length) none) with
  | .ok (.rt d) => .ok d
  | .ok (.nx _) => .ok .non
  | .err c => .err c
  | _ => .bad
def prmC (n m : Nat) : List Cl := List.replicate m .shr ++ List.replicate (n - m) .dead
theorem Reps.slot {K : PySem.W.Frag} {H : Hp} {ds : List D} {vs : List V} {L : List Addr} (r : Reps K H ds vs L) : ∃ Ls : Nat → List Addr, ∀ (i : Nat) (d : D), ds[i]? = some d → ∃ v, vs[i]? = some v ∧ Rep K H d v (Ls i) := by
  have : ∀ i : Nat, ∃ L1 : List Addr, ∀ d, ds[i]? = some d → ∃ v, vs[i]? = some v ∧ Rep K H d v L1 := fun i => by
    cases h : ds[i]? with
    | none => exact ⟨[], fun d z => by cases z⟩
    | some d =>
      obtain ⟨v, L1, e1, r1, _⟩ := r.get h
      exact ⟨L1, fun d' z => by cases z; exact ⟨v, e1, r1⟩⟩
  exact ⟨fun i => Classical.choose (this i), fun i => Classical.choose_spec (this i)⟩
theorem SOk.start {K : PySem.W.Frag} {H : Hp} {N : List Str} {ds : List D} {vs : List V} {L : List Addr} (r : Reps K H ds vs L) (hn : vs.length ≤ N.length) : SOk K (prmC N.length vs.length) H H (L2.start N vs) (ds.map some ++ List.replicate (N.length - ds.length) none) [] := by
  have hl := r.length
  have lp : (prmC N.length vs.length).length = N.length := by unfold prmC; rw [List.length_append, List.length_replicate, List.length_replicate]; lia
  obtain ⟨Ls, hL⟩ := r.slot
  have cls : ∀ i c, (prmC N.length vs.length)[i]? = some c → c ≠ .dead → i < vs.length ∧ c = .shr := fun i c e hc => by
    unfold prmC at e
    by_cases hi : i < vs.length
    · rw [List.getElem?_append_left (by simpa using hi), List.getElem?_replicate, if_pos hi] at e
      exact ⟨hi, (Option.some.inj e).symm⟩
    · rw [List.getElem?_append_right (by simp; lia), List.getElem?_replicate] at e
      split at e
      · exact absurd (Option.some.inj e).symm hc
      · cases e
  have no : ∀ i : Nat, (prmC N.length vs.length)[i]? ≠ some Cl.own := fun i e => by
    have := (cls i _ e (by simp)).2
    cases this
  refine ⟨Same.refl H, ?_, ?_, Ls, fun i c e hc => ?_, fun i e => absurd e (no i), fun i j c _ e => absurd e (no i), List.nodup_nil, fun a ha => (nomatch ha), fun i c e hc a ha hm => (nomatch hm)⟩
  · unfold L2.start; rw [lp, List.length_append, List.length_map, List.length_replicate]; lia
  · rw [lp, List.length_append, List.length_map, List.length_replicate]; lia
  · obtain ⟨hi, _⟩ := cls i c e hc
    have hi' : i < ds.length := by lia
    obtain ⟨v, e1, r1⟩ := hL i ds[i] (by simp [hi'])
    refine ⟨v, ds[i], ?_, ?_, r1⟩
    · unfold L2.start
      rw [List.getElem?_append_left (by simpa using hi), List.getElem?_map, e1]; rfl
    · rw [List.getElem?_append_left (by simpa using hi'), List.getElem?_map]; simp [hi']
section
variable {P : Program} {w : World} {K : PySem.W.Frag} {mg : Str → Option Value} {base : Heap} {x : Str} {st : Stmt} {N ps : List Str} {k : Nat} {t : Tn → R Fl} {Γ' : List Cl}
theorem DefIn.mir (Df : DefIn K mg x st ps) (S : FnScope N ps (defScope st)) (hn : ps.length ≤ N.length)
    (hbody : ∀ (f : Addr) (cdv : Value) (A : Around) (outer : List Env) (s : Shared) (H : Hp) (E : XK), Room k (A.deeper (envOfC x (defScope st) s.heap.objs.size f cdv)) →
      MSs (cxOf (cxx P w) P w K mg base N x (defScope st) f cdv A outer s H E) E [] (prmC N.length ps.length) (defBody st) t Γ') : Own P w K mg base x (k + 1) ps (spM K (runB N.length t) ps.length) := by
  refine Df.own S (fun vs H Q E h => h.1) fun f cdv A outer s H vs Q E hr h => ?_
  obtain ⟨hl, ds, L, r, h⟩ := h
  obtain ⟨ts, p, q⟩ := hbody f cdv A outer s H E hr
  refine ⟨ts, p, q H (start N vs) H _ _ (hl ▸ SOk.start r (by lia)) ?_⟩
  unfold runB at h
  cases ht : t (ds.map some ++ List.replicate (N.length - ds.length) none) with
  | ok f =>
    rw [ht] at h
    cases f with
    | nx τ' => exact fun σ' H' ok' => h .non H' [] ok'.ext ⟨rfl, rfl⟩ RcOk.nil
    | rt d => exact fun v H' L s r n1 n2 => h v H' L s r ⟨n1, n2⟩
    | bk τ' => exact h.elim
    | ct τ' => exact h.elim
  | err n => rw [ht] at h; exact fun C H' e s => h C H' e s
  | bad => rw [ht] at h; exact h.elim
end
section
variable {X : Cx} {E : XK} {Γ Γ' Γl : List Cl} {x : Str} {k : Nat} {ps : List Str} {F : List D → R D} {e : Expr} {es : List Expr} {u : Tn → R (List D)} {c : Rc} {p pos : Pos} {n : Nat}
theorem me_call (O : Own X.prog X.w X.K X.mg X.base x k ps (spM X.K F n)) (hr : Room k X.A) (hg : Gl X x) (hx : Passes (cxx X.prog X.w) X E) (ha : MA X E Γ (e :: es) u c) (hl : (e :: es).length = n := by rfl) (hdb : (x == ("__debug__" : Str)) = false := by decide)
    (he : starEach (e :: es) X.env = (false, eval e X.env) :: starEach es X.env := by rfl) (hpl : (backTo pos (starEach es X.env)).any (·.1) = false := by rfl) : ME X E Γ (.Call (.Name x p) (e :: es) [] pos) (eL F u) .fresh := by
  obtain ⟨hlen, ta, pa, q⟩ := ha
  refine ⟨_, pe_own O hr hg hx pa hdb he hpl, fun O' σ H τ Q ok h => q O' σ H τ _ ok ?_⟩
  unfold eL at h
  cases hu : u τ with
  | ok ds =>
    rw [hu, R.ok_bind] at h
    refine fun vs H1 L s1 r1 _ => ?_
    have hv : (vs ++ []).length = n := by rw [List.append_nil, r1.length, hlen τ ds hu]; exact hl
    refine ⟨hv, ds, L, by rw [List.append_nil]; exact r1, ?_⟩
    have h1 := h.same s1
    cases hF : F ds with
    | ok d => rw [hF] at h1; exact h1
    | err n => rw [hF] at h1; exact h1
    | bad => rw [hF] at h1; exact h1
  | err n => rw [hu] at h; exact h
  | bad => rw [hu] at h; exact h
end
end L2
set_option maxRecDepth 100000
set_option maxHeartbeats 4000000
namespace L2
open PySem PySem.Spec PyProof.Rows
def D.isS : D → Bool
  | .non => true
  | .bl _ => true
  | .int _ => true
  | .str _ => true
  | _ => false
def eqS : D → D → Bool
  | .non, .non => true
  | .bl a, .bl b => a == b
  | .bl a, .int b => (if a then 1 else 0) == b
  | .int a, .bl b => a == (if b then 1 else 0)
  | .int a, .int b => a == b
  | .str a, .str b => a == b
  | _, _ => false
def eqZip (f : D → D → Option Bool) : List D → List D → Option Bool
  | x :: xs, y :: ys => match f x y, eqZip f xs ys with
    | some a, some b => some (a && b)
    | _, _ => none
  | _, _ => some true
theorem nonB {b : Bool} (h : (none : Option Bool) = some b) : False := by cases h
def eqF : Nat → D → D → Option Bool
  | 0, x, y => if (x.isS && y.isS) = true then some (eqS x y) else none
  | n + 1, x, y => match x, y with
    | .lst xs, .lst ys => if xs.length = ys.length then eqZip (eqF n) xs ys else some false
    | .tup xs, .tup ys => (eqZip (eqF n) xs ys).map fun b => b && xs.length == ys.length
    | .frl xs, .lst ys => if xs.length = ys.length then eqZip (eqF n) xs ys else some false
    | .frl xs, .frl ys => if xs.length = ys.length then eqZip (eqF n) xs ys else some false
    | .lst _, .tup _ => some false
    | .tup _, .lst _ => some false
    | .lst _, y => if y.isS = true then some false else none
    | .tup _, y => if y.isS = true then some false else none
    | x, .lst _ => if x.isS = true then some false else none
    | x, .tup _ => if x.isS = true then some false else none
    | x, y => if (x.isS && y.isS) = true then some (eqS x y) else none
theorem scalU {K : PySem.W.Frag} {H : Hp} {d : D} {v : V} {L : List Addr} {u : Value} (h : d.isS = true) (r : Rep K H d v L) (q : RelV v u) :
    (d = .non ∧ u = .none) ∨ (∃ b, d = .bl b ∧ u = .bool b) ∨ (∃ i t, d = .int i ∧ u = .int i t) ∨ ∃ x t, d = .str x ∧ u = .str x t := by
  cases d with
  | non => obtain ⟨rfl, _⟩ := r; exact .inl ⟨rfl, q⟩
  | bl b => obtain ⟨rfl, _⟩ := r; exact .inr (.inl ⟨b, rfl, q⟩)
  | int i => obtain ⟨rfl, _⟩ := r; obtain ⟨t, e⟩ := q; exact .inr (.inr (.inl ⟨i, t, rfl, e⟩))
  | str x => obtain ⟨rfl, _⟩ := r; obtain ⟨t, e⟩ := q; exact .inr (.inr (.inr ⟨x, t, rfl, e⟩))
  | _ => cases h
open SeqAt in
theorem rc_scal {A : Around} {s : Shared} {K : PySem.W.Frag} {H : Hp} {d1 d2 : D} {v1 v2 : V} {L1 L2 : List Addr} {u1 u2 : Value} (h1 : d1.isS = true) (h2 : d2.isS = true) (r1 : Rep K H d1 v1 L1) (r2 : Rep K H d2 v2 L2) (q1 : RelV v1 u1) (q2 : RelV v2 u2) :
    RcAt A s u1 u2 (eqS d1 d2) ∧ EqAt A s u1 u2 (eqS d1 d2) ∧ RcNeAt A s u1 u2 (!eqS d1 d2) := by
  rcases scalU h1 r1 q1 with ⟨rfl, rfl⟩ | ⟨a, rfl, rfl⟩ | ⟨a, t, rfl, rfl⟩ | ⟨a, t, rfl, rfl⟩ <;>
  rcases scalU h2 r2 q2 with ⟨rfl, rfl⟩ | ⟨b, rfl, rfl⟩ | ⟨b, t', rfl, rfl⟩ | ⟨b, t', rfl, rfl⟩
  · exact ⟨RcAt.none_none, EqAt.same _, RcNeAt.none_none⟩
  · exact ⟨RcAt.none_bool b, EqAt.none_bool b, RcNeAt.none_bool b⟩
  · exact ⟨RcAt.none_int b _, EqAt.none_int b _, RcNeAt.none_int b _⟩
  · exact ⟨RcAt.none_str b _, EqAt.none_str b _, RcNeAt.none_str b _⟩
  · exact ⟨RcAt.bool_none a, EqAt.bool_none a, RcNeAt.bool_none a⟩
  · exact ⟨RcAt.bool_bool a b, EqAt.bool_bool a b, RcNeAt.bool_bool a b⟩
  · exact ⟨RcAt.bool_int a b _, EqAt.bool_int a b _, RcNeAt.bool_int a b _⟩
  · exact ⟨RcAt.bool_str a b _, EqAt.bool_str a b _, RcNeAt.bool_str a b _⟩
  · exact ⟨RcAt.int_none a _, EqAt.int_none a _, RcNeAt.int_none a _⟩
  · exact ⟨RcAt.int_bool a _ b, EqAt.int_bool a _ b, RcNeAt.int_bool a _ b⟩
  · exact ⟨RcAt.int_int a _ b _, EqAt.int_int a _ b _, RcNeAt.int_int a _ b _⟩
  · exact ⟨RcAt.int_str a _ b _, EqAt.int_str a _ b _, RcNeAt.int_str a _ b _⟩
  · exact ⟨RcAt.str_none a _, EqAt.str_none a _, RcNeAt.str_none a _⟩
  · exact ⟨RcAt.str_bool a _ b, EqAt.str_bool a _ b, RcNeAt.str_bool a _ b⟩
  · exact ⟨RcAt.str_int a _ b _, EqAt.str_int a _ b _, RcNeAt.str_int a _ b _⟩
  · exact ⟨RcAt.str_str a _ b _, EqAt.str_str a _ b _, RcNeAt.str_str a _ b _⟩
open SeqAt in
theorem rc_ls {A : Around} {s : Shared} {K : PySem.W.Frag} {H : Hp} {d : D} {v : V} {L : List Addr} {u : Value} {l : Addr} {items : Array Value} (hd : d.isS = true) (r : Rep K H d v L) (q : RelV v u) (hl : s.heap.IsList l items) (hu : A.units < cLine) :
    (RcAt A s (.ref l) u false ∧ EqAt A s (.ref l) u false ∧ RcNeAt A s (.ref l) u true) ∧ RcAt A s u (.ref l) false ∧ EqAt A s u (.ref l) false ∧ RcNeAt A s u (.ref l) true := by
  rcases scalU hd r q with ⟨rfl, rfl⟩ | ⟨b, rfl, rfl⟩ | ⟨b, t', rfl, rfl⟩ | ⟨b, t', rfl, rfl⟩
  · exact ⟨⟨RcAt.list_none hl hu, EqAt.list_none hl hu, RcNeAt.list_none hl hu⟩, RcAt.none_list hl hu, EqAt.none_list hl hu, RcNeAt.none_list hl hu⟩
  · exact ⟨⟨RcAt.list_bool b hl hu, EqAt.list_bool b hl hu, RcNeAt.list_bool b hl hu⟩, RcAt.bool_list b hl hu, EqAt.bool_list b hl hu, RcNeAt.bool_list b hl hu⟩
  · exact ⟨⟨RcAt.list_int b _ hl hu, EqAt.list_int b _ hl hu, RcNeAt.list_int b _ hl hu⟩, RcAt.int_list b _ hl hu, EqAt.int_list b _ hl hu, RcNeAt.int_list b _ hl hu⟩
  · exact ⟨⟨RcAt.list_str b _ hl hu, EqAt.list_str b _ hl hu, RcNeAt.list_str b _ hl hu⟩, RcAt.str_list b _ hl hu, EqAt.str_list b _ hl hu, RcNeAt.str_list b _ hl hu⟩
open SeqAt in
theorem rc_ts {A : Around} {s : Shared} {K : PySem.W.Frag} {H : Hp} {d : D} {v : V} {L : List Addr} {u : Value} {l : Addr} {items : Array Value} (hd : d.isS = true) (r : Rep K H d v L) (q : RelV v u) (hl : s.heap.IsTuple l items) (hu : A.units < cLine) :
    (RcAt A s (.ref l) u false ∧ EqAt A s (.ref l) u false ∧ RcNeAt A s (.ref l) u true) ∧ RcAt A s u (.ref l) false ∧ EqAt A s u (.ref l) false ∧ RcNeAt A s u (.ref l) true := by
  rcases scalU hd r q with ⟨rfl, rfl⟩ | ⟨b, rfl, rfl⟩ | ⟨b, t', rfl, rfl⟩ | ⟨b, t', rfl, rfl⟩
  · exact ⟨⟨RcAt.tuple_none hl hu, EqAt.tuple_none hl hu, RcNeAt.tuple_none hl hu⟩, RcAt.none_tuple hl hu, EqAt.none_tuple hl hu, RcNeAt.none_tuple hl hu⟩
  · exact ⟨⟨RcAt.tuple_bool b hl hu, EqAt.tuple_bool b hl hu, RcNeAt.tuple_bool b hl hu⟩, RcAt.bool_tuple b hl hu, EqAt.bool_tuple b hl hu, RcNeAt.bool_tuple b hl hu⟩
  · exact ⟨⟨RcAt.tuple_int b _ hl hu, EqAt.tuple_int b _ hl hu, RcNeAt.tuple_int b _ hl hu⟩, RcAt.int_tuple b _ hl hu, EqAt.int_tuple b _ hl hu, RcNeAt.int_tuple b _ hl hu⟩
  · exact ⟨⟨RcAt.tuple_str b _ hl hu, EqAt.tuple_str b _ hl hu, RcNeAt.tuple_str b _ hl hu⟩, RcAt.str_tuple b _ hl hu, EqAt.str_tuple b _ hl hu, RcNeAt.str_tuple b _ hl hu⟩
def eqAtJ (f : D → D → Option Bool) (xs ys : List D) (j : Nat) : Bool := match xs[j]?, ys[j]? with
  | some x, some y => (f x y).getD false
  | _, _ => true
theorem eqZip_all {f : D → D → Option Bool} : ∀ {xs ys : List D} {b : Bool}, eqZip f xs ys = some b → b = (List.range (min xs.length ys.length)).all (eqAtJ f xs ys) ∧ ∀ j x y, xs[j]? = some x → ys[j]? = some y → f x y = some (eqAtJ f xs ys j)
  | [], ys, b, h => by
    unfold eqZip at h
    cases h
    exact ⟨by simp, fun j x y e => by simp at e⟩
  | x :: xs, [], b, h => by
    unfold eqZip at h
    cases h
    exact ⟨by simp, fun j x y e e' => by simp at e'⟩
  | x :: xs, y :: ys, b, h => by
    unfold eqZip at h
    cases h1 : f x y with
    | none => rw [h1] at h; cases h
    | some a =>
      cases h2 : eqZip f xs ys with
      | none => rw [h1, h2] at h; cases h
      | some b' =>
        rw [h1, h2] at h
        cases h
        obtain ⟨e1, e2⟩ := eqZip_all h2
        have z0 : eqAtJ f (x :: xs) (y :: ys) 0 = a := by simp [eqAtJ, h1]
        have zs : ∀ j, eqAtJ f (x :: xs) (y :: ys) (j + 1) = eqAtJ f xs ys j := fun j => by simp [eqAtJ]
        refine ⟨?_, fun j x' y' ex ey => ?_⟩
        · have hm : min (x :: xs).length (y :: ys).length = min xs.length ys.length + 1 := by simp [Nat.succ_min_succ]
          rw [hm, List.range_succ_eq_map, List.all_cons, List.all_map, z0, e1]
          congr 1
        · cases j with
          | zero => simp at ex ey; subst ex ey; rw [z0]; exact h1
          | succ j => rw [zs]; exact e2 j x' y' (by simpa using ex) (by simpa using ey)
section
variable {X : Cx} {pins : List (Addr × Obj)} {σ : St} {H : Hp} {s : Shared}
def D.ofV : V → D
  | .bl b => .bl b
  | .int i => .int i
  | .str x => .str x
  | _ => .non
theorem Rep.ofV {K : PySem.W.Frag} {H : Hp} {d : D} {v : V} {L : List Addr} (h : ∀ a, v ≠ .ref a) (r : Rep K H d v L) : d = D.ofV v := by
  cases d with
  | non => rw [r.1]; rfl
  | bl => rw [r.1]; rfl
  | int => rw [r.1]; rfl
  | str => rw [r.1]; rfl
  | tup => obtain ⟨a, _, e, _⟩ := r; exact absurd e (h a)
  | lst => obtain ⟨a, _, _, e, _⟩ := r; exact absurd e (h a)
  | dic => obtain ⟨a, _, _, e, _⟩ := r; exact absurd e (h a)
  | frl => obtain ⟨a, _, e, _⟩ := r; exact absurd e (h a)
theorem Rep.oneS {K : PySem.W.Frag} {H : Hp} {d d' : D} {u v : V} {L L' : List Addr} (e : v = u) (hs : ∀ a, u ≠ .ref a) (r : Rep K H d v L) (r' : Rep K H d' v L') : d = d' := by
  subst e
  exact (r.ofV hs).trans (r'.ofV hs).symm
theorem Rep.noS {K : PySem.W.Frag} {H : Hp} {d : D} {a : Addr} {L : List Addr} (r : Rep K H d (.ref a) L) (h : d.isS = true) : False := by
  cases d with
  | non => cases r.1
  | bl => cases r.1
  | int => cases r.1
  | str => cases r.1
  | _ => cases h
theorem no_tl {a : Addr} {vs : List V} {o : HO} (I : Inv X pins σ H s) (h : SqT X.K H a vs) (h' : H a = some o) (n1 : ∀ xs, o ≠ .tup xs) (n2 : ∀ p xs, o ≠ .frz p (.tup xs)) : False := by
  rcases h with (z | ⟨p, z⟩) | ⟨o', its, n, hk, hc, _⟩
  · rw [z] at h'; exact n1 _ (Option.some.inj h').symm
  · rw [z] at h'; exact n2 _ _ (Option.some.inj h').symm
  · have := (I.bs a o' (I.mod.kin a o' hk)).2
    rw [this] at h'; cases h'
theorem no_fl {a : Addr} {vs : List V} {o : HO} (I : Inv X pins σ H s) (h : SqF X.K H a vs) (h' : H a = some o) (n2 : ∀ p xs, o ≠ .frz p (.lst xs)) : False := by
  rcases h with ⟨p, z⟩ | ⟨o', its, n, hk, hc, _⟩
  · rw [z] at h'; exact n2 _ _ (Option.some.inj h').symm
  · have := (I.bs a o' (I.mod.kin a o' hk)).2
    rw [this] at h'; cases h'
theorem no_tf {a : Addr} {vs ws : List V} (I : Inv X pins σ H s) (h' : SqT X.K H a ws) (h : SqF X.K H a vs) : False := by
  obtain ⟨its, _, ⟨o1, n1, e1, c1, _⟩, _⟩ := I.list h.sq
  obtain ⟨its2, _, ⟨o2, e2, c2, _⟩, _⟩ := I.tuple h'
  rw [e1] at e2
  cases e2
  rw [c1] at c2
  exact absurd c2 (by simp)
theorem no_ld {a : Addr} {xs : List V} {kvs : List (Key × V)} {H : Hp} (h : H a = some (.lst xs)) (h' : H a = some (.dK kvs)) : False := by
  rw [h] at h'; cases h'
mutual
theorem Rep.one (I : Inv X pins σ H s) : ∀ (d d' : D) (v : V) (L L' : List Addr), Rep X.K H d v L → Rep X.K H d' v L' → d = d'
  | .non, _, _, _, _, r, r' => Rep.oneS r.1 (fun _ z => V.noConfusion z) r r'
  | .bl _, _, _, _, _, r, r' => Rep.oneS r.1 (fun _ z => V.noConfusion z) r r'
  | .int _, _, _, _, _, r, r' => Rep.oneS r.1 (fun _ z => V.noConfusion z) r r'
  | .str _, _, _, _, _, r, r' => Rep.oneS r.1 (fun _ z => V.noConfusion z) r r'
  | .tup ds, d', _, L, L', hq5, r => by
    obtain ⟨a, vs, e, h, rs⟩ := hq5
    subst e
    cases d' with
    | non => exact (Rep.noS r rfl).elim
    | bl _ => exact (Rep.noS r rfl).elim
    | int _ => exact (Rep.noS r rfl).elim
    | str _ => exact (Rep.noS r rfl).elim
    | tup ds' =>
      obtain ⟨a', vs', e, h', rs'⟩ := r
      cases e
      cases I.tuple_inj h h'
      rw [Reps.one I ds ds' vs L L' rs rs']
    | lst _ =>
      obtain ⟨_, _, _, e, h', _⟩ := r
      cases e
      exact (no_tl I h h' (fun _ z => HO.noConfusion z) fun _ _ z => HO.noConfusion z).elim
    | dic _ _ =>
      obtain ⟨_, _, _, e, h', _⟩ := r
      cases e
      exact (no_tl I h h' (fun _ z => HO.noConfusion z) fun _ _ z => HO.noConfusion z).elim
    | frl _ =>
      obtain ⟨_, _, e, h', _⟩ := r
      cases e
      exact (no_tf I h h').elim
  | .lst ds, d', _, L, L', hq5, r => by
    obtain ⟨a, vs, L1, e, h, _, rs⟩ := hq5
    subst e
    cases d' with
    | non => exact (Rep.noS r rfl).elim
    | bl _ => exact (Rep.noS r rfl).elim
    | int _ => exact (Rep.noS r rfl).elim
    | str _ => exact (Rep.noS r rfl).elim
    | tup ds' =>
      obtain ⟨a', vs', e, h', rs'⟩ := r
      cases e
      exact (no_tl I h' h (fun _ z => HO.noConfusion z) fun _ _ z => HO.noConfusion z).elim
    | lst ds' =>
      obtain ⟨_, _, _, e, h', _, rs'⟩ := r
      cases e
      rw [h] at h'
      cases h'
      rw [Reps.one I ds ds' vs _ _ rs rs']
    | dic _ _ =>
      obtain ⟨_, _, _, e, h', _⟩ := r
      cases e
      exact (no_ld h h').elim
    | frl _ =>
      obtain ⟨_, _, e, h', _⟩ := r
      cases e
      exact (no_fl I h' h fun _ _ z => HO.noConfusion z).elim
  | .dic ks ds, d', _, L, L', hq5, r => by
    obtain ⟨a, kvs, L1, e, h, _, hk, _, rs⟩ := hq5
    subst e
    cases d' with
    | non => exact (Rep.noS r rfl).elim
    | bl _ => exact (Rep.noS r rfl).elim
    | int _ => exact (Rep.noS r rfl).elim
    | str _ => exact (Rep.noS r rfl).elim
    | tup ds' =>
      obtain ⟨a', vs', e, h', rs'⟩ := r
      cases e
      exact (no_tl I h' h (fun _ z => HO.noConfusion z) fun _ _ z => HO.noConfusion z).elim
    | lst ds' =>
      obtain ⟨_, _, _, e, h', _, rs'⟩ := r
      cases e
      exact (no_ld h' h).elim
    | dic ks' ds' =>
      obtain ⟨_, _, _, e, h', _, hk', _, rs'⟩ := r
      cases e
      rw [h] at h'
      cases h'
      rw [← hk, ← hk', Reps.one I ds ds' _ _ _ rs rs']
    | frl _ =>
      obtain ⟨_, _, e, h', _⟩ := r
      cases e
      exact (no_fl I h' h fun _ _ z => HO.noConfusion z).elim
  | .frl ds, d', _, L, L', hq5, r => by
    obtain ⟨a, vs, e, h, _, _, rs⟩ := hq5
    subst e
    cases d' with
    | non => exact (Rep.noS r rfl).elim
    | bl _ => exact (Rep.noS r rfl).elim
    | int _ => exact (Rep.noS r rfl).elim
    | str _ => exact (Rep.noS r rfl).elim
    | tup ds' =>
      obtain ⟨a', vs', e, h', rs'⟩ := r
      cases e
      exact (no_tf I h' h).elim
    | lst ds' =>
      obtain ⟨_, _, _, e, h', _, rs'⟩ := r
      cases e
      exact (no_fl I h h' fun _ _ z => HO.noConfusion z).elim
    | dic ks' ds' =>
      obtain ⟨_, _, _, e, h', _, hk', _, rs'⟩ := r
      cases e
      exact (no_fl I h h' fun _ _ z => HO.noConfusion z).elim
    | frl ds' =>
      obtain ⟨_, _, e, h', _, _, rs'⟩ := r
      cases e
      have := I.list_inj h.sq h'.sq
      subst this
      rw [Reps.one I ds ds' vs _ _ rs rs']
theorem Reps.one (I : Inv X pins σ H s) : ∀ (ds ds' : List D) (vs : List V) (L L' : List Addr), Reps X.K H ds vs L → Reps X.K H ds' vs L' → ds = ds'
  | [], ds', _, _, _, hq5, r => by
    obtain ⟨e, _⟩ := hq5
    subst e
    cases ds' with
    | nil => rfl
    | cons _ _ => obtain ⟨_, _, _, _, e, _⟩ := r; cases e
  | d :: ds, ds', _, _, _, hq5, r => by
    obtain ⟨v, vs', L1, L2, e1, _, h1, h2⟩ := hq5
    subst e1
    cases ds' with
    | nil => obtain ⟨e, _⟩ := r; cases e
    | cons d' ds' =>
      obtain ⟨v', vs2, L3, L4, e, _, r1, r2⟩ := r
      cases e
      rw [Rep.one I d d' v _ _ h1 r1, Reps.one I ds ds' vs' _ _ h2 r2]
end
end
theorem eqS_refl : ∀ (d : D), d.isS = true → eqS d d = true
  | .non, _ => rfl
  | .bl b, _ => beq_self_eq_true b
  | .int b, _ => beq_self_eq_true b
  | .str b, _ => beq_self_eq_true b
  | .tup _, h => nomatch h
  | .lst _, h => nomatch h
  | .dic _ _, h => nomatch h
  | .frl _, h => nomatch h
theorem eqF_refl : ∀ (n : Nat) (d : D) (b : Bool), eqF n d d = some b → b = true := by
  intro n
  induction n with
  | zero =>
    intro d b h
    replace h : (if (d.isS && d.isS) = true then some (eqS d d) else none) = some b := h
    split at h
    · rename_i hs
      simp only [Bool.and_self] at hs
      rw [eqS_refl d hs] at h
      exact (Option.some.inj h).symm
    · cases h
  | succ n ih =>
    have zip : ∀ (xs : List D) (b : Bool), eqZip (eqF n) xs xs = some b → b = true := by
      intro xs
      induction xs with
      | nil => intro b h; unfold eqZip at h; exact (Option.some.inj h).symm
      | cons x xs ihx =>
        intro b h
        unfold eqZip at h
        cases h1 : eqF n x x with
        | none => rw [h1] at h; cases h
        | some a =>
          cases h2 : eqZip (eqF n) xs xs with
          | none => rw [h1, h2] at h; cases h
          | some b' =>
            rw [h1, h2] at h
            cases h
            rw [ih x a h1, ihx b' h2]; rfl
    intro d b h
    cases d with
    | lst xs =>
      have h : (if xs.length = xs.length then eqZip (eqF n) xs xs else some false) = some b := h
      rw [if_pos rfl] at h
      exact zip xs b h
    | tup xs =>
      have h : (eqZip (eqF n) xs xs).map (fun b => b && xs.length == xs.length) = some b := h
      cases h1 : eqZip (eqF n) xs xs with
      | none => rw [h1] at h; cases h
      | some b' => rw [h1] at h; rw [zip xs b' h1] at h; simp at h; exact h.symm ▸ rfl
    | non => have h : some true = some b := h; exact (Option.some.inj h).symm
    | bl x => have h : some (x == x) = some b := h; exact (Option.some.inj h).symm.trans (beq_self_eq_true x)
    | int x => have h : some (x == x) = some b := h; exact (Option.some.inj h).symm.trans (beq_self_eq_true x)
    | str x => have h : some (x == x) = some b := h; exact (Option.some.inj h).symm.trans (beq_self_eq_true x)
    | dic _ _ => cases h
    | frl xs =>
      have h : (if xs.length = xs.length then eqZip (eqF n) xs xs else some false) = some b := h
      rw [if_pos rfl] at h
      exact zip xs b h
open SeqAt in
theorem eq_of_rc {A : Around} {s : Shared} {a a' : Addr} {b : Bool} (h : RcAt A s (.ref a) (.ref a') b) (hs : a = a' → b = true) : EqAt A s (.ref a) (.ref a') b := by
  by_cases z : a = a'
  · subst z
    rw [hs rfl]
    exact EqAt.same _
  · exact EqAt.of_refs z h
open SeqAt in
theorem rc_lists {X : Cx} {pins : List (Addr × Obj)} {σ : St} {H : Hp} {s : Shared} (I : Inv X pins σ H s) {n : Nat} {A : Around} (hu0 : A.units < cLine)
    (ih : ∀ (d1 d2 : D) (v1 v2 : V) (L1 L2 : List Addr) (u1 u2 : Value) (b : Bool), eqF n d1 d2 = some b → Rep X.K H d1 v1 L1 → Rep X.K H d2 v2 L2 → RelV v1 u1 → RelV v2 u2 → EqAt A.in1 s u1 u2 b)
    {a a2 : Addr} {vs vs2 : List V} {xs ys : List D} {L L2 : List Addr} {b : Bool} (ha : SqL X.K H a vs) (rs : Reps X.K H xs vs L) (ha2 : SqL X.K H a2 vs2) (rs2 : Reps X.K H ys vs2 L2)
    (h : (if xs.length = ys.length then eqZip (eqF n) xs ys else some false) = some b) (same : a = a2 → b = true) : RcAt A s (.ref a) (.ref a2) b ∧ EqAt A s (.ref a) (.ref a2) b ∧ RcNeAt A s (.ref a) (.ref a2) (!b) := by
  obtain ⟨its, rv, pl, _⟩ := I.list ha
  obtain ⟨its2, rv2, pl2, _⟩ := I.list ha2
  have l1 : its.length = xs.length := by rw [← rv.length, rs.length]
  have l2 : its2.length = ys.length := by rw [← rv2.length, rs2.length]
  by_cases hl : xs.length = ys.length
  · rw [if_pos hl] at h
    obtain ⟨e1, e2⟩ := eqZip_all h
    have he : ∀ j (h1 : j < its.toArray.size) (h2 : j < its2.toArray.size), EqAt A.in1 s its.toArray[j] its2.toArray[j] (eqAtJ (eqF n) xs ys j) := fun j h1 h2 => by
      have h1' : j < xs.length := by simpa [l1] using h1
      have h2' : j < ys.length := by simpa [l2] using h2
      obtain ⟨w1, L3, g1, g2, _⟩ := rs.get (i := j) (d := xs[j]) (by simp [h1'])
      obtain ⟨w2, L4, g3, g4, _⟩ := rs2.get (i := j) (d := ys[j]) (by simp [h2'])
      obtain ⟨z1, k1, k2⟩ := rv.get g1
      obtain ⟨z2, k3, k4⟩ := rv2.get g3
      have m1 : its.toArray[j] = z1 := by
        have := (List.getElem?_eq_some_iff.mp k1).2
        simpa using this
      have m2 : its2.toArray[j] = z2 := by
        have := (List.getElem?_eq_some_iff.mp k3).2
        simpa using this
      rw [m1, m2]
      exact ih _ _ w1 w2 L3 L4 z1 z2 _ (e2 j _ _ (by simp [h1']) (by simp [h2'])) g2 g4 k2 k4
    have hsz : its.toArray.size = its2.toArray.size := by simp [l1, l2, hl]
    have eb : b = (List.range its.toArray.size).all (eqAtJ (eqF n) xs ys) := by
      rw [e1]
      congr 2
      simp [l1, hl]
    have rc := RcAt.lists pl.isList pl2.isList hsz hu0 he
    have rn := RcNeAt.lists pl.isList pl2.isList hsz hu0 he
    rw [← eb] at rc rn
    exact ⟨rc, eq_of_rc rc same, rn⟩
  · rw [if_neg hl] at h
    cases h
    have hsz : (its.toArray.size != its2.toArray.size) = true := by simp [l1, l2, hl]
    have rc := RcAt.lists_lengths pl.isList pl2.isList hsz hu0
    exact ⟨rc, eq_of_rc rc same, RcNeAt.lists_lengths pl.isList pl2.isList hsz hu0⟩
open SeqAt in
theorem rc_eq {X : Cx} {pins : List (Addr × Obj)} {σ : St} {H : Hp} {s : Shared} (I : Inv X pins σ H s) : ∀ (n : Nat) (A : Around) (d1 d2 : D) (v1 v2 : V) (L1 L2 : List Addr) (u1 u2 : Value) (b : Bool), A.units + n < cLine → eqF n d1 d2 = some b →
    Rep X.K H d1 v1 L1 → Rep X.K H d2 v2 L2 → RelV v1 u1 → RelV v2 u2 → RcAt A s u1 u2 b ∧ EqAt A s u1 u2 b ∧ RcNeAt A s u1 u2 (!b) := by
  intro n
  induction n with
  | zero =>
    intro A d1 d2 v1 v2 L1 L2 u1 u2 b hu h r1 r2 q1 q2
    have h : (if (d1.isS && d2.isS) = true then some (eqS d1 d2) else none) = some b := h
    split at h
    · rename_i hs
      rw [Bool.and_eq_true] at hs
      cases h
      exact rc_scal hs.1 hs.2 r1 r2 q1 q2
    · cases h
  | succ n ih =>
    intro A d1 d2 v1 v2 L1 L2 u1 u2 b hu h r1 r2 q1 q2
    have hu0 : A.units < cLine := by lia
    have hu1 : A.in1.units + n < cLine := by show A.units + 1 + n < cLine; lia
    have same : ∀ a, v1 = .ref a → v2 = .ref a → b = true := fun a e1 e2 => by
      subst e1 e2
      have := Rep.one I d1 d2 _ _ _ r1 r2
      subst this
      exact eqF_refl (n + 1) d1 b h
    by_cases s1 : d1.isS = true
    · by_cases s2 : d2.isS = true
      · have e : b = eqS d1 d2 := by
          cases d1 <;> first | exact absurd s1 Bool.false_ne_true | (cases d2 <;> first | exact absurd s2 Bool.false_ne_true | exact (Option.some.inj h).symm)
        subst e
        exact rc_scal s1 s2 r1 r2 q1 q2
      · cases d2 with
        | lst ys =>
          have e : b = false := by cases d1 <;> first | exact absurd s1 Bool.false_ne_true | exact (Option.some.inj h).symm
          subst e
          obtain ⟨a, vs, L', e2, ha, _, rs⟩ := r2
          have q2 : u2 = Value.ref a := by rw [e2] at q2; exact q2
          rw [q2]
          obtain ⟨its, rv, pl, _⟩ := I.list (SqL.of ha)
          exact (rc_ls s1 r1 q1 pl.isList hu0).2
        | tup ys =>
          have e : b = false := by cases d1 <;> first | exact absurd s1 Bool.false_ne_true | exact (Option.some.inj h).symm
          subst e
          obtain ⟨a, vs, e2, ha, rs⟩ := r2
          have q2 : u2 = Value.ref a := by rw [e2] at q2; exact q2
          rw [q2]
          obtain ⟨its, rv, pl, _⟩ := I.tuple ha
          exact (rc_ts s1 r1 q1 pl hu0).2
        | dic _ _ => cases d1 <;> first | exact absurd s1 Bool.false_ne_true | exact (nonB (b := b) h).elim
        | frl _ => cases d1 <;> first | exact absurd s1 Bool.false_ne_true | exact (nonB (b := b) h).elim
        | _ => exact absurd rfl s2
    · cases d1 with
      | lst xs =>
        obtain ⟨a, vs, L', e1, ha, _, rs⟩ := r1
        have q1 : u1 = Value.ref a := by rw [e1] at q1; exact q1
        rw [q1]
        obtain ⟨its, rv, pl, _⟩ := I.list (SqL.of ha)
        cases d2 with
        | lst ys =>
          obtain ⟨a2, vs2, L2', e2, ha2, _, rs2⟩ := r2
          have q2 : u2 = Value.ref a2 := by rw [e2] at q2; exact q2
          rw [q2]
          exact rc_lists I hu0 (fun d1 d2 v1 v2 L1 L2 u1 u2 b e r1 r2 q1 q2 => (ih A.in1 d1 d2 v1 v2 L1 L2 u1 u2 b hu1 e r1 r2 q1 q2).2.1) (SqL.of ha) rs (SqL.of ha2) rs2 h fun z => same a e1 (by rw [z]; exact e2)
        | tup ys =>
          obtain ⟨a2, vs2, e2, ha2, rs2⟩ := r2
          have q2 : u2 = Value.ref a2 := by rw [e2] at q2; exact q2
          rw [q2]
          obtain ⟨its2, rv2, pl2, _⟩ := I.tuple ha2
          cases (Option.some.inj (show some false = some b from h))
          exact ⟨RcAt.list_tuple pl.isList pl2 hu0, EqAt.list_tuple pl.isList pl2 hu0, RcNeAt.list_tuple pl.isList pl2 hu0⟩
        | dic _ _ => exact (nonB (b := b) h).elim
        | frl _ => exact (nonB (b := b) h).elim
        | non => cases (Option.some.inj (show some false = some b from h)); exact (rc_ls (d := .non) rfl r2 q2 pl.isList hu0).1
        | bl x => cases (Option.some.inj (show some false = some b from h)); exact (rc_ls (d := .bl x) rfl r2 q2 pl.isList hu0).1
        | int x => cases (Option.some.inj (show some false = some b from h)); exact (rc_ls (d := .int x) rfl r2 q2 pl.isList hu0).1
        | str x => cases (Option.some.inj (show some false = some b from h)); exact (rc_ls (d := .str x) rfl r2 q2 pl.isList hu0).1
      | tup xs =>
        obtain ⟨a, vs, e1, ha, rs⟩ := r1
        have q1 : u1 = Value.ref a := by rw [e1] at q1; exact q1
        rw [q1]
        obtain ⟨its, rv, pl, _⟩ := I.tuple ha
        cases d2 with
        | tup ys =>
          obtain ⟨a2, vs2, e2, ha2, rs2⟩ := r2
          have q2 : u2 = Value.ref a2 := by rw [e2] at q2; exact q2
          rw [q2]
          obtain ⟨its2, rv2, pl2, _⟩ := I.tuple ha2
          have h : (eqZip (eqF n) xs ys).map (fun b => b && xs.length == ys.length) = some b := h
          have l1 : its.length = xs.length := by rw [← rv.length, rs.length]
          have l2 : its2.length = ys.length := by rw [← rv2.length, rs2.length]
          cases hz : eqZip (eqF n) xs ys with
          | none => rw [hz] at h; cases h
          | some b' =>
            rw [hz] at h
            have h : (b' && xs.length == ys.length) = b := Option.some.inj h
            have e1' := e1
            have e2' := e2
            obtain ⟨e1, e2⟩ := eqZip_all hz
            have he : ∀ j (h1 : j < its.toArray.size) (h2 : j < its2.toArray.size), EqAt A.in1 s its.toArray[j] its2.toArray[j] (eqAtJ (eqF n) xs ys j) := fun j h1 h2 => by
              have h1' : j < xs.length := by simpa [l1] using h1
              have h2' : j < ys.length := by simpa [l2] using h2
              obtain ⟨w1, L3, g1, g2, _⟩ := rs.get (i := j) (d := xs[j]) (by simp [h1'])
              obtain ⟨w2, L4, g3, g4, _⟩ := rs2.get (i := j) (d := ys[j]) (by simp [h2'])
              obtain ⟨z1, k1, k2⟩ := rv.get g1
              obtain ⟨z2, k3, k4⟩ := rv2.get g3
              have m1 : its.toArray[j] = z1 := by
                have := (List.getElem?_eq_some_iff.mp k1).2
                simpa using this
              have m2 : its2.toArray[j] = z2 := by
                have := (List.getElem?_eq_some_iff.mp k3).2
                simpa using this
              rw [m1, m2]
              exact (ih A.in1 _ _ w1 w2 L3 L4 z1 z2 _ hu1 (e2 j _ _ (by simp [h1']) (by simp [h2'])) g2 g4 k2 k4).2.1
            have eb : b = ((List.range (min its.toArray.size its2.toArray.size)).all (eqAtJ (eqF n) xs ys) && its.toArray.size == its2.toArray.size) := by
              rw [← h, e1]
              simp [l1, l2]
            have rc := RcAt.tuples pl pl2 hu0 he
            have rn := RcNeAt.tuples pl pl2 hu0 he
            rw [← eb] at rc rn
            exact ⟨rc, eq_of_rc rc fun z => same a e1' (by rw [z]; exact e2'), rn⟩
        | lst ys =>
          obtain ⟨a2, vs2, L2', e2, ha2, _, rs2⟩ := r2
          have q2 : u2 = Value.ref a2 := by rw [e2] at q2; exact q2
          rw [q2]
          obtain ⟨its2, rv2, pl2, _⟩ := I.list (SqL.of ha2)
          cases (Option.some.inj (show some false = some b from h))
          exact ⟨RcAt.tuple_list pl pl2.isList hu0, EqAt.tuple_list pl pl2.isList hu0, RcNeAt.tuple_list pl pl2.isList hu0⟩
        | dic _ _ => exact (nonB (b := b) h).elim
        | frl _ => exact (nonB (b := b) h).elim
        | non => cases (Option.some.inj (show some false = some b from h)); exact (rc_ts (d := .non) rfl r2 q2 pl hu0).1
        | bl x => cases (Option.some.inj (show some false = some b from h)); exact (rc_ts (d := .bl x) rfl r2 q2 pl hu0).1
        | int x => cases (Option.some.inj (show some false = some b from h)); exact (rc_ts (d := .int x) rfl r2 q2 pl hu0).1
        | str x => cases (Option.some.inj (show some false = some b from h)); exact (rc_ts (d := .str x) rfl r2 q2 pl hu0).1
      | dic _ _ => cases d2 <;> exact (nonB (b := b) h).elim
      | frl xs =>
        cases d2 with
        | lst ys =>
          obtain ⟨a, vs, e1, ha, _, _, rs⟩ := r1
          have q1 : u1 = Value.ref a := by rw [e1] at q1; exact q1
          rw [q1]
          obtain ⟨a2, vs2, L2', e2, ha2, _, rs2⟩ := r2
          have q2 : u2 = Value.ref a2 := by rw [e2] at q2; exact q2
          rw [q2]
          exact rc_lists I hu0 (fun d1 d2 v1 v2 L1 L2 u1 u2 b e r1 r2 q1 q2 => (ih A.in1 d1 d2 v1 v2 L1 L2 u1 u2 b hu1 e r1 r2 q1 q2).2.1) ha.sq rs (SqL.of ha2) rs2 h fun z => same a e1 (by rw [z]; exact e2)
        | tup ys => exact (nonB (b := b) h).elim
        | dic _ _ => exact (nonB (b := b) h).elim
        | frl ys =>
          obtain ⟨a, vs, e1, ha, _, _, rs⟩ := r1
          have q1 : u1 = Value.ref a := by rw [e1] at q1; exact q1
          rw [q1]
          obtain ⟨a2, vs2, e2, ha2, _, _, rs2⟩ := r2
          have q2 : u2 = Value.ref a2 := by rw [e2] at q2; exact q2
          rw [q2]
          exact rc_lists I hu0 (fun d1 d2 v1 v2 L1 L2 u1 u2 b e r1 r2 q1 q2 => (ih A.in1 d1 d2 v1 v2 L1 L2 u1 u2 b hu1 e r1 r2 q1 q2).2.1) ha.sq rs ha2.sq rs2 h fun z => same a e1 (by rw [z]; exact e2)
        | non => exact (nonB (b := b) h).elim
        | bl x => exact (nonB (b := b) h).elim
        | int x => exact (nonB (b := b) h).elim
        | str x => exact (nonB (b := b) h).elim
      | _ => exact absurd rfl s1
end L2
set_option maxRecDepth 100000
set_option maxHeartbeats 4000000
namespace L2
open PySem PySem.Spec PyProof.Rows
theorem imms_nil {K : PySem.W.Frag} {H : Hp} {ds : List D} {vs : List V} {L : List Addr} (r : Reps K H ds vs L) (h : D.imms ds = true) : Reps K H ds vs [] := by
  have := Reps.imm ds vs L r h
  subst this
  exact r
theorem new_lst {K : PySem.W.Frag} {H : Hp} {ds : List D} {vs : List V} {p : Addr} {Q : VK} (r : Reps K H ds vs []) (hp : H p = none) (q : ∀ v H' L, Same H H' → Rep K H' (.lst ds) v L → L.Nodup → (∀ a ∈ L, H a = none) → Q v H') : Q (.ref p) (upd H p (.lst vs)) :=
  q _ _ [p] (Same.new hp) ⟨p, vs, [], rfl, upd_same, rfl, r.same (Same.new hp)⟩ (by simp) (fun a ha => by rw [List.mem_singleton.mp ha]; exact hp)
def addD : D → D → R D
  | .int i, .int j => .ok (.int (i + j))
  | .str x, .str y => if x.length + y.length ≤ sizeLine then .ok (.str (x ++ y)) else .bad
  | .lst xs, .lst ys => if D.imms xs = true ∧ D.imms ys = true ∧ xs.length + ys.length ≤ sizeLine then .ok (.lst (xs ++ ys)) else .bad
  | .tup xs, .tup ys => if D.imms xs = true ∧ D.imms ys = true ∧ xs ≠ [] ∧ xs.length + ys.length ≤ sizeLine then .ok (.tup (xs ++ ys)) else .bad
  | _, _ => .bad
def rAddA (K : PySem.W.Frag) : R2 := fun x y H Q => (∃ i j, x = .int i ∧ y = .int j ∧ Q (.int (i + j)) H) ∨ (∃ i j, x = .str i ∧ y = .str j ∧ i.length + j.length ≤ sizeLine ∧ Q (.str (i ++ j)) H) ∨ rCat x y H Q ∨ rCatT K x y H Q
theorem op_addA {X : Cx} : OpR X (binaryOp .Add) (rAddA X.K) := (OpR.or op_add (OpR.or op_add_str (OpR.or op_cat op_catT)))
theorem B_add {K : PySem.W.Frag} : OpB K (rAddA K) addD := by
  rintro H x y dx dy Lx Ly Q rx ry ⟨d, hg, q⟩
  unfold addD at hg
  split at hg
  · cases hg
    exact .inl ⟨_, _, rx.1, ry.1, q _ H [] (Same.refl H) ⟨rfl, rfl⟩ (by simp) (fun a ha => nomatch ha)⟩
  · split at hg
    · rename_i hz
      cases hg
      exact .inr (.inl ⟨_, _, rx.1, ry.1, hz, q _ H [] (Same.refl H) ⟨rfl, rfl⟩ (by simp) (fun a ha => nomatch ha)⟩)
    · cases hg
  · rename_i xs ys
    split at hg
    · rename_i hz
      cases hg
      obtain ⟨a, vs, L1, rfl, ha, _, rs⟩ := rx
      obtain ⟨b, ws, L2, rfl, hb, _, qs⟩ := ry
      refine .inr (.inr (.inl ⟨a, b, vs, ws, rfl, rfl, ha, hb, by rw [rs.length, qs.length]; exact hz.2.2, fun p hp => new_lst (ds := xs ++ ys) ?_ hp q⟩))
      exact Reps.append (imms_nil rs hz.1) (imms_nil qs hz.2.1)
    · cases hg
  · rename_i xs ys
    split at hg
    · rename_i hz
      cases hg
      obtain ⟨a, vs, rfl, ha, rs⟩ := rx
      obtain ⟨b, ws, rfl, hb, qs⟩ := ry
      have hne : vs ≠ [] := fun z => hz.2.2.1 (by have := rs.length; rw [z] at this; exact List.length_eq_zero_iff.mp this.symm)
      have rr := Reps.append (imms_nil rs hz.1) (imms_nil qs hz.2.1)
      refine .inr (.inr (.inr ⟨a, b, vs, ws, rfl, rfl, ha, hb, hne, by rw [rs.length, qs.length]; exact hz.2.2.2, fun z => ?_, fun _ p hp => ?_⟩))
      · subst z
        rw [List.append_nil] at rr
        exact q _ H [] (Same.refl H) ⟨a, vs, rfl, ha, rr⟩ (by simp) (fun a ha => nomatch ha)
      · exact q _ _ [] (Same.new hp) ⟨p, vs ++ ws, rfl, SqT.of upd_same, rr.same (Same.new hp)⟩ (by simp) (fun a ha => nomatch ha)
    · cases hg
  · cases hg
theorem N_add : NoErr addD := fun x y n h => by
  unfold addD at h
  split at h
  · cases h
  · split at h <;> cases h
  · split at h <;> cases h
  · split at h <;> cases h
  · cases h
def intD (C : Int → Int → Bool) (g : Int → Int → D) : D → D → R D
  | .int i, .int j => if C i j = true then .ok (g i j) else .bad
  | _, _ => .bad
theorem N_int {C : Int → Int → Bool} {g : Int → Int → D} : NoErr (intD C g) := fun x y n h => by
  unfold intD at h
  split at h
  · split at h <;> cases h
  · cases h
def VofS : D → V
  | .int i => .int i
  | .bl b => .bl b
  | .str x => .str x
  | _ => .non
theorem VofS_rep {K : PySem.W.Frag} {H : Hp} : ∀ {d : D}, d.isS = true → Rep K H d (VofS d) []
  | .non, _ => ⟨rfl, rfl⟩
  | .bl _, _ => ⟨rfl, rfl⟩
  | .int _, _ => ⟨rfl, rfl⟩
  | .str _, _ => ⟨rfl, rfl⟩
  | .tup _, h => nomatch h
  | .lst _, h => nomatch h
  | .dic _ _, h => nomatch h
  | .frl _, h => nomatch h
theorem B_int {K : PySem.W.Frag} {C : Int → Int → Bool} {g : Int → Int → D} {P : Int → Int → Prop} {gv : Int → Int → V} (hP : ∀ i j, C i j = true → P i j) (hs : ∀ i j, (g i j).isS = true) (hv : ∀ i j, VofS (g i j) = gv i j) : OpB K (rI P gv) (intD C g) := by
  rintro H x y dx dy Lx Ly Q rx ry ⟨d, hg, q⟩
  unfold intD at hg
  split at hg
  · split at hg
    · rename_i i j hz
      cases hg
      refine ⟨i, j, rx.1, ry.1, hP i j hz, ?_⟩
      rw [← hv]
      exact q _ H [] (Same.refl H) (VofS_rep (hs i j)) (by simp) (fun a ha => nomatch ha)
    · cases hg
  · cases hg
theorem B_int0 {K : PySem.W.Frag} {g : Int → Int → D} {gv : Int → Int → V} (hs : ∀ i j, (g i j).isS = true) (hv : ∀ i j, VofS (g i j) = gv i j) : OpB K (rI0 gv) (intD (fun _ _ => true) g) := by
  rintro H x y dx dy Lx Ly Q rx ry ⟨d, hg, q⟩
  unfold intD at hg
  split at hg
  · rw [if_pos rfl] at hg
    rename_i i j
    cases hg
    refine ⟨i, j, rx.1, ry.1, ?_⟩
    rw [← hv]
    exact q _ H [] (Same.refl H) (VofS_rep (hs i j)) (by simp) (fun a ha => nomatch ha)
  · cases hg
abbrev subD : D → D → R D := intD (fun _ _ => true) fun i j => .int (i - j)
abbrev fdivD : D → D → R D := intD (fun _ j => decide (0 < j) && decide (j < 1073741824)) fun i j => .int (i / j)
abbrev modD : D → D → R D := intD (fun _ j => decide (0 < j)) fun i j => .int (i % j)
abbrev ltD : D → D → R D := intD (fun _ _ => true) fun i j => .bl (decide (i < j))
abbrev leD : D → D → R D := intD (fun _ _ => true) fun i j => .bl (decide (i ≤ j))
abbrev gtD : D → D → R D := intD (fun _ _ => true) fun i j => .bl (decide (j < i))
abbrev geD : D → D → R D := intD (fun _ _ => true) fun i j => .bl (decide (j ≤ i))
theorem B_sub {K : PySem.W.Frag} : OpB K (rI0 fun i j => .int (i - j)) subD := B_int0 (fun _ _ => rfl) fun _ _ => rfl
theorem B_fdiv {K : PySem.W.Frag} : OpB K (rI CDiv fun i j => .int (i / j)) fdivD := B_int (fun i j h => by simp only [Bool.and_eq_true, decide_eq_true_eq] at h; exact h) (fun _ _ => rfl) fun _ _ => rfl
theorem B_mod {K : PySem.W.Frag} : OpB K (rI (fun _ j => 0 < j) fun i j => .int (i % j)) modD := B_int (fun i j h => by simpa using h) (fun _ _ => rfl) fun _ _ => rfl
theorem B_lt {K : PySem.W.Frag} : OpB K (rI0 fun i j => .bl (decide (i < j))) ltD := B_int0 (fun _ _ => rfl) fun _ _ => rfl
theorem B_le {K : PySem.W.Frag} : OpB K (rI0 fun i j => .bl (decide (i ≤ j))) leD := B_int0 (fun _ _ => rfl) fun _ _ => rfl
theorem B_gt {K : PySem.W.Frag} : OpB K (rI0 fun i j => .bl (decide (j < i))) gtD := B_int0 (fun _ _ => rfl) fun _ _ => rfl
theorem B_ge {K : PySem.W.Frag} : OpB K (rI0 fun i j => .bl (decide (j ≤ i))) geD := B_int0 (fun _ _ => rfl) fun _ _ => rfl
def mulD : D → D → R D
  | .int i, .int j => if ((decide (-(2 ^ 64) < i) && decide (i < 2 ^ 64)) || (decide (-(2 ^ 64) < j) && decide (j < 2 ^ 64))) = true then .ok (.int (i * j)) else .bad
  | .lst xs, .int k => if D.imms xs = true ∧ -(2 ^ 63) ≤ k ∧ k < 2 ^ 63 ∧ xs.length * k.toNat ≤ sizeLine then .ok (.lst (List.replicate k.toNat xs).flatten) else .bad
  | _, _ => .bad
theorem N_mul : NoErr mulD := fun x y n h => by
  unfold mulD at h
  split at h
  · split at h <;> cases h
  · split at h <;> cases h
  · cases h
theorem op_mulA {X : Cx} : OpR X (binaryOp .Mult) (fun x y H Q => rI CMul (fun i j => .int (i * j)) x y H Q ∨ rRep x y H Q) := OpR.or op_mul op_rep
theorem Reps.rep {K : PySem.W.Frag} {H : Hp} {ds : List D} {vs : List V} (r : Reps K H ds vs []) : ∀ k : Nat, Reps K H (List.replicate k ds).flatten (List.replicate k vs).flatten []
  | 0 => by simpa using Reps.nil
  | k + 1 => by
    rw [List.replicate_succ, List.replicate_succ, List.flatten_cons, List.flatten_cons]
    exact Reps.append r (Reps.rep r k)
theorem B_mul {K : PySem.W.Frag} : OpB K (fun x y H Q => rI CMul (fun i j => .int (i * j)) x y H Q ∨ rRep x y H Q) mulD := by
  rintro H x y dx dy Lx Ly Q rx ry ⟨d, hg, q⟩
  unfold mulD at hg
  split at hg
  · split at hg
    · rename_i i j hz
      cases hg
      refine .inl ⟨i, j, rx.1, ry.1, ?_, q _ H [] (Same.refl H) ⟨rfl, rfl⟩ (by simp) (fun a ha => nomatch ha)⟩
      simpa [CMul] using hz
    · cases hg
  · split at hg
    · rename_i xs k hz
      cases hg
      obtain ⟨a, vs, L1, rfl, ha, _, rs⟩ := rx
      exact .inr ⟨a, k, vs, rfl, ry.1, ha, hz.2.1, hz.2.2.1, by rw [rs.length]; exact hz.2.2.2, fun p hp => new_lst (Reps.rep (imms_nil rs hz.1) _) hp q⟩
    · cases hg
  · cases hg
def rEqA (K : PySem.W.Frag) (neg : Bool) : R2 := fun x y H Q => ∃ dx dy Lx Ly b, Rep K H dx x Lx ∧ Rep K H dy y Ly ∧ eqF 12 dx dy = some b ∧ Q (.bl (if neg = true then !b else b)) H
theorem op_eqA {X : Cx} (hu : X.A.units + 12 < cLine) : OpR X (compareOp .Eq) (rEqA X.K false) := by
  rintro pins s σ H x y v u Q I rx ry ⟨dx, dy, Lx, Ly, b, r1, r2, he, q⟩
  exact (rc_eq I 12 X.A dx dy x y Lx Ly v u b hu he r1 r2 rx ry).1 X.prog X.w X.xe _ ⟨.bl b, H, I, rfl, q⟩
theorem op_neA {X : Cx} (hu : X.A.units + 12 < cLine) : OpR X (compareOp .NotEq) (rEqA X.K true) := by
  rintro pins s σ H x y v u Q I rx ry ⟨dx, dy, Lx, Ly, b, r1, r2, he, q⟩
  exact (rc_eq I 12 X.A dx dy x y Lx Ly v u b hu he r1 r2 rx ry).2.2 X.prog X.w X.xe _ ⟨.bl (!b), H, I, rfl, q⟩
def lookD : List Key → List D → Key → Option D
  | k :: ks, d :: ds, j => if k = j then some d else lookD ks ds j
  | _, _, _ => none
def hitsD (js : List Key) (ys : List D) : List Key → List D → Option Bool
  | k :: ks, x :: xs => match lookD js ys k with
    | none => some false
    | some y => if (x.isS && y.isS) = true then (hitsD js ys ks xs).map (eqS x y && ·) else none
  | _, _ => some true
theorem look_some {K : PySem.W.Frag} {H : Hp} : ∀ {kvs : List (Key × V)} {ds : List D} {L : List Addr} {k : Key} {d : D}, Reps K H ds (kvs.map (·.2)) L → lookD (kvs.map (·.1)) ds k = some d → ∃ v L1, valV kvs k = some v ∧ Rep K H d v L1 ∧ List.Sublist L1 L
  | [], ds, _, k, d, r, h => by cases ds <;> cases h
  | p :: kvs, [], _, k, d, r, h => by obtain ⟨e, _⟩ := r; cases e
  | p :: kvs, d0 :: ds, _, k, d, hq5, h => by
    obtain ⟨v, vs', L1, L2, e1, e2, r1, r2⟩ := hq5
    subst e2
    rw [List.map_cons] at e1
    cases e1
    rw [List.map_cons] at h
    unfold lookD at h
    by_cases hk : p.1 = k
    · rw [if_pos hk] at h
      cases h
      exact ⟨p.2, L1, valV_pos hk, r1, List.sublist_append_left _ _⟩
    · rw [if_neg hk] at h
      obtain ⟨v, L', a, b, c⟩ := look_some r2 h
      exact ⟨v, L', by rw [valV_neg hk]; exact a, b, c.trans (List.sublist_append_right _ _)⟩
theorem look_none {K : PySem.W.Frag} {H : Hp} : ∀ {kvs : List (Key × V)} {ds : List D} {L : List Addr} {k : Key}, Reps K H ds (kvs.map (·.2)) L → lookD (kvs.map (·.1)) ds k = none → valV kvs k = none
  | [], ds, _, k, r, h => rfl
  | p :: kvs, [], _, k, r, h => by obtain ⟨e, _⟩ := r; cases e
  | p :: kvs, d0 :: ds, _, k, hq4, h => by
    obtain ⟨v, vs', L1, L2, e1, e2, r1, r2⟩ := hq4
    subst e2
    rw [List.map_cons] at e1
    cases e1
    rw [List.map_cons] at h
    unfold lookD at h
    by_cases hk : p.1 = k
    · rw [if_pos hk] at h; cases h
    · rw [if_neg hk] at h
      rw [valV_neg hk]
      exact look_none r2 h
theorem hits_of {K : PySem.W.Frag} {H : Hp} {A : Around} {s : Shared} {kvb : List (Key × V)} {vb : List (Key × Value)} {ys : List D} {Lb : List Addr} (rb : KV kvb vb) (qb : Reps K H ys (kvb.map (·.2)) Lb) :
    ∀ {kva : List (Key × V)} {va : List (Key × Value)} {xs : List D} {La : List Addr} {b : Bool}, KV kva va → Reps K H xs (kva.map (·.2)) La → hitsD (kvb.map (·.1)) ys (kva.map (·.1)) xs = some b → PySem.W.KeqHits A s vb va b := by
  intro kva va xs La b ra
  induction ra generalizing xs La b with
  | nil =>
    intro r h
    cases xs with
    | nil => cases h; exact .nil
    | cons _ _ => obtain ⟨_, _, _, _, e, _⟩ := r; cases e
  | @cons p q l1 l2 h1 _ ih =>
    intro r h
    cases xs with
    | nil => obtain ⟨e, _⟩ := r; cases e
    | cons x xs =>
      obtain ⟨v, vs', L1, L2, e1, e2, r1, r2⟩ := r
      rw [List.map_cons] at e1
      cases e1
      rw [List.map_cons] at h
      unfold hitsD at h
      have ek : q.1 = p.1 := h1.1.symm
      have hv := rb.val p.1
      cases hl : lookD (kvb.map (·.1)) ys p.1 with
      | none =>
        rw [hl] at h
        cases h
        rw [look_none qb hl] at hv
        have : valueAt vb q.1 = none := by
          rw [ek]
          cases hq : valueAt vb p.1 with
          | none => rfl
          | some y => rw [hq] at hv; exact hv.elim
        exact PySem.W.KeqHits.miss (k := q.1) (v := q.2) this
      | some y =>
        rw [hl] at h
        dsimp only at h
        split at h
        · rename_i hs
          rw [Bool.and_eq_true] at hs
          cases hr : hitsD (kvb.map (·.1)) ys (l1.map (·.1)) xs with
          | none => rw [hr] at h; cases h
          | some b' =>
            rw [hr] at h
            have h : (eqS x y && b') = b := Option.some.inj h
            obtain ⟨w, Lw, g1, g2, _⟩ := look_some qb hl
            rw [g1] at hv
            obtain ⟨yv, hy, ry⟩ := RelO.some_of (v := w) (o := valueAt vb p.1) hv
            rw [← h]
            exact PySem.W.KeqHits.hit (k := q.1) (v := q.2) (by rw [ek]; exact hy) (rc_scal (A := A) (s := s) hs.1 hs.2 r1 g2 h1.2 ry).2.1 (ih r2 hr)
        · cases h
def rEqDc (K : PySem.W.Frag) (neg : Bool) : R2 := fun x y H Q => ∃ a b kva kvb xs ys La Lb r, x = .ref a ∧ y = .ref b ∧ Rd H a (.dK kva) ∧ Rd H b (.dK kvb) ∧ Reps K H xs (kva.map (·.2)) La ∧ Reps K H ys (kvb.map (·.2)) Lb ∧
  (kva.length = kvb.length → hitsD (kvb.map (·.1)) ys (kva.map (·.1)) xs = some r) ∧ Q (.bl (if neg = true then !(kva.length == kvb.length && r) else (kva.length == kvb.length && r))) H
theorem op_eqDc {X : Cx} (hu : X.A.units < cLine) : OpR X (compareOp .Eq) (rEqDc X.K false) := by
  rintro pins s σ H x y v u Q I rx ry ⟨a, b, kva, kvb, xs, ys, La, Lb, r, e1, e2, ha, hb, qa, qb, hh, q⟩
  subst e1 e2
  obtain rfl : v = Value.ref a := rx
  obtain rfl : u = Value.ref b := ry
  obtain ⟨_, da, va, ra, oa⟩ := dk_rd I.hok ha
  obtain ⟨_, db, vb, rb, ob⟩ := dk_rd I.hok hb
  have l1 : va.length = kva.length := ra.length.symm
  have l2 : vb.length = kvb.length := rb.length.symm
  refine PySem.W.keq_eq (r := r) da db oa ob hu (fun e => hits_of rb qb ra qa (hh (by lia))) ?_
  rw [l1, l2]
  exact ⟨.bl _, H, I, rfl, q⟩
theorem op_neDc {X : Cx} (hu : X.A.units < cLine) : OpR X (compareOp .NotEq) (rEqDc X.K true) := by
  rintro pins s σ H x y v u Q I rx ry ⟨a, b, kva, kvb, xs, ys, La, Lb, r, e1, e2, ha, hb, qa, qb, hh, q⟩
  subst e1 e2
  obtain rfl : v = Value.ref a := rx
  obtain rfl : u = Value.ref b := ry
  obtain ⟨_, da, va, ra, oa⟩ := dk_rd I.hok ha
  obtain ⟨_, db, vb, rb, ob⟩ := dk_rd I.hok hb
  have l1 : va.length = kva.length := ra.length.symm
  have l2 : vb.length = kvb.length := rb.length.symm
  refine PySem.W.keq_ne (r := r) da db oa ob hu (fun e => hits_of rb qb ra qa (hh (by lia))) ?_
  rw [l1, l2]
  exact ⟨.bl _, H, I, rfl, q⟩
def eqDic (ks : List Key) (xs : List D) (js : List Key) (ys : List D) : Option Bool := if ks.length = js.length then hitsD js ys ks xs else some false
def eqR (neg : Bool) : D → D → R D
  | .dic ks xs, .dic js ys => match eqDic ks xs js ys with
    | some b => .ok (.bl (if neg = true then !b else b))
    | none => .bad
  | x, y => match eqF 12 x y with
    | some b => .ok (.bl (if neg = true then !b else b))
    | none => .bad
theorem N_eq {neg : Bool} : NoErr (eqR neg) := fun x y n h => by
  unfold eqR at h
  split at h
  · split at h <;> cases h
  · split at h <;> cases h
theorem B_eq {K : PySem.W.Frag} {neg : Bool} : OpB K (fun x y H Q => rEqA K neg x y H Q ∨ rEqDc K neg x y H Q) (eqR neg) := by
  rintro H x y dx dy Lx Ly Q rx ry ⟨d, hg, q⟩
  unfold eqR at hg
  split at hg
  · rename_i ks xs js ys
    obtain ⟨a, kva, L1, rfl, ha, _, hk, _, rs⟩ := rx
    obtain ⟨b, kvb, L2, rfl, hb, _, hj, _, qs⟩ := ry
    have l1 : ks.length = kva.length := by rw [← hk, List.length_map]
    have l2 : js.length = kvb.length := by rw [← hj, List.length_map]
    unfold eqDic at hg
    by_cases hl : ks.length = js.length
    · rw [if_pos hl] at hg
      cases hr : hitsD js ys ks xs with
      | none => rw [hr] at hg; cases hg
      | some r =>
        rw [hr] at hg
        cases hg
        refine .inr ⟨a, b, kva, kvb, xs, ys, _, _, r, rfl, rfl, .inl ha, .inl hb, rs, qs, fun _ => by rw [hk, hj]; exact hr, ?_⟩
        have e : (kva.length == kvb.length && r) = r := by
          have : (kva.length == kvb.length) = true := by simp; lia
          rw [this, Bool.true_and]
        rw [e]
        exact q _ H [] (Same.refl H) ⟨rfl, rfl⟩ (by simp) (fun a ha => nomatch ha)
    · rw [if_neg hl] at hg
      cases hg
      refine .inr ⟨a, b, kva, kvb, xs, ys, _, _, false, rfl, rfl, .inl ha, .inl hb, rs, qs, fun z => absurd z (by lia), ?_⟩
      rw [Bool.and_false]
      exact q _ H [] (Same.refl H) ⟨rfl, rfl⟩ (by simp) (fun a ha => nomatch ha)
  · split at hg
    · rename_i b hb
      cases hg
      exact .inl ⟨dx, dy, Lx, Ly, b, rx, ry, hb, q _ H [] (Same.refl H) ⟨rfl, rfl⟩ (by simp) (fun a ha => nomatch ha)⟩
    · cases hg
theorem op_eqAll {X : Cx} (hu : X.A.units + 12 < cLine) : OpR X (compareOp .Eq) (fun x y H Q => rEqA X.K false x y H Q ∨ rEqDc X.K false x y H Q) := OpR.or (op_eqA hu) (op_eqDc (by lia))
theorem op_neAll {X : Cx} (hu : X.A.units + 12 < cLine) : OpR X (compareOp .NotEq) (fun x y H Q => rEqA X.K true x y H Q ∨ rEqDc X.K true x y H Q) := OpR.or (op_neA hu) (op_neDc (by lia))
end L2
set_option maxRecDepth 100000
set_option maxHeartbeats 4000000
namespace L2
open PySem PySem.Spec PyProof.Rows
def keyOf : D → Option Key
  | .int i => some (.inl i)
  | .str x => some (.inr x)
  | .non => some .non
  | _ => none
def ixD : D → D → R D
  | .lst ds, .int i => match atI ds i with
    | some d => .ok d
    | none => .bad
  | .tup ds, .int i => match atI ds i with
    | some d => .ok d
    | none => .bad
  | .frl ds, .int i => match atI ds i with
    | some d => .ok d
    | none => .bad
  | .str x, .int i => if x.length ≤ sizeLine then (match atI x.cps.toList i with
    | some c => .ok (.str ⟨#[c]⟩)
    | none => .bad) else .bad
  | .dic ks ds, k => match keyOf k with
    | some k => (match lookD ks ds k with
      | some d => .ok d
      | none => .bad)
    | none => .bad
  | _, _ => .bad
theorem N_ix : NoErr ixD := fun x y n h => by
  unfold ixD at h
  split at h
  · split at h <;> cases h
  · split at h <;> cases h
  · split at h <;> cases h
  · split at h
    · split at h <;> cases h
    · cases h
  · split at h
    · split at h <;> cases h
    · cases h
  · cases h
theorem keyOf_rep {K : PySem.W.Frag} {H : Hp} {d : D} {v : V} {L : List Addr} {k : Key} (h : keyOf d = some k) (r : Rep K H d v L) : v = kV k := by
  cases d with
  | non => cases h; exact r.1
  | int i => cases h; exact r.1
  | str x => cases h; exact r.1
  | _ => cases h
theorem Reps.atI {K : PySem.W.Frag} {H : Hp} {ds : List D} {vs : List V} {L : List Addr} {i : Int} {d : D} (r : Reps K H ds vs L) (h : L2.atI ds i = some d) : ∃ v L1, L2.atI vs i = some v ∧ Rep K H d v L1 ∧ List.Sublist L1 L := by
  unfold L2.atI at h ⊢
  rw [r.length]
  cases e : ixN ds.length i with
  | none => rw [e] at h; cases h
  | some j =>
    rw [e] at h
    obtain ⟨v, L1, a, b, c⟩ := r.get h
    exact ⟨v, L1, a, b, c⟩
section
variable {X : Cx} {E : XK} {Γ : List Cl} {e a b : Expr} {es : List Expr} {t ta tb : Tn → R D} {u : Tn → R (List D)} {c ca cb : Rc} {pos p p2 : Pos}
theorem RcOk.sub {O : Addr → Prop} {H : Hp} {L L' : List Addr} (h : RcOk c O H L) (s : List.Sublist L' L) : RcOk c O H L' := by
  cases c with
  | fresh => exact ⟨h.1.sublist s, fun a ha => h.2 a (s.subset ha)⟩
  | shr => exact fun a ha => h a (s.subset ha)
  | bor => trivial
theorem post.bind2 {K : PySem.W.Frag} {O : Addr → Prop} {H H1 : Hp} {Q Q' : VK} {r : R D} {f : D → R D} (h : post K E O c H Q (r.bind f)) (s : Same H H1) (hf : ∀ d, r = .ok d → post K E O c H Q (f d) → ∀ v H' L, Same H1 H' → Rep K H' d v L → RcOk ca O H1 L → Q' v H') : post K E O ca H1 Q' r := by
  cases r with
  | ok d => exact hf d rfl h
  | err n => exact fun C H' e s' => h C H' e (s.trans s')
  | bad => exact h
theorem ix_seq_of {K : PySem.W.Frag} {H : Hp} {dx dy d : D} {x y : V} {Lx Ly : List Addr} {Q : VK} (hn : ∀ ks ds, dx ≠ .dic ks ds) (h : ixD dx dy = .ok d) (rx : Rep K H dx x Lx) (ry : Rep K H dy y Ly) (q : ∀ v L1, Rep K H d v L1 → List.Sublist L1 Lx → Q v H) : rIx K x y H Q := by
  unfold ixD at h
  split at h
  · split at h
    · rename_i hd
      cases h
      obtain ⟨a, vs, L', rfl, ha, e, rs⟩ := rx
      subst e
      obtain ⟨v, L1, g1, g2, g3⟩ := rs.atI hd
      exact .inl ⟨a, vs, _, v, rfl, ry.1, SqL.of ha, g1, q v L1 g2 (g3.trans (List.sublist_cons_self _ _))⟩
    · cases h
  · split at h
    · rename_i hd
      cases h
      obtain ⟨a, vs, rfl, ha, rs⟩ := rx
      obtain ⟨v, L1, g1, g2, g3⟩ := rs.atI hd
      exact .inr (.inl ⟨a, vs, _, v, rfl, ry.1, ha, g1, q v L1 g2 g3⟩)
    · cases h
  · split at h
    · rename_i hd
      cases h
      obtain ⟨a, vs, rfl, ha, e, _, rs⟩ := rx
      subst e
      obtain ⟨v, L1, g1, g2, g3⟩ := rs.atI hd
      exact .inl ⟨a, vs, _, v, rfl, ry.1, ha.sq, g1, q v L1 g2 g3⟩
    · cases h
  · split at h
    · rename_i hz
      split at h
      · rename_i hd
        cases h
        exact .inr (.inr ⟨_, _, _, rx.1, ry.1, hz, hd, q _ [] ⟨rfl, rfl⟩ (List.nil_sublist _)⟩)
      · cases h
    · cases h
  · rename_i ks ds
    exact absurd rfl (hn _ _)
  · cases h
theorem me_ix (hu : X.A.units + 1 < cLine) (ha : ME X E Γ a ta ca) (hb : ME X E Γ b tb cb) (hs : PlainIx b := by exact fun _ _ => rfl) : ME X E Γ (.Subscript a b pos) (eBin ixD ta tb) ca := by
  obtain ⟨te, p, q⟩ := ha
  obtain ⟨te', p', q'⟩ := hb
  refine ⟨fun σ H Q => tOp (rIx X.K) te te' σ H Q ∨ tDGet te te' σ H Q, fun pins s σ H Q I z => ?_, fun O σ H τ Q ok h => ?_⟩
  · rcases z with z | z
    · exact pe_ix ix_seq p p' hs pins s σ H Q I z
    · exact pe_dget hu p p' hs pins s σ H Q I z
  · unfold eBin at h
    by_cases hd : ∃ ks ds, ta τ = .ok (.dic ks ds)
    · obtain ⟨ks, ds, hd⟩ := hd
      refine .inr (q O σ H τ _ ok (post.bind h fun dx hx h x H1 Lx s1 rx kx => ?_))
      rw [hd] at hx
      cases hx
      refine q' O σ H1 τ _ (ok.same s1) (post.bind2 h s1 fun dy _ h y H2 Ly s2 ry _ => ?_)
      have h : post X.K E O ca H Q (match keyOf dy with
        | some k => (match lookD ks ds k with
          | some d => .ok d
          | none => .bad)
        | none => .bad) := h
      cases hk : keyOf dy with
      | none => rw [hk] at h; exact h.elim
      | some k =>
        rw [hk] at h
        dsimp only at h
        cases hl : lookD ks ds k with
        | none => rw [hl] at h; exact h.elim
        | some d =>
          rw [hl] at h
          obtain ⟨ad, kvs, L', rfl, had, e2, hks, _, rs⟩ := rx
          subst e2
          rw [← hks] at hl
          obtain ⟨v, L1, g1, g2, g3⟩ := look_some rs hl
          refine ⟨ad, v, rfl, ?_, h v H2 L1 (s1.trans s2) (g2.same s2) (kx.sub (g3.trans (List.sublist_cons_self _ _)))⟩
          rw [keyOf_rep hk ry, ← g1]
          exact DGet.k (s2 _ _ had)
    · refine .inl (q O σ H τ _ ok (post.bind h fun dx hx h x H1 Lx s1 rx kx => q' O σ H1 τ _ (ok.same s1) (post.bind2 h s1 fun dy _ h y H2 Ly s2 ry _ => ?_)))
      cases hg : ixD dx dy with
      | ok d =>
        rw [hg] at h
        exact ix_seq_of (fun ks ds z => hd ⟨ks, ds, by rw [hx, z]⟩) hg (rx.same s2) ry fun v L1 g1 g2 => h v H2 L1 (s1.trans s2) g1 (kx.sub g2)
      | err n => exact absurd hg (N_ix _ _ _)
      | bad => rw [hg] at h; exact h.elim
def negD : D → R D
  | .int i => .ok (.int (-i))
  | _ => .bad
def cutL {α : Type} (xs : List α) (lo hi : Option Int) : List α := (xs.drop (HT.sIx xs.length 0 lo)).take (HT.sIx xs.length xs.length hi - HT.sIx xs.length 0 lo)
def slD (x : D) (lo hi : Option Int) : R D := match x with
  | .lst ds => if D.imms ds = true then .ok (.lst (cutL ds lo hi)) else .bad
  | .str z => if z.length ≤ sizeLine then .ok (.str (Txt.slice z lo hi)) else .bad
  | .tup ds => if D.imms ds = true ∧ ¬ (HT.sIx ds.length 0 lo = 0 ∧ HT.sIx ds.length ds.length hi = ds.length) then .ok (.tup (cutL ds lo hi)) else .bad
  | _ => .bad
def eSl (t : Tn → R D) (tl th : Tn → R (Option Int)) : Tn → R D := fun τ => (t τ).bind fun x => (tl τ).bind fun l => (th τ).bind fun h => slD x l h
def oNone : Tn → R (Option Int) := fun _ => .ok none
def oSome (t : Tn → R D) : Tn → R (Option Int) := fun τ => (t τ).bind fun d => match d with
  | .int i => .ok (some i)
  | _ => .bad
def postO (K : PySem.W.Frag) (E : XK) (H : Hp) (Q : Option Int → Hp → Prop) : R (Option Int) → Prop
  | .ok o => ∀ H', Same H H' → Q o H'
  | .err n => ∀ C H', ErrC K n C → Same H H' → E (.ref C) none H'
  | .bad => False
def MO (X : Cx) (E : XK) (Γ : List Cl) (e : Option Expr) (t : Tn → R (Option Int)) : Prop :=
  ∃ to, PO X e to ∧ ∀ O σ H τ Q, EOk X.K Γ O H σ τ → postO X.K E H Q (t τ) → to σ H Q
theorem mo_none : MO X E Γ none oNone := ⟨tNoPart, po_none, fun O σ H τ Q ok h => h H (Same.refl H)⟩
theorem mo_some (h : ME X E Γ e t c) : MO X E Γ (some e) (oSome t) := by
  obtain ⟨te, p, q⟩ := h
  refine ⟨tPart te, po_some p, fun O σ H τ Q ok h => q O σ H τ _ ok ?_⟩
  unfold oSome at h
  cases ht : t τ with
  | ok d =>
    rw [ht, R.ok_bind] at h
    refine fun v H' L s r _ => ?_
    cases d with
    | int i => exact ⟨i, r.1, h H' s⟩
    | _ => exact h.elim
  | err n => rw [ht] at h; exact h
  | bad => rw [ht] at h; exact h
theorem Reps.cut {K : PySem.W.Frag} {H : Hp} {ds : List D} {vs : List V} {L : List Addr} (r : Reps K H ds vs L) (lo hi : Option Int) : ∃ L', Reps K H (cutL ds lo hi) (cutV vs lo hi) L' ∧ List.Sublist L' L := by
  obtain ⟨L1, a, b⟩ := r.drop (HT.sIx ds.length 0 lo)
  obtain ⟨L2, c, d⟩ := a.take (HT.sIx ds.length ds.length hi - HT.sIx ds.length 0 lo)
  refine ⟨L2, ?_, d.trans b⟩
  unfold cutL cutV
  rw [r.length]
  exact c
theorem me_sl {lo hi : Option Expr} {tl th : Tn → R (Option Int)} (he : ME X E Γ e t c) (hl : MO X E Γ lo tl) (hh : MO X E Γ hi th) : ME X E Γ (.Subscript e (.Slice lo hi none p2) pos) (eSl t tl th) .fresh := by
  obtain ⟨te, p, q⟩ := he
  obtain ⟨tl', pl, ql⟩ := hl
  obtain ⟨th', ph, qh⟩ := hh
  refine ⟨_, pe_slice (SlR.or sl_list (SlR.or sl_str sl_tup)) p pl ph, fun O σ H τ Q ok h => ?_⟩
  unfold eSl at h
  refine q O σ H τ _ ok (post.bind h fun dx hx h x H1 Lx s1 rx kx => ql O σ H1 τ _ (ok.same s1) ?_)
  cases h1 : tl τ with
  | err n => rw [h1] at h; exact fun C H' e s' => h C H' e (s1.trans s')
  | bad => rw [h1] at h; exact h
  | ok l =>
    rw [h1, R.ok_bind] at h
    refine fun H2 s2 => qh O σ H2 τ _ ((ok.same s1).same s2) ?_
    cases h2 : th τ with
    | err n => rw [h2] at h; exact fun C H' e s' => h C H' e ((s1.trans s2).trans s')
    | bad => rw [h2] at h; exact h
    | ok g =>
      rw [h2, R.ok_bind] at h
      refine fun H3 s3 => ?_
      have s03 := (s1.trans s2).trans s3
      have rx := (rx.same s2).same s3
      unfold slD at h
      cases dx with
      | lst ds =>
        dsimp only at h
        by_cases hz : D.imms ds = true
        · rw [if_pos hz] at h
          obtain ⟨a, vs, L', rfl, ha, _, rs⟩ := rx
          obtain ⟨L2, rc, _⟩ := (imms_nil rs hz).cut l g
          have e0 : L2 = [] := List.sublist_nil.mp ‹_›
          subst e0
          refine .inl ⟨a, vs, rfl, SqL.of ha, fun p hp => new_lst rc hp fun v H' L s r n1 n2 => h v H' L (s03.trans s) r ⟨n1, fun a ha => s03.non (n2 a ha)⟩⟩
        · rw [if_neg hz] at h; exact h.elim
      | str z =>
        dsimp only at h
        by_cases hz : z.length ≤ sizeLine
        · rw [if_pos hz] at h
          exact .inr (.inl ⟨z, rx.1, hz, h _ H3 [] s03 ⟨rfl, rfl⟩ RcOk.nil⟩)
        · rw [if_neg hz] at h; exact h.elim
      | tup ds =>
        dsimp only at h
        by_cases hz : D.imms ds = true ∧ ¬ (HT.sIx ds.length 0 l = 0 ∧ HT.sIx ds.length ds.length g = ds.length)
        · rw [if_pos hz] at h
          obtain ⟨a, vs, rfl, ha, rs⟩ := rx
          obtain ⟨L2, rc, _⟩ := (imms_nil rs hz.1).cut l g
          have e0 : L2 = [] := List.sublist_nil.mp ‹_›
          subst e0
          exact .inr (.inr ⟨a, vs, rfl, ha, by rw [rs.length]; exact hz.2, fun p hp => h _ _ [] (s03.trans (Same.new hp)) ⟨p, _, rfl, SqT.of upd_same, rc.same (Same.new hp)⟩ RcOk.nil⟩)
        · rw [if_neg hz] at h; exact h.elim
      | _ => exact h.elim
end
section
variable {X : Cx}
def lenD : List D → R D
  | [.lst ds] => .ok (.int ds.length)
  | [.tup ds] => .ok (.int ds.length)
  | [.frl ds] => .ok (.int ds.length)
  | [.str x] => if x.length ≤ sizeLine then .ok (.int x.length) else .bad
  | [.dic ks _] => .ok (.int ks.length)
  | _ => .bad
theorem N_len : NoErrL lenD := fun ds n h => by
  rcases ds with _ | ⟨d, _ | ⟨_, _⟩⟩
  · cases h
  · cases d with
    | str x =>
      replace h : (if x.length ≤ sizeLine then R.ok (D.int x.length) else .bad) = R.err n := h
      split at h <;> cases h
    | _ => cases h
  · cases d <;> cases h
theorem call_lenA : CallR X (.builtin "len") (fun xs H Q => (∃ p ys, xs = [.ref p] ∧ (SqL X.K H p ys ∨ SqT X.K H p ys) ∧ Q (.int ys.length) H) ∨ (∃ z, xs = [.str z] ∧ z.length ≤ sizeLine ∧ Q (.int z.length) H) ∨ ∃ a kvs, xs = [V.ref a] ∧ H a = some (.dK kvs) ∧ Q (.int kvs.length) H) :=
  CallR.or call_len_seq (CallR.or call_len_str call_lenD)
theorem reps1 {K : PySem.W.Frag} {H : Hp} {d : D} {xs : List V} {L : List Addr} (r : Reps K H [d] xs L) : ∃ v, xs = [v] ∧ Rep K H d v L := by
  obtain ⟨v, vs', L1, L2, e1, e2, r1, r2⟩ := r
  obtain ⟨rfl, rfl⟩ := r2
  rw [List.append_nil] at e2
  subst e2
  exact ⟨v, e1, r1⟩
theorem reps2 {K : PySem.W.Frag} {H : Hp} {d d' : D} {xs : List V} {L : List Addr} (r : Reps K H [d, d'] xs L) : ∃ v v' L1 L2, xs = [v, v'] ∧ L = L1 ++ L2 ∧ Rep K H d v L1 ∧ Rep K H d' v' L2 := by
  obtain ⟨v, vs', L1, L2, e1, e2, r1, r2⟩ := r
  obtain ⟨v', rfl, r3⟩ := reps1 r2
  exact ⟨v, v', L1, L2, e1, e2, r1, r3⟩
theorem B_len {K : PySem.W.Frag} : ClB K (fun xs H Q => (∃ p ys, xs = [.ref p] ∧ (SqL K H p ys ∨ SqT K H p ys) ∧ Q (.int ys.length) H) ∨ (∃ z, xs = [.str z] ∧ z.length ≤ sizeLine ∧ Q (.int z.length) H) ∨ ∃ a kvs, xs = [V.ref a] ∧ H a = some (.dK kvs) ∧ Q (.int kvs.length) H) lenD := by
  rintro H xs ds L Q r ⟨d, hg, q⟩
  have fin : ∀ n : Int, d = .int n → Q (.int n) H := fun n e => q _ H [] (Same.refl H) (e ▸ ⟨rfl, rfl⟩) (by simp) (fun a ha => nomatch ha)
  rcases ds with _ | ⟨e, _ | ⟨_, _⟩⟩
  · cases hg
  · cases e with
    | lst es =>
      cases hg
      obtain ⟨v, rfl, a, vs, L', rfl, ha, _, rs⟩ := reps1 r
      exact .inl ⟨a, vs, rfl, .inl (SqL.of ha), fin _ (by rw [rs.length])⟩
    | tup es =>
      cases hg
      obtain ⟨v, rfl, a, vs, rfl, ha, rs⟩ := reps1 r
      exact .inl ⟨a, vs, rfl, .inr ha, fin _ (by rw [rs.length])⟩
    | frl es =>
      cases hg
      obtain ⟨v, rfl, a, vs, rfl, ha, _, _, rs⟩ := reps1 r
      exact .inl ⟨a, vs, rfl, .inl ha.sq, fin _ (by rw [rs.length])⟩
    | str x =>
      replace hg : (if x.length ≤ sizeLine then R.ok (D.int x.length) else .bad) = R.ok d := hg
      split at hg
      · rename_i hz
        cases hg
        obtain ⟨v, rfl, rfl, _⟩ := reps1 r
        exact .inr (.inl ⟨_, rfl, hz, fin _ rfl⟩)
      · cases hg
    | dic ks es =>
      cases hg
      obtain ⟨v, rfl, a, kvs, L', rfl, ha, _, hk, _⟩ := reps1 r
      exact .inr (.inr ⟨a, kvs, rfl, ha, fin _ (by rw [← hk, List.length_map])⟩)
    | _ => cases hg
  · cases e <;> cases hg
def int1D : List D → R D
  | [.int i] => .ok (.int i)
  | [.bl k] => .ok (.int (if k then 1 else 0))
  | _ => .bad
theorem N_int1 : NoErrL int1D := fun ds n h => by
  rcases ds with _ | ⟨d, _ | ⟨_, _⟩⟩
  · cases h
  · cases d <;> cases h
  · cases d <;> cases h
theorem B_int1 {K : PySem.W.Frag} : ClB K (fun xs H Q => (∃ i, xs = [.int i] ∧ Q (.int i) H) ∨ ∃ k, xs = [.bl k] ∧ Q (.int (if k then 1 else 0)) H) int1D := by
  rintro H xs ds L Q r ⟨d, hg, q⟩
  rcases ds with _ | ⟨e, _ | ⟨_, _⟩⟩
  · cases hg
  · cases e with
    | int i =>
      cases hg
      obtain ⟨v, rfl, rfl, _⟩ := reps1 r
      exact .inl ⟨_, rfl, q _ H [] (Same.refl H) ⟨rfl, rfl⟩ (by simp) (fun a ha => nomatch ha)⟩
    | bl k =>
      cases hg
      obtain ⟨v, rfl, rfl, _⟩ := reps1 r
      exact .inr ⟨_, rfl, q _ H [] (Same.refl H) ⟨rfl, rfl⟩ (by simp) (fun a ha => nomatch ha)⟩
    | _ => cases hg
  · cases e <;> cases hg
def max2D : List D → R D
  | [.int i, .int j] => .ok (.int (if j > i then j else i))
  | _ => .bad
theorem N_max2 : NoErrL max2D := fun ds n h => by unfold max2D at h; split at h <;> cases h
theorem B_max2 {K : PySem.W.Frag} : ClB K (fun xs H Q => ∃ i j, xs = [.int i, .int j] ∧ Q (.int (if j > i then j else i)) H) max2D := by
  rintro H xs ds L Q r ⟨d, hg, q⟩
  unfold max2D at hg
  split at hg
  · cases hg
    obtain ⟨v, v', L1, L2, rfl, _, ⟨rfl, _⟩, ⟨rfl, _⟩⟩ := reps2 r
    exact ⟨_, _, rfl, q _ H [] (Same.refl H) ⟨rfl, rfl⟩ (by simp) (fun a ha => nomatch ha)⟩
  · cases hg
def kindD : D → String
  | .non => "NoneType"
  | .bl _ => "bool"
  | .int _ => "int"
  | .str _ => "str"
  | .tup _ => "tuple"
  | .lst _ => "list"
  | .frl _ => "list"
  | .dic _ _ => "dict"
theorem kindD_mem (d : D) : kindD d ∈ kinds := by cases d <;> simp [kindD, kinds]
def isiB (d : D) (T : String) : Bool := kindD d == T || (kindD d == "bool" && T == "int")
def rIsD (K : PySem.W.Frag) : List V → Hp → VK → Prop := fun xs H Q => ∃ x T d L, xs = [x, .ty T] ∧ Rep K H d x L ∧ T ∈ (["int", "bool", "str", "list", "tuple", "dict"] : List String) ∧ Q (.bl (isiB d T)) H
theorem kit_all {K : PySem.W.Frag} {d : D} {U : String} (hU : U ∈ (["int", "bool", "str", "list", "tuple", "dict"] : List String)) : PySem.W.kitOne K (.type (kindD d)) (.type U) = some (isiB d U) := by
  have hT := kindD_mem d
  unfold isiB
  simp only [List.mem_cons, List.not_mem_nil, or_false] at hU
  rcases hU with rfl | rfl | hU
  · rw [kit_int hT]
    simp
  · rw [kit_bool hT]
    have : (kindD d == "bool" && ("bool" : String) == "int") = false := by simp
    rw [this, Bool.or_false]
  · rw [kit_self hT (by simpa using hU)]
    have : (kindD d == "bool" && U == "int") = false := by
      rcases hU with rfl | rfl | rfl | rfl <;> simp
    rw [this, Bool.or_false]
theorem call_isD : CallR X (.builtin "isinstance") (rIsD X.K) := by
  intro pins s σ H xs us Q I r h
  obtain ⟨x, T, d, L, rfl, rd, hT, q⟩ := h
  obtain ⟨u, u2, rfl, rx, rT⟩ := vals2 r
  obtain rfl : u2 = Value.type T := rT
  have hk := kit_all (K := X.K) (d := d) hT
  have fin : ∀ tk, EP X pins σ Q (.bool (isiB d T)) { s with toks := tk } := fun tk => ⟨.bl _, H, I.tok tk, rfl, q⟩
  cases d with
  | non => obtain ⟨rfl, _⟩ := rd; exact isinst_ok I rx .non hk fin
  | bl b => obtain ⟨rfl, _⟩ := rd; exact isinst_ok I rx (.bl b) hk fin
  | int b => obtain ⟨rfl, _⟩ := rd; exact isinst_ok I rx (.int b) hk fin
  | str b => obtain ⟨rfl, _⟩ := rd; exact isinst_ok I rx (.str b) hk fin
  | lst _ => obtain ⟨a, _, _, rfl, e, _⟩ := rd; exact isinst_ok I rx (.lst e) hk fin
  | frl _ =>
    obtain ⟨a, vs, rfl, ha, _⟩ := rd
    obtain rfl : u = Value.ref a := rx
    obtain ⟨its, _, ⟨o, n, h1, h2, _⟩, _⟩ := I.list ha.sq
    exact PySem.W.kia_one PySem.W.kitx_list I.kIn ⟨o, h1, h2⟩ hk (fun z => nomatch z) fin
  | dic _ _ => obtain ⟨a, _, _, rfl, e, _⟩ := rd; exact isinst_ok I rx (.dK e) hk fin
  | tup _ =>
    obtain ⟨a, vs, rfl, ha, _⟩ := rd
    obtain rfl : u = Value.ref a := rx
    obtain ⟨its, _, ⟨o, h1, h2, _⟩, _⟩ := I.tuple ha
    exact PySem.W.kia_one PySem.W.kitx_tuple I.kIn ⟨o, h1, h2⟩ hk (fun z => nomatch z) fin
end
section
variable {X : Cx} {E : XK} {Γ : List Cl} {e c' : Expr} {t : Tn → R D} {c : Rc} {pos p : Pos}
def isiD (T : String) : D → R D := fun d => .ok (.bl (isiB d T))
theorem me_isi {T : String} (hT : T ∈ (["int", "bool", "str", "list", "tuple", "dict"] : List String)) (hg : Gl X "isinstance") (hm : X.mg "isinstance" = none) (hc : PE X c' (tC (.ty T))) (he : ME X E Γ e t c) (hs : starEach [e, c'] X.env = (false, eval e X.env) :: starEach [c'] X.env := by rfl) (hs2 : starEach [c'] X.env = (false, eval c' X.env) :: starEach [] X.env := by rfl)
    (hpl : (backTo pos (starEach [c'] X.env)).any (·.1) = false := by rfl) : ME X E Γ (.Call (.Name "isinstance" p) [e, c'] [] pos) (eUn (isiD T) t) .fresh := by
  obtain ⟨te, p', q⟩ := he
  refine ⟨_, pe_callB (x := "isinstance") call_isD hg hm Boot.«isinstance» (pa_cons p' (pa_cons hc pa_nil hs2) hs) (by decide) (by decide) hs hpl, fun O σ H τ Q ok h => q O σ H τ _ ok (post.bind h fun d _ h v H1 L s1 r1 _ => ?_)⟩
  exact ⟨v, T, d, L, rfl, r1, hT, h _ H1 [] s1 ⟨rfl, rfl⟩ RcOk.nil⟩
end
end L2
set_option maxRecDepth 100000
set_option maxHeartbeats 4000000
namespace L2
open PySem PySem.Spec PyProof.Rows
section
variable {X : Cx} {E : XK} {Γ : List Cl} {e k v : Expr} {t : Tn → R D} {u : Tn → R (List D)} {c ca cb : Rc} {pos p : Pos} {ks : List Key} {keys : List (Option Expr)} {values : List Expr}
end
end L2
set_option maxRecDepth 100000
set_option maxHeartbeats 4000000
namespace L2
open PySem PySem.Spec PyProof.Rows
theorem Room.u12 {k : Nat} {A : Around} (r : Room k A) : A.units + 12 < cLine := by have := r.un; lia
theorem Room.u1 {k : Nat} {A : Around} (r : Room k A) : A.units + 1 < cLine := by have := r.un; lia
def compChk (outer : Scope) (N N' : List Str) (fr : List (Option Nat)) (scope : Scope) : Bool :=
  decide (scope.kind = .function) && scope.names.all (fun y => decide (y.2 ≠ .cell)) && scope.names.all (fun y => decide (y.2 ≠ .local) || decide (scope.names.lookup y.1 = some .local)) &&
  scope.names.all (fun y => decide (y.2 ≠ .free) || decide (outer.names.lookup y.1 = some .cell) || decide (outer.names.lookup y.1 = some .free)) && decide (fr.length = N'.length) &&
  (List.range fr.length).all fun j => match fr[j]?, N'[j]? with
    | some (some i), some x => decide (N[i]? = some x) && decide (scope.names.lookup x = some .free) && (decide (outer.names.lookup x = some .cell) || decide (outer.names.lookup x = some .free))
    | _, _ => true
theorem comp_scope {X : Cx} {N' : List Str} {fr : List (Option Nat)} {scope : Scope} (hc : ∀ x, (X.env.scope.names.lookup x = some .cell ∨ X.env.scope.names.lookup x = some .free) → ∃ c, X.env.cells.lookup x = some c) (h : compChk X.env.scope X.N N' fr scope = true) : CompScope X N' fr scope := by
  unfold compChk at h
  simp only [Bool.and_eq_true, decide_eq_true_eq, List.all_eq_true, Bool.or_eq_true] at h
  obtain ⟨⟨⟨⟨⟨h1, h2⟩, h3⟩, h4⟩, h5⟩, h6⟩ := h
  refine ⟨h1, h2, fun y hy e => ?_, fun y hy e => ?_, h5, fun j i x e1 e2 => ?_⟩
  · rcases h3 y hy with z | z
    · exact absurd e z
    · exact z
  · rcases h4 y hy with (z | z) | z
    · exact absurd e z
    · exact hc y.1 (.inl z)
    · exact hc y.1 (.inr z)
  · have hj : j < fr.length := (List.getElem?_eq_some_iff.mp e1).1
    have := h6 j (List.mem_range.mpr hj)
    rw [e1, e2] at this
    simp only [Bool.and_eq_true, decide_eq_true_eq, Bool.or_eq_true] at this
    exact ⟨this.1.1, this.1.2, this.2⟩
theorem cs_def {CX : CXT} {P : Program} {w : World} {K : PySem.W.Frag} {mg : Str → Option Value} {base : Heap} {N : List Str} {qual : Str} {sc : Scope} {f : Addr} {cd : Value} {A : Around} {outer : List Env} {s : Shared} {H : Hp} {E : XK} {N' : List Str} {fr : List (Option Nat)} {scope : Scope}
    (nf : ∀ y ∈ sc.names, y.2 ≠ .free) (h : compChk sc N N' fr scope = true) : CompScope (cxOf CX P w K mg base N qual sc f cd A outer s H E) N' fr scope :=
  comp_scope (X := cxOf CX P w K mg base N qual sc f cd A outer s H E) (fun x hx => by
    rcases hx with hx | hx
    · exact cell_has hx
    · exact absurd rfl (nf _ (PySem.mem_of_lookup hx))) h
section
variable {X : Cx} {E : XK} {Γ Γ1 Γ' Γl : List Cl} {e : Expr} {t : Tn → R D} {c : Rc} {pos pos' : Pos}
theorem mg_one {i : Nat} {x : Expr} (h : PG X x (gName i)) : MG X x (.one i) := h
def sAsg (g : Tgt) (t : Tn → R D) : Tn → R Fl := fun τ => (t τ).bind fun d => (g.asg d τ).bind fun τ1 => .ok (.nx τ1)
def sAug (i : Nat) (g : D → D → R D) (t : Tn → R D) : Tn → R Fl := fun τ => (eVar i τ).bind fun x => (t τ).bind fun y => (g x y).bind fun z => .ok (.nx (τ.set i (some z)))
theorem PIp.or {op : Operator} {r r' : R2} (h : PIp X op r) (h' : PIp X op r') : PIp X op (fun x y H Q => r x y H Q ∨ r' x y H Q) := by
  intro pins s σ H x y v u Q I r1 r2 z
  rcases z with z | z
  · exact h pins s σ H x y v u Q I r1 r2 z
  · exact h' pins s σ H x y v u Q I r1 r2 z
structure Bl (mg : Str → Option Value) : Prop where
  isinstance : mg "isinstance" = none
  int : mg "int" = none
  bool : mg "bool" = none
  str : mg "str" = none
  dict : mg "dict" = none
  list : mg "list" = none
  tuple : mg "tuple" = none
  len : mg "len" = none
  sum : mg "sum" = none
  max : mg "max" = none
  min : mg "min" = none
  all : mg "all" = none
  range : mg "range" = none
  enumerate : mg "enumerate" = none
  zip : mg "zip" = none
end
end L2
set_option maxRecDepth 100000
set_option maxHeartbeats 4000000
namespace L2
open PySem PySem.Spec PyProof.Rows
section
variable {X : Cx} {E : XK} {Γ Γ1 Γ' Γl : List Cl} {e : Expr} {t : Tn → R D} {c : Rc} {pos pos' : Pos}
theorem mn (i : Nat) (k : Cl) {x : Str} (hN : X.N[i]? = some x := by rfl) (hk : Γ[i]? = some k := by rfl) (hd : k ≠ .dead := by decide) (hv : Vis X.env.scope x := by first | exact Or.inl rfl | exact Or.inr (Or.inl rfl) | exact Or.inr (Or.inr rfl)) (hb : (x == ("__debug__" : Str)) = false := by decide) (hcd : (x == ("__classdict__" : Str)) = false := by decide) :
    ME X E Γ (.Name x pos) (eVar i) (Rc.of k) := me_name hN hk hd hv hb hcd
theorem st (i : Nat) {x : Str} (nd : X.N.Nodup) (h : MV X E Γ e t Γ1) (hi : X.N[i]? = some x := by rfl) (hl : i < Γ1.length := by decide) (hx : Loc X.env.scope x := by first | exact Or.inl rfl | exact Or.inr rfl) (hs : swapsWith e (some (.Name x pos')) pos.line X.env = pure false := by rfl) (hf : X.fn x = true ∨ X.env.scope.names.lookup x = some .local := by first | exact .inl rfl | exact .inr rfl | assumption) :
    MS X E Γl Γ (.Assign [.Name x pos'] e pos) (sSet i t) (Γ1.set i .own) := ms_set nd hi hl h hx hs hf
theorem stS (i : Nat) {x : Str} (nd : X.N.Nodup) (h : ME X E Γ e t c) (hc : c ≠ .bor := by decide) (hi : X.N[i]? = some x := by rfl) (hl : i < Γ.length := by decide) (hx : Loc X.env.scope x := by first | exact Or.inl rfl | exact Or.inr rfl) (hs : swapsWith e (some (.Name x pos')) pos.line X.env = pure false := by rfl) (hf : X.fn x = true ∨ X.env.scope.names.lookup x = some .local := by first | exact .inl rfl | exact .inr rfl | assumption) :
    MS X E Γl Γ (.Assign [.Name x pos'] e pos) (sSet i t) (Γ.set i .shr) := ms_setS nd hi hl h hc hx hs hf
theorem pgn (i : Nat) {x : Str} (nd : X.N.Nodup) (hi : X.N[i]? = some x := by rfl) (hx : Loc X.env.scope x := by first | exact Or.inl rfl | exact Or.inr rfl) (hf : X.fn x = true ∨ X.env.scope.names.lookup x = some .local := by first | exact .inl rfl | exact .inr rfl | assumption) : PG X (.Name x pos) (gName i) := pg_name nd hi hx hf
theorem app (i : Nat) {x : Str} {p0 p1 p2 : Pos} (h : MV X E Γ e t Γ1) (hN : X.N[i]? = some x := by rfl) (h0 : Γ[i]? = some .own := by rfl) (hk : Γ1[i]? = some .own := by rfl) (hv : Vis X.env.scope x := by first | exact Or.inl rfl | exact Or.inr (Or.inl rfl) | exact Or.inr (Or.inr rfl)) (hb : (x == ("__debug__" : Str)) = false := by decide) (hcd : (x == ("__classdict__" : Str)) = false := by decide)
    (hbase : attributeBase (.Name x p0) "append" X.env (eval (.Name x p0) X.env) = eval (.Name x p0) X.env := by rfl)
    (hfew : ((backTo p2 (starEach [e] X.env)).all (fun x => !x.1) && (backToKw p2 (keywordEach [] X.env)).all (fun x => x.1.isSome) && decide ([e].length + ([] : List Keyword).length + (if ([] : List Keyword).isEmpty then 0 else 1) < 30)) = true := by rfl)
    (hline : (p1.endLine == p2.line) = true := by rfl) (hs : starEach [e] X.env = (false, eval e X.env) :: starEach [] X.env := by rfl) (hplain : (backTo p2 (starEach [] X.env)).any (·.1) = false := by rfl)
    (hsw : swapsWith (.Call (.Attribute (.Name x p0) "append" p1) [e] [] p2) none pos.line X.env = pure false := by rfl) :
    MS X E Γl Γ (.Expr (.Call (.Attribute (.Name x p0) "append" p1) [e] [] p2) pos) (sApp i t) Γ1 := ms_append hN h0 h hk hv hb hcd hbase hfew hline hs hplain hsw
theorem put (i : Nat) {x : Str} {p0 p1 : Pos} {ix : Expr} {ti : Tn → R D} (h : MV X E Γ e t Γ1) (hi : ME X E Γ1 ix ti c) (hN : X.N[i]? = some x := by rfl) (hk : Γ1[i]? = some .own := by rfl) (hv : Vis X.env.scope x := by first | exact Or.inl rfl | exact Or.inr (Or.inl rfl) | exact Or.inr (Or.inr rfl)) (hb : (x == ("__debug__" : Str)) = false := by decide) (hcd : (x == ("__classdict__" : Str)) = false := by decide)
    (ha : ∀ v, assign (.Subscript (.Name x p0) ix p1) X.env v = (do
      let ov ← holding [v] (eval (.Name x p0) X.env)
      let iv ← holding [v, ov] (eval ix X.env)
      standAt p1
      holding [v, ov, iv] (setItem ov iv v)
      release [v, ov, iv] []) := by intro _; rfl)
    (hs : swapsWithSole [.Subscript (.Name x p0) ix p1] e pos.line X.env = pure false := by rfl) (hw : swappedStores [.Subscript (.Name x p0) ix p1] e X.env = pure none := by rfl)
    (h1 : (assignEach [.Subscript (.Name x p0) ix p1] X.env).map (·.2) = [assign (.Subscript (.Name x p0) ix p1) X.env] := by rfl) :
    MS X E Γl Γ (.Assign [.Subscript (.Name x p0) ix p1] e pos) (sPut i t ti) Γ1 := ms_put hN h hi hk hv hb hcd ha hs hw h1
theorem stC (i : Nat) {x : Str} {N' : List Str} {fr : List (Option Nat)} {scope : Scope} {tg iter elt : Expr} {ifs : List Expr} {it : Tn → R (List D)} {g : Tgt} {cnd : Tn → R Bool} {te : Tn → R D} {ci : Rc} {cpos : Pos} (nd : X.N.Nodup) (hc : X.calm = true) (S : CompScope X N' fr scope) (hi : MI X E Γ tg iter it ci)
    (hg : ∀ s₃ H₃ fp pins, MG (compCx X scope N' s₃ H₃ fp pins) tg g) (ht : ∀ s₃ H₃ fp pins, MTs (compCx X scope N' s₃ H₃ fp pins) noX (clsAll (Cl.ofIt ci) (compC fr Γ) g.slots) ifs cnd)
    (he : ∀ s₃ H₃ fp pins, ME (compCx X scope N' s₃ H₃ fp pins) noX (clsAll (Cl.ofIt ci) (compC fr Γ) g.slots) elt te .fresh) (hd : ∀ j ∈ g.slots, (compC fr Γ)[j]? = some .dead)
    (hix : X.N[i]? = some x := by rfl) (hl : i < Γ.length := by decide) (hx : Loc X.env.scope x := by first | exact Or.inl rfl | exact Or.inr rfl) (hsw : swapsWith (.ListComp elt [⟨tg, iter, ifs, 0⟩] scope cpos) (some (.Name x pos')) pos.line X.env = pure true := by rfl)
    (hs : ∀ x, foldedSetIterable iter X.env x = pure x := by intro _; rfl) (hf : X.fn x = true ∨ X.env.scope.names.lookup x = some .local := by first | exact .inl rfl | exact .inr rfl | assumption) :
    MS X E Γl Γ (.Assign [.Name x pos'] (.ListComp elt [⟨tg, iter, ifs, 0⟩] scope cpos) pos) (sSet i (eComp fr it g cnd te)) (Γ.set i .own) := ms_comp hc S hi hg ht he hd nd hix hl hx hsw hs hf
end
end L2
set_option maxRecDepth 100000
set_option maxHeartbeats 4000000
namespace L2
open PySem PySem.Spec PyProof.Rows
section
variable {P : Program} {w : World} {K : PySem.W.Frag} {mg : Str → Option Value} {base : Heap} {x : Str} {st : Stmt} {N ps : List Str} {k : Nat} {t : Tn → R Fl} {Γ' : List Cl}
theorem mir_fn {f : Addr} {oc : Value} {od an : Option Addr} {osl : Array (Option Value)} {kV doc pm cdv ct : Value} (lk : K.lookup f = some ⟨oc, od, .func (PySem.W.fnOf x x (defArgs st) (defBody st) (defScope st) .none kV doc pm an cdv ct), osl⟩) (hcd : PySem.W.codeIn K cdv x = true)
    (S : FnScope N ps (defScope st)) (hn : ps.length ≤ N.length)
    (hbody : ∀ (f : Addr) (cdv : Value) (A : Around) (outer : List Env) (s : Shared) (H : Hp) (E : XK), Room k (A.deeper (envOfC x (defScope st) s.heap.objs.size f cdv)) →
      MSs (cxOf (cxx P w) P w K mg base N x (defScope st) f cdv A outer s H E) E [] (prmC N.length ps.length) (defBody st) t Γ') :
    FnOk P w K mg base (cxx P w) (k + 1) f (PySem.W.fnOf x x (defArgs st) (defBody st) (defScope st) .none kV doc pm an cdv ct) ps (spM K (runB N.length t) ps.length) := by
  refine fn_of lk hcd S (fun vs H Q E h => h.1) fun A outer s H vs Q E hr h => ?_
  obtain ⟨hl, ds, L, r, h⟩ := h
  obtain ⟨ts, p, q⟩ := hbody f cdv A outer s H E hr
  refine ⟨ts, p, q H (start N vs) H _ _ (hl ▸ SOk.start r (by lia)) ?_⟩
  unfold runB at h
  cases ht : t (ds.map some ++ List.replicate (N.length - ds.length) none) with
  | ok f =>
    rw [ht] at h
    cases f with
    | nx τ' => exact fun σ' H' ok' => h .non H' [] ok'.ext ⟨rfl, rfl⟩ RcOk.nil
    | rt d => exact fun v H' L s r n1 n2 => h v H' L s r ⟨n1, n2⟩
    | bk τ' => exact h.elim
    | ct τ' => exact h.elim
  | err n => rw [ht] at h; exact fun C H' e s => h C H' e s
  | bad => rw [ht] at h; exact h.elim
end
theorem imms_ints : ∀ ns : List Int, D.imms (ns.map D.int) = true
  | [] => rfl
  | n :: ns => by rw [List.map_cons]; show (true && D.imms (ns.map D.int)) = true; rw [imms_ints ns]; rfl
theorem reps_ints {K : PySem.W.Frag} {H : Hp} : ∀ ns : List Int, Reps K H (ns.map D.int) (ns.map V.int) []
  | [] => Reps.nil
  | n :: ns => Reps.cons (L1 := []) ⟨rfl, rfl⟩ (reps_ints ns)
theorem spM_law {K : PySem.W.Frag} {H : Hp} {a : Addr} {ns : List Int} {F : List D → R D} (hO : Only H) (hS : SqL K H a (ns.map V.int)) (hF : F [.frl (ns.map D.int)] = .ok (.bl true)) : spM K F 1 [.ref a] H (fun v _ => v = .bl true) fun _ _ _ => False := by
  have hs : SqF K H a (ns.map V.int) := by
    rcases hS with (z | z) | z
    · rcases hO a with w | ⟨o, xs, w⟩
      · rw [w] at z; cases z
      · rw [w] at z; cases z
    · exact .inl z
    · exact .inr z
  refine ⟨rfl, [.frl (ns.map D.int)], [], Reps.cons (L1 := []) ⟨a, ns.map V.int, rfl, hs, rfl, imms_ints ns, reps_ints ns⟩ Reps.nil, ?_⟩
  rw [hF]
  exact fun v H' L s r _ => r.1
theorem law_walk {Fm : List D → R D} {k : Nat} {x : Str} {l : PySem.W.OpenLaw} {q : Program} {loose : List Str} {XP : (Str → Option Value) → Heap → Prop} {YP : World → Heap → Prop} {d : DefRec} {K : Params → PySem.W.Frag} (hF : ∀ ns : List Int, ns.length ≤ 63 → Fm [.frl (ns.map D.int)] = .ok (.bl true)) (hr : Room k callerA) (hn : l.most = some 63) (hdf : d.params.defaults = [])
    (hY : ∀ (w : World) (h : Heap), YP w h → (K w.params).In h)
    (F : ∀ (w : World) (mg : Str → Option Value) (fa : Addr) (h : Heap), (K w.params).In h → h.Ns mainGlobals mg → mg d.name = some (.ref fa) →
      ∃ fd : FuncData, (∀ (s : Shared) (u : Value), BindsTo s fd ⟨[u], []⟩ [(x, u)]) ∧ ∀ base : Heap, (K w.params).In base → base.Ns mainGlobals mg → FnOk l.prog w (K w.params) mg base (cxx l.prog w) k fa fd [x] (spM (K w.params) Fm 1)) :
    PySem.W.WalkO q loose XP YP l.row.toRowW d [] (fun f vs => PySem.call f vs) :=
  L2.walk_of (n := 63) (k := k) (x := x) (CX := fun w => cxx l.prog w) (sp := fun w => spM (K w.params) Fm 1) hn (by decide) hdf hr hY F (fun w H a ns hl hO hS => spM_law hO hS (hF ns hl)) fun w H s e s' z => cxx_no z
end L2
set_option maxRecDepth 100000
set_option maxHeartbeats 4000000
namespace L2
open PySem PySem.Spec PyProof.Rows
section
variable {i j : Int} {C : Int → Int → Bool} {g : Int → Int → D}
theorem ev_add : addD (.int i) (.int j) = .ok (.int (i + j)) := rfl
theorem ev_int : L2.intD C g (.int i) (.int j) = if C i j = true then .ok (g i j) else .bad := rfl
theorem ev_mulr (h1 : -(2 ^ 64) < j) (h2 : j < 2 ^ 64) : mulD (.int i) (.int j) = .ok (.int (i * j)) := by
  have : ((decide (-(2 ^ 64) < i) && decide (i < 2 ^ 64)) || (decide (-(2 ^ 64) < j) && decide (j < 2 ^ 64))) = true := by rw [decide_eq_true h1, decide_eq_true h2]; simp
  exact if_pos this
theorem ev_mull (h1 : -(2 ^ 64) < i) (h2 : i < 2 ^ 64) : mulD (.int i) (.int j) = .ok (.int (i * j)) := by
  have : ((decide (-(2 ^ 64) < i) && decide (i < 2 ^ 64)) || (decide (-(2 ^ 64) < j) && decide (j < 2 ^ 64))) = true := by rw [decide_eq_true h1, decide_eq_true h2]; simp
  exact if_pos this
theorem ev_mulR (h1 : -18446744073709551616 < j) (h2 : j < 18446744073709551616) : mulD (.int i) (.int j) = .ok (.int (i * j)) := ev_mulr (by lia) (by lia)
theorem ev_mulL (h1 : -18446744073709551616 < i) (h2 : i < 18446744073709551616) : mulD (.int i) (.int j) = .ok (.int (i * j)) := ev_mull (by lia) (by lia)
theorem ev_fdiv (h1 : 0 < j) (h2 : j < 1073741824) : fdivD (.int i) (.int j) = .ok (.int (i / j)) := by
  simp [fdivD, ev_int, h1, h2]
theorem ev_mod (h1 : 0 < j) : modD (.int i) (.int j) = .ok (.int (i % j)) := by
  simp [modD, ev_int, h1]
theorem ev_eqi {neg : Bool} : eqR neg (.int i) (.int j) = .ok (.bl (if neg = true then !(i == j) else i == j)) := by
  cases neg <;> rfl
theorem ev_eqs {neg : Bool} {x y : Str} : eqR neg (.str x) (.str y) = .ok (.bl (if neg = true then !(x == y) else x == y)) := by
  cases neg <;> rfl
theorem ev_eqb {neg : Bool} {x y : Bool} : eqR neg (.bl x) (.bl y) = .ok (.bl (if neg = true then !(x == y) else x == y)) := by
  cases neg <;> rfl
theorem ev_eqin {neg : Bool} : eqR neg (.int i) .non = .ok (.bl (if neg = true then !false else false)) := by
  cases neg <;> rfl
theorem ev_eqni {neg : Bool} : eqR neg .non (.int i) = .ok (.bl (if neg = true then !false else false)) := by
  cases neg <;> rfl
theorem ev_eqnn {neg : Bool} : eqR neg .non .non = .ok (.bl (if neg = true then !true else true)) := by
  cases neg <;> rfl
end
theorem atI_ok {α : Type} {xs : List α} {i : Int} {x : α} (h0 : 0 ≤ i) (h : xs[i.toNat]? = some x) : atI xs i = some x := by
  have hj : i.toNat < xs.length := (List.getElem?_eq_some_iff.mp h).1
  have := atI_nat h
  rw [Int.toNat_of_nonneg h0] at this
  exact this
theorem ev_ixl {ds : List D} {i : Int} {d : D} (h : atI ds i = some d) : ixD (.lst ds) (.int i) = .ok d := by show (match atI ds i with | some d => R.ok d | none => R.bad) = _; rw [h]
theorem ev_ixf {ds : List D} {i : Int} {d : D} (h : atI ds i = some d) : ixD (.frl ds) (.int i) = .ok d := by show (match atI ds i with | some d => R.ok d | none => R.bad) = _; rw [h]
theorem ev_ixs {x : Str} {i : Int} {c : Nat} (hz : x.length ≤ sizeLine) (h : atI x.cps.toList i = some c) : ixD (.str x) (.int i) = .ok (.str ⟨#[c]⟩) := by show (if x.length ≤ sizeLine then (match atI x.cps.toList i with | some c => R.ok (D.str ⟨#[c]⟩) | none => R.bad) else R.bad) = _; rw [if_pos hz, h]
theorem ev_ix0 {a : D} {ds : List D} : ixD (.tup (a :: ds)) (.int 0) = .ok a := by
  have : atI (a :: ds) 0 = some a := atI_nat (j := 0) rfl
  show (match atI (a :: ds) 0 with | some d => R.ok d | none => R.bad) = _; rw [this]
theorem ev_ix1 {a b : D} {ds : List D} : ixD (.tup (a :: b :: ds)) (.int 1) = .ok b := by
  have : atI (a :: b :: ds) 1 = some b := atI_nat (j := 1) rfl
  show (match atI (a :: b :: ds) 1 with | some d => R.ok d | none => R.bad) = _; rw [this]
theorem ev_ix2 {a b c : D} {ds : List D} : ixD (.tup (a :: b :: c :: ds)) (.int 2) = .ok c := by
  have : atI (a :: b :: c :: ds) 2 = some c := atI_nat (j := 2) rfl
  show (match atI (a :: b :: c :: ds) 2 with | some d => R.ok d | none => R.bad) = _; rw [this]
theorem ev_ix3 {a b c d : D} {ds : List D} : ixD (.tup (a :: b :: c :: d :: ds)) (.int 3) = .ok d := by
  have : atI (a :: b :: c :: d :: ds) 3 = some d := atI_nat (j := 3) rfl
  show (match atI (a :: b :: c :: d :: ds) 3 with | some d => R.ok d | none => R.bad) = _; rw [this]
theorem ev_lenl {ds : List D} : lenD [.lst ds] = .ok (.int ds.length) := rfl
theorem ev_lenf {ds : List D} : lenD [.frl ds] = .ok (.int ds.length) := rfl
theorem ev_lens {x : Str} (h : x.length ≤ sizeLine) : lenD [.str x] = .ok (.int x.length) := if_pos h
theorem imms_map {α : Type} {f : α → D} (h : ∀ a, (f a).imm = true) : ∀ xs : List α, D.imms (xs.map f) = true
  | [] => rfl
  | x :: xs => by rw [List.map_cons]; show ((f x).imm && D.imms (xs.map f)) = true; rw [h, imms_map h xs]; rfl
theorem forGo_inv {asg : D → Tn → R Tn} {body : Tn → R Fl} (Iv : Nat → Tn → Prop) : ∀ (ds : List D) (k : Nat) (τ : Tn), Iv k τ →
    (∀ i d τ, ds[i]? = some d → Iv (k + i) τ → ∃ τ1 τ2, asg d τ = .ok τ1 ∧ (body τ1 = .ok (.nx τ2) ∨ body τ1 = .ok (.ct τ2)) ∧ Iv (k + i + 1) τ2) → ∃ τ', forGo asg body ds τ = .ok (.nx τ') ∧ Iv (k + ds.length) τ'
  | [], k, τ, h0, _ => ⟨τ, rfl, h0⟩
  | d :: ds, k, τ, h0, hs => by
    obtain ⟨τ1, τ2, e1, e2, h2⟩ := hs 0 d τ rfl h0
    obtain ⟨τ', e3, h3⟩ := forGo_inv Iv ds (k + 1) τ2 (by simpa using h2) fun i d' τ' hd hi => by
      obtain ⟨τ3, τ4, a, b, c⟩ := hs (i + 1) d' τ' (by simpa using hd) (by rw [← Nat.add_assoc, Nat.add_right_comm]; exact hi)
      have e : k + 1 + i + 1 = k + (i + 1) + 1 := by lia
      exact ⟨τ3, τ4, a, b, e ▸ c⟩
    refine ⟨τ', ?_, by rw [List.length_cons, Nat.add_comm ds.length 1, ← Nat.add_assoc]; exact h3⟩
    unfold forGo
    rw [e1, R.ok_bind]
    rcases e2 with e2 | e2 <;> rw [e2, R.ok_bind] <;> exact e3
theorem compL_enc {α : Type} {enc : α → D} {f : D → R (Option D)} {o : α → Option D} : ∀ {xs : List α}, (∀ x ∈ xs, f (enc x) = .ok (o x)) → compL f (xs.map enc) = .ok (xs.filterMap o)
  | [], _ => rfl
  | x :: xs, h => by
    rw [List.map_cons]
    unfold compL
    rw [h x List.mem_cons_self, R.ok_bind, compL_enc fun y hy => h y (List.mem_cons_of_mem _ hy), R.ok_bind]
    cases ho : o x with
    | none => simp [List.filterMap_cons, ho]
    | some d => simp [List.filterMap_cons, ho]
theorem compL_rng {f : D → R (Option D)} {o : Nat → Option D} {lo : Int} {n : Nat} (h : ∀ i, i < n → f (.int (lo + i)) = .ok (o i)) : compL f (rng lo n) = .ok ((List.range n).filterMap o) :=
  compL_enc (enc := fun (i : Nat) => .int (lo + i)) fun i hi => h i (List.mem_range.mp hi)
theorem rng_get {lo : Int} {n i : Nat} {d : D} (h : (rng lo n)[i]? = some d) : i < n ∧ d = .int (lo + i) := by
  unfold rng at h
  rw [List.getElem?_map] at h
  by_cases hi : i < n
  · rw [List.getElem?_range hi] at h
    exact ⟨hi, (Option.some.inj h).symm⟩
  · rw [List.getElem?_eq_none (by simp; lia)] at h; cases h
theorem rng_len {lo : Int} {n : Nat} : (rng lo n).length = n := by simp [rng]
theorem ev_rng1 {j : Int} (h1 : -(2 ^ 62) ≤ j) (h2 : j < 2 ^ 62) : rng1 [.int j] = .ok (rng 0 j.toNat) := if_pos ⟨h1, h2⟩
theorem ev_rng2 {i j : Int} (h1 : -(2 ^ 62) ≤ i) (h2 : i < 2 ^ 62) (h3 : -(2 ^ 62) ≤ j) (h4 : j < 2 ^ 62) : rng2 [.int i, .int j] = .ok (rng i (j - i).toNat) := if_pos ⟨h1, h2, h3, h4⟩
theorem noErr_ok' {α : Type} (a : α) : noErr (R.ok a) = .ok a := rfl
end L2
set_option maxRecDepth 100000
set_option maxHeartbeats 4000000
namespace L2
open PySem PySem.Spec PyProof.Rows
theorem ev_adds {x y : Str} (h : x.length + y.length ≤ sizeLine) : addD (.str x) (.str y) = .ok (.str (x ++ y)) := if_pos h
theorem ev_sub {i j : Int} : subD (.int i) (.int j) = .ok (.int (i - j)) := rfl
theorem ev_lt {i j : Int} : ltD (.int i) (.int j) = .ok (.bl (decide (i < j))) := rfl
theorem ev_le {i j : Int} : leD (.int i) (.int j) = .ok (.bl (decide (i ≤ j))) := rfl
theorem ev_gt {i j : Int} : gtD (.int i) (.int j) = .ok (.bl (decide (j < i))) := rfl
theorem ev_ge {i j : Int} : geD (.int i) (.int j) = .ok (.bl (decide (j ≤ i))) := rfl
theorem ev_neg {i : Int} : negD (.int i) = .ok (.int (-i)) := rfl
theorem ev_int1 {b : Bool} : int1D [.bl b] = .ok (.int (if b then 1 else 0)) := rfl
theorem ev_slL {ds : List D} {lo hi : Option Int} (h : D.imms ds = true) : slD (.lst ds) lo hi = .ok (.lst (cutL ds lo hi)) := if_pos h
theorem fm_some {α β : Type} (f : α → β) (xs : List α) : xs.filterMap (fun x => some (f x)) = xs.map f := by
  induction xs with
  | nil => rfl
  | cons x xs ih => simp
end L2
set_option maxRecDepth 100000
set_option maxHeartbeats 4000000
namespace L2
open PySem PySem.Spec PyProof.Rows
def appD (i : Nat) (τ : Tn) (ds : List D) (d : D) : R Fl := if ds.length < sizeLine then .ok (.nx (τ.set i (some (.lst (ds ++ [d]))))) else .bad
def appL (i : Nat) (t : Tn → R D) (τ : Tn) : D → R Fl
  | .lst ds => (t τ).bind fun d => appD i τ ds d
  | _ => .bad
theorem ev_sApp {i : Nat} {t : Tn → R D} {τ : Tn} : sApp i t τ = (eVar i τ).bind (appL i t τ) := by
  unfold sApp appL appD
  rfl
theorem ev_appL {i : Nat} {t : Tn → R D} {τ : Tn} {ds : List D} : appL i t τ (.lst ds) = (t τ).bind fun d => appD i τ ds d := rfl
theorem ev_appD {i : Nat} {τ : Tn} {ds : List D} {d : D} (h : ds.length < 16777216) : appD i τ ds d = .ok (.nx (τ.set i (some (.lst (ds ++ [d]))))) := if_pos (by rw [sizeLine_eq]; exact h)
def lstD (ys : List D) : R D := if ys.length ≤ sizeLine then .ok (.lst ys) else .bad
theorem ev_lstD {ys : List D} (h : ys.length ≤ 16777216) : lstD ys = .ok (.lst ys) := if_pos (by rw [sizeLine_eq]; exact h)
theorem ev_eComp {fr : List (Option Nat)} {it : Tn → R (List D)} {g : Tgt} {c : Tn → R Bool} {e : Tn → R D} {τ : Tn} : eComp fr it g c e τ = (it τ).bind fun xs => (compL (compF g.asg c e (compT fr τ)) xs).bind lstD := rfl
theorem ev_ctN {τ : Tn} : compT [] τ = [] := rfl
theorem ev_ctO {fr : List (Option Nat)} {τ : Tn} : compT (none :: fr) τ = none :: compT fr τ := rfl
theorem ev_ctS {i : Nat} {fr : List (Option Nat)} {τ : Tn} : compT (some i :: fr) τ = (τ[i]?).join :: compT fr τ := rfl
theorem ev_join {a : Option D} : (some a).join = a := rfl
def immD (d : D) : R D := if d.imm = true then .ok d else .bad
theorem ev_eImm {t : Tn → R D} {τ : Tn} : eImm t τ = (t τ).bind immD := rfl
theorem ev_immI {i : Int} : immD (.int i) = .ok (.int i) := rfl
theorem ev_immS {s : Str} : immD (.str s) = .ok (.str s) := rfl
theorem ev_immB {b : Bool} : immD (.bl b) = .ok (.bl b) := rfl
theorem ev_immN : immD .non = .ok .non := rfl
theorem ev_immT {ds : List D} (h : D.imms ds = true) : immD (.tup ds) = .ok (.tup ds) := if_pos h
theorem ev_imsN : D.imms [] = true := rfl
theorem ev_imsI {i : Int} {ds : List D} : D.imms (.int i :: ds) = D.imms ds := Bool.true_and _
theorem ev_imsS {i : Str} {ds : List D} : D.imms (.str i :: ds) = D.imms ds := Bool.true_and _
def goF (asg : D → Tn → R Tn) (body : Tn → R Fl) (ds : List D) : Fl → R Fl
  | .nx τ2 => forGo asg body ds τ2
  | .ct τ2 => forGo asg body ds τ2
  | .bk τ2 => .ok (.nx τ2)
  | .rt r => .ok (.rt r)
theorem ev_forC {asg : D → Tn → R Tn} {body : Tn → R Fl} {d : D} {ds : List D} {τ : Tn} : forGo asg body (d :: ds) τ = (asg d τ).bind fun τ1 => (body τ1).bind (goF asg body ds) := rfl
theorem ev_goN {asg : D → Tn → R Tn} {body : Tn → R Fl} {ds : List D} {τ : Tn} : goF asg body ds (.nx τ) = forGo asg body ds τ := rfl
theorem ev_goC {asg : D → Tn → R Tn} {body : Tn → R Fl} {ds : List D} {τ : Tn} : goF asg body ds (.ct τ) = forGo asg body ds τ := rfl
theorem ev_goB {asg : D → Tn → R Tn} {body : Tn → R Fl} {ds : List D} {τ : Tn} : goF asg body ds (.bk τ) = .ok (.nx τ) := rfl
theorem ev_goR {asg : D → Tn → R Tn} {body : Tn → R Fl} {ds : List D} {d : D} : goF asg body ds (.rt d) = .ok (.rt d) := rfl
theorem ev_xl0 {a : D} {ds : List D} : ixD (.lst (a :: ds)) (.int 0) = .ok a := ev_ixl (atI_nat (j := 0) rfl)
theorem ev_xl1 {a b : D} {ds : List D} : ixD (.lst (a :: b :: ds)) (.int 1) = .ok b := ev_ixl (atI_nat (j := 1) rfl)
theorem ev_xl2 {a b c : D} {ds : List D} : ixD (.lst (a :: b :: c :: ds)) (.int 2) = .ok c := ev_ixl (atI_nat (j := 2) rfl)
theorem ev_isiI {i : Int} : isiD "int" (.int i) = .ok (.bl true) := rfl
theorem ev_isiB {i : Int} : isiD "bool" (.int i) = .ok (.bl false) := rfl
theorem ev_for {it : Tn → R (List D)} {g : Tgt} {B : Tn → R Fl} {τ : Tn} {ds : List D} {f : R Fl} (h1 : it τ = .ok ds) (h2 : forGo g.asg B ds τ = f) : sFor it g B τ = f := by
  unfold sFor
  rw [h1]
  exact h2
end L2
set_option maxRecDepth 100000
set_option maxHeartbeats 4000000
namespace L2
open PySem PySem.Spec PyProof.Rows
section
variable {X : Cx} {E : XK} {Γ : List Cl} {e : Expr} {t : Tn → R D} {c : Rc} {pos p2 : Pos}
end
end L2
set_option maxRecDepth 100000
set_option maxHeartbeats 4000000
namespace L2
open PySem PySem.Spec PyProof.Rows
section
variable {X : Cx}
end
end L2
set_option maxRecDepth 100000
set_option maxHeartbeats 4000000
namespace L2
open PySem PySem.Spec PyProof.Rows
section
variable {X : Cx} {tg : Expr}
end
section
variable {X : Cx} {E : XK} {Γ : List Cl} {tg : Expr} {u : Tn → R (List D)} {c : Rc} {p pos : Pos}
end
end L2
set_option maxRecDepth 100000
set_option maxHeartbeats 4000000
namespace L2
open PySem PySem.Spec PyProof.Rows
end L2
set_option maxRecDepth 100000
set_option maxHeartbeats 4000000
namespace L2
open PySem PySem.Spec PyProof.Rows
end L2
set_option maxRecDepth 100000
set_option maxHeartbeats 4000000
namespace L2
open PySem PySem.Spec PyProof.Rows
section
variable {X : Cx}
end
end L2
set_option maxRecDepth 100000
set_option maxHeartbeats 4000000
namespace L2
open PySem PySem.Spec PyProof.Rows
def eSm (g : Str → List D → R D) (t : Tn → R D) (u : Tn → R (List D)) : Tn → R D := fun τ => (t τ).bind fun d => match d with
  | .str z => (u τ).bind fun ds => g z ds
  | _ => .bad
def SmB (K : PySem.W.Frag) (r : V → List V → Hp → VK → Prop) (g : Str → List D → R D) : Prop :=
  ∀ H z xs ds L (Q : VK), Reps K H ds xs L → (∃ d, g z ds = .ok d ∧ ∀ v H' L', Same H H' → Rep K H' d v L' → L'.Nodup → (∀ a ∈ L', H a = none) → Q v H') → r (.str z) xs H Q
section
variable {X : Cx} {E : XK} {Γ : List Cl} {o e : Expr} {es : List Expr} {t : Tn → R D} {u : Tn → R (List D)} {c ca : Rc} {name : Str} {apos cpos : Pos} {id : String}
theorem me_sm {r : V → List V → Hp → VK → Prop} {g : Str → List D → R D} (pa : PlainAttrs "str") (slot : Slot "str" name id) (hty : typeOf (.builtin id) = pure (.type "method_descriptor")) (hm : MtR X id r) (hB : SmB X.K r g) (hn : ∀ z, NoErrL (g z)) (ho : ME X E Γ o t c) (ha : MA X E Γ (e :: es) u ca)
    (hbase : attributeBase o name X.env (eval o X.env) = eval o X.env := by rfl)
    (hfew : ((backTo cpos (starEach (e :: es) X.env)).all (fun x => !x.1) && (backToKw cpos (keywordEach [] X.env)).all (fun x => x.1.isSome)
      && decide ((e :: es).length + ([] : List Keyword).length + (if ([] : List Keyword).isEmpty then 0 else 1) < 30)) = true := by rfl)
    (hline : (apos.endLine == cpos.line) = true := by rfl) (hs : starEach (e :: es) X.env = (false, eval e X.env) :: starEach es X.env := by rfl) (hplain : (backTo cpos (starEach es X.env)).any (·.1) = false := by rfl) :
    ME X E Γ (.Call (.Attribute o name apos) (e :: es) [] cpos) (eSm g t u) .fresh := by
  obtain ⟨te, p, q⟩ := ho
  obtain ⟨_, ta', p', q'⟩ := ha
  refine ⟨_, pe_bm pa slot hty hm p p' hbase hfew hline hs hplain, fun O σ H τ Q ok h => ?_⟩
  unfold eSm at h
  refine q O σ H τ _ ok (post.bind h fun d hd h x H1 L1 s1 r1 _ => ?_)
  cases d with
  | str z =>
    obtain ⟨rfl, _⟩ := r1
    refine ⟨rfl, q' O σ H1 τ _ (ok.same s1) ?_⟩
    dsimp only at h
    cases hu : u τ with
    | ok ds =>
      rw [hu, R.ok_bind] at h
      refine fun vs H2 L s2 r2 _ => ?_
      cases hg : g z ds with
      | ok d =>
        rw [hg] at h
        exact hB H2 z vs ds L Q r2 ⟨d, hg, fun v H' L s r n1 n2 => h v H' L ((s1.trans s2).trans s) r ⟨n1, fun a ha => (s1.trans s2).non (n2 a ha)⟩⟩
      | err n => exact absurd hg (hn _ _ _)
      | bad => rw [hg] at h; exact h.elim
    | err n => rw [hu] at h; exact fun C H' e s' => h C H' e (s1.trans s')
    | bad => rw [hu] at h; exact h
  | _ => exact h.elim
end
def strsOf : List D → Option (List Str)
  | [] => some []
  | .str b :: ds => (strsOf ds).map (b :: ·)
  | _ => none
theorem strsOf_vals {K : PySem.W.Frag} {H : Hp} : ∀ {ds : List D} {bs : List Str} {vs : List V} {L : List Addr}, Reps K H ds vs L → strsOf ds = some bs → vs = bs.map V.str
  | [], bs, _, _, hq4, h => by
    obtain ⟨e, _⟩ := hq4
    cases h; exact e
  | .str b :: ds, bs, _, _, hq4, h => by
    obtain ⟨v, vs', L1, L2, e1, e2, r1, r2⟩ := hq4
    unfold strsOf at h
    cases hb : strsOf ds with
    | none => rw [hb] at h; cases h
    | some cs =>
      rw [hb] at h
      cases h
      rw [e1, r1.1, strsOf_vals r2 hb]
      rfl
  | .non :: _, _, _, _, _, h => by cases h
  | .int _ :: _, _, _, _, _, h => by cases h
  | .bl _ :: _, _, _, _, _, h => by cases h
  | .tup _ :: _, _, _, _, _, h => by cases h
  | .lst _ :: _, _, _, _, _, h => by cases h
  | .dic _ _ :: _, _, _, _, _, h => by cases h
  | .frl _ :: _, _, _, _, _, h => by cases h
theorem vals_strs : ∀ {ys : List Str} {us : List Value}, Vals (ys.map V.str) us → StrsAre us ys
  | [], us, r => by cases r; exact .nil
  | y :: ys, _, r => by
    rw [List.map_cons] at r
    cases r with
    | cons r1 r2 =>
      obtain ⟨t, rfl⟩ := r1
      exact .cons y t (vals_strs r2)
def rJoin (K : PySem.W.Frag) : V → List V → Hp → VK → Prop := fun x xs H Q => ∃ z p ys, x = .str z ∧ xs = [.ref p] ∧ (SqL K H p (ys.map V.str) ∨ SqT K H p (ys.map V.str)) ∧ (ys.map (·.length)).sum + ys.length * z.length ≤ 16777216 ∧ Q (.str (Txt.join z ys)) H
theorem mt_joinL {X : Cx} : MtR X "str.join" (rJoin X.K) := by
  intro pins s σ H x xs v us Q I rx rs h
  obtain ⟨z, p, ys, rfl, rfl, hq, hz, q⟩ := h
  obtain ⟨t, rfl⟩ := rx
  obtain ⟨u, rfl, ru⟩ := vals1 rs
  obtain rfl : u = Value.ref p := ru
  rcases hq with hq | hq
  · obtain ⟨its, r, pl, _⟩ := I.list hq
    exact join_list pl.isList (by simpa using vals_strs r) hz fun t' k => ⟨.str (Txt.join z ys), H, I.tok _, ⟨t', rfl⟩, q⟩
  · obtain ⟨its, r, pl, _⟩ := I.tuple hq
    exact join_tuple pl (by simpa using vals_strs r) hz fun t' k => ⟨.str (Txt.join z ys), H, I.tok _, ⟨t', rfl⟩, q⟩
def joinD (z : Str) : List D → R D
  | [.lst ds] => match strsOf ds with
    | some ys => if (ys.map (·.length)).sum + ys.length * z.length ≤ 16777216 then .ok (.str (Txt.join z ys)) else .bad
    | none => .bad
  | [.tup ds] => match strsOf ds with
    | some ys => if (ys.map (·.length)).sum + ys.length * z.length ≤ 16777216 then .ok (.str (Txt.join z ys)) else .bad
    | none => .bad
  | _ => .bad
theorem N_join (z : Str) : NoErrL (joinD z) := fun ds n h => by
  unfold joinD at h
  split at h
  · split at h
    · split at h <;> cases h
    · cases h
  · split at h
    · split at h <;> cases h
    · cases h
  · cases h
theorem B_join {K : PySem.W.Frag} : SmB K (rJoin K) joinD := by
  rintro H z xs ds L Q r ⟨d, hg, q⟩
  unfold joinD at hg
  split at hg
  · split at hg
    · rename_i ds ys hn
      split at hg
      · rename_i hz
        cases hg
        obtain ⟨v, rfl, a, vs, L', rfl, ha, _, rs⟩ := reps1 r
        exact ⟨z, a, ys, rfl, rfl, .inl (by rw [← strsOf_vals rs hn]; exact SqL.of ha), hz, q _ H [] (Same.refl H) ⟨rfl, rfl⟩ (by simp) (fun a ha => nomatch ha)⟩
      · cases hg
    · cases hg
  · split at hg
    · rename_i ds ys hn
      split at hg
      · rename_i hz
        cases hg
        obtain ⟨v, rfl, a, vs, rfl, ha, rs⟩ := reps1 r
        exact ⟨z, a, ys, rfl, rfl, .inr (by rw [← strsOf_vals rs hn]; exact ha), hz, q _ H [] (Same.refl H) ⟨rfl, rfl⟩ (by simp) (fun a ha => nomatch ha)⟩
      · cases hg
    · cases hg
  · cases hg
end L2
set_option maxRecDepth 100000
set_option maxHeartbeats 4000000
namespace L2
open PySem PySem.Spec PyProof.Rows
theorem TupN.push {h : Heap} {a : Addr} {items : Array Value} (x : TupN h a items) (o : Obj) : TupN (h.push o) a items := let ⟨o', ho, r⟩ := x; ⟨o', Heap.get?_push_of_some o ho, r⟩
theorem TupN.at {h h' : Heap} {a : Addr} {items : Array Value} (x : TupN h a items) (k : ∀ b o, h.get? b = some o → h'.get? b = some o) : TupN h' a items := let ⟨o', ho, r⟩ := x; ⟨o', k _ _ ho, r⟩
def PairsAt (P : Program) (w : World) (h : Heap) : List Value → List (Key × Value) → Prop := Paired fun (v : Value) (p : Key × Value) => ∃ b key, v = .ref b ∧ h.IsTuple b #[key, p.2] ∧ (mixKind P w).is p.1 key = true
theorem PairsAt.get {P : Program} {w : World} {h : Heap} : ∀ {its : List Value} {ps : List (Key × Value)} {i : Nat}, PairsAt P w h its ps → i < its.length → ∃ b key p, its[i]? = some (.ref b) ∧ ps[i]? = some p ∧ h.IsTuple b #[key, p.2] ∧ (mixKind P w).is p.1 key = true
  | _, _, i, .nil, hi => by simp at hi
  | _, _, 0, .cons (a := v) (b := p) r t, _ => by
    obtain ⟨b, key, e, x, y⟩ := r
    exact ⟨b, key, p, by rw [e]; rfl, rfl, x, y⟩
  | _, _, i + 1, .cons r t, hi => by
    obtain ⟨b, key, p, e, e2, x, y⟩ := PairsAt.get (i := i) t (by simpa using hi)
    exact ⟨b, key, p, by simpa using e, by simpa using e2, x, y⟩
section
variable {prog : Program} {w : World} {A : Around} {R : Result → Shared → Prop}
end
section
variable {prog : Program} {w : World} {A : Around} {E : Value → Shared → Prop} {s : Shared}
end
end L2
set_option maxRecDepth 100000
set_option maxHeartbeats 4000000
namespace L2
open PySem PySem.Spec PyProof.Rows
def replL {β : Type} : List Key → List β → Key → β → List β
  | k' :: ks, x :: xs, k, y => (if k' = k then y else x) :: replL ks xs k y
  | _, _, _, _ => []
section
variable {K : PySem.W.Frag} {H : Hp}
theorem Reps.repl {k : Key} {d : D} {v : V} (rd : Rep K H d v []) : ∀ {ks : List Key} {ds : List D} {vs : List V} {L : List Addr}, Reps K H ds vs L → ks.length = ds.length → ∃ L2, Reps K H (replL ks ds k d) (replL ks vs k v) L2 ∧ List.Sublist L2 L
  | [], [], _, _, hq4, _ => by
    obtain ⟨e1, e2⟩ := hq4
    exact ⟨[], by subst e1; exact Reps.nil, List.nil_sublist _⟩
  | [], _ :: _, _, _, _, h => by cases h
  | _ :: _, [], _, _, _, h => by cases h
  | k' :: ks, d' :: ds, _, _, hq4, h => by
    obtain ⟨v', vs', L1, L2, e1, e2, h1, h2⟩ := hq4
    subst e1 e2
    obtain ⟨L3, a, b⟩ := Reps.repl (ks := ks) rd h2 (by simpa using h)
    by_cases e : k' = k
    · refine ⟨[] ++ L3, ?_, ?_⟩
      · show Reps K H ((if k' = k then d else d') :: replL ks ds k d) ((if k' = k then v else v') :: replL ks vs' k v) _
        rw [if_pos e, if_pos e]
        exact Reps.cons rd a
      · exact b.trans (List.sublist_append_right _ _)
    · refine ⟨L1 ++ L3, ?_, List.Sublist.append (List.Sublist.refl _) b⟩
      show Reps K H ((if k' = k then d else d') :: replL ks ds k d) ((if k' = k then v else v') :: replL ks vs' k v) _
      rw [if_neg e, if_neg e]
      exact Reps.cons h1 a
end
section
variable {X : Cx} {E : XK} {Γ Γ1 Γ' Γl : List Cl} {e a b o f : Expr} {es : List Expr} {t t' u v : Tn → R D} {c ca cb : Rc} {pos : Pos}
end
end L2
set_option maxRecDepth 100000
set_option maxHeartbeats 4000000
namespace L2
open PySem PySem.Spec PyProof.Rows
section
variable {X : Cx}
end
section
variable {X : Cx} {E : XK} {Γ : List Cl} {u : Tn → R (List D)} {c : Rc} {p pos : Pos}
end
end L2
set_option maxRecDepth 100000
set_option maxHeartbeats 4000000
namespace L2
open PySem PySem.Spec PyProof.Rows
def smD (g : Str → List D → R D) (u : Tn → R (List D)) (τ : Tn) : D → R D
  | .str z => (u τ).bind fun ds => g z ds
  | _ => .bad
theorem ev_eSm {g : Str → List D → R D} {t : Tn → R D} {u : Tn → R (List D)} {τ : Tn} : eSm g t u τ = (t τ).bind (smD g u τ) := by
  unfold eSm
  congr 1
theorem ev_smD {g : Str → List D → R D} {u : Tn → R (List D)} {τ : Tn} {z : Str} : smD g u τ (.str z) = (u τ).bind fun ds => g z ds := rfl
theorem strsOf_map : ∀ ys : List Str, strsOf (ys.map D.str) = some ys
  | [] => rfl
  | y :: ys => by rw [List.map_cons]; show (strsOf (ys.map D.str)).map (y :: ·) = _; rw [strsOf_map ys]; rfl
theorem ev_joinD {z : Str} {ys : List Str} (h : (ys.map (·.length)).sum + ys.length * z.length ≤ 16777216) : joinD z [.lst (ys.map D.str)] = .ok (.str (Str.join z ys)) := by
  have e : Txt.join z ys = Str.join z ys := eq_of_beq (join_plain_closes z ys)
  simp only [joinD, strsOf_map, if_pos h, e]
theorem app_cps (x y : Str) : (x ++ y).cps.toList = x.cps.toList ++ y.cps.toList := by
  show (x.cps ++ y.cps).toList = _
  simp
end L2
set_option maxRecDepth 100000
set_option maxHeartbeats 4000000
namespace L2
open PySem PySem.Spec PyProof.Rows
section
variable {prog : Program} {w : World} {A : Around} {R : Result → Shared → Prop}
end
section
variable {prog : Program} {w : World} {A : Around} {E : Value → Shared → Prop} {s : Shared}
end
section
variable {X : Cx} {E : XK} {Γ : List Cl} {e f : Expr} {t u : Tn → R D} {ca cb : Rc} {p pos kp : Pos} {te tf : TE}
end
end L2
set_option maxRecDepth 100000
set_option maxHeartbeats 4000000
namespace L2
open PySem PySem.Spec PyProof.Rows
end L2
set_option maxRecDepth 100000
set_option maxHeartbeats 4000000
namespace L2
open PySem PySem.Spec PyProof.Rows
section
open PySem.SeqAt PySem.MeetsSeq3
open PySem.AutoSeq1 (wpAny_loadPart')
end
end L2
set_option maxRecDepth 100000
set_option maxHeartbeats 4000000
namespace L2
open PySem PySem.Spec PyProof.Rows
section
variable {X : Cx} {E : XK} {Γ Γ1 Γ' Γl : List Cl} {e : Expr} {t : Tn → R D} {pos : Pos}
end
end L2
set_option maxRecDepth 100000
set_option maxHeartbeats 4000000
namespace L2
open PySem PySem.Spec PyProof.Rows
section
open PySem.SeqAt PySem.MeetsSeq3
open PySem.AutoSeq1 (wpAny_loadPart')
end
section
variable {X : Cx} {pins : List (Addr × Obj)} {σ : St} {H : Hp} {s : Shared}
end
end L2
set_option maxRecDepth 100000
set_option maxHeartbeats 4000000
namespace L2
open PySem PySem.Spec PyProof.Rows
structure Src (P : Program) (w : World) (i l : Addr) (xs : Array Value) (st : Nat → Heap → Prop) : Prop where
  keep : ∀ k h h', st k h → (∀ b, b = i ∨ b = l → ∀ o, h.get? b = some o → h'.get? b = some o) → st k h'
  obj : ∀ k h, st k h → ∃ o vs, h.get? i = some o ∧ o.data = .fields vs
  item : ∀ (A : Around) (k : Nat) (s : Shared) (Q : Value → Shared → Prop) (E : Value → Shared → Prop) (x : Value), st k s.heap → xs[k]? = some x → (∀ h', st (k + 1) h' → Heap.SameBut i s.heap h' → Q x { s with heap := h' }) → wpAny (model P w) A (Builtin.SmallTypes.nextOf (.ref i)) Q E s
  stop : ∀ (A : Around) (k : Nat) (s : Shared) (Q : Value → Shared → Prop) (E : Value → Shared → Prop), A.handled = none → st k s.heap → xs[k]? = none → (∀ h' e, Heap.ExtBut i s.heap h' → (∃ o, h'.get? e = some o ∧ o.cls = .type "StopIteration") → E (.ref e) { s with heap := h' }) → wpAny (model P w) A (Builtin.SmallTypes.nextOf (.ref i)) Q E s
section
variable {prog : Program} {w : World} {A : Around} {E : Value → Shared → Prop} {s : Shared}
end
section
variable {prog : Program} {w : World} {A : Around} {E : Value → Shared → Prop} {s : Shared}
variable {z TI TO i1 i2 l1 l2 : Addr} {k : Nat} {xs ys : Array Value} {st1 st2 : Nat → Heap → Prop} {a b : Value}
structure ZSt (z TI TO i1 i2 : Addr) (st1 st2 : Nat → Heap → Prop) (f0 : Value) (k1 k2 : Nat) (h : Heap) : Prop where
  z : IsZip h z TI TO f0
  ti : IsPair h TI (.ref i1) (.ref i2)
  to' : ∃ a b, IsPair h TO a b
  s1 : st1 k1 h
  s2 : st2 k2 h
theorem ZSt.keep {f0 : Value} {k1 k2 : Nat} {h h' : Heap} (D : ZipApart z TI TO i1 i2 l1 l2) (S1 : Src prog w i1 l1 xs st1) (S2 : Src prog w i2 l2 ys st2) (S : ZSt z TI TO i1 i2 st1 st2 f0 k1 k2 h) (e : ∀ c o, h.get? c = some o → h'.get? c = some o) : ZSt z TI TO i1 i2 st1 st2 f0 k1 k2 h' :=
  ⟨e _ _ S.z, e _ _ S.ti, let ⟨a, b, q⟩ := S.to'; ⟨a, b, e _ _ q⟩, S1.keep _ _ _ S.s1 fun c _ o => e c o, S2.keep _ _ _ S.s2 fun c _ o => e c o⟩
end
end L2
set_option maxRecDepth 100000
set_option maxHeartbeats 4000000
namespace L2
open PySem PySem.Spec PyProof.Rows
def IIt : Bool → Heap → Addr → Addr → Nat → Prop
  | true, h, i, l, k => h.IsTupleIter i l k
  | false, h, i, l, k => h.IsListIter i l k
def ISq : Bool → Heap → Addr → Array Value → Prop
  | true, h, l, xs => h.IsTuple l xs
  | false, h, l, xs => h.IsList l xs
theorem IIt.at {t : Bool} {h h' : Heap} {i l : Addr} {k : Nat} (x : IIt t h i l k) (e : ∀ o, h.get? i = some o → h'.get? i = some o) : IIt t h' i l k := by
  cases t
  · exact Heap.IsListIter.at (h := h) x e
  · exact Heap.IsTupleIter.at (h := h) x e
theorem IIt.obj {t : Bool} {h : Heap} {i l : Addr} {k : Nat} (x : IIt t h i l k) : ∃ o vs, h.get? i = some o ∧ o.data = .fields vs := by
  cases t
  · obtain ⟨o, a, _, b⟩ := (show h.IsListIter i l k from x); exact ⟨o, _, a, b⟩
  · obtain ⟨o, a, _, b⟩ := (show h.IsTupleIter i l k from x); exact ⟨o, _, a, b⟩
def Sq (t : Bool) (K : PySem.W.Frag) (H : Hp) (a : Addr) (xs : List V) : Prop := if t = true then SqT K H a xs else SqL K H a xs
section
variable {X : Cx} {pins : List (Addr × Obj)} {σ : St} {H : Hp} {s : Shared} {a : Addr} {xs ys : List V} {h' : Heap}
theorem Inv.sq {t : Bool} (I : Inv X pins σ H s) (h : Sq t X.K H a xs) : ∃ its : List Value, Vals xs its ∧ ISq t s.heap a its.toArray ∧ xs.length ≤ sizeLine := by
  cases t
  · obtain ⟨its, r, p, z⟩ := I.list (show SqL X.K H a xs from h)
    exact ⟨its, r, p.isList, z⟩
  · obtain ⟨its, r, p, z⟩ := I.tuple (show SqT X.K H a xs from h)
    exact ⟨its, r, p, z⟩
end
def Itz (K : PySem.W.Frag) (t1 t2 : Bool) (a b : Addr) : It :=
  ⟨fun i H => ∃ xs ys x y, Sq t1 K H a xs ∧ Sq t2 K H b ys ∧ xs[i]? = some x ∧ ys[i]? = some y,
   fun i H v H' => ∃ p x y, H p = none ∧ v = .ref p ∧ H' = upd H p (.tup [x, y]) ∧ ∀ xs ys, Sq t1 K H a xs → Sq t2 K H b ys → xs[i]? = some x ∧ ys[i]? = some y,
   fun i H => ∃ xs ys, Sq t1 K H a xs ∧ Sq t2 K H b ys ∧ (xs.length ≤ i ∨ ys.length ≤ i)⟩
end L2
set_option maxRecDepth 100000
set_option maxHeartbeats 4000000
namespace L2
open PySem PySem.Spec PyProof.Rows
section
variable {prog : Program} {w : World} {A : Around} {E : Value → Shared → Prop} {s : Shared}
end
section
variable {X : Cx}
end
def zipGo (ds es : List D) : List D := (ds.zip es).map fun p => .tup [p.1, p.2]
theorem zipGo_get {ds es : List D} {i : Nat} {d : D} (h : (zipGo ds es)[i]? = some d) : ∃ x y, ds[i]? = some x ∧ es[i]? = some y ∧ d = .tup [x, y] := by
  unfold zipGo at h
  rw [List.getElem?_map] at h
  cases hz : (ds.zip es)[i]? with
  | none => rw [hz] at h; cases h
  | some p =>
    rw [hz] at h
    obtain ⟨h1, h2⟩ := List.getElem?_zip_eq_some.mp hz
    exact ⟨p.1, p.2, h1, h2, (Option.some.inj h).symm⟩
theorem zipGo_len (ds es : List D) : (zipGo ds es).length = min ds.length es.length := by unfold zipGo; rw [List.length_map, List.length_zip]
theorem ItOk.zip {K : PySem.W.Frag} {H : Hp} {t : Bool} {a b : Addr} {vs ws : List V} {ds es : List D} {L1 L1' L2 L2' : List Addr} (ha : ∀ H', TF H H' → (∀ c ∈ L1, H' c = H c) → Sq t K H' a vs) (h1 : Reps K H ds vs L1') (s1 : ∀ c ∈ L1', c ∈ L1) (d1 : ∀ c ∈ L1, H c ≠ none) (hb : H b = some (.lst ws)) (e2 : L2 = b :: L2') (h2 : Reps K H es ws L2') :
    ItOk K (Itz K t false a b) (zipGo ds es) (L1 ++ L2) H := by
  subst e2
  refine ⟨fun c hc => ?_, fun H' tf kp i => ⟨fun d hd => ?_, fun hl => ?_⟩⟩
  · rcases List.mem_append.mp hc with z | z
    · exact d1 c z
    · rcases List.mem_cons.mp z with z | z
      · rw [z, hb]; simp
      · exact h2.there z
  · have ha' := ha H' tf fun c hc => kp c (List.mem_append_left _ hc)
    have hb' : H' b = some (.lst ws) := (kp b (List.mem_append_right _ List.mem_cons_self)).trans hb
    obtain ⟨x, y, hx, hy, rfl⟩ := zipGo_get hd
    obtain ⟨v, M1, e1, r1, u1⟩ := h1.get hx
    obtain ⟨w, M2, e2, r2, u2⟩ := h2.get hy
    refine ⟨⟨vs, ws, v, w, ha', SqL.of hb', e1, e2⟩, fun z H'' ⟨p, x', y', hp, z1, z2, hq⟩ => ?_⟩
    subst z1 z2
    obtain ⟨q1, q2⟩ := hq vs ws ha' (SqL.of hb')
    rw [e1] at q1
    cases q1
    rw [e2] at q2
    cases q2
    have r1' : Rep K H' x v M1 := Rep.keep tf x _ M1 r1 fun c hc => kp c (List.mem_append_left _ (s1 c (u1.subset hc)))
    have r2' : Rep K H' y w M2 := Rep.keep tf y _ M2 r2 fun c hc => kp c (List.mem_append_right _ (List.mem_cons_of_mem _ (u2.subset hc)))
    refine ⟨Same.new hp, M1 ++ (M2 ++ []), ⟨p, _, rfl, SqT.of upd_same, ?_⟩, fun c hc => ?_⟩
    · exact Reps.cons (r1'.same (Same.new hp)) (Reps.cons (r2'.same (Same.new hp)) Reps.nil)
    · rw [List.append_nil] at hc
      rcases List.mem_append.mp hc with z | z
      · exact List.mem_append_left _ (s1 c (u1.subset z))
      · exact List.mem_append_right _ (List.mem_cons_of_mem _ (u2.subset z))
  · have ha' := ha H' tf fun c hc => kp c (List.mem_append_left _ hc)
    have hb' : H' b = some (.lst ws) := (kp b (List.mem_append_right _ List.mem_cons_self)).trans hb
    rw [zipGo_len] at hl
    have k1 := h1.length
    have k2 := h2.length
    refine ⟨vs, ws, ha', SqL.of hb', ?_⟩
    by_cases hc : vs.length ≤ i
    · exact .inl hc
    · exact .inr (by omega)
section
variable {X : Cx} {E : XK} {Γ : List Cl} {u : Tn → R (List D)} {c : Rc} {p pos : Pos}
end
end L2
set_option maxRecDepth 100000
set_option maxHeartbeats 4000000
namespace L2
open PySem PySem.Spec PyProof.Rows
section
variable {prog : Program} {w : World} {A : Around} {E : Value → Shared → Prop} {s : Shared}
end
section
variable {X : Cx} {E : XK} {Γ : List Cl} {e : Expr} {t : Tn → R D} {c : Rc} {p2 pos : Pos}
end
section
variable {X : Cx} {E : XK} {Γ Γl : List Cl} {pos : Pos}
end
end L2
set_option maxRecDepth 100000
set_option maxHeartbeats 4000000
namespace L2
open PySem PySem.Spec PyProof.Rows
end L2
set_option maxRecDepth 100000
set_option maxHeartbeats 4000000
namespace L2
open PySem PySem.Spec PyProof.Rows
def Suite (X : Cx) (CS : Addr) (i : Nat) (sts : List Stmt) (g : Str → Option D) : Prop := ∀ (m : Str) (d : D), g m = some d → ∀ C, ErrC X.K m C → PySem.W.exmOne X.K (.ref C) (.ref CS) = some true ∧
  ∃ ts : Addr → Obj → TS, (∀ e oe, PSs (X.within e oe) sts (ts e oe)) ∧ ∀ e oe (Z : Ends) (σ : St) (H : Hp), σ.length = X.N.length → oe.cls = .ref C → H e = none → σ[i]? = some (some (.ref e)) → (∀ v H', Same H H' → Rep X.K H' d v [] → Z.rt v H') → ts e oe Z σ H
noncomputable def Suite.ts {X : Cx} {CS : Addr} {i : Nat} {sts : List Stmt} {g : Str → Option D} (hs : Suite X CS i sts g) (e : Addr) (oe : Obj) : TS := fun Z σ H => ∃ (m : Str) (d : L2.D) (hg : g m = some d) (C : Addr) (hC : ErrC X.K m C), Classical.choose (hs m d hg C hC).2 e oe Z σ H
section
variable {X : Cx} {E : XK} {Γ Γl Γ' : List Cl} {k : Nat} {CS : Addr} {ps : List Str} {F : List D → R D} {nA : Nat} {x xc n : Str} {p pos pos' pc hpos tpos : Pos} {e : Expr} {es : List Expr} {u : Tn → R (List D)} {c : Rc} {i : Nat} {b₀ : Stmt} {suite : List Stmt} {g : Str → Option D}
end
end L2
set_option maxRecDepth 100000
set_option maxHeartbeats 4000000
namespace L2
open PySem PySem.Spec PyProof.Rows
inductive ClVs : List V → List Value → Prop where
  | nil : ClVs [] []
  | cons {c : V} {u : Value} {cs : List V} {us : List Value} (h : ClV c u) (t : ClVs cs us) : ClVs (c :: cs) (u :: us)
theorem ClVs.vals : ∀ {cs : List V} {us its : List Value}, ClVs cs us → Vals cs its → its = us
  | _, _, _, .nil, .nil => rfl
  | _, _, _, .cons h t, .cons r rs => by
    rw [ClVs.vals t rs]
    congr 1
    cases h with
    | ref a => exact r
    | ty n => exact r
section
variable {X : Cx} {E : XK} {Γ Γl : List Cl} {pos : Pos}
end
end L2
set_option maxRecDepth 100000
set_option maxHeartbeats 4000000
namespace L2
open PySem PySem.Spec PyProof.Rows
section
variable {X : Cx} {E : XK} {Γ Γl Γ' : List Cl} {k : Nat} {ps : List Str} {F : List D → R D} {nA : Nat} {x xc n : Str} {p pos pos' pc hpos tpos : Pos} {e : Expr} {es : List Expr} {u : Tn → R (List D)} {c : Rc} {i : Nat} {b₀ : Stmt} {suite : List Stmt} {g : Str → Option D}
end
end L2
set_option maxRecDepth 100000
set_option maxHeartbeats 4000000
namespace L2
open PySem PySem.Spec PyProof.Rows
structure CompScopeC (X : Cx) (xc : Str) (N' : List Str) (fr : List (Option Nat)) (scope : Scope) : Prop where
  kind : scope.kind = .function
  one : ∃ pre post, scope.names = pre ++ (xc, NameKind.cell) :: post ∧ ∀ y ∈ pre ++ post, y.2 ≠ .cell
  nox : ∀ y ∈ scope.names, y.1 = xc → y.2 = .cell
  loc : ∀ y ∈ scope.names, y.2 = .local → scope.names.lookup y.1 = some .local
  free : ∀ y ∈ scope.names, y.2 = .free → ∃ c, X.env.cells.lookup y.1 = some c
  len : fr.length = N'.length
  fre : ∀ (j i : Nat) (x : Str), fr[j]? = some (some i) → N'[j]? = some x → X.N[i]? = some x ∧ scope.names.lookup x = some .free ∧ (X.env.kindOf x = some .cell ∨ X.env.kindOf x = some .free)
section
variable {X : Cx} {pins : List (Addr × Obj)} {σ : St} {H : Hp} {s : Shared} {xc : Str} {N' : List Str} {fr : List (Option Nat)} {scope : Scope} {fp : List Addr}
end
section
variable {X : Cx} {pins : List (Addr × Obj)} {σ τ : St} {H H₃ H5 : Hp} {s₃ s5 : Shared} {xc : Str} {N' : List Str} {scope : Scope} {fp : List Addr}
end
end L2
set_option maxRecDepth 100000
set_option maxHeartbeats 4000000
namespace L2
open PySem PySem.Spec PyProof.Rows
section
variable {X : Cx} {E : XK} {Γ : List Cl} {pos : Pos}
end
theorem lenS {α : Type} {us : List α} {n : Nat} (h : us.length = n + 1) : ∃ a t, us = a :: t ∧ t.length = n := by
  cases us with
  | nil => cases h
  | cons a t => exact ⟨a, t, rfl, Nat.succ.inj h⟩
theorem len0 {α : Type} {us : List α} (h : us.length = 0) : us = [] := List.length_eq_zero_iff.mp h
theorem bd1 {α : Type} {P : List α → Prop} (h : ∀ a, P [a]) : ∀ us : List α, us.length = 1 → P us := fun us hl => by
  obtain ⟨a, t, rfl, h1⟩ := lenS hl
  cases len0 h1
  exact h a
theorem bd2 {α : Type} {P : List α → Prop} (h : ∀ a b, P [a, b]) : ∀ us : List α, us.length = 2 → P us := fun us hl => by
  obtain ⟨a, t, rfl, h1⟩ := lenS hl
  exact bd1 (P := fun t => P (a :: t)) (h a) t h1
theorem bd3 {α : Type} {P : List α → Prop} (h : ∀ a b c, P [a, b, c]) : ∀ us : List α, us.length = 3 → P us := fun us hl => by
  obtain ⟨a, t, rfl, h1⟩ := lenS hl
  exact bd2 (P := fun t => P (a :: t)) (h a) t h1
end L2
set_option maxRecDepth 100000
set_option maxHeartbeats 4000000
namespace L2
open PySem PySem.Spec PyProof.Rows
end L2
set_option maxRecDepth 100000
set_option maxHeartbeats 4000000
namespace L2
open PySem PySem.Spec PyProof.Rows
section
variable {X : Cx} {E : XK} {Γ Γl : List Cl} {x1 x2 xr d nm : Str} {F1 F2 : List D → R D} {es : List Expr} {u : Tn → R (List D)} {c : Rc} {i k n : Nat} {f1 f2 : Addr} {ps : List Str} {p1 p2 p3 p4 p5 p6 p7 p8 p9 p10 p11 p12 : Pos} {ct : Nat} {jj : _}
end
end L2
set_option maxRecDepth 100000
set_option maxHeartbeats 4000000
namespace L2
open PySem PySem.Spec PyProof.Rows
section
variable {K : PySem.W.Frag} {Γ : List Cl} {B H : Hp} {σ : St} {τ : Tn} {T T' : List Addr}
end
end L2
set_option maxRecDepth 100000
set_option maxHeartbeats 4000000
namespace L2
open PySem PySem.Spec PyProof.Rows
section
variable {P : Program} {w : World} {K : PySem.W.Frag} {mg : Str → Option Value} {base : Heap} {x : Str} {st : Stmt} {N ps : List Str} {k : Nat} {t : Tn → R Fl} {Γ' : List Cl}
end
section
variable {K : PySem.W.Frag} {pn : List (Addr × Obj)} {σ : St} {H : Hp} {Q : VK} {e : Addr} {oe : Obj} {C : Addr}
end
end L2
set_option maxRecDepth 100000
set_option maxHeartbeats 4000000
namespace L2
open PySem PySem.Spec PyProof.Rows
section
variable {X : Cx} {E : XK} {Γ Γ1 Γ2 Γa Γb Γl Γ' : List Cl} {pos : Pos}
end
theorem at_of {K : PySem.W.Frag} {H : Hp} {d : D} : ∀ {ds : List D} {vs : List V} {L : List Addr} {k : Nat}, Reps K H ds vs L → ds[k]? = some d → L.Nodup → ∃ v Ld, vs[k]? = some v ∧ Rep K H d v Ld ∧ Ld.Nodup ∧ (∀ a ∈ Ld, a ∈ L) ∧
    ∀ (H2 : Hp) (d2 : D) (L2 : List Addr), TF H H2 → (∀ b, b ∉ Ld → H b ≠ none → H2 b = H b) → Rep K H2 d2 v L2 → (∀ a ∈ L2, a ∈ Ld) → L2.Nodup → ∃ L', Reps K H2 (ds.set k d2) vs L' ∧ (∀ a ∈ L', a ∈ L) ∧ L'.Nodup
  | [], _, _, k, _, h, _ => by cases k <;> cases h
  | e :: ds, _, _, 0, hq, h, nd => by
    obtain ⟨v, vs', L1, L2, e1, e2, r1, r2⟩ := hq
    subst e1 e2
    cases h
    obtain ⟨n1, n2, n3⟩ := List.nodup_append.mp nd
    refine ⟨v, L1, rfl, r1, n1, fun a ha => List.mem_append_left _ ha, fun H2 d2 L3 tf kp r3 sb nd3 => ⟨L3 ++ L2, ?_, fun a ha => ?_, ?_⟩⟩
    · exact ⟨v, vs', L3, L2, rfl, rfl, r3, Reps.keep tf ds vs' L2 r2 fun a ha => kp a (fun z => n3 a z a ha rfl) (r2.there ha)⟩
    · rcases List.mem_append.mp ha with z | z
      · exact List.mem_append_left _ (sb a z)
      · exact List.mem_append_right _ z
    · exact List.nodup_append.mpr ⟨nd3, n2, fun a ha b hb z => n3 a (sb a ha) b hb z⟩
  | e :: ds, _, _, k + 1, hq, h, nd => by
    obtain ⟨v, vs', L1, L2, e1, e2, r1, r2⟩ := hq
    subst e1 e2
    obtain ⟨n1, n2, n3⟩ := List.nodup_append.mp nd
    obtain ⟨w, Ld, g1, g2, g3, g4, g5⟩ := at_of (k := k) r2 (by simpa using h) n2
    refine ⟨w, Ld, by simpa using g1, g2, g3, fun a ha => List.mem_append_right _ (g4 a ha), fun H2 d2 L3 tf kp r3 sb nd3 => ?_⟩
    obtain ⟨L', q1, q2, q3⟩ := g5 H2 d2 L3 tf kp r3 sb nd3
    refine ⟨L1 ++ L', ?_, fun a ha => ?_, ?_⟩
    · exact ⟨v, vs', L1, L', rfl, rfl, Rep.keep tf e v L1 r1 fun a ha => kp a (fun z => n3 a ha a (g4 a z) rfl) (r1.there ha), q1⟩
    · rcases List.mem_append.mp ha with z | z
      · exact List.mem_append_left _ z
      · exact List.mem_append_right _ (q2 a z)
    · exact List.nodup_append.mpr ⟨n1, q3, fun a ha b hb z => n3 a ha b (q2 b hb) z⟩
theorem SOk.at {K : PySem.W.Frag} {Γ : List Cl} {B H : Hp} {σ : St} {τ : Tn} {i k : Nat} {ds : List D} {d : D} (h : SOk K Γ B H σ τ []) (e : Γ[i]? = some .own) (hτ : τ[i]? = some (some (.lst ds))) (hk : ds[k]? = some d) :
    ∃ a vs v Ld, σ[i]? = some (some (.ref a)) ∧ H a = some (.lst vs) ∧ vs[k]? = some v ∧ Rep K H d v Ld ∧ Ld.Nodup ∧ ∀ (H2 : Hp) (d2 : D) (L2 : List Addr), TF H H2 → (∀ b, b ∉ Ld → H b ≠ none → H2 b = H b) → Rep K H2 d2 v L2 → (∀ a ∈ L2, a ∈ Ld) → L2.Nodup → SOk K Γ B H2 σ (τ.set i (some (.lst (ds.set k d2)))) [] := by
  obtain ⟨v0, d0, L, e1, e2, r, nd, n2, fin⟩ := h.slot e
  rw [hτ] at e2
  cases e2
  obtain ⟨a, vs, L', rfl, ha, rfl, rs⟩ := r
  obtain ⟨m1, m2⟩ := List.nodup_cons.mp nd
  obtain ⟨v, Ld, g1, g2, g3, g4, g5⟩ := at_of rs hk m2
  refine ⟨a, vs, v, Ld, e1, ha, g1, g2, g3, fun H2 d2 L2 tf kp r2 sb nd2 => ?_⟩
  obtain ⟨L3, q1, q2, q3⟩ := g5 H2 d2 L2 tf kp r2 sb nd2
  have hal : a ∉ Ld := fun z => m1 (g4 a z)
  have ha2 : H2 a = some (.lst vs) := by rw [kp a hal (by rw [ha]; simp)]; exact ha
  refine fin H2 _ (a :: L3) [] [] rfl tf (fun b hb hn => kp b (fun z => hb (List.mem_cons_of_mem _ (g4 b z))) hn) ⟨a, vs, L3, rfl, ha2, rfl, q1⟩ (fun b hb => .inl ?_) (List.nodup_cons.mpr ⟨fun z => m1 (q2 a z), q3⟩)
  rcases List.mem_cons.mp hb with z | z
  · rw [z]; exact List.mem_cons_self
  · exact List.mem_cons_of_mem _ (q2 b z)
section
variable {X : Cx} {E : XK} {Γ Γl : List Cl} {pos : Pos} {e : Expr} {t : Tn → R D} {c : Rc}
end
end L2
set_option maxRecDepth 100000
set_option maxHeartbeats 4000000
namespace L2
open PySem PySem.Spec PyProof.Rows
section
open PySem.SeqAt PySem.MeetsSeq3
open PySem.AutoSeq1 (wpAny_loadPart')
end
end L2
set_option maxRecDepth 100000
set_option maxHeartbeats 4000000
namespace L2
open PySem PySem.Spec PyProof.Rows
section
variable {X : Cx} {E : XK} {Γ Γl : List Cl} {pos : Pos} {e : Expr} {t : Tn → R D} {c : Rc}
end
end L2
set_option maxRecDepth 100000
set_option maxHeartbeats 4000000
namespace L2
open PySem PySem.Spec PyProof.Rows
def eSm0 (g : Str → R D) (t : Tn → R D) : Tn → R D := fun τ => (t τ).bind fun d => match d with
  | .str z => g z
  | _ => .bad
section
variable {X : Cx} {E : XK} {Γ : List Cl} {o : Expr} {t : Tn → R D} {c : Rc} {apos cpos : Pos}
end
end L2
set_option maxRecDepth 100000
set_option maxHeartbeats 4000000
namespace L2
open PySem PySem.Spec PyProof.Rows
section
variable {X : Cx} {E : XK} {Γ : List Cl} {e : Expr} {t : Tn → R D} {c : Rc}
end
end L2
set_option maxRecDepth 100000
set_option maxHeartbeats 4000000
namespace L2
open PySem PySem.Spec PyProof.Rows
section
variable {X : Cx} {E : XK} {Γ : List Cl} {e : Expr} {t : Tn → R D} {c : Rc} {p2 p3 p4 pos : Pos} {j : Nat}
end
end L2
set_option maxRecDepth 100000
set_option maxHeartbeats 4000000
namespace L2
open PySem PySem.Spec PyProof.Rows
theorem TF.trans {H H1 H2 : Hp} (a : TF H H1) (b : TF H1 H2) : TF H H2 := ⟨fun x xs e => b.tup x xs (a.tup x xs e), fun x o u e => b.frz x o u (a.frz x o u e)⟩
section
variable {X : Cx} {E : XK} {Γ Γl : List Cl} {pos : Pos} {e : Expr} {t : Tn → R D} {c : Rc}
end
end L2
set_option maxRecDepth 100000
set_option maxHeartbeats 4000000
namespace L2
open PySem PySem.Spec PyProof.Rows
section
variable {X : Cx} {E : XK} {Γ Γl : List Cl} {pos : Pos} {e : Expr} {t : Tn → R D} {c : Rc}
end
end L2
set_option maxRecDepth 100000
set_option maxHeartbeats 4000000
namespace L2
open PySem PySem.Spec PyProof.Rows PySem.Builtin.Str
def rFind : V → List V → Hp → VK → Prop := fun x xs H Q => ∃ z y, x = .str z ∧ xs = [.str y] ∧ Q (.int (Txt.find z y)) H
theorem mt_find1 {X : Cx} : MtR X "str.find" rFind := by
  intro pins s σ H x xs v us Q I rx rs h
  obtain ⟨z, y, rfl, rfl, q⟩ := h
  obtain ⟨t, rfl⟩ := rx
  obtain ⟨u, rfl, ru⟩ := vals1 rs
  obtain ⟨t2, rfl⟩ := ru
  exact SC.find ⟨.int (Txt.find z y), H, I.tok _, ⟨_, rfl⟩, q⟩
def findD (z : Str) : List D → R D
  | [.str y] => .ok (.int (Txt.find z y))
  | _ => .bad
theorem one_str {K : PySem.W.Frag} {H : Hp} {y : Str} {vs : List V} {L : List Addr} (r : Reps K H [.str y] vs L) : vs = [.str y] := by
  obtain ⟨v, vs', L1, L2, e1, _, r1, r2⟩ := r
  rw [e1, r1.1, r2.1]
theorem N_find (z : Str) : NoErrL (findD z) := fun ds n h => by
  unfold findD at h
  split at h <;> cases h
theorem B_find {K : PySem.W.Frag} : SmB K rFind findD := by
  rintro H z xs ds L Q rs ⟨d, hg, q⟩
  unfold findD at hg
  split at hg
  · rename_i y
    cases hg
    exact ⟨z, y, rfl, one_str rs, q _ H [] (Same.refl H) ⟨rfl, rfl⟩ (by simp) (fun a ha => nomatch ha)⟩
  · cases hg
def rIndex : V → List V → Hp → VK → Prop := fun x xs H Q => ∃ z y i rest, x = .str z ∧ xs = [.str y] ∧ occurrences z y 0 z.length 1 = i :: rest ∧ Q (.int (i : Nat)) H
theorem mt_index1 {X : Cx} : MtR X "str.index" rIndex := by
  intro pins s σ H x xs v us Q I rx rs h
  obtain ⟨z, y, i, rest, rfl, rfl, ho, q⟩ := h
  obtain ⟨t, rfl⟩ := rx
  obtain ⟨u, rfl, ru⟩ := vals1 rs
  obtain ⟨t2, rfl⟩ := ru
  exact SC.index ho ⟨.int (i : Nat), H, I.tok _, ⟨_, rfl⟩, q⟩
def indexD (z : Str) : List D → R D
  | [.str y] => match occurrences z y 0 z.length 1 with
    | i :: _ => .ok (.int (i : Nat))
    | [] => .bad
  | _ => .bad
theorem N_index (z : Str) : NoErrL (indexD z) := fun ds n h => by
  unfold indexD at h
  split at h
  · split at h <;> cases h
  · cases h
theorem B_index {K : PySem.W.Frag} : SmB K rIndex indexD := by
  rintro H z xs ds L Q rs ⟨d, hg, q⟩
  unfold indexD at hg
  split at hg
  · rename_i y
    split at hg
    · rename_i i rest ho
      cases hg
      exact ⟨z, y, i, rest, rfl, one_str rs, ho, q _ H [] (Same.refl H) ⟨rfl, rfl⟩ (by simp) (fun a ha => nomatch ha)⟩
    · cases hg
  · cases hg
def lowD (z : Str) : R D := if z.length ≤ 5592405 then .ok (.str (Txt.lower z)) else .bad
def rLow : V → List V → Hp → VK → Prop := fun x xs H Q => ∃ z, x = .str z ∧ xs = [] ∧ z.length ≤ 5592405 ∧ Q (.str (Txt.lower z)) H
theorem mt_low {X : Cx} : MtR X "str.lower" rLow := by
  intro pins s σ H x xs v us Q I rx rs h
  obtain ⟨z, rfl, rfl, hz, q⟩ := h
  obtain ⟨t, rfl⟩ := rx
  cases rs
  exact SC.lower (fit_lower hz) ⟨.str (Txt.lower z), H, I.tok _, ⟨_, rfl⟩, q⟩
section
variable {X : Cx} {E : XK} {Γ : List Cl} {o : Expr} {t : Tn → R D} {c : Rc} {apos cpos : Pos}
theorem me_lower (ho : ME X E Γ o t c) (hbase : attributeBase o "lower" X.env (eval o X.env) = eval o X.env := by rfl) (hline : (apos.endLine == cpos.line) = true := by rfl) :
    ME X E Γ (.Call (.Attribute o "lower" apos) [] [] cpos) (eSm0 lowD t) .fresh := by
  obtain ⟨te, p, q⟩ := ho
  refine ⟨_, pe_bm0 PySem.F.plainAttrs_str PySem.F.slot_str_lower PySem.F.type_str_lower mt_low p hbase hline, fun O σ H τ Q ok h => ?_⟩
  unfold eSm0 at h
  refine q O σ H τ _ ok (post.bind h fun d hd h x H1 L1 s1 r1 _ => ?_)
  cases d with
  | str z =>
    obtain ⟨rfl, _⟩ := r1
    dsimp only at h
    unfold lowD at h
    by_cases hz : z.length ≤ 5592405
    · rw [if_pos hz] at h
      exact ⟨rfl, z, rfl, rfl, hz, h _ H1 [] s1 ⟨rfl, rfl⟩ ⟨by simp, fun a ha => nomatch ha⟩⟩
    · rw [if_neg hz] at h; exact h.elim
  | _ => exact h.elim
end
def inS (a b : Str) : Bool := !(occurrences b a 0 b.length 1).isEmpty
def rInS : R2 := fun x y H Q => ∃ a b, x = .str a ∧ y = .str b ∧ Q (.bl (inS a b)) H
theorem op_inS {X : Cx} : OpR X (compareOp .In) rInS := by
  intro pins s σ H x y v u Q I rx ry h
  obtain ⟨a, b, rfl, rfl, q⟩ := h
  obtain ⟨t, rfl⟩ := rx
  obtain ⟨t', rfl⟩ := ry
  exact in_str ⟨.bl (inS a b), H, I, rfl, q⟩
def inSD : D → D → R D
  | .str a, .str b => .ok (.bl (inS a b))
  | _, _ => .bad
theorem N_inS : NoErr inSD := fun x y n h => by
  unfold inSD at h
  split at h <;> cases h
theorem B_inS {K : PySem.W.Frag} : OpB K rInS inSD := by
  rintro H x y dx dy Lx Ly Q rx ry ⟨d, hg, q⟩
  unfold inSD at hg
  split at hg
  · cases hg
    exact ⟨_, _, rx.1, ry.1, q _ H [] (Same.refl H) ⟨rfl, rfl⟩ (by simp) (fun a ha => nomatch ha)⟩
  · cases hg
end L2
set_option maxRecDepth 100000
set_option maxHeartbeats 4000000
namespace L2
open PySem PySem.Spec PyProof.Rows
def Bump {α : Type} (t : Sem α) : Prop := ∀ (M : Model) (Γ : PySem.Ctx) (Q : α → Pos → Shared → Prop) (E : Value → Pos → Shared → Prop) (p : Pos) (s : Shared), Sem.wp M Γ t Q E p s → Sem.wp M Γ t (fun a p' s' => 0 < s'.toks ∧ Q a p' s') E p s
theorem bump_bind1 {α β : Type} {m : Sem α} {f : α → Sem β} (h : Bump m) : Bump (m >>= f) := fun M Γ Q E p s hw => by
  rw [Sem.wp_bind'] at hw ⊢
  refine Sem.wp_mono M Γ m (fun a p' s' h' => ?_) (fun _ _ _ h => h) p s (h M Γ _ E p s hw)
  exact Sem.wp_mono M Γ (f a) (fun _ _ _ h => h) (fun _ _ _ h => h.2) p' s' (Sem.wp_toks M Γ 1 (f a) Q E p' s' h'.1 h'.2)
theorem bump_bind2 {α β : Type} {m : Sem α} {f : α → Sem β} (h : ∀ a, Bump (f a)) : Bump (m >>= f) := fun M Γ Q E p s hw => by
  rw [Sem.wp_bind'] at hw ⊢
  exact Sem.wp_mono M Γ m (fun a p' s' h' => h a M Γ Q E p' s' h') (fun _ _ _ h => h) p s hw
theorem bump_fresh : Bump PySem.fresh := fun M Γ Q E p s hw => ⟨Nat.succ_pos _, hw⟩
theorem bump_nsSet {a : Addr} {x : Str} {v : Value} : Bump (nsSet a x v) := bump_bind2 fun _ => bump_bind1 (bump_bind1 bump_fresh)
theorem bump_store {env : Env} {x : Str} {v : Value} (hk : env.scope.kind = .function) (hl : env.kindOf x = some .local) : Bump (storeName env x v) := by
  have e : storeName env x v = nsSet env.locals x v := by
    unfold storeName
    rw [hl, hk]
    rfl
  rw [e]
  exact bump_nsSet
theorem bump_env {scope : Scope} {globals : Addr} {binds : List (Str × Value)} {qual : Str} {func : Option Addr} {code : Value} {builtins : Addr} (hk : scope.kind = .function) (hx : ∃ x v r, binds = (x, v) :: r ∧ scope.names.lookup x = some .local) :
    Bump (newFunctionEnv scope globals [] binds qual func code none builtins) := by
  obtain ⟨x, v, r, rfl, hx⟩ := hx
  simp only [newFunctionEnv, Option.isSome_none, Bool.false_eq_true, if_false]
  refine bump_bind2 fun L => bump_bind2 fun cells => bump_bind1 ?_
  rw [List.forIn_cons]
  exact bump_bind1 (bump_bind1 (bump_store hk hx))
theorem nfe_tok {scope : Scope} {globals : Addr} {binds : List (Str × Value)} {qual : Str} {func : Option Addr} {code : Value} {builtins : Addr} {M : Model} {A : Around} {E : Value → Shared → Prop} {s : Shared} {Q : Env → Shared → Prop} (hk : scope.kind = .function) (hx : ∃ x v r, binds = (x, v) :: r ∧ scope.names.lookup x = some .local)
    (h : wpAny M A (newFunctionEnv scope globals [] binds qual func code none builtins) (fun env s' => 0 < s'.toks → Q env s') E s) : wpAny M A (newFunctionEnv scope globals [] binds qual func code none builtins) Q E s := fun Γ p hΓ =>
  Sem.wp_mono M Γ _ (fun a p' s' h => h.2 h.1) (fun _ _ _ h => h) p s (bump_env hk hx M Γ _ _ p s (h Γ p hΓ))
def PSsT (X : Cx) (st : List Stmt) (t : TS) : Prop :=
  ∀ (pins : List (Addr × Obj)) (s : Shared) (σ : St) (H : Hp) (D : Ends), 0 < s.toks → Inv X pins σ H s → t D σ H → wpAny (model X.prog X.w) X.A (execs st X.env) (SP X pins D) X.xe s
def PEp (X : Cx) (e : Expr) (t : TE) : Prop :=
  ∀ (pins : List (Addr × Obj)) (s : Shared) (σ : St) (H : Hp) (Q : VK), 0 < s.toks → Inv X pins σ H s → t σ H Q → wpAny (model X.prog X.w) X.A (eval e X.env) (EP X pins σ Q) X.xe s
theorem PE.p {X : Cx} {e : Expr} {t : TE} (h : PE X e t) : PEp X e t := fun pins s σ H Q _ I => h pins s σ H Q I
theorem PEp.up {X : Cx} {e : Expr} {t : TE} (h : PEp X e t) {pins : List (Addr × Obj)} {s : Shared} {σ : St} {H : Hp} {Q : VK} (hs : 0 < s.toks) (I : Inv X pins σ H s) (ht : t σ H Q) : wpAny (model X.prog X.w) X.A (eval e X.env) (fun v s' => 0 < s'.toks ∧ EP X pins σ Q v s') X.xe s :=
  wpAny_mono (wpAny_toks_of (n := 1) hs (h pins s σ H Q hs I ht)) (fun _ _ h => h) fun _ _ h => h.2
section
variable {X : Cx} {o : Expr} {to : TE} {a b : Str} {j1 j2 : Nat} {p1 p2 apos cpos : Pos}
theorem pep_repl (ho : PEp X o to) (hab : (a == b) = false) (hb : b.length ≤ 14)
    (hbase : attributeBase o "replace" X.env (eval o X.env) = eval o X.env := by rfl)
    (hfew : ((backTo cpos (starEach [.Constant (.str a) j1 p1, .Constant (.str b) j2 p2] X.env)).all (fun x => !x.1) && (backToKw cpos (keywordEach [] X.env)).all (fun x => x.1.isSome)
      && decide ([Expr.Constant (.str a) j1 p1, .Constant (.str b) j2 p2].length + ([] : List Keyword).length + (if ([] : List Keyword).isEmpty then 0 else 1) < 30)) = true := by rfl)
    (hline : (apos.endLine == cpos.line) = true := by rfl) (hs : starEach [.Constant (.str a) j1 p1, .Constant (.str b) j2 p2] X.env = [(false, eval (.Constant (.str a) j1 p1) X.env), (false, eval (.Constant (.str b) j2 p2) X.env)] := by rfl) :
    PEp X (.Call (.Attribute o "replace" apos) [.Constant (.str a) j1 p1, .Constant (.str b) j2 p2] [] cpos) (fun σ H Q => to σ H fun x H1 => ∃ z, x = .str z ∧ z.length ≤ 1048576 ∧ Q (.str (Txt.replace z a b)) H1) := by
  intro pins s σ H Q htk I h
  refine wpAny_Call_method_late hbase hfew hline rfl (thn (ho.up htk I h) fun v s1 h1 => ?_)
  obtain ⟨tk1, x, H1, I1, r1, z, rfl, hz, q1⟩ := h1
  obtain ⟨t, rfl⟩ := r1
  refine ⟨"str", "str.replace", PySem.F.plainAttrs_str, PySem.F.slot_str_replace, PySem.F.type_str_replace, typeIs_str _ _ _, ?_, ?_⟩
  · exact fun y e => by cases e
  rw [hs]
  refine Calls.callWith_builtin rfl (Calls.evalArgs_plain ?_)
  show wpAny _ _ (spliced [(false, eval (.Constant (.str a) j1 p1) X.env), (false, eval (.Constant (.str b) j2 p2) X.env)]) _ _ _
  refine Calls.spliced_cons (Calls.Constant_str (k := j1) (pos := p1) (Calls.spliced_cons (Calls.Constant_str (k := j2) (pos := p2) (Calls.spliced_nil ?_))))
  exact SC.replaceW (by show s1.toks ≠ 0; omega) (by show s1.toks + 1 ≠ 0; omega) (by show s1.toks ≠ s1.toks + 1; omega) hab hz hb fun t' k => ⟨.str (Txt.replace z a b), H1, I1.tok _, ⟨t', rfl⟩, q1⟩
end
section
theorem fn_ofT {CX : CXT} {P : Program} {w : World} {K : PySem.W.Frag} {mg : Str → Option Value} {base : Heap} {k : Nat} {f : Addr} {name qual : Str} {params : Arguments} {body : List Stmt} {scope : Scope} {dV kV doc pm cdv ct oc : Value} {an od : Option Addr}
    {osl : Array (Option Value)} {N ps : List Str} {sp : Sp} (lk : K.lookup f = some ⟨oc, od, .func (PySem.W.fnOf name qual params body scope dV kV doc pm an cdv ct), osl⟩) (hcd : PySem.W.codeIn K cdv qual = true) (S : FnScope N ps scope)
    (hloc : ∃ x r, ps = x :: r ∧ scope.names.lookup x = some .local) (len : ∀ vs H Q E, sp vs H Q E → vs.length = ps.length)
    (hbody : ∀ (A : Around) (outer : List Env) (s : Shared) (H : Hp) (vs : List V) (Q : VK) (E : XK), Room k (A.deeper (envOfC qual scope s.heap.objs.size f cdv)) → sp vs H Q E →
      ∃ t, PSsT (cxOf CX P w K mg base N qual scope f cdv A outer s H E) body t ∧ t { nx := fun _ H' => Q .non H', rt := Q } (start N vs) H) :
    FnOk P w K mg base CX (k + 1) f (PySem.W.fnOf name qual params body scope dV kV doc pm an cdv ct) ps sp := by
  refine ⟨len, fun A outer s H args us vs Q E hr e0 hb r hsp => ?_⟩
  have hl := len _ _ _ _ hsp
  have KX : K.In s.heap := e0.mod.kin.keeps fun b o e => (e0.bs b o e).1
  have lim : s.heap.NoLimit := e0.mod.nolimit.keeps fun b o e => (e0.bs b o e).1
  have hkind : ∀ y ∈ ps.zip us, scope.names.lookup y.1 = some .local ∨ (scope.names.lookup y.1 = some .cell ∧ ((cellsFrom (s.heap.objs.size + 1) scope.names []).lookup y.1).isSome = true) := fun ⟨n, v⟩ hy => by
    rcases S.par n (List.of_mem_zip hy).1 with q | q
    · exact .inl q
    · exact .inr ⟨q, PySem.W.cellsFrom_some _ _ _ (.inl q)⟩
  refine codeAny_call_function hr.depth (KX _ _ lk) rfl S.co S.gen rfl (PySem.W.codeRec_of KX hcd) (hb _ _ _ _ ?_)
  have hlu : us.length = ps.length := by rw [← r.length, hl]
  refine nfe_tok S.kind (by
    obtain ⟨y, q, rfl, hy⟩ := hloc
    cases us with
    | nil => cases hlu
    | cons u us => exact ⟨y, u, _, rfl, hy⟩) (wpAny_newFunctionEnv_cells S.kind hkind fun env he s1 x htk => ?_)
  subst he
  refine ⟨lim.keeps x.toInCall.keep, codeAny_func ?_⟩
  obtain ⟨t, ht, hq⟩ := hbody A outer s H vs Q E (hr.deeper _) hsp
  have I : Inv (cxOf CX P w K mg base N qual scope f cdv A outer s H E) [] (start N vs) H s1 := inv_start S hr.hd e0 hl r x
  refine wpAny_mono (ht [] s1 (start N vs) H _ htk I hq) (fun fl s' hs => ?_) fun e s' hs => hs
  have fin : ∀ {σ' : St} {H' : Hp} {v : V} {u : Value}, Inv (cxOf CX P w K mg base N qual scope f cdv A outer s H E) [] σ' H' s' → RelV v u → Q v H' → CE outer P w H s Q u s' :=
    fun {σ' H' v u} J rv q => ⟨v, H', J.os, J.bare, J.base, J.hok, rv, q⟩
  cases fl with
  | ret u =>
    obtain ⟨v, σ', H', J, rv, q⟩ := hs
    exact fin J rv q
  | next =>
    obtain ⟨σ', H', J, q⟩ := hs
    exact fin (v := V.non) (u := Value.none) J rfl q
  | brk =>
    obtain ⟨_, _, _, q⟩ := hs
    exact False.elim q
  | cont =>
    obtain ⟨_, _, _, q⟩ := hs
    exact False.elim q
end
end L2
set_option maxRecDepth 100000
set_option maxHeartbeats 4000000
namespace L2
open PySem PySem.Spec PyProof.Rows
def MEp (X : Cx) (E : XK) (Γ : List Cl) (e : Expr) (t : Tn → R D) (c : Rc) : Prop :=
  ∃ te, PEp X e te ∧ ∀ O σ H τ Q, EOk X.K Γ O H σ τ → post X.K E O c H Q (t τ) → te σ H Q
def MSsT (X : Cx) (E : XK) (Γl Γ : List Cl) (s : List Stmt) (t : Tn → R Fl) (Γ' : List Cl) : Prop :=
  ∃ ts, PSsT X s ts ∧ ∀ B σ H τ Z, SOk X.K Γ B H σ τ [] → postS X.K E B Γl Γ' Z (t τ) → ts Z σ H
def replD (a b : Str) : D → R D
  | .str z => if z.length ≤ 1048576 then .ok (.str (Txt.replace z a b)) else .bad
  | _ => .bad
section
variable {X : Cx} {E : XK} {Γ Γ' Γl : List Cl} {e o : Expr} {t : Tn → R D} {c : Rc} {a b : Str} {j1 j2 : Nat} {p1 p2 apos cpos pos : Pos}
theorem ME.p (h : ME X E Γ e t c) : MEp X E Γ e t c := by
  obtain ⟨te, p, q⟩ := h
  exact ⟨te, p.p, q⟩
theorem mep_repl (ho : MEp X E Γ o t c) (hab : (a == b) = false) (hb : b.length ≤ 14)
    (hbase : attributeBase o "replace" X.env (eval o X.env) = eval o X.env := by rfl)
    (hfew : ((backTo cpos (starEach [.Constant (.str a) j1 p1, .Constant (.str b) j2 p2] X.env)).all (fun x => !x.1) && (backToKw cpos (keywordEach [] X.env)).all (fun x => x.1.isSome)
      && decide ([Expr.Constant (.str a) j1 p1, .Constant (.str b) j2 p2].length + ([] : List Keyword).length + (if ([] : List Keyword).isEmpty then 0 else 1) < 30)) = true := by rfl)
    (hline : (apos.endLine == cpos.line) = true := by rfl) (hs : starEach [.Constant (.str a) j1 p1, .Constant (.str b) j2 p2] X.env = [(false, eval (.Constant (.str a) j1 p1) X.env), (false, eval (.Constant (.str b) j2 p2) X.env)] := by rfl) :
    MEp X E Γ (.Call (.Attribute o "replace" apos) [.Constant (.str a) j1 p1, .Constant (.str b) j2 p2] [] cpos) (eUn (replD a b) t) .fresh := by
  obtain ⟨te, p, q⟩ := ho
  refine ⟨_, pep_repl p hab hb hbase hfew hline hs, fun O σ H τ Q ok h => ?_⟩
  unfold eUn at h
  refine q O σ H τ _ ok (post.bind h fun d hd h x H1 L1 s1 r1 _ => ?_)
  cases d with
  | str z =>
    obtain ⟨rfl, _⟩ := r1
    have h : post X.K E O .fresh H Q (if z.length ≤ 1048576 then .ok (.str (Txt.replace z a b)) else .bad) := h
    by_cases hz : z.length ≤ 1048576
    · rw [if_pos hz] at h
      exact ⟨z, rfl, hz, h _ H1 [] s1 ⟨rfl, rfl⟩ ⟨by simp, fun a ha => nomatch ha⟩⟩
    · rw [if_neg hz] at h; exact h.elim
  | _ => exact h.elim
theorem msT_ret (h : MEp X E Γ e t .fresh) : MSsT X E Γl Γ [.Return (some e) pos] (sRet t) Γ' := by
  obtain ⟨te, p, q⟩ := h
  refine ⟨tRet te, fun pins s σ H D htk I h => ?_, fun B σ H τ Z ok h => ?_⟩
  · refine wpAny_execs_cons (wpAny_Return_some (thn (p pins s σ H _ htk I h) fun v s1 h1 => ?_))
    obtain ⟨x, H1, I1, r1, q1⟩ := h1
    exact ⟨x, σ, H1, I1, r1, q1⟩
  · obtain ⟨O, eo, _⟩ := ok.eok
    refine q O σ H τ _ eo ?_
    unfold sRet at h
    cases ht : t τ with
    | ok d =>
      rw [ht, R.ok_bind] at h
      exact fun v H' L s r k => h v H' L (ok.ext.trans s) r k.1 fun a ha => ok.ext.non (k.2 a ha)
    | err n => rw [ht] at h; exact fun C H' e s => h C H' e (ok.ext.trans s)
    | bad => rw [ht] at h; exact h
end
section
variable {P : Program} {w : World} {K : PySem.W.Frag} {mg : Str → Option Value} {base : Heap} {x : Str} {st : Stmt} {N ps : List Str} {k : Nat} {t : Tn → R Fl} {Γ' : List Cl}
theorem DefIn.mirT (Df : DefIn K mg x st ps) (S : FnScope N ps (defScope st)) (hn : ps.length ≤ N.length) (hloc : ∃ x r, ps = x :: r ∧ (defScope st).names.lookup x = some .local)
    (hbody : ∀ (f : Addr) (cdv : Value) (A : Around) (outer : List Env) (s : Shared) (H : Hp) (E : XK), Room k (A.deeper (envOfC x (defScope st) s.heap.objs.size f cdv)) →
      MSsT (cxOf (cxx P w) P w K mg base N x (defScope st) f cdv A outer s H E) E [] (prmC N.length ps.length) (defBody st) t Γ') : Own P w K mg base x (k + 1) ps (spM K (runB N.length t) ps.length) := by
  obtain ⟨f, fd, F, hm, hb⟩ := Df.ex
  obtain ⟨oc, od, kV, doc, pm, an, cdv, ct, osl, rfl, lk, hcd⟩ := F.ex
  refine ⟨f, _, fn_ofT lk hcd S hloc (fun vs H Q E h => h.1) fun A outer s H vs Q E hr h => ?_, hm, F.kp, hb⟩
  obtain ⟨hl, ds, L, r, h⟩ := h
  obtain ⟨ts, p, q⟩ := hbody f cdv A outer s H E hr
  refine ⟨ts, p, q H (start N vs) H _ _ (hl ▸ SOk.start r (by lia)) ?_⟩
  unfold runB at h
  cases ht : t (ds.map some ++ List.replicate (N.length - ds.length) none) with
  | ok f =>
    rw [ht] at h
    cases f with
    | nx τ' => exact fun σ' H' ok' => h .non H' [] ok'.ext ⟨rfl, rfl⟩ RcOk.nil
    | rt d => exact fun v H' L s r n1 n2 => h v H' L s r ⟨n1, n2⟩
    | bk τ' => exact h.elim
    | ct τ' => exact h.elim
  | err n => rw [ht] at h; exact fun C H' e s => h C H' e s
  | bad => rw [ht] at h; exact h.elim
end
end L2
set_option maxRecDepth 100000
set_option maxHeartbeats 4000000
namespace K03
open PySem PySem.Spec PyProof.Rows L2
def top (i : Nat) : Stmt := PySem.Challenge.pw_quirehand_k03_joints_that_fit.main.body.getD i (.Pass ⟨0, 0, 0, 0⟩)
section
variable {P : Program} {w : World} {K : PySem.W.Frag} {mg : Str → Option Value} {base : Heap}
def t_mark_at : Tn → R Fl := (sRet (eL max2D (aCons (eSm findD (eVar 0) (aCons (eC (.str "-")) aNil)) (aCons (eSm findD (eVar 0) (aCons (eC (.str "=")) aNil)) aNil))))
def F_mark_at : List D → R D := runB 1 t_mark_at
theorem sc_mark_at : FnScope ["joint"] ["joint"] (defScope (top 1)) := ⟨rfl, rfl, rfl, by decide +kernel, rfl, by decide +kernel, by decide +kernel⟩
theorem ok_mark_at (Df : DefIn K mg "mark_at" (top 1) ["joint"]) (B : Bl mg)  : Own P w K mg base "mark_at" 1 ["joint"] (spM K F_mark_at 1) :=
  Df.mir (k := 0) (Γ' := [.shr]) sc_mark_at (by decide) fun f cdv A outer s H E hr => (mss_one (ms_ret (mv_fresh (me_callB (call_max2 (by exact rfl)) B_max2 N_max2 (by exact rfl) B.max PyProof.Rows.boot_max (ma_cons (me_sm PySem.F.plainAttrs_str PySem.F.slot_str_find PySem.F.type_str_find mt_find1 B_find N_find (mn 0 .shr) (ma_cons me_str ma_nil)) (ma_cons (me_sm PySem.F.plainAttrs_str PySem.F.slot_str_find PySem.F.type_str_find mt_find1 B_find N_find (mn 0 .shr) (ma_cons me_str ma_nil)) ma_nil))))))
def t_letters_of : Tn → R Fl := (sRet (eUn (replD "=" "") (eUn (replD "-" "") (eVar 0))))
def F_letters_of : List D → R D := runB 1 t_letters_of
theorem sc_letters_of : FnScope ["joint"] ["joint"] (defScope (top 2)) := ⟨rfl, rfl, rfl, by decide +kernel, rfl, by decide +kernel, by decide +kernel⟩
theorem ok_letters_of (Df : DefIn K mg "letters_of" (top 2) ["joint"]) (B : Bl mg)  : Own P w K mg base "letters_of" 1 ["joint"] (spM K F_letters_of 1) :=
  Df.mirT (k := 0) (Γ' := [.shr]) sc_letters_of (by decide) ⟨_, _, rfl, rfl⟩ fun f cdv A outer s H E hr => (msT_ret (mep_repl (mep_repl (ME.p (mn 0 .shr)) (by decide) (by decide)) (by decide) (by decide)))
def t_fits : Tn → R Fl := (sSeq (sSet 3 (eL F_letters_of (aCons (eVar 0) aNil))) (sSeq (sSet 4 (eBin subD (eVar 2) (eL F_mark_at (aCons (eVar 0) aNil)))) (sRet (eAnd (eBin geD (eVar 4) (eC (.int 0))) (eBin (eqR false) (eSm0 lowD (eSl (eVar 1) (oSome (eVar 4)) (oSome (eBin addD (eVar 4) (eL lenD (aCons (eVar 3) aNil)))))) (eVar 3))))))
def F_fits : List D → R D := runB 5 t_fits
theorem sc_fits : FnScope ["joint", "word", "place", "letters", "begin"] ["joint", "word", "place"] (defScope (top 3)) := ⟨rfl, rfl, rfl, by decide +kernel, rfl, by decide +kernel, by decide +kernel⟩
theorem ok_fits (Df : DefIn K mg "fits" (top 3) ["joint", "word", "place"]) (B : Bl mg) (O_letters_of : Own P w K mg base "letters_of" 1 ["joint"] (spM K F_letters_of 1)) (O_mark_at : Own P w K mg base "mark_at" 1 ["joint"] (spM K F_mark_at 1)) : Own P w K mg base "fits" 2 ["joint", "word", "place"] (spM K F_fits 3) :=
  Df.mir (k := 1) (Γ' := [.shr, .shr, .shr, .dead, .dead]) sc_fits (by decide) fun f cdv A outer s H E hr => (mss_cons (L2.st 3 sc_fits.nd (mv_fresh (me_call (O_letters_of.mono (by decide)) hr (by exact rfl) passes_cxx (ma_cons (mn 0 .shr) ma_nil)))) (mss_cons (L2.st 4 sc_fits.nd (mv_fresh (me_op op_sub B_sub N_int (mn 2 .shr) (me_call (O_mark_at.mono (by decide)) hr (by exact rfl) passes_cxx (ma_cons (mn 0 .shr) ma_nil))))) (mss_one (ms_ret (mv_fresh (me_and (me_cmp op_ge B_ge N_int (mn 4 .own) me_int (nomark _)) (me_one (me_cmp (op_eqAll hr.u12) B_eq N_eq (me_lower (me_sl (mn 1 .shr) (mo_some (mn 4 .own)) (mo_some (me_op op_addA B_add N_add (mn 4 .own) (me_callB call_lenA B_len N_len (by exact rfl) B.len PySem.boot_len (ma_cons (mn 3 .own) ma_nil)))))) (mn 3 .own) (nomark _)))))))))
def t__law_number : Tn → R Fl := (sSeq (sSet 2 (eC (.int 0))) (sSeq (sIf (eTest (eBin ltD (eVar 1) (eL lenD (aCons (eVar 0) aNil)))) (sSet 2 (eBin ixD (eVar 0) (eVar 1))) sSkip) (sRet (eBin modD (eBin mulD (eBin addD (eBin addD (eVar 2) (eBin mulD (eC (.int 7919)) (eVar 1))) (eC (.int 17))) (eC (.int 48271))) (eC (.int 2147483647))))))
def F__law_number : List D → R D := runB 3 t__law_number
theorem sc__law_number : FnScope ["_law_script", "_law_k", "_law_base"] ["_law_script", "_law_k"] (defScope (top 5)) := ⟨rfl, rfl, rfl, by decide +kernel, rfl, by decide +kernel, by decide +kernel⟩
theorem ok__law_number (Df : DefIn K mg "_law_number" (top 5) ["_law_script", "_law_k"]) (B : Bl mg)  : Own P w K mg base "_law_number" 1 ["_law_script", "_law_k"] (spM K F__law_number 2) :=
  Df.mir (k := 0) (Γ' := [.shr, .shr, .dead]) sc__law_number (by decide) fun f cdv A outer s H E hr => (mss_cons (L2.st 2 sc__law_number.nd (mv_fresh me_int)) (mss_cons (ms_if (mt_cmp op_lt B_lt N_int (mn 1 .shr) (me_callB call_lenA B_len N_len (by exact rfl) B.len PySem.boot_len (ma_cons (mn 0 .shr) ma_nil)) (nomark _)) (mss_one (stS 2 sc__law_number.nd (me_ix hr.u1 (mn 0 .shr) (mn 1 .shr)))) (mss_weak (Γ' := [.shr, .shr, .shr]) mss_nil rfl)) (mss_one (ms_ret (mv_fresh (me_op op_mod B_mod N_int (me_op op_mulA B_mul N_mul (me_op op_addA B_add N_add (me_op op_addA B_add N_add (mn 2 .shr) (me_op op_mulA B_mul N_mul me_int (mn 1 .shr))) me_int) me_int) me_int))))))
def t__law_sign : Tn → R Fl := (sSeq (sSet 1 (eC (.str "abcdefghijklmnopqrstuvwxyzABCDEFGHIJKLMNOPQRSTUVWXYZ0123456789.,;:!?'\"()-/"))) (sSeq (sIf (eTest (eBin ltD (eBin modD (eVar 0) (eC (.int 16))) (eC (.int 10)))) (sRet (eBin ixD (eC (.str "aabbcABBAb")) (eBin modD (eVar 0) (eC (.int 16))))) sSkip) (sSeq (sIf (eTest (eBin ltD (eBin modD (eVar 0) (eC (.int 16))) (eC (.int 13)))) (sRet (eC (.str "-"))) sSkip) (sRet (eImm (eBin ixD (eVar 1) (eBin modD (eBin fdivD (eVar 0) (eC (.int 16))) (eC (.int 74)))))))))
def F__law_sign : List D → R D := runB 2 t__law_sign
theorem sc__law_sign : FnScope ["_law_number_here", "_law_signs"] ["_law_number_here"] (defScope (top 6)) := ⟨rfl, rfl, rfl, by decide +kernel, rfl, by decide +kernel, by decide +kernel⟩
theorem ok__law_sign (Df : DefIn K mg "_law_sign" (top 6) ["_law_number_here"]) (B : Bl mg)  : Own P w K mg base "_law_sign" 1 ["_law_number_here"] (spM K F__law_sign 1) :=
  Df.mir (k := 0) (Γ' := [.shr, .dead]) sc__law_sign (by decide) fun f cdv A outer s H E hr => (mss_cons (L2.st 1 sc__law_sign.nd (mv_fresh me_str)) (mss_cons (ms_if (mt_cmp op_lt B_lt N_int (me_op op_mod B_mod N_int (mn 0 .shr) me_int) me_int (nomark _)) (mss_one (ms_ret (mv_fresh (me_ix hr.u1 me_str (me_op op_mod B_mod N_int (mn 0 .shr) me_int))))) mss_nil) (mss_cons (ms_if (mt_cmp op_lt B_lt N_int (me_op op_mod B_mod N_int (mn 0 .shr) me_int) me_int (nomark _)) (mss_one (ms_ret (mv_fresh me_str))) mss_nil) (mss_one (ms_ret (mv_fresh (me_imm (me_ix hr.u1 (mn 1 .own) (me_op op_mod B_mod N_int (me_op op_fdiv B_fdiv N_int (mn 0 .shr) me_int) me_int)))))))))
def t__law_word : Tn → R Fl := (sSeq (sSet 2 (eL F__law_number (aCons (eVar 0) (aCons (eVar 1) aNil)))) (sSeq (sSet 3 (eBin addD (eC (.int 1)) (eBin modD (eVar 2) (eC (.int 12))))) (sSeq (sIf (eTest (eBin (eqR false) (eBin modD (eBin fdivD (eVar 2) (eC (.int 12))) (eC (.int 6))) (eC (.int 1)))) (sSet 3 (eBin addD (eC (.int 1)) (eBin modD (eBin fdivD (eVar 2) (eC (.int 72))) (eC (.int 40))))) sSkip) (sSeq (sSet 4 (eL (fun ds => .ok (.lst ds)) aNil)) (sSeq (sFor (iL rng1 (aCons (eVar 3) aNil)) (.one 5) (sSeq (sSet 2 (eBin addD (eL F__law_number (aCons (eVar 0) (aCons (eBin addD (eBin addD (eVar 1) (eC (.int 1))) (eBin modD (eVar 5) (eC (.int 8)))) aNil))) (eBin mulD (eBin mulD (eC (.int 611)) (eVar 5)) (eVar 5)))) (sApp 4 (eL F__law_sign (aCons (eBin fdivD (eVar 2) (eC (.int 5))) aNil))))) (sRet (eSm joinD (eC (.str "")) (aCons (eVar 4) aNil))))))))
def F__law_word : List D → R D := runB 6 t__law_word
theorem sc__law_word : FnScope ["_law_script", "_law_k", "_law_number_here", "_law_size", "_law_signs", "_law_j"] ["_law_script", "_law_k"] (defScope (top 7)) := ⟨rfl, rfl, rfl, by decide +kernel, rfl, by decide +kernel, by decide +kernel⟩
theorem ok__law_word (Df : DefIn K mg "_law_word" (top 7) ["_law_script", "_law_k"]) (B : Bl mg) (O__law_number : Own P w K mg base "_law_number" 1 ["_law_script", "_law_k"] (spM K F__law_number 2)) (O__law_sign : Own P w K mg base "_law_sign" 1 ["_law_number_here"] (spM K F__law_sign 1)) : Own P w K mg base "_law_word" 2 ["_law_script", "_law_k"] (spM K F__law_word 2) :=
  Df.mir (k := 1) (Γ' := [.shr, .shr, .dead, .dead, .dead, .dead]) sc__law_word (by decide) fun f cdv A outer s H E hr => (mss_cons (L2.st 2 sc__law_word.nd (mv_fresh (me_call (O__law_number.mono (by decide)) hr (by exact rfl) passes_cxx (ma_cons (mn 0 .shr) (ma_cons (mn 1 .shr) ma_nil))))) (mss_cons (L2.st 3 sc__law_word.nd (mv_fresh (me_op op_addA B_add N_add me_int (me_op op_mod B_mod N_int (mn 2 .own) me_int)))) (mss_cons (ms_if (mt_cmp (op_eqAll hr.u12) B_eq N_eq (me_op op_mod B_mod N_int (me_op op_fdiv B_fdiv N_int (mn 2 .own) me_int) me_int) me_int (nomark _)) (mss_one (L2.st 3 sc__law_word.nd (mv_fresh (me_op op_addA B_add N_add me_int (me_op op_mod B_mod N_int (me_op op_fdiv B_fdiv N_int (mn 2 .own) me_int) me_int))))) mss_nil) (mss_cons (L2.st 4 sc__law_word.nd (mv_fresh (me_lst ma_nil))) (mss_cons (ms_for (Γ2 := [.shr, .shr, .own, .own, .own, .shr]) PassesOwn.leaving rfl (mi_range1 rfl B.range (ma_cons (mn 3 .own) ma_nil)) (by decide) (mg_one (pgn 5 sc__law_word.nd)) (by decide) (mss_cons (L2.st 2 sc__law_word.nd (mv_fresh (me_op op_addA B_add N_add (me_call (O__law_number.mono (by decide)) hr (by exact rfl) passes_cxx (ma_cons (mn 0 .shr) (ma_cons (me_op op_addA B_add N_add (me_op op_addA B_add N_add (mn 1 .shr) me_int) (me_op op_mod B_mod N_int (mn 5 .shr) me_int)) ma_nil))) (me_op op_mulA B_mul N_mul (me_op op_mulA B_mul N_mul me_int (mn 5 .shr)) (mn 5 .shr))))) (mss_one (app 4 (mv_fresh (me_call (O__law_sign.mono (by decide)) hr (by exact rfl) passes_cxx (ma_cons (me_op op_fdiv B_fdiv N_int (mn 2 .own) me_int) ma_nil)))))) rfl) (mss_one (ms_ret (mv_fresh (me_sm PySem.F.plainAttrs_str PySem.F.slot_str_join PySem.F.type_str_join mt_joinL B_join N_join me_str (ma_cons (mn 4 .own) ma_nil))))))))))
def t__law_small : Tn → R Fl := (sSeq (sSet 1 (eC (.str "ABCDEFGHIJKLMNOPQRSTUVWXYZ"))) (sSeq (sIf (eTest (eBin inSD (eVar 0) (eVar 1))) (sRet (eBin ixD (eC (.str "abcdefghijklmnopqrstuvwxyz")) (eSm indexD (eVar 1) (aCons (eVar 0) aNil)))) sSkip) (sRet (eImm (eVar 0)))))
def F__law_small : List D → R D := runB 2 t__law_small
theorem sc__law_small : FnScope ["_law_sign_here", "_law_great"] ["_law_sign_here"] (defScope (top 8)) := ⟨rfl, rfl, rfl, by decide +kernel, rfl, by decide +kernel, by decide +kernel⟩
theorem ok__law_small (Df : DefIn K mg "_law_small" (top 8) ["_law_sign_here"]) (B : Bl mg)  : Own P w K mg base "_law_small" 1 ["_law_sign_here"] (spM K F__law_small 1) :=
  Df.mir (k := 0) (Γ' := [.shr, .dead]) sc__law_small (by decide) fun f cdv A outer s H E hr => (mss_cons (L2.st 1 sc__law_small.nd (mv_fresh me_str)) (mss_cons (ms_if (mt_cmp op_inS B_inS N_inS (mn 0 .shr) (mn 1 .own) (by exact rfl)) (mss_one (ms_ret (mv_fresh (me_ix hr.u1 me_str (me_sm PySem.F.plainAttrs_str PySem.F.slot_str_index PySem.F.type_str_index mt_index1 B_index N_index (mn 1 .own) (ma_cons (mn 0 .shr) ma_nil)))))) mss_nil) (mss_one (ms_ret (mv_fresh (me_imm (mn 0 .shr)))))))
def t__law_letter_by : Tn → R Fl := (sSeq (sIf (bAnd (eTest (eChain leD ltD (eC (.int 0)) (eVar 2) (eL lenD (aCons (eVar 1) aNil)))) (eTest (eBin inSD (eL F__law_small (aCons (eBin ixD (eVar 1) (eVar 2)) aNil)) (eC (.str "abcdefghijklmnopqrstuvwxyz"))))) (sRet (eL F__law_small (aCons (eBin ixD (eVar 1) (eVar 2)) aNil))) sSkip) (sRet (eBin ixD (eC (.str "abc")) (eBin modD (eBin fdivD (eVar 0) (eBin addD (eC (.int 1)) (eBin mulD (eVar 2) (eVar 2)))) (eC (.int 3))))))
def F__law_letter_by : List D → R D := runB 3 t__law_letter_by
theorem sc__law_letter_by : FnScope ["_law_number_here", "_law_word_here", "_law_spot"] ["_law_number_here", "_law_word_here", "_law_spot"] (defScope (top 9)) := ⟨rfl, rfl, rfl, by decide +kernel, rfl, by decide +kernel, by decide +kernel⟩
theorem ok__law_letter_by (Df : DefIn K mg "_law_letter_by" (top 9) ["_law_number_here", "_law_word_here", "_law_spot"]) (B : Bl mg) (O__law_small : Own P w K mg base "_law_small" 1 ["_law_sign_here"] (spM K F__law_small 1)) : Own P w K mg base "_law_letter_by" 2 ["_law_number_here", "_law_word_here", "_law_spot"] (spM K F__law_letter_by 3) :=
  Df.mir (k := 1) (Γ' := [.shr, .shr, .shr]) sc__law_letter_by (by decide) fun f cdv A outer s H E hr => (mss_cons (ms_if (MW.mt (mw_and (mt_chain op_le B_le N_int op_lt B_lt N_int me_int (mn 2 .shr) (me_callB call_lenA B_len N_len (by exact rfl) B.len PySem.boot_len (ma_cons (mn 1 .shr) ma_nil))) (mw_and1 (mt_cmp op_inS B_inS N_inS (me_call (O__law_small.mono (by decide)) hr (by exact rfl) passes_cxx (ma_cons (me_ix hr.u1 (mn 1 .shr) (mn 2 .shr)) ma_nil)) me_str (by exact rfl))))) (mss_one (ms_ret (mv_fresh (me_call (O__law_small.mono (by decide)) hr (by exact rfl) passes_cxx (ma_cons (me_ix hr.u1 (mn 1 .shr) (mn 2 .shr)) ma_nil))))) mss_nil) (mss_one (ms_ret (mv_fresh (me_ix hr.u1 me_str (me_op op_mod B_mod N_int (me_op op_fdiv B_fdiv N_int (mn 0 .shr) (me_op op_addA B_add N_add me_int (me_op op_mulA B_mul N_mul (mn 2 .shr) (mn 2 .shr)))) me_int))))))
def t__law_joint : Tn → R Fl := (sSeq (sSet 2 (eBin addD (eC (.int 2)) (eBin modD (eVar 0) (eC (.int 3))))) (sSeq (sIf (eTest (eBin (eqR false) (eBin modD (eBin fdivD (eVar 0) (eC (.int 3))) (eC (.int 5))) (eC (.int 1)))) (sSet 2 (eBin addD (eC (.int 2)) (eBin modD (eBin fdivD (eVar 0) (eC (.int 15))) (eC (.int 7))))) sSkip) (sSeq (sSet 3 (eBin addD (eC (.int 1)) (eBin modD (eBin fdivD (eVar 0) (eC (.int 105))) (eBin subD (eVar 2) (eC (.int 1)))))) (sSeq (sSet 4 (eBin modD (eBin fdivD (eVar 0) (eC (.int 21))) (eBin addD (eL lenD (aCons (eVar 1) aNil)) (eC (.int 1))))) (sSeq (sSet 5 (eComp [none, some 0, some 1, some 4, some 3] (iL rng1 (aCons (eVar 2) aNil)) (.one 0) (fun _ => .ok true) (eL F__law_letter_by (aCons (eVar 1) (aCons (eVar 2) (aCons (eBin addD (eBin subD (eVar 3) (eVar 4)) (eVar 0)) aNil)))))) (sSeq (sIf (eTest (eBin (eqR false) (eBin modD (eBin fdivD (eVar 0) (eC (.int 29))) (eC (.int 5))) (eC (.int 1)))) (sSet 5 (eComp [none, some 0] (iL rng1 (aCons (eVar 2) aNil)) (.one 0) (fun _ => .ok true) (eBin ixD (eC (.str "ab")) (eBin modD (eBin fdivD (eVar 1) (eBin mulD (eC (.int 31)) (eBin addD (eC (.int 1)) (eVar 0)))) (eC (.int 2)))))) sSkip) (sSeq (sIf (eTest (eBin (eqR false) (eBin modD (eBin fdivD (eVar 0) (eC (.int 29))) (eC (.int 5))) (eC (.int 2)))) (sPut 5 (eBin ixD (eC (.str "abcz")) (eBin modD (eBin fdivD (eVar 0) (eC (.int 1160))) (eC (.int 4)))) (eBin modD (eBin fdivD (eVar 0) (eC (.int 145))) (eVar 2))) sSkip) (sSeq (sSet 6 (eBin ixD (eC (.str "-=")) (eBin fdivD (eBin modD (eBin fdivD (eVar 0) (eC (.int 37))) (eC (.int 5))) (eC (.int 3))))) (sRet (eBin addD (eBin addD (eSm joinD (eC (.str "")) (aCons (eSl (eVar 5) oNone (oSome (eVar 3))) aNil)) (eVar 6)) (eSm joinD (eC (.str "")) (aCons (eSl (eVar 5) (oSome (eVar 3)) oNone) aNil))))))))))))
def F__law_joint : List D → R D := runB 7 t__law_joint
theorem sc__law_joint : FnScope ["_law_number_here", "_law_word_here", "_law_size", "_law_at", "_law_place", "_law_letters", "_law_mark_here"] ["_law_number_here", "_law_word_here"] (defScope (top 10)) := ⟨rfl, rfl, rfl, by decide +kernel, rfl, by decide +kernel, by decide +kernel⟩
theorem ok__law_joint (Df : DefIn K mg "_law_joint" (top 10) ["_law_number_here", "_law_word_here"]) (B : Bl mg) (O__law_letter_by : Own P w K mg base "_law_letter_by" 2 ["_law_number_here", "_law_word_here", "_law_spot"] (spM K F__law_letter_by 3)) : Own P w K mg base "_law_joint" 3 ["_law_number_here", "_law_word_here"] (spM K F__law_joint 2) :=
  Df.mir (k := 2) (Γ' := [.shr, .shr, .dead, .dead, .dead, .dead, .dead]) sc__law_joint (by decide) fun f cdv A outer s H E hr => (mss_cons (L2.st 2 sc__law_joint.nd (mv_fresh (me_op op_addA B_add N_add me_int (me_op op_mod B_mod N_int (mn 0 .shr) me_int)))) (mss_cons (ms_if (mt_cmp (op_eqAll hr.u12) B_eq N_eq (me_op op_mod B_mod N_int (me_op op_fdiv B_fdiv N_int (mn 0 .shr) me_int) me_int) me_int (nomark _)) (mss_one (L2.st 2 sc__law_joint.nd (mv_fresh (me_op op_addA B_add N_add me_int (me_op op_mod B_mod N_int (me_op op_fdiv B_fdiv N_int (mn 0 .shr) me_int) me_int))))) mss_nil) (mss_cons (L2.st 3 sc__law_joint.nd (mv_fresh (me_op op_addA B_add N_add me_int (me_op op_mod B_mod N_int (me_op op_fdiv B_fdiv N_int (mn 0 .shr) me_int) (me_op op_sub B_sub N_int (mn 2 .own) me_int))))) (mss_cons (L2.st 4 sc__law_joint.nd (mv_fresh (me_op op_mod B_mod N_int (me_op op_fdiv B_fdiv N_int (mn 0 .shr) me_int) (me_op op_addA B_add N_add (me_callB call_lenA B_len N_len (by exact rfl) B.len PySem.boot_len (ma_cons (mn 1 .shr) ma_nil)) me_int)))) (mss_cons (stC 5 (N' := ["_law_j", "_law_number_here", "_law_word_here", "_law_place", "_law_at"]) (fr := [none, some 0, some 1, some 4, some 3]) sc__law_joint.nd rfl (cs_def sc__law_joint.nofree (by decide +kernel)) (mi_range1 rfl B.range (ma_cons (mn 2 .own) ma_nil)) (fun _ _ _ _ => (mg_one (pgn 0 (show List.Nodup (["_law_j", "_law_number_here", "_law_word_here", "_law_place", "_law_at"] : List Str) from by decide +kernel)))) (fun _ _ _ _ => mts_nil) (fun _ _ _ _ => (me_call (O__law_letter_by.mono (by decide)) hr (by exact rfl) passes_no (ma_cons (mn 1 .shr) (ma_cons (mn 2 .shr) (ma_cons (me_op op_addA B_add N_add (me_op op_sub B_sub N_int (mn 3 .brw) (mn 4 .brw)) (mn 0 .shr)) ma_nil))))) (by decide)) (mss_cons (ms_if (mt_cmp (op_eqAll hr.u12) B_eq N_eq (me_op op_mod B_mod N_int (me_op op_fdiv B_fdiv N_int (mn 0 .shr) me_int) me_int) me_int (nomark _)) (mss_one (stC 5 (N' := ["_law_j", "_law_number_here"]) (fr := [none, some 0]) sc__law_joint.nd rfl (cs_def sc__law_joint.nofree (by decide +kernel)) (mi_range1 rfl B.range (ma_cons (mn 2 .own) ma_nil)) (fun _ _ _ _ => (mg_one (pgn 0 (show List.Nodup (["_law_j", "_law_number_here"] : List Str) from by decide +kernel)))) (fun _ _ _ _ => mts_nil) (fun _ _ _ _ => (me_ix hr.u1 me_str (me_op op_mod B_mod N_int (me_op op_fdiv B_fdiv N_int (mn 1 .shr) (me_op op_mulA B_mul N_mul me_int (me_op op_addA B_add N_add me_int (mn 0 .shr)))) me_int))) (by decide))) mss_nil) (mss_cons (ms_if (mt_cmp (op_eqAll hr.u12) B_eq N_eq (me_op op_mod B_mod N_int (me_op op_fdiv B_fdiv N_int (mn 0 .shr) me_int) me_int) me_int (nomark _)) (mss_one (put 5 (mv_fresh (me_ix hr.u1 me_str (me_op op_mod B_mod N_int (me_op op_fdiv B_fdiv N_int (mn 0 .shr) me_int) me_int))) (me_op op_mod B_mod N_int (me_op op_fdiv B_fdiv N_int (mn 0 .shr) me_int) (mn 2 .own)))) mss_nil) (mss_cons (L2.st 6 sc__law_joint.nd (mv_fresh (me_ix hr.u1 me_str (me_op op_fdiv B_fdiv N_int (me_op op_mod B_mod N_int (me_op op_fdiv B_fdiv N_int (mn 0 .shr) me_int) me_int) me_int)))) (mss_one (ms_ret (mv_fresh (me_op op_addA B_add N_add (me_op op_addA B_add N_add (me_sm PySem.F.plainAttrs_str PySem.F.slot_str_join PySem.F.type_str_join mt_joinL B_join N_join me_str (ma_cons (me_sl (mn 5 .own) mo_none (mo_some (mn 3 .own))) ma_nil)) (mn 6 .own)) (me_sm PySem.F.plainAttrs_str PySem.F.slot_str_join PySem.F.type_str_join mt_joinL B_join N_join me_str (ma_cons (me_sl (mn 5 .own) (mo_some (mn 3 .own)) mo_none) ma_nil))))))))))))))
def t__law_mark : Tn → R Fl := (sRet (eImm (eBin ixD (eComp [none, some 0] (iL rng1 (aCons (eL lenD (aCons (eVar 0) aNil)) aNil)) (.one 0) (eTest (eBin inSD (eBin ixD (eVar 1) (eVar 0)) (eC (.str "-=")))) (eVar 0)) (eC (.int 0)))))
def F__law_mark : List D → R D := runB 1 t__law_mark
theorem sc__law_mark : FnScope ["_law_joint_here"] ["_law_joint_here"] (defScope (top 11)) := ⟨rfl, rfl, rfl, by decide +kernel, rfl, by decide +kernel, by decide +kernel⟩
theorem ok__law_mark (Df : DefIn K mg "_law_mark" (top 11) ["_law_joint_here"]) (B : Bl mg)  : Own P w K mg base "_law_mark" 1 ["_law_joint_here"] (spM K F__law_mark 1) :=
  Df.mir (k := 0) (Γ' := [.shr]) sc__law_mark (by decide) fun f cdv A outer s H E hr => (mss_one (ms_ret (mv_fresh (me_imm (me_ix hr.u1 (me_comp (N' := ["_law_k", "_law_joint_here"]) (fr := [none, some 0]) rfl (cs_def sc__law_mark.nofree (by decide +kernel)) (mi_range1 rfl B.range (ma_cons (me_callB call_lenA B_len N_len (by exact rfl) B.len PySem.boot_len (ma_cons (mn 0 .shr) ma_nil)) ma_nil)) (fun _ _ _ _ => (mg_one (pgn 0 (show List.Nodup (["_law_k", "_law_joint_here"] : List Str) from by decide +kernel)))) (fun _ _ _ _ => (mts_one (mt_cmp op_inS B_inS N_inS (me_ix hr.u1 (mn 1 .shr) (mn 0 .shr)) me_str (by exact rfl)))) (fun _ _ _ _ => (mn 0 .shr)) (by decide) (by decide)) me_int)))))
def t__law_fits : Tn → R Fl := (sSeq (sSet 3 (eL F__law_mark (aCons (eVar 0) aNil))) (sSeq (sFor (iL rng1 (aCons (eL lenD (aCons (eVar 0) aNil)) aNil)) (.one 4) (sSeq (sSet 5 (eBin subD (eBin addD (eBin subD (eVar 2) (eVar 3)) (eVar 4)) (eL int1D (aCons (eBin gtD (eVar 4) (eVar 3)) aNil)))) (sSeq (sIf (bAnd (eTest (eBin (eqR true) (eVar 4) (eVar 3))) (bNot (eTest (eChain leD ltD (eC (.int 0)) (eVar 5) (eL lenD (aCons (eVar 1) aNil)))))) (sRet (eC (.bl false))) sSkip) (sIf (bAnd (eTest (eBin (eqR true) (eVar 4) (eVar 3))) (eTest (eBin (eqR true) (eL F__law_small (aCons (eBin ixD (eVar 1) (eVar 5)) aNil)) (eBin ixD (eVar 0) (eVar 4))))) (sRet (eC (.bl false))) sSkip)))) (sRet (eC (.bl true)))))
def F__law_fits : List D → R D := runB 6 t__law_fits
theorem sc__law_fits : FnScope ["_law_joint_here", "_law_word_here", "_law_place", "_law_at", "_law_k", "_law_spot"] ["_law_joint_here", "_law_word_here", "_law_place"] (defScope (top 12)) := ⟨rfl, rfl, rfl, by decide +kernel, rfl, by decide +kernel, by decide +kernel⟩
theorem ok__law_fits (Df : DefIn K mg "_law_fits" (top 12) ["_law_joint_here", "_law_word_here", "_law_place"]) (B : Bl mg) (O__law_mark : Own P w K mg base "_law_mark" 1 ["_law_joint_here"] (spM K F__law_mark 1)) (O__law_small : Own P w K mg base "_law_small" 1 ["_law_sign_here"] (spM K F__law_small 1)) : Own P w K mg base "_law_fits" 2 ["_law_joint_here", "_law_word_here", "_law_place"] (spM K F__law_fits 3) :=
  Df.mir (k := 1) (Γ' := [.shr, .shr, .shr, .dead, .dead, .dead]) sc__law_fits (by decide) fun f cdv A outer s H E hr => (mss_cons (L2.st 3 sc__law_fits.nd (mv_fresh (me_call (O__law_mark.mono (by decide)) hr (by exact rfl) passes_cxx (ma_cons (mn 0 .shr) ma_nil)))) (mss_cons (ms_for (Γ2 := [.shr, .shr, .shr, .own, .shr, .own]) PassesOwn.leaving rfl (mi_range1 rfl B.range (ma_cons (me_callB call_lenA B_len N_len (by exact rfl) B.len PySem.boot_len (ma_cons (mn 0 .shr) ma_nil)) ma_nil)) (by decide) (mg_one (pgn 4 sc__law_fits.nd)) (by decide) (mss_cons (L2.st 5 sc__law_fits.nd (mv_fresh (me_op op_sub B_sub N_int (me_op op_addA B_add N_add (me_op op_sub B_sub N_int (mn 2 .shr) (mn 3 .own)) (mn 4 .shr)) (me_callTy call_int1 B_int1 N_int1 (by exact rfl) B.int Boot.«int» (ma_cons (me_cmp op_gt B_gt N_int (mn 4 .shr) (mn 3 .own) (nomark _)) ma_nil))))) (mss_cons (ms_if (MW.mt (mw_and (mt_cmp (op_neAll hr.u12) B_eq N_eq (mn 4 .shr) (mn 3 .own) (nomark _)) (mw_and1 (mt_not (mt_chain op_le B_le N_int op_lt B_lt N_int me_int (mn 5 .own) (me_callB call_lenA B_len N_len (by exact rfl) B.len PySem.boot_len (ma_cons (mn 1 .shr) ma_nil))))))) (mss_one (ms_ret (mv_fresh me_bl))) mss_nil) (mss_one (ms_if (MW.mt (mw_and (mt_cmp (op_neAll hr.u12) B_eq N_eq (mn 4 .shr) (mn 3 .own) (nomark _)) (mw_and1 (mt_cmp (op_neAll hr.u12) B_eq N_eq (me_call (O__law_small.mono (by decide)) hr (by exact rfl) passes_cxx (ma_cons (me_ix hr.u1 (mn 1 .shr) (mn 5 .own)) ma_nil)) (me_ix hr.u1 (mn 0 .shr) (mn 4 .shr)) (nomark _))))) (mss_one (ms_ret (mv_fresh me_bl))) mss_nil)))) rfl) (mss_one (ms_ret (mv_fresh me_bl)))))
def t_law : Tn → R Fl := (sSeq (sSet 1 (eL F__law_word (aCons (eVar 0) (aCons (eC (.int 0)) aNil)))) (sSeq (sFor (iL rng1 (aCons (eC (.int 6)) aNil)) (.one 2) (sSeq (sSet 3 (eL F__law_joint (aCons (eL F__law_number (aCons (eVar 0) (aCons (eBin addD (eC (.int 9)) (eVar 2)) aNil))) (aCons (eVar 1) aNil)))) (sFor (iL rng2 (aCons (eC (.int 1)) (aCons (eL lenD (aCons (eVar 1) aNil)) aNil))) (.one 4) (sSeq (sSet 5 (eL F_fits (aCons (eVar 3) (aCons (eVar 1) (aCons (eVar 4) aNil))))) (sIf (bOr (bNot (eTest (eUn (isiD "bool") (eVar 5)))) (eTest (eBin (eqR true) (eVar 5) (eL F__law_fits (aCons (eVar 3) (aCons (eVar 1) (aCons (eVar 4) aNil))))))) (sRet (eC (.bl false))) sSkip))))) (sRet (eC (.bl true)))))
def F_law : List D → R D := runB 6 t_law
theorem sc_law : FnScope ["_law_script", "_law_word_here", "_law_k", "_law_joint_here", "_law_place", "_law_found"] ["_law_script"] (defScope (top 13)) := ⟨rfl, rfl, rfl, by decide +kernel, rfl, by decide +kernel, by decide +kernel⟩
theorem body_law (B : Bl mg) (O__law_word : Own P w K mg base "_law_word" 2 ["_law_script", "_law_k"] (spM K F__law_word 2)) (O__law_joint : Own P w K mg base "_law_joint" 3 ["_law_number_here", "_law_word_here"] (spM K F__law_joint 2)) (O__law_number : Own P w K mg base "_law_number" 1 ["_law_script", "_law_k"] (spM K F__law_number 2)) (O_fits : Own P w K mg base "fits" 2 ["joint", "word", "place"] (spM K F_fits 3)) (O__law_fits : Own P w K mg base "_law_fits" 2 ["_law_joint_here", "_law_word_here", "_law_place"] (spM K F__law_fits 3)) : ∀ (f : Addr) (cdv : Value) (A : Around) (outer : List Env) (s : Shared) (H : Hp) (E : XK), Room 3 (A.deeper (envOfC "law" (defScope (top 13)) s.heap.objs.size f cdv)) → MSs (cxOf (cxx P w) P w K mg base ["_law_script", "_law_word_here", "_law_k", "_law_joint_here", "_law_place", "_law_found"] "law" (defScope (top 13)) f cdv A outer s H E) E [] (prmC 6 1) (defBody (top 13)) t_law [.shr, .dead, .dead, .dead, .dead, .dead] :=
  fun f cdv A outer s H E hr => (mss_cons (L2.st 1 sc_law.nd (mv_fresh (me_call (O__law_word.mono (by decide)) hr (by exact rfl) passes_cxx (ma_cons (mn 0 .shr) (ma_cons me_int ma_nil))))) (mss_cons (ms_for (Γ2 := [.shr, .own, .shr, .own, .dead, .dead]) PassesOwn.leaving rfl (mi_range1 rfl B.range (ma_cons me_int ma_nil)) (by decide) (mg_one (pgn 2 sc_law.nd)) (by decide) (mss_cons (L2.st 3 sc_law.nd (mv_fresh (me_call (O__law_joint.mono (by decide)) hr (by exact rfl) passes_cxx (ma_cons (me_call (O__law_number.mono (by decide)) hr (by exact rfl) passes_cxx (ma_cons (mn 0 .shr) (ma_cons (me_op op_addA B_add N_add me_int (mn 2 .shr)) ma_nil))) (ma_cons (mn 1 .own) ma_nil))))) (mss_one (ms_for (Γ2 := [.shr, .own, .shr, .own, .shr, .own]) PassesOwn.leaving rfl (mi_range2 rfl B.range (ma_cons me_int (ma_cons (me_callB call_lenA B_len N_len (by exact rfl) B.len PySem.boot_len (ma_cons (mn 1 .own) ma_nil)) ma_nil))) (by decide) (mg_one (pgn 4 sc_law.nd)) (by decide) (mss_cons (L2.st 5 sc_law.nd (mv_fresh (me_call (O_fits.mono (by decide)) hr (by exact rfl) passes_cxx (ma_cons (mn 3 .own) (ma_cons (mn 1 .own) (ma_cons (mn 4 .shr) ma_nil)))))) (mss_one (ms_if (MW.mt (mw_or (mt_not (mt_val (me_isi (T := "bool") (by decide) rfl B.isinstance (pe_bltn (v := .ty "bool") rfl B.bool Boot.«bool» rfl) (mn 5 .own)))) (mw_or1 (mt_cmp (op_neAll hr.u12) B_eq N_eq (mn 5 .own) (me_call (O__law_fits.mono (by decide)) hr (by exact rfl) passes_cxx (ma_cons (mn 3 .own) (ma_cons (mn 1 .own) (ma_cons (mn 4 .shr) ma_nil)))) (nomark _))))) (mss_one (ms_ret (mv_fresh me_bl))) mss_nil))) rfl))) rfl) (mss_one (ms_ret (mv_fresh me_bl)))))
theorem all_mk {h : Heap} {fa : Addr} (X : K.In h) (G : h.Ns mainGlobals mg) (hfa : mg "law" = some (.ref fa))
    {f_mark_at : Addr} {od_mark_at an_mark_at : Option Addr} {sl_mark_at : Array (Option Value)} {oc_mark_at kV_mark_at dc_mark_at pm_mark_at cd_mark_at ct_mark_at : Value}
    {f_letters_of : Addr} {od_letters_of an_letters_of : Option Addr} {sl_letters_of : Array (Option Value)} {oc_letters_of kV_letters_of dc_letters_of pm_letters_of cd_letters_of ct_letters_of : Value}
    {f_fits : Addr} {od_fits an_fits : Option Addr} {sl_fits : Array (Option Value)} {oc_fits kV_fits dc_fits pm_fits cd_fits ct_fits : Value}
    {f__law_number : Addr} {od__law_number an__law_number : Option Addr} {sl__law_number : Array (Option Value)} {oc__law_number kV__law_number dc__law_number pm__law_number cd__law_number ct__law_number : Value}
    {f__law_sign : Addr} {od__law_sign an__law_sign : Option Addr} {sl__law_sign : Array (Option Value)} {oc__law_sign kV__law_sign dc__law_sign pm__law_sign cd__law_sign ct__law_sign : Value}
    {f__law_word : Addr} {od__law_word an__law_word : Option Addr} {sl__law_word : Array (Option Value)} {oc__law_word kV__law_word dc__law_word pm__law_word cd__law_word ct__law_word : Value}
    {f__law_small : Addr} {od__law_small an__law_small : Option Addr} {sl__law_small : Array (Option Value)} {oc__law_small kV__law_small dc__law_small pm__law_small cd__law_small ct__law_small : Value}
    {f__law_letter_by : Addr} {od__law_letter_by an__law_letter_by : Option Addr} {sl__law_letter_by : Array (Option Value)} {oc__law_letter_by kV__law_letter_by dc__law_letter_by pm__law_letter_by cd__law_letter_by ct__law_letter_by : Value}
    {f__law_joint : Addr} {od__law_joint an__law_joint : Option Addr} {sl__law_joint : Array (Option Value)} {oc__law_joint kV__law_joint dc__law_joint pm__law_joint cd__law_joint ct__law_joint : Value}
    {f__law_mark : Addr} {od__law_mark an__law_mark : Option Addr} {sl__law_mark : Array (Option Value)} {oc__law_mark kV__law_mark dc__law_mark pm__law_mark cd__law_mark ct__law_mark : Value}
    {f__law_fits : Addr} {od__law_fits an__law_fits : Option Addr} {sl__law_fits : Array (Option Value)} {oc__law_fits kV__law_fits dc__law_fits pm__law_fits cd__law_fits ct__law_fits : Value}
    {f_law : Addr} {od_law an_law : Option Addr} {sl_law : Array (Option Value)} {oc_law kV_law dc_law pm_law cd_law ct_law : Value}
    (a_mark_at : PySem.W.nsIn K mainGlobals "mark_at" = some (some (.ref f_mark_at))) (l_mark_at : K.lookup f_mark_at = some ⟨oc_mark_at, od_mark_at, .func (PySem.W.fnOf "mark_at" "mark_at" (defArgs (top 1)) (defBody (top 1)) (defScope (top 1)) .none kV_mark_at dc_mark_at pm_mark_at an_mark_at cd_mark_at ct_mark_at), sl_mark_at⟩) (c_mark_at : PySem.W.codeIn K cd_mark_at "mark_at" = true) (k_mark_at : PySem.W.keepIn K (.ref f_mark_at) = true)
    (a_letters_of : PySem.W.nsIn K mainGlobals "letters_of" = some (some (.ref f_letters_of))) (l_letters_of : K.lookup f_letters_of = some ⟨oc_letters_of, od_letters_of, .func (PySem.W.fnOf "letters_of" "letters_of" (defArgs (top 2)) (defBody (top 2)) (defScope (top 2)) .none kV_letters_of dc_letters_of pm_letters_of an_letters_of cd_letters_of ct_letters_of), sl_letters_of⟩) (c_letters_of : PySem.W.codeIn K cd_letters_of "letters_of" = true) (k_letters_of : PySem.W.keepIn K (.ref f_letters_of) = true)
    (a_fits : PySem.W.nsIn K mainGlobals "fits" = some (some (.ref f_fits))) (l_fits : K.lookup f_fits = some ⟨oc_fits, od_fits, .func (PySem.W.fnOf "fits" "fits" (defArgs (top 3)) (defBody (top 3)) (defScope (top 3)) .none kV_fits dc_fits pm_fits an_fits cd_fits ct_fits), sl_fits⟩) (c_fits : PySem.W.codeIn K cd_fits "fits" = true) (k_fits : PySem.W.keepIn K (.ref f_fits) = true)
    (a__law_number : PySem.W.nsIn K mainGlobals "_law_number" = some (some (.ref f__law_number))) (l__law_number : K.lookup f__law_number = some ⟨oc__law_number, od__law_number, .func (PySem.W.fnOf "_law_number" "_law_number" (defArgs (top 5)) (defBody (top 5)) (defScope (top 5)) .none kV__law_number dc__law_number pm__law_number an__law_number cd__law_number ct__law_number), sl__law_number⟩) (c__law_number : PySem.W.codeIn K cd__law_number "_law_number" = true) (k__law_number : PySem.W.keepIn K (.ref f__law_number) = true)
    (a__law_sign : PySem.W.nsIn K mainGlobals "_law_sign" = some (some (.ref f__law_sign))) (l__law_sign : K.lookup f__law_sign = some ⟨oc__law_sign, od__law_sign, .func (PySem.W.fnOf "_law_sign" "_law_sign" (defArgs (top 6)) (defBody (top 6)) (defScope (top 6)) .none kV__law_sign dc__law_sign pm__law_sign an__law_sign cd__law_sign ct__law_sign), sl__law_sign⟩) (c__law_sign : PySem.W.codeIn K cd__law_sign "_law_sign" = true) (k__law_sign : PySem.W.keepIn K (.ref f__law_sign) = true)
    (a__law_word : PySem.W.nsIn K mainGlobals "_law_word" = some (some (.ref f__law_word))) (l__law_word : K.lookup f__law_word = some ⟨oc__law_word, od__law_word, .func (PySem.W.fnOf "_law_word" "_law_word" (defArgs (top 7)) (defBody (top 7)) (defScope (top 7)) .none kV__law_word dc__law_word pm__law_word an__law_word cd__law_word ct__law_word), sl__law_word⟩) (c__law_word : PySem.W.codeIn K cd__law_word "_law_word" = true) (k__law_word : PySem.W.keepIn K (.ref f__law_word) = true)
    (a__law_small : PySem.W.nsIn K mainGlobals "_law_small" = some (some (.ref f__law_small))) (l__law_small : K.lookup f__law_small = some ⟨oc__law_small, od__law_small, .func (PySem.W.fnOf "_law_small" "_law_small" (defArgs (top 8)) (defBody (top 8)) (defScope (top 8)) .none kV__law_small dc__law_small pm__law_small an__law_small cd__law_small ct__law_small), sl__law_small⟩) (c__law_small : PySem.W.codeIn K cd__law_small "_law_small" = true) (k__law_small : PySem.W.keepIn K (.ref f__law_small) = true)
    (a__law_letter_by : PySem.W.nsIn K mainGlobals "_law_letter_by" = some (some (.ref f__law_letter_by))) (l__law_letter_by : K.lookup f__law_letter_by = some ⟨oc__law_letter_by, od__law_letter_by, .func (PySem.W.fnOf "_law_letter_by" "_law_letter_by" (defArgs (top 9)) (defBody (top 9)) (defScope (top 9)) .none kV__law_letter_by dc__law_letter_by pm__law_letter_by an__law_letter_by cd__law_letter_by ct__law_letter_by), sl__law_letter_by⟩) (c__law_letter_by : PySem.W.codeIn K cd__law_letter_by "_law_letter_by" = true) (k__law_letter_by : PySem.W.keepIn K (.ref f__law_letter_by) = true)
    (a__law_joint : PySem.W.nsIn K mainGlobals "_law_joint" = some (some (.ref f__law_joint))) (l__law_joint : K.lookup f__law_joint = some ⟨oc__law_joint, od__law_joint, .func (PySem.W.fnOf "_law_joint" "_law_joint" (defArgs (top 10)) (defBody (top 10)) (defScope (top 10)) .none kV__law_joint dc__law_joint pm__law_joint an__law_joint cd__law_joint ct__law_joint), sl__law_joint⟩) (c__law_joint : PySem.W.codeIn K cd__law_joint "_law_joint" = true) (k__law_joint : PySem.W.keepIn K (.ref f__law_joint) = true)
    (a__law_mark : PySem.W.nsIn K mainGlobals "_law_mark" = some (some (.ref f__law_mark))) (l__law_mark : K.lookup f__law_mark = some ⟨oc__law_mark, od__law_mark, .func (PySem.W.fnOf "_law_mark" "_law_mark" (defArgs (top 11)) (defBody (top 11)) (defScope (top 11)) .none kV__law_mark dc__law_mark pm__law_mark an__law_mark cd__law_mark ct__law_mark), sl__law_mark⟩) (c__law_mark : PySem.W.codeIn K cd__law_mark "_law_mark" = true) (k__law_mark : PySem.W.keepIn K (.ref f__law_mark) = true)
    (a__law_fits : PySem.W.nsIn K mainGlobals "_law_fits" = some (some (.ref f__law_fits))) (l__law_fits : K.lookup f__law_fits = some ⟨oc__law_fits, od__law_fits, .func (PySem.W.fnOf "_law_fits" "_law_fits" (defArgs (top 12)) (defBody (top 12)) (defScope (top 12)) .none kV__law_fits dc__law_fits pm__law_fits an__law_fits cd__law_fits ct__law_fits), sl__law_fits⟩) (c__law_fits : PySem.W.codeIn K cd__law_fits "_law_fits" = true) (k__law_fits : PySem.W.keepIn K (.ref f__law_fits) = true)
    (a_law : PySem.W.nsIn K mainGlobals "law" = some (some (.ref f_law))) (l_law : K.lookup f_law = some ⟨oc_law, od_law, .func (PySem.W.fnOf "law" "law" (defArgs (top 13)) (defBody (top 13)) (defScope (top 13)) .none kV_law dc_law pm_law an_law cd_law ct_law), sl_law⟩) (c_law : PySem.W.codeIn K cd_law "law" = true) (k_law : PySem.W.keepIn K (.ref f_law) = true)
    (z_isinstance : PySem.W.nsIn K mainGlobals "isinstance" = some none)
    (z_int : PySem.W.nsIn K mainGlobals "int" = some none)
    (z_bool : PySem.W.nsIn K mainGlobals "bool" = some none)
    (z_str : PySem.W.nsIn K mainGlobals "str" = some none)
    (z_dict : PySem.W.nsIn K mainGlobals "dict" = some none)
    (z_list : PySem.W.nsIn K mainGlobals "list" = some none)
    (z_tuple : PySem.W.nsIn K mainGlobals "tuple" = some none)
    (z_len : PySem.W.nsIn K mainGlobals "len" = some none)
    (z_sum : PySem.W.nsIn K mainGlobals "sum" = some none)
    (z_max : PySem.W.nsIn K mainGlobals "max" = some none)
    (z_min : PySem.W.nsIn K mainGlobals "min" = some none)
    (z_all : PySem.W.nsIn K mainGlobals "all" = some none)
    (z_range : PySem.W.nsIn K mainGlobals "range" = some none)
    (z_enumerate : PySem.W.nsIn K mainGlobals "enumerate" = some none)
    (z_zip : PySem.W.nsIn K mainGlobals "zip" = some none) :
    ∃ fd : FuncData, (∀ (s : Shared) (v : Value), BindsTo s fd ⟨[v], []⟩ [("_law_script", v)]) ∧ ∀ base : Heap, K.In base → base.Ns mainGlobals mg → FnOk P w K mg base (cxx P w) 4 fa fd ["_law_script"] (spM K F_law 1) := by
  have e := hfa.symm.trans (PySem.W.mg_of X G a_law)
  cases e
  have B : Bl mg := ⟨PySem.W.mg_none_of X G z_isinstance, PySem.W.mg_none_of X G z_int, PySem.W.mg_none_of X G z_bool, PySem.W.mg_none_of X G z_str, PySem.W.mg_none_of X G z_dict, PySem.W.mg_none_of X G z_list, PySem.W.mg_none_of X G z_tuple, PySem.W.mg_none_of X G z_len, PySem.W.mg_none_of X G z_sum, PySem.W.mg_none_of X G z_max, PySem.W.mg_none_of X G z_min, PySem.W.mg_none_of X G z_all, PySem.W.mg_none_of X G z_range, PySem.W.mg_none_of X G z_enumerate, PySem.W.mg_none_of X G z_zip⟩
  refine ⟨PySem.W.fnOf "law" "law" (defArgs (top 13)) (defBody (top 13)) (defScope (top 13)) .none kV_law dc_law pm_law an_law cd_law ct_law, fun s v => .of_eq rfl, fun base _ _ => ?_⟩
  have D_mark_at : DefIn K mg "mark_at" (top 1) ["joint"] := defIn_mk X G (fun _ _ _ _ _ _ => bd1 fun _ => rfl) a_mark_at l_mark_at c_mark_at k_mark_at
  have O_mark_at := ok_mark_at (P := P) (w := w) (base := base) D_mark_at B 
  have D_letters_of : DefIn K mg "letters_of" (top 2) ["joint"] := defIn_mk X G (fun _ _ _ _ _ _ => bd1 fun _ => rfl) a_letters_of l_letters_of c_letters_of k_letters_of
  have O_letters_of := ok_letters_of (P := P) (w := w) (base := base) D_letters_of B 
  have D_fits : DefIn K mg "fits" (top 3) ["joint", "word", "place"] := defIn_mk X G (fun _ _ _ _ _ _ => bd3 fun _ _ _ => rfl) a_fits l_fits c_fits k_fits
  have O_fits := ok_fits (P := P) (w := w) (base := base) D_fits B O_letters_of O_mark_at
  have D__law_number : DefIn K mg "_law_number" (top 5) ["_law_script", "_law_k"] := defIn_mk X G (fun _ _ _ _ _ _ => bd2 fun _ _ => rfl) a__law_number l__law_number c__law_number k__law_number
  have O__law_number := ok__law_number (P := P) (w := w) (base := base) D__law_number B 
  have D__law_sign : DefIn K mg "_law_sign" (top 6) ["_law_number_here"] := defIn_mk X G (fun _ _ _ _ _ _ => bd1 fun _ => rfl) a__law_sign l__law_sign c__law_sign k__law_sign
  have O__law_sign := ok__law_sign (P := P) (w := w) (base := base) D__law_sign B 
  have D__law_word : DefIn K mg "_law_word" (top 7) ["_law_script", "_law_k"] := defIn_mk X G (fun _ _ _ _ _ _ => bd2 fun _ _ => rfl) a__law_word l__law_word c__law_word k__law_word
  have O__law_word := ok__law_word (P := P) (w := w) (base := base) D__law_word B O__law_number O__law_sign
  have D__law_small : DefIn K mg "_law_small" (top 8) ["_law_sign_here"] := defIn_mk X G (fun _ _ _ _ _ _ => bd1 fun _ => rfl) a__law_small l__law_small c__law_small k__law_small
  have O__law_small := ok__law_small (P := P) (w := w) (base := base) D__law_small B 
  have D__law_letter_by : DefIn K mg "_law_letter_by" (top 9) ["_law_number_here", "_law_word_here", "_law_spot"] := defIn_mk X G (fun _ _ _ _ _ _ => bd3 fun _ _ _ => rfl) a__law_letter_by l__law_letter_by c__law_letter_by k__law_letter_by
  have O__law_letter_by := ok__law_letter_by (P := P) (w := w) (base := base) D__law_letter_by B O__law_small
  have D__law_joint : DefIn K mg "_law_joint" (top 10) ["_law_number_here", "_law_word_here"] := defIn_mk X G (fun _ _ _ _ _ _ => bd2 fun _ _ => rfl) a__law_joint l__law_joint c__law_joint k__law_joint
  have O__law_joint := ok__law_joint (P := P) (w := w) (base := base) D__law_joint B O__law_letter_by
  have D__law_mark : DefIn K mg "_law_mark" (top 11) ["_law_joint_here"] := defIn_mk X G (fun _ _ _ _ _ _ => bd1 fun _ => rfl) a__law_mark l__law_mark c__law_mark k__law_mark
  have O__law_mark := ok__law_mark (P := P) (w := w) (base := base) D__law_mark B 
  have D__law_fits : DefIn K mg "_law_fits" (top 12) ["_law_joint_here", "_law_word_here", "_law_place"] := defIn_mk X G (fun _ _ _ _ _ _ => bd3 fun _ _ _ => rfl) a__law_fits l__law_fits c__law_fits k__law_fits
  have O__law_fits := ok__law_fits (P := P) (w := w) (base := base) D__law_fits B O__law_mark O__law_small
  exact mir_fn l_law c_law sc_law (by decide) (body_law B O__law_word O__law_joint O__law_number O_fits O__law_fits)
end
end K03

set_option maxRecDepth 100000
set_option maxHeartbeats 4000000
namespace K03
open PySem PyProof.Rows L2
def bW : Tn → R Fl := (sSeq (sSet 2 (eBin addD (eL F__law_number (aCons (eVar 0) (aCons (eBin addD (eBin addD (eVar 1) (eC (.int 1))) (eBin modD (eVar 5) (eC (.int 8)))) aNil))) (eBin mulD (eBin mulD (eC (.int 611)) (eVar 5)) (eVar 5)))) (sApp 4 (eL F__law_sign (aCons (eBin fdivD (eVar 2) (eC (.int 5))) aNil))))
def IFW : Tn → R Fl := (sIf (eTest (eBin (eqR false) (eBin modD (eBin fdivD (eVar 2) (eC (.int 12))) (eC (.int 6))) (eC (.int 1)))) (sSet 3 (eBin addD (eC (.int 1)) (eBin modD (eBin fdivD (eVar 2) (eC (.int 72))) (eC (.int 40))))) sSkip)
def TW : Tn → R Fl := (sSeq (sSet 2 (eL F__law_number (aCons (eVar 0) (aCons (eVar 1) aNil)))) (sSeq (sSet 3 (eBin addD (eC (.int 1)) (eBin modD (eVar 2) (eC (.int 12))))) (sSeq IFW (sSeq (sSet 4 (eL (fun ds => .ok (.lst ds)) aNil)) (sSeq (sFor (iL rng1 (aCons (eVar 3) aNil)) (.one 5) bW) (sRet (eSm joinD (eC (.str "")) (aCons (eVar 4) aNil))))))))
theorem tW : F__law_word = runB 6 TW := rfl
def S (l : List Nat) : Str := ⟨l.toArray⟩
theorem S_len (l : List Nat) : (S l).length = l.length := List.size_toArray
theorem S_cps (l : List Nat) : (S l).cps.toList = l := List.toList_toArray
theorem str_S (z : Str) : z = S z.cps.toList := by
  obtain ⟨a⟩ := z
  show (⟨a⟩ : Str) = ⟨a.toList.toArray⟩
  rw [Array.toArray_toList]
theorem S_app (a b : List Nat) : S a ++ S b = S (a ++ b) := by
  rw [str_S (S a ++ S b), app_cps, S_cps, S_cps]
theorem S_inj {a b : List Nat} (h : S a = S b) : a = b := by
  have := congrArg (fun z : Str => z.cps.toList) h
  rw [S_cps, S_cps] at this
  exact this
theorem S_eq (a b : List Nat) : (S a == S b) = decide (a = b) := by
  by_cases h : a = b
  · subst h; simp
  · rw [decide_eq_false h]
    exact beq_false_of_ne fun z => h (S_inj z)
theorem join_cons (x : Str) : ∀ ys : List Str, Str.join "" (x :: ys) = x ++ Str.join "" ys
  | [] => (Str.append_empty x).symm
  | y :: ys => by
    show x ++ "" ++ Str.join "" (y :: ys) = x ++ Str.join "" (y :: ys)
    have : (x ++ ("" : Str)) = x := Str.append_empty x
    rw [this]
def one (c : Nat) : Str := S [c]
theorem join_one : ∀ cs : List Nat, Str.join "" (cs.map one) = S cs
  | [] => rfl
  | c :: cs => by
    rw [List.map_cons, join_cons, join_one cs]
    exact S_app [c] cs
theorem sum_one (cs : List Nat) : ((cs.map one).map (·.length)).sum = cs.length := by
  induction cs with
  | nil => rfl
  | cons c cs ih => rw [List.map_cons, List.map_cons, List.sum_cons, ih, List.length_cons]; show 1 + _ = _; omega
theorem join_ok (cs : List Nat) (h : cs.length ≤ 1000) : joinD "" [.lst (cs.map fun c => D.str (one c))] = .ok (.str (S cs)) := by
  have e : (cs.map fun c => D.str (one c)) = (cs.map one).map D.str := by rw [List.map_map]; rfl
  have e0 : Str.length "" = 0 := by decide
  rw [e, ev_joinD (by rw [sum_one, e0, List.length_map]; omega), join_one]
theorem ix_at {cs : List Nat} {i : Int} {c : Nat} (hl : cs.length ≤ 1000) (h0 : 0 ≤ i) (h : cs[i.toNat]? = some c) : ixD (.str (S cs)) (.int i) = .ok (.str (one c)) :=
  ev_ixs (by rw [S_len, sizeLine_eq]; omega) (atI_ok h0 (by rw [S_cps]; exact h))
theorem pickS {z : Str} {i : Int} {p : Nat → Prop} (hz : z.length ≤ 1000) (h0 : 0 ≤ i) (h1 : i < z.length) (hp : ∀ c ∈ z.cps.toList, p c) : ∃ c, ixD (.str z) (.int i) = .ok (.str (one c)) ∧ p c := by
  have hl : z.cps.toList.length = z.length := by simp [Str.length]
  have hi : i.toNat < z.cps.toList.length := by omega
  refine ⟨z.cps.toList[i.toNat], ?_, hp _ (List.getElem_mem hi)⟩
  have := ix_at (cs := z.cps.toList) (i := i) (by omega) h0 (List.getElem?_eq_getElem hi)
  rw [← str_S z] at this
  exact this
theorem number (ns : List Int) (k : Int) (hk : 0 ≤ k) (hl : ns.length ≤ 63) : ∃ v, F__law_number [.frl (ns.map .int), .int k] = .ok (.int v) := by
  by_cases h : k < (ns.length : Int)
  · have hm : k.toNat < ns.length := by omega
    have hix : ixD (.frl (ns.map .int)) (.int k) = .ok (.int ns[k.toNat]) := ev_ixf (atI_ok hk (by rw [List.getElem?_map, List.getElem?_eq_getElem hm]; rfl))
    have e1 : decide (k < (ns.length : Int)) = true := decide_eq_true h
    refine ⟨(ns[k.toNat] + 7919 * k + 17) * 48271 % 2147483647, ?_⟩
    generalize ns[k.toNat] = v at *
    simp -implicitDefEqProofs only [F__law_number, t__law_number, ev_sApp, ev_appL, ev_appD, ev_eComp, ev_lstD, ev_ctN, ev_ctO, ev_ctS, ev_join, ev_eImm, ev_immI, ev_immS, ev_immB, ev_immN, ev_immT, ev_imsN, ev_imsI, ev_imsS, ev_goN, ev_goC, ev_goB, ev_goR, ev_xl0, ev_xl1, ev_xl2, ev_isiI, ev_isiB, sSkip, Nat.reduceLT, Nat.reduceLeDiff, runB, sSeq, sSet, sRet, sIf, sDrop, sAug, sAsg, eVar, eC, eBin, eUn, eL, aNil, aCons, eTest, bAnd, bOr, bNot, eAnd, eOr, eNot, eIf, eChain, eChain3, eSl, oNone, oSome, iSeq, iL, asB, asSeq, Tgt.asg, R.ok_bind, R.err_bind, R.bad_bind, List.map_cons, List.map_nil, List.length_cons, List.length_nil, List.replicate_succ, List.replicate_zero, List.cons_append, List.nil_append, List.getElem?_cons_zero, List.getElem?_cons_succ, List.set_cons_zero, List.set_cons_succ, Nat.reduceAdd, Nat.reduceSub, Nat.zero_add, ev_add, ev_sub, ev_lt, ev_le, ev_gt, ev_ge, ev_neg, ev_mod, ev_fdiv, ev_eqi, ev_eqs, ev_eqb, ev_eqin, ev_eqni, ev_eqnn, ev_ix0, ev_ix1, ev_ix2, ev_ix3, ev_lenl, ev_lenf, if_true, if_false, Bool.false_eq_true, decide_eq_true_eq, Int.reduceLT, Int.reduceNeg, Int.reduceLE, Int.reduceSub, Int.reduceAdd, List.length_map, e1, hix, ev_mulL, ev_mulR]
  · have e1 : decide (k < (ns.length : Int)) = false := decide_eq_false h
    refine ⟨(0 + 7919 * k + 17) * 48271 % 2147483647, ?_⟩
    simp -implicitDefEqProofs only [F__law_number, t__law_number, ev_sApp, ev_appL, ev_appD, ev_eComp, ev_lstD, ev_ctN, ev_ctO, ev_ctS, ev_join, ev_eImm, ev_immI, ev_immS, ev_immB, ev_immN, ev_immT, ev_imsN, ev_imsI, ev_imsS, ev_goN, ev_goC, ev_goB, ev_goR, ev_xl0, ev_xl1, ev_xl2, ev_isiI, ev_isiB, sSkip, Nat.reduceLT, Nat.reduceLeDiff, runB, sSeq, sSet, sRet, sIf, sDrop, sAug, sAsg, eVar, eC, eBin, eUn, eL, aNil, aCons, eTest, bAnd, bOr, bNot, eAnd, eOr, eNot, eIf, eChain, eChain3, eSl, oNone, oSome, iSeq, iL, asB, asSeq, Tgt.asg, R.ok_bind, R.err_bind, R.bad_bind, List.map_cons, List.map_nil, List.length_cons, List.length_nil, List.replicate_succ, List.replicate_zero, List.cons_append, List.nil_append, List.getElem?_cons_zero, List.getElem?_cons_succ, List.set_cons_zero, List.set_cons_succ, Nat.reduceAdd, Nat.reduceSub, Nat.zero_add, ev_add, ev_sub, ev_lt, ev_le, ev_gt, ev_ge, ev_neg, ev_mod, ev_fdiv, ev_eqi, ev_eqs, ev_eqb, ev_eqin, ev_eqni, ev_eqnn, ev_ix0, ev_ix1, ev_ix2, ev_ix3, ev_lenl, ev_lenf, if_true, if_false, Bool.false_eq_true, decide_eq_true_eq, Int.reduceLT, Int.reduceNeg, Int.reduceLE, Int.reduceSub, Int.reduceAdd, List.length_map, e1, ev_mulL, ev_mulR]
abbrev Z1 : Str := "aabbcABBAb"
abbrev Z2 : Str := "abcdefghijklmnopqrstuvwxyzABCDEFGHIJKLMNOPQRSTUVWXYZ0123456789.,;:!?'\"()-/"
theorem z1_len : Z1.length = 10 := by decide +kernel
theorem z2_len : Z2.length = 74 := by decide +kernel
theorem z1_lt : ∀ c ∈ Z1.cps.toList, c < 128 := by decide +kernel
theorem z2_lt : ∀ c ∈ Z2.cps.toList, c < 128 := by decide +kernel
theorem sign_g (A B : Str) (hA : A.length = 10) (hB : B.length = 74) (pA : ∀ c ∈ A.cps.toList, c < 128) (pB : ∀ c ∈ B.cps.toList, c < 128) (n : Int) : ∃ c, runB 2 (sSeq (sSet 1 (eC (.str B))) (sSeq (sIf (eTest (eBin ltD (eBin modD (eVar 0) (eC (.int 16))) (eC (.int 10)))) (sRet (eBin ixD (eC (.str A)) (eBin modD (eVar 0) (eC (.int 16))))) sSkip) (sSeq (sIf (eTest (eBin ltD (eBin modD (eVar 0) (eC (.int 16))) (eC (.int 13)))) (sRet (eC (.str "-"))) sSkip) (sRet (eImm (eBin ixD (eVar 1) (eBin modD (eBin fdivD (eVar 0) (eC (.int 16))) (eC (.int 74))))))))) [.int n] = .ok (.str (one c)) ∧ c < 128 := by
  have m16 : modD (.int n) (.int 16) = .ok (.int (n % 16)) := ev_mod (by decide)
  by_cases h : n % 16 < 10
  · obtain ⟨c, e, hc⟩ := pickS (z := A) (i := n % 16) (p := fun c => c < 128) (by omega) (by omega) (by omega) pA
    have e1 : decide (n % 16 < 10) = true := decide_eq_true h
    refine ⟨c, ?_, hc⟩
    generalize n % 16 = y at *
    simp -implicitDefEqProofs only [ev_sApp, ev_appL, ev_appD, ev_eComp, ev_lstD, ev_ctN, ev_ctO, ev_ctS, ev_join, ev_eImm, ev_immI, ev_immS, ev_immB, ev_immN, ev_immT, ev_imsN, ev_imsI, ev_imsS, ev_goN, ev_goC, ev_goB, ev_goR, ev_xl0, ev_xl1, ev_xl2, ev_isiI, ev_isiB, sSkip, Nat.reduceLT, Nat.reduceLeDiff, runB, sSeq, sSet, sRet, sIf, sDrop, sAug, sAsg, eVar, eC, eBin, eUn, eL, aNil, aCons, eTest, bAnd, bOr, bNot, eAnd, eOr, eNot, eIf, eChain, eChain3, eSl, oNone, oSome, iSeq, iL, asB, asSeq, Tgt.asg, R.ok_bind, R.err_bind, R.bad_bind, List.map_cons, List.map_nil, List.length_cons, List.length_nil, List.replicate_succ, List.replicate_zero, List.cons_append, List.nil_append, List.getElem?_cons_zero, List.getElem?_cons_succ, List.set_cons_zero, List.set_cons_succ, Nat.reduceAdd, Nat.reduceSub, Nat.zero_add, ev_add, ev_sub, ev_lt, ev_le, ev_gt, ev_ge, ev_neg, ev_mod, ev_fdiv, ev_eqi, ev_eqs, ev_eqb, ev_eqin, ev_eqni, ev_eqnn, ev_ix0, ev_ix1, ev_ix2, ev_ix3, ev_lenl, ev_lenf, if_true, if_false, Bool.false_eq_true, decide_eq_true_eq, Int.reduceLT, Int.reduceNeg, Int.reduceLE, Int.reduceSub, Int.reduceAdd, m16, e1, e]
  · have e1 : decide (n % 16 < 10) = false := decide_eq_false h
    by_cases h2 : n % 16 < 13
    · have e2 : decide (n % 16 < 13) = true := decide_eq_true h2
      refine ⟨45, ?_, by decide⟩
      show _ = R.ok (D.str "-")
      generalize n % 16 = y at *
      simp -implicitDefEqProofs only [ev_sApp, ev_appL, ev_appD, ev_eComp, ev_lstD, ev_ctN, ev_ctO, ev_ctS, ev_join, ev_eImm, ev_immI, ev_immS, ev_immB, ev_immN, ev_immT, ev_imsN, ev_imsI, ev_imsS, ev_goN, ev_goC, ev_goB, ev_goR, ev_xl0, ev_xl1, ev_xl2, ev_isiI, ev_isiB, sSkip, Nat.reduceLT, Nat.reduceLeDiff, runB, sSeq, sSet, sRet, sIf, sDrop, sAug, sAsg, eVar, eC, eBin, eUn, eL, aNil, aCons, eTest, bAnd, bOr, bNot, eAnd, eOr, eNot, eIf, eChain, eChain3, eSl, oNone, oSome, iSeq, iL, asB, asSeq, Tgt.asg, R.ok_bind, R.err_bind, R.bad_bind, List.map_cons, List.map_nil, List.length_cons, List.length_nil, List.replicate_succ, List.replicate_zero, List.cons_append, List.nil_append, List.getElem?_cons_zero, List.getElem?_cons_succ, List.set_cons_zero, List.set_cons_succ, Nat.reduceAdd, Nat.reduceSub, Nat.zero_add, ev_add, ev_sub, ev_lt, ev_le, ev_gt, ev_ge, ev_neg, ev_mod, ev_fdiv, ev_eqi, ev_eqs, ev_eqb, ev_eqin, ev_eqni, ev_eqnn, ev_ix0, ev_ix1, ev_ix2, ev_ix3, ev_lenl, ev_lenf, if_true, if_false, Bool.false_eq_true, decide_eq_true_eq, Int.reduceLT, Int.reduceNeg, Int.reduceLE, Int.reduceSub, Int.reduceAdd, m16, e1, e2]
    · have e2 : decide (n % 16 < 13) = false := decide_eq_false h2
      have d16 : fdivD (.int n) (.int 16) = .ok (.int (n / 16)) := ev_fdiv (by decide) (by decide)
      have m74 : modD (.int (n / 16)) (.int 74) = .ok (.int (n / 16 % 74)) := ev_mod (by decide)
      obtain ⟨c, e, hc⟩ := pickS (z := B) (i := n / 16 % 74) (p := fun c => c < 128) (by omega) (by omega) (by omega) pB
      refine ⟨c, ?_, hc⟩
      generalize n % 16 = y at *
      generalize n / 16 % 74 = y2 at *
      simp -implicitDefEqProofs only [ev_sApp, ev_appL, ev_appD, ev_eComp, ev_lstD, ev_ctN, ev_ctO, ev_ctS, ev_join, ev_eImm, ev_immI, ev_immS, ev_immB, ev_immN, ev_immT, ev_imsN, ev_imsI, ev_imsS, ev_goN, ev_goC, ev_goB, ev_goR, ev_xl0, ev_xl1, ev_xl2, ev_isiI, ev_isiB, sSkip, Nat.reduceLT, Nat.reduceLeDiff, runB, sSeq, sSet, sRet, sIf, sDrop, sAug, sAsg, eVar, eC, eBin, eUn, eL, aNil, aCons, eTest, bAnd, bOr, bNot, eAnd, eOr, eNot, eIf, eChain, eChain3, eSl, oNone, oSome, iSeq, iL, asB, asSeq, Tgt.asg, R.ok_bind, R.err_bind, R.bad_bind, List.map_cons, List.map_nil, List.length_cons, List.length_nil, List.replicate_succ, List.replicate_zero, List.cons_append, List.nil_append, List.getElem?_cons_zero, List.getElem?_cons_succ, List.set_cons_zero, List.set_cons_succ, Nat.reduceAdd, Nat.reduceSub, Nat.zero_add, ev_add, ev_sub, ev_lt, ev_le, ev_gt, ev_ge, ev_neg, ev_mod, ev_fdiv, ev_eqi, ev_eqs, ev_eqb, ev_eqin, ev_eqni, ev_eqnn, ev_ix0, ev_ix1, ev_ix2, ev_ix3, ev_lenl, ev_lenf, if_true, if_false, Bool.false_eq_true, decide_eq_true_eq, Int.reduceLT, Int.reduceNeg, Int.reduceLE, Int.reduceSub, Int.reduceAdd, m16, e1, e2, d16, m74, e]
theorem sign (n : Int) : ∃ c, F__law_sign [.int n] = .ok (.str (one c)) ∧ c < 128 := sign_g Z1 Z2 z1_len z2_len z1_lt z2_lt n
theorem bW_ok (S0 : D) (v j : Int) (L : List D) (x2 x3 : Option D) (c : D) (h1 : F__law_number [S0, .int (0 + 1 + j % 8)] = .ok (.int v)) (h2 : F__law_sign [.int ((v + 611 * j * j) / 5)] = .ok c) (hL : L.length < 16777216) (j0 : 0 ≤ j) (j1 : j < 100) :
    bW [some S0, some (.int 0), x2, x3, some (.lst L), some (.int j)] = .ok (.nx [some S0, some (.int 0), some (.int (v + 611 * j * j)), x3, some (.lst (L ++ [c])), some (.int j)]) := by
  have b0 : -18446744073709551616 < j := by omega
  have b1 : j < 18446744073709551616 := by omega
  have d5 : fdivD (.int (v + 611 * j * j)) (.int 5) = .ok (.int ((v + 611 * j * j) / 5)) := ev_fdiv (by decide) (by decide)
  have m8 : modD (.int j) (.int 8) = .ok (.int (j % 8)) := ev_mod (by decide)
  have e1 : (0 : Int) + 1 = 1 := rfl
  rw [e1] at h1
  simp -implicitDefEqProofs only [bW, ev_sApp, ev_appL, ev_appD, ev_eComp, ev_lstD, ev_ctN, ev_ctO, ev_ctS, ev_join, ev_eImm, ev_immI, ev_immS, ev_immB, ev_immN, ev_immT, ev_imsN, ev_imsI, ev_imsS, ev_goN, ev_goC, ev_goB, ev_goR, ev_xl0, ev_xl1, ev_xl2, ev_isiI, ev_isiB, sSkip, Nat.reduceLT, Nat.reduceLeDiff, runB, sSeq, sSet, sRet, sIf, sDrop, sAug, sAsg, eVar, eC, eBin, eUn, eL, aNil, aCons, eTest, bAnd, bOr, bNot, eAnd, eOr, eNot, eIf, eChain, eChain3, eSl, oNone, oSome, iSeq, iL, asB, asSeq, Tgt.asg, R.ok_bind, R.err_bind, R.bad_bind, List.map_cons, List.map_nil, List.length_cons, List.length_nil, List.replicate_succ, List.replicate_zero, List.cons_append, List.nil_append, List.getElem?_cons_zero, List.getElem?_cons_succ, List.set_cons_zero, List.set_cons_succ, Nat.reduceAdd, Nat.reduceSub, Nat.zero_add, ev_add, ev_sub, ev_lt, ev_le, ev_gt, ev_ge, ev_neg, ev_mod, ev_fdiv, ev_eqi, ev_eqs, ev_eqb, ev_eqin, ev_eqni, ev_eqnn, ev_ix0, ev_ix1, ev_ix2, ev_ix3, ev_lenl, ev_lenf, if_true, if_false, Bool.false_eq_true, decide_eq_true_eq, Int.reduceLT, Int.reduceNeg, Int.reduceLE, Int.reduceSub, Int.reduceAdd, m8, e1, h1, ev_mulL, ev_mulR b0 b1, d5, h2, hL]
theorem lW_ok (ns : List Int) (hl : ns.length ≤ 63) (m : Nat) (hm : m ≤ 40) (x2 x3 x5 : Option D) : ∃ (cs : List Nat) (y2 y5 : Option D), cs.length = m ∧ (∀ c ∈ cs, c < 128) ∧
    forGo (Tgt.one 5).asg bW (rng 0 m) [some (.frl (ns.map .int)), some (.int 0), x2, x3, some (.lst []), x5] = .ok (.nx [some (.frl (ns.map .int)), some (.int 0), y2, x3, some (.lst (cs.map fun c => D.str (one c))), y5]) := by
  obtain ⟨τ', e2, cs, y2, y5, g1, g2, h⟩ := forGo_inv (asg := (Tgt.one 5).asg) (body := bW)
    (fun i τ => ∃ (cs : List Nat) (y2 y5 : Option D), cs.length = i ∧ (∀ c ∈ cs, c < 128) ∧ τ = [some (.frl (ns.map .int)), some (.int 0), y2, x3, some (.lst (cs.map fun c => D.str (one c))), y5]) (rng 0 m) 0
    [some (.frl (ns.map .int)), some (.int 0), x2, x3, some (.lst []), x5] ⟨[], x2, x5, rfl, fun c hc => (nomatch hc), rfl⟩ (fun i q τ hd ⟨cs, y2, y5, l1, l2, h⟩ => by
      obtain ⟨hi, rfl⟩ := rng_get hd
      subst h
      obtain ⟨v, hv⟩ := number ns (0 + 1 + ((0 : Int) + (i : Nat)) % 8) (by omega) hl
      obtain ⟨c, hc, cl⟩ := sign ((v + 611 * ((0 : Int) + (i : Nat)) * ((0 : Int) + (i : Nat))) / 5)
      have hb := bW_ok (.frl (ns.map .int)) v ((0 : Int) + (i : Nat)) (cs.map fun c => D.str (one c)) y2 x3 (.str (one c)) hv hc (by rw [List.length_map]; omega) (by omega) (by omega)
      refine ⟨_, _, rfl, .inl hb, cs ++ [c], some (.int (v + 611 * ((0 : Int) + (i : Nat)) * ((0 : Int) + (i : Nat)))), some (.int ((0 : Int) + (i : Nat))), by rw [List.length_append, l1]; rfl, fun x hx => ?_, by rw [List.map_append]; rfl⟩
      rcases List.mem_append.mp hx with z | z
      · exact l2 x z
      · rw [List.mem_singleton.mp z]; exact cl)
  exact ⟨cs, y2, y5, by rw [g1, rng_len]; omega, g2, by rw [e2, h]⟩
theorem word (ns : List Int) (hl : ns.length ≤ 63) : ∃ cs : List Nat, F__law_word [.frl (ns.map .int), .int 0] = .ok (.str (S cs)) ∧ (∀ c ∈ cs, c < 128) ∧ 1 ≤ cs.length ∧ cs.length ≤ 40 := by
  obtain ⟨v, hv⟩ := number ns 0 (by decide) hl
  have d12 : fdivD (.int v) (.int 12) = .ok (.int (v / 12)) := ev_fdiv (by decide) (by decide)
  have d72 : fdivD (.int v) (.int 72) = .ok (.int (v / 72)) := ev_fdiv (by decide) (by decide)
  have m12 : modD (.int v) (.int 12) = .ok (.int (v % 12)) := ev_mod (by decide)
  have m6 : modD (.int (v / 12)) (.int 6) = .ok (.int (v / 12 % 6)) := ev_mod (by decide)
  have m40 : modD (.int (v / 72)) (.int 40) = .ok (.int (v / 72 % 40)) := ev_mod (by decide)
  obtain ⟨sz, hs, s0, s1⟩ : ∃ sz : Int, IFW [some (.frl (ns.map .int)), some (.int 0), some (.int v), some (.int (1 + v % 12)), none, none] = .ok (.nx [some (.frl (ns.map .int)), some (.int 0), some (.int v), some (.int sz), none, none]) ∧ 1 ≤ sz ∧ sz ≤ 40 := by
    generalize D.frl (ns.map .int) = S0 at *
    by_cases hq : v / 12 % 6 = 1
    · have z : (v / 12 % 6 == 1) = true := beq_iff_eq.mpr hq
      refine ⟨1 + v / 72 % 40, ?_, by omega, by omega⟩
      simp -implicitDefEqProofs only [IFW, ev_sApp, ev_appL, ev_appD, ev_eComp, ev_lstD, ev_ctN, ev_ctO, ev_ctS, ev_join, ev_eImm, ev_immI, ev_immS, ev_immB, ev_immN, ev_immT, ev_imsN, ev_imsI, ev_imsS, ev_goN, ev_goC, ev_goB, ev_goR, ev_xl0, ev_xl1, ev_xl2, ev_isiI, ev_isiB, sSkip, Nat.reduceLT, Nat.reduceLeDiff, runB, sSeq, sSet, sRet, sIf, sDrop, sAug, sAsg, eVar, eC, eBin, eUn, eL, aNil, aCons, eTest, bAnd, bOr, bNot, eAnd, eOr, eNot, eIf, eChain, eChain3, eSl, oNone, oSome, iSeq, iL, asB, asSeq, Tgt.asg, R.ok_bind, R.err_bind, R.bad_bind, List.map_cons, List.map_nil, List.length_cons, List.length_nil, List.replicate_succ, List.replicate_zero, List.cons_append, List.nil_append, List.getElem?_cons_zero, List.getElem?_cons_succ, List.set_cons_zero, List.set_cons_succ, Nat.reduceAdd, Nat.reduceSub, Nat.zero_add, ev_add, ev_sub, ev_lt, ev_le, ev_gt, ev_ge, ev_neg, ev_mod, ev_fdiv, ev_eqi, ev_eqs, ev_eqb, ev_eqin, ev_eqni, ev_eqnn, ev_ix0, ev_ix1, ev_ix2, ev_ix3, ev_lenl, ev_lenf, if_true, if_false, Bool.false_eq_true, decide_eq_true_eq, Int.reduceLT, Int.reduceNeg, Int.reduceLE, Int.reduceSub, Int.reduceAdd, d12, m6, z, d72, m40]
    · have z : (v / 12 % 6 == 1) = false := beq_false_of_ne hq
      refine ⟨1 + v % 12, ?_, by omega, by omega⟩
      simp -implicitDefEqProofs only [IFW, ev_sApp, ev_appL, ev_appD, ev_eComp, ev_lstD, ev_ctN, ev_ctO, ev_ctS, ev_join, ev_eImm, ev_immI, ev_immS, ev_immB, ev_immN, ev_immT, ev_imsN, ev_imsI, ev_imsS, ev_goN, ev_goC, ev_goB, ev_goR, ev_xl0, ev_xl1, ev_xl2, ev_isiI, ev_isiB, sSkip, Nat.reduceLT, Nat.reduceLeDiff, runB, sSeq, sSet, sRet, sIf, sDrop, sAug, sAsg, eVar, eC, eBin, eUn, eL, aNil, aCons, eTest, bAnd, bOr, bNot, eAnd, eOr, eNot, eIf, eChain, eChain3, eSl, oNone, oSome, iSeq, iL, asB, asSeq, Tgt.asg, R.ok_bind, R.err_bind, R.bad_bind, List.map_cons, List.map_nil, List.length_cons, List.length_nil, List.replicate_succ, List.replicate_zero, List.cons_append, List.nil_append, List.getElem?_cons_zero, List.getElem?_cons_succ, List.set_cons_zero, List.set_cons_succ, Nat.reduceAdd, Nat.reduceSub, Nat.zero_add, ev_add, ev_sub, ev_lt, ev_le, ev_gt, ev_ge, ev_neg, ev_mod, ev_fdiv, ev_eqi, ev_eqs, ev_eqb, ev_eqin, ev_eqni, ev_eqnn, ev_ix0, ev_ix1, ev_ix2, ev_ix3, ev_lenl, ev_lenf, if_true, if_false, Bool.false_eq_true, decide_eq_true_eq, Int.reduceLT, Int.reduceNeg, Int.reduceLE, Int.reduceSub, Int.reduceAdd, d12, m6, z]
  have e1 : rng1 [D.int sz] = .ok (rng 0 sz.toNat) := ev_rng1 (by omega) (by omega)
  obtain ⟨cs, y2, y5, g1, g2, h⟩ := lW_ok ns hl sz.toNat (by omega) (some (.int v)) (some (.int sz)) none
  have hj := join_ok cs (by omega)
  refine ⟨cs, ?_, g2, by omega, by omega⟩
  rw [tW]
  generalize (cs.map fun c => D.str (one c)) = W at *
  generalize D.frl (ns.map .int) = S0 at *
  generalize sz.toNat = m at *
  have eF : sFor (iL rng1 (aCons (eVar 3) aNil)) (.one 5) bW [some S0, some (.int 0), some (.int v), some (.int sz), some (.lst []), none] = _ := ev_for (by simp -implicitDefEqProofs only [ev_sApp, ev_appL, ev_appD, ev_eComp, ev_lstD, ev_ctN, ev_ctO, ev_ctS, ev_join, ev_eImm, ev_immI, ev_immS, ev_immB, ev_immN, ev_immT, ev_imsN, ev_imsI, ev_imsS, ev_goN, ev_goC, ev_goB, ev_goR, ev_xl0, ev_xl1, ev_xl2, ev_isiI, ev_isiB, sSkip, Nat.reduceLT, Nat.reduceLeDiff, runB, sSeq, sSet, sRet, sIf, sDrop, sAug, sAsg, eVar, eC, eBin, eUn, eL, aNil, aCons, eTest, bAnd, bOr, bNot, eAnd, eOr, eNot, eIf, eChain, eChain3, eSl, oNone, oSome, iSeq, iL, asB, asSeq, Tgt.asg, R.ok_bind, R.err_bind, R.bad_bind, List.map_cons, List.map_nil, List.length_cons, List.length_nil, List.replicate_succ, List.replicate_zero, List.cons_append, List.nil_append, List.getElem?_cons_zero, List.getElem?_cons_succ, List.set_cons_zero, List.set_cons_succ, Nat.reduceAdd, Nat.reduceSub, Nat.zero_add, ev_add, ev_sub, ev_lt, ev_le, ev_gt, ev_ge, ev_neg, ev_mod, ev_fdiv, ev_eqi, ev_eqs, ev_eqb, ev_eqin, ev_eqni, ev_eqnn, ev_ix0, ev_ix1, ev_ix2, ev_ix3, ev_lenl, ev_lenf, if_true, if_false, Bool.false_eq_true, decide_eq_true_eq, Int.reduceLT, Int.reduceNeg, Int.reduceLE, Int.reduceSub, Int.reduceAdd, e1]) h
  simp -implicitDefEqProofs only [TW, ev_sApp, ev_appL, ev_appD, ev_eComp, ev_lstD, ev_ctN, ev_ctO, ev_ctS, ev_join, ev_eImm, ev_immI, ev_immS, ev_immB, ev_immN, ev_immT, ev_imsN, ev_imsI, ev_imsS, ev_goN, ev_goC, ev_goB, ev_goR, ev_xl0, ev_xl1, ev_xl2, ev_isiI, ev_isiB, sSkip, Nat.reduceLT, Nat.reduceLeDiff, runB, sSeq, sSet, sRet, sIf, sDrop, sAug, sAsg, eVar, eC, eBin, eUn, eL, aNil, aCons, eTest, bAnd, bOr, bNot, eAnd, eOr, eNot, eIf, eChain, eChain3, eSl, oNone, oSome, iSeq, iL, asB, asSeq, Tgt.asg, R.ok_bind, R.err_bind, R.bad_bind, List.map_cons, List.map_nil, List.length_cons, List.length_nil, List.replicate_succ, List.replicate_zero, List.cons_append, List.nil_append, List.getElem?_cons_zero, List.getElem?_cons_succ, List.set_cons_zero, List.set_cons_succ, Nat.reduceAdd, Nat.reduceSub, Nat.zero_add, ev_add, ev_sub, ev_lt, ev_le, ev_gt, ev_ge, ev_neg, ev_mod, ev_fdiv, ev_eqi, ev_eqs, ev_eqb, ev_eqin, ev_eqni, ev_eqnn, ev_ix0, ev_ix1, ev_ix2, ev_ix3, ev_lenl, ev_lenf, if_true, if_false, Bool.false_eq_true, decide_eq_true_eq, Int.reduceLT, Int.reduceNeg, Int.reduceLE, Int.reduceSub, Int.reduceAdd, ev_eSm, ev_smD, hv, m12, hs, eF, hj]
end K03

set_option maxRecDepth 100000
set_option maxHeartbeats 4000000
namespace K03
open PySem PyProof.Rows L2
def chk (c : Nat) : Bool := match F__law_small [.str (one c)] with
  | .ok (.str s) => s == one (lo1 c)
  | _ => false
theorem chk_all : ∀ c, c < 128 → chk c = true := by decide +kernel
theorem small (c : Nat) (h : c < 128) : F__law_small [.str (one c)] = .ok (.str (one (lo1 c))) := by
  have := chk_all c h
  unfold chk at this
  split at this
  · rename_i s e
    rw [e, eq_of_beq this]
  · cases this
abbrev AZ : Str := "abcdefghijklmnopqrstuvwxyz"
theorem inS_one (c : Nat) (z : Str) : inS (one c) z = decide (c ∈ z.cps.toList) := StrLaws.found_one z c
theorem az_ok : ∀ c ∈ AZ.cps.toList, c ≠ 45 ∧ c ≠ 61 := by decide +kernel
abbrev ABC : Str := "abc"
theorem abc_ok : ∀ c ∈ ABC.cps.toList, c ≠ 45 ∧ c ≠ 61 := by decide +kernel
theorem abc_len : ABC.length = 3 := by decide +kernel
theorem letter_g (Z A : Str) (hZ : ∀ c ∈ Z.cps.toList, c ≠ 45 ∧ c ≠ 61) (hA : ∀ c ∈ A.cps.toList, c ≠ 45 ∧ c ≠ 61) (lA : A.length = 3) (n p : Int) (cs : List Nat) (hc : ∀ c ∈ cs, c < 128) (hl : cs.length ≤ 40) (p0 : -100 ≤ p) (p1 : p ≤ 100) : ∃ c, runB 3 (sSeq (sIf (bAnd (eTest (eChain leD ltD (eC (.int 0)) (eVar 2) (eL lenD (aCons (eVar 1) aNil)))) (eTest (eBin inSD (eL F__law_small (aCons (eBin ixD (eVar 1) (eVar 2)) aNil)) (eC (.str Z))))) (sRet (eL F__law_small (aCons (eBin ixD (eVar 1) (eVar 2)) aNil))) sSkip) (sRet (eBin ixD (eC (.str A)) (eBin modD (eBin fdivD (eVar 0) (eBin addD (eC (.int 1)) (eBin mulD (eVar 2) (eVar 2)))) (eC (.int 3)))))) [.int n, .str (S cs), .int p] = .ok (.str (one c)) ∧ c ≠ 45 ∧ c ≠ 61 := by
  have hlen : lenD [.str (S cs)] = .ok (.int (cs.length : Nat)) := by rw [ev_lens (by rw [S_len, sizeLine_eq]; omega), S_len]
  have q0 : 0 ≤ p * p := by
    rcases Int.le_total 0 p with h | h
    · exact Int.mul_nonneg h h
    · exact Int.mul_nonneg_of_nonpos_of_nonpos h h
  have q1 : p * p ≤ 10000 := by
    have : p * p ≤ 100 * 100 := by
      rcases Int.le_total 0 p with h | h
      · exact Int.mul_le_mul p1 p1 h (by omega)
      · have e : p * p = (-p) * (-p) := by rw [Int.neg_mul_neg]
        rw [e]
        exact Int.mul_le_mul (by omega) (by omega) (by omega) (by omega)
    omega
  have b0 : -18446744073709551616 < p := by omega
  have b1 : p < 18446744073709551616 := by omega
  have fd : fdivD (.int n) (.int (1 + p * p)) = .ok (.int (n / (1 + p * p))) := ev_fdiv (by omega) (by omega)
  have m3 : modD (.int (n / (1 + p * p))) (.int 3) = .ok (.int (n / (1 + p * p) % 3)) := ev_mod (by decide)
  obtain ⟨d, hd, dk⟩ := pickS (z := A) (i := n / (1 + p * p) % 3) (p := fun c => c ≠ 45 ∧ c ≠ 61) (by omega) (by omega) (by omega) hA
  by_cases h0 : 0 ≤ p
  · have e0 : decide (0 ≤ p) = true := decide_eq_true h0
    by_cases h1 : p < (cs.length : Nat)
    · have e1 : decide (p < ((cs.length : Nat) : Int)) = true := decide_eq_true h1
      have hi : p.toNat < cs.length := by omega
      have hx := ix_at (cs := cs) (i := p) (by omega) h0 (List.getElem?_eq_getElem hi)
      have hs := small _ (hc _ (List.getElem_mem hi))
      generalize cs[p.toNat] = c at *
      have hin : inSD (.str (one (lo1 c))) (.str Z) = .ok (.bl (inS (one (lo1 c)) Z)) := rfl
      generalize ((cs.length : Nat) : Int) = l at *
      by_cases h2 : lo1 c ∈ Z.cps.toList
      · rw [inS_one, decide_eq_true h2] at hin
        refine ⟨lo1 c, ?_, hZ _ h2⟩
        simp -implicitDefEqProofs only [ev_sApp, ev_appL, ev_appD, ev_eComp, ev_lstD, ev_ctN, ev_ctO, ev_ctS, ev_join, ev_eImm, ev_immI, ev_immS, ev_immB, ev_immN, ev_immT, ev_imsN, ev_imsI, ev_imsS, ev_goN, ev_goC, ev_goB, ev_goR, ev_xl0, ev_xl1, ev_xl2, ev_isiI, ev_isiB, sSkip, Nat.reduceLT, Nat.reduceLeDiff, runB, sSeq, sSet, sRet, sIf, sDrop, sAug, sAsg, eVar, eC, eBin, eUn, eL, aNil, aCons, eTest, bAnd, bOr, bNot, eAnd, eOr, eNot, eIf, eChain, eChain3, eSl, oNone, oSome, iSeq, iL, asB, asSeq, Tgt.asg, R.ok_bind, R.err_bind, R.bad_bind, List.map_cons, List.map_nil, List.length_cons, List.length_nil, List.replicate_succ, List.replicate_zero, List.cons_append, List.nil_append, List.getElem?_cons_zero, List.getElem?_cons_succ, List.set_cons_zero, List.set_cons_succ, Nat.reduceAdd, Nat.reduceSub, Nat.zero_add, ev_add, ev_sub, ev_lt, ev_le, ev_gt, ev_ge, ev_neg, ev_mod, ev_fdiv, ev_eqi, ev_eqs, ev_eqb, ev_eqin, ev_eqni, ev_eqnn, ev_ix0, ev_ix1, ev_ix2, ev_ix3, ev_lenl, ev_lenf, if_true, if_false, Bool.false_eq_true, decide_eq_true_eq, Int.reduceLT, Int.reduceNeg, Int.reduceLE, Int.reduceSub, Int.reduceAdd, hlen, e0, e1, hx, hs, hin]
      · rw [inS_one, decide_eq_false h2] at hin
        refine ⟨d, ?_, dk⟩
        simp -implicitDefEqProofs only [ev_sApp, ev_appL, ev_appD, ev_eComp, ev_lstD, ev_ctN, ev_ctO, ev_ctS, ev_join, ev_eImm, ev_immI, ev_immS, ev_immB, ev_immN, ev_immT, ev_imsN, ev_imsI, ev_imsS, ev_goN, ev_goC, ev_goB, ev_goR, ev_xl0, ev_xl1, ev_xl2, ev_isiI, ev_isiB, sSkip, Nat.reduceLT, Nat.reduceLeDiff, runB, sSeq, sSet, sRet, sIf, sDrop, sAug, sAsg, eVar, eC, eBin, eUn, eL, aNil, aCons, eTest, bAnd, bOr, bNot, eAnd, eOr, eNot, eIf, eChain, eChain3, eSl, oNone, oSome, iSeq, iL, asB, asSeq, Tgt.asg, R.ok_bind, R.err_bind, R.bad_bind, List.map_cons, List.map_nil, List.length_cons, List.length_nil, List.replicate_succ, List.replicate_zero, List.cons_append, List.nil_append, List.getElem?_cons_zero, List.getElem?_cons_succ, List.set_cons_zero, List.set_cons_succ, Nat.reduceAdd, Nat.reduceSub, Nat.zero_add, ev_add, ev_sub, ev_lt, ev_le, ev_gt, ev_ge, ev_neg, ev_mod, ev_fdiv, ev_eqi, ev_eqs, ev_eqb, ev_eqin, ev_eqni, ev_eqnn, ev_ix0, ev_ix1, ev_ix2, ev_ix3, ev_lenl, ev_lenf, if_true, if_false, Bool.false_eq_true, decide_eq_true_eq, Int.reduceLT, Int.reduceNeg, Int.reduceLE, Int.reduceSub, Int.reduceAdd, hlen, e0, e1, hx, hs, hin, ev_mulR b0 b1, fd, m3, hd]
    · have e1 : decide (p < ((cs.length : Nat) : Int)) = false := decide_eq_false h1
      refine ⟨d, ?_, dk⟩
      generalize ((cs.length : Nat) : Int) = l at *
      simp -implicitDefEqProofs only [ev_sApp, ev_appL, ev_appD, ev_eComp, ev_lstD, ev_ctN, ev_ctO, ev_ctS, ev_join, ev_eImm, ev_immI, ev_immS, ev_immB, ev_immN, ev_immT, ev_imsN, ev_imsI, ev_imsS, ev_goN, ev_goC, ev_goB, ev_goR, ev_xl0, ev_xl1, ev_xl2, ev_isiI, ev_isiB, sSkip, Nat.reduceLT, Nat.reduceLeDiff, runB, sSeq, sSet, sRet, sIf, sDrop, sAug, sAsg, eVar, eC, eBin, eUn, eL, aNil, aCons, eTest, bAnd, bOr, bNot, eAnd, eOr, eNot, eIf, eChain, eChain3, eSl, oNone, oSome, iSeq, iL, asB, asSeq, Tgt.asg, R.ok_bind, R.err_bind, R.bad_bind, List.map_cons, List.map_nil, List.length_cons, List.length_nil, List.replicate_succ, List.replicate_zero, List.cons_append, List.nil_append, List.getElem?_cons_zero, List.getElem?_cons_succ, List.set_cons_zero, List.set_cons_succ, Nat.reduceAdd, Nat.reduceSub, Nat.zero_add, ev_add, ev_sub, ev_lt, ev_le, ev_gt, ev_ge, ev_neg, ev_mod, ev_fdiv, ev_eqi, ev_eqs, ev_eqb, ev_eqin, ev_eqni, ev_eqnn, ev_ix0, ev_ix1, ev_ix2, ev_ix3, ev_lenl, ev_lenf, if_true, if_false, Bool.false_eq_true, decide_eq_true_eq, Int.reduceLT, Int.reduceNeg, Int.reduceLE, Int.reduceSub, Int.reduceAdd, hlen, e0, e1, ev_mulR b0 b1, fd, m3, hd]
  · have e0 : decide (0 ≤ p) = false := decide_eq_false h0
    refine ⟨d, ?_, dk⟩
    generalize ((cs.length : Nat) : Int) = l at *
    simp -implicitDefEqProofs only [ev_sApp, ev_appL, ev_appD, ev_eComp, ev_lstD, ev_ctN, ev_ctO, ev_ctS, ev_join, ev_eImm, ev_immI, ev_immS, ev_immB, ev_immN, ev_immT, ev_imsN, ev_imsI, ev_imsS, ev_goN, ev_goC, ev_goB, ev_goR, ev_xl0, ev_xl1, ev_xl2, ev_isiI, ev_isiB, sSkip, Nat.reduceLT, Nat.reduceLeDiff, runB, sSeq, sSet, sRet, sIf, sDrop, sAug, sAsg, eVar, eC, eBin, eUn, eL, aNil, aCons, eTest, bAnd, bOr, bNot, eAnd, eOr, eNot, eIf, eChain, eChain3, eSl, oNone, oSome, iSeq, iL, asB, asSeq, Tgt.asg, R.ok_bind, R.err_bind, R.bad_bind, List.map_cons, List.map_nil, List.length_cons, List.length_nil, List.replicate_succ, List.replicate_zero, List.cons_append, List.nil_append, List.getElem?_cons_zero, List.getElem?_cons_succ, List.set_cons_zero, List.set_cons_succ, Nat.reduceAdd, Nat.reduceSub, Nat.zero_add, ev_add, ev_sub, ev_lt, ev_le, ev_gt, ev_ge, ev_neg, ev_mod, ev_fdiv, ev_eqi, ev_eqs, ev_eqb, ev_eqin, ev_eqni, ev_eqnn, ev_ix0, ev_ix1, ev_ix2, ev_ix3, ev_lenl, ev_lenf, if_true, if_false, Bool.false_eq_true, decide_eq_true_eq, Int.reduceLT, Int.reduceNeg, Int.reduceLE, Int.reduceSub, Int.reduceAdd, hlen, e0, ev_mulR b0 b1, fd, m3, hd]
theorem letter_by (n p : Int) (cs : List Nat) (hc : ∀ c ∈ cs, c < 128) (hl : cs.length ≤ 40) (p0 : -100 ≤ p) (p1 : p ≤ 100) : ∃ c, F__law_letter_by [.int n, .str (S cs), .int p] = .ok (.str (one c)) ∧ c ≠ 45 ∧ c ≠ 61 := letter_g AZ ABC az_ok abc_ok abc_len n p cs hc hl p0 p1
theorem at_one (cs : List Nat) (c i : Nat) : StrLaws.At (S cs) (one c) (S cs).length i ↔ cs[i]? = some c := by
  unfold StrLaws.At
  have h1 : (one c).length = 1 := rfl
  rw [h1, S_len]
  unfold Builtin.Str.subAt
  have h2 : (one c).cps = #[c] := rfl
  have h3 : (S cs).cps = cs.toArray := rfl
  rw [h1, h2, h3]
  constructor
  · rintro ⟨a, b⟩
    have b := eq_of_beq b
    have := congrArg (fun z : Array Nat => z[0]?) b
    simp at this
    exact this
  · intro h
    have hi : i < cs.length := (List.getElem?_eq_some_iff.mp h).1
    refine ⟨by omega, ?_⟩
    rw [beq_iff_eq]
    apply Array.ext'
    simp
    rw [List.getElem?_eq_getElem hi] at h
    cases h
    rw [List.drop_eq_getElem_cons hi]
    rfl
theorem find_at (A B : List Nat) (m : Nat) (h : m ∉ A) : Txt.find (S (A ++ m :: B)) (one m) = (A.length : Nat) := by
  unfold Txt.find
  rcases StrLaws.occ_head (S (A ++ m :: B)) (one m) 1 (Nat.le_refl _) with ⟨e, hn⟩ | ⟨i, r, e, ha, hn⟩
  · exact absurd ((at_one _ _ A.length).mpr (by simp)) (hn A.length)
  · rw [e]
    have h1 := (at_one _ _ _).mp ha
    have h2 : ¬ A.length < i := fun z => hn A.length z ((at_one _ _ _).mpr (by simp))
    have h3 : ¬ i < A.length := fun z => by
      rw [List.getElem?_append_left z] at h1
      exact h (List.mem_of_getElem? h1)
    have : i = A.length := by omega
    rw [this]
theorem find_no (l : List Nat) (c : Nat) (h : c ∉ l) : Txt.find (S l) (one c) = -1 := by
  unfold Txt.find
  rcases StrLaws.occ_head (S l) (one c) 1 (Nat.le_refl _) with ⟨e, hn⟩ | ⟨i, r, e, ha, hn⟩
  · rw [e]
  · exact absurd (List.mem_of_getElem? ((at_one _ _ _).mp ha)) h
theorem strike (l : List Nat) (c : Nat) : Txt.replace (S l) (one c) ⟨#[]⟩ = S (l.filter (· != c)) := by
  rw [str_S (Txt.replace (S l) (one c) ⟨#[]⟩)]
  have := replace_strikes (S l) c
  rw [S_cps] at this
  have e : (⟨#[c]⟩ : Str) = one c := rfl
  rw [e] at this
  rw [this]
theorem filt_self {A : List Nat} {m : Nat} (h : m ∉ A) : A.filter (· != m) = A := by
  rw [List.filter_eq_self]
  intro a ha
  have : a ≠ m := fun z => h (z ▸ ha)
  simpa using this
structure Jt (A B : List Nat) (m : Nat) : Prop where
  mm : m = 45 ∨ m = 61
  a1 : ∀ c ∈ A, c ≠ 45 ∧ c ≠ 61
  b1 : ∀ c ∈ B, c ≠ 45 ∧ c ≠ 61
  l1 : A.length + B.length ≤ 8
theorem mark_at (A B : List Nat) (m : Nat) (j : Jt A B m) : F_mark_at [.str (S (A ++ m :: B))] = .ok (.int (A.length : Nat)) := by
  have c1 : (one 45) = ("-" : Str) := rfl
  have c2 : (one 61) = ("=" : Str) := rfl
  have nA : ∀ c, (c = 45 ∨ c = 61) → c ∉ A := fun c hc h => by have := j.a1 c h; rcases hc with e | e <;> subst e <;> simp at this
  have nB : ∀ c, (c = 45 ∨ c = 61) → c ∉ B := fun c hc h => by have := j.b1 c h; rcases hc with e | e <;> subst e <;> simp at this
  have key : ∃ u v : Int, findD (S (A ++ m :: B)) [.str "-"] = .ok (.int u) ∧ findD (S (A ++ m :: B)) [.str "="] = .ok (.int v) ∧ max2D [.int u, .int v] = .ok (.int (A.length : Nat)) := by
    rcases j.mm with rfl | rfl
    · refine ⟨(A.length : Nat), -1, ?_, ?_, ?_⟩
      · show R.ok (D.int (Txt.find (S (A ++ 45 :: B)) (one 45))) = _
        rw [find_at A B 45 (nA 45 (.inl rfl))]
      · show R.ok (D.int (Txt.find (S (A ++ 45 :: B)) (one 61))) = _
        rw [find_no _ _ (by simp [nA 61 (.inr rfl), nB 61 (.inr rfl)])]
      · show R.ok (D.int (if ((A.length : Nat) : Int) < -1 then _ else _)) = _
        rw [if_neg (by omega)]
    · refine ⟨-1, (A.length : Nat), ?_, ?_, ?_⟩
      · show R.ok (D.int (Txt.find (S (A ++ 61 :: B)) (one 45))) = _
        rw [find_no _ _ (by simp [nA 45 (.inl rfl), nB 45 (.inl rfl)])]
      · show R.ok (D.int (Txt.find (S (A ++ 61 :: B)) (one 61))) = _
        rw [find_at A B 61 (nA 61 (.inr rfl))]
      · show R.ok (D.int (if (-1 : Int) < ((A.length : Nat) : Int) then _ else _)) = _
        rw [if_pos (by omega)]
  obtain ⟨u, v, h1, h2, h3⟩ := key
  generalize ((A.length : Nat) : Int) = l at *
  generalize S (A ++ m :: B) = J at *
  simp -implicitDefEqProofs only [F_mark_at, t_mark_at, ev_sApp, ev_appL, ev_appD, ev_eComp, ev_lstD, ev_ctN, ev_ctO, ev_ctS, ev_join, ev_eImm, ev_immI, ev_immS, ev_immB, ev_immN, ev_immT, ev_imsN, ev_imsI, ev_imsS, ev_goN, ev_goC, ev_goB, ev_goR, ev_xl0, ev_xl1, ev_xl2, ev_isiI, ev_isiB, sSkip, Nat.reduceLT, Nat.reduceLeDiff, runB, sSeq, sSet, sRet, sIf, sDrop, sAug, sAsg, eVar, eC, eBin, eUn, eL, aNil, aCons, eTest, bAnd, bOr, bNot, eAnd, eOr, eNot, eIf, eChain, eChain3, eSl, oNone, oSome, iSeq, iL, asB, asSeq, Tgt.asg, R.ok_bind, R.err_bind, R.bad_bind, List.map_cons, List.map_nil, List.length_cons, List.length_nil, List.replicate_succ, List.replicate_zero, List.cons_append, List.nil_append, List.getElem?_cons_zero, List.getElem?_cons_succ, List.set_cons_zero, List.set_cons_succ, Nat.reduceAdd, Nat.reduceSub, Nat.zero_add, ev_add, ev_sub, ev_lt, ev_le, ev_gt, ev_ge, ev_neg, ev_mod, ev_fdiv, ev_eqi, ev_eqs, ev_eqb, ev_eqin, ev_eqni, ev_eqnn, ev_ix0, ev_ix1, ev_ix2, ev_ix3, ev_lenl, ev_lenf, if_true, if_false, Bool.false_eq_true, decide_eq_true_eq, Int.reduceLT, Int.reduceNeg, Int.reduceLE, Int.reduceSub, Int.reduceAdd, ev_eSm, ev_smD, h1, h2, h3]
theorem letters_of (A B : List Nat) (m : Nat) (j : Jt A B m) : F_letters_of [.str (S (A ++ m :: B))] = .ok (.str (S (A ++ B))) := by
  have nA : ∀ c, (c = 45 ∨ c = 61) → c ∉ A := fun c hc h => by have := j.a1 c h; rcases hc with e | e <;> subst e <;> simp at this
  have nB : ∀ c, (c = 45 ∨ c = 61) → c ∉ B := fun c hc h => by have := j.b1 c h; rcases hc with e | e <;> subst e <;> simp at this
  have r0 : ∀ (l : List Nat) (c : Nat), l.length ≤ 100 → replD (one c) "" (.str (S l)) = .ok (.str (S (l.filter (· != c)))) := fun l c h => by
    show (if (S l).length ≤ 1048576 then R.ok (D.str (Txt.replace (S l) (one c) ⟨#[]⟩)) else R.bad) = _
    rw [if_pos (by rw [S_len]; omega), strike]
  have hl : (A ++ m :: B).length ≤ 100 := by have := j.l1; simp; omega
  have r1 := r0 (A ++ m :: B) 45 hl
  have r2 := r0 ((A ++ m :: B).filter (· != 45)) 61 (Nat.le_trans (List.length_filter_le _ _) hl)
  have ef : ((A ++ m :: B).filter (· != 45)).filter (· != 61) = A ++ B := by
    rw [List.filter_append, List.filter_append, filt_self (nA 45 (.inl rfl)), filt_self (nA 61 (.inr rfl))]
    rcases j.mm with rfl | rfl
    · rw [List.filter_cons_of_neg (by simp), filt_self (nB 45 (.inl rfl)), filt_self (nB 61 (.inr rfl))]
    · rw [List.filter_cons_of_pos (by simp), filt_self (nB 45 (.inl rfl)), List.filter_cons_of_neg (by simp), filt_self (nB 61 (.inr rfl))]
  rw [ef] at r2
  have c1 : (one 45) = ("-" : Str) := rfl
  have c2 : (one 61) = ("=" : Str) := rfl
  rw [c1] at r1
  rw [c2] at r2
  generalize S (A ++ m :: B) = J at *
  generalize S ((A ++ m :: B).filter (· != 45)) = J2 at *
  simp -implicitDefEqProofs only [F_letters_of, t_letters_of, ev_sApp, ev_appL, ev_appD, ev_eComp, ev_lstD, ev_ctN, ev_ctO, ev_ctS, ev_join, ev_eImm, ev_immI, ev_immS, ev_immB, ev_immN, ev_immT, ev_imsN, ev_imsI, ev_imsS, ev_goN, ev_goC, ev_goB, ev_goR, ev_xl0, ev_xl1, ev_xl2, ev_isiI, ev_isiB, sSkip, Nat.reduceLT, Nat.reduceLeDiff, runB, sSeq, sSet, sRet, sIf, sDrop, sAug, sAsg, eVar, eC, eBin, eUn, eL, aNil, aCons, eTest, bAnd, bOr, bNot, eAnd, eOr, eNot, eIf, eChain, eChain3, eSl, oNone, oSome, iSeq, iL, asB, asSeq, Tgt.asg, R.ok_bind, R.err_bind, R.bad_bind, List.map_cons, List.map_nil, List.length_cons, List.length_nil, List.replicate_succ, List.replicate_zero, List.cons_append, List.nil_append, List.getElem?_cons_zero, List.getElem?_cons_succ, List.set_cons_zero, List.set_cons_succ, Nat.reduceAdd, Nat.reduceSub, Nat.zero_add, ev_add, ev_sub, ev_lt, ev_le, ev_gt, ev_ge, ev_neg, ev_mod, ev_fdiv, ev_eqi, ev_eqs, ev_eqb, ev_eqin, ev_eqni, ev_eqnn, ev_ix0, ev_ix1, ev_ix2, ev_ix3, ev_lenl, ev_lenf, if_true, if_false, Bool.false_eq_true, decide_eq_true_eq, Int.reduceLT, Int.reduceNeg, Int.reduceLE, Int.reduceSub, Int.reduceAdd, r1, r2]
end K03

set_option maxRecDepth 100000
set_option maxHeartbeats 4000000
namespace K03
open PySem PyProof.Rows L2
def J0 : Tn → R Fl := (sSet 2 (eBin addD (eC (.int 2)) (eBin modD (eVar 0) (eC (.int 3)))))
def J1 : Tn → R Fl := (sIf (eTest (eBin (eqR false) (eBin modD (eBin fdivD (eVar 0) (eC (.int 3))) (eC (.int 5))) (eC (.int 1)))) (sSet 2 (eBin addD (eC (.int 2)) (eBin modD (eBin fdivD (eVar 0) (eC (.int 15))) (eC (.int 7))))) sSkip)
def J2 : Tn → R Fl := (sSet 3 (eBin addD (eC (.int 1)) (eBin modD (eBin fdivD (eVar 0) (eC (.int 105))) (eBin subD (eVar 2) (eC (.int 1))))))
def J3 : Tn → R Fl := (sSet 4 (eBin modD (eBin fdivD (eVar 0) (eC (.int 21))) (eBin addD (eL lenD (aCons (eVar 1) aNil)) (eC (.int 1)))))
def J4 : Tn → R Fl := (sSet 5 (eComp [none, some 0, some 1, some 4, some 3] (iL rng1 (aCons (eVar 2) aNil)) (.one 0) (fun _ => .ok true) (eL F__law_letter_by (aCons (eVar 1) (aCons (eVar 2) (aCons (eBin addD (eBin subD (eVar 3) (eVar 4)) (eVar 0)) aNil))))))
def J5 : Tn → R Fl := (sIf (eTest (eBin (eqR false) (eBin modD (eBin fdivD (eVar 0) (eC (.int 29))) (eC (.int 5))) (eC (.int 1)))) (sSet 5 (eComp [none, some 0] (iL rng1 (aCons (eVar 2) aNil)) (.one 0) (fun _ => .ok true) (eBin ixD (eC (.str "ab")) (eBin modD (eBin fdivD (eVar 1) (eBin mulD (eC (.int 31)) (eBin addD (eC (.int 1)) (eVar 0)))) (eC (.int 2)))))) sSkip)
def J6 : Tn → R Fl := (sIf (eTest (eBin (eqR false) (eBin modD (eBin fdivD (eVar 0) (eC (.int 29))) (eC (.int 5))) (eC (.int 2)))) (sPut 5 (eBin ixD (eC (.str "abcz")) (eBin modD (eBin fdivD (eVar 0) (eC (.int 1160))) (eC (.int 4)))) (eBin modD (eBin fdivD (eVar 0) (eC (.int 145))) (eVar 2))) sSkip)
def J7 : Tn → R Fl := (sSet 6 (eBin ixD (eC (.str "-=")) (eBin fdivD (eBin modD (eBin fdivD (eVar 0) (eC (.int 37))) (eC (.int 5))) (eC (.int 3)))))
def J8 : Tn → R Fl := (sRet (eBin addD (eBin addD (eSm joinD (eC (.str "")) (aCons (eSl (eVar 5) oNone (oSome (eVar 3))) aNil)) (eVar 6)) (eSm joinD (eC (.str "")) (aCons (eSl (eVar 5) (oSome (eVar 3)) oNone) aNil))))
def TJ : Tn → R Fl := (sSeq J0 (sSeq J1 (sSeq J2 (sSeq J3 (sSeq J4 (sSeq J5 (sSeq J6 (sSeq J7 J8))))))))
theorem tJ : F__law_joint = runB 7 TJ := rfl
def JE : Tn → R D := (eL F__law_letter_by (aCons (eVar 1) (aCons (eVar 2) (aCons (eBin addD (eBin subD (eVar 3) (eVar 4)) (eVar 0)) aNil))))
def JF : Tn → R D := (eBin ixD (eC (.str "ab")) (eBin modD (eBin fdivD (eVar 1) (eBin mulD (eC (.int 31)) (eBin addD (eC (.int 1)) (eVar 0)))) (eC (.int 2))))
def okL (c : Nat) : Prop := c ≠ 45 ∧ c ≠ 61
def enc1 (c : Nat) : D := .str (one c)
theorem cut_to {α : Type} {xs : List α} {b : Nat} (hb : b ≤ xs.length) : cutL xs none (some (b : Int)) = xs.take b := by
  unfold cutL
  rw [HT.sIx_nat, HT.sIx_none, Nat.min_eq_left hb]
  rfl
theorem cut_from {α : Type} {xs : List α} {a : Nat} (ha : a ≤ xs.length) : cutL xs (some (a : Int)) none = xs.drop a := by
  unfold cutL
  rw [HT.sIx_nat, HT.sIx_none, Nat.min_eq_left ha]
  exact List.take_of_length_le (by rw [List.length_drop]; omega)
theorem je_ok (n : Int) (cs : List Nat) (hc : ∀ c ∈ cs, c < 128) (hl : cs.length ≤ 40) (pl at_ : Int) (p0 : 0 ≤ pl) (p1 : pl ≤ 40) (a0 : 0 ≤ at_) (a1 : at_ ≤ 8) (i : Nat) (hi : i < 8) :
    ∃ c, compF (Tgt.one 0).asg (fun _ => .ok true) JE [none, some (.int n), some (.str (S cs)), some (.int pl), some (.int at_)] (.int ((0 : Int) + (i : Nat))) = .ok (some (enc1 c)) ∧ okL c := by
  obtain ⟨c, e, hk⟩ := letter_by n (pl - at_ + ((0 : Int) + (i : Nat))) cs hc hl (by omega) (by omega)
  refine ⟨c, ?_, hk⟩
  show _ = R.ok (some (D.str (one c)))
  generalize (0 : Int) + ((i : Nat) : Int) = I at *
  simp -implicitDefEqProofs only [compF, noErr_ok', JE, ev_sApp, ev_appL, ev_appD, ev_eComp, ev_lstD, ev_ctN, ev_ctO, ev_ctS, ev_join, ev_eImm, ev_immI, ev_immS, ev_immB, ev_immN, ev_immT, ev_imsN, ev_imsI, ev_imsS, ev_goN, ev_goC, ev_goB, ev_goR, ev_xl0, ev_xl1, ev_xl2, ev_isiI, ev_isiB, sSkip, Nat.reduceLT, Nat.reduceLeDiff, runB, sSeq, sSet, sRet, sIf, sDrop, sAug, sAsg, eVar, eC, eBin, eUn, eL, aNil, aCons, eTest, bAnd, bOr, bNot, eAnd, eOr, eNot, eIf, eChain, eChain3, eSl, oNone, oSome, iSeq, iL, asB, asSeq, Tgt.asg, R.ok_bind, R.err_bind, R.bad_bind, List.map_cons, List.map_nil, List.length_cons, List.length_nil, List.replicate_succ, List.replicate_zero, List.cons_append, List.nil_append, List.getElem?_cons_zero, List.getElem?_cons_succ, List.set_cons_zero, List.set_cons_succ, Nat.reduceAdd, Nat.reduceSub, Nat.zero_add, ev_add, ev_sub, ev_lt, ev_le, ev_gt, ev_ge, ev_neg, ev_mod, ev_fdiv, ev_eqi, ev_eqs, ev_eqb, ev_eqin, ev_eqni, ev_eqnn, ev_ix0, ev_ix1, ev_ix2, ev_ix3, ev_lenl, ev_lenf, if_true, if_false, Bool.false_eq_true, decide_eq_true_eq, Int.reduceLT, Int.reduceNeg, Int.reduceLE, Int.reduceSub, Int.reduceAdd, e]
abbrev AB2 : Str := "ab"
theorem ab_len : AB2.length = 2 := by decide +kernel
theorem ab_ok : ∀ c ∈ AB2.cps.toList, okL c := by unfold okL; decide +kernel
theorem jf_g (A : Str) (lA : A.length = 2) (hA : ∀ c ∈ A.cps.toList, okL c) (n : Int) (i : Nat) (hi : i < 8) :
    ∃ c, compF (Tgt.one 0).asg (fun _ => .ok true) (eBin ixD (eC (.str A)) (eBin modD (eBin fdivD (eVar 1) (eBin mulD (eC (.int 31)) (eBin addD (eC (.int 1)) (eVar 0)))) (eC (.int 2)))) [none, some (.int n)] (.int ((0 : Int) + (i : Nat))) = .ok (some (enc1 c)) ∧ okL c := by
  have h0 : 0 ≤ (0 : Int) + (i : Nat) ∧ (0 : Int) + (i : Nat) < 8 := by omega
  generalize (0 : Int) + ((i : Nat) : Int) = I at *
  have fd : fdivD (.int n) (.int (31 * (1 + I))) = .ok (.int (n / (31 * (1 + I)))) := ev_fdiv (by omega) (by omega)
  have m2 : modD (.int (n / (31 * (1 + I)))) (.int 2) = .ok (.int (n / (31 * (1 + I)) % 2)) := ev_mod (by decide)
  obtain ⟨c, e, hk⟩ := pickS (z := A) (i := n / (31 * (1 + I)) % 2) (p := okL) (by omega) (by omega) (by omega) hA
  refine ⟨c, ?_, hk⟩
  show _ = R.ok (some (D.str (one c)))
  simp -implicitDefEqProofs only [compF, noErr_ok', ev_sApp, ev_appL, ev_appD, ev_eComp, ev_lstD, ev_ctN, ev_ctO, ev_ctS, ev_join, ev_eImm, ev_immI, ev_immS, ev_immB, ev_immN, ev_immT, ev_imsN, ev_imsI, ev_imsS, ev_goN, ev_goC, ev_goB, ev_goR, ev_xl0, ev_xl1, ev_xl2, ev_isiI, ev_isiB, sSkip, Nat.reduceLT, Nat.reduceLeDiff, runB, sSeq, sSet, sRet, sIf, sDrop, sAug, sAsg, eVar, eC, eBin, eUn, eL, aNil, aCons, eTest, bAnd, bOr, bNot, eAnd, eOr, eNot, eIf, eChain, eChain3, eSl, oNone, oSome, iSeq, iL, asB, asSeq, Tgt.asg, R.ok_bind, R.err_bind, R.bad_bind, List.map_cons, List.map_nil, List.length_cons, List.length_nil, List.replicate_succ, List.replicate_zero, List.cons_append, List.nil_append, List.getElem?_cons_zero, List.getElem?_cons_succ, List.set_cons_zero, List.set_cons_succ, Nat.reduceAdd, Nat.reduceSub, Nat.zero_add, ev_add, ev_sub, ev_lt, ev_le, ev_gt, ev_ge, ev_neg, ev_mod, ev_fdiv, ev_eqi, ev_eqs, ev_eqb, ev_eqin, ev_eqni, ev_eqnn, ev_ix0, ev_ix1, ev_ix2, ev_ix3, ev_lenl, ev_lenf, if_true, if_false, Bool.false_eq_true, decide_eq_true_eq, Int.reduceLT, Int.reduceNeg, Int.reduceLE, Int.reduceSub, Int.reduceAdd, ev_mulL, fd, m2, e]
theorem jf_ok (n : Int) (i : Nat) (hi : i < 8) : ∃ c, compF (Tgt.one 0).asg (fun _ => .ok true) JF [none, some (.int n)] (.int ((0 : Int) + (i : Nat))) = .ok (some (enc1 c)) ∧ okL c := jf_g AB2 ab_len ab_ok n i hi
theorem comp_ok {f : D → R (Option D)} (h : ∀ i : Nat, i < 8 → ∃ c, f (.int ((0 : Int) + (i : Nat))) = .ok (some (enc1 c)) ∧ okL c) (m : Nat) (hm : m ≤ 8) : ∃ ls : List Nat, compL f (rng 0 m) = .ok (ls.map enc1) ∧ ls.length = m ∧ ∀ c ∈ ls, okL c := by
  have ch : ∀ i : Nat, ∃ c, i < 8 → (f (.int ((0 : Int) + (i : Nat))) = .ok (some (enc1 c)) ∧ okL c) := fun i => by
    by_cases hi : i < 8
    · obtain ⟨c, hc⟩ := h i hi; exact ⟨c, fun _ => hc⟩
    · exact ⟨0, fun z => absurd z hi⟩
  have hc := compL_rng (f := f) (lo := 0) (n := m) (o := fun i => some (enc1 (Classical.choose (ch i)))) fun i hi => (Classical.choose_spec (ch i) (by omega)).1
  rw [fm_some] at hc
  refine ⟨(List.range m).map fun i => Classical.choose (ch i), by rw [hc, List.map_map]; rfl, by simp, fun c hcm => ?_⟩
  obtain ⟨i, hi, rfl⟩ := List.mem_map.mp hcm
  exact (Classical.choose_spec (ch i) (by have := List.mem_range.mp hi; omega)).2
theorem enc_imms (ls : List Nat) : D.imms (ls.map enc1) = true := imms_map (fun _ => rfl) ls
abbrev ABCZ : Str := "abcz"
theorem abcz_len : ABCZ.length = 4 := by decide +kernel
theorem abcz_ok : ∀ c ∈ ABCZ.cps.toList, okL c := by unfold okL; decide +kernel
abbrev MKS : Str := "-="
theorem mks_len : MKS.length = 2 := by decide +kernel
theorem mks_ok : ∀ c ∈ MKS.cps.toList, c = 45 ∨ c = 61 := by decide +kernel
theorem g01 (n : Int) (w : D) : ∃ sz : Int, 2 ≤ sz ∧ sz ≤ 8 ∧ (sSeq J0 J1) [some (.int n), some w, none, none, none, none, none] = .ok (.nx [some (.int n), some w, some (.int sz), none, none, none, none]) := by
  have d3 : fdivD (.int n) (.int 3) = .ok (.int (n / 3)) := ev_fdiv (by decide) (by decide)
  have d15 : fdivD (.int n) (.int 15) = .ok (.int (n / 15)) := ev_fdiv (by decide) (by decide)
  have m3 : modD (.int n) (.int 3) = .ok (.int (n % 3)) := ev_mod (by decide)
  have m5 : modD (.int (n / 3)) (.int 5) = .ok (.int (n / 3 % 5)) := ev_mod (by decide)
  have m7 : modD (.int (n / 15)) (.int 7) = .ok (.int (n / 15 % 7)) := ev_mod (by decide)
  by_cases hq : n / 3 % 5 = 1
  · have z : (n / 3 % 5 == 1) = true := beq_iff_eq.mpr hq
    refine ⟨2 + n / 15 % 7, by omega, by omega, ?_⟩
    simp -implicitDefEqProofs only [J0, J1, ev_sApp, ev_appL, ev_appD, ev_eComp, ev_lstD, ev_ctN, ev_ctO, ev_ctS, ev_join, ev_eImm, ev_immI, ev_immS, ev_immB, ev_immN, ev_immT, ev_imsN, ev_imsI, ev_imsS, ev_goN, ev_goC, ev_goB, ev_goR, ev_xl0, ev_xl1, ev_xl2, ev_isiI, ev_isiB, sSkip, Nat.reduceLT, Nat.reduceLeDiff, runB, sSeq, sSet, sRet, sIf, sDrop, sAug, sAsg, eVar, eC, eBin, eUn, eL, aNil, aCons, eTest, bAnd, bOr, bNot, eAnd, eOr, eNot, eIf, eChain, eChain3, eSl, oNone, oSome, iSeq, iL, asB, asSeq, Tgt.asg, R.ok_bind, R.err_bind, R.bad_bind, List.map_cons, List.map_nil, List.length_cons, List.length_nil, List.replicate_succ, List.replicate_zero, List.cons_append, List.nil_append, List.getElem?_cons_zero, List.getElem?_cons_succ, List.set_cons_zero, List.set_cons_succ, Nat.reduceAdd, Nat.reduceSub, Nat.zero_add, ev_add, ev_sub, ev_lt, ev_le, ev_gt, ev_ge, ev_neg, ev_mod, ev_fdiv, ev_eqi, ev_eqs, ev_eqb, ev_eqin, ev_eqni, ev_eqnn, ev_ix0, ev_ix1, ev_ix2, ev_ix3, ev_lenl, ev_lenf, if_true, if_false, Bool.false_eq_true, decide_eq_true_eq, Int.reduceLT, Int.reduceNeg, Int.reduceLE, Int.reduceSub, Int.reduceAdd, d3, d15, m3, m5, m7, z]
  · have z : (n / 3 % 5 == 1) = false := beq_false_of_ne hq
    refine ⟨2 + n % 3, by omega, by omega, ?_⟩
    simp -implicitDefEqProofs only [J0, J1, ev_sApp, ev_appL, ev_appD, ev_eComp, ev_lstD, ev_ctN, ev_ctO, ev_ctS, ev_join, ev_eImm, ev_immI, ev_immS, ev_immB, ev_immN, ev_immT, ev_imsN, ev_imsI, ev_imsS, ev_goN, ev_goC, ev_goB, ev_goR, ev_xl0, ev_xl1, ev_xl2, ev_isiI, ev_isiB, sSkip, Nat.reduceLT, Nat.reduceLeDiff, runB, sSeq, sSet, sRet, sIf, sDrop, sAug, sAsg, eVar, eC, eBin, eUn, eL, aNil, aCons, eTest, bAnd, bOr, bNot, eAnd, eOr, eNot, eIf, eChain, eChain3, eSl, oNone, oSome, iSeq, iL, asB, asSeq, Tgt.asg, R.ok_bind, R.err_bind, R.bad_bind, List.map_cons, List.map_nil, List.length_cons, List.length_nil, List.replicate_succ, List.replicate_zero, List.cons_append, List.nil_append, List.getElem?_cons_zero, List.getElem?_cons_succ, List.set_cons_zero, List.set_cons_succ, Nat.reduceAdd, Nat.reduceSub, Nat.zero_add, ev_add, ev_sub, ev_lt, ev_le, ev_gt, ev_ge, ev_neg, ev_mod, ev_fdiv, ev_eqi, ev_eqs, ev_eqb, ev_eqin, ev_eqni, ev_eqnn, ev_ix0, ev_ix1, ev_ix2, ev_ix3, ev_lenl, ev_lenf, if_true, if_false, Bool.false_eq_true, decide_eq_true_eq, Int.reduceLT, Int.reduceNeg, Int.reduceLE, Int.reduceSub, Int.reduceAdd, d3, m3, m5, z]
theorem g23 (n sz : Int) (cs : List Nat) (hl : cs.length ≤ 40) (s0 : 2 ≤ sz) (s1 : sz ≤ 8) : ∃ at_ pl : Int, 1 ≤ at_ ∧ at_ < sz ∧ 0 ≤ pl ∧ pl ≤ 40 ∧ (sSeq J2 J3) [some (.int n), some (.str (S cs)), some (.int sz), none, none, none, none] = .ok (.nx [some (.int n), some (.str (S cs)), some (.int sz), some (.int at_), some (.int pl), none, none]) := by
  have hlen : lenD [.str (S cs)] = .ok (.int (cs.length : Nat)) := by rw [ev_lens (by rw [S_len, sizeLine_eq]; omega), S_len]
  have d1 : fdivD (.int n) (.int 105) = .ok (.int (n / 105)) := ev_fdiv (by decide) (by decide)
  have d2 : fdivD (.int n) (.int 21) = .ok (.int (n / 21)) := ev_fdiv (by decide) (by decide)
  have m1 : modD (.int (n / 105)) (.int (sz - 1)) = .ok (.int (n / 105 % (sz - 1))) := ev_mod (by omega)
  have m2 : modD (.int (n / 21)) (.int ((cs.length : Nat) + 1)) = .ok (.int (n / 21 % ((cs.length : Nat) + 1))) := ev_mod (by omega)
  have b1 := Int.emod_nonneg (n / 105) (b := sz - 1) (by omega)
  have b2 := Int.emod_lt_of_pos (n / 105) (b := sz - 1) (by omega)
  have b3 := Int.emod_nonneg (n / 21) (b := (cs.length : Nat) + 1) (by omega)
  have b4 := Int.emod_lt_of_pos (n / 21) (b := (cs.length : Nat) + 1) (by omega)
  refine ⟨1 + n / 105 % (sz - 1), n / 21 % ((cs.length : Nat) + 1), by omega, by omega, b3, by omega, ?_⟩
  generalize ((cs.length : Nat) : Int) = l at *
  generalize S cs = w at *
  simp -implicitDefEqProofs only [J2, J3, ev_sApp, ev_appL, ev_appD, ev_eComp, ev_lstD, ev_ctN, ev_ctO, ev_ctS, ev_join, ev_eImm, ev_immI, ev_immS, ev_immB, ev_immN, ev_immT, ev_imsN, ev_imsI, ev_imsS, ev_goN, ev_goC, ev_goB, ev_goR, ev_xl0, ev_xl1, ev_xl2, ev_isiI, ev_isiB, sSkip, Nat.reduceLT, Nat.reduceLeDiff, runB, sSeq, sSet, sRet, sIf, sDrop, sAug, sAsg, eVar, eC, eBin, eUn, eL, aNil, aCons, eTest, bAnd, bOr, bNot, eAnd, eOr, eNot, eIf, eChain, eChain3, eSl, oNone, oSome, iSeq, iL, asB, asSeq, Tgt.asg, R.ok_bind, R.err_bind, R.bad_bind, List.map_cons, List.map_nil, List.length_cons, List.length_nil, List.replicate_succ, List.replicate_zero, List.cons_append, List.nil_append, List.getElem?_cons_zero, List.getElem?_cons_succ, List.set_cons_zero, List.set_cons_succ, Nat.reduceAdd, Nat.reduceSub, Nat.zero_add, ev_add, ev_sub, ev_lt, ev_le, ev_gt, ev_ge, ev_neg, ev_mod, ev_fdiv, ev_eqi, ev_eqs, ev_eqb, ev_eqin, ev_eqni, ev_eqnn, ev_ix0, ev_ix1, ev_ix2, ev_ix3, ev_lenl, ev_lenf, if_true, if_false, Bool.false_eq_true, decide_eq_true_eq, Int.reduceLT, Int.reduceNeg, Int.reduceLE, Int.reduceSub, Int.reduceAdd, hlen, d1, d2, m1, m2]
theorem g4 (n sz at_ pl : Int) (cs : List Nat) (hc : ∀ c ∈ cs, c < 128) (hl : cs.length ≤ 40) (s0 : 2 ≤ sz) (s1 : sz ≤ 8) (a0 : 1 ≤ at_) (a1 : at_ < sz) (p0 : 0 ≤ pl) (p1 : pl ≤ 40) : ∃ ls : List Nat, (ls.length : Int) = sz ∧ (∀ c ∈ ls, okL c) ∧ J4 [some (.int n), some (.str (S cs)), some (.int sz), some (.int at_), some (.int pl), none, none] = .ok (.nx [some (.int n), some (.str (S cs)), some (.int sz), some (.int at_), some (.int pl), some (.lst (ls.map enc1)), none]) := by
  obtain ⟨ls, h1, h2, h3⟩ := comp_ok (f := compF (Tgt.one 0).asg (fun _ => .ok true) JE [none, some (.int n), some (.str (S cs)), some (.int pl), some (.int at_)]) (fun i hi => je_ok n cs hc hl pl at_ p0 p1 (by omega) (by omega) i hi) sz.toNat (by omega)
  have e1 : rng1 [D.int sz] = .ok (rng 0 sz.toNat) := ev_rng1 (by omega) (by omega)
  have hk := ev_lstD (ys := ls.map enc1) (by rw [List.length_map]; omega)
  refine ⟨ls, by omega, h3, ?_⟩
  have eJ : J4 = sSet 5 (eComp [none, some 0, some 1, some 4, some 3] (iL rng1 (aCons (eVar 2) aNil)) (.one 0) (fun _ => .ok true) JE) := rfl
  rw [eJ]
  generalize ls.map enc1 = L at *
  generalize sz.toNat = m at *
  generalize S cs = w at *
  simp -implicitDefEqProofs only [ev_sApp, ev_appL, ev_appD, ev_eComp, ev_lstD, ev_ctN, ev_ctO, ev_ctS, ev_join, ev_eImm, ev_immI, ev_immS, ev_immB, ev_immN, ev_immT, ev_imsN, ev_imsI, ev_imsS, ev_goN, ev_goC, ev_goB, ev_goR, ev_xl0, ev_xl1, ev_xl2, ev_isiI, ev_isiB, sSkip, Nat.reduceLT, Nat.reduceLeDiff, runB, sSeq, sSet, sRet, sIf, sDrop, sAug, sAsg, eVar, eC, eBin, eUn, eL, aNil, aCons, eTest, bAnd, bOr, bNot, eAnd, eOr, eNot, eIf, eChain, eChain3, eSl, oNone, oSome, iSeq, iL, asB, asSeq, Tgt.asg, R.ok_bind, R.err_bind, R.bad_bind, List.map_cons, List.map_nil, List.length_cons, List.length_nil, List.replicate_succ, List.replicate_zero, List.cons_append, List.nil_append, List.getElem?_cons_zero, List.getElem?_cons_succ, List.set_cons_zero, List.set_cons_succ, Nat.reduceAdd, Nat.reduceSub, Nat.zero_add, ev_add, ev_sub, ev_lt, ev_le, ev_gt, ev_ge, ev_neg, ev_mod, ev_fdiv, ev_eqi, ev_eqs, ev_eqb, ev_eqin, ev_eqni, ev_eqnn, ev_ix0, ev_ix1, ev_ix2, ev_ix3, ev_lenl, ev_lenf, if_true, if_false, Bool.false_eq_true, decide_eq_true_eq, Int.reduceLT, Int.reduceNeg, Int.reduceLE, Int.reduceSub, Int.reduceAdd, e1, h1, hk]
theorem g5 (n sz : Int) (w a b : Option D) (ls : List Nat) (hls : (ls.length : Int) = sz) (ho : ∀ c ∈ ls, okL c) (s0 : 2 ≤ sz) (s1 : sz ≤ 8) : ∃ ls' : List Nat, (ls'.length : Int) = sz ∧ (∀ c ∈ ls', okL c) ∧ J5 [some (.int n), w, some (.int sz), a, b, some (.lst (ls.map enc1)), none] = .ok (.nx [some (.int n), w, some (.int sz), a, b, some (.lst (ls'.map enc1)), none]) := by
  have d1 : fdivD (.int n) (.int 29) = .ok (.int (n / 29)) := ev_fdiv (by decide) (by decide)
  have m1 : modD (.int (n / 29)) (.int 5) = .ok (.int (n / 29 % 5)) := ev_mod (by decide)
  have eJ : J5 = sIf (eTest (eBin (eqR false) (eBin modD (eBin fdivD (eVar 0) (eC (.int 29))) (eC (.int 5))) (eC (.int 1)))) (sSet 5 (eComp [none, some 0] (iL rng1 (aCons (eVar 2) aNil)) (.one 0) (fun _ => .ok true) JF)) sSkip := rfl
  rw [eJ]
  by_cases hq : n / 29 % 5 = 1
  · have z : (n / 29 % 5 == 1) = true := beq_iff_eq.mpr hq
    obtain ⟨ls', h1, h2, h3⟩ := comp_ok (f := compF (Tgt.one 0).asg (fun _ => .ok true) JF [none, some (.int n)]) (fun i hi => jf_ok n i hi) sz.toNat (by omega)
    have e1 : rng1 [D.int sz] = .ok (rng 0 sz.toNat) := ev_rng1 (by omega) (by omega)
    have hk := ev_lstD (ys := ls'.map enc1) (by rw [List.length_map]; omega)
    refine ⟨ls', by omega, h3, ?_⟩
    generalize ls'.map enc1 = L at *
    generalize ls.map enc1 = L0 at *
    generalize sz.toNat = m at *
    simp -implicitDefEqProofs only [ev_sApp, ev_appL, ev_appD, ev_eComp, ev_lstD, ev_ctN, ev_ctO, ev_ctS, ev_join, ev_eImm, ev_immI, ev_immS, ev_immB, ev_immN, ev_immT, ev_imsN, ev_imsI, ev_imsS, ev_goN, ev_goC, ev_goB, ev_goR, ev_xl0, ev_xl1, ev_xl2, ev_isiI, ev_isiB, sSkip, Nat.reduceLT, Nat.reduceLeDiff, runB, sSeq, sSet, sRet, sIf, sDrop, sAug, sAsg, eVar, eC, eBin, eUn, eL, aNil, aCons, eTest, bAnd, bOr, bNot, eAnd, eOr, eNot, eIf, eChain, eChain3, eSl, oNone, oSome, iSeq, iL, asB, asSeq, Tgt.asg, R.ok_bind, R.err_bind, R.bad_bind, List.map_cons, List.map_nil, List.length_cons, List.length_nil, List.replicate_succ, List.replicate_zero, List.cons_append, List.nil_append, List.getElem?_cons_zero, List.getElem?_cons_succ, List.set_cons_zero, List.set_cons_succ, Nat.reduceAdd, Nat.reduceSub, Nat.zero_add, ev_add, ev_sub, ev_lt, ev_le, ev_gt, ev_ge, ev_neg, ev_mod, ev_fdiv, ev_eqi, ev_eqs, ev_eqb, ev_eqin, ev_eqni, ev_eqnn, ev_ix0, ev_ix1, ev_ix2, ev_ix3, ev_lenl, ev_lenf, if_true, if_false, Bool.false_eq_true, decide_eq_true_eq, Int.reduceLT, Int.reduceNeg, Int.reduceLE, Int.reduceSub, Int.reduceAdd, d1, m1, z, e1, h1, hk]
  · have z : (n / 29 % 5 == 1) = false := beq_false_of_ne hq
    refine ⟨ls, hls, ho, ?_⟩
    generalize ls.map enc1 = L0 at *
    simp -implicitDefEqProofs only [ev_sApp, ev_appL, ev_appD, ev_eComp, ev_lstD, ev_ctN, ev_ctO, ev_ctS, ev_join, ev_eImm, ev_immI, ev_immS, ev_immB, ev_immN, ev_immT, ev_imsN, ev_imsI, ev_imsS, ev_goN, ev_goC, ev_goB, ev_goR, ev_xl0, ev_xl1, ev_xl2, ev_isiI, ev_isiB, sSkip, Nat.reduceLT, Nat.reduceLeDiff, runB, sSeq, sSet, sRet, sIf, sDrop, sAug, sAsg, eVar, eC, eBin, eUn, eL, aNil, aCons, eTest, bAnd, bOr, bNot, eAnd, eOr, eNot, eIf, eChain, eChain3, eSl, oNone, oSome, iSeq, iL, asB, asSeq, Tgt.asg, R.ok_bind, R.err_bind, R.bad_bind, List.map_cons, List.map_nil, List.length_cons, List.length_nil, List.replicate_succ, List.replicate_zero, List.cons_append, List.nil_append, List.getElem?_cons_zero, List.getElem?_cons_succ, List.set_cons_zero, List.set_cons_succ, Nat.reduceAdd, Nat.reduceSub, Nat.zero_add, ev_add, ev_sub, ev_lt, ev_le, ev_gt, ev_ge, ev_neg, ev_mod, ev_fdiv, ev_eqi, ev_eqs, ev_eqb, ev_eqin, ev_eqni, ev_eqnn, ev_ix0, ev_ix1, ev_ix2, ev_ix3, ev_lenl, ev_lenf, if_true, if_false, Bool.false_eq_true, decide_eq_true_eq, Int.reduceLT, Int.reduceNeg, Int.reduceLE, Int.reduceSub, Int.reduceAdd, d1, m1, z]
theorem g6_g (A : Str) (lA : A.length = 4) (hA : ∀ c ∈ A.cps.toList, okL c) (n sz : Int) (w a b : Option D) (ls : List Nat) (hls : (ls.length : Int) = sz) (ho : ∀ c ∈ ls, okL c) (s0 : 2 ≤ sz) (s1 : sz ≤ 8) : ∃ ls' : List Nat, (ls'.length : Int) = sz ∧ (∀ c ∈ ls', okL c) ∧ (sIf (eTest (eBin (eqR false) (eBin modD (eBin fdivD (eVar 0) (eC (.int 29))) (eC (.int 5))) (eC (.int 2)))) (sPut 5 (eBin ixD (eC (.str A)) (eBin modD (eBin fdivD (eVar 0) (eC (.int 1160))) (eC (.int 4)))) (eBin modD (eBin fdivD (eVar 0) (eC (.int 145))) (eVar 2))) sSkip) [some (.int n), w, some (.int sz), a, b, some (.lst (ls.map enc1)), none] = .ok (.nx [some (.int n), w, some (.int sz), a, b, some (.lst (ls'.map enc1)), none]) := by
  have d1 : fdivD (.int n) (.int 29) = .ok (.int (n / 29)) := ev_fdiv (by decide) (by decide)
  have m1 : modD (.int (n / 29)) (.int 5) = .ok (.int (n / 29 % 5)) := ev_mod (by decide)
  by_cases hq : n / 29 % 5 = 2
  · have z : (n / 29 % 5 == 2) = true := beq_iff_eq.mpr hq
    have d2 : fdivD (.int n) (.int 1160) = .ok (.int (n / 1160)) := ev_fdiv (by decide) (by decide)
    have d3 : fdivD (.int n) (.int 145) = .ok (.int (n / 145)) := ev_fdiv (by decide) (by decide)
    have m2 : modD (.int (n / 1160)) (.int 4) = .ok (.int (n / 1160 % 4)) := ev_mod (by decide)
    have m3 : modD (.int (n / 145)) (.int sz) = .ok (.int (n / 145 % sz)) := ev_mod (by omega)
    have b1 := Int.emod_nonneg (n / 145) (b := sz) (by omega)
    have b2 := Int.emod_lt_of_pos (n / 145) (b := sz) (by omega)
    obtain ⟨c, e, hk⟩ := pickS (z := A) (i := n / 1160 % 4) (p := okL) (by omega) (by omega) (by omega) hA
    refine ⟨ls.set (n / 145 % sz).toNat c, by rw [List.length_set]; exact hls, fun x hx => ?_, ?_⟩
    · rcases List.mem_or_eq_of_mem_set hx with z | z
      · exact ho x z
      · rw [z]; exact hk
    · have hset : setD (ls.map enc1) (n / 145 % sz) (.str (one c)) = .ok (.lst ((ls.set (n / 145 % sz).toNat c).map enc1)) := by
        have hx : ixN (ls.map enc1).length (n / 145 % sz) = some (n / 145 % sz).toNat := by
          unfold ixN
          rw [if_pos b1, if_pos (by rw [List.length_map]; omega)]
        unfold setD
        rw [hx]
        show R.ok (D.lst ((ls.map enc1).set _ (enc1 c))) = _
        rw [List.map_set]
      generalize ls.map enc1 = L0 at *
      generalize (ls.set (n / 145 % sz).toNat c).map enc1 = L1 at *
      generalize n / 145 % sz = k at *
      generalize n / 1160 % 4 = k2 at *
      simp -implicitDefEqProofs only [ev_sApp, ev_appL, ev_appD, ev_eComp, ev_lstD, ev_ctN, ev_ctO, ev_ctS, ev_join, ev_eImm, ev_immI, ev_immS, ev_immB, ev_immN, ev_immT, ev_imsN, ev_imsI, ev_imsS, ev_goN, ev_goC, ev_goB, ev_goR, ev_xl0, ev_xl1, ev_xl2, ev_isiI, ev_isiB, sSkip, Nat.reduceLT, Nat.reduceLeDiff, runB, sSeq, sSet, sRet, sIf, sDrop, sAug, sAsg, eVar, eC, eBin, eUn, eL, aNil, aCons, eTest, bAnd, bOr, bNot, eAnd, eOr, eNot, eIf, eChain, eChain3, eSl, oNone, oSome, iSeq, iL, asB, asSeq, Tgt.asg, R.ok_bind, R.err_bind, R.bad_bind, List.map_cons, List.map_nil, List.length_cons, List.length_nil, List.replicate_succ, List.replicate_zero, List.cons_append, List.nil_append, List.getElem?_cons_zero, List.getElem?_cons_succ, List.set_cons_zero, List.set_cons_succ, Nat.reduceAdd, Nat.reduceSub, Nat.zero_add, ev_add, ev_sub, ev_lt, ev_le, ev_gt, ev_ge, ev_neg, ev_mod, ev_fdiv, ev_eqi, ev_eqs, ev_eqb, ev_eqin, ev_eqni, ev_eqnn, ev_ix0, ev_ix1, ev_ix2, ev_ix3, ev_lenl, ev_lenf, if_true, if_false, Bool.false_eq_true, decide_eq_true_eq, Int.reduceLT, Int.reduceNeg, Int.reduceLE, Int.reduceSub, Int.reduceAdd, d1, m1, z, sPut, d2, d3, m2, m3, e, hset]
  · have z : (n / 29 % 5 == 2) = false := beq_false_of_ne hq
    refine ⟨ls, hls, ho, ?_⟩
    generalize ls.map enc1 = L0 at *
    simp -implicitDefEqProofs only [ev_sApp, ev_appL, ev_appD, ev_eComp, ev_lstD, ev_ctN, ev_ctO, ev_ctS, ev_join, ev_eImm, ev_immI, ev_immS, ev_immB, ev_immN, ev_immT, ev_imsN, ev_imsI, ev_imsS, ev_goN, ev_goC, ev_goB, ev_goR, ev_xl0, ev_xl1, ev_xl2, ev_isiI, ev_isiB, sSkip, Nat.reduceLT, Nat.reduceLeDiff, runB, sSeq, sSet, sRet, sIf, sDrop, sAug, sAsg, eVar, eC, eBin, eUn, eL, aNil, aCons, eTest, bAnd, bOr, bNot, eAnd, eOr, eNot, eIf, eChain, eChain3, eSl, oNone, oSome, iSeq, iL, asB, asSeq, Tgt.asg, R.ok_bind, R.err_bind, R.bad_bind, List.map_cons, List.map_nil, List.length_cons, List.length_nil, List.replicate_succ, List.replicate_zero, List.cons_append, List.nil_append, List.getElem?_cons_zero, List.getElem?_cons_succ, List.set_cons_zero, List.set_cons_succ, Nat.reduceAdd, Nat.reduceSub, Nat.zero_add, ev_add, ev_sub, ev_lt, ev_le, ev_gt, ev_ge, ev_neg, ev_mod, ev_fdiv, ev_eqi, ev_eqs, ev_eqb, ev_eqin, ev_eqni, ev_eqnn, ev_ix0, ev_ix1, ev_ix2, ev_ix3, ev_lenl, ev_lenf, if_true, if_false, Bool.false_eq_true, decide_eq_true_eq, Int.reduceLT, Int.reduceNeg, Int.reduceLE, Int.reduceSub, Int.reduceAdd, d1, m1, z]
theorem g6 (n sz : Int) (w a b : Option D) (ls : List Nat) (hls : (ls.length : Int) = sz) (ho : ∀ c ∈ ls, okL c) (s0 : 2 ≤ sz) (s1 : sz ≤ 8) : ∃ ls' : List Nat, (ls'.length : Int) = sz ∧ (∀ c ∈ ls', okL c) ∧ J6 [some (.int n), w, some (.int sz), a, b, some (.lst (ls.map enc1)), none] = .ok (.nx [some (.int n), w, some (.int sz), a, b, some (.lst (ls'.map enc1)), none]) := g6_g ABCZ abcz_len abcz_ok n sz w a b ls hls ho s0 s1
theorem g7_g (A : Str) (lA : A.length = 2) (hA : ∀ c ∈ A.cps.toList, c = 45 ∨ c = 61) (n : Int) (w a b c d : Option D) : ∃ m : Nat, (m = 45 ∨ m = 61) ∧ (sSet 6 (eBin ixD (eC (.str A)) (eBin fdivD (eBin modD (eBin fdivD (eVar 0) (eC (.int 37))) (eC (.int 5))) (eC (.int 3))))) [some (.int n), w, a, b, c, d, none] = .ok (.nx [some (.int n), w, a, b, c, d, some (.str (one m))]) := by
  have d1 : fdivD (.int n) (.int 37) = .ok (.int (n / 37)) := ev_fdiv (by decide) (by decide)
  have m1 : modD (.int (n / 37)) (.int 5) = .ok (.int (n / 37 % 5)) := ev_mod (by decide)
  have d3 : fdivD (.int (n / 37 % 5)) (.int 3) = .ok (.int (n / 37 % 5 / 3)) := ev_fdiv (by decide) (by decide)
  obtain ⟨m, e, hk⟩ := pickS (z := A) (i := n / 37 % 5 / 3) (p := fun c => c = 45 ∨ c = 61) (by omega) (by omega) (by omega) hA
  refine ⟨m, hk, ?_⟩
  generalize n / 37 % 5 / 3 = y at *
  simp -implicitDefEqProofs only [ev_sApp, ev_appL, ev_appD, ev_eComp, ev_lstD, ev_ctN, ev_ctO, ev_ctS, ev_join, ev_eImm, ev_immI, ev_immS, ev_immB, ev_immN, ev_immT, ev_imsN, ev_imsI, ev_imsS, ev_goN, ev_goC, ev_goB, ev_goR, ev_xl0, ev_xl1, ev_xl2, ev_isiI, ev_isiB, sSkip, Nat.reduceLT, Nat.reduceLeDiff, runB, sSeq, sSet, sRet, sIf, sDrop, sAug, sAsg, eVar, eC, eBin, eUn, eL, aNil, aCons, eTest, bAnd, bOr, bNot, eAnd, eOr, eNot, eIf, eChain, eChain3, eSl, oNone, oSome, iSeq, iL, asB, asSeq, Tgt.asg, R.ok_bind, R.err_bind, R.bad_bind, List.map_cons, List.map_nil, List.length_cons, List.length_nil, List.replicate_succ, List.replicate_zero, List.cons_append, List.nil_append, List.getElem?_cons_zero, List.getElem?_cons_succ, List.set_cons_zero, List.set_cons_succ, Nat.reduceAdd, Nat.reduceSub, Nat.zero_add, ev_add, ev_sub, ev_lt, ev_le, ev_gt, ev_ge, ev_neg, ev_mod, ev_fdiv, ev_eqi, ev_eqs, ev_eqb, ev_eqin, ev_eqni, ev_eqnn, ev_ix0, ev_ix1, ev_ix2, ev_ix3, ev_lenl, ev_lenf, if_true, if_false, Bool.false_eq_true, decide_eq_true_eq, Int.reduceLT, Int.reduceNeg, Int.reduceLE, Int.reduceSub, Int.reduceAdd, d1, m1, d3, e]
theorem g7 (n : Int) (w a b c d : Option D) : ∃ m : Nat, (m = 45 ∨ m = 61) ∧ J7 [some (.int n), w, a, b, c, d, none] = .ok (.nx [some (.int n), w, a, b, c, d, some (.str (one m))]) := g7_g MKS mks_len mks_ok n w a b c d
theorem g8 (at_ : Int) (ls : List Nat) (m : Nat) (n w a c : Option D) (a0 : 1 ≤ at_) (a1 : at_ < (ls.length : Nat)) (hl : ls.length ≤ 8) : J8 [n, w, a, some (.int at_), c, some (.lst (ls.map enc1)), some (.str (one m))] = .ok (.rt (.str (S (ls.take at_.toNat ++ m :: ls.drop at_.toNat)))) := by
  have ea : at_ = ((at_.toNat : Nat) : Int) := by omega
  have hta : at_.toNat ≤ ls.length := by omega
  have c1 : slD (.lst (ls.map enc1)) none (some at_) = .ok (.lst ((ls.take at_.toNat).map enc1)) := by
    rw [ev_slL (enc_imms ls), ea, cut_to (by rw [List.length_map]; omega), List.map_take]
    rfl
  have c2 : slD (.lst (ls.map enc1)) (some at_) none = .ok (.lst ((ls.drop at_.toNat).map enc1)) := by
    rw [ev_slL (enc_imms ls), ea, cut_from (by rw [List.length_map]; omega), List.map_drop]
    rfl
  have l1 : (ls.take at_.toNat).length ≤ 8 := by rw [List.length_take]; omega
  have l2 : (ls.drop at_.toNat).length ≤ 8 := by rw [List.length_drop]; omega
  have j1 : joinD "" [.lst ((ls.take at_.toNat).map enc1)] = .ok (.str (S (ls.take at_.toNat))) := join_ok _ (by omega)
  have j2 : joinD "" [.lst ((ls.drop at_.toNat).map enc1)] = .ok (.str (S (ls.drop at_.toNat))) := join_ok _ (by omega)
  have p1 : addD (.str (S (ls.take at_.toNat))) (.str (one m)) = .ok (.str (S (ls.take at_.toNat ++ [m]))) := by
    rw [ev_adds (by rw [S_len, sizeLine_eq]; show _ + 1 ≤ _; omega)]
    show R.ok (D.str (S _ ++ S [m])) = _
    rw [S_app]
  have p2 : addD (.str (S (ls.take at_.toNat ++ [m]))) (.str (S (ls.drop at_.toNat))) = .ok (.str (S (ls.take at_.toNat ++ m :: ls.drop at_.toNat))) := by
    rw [ev_adds (by rw [S_len, S_len, sizeLine_eq, List.length_append]; show _ + 1 + _ ≤ _; omega), S_app, List.append_assoc]
    rfl
  generalize (ls.take at_.toNat).map enc1 = L1 at *
  generalize (ls.drop at_.toNat).map enc1 = L2 at *
  generalize ls.map enc1 = L0 at *
  generalize S (ls.take at_.toNat) = X1 at *
  generalize S (ls.take at_.toNat ++ [m]) = X2 at *
  generalize S (ls.drop at_.toNat) = X3 at *
  generalize S (ls.take at_.toNat ++ m :: ls.drop at_.toNat) = X4 at *
  simp -implicitDefEqProofs only [J8, ev_sApp, ev_appL, ev_appD, ev_eComp, ev_lstD, ev_ctN, ev_ctO, ev_ctS, ev_join, ev_eImm, ev_immI, ev_immS, ev_immB, ev_immN, ev_immT, ev_imsN, ev_imsI, ev_imsS, ev_goN, ev_goC, ev_goB, ev_goR, ev_xl0, ev_xl1, ev_xl2, ev_isiI, ev_isiB, sSkip, Nat.reduceLT, Nat.reduceLeDiff, runB, sSeq, sSet, sRet, sIf, sDrop, sAug, sAsg, eVar, eC, eBin, eUn, eL, aNil, aCons, eTest, bAnd, bOr, bNot, eAnd, eOr, eNot, eIf, eChain, eChain3, eSl, oNone, oSome, iSeq, iL, asB, asSeq, Tgt.asg, R.ok_bind, R.err_bind, R.bad_bind, List.map_cons, List.map_nil, List.length_cons, List.length_nil, List.replicate_succ, List.replicate_zero, List.cons_append, List.nil_append, List.getElem?_cons_zero, List.getElem?_cons_succ, List.set_cons_zero, List.set_cons_succ, Nat.reduceAdd, Nat.reduceSub, Nat.zero_add, ev_add, ev_sub, ev_lt, ev_le, ev_gt, ev_ge, ev_neg, ev_mod, ev_fdiv, ev_eqi, ev_eqs, ev_eqb, ev_eqin, ev_eqni, ev_eqnn, ev_ix0, ev_ix1, ev_ix2, ev_ix3, ev_lenl, ev_lenf, if_true, if_false, Bool.false_eq_true, decide_eq_true_eq, Int.reduceLT, Int.reduceNeg, Int.reduceLE, Int.reduceSub, Int.reduceAdd, ev_eSm, ev_smD, c1, c2, j1, j2, p1, p2]
theorem joint_g (n : D) (w : D) (r : D) (τ1 τ2 τ3 τ4 τ5 τ6 : Tn) (h1 : (sSeq J0 J1) [some n, some w, none, none, none, none, none] = .ok (.nx τ1)) (h2 : (sSeq J2 J3) τ1 = .ok (.nx τ2)) (h3 : J4 τ2 = .ok (.nx τ3)) (h4 : J5 τ3 = .ok (.nx τ4)) (h5 : J6 τ4 = .ok (.nx τ5)) (h6 : J7 τ5 = .ok (.nx τ6)) (h7 : J8 τ6 = .ok (.rt r)) : runB 7 TJ [n, w] = .ok r := by
  have k1 : ∃ τ0, J0 [some n, some w, none, none, none, none, none] = .ok (.nx τ0) ∧ J1 τ0 = .ok (.nx τ1) := by
    unfold sSeq at h1
    cases e : J0 [some n, some w, none, none, none, none, none] with
    | ok f => rw [e, R.ok_bind] at h1; cases f with
      | nx τ => exact ⟨τ, rfl, h1⟩
      | _ => cases h1
    | err m => rw [e] at h1; cases h1
    | bad => rw [e] at h1; cases h1
  have k2 : ∃ τ0, J2 τ1 = .ok (.nx τ0) ∧ J3 τ0 = .ok (.nx τ2) := by
    unfold sSeq at h2
    cases e : J2 τ1 with
    | ok f => rw [e, R.ok_bind] at h2; cases f with
      | nx τ => exact ⟨τ, rfl, h2⟩
      | _ => cases h2
    | err m => rw [e] at h2; cases h2
    | bad => rw [e] at h2; cases h2
  obtain ⟨u0, a1, a2⟩ := k1
  obtain ⟨u1, a3, a4⟩ := k2
  simp -implicitDefEqProofs only [TJ, ev_sApp, ev_appL, ev_appD, ev_eComp, ev_lstD, ev_ctN, ev_ctO, ev_ctS, ev_join, ev_eImm, ev_immI, ev_immS, ev_immB, ev_immN, ev_immT, ev_imsN, ev_imsI, ev_imsS, ev_goN, ev_goC, ev_goB, ev_goR, ev_xl0, ev_xl1, ev_xl2, ev_isiI, ev_isiB, sSkip, Nat.reduceLT, Nat.reduceLeDiff, runB, sSeq, sSet, sRet, sIf, sDrop, sAug, sAsg, eVar, eC, eBin, eUn, eL, aNil, aCons, eTest, bAnd, bOr, bNot, eAnd, eOr, eNot, eIf, eChain, eChain3, eSl, oNone, oSome, iSeq, iL, asB, asSeq, Tgt.asg, R.ok_bind, R.err_bind, R.bad_bind, List.map_cons, List.map_nil, List.length_cons, List.length_nil, List.replicate_succ, List.replicate_zero, List.cons_append, List.nil_append, List.getElem?_cons_zero, List.getElem?_cons_succ, List.set_cons_zero, List.set_cons_succ, Nat.reduceAdd, Nat.reduceSub, Nat.zero_add, ev_add, ev_sub, ev_lt, ev_le, ev_gt, ev_ge, ev_neg, ev_mod, ev_fdiv, ev_eqi, ev_eqs, ev_eqb, ev_eqin, ev_eqni, ev_eqnn, ev_ix0, ev_ix1, ev_ix2, ev_ix3, ev_lenl, ev_lenf, if_true, if_false, Bool.false_eq_true, decide_eq_true_eq, Int.reduceLT, Int.reduceNeg, Int.reduceLE, Int.reduceSub, Int.reduceAdd, a1, a2, a3, a4, h3, h4, h5, h6, h7]
theorem joint (n : Int) (cs : List Nat) (hc : ∀ c ∈ cs, c < 128) (hl : cs.length ≤ 40) : ∃ (A B : List Nat) (m : Nat), F__law_joint [.int n, .str (S cs)] = .ok (.str (S (A ++ m :: B))) ∧ Jt A B m := by
  obtain ⟨sz, s0, s1, h1⟩ := g01 n (.str (S cs))
  obtain ⟨at_, pl, a0, a1, p0, p1, h2⟩ := g23 n sz cs hl s0 s1
  obtain ⟨ls1, l1, o1, h3⟩ := g4 n sz at_ pl cs hc hl s0 s1 a0 a1 p0 p1
  obtain ⟨ls2, l2, o2, h4⟩ := g5 n sz (some (.str (S cs))) (some (.int at_)) (some (.int pl)) ls1 l1 o1 s0 s1
  obtain ⟨ls3, l3, o3, h5⟩ := g6 n sz (some (.str (S cs))) (some (.int at_)) (some (.int pl)) ls2 l2 o2 s0 s1
  obtain ⟨m, hm, h6⟩ := g7 n (some (.str (S cs))) (some (.int sz)) (some (.int at_)) (some (.int pl)) (some (.lst (ls3.map enc1)))
  have h7 := g8 at_ ls3 m (some (.int n)) (some (.str (S cs))) (some (.int sz)) (some (.int pl)) a0 (by omega) (by omega)
  refine ⟨ls3.take at_.toNat, ls3.drop at_.toNat, m, ?_, hm, fun c h => o3 c (List.mem_of_mem_take h), fun c h => o3 c (List.mem_of_mem_drop h), by rw [List.length_take, List.length_drop]; omega⟩
  rw [tJ]
  exact joint_g _ _ _ _ _ _ _ _ _ h1 h2 h3 h4 h5 h6 h7
end K03

set_option maxRecDepth 100000
set_option maxHeartbeats 4000000
namespace K03
open PySem PyProof.Rows L2
def MC : Tn → R Bool := (eTest (eBin inSD (eBin ixD (eVar 1) (eVar 0)) (eC (.str "-="))))
def TMK : Tn → R Fl := (sRet (eImm (eBin ixD (eComp [none, some 0] (iL rng1 (aCons (eL lenD (aCons (eVar 0) aNil)) aNil)) (.one 0) MC (eVar 0)) (eC (.int 0)))))
theorem tMK : F__law_mark = runB 1 TMK := rfl
theorem idx_len {a b n : Nat} (hab : a ≤ b) (hb : b ≤ n) : (Builtin.Str.strSliceIndices (some (a : Int)) (some (b : Int)) 1 n).length = b - a := by
  rw [StrLaws.strSliceIndices_plain hab hb]; simp
theorem idx_clip (a b n : Nat) : Builtin.Str.strSliceIndices (some (a : Int)) (some (b : Int)) 1 n = Builtin.Str.strSliceIndices (some (a : Int)) (some ((min b n : Nat) : Int)) 1 n := by
  have h1 : ¬ ((a : Int) < 0) := by omega
  have h2 : ¬ ((b : Int) < 0) := by omega
  have h3 : ¬ (((min b n : Nat) : Int) < 0) := by omega
  have e : max (0 : Int) (min (b : Int) (n : Int)) = max (0 : Int) (min ((min b n : Nat) : Int) (n : Int)) := by omega
  simp only [Builtin.Str.strSliceIndices, h1, h2, h3, if_false, e, show ((1 : Int) > 0) = True from by simp, if_true]
theorem slice_ok (cs : List Nat) (b n : Nat) (hb : b ≤ cs.length) : Txt.slice (S cs) (some (b : Int)) (some ((b : Int) + (n : Nat))) = S ((cs.drop b).take n) := by
  have e0 : (b : Int) + (n : Nat) = ((b + n : Nat) : Int) := by omega
  have hle : b ≤ min (b + n) cs.length := by omega
  have hle2 : min (b + n) cs.length ≤ (S cs).length := by rw [S_len]; omega
  have hp := StrLaws.sliced_plain (S cs) hle hle2
  have hl := idx_len hle hle2
  rw [S_cps] at hp
  have et : (cs.drop b).take (min (b + n) cs.length - b) = (cs.drop b).take n := by
    by_cases h : b + n ≤ cs.length
    · congr 1; omega
    · rw [List.take_of_length_le (by rw [List.length_drop]; omega), List.take_of_length_le (by rw [List.length_drop]; omega)]
  rw [et] at hp
  unfold Txt.slice
  rw [e0, idx_clip, S_len]
  rw [S_len] at hp hl
  by_cases hw : (Builtin.Str.strSliceIndices (some (b : Int)) (some ((min (b + n) cs.length : Nat) : Int)) 1 cs.length).length = cs.length
  · rw [if_pos (by rw [hw]; simp)]
    rw [hl] at hw
    have hb0 : b = 0 := by omega
    subst hb0
    rw [List.drop_zero, List.take_of_length_le (by omega)]
  · rw [if_neg (by simp [hw]), hp]
    rfl
theorem lower_ok (l : List Nat) (h : ∀ c ∈ l, c < 128) : Txt.lower (S l) = S (l.map lo1) := by
  rw [lower_ascii (x := S l) (by rw [S_cps]; exact h)]
  show (⟨l.toArray.map lo1⟩ : Str) = ⟨(l.map lo1).toArray⟩
  rw [List.map_toArray]
def fitB (L : List Nat) (a : Nat) (cs : List Nat) (p : Nat) : Bool := decide (a ≤ p) && decide (((cs.drop (p - a)).take L.length).map lo1 = L)
theorem len_S (l : List Nat) (h : l.length ≤ 1000) : lenD [.str (S l)] = .ok (.int (l.length : Nat)) := by rw [ev_lens (by rw [S_len, sizeLine_eq]; omega), S_len]
theorem sm0 {g : Str → R D} {t : Tn → R D} {τ : Tn} {z : Str} (h : t τ = .ok (.str z)) : eSm0 g t τ = g z := by unfold eSm0; rw [h, R.ok_bind]
theorem fits (A B : List Nat) (m : Nat) (j : Jt A B m) (cs : List Nat) (hc : ∀ c ∈ cs, c < 128) (hl : cs.length ≤ 40) (p : Nat) (hp : p ≤ cs.length) : F_fits [.str (S (A ++ m :: B)), .str (S cs), .int (p : Nat)] = .ok (.bl (fitB (A ++ B) A.length cs p)) := by
  have h1 := letters_of A B m j
  have h2 := mark_at A B m j
  have hL : (A ++ B).length ≤ 8 := by rw [List.length_append]; exact j.l1
  have h3 := len_S (A ++ B) (by omega)
  have hAB : A.length ≤ (A ++ B).length := by rw [List.length_append]; omega
  unfold fitB
  generalize A ++ B = L at *
  by_cases hq : A.length ≤ p
  · have e1 : decide ((0 : Int) ≤ ((p : Nat) : Int) - (A.length : Nat)) = true := decide_eq_true (by omega)
    have eb : ((p : Nat) : Int) - (A.length : Nat) = ((p - A.length : Nat) : Int) := by omega
    have hs : slD (.str (S cs)) (some (((p : Nat) : Int) - (A.length : Nat))) (some (((p : Nat) : Int) - (A.length : Nat) + (L.length : Nat))) = .ok (.str (S ((cs.drop (p - A.length)).take L.length))) := by
      rw [eb]
      show (if (S cs).length ≤ sizeLine then _ else _) = _
      rw [if_pos (by rw [S_len, sizeLine_eq]; omega), slice_ok cs _ _ (by omega)]
    have hw : lowD (S ((cs.drop (p - A.length)).take L.length)) = .ok (.str (S (((cs.drop (p - A.length)).take L.length).map lo1))) := by
      show (if _ ≤ 5592405 then _ else _) = _
      rw [if_pos (by rw [S_len, List.length_take]; omega), lower_ok _ fun c h => hc c (List.mem_of_mem_drop (List.mem_of_mem_take h))]
    have he : eqR false (.str (S (((cs.drop (p - A.length)).take L.length).map lo1))) (.str (S L)) = .ok (.bl (decide (((cs.drop (p - A.length)).take L.length).map lo1 = L))) := by
      rw [ev_eqs, S_eq]; rfl
    rw [decide_eq_true hq, Bool.true_and]
    generalize (decide (((cs.drop (p - A.length)).take L.length).map lo1 = L)) = r at *
    generalize S (((cs.drop (p - A.length)).take L.length).map lo1) = X3 at *
    generalize S ((cs.drop (p - A.length)).take L.length) = X2 at *
    generalize ((L.length : Nat) : Int) = n at *
    generalize ((A.length : Nat) : Int) = a at *
    generalize ((p : Nat) : Int) = P at *
    generalize S (A ++ m :: B) = J at *
    generalize S cs = W at *
    generalize S L = LL at *
    have e5 : ∀ x0, eSm0 lowD (eSl (eVar 1) (oSome (eVar 4)) (oSome (eBin addD (eVar 4) (eL lenD (aCons (eVar 3) aNil))))) [x0, some (.str W), some (.int P), some (.str LL), some (.int (P - a))] = .ok (.str X3) := fun x0 => by
      rw [sm0 (z := X2) (by simp -implicitDefEqProofs only [ev_sApp, ev_appL, ev_appD, ev_eComp, ev_lstD, ev_ctN, ev_ctO, ev_ctS, ev_join, ev_eImm, ev_immI, ev_immS, ev_immB, ev_immN, ev_immT, ev_imsN, ev_imsI, ev_imsS, ev_goN, ev_goC, ev_goB, ev_goR, ev_xl0, ev_xl1, ev_xl2, ev_isiI, ev_isiB, sSkip, Nat.reduceLT, Nat.reduceLeDiff, runB, sSeq, sSet, sRet, sIf, sDrop, sAug, sAsg, eVar, eC, eBin, eUn, eL, aNil, aCons, eTest, bAnd, bOr, bNot, eAnd, eOr, eNot, eIf, eChain, eChain3, eSl, oNone, oSome, iSeq, iL, asB, asSeq, Tgt.asg, R.ok_bind, R.err_bind, R.bad_bind, List.map_cons, List.map_nil, List.length_cons, List.length_nil, List.replicate_succ, List.replicate_zero, List.cons_append, List.nil_append, List.getElem?_cons_zero, List.getElem?_cons_succ, List.set_cons_zero, List.set_cons_succ, Nat.reduceAdd, Nat.reduceSub, Nat.zero_add, ev_add, ev_sub, ev_lt, ev_le, ev_gt, ev_ge, ev_neg, ev_mod, ev_fdiv, ev_eqi, ev_eqs, ev_eqb, ev_eqin, ev_eqni, ev_eqnn, ev_ix0, ev_ix1, ev_ix2, ev_ix3, ev_lenl, ev_lenf, if_true, if_false, Bool.false_eq_true, decide_eq_true_eq, Int.reduceLT, Int.reduceNeg, Int.reduceLE, Int.reduceSub, Int.reduceAdd, h3, hs]), hw]
    simp -implicitDefEqProofs only [F_fits, t_fits, ev_sApp, ev_appL, ev_appD, ev_eComp, ev_lstD, ev_ctN, ev_ctO, ev_ctS, ev_join, ev_eImm, ev_immI, ev_immS, ev_immB, ev_immN, ev_immT, ev_imsN, ev_imsI, ev_imsS, ev_goN, ev_goC, ev_goB, ev_goR, ev_xl0, ev_xl1, ev_xl2, ev_isiI, ev_isiB, sSkip, Nat.reduceLT, Nat.reduceLeDiff, runB, sSeq, sSet, sRet, sIf, sDrop, sAug, sAsg, eVar, eC, eBin, eUn, eL, aNil, aCons, eTest, bAnd, bOr, bNot, eAnd, eOr, eNot, eIf, eChain, eChain3, eSl, oNone, oSome, iSeq, iL, asB, asSeq, Tgt.asg, R.ok_bind, R.err_bind, R.bad_bind, List.map_cons, List.map_nil, List.length_cons, List.length_nil, List.replicate_succ, List.replicate_zero, List.cons_append, List.nil_append, List.getElem?_cons_zero, List.getElem?_cons_succ, List.set_cons_zero, List.set_cons_succ, Nat.reduceAdd, Nat.reduceSub, Nat.zero_add, ev_add, ev_sub, ev_lt, ev_le, ev_gt, ev_ge, ev_neg, ev_mod, ev_fdiv, ev_eqi, ev_eqs, ev_eqb, ev_eqin, ev_eqni, ev_eqnn, ev_ix0, ev_ix1, ev_ix2, ev_ix3, ev_lenl, ev_lenf, if_true, if_false, Bool.false_eq_true, decide_eq_true_eq, Int.reduceLT, Int.reduceNeg, Int.reduceLE, Int.reduceSub, Int.reduceAdd, h1, h2, e1, e5, he]
  · have e1 : decide ((0 : Int) ≤ ((p : Nat) : Int) - (A.length : Nat)) = false := decide_eq_false (by omega)
    rw [decide_eq_false hq, Bool.false_and]
    generalize ((L.length : Nat) : Int) = n at *
    generalize ((A.length : Nat) : Int) = a at *
    generalize ((p : Nat) : Int) = P at *
    generalize S (A ++ m :: B) = J at *
    generalize S cs = W at *
    generalize S L = LL at *
    simp -implicitDefEqProofs only [F_fits, t_fits, ev_sApp, ev_appL, ev_appD, ev_eComp, ev_lstD, ev_ctN, ev_ctO, ev_ctS, ev_join, ev_eImm, ev_immI, ev_immS, ev_immB, ev_immN, ev_immT, ev_imsN, ev_imsI, ev_imsS, ev_goN, ev_goC, ev_goB, ev_goR, ev_xl0, ev_xl1, ev_xl2, ev_isiI, ev_isiB, sSkip, Nat.reduceLT, Nat.reduceLeDiff, runB, sSeq, sSet, sRet, sIf, sDrop, sAug, sAsg, eVar, eC, eBin, eUn, eL, aNil, aCons, eTest, bAnd, bOr, bNot, eAnd, eOr, eNot, eIf, eChain, eChain3, eSl, oNone, oSome, iSeq, iL, asB, asSeq, Tgt.asg, R.ok_bind, R.err_bind, R.bad_bind, List.map_cons, List.map_nil, List.length_cons, List.length_nil, List.replicate_succ, List.replicate_zero, List.cons_append, List.nil_append, List.getElem?_cons_zero, List.getElem?_cons_succ, List.set_cons_zero, List.set_cons_succ, Nat.reduceAdd, Nat.reduceSub, Nat.zero_add, ev_add, ev_sub, ev_lt, ev_le, ev_gt, ev_ge, ev_neg, ev_mod, ev_fdiv, ev_eqi, ev_eqs, ev_eqb, ev_eqin, ev_eqni, ev_eqnn, ev_ix0, ev_ix1, ev_ix2, ev_ix3, ev_lenl, ev_lenf, if_true, if_false, Bool.false_eq_true, decide_eq_true_eq, Int.reduceLT, Int.reduceNeg, Int.reduceLE, Int.reduceSub, Int.reduceAdd, h1, h2, e1]
theorem fm_one {β : Type} (f : Nat → β) (a : Nat) : ∀ n, (List.range n).filterMap (fun i => if i = a then some (f i) else none) = if a < n then [f a] else []
  | 0 => rfl
  | n + 1 => by
    rw [List.range_succ, List.filterMap_append, fm_one f a n]
    by_cases h : a < n
    · rw [if_pos h, if_pos (by omega)]
      simp [show ¬ n = a by omega]
    · by_cases h2 : n = a
      · subst h2; simp
      · rw [if_neg h, if_neg (by omega)]
        simp [h2]
theorem mk_in (c : Nat) : inSD (.str (one c)) (.str "-=") = .ok (.bl (decide (c = 45 ∨ c = 61))) := by
  show R.ok (D.bl (inS (one c) ("-=" : Str))) = _
  rw [inS_one]
  have : (("-=" : Str)).cps.toList = [45, 61] := by decide
  rw [this]
  congr 2
  simp
theorem jt_at (A B : List Nat) (m : Nat) (j : Jt A B m) (i : Nat) (hi : i < (A ++ m :: B).length) : ∃ c, (A ++ m :: B)[i]? = some c ∧ ((c = 45 ∨ c = 61) ↔ i = A.length) := by
  refine ⟨_, List.getElem?_eq_getElem hi, ?_⟩
  by_cases h1 : i < A.length
  · rw [List.getElem_append_left h1]
    have := j.a1 _ (List.getElem_mem h1)
    constructor
    · rintro (e | e) <;> simp [e] at this
    · intro e; omega
  · by_cases h2 : i = A.length
    · subst h2
      simp [j.mm]
    · have e1 : i - A.length = (i - A.length - 1) + 1 := by omega
      have hb : i - A.length - 1 < B.length := by simp at hi; omega
      have e2 : (A ++ m :: B)[i] = B[i - A.length - 1] := by
        rw [List.getElem_append_right (by omega)]
        rw [List.getElem_cons]
        rw [dif_neg (by omega)]
      rw [e2]
      have := j.b1 _ (List.getElem_mem hb)
      constructor
      · rintro (e | e) <;> simp [e] at this
      · intro e; omega
theorem law_mark (A B : List Nat) (m : Nat) (j : Jt A B m) : F__law_mark [.str (S (A ++ m :: B))] = .ok (.int (A.length : Nat)) := by
  have hl : (A ++ m :: B).length ≤ 9 := by have := j.l1; simp; omega
  have hA : A.length < (A ++ m :: B).length := by simp
  have h1 := len_S (A ++ m :: B) (by omega)
  have e1 : rng1 [D.int ((A ++ m :: B).length : Nat)] = .ok (rng 0 (((A ++ m :: B).length : Nat) : Int).toNat) := ev_rng1 (by omega) (by omega)
  rw [Int.toNat_natCast] at e1
  have hc := compL_rng (f := compF (Tgt.one 0).asg MC (eVar 0) [none, some (.str (S (A ++ m :: B)))]) (lo := 0) (n := (A ++ m :: B).length) (o := fun i => if i = A.length then some (D.int ((0 : Int) + (i : Nat))) else none) fun i hi => by
    obtain ⟨c, hx, hk⟩ := jt_at A B m j i hi
    have hx := ix_at (cs := A ++ m :: B) (i := (0 : Int) + (i : Nat)) (c := c) (by omega) (by omega) (by rw [Int.zero_add, Int.toNat_natCast]; exact hx)
    have hin := mk_in c
    by_cases h : i = A.length
    · rw [if_pos h]
      rw [decide_eq_true (hk.mpr h)] at hin
      generalize (0 : Int) + ((i : Nat) : Int) = I at *
      generalize S (A ++ m :: B) = J at *
      simp -implicitDefEqProofs only [compF, noErr_ok', MC, ev_sApp, ev_appL, ev_appD, ev_eComp, ev_lstD, ev_ctN, ev_ctO, ev_ctS, ev_join, ev_eImm, ev_immI, ev_immS, ev_immB, ev_immN, ev_immT, ev_imsN, ev_imsI, ev_imsS, ev_goN, ev_goC, ev_goB, ev_goR, ev_xl0, ev_xl1, ev_xl2, ev_isiI, ev_isiB, sSkip, Nat.reduceLT, Nat.reduceLeDiff, runB, sSeq, sSet, sRet, sIf, sDrop, sAug, sAsg, eVar, eC, eBin, eUn, eL, aNil, aCons, eTest, bAnd, bOr, bNot, eAnd, eOr, eNot, eIf, eChain, eChain3, eSl, oNone, oSome, iSeq, iL, asB, asSeq, Tgt.asg, R.ok_bind, R.err_bind, R.bad_bind, List.map_cons, List.map_nil, List.length_cons, List.length_nil, List.replicate_succ, List.replicate_zero, List.cons_append, List.nil_append, List.getElem?_cons_zero, List.getElem?_cons_succ, List.set_cons_zero, List.set_cons_succ, Nat.reduceAdd, Nat.reduceSub, Nat.zero_add, ev_add, ev_sub, ev_lt, ev_le, ev_gt, ev_ge, ev_neg, ev_mod, ev_fdiv, ev_eqi, ev_eqs, ev_eqb, ev_eqin, ev_eqni, ev_eqnn, ev_ix0, ev_ix1, ev_ix2, ev_ix3, ev_lenl, ev_lenf, if_true, if_false, Bool.false_eq_true, decide_eq_true_eq, Int.reduceLT, Int.reduceNeg, Int.reduceLE, Int.reduceSub, Int.reduceAdd, hx, hin]
    · rw [if_neg h]
      rw [decide_eq_false (fun z => h (hk.mp z))] at hin
      generalize (0 : Int) + ((i : Nat) : Int) = I at *
      generalize S (A ++ m :: B) = J at *
      simp -implicitDefEqProofs only [compF, noErr_ok', MC, ev_sApp, ev_appL, ev_appD, ev_eComp, ev_lstD, ev_ctN, ev_ctO, ev_ctS, ev_join, ev_eImm, ev_immI, ev_immS, ev_immB, ev_immN, ev_immT, ev_imsN, ev_imsI, ev_imsS, ev_goN, ev_goC, ev_goB, ev_goR, ev_xl0, ev_xl1, ev_xl2, ev_isiI, ev_isiB, sSkip, Nat.reduceLT, Nat.reduceLeDiff, runB, sSeq, sSet, sRet, sIf, sDrop, sAug, sAsg, eVar, eC, eBin, eUn, eL, aNil, aCons, eTest, bAnd, bOr, bNot, eAnd, eOr, eNot, eIf, eChain, eChain3, eSl, oNone, oSome, iSeq, iL, asB, asSeq, Tgt.asg, R.ok_bind, R.err_bind, R.bad_bind, List.map_cons, List.map_nil, List.length_cons, List.length_nil, List.replicate_succ, List.replicate_zero, List.cons_append, List.nil_append, List.getElem?_cons_zero, List.getElem?_cons_succ, List.set_cons_zero, List.set_cons_succ, Nat.reduceAdd, Nat.reduceSub, Nat.zero_add, ev_add, ev_sub, ev_lt, ev_le, ev_gt, ev_ge, ev_neg, ev_mod, ev_fdiv, ev_eqi, ev_eqs, ev_eqb, ev_eqin, ev_eqni, ev_eqnn, ev_ix0, ev_ix1, ev_ix2, ev_ix3, ev_lenl, ev_lenf, if_true, if_false, Bool.false_eq_true, decide_eq_true_eq, Int.reduceLT, Int.reduceNeg, Int.reduceLE, Int.reduceSub, Int.reduceAdd, hx, hin]
  rw [fm_one (fun i => D.int ((0 : Int) + (i : Nat))) A.length, if_pos hA, Int.zero_add] at hc
  have hk := ev_lstD (ys := [D.int ((A.length : Nat) : Int)]) (by simp)
  rw [tMK]
  generalize ((A.length : Nat) : Int) = a at *
  generalize (A ++ m :: B).length = N at *
  generalize ((N : Nat) : Int) = NN at *
  generalize S (A ++ m :: B) = J at *
  simp -implicitDefEqProofs only [TMK, ev_sApp, ev_appL, ev_appD, ev_eComp, ev_lstD, ev_ctN, ev_ctO, ev_ctS, ev_join, ev_eImm, ev_immI, ev_immS, ev_immB, ev_immN, ev_immT, ev_imsN, ev_imsI, ev_imsS, ev_goN, ev_goC, ev_goB, ev_goR, ev_xl0, ev_xl1, ev_xl2, ev_isiI, ev_isiB, sSkip, Nat.reduceLT, Nat.reduceLeDiff, runB, sSeq, sSet, sRet, sIf, sDrop, sAug, sAsg, eVar, eC, eBin, eUn, eL, aNil, aCons, eTest, bAnd, bOr, bNot, eAnd, eOr, eNot, eIf, eChain, eChain3, eSl, oNone, oSome, iSeq, iL, asB, asSeq, Tgt.asg, R.ok_bind, R.err_bind, R.bad_bind, List.map_cons, List.map_nil, List.length_cons, List.length_nil, List.replicate_succ, List.replicate_zero, List.cons_append, List.nil_append, List.getElem?_cons_zero, List.getElem?_cons_succ, List.set_cons_zero, List.set_cons_succ, Nat.reduceAdd, Nat.reduceSub, Nat.zero_add, ev_add, ev_sub, ev_lt, ev_le, ev_gt, ev_ge, ev_neg, ev_mod, ev_fdiv, ev_eqi, ev_eqs, ev_eqb, ev_eqin, ev_eqni, ev_eqnn, ev_ix0, ev_ix1, ev_ix2, ev_ix3, ev_lenl, ev_lenf, if_true, if_false, Bool.false_eq_true, decide_eq_true_eq, Int.reduceLT, Int.reduceNeg, Int.reduceLE, Int.reduceSub, Int.reduceAdd, h1, e1, hc, hk]
end K03

set_option maxRecDepth 100000
set_option maxHeartbeats 4000000
namespace K03
open PySem PyProof.Rows L2
def bF : Tn → R Fl := (sSeq (sSet 5 (eBin subD (eBin addD (eBin subD (eVar 2) (eVar 3)) (eVar 4)) (eL int1D (aCons (eBin gtD (eVar 4) (eVar 3)) aNil)))) (sSeq (sIf (bAnd (eTest (eBin (eqR true) (eVar 4) (eVar 3))) (bNot (eTest (eChain leD ltD (eC (.int 0)) (eVar 5) (eL lenD (aCons (eVar 1) aNil)))))) (sRet (eC (.bl false))) sSkip) (sIf (bAnd (eTest (eBin (eqR true) (eVar 4) (eVar 3))) (eTest (eBin (eqR true) (eL F__law_small (aCons (eBin ixD (eVar 1) (eVar 5)) aNil)) (eBin ixD (eVar 0) (eVar 4))))) (sRet (eC (.bl false))) sSkip)))
def TF_ : Tn → R Fl := (sSeq (sSet 3 (eL F__law_mark (aCons (eVar 0) aNil))) (sSeq (sFor (iL rng1 (aCons (eL lenD (aCons (eVar 0) aNil)) aNil)) (.one 4) bF) (sRet (eC (.bl true)))))
theorem tF : F__law_fits = runB 6 TF_ := rfl
theorem forGo_pass {asg : D → Tn → R Tn} {body : Tn → R Fl} (pass : D → Bool) (Iv : Tn → Prop) : ∀ (ds : List D) (τ : Tn), Iv τ →
    (∀ d ∈ ds, ∀ τ, Iv τ → ∃ τ1, asg d τ = .ok τ1 ∧ ((pass d = true ∧ ∃ τ2, body τ1 = .ok (.nx τ2) ∧ Iv τ2) ∨ (pass d = false ∧ body τ1 = .ok (.rt (.bl false))))) →
    (ds.all pass = true ∧ ∃ τ', forGo asg body ds τ = .ok (.nx τ') ∧ Iv τ') ∨ (ds.all pass = false ∧ forGo asg body ds τ = .ok (.rt (.bl false)))
  | [], τ, h, _ => .inl ⟨rfl, τ, rfl, h⟩
  | d :: ds, τ, h, hs => by
    obtain ⟨τ1, e1, h1⟩ := hs d List.mem_cons_self τ h
    rw [ev_forC, e1, R.ok_bind, List.all_cons]
    rcases h1 with ⟨p, τ2, e2, h2⟩ | ⟨p, e2⟩
    · rw [e2, R.ok_bind, ev_goN, p, Bool.true_and]
      exact forGo_pass pass Iv ds τ2 h2 fun d hd => hs d (List.mem_cons_of_mem _ hd)
    · rw [e2, R.ok_bind, ev_goR, p, Bool.false_and]
      exact .inr ⟨rfl, rfl⟩
def spotI (a p k : Nat) : Int := (p : Int) - a + k - (if a < k then 1 else 0)
def passK (J cs : List Nat) (a p k : Nat) : Bool := if k = a then true else decide (0 ≤ spotI a p k) && decide ((cs[(spotI a p k).toNat]?).map lo1 = J[k]?)
theorem bF_ok (J cs : List Nat) (hJ : J.length ≤ 9) (hc : ∀ c ∈ cs, c < 128) (hl : cs.length ≤ 40) (a p k : Nat) (hk : k < J.length) (hp : p ≤ 40) (ha : a ≤ 9) (y5 : Option D) :
    (passK J cs a p k = true ∧ ∃ y, bF [some (.str (S J)), some (.str (S cs)), some (.int (p : Nat)), some (.int (a : Nat)), some (.int ((0 : Int) + (k : Nat))), y5] = .ok (.nx [some (.str (S J)), some (.str (S cs)), some (.int (p : Nat)), some (.int (a : Nat)), some (.int ((0 : Int) + (k : Nat))), y])) ∨
    (passK J cs a p k = false ∧ bF [some (.str (S J)), some (.str (S cs)), some (.int (p : Nat)), some (.int (a : Nat)), some (.int ((0 : Int) + (k : Nat))), y5] = .ok (.rt (.bl false))) := by
  have hlen := len_S cs (by omega)
  have hint : int1D [.bl (decide (((a : Nat) : Int) < (0 : Int) + (k : Nat)))] = .ok (.int (if a < k then 1 else 0)) := by
    rw [ev_int1]
    by_cases h : a < k
    · rw [if_pos h, decide_eq_true (by omega)]; rfl
    · rw [if_neg h, decide_eq_false (by omega)]; rfl
  have hspot : ((p : Nat) : Int) - (a : Nat) + ((0 : Int) + (k : Nat)) - (if a < k then 1 else 0) = spotI a p k := by unfold spotI; omega
  by_cases hka : k = a
  · left
    refine ⟨by unfold passK; rw [if_pos hka], some (.int (spotI a p k)), ?_⟩
    have z : ((0 : Int) + (k : Nat) == ((a : Nat) : Int)) = true := beq_iff_eq.mpr (by omega)
    generalize spotI a p k = sp at *
    generalize (if a < k then (1 : Int) else 0) = t at *
    generalize (0 : Int) + ((k : Nat) : Int) = K at *
    generalize ((a : Nat) : Int) = AA at *
    generalize ((p : Nat) : Int) = P at *
    generalize S J = JJ at *
    generalize S cs = W at *
    simp -implicitDefEqProofs only [bF, ev_sApp, ev_appL, ev_appD, ev_eComp, ev_lstD, ev_ctN, ev_ctO, ev_ctS, ev_join, ev_eImm, ev_immI, ev_immS, ev_immB, ev_immN, ev_immT, ev_imsN, ev_imsI, ev_imsS, ev_goN, ev_goC, ev_goB, ev_goR, ev_xl0, ev_xl1, ev_xl2, ev_isiI, ev_isiB, sSkip, Nat.reduceLT, Nat.reduceLeDiff, runB, sSeq, sSet, sRet, sIf, sDrop, sAug, sAsg, eVar, eC, eBin, eUn, eL, aNil, aCons, eTest, bAnd, bOr, bNot, eAnd, eOr, eNot, eIf, eChain, eChain3, eSl, oNone, oSome, iSeq, iL, asB, asSeq, Tgt.asg, R.ok_bind, R.err_bind, R.bad_bind, List.map_cons, List.map_nil, List.length_cons, List.length_nil, List.replicate_succ, List.replicate_zero, List.cons_append, List.nil_append, List.getElem?_cons_zero, List.getElem?_cons_succ, List.set_cons_zero, List.set_cons_succ, Nat.reduceAdd, Nat.reduceSub, Nat.zero_add, ev_add, ev_sub, ev_lt, ev_le, ev_gt, ev_ge, ev_neg, ev_mod, ev_fdiv, ev_eqi, ev_eqs, ev_eqb, ev_eqin, ev_eqni, ev_eqnn, ev_ix0, ev_ix1, ev_ix2, ev_ix3, ev_lenl, ev_lenf, if_true, if_false, Bool.false_eq_true, decide_eq_true_eq, Int.reduceLT, Int.reduceNeg, Int.reduceLE, Int.reduceSub, Int.reduceAdd, hint, hspot, z, Bool.not_true]
  · have z : ((0 : Int) + (k : Nat) == ((a : Nat) : Int)) = false := beq_false_of_ne (by omega)
    have hpk : passK J cs a p k = (decide (0 ≤ spotI a p k) && decide ((cs[(spotI a p k).toNat]?).map lo1 = J[k]?)) := by unfold passK; rw [if_neg hka]
    rw [hpk]
    by_cases h0 : 0 ≤ spotI a p k
    · have e0 : decide (0 ≤ spotI a p k) = true := decide_eq_true h0
      by_cases h1 : spotI a p k < (cs.length : Nat)
      · have e1 : decide (spotI a p k < ((cs.length : Nat) : Int)) = true := decide_eq_true h1
        have hi : (spotI a p k).toNat < cs.length := by omega
        have hx := ix_at (cs := cs) (i := spotI a p k) (by omega) h0 (List.getElem?_eq_getElem hi)
        have hs := small _ (hc _ (List.getElem_mem hi))
        have hj := ix_at (cs := J) (i := (0 : Int) + (k : Nat)) (c := J[k]) (by omega) (by omega) (by rw [Int.zero_add, Int.toNat_natCast]; exact List.getElem?_eq_getElem hk)
        rw [List.getElem?_eq_getElem hi, List.getElem?_eq_getElem hk, e0, Bool.true_and]
        have he : eqR true (.str (one (lo1 cs[(spotI a p k).toNat]))) (.str (one J[k])) = .ok (.bl (!decide (lo1 cs[(spotI a p k).toNat] = J[k]))) := by
          rw [ev_eqs]
          show R.ok (D.bl (!(S [_] == S [_]))) = _
          rw [S_eq]
          congr 3
          simp
        have hd : decide (Option.map lo1 (some cs[(spotI a p k).toNat]) = some J[k]) = decide (lo1 cs[(spotI a p k).toNat] = J[k]) := by
          congr 1
          simp
        rw [hd]
        generalize cs[(spotI a p k).toNat] = c at *
        generalize J[k] = d at *
        generalize spotI a p k = sp at *
        generalize (if a < k then (1 : Int) else 0) = t at *
        generalize (0 : Int) + ((k : Nat) : Int) = K at *
        generalize ((cs.length : Nat) : Int) = l at *
        generalize ((a : Nat) : Int) = AA at *
        generalize ((p : Nat) : Int) = P at *
        generalize S J = JJ at *
        generalize S cs = W at *
        cases hb : decide (lo1 c = d) with
        | true =>
          rw [hb] at he
          exact .inl ⟨rfl, some (.int sp), by simp -implicitDefEqProofs only [bF, ev_sApp, ev_appL, ev_appD, ev_eComp, ev_lstD, ev_ctN, ev_ctO, ev_ctS, ev_join, ev_eImm, ev_immI, ev_immS, ev_immB, ev_immN, ev_immT, ev_imsN, ev_imsI, ev_imsS, ev_goN, ev_goC, ev_goB, ev_goR, ev_xl0, ev_xl1, ev_xl2, ev_isiI, ev_isiB, sSkip, Nat.reduceLT, Nat.reduceLeDiff, runB, sSeq, sSet, sRet, sIf, sDrop, sAug, sAsg, eVar, eC, eBin, eUn, eL, aNil, aCons, eTest, bAnd, bOr, bNot, eAnd, eOr, eNot, eIf, eChain, eChain3, eSl, oNone, oSome, iSeq, iL, asB, asSeq, Tgt.asg, R.ok_bind, R.err_bind, R.bad_bind, List.map_cons, List.map_nil, List.length_cons, List.length_nil, List.replicate_succ, List.replicate_zero, List.cons_append, List.nil_append, List.getElem?_cons_zero, List.getElem?_cons_succ, List.set_cons_zero, List.set_cons_succ, Nat.reduceAdd, Nat.reduceSub, Nat.zero_add, ev_add, ev_sub, ev_lt, ev_le, ev_gt, ev_ge, ev_neg, ev_mod, ev_fdiv, ev_eqi, ev_eqs, ev_eqb, ev_eqin, ev_eqni, ev_eqnn, ev_ix0, ev_ix1, ev_ix2, ev_ix3, ev_lenl, ev_lenf, if_true, if_false, Bool.false_eq_true, decide_eq_true_eq, Int.reduceLT, Int.reduceNeg, Int.reduceLE, Int.reduceSub, Int.reduceAdd, hint, hspot, z, hlen, e0, e1, hx, hs, hj, he, Bool.not_true, Bool.not_false]⟩
        | false =>
          rw [hb] at he
          exact .inr ⟨rfl, by simp -implicitDefEqProofs only [bF, ev_sApp, ev_appL, ev_appD, ev_eComp, ev_lstD, ev_ctN, ev_ctO, ev_ctS, ev_join, ev_eImm, ev_immI, ev_immS, ev_immB, ev_immN, ev_immT, ev_imsN, ev_imsI, ev_imsS, ev_goN, ev_goC, ev_goB, ev_goR, ev_xl0, ev_xl1, ev_xl2, ev_isiI, ev_isiB, sSkip, Nat.reduceLT, Nat.reduceLeDiff, runB, sSeq, sSet, sRet, sIf, sDrop, sAug, sAsg, eVar, eC, eBin, eUn, eL, aNil, aCons, eTest, bAnd, bOr, bNot, eAnd, eOr, eNot, eIf, eChain, eChain3, eSl, oNone, oSome, iSeq, iL, asB, asSeq, Tgt.asg, R.ok_bind, R.err_bind, R.bad_bind, List.map_cons, List.map_nil, List.length_cons, List.length_nil, List.replicate_succ, List.replicate_zero, List.cons_append, List.nil_append, List.getElem?_cons_zero, List.getElem?_cons_succ, List.set_cons_zero, List.set_cons_succ, Nat.reduceAdd, Nat.reduceSub, Nat.zero_add, ev_add, ev_sub, ev_lt, ev_le, ev_gt, ev_ge, ev_neg, ev_mod, ev_fdiv, ev_eqi, ev_eqs, ev_eqb, ev_eqin, ev_eqni, ev_eqnn, ev_ix0, ev_ix1, ev_ix2, ev_ix3, ev_lenl, ev_lenf, if_true, if_false, Bool.false_eq_true, decide_eq_true_eq, Int.reduceLT, Int.reduceNeg, Int.reduceLE, Int.reduceSub, Int.reduceAdd, hint, hspot, z, hlen, e0, e1, hx, hs, hj, he, Bool.not_true, Bool.not_false]⟩
      · have e1 : decide (spotI a p k < ((cs.length : Nat) : Int)) = false := decide_eq_false h1
        right
        rw [List.getElem?_eq_none (by omega), List.getElem?_eq_getElem hk]
        refine ⟨by simp, ?_⟩
        generalize spotI a p k = sp at *
        generalize (if a < k then (1 : Int) else 0) = t at *
        generalize (0 : Int) + ((k : Nat) : Int) = K at *
        generalize ((cs.length : Nat) : Int) = l at *
        generalize ((a : Nat) : Int) = AA at *
        generalize ((p : Nat) : Int) = P at *
        generalize S J = JJ at *
        generalize S cs = W at *
        simp -implicitDefEqProofs only [bF, ev_sApp, ev_appL, ev_appD, ev_eComp, ev_lstD, ev_ctN, ev_ctO, ev_ctS, ev_join, ev_eImm, ev_immI, ev_immS, ev_immB, ev_immN, ev_immT, ev_imsN, ev_imsI, ev_imsS, ev_goN, ev_goC, ev_goB, ev_goR, ev_xl0, ev_xl1, ev_xl2, ev_isiI, ev_isiB, sSkip, Nat.reduceLT, Nat.reduceLeDiff, runB, sSeq, sSet, sRet, sIf, sDrop, sAug, sAsg, eVar, eC, eBin, eUn, eL, aNil, aCons, eTest, bAnd, bOr, bNot, eAnd, eOr, eNot, eIf, eChain, eChain3, eSl, oNone, oSome, iSeq, iL, asB, asSeq, Tgt.asg, R.ok_bind, R.err_bind, R.bad_bind, List.map_cons, List.map_nil, List.length_cons, List.length_nil, List.replicate_succ, List.replicate_zero, List.cons_append, List.nil_append, List.getElem?_cons_zero, List.getElem?_cons_succ, List.set_cons_zero, List.set_cons_succ, Nat.reduceAdd, Nat.reduceSub, Nat.zero_add, ev_add, ev_sub, ev_lt, ev_le, ev_gt, ev_ge, ev_neg, ev_mod, ev_fdiv, ev_eqi, ev_eqs, ev_eqb, ev_eqin, ev_eqni, ev_eqnn, ev_ix0, ev_ix1, ev_ix2, ev_ix3, ev_lenl, ev_lenf, if_true, if_false, Bool.false_eq_true, decide_eq_true_eq, Int.reduceLT, Int.reduceNeg, Int.reduceLE, Int.reduceSub, Int.reduceAdd, hint, hspot, z, hlen, e0, e1, Bool.not_true, Bool.not_false]
    · have e0 : decide (0 ≤ spotI a p k) = false := decide_eq_false h0
      right
      refine ⟨by rw [e0, Bool.false_and], ?_⟩
      generalize spotI a p k = sp at *
      generalize (if a < k then (1 : Int) else 0) = t at *
      generalize (0 : Int) + ((k : Nat) : Int) = K at *
      generalize ((cs.length : Nat) : Int) = l at *
      generalize ((a : Nat) : Int) = AA at *
      generalize ((p : Nat) : Int) = P at *
      generalize S J = JJ at *
      generalize S cs = W at *
      simp -implicitDefEqProofs only [bF, ev_sApp, ev_appL, ev_appD, ev_eComp, ev_lstD, ev_ctN, ev_ctO, ev_ctS, ev_join, ev_eImm, ev_immI, ev_immS, ev_immB, ev_immN, ev_immT, ev_imsN, ev_imsI, ev_imsS, ev_goN, ev_goC, ev_goB, ev_goR, ev_xl0, ev_xl1, ev_xl2, ev_isiI, ev_isiB, sSkip, Nat.reduceLT, Nat.reduceLeDiff, runB, sSeq, sSet, sRet, sIf, sDrop, sAug, sAsg, eVar, eC, eBin, eUn, eL, aNil, aCons, eTest, bAnd, bOr, bNot, eAnd, eOr, eNot, eIf, eChain, eChain3, eSl, oNone, oSome, iSeq, iL, asB, asSeq, Tgt.asg, R.ok_bind, R.err_bind, R.bad_bind, List.map_cons, List.map_nil, List.length_cons, List.length_nil, List.replicate_succ, List.replicate_zero, List.cons_append, List.nil_append, List.getElem?_cons_zero, List.getElem?_cons_succ, List.set_cons_zero, List.set_cons_succ, Nat.reduceAdd, Nat.reduceSub, Nat.zero_add, ev_add, ev_sub, ev_lt, ev_le, ev_gt, ev_ge, ev_neg, ev_mod, ev_fdiv, ev_eqi, ev_eqs, ev_eqb, ev_eqin, ev_eqni, ev_eqnn, ev_ix0, ev_ix1, ev_ix2, ev_ix3, ev_lenl, ev_lenf, if_true, if_false, Bool.false_eq_true, decide_eq_true_eq, Int.reduceLT, Int.reduceNeg, Int.reduceLE, Int.reduceSub, Int.reduceAdd, hint, hspot, z, hlen, e0, Bool.not_true, Bool.not_false]
def passD (J cs : List Nat) (a p : Nat) : D → Bool
  | .int i => passK J cs a p i.toNat
  | _ => false
theorem all_rng (f : D → Bool) (n : Nat) : (rng 0 n).all f = (List.range n).all fun i => f (.int ((0 : Int) + (i : Nat))) := by
  unfold rng
  rw [List.all_map]
  rfl
theorem law_fits0 (A B : List Nat) (m : Nat) (j : Jt A B m) (cs : List Nat) (hc : ∀ c ∈ cs, c < 128) (hl : cs.length ≤ 40) (p : Nat) (hp : p ≤ cs.length) : F__law_fits [.str (S (A ++ m :: B)), .str (S cs), .int (p : Nat)] = .ok (.bl ((List.range (A ++ m :: B).length).all (passK (A ++ m :: B) cs A.length p))) := by
  have hJ : (A ++ m :: B).length ≤ 9 := by have := j.l1; simp; omega
  have hA : A.length ≤ 9 := by have := j.l1; omega
  have hm := law_mark A B m j
  have h1 := len_S (A ++ m :: B) (by omega)
  have e1 : rng1 [D.int ((A ++ m :: B).length : Nat)] = .ok (rng 0 (((A ++ m :: B).length : Nat) : Int).toNat) := ev_rng1 (by omega) (by omega)
  rw [Int.toNat_natCast] at e1
  generalize A ++ m :: B = J at *
  generalize A.length = a at *
  have key := forGo_pass (asg := (Tgt.one 4).asg) (body := bF) (passD J cs a p) (fun τ => ∃ y4 y5, τ = [some (.str (S J)), some (.str (S cs)), some (.int (p : Nat)), some (.int (a : Nat)), y4, y5]) (rng 0 J.length) [some (.str (S J)), some (.str (S cs)), some (.int (p : Nat)), some (.int (a : Nat)), none, none] ⟨none, none, rfl⟩ (by
    rintro d hd τ ⟨y4, y5, rfl⟩
    obtain ⟨i, hi⟩ := List.getElem?_of_mem hd
    obtain ⟨hlt, rfl⟩ := rng_get hi
    refine ⟨_, rfl, ?_⟩
    have hpd : passD J cs a p (.int ((0 : Int) + (i : Nat))) = passK J cs a p i := by
      show passK J cs a p ((0 : Int) + (i : Nat)).toNat = _
      rw [Int.zero_add, Int.toNat_natCast]
    rw [hpd]
    rcases bF_ok J cs hJ hc hl a p i hlt (by omega) hA y5 with ⟨q, y, hb⟩ | ⟨q, hb⟩
    · exact .inl ⟨q, _, hb, _, _, rfl⟩
    · exact .inr ⟨q, hb⟩)
  have hall : (rng 0 J.length).all (passD J cs a p) = (List.range J.length).all (passK J cs a p) := by
    rw [all_rng]
    have hf : (fun i : Nat => passD J cs a p (.int ((0 : Int) + (i : Nat)))) = passK J cs a p := funext fun i => by
      show passK J cs a p ((0 : Int) + (i : Nat)).toNat = _
      rw [Int.zero_add, Int.toNat_natCast]
    rw [hf]
  rw [hall] at key
  rw [tF]
  rcases key with ⟨q, τ', hf, y4, y5, rfl⟩ | ⟨q, hf⟩
  · rw [q]
    generalize ((a : Nat) : Int) = AA at *
    generalize ((p : Nat) : Int) = P at *
    generalize S J = JJ at *
    generalize S cs = W at *
    generalize J.length = N at *
    generalize ((N : Nat) : Int) = NN at *
    have eF : sFor (iL rng1 (aCons (eL lenD (aCons (eVar 0) aNil)) aNil)) (.one 4) bF [some (.str JJ), some (.str W), some (.int P), some (.int AA), none, none] = _ := ev_for (by simp -implicitDefEqProofs only [ev_sApp, ev_appL, ev_appD, ev_eComp, ev_lstD, ev_ctN, ev_ctO, ev_ctS, ev_join, ev_eImm, ev_immI, ev_immS, ev_immB, ev_immN, ev_immT, ev_imsN, ev_imsI, ev_imsS, ev_goN, ev_goC, ev_goB, ev_goR, ev_xl0, ev_xl1, ev_xl2, ev_isiI, ev_isiB, sSkip, Nat.reduceLT, Nat.reduceLeDiff, runB, sSeq, sSet, sRet, sIf, sDrop, sAug, sAsg, eVar, eC, eBin, eUn, eL, aNil, aCons, eTest, bAnd, bOr, bNot, eAnd, eOr, eNot, eIf, eChain, eChain3, eSl, oNone, oSome, iSeq, iL, asB, asSeq, Tgt.asg, R.ok_bind, R.err_bind, R.bad_bind, List.map_cons, List.map_nil, List.length_cons, List.length_nil, List.replicate_succ, List.replicate_zero, List.cons_append, List.nil_append, List.getElem?_cons_zero, List.getElem?_cons_succ, List.set_cons_zero, List.set_cons_succ, Nat.reduceAdd, Nat.reduceSub, Nat.zero_add, ev_add, ev_sub, ev_lt, ev_le, ev_gt, ev_ge, ev_neg, ev_mod, ev_fdiv, ev_eqi, ev_eqs, ev_eqb, ev_eqin, ev_eqni, ev_eqnn, ev_ix0, ev_ix1, ev_ix2, ev_ix3, ev_lenl, ev_lenf, if_true, if_false, Bool.false_eq_true, decide_eq_true_eq, Int.reduceLT, Int.reduceNeg, Int.reduceLE, Int.reduceSub, Int.reduceAdd, h1, e1]) hf
    simp -implicitDefEqProofs only [TF_, ev_sApp, ev_appL, ev_appD, ev_eComp, ev_lstD, ev_ctN, ev_ctO, ev_ctS, ev_join, ev_eImm, ev_immI, ev_immS, ev_immB, ev_immN, ev_immT, ev_imsN, ev_imsI, ev_imsS, ev_goN, ev_goC, ev_goB, ev_goR, ev_xl0, ev_xl1, ev_xl2, ev_isiI, ev_isiB, sSkip, Nat.reduceLT, Nat.reduceLeDiff, runB, sSeq, sSet, sRet, sIf, sDrop, sAug, sAsg, eVar, eC, eBin, eUn, eL, aNil, aCons, eTest, bAnd, bOr, bNot, eAnd, eOr, eNot, eIf, eChain, eChain3, eSl, oNone, oSome, iSeq, iL, asB, asSeq, Tgt.asg, R.ok_bind, R.err_bind, R.bad_bind, List.map_cons, List.map_nil, List.length_cons, List.length_nil, List.replicate_succ, List.replicate_zero, List.cons_append, List.nil_append, List.getElem?_cons_zero, List.getElem?_cons_succ, List.set_cons_zero, List.set_cons_succ, Nat.reduceAdd, Nat.reduceSub, Nat.zero_add, ev_add, ev_sub, ev_lt, ev_le, ev_gt, ev_ge, ev_neg, ev_mod, ev_fdiv, ev_eqi, ev_eqs, ev_eqb, ev_eqin, ev_eqni, ev_eqnn, ev_ix0, ev_ix1, ev_ix2, ev_ix3, ev_lenl, ev_lenf, if_true, if_false, Bool.false_eq_true, decide_eq_true_eq, Int.reduceLT, Int.reduceNeg, Int.reduceLE, Int.reduceSub, Int.reduceAdd, hm, eF]
  · rw [q]
    generalize ((a : Nat) : Int) = AA at *
    generalize ((p : Nat) : Int) = P at *
    generalize S J = JJ at *
    generalize S cs = W at *
    generalize J.length = N at *
    generalize ((N : Nat) : Int) = NN at *
    have eF : sFor (iL rng1 (aCons (eL lenD (aCons (eVar 0) aNil)) aNil)) (.one 4) bF [some (.str JJ), some (.str W), some (.int P), some (.int AA), none, none] = _ := ev_for (by simp -implicitDefEqProofs only [ev_sApp, ev_appL, ev_appD, ev_eComp, ev_lstD, ev_ctN, ev_ctO, ev_ctS, ev_join, ev_eImm, ev_immI, ev_immS, ev_immB, ev_immN, ev_immT, ev_imsN, ev_imsI, ev_imsS, ev_goN, ev_goC, ev_goB, ev_goR, ev_xl0, ev_xl1, ev_xl2, ev_isiI, ev_isiB, sSkip, Nat.reduceLT, Nat.reduceLeDiff, runB, sSeq, sSet, sRet, sIf, sDrop, sAug, sAsg, eVar, eC, eBin, eUn, eL, aNil, aCons, eTest, bAnd, bOr, bNot, eAnd, eOr, eNot, eIf, eChain, eChain3, eSl, oNone, oSome, iSeq, iL, asB, asSeq, Tgt.asg, R.ok_bind, R.err_bind, R.bad_bind, List.map_cons, List.map_nil, List.length_cons, List.length_nil, List.replicate_succ, List.replicate_zero, List.cons_append, List.nil_append, List.getElem?_cons_zero, List.getElem?_cons_succ, List.set_cons_zero, List.set_cons_succ, Nat.reduceAdd, Nat.reduceSub, Nat.zero_add, ev_add, ev_sub, ev_lt, ev_le, ev_gt, ev_ge, ev_neg, ev_mod, ev_fdiv, ev_eqi, ev_eqs, ev_eqb, ev_eqin, ev_eqni, ev_eqnn, ev_ix0, ev_ix1, ev_ix2, ev_ix3, ev_lenl, ev_lenf, if_true, if_false, Bool.false_eq_true, decide_eq_true_eq, Int.reduceLT, Int.reduceNeg, Int.reduceLE, Int.reduceSub, Int.reduceAdd, h1, e1]) hf
    simp -implicitDefEqProofs only [TF_, ev_sApp, ev_appL, ev_appD, ev_eComp, ev_lstD, ev_ctN, ev_ctO, ev_ctS, ev_join, ev_eImm, ev_immI, ev_immS, ev_immB, ev_immN, ev_immT, ev_imsN, ev_imsI, ev_imsS, ev_goN, ev_goC, ev_goB, ev_goR, ev_xl0, ev_xl1, ev_xl2, ev_isiI, ev_isiB, sSkip, Nat.reduceLT, Nat.reduceLeDiff, runB, sSeq, sSet, sRet, sIf, sDrop, sAug, sAsg, eVar, eC, eBin, eUn, eL, aNil, aCons, eTest, bAnd, bOr, bNot, eAnd, eOr, eNot, eIf, eChain, eChain3, eSl, oNone, oSome, iSeq, iL, asB, asSeq, Tgt.asg, R.ok_bind, R.err_bind, R.bad_bind, List.map_cons, List.map_nil, List.length_cons, List.length_nil, List.replicate_succ, List.replicate_zero, List.cons_append, List.nil_append, List.getElem?_cons_zero, List.getElem?_cons_succ, List.set_cons_zero, List.set_cons_succ, Nat.reduceAdd, Nat.reduceSub, Nat.zero_add, ev_add, ev_sub, ev_lt, ev_le, ev_gt, ev_ge, ev_neg, ev_mod, ev_fdiv, ev_eqi, ev_eqs, ev_eqb, ev_eqin, ev_eqni, ev_eqnn, ev_ix0, ev_ix1, ev_ix2, ev_ix3, ev_lenl, ev_lenf, if_true, if_false, Bool.false_eq_true, decide_eq_true_eq, Int.reduceLT, Int.reduceNeg, Int.reduceLE, Int.reduceSub, Int.reduceAdd, hm, eF]
theorem list_fits (cs L : List Nat) (b : Nat) : (((cs.drop b).take L.length).map lo1 = L) ↔ ∀ i, i < L.length → (cs[b + i]?).map lo1 = L[i]? := by
  constructor
  · intro h i hi
    have e : (((cs.drop b).take L.length).map lo1)[i]? = L[i]? := by rw [h]
    rw [List.getElem?_map, List.getElem?_take_of_lt hi, List.getElem?_drop] at e
    exact e
  · intro h
    apply List.ext_getElem?
    intro i
    by_cases hi : i < L.length
    · rw [List.getElem?_map, List.getElem?_take_of_lt hi, List.getElem?_drop]
      exact h i hi
    · rw [List.getElem?_eq_none (by rw [List.length_map, List.length_take]; omega), List.getElem?_eq_none (by omega)]
theorem pass_eq (A B : List Nat) (m : Nat) (cs : List Nat) (p : Nat) : ((List.range (A ++ m :: B).length).all (passK (A ++ m :: B) cs A.length p)) = fitB (A ++ B) A.length cs p := by
  rw [Bool.eq_iff_iff, List.all_eq_true]
  unfold fitB
  rw [Bool.and_eq_true, decide_eq_true_eq, decide_eq_true_eq, list_fits]
  have jl : ∀ k, k < A.length → (A ++ m :: B)[k]? = (A ++ B)[k]? := fun k hk => by rw [List.getElem?_append_left hk, List.getElem?_append_left hk]
  have jr : ∀ k, A.length < k → (A ++ m :: B)[k]? = (A ++ B)[k - 1]? := fun k hk => by
    rw [List.getElem?_append_right (by omega), List.getElem?_append_right (by omega)]
    have e : k - A.length = (k - 1 - A.length) + 1 := by omega
    rw [e, List.getElem?_cons_succ]
  have hN : (A ++ m :: B).length = (A ++ B).length + 1 := by simp; omega
  have hL : A.length ≤ (A ++ B).length := by simp
  constructor
  · intro h
    have get : ∀ i, i < (A ++ B).length → 0 ≤ (p : Int) - A.length + i ∧ (cs[((p : Int) - A.length + i).toNat]?).map lo1 = (A ++ B)[i]? := fun i hi => by
      by_cases hia : i < A.length
      · have := h i (List.mem_range.mpr (by omega))
        unfold passK spotI at this
        rw [if_neg (by omega), if_neg (by omega), Int.sub_zero, jl i hia, Bool.and_eq_true, decide_eq_true_eq, decide_eq_true_eq] at this
        exact this
      · have := h (i + 1) (List.mem_range.mpr (by omega))
        unfold passK spotI at this
        rw [if_neg (by omega), if_pos (by omega), jr (i + 1) (by omega), Nat.add_sub_cancel, Bool.and_eq_true, decide_eq_true_eq, decide_eq_true_eq] at this
        have e : (p : Int) - A.length + ((i + 1 : Nat) : Int) - 1 = (p : Int) - A.length + i := by omega
        rw [e] at this
        exact this
    have hap : A.length ≤ p := by
      by_cases h0 : 0 < (A ++ B).length
      · have := (get 0 h0).1; omega
      · omega
    refine ⟨hap, fun i hi => ?_⟩
    have := (get i hi).2
    have e : ((p : Int) - A.length + i).toNat = p - A.length + i := by omega
    rw [e] at this
    exact this
  · rintro ⟨hap, h⟩ k hk
    have hk := List.mem_range.mp hk
    unfold passK spotI
    by_cases hka : k = A.length
    · rw [if_pos hka]
    · rw [if_neg hka, Bool.and_eq_true, decide_eq_true_eq, decide_eq_true_eq]
      by_cases hlt : k < A.length
      · rw [if_neg (by omega), Int.sub_zero, jl k hlt]
        have e : ((p : Int) - A.length + k).toNat = p - A.length + k := by omega
        rw [e]
        exact ⟨by omega, h k (by omega)⟩
      · rw [if_pos (by omega), jr k (by omega)]
        have e : ((p : Int) - A.length + k - 1).toNat = p - A.length + (k - 1) := by omega
        rw [e]
        exact ⟨by omega, h (k - 1) (by omega)⟩
theorem law_fits (A B : List Nat) (m : Nat) (j : Jt A B m) (cs : List Nat) (hc : ∀ c ∈ cs, c < 128) (hl : cs.length ≤ 40) (p : Nat) (hp : p ≤ cs.length) : F__law_fits [.str (S (A ++ m :: B)), .str (S cs), .int (p : Nat)] = .ok (.bl (fitB (A ++ B) A.length cs p)) := by
  rw [law_fits0 A B m j cs hc hl p hp, pass_eq]
end K03

set_option maxRecDepth 100000
set_option maxHeartbeats 4000000
namespace K03
open PySem PyProof.Rows L2
def bP : Tn → R Fl := (sSeq (sSet 5 (eL F_fits (aCons (eVar 3) (aCons (eVar 1) (aCons (eVar 4) aNil))))) (sIf (bOr (bNot (eTest (eUn (isiD "bool") (eVar 5)))) (eTest (eBin (eqR true) (eVar 5) (eL F__law_fits (aCons (eVar 3) (aCons (eVar 1) (aCons (eVar 4) aNil))))))) (sRet (eC (.bl false))) sSkip))
def bO : Tn → R Fl := (sSeq (sSet 3 (eL F__law_joint (aCons (eL F__law_number (aCons (eVar 0) (aCons (eBin addD (eC (.int 9)) (eVar 2)) aNil))) (aCons (eVar 1) aNil)))) (sFor (iL rng2 (aCons (eC (.int 1)) (aCons (eL lenD (aCons (eVar 1) aNil)) aNil))) (.one 4) bP))
def TLW : Tn → R Fl := (sSeq (sSet 1 (eL F__law_word (aCons (eVar 0) (aCons (eC (.int 0)) aNil)))) (sSeq (sFor (iL rng1 (aCons (eC (.int 6)) aNil)) (.one 2) bO) (sRet (eC (.bl true)))))
theorem tLW : F_law = runB 6 TLW := rfl
theorem bP_ok (S0 J W : D) (k : Option D) (p : Int) (b : Bool) (y5 : Option D) (h1 : F_fits [J, W, .int p] = .ok (.bl b)) (h2 : F__law_fits [J, W, .int p] = .ok (.bl b)) : bP [some S0, some W, k, some J, some (.int p), y5] = .ok (.nx [some S0, some W, k, some J, some (.int p), some (.bl b)]) := by
  have i1 : isiD "bool" (.bl b) = .ok (.bl true) := rfl
  have e1 : eqR true (.bl b) (.bl b) = .ok (.bl false) := by rw [ev_eqb]; simp
  simp -implicitDefEqProofs only [bP, ev_sApp, ev_appL, ev_appD, ev_eComp, ev_lstD, ev_ctN, ev_ctO, ev_ctS, ev_join, ev_eImm, ev_immI, ev_immS, ev_immB, ev_immN, ev_immT, ev_imsN, ev_imsI, ev_imsS, ev_goN, ev_goC, ev_goB, ev_goR, ev_xl0, ev_xl1, ev_xl2, ev_isiI, ev_isiB, sSkip, Nat.reduceLT, Nat.reduceLeDiff, runB, sSeq, sSet, sRet, sIf, sDrop, sAug, sAsg, eVar, eC, eBin, eUn, eL, aNil, aCons, eTest, bAnd, bOr, bNot, eAnd, eOr, eNot, eIf, eChain, eChain3, eSl, oNone, oSome, iSeq, iL, asB, asSeq, Tgt.asg, R.ok_bind, R.err_bind, R.bad_bind, List.map_cons, List.map_nil, List.length_cons, List.length_nil, List.replicate_succ, List.replicate_zero, List.cons_append, List.nil_append, List.getElem?_cons_zero, List.getElem?_cons_succ, List.set_cons_zero, List.set_cons_succ, Nat.reduceAdd, Nat.reduceSub, Nat.zero_add, ev_add, ev_sub, ev_lt, ev_le, ev_gt, ev_ge, ev_neg, ev_mod, ev_fdiv, ev_eqi, ev_eqs, ev_eqb, ev_eqin, ev_eqni, ev_eqnn, ev_ix0, ev_ix1, ev_ix2, ev_ix3, ev_lenl, ev_lenf, if_true, if_false, Bool.false_eq_true, decide_eq_true_eq, Int.reduceLT, Int.reduceNeg, Int.reduceLE, Int.reduceSub, Int.reduceAdd, h1, h2, i1, e1, Bool.not_true]
theorem lP_ok (S0 : D) (k : Option D) (A B : List Nat) (m : Nat) (j : Jt A B m) (cs : List Nat) (hc : ∀ c ∈ cs, c < 128) (hl : cs.length ≤ 40) (y4 y5 : Option D) : ∃ z4 z5, forGo (Tgt.one 4).asg bP (rng 1 (cs.length - 1)) [some S0, some (.str (S cs)), k, some (.str (S (A ++ m :: B))), y4, y5] = .ok (.nx [some S0, some (.str (S cs)), k, some (.str (S (A ++ m :: B))), z4, z5]) := by
  obtain ⟨τ', e2, z4, z5, h⟩ := forGo_inv (asg := (Tgt.one 4).asg) (body := bP)
    (fun _ τ => ∃ (z4 z5 : Option D), τ = [some S0, some (.str (S cs)), k, some (.str (S (A ++ m :: B))), z4, z5]) (rng 1 (cs.length - 1)) 0
    [some S0, some (.str (S cs)), k, some (.str (S (A ++ m :: B))), y4, y5] ⟨y4, y5, rfl⟩ (fun i q τ hd ⟨z4, z5, h⟩ => by
      obtain ⟨hi, rfl⟩ := rng_get hd
      subst h
      have e : (1 : Int) + (i : Nat) = ((1 + i : Nat) : Int) := by omega
      have f1 := fits A B m j cs hc hl (1 + i) (by omega)
      have f2 := law_fits A B m j cs hc hl (1 + i) (by omega)
      rw [← e] at f1 f2
      exact ⟨_, _, rfl, .inl (bP_ok S0 _ _ k _ _ z5 f1 f2), _, _, rfl⟩)
  exact ⟨z4, z5, by rw [e2, h]⟩
theorem bO_ok (S0 J : D) (cs : List Nat) (hl : cs.length ≤ 40) (h1 : 1 ≤ cs.length) (k v : Int) (y3 y4 y5 z4 z5 : Option D) (hn : F__law_number [S0, .int (9 + k)] = .ok (.int v)) (hj : F__law_joint [.int v, .str (S cs)] = .ok J)
    (hf : forGo (Tgt.one 4).asg bP (rng 1 (cs.length - 1)) [some S0, some (.str (S cs)), some (.int k), some J, y4, y5] = .ok (.nx [some S0, some (.str (S cs)), some (.int k), some J, z4, z5])) :
    bO [some S0, some (.str (S cs)), some (.int k), y3, y4, y5] = .ok (.nx [some S0, some (.str (S cs)), some (.int k), some J, z4, z5]) := by
  have hlen := len_S cs (by omega)
  have e1 : rng2 [D.int 1, .int (cs.length : Nat)] = .ok (rng 1 (((cs.length : Nat) : Int) - 1).toNat) := ev_rng2 (by omega) (by omega) (by omega) (by omega)
  have e2 : (((cs.length : Nat) : Int) - 1).toNat = cs.length - 1 := by omega
  rw [e2] at e1
  generalize cs.length - 1 = N at *
  generalize ((cs.length : Nat) : Int) = l at *
  generalize S cs = W at *
  have eF : sFor (iL rng2 (aCons (eC (.int 1)) (aCons (eL lenD (aCons (eVar 1) aNil)) aNil))) (.one 4) bP [some S0, some (.str W), some (.int k), some J, y4, y5] = _ := ev_for (by simp -implicitDefEqProofs only [ev_sApp, ev_appL, ev_appD, ev_eComp, ev_lstD, ev_ctN, ev_ctO, ev_ctS, ev_join, ev_eImm, ev_immI, ev_immS, ev_immB, ev_immN, ev_immT, ev_imsN, ev_imsI, ev_imsS, ev_goN, ev_goC, ev_goB, ev_goR, ev_xl0, ev_xl1, ev_xl2, ev_isiI, ev_isiB, sSkip, Nat.reduceLT, Nat.reduceLeDiff, runB, sSeq, sSet, sRet, sIf, sDrop, sAug, sAsg, eVar, eC, eBin, eUn, eL, aNil, aCons, eTest, bAnd, bOr, bNot, eAnd, eOr, eNot, eIf, eChain, eChain3, eSl, oNone, oSome, iSeq, iL, asB, asSeq, Tgt.asg, R.ok_bind, R.err_bind, R.bad_bind, List.map_cons, List.map_nil, List.length_cons, List.length_nil, List.replicate_succ, List.replicate_zero, List.cons_append, List.nil_append, List.getElem?_cons_zero, List.getElem?_cons_succ, List.set_cons_zero, List.set_cons_succ, Nat.reduceAdd, Nat.reduceSub, Nat.zero_add, ev_add, ev_sub, ev_lt, ev_le, ev_gt, ev_ge, ev_neg, ev_mod, ev_fdiv, ev_eqi, ev_eqs, ev_eqb, ev_eqin, ev_eqni, ev_eqnn, ev_ix0, ev_ix1, ev_ix2, ev_ix3, ev_lenl, ev_lenf, if_true, if_false, Bool.false_eq_true, decide_eq_true_eq, Int.reduceLT, Int.reduceNeg, Int.reduceLE, Int.reduceSub, Int.reduceAdd, hlen, e1]) hf
  simp -implicitDefEqProofs only [bO, ev_sApp, ev_appL, ev_appD, ev_eComp, ev_lstD, ev_ctN, ev_ctO, ev_ctS, ev_join, ev_eImm, ev_immI, ev_immS, ev_immB, ev_immN, ev_immT, ev_imsN, ev_imsI, ev_imsS, ev_goN, ev_goC, ev_goB, ev_goR, ev_xl0, ev_xl1, ev_xl2, ev_isiI, ev_isiB, sSkip, Nat.reduceLT, Nat.reduceLeDiff, runB, sSeq, sSet, sRet, sIf, sDrop, sAug, sAsg, eVar, eC, eBin, eUn, eL, aNil, aCons, eTest, bAnd, bOr, bNot, eAnd, eOr, eNot, eIf, eChain, eChain3, eSl, oNone, oSome, iSeq, iL, asB, asSeq, Tgt.asg, R.ok_bind, R.err_bind, R.bad_bind, List.map_cons, List.map_nil, List.length_cons, List.length_nil, List.replicate_succ, List.replicate_zero, List.cons_append, List.nil_append, List.getElem?_cons_zero, List.getElem?_cons_succ, List.set_cons_zero, List.set_cons_succ, Nat.reduceAdd, Nat.reduceSub, Nat.zero_add, ev_add, ev_sub, ev_lt, ev_le, ev_gt, ev_ge, ev_neg, ev_mod, ev_fdiv, ev_eqi, ev_eqs, ev_eqb, ev_eqin, ev_eqni, ev_eqnn, ev_ix0, ev_ix1, ev_ix2, ev_ix3, ev_lenl, ev_lenf, if_true, if_false, Bool.false_eq_true, decide_eq_true_eq, Int.reduceLT, Int.reduceNeg, Int.reduceLE, Int.reduceSub, Int.reduceAdd, hn, hj, eF]
theorem law_true (ns : List Int) (h : ns.length ≤ 63) : F_law [.frl (ns.map D.int)] = .ok (.bl true) := by
  obtain ⟨cs, hw, hc, l0, l1⟩ := word ns h
  obtain ⟨τ', e2, z2, z3, z4, z5, hz⟩ := forGo_inv (asg := (Tgt.one 2).asg) (body := bO)
    (fun _ τ => ∃ (z2 z3 z4 z5 : Option D), τ = [some (.frl (ns.map D.int)), some (.str (S cs)), z2, z3, z4, z5]) (rng 0 6) 0
    [some (.frl (ns.map D.int)), some (.str (S cs)), none, none, none, none] ⟨none, none, none, none, rfl⟩ (fun i q τ hd ⟨z2, z3, z4, z5, hh⟩ => by
      obtain ⟨hi, rfl⟩ := rng_get hd
      subst hh
      obtain ⟨v, hv⟩ := number ns (9 + ((0 : Int) + (i : Nat))) (by omega) h
      obtain ⟨A, B, m, hj, jt⟩ := joint v cs hc l1
      obtain ⟨w4, w5, hf⟩ := lP_ok (.frl (ns.map D.int)) (some (.int ((0 : Int) + (i : Nat)))) A B m jt cs hc l1 z4 z5
      exact ⟨_, _, rfl, .inl (bO_ok _ _ cs l1 l0 _ v z3 z4 z5 w4 w5 hv hj hf), _, _, _, _, rfl⟩)
  subst hz
  have e1 : rng1 [D.int 6] = .ok (rng 0 6) := rfl
  rw [tLW]
  generalize D.frl (ns.map D.int) = S0 at *
  generalize S cs = W at *
  have eF : sFor (iL rng1 (aCons (eC (.int 6)) aNil)) (.one 2) bO [some S0, some (.str W), none, none, none, none] = _ := ev_for (by simp -implicitDefEqProofs only [ev_sApp, ev_appL, ev_appD, ev_eComp, ev_lstD, ev_ctN, ev_ctO, ev_ctS, ev_join, ev_eImm, ev_immI, ev_immS, ev_immB, ev_immN, ev_immT, ev_imsN, ev_imsI, ev_imsS, ev_goN, ev_goC, ev_goB, ev_goR, ev_xl0, ev_xl1, ev_xl2, ev_isiI, ev_isiB, sSkip, Nat.reduceLT, Nat.reduceLeDiff, runB, sSeq, sSet, sRet, sIf, sDrop, sAug, sAsg, eVar, eC, eBin, eUn, eL, aNil, aCons, eTest, bAnd, bOr, bNot, eAnd, eOr, eNot, eIf, eChain, eChain3, eSl, oNone, oSome, iSeq, iL, asB, asSeq, Tgt.asg, R.ok_bind, R.err_bind, R.bad_bind, List.map_cons, List.map_nil, List.length_cons, List.length_nil, List.replicate_succ, List.replicate_zero, List.cons_append, List.nil_append, List.getElem?_cons_zero, List.getElem?_cons_succ, List.set_cons_zero, List.set_cons_succ, Nat.reduceAdd, Nat.reduceSub, Nat.zero_add, ev_add, ev_sub, ev_lt, ev_le, ev_gt, ev_ge, ev_neg, ev_mod, ev_fdiv, ev_eqi, ev_eqs, ev_eqb, ev_eqin, ev_eqni, ev_eqnn, ev_ix0, ev_ix1, ev_ix2, ev_ix3, ev_lenl, ev_lenf, if_true, if_false, Bool.false_eq_true, decide_eq_true_eq, Int.reduceLT, Int.reduceNeg, Int.reduceLE, Int.reduceSub, Int.reduceAdd, e1]) e2
  simp -implicitDefEqProofs only [TLW, ev_sApp, ev_appL, ev_appD, ev_eComp, ev_lstD, ev_ctN, ev_ctO, ev_ctS, ev_join, ev_eImm, ev_immI, ev_immS, ev_immB, ev_immN, ev_immT, ev_imsN, ev_imsI, ev_imsS, ev_goN, ev_goC, ev_goB, ev_goR, ev_xl0, ev_xl1, ev_xl2, ev_isiI, ev_isiB, sSkip, Nat.reduceLT, Nat.reduceLeDiff, runB, sSeq, sSet, sRet, sIf, sDrop, sAug, sAsg, eVar, eC, eBin, eUn, eL, aNil, aCons, eTest, bAnd, bOr, bNot, eAnd, eOr, eNot, eIf, eChain, eChain3, eSl, oNone, oSome, iSeq, iL, asB, asSeq, Tgt.asg, R.ok_bind, R.err_bind, R.bad_bind, List.map_cons, List.map_nil, List.length_cons, List.length_nil, List.replicate_succ, List.replicate_zero, List.cons_append, List.nil_append, List.getElem?_cons_zero, List.getElem?_cons_succ, List.set_cons_zero, List.set_cons_succ, Nat.reduceAdd, Nat.reduceSub, Nat.zero_add, ev_add, ev_sub, ev_lt, ev_le, ev_gt, ev_ge, ev_neg, ev_mod, ev_fdiv, ev_eqi, ev_eqs, ev_eqb, ev_eqin, ev_eqni, ev_eqnn, ev_ix0, ev_ix1, ev_ix2, ev_ix3, ev_lenl, ev_lenf, if_true, if_false, Bool.false_eq_true, decide_eq_true_eq, Int.reduceLT, Int.reduceNeg, Int.reduceLE, Int.reduceSub, Int.reduceAdd, hw, eF]
end K03

open PySem PySem.W PyProof.Rows L2
set_option maxRecDepth 100000 in
set_option maxHeartbeats 0 in
theorem PySem.Challenge.cw_quirehand_k03_joints_that_fit_holds : PySem.Challenge.rw_quirehand_k03_joints_that_fit.Holds := by
  w_on; o_law; k_head; (case hw => w_witness2)
  k_fill
  refine L2.law_walk (l := PySem.Challenge.rw_quirehand_k03_joints_that_fit) (Fm := K03.F_law) (k := 4) (x := "_law_script") K03.law_true ⟨rfl, by decide, by decide⟩ rfl rfl (fun w h Y => PySem.W.kIn_of Y) ?F
  case F =>
    intro w mg fa h KX G hmg
    refine' K03.all_mk KX G hmg ?a_mark_at ?l_mark_at ?c_mark_at ?k_mark_at ?a_letters_of ?l_letters_of ?c_letters_of ?k_letters_of ?a_fits ?l_fits ?c_fits ?k_fits ?a__law_number ?l__law_number ?c__law_number ?k__law_number ?a__law_sign ?l__law_sign ?c__law_sign ?k__law_sign ?a__law_word ?l__law_word ?c__law_word ?k__law_word ?a__law_small ?l__law_small ?c__law_small ?k__law_small ?a__law_letter_by ?l__law_letter_by ?c__law_letter_by ?k__law_letter_by ?a__law_joint ?l__law_joint ?c__law_joint ?k__law_joint ?a__law_mark ?l__law_mark ?c__law_mark ?k__law_mark ?a__law_fits ?l__law_fits ?c__law_fits ?k__law_fits ?a_law ?l_law ?c_law ?k_law ?z_isinstance ?z_int ?z_bool ?z_str ?z_dict ?z_list ?z_tuple ?z_len ?z_sum ?z_max ?z_min ?z_all ?z_range ?z_enumerate ?z_zip
    (case a_mark_at => k_is)
    (case l_mark_at => k_is)
    (case c_mark_at => k_is)
    (case k_mark_at => k_is)
    (case a_letters_of => k_is)
    (case l_letters_of => k_is)
    (case c_letters_of => k_is)
    (case k_letters_of => k_is)
    (case a_fits => k_is)
    (case l_fits => k_is)
    (case c_fits => k_is)
    (case k_fits => k_is)
    (case a__law_number => k_is)
    (case l__law_number => k_is)
    (case c__law_number => k_is)
    (case k__law_number => k_is)
    (case a__law_sign => k_is)
    (case l__law_sign => k_is)
    (case c__law_sign => k_is)
    (case k__law_sign => k_is)
    (case a__law_word => k_is)
    (case l__law_word => k_is)
    (case c__law_word => k_is)
    (case k__law_word => k_is)
    (case a__law_small => k_is)
    (case l__law_small => k_is)
    (case c__law_small => k_is)
    (case k__law_small => k_is)
    (case a__law_letter_by => k_is)
    (case l__law_letter_by => k_is)
    (case c__law_letter_by => k_is)
    (case k__law_letter_by => k_is)
    (case a__law_joint => k_is)
    (case l__law_joint => k_is)
    (case c__law_joint => k_is)
    (case k__law_joint => k_is)
    (case a__law_mark => k_is)
    (case l__law_mark => k_is)
    (case c__law_mark => k_is)
    (case k__law_mark => k_is)
    (case a__law_fits => k_is)
    (case l__law_fits => k_is)
    (case c__law_fits => k_is)
    (case k__law_fits => k_is)
    (case a_law => k_is)
    (case l_law => k_is)
    (case c_law => k_is)
    (case k_law => k_is)
    (case z_isinstance => k_is)
    (case z_int => k_is)
    (case z_bool => k_is)
    (case z_str => k_is)
    (case z_dict => k_is)
    (case z_list => k_is)
    (case z_tuple => k_is)
    (case z_len => k_is)
    (case z_sum => k_is)
    (case z_max => k_is)
    (case z_min => k_is)
    (case z_all => k_is)
    (case z_range => k_is)
    (case z_enumerate => k_is)
    (case z_zip => k_is)
#print axioms PySem.Challenge.cw_quirehand_k03_joints_that_fit_holds

