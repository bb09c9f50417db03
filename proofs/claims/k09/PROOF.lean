import PyProof.Rows.All
import Wide.All
import OpenK.AllK
import Wide.FinOn
import Lean
import PyProof.EqAt
import PyProof.EqKinds
import PyProof.TupleCall
import PyProof.ZipIter
import KE.KDictSum
import PyProof.Rows.SortStr
import PyProof.Rows.TupAdd
import PyProof.TupleOfGen
import PySem.Challenge.RW_quirehand_k09_pieces_of_words
set_option Elab.async false
set_option linter.all false
set_option maxRecDepth 100000
set_option maxHeartbeats 4000000
set_option bootstrap.genMatcherCode false
set_option genSizeOfSpec false
noncomputable section
open List renaming getElem?_cons_zero -> tD, getElem?_cons_succ -> tE, map_cons -> tF, set_cons_zero -> tG, length_cons -> tH, set_cons_succ -> tI, mem_append_right -> tJ, replicate_zero -> tK, nil_append -> tL, length_nil -> tM, length_append -> tN, cons_append -> tO, length_map -> tP, mem_cons_self -> tQ, mem_cons_of_mem -> tR, replicate_succ -> tS, getElem?_eq_getElem -> tU, map_nil -> tV, mem_append_left -> sC, getElem?_eq_some_iff -> sD, mem_append -> sE, append_nil -> sF, size_toArray -> sG, nodup_append -> sI, mem_cons -> sJ, getElem?_set_ne -> sL, getElem?_map -> sM, mem_singleton -> sN, getElem?_set_self -> sO, map_append -> sP, append_assoc -> sS, length_set -> sT, length_take -> sW, lookup_cons -> sX, nodup_cons -> sY, filterMap_cons -> sZ, drop_eq_getElem_cons -> rB, length_drop -> rF, map_map -> rJ, flatten_cons -> rL, getElem_mem -> rM, take_of_length_le -> rN, getElem?_append_left -> rP, sublist_append_right -> rQ, getElem?_eq_none -> rR, length_range -> rS, find?_cons -> rV, length_replicate -> rY, mem_map -> rZ, nodup_nil -> pC, getElem?_range -> pE, not_mem_nil -> pF, mem_range -> pG, mem_filterMap -> pH, getElem?_append_right -> pJ, getD_eq_getElem?_getD -> pK, mem_of_getElem? -> pL, mem_of_mem_take -> pM, nil_sublist -> pN, sublist_append_left -> pO, getElem?_replicate -> pP, length_eq_zero_iff -> pQ, flatMap_cons -> pS, filter_cons -> pU, all_eq_true -> pV, sum_cons -> pW
open Bool renaming false_eq_true -> tW, false_ne_true -> tX, and_eq_true -> rA, true_and -> rD, false_and -> rG, not_true -> rH, not_false -> pD, and_false -> pT
open Nat renaming le_refl -> tY, zero_add -> tZ, lt_of_lt_of_le -> sQ, ne_of_lt -> sV, le_trans -> rC, zero_le -> rO, lt_irrefl -> rX
open Int renaming emod_lt_of_pos -> sR, emod_nonneg -> sU, toNat_of_nonneg -> rE, toNat_natCast -> rK
open Option renaming map_eq_some_iff -> rW, map_some -> pI, bind_eq_some_iff -> pR
namespace L2
open PySem PySem.Spec PyProof.Rows
theorem au0 (h:True:=by first | exact .inl rfl | exact .inr rfl | assumption):True:=trivial
theorem au1 (h:True:=by decide):True:=trivial
theorem au2 (h:True:=by intro _; rfl):True:=trivial
theorem au3 (h:True:=by rfl):True:=trivial
theorem au4 (h:True:=by with_unfolding_all rfl):True:=trivial
theorem au5 (h:True:=by first | exact Or.inl rfl | exact Or.inr (Or.inl rfl) | exact Or.inr (Or.inr rfl)):True:=trivial
theorem au6 (h:True:=by exact fun _ _=>rfl):True:=trivial
theorem au7 (h:True:=by simp):True:=trivial
theorem au8 (h:True:=by first | exact Or.inl rfl | exact Or.inr rfl):True:=trivial
theorem au9 (h:True:=by size_fits):True:=trivial
theorem au10 (h:True:=by exact rfl):True:=trivial
inductive Key where
 | inl (i:Int) | inr (x:Str) | non
 deriving DecidableEq
def XZ:Value->Bool
 | .none=>true
 | _=>false
def kF:Key->Value->Bool
 | .inl k,v=>Value.isInt k v
 | .inr x,v=>Value.isStrOf x v
 | .non,v=>XZ v
def z4A (w:World):Key->Int
 | .inl k=>hashInt k
 | .inr x=>hashStr w x
 | .non=>0xFCA86420
theorem kl {v:Value}(h:XZ v=true):v=.none:=by cases v<;>first | rfl | cases h
theorem zY:∀ {k:Key} {v:Value},kF k v=true->(∃ i t,k=Key.inl i/\v=Value.int i t)\/(∃ x t,k=Key.inr x/\v=Value.str x t)\/(k=Key.non/\v=Value.none)
 | .inl i,v,h=>by
  obtain ⟨t,e⟩:=Value.isInt_shape (k:=i) (v:=v) h
  exact .inl ⟨i,t,rfl,e⟩
 | .inr x,v,h=>by
  obtain ⟨t,e⟩:=Value.isStrOf_shape (x:=x) (v:=v) h
  exact .inr (.inl ⟨x,t,rfl,e⟩)
 | .non,v,h=>.inr (.inr ⟨rfl,kl h⟩)
theorem VM (i:Int)(t:Tok):kF (.inl i) (.int i t)=true:=by simp [kF,Value.isInt]
theorem Vs (x:Str)(t:Tok):kF (.inr x) (.str x t)=true:=by simp [kF,Value.isStrOf]
theorem z25 (a b:Int):decide (Key.inl a=Key.inl b)=(a==b):=by
 by_cases e:a=b
 ·subst e; simp
 ·have h:¬ Key.inl a=Key.inl b:=fun q=>e (Key.inl.inj q)
  rw [decide_eq_false h]
  exact (beq_eq_false_iff_ne.mpr e).symm
theorem z1r (a b:Str):decide (Key.inr a=Key.inr b)=decide (a=b):=by
 by_cases e:a=b
 ·subst e; simp
 ·have h:¬ Key.inr a=Key.inr b:=fun q=>e (Key.inr.inj q)
  rw [decide_eq_false h,decide_eq_false e]
theorem slot_none_hash:Slot "NoneType" "__hash__" "NoneType.__hash__" :=
 .of (owner:="NoneType") (n:="__hash__") (by rw [typeLookup_type]; rw [builtinLookup_eq_fast]; kernel_rfl) (by decide +kernel) (by decide +kernel) (by decide +kernel)
  (by first | exact .inl (by decide +kernel) | exact .inr (by decide +kernel)) (by rw [isSubtype_type] ; kernel_rfl)
theorem qM:entryFor table "NoneType.__hash__"=some Builtin.«NoneType.__hash__»:=entryFor_of_fast (by kernel_rfl)
theorem jM (a:Value):argsOk "NoneType.__hash__" ⟨[a],[]⟩:=by unfold argsOk; kernel_rfl
theorem VJ {prog:Program}{w:World}{A:Around}{E:Value->Shared->Prop}{s:Shared}{Q:Int->Shared->Prop}(h:Q 0xFCA86420 { s with toks:=s.toks+1 }):wpAny (model prog w) A (pyHash .none) Q E s:=by
 have hT:s.TypeIs .none "NoneType":=rfl
 show wpAny _ _ (pyHashByItsType .none) Q E s
 unfold pyHashByItsType
 refine wpAny_bind ?_
 rw [cRoomFor,if_neg (by decide)]
 refine wpAny_pure (wpAny_bind (wpAny_specialOf hT slot_none_hash.lookup ?_))
 rw [if_neg (by decide)]
 refine wpAny_bind (wpAny_specialOf hT slot_none_hash.lookup ?_)
 rw [if_neg (by decide)]
 refine wpAny_bind (wpAny_callSpecialIfBoundUnlessNone?_slot hT slot_none_hash (wpAny_call_entry slot_none_hash hT qM ?_ (jM _)))
 show wpAny _ _ (do ret (<- mkInt 0xFCA86420)) _ _ s
 refine wpAny_ret_mkInt ?_
 show wpAny _ _ (pyHashByItsType.reduced 0xFCA86420) Q E _
 unfold pyHashByItsType.reduced
 rw [if_pos (by decide)]
 exact wpAny_pure h
def zM (prog:Program)(w:World):PySem.KeyKind prog w Key where
 is:=kF
 hash:=z4A w
 inj:=fun v a b ha hb=>by
  rcases zY ha with ⟨i,t,rfl,rfl⟩ | ⟨x,t,rfl,rfl⟩ | ⟨rfl,rfl⟩
  ·rcases zY hb with ⟨j,u,rfl,e⟩ | ⟨y,u,rfl,e⟩ | ⟨rfl,e⟩
   ·injection e with e1 _; rw [e1]
   ·exact nomatch e
   ·exact nomatch e
  ·rcases zY hb with ⟨j,u,rfl,e⟩ | ⟨y,u,rfl,e⟩ | ⟨rfl,e⟩
   ·exact nomatch e
   ·injection e with e1 _; rw [e1]
   ·exact nomatch e
  ·rcases zY hb with ⟨j,u,rfl,e⟩ | ⟨y,u,rfl,e⟩ | ⟨rfl,e⟩
   ·exact nomatch e
   ·exact nomatch e
   ·rfl
 byValue:=fun k v h=>by
  rcases zY h with ⟨i,t,rfl,rfl⟩ | ⟨x,t,rfl,rfl⟩ | ⟨rfl,rfl⟩<;>rfl
 pyHash:=fun hv h=>by
  rcases zY hv with ⟨i,t,rfl,rfl⟩ | ⟨x,t,rfl,rfl⟩ | ⟨rfl,rfl⟩
  ·exact wpAny_pyHash_int h
  ·exact wpAny_pyHash_str h
  ·exact VJ h
 eqBool:=fun hu hv h=>by
  rcases zY hu with ⟨i,t,rfl,rfl⟩ | ⟨x,t,rfl,rfl⟩ | ⟨rfl,rfl⟩
  ·rcases zY hv with ⟨j,u,rfl,rfl⟩ | ⟨y,u,rfl,rfl⟩ | ⟨rfl,rfl⟩
   ·rw [z25] at h; exact wpAny_eqBool_int h
   ·rw [decide_eq_false (by intro q; cases q)] at h; exact SeqAt.EqAt.int_str i t y u _ _ _ _ h
   ·rw [decide_eq_false (by intro q; cases q)] at h; exact SeqAt.EqAt.int_none i t _ _ _ _ h
  ·rcases zY hv with ⟨j,u,rfl,rfl⟩ | ⟨y,u,rfl,rfl⟩ | ⟨rfl,rfl⟩
   ·rw [decide_eq_false (by intro q; cases q)] at h; exact SeqAt.EqAt.str_int x t j u _ _ _ _ h
   ·rw [z1r] at h; exact wpAny_eqBool_str h
   ·rw [decide_eq_false (by intro q; cases q)] at h; exact SeqAt.EqAt.str_none x t _ _ _ _ h
  ·rcases zY hv with ⟨j,u,rfl,rfl⟩ | ⟨y,u,rfl,rfl⟩ | ⟨rfl,rfl⟩
   ·rw [decide_eq_false (by intro q; cases q)] at h; exact SeqAt.EqAt.none_int j u _ _ _ _ h
   ·rw [decide_eq_false (by intro q; cases q)] at h; exact SeqAt.EqAt.none_str y u _ _ _ _ h
   ·rw [decide_eq_true rfl] at h; exact SeqAt.EqAt.same .none _ _ _ _ h
 «strs»:=fun k x t v h=>by
  rcases zY h with ⟨i,u,rfl,e⟩ | ⟨y,u,rfl,e⟩ | ⟨rfl,e⟩
  ·exact nomatch e
  ·injection e with e1 _
   subst e1
   cases v<;>rfl
  ·exact nomatch e
theorem Yp (prog:Program)(w:World)(i:Int)(t:Tok):(zM prog w).is (.inl i) (.int i t)=true:=VM i t
theorem Yc (prog:Program)(w:World)(x:Str)(t:Tok):(zM prog w).is (.inr x) (.str x t)=true:=Vs x t
theorem YK (prog:Program)(w:World):(zM prog w).is .non .none=true:=rfl
inductive V where
 | non | bl (b:Bool) | int (i:Int) | str (x:Str) | byt (b:Array UInt8) | flt (b:UInt64) | ref (a:Addr) | ty (n:String)
 deriving DecidableEq
def RelV:V->Value->Prop
 | .non,u=>u=Value.none
 | .bl b,u=>u=Value.bool b
 | .int i,u=>∃ t,u=Value.int i t
 | .str x,u=>∃ t,u=Value.str x t
 | .byt b,u=>∃ t,u=Value.bytes b t
 | .flt b,u=>∃ t,u=Value.float b t
 | .ref a,u=>u=Value.ref a
 | .ty n,u=>u=Value.type n
abbrev Vals:List V->List Value->Prop:=Paired RelV
theorem Vals.length {xs:List V}{us:List Value}(r:Vals xs us):xs.length=us.length:=Paired.length r
theorem Vals.get:∀ {xs:List V} {us:List Value} {i:Nat} {x:V},Vals xs us->xs[i]?=some x->∃ u,us[i]?=some u/\RelV x u
 | _,_,_,_,.nil,e=>by simp at e
 | _,_,0,_,.cons r _,e=>by simp at e; subst e; exact ⟨_,rfl,r⟩
 | _,_,i+1,x,.cons _ t,e=>by
  obtain ⟨u,h1,h2⟩:=Vals.get (i:=i) (x:=x) t (by simpa using e)
  exact ⟨u,by simpa using h1,h2⟩
theorem Vals.set {x:V}{u:Value}(r:RelV x u):∀ {xs:List V} {us:List Value} (i:Nat),Vals xs us->Vals (xs.set i x) (us.set i u)
 | _,_,_,.nil=>.nil
 | _,_,0,.cons _ t=>.cons r t
 | _,_,i+1,.cons q t=>.cons q (Vals.set r i t)
theorem Vals.append:∀ {xs ys:List V} {us ws:List Value},Vals xs us->Vals ys ws->Vals (xs++ys) (us++ws)
 | _,_,_,_,.nil,s=>s
 | _,_,_,_,.cons r t,s=>.cons r (Vals.append t s)
theorem Vals.take:∀ {xs:List V} {us:List Value} (n:Nat),Vals xs us->Vals (xs.take n) (us.take n)
 | _,_,0,_=>.nil
 | _,_,_+1,.nil=>.nil
 | _,_,n+1,.cons r t=>.cons r (Vals.take n t)
theorem Vals.drop:∀ {xs:List V} {us:List Value} (n:Nat),Vals xs us->Vals (xs.drop n) (us.drop n)
 | _,_,0,r=>r
 | _,_,_+1,.nil=>.nil
 | _,_,n+1,.cons _ t=>Vals.drop n t
def RelO:Option V->Option Value->Prop
 | some v,some u=>RelV v u
 | none,none=>True
 | _,_=>False
def KV {κ:Type}:List (κ×V)->List (κ×Value)->Prop:=Paired fun (p:κ×V) (q:κ×Value)=>p.1=q.1/\RelV p.2 q.2
def kV:Key->V
 | .inl i=>.int i
 | .inr x=>.str x
 | .non=>.non
def TupN (h:Heap)(a:Addr)(items:Array Value):Prop:=∃ o,h.get? a=some o/\o.cls=.type "tuple"/\(o.dict=none/\o.slots=#[])/\∃ n,o.data=.seq items n
theorem TupN.tup {h:Heap}{a:Addr}{items:Array Value}(x:TupN h a items):IsTup h a items:=let ⟨o,ho,hc,_,n,hd⟩:=x; ⟨o,ho,hc,n,hd⟩
theorem TupN.lt {h:Heap}{a:Addr}{items:Array Value}(x:TupN h a items):a<h.objs.size:=x.tup.lt
theorem TupN.new (h:Heap)(items:Array Value):TupN (h.push { cls:=.type "tuple",data:=.seq items }) h.objs.size items:=⟨_,Heap.get?_push_size _ rfl,rfl,⟨rfl,rfl⟩,_,rfl⟩
inductive HO where
  | lst (xs:List V)
  | tup (xs:List V)
  | dK (kvs:List (Key×V)) | dT (kvs:List (List Key×V))
  | set (S:Int->Bool) (n:Nat)
  | ins (C dx:Addr) (fs:List (Str×V))
  | own (x:Addr)
  | xd (fs:List (Str×V))
  | met (f x:Addr)
  | rng (lo hi:Int)
  | frz (o:Obj) (u:HO)
  | tbl (ps:Array Value)
  | ext (φ:Heap->Prop)
abbrev Hp:=Addr->Option HO
def upd (H:Hp)(a:Addr)(o:HO):Hp:=fun b=>if b=a then some o else H b
theorem zG {H:Hp}{a:Addr}{o:HO}:upd H a o a=some o:=by unfold upd; rw [if_pos rfl]
theorem zI {H:Hp}{a b:Addr}{o:HO}(h:b≠a):upd H a o b=H b:=by unfold upd; rw [if_neg h]
theorem z3o {H:Hp}{a b:Addr}{o u:HO}(h:H a=some o)(h':H b=some u)(d:o≠u):a≠b:=by
 intro e; subst e; rw [h] at h'; exact d (Option.some.inj h')
theorem yV {H:Hp}{a b:Addr}{o:HO}(h:H a=some o)(h':H b=none):a≠b:=by
 intro e; subst e; rw [h] at h'; cases h'
section
variable (P:Program)(w:World)
def ObjOk (H:Hp)(h:Heap)(a:Addr):HO->Prop
 | .lst xs=>xs.length<=sizeLine/\∃ (its:List Value) (n:Nat),Vals xs its/\h.get? a=some { cls:=.type "list",data:=.seq its.toArray n }
 | .tup xs=>xs.length<=sizeLine/\∃ its:List Value,Vals xs its/\TupN h a its.toArray
 | .dK kvs=>kvs.length<=sizeLine/\(a==sysModules)=false/\∃ vs,KV kvs vs/\h.DictOf (zM P w) a vs
 | .dT kvs=>kvs.length<=sizeLine/\(a==sysModules)=false/\∃ xs:List (List Key×Addr×Value),
   Paired (fun (p:List Key×V) (q:List Key×Addr×Value)=>p.1=q.1/\H q.2.1=some (.tup (p.1.map kV))/\RelV p.2 q.2.2) kvs xs /\
   ∃ o es ep,h.get? a=some o/\o.ExactDict/\o.data=.dict es ep/\es.toList=xs.map (entryOfKey (tupleKind (zM P w)))/\(xs.map (·.1)).Nodup
 | .set S n=>h.SetOf (intKind P w) a S n
 | .ins C dx fs=>H dx=some (.own a)/\fs.length<=1000/\dx≠a/\h.get? a=some (PySem.W.instObj C dx) /\
   ∃ mA,h.Ns1 dx mA/\(∀ f,RelO (fs.lookup f) (mA f))/\PySem.Within mA (fs.map (·.1))
 | .own _=>∃ o,h.get? a=some o
 | .xd fs=>∃ mA,h.Ns1 a mA/\∀ f,RelO (fs.lookup f) (mA f)
 | .rng lo hi=>∃ t u v,h.get? a=some { cls:=.type "range",data:=.fields #[.int lo t,.int hi u,.int 1 v] }
 | .frz o u=>h.get? a=some o/\ObjOk H h a u
 | .tbl ps=>h.get? a=some { cls:=.none,data:=.fields ps }
 | .met f x=>h.get? a=some (PySem.W.methodObj (.ref f) (.ref x))
 | .ext φ=>φ h/\(∃ o,h.get? a=some o)/\∀ h1 h2:Heap,φ h1->(∀ o,h1.get? a=some o->h2.get? a=some o)->φ h2
def HOk (H:Hp)(h:Heap):Prop:=∀ a o,H a=some o->ObjOk P w H h a o
end
section
variable {P:Program}{w:World}{H H':Hp}{h h':Heap}{a:Addr}{o:HO}
theorem ObjOk.lt (x:ObjOk P w H h a o):a<h.objs.size:=by
 cases o with
 | lst xs=>obtain ⟨_,_,_,_,e⟩:=x; exact Heap.lt_size e
 | tup xs=>obtain ⟨_,_,_,p⟩:=x; exact p.lt
 | dK kvs=>obtain ⟨_,_,_,_,o,_,_,e,_⟩:=x; exact Heap.lt_size e
 | dT kvs=>obtain ⟨_,_,_,_,o,_,_,e,_⟩:=x; exact Heap.lt_size e
 | set S n=>obtain ⟨o,_,_,_,e,_⟩:=x; exact Heap.lt_size e
 | ins C dx fs=>obtain ⟨_,_,_,e,_⟩:=x; exact Heap.lt_size e
 | own y=>obtain ⟨_,e⟩:=x; exact Heap.lt_size e
 | xd fs=>obtain ⟨_,⟨_,_,_,e,_⟩,_⟩:=x; exact Heap.lt_size e
 | rng lo hi=>obtain ⟨_,_,_,e⟩:=x; exact Heap.lt_size e
 | frz ob u=>obtain ⟨e,_⟩:=x; exact Heap.lt_size e
 | tbl ps=>exact Heap.lt_size (show h.get? a=some _ from x)
 | met f y=>exact Heap.lt_size (show h.get? a=some _ from x)
 | ext φ=>obtain ⟨_,⟨_,e⟩,_⟩:=x; exact Heap.lt_size e
theorem Paired.mapP {α β:Type}{F G:α->β->Prop}:∀ {l₁:List α} {l₂:List β},Paired F l₁ l₂->(∀ a b,F a b->G a b)->Paired G l₁ l₂
 | _,_,.nil,_=>.nil
 | _,_,.cons r t,f=>.cons (f _ _ r) (Paired.mapP t f)
theorem ObjOk.stay (x:ObjOk P w H h a o)(k:∀ b u,(b=a\/H b=some (.own a))->h.get? b=some u->h'.get? b=some u)
  (ho:∀ b,H b=some (.own a)->H' b=some (.own a)) (ht:∀ b xs,H b=some (.tup xs)->H' b=some (.tup xs)):ObjOk P w H' h' a o:=by
 induction o with
 | lst xs=>obtain ⟨z,its,n,r,e⟩:=x; exact ⟨z,its,n,r,k _ _ (.inl rfl) e⟩
 | tup xs=>obtain ⟨z,its,r,ob,e,c⟩:=x; exact ⟨z,its,r,ob,k _ _ (.inl rfl) e,c⟩
 | dK kvs=>obtain ⟨z,y,vs,r,ob,es,ep,e,c⟩:=x; exact ⟨z,y,vs,r,ob,es,ep,k _ _ (.inl rfl) e,c⟩
 | dT kvs =>
  obtain ⟨z,y,xs,r,ob,es,ep,e,c⟩:=x
  exact ⟨z,y,xs,Paired.mapP r fun p q z=>⟨z.1,ht _ _ z.2.1,z.2.2⟩,ob,es,ep,k _ _ (.inl rfl) e,c⟩
 | set S n=>obtain ⟨ob,es,ep,t,e,c⟩:=x; exact ⟨ob,es,ep,t,k _ _ (.inl rfl) e,c⟩
 | ins C dx fs =>
  obtain ⟨d,z,ne,e,mA,⟨od,es,ep,e2,c⟩,r⟩:=x
  exact ⟨ho _ d,z,ne,k _ _ (.inl rfl) e,mA,⟨od,es,ep,k _ _ (.inr d) e2,c⟩,r⟩
 | own y=>obtain ⟨ob,e⟩:=x; exact ⟨ob,k _ _ (.inl rfl) e⟩
 | xd fs=>obtain ⟨mA,⟨od,es,ep,e,c⟩,r⟩:=x; exact ⟨mA,⟨od,es,ep,k _ _ (.inl rfl) e,c⟩,r⟩
 | rng lo hi=>obtain ⟨t,u,v,e⟩:=x; exact ⟨t,u,v,k _ _ (.inl rfl) e⟩
 | frz ob u ih=>obtain ⟨e,q⟩:=x; exact ⟨k _ _ (.inl rfl) e,ih q⟩
 | tbl ps =>
  have e:h.get? a=some { cls:=.none,data:=.fields ps }:=x
  show h'.get? a=some { cls:=.none,data:=.fields ps }
  exact k a _ (.inl rfl) e
 | met f y =>
  have e:h.get? a=some (PySem.W.methodObj (.ref f) (.ref y)):=x
  show h'.get? a=some (PySem.W.methodObj (.ref f) (.ref y))
  exact k a _ (.inl rfl) e
 | ext φ=>obtain ⟨p,⟨o,e⟩,st⟩:=x; exact ⟨st _ _ p fun o q=>k _ _ (.inl rfl) q,⟨o,k _ _ (.inl rfl) e⟩,st⟩
theorem HOk.lt (x:HOk P w H h)(e:H a=some o):a<h.objs.size:=(x a o e).lt
theorem HOk.fresh (x:HOk P w H h)(e:h.objs.size<=a):H a=none:=by
 cases q:H a with
 | none=>rfl
 | some u=>exact absurd (sQ (x.lt q) e) (rX _)
theorem HOk.kept (x:HOk P w H h)(k:∀ b u,h.get? b=some u->h'.get? b=some u):HOk P w H h':=fun a o e =>
 (x a o e).stay (fun b u _ q=>k b u q) (fun _ q=>q) fun _ _ q=>q
theorem HOk.laid (x:HOk P w H h)(k:∀ b u,h.get? b=some u->h'.get? b=some u)(hp:h.objs.size<=a)(new:ObjOk P w (upd H a o) h' a o):HOk P w (upd H a o) h':=fun b u e=>by
 have hn:=x.fresh hp
 by_cases hb:b=a
 ·subst hb; rw [zG] at e; cases e; exact new
 ·rw [zI hb] at e
  exact (x b u e).stay (fun c v _ q=>k c v q) (fun c q=>by rw [zI (yV q hn)]; exact q) fun c xs q=>by rw [zI (yV q hn)]; exact q
end
def Rd (H:Hp)(a:Addr)(u:HO):Prop:=H a=some u\/∃ o,H a=some (.frz o u)
theorem Rd.of {H:Hp}{a:Addr}{u:HO}(h:H a=some u):Rd H a u:=.inl h
theorem Rd.ok {P:Program}{w:World}{H:Hp}{h:Heap}{a:Addr}{u:HO}(r:Rd H a u)(x:HOk P w H h):ObjOk P w H h a u:=by
 rcases r with r | ⟨o,r⟩
 ·exact x a u r
 ·obtain ⟨_,q⟩:=x a _ r
  exact q
def Mut:Option HO->Prop
 | some (.lst _)=>True
 | some (.dK _)=>True
 | some (.dT _)=>True
 | some (.set _ _)=>True
 | some (.ins _ _ _)=>True
 | some (.ext _)=>True
 | _=>False
section
variable {P:Program}{w:World}{H:Hp}{h h':Heap}{x e:Addr}{o':HO}
theorem HOk.write (ok:HOk P w H h)(mu:Mut (H x))(he:e=x\/H e=some (.own x))(k:∀ b u,b≠e->h.get? b=some u->h'.get? b=some u)(heo:∃ u,h'.get? e=some u)
  (new:ObjOk P w (upd H x o') h' x o'):HOk P w (upd H x o') h':=fun b u q=>by
 have nown:∀ c y,H c=some (.own y)->c≠x:=fun c y r z=>by subst z; rw [r] at mu; exact mu
 have ntup:∀ c xs,H c=some (.tup xs)->c≠x:=fun c xs r z=>by subst z; rw [r] at mu; exact mu
 by_cases hb:b=x
 ·subst hb; rw [zG] at q; cases q; exact new
 ·rw [zI hb] at q
  by_cases hbe:b=e
  ·have q':H b=some (.own x):=by
    rcases he with z | z
    ·exact absurd (hbe.trans z) hb
    ·rw [hbe]; exact z
   rw [q] at q'; cases q'
   obtain ⟨v,hv⟩:=heo
   exact ⟨v,by rw [hbe]; exact hv⟩
  ·refine (ok b u q).stay (fun c v hc r=>k c v ?_ r) (fun c r=>by rw [zI (nown c b r)]; exact r) fun c xs r=>by rw [zI (ntup c xs r)]; exact r
   rcases hc with rfl | hc
   ·exact hbe
   ·rintro rfl
    rcases he with z | z
    ·exact nown c b hc z
    ·rw [hc] at z; cases z; exact hb rfl
end
structure Un (fs ex:List Addr)(H H':Hp)(h h':Heap):Prop where
 keep:∀ b o,h.get? b=some o->H b=none->b∉fs->b∉ex->h'.get? b=some o
 slot:∀ b o,h.get? b=some o->H b=none->b∈fs->b∉ex->∃ sl,h'.get? b=some { o with slots:=sl }
 free:∀ b o,h.get? b=some o->H b=none->b∉ex->H' b=none
 there:∀ b o,h.get? b=some o->b∉ex->∃ o',h'.get? b=some o'
 tups:∀ b xs,H b=some (.tup xs)->H' b=some (.tup xs)
 frzs:∀ b o u,H b=some (.frz o u)->H' b=some (.frz o u)
 tbls:∀ b ps,H b=some (.tbl ps)->∃ more,H' b=some (.tbl (ps++more))
section
variable {fs fs' ex ex':List Addr}{H H1 H2:Hp}{h h1 h2 h':Heap}{a x e:Addr}{o:HO}
theorem Un.any (u:Un fs ex H H1 h h1){b:Addr}{ob:Obj}(q:h.get? b=some ob)(n:H b=none)(hx:b∉ex):∃ sl,h1.get? b=some { ob with slots:=sl }:=by
 by_cases hb:b∈fs
 ·exact u.slot b ob q n hb hx
 ·exact ⟨ob.slots,u.keep b ob q n hb hx⟩
theorem Un.trans (a:Un fs ex H H1 h h1)(b:Un fs ex H1 H2 h1 h2):Un fs ex H H2 h h2 where
 keep:=fun c ob q n hc hx=>b.keep c ob (a.keep c ob q n hc hx) (a.free c ob q n hx) hc hx
 slot:=fun c ob q n hc hx=>by
  obtain ⟨sl,e1⟩:=a.slot c ob q n hc hx
  obtain ⟨sl',e2⟩:=b.slot c _ e1 (a.free c ob q n hx) hc hx
  exact ⟨sl',e2⟩
 free:=fun c ob q n hx=>by
  obtain ⟨o',e1⟩:=a.there c ob q hx
  exact b.free c o' e1 (a.free c ob q n hx) hx
 there:=fun c ob q hx=>by
  obtain ⟨o',e1⟩:=a.there c ob q hx
  exact b.there c o' e1 hx
 tups:=fun c xs q=>b.tups c xs (a.tups c xs q)
 frzs:=fun c ob xs q=>b.frzs c ob xs (a.frzs c ob xs q)
 tbls:=fun c ps q=>by
  obtain ⟨m1,e1⟩:=a.tbls c ps q
  obtain ⟨m2,e2⟩:=b.tbls c _ e1
  exact ⟨m1++m2,by rw [e2,Array.append_assoc]⟩
theorem Un.kept (k:∀ b u,h.get? b=some u->h'.get? b=some u):Un fs ex H H h h' :=
 ⟨fun b ob q _ _ _=>k b ob q,fun b ob q _ _ _=>⟨ob.slots,k b ob q⟩,fun _ _ _ n _=>n,fun b ob q _=>⟨ob,k b ob q⟩,fun _ _ q=>q,fun _ _ _ q=>q,fun _ ps q=>⟨#[],by rw [q]; simp⟩⟩
theorem Un.refl:Un fs ex H H h h:=Un.kept fun _ _ q=>q
theorem Un.laid (k:∀ b u,h.get? b=some u->h'.get? b=some u)(hp:h.objs.size<=a)(hn:H a=none):Un fs ex H (upd H a o) h h' where
 keep:=fun b u q _ _ _=>k b u q
 slot:=fun b u q _ _ _=>⟨u.slots,k b u q⟩
 free:=fun b u q n _=>by rw [zI (sV (sQ (Heap.lt_size q) hp))]; exact n
 there:=fun b u q _=>⟨u,k b u q⟩
 tups:=fun b xs q=>by rw [zI (yV q hn)]; exact q
 frzs:=fun b u xs q=>by rw [zI (yV q hn)]; exact q
 tbls:=fun b ps q=>⟨#[],by rw [zI (yV q hn),q]; simp⟩
theorem Un.write (mu:Mut (H x))(he:e=x\/H e=some (.own x))(k:∀ b u,b≠e->h.get? b=some u->h'.get? b=some u)(heo:∃ u,h'.get? e=some u):Un fs ex H (upd H x o) h h':=by
 have hx:∀ b,H b=none->b≠x:=fun b n z=>by subst z; rw [n] at mu; exact mu
 have hb:∀ b,H b=none->b≠e:=fun b n z=>by
  subst z
  rcases he with r | r
  ·exact hx b n r
  ·rw [n] at r; cases r
 have hm:∀ b u,H b=some u->¬ Mut (some u)->b≠x:=fun b u q nm z=>by subst z; rw [q] at mu; exact nm mu
 refine ⟨fun b u q n _ _=>k b u (hb b n) q,fun b u q n _ _=>⟨u.slots,k b u (hb b n) q⟩,fun b u q n _=>by rw [zI (hx b n)]; exact n,fun b u q _=>?_,
  fun b xs q=>by rw [zI (hm b _ q fun z=>z)]; exact q,fun b u xs q=>by rw [zI (hm b _ q fun z=>z)]; exact q,fun b ps q=>⟨#[],by rw [zI (hm b _ q fun z=>z),q]; simp⟩⟩
 by_cases hbe:b=e
 ·subst hbe; exact heo
 ·exact ⟨u,k b u hbe q⟩
theorem Un.mono (u:Un fs ex H H1 h h1)(hs:∀ b∈fs,b∈fs')(hx:∀ b∈ex,b∈ex'):Un fs' ex' H H1 h h1 :=
 ⟨fun b ob q n hb he=>u.keep b ob q n (fun z=>hb (hs b z)) fun z=>he (hx b z),fun _ _ q n _ he=>u.any q n fun z=>he (hx _ z),fun b ob q n he=>u.free b ob q n fun z=>he (hx b z),fun b ob q he=>u.there b ob q fun z=>he (hx b z),u.tups,u.frzs,u.tbls⟩
end
def trk (h:Heap)(H:Hp):List Addr:=(List.range h.objs.size).filter fun a=>(H a).isSome
def ZC (h:Heap)(H:Hp):Heap:=PySem.W.hideAll h (trk h H)
theorem Vb (h:Heap)(H:Hp):(ZC h H).objs.size=h.objs.size:=PySem.W.hideAll_size _ _
theorem Qb {h:Heap}{H:Hp}{b:Addr}{o:Obj}(e:h.get? b=some o)(n:H b=none):(ZC h H).get? b=some o :=
 PySem.W.hideAll_get _ e fun hm=>by
  have q:(H b).isSome=true:=(List.mem_filter.mp hm).2
  rw [n] at q; simp at q
theorem Kg {h:Heap}{H:Hp}{b:Addr}{o:Obj}(e:(ZC h H).get? b=some o):h.get? b=some o/\H b=none:=by
 have e':h.get? b=some o:=PySem.W.of_hideAll (trk h H) e
 refine ⟨e',?_⟩
 cases q:H b with
 | none=>rfl
 | some x =>
  have hm:b∈trk h H:=List.mem_filter.mpr ⟨pG.mpr (Heap.lt_size e'),by simp [q]⟩
  have z:(ZC h H).get? b=none:=PySem.W.hideAll_none (trk h H) hm
  rw [z] at e; cases e
def JR (g h:Heap)(L:Addr):List (Addr×Obj):=(List.range h.objs.size).filterMap fun a=>if a=L\/(g.get? a).isSome=true then none else (h.get? a).map fun o=>(a,o)
def rest (g h:Heap)(L d:Addr):List (Addr×Obj):=(JR g h L).filter fun p=>decide (p.1≠d)
structure Mod (K:PySem.W.Frag)(mg:Str->Option Value)(base:Heap):Prop where
 kin:K.In base
 glob:base.Ns mainGlobals mg
 blt:∃ mb,base.Ns builtinsNs mb/\∀ x:Str,x≠"__name__"->mb x=bootBuiltins x
 nolimit:base.NoLimit
structure Cx where
 prog:Program
 w:World
 K:PySem.W.Frag
 mg:Str->Option Value
 base:Heap
 A:Around
 N:List Str
 s₀:Shared
 H₀:Hp
 env:Env
 outer:List Env
 stack:List Env
 ex:List Addr
 fn:Str->Bool
 calm:Bool
 pn:List (Addr×Obj)
 xe:Value->Shared->Prop
def frs (l:List Env):List Addr:=l.filterMap (·.frame)
abbrev Cx.fs (X:Cx):List Addr:=frs X.outer
def Vis (sc:Scope)(x:Str):Prop:=sc.names.lookup x=some .local\/sc.names.lookup x=some .cell\/sc.names.lookup x=some .free
def Loc (sc:Scope)(x:Str):Prop:=sc.names.lookup x=some .local\/sc.names.lookup x=some .cell
def z1K (env:Env)(h:Heap)(m:Str->Option Value)(x:Str)(u:Value):Prop :=
 (env.kindOf x=some .local/\m x=some u)\/((env.kindOf x=some .cell\/env.kindOf x=some .free)/\∃ c,env.cells.lookup x=some c/\h.IsCell c (some u))
structure Cx.Ok (X:Cx):Prop where
 mod:Mod X.K X.mg X.base
 kind:X.env.scope.kind=.function
 glob:X.env.globals=mainGlobals
 blt:X.env.builtins=builtinsNs
 above:X.s₀.heap.objs.size<=X.env.locals
 inj:∀ x y c,X.env.cells.lookup x=some c->X.env.cells.lookup y=some c->x=y
 has:∀ x,(X.env.kindOf x=some .cell\/X.env.kindOf x=some .free)->∃ c,X.env.cells.lookup x=some c
 cab:∀ x c,X.fn x=true->X.env.cells.lookup x=some c->X.s₀.heap.objs.size<=c
 hd:X.calm=true->X.A.handled=none
 frames:X.A.frames=some X.stack
 stk:X.stack=X.outer\/(X.stack=X.env::X.outer/\X.env.frame=some X.env.locals)
 exf:∀ b∈X.ex,b≠X.env.locals/\∀ x c,X.env.cells.lookup x=some c->c≠b
 bs:∀ b o,X.base.get? b=some o->X.s₀.heap.get? b=some o/\X.H₀ b=none
 bsz:X.base.objs.size<=X.s₀.heap.objs.size
 noex:∀ b o,X.base.get? b=some o->b∉X.ex
 exfs:∀ b∈X.ex,b∉X.fs
 funs:X.s₀.heap.FunFrames X.base X.outer
 frf:∀ b∈X.fs,X.H₀ b=none
structure Inv (X:Cx)(pins:List (Addr×Obj))(σ:List (Option V))(H:Hp)(s:Shared):Prop where
 ok:X.Ok
 os:s.os=X.s₀.os
 bare:AllBare s.gens
 base:Un X.fs X.ex X.H₀ H X.s₀.heap s.heap
 loc:∃ m,s.heap.Ns X.env.locals m/\∀ (i:Nat) (x:Str) (v:V),X.N[i]?=some x->σ[i]?=some (some v)->Vis X.env.scope x->∃ u,RelV v u/\z1K X.env s.heap m x u
 cell:∀ x c,X.env.cells.lookup x=some c->∃ v,s.heap.IsCell c v
 free:H X.env.locals=none
 freeC:∀ x c,X.env.cells.lookup x=some c->H c=none
 pin:∀ p∈X.pn++pins,s.heap.get? p.1=some p.2/\H p.1=none/\p.1≠X.env.locals/\p.1∉X.fs/\∀ v,p.2.data≠.cell v
 hok:HOk X.prog X.w H s.heap
 len:σ.length=X.N.length
section
variable {X:Cx}{pins:List (Addr×Obj)}{σ:List (Option V)}{H H':Hp}{s:Shared}{h':Heap}
theorem Cx.Ok.nofr (ok:X.Ok){b:Addr}{o:Obj}(e:X.base.get? b=some o):b∉X.fs:=fun hb=>by
 have:=(ok.funs.mem hb).1
 rw [e] at this; cases this
theorem Inv.bs (I:Inv X pins σ H s):∀ b o,X.base.get? b=some o->s.heap.get? b=some o/\H b=none:=fun b o e =>
 ⟨I.base.keep b o (I.ok.bs b o e).1 (I.ok.bs b o e).2 (I.ok.nofr e) (I.ok.noex b o e),I.base.free b o (I.ok.bs b o e).1 (I.ok.bs b o e).2 (I.ok.noex b o e)⟩
theorem Inv.bk (I:Inv X pins σ H s):∀ b o,X.base.get? b=some o->s.heap.get? b=some o:=fun b o e=>(I.bs b o e).1
theorem Inv.mod (I:Inv X pins σ H s):Mod X.K X.mg X.base:=I.ok.mod
theorem Inv.kIn (I:Inv X pins σ H s):X.K.In s.heap:=I.ok.mod.kin.keeps I.bk
theorem Inv.nolimit (I:Inv X pins σ H s):s.heap.NoLimit:=I.ok.mod.nolimit.keeps I.bk
theorem Inv.fr (I:Inv X pins σ H s):∃ m,Fr X.base X.env.locals s.heap m :=
 let ⟨m,hn,_⟩:=I.loc
 ⟨m,hn,I.bk,rC I.ok.bsz I.ok.above⟩
theorem Inv.lt (I:Inv X pins σ H s):X.env.locals<s.heap.objs.size:=let ⟨_,hn,_⟩:=I.loc; hn.lt
theorem Inv.sz (I:Inv X pins σ H s):X.s₀.heap.objs.size<=s.heap.objs.size:=rC I.ok.above (Nat.le_of_lt I.lt)
theorem Inv.nofs (I:Inv X pins σ H s){a:Addr}(h:s.heap.objs.size<=a):a∉X.fs:=fun hb=>by
 obtain ⟨_,o,ho,_⟩:=I.ok.funs.mem hb
 exact absurd (sQ (Heap.lt_size ho) (rC I.sz h)) (rX _)
theorem Inv.cne (I:Inv X pins σ H s):∀ x c,X.env.cells.lookup x=some c->c≠X.env.locals:=fun x c e z=>by
 obtain ⟨v,o,ho,hd⟩:=I.cell x c e
 obtain ⟨m,⟨o',es,ep,ho',hd',_⟩,_⟩:=I.loc
 rw [z,ho'] at ho; cases ho; rw [hd'] at hd; cases hd
theorem Inv.funs (I:Inv X pins σ H s):s.heap.FunFrames X.base X.outer:=by
 have all:∀ (l:List Env),(∀ b∈frs l,b∈X.fs)->X.s₀.heap.FunFrames X.base l->s.heap.FunFrames X.base l:=by
  intro l
  induction l with
  | nil=>intro _ _; trivial
  | cons env r ih =>
   intro hs hl
   obtain ⟨hk,⟨L,o,hf,hn,ho,hd⟩,hr⟩:=hl
   have hL:L∈X.fs:=hs L (by unfold frs; rw [sZ,hf]; exact tQ)
   obtain ⟨sl,e⟩:=I.base.slot L o ho (I.ok.frf L hL) hL fun z=>I.ok.exfs L z hL
   exact ⟨hk,⟨L,_,hf,hn,e,hd⟩,ih (fun b hb=>hs b (by unfold frs; rw [sZ,hf]; exact tR _ hb)) hr⟩
 exact all X.outer (fun _ hb=>hb) I.ok.funs
theorem Inv.stack (I:Inv X pins σ H s):s.heap.FunFrames X.base X.stack:=by
 rcases I.ok.stk with e | ⟨e,hf⟩
 ·rw [e]; exact I.funs
 ·rw [e]
  obtain ⟨m,hn,_⟩:=I.loc
  refine .cons (by rw [I.ok.kind]; decide) hf hn ?_ I.funs
  exact Heap.get?_none_of_le (rC I.ok.bsz I.ok.above)
theorem Inv.stkSub (I:Inv X pins σ H s):∀ b∈frs X.stack,b∈X.env.locals::X.fs:=fun b hb=>by
 rcases I.ok.stk with e | ⟨e,hf⟩
 ·rw [e] at hb; exact tR _ hb
 ·rw [e] at hb
  unfold frs at hb
  rw [sZ,hf] at hb
  exact hb
theorem Inv.stkFree (I:Inv X pins σ H s):∀ b∈frs X.stack,H b=none:=fun b hb=>by
 rcases sJ.mp (I.stkSub b hb) with e | hb
 ·rw [e]; exact I.free
 ·obtain ⟨_,o,ho,_⟩:=I.ok.funs.mem hb
  exact I.base.free b o ho (I.ok.frf b hb) fun z=>I.ok.exfs b z hb
theorem Inv.step {g':Array GenState}{t':Nat}{d':Drawn}{ch:List Addr}(I:Inv X pins σ H s)
  (hch:∀ b∈ch,(b∈X.ex\/X.s₀.heap.objs.size<=b)/\b≠X.env.locals/\(∀ x c,X.env.cells.lookup x=some c->c≠b)/\∀ p∈X.pn++pins,p.1≠b)
  (keep:∀ b o,b≠X.env.locals->b∉X.fs->b∉ch->s.heap.get? b=some o->H b=none->h'.get? b=some o)
  (slot:∀ b o,b≠X.env.locals->b∈X.fs->b∉ch->s.heap.get? b=some o->H b=none->∃ sl,h'.get? b=some { o with slots:=sl }) (free:∀ b o,b∉ch->s.heap.get? b=some o->H b=none->H' b=none)
  (there:∀ b o,b∉ch->s.heap.get? b=some o->∃ o',h'.get? b=some o')
  (tups:∀ b xs,H b=some (.tup xs)->H' b=some (.tup xs)) (frzs:∀ b o u,H b=some (.frz o u)->H' b=some (.frz o u)) (tbls:∀ b ps,H b=some (.tbl ps)->∃ more,H' b=some (.tbl (ps++more)))
  (ns:∀ m,s.heap.Ns X.env.locals m->h'.Ns X.env.locals m) (hok:HOk X.prog X.w H' h') (hg:AllBare g') :
  Inv X pins σ H' { s with heap:=h',gens:=g',drawn:=d',toks:=t' }:=by
 have neL:∀ b o,X.s₀.heap.get? b=some o->b≠X.env.locals:=fun b o e=>sV (sQ (Heap.lt_size e) I.ok.above)
 have neC:∀ b o,X.s₀.heap.get? b=some o->b∉X.ex->b∉ch:=fun b o e hx hb=>by
  rcases (hch b hb).1 with z | z
  ·exact hx z
  ·exact absurd (sQ (Heap.lt_size e) z) (rX _)
 have cellK:∀ x c,X.env.cells.lookup x=some c->∀ v,s.heap.IsCell c v->h'.IsCell c v:=fun x c e v ⟨o,ho,hd⟩=>by
  have nch:c∉ch:=fun z=>(hch c z).2.2.1 x c e rfl
  by_cases hc:c∈X.fs
  ·obtain ⟨sl,q⟩:=slot c o (I.cne x c e) hc nch ho (I.freeC x c e)
   exact ⟨_,q,hd⟩
  ·exact ⟨o,keep c o (I.cne x c e) hc nch ho (I.freeC x c e),hd⟩
 refine ⟨I.ok,I.os,hg,⟨fun b o e n hb hx=>?_,fun b o e n hb hx=>?_,fun b o e n hx=>?_,fun b o e hx=>?_,fun b xs e=>tups b xs (I.base.tups b xs e),fun b o xs e=>frzs b o xs (I.base.frzs b o xs e),fun b ps e=>?_⟩,?_,fun x c e=>?_,?_,fun x c e=>?_,fun p hp=>?_,hok,I.len⟩
 ·exact keep b o (neL b o e) hb (neC b o e hx) (I.base.keep b o e n hb hx) (I.base.free b o e n hx)
 ·obtain ⟨sl,e1⟩:=I.base.slot b o e n hb hx
  obtain ⟨sl',e2⟩:=slot b _ (neL b o e) hb (neC b o e hx) e1 (I.base.free b o e n hx)
  exact ⟨sl',e2⟩
 ·obtain ⟨o',e1⟩:=I.base.there b o e hx
  exact free b o' (neC b o e hx) e1 (I.base.free b o e n hx)
 ·obtain ⟨o',e1⟩:=I.base.there b o e hx
  exact there b o' (neC b o e hx) e1
 ·obtain ⟨m1,e1⟩:=I.base.tbls b ps e
  obtain ⟨m2,e2⟩:=tbls b _ e1
  exact ⟨m1++m2,by rw [e2,Array.append_assoc]⟩
 ·obtain ⟨m,hn,hl⟩:=I.loc
  refine ⟨m,ns m hn,fun i x v e1 e2 e3=>?_⟩
  obtain ⟨u,r,l⟩:=hl i x v e1 e2 e3
  refine ⟨u,r,?_⟩
  rcases l with l | ⟨k,c,e,z⟩
  ·exact .inl l
  ·exact .inr ⟨k,c,e,cellK x c e _ z⟩
 ·obtain ⟨v,z⟩:=I.cell x c e
  exact ⟨v,cellK x c e v z⟩
 ·obtain ⟨m,⟨o,_,_,ho,_⟩,_⟩:=I.loc
  exact free _ o (fun z=>(hch _ z).2.1 rfl) ho I.free
 ·obtain ⟨v,o,ho,hd⟩:=I.cell x c e
  exact free c o (fun z=>(hch c z).2.2.1 x c e rfl) ho (I.freeC x c e)
 ·obtain ⟨e,n,ne,nf,d⟩:=I.pin p hp
  have nch:p.1∉ch:=fun z=>(hch p.1 z).2.2.2 p hp rfl
  exact ⟨keep p.1 p.2 ne nf nch e n,free p.1 p.2 nch e n,ne,nf,d⟩
theorem Inv.un {t':Nat}(I:Inv X pins σ H s)(u:Un X.fs [] H H' s.heap h')(hok:HOk X.prog X.w H' h'):Inv X pins σ H' { s with heap:=h',toks:=t' }:=by
 obtain ⟨m,⟨o,es,ep,ho,r⟩,_⟩:=id I.loc
 obtain ⟨sl,hL⟩:=u.any ho I.free (by simp)
 exact I.step (g':=s.gens) (d':=s.drawn) (ch:=[]) (fun _ z=>nomatch z) (fun b o _ hb _ e n=>u.keep b o e n hb (by simp)) (fun b o _ hb _ e n=>u.slot b o e n hb (by simp)) (fun b o _ e n=>u.free b o e n (by simp)) (fun b o _ e=>u.there b o e (by simp)) u.tups u.frzs u.tbls (fun m' hm=>by
  obtain ⟨o',es',ep',ho',r'⟩:=hm
  rw [ho] at ho'; cases ho'
  exact ⟨_,es',ep',hL,r'⟩) hok I.bare
theorem Inv.call {g':Array GenState}{t':Nat}{d':Drawn}{ch:List Addr}(I:Inv X pins σ H s)(u:Un (frs X.stack) ch H H' s.heap h')(hok:HOk X.prog X.w H' h')(hg:AllBare g')
  (hch:∀ b∈ch,(b∈X.ex\/X.s₀.heap.objs.size<=b)/\b≠X.env.locals/\(∀ x c,X.env.cells.lookup x=some c->c≠b)/\∀ p∈X.pn++pins,p.1≠b) :
  Inv X pins σ H' { s with heap:=h',gens:=g',drawn:=d',toks:=t' }:=by
 obtain ⟨m,⟨o,es,ep,ho,r⟩,_⟩:=id I.loc
 obtain ⟨sl,hL⟩:=u.any ho I.free fun z=>(hch _ z).2.1 rfl
 exact I.step (ch:=ch) hch (fun b o hL hb hc e n=>u.keep b o e n (fun z=>(sJ.mp (I.stkSub b z)).elim hL hb) hc) (fun b o _ _ hc e n=>u.any e n hc) (fun b o hc e n=>u.free b o e n hc) (fun b o hc e=>u.there b o e hc) u.tups u.frzs u.tbls (fun m' hm=>by
  obtain ⟨o',es',ep',ho',r'⟩:=hm
  rw [ho] at ho'; cases ho'
  exact ⟨_,es',ep',hL,r'⟩) hok hg
theorem Inv.turned {t':Nat}{it:Addr}(I:Inv X pins σ H s)(k:∀ b o,b≠it->s.heap.get? b=some o->h'.get? b=some o)(hn:H it=none)(hL:it≠X.env.locals)
  (h1:it∈X.ex\/X.s₀.heap.objs.size<=it) (h2:∀ x c,X.env.cells.lookup x=some c->c≠it) (h3:∀ p∈X.pn++pins,p.1≠it):Inv X pins σ H { s with heap:=h',toks:=t' }:=by
 have nit:∀ b u,H b=some u->b≠it:=fun b u e z=>by rw [z,hn] at e; cases e
 refine I.step (g':=s.gens) (d':=s.drawn) (ch:=[it]) (fun b hb=>?_) (fun b o _ _ hc e _=>k b o (fun z=>hc (by simp [z])) e) (fun b o _ _ hc e _=>⟨o.slots,k b o (fun z=>hc (by simp [z])) e⟩) (fun _ _ _ _ n=>n)
  (fun b o hc e=>⟨o,k b o (fun z=>hc (by simp [z])) e⟩) (fun _ _ e=>e) (fun _ _ _ e=>e) (fun b ps e=>⟨#[],by rw [e]; simp⟩) (fun m hm=>?_) (fun b u e=>?_) I.bare
 ·have e:b=it:=by simpa using hb
  subst e
  exact ⟨h1,hL,h2,h3⟩
 ·obtain ⟨o,es,ep,ho,r⟩:=hm
  exact ⟨o,es,ep,k _ o (Ne.symm hL) ho,r⟩
 ·refine (I.hok b u e).stay (fun c v hc q=>k c v ?_ q) (fun _ q=>q) fun _ _ q=>q
  rcases hc with z | z
  ·rw [z]; exact nit b u e
  ·exact nit c _ z
theorem Inv.tok (I:Inv X pins σ H s)(t:Nat):Inv X pins σ H { s with toks:=t }:=I.un (h':=s.heap) (t':=t) Un.refl I.hok
theorem Inv.kept {t':Nat}(I:Inv X pins σ H s)(k:∀ b u,s.heap.get? b=some u->h'.get? b=some u):Inv X pins σ H { s with heap:=h',toks:=t' }:=I.un (Un.kept k) (I.hok.kept k)
theorem Inv.laid {a:Addr}{o:HO}{t':Nat}(I:Inv X pins σ H s)(k:∀ b u,s.heap.get? b=some u->h'.get? b=some u)(hp:s.heap.objs.size<=a)(new:ObjOk X.prog X.w (upd H a o) h' a o) :
  Inv X pins σ (upd H a o) { s with heap:=h',toks:=t' }:=I.un (Un.laid k hp (I.hok.fresh hp)) (I.hok.laid k hp new)
theorem Inv.write {x e:Addr}{o:HO}{t':Nat}(I:Inv X pins σ H s)(mu:Mut (H x))(he:e=x\/H e=some (.own x))(k:∀ b u,b≠e->s.heap.get? b=some u->h'.get? b=some u)(heo:∃ u,h'.get? e=some u)
  (new:ObjOk X.prog X.w (upd H x o) h' x o):Inv X pins σ (upd H x o) { s with heap:=h',toks:=t' }:=I.un (Un.write mu he k heo) (I.hok.write mu he k heo new)
theorem Inv.weak {σ':List (Option V)}(I:Inv X pins σ H s)(hl:σ'.length=σ.length)(w:∀ (i:Nat) v,σ'[i]?=some (some v)->σ[i]?=some (some v)):Inv X pins σ' H s :=
 ⟨I.ok,I.os,I.bare,I.base,let ⟨m,hn,hl'⟩:=I.loc; ⟨m,hn,fun i x v e1 e2 e3=>hl' i x v e1 (w i v e2) e3⟩,I.cell,I.free,I.freeC,I.pin,I.hok,hl.trans I.len⟩
theorem Inv.pins_of {pins':List (Addr×Obj)}(I:Inv X pins σ H s)(h:∀ p∈pins',s.heap.get? p.1=some p.2/\H p.1=none/\p.1≠X.env.locals/\p.1∉X.fs/\∀ v,p.2.data≠.cell v):Inv X pins' σ H s :=
 ⟨I.ok,I.os,I.bare,I.base,I.loc,I.cell,I.free,I.freeC,fun p hp=>(sE.mp hp).elim (fun z=>I.pin p (sC _ z)) (h p),I.hok,I.len⟩
theorem jC {N:List Str}(hN:N.Nodup){i j:Nat}{x:Str}(a:N[i]?=some x)(b:N[j]?=some x):i=j:=by
 obtain ⟨h1,e1⟩:=sD.mp a
 obtain ⟨h2,e2⟩:=sD.mp b
 exact (List.getElem_inj hN).mp (e1.trans e2.symm)
theorem uW {M:Model}{A:Around}{E:Value->Shared->Prop}{i:Nat}{x:Str}{v:V}{u:Value}{Q:Unit->Shared->Prop}(I:Inv X pins σ H s)(hN:X.N.Nodup)(hi:X.N[i]?=some x)(hx:Loc X.env.scope x)(r:RelV v u)
  (h:∀ s',Inv X pins (σ.set i (some v)) H s'->(∃ a,Heap.SameBut a s.heap s'.heap/\(a=X.env.locals\/X.env.cells.lookup x=some a))->Q () s') (hf:autoParam (X.fn x=true\/X.env.scope.names.lookup x=some .local) L2.au0._auto_1):wpAny M A (storeName X.env x u) Q E s:=by
 obtain ⟨m,hn,hl⟩:=id I.loc
 have hcls:(X.env.scope.kind==.class||(X.env.scope.kind==.module&&X.env.locals != X.env.globals))=false:=by rw [I.ok.kind]; rfl
 have hiσ:i<σ.length:=by rw [I.len]; exact (sD.mp hi).1
 have cne:=I.cne
 have tracked:∀ {a:Addr} {h':Heap},(∃ o,s.heap.get? a=some o/\H a=none)->Heap.SameBut a s.heap h'->HOk X.prog X.w H h':=fun {a h'} ha hs b ob e=>by
  obtain ⟨_,_,hfree⟩:=ha
  refine (I.hok b ob e).stay (fun c w' hc q=>(hs.2 c ?_).trans q) (fun _ q=>q) fun _ _ q=>q
  rintro rfl
  rcases hc with rfl | hc
  ·rw [hfree] at e; cases e
  ·rw [hfree] at hc; cases hc
 rcases hx with hk | hk
 ·refine wpAny_storeName_local hk hn (fun h' hn' hs=>?_) hcls
  obtain ⟨oL,_,_,hoL,_⟩:=id hn
  refine h _ ⟨I.ok,I.os,I.bare,⟨fun b o e n hb hx=>?_,fun b o e n hb hx=>?_,I.base.free,fun b o e hx=>?_,I.base.tups,I.base.frzs,I.base.tbls⟩,⟨_,hn',fun j y v' e1 e2 e3=>?_⟩,fun y c e=>?_,I.free,I.freeC,fun p hp=>?_,tracked ⟨oL,hoL,I.free⟩ hs,by simpa using I.len⟩ ⟨_,hs,.inl rfl⟩
  ·exact (hs.2 b (sV (sQ (Heap.lt_size e) I.ok.above))).trans (I.base.keep b o e n hb hx)
  ·obtain ⟨sl,e1⟩:=I.base.slot b o e n hb hx
   exact ⟨sl,(hs.2 b (sV (sQ (Heap.lt_size e) I.ok.above))).trans e1⟩
  ·obtain ⟨o',e1⟩:=I.base.there b o e hx
   exact ⟨o',(hs.2 b (sV (sQ (Heap.lt_size e) I.ok.above))).trans e1⟩
  ·by_cases hj:j=i
   ·subst hj
    rw [hi] at e1; cases e1
    rw [sO hiσ] at e2
    cases e2
    exact ⟨u,r,.inl ⟨hk,by simp⟩⟩
   ·rw [sL (Ne.symm hj)] at e2
    obtain ⟨u',r',q⟩:=hl j y v' e1 e2 e3
    refine ⟨u',r',?_⟩
    rcases q with ⟨k,e⟩ | ⟨k,c,e,z⟩
    ·refine .inl ⟨k,?_⟩
     have:y≠x:=fun e=>hj (jC hN e1 (e▸hi))
     simp [this,e]
    ·exact .inr ⟨k,c,e,z.sameBut hs (cne y c e)⟩
  ·obtain ⟨w',z⟩:=I.cell y c e
   exact ⟨w',z.sameBut hs (cne y c e)⟩
  ·obtain ⟨e,n,ne,nf,d⟩:=I.pin p hp
   exact ⟨(hs.2 p.1 ne).trans e,n,ne,nf,d⟩
 ·have hfn:X.fn x=true:=by
   rcases hf with z | z
   ·exact z
   ·rw [z] at hk; cases hk
  obtain ⟨c,hc⟩:=I.ok.has x (.inl hk)
  obtain ⟨w',z⟩:=I.cell x c hc
  refine wpAny_storeName_cell I.ok.kind hk hc z (fun h' hc' hs=>?_)
  obtain ⟨oc,hoc,hocd⟩:=id z
  refine h { s with heap:=h' } ⟨I.ok,I.os,I.bare,⟨fun b o e n hb hx=>?_,fun b o e n hb hx=>?_,I.base.free,fun b o e hx=>?_,I.base.tups,I.base.frzs,I.base.tbls⟩,⟨m,hn.sameBut hs (Ne.symm (cne x c hc)),fun j y v' e1 e2 e3=>?_⟩,fun y c' e=>?_,I.free,I.freeC,fun p hp=>?_,tracked ⟨oc,hoc,I.freeC x c hc⟩ hs,by simpa using I.len⟩ ⟨c,hs,.inr hc⟩
  ·exact (hs.2 b (sV (sQ (Heap.lt_size e) (I.ok.cab x c hfn hc)))).trans (I.base.keep b o e n hb hx)
  ·obtain ⟨sl,e1⟩:=I.base.slot b o e n hb hx
   exact ⟨sl,(hs.2 b (sV (sQ (Heap.lt_size e) (I.ok.cab x c hfn hc)))).trans e1⟩
  ·obtain ⟨o',e1⟩:=I.base.there b o e hx
   exact ⟨o',(hs.2 b (sV (sQ (Heap.lt_size e) (I.ok.cab x c hfn hc)))).trans e1⟩
  ·by_cases hj:j=i
   ·subst hj
    rw [hi] at e1; cases e1
    rw [sO hiσ] at e2
    cases e2
    exact ⟨u,r,.inr ⟨.inl hk,c,hc,hc'⟩⟩
   ·rw [sL (Ne.symm hj)] at e2
    obtain ⟨u',r',q⟩:=hl j y v' e1 e2 e3
    refine ⟨u',r',?_⟩
    rcases q with q | ⟨k,c',e,z'⟩
    ·exact .inl q
    ·refine .inr ⟨k,c',e,z'.sameBut hs ?_⟩
     rintro rfl
     exact hj (jC hN e1 (I.ok.inj _ _ _ e hc▸hi))
  ·by_cases hcc:c'=c
   ·subst hcc; exact ⟨_,hc'⟩
   ·obtain ⟨w2,z2⟩:=I.cell y c' e
    exact ⟨w2,z2.sameBut hs hcc⟩
  ·obtain ⟨e,n,ne,nf,d⟩:=I.pin p hp
   refine ⟨(hs.2 p.1 ?_).trans e,n,ne,nf,d⟩
   intro q
   rw [q,hoc] at e
   have q':oc=p.2:=Option.some.inj e
   exact d w' (by rw [<- q']; exact hocd)
theorem uz {M:Model}{A:Around}{E:Value->Shared->Prop}{i:Nat}{x:Str}{v:V}{u:Value}{Q:Unit->Shared->Prop}(I:Inv X pins σ H s)(hN:X.N.Nodup)(hi:X.N[i]?=some x)(hx:Loc X.env.scope x)(r:RelV v u)
  (h:∀ s',Inv X pins (σ.set i (some v)) H s'->Q () s') (hf:autoParam (X.fn x=true\/X.env.scope.names.lookup x=some .local) L2.au0._auto_1):wpAny M A (storeName X.env x u) Q E s :=
 uW I hN hi hx r (fun s' I' _=>h s' I') hf
theorem Inv.call' {s':Shared}{ch:List Addr}(I:Inv X pins σ H s)(ho:s'.os=s.os)(u:Un (frs X.stack) ch H H' s.heap s'.heap)(hok:HOk X.prog X.w H' s'.heap)(hg:AllBare s'.gens)
  (hch:∀ b∈ch,(b∈X.ex\/X.s₀.heap.objs.size<=b)/\b≠X.env.locals/\(∀ x c,X.env.cells.lookup x=some c->c≠b)/\∀ p∈X.pn++pins,p.1≠b):Inv X pins σ H' s':=by
 obtain ⟨h',g',d',t',o'⟩:=s'
 have e:o'=s.os:=ho
 subst e
 exact I.call (g':=g') (t':=t') (d':=d') u hok hg hch
end
abbrev XK:=Value->Option Addr->Hp->Prop
abbrev St:=List (Option V)
abbrev VK:=V->Hp->Prop
abbrev TE:=St->Hp->VK->Prop
abbrev TT:=St->Hp->(Bool->Hp->Prop)->Prop
abbrev TA:=St->Hp->(List V->Hp->Prop)->Prop
structure Ends where
 nx:St->Hp->Prop
 rt:VK
 bk:St->Hp->Prop:=fun _ _=>False
 ct:St->Hp->Prop:=fun _ _=>False
abbrev TS:=Ends->St->Hp->Prop
def EP (X:Cx)(pins:List (Addr×Obj))(σ:St)(Q:VK)(u:Value)(s':Shared):Prop:=∃ v H',Inv X pins σ H' s'/\RelV v u/\Q v H'
def TP (X:Cx)(pins:List (Addr×Obj))(σ:St)(Q:Bool->Hp->Prop)(b:Bool)(s':Shared):Prop:=∃ H',Inv X pins σ H' s'/\Q b H'
def AP (X:Cx)(pins:List (Addr×Obj))(σ:St)(Q:List V->Hp->Prop)(us:List Value)(s':Shared):Prop:=∃ vs H',Inv X pins σ H' s'/\Vals vs us/\Q vs H'
def SP (X:Cx)(pins:List (Addr×Obj))(D:Ends)(f:Flow)(s':Shared):Prop :=
 match f with
 | .next=>∃ σ' H',Inv X pins σ' H' s'/\D.nx σ' H'
 | .brk=>∃ σ' H',Inv X pins σ' H' s'/\D.bk σ' H'
 | .cont=>∃ σ' H',Inv X pins σ' H' s'/\D.ct σ' H'
 | .ret u=>∃ v σ' H',Inv X pins σ' H' s'/\RelV v u/\D.rt v H'
def PE (X:Cx)(e:Expr)(t:TE):Prop :=
 ∀ (pins:List (Addr×Obj)) (s:Shared) (σ:St) (H:Hp) (Q:VK),Inv X pins σ H s->t σ H Q->wpAny (model X.prog X.w) X.A (eval e X.env) (EP X pins σ Q) X.xe s
def PT (X:Cx)(e:Expr)(t:TT):Prop :=
 ∀ (pins:List (Addr×Obj)) (s:Shared) (σ:St) (H:Hp) (Q:Bool->Hp->Prop),Inv X pins σ H s->t σ H Q->wpAny (model X.prog X.w) X.A (isTrue e X.env (eval e X.env)) (TP X pins σ Q) X.xe s
def PW (X:Cx)(e:Expr)(t:TT):Prop :=
 ∀ (whole:Sem Value) (pins:List (Addr×Obj)) (s:Shared) (σ:St) (H:Hp) (Q:Bool->Hp->Prop),Inv X pins σ H s->t σ H Q->wpAny (model X.prog X.w) X.A (isTrue e X.env whole) (TP X pins σ Q) X.xe s
theorem PW.pt {X:Cx}{e:Expr}{t:TT}(h:PW X e t):PT X e t:=h _
def PA (X:Cx)(es:List Expr)(t:TA):Prop :=
 ∀ (pos:Pos) (pins:List (Addr×Obj)) (s:Shared) (σ:St) (H:Hp) (Q:List V->Hp->Prop),Inv X pins σ H s->t σ H Q->wpAny (model X.prog X.w) X.A (spliced (backTo pos (starEach es X.env))) (AP X pins σ Q) X.xe s
def PS (X:Cx)(st:Stmt)(t:TS):Prop :=
 ∀ (pins:List (Addr×Obj)) (s:Shared) (σ:St) (H:Hp) (D:Ends),Inv X pins σ H s->t D σ H->wpAny (model X.prog X.w) X.A (exec st X.env) (SP X pins D) X.xe s
def PSs (X:Cx)(st:List Stmt)(t:TS):Prop :=
 ∀ (pins:List (Addr×Obj)) (s:Shared) (σ:St) (H:Hp) (D:Ends),Inv X pins σ H s->t D σ H->wpAny (model X.prog X.w) X.A (execs st X.env) (SP X pins D) X.xe s
theorem thn {α:Type}{t:Sem α}{Q Q':α->Shared->Prop}{M:Model}{A:Around}{E:Value->Shared->Prop}{s:Shared}(h:wpAny M A t Q E s)(hQ:∀ a s,Q a s->Q' a s):wpAny M A t Q' E s:=wpAny_mono h hQ fun _ _ x=>x
section
variable {X:Cx}
def qo (i:Nat):TE:=fun σ H Q=>∃ v,σ[i]?=some (some v)/\Q v H
def tC (v:V):TE:=fun _ H Q=>Q v H
theorem qm {i:Nat}{x:Str}{pos:Pos}(hN:X.N[i]?=some x)(hv:Vis X.env.scope x)(hd:autoParam ((x==("__debug__":Str))=false) L2.au1._auto_1)(hcd:autoParam ((x==("__classdict__":Str))=false) L2.au1._auto_1):PE X (.Name x pos) (qo i):=by
 intro pins s σ H Q I h
 obtain ⟨v,e,h⟩:=h
 obtain ⟨m,hn,hl⟩:=I.loc
 obtain ⟨u,r,l⟩:=hl i x v hN e hv
 have fin:EP X pins σ Q u s:=⟨v,H,I,r,h⟩
 rcases l with ⟨hk,hm⟩ | ⟨hk,c,hc,hcell⟩
 ·exact wpAny_Name (wpAny_loadName_local I.ok.kind hk hn hm fin) hd
 ·rcases hk with hk | hk
  ·exact wpAny_Name (wpAny_loadName_cell I.ok.kind hk hc hcell fin) hd
  ·exact wpAny_Name (wpAny_loadName_free I.ok.kind hk hc hcell fin hcd) hd
theorem z1j {i j pos}:PE X (.Constant (.int i) j pos) (tC (.int i)):=fun _ _ _ H _ I h=>wpAny_Constant_int ⟨.int i,H,I.tok _,⟨_,rfl⟩,h⟩
theorem z3P {b j pos}:PE X (.Constant (.bool b) j pos) (tC (.bl b)):=fun _ _ _ H _ I h=>Constant_bool ⟨.bl b,H,I,rfl,h⟩
theorem z1T {j pos}:PE X (.Constant .none j pos) (tC .non):=fun _ _ _ H _ I h=>Constant_none ⟨.non,H,I,rfl,h⟩
theorem wx {x j pos}:PE X (.Constant (.str x) j pos) (tC (.str x)):=fun _ _ _ H _ I h=>Calls.Constant_str ⟨.str x,H,I.tok _,⟨_,rfl⟩,h⟩
def Gl (X:Cx)(x:Str):Prop:=X.env.kindOf x=some .globalImplicit
theorem uP {E:Value->Shared->Prop}{pins:List (Addr×Obj)}{s:Shared}{σ:St}{H:Hp}{x:Str}{u:Value}{pos:Pos}{Q:Value->Shared->Prop}(I:Inv X pins σ H s)(hg:Gl X x)(hm:X.mg x=some u)(h:Q u s)
  (hd:autoParam ((x==("__debug__":Str))=false) L2.au1._auto_1):wpAny (model X.prog X.w) X.A (eval (.Name x pos) X.env) Q E s :=
 Calls.Name_function_global I.ok.kind hg (Calls.loadGlobal_global (by rw [I.ok.glob]; exact I.mod.glob.keeps I.bk) hm h) hd
theorem ue {E:Value->Shared->Prop}{pins:List (Addr×Obj)}{s:Shared}{σ:St}{H:Hp}{x:Str}{u:Value}{pos:Pos}{Q:Value->Shared->Prop}(I:Inv X pins σ H s)(hg:Gl X x)(hm:X.mg x=none)(hv:bootBuiltins x=some u)(h:Q u s)
  (hn:autoParam (x≠"__name__") L2.au1._auto_1) (hd:autoParam ((x==("__debug__":Str))=false) L2.au1._auto_1):wpAny (model X.prog X.w) X.A (eval (.Name x pos) X.env) Q E s:=by
 obtain ⟨mb,h1,h2⟩:=I.mod.blt
 exact Calls.Name_function_global I.ok.kind hg (Calls.loadGlobal_builtin (by rw [I.ok.glob]; exact I.mod.glob.keeps I.bk) hm (by rw [I.ok.blt]; exact h1.keeps I.bk) ((h2 x hn).trans hv) h) hd
theorem Zm {x:Str}{v:V}{u:Value}{pos:Pos}(hg:Gl X x)(hm:X.mg x=some u)(r:RelV v u)(hd:autoParam ((x==("__debug__":Str))=false) L2.au1._auto_1):PE X (.Name x pos) (tC v) :=
 fun _ _ _ H _ I h=>uP I hg hm ⟨v,H,I,r,h⟩ hd
theorem xS {x:Str}{v:V}{u:Value}{pos:Pos}(hg:Gl X x)(hm:X.mg x=none)(hv:bootBuiltins x=some u)(r:RelV v u)(hn:autoParam (x≠"__name__") L2.au1._auto_1)(hd:autoParam ((x==("__debug__":Str))=false) L2.au1._auto_1):PE X (.Name x pos) (tC v) :=
 fun _ _ _ H _ I h=>ue I hg hm hv ⟨v,H,I,r,h⟩ hn hd
variable {a b:Expr}{ta tb:TE}{pos:Pos}
def tB (t:TE):TT:=fun σ H Q=>t σ H fun x H1=>∃ c,x=.bl c/\Q c H1
theorem Qa {e:Expr}{t:TE}(h:PE X e t)(he:autoParam (∀ whole,isTrue e X.env whole=(do let v <- whole; standAt e.pos; holding [v] (truthy v))) L2.au2._auto_1):PT X e (tB t):=by
 intro pins s σ H Q I hw
 refine isTrue_plain (thn (h pins s σ H _ I hw) fun v s1 ⟨x,H1,I1,r1,q1⟩=>?_) (he _)
 obtain ⟨d,rfl,q⟩:=q1
 cases r1
 exact wpAny_truthy_bool ⟨H1,I1,q⟩
variable {tA tB':TT}{rest:List Expr}
def z2z (t u:TT):TT:=fun σ H Q=>t σ H fun c H1=>if c=true then u σ H1 Q else Q false H1
def tOr (t u:TT):TT:=fun σ H Q=>t σ H fun c H1=>if c=true then Q true H1 else u σ H1 Q
def Jw (t:TT):TT:=fun σ H Q=>t σ H fun c H1=>Q (!c) H1
theorem KD (ha:PT X a tA):PW X (.BoolOp .And [a] pos) tA:=by
 intro wh pins s σ H Q I h
 refine isTrue_and (thn (ha pins s σ H Q I h) fun c s1 e=>?_)
 cases c with
 | true=>exact isTrue_and_nil e
 | false=>exact e
theorem UT (ha:PT X a tA):PW X (.BoolOp .Or [a] pos) tA:=by
 intro wh pins s σ H Q I h
 refine isTrue_or (thn (ha pins s σ H Q I h) fun c s1 e=>?_)
 cases c with
 | false=>exact isTrue_or_nil e
 | true=>exact e
theorem z1w (ha:PT X a tA)(hb:PW X (.BoolOp .And (b::rest) pos) tB'):PW X (.BoolOp .And (a::b::rest) pos) (z2z tA tB'):=by
 intro wh pins s σ H Q I h
 refine isTrue_and (thn (ha pins s σ H _ I h) fun c s1 ⟨H1,I1,q1⟩=>?_)
 cases c with
 | true=>exact hb wh pins s1 σ H1 Q I1 q1
 | false=>exact ⟨H1,I1,q1⟩
theorem Jg (ha:PT X a tA)(hb:PW X (.BoolOp .Or (b::rest) pos) tB'):PW X (.BoolOp .Or (a::b::rest) pos) (tOr tA tB'):=by
 intro wh pins s σ H Q I h
 refine isTrue_or (thn (ha pins s σ H _ I h) fun c s1 ⟨H1,I1,q1⟩=>?_)
 cases c with
 | true=>exact ⟨H1,I1,q1⟩
 | false=>exact hb wh pins s1 σ H1 Q I1 q1
theorem UB (ha:PT X a tA):PT X (.UnaryOp .Not a pos) (Jw tA):=by
 intro pins s σ H Q I h
 exact isTrue_not (ha pins s σ H (fun c H1=>Q (!c) H1) I h)
def Ul (ta tb:TE):TE:=fun σ H Q=>ta σ H fun x H1=>∃ c,x=.bl c/\if c=true then tb σ H1 Q else Q (.bl false) H1
def z0y (ta:TE):TE:=fun σ H Q=>ta σ H fun x H1=>∃ c,x=.bl c/\Q (.bl (!c)) H1
theorem Qy {op}{t:TE}(h:PE X a t):PE X (.BoolOp op [a] pos) t:=fun pins s σ H Q I hw=>BoolOp_one (h pins s σ H Q I hw)
theorem VU (ha:PE X a ta)(hb:PE X (.BoolOp .And (b::rest) pos) tb):PE X (.BoolOp .And (a::b::rest) pos) (Ul ta tb):=by
 intro pins s σ H Q I h
 refine BoolOp_and (thn (ha pins s σ H _ I h) fun v s1 ⟨x,H1,I1,r1,q1⟩=>?_)
 obtain ⟨c,rfl,q1⟩:=q1
 cases r1
 refine wpAny_truthy_bool ?_
 cases c with
 | true=>exact hb pins s1 σ H1 Q I1 q1
 | false=>exact ⟨.bl false,H1,I1,rfl,q1⟩
theorem z1E (ha:PE X a ta):PE X (.UnaryOp .Not a pos) (z0y ta):=by
 intro pins s σ H Q I h
 refine UnaryOp_ (thn (ha pins s σ H _ I h) fun v s1 ⟨x,H1,I1,r1,q1⟩=>?_)
 obtain ⟨c,rfl,q1⟩:=q1
 cases r1
 exact not_of (wpAny_truthy_bool ⟨.bl (!c),H1,I1,rfl,q1⟩)
def tIf (t:TT)(ta tb:TE):TE:=fun σ H Q=>t σ H fun c H1=>if c=true then ta σ H1 Q else tb σ H1 Q
theorem Jh {c:Expr}(hc:PT X c tA)(ha:PE X a ta)(hb:PE X b tb):PE X (.IfExp c a b pos) (tIf tA ta tb):=by
 intro pins s σ H Q I h
 refine wpAny_IfExp (thn (hc pins s σ H _ I h) fun d s1 ⟨H1,I1,q1⟩=>?_)
 cases d with
 | true=>exact ha pins s1 σ H1 Q I1 q1
 | false=>exact hb pins s1 σ H1 Q I1 q1
end
def SqL (K:PySem.W.Frag)(H:Hp)(a:Addr)(xs:List V):Prop :=
 Rd H a (.lst xs) \/
  ∃ (o:Obj) (its:Array Value) (n:Nat),K.lookup a=some o/\o.cls=.type "list"/\o.dict=none/\o.data=.seq its n/\its.size<=sizeLine/\Vals xs its.toList
def SqT (K:PySem.W.Frag)(H:Hp)(a:Addr)(xs:List V):Prop :=
 Rd H a (.tup xs) \/
  ∃ (o:Obj) (its:Array Value) (n:Nat),K.lookup a=some o/\o.cls=.type "tuple"/\(o.dict=none/\o.slots=#[])/\o.data=.seq its n/\its.size<=sizeLine/\Vals xs its.toList
def z4y:Value->Option V
 | .none=>some .non
 | .bool b=>some (.bl b)
 | .int i _=>some (.int i)
 | .str x _=>some (.str x)
 | .bytes b _=>some (.byt b)
 | .float b _=>some (.flt b)
 | .ref a=>some (.ref a)
 | .type n=>some (.ty n)
 | _=>none
theorem RelV.abs {x:V}{u:Value}(r:RelV x u):z4y u=some x:=by
 cases x with
 | non=>cases r; rfl
 | bl _=>cases r; rfl
 | int _=>obtain ⟨t,rfl⟩:=r; rfl
 | str _=>obtain ⟨t,rfl⟩:=r; rfl
 | byt _=>obtain ⟨t,rfl⟩:=r; rfl
 | flt _=>obtain ⟨t,rfl⟩:=r; rfl
 | ref _=>cases r; rfl
 | ty _=>cases r; rfl
theorem RelV.inj {x y:V}{u:Value}(r:RelV x u)(q:RelV y u):x=y:=Option.some.inj (r.abs.symm.trans q.abs)
theorem Vals.inj:∀ {xs ys:List V} {us:List Value},Vals xs us->Vals ys us->xs=ys
 | _,_,_,.nil,.nil=>rfl
 | _,_,_,.cons r t,.cons r' t'=>by rw [r.inj r',Vals.inj t t']
section
variable {X:Cx}{pins:List (Addr×Obj)}{σ:St}{H:Hp}{s:Shared}{a:Addr}{xs ys:List V}
theorem SqL.of {K:PySem.W.Frag}(h:H a=some (.lst xs)):SqL K H a xs:=.inl (.inl h)
theorem SqT.of {K:PySem.W.Frag}(h:H a=some (.tup xs)):SqT K H a xs:=.inl (.inl h)
theorem Inv.list (I:Inv X pins σ H s)(h:SqL X.K H a xs):∃ its:List Value,Vals xs its/\PlainL s.heap a its.toArray/\xs.length<=sizeLine:=by
 rcases h with h | ⟨o,its,n,hk,hc,hd,hs,hz,r⟩
 ·obtain ⟨z,its,n,r,e⟩:=h.ok I.hok
  exact ⟨its,r,⟨_,n,e,rfl,rfl,rfl⟩,z⟩
 ·refine ⟨its.toList,r,⟨o,n,I.kIn a o hk,hc,hd,by simpa using hs⟩,?_⟩
  have e:=r.length
  simp only [Array.length_toList] at e
  omega
theorem Inv.tuple (I:Inv X pins σ H s)(h:SqT X.K H a xs):∃ its:List Value,Vals xs its/\IsTup s.heap a its.toArray/\xs.length<=sizeLine:=by
 rcases h with h | ⟨o,its,n,hk,hc,_,hs,hz,r⟩
 ·obtain ⟨z,its,r,p⟩:=h.ok I.hok
  exact ⟨its,r,p.tup,z⟩
 ·refine ⟨its.toList,r,⟨o,I.kIn a o hk,hc,n,by simpa using hs⟩,?_⟩
  have e:=r.length
  simp only [Array.length_toList] at e
  omega
theorem Inv.list_inj (I:Inv X pins σ H s)(h:SqL X.K H a xs)(h':SqL X.K H a ys):xs=ys:=by
 obtain ⟨its,r,⟨o,n,e,_,_,d⟩,_⟩:=I.list h
 obtain ⟨its',r',⟨o',n',e',_,_,d'⟩,_⟩:=I.list h'
 rw [e] at e'; cases e'
 rw [d] at d'
 injection d' with d1 _
 have:its=its':=by simpa using congrArg Array.toList d1
 subst this
 exact r.inj r'
theorem Inv.tuple_inj (I:Inv X pins σ H s)(h:SqT X.K H a xs)(h':SqT X.K H a ys):xs=ys:=by
 obtain ⟨its,r,⟨o,e,_,n,d⟩,_⟩:=I.tuple h
 obtain ⟨its',r',⟨o',e',_,n',d'⟩,_⟩:=I.tuple h'
 rw [e] at e'; cases e'
 rw [d] at d'
 injection d' with d1 _
 have:its=its':=by simpa using congrArg Array.toList d1
 subst this
 exact r.inj r'
end
abbrev Cx.wish (X:Cx)(E:Value->Shared->Prop):Cx:={ X with xe:=E }
abbrev Cx.nox (X:Cx):Cx:=X.wish fun _ _=>False
theorem Cx.Ok.wish {X:Cx}(ok:X.Ok)(E:Value->Shared->Prop):(X.wish E).Ok :=
 ⟨ok.mod,ok.kind,ok.glob,ok.blt,ok.above,ok.inj,ok.has,ok.cab,ok.hd,ok.frames,ok.stk,ok.exf,ok.bs,ok.bsz,ok.noex,ok.exfs,ok.funs,ok.frf⟩
theorem Cx.Ok.unwish {X:Cx}{E:Value->Shared->Prop}(ok:(X.wish E).Ok):X.Ok :=
 ⟨ok.mod,ok.kind,ok.glob,ok.blt,ok.above,ok.inj,ok.has,ok.cab,ok.hd,ok.frames,ok.stk,ok.exf,ok.bs,ok.bsz,ok.noex,ok.exfs,ok.funs,ok.frf⟩
section
variable {X:Cx}{pins:List (Addr×Obj)}{σ:St}{H:Hp}{s:Shared}{E:Value->Shared->Prop}
theorem Inv.wish (I:Inv X pins σ H s)(E:Value->Shared->Prop):Inv (X.wish E) pins σ H s:=⟨I.ok.wish E,I.os,I.bare,I.base,I.loc,I.cell,I.free,I.freeC,I.pin,I.hok,I.len⟩
theorem Inv.unwish (I:Inv (X.wish E) pins σ H s):Inv X pins σ H s:=⟨I.ok.unwish,I.os,I.bare,I.base,I.loc,I.cell,I.free,I.freeC,I.pin,I.hok,I.len⟩
theorem SP.unwish {D:Ends}{f:Flow}{s':Shared}(h:SP (X.wish E) pins D f s'):SP X pins D f s':=by
 cases f with
 | next=>obtain ⟨σ',H',I,q⟩:=h; exact ⟨σ',H',I.unwish,q⟩
 | brk=>obtain ⟨σ',H',I,q⟩:=h; exact ⟨σ',H',I.unwish,q⟩
 | cont=>obtain ⟨σ',H',I,q⟩:=h; exact ⟨σ',H',I.unwish,q⟩
 | ret u=>obtain ⟨v,σ',H',I,r,q⟩:=h; exact ⟨v,σ',H',I.unwish,r,q⟩
theorem PE.nox {e:Expr}{t:TE}(h:PE X.nox e t):PE X e t:=fun pins s σ H Q I hw =>
 wpAny_mono (h pins s σ H Q (I.wish _) hw) (fun _ _ ⟨v,H',I',r,q⟩=>⟨v,H',I'.unwish,r,q⟩) fun _ _ z=>False.elim z
theorem PT.nox {e:Expr}{t:TT}(h:PT X.nox e t):PT X e t:=fun pins s σ H Q I hw =>
 wpAny_mono (h pins s σ H Q (I.wish _) hw) (fun _ _ ⟨H',I',q⟩=>⟨H',I'.unwish,q⟩) fun _ _ z=>False.elim z
theorem PSs.nox {st:List Stmt}{t:TS}(h:PSs X.nox st t):PSs X st t:=fun pins s σ H D I hw =>
 wpAny_mono (h pins s σ H D (I.wish _) hw) (fun _ _ q=>q.unwish) fun _ _ z=>False.elim z
end
section
variable {X:Cx}{st:Stmt}{rest:List Stmt}{t u:TS}{e:Expr}{te:TE}{pos:Pos}
def z0x:TS:=fun D σ H=>D.nx σ H
def JD (t u:TS):TS:=fun D σ H=>t { D with nx:=u D } σ H
theorem W6:PSs X [] z0x:=fun _ _ σ H _ I h=>wpAny_execs_nil ⟨σ,H,I,h⟩
theorem Jc (h1:PS X st t)(h2:PSs X rest u):PSs X (st::rest) (JD t u):=by
 intro pins s σ H D I h
 refine wpAny_execs_cons (thn (h1 pins s σ H { D with nx:=u D } I h) fun f s1 q=>?_)
 cases f with
 | next =>
  obtain ⟨σ',H',I',q⟩:=q
  exact h2 pins s1 σ' H' D I' q
 | ret v=>exact q
 | brk=>exact q
 | cont=>exact q
theorem Wo (h1:PS X st t):PSs X [st] t:=by
 intro pins s σ H D I h
 refine wpAny_execs_cons (thn (h1 pins s σ H D I h) fun f s1 q=>?_)
 cases f with
 | next=>exact wpAny_execs_nil q
 | ret v=>exact q
 | brk=>exact q
 | cont=>exact q
theorem Inv.quiet {pins:List (Addr×Obj)}{σ:St}{H:Hp}{s:Shared}(I:Inv X pins σ H s):interactive X.env=false:=by simp [interactive,I.ok.kind]
def z05 (te:TE):TS:=fun D σ H=>te σ H fun _ H1=>D.nx σ H1
theorem W9 (he:PE X e te)(hs:autoParam (swapsWith e none pos.line X.env=pure false) L2.au3._auto_1):PS X (.Expr e pos) (z05 te):=by
 intro pins s σ H D I h
 exact wpAny_Expr_any (thn (he pins s σ H _ I h) fun v s1 ⟨x,H1,I1,r1,q1⟩=>⟨σ,H1,I1,q1⟩) I.quiet hs
def JM (te:TE):TS:=fun D σ H=>te σ H D.rt
theorem QW (he:PE X e te):PS X (.Return (some e) pos) (JM te):=by
 intro pins s σ H D I h
 exact wpAny_Return_some (thn (he pins s σ H _ I h) fun v s1 ⟨x,H1,I1,r1,q1⟩=>⟨x,σ,H1,I1,r1,q1⟩)
def Kt (c:TT)(t u:TS):TS:=fun D σ H=>c σ H fun b H1=>if b=true then t D σ H1 else u D σ H1
theorem z0t {c:Expr}{a b:List Stmt}{tc:TT}(hc:PT X c tc)(ha:PSs X a t)(hb:PSs X b u):PS X (.If c a b pos) (Kt tc t u):=by
 intro pins s σ H D I h
 refine wpAny_If (thn (hc pins s σ H _ I h) fun d s1 ⟨H1,I1,q1⟩=>?_)
 cases d with
 | true=>exact ha pins s1 σ H1 D I1 q1
 | false=>exact hb pins s1 σ H1 D I1 q1
def z0X:TS:=fun _ _ _=>False
theorem VL {sts:List Stmt}:PSs X sts z0X:=fun _ _ _ _ _ _ h=>h.elim
end
abbrev TG:=V->St->Hp->(St->Hp->Prop)->Prop
abbrev TGs:=List V->St->Hp->(St->Hp->Prop)->Prop
def PG (X:Cx)(target:Expr)(t:TG):Prop :=
 ∀ (pins:List (Addr×Obj)) (s:Shared) (σ:St) (H:Hp) (v:V) (u:Value) (Q:St->Hp->Prop),Inv X pins σ H s->RelV v u->t v σ H Q ->
  wpAny (model X.prog X.w) X.A (assign target X.env u) (fun _ s'=>∃ σ' H',Inv X pins σ' H' s'/\Q σ' H') X.xe s
def PGs (X:Cx)(ts:List Expr)(t:TGs):Prop :=
 ∀ (pins:List (Addr×Obj)) (s:Shared) (σ:St) (H:Hp) (vs:List V) (us:List Value) (Q:St->Hp->Prop),Inv X pins σ H s->Vals vs us->t vs σ H Q ->
  wpAny (model X.prog X.w) X.A (assignInOrder ((assignEach ts X.env).map (·.2)) us) (fun _ s'=>∃ σ' H',Inv X pins σ' H' s'/\Q σ' H') X.xe s
abbrev z0R:=V->V->V->Hp->(Hp->Prop)->Prop
def z48 (X:Cx)(t:z0R):Prop :=
 ∀ (pins:List (Addr×Obj)) (s:Shared) (σ:St) (H:Hp) (o i v:V) (ov iv u:Value) (Q:Hp->Prop),Inv X pins σ H s->RelV o ov->RelV i iv->RelV v u->t o i v H Q ->
  wpAny (model X.prog X.w) X.A (setItem ov iv u) (fun _ s'=>∃ H',Inv X pins σ H' s'/\Q H') X.xe s
abbrev TIp:=V->V->Hp->VK->Prop
def PIp (X:Cx)(op:Operator)(t:TIp):Prop :=
 ∀ (pins:List (Addr×Obj)) (s:Shared) (σ:St) (H:Hp) (x y:V) (v u:Value) (Q:VK),Inv X pins σ H s->RelV x v->RelV y u->t x y H Q ->
  wpAny (model X.prog X.w) X.A (inplaceOp op v u) (EP X pins σ Q) X.xe s
section
variable {X:Cx}{pos:Pos}
def uv (i:Nat):TG:=fun v σ H Q=>Q (σ.set i (some v)) H
theorem KS {i:Nat}{x:Str}(hN:X.N.Nodup)(hi:X.N[i]?=some x)(hx:Loc X.env.scope x)(hf:autoParam (X.fn x=true\/X.env.scope.names.lookup x=some .local) L2.au0._auto_1):PG X (.Name x pos) (uv i):=by
 intro pins s σ H v u Q I r h
 exact wpAny_assign_Name (uz I hN hi hx r (fun s' I'=>⟨_,H,I',h⟩) hf)
def z4t:TGs:=fun vs σ H Q=>vs=[]/\Q σ H
def z3p (t:TG)(u:TGs):TGs:=fun vs σ H Q=>∃ v r,vs=v::r/\t v σ H fun σ' H'=>u r σ' H' Q
theorem Kf:PGs X [] z4t:=by
 intro pins s σ H vs us Q I r h
 obtain ⟨e,h⟩:=h
 subst e
 cases r
 exact assignInOrder_nil ⟨σ,H,I,h⟩
theorem UG {e:Expr}{es:List Expr}{t:TG}{u:TGs}(h1:PG X e t)(h2:PGs X es u)
  (hs:autoParam ((assignEach (e::es) X.env).map (·.2)=assign e X.env::(assignEach es X.env).map (·.2)) L2.au3._auto_1):PGs X (e::es) (z3p t u):=by
 intro pins s σ H vs us Q I r h
 obtain ⟨v,vr,e1,h⟩:=h
 subst e1
 cases r with
 | cons r rr =>
  rw [hs]
  refine assignInOrder_cons (thn (h1 pins s σ H _ _ _ I r h) fun _ s1 ⟨σ1,H1,I1,q1⟩=>?_)
  exact h2 pins s1 σ1 H1 _ _ Q I1 rr q1
def z3E (K:PySem.W.Frag)(n:Nat)(t:TGs):TG:=fun v σ H Q=>∃ a xs,v=.ref a/\SqT K H a xs/\xs.length=n/\t xs σ H Q
theorem z2g {es:List Expr}{k:Nat}{t:TGs}{n:Nat}(hc:X.calm=true)(h:PGs X es t)
  (hn:autoParam ((assignEach es X.env).length=n) L2.au3._auto_1) (hst:autoParam ((assignEach es X.env).findIdx? (·.1)=none) L2.au3._auto_1):PG X (.Tuple es k pos) (z3E X.K n t):=by
 intro pins s σ H v u Q I r hw
 obtain ⟨a,xs,e1,hq,hl,hw⟩:=hw
 subst e1
 cases r
 obtain ⟨its,rv,ht,hz⟩:=I.tuple hq
 refine assign_Tuple_tuple (I.ok.hd hc) ht (by simp [hn,<- hl,rv.length]) hst fun h' hx=>?_
 have I1:Inv X pins σ H { s with heap:=h' }:=I.kept (t':=s.toks) fun b o e=>hx b o (sV (Heap.lt_size e)) e
 exact h pins _ σ H xs _ Q I1 (by simpa using rv) hw
def z4z (to ti:TE)(t:z0R):TG:=fun v σ H Q=>to σ H fun o H1=>ti σ H1 fun i H2=>t o i v H2 fun H3=>Q σ H3
theorem z1d {o i:Expr}{to ti:TE}{t:z0R}(ho:PE X o to)(hi:PE X i ti)(hs:z48 X t)
  (ha:autoParam (∀ v,assign (.Subscript o i pos) X.env v=(do
   let ov <- holding [v] (eval o X.env)
   let iv <- holding [v,ov] (eval i X.env)
   standAt pos
   holding [v,ov,iv] (setItem ov iv v)
   release [v,ov,iv] [])) L2.au2._auto_1):PG X (.Subscript o i pos) (z4z to ti t):=by
 intro pins s σ H v u Q I r h
 rw [ha]
 refine wpAny_bind (wpAny_holding (thn (ho pins s σ H _ I h) fun ov s1 ⟨x,H1,I1,r1,q1⟩=>?_))
 refine wpAny_bind (wpAny_holding (thn (hi pins s1 σ H1 _ I1 q1) fun iv s2 ⟨y,H2,I2,r2,q2⟩=>?_))
 refine wpAny_bind (wpAny_standAt (wpAny_bind (wpAny_holding (thn (hs pins s2 σ H2 x y v ov iv u _ I2 r1 r2 r q2) fun _ s3 ⟨H3,I3,q3⟩=>?_))))
 exact wpAny_release ⟨σ,H3,I3,q3⟩
def z1P (te:TE)(g:TG):TS:=fun D σ H=>te σ H fun x H1=>g x σ H1 D.nx
theorem J6 {tg e:Expr}{te:TE}{g:TG}(he:PE X e te)(hg:PG X tg g)(hs:autoParam (swapsWithSole [tg] e pos.line X.env=pure false) L2.au3._auto_1)(hw:autoParam (swappedStores [tg] e X.env=pure none) L2.au3._auto_1)
  (h1:autoParam ((assignEach [tg] X.env).map (·.2)=[assign tg X.env]) L2.au3._auto_1):PS X (.Assign [tg] e pos) (z1P te g):=by
 intro pins s σ H D I h
 refine wpAny_Assign_stores (thn (he pins s σ H _ I h) fun v s1 ⟨x,H1,I1,r1,q1⟩=>?_) hs hw
 rw [h1]
 exact thn (hg pins s1 σ H1 x v _ I1 r1 q1) fun _ s2 q=>q
theorem U5 {i:Nat}{x:Str}{e:Expr}{te:TE}{pos':Pos}(hN:X.N.Nodup)(hi:X.N[i]?=some x)(hx:Loc X.env.scope x)(he:PE X e te)(hs:autoParam (swapsWith e (some (.Name x pos')) pos.line X.env=pure false) L2.au3._auto_1)(hf:autoParam (X.fn x=true\/X.env.scope.names.lookup x=some .local) L2.au0._auto_1) :
  PS X (.Assign [.Name x pos'] e pos) (z1P te (uv i)):=by
 intro pins s σ H D I h
 refine wpAny_Assign_Name (thn (he pins s σ H _ I h) fun v s1 ⟨y,H1,I1,r1,q1⟩=>?_) hs
 exact uz I1 hN hi hx r1 (fun s2 I2=>⟨_,H1,I2,q1⟩) hf
def z4I (i:Nat)(te:TE)(ti:TIp):TS:=fun D σ H=>∃ x,σ[i]?=some (some x)/\te σ H fun y H1=>ti x y H1 fun z H2=>D.nx (σ.set i (some z)) H2
theorem z0K {i:Nat}{x:Str}{e:Expr}{te:TE}{op:Operator}{ti:TIp}{pos':Pos}(hN:X.N.Nodup)(hi:X.N[i]?=some x)(hx:Loc X.env.scope x)(he:PE X e te)(ho:PIp X op ti)(hf:autoParam (X.fn x=true\/X.env.scope.names.lookup x=some .local) L2.au0._auto_1) :
  PS X (.AugAssign (.Name x pos') op e pos) (z4I i te ti):=by
 intro pins s σ H D I h
 obtain ⟨v,e1,h⟩:=h
 obtain ⟨m,hn,hl⟩:=I.loc
 have vis:Vis X.env.scope x:=by rcases hx with k | k; exact .inl k; exact .inr (.inl k)
 obtain ⟨u,r,l⟩:=hl i x v hi e1 vis
 refine wpAny_AugAssign_Name ?_
 have go:wpAny (model X.prog X.w) X.A (eval e X.env) (fun w s₂=>wpAny (model X.prog X.w) X.A (inplaceOp op u w) (fun r s₃=>wpAny (model X.prog X.w) X.A (storeName X.env x r) (fun _=>SP X pins D .next) X.xe s₃) X.xe s₂) X.xe s:=by
  refine thn (he pins s σ H _ I h) fun w s1 ⟨y,H1,I1,r1,q1⟩=>?_
  refine thn (ho pins s1 σ H1 v y u w _ I1 r r1 q1) fun z s2 ⟨zv,H2,I2,r2,q2⟩=>?_
  exact uz I2 hN hi hx r2 (fun s3 I3=>⟨_,H2,I3,q2⟩) hf
 rcases l with ⟨hk,hm⟩ | ⟨hk,c,hc,hcell⟩
 ·exact wpAny_loadName_local I.ok.kind hk hn hm go
 ·rcases hk with hk | hk
  ·exact wpAny_loadName_cell I.ok.kind hk hc hcell go
  ·rcases hx with k | k
   ·have:X.env.scope.names.lookup x=some .free:=hk
    rw [k] at this; cases this
   ·have:X.env.scope.names.lookup x=some .free:=hk
    rw [k] at this; cases this
def ipI (f:Int->Int->Int):TIp:=fun x y H Q=>∃ i j,x=.int i/\y=.int j/\Q (.int (f i j)) H
theorem z12:PIp X .Add (ipI fun i j=>i+j):=by
 intro pins s σ H x y v u Q I r1 r2 h
 obtain ⟨i,j,e1,e2,q⟩:=h
 subst e1; subst e2
 obtain ⟨t,rfl⟩:=r1
 obtain ⟨t',rfl⟩:=r2
 exact iadd_int ⟨.int _,H,I.tok _,⟨_,rfl⟩,q⟩
end
section
variable {X:Cx}{pos:Pos}
def z0L (c:TT)(tb:TS):TS:=fun D σ H=>∃ W:Nat->St->Hp->Prop,(∃ m,W m σ H)/\∀ m σ H,W m σ H ->
 c σ H fun b H1=>if b=true then ∃ N:St->Hp->Prop,(∀ σ' H',N σ' H'->∃ m',m'<m/\W m' σ' H')/\tb { D with nx:=N,ct:=N,bk:=D.nx } σ H1 else D.nx σ H1
theorem Qw {c:Expr}{body:List Stmt}{tc:TT}{tb:TS}(hp:PassesOwn (model X.prog X.w) X.A X.env X.xe)(hc:PT X c tc)(hb:PSs X body tb):PS X (.While c body [] pos) (z0L tc tb):=by
 intro pins s σ H D I h
 obtain ⟨W,⟨m0,w0⟩,turn⟩:=h
 refine wpAny_While (codeAny_whileLoop (fun n s'=>∃ σ' H',Inv X pins σ' H' s'/\W n σ' H') ?_ m0 ⟨σ,H,I,w0⟩)
 rintro n s1 ⟨σ1,H1,I1,w1⟩
 refine wpAny_passesOwn hp (thn (hc pins s1 σ1 H1 _ I1 (turn n σ1 H1 w1)) fun b s2 ⟨H2,I2,q2⟩=>?_)
 cases b with
 | true =>
  obtain ⟨N,hN,q2⟩:=q2
  rw [if_pos rfl]
  refine wpAny_passesOwn hp (thn (hb pins s2 σ1 H2 _ I2 q2) fun f s3 q3=>?_)
  cases f with
  | next =>
   obtain ⟨σ3,H3,I3,n3⟩:=q3
   obtain ⟨m',hm,w3⟩:=hN σ3 H3 n3
   exact ⟨m',hm,σ3,H3,I3,w3⟩
  | cont =>
   obtain ⟨σ3,H3,I3,n3⟩:=q3
   obtain ⟨m',hm,w3⟩:=hN σ3 H3 n3
   exact ⟨m',hm,σ3,H3,I3,w3⟩
  | brk=>exact q3
  | ret v=>exact q3
 | false =>
  rw [if_neg tX]
  exact wpAny_execs_nil ⟨σ1,H2,I2,q2⟩
end
structure It where
 go:Nat->Hp->Prop
 yld:Nat->Hp->V->Hp->Prop
 stop:Nat->Hp->Prop
def vV (X:Cx)(pins:List (Addr×Obj))(H:Hp)(b:Addr):Prop :=
 H b=none/\b≠X.env.locals/\b∉X.fs/\(b∈X.ex\/X.s₀.heap.objs.size<=b)/\(∀ x c,X.env.cells.lookup x=some c->c≠b)/\∀ p∈X.pn++pins,p.1≠b
theorem Inv.fpOk {X:Cx}{pins:List (Addr×Obj)}{σ:St}{H H':Hp}{s:Shared}{b:Addr}(I:Inv X pins σ H s)(hb:s.heap.objs.size<=b)(hn:H' b=none):vV X pins H' b:=by
 refine ⟨hn,Nat.ne_of_gt (sQ I.lt hb),I.nofs hb,.inr (rC I.sz hb),fun x c e z=>?_,fun p hp z=>?_⟩
 ·obtain ⟨v,q⟩:=I.cell x c e
  exact absurd (sQ q.lt (by rw [z]; exact hb)) (rX _)
 ·exact absurd (sQ (Heap.lt_size (I.pin p hp).1) (by rw [z]; exact hb)) (rX _)
structure Turn (P:Program)(w:World)(K:PySem.W.Frag)(tg:Expr)(J:It)(fp:List Addr)(it:Addr)(tn:Nat->Heap->Prop):Prop where
 mem:it∈fp
 obj:∀ i h,tn i h->∀ b∈fp,∃ o,h.get? b=some o/\∀ v,o.data≠.cell v
 keep:∀ i h h',tn i h->(∀ b∈fp,∀ o,h.get? b=some o->h'.get? b=some o)->tn i h'
 item:∀ (X:Cx),X.prog=P->X.w=w->X.K=K->X.calm=true->∀ (i:Nat) (pins:List (Addr×Obj)) (s:Shared) (σ:St) (H:Hp) (E:Value->Shared->Prop),Inv X pins σ H s->(∀ b∈fp,vV X pins H b)->tn i s.heap->J.go i H ->
  wpAny (model P w) X.A (pyNext (.ref it)) (fun r s1=>∃ u,r=some u /\
   wpAny (model P w) X.A (letOwnedTupleGo tg (.ref it) u) (fun _ s2=>∃ x H',Inv X pins σ H' s2/\RelV x u/\J.yld i H x H'/\tn (i+1) s2.heap/\∀ b∈fp,H' b=none) E s1) E s
 done:∀ (X:Cx),X.prog=P->X.w=w->X.K=K->X.calm=true->∀ (i:Nat) (pins:List (Addr×Obj)) (s:Shared) (σ:St) (H:Hp) (E:Value->Shared->Prop),Inv X pins σ H s->(∀ b∈fp,vV X pins H b)->tn i s.heap->J.stop i H ->
  wpAny (model P w) X.A (pyNext (.ref it)) (fun r s1=>r=none/\Inv X pins σ H s1) E s
 self:∀ (A:Around) (i:Nat) (s:Shared) (Q:Value->Shared->Prop) (E:Value->Shared->Prop),tn i s.heap->Q (.ref it) s->wpAny (model P w) A (pyIter (.ref it)) Q E s
abbrev TI:=St->Hp->(It->Hp->Prop)->Prop
def PIE (X:Cx)(pins:List (Addr×Obj))(σ:St)(tg:Expr)(R:It->Hp->Prop)(itv:Value)(s2:Shared):Prop :=
 ∃ (it:Addr) (fp:List Addr) (tn:Nat->Heap->Prop) (J:It) (H':Hp),itv=.ref it/\Inv X pins σ H' s2/\Turn X.prog X.w X.K tg J fp it tn/\tn 0 s2.heap/\(∀ b∈fp,vV X pins H' b)/\R J H'
def PI (X:Cx)(tg iter:Expr)(wi:TI):Prop :=
 ∀ (pins:List (Addr×Obj)) (s:Shared) (σ:St) (H:Hp) (R:It->Hp->Prop),Inv X pins σ H s->wi σ H R ->
  wpAny (model X.prog X.w) X.A (eval iter X.env) (fun v s1=>wpAny (model X.prog X.w) X.A (pyIter v) (PIE X pins σ tg R) X.xe s1) X.xe s
theorem jE {M:Model}{A:Around}{E:Value->Shared->Prop}{s:Shared}{tg:Expr}{it:Addr}{u:Value}{o:Obj}{n:String}{vs:Array Value}{Q:Unit->Shared->Prop}(ho:s.heap.get? it=some o)(hc:o.cls=.type n)(hd:o.data=.fields vs)
  (hn:["enumerate","zip","dict_itemiterator","dict_reverseitemiterator","odict_iterator","itertools.zip_longest","itertools.pairwise"].contains n=false) (hQ:Q () s):wpAny M A (letOwnedTupleGo tg (.ref it) u) Q E s:=by
 unfold letOwnedTupleGo
 cases tg<;>first
  | exact wpAny_pure hQ
  | (cases u<;>first
    | exact wpAny_pure hQ
    | (refine wpAny_bind (wpAny_load ho ?_);rw [hc,hd];show wpAny M A (if (["enumerate","zip","dict_itemiterator","dict_reverseitemiterator","odict_iterator","itertools.zip_longest","itertools.pairwise"].contains n&&vs[0]?==some (rawInt _))=true then _ else _) Q E s;rw [if_neg (by intro h; rw [hn,rG] at h; cases h)];exact wpAny_pure hQ))
def Itl (K:PySem.W.Frag)(a:Addr):It :=
 ⟨fun i H=>∃ xs x,SqL K H a xs/\xs[i]?=some x,fun i H x H'=>H'=H/\∀ xs,SqL K H a xs->xs[i]?=some x,fun i H=>∃ xs,SqL K H a xs/\xs.length<=i⟩
def Itt (K:PySem.W.Frag)(a:Addr):It :=
 ⟨fun i H=>∃ xs x,SqT K H a xs/\xs[i]?=some x,fun i H x H'=>H'=H/\∀ xs,SqT K H a xs->xs[i]?=some x,fun i H=>∃ xs,SqT K H a xs/\xs.length<=i⟩
def Itr (lo:Int)(n:Nat):It:=⟨fun i _=>i<n,fun i H x H'=>H'=H/\x=.int (lo+i),fun i _=>n<=i⟩
theorem Vf {P:Program}{w:World}{K:PySem.W.Frag}{tg:Expr}(a it:Addr):Turn P w K tg (Itl K a) [it] it (fun i h=>h.IsListIter it a i) where
 mem:=by simp
 obj:=fun i h st b hb=>by
  have e:b=it:=by simpa using hb
  subst e
  obtain ⟨o,e,c,d⟩:=st
  exact ⟨o,e,fun v z=>by rw [d] at z; cases z⟩
 keep:=fun i h h' st k=>st.at fun o e=>k it (by simp) o e
 item:=by
  intro X hP hw hK hc i pins s σ H E I hf st hg
  subst hP hw hK
  obtain ⟨xs,x,hq,hx⟩:=hg
  obtain ⟨its,rv,p,hz⟩:=I.list hq
  obtain ⟨u,hu,ru⟩:=rv.get hx
  obtain ⟨f0,f1,f2,f3,f4,f5⟩:=hf it (by simp)
  refine wpAny_pyNext_list_item st p.isList (x:=u) (by simpa using hu) fun h' st' sb=>?_
  have I1:Inv X pins σ H { s with heap:=h' }:=I.turned (t':=s.toks) (fun b o hb e=>(sb.2 b hb).trans e) f0 f1 f3 f4 f5
  obtain ⟨o,e,c,d⟩:=id st'
  exact ⟨u,rfl,jE (s:={ s with heap:=h' }) e c d (by decide) ⟨x,H,I1,ru,⟨rfl,fun ys hy=>by rw [I.list_inj hy hq]; exact hx⟩,st',fun b hb=>(hf b hb).1⟩⟩
 done:=by
  intro X hP hw hK hc i pins s σ H E I hf st hg
  subst hP hw hK
  obtain ⟨xs,hq,hx⟩:=hg
  obtain ⟨its,rv,p,hz⟩:=I.list hq
  obtain ⟨f0,f1,f2,f3,f4,f5⟩:=hf it (by simp)
  have hl:=rv.length
  exact wpAny_pyNext_list_end (I.ok.hd hc) st p.isList (by simp; omega) fun h' eb=>⟨rfl,I.turned (t':=s.toks) (fun b o hb e=>eb b o hb e) f0 f1 f3 f4 f5⟩
 self:=fun _ _ _ _ _ st h=>wpAny_pyIter_listiter st h
theorem XE {P:Program}{w:World}{K:PySem.W.Frag}{tg:Expr}(a it:Addr):Turn P w K tg (Itt K a) [it] it (fun i h=>h.IsTupleIter it a i) where
 mem:=by simp
 obj:=fun i h st b hb=>by
  have e:b=it:=by simpa using hb
  subst e
  obtain ⟨o,e,c,d⟩:=st
  exact ⟨o,e,fun v z=>by rw [d] at z; cases z⟩
 keep:=fun i h h' st k=>st.at fun o e=>k it (by simp) o e
 item:=by
  intro X hP hw hK hc i pins s σ H E I hf st hg
  subst hP hw hK
  obtain ⟨xs,x,hq,hx⟩:=hg
  obtain ⟨its,rv,p,hz⟩:=I.tuple hq
  obtain ⟨u,hu,ru⟩:=rv.get hx
  obtain ⟨f0,f1,f2,f3,f4,f5⟩:=hf it (by simp)
  refine wpAny_pyNext_tuple_item st (show s.heap.IsTuple a its.toArray from p) (x:=u) (by simpa using hu) fun h' st' sb=>?_
  have I1:Inv X pins σ H { s with heap:=h' }:=I.turned (t':=s.toks) (fun b o hb e=>(sb.2 b hb).trans e) f0 f1 f3 f4 f5
  obtain ⟨o,e,c,d⟩:=id st'
  exact ⟨u,rfl,jE (s:={ s with heap:=h' }) e c d (by decide) ⟨x,H,I1,ru,⟨rfl,fun ys hy=>by rw [I.tuple_inj hy hq]; exact hx⟩,st',fun b hb=>(hf b hb).1⟩⟩
 done:=by
  intro X hP hw hK hc i pins s σ H E I hf st hg
  subst hP hw hK
  obtain ⟨xs,hq,hx⟩:=hg
  obtain ⟨its,rv,p,hz⟩:=I.tuple hq
  obtain ⟨f0,f1,f2,f3,f4,f5⟩:=hf it (by simp)
  have hl:=rv.length
  exact wpAny_pyNext_tuple_end (I.ok.hd hc) st (show s.heap.IsTuple a its.toArray from p) (by simp; omega) fun h' eb=>⟨rfl,I.turned (t':=s.toks) (fun b o hb e=>eb b o hb e) f0 f1 f3 f4 f5⟩
 self:=fun _ _ _ _ _ st h=>wpAny_pyIter_tupleiter st h
theorem X7 {P:Program}{w:World}{K:PySem.W.Frag}{tg:Expr}(it:Addr)(lo:Int)(n:Nat):Turn P w K tg (Itr lo n) [it] it (fun i h=>IsRangeIter h it (lo+(i:Nat)*1) ((n:Int)-(i:Nat)) 1) where
 mem:=by simp
 obj:=fun i h st b hb=>by
  have e:b=it:=by simpa using hb
  subst e
  exact ⟨_,st,fun v z=>by
   have z':Data.fields _=Data.cell v:=z
   cases z'⟩
 keep:=fun i h h' st k=>k it (by simp) _ st
 item:=by
  intro X hP hw hK hc i pins s σ H E I hf st hg
  subst hP hw hK
  obtain ⟨f0,f1,f2,f3,f4,f5⟩:=hf it (by simp)
  have W:=Walks.range (prog:=X.prog) (w:=X.w) (I.ok.hd hc) it lo 1 n
  refine W.item i s _ _ hg st fun v h' tk hv st' kk=>?_
  obtain ⟨t,rfl⟩:=hv
  have I1:Inv X pins σ H { s with heap:=h',toks:=tk }:=I.turned (fun b o hb e=>kk b o (by simpa using hb) e) f0 f1 f3 f4 f5
  refine ⟨_,rfl,jE (s:={ s with heap:=h',toks:=tk }) (n:="range_iterator") st' rfl rfl (by decide) ⟨.int (lo+i),H,I1,⟨t,?_⟩,⟨rfl,rfl⟩,st',fun b hb=>(hf b hb).1⟩⟩
  rw [Int.mul_one]
 done:=by
  intro X hP hw hK hc i pins s σ H E I hf st hg
  subst hP hw hK
  obtain ⟨f0,f1,f2,f3,f4,f5⟩:=hf it (by simp)
  exact wpAny_pyNext_range_end (I.ok.hd hc) st (by have:n<=i:=hg; omega) fun h' eb=>⟨rfl,I.turned (t':=s.toks) (fun b o hb e=>eb b o hb e) f0 f1 f3 f4 f5⟩
 self:=fun _ _ _ _ _ st h=>wpAny_pyIter_rangeiter st h
section
variable {X:Cx}{tg:Expr}
def z0v (K:PySem.W.Frag)(tl:TE):TI:=fun σ H R=>tl σ H fun x H1=>∃ a,x=.ref a/\(∃ xs,SqL K H1 a xs)/\R (Itl K a) H1
def z2W (K:PySem.W.Frag)(tl:TE):TI:=fun σ H R=>tl σ H fun x H1=>∃ a,x=.ref a/\(∃ xs,SqT K H1 a xs)/\R (Itt K a) H1
theorem Ki {l:Expr}{tl:TE}(hl:PE X l tl):PI X tg l (z0v X.K tl):=by
 intro pins s σ H R I h
 refine thn (hl pins s σ H _ I h) fun v s1 ⟨x,H1,I1,r1,q1⟩=>?_
 obtain ⟨a,e,⟨xs,hq⟩,q⟩:=q1
 subst e
 cases r1
 obtain ⟨its,rv,p,hz⟩:=I1.list hq
 refine wpAny_pyIter_list p.isList ?_
 refine ⟨s1.heap.objs.size,[s1.heap.objs.size],_,_,H1,rfl,I1.kept (t':=s1.toks) fun b o e=>Heap.get?_push_of_some _ e,Vf a _,⟨_,Heap.get?_push_size _ rfl,rfl,rfl⟩,fun b hb=>?_,q⟩
 have e:b=s1.heap.objs.size:=by simpa using hb
 subst e
 exact I1.fpOk (tY _) (I1.hok.fresh (tY _))
theorem z28 {l:Expr}{tl:TE}(hl:PE X l tl):PI X tg l (z2W X.K tl):=by
 intro pins s σ H R I h
 refine thn (hl pins s σ H _ I h) fun v s1 ⟨x,H1,I1,r1,q1⟩=>?_
 obtain ⟨a,e,⟨xs,hq⟩,q⟩:=q1
 subst e
 cases r1
 obtain ⟨its,rv,p,hz⟩:=I1.tuple hq
 refine wpAny_pyIter_tuple (show s1.heap.IsTuple a its.toArray from p) ?_
 refine ⟨s1.heap.objs.size,[s1.heap.objs.size],_,_,H1,rfl,I1.kept (t':=s1.toks) fun b o e=>Heap.get?_push_of_some _ e,XE a _,⟨_,Heap.get?_push_size _ rfl,rfl,rfl⟩,fun b hb=>?_,q⟩
 have e:b=s1.heap.objs.size:=by simpa using hb
 subst e
 exact I1.fpOk (tY _) (I1.hok.fresh (tY _))
theorem YN {pins:List (Addr×Obj)}{σ:St}{H:Hp}{s:Shared}{R:It->Hp->Prop}{E:Value->Shared->Prop}{lo hi:Int}{t u v:Tok}{tk:Nat}(I:Inv X pins σ H s)(h1:-(2 ^ 62)<=lo)(h2:lo<2 ^ 62)(h3:-(2 ^ 62)<=hi)(h4:hi<2 ^ 62)
  (q:R (Itr lo (hi-lo).toNat) H):wpAny (model X.prog X.w) X.A (pyIter (.ref s.heap.objs.size)) (PIE X pins σ tg R) E { s with heap:=s.heap.push { cls:=.type "range",data:=.fields #[.int lo t,.int hi u,.int 1 v] },toks:=tk }:=by
 refine wpAny_pyIter_range (IsRange.new ..) (small_one h1 h2 h3 h4) ?_
 have I1:Inv X pins σ H { s with heap:=s.heap.push { cls:=.type "range",data:=.fields #[.int lo t,.int hi u,.int 1 v] },toks:=tk }:=I.kept fun b o e=>Heap.get?_push_of_some _ e
 refine ⟨(s.heap.push { cls:=.type "range",data:=.fields #[.int lo t,.int hi u,.int 1 v] }).objs.size,[(s.heap.push { cls:=.type "range",data:=.fields #[.int lo t,.int hi u,.int 1 v] }).objs.size],_,_,H,rfl,
  I1.kept (t':=tk) fun b o e=>Heap.get?_push_of_some _ e,X7 _ lo (hi-lo).toNat,?_,fun b hb=>?_,q⟩
 ·have e1:lo+((0:Nat):Int)*1=lo:=by simp
  have e2:(((hi-lo).toNat:Nat):Int)-((0:Nat):Int)=Builtin.Range.rangeSize lo hi 1:=by rw [rangeSize_one]; split<;>omega
  show IsRangeIter _ _ (lo+((0:Nat):Int)*1) ((((hi-lo).toNat:Nat):Int)-((0:Nat):Int)) 1
  rw [e1,e2]
  exact Heap.get?_push_size _ rfl
 ·have e:b=(s.heap.push { cls:=.type "range",data:=.fields #[.int lo t,.int hi u,.int 1 v] }).objs.size:=by simpa using hb
  subst e
  exact I1.fpOk (tY _) (I1.hok.fresh (tY _))
def z4h (ta:TA):TI:=fun σ H R=>ta σ H fun vs H1=>∃ j:Int,vs=[.int j]/\-(2 ^ 62)<=j/\j<2 ^ 62/\R (Itr 0 j.toNat) H1
def z30 (ta:TA):TI:=fun σ H R=>ta σ H fun vs H1=>∃ i j:Int,vs=[.int i,.int j]/\(-(2 ^ 62)<=i/\i<2 ^ 62/\-(2 ^ 62)<=j/\j<2 ^ 62)/\R (Itr i (j-i).toNat) H1
theorem Ve {a:Expr}{ta:TA}{p pos:Pos}(hg:Gl X "range")(hm:X.mg "range"=none)(ha:PA X [a] ta)(hs:autoParam (starEach [a] X.env=[(false,eval a X.env)]) L2.au3._auto_1):PI X tg (.Call (.Name "range" p) [a] [] pos) (z4h ta):=by
 intro pins s σ H R I h
 refine Call_ (ue I hg hm boot_range (PyProof.Rows.callWith_type1 (thn (ha pos pins s σ H _ I h) fun us s1 ⟨vs,H1,I1,r1,q1⟩=>?_) hs rfl))
 obtain ⟨j,e,q1,q2,q⟩:=q1
 subst e
 cases r1 with
 | cons r rr =>
  cases rr
  obtain ⟨t,rfl⟩:=r
  exact call_range_1 (YN I1 (by omega) (by omega) q1 q2 (by simpa using q))
theorem VF {a b:Expr}{ta:TA}{p pos:Pos}(hg:Gl X "range")(hm:X.mg "range"=none)(ha:PA X [a,b] ta)(hs:autoParam (starEach [a,b] X.env=[(false,eval a X.env),(false,eval b X.env)]) L2.au3._auto_1)(hs2:autoParam (starEach [b] X.env=[(false,eval b X.env)]) L2.au3._auto_1) :
  PI X tg (.Call (.Name "range" p) [a,b] [] pos) (z30 ta):=by
 intro pins s σ H R I h
 refine Call_ (ue I hg hm boot_range (PyProof.Rows.callWith_type1 (thn (ha pos pins s σ H _ I h) fun us s1 ⟨vs,H1,I1,r1,q1⟩=>?_) (by rw [hs,hs2]) (by rw [hs2]; rfl)))
 obtain ⟨i,j,e,⟨q1,q2,q3,q4⟩,q⟩:=q1
 subst e
 cases r1 with
 | cons r rr =>
  cases rr with
  | cons r' rr =>
   cases rr
   obtain ⟨t,rfl⟩:=r
   obtain ⟨t',rfl⟩:=r'
   exact call_range_2 (YN I1 q1 q2 q3 q4 q)
def z15 (wi:TI)(g:TG)(tb:TS):TS:=fun D σ H=>wi σ H fun J H1=>∃ W:Nat->Nat->St->Hp->Prop,(∃ m,W 0 m σ H1)/\∀ i m σ H,W i m σ H ->
 (J.stop i H/\D.nx σ H)\/(J.go i H/\∃ N:St->Hp->Prop,(∀ σ' H',N σ' H'->∃ m',m'<m/\W (i+1) m' σ' H')/\∀ x H',J.yld i H x H'->g x σ H' fun σ2 H2=>tb { D with nx:=N,ct:=N,bk:=D.nx } σ2 H2)
def uf (fp:List Addr)(h:Heap):List (Addr×Obj):=fp.filterMap fun b=>(h.get? b).map fun o=>(b,o)
theorem xf {fp:List Addr}{h:Heap}{b:Addr}{o:Obj}(hb:b∈fp)(e:h.get? b=some o):(b,o)∈uf fp h:=pH.mpr ⟨b,hb,by rw [e]; rfl⟩
theorem Vj {fp:List Addr}{h:Heap}{p:Addr×Obj}(hp:p∈uf fp h):p.1∈fp/\h.get? p.1=some p.2:=by
 obtain ⟨b,hb,e⟩:=pH.mp hp
 cases q:h.get? b with
 | none=>rw [q] at e; cases e
 | some o =>
  rw [q] at e
  have e':(b,o)=p:=Option.some.inj e
  subst e'
  exact ⟨hb,q⟩
theorem Inv.pinned {pins:List (Addr×Obj)}{σ:St}{H:Hp}{s:Shared}{fp:List Addr}(I:Inv X pins σ H s)(hf:∀ b∈fp,vV X pins H b)(ho:∀ b∈fp,∃ o,s.heap.get? b=some o/\∀ v,o.data≠.cell v):Inv X (pins++uf fp s.heap) σ H s :=
 I.pins_of fun p hp=>(sE.mp hp).elim (fun z=>I.pin p (tJ _ z)) fun z=>by
  obtain ⟨hb,e⟩:=Vj z
  obtain ⟨f0,f1,f2,_⟩:=hf p.1 hb
  obtain ⟨o,e',d⟩:=ho p.1 hb
  rw [e] at e'; cases e'
  exact ⟨e,f0,f1,f2,d⟩
theorem Inv.unpinned {pins pl:List (Addr×Obj)}{σ:St}{H:Hp}{s:Shared}(I:Inv X (pins++pl) σ H s):Inv X pins σ H s:=I.pins_of fun p hp=>I.pin p (tJ _ (sC _ hp))
theorem z1A {iter:Expr}{body:List Stmt}{wi:TI}{g:TG}{tb:TS}{pos:Pos}(hp:PassesOwn (model X.prog X.w) X.A X.env X.xe)(hc:X.calm=true)(hi:PI X tg iter wi)(hg:PG X tg g)(hb:PSs X body tb)
  (hs:autoParam (∀ x,foldedSetIterable iter X.env x=pure x) L2.au2._auto_1):PS X (.For tg iter body [] pos) (z15 wi g tb):=by
 intro pins s σ H D I h
 refine wpAny_For (thn (hi pins s σ H _ I h) fun v s1 h1=>thn h1 fun itv s2 h2=>?_) hs
 obtain ⟨it,fp,tn,J,H2,e,I2,T,st2,f2,W,⟨m0,w0⟩,turn⟩:=h2
 subst e
 have stat:∀ {H':Hp},(∀ b∈fp,H' b=none)->∀ b∈fp,vV X pins H' b:=fun hn b hb=>⟨hn b hb,(f2 b hb).2⟩
 refine codeAny_forLoop_any (fun n s'=>∃ i σ' H',Inv X pins σ' H' s'/\tn i s'.heap/\(∀ b∈fp,H' b=none)/\W i n σ' H') ?_ m0 ⟨0,σ,H2,I2,st2,fun b hb=>(f2 b hb).1,w0⟩
 rintro n s3 ⟨i,σ3,H3,I3,st3,fr3,w3⟩
 rcases turn i n σ3 H3 w3 with ⟨stop,qn⟩ | ⟨go,N,hN,step⟩
 ·refine wpAny_passesOwn hp (thn (T.done X rfl rfl rfl hc i pins s3 σ3 H3 X.xe I3 (stat fr3) st3 stop) fun r s4 ⟨hr,I4⟩=>?_)
  subst hr
  exact wpAny_execs_nil ⟨σ3,H3,I4,qn⟩
 ·refine wpAny_passesOwn hp (thn (T.item X rfl rfl rfl hc i pins s3 σ3 H3 X.xe I3 (stat fr3) st3 go) fun r s4 ⟨u,hr,h4⟩=>?_)
  subst hr
  refine wpAny_passesOwn hp (thn h4 fun _ s5 ⟨x,H5,I5,r5,y5,st5,fr5⟩=>?_)
  have I5':=I5.pinned (stat fr5) (T.obj _ _ st5)
  refine wpAny_passesOwn hp (thn (hg _ s5 σ3 H5 x u _ I5' r5 (step x H5 y5)) fun _ s6 ⟨σ6,H6,I6,q6⟩=>?_)
  refine wpAny_passesOwn hp (thn (hb _ s6 σ6 H6 _ I6 q6) fun f s7 q7=>?_)
  have again:∀ {σ7:St} {H7:Hp},Inv X (pins++uf fp s5.heap) σ7 H7 s7->N σ7 H7->∃ m,m<n/\∃ i σ' H',Inv X pins σ' H' s7/\tn i s7.heap/\(∀ b∈fp,H' b=none)/\W i m σ' H':=fun {σ7 H7} I7 n7=>by
   obtain ⟨m',hm,w7⟩:=hN σ7 H7 n7
   refine ⟨m',hm,i+1,σ7,H7,I7.unpinned,T.keep _ _ _ st5 fun b hb o e=>(I7.pin (b,o) (tJ _ (tJ _ (xf hb e)))).1,fun b hb=>?_,w7⟩
   obtain ⟨o,e,d⟩:=T.obj _ _ st5 b hb
   exact (I7.pin (b,o) (tJ _ (tJ _ (xf hb e)))).2.1
  cases f with
  | next=>obtain ⟨σ7,H7,I7,n7⟩:=q7; exact again I7 n7
  | cont=>obtain ⟨σ7,H7,I7,n7⟩:=q7; exact again I7 n7
  | brk=>obtain ⟨σ7,H7,I7,q7⟩:=q7; exact ⟨σ7,H7,I7.unpinned,q7⟩
  | ret v=>obtain ⟨x7,σ7,H7,I7,r7,q7⟩:=q7; exact ⟨x7,σ7,H7,I7.unpinned,r7,q7⟩
end
abbrev R2:=V->V->Hp->VK->Prop
def OpR (X:Cx)(f:Value->Value->Sem Value)(r:R2):Prop :=
 ∀ (pins:List (Addr×Obj)) (s:Shared) (σ:St) (H:Hp) (x y:V) (v u:Value) (Q:VK),Inv X pins σ H s->RelV x v->RelV y u->r x y H Q ->
  wpAny (model X.prog X.w) X.A (f v u) (EP X pins σ Q) X.xe s
def UnR (X:Cx)(f:Value->Sem Value)(r:V->Hp->VK->Prop):Prop :=
 ∀ (pins:List (Addr×Obj)) (s:Shared) (σ:St) (H:Hp) (x:V) (v:Value) (Q:VK),Inv X pins σ H s->RelV x v->r x H Q ->
  wpAny (model X.prog X.w) X.A (f v) (EP X pins σ Q) X.xe s
def CallR (X:Cx)(f:Value)(r:List V->Hp->VK->Prop):Prop :=
 ∀ (pins:List (Addr×Obj)) (s:Shared) (σ:St) (H:Hp) (xs:List V) (us:List Value) (Q:VK),Inv X pins σ H s->Vals xs us->r xs H Q ->
  wpAny (model X.prog X.w) X.A (call f us) (EP X pins σ Q) X.xe s
def tOp (r:R2)(ta tb:TE):TE:=fun σ H Q=>ta σ H fun x H1=>tb σ H1 fun y H2=>r x y H2 Q
def tUn (r:V->Hp->VK->Prop)(ta:TE):TE:=fun σ H Q=>ta σ H fun x H1=>r x H1 Q
def rI (C:Int->Int->Prop)(g:Int->Int->V):R2:=fun x y H Q=>∃ i j,x=.int i/\y=.int j/\C i j/\Q (g i j) H
def rI0 (g:Int->Int->V):R2:=fun x y H Q=>∃ i j,x=.int i/\y=.int j/\Q (g i j) H
def rU (g:Int->V):V->Hp->VK->Prop:=fun x H Q=>∃ i,x=.int i/\Q (g i) H
section
variable {X:Cx}{a b c:Expr}{ta tb tc:TE}{pos:Pos}
theorem z2h (ha:PE X a ta)(hb:PE X b tb){pins:List (Addr×Obj)}{s:Shared}{σ:St}{H:Hp}{R:V->V->Hp->Prop}(I:Inv X pins σ H s)
  (h:ta σ H fun x H1=>tb σ H1 fun y H2=>R x y H2) {Q:Value->Shared->Prop} {f:Value->Value->Sem Value}
  (hf:∀ v u s2 x y H2,Inv X pins σ H2 s2->RelV x v->RelV y u->R x y H2->wpAny (model X.prog X.w) X.A (f v u) Q X.xe s2) :
  wpAny (model X.prog X.w) X.A (eval a X.env) (fun v s₁=>wpAny (model X.prog X.w) X.A (eval b X.env) (fun u s₂=>wpAny (model X.prog X.w) X.A (f v u) Q X.xe s₂) X.xe s₁) X.xe s:=by
 refine thn (ha pins s σ H _ I h) fun v s1 ⟨x,H1,I1,r1,q1⟩=>?_
 refine thn (hb pins s1 σ H1 _ I1 q1) fun u s2 ⟨y,H2,I2,r2,q2⟩=>?_
 exact hf v u s2 x y H2 I2 r1 r2 q2
theorem z2P {op:Operator}{r:R2}(ho:OpR X (binaryOp op) r)(ha:PE X a ta)(hb:PE X b tb):PE X (.BinOp a op b pos) (tOp r ta tb):=by
 intro pins s σ H Q I h
 exact wpAny_BinOp (z2h ha hb I h fun v u s2 x y H2 I2 rx ry q=>ho pins s2 σ H2 x y v u Q I2 rx ry q)
theorem z4j {op:UnaryOp}{r:V->Hp->VK->Prop}(ho:UnR X (unaryOp op) r)(ha:PE X a ta):PE X (.UnaryOp op a pos) (tUn r ta):=by
 intro pins s σ H Q I h
 exact UnaryOp_ (thn (ha pins s σ H _ I h) fun v s1 ⟨x,H1,I1,r1,q1⟩=>ho pins s1 σ H1 x v Q I1 r1 q1)
theorem opI {f:Value->Value->Sem Value}{C:Int->Int->Prop}{g:Int->Int->Int}
  (rule:∀ (i j:Int) (t u:Tok) (s:Shared) (Q:Value->Shared->Prop) (E:Value->Shared->Prop),C i j->Q (.int (g i j) s.toks) { s with toks:=s.toks+1 }->wpAny (model X.prog X.w) X.A (f (.int i t) (.int j u)) Q E s) :
  OpR X f (rI C fun i j=>.int (g i j)):=by
 intro pins s σ H x y v u Q I rx ry h
 obtain ⟨i,j,rfl,rfl,hc,q⟩:=h
 obtain ⟨t,rfl⟩:=rx
 obtain ⟨t',rfl⟩:=ry
 exact rule i j t t' s _ _ hc ⟨.int (g i j),H,I.tok _,⟨_,rfl⟩,q⟩
theorem z2E {f:Value->Value->Sem Value}{g:Int->Int->Int}
  (rule:∀ (i j:Int) (t u:Tok) (s:Shared) (Q:Value->Shared->Prop) (E:Value->Shared->Prop),Q (.int (g i j) s.toks) { s with toks:=s.toks+1 }->wpAny (model X.prog X.w) X.A (f (.int i t) (.int j u)) Q E s) :
  OpR X f (rI0 fun i j=>.int (g i j)):=by
 intro pins s σ H x y v u Q I rx ry h
 obtain ⟨i,j,rfl,rfl,q⟩:=h
 obtain ⟨t,rfl⟩:=rx
 obtain ⟨t',rfl⟩:=ry
 exact rule i j t t' s _ _ ⟨.int (g i j),H,I.tok _,⟨_,rfl⟩,q⟩
theorem z2e {f:Value->Value->Sem Value}{g:Int->Int->Bool}
  (rule:∀ (i j:Int) (t u:Tok) (s:Shared) (Q:Value->Shared->Prop) (E:Value->Shared->Prop),Q (.bool (g i j)) s->wpAny (model X.prog X.w) X.A (f (.int i t) (.int j u)) Q E s) :
  OpR X f (rI0 fun i j=>.bl (g i j)):=by
 intro pins s σ H x y v u Q I rx ry h
 obtain ⟨i,j,rfl,rfl,q⟩:=h
 obtain ⟨t,rfl⟩:=rx
 obtain ⟨t',rfl⟩:=ry
 exact rule i j t t' s _ _ ⟨.bl (g i j),H,I,rfl,q⟩
def z3G (i j:Int):Prop:=0<j/\j<1073741824
def CMul (i j:Int):Prop:=(-(2 ^ 64)<i/\i<2 ^ 64)\/(-(2 ^ 64)<j/\j<2 ^ 64)
theorem CMul.ok {i j:Int}(h:CMul i j):IntMulOk i j:=by
 rcases h with ⟨h1,h2⟩ | ⟨h1,h2⟩
 ·exact .of_left (intBits_le_64 h1 h2)
 ·exact .of_right (intBits_le_64 h1 h2)
theorem z2b:OpR X (binaryOp .Add) (rI0 fun i j=>.int (i+j)):=z2E fun _ _ _ _ _ _ _ q=>add_int q
theorem uc:OpR X (binaryOp .Sub) (rI0 fun i j=>.int (i-j)):=z2E fun _ _ _ _ _ _ _ q=>sub_int q
theorem z1Z:OpR X (binaryOp .Mult) (rI CMul fun i j=>.int (i*j)):=opI fun _ _ _ _ _ _ _ hc q=>mul_int q hc.ok
theorem ye:OpR X (binaryOp .FloorDiv) (rI z3G fun i j=>.int (i/j)):=opI fun i j _ _ _ _ _ hc q=>by
 have h1:(0:Int)<j:=hc.1
 have h2:j<1073741824:=hc.2
 exact floordiv_int (by omega) (by rw [Int.fdiv_eq_ediv_of_nonneg i (by omega)]; exact q) (.inl (PyProof.noPylong_small (by omega)))
theorem zP:OpR X (binaryOp .Mod) (rI (fun _ j=>0<j) fun i j=>.int (i%j)):=opI fun i j _ _ _ _ _ hc q=>by
 have h1:(0:Int)<j:=hc
 exact mod_int' (by omega) (by rw [Int.fmod_eq_emod_of_nonneg i (by omega)]; exact q)
theorem unI {f:Value->Sem Value}{g:Int->Int}
  (rule:∀ (i:Int) (t:Tok) (s:Shared) (Q:Value->Shared->Prop) (E:Value->Shared->Prop),Q (.int (g i) s.toks) { s with toks:=s.toks+1 }->wpAny (model X.prog X.w) X.A (f (.int i t)) Q E s) :
  UnR X f (rU fun i=>.int (g i)):=by
 intro pins s σ H x v Q I rx h
 obtain ⟨i,rfl,q⟩:=h
 obtain ⟨t,rfl⟩:=rx
 exact rule i t s _ _ ⟨.int (g i),H,I.tok _,⟨_,rfl⟩,q⟩
theorem z21:UnR X (unaryOp .USub) (rU fun i=>.int (-i)):=unI fun _ _ _ _ _ q=>neg_int q
end
section
variable {X:Cx}{a b c:Expr}{ta tb tc:TE}{pos:Pos}
theorem Jf {pins:List (Addr×Obj)}{σ:St}{H:Hp}{s:Shared}{Q:VK}{k k':Bool}(I:Inv X pins σ H s)(q:Q (.bl k) H)(e:k=k'):EP X pins σ Q (.bool k') s:=by
 subst e
 exact ⟨.bl k,H,I,rfl,q⟩
theorem kZ:OpR X (compareOp .Lt) (rI0 fun i j=>.bl (decide (i<j))):=z2e fun _ _ _ _ _ _ _ q=>lt_int q
theorem z0B:OpR X (compareOp .LtE) (rI0 fun i j=>.bl (decide (i<=j))):=z2e fun _ _ _ _ _ _ _ q=>le_int q
theorem z4c:OpR X (compareOp .GtE) (rI0 fun i j=>.bl (decide (j<=i))):=z2e fun _ _ _ _ _ _ _ q=>ge_int q
theorem z18:OpR X (compareOp .Is) (fun x y H Q=>y=.non/\Q (.bl (decide (x=.non))) H):=by
 intro pins s σ H x y v u Q I rx ry h
 obtain ⟨rfl,q⟩:=h
 cases ry
 refine is_none_gen (Jf I q ?_)
 cases x<;>first
  | (cases rx; rfl)
  | (obtain ⟨t,rfl⟩:=rx; rfl)
theorem WE:OpR X (compareOp .IsNot) (fun x y H Q=>y=.non/\Q (.bl (!decide (x=.non))) H):=by
 intro pins s σ H x y v u Q I rx ry h
 obtain ⟨rfl,q⟩:=h
 cases ry
 refine isnot_none_gen (Jf I q ?_)
 cases x<;>first
  | (cases rx; rfl)
  | (obtain ⟨t,rfl⟩:=rx; rfl)
theorem OpR.or {f:Value->Value->Sem Value}{r r':R2}(h:OpR X f r)(h':OpR X f r'):OpR X f (fun x y H Q=>r x y H Q\/r' x y H Q):=by
 intro pins s σ H x y v u Q I rx ry q
 rcases q with q | q
 ·exact h pins s σ H x y v u Q I rx ry q
 ·exact h' pins s σ H x y v u Q I rx ry q
theorem zS (b:Expr){op:CmpOp}(h:autoParam (op≠.In) L2.au1._auto_1)(h2:autoParam (op≠.NotIn) L2.au1._auto_1):behindInMarks op b=false:=by
 have e1:(op==CmpOp.In)=false:=by cases op<;>first | rfl | exact absurd rfl h
 have e2:(op==CmpOp.NotIn)=false:=by cases op<;>first | rfl | exact absurd rfl h2
 cases b with
 | Set elts k _ =>
  show (k==0&&(op==.In||op==.NotIn)&&elts.all (constantsAlone 8))=false
  rw [e1,e2,Bool.or_self,pT,rG]
 | _=>rfl
theorem JN {op:CmpOp}{r:R2}(ho:OpR X (compareOp op) r)(ha:PE X a ta)(hb:PE X b tb)(hm:behindInMarks op b=false):PE X (.Compare a [op] [b] pos) (tOp r ta tb):=by
 intro pins s σ H Q I h
 exact wpAny_Compare1 (z2h ha hb I h fun v u s2 x y H2 I2 rx ry q=>ho pins s2 σ H2 x y v u Q I2 rx ry q) hm
def WJ (t:TE):TT:=fun σ H Q=>t σ H fun x H'=>∃ k,x=.bl k/\Q k H'
theorem Wy {op:CmpOp}{r:R2}(ho:OpR X (compareOp op) r)(ha:PE X a ta)(hb:PE X b tb)(hm:behindInMarks op b=false):PT X (.Compare a [op] [b] pos) (WJ (tOp r ta tb)):=by
 intro pins s σ H Q I h
 refine wpAny_isTrue_Compare1 (thn (ha pins s σ H _ I h) fun v s1 ⟨x,H1,I1,r1,q1⟩=>thn (hb pins s1 σ H1 _ I1 q1) fun u s2 ⟨y,H2,I2,r2,q2⟩ =>
  thn (ho pins s2 σ H2 x y v u _ I2 r1 r2 q2) fun c s3 ⟨z,H3,I3,r3,k,e,q3⟩=>?_) hm
 subst e
 cases r3
 exact wpAny_truthy_bool ⟨H3,I3,q3⟩
def QT (r r':R2)(ta tb tc:TE):TE:=fun σ H Q=>ta σ H fun x H1=>tb σ H1 fun y H2=>r x y H2 fun z H3=>∃ k,z=.bl k /\
 (if k=true then tc σ H3 fun w' H4=>r' y w' H4 Q else Q (.bl false) H3)
theorem Qs {op op':CmpOp}{r r':R2}(ho:OpR X (compareOp op) r)(ho':OpR X (compareOp op') r')(ha:PE X a ta)(hb:PE X b tb)(hc:PE X c tc)
  (hm:autoParam (lastMarks [op,op'] [b,c]=false) L2.au4._auto_1):PT X (.Compare a [op,op'] [b,c] pos) (WJ (QT r r' ta tb tc)):=by
 intro pins s σ H Q I h
 refine isTrue_chain (thn (ha pins s σ H _ I h) fun v s1 ⟨x,H1,I1,r1,q1⟩=>test_link (thn (hb pins s1 σ H1 _ I1 q1) fun u s2 ⟨y,H2,I2,r2,q2⟩ =>
  thn (ho pins s2 σ H2 x y v u _ I2 r1 r2 q2) fun d s3 ⟨z,H3,I3,r3,k,e,q3⟩=>?_)) hm
 subst e
 cases r3
 refine wpAny_truthy_bool ?_
 cases k with
 | false =>
  obtain ⟨k',e',q'⟩:=q3
  cases e'
  exact ite_ff ⟨H3,I3,q'⟩
 | true =>
  refine ite_tt (test_last (thn (hc pins s3 σ H3 _ I3 q3) fun w' s4 ⟨z',H4,I4,r4,q4⟩=>thn (ho' pins s4 σ H4 y z' u w' _ I4 r2 r4 q4) fun d' s5 ⟨z2,H5,I5,r5,k2,e2,q5⟩=>?_))
  subst e2
  cases r5
  exact wpAny_truthy_bool ⟨H5,I5,q5⟩
theorem qr:(sizeLine:Nat)<2 ^ 63:=by rw [sizeLine_eq]; decide
theorem XF:OpR X (binaryOp .Add) (fun x y H Q=>∃ i j,x=.str i/\y=.str j/\i.length+j.length<=sizeLine/\Q (.str (i++j)) H):=by
 intro pins s σ H x y v u Q I rx ry h
 obtain ⟨i,j,rfl,rfl,hz,q⟩:=h
 obtain ⟨t,rfl⟩:=rx
 obtain ⟨t',rfl⟩:=ry
 exact add_str (fun t' tk=>⟨.str (i++j),H,I.tok _,⟨_,rfl⟩,q⟩) hz
theorem Ym:OpR X (inplaceOp .Add) (fun x y H Q=>∃ i j,x=.str i/\y=.str j/\i.length+j.length<=sizeLine/\Q (.str (i++j)) H):=by
 intro pins s σ H x y v u Q I rx ry h
 obtain ⟨i,j,rfl,rfl,hz,q⟩:=h
 obtain ⟨t,rfl⟩:=rx
 obtain ⟨t',rfl⟩:=ry
 exact iadd_str (fun t' tk=>⟨.str (i++j),H,I.tok _,⟨_,rfl⟩,q⟩) hz
theorem wZ {x:V}{us:List Value}(r:Vals [x] us):∃ u,us=[u]/\RelV x u:=by
 cases r with
 | cons r1 r2=>cases r2; exact ⟨_,rfl,r1⟩
theorem Uz {x y:V}{us:List Value}(r:Vals [x,y] us):∃ u w',us=[u,w']/\RelV x u/\RelV y w':=by
 cases r with
 | cons r1 r2 =>
  cases r2 with
  | cons r3 r4=>cases r4; exact ⟨_,_,rfl,r1,r3⟩
theorem Vw (hc:X.calm=true):CallR X (.builtin "max") (fun xs H Q=>∃ i j,xs=[.int i,.int j]/\Q (.int (if j>i then j else i)) H):=by
 intro pins s σ H xs us Q I r h
 obtain ⟨i,j,rfl,q⟩:=h
 obtain ⟨u,w',rfl,⟨t,rfl⟩,⟨t',rfl⟩⟩:=Uz r
 refine max_two_ints (I.ok.hd hc) fun h' tk k=>⟨_,H,I.kept k,?_,q⟩
 by_cases hj:j>i
 ·rw [if_pos hj,if_pos hj]; exact ⟨_,rfl⟩
 ·rw [if_neg hj,if_neg hj]; exact ⟨_,rfl⟩
theorem V7:CallR X (.type "int") (fun xs H Q=>(∃ i,xs=[.int i]/\Q (.int i) H)\/∃ k,xs=[.bl k]/\Q (.int (if k then 1 else 0)) H):=by
 intro pins s σ H xs us Q I r h
 rcases h with ⟨i,rfl,q⟩ | ⟨k,rfl,q⟩
 ·obtain ⟨u,rfl,t,rfl⟩:=wZ r
  exact call_int_int ⟨.int i,H,I,⟨_,rfl⟩,q⟩
 ·obtain ⟨u,rfl,r1⟩:=wZ r
  cases r1
  exact call_int_bool ⟨.int (if k then 1 else 0),H,I.tok _,⟨_,rfl⟩,q⟩
end
structure ObjM (h:Heap)(x dx C:Addr)(mA:Str->Option Value):Prop where
 obj:h.get? x=some (PySem.W.instObj C dx)
 ns:h.Ns1 dx mA
 ne:dx≠x
theorem V8 {h:Heap}{dx:Addr}{mA:Str->Option Value}(n:h.Ns1 dx mA):∃ od,h.get? dx=some od/\∀ name,PySem.W.lookIn name od=some (mA name):=by
 obtain ⟨o,es,ep,ho,hd,hk,_,hm⟩:=n
 refine ⟨o,ho,fun name=>?_⟩
 have e:=hm name
 unfold nsFind findBy at e
 rw [<- Array.find?_toList] at e
 unfold PySem.W.lookIn
 rw [hd]
 dsimp only
 split
 ·rename_i y q
  rw [q] at e
  exact congrArg some e
 ·rename_i q
  rw [q] at e
  have a:es.toList.any (·.refKey)=false:=by
   rw [List.any_eq_false]
   intro y hy
   obtain ⟨z,t,hkey⟩:=hk y (Array.mem_toList_iff.mp hy)
   simp [DictEntry.refKey,hkey]
  have a':¬ es.toList.any (·.refKey)=true:=by rw [a]; exact tX
  rw [if_neg a']
  exact congrArg some e
theorem ObjM.look {h:Heap}{x dx C:Addr}{mA:Str->Option Value}(I:ObjM h x dx C mA):∃ od,PySem.W.InstAt h x (PySem.W.instObj C dx) C (some od)/\∀ name,PySem.W.lookIn name od=some (mA name) :=
 let ⟨od,ho,hl⟩:=V8 I.ns
 ⟨od,⟨I.obj,rfl,rfl,ho⟩,hl⟩
section
variable {prog:Program}{w:World}{A:Around}{E:Value->Shared->Prop}{s:Shared}{K:PySem.W.Frag}{x dx C f:Addr}{mA:Str->Option Value}{name:Str}{v:Value}
end
theorem RelO.some_of {v:V}{o:Option Value}(r:RelO (some v) o):∃ u,o=some u/\RelV v u:=by
 cases o with
 | none=>exact (show False from r).elim
 | some u=>exact ⟨u,rfl,r⟩
section
variable {P:Program}{w:World}{H H':Hp}{h h':Heap}{a C dx:Addr}{fs fs':List (Str×V)}
theorem JA (hok:HOk P w H h)(e:H a=some (.ins C dx fs)):∃ mA,ObjM h a dx C mA/\(∀ f,RelO (fs.lookup f) (mA f))/\PySem.Within mA (fs.map (·.1))/\fs.length<=1000/\H dx=some (.own a):=by
 obtain ⟨d,z,ne,ob,mA,n,r,q⟩:=(show ObjOk P w H h a (.ins C dx fs) from hok a _ e)
 exact ⟨mA,⟨ob,n,ne⟩,r,q,z,d⟩
end
structure Cls (K:PySem.W.Frag)(C:Addr):Prop where
 pg:PySem.W.plainGet K C Str.empty=true
 hd:PySem.W.hasDictIn K C=true
 po:PySem.W.plainOver K C=true
 sa:PySem.W.findIn K (.ref C) "__setattr__"=some (some (.builtin "object.__setattr__"))
theorem Cls.get {K:PySem.W.Frag}{C:Addr}(c:Cls K C)(f:Str):PySem.W.plainGet K C f=true:=c.pg
structure Con (K:PySem.W.Frag)(C:Addr)(f:Str)(v:V)(u:Value):Prop where
 at_:PySem.W.findIn K (.ref C) f=some (some u)
 rel:RelV v u
 get:PySem.W.specialIn K u "__get__"=some none
 cp:PySem.W.copiedNames.contains f=false
structure Meth (K:PySem.W.Frag)(C:Addr)(m:Str)(f:Addr):Prop where
 at_:PySem.W.findIn K (.ref C) m=some (some (.ref f))
 fn:PySem.W.isFn K (.ref f)=true
 kp:PySem.W.keepIn K (.ref f)=true
section
variable {X:Cx}{pins:List (Addr×Obj)}{σ:St}{H:Hp}{s:Shared}{a C dx:Addr}{fs:List (Str×V)}{f:Str}{v:V}{A:Around}{E:Value->Shared->Prop}
end
section
variable {X:Cx}{o e value:Expr}{f:Str}{pos pos' tpos:Pos}{ta tv:TE}
end
section
variable {X:Cx}{pins:List (Addr×Obj)}{σ:St}{H:Hp}{s:Shared}{A:Around}{E:Value->Shared->Prop}{Q:Value->Shared->Prop}{c:Value}{b:Bool}
inductive TyOf (K:PySem.W.Frag) (H:Hp):V->Value->Prop where
 | non:TyOf K H .non (.type "NoneType")
 | bl (x:Bool):TyOf K H (.bl x) (.type "bool")
 | int (i:Int):TyOf K H (.int i) (.type "int")
 | str (x:Str):TyOf K H (.str x) (.type "str")
 | flt (x:UInt64):TyOf K H (.flt x) (.type "float")
 | lst {a:Addr} {xs:List V} (e:H a=some (.lst xs)):TyOf K H (.ref a) (.type "list")
 | frz {a:Addr} {o:Obj} {xs:List V} (e:H a=some (.frz o (.lst xs))):TyOf K H (.ref a) (.type "list")
 | tup {a:Addr} {xs:List V} (e:H a=some (.tup xs)):TyOf K H (.ref a) (.type "tuple")
 | dK {a:Addr} {kvs:List (Key×V)} (e:H a=some (.dK kvs)):TyOf K H (.ref a) (.type "dict")
 | dT {a:Addr} {kvs:List (List Key×V)} (e:H a=some (.dT kvs)):TyOf K H (.ref a) (.type "dict")
 | ins {a C dx:Addr} {fs:List (Str×V)} (e:H a=some (.ins C dx fs)) (cl:Cls K C) (ha:PySem.W.findIn K (.ref C) "__class__"=some (some (.builtin "object.__class__")))
   (hn:PySem.W.specialIn K (.builtin "object.__class__") "__get__"=some (some (.builtin "getset_descriptor.__get__"))) (htk:PySem.W.takesIn K (.builtin "object.__class__")=some true)
   (hm:PySem.W.mroIn K C (.type "object")=some true):TyOf K H (.ref a) (.ref C)
theorem xN {x:V}{u t:Value}(I:Inv X pins σ H s)(rx:RelV x u)(ty:TyOf X.K H x t)(e:PySem.W.kitOne X.K t c=some b)(h:∀ tk,Q (.bool b) { s with toks:=tk }) :
  wpAny (model X.prog X.w) A (call (.builtin "isinstance") [u,c]) Q E s:=by
 cases ty with
 | non=>cases (show u=Value.none from rx); exact PySem.W.kia_one PySem.W.kitx_none I.kIn True.intro e (fun z=>nomatch z) h
 | bl y=>cases (show u=Value.bool y from rx); exact PySem.W.kia_one PySem.W.kitx_bool I.kIn True.intro e (fun z=>nomatch z) h
 | int i=>obtain ⟨t,q⟩:=(show ∃ t,u=Value.int i t from rx); cases q; exact PySem.W.kia_one PySem.W.kitx_int I.kIn True.intro e (fun z=>nomatch z) h
 | str y=>obtain ⟨t,q⟩:=(show ∃ t,u=Value.str y t from rx); cases q; exact PySem.W.kia_one PySem.W.kitx_str I.kIn True.intro e (fun z=>nomatch z) h
 | flt y=>obtain ⟨t,q⟩:=(show ∃ t,u=Value.float y t from rx); cases q; exact PySem.W.kia_one PySem.W.kitx_float I.kIn True.intro e (fun z=>nomatch z) h
 | @lst a xs ea =>
  cases (show u=Value.ref a from rx)
  obtain ⟨_,_,n,_,h1⟩:=(show ObjOk X.prog X.w H s.heap a (.lst xs) from I.hok a _ ea)
  exact PySem.W.kia_one PySem.W.kitx_list I.kIn ⟨_,h1,rfl⟩ e (fun z=>nomatch z) h
 | @frz a ob xs ea =>
  cases (show u=Value.ref a from rx)
  obtain ⟨_,_,_,n,_,h1⟩:=(show ObjOk X.prog X.w H s.heap a (.frz ob (.lst xs)) from I.hok a _ ea)
  exact PySem.W.kia_one PySem.W.kitx_list I.kIn ⟨_,h1,rfl⟩ e (fun z=>nomatch z) h
 | @tup a xs ea =>
  cases (show u=Value.ref a from rx)
  obtain ⟨_,_,_,p⟩:=(show ObjOk X.prog X.w H s.heap a (.tup xs) from I.hok a _ ea)
  obtain ⟨o,h1,h2,_⟩:=p
  exact PySem.W.kia_one PySem.W.kitx_tuple I.kIn ⟨o,h1,h2⟩ e (fun z=>nomatch z) h
 | @dK a kvs ea =>
  cases (show u=Value.ref a from rx)
  obtain ⟨_,_,vs,_,p⟩:=(show ObjOk X.prog X.w H s.heap a (.dK kvs) from I.hok a _ ea)
  obtain ⟨o,es,ep,h1,h2,_⟩:=p
  exact PySem.W.kia_one PySem.W.kitx_dict I.kIn ⟨o,h1,h2.1⟩ e (fun z=>nomatch z) h
 | @dT a kvs ea =>
  cases (show u=Value.ref a from rx)
  obtain ⟨_,_,xs,_,o,es,ep,h1,h2,_⟩:=(show ObjOk X.prog X.w H s.heap a (.dT kvs) from I.hok a _ ea)
  exact PySem.W.kia_one PySem.W.kitx_dict I.kIn ⟨o,h1,h2.1⟩ e (fun z=>nomatch z) h
 | @ins a C dx fs ea cl ha hn htk hm =>
  cases (show u=Value.ref a from rx)
  obtain ⟨mA,O,_⟩:=JA I.hok ea
  obtain ⟨od,J,_⟩:=O.look
  exact PySem.W.kia_one (PySem.W.kitx_own (cl.get _) cl.hd ha hn htk hm) I.kIn J e (fun z=>nomatch z) h
end
structure Room (k:Nat)(A:Around):Prop where
 hd:A.handled=none
 dp:A.depth+3*k+5<recursionLimit
 un:A.units+16*k+200<cLine
theorem Room.mono {j k:Nat}{A:Around}(r:Room k A)(h:j<=k):Room j A:=⟨r.hd,by have:=r.dp; omega,by have:=r.un; omega⟩
theorem Room.deeper {k:Nat}{A:Around}(r:Room (k+1) A)(env:Env):Room k (A.deeper env) :=
 ⟨r.hd,by have:=r.dp; show A.depth+1+3*k+5<_; omega,by have:=r.un; show A.units+3+16*k+200<_; omega⟩
theorem Room.in1 {k:Nat}{A:Around}(r:Room (k+1) A):Room k A.in1 :=
 ⟨r.hd,by have:=r.dp; show A.depth+3*k+5<_; omega,by have:=r.un; show A.units+1+16*k+200<_; omega⟩
theorem Room.depth {k:Nat}{A:Around}(r:Room k A):A.depth<recursionLimit:=by have:=r.dp; omega
theorem Room.units {k:Nat}{A:Around}(r:Room k A):A.units+64<cLine:=by have:=r.un; omega
theorem Room.units0 {k:Nat}{A:Around}(r:Room k A):A.units<cLine:=by have:=r.un; omega
def Uo:TA:=fun _ H Q=>Q [] H
def Y4 (ta:TE)(tr:TA):TA:=fun σ H Q=>ta σ H fun x H1=>tr σ H1 fun xs H2=>Q (x::xs) H2
section
variable {X:Cx}{e:Expr}{es:List Expr}{te:TE}{t:TA}{pos:Pos}
theorem qu:PA X [] Uo:=fun _ _ _ _ H Q I h=>Calls.spliced_nil ⟨[],H,I,.nil,h⟩
theorem vm (ha:PE X e te)(hr:PA X es t)(hs:autoParam (starEach (e::es) X.env=(false,eval e X.env)::starEach es X.env) L2.au3._auto_1):PA X (e::es) (Y4 te t):=by
 intro pos pins s σ H Q I h
 rw [hs]
 show wpAny _ _ (spliced ((false,eval e X.env)::backTo pos (starEach es X.env))) _ _ s
 refine Calls.spliced_cons (thn (ha pins s σ H _ I h) fun u s1 ⟨x,H1,I1,r1,q1⟩=>?_)
 exact thn (hr pos pins s1 σ H1 _ I1 q1) fun us s2 ⟨xs,H2,I2,r2,q2⟩=>⟨x::xs,H2,I2,.cons r1 r2,q2⟩
def z4k (t:TA):TE:=fun σ H Q=>t σ H fun xs H1=>xs.length<=sizeLine/\∀ p,H1 p=none->Q (.ref p) (upd H1 p (.tup xs))
def z4i (t:TA):TE:=fun σ H Q=>t σ H fun xs H1=>xs.length<=sizeLine/\∀ p,H1 p=none->Q (.ref p) (upd H1 p (.lst xs))
theorem z13 {x1}(h:PA X es t):PE X (.Tuple es x1 pos) (z4k t):=by
 intro pins s σ H Q I hq
 refine wpAny_Tuple_spliced (thn (h pos pins s σ H _ I hq) fun us s1 ⟨xs,H1,I1,r,z,q⟩=>⟨by rw [<- r.length]; exact z,?_⟩)
 have hf:H1 s1.heap.objs.size=none:=I1.hok.fresh (tY _)
 refine ⟨.ref s1.heap.objs.size,upd H1 s1.heap.objs.size (.tup xs),I1.laid (t':=s1.toks) (fun b u e=>Heap.get?_push_of_some _ e) (tY _) ?_,rfl,q _ hf⟩
 exact ⟨z,us,r,TupN.new _ _⟩
theorem QF (h:PA X es t):PE X (.List es pos) (z4i t):=by
 intro pins s σ H Q I hq
 refine wpAny_List_spliced (thn (h pos pins s σ H _ I hq) fun us s1 ⟨xs,H1,I1,r,z,q⟩=>⟨by rw [<- r.length]; exact z,?_⟩)
 have hf:H1 s1.heap.objs.size=none:=I1.hok.fresh (tY _)
 refine ⟨.ref s1.heap.objs.size,upd H1 s1.heap.objs.size (.lst xs),I1.laid (t':=s1.toks) (fun b u e=>Heap.get?_push_of_some _ e) (tY _) ?_,rfl,q _ hf⟩
 exact ⟨z,us,0,r,Heap.get?_push_size _ rfl⟩
end
abbrev Sp:=List V->Hp->VK->XK->Prop
abbrev CXT:=List Env->Hp->Shared->XK->Value->Shared->Prop
structure Env0 (P:Program)(w:World)(K:PySem.W.Frag)(mg:Str->Option Value)(base:Heap)(A:Around)(outer:List Env)(s:Shared)(H:Hp):Prop where
 frames:A.frames=some outer
 mod:Mod K mg base
 bs:∀ b o,base.get? b=some o->s.heap.get? b=some o/\H b=none
 bsz:base.objs.size<=s.heap.objs.size
 funs:s.heap.FunFrames base outer
 frf:∀ b∈frs outer,H b=none
 hok:HOk P w H s.heap
 bare:AllBare s.gens
def CE (outer:List Env)(P:Program)(w:World)(H:Hp)(s:Shared)(Q:VK)(u:Value)(s':Shared):Prop :=
 ∃ v H',s'.os=s.os/\AllBare s'.gens/\Un (frs outer) [] H H' s.heap s'.heap/\HOk P w H' s'.heap/\RelV v u/\Q v H'
def CR (CX:CXT)(outer:List Env)(P:Program)(w:World)(H:Hp)(s:Shared)(Q:VK)(E:XK)(r:Result)(s':Shared):Prop :=
 match r with
 | .ok (.ret u)=>CE outer P w H s Q u s'
 | .ok _=>False
 | .error e=>CX outer H s E e s'
structure FnOk (P:Program)(w:World)(K:PySem.W.Frag)(mg:Str->Option Value)(base:Heap)(CX:CXT)(k:Nat)(f:Addr)(fd:FuncData)(ps:List Str)(sp:Sp):Prop where
 len:∀ vs H Q E,sp vs H Q E->vs.length=ps.length
 run:∀ (A:Around) (outer:List Env) (s:Shared) (H:Hp) (args:Args) (us:List Value) (vs:List V) (Q:VK) (E:XK),Room k A->Env0 P w K mg base A outer s H->BindsTo s fd args (ps.zip us)->Vals vs us->sp vs H Q E ->
  codeAny (model P w) A (.call (.ref f) args) (CR CX outer P w H s Q E) s
theorem FnOk.mono {P:Program}{w:World}{K:PySem.W.Frag}{mg:Str->Option Value}{base:Heap}{CX:CXT}{j k:Nat}{f:Addr}{fd:FuncData}{ps:List Str}{sp:Sp}(F:FnOk P w K mg base CX j f fd ps sp)(h:j<=k) :
  FnOk P w K mg base CX k f fd ps sp:=⟨F.len,fun A outer s H args us vs Q E hr=>F.run A outer s H args us vs Q E (hr.mono h)⟩
theorem FnOk.imp {P:Program}{w:World}{K:PySem.W.Frag}{mg:Str->Option Value}{base:Heap}{CX:CXT}{k:Nat}{f:Addr}{fd:FuncData}{ps:List Str}{sp sp':Sp}(F:FnOk P w K mg base CX k f fd ps sp)
  (h:∀ vs H Q E,sp' vs H Q E->sp vs H Q E):FnOk P w K mg base CX k f fd ps sp' :=
 ⟨fun vs H Q E q=>F.len vs H Q E (h _ _ _ _ q),fun A outer s H args us vs Q E hr he hb hv hs=>F.run A outer s H args us vs Q E hr he hb hv (h _ _ _ _ hs)⟩
theorem Env0.in1 {P:Program}{w:World}{K:PySem.W.Frag}{mg:Str->Option Value}{base:Heap}{A:Around}{outer:List Env}{s:Shared}{H:Hp}(e:Env0 P w K mg base A outer s H) :
  Env0 P w K mg base A.in1 outer s H:=⟨e.frames,e.mod,e.bs,e.bsz,e.funs,e.frf,e.hok,e.bare⟩
section
variable {X:Cx}{pins:List (Addr×Obj)}{σ:St}{H:Hp}{s s':Shared}
theorem Inv.env0 (I:Inv X pins σ H s):Env0 X.prog X.w X.K X.mg X.base X.A X.stack s H :=
 ⟨I.ok.frames,I.ok.mod,I.bs,rC I.ok.bsz I.sz,I.stack,I.stkFree,I.hok,I.bare⟩
theorem Inv.after {Q:VK}{u:Value}(I:Inv X pins σ H s)(h:CE X.stack X.prog X.w H s Q u s'):EP X pins σ Q u s':=by
 obtain ⟨v,H',os,bare,un,hok,r,q⟩:=h
 obtain ⟨hh,g,d,t,os'⟩:=s'
 obtain rfl:os'=s.os:=os
 exact ⟨v,H',I.call (h':=hh) (g':=g) (d':=d) (t':=t) (ch:=[]) un hok bare (fun b z=>absurd z (by simp)),r,q⟩
end
def WA (sp:Sp)(dvs:List V)(E:XK)(t:TA):TE:=fun σ H Q=>t σ H fun vs H1=>sp (vs++dvs) H1 Q E
def Binds (K:PySem.W.Frag)(fd:FuncData)(ps:List Str)(ds:List Value):Prop :=
 ∀ (s:Shared) (us:List Value),K.In s.heap->(us++ds).length=ps.length->BindsTo s fd ⟨us,[]⟩ (ps.zip (us++ds))
theorem Binds.all {K:PySem.W.Frag}{fd:FuncData}{ps:List Str}(h:∀ us:List Value,us.length=ps.length->bindArgs fd ⟨us,[]⟩=pure (ps.zip us)):Binds K fd ps []:=fun s us _ hl=>by
 rw [sF] at hl ⊢
 exact .of_eq (h us hl)
def qx (CX:CXT)(X:Cx)(E:XK):Prop:=∀ (pins:List (Addr×Obj)) (σ:St) (H:Hp) (s:Shared) (e:Value) (s':Shared),Inv X pins σ H s->CX X.stack H s E e s'->X.xe e s'
section
variable {X:Cx}{CX:CXT}{k:Nat}{f C:Addr}{fd:FuncData}{ps:List Str}{sp:Sp}{dvs:List V}{ds:List Value}{E:XK}{x m:Str}{p pos apos:Pos}{e o:Expr}{es:List Expr}{ta:TE}{t:TA}
theorem z0P {pins:List (Addr×Obj)}{σ:St}{H:Hp}{s:Shared}{Q:VK}{us:List Value}{vs:List V}(F:FnOk X.prog X.w X.K X.mg X.base CX k f fd ps sp)(hr:Room k X.A)(hb:Binds X.K fd ps ds)(hd:Vals dvs ds)(hx:qx CX X E)
  (I:Inv X pins σ H s) (r:Vals vs us) (h:sp (vs++dvs) H Q E):wpAny (model X.prog X.w) X.A (call (.ref f) us) (EP X pins σ Q) X.xe s:=by
 have r2:Vals (vs++dvs) (us++ds):=r.append hd
 have hl:(us++ds).length=ps.length:=by rw [<- r2.length]; exact F.len _ _ _ _ h
 refine wpAny_call (codeAny_mono (F.run X.A X.stack s H ⟨us,[]⟩ (us++ds) (vs++dvs) Q E hr I.env0 (hb s us I.kIn hl) r2 h) fun r s' hq=>?_)
 cases r with
 | error e=>exact hx pins σ H s e s' I hq
 | ok fl =>
  cases fl with
  | ret u=>exact I.after hq
  | next=>exact False.elim hq
  | brk=>exact False.elim hq
  | cont=>exact False.elim hq
theorem JE (F:FnOk X.prog X.w X.K X.mg X.base CX k f fd ps sp)(hr:Room k X.A)(hg:Gl X x)(hm:X.mg x=some (.ref f))(hk:PySem.W.keepIn X.K (.ref f)=true)(hb:Binds X.K fd ps ds)(hd:Vals dvs ds)(hx:qx CX X E)
  (ha:PA X (e::es) t) (hdb:autoParam ((x==("__debug__":Str))=false) L2.au1._auto_1) (he:autoParam (starEach (e::es) X.env=(false,eval e X.env)::starEach es X.env) L2.au3._auto_1) (hpl:autoParam ((backTo pos (starEach es X.env)).any (·.1)=false) L2.au3._auto_1) :
  PE X (.Call (.Name x p) (e::es) [] pos) (WA sp dvs E t):=by
 intro pins s σ H Q I h
 refine wpAny_Call_Name_kw (uP I hg hm ?_ hdb)
 refine PySem.W.callWith_K (h₀:=X.base) I.ok.mod.kin hk (thn (ha pos pins s σ H _ I h) fun us s1 ⟨vs,H1,I1,r,q⟩=>⟨I1.kIn,?_⟩) he hpl
 exact z0P F hr hb hd hx I1 r q
structure Mk (K:PySem.W.Frag)(C f:Addr):Prop where
 makes:PySem.W.makesIn K C=true
 init:PySem.W.findIn K (.ref C) "__init__"=some (some (.ref f))
 fn:PySem.W.isFn K (.ref f)=true
 kp:PySem.W.keepIn K (.ref C)=true
end
section
variable {X:Cx}{CX:CXT}{k:Nat}{f C:Addr}{fd:FuncData}{ps ks:List Str}{sp:Sp}{E:XK}{x m:Str}{p pos apos kpos:Pos}{e o:Expr}{es:List Expr}{kws:List Keyword}{te ta:TE}{t tk:TA}{nm:Option Str}
structure KBinds (K:PySem.W.Frag)(fd:FuncData)(ps ks:List Str)(g:List Value->List Value->List Value)(gV:List V->List V->List V):Prop where
 to:∀ (s:Shared) (us ws:List Value),K.In s.heap->(g us ws).length=ps.length->BindsTo s fd ⟨us,ks.zip ws⟩ (ps.zip (g us ws))
 rel:∀ {vs:List V} {us:List Value} {zs:List V} {ws:List Value},Vals vs us->Vals zs ws->Vals (gV vs zs) (g us ws)
variable {g:List Value->List Value->List Value}{gV:List V->List V->List V}
end
structure FnScope (N P:List Str)(sc:Scope):Prop where
 kind:sc.kind=.function
 co:sc.isCoroutine=false
 gen:sc.isGenerator=false
 nd:N.Nodup
 pre:N.take P.length=P
 par:∀ x∈P,sc.names.lookup x=some .local\/sc.names.lookup x=some .cell
 nofree:∀ y∈sc.names,y.2≠.free
theorem kU {kindOf:Str->Option NameKind}{x:Str}:∀ {binds:List (Str×Value)} {m:Str->Option Value},(∀ v,(x,v)∉binds)->bindL kindOf binds m x=m x
 | [],_,_=>rfl
 | (n,v)::r,m,h=>by
  unfold bindL
  rw [kU fun w hw=>h w (tR _ hw)]
  split
  ·have:x≠n:=by rintro rfl; exact h v tQ
   simp [this]
  ·rfl
theorem kA {kindOf:Str->Option NameKind}{x:Str}:∀ {binds:List (Str×Value)} {m:Str->Option Value},(∀ v,(x,v)∉binds)->bindC kindOf binds m x=m x
 | [],_,_=>rfl
 | (n,v)::r,m,h=>by
  unfold bindC
  rw [kA fun w hw=>h w (tR _ hw)]
  split
  ·rfl
  ·have:x≠n:=by rintro rfl; exact h v tQ
   simp [this]
theorem Z1 {kindOf:Str->Option NameKind}{x:Str}{v:Value}:∀ {P:List Str} {vs:List Value} {i:Nat} {m:Str->Option Value},P.Nodup->P[i]?=some x->vs[i]?=some v->kindOf x=some .local ->
  bindL kindOf (P.zip vs) m x=some v
 | [],_,_,_,_,h,_,_=>by simp at h
 | _::_,[],_,_,_,_,h,_=>by simp at h
 | p::P,w::vs,0,m,nd,h1,h2,hk=>by
  simp at h1 h2; subst h1; subst h2
  show bindL kindOf ((p,w)::P.zip vs) m p=_
  unfold bindL
  rw [kU fun v hv=>(sY.mp nd).1 (List.of_mem_zip hv).1,if_pos hk]
  simp
 | p::P,w::vs,i+1,m,nd,h1,h2,hk=>by
  show bindL kindOf ((p,w)::P.zip vs) m x=_
  unfold bindL
  exact Z1 (i:=i) (sY.mp nd).2 (by simpa using h1) (by simpa using h2) hk
theorem kC {kindOf:Str->Option NameKind}{x:Str}{v:Value}:∀ {P:List Str} {vs:List Value} {i:Nat} {m:Str->Option Value},P.Nodup->P[i]?=some x->vs[i]?=some v->kindOf x≠some .local ->
  bindC kindOf (P.zip vs) m x=some v
 | [],_,_,_,_,h,_,_=>by simp at h
 | _::_,[],_,_,_,_,h,_=>by simp at h
 | p::P,w::vs,0,m,nd,h1,h2,hk=>by
  simp at h1 h2; subst h1; subst h2
  show bindC kindOf ((p,w)::P.zip vs) m p=_
  unfold bindC
  rw [kA fun v hv=>(sY.mp nd).1 (List.of_mem_zip hv).1,if_neg hk]
  simp
 | p::P,w::vs,i+1,m,nd,h1,h2,hk=>by
  show bindC kindOf ((p,w)::P.zip vs) m x=_
  unfold bindC
  exact kC (i:=i) (sY.mp nd).2 (by simpa using h1) (by simpa using h2) hk
def start (N:List Str)(vs:List V):St:=vs.map some++List.replicate (N.length-vs.length) none
def xF (CX:CXT)(P:Program)(w:World)(K:PySem.W.Frag)(mg:Str->Option Value)(base:Heap)(N:List Str)(qual:Str)(scope:Scope)(f:Addr)(cd:Value)(A:Around)(outer:List Env)(s:Shared)(H:Hp)(E:XK):Cx where
 prog:=P
 w:=w
 K:=K
 mg:=mg
 base:=base
 A:=A.deeper (envOfC qual scope s.heap.objs.size f cd)
 N:=N
 s₀:=s
 H₀:=H
 env:=envOfC qual scope s.heap.objs.size f cd
 outer:=outer
 stack:=envOfC qual scope s.heap.objs.size f cd::outer
 ex:=[]
 calm:=true
 fn:=fun _=>true
 pn:=[]
 xe:=fun e s'=>wpAny (model P w) (A.deeper (envOfC qual scope s.heap.objs.size f cd)) (leaving (envOfC qual scope s.heap.objs.size f cd) e) (fun _ s''=>CX outer H s E e s'') (fun e' s''=>CX outer H s E e' s'') s'
theorem jB {sc:Scope}{n:Nat}{x:Str}(h:sc.names.lookup x=some .cell):∃ c,(cellsFrom n sc.names []).lookup x=some c:=by
 have q:=PySem.W.cellsFrom_some sc.names n [] (.inl h)
 exact Option.isSome_iff_exists.mp q
theorem kH {CX:CXT}{P:Program}{w:World}{K:PySem.W.Frag}{mg:Str->Option Value}{base:Heap}{N ps:List Str}{qual:Str}{scope:Scope}{f:Addr}{cd:Value}{A:Around}{outer:List Env}{s s1:Shared}{H:Hp}{E:XK}{us:List Value}{vs:List V}
  (S:FnScope N ps scope) (hd:A.handled=none) (e0:Env0 P w K mg base A outer s H) (hl:vs.length=ps.length) (r:Vals vs us)
  (x:InCallC s s.heap.objs.size (bindL (envOfC qual scope s.heap.objs.size f cd).kindOf (ps.zip us) fun _=>none) (cellsFrom (s.heap.objs.size+1) scope.names []) (bindC (envOfC qual scope s.heap.objs.size f cd).kindOf (ps.zip us) fun _=>none) s1) :
  Inv (xF CX P w K mg base N qual scope f cd A outer s H E) [] (start N vs) H s1:=by
 have hpl:ps.length<=N.length:=by have:=congrArg List.length S.pre; rw [sW] at this; omega
 obtain ⟨h1,tk,rfl,hk⟩:=x.done
 have noA:∀ b:Addr,b∉(xF CX P w K mg base N qual scope f cd A outer s H E).ex:=fun b z=>absurd (show b∈([]:List Addr) from z) (by simp)
 refine ⟨⟨e0.mod,S.kind,rfl,rfl,tY _,fun y z c h1 h2=>?_,fun y hy=>?_,fun y c _ h=>?_,fun _=>hd,Around.frames_deeper e0.frames,.inr ⟨rfl,rfl⟩,fun b z=>absurd z (noA b),e0.bs,e0.bsz,fun b _ _=>noA b,fun b z=>absurd z (noA b),e0.funs,e0.frf⟩,
  rfl,e0.bare,Un.kept hk,⟨_,x.toInCall.ns,fun i y v h1 h2 h3=>?_⟩,fun y c h=>⟨_,x.cell y c h⟩,e0.hok.fresh (tY _),fun y c h=>?_,fun p hp=>absurd (show p∈([]:List (Addr×Obj)) from hp) (by simp),e0.hok.kept hk,?_⟩
 ·exact name_of_addr x.apart (PySem.mem_of_lookup h1) (PySem.mem_of_lookup h2)
 ·have hy:scope.names.lookup y=some .cell\/scope.names.lookup y=some .free:=hy
  rcases hy with hy | hy
  ·exact jB hy
  ·exact absurd rfl (S.nofree _ (PySem.mem_of_lookup hy))
 ·exact Nat.le_of_lt (x.above y c (PySem.mem_of_lookup h))
 ·have hi:i<vs.length:=by
   unfold start at h2
   by_cases hi:i<vs.length
   ·exact hi
   ·rw [pJ (by simpa using hi)] at h2
    rw [pP] at h2
    split at h2<;>cases h2
  have ha:vs[i]?=some v:=by
   unfold start at h2
   rw [rP (by simpa using hi),sM] at h2
   cases e:vs[i]? with
   | none=>rw [e] at h2; cases h2
   | some a=>rw [e] at h2; cases h2; rfl
  obtain ⟨u,hu,rv⟩:=r.get ha
  have hp:ps[i]?=some y:=by
   rw [<- S.pre,List.getElem?_take_of_lt (by omega)]; exact h1
  have ndP:ps.Nodup:=by rw [<- S.pre]; exact S.nd.sublist (List.take_sublist _ _)
  refine ⟨u,rv,?_⟩
  rcases S.par y (pL hp) with k | k
  ·exact .inl ⟨k,Z1 ndP hp hu k⟩
  ·obtain ⟨c,e⟩:=jB (n:=s.heap.objs.size+1) k
   refine .inr ⟨.inl k,c,e,?_⟩
   have q:=x.cell y c e
   rw [kC ndP hp hu (by show scope.names.lookup y≠_; rw [k]; decide)] at q
   exact q
 ·exact e0.hok.fresh (Nat.le_of_lt (x.above y c (PySem.mem_of_lookup h)))
 ·unfold start
  show _=N.length
  rw [tN,tP,rY]
  omega
theorem VQ {CX:CXT}{P:Program}{w:World}{K:PySem.W.Frag}{mg:Str->Option Value}{base:Heap}{k:Nat}{f:Addr}{name qual:Str}{params:Arguments}{body:List Stmt}{scope:Scope}{dV kV doc pm cdv ct oc:Value}{an od:Option Addr}
  {osl:Array (Option Value)} {N ps:List Str} {sp:Sp} (lk:K.lookup f=some ⟨oc,od,.func (PySem.W.fnOf name qual params body scope dV kV doc pm an cdv ct),osl⟩) (hcd:PySem.W.codeIn K cdv qual=true) (S:FnScope N ps scope)
  (len:∀ vs H Q E,sp vs H Q E->vs.length=ps.length)
  (hbody:∀ (A:Around) (outer:List Env) (s:Shared) (H:Hp) (vs:List V) (Q:VK) (E:XK),Room k (A.deeper (envOfC qual scope s.heap.objs.size f cdv))->sp vs H Q E ->
   ∃ t,PSs (xF CX P w K mg base N qual scope f cdv A outer s H E) body t/\t { nx:=fun _ H'=>Q .non H',rt:=Q } (start N vs) H) :
  FnOk P w K mg base CX (k+1) f (PySem.W.fnOf name qual params body scope dV kV doc pm an cdv ct) ps sp:=by
 refine ⟨len,fun A outer s H args us vs Q E hr e0 hb r hsp=>?_⟩
 have hl:=len _ _ _ _ hsp
 have KX:K.In s.heap:=e0.mod.kin.keeps fun b o e=>(e0.bs b o e).1
 have lim:s.heap.NoLimit:=e0.mod.nolimit.keeps fun b o e=>(e0.bs b o e).1
 have hkind:∀ y∈ps.zip us,scope.names.lookup y.1=some .local\/(scope.names.lookup y.1=some .cell/\((cellsFrom (s.heap.objs.size+1) scope.names []).lookup y.1).isSome=true):=fun ⟨n,v⟩ hy=>by
  rcases S.par n (List.of_mem_zip hy).1 with q | q
  ·exact .inl q
  ·exact .inr ⟨q,PySem.W.cellsFrom_some _ _ _ (.inl q)⟩
 refine codeAny_call_function hr.depth (KX _ _ lk) rfl S.co S.gen rfl (PySem.W.codeRec_of KX hcd) (hb _ _ _ _ ?_)
 refine wpAny_newFunctionEnv_cells S.kind hkind fun env he s1 x=>?_
 subst he
 refine ⟨lim.keeps x.toInCall.keep,codeAny_func ?_⟩
 obtain ⟨t,ht,hq⟩:=hbody A outer s H vs Q E (hr.deeper _) hsp
 have I:Inv (xF CX P w K mg base N qual scope f cdv A outer s H E) [] (start N vs) H s1:=kH S hr.hd e0 hl r x
 refine wpAny_mono (ht [] s1 (start N vs) H _ I hq) (fun fl s' hs=>?_) fun e s' hs=>hs
 have fin:∀ {σ':St} {H':Hp} {v:V} {u:Value},Inv (xF CX P w K mg base N qual scope f cdv A outer s H E) [] σ' H' s'->RelV v u->Q v H'->CE outer P w H s Q u s' :=
  fun {σ' H' v u} J rv q=>⟨v,H',J.os,J.bare,J.base,J.hok,rv,q⟩
 cases fl with
 | ret u =>
  obtain ⟨v,σ',H',J,rv,q⟩:=hs
  exact fin J rv q
 | next =>
  obtain ⟨σ',H',J,q⟩:=hs
  exact fin (v:=V.non) (u:=Value.none) J rfl q
 | brk =>
  obtain ⟨_,_,_,q⟩:=hs
  exact False.elim q
 | cont =>
  obtain ⟨_,_,_,q⟩:=hs
  exact False.elim q
section
variable {X:Cx}{x:Str}{p pos:Pos}{e:Expr}{es:List Expr}{t:TA}{id T:String}{r:List V->Hp->VK->Prop}
def tCB (r:List V->Hp->VK->Prop)(t:TA):TE:=fun σ H Q=>t σ H fun vs H1=>r vs H1 Q
theorem jm (hc:CallR X (.builtin id) r)(hg:Gl X x)(hm:X.mg x=none)(hv:bootBuiltins x=some (.builtin id))(ha:PA X (e::es) t)(hn:autoParam (x≠"__name__") L2.au1._auto_1)(hdb:autoParam ((x==("__debug__":Str))=false) L2.au1._auto_1)
  (he:autoParam (starEach (e::es) X.env=(false,eval e X.env)::starEach es X.env) L2.au3._auto_1) (hpl:autoParam ((backTo pos (starEach es X.env)).any (·.1)=false) L2.au3._auto_1):PE X (.Call (.Name x p) (e::es) [] pos) (tCB r t):=by
 intro pins s σ H Q I h
 refine wpAny_Call_Name_kw (ue I hg hm hv ?_ hn hdb)
 exact PyProof.Rows.callWith_builtin1 (thn (ha pos pins s σ H _ I h) fun us s1 ⟨vs,H1,I1,r1,q1⟩=>hc pins s1 σ H1 vs us Q I1 r1 q1) he hpl
theorem VI (hc:CallR X (.type T) r)(hg:Gl X x)(hm:X.mg x=none)(hv:bootBuiltins x=some (.type T))(ha:PA X (e::es) t)(hn:autoParam (x≠"__name__") L2.au1._auto_1)(hdb:autoParam ((x==("__debug__":Str))=false) L2.au1._auto_1)
  (he:autoParam (starEach (e::es) X.env=(false,eval e X.env)::starEach es X.env) L2.au3._auto_1) (hpl:autoParam ((backTo pos (starEach es X.env)).any (·.1)=false) L2.au3._auto_1):PE X (.Call (.Name x p) (e::es) [] pos) (tCB r t):=by
 intro pins s σ H Q I h
 refine wpAny_Call_Name_kw (ue I hg hm hv ?_ hn hdb)
 exact PyProof.Rows.callWith_type1 (thn (ha pos pins s σ H _ I h) fun us s1 ⟨vs,H1,I1,r1,q1⟩=>hc pins s1 σ H1 vs us Q I1 r1 q1) he hpl
end
end L2
namespace HT
open PySem PyProof.Rows
section
open PySem.SeqAt
open PySem.AutoSeq1 (wpAny_loadPart')
open PySem.MeetsSeq PySem.MeetsSeq2 PySem.MeetsSeq3
end
section
variable {prog:Program}{w:World}{A:Around}{E:Value->Shared->Prop}{s:Shared}
theorem cat_tup {t b:Addr}{vs ws:List Value}{Q:Value->Shared->Prop}(ht:IsTup s.heap t vs.toArray)(hb:IsTup s.heap b ws.toArray)(hv:vs≠[])
  (h1:ws=[]->Q (.ref t) s) (h2:ws≠[]->Q (.ref s.heap.objs.size) { s with heap:=s.heap.push { cls:=.type "tuple",data:=.seq (vs++ws).toArray } })
  (hsz:vs.length+ws.length<=sizeLine):wpAny (model prog w) A (binaryOp .Add (.ref t) (.ref b)) Q E s:=by
 obtain ⟨⟨cls,dd,data,sl⟩,ho,hc,n,hd⟩:=id ht
 obtain ⟨⟨cls2,dd2,data2,sl2⟩,ho2,hc2,n2,hd2⟩:=id hb
 simp only at hc hd hc2 hd2
 subst hc hd hc2 hd2
 have e:vs.toArray++ws.toArray=(vs++ws).toArray:=by simp
 by_cases hw:ws=[]
 ·exact concat_meets ⟨_,ho,rfl⟩ ⟨_,ho2,rfl⟩ noFill_tuple_add seq_tuple_add PySem.F.slot_tuple_add PySem.F.entry_tuple_add (PySem.F.args_tuple_add_2 _ _)
   (tuple_addW1 t b vs.toArray ws.toArray n n2 dd dd2 sl sl2 (by simpa using hv) (by simp [hw])) ⟨ho,ho2,h1 hw⟩
 ·refine concat_meets ⟨_,ho,rfl⟩ ⟨_,ho2,rfl⟩ noFill_tuple_add seq_tuple_add PySem.F.slot_tuple_add PySem.F.entry_tuple_add (PySem.F.args_tuple_add_2 _ _)
   (tuple_addW2 t b vs.toArray ws.toArray n n2 dd dd2 sl sl2 (by simpa using hv) (by simpa using hw) (by rw [sG,sG]; exact hsz)) ⟨ho,ho2,?_⟩
  rw [e]
  exact h2 hw
def sIx (n d:Nat):Option Int->Nat
 | none=>d
 | some v=>if v<0 then (v+(n:Int)).toNat else min v.toNat n
theorem sIx_none (n d:Nat):sIx n d none=d:=rfl
theorem sIx_nat (n d k:Nat):sIx n d (some (k:Int))=min k n:=by
 show (if (k:Int)<0 then ((k:Int)+(n:Int)).toNat else min (k:Int).toNat n)=min k n
 rw [if_neg (by omega),rK]
theorem z2f (n d:Nat)(hd:d<=n)(o:Option Int):sIx n d o<=n:=by
 cases o with
 | none=>exact hd
 | some v =>
  show (if v<0 then (v+(n:Int)).toNat else min v.toNat n)<=n
  by_cases hv:v<0
  ·rw [if_pos hv]; omega
  ·rw [if_neg hv]; exact Nat.min_le_right _ _
theorem Wz (v:Int)(n d:Nat):(if v<0 then max (v+(n:Int)) 0 else min v (n:Int))=((sIx n d (some v):Nat):Int):=by
 show (if v<0 then max (v+(n:Int)) 0 else min v (n:Int))=(((if v<0 then (v+(n:Int)).toNat else min v.toNat n):Nat):Int)
 by_cases hv:v<0
 ·simp only [if_pos hv]; omega
 ·simp only [if_neg hv]; omega
theorem Xs (lo hi:Option Int)(n:Nat):Builtin.Slice.sliceAdjust lo hi 1 (n:Int)=(((sIx n 0 lo:Nat):Int),((sIx n n hi:Nat):Int)):=by
 have h1:¬ ((1:Int)<0):=by omega
 unfold Builtin.Slice.sliceAdjust
 simp only [h1,if_false]
 refine Prod.ext ?_ ?_
 ·cases lo with
  | none=>rfl
  | some v=>exact Wz v n 0
 ·cases hi with
  | none=>rfl
  | some v=>exact Wz v n n
theorem Xw (i j:Nat):Builtin.Slice.slicePlaces (i:Int) (j:Int) 1=j-i:=by
 unfold Builtin.Slice.slicePlaces
 have h1:(1:Int)>0:=by omega
 simp only [h1,if_true,Int.ediv_one]
 split<;>omega
theorem jQ {v:Value}{o:Option Int}{Q:Option Int->Shared->Prop}(p:IsPart v o)(h:Q o s):wpAny (model prog w) A (Builtin.Slice.slicePartIndex v) Q E s:=by
 cases p with
 | none=>exact slicePart_none h
 | int i t=>exact slicePart_int h
theorem qw {sl:Addr}{vl vu:Value}{lo hi:Option Int}{n:Nat}{Q:Int×Int×Nat->Shared->Prop}(hs:s.heap.IsSliceOf sl vl vu .none)(pl:IsPart vl lo)(pu:IsPart vu hi)
  (h:Q (((sIx n 0 lo:Nat):Int),1,sIx n n hi-sIx n 0 lo) s):wpAny (model prog w) A (Builtin.Slice.sliceApplied (.ref sl) (pure (n:Int))) Q E s:=by
 obtain ⟨os,hos,hcs,hds⟩:=id hs
 unfold Builtin.Slice.sliceApplied Builtin.Slice.sliceFields
 refine wpAny_bind (wpAny_bind (wpAny_field hos hds (x:=vl) rfl (wpAny_bind (wpAny_field hos hds (x:=vu) rfl (wpAny_bind (wpAny_field hos hds (x:=.none) rfl (wpAny_pure ?_)))))))
 refine wpAny_bind (slicePart_none ?_)
 show wpAny _ _ (if ((1:Int)==0)=true then _ else _) _ _ s
 rw [if_neg (by decide)]
 refine wpAny_bind (jQ pl (wpAny_bind (jQ pu (wpAny_bind (wpAny_pure ?_)))))
 show wpAny _ _ (match Builtin.Slice.sliceAdjust lo hi 1 (n:Int) with | (lo,hi)=>pure (lo,(1:Int),Builtin.Slice.slicePlaces lo hi 1)) _ _ s
 rw [Xs lo hi n]
 show wpAny _ _ (pure (((sIx n 0 lo:Nat):Int),(1:Int),Builtin.Slice.slicePlaces ((sIx n 0 lo:Nat):Int) ((sIx n n hi:Nat):Int) 1)) _ _ s
 rw [Xw]
 exact wpAny_pure h
theorem Qd (xs:Array Value)(i k:Nat):((List.range k).filterMap fun (m:Nat)=>xs[((i:Int)+(m:Int)*1).toNat]?).toArray=((xs.toList.drop i).take k).toArray:=by
 have e:(fun (m:Nat)=>xs[((i:Int)+(m:Int)*1).toNat]?)=fun m=>xs[i+m]?:=by
  funext m
  have:((i:Int)+(m:Int)*1).toNat=i+m:=by omega
  rw [this]
 rw [e]
 have:=pick_run xs i k
 rw [List.filterMap_map] at this
 have e2:((fun x=>xs[x]?) ∘ fun x=>i+x)=fun m=>xs[i+m]?:=rfl
 rw [e2] at this
 rw [this]
theorem getItem_tuple_cut {t sl:Addr}{items:Array Value}{vl vu:Value}{lo hi:Option Int}{Q:Value->Shared->Prop}(ht:IsTup s.heap t items)(hs:s.heap.IsSliceOf sl vl vu .none)(pl:IsPart vl lo)(pu:IsPart vu hi)
  (hw:¬ (sIx items.size 0 lo=0/\sIx items.size items.size hi=items.size))
  (h:Q (.ref s.heap.objs.size) { s with heap:=s.heap.push { cls:=.type "tuple",data:=.seq ((items.toList.drop (sIx items.size 0 lo)).take (sIx items.size items.size hi-sIx items.size 0 lo)).toArray } })
  (hsz:items.size<=sizeLine):wpAny (model prog w) A (getItem (.ref t) (.ref sl)) Q E s:=by
 have htake:sizeOk (.seq ((items.toList.drop (sIx items.size 0 lo)).take (sIx items.size items.size hi-sIx items.size 0 lo)).toArray):=by
  show ((items.toList.drop (sIx items.size 0 lo)).take (sIx items.size items.size hi-sIx items.size 0 lo)).toArray.size<=sizeLine
  rw [sG,sW,rF,Array.length_toList]
  omega
 have hj:sIx items.size items.size hi<=items.size:=z2f _ _ (tY _) hi
 obtain ⟨os,hos,hcs,hds⟩:=id hs
 have hTs:s.TypeIs (.ref sl) "slice":=⟨os,hos,hcs⟩
 unfold getItem
 try with_reducible refine wpAny_holding ?_
 first | refine wpAny_bind (wpAny_pure ?_) | skip
 refine wpAny_bind (wpAny_sequenceKey ht.typeIs (by decide) ?_)
 refine wpAny_bind (wpAny_callSpecial?_slot (name:=Str.ofString "__getitem__") ht.typeIs PyProof.Rows.slot_tuple_getitem
  (wpAny_call_entry PyProof.Rows.slot_tuple_getitem ht.typeIs entry_tuple_getitem ?_ (args_tuple_getitem _ _)))
 show wpAny _ _ (Builtin.Tuple.tupleItemsOf (.ref t) >>= _) _ _ s
 refine wpAny_bind (tupleItemsOf_ ht ?_)
 refine wpAny_bind (wpAny_typeOf hTs ?_)
 rw [if_pos (by decide)]
 refine wpAny_bind (qw hs pl pu ?_)
 have hno:¬ ((((sIx items.size 0 lo:Nat):Int)==0&&(1:Int)==1&&(sIx items.size items.size hi-sIx items.size 0 lo)==items.size)=true):=by
  intro q
  rw [rA,rA] at q
  have q1:((sIx items.size 0 lo:Nat):Int)=0:=eq_of_beq q.1.1
  have q2:sIx items.size items.size hi-sIx items.size 0 lo=items.size:=eq_of_beq q.2
  exact hw ⟨by omega,by omega⟩
 show wpAny _ _ (if (((sIx items.size 0 lo:Nat):Int)==0&&(1:Int)==1&&(sIx items.size items.size hi-sIx items.size 0 lo)==items.size)=true then _ else _) _ _ s
 rw [if_neg hno,Qd]
 first
  | exact wpAny_bind (m:=Builtin.Tuple.tupleExact _) (wpAny_newObj_type (wpAny_pure ⟨_,rfl,wpAny_pure h⟩) htake)
  | exact wpAny_bind (m:=Builtin.Tuple.tupleExact _) (wpAny_newObj_type (wpAny_bind (wpAny_pure (wpAny_pure ⟨_,rfl,wpAny_pure h⟩))) htake)
  | exact wpAny_bind (wpAny_bind (m:=Builtin.Tuple.tupleExact _) (wpAny_newObj_type (wpAny_pure (wpAny_pure ⟨_,rfl,wpAny_pure h⟩)) htake))
  | exact wpAny_bind (wpAny_bind (m:=Builtin.Tuple.tupleExact _) (wpAny_newObj_type (wpAny_pure ⟨_,rfl,wpAny_pure h⟩) htake))
end
end HT
namespace L2
open PySem PySem.Spec PyProof.Rows
abbrev TO:=St->Hp->(Option Int->Hp->Prop)->Prop
def PO (X:Cx)(e:Option Expr)(t:TO):Prop :=
 ∀ (pins:List (Addr×Obj)) (s:Shared) (σ:St) (H:Hp) (Q:Option Int->Hp->Prop),Inv X pins σ H s->t σ H Q ->
  wpAny (model X.prog X.w) X.A (evalPart e X.env) (fun u s'=>∃ o H',Inv X pins σ H' s'/\IsPart u o/\Q o H') X.xe s
def We:TO:=fun _ H Q=>Q none H
def z0u (t:TE):TO:=fun σ H Q=>t σ H fun x H1=>∃ i,x=.int i/\Q (some i) H1
theorem jy {ns:List Int}:∀ {us:List Value},Vals (ns.map V.int) us->IntsAre us ns:=by
 induction ns with
 | nil=>intro us r; rw [tV] at r; cases r; exact .nil
 | cons n ns ih =>
  intro us r
  rw [tF] at r
  cases r with
  | cons r1 r2 =>
   obtain ⟨t,e⟩:=r1
   subst e
   exact .cons n t (ih r2)
section
variable {X:Cx}{e:Expr}{te:TE}{lo hi:Option Expr}{tl th:TO}{pos p2:Pos}
theorem K7:PO X none We:=by
 intro pins s σ H Q I h
 rw [evalPart_none]
 exact wpAny_pure ⟨none,H,I,.none,h⟩
theorem KN (h:PE X e te):PO X (some e) (z0u te):=by
 intro pins s σ H Q I hw
 rw [evalPart_some]
 refine thn (h pins s σ H _ I hw) fun u s1 ⟨x,H1,I1,r1,q1⟩=>?_
 obtain ⟨i,rfl,q⟩:=q1
 obtain ⟨t,rfl⟩:=r1
 exact ⟨some i,H1,I1,.int i t,q⟩
def SlR (X:Cx)(r:V->Option Int->Option Int->Hp->VK->Prop):Prop :=
 ∀ (pins:List (Addr×Obj)) (s:Shared) (σ:St) (H:Hp) (x:V) (v vl vu:Value) (lo hi:Option Int) (sl:Addr) (Q:VK),Inv X pins σ H s->RelV x v->s.heap.IsSliceOf sl vl vu .none->IsPart vl lo->IsPart vu hi->r x lo hi H Q ->
  ∃ T id,typeLookup (.type T) "__getitem__"=pure (some (.builtin id))/\s.TypeIs v T/\wpAny (model X.prog X.w) X.A (getItem v (.ref sl)) (EP X pins σ Q) X.xe s
theorem SlR.or {r r':V->Option Int->Option Int->Hp->VK->Prop}(h:SlR X r)(h':SlR X r'):SlR X (fun x lo hi H Q=>r x lo hi H Q\/r' x lo hi H Q):=by
 intro pins s σ H x v vl vu lo hi sl Q I rx hs pl pu q
 rcases q with q | q
 ·exact h pins s σ H x v vl vu lo hi sl Q I rx hs pl pu q
 ·exact h' pins s σ H x v vl vu lo hi sl Q I rx hs pl pu q
def tSl (r:V->Option Int->Option Int->Hp->VK->Prop)(te:TE)(tl th:TO):TE:=fun σ H Q=>te σ H fun x H1=>tl σ H1 fun l H2=>th σ H2 fun u H3=>r x l u H3 Q
theorem UD {r:V->Option Int->Option Int->Hp->VK->Prop}(hr:SlR X r)(he:PE X e te)(hl:PO X lo tl)(hu:PO X hi th):PE X (.Subscript e (.Slice lo hi none p2) pos) (tSl r te tl th):=by
 intro pins s σ H Q I h
 refine Subscript_ (thn (he pins s σ H _ I h) fun v s1 ⟨x,H1,I1,r1,q1⟩=>?_)
 refine wpAny_Slice (thn (hl pins s1 σ H1 _ I1 q1) fun vl s2 ⟨l,H2,I2,pl,q2⟩=>thn (hu pins s2 σ H2 _ I2 q2) fun vu s3 ⟨u,H3,I3,pu,q3⟩=>?_)
 rw [evalPart_none]
 refine wpAny_pure ?_
 have I4:Inv X pins σ H3 { s3 with heap:=s3.heap.push { cls:=.type "slice",data:=.fields #[vl,vu,.none] } }:=I3.kept (t':=s3.toks) fun b ob q=>Heap.get?_push_of_some _ q
 obtain ⟨T,id,hT,ht,hg⟩:=hr pins { s3 with heap:=s3.heap.push { cls:=.type "slice",data:=.fields #[vl,vu,.none] } } σ H3 x v vl vu l u s3.heap.objs.size Q I4 r1 (Heap.IsSliceOf.new ..) pl pu q3
 show wpAny (model X.prog X.w) X.A (subscriptTail e (.Slice lo hi none p2) v (.ref s3.heap.objs.size)) (EP X pins σ Q) X.xe { s3 with heap:=s3.heap.push { cls:=.type "slice",data:=.fields #[vl,vu,.none] } }
 exact tail_any (ops:=[.ref s3.heap.objs.size,v]) ht hT hg (by with_unfolding_all rfl)
def YB (xs:List V)(lo hi:Option Int):List V:=(xs.drop (HT.sIx xs.length 0 lo)).take (HT.sIx xs.length xs.length hi-HT.sIx xs.length 0 lo)
theorem qD (xs:List V)(lo hi:Option Int):(YB xs lo hi).length<=xs.length:=by
 unfold YB
 rw [sW,rF]
 omega
def z4T (K:PySem.W.Frag):V->Option Int->Option Int->Hp->VK->Prop:=fun x lo hi H Q=>∃ a xs,x=.ref a/\SqT K H a xs /\
 ¬ (HT.sIx xs.length 0 lo=0/\HT.sIx xs.length xs.length hi=xs.length)/\∀ p,H p=none->Q (.ref p) (upd H p (.tup (YB xs lo hi)))
theorem z1Q:SlR X (z4T X.K):=by
 intro pins s σ H x v vl vu lo hi sl Q I rx hs pl pu h
 obtain ⟨a,xs,rfl,hx,hw,q⟩:=h
 cases rx
 obtain ⟨its,r,ht,hz⟩:=I.tuple hx
 have hlen:its.toArray.size=xs.length:=by rw [sG]; exact r.length.symm
 refine ⟨"tuple",_,PyProof.Rows.slot_tuple_getitem.lookup,ht.typeIs,?_⟩
 refine HT.getItem_tuple_cut ht hs pl pu (by rw [hlen]; exact hw) ?_ (by rw [hlen]; exact hz)
 rw [hlen]
 refine ⟨.ref s.heap.objs.size,_,I.laid (t':=s.toks) (o:=.tup (YB xs lo hi)) (fun b ob q=>Heap.get?_push_of_some _ q) (tY _) ?_,rfl,q _ (I.hok.fresh (tY _))⟩
 exact ⟨rC (qD xs lo hi) hz,_,(r.drop (HT.sIx xs.length 0 lo)).take (HT.sIx xs.length xs.length hi-HT.sIx xs.length 0 lo),TupN.new _ _⟩
def z0z (K:PySem.W.Frag):R2:=fun x y H Q=>∃ a b xs ys,x=.ref a/\y=.ref b/\SqT K H a xs/\SqT K H b ys/\xs≠[]/\xs.length+ys.length<=sizeLine /\
 (ys=[]->Q (.ref a) H)/\(ys≠[]->∀ p,H p=none->Q (.ref p) (upd H p (.tup (xs++ys))))
theorem Vals.nil_iff {xs:List V}{us:List Value}(r:Vals xs us):us=[]↔xs=[]:=by
 cases r with
 | nil=>simp
 | cons _ _=>simp
theorem JQ:OpR X (binaryOp .Add) (z0z X.K):=by
 intro pins s σ H x y v u Q I rx ry h
 obtain ⟨a,b,xs,ys,rfl,rfl,ha,hb,hx,hz,q1,q2⟩:=h
 cases rx
 cases ry
 obtain ⟨its,r1,p1,_⟩:=I.tuple ha
 obtain ⟨its2,r2,p2,_⟩:=I.tuple hb
 refine HT.cat_tup p1 p2 (fun z=>hx (r1.nil_iff.mp z)) (fun z=>⟨.ref a,H,I,rfl,q1 (r2.nil_iff.mp z)⟩) (fun z=>?_) (by rw [<- r1.length,<- r2.length]; exact hz)
 refine ⟨.ref s.heap.objs.size,_,I.laid (t':=s.toks) (o:=.tup (xs++ys)) (fun b ob q=>Heap.get?_push_of_some _ q) (tY _) ?_,rfl,q2 (fun w=>z (r2.nil_iff.mpr w)) _ (I.hok.fresh (tY _))⟩
 exact ⟨by rw [tN]; exact hz,_,r1.append r2,TupN.new _ _⟩
end
def ixN (n:Nat)(i:Int):Option Nat:=if 0<=i then (if i<n then some i.toNat else none) else if -(n:Int)<=i then some (i+n).toNat else none
def atI {α:Type}(xs:List α)(i:Int):Option α:=(ixN xs.length i).bind fun j=>xs[j]?
theorem Zz {n:Nat}{i:Int}{j:Nat}(h:ixN n i=some j):seqIndex? i n=some j/\j<n/\-(n:Int)<=i/\i<n:=by
 unfold ixN at h
 by_cases h0:0<=i
 ·rw [if_pos h0] at h
  by_cases h1:i<n
  ·rw [if_pos h1] at h
   have e:i.toNat=j:=Option.some.inj h
   exact ⟨by rw [seqIndex_of h0 h1,e],by omega,by omega,h1⟩
  ·rw [if_neg h1] at h; cases h
 ·rw [if_neg h0] at h
  by_cases h1:-(n:Int)<=i
  ·rw [if_pos h1] at h
   have e:(i+n).toNat=j:=Option.some.inj h
   exact ⟨by rw [seqIndex_neg (by omega) h1,e],by omega,h1,by omega⟩
  ·rw [if_neg h1] at h; cases h
theorem Zr {α:Type}{xs:List α}{i:Int}{v:α}(h:atI xs i=some v):∃ j,seqIndex? i xs.length=some j/\xs[j]?=some v/\j<xs.length/\-(xs.length:Int)<=i/\i<xs.length:=by
 unfold atI at h
 cases e:ixN xs.length i with
 | none=>rw [e] at h; cases h
 | some j =>
  rw [e] at h
  obtain ⟨h1,h2,h3,h4⟩:=Zz e
  exact ⟨j,h1,h,h2,h3,h4⟩
theorem vT {α:Type}{xs:List α}{j:Nat}{v:α}(h:xs[j]?=some v):atI xs (j:Int)=some v:=by
 have hj:j<xs.length:=(sD.mp h).1
 have e:ixN xs.length (j:Int)=some j:=by
  unfold ixN
  rw [if_pos (by omega),if_pos (by omega)]; simp
 unfold atI; rw [e]; exact h
def WD (b:Expr):Prop:=∀ o i,subscripted b false o i=operate [o,i] (getItem o i)
def IxR (X:Cx)(r:R2):Prop :=
 ∀ (value slice:Expr) (pins:List (Addr×Obj)) (s:Shared) (σ:St) (H:Hp) (x y:V) (v u:Value) (Q:VK),Inv X pins σ H s->RelV x v->RelV y u->r x y H Q ->
  subscripted slice false v u=operate [v,u] (getItem v u)->wpAny (model X.prog X.w) X.A (subscriptTail value slice v u) (EP X pins σ Q) X.xe s
def MtR (X:Cx)(id:String)(r:V->List V->Hp->VK->Prop):Prop :=
 ∀ (pins:List (Addr×Obj)) (s:Shared) (σ:St) (H:Hp) (x:V) (xs:List V) (v:Value) (us:List Value) (Q:VK),Inv X pins σ H s->RelV x v->Vals xs us->r x xs H Q ->
  wpAny (model X.prog X.w) X.A (call (.builtin id) (v::us)) (EP X pins σ Q) X.xe s
section
variable {X:Cx}{a b:Expr}{ta tb:TE}{pos:Pos}
theorem IxR.or {r r':R2}(h:IxR X r)(h':IxR X r'):IxR X (fun x y H Q=>r x y H Q\/r' x y H Q):=by
 intro value slice pins s σ H x y v u Q I rx ry q hs
 rcases q with q | q
 ·exact h value slice pins s σ H x y v u Q I rx ry q hs
 ·exact h' value slice pins s σ H x y v u Q I rx ry q hs
theorem MtR.or {id:String}{r r':V->List V->Hp->VK->Prop}(h:MtR X id r)(h':MtR X id r'):MtR X id (fun x xs H Q=>r x xs H Q\/r' x xs H Q):=by
 intro pins s σ H x xs v us Q I rx rs q
 rcases q with q | q
 ·exact h pins s σ H x xs v us Q I rx rs q
 ·exact h' pins s σ H x xs v us Q I rx rs q
theorem z3N {r:R2}(hr:IxR X r)(ha:PE X a ta)(hb:PE X b tb)(hs:WD b):PE X (.Subscript a b pos) (tOp r ta tb):=by
 intro pins s σ H Q I h
 exact Subscript_ (z2h ha hb I h fun v u s2 x y H2 I2 rx ry q=>hr a b pins s2 σ H2 x y v u Q I2 rx ry q (hs _ _))
def z2Z (K:PySem.W.Frag):R2:=fun x y H Q=>∃ p xs i v,x=.ref p/\y=.int i/\SqL K H p xs/\atI xs i=some v/\Q v H
def z2K (K:PySem.W.Frag):R2:=fun x y H Q=>∃ p xs i v,x=.ref p/\y=.int i/\SqT K H p xs/\atI xs i=some v/\Q v H
def z45:R2:=fun x y H Q=>∃ z i c,x=.str z/\y=.int i/\z.length<=sizeLine/\atI z.cps.toList i=some c/\Q (.str ⟨#[c]⟩) H
theorem ix_list:IxR X (z2Z X.K):=by
 intro value slice pins s σ H x y v u Q I rx ry h hs
 obtain ⟨p,xs,i,z,rfl,rfl,hq,he,q⟩:=h
 cases rx
 obtain ⟨t,rfl⟩:=ry
 obtain ⟨its,r,pl,hz⟩:=I.list hq
 obtain ⟨j,h1,h2,h3,h4,h5⟩:=Zr he
 obtain ⟨w,ew,rw'⟩:=r.get h2
 have hl:=r.length
 have hn:=qr
 have fin:EP X pins σ Q w s:=⟨z,H,I,rw',q⟩
 by_cases h0:0<=i
 ·have hj:i.toNat=j:=by
   rw [seqIndex_of h0 h5] at h1
   exact Option.some.inj h1
  exact item_listR pl.isList h0 (by omega) (by rw [hj]; simpa using ew) fin hs
 ·have hj:(i+(its.toArray.size:Int)).toNat=j:=by
   rw [seqIndex_neg (by omega) h4] at h1
   rw [sG,<- hl]
   exact Option.some.inj h1
  exact subscriptTail_builtinR (x:=w) pl.isList.typeIs slot_list_getitem.lookup
   (wpAny_getItem_list_neg (Q:=fun r s'=>r=w/\EP X pins σ Q r s') pl.isList (by omega) (by rw [sG]<;>omega) (by omega) (by rw [hj]; simpa using ew) ⟨rfl,fin⟩) hs
theorem ix_tup:IxR X (z2K X.K):=by
 intro value slice pins s σ H x y v u Q I rx ry h hs
 obtain ⟨p,xs,i,z,rfl,rfl,hq,he,q⟩:=h
 cases rx
 obtain ⟨t,rfl⟩:=ry
 obtain ⟨its,r,pl,hz⟩:=I.tuple hq
 obtain ⟨j,h1,h2,h3,h4,h5⟩:=Zr he
 obtain ⟨w,ew,rw'⟩:=r.get h2
 have hl:=r.length
 have hn:=qr
 have fin:EP X pins σ Q w s:=⟨z,H,I,rw',q⟩
 exact subscriptTail_builtinR (x:=w) pl.typeIs slot_tuple_getitem.lookup
  (getItem_tuple (j:=j) (Q:=fun r s'=>r=w/\EP X pins σ Q r s') pl (by omega) (by omega) (by rw [sG,<- hl]; exact h1) (by simpa using ew) ⟨rfl,fin⟩) hs
theorem z20:IxR X z45:=by
 intro value slice pins s σ H x y v u Q I rx ry h hs
 obtain ⟨z,i,c,rfl,rfl,hz,he,q⟩:=h
 obtain ⟨t,rfl⟩:=rx
 obtain ⟨t',rfl⟩:=ry
 obtain ⟨j,h1,h2,h3,h4,h5⟩:=Zr he
 have hl:z.cps.toList.length=z.length:=by simp [Str.length]
 rw [hl] at h1 h4 h5
 have hn:=qr
 exact tail_any (typeIs_str s z t) slot_str_getitem.lookup (getItem_str (c:=c) (by
  have e1:decide (i < -(2 ^ 63:Int))=false:=decide_eq_false (by omega)
  have e2:decide (i>=2 ^ 63)=false:=decide_eq_false (by omega)
  rw [e1,e2,Bool.or_false]) (by rw [h1]; simpa using h2) ⟨.str ⟨#[c]⟩,H,I.tok _,⟨_,rfl⟩,q⟩) hs
def rIx (K:PySem.W.Frag):R2:=fun x y H Q=>z2Z K x y H Q\/z2K K x y H Q\/z45 x y H Q
theorem z2n:IxR X (rIx X.K):=ix_list.or (ix_tup.or z20)
theorem X0 (its:List Value)(n j:Nat)(u:Value):Obj.mapSeq (·.setIfInBounds j u) { cls:=.type "list",data:=.seq its.toArray n }={ cls:=.type "list",data:=.seq (its.set j u).toArray n }:=by
 simp [Obj.mapSeq]
theorem Inv.lst {pins:List (Addr×Obj)}{σ:St}{H:Hp}{s:Shared}{p:Addr}{xs:List V}(I:Inv X pins σ H s)(h:H p=some (.lst xs)) :
  ∃ (its:List Value) (n:Nat),Vals xs its/\s.heap.get? p=some { cls:=.type "list",data:=.seq its.toArray n }/\xs.length<=sizeLine:=by
 obtain ⟨z,its,n,r,e⟩:=I.hok p _ h
 exact ⟨its,n,r,e,z⟩
theorem Inv.lstUpd {pins:List (Addr×Obj)}{σ:St}{H:Hp}{s:Shared}{p:Addr}{xs ys:List V}{its its':List Value}{n n':Nat}{f:Obj->Obj}(I:Inv X pins σ H s)(h:H p=some (.lst xs))
  (ho:s.heap.get? p=some { cls:=.type "list",data:=.seq its.toArray n }) (hf:f { cls:=.type "list",data:=.seq its.toArray n }={ cls:=.type "list",data:=.seq its'.toArray n' }) (r:Vals ys its') (hz:ys.length<=sizeLine) (t:Nat) :
  Inv X pins σ (upd H p (.lst ys)) { s with heap:=s.heap.update p f,toks:=t }:=by
 have e:(s.heap.update p f).get? p=some { cls:=.type "list",data:=.seq its'.toArray n' }:=by
  rw [Heap.get?_update_self f ho (by rw [hf]<;>rfl),hf]
 refine I.write (x:=p) (e:=p) (by rw [h]; trivial) (.inl rfl) (fun b u hb q=>(Heap.get?_update_other _ _ (Ne.symm hb)).trans q) ⟨_,e⟩ ?_
 exact ⟨hz,its',n',r,e⟩
def z3C:V->V->V->Hp->(Hp->Prop)->Prop:=fun o i v H Q=>∃ p xs k j,o=.ref p/\i=.int k/\H p=some (.lst xs)/\ixN xs.length k=some j/\Q (upd H p (.lst (xs.set j v)))
theorem Qc:z48 X z3C:=by
 intro pins s σ H o i v ov iv u Q I ro ri rv h
 obtain ⟨p,xs,k,j,rfl,rfl,hp,hj,q⟩:=h
 cases ro
 obtain ⟨t,rfl⟩:=ri
 obtain ⟨its,n,r,ho,hz⟩:=I.lst hp
 obtain ⟨h1,h2,h3,h4⟩:=Zz hj
 have hl:=r.length
 have hn:=qr
 have I':Inv X pins σ (upd H p (.lst (xs.set j v))) { s with heap:=s.heap.update p (Obj.mapSeq (·.setIfInBounds j u)) } :=
  I.lstUpd hp ho (X0 its n j u) (r.set rv j) (by rw [sT]; exact hz) s.toks
 by_cases h0:0<=k
 ·have hk:k.toNat=j:=by
   rw [seqIndex_of h0 h4] at h1
   exact Option.some.inj h1
  exact PySem.W.ki_setAt ho h0 (by omega) (by rw [sG,<- hl]; exact h4) (by rw [hk]; exact ⟨_,I',q⟩)
 ·have hk:(k+(its.toArray.size:Int)).toNat=j:=by
   rw [seqIndex_neg (by omega) h3] at h1
   rw [sG,<- hl]
   exact Option.some.inj h1
  exact PySem.W.ki_setBack ho (by omega) (by rw [sG,<- hl]; exact h3) (by omega) (by rw [hk]; exact ⟨_,I',q⟩)
theorem ZF (lo hi:Option Int)(n:Nat):(sliceBounds lo hi none n).1=((HT.sIx n 0 lo:Nat):Int)/\(sliceBounds lo hi none n).2.1=((HT.sIx n n hi:Nat):Int)/\(sliceBounds lo hi none n).2.2=1:=by
 refine ⟨?_,?_,rfl⟩
 ·cases lo with
  | none=>simp [sliceBounds,HT.sIx]
  | some i =>
   simp only [sliceBounds,HT.sIx,Option.getD_none,show (1:Int)>0 by decide,if_true]
   by_cases h:i<0
   ·simp only [h,if_true]<;>omega
   ·simp only [h,if_false]<;>omega
 ·cases hi with
  | none=>simp [sliceBounds,HT.sIx]
  | some i =>
   simp only [sliceBounds,HT.sIx,Option.getD_none,show (1:Int)>0 by decide,if_true]
   by_cases h:i<0
   ·simp only [h,if_true]<;>omega
   ·simp only [h,if_false]<;>omega
theorem kf (its:List Value)(lo hi:Option Int):slicePick its.toArray lo hi none=((its.drop (HT.sIx its.length 0 lo)).take (HT.sIx its.length its.length hi-HT.sIx its.length 0 lo)).toArray:=by
 obtain ⟨h1,h2,h3⟩:=ZF lo hi its.toArray.size
 unfold slicePick
 rw [h1,h2,h3]
 simp only [sliceRange_one,pick_run,sG]<;>rfl
def z4J (K:PySem.W.Frag):V->Option Int->Option Int->Hp->VK->Prop:=fun x lo hi H Q=>∃ a xs,x=.ref a/\SqL K H a xs/\∀ p,H p=none->Q (.ref p) (upd H p (.lst (YB xs lo hi)))
theorem Kl:SlR X (z4J X.K):=by
 intro pins s σ H x v vl vu lo hi sl Q I rx hs pl pu h
 obtain ⟨a,xs,rfl,hx,q⟩:=h
 cases rx
 obtain ⟨its,r,ht,hz⟩:=I.list hx
 have hlen:=r.length
 refine ⟨"list",_,slot_list_getitem.lookup,ht.isList.typeIs,?_⟩
 refine wpAny_getItem_list_slice ht.isList hs pl pu .none (by simp) ?_ (by rw [sG]<;>omega)
 rw [kf,<- hlen]
 refine ⟨.ref s.heap.objs.size,_,I.laid (t':=s.toks) (o:=.lst (YB xs lo hi)) (fun b ob q=>Heap.get?_push_of_some _ q) (tY _) ?_,rfl,q _ (I.hok.fresh (tY _))⟩
 exact ⟨rC (qD xs lo hi) hz,_,0,(r.drop (HT.sIx xs.length 0 lo)).take (HT.sIx xs.length xs.length hi-HT.sIx xs.length 0 lo),Heap.get?_push_size _ rfl⟩
theorem Zd:CallR X (.builtin "len") (fun xs H Q=>∃ p ys,xs=[.ref p]/\(SqL X.K H p ys\/SqT X.K H p ys)/\Q (.int ys.length) H):=by
 intro pins s σ H xs us Q I r h
 obtain ⟨p,ys,rfl,hq,q⟩:=h
 obtain ⟨u,rfl,rx⟩:=wZ r
 cases rx
 have hn:=qr
 rcases hq with hq | hq
 ·obtain ⟨its,r',pl,hz⟩:=I.list hq
  have hlen:=r'.length
  exact Calls.call_len_list pl.isList (by simp only [sG]<;>omega) ⟨.int ys.length,H,I.tok _,⟨s.toks+1,by rw [sG,hlen]⟩,q⟩
 ·obtain ⟨its,r',pl,hz⟩:=I.tuple hq
  have hlen:=r'.length
  exact len_tuple pl (by simp only [sG]<;>omega) ⟨.int ys.length,H,I.tok _,⟨s.toks+1,by rw [sG,hlen]⟩,q⟩
theorem Zv:CallR X (.builtin "len") (fun xs H Q=>∃ z,xs=[.str z]/\z.length<=sizeLine/\Q (.int z.length) H):=by
 intro pins s σ H xs us Q I r h
 obtain ⟨z,rfl,hz,q⟩:=h
 obtain ⟨u,rfl,t,rfl⟩:=wZ r
 have hn:=qr
 exact len_str (by omega) ⟨.int z.length,H,I.tok _,⟨_,rfl⟩,q⟩
theorem CallR.or {f:Value}{r r':List V->Hp->VK->Prop}(h:CallR X f r)(h':CallR X f r'):CallR X f (fun xs H Q=>r xs H Q\/r' xs H Q):=by
 intro pins s σ H xs us Q I rs q
 rcases q with q | q
 ·exact h pins s σ H xs us Q I rs q
 ·exact h' pins s σ H xs us Q I rs q
theorem we:CallR X (.type "list") (fun xs H Q=>∃ p ys,xs=[.ref p]/\(SqL X.K H p ys\/SqT X.K H p ys)/\∀ l,H l=none->Q (.ref l) (upd H l (.lst ys))):=by
 intro pins s σ H xs us Q I r h
 obtain ⟨p,ys,rfl,hq,q⟩:=h
 obtain ⟨u,rfl,rx⟩:=wZ r
 cases rx
 have fin:∀ (its:List Value),Vals ys its->ys.length<=sizeLine->∀ (h':Heap) (c':Nat),(∀ b o',s.heap.get? b=some o'->h'.get? b=some o') ->
   h'.get? s.heap.objs.size=some { cls:=.type "list",dict:=none,data:=.seq its.toArray c',slots:=#[] }->EP X pins σ Q (.ref s.heap.objs.size) { s with heap:=h' }:=fun its r' hz h' c' kp e =>
  ⟨.ref s.heap.objs.size,_,I.laid (t':=s.toks) kp (tY _) (show ObjOk X.prog X.w _ h' _ (.lst ys) from ⟨hz,its,c',r',e⟩),rfl,q _ (I.hok.fresh (tY _))⟩
 rcases hq with hq | hq
 ·obtain ⟨its,r',pl,hz⟩:=I.list hq
  have hlen:=r'.length
  obtain ⟨o,ho,hc,n,hd⟩:=pl.isList
  exact call_list_seq p (.inl rfl) ho hc hd (fun h' c' kp e=>fin its r' hz h' c' kp e) (by simp only [sG]<;>omega)
 ·obtain ⟨its,r',pl,hz⟩:=I.tuple hq
  have hlen:=r'.length
  obtain ⟨o,ho,hc,n,hd⟩:=pl
  exact call_list_seq p (.inr rfl) ho hc hd (fun h' c' kp e=>fin its r' hz h' c' kp e) (by simp only [sG]<;>omega)
theorem kg:CallR X (.type "tuple") (fun xs H Q=>∃ p ys,xs=[.ref p]/\((SqL X.K H p ys/\∀ l,H l=none->Q (.ref l) (upd H l (.tup ys)))\/(SqT X.K H p ys/\Q (.ref p) H))):=by
 intro pins s σ H xs us Q I r h
 obtain ⟨p,ys,rfl,h⟩:=h
 obtain ⟨u,rfl,rx⟩:=wZ r
 cases rx
 rcases h with ⟨hq,q⟩ | ⟨hq,q⟩
 ·obtain ⟨its,r',pl,hz⟩:=I.list hq
  have hlen:=r'.length
  refine call_tuple_list pl.isList (fun h' kp=>?_) (by simp only [sG]<;>omega)
  have I1:Inv X pins σ H { s with heap:=h' }:=I.kept (t':=s.toks) kp
  have I2:Inv X pins σ (upd H h'.objs.size (.tup ys)) { s with heap:=h'.push { cls:=.type "tuple",data:=.seq its.toArray } } :=
   I1.laid (t':=s.toks) (fun b o e=>Heap.get?_push_of_some _ e) (tY _) (show ObjOk X.prog X.w _ _ _ (.tup ys) from ⟨hz,its,r',TupN.new _ _⟩)
  exact ⟨.ref h'.objs.size,_,I2,rfl,q _ (I1.hok.fresh (tY _))⟩
 ·obtain ⟨its,r',pl,hz⟩:=I.tuple hq
  exact call_tuple_same pl ⟨.ref p,H,I,rfl,q⟩
def tyV (K:PySem.W.Frag)(T:String)(x:V)(H:Hp):Prop:=match x with
 | .str _=>T="str"
 | .int _=>T="int"
 | .ref p=>(T="list"/\∃ xs,SqL K H p xs)\/(T="tuple"/\∃ o,K.lookup p=some o/\o.cls=.type "tuple"/\o.dict=none) \/
   (T="dict"/\((∃ kvs,H p=some (.dK kvs))\/∃ kvs,H p=some (.dT kvs)))\/(T="set"/\∃ S n,H p=some (.set S n))
 | _=>False
theorem VS {pins:List (Addr×Obj)}{σ:St}{H:Hp}{s:Shared}{T:String}{x:V}{v:Value}(I:Inv X pins σ H s)(r:RelV x v)(ty:tyV X.K T x H) :
  s.TypeIs v T/\∀ a,v=.ref a->∃ ob,s.heap.get? a=some ob/\ob.dict=none:=by
 cases x with
 | str z =>
  obtain ⟨t,rfl⟩:=r
  cases (show T="str" from ty)
  exact ⟨typeIs_str s z t,fun _ e=>nomatch e⟩
 | int i =>
  obtain ⟨t,rfl⟩:=r
  cases (show T="int" from ty)
  exact ⟨typeIs_int s i t,fun _ e=>nomatch e⟩
 | ref p =>
  cases r
  rcases ty with ⟨rfl,xs,hq⟩ | ⟨rfl,o,hk,hc,hd⟩ | ⟨rfl,hk⟩ | ⟨rfl,S,n,hk⟩
  ·obtain ⟨its,_,pl,_⟩:=I.list hq
   refine ⟨pl.isList.typeIs,fun a e=>?_⟩
   cases e
   obtain ⟨o,n,e,c,hd,_⟩:=pl
   exact ⟨o,e,hd⟩
  ·refine ⟨⟨o,I.kIn p o hk,hc⟩,fun a e=>?_⟩
   cases e
   exact ⟨o,I.kIn _ o hk,hd⟩
  ·have z:∃ o,s.heap.get? p=some o/\o.ExactDict:=by
    rcases hk with ⟨kvs,hk⟩ | ⟨kvs,hk⟩
    ·obtain ⟨_,_,_,_,o,_,_,e,ex,_⟩:=I.hok p _ hk
     exact ⟨o,e,ex⟩
    ·obtain ⟨_,_,_,_,o,_,_,e,ex,_⟩:=I.hok p _ hk
     exact ⟨o,e,ex⟩
   obtain ⟨o,e,ex⟩:=z
   refine ⟨⟨o,e,ex.1⟩,fun a e2=>?_⟩
   cases e2
   exact ⟨o,e,ex.2.1⟩
  ·obtain ⟨o,_,_,_,e,ex,_⟩:=I.hok p _ hk
   refine ⟨⟨o,e,ex.1⟩,fun a e2=>?_⟩
   cases e2
   exact ⟨o,e,ex.2.1⟩
 | _=>exact False.elim ty
def z4H (K:PySem.W.Frag)(T:String)(r:V->List V->Hp->VK->Prop)(to:TE):TE:=fun σ H Q=>to σ H fun x H1=>tyV K T x H1/\r x [] H1 Q
def tBM (K:PySem.W.Frag)(T:String)(r:V->List V->Hp->VK->Prop)(to:TE)(t:TA):TE:=fun σ H Q=>to σ H fun x H1=>tyV K T x H1/\t σ H1 fun xs H2=>r x xs H2 Q
variable {o e:Expr}{es:List Expr}{to:TE}{t:TA}{name:Str}{apos cpos:Pos}{T id:String}{r:V->List V->Hp->VK->Prop}
theorem Ur (pa:PlainAttrs T)(slot:Slot T name id)(hty:typeOf (.builtin id)=pure (.type "method_descriptor"))(hm:MtR X id r)(ho:PE X o to)
  (hbase:autoParam (attributeBase o name X.env (eval o X.env)=eval o X.env) L2.au3._auto_1) (hline:autoParam ((apos.endLine==cpos.line)=true) L2.au3._auto_1):PE X (.Call (.Attribute o name apos) [] [] cpos) (z4H X.K T r to):=by
 intro pins s σ H Q I h
 refine wpAny_Call_method0_late hbase hline (thn (ho pins s σ H _ I h) fun v s1 ⟨x,H1,I1,r1,ty,q1⟩=>?_)
 obtain ⟨h1,h2⟩:=VS I1 r1 ty
 exact ⟨T,id,pa,slot,hty,h1,h2,Calls.callWith_builtin rfl (PySem.evalArgs_none (hm pins s1 σ H1 x [] v [] Q I1 r1 .nil q1))⟩
theorem z04 (pa:PlainAttrs T)(slot:Slot T name id)(hty:typeOf (.builtin id)=pure (.type "method_descriptor"))(hm:MtR X id r)(ho:PE X o to)(ha:PA X (e::es) t)
  (hbase:autoParam (attributeBase o name X.env (eval o X.env)=eval o X.env) L2.au3._auto_1)
  (hfew:autoParam (((backTo cpos (starEach (e::es) X.env)).all (fun x=>!x.1)&&(backToKw cpos (keywordEach [] X.env)).all (fun x=>x.1.isSome)
   && decide ((e::es).length+([]:List Keyword).length+(if ([]:List Keyword).isEmpty then 0 else 1)<30))=true) L2.au3._auto_1)
  (hline:autoParam ((apos.endLine==cpos.line)=true) L2.au3._auto_1) (hs:autoParam (starEach (e::es) X.env=(false,eval e X.env)::starEach es X.env) L2.au3._auto_1) (hplain:autoParam ((backTo cpos (starEach es X.env)).any (·.1)=false) L2.au3._auto_1) :
  PE X (.Call (.Attribute o name apos) (e::es) [] cpos) (tBM X.K T r to t):=by
 intro pins s σ H Q I h
 refine wpAny_Call_method_late hbase hfew hline rfl (thn (ho pins s σ H _ I h) fun v s1 ⟨x,H1,I1,r1,ty,q1⟩=>?_)
 obtain ⟨h1,h2⟩:=VS I1 r1 ty
 refine ⟨T,id,pa,slot,hty,h1,h2,?_⟩
 have hA:=ha cpos pins s1 σ H1 _ I1 q1
 rw [hs] at hA ⊢
 refine Calls.callWith_builtin (by show (false||(backTo cpos (starEach es X.env)).any (·.1))=false; rw [hplain]<;>rfl) (Calls.evalArgs_plain ?_)
 exact thn hA fun us s2 ⟨vs,H2,I2,r2,q2⟩=>hm pins s2 σ H2 x vs v us Q I2 r1 r2 q2
end
def MtM (X:Cx)(id:String)(r:V->List V->Hp->VK->Prop):Prop :=
 ∀ (pins:List (Addr×Obj)) (s:Shared) (σ:St) (H:Hp) (x:V) (xs:List V) (v:Value) (us:List Value) (Q:VK),Inv X pins σ H s->RelV x v->Vals xs us->r x xs H Q ->
  wpAny (model X.prog X.w) X.A (call (.builtin id) (v::us)) (EP X pins σ Q) X.xe s
theorem Vals.one:∀ {x:V} {us:List Value},Vals [x] us->∃ u,us=[u]/\RelV x u
 | _,_,.cons r .nil=>⟨_,rfl,r⟩
theorem Vals.zero:∀ {us:List Value},Vals [] us->us=[]
 | _,.nil=>rfl
theorem Vals.rep {xs:List V}{us:List Value}(h:Vals xs us):∀ k:Nat,Vals (List.replicate k xs).flatten (List.replicate k us).flatten
 | 0=>.nil
 | k+1=>by
  rw [tS,tS,rL,rL]
  exact Vals.append h (Vals.rep h k)
theorem kX (its:List Value):∀ (k:Nat) (acc:List Value),
  List.foldl (fun x1 x2=>x1++x2) acc.toArray (List.replicate k its.toArray)=(acc++(List.replicate k its).flatten).toArray
 | 0,acc=>by simp
 | k+1,acc=>by
  have e:acc.toArray++its.toArray=(acc++its).toArray:=by simp
  have e2:(acc++its)++(List.replicate k its).flatten=acc++(List.replicate (k+1) its).flatten:=by
   rw [tS,rL,sS]
  rw [<- e2,<- kX its k (acc++its),<- e,tS,List.foldl_cons]
section
variable {X:Cx}{pins:List (Addr×Obj)}{σ:St}{H:Hp}{s:Shared}{l b:Addr}{xs ys zs:List V}
theorem Inv.lset {its its':List Value}{n:Nat}{f:Array Value->Array Value}{t':Nat}(I:Inv X pins σ H s)(hH:H l=some (.lst xs))
  (e:s.heap.get? l=some { cls:=.type "list",data:=.seq its.toArray n }) (hf:f its.toArray=its'.toArray) (hv:Vals ys its') (hz:ys.length<=sizeLine) :
  Inv X pins σ (upd H l (.lst ys)) { s with heap:=s.heap.update l (Obj.mapSeq f),toks:=t' }:=by
 have q:=PySem.IsL.update e f
 rw [hf] at q
 refine I.write (x:=l) (e:=l) (by rw [hH]; exact trivial) (.inl rfl) (fun b' u hb hu=>(Heap.get?_update_other s.heap (Obj.mapSeq f) (Ne.symm hb)).trans hu) ⟨_,q⟩ ?_
 exact ⟨hz,its',_,hv,q⟩
theorem Inv.lnew {its:List Value}{t':Nat}(I:Inv X pins σ H s)(hv:Vals ys its)(hz:ys.length<=sizeLine) :
  Inv X pins σ (upd H s.heap.objs.size (.lst ys)) { s with heap:=s.heap.push { cls:=.type "list",data:=.seq its.toArray },toks:=t' } :=
 I.laid (fun _ _ q=>Heap.get?_push_of_some _ q) (tY _) ⟨hz,its,0,hv,Heap.get?_push_size _ rfl⟩
theorem Inv.fresh (I:Inv X pins σ H s):H s.heap.objs.size=none:=I.hok.fresh (tY _)
theorem Inv.lstM (I:Inv X pins σ H s)(hH:H l=some (.lst xs)):xs.length<=sizeLine/\∃ (its:List Value) (n:Nat),Vals xs its/\xs.length=its.length/\s.heap.get? l=some { cls:=.type "list",data:=.seq its.toArray n }:=by
 obtain ⟨z,its,n,r,e⟩:=I.hok l _ hH
 exact ⟨z,its,n,r,r.length,e⟩
theorem QB {n:Nat}(h:n<=sizeLine):Builtin.List.listTooLong n=false:=by
 unfold Builtin.List.listTooLong
 exact decide_eq_false (by omega)
end
section
variable {X:Cx}
def Km:V->List V->Hp->VK->Prop:=fun x vs H Q=>∃ l xs y,x=.ref l/\vs=[y]/\H l=some (.lst xs)/\xs.length<sizeLine/\Q .non (upd H l (.lst (xs++[y])))
theorem qq:MtM X "list.append" Km:=by
 intro pins s σ H x vs v us Q I rx rv h
 obtain ⟨l,xs,y,rfl,rfl,hH,hz,q⟩:=h
 cases rx
 obtain ⟨u,rfl,ru⟩:=rv.one
 obtain ⟨z,its,n,r,hl,e⟩:=I.lstM hH
 refine call_meets F.slot_list_append ⟨_,e,rfl⟩ F.entry_list_append (F.args_list_append_2 _ _) (PySem.list_append l its.toArray n u (by rw [sG]; omega)) ⟨e,?_⟩
 refine ⟨.non,_,I.lset (its':=its++[u]) hH e (by simp) (r.append (.cons ru .nil)) ?_,rfl,q⟩
 rw [tN,List.length_singleton]
 omega
def z4s:R2:=fun x y H Q=>∃ l b xs zs,x=.ref l/\y=.ref b/\H l=some (.lst xs)/\H b=some (.lst zs)/\xs.length+zs.length<=sizeLine/\∀ p,H p=none->Q (.ref p) (upd H p (.lst (xs++zs)))
theorem z17:OpR X (binaryOp .Add) z4s:=by
 intro pins s σ H x y v u Q I rx ry h
 obtain ⟨l,b,xs,zs,rfl,rfl,hH,hB,hz,q⟩:=h
 cases rx
 cases ry
 obtain ⟨z,its,n,r,hl,e⟩:=I.lstM hH
 obtain ⟨z2,its2,n2,r2,hl2,e2⟩:=I.lstM hB
 refine PySem.P.add_list e e2 ?_ (by rw [sG,sG]; omega)
 have ea:its.toArray++its2.toArray=(its++its2).toArray:=by simp
 rw [ea]
 exact ⟨.ref _,_,I.lnew (t':=s.toks) (r.append r2) (by rw [tN]; omega),rfl,q _ I.fresh⟩
def z1F:R2:=fun x y H Q=>∃ l k xs,x=.ref l/\y=.int k/\H l=some (.lst xs)/\-(2 ^ 63)<=k/\k<2 ^ 63/\xs.length*k.toNat<=sizeLine /\
 ∀ p,H p=none->Q (.ref p) (upd H p (.lst (List.replicate k.toNat xs).flatten))
theorem Kh {α:Type}(xs:List α)(k:Nat):(List.replicate k xs).flatten.length=k*xs.length:=by
 induction k with
 | zero=>simp
 | succ k ih=>rw [tS,rL,tN,ih,Nat.succ_mul,Nat.add_comm]
theorem z1U:OpR X (binaryOp .Mult) z1F:=by
 intro pins s σ H x y v u Q I rx ry h
 obtain ⟨l,k,xs,rfl,rfl,hH,h1,h2,hz,q⟩:=h
 cases rx
 obtain ⟨t,rfl⟩:=ry
 obtain ⟨z,its,n,r,hl,e⟩:=I.lstM hH
 have hlen:its.toArray.size*k.toNat<=sizeLine:=by rw [sG,<- hl]; exact hz
 have hcap:¬ its.toArray.size*k.toNat>(2 ^ 63-1)/8:=by
  have:(sizeLine:Nat)<=(2 ^ 63-1)/8:=by decide
  omega
 have hfit:¬ (!Builtin.List.listFitsIndex k)=true:=by
  rw [fitsIndex_both h1 h2]
  exact tX
 have hlong:¬ Builtin.List.listTooLong (its.toArray.size*k.toNat)=true:=by
  rw [QB hlen]
  exact tX
 have hnew:List.foldl (fun x1 x2=>x1++x2) #[] (List.replicate (if its.toArray.isEmpty=true then 0 else k.toNat) its.toArray)=(List.replicate k.toNat its).flatten.toArray:=by
  have f0:∀ m:Nat,List.foldl (fun x1 x2=>x1++x2) #[] (List.replicate m its.toArray)=(List.replicate m its).flatten.toArray:=fun m=>by
   have:=kX its m []
   rw [tL] at this
   exact this
  rw [f0]
  cases its with
  | nil=>simp
  | cons a r'=>rw [if_neg (by simp)]
 refine wpAny_binaryOp_repeat_ref (T:="list") (U:="int") (by decide) ⟨_,e,rfl⟩ (fun s'=>typeIs_int s' k t) noFill_list_mul F.fills_int_mul F.slot_int_rmul repeat_list F.slot_int_index.lookup
  (call_meets F.slot_int_rmul (typeIs_int s k t) F.entry_int_rmul (F.args_int_rmul_2 _ _) (int___rmul___int_list k t l its.toArray n)
   ⟨e,rfl,⟨_,e,rfl⟩,call_meets F.slot_list_mul ⟨_,e,rfl⟩ F.entry_list_mul (F.args_list_mul_2 _ _) (AutoListH.list___mul___list_int_3 l its.toArray n k t hfit hcap hlong) ⟨e,?_⟩⟩)
 rw [hnew]
 exact ⟨.ref _,_,I.lnew (t':=s.toks) (r.rep k.toNat) (by rw [Kh,Nat.mul_comm]; exact hz),rfl,q _ I.fresh⟩
end
section
variable {prog:Program}{w:World}{A:Around}{E:Value->Shared->Prop}{s:Shared}
end
section
variable {X:Cx}
end
section
variable {κ:Type}[DecidableEq κ]
def vG (kvs:List (κ×V))(k:κ):Option V:=(kvs.find? fun kv=>decide (kv.1=k)).map (·.2)
def xJ (kvs:List (κ×V))(k:κ)(v:V):List (κ×V) :=
 if (kvs.any fun kv=>decide (kv.1=k))=true then kvs.map (fun kv=>if kv.1=k then (kv.1,v) else kv) else kvs++[(k,v)]
def z07 (kvs:List (κ×V))(k:κ):List (κ×V):=kvs.filter fun kv=>decide (kv.1≠k)
theorem vJ {p:κ×V}{r:List (κ×V)}{k:κ}(e:p.1=k):vG (p::r) k=some p.2:=by simp [vG,rV,e]
theorem wV {p:κ×V}{r:List (κ×V)}{k:κ}(e:¬ p.1=k):vG (p::r) k=vG r k:=by simp [vG,rV,e]
theorem Yk (k:κ):∀ kvs:List (κ×V),(kvs.any fun kv=>decide (kv.1=k))=(vG kvs k).isSome
 | []=>rfl
 | p::r=>by
  rw [List.any_cons]
  by_cases e:p.1=k
  ·simp only [vJ e,decide_eq_true e,Bool.true_or,Option.isSome_some]
  ·rw [wV e,decide_eq_false e,Bool.false_or]; exact Yk k r
theorem vM (kvs:List (κ×V))(k:κ)(v:V):(xJ kvs k v).length<=kvs.length+1:=by
 unfold xJ
 split
 ·rw [tP]; omega
 ·rw [tN,tH,tM]; omega
theorem RelO.isSome_eq {o:Option V}{u:Option Value}(r:RelO o u):o.isSome=u.isSome:=by
 cases o with
 | none=>cases u with
  | none=>rfl
  | some _=>exact (show False from r).elim
 | some _=>cases u with
  | none=>exact (show False from r).elim
  | some _=>rfl
theorem RelO.getD {o:Option V}{u:Option Value}{d:V}{d':Value}(r:RelO o u)(rd:RelV d d'):RelV (o.getD d) (u.getD d'):=by
 cases o with
 | none=>cases u with
  | none=>exact rd
  | some _=>exact (show False from r).elim
 | some _=>cases u with
  | none=>exact (show False from r).elim
  | some _=>exact r
theorem KV.val {kvs:List (κ×V)}{vs:List (κ×Value)}(r:KV kvs vs)(k:κ):RelO (vG kvs k) (valueAt vs k):=by
 unfold KV at r
 induction r with
 | nil=>exact True.intro
 | @cons p q ps qs h t ih =>
  obtain ⟨h1,h2⟩:=h
  by_cases e:p.1=k
  ·have e':q.1=k:=h1.symm.trans e
   have b:valueAt (q::qs) k=some q.2:=by simp [valueAt,rV,e']
   rw [vJ e,b]; exact h2
  ·have e':¬ q.1=k:=fun z=>e (h1.trans z)
   have b:valueAt (q::qs) k=valueAt qs k:=by simp [valueAt,rV,e']
   rw [wV e,b]; exact ih
theorem KV.any {kvs:List (κ×V)}{vs:List (κ×Value)}(r:KV kvs vs)(k:κ):(kvs.any fun kv=>decide (kv.1=k))=vs.any fun kv=>decide (kv.1=k):=by
 unfold KV at r
 induction r with
 | nil=>rfl
 | cons h t ih=>rw [List.any_cons,List.any_cons,ih,h.1]
theorem KV.repl {kvs:List (κ×V)}{vs:List (κ×Value)}(r:KV kvs vs)(k:κ){y:V}{u:Value}(ry:RelV y u) :
  KV (kvs.map fun kv=>if kv.1=k then (kv.1,y) else kv) (vs.map fun kv=>if kv.1=k then (kv.1,u) else kv):=by
 unfold KV at r ⊢
 induction r with
 | nil=>exact .nil
 | @cons p q ps qs h t ih =>
  rw [tF,tF]
  refine .cons ?_ ih
  obtain ⟨h1,h2⟩:=h
  by_cases e:p.1=k
  ·rw [if_pos e,if_pos (h1.symm.trans e)]; exact ⟨h1,ry⟩
  ·rw [if_neg e,if_neg (fun z=>e (h1.trans z))]; exact ⟨h1,h2⟩
theorem KV.put {kvs:List (κ×V)}{vs:List (κ×Value)}(r:KV kvs vs)(k:κ){y:V}{u:Value}(ry:RelV y u):KV (xJ kvs k y) (stored vs k u):=by
 unfold xJ stored
 rw [r.any k]
 by_cases e:(vs.any fun kv=>decide (kv.1=k))=true
 ·rw [if_pos e,if_pos e]; exact r.repl k ry
 ·rw [if_neg e,if_neg e]; exact Paired.snoc r ⟨rfl,ry⟩
theorem KV.drop {kvs:List (κ×V)}{vs:List (κ×Value)}(r:KV kvs vs)(k:κ):KV (z07 kvs k) (without vs k):=by
 unfold KV at r ⊢
 unfold z07 without
 induction r with
 | nil=>exact .nil
 | @cons p q ps qs h t ih =>
  obtain ⟨h1,h2⟩:=h
  rw [pU,pU]
  by_cases e:p.1=k
  ·have a:¬ decide (p.1≠k)=true:=by simp [e]
   have b:¬ decide (q.1≠k)=true:=by simp [h1.symm.trans e]
   rw [if_neg a,if_neg b]; exact ih
  ·have e':¬ q.1=k:=fun z=>e (h1.trans z)
   have a:decide (p.1≠k)=true:=by simp [e]
   have b:decide (q.1≠k)=true:=by simp [e']
   rw [if_pos a,if_pos b]; exact .cons ⟨h1,h2⟩ ih
theorem KV.keys {kvs:List (κ×V)}{vs:List (κ×Value)}(r:KV kvs vs):kvs.map (·.1)=vs.map (·.1):=by
 unfold KV at r
 induction r with
 | nil=>rfl
 | cons h t ih=>rw [tF,tF,ih,h.1]
theorem KV.length {kvs:List (κ×V)}{vs:List (κ×Value)}(r:KV kvs vs):kvs.length=vs.length:=Paired.length r
end
theorem kY {P:Program}{w:World}{k:Key}{u:Value}(r:RelV (kV k) u):(zM P w).is k u=true:=by
 cases k with
 | inl i=>obtain ⟨t,e⟩:=(show ∃ t,u=Value.int i t from r); subst e; exact Yp P w i t
 | inr x=>obtain ⟨t,e⟩:=(show ∃ t,u=Value.str x t from r); subst e; exact Yc P w x t
 | non=>cases (show u=Value.none from r); exact YK P w
theorem kz {P:Program}{w:World}:∀ {ks:List Key} {us:List Value},Vals (ks.map kV) us->ItemsAre (zM P w) ks us
 | [],_,r=>by rw [tV] at r; cases r; exact .nil
 | k::ks,_,r=>by
  rw [tF] at r
  cases r with
  | cons h t=>exact .cons (kY h) (kz t)
abbrev KT (H:Hp):List (List Key×V)->List (List Key×Addr×Value)->Prop:=Paired fun p q=>p.1=q.1/\H q.2.1=some (.tup (p.1.map kV))/\RelV p.2 q.2.2
theorem KT.val {H:Hp}{kvs:List (List Key×V)}{xs:List (List Key×Addr×Value)}(r:KT H kvs xs)(k:List Key):RelO (vG kvs k) ((atKey xs k).map (·.2)):=by
 induction r with
 | nil=>exact True.intro
 | @cons p q ps qs h t ih =>
  obtain ⟨h1,_,h2⟩:=h
  by_cases e:p.1=k
  ·have e':q.1=k:=h1.symm.trans e
   have b:atKey (q::qs) k=some q.2:=by simp [atKey,rV,e']
   rw [vJ e,b]; exact h2
  ·have e':¬ q.1=k:=fun z=>e (h1.trans z)
   have b:atKey (q::qs) k=atKey qs k:=by simp [atKey,rV,e']
   rw [wV e,b]; exact ih
theorem KT.repl {H:Hp}{kvs:List (List Key×V)}{xs:List (List Key×Addr×Value)}(r:KT H kvs xs)(k:List Key){y:V}{u:Value}(ry:RelV y u) :
  KT H (kvs.map fun kv=>if kv.1=k then (kv.1,y) else kv) (xs.map (putAt k u)):=by
 induction r with
 | nil=>exact .nil
 | @cons p q ps qs h t ih =>
  rw [tF,tF]
  refine .cons ?_ ih
  obtain ⟨h1,h2,h3⟩:=h
  unfold putAt
  by_cases e:p.1=k
  ·rw [if_pos e,if_pos (h1.symm.trans e)]; exact ⟨h1,h2,ry⟩
  ·rw [if_neg e,if_neg (fun z=>e (h1.trans z))]; exact ⟨h1,h2,h3⟩
theorem KT.put {H:Hp}{kvs:List (List Key×V)}{xs:List (List Key×Addr×Value)}(r:KT H kvs xs)(k:List Key){b:Addr}{y:V}{u:Value}(hb:H b=some (.tup (k.map kV)))(ry:RelV y u) :
  KT H (xJ kvs k y) (storedH xs k b u):=by
 have e:(kvs.any fun kv=>decide (kv.1=k))=(atKey xs k).isSome:=by
  rw [Yk,(r.val k).isSome_eq,Option.isSome_map]
 unfold xJ storedH
 rw [e]
 by_cases q:(atKey xs k).isSome=true
 ·rw [if_pos q,if_pos q]; exact r.repl k ry
 ·rw [if_neg q,if_neg q]; exact Paired.snoc r ⟨rfl,hb,ry⟩
theorem KT.keeps {H H':Hp}{kvs:List (List Key×V)}{xs:List (List Key×Addr×Value)}(r:KT H kvs xs)(ht:∀ b ys,H b=some (.tup ys)->H' b=some (.tup ys)):KT H' kvs xs :=
 Paired.mapP r fun _ _ z=>⟨z.1,ht _ _ z.2.1,z.2.2⟩
section
variable {P:Program}{w:World}{H:Hp}{h:Heap}{a:Addr}
theorem z0e {u:HO}(ok:HOk P w H h)(e:Rd H a u):ObjOk P w H h a u:=e.ok ok
theorem vC {kvs:List (Key×V)}(ok:HOk P w H h)(e:Rd H a (.dK kvs)):kvs.length<=sizeLine/\(a==sysModules)=false/\∃ vs,KV kvs vs/\h.DictOf (zM P w) a vs :=
 show ObjOk P w H h a (.dK kvs) from z0e ok e
theorem Wl {kvs:List (Key×V)}(ok:HOk P w H h)(e:H a=some (.dK kvs)):kvs.length<=sizeLine/\(a==sysModules)=false/\∃ vs,KV kvs vs/\h.DictOf (zM P w) a vs:=vC ok (.inl e)
theorem Z9 {ks:List Key}(ok:HOk P w H h)(e:H a=some (.tup (ks.map kV))):(tupleKind (zM P w)).is h ks a:=by
 obtain ⟨_,its,r,o,h1,h2,_,n,h3⟩:=(show ObjOk P w H h a (.tup (ks.map kV)) from ok a _ e)
 exact ⟨o,its.toArray,n,h1,h2,h3,by simpa using kz r⟩
theorem YC {kvs:List (List Key×V)}(ok:HOk P w H h)(e:Rd H a (.dT kvs)):kvs.length<=sizeLine/\(a==sysModules)=false /\
  ∃ xs,KT H kvs xs/\h.DictOfH (tupleKind (zM P w)) a xs:=by
 obtain ⟨z,y,xs,r,o,es,ep,h1,h2,h3,h4,h5⟩:=(show ObjOk P w H h a (.dT kvs) from z0e ok e)
 refine ⟨z,y,xs,r,o,es,ep,h1,h2,h3,h4,fun x hx=>?_,h5⟩
 have all:∀ {l:List (List Key×V)} {m:List (List Key×Addr×Value)},KT H l m->∀ x∈m,(tupleKind (zM P w)).is h x.1 x.2.1:=by
  intro l m q
  induction q with
  | nil=>intro x hx; exact nomatch hx
  | @cons p q ps qs hq t ih =>
   intro x hx
   rcases sJ.mp hx with e | hx
   ·subst e
    exact Z9 ok (by rw [<- hq.1]; exact hq.2.1)
   ·exact ih x hx
 exact all r x hx
theorem z4g {kvs:List (List Key×V)}(ok:HOk P w H h)(e:H a=some (.dT kvs)):kvs.length<=sizeLine/\(a==sysModules)=false /\
  ∃ xs,KT H kvs xs/\h.DictOfH (tupleKind (zM P w)) a xs:=YC ok (.inl e)
end
def DGet (H:Hp)(a:Addr)(y:V)(r:Option V):Prop :=
 (∃ kvs k,Rd H a (.dK kvs)/\y=kV k/\r=vG kvs k)\/∃ kvs k b,Rd H a (.dT kvs)/\y=.ref b/\H b=some (.tup (k.map kV))/\r=vG kvs k
def DPut (H:Hp)(a:Addr)(y v:V)(H':Hp):Prop :=
 (∃ kvs k,H a=some (.dK kvs)/\y=kV k/\kvs.length<sizeLine/\H'=upd H a (.dK (xJ kvs k v))) \/
 ∃ kvs k b,H a=some (.dT kvs)/\y=.ref b/\H b=some (.tup (k.map kV))/\kvs.length<sizeLine/\H'=upd H a (.dT (xJ kvs k v))
theorem DGet.k {H:Hp}{a:Addr}{kvs:List (Key×V)}{k:Key}(e:H a=some (.dK kvs)):DGet H a (kV k) (vG kvs k):=.inl ⟨kvs,k,.inl e,rfl,rfl⟩
theorem DGet.t {H:Hp}{a b:Addr}{kvs:List (List Key×V)}{k:List Key}(e:H a=some (.dT kvs))(eb:H b=some (.tup (k.map kV))):DGet H a (.ref b) (vG kvs k):=.inr ⟨kvs,k,b,.inl e,rfl,eb,rfl⟩
theorem DPut.k {H:Hp}{a:Addr}{kvs:List (Key×V)}{k:Key}{v:V}(e:H a=some (.dK kvs))(hl:kvs.length<sizeLine):DPut H a (kV k) v (upd H a (.dK (xJ kvs k v))):=.inl ⟨kvs,k,e,rfl,hl,rfl⟩
theorem DPut.t {H:Hp}{a b:Addr}{kvs:List (List Key×V)}{k:List Key}{v:V}(e:H a=some (.dT kvs))(eb:H b=some (.tup (k.map kV)))(hl:kvs.length<sizeLine) :
  DPut H a (.ref b) v (upd H a (.dT (xJ kvs k v))):=.inr ⟨kvs,k,b,e,rfl,eb,hl,rfl⟩
section
variable {X:Cx}{pins:List (Addr×Obj)}{σ:St}{H:Hp}{s:Shared}{a:Addr}{y v:V}{u r:Value}{o:Option V}{A:Around}{E:Value->Shared->Prop}
theorem Inv.big (I:Inv X pins σ H s):sysModules<s.heap.objs.size:=by
 have h:mainGlobals<s.heap.objs.size:=(I.mod.glob.keeps I.bk).lt
 exact Nat.lt_trans (by decide) h
theorem Vg {Q:Value->Shared->Prop}(hu:A.units+1<cLine)(I:Inv X pins σ H s)(g:DGet H a y (some v))(ry:RelV y u)(h:∀ w' s',Inv X pins σ H s'->RelV v w'->Q w' s') :
  wpAny (model X.prog X.w) A (getItem (.ref a) u) Q E s:=by
 rcases g with ⟨kvs,k,e,ey,l⟩ | ⟨kvs,k,b,e,ey,eb,l⟩
 ·subst ey
  obtain ⟨z,hd,vs,rel,dd⟩:=vC I.hok e
  obtain ⟨w',hw,rw'⟩:=RelO.some_of (v:=v) (o:=valueAt vs k) (by rw [l]; exact rel.val k)
  exact wpAny_getItem_of (kY ry) dd.mapOf hw (h w' _ (I.tok _) rw')
 ·subst ey
  cases (show u=Value.ref b from ry)
  obtain ⟨z,hd,xs,rel,dd⟩:=YC I.hok e
  obtain ⟨w',hw,rw'⟩:=RelO.some_of (v:=v) (o:=(atKey xs k).map (·.2)) (by rw [l]; exact rel.val k)
  obtain ⟨p,hp,hp2⟩:=rW.mp hw
  refine wpAny_getItem_heap (tupleKind_room_in1 hu) (Z9 I.hok eb) dd hp ?_
  rw [hp2]
  exact h w' _ (I.tok _) rw'
theorem ZH {h':Heap}{t':Nat}{ob:HO}(I:Inv X pins σ H s)(mu:Mut (H a))(hs:Heap.SameBut a s.heap h')(he:∃ q,h'.get? a=some q)(new:ObjOk X.prog X.w (upd H a ob) h' a ob) :
  Inv X pins σ (upd H a ob) { s with heap:=h',toks:=t' } :=
 I.write (x:=a) (e:=a) mu (.inl rfl) (fun b q hb z=>(hs.2 b hb).trans z) he new
theorem QS {P:Program}{w:World}{H':Hp}{h':Heap}{kvs:List (Key×V)}{vs:List (Key×Value)}(z:kvs.length<=sizeLine)(hd:(a==sysModules)=false)(rel:KV kvs vs)(dd:h'.DictOf (zM P w) a vs) :
  ObjOk P w H' h' a (.dK kvs):=⟨z,hd,vs,rel,dd⟩
theorem V4 {H':Hp}{Q:Unit->Shared->Prop}(hu:A.units+1<cLine)(I:Inv X pins σ H s)(g:DPut H a y v H')(ry:RelV y u)(rv:RelV v r)(h:∀ s',Inv X pins σ H' s'->Q () s') :
  wpAny (model X.prog X.w) A (setItem (.ref a) u r) Q E s:=by
 rcases g with ⟨kvs,k,e,ey,l,eH⟩ | ⟨kvs,k,b,e,ey,eb,l,eH⟩
 ·subst ey eH
  obtain ⟨z,hd,vs,rel,dd⟩:=Wl I.hok e
  have hz:vs.length<=sizeLine:=by rw [<- rel.length]; exact z
  have hl:(xJ kvs k v).length<=sizeLine:=by have:=vM kvs k v; omega
  refine wpAny_setItem_pairs (hsz:=hz) (kY ry) dd fun h' dd' hs=>h _ ?_
  have he:∃ q,h'.get? a=some q:=let ⟨q,_,_,hq,_⟩:=dd'; ⟨q,hq⟩
  exact ZH I (by rw [e]; exact True.intro) hs he (QS hl hd (rel.put k rv) dd')
 ·subst ey eH
  cases (show u=Value.ref b from ry)
  obtain ⟨z,hd,xs,rel,dd⟩:=z4g I.hok e
  have hz:xs.length<=sizeLine:=by rw [<- Paired.length rel]; exact z
  have hl:(xJ kvs k v).length<=sizeLine:=by have:=vM kvs k v; omega
  refine wpAny_setItem_heap (hsz:=hz) (tupleKind_room_in1 hu) (Z9 I.hok eb) dd fun h' dd' hs=>h _ ?_
  obtain ⟨q,es,ep,hq,h2,h3,h4,_,h5⟩:=dd'
  refine ZH I (by rw [e]; exact True.intro) hs ⟨q,hq⟩ ⟨hl,hd,_,(rel.put k eb rv).keeps fun c ys ec=>?_,q,es,ep,hq,h2,h3,h4,h5⟩
  rw [zI (z3o ec e (fun z=>nomatch z))]
  exact ec
end
section
variable {X:Cx}{pins:List (Addr×Obj)}{σ:St}{H:Hp}{s:Shared}{a:Addr}{kvs:List (Key×V)}{k:Key}{u:Value}{A:Around}{E:Value->Shared->Prop}
theorem z4l {Q:Value->Shared->Prop}(I:Inv X pins σ H s)(e:Rd H a (.dK kvs))(h:∀ t s',Inv X pins σ H s'->Q (.int kvs.length t) s'):wpAny (model X.prog X.w) A (call (.builtin "len") [.ref a]) Q E s:=by
 obtain ⟨z,hd,vs,rel,dd⟩:=vC I.hok e
 refine call_len_dict hd dd (by rw [<- rel.length]; rw [sizeLine_eq] at z; omega) ?_
 rw [<- rel.length]
 exact h _ _ (I.tok _)
end
def z47 (i:Expr):Prop:=∀ ov iv,subscripted i false ov iv=operate [ov,iv] (getItem ov iv)
theorem JV {prog:Program}{w:World}{A:Around}{E:Value->Shared->Prop}{s:Shared}{env:Env}{value slice:Expr}{pos:Pos}{T id:String}{Q:Value->Shared->Prop}
  (hl:typeLookup (.type T) "__getitem__"=pure (some (.builtin id))) (hs:z47 slice)
  (h:wpAny (model prog w) A (eval value env) (fun o s₁=>wpAny (model prog w) A (eval slice env) (fun i s₂=>s₂.TypeIs o T/\wpAny (model prog w) A (getItem o i) Q E s₂) E s₁) E s) :
  wpAny (model prog w) A (eval (.Subscript value slice pos) env) Q E s:=by
 refine Subscript_ (wpAny_mono h (fun o s₁ h₁=>wpAny_mono h₁ (fun i s₂ h₂=>?_) fun _ _ x=>x) fun _ _ x=>x)
 obtain ⟨hT,h₂⟩:=h₂
 unfold subscriptTail
 refine wpAny_bind ?_
 rw [getitemInPython_of_ne hT.not_modules]
 refine wpAny_bind (wpAny_specialOf hT hl ?_)
 have fin:wpAny (model prog w) A (subscripted slice false o i) (fun r s₃=>wpAny (model prog w) A (letTemporaryGo value o r >>= fun _=>pure r) Q E s₃) E s₂:=by
  rw [hs o i]
  exact wpAny_operating (wpAny_mono h₂ (fun r s₃ h₃=>wpAny_bind (wpAny_letTemporaryGo (wpAny_pure h₃))) fun _ _ x=>x)
 first
  | exact wpAny_pure (wpAny_bind fin)
  | exact wpAny_bind (wpAny_pure (wpAny_bind fin))
  | exact wpAny_bind fin
theorem YQ {X:Cx}{pins:List (Addr×Obj)}{σ:St}{H:Hp}{s:Shared}{a:Addr}{y:V}{o:Option V}(I:Inv X pins σ H s)(g:DGet H a y o):s.TypeIs (.ref a) "dict":=by
 rcases g with ⟨kvs,k,e,_,_⟩ | ⟨kvs,k,b,e,_,_,_⟩
 ·obtain ⟨_,_,vs,_,dd⟩:=vC I.hok e
  exact dd.typeIs
 ·obtain ⟨_,_,xs,_,dd⟩:=YC I.hok e
  exact dd.typeIs
def XS (td ty:TE):TE:=fun σ H Q=>td σ H fun x H1=>ty σ H1 fun y H2=>∃ a v,x=.ref a/\DGet H2 a y (some v)/\Q v H2
def z2O (td ty tv:TE):TS:=fun D σ H=>tv σ H fun v H1=>td σ H1 fun x H2=>ty σ H2 fun y H3=>∃ a H4,x=.ref a/\DPut H3 a y v H4/\D.nx σ H4
section
variable {X:Cx}{o i e value:Expr}{pos pos' tpos:Pos}{td ty tv:TE}
theorem Wu (hu:X.A.units+1<cLine)(ho:PE X o td)(hi:PE X i ty)(hs:z47 i):PE X (.Subscript o i pos) (XS td ty):=by
 intro pins s σ H Q I h
 refine JV PySem.F.slot_dict_getitem.lookup hs (thn (ho pins s σ H _ I h) fun u s1 ⟨x,H1,I1,rx,q1⟩=>thn (hi pins s1 σ H1 _ I1 q1) fun iv s2 ⟨y,H2,I2,ry,a,v,ex,g,q2⟩=>?_)
 subst ex
 obtain rfl:u=Value.ref a:=rx
 exact ⟨YQ I2 g,Vg hu I2 g ry fun w' s3 I3 rw'=>⟨v,H2,I3,rw',q2⟩⟩
theorem Jz (hu:X.A.units+1<cLine)(ho:PE X o td)(hi:PE X i ty)(hv:PE X value tv)(hs:swapsWith value (some (.Subscript o i pos')) pos.line X.env=pure false) :
  PS X (.Assign [.Subscript o i pos'] value pos) (z2O td ty tv):=by
 intro pins s σ H D I h
 refine wpAny_Assign_Subscript (thn (hv pins s σ H _ I h) fun r s1 ⟨v,H1,I1,rv,q1⟩=>thn (ho pins s1 σ H1 _ I1 q1) fun u s2 ⟨x,H2,I2,rx,q2⟩=>thn (hi pins s2 σ H2 _ I2 q2) fun iv s3 ⟨y,H3,I3,ry,a,H4,ex,g,q3⟩=>?_) hs
 subst ex
 obtain rfl:u=Value.ref a:=rx
 exact V4 hu I3 g ry rv fun s4 I4=>⟨σ,H4,I4,q3⟩
end
theorem Y5 {P:Program}{w:World}{H:Hp}(h:Heap)(hb:sysModules<h.objs.size):ObjOk P w H (h.push { cls:=.type "dict",data:=.dict #[] }) h.objs.size (.dK []) :=
 ⟨rO _,beq_eq_false_iff_ne.mpr (Ne.symm (sV hb)),[],.nil,Heap.DictOf.new h⟩
def z2k:TE:=fun _ H Q=>∀ p,H p=none->Q (.ref p) (upd H p (.dK []))
section
variable {X:Cx}{pos:Pos}
theorem Qg:PE X (.Dict [] [] pos) z2k:=fun pins s σ H Q I h =>
 wpAny_Dict_empty ⟨.ref s.heap.objs.size,_,I.laid (a:=s.heap.objs.size) (o:=.dK []) (t':=s.toks) (fun _ _ q=>Heap.get?_push_of_some _ q) (tY _) (Y5 s.heap I.big),rfl,h _ (I.hok.fresh (tY _))⟩
end
def Zs:List (TE×TE)->St->Hp->(List (V×V)->Hp->Prop)->Prop
 | [],_,H,Q=>Q [] H
 | (tk,tv)::r,σ,H,Q=>tk σ H fun x H1=>tv σ H1 fun y H2=>Zs r σ H2 fun ps H3=>Q ((x,y)::ps) H3
abbrev VV:List (V×V)->List (Value×Value)->Prop:=Paired fun p q=>RelV p.1 q.1/\RelV p.2 q.2
def PPs (X:Cx)(pos:Pos)(keys:List (Option Expr))(values:List Expr)(trs:List (TE×TE)):Prop :=
 ∀ (pins:List (Addr×Obj)) (s:Shared) (σ:St) (H:Hp) (Q:List (V×V)->Hp->Prop),Inv X pins σ H s->Zs trs σ H Q ->
  wpAny (model X.prog X.w) X.A (evalPairs (pairTrees keys values X.env pos)) (fun vs s'=>∃ ps H',Inv X pins σ H' s'/\VV ps vs/\Q ps H') X.xe s
theorem Ke {X:Cx}{pos:Pos}:PPs X pos [] [] []:=fun pins s σ H Q I h=>pairTrees_nil_walk ⟨[],H,I,.nil,h⟩
theorem Ut {X:Cx}{pos:Pos}{k v:Expr}{ks:List (Option Expr)}{vs:List Expr}{tk tv:TE}{trs:List (TE×TE)}(hk:PE X k tk)(hv:PE X v tv)(hr:PPs X pos ks vs trs) :
  PPs X pos (some k::ks) (v::vs) ((tk,tv)::trs):=fun pins s σ H Q I h =>
 pairTrees_cons_walk (thn (hk pins s σ H _ I h) fun u s1 ⟨x,H1,I1,rx,q1⟩=>thn (hv pins s1 σ H1 _ I1 q1) fun w2 s2 ⟨y,H2,I2,ry,q2⟩ =>
  thn (hr pins s2 σ H2 _ I2 q2) fun ws s3 ⟨ps,H3,I3,rel,q3⟩=>⟨(x,y)::ps,H3,I3,.cons ⟨rx,ry⟩ rel,q3⟩)
def xn (kvs more:List (Key×V)):List (Key×V):=more.foldl (fun acc kv=>xJ acc kv.1 kv.2) kvs
theorem KV.merge:∀ {more:List (Key×V)} {rs:List (Key×Value)} {kvs:List (Key×V)} {vs:List (Key×Value)},KV more rs->KV kvs vs->KV (xn kvs more) (merged vs rs):=by
 intro more rs kvs vs r
 unfold KV at r
 induction r generalizing kvs vs with
 | nil=>intro q; exact q
 | @cons p q ps qs h t ih =>
  intro r0
  have e:KV (xJ kvs p.1 p.2) (stored vs q.1 q.2):=by
   have:=r0.put p.1 h.2
   rw [<- h.1]; exact this
  exact ih e
theorem u6:∀ (more kvs:List (Key×V)),(xn kvs more).length<=kvs.length+more.length
 | [],kvs=>by show kvs.length<=kvs.length+0; omega
 | p::r,kvs=>by
  have h1:=u6 r (xJ kvs p.1 p.2)
  have h2:=vM kvs p.1 p.2
  show (xn (xJ kvs p.1 p.2) r).length<=_
  rw [tH]; omega
theorem jv {P:Program}{w:World}:∀ {kvs:List (Key×V)} {ws:List (Value×Value)},VV (kvs.map fun kv=>(kV kv.1,kv.2)) ws->∃ rs,Carries (zM P w) ws rs/\KV kvs rs
 | [],_,r=>by rw [tV] at r; cases r; exact ⟨[],True.intro,.nil⟩
 | p::kvs,_,r=>by
  rw [tF] at r
  cases r with
  | @cons a b as bs h t =>
   obtain ⟨rs,c,q⟩:=jv (P:=P) (w:=w) t
   obtain ⟨b1,b2⟩:=b
   exact ⟨(p.1,b2)::rs,⟨kY h.1,rfl,c⟩,.cons ⟨rfl,h.2⟩ q⟩
def z2B (trs:List (TE×TE)):TE:=fun σ H Q=>∀ p,H p=none->Zs trs σ (upd H p (.dK [])) fun ps H2=>H2 p=some (.dK [])/\∃ kvs:List (Key×V),ps=kvs.map (fun kv=>(kV kv.1,kv.2))/\kvs.length<=15/\Q (.ref p) (upd H2 p (.dK (xn [] kvs)))
theorem Kj {X:Cx}{pos:Pos}{keys:List (Option Expr)}{values:List Expr}{trs:List (TE×TE)}(h:PPs X pos keys values trs)(hall:keys.all (·.isSome)=true)(hl:keys.length=values.length)(h0:keys≠[])
  (h15:keys.length<=15):PE X (.Dict keys values pos) (z2B trs):=by
 intro pins s σ H Q I q
 have hn:=I.hok.fresh (tY s.heap.objs.size)
 have I1:=I.laid (a:=s.heap.objs.size) (o:=.dK []) (h':=s.heap.push { cls:=.type "dict",data:=.dict #[] }) (t':=s.toks) (fun _ _ q=>Heap.get?_push_of_some _ q) (tY _) (Y5 s.heap I.big)
 refine wpAny_Dict_walk (knd:=zM X.prog X.w) hall hl h0 h15 (thn (h pins _ σ _ _ I1 (q _ hn)) fun ws s2 ⟨ps,H2,I2,rel,e,kvs,ep,lk,q2⟩=>?_)
 subst ep
 obtain ⟨rs,c,rk⟩:=jv (P:=X.prog) (w:=X.w) rel
 obtain ⟨z,hd,vs0,r0,dd⟩:=Wl I2.hok e
 cases r0
 refine ⟨rs,c,dd,fun h' dd' hs=>⟨.ref s.heap.objs.size,_,?_,rfl,q2⟩⟩
 have hz:(xn [] kvs).length<=sizeLine:=by
  have h1:=u6 kvs []
  rw [tM] at h1
  rw [sizeLine_eq]; omega
 have he:∃ q,h'.get? s.heap.objs.size=some q:=let ⟨q,_,_,hq,_⟩:=dd'; ⟨q,hq⟩
 exact ZH I2 (by rw [e]; exact True.intro) hs he (QS hz hd (rk.merge .nil) dd')
structure M1 (X:Cx)(o:Expr)(m:Str)(apos:Pos)(e:Expr)(cpos:Pos):Prop where
 base:attributeBase o m X.env (eval o X.env)=eval o X.env
 few:((backTo cpos (starEach [e] X.env)).all (fun x=>!x.1)&&(backToKw cpos (keywordEach [] X.env)).all (fun x=>x.1.isSome)
  && decide (([e]:List Expr).length+([]:List Keyword).length+(if ([]:List Keyword).isEmpty then 0 else 1)<30))=true
 line:(apos.endLine==cpos.line)=true
 trees:backTo cpos (starEach [e] X.env)=[(false,eval e X.env)]
structure M2 (X:Cx)(o:Expr)(m:Str)(apos:Pos)(e f:Expr)(cpos:Pos):Prop where
 base:attributeBase o m X.env (eval o X.env)=eval o X.env
 few:((backTo cpos (starEach [e,f] X.env)).all (fun x=>!x.1)&&(backToKw cpos (keywordEach [] X.env)).all (fun x=>x.1.isSome)
  && decide (([e,f]:List Expr).length+([]:List Keyword).length+(if ([]:List Keyword).isEmpty then 0 else 1)<30))=true
 line:(apos.endLine==cpos.line)=true
 trees:backTo cpos (starEach [e,f] X.env)=[(false,eval e X.env),(false,eval f X.env)]
def IsD (H:Hp)(a:Addr):Prop:=(∃ kvs,Rd H a (.dK kvs))\/∃ kvs,Rd H a (.dT kvs)
theorem z14 {X:Cx}{pins:List (Addr×Obj)}{σ:St}{H:Hp}{s:Shared}{a:Addr}(I:Inv X pins σ H s)(d:IsD H a) :
  s.TypeIs (.ref a) "dict"/\(∀ b,Value.ref a=.ref b->∃ ob,s.heap.get? b=some ob/\ob.dict=none)/\(a==sysModules)=false:=by
 rcases d with ⟨kvs,e⟩ | ⟨kvs,e⟩
 ·obtain ⟨_,hd,vs,_,dd⟩:=vC I.hok e
  refine ⟨dd.typeIs,fun b q=>?_,hd⟩
  cases q
  obtain ⟨ob,_,_,h1,h2,_⟩:=dd
  exact ⟨ob,h1,h2.2.1⟩
 ·obtain ⟨_,hd,xs,_,dd⟩:=YC I.hok e
  refine ⟨dd.typeIs,fun b q=>?_,hd⟩
  cases q
  obtain ⟨ob,_,_,h1,h2,_⟩:=dd
  exact ⟨ob,h1,h2.2.1⟩
section
variable {X:Cx}{pins:List (Addr×Obj)}{σ:St}{H:Hp}{s:Shared}{a:Addr}{y d:V}{u r:Value}{o:Option V}{A:Around}{E:Value->Shared->Prop}
theorem z2o {Q:Value->Shared->Prop}(hu:A.units+1<cLine)(I:Inv X pins σ H s)(g:DGet H a y o)(ry:RelV y u)(rd:RelV d r)(h:∀ w' s',Inv X pins σ H s'->RelV (o.getD d) w'->Q w' s') :
  wpAny (model X.prog X.w) A (call (.builtin "dict.get") [.ref a,u,r]) Q E s:=by
 rcases g with ⟨kvs,k,e,ey,l⟩ | ⟨kvs,k,b,e,ey,eb,l⟩
 ·subst ey
  obtain ⟨z,hd,vs,rel,dd⟩:=vC I.hok e
  refine call_meetsIn PySem.F.slot_dict_get dd.typeIs PySem.F.entry_dict_get (PySem.F.args_dict_get_3 _ _ _) (meets_dict_get_default (zM X.prog X.w) a (kY ry) hd r) ⟨_,dd.mapOf,h _ _ (I.tok _) ?_⟩
  rw [l]
  exact (rel.val k).getD rd
 ·subst ey
  cases (show u=Value.ref b from ry)
  obtain ⟨z,hd,xs,rel,dd⟩:=YC I.hok e
  refine call_meetsIn PySem.F.slot_dict_get dd.typeIs PySem.F.entry_dict_get (PySem.F.args_dict_get_3 _ _ _) (meetsH_dict_get_default (tupleKind (zM X.prog X.w)) a b hd r) ⟨tupleKind_room_in1 hu,k,xs,Z9 I.hok eb,dd,h _ _ (I.tok _) ?_⟩
  rw [l]
  exact (rel.val k).getD rd
end
def z1f (td ty tx:TE):TE:=fun σ H Q=>td σ H fun x H1=>∃ a,x=.ref a/\IsD H1 a/\ty σ H1 fun y H2=>tx σ H2 fun z H3=>∃ o,DGet H3 a y o/\Q (o.getD z) H3
section
variable {X:Cx}{o e f:Expr}{apos cpos:Pos}{td ty tx:TE}
theorem QV (hu:X.A.units+1<cLine)(ho:PE X o td)(he:PE X e ty)(hf:PE X f tx)(m:M2 X o "get" apos e f cpos):PE X (.Call (.Attribute o "get" apos) [e,f] [] cpos) (z1f td ty tx):=by
 intro pins s σ H Q I h
 refine wpAny_Call_method m.base m.few m.line PySem.F.plainAttrs_dict PySem.F.slot_dict_get PySem.F.type_dict_get (thn (ho pins s σ H _ I h) fun u s1 ⟨x,H1,I1,rx,a,ex,d,q1⟩=>?_)
 subst ex
 obtain rfl:u=Value.ref a:=rx
 obtain ⟨t1,t2,_⟩:=z14 I1 d
 refine ⟨t1,t2,?_⟩
 rw [m.trees]
 refine Calls.callWith_builtin rfl (Calls.evalArgs_plain (Calls.spliced_cons (thn (he pins s1 σ H1 _ I1 q1) fun iv s2 ⟨y,H2,I2,ry,q2⟩ =>
  Calls.spliced_cons (thn (hf pins s2 σ H2 _ I2 q2) fun fv s3 ⟨z,H3,I3,rz,ov,g,q3⟩=>Calls.spliced_nil ?_))))
 exact z2o hu I3 g ry rz fun w' s4 I4 rw'=>⟨_,H3,I4,rw',q3⟩
end
section
variable {X:Cx}{pins:List (Addr×Obj)}{σ:St}{H:Hp}{s:Shared}{a:Addr}{kvs:List (Key×V)}{A:Around}{E:Value->Shared->Prop}
end
section
variable {X:Cx}{pins:List (Addr×Obj)}{σ:St}{H:Hp}{s:Shared}{a:Addr}{y:V}{u:Value}{A:Around}{E:Value->Shared->Prop}
end
end L2
namespace Att
open PySem PySem.W PySem.Calls PyProof.Rows
theorem qQ {P:Params}{h:Heap}:∀ (ns:List Int) (vs:List Value),WellAll P h vs (ns.map WData.int)->IntsAre vs ns:=by
 intro ns
 induction ns with
 | nil =>
  intro vs w
  rw [tV] at w
  cases w
  exact .nil
 | cons n ns ih =>
  intro vs w
  rw [tF] at w
  cases w with
  | cons a b =>
   cases a
   exact .cons _ _ (ih _ b)
theorem Vy {l:OpenLaw}{n:Nat}(hn:l.most=some n){P:Params}{h:Heap}{args:List WData}{vals:List Value}
  (hpre:l.row.toRowW.claim.pre args=true) (hwl:WellAll P h vals args) :
  ∃ a vs ns,vals=[Value.ref a]/\args=[WData.list (ns.map WData.int)]/\h.get? a=some { cls:=.type "list",data:=.seq vs.toArray }/\IntsAre vs ns/\ns.length<=n:=by
 have hsh:WShape.hasAll [] args [.list .int]=true:=(pre_splitW hpre).1
 have hc:l.pre.holds [] { args:=args }=true:=(pre_splitW hpre).2
 obtain ⟨d,r,rfl,h1,h2⟩:=hasAllW_cons hsh
 obtain rfl:=hasAllW_nil h2
 obtain ⟨xs,rfl,h3⟩:=hasW_list h1
 obtain ⟨ns,rfl⟩:=items_int h3
 have hlen:ns.length<=n:=by
  unfold OpenLaw.pre at hc
  have h4:(WTm.not (.lt (.lit (.int (n:Int))) (.len (.arg 0)))).holds [] { args:=[.list (ns.map .int)] }=true:=by
   have h4:=(holds_andW hc).1
   rw [hn] at h4
   exact h4
  have h5:=condW_of h4 (w_not (w_lt w_lit (w_len_list (w_arg rfl))))
  rw [tP] at h5
  refine Nat.le_of_not_lt fun q=>?_
  have q':(n:Int)<((ns.length:Nat):Int):=by omega
  first
   | (rw [decide_eq_true q'] at h5; exact absurd h5 (by decide))
   | (simp at h5; omega)
 cases hwl with
 | cons w1 w2 =>
  cases w2
  cases w1 with
  | list ho hall=>exact ⟨_,_,ns,rfl,rfl,ho,qQ ns _ hall,hlen⟩
theorem Vr (l:OpenLaw)(args:List WData):l.row.toRowW.claim.post args (.bool true) args=true :=
 postW_of (r:=l.row.toRowW) (X:=(true==true))
  (show WShape.has [] (.bool true) .bool=true by first | rfl | decide | simp [WShape.has,WShape.arms,WShape.armsAll])
  (show (WTm.eq .res (.lit (.bool true))).value [] { args:=args,res:=some (.bool true),after:=args }=some (.bool (true==true)) from w_eq_bool (w_res rfl) w_lit) rfl
theorem attach_call {l:OpenLaw}{n:Nat}{q:Program}{loose:List Str}{XP:(Str->Option Value)->Heap->Prop}{YP:World->Heap->Prop}{d:DefRec}
  (hn:l.most=some n) (hdf:d.params.defaults=[])
  (call:∀ (w:World) (s₀ s₁:Shared) (mg mb:Str->Option Value) (fa:Addr) (o:Obj) (pm cd doc:Value) (a:Addr) (vs:List Value) (ns:List Int),
   Ground q loose [] XP w s₀ mg mb s₁.heap->YP w s₁.heap ->
   s₁.heap.get? fa=some o->o.data=.func (docDef d.name d.params d.body d.scope pm cd doc)->s₁.heap.CodeRec cd d.name->mg d.name=some (.ref fa) ->
   s₁.heap.get? a=some { cls:=.type "list",data:=.seq vs.toArray }->IntsAre vs ns->ns.length<=n->s₁.gens=#[] ->
   codeAny (model l.prog w) callerA (.call (.ref fa) ⟨[.ref a],[]⟩) (fun r s'=>r=.ok (.ret (.bool true))/\OldK s₁.heap s'.heap/\s'.os=s₁.os/\AllBare s'.gens) s₁) :
  WalkO q loose XP YP l.row.toRowW d [] (fun f vs=>PySem.call f vs):=by
 intro w s₀ s₁ mg mb G Y fa o pm cd doc dV kV ho hd hcd hD hmg hg args vals as hpre hlay hrd hwl hlo
 obtain rfl:dV=.none:=Dflts.none hD hdf
 obtain rfl:kV=.none:=Dflts.noKw hD
 obtain ⟨a,vs,ns,rfl,rfl,hobj,hints,hlen⟩:=Vy hn hpre hwl
 refine enter_call (codeAny_mono (call w s₀ s₁ mg mb fa o pm cd doc a vs ns G Y ho (fd_plain hd) hcd hmg hobj hints hlen hg) fun r s' hq=>?_)
 obtain ⟨rfl,h2,h3,h4⟩:=hq
 exact ⟨.inl ⟨.bool true,.bool true,[],rfl,fun _=>rfl,.bool true,Vr l _,fun _=>⟨List.Pairwise.nil,fun _ hm=>(nomatch hm)⟩⟩,h2,h3,h4⟩
section
variable {prog:Program}{w:World}{A:Around}{E:Value->Shared->Prop}{s:Shared}{K:Frag}
end
end Att
namespace L2
open PySem PySem.Spec PyProof.Rows
theorem kO:∀ {vs:List Value} {ns:List Int},IntsAre vs ns->Vals (ns.map V.int) vs
 | _,_,.nil=>.nil
 | _,_,.cons n t h=>.cons ⟨t,rfl⟩ (kO h)
def JG (H:Hp):Prop:=∀ b,H b=none\/∃ o xs,H b=some (.frz o (.lst xs))
theorem U8 {P:Program}{w:World}{K:PySem.W.Frag}{mg mb:Str->Option Value}{CX:CXT}{k:Nat}{fa a:Addr}{fd:FuncData}{x:Str}{sp:Sp}{s₁:Shared}{vs:List Value}{ns:List Int}
  (KX:K.In s₁.heap) (hns:s₁.heap.Ns mainGlobals mg) (hb:s₁.heap.Ns builtinsNs mb) (hbb:∀ x:Str,x≠"__name__"->mb x=bootBuiltins x) (hlim:s₁.heap.NoLimit) (hg:s₁.gens=#[])
  (ha:s₁.heap.get? a=some { cls:=.type "list",data:=.seq vs.toArray }) (hi:IntsAre vs ns) (hl:ns.length<=sizeLine) (hr:Room k callerA)
  (F:∀ base:Heap,K.In base->base.Ns mainGlobals mg->FnOk P w K mg base CX k fa fd [x] sp) (hbind:∀ (s:Shared) (u:Value),BindsTo s fd ⟨[u],[]⟩ [(x,u)])
  (hsp:∀ H:Hp,JG H->SqL K H a (ns.map V.int)->sp [.ref a] H (fun v _=>v=.bl true) fun _ _ _=>False)
  (hCX:∀ H e s',CX [] H s₁ (fun _ _ _=>False) e s'->False) :
  codeAny (model P w) callerA (.call (.ref fa) ⟨[.ref a],[]⟩) (fun r s'=>r=.ok (.ret (.bool true))/\OldK s₁.heap s'.heap/\s'.os=s₁.os/\AllBare s'.gens) s₁:=by
 have rv:=kO hi
 have lenV:=hi.length
 have core:∀ H:Hp,JG H->SqL K H a (ns.map V.int)->HOk P w H s₁.heap->(∀ b,H b≠none->b=a)->(H a≠none->K.lookup a=none) ->
   codeAny (model P w) callerA (.call (.ref fa) ⟨[.ref a],[]⟩) (fun r s'=>r=.ok (.ret (.bool true))/\OldK s₁.heap s'.heap/\s'.os=s₁.os/\AllBare s'.gens) s₁:=by
  intro H hO hS hok hA hK
  have base_of:∀ {b:Addr} {o:Obj},s₁.heap.get? b=some o->H b=none->(ZC s₁.heap H).get? b=some o:=fun e n=>Qb e n
  have noA:∀ {b:Addr} {o:Obj} {es:Array DictEntry} {ep:Nat},s₁.heap.get? b=some o->o.data=.dict es ep->H b=none:=fun {b o es ep} e d=>by
   cases q:H b with
   | none=>rfl
   | some u =>
    have e':b=a:=hA b (by rw [q]; simp)
    subst e'
    rw [ha] at e; cases e
    have d':Data.seq vs.toArray _=Data.dict es ep:=d
    cases d'
  have nsK:∀ {b:Addr} {m:Str->Option Value},s₁.heap.Ns b m->(ZC s₁.heap H).Ns b m:=fun {b m} ⟨o,es,ep,e,d,r⟩=>⟨o,es,ep,base_of e (noA e d),d,r⟩
  have hKb:K.In (ZC s₁.heap H):=fun b o e=>base_of (KX b o e) (by
   cases q:H b with
   | none=>rfl
   | some u =>
    have e':b=a:=hA b (by rw [q]; simp)
    subst e'
    rw [hK (by rw [q]; simp)] at e; cases e)
  have hM:Mod K mg (ZC s₁.heap H):=⟨hKb,nsK hns,⟨mb,nsK hb,hbb⟩,let ⟨mc,h1,h2⟩:=hlim; ⟨mc,nsK h1,h2⟩⟩
  have e0:Env0 P w K mg (ZC s₁.heap H) callerA [] s₁ H:=⟨rfl,hM,fun b o e=>Kg e,Nat.le_of_eq (Vb _ _),trivial,fun b hb=>absurd (show b∈([]:List Addr) from hb) (by simp),hok,.of_eq hg⟩
  refine codeAny_mono ((F _ hKb (nsK hns)).run callerA [] s₁ H ⟨[.ref a],[]⟩ [.ref a] [.ref a] _ _ hr e0 (hbind s₁ (.ref a)) (.cons rfl .nil) (hsp H hO hS)) fun r s' h=>?_
  cases r with
  | error e=>exact (hCX H e s' h).elim
  | ok fl =>
   cases fl with
   | next=>exact False.elim h
   | brk=>exact False.elim h
   | cont=>exact False.elim h
   | ret u =>
    obtain ⟨v,H',os,bare,un,hok',r',q⟩:=h
    have q':v=.bl true:=q
    subst q'
    obtain rfl:u=Value.bool true:=r'
    refine ⟨rfl,OldK.of_keep fun b o e=>?_,os,bare⟩
    cases q:H b with
    | none=>exact un.keep b o e q (by intro z; exact absurd (show b∈([]:List Addr) from z) (by simp)) (by simp)
    | some u =>
     rcases hO b with z | ⟨ob,xs,z⟩
     ·rw [q] at z; cases z
     ·have z2:=un.frzs b ob _ z
      obtain ⟨e1,_⟩:=hok b _ z
      obtain ⟨e2,_⟩:=hok' b _ z2
      rw [e] at e1; cases e1
      exact e2
 cases hk:K.lookup a with
 | some o =>
  have e:=KX a o hk
  rw [ha] at e
  cases e
  refine core (fun _=>none) (fun _=>.inl rfl) (.inr ⟨_,vs.toArray,_,hk,rfl,rfl,rfl,by rw [sG,lenV]; exact hl,by simpa using rv⟩) (fun b u z=>by have z':(none:Option HO)=some u:=z; cases z') (fun b z=>absurd rfl z) fun z=>absurd rfl z
 | none =>
  refine core (fun b=>if b=a then some (.frz { cls:=.type "list",data:=.seq vs.toArray } (.lst (ns.map V.int))) else none) (fun b=>?_) (.inl (.inr ⟨{ cls:=.type "list",data:=.seq vs.toArray },if_pos rfl⟩)) (fun b u z=>?_) (fun b z=>?_) fun _=>hk
  ·by_cases hb:b=a
   ·exact .inr ⟨_,_,if_pos hb⟩
   ·exact .inl (if_neg hb)
  ·by_cases hb:b=a
   ·have z':=(if_pos hb).symm.trans z
    cases z'
    subst hb
    exact ⟨ha,by rw [tP]; exact hl,vs,_,rv,ha⟩
   ·have z':=(if_neg hb).symm.trans z
    cases z'
  ·by_cases hb:b=a
   ·exact hb
   ·exact absurd (if_neg hb) z
theorem walk_of {l:PySem.W.OpenLaw}{n k:Nat}{q:Program}{loose:List Str}{XP:(Str->Option Value)->Heap->Prop}{YP:World->Heap->Prop}{d:DefRec}{K:Params->PySem.W.Frag}{CX:World->CXT}{sp:World->Sp}{x:Str}
  (hn:l.most=some n) (hn2:n<=sizeLine) (hdf:d.params.defaults=[]) (hr:Room k callerA)
  (hY:∀ (w:World) (h:Heap),YP w h->(K w.params).In h)
  (F:∀ (w:World) (mg:Str->Option Value) (fa:Addr) (h:Heap),(K w.params).In h->h.Ns mainGlobals mg->mg d.name=some (.ref fa) ->
   ∃ fd:FuncData,(∀ (s:Shared) (u:Value),BindsTo s fd ⟨[u],[]⟩ [(x,u)]) /\
    ∀ base:Heap,(K w.params).In base->base.Ns mainGlobals mg->FnOk l.prog w (K w.params) mg base (CX w) k fa fd [x] (sp w))
  (hsp:∀ (w:World) (H:Hp) (a:Addr) (ns:List Int),ns.length<=n->JG H->SqL (K w.params) H a (ns.map V.int)->sp w [.ref a] H (fun v _=>v=.bl true) fun _ _ _=>False)
  (hCX:∀ (w:World) (H:Hp) (s:Shared) (e:Value) (s':Shared),CX w [] H s (fun _ _ _=>False) e s'->False) :
  PySem.W.WalkO q loose XP YP l.row.toRowW d [] (fun f vs=>PySem.call f vs):=by
 refine Att.attach_call hn hdf fun w s₀ s₁ mg mb fa o pm cd doc a vs ns G Y ho hd hcd hmg hobj hints hlen hg=>?_
 have KX:=hY w _ Y
 obtain ⟨fd,hb,hF⟩:=F w mg fa _ KX G.T.g hmg
 exact U8 KX G.T.g G.T.b G.T.builtins G.T.nolimit hg hobj hints (rC hlen hn2) hr hF hb (fun H hO hS=>hsp w H a ns hlen hO hS) fun H e s'=>hCX w H s₁ e s'
def defArgs (s:Stmt):Arguments:=match s with
 | .FunctionDef _ a _ _ _ _ _ _ _ _=>a
 | _=>{ posonlyargs:=[],args:=[],vararg:=none,kwonlyargs:=[],kw_defaults:=[],kwarg:=none,defaults:=[] }
def defBody (s:Stmt):List Stmt:=match s with
 | .FunctionDef _ _ b _ _ _ _ _ _ _=>b
 | _=>[]
def defScope (s:Stmt):Scope:=match s with
 | .FunctionDef _ _ _ _ _ _ sc _ _ _=>sc
 | _=>{ kind:=.function,names:=[],isGenerator:=false,isCoroutine:=false }
abbrev CX0:CXT:=fun _ _ _ _ _ _=>False
abbrev E0:XK:=fun _ _ _=>False
structure Fun (K:PySem.W.Frag)(x qual:Str)(st:Stmt)(f:Addr)(fd:FuncData):Prop where
 ex:∃ (oc:Value) (od:Option Addr) (kV doc pm:Value) (an:Option Addr) (cdv ct:Value) (osl:Array (Option Value)),
  fd=PySem.W.fnOf x qual (defArgs st) (defBody st) (defScope st) .none kV doc pm an cdv ct/\K.lookup f=some ⟨oc,od,.func fd,osl⟩/\PySem.W.codeIn K cdv qual=true
 kp:PySem.W.keepIn K (.ref f)=true
section
variable {P:Program}{w:World}{K:PySem.W.Frag}{mg:Str->Option Value}{base:Heap}
theorem Fun.ok {x qual:Str}{st:Stmt}{f:Addr}{fd:FuncData}{N ps:List Str}{k:Nat}{sp:Sp}(F:Fun K x qual st f fd)(S:FnScope N ps (defScope st))(len:∀ vs H Q E,sp vs H Q E->vs.length=ps.length)
  (hbody:∀ (cdv:Value) (A:Around) (outer:List Env) (s:Shared) (H:Hp) (vs:List V) (Q:VK) (E:XK),Room k (A.deeper (envOfC qual (defScope st) s.heap.objs.size f cdv))->sp vs H Q E ->
   ∃ t,PSs (xF CX0 P w K mg base N qual (defScope st) f cdv A outer s H E).nox (defBody st) t/\t { nx:=fun _ H'=>Q .non H',rt:=Q } (start N vs) H):FnOk P w K mg base CX0 (k+1) f fd ps sp:=by
 obtain ⟨oc,od,kV,doc,pm,an,cdv,ct,osl,rfl,lk,hcd⟩:=F.ex
 refine VQ lk hcd S len fun A outer s H vs Q E hr hsp=>?_
 obtain ⟨t,h,q⟩:=hbody cdv A outer s H vs Q E hr hsp
 exact ⟨t,h.nox,q⟩
theorem Fun.binds {x qual:Str}{st:Stmt}{f:Addr}{fd:FuncData}{ps:List Str}(F:Fun K x qual st f fd)
  (h:∀ (kV doc pm:Value) (an:Option Addr) (cdv ct:Value) (us:List Value),us.length=ps.length->bindArgs (PySem.W.fnOf x qual (defArgs st) (defBody st) (defScope st) .none kV doc pm an cdv ct) ⟨us,[]⟩=pure (ps.zip us)):Binds K fd ps []:=by
 obtain ⟨oc,od,kV,doc,pm,an,cdv,ct,osl,rfl,lk,hcd⟩:=F.ex
 exact .all (h kV doc pm an cdv ct)
theorem VO {x qual:Str}{st:Stmt}{f:Addr}{oc:Value}{od an:Option Addr}{osl:Array (Option Value)}{kV doc pm cdv ct:Value}(l:K.lookup f=some ⟨oc,od,.func (PySem.W.fnOf x qual (defArgs st) (defBody st) (defScope st) .none kV doc pm an cdv ct),osl⟩)
  (c:PySem.W.codeIn K cdv qual=true) (k:PySem.W.keepIn K (.ref f)=true):Fun K x qual st f (PySem.W.fnOf x qual (defArgs st) (defBody st) (defScope st) .none kV doc pm an cdv ct):=⟨⟨oc,od,kV,doc,pm,an,cdv,ct,osl,rfl,l,c⟩,k⟩
end
section
variable {X:Cx}
theorem pv (i:Nat){x:Str}{pos:Pos}(hN:autoParam (X.N[i]?=some x) L2.au3._auto_1)(hv:autoParam (Vis X.env.scope x) L2.au5._auto_1)(hd:autoParam ((x==("__debug__":Str))=false) L2.au1._auto_1)
  (hcd:autoParam ((x==("__classdict__":Str))=false) L2.au1._auto_1):PE X (.Name x pos) (qo i):=qm hN hv hd hcd
theorem WV:CallR X (.builtin "len") (fun xs H Q=>∃ a kvs,xs=[V.ref a]/\H a=some (.dK kvs)/\Q (.int kvs.length) H):=by
 intro pins s σ H xs us Q I r h
 obtain ⟨a,kvs,rfl,ha,q⟩:=h
 obtain ⟨u,rfl,ru⟩:=wZ r
 cases ru
 exact z4l I (.inl ha) fun t s' I'=>⟨.int kvs.length,H,I',⟨t,rfl⟩,q⟩
end
def Same (H H':Hp):Prop:=∀ b o,H b=some o->H' b=some o
theorem Same.refl (H:Hp):Same H H:=fun _ _ h=>h
theorem Same.trans {H H1 H2:Hp}(a:Same H H1)(b:Same H1 H2):Same H H2:=fun c o h=>b c o (a c o h)
theorem Same.free {H H':Hp}(e:Same H H'){l:Addr}(h:H' l=Option.none):H l=Option.none:=by
 cases q:H l with
 | none=>rfl
 | some o =>
  rw [e l o q] at h
  cases h
theorem Same.seq {K:PySem.W.Frag}{H H':Hp}{a:Addr}{xs:List V}(e:Same H H')(h:SqL K H a xs):SqL K H' a xs:=by
 rcases h with (h | ⟨o,h⟩) | h
 ·exact .inl (.inl (e _ _ h))
 ·exact .inl (.inr ⟨o,e _ _ h⟩)
 ·exact .inr h
section
variable {κ:Type}[DecidableEq κ]
end
def z3F (fr:List Env)(H:Hp)(old:Addr->Prop)(e:Addr)(cls:Value)(h:Heap):Prop :=
 ∃ (B:Heap) (a0:Value),Heap.FlyingW B fr e cls a0 h/\∀ b o,h.get? b=some o->b∉frs fr->(H b≠none\/old b)->B.get? b=some o
def cxx (P:Program)(w:World):CXT:=fun outer H s E ev s'=>∃ (e:Addr) (cls:Value) (H':Hp),ev=.ref e/\s'.os=s.os/\AllBare s'.gens /\
 Un (frs outer) [] H H' s.heap s'.heap/\HOk P w H' s'.heap/\z3F outer H' (fun b=>∃ o,s.heap.get? b=some o) e cls s'.heap/\E cls none H'
theorem ObjOk.there {P:Program}{w:World}{H:Hp}{h:Heap}{a:Addr}{o:HO}(x:ObjOk P w H h a o):∃ ob,h.get? a=some ob:=by
 cases o with
 | lst xs=>obtain ⟨_,_,_,_,e⟩:=x; exact ⟨_,e⟩
 | tup xs=>obtain ⟨_,_,_,_,e,_⟩:=x; exact ⟨_,e⟩
 | dK kvs=>obtain ⟨_,_,_,_,o,_,_,e,_⟩:=x; exact ⟨_,e⟩
 | dT kvs=>obtain ⟨_,_,_,_,o,_,_,e,_⟩:=x; exact ⟨_,e⟩
 | set S n=>obtain ⟨o,_,_,_,e,_⟩:=x; exact ⟨_,e⟩
 | ins C dx fs=>obtain ⟨_,_,_,e,_⟩:=x; exact ⟨_,e⟩
 | own y=>obtain ⟨_,e⟩:=x; exact ⟨_,e⟩
 | xd fs=>obtain ⟨_,⟨_,_,_,e,_⟩,_⟩:=x; exact ⟨_,e⟩
 | rng lo hi=>obtain ⟨_,_,_,e⟩:=x; exact ⟨_,e⟩
 | frz ob u=>obtain ⟨e,_⟩:=x; exact ⟨_,e⟩
 | tbl ps=>exact ⟨_,(show h.get? a=some _ from x)⟩
 | met f y=>exact ⟨_,(show h.get? a=some _ from x)⟩
 | ext φ=>obtain ⟨_,⟨_,e⟩,_⟩:=x; exact ⟨_,e⟩
section
variable {X:Cx}{pins:List (Addr×Obj)}{σ:St}{H:Hp}{s:Shared}
theorem Inv.trkNo (I:Inv X pins σ H s){b:Addr}{u:HO}(q:H b=some u):b∉frs X.stack:=fun m=>by
 have z:=I.stkFree b m
 rw [q] at z; cases z
theorem Inv.oldNo (I:Inv X pins σ H s)(hst:X.stack=X.env::X.outer)(hf:X.env.frame=some X.env.locals){b:Addr}{o:Obj}(q:X.s₀.heap.get? b=some o)(n:b∉X.fs):b∉frs X.stack:=fun m=>by
 rcases sJ.mp (I.stkSub b m) with z | z
 ·exact absurd z (sV (sQ (Heap.lt_size q) I.ok.above))
 ·exact n z
theorem Wb {h' B:Heap}{e:Addr}{cls a0:Value}{E:XK}(I:Inv X pins σ H s)(hst:X.stack=X.env::X.outer)(hf:X.env.frame=some X.env.locals)(hex:X.ex=[])
  (fl:Heap.FlyingW B X.outer e cls a0 h') (cov:∀ b o,s.heap.get? b=some o->b∉frs X.stack->(H b≠none\/∃ o,X.s₀.heap.get? b=some o)->B.get? b=some o)
  (up:s.heap.UpToSlots h') (hE:E cls none H):cxx X.prog X.w X.outer X.H₀ X.s₀ E (.ref e) { s with heap:=h' }:=by
 have nex:∀ b:Addr,b∉X.ex:=fun b z=>by rw [hex] at z; cases z
 have trkd:∀ b u v,H b=some u->s.heap.get? b=some v->h'.get? b=some v:=fun b u v q r=>fl.1 b v (cov b v r (I.trkNo q) (.inl (by rw [q]; simp)))
 have oldd:∀ b o v,X.s₀.heap.get? b=some o->b∉X.fs->s.heap.get? b=some v->h'.get? b=some v:=fun b o v q n r=>fl.1 b v (cov b v r (I.oldNo hst hf q n) (.inr ⟨o,q⟩))
 have frms:∀ b o,b∈X.fs->s.heap.get? b=some o->∃ sl,h'.get? b=some { o with slots:=sl }:=fun b o hb q=>by
  obtain ⟨_,o2,ho2,nf⟩:=I.funs.mem hb
  rw [q] at ho2; cases ho2
  exact up b o q nf
 refine ⟨e,cls,H,rfl,I.os,I.bare,⟨fun b o q n hb hx=>?_,fun b o q n hb hx=>?_,fun b o q n hx=>I.base.free b o q n (nex b),fun b o q hx=>?_,I.base.tups,I.base.frzs,I.base.tbls⟩,fun b u q=>?_,⟨B,a0,fl,fun b o q n hor=>?_⟩,hE⟩
 ·exact oldd b o o q hb (I.base.keep b o q n hb (nex b))
 ·obtain ⟨sl,e1⟩:=I.base.slot b o q n hb (nex b)
  obtain ⟨sl',e2⟩:=frms b _ hb e1
  exact ⟨sl',e2⟩
 ·obtain ⟨o1,e1⟩:=I.base.there b o q (nex b)
  by_cases hb:b∈X.fs
  ·obtain ⟨sl,e2⟩:=frms b o1 hb e1
   exact ⟨_,e2⟩
  ·exact ⟨o1,oldd b o o1 q hb e1⟩
 ·refine (I.hok b u q).stay (fun c v hc r=>?_) (fun _ z=>z) fun _ _ z=>z
  rcases hc with z | z
  ·exact trkd c u v (by rw [z]; exact q) r
  ·exact trkd c _ v z r
 ·have q:h'.get? b=some o:=q
  rcases hor with hb | ⟨o0,e0⟩
  ·obtain ⟨u,hu⟩:=Option.ne_none_iff_exists'.mp hb
   obtain ⟨o1,e1⟩:=(I.hok b u hu).there
   have:=trkd b u o1 hu e1
   rw [q] at this; cases this
   exact cov b _ e1 (I.trkNo hu) (.inl hb)
  ·obtain ⟨o1,e1⟩:=I.base.there b o0 e0 (nex b)
   have:=oldd b o0 o1 e0 n e1
   rw [q] at this; cases this
   exact cov b _ e1 (I.oldNo hst hf e0 n) (.inr ⟨o0,e0⟩)
end
section
variable {P:Program}{w:World}{K:PySem.W.Frag}{mg:Str->Option Value}{base:Heap}{N:List Str}{qual:Str}{scope:Scope}{f:Addr}{cd:Value}{A:Around}{outer:List Env}{s:Shared}{H:Hp}{E:XK}
theorem zo:qx (cxx P w) (xF (cxx P w) P w K mg base N qual scope f cd A outer s H E) E:=by
 intro pins σ H1 s1 ev s' I hq
 obtain ⟨e,cls,H',rfl,os,bare,un,hok,⟨B,a0,fl,cov⟩,hE⟩:=hq
 have I':=I.call' (ch:=[]) os un hok bare (fun b z=>nomatch z)
 have hfr:(A.deeper (envOfC qual scope s.heap.objs.size f cd)).frames=some (envOfC qual scope s.heap.objs.size f cd::outer):=I.ok.frames
 refine wpAny_leaves_onW (L:=s.heap.objs.size) hfr rfl fl fun h' fl' up=>?_
 exact Wb (E:=E) I' rfl rfl rfl fl' (fun b o e1 e2 e3=>cov b o e1 e2 (by
  rcases e3 with z | ⟨o0,z⟩
  ·exact .inl z
  ·exact .inr (I.base.there b o0 z (fun q=>nomatch q)))) up hE
theorem vR {X:Cx}:qx (cxx P w) X (fun _ _ _=>False):=fun _ _ _ _ _ _ _ ⟨_,_,_,_,_,_,_,_,_,z⟩=>z.elim
theorem z2d {outer:List Env}{H:Hp}{s:Shared}{e:Value}{s':Shared}(h:cxx P w outer H s (fun _ _ _=>False) e s'):False:=let ⟨_,_,_,_,_,_,_,_,_,z⟩:=h; z
end
structure ErrCls (K:PySem.W.Frag)(mg:Str->Option Value)(x:Str)(C:Addr)(bm:List Value)(newId:String):Prop where
 gl:mg x=some (.ref C)
 own:∀ h:Heap,K.In h->h.Ns mainGlobals mg->OwnCls x C bm newId mg h
theorem Y0 {mg mb:Str->Option Value}{h:Heap}(g:h.Ns mainGlobals mg)(b:h.Ns builtinsNs mb)(bb:∀ x:Str,x≠"__name__"->mb x=bootBuiltins x)(nl:h.NoLimit)(p:Program):∃ loose,PySem.W.TopRead p loose mg mb h:=by
 obtain ⟨o,es,ep,ho,hd,hk,hf⟩:=id g
 refine ⟨es.toList.filterMap fun e=>match e.key with | .str y _=>some y | _=>none,g,b,nl,bb,fun x _ hx _ _ _=>?_⟩
 rw [<- hf]
 unfold nsFind findBy
 rw [<- Array.find?_toList]
 cases q:es.toList.find? (fun e=>e.key.isStr x) with
 | none=>rfl
 | some en =>
  exfalso
  have hm:=List.mem_of_find?_eq_some q
  have hp:=List.find?_some q
  obtain ⟨y,t,hy⟩:=hk en (by simpa using hm)
  rw [hy] at hp
  have hxy:y=x:=by simpa [Value.isStr] using hp
  exact hx (pH.mpr ⟨en,hm,by rw [hy,hxy]⟩)
structure ErrC (K:PySem.W.Frag)(x:Str)(C:Addr):Prop where
 ns:PySem.W.nsIn K mainGlobals x=some (some (.ref C))
 ex:PySem.W.excIn K C [.type "ValueError",.type "Exception",.type "BaseException",.type "object"] "ValueError.__new__"=true
theorem ErrC.mg {K:PySem.W.Frag}{x:Str}{C:Addr}{h:Heap}{mg:Str->Option Value}(e:ErrC K x C)(X:K.In h)(G:h.Ns mainGlobals mg):mg x=some (.ref C):=PySem.W.mg_of X G e.ns
section
variable {X:Cx}{pins:List (Addr×Obj)}{σ:St}{H:Hp}{s:Shared}
theorem Inv.ownCls {x:Str}{C:Addr}(I:Inv X pins σ H s)(e:ErrC X.K x C):OwnCls x C [.type "ValueError",.type "Exception",.type "BaseException",.type "object"] "ValueError.__new__" X.mg X.base:=by
 obtain ⟨mb,b1,b2⟩:=I.mod.blt
 obtain ⟨loose,T⟩:=Y0 I.mod.glob b1 b2 I.mod.nolimit X.prog
 exact PySem.W.own_of_in I.mod.kin T e.ns e.ex
theorem Uq {P:Program}{w:World}{K:PySem.W.Frag}{mg:Str->Option Value}{base:Heap}{N:List Str}{qual:Str}{scope:Scope}{f:Addr}{cd:Value}{A:Around}{outer:List Env}{s:Shared}{H:Hp}{E:XK}
  {pins:List (Addr×Obj)} {σ:St} {H1:Hp} {s1:Shared} {h':Heap} {e:Addr} {cls:Value} {vs:List Value} (I:Inv (xF (cxx P w) P w K mg base N qual scope f cd A outer s H E) pins σ H1 s1)
  (hx:Heap.MadeExcOf s1.heap h' e cls vs) (hE:E cls none H1):(xF (cxx P w) P w K mg base N qual scope f cd A outer s H E).xe (.ref e) { s1 with heap:=h' }:=by
 have hfr:(A.deeper (envOfC qual scope s.heap.objs.size f cd)).frames=some (envOfC qual scope s.heap.objs.size f cd::outer):=I.ok.frames
 have fs:=I.stack
 have hin:∀ env∈(envOfC qual scope s.heap.objs.size f cd::outer),∀ b,env.frame=some b->b∈frs (envOfC qual scope s.heap.objs.size f cd::outer):=fun env he b hb=>pH.mpr ⟨env,he,hb⟩
 refine wpAny_leaves_madeW (L:=s.heap.objs.size) (base:=PySem.W.hideAll s1.heap (frs (envOfC qual scope s.heap.objs.size f cd::outer))) hfr rfl (fun b o q=>PySem.W.of_hideAll _ q) (PySem.W.funFrames_hide fs hin) hx fun h2 t fl tup nt up=>?_
 refine Wb (E:=E) (h':=h2) I rfl rfl rfl fl (fun b o q n _=>PySem.W.hideAll_get _ q n) (fun b o q nf=>?_) hE
 exact up b o (hx.keeps b o q) nf
end
def Qm (C:Addr)(E:XK)(ta:TA):TS:=fun _ σ H=>ta σ H fun vs H1=>vs.length<=sizeLine/\E (.ref C) none H1
theorem UE {P:Program}{w:World}{K:PySem.W.Frag}{mg:Str->Option Value}{base:Heap}{N:List Str}{qual:Str}{scope:Scope}{f:Addr}{cd:Value}{A:Around}{outer:List Env}{s:Shared}{H:Hp}{E:XK}
  {x:Str} {C:Addr} {e₀:Expr} {rest:List Expr} {ta:TA} {np cpos pos:Pos} (hh:A.handled=none) (hc:ErrC K x C) (hg:Gl (xF (cxx P w) P w K mg base N qual scope f cd A outer s H E) x)
  (ha:PA (xF (cxx P w) P w K mg base N qual scope f cd A outer s H E) (e₀::rest) ta) (hd:autoParam ((x==("__debug__":Str))=false) L2.au1._auto_1)
  (he:autoParam (starEach (e₀::rest) (envOfC qual scope s.heap.objs.size f cd)=(false,eval e₀ (envOfC qual scope s.heap.objs.size f cd))::starEach rest (envOfC qual scope s.heap.objs.size f cd)) L2.au3._auto_1)
  (hp:autoParam ((backTo cpos (starEach rest (envOfC qual scope s.heap.objs.size f cd))).any (·.1)=false) L2.au3._auto_1) :
  PS (xF (cxx P w) P w K mg base N qual scope f cd A outer s H E) (.Raise (some (.Call (.Name x np) (e₀::rest) [] cpos)) none pos) (Qm C E ta):=by
 intro pins s1 σ H1 D I h
 obtain ⟨bm,NN,nm,q,bs,hdct,sn,sub,ab,col,dd,k0,k1,k2,k3,k5,mN,hC,hN,hni,T⟩:=(I.ownCls hc).obj
 have F:=PySem.F.excBase_ValueError
 refine wpAny_Raise_call_subT (C:=C) (nm:=nm) (q:=q) (N:=NN) (bs:=bs) (bm:=bm) (hdct:=hdct) (sn:=sn) (sub:=sub) (ab:=ab) (col:=col) (dd:=dd) (k0:=k0) (k1:=k1) (k2:=k2) (k3:=k3) (k5:=k5) F (mN:=mN)
  (T.hasType F.hasBase) hh (by show (backTo cpos (starEach (e₀::rest) (envOfC qual scope s.heap.objs.size f cd))).any (·.1)=false; rw [he]; exact hp) hni (uP I hg (hc.mg I.mod.kin I.mod.glob) ⟨rfl,?_⟩ hd)
 have hw:=ha cpos pins s1 σ H1 _ I h
 have hw:wpAny (model P w) (A.deeper (envOfC qual scope s.heap.objs.size f cd)) (spliced (backTo cpos (starEach (e₀::rest) (envOfC qual scope s.heap.objs.size f cd)))) _ _ s1:=hw
 show wpAny _ _ (evalArgs (.ref C) true (backTo cpos (starEach (e₀::rest) (envOfC qual scope s.heap.objs.size f cd))) []) _ _ s1
 rw [he] at hw ⊢
 refine Calls.evalArgs_plain (thn hw fun us s2 ⟨vs,H2,I2,r,z,hE⟩=>?_)
 refine ⟨rfl,by rw [<- r.length]; exact z,I2.bk _ _ hC,hN.keeps I2.bk,T.keeps I2.bk,fun h' e hx=>Uq I2 hx hE⟩
abbrev Cx.within (X:Cx)(e:Addr)(oe:Obj):Cx:={ X with A:=X.A.mark (some (.ref e)),calm:=false,pn:=X.pn++[(e,oe)],xe:=fun _ _=>False }
section
variable {X:Cx}{pins:List (Addr×Obj)}{σ:St}{H:Hp}{s:Shared}{e:Addr}{oe:Obj}
theorem Cx.Ok.within (ok:X.Ok):(X.within e oe).Ok :=
 ⟨ok.mod,ok.kind,ok.glob,ok.blt,ok.above,ok.inj,ok.has,ok.cab,(fun z=>by cases z),ok.frames,ok.stk,ok.exf,ok.bs,ok.bsz,ok.noex,ok.exfs,ok.funs,ok.frf⟩
theorem Cx.Ok.without (ok:(X.within e oe).Ok)(hd:X.calm=true->X.A.handled=none):X.Ok :=
 ⟨ok.mod,ok.kind,ok.glob,ok.blt,ok.above,ok.inj,ok.has,ok.cab,hd,ok.frames,ok.stk,ok.exf,ok.bs,ok.bsz,ok.noex,ok.exfs,ok.funs,ok.frf⟩
theorem Inv.within (I:Inv X pins σ H s)(h1:s.heap.get? e=some oe)(h2:H e=none)(h3:e≠X.env.locals)(h4:e∉X.fs)(h5:∀ v,oe.data≠.cell v):Inv (X.within e oe) pins σ H s :=
 ⟨I.ok.within,I.os,I.bare,I.base,I.loc,I.cell,I.free,I.freeC,fun p hp=>by
  rcases sE.mp hp with z | z
  ·rcases sE.mp z with z | z
   ·exact I.pin p (sC _ z)
   ·obtain rfl:=sN.mp z
    exact ⟨h1,h2,h3,h4,h5⟩
  ·exact I.pin p (tJ _ z),I.hok,I.len⟩
theorem Inv.without (I:Inv (X.within e oe) pins σ H s)(hd:X.calm=true->X.A.handled=none):Inv X pins σ H s :=
 ⟨I.ok.without hd,I.os,I.bare,I.base,I.loc,I.cell,I.free,I.freeC,fun p hp=>by
  rcases sE.mp hp with z | z
  ·exact I.pin p (sC _ (sC _ z))
  ·exact I.pin p (tJ _ z),I.hok,I.len⟩
theorem SP.without {D:Ends}{f:Flow}(h:SP (X.within e oe) pins D f s)(hd:X.calm=true->X.A.handled=none):SP X pins D f s:=by
 cases f with
 | next=>obtain ⟨σ',H',I,q⟩:=h; exact ⟨σ',H',I.without hd,q⟩
 | brk=>obtain ⟨σ',H',I,q⟩:=h; exact ⟨σ',H',I.without hd,q⟩
 | cont=>obtain ⟨σ',H',I,q⟩:=h; exact ⟨σ',H',I.without hd,q⟩
 | ret u=>obtain ⟨v,σ',H',I,r,q⟩:=h; exact ⟨v,σ',H',I.without hd,r,q⟩
theorem Inv.reframe {h':Heap}{t':Nat}{m':Str->Option Value}{σ':St}(I:Inv X pins σ H s)(hn':h'.Ns X.env.locals m')(hs:Heap.SameBut X.env.locals s.heap h')(hl:σ'.length=σ.length)
  (hv:∀ m,s.heap.Ns X.env.locals m->(∀ (i:Nat) (x:Str) (v:V),X.N[i]?=some x->σ[i]?=some (some v)->Vis X.env.scope x->∃ u,RelV v u/\z1K X.env s.heap m x u) ->
   ∀ (i:Nat) (x:Str) (v:V),X.N[i]?=some x->σ'[i]?=some (some v)->Vis X.env.scope x->∃ u,RelV v u/\z1K X.env s.heap m' x u):Inv X pins σ' H { s with heap:=h',toks:=t' }:=by
 obtain ⟨m,hn,hr⟩:=id I.loc
 obtain ⟨oL,_,_,hoL,_⟩:=id hn
 have tracked:HOk X.prog X.w H h':=fun b ob q=>by
  refine (I.hok b ob q).stay (fun c v hc r=>(hs.2 c ?_).trans r) (fun _ z=>z) fun _ _ z=>z
  rintro rfl
  rcases hc with rfl | hc
  ·rw [I.free] at q; cases q
  ·rw [I.free] at hc; cases hc
 have below:∀ b o,X.s₀.heap.get? b=some o->b≠X.env.locals:=fun b o q=>sV (sQ (Heap.lt_size q) I.ok.above)
 refine ⟨I.ok,I.os,I.bare,⟨fun b o q n hb hx=>(hs.2 b (below b o q)).trans (I.base.keep b o q n hb hx),fun b o q n hb hx=>?_,I.base.free,fun b o q hx=>?_,I.base.tups,I.base.frzs,I.base.tbls⟩,⟨m',hn',fun i x v e1 e2 e3=>?_⟩,fun y c q=>?_,I.free,I.freeC,fun p hp=>?_,tracked,hl.trans I.len⟩
 ·obtain ⟨sl,e1⟩:=I.base.slot b o q n hb hx
  exact ⟨sl,(hs.2 b (below b o q)).trans e1⟩
 ·obtain ⟨o',e1⟩:=I.base.there b o q hx
  exact ⟨o',(hs.2 b (below b o q)).trans e1⟩
 ·obtain ⟨u,r,l⟩:=hv m hn hr i x v e1 e2 e3
  refine ⟨u,r,?_⟩
  rcases l with l | ⟨k,c,e,z⟩
  ·exact .inl l
  ·exact .inr ⟨k,c,e,z.sameBut hs (I.cne x c e)⟩
 ·obtain ⟨w',z⟩:=I.cell y c q
  exact ⟨w',z.sameBut hs (I.cne y c q)⟩
 ·obtain ⟨q,n,ne,nf,d⟩:=I.pin p hp
  exact ⟨(hs.2 p.1 ne).trans q,n,ne,nf,d⟩
theorem uK {M:Model}{A:Around}{E:Value->Shared->Prop}{i:Nat}{n:Str}{pos:Pos}{Q:Unit->Shared->Prop}(I:Inv X pins σ H s)(hN:X.N.Nodup)(hi:X.N[i]?=some n)(hx:X.env.scope.names.lookup n=some .local)
  (h:∀ s',Inv X pins (σ.set i none) H s'->Q () s'):wpAny M A (do bindName X.env n .none; unbindBehindTheSuite X.env n pos) Q E s:=by
 have hcls:(X.env.scope.kind==.class||(X.env.scope.kind==.module&&X.env.locals != X.env.globals))=false:=by rw [I.ok.kind]; rfl
 have hl:X.env.kindOf n=some .local:=hx
 refine wpAny_bind (wpAny_bindName (uz I hN hi (.inl hx) (v:=.non) (u:=.none) rfl (fun s1 I1=>?_) (.inr hx)))
 unfold unbindBehindTheSuite
 refine wpAny_onRaise ?_
 unfold unbindName
 refine wpAny_bind (wpAny_point (wpAny_bind ?_))
 unfold deleteName
 simp only [hl,hcls]
 rw [if_neg (by decide)]
 obtain ⟨m,hn,hl'⟩:=id I1.loc
 have hiσ:i<σ.length:=by rw [I.len]; exact (sD.mp hi).1
 have hmn:(m n).isSome=true:=by
  obtain ⟨u,r,l⟩:=hl' i n .non hi (by rw [sO hiσ]) (.inl hx)
  rcases l with ⟨_,z⟩ | ⟨k,_⟩
  ·rw [z]; rfl
  ·rcases k with k | k
   ·rw [hl] at k; cases k
   ·rw [hl] at k; cases k
 refine wpAny_bind (wpAny_nsDel_keeps hn fun h2 v hn2 hs2=>?_)
 rw [hmn]
 simp only [if_true,rH,tW,if_false]
 refine wpAny_pure (wpAny_point (h _ ?_))
 have I2:Inv X pins (σ.set i none) H { s1 with heap:=h2,toks:=s1.toks }:=I1.reframe hn2 hs2 (by simp) (fun m0 hn0 hv0 j y v e1 e2 e3=>by
  have em:m0=m:=by
   funext z
   obtain ⟨o1,es1,ep1,a1,b1,_,c1⟩:=hn0
   obtain ⟨o2,es2,ep2,a2,b2,_,c2⟩:=hn
   rw [a1] at a2; cases a2
   rw [b1] at b2; cases b2
   rw [<- c1,<- c2]
  subst em
  have hj:j≠i:=by
   rintro rfl
   rw [sO hiσ] at e2; cases e2
  rw [sL (Ne.symm hj)] at e2
  obtain ⟨u,r,l⟩:=hv0 j y v e1 (by rw [sL (Ne.symm hj)]; exact e2) e3
  refine ⟨u,r,?_⟩
  have hy:y≠n:=fun z=>hj (jC hN e1 (z▸hi))
  rcases l with ⟨k,z⟩ | l
  ·exact .inl ⟨k,by show (if y=n then _ else m0 y)=some u; rw [if_neg hy]; exact z⟩
  ·exact .inr l)
 exact I2
end
structure ErrI (K:PySem.W.Frag)(C:Addr):Prop where
 ga:PySem.W.findIn K (.ref C) "__getattribute__"=some (some (.builtin "BaseException.__getattribute__"))
 gt:PySem.W.findIn K (.ref C) "__getattr__"=some none
 cl:PySem.W.findIn K (.ref C) "__class__"=some (some (.builtin "object.__class__"))
 sp:PySem.W.specialIn K (.builtin "object.__class__") "__get__"=some (some (.builtin "getset_descriptor.__get__"))
 tk:PySem.W.takesIn K (.builtin "object.__class__")=some true
 mo:PySem.W.mroIn K C (.type "object")=some true
 mb:PySem.W.mroIn K C (.type "BaseException")=some true
 it:(PySem.W.clsIn K C).isSome=true
section
open PySem.W Builtin Builtin.ObjectAttr Builtin.Getset_descriptor
variable {prog:Program}{w:World}{A:Around}{E:Value->Shared->Prop}{s:Shared}{K:Frag}{e C:Addr}
theorem Vc {Q:Option Value->Shared->Prop}(c:ErrI K C)(X:K.In s.heap)(LT:Looks (model prog w) s.heap (typeOf (.ref e)) (.ref C))(h:Q (some (.ref C)) { s with toks:=s.toks+1 }):wpAny (model prog w) A (getAttr? (.ref e) "__class__") Q E s:=by
 obtain ⟨hh,g,d,t,os⟩:=s
 have L1:=looks_findIn (M:=model prog w) X c.ga
 have L2':=looks_findIn (M:=model prog w) X c.gt
 have L3:=looks_findIn (M:=model prog w) X c.cl
 have L4:=looks_specialIn (M:=model prog w) X c.sp
 have L5:=looks_takesIn (M:=model prog w) X c.tk
 have L6:=looks_mroIn (M:=model prog w) X c.mo
 have L7:=looks_mroIn (M:=model prog w) X c.mb
 have hb:=PySem.F.attr_ValueError.ga.bind (.ref e)
 unfold getAttr? getAttrBy? getAttrBy
 refine wpAny_bind (wpAny_mkText (wpAny_bind (wpAny_attempt (wpAny_holding ?_))))
 repeat (first | with_reducible refine wpAny_attempt ?_ | with_reducible refine wpAny_call ?_ | lk)
 refine codeAny_call_builtin PySem.F.attr_ValueError.ga.plain F.entry_bexc_ga ?_
 have hk:builtinKind "BaseException.__getattribute__"=some .slot:=by decide +kernel
 have hsp:splitId "BaseException.__getattribute__"=some ("BaseException","__getattribute__"):=by decide +kernel
 have har:=F.args_bexc_ga (.ref e) (.str "__class__" t)
 simp only [checkBuiltinCall,hk,hsp]
 unfold isInstance
 repeat (first | with_reducible refine wpAny_attempt ?_ | with_reducible refine wpAny_call ?_ | lk)
 have z:codeAny (model prog w) A.in1 (.call (.builtin "getset_descriptor.__get__") ⟨[.builtin "object.__class__",.ref e,.ref C],[]⟩) (fun r s'=>r=.ok (.ret (.ref C))/\s'=⟨hh,g,d,t+1,os⟩) ⟨hh,g,d,t+1,os⟩:=by
  refine codeAny_call_builtin KF.slot_gs.plain KF.entry_gs ?_
  refine KF.slot_gs.check _ _ _ _ _ _ _ _ KF.type_class (KF.args_gs _ _ _) ?_
  unfold Builtin.«getset_descriptor.__get__»
  unfold descrGet
  rw [dga_obj]
  refine wpAny_bind (wpAny_pure ?_)
  unfold descrGetter descrCheckInstance
  unfold descrNameAndClass isInstance
  simp only [KF.owner_class]
  repeat lk
  refine ⟨Code.quiet_builtin _ (by decide +kernel),?_⟩
  refine codeAny_builtin KF.entry_class ?_
  unfold Builtin.«object.__class__»
  unfold shownTypeOf
  repeat lk
  exact ⟨rfl,rfl⟩
 refine codeAny_mono z fun r s' q=>?_
 obtain ⟨rfl,rfl⟩:=q
 repeat lk
 exact h
end
section
open PySem.W
variable {K:Frag}{e C:Addr}
theorem ZS (c:ErrI K C){M:Model}{h:Heap}(X:K.In h):Looks M h (isType (.ref C)) true:=by
 have z:=c.it
 unfold clsIn at z
 split at z
 ·rename_i a b cd sl ho
  intro A' Q' E' s' k q
  unfold isType
  unfold loadHead
  refine wpAny_bind (wpAny_loadPart (k _ _ (X _ _ ho)) ?_)
  exact wpAny_pure q
 ·cases z
theorem QK (c:ErrI K C):KitX K (.ref e) (.ref C) (fun h=>∃ o,h.get? e=some o/\o.cls=.ref C) where
 ty:=fun M h _ p=>by
  obtain ⟨o,h1,h2⟩:=p
  exact h2▸(Looks.ld h1).andThen .now
 it:=fun _ _ X _=>ZS c X
 ne:=fun h tp dd its n sl X htp=>by
  refine Bool.eq_false_iff.mpr fun q=>?_
  have ee:C=tp:=Value.ref.inj (beq_iff_eq.mp q)
  subst ee
  have z:=c.it
  unfold clsIn at z
  split at z
  ·rename_i a b cd sl' ho
   rw [X _ _ ho] at htp
   cases htp
  ·cases z
 ca:=fun {prog w A E Q s} X p k=>by
  obtain ⟨o,h1,h2⟩:=p
  exact Vc c X (h2▸(Looks.ld h1).andThen .now) k
end
inductive IsTy (K:PySem.W.Frag) (pn:List (Addr×Obj)) (H:Hp):V->Value->Prop where
 | of {x:V} {t:Value} (h:TyOf K H x t):IsTy K pn H x t
 | frd {a:Addr} {o:Obj} {kvs:List (Key×V)} (e:H a=some (.frz o (.dK kvs))):IsTy K pn H (.ref a) (.type "dict")
 | exc {a C:Addr} {oe:Obj} (hm:(a,oe)∈pn) (hc:oe.cls=.ref C) (c:ErrI K C):IsTy K pn H (.ref a) (.ref C)
inductive ClV:V->Value->Prop where
 | ref (a:Addr):ClV (.ref a) (.ref a)
 | ty (n:String):ClV (.ty n) (.type n)
def z3r (K:PySem.W.Frag)(pn:List (Addr×Obj)):List V->Hp->VK->Prop:=fun xs H Q=>∃ x c t u b,xs=[x,c]/\IsTy K pn H x t/\ClV c u/\PySem.W.kitOne K t u=some b/\Q (.bl b) H
theorem QY {X:Cx}:CallR X (.builtin "isinstance") (z3r X.K X.pn):=by
 intro pins s σ H xs us Q I r h
 obtain ⟨x,c,t,u,b,rfl,ht,hc,hk,q⟩:=h
 obtain ⟨u1,u2,rfl,rx,rc⟩:=Uz r
 have e2:u2=u:=by cases hc with
  | ref a=>exact rc
  | ty n=>exact rc
 subst e2
 cases ht with
 | of ht=>exact xN I rx ht hk fun tk=>⟨.bl b,H,I.tok tk,rfl,q⟩
 | @frd a o kvs e =>
  obtain rfl:u1=Value.ref a:=rx
  obtain ⟨_,_,_,vs,_,p⟩:=(show ObjOk X.prog X.w H s.heap a (.frz o (.dK kvs)) from I.hok a _ e)
  obtain ⟨o',es,ep,h1,h2,_⟩:=p
  exact PySem.W.kia_one PySem.W.kitx_dict I.kIn ⟨o',h1,h2.1⟩ hk (fun z=>by cases z) fun tk=>⟨.bl b,H,I.tok tk,rfl,q⟩
 | exc hm hcl ci =>
  obtain ⟨e1,_⟩:=I.pin _ (sC _ hm)
  obtain rfl:u1=Value.ref _:=rx
  exact PySem.W.kia_one (QK ci) I.kIn ⟨_,e1,hcl⟩ hk (fun z=>by cases z) fun tk=>⟨.bl b,H,I.tok tk,rfl,q⟩
section
variable {X:Cx}{pins:List (Addr×Obj)}{σ:St}{H:Hp}{s:Shared}
theorem Inv.flown {h' B:Heap}{old:Addr->Prop}(I:Inv X pins σ H s)(hst:X.stack=X.env::X.outer)(hf:X.env.frame=some X.env.locals)(st:B.StaysIn h')(up:s.heap.UpToSlots h')
  (cov:∀ b o,s.heap.get? b=some o->b∉frs X.stack->(H b≠none\/old b)->B.get? b=some o) (o1:∀ b o,X.s₀.heap.get? b=some o->b∉X.ex->old b) (o3:∀ p∈X.pn++pins,old p.1) :
  Inv X pins σ H { s with heap:=h' }:=by
 have trkd:∀ b u v,H b=some u->s.heap.get? b=some v->h'.get? b=some v:=fun b u v q r=>st b v (cov b v r (I.trkNo q) (.inl (by rw [q]; simp)))
 have oldd:∀ b o v,X.s₀.heap.get? b=some o->b∉X.fs->b∉X.ex->s.heap.get? b=some v->h'.get? b=some v:=fun b o v q n x r=>st b v (cov b v r (I.oldNo hst hf q n) (.inr (o1 b o q x)))
 have frms:∀ b o,b∈X.fs->s.heap.get? b=some o->∃ sl,h'.get? b=some { o with slots:=sl }:=fun b o hb q=>by
  obtain ⟨_,o2,ho2,nf⟩:=I.funs.mem hb
  rw [q] at ho2; cases ho2
  exact up b o q nf
 have cellK:∀ c v,s.heap.IsCell c v->h'.IsCell c v:=fun c v ⟨o,ho,hd⟩=>by
  obtain ⟨sl,e⟩:=up c o ho (fun vs q=>by rw [hd] at q; cases q)
  exact ⟨_,e,hd⟩
 refine ⟨I.ok,I.os,I.bare,⟨fun b o q n hb hx=>oldd b o o q hb hx (I.base.keep b o q n hb hx),fun b o q n hb hx=>?_,I.base.free,fun b o q hx=>?_,I.base.tups,I.base.frzs,I.base.tbls⟩,?_,fun y c q=>?_,I.free,I.freeC,fun p hp=>?_,fun b u q=>?_,I.len⟩
 ·obtain ⟨sl,e1⟩:=I.base.slot b o q n hb hx
  obtain ⟨sl',e2⟩:=frms b _ hb e1
  exact ⟨sl',e2⟩
 ·obtain ⟨o1',e1⟩:=I.base.there b o q hx
  by_cases hb:b∈X.fs
  ·obtain ⟨sl,e2⟩:=frms b o1' hb e1
   exact ⟨_,e2⟩
  ·exact ⟨o1',oldd b o o1' q hb hx e1⟩
 ·obtain ⟨m,hn,hl⟩:=I.loc
  refine ⟨m,up.ns hn,fun i x v e1 e2 e3=>?_⟩
  obtain ⟨u,r,l⟩:=hl i x v e1 e2 e3
  refine ⟨u,r,?_⟩
  rcases l with l | ⟨k,c,e,z⟩
  ·exact .inl l
  ·exact .inr ⟨k,c,e,cellK c _ z⟩
 ·obtain ⟨v,z⟩:=I.cell y c q
  exact ⟨v,cellK c v z⟩
 ·obtain ⟨q,n,ne,nf,d⟩:=I.pin p hp
  have hns:p.1∉frs X.stack:=fun m=>by
   rcases sJ.mp (I.stkSub p.1 m) with z | z
   ·exact ne z
   ·exact nf z
  exact ⟨st _ _ (cov _ _ q hns (.inr (o3 p hp))),n,ne,nf,d⟩
 ·refine (I.hok b u q).stay (fun c v hc r=>?_) (fun _ z=>z) fun _ _ z=>z
  rcases hc with z | z
  ·exact trkd c u v (by rw [z]; exact q) r
  ·exact trkd c _ v z r
end
def z3c (K:PySem.W.Frag)(CS:Addr)(i:Nat)(sp:Sp)(dvs:List V)(t:TA)(ts:Addr->Obj->TS):TS:=fun D σ H=>t σ H fun vs H1=>sp (vs++dvs) H1 (fun _ H2=>D.nx σ H2)
 (fun cls _ H2=>∃ C,cls=.ref C/\PySem.W.exmOne K (.ref C) (.ref CS)=some true/\∀ (e:Addr) (oe:Obj),oe.cls=.ref C->H2 e=none ->
  ts e oe { nx:=fun σ' H'=>D.nx (σ'.set i none) H',rt:=D.rt,bk:=fun σ' H'=>D.bk (σ'.set i none) H',ct:=fun σ' H'=>D.ct (σ'.set i none) H' } (σ.set i (some (.ref e))) H2)
theorem z1q {X:Cx}{k:Nat}{f CS:Addr}{fd:FuncData}{ps:List Str}{sp:Sp}{dvs:List V}{ds:List Value}{x xc n:Str}{p pos pos' pc hpos tpos:Pos}{e:Expr}{es:List Expr}{t:TA}{i:Nat}{b₀:Stmt}{suite:List Stmt}{ts:Addr->Obj->TS}
  (hst:X.stack=X.env::X.outer) (hf:X.env.frame=some X.env.locals) (hc:X.calm=true) (hN:X.N.Nodup)
  (F:FnOk X.prog X.w X.K X.mg X.base (cxx X.prog X.w) k f fd ps sp) (hr:Room k X.A) (hg:Gl X x) (hm:X.mg x=some (.ref f)) (hk:PySem.W.keepIn X.K (.ref f)=true) (hb:Binds X.K fd ps ds) (hd:Vals dvs ds)
  (ha:PA X.nox (e::es) t) (hgc:Gl X xc) (hmc:X.mg xc=some (.ref CS)) (hi:X.N[i]?=some n) (hx:X.env.scope.names.lookup n=some .local)
  (hsuite:∀ (e:Addr) (oe:Obj),PSs (X.within e oe) (b₀::suite) (ts e oe))
  (hdb:autoParam ((x==("__debug__":Str))=false) L2.au1._auto_1) (hdc:autoParam ((xc==("__debug__":Str))=false) L2.au1._auto_1)
  (he:autoParam (starEach (e::es) X.env=(false,eval e X.env)::starEach es X.env) L2.au3._auto_1) (hpl:autoParam ((backTo pos (starEach es X.env)).any (·.1)=false) L2.au3._auto_1)
  (hsw:autoParam (swapsWith (.Call (.Name x p) (e::es) [] pos) none pos'.line X.env=pure false) L2.au3._auto_1) :
  PS X (.Try [.Expr (.Call (.Name x p) (e::es) [] pos) pos'] [.ExceptHandler (some (.Name xc pc)) (some n) (b₀::suite) hpos] [] [] tpos) (z3c X.K CS i sp dvs t ts):=by
 intro pins s σ H D I h
 have hhd:X.calm=true->X.A.handled=none:=I.ok.hd
 refine wpAny_Try_except (wpAny_execs_cons (wpAny_Expr_any ?_ I.quiet hsw))
 refine wpAny_Call_Name_kw (uP I hg hm ?_ hdb)
 refine PySem.W.callWith_K (h₀:=X.base) I.ok.mod.kin hk ?_ he hpl
 refine wpAny_mono (ha pos pins s σ H _ (I.wish _) h) (fun us s1 ⟨vs,H1,I1,r,q⟩=>⟨I1.kIn,?_⟩) fun _ _ z=>z.elim
 have I1:Inv X pins σ H1 s1:=I1.unwish
 have r2:Vals (vs++dvs) (us++ds):=r.append hd
 have hl:(us++ds).length=ps.length:=by rw [<- r2.length]; exact F.len _ _ _ _ q
 refine wpAny_call (codeAny_mono (F.run X.A X.stack s1 H1 ⟨us,[]⟩ (us++ds) (vs++dvs) _ _ hr I1.env0 (hb s1 us I1.kIn hl) r2 q) fun r s' hq=>?_)
 cases r with
 | ok fl =>
  cases fl with
  | ret u =>
   obtain ⟨v,H2,I2,rv,qn⟩:=I1.after hq
   exact wpAny_execs_nil (wpAny_execs_nil ⟨σ,H2,I2,qn⟩)
  | next=>exact False.elim hq
  | brk=>exact False.elim hq
  | cont=>exact False.elim hq
 | error ev =>
  obtain ⟨e1,cls,H2,rfl,os,bare,un,hok,⟨B,a0,fl,cov⟩,C,rfl,hex,hsu⟩:=hq
  have I2:Inv X pins σ H2 s':=I1.call' (ch:=[]) os un hok bare (fun b z=>nomatch z)
  have fl':Heap.FlyingW B (X.env::X.outer) e1 (.ref C) a0 s'.heap:=by rw [<- hst]; exact fl
  have hfr:X.A.frames=some (X.env::X.outer):=by rw [<- hst]; exact I.ok.frames
  have o1:∀ b o,X.s₀.heap.get? b=some o->b∉X.ex->∃ o,s1.heap.get? b=some o:=fun b o q x=>I1.base.there b o q x
  have o3:∀ p∈X.pn++pins,∃ o,s1.heap.get? p.1=some o:=fun p hp=>⟨_,(I1.pin p hp).1⟩
  have flown:∀ h':Heap,B.StaysIn h'->s'.heap.UpToSlots h'->Inv X pins σ H2 { s' with heap:=h' }:=fun h' st up=>I2.flown hst hf st up cov o1 o3
  have he2:H2 e1=none:=by
   cases q:H2 e1 with
   | none=>rfl
   | some u =>
    obtain ⟨o,ho⟩:=(I2.hok e1 u q).there
    have:=cov e1 o ho (I2.trkNo q) (.inl (by rw [q]; simp))
    rw [fl.2.1] at this; cases this
  have apart:∀ (h':Heap),Heap.FlyingW B (X.env::X.outer) e1 (.ref C) a0 h'->∃ oe,h'.get? e1=some oe/\oe.cls=.ref C/\(∃ vs,oe.data=.fields vs)/\e1≠X.env.locals/\e1∉X.fs:=fun h' z=>by
   obtain ⟨oe,vs,q1,q2,q3,_⟩:=z.first
   have nfr:e1∉frs (X.env::X.outer):=fun m=>by
    obtain ⟨_,o,ho,nf⟩:=z.2.2.1.mem m
    rw [q1] at ho; cases ho
    exact nf vs q3
   refine ⟨oe,q1,q2,⟨vs,q3⟩,fun q=>nfr ?_,fun m=>nfr ?_⟩
   ·rw [q]
    unfold frs
    rw [sZ,hf]
    exact tQ
   ·unfold frs
    rw [sZ,hf]
    exact tR _ m
  refine wpAny_looks_onW hfr hf fl' fun h4 hd4 up4=>?_
  refine wpAny_landsW hd4 fun h5 fl5 up5=>?_
  have up5':s'.heap.UpToSlots h5:=up4.trans up5
  have I5:=flown h5 fl5.1 up5'
  obtain ⟨oe5,g1,g2,⟨vs5,g3⟩,g4,g5⟩:=apart h5 fl5
  have I5w:Inv (X.within e1 oe5) pins σ H2 { s' with heap:=h5 }:=I5.within g1 he2 g4 g5 (fun v q=>by rw [g3] at q; cases q)
  refine wpAny_handleBy_cons (codeAny_handlers_test (uP (X:=X.within e1 oe5) I5w hgc hmc ?_ hdc)) (by intro q; cases q)
  have LT:PySem.W.Looks (model X.prog X.w) h5 (typeOf (.ref e1)) (.ref C):=g2▸(PySem.W.Looks.ld g1).andThen .now
  refine (PySem.W.exm_one I5.kIn LT hex).here ?_
  refine codeAny_handlers_suite_as ?_
  refine lands_againW fl5 fun h6 fl6 up6=>?_
  have I6:=flown h6 fl6.1 (up5'.trans up6)
  obtain ⟨oe6,k1,k2,⟨vs6,k3⟩,k4,k5⟩:=apart h6 fl6
  refine uW I6 hN hi (.inl hx) (v:=.ref e1) (u:=.ref e1) rfl (fun s7 I7 sb=>?_) (.inr hx)
  obtain ⟨a7,sb7,ha7⟩:=sb
  have ne7:e1≠a7:=by
   rcases ha7 with z | z
   ·rw [z]; exact k4
   ·intro q
    obtain ⟨v,o,ho,hdd⟩:=I6.cell n a7 z
    rw [<- q] at ho
    have ho:h6.get? e1=some o:=ho
    rw [k1] at ho; cases ho
    rw [k3] at hdd; cases hdd
  have e7:s7.heap.get? e1=some oe6:=(sb7.2 e1 ne7).trans k1
  have I7w:Inv (X.within e1 oe6) pins (σ.set i (some (.ref e1))) H2 s7:=I7.within e7 he2 k4 k5 (fun v q=>by rw [k3] at q; cases q)
  refine wpAny_mono (hsuite e1 oe6 pins s7 _ H2 _ I7w (hsu e1 oe6 k2 he2)) (fun fl8 s8 q8=>?_) fun _ _ z=>z.elim
  have q8:=SP.without q8 hhd
  cases fl8 with
  | next =>
   obtain ⟨σ8,H8,I8,q⟩:=q8
   exact uK I8 hN hi hx fun s9 I9=>⟨_,H8,I9,q⟩
  | brk =>
   obtain ⟨σ8,H8,I8,q⟩:=q8
   exact uK I8 hN hi hx fun s9 I9=>⟨_,H8,I9,q⟩
  | cont =>
   obtain ⟨σ8,H8,I8,q⟩:=q8
   exact uK I8 hN hi hx fun s9 I9=>⟨_,H8,I9,q⟩
  | ret u =>
   obtain ⟨v8,σ8,H8,I8,r8,q⟩:=q8
   exact uK I8 hN hi hx fun s9 I9=>⟨v8,_,H8,I9,r8,q⟩
def xV (cells:List (Str×Addr)):List (Str×NameKind)->List (Str×Addr)->List (Str×Addr)
 | [],acc=>acc
 | (n,k)::r,acc=>xV cells r (if (k==.free)=true then (n,(cells.lookup n).getD 0)::acc else acc)
theorem vY {scope:Scope}{env:Env}(h:∀ y∈scope.names,y.2=.free->∃ c,env.cells.lookup y.1=some c):closureFor scope env=pure (xV env.cells scope.names []):=by
 have go:∀ (l:List (Str×NameKind)) (acc:List (Str×Addr)),(∀ y∈l,y.2=.free->∃ c,env.cells.lookup y.1=some c) ->
   (forIn l acc fun (x:Str×NameKind) (r:List (Str×Addr))=>(if (x.2==.free)=true then (do let a <- cellOf env x.1; pure (ForInStep.yield ((x.1,a)::r))) else pure (ForInStep.yield r):Sem (ForInStep (List (Str×Addr)))))=pure (xV env.cells l acc):=by
  intro l
  induction l with
  | nil=>intro acc _; rfl
  | cons x r ih =>
   intro acc hx
   obtain ⟨n,k⟩:=x
   rw [List.forIn_cons]
   have hr:=fun acc=>ih acc fun y hy=>hx y (tR _ hy)
   by_cases hk:(k==NameKind.free)=true
   ·obtain ⟨c,hc⟩:=hx (n,k) tQ (by simpa using hk)
    have hc':env.cells.lookup n=some c:=hc
    have e1:cellOf env n=pure c:=by unfold cellOf; rw [hc']
    simp only [hk,if_true,e1,pure_bind]
    unfold xV
    rw [if_pos hk,hc']
    exact hr _
   ·simp only [hk,tW,if_false,pure_bind]
    unfold xV
    rw [if_neg hk]
    exact hr _
 unfold closureFor
 have e:=go scope.names [] h
 simp only [bind_pure_comp,map_pure] at e ⊢
 first | exact e | (simp only [e,bind_pure]; done) | (rw [show (forIn scope.names ([]:List (Str×Addr)) _)=_ from e]; rfl)
theorem uC {cells:List (Str×Addr)}{x:Str}{c:Addr}:∀ {names:List (Str×NameKind)} {acc:List (Str×Addr)},(xV cells names acc).lookup x=some c->acc.lookup x=some c\/((x,NameKind.free)∈names/\c=(cells.lookup x).getD 0)
 | [],acc,h=>.inl h
 | (n,k)::r,acc,h=>by
  unfold xV at h
  rcases uC h with z | ⟨z,e⟩
  ·by_cases hk:(k==NameKind.free)=true
   ·rw [if_pos hk] at z
    by_cases hx:(x==n)=true
    ·rw [sX,hx] at z
     have e1:x=n:=by simpa using hx
     have e2:k=NameKind.free:=by simpa using hk
     subst e1 e2
     exact .inr ⟨tQ,(Option.some.inj z).symm⟩
    ·have hx':(x==n)=false:=by simpa using hx
     rw [sX,hx'] at z
     exact .inl z
   ·rw [if_neg hk] at z
    exact .inl z
  ·exact .inr ⟨tR _ z,e⟩
theorem uU {cells:List (Str×Addr)}{x:Str}:∀ {names:List (Str×NameKind)} {acc:List (Str×Addr)},((x,NameKind.free)∈names\/∃ c,acc.lookup x=some c)->∃ c,(xV cells names acc).lookup x=some c
 | [],acc,h=>by
  rcases h with h | h
  ·cases h
  ·exact h
 | (n,k)::r,acc,h=>by
  unfold xV
  refine uU ?_
  rcases h with h | ⟨c,h⟩
  ·rcases sJ.mp h with z | z
   ·cases z
    refine .inr ⟨(cells.lookup x).getD 0,?_⟩
    rw [if_pos (by decide),sX]
    simp only [beq_self_eq_true]
   ·exact .inl z
  ·by_cases hk:(k==NameKind.free)=true
   ·rw [if_pos hk]
    by_cases hx:(x==n)=true
    ·exact .inr ⟨_,by rw [sX,hx]⟩
    ·have hx':(x==n)=false:=by simpa using hx
     exact .inr ⟨c,by rw [sX,hx']; exact h⟩
   ·rw [if_neg hk]
    exact .inr ⟨c,h⟩
theorem xG {env:Env}{x:Str}{k:NameKind}:∀ {names:List (Str×NameKind)},(names.map fun (n,k)=>if (k==NameKind.free&&env.scope.kind==.function&&env.kindOf n==some .cell) then (n,NameKind.cell) else (n,k)).lookup x=some k ->
  ∃ k',names.lookup x=some k'/\(k=k'\/(k'=.free/\k=.cell))
 | [],h=>by cases h
 | (n,j)::r,h=>by
  rw [tF] at h
  by_cases hx:(x==n)=true
  ·refine ⟨j,by rw [sX,hx],?_⟩
   dsimp only at h
   by_cases hc:(j==NameKind.free&&env.scope.kind==.function&&env.kindOf n==some .cell)=true
   ·rw [if_pos hc,sX,hx] at h
    simp only [rA] at hc
    exact .inr ⟨by simpa using hc.1.1,(Option.some.inj h).symm⟩
   ·rw [if_neg hc,sX,hx] at h
    exact .inl (Option.some.inj h).symm
  ·have hx':(x==n)=false:=by simpa using hx
   have e:(r.map fun (n,k)=>if (k==NameKind.free&&env.scope.kind==.function&&env.kindOf n==some .cell) then (n,NameKind.cell) else (n,k)).lookup x=some k:=by
    dsimp only at h
    by_cases hc:(j==NameKind.free&&env.scope.kind==.function&&env.kindOf n==some .cell)=true
    ·rw [if_pos hc,sX,hx'] at h; exact h
    ·rw [if_neg hc,sX,hx'] at h; exact h
   obtain ⟨k',e1,e2⟩:=xG e
   exact ⟨k',by rw [sX,hx']; exact e1,e2⟩
structure CompScope (X:Cx)(N':List Str)(fr:List (Option Nat))(scope:Scope):Prop where
 kind:scope.kind=.function
 nocell:∀ y∈scope.names,y.2≠.cell
 loc:∀ y∈scope.names,y.2=.local->scope.names.lookup y.1=some .local
 free:∀ y∈scope.names,y.2=.free->∃ c,X.env.cells.lookup y.1=some c
 len:fr.length=N'.length
 fre:∀ (j i:Nat) (x:Str),fr[j]?=some (some i)->N'[j]?=some x->X.N[i]?=some x/\scope.names.lookup x=some .free/\(X.env.kindOf x=some .cell\/X.env.kindOf x=some .free)
def xI (fr:List (Option Nat))(σ:St):St:=fr.map fun o=>o.bind fun i=>(σ[i]?).join
def zF (X:Cx)(scope:Scope)(N':List Str)(s₃:Shared)(H₃:Hp)(fp:List Addr)(pins:List (Addr×Obj)):Cx :=
 { X with N:=N',s₀:=s₃,H₀:=H₃,env:=compEnvC scope (xV X.env.cells scope.names []) s₃.heap.objs.size X.env,outer:=X.stack,stack:=X.stack,ex:=fp,fn:=fun _=>false,pn:=X.pn++pins,xe:=fun _ _=>False }
section
variable {X:Cx}{pins:List (Addr×Obj)}{σ:St}{H:Hp}{s:Shared}{N':List Str}{fr:List (Option Nat)}{scope:Scope}{fp:List Addr}
theorem xg (S:CompScope X N' fr scope){x:Str}{c:Addr}(h:(xV X.env.cells scope.names []).lookup x=some c):X.env.cells.lookup x=some c:=by
 rcases uC h with z | ⟨z,e⟩
 ·cases z
 ·obtain ⟨c',hc⟩:=S.free _ z rfl
  have hc:X.env.cells.lookup x=some c':=hc
  rw [hc] at e
  rw [hc,e]; rfl
theorem KU (I:Inv X pins σ H s)(S:CompScope X N' fr scope)(hf:∀ b∈fp,vV X pins H b)(hlt:∀ b∈fp,b<s.heap.objs.size):(zF X scope N' s H fp pins).Ok:=by
 refine ⟨I.ok.mod,S.kind,I.ok.glob,I.ok.blt,tY _,fun x y c h1 h2=>I.ok.inj x y c (xg S h1) (xg S h2),fun x hx=>?_,(fun x c z=>by cases z),I.ok.hd,I.ok.frames,.inl rfl,fun b hb=>⟨sV (hlt b hb),fun x c h=>(hf b hb).2.2.2.2.1 x c (xg S h)⟩,
  I.bs,rC I.ok.bsz I.sz,fun b o e hb=>?_,fun b hb hm=>?_,I.stack,I.stkFree⟩
 ·have hx:(relabel scope X.env).names.lookup x=some .cell\/(relabel scope X.env).names.lookup x=some .free:=hx
  have key:scope.names.lookup x=some .free:=by
   rcases hx with h | h
   ·obtain ⟨k',e1,e2⟩:=xG h
    rcases e2 with z | ⟨z,_⟩
    ·exact absurd z.symm (S.nocell _ (PySem.mem_of_lookup e1))
    ·rw [e1,z]
   ·obtain ⟨k',e1,e2⟩:=xG h
    rcases e2 with z | ⟨_,z⟩
    ·rw [e1,<- z]
    ·cases z
  exact uU (.inl (PySem.mem_of_lookup key))
 ·rcases (hf b hb).2.2.2.1 with z | z
  ·exact I.ok.noex b o e z
  ·exact absurd (sQ (Heap.lt_size e) (rC I.ok.bsz z)) (rX _)
 ·rcases sJ.mp (I.stkSub b hm) with z | z
  ·exact (hf b hb).2.1 z
  ·exact (hf b hb).2.2.1 z
theorem WM {h':Heap}{m:Str->Option Value}{tk:Nat}(I:Inv X pins σ H s)(S:CompScope X N' fr scope)(hf:∀ b∈fp,vV X pins H b)(hlt:∀ b∈fp,b<s.heap.objs.size)(hn:h'.Ns s.heap.objs.size m)
  (hk:∀ b o,s.heap.get? b=some o->h'.get? b=some o):Inv (zF X scope N' s H fp pins) [] (xI fr σ) H { s with heap:=h',toks:=tk }:=by
 refine ⟨KU I S hf hlt,rfl,I.bare,Un.kept hk,⟨m,hn,fun j x v e1 e2 e3=>?_⟩,fun x c h=>?_,I.hok.fresh (tY _),fun x c h=>I.freeC x c (xg S h),fun p hp=>?_,I.hok.kept hk,by unfold xI; rw [tP]; exact S.len⟩
 ·have e1:N'[j]?=some x:=e1
  unfold xI at e2
  rw [sM] at e2
  cases hj:fr[j]? with
  | none=>rw [hj] at e2; cases e2
  | some o =>
   rw [hj] at e2
   cases o with
   | none=>cases e2
   | some i =>
    have e2:(σ[i]?).join=some v:=Option.some.inj e2
    have e2':σ[i]?=some (some v):=by
     cases hq:σ[i]? with
     | none=>rw [hq] at e2; cases e2
     | some w=>rw [hq] at e2; rw [show w=some v from e2]
    obtain ⟨n1,n2,n3⟩:=S.fre j i x hj e1
    obtain ⟨m0,hn0,hl⟩:=I.loc
    have hvis:Vis X.env.scope x:=by
     rcases n3 with z | z
     ·exact .inr (.inl z)
     ·exact .inr (.inr z)
    obtain ⟨u,r,l⟩:=hl i x v n1 e2' hvis
    refine ⟨u,r,.inr ⟨?_,?_⟩⟩
    ·have hh:∀ {names:List (Str×NameKind)},names.lookup x=some .free->(names.map fun (n,k)=>if (k==NameKind.free&&X.env.scope.kind==.function&&X.env.kindOf n==some .cell) then (n,NameKind.cell) else (n,k)).lookup x=some .cell \/
       (names.map fun (n,k)=>if (k==NameKind.free&&X.env.scope.kind==.function&&X.env.kindOf n==some .cell) then (n,NameKind.cell) else (n,k)).lookup x=some .free:=by
      intro names
      induction names with
      | nil=>intro z; cases z
      | cons y r ih =>
       obtain ⟨n,k⟩:=y
       intro z
       rw [tF]
       dsimp only
       by_cases hx:(x==n)=true
       ·rw [sX,hx] at z
        by_cases hc:(k==NameKind.free&&X.env.scope.kind==.function&&X.env.kindOf n==some .cell)=true
        ·rw [if_pos hc]; exact .inl (by rw [sX,hx])
        ·rw [if_neg hc]; exact .inr (by rw [sX,hx]; exact z)
       ·have hx':(x==n)=false:=by simpa using hx
        rw [sX,hx'] at z
        have:=ih z
        by_cases hc:(k==NameKind.free&&X.env.scope.kind==.function&&X.env.kindOf n==some .cell)=true
        ·rw [if_pos hc,sX,hx']; exact this
        ·rw [if_neg hc,sX,hx']; exact this
     exact hh n2
    ·rcases l with ⟨k,_⟩ | ⟨k,c,e,z⟩
     ·rcases n3 with q | q
      ·rw [q] at k; cases k
      ·rw [q] at k; cases k
     ·obtain ⟨c',hc'⟩:=uU (cells:=X.env.cells) (x:=x) (names:=scope.names) (acc:=[]) (.inl (PySem.mem_of_lookup n2))
      have e':=xg S hc'
      rw [e] at e'; cases e'
      obtain ⟨o,ho,hd⟩:=z
      exact ⟨c,hc',o,hk _ _ ho,hd⟩
 ·obtain ⟨v,o,ho,hd⟩:=I.cell x c (xg S h)
  exact ⟨v,o,hk _ _ ho,hd⟩
 ·have hp:p∈(X.pn++pins)++[]:=hp
  rw [sF] at hp
  obtain ⟨q,n,ne,nf,d⟩:=I.pin p hp
  refine ⟨hk _ _ q,n,sV (Heap.lt_size q),fun hm=>?_,d⟩
  rcases sJ.mp (I.stkSub p.1 hm) with z | z
  ·exact ne z
  ·exact nf z
end
section
variable {X:Cx}{pins:List (Addr×Obj)}{σ τ:St}{H H₃ H5:Hp}{s₃ s5:Shared}{N':List Str}{scope:Scope}{fp:List Addr}
theorem jJ {h':Heap}(I:Inv X pins σ H₃ s₃)(J:Inv (zF X scope N' s₃ H₃ fp pins) [] τ H5 s5)(hf:∀ b∈fp,vV X pins H₃ b)(hs:Heap.SameBut s₃.heap.objs.size s5.heap h'):Inv X pins σ H5 { s5 with heap:=h' }:=by
 have hb:∀ b o,s₃.heap.get? b=some o->b≠s₃.heap.objs.size:=fun b o q=>sV (Heap.lt_size q)
 have u:Un (frs X.stack) fp H₃ H5 s₃.heap s5.heap:=J.base
 refine I.call' (s':={ s5 with heap:=h' }) (ch:=fp) J.os ⟨fun b o q n h1 h2=>(hs.2 b (hb b o q)).trans (u.keep b o q n h1 h2),fun b o q n h1 h2=>?_,u.free,fun b o q h2=>?_,u.tups,u.frzs,u.tbls⟩ (fun b ob q=>?_) J.bare (fun b m=>⟨(hf b m).2.2.2.1,(hf b m).2.1,(hf b m).2.2.2.2.1,(hf b m).2.2.2.2.2⟩)
 ·obtain ⟨sl,e⟩:=u.slot b o q n h1 h2
  exact ⟨sl,(hs.2 b (hb b o q)).trans e⟩
 ·obtain ⟨o',e⟩:=u.there b o q h2
  exact ⟨o',(hs.2 b (hb b o q)).trans e⟩
 ·have fr:H5 s₃.heap.objs.size=none:=J.free
  refine (J.hok b ob q).stay (fun c v hc r=>(hs.2 c ?_).trans r) (fun _ z=>z) fun _ _ z=>z
  rintro rfl
  rcases hc with rfl | hc
  ·rw [fr] at q; cases q
  ·rw [fr] at hc; cases hc
end
def PTs (X:Cx)(ifs:List Expr)(t:TT):Prop :=
 ∀ (pins:List (Addr×Obj)) (s:Shared) (σ:St) (H:Hp) (Q:Bool->Hp->Prop),Inv X pins σ H s->t σ H Q ->
  wpAny (model X.prog X.w) X.A (forIn ifs true fun c r=>if r=true then do let ok <- isTrue c X.env (eval c X.env); pure (ForInStep.yield ok) else pure (ForInStep.yield r)) (TP X pins σ Q) X.xe s
def z49:TT:=fun _ H Q=>Q true H
theorem Ku {X:Cx}:PTs X [] z49:=fun _ _ _ H _ I h=>wpAny_tests_nil ⟨H,I,h⟩
theorem XM {X:Cx}{c:Expr}{t:TT}(h:PT X c t):PTs X [c] t:=fun pins s σ H Q I q=>wpAny_tests_one (h pins s σ H Q I q)
def qI (fr:List (Option Nat))(wi:TI)(g:TG)(tc:TT)(te:TE):TE:=fun σ H Q=>wi σ H fun J H1=>∀ D,H1 D=none ->
 ∃ W:Nat->Nat->List V->St->Hp->Prop,(∃ m,W 0 m [] (xI fr σ) (upd H1 D (.lst [])))/\∀ i m ys τ H2,W i m ys τ H2->H2 D=some (.lst ys) /\
  ((J.stop i H2/\Q (.ref D) H2)\/(J.go i H2/\∀ x H3,J.yld i H2 x H3->g x τ H3 fun τ' H4=>tc τ' H4 fun b H5=>if b=true then te τ' H5 fun y H6=>H6 D=some (.lst ys)/\ys.length<sizeLine/\∃ m',m'<m/\W (i+1) m' (ys++[y]) τ' (upd H6 D (.lst (ys++[y])))
   else ∃ m',m'<m/\W (i+1) m' ys τ' H5))
theorem YI {X:Cx}{N':List Str}{fr:List (Option Nat)}{scope:Scope}{tg iter elt:Expr}{ifs:List Expr}{wi:TI}{g:TG}{tc:TT}{te:TE}{pos cp:Pos}{use:Option (Value->Sem Unit)}{Qf:Value->Shared->Prop}(hc:X.calm=true)(S:CompScope X N' fr scope)(hi:PI X tg iter wi)
  (hg:∀ s₃ H₃ fp pins,PG (zF X scope N' s₃ H₃ fp pins) tg g) (ht:∀ s₃ H₃ fp pins,PTs (zF X scope N' s₃ H₃ fp pins) ifs tc) (he:∀ s₃ H₃ fp pins,PE (zF X scope N' s₃ H₃ fp pins) elt te)
  (hs:∀ x,foldedSetIterable iter X.env x=pure x) {pins:List (Addr×Obj)} {s:Shared} {σ:St} {H:Hp} {Q:VK} (I:Inv X pins σ H s) (h:qI fr wi g tc te σ H Q)
  (hfin:∀ (s₃:Shared) (H₃:Hp) (fp:List Addr) (D:Addr) (s6:Shared) (τ:St) (H5:Hp) (fl:Flow),Inv X pins σ H₃ s₃->(∀ b∈fp,vV X pins H₃ b)->Inv (zF X scope N' s₃ H₃ fp pins) [] τ H5 s6->Q (.ref D) H5 ->
   compPost (model X.prog X.w) X.A X.xe use Qf (.ref D) s₃.heap.objs.size (.ok fl) s6) :
  wpAny (model X.prog X.w) X.A (comprehension (.ListComp elt [⟨tg,iter,ifs,0⟩] scope pos) scope X.env cp (newList []) false (eval iter X.env) use) Qf X.xe s:=by
 refine wpAny_comprehension_free (use:=use) rfl hs (vY S.free) S.kind S.loc ?_
 refine thn (hi pins s σ H _ I h) fun v s1 h1=>thn h1 fun itv s2 h2=>?_
 obtain ⟨it,fp,tn,J,H2,rfl,I2,T,st2,f2,hW⟩:=h2
 refine wpAny_newObj_type ?_ (by size_fits)
 have hD:H2 s2.heap.objs.size=none:=I2.hok.fresh (tY _)
 have I3:Inv X pins σ (upd H2 s2.heap.objs.size (.lst [])) { s2 with heap:=s2.heap.push { cls:=.type "list",data:=.seq ([]:List Value).toArray },toks:=s2.toks } :=
  I2.laid (fun b u e=>Heap.get?_push_of_some _ e) (tY _) ⟨rO _,[],0,.nil,Heap.get?_push_size _ rfl⟩
 generalize eD:s2.heap.objs.size=D at I3 hD ⊢
 generalize eH:upd H2 D (.lst [])=H3 at I3
 have f3:∀ b∈fp,vV X pins H3 b:=fun b hb=>by
  obtain ⟨g0,g1⟩:=f2 b hb
  refine ⟨?_,g1⟩
  obtain ⟨o,ho,_⟩:=T.obj 0 _ st2 b hb
  rw [<- eH,zI (by rw [<- eD]; exact sV (Heap.lt_size ho))]
  exact g0
 have lt3:∀ b∈fp,b<(s2.heap.push { cls:=.type "list",data:=.seq ([]:List Value).toArray }).objs.size:=fun b hb=>by
  obtain ⟨o,ho,_⟩:=T.obj 0 _ st2 b hb
  rw [Heap.size_push]
  exact Nat.lt_succ_of_lt (Heap.lt_size ho)
 have st3:tn 0 (s2.heap.push { cls:=.type "list",data:=.seq ([]:List Value).toArray }):=T.keep _ _ _ st2 fun b _ o e=>Heap.get?_push_of_some _ e
 obtain ⟨W,⟨m0,w0⟩,turn⟩:=hW D hD
 rw [eH] at w0
 generalize es3:({ s2 with heap:=s2.heap.push { cls:=.type "list",data:=.seq ([]:List Value).toArray },toks:=s2.toks }:Shared)=s3 at I3
 have lt3:∀ b∈fp,b<s3.heap.objs.size:=by rw [<- es3]; exact lt3
 have st3:tn 0 s3.heap:=by rw [<- es3]; exact st3
 refine wpAny_newFunctionEnv S.nocell (by intro y hy; cases hy) (fun h4 hn4 hsb4=>?_) S.kind
 have k4:∀ b o,s3.heap.get? b=some o->h4.get? b=some o:=fun b o e=>(hsb4.2 b (sV (Heap.lt_size e))).trans (Heap.get?_push_of_some _ e)
 have I4:Inv (zF X scope N' s3 H3 fp pins) [] (xI fr σ) H3 { s3 with heap:=h4,toks:=s3.toks+([]:List (Str×Value)).length }:=WM I3 S f3 lt3 hn4 k4
 have st4:tn 0 h4:=T.keep _ _ _ st3 fun b _ o e=>k4 b o e
 have stat:∀ {H':Hp} {p':List (Addr×Obj)},p'=[]->(∀ b∈fp,H' b=none)->∀ b∈fp,vV (zF X scope N' s3 H3 fp pins) p' H' b:=fun {H' p'} hp hn b hb=>by
  subst hp
  obtain ⟨g0,g1,g2,g3,g4,g5⟩:=f3 b hb
  refine ⟨hn b hb,sV (lt3 b hb),fun hm=>?_,.inl hb,fun x c h=>g4 x c (xg S h),fun p hp=>?_⟩
  ·rcases sJ.mp (I3.stkSub b hm) with z | z
   ·exact g1 z
   ·exact g2 z
  ·have hp:p∈(X.pn++pins)++[]:=hp
   rw [sF] at hp
   exact g5 p hp
 have loop:∀ s':Shared,s'={ s3 with heap:=h4,toks:=s3.toks+([]:List (Str×Value)).length }->codeAny (model X.prog X.w) X.A (.compLoop (.ListComp elt [⟨tg,iter,ifs,0⟩] scope pos) 0 (.ref it) (.ref D) (compEnvC scope (xV X.env.cells scope.names []) s3.heap.objs.size X.env))
   (compPost (model X.prog X.w) X.A X.xe use Qf (.ref D) s3.heap.objs.size) s':=by
  rintro s' rfl
  refine codeAny_loop rfl (fun n s'=>∃ i ys τ H',Inv (zF X scope N' s3 H3 fp pins) [] τ H' s'/\tn i s'.heap/\(∀ b∈fp,H' b=none)/\W i n ys τ H') ?_ m0 ⟨0,[],_,H3,I4,st4,fun b hb=>(f3 b hb).1,w0⟩
  rintro n s5 ⟨i,ys,τ,H5,I5,st5,fr5,w5⟩
  show wpAny _ X.A ((compTurn (.ListComp elt [⟨tg,iter,ifs,0⟩] scope pos) 0 (.ref it) (.ref D) (compEnvC scope (xV X.env.cells scope.names []) s3.heap.objs.size X.env)).onRaise (fun x=>do noteFrame x (compEnvC scope (xV X.env.cells scope.names []) s3.heap.objs.size X.env); theTreesLotGoes x)) _ _ s5
  refine wpAny_noted ?_
  rw [compTurn_list]
  obtain ⟨hDy,hor⟩:=turn i n ys τ H5 w5
  rcases hor with ⟨stop,q⟩ | ⟨go,step⟩
  ·refine wpAny_bind (wpAny_standAt (wpAny_bind (thn (T.done (zF X scope N' s3 H3 fp pins) rfl rfl rfl hc i [] s5 τ H5 _ I5 (stat rfl fr5) st5 stop) fun r s6 ⟨hr,I6⟩=>?_)))
   subst hr
   exact wpAny_pure (hfin s3 H3 fp D s6 τ H5 _ I3 f3 I6 q)
  ·refine wpAny_bind (wpAny_standAt (wpAny_bind (thn (T.item (zF X scope N' s3 H3 fp pins) rfl rfl rfl hc i [] s5 τ H5 _ I5 (stat rfl fr5) st5 go) fun r s6 ⟨u,hr,h6⟩=>?_)))
   subst hr
   refine wpAny_bind (thn h6 fun _ s7 ⟨x,H7,I7,r7,y7,st7,fr7⟩=>?_)
   have I7':=I7.pinned (stat rfl fr7) (T.obj _ _ st7)
   refine wpAny_bind (wpAny_mono (hg s3 H3 fp pins _ s7 τ H7 x u _ I7' r7 (step x H7 y7)) (fun _ s8 ⟨τ8,H8,I8,q8⟩=>?_) fun _ _ z=>False.elim z)
   refine wpAny_bind (wpAny_mono (ht s3 H3 fp pins _ s8 τ8 H8 _ I8 q8) (fun b s9 ⟨H9,I9,q9⟩=>?_) fun _ _ z=>False.elim z)
   have again:∀ {s':Shared} {H':Hp},Inv (zF X scope N' s3 H3 fp pins) ([]++uf fp s7.heap) τ8 H' s'->tn (i+1) s'.heap/\∀ b∈fp,H' b=none:=fun {s' H'} I'=>by
    refine ⟨T.keep _ _ _ st7 fun b hb o e=>(I'.pin (b,o) (tJ _ (tJ _ (xf hb e)))).1,fun b hb=>?_⟩
    obtain ⟨o,e,d⟩:=T.obj _ _ st7 b hb
    exact (I'.pin (b,o) (tJ _ (tJ _ (xf hb e)))).2.1
   cases b with
   | false =>
    rw [if_neg tX] at q9
    obtain ⟨m',hm,w9⟩:=q9
    obtain ⟨a1,a2⟩:=again I9
    refine wpAny_pure ⟨rfl,m',hm,i+1,ys,τ8,H9,I9.unpinned,a1,a2,w9⟩
   | true =>
    rw [if_pos rfl] at q9
    refine wpAny_bind (wpAny_bind (wpAny_mono (he s3 H3 fp pins _ s9 τ8 H9 _ I9 q9) (fun yv s10 ⟨y,H10,I10,r10,hD10,hz,m',hm,w10⟩=>?_) fun _ _ z=>False.elim z))
    refine wpAny_bind (wpAny_mono (qq (X:=zF X scope N' s3 H3 fp pins) _ s10 τ8 H10 (.ref D) [y] (.ref D) [yv] (fun _ H11=>H11=upd H10 D (.lst (ys++[y]))) I10 rfl (.cons r10 .nil) ⟨D,ys,y,rfl,rfl,hD10,hz,rfl⟩) (fun _ s11 ⟨_,H11,I11,_,q11⟩=>?_) fun _ _ z=>False.elim z)
    subst q11
    obtain ⟨a1,a2⟩:=again I11
    exact wpAny_pure (wpAny_pure ⟨rfl,m',hm,i+1,ys++[y],τ8,_,I11.unpinned,a1,a2,w10⟩)
 exact codeAny_compStart_list (loop _ rfl) (T.self _ 0 _ _ _ st4 (loop _ rfl))
theorem WL {X:Cx}{N':List Str}{fr:List (Option Nat)}{scope:Scope}{tg iter elt:Expr}{ifs:List Expr}{wi:TI}{g:TG}{tc:TT}{te:TE}{pos:Pos}(hc:X.calm=true)(S:CompScope X N' fr scope)(hi:PI X tg iter wi)
  (hg:∀ s₃ H₃ fp pins,PG (zF X scope N' s₃ H₃ fp pins) tg g) (ht:∀ s₃ H₃ fp pins,PTs (zF X scope N' s₃ H₃ fp pins) ifs tc) (he:∀ s₃ H₃ fp pins,PE (zF X scope N' s₃ H₃ fp pins) elt te)
  (hs:autoParam (∀ x,foldedSetIterable iter X.env x=pure x) L2.au2._auto_1):PE X (.ListComp elt [⟨tg,iter,ifs,0⟩] scope pos) (qI fr wi g tc te):=by
 intro pins s σ H Q I h
 rw [eval_ListComp]
 refine YI (use:=none) hc S hi hg ht he hs I h fun s3 H3 fp D s6 τ H5 fl I3 f3 I6 q=>?_
 obtain ⟨m6,hn6,_⟩:=I6.loc
 exact ⟨m6,hn6,fun h7 hs7=>⟨.ref D,H5,jJ I3 I6 f3 hs7,rfl,q⟩⟩
theorem JS {X:Cx}{N':List Str}{fr:List (Option Nat)}{scope:Scope}{tg iter elt:Expr}{ifs:List Expr}{wi:TI}{g:TG}{tc:TT}{te:TE}{pos pos' cpos:Pos}{i:Nat}{x:Str}(hc:X.calm=true)(S:CompScope X N' fr scope)(hi:PI X tg iter wi)
  (hg:∀ s₃ H₃ fp pins,PG (zF X scope N' s₃ H₃ fp pins) tg g) (ht:∀ s₃ H₃ fp pins,PTs (zF X scope N' s₃ H₃ fp pins) ifs tc) (he:∀ s₃ H₃ fp pins,PE (zF X scope N' s₃ H₃ fp pins) elt te)
  (hN:X.N.Nodup) (hix:X.N[i]?=some x) (hx:Loc X.env.scope x) (hsw:swapsWith (.ListComp elt [⟨tg,iter,ifs,0⟩] scope cpos) (some (.Name x pos')) pos.line X.env=pure true)
  (hs:autoParam (∀ x,foldedSetIterable iter X.env x=pure x) L2.au2._auto_1) (hf:autoParam (X.fn x=true\/X.env.scope.names.lookup x=some .local) L2.au0._auto_1):PS X (.Assign [.Name x pos'] (.ListComp elt [⟨tg,iter,ifs,0⟩] scope cpos) pos) (z1P (qI fr wi g tc te) (uv i)):=by
 intro pins s σ H Z I h
 rw [exec_Assign_Name_used _ _ _ _ hsw]
 refine wpAny_bind (wpAny_standAt (wpAny_bind ?_))
 show wpAny _ _ (comprehension (.ListComp elt [⟨tg,iter,ifs,0⟩] scope cpos) scope X.env (firstIterPos [⟨tg,iter,ifs,0⟩] cpos) (newList []) false (eval iter X.env) (some (assign (.Name x pos') X.env)) >>= fun _=>pure ()) _ _ s
 refine wpAny_bind (YI (use:=some (assign (.Name x pos') X.env)) hc S hi hg ht he hs I h fun s3 H3 fp D s6 τ H5 fl I3 f3 I6 q=>?_)
 obtain ⟨m6,hn6,_⟩:=id I6.loc
 have I7:Inv X pins σ H5 s6:=jJ (h':=s6.heap) I3 I6 f3 ⟨rfl,fun _ _=>rfl⟩
 have ltC:X.env.locals<s3.heap.objs.size:=I3.lt
 have cC:∀ y c,X.env.cells.lookup y=some c->c≠s3.heap.objs.size:=fun y c e z=>by
  obtain ⟨v,o,ho,_⟩:=I3.cell y c e
  exact absurd (Heap.lt_size ho) (by rw [z]; exact rX _)
 show wpAny (model X.prog X.w) X.A (assign (.Name x pos') X.env (.ref D)) _ X.xe s6
 refine wpAny_assign_Name (uW I7 hN hix hx (v:=.ref D) (u:=.ref D) rfl (fun s8 I8 sb=>?_) hf)
 obtain ⟨a8,sb8,ha8⟩:=sb
 have neC:s3.heap.objs.size≠a8:=by
  rcases ha8 with z | z
  ·rw [z]; exact Nat.ne_of_gt ltC
  ·exact fun w=>cC x a8 z w.symm
 have hn8:s8.heap.Ns s3.heap.objs.size m6:=by
  obtain ⟨o,es,ep,ho,r⟩:=hn6
  exact ⟨o,es,ep,(sb8.2 _ neC).trans ho,r⟩
 refine ⟨m6,hn8,fun h9 hs9=>?_⟩
 have frC:H5 s3.heap.objs.size=none:=I6.free
 refine wpAny_pure (wpAny_pure ⟨_,H5,?_,q⟩)
 have:=I8.turned (h':=h9) (t':=s8.toks) (it:=s3.heap.objs.size) (fun b o hb e=>(hs9.2 b hb).trans e) frC (Nat.ne_of_gt ltC) (.inr (rC I3.ok.above (Nat.le_of_lt ltC))) cC (fun p hp z=>?_)
 ·exact this
 ·have:=Heap.lt_size (I3.pin p hp).1
  rw [z] at this
  exact rX _ this
section
variable {X:Cx}
end
def z1N (x:Str)(i:Nat)(v:V):Prop:=∃ c,x.cps[i]?=some c/\v=.str ⟨#[c]⟩
def Its (x:Str):It:=⟨fun i _=>i<x.cps.size,fun i H v H'=>H'=H/\z1N x i v,fun i _=>x.cps.size<=i⟩
theorem X5 {P:Program}{w:World}{K:PySem.W.Frag}{tg:Expr}(x:Str)(t:Tok)(it:Addr):Turn P w K tg (Its x) [it] it (fun i h=>h.IsStrIter it "str_ascii_iterator" x t i) where
 mem:=by simp
 obj:=fun i h st b hb=>by
  have e:b=it:=by simpa using hb
  subst e
  obtain ⟨o,e,c,d⟩:=st
  exact ⟨o,e,fun v z=>by rw [d] at z; cases z⟩
 keep:=fun i h h' st k=>let ⟨o,ho,r⟩:=st; ⟨o,k it (by simp) o ho,r⟩
 item:=by
  intro X hP hw hK hc i pins s σ H E I hf st hg
  subst hP hw hK
  have hg:i<x.cps.size:=hg
  obtain ⟨f0,f1,f2,f3,f4,f5⟩:=hf it (by simp)
  refine wpAny_pyNext_ascii_item st (c:=x.cps[i]) (by simp [hg]) fun h' st' sb=>?_
  have I1:Inv X pins σ H { s with heap:=h',toks:=s.toks+1 }:=I.turned (fun b o hb e=>(sb.2 b hb).trans e) f0 f1 f3 f4 f5
  obtain ⟨o,e,c,d⟩:=id st'
  exact ⟨_,rfl,jE (s:={ s with heap:=h',toks:=s.toks+1 }) e c d (by decide) ⟨.str ⟨#[x.cps[i]]⟩,H,I1,⟨_,rfl⟩,⟨rfl,_,by simp [hg],rfl⟩,st',fun b hb=>(hf b hb).1⟩⟩
 done:=by
  intro X hP hw hK hc i pins s σ H E I hf st hg
  subst hP hw hK
  have hg:x.cps.size<=i:=hg
  obtain ⟨f0,f1,f2,f3,f4,f5⟩:=hf it (by simp)
  exact wpAny_pyNext_ascii_end (I.ok.hd hc) st (by simp [hg]) fun h' eb=>⟨rfl,I.turned (t':=s.toks) (fun b o hb e=>eb b o hb e) f0 f1 f3 f4 f5⟩
 self:=fun _ _ _ _ _ st h=>wpAny_pyIter_striter_ascii st h
theorem V1 {P:Program}{w:World}{K:PySem.W.Frag}{tg:Expr}(x:Str)(t:Tok)(it:Addr):Turn P w K tg (Its x) [it] it (fun i h=>h.IsStrIter it "str_iterator" x t i) where
 mem:=by simp
 obj:=fun i h st b hb=>by
  have e:b=it:=by simpa using hb
  subst e
  obtain ⟨o,e,c,d⟩:=st
  exact ⟨o,e,fun v z=>by rw [d] at z; cases z⟩
 keep:=fun i h h' st k=>let ⟨o,ho,r⟩:=st; ⟨o,k it (by simp) o ho,r⟩
 item:=by
  intro X hP hw hK hc i pins s σ H E I hf st hg
  subst hP hw hK
  have hg:i<x.cps.size:=hg
  obtain ⟨f0,f1,f2,f3,f4,f5⟩:=hf it (by simp)
  refine wpAny_pyNext_wide_item st (c:=x.cps[i]) (by simp [hg]) fun h' st' sb=>?_
  have I1:Inv X pins σ H { s with heap:=h',toks:=s.toks+1 }:=I.turned (fun b o hb e=>(sb.2 b hb).trans e) f0 f1 f3 f4 f5
  obtain ⟨o,e,c,d⟩:=id st'
  exact ⟨_,rfl,jE (s:={ s with heap:=h',toks:=s.toks+1 }) e c d (by decide) ⟨.str ⟨#[x.cps[i]]⟩,H,I1,⟨_,rfl⟩,⟨rfl,_,by simp [hg],rfl⟩,st',fun b hb=>(hf b hb).1⟩⟩
 done:=by
  intro X hP hw hK hc i pins s σ H E I hf st hg
  subst hP hw hK
  have hg:x.cps.size<=i:=hg
  obtain ⟨f0,f1,f2,f3,f4,f5⟩:=hf it (by simp)
  exact wpAny_pyNext_wide_end (I.ok.hd hc) st (by simp [hg]) fun h' eb=>⟨rfl,I.turned (t':=s.toks) (fun b o hb e=>eb b o hb e) f0 f1 f3 f4 f5⟩
 self:=fun _ _ _ _ _ st h=>wpAny_pyIter_striter_wide st h
def z4p (te:TE):TI:=fun σ H R=>te σ H fun v H1=>∃ x,v=.str x/\R (Its x) H1
theorem z1C {X:Cx}{tg e:Expr}{te:TE}(he:PE X e te):PI X tg e (z4p te):=by
 intro pins s σ H R I h
 refine thn (he pins s σ H _ I h) fun v s1 ⟨y,H1,I1,r1,q1⟩=>?_
 obtain ⟨x,rfl,q⟩:=q1
 obtain ⟨t,rfl⟩:=r1
 cases ha:x.cps.all (·<128)
 ·refine wpAny_pyIter_wide ha ?_
  refine ⟨s1.heap.objs.size,[s1.heap.objs.size],_,_,H1,rfl,I1.kept (t':=s1.toks) fun b o e=>Heap.get?_push_of_some _ e,V1 x t _,⟨_,Heap.get?_push_size _ rfl,rfl,rfl⟩,fun b hb=>?_,q⟩
  have e:b=s1.heap.objs.size:=by simpa using hb
  subst e
  exact I1.fpOk (tY _) (I1.hok.fresh (tY _))
 ·refine wpAny_pyIter_ascii ha ?_
  refine ⟨s1.heap.objs.size,[s1.heap.objs.size],_,_,H1,rfl,I1.kept (t':=s1.toks) fun b o e=>Heap.get?_push_of_some _ e,X5 x t _,⟨_,Heap.get?_push_size _ rfl,rfl,rfl⟩,fun b hb=>?_,q⟩
  have e:b=s1.heap.objs.size:=by simpa using hb
  subst e
  exact I1.fpOk (tY _) (I1.hok.fresh (tY _))
def Itd (d:Addr)(o:Obj)(kvs:List (Key×V)):It :=
 ⟨fun i H=>H d=some (.frz o (.dK kvs))/\i<kvs.length,fun i H v H'=>H'=H/\∃ k y,kvs[i]?=some (k,y)/\v=kV k,fun i H=>H d=some (.frz o (.dK kvs))/\kvs.length<=i⟩
theorem z16 {P:Program}{w:World}{k:Key}{u:Value}(h:(zM P w).is k u=true):RelV (kV k) u:=by
 rcases zY h with ⟨i,t,rfl,rfl⟩ | ⟨x,t,rfl,rfl⟩ | ⟨rfl,rfl⟩
 ·exact ⟨t,rfl⟩
 ·exact ⟨t,rfl⟩
 ·rfl
theorem WR {P:Program}{w:World}{K:PySem.W.Frag}{tg:Expr}{o:Obj}{es:Array DictEntry}{ep:Nat}(hod:o.data=.dict es ep)(d:Addr)(kvs:List (Key×V))(it:Addr) :
  Turn P w K tg (Itd d o kvs) [it] it (fun i h=>h.IsKeyIter it d i kvs.length ep) where
 mem:=by simp
 obj:=fun i h st b hb=>by
  have e:b=it:=by simpa using hb
  subst e
  obtain ⟨o,e,c,d⟩:=st
  exact ⟨o,e,fun v z=>by rw [d] at z; cases z⟩
 keep:=fun i h h' st k=>let ⟨o,ho,r⟩:=st; ⟨o,k it (by simp) o ho,r⟩
 item:=by
  intro X hP hw hK hc i pins s σ H E I hf st hg
  subst hP hw hK
  obtain ⟨hd,hi⟩:=hg
  obtain ⟨f0,f1,f2,f3,f4,f5⟩:=hf it (by simp)
  obtain ⟨e1,z,y,vs,rel,oo,es',ep',e2,r⟩:=I.hok d _ hd
  rw [e1] at e2; cases e2
  have hat:s.heap.DictAt (zM X.prog X.w) d vs ep:=by
   obtain ⟨r1,r2,r3⟩:=r
   rw [hod] at r2; cases r2
   exact ⟨o,es,e1,r1,hod,r3⟩
  have hl:=rel.length
  have hx:vs[i]?=some (vs[i]'(by omega)):=by simp
  obtain ⟨k,y',hk⟩:∃ k y',vs[i]'(by omega)=(k,y'):=⟨_,_,rfl⟩
  rw [hk] at hx
  have kk:∃ yv,kvs[i]?=some (k,yv):=by
   have hkk:=congrArg (fun l=>l[i]?) rel.keys
   simp only [sM,hx,pI] at hkk
   cases hq:kvs[i]? with
   | none=>rw [hq] at hkk; simp at hkk
   | some p =>
    rw [hq] at hkk
    simp only [pI,Option.some.injEq] at hkk
    exact ⟨p.2,by rw [<- hkk]⟩
  obtain ⟨yv,hyv⟩:=kk
  have st:s.heap.IsKeyIter it d i vs.length ep:=by rw [<- hl]; exact st
  refine wpAny_pyNext_dict_item st hat hx fun key h' hkey st' sb=>?_
  have I1:Inv X pins σ H { s with heap:=h',toks:=s.toks }:=I.turned (fun b o hb e=>(sb.2 b hb).trans e) f0 f1 f3 f4 f5
  obtain ⟨o',e',c',d'⟩:=id st'
  exact ⟨key,rfl,jE (s:={ s with heap:=h' }) e' c' d' (by decide) ⟨kV k,H,I1,z16 hkey,⟨rfl,k,yv,hyv,rfl⟩,by rw [hl]; exact st',fun b hb=>(hf b hb).1⟩⟩
 done:=by
  intro X hP hw hK hc i pins s σ H E I hf st hg
  subst hP hw hK
  obtain ⟨hd,hi⟩:=hg
  obtain ⟨f0,f1,f2,f3,f4,f5⟩:=hf it (by simp)
  obtain ⟨e1,z,y,vs,rel,oo,es',ep',e2,r⟩:=I.hok d _ hd
  rw [e1] at e2; cases e2
  have hat:s.heap.DictAt (zM X.prog X.w) d vs ep:=by
   obtain ⟨r1,r2,r3⟩:=r
   rw [hod] at r2; cases r2
   exact ⟨o,es,e1,r1,hod,r3⟩
  have hl:=rel.length
  have st:s.heap.IsKeyIter it d i vs.length ep:=by rw [<- hl]; exact st
  exact wpAny_pyNext_dict_end (I.ok.hd hc) st hat (by simp; omega) fun h' eb=>⟨rfl,I.turned (t':=s.toks) (fun b o hb e=>eb b o hb e) f0 f1 f3 f4 f5⟩
 self:=fun _ _ _ _ _ st h=>wpAny_pyIter_keyiter st h
def Qr (te:TE):TI:=fun σ H R=>te σ H fun v H1=>∃ a kvs,v=.ref a/\Rd H1 a (.dK kvs)/\∀ o,R (Itd a o kvs) (upd H1 a (.frz o (.dK kvs)))
theorem Inv.freeze {X:Cx}{pins:List (Addr×Obj)}{σ:St}{H:Hp}{s:Shared}{a:Addr}{kvs:List (Key×V)}(I:Inv X pins σ H s)(e:Rd H a (.dK kvs)) :
  ∃ o es ep,s.heap.get? a=some o/\o.data=.dict es ep/\Inv X pins σ (upd H a (.frz o (.dK kvs))) s:=by
 obtain ⟨z,y,vs,rel,o,es,ep,h1,h2,h3,h4⟩:=e.ok I.hok
 have hok:HOk X.prog X.w (upd H a (.frz o (.dK kvs))) s.heap:=fun b u q=>by
  have keepT:∀ c xs,H c=some (.tup xs)->upd H a (.frz o (.dK kvs)) c=some (.tup xs):=fun c xs r=>by
   rw [zI (fun w=>by subst w; rcases e with e | ⟨_,e⟩<;>(rw [r] at e; cases e))]; exact r
  have keepO:∀ c x,H c=some (.own x)->upd H a (.frz o (.dK kvs)) c=some (.own x):=fun c x r=>by
   rw [zI (fun w=>by subst w; rcases e with e | ⟨_,e⟩<;>(rw [r] at e; cases e))]; exact r
  by_cases hb:b=a
  ·subst hb
   rw [zG] at q; cases q
   exact ⟨h1,z,y,vs,rel,o,es,ep,h1,h2,h3,h4⟩
  ·rw [zI hb] at q
   exact (I.hok b u q).stay (fun c v _ r=>r) (fun c r=>keepO c b r) fun c xs r=>keepT c xs r
 refine ⟨o,es,ep,h1,h3,?_⟩
 have nn:H a≠none:=by rcases e with e | ⟨_,e⟩<;>(rw [e]; simp)
 have J:Inv X pins σ (upd H a (.frz o (.dK kvs))) { s with heap:=s.heap,toks:=s.toks }:=I.un ⟨fun b ob q _ _ _=>q,fun b ob q _ _ _=>⟨ob.slots,q⟩,fun b ob q n _=>(by rw [zI (show b≠a from fun w=>nn (by rw [<- w]; exact n))]; exact n),fun b ob q _=>⟨ob,q⟩,
  fun b xs r=>by rw [zI (fun w=>by subst w; rcases e with e | ⟨_,e⟩<;>(rw [r] at e; cases e))]; exact r,
  fun b ob u r=>by
   by_cases hb:b=a
   ·subst hb
    rcases e with e | ⟨o',e⟩
    ·rw [r] at e; cases e
    ·have e1:=(I.hok b _ e).1
     rw [h1] at e1; cases e1
     rw [e] at r; cases r
     exact zG
   ·rw [zI hb]; exact r,
  fun b ps r=>⟨#[],by rw [zI (fun w=>by subst w; rcases e with e | ⟨_,e⟩<;>(rw [r] at e; cases e)),r]; simp⟩⟩ hok
 exact J
theorem KY {X:Cx}{tg e:Expr}{te:TE}(he:PE X e te):PI X tg e (Qr te):=by
 intro pins s σ H R I h
 refine thn (he pins s σ H _ I h) fun v s1 ⟨y,H1,I1,r1,q1⟩=>?_
 obtain ⟨a,kvs,rfl,hr,q⟩:=q1
 obtain rfl:v=Value.ref a:=r1
 obtain ⟨o,es,ep,h1,h2,I2⟩:=I1.freeze hr
 obtain ⟨e1,z,y,vs,rel,oo,es',ep',e2,r0,r2,r3⟩:=I2.hok a _ zG
 rw [e1] at e2; cases e2
 rw [h2] at r2; cases r2
 have hat:s1.heap.DictAt (zM X.prog X.w) a vs ep:=⟨o,es,h1,r0,h2,r3⟩
 refine wpAny_pyIter_dict y hat ?_
 have I3:Inv X pins σ (upd H1 a (.frz o (.dK kvs))) { s1 with heap:=s1.heap.push { cls:=.type "dict_keyiterator",data:=.fields #[.ref a,.int 0 0,.int vs.length 0,.int ep 0] },toks:=s1.toks }:=I2.kept fun b ob e=>Heap.get?_push_of_some _ e
 have hl:=rel.length
 refine ⟨s1.heap.objs.size,[s1.heap.objs.size],_,_,_,rfl,I3,WR h2 a kvs s1.heap.objs.size,⟨_,Heap.get?_push_size _ rfl,rfl,by rw [hl]; rfl⟩,fun b hb=>?_,q o⟩
 have e:b=s1.heap.objs.size:=by simpa using hb
 subst e
 exact I2.fpOk (tY _) (I2.hok.fresh (tY _))
section
variable {X:Cx}
def z4G:V->Option Int->Option Int->Hp->VK->Prop:=fun x lo hi H Q=>∃ z,x=.str z/\z.length<=sizeLine/\Q (.str (Txt.slice z lo hi)) H
theorem z1l:SlR X z4G:=by
 intro pins s σ H x v vl vu lo hi sl Q I rx hs pl pu h
 obtain ⟨z,rfl,hz,q⟩:=h
 obtain ⟨t,rfl⟩:=rx
 refine ⟨"str",_,F.slot_str_getitem.lookup,typeIs_str _ _ _,?_⟩
 have fin:∀ (l u:Option (Int×Tok)),vl=partValue l->vu=partValue u->l.map (·.1)=lo->u.map (·.1)=hi->wpAny (model X.prog X.w) X.A (getItem (.str z t) (.ref sl)) (EP X pins σ Q) X.xe s:=by
  intro l u e1 e2 e3 e4
  subst e1 e2 e3 e4
  refine wpAny_getItem_str_slice (st:=none) hs rfl (post_val_or_str ⟨rC (Txt.slice_le z _ _) hz,fun t' k=>?_⟩)
  exact ⟨.str _,H,I.tok k,⟨t',rfl⟩,q⟩
 cases pl with
 | none =>
  cases pu with
  | none=>exact fin none none rfl rfl rfl rfl
  | int j tj=>exact fin none (some (j,tj)) rfl rfl rfl rfl
 | int i ti =>
  cases pu with
  | none=>exact fin (some (i,ti)) none rfl rfl rfl rfl
  | int j tj=>exact fin (some (i,ti)) (some (j,tj)) rfl rfl rfl rfl
def z0V:V->List V->Hp->VK->Prop:=fun x xs H Q=>∃ z,x=.str z/\xs=[]/\z.length<=5592405/\Q (.str (Txt.upper z)) H
theorem UR:MtM X "str.upper" z0V:=by
 intro pins s σ H x vs v us Q I rx rv h
 obtain ⟨z,rfl,rfl,hz,q⟩:=h
 obtain ⟨t,rfl⟩:=rx
 cases rv
 exact SCL.upper hz fun _=>⟨.str _,H,I.tok _,⟨_,rfl⟩,q⟩
end
section
variable {prog:Program}{w:World}{A:Around}{E:Value->Shared->Prop}{s:Shared}{K:Type}[DecidableEq K]{knd:KeyKind prog w K}{d:Addr}{kvs:List (K×Value)}{ep:Nat}
end
section
variable {X:Cx}
end
structure DefIn (K:PySem.W.Frag)(mg:Str->Option Value)(x:Str)(st:Stmt)(ps:List Str):Prop where
 ex:∃ f fd,Fun K x x st f fd/\mg x=some (.ref f)/\Binds K fd ps []
theorem Ui {K:PySem.W.Frag}{mg:Str->Option Value}{x:Str}{st:Stmt}{ps:List Str}{h:Heap}{f:Addr}{oc:Value}{od an:Option Addr}{osl:Array (Option Value)}{kV doc pm cdv ct:Value}(X:K.In h)(G:h.Ns mainGlobals mg)
  (hb:∀ (kV doc pm:Value) (an:Option Addr) (cdv ct:Value) (us:List Value),us.length=ps.length->bindArgs (PySem.W.fnOf x x (defArgs st) (defBody st) (defScope st) .none kV doc pm an cdv ct) ⟨us,[]⟩=pure (ps.zip us))
  (a:PySem.W.nsIn K mainGlobals x=some (some (.ref f))) (l:K.lookup f=some ⟨oc,od,.func (PySem.W.fnOf x x (defArgs st) (defBody st) (defScope st) .none kV doc pm an cdv ct),osl⟩)
  (c:PySem.W.codeIn K cdv x=true) (k:PySem.W.keepIn K (.ref f)=true):DefIn K mg x st ps :=
 ⟨f,_,VO l c k,PySem.W.mg_of X G a,(VO (st:=st) l c k).binds hb⟩
structure Own (P:Program)(w:World)(K:PySem.W.Frag)(mg:Str->Option Value)(base:Heap)(x:Str)(k:Nat)(ps:List Str)(sp:Sp):Prop where
 ex:∃ f fd,FnOk P w K mg base (cxx P w) k f fd ps sp/\mg x=some (.ref f)/\PySem.W.keepIn K (.ref f)=true/\Binds K fd ps []
section
variable {P:Program}{w:World}{K:PySem.W.Frag}{mg:Str->Option Value}{base:Heap}{x:Str}{st:Stmt}{N ps:List Str}{k:Nat}{sp:Sp}
theorem DefIn.own (D:DefIn K mg x st ps)(S:FnScope N ps (defScope st))(len:∀ vs H Q E,sp vs H Q E->vs.length=ps.length)
  (hbody:∀ (f:Addr) (cdv:Value) (A:Around) (outer:List Env) (s:Shared) (H:Hp) (vs:List V) (Q:VK) (E:XK),Room k (A.deeper (envOfC x (defScope st) s.heap.objs.size f cdv))->sp vs H Q E ->
   ∃ t,PSs (xF (cxx P w) P w K mg base N x (defScope st) f cdv A outer s H E) (defBody st) t/\t { nx:=fun _ H'=>Q .non H',rt:=Q } (start N vs) H):Own P w K mg base x (k+1) ps sp:=by
 obtain ⟨f,fd,F,hm,hb⟩:=D.ex
 obtain ⟨oc,od,kV,doc,pm,an,cdv,ct,osl,rfl,lk,hcd⟩:=F.ex
 exact ⟨f,_,VQ lk hcd S len fun A outer s H vs Q E hr hsp=>hbody f cdv A outer s H vs Q E hr hsp,hm,F.kp,hb⟩
theorem Own.mono {j:Nat}(O:Own P w K mg base x j ps sp)(h:j<=k):Own P w K mg base x k ps sp:=by
 obtain ⟨f,fd,F,a,b,c⟩:=O.ex
 exact ⟨f,fd,F.mono h,a,b,c⟩
end
section
variable {X:Cx}{x:Str}{k:Nat}{ps:List Str}{sp:Sp}{E:XK}{e:Expr}{es:List Expr}{t:TA}{p pos:Pos}
theorem QU (O:Own X.prog X.w X.K X.mg X.base x k ps sp)(hr:Room k X.A)(hg:Gl X x)(hx:qx (cxx X.prog X.w) X E)(ha:PA X (e::es) t)(hdb:autoParam ((x==("__debug__":Str))=false) L2.au1._auto_1)
  (he:autoParam (starEach (e::es) X.env=(false,eval e X.env)::starEach es X.env) L2.au3._auto_1) (hpl:autoParam ((backTo pos (starEach es X.env)).any (·.1)=false) L2.au3._auto_1):PE X (.Call (.Name x p) (e::es) [] pos) (WA sp [] E t):=by
 obtain ⟨f,fd,F,hm,hk,hb⟩:=O.ex
 exact JE F hr hg hm hk hb .nil hx ha hdb he hpl
theorem JI {CS:Addr}{xc n:Str}{pos' pc hpos tpos:Pos}{i:Nat}{b₀:Stmt}{suite:List Stmt}{ts:Addr->Obj->TS}(O:Own X.prog X.w X.K X.mg X.base x k ps sp)(hst:X.stack=X.env::X.outer)(hf:X.env.frame=some X.env.locals)(hc:X.calm=true)(hN:X.N.Nodup)(hr:Room k X.A)(hg:Gl X x)
  (ha:PA X.nox (e::es) t) (hgc:Gl X xc) (hmc:X.mg xc=some (.ref CS)) (hi:X.N[i]?=some n) (hx:X.env.scope.names.lookup n=some .local) (hsuite:∀ (e:Addr) (oe:Obj),PSs (X.within e oe) (b₀::suite) (ts e oe))
  (hdb:autoParam ((x==("__debug__":Str))=false) L2.au1._auto_1) (hdc:autoParam ((xc==("__debug__":Str))=false) L2.au1._auto_1)
  (he:autoParam (starEach (e::es) X.env=(false,eval e X.env)::starEach es X.env) L2.au3._auto_1) (hpl:autoParam ((backTo pos (starEach es X.env)).any (·.1)=false) L2.au3._auto_1)
  (hsw:autoParam (swapsWith (.Call (.Name x p) (e::es) [] pos) none pos'.line X.env=pure false) L2.au3._auto_1) :
  PS X (.Try [.Expr (.Call (.Name x p) (e::es) [] pos) pos'] [.ExceptHandler (some (.Name xc pc)) (some n) (b₀::suite) hpos] [] [] tpos) (z3c X.K CS i sp [] t ts):=by
 obtain ⟨f,fd,F,hm,hk,hb⟩:=O.ex
 exact z1q hst hf hc hN F hr hg hm hk hb .nil ha hgc hmc hi hx hsuite hdb hdc he hpl hsw
end
def qH:List String:=["NoneType","bool","int","str","list","tuple","dict"]
section
variable {K:PySem.W.Frag}
theorem KG:∀ {T:String},T∈qH->PySem.W.kitOne K (.type T) (.type "int")=some (T=="int"||T=="bool"):=by
 intro T h
 simp only [qH,sJ,pF,or_false] at h
 rcases h with rfl | rfl | rfl | rfl | rfl | rfl | rfl<;>kernel_rfl
theorem Ux:∀ {T:String},T∈qH->PySem.W.kitOne K (.type T) (.type "bool")=some (T=="bool"):=by
 intro T h
 simp only [qH,sJ,pF,or_false] at h
 rcases h with rfl | rfl | rfl | rfl | rfl | rfl | rfl<;>kernel_rfl
theorem UM:∀ {T U:String},T∈qH->U∈(["str","list","tuple","dict"]:List String)->PySem.W.kitOne K (.type T) (.type U)=some (T==U):=by
 intro T U h g
 simp only [qH,sJ,pF,or_false] at h g
 rcases g with rfl | rfl | rfl | rfl<;>rcases h with rfl | rfl | rfl | rfl | rfl | rfl | rfl<;>kernel_rfl
end
def z2L (K:PySem.W.Frag)(pn:List (Addr×Obj))(u:V)(te:TE):TE:=fun σ H Q=>te σ H fun v H1=>z3r K pn [v,u] H1 Q
theorem UL {X:Cx}{u:V}{te:TE}{e c:Expr}{p pos:Pos}(hg:Gl X "isinstance")(hm:X.mg "isinstance"=none)(he:PE X e te)(hc:PE X c (tC u))(hs:autoParam (starEach [e,c] X.env=(false,eval e X.env)::starEach [c] X.env) L2.au3._auto_1)(hs2:autoParam (starEach [c] X.env=(false,eval c X.env)::starEach [] X.env) L2.au3._auto_1)
  (hpl:autoParam ((backTo pos (starEach [c] X.env)).any (·.1)=false) L2.au3._auto_1):PE X (.Call (.Name "isinstance" p) [e,c] [] pos) (z2L X.K X.pn u te):=by
 have key:=jm (X:=X) (x:="isinstance") (p:=p) (pos:=pos) QY hg hm Boot.«isinstance» (vm he (vm hc qu hs2) hs) (by decide) (by decide) hs hpl
 intro pins s σ H Q I h
 exact key pins s σ H Q I h
inductive D where
 | non | bl (b:Bool) | int (i:Int) | str (x:Str) | tup (xs:List D) | lst (xs:List D) | dic (ks:List Key) (xs:List D) | frl (xs:List D)
inductive R (α:Type) where
 | ok (a:α) | err (c:Str) | bad
def R.bind {α β:Type}(r:R α)(f:α->R β):R β:=match r with
 | .ok a=>f a
 | .err c=>.err c
 | .bad=>.bad
theorem R.ok_bind {α β:Type}(a:α)(f:α->R β):(R.ok a).bind f=f a:=rfl
theorem R.err_bind {α β:Type}(c:Str)(f:α->R β):(R.err c:R α).bind f=.err c:=rfl
mutual
def D.imm:D->Bool
 | .tup xs=>D.imms xs
 | .lst _=>false
 | .dic _ _=>false
 | _=>true
def D.imms:List D->Bool
 | []=>true
 | d::ds=>D.imm d&&D.imms ds
end
def SqF (K:PySem.W.Frag)(H:Hp)(a:Addr)(vs:List V):Prop:=(∃ o,H a=some (.frz o (.lst vs))) \/
 ∃ (o:Obj) (its:Array Value) (n:Nat),K.lookup a=some o/\o.cls=.type "list"/\o.dict=none/\o.data=.seq its n/\its.size<=sizeLine/\Vals vs its.toList
theorem SqF.sq {K:PySem.W.Frag}{H:Hp}{a:Addr}{vs:List V}(h:SqF K H a vs):SqL K H a vs:=by
 rcases h with ⟨o,h⟩ | h
 ·exact .inl (.inr ⟨o,h⟩)
 ·exact .inr h
mutual
def Rep (K:PySem.W.Frag)(H:Hp):D->V->List Addr->Prop
 | .non,v,L=>v=.non/\L=[]
 | .bl b,v,L=>v=.bl b/\L=[]
 | .int i,v,L=>v=.int i/\L=[]
 | .str x,v,L=>v=.str x/\L=[]
 | .tup ds,v,L=>∃ a vs,v=.ref a/\SqT K H a vs/\Reps K H ds vs L
 | .lst ds,v,L=>∃ a vs L',v=.ref a/\H a=some (.lst vs)/\L=a::L'/\Reps K H ds vs L'
 | .dic ks ds,v,L=>∃ a kvs L',v=.ref a/\H a=some (.dK kvs)/\L=a::L'/\kvs.map (·.1)=ks/\ks.Nodup/\Reps K H ds (kvs.map (·.2)) L'
 | .frl ds,v,L=>∃ a vs,v=.ref a/\SqF K H a vs/\L=[]/\D.imms ds=true/\Reps K H ds vs []
def Reps (K:PySem.W.Frag)(H:Hp):List D->List V->List Addr->Prop
 | [],vs,L=>vs=[]/\L=[]
 | d::ds,vs,L=>∃ v vs' L1 L2,vs=v::vs'/\L=L1++L2/\Rep K H d v L1/\Reps K H ds vs' L2
end
structure TF (H H':Hp):Prop where
 tup:∀ a xs,H a=some (.tup xs)->H' a=some (.tup xs)
 frz:∀ a o u,H a=some (.frz o u)->H' a=some (.frz o u)
theorem Same.tf {H H':Hp}(h:Same H H'):TF H H':=⟨fun a xs e=>h a _ e,fun a o u e=>h a _ e⟩
theorem Same.non {H H1:Hp}(s:Same H H1){a:Addr}(h:H1 a=none):H a=none:=by
 cases e:H a with
 | none=>rfl
 | some o=>rw [s a o e] at h; cases h
theorem Same.new {H:Hp}{p:Addr}{o:HO}(h:H p=none):Same H (upd H p o):=fun b u e=>by
 rw [zI (yV e h)]; exact e
theorem SqF.tf {K:PySem.W.Frag}{H H':Hp}{a:Addr}{vs:List V}(h:SqF K H a vs)(s:TF H H'):SqF K H' a vs:=by
 rcases h with ⟨o,h⟩ | h
 ·exact .inl ⟨o,s.frz _ _ _ h⟩
 ·exact .inr h
theorem SqT.tf {K:PySem.W.Frag}{H H':Hp}{a:Addr}{vs:List V}(h:SqT K H a vs)(s:TF H H'):SqT K H' a vs:=by
 rcases h with h | h
 ·rcases h with h | ⟨o,h⟩
  ·exact .inl (.inl (s.tup _ _ h))
  ·exact .inl (.inr ⟨o,s.frz _ _ _ h⟩)
 ·exact .inr h
section
variable {K:PySem.W.Frag}{H H':Hp}
mutual
theorem Rep.keep (s:TF H H'):∀ (d:D) (v:V) (L:List Addr),Rep K H d v L->(∀ a∈L,H' a=H a)->Rep K H' d v L
 | .non,_,_,h,_=>h
 | .bl _,_,_,h,_=>h
 | .int _,_,_,h,_=>h
 | .str _,_,_,h,_=>h
 | .tup ds,_,L,hq3,k=>by
  obtain ⟨a,vs,e,h,r⟩:=hq3
  exact ⟨a,vs,e,h.tf s,Reps.keep s ds vs L r k⟩
 | .lst ds,_,L,hq3,k=>by
   obtain ⟨a,vs,L',e,h1,h2,h3⟩:=hq3
   subst h2
   exact ⟨a,vs,L',e,by rw [k a tQ]; exact h1,rfl,Reps.keep s ds vs L' h3 fun b hb=>k b (tR _ hb)⟩
 | .frl ds,_,L,hq3,k=>by
  obtain ⟨a,vs,e,h1,h2,h3,h4⟩:=hq3
  exact ⟨a,vs,e,h1.tf s,h2,h3,Reps.keep s ds vs [] h4 (fun _ hb=>nomatch hb)⟩
 | .dic ks ds,_,L,hq3,k=>by
   obtain ⟨a,kvs,L',e,h1,h2,h3,h4,h5⟩:=hq3
   subst h2
   exact ⟨a,kvs,L',e,by rw [k a tQ]; exact h1,rfl,h3,h4,Reps.keep s ds _ L' h5 fun b hb=>k b (tR _ hb)⟩
theorem Reps.keep (s:TF H H'):∀ (ds:List D) (vs:List V) (L:List Addr),Reps K H ds vs L->(∀ a∈L,H' a=H a)->Reps K H' ds vs L
 | [],_,_,h,_=>h
 | d::ds,_,_,hq3,k=>by
  obtain ⟨v,vs',L1,L2,e1,e2,h1,h2⟩:=hq3
  subst e2
  exact ⟨v,vs',L1,L2,e1,rfl,Rep.keep s d v L1 h1 fun a ha=>k a (sC _ ha),Reps.keep s ds vs' L2 h2 fun a ha=>k a (tJ _ ha)⟩
end
mutual
theorem Rep.dom:∀ (d:D) (v:V) (L:List Addr),Rep K H d v L->∀ a∈L,(∃ vs,H a=some (.lst vs))\/∃ kvs,H a=some (.dK kvs)
 | .non,_,_,h,a,ha=>by rw [h.2] at ha; cases ha
 | .bl _,_,_,h,a,ha=>by rw [h.2] at ha; cases ha
 | .int _,_,_,h,a,ha=>by rw [h.2] at ha; cases ha
 | .str _,_,_,h,a,ha=>by rw [h.2] at ha; cases ha
 | .tup ds,_,L,hq3,b,hb=>by
  obtain ⟨a,vs,e,h,r⟩:=hq3
  exact Reps.dom ds vs L r b hb
 | .lst ds,_,L,hq3,b,hb=>by
   obtain ⟨a,vs,L',e,h1,h2,h3⟩:=hq3
   subst h2
   rcases sJ.mp hb with z | z
   ·subst z; exact .inl ⟨vs,h1⟩
   ·exact Reps.dom ds vs L' h3 b z
 | .frl ds,_,L,hq3,b,hb=>by
  obtain ⟨a,vs,e,h1,h2,h3,h4⟩:=hq3
  rw [h2] at hb; cases hb
 | .dic ks ds,_,L,hq3,b,hb=>by
   obtain ⟨a,kvs,L',e,h1,h2,h3,h4,h5⟩:=hq3
   subst h2
   rcases sJ.mp hb with z | z
   ·subst z; exact .inr ⟨kvs,h1⟩
   ·exact Reps.dom ds _ L' h5 b z
theorem Reps.dom:∀ (ds:List D) (vs:List V) (L:List Addr),Reps K H ds vs L->∀ a∈L,(∃ vs,H a=some (.lst vs))\/∃ kvs,H a=some (.dK kvs)
 | [],_,_,h,a,ha=>by rw [h.2] at ha; cases ha
 | d::ds,_,_,hq3,a,ha=>by
  obtain ⟨v,vs',L1,L2,e1,e2,h1,h2⟩:=hq3
  subst e2
  rcases sE.mp ha with z | z
  ·exact Rep.dom d v L1 h1 a z
  ·exact Reps.dom ds vs' L2 h2 a z
end
mutual
theorem Rep.imm:∀ (d:D) (v:V) (L:List Addr),Rep K H d v L->d.imm=true->L=[]
 | .non,_,_,h,_=>h.2
 | .bl _,_,_,h,_=>h.2
 | .int _,_,_,h,_=>h.2
 | .str _,_,_,h,_=>h.2
 | .tup ds,_,L,hq3,h=>by
  obtain ⟨_,vs,_,_,r⟩:=hq3
  exact Reps.imm ds vs L r h
 | .lst _,_,_,_,h=>nomatch h
 | .dic _ _,_,_,_,h=>nomatch h
 | .frl _,_,_,hq3,_=>by
  obtain ⟨_,_,_,_,h,_⟩:=hq3
  exact h
theorem Reps.imm:∀ (ds:List D) (vs:List V) (L:List Addr),Reps K H ds vs L->D.imms ds=true->L=[]
 | [],_,_,h,_=>h.2
 | d::ds,_,_,hq3,h=>by
  obtain ⟨v,vs',L1,L2,_,e2,h1,h2⟩:=hq3
  have h:(d.imm&&D.imms ds)=true:=h
  rw [rA] at h
  rw [e2,Rep.imm d v L1 h1 h.1,Reps.imm ds vs' L2 h2 h.2]; rfl
end
theorem Rep.there {d:D}{v:V}{L:List Addr}(h:Rep K H d v L){a:Addr}(ha:a∈L):H a≠none:=by
 rcases Rep.dom d v L h a ha with ⟨_,e⟩ | ⟨_,e⟩<;>rw [e]<;>simp
theorem Reps.there {d:List D}{v:List V}{L:List Addr}(h:Reps K H d v L){a:Addr}(ha:a∈L):H a≠none:=by
 rcases Reps.dom d v L h a ha with ⟨_,e⟩ | ⟨_,e⟩<;>rw [e]<;>simp
theorem Same.at {a:Addr}(s:Same H H')(h:H a≠none):H' a=H a:=by
 cases e:H a with
 | none=>exact absurd e h
 | some o=>exact s a o e
theorem Rep.same {d:D}{v:V}{L:List Addr}(h:Rep K H d v L)(s:Same H H'):Rep K H' d v L:=Rep.keep s.tf d v L h fun _ ha=>s.at (h.there ha)
theorem Reps.same {d:List D}{v:List V}{L:List Addr}(h:Reps K H d v L)(s:Same H H'):Reps K H' d v L:=Reps.keep s.tf d v L h fun _ ha=>s.at (h.there ha)
theorem Reps.length:∀ {ds:List D} {vs:List V} {L:List Addr},Reps K H ds vs L->vs.length=ds.length
 | [],_,_,hq3=>by
  obtain ⟨e,_⟩:=hq3
  rw [e]; rfl
 | d::ds,_,_,hq3=>by
  obtain ⟨v,vs',L1,L2,e1,e2,h1,h2⟩:=hq3
  rw [e1,tH,tH,Reps.length h2]
theorem Reps.nil:Reps K H [] [] []:=⟨rfl,rfl⟩
theorem Reps.cons {d:D}{v:V}{L1:List Addr}{ds:List D}{vs:List V}{L2:List Addr}(h:Rep K H d v L1)(t:Reps K H ds vs L2):Reps K H (d::ds) (v::vs) (L1++L2):=⟨v,vs,L1,L2,rfl,rfl,h,t⟩
theorem Reps.get:∀ {ds:List D} {vs:List V} {L:List Addr} {i:Nat} {d:D},Reps K H ds vs L->ds[i]?=some d->∃ v L1,vs[i]?=some v/\Rep K H d v L1/\List.Sublist L1 L
 | [],_,_,_,_,_,e=>by simp at e
 | d::ds,_,_,0,_,hq5,e=>by
  obtain ⟨v,vs',L1,L2,e1,e2,h1,h2⟩:=hq5
  subst e1 e2
  simp at e
  subst e
  exact ⟨v,L1,rfl,h1,pO _ _⟩
 | d::ds,_,_,i+1,d',hq5,e=>by
  obtain ⟨v,vs',L1,L2,e1,e2,h1,h2⟩:=hq5
  subst e1 e2
  obtain ⟨v',L',a,b,c⟩:=Reps.get (i:=i) (d:=d') h2 (by simpa using e)
  exact ⟨v',L',by simpa using a,b,c.trans (rQ _ _)⟩
theorem Reps.append:∀ {ds ds':List D} {vs vs':List V} {L L':List Addr},Reps K H ds vs L->Reps K H ds' vs' L'->Reps K H (ds++ds') (vs++vs') (L++L')
 | [],_,_,_,_,_,hq6,h=>by
  obtain ⟨e1,e2⟩:=hq6
  subst e1 e2; exact h
 | d::ds,_,_,_,_,_,hq6,h=>by
  obtain ⟨v,vs',L1,L2,e1,e2,h1,h2⟩:=hq6
  subst e1 e2
  have:=Reps.cons h1 (Reps.append h2 h)
  rw [<- sS] at this
  exact this
theorem Reps.take:∀ {ds:List D} {vs:List V} {L:List Addr} (n:Nat),Reps K H ds vs L->∃ L',Reps K H (ds.take n) (vs.take n) L'/\List.Sublist L' L
 | _,_,_,0,_=>⟨[],by simpa using Reps.nil,pN _⟩
 | [],_,_,n+1,hq4=>by
  obtain ⟨e1,e2⟩:=hq4
  subst e1 e2; exact ⟨[],by simpa using Reps.nil,pN _⟩
 | d::ds,_,_,n+1,hq4=>by
  obtain ⟨v,vs',L1,L2,e1,e2,h1,h2⟩:=hq4
  subst e1 e2
  obtain ⟨L',a,b⟩:=Reps.take n h2
  exact ⟨L1++L',by simpa using Reps.cons h1 a,List.Sublist.append (List.Sublist.refl _) b⟩
theorem Reps.drop:∀ {ds:List D} {vs:List V} {L:List Addr} (n:Nat),Reps K H ds vs L->∃ L',Reps K H (ds.drop n) (vs.drop n) L'/\List.Sublist L' L
 | _,_,L,0,h=>⟨L,by simpa using h,List.Sublist.refl _⟩
 | [],_,_,n+1,hq4=>by
  obtain ⟨e1,e2⟩:=hq4
  subst e1 e2; exact ⟨[],by simpa using Reps.nil,pN _⟩
 | d::ds,_,_,n+1,hq4=>by
  obtain ⟨v,vs',L1,L2,e1,e2,h1,h2⟩:=hq4
  subst e1 e2
  obtain ⟨L',a,b⟩:=Reps.drop n h2
  exact ⟨L',by simpa using a,b.trans (rQ _ _)⟩
end
abbrev Tn:=List (Option D)
inductive Cl where
 | own | shr | brw | dead
 deriving DecidableEq
inductive Rc where
 | fresh | shr | bor
 deriving DecidableEq
structure EOk (K:PySem.W.Frag)(Γ:List Cl)(O:Addr->Prop)(H:Hp)(σ:St)(τ:Tn):Prop where
 dom:∀ a,O a->H a≠none
 slot:∀ (i:Nat) (c:Cl),Γ[i]?=some c->c≠.dead->∃ v d L,σ[i]?=some (some v)/\τ[i]?=some (some d)/\Rep K H d v L/\(c=.shr->∀ a∈L,¬ O a)
def RcOk (c:Rc)(O:Addr->Prop)(H:Hp)(L:List Addr):Prop:=match c with
 | .fresh=>L.Nodup/\∀ a∈L,H a=none
 | .shr=>∀ a∈L,¬ O a
 | .bor=>True
def post (K:PySem.W.Frag)(E:XK)(O:Addr->Prop)(c:Rc)(H:Hp)(Q:VK):R D->Prop
 | .ok d=>∀ v H' L,Same H H'->Rep K H' d v L->RcOk c O H L->Q v H'
 | .err n=>∀ C H',ErrC K n C->Same H H'->E (.ref C) none H'
 | .bad=>False
def postL (K:PySem.W.Frag)(E:XK)(O:Addr->Prop)(c:Rc)(H:Hp)(Q:List V->Hp->Prop):R (List D)->Prop
 | .ok ds=>∀ vs H' L,Same H H'->Reps K H' ds vs L->RcOk c O H L->Q vs H'
 | .err n=>∀ C H',ErrC K n C->Same H H'->E (.ref C) none H'
 | .bad=>False
def postB (K:PySem.W.Frag)(E:XK)(H:Hp)(Q:Bool->Hp->Prop):R Bool->Prop
 | .ok b=>∀ H',Same H H'->Q b H'
 | .err n=>∀ C H',ErrC K n C->Same H H'->E (.ref C) none H'
 | .bad=>False
section
variable {K:PySem.W.Frag}{Γ:List Cl}{O:Addr->Prop}{H H1:Hp}{σ:St}{τ:Tn}{E:XK}{c:Rc}{Q:VK}
theorem EOk.same (e:EOk K Γ O H σ τ)(s:Same H H1):EOk K Γ O H1 σ τ :=
 ⟨fun a h=>by rw [s.at (e.dom a h)]; exact e.dom a h,fun i c h1 h2=>by
  obtain ⟨v,d,L,a1,a2,a3,a4⟩:=e.slot i c h1 h2
  exact ⟨v,d,L,a1,a2,a3.same s,a4⟩⟩
theorem RcOk.same {L:List Addr}(h:RcOk c O H1 L)(s:Same H H1):RcOk c O H L:=by
 cases c with
 | fresh=>exact ⟨h.1,fun a ha=>s.non (h.2 a ha)⟩
 | shr=>exact h
 | bor=>exact h
theorem RcOk.shr {L:List Addr}(dom:∀ a,O a->H a≠none)(hc:c≠.bor)(h:RcOk c O H L):∀ a∈L,¬ O a:=by
 cases c with
 | fresh=>exact fun a ha ho=>dom a ho (h.2 a ha)
 | shr=>exact h
 | bor=>exact absurd rfl hc
theorem RcOk.nil:RcOk c O H []:=by
 cases c with
 | fresh=>exact ⟨pC,fun a ha=>by cases ha⟩
 | shr=>exact fun a ha=>by cases ha
 | bor=>trivial
theorem post.same {r:R D}(h:post K E O c H Q r)(s:Same H H1):post K E O c H1 Q r:=by
 cases r with
 | ok d=>exact fun v H' L s' r' c'=>h v H' L (s.trans s') r' (c'.same s)
 | err n=>exact fun C H' e s'=>h C H' e (s.trans s')
 | bad=>exact h
theorem postL.same {Q:List V->Hp->Prop}{r:R (List D)}(h:postL K E O c H Q r)(s:Same H H1):postL K E O c H1 Q r:=by
 cases r with
 | ok d=>exact fun v H' L s' r' c'=>h v H' L (s.trans s') r' (c'.same s)
 | err n=>exact fun C H' e s'=>h C H' e (s.trans s')
 | bad=>exact h
theorem postB.same {Q:Bool->Hp->Prop}{r:R Bool}(h:postB K E H Q r)(s:Same H H1):postB K E H1 Q r:=by
 cases r with
 | ok d=>exact fun H' s'=>h H' (s.trans s')
 | err n=>exact fun C H' e s'=>h C H' e (s.trans s')
 | bad=>exact h
end
def ME (X:Cx)(E:XK)(Γ:List Cl)(e:Expr)(t:Tn->R D)(c:Rc):Prop :=
 ∃ te,PE X e te/\∀ O σ H τ Q,EOk X.K Γ O H σ τ->post X.K E O c H Q (t τ)->te σ H Q
def MA (X:Cx)(E:XK)(Γ:List Cl)(es:List Expr)(t:Tn->R (List D))(c:Rc):Prop :=
 (∀ τ ds,t τ=.ok ds->ds.length=es.length)/\∃ ta,PA X es ta/\∀ O σ H τ Q,EOk X.K Γ O H σ τ->postL X.K E O c H Q (t τ)->ta σ H Q
def MT (X:Cx)(E:XK)(Γ:List Cl)(e:Expr)(t:Tn->R Bool):Prop :=
 ∃ te,PT X e te/\∀ O σ H τ Q,EOk X.K Γ O H σ τ->postB X.K E H Q (t τ)->te σ H Q
def MW (X:Cx)(E:XK)(Γ:List Cl)(e:Expr)(t:Tn->R Bool):Prop :=
 ∃ te,PW X e te/\∀ O σ H τ Q,EOk X.K Γ O H σ τ->postB X.K E H Q (t τ)->te σ H Q
theorem MW.mt {X:Cx}{E:XK}{Γ:List Cl}{e:Expr}{t:Tn->R Bool}(h:MW X E Γ e t):MT X E Γ e t:=by
 obtain ⟨te,p,q⟩:=h
 exact ⟨te,p.pt,q⟩
def Rc.of:Cl->Rc
 | .shr=>.shr
 | _=>.bor
def Rc.both:Rc->Rc->Rc
 | .fresh,.fresh=>.fresh
 | .bor,_=>.bor
 | _,.bor=>.bor
 | _,_=>.shr
def zb (i:Nat):Tn->R D:=fun τ=>match τ[i]? with
 | some (some d)=>.ok d
 | _=>.bad
def eC (d:D):Tn->R D:=fun _=>.ok d
def ya (t:Tn->R D):Tn->R D:=fun τ=>(t τ).bind fun d=>if d.imm=true then .ok d else .bad
def zd (g:D->D->R D)(a b:Tn->R D):Tn->R D:=fun τ=>(a τ).bind fun x=>(b τ).bind fun y=>g x y
def eUn (g:D->R D)(a:Tn->R D):Tn->R D:=fun τ=>(a τ).bind g
def ze:Tn->R (List D):=fun _=>.ok []
def za (a:Tn->R D)(b:Tn->R (List D)):Tn->R (List D):=fun τ=>(a τ).bind fun x=>(b τ).bind fun xs=>.ok (x::xs)
def eL (g:List D->R D)(a:Tn->R (List D)):Tn->R D:=fun τ=>(a τ).bind g
def asB:D->R Bool
 | .bl b=>.ok b
 | _=>.bad
def zm (a:Tn->R D):Tn->R Bool:=fun τ=>(a τ).bind asB
def vX (a b:Tn->R Bool):Tn->R Bool:=fun τ=>(a τ).bind fun x=>if x=true then b τ else .ok false
def bOr (a b:Tn->R Bool):Tn->R Bool:=fun τ=>(a τ).bind fun x=>if x=true then .ok true else b τ
def xk (a:Tn->R Bool):Tn->R Bool:=fun τ=>(a τ).bind fun x=>.ok (!x)
def wK (a b:Tn->R D):Tn->R D:=fun τ=>(a τ).bind fun x=>(asB x).bind fun k=>if k=true then b τ else .ok (.bl false)
def z1p (a:Tn->R D):Tn->R D:=fun τ=>(a τ).bind fun x=>(asB x).bind fun k=>.ok (.bl (!k))
def eIf (c:Tn->R Bool)(a b:Tn->R D):Tn->R D:=fun τ=>(c τ).bind fun k=>if k=true then a τ else b τ
def vD (g g':D->D->R D)(a b c:Tn->R D):Tn->R D:=fun τ=>(a τ).bind fun x=>(b τ).bind fun y=>(g x y).bind fun z=>(asB z).bind fun k=>if k=true then (c τ).bind fun w=>g' y w else .ok (.bl false)
section
variable {X:Cx}{E:XK}{Γ:List Cl}{e a b:Expr}{t ta tb tc:Tn->R D}{c ca cb:Rc}{pos:Pos}
theorem JO {i:Nat}{x:Str}{k:Cl}(hN:X.N[i]?=some x)(hk:Γ[i]?=some k)(hd:k≠.dead)(hv:Vis X.env.scope x)(hb:autoParam ((x==("__debug__":Str))=false) L2.au1._auto_1)(hcd:autoParam ((x==("__classdict__":Str))=false) L2.au1._auto_1) :
  ME X E Γ (.Name x pos) (zb i) (Rc.of k):=by
 refine ⟨qo i,qm hN hv hb hcd,fun O σ H τ Q ok h=>?_⟩
 obtain ⟨v,d,L,e1,e2,e3,e4⟩:=ok.slot i k hk hd
 unfold zb at h
 rw [e2] at h
 refine ⟨v,e1,h v H L (Same.refl H) e3 ?_⟩
 cases k with
 | shr=>exact e4 rfl
 | own=>trivial
 | brw=>trivial
 | dead=>trivial
theorem VB {d:D}{v:V}(hp:PE X e (tC v))(hr:∀ H,Rep X.K H d v []):ME X E Γ e (eC d) .fresh :=
 ⟨tC v,hp,fun O σ H τ Q ok h=>h v H [] (Same.refl H) (hr H) RcOk.nil⟩
theorem zg {i:Int}{j}:ME X E Γ (.Constant (.int i) j pos) (eC (.int i)) .fresh:=VB z1j fun _=>⟨rfl,rfl⟩
theorem vz {i:Bool}{j}:ME X E Γ (.Constant (.bool i) j pos) (eC (.bl i)) .fresh:=VB z3P fun _=>⟨rfl,rfl⟩
theorem qy {j}:ME X E Γ (.Constant .none j pos) (eC .non) .fresh:=VB z1T fun _=>⟨rfl,rfl⟩
theorem zD {x:Str}{j}:ME X E Γ (.Constant (.str x) j pos) (eC (.str x)) .fresh:=VB wx fun _=>⟨rfl,rfl⟩
theorem yj (h:ME X E Γ e t c):ME X E Γ e (ya t) .fresh:=by
 obtain ⟨te,p,q⟩:=h
 refine ⟨te,p,fun O σ H τ Q ok h=>q O σ H τ Q ok ?_⟩
 unfold ya at h
 cases ht:t τ with
 | ok d =>
  rw [ht] at h
  refine fun v H' L s r k=>?_
  rw [R.ok_bind] at h
  by_cases hi:d.imm=true
  ·rw [if_pos hi] at h
   have:=Rep.imm d v L r hi
   subst this
   exact h v H' [] s r RcOk.nil
  ·rw [if_neg hi] at h; exact h.elim
 | err n=>rw [ht] at h; exact h
 | bad=>rw [ht] at h; exact h
theorem post.bind {K:PySem.W.Frag}{O:Addr->Prop}{H:Hp}{Q Q':VK}{r:R D}{f:D->R D}(h:post K E O c H Q (r.bind f))(hf:∀ d,r=.ok d->post K E O c H Q (f d)->∀ v H' L,Same H H'->Rep K H' d v L->RcOk ca O H L->Q' v H'):post K E O ca H Q' r:=by
 cases r with
 | ok d=>exact hf d rfl h
 | err n=>exact h
 | bad=>exact h
theorem zj:MA X E Γ [] ze .fresh:=⟨fun τ ds h=>by cases h; rfl,Uo,qu,fun O σ H τ Q ok h=>h [] H [] (Same.refl H) Reps.nil RcOk.nil⟩
theorem RcOk.append {K:PySem.W.Frag}{O:Addr->Prop}{H H1:Hp}{d:D}{v:V}{L1 L2:List Addr}(dom:∀ a,O a->H a≠none)(s:Same H H1)(r:Rep K H1 d v L1)(h1:RcOk ca O H L1)(h2:RcOk cb O H1 L2):RcOk (Rc.both ca cb) O H (L1++L2):=by
 have dom1:∀ a,O a->H1 a≠none:=fun a h=>by rw [s.at (dom a h)]; exact dom a h
 by_cases hf:ca=.fresh/\cb=.fresh
 ·obtain ⟨rfl,rfl⟩:=hf
  refine ⟨sI.mpr ⟨h1.1,h2.1,fun a ha b hb z=>?_⟩,fun a ha=>?_⟩
  ·subst z
   exact r.there ha (h2.2 a hb)
  ·rcases sE.mp ha with z | z
   ·exact h1.2 a z
   ·exact s.non (h2.2 a z)
 ·have key:ca≠.bor->cb≠.bor->∀ a∈L1++L2,¬ O a:=fun n1 n2 a ha=>by
   rcases sE.mp ha with z | z
   ·exact h1.shr dom n1 a z
   ·exact h2.shr dom1 n2 a z
  cases ca<;>cases cb<;>first | exact absurd ⟨rfl,rfl⟩ hf | trivial | exact key (by simp) (by simp)
theorem zc {es:List Expr}{u:Tn->R (List D)}(h:ME X E Γ e t ca)(r:MA X E Γ es u cb)(hs:autoParam (starEach (e::es) X.env=(false,eval e X.env)::starEach es X.env) L2.au3._auto_1):MA X E Γ (e::es) (za t u) (Rc.both ca cb):=by
 obtain ⟨te,p1,q1⟩:=h
 obtain ⟨hl,ta,p2,q2⟩:=r
 refine ⟨fun τ ds h=>?_,Y4 te ta,vm p1 p2 hs,fun O σ H τ Q ok h=>?_⟩
 ·unfold za at h
  cases h1:t τ with
  | ok d =>
   rw [h1,R.ok_bind] at h
   cases h2:u τ with
   | ok xs =>
    rw [h2,R.ok_bind] at h
    cases h
    rw [tH,tH,hl τ xs h2]
   | err n=>rw [h2] at h; cases h
   | bad=>rw [h2] at h; cases h
  | err n=>rw [h1] at h; cases h
  | bad=>rw [h1] at h; cases h
 ·unfold za at h
  refine q1 O σ H τ _ ok ?_
  cases h1:t τ with
  | ok d =>
   rw [h1,R.ok_bind] at h
   refine fun v H1 L1 s1 r1 k1=>q2 O σ H1 τ _ (ok.same s1) ?_
   cases h2:u τ with
   | ok xs =>
    rw [h2,R.ok_bind] at h
    exact fun vs H2 L2 s2 r2 k2=>h (v::vs) H2 (L1++L2) (s1.trans s2) (Reps.cons (r1.same s2) r2) (RcOk.append ok.dom s1 r1 k1 k2)
   | err n=>rw [h2] at h; exact fun C H' e s'=>h C H' e (s1.trans s')
   | bad=>rw [h2] at h; exact h
  | err n=>rw [h1] at h; exact h
  | bad=>rw [h1] at h; exact h
theorem yx {es:List Expr}{u:Tn->R (List D)}{x1}(h:MA X E Γ es u c)(hz:autoParam (es.length<=1000) L2.au1._auto_1):ME X E Γ (.Tuple es x1 pos) (eL (fun ds=>.ok (.tup ds)) u) c:=by
 obtain ⟨hl,ta,p,q⟩:=h
 refine ⟨z4k ta,z13 p,fun O σ H τ Q ok h=>q O σ H τ _ ok ?_⟩
 unfold eL at h
 have hs:sizeLine=16777216:=sizeLine_eq
 cases hu:u τ with
 | ok ds =>
  rw [hu,R.ok_bind] at h
  refine fun vs H1 L s r k=>⟨by rw [r.length,hl τ ds hu]; lia,fun p hp=>?_⟩
  refine h _ _ L (s.trans (Same.new hp)) ⟨p,vs,rfl,SqT.of zG,r.same (Same.new hp)⟩ k
 | err n=>rw [hu] at h; exact h
 | bad=>rw [hu] at h; exact h
theorem xm {es:List Expr}{u:Tn->R (List D)}(h:MA X E Γ es u c)(hz:autoParam (es.length<=1000) L2.au1._auto_1):ME X E Γ (.List es pos) (eL (fun ds=>.ok (.lst ds)) u) c:=by
 obtain ⟨hl,ta,p,q⟩:=h
 refine ⟨z4i ta,QF p,fun O σ H τ Q ok h=>q O σ H τ _ ok ?_⟩
 unfold eL at h
 have hs:sizeLine=16777216:=sizeLine_eq
 cases hu:u τ with
 | ok ds =>
  rw [hu,R.ok_bind] at h
  refine fun vs H1 L s r k=>⟨by rw [r.length,hl τ ds hu]; lia,fun p hp=>?_⟩
  refine h _ _ (p::L) (s.trans (Same.new hp)) ⟨p,vs,L,rfl,zG,rfl,r.same (Same.new hp)⟩ ?_
  have np:H p=none:=s.non hp
  cases c with
  | fresh =>
   refine ⟨sY.mpr ⟨fun z=>r.there z hp,k.1⟩,fun a ha=>?_⟩
   rcases sJ.mp ha with z | z
   ·rw [z]; exact np
   ·exact k.2 a z
  | shr =>
   intro a ha
   rcases sJ.mp ha with z | z
   ·rw [z]; exact fun o=>ok.dom p o np
   ·exact k a z
  | bor=>trivial
 | err n=>rw [hu] at h; exact h
 | bad=>rw [hu] at h; exact h
theorem xq (h:ME X E Γ e t c)(he:autoParam (∀ whole,isTrue e X.env whole=(do let v <- whole; standAt e.pos; holding [v] (truthy v))) L2.au2._auto_1):MT X E Γ e (zm t):=by
 obtain ⟨te,p,q⟩:=h
 refine ⟨tB te,Qa p he,fun O σ H τ Q ok h=>q O σ H τ _ ok ?_⟩
 unfold zm at h
 cases ht:t τ with
 | ok d =>
  rw [ht,R.ok_bind] at h
  refine fun v H' L s r _=>?_
  cases d with
  | bl k=>exact ⟨k,r.1,h H' s⟩
  | _=>exact h.elim
 | err n=>rw [ht] at h; exact h
 | bad=>rw [ht] at h; exact h
variable {u v:Tn->R Bool}{rest:List Expr}
theorem wu (h:MT X E Γ a u):MT X E Γ (.UnaryOp .Not a pos) (xk u):=by
 obtain ⟨te,p,q⟩:=h
 refine ⟨Jw te,UB p,fun O σ H τ Q ok h=>q O σ H τ _ ok ?_⟩
 unfold xk at h
 cases ht:u τ with
 | ok d=>rw [ht,R.ok_bind] at h; exact h
 | err n=>rw [ht] at h; exact h
 | bad=>rw [ht] at h; exact h
theorem ZA (h:MT X E Γ a u):MW X E Γ (.BoolOp .And [a] pos) u:=by
 obtain ⟨te,p,q⟩:=h
 exact ⟨te,KD p,q⟩
theorem uj (h:MT X E Γ a u):MW X E Γ (.BoolOp .Or [a] pos) u:=by
 obtain ⟨te,p,q⟩:=h
 exact ⟨te,UT p,q⟩
theorem YU (h:MT X E Γ a u)(r:MW X E Γ (.BoolOp .And (b::rest) pos) v):MW X E Γ (.BoolOp .And (a::b::rest) pos) (vX u v):=by
 obtain ⟨te,p,q⟩:=h
 obtain ⟨te',p',q'⟩:=r
 refine ⟨z2z te te',z1w p p',fun O σ H τ Q ok h=>q O σ H τ _ ok ?_⟩
 unfold vX at h
 cases ht:u τ with
 | ok d =>
  rw [ht,R.ok_bind] at h
  refine fun H1 s1=>?_
  cases d with
  | true=>rw [if_pos rfl] at h ⊢; exact q' O σ H1 τ Q (ok.same s1) (h.same s1)
  | false=>rw [if_neg tX] at h ⊢; exact h H1 s1
 | err n=>rw [ht] at h; exact h
 | bad=>rw [ht] at h; exact h
theorem qL (h:MT X E Γ a u)(r:MW X E Γ (.BoolOp .Or (b::rest) pos) v):MW X E Γ (.BoolOp .Or (a::b::rest) pos) (bOr u v):=by
 obtain ⟨te,p,q⟩:=h
 obtain ⟨te',p',q'⟩:=r
 refine ⟨tOr te te',Jg p p',fun O σ H τ Q ok h=>q O σ H τ _ ok ?_⟩
 unfold bOr at h
 cases ht:u τ with
 | ok d =>
  rw [ht,R.ok_bind] at h
  refine fun H1 s1=>?_
  cases d with
  | true=>rw [if_pos rfl] at h ⊢; exact h H1 s1
  | false=>rw [if_neg tX] at h ⊢; exact q' O σ H1 τ Q (ok.same s1) (h.same s1)
 | err n=>rw [ht] at h; exact h
 | bad=>rw [ht] at h; exact h
theorem jU {op}(h:ME X E Γ a t c):ME X E Γ (.BoolOp op [a] pos) t c:=by
 obtain ⟨te,p,q⟩:=h
 exact ⟨te,Qy p,q⟩
theorem jz {K:PySem.W.Frag}{O:Addr->Prop}{H:Hp}{Q:VK}{d:D}{f:Bool->R D}(h:post K E O c H Q ((asB d).bind f)){v:V}{H':Hp}{L:List Addr}(r:Rep K H' d v L):∃ k,v=.bl k/\d=.bl k/\post K E O c H Q (f k):=by
 cases d with
 | bl k=>exact ⟨k,r.1,rfl,h⟩
 | _=>exact h.elim
theorem uZ (ha:ME X E Γ a ta ca)(hb:ME X E Γ (.BoolOp .And (b::rest) pos) tb c):ME X E Γ (.BoolOp .And (a::b::rest) pos) (wK ta tb) c:=by
 obtain ⟨te,p,q⟩:=ha
 obtain ⟨te',p',q'⟩:=hb
 refine ⟨Ul te te',VU p p',fun O σ H τ Q ok h=>q O σ H τ _ ok (post.bind h fun d _ h v H1 L s r _=>?_)⟩
 obtain ⟨k,e1,e2,h⟩:=jz h r
 refine ⟨k,e1,?_⟩
 cases k with
 | true=>rw [if_pos rfl] at h ⊢; exact q' O σ H1 τ Q (ok.same s) (h.same s)
 | false=>rw [if_neg tX] at h ⊢; exact h _ H1 [] s ⟨rfl,rfl⟩ RcOk.nil
theorem z1W (ha:ME X E Γ a ta ca):ME X E Γ (.UnaryOp .Not a pos) (z1p ta) .fresh:=by
 obtain ⟨te,p,q⟩:=ha
 refine ⟨z0y te,z1E p,fun O σ H τ Q ok h=>q O σ H τ _ ok (post.bind h fun d _ h v H1 L s r _=>?_)⟩
 obtain ⟨k,e1,e2,h⟩:=jz h r
 exact ⟨k,e1,h _ H1 [] s ⟨rfl,rfl⟩ RcOk.nil⟩
theorem z1t {k:Expr}(hk:MT X E Γ k u)(ha:ME X E Γ a ta c)(hb:ME X E Γ b tb c):ME X E Γ (.IfExp k a b pos) (eIf u ta tb) c:=by
 obtain ⟨te,p,q⟩:=hk
 obtain ⟨te1,p1,q1⟩:=ha
 obtain ⟨te2,p2,q2⟩:=hb
 refine ⟨tIf te te1 te2,Jh p p1 p2,fun O σ H τ Q ok h=>q O σ H τ _ ok ?_⟩
 unfold eIf at h
 cases ht:u τ with
 | ok d =>
  rw [ht,R.ok_bind] at h
  refine fun H1 s1=>?_
  cases d with
  | true=>rw [if_pos rfl] at h ⊢; exact q1 O σ H1 τ Q (ok.same s1) (h.same s1)
  | false=>rw [if_neg tX] at h ⊢; exact q2 O σ H1 τ Q (ok.same s1) (h.same s1)
 | err n=>rw [ht] at h; exact h
 | bad=>rw [ht] at h; exact h
def OpB (K:PySem.W.Frag)(r:R2)(g:D->D->R D):Prop :=
 ∀ H x y dx dy Lx Ly (Q:VK),Rep K H dx x Lx->Rep K H dy y Ly->(∃ d,g dx dy=.ok d/\∀ v H' L,Same H H'->Rep K H' d v L->L.Nodup->(∀ a∈L,H a=none)->Q v H')->r x y H Q
def xl (g:D->D->R D):Prop:=∀ x y n,g x y≠.err n
theorem ZD {r:R2}{g:D->D->R D}{te te':TE}(hB:OpB X.K r g)(hn:xl g)(q:∀ O σ H τ Q,EOk X.K Γ O H σ τ->post X.K E O ca H Q (ta τ)->te σ H Q)(q':∀ O σ H τ Q,EOk X.K Γ O H σ τ->post X.K E O cb H Q (tb τ)->te' σ H Q)
  {O:Addr->Prop} {σ:St} {H:Hp} {τ:Tn} {Q:VK} (ok:EOk X.K Γ O H σ τ) (h:post X.K E O .fresh H Q (zd g ta tb τ)):tOp r te te' σ H Q:=by
 unfold zd at h
 refine q O σ H τ _ ok (post.bind h fun dx _ h x H1 Lx s1 rx _=>q' O σ H1 τ _ (ok.same s1) (post.bind (h.same s1) fun dy _ h y H2 Ly s2 ry _=>?_))
 cases hg:g dx dy with
 | ok d =>
  rw [hg] at h
  exact hB H2 x y dx dy Lx Ly Q (rx.same s2) ry ⟨d,hg,fun v H' L s r n1 n2=>h v H' L (s2.trans s) r ⟨n1,fun a ha=>s2.non (n2 a ha)⟩⟩
 | err n=>exact absurd hg (hn _ _ _)
 | bad=>rw [hg] at h; exact h.elim
theorem zp {op:Operator}{r:R2}{g:D->D->R D}(ho:OpR X (binaryOp op) r)(hB:OpB X.K r g)(hn:xl g)(ha:ME X E Γ a ta ca)(hb:ME X E Γ b tb cb):ME X E Γ (.BinOp a op b pos) (zd g ta tb) .fresh:=by
 obtain ⟨te,p,q⟩:=ha
 obtain ⟨te',p',q'⟩:=hb
 exact ⟨_,z2P ho p p',fun O σ H τ Q ok h=>ZD hB hn q q' ok h⟩
theorem wL {op:CmpOp}{r:R2}{g:D->D->R D}(ho:OpR X (compareOp op) r)(hB:OpB X.K r g)(hn:xl g)(ha:ME X E Γ a ta ca)(hb:ME X E Γ b tb cb)(hm:behindInMarks op b=false):ME X E Γ (.Compare a [op] [b] pos) (zd g ta tb) .fresh:=by
 obtain ⟨te,p,q⟩:=ha
 obtain ⟨te',p',q'⟩:=hb
 exact ⟨_,JN ho p p' hm,fun O σ H τ Q ok h=>ZD hB hn q q' ok h⟩
theorem uS {K:PySem.W.Frag}{O:Addr->Prop}{H:Hp}{Q:Bool->Hp->Prop}{r:R D}(h:postB K E H Q (r.bind asB)):post K E O c H (fun x H'=>∃ k,x=.bl k/\Q k H') r:=by
 cases r with
 | ok d =>
  refine fun v H' L s r _=>?_
  cases d with
  | bl k=>exact ⟨k,r.1,h H' s⟩
  | _=>exact h.elim
 | err n=>exact h
 | bad=>exact h
theorem yr {op:CmpOp}{r:R2}{g:D->D->R D}(ho:OpR X (compareOp op) r)(hB:OpB X.K r g)(hn:xl g)(ha:ME X E Γ a ta ca)(hb:ME X E Γ b tb cb)(hm:behindInMarks op b=false):MT X E Γ (.Compare a [op] [b] pos) (zm (zd g ta tb)):=by
 obtain ⟨te,p,q⟩:=ha
 obtain ⟨te',p',q'⟩:=hb
 exact ⟨_,Wy ho p p' hm,fun O σ H τ Q ok h=>ZD (O:=O) hB hn q q' ok (uS h)⟩
theorem Ub {c':Expr}{cc:Rc}{r r':R2}{g g':D->D->R D}{te te' te2:TE}(hB:OpB X.K r g)(hn:xl g)(hB':OpB X.K r' g')(hn':xl g')(q:∀ O σ H τ Q,EOk X.K Γ O H σ τ->post X.K E O ca H Q (ta τ)->te σ H Q)(q':∀ O σ H τ Q,EOk X.K Γ O H σ τ->post X.K E O cb H Q (tb τ)->te' σ H Q)
  (q2:∀ O σ H τ Q,EOk X.K Γ O H σ τ->post X.K E O cc H Q (tc τ)->te2 σ H Q) {O:Addr->Prop} {σ:St} {H:Hp} {τ:Tn} {Q:VK} (ok:EOk X.K Γ O H σ τ) (h:post X.K E O .fresh H Q (vD g g' ta tb tc τ)):QT r r' te te' te2 σ H Q:=by
 unfold vD at h
 refine q O σ H τ _ ok (post.bind h fun dx _ h x H1 Lx s1 rx _=>q' O σ H1 τ _ (ok.same s1) (post.bind (h.same s1) fun dy _ h y H2 Ly s2 ry _=>?_))
 cases hg:g dx dy with
 | ok d =>
  rw [hg,R.ok_bind] at h
  refine hB H2 x y dx dy Lx Ly _ (rx.same s2) ry ⟨d,hg,fun z H3 L s3 r3 n1 n2=>?_⟩
  obtain ⟨k,e1,e2,h⟩:=jz (h.same s2) r3
  refine ⟨k,e1,?_⟩
  cases k with
  | true =>
   rw [if_pos rfl] at h ⊢
   have ok3:=((ok.same s1).same s2).same s3
   refine q2 O σ H3 τ _ ok3 (post.bind (h.same s3) fun dw _ h w H4 Lw s4 rw4 _=>?_)
   cases hg':g' dy dw with
   | ok d' =>
    rw [hg'] at h
    exact hB' H4 y w dy dw Ly Lw Q ((ry.same s3).same s4) rw4 ⟨d',hg',fun v H' L s r n1 n2=>h v H' L (s4.trans s) r ⟨n1,fun a ha=>s4.non (n2 a ha)⟩⟩
   | err n=>exact absurd hg' (hn' _ _ _)
   | bad=>rw [hg'] at h; exact h.elim
  | false=>rw [if_neg tX] at h ⊢; exact h _ H3 [] s3 ⟨rfl,rfl⟩ RcOk.nil
 | err n=>exact absurd hg (hn _ _ _)
 | bad=>rw [hg] at h; exact h.elim
theorem Uu {op op':CmpOp}{c':Expr}{cc:Rc}{r r':R2}{g g':D->D->R D}(ho:OpR X (compareOp op) r)(hB:OpB X.K r g)(hn:xl g)(ho':OpR X (compareOp op') r')(hB':OpB X.K r' g')(hn':xl g')
  (ha:ME X E Γ a ta ca) (hb:ME X E Γ b tb cb) (hc:ME X E Γ c' tc cc) (hm:autoParam (lastMarks [op,op'] [b,c']=false) L2.au4._auto_1):MT X E Γ (.Compare a [op,op'] [b,c'] pos) (zm (vD g g' ta tb tc)):=by
 obtain ⟨te,p,q⟩:=ha
 obtain ⟨te',p',q'⟩:=hb
 obtain ⟨te2,p2,q2⟩:=hc
 exact ⟨_,Qs ho ho' p p' p2 hm,fun O σ H τ Q ok h=>Ub (c':=c') (O:=O) hB hn hB' hn' q q' q2 ok (uS h)⟩
def ClB (K:PySem.W.Frag)(r:List V->Hp->VK->Prop)(g:List D->R D):Prop :=
 ∀ H xs ds L (Q:VK),Reps K H ds xs L->(∃ d,g ds=.ok d/\∀ v H' L',Same H H'->Rep K H' d v L'->L'.Nodup->(∀ a∈L',H a=none)->Q v H')->r xs H Q
def xp (g:List D->R D):Prop:=∀ ds n,g ds≠.err n
variable {uL:Tn->R (List D)}{es:List Expr}
theorem z03 {r:List V->Hp->VK->Prop}{g:List D->R D}{ta':TA}(hB:ClB X.K r g)(hn:xp g)(q:∀ O σ H τ Q,EOk X.K Γ O H σ τ->postL X.K E O ca H Q (uL τ)->ta' σ H Q)
  {O:Addr->Prop} {σ:St} {H:Hp} {τ:Tn} {Q:VK} (ok:EOk X.K Γ O H σ τ) (h:post X.K E O .fresh H Q (eL g uL τ)):tCB r ta' σ H Q:=by
 refine q O σ H τ _ ok ?_
 unfold eL at h
 cases hu:uL τ with
 | ok ds =>
  rw [hu,R.ok_bind] at h
  refine fun vs H1 L s1 r1 _=>?_
  cases hg:g ds with
  | ok d =>
   rw [hg] at h
   exact hB H1 vs ds L Q r1 ⟨d,hg,fun v H' L s r n1 n2=>h v H' L (s1.trans s) r ⟨n1,fun a ha=>s1.non (n2 a ha)⟩⟩
  | err n=>exact absurd hg (hn _ _)
  | bad=>rw [hg] at h; exact h.elim
 | err n=>rw [hu] at h; exact h
 | bad=>rw [hu] at h; exact h
variable {x:Str}{id T:String}{p:Pos}
theorem y1 {r:List V->Hp->VK->Prop}{g:List D->R D}(hc:CallR X (.builtin id) r)(hB:ClB X.K r g)(hn:xp g)(hg:Gl X x)(hm:X.mg x=none)(hv:bootBuiltins x=some (.builtin id))(ha:MA X E Γ (e::es) uL ca)(hx:autoParam (x≠"__name__") L2.au1._auto_1)(hdb:autoParam ((x==("__debug__":Str))=false) L2.au1._auto_1)
  (he:autoParam (starEach (e::es) X.env=(false,eval e X.env)::starEach es X.env) L2.au3._auto_1) (hpl:autoParam ((backTo pos (starEach es X.env)).any (·.1)=false) L2.au3._auto_1):ME X E Γ (.Call (.Name x p) (e::es) [] pos) (eL g uL) .fresh:=by
 obtain ⟨_,ta',p',q⟩:=ha
 exact ⟨_,jm hc hg hm hv p' hx hdb he hpl,fun O σ H τ Q ok h=>z03 hB hn q ok h⟩
theorem yZ {r:List V->Hp->VK->Prop}{g:List D->R D}(hc:CallR X (.type T) r)(hB:ClB X.K r g)(hn:xp g)(hg:Gl X x)(hm:X.mg x=none)(hv:bootBuiltins x=some (.type T))(ha:MA X E Γ (e::es) uL ca)(hx:autoParam (x≠"__name__") L2.au1._auto_1)(hdb:autoParam ((x==("__debug__":Str))=false) L2.au1._auto_1)
  (he:autoParam (starEach (e::es) X.env=(false,eval e X.env)::starEach es X.env) L2.au3._auto_1) (hpl:autoParam ((backTo pos (starEach es X.env)).any (·.1)=false) L2.au3._auto_1):ME X E Γ (.Call (.Name x p) (e::es) [] pos) (eL g uL) .fresh:=by
 obtain ⟨_,ta',p',q⟩:=ha
 exact ⟨_,VI hc hg hm hv p' hx hdb he hpl,fun O σ H τ Q ok h=>z03 hB hn q ok h⟩
end
def wpE (K:PySem.W.Frag)(E:XK)(Γ:List Cl)(t:Tn->R D)(c:Rc):TE:=fun σ H Q=>∃ O τ,EOk K Γ O H σ τ/\post K E O c H Q (t τ)
def wpT (K:PySem.W.Frag)(E:XK)(Γ:List Cl)(t:Tn->R Bool):TT:=fun σ H Q=>∃ O τ,EOk K Γ O H σ τ/\postB K E H Q (t τ)
theorem ME.pe {X:Cx}{E:XK}{Γ:List Cl}{e:Expr}{t:Tn->R D}{c:Rc}(h:ME X E Γ e t c):PE X e (wpE X.K E Γ t c):=by
 obtain ⟨te,p,q⟩:=h
 rintro pins s σ H Q I ⟨O,τ,ok,z⟩
 exact p pins s σ H Q I (q O σ H τ Q ok z)
theorem MT.pt {X:Cx}{E:XK}{Γ:List Cl}{e:Expr}{t:Tn->R Bool}(h:MT X E Γ e t):PT X e (wpT X.K E Γ t):=by
 obtain ⟨te,p,q⟩:=h
 rintro pins s σ H Q I ⟨O,τ,ok,z⟩
 exact p pins s σ H Q I (q O σ H τ Q ok z)
structure SOk (K:PySem.W.Frag)(Γ:List Cl)(B H:Hp)(σ:St)(τ:Tn)(T:List Addr):Prop where
 ext:Same B H
 lσ:σ.length=Γ.length
 lτ:τ.length=Γ.length
 ex:∃ Ls:Nat->List Addr,
  (∀ i c,Γ[i]?=some c->c≠.dead->∃ v d,σ[i]?=some (some v)/\τ[i]?=some (some d)/\Rep K H d v (Ls i)) /\
  (∀ i,Γ[i]?=some .own->(Ls i).Nodup/\∀ a∈Ls i,B a=none) /\
  (∀ i j c,i≠j->Γ[i]?=some .own->Γ[j]?=some c->c≠.dead->∀ a∈Ls i,a∉Ls j) /\
  T.Nodup/\(∀ a∈T,B a=none/\H a≠none)/\(∀ i c,Γ[i]?=some c->c≠.dead->∀ a∈Ls i,a∉T)
inductive Fl where
 | nx (τ:Tn) | rt (d:D) | bk (τ:Tn) | ct (τ:Tn)
def z3O (K:PySem.W.Frag)(E:XK)(B:Hp)(Γ':List Cl)(σ:St)(τ:Tn)(T:List Addr)(H:Hp)(Q:VK):R D->Prop
 | .ok d=>∀ v H' L,Same H H'->Rep K H' d v L->SOk K Γ' B H' σ τ (L++T)->Q v H'
 | .err n=>∀ C H',ErrC K n C->Same B H'->E (.ref C) none H'
 | .bad=>False
def ua (K:PySem.W.Frag)(E:XK)(B:Hp)(Γl Γ':List Cl)(Z:Ends):R Fl->Prop
 | .ok (.nx τ')=>∀ σ' H',SOk K Γ' B H' σ' τ' []->Z.nx σ' H'
 | .ok (.rt d)=>∀ v H' L,Same B H'->Rep K H' d v L->L.Nodup->(∀ a∈L,B a=none)->Z.rt v H'
 | .ok (.bk τ')=>∀ σ' H',SOk K Γl B H' σ' τ' []->Z.bk σ' H'
 | .ok (.ct τ')=>∀ σ' H',SOk K Γl B H' σ' τ' []->Z.ct σ' H'
 | .err n=>∀ C H',ErrC K n C->Same B H'->E (.ref C) none H'
 | .bad=>False
def MV (X:Cx)(E:XK)(Γ:List Cl)(e:Expr)(t:Tn->R D)(Γ':List Cl):Prop :=
 ∃ te,PE X e te/\∀ B σ H τ T Q,SOk X.K Γ B H σ τ T->z3O X.K E B Γ' σ τ T H Q (t τ)->te σ H Q
def MS (X:Cx)(E:XK)(Γl Γ:List Cl)(s:Stmt)(t:Tn->R Fl)(Γ':List Cl):Prop :=
 ∃ ts,PS X s ts/\∀ B σ H τ Z,SOk X.K Γ B H σ τ []->ua X.K E B Γl Γ' Z (t τ)->ts Z σ H
def MSs (X:Cx)(E:XK)(Γl Γ:List Cl)(s:List Stmt)(t:Tn->R Fl)(Γ':List Cl):Prop :=
 ∃ ts,PSs X s ts/\∀ B σ H τ Z,SOk X.K Γ B H σ τ []->ua X.K E B Γl Γ' Z (t τ)->ts Z σ H
section
variable {K:PySem.W.Frag}{Γ Γ':List Cl}{B H H1:Hp}{σ:St}{τ:Tn}{T:List Addr}
theorem SOk.eok (h:SOk K Γ B H σ τ T):∃ O:Addr->Prop,EOk K Γ O H σ τ/\(∀ L:List Addr,(∀ a∈L,¬ O a)->∃ Ls:Nat->List Addr,
  (∀ i c,Γ[i]?=some c->c≠.dead->∃ v d,σ[i]?=some (some v)/\τ[i]?=some (some d)/\Rep K H d v (Ls i)) /\
  (∀ i,Γ[i]?=some .own->(Ls i).Nodup/\∀ a∈Ls i,B a=none) /\
  (∀ i j c,i≠j->Γ[i]?=some .own->Γ[j]?=some c->c≠.dead->∀ a∈Ls i,a∉Ls j) /\
  T.Nodup/\(∀ a∈T,B a=none/\H a≠none)/\(∀ i c,Γ[i]?=some c->c≠.dead->∀ a∈Ls i,a∉T)/\∀ i,Γ[i]?=some .own->∀ a∈Ls i,a∉L):=by
 obtain ⟨Ls,h1,h2,h3,h4,h5,h6⟩:=h.ex
 refine ⟨fun a=>∃ i,Γ[i]?=some .own/\a∈Ls i,⟨fun a ⟨i,e,ha⟩=>?_,fun i c e hc=>?_⟩,fun L hL=>⟨Ls,h1,h2,h3,h4,h5,h6,fun i e a ha hm=>hL a hm ⟨i,e,ha⟩⟩⟩
 ·obtain ⟨v,d,_,_,r⟩:=h1 i _ e (by simp)
  exact r.there ha
 ·obtain ⟨v,d,e1,e2,r⟩:=h1 i c e hc
  refine ⟨v,d,Ls i,e1,e2,r,fun z a ha ⟨j,ej,hj⟩=>?_⟩
  subst z
  have hij:j≠i:=fun z=>by subst z; rw [e] at ej; cases ej
  exact h3 j i _ hij ej e (by simp) a hj ha
theorem SOk.same (h:SOk K Γ B H σ τ T)(s:Same H H1):SOk K Γ B H1 σ τ T:=by
 obtain ⟨Ls,h1,h2,h3,h4,h5,h6⟩:=h.ex
 refine ⟨h.ext.trans s,h.lσ,h.lτ,Ls,fun i c e hc=>?_,h2,h3,h4,fun a ha=>⟨(h5 a ha).1,by rw [s.at (h5 a ha).2]; exact (h5 a ha).2⟩,h6⟩
 obtain ⟨v,d,e1,e2,r⟩:=h1 i c e hc
 exact ⟨v,d,e1,e2,r.same s⟩
theorem SOk.aside {L:List Addr}(h:SOk K Γ B H σ τ T)(s:Same H H1)(r:∀ a∈L,H1 a≠none)(n1:L.Nodup)(n2:∀ a∈L,H a=none):SOk K Γ B H1 σ τ (L++T):=by
 obtain ⟨Ls,h1,h2,h3,h4,h5,h6⟩:=h.ex
 refine ⟨h.ext.trans s,h.lσ,h.lτ,Ls,fun i c e hc=>?_,h2,h3,sI.mpr ⟨n1,h4,fun a ha b hb z=>?_⟩,fun a ha=>?_,fun i c e hc a ha hm=>?_⟩
 ·obtain ⟨v,d,e1,e2,r⟩:=h1 i c e hc
  exact ⟨v,d,e1,e2,r.same s⟩
 ·subst z; exact (h5 a hb).2 (n2 a ha)
 ·rcases sE.mp ha with z | z
  ·exact ⟨h.ext.non (n2 a z),r a z⟩
  ·exact ⟨(h5 a z).1,by rw [s.at (h5 a z).2]; exact (h5 a z).2⟩
 ·obtain ⟨v,d,e1,e2,r'⟩:=h1 i c e hc
  rcases sE.mp hm with z | z
  ·exact r'.there ha (n2 a z)
  ·exact h6 i c e hc a ha z
def wk1:Cl->Cl->Bool
 | _,.dead=>true
 | .own,.own=>true
 | .own,.shr=>true
 | .shr,.shr=>true
 | _,_=>false
def wk:List Cl->List Cl->Bool
 | [],[]=>true
 | a::r,b::q=>wk1 a b&&wk r q
 | _,_=>false
theorem XA:∀ {Γ Γ':List Cl},wk Γ Γ'=true->Γ.length=Γ'.length
 | [],[],_=>rfl
 | a::r,b::q,h=>by
  have h:(wk1 a b&&wk r q)=true:=h
  rw [rA] at h
  rw [tH,tH,XA h.2]
theorem z0G:∀ {Γ Γ':List Cl} {i:Nat} {c:Cl},wk Γ Γ'=true->Γ'[i]?=some c->∃ k,Γ[i]?=some k/\wk1 k c=true
 | [],[],_,_,_,e=>by simp at e
 | a::r,b::q,0,c,h,e=>by
  have h:(wk1 a b&&wk r q)=true:=h
  rw [rA] at h
  simp at e; subst e
  exact ⟨a,rfl,h.1⟩
 | a::r,b::q,i+1,c,h,e=>by
  have h:(wk1 a b&&wk r q)=true:=h
  rw [rA] at h
  obtain ⟨k,h1,h2⟩:=z0G (i:=i) (c:=c) h.2 (by simpa using e)
  exact ⟨k,by simpa using h1,h2⟩
theorem SOk.weak (h:SOk K Γ B H σ τ T)(w:wk Γ Γ'=true):SOk K Γ' B H σ τ T:=by
 obtain ⟨Ls,h1,h2,h3,h4,h5,h6⟩:=h.ex
 have live:∀ (i:Nat) (c:Cl),Γ'[i]?=some c->c≠Cl.dead->∃ k,Γ[i]?=some k/\k≠Cl.dead/\(c=Cl.own->k=Cl.own):=fun i c e hc=>by
  obtain ⟨k,e',w'⟩:=z0G w e
  refine ⟨k,e',fun z=>?_,fun z=>?_⟩
  ·subst z; cases c<;>first | exact absurd rfl hc | cases w'
  ·subst z; cases k<;>first | rfl | cases w'
 refine ⟨h.ext,by rw [<- XA w]; exact h.lσ,by rw [<- XA w]; exact h.lτ,Ls,fun i c e hc=>?_,fun i e=>?_,fun i j c hij ei ej hc=>?_,h4,h5,fun i c e hc=>?_⟩
 ·obtain ⟨k,e',n,_⟩:=live i c e hc
  exact h1 i k e' n
 ·obtain ⟨k,e',n,o⟩:=live i _ e (by simp)
  rw [o rfl] at e'
  exact h2 i e'
 ·obtain ⟨k,e',n,o⟩:=live i _ ei (by simp)
  obtain ⟨k2,e2,n2,_⟩:=live j c ej hc
  rw [o rfl] at e'
  exact h3 i j k2 hij e' e2 n2
 ·obtain ⟨k,e',n,_⟩:=live i c e hc
  exact h6 i k e' n
theorem SOk.out {i:Nat}(h:SOk K Γ B H σ τ T)(e:Γ[i]?=some .own):∃ v d L,σ[i]?=some (some v)/\τ[i]?=some (some d)/\Rep K H d v L/\SOk K (Γ.set i .dead) B H σ τ (L++T):=by
 obtain ⟨Ls,h1,h2,h3,h4,h5,h6⟩:=h.ex
 obtain ⟨v,d,e1,e2,r⟩:=h1 i _ e (by simp)
 have hi:i<Γ.length:=(sD.mp e).1
 have at':∀ (j:Nat) (c:Cl),(Γ.set i .dead)[j]?=some c->c≠.dead->j≠i/\Γ[j]?=some c:=fun j c ej hc=>by
  by_cases z:i=j
  ·subst z; rw [sO hi] at ej; exact absurd (Option.some.inj ej).symm hc
  ·rw [sL z] at ej; exact ⟨Ne.symm z,ej⟩
 refine ⟨v,d,Ls i,e1,e2,r,⟨h.ext,by rw [sT]; exact h.lσ,by rw [sT]; exact h.lτ,Ls,fun j c ej hc=>h1 j c (at' j c ej hc).2 hc,fun j ej=>h2 j (at' j _ ej (by simp)).2,fun j k c hjk ej ek hc=>h3 j k c hjk (at' j _ ej (by simp)).2 (at' k c ek hc).2 hc,
  sI.mpr ⟨(h2 i e).1,h4,fun a ha b hb z=>?_⟩,fun a ha=>?_,fun j c ej hc a ha hm=>?_⟩⟩
 ·subst z; exact h6 i _ e (by simp) a ha hb
 ·rcases sE.mp ha with z | z
  ·exact ⟨(h2 i e).2 a z,r.there z⟩
  ·exact h5 a z
 ·obtain ⟨n,ej'⟩:=at' j c ej hc
  rcases sE.mp hm with z | z
  ·exact h3 i j c (Ne.symm n) e ej' hc a z ha
  ·exact h6 j c ej' hc a ha z
def Vu (Ls:Nat->List Addr)(i:Nat)(L:List Addr):Nat->List Addr:=fun j=>if j=i then L else Ls j
theorem x4 {Ls:Nat->List Addr}{i:Nat}{L:List Addr}:Vu Ls i L i=L:=if_pos rfl
theorem WN {Ls:Nat->List Addr}{i j:Nat}{L:List Addr}(h:j=i):Vu Ls i L j=L:=if_pos h
theorem yH {Ls:Nat->List Addr}{i j:Nat}{L:List Addr}(h:j≠i):Vu Ls i L j=Ls j:=if_neg h
theorem SOk.into {i:Nat}{d:D}{v:V}{L:List Addr}(h:SOk K Γ B H σ τ (L++T))(r:Rep K H d v L)(hi:i<Γ.length):SOk K (Γ.set i .own) B H (σ.set i (some v)) (τ.set i (some d)) T:=by
 obtain ⟨Ls,h1,h2,h3,h4,h5,h6⟩:=h.ex
 have hσ:i<σ.length:=by rw [h.lσ]; exact hi
 have hτ:i<τ.length:=by rw [h.lτ]; exact hi
 obtain ⟨n1,n2,n3⟩:=sI.mp h4
 have at':∀ (j:Nat) (c:Cl),j≠i->(Γ.set i .own)[j]?=some c->Γ[j]?=some c:=fun j c hj e=>by rw [sL (Ne.symm hj)] at e; exact e
 refine ⟨h.ext,by rw [sT,sT]; exact h.lσ,by rw [sT,sT]; exact h.lτ,Vu Ls i L,fun j c e hc=>?_,fun j e=>?_,fun j k c hjk ej ek hc a ha hm=>?_,n2,fun a ha=>h5 a (tJ _ ha),fun j c e hc a ha hm=>?_⟩
 ·by_cases z:j=i
  ·subst z
   refine ⟨v,d,by rw [sO hσ],by rw [sO hτ],?_⟩
   rw [x4]; exact r
  ·obtain ⟨v',d',e1,e2,r'⟩:=h1 j c (at' j c z e) hc
   refine ⟨v',d',by rw [sL (Ne.symm z)]; exact e1,by rw [sL (Ne.symm z)]; exact e2,?_⟩
   rw [yH z]; exact r'
 ·by_cases z:j=i
  ·subst z; rw [x4]; exact ⟨n1,fun a ha=>(h5 a (sC _ ha)).1⟩
  ·rw [yH z]; exact h2 j (at' j _ z e)
 ·by_cases z:j=i
  ·subst z
   rw [x4] at ha
   rw [yH (Ne.symm hjk)] at hm
   exact h6 k c (at' k c (Ne.symm hjk) ek) hc a hm (sC _ ha)
  ·rw [yH z] at ha
   by_cases z2:k=i
   ·subst z2
    rw [x4] at hm
    exact h6 j _ (at' j _ z ej) (by simp) a ha (sC _ hm)
   ·rw [yH z2] at hm
    exact h3 j k c hjk (at' j _ z ej) (at' k c z2 ek) hc a ha hm
 ·by_cases z:j=i
  ·subst z; rw [x4] at ha; exact n3 a ha a hm rfl
  ·rw [yH z] at ha; exact h6 j c (at' j c z e) hc a ha (tJ _ hm)
end
section
variable {K:PySem.W.Frag}{Γ Γ':List Cl}{B H H1:Hp}{σ:St}{τ:Tn}{T:List Addr}
theorem SOk.intoS {i:Nat}{d:D}{v:V}{L:List Addr}{Ls:Nat->List Addr}(e0:Same B H)(l1:σ.length=Γ.length)(l2:τ.length=Γ.length)
  (h1:∀ i c,Γ[i]?=some c->c≠.dead->∃ v d,σ[i]?=some (some v)/\τ[i]?=some (some d)/\Rep K H d v (Ls i)) (h2:∀ i,Γ[i]?=some .own->(Ls i).Nodup/\∀ a∈Ls i,B a=none)
  (h3:∀ i j c,i≠j->Γ[i]?=some .own->Γ[j]?=some c->c≠.dead->∀ a∈Ls i,a∉Ls j) (h7:∀ i,Γ[i]?=some .own->∀ a∈Ls i,a∉L) (r:Rep K H d v L) (hi:i<Γ.length) :
  SOk K (Γ.set i .shr) B H (σ.set i (some v)) (τ.set i (some d)) []:=by
 have hσ:i<σ.length:=by rw [l1]; exact hi
 have hτ:i<τ.length:=by rw [l2]; exact hi
 have at':∀ (j:Nat) (c:Cl),j≠i->(Γ.set i .shr)[j]?=some c->Γ[j]?=some c:=fun j c hj e=>by rw [sL (Ne.symm hj)] at e; exact e
 have nown:∀ j:Nat,(Γ.set i .shr)[j]?=some .own->j≠i:=fun j e z=>by subst z; rw [sO hi] at e; cases e
 refine ⟨e0,by rw [sT,sT]; exact l1,by rw [sT,sT]; exact l2,Vu Ls i L,fun j c e hc=>?_,fun j e=>?_,fun j k c hjk ej ek hc a ha hm=>?_,pC,fun a ha=>(nomatch ha),fun j c e hc a ha hm=>(nomatch hm)⟩
 ·by_cases z:j=i
  ·subst z
   refine ⟨v,d,by rw [sO hσ],by rw [sO hτ],?_⟩
   rw [x4]; exact r
  ·obtain ⟨v',d',e1,e2,r'⟩:=h1 j c (at' j c z e) hc
   refine ⟨v',d',by rw [sL (Ne.symm z)]; exact e1,by rw [sL (Ne.symm z)]; exact e2,?_⟩
   rw [yH z]; exact r'
 ·have z:=nown j e
  rw [yH z]; exact h2 j (at' j _ z e)
 ·have z:=nown j ej
  rw [yH z] at ha
  by_cases z2:k=i
  ·rw [WN z2] at hm; exact h7 j (at' j _ z ej) a ha hm
  ·rw [yH z2] at hm; exact h3 j k c hjk (at' j _ z ej) (at' k c z2 ek) hc a ha hm
end
section
variable {X:Cx}{E:XK}{Γ Γ1 Γ' Γl:List Cl}{e a b:Expr}{es:List Expr}{t:Tn->R D}{u:Tn->R (List D)}{c:Rc}{pos:Pos}
theorem zf (h:ME X E Γ e t .fresh):MV X E Γ e t Γ:=by
 obtain ⟨te,p,q⟩:=h
 refine ⟨te,p,fun B σ H τ T Q ok h=>?_⟩
 obtain ⟨O,eo,_⟩:=ok.eok
 refine q O σ H τ Q eo ?_
 cases ht:t τ with
 | ok d =>
  rw [ht] at h
  exact fun v H' L s r k=>h v H' L s r (ok.aside s (fun a ha=>r.there ha) k.1 k.2)
 | err n=>rw [ht] at h; exact fun C H' e s=>h C H' e (ok.ext.trans s)
 | bad=>rw [ht] at h; exact h
theorem KI {i:Nat}{x:Str}(hN:X.N[i]?=some x)(hk:Γ[i]?=some .own)(hv:Vis X.env.scope x)(hb:autoParam ((x==("__debug__":Str))=false) L2.au1._auto_1)(hcd:autoParam ((x==("__classdict__":Str))=false) L2.au1._auto_1):MV X E Γ (.Name x pos) (zb i) (Γ.set i .dead):=by
 refine ⟨qo i,qm hN hv hb hcd,fun B σ H τ T Q ok h=>?_⟩
 obtain ⟨v,d,L,e1,e2,r,ok'⟩:=ok.out hk
 unfold zb at h
 rw [e2] at h
 exact ⟨v,e1,h v H L (Same.refl H) r ok'⟩
def zx:Tn->R Fl:=fun τ=>.ok (.nx τ)
def zh (a b:Tn->R Fl):Tn->R Fl:=fun τ=>(a τ).bind fun f=>match f with
 | .nx τ'=>b τ'
 | f=>.ok f
def kR (t:Tn->R D):Tn->R Fl:=fun τ=>(t τ).bind fun _=>.ok (.nx τ)
def zr (t:Tn->R D):Tn->R Fl:=fun τ=>(t τ).bind fun d=>.ok (.rt d)
def zl (i:Nat)(t:Tn->R D):Tn->R Fl:=fun τ=>(t τ).bind fun d=>.ok (.nx (τ.set i (some d)))
def sIf (k:Tn->R Bool)(a b:Tn->R Fl):Tn->R Fl:=fun τ=>(k τ).bind fun x=>if x=true then a τ else b τ
theorem yf:MSs X E Γl Γ [] zx Γ:=⟨z0x,W6,fun B σ H τ Z ok h=>h σ H ok⟩
theorem zq {s:Stmt}{t:Tn->R Fl}(h:MS X E Γl Γ s t Γ'):MSs X E Γl Γ [s] t Γ':=by
 obtain ⟨ts,p,q⟩:=h
 exact ⟨ts,Wo p,q⟩
theorem zi {s:Stmt}{r:List Stmt}{t1 t2:Tn->R Fl}(h:MS X E Γl Γ s t1 Γ1)(k:MSs X E Γl Γ1 r t2 Γ'):MSs X E Γl Γ (s::r) (zh t1 t2) Γ':=by
 obtain ⟨ts,p,q⟩:=h
 obtain ⟨ts',p',q'⟩:=k
 refine ⟨JD ts ts',Jc p p',fun B σ H τ Z ok h=>q B σ H τ _ ok ?_⟩
 unfold zh at h
 cases ht:t1 τ with
 | ok f =>
  rw [ht,R.ok_bind] at h
  cases f with
  | nx τ'=>exact fun σ' H' ok'=>q' B σ' H' τ' Z ok' h
  | rt d=>exact h
  | bk τ'=>exact h
  | ct τ'=>exact h
 | err n=>rw [ht] at h; exact h
 | bad=>rw [ht] at h; exact h
theorem UK {s:List Stmt}{t:Tn->R Fl}(h:MSs X E Γl Γ s t Γ1)(w:wk Γ1 Γ'=true):MSs X E Γl Γ s t Γ':=by
 obtain ⟨ts,p,q⟩:=h
 refine ⟨ts,p,fun B σ H τ Z ok h=>q B σ H τ Z ok ?_⟩
 cases ht:t τ with
 | ok f =>
  rw [ht] at h
  cases f with
  | nx τ'=>exact fun σ' H' ok'=>h σ' H' (ok'.weak w)
  | rt d=>exact h
  | bk τ'=>exact h
  | ct τ'=>exact h
 | err n=>rw [ht] at h; exact h
 | bad=>rw [ht] at h; exact h
theorem UU {s:Stmt}{t:Tn->R Fl}(h:MS X E Γl Γ1 s t Γ')(w:wk Γ Γ1=true):MS X E Γl Γ s t Γ':=by
 obtain ⟨ts,p,q⟩:=h
 exact ⟨ts,p,fun B σ H τ Z ok h=>q B σ H τ Z (ok.weak w) h⟩
theorem Kv (h:ME X E Γ e t c)(hs:autoParam (swapsWith e none pos.line X.env=pure false) L2.au3._auto_1):MS X E Γl Γ (.Expr e pos) (kR t) Γ:=by
 obtain ⟨te,p,q⟩:=h
 refine ⟨z05 te,W9 p hs,fun B σ H τ Z ok h=>?_⟩
 obtain ⟨O,eo,_⟩:=ok.eok
 refine q O σ H τ _ eo ?_
 unfold kR at h
 cases ht:t τ with
 | ok d=>rw [ht,R.ok_bind] at h; exact fun v H' L s r k=>h σ H' (ok.same s)
 | err n=>rw [ht] at h; exact fun C H' e s=>h C H' e (ok.ext.trans s)
 | bad=>rw [ht] at h; exact h
theorem zE (h:MV X E Γ e t Γ1):MS X E Γl Γ (.Return (some e) pos) (zr t) Γ':=by
 obtain ⟨te,p,q⟩:=h
 refine ⟨JM te,QW p,fun B σ H τ Z ok h=>q B σ H τ [] _ ok ?_⟩
 unfold zr at h
 cases ht:t τ with
 | ok d =>
  rw [ht,R.ok_bind] at h
  refine fun v H' L s r ok'=>?_
  obtain ⟨Ls,_,_,_,h4,h5,_⟩:=ok'.ex
  rw [sF] at h4 h5
  exact h v H' L ok'.ext r h4 fun a ha=>(h5 a ha).1
 | err n=>rw [ht] at h; exact h
 | bad=>rw [ht] at h; exact h
theorem xu {k:Expr}{u:Tn->R Bool}{sa sb:List Stmt}{t1 t2:Tn->R Fl}(hk:MT X E Γ k u)(ha:MSs X E Γl Γ sa t1 Γ')(hb:MSs X E Γl Γ sb t2 Γ'):MS X E Γl Γ (.If k sa sb pos) (sIf u t1 t2) Γ':=by
 obtain ⟨te,p,q⟩:=hk
 obtain ⟨ts1,p1,q1⟩:=ha
 obtain ⟨ts2,p2,q2⟩:=hb
 refine ⟨Kt te ts1 ts2,z0t p p1 p2,fun B σ H τ Z ok h=>?_⟩
 obtain ⟨O,eo,_⟩:=ok.eok
 refine q O σ H τ _ eo ?_
 unfold sIf at h
 cases ht:u τ with
 | ok x =>
  rw [ht,R.ok_bind] at h
  refine fun H1 s1=>?_
  cases x with
  | true=>rw [if_pos rfl] at h ⊢; exact q1 B σ H1 τ Z (ok.same s1) h
  | false=>rw [if_neg tX] at h ⊢; exact q2 B σ H1 τ Z (ok.same s1) h
 | err n=>rw [ht] at h; exact fun C H' e s=>h C H' e (ok.ext.trans s)
 | bad=>rw [ht] at h; exact h
theorem z1y {i:Nat}{x:Str}{pos':Pos}(hN:X.N.Nodup)(hi:X.N[i]?=some x)(hl:i<Γ1.length)(h:MV X E Γ e t Γ1)(hx:Loc X.env.scope x)(hs:autoParam (swapsWith e (some (.Name x pos')) pos.line X.env=pure false) L2.au3._auto_1)(hf:autoParam (X.fn x=true\/X.env.scope.names.lookup x=some .local) L2.au0._auto_1) :
  MS X E Γl Γ (.Assign [.Name x pos'] e pos) (zl i t) (Γ1.set i .own):=by
 obtain ⟨te,p,q⟩:=h
 refine ⟨_,U5 hN hi hx p hs hf,fun B σ H τ Z ok h=>q B σ H τ [] _ ok ?_⟩
 unfold zl at h
 cases ht:t τ with
 | ok d =>
  rw [ht,R.ok_bind] at h
  exact fun v H' L s r ok'=>h _ _ (ok'.into r hl)
 | err n=>rw [ht] at h; exact h
 | bad=>rw [ht] at h; exact h
theorem K9 {i:Nat}{x:Str}{pos':Pos}(hN:X.N.Nodup)(hi:X.N[i]?=some x)(hl:i<Γ.length)(h:ME X E Γ e t c)(hc:c≠.bor)(hx:Loc X.env.scope x)(hs:autoParam (swapsWith e (some (.Name x pos')) pos.line X.env=pure false) L2.au3._auto_1)(hf:autoParam (X.fn x=true\/X.env.scope.names.lookup x=some .local) L2.au0._auto_1) :
  MS X E Γl Γ (.Assign [.Name x pos'] e pos) (zl i t) (Γ.set i .shr):=by
 obtain ⟨te,p,q⟩:=h
 refine ⟨_,U5 hN hi hx p hs hf,fun B σ H τ Z ok h=>?_⟩
 obtain ⟨O,eo,hL⟩:=ok.eok
 refine q O σ H τ _ eo ?_
 unfold zl at h
 cases ht:t τ with
 | ok d =>
  rw [ht,R.ok_bind] at h
  refine fun v H' L s r k=>h _ _ ?_
  obtain ⟨Ls,h1,h2,h3,_,_,_,h7⟩:=hL L (k.shr eo.dom hc)
  exact SOk.intoS (ok.ext.trans s) ok.lσ ok.lτ (fun j c e hc=>by obtain ⟨v',d',e1,e2,r'⟩:=h1 j c e hc; exact ⟨v',d',e1,e2,r'.same s⟩) h2 h3 h7 r hl
 | err n=>rw [ht] at h; exact fun C H' e s=>h C H' e (ok.ext.trans s)
 | bad=>rw [ht] at h; exact h
end
section
variable {K:PySem.W.Frag}{Γ Γ':List Cl}{B H H1:Hp}{σ:St}{τ:Tn}{T:List Addr}
theorem SOk.slot {i:Nat}(h:SOk K Γ B H σ τ T)(e:Γ[i]?=some .own):∃ v d L,σ[i]?=some (some v)/\τ[i]?=some (some d)/\Rep K H d v L/\L.Nodup/\(∀ a∈L,B a=none/\a∉T) /\
  ∀ (H2:Hp) (d2:D) (L2 Le T':List Addr),T=Le++T'->TF H H2->(∀ b,b∉L->H b≠none->H2 b=H b)->Rep K H2 d2 v L2->(∀ a∈L2,a∈L\/a∈Le)->L2.Nodup->SOk K Γ B H2 σ (τ.set i (some d2)) T':=by
 obtain ⟨Ls,h1,h2,h3,h4,h5,h6⟩:=h.ex
 obtain ⟨v,d,e1,e2,r⟩:=h1 i _ e (by simp)
 refine ⟨v,d,Ls i,e1,e2,r,(h2 i e).1,fun a ha=>⟨(h2 i e).2 a ha,h6 i _ e (by simp) a ha⟩,?_⟩
 rintro H2 d2 L2 Le T' rfl tf kp r2 sub nd
 obtain ⟨n1,n2,n3⟩:=sI.mp h4
 have hτ:i<τ.length:=(sD.mp e2).1
 have notL:∀ b,B b≠none->b∉Ls i:=fun b hb hm=>hb ((h2 i e).2 b hm)
 refine ⟨fun b o q=>?_,h.lσ,by rw [sT]; exact h.lτ,Vu Ls i L2,fun j c ej hc=>?_,fun j ej=>?_,fun j k c hjk ej ek hc a ha hm=>?_,n2,fun a ha=>⟨(h5 a (tJ _ ha)).1,?_⟩,fun j c ej hc a ha hm=>?_⟩
 ·have hq:=h.ext b o q
  rw [kp b (notL b (by rw [q]; simp)) (by rw [hq]; simp)]; exact hq
 ·by_cases z:j=i
  ·subst z
   refine ⟨v,d2,e1,by rw [sO hτ],?_⟩
   rw [x4]; exact r2
  ·obtain ⟨v',d',q1,q2,r'⟩:=h1 j c ej hc
   refine ⟨v',d',q1,by rw [sL (Ne.symm z)]; exact q2,?_⟩
   rw [yH z]
   exact Rep.keep tf d' v' _ r' fun a ha=>kp a (fun hm=>h3 i j c (Ne.symm z) e ej hc a hm ha) (r'.there ha)
 ·by_cases z:j=i
  ·subst z
   rw [x4]
   refine ⟨nd,fun a ha=>?_⟩
   rcases sub a ha with m | m
   ·exact (h2 _ e).2 a m
   ·exact (h5 a (sC _ m)).1
  ·rw [yH z]; exact h2 j ej
 ·by_cases z:j=i
  ·subst z
   rw [x4] at ha
   rw [yH (Ne.symm hjk)] at hm
   rcases sub a ha with m | m
   ·exact h3 _ k c hjk e ek hc a m hm
   ·exact h6 k c ek hc a hm (sC _ m)
  ·rw [yH z] at ha
   by_cases z2:k=i
   ·subst z2
    rw [x4] at hm
    rcases sub a hm with m | m
    ·exact h3 j _ _ hjk ej e (by simp) a ha m
    ·exact h6 j _ ej (by simp) a ha (sC _ m)
   ·rw [yH z2] at hm; exact h3 j k c hjk ej ek hc a ha hm
 ·have q:=(h5 a (tJ _ ha)).2
  rw [kp a (fun hm=>h6 i _ e (by simp) a hm (tJ _ ha)) q]; exact q
 ·by_cases z:j=i
  ·rw [WN z] at ha
   rcases sub a ha with m | m
   ·exact h6 i _ e (by simp) a m (tJ _ hm)
   ·exact n3 a m a hm rfl
  ·rw [yH z] at ha
   exact h6 j c ej hc a ha (tJ _ hm)
theorem TF.upd {a:Addr}{o:HO}(h:(∃ vs,H a=some (.lst vs))\/∃ kvs,H a=some (.dK kvs)):TF H (upd H a o):=by
 refine ⟨fun b xs e=>?_,fun b p u e=>?_⟩
 ·rw [zI]
  ·exact e
  ·rintro rfl
   rcases h with ⟨_,h⟩ | ⟨_,h⟩<;>rw [h] at e<;>cases e
 ·rw [zI]
  ·exact e
  ·rintro rfl
   rcases h with ⟨_,h⟩ | ⟨_,h⟩<;>rw [h] at e<;>cases e
theorem Rep.upd {d:D}{v:V}{L:List Addr}{a:Addr}{o:HO}(r:Rep K H d v L)(h:(∃ vs,H a=some (.lst vs))\/∃ kvs,H a=some (.dK kvs))(n:a∉L):Rep K (L2.upd H a o) d v L :=
 Rep.keep (TF.upd h) d v L r fun b hb=>zI fun z=>n (z▸hb)
theorem Reps.upd {d:List D}{v:List V}{L:List Addr}{a:Addr}{o:HO}(r:Reps K H d v L)(h:(∃ vs,H a=some (.lst vs))\/∃ kvs,H a=some (.dK kvs))(n:a∉L):Reps K (L2.upd H a o) d v L :=
 Reps.keep (TF.upd h) d v L r fun b hb=>zI fun z=>n (z▸hb)
theorem Reps.set:∀ {ds:List D} {vs:List V} {L:List Addr} {d:D} {v:V} {Le:List Addr} (j:Nat),Reps K H ds vs L->Rep K H d v Le->j<ds.length->∃ L2,Reps K H (ds.set j d) (vs.set j v) L2/\(∀ a∈L2,a∈L\/a∈Le)/\((L++Le).Nodup->L2.Nodup)
 | [],_,_,_,_,_,_,_,_,h=>by simp at h
 | d::ds,_,_,d',v',Le,0,hq7,r,_=>by
  obtain ⟨v,vs',L1,L2,e1,e2,h1,h2⟩:=hq7
  subst e1 e2
  refine ⟨Le++L2,by simpa using Reps.cons r h2,fun a ha=>?_,fun n=>?_⟩
  ·rcases sE.mp ha with z | z
   ·exact .inr z
   ·exact .inl (tJ _ z)
  ·obtain ⟨n1,n2,n3⟩:=sI.mp n
   obtain ⟨m1,m2,m3⟩:=sI.mp n1
   exact sI.mpr ⟨n2,m2,fun a ha b hb z=>n3 b (tJ _ hb) a ha z.symm⟩
 | d::ds,_,_,d',v',Le,j+1,hq7,r,hj=>by
  obtain ⟨v,vs',L1,L2,e1,e2,h1,h2⟩:=hq7
  subst e1 e2
  obtain ⟨L3,a1,a2,a3⟩:=Reps.set j h2 r (by simpa using hj)
  refine ⟨L1++L3,by simpa using Reps.cons h1 a1,fun a ha=>?_,fun n=>?_⟩
  ·rcases sE.mp ha with z | z
   ·exact .inl (sC _ z)
   ·rcases a2 a z with m | m
    ·exact .inl (tJ _ m)
    ·exact .inr m
  ·rw [sS] at n
   obtain ⟨n1,n2,n3⟩:=sI.mp n
   refine sI.mpr ⟨n1,a3 n2,fun a ha b hb z=>?_⟩
   rcases a2 b hb with m | m
   ·exact n3 a ha b (sC _ m) z
   ·exact n3 a ha b (tJ _ m) z
end
section
variable {X:Cx}{E:XK}{Γ Γ1 Γ' Γl:List Cl}{e a b:Expr}{es:List Expr}{t t':Tn->R D}{u:Tn->R (List D)}{c:Rc}{pos:Pos}
def wN (i:Nat)(t:Tn->R D):Tn->R Fl:=fun τ=>(zb i τ).bind fun l=>match l with
 | .lst ds=>(t τ).bind fun d=>if ds.length<sizeLine then .ok (.nx (τ.set i (some (.lst (ds++[d]))))) else .bad
 | _=>.bad
theorem VH {i:Nat}{x:Str}{p0 p1 p2:Pos}(hN:X.N[i]?=some x)(h0:Γ[i]?=some .own)(h:MV X E Γ e t Γ1)(hk:Γ1[i]?=some .own)(hv:Vis X.env.scope x)(hb:autoParam ((x==("__debug__":Str))=false) L2.au1._auto_1)(hcd:autoParam ((x==("__classdict__":Str))=false) L2.au1._auto_1)
  (hbase:autoParam (attributeBase (.Name x p0) "append" X.env (eval (.Name x p0) X.env)=eval (.Name x p0) X.env) L2.au3._auto_1)
  (hfew:autoParam (((backTo p2 (starEach [e] X.env)).all (fun x=>!x.1)&&(backToKw p2 (keywordEach [] X.env)).all (fun x=>x.1.isSome)&&decide ([e].length+([]:List Keyword).length+(if ([]:List Keyword).isEmpty then 0 else 1)<30))=true) L2.au3._auto_1)
  (hline:autoParam ((p1.endLine==p2.line)=true) L2.au3._auto_1) (hs:autoParam (starEach [e] X.env=(false,eval e X.env)::starEach [] X.env) L2.au3._auto_1) (hplain:autoParam ((backTo p2 (starEach [] X.env)).any (·.1)=false) L2.au3._auto_1)
  (hsw:autoParam (swapsWith (.Call (.Attribute (.Name x p0) "append" p1) [e] [] p2) none pos.line X.env=pure false) L2.au3._auto_1) :
  MS X E Γl Γ (.Expr (.Call (.Attribute (.Name x p0) "append" p1) [e] [] p2) pos) (wN i t) Γ1:=by
 obtain ⟨te,p,q⟩:=h
 refine ⟨_,W9 (z04 PySem.F.plainAttrs_list PySem.F.slot_list_append PySem.F.type_list_append qq (qm (pos:=p0) hN hv hb hcd) (vm p qu hs) hbase hfew hline hs hplain) hsw,fun B σ H τ Z ok h=>?_⟩
 obtain ⟨v,d,L,e1,e2,r,_⟩:=ok.slot h0
 refine ⟨v,e1,?_⟩
 unfold wN at h
 have ev:zb i τ=.ok d:=by unfold zb; rw [e2]
 rw [ev,R.ok_bind] at h
 cases d with
 | lst ds =>
  obtain ⟨a,vs,L',rfl,ha,_,rs⟩:=r
  refine ⟨.inl ⟨rfl,vs,SqL.of ha⟩,q B σ H τ [] _ ok ?_⟩
  dsimp only at h
  cases ht:t τ with
  | ok d' =>
   rw [ht,R.ok_bind] at h
   refine fun y H1 Le s1 ry ok1=>?_
   obtain ⟨v1,d1,L1,q1,q2,r1,n1,n2,fin⟩:=ok1.slot hk
   rw [e1] at q1
   cases q1
   rw [e2] at q2
   cases q2
   obtain ⟨a1,vs1,L1',z1,ha1,z2,rs1⟩:=r1
   cases z1
   subst z2
   have hl:vs1.length=ds.length:=rs1.length
   by_cases hz:ds.length<sizeLine
   ·rw [if_pos hz] at h
    have mu:(∃ vs,H1 a=some (.lst vs))\/∃ kvs,H1 a=some (.dK kvs):=.inl ⟨_,ha1⟩
    have na:a∉Le:=fun m=>(n2 a tQ).2 (sC _ m)
    obtain ⟨m1,m2⟩:=sY.mp n1
    refine ⟨a,vs1,y,rfl,rfl,ha1,by lia,h _ _ (fin _ _ (a::(L1'++Le)) Le [] rfl (TF.upd mu) (fun b hb _=>zI fun z=>hb (z▸tQ)) ?_ (fun b hb=>?_) ?_)⟩
    ·refine ⟨a,vs1++[y],L1'++Le,rfl,zG,rfl,Reps.append (rs1.upd mu m1) ?_⟩
     have:=Reps.cons (ry.upd (o:=.lst (vs1++[y])) mu na) (Reps.nil (K:=X.K) (H:=upd H1 a (.lst (vs1++[y]))))
     rw [sF] at this
     exact this
    ·rcases sJ.mp hb with z | z
     ·exact .inl (z▸tQ)
     ·rcases sE.mp z with z | z
      ·exact .inl (tR _ z)
      ·exact .inr z
    ·refine sY.mpr ⟨fun z=>?_,sI.mpr ⟨m2,?_,fun b hb b' hb' z=>?_⟩⟩
     ·rcases sE.mp z with z | z
      ·exact m1 z
      ·exact na z
     ·obtain ⟨_,_,_,_,w4,_⟩:=ok1.ex
      rw [sF] at w4
      exact w4
     ·subst z
      exact (n2 b (tR _ hb)).2 (sC _ hb')
   ·rw [if_neg hz] at h; exact h.elim
  | err n=>rw [ht] at h; exact h
  | bad=>rw [ht] at h; exact h
 | _=>exact h.elim
def Kb (ds:List D)(k:Int)(d:D):R D:=match ixN ds.length k with
 | some j=>.ok (.lst (ds.set j d))
 | none=>.bad
def WY (i:Nat)(t ti:Tn->R D):Tn->R Fl:=fun τ=>(t τ).bind fun d=>(zb i τ).bind fun l=>(ti τ).bind fun k=>match l,k with
 | .lst ds,.int k=>(Kb ds k d).bind fun l'=>.ok (.nx (τ.set i (some l')))
 | _,_=>.bad
theorem z1s {i:Nat}{x:Str}{p0 p1:Pos}{ix:Expr}{ti:Tn->R D}(hN:X.N[i]?=some x)(h:MV X E Γ e t Γ1)(hi:ME X E Γ1 ix ti c)(hk:Γ1[i]?=some .own)(hv:Vis X.env.scope x)(hb:autoParam ((x==("__debug__":Str))=false) L2.au1._auto_1)(hcd:autoParam ((x==("__classdict__":Str))=false) L2.au1._auto_1)
  (ha:autoParam (∀ v,assign (.Subscript (.Name x p0) ix p1) X.env v=(do
   let ov <- holding [v] (eval (.Name x p0) X.env)
   let iv <- holding [v,ov] (eval ix X.env)
   standAt p1
   holding [v,ov,iv] (setItem ov iv v)
   release [v,ov,iv] [])) L2.au2._auto_1)
  (hs:autoParam (swapsWithSole [.Subscript (.Name x p0) ix p1] e pos.line X.env=pure false) L2.au3._auto_1) (hw:autoParam (swappedStores [.Subscript (.Name x p0) ix p1] e X.env=pure none) L2.au3._auto_1)
  (h1:autoParam ((assignEach [.Subscript (.Name x p0) ix p1] X.env).map (·.2)=[assign (.Subscript (.Name x p0) ix p1) X.env]) L2.au3._auto_1) :
  MS X E Γl Γ (.Assign [.Subscript (.Name x p0) ix p1] e pos) (WY i t ti) Γ1:=by
 obtain ⟨te,p,q⟩:=h
 obtain ⟨te',p',q'⟩:=hi
 refine ⟨_,J6 p (z1d (qm (pos:=p0) hN hv hb hcd) p' Qc ha) hs hw h1,fun B σ H τ Z ok h=>q B σ H τ [] _ ok ?_⟩
 unfold WY at h
 cases ht:t τ with
 | ok d' =>
  rw [ht,R.ok_bind] at h
  refine fun y H1 Le s1 ry ok1=>?_
  obtain ⟨v1,d1,L1,q1,q2,r1,n1,n2,_⟩:=ok1.slot hk
  refine ⟨v1,q1,?_⟩
  have ev:zb i τ=.ok d1:=by unfold zb; rw [q2]
  rw [ev,R.ok_bind] at h
  obtain ⟨O,eo,_⟩:=ok1.eok
  refine q' O σ H1 τ _ eo ?_
  cases hk':ti τ with
  | ok dk =>
   rw [hk',R.ok_bind] at h
   refine fun kv H2 Lk s2 rk _=>?_
   have ok2:=ok1.same s2
   obtain ⟨v2,d2,L2,q3,q4,r2,m1,m2,fin⟩:=ok2.slot hk
   rw [q1] at q3
   cases q3
   rw [q2] at q4
   cases q4
   cases d1 with
   | lst ds =>
    cases dk with
    | int k =>
     obtain ⟨a,vs,L',rfl,ha2,z2,rs⟩:=r2
     subst z2
     dsimp only at h
     unfold Kb at h
     cases hj:ixN ds.length k with
     | none=>rw [hj] at h; exact h.elim
     | some j =>
      rw [hj] at h
      have hjl:j<ds.length:=(Zz hj).2.1
      have mu:(∃ vs,H2 a=some (.lst vs))\/∃ kvs,H2 a=some (.dK kvs):=.inl ⟨_,ha2⟩
      have na:a∉Le:=fun m=>(m2 a tQ).2 (sC _ m)
      obtain ⟨w1,w2⟩:=sY.mp m1
      have nLe:Le.Nodup:=by
       obtain ⟨_,_,_,_,w4,_⟩:=ok1.ex
       rw [sF] at w4
       exact w4
      have r3:=(ry.same s2).upd (o:=.lst (vs.set j y)) mu na
      obtain ⟨L3,a1,a2,a3⟩:=Reps.set j (rs.upd (o:=.lst (vs.set j y)) mu w1) r3 hjl
      refine ⟨a,vs,k,j,rfl,rk.1,ha2,by rw [rs.length]; exact hj,h _ _ (fin _ _ (a::L3) Le [] rfl (TF.upd mu) (fun b hb _=>zI fun z=>hb (z▸tQ)) ⟨a,_,L3,rfl,zG,rfl,a1⟩ (fun b hb=>?_) ?_)⟩
      ·rcases sJ.mp hb with z | z
       ·exact .inl (z▸tQ)
       ·rcases a2 b z with z | z
        ·exact .inl (tR _ z)
        ·exact .inr z
      ·refine sY.mpr ⟨fun z=>?_,a3 (sI.mpr ⟨w2,nLe,fun b hb b' hb' z=>?_⟩)⟩
       ·rcases a2 a z with z | z
        ·exact w1 z
        ·exact na z
       ·subst z
        exact (m2 b (tR _ hb)).2 (sC _ hb')
    | _=>exact h.elim
   | _=>exact h.elim
  | err n=>rw [hk'] at h; exact fun C H' e s=>h C H' e (ok1.ext.trans s)
  | bad=>rw [hk'] at h; exact h
 | err n=>rw [ht] at h; exact h
 | bad=>rw [ht] at h; exact h
end
section
variable {K:PySem.W.Frag}{Γ Γ':List Cl}{B B' H H1:Hp}{σ:St}{τ:Tn}{T:List Addr}
theorem SOk.rebase (h:SOk K Γ B' H σ τ T)(s:Same B B'):SOk K Γ B H σ τ T:=by
 obtain ⟨Ls,h1,h2,h3,h4,h5,h6⟩:=h.ex
 exact ⟨s.trans h.ext,h.lσ,h.lτ,Ls,h1,fun i e=>⟨(h2 i e).1,fun a ha=>s.non ((h2 i e).2 a ha)⟩,h3,h4,fun a ha=>⟨s.non (h5 a ha).1,(h5 a ha).2⟩,h6⟩
open Classical in
theorem SOk.base (h:SOk K Γ B H σ τ []):∃ O:Addr->Prop,EOk K Γ O H σ τ/\(∀ a,O a->(∃ vs,H a=some (.lst vs))\/∃ kvs,H a=some (.dK kvs)) /\
  ∀ H1,Same H H1->∃ B1,Same B B1/\SOk K Γ B1 H1 σ τ []/\∀ a,¬ O a->B1 a=H1 a:=by
 obtain ⟨Ls,h1,h2,h3,h4,h5,h6⟩:=h.ex
 refine ⟨fun a=>∃ i,Γ[i]?=some .own/\a∈Ls i,⟨fun a ⟨i,e,ha⟩=>?_,fun i c e hc=>?_⟩,fun a ⟨i,e,ha⟩=>?_,fun H1 s1=>⟨fun a=>if (∃ i,Γ[i]?=some .own/\a∈Ls i) then none else H1 a,fun b o q=>?_,⟨fun b o q=>?_,h.lσ,h.lτ,Ls,fun i c e hc=>?_,fun i e=>⟨(h2 i e).1,fun a ha=>if_pos ⟨i,e,ha⟩⟩,h3,h4,fun a ha=>(nomatch ha),h6⟩,fun a n=>if_neg n⟩⟩
 ·obtain ⟨v,d,_,_,r⟩:=h1 i _ e (by simp)
  exact r.there ha
 ·obtain ⟨v,d,e1,e2,r⟩:=h1 i c e hc
  refine ⟨v,d,Ls i,e1,e2,r,fun z a ha ⟨j,ej,hj⟩=>?_⟩
  subst z
  have hij:j≠i:=fun z=>by subst z; rw [e] at ej; cases ej
  exact h3 j i _ hij ej e (by simp) a hj ha
 ·obtain ⟨v,d,_,_,r⟩:=h1 i _ e (by simp)
  exact Rep.dom d v _ r a ha
 ·show (if (∃ i,Γ[i]?=some .own/\b∈Ls i) then none else H1 b)=some o
  rw [if_neg]
  ·exact s1 b o (h.ext b o q)
  ·rintro ⟨i,e,hb⟩
   rw [(h2 i e).2 b hb] at q; cases q
 ·have q:(if (∃ i,Γ[i]?=some .own/\b∈Ls i) then none else H1 b)=some o:=q
  by_cases z:∃ i,Γ[i]?=some .own/\b∈Ls i
  ·rw [if_pos z] at q; cases q
  ·rw [if_neg z] at q; exact q
 ·obtain ⟨v,d,e1,e2,r⟩:=h1 i c e hc
  exact ⟨v,d,e1,e2,r.same s1⟩
theorem SOk.shrIn {i:Nat}{d:D}{v:V}{L:List Addr}(h:SOk K Γ B H σ τ [])(r:Rep K H d v L)(hL:∀ a∈L,B a≠none)(hi:i<Γ.length):SOk K (Γ.set i .shr) B H (σ.set i (some v)) (τ.set i (some d)) []:=by
 obtain ⟨Ls,h1,h2,h3,h4,h5,h6⟩:=h.ex
 exact SOk.intoS h.ext h.lσ h.lτ h1 h2 h3 (fun j e a ha hm=>hL a hm ((h2 j e).2 a ha)) r hi
end
def yU {α:Type}:List (Option α)->List Nat->List α->List (Option α)
 | σ,i::is,v::vs=>yU (σ.set i (some v)) is vs
 | σ,_,_=>σ
def shrAll:List Cl->List Nat->List Cl
 | Γ,[]=>Γ
 | Γ,i::is=>shrAll (Γ.set i .shr) is
theorem SOk.shrAll {K:PySem.W.Frag}{B H:Hp}{Γ:List Cl}{σ:St}{τ:Tn}{is:List Nat}{ds:List D}{vs:List V}{L:List Addr}(h:SOk K Γ B H σ τ [])(r:Reps K H ds vs L)(hL:∀ a∈L,B a≠none)(hl:ds.length=is.length)(hi:∀ i∈is,i<Γ.length) :
  SOk K (L2.shrAll Γ is) B H (yU σ is vs) (yU τ is ds) []:=by
 induction is generalizing Γ σ τ ds vs L with
 | nil =>
  cases ds with
  | nil=>cases r.1; exact h
  | cons=>cases hl
 | cons i is ih =>
  cases ds with
  | nil=>cases hl
  | cons d ds =>
   obtain ⟨v,vs',La,Lb,e1,e2,r1,r2⟩:=r
   subst e1 e2
   exact ih (h.shrIn r1 (fun a ha=>hL a (sC _ ha)) (hi i tQ)) r2 (fun a ha=>hL a (tJ _ ha)) (Nat.succ.inj hl) (fun j hj=>by rw [sT]; exact hi j (tR _ hj))
def ItOk (K:PySem.W.Frag)(J:It)(ds:List D)(L:List Addr)(H:Hp):Prop:=(∀ a∈L,H a≠none)/\∀ H',TF H H'->(∀ a∈L,H' a=H a)->∀ i,
 (∀ d,ds[i]?=some d->J.go i H'/\∀ x H'',J.yld i H' x H''->Same H' H''/\∃ L',Rep K H'' d x L'/\∀ a∈L',a∈L)/\(ds.length<=i->J.stop i H')
def z0w (K:PySem.W.Frag)(E:XK)(O:Addr->Prop)(c:Rc)(H:Hp)(Rr:It->Hp->Prop):R (List D)->Prop
 | .ok ds=>∀ J H' L,Same H H'->ItOk K J ds L H'->(c≠.bor->∀ a∈L,¬ O a)->Rr J H'
 | .err n=>∀ C H',ErrC K n C->Same H H'->E (.ref C) none H'
 | .bad=>False
def MI (X:Cx)(E:XK)(Γ:List Cl)(tg iter:Expr)(t:Tn->R (List D))(c:Rc):Prop :=
 ∃ wi,PI X tg iter wi/\∀ O σ H τ Rr,EOk X.K Γ O H σ τ->z0w X.K E O c H Rr (t τ)->wi σ H Rr
inductive Tgt where
 | one (i:Nat) | many (is:List Nat)
def Tgt.slots:Tgt->List Nat
 | .one i=>[i]
 | .many is=>is
def Tgt.asg:Tgt->D->Tn->R Tn
 | .one i,d,τ=>.ok (τ.set i (some d))
 | .many is,.tup ds,τ=>if ds.length=is.length then .ok (yU τ is ds) else .bad
 | .many _,_,_=>.bad
def MG (X:Cx)(tg:Expr):Tgt->Prop
 | .one i=>PG X tg (uv i)
 | .many is=>∃ g,PG X tg (z3E X.K is.length g)/\∀ (vs:List V) (σ:St) (H:Hp) (Q:St->Hp->Prop),vs.length=is.length->Q (yU σ is vs) H->g vs σ H Q
def yY (asg:D->Tn->R Tn)(body:Tn->R Fl):List D->Tn->R Fl
 | [],τ=>.ok (.nx τ)
 | d::ds,τ=>(asg d τ).bind fun τ1=>(body τ1).bind fun f=>match f with
  | .nx τ2=>yY asg body ds τ2
  | .ct τ2=>yY asg body ds τ2
  | .bk τ2=>.ok (.nx τ2)
  | .rt r=>.ok (.rt r)
def yJ (it:Tn->R (List D))(tg:Tgt)(body:Tn->R Fl):Tn->R Fl:=fun τ=>(it τ).bind fun ds=>yY tg.asg body ds τ
section
variable {X:Cx}{E:XK}{Γ Γ1 Γ2 Γ' Γl:List Cl}{pos:Pos}
def tgG (K:PySem.W.Frag)(g:Tgt):TG:=fun v σ H Q=>match g with
 | .one i=>Q (σ.set i (some v)) H
 | .many is=>∃ a vs,v=.ref a/\SqT K H a vs/\vs.length=is.length/\Q (yU σ is vs) H
theorem MG.pg {tg:Expr}{g:Tgt}(h:MG X tg g):PG X tg (tgG X.K g):=by
 cases g with
 | one i=>exact h
 | many is =>
  obtain ⟨G,p,q⟩:=h
  rintro pins s σ H v u Q I r ⟨a,vs,e,hs,hl,z⟩
  exact p pins s σ H v u Q I r ⟨a,vs,e,hs,hl,q vs σ H Q hl z⟩
theorem VY {K:PySem.W.Frag}{B H:Hp}{σ:St}{τ τ1:Tn}{d:D}{v:V}{L:List Addr}{g:Tgt}(h:SOk K Γ B H σ τ [])(r:Rep K H d v L)(hL:∀ a∈L,B a≠none)(hi:∀ i∈g.slots,i<Γ.length)(ha:g.asg d τ=.ok τ1)
  {Q:St->Hp->Prop} (k:∀ σ1,SOk K (L2.shrAll Γ g.slots) B H σ1 τ1 []->Q σ1 H):tgG K g v σ H Q:=by
 cases g with
 | one i=>cases ha; exact k _ (h.shrIn r hL (hi i (by simp [Tgt.slots])))
 | many is =>
  cases d with
  | tup ds =>
   unfold Tgt.asg at ha
   dsimp only at ha
   by_cases hl:ds.length=is.length
   ·rw [if_pos hl] at ha
    cases ha
    obtain ⟨a,vs,rfl,hs,rs⟩:=r
    have hv:vs.length=is.length:=rs.length.trans hl
    exact ⟨a,vs,rfl,hs,hv,k _ (h.shrAll rs hL hl hi)⟩
   ·rw [if_neg hl] at ha; cases ha
  | _=>cases ha
theorem z0b {it:Tn->R (List D)}{g:Tgt}{tb:Tn->R Fl}{c:Rc}{wi:TI}{ts:TS}(hcl:c≠.bor)(hn:∀ i∈g.slots,i<Γ.length)(hw:wk Γ2 Γ=true)(q:∀ O σ H τ Rr,EOk X.K Γ O H σ τ->z0w X.K E O c H Rr (it τ)->wi σ H Rr)(q':∀ B σ H τ Z,SOk X.K (shrAll Γ g.slots) B H σ τ []->ua X.K E B Γ Γ2 Z (tb τ)->ts Z σ H)
  (B:Hp) (σ:St) (H:Hp) (τ:Tn) (Z:Ends) (ok:SOk X.K Γ B H σ τ []) (h:ua X.K E B Γl Γ Z (yJ it g tb τ)):z15 wi (tgG X.K g) ts Z σ H:=by
 obtain ⟨O,eo,Od,hB⟩:=ok.base
 refine q O σ H τ _ eo ?_
 unfold yJ at h
 cases ht:it τ with
 | ok ds =>
  rw [ht,R.ok_bind] at h
  refine fun J H1 L s1 hit hO=>?_
  have hO:=hO hcl
  obtain ⟨hLd,hit⟩:=hit
  obtain ⟨B1,sB,ok1,hB1⟩:=hB H1 s1
  have inL:∀ a∈L,B1 a=H1 a:=fun a ha=>hB1 a (hO a ha)
  have Od1:∀ a,O a->(∃ vs,H1 a=some (.lst vs))\/∃ kvs,H1 a=some (.dK kvs):=fun a o=>by
   rcases Od a o with ⟨vs,e⟩ | ⟨kvs,e⟩
   ·exact .inl ⟨vs,s1 _ _ e⟩
   ·exact .inr ⟨kvs,s1 _ _ e⟩
  have stay:∀ H2,Same B1 H2->TF H1 H2/\∀ a∈L,H2 a=H1 a:=fun H2 s2=>by
   refine ⟨⟨fun a xs e=>?_,fun a o u e=>?_⟩,fun a ha=>?_⟩
   ·refine s2 a _ ((hB1 a fun z=>?_).trans e)
    rcases Od1 a z with ⟨_,w⟩ | ⟨_,w⟩<;>rw [e] at w<;>cases w
   ·refine s2 a _ ((hB1 a fun z=>?_).trans e)
    rcases Od1 a z with ⟨_,w⟩ | ⟨_,w⟩<;>rw [e] at w<;>cases w
   ·rw [s2.at (by rw [inL a ha]; exact hLd a ha),inL a ha]
  refine ⟨fun i m σ2 H2=>m=ds.length-i/\i<=ds.length/\∃ τ2,SOk X.K Γ B1 H2 σ2 τ2 []/\ua X.K E B Γl Γ Z (yY g.asg tb (ds.drop i) τ2),⟨ds.length,by simp,rO _,τ,ok1,h⟩,?_⟩
  rintro i m σ2 H2 ⟨rfl,hile,τ2,ok2,h2⟩
  obtain ⟨tf,kp⟩:=stay H2 ok2.ext
  obtain ⟨go,stop⟩:=hit H2 tf kp i
  by_cases hlt:i<ds.length
  ·obtain ⟨hgo,hy⟩:=go ds[i] (by simp [hlt])
   rw [rB hlt] at h2
   refine .inr ⟨hgo,fun σ' H'=>i+1<=ds.length/\∃ τ',SOk X.K Γ B1 H' σ' τ' []/\ua X.K E B Γl Γ Z (yY g.asg tb (ds.drop (i+1)) τ'),fun σ' H' ⟨z,w⟩=>⟨ds.length-(i+1),by omega,rfl,z,w⟩,fun x H3 y=>?_⟩
   obtain ⟨s3,L',r',sub⟩:=hy x H3 y
   unfold yY at h2
   cases ha:g.asg ds[i] τ2 with
   | ok τ3 =>
    rw [ha,R.ok_bind] at h2
    refine VY (ok2.same s3) r' (fun a ha=>by rw [inL a (sub a ha)]; exact hLd a (sub a ha)) hn ha fun σ3 ok3=>?_
    refine q' B1 σ3 H3 τ3 _ ok3 ?_
    cases hb:tb τ3 with
    | ok f =>
     rw [hb,R.ok_bind] at h2
     cases f with
     | nx τ4=>exact fun σ' H' ok4=>⟨hlt,τ4,ok4.weak hw,h2⟩
     | ct τ4=>exact fun σ' H' ok4=>⟨hlt,τ4,ok4,h2⟩
     | bk τ4=>exact fun σ' H' ok4=>h2 σ' H' (ok4.rebase sB)
     | rt d=>exact fun v H' L s r n1 n2=>h2 v H' L (sB.trans s) r n1 fun a ha=>sB.non (n2 a ha)
    | err n=>rw [hb] at h2; exact fun C H' e s=>h2 C H' e (sB.trans s)
    | bad=>rw [hb] at h2; exact h2
   | err n =>
    cases g with
    | one i=>cases ha
    | many is =>
     unfold Tgt.asg at ha
     split at ha
     ·cases ha
     ·split at ha<;>cases ha
     ·cases ha
   | bad=>rw [ha] at h2; exact h2.elim
  ·have e:i=ds.length:=by omega
   subst e
   rw [List.drop_length] at h2
   exact .inl ⟨stop (tY _),h2 σ2 H2 (ok2.rebase sB)⟩
 | err n=>rw [ht] at h; exact fun C H' e s=>h C H' e (ok.ext.trans s)
 | bad=>rw [ht] at h; exact h
theorem xO {tg iter:Expr}{body:List Stmt}{it:Tn->R (List D)}{g:Tgt}{tb:Tn->R Fl}{c:Rc}(hp:PassesOwn (model X.prog X.w) X.A X.env X.xe)(hc:X.calm=true)(hi:MI X E Γ tg iter it c)(hcl:c≠.bor)(hg:MG X tg g)
  (hn:∀ i∈g.slots,i<Γ.length) (hb:MSs X E Γ (shrAll Γ g.slots) body tb Γ2) (hw:wk Γ2 Γ=true) (hs:autoParam (∀ x,foldedSetIterable iter X.env x=pure x) L2.au2._auto_1):MS X E Γl Γ (.For tg iter body [] pos) (yJ it g tb) Γ:=by
 obtain ⟨wi,p,q⟩:=hi
 obtain ⟨ts,p',q'⟩:=hb
 exact ⟨_,z1A hp hc p hg.pg p' hs,z0b hcl hn hw q q'⟩
def wc (k:Tn->R Bool)(body:Tn->R Fl):Nat->Tn->R Fl
 | 0,_=>.bad
 | n+1,τ=>(k τ).bind fun x=>if x=true then (body τ).bind fun f=>match f with
  | .nx τ2=>wc k body n τ2
  | .ct τ2=>wc k body n τ2
  | .bk τ2=>.ok (.nx τ2)
  | .rt r=>.ok (.rt r)
  else .ok (.nx τ)
open Classical in
def xQ (k:Tn->R Bool)(body:Tn->R Fl):Tn->R Fl:=fun τ=>if h:∃ n,wc k body n τ≠.bad then wc k body (Classical.choose h) τ else .bad
theorem uV {k:Tn->R Bool}{body:Tn->R Fl}:∀ (n:Nat) (τ:Tn),wc k body n τ≠.bad->wc k body (n+1) τ=wc k body n τ
 | 0,τ,h=>absurd rfl h
 | n+1,τ,h=>by
  unfold wc at h
  rw [wc,wc]
  cases hk:k τ with
  | ok x =>
   rw [hk,R.ok_bind] at h
   rw [R.ok_bind,R.ok_bind]
   cases x with
   | true =>
    rw [if_pos rfl] at h
    rw [if_pos rfl,if_pos rfl]
    cases hb:body τ with
    | ok f =>
     rw [hb,R.ok_bind] at h
     rw [R.ok_bind,R.ok_bind]
     cases f with
     | nx τ2=>exact uV n τ2 h
     | ct τ2=>exact uV n τ2 h
     | bk τ2=>rfl
     | rt d=>rfl
    | err n=>rfl
    | bad=>rfl
   | false=>rfl
  | err n=>rfl
  | bad=>rfl
theorem WK {k:Tn->R Bool}{body:Tn->R Fl}{n m:Nat}{τ:Tn}(h:wc k body n τ≠.bad)(hm:n<=m):wc k body m τ=wc k body n τ:=by
 obtain ⟨j,rfl⟩:=Nat.le.dest hm
 induction j with
 | zero=>rfl
 | succ j ih =>
  have:=ih (Nat.le_add_right _ _)
  rw [<- Nat.add_assoc,uV (n+j) τ (by rw [this]; exact h),this]
theorem Vi {k:Tn->R Bool}{body:Tn->R Fl}{n:Nat}{τ:Tn}{r:R Fl}(h:wc k body n τ=r)(hr:r≠.bad):xQ k body τ=r:=by
 have hx:∃ n,wc k body n τ≠.bad:=⟨n,by rw [h]; exact hr⟩
 unfold xQ
 rw [dif_pos hx]
 have h2:=Classical.choose_spec hx
 rcases Nat.le_total n (Classical.choose hx) with z | z
 ·rw [WK (by rw [h]; exact hr) z,h]
 ·rw [<- WK h2 z,h]
theorem Xx {k:Tn->R Bool}{body:Tn->R Fl}{τ:Tn}:xQ k body τ=.bad\/∃ n,wc k body n τ=xQ k body τ/\xQ k body τ≠.bad:=by
 by_cases hx:∃ n,wc k body n τ≠.bad
 ·refine .inr ⟨Classical.choose hx,?_,?_⟩<;>unfold xQ<;>rw [dif_pos hx]
  exact Classical.choose_spec hx
 ·refine .inl ?_
  unfold xQ
  rw [dif_neg hx]
theorem YH {k:Expr}{body:List Stmt}{u:Tn->R Bool}{tb:Tn->R Fl}(hp:PassesOwn (model X.prog X.w) X.A X.env X.xe)(hk:MT X E Γ k u)(hb:MSs X E Γ Γ body tb Γ2)(hw:wk Γ2 Γ=true):MS X E Γl Γ (.While k body [] pos) (xQ u tb) Γ:=by
 obtain ⟨te,p,q⟩:=hk
 obtain ⟨ts,p',q'⟩:=hb
 refine ⟨_,Qw hp p p',fun B σ H τ Z ok h=>?_⟩
 rcases Xx (k:=u) (body:=tb) (τ:=τ) with z | ⟨n,hn,_⟩
 ·rw [z] at h; exact h.elim
 rw [<- hn] at h
 refine ⟨fun m σ2 H2=>∃ τ2,SOk X.K Γ B H2 σ2 τ2 []/\ua X.K E B Γl Γ Z (wc u tb m τ2),⟨n,τ,ok,h⟩,?_⟩
 rintro m σ2 H2 ⟨τ2,ok2,h2⟩
 cases m with
 | zero=>exact h2.elim
 | succ m =>
  obtain ⟨O,eo,_⟩:=ok2.eok
  refine q O σ2 H2 τ2 _ eo ?_
  unfold wc at h2
  cases ht:u τ2 with
  | ok x =>
   rw [ht,R.ok_bind] at h2
   refine fun H3 s3=>?_
   cases x with
   | true =>
    rw [if_pos rfl] at h2 ⊢
    refine ⟨fun σ' H'=>∃ τ',SOk X.K Γ B H' σ' τ' []/\ua X.K E B Γl Γ Z (wc u tb m τ'),fun σ' H' w=>⟨m,Nat.lt_succ_self _,w⟩,q' B σ2 H3 τ2 _ (ok2.same s3) ?_⟩
    cases hb:tb τ2 with
    | ok f =>
     rw [hb,R.ok_bind] at h2
     cases f with
     | nx τ4=>exact fun σ' H' ok4=>⟨τ4,ok4.weak hw,h2⟩
     | ct τ4=>exact fun σ' H' ok4=>⟨τ4,ok4,h2⟩
     | bk τ4=>exact fun σ' H' ok4=>h2 σ' H' ok4
     | rt d=>exact h2
    | err n=>rw [hb] at h2; exact h2
    | bad=>rw [hb] at h2; exact h2
   | false=>rw [if_neg tX] at h2 ⊢; exact h2 σ2 H3 (ok2.same s3)
  | err n=>rw [ht] at h2; exact fun C H' e s=>h2 C H' e (ok2.ext.trans s)
  | bad=>rw [ht] at h2; exact h2
end
def signs (x:Str):List D:=x.cps.toList.map fun c=>.str ⟨#[c]⟩
def wY:D->R (List D)
 | .lst ds=>.ok ds
 | .tup ds=>.ok ds
 | .str x=>.ok (signs x)
 | _=>.bad
def zZ (t:Tn->R D):Tn->R (List D):=fun τ=>(t τ).bind wY
def rng (lo:Int)(n:Nat):List D:=(List.range n).map fun (i:Nat)=>.int (lo+i)
def wC:List D->R (List D)
 | [.int j]=>if -(2 ^ 62)<=j/\j<2 ^ 62 then .ok (rng 0 j.toNat) else .bad
 | _=>.bad
def Zl:List D->R (List D)
 | [.int i,.int j]=>if -(2 ^ 62)<=i/\i<2 ^ 62/\-(2 ^ 62)<=j/\j<2 ^ 62 then .ok (rng i (j-i).toNat) else .bad
 | _=>.bad
def iL (g:List D->R (List D))(u:Tn->R (List D)):Tn->R (List D):=fun τ=>(u τ).bind g
section
variable {X:Cx}{E:XK}{Γ:List Cl}{tg e:Expr}{t:Tn->R D}{u:Tn->R (List D)}{c:Rc}{p pos:Pos}
theorem ItOk.list {K:PySem.W.Frag}{H:Hp}{a:Addr}{vs:List V}{ds:List D}{L L':List Addr}(ha:H a=some (.lst vs))(e:L=a::L')(r:Reps K H ds vs L'):ItOk K (Itl K a) ds L H:=by
 subst e
 refine ⟨fun b hb=>?_,fun H' tf kp i=>⟨fun d hd=>?_,fun hl=>?_⟩⟩
 ·rcases sJ.mp hb with z | z
  ·rw [z,ha]; simp
  ·exact r.there z
 ·have ha':H' a=some (.lst vs):=(kp a tQ).trans ha
  obtain ⟨v,L1,e1,r1,sub⟩:=r.get hd
  refine ⟨⟨vs,v,SqL.of ha',e1⟩,fun x H'' ⟨e2,hy⟩=>?_⟩
  subst e2
  have:=hy vs (SqL.of ha')
  rw [e1] at this
  cases this
  exact ⟨Same.refl _,L1,Rep.keep tf d _ L1 r1 fun b hb=>kp b (tR _ (sub.subset hb)),fun b hb=>tR _ (sub.subset hb)⟩
 ·have ha':H' a=some (.lst vs):=(kp a tQ).trans ha
  exact ⟨vs,SqL.of ha',by rw [r.length]; exact hl⟩
theorem ItOk.tuple {K:PySem.W.Frag}{H:Hp}{a:Addr}{vs:List V}{ds:List D}{L:List Addr}(ha:SqT K H a vs)(hun:∀ H' xs,TF H H'->SqT K H' a xs->xs=vs)(r:Reps K H ds vs L):ItOk K (Itt K a) ds L H:=by
 refine ⟨fun b hb=>r.there hb,fun H' tf kp i=>⟨fun d hd=>?_,fun hl=>?_⟩⟩
 ·have ha':=ha.tf tf
  obtain ⟨v,L1,e1,r1,sub⟩:=r.get hd
  refine ⟨⟨vs,v,ha',e1⟩,fun x H'' ⟨e2,hy⟩=>?_⟩
  subst e2
  have:=hy vs ha'
  rw [e1] at this
  cases this
  exact ⟨Same.refl _,L1,Rep.keep tf d _ L1 r1 fun b hb=>kp b (sub.subset hb),fun b hb=>sub.subset hb⟩
 ·exact ⟨vs,ha.tf tf,by rw [r.length]; exact hl⟩
theorem ItOk.tup {K:PySem.W.Frag}{H:Hp}{a:Addr}{vs:List V}{ds:List D}{L:List Addr}(ha:SqT K H a vs)(r:Reps K H ds vs L):ItOk K (Itt K a) ds L H:=by
 refine ⟨fun b hb=>r.there hb,fun H' tf kp i=>⟨fun d hd=>?_,fun hl=>?_⟩⟩
 ·have ha':=ha.tf tf
  obtain ⟨v,L1,e1,r1,sub⟩:=r.get hd
  refine ⟨⟨vs,v,ha',e1⟩,fun x H'' ⟨e2,hy⟩=>?_⟩
  subst e2
  have:=hy vs ha'
  rw [e1] at this
  cases this
  exact ⟨Same.refl _,L1,Rep.keep tf d _ L1 r1 fun b hb=>kp b (sub.subset hb),fun b hb=>sub.subset hb⟩
 ·exact ⟨vs,ha.tf tf,by rw [r.length]; exact hl⟩
theorem ItOk.str {K:PySem.W.Frag}{H:Hp}{x:Str}:ItOk K (Its x) (signs x) [] H:=by
 refine ⟨fun b hb=>(nomatch hb),fun H' tf kp i=>⟨fun d hd=>?_,fun hl=>?_⟩⟩
 ·unfold signs at hd
  rw [sM] at hd
  cases hq:x.cps.toList[i]? with
  | none=>rw [hq] at hd; cases hd
  | some k =>
   rw [hq] at hd
   have hd:D.str ⟨#[k]⟩=d:=Option.some.inj hd
   subst hd
   have hi:i<x.cps.size:=by
    have:=(sD.mp hq).1
    simpa using this
   refine ⟨hi,fun y H'' ⟨e2,c',e3,e4⟩=>?_⟩
   subst e2 e4
   rw [<- Array.getElem?_toList,hq] at e3
   cases e3
   exact ⟨Same.refl _,[],⟨rfl,rfl⟩,fun b hb=>(nomatch hb)⟩
 ·have:(signs x).length=x.cps.size:=by simp [signs]
  show x.cps.size<=i
  lia
theorem ItOk.rng {K:PySem.W.Frag}{H:Hp}{lo:Int}{n:Nat}:ItOk K (Itr lo n) (L2.rng lo n) [] H:=by
 refine ⟨fun b hb=>(nomatch hb),fun H' tf kp i=>⟨fun d hd=>?_,fun hl=>?_⟩⟩
 ·unfold L2.rng at hd
  rw [sM] at hd
  by_cases hi:i<n
  ·rw [pE hi] at hd
   have hd:D.int (lo+(i:Int))=d:=Option.some.inj hd
   subst hd
   refine ⟨hi,fun y H'' ⟨e2,e3⟩=>?_⟩
   subst e2 e3
   exact ⟨Same.refl _,[],⟨rfl,rfl⟩,fun b hb=>(nomatch hb)⟩
  ·rw [rR (by simp; lia)] at hd; cases hd
 ·have:(L2.rng lo n).length=n:=by simp [L2.rng]
  show n<=i
  lia
theorem x9 (h:ME X E Γ e t c):MI X E Γ tg e (zZ t) c:=by
 obtain ⟨te,p,q⟩:=h
 refine ⟨fun σ H Rr=>z0v X.K te σ H Rr\/z2W X.K te σ H Rr\/z4p te σ H Rr,fun pins s σ H Rr I z=>?_,fun O σ H τ Rr ok h=>?_⟩
 ·rcases z with z | z | z
  ·exact Ki p pins s σ H Rr I z
  ·exact z28 p pins s σ H Rr I z
  ·exact z1C p pins s σ H Rr I z
 ·unfold zZ at h
  cases ht:t τ with
  | ok d =>
   rw [ht,R.ok_bind] at h
   cases d with
   | lst ds =>
    refine .inl (q O σ H τ _ ok ?_)
    rw [ht]
    refine fun v H1 L s r k=>?_
    obtain ⟨a,vs,L',rfl,ha,e,rs⟩:=r
    exact ⟨a,rfl,⟨vs,SqL.of ha⟩,h _ H1 L s (ItOk.list ha e rs) fun n=>k.shr ok.dom n⟩
   | tup ds =>
    refine .inr (.inl (q O σ H τ _ ok ?_))
    rw [ht]
    refine fun v H1 L s r k=>?_
    obtain ⟨a,vs,rfl,ha,rs⟩:=r
    exact ⟨a,rfl,⟨vs,ha⟩,h _ H1 L s (ItOk.tup ha rs) fun n=>k.shr ok.dom n⟩
   | str x =>
    refine .inr (.inr (q O σ H τ _ ok ?_))
    rw [ht]
    refine fun v H1 L s r k=>?_
    exact ⟨x,r.1,h _ H1 [] s ItOk.str fun n a ha=>(nomatch ha)⟩
   | _=>exact h.elim
  | err n =>
   rw [ht] at h
   refine .inl (q O σ H τ _ ok ?_)
   rw [ht]; exact h
  | bad=>rw [ht] at h; exact h.elim
theorem wX {a:Expr}(hg:Gl X "range")(hm:X.mg "range"=none)(ha:MA X E Γ [a] u c)(hs:autoParam (starEach [a] X.env=[(false,eval a X.env)]) L2.au3._auto_1):MI X E Γ tg (.Call (.Name "range" p) [a] [] pos) (iL wC u) .fresh:=by
 obtain ⟨_,ta,p',q⟩:=ha
 refine ⟨_,Ve hg hm p' hs,fun O σ H τ Rr ok h=>q O σ H τ _ ok ?_⟩
 unfold iL at h
 cases ht:u τ with
 | ok ds =>
  rw [ht,R.ok_bind] at h
  refine fun vs H1 L s r k=>?_
  unfold wC at h
  split at h
  ·rename_i j
   obtain ⟨v,vs',L1,L2,e1,_,r1,r2⟩:=r
   obtain ⟨rfl,_⟩:=r1
   obtain ⟨rfl,_⟩:=r2
   by_cases hj:-(2 ^ 62)<=j/\j<2 ^ 62
   ·rw [if_pos hj] at h
    exact ⟨j,e1,hj.1,hj.2,h _ H1 [] s ItOk.rng fun n a ha=>(nomatch ha)⟩
   ·rw [if_neg hj] at h; exact h.elim
  ·exact h.elim
 | err n=>rw [ht] at h; exact h
 | bad=>rw [ht] at h; exact h
theorem Z5 {a b:Expr}(hg:Gl X "range")(hm:X.mg "range"=none)(ha:MA X E Γ [a,b] u c)(hs:autoParam (starEach [a,b] X.env=[(false,eval a X.env),(false,eval b X.env)]) L2.au3._auto_1)(hs2:autoParam (starEach [b] X.env=[(false,eval b X.env)]) L2.au3._auto_1):MI X E Γ tg (.Call (.Name "range" p) [a,b] [] pos) (iL Zl u) .fresh:=by
 obtain ⟨_,ta,p',q⟩:=ha
 refine ⟨_,VF hg hm p' hs hs2,fun O σ H τ Rr ok h=>q O σ H τ _ ok ?_⟩
 unfold iL at h
 cases ht:u τ with
 | ok ds =>
  rw [ht,R.ok_bind] at h
  refine fun vs H1 L s r k=>?_
  unfold Zl at h
  split at h
  ·rename_i i j
   obtain ⟨v,vs',L1,L2,e1,_,r1,v2,vs2,L3,L4,e2,_,r2,r3⟩:=r
   obtain ⟨rfl,_⟩:=r1
   obtain ⟨rfl,_⟩:=r2
   obtain ⟨rfl,_⟩:=r3
   subst e2
   by_cases hj:-(2 ^ 62)<=i/\i<2 ^ 62/\-(2 ^ 62)<=j/\j<2 ^ 62
   ·rw [if_pos hj] at h
    exact ⟨i,j,e1,hj,h _ H1 [] s ItOk.rng fun n a ha=>(nomatch ha)⟩
   ·rw [if_neg hj] at h; exact h.elim
  ·exact h.elim
 | err n=>rw [ht] at h; exact h
 | bad=>rw [ht] at h; exact h
end
def wQ (fr:List (Option Nat))(τ:Tn):Tn:=fr.map fun o=>o.bind fun i=>(τ[i]?).join
def yt (fr:List (Option Nat))(Γ:List Cl):List Cl:=fr.map fun o=>match o with
 | some i=>(match Γ[i]? with
  | some .shr=>.shr
  | some .own=>.brw
  | some .brw=>.brw
  | _=>.dead)
 | none=>.dead
def yG (k:Cl):List Cl->List Nat->List Cl
 | Γ,[]=>Γ
 | Γ,i::is=>yG k (Γ.set i k) is
def Cl.ofIt:Rc->Cl
 | .bor=>.brw
 | _=>.shr
def x8 (f:D->R (Option D)):List D->R (List D)
 | []=>.ok []
 | d::ds=>(f d).bind fun o=>(x8 f ds).bind fun ys=>.ok (o.toList++ys)
def YE {α:Type}:R α->R α
 | .err _=>.bad
 | r=>r
def ym (asg:D->Tn->R Tn)(cnd:Tn->R Bool)(elt:Tn->R D)(τ:Tn)(d:D):R (Option D) :=
 YE ((asg d τ).bind fun τ1=>(cnd τ1).bind fun k=>if k=true then (elt τ1).bind fun y=>.ok (some y) else .ok none)
def yE (fr:List (Option Nat))(it:Tn->R (List D))(g:Tgt)(cnd:Tn->R Bool)(elt:Tn->R D):Tn->R D:=fun τ=>(it τ).bind fun xs=>(x8 (ym g.asg cnd elt (wQ fr τ)) xs).bind fun ys=>if ys.length<=sizeLine then .ok (.lst ys) else .bad
def MTs (X:Cx)(E:XK)(Γ:List Cl)(ifs:List Expr)(t:Tn->R Bool):Prop :=
 ∃ te,PTs X ifs te/\∀ O σ H τ Q,EOk X.K Γ O H σ τ->postB X.K E H Q (t τ)->te σ H Q
theorem vk {X:Cx}{E:XK}{Γ:List Cl}:MTs X E Γ [] (fun _=>.ok true):=⟨z49,Ku,fun O σ H τ Q ok h=>h H (Same.refl H)⟩
theorem Zw {X:Cx}{E:XK}{Γ:List Cl}{e:Expr}{t:Tn->R Bool}(h:MT X E Γ e t):MTs X E Γ [e] t:=by
 obtain ⟨te,p,q⟩:=h
 exact ⟨te,XM p,q⟩
theorem MTs.pts {X:Cx}{E:XK}{Γ:List Cl}{e:List Expr}{t:Tn->R Bool}(h:MTs X E Γ e t):PTs X e (wpT X.K E Γ t):=by
 obtain ⟨te,p,q⟩:=h
 rintro pins s σ H Q I ⟨O,τ,ok,z⟩
 exact p pins s σ H Q I (q O σ H τ Q ok z)
theorem Same.upd_of {H H1 H2:Hp}{p:Addr}{o:HO}(h:H p=none)(s:Same H H2):Same H (upd H2 p o):=fun b u e=>by
 rw [zI (yV e h)]; exact s b u e
section
variable {K:PySem.W.Frag}{Γ:List Cl}{O:Addr->Prop}{H:Hp}{σ:St}{τ:Tn}
theorem EOk.comp {fr:List (Option Nat)}(h:EOk K Γ O H σ τ):EOk K (yt fr Γ) O H (xI fr σ) (wQ fr τ):=by
 refine ⟨h.dom,fun j c e hc=>?_⟩
 unfold yt at e
 rw [sM] at e
 cases ho:fr[j]? with
 | none=>rw [ho] at e; cases e
 | some o =>
  rw [ho] at e
  cases o with
  | none=>exact absurd (Option.some.inj e).symm hc
  | some i =>
   have e:(match Γ[i]? with | some .shr=>Cl.shr | some .own=>.brw | some .brw=>.brw | _=>.dead)=c:=Option.some.inj e
   have key:∃ k,Γ[i]?=some k/\k≠.dead/\(c=.shr->k=.shr):=by
    cases hk:Γ[i]? with
    | none=>rw [hk] at e; exact absurd e.symm hc
    | some k =>
     rw [hk] at e
     cases k with
     | own=>subst e; exact ⟨_,rfl,by simp,fun z=>by cases z⟩
     | shr=>exact ⟨_,rfl,by simp,fun _=>rfl⟩
     | brw=>subst e; exact ⟨_,rfl,by simp,fun z=>by cases z⟩
     | dead=>exact absurd e.symm hc
   obtain ⟨k,k1,k2,k3⟩:=key
   obtain ⟨v,d,L,e1,e2,r,hs⟩:=h.slot i k k1 k2
   refine ⟨v,d,L,?_,?_,r,fun z=>hs (k3 z)⟩
   ·unfold xI; rw [sM,ho]; show some ((σ[i]?).join)=_; rw [e1]; rfl
   ·unfold wQ; rw [sM,ho]; show some ((τ[i]?).join)=_; rw [e2]; rfl
theorem EOk.put {i:Nat}{k:Cl}{d:D}{v:V}{L:List Addr}(h:EOk K Γ O H σ τ)(r:Rep K H d v L)(hk:k=.shr->∀ a∈L,¬ O a)(h1:σ.length=Γ.length)(h2:τ.length=Γ.length):EOk K (Γ.set i k) O H (σ.set i (some v)) (τ.set i (some d)):=by
 refine ⟨h.dom,fun j c e hc=>?_⟩
 by_cases z:i=j
 ·subst z
  have hi:i<Γ.length:=by
   have:=(sD.mp e).1
   simpa using this
  rw [sO hi] at e
  cases e
  exact ⟨v,d,L,by rw [sO (by lia)],by rw [sO (by lia)],r,hk⟩
 ·rw [sL z] at e
  obtain ⟨v',d',L',a1,a2,a3,a4⟩:=h.slot j c e hc
  exact ⟨v',d',L',by rw [sL z]; exact a1,by rw [sL z]; exact a2,a3,a4⟩
end
theorem EOk.putAll {K:PySem.W.Frag}{O:Addr->Prop}{H:Hp}{k:Cl}{Γ:List Cl}{σ:St}{τ:Tn}{is:List Nat}{ds:List D}{vs:List V}{L:List Addr}(h:EOk K Γ O H σ τ)(r:Reps K H ds vs L)(hL:k=.shr->∀ a∈L,¬ O a)(hl:ds.length=is.length)(h1:σ.length=Γ.length)(h2:τ.length=Γ.length) :
  EOk K (yG k Γ is) O H (yU σ is vs) (yU τ is ds):=by
 induction is generalizing Γ σ τ ds vs L with
 | nil =>
  cases ds with
  | nil=>cases r.1; exact h
  | cons=>cases hl
 | cons i is ih =>
  cases ds with
  | nil=>cases hl
  | cons d ds =>
   obtain ⟨v,vs',L1,L2,e1,e2,r1,r2⟩:=r
   subst e1 e2
   exact ih (h.put r1 (fun z a ha=>hL z a (sC _ ha)) h1 h2) r2 (fun z a ha=>hL z a (tJ _ ha)) (Nat.succ.inj hl) (by rw [sT,sT]; exact h1) (by rw [sT,sT]; exact h2)
theorem jc {α:Type}:∀ (is:List Nat) (σ:List (Option α)) (vs:List α),(yU σ is vs).length=σ.length
 | [],σ,vs=>by unfold yU; rfl
 | i::is,σ,[]=>by unfold yU; rfl
 | i::is,σ,v::vs=>by unfold yU; rw [jc is,sT]
theorem kL {α:Type}{j:Nat}:∀ (is:List Nat) (σ:List (Option α)) (vs:List α),j∉is->(yU σ is vs)[j]?=σ[j]?
 | [],σ,vs,_=>by unfold yU; rfl
 | i::is,σ,[],_=>by unfold yU; rfl
 | i::is,σ,v::vs,h=>by
  unfold yU
  rw [kL is _ vs (fun z=>h (tR _ z)),sL (fun (z:i=j)=>h (z▸tQ))]
theorem z23 {K:PySem.W.Frag}{Γ:List Cl}{O:Addr->Prop}{H:Hp}{σ:St}{τ τ1:Tn}{d:D}{v:V}{L:List Addr}{g:Tgt}{k:Cl}(h:EOk K Γ O H σ τ)(r:Rep K H d v L)(hL:k=.shr->∀ a∈L,¬ O a)(h1:σ.length=Γ.length)(h2:τ.length=Γ.length)(ha:g.asg d τ=.ok τ1)
  {Q:St->Hp->Prop} (kk:∀ σ1,EOk K (yG k Γ g.slots) O H σ1 τ1->σ1.length=σ.length->(∀ j,j∉g.slots->σ1[j]?=σ[j]?)->Q σ1 H):tgG K g v σ H Q:=by
 cases g with
 | one i =>
  cases ha
  exact kk _ (h.put r hL h1 h2) (by simp) fun j hj=>sL fun z=>hj (by simp [Tgt.slots,z])
 | many is =>
  cases d with
  | tup ds =>
   unfold Tgt.asg at ha
   dsimp only at ha
   by_cases hl:ds.length=is.length
   ·rw [if_pos hl] at ha
    cases ha
    obtain ⟨a,vs,rfl,hs,rs⟩:=r
    have hv:vs.length=is.length:=rs.length.trans hl
    exact ⟨a,vs,rfl,hs,hv,kk _ (h.putAll rs hL hl h1 h2) (jc _ _ _) fun j hj=>kL is σ vs hj⟩
   ·rw [if_neg hl] at ha; cases ha
  | _=>cases ha
abbrev noX:XK:=fun _ _ _=>False
theorem Uk {α:Type}{r:R α}{a:α}(h:YE r=.ok a):r=.ok a:=by
 cases r with
 | ok b=>exact h
 | err n=>cases h
 | bad=>cases h
theorem Vn {α:Type}{r:R α}{n:Str}(h:YE r=.err n):False:=by cases r<;>cases h
theorem qG {f:D->R (Option D)}(hf:∀ d n,f d≠.err n):∀ (ds:List D) (n:Str),x8 f ds≠.err n
 | [],n,h=>by cases h
 | d::ds,n,h=>by
  unfold x8 at h
  cases h1:f d with
  | ok o =>
   rw [h1,R.ok_bind] at h
   cases h2:x8 f ds with
   | ok ys=>rw [h2] at h; cases h
   | err m=>exact qG hf ds m h2
   | bad=>rw [h2] at h; cases h
  | err m=>exact hf d m h1
  | bad=>rw [h1] at h; cases h
theorem vq {α β:Type}{r:R α}{f:α->R β}{b:β}(h:r.bind f=.ok b):∃ a,r=.ok a/\f a=.ok b:=by
 cases r with
 | ok a=>exact ⟨a,rfl,h⟩
 | err n=>cases h
 | bad=>cases h
theorem Xl {f:D->R (Option D)}{d:D}{ds ys:List D}(h:x8 f (d::ds)=.ok ys):∃ o zs,f d=.ok o/\x8 f ds=.ok zs/\ys=o.toList++zs:=by
 unfold x8 at h
 obtain ⟨o,h1,h⟩:=vq h
 obtain ⟨zs,h2,h⟩:=vq h
 cases h
 exact ⟨o,zs,h1,h2,rfl⟩
theorem EOk.live {K:PySem.W.Frag}{Γ:List Cl}{O:Addr->Prop}{H:Hp}{σ σ':St}{τ:Tn}(h:EOk K Γ O H σ τ)(e:∀ (j:Nat) (c:Cl),Γ[j]?=some c->c≠Cl.dead->σ'[j]?=σ[j]?):EOk K Γ O H σ' τ :=
 ⟨h.dom,fun i c e1 hc=>by
  obtain ⟨v,d,L,a1,a2,a3,a4⟩:=h.slot i c e1 hc
  exact ⟨v,d,L,by rw [e i c e1 hc]; exact a1,a2,a3,a4⟩⟩
section
variable {X:Cx}{E:XK}{Γ:List Cl}{pos:Pos}
theorem jX {fr:List (Option Nat)}{tg iter:Expr}{it:Tn->R (List D)}{g:Tgt}{cnd:Tn->R Bool}{te:Tn->R D}{ci c:Rc}(hi:MI X E Γ tg iter it ci)(hcl:c≠.bor)(hd:∀ j∈g.slots,(yt fr Γ)[j]?=some .dead) :
  ∃ wi,PI X tg iter wi/\∀ O σ H τ Q,EOk X.K Γ O H σ τ->post X.K E O c H Q (yE fr it g cnd te τ)->qI fr wi (tgG X.K g) (wpT X.K noX (yG (Cl.ofIt ci) (yt fr Γ) g.slots) cnd) (wpE X.K noX (yG (Cl.ofIt ci) (yt fr Γ) g.slots) te c) σ H Q:=by
 have hT0:∀ σ H Q,(∃ O τ,EOk X.K (yG (Cl.ofIt ci) (yt fr Γ) g.slots) O H σ τ/\postB X.K noX H Q (cnd τ))->wpT X.K noX (yG (Cl.ofIt ci) (yt fr Γ) g.slots) cnd σ H Q:=fun _ _ _ h=>h
 have hE0:∀ σ H Q,(∃ O τ,EOk X.K (yG (Cl.ofIt ci) (yt fr Γ) g.slots) O H σ τ/\post X.K noX O c H Q (te τ))->wpE X.K noX (yG (Cl.ofIt ci) (yt fr Γ) g.slots) te c σ H Q:=fun _ _ _ h=>h
 generalize wpT X.K noX (yG (Cl.ofIt ci) (yt fr Γ) g.slots) cnd=TC at hT0 ⊢
 generalize wpE X.K noX (yG (Cl.ofIt ci) (yt fr Γ) g.slots) te c=TE0 at hE0 ⊢
 obtain ⟨wi,p,q⟩:=hi
 refine ⟨wi,p,fun O σ H τ Q ok h=>q O σ H τ _ ok ?_⟩
 unfold yE at h
 cases hit':it τ with
 | err n=>rw [hit'] at h; exact h
 | bad=>rw [hit'] at h; exact h
 | ok ds =>
  rw [hit',R.ok_bind] at h
  refine fun J H1 L s1 hJ hO dd hD=>?_
  obtain ⟨hLd,hit⟩:=hJ
  generalize hF:ym g.asg cnd te (wQ fr τ)=F at h
  cases hcL:x8 F ds with
  | err n=>exact absurd hcL (qG (fun d n z=>by rw [<- hF] at z; exact Vn z) ds n)
  | bad=>rw [hcL] at h; exact h.elim
  | ok ys =>
   rw [hcL,R.ok_bind] at h
   by_cases hz:ys.length<=sizeLine
   ·rw [if_pos hz] at h
    have hD0:H dd=none:=s1.non hD
    have YT:(xI fr σ).length=(yt fr Γ).length:=by simp [xI,yt]
    have lenT:(wQ fr τ).length=(yt fr Γ).length:=by simp [wQ,yt]
    obtain ⟨W,hW⟩:∃ W:Nat->Nat->List V->St->Hp->Prop,∀ i m ysv τ' H2,W i m ysv τ' H2↔(m=ds.length-i/\i<=ds.length/\H2 dd=some (.lst ysv)/\(∀ b,b≠dd->H1 b≠none->H2 b=H1 b)/\τ'.length=(yt fr Γ).length/\(∀ j,j∉g.slots->τ'[j]?=(xI fr σ)[j]?) /\
     ∃ dn rs Ly,ys=dn++rs/\x8 F (ds.drop i)=.ok rs/\Reps X.K H2 dn ysv Ly/\dd∉Ly/\RcOk c O H1 Ly):=⟨_,fun _ _ _ _ _=>Iff.rfl⟩
    refine ⟨W,⟨ds.length,(hW _ _ _ _ _).mpr ⟨by simp,rO _,zG,fun b hb _=>zI hb,YT,fun _ _=>rfl,[],ys,[],rfl,by simpa using hcL,Reps.nil,by simp,RcOk.nil⟩⟩,?_⟩
    intro i m ysv τ' H2 hw0
    obtain ⟨rfl,hile,hDy,kp,hl',hj',dn,rs,Ly,eys,hrs,rdn,nD,kLy⟩:=(hW _ _ _ _ _).mp hw0
    refine ⟨hDy,?_⟩
    have sH:Same H H2:=fun b o e=>by
     have e1:=s1 b o e
     have nb:b≠dd:=yV e hD0
     rw [kp b nb (by rw [e1]; simp)]; exact e1
    have s12:∀ b o,H1 b=some o->H2 b=some o:=fun b o e=>by
     rw [kp b (yV e hD) (by rw [e]; simp)]; exact e
    have okO:EOk X.K Γ (fun a=>O a\/a=dd) H2 σ τ:=by
     refine ⟨fun a ha=>?_,fun j k e hk=>?_⟩
     ·rcases ha with ha | ha
      ·exact (ok.same sH).dom a ha
      ·rw [ha,hDy]; simp
     ·obtain ⟨v,d,L0,a1,a2,a3,a4⟩:=ok.slot j k e hk
      refine ⟨v,d,L0,a1,a2,a3.same sH,fun z a ha hm=>?_⟩
      rcases hm with hm | hm
      ·exact a4 z a ha hm
      ·exact a3.there ha (hm▸hD0)
    have okc:EOk X.K (yt fr Γ) (fun a=>O a\/a=dd) H2 τ' (wQ fr τ):=(okO.comp (fr:=fr)).live fun j k e hk=>hj' j fun hm=>by
     rw [hd j hm] at e; exact hk (Option.some.inj e).symm
    obtain ⟨go,stop⟩:=hit H2 ⟨fun a xs e=>s12 a _ e,fun a o u e=>s12 a _ e⟩ (fun a ha=>kp a (fun z=>hLd a ha (z▸hD)) (hLd a ha)) i
    by_cases hlt:i<ds.length
    ·obtain ⟨hgo,hy⟩:=go ds[i] (by simp [hlt])
     refine .inr ⟨hgo,fun x H3 y=>?_⟩
     obtain ⟨s3,L',r',sub⟩:=hy x H3 y
     rw [rB hlt] at hrs
     obtain ⟨o,zs,ho,hzs,ers⟩:=Xl hrs
     rw [<- hF] at ho
     have ho:=Uk ho
     obtain ⟨τ1,ha,ho⟩:=vq ho
     obtain ⟨k,hk,ho⟩:=vq ho
     refine z23 (k:=Cl.ofIt ci) (okc.same s3) r' (fun z a ha hm=>?_) hl' lenT ha fun σ1 ok1 hl1 hj1=>?_
     ·have hci:ci≠.bor:=fun w=>by subst w; cases z
      rcases hm with hm | hm
      ·exact hO hci a (sub a ha) hm
      ·exact hLd a (sub a ha) (hm▸hD)
     ·refine hT0 _ _ _ ⟨_,τ1,ok1,?_⟩
      rw [hk]
      refine fun H5 s5=>?_
      have s25:=s3.trans s5
      cases k with
      | true =>
       rw [if_pos rfl] at ho
       dsimp only
       rw [if_pos rfl]
       obtain ⟨yd,hyd,ho⟩:=vq ho
       cases ho
       refine hE0 _ _ _ ⟨_,τ1,ok1.same s5,?_⟩
       rw [hyd]
       refine fun yv H6 Lw s6 r6 k6=>?_
       have s26:=s25.trans s6
       have hD6:H6 dd=some (.lst ysv):=s26 dd _ hDy
       have hlen:ysv.length=dn.length:=rdn.length
       have nDw:dd∉Lw:=fun hm=>by
        cases c with
        | fresh=>have:=k6.2 dd hm; rw [s25 dd _ hDy] at this; cases this
        | shr=>exact k6 dd hm (.inr rfl)
        | bor=>exact hcl rfl
       have mu:(∃ vs,H6 dd=some (.lst vs))\/∃ kvs,H6 dd=some (.dK kvs):=.inl ⟨_,hD6⟩
       refine ⟨hD6,?_,ds.length-(i+1),by lia,(hW _ _ _ _ _).mpr ⟨rfl,hlt,zG,fun b hb hn=>?_,by rw [hl1]; exact hl',fun j hj=>(hj1 j hj).trans (hj' j hj),dn++[yd],zs,Ly++Lw,?_,hzs,?_,?_,?_⟩⟩
       ·rw [eys,ers,tN,tN] at hz
        simp only [Option.toList,List.length_singleton] at hz
        lia
       ·rw [zI hb,<- kp b hb hn]
        exact s26.at (by rw [kp b hb hn]; exact hn)
       ·rw [eys,ers,sS]; rfl
       ·have:=Reps.append ((rdn.same s26).upd (o:=.lst (ysv++[yv])) mu nD) (Reps.cons (r6.upd (o:=.lst (ysv++[yv])) mu nDw) Reps.nil)
        rw [sF] at this
        exact this
       ·intro hm
        rcases sE.mp hm with z | z
        ·exact nD z
        ·exact nDw z
       ·cases c with
        | fresh =>
         refine ⟨sI.mpr ⟨kLy.1,k6.1,fun a ha b hb z=>?_⟩,fun a ha=>?_⟩
         ·subst z
          have h2:=rdn.there ha
          have h5:=k6.2 a hb
          exact h2 (s25.non h5)
         ·rcases sE.mp ha with z | z
          ·exact kLy.2 a z
          ·have h5:=k6.2 a z
           have h2:H2 a=none:=s25.non h5
           cases e1:H1 a with
           | none=>rfl
           | some o=>rw [s12 a o e1] at h2; cases h2
        | shr =>
         intro a ha
         rcases sE.mp ha with z | z
         ·exact kLy a z
         ·exact fun w=>k6 a z (.inl w)
        | bor=>exact absurd rfl hcl
      | false =>
       rw [if_neg tX] at ho
       dsimp only
       rw [if_neg tX]
       cases ho
       refine ⟨ds.length-(i+1),by lia,(hW _ _ _ _ _).mpr ⟨rfl,hlt,s25 dd _ hDy,fun b hb hn=>?_,by rw [hl1]; exact hl',fun j hj=>(hj1 j hj).trans (hj' j hj),dn,zs,Ly,?_,hzs,rdn.same s25,nD,kLy⟩⟩
       ·rw [<- kp b hb hn]
        exact s25.at (by rw [kp b hb hn]; exact hn)
       ·rw [eys,ers]; rfl
    ·have e:i=ds.length:=by lia
     subst e
     rw [List.drop_length] at hrs
     cases hrs
     rw [sF] at eys
     subst eys
     refine .inl ⟨stop (tY _),h (.ref dd) H2 (dd::Ly) sH ⟨dd,ysv,Ly,rfl,hDy,rfl,rdn⟩ ?_⟩
     cases c with
     | fresh =>
      refine ⟨sY.mpr ⟨nD,kLy.1⟩,fun a ha=>?_⟩
      rcases sJ.mp ha with z | z
      ·rw [z]; exact hD0
      ·exact s1.non (kLy.2 a z)
     | shr =>
      intro a ha
      rcases sJ.mp ha with z | z
      ·rw [z]; exact fun w=>ok.dom dd w hD0
      ·exact kLy a z
     | bor=>exact absurd rfl hcl
   ·rw [if_neg hz] at h; exact h.elim
theorem vU {N':List Str}{fr:List (Option Nat)}{scope:Scope}{tg iter elt:Expr}{ifs:List Expr}{it:Tn->R (List D)}{g:Tgt}{cnd:Tn->R Bool}{te:Tn->R D}{ci c:Rc}(hc:X.calm=true)(S:CompScope X N' fr scope)(hi:MI X E Γ tg iter it ci)
  (hg:∀ s₃ H₃ fp pins,MG (zF X scope N' s₃ H₃ fp pins) tg g) (ht:∀ s₃ H₃ fp pins,MTs (zF X scope N' s₃ H₃ fp pins) noX (yG (Cl.ofIt ci) (yt fr Γ) g.slots) ifs cnd)
  (he:∀ s₃ H₃ fp pins,ME (zF X scope N' s₃ H₃ fp pins) noX (yG (Cl.ofIt ci) (yt fr Γ) g.slots) elt te c) (hcl:c≠.bor) (hd:∀ j∈g.slots,(yt fr Γ)[j]?=some .dead)
  (hs:autoParam (∀ x,foldedSetIterable iter X.env x=pure x) L2.au2._auto_1):ME X E Γ (.ListComp elt [⟨tg,iter,ifs,0⟩] scope pos) (yE fr it g cnd te) c:=by
 obtain ⟨wi,p,q⟩:=jX (cnd:=cnd) (te:=te) hi hcl hd
 exact ⟨_,WL hc S p (fun s₃ H₃ fp pins=>(hg s₃ H₃ fp pins).pg) (fun s₃ H₃ fp pins=>(ht s₃ H₃ fp pins).pts) (fun s₃ H₃ fp pins=>(he s₃ H₃ fp pins).pe) hs,q⟩
theorem JF {Γl:List Cl}{N':List Str}{fr:List (Option Nat)}{scope:Scope}{tg iter elt:Expr}{ifs:List Expr}{it:Tn->R (List D)}{g:Tgt}{cnd:Tn->R Bool}{te:Tn->R D}{ci:Rc}{i:Nat}{x:Str}{pos' cpos:Pos}(hc:X.calm=true)(S:CompScope X N' fr scope)(hi:MI X E Γ tg iter it ci)
  (hg:∀ s₃ H₃ fp pins,MG (zF X scope N' s₃ H₃ fp pins) tg g) (ht:∀ s₃ H₃ fp pins,MTs (zF X scope N' s₃ H₃ fp pins) noX (yG (Cl.ofIt ci) (yt fr Γ) g.slots) ifs cnd)
  (he:∀ s₃ H₃ fp pins,ME (zF X scope N' s₃ H₃ fp pins) noX (yG (Cl.ofIt ci) (yt fr Γ) g.slots) elt te .fresh) (hd:∀ j∈g.slots,(yt fr Γ)[j]?=some .dead)
  (hN:X.N.Nodup) (hix:X.N[i]?=some x) (hl:i<Γ.length) (hx:Loc X.env.scope x) (hsw:swapsWith (.ListComp elt [⟨tg,iter,ifs,0⟩] scope cpos) (some (.Name x pos')) pos.line X.env=pure true)
  (hs:autoParam (∀ x,foldedSetIterable iter X.env x=pure x) L2.au2._auto_1) (hf:autoParam (X.fn x=true\/X.env.scope.names.lookup x=some .local) L2.au0._auto_1) :
  MS X E Γl Γ (.Assign [.Name x pos'] (.ListComp elt [⟨tg,iter,ifs,0⟩] scope cpos) pos) (zl i (yE fr it g cnd te)) (Γ.set i .own):=by
 obtain ⟨wi,p,q⟩:=jX (cnd:=cnd) (te:=te) (c:=.fresh) hi (by decide) hd
 refine ⟨_,JS (g:=tgG X.K g) (tc:=wpT X.K noX (yG (Cl.ofIt ci) (yt fr Γ) g.slots) cnd) (te:=wpE X.K noX (yG (Cl.ofIt ci) (yt fr Γ) g.slots) te .fresh) hc S p (fun s₃ H₃ fp pins=>(hg s₃ H₃ fp pins).pg) (fun s₃ H₃ fp pins=>(ht s₃ H₃ fp pins).pts) (fun s₃ H₃ fp pins=>(he s₃ H₃ fp pins).pe) hN hix hx hsw hs hf,fun B σ H τ Z ok h=>?_⟩
 obtain ⟨O,eo,_⟩:=ok.eok
 refine q O σ H τ _ eo ?_
 unfold zl at h
 cases ht':yE fr it g cnd te τ with
 | ok d =>
  rw [ht',R.ok_bind] at h
  exact fun v H' L s r k=>h _ _ (SOk.into (T:=[]) (ok.aside s (fun a ha=>r.there ha) k.1 k.2) r hl)
 | err n=>rw [ht'] at h; exact fun C H' e s=>h C H' e (ok.ext.trans s)
 | bad=>rw [ht'] at h; exact h
end
def spM (K:PySem.W.Frag)(F:List D->R D)(n:Nat):Sp:=fun vs H Q E=>vs.length=n/\∃ ds L,Reps K H ds vs L/\post K E (fun _=>False) .fresh H Q (F ds)
def zw (n:Nat)(t:Tn->R Fl)(ds:List D):R D:=match t (ds.map some++List.replicate (n-ds.length) none) with
 | .ok (.rt d)=>.ok d
 | .ok (.nx _)=>.ok .non
 | .err c=>.err c
 | _=>.bad
def kj (n m:Nat):List Cl:=List.replicate m .shr++List.replicate (n-m) .dead
theorem Reps.slot {K:PySem.W.Frag}{H:Hp}{ds:List D}{vs:List V}{L:List Addr}(r:Reps K H ds vs L):∃ Ls:Nat->List Addr,∀ (i:Nat) (d:D),ds[i]?=some d->∃ v,vs[i]?=some v/\Rep K H d v (Ls i):=by
 have:∀ i:Nat,∃ L1:List Addr,∀ d,ds[i]?=some d->∃ v,vs[i]?=some v/\Rep K H d v L1:=fun i=>by
  cases h:ds[i]? with
  | none=>exact ⟨[],fun d z=>by cases z⟩
  | some d =>
   obtain ⟨v,L1,e1,r1,_⟩:=r.get h
   exact ⟨L1,fun d' z=>by cases z; exact ⟨v,e1,r1⟩⟩
 exact ⟨fun i=>Classical.choose (this i),fun i=>Classical.choose_spec (this i)⟩
theorem SOk.start {K:PySem.W.Frag}{H:Hp}{N:List Str}{ds:List D}{vs:List V}{L:List Addr}(r:Reps K H ds vs L)(hn:vs.length<=N.length):SOk K (kj N.length vs.length) H H (L2.start N vs) (ds.map some++List.replicate (N.length-ds.length) none) []:=by
 have hl:=r.length
 have lp:(kj N.length vs.length).length=N.length:=by unfold kj; rw [tN,rY,rY]; lia
 obtain ⟨Ls,hL⟩:=r.slot
 have cls:∀ i c,(kj N.length vs.length)[i]?=some c->c≠.dead->i<vs.length/\c=.shr:=fun i c e hc=>by
  unfold kj at e
  by_cases hi:i<vs.length
  ·rw [rP (by simpa using hi),pP,if_pos hi] at e
   exact ⟨hi,(Option.some.inj e).symm⟩
  ·rw [pJ (by simp; lia),pP] at e
   split at e
   ·exact absurd (Option.some.inj e).symm hc
   ·cases e
 have no:∀ i:Nat,(kj N.length vs.length)[i]?≠some Cl.own:=fun i e=>by
  have:=(cls i _ e (by simp)).2
  cases this
 refine ⟨Same.refl H,?_,?_,Ls,fun i c e hc=>?_,fun i e=>absurd e (no i),fun i j c _ e=>absurd e (no i),pC,fun a ha=>(nomatch ha),fun i c e hc a ha hm=>(nomatch hm)⟩
 ·unfold L2.start; rw [lp,tN,tP,rY]; lia
 ·rw [lp,tN,tP,rY]; lia
 ·obtain ⟨hi,_⟩:=cls i c e hc
  have hi':i<ds.length:=by lia
  obtain ⟨v,e1,r1⟩:=hL i ds[i] (by simp [hi'])
  refine ⟨v,ds[i],?_,?_,r1⟩
  ·unfold L2.start
   rw [rP (by simpa using hi),sM,e1]; rfl
  ·rw [rP (by simpa using hi'),sM]; simp [hi']
section
variable {P:Program}{w:World}{K:PySem.W.Frag}{mg:Str->Option Value}{base:Heap}{x:Str}{st:Stmt}{N ps:List Str}{k:Nat}{t:Tn->R Fl}{Γ':List Cl}
theorem DefIn.mir (Df:DefIn K mg x st ps)(S:FnScope N ps (defScope st))(hn:ps.length<=N.length)
  (hbody:∀ (f:Addr) (cdv:Value) (A:Around) (outer:List Env) (s:Shared) (H:Hp) (E:XK),Room k (A.deeper (envOfC x (defScope st) s.heap.objs.size f cdv)) ->
   MSs (xF (cxx P w) P w K mg base N x (defScope st) f cdv A outer s H E) E [] (kj N.length ps.length) (defBody st) t Γ'):Own P w K mg base x (k+1) ps (spM K (zw N.length t) ps.length):=by
 refine Df.own S (fun vs H Q E h=>h.1) fun f cdv A outer s H vs Q E hr h=>?_
 obtain ⟨hl,ds,L,r,h⟩:=h
 obtain ⟨ts,p,q⟩:=hbody f cdv A outer s H E hr
 refine ⟨ts,p,q H (start N vs) H _ _ (hl▸SOk.start r (by lia)) ?_⟩
 unfold zw at h
 cases ht:t (ds.map some++List.replicate (N.length-ds.length) none) with
 | ok f =>
  rw [ht] at h
  cases f with
  | nx τ'=>exact fun σ' H' ok'=>h .non H' [] ok'.ext ⟨rfl,rfl⟩ RcOk.nil
  | rt d=>exact fun v H' L s r n1 n2=>h v H' L s r ⟨n1,n2⟩
  | bk τ'=>exact h.elim
  | ct τ'=>exact h.elim
 | err n=>rw [ht] at h; exact fun C H' e s=>h C H' e s
 | bad=>rw [ht] at h; exact h.elim
end
section
variable {X:Cx}{E:XK}{Γ Γ' Γl:List Cl}{x:Str}{k:Nat}{ps:List Str}{F:List D->R D}{e:Expr}{es:List Expr}{u:Tn->R (List D)}{c:Rc}{p pos:Pos}{n:Nat}
theorem zt (O:Own X.prog X.w X.K X.mg X.base x k ps (spM X.K F n))(hr:Room k X.A)(hg:Gl X x)(hx:qx (cxx X.prog X.w) X E)(ha:MA X E Γ (e::es) u c)(hl:autoParam ((e::es).length=n) L2.au3._auto_1)(hdb:autoParam ((x==("__debug__":Str))=false) L2.au1._auto_1)
  (he:autoParam (starEach (e::es) X.env=(false,eval e X.env)::starEach es X.env) L2.au3._auto_1) (hpl:autoParam ((backTo pos (starEach es X.env)).any (·.1)=false) L2.au3._auto_1):ME X E Γ (.Call (.Name x p) (e::es) [] pos) (eL F u) .fresh:=by
 obtain ⟨hlen,ta,pa,q⟩:=ha
 refine ⟨_,QU O hr hg hx pa hdb he hpl,fun O' σ H τ Q ok h=>q O' σ H τ _ ok ?_⟩
 unfold eL at h
 cases hu:u τ with
 | ok ds =>
  rw [hu,R.ok_bind] at h
  refine fun vs H1 L s1 r1 _=>?_
  have hv:(vs++[]).length=n:=by rw [sF,r1.length,hlen τ ds hu]; exact hl
  refine ⟨hv,ds,L,by rw [sF]; exact r1,?_⟩
  have h1:=h.same s1
  cases hF:F ds with
  | ok d=>rw [hF] at h1; exact h1
  | err n=>rw [hF] at h1; exact h1
  | bad=>rw [hF] at h1; exact h1
 | err n=>rw [hu] at h; exact h
 | bad=>rw [hu] at h; exact h
end
def D.isS:D->Bool
 | .non=>true
 | .bl _=>true
 | .int _=>true
 | .str _=>true
 | _=>false
def eqS:D->D->Bool
 | .non,.non=>true
 | .bl a,.bl b=>a==b
 | .bl a,.int b=>(if a then 1 else 0)==b
 | .int a,.bl b=>a==(if b then 1 else 0)
 | .int a,.int b=>a==b
 | .str a,.str b=>a==b
 | _,_=>false
def y0 (f:D->D->Option Bool):List D->List D->Option Bool
 | x::xs,y::ys=>match f x y,y0 f xs ys with
  | some a,some b=>some (a&&b)
  | _,_=>none
 | _,_=>some true
theorem qk {b:Bool}(h:(none:Option Bool)=some b):False:=by cases h
def eqF:Nat->D->D->Option Bool
 | 0,x,y=>if (x.isS&&y.isS)=true then some (eqS x y) else none
 | n+1,x,y=>match x,y with
  | .lst xs,.lst ys=>if xs.length=ys.length then y0 (eqF n) xs ys else some false
  | .tup xs,.tup ys=>(y0 (eqF n) xs ys).map fun b=>b&&xs.length==ys.length
  | .frl xs,.lst ys=>if xs.length=ys.length then y0 (eqF n) xs ys else some false
  | .frl xs,.frl ys=>if xs.length=ys.length then y0 (eqF n) xs ys else some false
  | .lst _,.tup _=>some false
  | .tup _,.lst _=>some false
  | .lst _,y=>if y.isS=true then some false else none
  | .tup _,y=>if y.isS=true then some false else none
  | x,.lst _=>if x.isS=true then some false else none
  | x,.tup _=>if x.isS=true then some false else none
  | x,y=>if (x.isS&&y.isS)=true then some (eqS x y) else none
theorem XN {K:PySem.W.Frag}{H:Hp}{d:D}{v:V}{L:List Addr}{u:Value}(h:d.isS=true)(r:Rep K H d v L)(q:RelV v u) :
  (d=.non/\u=.none)\/(∃ b,d=.bl b/\u=.bool b)\/(∃ i t,d=.int i/\u=.int i t)\/∃ x t,d=.str x/\u=.str x t:=by
 cases d with
 | non=>obtain ⟨rfl,_⟩:=r; exact .inl ⟨rfl,q⟩
 | bl b=>obtain ⟨rfl,_⟩:=r; exact .inr (.inl ⟨b,rfl,q⟩)
 | int i=>obtain ⟨rfl,_⟩:=r; obtain ⟨t,e⟩:=q; exact .inr (.inr (.inl ⟨i,t,rfl,e⟩))
 | str x=>obtain ⟨rfl,_⟩:=r; obtain ⟨t,e⟩:=q; exact .inr (.inr (.inr ⟨x,t,rfl,e⟩))
 | _=>cases h
open SeqAt in
theorem Zf {A:Around}{s:Shared}{K:PySem.W.Frag}{H:Hp}{d1 d2:D}{v1 v2:V}{L1 L2:List Addr}{u1 u2:Value}(h1:d1.isS=true)(h2:d2.isS=true)(r1:Rep K H d1 v1 L1)(r2:Rep K H d2 v2 L2)(q1:RelV v1 u1)(q2:RelV v2 u2) :
  RcAt A s u1 u2 (eqS d1 d2)/\EqAt A s u1 u2 (eqS d1 d2)/\RcNeAt A s u1 u2 (!eqS d1 d2):=by
 rcases XN h1 r1 q1 with ⟨rfl,rfl⟩ | ⟨a,rfl,rfl⟩ | ⟨a,t,rfl,rfl⟩ | ⟨a,t,rfl,rfl⟩ <;>
 rcases XN h2 r2 q2 with ⟨rfl,rfl⟩ | ⟨b,rfl,rfl⟩ | ⟨b,t',rfl,rfl⟩ | ⟨b,t',rfl,rfl⟩
 ·exact ⟨RcAt.none_none,EqAt.same _,RcNeAt.none_none⟩
 ·exact ⟨RcAt.none_bool b,EqAt.none_bool b,RcNeAt.none_bool b⟩
 ·exact ⟨RcAt.none_int b _,EqAt.none_int b _,RcNeAt.none_int b _⟩
 ·exact ⟨RcAt.none_str b _,EqAt.none_str b _,RcNeAt.none_str b _⟩
 ·exact ⟨RcAt.bool_none a,EqAt.bool_none a,RcNeAt.bool_none a⟩
 ·exact ⟨RcAt.bool_bool a b,EqAt.bool_bool a b,RcNeAt.bool_bool a b⟩
 ·exact ⟨RcAt.bool_int a b _,EqAt.bool_int a b _,RcNeAt.bool_int a b _⟩
 ·exact ⟨RcAt.bool_str a b _,EqAt.bool_str a b _,RcNeAt.bool_str a b _⟩
 ·exact ⟨RcAt.int_none a _,EqAt.int_none a _,RcNeAt.int_none a _⟩
 ·exact ⟨RcAt.int_bool a _ b,EqAt.int_bool a _ b,RcNeAt.int_bool a _ b⟩
 ·exact ⟨RcAt.int_int a _ b _,EqAt.int_int a _ b _,RcNeAt.int_int a _ b _⟩
 ·exact ⟨RcAt.int_str a _ b _,EqAt.int_str a _ b _,RcNeAt.int_str a _ b _⟩
 ·exact ⟨RcAt.str_none a _,EqAt.str_none a _,RcNeAt.str_none a _⟩
 ·exact ⟨RcAt.str_bool a _ b,EqAt.str_bool a _ b,RcNeAt.str_bool a _ b⟩
 ·exact ⟨RcAt.str_int a _ b _,EqAt.str_int a _ b _,RcNeAt.str_int a _ b _⟩
 ·exact ⟨RcAt.str_str a _ b _,EqAt.str_str a _ b _,RcNeAt.str_str a _ b _⟩
open SeqAt in
theorem Yj {A:Around}{s:Shared}{K:PySem.W.Frag}{H:Hp}{d:D}{v:V}{L:List Addr}{u:Value}{l:Addr}{items:Array Value}(hd:d.isS=true)(r:Rep K H d v L)(q:RelV v u)(hl:s.heap.IsList l items)(hu:A.units<cLine) :
  (RcAt A s (.ref l) u false/\EqAt A s (.ref l) u false/\RcNeAt A s (.ref l) u true)/\RcAt A s u (.ref l) false/\EqAt A s u (.ref l) false/\RcNeAt A s u (.ref l) true:=by
 rcases XN hd r q with ⟨rfl,rfl⟩ | ⟨b,rfl,rfl⟩ | ⟨b,t',rfl,rfl⟩ | ⟨b,t',rfl,rfl⟩
 ·exact ⟨⟨RcAt.list_none hl hu,EqAt.list_none hl hu,RcNeAt.list_none hl hu⟩,RcAt.none_list hl hu,EqAt.none_list hl hu,RcNeAt.none_list hl hu⟩
 ·exact ⟨⟨RcAt.list_bool b hl hu,EqAt.list_bool b hl hu,RcNeAt.list_bool b hl hu⟩,RcAt.bool_list b hl hu,EqAt.bool_list b hl hu,RcNeAt.bool_list b hl hu⟩
 ·exact ⟨⟨RcAt.list_int b _ hl hu,EqAt.list_int b _ hl hu,RcNeAt.list_int b _ hl hu⟩,RcAt.int_list b _ hl hu,EqAt.int_list b _ hl hu,RcNeAt.int_list b _ hl hu⟩
 ·exact ⟨⟨RcAt.list_str b _ hl hu,EqAt.list_str b _ hl hu,RcNeAt.list_str b _ hl hu⟩,RcAt.str_list b _ hl hu,EqAt.str_list b _ hl hu,RcNeAt.str_list b _ hl hu⟩
open SeqAt in
theorem Yn {A:Around}{s:Shared}{K:PySem.W.Frag}{H:Hp}{d:D}{v:V}{L:List Addr}{u:Value}{l:Addr}{items:Array Value}(hd:d.isS=true)(r:Rep K H d v L)(q:RelV v u)(hl:s.heap.IsTuple l items)(hu:A.units<cLine) :
  (RcAt A s (.ref l) u false/\EqAt A s (.ref l) u false/\RcNeAt A s (.ref l) u true)/\RcAt A s u (.ref l) false/\EqAt A s u (.ref l) false/\RcNeAt A s u (.ref l) true:=by
 rcases XN hd r q with ⟨rfl,rfl⟩ | ⟨b,rfl,rfl⟩ | ⟨b,t',rfl,rfl⟩ | ⟨b,t',rfl,rfl⟩
 ·exact ⟨⟨RcAt.tuple_none hl hu,EqAt.tuple_none hl hu,RcNeAt.tuple_none hl hu⟩,RcAt.none_tuple hl hu,EqAt.none_tuple hl hu,RcNeAt.none_tuple hl hu⟩
 ·exact ⟨⟨RcAt.tuple_bool b hl hu,EqAt.tuple_bool b hl hu,RcNeAt.tuple_bool b hl hu⟩,RcAt.bool_tuple b hl hu,EqAt.bool_tuple b hl hu,RcNeAt.bool_tuple b hl hu⟩
 ·exact ⟨⟨RcAt.tuple_int b _ hl hu,EqAt.tuple_int b _ hl hu,RcNeAt.tuple_int b _ hl hu⟩,RcAt.int_tuple b _ hl hu,EqAt.int_tuple b _ hl hu,RcNeAt.int_tuple b _ hl hu⟩
 ·exact ⟨⟨RcAt.tuple_str b _ hl hu,EqAt.tuple_str b _ hl hu,RcNeAt.tuple_str b _ hl hu⟩,RcAt.str_tuple b _ hl hu,EqAt.str_tuple b _ hl hu,RcNeAt.str_tuple b _ hl hu⟩
def wI (f:D->D->Option Bool)(xs ys:List D)(j:Nat):Bool:=match xs[j]?,ys[j]? with
 | some x,some y=>(f x y).getD false
 | _,_=>true
theorem vQ {f:D->D->Option Bool}:∀ {xs ys:List D} {b:Bool},y0 f xs ys=some b->b=(List.range (min xs.length ys.length)).all (wI f xs ys)/\∀ j x y,xs[j]?=some x->ys[j]?=some y->f x y=some (wI f xs ys j)
 | [],ys,b,h=>by
  unfold y0 at h
  cases h
  exact ⟨by simp,fun j x y e=>by simp at e⟩
 | x::xs,[],b,h=>by
  unfold y0 at h
  cases h
  exact ⟨by simp,fun j x y e e'=>by simp at e'⟩
 | x::xs,y::ys,b,h=>by
  unfold y0 at h
  cases h1:f x y with
  | none=>rw [h1] at h; cases h
  | some a =>
   cases h2:y0 f xs ys with
   | none=>rw [h1,h2] at h; cases h
   | some b' =>
    rw [h1,h2] at h
    cases h
    obtain ⟨e1,e2⟩:=vQ h2
    have z0:wI f (x::xs) (y::ys) 0=a:=by simp [wI,h1]
    have zs:∀ j,wI f (x::xs) (y::ys) (j+1)=wI f xs ys j:=fun j=>by simp [wI]
    refine ⟨?_,fun j x' y' ex ey=>?_⟩
    ·have hm:min (x::xs).length (y::ys).length=min xs.length ys.length+1:=by simp [Nat.succ_min_succ]
     rw [hm,List.range_succ_eq_map,List.all_cons,List.all_map,z0,e1]
     congr 1
    ·cases j with
     | zero=>simp at ex ey; subst ex ey; rw [z0]; exact h1
     | succ j=>rw [zs]; exact e2 j x' y' (by simpa using ex) (by simpa using ey)
section
variable {X:Cx}{pins:List (Addr×Obj)}{σ:St}{H:Hp}{s:Shared}
def D.ofV:V->D
 | .bl b=>.bl b
 | .int i=>.int i
 | .str x=>.str x
 | _=>.non
theorem Rep.ofV {K:PySem.W.Frag}{H:Hp}{d:D}{v:V}{L:List Addr}(h:∀ a,v≠.ref a)(r:Rep K H d v L):d=D.ofV v:=by
 cases d with
 | non=>rw [r.1]; rfl
 | bl=>rw [r.1]; rfl
 | int=>rw [r.1]; rfl
 | str=>rw [r.1]; rfl
 | tup=>obtain ⟨a,_,e,_⟩:=r; exact absurd e (h a)
 | lst=>obtain ⟨a,_,_,e,_⟩:=r; exact absurd e (h a)
 | dic=>obtain ⟨a,_,_,e,_⟩:=r; exact absurd e (h a)
 | frl=>obtain ⟨a,_,e,_⟩:=r; exact absurd e (h a)
theorem Rep.oneS {K:PySem.W.Frag}{H:Hp}{d d':D}{u v:V}{L L':List Addr}(e:v=u)(hs:∀ a,u≠.ref a)(r:Rep K H d v L)(r':Rep K H d' v L'):d=d':=by
 subst e
 exact (r.ofV hs).trans (r'.ofV hs).symm
theorem Rep.noS {K:PySem.W.Frag}{H:Hp}{d:D}{a:Addr}{L:List Addr}(r:Rep K H d (.ref a) L)(h:d.isS=true):False:=by
 cases d with
 | non=>cases r.1
 | bl=>cases r.1
 | int=>cases r.1
 | str=>cases r.1
 | _=>cases h
theorem XW {a:Addr}{vs:List V}{o:HO}(I:Inv X pins σ H s)(h:SqT X.K H a vs)(h':H a=some o)(n1:∀ xs,o≠.tup xs)(n2:∀ p xs,o≠.frz p (.tup xs)):False:=by
 rcases h with (z | ⟨p,z⟩) | ⟨o',its,n,hk,hc,_⟩
 ·rw [z] at h'; exact n1 _ (Option.some.inj h').symm
 ·rw [z] at h'; exact n2 _ _ (Option.some.inj h').symm
 ·have:=(I.bs a o' (I.mod.kin a o' hk)).2
  rw [this] at h'; cases h'
theorem WC {a:Addr}{vs:List V}{o:HO}(I:Inv X pins σ H s)(h:SqF X.K H a vs)(h':H a=some o)(n2:∀ p xs,o≠.frz p (.lst xs)):False:=by
 rcases h with ⟨p,z⟩ | ⟨o',its,n,hk,hc,_⟩
 ·rw [z] at h'; exact n2 _ _ (Option.some.inj h').symm
 ·have:=(I.bs a o' (I.mod.kin a o' hk)).2
  rw [this] at h'; cases h'
theorem z0f {a:Addr}{vs ws:List V}(I:Inv X pins σ H s)(h':SqT X.K H a ws)(h:SqF X.K H a vs):False:=by
 obtain ⟨its,_,⟨o1,n1,e1,c1,_⟩,_⟩:=I.list h.sq
 obtain ⟨its2,_,⟨o2,e2,c2,_⟩,_⟩:=I.tuple h'
 rw [e1] at e2
 cases e2
 rw [c1] at c2
 exact absurd c2 (by simp)
theorem z0D {a:Addr}{xs:List V}{kvs:List (Key×V)}{H:Hp}(h:H a=some (.lst xs))(h':H a=some (.dK kvs)):False:=by
 rw [h] at h'; cases h'
mutual
theorem Rep.one (I:Inv X pins σ H s):∀ (d d':D) (v:V) (L L':List Addr),Rep X.K H d v L->Rep X.K H d' v L'->d=d'
 | .non,_,_,_,_,r,r'=>Rep.oneS r.1 (fun _ z=>V.noConfusion z) r r'
 | .bl _,_,_,_,_,r,r'=>Rep.oneS r.1 (fun _ z=>V.noConfusion z) r r'
 | .int _,_,_,_,_,r,r'=>Rep.oneS r.1 (fun _ z=>V.noConfusion z) r r'
 | .str _,_,_,_,_,r,r'=>Rep.oneS r.1 (fun _ z=>V.noConfusion z) r r'
 | .tup ds,d',_,L,L',hq5,r=>by
  obtain ⟨a,vs,e,h,rs⟩:=hq5
  subst e
  cases d' with
  | non=>exact (Rep.noS r rfl).elim
  | bl _=>exact (Rep.noS r rfl).elim
  | int _=>exact (Rep.noS r rfl).elim
  | str _=>exact (Rep.noS r rfl).elim
  | tup ds' =>
   obtain ⟨a',vs',e,h',rs'⟩:=r
   cases e
   cases I.tuple_inj h h'
   rw [Reps.one I ds ds' vs L L' rs rs']
  | lst _ =>
   obtain ⟨_,_,_,e,h',_⟩:=r
   cases e
   exact (XW I h h' (fun _ z=>HO.noConfusion z) fun _ _ z=>HO.noConfusion z).elim
  | dic _ _ =>
   obtain ⟨_,_,_,e,h',_⟩:=r
   cases e
   exact (XW I h h' (fun _ z=>HO.noConfusion z) fun _ _ z=>HO.noConfusion z).elim
  | frl _ =>
   obtain ⟨_,_,e,h',_⟩:=r
   cases e
   exact (z0f I h h').elim
 | .lst ds,d',_,L,L',hq5,r=>by
  obtain ⟨a,vs,L1,e,h,_,rs⟩:=hq5
  subst e
  cases d' with
  | non=>exact (Rep.noS r rfl).elim
  | bl _=>exact (Rep.noS r rfl).elim
  | int _=>exact (Rep.noS r rfl).elim
  | str _=>exact (Rep.noS r rfl).elim
  | tup ds' =>
   obtain ⟨a',vs',e,h',rs'⟩:=r
   cases e
   exact (XW I h' h (fun _ z=>HO.noConfusion z) fun _ _ z=>HO.noConfusion z).elim
  | lst ds' =>
   obtain ⟨_,_,_,e,h',_,rs'⟩:=r
   cases e
   rw [h] at h'
   cases h'
   rw [Reps.one I ds ds' vs _ _ rs rs']
  | dic _ _ =>
   obtain ⟨_,_,_,e,h',_⟩:=r
   cases e
   exact (z0D h h').elim
  | frl _ =>
   obtain ⟨_,_,e,h',_⟩:=r
   cases e
   exact (WC I h' h fun _ _ z=>HO.noConfusion z).elim
 | .dic ks ds,d',_,L,L',hq5,r=>by
  obtain ⟨a,kvs,L1,e,h,_,hk,_,rs⟩:=hq5
  subst e
  cases d' with
  | non=>exact (Rep.noS r rfl).elim
  | bl _=>exact (Rep.noS r rfl).elim
  | int _=>exact (Rep.noS r rfl).elim
  | str _=>exact (Rep.noS r rfl).elim
  | tup ds' =>
   obtain ⟨a',vs',e,h',rs'⟩:=r
   cases e
   exact (XW I h' h (fun _ z=>HO.noConfusion z) fun _ _ z=>HO.noConfusion z).elim
  | lst ds' =>
   obtain ⟨_,_,_,e,h',_,rs'⟩:=r
   cases e
   exact (z0D h' h).elim
  | dic ks' ds' =>
   obtain ⟨_,_,_,e,h',_,hk',_,rs'⟩:=r
   cases e
   rw [h] at h'
   cases h'
   rw [<- hk,<- hk',Reps.one I ds ds' _ _ _ rs rs']
  | frl _ =>
   obtain ⟨_,_,e,h',_⟩:=r
   cases e
   exact (WC I h' h fun _ _ z=>HO.noConfusion z).elim
 | .frl ds,d',_,L,L',hq5,r=>by
  obtain ⟨a,vs,e,h,_,_,rs⟩:=hq5
  subst e
  cases d' with
  | non=>exact (Rep.noS r rfl).elim
  | bl _=>exact (Rep.noS r rfl).elim
  | int _=>exact (Rep.noS r rfl).elim
  | str _=>exact (Rep.noS r rfl).elim
  | tup ds' =>
   obtain ⟨a',vs',e,h',rs'⟩:=r
   cases e
   exact (z0f I h' h).elim
  | lst ds' =>
   obtain ⟨_,_,_,e,h',_,rs'⟩:=r
   cases e
   exact (WC I h h' fun _ _ z=>HO.noConfusion z).elim
  | dic ks' ds' =>
   obtain ⟨_,_,_,e,h',_,hk',_,rs'⟩:=r
   cases e
   exact (WC I h h' fun _ _ z=>HO.noConfusion z).elim
  | frl ds' =>
   obtain ⟨_,_,e,h',_,_,rs'⟩:=r
   cases e
   have:=I.list_inj h.sq h'.sq
   subst this
   rw [Reps.one I ds ds' vs _ _ rs rs']
theorem Reps.one (I:Inv X pins σ H s):∀ (ds ds':List D) (vs:List V) (L L':List Addr),Reps X.K H ds vs L->Reps X.K H ds' vs L'->ds=ds'
 | [],ds',_,_,_,hq5,r=>by
  obtain ⟨e,_⟩:=hq5
  subst e
  cases ds' with
  | nil=>rfl
  | cons _ _=>obtain ⟨_,_,_,_,e,_⟩:=r; cases e
 | d::ds,ds',_,_,_,hq5,r=>by
  obtain ⟨v,vs',L1,L2,e1,_,h1,h2⟩:=hq5
  subst e1
  cases ds' with
  | nil=>obtain ⟨e,_⟩:=r; cases e
  | cons d' ds' =>
   obtain ⟨v',vs2,L3,L4,e,_,r1,r2⟩:=r
   cases e
   rw [Rep.one I d d' v _ _ h1 r1,Reps.one I ds ds' vs' _ _ h2 r2]
end
end
theorem YL:∀ (d:D),d.isS=true->eqS d d=true
 | .non,_=>rfl
 | .bl b,_=>beq_self_eq_true b
 | .int b,_=>beq_self_eq_true b
 | .str b,_=>beq_self_eq_true b
 | .tup _,h=>nomatch h
 | .lst _,h=>nomatch h
 | .dic _ _,h=>nomatch h
 | .frl _,h=>nomatch h
theorem U3:∀ (n:Nat) (d:D) (b:Bool),eqF n d d=some b->b=true:=by
 intro n
 induction n with
 | zero =>
  intro d b h
  replace h:(if (d.isS&&d.isS)=true then some (eqS d d) else none)=some b:=h
  split at h
  ·rename_i hs
   simp only [Bool.and_self] at hs
   rw [YL d hs] at h
   exact (Option.some.inj h).symm
  ·cases h
 | succ n ih =>
  have zip:∀ (xs:List D) (b:Bool),y0 (eqF n) xs xs=some b->b=true:=by
   intro xs
   induction xs with
   | nil=>intro b h; unfold y0 at h; exact (Option.some.inj h).symm
   | cons x xs ihx =>
    intro b h
    unfold y0 at h
    cases h1:eqF n x x with
    | none=>rw [h1] at h; cases h
    | some a =>
     cases h2:y0 (eqF n) xs xs with
     | none=>rw [h1,h2] at h; cases h
     | some b' =>
      rw [h1,h2] at h
      cases h
      rw [ih x a h1,ihx b' h2]; rfl
  intro d b h
  cases d with
  | lst xs =>
   have h:(if xs.length=xs.length then y0 (eqF n) xs xs else some false)=some b:=h
   rw [if_pos rfl] at h
   exact zip xs b h
  | tup xs =>
   have h:(y0 (eqF n) xs xs).map (fun b=>b&&xs.length==xs.length)=some b:=h
   cases h1:y0 (eqF n) xs xs with
   | none=>rw [h1] at h; cases h
   | some b'=>rw [h1] at h; rw [zip xs b' h1] at h; simp at h; exact h.symm▸rfl
  | non=>have h:some true=some b:=h; exact (Option.some.inj h).symm
  | bl x=>have h:some (x==x)=some b:=h; exact (Option.some.inj h).symm.trans (beq_self_eq_true x)
  | int x=>have h:some (x==x)=some b:=h; exact (Option.some.inj h).symm.trans (beq_self_eq_true x)
  | str x=>have h:some (x==x)=some b:=h; exact (Option.some.inj h).symm.trans (beq_self_eq_true x)
  | dic _ _=>cases h
  | frl xs =>
   have h:(if xs.length=xs.length then y0 (eqF n) xs xs else some false)=some b:=h
   rw [if_pos rfl] at h
   exact zip xs b h
open SeqAt in
theorem jA {A:Around}{s:Shared}{a a':Addr}{b:Bool}(h:RcAt A s (.ref a) (.ref a') b)(hs:a=a'->b=true):EqAt A s (.ref a) (.ref a') b:=by
 by_cases z:a=a'
 ·subst z
  rw [hs rfl]
  exact EqAt.same _
 ·exact EqAt.of_refs z h
open SeqAt in
theorem jV {X:Cx}{pins:List (Addr×Obj)}{σ:St}{H:Hp}{s:Shared}(I:Inv X pins σ H s){n:Nat}{A:Around}(hu0:A.units<cLine)
  (ih:∀ (d1 d2:D) (v1 v2:V) (L1 L2:List Addr) (u1 u2:Value) (b:Bool),eqF n d1 d2=some b->Rep X.K H d1 v1 L1->Rep X.K H d2 v2 L2->RelV v1 u1->RelV v2 u2->EqAt A.in1 s u1 u2 b)
  {a a2:Addr} {vs vs2:List V} {xs ys:List D} {L L2:List Addr} {b:Bool} (ha:SqL X.K H a vs) (rs:Reps X.K H xs vs L) (ha2:SqL X.K H a2 vs2) (rs2:Reps X.K H ys vs2 L2)
  (h:(if xs.length=ys.length then y0 (eqF n) xs ys else some false)=some b) (same:a=a2->b=true):RcAt A s (.ref a) (.ref a2) b/\EqAt A s (.ref a) (.ref a2) b/\RcNeAt A s (.ref a) (.ref a2) (!b):=by
 obtain ⟨its,rv,pl,_⟩:=I.list ha
 obtain ⟨its2,rv2,pl2,_⟩:=I.list ha2
 have l1:its.length=xs.length:=by rw [<- rv.length,rs.length]
 have l2:its2.length=ys.length:=by rw [<- rv2.length,rs2.length]
 by_cases hl:xs.length=ys.length
 ·rw [if_pos hl] at h
  obtain ⟨e1,e2⟩:=vQ h
  have he:∀ j (h1:j<its.toArray.size) (h2:j<its2.toArray.size),EqAt A.in1 s its.toArray[j] its2.toArray[j] (wI (eqF n) xs ys j):=fun j h1 h2=>by
   have h1':j<xs.length:=by simpa [l1] using h1
   have h2':j<ys.length:=by simpa [l2] using h2
   obtain ⟨w1,L3,g1,g2,_⟩:=rs.get (i:=j) (d:=xs[j]) (by simp [h1'])
   obtain ⟨w2,L4,g3,g4,_⟩:=rs2.get (i:=j) (d:=ys[j]) (by simp [h2'])
   obtain ⟨z1,k1,k2⟩:=rv.get g1
   obtain ⟨z2,k3,k4⟩:=rv2.get g3
   have m1:its.toArray[j]=z1:=by
    have:=(sD.mp k1).2
    simpa using this
   have m2:its2.toArray[j]=z2:=by
    have:=(sD.mp k3).2
    simpa using this
   rw [m1,m2]
   exact ih _ _ w1 w2 L3 L4 z1 z2 _ (e2 j _ _ (by simp [h1']) (by simp [h2'])) g2 g4 k2 k4
  have hsz:its.toArray.size=its2.toArray.size:=by simp [l1,l2,hl]
  have eb:b=(List.range its.toArray.size).all (wI (eqF n) xs ys):=by
   rw [e1]
   congr 2
   simp [l1,hl]
  have rc:=RcAt.lists pl.isList pl2.isList hsz hu0 he
  have rn:=RcNeAt.lists pl.isList pl2.isList hsz hu0 he
  rw [<- eb] at rc rn
  exact ⟨rc,jA rc same,rn⟩
 ·rw [if_neg hl] at h
  cases h
  have hsz:(its.toArray.size != its2.toArray.size)=true:=by simp [l1,l2,hl]
  have rc:=RcAt.lists_lengths pl.isList pl2.isList hsz hu0
  exact ⟨rc,jA rc same,RcNeAt.lists_lengths pl.isList pl2.isList hsz hu0⟩
open SeqAt in
theorem Qp {X:Cx}{pins:List (Addr×Obj)}{σ:St}{H:Hp}{s:Shared}(I:Inv X pins σ H s):∀ (n:Nat) (A:Around) (d1 d2:D) (v1 v2:V) (L1 L2:List Addr) (u1 u2:Value) (b:Bool),A.units+n<cLine->eqF n d1 d2=some b ->
  Rep X.K H d1 v1 L1->Rep X.K H d2 v2 L2->RelV v1 u1->RelV v2 u2->RcAt A s u1 u2 b/\EqAt A s u1 u2 b/\RcNeAt A s u1 u2 (!b):=by
 intro n
 induction n with
 | zero =>
  intro A d1 d2 v1 v2 L1 L2 u1 u2 b hu h r1 r2 q1 q2
  have h:(if (d1.isS&&d2.isS)=true then some (eqS d1 d2) else none)=some b:=h
  split at h
  ·rename_i hs
   rw [rA] at hs
   cases h
   exact Zf hs.1 hs.2 r1 r2 q1 q2
  ·cases h
 | succ n ih =>
  intro A d1 d2 v1 v2 L1 L2 u1 u2 b hu h r1 r2 q1 q2
  have hu0:A.units<cLine:=by lia
  have hu1:A.in1.units+n<cLine:=by show A.units+1+n<cLine; lia
  have same:∀ a,v1=.ref a->v2=.ref a->b=true:=fun a e1 e2=>by
   subst e1 e2
   have:=Rep.one I d1 d2 _ _ _ r1 r2
   subst this
   exact U3 (n+1) d1 b h
  by_cases s1:d1.isS=true
  ·by_cases s2:d2.isS=true
   ·have e:b=eqS d1 d2:=by
     cases d1<;>first | exact absurd s1 tX | (cases d2<;>first | exact absurd s2 tX | exact (Option.some.inj h).symm)
    subst e
    exact Zf s1 s2 r1 r2 q1 q2
   ·cases d2 with
    | lst ys =>
     have e:b=false:=by cases d1<;>first | exact absurd s1 tX | exact (Option.some.inj h).symm
     subst e
     obtain ⟨a,vs,L',e2,ha,_,rs⟩:=r2
     have q2:u2=Value.ref a:=by rw [e2] at q2; exact q2
     rw [q2]
     obtain ⟨its,rv,pl,_⟩:=I.list (SqL.of ha)
     exact (Yj s1 r1 q1 pl.isList hu0).2
    | tup ys =>
     have e:b=false:=by cases d1<;>first | exact absurd s1 tX | exact (Option.some.inj h).symm
     subst e
     obtain ⟨a,vs,e2,ha,rs⟩:=r2
     have q2:u2=Value.ref a:=by rw [e2] at q2; exact q2
     rw [q2]
     obtain ⟨its,rv,pl,_⟩:=I.tuple ha
     exact (Yn s1 r1 q1 pl hu0).2
    | dic _ _=>cases d1<;>first | exact absurd s1 tX | exact (qk (b:=b) h).elim
    | frl _=>cases d1<;>first | exact absurd s1 tX | exact (qk (b:=b) h).elim
    | _=>exact absurd rfl s2
  ·cases d1 with
   | lst xs =>
    obtain ⟨a,vs,L',e1,ha,_,rs⟩:=r1
    have q1:u1=Value.ref a:=by rw [e1] at q1; exact q1
    rw [q1]
    obtain ⟨its,rv,pl,_⟩:=I.list (SqL.of ha)
    cases d2 with
    | lst ys =>
     obtain ⟨a2,vs2,L2',e2,ha2,_,rs2⟩:=r2
     have q2:u2=Value.ref a2:=by rw [e2] at q2; exact q2
     rw [q2]
     exact jV I hu0 (fun d1 d2 v1 v2 L1 L2 u1 u2 b e r1 r2 q1 q2=>(ih A.in1 d1 d2 v1 v2 L1 L2 u1 u2 b hu1 e r1 r2 q1 q2).2.1) (SqL.of ha) rs (SqL.of ha2) rs2 h fun z=>same a e1 (by rw [z]; exact e2)
    | tup ys =>
     obtain ⟨a2,vs2,e2,ha2,rs2⟩:=r2
     have q2:u2=Value.ref a2:=by rw [e2] at q2; exact q2
     rw [q2]
     obtain ⟨its2,rv2,pl2,_⟩:=I.tuple ha2
     cases (Option.some.inj (show some false=some b from h))
     exact ⟨RcAt.list_tuple pl.isList pl2 hu0,EqAt.list_tuple pl.isList pl2 hu0,RcNeAt.list_tuple pl.isList pl2 hu0⟩
    | dic _ _=>exact (qk (b:=b) h).elim
    | frl _=>exact (qk (b:=b) h).elim
    | non=>cases (Option.some.inj (show some false=some b from h)); exact (Yj (d:=.non) rfl r2 q2 pl.isList hu0).1
    | bl x=>cases (Option.some.inj (show some false=some b from h)); exact (Yj (d:=.bl x) rfl r2 q2 pl.isList hu0).1
    | int x=>cases (Option.some.inj (show some false=some b from h)); exact (Yj (d:=.int x) rfl r2 q2 pl.isList hu0).1
    | str x=>cases (Option.some.inj (show some false=some b from h)); exact (Yj (d:=.str x) rfl r2 q2 pl.isList hu0).1
   | tup xs =>
    obtain ⟨a,vs,e1,ha,rs⟩:=r1
    have q1:u1=Value.ref a:=by rw [e1] at q1; exact q1
    rw [q1]
    obtain ⟨its,rv,pl,_⟩:=I.tuple ha
    cases d2 with
    | tup ys =>
     obtain ⟨a2,vs2,e2,ha2,rs2⟩:=r2
     have q2:u2=Value.ref a2:=by rw [e2] at q2; exact q2
     rw [q2]
     obtain ⟨its2,rv2,pl2,_⟩:=I.tuple ha2
     have h:(y0 (eqF n) xs ys).map (fun b=>b&&xs.length==ys.length)=some b:=h
     have l1:its.length=xs.length:=by rw [<- rv.length,rs.length]
     have l2:its2.length=ys.length:=by rw [<- rv2.length,rs2.length]
     cases hz:y0 (eqF n) xs ys with
     | none=>rw [hz] at h; cases h
     | some b' =>
      rw [hz] at h
      have h:(b'&&xs.length==ys.length)=b:=Option.some.inj h
      have e1':=e1
      have e2':=e2
      obtain ⟨e1,e2⟩:=vQ hz
      have he:∀ j (h1:j<its.toArray.size) (h2:j<its2.toArray.size),EqAt A.in1 s its.toArray[j] its2.toArray[j] (wI (eqF n) xs ys j):=fun j h1 h2=>by
       have h1':j<xs.length:=by simpa [l1] using h1
       have h2':j<ys.length:=by simpa [l2] using h2
       obtain ⟨w1,L3,g1,g2,_⟩:=rs.get (i:=j) (d:=xs[j]) (by simp [h1'])
       obtain ⟨w2,L4,g3,g4,_⟩:=rs2.get (i:=j) (d:=ys[j]) (by simp [h2'])
       obtain ⟨z1,k1,k2⟩:=rv.get g1
       obtain ⟨z2,k3,k4⟩:=rv2.get g3
       have m1:its.toArray[j]=z1:=by
        have:=(sD.mp k1).2
        simpa using this
       have m2:its2.toArray[j]=z2:=by
        have:=(sD.mp k3).2
        simpa using this
       rw [m1,m2]
       exact (ih A.in1 _ _ w1 w2 L3 L4 z1 z2 _ hu1 (e2 j _ _ (by simp [h1']) (by simp [h2'])) g2 g4 k2 k4).2.1
      have eb:b=((List.range (min its.toArray.size its2.toArray.size)).all (wI (eqF n) xs ys)&&its.toArray.size==its2.toArray.size):=by
       rw [<- h,e1]
       simp [l1,l2]
      have rc:=RcAt.tuples pl pl2 hu0 he
      have rn:=RcNeAt.tuples pl pl2 hu0 he
      rw [<- eb] at rc rn
      exact ⟨rc,jA rc fun z=>same a e1' (by rw [z]; exact e2'),rn⟩
    | lst ys =>
     obtain ⟨a2,vs2,L2',e2,ha2,_,rs2⟩:=r2
     have q2:u2=Value.ref a2:=by rw [e2] at q2; exact q2
     rw [q2]
     obtain ⟨its2,rv2,pl2,_⟩:=I.list (SqL.of ha2)
     cases (Option.some.inj (show some false=some b from h))
     exact ⟨RcAt.tuple_list pl pl2.isList hu0,EqAt.tuple_list pl pl2.isList hu0,RcNeAt.tuple_list pl pl2.isList hu0⟩
    | dic _ _=>exact (qk (b:=b) h).elim
    | frl _=>exact (qk (b:=b) h).elim
    | non=>cases (Option.some.inj (show some false=some b from h)); exact (Yn (d:=.non) rfl r2 q2 pl hu0).1
    | bl x=>cases (Option.some.inj (show some false=some b from h)); exact (Yn (d:=.bl x) rfl r2 q2 pl hu0).1
    | int x=>cases (Option.some.inj (show some false=some b from h)); exact (Yn (d:=.int x) rfl r2 q2 pl hu0).1
    | str x=>cases (Option.some.inj (show some false=some b from h)); exact (Yn (d:=.str x) rfl r2 q2 pl hu0).1
   | dic _ _=>cases d2<;>exact (qk (b:=b) h).elim
   | frl xs =>
    cases d2 with
    | lst ys =>
     obtain ⟨a,vs,e1,ha,_,_,rs⟩:=r1
     have q1:u1=Value.ref a:=by rw [e1] at q1; exact q1
     rw [q1]
     obtain ⟨a2,vs2,L2',e2,ha2,_,rs2⟩:=r2
     have q2:u2=Value.ref a2:=by rw [e2] at q2; exact q2
     rw [q2]
     exact jV I hu0 (fun d1 d2 v1 v2 L1 L2 u1 u2 b e r1 r2 q1 q2=>(ih A.in1 d1 d2 v1 v2 L1 L2 u1 u2 b hu1 e r1 r2 q1 q2).2.1) ha.sq rs (SqL.of ha2) rs2 h fun z=>same a e1 (by rw [z]; exact e2)
    | tup ys=>exact (qk (b:=b) h).elim
    | dic _ _=>exact (qk (b:=b) h).elim
    | frl ys =>
     obtain ⟨a,vs,e1,ha,_,_,rs⟩:=r1
     have q1:u1=Value.ref a:=by rw [e1] at q1; exact q1
     rw [q1]
     obtain ⟨a2,vs2,e2,ha2,_,_,rs2⟩:=r2
     have q2:u2=Value.ref a2:=by rw [e2] at q2; exact q2
     rw [q2]
     exact jV I hu0 (fun d1 d2 v1 v2 L1 L2 u1 u2 b e r1 r2 q1 q2=>(ih A.in1 d1 d2 v1 v2 L1 L2 u1 u2 b hu1 e r1 r2 q1 q2).2.1) ha.sq rs ha2.sq rs2 h fun z=>same a e1 (by rw [z]; exact e2)
    | non=>exact (qk (b:=b) h).elim
    | bl x=>exact (qk (b:=b) h).elim
    | int x=>exact (qk (b:=b) h).elim
    | str x=>exact (qk (b:=b) h).elim
   | _=>exact absurd rfl s1
theorem yL {K:PySem.W.Frag}{H:Hp}{ds:List D}{vs:List V}{L:List Addr}(r:Reps K H ds vs L)(h:D.imms ds=true):Reps K H ds vs []:=by
 have:=Reps.imm ds vs L r h
 subst this
 exact r
theorem qK:∀ (xs ys:List D),D.imms (xs++ys)=(D.imms xs&&D.imms ys)
 | [],ys=>by simp [D.imms]
 | x::xs,ys=>by simp [D.imms,qK xs ys,Bool.and_assoc]
theorem um {K:PySem.W.Frag}{H:Hp}{ds:List D}{vs:List V}{p:Addr}{Q:VK}(r:Reps K H ds vs [])(hp:H p=none)(q:∀ v H' L,Same H H'->Rep K H' (.lst ds) v L->L.Nodup->(∀ a∈L,H a=none)->Q v H'):Q (.ref p) (upd H p (.lst vs)) :=
 q _ _ [p] (Same.new hp) ⟨p,vs,[],rfl,zG,rfl,r.same (Same.new hp)⟩ (by simp) (fun a ha=>by rw [sN.mp ha]; exact hp)
def zy:D->D->R D
 | .int i,.int j=>.ok (.int (i+j))
 | .str x,.str y=>if x.length+y.length<=sizeLine then .ok (.str (x++y)) else .bad
 | .lst xs,.lst ys=>if D.imms xs=true/\D.imms ys=true/\xs.length+ys.length<=sizeLine then .ok (.lst (xs++ys)) else .bad
 | .tup xs,.tup ys=>if D.imms xs=true/\D.imms ys=true/\xs≠[]/\xs.length+ys.length<=sizeLine then .ok (.tup (xs++ys)) else .bad
 | _,_=>.bad
def z01 (K:PySem.W.Frag):R2:=fun x y H Q=>(∃ i j,x=.int i/\y=.int j/\Q (.int (i+j)) H)\/(∃ i j,x=.str i/\y=.str j/\i.length+j.length<=sizeLine/\Q (.str (i++j)) H)\/z4s x y H Q\/z0z K x y H Q
theorem zu {X:Cx}:OpR X (binaryOp .Add) (z01 X.K):=(OpR.or z2b (OpR.or XF (OpR.or z17 JQ)))
theorem zN {K:PySem.W.Frag}:OpB K (z01 K) zy:=by
 rintro H x y dx dy Lx Ly Q rx ry ⟨d,hg,q⟩
 unfold zy at hg
 split at hg
 ·cases hg
  exact .inl ⟨_,_,rx.1,ry.1,q _ H [] (Same.refl H) ⟨rfl,rfl⟩ (by simp) (fun a ha=>nomatch ha)⟩
 ·split at hg
  ·rename_i hz
   cases hg
   exact .inr (.inl ⟨_,_,rx.1,ry.1,hz,q _ H [] (Same.refl H) ⟨rfl,rfl⟩ (by simp) (fun a ha=>nomatch ha)⟩)
  ·cases hg
 ·rename_i xs ys
  split at hg
  ·rename_i hz
   cases hg
   obtain ⟨a,vs,L1,rfl,ha,_,rs⟩:=rx
   obtain ⟨b,ws,L2,rfl,hb,_,qs⟩:=ry
   refine .inr (.inr (.inl ⟨a,b,vs,ws,rfl,rfl,ha,hb,by rw [rs.length,qs.length]; exact hz.2.2,fun p hp=>um (ds:=xs++ys) ?_ hp q⟩))
   exact Reps.append (yL rs hz.1) (yL qs hz.2.1)
  ·cases hg
 ·rename_i xs ys
  split at hg
  ·rename_i hz
   cases hg
   obtain ⟨a,vs,rfl,ha,rs⟩:=rx
   obtain ⟨b,ws,rfl,hb,qs⟩:=ry
   have hne:vs≠[]:=fun z=>hz.2.2.1 (by have:=rs.length; rw [z] at this; exact pQ.mp this.symm)
   have rr:=Reps.append (yL rs hz.1) (yL qs hz.2.1)
   refine .inr (.inr (.inr ⟨a,b,vs,ws,rfl,rfl,ha,hb,hne,by rw [rs.length,qs.length]; exact hz.2.2.2,fun z=>?_,fun _ p hp=>?_⟩))
   ·subst z
    rw [sF] at rr
    exact q _ H [] (Same.refl H) ⟨a,vs,rfl,ha,rr⟩ (by simp) (fun a ha=>nomatch ha)
   ·exact q _ _ [] (Same.new hp) ⟨p,vs++ws,rfl,SqT.of zG,rr.same (Same.new hp)⟩ (by simp) (fun a ha=>nomatch ha)
  ·cases hg
 ·cases hg
theorem zO:xl zy:=fun x y n h=>by
 unfold zy at h
 split at h
 ·cases h
 ·split at h<;>cases h
 ·split at h<;>cases h
 ·split at h<;>cases h
 ·cases h
def intD (C:Int->Int->Bool)(g:Int->Int->D):D->D->R D
 | .int i,.int j=>if C i j=true then .ok (g i j) else .bad
 | _,_=>.bad
theorem zB {C:Int->Int->Bool}{g:Int->Int->D}:xl (intD C g):=fun x y n h=>by
 unfold intD at h
 split at h
 ·split at h<;>cases h
 ·cases h
def z1v:D->V
 | .int i=>.int i
 | .bl b=>.bl b
 | .str x=>.str x
 | _=>.non
theorem Yl {K:PySem.W.Frag}{H:Hp}:∀ {d:D},d.isS=true->Rep K H d (z1v d) []
 | .non,_=>⟨rfl,rfl⟩
 | .bl _,_=>⟨rfl,rfl⟩
 | .int _,_=>⟨rfl,rfl⟩
 | .str _,_=>⟨rfl,rfl⟩
 | .tup _,h=>nomatch h
 | .lst _,h=>nomatch h
 | .dic _ _,h=>nomatch h
 | .frl _,h=>nomatch h
theorem z09 {K:PySem.W.Frag}{C:Int->Int->Bool}{g:Int->Int->D}{P:Int->Int->Prop}{gv:Int->Int->V}(hP:∀ i j,C i j=true->P i j)(hs:∀ i j,(g i j).isS=true)(hv:∀ i j,z1v (g i j)=gv i j):OpB K (rI P gv) (intD C g):=by
 rintro H x y dx dy Lx Ly Q rx ry ⟨d,hg,q⟩
 unfold intD at hg
 split at hg
 ·split at hg
  ·rename_i i j hz
   cases hg
   refine ⟨i,j,rx.1,ry.1,hP i j hz,?_⟩
   rw [<- hv]
   exact q _ H [] (Same.refl H) (Yl (hs i j)) (by simp) (fun a ha=>nomatch ha)
  ·cases hg
 ·cases hg
theorem ZI {K:PySem.W.Frag}{g:Int->Int->D}{gv:Int->Int->V}(hs:∀ i j,(g i j).isS=true)(hv:∀ i j,z1v (g i j)=gv i j):OpB K (rI0 gv) (intD (fun _ _=>true) g):=by
 rintro H x y dx dy Lx Ly Q rx ry ⟨d,hg,q⟩
 unfold intD at hg
 split at hg
 ·rw [if_pos rfl] at hg
  rename_i i j
  cases hg
  refine ⟨i,j,rx.1,ry.1,?_⟩
  rw [<- hv]
  exact q _ H [] (Same.refl H) (Yl (hs i j)) (by simp) (fun a ha=>nomatch ha)
 ·cases hg
abbrev uJ:D->D->R D:=intD (fun _ _=>true) fun i j=>.int (i-j)
abbrev zC:D->D->R D:=intD (fun _ j=>decide (0<j)&&decide (j<1073741824)) fun i j=>.int (i/j)
abbrev zA:D->D->R D:=intD (fun _ j=>decide (0<j)) fun i j=>.int (i%j)
abbrev ltD:D->D->R D:=intD (fun _ _=>true) fun i j=>.bl (decide (i<j))
abbrev leD:D->D->R D:=intD (fun _ _=>true) fun i j=>.bl (decide (i<=j))
abbrev geD:D->D->R D:=intD (fun _ _=>true) fun i j=>.bl (decide (j<=i))
theorem jT {K:PySem.W.Frag}:OpB K (rI0 fun i j=>.int (i-j)) uJ:=ZI (fun _ _=>rfl) fun _ _=>rfl
theorem yF {K:PySem.W.Frag}:OpB K (rI z3G fun i j=>.int (i/j)) zC:=z09 (fun i j h=>by simp only [rA,decide_eq_true_eq] at h; exact h) (fun _ _=>rfl) fun _ _=>rfl
theorem yh {K:PySem.W.Frag}:OpB K (rI (fun _ j=>0<j) fun i j=>.int (i%j)) zA:=z09 (fun i j h=>by simpa using h) (fun _ _=>rfl) fun _ _=>rfl
theorem WU {K:PySem.W.Frag}:OpB K (rI0 fun i j=>.bl (decide (i<j))) ltD:=ZI (fun _ _=>rfl) fun _ _=>rfl
theorem z3R {K:PySem.W.Frag}:OpB K (rI0 fun i j=>.bl (decide (i<=j))) leD:=ZI (fun _ _=>rfl) fun _ _=>rfl
theorem z4C {K:PySem.W.Frag}:OpB K (rI0 fun i j=>.bl (decide (j<=i))) geD:=ZI (fun _ _=>rfl) fun _ _=>rfl
def wD:D->D->R D
 | .int i,.int j=>if ((decide (-(2 ^ 64)<i)&&decide (i<2 ^ 64))||(decide (-(2 ^ 64)<j)&&decide (j<2 ^ 64)))=true then .ok (.int (i*j)) else .bad
 | .lst xs,.int k=>if D.imms xs=true/\-(2 ^ 63)<=k/\k<2 ^ 63/\xs.length*k.toNat<=sizeLine then .ok (.lst (List.replicate k.toNat xs).flatten) else .bad
 | _,_=>.bad
theorem uu:xl wD:=fun x y n h=>by
 unfold wD at h
 split at h
 ·split at h<;>cases h
 ·split at h<;>cases h
 ·cases h
theorem wg {X:Cx}:OpR X (binaryOp .Mult) (fun x y H Q=>rI CMul (fun i j=>.int (i*j)) x y H Q\/z1F x y H Q):=OpR.or z1Z z1U
theorem Reps.rep {K:PySem.W.Frag}{H:Hp}{ds:List D}{vs:List V}(r:Reps K H ds vs []):∀ k:Nat,Reps K H (List.replicate k ds).flatten (List.replicate k vs).flatten []
 | 0=>by simpa using Reps.nil
 | k+1=>by
  rw [tS,tS,rL,rL]
  exact Reps.append r (Reps.rep r k)
theorem ux {K:PySem.W.Frag}:OpB K (fun x y H Q=>rI CMul (fun i j=>.int (i*j)) x y H Q\/z1F x y H Q) wD:=by
 rintro H x y dx dy Lx Ly Q rx ry ⟨d,hg,q⟩
 unfold wD at hg
 split at hg
 ·split at hg
  ·rename_i i j hz
   cases hg
   refine .inl ⟨i,j,rx.1,ry.1,?_,q _ H [] (Same.refl H) ⟨rfl,rfl⟩ (by simp) (fun a ha=>nomatch ha)⟩
   simpa [CMul] using hz
  ·cases hg
 ·split at hg
  ·rename_i xs k hz
   cases hg
   obtain ⟨a,vs,L1,rfl,ha,_,rs⟩:=rx
   exact .inr ⟨a,k,vs,rfl,ry.1,ha,hz.2.1,hz.2.2.1,by rw [rs.length]; exact hz.2.2.2,fun p hp=>um (Reps.rep (yL rs hz.1) _) hp q⟩
  ·cases hg
 ·cases hg
def Qn (K:PySem.W.Frag)(neg:Bool):R2:=fun x y H Q=>∃ dx dy Lx Ly b,Rep K H dx x Lx/\Rep K H dy y Ly/\eqF 12 dx dy=some b/\Q (.bl (if neg=true then !b else b)) H
theorem z1J {X:Cx}(hu:X.A.units+12<cLine):OpR X (compareOp .Eq) (Qn X.K false):=by
 rintro pins s σ H x y v u Q I rx ry ⟨dx,dy,Lx,Ly,b,r1,r2,he,q⟩
 exact (Qp I 12 X.A dx dy x y Lx Ly v u b hu he r1 r2 rx ry).1 X.prog X.w X.xe _ ⟨.bl b,H,I,rfl,q⟩
theorem z2j {X:Cx}(hu:X.A.units+12<cLine):OpR X (compareOp .NotEq) (Qn X.K true):=by
 rintro pins s σ H x y v u Q I rx ry ⟨dx,dy,Lx,Ly,b,r1,r2,he,q⟩
 exact (Qp I 12 X.A dx dy x y Lx Ly v u b hu he r1 r2 rx ry).2.2 X.prog X.w X.xe _ ⟨.bl (!b),H,I,rfl,q⟩
def zT:List Key->List D->Key->Option D
 | k::ks,d::ds,j=>if k=j then some d else zT ks ds j
 | _,_,_=>none
def hitsD (js:List Key)(ys:List D):List Key->List D->Option Bool
 | k::ks,x::xs=>match zT js ys k with
  | none=>some false
  | some y=>if (x.isS&&y.isS)=true then (hitsD js ys ks xs).map (eqS x y&&·) else none
 | _,_=>some true
theorem vS {K:PySem.W.Frag}{H:Hp}:∀ {kvs:List (Key×V)} {ds:List D} {L:List Addr} {k:Key} {d:D},Reps K H ds (kvs.map (·.2)) L->zT (kvs.map (·.1)) ds k=some d->∃ v L1,vG kvs k=some v/\Rep K H d v L1/\List.Sublist L1 L
 | [],ds,_,k,d,r,h=>by cases ds<;>cases h
 | p::kvs,[],_,k,d,r,h=>by obtain ⟨e,_⟩:=r; cases e
 | p::kvs,d0::ds,_,k,d,hq5,h=>by
  obtain ⟨v,vs',L1,L2,e1,e2,r1,r2⟩:=hq5
  subst e2
  rw [tF] at e1
  cases e1
  rw [tF] at h
  unfold zT at h
  by_cases hk:p.1=k
  ·rw [if_pos hk] at h
   cases h
   exact ⟨p.2,L1,vJ hk,r1,pO _ _⟩
  ·rw [if_neg hk] at h
   obtain ⟨v,L',a,b,c⟩:=vS r2 h
   exact ⟨v,L',by rw [wV hk]; exact a,b,c.trans (rQ _ _)⟩
theorem qp {K:PySem.W.Frag}{H:Hp}:∀ {kvs:List (Key×V)} {ds:List D} {L:List Addr} {k:Key},Reps K H ds (kvs.map (·.2)) L->zT (kvs.map (·.1)) ds k=none->vG kvs k=none
 | [],ds,_,k,r,h=>rfl
 | p::kvs,[],_,k,r,h=>by obtain ⟨e,_⟩:=r; cases e
 | p::kvs,d0::ds,_,k,hq4,h=>by
  obtain ⟨v,vs',L1,L2,e1,e2,r1,r2⟩:=hq4
  subst e2
  rw [tF] at e1
  cases e1
  rw [tF] at h
  unfold zT at h
  by_cases hk:p.1=k
  ·rw [if_pos hk] at h; cases h
  ·rw [if_neg hk] at h
   rw [wV hk]
   exact qp r2 h
theorem ZM {K:PySem.W.Frag}{H:Hp}{A:Around}{s:Shared}{kvb:List (Key×V)}{vb:List (Key×Value)}{ys:List D}{Lb:List Addr}(rb:KV kvb vb)(qb:Reps K H ys (kvb.map (·.2)) Lb) :
  ∀ {kva:List (Key×V)} {va:List (Key×Value)} {xs:List D} {La:List Addr} {b:Bool},KV kva va->Reps K H xs (kva.map (·.2)) La->hitsD (kvb.map (·.1)) ys (kva.map (·.1)) xs=some b->PySem.W.KeqHits A s vb va b:=by
 intro kva va xs La b ra
 induction ra generalizing xs La b with
 | nil =>
  intro r h
  cases xs with
  | nil=>cases h; exact .nil
  | cons _ _=>obtain ⟨_,_,_,_,e,_⟩:=r; cases e
 | @cons p q l1 l2 h1 _ ih =>
  intro r h
  cases xs with
  | nil=>obtain ⟨e,_⟩:=r; cases e
  | cons x xs =>
   obtain ⟨v,vs',L1,L2,e1,e2,r1,r2⟩:=r
   rw [tF] at e1
   cases e1
   rw [tF] at h
   unfold hitsD at h
   have ek:q.1=p.1:=h1.1.symm
   have hv:=rb.val p.1
   cases hl:zT (kvb.map (·.1)) ys p.1 with
   | none =>
    rw [hl] at h
    cases h
    rw [qp qb hl] at hv
    have:valueAt vb q.1=none:=by
     rw [ek]
     cases hq:valueAt vb p.1 with
     | none=>rfl
     | some y=>rw [hq] at hv; exact hv.elim
    exact PySem.W.KeqHits.miss (k:=q.1) (v:=q.2) this
   | some y =>
    rw [hl] at h
    dsimp only at h
    split at h
    ·rename_i hs
     rw [rA] at hs
     cases hr:hitsD (kvb.map (·.1)) ys (l1.map (·.1)) xs with
     | none=>rw [hr] at h; cases h
     | some b' =>
      rw [hr] at h
      have h:(eqS x y&&b')=b:=Option.some.inj h
      obtain ⟨w,Lw,g1,g2,_⟩:=vS qb hl
      rw [g1] at hv
      obtain ⟨yv,hy,ry⟩:=RelO.some_of (v:=w) (o:=valueAt vb p.1) hv
      rw [<- h]
      exact PySem.W.KeqHits.hit (k:=q.1) (v:=q.2) (by rw [ek]; exact hy) (Zf (A:=A) (s:=s) hs.1 hs.2 r1 g2 h1.2 ry).2.1 (ih r2 hr)
    ·cases h
def Yz (K:PySem.W.Frag)(neg:Bool):R2:=fun x y H Q=>∃ a b kva kvb xs ys La Lb r,x=.ref a/\y=.ref b/\Rd H a (.dK kva)/\Rd H b (.dK kvb)/\Reps K H xs (kva.map (·.2)) La/\Reps K H ys (kvb.map (·.2)) Lb /\
 (kva.length=kvb.length->hitsD (kvb.map (·.1)) ys (kva.map (·.1)) xs=some r)/\Q (.bl (if neg=true then !(kva.length==kvb.length&&r) else (kva.length==kvb.length&&r))) H
theorem K8 {X:Cx}(hu:X.A.units<cLine):OpR X (compareOp .Eq) (Yz X.K false):=by
 rintro pins s σ H x y v u Q I rx ry ⟨a,b,kva,kvb,xs,ys,La,Lb,r,e1,e2,ha,hb,qa,qb,hh,q⟩
 subst e1 e2
 obtain rfl:v=Value.ref a:=rx
 obtain rfl:u=Value.ref b:=ry
 obtain ⟨_,da,va,ra,oa⟩:=vC I.hok ha
 obtain ⟨_,db,vb,rb,ob⟩:=vC I.hok hb
 have l1:va.length=kva.length:=ra.length.symm
 have l2:vb.length=kvb.length:=rb.length.symm
 refine PySem.W.keq_eq (r:=r) da db oa ob hu (fun e=>ZM rb qb ra qa (hh (by lia))) ?_
 rw [l1,l2]
 exact ⟨.bl _,H,I,rfl,q⟩
theorem Ky {X:Cx}(hu:X.A.units<cLine):OpR X (compareOp .NotEq) (Yz X.K true):=by
 rintro pins s σ H x y v u Q I rx ry ⟨a,b,kva,kvb,xs,ys,La,Lb,r,e1,e2,ha,hb,qa,qb,hh,q⟩
 subst e1 e2
 obtain rfl:v=Value.ref a:=rx
 obtain rfl:u=Value.ref b:=ry
 obtain ⟨_,da,va,ra,oa⟩:=vC I.hok ha
 obtain ⟨_,db,vb,rb,ob⟩:=vC I.hok hb
 have l1:va.length=kva.length:=ra.length.symm
 have l2:vb.length=kvb.length:=rb.length.symm
 refine PySem.W.keq_ne (r:=r) da db oa ob hu (fun e=>ZM rb qb ra qa (hh (by lia))) ?_
 rw [l1,l2]
 exact ⟨.bl _,H,I,rfl,q⟩
def wB (ks:List Key)(xs:List D)(js:List Key)(ys:List D):Option Bool:=if ks.length=js.length then hitsD js ys ks xs else some false
def eqR (neg:Bool):D->D->R D
 | .dic ks xs,.dic js ys=>match wB ks xs js ys with
  | some b=>.ok (.bl (if neg=true then !b else b))
  | none=>.bad
 | x,y=>match eqF 12 x y with
  | some b=>.ok (.bl (if neg=true then !b else b))
  | none=>.bad
theorem vj {neg:Bool}:xl (eqR neg):=fun x y n h=>by
 unfold eqR at h
 split at h
 ·split at h<;>cases h
 ·split at h<;>cases h
theorem wR {K:PySem.W.Frag}{neg:Bool}:OpB K (fun x y H Q=>Qn K neg x y H Q\/Yz K neg x y H Q) (eqR neg):=by
 rintro H x y dx dy Lx Ly Q rx ry ⟨d,hg,q⟩
 unfold eqR at hg
 split at hg
 ·rename_i ks xs js ys
  obtain ⟨a,kva,L1,rfl,ha,_,hk,_,rs⟩:=rx
  obtain ⟨b,kvb,L2,rfl,hb,_,hj,_,qs⟩:=ry
  have l1:ks.length=kva.length:=by rw [<- hk,tP]
  have l2:js.length=kvb.length:=by rw [<- hj,tP]
  unfold wB at hg
  by_cases hl:ks.length=js.length
  ·rw [if_pos hl] at hg
   cases hr:hitsD js ys ks xs with
   | none=>rw [hr] at hg; cases hg
   | some r =>
    rw [hr] at hg
    cases hg
    refine .inr ⟨a,b,kva,kvb,xs,ys,_,_,r,rfl,rfl,.inl ha,.inl hb,rs,qs,fun _=>by rw [hk,hj]; exact hr,?_⟩
    have e:(kva.length==kvb.length&&r)=r:=by
     have:(kva.length==kvb.length)=true:=by simp; lia
     rw [this,rD]
    rw [e]
    exact q _ H [] (Same.refl H) ⟨rfl,rfl⟩ (by simp) (fun a ha=>nomatch ha)
  ·rw [if_neg hl] at hg
   cases hg
   refine .inr ⟨a,b,kva,kvb,xs,ys,_,_,false,rfl,rfl,.inl ha,.inl hb,rs,qs,fun z=>absurd z (by lia),?_⟩
   rw [pT]
   exact q _ H [] (Same.refl H) ⟨rfl,rfl⟩ (by simp) (fun a ha=>nomatch ha)
 ·split at hg
  ·rename_i b hb
   cases hg
   exact .inl ⟨dx,dy,Lx,Ly,b,rx,ry,hb,q _ H [] (Same.refl H) ⟨rfl,rfl⟩ (by simp) (fun a ha=>nomatch ha)⟩
  ·cases hg
theorem yD {X:Cx}(hu:X.A.units+12<cLine):OpR X (compareOp .Eq) (fun x y H Q=>Qn X.K false x y H Q\/Yz X.K false x y H Q):=OpR.or (z1J hu) (K8 (by lia))
theorem wU {X:Cx}(hu:X.A.units+12<cLine):OpR X (compareOp .NotEq) (fun x y H Q=>Qn X.K true x y H Q\/Yz X.K true x y H Q):=OpR.or (z2j hu) (Ky (by lia))
def Xp:D->Bool
 | .non=>true
 | _=>false
def isN (neg:Bool):D->D->R D
 | x,.non=>.ok (.bl (if neg=true then !Xp x else Xp x))
 | _,_=>.bad
theorem UY {neg:Bool}:xl (isN neg):=fun x y n h=>by
 unfold isN at h
 split at h<;>cases h
theorem W7 {K:PySem.W.Frag}{H:Hp}{d:D}{v:V}{L:List Addr}(r:Rep K H d v L):decide (v=V.non)=Xp d:=by
 cases d with
 | non=>obtain ⟨rfl,_⟩:=r; rfl
 | bl b=>obtain ⟨rfl,_⟩:=r; rfl
 | int b=>obtain ⟨rfl,_⟩:=r; rfl
 | str b=>obtain ⟨rfl,_⟩:=r; rfl
 | tup _=>obtain ⟨_,_,rfl,_⟩:=r; rfl
 | lst _=>obtain ⟨_,_,_,rfl,_⟩:=r; rfl
 | dic _ _=>obtain ⟨_,_,_,rfl,_⟩:=r; rfl
 | frl _=>obtain ⟨_,_,rfl,_⟩:=r; rfl
theorem z37 {K:PySem.W.Frag}:OpB K (fun x y H Q=>y=.non/\Q (.bl (decide (x=.non))) H) (isN false):=by
 rintro H x y dx dy Lx Ly Q rx ry ⟨d,hg,q⟩
 unfold isN at hg
 split at hg
 ·cases hg
  refine ⟨ry.1,?_⟩
  rw [W7 rx]
  exact q _ H [] (Same.refl H) ⟨rfl,rfl⟩ (by simp) (fun a ha=>nomatch ha)
 ·cases hg
theorem US {K:PySem.W.Frag}:OpB K (fun x y H Q=>y=.non/\Q (.bl (!decide (x=.non))) H) (isN true):=by
 rintro H x y dx dy Lx Ly Q rx ry ⟨d,hg,q⟩
 unfold isN at hg
 split at hg
 ·cases hg
  refine ⟨ry.1,?_⟩
  rw [W7 rx]
  exact q _ H [] (Same.refl H) ⟨rfl,rfl⟩ (by simp) (fun a ha=>nomatch ha)
 ·cases hg
def vw:D->Option Key
 | .int i=>some (.inl i)
 | .str x=>some (.inr x)
 | .non=>some .non
 | _=>none
def ixD:D->D->R D
 | .lst ds,.int i=>match atI ds i with
  | some d=>.ok d
  | none=>.bad
 | .tup ds,.int i=>match atI ds i with
  | some d=>.ok d
  | none=>.bad
 | .frl ds,.int i=>match atI ds i with
  | some d=>.ok d
  | none=>.bad
 | .str x,.int i=>if x.length<=sizeLine then (match atI x.cps.toList i with
  | some c=>.ok (.str ⟨#[c]⟩)
  | none=>.bad) else .bad
 | .dic ks ds,k=>match vw k with
  | some k=>(match zT ks ds k with
   | some d=>.ok d
   | none=>.bad)
  | none=>.bad
 | _,_=>.bad
theorem z4M:xl ixD:=fun x y n h=>by
 unfold ixD at h
 split at h
 ·split at h<;>cases h
 ·split at h<;>cases h
 ·split at h<;>cases h
 ·split at h
  ·split at h<;>cases h
  ·cases h
 ·split at h
  ·split at h<;>cases h
  ·cases h
 ·cases h
theorem vP {K:PySem.W.Frag}{H:Hp}{d:D}{v:V}{L:List Addr}{k:Key}(h:vw d=some k)(r:Rep K H d v L):v=kV k:=by
 cases d with
 | non=>cases h; exact r.1
 | int i=>cases h; exact r.1
 | str x=>cases h; exact r.1
 | _=>cases h
theorem Reps.atI {K:PySem.W.Frag}{H:Hp}{ds:List D}{vs:List V}{L:List Addr}{i:Int}{d:D}(r:Reps K H ds vs L)(h:L2.atI ds i=some d):∃ v L1,L2.atI vs i=some v/\Rep K H d v L1/\List.Sublist L1 L:=by
 unfold L2.atI at h ⊢
 rw [r.length]
 cases e:ixN ds.length i with
 | none=>rw [e] at h; cases h
 | some j =>
  rw [e] at h
  obtain ⟨v,L1,a,b,c⟩:=r.get h
  exact ⟨v,L1,a,b,c⟩
section
variable {X:Cx}{E:XK}{Γ:List Cl}{e a b:Expr}{es:List Expr}{t ta tb:Tn->R D}{u:Tn->R (List D)}{c ca cb:Rc}{pos p p2:Pos}
theorem RcOk.sub {O:Addr->Prop}{H:Hp}{L L':List Addr}(h:RcOk c O H L)(s:List.Sublist L' L):RcOk c O H L':=by
 cases c with
 | fresh=>exact ⟨h.1.sublist s,fun a ha=>h.2 a (s.subset ha)⟩
 | shr=>exact fun a ha=>h a (s.subset ha)
 | bor=>trivial
theorem post.bind2 {K:PySem.W.Frag}{O:Addr->Prop}{H H1:Hp}{Q Q':VK}{r:R D}{f:D->R D}(h:post K E O c H Q (r.bind f))(s:Same H H1)(hf:∀ d,r=.ok d->post K E O c H Q (f d)->∀ v H' L,Same H1 H'->Rep K H' d v L->RcOk ca O H1 L->Q' v H'):post K E O ca H1 Q' r:=by
 cases r with
 | ok d=>exact hf d rfl h
 | err n=>exact fun C H' e s'=>h C H' e (s.trans s')
 | bad=>exact h
theorem Vq {K:PySem.W.Frag}{H:Hp}{dx dy d:D}{x y:V}{Lx Ly:List Addr}{Q:VK}(hn:∀ ks ds,dx≠.dic ks ds)(h:ixD dx dy=.ok d)(rx:Rep K H dx x Lx)(ry:Rep K H dy y Ly)(q:∀ v L1,Rep K H d v L1->List.Sublist L1 Lx->Q v H):rIx K x y H Q:=by
 unfold ixD at h
 split at h
 ·split at h
  ·rename_i hd
   cases h
   obtain ⟨a,vs,L',rfl,ha,e,rs⟩:=rx
   subst e
   obtain ⟨v,L1,g1,g2,g3⟩:=rs.atI hd
   exact .inl ⟨a,vs,_,v,rfl,ry.1,SqL.of ha,g1,q v L1 g2 (g3.trans (List.sublist_cons_self _ _))⟩
  ·cases h
 ·split at h
  ·rename_i hd
   cases h
   obtain ⟨a,vs,rfl,ha,rs⟩:=rx
   obtain ⟨v,L1,g1,g2,g3⟩:=rs.atI hd
   exact .inr (.inl ⟨a,vs,_,v,rfl,ry.1,ha,g1,q v L1 g2 g3⟩)
  ·cases h
 ·split at h
  ·rename_i hd
   cases h
   obtain ⟨a,vs,rfl,ha,e,_,rs⟩:=rx
   subst e
   obtain ⟨v,L1,g1,g2,g3⟩:=rs.atI hd
   exact .inl ⟨a,vs,_,v,rfl,ry.1,ha.sq,g1,q v L1 g2 g3⟩
  ·cases h
 ·split at h
  ·rename_i hz
   split at h
   ·rename_i hd
    cases h
    exact .inr (.inr ⟨_,_,_,rx.1,ry.1,hz,hd,q _ [] ⟨rfl,rfl⟩ (pN _)⟩)
   ·cases h
  ·cases h
 ·rename_i ks ds
  exact absurd rfl (hn _ _)
 ·cases h
theorem zQ (hu:X.A.units+1<cLine)(ha:ME X E Γ a ta ca)(hb:ME X E Γ b tb cb)(hs:autoParam (WD b) L2.au6._auto_1):ME X E Γ (.Subscript a b pos) (zd ixD ta tb) ca:=by
 obtain ⟨te,p,q⟩:=ha
 obtain ⟨te',p',q'⟩:=hb
 refine ⟨fun σ H Q=>tOp (rIx X.K) te te' σ H Q\/XS te te' σ H Q,fun pins s σ H Q I z=>?_,fun O σ H τ Q ok h=>?_⟩
 ·rcases z with z | z
  ·exact z3N z2n p p' hs pins s σ H Q I z
  ·exact Wu hu p p' hs pins s σ H Q I z
 ·unfold zd at h
  by_cases hd:∃ ks ds,ta τ=.ok (.dic ks ds)
  ·obtain ⟨ks,ds,hd⟩:=hd
   refine .inr (q O σ H τ _ ok (post.bind h fun dx hx h x H1 Lx s1 rx kx=>?_))
   rw [hd] at hx
   cases hx
   refine q' O σ H1 τ _ (ok.same s1) (post.bind2 h s1 fun dy _ h y H2 Ly s2 ry _=>?_)
   have h:post X.K E O ca H Q (match vw dy with
    | some k=>(match zT ks ds k with
     | some d=>.ok d
     | none=>.bad)
    | none=>.bad):=h
   cases hk:vw dy with
   | none=>rw [hk] at h; exact h.elim
   | some k =>
    rw [hk] at h
    dsimp only at h
    cases hl:zT ks ds k with
    | none=>rw [hl] at h; exact h.elim
    | some d =>
     rw [hl] at h
     obtain ⟨ad,kvs,L',rfl,had,e2,hks,_,rs⟩:=rx
     subst e2
     rw [<- hks] at hl
     obtain ⟨v,L1,g1,g2,g3⟩:=vS rs hl
     refine ⟨ad,v,rfl,?_,h v H2 L1 (s1.trans s2) (g2.same s2) (kx.sub (g3.trans (List.sublist_cons_self _ _)))⟩
     rw [vP hk ry,<- g1]
     exact DGet.k (s2 _ _ had)
  ·refine .inl (q O σ H τ _ ok (post.bind h fun dx hx h x H1 Lx s1 rx kx=>q' O σ H1 τ _ (ok.same s1) (post.bind2 h s1 fun dy _ h y H2 Ly s2 ry _=>?_)))
   cases hg:ixD dx dy with
   | ok d =>
    rw [hg] at h
    exact Vq (fun ks ds z=>hd ⟨ks,ds,by rw [hx,z]⟩) hg (rx.same s2) ry fun v L1 g1 g2=>h v H2 L1 (s1.trans s2) g1 (kx.sub g2)
   | err n=>exact absurd hg (z4M _ _ _)
   | bad=>rw [hg] at h; exact h.elim
def V2:D->R D
 | .int i=>.ok (.int (-i))
 | _=>.bad
theorem VX (ha:ME X E Γ a ta ca):ME X E Γ (.UnaryOp .USub a pos) (eUn V2 ta) .fresh:=by
 obtain ⟨te,p,q⟩:=ha
 refine ⟨_,z4j z21 p,fun O σ H τ Q ok h=>q O σ H τ _ ok (post.bind h fun d _ h v H1 L s1 r1 _=>?_)⟩
 cases d with
 | int i=>exact ⟨i,r1.1,h _ H1 [] s1 ⟨rfl,rfl⟩ RcOk.nil⟩
 | _=>exact h.elim
def jN {α:Type}(xs:List α)(lo hi:Option Int):List α:=(xs.drop (HT.sIx xs.length 0 lo)).take (HT.sIx xs.length xs.length hi-HT.sIx xs.length 0 lo)
def slD (x:D)(lo hi:Option Int):R D:=match x with
 | .lst ds=>if D.imms ds=true then .ok (.lst (jN ds lo hi)) else .bad
 | .str z=>if z.length<=sizeLine then .ok (.str (Txt.slice z lo hi)) else .bad
 | .tup ds=>if D.imms ds=true/\¬ (HT.sIx ds.length 0 lo=0/\HT.sIx ds.length ds.length hi=ds.length) then .ok (.tup (jN ds lo hi)) else .bad
 | _=>.bad
def eSl (t:Tn->R D)(tl th:Tn->R (Option Int)):Tn->R D:=fun τ=>(t τ).bind fun x=>(tl τ).bind fun l=>(th τ).bind fun h=>slD x l h
def yT:Tn->R (Option Int):=fun _=>.ok none
def yb (t:Tn->R D):Tn->R (Option Int):=fun τ=>(t τ).bind fun d=>match d with
 | .int i=>.ok (some i)
 | _=>.bad
def z4f (K:PySem.W.Frag)(E:XK)(H:Hp)(Q:Option Int->Hp->Prop):R (Option Int)->Prop
 | .ok o=>∀ H',Same H H'->Q o H'
 | .err n=>∀ C H',ErrC K n C->Same H H'->E (.ref C) none H'
 | .bad=>False
def MO (X:Cx)(E:XK)(Γ:List Cl)(e:Option Expr)(t:Tn->R (Option Int)):Prop :=
 ∃ to,PO X e to/\∀ O σ H τ Q,EOk X.K Γ O H σ τ->z4f X.K E H Q (t τ)->to σ H Q
theorem wb:MO X E Γ none yT:=⟨We,K7,fun O σ H τ Q ok h=>h H (Same.refl H)⟩
theorem xi (h:ME X E Γ e t c):MO X E Γ (some e) (yb t):=by
 obtain ⟨te,p,q⟩:=h
 refine ⟨z0u te,KN p,fun O σ H τ Q ok h=>q O σ H τ _ ok ?_⟩
 unfold yb at h
 cases ht:t τ with
 | ok d =>
  rw [ht,R.ok_bind] at h
  refine fun v H' L s r _=>?_
  cases d with
  | int i=>exact ⟨i,r.1,h H' s⟩
  | _=>exact h.elim
 | err n=>rw [ht] at h; exact h
 | bad=>rw [ht] at h; exact h
theorem Reps.cut {K:PySem.W.Frag}{H:Hp}{ds:List D}{vs:List V}{L:List Addr}(r:Reps K H ds vs L)(lo hi:Option Int):∃ L',Reps K H (jN ds lo hi) (YB vs lo hi) L'/\List.Sublist L' L:=by
 obtain ⟨L1,a,b⟩:=r.drop (HT.sIx ds.length 0 lo)
 obtain ⟨L2,c,d⟩:=a.take (HT.sIx ds.length ds.length hi-HT.sIx ds.length 0 lo)
 refine ⟨L2,?_,d.trans b⟩
 unfold jN YB
 rw [r.length]
 exact c
theorem vK {lo hi:Option Expr}{tl th:Tn->R (Option Int)}(he:ME X E Γ e t c)(hl:MO X E Γ lo tl)(hh:MO X E Γ hi th):ME X E Γ (.Subscript e (.Slice lo hi none p2) pos) (eSl t tl th) .fresh:=by
 obtain ⟨te,p,q⟩:=he
 obtain ⟨tl',pl,ql⟩:=hl
 obtain ⟨th',ph,qh⟩:=hh
 refine ⟨_,UD (SlR.or Kl (SlR.or z1l z1Q)) p pl ph,fun O σ H τ Q ok h=>?_⟩
 unfold eSl at h
 refine q O σ H τ _ ok (post.bind h fun dx hx h x H1 Lx s1 rx kx=>ql O σ H1 τ _ (ok.same s1) ?_)
 cases h1:tl τ with
 | err n=>rw [h1] at h; exact fun C H' e s'=>h C H' e (s1.trans s')
 | bad=>rw [h1] at h; exact h
 | ok l =>
  rw [h1,R.ok_bind] at h
  refine fun H2 s2=>qh O σ H2 τ _ ((ok.same s1).same s2) ?_
  cases h2:th τ with
  | err n=>rw [h2] at h; exact fun C H' e s'=>h C H' e ((s1.trans s2).trans s')
  | bad=>rw [h2] at h; exact h
  | ok g =>
   rw [h2,R.ok_bind] at h
   refine fun H3 s3=>?_
   have s03:=(s1.trans s2).trans s3
   have rx:=(rx.same s2).same s3
   unfold slD at h
   cases dx with
   | lst ds =>
    dsimp only at h
    by_cases hz:D.imms ds=true
    ·rw [if_pos hz] at h
     obtain ⟨a,vs,L',rfl,ha,_,rs⟩:=rx
     obtain ⟨L2,rc,_⟩:=(yL rs hz).cut l g
     have e0:L2=[]:=List.sublist_nil.mp ‹_›
     subst e0
     refine .inl ⟨a,vs,rfl,SqL.of ha,fun p hp=>um rc hp fun v H' L s r n1 n2=>h v H' L (s03.trans s) r ⟨n1,fun a ha=>s03.non (n2 a ha)⟩⟩
    ·rw [if_neg hz] at h; exact h.elim
   | str z =>
    dsimp only at h
    by_cases hz:z.length<=sizeLine
    ·rw [if_pos hz] at h
     exact .inr (.inl ⟨z,rx.1,hz,h _ H3 [] s03 ⟨rfl,rfl⟩ RcOk.nil⟩)
    ·rw [if_neg hz] at h; exact h.elim
   | tup ds =>
    dsimp only at h
    by_cases hz:D.imms ds=true/\¬ (HT.sIx ds.length 0 l=0/\HT.sIx ds.length ds.length g=ds.length)
    ·rw [if_pos hz] at h
     obtain ⟨a,vs,rfl,ha,rs⟩:=rx
     obtain ⟨L2,rc,_⟩:=(yL rs hz.1).cut l g
     have e0:L2=[]:=List.sublist_nil.mp ‹_›
     subst e0
     exact .inr (.inr ⟨a,vs,rfl,ha,by rw [rs.length]; exact hz.2,fun p hp=>h _ _ [] (s03.trans (Same.new hp)) ⟨p,_,rfl,SqT.of zG,rc.same (Same.new hp)⟩ RcOk.nil⟩)
    ·rw [if_neg hz] at h; exact h.elim
   | _=>exact h.elim
end
section
variable {X:Cx}
def yy:List D->R D
 | [.lst ds]=>.ok (.int ds.length)
 | [.tup ds]=>.ok (.int ds.length)
 | [.frl ds]=>.ok (.int ds.length)
 | [.str x]=>if x.length<=sizeLine then .ok (.int x.length) else .bad
 | [.dic ks _]=>.ok (.int ks.length)
 | _=>.bad
theorem xZ:xp yy:=fun ds n h=>by
 rcases ds with _ | ⟨d,_ | ⟨_,_⟩⟩
 ·cases h
 ·cases d with
  | str x =>
   replace h:(if x.length<=sizeLine then R.ok (D.int x.length) else .bad)=R.err n:=h
   split at h<;>cases h
  | _=>cases h
 ·cases d<;>cases h
theorem zW:CallR X (.builtin "len") (fun xs H Q=>(∃ p ys,xs=[.ref p]/\(SqL X.K H p ys\/SqT X.K H p ys)/\Q (.int ys.length) H)\/(∃ z,xs=[.str z]/\z.length<=sizeLine/\Q (.int z.length) H)\/∃ a kvs,xs=[V.ref a]/\H a=some (.dK kvs)/\Q (.int kvs.length) H) :=
 CallR.or Zd (CallR.or Zv WV)
theorem xK {K:PySem.W.Frag}{H:Hp}{d:D}{xs:List V}{L:List Addr}(r:Reps K H [d] xs L):∃ v,xs=[v]/\Rep K H d v L:=by
 obtain ⟨v,vs',L1,L2,e1,e2,r1,r2⟩:=r
 obtain ⟨rfl,rfl⟩:=r2
 rw [sF] at e2
 subst e2
 exact ⟨v,e1,r1⟩
theorem z3t {K:PySem.W.Frag}{H:Hp}{d d':D}{xs:List V}{L:List Addr}(r:Reps K H [d,d'] xs L):∃ v v' L1 L2,xs=[v,v']/\L=L1++L2/\Rep K H d v L1/\Rep K H d' v' L2:=by
 obtain ⟨v,vs',L1,L2,e1,e2,r1,r2⟩:=r
 obtain ⟨v',rfl,r3⟩:=xK r2
 exact ⟨v,v',L1,L2,e1,e2,r1,r3⟩
theorem w8 {K:PySem.W.Frag}:ClB K (fun xs H Q=>(∃ p ys,xs=[.ref p]/\(SqL K H p ys\/SqT K H p ys)/\Q (.int ys.length) H)\/(∃ z,xs=[.str z]/\z.length<=sizeLine/\Q (.int z.length) H)\/∃ a kvs,xs=[V.ref a]/\H a=some (.dK kvs)/\Q (.int kvs.length) H) yy:=by
 rintro H xs ds L Q r ⟨d,hg,q⟩
 have fin:∀ n:Int,d=.int n->Q (.int n) H:=fun n e=>q _ H [] (Same.refl H) (e▸⟨rfl,rfl⟩) (by simp) (fun a ha=>nomatch ha)
 rcases ds with _ | ⟨e,_ | ⟨_,_⟩⟩
 ·cases hg
 ·cases e with
  | lst es =>
   cases hg
   obtain ⟨v,rfl,a,vs,L',rfl,ha,_,rs⟩:=xK r
   exact .inl ⟨a,vs,rfl,.inl (SqL.of ha),fin _ (by rw [rs.length])⟩
  | tup es =>
   cases hg
   obtain ⟨v,rfl,a,vs,rfl,ha,rs⟩:=xK r
   exact .inl ⟨a,vs,rfl,.inr ha,fin _ (by rw [rs.length])⟩
  | frl es =>
   cases hg
   obtain ⟨v,rfl,a,vs,rfl,ha,_,_,rs⟩:=xK r
   exact .inl ⟨a,vs,rfl,.inl ha.sq,fin _ (by rw [rs.length])⟩
  | str x =>
   replace hg:(if x.length<=sizeLine then R.ok (D.int x.length) else .bad)=R.ok d:=hg
   split at hg
   ·rename_i hz
    cases hg
    obtain ⟨v,rfl,rfl,_⟩:=xK r
    exact .inr (.inl ⟨_,rfl,hz,fin _ rfl⟩)
   ·cases hg
  | dic ks es =>
   cases hg
   obtain ⟨v,rfl,a,kvs,L',rfl,ha,_,hk,_⟩:=xK r
   exact .inr (.inr ⟨a,kvs,rfl,ha,fin _ (by rw [<- hk,tP])⟩)
  | _=>cases hg
 ·cases e<;>cases hg
def vi:List D->Option (List Int)
 | []=>some []
 | .int i::ds=>(vi ds).map (i::·)
 | _=>none
theorem wH {K:PySem.W.Frag}{H:Hp}:∀ {ds:List D} {vs:List V} {L:List Addr} {ns:List Int},Reps K H ds vs L->vi ds=some ns->vs=ns.map V.int
 | [],_,_,ns,hq4,h=>by
  obtain ⟨e,_⟩:=hq4
  subst e; cases h; rfl
 | .int i::ds,_,_,ns,hq4,h=>by
  obtain ⟨v,vs',L1,L2,e1,_,r1,r2⟩:=hq4
  subst e1
  have h:(vi ds).map (i::·)=some ns:=h
  cases hi:vi ds with
  | none=>rw [hi] at h; cases h
  | some ms =>
   rw [hi] at h
   cases h
   rw [r1.1,wH r2 hi]; rfl
 | .non::_,_,_,_,_,h=>by cases h
 | .bl _::_,_,_,_,_,h=>by cases h
 | .str _::_,_,_,_,_,h=>by cases h
 | .tup _::_,_,_,_,_,h=>by cases h
 | .lst _::_,_,_,_,_,h=>by cases h
 | .dic _ _::_,_,_,_,_,h=>by cases h
 | .frl _::_,_,_,_,_,h=>by cases h
theorem jt:∀ {ns:List Int} {us:List Value},Vals (ns.map V.int) us->∃ xs:List (Int×Tok),us=xs.map (fun p=>Value.int p.1 p.2)/\xs.map (·.1)=ns
 | [],us,r=>by cases r; exact ⟨[],rfl,rfl⟩
 | n::ns,_,r=>by
  rw [tF] at r
  cases r with
  | cons r1 r2 =>
   obtain ⟨t,rfl⟩:=r1
   obtain ⟨xs,rfl,e⟩:=jt r2
   exact ⟨(n,t)::xs,rfl,by simp [e]⟩
def YX:List D->R D
 | [.lst ds]=>match vi ds with
  | some ns=>.ok (.int ns.sum)
  | none=>.bad
 | _=>.bad
theorem z3f:xp YX:=fun ds n h=>by
 unfold YX at h
 split at h
 ·split at h<;>cases h
 ·cases h
def z0j (K:PySem.W.Frag):List V->Hp->VK->Prop:=fun xs H Q=>∃ (p:Addr) (ns:List Int),xs=[.ref p]/\SqL K H p (ns.map V.int)/\Q (.int ns.sum) H
theorem Zt (xs:List (Int×Tok)):preSum (numAt xs.toArray) xs.toArray.size=(xs.map (·.1)).sum:=by
 rw [preSum_eq,rN (by simp)]
theorem V9 (hc:X.calm=true):CallR X (.builtin "sum") (z0j X.K):=by
 intro pins s σ H xs us Q I r h
 obtain ⟨p,ns,rfl,hs,q⟩:=h
 obtain ⟨u,rfl,ru⟩:=wZ r
 obtain rfl:u=Value.ref p:=ru
 obtain ⟨its,rv,pl,hz⟩:=I.list hs
 obtain ⟨ys,rfl,e⟩:=jt rv
 have hl:s.heap.IsList p (intItems ys.toArray):=by
  have:=pl.isList
  simpa [intItems] using this
 refine sum_intListG (I.ok.hd hc) hl fun h' tk t' hk=>⟨.int ns.sum,H,I.kept hk,⟨t',?_⟩,q⟩
 rw [Zt,e]
theorem z3d {K:PySem.W.Frag}:ClB K (z0j K) YX:=by
 rintro H xs ds L Q r ⟨d,hg,q⟩
 unfold YX at hg
 split at hg
 ·split at hg
  ·rename_i ds ns hn
   cases hg
   obtain ⟨v,rfl,a,vs,L',rfl,ha,_,rs⟩:=xK r
   exact ⟨a,ns,rfl,by rw [<- wH rs hn]; exact SqL.of ha,q _ H [] (Same.refl H) ⟨rfl,rfl⟩ (by simp) (fun a ha=>nomatch ha)⟩
  ·cases hg
 ·cases hg
def kN:List D->R D
 | [.int i]=>.ok (.int i)
 | [.bl k]=>.ok (.int (if k then 1 else 0))
 | _=>.bad
theorem z2u:xp kN:=fun ds n h=>by
 rcases ds with _ | ⟨d,_ | ⟨_,_⟩⟩
 ·cases h
 ·cases d<;>cases h
 ·cases d<;>cases h
theorem z1x {K:PySem.W.Frag}:ClB K (fun xs H Q=>(∃ i,xs=[.int i]/\Q (.int i) H)\/∃ k,xs=[.bl k]/\Q (.int (if k then 1 else 0)) H) kN:=by
 rintro H xs ds L Q r ⟨d,hg,q⟩
 rcases ds with _ | ⟨e,_ | ⟨_,_⟩⟩
 ·cases hg
 ·cases e with
  | int i =>
   cases hg
   obtain ⟨v,rfl,rfl,_⟩:=xK r
   exact .inl ⟨_,rfl,q _ H [] (Same.refl H) ⟨rfl,rfl⟩ (by simp) (fun a ha=>nomatch ha)⟩
  | bl k =>
   cases hg
   obtain ⟨v,rfl,rfl,_⟩:=xK r
   exact .inr ⟨_,rfl,q _ H [] (Same.refl H) ⟨rfl,rfl⟩ (by simp) (fun a ha=>nomatch ha)⟩
  | _=>cases hg
 ·cases e<;>cases hg
def kQ:List D->R D
 | [.int i,.int j]=>.ok (.int (if j>i then j else i))
 | _=>.bad
theorem z1i:xp kQ:=fun ds n h=>by unfold kQ at h; split at h<;>cases h
theorem z2y {K:PySem.W.Frag}:ClB K (fun xs H Q=>∃ i j,xs=[.int i,.int j]/\Q (.int (if j>i then j else i)) H) kQ:=by
 rintro H xs ds L Q r ⟨d,hg,q⟩
 unfold kQ at hg
 split at hg
 ·cases hg
  obtain ⟨v,v',L1,L2,rfl,_,⟨rfl,_⟩,⟨rfl,_⟩⟩:=z3t r
  exact ⟨_,_,rfl,q _ H [] (Same.refl H) ⟨rfl,rfl⟩ (by simp) (fun a ha=>nomatch ha)⟩
 ·cases hg
def yk:List D->R D
 | [.lst ds]=>if D.imms ds=true then .ok (.lst ds) else .bad
 | [.tup ds]=>if D.imms ds=true then .ok (.lst ds) else .bad
 | _=>.bad
theorem j7:xp yk:=fun ds n h=>by
 unfold yk at h
 split at h
 ·split at h<;>cases h
 ·split at h<;>cases h
 ·cases h
theorem j9 {K:PySem.W.Frag}:ClB K (fun xs H Q=>∃ p ys,xs=[.ref p]/\(SqL K H p ys\/SqT K H p ys)/\∀ l,H l=none->Q (.ref l) (upd H l (.lst ys))) yk:=by
 rintro H xs ds L Q r ⟨d,hg,q⟩
 unfold yk at hg
 split at hg
 ·split at hg
  ·rename_i hz
   cases hg
   obtain ⟨v,rfl,a,vs,L',rfl,ha,_,rs⟩:=xK r
   exact ⟨a,vs,rfl,.inl (SqL.of ha),fun l hl=>um (yL rs hz) hl q⟩
  ·cases hg
 ·split at hg
  ·rename_i hz
   cases hg
   obtain ⟨v,rfl,a,vs,rfl,ha,rs⟩:=xK r
   exact ⟨a,vs,rfl,.inr ha,fun l hl=>um (yL rs hz) hl q⟩
  ·cases hg
 ·cases hg
def jw:D->String
 | .non=>"NoneType"
 | .bl _=>"bool"
 | .int _=>"int"
 | .str _=>"str"
 | .tup _=>"tuple"
 | .lst _=>"list"
 | .frl _=>"list"
 | .dic _ _=>"dict"
theorem Vh (d:D):jw d∈qH:=by cases d<;>simp [jw,qH]
def Qj (d:D)(T:String):Bool:=jw d==T||(jw d=="bool"&&T=="int")
def z4K (K:PySem.W.Frag):List V->Hp->VK->Prop:=fun xs H Q=>∃ x T d L,xs=[x,.ty T]/\Rep K H d x L/\T∈(["int","bool","str","list","tuple","dict"]:List String)/\Q (.bl (Qj d T)) H
theorem Jq {K:PySem.W.Frag}{d:D}{U:String}(hU:U∈(["int","bool","str","list","tuple","dict"]:List String)):PySem.W.kitOne K (.type (jw d)) (.type U)=some (Qj d U):=by
 have hT:=Vh d
 unfold Qj
 simp only [sJ,pF,or_false] at hU
 rcases hU with rfl | rfl | hU
 ·rw [KG hT]
  simp
 ·rw [Ux hT]
  have:(jw d=="bool"&&("bool":String)=="int")=false:=by simp
  rw [this,Bool.or_false]
 ·rw [UM hT (by simpa using hU)]
  have:(jw d=="bool"&&U=="int")=false:=by
   rcases hU with rfl | rfl | rfl | rfl<;>simp
  rw [this,Bool.or_false]
theorem Uw:CallR X (.builtin "isinstance") (z4K X.K):=by
 intro pins s σ H xs us Q I r h
 obtain ⟨x,T,d,L,rfl,rd,hT,q⟩:=h
 obtain ⟨u,u2,rfl,rx,rT⟩:=Uz r
 obtain rfl:u2=Value.type T:=rT
 have hk:=Jq (K:=X.K) (d:=d) hT
 have fin:∀ tk,EP X pins σ Q (.bool (Qj d T)) { s with toks:=tk }:=fun tk=>⟨.bl _,H,I.tok tk,rfl,q⟩
 cases d with
 | non=>obtain ⟨rfl,_⟩:=rd; exact xN I rx .non hk fin
 | bl b=>obtain ⟨rfl,_⟩:=rd; exact xN I rx (.bl b) hk fin
 | int b=>obtain ⟨rfl,_⟩:=rd; exact xN I rx (.int b) hk fin
 | str b=>obtain ⟨rfl,_⟩:=rd; exact xN I rx (.str b) hk fin
 | lst _=>obtain ⟨a,_,_,rfl,e,_⟩:=rd; exact xN I rx (.lst e) hk fin
 | frl _ =>
  obtain ⟨a,vs,rfl,ha,_⟩:=rd
  obtain rfl:u=Value.ref a:=rx
  obtain ⟨its,_,⟨o,n,h1,h2,_⟩,_⟩:=I.list ha.sq
  exact PySem.W.kia_one PySem.W.kitx_list I.kIn ⟨o,h1,h2⟩ hk (fun z=>nomatch z) fin
 | dic _ _=>obtain ⟨a,_,_,rfl,e,_⟩:=rd; exact xN I rx (.dK e) hk fin
 | tup _ =>
  obtain ⟨a,vs,rfl,ha,_⟩:=rd
  obtain rfl:u=Value.ref a:=rx
  obtain ⟨its,_,⟨o,h1,h2,_⟩,_⟩:=I.tuple ha
  exact PySem.W.kia_one PySem.W.kitx_tuple I.kIn ⟨o,h1,h2⟩ hk (fun z=>nomatch z) fin
end
section
variable {X:Cx}{E:XK}{Γ:List Cl}{e c':Expr}{t:Tn->R D}{c:Rc}{pos p:Pos}
def xD (T:String):D->R D:=fun d=>.ok (.bl (Qj d T))
theorem vg {T:String}(hT:T∈(["int","bool","str","list","tuple","dict"]:List String))(hg:Gl X "isinstance")(hm:X.mg "isinstance"=none)(hc:PE X c' (tC (.ty T)))(he:ME X E Γ e t c)(hs:autoParam (starEach [e,c'] X.env=(false,eval e X.env)::starEach [c'] X.env) L2.au3._auto_1)(hs2:autoParam (starEach [c'] X.env=(false,eval c' X.env)::starEach [] X.env) L2.au3._auto_1)
  (hpl:autoParam ((backTo pos (starEach [c'] X.env)).any (·.1)=false) L2.au3._auto_1):ME X E Γ (.Call (.Name "isinstance" p) [e,c'] [] pos) (eUn (xD T) t) .fresh:=by
 obtain ⟨te,p',q⟩:=he
 refine ⟨_,jm (x:="isinstance") Uw hg hm Boot.«isinstance» (vm p' (vm hc qu hs2) hs) (by decide) (by decide) hs hpl,fun O σ H τ Q ok h=>q O σ H τ _ ok (post.bind h fun d _ h v H1 L s1 r1 _=>?_)⟩
 exact ⟨v,T,d,L,rfl,r1,hT,h _ H1 [] s1 ⟨rfl,rfl⟩ RcOk.nil⟩
end
def z4e (ks:List Key)(vs:List V):List (V×V):=(ks.zip vs).map fun kv=>(kV kv.1,kv.2)
theorem je {kvs:List (Key×V)}{k:Key}{v:V}(h:k∉kvs.map (·.1)):xJ kvs k v=kvs++[(k,v)]:=by
 unfold xJ
 rw [if_neg]
 intro z
 rw [List.any_eq_true] at z
 obtain ⟨p,hp,e⟩:=z
 exact h (rZ.mpr ⟨p,hp,by simpa using e⟩)
theorem jD:∀ (more kvs:List (Key×V)),((kvs++more).map (·.1)).Nodup->xn kvs more=kvs++more
 | [],kvs,_=>by simp [xn]
 | p::r,kvs,h=>by
  have hp:p.1∉kvs.map (·.1):=by
   rw [sP,tF] at h
   obtain ⟨_,_,h3⟩:=sI.mp h
   exact fun z=>h3 p.1 z p.1 tQ rfl
  show xn (xJ kvs p.1 p.2) r=_
  rw [je hp,jD r _ (by rw [sS]; exact h),sS]
  rfl
theorem Zi:∀ (ks:List Key) (vs:List V),vs.length=ks.length->(ks.zip vs).map (·.1)=ks
 | [],_,_=>rfl
 | k::ks,[],h=>by cases h
 | k::ks,v::vs,h=>by rw [List.zip_cons_cons,tF,Zi ks vs (by simpa using h)]
theorem Wj:∀ (ks:List Key) (vs:List V),vs.length=ks.length->(ks.zip vs).map (·.2)=vs
 | [],[],_=>rfl
 | [],_::_,h=>by cases h
 | k::ks,[],h=>by cases h
 | k::ks,v::vs,h=>by rw [List.zip_cons_cons,tF,Wj ks vs (by simpa using h)]
section
variable {X:Cx}{E:XK}{Γ:List Cl}{e k v:Expr}{t:Tn->R D}{u:Tn->R (List D)}{c ca cb:Rc}{pos p:Pos}{ks:List Key}{keys:List (Option Expr)}{values:List Expr}
def MPs (X:Cx)(E:XK)(Γ:List Cl)(pos:Pos)(keys:List (Option Expr))(values:List Expr)(ks:List Key)(t:Tn->R (List D))(c:Rc):Prop :=
 (∀ τ ds,t τ=.ok ds->ds.length=ks.length)/\∃ trs,PPs X pos keys values trs/\∀ O σ H τ (Q:List (V×V)->Hp->Prop),EOk X.K Γ O H σ τ->postL X.K E O c H (fun vs H'=>Q (z4e ks vs) H') (t τ)->Zs trs σ H Q
theorem Wh:MPs X E Γ pos [] [] [] ze .fresh:=⟨fun τ ds h=>by cases h; rfl,[],Ke,fun O σ H τ Q ok h=>h [] H [] (Same.refl H) Reps.nil RcOk.nil⟩
theorem xU {key:Key}(hk:PE X k (tC (kV key)))(h:ME X E Γ v t ca)(r:MPs X E Γ pos keys values ks u cb):MPs X E Γ pos (some k::keys) (v::values) (key::ks) (za t u) (Rc.both ca cb):=by
 obtain ⟨te,p1,q1⟩:=h
 obtain ⟨hl,trs,p2,q2⟩:=r
 refine ⟨fun τ ds h=>?_,_,Ut hk p1 p2,fun O σ H τ Q ok h=>?_⟩
 ·unfold za at h
  obtain ⟨d,h1,h⟩:=vq h
  obtain ⟨xs,h2,h⟩:=vq h
  cases h
  rw [tH,tH,hl τ xs h2]
 ·unfold za at h
  refine q1 O σ H τ _ ok ?_
  cases h1:t τ with
  | ok d =>
   rw [h1,R.ok_bind] at h
   refine fun v H1 L1 s1 r1 k1=>q2 O σ H1 τ _ (ok.same s1) ?_
   cases h2:u τ with
   | ok xs =>
    rw [h2,R.ok_bind] at h
    exact fun vs H2 L2 s2 r2 k2=>h (v::vs) H2 (L1++L2) (s1.trans s2) (Reps.cons (r1.same s2) r2) (RcOk.append ok.dom s1 r1 k1 k2)
   | err n=>rw [h2] at h; exact fun C H' e s'=>h C H' e (s1.trans s')
   | bad=>rw [h2] at h; exact h
  | err n=>rw [h1] at h; exact h
  | bad=>rw [h1] at h; exact h
theorem XQ (h:MPs X E Γ pos keys values ks u c)(hc:c≠.bor)(hnd:autoParam (ks.Nodup) L2.au1._auto_1)(hlk:autoParam (ks.length<=15) L2.au1._auto_1)(hall:autoParam (keys.all (·.isSome)=true) L2.au3._auto_1)(hl:autoParam (keys.length=values.length) L2.au3._auto_1)(h0:autoParam (keys≠[]) L2.au7._auto_1)(h15:autoParam (keys.length<=15) L2.au1._auto_1) :
  ME X E Γ (.Dict keys values pos) (eL (fun ds=>.ok (.dic ks ds)) u) c:=by
 obtain ⟨hlen,trs,p,q⟩:=h
 refine ⟨_,Kj p hall hl h0 h15,fun O σ H τ Q ok h dd hd=>?_⟩
 have s0:Same H (upd H dd (.dK [])):=Same.new hd
 have okO:EOk X.K Γ (fun a=>O a\/a=dd) (upd H dd (.dK [])) σ τ:=by
  refine ⟨fun a ha=>?_,fun j k e hk=>?_⟩
  ·rcases ha with ha | ha
   ·exact (ok.same s0).dom a ha
   ·rw [ha,zG]; simp
  ·obtain ⟨v,d,L0,a1,a2,a3,a4⟩:=ok.slot j k e hk
   refine ⟨v,d,L0,a1,a2,a3.same s0,fun z a ha hm=>?_⟩
   rcases hm with hm | hm
   ·exact a4 z a ha hm
   ·exact a3.there ha (hm▸hd)
 refine q _ σ _ τ _ okO ?_
 unfold eL at h
 cases hu:u τ with
 | err n=>rw [hu] at h; exact fun C H' e s'=>h C H' e (s0.trans s')
 | bad=>rw [hu] at h; exact h
 | ok ds =>
  rw [hu,R.ok_bind] at h
  refine fun vs H2 L s2 r k2=>?_
  have hD2:H2 dd=some (.dK []):=s2 _ _ zG
  have hv:vs.length=ks.length:=by rw [r.length,hlen τ ds hu]
  have nD:dd∉L:=fun hm=>by
   cases c with
   | fresh=>have:=k2.2 dd hm; rw [zG] at this; cases this
   | shr=>exact k2 dd hm (.inr rfl)
   | bor=>exact hc rfl
  refine ⟨hD2,ks.zip vs,rfl,by rw [List.length_zip]; lia,?_⟩
  have em:xn [] (ks.zip vs)=ks.zip vs:=by
   have:=jD (ks.zip vs) [] (by rw [tL,Zi ks vs hv]; exact hnd)
   rw [this]; rfl
  rw [em]
  have mu:(∃ vs,H2 dd=some (.lst vs))\/∃ kvs,H2 dd=some (.dK kvs):=.inr ⟨_,hD2⟩
  refine h (.ref dd) _ (dd::L) ?_ ⟨dd,ks.zip vs,L,rfl,zG,rfl,Zi ks vs hv,hnd,?_⟩ ?_
  ·exact Same.upd_of (H1:=H) hd (s0.trans s2)
  ·rw [Wj ks vs hv]
   exact r.upd mu nD
  ·cases c with
   | fresh =>
    refine ⟨sY.mpr ⟨nD,k2.1⟩,fun a ha=>?_⟩
    rcases sJ.mp ha with z | z
    ·rw [z]; exact hd
    ·exact s0.non (k2.2 a z)
   | shr =>
    intro a ha
    rcases sJ.mp ha with z | z
    ·rw [z]; exact fun w=>ok.dom dd w hd
    ·exact fun w=>k2 a z (.inl w)
   | bor=>exact absurd rfl hc
def Qh:List D->R D
 | [.dic ks ds]=>if D.imms ds=true then .ok (.dic ks ds) else .bad
 | _=>.bad
def ZN:List V->Hp->VK->Prop:=fun xs H Q=>∃ a kvs,xs=[.ref a]/\Rd H a (.dK kvs)/\∀ l,H l=none->Q (.ref l) (upd H l (.dK kvs))
theorem Xh:CallR X (.type "dict") ZN:=by
 intro pins s σ H xs us Q I r h
 obtain ⟨a,kvs,rfl,hr,q⟩:=h
 obtain ⟨u,rfl,ru⟩:=wZ r
 obtain rfl:u=Value.ref a:=ru
 obtain ⟨z,hd,vs,rel,dd⟩:=vC I.hok hr
 refine kt_call_dict hd dd (by rw [<- rel.length]; exact z) fun h' hm hs=>?_
 have hk:∀ b o,s.heap.get? b=some o->h'.get? b=some o:=fun b o e=>(hs.2 b (sV (Heap.lt_size e))).trans (Heap.get?_push_of_some _ e)
 have hsz:s.heap.objs.size<=s.heap.objs.size:=tY _
 refine ⟨.ref s.heap.objs.size,_,I.laid (o:=.dK kvs) (t':=s.toks) hk hsz ?_,rfl,q _ (I.hok.fresh hsz)⟩
 refine ⟨z,?_,vs,rel,hm⟩
 exact beq_eq_false_iff_ne.mpr (Ne.symm (sV I.big))
theorem K4 {K:PySem.W.Frag}:ClB K ZN Qh:=by
 rintro H xs ds L Q r ⟨d,hg,q⟩
 unfold Qh at hg
 split at hg
 ·split at hg
  ·rename_i hz
   cases hg
   obtain ⟨v,rfl,a,kvs,L',rfl,ha,_,hk,hn,rs⟩:=xK r
   refine ⟨a,kvs,rfl,.inl ha,fun l hl=>q _ _ [l] (Same.new hl) ⟨l,kvs,[],rfl,zG,rfl,hk,hn,(yL rs hz).same (Same.new hl)⟩ (by simp) (fun b hb=>by rw [sN.mp hb]; exact hl)⟩
  ·cases hg
 ·cases hg
end
theorem Room.u12 {k:Nat}{A:Around}(r:Room k A):A.units+12<cLine:=by have:=r.un; lia
theorem Room.u1 {k:Nat}{A:Around}(r:Room k A):A.units+1<cLine:=by have:=r.un; lia
def ZG (outer:Scope)(N N':List Str)(fr:List (Option Nat))(scope:Scope):Bool :=
 decide (scope.kind=.function)&&scope.names.all (fun y=>decide (y.2≠.cell))&&scope.names.all (fun y=>decide (y.2≠.local)||decide (scope.names.lookup y.1=some .local)) &&
 scope.names.all (fun y=>decide (y.2≠.free)||decide (outer.names.lookup y.1=some .cell)||decide (outer.names.lookup y.1=some .free))&&decide (fr.length=N'.length) &&
 (List.range fr.length).all fun j=>match fr[j]?,N'[j]? with
  | some (some i),some x=>decide (N[i]?=some x)&&decide (scope.names.lookup x=some .free)&&(decide (outer.names.lookup x=some .cell)||decide (outer.names.lookup x=some .free))
  | _,_=>true
theorem Xa {X:Cx}{N':List Str}{fr:List (Option Nat)}{scope:Scope}(hc:∀ x,(X.env.scope.names.lookup x=some .cell\/X.env.scope.names.lookup x=some .free)->∃ c,X.env.cells.lookup x=some c)(h:ZG X.env.scope X.N N' fr scope=true):CompScope X N' fr scope:=by
 unfold ZG at h
 simp only [rA,decide_eq_true_eq,pV,Bool.or_eq_true] at h
 obtain ⟨⟨⟨⟨⟨h1,h2⟩,h3⟩,h4⟩,h5⟩,h6⟩:=h
 refine ⟨h1,h2,fun y hy e=>?_,fun y hy e=>?_,h5,fun j i x e1 e2=>?_⟩
 ·rcases h3 y hy with z | z
  ·exact absurd e z
  ·exact z
 ·rcases h4 y hy with (z | z) | z
  ·exact absurd e z
  ·exact hc y.1 (.inl z)
  ·exact hc y.1 (.inr z)
 ·have hj:j<fr.length:=(sD.mp e1).1
  have:=h6 j (pG.mpr hj)
  rw [e1,e2] at this
  simp only [rA,decide_eq_true_eq,Bool.or_eq_true] at this
  exact ⟨this.1.1,this.1.2,this.2⟩
theorem xX {CX:CXT}{P:Program}{w:World}{K:PySem.W.Frag}{mg:Str->Option Value}{base:Heap}{N:List Str}{qual:Str}{sc:Scope}{f:Addr}{cd:Value}{A:Around}{outer:List Env}{s:Shared}{H:Hp}{E:XK}{N':List Str}{fr:List (Option Nat)}{scope:Scope}
  (nf:∀ y∈sc.names,y.2≠.free) (h:ZG sc N N' fr scope=true):CompScope (xF CX P w K mg base N qual sc f cd A outer s H E) N' fr scope :=
 Xa (X:=xF CX P w K mg base N qual sc f cd A outer s H E) (fun x hx=>by
  rcases hx with hx | hx
  ·exact jB hx
  ·exact absurd rfl (nf _ (PySem.mem_of_lookup hx))) h
section
variable {X:Cx}{E:XK}{Γ Γ1 Γ' Γl:List Cl}{e:Expr}{t:Tn->R D}{c:Rc}{pos pos':Pos}
def MGs (X:Cx)(es:List Expr)(is:List Nat):Prop:=∃ g,PGs X es g/\∀ (vs:List V) (σ:St) (H:Hp) (Q:St->Hp->Prop),vs.length=is.length->Q (yU σ is vs) H->g vs σ H Q
theorem vo:MGs X [] []:=⟨z4t,Kf,fun vs σ H Q hl q=>by
 have:vs=[]:=pQ.mp hl
 subst this
 exact ⟨rfl,q⟩⟩
theorem yu {x:Expr}{es:List Expr}{i:Nat}{is:List Nat}(h:PG X x (uv i))(r:MGs X es is)(hs:autoParam ((assignEach (x::es) X.env).map (·.2)=assign x X.env::(assignEach es X.env).map (·.2)) L2.au3._auto_1):MGs X (x::es) (i::is):=by
 obtain ⟨g,p,q⟩:=r
 refine ⟨_,UG h p hs,fun vs σ H Q hl k=>?_⟩
 cases vs with
 | nil=>cases hl
 | cons v vs=>exact ⟨v,vs,rfl,q vs _ H Q (by simpa using hl) k⟩
theorem v7 {es:List Expr}{k:Nat}{is:List Nat}(hc:X.calm=true)(h:MGs X es is)(hn:autoParam ((assignEach es X.env).length=is.length) L2.au3._auto_1)(hst:autoParam ((assignEach es X.env).findIdx? (·.1)=none) L2.au3._auto_1):MG X (.Tuple es k pos) (.many is):=by
 obtain ⟨g,p,q⟩:=h
 exact ⟨g,z2g hc p hn hst,q⟩
theorem yX {i:Nat}{x:Expr}(h:PG X x (uv i)):MG X x (.one i):=h
def WT (g:Tgt)(t:Tn->R D):Tn->R Fl:=fun τ=>(t τ).bind fun d=>(g.asg d τ).bind fun τ1=>.ok (.nx τ1)
theorem z0Q {tg:Expr}{g:Tgt}(h:ME X E Γ e t c)(hc:c≠.bor)(hg:MG X tg g)(hn:∀ i∈g.slots,i<Γ.length)(hs:autoParam (swapsWithSole [tg] e pos.line X.env=pure false) L2.au3._auto_1)(hw:autoParam (swappedStores [tg] e X.env=pure none) L2.au3._auto_1)
  (h1:autoParam ((assignEach [tg] X.env).map (·.2)=[assign tg X.env]) L2.au3._auto_1):MS X E Γl Γ (.Assign [tg] e pos) (WT g t) (shrAll Γ g.slots):=by
 obtain ⟨te,p,q⟩:=h
 refine ⟨_,J6 p hg.pg hs hw h1,fun B σ H τ Z ok h=>?_⟩
 obtain ⟨O,eo,Od,hB⟩:=ok.base
 refine q O σ H τ _ eo ?_
 unfold WT at h
 cases ht:t τ with
 | ok d =>
  rw [ht,R.ok_bind] at h
  refine fun v H' L s r k=>?_
  obtain ⟨B1,sB,ok1,hB1⟩:=hB H' s
  have hL:∀ a∈L,B1 a≠none:=fun a ha=>by rw [hB1 a (k.shr eo.dom hc a ha)]; exact r.there ha
  cases ha:g.asg d τ with
  | ok τ1 =>
   rw [ha,R.ok_bind] at h
   exact VY ok1 r hL hn ha fun σ1 ok2=>h σ1 H' (ok2.rebase sB)
  | err n =>
   cases g with
   | one i=>cases ha
   | many is =>
    unfold Tgt.asg at ha
    split at ha
    ·cases ha
    ·split at ha<;>cases ha
    ·cases ha
  | bad=>rw [ha] at h; exact h.elim
 | err n=>rw [ht] at h; exact fun C H' e s=>h C H' e (ok.ext.trans s)
 | bad=>rw [ht] at h; exact h
def jh (i:Nat)(g:D->D->R D)(t:Tn->R D):Tn->R Fl:=fun τ=>(zb i τ).bind fun x=>(t τ).bind fun y=>(g x y).bind fun z=>.ok (.nx (τ.set i (some z)))
theorem z1m {i:Nat}{x:Str}{op:Operator}{r:R2}{g:D->D->R D}{k:Cl}(hN:X.N.Nodup)(hi:X.N[i]?=some x)(hk:Γ[i]?=some k)(hkd:k≠.dead)(hB:OpB X.K r g)(hn:xl g)(ho:PIp X op r)(h:ME X E Γ e t c)(hx:Loc X.env.scope x)
  (hf:autoParam (X.fn x=true\/X.env.scope.names.lookup x=some .local) L2.au0._auto_1):MS X E Γl Γ (.AugAssign (.Name x pos') op e pos) (jh i g t) (Γ.set i .own):=by
 obtain ⟨te,p,q⟩:=h
 refine ⟨_,z0K hN hi hx p ho hf,fun B σ H τ Z ok h=>?_⟩
 obtain ⟨O,eo,_⟩:=ok.eok
 obtain ⟨v,d,L,e1,e2,e3,_⟩:=eo.slot i k hk hkd
 refine ⟨v,e1,q O σ H τ _ eo ?_⟩
 unfold jh at h
 have ev:zb i τ=.ok d:=by unfold zb; rw [e2]
 rw [ev,R.ok_bind] at h
 have hl:i<Γ.length:=(sD.mp hk).1
 cases ht:t τ with
 | ok dy =>
  rw [ht,R.ok_bind] at h
  refine fun y H1 Ly s1 ry _=>?_
  cases hg:g d dy with
  | ok dz =>
   rw [hg,R.ok_bind] at h
   refine hB H1 v y d dy L Ly _ (e3.same s1) ry ⟨dz,hg,fun z H2 L2 s2 rz n1 n2=>h _ _ ?_⟩
   have ok2:=(ok.same s1).aside s2 (fun a ha=>rz.there ha) n1 n2
   exact SOk.into (T:=[]) ok2 rz hl
  | err n=>exact absurd hg (hn _ _ _)
  | bad=>rw [hg] at h; exact h.elim
 | err n=>rw [ht] at h; exact fun C H' e s=>h C H' e (ok.ext.trans s)
 | bad=>rw [ht] at h; exact h
theorem PIp.or {op:Operator}{r r':R2}(h:PIp X op r)(h':PIp X op r'):PIp X op (fun x y H Q=>r x y H Q\/r' x y H Q):=by
 intro pins s σ H x y v u Q I r1 r2 z
 rcases z with z | z
 ·exact h pins s σ H x y v u Q I r1 r2 z
 ·exact h' pins s σ H x y v u Q I r1 r2 z
def vx:D->D->R D
 | .int i,.int j=>.ok (.int (i+j))
 | .str x,.str y=>if x.length+y.length<=sizeLine then .ok (.str (x++y)) else .bad
 | _,_=>.bad
theorem WG:xl vx:=fun x y n h=>by
 unfold vx at h
 split at h
 ·cases h
 ·split at h<;>cases h
 ·cases h
theorem Y7:PIp X .Add (fun x y H Q=>ipI (fun i j=>i+j) x y H Q\/∃ i j,x=.str i/\y=.str j/\i.length+j.length<=sizeLine/\Q (.str (i++j)) H):=PIp.or z12 fun pins s σ H x y v u Q I r1 r2 z=>Ym pins s σ H x y v u Q I r1 r2 z
theorem W0 {K:PySem.W.Frag}:OpB K (fun x y H Q=>ipI (fun i j=>i+j) x y H Q\/∃ i j,x=.str i/\y=.str j/\i.length+j.length<=sizeLine/\Q (.str (i++j)) H) vx:=by
 rintro H x y dx dy Lx Ly Q rx ry ⟨d,hg,q⟩
 unfold vx at hg
 split at hg
 ·cases hg
  exact .inl ⟨_,_,rx.1,ry.1,q _ H [] (Same.refl H) ⟨rfl,rfl⟩ (by simp) (fun a ha=>nomatch ha)⟩
 ·split at hg
  ·rename_i hz
   cases hg
   exact .inr ⟨_,_,rx.1,ry.1,hz,q _ H [] (Same.refl H) ⟨rfl,rfl⟩ (by simp) (fun a ha=>nomatch ha)⟩
  ·cases hg
 ·cases hg
structure Bl (mg:Str->Option Value):Prop where
 isinstance:mg "isinstance"=none
 int:mg "int"=none
 bool:mg "bool"=none
 str:mg "str"=none
 dict:mg "dict"=none
 list:mg "list"=none
 tuple:mg "tuple"=none
 len:mg "len"=none
 sum:mg "sum"=none
 max:mg "max"=none
 min:mg "min"=none
 all:mg "all"=none
 range:mg "range"=none
 enumerate:mg "enumerate"=none
 zip:mg "zip"=none
end
section
variable {X:Cx}{E:XK}{Γ Γ1 Γ' Γl:List Cl}{e:Expr}{t:Tn->R D}{c:Rc}{pos pos':Pos}
theorem mn (i:Nat)(k:Cl){x:Str}(hN:autoParam (X.N[i]?=some x) L2.au3._auto_1)(hk:autoParam (Γ[i]?=some k) L2.au3._auto_1)(hd:autoParam (k≠.dead) L2.au1._auto_1)(hv:autoParam (Vis X.env.scope x) L2.au5._auto_1)(hb:autoParam ((x==("__debug__":Str))=false) L2.au1._auto_1)(hcd:autoParam ((x==("__classdict__":Str))=false) L2.au1._auto_1) :
  ME X E Γ (.Name x pos) (zb i) (Rc.of k):=JO hN hk hd hv hb hcd
theorem mvn (i:Nat){x:Str}(hN:autoParam (X.N[i]?=some x) L2.au3._auto_1)(hk:autoParam (Γ[i]?=some .own) L2.au3._auto_1)(hv:autoParam (Vis X.env.scope x) L2.au5._auto_1)(hb:autoParam ((x==("__debug__":Str))=false) L2.au1._auto_1)(hcd:autoParam ((x==("__classdict__":Str))=false) L2.au1._auto_1) :
  MV X E Γ (.Name x pos) (zb i) (Γ.set i .dead):=KI hN hk hv hb hcd
theorem st (i:Nat){x:Str}(nd:X.N.Nodup)(h:MV X E Γ e t Γ1)(hi:autoParam (X.N[i]?=some x) L2.au3._auto_1)(hl:autoParam (i<Γ1.length) L2.au1._auto_1)(hx:autoParam (Loc X.env.scope x) L2.au8._auto_1)(hs:autoParam (swapsWith e (some (.Name x pos')) pos.line X.env=pure false) L2.au3._auto_1)(hf:autoParam (X.fn x=true\/X.env.scope.names.lookup x=some .local) L2.au0._auto_1) :
  MS X E Γl Γ (.Assign [.Name x pos'] e pos) (zl i t) (Γ1.set i .own):=z1y nd hi hl h hx hs hf
theorem stS (i:Nat){x:Str}(nd:X.N.Nodup)(h:ME X E Γ e t c)(hc:autoParam (c≠.bor) L2.au1._auto_1)(hi:autoParam (X.N[i]?=some x) L2.au3._auto_1)(hl:autoParam (i<Γ.length) L2.au1._auto_1)(hx:autoParam (Loc X.env.scope x) L2.au8._auto_1)(hs:autoParam (swapsWith e (some (.Name x pos')) pos.line X.env=pure false) L2.au3._auto_1)(hf:autoParam (X.fn x=true\/X.env.scope.names.lookup x=some .local) L2.au0._auto_1) :
  MS X E Γl Γ (.Assign [.Name x pos'] e pos) (zl i t) (Γ.set i .shr):=K9 nd hi hl h hc hx hs hf
theorem pgn (i:Nat){x:Str}(nd:X.N.Nodup)(hi:autoParam (X.N[i]?=some x) L2.au3._auto_1)(hx:autoParam (Loc X.env.scope x) L2.au8._auto_1)(hf:autoParam (X.fn x=true\/X.env.scope.names.lookup x=some .local) L2.au0._auto_1):PG X (.Name x pos) (uv i):=KS nd hi hx hf
theorem app (i:Nat){x:Str}{p0 p1 p2:Pos}(h:MV X E Γ e t Γ1)(hN:autoParam (X.N[i]?=some x) L2.au3._auto_1)(h0:autoParam (Γ[i]?=some .own) L2.au3._auto_1)(hk:autoParam (Γ1[i]?=some .own) L2.au3._auto_1)(hv:autoParam (Vis X.env.scope x) L2.au5._auto_1)(hb:autoParam ((x==("__debug__":Str))=false) L2.au1._auto_1)(hcd:autoParam ((x==("__classdict__":Str))=false) L2.au1._auto_1)
  (hbase:autoParam (attributeBase (.Name x p0) "append" X.env (eval (.Name x p0) X.env)=eval (.Name x p0) X.env) L2.au3._auto_1)
  (hfew:autoParam (((backTo p2 (starEach [e] X.env)).all (fun x=>!x.1)&&(backToKw p2 (keywordEach [] X.env)).all (fun x=>x.1.isSome)&&decide ([e].length+([]:List Keyword).length+(if ([]:List Keyword).isEmpty then 0 else 1)<30))=true) L2.au3._auto_1)
  (hline:autoParam ((p1.endLine==p2.line)=true) L2.au3._auto_1) (hs:autoParam (starEach [e] X.env=(false,eval e X.env)::starEach [] X.env) L2.au3._auto_1) (hplain:autoParam ((backTo p2 (starEach [] X.env)).any (·.1)=false) L2.au3._auto_1)
  (hsw:autoParam (swapsWith (.Call (.Attribute (.Name x p0) "append" p1) [e] [] p2) none pos.line X.env=pure false) L2.au3._auto_1) :
  MS X E Γl Γ (.Expr (.Call (.Attribute (.Name x p0) "append" p1) [e] [] p2) pos) (wN i t) Γ1:=VH hN h0 h hk hv hb hcd hbase hfew hline hs hplain hsw
theorem put (i:Nat){x:Str}{p0 p1:Pos}{ix:Expr}{ti:Tn->R D}(h:MV X E Γ e t Γ1)(hi:ME X E Γ1 ix ti c)(hN:autoParam (X.N[i]?=some x) L2.au3._auto_1)(hk:autoParam (Γ1[i]?=some .own) L2.au3._auto_1)(hv:autoParam (Vis X.env.scope x) L2.au5._auto_1)(hb:autoParam ((x==("__debug__":Str))=false) L2.au1._auto_1)(hcd:autoParam ((x==("__classdict__":Str))=false) L2.au1._auto_1)
  (ha:autoParam (∀ v,assign (.Subscript (.Name x p0) ix p1) X.env v=(do
   let ov <- holding [v] (eval (.Name x p0) X.env)
   let iv <- holding [v,ov] (eval ix X.env)
   standAt p1
   holding [v,ov,iv] (setItem ov iv v)
   release [v,ov,iv] [])) L2.au2._auto_1)
  (hs:autoParam (swapsWithSole [.Subscript (.Name x p0) ix p1] e pos.line X.env=pure false) L2.au3._auto_1) (hw:autoParam (swappedStores [.Subscript (.Name x p0) ix p1] e X.env=pure none) L2.au3._auto_1)
  (h1:autoParam ((assignEach [.Subscript (.Name x p0) ix p1] X.env).map (·.2)=[assign (.Subscript (.Name x p0) ix p1) X.env]) L2.au3._auto_1) :
  MS X E Γl Γ (.Assign [.Subscript (.Name x p0) ix p1] e pos) (WY i t ti) Γ1:=z1s hN h hi hk hv hb hcd ha hs hw h1
theorem aug (i:Nat)(k:Cl){x:Str}{op:Operator}{r:R2}{g:D->D->R D}(nd:X.N.Nodup)(hB:OpB X.K r g)(hn:xl g)(ho:PIp X op r)(h:ME X E Γ e t c)(hi:autoParam (X.N[i]?=some x) L2.au3._auto_1)(hk:autoParam (Γ[i]?=some k) L2.au3._auto_1)(hkd:autoParam (k≠.dead) L2.au1._auto_1)(hx:autoParam (Loc X.env.scope x) L2.au8._auto_1)
  (hf:autoParam (X.fn x=true\/X.env.scope.names.lookup x=some .local) L2.au0._auto_1):MS X E Γl Γ (.AugAssign (.Name x pos') op e pos) (jh i g t) (Γ.set i .own):=z1m nd hi hk hkd hB hn ho h hx hf
theorem stC (i:Nat){x:Str}{N':List Str}{fr:List (Option Nat)}{scope:Scope}{tg iter elt:Expr}{ifs:List Expr}{it:Tn->R (List D)}{g:Tgt}{cnd:Tn->R Bool}{te:Tn->R D}{ci:Rc}{cpos:Pos}(nd:X.N.Nodup)(hc:X.calm=true)(S:CompScope X N' fr scope)(hi:MI X E Γ tg iter it ci)
  (hg:∀ s₃ H₃ fp pins,MG (zF X scope N' s₃ H₃ fp pins) tg g) (ht:∀ s₃ H₃ fp pins,MTs (zF X scope N' s₃ H₃ fp pins) noX (yG (Cl.ofIt ci) (yt fr Γ) g.slots) ifs cnd)
  (he:∀ s₃ H₃ fp pins,ME (zF X scope N' s₃ H₃ fp pins) noX (yG (Cl.ofIt ci) (yt fr Γ) g.slots) elt te .fresh) (hd:∀ j∈g.slots,(yt fr Γ)[j]?=some .dead)
  (hix:autoParam (X.N[i]?=some x) L2.au3._auto_1) (hl:autoParam (i<Γ.length) L2.au1._auto_1) (hx:autoParam (Loc X.env.scope x) L2.au8._auto_1) (hsw:autoParam (swapsWith (.ListComp elt [⟨tg,iter,ifs,0⟩] scope cpos) (some (.Name x pos')) pos.line X.env=pure true) L2.au3._auto_1)
  (hs:autoParam (∀ x,foldedSetIterable iter X.env x=pure x) L2.au2._auto_1) (hf:autoParam (X.fn x=true\/X.env.scope.names.lookup x=some .local) L2.au0._auto_1) :
  MS X E Γl Γ (.Assign [.Name x pos'] (.ListComp elt [⟨tg,iter,ifs,0⟩] scope cpos) pos) (zl i (yE fr it g cnd te)) (Γ.set i .own):=JF hc S hi hg ht he hd nd hix hl hx hsw hs hf
end
section
variable {P:Program}{w:World}{K:PySem.W.Frag}{mg:Str->Option Value}{base:Heap}{x:Str}{st:Stmt}{N ps:List Str}{k:Nat}{t:Tn->R Fl}{Γ':List Cl}
theorem z1u {f:Addr}{oc:Value}{od an:Option Addr}{osl:Array (Option Value)}{kV doc pm cdv ct:Value}(lk:K.lookup f=some ⟨oc,od,.func (PySem.W.fnOf x x (defArgs st) (defBody st) (defScope st) .none kV doc pm an cdv ct),osl⟩)(hcd:PySem.W.codeIn K cdv x=true)
  (S:FnScope N ps (defScope st)) (hn:ps.length<=N.length)
  (hbody:∀ (f:Addr) (cdv:Value) (A:Around) (outer:List Env) (s:Shared) (H:Hp) (E:XK),Room k (A.deeper (envOfC x (defScope st) s.heap.objs.size f cdv)) ->
   MSs (xF (cxx P w) P w K mg base N x (defScope st) f cdv A outer s H E) E [] (kj N.length ps.length) (defBody st) t Γ') :
  FnOk P w K mg base (cxx P w) (k+1) f (PySem.W.fnOf x x (defArgs st) (defBody st) (defScope st) .none kV doc pm an cdv ct) ps (spM K (zw N.length t) ps.length):=by
 refine VQ lk hcd S (fun vs H Q E h=>h.1) fun A outer s H vs Q E hr h=>?_
 obtain ⟨hl,ds,L,r,h⟩:=h
 obtain ⟨ts,p,q⟩:=hbody f cdv A outer s H E hr
 refine ⟨ts,p,q H (start N vs) H _ _ (hl▸SOk.start r (by lia)) ?_⟩
 unfold zw at h
 cases ht:t (ds.map some++List.replicate (N.length-ds.length) none) with
 | ok f =>
  rw [ht] at h
  cases f with
  | nx τ'=>exact fun σ' H' ok'=>h .non H' [] ok'.ext ⟨rfl,rfl⟩ RcOk.nil
  | rt d=>exact fun v H' L s r n1 n2=>h v H' L s r ⟨n1,n2⟩
  | bk τ'=>exact h.elim
  | ct τ'=>exact h.elim
 | err n=>rw [ht] at h; exact fun C H' e s=>h C H' e s
 | bad=>rw [ht] at h; exact h.elim
end
theorem qj:∀ ns:List Int,D.imms (ns.map D.int)=true
 | []=>rfl
 | n::ns=>by rw [tF]; show (true&&D.imms (ns.map D.int))=true; rw [qj ns]; rfl
theorem Z4 {K:PySem.W.Frag}{H:Hp}:∀ ns:List Int,Reps K H (ns.map D.int) (ns.map V.int) []
 | []=>Reps.nil
 | n::ns=>Reps.cons (L1:=[]) ⟨rfl,rfl⟩ (Z4 ns)
theorem Jr {K:PySem.W.Frag}{H:Hp}{a:Addr}{ns:List Int}{F:List D->R D}(hO:JG H)(hS:SqL K H a (ns.map V.int))(hF:F [.frl (ns.map D.int)]=.ok (.bl true)):spM K F 1 [.ref a] H (fun v _=>v=.bl true) fun _ _ _=>False:=by
 have hs:SqF K H a (ns.map V.int):=by
  rcases hS with (z | z) | z
  ·rcases hO a with w | ⟨o,xs,w⟩
   ·rw [w] at z; cases z
   ·rw [w] at z; cases z
  ·exact .inl z
  ·exact .inr z
 refine ⟨rfl,[.frl (ns.map D.int)],[],Reps.cons (L1:=[]) ⟨a,ns.map V.int,rfl,hs,rfl,qj ns,Z4 ns⟩ Reps.nil,?_⟩
 rw [hF]
 exact fun v H' L s r _=>r.1
theorem law_walk {Fm:List D->R D}{k:Nat}{x:Str}{l:PySem.W.OpenLaw}{q:Program}{loose:List Str}{XP:(Str->Option Value)->Heap->Prop}{YP:World->Heap->Prop}{d:DefRec}{K:Params->PySem.W.Frag}(hF:∀ ns:List Int,ns.length<=63->Fm [.frl (ns.map D.int)]=.ok (.bl true))(hr:Room k callerA)(hn:l.most=some 63)(hdf:d.params.defaults=[])
  (hY:∀ (w:World) (h:Heap),YP w h->(K w.params).In h)
  (F:∀ (w:World) (mg:Str->Option Value) (fa:Addr) (h:Heap),(K w.params).In h->h.Ns mainGlobals mg->mg d.name=some (.ref fa) ->
   ∃ fd:FuncData,(∀ (s:Shared) (u:Value),BindsTo s fd ⟨[u],[]⟩ [(x,u)])/\∀ base:Heap,(K w.params).In base->base.Ns mainGlobals mg->FnOk l.prog w (K w.params) mg base (cxx l.prog w) k fa fd [x] (spM (K w.params) Fm 1)) :
  PySem.W.WalkO q loose XP YP l.row.toRowW d [] (fun f vs=>PySem.call f vs) :=
 L2.walk_of (n:=63) (k:=k) (x:=x) (CX:=fun w=>cxx l.prog w) (sp:=fun w=>spM (K w.params) Fm 1) hn (by decide) hdf hr hY F (fun w H a ns hl hO hS=>Jr hO hS (hF ns hl)) fun w H s e s' z=>z2d z
section
variable {i j:Int}{C:Int->Int->Bool}{g:Int->Int->D}
theorem yw:zy (.int i) (.int j)=.ok (.int (i+j)):=rfl
theorem UX:L2.intD C g (.int i) (.int j)=if C i j=true then .ok (g i j) else .bad:=rfl
theorem JJ (h1:-(2 ^ 64)<j)(h2:j<2 ^ 64):wD (.int i) (.int j)=.ok (.int (i*j)):=by
 have:((decide (-(2 ^ 64)<i)&&decide (i<2 ^ 64))||(decide (-(2 ^ 64)<j)&&decide (j<2 ^ 64)))=true:=by rw [decide_eq_true h1,decide_eq_true h2]; simp
 exact if_pos this
theorem Kr (h1:-(2 ^ 64)<i)(h2:i<2 ^ 64):wD (.int i) (.int j)=.ok (.int (i*j)):=by
 have:((decide (-(2 ^ 64)<i)&&decide (i<2 ^ 64))||(decide (-(2 ^ 64)<j)&&decide (j<2 ^ 64)))=true:=by rw [decide_eq_true h1,decide_eq_true h2]; simp
 exact if_pos this
theorem ja (h1:-18446744073709551616<j)(h2:j<18446744073709551616):wD (.int i) (.int j)=.ok (.int (i*j)):=JJ (by lia) (by lia)
theorem Zn (h1:-18446744073709551616<i)(h2:i<18446744073709551616):wD (.int i) (.int j)=.ok (.int (i*j)):=Kr (by lia) (by lia)
theorem zV (h1:0<j)(h2:j<1073741824):zC (.int i) (.int j)=.ok (.int (i/j)):=by
 simp [zC,UX,h1,h2]
theorem zK (h1:0<j):zA (.int i) (.int j)=.ok (.int (i%j)):=by
 simp [zA,UX,h1]
theorem vh {neg:Bool}:eqR neg (.int i) (.int j)=.ok (.bl (if neg=true then !(i==j) else i==j)):=by
 cases neg<;>rfl
theorem ub {neg:Bool}{x y:Str}:eqR neg (.str x) (.str y)=.ok (.bl (if neg=true then !(x==y) else x==y)):=by
 cases neg<;>rfl
end
theorem qi {α:Type}{xs:List α}{i:Int}{x:α}(h0:0<=i)(h:xs[i.toNat]?=some x):atI xs i=some x:=by
 have hj:i.toNat<xs.length:=(sD.mp h).1
 have:=vT h
 rw [rE h0] at this
 exact this
theorem qg {ds:List D}{i:Int}{d:D}(h:atI ds i=some d):ixD (.lst ds) (.int i)=.ok d:=by show (match atI ds i with | some d=>R.ok d | none=>R.bad)=_; rw [h]
theorem z1D {ds:List D}{i:Int}{d:D}(h:atI ds i=some d):ixD (.frl ds) (.int i)=.ok d:=by show (match atI ds i with | some d=>R.ok d | none=>R.bad)=_; rw [h]
theorem Uj {x:Str}{i:Int}{c:Nat}(hz:x.length<=sizeLine)(h:atI x.cps.toList i=some c):ixD (.str x) (.int i)=.ok (.str ⟨#[c]⟩):=by show (if x.length<=sizeLine then (match atI x.cps.toList i with | some c=>R.ok (D.str ⟨#[c]⟩) | none=>R.bad) else R.bad)=_; rw [if_pos hz,h]
theorem uQ {a:D}{ds:List D}:ixD (.tup (a::ds)) (.int 0)=.ok a:=by
 have:atI (a::ds) 0=some a:=vT (j:=0) rfl
 show (match atI (a::ds) 0 with | some d=>R.ok d | none=>R.bad)=_; rw [this]
theorem ZE {a b:D}{ds:List D}:ixD (.tup (a::b::ds)) (.int 1)=.ok b:=by
 have:atI (a::b::ds) 1=some b:=vT (j:=1) rfl
 show (match atI (a::b::ds) 1 with | some d=>R.ok d | none=>R.bad)=_; rw [this]
theorem Xg {a b c:D}{ds:List D}:ixD (.tup (a::b::c::ds)) (.int 2)=.ok c:=by
 have:atI (a::b::c::ds) 2=some c:=vT (j:=2) rfl
 show (match atI (a::b::c::ds) 2 with | some d=>R.ok d | none=>R.bad)=_; rw [this]
theorem Wr {ds:List D}:yy [.lst ds]=.ok (.int ds.length):=rfl
theorem Jl {ds:List D}:yy [.frl ds]=.ok (.int ds.length):=rfl
theorem ZL {x:Str}(h:x.length<=sizeLine):yy [.str x]=.ok (.int x.length):=if_pos h
theorem jO:∀ ns:List Int,vi (ns.map D.int)=some ns
 | []=>rfl
 | n::ns=>by rw [tF]; show (vi (ns.map D.int)).map (n::·)=_; rw [jO ns]; rfl
theorem z2p {ns:List Int}:YX [.lst (ns.map D.int)]=.ok (.int ns.sum):=by
 simp only [YX,jO]
theorem uH {α:Type}{f:α->D}(h:∀ a,(f a).imm=true):∀ xs:List α,D.imms (xs.map f)=true
 | []=>rfl
 | x::xs=>by rw [tF]; show ((f x).imm&&D.imms (xs.map f))=true; rw [h,uH h xs]; rfl
theorem xP {asg:D->Tn->R Tn}{body:Tn->R Fl}(Iv:Nat->Tn->Prop):∀ (ds:List D) (k:Nat) (τ:Tn),Iv k τ ->
  (∀ i d τ,ds[i]?=some d->Iv (k+i) τ->∃ τ1 τ2,asg d τ=.ok τ1/\(body τ1=.ok (.nx τ2)\/body τ1=.ok (.ct τ2))/\Iv (k+i+1) τ2)->∃ τ',yY asg body ds τ=.ok (.nx τ')/\Iv (k+ds.length) τ'
 | [],k,τ,h0,_=>⟨τ,rfl,h0⟩
 | d::ds,k,τ,h0,hs=>by
  obtain ⟨τ1,τ2,e1,e2,h2⟩:=hs 0 d τ rfl h0
  obtain ⟨τ',e3,h3⟩:=xP Iv ds (k+1) τ2 (by simpa using h2) fun i d' τ' hd hi=>by
   obtain ⟨τ3,τ4,a,b,c⟩:=hs (i+1) d' τ' (by simpa using hd) (by rw [<- Nat.add_assoc,Nat.add_right_comm]; exact hi)
   have e:k+1+i+1=k+(i+1)+1:=by lia
   exact ⟨τ3,τ4,a,b,e▸c⟩
  refine ⟨τ',?_,by rw [tH,Nat.add_comm ds.length 1,<- Nat.add_assoc]; exact h3⟩
  unfold yY
  rw [e1,R.ok_bind]
  rcases e2 with e2 | e2<;>rw [e2,R.ok_bind]<;>exact e3
theorem yI {α:Type}{enc:α->D}{f:D->R (Option D)}{o:α->Option D}:∀ {xs:List α},(∀ x∈xs,f (enc x)=.ok (o x))->x8 f (xs.map enc)=.ok (xs.filterMap o)
 | [],_=>rfl
 | x::xs,h=>by
  rw [tF]
  unfold x8
  rw [h x tQ,R.ok_bind,yI fun y hy=>h y (tR _ hy),R.ok_bind]
  cases ho:o x with
  | none=>simp [sZ,ho]
  | some d=>simp [sZ,ho]
theorem kI {f:D->R (Option D)}{o:Nat->Option D}{lo:Int}{n:Nat}(h:∀ i,i<n->f (.int (lo+i))=.ok (o i)):x8 f (rng lo n)=.ok ((List.range n).filterMap o) :=
 yI (enc:=fun (i:Nat)=>.int (lo+i)) fun i hi=>h i (pG.mp hi)
theorem j5 {lo:Int}{n i:Nat}{d:D}(h:(rng lo n)[i]?=some d):i<n/\d=.int (lo+i):=by
 unfold rng at h
 rw [sM] at h
 by_cases hi:i<n
 ·rw [pE hi] at h
  exact ⟨hi,(Option.some.inj h).symm⟩
 ·rw [rR (by simp; lia)] at h; cases h
theorem Wx {lo:Int}{n:Nat}:(rng lo n).length=n:=by simp [rng]
theorem uo {j:Int}(h1:-(2 ^ 62)<=j)(h2:j<2 ^ 62):wC [.int j]=.ok (rng 0 j.toNat):=if_pos ⟨h1,h2⟩
theorem W8 {i j:Int}(h1:-(2 ^ 62)<=i)(h2:i<2 ^ 62)(h3:-(2 ^ 62)<=j)(h4:j<2 ^ 62):Zl [.int i,.int j]=.ok (rng i (j-i).toNat):=if_pos ⟨h1,h2,h3,h4⟩
theorem x5 {α:Type}(a:α):YE (R.ok a)=.ok a:=rfl
theorem Wq {x y:Str}(h:x.length+y.length<=sizeLine):zy (.str x) (.str y)=.ok (.str (x++y)):=if_pos h
theorem wt {i j:Int}:uJ (.int i) (.int j)=.ok (.int (i-j)):=rfl
theorem wF {i j:Int}:ltD (.int i) (.int j)=.ok (.bl (decide (i<j))):=rfl
theorem UZ {i j:Int}:leD (.int i) (.int j)=.ok (.bl (decide (i<=j))):=rfl
theorem z0l {i j:Int}:geD (.int i) (.int j)=.ok (.bl (decide (j<=i))):=rfl
theorem z1b {i:Int}:V2 (.int i)=.ok (.int (-i)):=rfl
theorem Kz {b:Bool}:kN [.bl b]=.ok (.int (if b then 1 else 0)):=rfl
theorem QI {ds:List D}{lo hi:Option Int}(h:D.imms ds=true):slD (.lst ds) lo hi=.ok (.lst (jN ds lo hi)):=if_pos h
theorem YO {ds:List D}(h:D.imms ds=true):yk [.lst ds]=.ok (.lst ds):=if_pos h
theorem vc {α β:Type}(f:α->β)(xs:List α):xs.filterMap (fun x=>some (f x))=xs.map f:=by
 induction xs with
 | nil=>rfl
 | cons x xs ih=>simp
theorem z3X {α β:Type}(p:α->Bool)(f:α->β)(xs:List α):xs.filterMap (fun x=>if p x=true then some (f x) else none)=(xs.filter p).map f:=by
 induction xs with
 | nil=>rfl
 | cons x xs ih =>
  by_cases h:p x=true
  ·simp [sZ,h,ih]
  ·simp [sZ,h,ih]
theorem jR {f:D->D->Option Bool}:∀ {ds:List D},(∀ d∈ds,f d d=some true)->y0 f ds ds=some true
 | [],_=>rfl
 | d::ds,h=>by
  unfold y0
  rw [h d tQ,jR fun x hx=>h x (tR _ hx)]
  rfl
theorem WB (n:Nat){xs:List D}(h:∀ d∈xs,eqF n d d=some true):eqF (n+1) (.tup xs) (.tup xs)=some true:=by
 show (y0 (eqF n) xs xs).map _=_
 rw [jR h]
 simp
theorem WQ {d:D}(hd:∀ ks xs,d≠.dic ks xs)(h:eqF 12 d d=some true):eqR false d d=.ok (.bl true):=by
 cases d with
 | dic ks xs=>exact absurd rfl (hd ks xs)
 | _=>simp only [eqR,h]<;>rfl
def Kp (i:Nat)(τ:Tn)(ds:List D)(d:D):R Fl:=if ds.length<sizeLine then .ok (.nx (τ.set i (some (.lst (ds++[d]))))) else .bad
def z1z (i:Nat)(t:Tn->R D)(τ:Tn):D->R Fl
 | .lst ds=>(t τ).bind fun d=>Kp i τ ds d
 | _=>.bad
theorem wa {i:Nat}{t:Tn->R D}{τ:Tn}:wN i t τ=(zb i τ).bind (z1z i t τ):=by
 unfold wN z1z Kp
 rfl
theorem wG {i:Nat}{t:Tn->R D}{τ:Tn}{ds:List D}:z1z i t τ (.lst ds)=(t τ).bind fun d=>Kp i τ ds d:=rfl
theorem wJ {i:Nat}{τ:Tn}{ds:List D}{d:D}(h:ds.length<16777216):Kp i τ ds d=.ok (.nx (τ.set i (some (.lst (ds++[d]))))):=if_pos (by rw [sizeLine_eq]; exact h)
def Ue (ys:List D):R D:=if ys.length<=sizeLine then .ok (.lst ys) else .bad
theorem xA {ys:List D}(h:ys.length<=16777216):Ue ys=.ok (.lst ys):=if_pos (by rw [sizeLine_eq]; exact h)
theorem yC {fr:List (Option Nat)}{it:Tn->R (List D)}{g:Tgt}{c:Tn->R Bool}{e:Tn->R D}{τ:Tn}:yE fr it g c e τ=(it τ).bind fun xs=>(x8 (ym g.asg c e (wQ fr τ)) xs).bind Ue:=rfl
theorem xx {τ:Tn}:wQ [] τ=[]:=rfl
theorem xB {fr:List (Option Nat)}{τ:Tn}:wQ (none::fr) τ=none::wQ fr τ:=rfl
theorem qf {i:Nat}{fr:List (Option Nat)}{τ:Tn}:wQ (some i::fr) τ=(τ[i]?).join::wQ fr τ:=rfl
theorem uO {a:Option D}:(some a).join=a:=rfl
def qX (d:D):R D:=if d.imm=true then .ok d else .bad
theorem zU {t:Tn->R D}{τ:Tn}:ya t τ=(t τ).bind qX:=rfl
theorem uG {i:Int}:qX (.int i)=.ok (.int i):=rfl
theorem Zb {s:Str}:qX (.str s)=.ok (.str s):=rfl
theorem uq {ds:List D}(h:D.imms ds=true):qX (.tup ds)=.ok (.tup ds):=if_pos h
theorem z00:D.imms []=true:=rfl
theorem Ju {i:Int}{ds:List D}:D.imms (.int i::ds)=D.imms ds:=rD _
theorem Js {i:Str}{ds:List D}:D.imms (.str i::ds)=D.imms ds:=rD _
theorem ZJ {asg:D->Tn->R Tn}{body:Tn->R Fl}{τ:Tn}:yY asg body [] τ=.ok (.nx τ):=rfl
def goF (asg:D->Tn->R Tn)(body:Tn->R Fl)(ds:List D):Fl->R Fl
 | .nx τ2=>yY asg body ds τ2
 | .ct τ2=>yY asg body ds τ2
 | .bk τ2=>.ok (.nx τ2)
 | .rt r=>.ok (.rt r)
theorem xh {asg:D->Tn->R Tn}{body:Tn->R Fl}{d:D}{ds:List D}{τ:Tn}:yY asg body (d::ds) τ=(asg d τ).bind fun τ1=>(body τ1).bind (goF asg body ds):=rfl
theorem xY {asg:D->Tn->R Tn}{body:Tn->R Fl}{ds:List D}{τ:Tn}:goF asg body ds (.nx τ)=yY asg body ds τ:=rfl
theorem UH {a:D}{ds:List D}:ixD (.lst (a::ds)) (.int 0)=.ok a:=qg (vT (j:=0) rfl)
theorem z2m {a b:D}{ds:List D}:ixD (.lst (a::b::ds)) (.int 1)=.ok b:=qg (vT (j:=1) rfl)
theorem xt {it:Tn->R (List D)}{g:Tgt}{B:Tn->R Fl}{τ:Tn}{ds:List D}{f:R Fl}(h1:it τ=.ok ds)(h2:yY g.asg B ds τ=f):yJ it g B τ=f:=by
 unfold yJ
 rw [h1]
 exact h2
section
variable {X:Cx}{E:XK}{Γ:List Cl}{e:Expr}{t:Tn->R D}{c:Rc}{pos p2:Pos}
end
section
variable {X:Cx}
end
section
variable {X:Cx}{tg:Expr}
end
section
variable {X:Cx}{E:XK}{Γ:List Cl}{tg:Expr}{u:Tn->R (List D)}{c:Rc}{p pos:Pos}
end
def xR:List D->R D
 | [.lst ds]=>if D.imms ds=true then .ok (.tup ds) else .bad
 | [.tup ds]=>if D.imms ds=true then .ok (.tup ds) else .bad
 | _=>.bad
theorem QJ:xp xR:=fun ds n h=>by
 unfold xR at h
 split at h
 ·split at h<;>cases h
 ·split at h<;>cases h
 ·cases h
theorem UN {K:PySem.W.Frag}:ClB K (fun xs H Q=>∃ p ys,xs=[.ref p]/\((SqL K H p ys/\∀ l,H l=none->Q (.ref l) (upd H l (.tup ys)))\/(SqT K H p ys/\Q (.ref p) H))) xR:=by
 rintro H xs ds L Q r ⟨d,hg,q⟩
 unfold xR at hg
 split at hg
 ·split at hg
  ·rename_i ds hz
   cases hg
   obtain ⟨v,rfl,a,vs,L',rfl,ha,_,rs⟩:=xK r
   have rs0:=yL rs hz
   refine ⟨a,vs,rfl,.inl ⟨SqL.of ha,fun l hl=>q _ _ [] (Same.new hl) ⟨l,vs,rfl,SqT.of zG,rs0.same (Same.new hl)⟩ (by simp) (fun a ha=>nomatch ha)⟩⟩
  ·cases hg
 ·split at hg
  ·rename_i ds hz
   cases hg
   obtain ⟨v,rfl,a,vs,rfl,ha,rs⟩:=xK r
   have rs0:=yL rs hz
   exact ⟨a,vs,rfl,.inr ⟨ha,q _ H [] (Same.refl H) ⟨a,vs,rfl,ha,rs0⟩ (by simp) (fun a ha=>nomatch ha)⟩⟩
  ·cases hg
 ·cases hg
theorem jx:∀ {bs:List Bool} {us:List Value},Vals (bs.map V.bl) us->us=bs.map Value.bool
 | [],us,r=>by cases r; rfl
 | b::bs,_,r=>by
  rw [tF] at r
  cases r with
  | cons r1 r2 =>
   obtain rfl:_=Value.bool b:=r1
   rw [tF,jx r2]
theorem Jb (bs:List Bool):((List.range bs.length).all fun i=>(bs[i]?).getD true)=bs.all id:=by
 rw [Bool.eq_iff_iff,pV,pV]
 constructor
 ·intro h b hb
  obtain ⟨i,hi,e⟩:=List.getElem_of_mem hb
  have:=h i (pG.mpr hi)
  rw [tU hi,e] at this
  exact this
 ·intro h i hi
  have hi:=pG.mp hi
  rw [tU hi]
  exact h _ (rM hi)
def z08 (K:PySem.W.Frag):List V->Hp->VK->Prop:=fun xs H Q=>∃ (p:Addr) (bs:List Bool),xs=[.ref p]/\SqL K H p (bs.map V.bl)/\Q (.bl (bs.all id)) H
section
variable {X:Cx}
theorem WW (hc:X.calm=true):CallR X (.builtin "all") (z08 X.K):=by
 intro pins s σ H xs us Q I r h
 obtain ⟨p,bs,rfl,hs,q⟩:=h
 obtain ⟨u,rfl,ru⟩:=wZ r
 obtain rfl:u=Value.ref p:=ru
 obtain ⟨its,rv,pl,hz⟩:=I.list hs
 have e:=jx rv
 subst e
 have hl:s.heap.IsList p (bs.map Value.bool).toArray:=pl.isList
 have hlt:p<s.heap.objs.size:=by obtain ⟨_,e,_⟩:=hl; exact Heap.lt_size e
 refine call_all_walk (wpAny_pyIter_list hl ?_)
 refine ⟨_,_,_,_,_,_,fun i=>(bs[i]?).getD true,rfl,Walks.list (A:=X.A.in1) (I.ok.hd hc) _ p (sV hlt) (bs.map Value.bool).toArray,⟨⟨_,Heap.get?_push_size _ rfl,rfl,rfl⟩,hl.push _⟩,fun i v s' Q' E' hP hQ=>?_,fun h' tk hk=>?_⟩
 ·have hP:(bs.map Value.bool)[i]?=some v:=by simpa using hP
  rw [sM] at hP
  cases hb:bs[i]? with
  | none=>rw [hb] at hP; cases hP
  | some b =>
   rw [hb] at hP
   cases hP
   simp only [hb,Option.getD_some] at hQ
   exact wpAny_truthy_bool hQ
 ·have e:((List.range (bs.map Value.bool).toArray.size).all fun i=>(bs[i]?).getD true)=bs.all id:=by
   rw [sG,tP]
   exact Jb bs
  rw [e]
  refine ⟨.bl (bs.all id),H,I.kept fun b o eb=>hk b o (fun hm=>?_) (Heap.get?_push_of_some _ eb),rfl,q⟩
  rw [sN.mp hm] at eb
  exact rX _ (Heap.lt_size eb)
end
def vn:List D->Option (List Bool)
 | []=>some []
 | .bl b::ds=>(vn ds).map (b::·)
 | _=>none
theorem uI {K:PySem.W.Frag}{H:Hp}:∀ {ds:List D} {bs:List Bool} {vs:List V} {L:List Addr},Reps K H ds vs L->vn ds=some bs->vs=bs.map V.bl
 | [],bs,_,_,hq4,h=>by
  obtain ⟨e,_⟩:=hq4
  cases h; exact e
 | .bl b::ds,bs,_,_,hq4,h=>by
  obtain ⟨v,vs',L1,L2,e1,e2,r1,r2⟩:=hq4
  unfold vn at h
  cases hb:vn ds with
  | none=>rw [hb] at h; cases h
  | some cs =>
   rw [hb] at h
   cases h
   rw [e1,r1.1,uI r2 hb]
   rfl
 | .non::_,_,_,_,_,h=>by cases h
 | .int _::_,_,_,_,_,h=>by cases h
 | .str _::_,_,_,_,_,h=>by cases h
 | .tup _::_,_,_,_,_,h=>by cases h
 | .lst _::_,_,_,_,_,h=>by cases h
 | .dic _ _::_,_,_,_,_,h=>by cases h
 | .frl _::_,_,_,_,_,h=>by cases h
def Xk:List D->R D
 | [.lst ds]=>match vn ds with
  | some bs=>.ok (.bl (bs.all id))
  | none=>.bad
 | _=>.bad
theorem z2X:xp Xk:=fun ds n h=>by
 unfold Xk at h
 split at h
 ·split at h<;>cases h
 ·cases h
theorem z33 {K:PySem.W.Frag}:ClB K (z08 K) Xk:=by
 rintro H xs ds L Q r ⟨d,hg,q⟩
 unfold Xk at hg
 split at hg
 ·split at hg
  ·rename_i ds bs hn
   cases hg
   obtain ⟨v,rfl,a,vs,L',rfl,ha,_,rs⟩:=xK r
   exact ⟨a,bs,rfl,by rw [<- uI rs hn]; exact SqL.of ha,q _ H [] (Same.refl H) ⟨rfl,rfl⟩ (by simp) (fun a ha=>nomatch ha)⟩
  ·cases hg
 ·cases hg
def eSm (g:Str->List D->R D)(t:Tn->R D)(u:Tn->R (List D)):Tn->R D:=fun τ=>(t τ).bind fun d=>match d with
 | .str z=>(u τ).bind fun ds=>g z ds
 | _=>.bad
def SmB (K:PySem.W.Frag)(r:V->List V->Hp->VK->Prop)(g:Str->List D->R D):Prop :=
 ∀ H z xs ds L (Q:VK),Reps K H ds xs L->(∃ d,g z ds=.ok d/\∀ v H' L',Same H H'->Rep K H' d v L'->L'.Nodup->(∀ a∈L',H a=none)->Q v H')->r (.str z) xs H Q
section
variable {X:Cx}{E:XK}{Γ:List Cl}{o e:Expr}{es:List Expr}{t:Tn->R D}{u:Tn->R (List D)}{c ca:Rc}{name:Str}{apos cpos:Pos}{id:String}
theorem Yv {r:V->List V->Hp->VK->Prop}{g:Str->List D->R D}(pa:PlainAttrs "str")(slot:Slot "str" name id)(hty:typeOf (.builtin id)=pure (.type "method_descriptor"))(hm:MtR X id r)(hB:SmB X.K r g)(hn:∀ z,xp (g z))(ho:ME X E Γ o t c)(ha:MA X E Γ (e::es) u ca)
  (hbase:autoParam (attributeBase o name X.env (eval o X.env)=eval o X.env) L2.au3._auto_1)
  (hfew:autoParam (((backTo cpos (starEach (e::es) X.env)).all (fun x=>!x.1)&&(backToKw cpos (keywordEach [] X.env)).all (fun x=>x.1.isSome)
   && decide ((e::es).length+([]:List Keyword).length+(if ([]:List Keyword).isEmpty then 0 else 1)<30))=true) L2.au3._auto_1)
  (hline:autoParam ((apos.endLine==cpos.line)=true) L2.au3._auto_1) (hs:autoParam (starEach (e::es) X.env=(false,eval e X.env)::starEach es X.env) L2.au3._auto_1) (hplain:autoParam ((backTo cpos (starEach es X.env)).any (·.1)=false) L2.au3._auto_1) :
  ME X E Γ (.Call (.Attribute o name apos) (e::es) [] cpos) (eSm g t u) .fresh:=by
 obtain ⟨te,p,q⟩:=ho
 obtain ⟨_,ta',p',q'⟩:=ha
 refine ⟨_,z04 pa slot hty hm p p' hbase hfew hline hs hplain,fun O σ H τ Q ok h=>?_⟩
 unfold eSm at h
 refine q O σ H τ _ ok (post.bind h fun d hd h x H1 L1 s1 r1 _=>?_)
 cases d with
 | str z =>
  obtain ⟨rfl,_⟩:=r1
  refine ⟨rfl,q' O σ H1 τ _ (ok.same s1) ?_⟩
  dsimp only at h
  cases hu:u τ with
  | ok ds =>
   rw [hu,R.ok_bind] at h
   refine fun vs H2 L s2 r2 _=>?_
   cases hg:g z ds with
   | ok d =>
    rw [hg] at h
    exact hB H2 z vs ds L Q r2 ⟨d,hg,fun v H' L s r n1 n2=>h v H' L ((s1.trans s2).trans s) r ⟨n1,fun a ha=>(s1.trans s2).non (n2 a ha)⟩⟩
   | err n=>exact absurd hg (hn _ _ _)
   | bad=>rw [hg] at h; exact h.elim
  | err n=>rw [hu] at h; exact fun C H' e s'=>h C H' e (s1.trans s')
  | bad=>rw [hu] at h; exact h
 | _=>exact h.elim
end
def vH:List D->Option (List Str)
 | []=>some []
 | .str b::ds=>(vH ds).map (b::·)
 | _=>none
theorem vL {K:PySem.W.Frag}{H:Hp}:∀ {ds:List D} {bs:List Str} {vs:List V} {L:List Addr},Reps K H ds vs L->vH ds=some bs->vs=bs.map V.str
 | [],bs,_,_,hq4,h=>by
  obtain ⟨e,_⟩:=hq4
  cases h; exact e
 | .str b::ds,bs,_,_,hq4,h=>by
  obtain ⟨v,vs',L1,L2,e1,e2,r1,r2⟩:=hq4
  unfold vH at h
  cases hb:vH ds with
  | none=>rw [hb] at h; cases h
  | some cs =>
   rw [hb] at h
   cases h
   rw [e1,r1.1,vL r2 hb]
   rfl
 | .non::_,_,_,_,_,h=>by cases h
 | .int _::_,_,_,_,_,h=>by cases h
 | .bl _::_,_,_,_,_,h=>by cases h
 | .tup _::_,_,_,_,_,h=>by cases h
 | .lst _::_,_,_,_,_,h=>by cases h
 | .dic _ _::_,_,_,_,_,h=>by cases h
 | .frl _::_,_,_,_,_,h=>by cases h
theorem qd:∀ {ys:List Str} {us:List Value},Vals (ys.map V.str) us->StrsAre us ys
 | [],us,r=>by cases r; exact .nil
 | y::ys,_,r=>by
  rw [tF] at r
  cases r with
  | cons r1 r2 =>
   obtain ⟨t,rfl⟩:=r1
   exact .cons y t (qd r2)
def z0k (K:PySem.W.Frag):V->List V->Hp->VK->Prop:=fun x xs H Q=>∃ z p ys,x=.str z/\xs=[.ref p]/\(SqL K H p (ys.map V.str)\/SqT K H p (ys.map V.str))/\(ys.map (·.length)).sum+ys.length*z.length<=16777216/\Q (.str (Txt.join z ys)) H
theorem jF {X:Cx}:MtR X "str.join" (z0k X.K):=by
 intro pins s σ H x xs v us Q I rx rs h
 obtain ⟨z,p,ys,rfl,rfl,hq,hz,q⟩:=h
 obtain ⟨t,rfl⟩:=rx
 obtain ⟨u,rfl,ru⟩:=wZ rs
 obtain rfl:u=Value.ref p:=ru
 rcases hq with hq | hq
 ·obtain ⟨its,r,pl,_⟩:=I.list hq
  exact join_list pl.isList (by simpa using qd r) hz fun t' k=>⟨.str (Txt.join z ys),H,I.tok _,⟨t',rfl⟩,q⟩
 ·obtain ⟨its,r,pl,_⟩:=I.tuple hq
  exact join_tuple pl (by simpa using qd r) hz fun t' k=>⟨.str (Txt.join z ys),H,I.tok _,⟨t',rfl⟩,q⟩
def xW (z:Str):List D->R D
 | [.lst ds]=>match vH ds with
  | some ys=>if (ys.map (·.length)).sum+ys.length*z.length<=16777216 then .ok (.str (Txt.join z ys)) else .bad
  | none=>.bad
 | [.tup ds]=>match vH ds with
  | some ys=>if (ys.map (·.length)).sum+ys.length*z.length<=16777216 then .ok (.str (Txt.join z ys)) else .bad
  | none=>.bad
 | _=>.bad
theorem XH (z:Str):xp (xW z):=fun ds n h=>by
 unfold xW at h
 split at h
 ·split at h
  ·split at h<;>cases h
  ·cases h
 ·split at h
  ·split at h<;>cases h
  ·cases h
 ·cases h
theorem XC {K:PySem.W.Frag}:SmB K (z0k K) xW:=by
 rintro H z xs ds L Q r ⟨d,hg,q⟩
 unfold xW at hg
 split at hg
 ·split at hg
  ·rename_i ds ys hn
   split at hg
   ·rename_i hz
    cases hg
    obtain ⟨v,rfl,a,vs,L',rfl,ha,_,rs⟩:=xK r
    exact ⟨z,a,ys,rfl,rfl,.inl (by rw [<- vL rs hn]; exact SqL.of ha),hz,q _ H [] (Same.refl H) ⟨rfl,rfl⟩ (by simp) (fun a ha=>nomatch ha)⟩
   ·cases hg
  ·cases hg
 ·split at hg
  ·rename_i ds ys hn
   split at hg
   ·rename_i hz
    cases hg
    obtain ⟨v,rfl,a,vs,rfl,ha,rs⟩:=xK r
    exact ⟨z,a,ys,rfl,rfl,.inr (by rw [<- vL rs hn]; exact ha),hz,q _ H [] (Same.refl H) ⟨rfl,rfl⟩ (by simp) (fun a ha=>nomatch ha)⟩
   ·cases hg
  ·cases hg
 ·cases hg
theorem TupN.push {h:Heap}{a:Addr}{items:Array Value}(x:TupN h a items)(o:Obj):TupN (h.push o) a items:=let ⟨o',ho,r⟩:=x; ⟨o',Heap.get?_push_of_some o ho,r⟩
theorem TupN.at {h h':Heap}{a:Addr}{items:Array Value}(x:TupN h a items)(k:∀ b o,h.get? b=some o->h'.get? b=some o):TupN h' a items:=let ⟨o',ho,r⟩:=x; ⟨o',k _ _ ho,r⟩
theorem TupN.isTuple {h:Heap}{a:Addr}{items:Array Value}(x:TupN h a items):h.IsTuple a items:=x.tup
theorem ui {h h':Heap}{a:Addr}{items:Array Value}(x:h.IsTuple a items)(k:∀ b o,h.get? b=some o->h'.get? b=some o):h'.IsTuple a items:=let ⟨o',ho,r⟩:=x; ⟨o',k _ _ ho,r⟩
theorem Inv.tupN {X:Cx}{pins:List (Addr×Obj)}{σ:St}{H:Hp}{s:Shared}{a:Addr}{xs:List V}(I:Inv X pins σ H s)(h:SqT X.K H a xs):∃ its:List Value,Vals xs its/\TupN s.heap a its.toArray/\xs.length<=sizeLine:=by
 rcases h with h | ⟨o,its,n,hk,hc,hn,hs,hz,r⟩
 ·obtain ⟨z,its,r,p⟩:=h.ok I.hok
  exact ⟨its,r,p,z⟩
 ·refine ⟨its.toList,r,⟨o,I.kIn a o hk,hc,hn,n,by simpa using hs⟩,?_⟩
  have e:=r.length
  simp only [Array.length_toList] at e
  omega
theorem qV:typeLookup (.type "tuple") "keys"=pure none:=by rw [typeLookup_type,builtinLookup_eq_fast]; kernel_rfl
set_option maxRecDepth 8000 in
theorem vW {prog:Program}{w:World}{A:Around}{E:Value->Shared->Prop}{s:Shared}{a:Addr}{o:Obj}{xs:Array Value}{k:Nat}{name:Str}{Q:Option Value->Shared->Prop}
  (hx:s.heap.get? a=some o) (hc:o.cls=.type "tuple") (hdat:o.data=.seq xs k) (hd:o.dict=none) (hmiss:typeLookup (.type "tuple") name=pure none) (hname:(["__module__","__name__","__qualname__","__doc__","__annotations__"]:List Str).contains name=false) (hA:A.handled=none)
  (h:∀ h' tk,(∀ b o,s.heap.get? b=some o->h'.get? b=some o)->Q none { s with heap:=h',toks:=tk }) (hsz:autoParam (name.length+100<=sizeLine) L2.au9._auto_1) :
  wpAny (model prog w) A (getAttr? (.ref a) name) Q E s:=by
 obtain ⟨c,dct,dat,sl⟩:=o
 simp only at hc hdat hd
 subst hc hdat hd
 obtain ⟨hp,g,d,tk,os⟩:=s
 have hT:∀ tk',(⟨hp,g,d,tk',os⟩:Shared).TypeIs (.ref a) "tuple":=fun _=>⟨_,hx,rfl⟩
 have f1:=sub_AttributeError
 have f3:=PySem.F.slot_tuple_getattribute.lookup
 have f4:=PySem.F.slot_tuple_getattribute.bind (.ref a)
 have f5:=am_tuple_getattr_none
 unfold getAttr? getAttrBy? getAttrBy
 repeat (any_goals (first | assumption | exact hT _ | ((with_reducible show wpAny _ _ (call (Value.builtin "tuple.__getattribute__") _ _) _ _ _); refine call_meets PySem.F.slot_tuple_getattribute (hT _) am_entry_tuple_getattribute (PySem.F.args_tuple_getattribute_2 _ _) (meets_getattribute_miss_tuple a xs k sl name _ hmiss hname hsz) ⟨hx,hA,fun h' tk' e hx'=>?_⟩) | wp_step))
 obtain ⟨t',u',he⟩:=hx'.there
 have hkeep:=hx'.of.keeps
 show wpAny _ _ (getattributeRaised _ _ _ _ _ _ _) _ _ _
 unfold getattributeRaised
 repeat (any_goals (first | assumption | wp_step))
 all_goals exact h _ _ hkeep
theorem xH:entryFor table "dict.update.loop"=some Builtin.«dict.update.loop»:=entryFor_of_tree (by kernel_rfl)
theorem yp:plainId "dict.update.loop"=true:=by decide +kernel
def PairsAt (P:Program)(w:World)(h:Heap):List Value->List (Key×Value)->Prop:=Paired fun (v:Value) (p:Key×Value)=>∃ b key,v=.ref b/\h.IsTuple b #[key,p.2]/\(zM P w).is p.1 key=true
theorem PairsAt.get {P:Program}{w:World}{h:Heap}:∀ {its:List Value} {ps:List (Key×Value)} {i:Nat},PairsAt P w h its ps->i<its.length->∃ b key p,its[i]?=some (.ref b)/\ps[i]?=some p/\h.IsTuple b #[key,p.2]/\(zM P w).is p.1 key=true
 | _,_,i,.nil,hi=>by simp at hi
 | _,_,0,.cons (a:=v) (b:=p) r t,_=>by
  obtain ⟨b,key,e,x,y⟩:=r
  exact ⟨b,key,p,by rw [e]; rfl,rfl,x,y⟩
 | _,_,i+1,.cons r t,hi=>by
  obtain ⟨b,key,p,e,e2,x,y⟩:=PairsAt.get (i:=i) t (by simpa using hi)
  exact ⟨b,key,p,by simpa using e,by simpa using e2,x,y⟩
section
variable {prog:Program}{w:World}{A:Around}{R:Result->Shared->Prop}
theorem qN {h0:Heap}{d I t:Addr}{items:List Value}{ps:List (Key×Value)}(hh:A.in1.handled=none)(hd0:h0.get? d=none)(hI0:h0.get? I=none)(hdI:d≠I)(ht0:h0.IsTuple t items.toArray)(hp:PairsAt prog w h0 items ps)(hz:ps.length<=sizeLine) :
  ∀ (k i:Nat) (j:Int) (tk:Tok) (s:Shared),items.length-i=k->i<=items.length->s.heap.IsTupleIter I t i->s.heap.DictOf (zM prog w) d (merged [] (ps.take i))->(∀ b o,h0.get? b=some o->s.heap.get? b=some o) ->
   (∀ h' tk',h'.DictOf (zM prog w) d (merged [] ps)->(∀ b o,h0.get? b=some o->h'.get? b=some o)->R (.ok (.ret .none)) { s with heap:=h',toks:=tk' }) ->
   codeAny (model prog w) A (.builtin "dict.update.loop" ⟨[.ref d,.ref I,.int j tk,.none],[]⟩) R s:=by
 have hlen:items.length=ps.length:=Paired.length hp
 have hne:∀ {b o},h0.get? b=some o->b≠d/\b≠I:=fun {b o} e=>⟨(fun z=>by rw [z,hd0] at e; cases e),(fun z=>by rw [z,hI0] at e; cases e)⟩
 intro k
 induction k with
 | zero =>
  intro i j tk s hk hi hit hD hkeep hR
  have hin:i=items.length:=by omega
  subst hin
  refine codeAny_builtin xH ?_
  rw [Around.under_plainId yp _]
  show wpAny _ A.in1 (pyNext (.ref I) >>= _) _ _ s
  refine wpAny_bind (wpAny_pyNext_tuple_end hh hit (ui ht0 hkeep) (by simp) fun h' eb=>?_)
  show wpAny _ A.in1 (Builtin.Dict.addKeywords d [] >>= _) _ _ _
  refine wpAny_bind (wpAny_pure (wpAny_pure (hR h' s.toks ?_ fun b o e=>eb b o (hne e).2 (hkeep b o e))))
  obtain ⟨o,es,ep,ho,rest⟩:=hD
  rw [hlen,List.take_length] at rest
  exact ⟨o,es,ep,eb d o hdI ho,rest⟩
 | succ k ih =>
  intro i j tk s hk hi hit hD hkeep hR
  have hlt:i<items.length:=by omega
  obtain ⟨b,key,p,e1,e2,x,y⟩:=hp.get hlt
  refine codeAny_builtin xH ?_
  rw [Around.under_plainId yp _]
  show wpAny _ A.in1 (pyNext (.ref I) >>= _) _ _ s
  refine wpAny_bind (wpAny_pyNext_tuple_item hit (ui ht0 hkeep) (x:=.ref b) (by simpa using e1) fun h1 hit1 sb1=>?_)
  have hkeep1:∀ b o,h0.get? b=some o->h1.get? b=some o:=fun b o e=>(sb1.2 b (hne e).2).trans (hkeep b o e)
  have hD1:h1.DictOf (zM prog w) d (merged [] (ps.take i)):=by
   obtain ⟨o,es,ep,ho,rest⟩:=hD
   exact ⟨o,es,ep,(sb1.2 d hdI).trans ho,rest⟩
  have x1:=ui x hkeep1
  show wpAny _ A.in1 (holding [Value.ref b] _ >>= _) _ _ _
  refine wpAny_bind (wpAny_holding ?_)
  refine wpAny_bind (wpAny_tryCatch ?_)
  obtain ⟨ob,hob,hcb,nb,hdb⟩:=x1
  unfold Builtin.Dict.pairItems
  refine wpAny_bind (wpAny_typeOf ⟨ob,hob,hcb⟩ ?_)
  rw [if_pos (by decide)]
  refine wpAny_bind (wpAny_seqItems hob hdb ?_)
  refine wpAny_pure ?_
  show wpAny _ A.in1 (holding [key,p.2] (dictSet d key p.2)) _ _ _
  have hz1:(merged [] (ps.take i)).length<=sizeLine:=by
   have:=merged_length_le [] (ps.take i)
   rw [sW] at this
   simp only [tM] at this
   omega
  refine wpAny_holding (wpAny_dictSet_pairs (hsz:=hz1) y hD1 fun h2 hD2 sb2=>?_)
  rw [<- merged_take_succ [] ps i p e2] at hD2
  refine wpAny_pure ⟨plainId_quiet yp _,ih (i+1) _ _ _ (by omega) hlt ?_ hD2 (fun b o e=>(sb2.2 b (hne e).1).trans (hkeep1 b o e)) ?_⟩
  ·obtain ⟨oi,hoi,r⟩:=hit1
   exact ⟨oi,(sb2.2 I (Ne.symm hdI)).trans hoi,r⟩
  ·exact hR
end
section
variable {prog:Program}{w:World}{A:Around}{E:Value->Shared->Prop}{s:Shared}
theorem qO {t:Addr}{items:List Value}{ps:List (Key×Value)}{Q:Value->Shared->Prop}(hh:A.handled=none)(ht:TupN s.heap t items.toArray)(hp:PairsAt prog w s.heap items ps)(hz:ps.length<=sizeLine)
  (h:∀ h' tk,h'.DictOf (zM prog w) s.heap.objs.size (merged [] ps)->(∀ b o,s.heap.get? b=some o->h'.get? b=some o)->Q (.ref s.heap.objs.size) { s with heap:=h',toks:=tk }) :
  wpAny (model prog w) A (call (.type "dict") [.ref t]) Q E s:=by
 refine callType_codes (Q₁:=fun obj s₁=>obj=.ref s.heap.objs.size/\s₁={ s with heap:=s.heap.push { cls:=.type "dict",data:=.dict #[] } }) PySem.F.kt_called_dict (PySem.F.kt_typeCall_dict_1 _) PySem.F.entry_dict_init (kt_code_dict_new _ ⟨rfl,rfl⟩) ?_
 rintro obj s₁ ⟨rfl,rfl⟩
 have hnew:(s.heap.push { cls:=.type "dict",data:=.dict #[] }).DictOf (zM prog w) s.heap.objs.size []:=Heap.DictOf.new s.heap
 have ht':=ht.push { cls:=.type "dict",data:=.dict #[] }
 refine ⟨hnew.typeIs,PySem.F.args_dict_init_2 _ _,?_⟩
 unfold Builtin.«dict.__init__»
 refine wpAny_bind ?_
 unfold Builtin.Dict.selfAndRest
 refine wpAny_bind (wpAny_notOrdered_dict hnew.typeIs ?_)
 show wpAny _ _ (pure (s.heap.objs.size,[Value.ref t])) _ _ _
 refine wpAny_pure ?_
 show wpAny _ _ (Builtin.Dict.updateFrom "dict.__init__" s.heap.objs.size (.ref t) [] .none) _ _ _
 unfold Builtin.Dict.updateFrom
 obtain ⟨ot,ht1,ht2,⟨ht3,_⟩,nt,ht4⟩:=ht'
 refine wpAny_bind (wpAny_typeOf ⟨ot,ht1,ht2⟩ ?_)
 rw [if_pos (by decide)]
 refine wpAny_bind (vW ht1 ht2 ht4 ht3 qV (by decide) hh (fun h1 tk1 k1=>?_) (by size_fits))
 rw [if_pos (show (none:Option Value).isNone=true from rfl)]
 refine wpAny_bind (wpAny_rule ?_)
 have hlt:s.heap.objs.size<h1.objs.size:=by
  have:h1.get? s.heap.objs.size=some _:=k1 _ _ (Heap.get?_push_size s.heap (o:={ cls:=.type "dict",data:=.dict #[] }) rfl)
  exact Heap.lt_size this
 have hk01:∀ b o,s.heap.get? b=some o->h1.get? b=some o:=fun b o e=>k1 b o (Heap.get?_push_of_some _ e)
 refine wpAny_bind (wpAny_pyIter_tuple (ht.at hk01).isTuple ?_)
 have hfr:∀ b,s.heap.objs.size<=b->s.heap.get? b=none:=fun b hb=>by
  cases e:s.heap.get? b with
  | none=>rfl
  | some o=>exact absurd (Heap.lt_size e) (Nat.not_lt.mpr hb)
 refine wpAny_pure ⟨plainId_quiet yp _,qN (A:=A.in1) (h0:=s.heap) (d:=s.heap.objs.size) (I:=h1.objs.size) (t:=t) (items:=items) (ps:=ps) hh (hfr _ (tY _)) (hfr _ (Nat.le_of_lt hlt)) (sV hlt) ht.isTuple hp hz (items.length-0) 0 0 0 _ rfl (rO _) ⟨_,Heap.get?_push_size _ rfl,rfl,rfl⟩ ?_ (fun b o e=>Heap.get?_push_of_some _ (hk01 b o e)) ?_⟩
 ·obtain ⟨o,es,ep,ho,rest⟩:=hnew
  exact ⟨o,es,ep,Heap.get?_push_of_some _ (k1 _ _ ho),rest⟩
 ·exact fun h' tk' hD hk=>⟨rfl,h h' tk' hD hk⟩
end
def vF {β:Type}:List Key->List β->Key->β->List β
 | k'::ks,x::xs,k,y=>(if k'=k then y else x)::vF ks xs k y
 | _,_,_,_=>[]
def xy (ks:List Key)(ds:List D)(k:Key)(d:D):List Key×List D:=if k∈ks then (ks,vF ks ds k d) else (ks++[k],ds++[d])
def xC:List Key->List D->List (Key×D)->List Key×List D
 | ks,ds,[]=>(ks,ds)
 | ks,ds,(k,d)::r=>xC (xy ks ds k d).1 (xy ks ds k d).2 r
section
variable {K:PySem.W.Frag}{H:Hp}
theorem K1:∀ {kvs:List (Key×V)} {k:Key} {v:V},k∈kvs.map (·.1)->xJ kvs k v=kvs.map (fun kv=>if kv.1=k then (kv.1,v) else kv):=by
 intro kvs k v h
 unfold xJ
 rw [if_pos]
 rw [List.any_eq_true]
 obtain ⟨p,hp,e⟩:=rZ.mp h
 exact ⟨p,hp,by simpa using e⟩
theorem YJ:∀ (kvs:List (Key×V)) (k:Key) (v:V),(kvs.map (fun kv=>if kv.1=k then (kv.1,v) else kv)).map (·.1)=kvs.map (·.1)
 | [],_,_=>rfl
 | p::r,k,v=>by
  rw [tF,tF,tF,YJ r k v]
  congr 1
  split<;>rfl
theorem Yu:∀ (kvs:List (Key×V)) (k:Key) (v:V),(kvs.map (fun kv=>if kv.1=k then (kv.1,v) else kv)).map (·.2)=vF (kvs.map (·.1)) (kvs.map (·.2)) k v
 | [],_,_=>rfl
 | p::r,k,v=>by
  rw [tF,tF,tF,tF,Yu r k v]
  show _=(if p.1=k then v else p.2)::_
  congr 1
  split<;>rfl
theorem Reps.repl {k:Key}{d:D}{v:V}(rd:Rep K H d v []):∀ {ks:List Key} {ds:List D} {vs:List V} {L:List Addr},Reps K H ds vs L->ks.length=ds.length->∃ L2,Reps K H (vF ks ds k d) (vF ks vs k v) L2/\List.Sublist L2 L
 | [],[],_,_,hq4,_=>by
  obtain ⟨e1,e2⟩:=hq4
  exact ⟨[],by subst e1; exact Reps.nil,pN _⟩
 | [],_::_,_,_,_,h=>by cases h
 | _::_,[],_,_,_,h=>by cases h
 | k'::ks,d'::ds,_,_,hq4,h=>by
  obtain ⟨v',vs',L1,L2,e1,e2,h1,h2⟩:=hq4
  subst e1 e2
  obtain ⟨L3,a,b⟩:=Reps.repl (ks:=ks) rd h2 (by simpa using h)
  by_cases e:k'=k
  ·refine ⟨[]++L3,?_,?_⟩
   ·show Reps K H ((if k'=k then d else d')::vF ks ds k d) ((if k'=k then v else v')::vF ks vs' k v) _
    rw [if_pos e,if_pos e]
    exact Reps.cons rd a
   ·exact b.trans (rQ _ _)
  ·refine ⟨L1++L3,?_,List.Sublist.append (List.Sublist.refl _) b⟩
   show Reps K H ((if k'=k then d else d')::vF ks ds k d) ((if k'=k then v else v')::vF ks vs' k v) _
   rw [if_neg e,if_neg e]
   exact Reps.cons h1 a
theorem Wa {kvs:List (Key×V)}{ds:List D}{L:List Addr}{k:Key}{d:D}{v:V}(rs:Reps K H ds (kvs.map (·.2)) L)(nd:(kvs.map (·.1)).Nodup)(rd:Rep K H d v []) :
  (xJ kvs k v).map (·.1)=(xy (kvs.map (·.1)) ds k d).1/\(xy (kvs.map (·.1)) ds k d).1.Nodup/\∃ L2,Reps K H (xy (kvs.map (·.1)) ds k d).2 ((xJ kvs k v).map (·.2)) L2/\List.Sublist L2 L:=by
 unfold xy
 by_cases h:k∈kvs.map (·.1)
 ·rw [if_pos h,K1 h,YJ,Yu]
  refine ⟨rfl,nd,Reps.repl rd rs ?_⟩
  rw [<- rs.length,tP,tP]
 ·rw [if_neg h,je h]
  refine ⟨by rw [sP]; rfl,?_,L,?_,List.Sublist.refl _⟩
  ·refine sI.mpr ⟨nd,by simp,fun a ha b hb z=>?_⟩
   rw [sN] at hb
   subst hb z
   exact h ha
  ·rw [sP]
   have:=Reps.append rs (Reps.cons rd (Reps.nil (K:=K) (H:=H)))
   rw [sF,sF] at this
   exact this
theorem kP:∀ (ps:List (Key×D)) (qs:List (Key×V)) (kvs:List (Key×V)) (ds:List D),Paired (fun (p:Key×D) (q:Key×V)=>p.1=q.1/\Rep K H p.2 q.2 []) ps qs->Reps K H ds (kvs.map (·.2)) []->(kvs.map (·.1)).Nodup ->
  (xn kvs qs).map (·.1)=(xC (kvs.map (·.1)) ds ps).1/\(xC (kvs.map (·.1)) ds ps).1.Nodup/\Reps K H (xC (kvs.map (·.1)) ds ps).2 ((xn kvs qs).map (·.2)) []
 | [],_,kvs,ds,h,rs,nd=>by
  cases h
  exact ⟨rfl,nd,rs⟩
 | p::ps,_,kvs,ds,h,rs,nd=>by
  cases h with
  | @cons _ q _ qs e t =>
   obtain ⟨e1,e2⟩:=e
   obtain ⟨a1,a2,L2,a3,a4⟩:=Wa (k:=p.1) rs nd e2
   have z:L2=[]:=by simpa using a4
   subst z
   obtain ⟨b1,b2,b3⟩:=kP ps qs (xJ kvs p.1 q.2) _ t a3 (a1▸a2)
   show (xn (xJ kvs q.1 q.2) qs).map (·.1)=(xC (xy (kvs.map (·.1)) ds p.1 p.2).1 (xy (kvs.map (·.1)) ds p.1 p.2).2 ps).1/\_
   rw [<- e1,<- a1]
   refine ⟨b1,?_,?_⟩
   ·show (xC (xy (kvs.map (·.1)) ds p.1 p.2).1 (xy (kvs.map (·.1)) ds p.1 p.2).2 ps).1.Nodup
    rw [<- a1]; exact b2
   ·show Reps K H (xC (xy (kvs.map (·.1)) ds p.1 p.2).1 (xy (kvs.map (·.1)) ds p.1 p.2).2 ps).2 ((xn (xJ kvs q.1 q.2) qs).map (·.2)) []
    rw [<- a1,<- e1]; exact b3
def v9:List D->Option (List (Key×D))
 | []=>some []
 | .tup [k,d]::ps=>match vw k with
  | some k'=>if d.imm=true then (v9 ps).map ((k',d)::·) else none
  | none=>none
 | _=>none
theorem jg:∀ {ps:List D} {kds:List (Key×D)} {vs:List V} {L:List Addr},Reps K H ps vs L->v9 ps=some kds ->
  ∃ qs:List (Key×V),Paired (fun (v:V) (q:Key×V)=>∃ b,v=.ref b/\SqT K H b [kV q.1,q.2]) vs qs/\Paired (fun (p:Key×D) (q:Key×V)=>p.1=q.1/\Rep K H p.2 q.2 []) kds qs
 | [],kds,_,_,hq4,h=>by
  obtain ⟨e,_⟩:=hq4
  cases h; subst e
  exact ⟨[],.nil,.nil⟩
 | d::ps,kds,_,_,hq4,h=>by
  obtain ⟨v,vs',L1,L2,e1,e2,r1,r2⟩:=hq4
  subst e1
  unfold v9 at h
  split at h
  ·rename_i e; cases e
  ·rename_i k d' ps' e
   injection e with e3 e4
   subst e3 e4
   split at h
   ·rename_i k' hk
    split at h
    ·rename_i hi
     cases hp:v9 ps with
     | none=>rw [hp] at h; cases h
     | some r =>
      rw [hp] at h
      cases h
      obtain ⟨qs,a,b⟩:=jg r2 hp
      obtain ⟨bb,ws,ev,hs,⟨v1,ws',M1,M2,f1,f2,g1,v2,ws'',M3,M4,f3,f4,g2,g3,_⟩⟩:=r1
      subst f1 f3 g3
      have hM:=Rep.imm _ _ _ g2 hi
      subst hM
      refine ⟨(k',v2)::qs,.cons ⟨bb,ev,?_⟩ a,.cons ⟨rfl,g2⟩ b⟩
      rw [<- vP hk g1]
      exact hs
    ·cases h
   ·cases h
  ·cases h
end
def vy (i:Nat)(t ti:Tn->R D):Tn->R Fl:=fun τ=>(t τ).bind fun d=>(zb i τ).bind fun l=>(ti τ).bind fun k=>match l,vw k with
 | .dic ks ds,some k=>if d.imm=true/\ks.length<sizeLine then .ok (.nx (τ.set i (some (.dic (xy ks ds k d).1 (xy ks ds k d).2)))) else .bad
 | _,_=>.bad
section
variable {X:Cx}{E:XK}{Γ Γ1 Γ' Γl:List Cl}{e a b o f:Expr}{es:List Expr}{t t' u v:Tn->R D}{c ca cb:Rc}{pos:Pos}
theorem KH (i:Nat){x:Str}{p0 p1:Pos}{ix:Expr}{ti:Tn->R D}(hu:X.A.units+1<cLine)(h:MV X E Γ e t Γ1)(hi:ME X E Γ1 ix ti c)(hN:autoParam (X.N[i]?=some x) L2.au3._auto_1)(hk:autoParam (Γ1[i]?=some .own) L2.au3._auto_1)(hv:autoParam (Vis X.env.scope x) L2.au5._auto_1)(hb:autoParam ((x==("__debug__":Str))=false) L2.au1._auto_1)(hcd:autoParam ((x==("__classdict__":Str))=false) L2.au1._auto_1)
  (hs:autoParam (swapsWith e (some (.Subscript (.Name x p0) ix p1)) pos.line X.env=pure false) L2.au3._auto_1) :
  MS X E Γl Γ (.Assign [.Subscript (.Name x p0) ix p1] e pos) (vy i t ti) Γ1:=by
 obtain ⟨te,p,q⟩:=h
 obtain ⟨te',p',q'⟩:=hi
 refine ⟨_,Jz hu (qm (pos:=p0) hN hv hb hcd) p' p hs,fun B σ H τ Z ok h=>q B σ H τ [] _ ok ?_⟩
 unfold vy at h
 cases ht:t τ with
 | ok d' =>
  rw [ht,R.ok_bind] at h
  refine fun y H1 Le s1 ry ok1=>?_
  obtain ⟨v1,d1,L1,q1,q2,r1,n1,n2,_⟩:=ok1.slot hk
  refine ⟨v1,q1,?_⟩
  have ev:zb i τ=.ok d1:=by unfold zb; rw [q2]
  rw [ev,R.ok_bind] at h
  obtain ⟨O,eo,_⟩:=ok1.eok
  refine q' O σ H1 τ _ eo ?_
  cases hk':ti τ with
  | ok dk =>
   rw [hk',R.ok_bind] at h
   refine fun kv H2 Lk s2 rk _=>?_
   have ok2:=ok1.same s2
   obtain ⟨v2,d2,L2,q3,q4,r2,m1,m2,fin⟩:=ok2.slot hk
   rw [q1] at q3
   cases q3
   rw [q2] at q4
   cases q4
   cases d1 with
   | dic ks ds =>
    cases hko:vw dk with
    | none=>rw [hko] at h; exact h.elim
    | some k =>
     rw [hko] at h
     dsimp only at h
     by_cases hz:d'.imm=true/\ks.length<sizeLine
     ·rw [if_pos hz] at h
      obtain ⟨a,kvs,L',rfl,ha2,z2,hks,hnd,rs⟩:=r2
      subst z2
      have mu:(∃ vs,H2 a=some (.lst vs))\/∃ kvs,H2 a=some (.dK kvs):=.inr ⟨_,ha2⟩
      have zL:=Rep.imm _ _ _ ry hz.1
      subst zL
      obtain ⟨w1,w2⟩:=sY.mp m1
      have r3:=(ry.same s2).upd (o:=.dK (xJ kvs k y)) mu (by simp)
      have rs3:=rs.upd (o:=.dK (xJ kvs k y)) mu w1
      subst hks
      obtain ⟨a1,a2,L3,a3,a4⟩:=Wa (k:=k) rs3 hnd r3
      refine ⟨a,_,rfl,?_,h _ _ (fin _ _ (a::L3) [] [] rfl (TF.upd mu) (fun b hb _=>zI fun z=>hb (z▸tQ)) ⟨a,_,L3,rfl,zG,rfl,a1,a2,a3⟩ (fun b hb=>?_) ?_)⟩
      ·rw [vP hko rk]
       exact DPut.k ha2 (by have:=hz.2; rw [tP] at this; exact this)
      ·rcases sJ.mp hb with z | z
       ·exact .inl (z▸tQ)
       ·exact .inl (tR _ (a4.subset z))
      ·exact sY.mpr ⟨fun z=>w1 (a4.subset z),w2.sublist a4⟩
     ·rw [if_neg hz] at h; exact h.elim
   | _=>exact h.elim
  | err n=>rw [hk'] at h; exact fun C H' e s=>h C H' e (ok1.ext.trans s)
  | bad=>rw [hk'] at h; exact h
 | err n=>rw [ht] at h; exact h
 | bad=>rw [ht] at h; exact h
def Us (ks:List Key)(ds:List D)(k z:D):R D:=match vw k with
 | some k=>if ((zT ks ds k).getD z).imm=true then .ok ((zT ks ds k).getD z) else .bad
 | none=>.bad
def YZ (t u v:Tn->R D):Tn->R D:=fun τ=>(t τ).bind fun d=>match d with
 | .dic ks ds=>(u τ).bind fun k=>(v τ).bind fun z=>Us ks ds k z
 | _=>.bad
theorem z2c {apos cpos:Pos}(hu:X.A.units+1<cLine)(ho:ME X E Γ o t c)(he:ME X E Γ e u ca)(hf:ME X E Γ f v cb)
  (hbase:autoParam (attributeBase o "get" X.env (eval o X.env)=eval o X.env) L2.au3._auto_1)
  (hfew:autoParam (((backTo cpos (starEach [e,f] X.env)).all (fun x=>!x.1)&&(backToKw cpos (keywordEach [] X.env)).all (fun x=>x.1.isSome)
   && decide (([e,f]:List Expr).length+([]:List Keyword).length+(if ([]:List Keyword).isEmpty then 0 else 1)<30))=true) L2.au3._auto_1)
  (hline:autoParam ((apos.endLine==cpos.line)=true) L2.au3._auto_1) (htr:autoParam (backTo cpos (starEach [e,f] X.env)=[(false,eval e X.env),(false,eval f X.env)]) L2.au3._auto_1) :
  ME X E Γ (.Call (.Attribute o "get" apos) [e,f] [] cpos) (YZ t u v) .fresh:=by
 obtain ⟨te,p,q⟩:=ho
 obtain ⟨te',p',q'⟩:=he
 obtain ⟨te'',p'',q''⟩:=hf
 refine ⟨_,QV hu p p' p'' ⟨hbase,hfew,hline,htr⟩,fun O σ H τ Q ok h=>?_⟩
 unfold YZ at h
 refine q O σ H τ _ ok (post.bind h fun d hd h x H1 L1 s1 r1 _=>?_)
 cases d with
 | dic ks ds =>
  obtain ⟨ad,kvs,L',rfl,had,e2,hks,_,rs⟩:=r1
  refine ⟨ad,rfl,.inl ⟨kvs,.inl had⟩,?_⟩
  dsimp only at h
  refine q' O σ H1 τ _ (ok.same s1) (post.bind2 h s1 fun dk _ h y H2 Ly s2 ry _=>?_)
  refine q'' O σ H2 τ _ ((ok.same s1).same s2) (post.bind2 h (s1.trans s2) fun dz _ h z H3 Lz s3 rz _=>?_)
  unfold Us at h
  have sA:Same H H3:=s1.trans (s2.trans s3)
  cases hk:vw dk with
  | none=>rw [hk] at h; exact h.elim
  | some k =>
   rw [hk] at h
   dsimp only at h
   have ek:=vP hk ry
   subst ek
   have had3:H3 ad=some (.dK kvs):=s3 _ _ (s2 _ _ had)
   cases hl:zT ks ds k with
   | some d =>
    rw [hl] at h
    by_cases hi:d.imm=true
    ·rw [if_pos (show ((some d).getD dz).imm=true from hi)] at h
     rw [<- hks] at hl
     obtain ⟨w,L1,g1,g2,g3⟩:=vS rs hl
     have zL:=Rep.imm _ _ _ g2 hi
     subst zL
     refine ⟨vG kvs k,DGet.k had3,?_⟩
     rw [g1]
     exact h w H3 [] sA ((g2.same s2).same s3) RcOk.nil
    ·rw [if_neg (show ¬ ((some d).getD dz).imm=true from hi)] at h; exact h.elim
   | none =>
    rw [hl] at h
    by_cases hi:dz.imm=true
    ·rw [if_pos (show ((none:Option D).getD dz).imm=true from hi)] at h
     rw [<- hks] at hl
     have g1:=qp rs hl
     have zL:=Rep.imm _ _ _ rz hi
     subst zL
     refine ⟨vG kvs k,DGet.k had3,?_⟩
     rw [g1]
     exact h z H3 [] sA rz RcOk.nil
    ·rw [if_neg (show ¬ ((none:Option D).getD dz).imm=true from hi)] at h; exact h.elim
 | _=>exact h.elim
end
def YS (K:PySem.W.Frag):List V->Hp->VK->Prop:=fun xs H Q=>∃ a vs,∃ qs:List (Key×V),xs=[.ref a]/\SqT K H a vs/\Paired (fun (v:V) (q:Key×V)=>∃ b,v=.ref b/\SqT K H b [kV q.1,q.2]) vs qs/\∀ l,H l=none->Q (.ref l) (upd H l (.dK (xn [] qs)))
section
variable {X:Cx}
theorem Yb {pins:List (Addr×Obj)}{σ:St}{H:Hp}{s:Shared}(I:Inv X pins σ H s):∀ {vs:List V} {qs:List (Key×V)} {its:List Value},Paired (fun (v:V) (q:Key×V)=>∃ b,v=.ref b/\SqT X.K H b [kV q.1,q.2]) vs qs->Vals vs its ->
  ∃ ps:List (Key×Value),PairsAt X.prog X.w s.heap its ps/\KV qs ps
 | _,_,_,.nil,.nil=>⟨[],.nil,.nil⟩
 | _,_,_,.cons (b:=q) h t,.cons r t2=>by
  obtain ⟨b,rfl,hs⟩:=h
  obtain ⟨ps,a1,a2⟩:=Yb I t t2
  obtain ⟨its2,r2,pl,_⟩:=I.tuple hs
  cases r
  cases r2 with
  | cons rk r3 =>
   cases r3 with
   | cons rv r4 =>
    cases r4
    rename_i key u
    exact ⟨(q.1,u)::ps,.cons ⟨b,key,rfl,pl,kY rk⟩ a1,.cons ⟨rfl,rv⟩ a2⟩
theorem YW (hc:X.calm=true):CallR X (.type "dict") (YS X.K):=by
 intro pins s σ H xs us Q I r h
 obtain ⟨a,vs,qs,rfl,ha,hp,q⟩:=h
 obtain ⟨u,rfl,ru⟩:=wZ r
 obtain rfl:u=Value.ref a:=ru
 obtain ⟨its,rv,tn,hz⟩:=I.tupN ha
 obtain ⟨ps,hps,kv⟩:=Yb I hp rv
 have hl1:vs.length=qs.length:=Paired.length hp
 have hl2:=kv.length
 refine qO (I.ok.hd hc) tn hps (by omega) fun h' tk hD hk=>?_
 refine ⟨.ref s.heap.objs.size,_,I.laid (o:=.dK (xn [] qs)) (t':=tk) hk (tY _) ?_,rfl,q _ (I.hok.fresh (tY _))⟩
 have hm:KV (xn [] qs) (merged [] ps):=KV.merge kv .nil
 refine ⟨?_,beq_eq_false_iff_ne.mpr (Ne.symm (sV I.big)),_,hm,hD⟩
 have e1:=hm.length
 have e2:=merged_length_le [] ps
 simp only [tM] at e2
 omega
theorem vf (hc:X.calm=true):CallR X (.type "dict") (fun xs H Q=>ZN xs H Q\/YS X.K xs H Q):=CallR.or Xh (YW hc)
end
def yn:List D->R D
 | [.dic ks ds]=>if D.imms ds=true then .ok (.dic ks ds) else .bad
 | [.tup ps]=>match v9 ps with
  | some kds=>.ok (.dic (xC [] [] kds).1 (xC [] [] kds).2)
  | none=>.bad
 | _=>.bad
theorem j4:xp yn:=fun ds n h=>by
 unfold yn at h
 split at h
 ·split at h<;>cases h
 ·split at h<;>cases h
 ·cases h
theorem j8 {K:PySem.W.Frag}:ClB K (fun xs H Q=>ZN xs H Q\/YS K xs H Q) yn:=by
 rintro H xs ds L Q r ⟨d,hg,q⟩
 unfold yn at hg
 split at hg
 ·rename_i ks ds
  refine .inl (K4 H xs _ L Q r ⟨d,hg,q⟩)
 ·rename_i ps
  split at hg
  ·rename_i kds hp
   cases hg
   obtain ⟨v,rfl,a,vs,rfl,ha,rs⟩:=xK r
   obtain ⟨qs,h1,h2⟩:=jg rs hp
   refine .inr ⟨a,vs,qs,rfl,ha,h1,fun l hl=>?_⟩
   obtain ⟨b1,b2,b3⟩:=kP kds qs [] [] h2 Reps.nil pC
   exact q _ _ [l] (Same.new hl) ⟨l,_,[],rfl,zG,rfl,b1,b2,b3.same (Same.new hl)⟩ (by simp) (fun b hb=>by rw [sN.mp hb]; exact hl)
  ·cases hg
 ·cases hg
section
variable {X:Cx}{E:XK}{Γ:List Cl}{u:Tn->R (List D)}{c:Rc}{p pos:Pos}
end
def Z0 (i:Nat)(τ:Tn)(d:D):D->D->R Fl
 | .dic ks ds,k=>(match vw k with
  | some k=>if d.imm=true/\ks.length<sizeLine then .ok (.nx (τ.set i (some (.dic (xy ks ds k d).1 (xy ks ds k d).2)))) else .bad
  | none=>.bad)
 | _,_=>.bad
theorem uy {i:Nat}{t ti:Tn->R D}{τ:Tn}:vy i t ti τ=(t τ).bind fun d=>(zb i τ).bind fun l=>(ti τ).bind fun k=>Z0 i τ d l k:=by
 unfold vy
 congr 1; funext d; congr 1; funext l; congr 1; funext k
 cases l with
 | dic ks ds =>
  cases h:vw k<;>simp only [Z0,h]
 | _=>rfl
theorem qZ {i:Nat}{τ:Tn}{d:D}{ks:List Key}{ds:List D}{x:Str}(hd:d.imm=true)(hl:ks.length<16777216):Z0 i τ d (.dic ks ds) (.str x)=.ok (.nx (τ.set i (some (.dic (xy ks ds (.inr x) d).1 (xy ks ds (.inr x) d).2)))):=if_pos ⟨hd,by rw [sizeLine_eq]; exact hl⟩
def z0h (u v:Tn->R D)(τ:Tn):D->R D
 | .dic ks ds=>(u τ).bind fun k=>(v τ).bind fun z=>Us ks ds k z
 | _=>.bad
theorem JZ {t u v:Tn->R D}{τ:Tn}:YZ t u v τ=(t τ).bind (z0h u v τ):=by
 unfold YZ
 congr 1
theorem QG {u v:Tn->R D}{τ:Tn}{ks:List Key}{ds:List D}:z0h u v τ (.dic ks ds)=(u τ).bind fun k=>(v τ).bind fun z=>Us ks ds k z:=rfl
def smD (g:Str->List D->R D)(u:Tn->R (List D))(τ:Tn):D->R D
 | .str z=>(u τ).bind fun ds=>g z ds
 | _=>.bad
theorem Xq {g:Str->List D->R D}{t:Tn->R D}{u:Tn->R (List D)}{τ:Tn}:eSm g t u τ=(t τ).bind (smD g u τ):=by
 unfold eSm
 congr 1
theorem X6 {g:Str->List D->R D}{u:Tn->R (List D)}{τ:Tn}{z:Str}:smD g u τ (.str z)=(u τ).bind fun ds=>g z ds:=rfl
theorem Yi:∀ (ks:List Key) (ns:List Int) (k:Key) (pl:Int),∃ n,(zT ks (ns.map D.int) k).getD (.int pl)=.int n
 | [],_,_,pl=>⟨pl,rfl⟩
 | _::_,[],_,pl=>⟨pl,rfl⟩
 | k'::ks,n::ns,k,pl=>by
  rw [tF]
  unfold zT
  by_cases h:k'=k
  ·rw [if_pos h]; exact ⟨n,rfl⟩
  ·rw [if_neg h]; exact Yi ks ns k pl
theorem kE:∀ ps:List (Str×Int),v9 (ps.map fun p:Str×Int=>D.tup [.str p.1,.int p.2])=some (ps.map fun p=>(Key.inr p.1,D.int p.2))
 | []=>rfl
 | p::ps=>by
  rw [tF]
  show (match vw (D.str p.1) with
   | some k'=>if (D.int p.2).imm=true then (v9 (ps.map fun p:Str×Int=>D.tup [.str p.1,.int p.2])).map ((k',D.int p.2)::·) else none
   | none=>none)=_
  rw [kE ps]
  rfl
theorem ka:∀ ys:List Str,vH (ys.map D.str)=some ys
 | []=>rfl
 | y::ys=>by rw [tF]; show (vH (ys.map D.str)).map (y::·)=_; rw [ka ys]; rfl
theorem jK {z:Str}{ys:List Str}(h:(ys.map (·.length)).sum+ys.length*z.length<=16777216):xW z [.lst (ys.map D.str)]=.ok (.str (Str.join z ys)):=by
 have e:Txt.join z ys=Str.join z ys:=eq_of_beq (join_plain_closes z ys)
 simp only [xW,ka,if_pos h,e]
theorem Wi (x y:Str):(x++y).cps.toList=x.cps.toList++y.cps.toList:=by
 show (x.cps++y.cps).toList=_
 simp
theorem Vv {ds:List D}(h:D.imms ds=true):xR [.lst ds]=.ok (.tup ds):=if_pos h
theorem UA {ps:List (Str×Int)}:yn [.tup (ps.map fun p=>D.tup [.str p.1,.int p.2])]=.ok (.dic (xC [] [] (ps.map fun p=>(Key.inr p.1,D.int p.2))).1 (xC [] [] (ps.map fun p=>(Key.inr p.1,D.int p.2))).2):=by
 simp only [yn,kE]
theorem Kk {d:D}(hd:∀ ks xs,d≠.dic ks xs)(h:eqF 12 d d=some true):eqR true d d=.ok (.bl false):=by
 cases d with
 | dic ks xs=>exact absurd rfl (hd ks xs)
 | _=>simp only [eqR,h]<;>rfl
section
variable {prog:Program}{w:World}{A:Around}{R:Result->Shared->Prop}
end
section
variable {prog:Program}{w:World}{A:Around}{E:Value->Shared->Prop}{s:Shared}
end
section
variable {X:Cx}{E:XK}{Γ:List Cl}{e f:Expr}{t u:Tn->R D}{ca cb:Rc}{p pos kp:Pos}{te tf:TE}
end
theorem Z3 {k:Tn->R Bool}{body:Tn->R Fl}(Iv:Tn->Prop)(μ:Tn->Nat)(hs:∀ τ,Iv τ->k τ=.ok false\/(k τ=.ok true/\∃ τ2,body τ=.ok (.nx τ2)/\Iv τ2/\μ τ2<μ τ))(τ:Tn)(h0:Iv τ) :
  ∃ τ',xQ k body τ=.ok (.nx τ')/\Iv τ'/\k τ'=.ok false:=by
 have go:∀ (m:Nat) (τ:Tn),μ τ<=m->Iv τ->∃ n τ',wc k body n τ=.ok (.nx τ')/\Iv τ'/\k τ'=.ok false:=by
  intro m
  induction m with
  | zero =>
   intro τ hm h
   rcases hs τ h with e | ⟨e,τ2,_,_,hlt⟩
   ·exact ⟨1,τ,by rw [wc,e]; rfl,h,e⟩
   ·lia
  | succ m ih =>
   intro τ hm h
   rcases hs τ h with e | ⟨e,τ2,e2,h2,hlt⟩
   ·exact ⟨1,τ,by rw [wc,e]; rfl,h,e⟩
   ·obtain ⟨n,τ',a,b,c⟩:=ih τ2 (by lia) h2
    exact ⟨n+1,τ',by rw [wc,e,R.ok_bind,if_pos rfl,e2,R.ok_bind]; exact a,b,c⟩
 obtain ⟨n,τ',a,b,c⟩:=go (μ τ) τ (tY _) h0
 exact ⟨τ',Vi a (by simp),b,c⟩
theorem qE:∀ bs:List Bool,vn (bs.map D.bl)=some bs
 | []=>rfl
 | b::bs=>by rw [tF]; show (vn (bs.map D.bl)).map (b::·)=_; rw [qE bs]; rfl
theorem KZ {bs:List Bool}:Xk [.lst (bs.map D.bl)]=.ok (.bl (bs.all id)):=by
 simp only [Xk,qE]
theorem Qt (A:Around)(s:Shared)(a:Int)(t:Tok)(c:Int)(u:Tok)(prog:Program)(w:World)(E:Value->Shared->Prop)(Q:Value->Shared->Prop)(h:Q (.bool (decide (a>c))) s) :
  wpAny (model prog w) A (richCompare .Gt (.int a t) (.int c u)) Q E s :=
 CmpOf.ints_gt (P:=fun k v=>∃ t,v=.int (if k=0 then a else c) t) (fun k=>if k=0 then a else c) (fun _ _ h=>h) 0 1 (.int a t) (.int c u) _ _ _ ⟨t,rfl⟩ ⟨u,rfl⟩ h
def qU:List Int->List Int->Bool
 | [],_=>false
 | _::_,[]=>true
 | a::as,b::bs=>if a=b then qU as bs else decide (a>b)
section
open PySem.SeqAt PySem.MeetsSeq3
open PySem.AutoSeq1 (wpAny_loadPart')
end
section
variable {X:Cx}{E:XK}{Γ Γ1 Γ' Γl:List Cl}{e:Expr}{t:Tn->R D}{pos:Pos}
end
def EqX (P:Program)(w:World)(A:Around)(s:Shared)(y x:Value)(b:Bool):Prop:=∀ (E:Value->Shared->Prop) (Q:Bool->Shared->Prop),Q b s->wpAny (model P w) A (eqBool y x) Q E s
section
open PySem.SeqAt PySem.MeetsSeq3
open PySem.AutoSeq1 (wpAny_loadPart')
theorem J4 {P:Program}{w:World}(l b:Addr)(items items2:Array Value)(n n2:Nat)(dd dd2:Option Addr)(sl sl2:Array (Option Value))(hz:items.size=items2.size)(e:Nat->Bool)(k:Nat) :
  ∀ i:Nat,items.size-i=k->MeetsIn P w (Builtin.«list.__eq__.loop» ⟨[.ref l,.ref b,rawInt i,rawInt 2],[]⟩)
   (fun A R s=>((s.heap.get? l=some { cls:=.type "list",dict:=dd,data:=.seq items n,slots:=sl }/\s.heap.get? b=some { cls:=.type "list",dict:=dd2,data:=.seq items2 n2,slots:=sl2 }) /\
    ∀ j (h1:j<items.size) (h2:j<items2.size),EqX P w A.in1 s items[j] items2[j] (e j))/\R (.ok (.ret (.bool (((List.range items.size).drop i).all e)))) s):=by
 induction k with
 | zero =>
  intro i hk A R s h
  obtain ⟨hp,g,d,tk,os⟩:=s; obtain ⟨⟨⟨hl,hb⟩,he⟩,h⟩:=h
  wp_walk using wpAny_loadPart' hl,wpAny_loadPart' hb
  have e1:items[((i:Nat):Int).toNat]?=none:=by simp; omega
  have d1:(List.range items.size).drop i=[]:=List.drop_eq_nil_of_le (by simp; omega)
  rw [d1] at h
  rw [e1]
  wp_walk using wpAny_loadPart' hl,wpAny_loadPart' hb
  have e3:(items.size==items2.size)=true:=by rw [hz]; exact beq_self_eq_true _
  show R (.ok (.ret (.bool (items.size==items2.size)))) _
  rw [e3]
  exact h
 | succ k ih =>
  intro i hk A R s h
  obtain ⟨hp,g,d,tk,os⟩:=s; obtain ⟨⟨⟨hl,hb⟩,he⟩,h⟩:=h
  wp_walk using wpAny_loadPart' hl,wpAny_loadPart' hb
  have h1:i<items.size:=by omega
  have h2:i<items2.size:=by omega
  have e1:items[((i:Nat):Int).toNat]?=some items[i]:=by simp [h1]
  have e2:items2[((i:Nat):Int).toNat]?=some items2[i]:=by simp [h2]
  have d1:(List.range items.size).drop i=i::(List.range items.size).drop (i+1):=by simp [rB,h1]
  have hc:((i:Int)+1)=((i+1:Nat):Int):=by push_cast; rfl
  rw [d1,List.all_cons] at h
  rw [e1,e2]
  refine wpAny_bind (he i h1 h2 _ _ ?_)
  cases hb':e i with
  | true =>
   rw [hb',rD] at h
   wp_walk
   rw [hc]
   exact ⟨plainId_quiet plain_eq_loop _,codeAny_builtin entry_eq_loop (by
    rw [Around.under_plainId plain_eq_loop _]
    exact ih (i+1) (by omega) A R _ ⟨⟨⟨hl,hb⟩,he⟩,h⟩)⟩
  | false =>
   rw [hb',rG] at h
   wp_walk using wpAny_loadPart' hl,wpAny_loadPart' hb
   rw [e1,e2]
   wp_walk
   exact h
theorem QH {P:Program}{w:World}(l b:Addr)(items items2:Array Value)(n n2:Nat)(dd dd2:Option Addr)(sl sl2:Array (Option Value))(hz:items.size=items2.size)(e:Nat->Bool) :
  MeetsIn P w (Builtin.«list.__eq__» ⟨[.ref l,.ref b],[]⟩)
   (fun A R s=>((s.heap.get? l=some { cls:=.type "list",dict:=dd,data:=.seq items n,slots:=sl }/\s.heap.get? b=some { cls:=.type "list",dict:=dd2,data:=.seq items2 n2,slots:=sl2 }) /\
    ∀ j (h1:j<items.size) (h2:j<items2.size),EqX P w A.in1 s items[j] items2[j] (e j))/\R (.ok (.ret (.bool ((List.range items.size).all e)))) s):=by
 intro A R s h
 obtain ⟨hp,g,d,tk,os⟩:=s; obtain ⟨⟨⟨hl,hb⟩,he⟩,h⟩:=h
 have f3:=AutoSeq1.sub_list_list
 have hne:¬ (items.size != items2.size)=true:=by simp [hz]
 wp_walk using wpAny_loadPart' hl,wpAny_loadPart' hb
 exact ⟨plainId_quiet plain_eq_loop _,codeAny_builtin entry_eq_loop (by
  rw [Around.under_plainId plain_eq_loop _]
  exact J4 l b items items2 n n2 dd dd2 sl sl2 hz e _ 0 rfl A R _ ⟨⟨⟨hl,hb⟩,he⟩,h⟩)⟩
end
def eqE:D->D->Option Bool
 | .dic ks xs,.dic js ys=>wB ks xs js ys
 | x,y=>eqF 11 x y
def Z8:D->D->R D
 | .lst xs,.lst ys=>(match (if xs.length=ys.length then y0 eqE xs ys else some false) with
  | some b=>.ok (.bl b)
  | none=>.bad)
 | _,_=>.bad
theorem z3Q:xl Z8:=fun x y n h=>by
 unfold Z8 at h
 split at h
 ·split at h<;>cases h
 ·cases h
def z2C (K:PySem.W.Frag):R2:=fun x y H Q=>∃ a b vs ws xs ys La Lb r,x=.ref a/\y=.ref b/\SqL K H a vs/\SqL K H b ws/\Reps K H xs vs La/\Reps K H ys ws Lb/\(if xs.length=ys.length then y0 eqE xs ys else some false)=some r/\Q (.bl r) H
section
variable {X:Cx}{pins:List (Addr×Obj)}{σ:St}{H:Hp}{s:Shared}
theorem kK:∀ {ks:List Key} {xs:List D},ks.Nodup->ks.length=xs.length->∀ (pk:List Key) (px:List D),pk.length=px.length->(pk++ks).Nodup->∀ b,hitsD (pk++ks) (px++xs) ks xs=some b->b=true
 | [],xs,_,_,pk,px,_,_,b,h=>by unfold hitsD at h; cases h; rfl
 | k::ks,[],_,hl,_,_,_,_,_,_=>by cases hl
 | k::ks,x::xs,hn,hl,pk,px,hp,hnd,b,h=>by
  have hlk:∀ (pk:List Key) (px:List D),pk.length=px.length->k∉pk->zT (pk++k::ks) (px++x::xs) k=some x:=by
   intro pk
   induction pk with
   | nil =>
    intro px hp _
    cases px with
    | nil=>show zT (k::ks) (x::xs) k=_; unfold zT; rw [if_pos rfl]
    | cons _ _=>cases hp
   | cons k' pk ih =>
    intro px hp hk
    cases px with
    | nil=>cases hp
    | cons x' px =>
     show zT (k'::(pk++k::ks)) (x'::(px++x::xs)) k=_
     unfold zT
     rw [if_neg (show ¬ k'=k from fun z=>hk (by rw [z]; exact tQ))]
     exact ih px (by simpa using hp) (fun z=>hk (tR _ z))
  have hk:k∉pk:=fun z=>(sI.mp hnd).2.2 k z k tQ rfl
  unfold hitsD at h
  rw [hlk pk px hp hk] at h
  dsimp only at h
  split at h
  ·rename_i hs
   rw [rA] at hs
   have e1:pk++k::ks=(pk++[k])++ks:=by simp
   have e2:px++x::xs=(px++[x])++xs:=by simp
   cases hr:hitsD (pk++k::ks) (px++x::xs) ks xs with
   | none=>rw [hr] at h; cases h
   | some b' =>
    rw [hr] at h
    rw [e1,e2] at hr
    have:=kK (sY.mp hn).2 (by simpa using hl) (pk++[k]) (px++[x]) (by simp [hp]) (by rw [<- e1]; exact hnd) b' hr
    have h:(eqS x x&&b')=b:=Option.some.inj h
    rw [<- h,this,YL x hs.1]
    rfl
  ·cases h
theorem z1R (I:Inv X pins σ H s)(A:Around)(hu:A.units+11<cLine)(d1 d2:D)(v1 v2:V)(L1 L2:List Addr)(u1 u2:Value)(b:Bool)(h:eqE d1 d2=some b)(r1:Rep X.K H d1 v1 L1)(r2:Rep X.K H d2 v2 L2)(q1:RelV v1 u1)(q2:RelV v2 u2):EqX X.prog X.w A s u1 u2 b:=by
 by_cases hd:∃ ks xs js ys,d1=.dic ks xs/\d2=.dic js ys
 ·obtain ⟨ks,xs,js,ys,rfl,rfl⟩:=hd
  have h:wB ks xs js ys=some b:=h
  obtain ⟨a1,kv1,M1,rfl,ha1,_,hk1,hn1,rs1⟩:=r1
  obtain ⟨a2,kv2,M2,rfl,ha2,_,hk2,hn2,rs2⟩:=r2
  obtain rfl:u1=Value.ref a1:=q1
  obtain rfl:u2=Value.ref a2:=q2
  obtain ⟨_,da,va,ra,oa⟩:=Wl I.hok ha1
  obtain ⟨_,db,vb,rb,ob⟩:=Wl I.hok ha2
  have l1:va.length=kv1.length:=ra.length.symm
  have l2:vb.length=kv2.length:=rb.length.symm
  have lk1:ks.length=kv1.length:=by rw [<- hk1,tP]
  have lk2:js.length=kv2.length:=by rw [<- hk2,tP]
  intro E Q hq
  unfold eqBool
  refine wpAny_holding ?_
  by_cases hz:a1=a2
  ·subst hz
   rw [ha1] at ha2
   cases ha2
   have hkj:ks=js:=hk1.symm.trans hk2
   subst hkj
   have hds:xs=ys:=Reps.one I xs ys _ _ _ rs1 rs2
   subst hds
   have hb:b=true:=by
    unfold wB at h
    rw [if_pos rfl] at h
    exact kK hn1 (by rw [lk1,<- rs1.length,tP]) [] [] rfl (by simpa using hn1) b (by simpa using h)
   subst hb
   refine wpAny_ite_split (fun _=>?_) (fun hab=>absurd (beq_self_eq_true _) hab)
   exact wpAny_bind (wpAny_rule (wpAny_pure hq))
  ·refine wpAny_ite_split (fun hab=>absurd (by have:=eq_of_beq hab; injection this) hz) (fun _=>?_)
   refine wpAny_bind ?_
   have hu0:A.units<cLine:=by omega
   by_cases hl:kv1.length=kv2.length
   ·have hh:hitsD (kv2.map (·.1)) ys (kv1.map (·.1)) xs=some b:=by
     unfold wB at h
     rw [if_pos (by omega)] at h
     rw [hk1,hk2]; exact h
    refine PySem.W.keq_eq (r:=b) da db oa ob hu0 (fun e=>ZM rb rs2 ra rs1 hh) ?_
    rw [l1,l2,hl,beq_self_eq_true,rD]
    exact wpAny_truthy_bool hq
   ·have hb:b=false:=by
     unfold wB at h
     rw [if_neg (by omega)] at h
     exact (Option.some.inj h).symm
    subst hb
    refine PySem.W.keq_eq (r:=false) da db oa ob hu0 (fun e=>absurd e (by omega)) ?_
    rw [pT]
    exact wpAny_truthy_bool hq
 ·have h':eqF 11 d1 d2=some b:=by
   cases d1 with
   | dic ks xs =>
    cases d2 with
    | dic js ys=>exact absurd ⟨ks,xs,js,ys,rfl,rfl⟩ hd
    | _=>exact h
   | _=>exact h
  exact (Qp I 11 A d1 d2 v1 v2 L1 L2 u1 u2 b hu h' r1 r2 q1 q2).2.1 X.prog X.w
end
theorem z1V {X:Cx}(hu:X.A.units+12<cLine):OpR X (compareOp .Eq) (z2C X.K):=by
 intro pins s σ H x y v u Q I rx ry h
 obtain ⟨a,b,vs,ws,xs,ys,La,Lb,r,rfl,rfl,ha,hb,rs,rs2,hr,q⟩:=h
 obtain rfl:v=Value.ref a:=rx
 obtain rfl:u=Value.ref b:=ry
 obtain ⟨its,rv,pl,_⟩:=I.list ha
 obtain ⟨its2,rv2,pl2,_⟩:=I.list hb
 have l1:its.length=xs.length:=by rw [<- rv.length,rs.length]
 have l2:its2.length=ys.length:=by rw [<- rv2.length,rs2.length]
 have hu0:X.A.units<cLine:=by omega
 by_cases hl:xs.length=ys.length
 ·rw [if_pos hl] at hr
  obtain ⟨e1,e2⟩:=vQ hr
  have he:∀ j (h1:j<its.toArray.size) (h2:j<its2.toArray.size),EqX X.prog X.w X.A.in1 s its.toArray[j] its2.toArray[j] (wI eqE xs ys j):=fun j h1 h2=>by
   have h1':j<xs.length:=by simpa [l1] using h1
   have h2':j<ys.length:=by simpa [l2] using h2
   obtain ⟨w1,L3,g1,g2,_⟩:=rs.get (i:=j) (d:=xs[j]) (by simp [h1'])
   obtain ⟨w2,L4,g3,g4,_⟩:=rs2.get (i:=j) (d:=ys[j]) (by simp [h2'])
   obtain ⟨z1,k1,k2⟩:=rv.get g1
   obtain ⟨z2,k3,k4⟩:=rv2.get g3
   have m1:its.toArray[j]=z1:=by
    have:=(sD.mp k1).2
    simpa using this
   have m2:its2.toArray[j]=z2:=by
    have:=(sD.mp k3).2
    simpa using this
   rw [m1,m2]
   exact z1R I _ (by show X.A.units+1+11<cLine; omega) _ _ w1 w2 L3 L4 z1 z2 _ (e2 j _ _ (by simp [h1']) (by simp [h2'])) g2 g4 k2 k4
  have hsz:its.toArray.size=its2.toArray.size:=by simp [l1,l2,hl]
  have eb:r=(List.range its.toArray.size).all (wI eqE xs ys):=by
   rw [e1]
   congr 2
   simp [l1,hl]
  obtain ⟨⟨cls,dd,data,sl⟩,ho,hc,n,hd⟩:=pl.isList
  obtain ⟨⟨cls2,dd2,data2,sl2⟩,ho2,hc2,n2,hd2⟩:=pl2.isList
  simp only at hc hd hc2 hd2
  subst hc hd hc2 hd2
  refine wpAny_richCompare_same_room (op:=.Eq) ⟨_,ho,rfl⟩ ⟨_,ho2,rfl⟩ PySem.F.slot_list_eq (call_meetsIn PySem.F.slot_list_eq ⟨_,ho,rfl⟩ PySem.F.entry_list_eq (PySem.F.args_list_eq_2 _ _) (QH a b _ _ n n2 dd dd2 sl sl2 hsz (wI eqE xs ys)) ⟨⟨⟨ho,ho2⟩,?_⟩,?_⟩) hu0
  ·exact he
  ·rw [<- eb]
   exact ⟨(fun x=>nomatch x),.bl r,H,I,rfl,q⟩
 ·rw [if_neg hl] at hr
  cases hr
  have hsz:(its.toArray.size != its2.toArray.size)=true:=by simp [l1,l2,hl]
  exact SeqAt.RcAt.lists_lengths pl.isList pl2.isList hsz hu0 X.prog X.w X.xe _ ⟨.bl false,H,I,rfl,q⟩
theorem z4d {K:PySem.W.Frag}:OpB K (z2C K) Z8:=by
 rintro H x y dx dy Lx Ly Q rx ry ⟨d,hg,q⟩
 unfold Z8 at hg
 split at hg
 ·rename_i xs ys
  split at hg
  ·rename_i r hr
   cases hg
   obtain ⟨a,vs,L',rfl,ha,_,rs⟩:=rx
   obtain ⟨b,ws,L2',rfl,hb,_,rs2⟩:=ry
   exact ⟨a,b,vs,ws,xs,ys,_,_,r,rfl,rfl,SqL.of ha,SqL.of hb,rs,rs2,hr,q _ H [] (Same.refl H) ⟨rfl,rfl⟩ (by simp) (fun a ha=>nomatch ha)⟩
  ·cases hg
 ·cases hg
structure Src (P:Program)(w:World)(i l:Addr)(xs:Array Value)(st:Nat->Heap->Prop):Prop where
 keep:∀ k h h',st k h->(∀ b,b=i\/b=l->∀ o,h.get? b=some o->h'.get? b=some o)->st k h'
 obj:∀ k h,st k h->∃ o vs,h.get? i=some o/\o.data=.fields vs
 item:∀ (A:Around) (k:Nat) (s:Shared) (Q:Value->Shared->Prop) (E:Value->Shared->Prop) (x:Value),st k s.heap->xs[k]?=some x->(∀ h',st (k+1) h'->Heap.SameBut i s.heap h'->Q x { s with heap:=h' })->wpAny (model P w) A (Builtin.SmallTypes.nextOf (.ref i)) Q E s
 stop:∀ (A:Around) (k:Nat) (s:Shared) (Q:Value->Shared->Prop) (E:Value->Shared->Prop),A.handled=none->st k s.heap->xs[k]?=none->(∀ h' e,Heap.ExtBut i s.heap h'->(∃ o,h'.get? e=some o/\o.cls=.type "StopIteration")->E (.ref e) { s with heap:=h' })->wpAny (model P w) A (Builtin.SmallTypes.nextOf (.ref i)) Q E s
section
variable {prog:Program}{w:World}{A:Around}{E:Value->Shared->Prop}{s:Shared}
end
section
variable {prog:Program}{w:World}{A:Around}{E:Value->Shared->Prop}{s:Shared}
variable {z TI TO i1 i2 l1 l2:Addr}{k:Nat}{xs ys:Array Value}{st1 st2:Nat->Heap->Prop}{a b:Value}
structure ZSt (z TI TO i1 i2:Addr)(st1 st2:Nat->Heap->Prop)(f0:Value)(k1 k2:Nat)(h:Heap):Prop where
 z:IsZip h z TI TO f0
 ti:IsPair h TI (.ref i1) (.ref i2)
 to':∃ a b,IsPair h TO a b
 s1:st1 k1 h
 s2:st2 k2 h
theorem ZSt.keep {f0:Value}{k1 k2:Nat}{h h':Heap}(D:ZipApart z TI TO i1 i2 l1 l2)(S1:Src prog w i1 l1 xs st1)(S2:Src prog w i2 l2 ys st2)(S:ZSt z TI TO i1 i2 st1 st2 f0 k1 k2 h)(e:∀ c o,h.get? c=some o->h'.get? c=some o):ZSt z TI TO i1 i2 st1 st2 f0 k1 k2 h' :=
 ⟨e _ _ S.z,e _ _ S.ti,let ⟨a,b,q⟩:=S.to'; ⟨a,b,e _ _ q⟩,S1.keep _ _ _ S.s1 fun c _ o=>e c o,S2.keep _ _ _ S.s2 fun c _ o=>e c o⟩
end
def IIt:Bool->Heap->Addr->Addr->Nat->Prop
 | true,h,i,l,k=>h.IsTupleIter i l k
 | false,h,i,l,k=>h.IsListIter i l k
def ISq:Bool->Heap->Addr->Array Value->Prop
 | true,h,l,xs=>h.IsTuple l xs
 | false,h,l,xs=>h.IsList l xs
theorem IIt.at {t:Bool}{h h':Heap}{i l:Addr}{k:Nat}(x:IIt t h i l k)(e:∀ o,h.get? i=some o->h'.get? i=some o):IIt t h' i l k:=by
 cases t
 ·exact Heap.IsListIter.at (h:=h) x e
 ·exact Heap.IsTupleIter.at (h:=h) x e
theorem IIt.obj {t:Bool}{h:Heap}{i l:Addr}{k:Nat}(x:IIt t h i l k):∃ o vs,h.get? i=some o/\o.data=.fields vs:=by
 cases t
 ·obtain ⟨o,a,_,b⟩:=(show h.IsListIter i l k from x); exact ⟨o,_,a,b⟩
 ·obtain ⟨o,a,_,b⟩:=(show h.IsTupleIter i l k from x); exact ⟨o,_,a,b⟩
def Sq (t:Bool)(K:PySem.W.Frag)(H:Hp)(a:Addr)(xs:List V):Prop:=if t=true then SqT K H a xs else SqL K H a xs
section
variable {X:Cx}{pins:List (Addr×Obj)}{σ:St}{H:Hp}{s:Shared}{a:Addr}{xs ys:List V}{h':Heap}
theorem Inv.sq {t:Bool}(I:Inv X pins σ H s)(h:Sq t X.K H a xs):∃ its:List Value,Vals xs its/\ISq t s.heap a its.toArray/\xs.length<=sizeLine:=by
 cases t
 ·obtain ⟨its,r,p,z⟩:=I.list (show SqL X.K H a xs from h)
  exact ⟨its,r,p.isList,z⟩
 ·obtain ⟨its,r,p,z⟩:=I.tuple (show SqT X.K H a xs from h)
  exact ⟨its,r,p,z⟩
end
def Itz (K:PySem.W.Frag)(t1 t2:Bool)(a b:Addr):It :=
 ⟨fun i H=>∃ xs ys x y,Sq t1 K H a xs/\Sq t2 K H b ys/\xs[i]?=some x/\ys[i]?=some y,
   fun i H v H'=>∃ p x y,H p=none/\v=.ref p/\H'=upd H p (.tup [x,y])/\∀ xs ys,Sq t1 K H a xs->Sq t2 K H b ys->xs[i]?=some x/\ys[i]?=some y,
   fun i H=>∃ xs ys,Sq t1 K H a xs/\Sq t2 K H b ys/\(xs.length<=i\/ys.length<=i)⟩
section
variable {prog:Program}{w:World}{A:Around}{E:Value->Shared->Prop}{s:Shared}
end
section
variable {X:Cx}
end
def YM (ds es:List D):List D:=(ds.zip es).map fun p=>.tup [p.1,p.2]
theorem VC {ds es:List D}{i:Nat}{d:D}(h:(YM ds es)[i]?=some d):∃ x y,ds[i]?=some x/\es[i]?=some y/\d=.tup [x,y]:=by
 unfold YM at h
 rw [sM] at h
 cases hz:(ds.zip es)[i]? with
 | none=>rw [hz] at h; cases h
 | some p =>
  rw [hz] at h
  obtain ⟨h1,h2⟩:=List.getElem?_zip_eq_some.mp hz
  exact ⟨p.1,p.2,h1,h2,(Option.some.inj h).symm⟩
theorem Vt (ds es:List D):(YM ds es).length=min ds.length es.length:=by unfold YM; rw [tP,List.length_zip]
theorem ItOk.zip {K:PySem.W.Frag}{H:Hp}{t:Bool}{a b:Addr}{vs ws:List V}{ds es:List D}{L1 L1' L2 L2':List Addr}(ha:∀ H',TF H H'->(∀ c∈L1,H' c=H c)->Sq t K H' a vs)(h1:Reps K H ds vs L1')(s1:∀ c∈L1',c∈L1)(d1:∀ c∈L1,H c≠none)(hb:H b=some (.lst ws))(e2:L2=b::L2')(h2:Reps K H es ws L2') :
  ItOk K (Itz K t false a b) (YM ds es) (L1++L2) H:=by
 subst e2
 refine ⟨fun c hc=>?_,fun H' tf kp i=>⟨fun d hd=>?_,fun hl=>?_⟩⟩
 ·rcases sE.mp hc with z | z
  ·exact d1 c z
  ·rcases sJ.mp z with z | z
   ·rw [z,hb]; simp
   ·exact h2.there z
 ·have ha':=ha H' tf fun c hc=>kp c (sC _ hc)
  have hb':H' b=some (.lst ws):=(kp b (tJ _ tQ)).trans hb
  obtain ⟨x,y,hx,hy,rfl⟩:=VC hd
  obtain ⟨v,M1,e1,r1,u1⟩:=h1.get hx
  obtain ⟨w,M2,e2,r2,u2⟩:=h2.get hy
  refine ⟨⟨vs,ws,v,w,ha',SqL.of hb',e1,e2⟩,fun z H'' ⟨p,x',y',hp,z1,z2,hq⟩=>?_⟩
  subst z1 z2
  obtain ⟨q1,q2⟩:=hq vs ws ha' (SqL.of hb')
  rw [e1] at q1
  cases q1
  rw [e2] at q2
  cases q2
  have r1':Rep K H' x v M1:=Rep.keep tf x _ M1 r1 fun c hc=>kp c (sC _ (s1 c (u1.subset hc)))
  have r2':Rep K H' y w M2:=Rep.keep tf y _ M2 r2 fun c hc=>kp c (tJ _ (tR _ (u2.subset hc)))
  refine ⟨Same.new hp,M1++(M2++[]),⟨p,_,rfl,SqT.of zG,?_⟩,fun c hc=>?_⟩
  ·exact Reps.cons (r1'.same (Same.new hp)) (Reps.cons (r2'.same (Same.new hp)) Reps.nil)
  ·rw [sF] at hc
   rcases sE.mp hc with z | z
   ·exact sC _ (s1 c (u1.subset z))
   ·exact tJ _ (tR _ (u2.subset z))
 ·have ha':=ha H' tf fun c hc=>kp c (sC _ hc)
  have hb':H' b=some (.lst ws):=(kp b (tJ _ tQ)).trans hb
  rw [Vt] at hl
  have k1:=h1.length
  have k2:=h2.length
  refine ⟨vs,ws,ha',SqL.of hb',?_⟩
  by_cases hc:vs.length<=i
  ·exact .inl hc
  ·exact .inr (by omega)
section
variable {X:Cx}{E:XK}{Γ:List Cl}{u:Tn->R (List D)}{c:Rc}{p pos:Pos}
end
section
variable {prog:Program}{w:World}{A:Around}{E:Value->Shared->Prop}{s:Shared}
end
section
variable {X:Cx}{E:XK}{Γ:List Cl}{e:Expr}{t:Tn->R D}{c:Rc}{p2 pos:Pos}
end
section
variable {X:Cx}{E:XK}{Γ Γl:List Cl}{pos:Pos}
end
def V5 (x:Str)(u:Tn->R (List D)):Tn->R Fl:=fun τ=>(u τ).bind fun ds=>if ds.length<=sizeLine then .err x else .bad
theorem U4 {P:Program}{w:World}{K:PySem.W.Frag}{mg:Str->Option Value}{base:Heap}{N:List Str}{qual:Str}{scope:Scope}{f:Addr}{cd:Value}{A:Around}{outer:List Env}{s:Shared}{H:Hp}{E:XK}{Γ Γl Γ':List Cl}
  {x:Str} {C:Addr} {e₀:Expr} {u:Tn->R (List D)} {c:Rc} {np cpos pos:Pos} (hc:ErrC K x C) (hg:Gl (xF (cxx P w) P w K mg base N qual scope f cd A outer s H E) x)
  (ha:MA (xF (cxx P w) P w K mg base N qual scope f cd A outer s H E) E Γ [e₀] u c) (hd:autoParam ((x==("__debug__":Str))=false) L2.au1._auto_1)
  (he:autoParam (starEach [e₀] (envOfC qual scope s.heap.objs.size f cd)=(false,eval e₀ (envOfC qual scope s.heap.objs.size f cd))::starEach [] (envOfC qual scope s.heap.objs.size f cd)) L2.au3._auto_1) :
  MS (xF (cxx P w) P w K mg base N qual scope f cd A outer s H E) E Γl Γ (.Raise (some (.Call (.Name x np) [e₀] [] cpos)) none pos) (V5 x u) Γ':=by
 obtain ⟨_,ta,pa,q⟩:=ha
 refine ⟨Qm C E ta,fun pins s1 σ H1 D I h=>UE (A:=A) (show A.handled=none from I.ok.hd rfl) hc hg pa hd he rfl pins s1 σ H1 D I h,fun B σ H1 τ Z ok h=>?_⟩
 obtain ⟨O,eok,_⟩:=ok.eok
 refine q O σ H1 τ _ eok ?_
 unfold V5 at h
 cases hu:u τ with
 | ok ds =>
  rw [hu,R.ok_bind] at h
  refine fun vs H' L s r _=>?_
  by_cases hz:ds.length<=sizeLine
  ·rw [if_pos hz] at h
   exact ⟨by rw [r.length]; exact hz,h C H' hc (ok.ext.trans s)⟩
  ·rw [if_neg hz] at h; exact h.elim
 | err n=>rw [hu] at h; exact fun C' H' e s=>h C' H' e (ok.ext.trans s)
 | bad=>rw [hu] at h; exact h.elim
def jL (F:List D->R D)(u:Tn->R (List D))(g:Str->Option D):Tn->R Fl:=fun τ=>match u τ with
 | .ok ds=>(match F ds with
  | .ok d=>.ok (.nx τ)
  | .err m=>(match g m with | some d=>.ok (.rt d) | none=>.bad)
  | .bad=>.bad)
 | _=>.bad
def Suite (X:Cx)(CS:Addr)(i:Nat)(sts:List Stmt)(g:Str->Option D):Prop:=∀ (m:Str) (d:D),g m=some d->∀ C,ErrC X.K m C->PySem.W.exmOne X.K (.ref C) (.ref CS)=some true /\
 ∃ ts:Addr->Obj->TS,(∀ e oe,PSs (X.within e oe) sts (ts e oe))/\∀ e oe (Z:Ends) (σ:St) (H:Hp),σ.length=X.N.length->oe.cls=.ref C->H e=none->σ[i]?=some (some (.ref e))->(∀ v H',Same H H'->Rep X.K H' d v []->Z.rt v H')->ts e oe Z σ H
def Suite.ts {X:Cx}{CS:Addr}{i:Nat}{sts:List Stmt}{g:Str->Option D}(hs:Suite X CS i sts g)(e:Addr)(oe:Obj):TS:=fun Z σ H=>∃ (m:Str) (d:L2.D) (hg:g m=some d) (C:Addr) (hC:ErrC X.K m C),Classical.choose (hs m d hg C hC).2 e oe Z σ H
theorem Suite.pss {X:Cx}{CS:Addr}{i:Nat}{sts:List Stmt}{g:Str->Option D}(hs:Suite X CS i sts g)(e:Addr)(oe:Obj):PSs (X.within e oe) sts (hs.ts e oe):=by
 intro pins s σ H Z I h
 obtain ⟨m,d,hg,C,hC,z⟩:=h
 exact (Classical.choose_spec (hs m d hg C hC).2).1 e oe pins s σ H Z I z
section
variable {X:Cx}{E:XK}{Γ Γl Γ':List Cl}{k:Nat}{CS:Addr}{ps:List Str}{F:List D->R D}{nA:Nat}{x xc n:Str}{p pos pos' pc hpos tpos:Pos}{e:Expr}{es:List Expr}{u:Tn->R (List D)}{c:Rc}{i:Nat}{b₀:Stmt}{suite:List Stmt}{g:Str->Option D}
theorem JT (O:Own X.prog X.w X.K X.mg X.base x k ps (spM X.K F nA))(hN:X.N.Nodup)(hr:Room k X.A)(hg:Gl X x)(ha:MA X.nox (fun _ _ _=>False) Γ (e::es) u c)(hgc:Gl X xc)(hmc:X.mg xc=some (.ref CS))(hi:X.N[i]?=some n)(hx:X.env.scope.names.lookup n=some .local)(hil:i<X.N.length)(hΓ:Γ.length=X.N.length)(hs:Suite X CS i (b₀::suite) g)
  (hst:autoParam (X.stack=X.env::X.outer) L2.au3._auto_1) (hf:autoParam (X.env.frame=some X.env.locals) L2.au3._auto_1) (hc:autoParam (X.calm=true) L2.au3._auto_1) (hl:autoParam ((e::es).length=nA) L2.au3._auto_1)
  (hdb:autoParam ((x==("__debug__":Str))=false) L2.au1._auto_1) (hdc:autoParam ((xc==("__debug__":Str))=false) L2.au1._auto_1)
  (he:autoParam (starEach (e::es) X.env=(false,eval e X.env)::starEach es X.env) L2.au3._auto_1) (hpl:autoParam ((backTo pos (starEach es X.env)).any (·.1)=false) L2.au3._auto_1)
  (hsw:autoParam (swapsWith (.Call (.Name x p) (e::es) [] pos) none pos'.line X.env=pure false) L2.au3._auto_1) :
  MS X E Γl Γ (.Try [.Expr (.Call (.Name x p) (e::es) [] pos) pos'] [.ExceptHandler (some (.Name xc pc)) (some n) (b₀::suite) hpos] [] [] tpos) (jL F u g) Γ:=by
 obtain ⟨hlen,ta,pa,q⟩:=ha
 refine ⟨_,JI O hst hf hc hN hr hg pa hgc hmc hi hx hs.pss hdb hdc he hpl hsw,fun B σ H τ Z ok h=>?_⟩
 obtain ⟨O',eok,_⟩:=ok.eok
 refine q O' σ H τ _ eok ?_
 unfold jL at h
 cases hu:u τ with
 | ok ds =>
  rw [hu] at h
  dsimp only at h
  refine fun vs H1 L s r _=>?_
  have hv:(vs++[]).length=nA:=by rw [sF,r.length,hlen τ ds hu]; exact hl
  refine ⟨hv,ds,L,by rw [sF]; exact r,?_⟩
  have sB:Same B H1:=ok.ext.trans s
  cases hF:F ds with
  | ok d =>
   rw [hF] at h
   exact fun v H' L' s' r' k'=>h σ H' (ok.same (s.trans s'))
  | err m =>
   rw [hF] at h
   dsimp only at h
   cases hgm:g m with
   | some d =>
    rw [hgm] at h
    dsimp only at h
    intro C H' hC s'
    refine ⟨C,rfl,(hs m d hgm C hC).1,fun e1 oe hcls hn=>⟨m,d,hgm,C,hC,?_⟩⟩
    refine (Classical.choose_spec (hs m d hgm C hC).2).2 e1 oe _ _ H' (by rw [sT,ok.lσ,hΓ]) hcls hn ?_ fun v H2 s2 r2=>h v H2 [] ((sB.trans s').trans s2) r2 pC fun a ha=>nomatch ha
    rw [sO (by rw [ok.lσ,hΓ]; exact hil)]
   | none=>rw [hgm] at h; exact h.elim
  | bad=>rw [hF] at h; exact h.elim
 | err m=>rw [hu] at h; exact h.elim
 | bad=>rw [hu] at h; exact h.elim
end
inductive ClVs:List V->List Value->Prop where
 | nil:ClVs [] []
 | cons {c:V} {u:Value} {cs:List V} {us:List Value} (h:ClV c u) (t:ClVs cs us):ClVs (c::cs) (u::us)
theorem ClVs.vals:∀ {cs:List V} {us its:List Value},ClVs cs us->Vals cs its->its=us
 | _,_,_,.nil,.nil=>rfl
 | _,_,_,.cons h t,.cons r rs=>by
  rw [ClVs.vals t rs]
  congr 1
  cases h with
  | ref a=>exact r
  | ty n=>exact r
section
variable {X:Cx}{E:XK}{Γ Γl:List Cl}{pos:Pos}
end
theorem V0 {P:Program}{w:World}{K:PySem.W.Frag}{mg:Str->Option Value}{base:Heap}{N:List Str}{qual:Str}{scope:Scope}{f:Addr}{cd:Value}{A:Around}{outer:List Env}{s:Shared}{H:Hp}{E:XK}{Γ Γl Γ':List Cl}
  {x:Str} {e₀:Expr} {u:Tn->R (List D)} {c:Rc} {np cpos pos:Pos} (hc:∃ C,ErrC K x C) (hg:Gl (xF (cxx P w) P w K mg base N qual scope f cd A outer s H E) x)
  (ha:MA (xF (cxx P w) P w K mg base N qual scope f cd A outer s H E) E Γ [e₀] u c) (hd:autoParam ((x==("__debug__":Str))=false) L2.au1._auto_1)
  (he:autoParam (starEach [e₀] (envOfC qual scope s.heap.objs.size f cd)=(false,eval e₀ (envOfC qual scope s.heap.objs.size f cd))::starEach [] (envOfC qual scope s.heap.objs.size f cd)) L2.au3._auto_1) :
  MS (xF (cxx P w) P w K mg base N qual scope f cd A outer s H E) E Γl Γ (.Raise (some (.Call (.Name x np) [e₀] [] cpos)) none pos) (V5 x u) Γ':=by
 obtain ⟨C,hc⟩:=hc
 exact U4 hc hg ha hd he
section
variable {X:Cx}{E:XK}{Γ Γl Γ':List Cl}{k:Nat}{ps:List Str}{F:List D->R D}{nA:Nat}{x xc n:Str}{p pos pos' pc hpos tpos:Pos}{e:Expr}{es:List Expr}{u:Tn->R (List D)}{c:Rc}{i:Nat}{b₀:Stmt}{suite:List Stmt}{g:Str->Option D}
theorem QD (O:Own X.prog X.w X.K X.mg X.base x k ps (spM X.K F nA))(hN:X.N.Nodup)(hr:Room k X.A)(hg:Gl X x)(ha:MA X.nox (fun _ _ _=>False) Γ (e::es) u c)(hgc:Gl X xc)(hi:X.N[i]?=some n)(hx:X.env.scope.names.lookup n=some .local)(hil:i<X.N.length)(hΓ:Γ.length=X.N.length)(hs:∃ CS,X.mg xc=some (.ref CS)/\Suite X CS i (b₀::suite) g)
  (hst:autoParam (X.stack=X.env::X.outer) L2.au3._auto_1) (hf:autoParam (X.env.frame=some X.env.locals) L2.au3._auto_1) (hc:autoParam (X.calm=true) L2.au3._auto_1) (hl:autoParam ((e::es).length=nA) L2.au3._auto_1)
  (hdb:autoParam ((x==("__debug__":Str))=false) L2.au1._auto_1) (hdc:autoParam ((xc==("__debug__":Str))=false) L2.au1._auto_1)
  (he:autoParam (starEach (e::es) X.env=(false,eval e X.env)::starEach es X.env) L2.au3._auto_1) (hpl:autoParam ((backTo pos (starEach es X.env)).any (·.1)=false) L2.au3._auto_1)
  (hsw:autoParam (swapsWith (.Call (.Name x p) (e::es) [] pos) none pos'.line X.env=pure false) L2.au3._auto_1) :
  MS X E Γl Γ (.Try [.Expr (.Call (.Name x p) (e::es) [] pos) pos'] [.ExceptHandler (some (.Name xc pc)) (some n) (b₀::suite) hpos] [] [] tpos) (jL F u g) Γ:=by
 obtain ⟨CS,h1,h2⟩:=hs
 exact JT O hN hr hg ha hgc h1 hi hx hil hΓ h2 hst hf hc hl hdb hdc he hpl hsw
end
structure CompScopeC (X:Cx)(xc:Str)(N':List Str)(fr:List (Option Nat))(scope:Scope):Prop where
 kind:scope.kind=.function
 one:∃ pre post,scope.names=pre++(xc,NameKind.cell)::post/\∀ y∈pre++post,y.2≠.cell
 nox:∀ y∈scope.names,y.1=xc->y.2=.cell
 loc:∀ y∈scope.names,y.2=.local->scope.names.lookup y.1=some .local
 free:∀ y∈scope.names,y.2=.free->∃ c,X.env.cells.lookup y.1=some c
 len:fr.length=N'.length
 fre:∀ (j i:Nat) (x:Str),fr[j]?=some (some i)->N'[j]?=some x->X.N[i]?=some x/\scope.names.lookup x=some .free/\(X.env.kindOf x=some .cell\/X.env.kindOf x=some .free)
section
variable {X:Cx}{pins:List (Addr×Obj)}{σ:St}{H:Hp}{s:Shared}{xc:Str}{N':List Str}{fr:List (Option Nat)}{scope:Scope}{fp:List Addr}
end
section
variable {X:Cx}{pins:List (Addr×Obj)}{σ τ:St}{H H₃ H5:Hp}{s₃ s5:Shared}{xc:Str}{N':List Str}{scope:Scope}{fp:List Addr}
end
section
variable {X:Cx}{E:XK}{Γ:List Cl}{pos:Pos}
end
theorem YT {α:Type}{us:List α}{n:Nat}(h:us.length=n+1):∃ a t,us=a::t/\t.length=n:=by
 cases us with
 | nil=>cases h
 | cons a t=>exact ⟨a,t,rfl,Nat.succ.inj h⟩
theorem z4F {α:Type}{us:List α}(h:us.length=0):us=[]:=pQ.mp h
theorem bd1 {α:Type}{P:List α->Prop}(h:∀ a,P [a]):∀ us:List α,us.length=1->P us:=fun us hl=>by
 obtain ⟨a,t,rfl,h1⟩:=YT hl
 cases z4F h1
 exact h a
theorem bd2 {α:Type}{P:List α->Prop}(h:∀ a b,P [a,b]):∀ us:List α,us.length=2->P us:=fun us hl=>by
 obtain ⟨a,t,rfl,h1⟩:=YT hl
 exact bd1 (P:=fun t=>P (a::t)) (h a) t h1
theorem bd3 {α:Type}{P:List α->Prop}(h:∀ a b c,P [a,b,c]):∀ us:List α,us.length=3->P us:=fun us hl=>by
 obtain ⟨a,t,rfl,h1⟩:=YT hl
 exact bd2 (P:=fun t=>P (a::t)) (h a) t h1
theorem bd4 {α:Type}{P:List α->Prop}(h:∀ a b c d,P [a,b,c,d]):∀ us:List α,us.length=4->P us:=fun us hl=>by
 obtain ⟨a,t,rfl,h1⟩:=YT hl
 exact bd3 (P:=fun t=>P (a::t)) (h a) t h1
theorem bd5 {α:Type}{P:List α->Prop}(h:∀ a b c d e,P [a,b,c,d,e]):∀ us:List α,us.length=5->P us:=fun us hl=>by
 obtain ⟨a,t,rfl,h1⟩:=YT hl
 exact bd4 (P:=fun t=>P (a::t)) (h a) t h1
section
variable {X:Cx}{E:XK}{Γ Γl:List Cl}{x1 x2 xr d nm:Str}{F1 F2:List D->R D}{es:List Expr}{u:Tn->R (List D)}{c:Rc}{i k n:Nat}{f1 f2:Addr}{ps:List Str}{p1 p2 p3 p4 p5 p6 p7 p8 p9 p10 p11 p12:Pos}{ct:Nat}{jj:_}
end
theorem QP {X:Cx}{E:XK}{Γ:List Cl}{pos:Pos}:ME X E Γ (.Dict [] [] pos) (eC (.dic [] [])) .fresh :=
 ⟨_,Qg,fun O σ H τ Q ok h p hp=>h (.ref p) _ [p] (Same.new hp) ⟨p,[],[],rfl,zG,rfl,rfl,pC,rfl,rfl⟩ ⟨sY.mpr ⟨pF,pC⟩,fun a ha=>by rw [sN.mp ha]; exact hp⟩⟩
section
variable {K:PySem.W.Frag}{Γ:List Cl}{B H:Hp}{σ:St}{τ:Tn}{T T':List Addr}
theorem SOk.subT (h:SOk K Γ B H σ τ T)(nd:T'.Nodup)(hs:∀ a∈T',a∈T):SOk K Γ B H σ τ T':=by
 obtain ⟨Ls,h1,h2,h3,h4,h5,h6⟩:=h.ex
 exact ⟨h.ext,h.lσ,h.lτ,Ls,h1,h2,h3,nd,fun a ha=>h5 a (hs a ha),fun i c e hc a ha hm=>h6 i c e hc a ha (hs a hm)⟩
end
section
variable {P:Program}{w:World}{K:PySem.W.Frag}{mg:Str->Option Value}{base:Heap}{x:Str}{st:Stmt}{N ps:List Str}{k:Nat}{t:Tn->R Fl}{Γ':List Cl}
end
section
variable {K:PySem.W.Frag}{pn:List (Addr×Obj)}{σ:St}{H:Hp}{Q:VK}{e:Addr}{oe:Obj}{C:Addr}
theorem Um {i:Nat}{c:V}{u:Value}{b:Bool}(mem:(e,oe)∈pn)(hcls:oe.cls=.ref C)(iT:ErrI K C)(hc:ClV c u)(k:PySem.W.kitOne K (.ref C) u=some b)(hσ:σ[i]?=some (some (.ref e)))(h:Q (.bl b) H):z2L K pn c (qo i) σ H Q :=
 ⟨_,hσ,_,_,_,_,_,rfl,.exc mem hcls iT,hc,k,h⟩
theorem z4E {A1 A2:TE}(h1:∀ Q:VK,Q (.bl true) H->A1 σ H Q)(h2:A2 σ H Q):Ul A1 A2 σ H Q:=h1 _ ⟨true,rfl,by rw [if_pos rfl]; exact h2⟩
end
theorem z1h {te:TE}{D:Ends}{σ:St}{H:Hp}(h:te σ H D.rt):JM te D σ H:=h
section
variable {X:Cx}{E:XK}{Γ Γ1 Γ2 Γa Γb Γl Γ':List Cl}{pos:Pos}
theorem Kw {es:List Expr}{t:TA}(h:PA X es t):PE X (.List es pos) (fun σ H Q=>t σ H fun xs H1=>xs.length<=sizeLine/\∀ p,H1 p=none->∀ o,Q (.ref p) (upd H1 p (.frz o (.lst xs)))):=by
 intro pins s σ H Q I hq
 refine wpAny_List_spliced (thn (h pos pins s σ H _ I hq) fun us s1 q0=>?_)
 obtain ⟨xs,H1,I1,r,z,q⟩:=q0
 refine ⟨by rw [<- r.length]; exact z,?_⟩
 have hf:H1 s1.heap.objs.size=none:=I1.hok.fresh (tY _)
 have hg:(s1.heap.push { cls:=.type "list",data:=.seq us.toArray }).get? s1.heap.objs.size=some { cls:=.type "list",data:=.seq us.toArray }:=Heap.get?_push_size _ rfl
 refine ⟨.ref s1.heap.objs.size,upd H1 s1.heap.objs.size (.frz { cls:=.type "list",data:=.seq us.toArray } (.lst xs)),I1.laid (t':=s1.toks) (fun b u e=>Heap.get?_push_of_some _ e) (tY _) ?_,rfl,q _ hf _⟩
 exact ⟨hg,z,us,0,r,hg⟩
def Qo (ds:List D):R D:=if D.imms ds=true then .ok (.frl ds) else .bad
theorem JY {es:List Expr}{u:Tn->R (List D)}{c:Rc}(h:MA X E Γ es u c)(hz:autoParam (es.length<=1000) L2.au1._auto_1):ME X E Γ (.List es pos) (eL Qo u) .fresh:=by
 obtain ⟨hlen,ta,p,q⟩:=h
 refine ⟨_,Kw p,fun O σ H τ Q ok h=>q O σ H τ _ ok ?_⟩
 unfold eL at h
 cases hu:u τ with
 | err n=>rw [hu] at h; exact h
 | bad=>rw [hu] at h; exact h
 | ok ds =>
  rw [hu,R.ok_bind] at h
  refine fun vs H1 L s1 r1 _=>⟨by rw [r1.length,hlen τ ds hu,sizeLine_eq]; omega,fun p hp o=>?_⟩
  unfold Qo at h
  by_cases hi:D.imms ds=true
  ·rw [if_pos hi] at h
   have sn:Same H1 (upd H1 p (.frz o (.lst vs))):=Same.new hp
   exact h (.ref p) _ [] (s1.trans sn) ⟨p,vs,rfl,.inl ⟨o,zG⟩,rfl,hi,(yL r1 hi).same sn⟩ RcOk.nil
  ·rw [if_neg hi] at h; exact h.elim
end
theorem z0A {K:PySem.W.Frag}{H:Hp}{d:D}:∀ {ds:List D} {vs:List V} {L:List Addr} {k:Nat},Reps K H ds vs L->ds[k]?=some d->L.Nodup->∃ v Ld,vs[k]?=some v/\Rep K H d v Ld/\Ld.Nodup/\(∀ a∈Ld,a∈L) /\
  ∀ (H2:Hp) (d2:D) (L2:List Addr),TF H H2->(∀ b,b∉Ld->H b≠none->H2 b=H b)->Rep K H2 d2 v L2->(∀ a∈L2,a∈Ld)->L2.Nodup->∃ L',Reps K H2 (ds.set k d2) vs L'/\(∀ a∈L',a∈L)/\L'.Nodup
 | [],_,_,k,_,h,_=>by cases k<;>cases h
 | e::ds,_,_,0,hq,h,nd=>by
  obtain ⟨v,vs',L1,L2,e1,e2,r1,r2⟩:=hq
  subst e1 e2
  cases h
  obtain ⟨n1,n2,n3⟩:=sI.mp nd
  refine ⟨v,L1,rfl,r1,n1,fun a ha=>sC _ ha,fun H2 d2 L3 tf kp r3 sb nd3=>⟨L3++L2,?_,fun a ha=>?_,?_⟩⟩
  ·exact ⟨v,vs',L3,L2,rfl,rfl,r3,Reps.keep tf ds vs' L2 r2 fun a ha=>kp a (fun z=>n3 a z a ha rfl) (r2.there ha)⟩
  ·rcases sE.mp ha with z | z
   ·exact sC _ (sb a z)
   ·exact tJ _ z
  ·exact sI.mpr ⟨nd3,n2,fun a ha b hb z=>n3 a (sb a ha) b hb z⟩
 | e::ds,_,_,k+1,hq,h,nd=>by
  obtain ⟨v,vs',L1,L2,e1,e2,r1,r2⟩:=hq
  subst e1 e2
  obtain ⟨n1,n2,n3⟩:=sI.mp nd
  obtain ⟨w,Ld,g1,g2,g3,g4,g5⟩:=z0A (k:=k) r2 (by simpa using h) n2
  refine ⟨w,Ld,by simpa using g1,g2,g3,fun a ha=>tJ _ (g4 a ha),fun H2 d2 L3 tf kp r3 sb nd3=>?_⟩
  obtain ⟨L',q1,q2,q3⟩:=g5 H2 d2 L3 tf kp r3 sb nd3
  refine ⟨L1++L',?_,fun a ha=>?_,?_⟩
  ·exact ⟨v,vs',L1,L',rfl,rfl,Rep.keep tf e v L1 r1 fun a ha=>kp a (fun z=>n3 a ha a (g4 a z) rfl) (r1.there ha),q1⟩
  ·rcases sE.mp ha with z | z
   ·exact sC _ z
   ·exact tJ _ (q2 a z)
  ·exact sI.mpr ⟨n1,q3,fun a ha b hb z=>n3 a ha b (q2 b hb) z⟩
theorem SOk.at {K:PySem.W.Frag}{Γ:List Cl}{B H:Hp}{σ:St}{τ:Tn}{i k:Nat}{ds:List D}{d:D}(h:SOk K Γ B H σ τ [])(e:Γ[i]?=some .own)(hτ:τ[i]?=some (some (.lst ds)))(hk:ds[k]?=some d) :
  ∃ a vs v Ld,σ[i]?=some (some (.ref a))/\H a=some (.lst vs)/\vs[k]?=some v/\Rep K H d v Ld/\Ld.Nodup/\∀ (H2:Hp) (d2:D) (L2:List Addr),TF H H2->(∀ b,b∉Ld->H b≠none->H2 b=H b)->Rep K H2 d2 v L2->(∀ a∈L2,a∈Ld)->L2.Nodup->SOk K Γ B H2 σ (τ.set i (some (.lst (ds.set k d2)))) []:=by
 obtain ⟨v0,d0,L,e1,e2,r,nd,n2,fin⟩:=h.slot e
 rw [hτ] at e2
 cases e2
 obtain ⟨a,vs,L',rfl,ha,rfl,rs⟩:=r
 obtain ⟨m1,m2⟩:=sY.mp nd
 obtain ⟨v,Ld,g1,g2,g3,g4,g5⟩:=z0A rs hk m2
 refine ⟨a,vs,v,Ld,e1,ha,g1,g2,g3,fun H2 d2 L2 tf kp r2 sb nd2=>?_⟩
 obtain ⟨L3,q1,q2,q3⟩:=g5 H2 d2 L2 tf kp r2 sb nd2
 have hal:a∉Ld:=fun z=>m1 (g4 a z)
 have ha2:H2 a=some (.lst vs):=by rw [kp a hal (by rw [ha]; simp)]; exact ha
 refine fin H2 _ (a::L3) [] [] rfl tf (fun b hb hn=>kp b (fun z=>hb (tR _ (g4 b z))) hn) ⟨a,vs,L3,rfl,ha2,rfl,q1⟩ (fun b hb=>.inl ?_) (sY.mpr ⟨fun z=>m1 (q2 a z),q3⟩)
 rcases sJ.mp hb with z | z
 ·rw [z]; exact tQ
 ·exact tR _ (q2 b z)
section
variable {X:Cx}{E:XK}{Γ Γl:List Cl}{pos:Pos}{e:Expr}{t:Tn->R D}{c:Rc}
end
section
open PySem.SeqAt PySem.MeetsSeq3
open PySem.AutoSeq1 (wpAny_loadPart')
end
section
variable {X:Cx}{E:XK}{Γ Γl:List Cl}{pos:Pos}{e:Expr}{t:Tn->R D}{c:Rc}
end
def vd (g:Str->R D)(t:Tn->R D):Tn->R D:=fun τ=>(t τ).bind fun d=>match d with
 | .str z=>g z
 | _=>.bad
def upD (z:Str):R D:=if z.length<=5592405 then .ok (.str (Txt.upper z)) else .bad
section
variable {X:Cx}{E:XK}{Γ:List Cl}{o:Expr}{t:Tn->R D}{c:Rc}{apos cpos:Pos}
theorem Ug (ho:ME X E Γ o t c)(hbase:autoParam (attributeBase o "upper" X.env (eval o X.env)=eval o X.env) L2.au3._auto_1)(hline:autoParam ((apos.endLine==cpos.line)=true) L2.au3._auto_1) :
  ME X E Γ (.Call (.Attribute o "upper" apos) [] [] cpos) (vd upD t) .fresh:=by
 obtain ⟨te,p,q⟩:=ho
 refine ⟨_,Ur PySem.F.plainAttrs_str PySem.F.slot_str_upper PySem.F.type_str_upper UR p hbase hline,fun O σ H τ Q ok h=>?_⟩
 unfold vd at h
 refine q O σ H τ _ ok (post.bind h fun d hd h x H1 L1 s1 r1 _=>?_)
 cases d with
 | str z =>
  obtain ⟨rfl,_⟩:=r1
  dsimp only at h
  unfold upD at h
  by_cases hz:z.length<=5592405
  ·rw [if_pos hz] at h
   exact ⟨rfl,z,rfl,rfl,hz,h _ H1 [] s1 ⟨rfl,rfl⟩ ⟨by simp,fun a ha=>nomatch ha⟩⟩
  ·rw [if_neg hz] at h; exact h.elim
 | _=>exact h.elim
end
theorem z3e {X:Cx}{e:Expr}{te:TE}{a b:Str}{j1 j3:Nat}{p1 p2 p3 pos:Pos}(he:PE X e te):PE X (.JoinedStr [.Constant (.str a) j1 p1,.FormattedValue e (-1) none p2,.Constant (.str b) j3 p3] pos)
  (fun σ H Q=>a.length<=sizeLine/\te σ H fun v H1=>∃ i,v=.int i/\i.natAbs.log2<1920/\(a++(toString i:Str)).length<=sizeLine/\(a++(toString i:Str)++b).length<=sizeLine/\Q (.str (a++(toString i:Str)++b)) H1):=by
 intro pins s σ H Q I h
 obtain ⟨ha,h⟩:=h
 refine JoinedStr_many (joinParts_cons (thn (wx (x:=a) (j:=j1) (pos:=p1) pins s σ H (fun v H1=>v=.str a/\H1=H) I ⟨rfl,rfl⟩) fun v s1 h1=>?_))
 obtain ⟨v1,H1,I1,r1,rfl,rfl⟩:=h1
 obtain ⟨t1,rfl⟩:=r1
 dsimp only
 rw [Str.empty_append]
 refine ⟨ha,joinParts_cons (FormattedValue_plain (thn (he pins s1 σ H1 _ I1 h) fun v s2 h2=>?_))⟩
 obtain ⟨v2,H2,I2,r2,i,rfl,hi,h3,h4,q⟩:=h2
 obtain ⟨t2,rfl⟩:=r2
 refine formatField_int_small hi ⟨h3,joinParts_cons (thn (wx (x:=b) (j:=j3) (pos:=p3) pins _ σ H2 (fun v H1=>v=.str b/\H1=H2) (I2.tok _) ⟨rfl,rfl⟩) fun v s3 h5=>?_)⟩
 obtain ⟨v3,H3,I3,r3,rfl,rfl⟩:=h5
 obtain ⟨t3,rfl⟩:=r3
 exact ⟨h4,joinParts_nil ⟨.str _,H3,I3.tok _,⟨_,rfl⟩,q⟩ h4⟩
def f3D (a b:Str):D->R D
 | .int i=>if i.natAbs.log2<1920/\a.length<=sizeLine/\(a++(toString i:Str)).length<=sizeLine/\(a++(toString i:Str)++b).length<=sizeLine then .ok (.str (a++(toString i:Str)++b)) else .bad
 | _=>.bad
def eF3 (a b:Str)(t:Tn->R D):Tn->R D:=fun τ=>(t τ).bind (f3D a b)
section
variable {X:Cx}{E:XK}{Γ:List Cl}{e:Expr}{t:Tn->R D}{c:Rc}
theorem z3s {a b:Str}{j1 j3:Nat}{p1 p2 p3 pos:Pos}(hl:a.length<=sizeLine)(he:ME X E Γ e t c) :
  ME X E Γ (.JoinedStr [.Constant (.str a) j1 p1,.FormattedValue e (-1) none p2,.Constant (.str b) j3 p3] pos) (eF3 a b t) .fresh:=by
 obtain ⟨te,p,q⟩:=he
 refine ⟨_,z3e p,fun O σ H τ Q ok h=>⟨hl,?_⟩⟩
 unfold eF3 at h
 refine q O σ H τ _ ok (post.bind h fun d hd h x H1 L1 s1 r1 _=>?_)
 cases d with
 | int i =>
  obtain ⟨rfl,_⟩:=r1
  unfold f3D at h
  dsimp only at h
  split at h
  ·rename_i hz
   exact ⟨i,rfl,hz.1,hz.2.2.1,hz.2.2.2,h _ H1 [] s1 ⟨rfl,rfl⟩ ⟨by simp,fun a ha=>nomatch ha⟩⟩
  ·exact h.elim
 | _=>exact h.elim
end
section
variable {X:Cx}{E:XK}{Γ:List Cl}{e:Expr}{t:Tn->R D}{c:Rc}{p2 p3 p4 pos:Pos}{j:Nat}
end
theorem TF.trans {H H1 H2:Hp}(a:TF H H1)(b:TF H1 H2):TF H H2:=⟨fun x xs e=>b.tup x xs (a.tup x xs e),fun x o u e=>b.frz x o u (a.frz x o u e)⟩
section
variable {X:Cx}{E:XK}{Γ Γl:List Cl}{pos:Pos}{e:Expr}{t:Tn->R D}{c:Rc}
end
section
variable {X:Cx}{E:XK}{Γ Γl:List Cl}{pos:Pos}{e:Expr}{t:Tn->R D}{c:Rc}
end
open PySem PySem.Spec PyProof.Rows PySem.Builtin.Str
def z0q:V->List V->Hp->VK->Prop:=fun x xs H Q=>∃ z y,x=.str z/\xs=[.str y]/\Q (.int (Txt.find z y)) H
theorem Yr {X:Cx}:MtR X "str.find" z0q:=by
 intro pins s σ H x xs v us Q I rx rs h
 obtain ⟨z,y,rfl,rfl,q⟩:=h
 obtain ⟨t,rfl⟩:=rx
 obtain ⟨u,rfl,ru⟩:=wZ rs
 obtain ⟨t2,rfl⟩:=ru
 exact SC.find ⟨.int (Txt.find z y),H,I.tok _,⟨_,rfl⟩,q⟩
def qC (z:Str):List D->R D
 | [.str y]=>.ok (.int (Txt.find z y))
 | _=>.bad
theorem KJ {K:PySem.W.Frag}{H:Hp}{y:Str}{vs:List V}{L:List Addr}(r:Reps K H [.str y] vs L):vs=[.str y]:=by
 obtain ⟨v,vs',L1,L2,e1,_,r1,r2⟩:=r
 rw [e1,r1.1,r2.1]
theorem Ud (z:Str):xp (qC z):=fun ds n h=>by
 unfold qC at h
 split at h<;>cases h
theorem J3 {K:PySem.W.Frag}:SmB K z0q qC:=by
 rintro H z xs ds L Q rs ⟨d,hg,q⟩
 unfold qC at hg
 split at hg
 ·rename_i y
  cases hg
  exact ⟨z,y,rfl,KJ rs,q _ H [] (Same.refl H) ⟨rfl,rfl⟩ (by simp) (fun a ha=>nomatch ha)⟩
 ·cases hg
def uY (z:Str):R D:=if z.length<=5592405 then .ok (.str (Txt.lower z)) else .bad
def z4Q:V->List V->Hp->VK->Prop:=fun x xs H Q=>∃ z,x=.str z/\xs=[]/\z.length<=5592405/\Q (.str (Txt.lower z)) H
theorem z22 {X:Cx}:MtR X "str.lower" z4Q:=by
 intro pins s σ H x xs v us Q I rx rs h
 obtain ⟨z,rfl,rfl,hz,q⟩:=h
 obtain ⟨t,rfl⟩:=rx
 cases rs
 exact SC.lower (fit_lower hz) ⟨.str (Txt.lower z),H,I.tok _,⟨_,rfl⟩,q⟩
section
variable {X:Cx}{E:XK}{Γ:List Cl}{o:Expr}{t:Tn->R D}{c:Rc}{apos cpos:Pos}
theorem ju (ho:ME X E Γ o t c)(hbase:autoParam (attributeBase o "lower" X.env (eval o X.env)=eval o X.env) L2.au3._auto_1)(hline:autoParam ((apos.endLine==cpos.line)=true) L2.au3._auto_1) :
  ME X E Γ (.Call (.Attribute o "lower" apos) [] [] cpos) (vd uY t) .fresh:=by
 obtain ⟨te,p,q⟩:=ho
 refine ⟨_,Ur PySem.F.plainAttrs_str PySem.F.slot_str_lower PySem.F.type_str_lower z22 p hbase hline,fun O σ H τ Q ok h=>?_⟩
 unfold vd at h
 refine q O σ H τ _ ok (post.bind h fun d hd h x H1 L1 s1 r1 _=>?_)
 cases d with
 | str z =>
  obtain ⟨rfl,_⟩:=r1
  dsimp only at h
  unfold uY at h
  by_cases hz:z.length<=5592405
  ·rw [if_pos hz] at h
   exact ⟨rfl,z,rfl,rfl,hz,h _ H1 [] s1 ⟨rfl,rfl⟩ ⟨by simp,fun a ha=>nomatch ha⟩⟩
  ·rw [if_neg hz] at h; exact h.elim
 | _=>exact h.elim
end
def inS (a b:Str):Bool:=!(occurrences b a 0 b.length 1).isEmpty
def z3b:R2:=fun x y H Q=>∃ a b,x=.str a/\y=.str b/\Q (.bl (inS a b)) H
theorem Zo {X:Cx}:OpR X (compareOp .In) z3b:=by
 intro pins s σ H x y v u Q I rx ry h
 obtain ⟨a,b,rfl,rfl,q⟩:=h
 obtain ⟨t,rfl⟩:=rx
 obtain ⟨t',rfl⟩:=ry
 exact in_str ⟨.bl (inS a b),H,I,rfl,q⟩
def uh:D->D->R D
 | .str a,.str b=>.ok (.bl (inS a b))
 | _,_=>.bad
theorem Wc:xl uh:=fun x y n h=>by
 unfold uh at h
 split at h<;>cases h
theorem Wv {K:PySem.W.Frag}:OpB K z3b uh:=by
 rintro H x y dx dy Lx Ly Q rx ry ⟨d,hg,q⟩
 unfold uh at hg
 split at hg
 ·cases hg
  exact ⟨_,_,rx.1,ry.1,q _ H [] (Same.refl H) ⟨rfl,rfl⟩ (by simp) (fun a ha=>nomatch ha)⟩
 ·cases hg
def ZY {α:Type}(t:Sem α):Prop:=∀ (M:Model) (Γ:PySem.Ctx) (Q:α->Pos->Shared->Prop) (E:Value->Pos->Shared->Prop) (p:Pos) (s:Shared),Sem.wp M Γ t Q E p s->Sem.wp M Γ t (fun a p' s'=>0<s'.toks/\Q a p' s') E p s
theorem wA {α β:Type}{m:Sem α}{f:α->Sem β}(h:ZY m):ZY (m >>= f):=fun M Γ Q E p s hw=>by
 rw [Sem.wp_bind'] at hw ⊢
 refine Sem.wp_mono M Γ m (fun a p' s' h'=>?_) (fun _ _ _ h=>h) p s (h M Γ _ E p s hw)
 exact Sem.wp_mono M Γ (f a) (fun _ _ _ h=>h) (fun _ _ _ h=>h.2) p' s' (Sem.wp_toks M Γ 1 (f a) Q E p' s' h'.1 h'.2)
theorem ug {α β:Type}{m:Sem α}{f:α->Sem β}(h:∀ a,ZY (f a)):ZY (m >>= f):=fun M Γ Q E p s hw=>by
 rw [Sem.wp_bind'] at hw ⊢
 exact Sem.wp_mono M Γ m (fun a p' s' h'=>h a M Γ Q E p' s' h') (fun _ _ _ h=>h) p s hw
theorem Xy:ZY PySem.fresh:=fun M Γ Q E p s hw=>⟨Nat.succ_pos _,hw⟩
theorem XB {a:Addr}{x:Str}{v:Value}:ZY (nsSet a x v):=ug fun _=>wA (wA Xy)
theorem Xb {env:Env}{x:Str}{v:Value}(hk:env.scope.kind=.function)(hl:env.kindOf x=some .local):ZY (storeName env x v):=by
 have e:storeName env x v=nsSet env.locals x v:=by
  unfold storeName
  rw [hl,hk]
  rfl
 rw [e]
 exact XB
theorem VR {scope:Scope}{globals:Addr}{binds:List (Str×Value)}{qual:Str}{func:Option Addr}{code:Value}{builtins:Addr}(hk:scope.kind=.function)(hx:∃ x v r,binds=(x,v)::r/\scope.names.lookup x=some .local) :
  ZY (newFunctionEnv scope globals [] binds qual func code none builtins):=by
 obtain ⟨x,v,r,rfl,hx⟩:=hx
 simp only [newFunctionEnv,Option.isSome_none,tW,if_false]
 refine ug fun L=>ug fun cells=>wA ?_
 rw [List.forIn_cons]
 exact wA (wA (Xb hk hx))
theorem KC {scope:Scope}{globals:Addr}{binds:List (Str×Value)}{qual:Str}{func:Option Addr}{code:Value}{builtins:Addr}{M:Model}{A:Around}{E:Value->Shared->Prop}{s:Shared}{Q:Env->Shared->Prop}(hk:scope.kind=.function)(hx:∃ x v r,binds=(x,v)::r/\scope.names.lookup x=some .local)
  (h:wpAny M A (newFunctionEnv scope globals [] binds qual func code none builtins) (fun env s'=>0<s'.toks->Q env s') E s):wpAny M A (newFunctionEnv scope globals [] binds qual func code none builtins) Q E s:=fun Γ p hΓ =>
 Sem.wp_mono M Γ _ (fun a p' s' h=>h.2 h.1) (fun _ _ _ h=>h) p s (VR hk hx M Γ _ _ p s (h Γ p hΓ))
def Zq (X:Cx)(st:List Stmt)(t:TS):Prop :=
 ∀ (pins:List (Addr×Obj)) (s:Shared) (σ:St) (H:Hp) (D:Ends),0<s.toks->Inv X pins σ H s->t D σ H->wpAny (model X.prog X.w) X.A (execs st X.env) (SP X pins D) X.xe s
def PEp (X:Cx)(e:Expr)(t:TE):Prop :=
 ∀ (pins:List (Addr×Obj)) (s:Shared) (σ:St) (H:Hp) (Q:VK),0<s.toks->Inv X pins σ H s->t σ H Q->wpAny (model X.prog X.w) X.A (eval e X.env) (EP X pins σ Q) X.xe s
theorem PE.p {X:Cx}{e:Expr}{t:TE}(h:PE X e t):PEp X e t:=fun pins s σ H Q _ I=>h pins s σ H Q I
theorem PEp.up {X:Cx}{e:Expr}{t:TE}(h:PEp X e t){pins:List (Addr×Obj)}{s:Shared}{σ:St}{H:Hp}{Q:VK}(hs:0<s.toks)(I:Inv X pins σ H s)(ht:t σ H Q):wpAny (model X.prog X.w) X.A (eval e X.env) (fun v s'=>0<s'.toks/\EP X pins σ Q v s') X.xe s :=
 wpAny_mono (wpAny_toks_of (n:=1) hs (h pins s σ H Q hs I ht)) (fun _ _ h=>h) fun _ _ h=>h.2
section
variable {X:Cx}{o:Expr}{to:TE}{a b:Str}{j1 j2:Nat}{p1 p2 apos cpos:Pos}
theorem Qx (ho:PEp X o to)(hab:(a==b)=false)(hb:b.length<=14)
  (hbase:autoParam (attributeBase o "replace" X.env (eval o X.env)=eval o X.env) L2.au3._auto_1)
  (hfew:autoParam (((backTo cpos (starEach [.Constant (.str a) j1 p1,.Constant (.str b) j2 p2] X.env)).all (fun x=>!x.1)&&(backToKw cpos (keywordEach [] X.env)).all (fun x=>x.1.isSome)
   && decide ([Expr.Constant (.str a) j1 p1,.Constant (.str b) j2 p2].length+([]:List Keyword).length+(if ([]:List Keyword).isEmpty then 0 else 1)<30))=true) L2.au3._auto_1)
  (hline:autoParam ((apos.endLine==cpos.line)=true) L2.au3._auto_1) (hs:autoParam (starEach [.Constant (.str a) j1 p1,.Constant (.str b) j2 p2] X.env=[(false,eval (.Constant (.str a) j1 p1) X.env),(false,eval (.Constant (.str b) j2 p2) X.env)]) L2.au3._auto_1) :
  PEp X (.Call (.Attribute o "replace" apos) [.Constant (.str a) j1 p1,.Constant (.str b) j2 p2] [] cpos) (fun σ H Q=>to σ H fun x H1=>∃ z,x=.str z/\z.length<=1048576/\Q (.str (Txt.replace z a b)) H1):=by
 intro pins s σ H Q htk I h
 refine wpAny_Call_method_late hbase hfew hline rfl (thn (ho.up htk I h) fun v s1 h1=>?_)
 obtain ⟨tk1,x,H1,I1,r1,z,rfl,hz,q1⟩:=h1
 obtain ⟨t,rfl⟩:=r1
 refine ⟨"str","str.replace",PySem.F.plainAttrs_str,PySem.F.slot_str_replace,PySem.F.type_str_replace,typeIs_str _ _ _,?_,?_⟩
 ·exact fun y e=>by cases e
 rw [hs]
 refine Calls.callWith_builtin rfl (Calls.evalArgs_plain ?_)
 show wpAny _ _ (spliced [(false,eval (.Constant (.str a) j1 p1) X.env),(false,eval (.Constant (.str b) j2 p2) X.env)]) _ _ _
 refine Calls.spliced_cons (Calls.Constant_str (k:=j1) (pos:=p1) (Calls.spliced_cons (Calls.Constant_str (k:=j2) (pos:=p2) (Calls.spliced_nil ?_))))
 exact SC.replaceW (by show s1.toks≠0; omega) (by show s1.toks+1≠0; omega) (by show s1.toks≠s1.toks+1; omega) hab hz hb fun t' k=>⟨.str (Txt.replace z a b),H1,I1.tok _,⟨t',rfl⟩,q1⟩
end
section
theorem z0T {CX:CXT}{P:Program}{w:World}{K:PySem.W.Frag}{mg:Str->Option Value}{base:Heap}{k:Nat}{f:Addr}{name qual:Str}{params:Arguments}{body:List Stmt}{scope:Scope}{dV kV doc pm cdv ct oc:Value}{an od:Option Addr}
  {osl:Array (Option Value)} {N ps:List Str} {sp:Sp} (lk:K.lookup f=some ⟨oc,od,.func (PySem.W.fnOf name qual params body scope dV kV doc pm an cdv ct),osl⟩) (hcd:PySem.W.codeIn K cdv qual=true) (S:FnScope N ps scope)
  (hloc:∃ x r,ps=x::r/\scope.names.lookup x=some .local) (len:∀ vs H Q E,sp vs H Q E->vs.length=ps.length)
  (hbody:∀ (A:Around) (outer:List Env) (s:Shared) (H:Hp) (vs:List V) (Q:VK) (E:XK),Room k (A.deeper (envOfC qual scope s.heap.objs.size f cdv))->sp vs H Q E ->
   ∃ t,Zq (xF CX P w K mg base N qual scope f cdv A outer s H E) body t/\t { nx:=fun _ H'=>Q .non H',rt:=Q } (start N vs) H) :
  FnOk P w K mg base CX (k+1) f (PySem.W.fnOf name qual params body scope dV kV doc pm an cdv ct) ps sp:=by
 refine ⟨len,fun A outer s H args us vs Q E hr e0 hb r hsp=>?_⟩
 have hl:=len _ _ _ _ hsp
 have KX:K.In s.heap:=e0.mod.kin.keeps fun b o e=>(e0.bs b o e).1
 have lim:s.heap.NoLimit:=e0.mod.nolimit.keeps fun b o e=>(e0.bs b o e).1
 have hkind:∀ y∈ps.zip us,scope.names.lookup y.1=some .local\/(scope.names.lookup y.1=some .cell/\((cellsFrom (s.heap.objs.size+1) scope.names []).lookup y.1).isSome=true):=fun ⟨n,v⟩ hy=>by
  rcases S.par n (List.of_mem_zip hy).1 with q | q
  ·exact .inl q
  ·exact .inr ⟨q,PySem.W.cellsFrom_some _ _ _ (.inl q)⟩
 refine codeAny_call_function hr.depth (KX _ _ lk) rfl S.co S.gen rfl (PySem.W.codeRec_of KX hcd) (hb _ _ _ _ ?_)
 have hlu:us.length=ps.length:=by rw [<- r.length,hl]
 refine KC S.kind (by
  obtain ⟨y,q,rfl,hy⟩:=hloc
  cases us with
  | nil=>cases hlu
  | cons u us=>exact ⟨y,u,_,rfl,hy⟩) (wpAny_newFunctionEnv_cells S.kind hkind fun env he s1 x htk=>?_)
 subst he
 refine ⟨lim.keeps x.toInCall.keep,codeAny_func ?_⟩
 obtain ⟨t,ht,hq⟩:=hbody A outer s H vs Q E (hr.deeper _) hsp
 have I:Inv (xF CX P w K mg base N qual scope f cdv A outer s H E) [] (start N vs) H s1:=kH S hr.hd e0 hl r x
 refine wpAny_mono (ht [] s1 (start N vs) H _ htk I hq) (fun fl s' hs=>?_) fun e s' hs=>hs
 have fin:∀ {σ':St} {H':Hp} {v:V} {u:Value},Inv (xF CX P w K mg base N qual scope f cdv A outer s H E) [] σ' H' s'->RelV v u->Q v H'->CE outer P w H s Q u s' :=
  fun {σ' H' v u} J rv q=>⟨v,H',J.os,J.bare,J.base,J.hok,rv,q⟩
 cases fl with
 | ret u =>
  obtain ⟨v,σ',H',J,rv,q⟩:=hs
  exact fin J rv q
 | next =>
  obtain ⟨σ',H',J,q⟩:=hs
  exact fin (v:=V.non) (u:=Value.none) J rfl q
 | brk =>
  obtain ⟨_,_,_,q⟩:=hs
  exact False.elim q
 | cont =>
  obtain ⟨_,_,_,q⟩:=hs
  exact False.elim q
end
def MEp (X:Cx)(E:XK)(Γ:List Cl)(e:Expr)(t:Tn->R D)(c:Rc):Prop :=
 ∃ te,PEp X e te/\∀ O σ H τ Q,EOk X.K Γ O H σ τ->post X.K E O c H Q (t τ)->te σ H Q
def Zj (X:Cx)(E:XK)(Γl Γ:List Cl)(s:List Stmt)(t:Tn->R Fl)(Γ':List Cl):Prop :=
 ∃ ts,Zq X s ts/\∀ B σ H τ Z,SOk X.K Γ B H σ τ []->ua X.K E B Γl Γ' Z (t τ)->ts Z σ H
def vZ (a b:Str):D->R D
 | .str z=>if z.length<=1048576 then .ok (.str (Txt.replace z a b)) else .bad
 | _=>.bad
section
variable {X:Cx}{E:XK}{Γ Γ' Γl:List Cl}{e o:Expr}{t:Tn->R D}{c:Rc}{a b:Str}{j1 j2:Nat}{p1 p2 apos cpos pos:Pos}
theorem ME.p (h:ME X E Γ e t c):MEp X E Γ e t c:=by
 obtain ⟨te,p,q⟩:=h
 exact ⟨te,p.p,q⟩
theorem ur (ho:MEp X E Γ o t c)(hab:(a==b)=false)(hb:b.length<=14)
  (hbase:autoParam (attributeBase o "replace" X.env (eval o X.env)=eval o X.env) L2.au3._auto_1)
  (hfew:autoParam (((backTo cpos (starEach [.Constant (.str a) j1 p1,.Constant (.str b) j2 p2] X.env)).all (fun x=>!x.1)&&(backToKw cpos (keywordEach [] X.env)).all (fun x=>x.1.isSome)
   && decide ([Expr.Constant (.str a) j1 p1,.Constant (.str b) j2 p2].length+([]:List Keyword).length+(if ([]:List Keyword).isEmpty then 0 else 1)<30))=true) L2.au3._auto_1)
  (hline:autoParam ((apos.endLine==cpos.line)=true) L2.au3._auto_1) (hs:autoParam (starEach [.Constant (.str a) j1 p1,.Constant (.str b) j2 p2] X.env=[(false,eval (.Constant (.str a) j1 p1) X.env),(false,eval (.Constant (.str b) j2 p2) X.env)]) L2.au3._auto_1) :
  MEp X E Γ (.Call (.Attribute o "replace" apos) [.Constant (.str a) j1 p1,.Constant (.str b) j2 p2] [] cpos) (eUn (vZ a b) t) .fresh:=by
 obtain ⟨te,p,q⟩:=ho
 refine ⟨_,Qx p hab hb hbase hfew hline hs,fun O σ H τ Q ok h=>?_⟩
 unfold eUn at h
 refine q O σ H τ _ ok (post.bind h fun d hd h x H1 L1 s1 r1 _=>?_)
 cases d with
 | str z =>
  obtain ⟨rfl,_⟩:=r1
  have h:post X.K E O .fresh H Q (if z.length<=1048576 then .ok (.str (Txt.replace z a b)) else .bad):=h
  by_cases hz:z.length<=1048576
  ·rw [if_pos hz] at h
   exact ⟨z,rfl,hz,h _ H1 [] s1 ⟨rfl,rfl⟩ ⟨by simp,fun a ha=>nomatch ha⟩⟩
  ·rw [if_neg hz] at h; exact h.elim
 | _=>exact h.elim
theorem KP (h:MEp X E Γ e t .fresh):Zj X E Γl Γ [.Return (some e) pos] (zr t) Γ':=by
 obtain ⟨te,p,q⟩:=h
 refine ⟨JM te,fun pins s σ H D htk I h=>?_,fun B σ H τ Z ok h=>?_⟩
 ·refine wpAny_execs_cons (wpAny_Return_some (thn (p pins s σ H _ htk I h) fun v s1 h1=>?_))
  obtain ⟨x,H1,I1,r1,q1⟩:=h1
  exact ⟨x,σ,H1,I1,r1,q1⟩
 ·obtain ⟨O,eo,_⟩:=ok.eok
  refine q O σ H τ _ eo ?_
  unfold zr at h
  cases ht:t τ with
  | ok d =>
   rw [ht,R.ok_bind] at h
   exact fun v H' L s r k=>h v H' L (ok.ext.trans s) r k.1 fun a ha=>ok.ext.non (k.2 a ha)
  | err n=>rw [ht] at h; exact fun C H' e s=>h C H' e (ok.ext.trans s)
  | bad=>rw [ht] at h; exact h
end
section
variable {P:Program}{w:World}{K:PySem.W.Frag}{mg:Str->Option Value}{base:Heap}{x:Str}{st:Stmt}{N ps:List Str}{k:Nat}{t:Tn->R Fl}{Γ':List Cl}
theorem DefIn.mirT (Df:DefIn K mg x st ps)(S:FnScope N ps (defScope st))(hn:ps.length<=N.length)(hloc:∃ x r,ps=x::r/\(defScope st).names.lookup x=some .local)
  (hbody:∀ (f:Addr) (cdv:Value) (A:Around) (outer:List Env) (s:Shared) (H:Hp) (E:XK),Room k (A.deeper (envOfC x (defScope st) s.heap.objs.size f cdv)) ->
   Zj (xF (cxx P w) P w K mg base N x (defScope st) f cdv A outer s H E) E [] (kj N.length ps.length) (defBody st) t Γ'):Own P w K mg base x (k+1) ps (spM K (zw N.length t) ps.length):=by
 obtain ⟨f,fd,F,hm,hb⟩:=Df.ex
 obtain ⟨oc,od,kV,doc,pm,an,cdv,ct,osl,rfl,lk,hcd⟩:=F.ex
 refine ⟨f,_,z0T lk hcd S hloc (fun vs H Q E h=>h.1) fun A outer s H vs Q E hr h=>?_,hm,F.kp,hb⟩
 obtain ⟨hl,ds,L,r,h⟩:=h
 obtain ⟨ts,p,q⟩:=hbody f cdv A outer s H E hr
 refine ⟨ts,p,q H (start N vs) H _ _ (hl▸SOk.start r (by lia)) ?_⟩
 unfold zw at h
 cases ht:t (ds.map some++List.replicate (N.length-ds.length) none) with
 | ok f =>
  rw [ht] at h
  cases f with
  | nx τ'=>exact fun σ' H' ok'=>h .non H' [] ok'.ext ⟨rfl,rfl⟩ RcOk.nil
  | rt d=>exact fun v H' L s r n1 n2=>h v H' L s r ⟨n1,n2⟩
  | bk τ'=>exact h.elim
  | ct τ'=>exact h.elim
 | err n=>rw [ht] at h; exact fun C H' e s=>h C H' e s
 | bad=>rw [ht] at h; exact h.elim
end
section
open PySem.SeqAt PySem.MeetsSeq3
open PySem.AutoSeq1 (wpAny_loadPart')
theorem ku (l b:Addr)(items items2:Array Value)(n n2:Nat)(dd dd2:Option Addr)(sl sl2:Array (Option Value))(ns ms:List Int)(hi:IntsAre items.toList ns)(hj:IntsAre items2.toList ms)(hsz:ns.length=ms.length) :
  Meets (Builtin.«tuple.__gt__» ⟨[.ref l,.ref b],[]⟩)
   (fun A R s=>(s.heap.get? l=some { cls:=.type "tuple",dict:=dd,data:=.seq items n,slots:=sl }/\s.heap.get? b=some { cls:=.type "tuple",dict:=dd2,data:=.seq items2 n2,slots:=sl2 }) /\
    R (.ok (.ret (.bool (qU ns ms)))) s) :=
 .of_wp fun prog w A R s h=>by
  have z1:items.size=ns.length:=by have:=hi.length; simpa using this
  have z2:items2.size=ms.length:=by have:=hj.length; simpa using this
  have at1:∀ j,(hlt:j<ns.length)->∃ t,items[j]?=some (.int ns[j] t):=fun j hlt=>by
   have h0:j<items.toList.length:=by simp; lia
   obtain ⟨t,e⟩:=PyProof.Rows.IntsAre.int_at hi j _ (tU h0)
   refine ⟨t,?_⟩
   rw [<- Array.getElem?_toList,tU h0,e,pK,tU hlt]
   rfl
  have at2:∀ j,(hlt:j<ms.length)->∃ t,items2[j]?=some (.int ms[j] t):=fun j hlt=>by
   have h0:j<items2.toList.length:=by simp; lia
   obtain ⟨t,e⟩:=PyProof.Rows.IntsAre.int_at hj j _ (tU h0)
   refine ⟨t,?_⟩
   rw [<- Array.getElem?_toList,tU h0,e,pK,tU hlt]
   rfl
  obtain ⟨hp,g,d,tk,os⟩:=s; obtain ⟨⟨hl,hb⟩,h⟩:=h
  have f2:=AutoSeq1.sub_tuple_tuple
  have hZ:(items.toList.zip items2.toList).length=ns.length:=by simp; lia
  wp_walk using wpAny_loadPart' hl,wpAny_loadPart' hb,wpAny_forIn_list _ (fun rest b s'=>b.1=none/\s'=⟨hp,g,d,tk,os⟩/\∃ i,rest=(items.toList.zip items2.toList).drop i/\R (.ok (.ret (.bool (qU (ns.drop i) (ms.drop i))))) ⟨hp,g,d,tk,os⟩) _
  case turn =>
   rintro ⟨x,y⟩ rest b' s' ⟨hb',rfl,i,hz,hR⟩
   have hlt:i<ns.length:=by
    rcases Nat.lt_or_ge i (items.toList.zip items2.toList).length with h' | h'
    ·lia
    ·rw [List.drop_of_length_le h'] at hz; cases hz
   have h2:i<ms.length:=by lia
   rw [rB (by lia)] at hz
   obtain ⟨t,a1⟩:=at1 i hlt
   obtain ⟨u,a2⟩:=at2 i h2
   have e0:(x,y)=(items.toList.zip items2.toList)[i]'(by lia):=(List.cons.inj hz).1
   have hrest:=(List.cons.inj hz).2
   rw [List.getElem_zip] at e0
   have ex:x=.int ns[i] t:=by
    have:=congrArg Prod.fst e0
    rw [show x=items.toList[i]'(by simp; lia) from this]
    have a1':items.toList[i]?=some (.int ns[i] t):=by simpa using a1
    rw [tU (by simp; lia)] at a1'
    exact Option.some.inj a1'
   have ey:y=.int ms[i] u:=by
    have:=congrArg Prod.snd e0
    rw [show y=items2.toList[i]'(by simp; lia) from this]
    have a2':items2.toList[i]?=some (.int ms[i] u):=by simpa using a2
    rw [tU (by simp; lia)] at a2'
    exact Option.some.inj a2'
   subst ex ey
   have d1:ns.drop i=ns[i]::ns.drop (i+1):=rB hlt
   have d2:ms.drop i=ms[i]::ms.drop (i+1):=rB h2
   rw [d1,d2] at hR
   refine wpAny_bind ((SeqAt.EqAt.int_int (A:=A.in1) (s:=⟨hp,g,d,tk,os⟩) ns[i] t ms[i] u) prog w _ _ ?_)
   by_cases he:ns[i]=ms[i]
   ·have hb2:(ns[i]==ms[i])=true:=by simpa using he
    rw [hb2]
    have hx:qU (ns[i]::ns.drop (i+1)) (ms[i]::ms.drop (i+1))=qU (ns.drop (i+1)) (ms.drop (i+1)):=if_pos he
    rw [hx] at hR
    wp_walk
    exact ⟨rfl,rfl,i+1,hrest,hR⟩
   ·have hb2:(ns[i]==ms[i])=false:=by simpa using he
    rw [hb2]
    have hx:qU (ns[i]::ns.drop (i+1)) (ms[i]::ms.drop (i+1))=decide (ns[i]>ms[i]):=if_neg he
    rw [hx] at hR
    have hri:=Qt A.in1 ⟨hp,g,d,tk,os⟩ ns[i] t ms[i] u prog w
    wp_walk using hri
    exact ⟨_,rfl,hR⟩
  case fin =>
   rintro ⟨b1,b2⟩ s' ⟨hb',rfl,i,hz,hR⟩
   simp only at hb'
   subst hb'
   have hge:ns.length<=i:=by
    rcases Nat.lt_or_ge i (items.toList.zip items2.toList).length with h' | h'
    ·rw [rB h'] at hz; cases hz
    ·lia
   rw [List.drop_of_length_le hge] at hR
   have hR:R (.ok (.ret (.bool false))) ⟨hp,g,d,tk,os⟩:=hR
   wp_walk
   exact ⟨_,rfl,by
    have e:decide (items.size>items2.size)=false:=decide_eq_false (by lia)
    simpa [Builtin.Tuple.tupleCompareSizes,e,z1,z2,hsz] using hR⟩
  case h =>
   exact ⟨rfl,rfl,0,rfl,h⟩
end
def z3g (K:PySem.W.Frag):R2:=fun x y H Q=>∃ a b ns ms,x=.ref a/\y=.ref b/\SqT K H a (ns.map V.int)/\SqT K H b (ms.map V.int)/\ns.length=ms.length/\Q (.bl (qU ns ms)) H
theorem z11 {X:Cx}(hu:X.A.units<cLine):OpR X (compareOp .Gt) (z3g X.K):=by
 intro pins s σ H x y v u Q I rx ry h
 obtain ⟨a,b,ns,ms,rfl,rfl,ha,hb,hsz,q⟩:=h
 cases rx
 cases ry
 obtain ⟨its,r1,p1,_⟩:=I.tuple ha
 obtain ⟨its2,r2,p2,_⟩:=I.tuple hb
 have i1:IntsAre its.toArray.toList ns:=jy r1
 have i2:IntsAre its2.toArray.toList ms:=jy r2
 obtain ⟨⟨cls,dd,data,sl⟩,ho,hc,n,hd⟩:=p1
 obtain ⟨⟨cls2,dd2,data2,sl2⟩,ho2,hc2,n2,hd2⟩:=p2
 simp only at hc hd hc2 hd2
 subst hc hd hc2 hd2
 exact richCompare_meets_room (op:=.Gt) ⟨_,ho,rfl⟩ ⟨_,ho2,rfl⟩ PySem.F.slot_tuple_gt PySem.F.entry_tuple_gt (PySem.F.args_tuple_gt_2 _ _) (ku a b _ _ n n2 dd dd2 sl sl2 ns ms i1 i2 hsz)
  ⟨⟨ho,ho2⟩,show Value.bool (qU ns ms)≠Value.notImplemented/\EP X pins σ Q (.bool (qU ns ms)) s from ⟨(fun x=>nomatch x),.bl (qU ns ms),H,I,rfl,q⟩⟩ hu
def gtT:D->D->R D
 | .tup ds,.tup es=>(match vi ds,vi es with
  | some ns,some ms=>if ns.length=ms.length then .ok (.bl (qU ns ms)) else .bad
  | _,_=>.bad)
 | _,_=>.bad
theorem z4v:xl gtT:=fun x y n h=>by
 unfold gtT at h
 split at h
 ·split at h
  ·split at h<;>cases h
  ·cases h
 ·cases h
theorem z3j {K:PySem.W.Frag}:OpB K (z3g K) gtT:=by
 rintro H x y dx dy Lx Ly Q rx ry ⟨d,hg,q⟩
 unfold gtT at hg
 split at hg
 ·split at hg
  ·rename_i ns ms h1 h2
   split at hg
   ·rename_i hsz
    cases hg
    obtain ⟨a,vs,rfl,ha,rs⟩:=rx
    obtain ⟨b,vs2,rfl,hb,rs2⟩:=ry
    refine ⟨a,b,ns,ms,rfl,rfl,?_,?_,hsz,q _ H [] (Same.refl H) ⟨rfl,rfl⟩ (by simp) (fun a ha=>nomatch ha)⟩
    ·rw [<- wH rs h1]; exact ha
    ·rw [<- wH rs2 h2]; exact hb
   ·cases hg
  ·cases hg
 ·cases hg
section
open PySem.SeqAt PySem.MeetsSeq PySem.MeetsSeq3
open PySem.AutoSeq1 (wpAny_loadPart')
end
section
variable {X:Cx}{E:XK}{Γ Γs Γl:List Cl}{x:Str}{k:Nat}{ps:List Str}{F:List D->R D}{e:Expr}{es:List Expr}{t:Tn->R D}{u:Tn->R (List D)}{c:Rc}{p pos:Pos}{n:Nat}
end
section
variable {X:Cx}{E:XK}{Γ Γl:List Cl}{pos:Pos}
end
def yK (z:Str)(n:Int):Str:=if n<1 then Str.empty else if (n==1||z.length==0)=true then z else ⟨(List.replicate n.toNat z.cps).foldl (·++·) #[]⟩
theorem jH (c:Array Nat):∀ (k:Nat) (acc:Array Nat),((List.replicate k c).foldl (·++·) acc).size=acc.size+k*c.size
 | 0,acc=>by simp
 | k+1,acc=>by
  rw [tS,List.foldl_cons,jH c k,Array.size_append,Nat.succ_mul]
  lia
theorem YY (z:Str)(n:Int):(yK z n).length<=n.toNat*z.length:=by
 unfold yK
 split
 ·exact rO _
 ·split
  ·rename_i h1 h2
   rw [Bool.or_eq_true] at h2
   rcases h2 with e | e
   ·have:n=1:=by simpa using e
    subst this; show z.length<=1*z.length; lia
   ·have:z.length=0:=by simpa using e
    lia
  ·show ((List.replicate n.toNat z.cps).foldl (·++·) #[]).size<=_
   rw [jH]
   show 0+n.toNat*z.length<=_
   lia
def z0E:R2:=fun x y H Q=>∃ z n,x=.str z/\y=.int n/\-1000000<=n/\n.toNat*z.length<=1000000/\n<=1000000/\Q (.str (yK z n)) H
theorem Jx {X:Cx}:OpR X (binaryOp .Mult) z0E:=by
 intro pins s σ H x y v u Q I rx ry h
 obtain ⟨z,n,rfl,rfl,h0,h1,h2,q⟩:=h
 obtain ⟨t,rfl⟩:=rx
 obtain ⟨t',rfl⟩:=ry
 have hfit:(yK z n).length<=sizeLine:=by have:=YY z n; rw [sizeLine_eq]; lia
 refine PySem.P.mul_str (by
  have e1:decide (n < -(2 ^ 63:Int))=false:=decide_eq_false (by lia)
  have e2:decide (n>=2 ^ 63)=false:=decide_eq_false (by lia)
  rw [e1,e2]; rfl) (fun a b hg=>?_) (fun a b=>?_) ?_
 ·have hn:1<=n:=by lia
  have:(z.length:Int)<=(2 ^ 63-1)/n:=by
   rw [Int.le_ediv_iff_mul_le (by lia)]
   have e:(z.length:Int)*n=((n.toNat*z.length:Nat):Int):=by
    rw [Int.natCast_mul,rE (by lia),Int.mul_comm]
   rw [e]
   lia
  lia
 ·unfold PySem.Builtin.Str.tooLong
  rw [sizeLine_eq]
  exact decide_eq_false (by rw [Nat.mul_comm]; lia)
 ·have done:∀ t',EP X pins σ Q (.str (yK z n) t') s:=fun t'=>⟨.str (yK z n),H,I,⟨t',rfl⟩,q⟩
  have done':∀ t' k,EP X pins σ Q (.str (yK z n) t') { s with toks:=k }:=fun t' k=>⟨.str (yK z n),H,I.tok k,⟨t',rfl⟩,q⟩
  unfold yK at hfit done done'
  split
  ·rename_i hn
   rw [if_pos hn] at hfit done'
   exact ⟨hfit,done' _ _⟩
  ·rename_i hn
   rw [if_neg hn] at hfit done done'
   split
   ·rename_i h5
    rw [if_pos h5] at done
    exact done _
   ·rename_i h5
    rw [if_neg h5] at hfit done'
    exact ⟨hfit,done' _ _⟩
def jb:D->D->R D
 | .str z,.int n=>if -1000000<=n/\n.toNat*z.length<=1000000/\n<=1000000 then .ok (.str (yK z n)) else .bad
 | _,_=>.bad
theorem z19:xl jb:=fun x y n h=>by
 unfold jb at h
 split at h
 ·split at h<;>cases h
 ·cases h
theorem z1g {K:PySem.W.Frag}:OpB K z0E jb:=by
 rintro H x y dx dy Lx Ly Q rx ry ⟨d,hg,q⟩
 unfold jb at hg
 split at hg
 ·rename_i z n
  split at hg
  ·rename_i hz
   cases hg
   exact ⟨z,n,rx.1,ry.1,hz.1,hz.2.1,hz.2.2,q _ H [] (Same.refl H) ⟨rfl,rfl⟩ (by simp) (fun a ha=>nomatch ha)⟩
  ·cases hg
 ·cases hg
section
end
def SuiteA (X:Cx)(CS:Addr)(i j:Nat)(sts:List Stmt)(g:Str->Option Int):Prop:=∀ (m:Str) (k:Int),g m=some k->∀ C,ErrC X.K m C->PySem.W.exmOne X.K (.ref C) (.ref CS)=some true /\
 ∃ ts:Addr->Obj->TS,(∀ e oe,PSs (X.within e oe) sts (ts e oe))/\∀ e oe (Z:Ends) (σ:St) (H:Hp) (n:Int),σ.length=X.N.length->oe.cls=.ref C->H e=none->σ[i]?=some (some (.ref e))->σ[j]?=some (some (.int n))->(∀ H',Same H H'->Z.nx (σ.set j (some (.int (n+k)))) H')->ts e oe Z σ H
def SuiteA.ts {X:Cx}{CS:Addr}{i j:Nat}{sts:List Stmt}{g:Str->Option Int}(hs:SuiteA X CS i j sts g)(e:Addr)(oe:Obj):TS:=fun Z σ H=>∃ (m:Str) (k:Int) (hg:g m=some k) (C:Addr) (hC:ErrC X.K m C),Classical.choose (hs m k hg C hC).2 e oe Z σ H
theorem SuiteA.pss {X:Cx}{CS:Addr}{i j:Nat}{sts:List Stmt}{g:Str->Option Int}(hs:SuiteA X CS i j sts g)(e:Addr)(oe:Obj):PSs (X.within e oe) sts (hs.ts e oe):=by
 intro pins s σ H Z I h
 obtain ⟨m,k,hg,C,hC,z⟩:=h
 exact (Classical.choose_spec (hs m k hg C hC).2).1 e oe pins s σ H Z I z
section
variable {X:Cx}{E:XK}{Γ Γl Γ':List Cl}{k:Nat}{CS:Addr}{ps:List Str}{F:List D->R D}{nA:Nat}{x xc n:Str}{p pos pos' pc hpos tpos:Pos}{e:Expr}{es:List Expr}{u:Tn->R (List D)}{c:Rc}{i j:Nat}{b₀:Stmt}{suite:List Stmt}{g:Str->Option Int}
end
section
variable {X:Cx}{E:XK}{Γ:List Cl}{pos:Pos}{x:Str}
theorem Ys {z:Str}(h:∃ t,X.mg x=some (.str z t))(hg:autoParam (Gl X x) L2.au10._auto_1)(hd:autoParam ((x==("__debug__":Str))=false) L2.au1._auto_1):ME X E Γ (.Name x pos) (eC (.str z)) .fresh:=by
 obtain ⟨t,ht⟩:=h
 exact VB (Zm (v:=.str z) hg ht ⟨t,rfl⟩ hd) fun _=>⟨rfl,rfl⟩
theorem J5 {i:Int}(h:∃ t,X.mg x=some (.int i t))(hg:autoParam (Gl X x) L2.au10._auto_1)(hd:autoParam ((x==("__debug__":Str))=false) L2.au1._auto_1):ME X E Γ (.Name x pos) (eC (.int i)) .fresh:=by
 obtain ⟨t,ht⟩:=h
 exact VB (Zm (v:=.int i) hg ht ⟨t,rfl⟩ hd) fun _=>⟨rfl,rfl⟩
end
section
variable {X:Cx}{E:XK}{Γ Γl:List Cl}{pos p0:Pos}{ix:Expr}{ti:Tn->R D}{c:Rc}
end
section
variable {X:Cx}{E:XK}{Γ Γl Γ':List Cl}{k:Nat}{ps:List Str}{F:List D->R D}{nA:Nat}{x xc n:Str}{p pos pos' pc hpos tpos:Pos}{e:Expr}{es:List Expr}{u:Tn->R (List D)}{c:Rc}{i j:Nat}{b₀:Stmt}{suite:List Stmt}{g:Str->Option Int}
end
section
variable {X:Cx}{E:XK}{Γ Γl:List Cl}{pos:Pos}
end
theorem upT {α:Type}{M:Model}{A:Around}{t:Sem α}{Q:α->Shared->Prop}{E:Value->Shared->Prop}{s:Shared}(hs:0<s.toks)(h:wpAny M A t Q E s):wpAny M A t (fun v s'=>0<s'.toks/\Q v s') E s :=
 wpAny_mono (wpAny_toks_of (n:=1) hs h) (fun _ _ h=>h) fun _ _ h=>h.2
def PST (X:Cx)(st:Stmt)(t:TS):Prop :=
 ∀ (pins:List (Addr×Obj)) (s:Shared) (σ:St) (H:Hp) (D:Ends),0<s.toks->Inv X pins σ H s->t D σ H->wpAny (model X.prog X.w) X.A (exec st X.env) (SP X pins D) X.xe s
theorem PS.tt {X:Cx}{st:Stmt}{t:TS}(h:PS X st t):PST X st t:=fun pins s σ H D _ I=>h pins s σ H D I
theorem PSs.tt {X:Cx}{st:List Stmt}{t:TS}(h:PSs X st t):Zq X st t:=fun pins s σ H D _ I=>h pins s σ H D I
section
variable {X:Cx}{st:Stmt}{rest:List Stmt}{t u:TS}
theorem UP (h1:PST X st t)(h2:Zq X rest u):Zq X (st::rest) (JD t u):=by
 intro pins s σ H D htk I h
 refine wpAny_execs_cons (thn (upT htk (h1 pins s σ H { D with nx:=u D } htk I h)) fun f s1 ⟨tk1,q⟩=>?_)
 cases f with
 | next =>
  obtain ⟨σ',H',I',q⟩:=q
  exact h2 pins s1 σ' H' D tk1 I' q
 | ret v=>exact q
 | brk=>exact q
 | cont=>exact q
theorem KL (h1:PST X st t):Zq X [st] t:=by
 intro pins s σ H D htk I h
 refine wpAny_execs_cons (thn (h1 pins s σ H D htk I h) fun f s1 q=>?_)
 cases f with
 | next=>exact wpAny_execs_nil q
 | ret v=>exact q
 | brk=>exact q
 | cont=>exact q
end
section
variable {X:Cx}{tg:Expr}
theorem Jv {iter:Expr}{body:List Stmt}{wi:TI}{g:TG}{tb:TS}{pos:Pos}(hp:PassesOwn (model X.prog X.w) X.A X.env X.xe)(hc:X.calm=true)(hi:PI X tg iter wi)(hg:PG X tg g)(hb:Zq X body tb)
  (hs:autoParam (∀ x,foldedSetIterable iter X.env x=pure x) L2.au2._auto_1):PST X (.For tg iter body [] pos) (z15 wi g tb):=by
 intro pins s σ H D htk I h
 refine wpAny_For (thn (upT htk (hi pins s σ H _ I h)) fun v s1 h1=>thn (upT h1.1 h1.2) fun itv s2 h2=>?_) hs
 obtain ⟨tk2,it,fp,tn,J,H2,e,I2,T,st2,f2,W,⟨m0,w0⟩,turn⟩:=h2
 subst e
 have stat:∀ {H':Hp},(∀ b∈fp,H' b=none)->∀ b∈fp,vV X pins H' b:=fun hn b hb=>⟨hn b hb,(f2 b hb).2⟩
 refine codeAny_forLoop_any (fun n s'=>0<s'.toks/\∃ i σ' H',Inv X pins σ' H' s'/\tn i s'.heap/\(∀ b∈fp,H' b=none)/\W i n σ' H') ?_ m0 ⟨tk2,0,σ,H2,I2,st2,fun b hb=>(f2 b hb).1,w0⟩
 rintro n s3 ⟨tk3,i,σ3,H3,I3,st3,fr3,w3⟩
 rcases turn i n σ3 H3 w3 with ⟨stop,qn⟩ | ⟨go,N,hN,step⟩
 ·refine wpAny_passesOwn hp (thn (T.done X rfl rfl rfl hc i pins s3 σ3 H3 X.xe I3 (stat fr3) st3 stop) fun r s4 ⟨hr,I4⟩=>?_)
  subst hr
  exact wpAny_execs_nil ⟨σ3,H3,I4,qn⟩
 ·refine wpAny_passesOwn hp (thn (upT tk3 (T.item X rfl rfl rfl hc i pins s3 σ3 H3 X.xe I3 (stat fr3) st3 go)) fun r s4 ⟨tk4,u,hr,h4⟩=>?_)
  subst hr
  refine wpAny_passesOwn hp (thn (upT tk4 h4) fun _ s5 ⟨tk5,x,H5,I5,r5,y5,st5,fr5⟩=>?_)
  have I5':=I5.pinned (stat fr5) (T.obj _ _ st5)
  refine wpAny_passesOwn hp (thn (upT tk5 (hg _ s5 σ3 H5 x u _ I5' r5 (step x H5 y5))) fun _ s6 ⟨tk6,σ6,H6,I6,q6⟩=>?_)
  refine wpAny_passesOwn hp (thn (upT tk6 (hb _ s6 σ6 H6 _ tk6 I6 q6)) fun f s7 ⟨tk7,q7⟩=>?_)
  have again:∀ {σ7:St} {H7:Hp},Inv X (pins++uf fp s5.heap) σ7 H7 s7->N σ7 H7->∃ m,m<n/\0<s7.toks/\∃ i σ' H',Inv X pins σ' H' s7/\tn i s7.heap/\(∀ b∈fp,H' b=none)/\W i m σ' H':=fun {σ7 H7} I7 n7=>by
   obtain ⟨m',hm,w7⟩:=hN σ7 H7 n7
   refine ⟨m',hm,tk7,i+1,σ7,H7,I7.unpinned,T.keep _ _ _ st5 fun b hb o e=>(I7.pin (b,o) (tJ _ (tJ _ (xf hb e)))).1,fun b hb=>?_,w7⟩
   obtain ⟨o,e,d⟩:=T.obj _ _ st5 b hb
   exact (I7.pin (b,o) (tJ _ (tJ _ (xf hb e)))).2.1
  cases f with
  | next=>obtain ⟨σ7,H7,I7,n7⟩:=q7; exact again I7 n7
  | cont=>obtain ⟨σ7,H7,I7,n7⟩:=q7; exact again I7 n7
  | brk=>obtain ⟨σ7,H7,I7,q7⟩:=q7; exact ⟨σ7,H7,I7.unpinned,q7⟩
  | ret v=>obtain ⟨x7,σ7,H7,I7,r7,q7⟩:=q7; exact ⟨x7,σ7,H7,I7.unpinned,r7,q7⟩
end
def MST (X:Cx)(E:XK)(Γl Γ:List Cl)(s:Stmt)(t:Tn->R Fl)(Γ':List Cl):Prop :=
 ∃ ts,PST X s ts/\∀ B σ H τ Z,SOk X.K Γ B H σ τ []->ua X.K E B Γl Γ' Z (t τ)->ts Z σ H
section
variable {X:Cx}{E:XK}{Γ Γ1 Γ2 Γ' Γl:List Cl}{pos:Pos}{e:Expr}{t:Tn->R D}{c:Rc}
theorem MS.tt {s:Stmt}{t:Tn->R Fl}(h:MS X E Γl Γ s t Γ'):MST X E Γl Γ s t Γ':=by
 obtain ⟨ts,p,q⟩:=h
 exact ⟨ts,p.tt,q⟩
theorem MSs.tt {s:List Stmt}{t:Tn->R Fl}(h:MSs X E Γl Γ s t Γ'):Zj X E Γl Γ s t Γ':=by
 obtain ⟨ts,p,q⟩:=h
 exact ⟨ts,p.tt,q⟩
theorem wy {s:Stmt}{r:List Stmt}{t1 t2:Tn->R Fl}(h:MST X E Γl Γ s t1 Γ1)(k:Zj X E Γl Γ1 r t2 Γ'):Zj X E Γl Γ (s::r) (zh t1 t2) Γ':=by
 obtain ⟨ts,p,q⟩:=h
 obtain ⟨ts',p',q'⟩:=k
 refine ⟨JD ts ts',UP p p',fun B σ H τ Z ok h=>q B σ H τ _ ok ?_⟩
 unfold zh at h
 cases ht:t1 τ with
 | ok f =>
  rw [ht,R.ok_bind] at h
  cases f with
  | nx τ'=>exact fun σ' H' ok'=>q' B σ' H' τ' Z ok' h
  | rt d=>exact h
  | bk τ'=>exact h
  | ct τ'=>exact h
 | err n=>rw [ht] at h; exact h
 | bad=>rw [ht] at h; exact h
theorem Zk {s:Stmt}{t:Tn->R Fl}(h:MST X E Γl Γ s t Γ'):Zj X E Γl Γ [s] t Γ':=by
 obtain ⟨ts,p,q⟩:=h
 exact ⟨ts,KL p,q⟩
theorem JW {tg iter:Expr}{body:List Stmt}{it:Tn->R (List D)}{g:Tgt}{tb:Tn->R Fl}(hp:PassesOwn (model X.prog X.w) X.A X.env X.xe)(hc:X.calm=true)(hi:MI X E Γ tg iter it c)(hcl:c≠.bor)(hg:MG X tg g)
  (hn:∀ i∈g.slots,i<Γ.length) (hb:Zj X E Γ (shrAll Γ g.slots) body tb Γ2) (hw:wk Γ2 Γ=true) (hs:autoParam (∀ x,foldedSetIterable iter X.env x=pure x) L2.au2._auto_1):MST X E Γl Γ (.For tg iter body [] pos) (yJ it g tb) Γ:=by
 obtain ⟨wi,p,q⟩:=hi
 obtain ⟨ts,p',q'⟩:=hb
 exact ⟨_,Jv hp hc p hg.pg p' hs,z0b hcl hn hw q q'⟩
end
section
variable {X:Cx}
end
section
variable {prog:Program}{w:World}{A:Around}{E:Value->Shared->Prop}{s:Shared}
end
section
variable {X:Cx}{E:XK}{Γ:List Cl}{e:Expr}{t:Tn->R D}{c:Rc}{p2 p3 p4 pos:Pos}{j:Nat}
end
section
variable {X:Cx}{E:XK}{Γ Γl:List Cl}{pos:Pos}
end
section
variable {X:Cx}{E:XK}{Γ Γl:List Cl}{pos:Pos}
end
theorem Wk:∀ {kvs:List (Key×V)} {i:Nat} {k:Key} {v:V},(kvs.map (·.1)).Nodup->kvs[i]?=some (k,v)->vG kvs k=some v
 | [],_,_,_,_,h=>by cases h
 | p::kvs,0,k,v,nd,h=>by
  cases h
  exact vJ rfl
 | p::kvs,i+1,k,v,nd,h=>by
  rw [tF,sY] at nd
  rw [tE] at h
  have hm:k∈kvs.map (·.1):=rZ.mpr ⟨(k,v),pL h,rfl⟩
  rw [wV (fun z=>nd.1 (by rw [z]; exact hm))]
  exact Wk nd.2 h
open PySem PySem.Spec PyProof.Rows PySem.W
open PySem.AutoSeq1 (wpAny_loadPart')
section
variable {prog:Program}{w:World}{A:Around}{E:Value->Shared->Prop}{s:Shared}{T:String}{r d:Addr}{n:Nat}{P:Nat->Value->Prop}{OK:Heap->Prop}
end
section
variable {K:PySem.W.Frag}{Γ:List Cl}{B H H1:Hp}{σ:St}{τ:Tn}
theorem SOk.chg {L N T:List Addr}(h:SOk K Γ B H σ τ (L++T))(tf:TF H H1)(kp:∀ b,b∉L->H b≠none->H1 b=H b)(n1:N.Nodup)(n2:∀ a∈N,H a=none/\H1 a≠none):SOk K Γ B H1 σ τ (N++T):=by
 obtain ⟨Ls,h1,h2,h3,h4,h5,h6⟩:=h.ex
 obtain ⟨d1,d2,d3⟩:=sI.mp h4
 have keepT:∀ a∈T,H1 a=H a:=fun a ha=>kp a (fun z=>d3 a z a ha rfl) (h5 a (tJ _ ha)).2
 refine ⟨fun b o e=>?_,h.lσ,h.lτ,Ls,fun i c e hc=>?_,h2,h3,sI.mpr ⟨n1,d2,fun a ha b hb z=>?_⟩,fun a ha=>?_,fun i c e hc a ha hm=>?_⟩
 ·have hq:=h.ext b o e
  rw [kp b (fun z=>by have:=(h5 b (sC _ z)).1; rw [e] at this; cases this) (by rw [hq]; simp)]
  exact hq
 ·obtain ⟨v,d,e1,e2,r⟩:=h1 i c e hc
  exact ⟨v,d,e1,e2,Rep.keep tf d v _ r fun a ha=>kp a (fun z=>h6 i c e hc a ha (sC _ z)) (r.there ha)⟩
 ·subst z
  exact (h5 a (tJ _ hb)).2 (n2 a ha).1
 ·rcases sE.mp ha with z | z
  ·exact ⟨h.ext.non (n2 a z).1,(n2 a z).2⟩
  ·exact ⟨(h5 a (tJ _ z)).1,by rw [keepT a z]; exact (h5 a (tJ _ z)).2⟩
 ·obtain ⟨v,d,e1,e2,r⟩:=h1 i c e hc
  rcases sE.mp hm with z | z
  ·exact r.there ha (n2 a z).1
  ·exact h6 i c e hc a ha (tJ _ z)
end
theorem z0p {H H1:Hp}{a:Addr}{kvs:List (Key×V)}(ha:H a=some (.dK kvs))(kp:∀ b,b≠a->H b≠none->H1 b=H b):TF H H1:=by
 refine ⟨fun b xs e=>?_,fun b o u e=>?_⟩
 ·rw [kp b (fun z=>by rw [z,ha] at e; cases e) (by rw [e]; simp)]; exact e
 ·rw [kp b (fun z=>by rw [z,ha] at e; cases e) (by rw [e]; simp)]; exact e
section
variable {X:Cx}{E:XK}{Γ Γl:List Cl}{pos pos':Pos}
end
def VP (X:Cx)(ifs:List Expr)(t:TT):Prop :=
 ∀ (pins:List (Addr×Obj)) (s:Shared) (σ:St) (H:Hp) (Q:Bool->Hp->Prop),0<s.toks->Inv X pins σ H s->t σ H Q ->
  wpAny (model X.prog X.w) X.A (forIn ifs true fun c r=>if r=true then do let ok <- isTrue c X.env (eval c X.env); pure (ForInStep.yield ok) else pure (ForInStep.yield r)) (TP X pins σ Q) X.xe s
def PTp (X:Cx)(e:Expr)(t:TT):Prop :=
 ∀ (pins:List (Addr×Obj)) (s:Shared) (σ:St) (H:Hp) (Q:Bool->Hp->Prop),0<s.toks->Inv X pins σ H s->t σ H Q->wpAny (model X.prog X.w) X.A (isTrue e X.env (eval e X.env)) (TP X pins σ Q) X.xe s
theorem QR {X:Cx}{c:Expr}{t:TT}(h:PTp X c t):VP X [c] t:=fun pins s σ H Q htk I q=>wpAny_tests_one (h pins s σ H Q htk I q)
theorem UO {X:Cx}{a b:Expr}{ta tb:TE}{pos:Pos}{op:CmpOp}{r:R2}(ho:OpR X (compareOp op) r)(ha:PEp X a ta)(hb:PEp X b tb)(hm:behindInMarks op b=false):PTp X (.Compare a [op] [b] pos) (WJ (tOp r ta tb)):=by
 intro pins s σ H Q htk I h
 refine wpAny_isTrue_Compare1 (thn (ha.up htk I h) fun v s1 ⟨tk1,x,H1,I1,r1,q1⟩=>thn (hb pins s1 σ H1 _ tk1 I1 q1) fun u s2 ⟨y,H2,I2,r2,q2⟩ =>
  thn (ho pins s2 σ H2 x y v u _ I2 r1 r2 q2) fun c s3 ⟨z,H3,I3,r3,k,e,q3⟩=>?_) hm
 subst e
 cases r3
 exact wpAny_truthy_bool ⟨H3,I3,q3⟩
theorem z0W {X:Cx}{pos:Pos}{t u:TS}{c:Expr}{a b:List Stmt}{tc:TT}(hc:PTp X c tc)(ha:Zq X a t)(hb:Zq X b u):PST X (.If c a b pos) (Kt tc t u):=by
 intro pins s σ H D htk I h
 refine wpAny_If (thn (upT htk (hc pins s σ H _ htk I h)) fun d s1 ⟨tk1,H1,I1,q1⟩=>?_)
 cases d with
 | true=>exact ha pins s1 σ H1 D tk1 I1 q1
 | false=>exact hb pins s1 σ H1 D tk1 I1 q1
theorem V6 {X:Cx}{N':List Str}{fr:List (Option Nat)}{scope:Scope}{tg iter elt:Expr}{ifs:List Expr}{wi:TI}{g:TG}{tc:TT}{te:TE}{pos cp:Pos}{use:Option (Value->Sem Unit)}{Qf:Value->Shared->Prop}(hc:X.calm=true)(S:CompScope X N' fr scope)(hi:PI X tg iter wi)
  (hg:∀ s₃ H₃ fp pins,PG (zF X scope N' s₃ H₃ fp pins) tg g) (ht:∀ s₃ H₃ fp pins,VP (zF X scope N' s₃ H₃ fp pins) ifs tc) (he:∀ s₃ H₃ fp pins,PE (zF X scope N' s₃ H₃ fp pins) elt te)
  (hs:∀ x,foldedSetIterable iter X.env x=pure x) {pins:List (Addr×Obj)} {s:Shared} {σ:St} {H:Hp} {Q:VK} (htk:0<s.toks) (I:Inv X pins σ H s) (h:qI fr wi g tc te σ H Q)
  (hfin:∀ (s₃:Shared) (H₃:Hp) (fp:List Addr) (D:Addr) (s6:Shared) (τ:St) (H5:Hp) (fl:Flow),Inv X pins σ H₃ s₃->(∀ b∈fp,vV X pins H₃ b)->Inv (zF X scope N' s₃ H₃ fp pins) [] τ H5 s6->Q (.ref D) H5 ->
   compPost (model X.prog X.w) X.A X.xe use Qf (.ref D) s₃.heap.objs.size (.ok fl) s6) :
  wpAny (model X.prog X.w) X.A (comprehension (.ListComp elt [⟨tg,iter,ifs,0⟩] scope pos) scope X.env cp (newList []) false (eval iter X.env) use) Qf X.xe s:=by
 refine wpAny_comprehension_free (use:=use) rfl hs (vY S.free) S.kind S.loc ?_
 refine thn (upT htk (hi pins s σ H _ I h)) fun v s1 h1=>thn (upT h1.1 h1.2) fun itv s2 h2=>?_
 obtain ⟨tk2,it,fp,tn,J,H2,rfl,I2,T,st2,f2,hW⟩:=h2
 refine wpAny_newObj_type ?_ (by size_fits)
 have hD:H2 s2.heap.objs.size=none:=I2.hok.fresh (tY _)
 have I3:Inv X pins σ (upd H2 s2.heap.objs.size (.lst [])) { s2 with heap:=s2.heap.push { cls:=.type "list",data:=.seq ([]:List Value).toArray },toks:=s2.toks } :=
  I2.laid (fun b u e=>Heap.get?_push_of_some _ e) (tY _) ⟨rO _,[],0,.nil,Heap.get?_push_size _ rfl⟩
 generalize eD:s2.heap.objs.size=D at I3 hD ⊢
 generalize eH:upd H2 D (.lst [])=H3 at I3
 have f3:∀ b∈fp,vV X pins H3 b:=fun b hb=>by
  obtain ⟨g0,g1⟩:=f2 b hb
  refine ⟨?_,g1⟩
  obtain ⟨o,ho,_⟩:=T.obj 0 _ st2 b hb
  rw [<- eH,zI (by rw [<- eD]; exact sV (Heap.lt_size ho))]
  exact g0
 have lt3:∀ b∈fp,b<(s2.heap.push { cls:=.type "list",data:=.seq ([]:List Value).toArray }).objs.size:=fun b hb=>by
  obtain ⟨o,ho,_⟩:=T.obj 0 _ st2 b hb
  rw [Heap.size_push]
  exact Nat.lt_succ_of_lt (Heap.lt_size ho)
 have st3:tn 0 (s2.heap.push { cls:=.type "list",data:=.seq ([]:List Value).toArray }):=T.keep _ _ _ st2 fun b _ o e=>Heap.get?_push_of_some _ e
 obtain ⟨W,⟨m0,w0⟩,turn⟩:=hW D hD
 rw [eH] at w0
 generalize es3:({ s2 with heap:=s2.heap.push { cls:=.type "list",data:=.seq ([]:List Value).toArray },toks:=s2.toks }:Shared)=s3 at I3
 have tk3:0<s3.toks:=by rw [<- es3]; exact tk2
 have lt3:∀ b∈fp,b<s3.heap.objs.size:=by rw [<- es3]; exact lt3
 have st3:tn 0 s3.heap:=by rw [<- es3]; exact st3
 refine wpAny_newFunctionEnv S.nocell (by intro y hy; cases hy) (fun h4 hn4 hsb4=>?_) S.kind
 have k4:∀ b o,s3.heap.get? b=some o->h4.get? b=some o:=fun b o e=>(hsb4.2 b (sV (Heap.lt_size e))).trans (Heap.get?_push_of_some _ e)
 have I4:Inv (zF X scope N' s3 H3 fp pins) [] (xI fr σ) H3 { s3 with heap:=h4,toks:=s3.toks+([]:List (Str×Value)).length }:=WM I3 S f3 lt3 hn4 k4
 have st4:tn 0 h4:=T.keep _ _ _ st3 fun b _ o e=>k4 b o e
 have stat:∀ {H':Hp} {p':List (Addr×Obj)},p'=[]->(∀ b∈fp,H' b=none)->∀ b∈fp,vV (zF X scope N' s3 H3 fp pins) p' H' b:=fun {H' p'} hp hn b hb=>by
  subst hp
  obtain ⟨g0,g1,g2,g3,g4,g5⟩:=f3 b hb
  refine ⟨hn b hb,sV (lt3 b hb),fun hm=>?_,.inl hb,fun x c h=>g4 x c (xg S h),fun p hp=>?_⟩
  ·rcases sJ.mp (I3.stkSub b hm) with z | z
   ·exact g1 z
   ·exact g2 z
  ·have hp:p∈(X.pn++pins)++[]:=hp
   rw [sF] at hp
   exact g5 p hp
 have loop:∀ s':Shared,s'={ s3 with heap:=h4,toks:=s3.toks+([]:List (Str×Value)).length }->codeAny (model X.prog X.w) X.A (.compLoop (.ListComp elt [⟨tg,iter,ifs,0⟩] scope pos) 0 (.ref it) (.ref D) (compEnvC scope (xV X.env.cells scope.names []) s3.heap.objs.size X.env))
   (compPost (model X.prog X.w) X.A X.xe use Qf (.ref D) s3.heap.objs.size) s':=by
  rintro s' rfl
  refine codeAny_loop rfl (fun n s'=>0<s'.toks/\∃ i ys τ H',Inv (zF X scope N' s3 H3 fp pins) [] τ H' s'/\tn i s'.heap/\(∀ b∈fp,H' b=none)/\W i n ys τ H') ?_ m0 ⟨sQ tk3 (Nat.le_add_right _ _),0,[],_,H3,I4,st4,fun b hb=>(f3 b hb).1,w0⟩
  rintro n s5 ⟨tk5,i,ys,τ,H5,I5,st5,fr5,w5⟩
  show wpAny _ X.A ((compTurn (.ListComp elt [⟨tg,iter,ifs,0⟩] scope pos) 0 (.ref it) (.ref D) (compEnvC scope (xV X.env.cells scope.names []) s3.heap.objs.size X.env)).onRaise (fun x=>do noteFrame x (compEnvC scope (xV X.env.cells scope.names []) s3.heap.objs.size X.env); theTreesLotGoes x)) _ _ s5
  refine wpAny_noted ?_
  rw [compTurn_list]
  obtain ⟨hDy,hor⟩:=turn i n ys τ H5 w5
  rcases hor with ⟨stop,q⟩ | ⟨go,step⟩
  ·refine wpAny_bind (wpAny_standAt (wpAny_bind (thn (T.done (zF X scope N' s3 H3 fp pins) rfl rfl rfl hc i [] s5 τ H5 _ I5 (stat rfl fr5) st5 stop) fun r s6 ⟨hr,I6⟩=>?_)))
   subst hr
   exact wpAny_pure (hfin s3 H3 fp D s6 τ H5 _ I3 f3 I6 q)
  ·refine wpAny_bind (wpAny_standAt (wpAny_bind (thn (upT tk5 (T.item (zF X scope N' s3 H3 fp pins) rfl rfl rfl hc i [] s5 τ H5 _ I5 (stat rfl fr5) st5 go)) fun r s6 ⟨tk6,u,hr,h6⟩=>?_)))
   subst hr
   refine wpAny_bind (thn (upT tk6 h6) fun _ s7 ⟨tk7,x,H7,I7,r7,y7,st7,fr7⟩=>?_)
   have I7':=I7.pinned (stat rfl fr7) (T.obj _ _ st7)
   refine wpAny_bind (wpAny_mono (upT tk7 (hg s3 H3 fp pins _ s7 τ H7 x u _ I7' r7 (step x H7 y7))) (fun _ s8 ⟨tk8,τ8,H8,I8,q8⟩=>?_) fun _ _ z=>False.elim z)
   refine wpAny_bind (wpAny_mono (upT tk8 (ht s3 H3 fp pins _ s8 τ8 H8 _ tk8 I8 q8)) (fun b s9 ⟨tk9,H9,I9,q9⟩=>?_) fun _ _ z=>False.elim z)
   have again:∀ {s':Shared} {H':Hp},Inv (zF X scope N' s3 H3 fp pins) ([]++uf fp s7.heap) τ8 H' s'->tn (i+1) s'.heap/\∀ b∈fp,H' b=none:=fun {s' H'} I'=>by
    refine ⟨T.keep _ _ _ st7 fun b hb o e=>(I'.pin (b,o) (tJ _ (tJ _ (xf hb e)))).1,fun b hb=>?_⟩
    obtain ⟨o,e,d⟩:=T.obj _ _ st7 b hb
    exact (I'.pin (b,o) (tJ _ (tJ _ (xf hb e)))).2.1
   cases b with
   | false =>
    rw [if_neg tX] at q9
    obtain ⟨m',hm,w9⟩:=q9
    obtain ⟨a1,a2⟩:=again I9
    refine wpAny_pure ⟨rfl,m',hm,tk9,i+1,ys,τ8,H9,I9.unpinned,a1,a2,w9⟩
   | true =>
    rw [if_pos rfl] at q9
    refine wpAny_bind (wpAny_bind (wpAny_mono (upT tk9 (he s3 H3 fp pins _ s9 τ8 H9 _ I9 q9)) (fun yv s10 ⟨tk10,y,H10,I10,r10,hD10,hz,m',hm,w10⟩=>?_) fun _ _ z=>False.elim z))
    refine wpAny_bind (wpAny_mono (upT tk10 (qq (X:=zF X scope N' s3 H3 fp pins) _ s10 τ8 H10 (.ref D) [y] (.ref D) [yv] (fun _ H11=>H11=upd H10 D (.lst (ys++[y]))) I10 rfl (.cons r10 .nil) ⟨D,ys,y,rfl,rfl,hD10,hz,rfl⟩)) (fun _ s11 ⟨tk11,_,H11,I11,_,q11⟩=>?_) fun _ _ z=>False.elim z)
    subst q11
    obtain ⟨a1,a2⟩:=again I11
    exact wpAny_pure (wpAny_pure ⟨rfl,m',hm,tk11,i+1,ys++[y],τ8,_,I11.unpinned,a1,a2,w10⟩)
 exact codeAny_compStart_list (loop _ rfl) (T.self _ 0 _ _ _ st4 (loop _ rfl))
theorem VW {X:Cx}{N':List Str}{fr:List (Option Nat)}{scope:Scope}{tg iter elt:Expr}{ifs:List Expr}{wi:TI}{g:TG}{tc:TT}{te:TE}{pos:Pos}(hc:X.calm=true)(S:CompScope X N' fr scope)(hi:PI X tg iter wi)
  (hg:∀ s₃ H₃ fp pins,PG (zF X scope N' s₃ H₃ fp pins) tg g) (ht:∀ s₃ H₃ fp pins,VP (zF X scope N' s₃ H₃ fp pins) ifs tc) (he:∀ s₃ H₃ fp pins,PE (zF X scope N' s₃ H₃ fp pins) elt te)
  (hs:autoParam (∀ x,foldedSetIterable iter X.env x=pure x) L2.au2._auto_1):PEp X (.ListComp elt [⟨tg,iter,ifs,0⟩] scope pos) (qI fr wi g tc te):=by
 intro pins s σ H Q htk I h
 rw [eval_ListComp]
 refine V6 (use:=none) hc S hi hg ht he hs htk I h fun s3 H3 fp D s6 τ H5 fl I3 f3 I6 q=>?_
 obtain ⟨m6,hn6,_⟩:=I6.loc
 exact ⟨m6,hn6,fun h7 hs7=>⟨.ref D,H5,jJ I3 I6 f3 hs7,rfl,q⟩⟩
def MTp (X:Cx)(E:XK)(Γ:List Cl)(e:Expr)(t:Tn->R Bool):Prop :=
 ∃ te,PTp X e te/\∀ O σ H τ Q,EOk X.K Γ O H σ τ->postB X.K E H Q (t τ)->te σ H Q
def MTsT (X:Cx)(E:XK)(Γ:List Cl)(ifs:List Expr)(t:Tn->R Bool):Prop :=
 ∃ te,VP X ifs te/\∀ O σ H τ Q,EOk X.K Γ O H σ τ->postB X.K E H Q (t τ)->te σ H Q
section
variable {X:Cx}{E:XK}{Γ Γ' Γl:List Cl}{pos p:Pos}{e a b:Expr}{t ta tb:Tn->R D}{c ca cb:Rc}{x:Str}{id:String}
theorem QN {t:Tn->R Bool}(h:MTp X E Γ e t):MTsT X E Γ [e] t:=by
 obtain ⟨te,p,q⟩:=h
 exact ⟨te,QR p,q⟩
theorem MTsT.pts {e:List Expr}{t:Tn->R Bool}(h:MTsT X E Γ e t):VP X e (wpT X.K E Γ t):=by
 obtain ⟨te,p,q⟩:=h
 rintro pins s σ H Q htk I ⟨O,τ,ok,z⟩
 exact p pins s σ H Q htk I (q O σ H τ Q ok z)
theorem WO {op:CmpOp}{r:R2}{g:D->D->R D}(ho:OpR X (compareOp op) r)(hB:OpB X.K r g)(hn:xl g)(ha:MEp X E Γ a ta ca)(hb:MEp X E Γ b tb cb)(hm:behindInMarks op b=false):MTp X E Γ (.Compare a [op] [b] pos) (zm (zd g ta tb)):=by
 obtain ⟨te,p,q⟩:=ha
 obtain ⟨te',p',q'⟩:=hb
 exact ⟨_,UO ho p p' hm,fun O σ H τ Q ok h=>ZD (O:=O) hB hn q q' ok (uS h)⟩
theorem U6 {N':List Str}{fr:List (Option Nat)}{scope:Scope}{tg iter elt:Expr}{ifs:List Expr}{it:Tn->R (List D)}{g:Tgt}{cnd:Tn->R Bool}{te:Tn->R D}{ci c:Rc}(hc:X.calm=true)(S:CompScope X N' fr scope)(hi:MI X E Γ tg iter it ci)
  (hg:∀ s₃ H₃ fp pins,MG (zF X scope N' s₃ H₃ fp pins) tg g) (ht:∀ s₃ H₃ fp pins,MTsT (zF X scope N' s₃ H₃ fp pins) noX (yG (Cl.ofIt ci) (yt fr Γ) g.slots) ifs cnd)
  (he:∀ s₃ H₃ fp pins,ME (zF X scope N' s₃ H₃ fp pins) noX (yG (Cl.ofIt ci) (yt fr Γ) g.slots) elt te c) (hcl:c≠.bor) (hd:∀ j∈g.slots,(yt fr Γ)[j]?=some .dead)
  (hs:autoParam (∀ x,foldedSetIterable iter X.env x=pure x) L2.au2._auto_1):MEp X E Γ (.ListComp elt [⟨tg,iter,ifs,0⟩] scope pos) (yE fr it g cnd te) c:=by
 obtain ⟨wi,p,q⟩:=jX (cnd:=cnd) (te:=te) hi hcl hd
 exact ⟨_,VW hc S p (fun s₃ H₃ fp pins=>(hg s₃ H₃ fp pins).pg) (fun s₃ H₃ fp pins=>(ht s₃ H₃ fp pins).pts) (fun s₃ H₃ fp pins=>(he s₃ H₃ fp pins).pe) hs,q⟩
theorem VA {r:List V->Hp->VK->Prop}{g:List D->R D}(hc:CallR X (.builtin id) r)(hB:ClB X.K r g)(hn:xp g)(hg:Gl X x)(hm:X.mg x=none)(hv:bootBuiltins x=some (.builtin id))(ha:MEp X E Γ e t ca)(hx:autoParam (x≠"__name__") L2.au1._auto_1)(hdb:autoParam ((x==("__debug__":Str))=false) L2.au1._auto_1)
  (he:autoParam (starEach [e] X.env=[(false,eval e X.env)]) L2.au3._auto_1):MEp X E Γ (.Call (.Name x p) [e] [] pos) (eL g (za t ze)) .fresh:=by
 obtain ⟨te,p',q⟩:=ha
 refine ⟨tCB r (Y4 te Uo),fun pins s σ H Q htk I h=>?_,fun O σ H τ Q ok h=>?_⟩
 ·refine wpAny_Call_Name_kw (ue I hg hm hv ?_ hx hdb)
  refine PyProof.Rows.callWith_builtin1 (Q:=EP X pins σ Q) ?_ he rfl
  rw [he]
  show wpAny _ _ (spliced [(false,eval e X.env)]) _ _ s
  refine Calls.spliced_cons (thn (p' pins s σ H _ htk I h) fun u s1 ⟨y,H1,I1,r1,q1⟩=>Calls.spliced_nil ?_)
  exact hc pins s1 σ H1 [y] [u] Q I1 (.cons r1 .nil) q1
 ·refine q O σ H τ _ ok ?_
  unfold eL za ze at h
  cases ht:t τ with
  | ok d =>
   rw [ht,R.ok_bind,R.ok_bind,R.ok_bind] at h
   intro v H1 L s1 r1 _
   cases hg:g [d] with
   | ok d' =>
    rw [hg] at h
    exact hB H1 [v] [d] L Q ⟨v,[],L,[],rfl,(sF L).symm,r1,rfl,rfl⟩ ⟨d',hg,fun v' H' L' s' r' n1 n2=>h v' H' L' (s1.trans s') r' ⟨n1,fun a ha=>s1.non (n2 a ha)⟩⟩
   | err n=>exact absurd hg (hn _ n)
   | bad=>rw [hg] at h; exact h.elim
  | err n=>rw [ht] at h; exact h
  | bad=>rw [ht] at h; exact h
theorem z0I {k:Expr}{u:Tn->R Bool}{sa sb:List Stmt}{t1 t2:Tn->R Fl}(hk:MTp X E Γ k u)(ha:Zj X E Γl Γ sa t1 Γ')(hb:Zj X E Γl Γ sb t2 Γ'):MST X E Γl Γ (.If k sa sb pos) (sIf u t1 t2) Γ':=by
 obtain ⟨te,p,q⟩:=hk
 obtain ⟨ts1,p1,q1⟩:=ha
 obtain ⟨ts2,p2,q2⟩:=hb
 refine ⟨Kt te ts1 ts2,z0W p p1 p2,fun B σ H τ Z ok h=>?_⟩
 obtain ⟨O,eo,_⟩:=ok.eok
 refine q O σ H τ _ eo ?_
 unfold sIf at h
 cases ht:u τ with
 | ok x =>
  rw [ht,R.ok_bind] at h
  refine fun H1 s1=>?_
  cases x with
  | true=>rw [if_pos rfl] at h ⊢; exact q1 B σ H1 τ Z (ok.same s1) h
  | false=>rw [if_neg tX] at h ⊢; exact q2 B σ H1 τ Z (ok.same s1) h
 | err n=>rw [ht] at h; exact fun C H' e s=>h C H' e (ok.ext.trans s)
 | bad=>rw [ht] at h; exact h
end
def szUp (lo hi k:Int):Nat:=if lo<hi then ((hi-lo-1)/k+1).toNat else 0
theorem Ql {a b k:Int}(hk:0<k):Builtin.Range.rangeSize a b k=(szUp a b k:Nat):=by
 unfold Builtin.Range.rangeSize szUp
 rw [if_pos hk]
 by_cases h:a<b
 ·rw [if_pos h,if_pos h]
  have:0<=(b-a-1)/k:=Int.ediv_nonneg (by omega) (by omega)
  omega
 ·rw [if_neg h,if_neg h]; rfl
theorem JB {a b k:Int}(h1:0<=a)(h2:a<=100000)(h3:0<=b)(h4:b<=100000)(h5:0<k)(h6:k<=100000):Builtin.Range.small a b k=true:=by
 have hs:(szUp a b k:Int)<=100001:=by
  unfold szUp
  by_cases h:a<b
  ·rw [if_pos h]
   have d1:(b-a-1)/k<=b-a-1:=Int.ediv_le_self _ (by omega)
   have d0:0<=(b-a-1)/k:=Int.ediv_nonneg (by omega) (by omega)
   omega
  ·rw [if_neg h]; decide
 unfold Builtin.Range.small
 rw [Ql h5]
 simp only [Builtin.Range.rangeFitsLong,rA,Bool.or_eq_true,decide_eq_true_eq,beq_iff_eq,h5,if_true]
 omega
def Itu (lo k:Int)(n:Nat):It:=⟨fun i _=>i<n,fun i H x H'=>H'=H/\x=.int (lo+(i:Int)*k),fun i _=>n<=i⟩
theorem K3 {P:Program}{w:World}{K:PySem.W.Frag}{tg:Expr}(it:Addr)(lo k:Int)(n:Nat):Turn P w K tg (Itu lo k n) [it] it (fun i h=>IsRangeIter h it (lo+(i:Nat)*k) ((n:Int)-(i:Nat)) k) where
 mem:=by simp
 obj:=fun i h st b hb=>by
  have e:b=it:=by simpa using hb
  subst e
  exact ⟨_,st,fun v z=>by
   have z':Data.fields _=Data.cell v:=z
   cases z'⟩
 keep:=fun i h h' st kk=>kk it (by simp) _ st
 item:=by
  intro X hP hw hK hc i pins s σ H E I hf st hg
  subst hP hw hK
  obtain ⟨f0,f1,f2,f3,f4,f5⟩:=hf it (by simp)
  have W:=Walks.range (prog:=X.prog) (w:=X.w) (I.ok.hd hc) it lo k n
  refine W.item i s _ _ hg st fun v h' tk hv st' kk=>?_
  obtain ⟨t,rfl⟩:=hv
  have I1:Inv X pins σ H { s with heap:=h',toks:=tk }:=I.turned (fun b o hb e=>kk b o (by simpa using hb) e) f0 f1 f3 f4 f5
  refine ⟨_,rfl,jE (s:={ s with heap:=h',toks:=tk }) (n:="range_iterator") st' rfl rfl (by decide) ⟨.int (lo+(i:Int)*k),H,I1,⟨t,rfl⟩,⟨rfl,rfl⟩,st',fun b hb=>(hf b hb).1⟩⟩
 done:=by
  intro X hP hw hK hc i pins s σ H E I hf st hg
  subst hP hw hK
  obtain ⟨f0,f1,f2,f3,f4,f5⟩:=hf it (by simp)
  exact wpAny_pyNext_range_end (I.ok.hd hc) st (by have:n<=i:=hg; omega) fun h' eb=>⟨rfl,I.turned (t':=s.toks) (fun b o hb e=>eb b o hb e) f0 f1 f3 f4 f5⟩
 self:=fun _ _ _ _ _ st h=>wpAny_pyIter_rangeiter st h
section
variable {X:Cx}{tg:Expr}
theorem z3S {pins:List (Addr×Obj)}{σ:St}{H:Hp}{s:Shared}{R:It->Hp->Prop}{E:Value->Shared->Prop}{lo hi k:Int}{t u v:Tok}{tk:Nat}(I:Inv X pins σ H s)(h1:0<=lo)(h2:lo<=100000)(h3:0<=hi)(h4:hi<=100000)(h5:0<k)(h6:k<=100000)
  (q:R (Itu lo k (szUp lo hi k)) H):wpAny (model X.prog X.w) X.A (pyIter (.ref s.heap.objs.size)) (PIE X pins σ tg R) E { s with heap:=s.heap.push { cls:=.type "range",data:=.fields #[.int lo t,.int hi u,.int k v] },toks:=tk }:=by
 refine wpAny_pyIter_range (IsRange.new ..) (JB h1 h2 h3 h4 h5 h6) ?_
 have I1:Inv X pins σ H { s with heap:=s.heap.push { cls:=.type "range",data:=.fields #[.int lo t,.int hi u,.int k v] },toks:=tk }:=I.kept fun b o e=>Heap.get?_push_of_some _ e
 refine ⟨(s.heap.push { cls:=.type "range",data:=.fields #[.int lo t,.int hi u,.int k v] }).objs.size,[(s.heap.push { cls:=.type "range",data:=.fields #[.int lo t,.int hi u,.int k v] }).objs.size],_,_,H,rfl,
  I1.kept (t':=tk) fun b o e=>Heap.get?_push_of_some _ e,K3 _ lo k (szUp lo hi k),?_,fun b hb=>?_,q⟩
 ·have e1:lo+((0:Nat):Int)*k=lo:=by simp
  have e2:((szUp lo hi k:Nat):Int)-((0:Nat):Int)=Builtin.Range.rangeSize lo hi k:=by rw [Ql h5]; simp
  show IsRangeIter _ _ (lo+((0:Nat):Int)*k) (((szUp lo hi k:Nat):Int)-((0:Nat):Int)) k
  rw [e1,e2]
  exact Heap.get?_push_size _ rfl
 ·have e:b=(s.heap.push { cls:=.type "range",data:=.fields #[.int lo t,.int hi u,.int k v] }).objs.size:=by simpa using hb
  subst e
  exact I1.fpOk (tY _) (I1.hok.fresh (tY _))
def z3l (ta:TA):TI:=fun σ H R=>ta σ H fun vs H1=>∃ i j k:Int,vs=[.int i,.int j,.int k]/\(0<=i/\i<=100000/\0<=j/\j<=100000/\0<k/\k<=100000)/\R (Itu i k (szUp i j k)) H1
theorem Vd {a b c:Expr}{ta:TA}{p pos:Pos}(hg:Gl X "range")(hm:X.mg "range"=none)(ha:PA X [a,b,c] ta)(hs:autoParam (starEach [a,b,c] X.env=[(false,eval a X.env),(false,eval b X.env),(false,eval c X.env)]) L2.au3._auto_1)(hs2:autoParam (starEach [b,c] X.env=[(false,eval b X.env),(false,eval c X.env)]) L2.au3._auto_1) :
  PI X tg (.Call (.Name "range" p) [a,b,c] [] pos) (z3l ta):=by
 intro pins s σ H R I h
 refine Call_ (ue I hg hm boot_range (PyProof.Rows.callWith_type1 (thn (ha pos pins s σ H _ I h) fun us s1 ⟨vs,H1,I1,r1,q1⟩=>?_) (by rw [hs,hs2]) (by rw [hs2]; rfl)))
 obtain ⟨i,j,k,e,⟨q1,q2,q3,q4,q5,q6⟩,q⟩:=q1
 subst e
 cases r1 with
 | cons r rr =>
  cases rr with
  | cons r' rr =>
   cases rr with
   | cons r'' rr =>
    cases rr
    obtain ⟨t,rfl⟩:=r
    obtain ⟨t',rfl⟩:=r'
    obtain ⟨t'',rfl⟩:=r''
    exact call_range_3 (by omega) (z3S I1 q1 q2 q3 q4 q5 q6 q) (Or.inl (PyProof.noPylong_small (by omega)))
end
def upw (lo k:Int)(n:Nat):List D:=(List.range n).map fun (i:Nat)=>.int (lo+(i:Int)*k)
def Jd:List D->R (List D)
 | [.int i,.int j,.int k]=>if 0<=i/\i<=100000/\0<=j/\j<=100000/\0<k/\k<=100000 then .ok (upw i k (szUp i j k)) else .bad
 | _=>.bad
theorem ItOk.up {K:PySem.W.Frag}{H:Hp}{lo k:Int}{n:Nat}:ItOk K (Itu lo k n) (L2.upw lo k n) [] H:=by
 refine ⟨fun b hb=>(nomatch hb),fun H' tf kp i=>⟨fun d hd=>?_,fun hl=>?_⟩⟩
 ·unfold L2.upw at hd
  rw [sM] at hd
  by_cases hi:i<n
  ·rw [pE hi] at hd
   have hd:D.int (lo+(i:Int)*k)=d:=Option.some.inj hd
   subst hd
   refine ⟨hi,fun y H'' ⟨e2,e3⟩=>?_⟩
   subst e2 e3
   exact ⟨Same.refl _,[],⟨rfl,rfl⟩,fun b hb=>(nomatch hb)⟩
  ·rw [rR (by simp; omega)] at hd; cases hd
 ·have:(L2.upw lo k n).length=n:=by simp [L2.upw]
  show n<=i
  omega
section
variable {X:Cx}{E:XK}{Γ:List Cl}{tg:Expr}{u:Tn->R (List D)}{c:Rc}{p pos:Pos}
theorem Vm {a b c':Expr}(hg:Gl X "range")(hm:X.mg "range"=none)(ha:MA X E Γ [a,b,c'] u c)(hs:autoParam (starEach [a,b,c'] X.env=[(false,eval a X.env),(false,eval b X.env),(false,eval c' X.env)]) L2.au3._auto_1)(hs2:autoParam (starEach [b,c'] X.env=[(false,eval b X.env),(false,eval c' X.env)]) L2.au3._auto_1):MI X E Γ tg (.Call (.Name "range" p) [a,b,c'] [] pos) (iL Jd u) .fresh:=by
 obtain ⟨_,ta,p',q⟩:=ha
 refine ⟨_,Vd hg hm p' hs hs2,fun O σ H τ Rr ok h=>q O σ H τ _ ok ?_⟩
 unfold iL at h
 cases ht:u τ with
 | ok ds =>
  rw [ht,R.ok_bind] at h
  refine fun vs H1 L s r k=>?_
  unfold Jd at h
  split at h
  ·rename_i i j k'
   obtain ⟨v,vs',L1,L2,e1,_,r1,v2,vs2,L3,L4,e2,_,r2,v3,vs3,L5,L6,e3,_,r3,r4⟩:=r
   obtain ⟨rfl,_⟩:=r1
   obtain ⟨rfl,_⟩:=r2
   obtain ⟨rfl,_⟩:=r3
   obtain ⟨rfl,_⟩:=r4
   subst e3 e2
   by_cases hj:0<=i/\i<=100000/\0<=j/\j<=100000/\0<k'/\k'<=100000
   ·rw [if_pos hj] at h
    exact ⟨i,j,k',e1,hj,h _ H1 [] s ItOk.up fun n a ha=>(nomatch ha)⟩
   ·rw [if_neg hj] at h; exact h.elim
  ·exact h.elim
 | err n=>rw [ht] at h; exact h
 | bad=>rw [ht] at h; exact h
end
def Zg (F:List D->R D):List D->Bool
 | []=>true
 | d::ds=>(match F [d] with
  | .ok (.bl true)=>true
  | _=>false)&&Zg F ds
theorem Yd {F:List D->R D}:∀ {ds:List D} {i:Nat} {d:D},Zg F ds=true->ds[i]?=some d->F [d]=.ok (.bl true)
 | [],_,_,_,h=>by cases h
 | d0::ds,0,d,h,e=>by
  cases e
  unfold Zg at h
  rw [rA] at h
  have h:=h.1
  split at h
  ·assumption
  ·cases h
 | d0::ds,i+1,d,h,e=>by
  unfold Zg at h
  rw [rA] at h
  exact Yd h.2 (by simpa using e)
theorem WZ {K:PySem.W.Frag}{F:List D->R D}{E:XK}{σ:St}{H:Hp}{a:Addr}{kvs:List (Key×V)}{ds:List D}{fr:List (Option Nat)}{d j:Nat}{Q:VK}(hσ:σ[d]?=some (some (.ref a)))(hj:(xI fr σ)[j]?=some (some (.ref a)))(hj0:j≠0)(hl:0<(xI fr σ).length)(ha:H a=some (.dK kvs))(hnd:(kvs.map (·.1)).Nodup)
  (hr:Reps K H ds (kvs.map (·.2)) []) (hF:Zg F ds=true)
  (h:∀ H' D o,H' a=some (.frz o (.dK kvs))->(∀ b,b≠a->H b≠none->H' b=H b)->H D=none->D≠a->H' D=some (.lst [])->Q (.ref D) H') :
  qI fr (Qr (qo d)) (uv 0) (Jw (tB (WA (spM K F 1) [] E (Y4 (XS (qo j) (qo 0)) Uo)))) (qo 0) σ H Q:=by
 refine ⟨.ref a,hσ,a,kvs,rfl,.inl ha,fun o D hD=>?_⟩
 have hDa:D≠a:=fun z=>by rw [z,zG] at hD; cases hD
 have hD0:H D=none:=by rw [zI hDa] at hD; exact hD
 refine ⟨fun i m ys τ H2=>ys=[]/\m=kvs.length-i/\i<=kvs.length/\H2 D=some (.lst [])/\H2 a=some (.frz o (.dK kvs))/\(∀ b,b≠a->H b≠none->H2 b=H b)/\0<τ.length/\τ[j]?=some (some (.ref a)),
  ⟨kvs.length,rfl,rfl,rO _,zG,by rw [zI (Ne.symm hDa),zG],fun b hb hn=>by rw [zI (fun z=>hn (by rw [z]; exact hD0)),zI hb],hl,hj⟩,?_⟩
 rintro i m ys τ H2 ⟨rfl,rfl,hi,h1,h2,h3,h4,h5⟩
 refine ⟨h1,?_⟩
 by_cases hlt:i<kvs.length
 ·refine .inr ⟨⟨h2,hlt⟩,fun x H3 y=>?_⟩
  obtain ⟨rfl,k,v,hk,rfl⟩:=y
  have rs:=Reps.keep (z0p ha h3) _ _ _ hr (fun b hb=>nomatch hb)
  have hlen:ds.length=kvs.length:=by have:=hr.length; rw [tP] at this; exact this.symm
  have hdi:ds[i]?=some (ds[i]'(by omega)):=tU (by omega)
  generalize ds[i]'(by omega)=dv at hdi
  obtain ⟨v',L1,e1,r1,_⟩:=rs.get hdi
  have ev:v'=v:=by
   rw [sM,hk] at e1
   exact (Option.some.inj e1).symm
  subst ev
  refine ⟨_,by rw [sL (Ne.symm hj0)]; exact h5,_,sO h4,a,v',rfl,.inl ⟨kvs,k,.inr ⟨o,h2⟩,rfl,(Wk hnd hk).symm⟩,?_⟩
  refine ⟨rfl,[dv],L1,⟨v',[],L1,[],rfl,(sF L1).symm,r1,rfl,rfl⟩,?_⟩
  rw [Yd hF hdi]
  intro v2 H4 L2' s4 r4 _
  obtain ⟨rfl,_⟩:=r4
  refine ⟨true,rfl,?_⟩
  show (if (!true)=true then _ else _)
  rw [if_neg (by decide)]
  exact ⟨kvs.length-(i+1),by omega,rfl,rfl,hlt,s4 _ _ h1,s4 _ _ h2,fun b hb hn=>by
   have:=h3 b hb hn
   cases e:H b with
   | none=>exact absurd e hn
   | some ob=>rw [e] at this; exact s4 _ _ this,by rw [sT]; exact h4,by rw [sL (Ne.symm hj0)]; exact h5⟩
 ·have e:i=kvs.length:=by omega
  subst e
  exact .inl ⟨⟨h2,tY _⟩,h H2 D o h2 h3 hD0 hDa h1⟩
def Qz (tA tB:Tn->R Bool)(F:List D->R D)(j:Nat):Tn->R Fl:=fun τ=>(tA τ).bind fun a=>if a=true then .bad else (tB τ).bind fun b=>if b=true then .bad else (zb j τ).bind fun l=>match l with
 | .dic ks ds=>if D.imms ds=true/\Zg F ds=true then .ok (.nx τ) else .bad
 | _=>.bad
section
variable {X:Cx}{E:XK}{Γ Γl:List Cl}{pos:Pos}
theorem z2s (j:Nat){eA eB comp:Expr}{tA tB:Tn->R Bool}{F:List D->R D}{E0:XK}{pl pc po:Pos}{body:List Stmt}(hu:X.A.units+12<cLine)(hA:MT X E Γ eA tA)(hB:MT X E Γ eB tB)
  (hC:PE X comp (qI [none,some j] (Qr (qo j)) (uv 0) (Jw (L2.tB (WA (spM X.K F 1) [] E0 (Y4 (XS (qo 1) (qo 0)) Uo)))) (qo 0)))
  (h0:autoParam (Γ[j]?=some .own) L2.au3._auto_1) :
  MS X E Γl Γ (.If (.BoolOp .Or [eA,eB,.Compare comp [.NotEq] [.List [] pl] pc] po) body [] pos) (Qz tA tB F j) (Γ.set j .dead):=by
 obtain ⟨teA,pA,qA⟩:=hA
 obtain ⟨teB,pB,qB⟩:=hB
 refine ⟨_,z0t (PW.pt (Jg pA (Jg pB (UT (Wy (wU hu) hC (QF qu) (zS _)))))) VL W6,fun B σ H τ Z ok h=>?_⟩
 obtain ⟨O,eo,_⟩:=ok.eok
 refine qA O σ H τ _ eo ?_
 unfold Qz at h
 cases ha:tA τ with
 | err n=>rw [ha] at h; exact fun C H' e s=>h C H' e (ok.ext.trans s)
 | bad=>rw [ha] at h; exact h
 | ok a =>
  rw [ha,R.ok_bind] at h
  cases a with
  | true=>rw [if_pos rfl] at h; exact h.elim
  | false =>
   rw [if_neg tX] at h
   refine fun H1 s1=>?_
   have ok1:=ok.same s1
   show (if false=true then _ else _)
   rw [if_neg tX]
   obtain ⟨O1,eo1,_⟩:=ok1.eok
   refine qB O1 σ H1 τ _ eo1 ?_
   cases hb:tB τ with
   | err n=>rw [hb] at h; exact fun C H' e s=>h C H' e (ok1.ext.trans s)
   | bad=>rw [hb] at h; exact h
   | ok b =>
    rw [hb,R.ok_bind] at h
    cases b with
    | true=>rw [if_pos rfl] at h; exact h.elim
    | false =>
     rw [if_neg tX] at h
     refine fun H2 s2=>?_
     have ok2:=ok1.same s2
     show (if false=true then _ else _)
     rw [if_neg tX]
     obtain ⟨v,d,L,q1,q2,r,okd⟩:=ok2.out h0
     have ev:zb j τ=.ok d:=by unfold zb; rw [q2]
     rw [ev,R.ok_bind] at h
     cases d with
     | dic ks ds =>
      dsimp only at h
      by_cases hz:D.imms ds=true/\Zg F ds=true
      ·rw [if_pos hz] at h
       obtain ⟨a,kvs,L',rfl,haa,rfl,rfl,hnd,rs⟩:=r
       have hL:=Reps.imm _ _ _ rs hz.1
       subst hL
       have hc1:(xI [none,some j] σ)[1]?=some (some (.ref a)):=by
        show some ((σ[j]?).join)=_
        rw [q1]; rfl
       unfold WJ tOp
       refine WZ (ds:=ds) q1 hc1 (by decide) (by show 0<2; decide) haa hnd rs hz.2 fun H3 D o g1 g2 g3 g4 g5=>?_
       have tf:=z0p haa g2
       have ok3:SOk X.K (Γ.set j .dead) B H3 σ τ ([D]++[]):=okd.chg (L:=[a]) tf (fun b hb=>g2 b (fun z=>hb (by rw [z]; exact sN.mpr rfl))) (by simp) (fun b hb=>by rw [sN.mp hb]; exact ⟨g3,by rw [g5]; simp⟩)
       refine ⟨rO _,fun p hp=>?_⟩
       have s3:Same H3 (upd H3 p (.lst [])):=Same.new hp
       refine wR (neg:=true) _ _ _ (.lst []) (.lst []) [D] [p] _ ⟨D,[],[],rfl,s3 _ _ g5,rfl,Reps.nil⟩ ⟨p,[],[],rfl,zG,rfl,Reps.nil⟩ ⟨.bl false,rfl,fun v' H' L' s' r' _ _=>?_⟩
       obtain ⟨rfl,_⟩:=r'
       refine ⟨false,rfl,?_⟩
       show (if false=true then _ else _)
       rw [if_neg tX]
       exact h σ H' ((ok3.same (s3.trans s')).subT pC (fun a ha=>nomatch ha))
      ·rw [if_neg hz] at h; exact h.elim
     | _=>exact h.elim
end
end L2
namespace HW
open PySem PySem.W
def u5 {α:Type}:List α->List α
 | a::_::r=>a::u5 r
 | l=>l
def kd {α:Type}:List α->List α
 | _::b::r=>b::kd r
 | _=>[]
theorem kJ {α:Type}:∀ (l:List α) (k:Nat),(u5 l)[k]?=l[2*k]?
 | [],k=>by simp [u5]
 | [a],k=>by cases k<;>simp [u5]
 | a::b::r,0=>by simp [u5]
 | a::b::r,k+1=>by
  have ih:=kJ r k
  show (a::u5 r)[k+1]?=_
  rw [tE,ih,show 2*(k+1)=2*k+1+1 by omega,tE,tE]
theorem Yt {α:Type}:∀ (l:List α) (k:Nat),(kd l)[k]?=l[2*k+1]?
 | [],k=>by simp [kd]
 | [a],k=>by simp [kd]
 | a::b::r,0=>by simp [kd]
 | a::b::r,k+1=>by
  have ih:=Yt r k
  show (b::kd r)[k+1]?=_
  rw [tE,ih,show 2*(k+1)+1=2*k+1+1+1 by omega,tE,tE]
theorem kT {α:Type}:∀ l:List α,(u5 l).length<=l.length
 | []=>tY _
 | [_]=>tY _
 | a::b::r=>by show (u5 r).length+1<=r.length+1+1; have:=kT r; omega
theorem Ye {α:Type}:∀ l:List α,(kd l).length<=l.length
 | []=>tY _
 | [_]=>rO _
 | a::b::r=>by show (kd r).length+1<=r.length+1+1; have:=Ye r; omega
def tr:Nat->List Obj->BT
 | n+1,o::l=>.node o (tr n (u5 l)) (tr n (kd l))
 | _,_=>.nil
theorem Xj:∀ (n:Nat) (l:List Obj),l.length<=n->∀ i,(tr n l).get i=l[i]?
 | 0,[],_,i=>by simp [tr,BT.get]
 | 0,_::_,h,_=>by cases h
 | n+1,[],_,i=>by simp [tr,BT.get]
 | n+1,o::l,h,i=>by
  have hl:l.length<=n:=by simpa using h
  show (BT.node o (tr n (u5 l)) (tr n (kd l))).get i=_
  rw [BT.get_node]
  by_cases h0:i=0
  ·subst h0; rfl
  ·rw [if_neg h0]
   by_cases h1:i%2=1
   ·rw [if_pos h1,Xj n _ (rC (kT l) hl),kJ]
    obtain ⟨k,rfl⟩:∃ k,i=2*k+1:=⟨i/2,by omega⟩
    rw [show (2*k+1)/2=k by omega,tE]
   ·rw [if_neg h1,Xj n _ (rC (Ye l) hl),Yt]
    obtain ⟨k,rfl⟩:∃ k,i=2*k+1+1:=⟨i/2-1,by omega⟩
    rw [show (2*k+1+1)/2-1=k by omega,tE]
theorem JL (l:List Obj):(tr l.length l).list l.length=l:=by
 unfold BT.list
 refine List.ext_getElem? fun i=>?_
 rw [sM]
 by_cases h:i<l.length
 ·rw [pE h,pI,Xj _ _ (tY _),tU h]; rfl
 ·rw [rR (by rw [rS]; omega),rR (by omega)]; rfl
def asT (s:Shared):SharedT:=⟨tr s.heap.objs.toList.length s.heap.objs.toList,s.heap.objs.toList.length,s.heap.life,s.gens,s.drawn,s.toks,s.os⟩
theorem JC (s:Shared):(asT s).abs=s:=by
 obtain ⟨⟨⟨l⟩,life⟩,gens,drawn,toks,os⟩:=s
 show (⟨⟨((tr l.length l).list l.length).toArray,life⟩,gens,drawn,toks,os⟩:Shared)=_
 rw [JL]
def env0 (p:Program):Env:={ scope:=p.main.scope,locals:=mainNs,globals:=mainNs,cells:=[],code:=.ref 13,frame:=some 14 }
def p0:Pos:=⟨0,0,0,0⟩
def body0 (p:Program):Code:=.body (behindTheImports p) (env0 p)
def runAll (p q:Program)(loose:List Str)(Xt:Shared->Bool){α:Type}(Yf:Shared->α)(n1:Nat)(w:World)(os:OsState) :=
 (topGo treeTable p w 11 (some (.ref 6)) 12 ⟨boot_heap w.params,Array.mk [],boot_drawn,boot_toks,os⟩ (topStub p)).bind fun a =>
 (segRun treeTable p w 11 (some (.ref 6)) 1 1 a.1 (blockOf (behindTheImports p) (env0 p) (body0 p) p0 [topFrame p0])).bind fun b =>
 (segRunT treeTable p w 11 (some (.ref 6)) 1 n1 (asT b.2.1) (piecesOf (behindTheImports p) (env0 p) (body0 p) b.2.2.2 [topFrame p0])).bind fun c =>
 (topRun treeTable p w 11 (some (.ref 6)) 2 c.2.1.abs ⟨doneF .next,body0 p,c.2.2.2,[topFrame p0]⟩).map fun s =>
  (a.2,(b.1,b.2.2.1),(c.1,c.2.2.1),(staticsOk (importedModules p.main.body) (boot_heap w.params) s.heap&&namesBound p s.heap&&gensDone s&&laidKept (boot_heap w.params) s.heap),openSeen q loose (importedModules p.main.body) Xt true s,Yf s)
theorem left_of {p q:Program}{loose:List Str}{Xt:Shared->Bool}{α:Type}{Yf:Shared->α}{Ya:World->α}{n1 N:Nat}
  (e:opening p=plainProg p.main.scope.names) (hN:Nat.ble 600 N=true) (f:∀ s,fenceModules? p s=some s)
  (size:∀ w:World,((boot_heap w.params).isNs mainGlobals&&(Array.mk []:Array GenState).size==0,(boot_heap w.params).objs.size,(boot_heap w.params).nsMap mainGlobals "__annotations__")=(true,11,some (.ref 6)))
  (le:Nat.ble (12+(1+(n1+2))) N=true)
  (all:∀ w os,runAll p q loose Xt Yf n1 w os=some (⟨denote treeTable (body0 p),body0 p,p0,[topFrame p0]⟩,(.next,body0 p),(.next,body0 p),true,openGood q loose,Ya w)):LeftO p q loose Xt Yf Ya N:=fun w=>by
 obtain ⟨⟨hp,gn,dr,tk,os⟩,op,same⟩:=rW.mp (boot_open e hN f w)
 simp only [Prod.mk.injEq] at same
 obtain ⟨rfl,rfl,rfl,rfl⟩:=same
 have sz:=size w
 simp only [Prod.mk.injEq] at sz
 have hr:=all w os
 unfold runAll at hr
 obtain ⟨⟨sa,ta⟩,ha,hr⟩:=pR.mp hr
 obtain ⟨⟨fb,sb,cb,pb⟩,hb,hr⟩:=pR.mp hr
 obtain ⟨⟨fc,sc,cc,pc⟩,hc,hr⟩:=pR.mp hr
 obtain ⟨s1,hd,hr⟩:=rW.mp hr
 simp only [Prod.mk.injEq] at hr
 obtain ⟨rfl,⟨rfl,rfl⟩,⟨rfl,rfl⟩,good,seen,z1O⟩:=hr
 dsimp only at hb hc hd
 have hc2:=segRun_of hc
 rw [JC] at hc2
 have whole:=piece_app (rest:=[]) hc2 (piece_nil hd)
 rw [sF] at whole
 have run:=topRun_mono (N-(12+(1+(n1+2)))) _ _ _ _ (go_top ha (piece_block hb whole))
 have eN:12+(1+(n1+2))+(N-(12+(1+(n1+2))))=N:=by have z:=Nat.le_of_ble_eq_true le; omega
 rw [eN] at run
 have ends:topFrom treeTable p w N ⟨boot_heap w.params,Array.mk [],boot_drawn,boot_toks,os⟩=some s1:=by
  show (match (boot_heap w.params).isNs mainGlobals&&(Array.mk []:Array GenState).size==0 with | true=>_ | false=>_)=_
  rw [sz.1,sz.2.1,sz.2.2]
  show Option.bind (topRun treeTable p w 11 (some (.ref 6)) N _ _) _=_
  rw [run]
  show (match (_:Bool) with | true=>some s1 | false=>none)=_
  rw [good]
 have both:openEnds treeTable p w N=some s1:=by unfold openEnds; rw [op]; exact ends
 rw [both,pI,seen,z1O]
open PySem.Spec PyProof.Rows L2 in
theorem dfn {K:Frag}{mg:Str->Option Value}{h:Heap}{n:Str}{st:Stmt}{ps:List Str}{a c:Addr}{m:Str}{t:Nat}(X:K.In h)(G:h.Ns mainGlobals mg)
  (hl:∀ (kV dc pm:Value) (an:Option Addr) (cd ct:Value) (us:List Value),us.length=ps.length->bindArgs (fnOf n n (defArgs st) (defBody st) (defScope st) .none kV dc pm an cd ct) { pos:=us }=pure (ps.zip us))
  (e:(nsIn K mainGlobals n,K.lookup a,codeIn K (.ref c) n,keepIn K (.ref a))=(some (some (.ref a)),some ⟨.type "function",none,.func (fnOf n n (defArgs st) (defBody st) (defScope st) .none .none .none (.str m t) none (.ref c) .none),#[]⟩,true,true)):DefIn K mg n st ps:=by
 simp only [Prod.mk.injEq] at e
 exact Ui X G hl e.1 e.2.1 e.2.2.1 e.2.2.2
end HW
namespace K09
open PySem PySem.Spec PyProof.Rows L2
def top (i:Nat):Stmt:=PySem.Challenge.pw_quirehand_k09_pieces_of_words.main.body.getD i (.Pass ⟨0,0,0,0⟩)
section
variable {P:Program}{w:World}{K:PySem.W.Frag}{mg:Str->Option Value}{base:Heap}
structure Gl0 (K:PySem.W.Frag)(mg:Str->Option Value):Prop where
 SIGNS:∃ t,mg "SIGNS"=some (.str "abcdefghijklmnopqrstuvwxyzABCDEFGHIJKLMNOPQRSTUVWXYZ0123456789.,;:!?'\"()-/" t)
 SMALL:∃ t,mg "SMALL"=some (.str "abcdefghijklmnopqrstuvwxyz" t)
 MOST_SIGNS:∃ t,mg "MOST_SIGNS"=some (.int 40 t)
theorem z3y {C:Addr}{bm:List Value}{n:String}(h:PySem.W.excIn K C bm n=true):(PySem.W.clsIn K C).isSome=true:=by
 unfold PySem.W.excIn at h
 split at h
 ·rename_i hl
  unfold PySem.W.clsIn
  rw [hl]
  rfl
 ·cases h
structure Cls (K:PySem.W.Frag)(mg:Str->Option Value):Prop where
 e_BadWord:∃ C,ErrC K "BadWord" C
 ve:mg "ValueError"=none
 ex:∃ CS CT:Addr,mg "SetError"=some (.ref CS)/\ErrC K "BadWord" CT/\ErrI K CT/\mg "BadWord"=some (.ref CT)/\PySem.W.kitOne K (.ref CT) (.type "ValueError")=some true/\PySem.W.kitOne K (.ref CT) (.ref CS)=some true/\PySem.W.exmOne K (.ref CT) (.ref CT)=some true
def Vz:Tn->R Fl:=(zr (wK (eUn (xD "str") (zb 0)) (wK (zd (eqR false) (eL yy (za (zb 0) ze)) (eC (.int 1))) (zd uh (zb 0) (eC (.str "abcdefghijklmnopqrstuvwxyzABCDEFGHIJKLMNOPQRSTUVWXYZ0123456789.,;:!?'\"()-/"))))))
def v5:List D->R D:=zw 1 Vz
theorem Xm:FnScope ["thing"] ["thing"] (defScope (top 5)):=⟨rfl,rfl,rfl,by decide +kernel,rfl,by decide +kernel,by decide +kernel⟩
theorem Xr (Df:DefIn K mg "is_sign" (top 5) ["thing"])(B:Bl mg)(G:Gl0 K mg)(Cl:Cls K mg) :Own P w K mg base "is_sign" 1 ["thing"] (spM K v5 1) :=
 Df.mir (k:=0) (Γ':=[.shr]) Xm (by decide) fun f cdv A outer s H E hr=>(zq (zE (zf (uZ (vg (T:="str") (by decide) rfl B.isinstance (xS (v:=.ty "str") rfl B.str Boot.«str» rfl) (mn 0 .shr)) (uZ (wL (yD hr.u12) wR vj (y1 zW w8 xZ (by exact rfl) B.len PySem.boot_len (zc (mn 0 .shr) zj)) zg (zS _)) (jU (wL Zo Wv Wc (mn 0 .shr) (Ys G.SIGNS) (by exact rfl))))))))
def J1:Tn->R Fl:=(zh (zl 2 (eL yn (za (zd ixD (zb 0) (eC (.int 2))) ze))) (zh (vy 2 (ya (zd ixD (zb 0) (eC (.int 1)))) (eC (.str " "))) (zr (eL YX (za (yE [none,some 2,some 0] (zZ (zb 1)) (.one 0) (fun _=>.ok true) (YZ (zb 1) (zb 0) (zd ixD (zb 2) (eC (.int 0))))) ze)))))
def xM:List D->R D:=zw 3 J1
theorem sc_wide:FnScope ["face","line","widths"] ["face","line"] (defScope (top 6)):=⟨rfl,rfl,rfl,by decide +kernel,rfl,by decide +kernel,by decide +kernel⟩
theorem Kn (Df:DefIn K mg "wide" (top 6) ["face","line"])(B:Bl mg)(G:Gl0 K mg)(Cl:Cls K mg) :Own P w K mg base "wide" 1 ["face","line"] (spM K xM 2) :=
 Df.mir (k:=0) (Γ':=[.shr,.shr,.dead]) sc_wide (by decide) fun f cdv A outer s H E hr=>(zi (L2.st 2 sc_wide.nd (zf (yZ (vf (by exact rfl)) j8 j4 (by exact rfl) B.dict Boot.«dict» (zc (zQ hr.u1 (mn 0 .shr) zg) zj)))) (zi (KH 2 hr.u1 (zf (yj (zQ hr.u1 (mn 0 .shr) zg))) zD) (zq (zE (zf (y1 (V9 rfl) z3d z3f (by exact rfl) B.sum PyProof.Rows.boot_sum (zc (vU (N':=["sign","widths","face"]) (fr:=[none,some 2,some 0]) rfl (xX sc_wide.nofree (by decide +kernel)) (x9 (mn 1 .shr)) (fun _ _ _ _=>(yX (pgn 0 (show List.Nodup (["sign","widths","face"]:List Str) from by decide +kernel)))) (fun _ _ _ _=>vk) (fun _ _ _ _=>(z2c hr.u1 (mn 1 .brw) (mn 0 .shr) (zQ hr.u1 (mn 2 .shr) zg))) (by decide) (by decide)) zj)))))))
def kB:Tn->R Fl:=(zr (eL kQ (za (eSm qC (zb 0) (za (eC (.str "-")) ze)) (za (eSm qC (zb 0) (za (eC (.str "=")) ze)) ze))))
def xv:List D->R D:=zw 1 kB
theorem YR:FnScope ["joint"] ["joint"] (defScope (top 9)):=⟨rfl,rfl,rfl,by decide +kernel,rfl,by decide +kernel,by decide +kernel⟩
theorem XG (Df:DefIn K mg "mark_at" (top 9) ["joint"])(B:Bl mg)(G:Gl0 K mg)(Cl:Cls K mg) :Own P w K mg base "mark_at" 1 ["joint"] (spM K xv 1) :=
 Df.mir (k:=0) (Γ':=[.shr]) YR (by decide) fun f cdv A outer s H E hr=>(zq (zE (zf (y1 (Vw (by exact rfl)) z2y z1i (by exact rfl) B.max PyProof.Rows.boot_max (zc (Yv PySem.F.plainAttrs_str PySem.F.slot_str_find PySem.F.type_str_find Yr J3 Ud (mn 0 .shr) (zc zD zj)) (zc (Yv PySem.F.plainAttrs_str PySem.F.slot_str_find PySem.F.type_str_find Yr J3 Ud (mn 0 .shr) (zc zD zj)) zj))))))
def uN:Tn->R Fl:=(zr (eUn (vZ "=" "") (eUn (vZ "-" "") (zb 0))))
def yo:List D->R D:=zw 1 uN
theorem ki:FnScope ["joint"] ["joint"] (defScope (top 10)):=⟨rfl,rfl,rfl,by decide +kernel,rfl,by decide +kernel,by decide +kernel⟩
theorem kq (Df:DefIn K mg "letters_of" (top 10) ["joint"])(B:Bl mg)(G:Gl0 K mg)(Cl:Cls K mg) :Own P w K mg base "letters_of" 1 ["joint"] (spM K yo 1) :=
 Df.mirT (k:=0) (Γ':=[.shr]) ki (by decide) ⟨_,_,rfl,rfl⟩ fun f cdv A outer s H E hr=>(KP (ur (ur (ME.p (mn 0 .shr)) (by decide) (by decide)) (by decide) (by decide)))
def X8:Tn->R Fl:=(zh (zl 3 (eL yo (za (zb 0) ze))) (zh (zl 4 (zd uJ (zb 2) (eL xv (za (zb 0) ze)))) (zr (wK (zd geD (zb 4) (eC (.int 0))) (zd (eqR false) (vd uY (eSl (zb 1) (yb (zb 4)) (yb (zd zy (zb 4) (eL yy (za (zb 3) ze)))))) (zb 3))))))
def vB:List D->R D:=zw 5 X8
theorem sc_fits:FnScope ["joint","word","place","letters","begin"] ["joint","word","place"] (defScope (top 11)):=⟨rfl,rfl,rfl,by decide +kernel,rfl,by decide +kernel,by decide +kernel⟩
theorem Jp (Df:DefIn K mg "fits" (top 11) ["joint","word","place"])(B:Bl mg)(G:Gl0 K mg)(Cl:Cls K mg)(O_letters_of:Own P w K mg base "letters_of" 1 ["joint"] (spM K yo 1))(O_mark_at:Own P w K mg base "mark_at" 1 ["joint"] (spM K xv 1)):Own P w K mg base "fits" 2 ["joint","word","place"] (spM K vB 3) :=
 Df.mir (k:=1) (Γ':=[.shr,.shr,.shr,.dead,.dead]) sc_fits (by decide) fun f cdv A outer s H E hr=>(zi (L2.st 3 sc_fits.nd (zf (zt (O_letters_of.mono (by decide)) hr (by exact rfl) zo (zc (mn 0 .shr) zj)))) (zi (L2.st 4 sc_fits.nd (zf (zp uc jT zB (mn 2 .shr) (zt (O_mark_at.mono (by decide)) hr (by exact rfl) zo (zc (mn 0 .shr) zj))))) (zq (zE (zf (uZ (wL z4c z4C zB (mn 4 .own) zg (zS _)) (jU (wL (yD hr.u12) wR vj (ju (vK (mn 1 .shr) (xi (mn 4 .own)) (xi (zp zu zN zO (mn 4 .own) (y1 zW w8 xZ (by exact rfl) B.len PySem.boot_len (zc (mn 3 .own) zj)))))) (mn 3 .own) (zS _)))))))))
def Uy:Tn->R Fl:=(zr (eL (fun ds=>.ok (.tup ds)) (za (eL yy (za (zb 0) ze)) (za (eL xv (za (zb 0) ze)) ze))))
def vI:List D->R D:=zw 1 Uy
theorem Kq:FnScope ["joint"] ["joint"] (defScope (top 12)):=⟨rfl,rfl,rfl,by decide +kernel,rfl,by decide +kernel,by decide +kernel⟩
theorem Kc (Df:DefIn K mg "rank" (top 12) ["joint"])(B:Bl mg)(G:Gl0 K mg)(Cl:Cls K mg)(O_mark_at:Own P w K mg base "mark_at" 1 ["joint"] (spM K xv 1)):Own P w K mg base "rank" 2 ["joint"] (spM K vI 1) :=
 Df.mir (k:=1) (Γ':=[.shr]) Kq (by decide) fun f cdv A outer s H E hr=>(zq (zE (zf (yx (zc (y1 zW w8 xZ (by exact rfl) B.len PySem.boot_len (zc (mn 0 .shr) zj)) (zc (zt (O_mark_at.mono (by decide)) hr (by exact rfl) zo (zc (mn 0 .shr) zj)) zj))))))
def VD:Tn->R Fl:=(zh (zl 3 (eC .non)) (zh (yJ (zZ (zb 0)) (.one 4) (sIf (vX (zm (eL vB (za (zb 4) (za (zb 1) (za (zb 2) ze))))) (bOr (zm (zd (isN false) (zb 3) (eC .non))) (zm (zd gtT (eL vI (za (zb 4) ze)) (eL vI (za (zb 3) ze)))))) (zl 3 (zb 4)) zx)) (zr (ya (zb 3)))))
def wj:List D->R D:=zw 5 VD
theorem sc_telling:FnScope ["book","word","place","best","joint"] ["book","word","place"] (defScope (top 13)):=⟨rfl,rfl,rfl,by decide +kernel,rfl,by decide +kernel,by decide +kernel⟩
theorem Xo (Df:DefIn K mg "telling" (top 13) ["book","word","place"])(B:Bl mg)(G:Gl0 K mg)(Cl:Cls K mg)(O_fits:Own P w K mg base "fits" 2 ["joint","word","place"] (spM K vB 3))(O_rank:Own P w K mg base "rank" 2 ["joint"] (spM K vI 1)):Own P w K mg base "telling" 3 ["book","word","place"] (spM K wj 3) :=
 Df.mir (k:=2) (Γ':=[.shr,.shr,.shr,.dead,.dead]) sc_telling (by decide) fun f cdv A outer s H E hr=>(zi (L2.st 3 sc_telling.nd (zf qy)) (zi (UU (Γ1:=[.shr,.shr,.shr,.shr,.dead]) (xO (Γ2:=[.shr,.shr,.shr,.shr,.shr]) PassesOwn.leaving rfl (x9 (mn 0 .shr)) (by decide) (yX (pgn 4 sc_telling.nd)) (by decide) (zq (xu (MW.mt (YU (xq (zt (O_fits.mono (by decide)) hr (by exact rfl) zo (zc (mn 4 .shr) (zc (mn 1 .shr) (zc (mn 2 .shr) zj))))) (ZA (MW.mt (qL (yr z18 z37 UY (mn 3 .shr) qy (zS _)) (uj (yr (z11 hr.units0) z3j z4v (zt (O_rank.mono (by decide)) hr (by exact rfl) zo (zc (mn 4 .shr) zj)) (zt (O_rank.mono (by decide)) hr (by exact rfl) zo (zc (mn 3 .shr) zj)) (zS _)))))))) (zq (stS 3 sc_telling.nd (mn 4 .shr))) yf)) rfl) rfl) (zq (zE (zf (yj (mn 3 .shr)))))))
def wO:Tn->R Fl:=(zh (sIf (bOr (xk (zm (eUn (xD "str") (zb 0)))) (xk (zm (vD leD leD (eC (.int 1)) (eL yy (za (zb 0) ze)) (eC (.int 40)))))) (zr (eC (.bl false))) zx) (zr (eL Xk (za (yE [none] (zZ (zb 0)) (.one 0) (fun _=>.ok true) (eL v5 (za (zb 0) ze))) ze))))
def zJ:List D->R D:=zw 1 wO
theorem sc_is_word:FnScope ["thing"] ["thing"] (defScope (top 16)):=⟨rfl,rfl,rfl,by decide +kernel,rfl,by decide +kernel,by decide +kernel⟩
theorem XI (Df:DefIn K mg "is_word" (top 16) ["thing"])(B:Bl mg)(G:Gl0 K mg)(Cl:Cls K mg)(O_is_sign:Own P w K mg base "is_sign" 1 ["thing"] (spM K v5 1)):Own P w K mg base "is_word" 2 ["thing"] (spM K zJ 1) :=
 Df.mir (k:=1) (Γ':=[.shr]) sc_is_word (by decide) fun f cdv A outer s H E hr=>(zi (xu (MW.mt (qL (wu (xq (vg (T:="str") (by decide) rfl B.isinstance (xS (v:=.ty "str") rfl B.str Boot.«str» rfl) (mn 0 .shr)))) (uj (wu (Uu z0B z3R zB z0B z3R zB zg (y1 zW w8 xZ (by exact rfl) B.len PySem.boot_len (zc (mn 0 .shr) zj)) (J5 G.MOST_SIGNS)))))) (zq (zE (zf vz))) yf) (zq (zE (zf (y1 (WW (by exact rfl)) z33 z2X (by exact rfl) B.all Boot.«all» (zc (vU (N':=["sign"]) (fr:=[none]) rfl (xX sc_is_word.nofree (by decide +kernel)) (x9 (mn 0 .shr)) (fun _ _ _ _=>(yX (pgn 0 (show List.Nodup (["sign"]:List Str) from by decide +kernel)))) (fun _ _ _ _=>vk) (fun _ _ _ _=>(zt (O_is_sign.mono (by decide)) hr (by exact rfl) vR (zc (mn 0 .shr) zj))) (by decide) (by decide)) zj))))))
def vE:Tn->R Fl:=(zh (sIf (xk (zm (eL zJ (za (zb 0) ze)))) (V5 "BadWord" (za (eC (.str "a word is a text of 1 to 40 signs of words")) ze)) zx) (zr (eC (.bl true))))
def yO:List D->R D:=zw 1 vE
theorem Z7:FnScope ["thing"] ["thing"] (defScope (top 17)):=⟨rfl,rfl,rfl,by decide +kernel,rfl,by decide +kernel,by decide +kernel⟩
theorem Zu (Df:DefIn K mg "need_word" (top 17) ["thing"])(B:Bl mg)(G:Gl0 K mg)(Cl:Cls K mg)(O_is_word:Own P w K mg base "is_word" 2 ["thing"] (spM K zJ 1)):Own P w K mg base "need_word" 3 ["thing"] (spM K yO 1) :=
 Df.mir (k:=2) (Γ':=[.shr]) Z7 (by decide) fun f cdv A outer s H E hr=>(zi (xu (wu (xq (zt (O_is_word.mono (by decide)) hr (by exact rfl) zo (zc (mn 0 .shr) zj)))) (zq (V0 Cl.e_BadWord rfl (zc zD zj))) yf) (zq (zE (zf vz))))
def Y1:Tn->R Fl:=(zr (zd uh (vd uY (zb 0)) (eC (.str "abcdefghijklmnopqrstuvwxyz"))))
def yg:List D->R D:=zw 1 Y1
theorem Zh:FnScope ["sign"] ["sign"] (defScope (top 18)):=⟨rfl,rfl,rfl,by decide +kernel,rfl,by decide +kernel,by decide +kernel⟩
theorem Ze (Df:DefIn K mg "is_letter" (top 18) ["sign"])(B:Bl mg)(G:Gl0 K mg)(Cl:Cls K mg) :Own P w K mg base "is_letter" 1 ["sign"] (spM K yg 1) :=
 Df.mir (k:=0) (Γ':=[.shr]) Zh (by decide) fun f cdv A outer s H E hr=>(zq (zE (zf (wL Zo Wv Wc (ju (mn 0 .shr)) (Ys G.SMALL) (by exact rfl)))))
def qY:Tn->R Fl:=(zh (zl 2 (eC (.int 0))) (zh (xQ (vX (zm (zd ltD (zb 2) (zb 1))) (zm (eL yg (za (zd ixD (zb 0) (zd uJ (zd uJ (zb 1) (zb 2)) (eC (.int 1)))) ze)))) (jh 2 vx (eC (.int 1)))) (zr (zb 2))))
def yz:List D->R D:=zw 3 qY
theorem sc_letters_ahead:FnScope ["word","place","many"] ["word","place"] (defScope (top 19)):=⟨rfl,rfl,rfl,by decide +kernel,rfl,by decide +kernel,by decide +kernel⟩
theorem qc (Df:DefIn K mg "letters_ahead" (top 19) ["word","place"])(B:Bl mg)(G:Gl0 K mg)(Cl:Cls K mg)(O_is_letter:Own P w K mg base "is_letter" 1 ["sign"] (spM K yg 1)):Own P w K mg base "letters_ahead" 2 ["word","place"] (spM K yz 2) :=
 Df.mir (k:=1) (Γ':=[.shr,.shr,.dead]) sc_letters_ahead (by decide) fun f cdv A outer s H E hr=>(zi (L2.st 2 sc_letters_ahead.nd (zf zg)) (zi (YH (Γ2:=[.shr,.shr,.own]) PassesOwn.leaving (MW.mt (YU (yr kZ WU zB (mn 2 .own) (mn 1 .shr) (zS _)) (ZA (xq (zt (O_is_letter.mono (by decide)) hr (by exact rfl) zo (zc (zQ hr.u1 (mn 0 .shr) (zp uc jT zB (zp uc jT zB (mn 1 .shr) (mn 2 .own)) zg)) zj)))))) (zq (aug 2 .own sc_letters_ahead.nd W0 WG Y7 zg)) rfl) (zq (zE (mvn 2)))))
def qv:Tn->R Fl:=(zh (zl 2 (eC (.int 0))) (zh (xQ (vX (zm (zd ltD (zd zy (zb 1) (zb 2)) (eL yy (za (zb 0) ze)))) (zm (eL yg (za (zd ixD (zb 0) (zd zy (zb 1) (zb 2))) ze)))) (jh 2 vx (eC (.int 1)))) (zr (zb 2))))
def yq:List D->R D:=zw 3 qv
theorem sc_letters_behind:FnScope ["word","place","many"] ["word","place"] (defScope (top 20)):=⟨rfl,rfl,rfl,by decide +kernel,rfl,by decide +kernel,by decide +kernel⟩
theorem uM (Df:DefIn K mg "letters_behind" (top 20) ["word","place"])(B:Bl mg)(G:Gl0 K mg)(Cl:Cls K mg)(O_is_letter:Own P w K mg base "is_letter" 1 ["sign"] (spM K yg 1)):Own P w K mg base "letters_behind" 2 ["word","place"] (spM K yq 2) :=
 Df.mir (k:=1) (Γ':=[.shr,.shr,.dead]) sc_letters_behind (by decide) fun f cdv A outer s H E hr=>(zi (L2.st 2 sc_letters_behind.nd (zf zg)) (zi (YH (Γ2:=[.shr,.shr,.own]) PassesOwn.leaving (MW.mt (YU (yr kZ WU zB (zp zu zN zO (mn 1 .shr) (mn 2 .own)) (y1 zW w8 xZ (by exact rfl) B.len PySem.boot_len (zc (mn 0 .shr) zj)) (zS _)) (ZA (xq (zt (O_is_letter.mono (by decide)) hr (by exact rfl) zo (zc (zQ hr.u1 (mn 0 .shr) (zp zu zN zO (mn 1 .shr) (mn 2 .own))) zj)))))) (zq (aug 2 .own sc_letters_behind.nd W0 WG Y7 zg)) rfl) (zq (zE (mvn 2)))))
def wz:Tn->R Fl:=(zh (sIf (bOr (zm (zd ltD (eL yz (za (zb 2) (za (zb 3) ze))) (zd ixD (zb 1) (eC (.str "ahead"))))) (zm (zd ltD (eL yq (za (zb 2) (za (zb 3) ze))) (zd ixD (zb 1) (eC (.str "behind")))))) (zr (eC (.bl false))) zx) (zh (zl 4 (eL wj (za (zb 0) (za (zb 2) (za (zb 3) ze))))) (zr (wK (zd (isN true) (zb 4) (eC .non)) (zd uh (eC (.str "-")) (zb 4))))))
def yW:List D->R D:=zw 5 wz
theorem sc_may_part:FnScope ["book","rules","word","place","joint"] ["book","rules","word","place"] (defScope (top 21)):=⟨rfl,rfl,rfl,by decide +kernel,rfl,by decide +kernel,by decide +kernel⟩
theorem Y3 (Df:DefIn K mg "may_part" (top 21) ["book","rules","word","place"])(B:Bl mg)(G:Gl0 K mg)(Cl:Cls K mg)(O_telling:Own P w K mg base "telling" 3 ["book","word","place"] (spM K wj 3))(O_letters_ahead:Own P w K mg base "letters_ahead" 2 ["word","place"] (spM K yz 2))(O_letters_behind:Own P w K mg base "letters_behind" 2 ["word","place"] (spM K yq 2)):Own P w K mg base "may_part" 4 ["book","rules","word","place"] (spM K yW 4) :=
 Df.mir (k:=3) (Γ':=[.shr,.shr,.shr,.shr,.dead]) sc_may_part (by decide) fun f cdv A outer s H E hr=>(zi (xu (MW.mt (qL (yr kZ WU zB (zt (O_letters_ahead.mono (by decide)) hr (by exact rfl) zo (zc (mn 2 .shr) (zc (mn 3 .shr) zj))) (zQ hr.u1 (mn 1 .shr) zD) (zS _)) (uj (yr kZ WU zB (zt (O_letters_behind.mono (by decide)) hr (by exact rfl) zo (zc (mn 2 .shr) (zc (mn 3 .shr) zj))) (zQ hr.u1 (mn 1 .shr) zD) (zS _))))) (zq (zE (zf vz))) yf) (zi (L2.st 4 sc_may_part.nd (zf (zt (O_telling.mono (by decide)) hr (by exact rfl) zo (zc (mn 0 .shr) (zc (mn 2 .shr) (zc (mn 3 .shr) zj)))))) (zq (zE (zf (uZ (wL WE US UY (mn 4 .own) qy (zS _)) (jU (wL Zo Wv Wc zD (mn 4 .own) (by exact rfl)))))))))
def wW:Tn->R Fl:=(zh (sIf (bOr (zm (zd ltD (zb 1) (eC (.int 2)))) (zm (zd (eqR true) (zd ixD (zb 0) (zd uJ (zb 1) (eC (.int 1)))) (eC (.str "-"))))) (zr (eC (.bl false))) zx) (zr (wK (eL yg (za (zd ixD (zb 0) (zd uJ (zb 1) (eC (.int 2)))) ze)) (eL yg (za (zd ixD (zb 0) (zb 1)) ze)))))
def xj:List D->R D:=zw 2 wW
theorem XD:FnScope ["word","place"] ["word","place"] (defScope (top 22)):=⟨rfl,rfl,rfl,by decide +kernel,rfl,by decide +kernel,by decide +kernel⟩
theorem Xf (Df:DefIn K mg "is_soft" (top 22) ["word","place"])(B:Bl mg)(G:Gl0 K mg)(Cl:Cls K mg)(O_is_letter:Own P w K mg base "is_letter" 1 ["sign"] (spM K yg 1)):Own P w K mg base "is_soft" 2 ["word","place"] (spM K xj 2) :=
 Df.mir (k:=1) (Γ':=[.shr,.shr]) XD (by decide) fun f cdv A outer s H E hr=>(zi (xu (MW.mt (qL (yr kZ WU zB (mn 1 .shr) zg (zS _)) (uj (yr (wU hr.u12) wR vj (zQ hr.u1 (mn 0 .shr) (zp uc jT zB (mn 1 .shr) zg)) zD (zS _))))) (zq (zE (zf vz))) yf) (zq (zE (zf (uZ (zt (O_is_letter.mono (by decide)) hr (by exact rfl) zo (zc (zQ hr.u1 (mn 0 .shr) (zp uc jT zB (mn 1 .shr) zg)) zj)) (jU (zt (O_is_letter.mono (by decide)) hr (by exact rfl) zo (zc (zQ hr.u1 (mn 0 .shr) (mn 1 .shr)) zj))))))))
def vN:Tn->R Fl:=(zh (sIf (zm (eL yW (za (zb 0) (za (zb 1) (za (zb 2) (za (zb 3) ze)))))) (zr (eC (.str "part"))) zx) (zh (sIf (zm (eL xj (za (zb 2) (za (zb 3) ze)))) (zr (eC (.str "soft"))) zx) (zr (eC .non))))
def yM:List D->R D:=zw 4 vN
theorem Xe:FnScope ["book","rules","word","place"] ["book","rules","word","place"] (defScope (top 23)):=⟨rfl,rfl,rfl,by decide +kernel,rfl,by decide +kernel,by decide +kernel⟩
theorem XJ (Df:DefIn K mg "join_at" (top 23) ["book","rules","word","place"])(B:Bl mg)(G:Gl0 K mg)(Cl:Cls K mg)(O_may_part:Own P w K mg base "may_part" 4 ["book","rules","word","place"] (spM K yW 4))(O_is_soft:Own P w K mg base "is_soft" 2 ["word","place"] (spM K xj 2)):Own P w K mg base "join_at" 5 ["book","rules","word","place"] (spM K yM 4) :=
 Df.mir (k:=4) (Γ':=[.shr,.shr,.shr,.shr]) Xe (by decide) fun f cdv A outer s H E hr=>(zi (xu (xq (zt (O_may_part.mono (by decide)) hr (by exact rfl) zo (zc (mn 0 .shr) (zc (mn 1 .shr) (zc (mn 2 .shr) (zc (mn 3 .shr) zj)))))) (zq (zE (zf zD))) yf) (zi (xu (xq (zt (O_is_soft.mono (by decide)) hr (by exact rfl) zo (zc (mn 2 .shr) (zc (mn 3 .shr) zj)))) (zq (zE (zf zD))) yf) (zq (zE (zf qy)))))
def qT:Tn->R Fl:=(zh (zl 2 (vd uY (zb 1))) (zr (yE [none,some 2] (zZ (zb 0)) (.one 0) (zm (zd uh (eL yo (za (zb 0) ze)) (zb 1))) (ya (zb 0)))))
def yA:List D->R D:=zw 3 qT
theorem sc_joints_within:FnScope ["book","word","small"] ["book","word"] (defScope (top 24)):=⟨rfl,rfl,rfl,by decide +kernel,rfl,by decide +kernel,by decide +kernel⟩
theorem qe (Df:DefIn K mg "joints_within" (top 24) ["book","word"])(B:Bl mg)(G:Gl0 K mg)(Cl:Cls K mg)(O_letters_of:Own P w K mg base "letters_of" 1 ["joint"] (spM K yo 1)):Own P w K mg base "joints_within" 2 ["book","word"] (spM K yA 2) :=
 Df.mir (k:=1) (Γ':=[.shr,.shr,.dead]) sc_joints_within (by decide) fun f cdv A outer s H E hr=>(zi (L2.st 2 sc_joints_within.nd (zf (ju (mn 1 .shr)))) (zq (zE (zf (vU (N':=["joint","small"]) (fr:=[none,some 2]) rfl (xX sc_joints_within.nofree (by decide +kernel)) (x9 (mn 0 .shr)) (fun _ _ _ _=>(yX (pgn 0 (show List.Nodup (["joint","small"]:List Str) from by decide +kernel)))) (fun _ _ _ _=>(Zw (yr Zo Wv Wc (zt (O_letters_of.mono (by decide)) hr (by exact rfl) vR (zc (mn 0 .shr) zj)) (mn 1 .brw) (by exact rfl)))) (fun _ _ _ _=>(yj (mn 0 .shr))) (by decide) (by decide))))))
def Uv:Tn->R Fl:=(zh (kR (eL yO (za (zb 2) ze))) (zh (zl 3 (eL yA (za (zb 0) (za (zb 2) ze)))) (zh (zl 4 (yE [none,some 3,some 1,some 2] (iL Zl (za (eC (.int 1)) (za (eL yy (za (zb 2) ze)) ze))) (.one 0) (fun _=>.ok true) (ya (eL (fun ds=>.ok (.tup ds)) (za (zb 0) (za (eL yM (za (zb 1) (za (zb 2) (za (zb 3) (za (zb 0) ze))))) ze)))))) (zr (yE [none,none] (zZ (zb 4)) (.many [0,1]) (zm (zd (isN true) (zb 1) (eC .non))) (ya (eL (fun ds=>.ok (.tup ds)) (za (zb 0) (za (zb 1) ze)))))))))
def xo:List D->R D:=zw 5 Uv
theorem sc_places:FnScope ["book","rules","word","own","joins"] ["book","rules","word"] (defScope (top 25)):=⟨rfl,rfl,rfl,by decide +kernel,rfl,by decide +kernel,by decide +kernel⟩
theorem Vl (Df:DefIn K mg "places" (top 25) ["book","rules","word"])(B:Bl mg)(G:Gl0 K mg)(Cl:Cls K mg)(O_need_word:Own P w K mg base "need_word" 3 ["thing"] (spM K yO 1))(O_joints_within:Own P w K mg base "joints_within" 2 ["book","word"] (spM K yA 2))(O_join_at:Own P w K mg base "join_at" 5 ["book","rules","word","place"] (spM K yM 4)):Own P w K mg base "places" 6 ["book","rules","word"] (spM K xo 3) :=
 Df.mir (k:=5) (Γ':=[.shr,.shr,.shr,.dead,.dead]) sc_places (by decide) fun f cdv A outer s H E hr=>(zi (Kv (zt (O_need_word.mono (by decide)) hr (by exact rfl) zo (zc (mn 2 .shr) zj))) (zi (L2.st 3 sc_places.nd (zf (zt (O_joints_within.mono (by decide)) hr (by exact rfl) zo (zc (mn 0 .shr) (zc (mn 2 .shr) zj))))) (zi (stC 4 (N':=["place","own","rules","word"]) (fr:=[none,some 3,some 1,some 2]) sc_places.nd rfl (xX sc_places.nofree (by decide +kernel)) (Z5 rfl B.range (zc zg (zc (y1 zW w8 xZ (by exact rfl) B.len PySem.boot_len (zc (mn 2 .shr) zj)) zj))) (fun _ _ _ _=>(yX (pgn 0 (show List.Nodup (["place","own","rules","word"]:List Str) from by decide +kernel)))) (fun _ _ _ _=>vk) (fun _ _ _ _=>(yj (yx (zc (mn 0 .shr) (zc (zt (O_join_at.mono (by decide)) hr (by exact rfl) vR (zc (mn 1 .brw) (zc (mn 2 .shr) (zc (mn 3 .shr) (zc (mn 0 .shr) zj))))) zj))))) (by decide)) (zq (zE (zf (vU (N':=["place","join"]) (fr:=[none,none]) rfl (xX sc_places.nofree (by decide +kernel)) (x9 (mn 4 .own)) (fun _ _ _ _=>(v7 rfl (yu (pgn 0 (show List.Nodup (["place","join"]:List Str) from by decide +kernel)) (yu (pgn 1 (show List.Nodup (["place","join"]:List Str) from by decide +kernel)) vo)))) (fun _ _ _ _=>(Zw (yr WE US UY (mn 1 .brw) qy (zS _)))) (fun _ _ _ _=>(yj (yx (zc (mn 0 .brw) (zc (mn 1 .brw) zj))))) (by decide) (by decide))))))))
def Ua:Tn->R Fl:=(zh (zl 3 (eL (fun ds=>.ok (.lst ds)) ze)) (zh (zl 4 (eC (.int 0))) (zh (yJ (zZ (eL xo (za (zb 0) (za (zb 1) (za (zb 2) ze))))) (.many [5,6]) (zh (wN 3 (ya (eL (fun ds=>.ok (.tup ds)) (za (eSl (zb 2) (yb (zb 4)) (yb (zb 5))) (za (zb 6) ze))))) (zl 4 (zb 5)))) (zh (wN 3 (eL (fun ds=>.ok (.tup ds)) (za (eSl (zb 2) (yb (zb 4)) yT) (za (eC (.str "blank")) ze)))) (zr (zb 3))))))
def yl:List D->R D:=zw 7 Ua
theorem sc_parted:FnScope ["book","rules","word","texts","begin","place","join"] ["book","rules","word"] (defScope (top 26)):=⟨rfl,rfl,rfl,by decide +kernel,rfl,by decide +kernel,by decide +kernel⟩
theorem Vp (Df:DefIn K mg "parted" (top 26) ["book","rules","word"])(B:Bl mg)(G:Gl0 K mg)(Cl:Cls K mg)(O_places:Own P w K mg base "places" 6 ["book","rules","word"] (spM K xo 3)):Own P w K mg base "parted" 7 ["book","rules","word"] (spM K yl 3) :=
 Df.mir (k:=6) (Γ':=[.shr,.shr,.shr,.dead,.dead,.dead,.dead]) sc_parted (by decide) fun f cdv A outer s H E hr=>(zi (L2.st 3 sc_parted.nd (zf (xm zj))) (zi (L2.st 4 sc_parted.nd (zf zg)) (zi (UU (Γ1:=[.shr,.shr,.shr,.own,.shr,.dead,.dead]) (xO (Γ2:=[.shr,.shr,.shr,.own,.shr,.shr,.shr]) PassesOwn.leaving rfl (x9 (zt (O_places.mono (by decide)) hr (by exact rfl) zo (zc (mn 0 .shr) (zc (mn 1 .shr) (zc (mn 2 .shr) zj))))) (by decide) (v7 rfl (yu (pgn 5 sc_parted.nd) (yu (pgn 6 sc_parted.nd) vo))) (by decide) (zi (app 3 (zf (yj (yx (zc (vK (mn 2 .shr) (xi (mn 4 .shr)) (xi (mn 5 .shr))) (zc (mn 6 .shr) zj)))))) (zq (stS 4 sc_parted.nd (mn 5 .shr)))) rfl) rfl) (zi (app 3 (zf (yx (zc (vK (mn 2 .shr) (xi (mn 4 .shr)) wb) (zc zD zj))))) (zq (zE (mvn 3)))))))
def jr:Tn->R Fl:=(zr (eL (fun ds=>.ok (.dic [.inr "width",.inr "part",.inr "twin",.inr "over",.inr "blank",.inr "dash"] ds)) (za (ya (zd ixD (zb 1) (eC (.str "width")))) (za (ya (zd ixD (zb 1) (eC (.str "part")))) (za (ya (zd ixD (zb 1) (eC (.str "twin")))) (za (ya (zd ixD (zb 1) (eC (.str "over")))) (za (ya (zd ixD (zb 0) (eC (.int 1)))) (za (eL xM (za (zb 0) (za (eC (.str "-")) ze))) ze))))))))
def wq:List D->R D:=zw 2 jr
theorem VG:FnScope ["face","rules"] ["face","rules"] (defScope (top 28)):=⟨rfl,rfl,rfl,by decide +kernel,rfl,by decide +kernel,by decide +kernel⟩
theorem WX (Df:DefIn K mg "lay_of" (top 28) ["face","rules"])(B:Bl mg)(G:Gl0 K mg)(Cl:Cls K mg)(O_wide:Own P w K mg base "wide" 1 ["face","line"] (spM K xM 2)):Own P w K mg base "lay_of" 2 ["face","rules"] (spM K wq 2) :=
 Df.mir (k:=1) (Γ':=[.shr,.shr]) VG (by decide) fun f cdv A outer s H E hr=>(zq (zE (zf (XQ (xU (key:=.inr "width") wx (yj (zQ hr.u1 (mn 1 .shr) zD)) (xU (key:=.inr "part") wx (yj (zQ hr.u1 (mn 1 .shr) zD)) (xU (key:=.inr "twin") wx (yj (zQ hr.u1 (mn 1 .shr) zD)) (xU (key:=.inr "over") wx (yj (zQ hr.u1 (mn 1 .shr) zD)) (xU (key:=.inr "blank") wx (yj (zQ hr.u1 (mn 0 .shr) zg)) (xU (key:=.inr "dash") wx (zt (O_wide.mono (by decide)) hr (by exact rfl) zo (zc (mn 0 .shr) (zc zD zj))) Wh)))))) (by decide)))))
def Y9:Tn->R Fl:=(zh (zl 4 (eL (fun ds=>.ok (.lst ds)) ze)) (zh (yJ (zZ (zb 3)) (.many [5,6]) (yJ (zZ (eL yl (za (zb 1) (za (zb 2) (za (zb 5) ze))))) (.many [7,8]) (zh (zl 9 (eIf (zm (zd (eqR false) (zb 8) (eC (.str "blank")))) (zd zy (zb 7) (zb 6)) (ya (zb 7)))) (wN 4 (ya (eL (fun ds=>.ok (.tup ds)) (za (zb 9) (za (eL xM (za (zb 0) (za (zb 9) ze))) (za (zb 8) ze))))))))) (zr (zb 4))))
def zX:List D->R D:=zw 10 Y9
theorem sc_pieces_of:FnScope ["face","book","rules","pairs","pieces","word","tail","text","join","full"] ["face","book","rules","pairs"] (defScope (top 29)):=⟨rfl,rfl,rfl,by decide +kernel,rfl,by decide +kernel,by decide +kernel⟩
theorem ZK (Df:DefIn K mg "pieces_of" (top 29) ["face","book","rules","pairs"])(B:Bl mg)(G:Gl0 K mg)(Cl:Cls K mg)(O_parted:Own P w K mg base "parted" 7 ["book","rules","word"] (spM K yl 3))(O_wide:Own P w K mg base "wide" 1 ["face","line"] (spM K xM 2)):Own P w K mg base "pieces_of" 8 ["face","book","rules","pairs"] (spM K zX 4) :=
 Df.mir (k:=7) (Γ':=[.shr,.shr,.shr,.shr,.dead,.dead,.dead,.dead,.dead,.dead]) sc_pieces_of (by decide) fun f cdv A outer s H E hr=>(zi (L2.st 4 sc_pieces_of.nd (zf (xm zj))) (zi (xO (Γ2:=[.shr,.shr,.shr,.shr,.own,.shr,.shr,.dead,.dead,.dead]) PassesOwn.leaving rfl (x9 (mn 3 .shr)) (by decide) (v7 rfl (yu (pgn 5 sc_pieces_of.nd) (yu (pgn 6 sc_pieces_of.nd) vo))) (by decide) (zq (xO (Γ2:=[.shr,.shr,.shr,.shr,.own,.shr,.shr,.shr,.shr,.own]) PassesOwn.leaving rfl (x9 (zt (O_parted.mono (by decide)) hr (by exact rfl) zo (zc (mn 1 .shr) (zc (mn 2 .shr) (zc (mn 5 .shr) zj))))) (by decide) (v7 rfl (yu (pgn 7 sc_pieces_of.nd) (yu (pgn 8 sc_pieces_of.nd) vo))) (by decide) (zi (L2.st 9 sc_pieces_of.nd (zf (z1t (yr (yD hr.u12) wR vj (mn 8 .shr) zD (zS _)) (zp zu zN zO (mn 7 .shr) (mn 6 .shr)) (yj (mn 7 .shr))))) (zq (app 4 (zf (yj (yx (zc (mn 9 .own) (zc (zt (O_wide.mono (by decide)) hr (by exact rfl) zo (zc (mn 0 .shr) (zc (mn 9 .own) zj))) (zc (mn 8 .shr) zj))))))))) rfl)) rfl) (zq (zE (mvn 4)))))
def wM:Tn->R Fl:=(zh (sIf (zm (zd (eqR false) (zb 0) (eL (fun ds=>.ok (.lst ds)) ze))) (zr (zd zA (zd wD (zd zy (zd wD (eC (.int 5003)) (zb 1)) (eC (.int 17))) (eC (.int 48271))) (eC (.int 2147483647)))) zx) (zh (zl 2 (zd zy (zd zy (zd ixD (zb 0) (zd zA (zb 1) (eL yy (za (zb 0) ze)))) (zd wD (eC (.int 7919)) (zd zC (zb 1) (eL yy (za (zb 0) ze))))) (zd wD (eC (.int 101)) (zb 1)))) (zr (zd zA (zd wD (zb 2) (eC (.int 48271))) (eC (.int 2147483647))))))
def zk:List D->R D:=zw 3 wM
theorem sc__law_number:FnScope ["_law_script","_law_k","_law_base"] ["_law_script","_law_k"] (defScope (top 31)):=⟨rfl,rfl,rfl,by decide +kernel,rfl,by decide +kernel,by decide +kernel⟩
theorem jP (Df:DefIn K mg "_law_number" (top 31) ["_law_script","_law_k"])(B:Bl mg)(G:Gl0 K mg)(Cl:Cls K mg) :Own P w K mg base "_law_number" 1 ["_law_script","_law_k"] (spM K zk 2) :=
 Df.mir (k:=0) (Γ':=[.shr,.shr,.dead]) sc__law_number (by decide) fun f cdv A outer s H E hr=>(zi (xu (yr (yD hr.u12) wR vj (mn 0 .shr) (xm zj) (zS _)) (zq (zE (zf (zp zP yh zB (zp wg ux uu (zp zu zN zO (zp wg ux uu zg (mn 1 .shr)) zg) zg) zg)))) yf) (zi (L2.st 2 sc__law_number.nd (zf (zp zu zN zO (zp zu zN zO (zQ hr.u1 (mn 0 .shr) (zp zP yh zB (mn 1 .shr) (y1 zW w8 xZ (by exact rfl) B.len PySem.boot_len (zc (mn 0 .shr) zj)))) (zp wg ux uu zg (zp ye yF zB (mn 1 .shr) (y1 zW w8 xZ (by exact rfl) B.len PySem.boot_len (zc (mn 0 .shr) zj))))) (zp wg ux uu zg (mn 1 .shr))))) (zq (zE (zf (zp zP yh zB (zp wg ux uu (mn 2 .own) zg) zg))))))
def vt:Tn->R Fl:=(zr (wK (eUn (xD "int") (zb 0)) (z1p (eUn (xD "bool") (zb 0)))))
def yc:List D->R D:=zw 1 vt
theorem ko:FnScope ["_law_found"] ["_law_found"] (defScope (top 32)):=⟨rfl,rfl,rfl,by decide +kernel,rfl,by decide +kernel,by decide +kernel⟩
theorem kb (Df:DefIn K mg "_law_whole" (top 32) ["_law_found"])(B:Bl mg)(G:Gl0 K mg)(Cl:Cls K mg) :Own P w K mg base "_law_whole" 1 ["_law_found"] (spM K yc 1) :=
 Df.mir (k:=0) (Γ':=[.shr]) ko (by decide) fun f cdv A outer s H E hr=>(zq (zE (zf (uZ (vg (T:="int") (by decide) rfl B.isinstance (xS (v:=.ty "int") rfl B.int Boot.«int» rfl) (mn 0 .shr)) (jU (z1W (vg (T:="bool") (by decide) rfl B.isinstance (xS (v:=.ty "bool") rfl B.bool Boot.«bool» rfl) (mn 0 .shr))))))))
def Yh:Tn->R Fl:=(zh (zl 2 (eC (.str "!\"'(),-./0123456789:;?ABCDEFGHIJKLMNOPQRSTUVWXYZabcdefghijklmnopqrstuvwxyz"))) (zh (zl 3 (eL zk (za (zb 0) (za (zb 1) ze)))) (zh (zl 4 (zd zy (eC (.int 1)) (zd zA (zb 3) (eC (.int 20))))) (zh (zl 5 (zd zy (eC (.int 1)) (zd zA (zd zC (zb 3) (eC (.int 20))) (eC (.int 20))))) (zh (zl 6 (eL (fun ds=>.ok (.lst ds)) ze)) (zh (zl 7 (zd zy (eC (.int 1)) (zd zA (zd zC (zb 3) (eC (.int 400))) (eC (.int 40))))) (zh (yJ (iL Jd (za (zd zA (zd zC (zb 3) (eC (.int 16000))) (zb 7)) (za (eL yy (za (zb 2) ze)) (za (zb 7) ze)))) (.one 8) (wN 6 (ya (eL (fun ds=>.ok (.tup ds)) (za (zd ixD (zb 2) (zb 8)) (za (zd zy (eC (.int 1)) (zd zA (zd zA (zd zy (zb 3) (zd wD (eC (.int 7919)) (zb 8))) (eC (.int 10007))) (eC (.int 20)))) ze)))))) (zr (ya (eL (fun ds=>.ok (.tup ds)) (za (zb 4) (za (zb 5) (za (eL xR (za (zb 6) ze)) ze)))))))))))))
def yR:List D->R D:=zw 9 Yh
theorem sc__law_face:FnScope ["_law_script","_law_k","_law_signs","_law_number_here","_law_plain","_law_blank","_law_odd","_law_step","_law_at"] ["_law_script","_law_k"] (defScope (top 33)):=⟨rfl,rfl,rfl,by decide +kernel,rfl,by decide +kernel,by decide +kernel⟩
theorem Zc (Df:DefIn K mg "_law_face" (top 33) ["_law_script","_law_k"])(B:Bl mg)(G:Gl0 K mg)(Cl:Cls K mg)(O__law_number:Own P w K mg base "_law_number" 1 ["_law_script","_law_k"] (spM K zk 2)):Own P w K mg base "_law_face" 2 ["_law_script","_law_k"] (spM K yR 2) :=
 Df.mir (k:=1) (Γ':=[.shr,.shr,.dead,.dead,.dead,.dead,.dead,.dead,.dead]) sc__law_face (by decide) fun f cdv A outer s H E hr=>(zi (L2.st 2 sc__law_face.nd (zf zD)) (zi (L2.st 3 sc__law_face.nd (zf (zt (O__law_number.mono (by decide)) hr (by exact rfl) zo (zc (mn 0 .shr) (zc (mn 1 .shr) zj))))) (zi (L2.st 4 sc__law_face.nd (zf (zp zu zN zO zg (zp zP yh zB (mn 3 .own) zg)))) (zi (L2.st 5 sc__law_face.nd (zf (zp zu zN zO zg (zp zP yh zB (zp ye yF zB (mn 3 .own) zg) zg)))) (zi (L2.st 6 sc__law_face.nd (zf (xm zj))) (zi (L2.st 7 sc__law_face.nd (zf (zp zu zN zO zg (zp zP yh zB (zp ye yF zB (mn 3 .own) zg) zg)))) (zi (xO (Γ2:=[.shr,.shr,.own,.own,.own,.own,.own,.own,.shr]) PassesOwn.leaving rfl (Vm rfl B.range (zc (zp zP yh zB (zp ye yF zB (mn 3 .own) zg) (mn 7 .own)) (zc (y1 zW w8 xZ (by exact rfl) B.len PySem.boot_len (zc (mn 2 .own) zj)) (zc (mn 7 .own) zj)))) (by decide) (yX (pgn 8 sc__law_face.nd)) (by decide) (zq (app 6 (zf (yj (yx (zc (zQ hr.u1 (mn 2 .own) (mn 8 .shr)) (zc (zp zu zN zO zg (zp zP yh zB (zp zP yh zB (zp zu zN zO (mn 3 .own) (zp wg ux uu zg (mn 8 .shr))) zg) zg)) zj))))))) rfl) (zq (zE (zf (yj (yx (zc (mn 4 .own) (zc (mn 5 .own) (zc (yZ kg UN QJ (by exact rfl) B.tuple Boot.«tuple» (zc (mn 6 .own) zj)) zj)))))))))))))))
def Zy:Tn->R Fl:=(zh (zl 1 (eC (.dic [] []))) (zh (zl 2 (eL (fun ds=>.ok (.lst ds)) (za (eL (fun ds=>.ok (.tup ds)) (za (eC (.str "width")) (za (eC (.int 4)) (za (eC (.int 2000)) ze)))) (za (eL (fun ds=>.ok (.tup ds)) (za (eC (.str "height")) (za (eC (.int 2)) (za (eC (.int 200)) ze)))) (za (eL (fun ds=>.ok (.tup ds)) (za (eC (.str "part")) (za (eC (.int 0)) (za (eC (.int 100000)) ze)))) (za (eL (fun ds=>.ok (.tup ds)) (za (eC (.str "twin")) (za (eC (.int 0)) (za (eC (.int 100000)) ze)))) ze)))))) (zh (zl 2 (zd zy (zb 2) (eL (fun ds=>.ok (.lst ds)) (za (eL (fun ds=>.ok (.tup ds)) (za (eC (.str "over")) (za (eC (.int 1)) (za (eC (.int 100000)) ze)))) (za (eL (fun ds=>.ok (.tup ds)) (za (eC (.str "lone")) (za (eC (.int 0)) (za (eC (.int 100000)) ze)))) (za (eL (fun ds=>.ok (.tup ds)) (za (eC (.str "late")) (za (eC (.int 0)) (za (eC (.int 100000)) ze)))) (za (eL (fun ds=>.ok (.tup ds)) (za (eC (.str "gap")) (za (eC (.int 0)) (za (eC (.int 5)) ze)))) ze))))))) (zh (zl 2 (zd zy (zb 2) (eL (fun ds=>.ok (.lst ds)) (za (eL (fun ds=>.ok (.tup ds)) (za (eC (.str "ahead")) (za (eC (.int 1)) (za (eC (.int 6)) ze)))) (za (eL (fun ds=>.ok (.tup ds)) (za (eC (.str "behind")) (za (eC (.int 1)) (za (eC (.int 6)) ze)))) ze))))) (zh (yJ (iL wC (za (eC (.int 10)) ze)) (.one 3) (zh (zl 4 (eL zk (za (zb 0) (za (zd zy (eC (.int 10)) (zb 3)) ze)))) (zh (WT (.many [5,6,7]) (ya (zd ixD (zb 2) (zb 3)))) (zh (vy 1 (zd zy (zb 6) (zd zA (zd zC (zb 4) (eC (.int 3))) (zd zy (zd uJ (zb 7) (zb 6)) (eC (.int 1))))) (zb 5)) (sIf (zm (zd (eqR false) (zd zA (zb 4) (eC (.int 3))) (eC (.int 1)))) (vy 1 (zd zy (zb 6) (zd zA (zd zC (zb 4) (eC (.int 3))) (eC (.int 3)))) (zb 5)) zx))))) (zr (zb 1)))))))
def yB:List D->R D:=zw 8 Zy
theorem sc__law_rules:FnScope ["_law_script","_law_rules_here","_law_bounds","_law_k","_law_number_here","_law_name","_law_low","_law_high"] ["_law_script"] (defScope (top 34)):=⟨rfl,rfl,rfl,by decide +kernel,rfl,by decide +kernel,by decide +kernel⟩
theorem kr (Df:DefIn K mg "_law_rules" (top 34) ["_law_script"])(B:Bl mg)(G:Gl0 K mg)(Cl:Cls K mg)(O__law_number:Own P w K mg base "_law_number" 1 ["_law_script","_law_k"] (spM K zk 2)):Own P w K mg base "_law_rules" 2 ["_law_script"] (spM K yB 1) :=
 Df.mir (k:=1) (Γ':=[.shr,.dead,.dead,.dead,.dead,.dead,.dead,.dead]) sc__law_rules (by decide) fun f cdv A outer s H E hr=>(zi (L2.st 1 sc__law_rules.nd (zf QP)) (zi (L2.st 2 sc__law_rules.nd (zf (xm (zc (yx (zc zD (zc zg (zc zg zj)))) (zc (yx (zc zD (zc zg (zc zg zj)))) (zc (yx (zc zD (zc zg (zc zg zj)))) (zc (yx (zc zD (zc zg (zc zg zj)))) zj))))))) (zi (L2.st 2 sc__law_rules.nd (zf (zp zu zN zO (mn 2 .own) (xm (zc (yx (zc zD (zc zg (zc zg zj)))) (zc (yx (zc zD (zc zg (zc zg zj)))) (zc (yx (zc zD (zc zg (zc zg zj)))) (zc (yx (zc zD (zc zg (zc zg zj)))) zj)))))))) (zi (L2.st 2 sc__law_rules.nd (zf (zp zu zN zO (mn 2 .own) (xm (zc (yx (zc zD (zc zg (zc zg zj)))) (zc (yx (zc zD (zc zg (zc zg zj)))) zj)))))) (zi (xO (Γ2:=[.shr,.own,.own,.shr,.own,.shr,.shr,.shr]) PassesOwn.leaving rfl (wX rfl B.range (zc zg zj)) (by decide) (yX (pgn 3 sc__law_rules.nd)) (by decide) (zi (L2.st 4 sc__law_rules.nd (zf (zt (O__law_number.mono (by decide)) hr (by exact rfl) zo (zc (mn 0 .shr) (zc (zp zu zN zO zg (mn 3 .shr)) zj))))) (zi (z0Q (yj (zQ hr.u1 (mn 2 .own) (mn 3 .shr))) (by decide) (v7 rfl (yu (pgn 5 sc__law_rules.nd) (yu (pgn 6 sc__law_rules.nd) (yu (pgn 7 sc__law_rules.nd) vo)))) (by decide)) (zi (KH 1 hr.u1 (zf (zp zu zN zO (mn 6 .shr) (zp zP yh zB (zp ye yF zB (mn 4 .own) zg) (zp zu zN zO (zp uc jT zB (mn 7 .shr) (mn 6 .shr)) zg)))) (mn 5 .shr)) (zq (xu (yr (yD hr.u12) wR vj (zp zP yh zB (mn 4 .own) zg) zg (zS _)) (zq (KH 1 hr.u1 (zf (zp zu zN zO (mn 6 .shr) (zp zP yh zB (zp ye yF zB (mn 4 .own) zg) zg))) (mn 5 .shr))) yf))))) rfl) (zq (zE (mvn 1))))))))
def jl:Tn->R Fl:=(zh (zl 3 (eC (.str "abcdefghijklmnopqrstuvwxyz"))) (zh (zl 4 (eC (.str ""))) (zh (yJ (iL wC (za (zb 1) ze)) (.one 5) (zh (zl 6 (zd zA (zd wD (zd zy (zb 0) (zd wD (eC (.int 7919)) (zb 5))) (zd zy (eC (.int 48271)) (zd wD (zb 5) (zb 5)))) (eC (.int 1000003)))) (zl 4 (zd zy (zb 4) (zd ixD (zb 3) (zd zA (zb 6) (zd ixD (eL (fun ds=>.ok (.lst ds)) (za (eC (.int 26)) (za (eC (.int 3)) ze))) (eL kN (za (zb 2) ze))))))))) (zr (zb 4)))))
def zH:List D->R D:=zw 7 jl
theorem sc__law_letters:FnScope ["_law_number_here","_law_many","_law_few","_law_letters_here","_law_text","_law_j","_law_more"] ["_law_number_here","_law_many","_law_few"] (defScope (top 35)):=⟨rfl,rfl,rfl,by decide +kernel,rfl,by decide +kernel,by decide +kernel⟩
theorem qP (Df:DefIn K mg "_law_letters" (top 35) ["_law_number_here","_law_many","_law_few"])(B:Bl mg)(G:Gl0 K mg)(Cl:Cls K mg) :Own P w K mg base "_law_letters" 1 ["_law_number_here","_law_many","_law_few"] (spM K zH 3) :=
 Df.mir (k:=0) (Γ':=[.shr,.shr,.shr,.dead,.dead,.dead,.dead]) sc__law_letters (by decide) fun f cdv A outer s H E hr=>(zi (L2.st 3 sc__law_letters.nd (zf zD)) (zi (L2.st 4 sc__law_letters.nd (zf zD)) (zi (xO (Γ2:=[.shr,.shr,.shr,.own,.own,.shr,.own]) PassesOwn.leaving rfl (wX rfl B.range (zc (mn 1 .shr) zj)) (by decide) (yX (pgn 5 sc__law_letters.nd)) (by decide) (zi (L2.st 6 sc__law_letters.nd (zf (zp zP yh zB (zp wg ux uu (zp zu zN zO (mn 0 .shr) (zp wg ux uu zg (mn 5 .shr))) (zp zu zN zO zg (zp wg ux uu (mn 5 .shr) (mn 5 .shr)))) zg))) (zq (L2.st 4 sc__law_letters.nd (zf (zp zu zN zO (mn 4 .own) (zQ hr.u1 (mn 3 .own) (zp zP yh zB (mn 6 .own) (zQ hr.u1 (xm (zc zg (zc zg zj))) (yZ V7 z1x z2u (by exact rfl) B.int Boot.«int» (zc (mn 2 .shr) zj)))))))))) rfl) (zq (zE (mvn 4))))))
def YD:Tn->R Fl:=(zh (zl 2 (eL (fun ds=>.ok (.lst ds)) ze)) (zh (yJ (iL wC (za (zd zA (eL zk (za (zb 0) (za (eC (.int 3)) ze))) (eC (.int 10))) ze)) (.one 3) (zh (zl 4 (eL zk (za (zb 0) (za (zd zy (eC (.int 20)) (zb 3)) ze)))) (zh (zl 5 (zd zy (eC (.int 2)) (zd zA (zb 4) (eC (.int 3))))) (zh (zl 6 (eL zH (za (zd zC (zb 4) (eC (.int 12))) (za (zb 5) (za (zb 1) ze))))) (zh (zl 7 (zd zy (eC (.int 1)) (zd zA (zd zC (zb 4) (eC (.int 3))) (zd uJ (zb 5) (eC (.int 1)))))) (zh (zl 8 (zd zy (zd zy (eSl (zb 6) yT (yb (zb 7))) (zd ixD (eC (.str "-=-")) (zd zA (zd zC (zb 4) (eC (.int 6))) (eC (.int 3))))) (eSl (zb 6) (yb (zb 7)) yT))) (sIf (zm (zd (eqR false) (eL yy (za (yE [none,some 8] (zZ (zb 2)) (.one 0) (zm (zd (eqR false) (eUn (vZ "=" "-") (zb 0)) (eUn (vZ "=" "-") (zb 1)))) (ya (zb 0))) ze)) (eC (.int 0)))) (wN 2 (ya (zb 8))) zx))))))) (zr (zb 2))))
def yP:List D->R D:=zw 9 YD
theorem sc__law_book:FnScope ["_law_script","_law_few","_law_book_here","_law_k","_law_number_here","_law_many","_law_letters_here","_law_at","_law_joint"] ["_law_script","_law_few"] (defScope (top 36)):=⟨rfl,rfl,rfl,by decide +kernel,rfl,by decide +kernel,by decide +kernel⟩
theorem Z6 (Df:DefIn K mg "_law_book" (top 36) ["_law_script","_law_few"])(B:Bl mg)(G:Gl0 K mg)(Cl:Cls K mg)(O__law_number:Own P w K mg base "_law_number" 1 ["_law_script","_law_k"] (spM K zk 2))(O__law_letters:Own P w K mg base "_law_letters" 1 ["_law_number_here","_law_many","_law_few"] (spM K zH 3)):Own P w K mg base "_law_book" 2 ["_law_script","_law_few"] (spM K yP 2) :=
 Df.mirT (k:=1) (Γ':=[.shr,.shr,.dead,.dead,.dead,.dead,.dead,.dead,.dead]) sc__law_book (by decide) ⟨_,_,rfl,rfl⟩ fun f cdv A outer s H E hr=>(wy (MS.tt (L2.st 2 sc__law_book.nd (zf (xm zj)))) (wy (JW (Γ2:=[.shr,.shr,.own,.shr,.own,.own,.own,.own,.own]) PassesOwn.leaving rfl (wX rfl B.range (zc (zp zP yh zB (zt (O__law_number.mono (by decide)) hr (by exact rfl) zo (zc (mn 0 .shr) (zc zg zj))) zg) zj)) (by decide) (yX (pgn 3 sc__law_book.nd)) (by decide) (wy (MS.tt (L2.st 4 sc__law_book.nd (zf (zt (O__law_number.mono (by decide)) hr (by exact rfl) zo (zc (mn 0 .shr) (zc (zp zu zN zO zg (mn 3 .shr)) zj)))))) (wy (MS.tt (L2.st 5 sc__law_book.nd (zf (zp zu zN zO zg (zp zP yh zB (mn 4 .own) zg))))) (wy (MS.tt (L2.st 6 sc__law_book.nd (zf (zt (O__law_letters.mono (by decide)) hr (by exact rfl) zo (zc (zp ye yF zB (mn 4 .own) zg) (zc (mn 5 .own) (zc (mn 1 .shr) zj))))))) (wy (MS.tt (L2.st 7 sc__law_book.nd (zf (zp zu zN zO zg (zp zP yh zB (zp ye yF zB (mn 4 .own) zg) (zp uc jT zB (mn 5 .own) zg)))))) (wy (MS.tt (L2.st 8 sc__law_book.nd (zf (zp zu zN zO (zp zu zN zO (vK (mn 6 .own) wb (xi (mn 7 .own))) (zQ hr.u1 zD (zp zP yh zB (zp ye yF zB (mn 4 .own) zg) zg))) (vK (mn 6 .own) (xi (mn 7 .own)) wb))))) (Zk (z0I (WO (yD hr.u12) wR vj (VA zW w8 xZ (by exact rfl) B.len PySem.boot_len (U6 (N':=["_law_one","_law_joint"]) (fr:=[none,some 8]) rfl (xX sc__law_book.nofree (by decide +kernel)) (x9 (mn 2 .own)) (fun _ _ _ _=>(yX (pgn 0 (show List.Nodup (["_law_one","_law_joint"]:List Str) from by decide +kernel)))) (fun _ _ _ _=>(QN (WO (yD hr.u12) wR vj (ur (ME.p (mn 0 .brw)) (by decide) (by decide)) (ur (ME.p (mn 1 .brw)) (by decide) (by decide)) (zS _)))) (fun _ _ _ _=>(yj (mn 0 .brw))) (by decide) (by decide))) (ME.p zg) (zS _)) (Zk (MS.tt (app 2 (zf (yj (mn 8 .own)))))) (MSs.tt yf)))))))) rfl) (Zk (MS.tt (zE (mvn 2))))))
def YG:Tn->R Fl:=(zh (zl 2 (zd zy (eC (.int 1)) (zd zA (zb 0) (eC (.int 12))))) (zh (sIf (zm (zd (eqR false) (zd zA (zd zC (zb 0) (eC (.int 12))) (eC (.int 8))) (eC (.int 1)))) (zl 2 (zd zy (eC (.int 1)) (zd zA (zd zC (zb 0) (eC (.int 96))) (eC (.int 40))))) zx) (zh (zl 3 (eL zH (za (zd zC (zb 0) (eC (.int 100))) (za (zb 2) (za (zb 1) ze))))) (zh (zl 4 (zd zA (zd zC (zb 0) (eC (.int 17))) (zb 2))) (zh (sIf (zm (zd (eqR false) (zd zA (zd zC (zb 0) (eC (.int 5))) (eC (.int 4))) (eC (.int 1)))) (zl 3 (zd zy (zd zy (eSl (zb 3) yT (yb (zb 4))) (vd upD (zd ixD (zb 3) (zb 4)))) (eSl (zb 3) (yb (zd zy (zb 4) (eC (.int 1)))) yT))) zx) (zh (sIf (zm (zd (eqR false) (zd zA (zd zC (zb 0) (eC (.int 5))) (eC (.int 4))) (eC (.int 2)))) (zh (zl 5 (eC (.str "!\"'(),-./0123456789:;?---"))) (zh (zl 6 (ya (zd ixD (zb 5) (zd zA (zd zC (zb 0) (eC (.int 23))) (eL yy (za (zb 5) ze)))))) (zl 3 (zd zy (zd zy (eSl (zb 3) yT (yb (zb 4))) (zb 6)) (eSl (zb 3) (yb (zd zy (zb 4) (eC (.int 1)))) yT))))) zx) (zr (zb 3))))))))
def yQ:List D->R D:=zw 7 YG
theorem sc__law_word:FnScope ["_law_number_here","_law_few","_law_many","_law_word_here","_law_at","_law_signs","_law_sign"] ["_law_number_here","_law_few"] (defScope (top 37)):=⟨rfl,rfl,rfl,by decide +kernel,rfl,by decide +kernel,by decide +kernel⟩
theorem Zp (Df:DefIn K mg "_law_word" (top 37) ["_law_number_here","_law_few"])(B:Bl mg)(G:Gl0 K mg)(Cl:Cls K mg)(O__law_letters:Own P w K mg base "_law_letters" 1 ["_law_number_here","_law_many","_law_few"] (spM K zH 3)):Own P w K mg base "_law_word" 2 ["_law_number_here","_law_few"] (spM K yQ 2) :=
 Df.mir (k:=1) (Γ':=[.shr,.shr,.dead,.dead,.dead,.dead,.dead]) sc__law_word (by decide) fun f cdv A outer s H E hr=>(zi (L2.st 2 sc__law_word.nd (zf (zp zu zN zO zg (zp zP yh zB (mn 0 .shr) zg)))) (zi (xu (yr (yD hr.u12) wR vj (zp zP yh zB (zp ye yF zB (mn 0 .shr) zg) zg) zg (zS _)) (zq (L2.st 2 sc__law_word.nd (zf (zp zu zN zO zg (zp zP yh zB (zp ye yF zB (mn 0 .shr) zg) zg))))) yf) (zi (L2.st 3 sc__law_word.nd (zf (zt (O__law_letters.mono (by decide)) hr (by exact rfl) zo (zc (zp ye yF zB (mn 0 .shr) zg) (zc (mn 2 .own) (zc (mn 1 .shr) zj)))))) (zi (L2.st 4 sc__law_word.nd (zf (zp zP yh zB (zp ye yF zB (mn 0 .shr) zg) (mn 2 .own)))) (zi (xu (yr (yD hr.u12) wR vj (zp zP yh zB (zp ye yF zB (mn 0 .shr) zg) zg) zg (zS _)) (zq (L2.st 3 sc__law_word.nd (zf (zp zu zN zO (zp zu zN zO (vK (mn 3 .own) wb (xi (mn 4 .own))) (Ug (zQ hr.u1 (mn 3 .own) (mn 4 .own)))) (vK (mn 3 .own) (xi (zp zu zN zO (mn 4 .own) zg)) wb))))) yf) (zi (xu (yr (yD hr.u12) wR vj (zp zP yh zB (zp ye yF zB (mn 0 .shr) zg) zg) zg (zS _)) (UK (Γ':=[.shr,.shr,.own,.own,.own,.dead,.dead]) (zi (L2.st 5 sc__law_word.nd (zf zD)) (zi (L2.st 6 sc__law_word.nd (zf (yj (zQ hr.u1 (mn 5 .own) (zp zP yh zB (zp ye yF zB (mn 0 .shr) zg) (y1 zW w8 xZ (by exact rfl) B.len PySem.boot_len (zc (mn 5 .own) zj))))))) (zq (L2.st 3 sc__law_word.nd (zf (zp zu zN zO (zp zu zN zO (vK (mn 3 .own) wb (xi (mn 4 .own))) (mn 6 .own)) (vK (mn 3 .own) (xi (zp zu zN zO (mn 4 .own) zg)) wb))))))) rfl) yf) (zq (zE (mvn 3)))))))))
def Yg:Tn->R Fl:=(zh (sIf (zm (zd ltD (zd zA (zb 0) (eC (.int 4))) (eC (.int 2)))) (zr (eC (.str ""))) zx) (zh (sIf (zm (zd (eqR false) (zd zA (zb 0) (eC (.int 4))) (eC (.int 2)))) (zh (zl 1 (zd zy (eC (.int 1)) (zd zA (zd zC (zb 0) (eC (.int 4))) (eC (.int 60))))) (zh (zl 2 (yE [none] (iL Zl (za (zb 1) (za (zd zy (zd zy (zb 1) (eC (.int 1))) (zd zA (zd zC (zb 0) (eC (.int 240))) (eC (.int 3)))) ze))) (.one 0) (fun _=>.ok true) (eF3 "(" ")" (zb 0)))) (zr (eSm xW (eC (.str "")) (za (zb 2) ze))))) zx) (zh (zl 3 (eC (.str "-a(Z9.!/"))) (zr (zd zy (zd ixD (zb 3) (zd zA (zd zC (zb 0) (eC (.int 4))) (eC (.int 8)))) (zd ixD (zb 3) (zd zA (zd zC (zb 0) (eC (.int 32))) (eC (.int 8)))))))))
def yN:List D->R D:=zw 4 Yg
theorem sc__law_tail:FnScope ["_law_number_here","_law_first","_law_marks","_law_signs"] ["_law_number_here"] (defScope (top 38)):=⟨rfl,rfl,rfl,by decide +kernel,rfl,by decide +kernel,by decide +kernel⟩
theorem Zx (Df:DefIn K mg "_law_tail" (top 38) ["_law_number_here"])(B:Bl mg)(G:Gl0 K mg)(Cl:Cls K mg) :Own P w K mg base "_law_tail" 1 ["_law_number_here"] (spM K yN 1) :=
 Df.mir (k:=0) (Γ':=[.shr,.dead,.dead,.dead]) sc__law_tail (by decide) fun f cdv A outer s H E hr=>(zi (xu (yr kZ WU zB (zp zP yh zB (mn 0 .shr) zg) zg (zS _)) (zq (zE (zf zD))) yf) (zi (xu (yr (yD hr.u12) wR vj (zp zP yh zB (mn 0 .shr) zg) zg (zS _)) (zi (L2.st 1 sc__law_tail.nd (zf (zp zu zN zO zg (zp zP yh zB (zp ye yF zB (mn 0 .shr) zg) zg)))) (zi (stC 2 (N':=["_law_one"]) (fr:=[none]) sc__law_tail.nd rfl (xX sc__law_tail.nofree (by decide +kernel)) (Z5 rfl B.range (zc (mn 1 .own) (zc (zp zu zN zO (zp zu zN zO (mn 1 .own) zg) (zp zP yh zB (zp ye yF zB (mn 0 .shr) zg) zg)) zj))) (fun _ _ _ _=>(yX (pgn 0 (show List.Nodup (["_law_one"]:List Str) from by decide +kernel)))) (fun _ _ _ _=>vk) (fun _ _ _ _=>(z3s (by decide) (mn 0 .shr))) (by decide)) (zq (zE (zf (Yv PySem.F.plainAttrs_str PySem.F.slot_str_join PySem.F.type_str_join jF XC XH zD (zc (mn 2 .own) zj))))))) yf) (zi (L2.st 3 sc__law_tail.nd (zf zD)) (zq (zE (zf (zp zu zN zO (zQ hr.u1 (mn 3 .own) (zp zP yh zB (zp ye yF zB (mn 0 .shr) zg) zg)) (zQ hr.u1 (mn 3 .own) (zp zP yh zB (zp ye yF zB (mn 0 .shr) zg) zg)))))))))
def ZW:Tn->R Fl:=(zh (zl 2 (eC (.int 0))) (zh (yJ (zZ (zb 1)) (.one 3) (zh (zl 4 (yE [none,some 3] (zZ (zd ixD (zb 0) (eC (.int 2)))) (.one 0) (zm (zd (eqR false) (zd ixD (zb 0) (eC (.int 0))) (zb 1))) (ya (zd ixD (zb 0) (eC (.int 1)))))) (zl 2 (zd zy (zb 2) (zd ixD (zd zy (zb 4) (eL (fun ds=>.ok (.lst ds)) (za (zd ixD (zb 0) (eC (.int 0))) ze))) (eC (.int 0))))))) (zr (zb 2))))
def zR:List D->R D:=zw 5 ZW
theorem sc__law_span:FnScope ["_law_face_here","_law_text","_law_span_here","_law_sign","_law_known"] ["_law_face_here","_law_text"] (defScope (top 39)):=⟨rfl,rfl,rfl,by decide +kernel,rfl,by decide +kernel,by decide +kernel⟩
theorem ZQ (Df:DefIn K mg "_law_span" (top 39) ["_law_face_here","_law_text"])(B:Bl mg)(G:Gl0 K mg)(Cl:Cls K mg) :Own P w K mg base "_law_span" 1 ["_law_face_here","_law_text"] (spM K zR 2) :=
 Df.mir (k:=0) (Γ':=[.shr,.shr,.dead,.dead,.dead]) sc__law_span (by decide) fun f cdv A outer s H E hr=>(zi (L2.st 2 sc__law_span.nd (zf zg)) (zi (xO (Γ2:=[.shr,.shr,.own,.shr,.own]) PassesOwn.leaving rfl (x9 (mn 1 .shr)) (by decide) (yX (pgn 3 sc__law_span.nd)) (by decide) (zi (stC 4 (N':=["_law_pair","_law_sign"]) (fr:=[none,some 3]) sc__law_span.nd rfl (xX sc__law_span.nofree (by decide +kernel)) (x9 (zQ hr.u1 (mn 0 .shr) zg)) (fun _ _ _ _=>(yX (pgn 0 (show List.Nodup (["_law_pair","_law_sign"]:List Str) from by decide +kernel)))) (fun _ _ _ _=>(Zw (yr (yD hr.u12) wR vj (zQ hr.u1 (mn 0 .shr) zg) (mn 1 .shr) (zS _)))) (fun _ _ _ _=>(yj (zQ hr.u1 (mn 0 .shr) zg))) (by decide)) (zq (L2.st 2 sc__law_span.nd (zf (zp zu zN zO (mn 2 .own) (zQ hr.u1 (zp zu zN zO (mn 4 .own) (xm (zc (zQ hr.u1 (mn 0 .shr) zg) zj))) zg)))))) rfl) (zq (zE (mvn 2)))))
def YV:Tn->R Fl:=(zh (zl 4 (eL (fun ds=>.ok (.lst ds)) ze)) (zh (yJ (zZ (zb 3)) (.many [5,6]) (zh (zl 7 (eL yl (za (eL yk (za (zb 1) ze)) (za (eL yn (za (zb 2) ze)) (za (zb 5) ze))))) (zh (zl 8 (yE [none] (zZ (zb 7)) (.one 0) (fun _=>.ok true) (ya (zd ixD (zb 0) (eC (.int 0)))))) (zh (WY 8 (zd zy (zd ixD (zb 8) (eUn V2 (eC (.int 1)))) (zb 6)) (eUn V2 (eC (.int 1)))) (yJ (iL wC (za (eL yy (za (zb 7) ze)) ze)) (.one 9) (wN 4 (ya (eL (fun ds=>.ok (.tup ds)) (za (zd ixD (zb 8) (zb 9)) (za (eL zR (za (zb 0) (za (zd ixD (zb 8) (zb 9)) ze))) (za (zd ixD (zd ixD (zb 7) (zb 9)) (eC (.int 1))) ze))))))))))) (zr (zb 4))))
def xb:List D->R D:=zw 10 YV
theorem sc__law_due:FnScope ["_law_face_here","_law_book_here","_law_rules_here","_law_pairs","_law_due_here","_law_word_here","_law_tail_here","_law_parts","_law_texts","_law_k"] ["_law_face_here","_law_book_here","_law_rules_here","_law_pairs"] (defScope (top 40)):=⟨rfl,rfl,rfl,by decide +kernel,rfl,by decide +kernel,by decide +kernel⟩
theorem ZX (Df:DefIn K mg "_law_due" (top 40) ["_law_face_here","_law_book_here","_law_rules_here","_law_pairs"])(B:Bl mg)(G:Gl0 K mg)(Cl:Cls K mg)(O_parted:Own P w K mg base "parted" 7 ["book","rules","word"] (spM K yl 3))(O__law_span:Own P w K mg base "_law_span" 1 ["_law_face_here","_law_text"] (spM K zR 2)):Own P w K mg base "_law_due" 8 ["_law_face_here","_law_book_here","_law_rules_here","_law_pairs"] (spM K xb 4) :=
 Df.mir (k:=7) (Γ':=[.shr,.shr,.shr,.shr,.dead,.dead,.dead,.dead,.dead,.dead]) sc__law_due (by decide) fun f cdv A outer s H E hr=>(zi (L2.st 4 sc__law_due.nd (zf (xm zj))) (zi (xO (Γ2:=[.shr,.shr,.shr,.shr,.own,.shr,.shr,.own,.own,.dead]) PassesOwn.leaving rfl (x9 (mn 3 .shr)) (by decide) (v7 rfl (yu (pgn 5 sc__law_due.nd) (yu (pgn 6 sc__law_due.nd) vo))) (by decide) (zi (L2.st 7 sc__law_due.nd (zf (zt (O_parted.mono (by decide)) hr (by exact rfl) zo (zc (yZ we j9 j7 (by exact rfl) B.list Boot.«list» (zc (mn 1 .shr) zj)) (zc (yZ (vf (by exact rfl)) j8 j4 (by exact rfl) B.dict Boot.«dict» (zc (mn 2 .shr) zj)) (zc (mn 5 .shr) zj)))))) (zi (stC 8 (N':=["_law_part"]) (fr:=[none]) sc__law_due.nd rfl (xX sc__law_due.nofree (by decide +kernel)) (x9 (mn 7 .own)) (fun _ _ _ _=>(yX (pgn 0 (show List.Nodup (["_law_part"]:List Str) from by decide +kernel)))) (fun _ _ _ _=>vk) (fun _ _ _ _=>(yj (zQ hr.u1 (mn 0 .brw) zg))) (by decide)) (zi (put 8 (zf (zp zu zN zO (zQ hr.u1 (mn 8 .own) (VX zg)) (mn 6 .shr))) (VX zg)) (zq (xO (Γ2:=[.shr,.shr,.shr,.shr,.own,.shr,.shr,.own,.own,.shr]) PassesOwn.leaving rfl (wX rfl B.range (zc (y1 zW w8 xZ (by exact rfl) B.len PySem.boot_len (zc (mn 7 .own) zj)) zj)) (by decide) (yX (pgn 9 sc__law_due.nd)) (by decide) (zq (app 4 (zf (yj (yx (zc (zQ hr.u1 (mn 8 .own) (mn 9 .shr)) (zc (zt (O__law_span.mono (by decide)) hr (by exact rfl) zo (zc (mn 0 .shr) (zc (zQ hr.u1 (mn 8 .own) (mn 9 .shr)) zj))) (zc (zQ hr.u1 (zQ hr.u1 (mn 7 .own) (mn 9 .shr)) zg) zj)))))))) rfl))))) rfl) (zq (zE (mvn 4)))))
def Yw:Tn->R Fl:=(zh (sIf (bOr (xk (zm (eUn (xD "list") (zb 0)))) (zm (zd (eqR true) (eL yy (za (zb 0) ze)) (eL yy (za (zb 1) ze))))) (zr (eC (.bl false))) zx) (zh (yJ (zZ (zb 0)) (.one 2) (zh (sIf (bOr (xk (zm (eUn (xD "tuple") (zb 2)))) (bOr (zm (zd (eqR true) (eL yy (za (zb 2) ze)) (eC (.int 3)))) (xk (zm (eUn (xD "str") (zd ixD (zb 2) (eC (.int 0)))))))) (zr (eC (.bl false))) zx) (sIf (bOr (xk (zm (eL yc (za (zd ixD (zb 2) (eC (.int 1))) ze)))) (xk (zm (eUn (xD "str") (zd ixD (zb 2) (eC (.int 2))))))) (zr (eC (.bl false))) zx))) (zr (zd (eqR false) (zb 0) (zb 1)))))
def yS:List D->R D:=zw 3 Yw
theorem sc__law_told:FnScope ["_law_found","_law_due_here","_law_piece"] ["_law_found","_law_due_here"] (defScope (top 41)):=⟨rfl,rfl,rfl,by decide +kernel,rfl,by decide +kernel,by decide +kernel⟩
theorem Za (Df:DefIn K mg "_law_told" (top 41) ["_law_found","_law_due_here"])(B:Bl mg)(G:Gl0 K mg)(Cl:Cls K mg)(O__law_whole:Own P w K mg base "_law_whole" 1 ["_law_found"] (spM K yc 1)):Own P w K mg base "_law_told" 2 ["_law_found","_law_due_here"] (spM K yS 2) :=
 Df.mir (k:=1) (Γ':=[.shr,.shr,.dead]) sc__law_told (by decide) fun f cdv A outer s H E hr=>(zi (xu (MW.mt (qL (wu (xq (vg (T:="list") (by decide) rfl B.isinstance (xS (v:=.ty "list") rfl B.list Boot.«list» rfl) (mn 0 .shr)))) (uj (yr (wU hr.u12) wR vj (y1 zW w8 xZ (by exact rfl) B.len PySem.boot_len (zc (mn 0 .shr) zj)) (y1 zW w8 xZ (by exact rfl) B.len PySem.boot_len (zc (mn 1 .shr) zj)) (zS _))))) (zq (zE (zf vz))) yf) (zi (xO (Γ2:=[.shr,.shr,.shr]) PassesOwn.leaving rfl (x9 (mn 0 .shr)) (by decide) (yX (pgn 2 sc__law_told.nd)) (by decide) (zi (xu (MW.mt (qL (wu (xq (vg (T:="tuple") (by decide) rfl B.isinstance (xS (v:=.ty "tuple") rfl B.tuple Boot.«tuple» rfl) (mn 2 .shr)))) (qL (yr (wU hr.u12) wR vj (y1 zW w8 xZ (by exact rfl) B.len PySem.boot_len (zc (mn 2 .shr) zj)) zg (zS _)) (uj (wu (xq (vg (T:="str") (by decide) rfl B.isinstance (xS (v:=.ty "str") rfl B.str Boot.«str» rfl) (zQ hr.u1 (mn 2 .shr) zg)))))))) (zq (zE (zf vz))) yf) (zq (xu (MW.mt (qL (wu (xq (zt (O__law_whole.mono (by decide)) hr (by exact rfl) zo (zc (zQ hr.u1 (mn 2 .shr) zg) zj)))) (uj (wu (xq (vg (T:="str") (by decide) rfl B.isinstance (xS (v:=.ty "str") rfl B.str Boot.«str» rfl) (zQ hr.u1 (mn 2 .shr) zg))))))) (zq (zE (zf vz))) yf))) rfl) (zq (zE (zf (wL (yD hr.u12) wR vj (mn 0 .shr) (mn 1 .shr) (zS _)))))))
theorem VN:(["_law_face_here","_law_book_here","_law_rules_here","_law_pairs","_law_number_here","_law_odd","_law_at","error"]:List Str).Nodup:=by decide +kernel
def xE:Str->Option D:=fun m=>if m="BadWord" then some (.bl true) else none
def qt:List Stmt:=match (defBody (top 42)).getD 2 (.Pass ⟨0,0,0,0⟩) with
 | .Try _ [.ExceptHandler _ _ b _] _ _ _=>b
 | _=>[]
abbrev cxR (P:Program)(w:World)(K:PySem.W.Frag)(mg:Str->Option Value)(base:Heap)(f:Addr)(cdv:Value)(A:Around)(outer:List Env)(s:Shared)(H:Hp)(E:XK):Cx:=xF (cxx P w) P w K mg base ["_law_face_here","_law_book_here","_law_rules_here","_law_pairs","_law_number_here","_law_odd","_law_at","error"] "_law_refused" (defScope (top 42)) f cdv A outer s H E
theorem ud (Cl:Cls K mg)(B:Bl mg)(f:Addr)(cdv:Value)(A:Around)(outer:List Env)(s:Shared)(H:Hp)(E:XK) :
  ∃ CS,(cxR P w K mg base f cdv A outer s H E).mg "BadWord"=some (.ref CS)/\Suite (cxR P w K mg base f cdv A outer s H E) CS 7 qt xE:=by
 obtain ⟨CS,CT,hS,eT,iT,mT,kV,kS,xT⟩:=Cl.ex
 refine ⟨CT,mT,fun m d hg C hC=>?_⟩
 have hm:m="BadWord"/\d=.bl true:=by
  unfold xE at hg
  split at hg
  ·exact ⟨by assumption,(Option.some.inj hg).symm⟩
  ·cases hg
 obtain ⟨rfl,rfl⟩:=hm
 have hCT:C=CT:=by
  have h1:PySem.W.nsIn K mainGlobals "BadWord"=some (some (.ref C)):=hC.ns
  rw [eT.ns] at h1
  cases h1
  rfl
 subst hCT
 refine ⟨xT,_,fun e oe=>Wo (QW (VU (UL rfl B.isinstance (pv 7) (Zm (v:=.ref CS) rfl hS rfl)) (Qy (UL rfl B.isinstance (pv 7) (xS (v:=.ty "ValueError") rfl Cl.ve Boot.«ValueError» rfl))))),fun e oe Z σ H1 hl hcls hn hσ hQ=>?_⟩
 have mem:(e,oe)∈((cxR P w K mg base f cdv A outer s H E).within e oe).pn:=tJ _ (sN.mpr rfl)
 exact z1h (z4E (fun Q h=>Um mem hcls iT (.ref _) kS hσ h) (Um mem hcls iT (.ty _) kV hσ (hQ _ _ (Same.refl _) ⟨rfl,rfl⟩)))
def jG:Tn->R Fl:=(zh (zl 5 (zd ixD (eL (fun ds=>.ok (.lst ds)) (za (eC (.str "")) (za (zd jb (eC (.str "a")) (eC (.int 41))) (za (eC (.str "a b")) (za (eC .non) (za (eC (.int 5)) (za (eL Qo (za (eC (.str "a")) ze)) (za (eC (.str "a\n")) (za (eC (.str "a_b")) (za (eL (fun ds=>.ok (.tup ds)) (za (eC (.str "a")) ze)) (za (eC (.bl true)) ze))))))))))) (zd zA (zb 4) (eC (.int 10))))) (zh (zl 6 (zd zA (zd zC (zb 4) (eC (.int 10))) (zd zy (eL yy (za (zb 3) ze)) (eC (.int 1))))) (zh (jL zX (za (zb 0) (za (eL yk (za (zb 1) ze)) (za (eL yn (za (zb 2) ze)) (za (zd zy (zd zy (eSl (zb 3) yT (yb (zb 6))) (eL (fun ds=>.ok (.lst ds)) (za (eL (fun ds=>.ok (.tup ds)) (za (zb 5) (za (eC (.str "")) ze))) ze))) (eSl (zb 3) (yb (zb 6)) yT)) ze)))) xE) (zr (eC (.bl false))))))
def yi:List D->R D:=zw 8 jG
theorem sc__law_refused:FnScope ["_law_face_here","_law_book_here","_law_rules_here","_law_pairs","_law_number_here","_law_odd","_law_at","error"] ["_law_face_here","_law_book_here","_law_rules_here","_law_pairs","_law_number_here"] (defScope (top 42)):=⟨rfl,rfl,rfl,by decide +kernel,rfl,by decide +kernel,by decide +kernel⟩
theorem qS (Df:DefIn K mg "_law_refused" (top 42) ["_law_face_here","_law_book_here","_law_rules_here","_law_pairs","_law_number_here"])(B:Bl mg)(G:Gl0 K mg)(Cl:Cls K mg)(O_pieces_of:Own P w K mg base "pieces_of" 8 ["face","book","rules","pairs"] (spM K zX 4)):Own P w K mg base "_law_refused" 9 ["_law_face_here","_law_book_here","_law_rules_here","_law_pairs","_law_number_here"] (spM K yi 5) :=
 Df.mir (k:=8) (Γ':=[.shr,.shr,.shr,.shr,.shr,.dead,.dead,.dead]) sc__law_refused (by decide) fun f cdv A outer s H E hr=>(zi (L2.st 5 sc__law_refused.nd (zf (zQ hr.u1 (xm (zc zD (zc (zp Jx z1g z19 zD zg) (zc zD (zc qy (zc zg (zc (JY (zc zD zj)) (zc zD (zc zD (zc (yx (zc zD zj)) (zc vz zj))))))))))) (zp zP yh zB (mn 4 .shr) zg)))) (zi (L2.st 6 sc__law_refused.nd (zf (zp zP yh zB (zp ye yF zB (mn 4 .shr) zg) (zp zu zN zO (y1 zW w8 xZ (by exact rfl) B.len PySem.boot_len (zc (mn 3 .shr) zj)) zg)))) (zi (QD (O_pieces_of.mono (by decide)) sc__law_refused.nd hr rfl (zc (mn 0 .shr) (zc (yZ we j9 j7 (by exact rfl) B.list Boot.«list» (zc (mn 1 .shr) zj)) (zc (yZ (vf (by exact rfl)) j8 j4 (by exact rfl) B.dict Boot.«dict» (zc (mn 2 .shr) zj)) (zc (zp zu zN zO (zp zu zN zO (vK (mn 3 .shr) wb (xi (mn 6 .own))) (xm (zc (yx (zc (mn 5 .own) (zc zD zj))) zj))) (vK (mn 3 .shr) (xi (mn 6 .own)) wb)) zj)))) rfl rfl rfl (show 7<8 by decide) rfl (ud Cl B f cdv A outer s H E)) (zq (zE (zf vz))))))
def z0r:Tn->R Fl:=(zh (zl 1 (zd (eqR false) (zd zA (eL zk (za (zb 0) (za (eC (.int 4)) ze))) (eC (.int 2))) (eC (.int 1)))) (zh (zl 2 (eL yR (za (zb 0) (za (eC (.int 2)) ze)))) (zh (zl 3 (eL yB (za (zb 0) ze))) (zh (zl 4 (eL yP (za (zb 0) (za (zb 1) ze)))) (zh (zl 5 (eL (fun ds=>.ok (.lst ds)) ze)) (zh (yJ (iL wC (za (zd zy (eC (.int 1)) (zd zA (eL zk (za (zb 0) (za (eC (.int 5)) ze))) (eC (.int 6)))) ze)) (.one 6) (zh (zl 7 (eL zk (za (zb 0) (za (zd zy (eC (.int 30)) (zb 6)) ze)))) (wN 5 (eL (fun ds=>.ok (.tup ds)) (za (eL yQ (za (zb 7) (za (zb 1) ze))) (za (eL yN (za (eL zk (za (zb 0) (za (zd zy (eC (.int 40)) (zb 6)) ze))) ze)) ze)))))) (zh (zl 8 (eL (fun ds=>.ok (.lst ds)) (za (eL yk (za (zb 4) ze)) (za (eL yn (za (zb 3) ze)) (za (eL yk (za (zb 5) ze)) ze))))) (zh (zl 9 (eL wq (za (zb 2) (za (zd ixD (zb 8) (eC (.int 1))) ze)))) (zh (zl 10 (eL (fun ds=>.ok (.dic [.inr "blank",.inr "dash"] ds)) (za (ya (zd ixD (zb 2) (eC (.int 1)))) (za (eL zR (za (zb 2) (za (eC (.str "-")) ze))) ze)))) (zh (yJ (zZ (eL (fun ds=>.ok (.tup ds)) (za (eC (.str "width")) (za (eC (.str "part")) (za (eC (.str "twin")) (za (eC (.str "over")) ze)))))) (.one 11) (vy 10 (ya (zd ixD (zb 3) (zb 11))) (zb 11))) (zh (Qz (xk (zm (eUn (xD "dict") (zb 9)))) (zm (zd (eqR true) (zb 9) (zb 10))) yc 9) (zh (zl 12 (eL zX (za (zb 2) (za (zd ixD (zb 8) (eC (.int 0))) (za (zd ixD (zb 8) (eC (.int 1))) (za (zd ixD (zb 8) (eC (.int 2))) ze)))))) (zh (sIf (xk (zm (eL yS (za (zb 12) (za (eL xb (za (zb 2) (za (zb 4) (za (zb 3) (za (zb 5) ze))))) ze))))) (zr (eC (.bl false))) zx) (zh (sIf (zm (zd (eqR true) (eSm xW (eC (.str "")) (za (yE [none] (zZ (zb 12)) (.one 0) (fun _=>.ok true) (ya (zd ixD (zb 0) (eC (.int 0))))) ze)) (eSm xW (eC (.str "")) (za (yE [none,none] (zZ (zb 5)) (.many [0,1]) (fun _=>.ok true) (zd zy (zb 0) (zb 1))) ze)))) (zr (eC (.bl false))) zx) (zh (sIf (xk (zm (eL yi (za (zb 2) (za (zb 4) (za (zb 3) (za (zb 5) (za (eL zk (za (zb 0) (za (eC (.int 50)) ze))) ze)))))))) (zr (eC (.bl false))) zx) (zr (zd Z8 (zb 8) (eL (fun ds=>.ok (.lst ds)) (za (zb 4) (za (zb 3) (za (zb 5) ze)))))))))))))))))))))
def F_law:List D->R D:=zw 13 z0r
theorem sc_law:FnScope ["_law_script","_law_few","_law_face_here","_law_rules_here","_law_book_here","_law_pairs","_law_k","_law_number_here","_law_handed","_law_lay","_law_due_here","_law_name","_law_found"] ["_law_script"] (defScope (top 43)):=⟨rfl,rfl,rfl,by decide +kernel,rfl,by decide +kernel,by decide +kernel⟩
theorem UW (B:Bl mg)(G:Gl0 K mg)(Cl:Cls K mg)(O__law_face:Own P w K mg base "_law_face" 2 ["_law_script","_law_k"] (spM K yR 2))(O__law_rules:Own P w K mg base "_law_rules" 2 ["_law_script"] (spM K yB 1))(O__law_book:Own P w K mg base "_law_book" 2 ["_law_script","_law_few"] (spM K yP 2))(O_lay_of:Own P w K mg base "lay_of" 2 ["face","rules"] (spM K wq 2))(O_pieces_of:Own P w K mg base "pieces_of" 8 ["face","book","rules","pairs"] (spM K zX 4))(O__law_number:Own P w K mg base "_law_number" 1 ["_law_script","_law_k"] (spM K zk 2))(O__law_span:Own P w K mg base "_law_span" 1 ["_law_face_here","_law_text"] (spM K zR 2))(O__law_told:Own P w K mg base "_law_told" 2 ["_law_found","_law_due_here"] (spM K yS 2))(O__law_refused:Own P w K mg base "_law_refused" 9 ["_law_face_here","_law_book_here","_law_rules_here","_law_pairs","_law_number_here"] (spM K yi 5))(O__law_due:Own P w K mg base "_law_due" 8 ["_law_face_here","_law_book_here","_law_rules_here","_law_pairs"] (spM K xb 4))(O__law_word:Own P w K mg base "_law_word" 2 ["_law_number_here","_law_few"] (spM K yQ 2))(O__law_tail:Own P w K mg base "_law_tail" 1 ["_law_number_here"] (spM K yN 1))(O__law_whole:Own P w K mg base "_law_whole" 1 ["_law_found"] (spM K yc 1)):∀ (f:Addr) (cdv:Value) (A:Around) (outer:List Env) (s:Shared) (H:Hp) (E:XK),Room 9 (A.deeper (envOfC "law" (defScope (top 43)) s.heap.objs.size f cdv))->MSs (xF (cxx P w) P w K mg base ["_law_script","_law_few","_law_face_here","_law_rules_here","_law_book_here","_law_pairs","_law_k","_law_number_here","_law_handed","_law_lay","_law_due_here","_law_name","_law_found"] "law" (defScope (top 43)) f cdv A outer s H E) E [] (kj 13 1) (defBody (top 43)) z0r [.shr,.dead,.dead,.dead,.dead,.dead,.dead,.dead,.dead,.dead,.dead,.dead,.dead] :=
 fun f cdv A outer s H E hr=>(zi (L2.st 1 sc_law.nd (zf (wL (yD hr.u12) wR vj (zp zP yh zB (zt (O__law_number.mono (by decide)) hr (by exact rfl) zo (zc (mn 0 .shr) (zc zg zj))) zg) zg (zS _)))) (zi (L2.st 2 sc_law.nd (zf (zt (O__law_face.mono (by decide)) hr (by exact rfl) zo (zc (mn 0 .shr) (zc zg zj))))) (zi (L2.st 3 sc_law.nd (zf (zt (O__law_rules.mono (by decide)) hr (by exact rfl) zo (zc (mn 0 .shr) zj)))) (zi (L2.st 4 sc_law.nd (zf (zt (O__law_book.mono (by decide)) hr (by exact rfl) zo (zc (mn 0 .shr) (zc (mn 1 .own) zj))))) (zi (L2.st 5 sc_law.nd (zf (xm zj))) (zi (xO (Γ2:=[.shr,.own,.own,.own,.own,.own,.shr,.own,.dead,.dead,.dead,.dead,.dead]) PassesOwn.leaving rfl (wX rfl B.range (zc (zp zu zN zO zg (zp zP yh zB (zt (O__law_number.mono (by decide)) hr (by exact rfl) zo (zc (mn 0 .shr) (zc zg zj))) zg)) zj)) (by decide) (yX (pgn 6 sc_law.nd)) (by decide) (zi (L2.st 7 sc_law.nd (zf (zt (O__law_number.mono (by decide)) hr (by exact rfl) zo (zc (mn 0 .shr) (zc (zp zu zN zO zg (mn 6 .shr)) zj))))) (zq (app 5 (zf (yx (zc (zt (O__law_word.mono (by decide)) hr (by exact rfl) zo (zc (mn 7 .own) (zc (mn 1 .own) zj))) (zc (zt (O__law_tail.mono (by decide)) hr (by exact rfl) zo (zc (zt (O__law_number.mono (by decide)) hr (by exact rfl) zo (zc (mn 0 .shr) (zc (zp zu zN zO zg (mn 6 .shr)) zj))) zj)) zj))))))) rfl) (zi (L2.st 8 sc_law.nd (zf (xm (zc (yZ we j9 j7 (by exact rfl) B.list Boot.«list» (zc (mn 4 .own) zj)) (zc (yZ (vf (by exact rfl)) j8 j4 (by exact rfl) B.dict Boot.«dict» (zc (mn 3 .own) zj)) (zc (yZ we j9 j7 (by exact rfl) B.list Boot.«list» (zc (mn 5 .own) zj)) zj)))))) (zi (L2.st 9 sc_law.nd (zf (zt (O_lay_of.mono (by decide)) hr (by exact rfl) zo (zc (mn 2 .own) (zc (zQ hr.u1 (mn 8 .own) zg) zj))))) (zi (L2.st 10 sc_law.nd (zf (XQ (xU (key:=.inr "blank") wx (yj (zQ hr.u1 (mn 2 .own) zg)) (xU (key:=.inr "dash") wx (zt (O__law_span.mono (by decide)) hr (by exact rfl) zo (zc (mn 2 .own) (zc zD zj))) Wh)) (by decide)))) (zi (xO (Γ2:=[.shr,.own,.own,.own,.own,.own,.dead,.dead,.own,.own,.own,.shr,.dead]) PassesOwn.leaving rfl (x9 (yx (zc zD (zc zD (zc zD (zc zD zj)))))) (by decide) (yX (pgn 11 sc_law.nd)) (by decide) (zq (KH 10 hr.u1 (zf (yj (zQ hr.u1 (mn 3 .own) (mn 11 .shr)))) (mn 11 .shr))) rfl) (zi (z2s 9 hr.u12 (wu (xq (vg (T:="dict") (by decide) rfl B.isinstance (xS (v:=.ty "dict") rfl B.dict Boot.«dict» rfl) (mn 9 .own)))) (yr (wU hr.u12) wR vj (mn 9 .own) (mn 10 .own) (zS _)) (WL (N':=["_law_name","_law_lay"]) (fr:=[none,some 9]) rfl (xX sc_law.nofree (by decide +kernel)) (KY (pv 9)) (fun _ _ _ _=>pgn 0 (show List.Nodup (["_law_name","_law_lay"]:List Str) from by decide +kernel)) (fun _ _ _ _=>XM (UB (Qa (QU (O__law_whole.mono (by decide)) hr (by exact rfl) vR (vm (Wu hr.u1 (pv 1) (pv 0) (fun _ _=>rfl)) qu))))) (fun _ _ _ _=>(pv 0)))) (zi (L2.st 12 sc_law.nd (zf (zt (O_pieces_of.mono (by decide)) hr (by exact rfl) zo (zc (mn 2 .own) (zc (zQ hr.u1 (mn 8 .own) zg) (zc (zQ hr.u1 (mn 8 .own) zg) (zc (zQ hr.u1 (mn 8 .own) zg) zj))))))) (zi (xu (wu (xq (zt (O__law_told.mono (by decide)) hr (by exact rfl) zo (zc (mn 12 .own) (zc (zt (O__law_due.mono (by decide)) hr (by exact rfl) zo (zc (mn 2 .own) (zc (mn 4 .own) (zc (mn 3 .own) (zc (mn 5 .own) zj))))) zj))))) (zq (zE (zf vz))) yf) (zi (xu (yr (wU hr.u12) wR vj (Yv PySem.F.plainAttrs_str PySem.F.slot_str_join PySem.F.type_str_join jF XC XH zD (zc (vU (N':=["_law_piece"]) (fr:=[none]) rfl (xX sc_law.nofree (by decide +kernel)) (x9 (mn 12 .own)) (fun _ _ _ _=>(yX (pgn 0 (show List.Nodup (["_law_piece"]:List Str) from by decide +kernel)))) (fun _ _ _ _=>vk) (fun _ _ _ _=>(yj (zQ hr.u1 (mn 0 .brw) zg))) (by decide) (by decide)) zj)) (Yv PySem.F.plainAttrs_str PySem.F.slot_str_join PySem.F.type_str_join jF XC XH zD (zc (vU (N':=["_law_word_here","_law_tail_here"]) (fr:=[none,none]) rfl (xX sc_law.nofree (by decide +kernel)) (x9 (mn 5 .own)) (fun _ _ _ _=>(v7 rfl (yu (pgn 0 (show List.Nodup (["_law_word_here","_law_tail_here"]:List Str) from by decide +kernel)) (yu (pgn 1 (show List.Nodup (["_law_word_here","_law_tail_here"]:List Str) from by decide +kernel)) vo)))) (fun _ _ _ _=>vk) (fun _ _ _ _=>(zp zu zN zO (mn 0 .brw) (mn 1 .brw))) (by decide) (by decide)) zj)) (zS _)) (zq (zE (zf vz))) yf) (zi (xu (wu (xq (zt (O__law_refused.mono (by decide)) hr (by exact rfl) zo (zc (mn 2 .own) (zc (mn 4 .own) (zc (mn 3 .own) (zc (mn 5 .own) (zc (zt (O__law_number.mono (by decide)) hr (by exact rfl) zo (zc (mn 0 .shr) (zc zg zj))) zj)))))))) (zq (zE (zf vz))) yf) (zq (zE (zf (wL (z1V hr.u12) z4d z3Q (mn 8 .own) (xm (zc (mn 4 .own) (zc (mn 3 .own) (zc (mn 5 .own) zj)))) (zS _))))))))))))))))))))
end
end K09
namespace K09
open PySem PyProof.Rows L2
def S (l:List Nat):Str:=⟨l.toArray⟩
theorem xw (l:List Nat):(S l).length=l.length:=sG
theorem u0 (l:List Nat):(S l).cps.toList=l:=List.toList_toArray
theorem Yq (z:Str):z=S z.cps.toList:=by
 obtain ⟨a⟩:=z
 show (⟨a⟩:Str)=⟨a.toList.toArray⟩
 rw [Array.toArray_toList]
theorem Yx (a b:List Nat):S a++S b=S (a++b):=by
 rw [Yq (S a++S b),Wi,u0,u0]
theorem z0d {a b:List Nat}(h:S a=S b):a=b:=by
 have:=congrArg (fun z:Str=>z.cps.toList) h
 rw [u0,u0] at this
 exact this
theorem z2J (a b:List Nat):(S a==S b)=decide (a=b):=by
 by_cases h:a=b
 ·subst h; simp
 ·rw [decide_eq_false h]
  exact beq_false_of_ne fun z=>h (z0d z)
theorem uT (x:Str):∀ ys:List Str,Str.join "" (x::ys)=x++Str.join "" ys
 | []=>(Str.append_empty x).symm
 | y::ys=>by
  show x++""++Str.join "" (y::ys)=x++Str.join "" (y::ys)
  have:(x++("":Str))=x:=Str.append_empty x
  rw [this]
def one (c:Nat):Str:=S [c]
theorem ZZ:∀ cs:List Nat,Str.join "" (cs.map one)=S cs
 | []=>rfl
 | c::cs=>by
  rw [tF,uT,ZZ cs]
  exact Yx [c] cs
theorem JP (cs:List Nat):((cs.map one).map (·.length)).sum=cs.length:=by
 induction cs with
 | nil=>rfl
 | cons c cs ih=>rw [tF,tF,pW,ih,tH]; show 1+_=_; omega
theorem z4x (cs:List Nat)(h:cs.length<=1000):xW "" [.lst (cs.map fun c=>D.str (one c))]=.ok (.str (S cs)):=by
 have e:(cs.map fun c=>D.str (one c))=(cs.map one).map D.str:=by rw [rJ]; rfl
 have e0:Str.length ""=0:=by decide
 rw [e,jK (by rw [JP,e0,tP]; omega),ZZ]
theorem jo {cs:List Nat}{i:Int}{c:Nat}(hl:cs.length<=1000)(h0:0<=i)(h:cs[i.toNat]?=some c):ixD (.str (S cs)) (.int i)=.ok (.str (one c)) :=
 Uj (by rw [xw,sizeLine_eq]; omega) (qi h0 (by rw [u0]; exact h))
theorem Yy {z:Str}{i:Int}{p:Nat->Prop}(hz:z.length<=1000)(h0:0<=i)(h1:i<z.length)(hp:∀ c∈z.cps.toList,p c):∃ c,ixD (.str z) (.int i)=.ok (.str (one c))/\p c:=by
 have hl:z.cps.toList.length=z.length:=by simp [Str.length]
 have hi:i.toNat<z.cps.toList.length:=by omega
 refine ⟨z.cps.toList[i.toNat],?_,hp _ (rM hi)⟩
 have:=jo (cs:=z.cps.toList) (i:=i) (by omega) h0 (tU hi)
 rw [<- Yq z] at this
 exact this
abbrev Z2:Str:="abcdefghijklmnopqrstuvwxyzABCDEFGHIJKLMNOPQRSTUVWXYZ0123456789.,;:!?'\"()-/"
def okS (c:Nat):Prop:=c∈Z2.cps.toList
theorem z4P:Z2.length=74:=by decide +kernel
theorem okS.lt {c:Nat}(h:okS c):c<128:=by
 have:∀ c∈Z2.cps.toList,c<128:=by decide +kernel
 exact this c h
theorem z4V:∀ c∈Z2.cps.toList,okS c:=fun _ h=>h
abbrev AZ:Str:="abcdefghijklmnopqrstuvwxyz"
theorem Wf (c:Nat)(z:Str):inS (one c) z=decide (c∈z.cps.toList):=StrLaws.found_one z c
theorem z44:∀ c∈AZ.cps.toList,c≠45/\c≠61:=by decide +kernel
theorem ZR (cs:List Nat)(c i:Nat):StrLaws.At (S cs) (one c) (S cs).length i↔cs[i]?=some c:=by
 unfold StrLaws.At
 have h1:(one c).length=1:=rfl
 rw [h1,xw]
 unfold Builtin.Str.subAt
 have h2:(one c).cps=#[c]:=rfl
 have h3:(S cs).cps=cs.toArray:=rfl
 rw [h1,h2,h3]
 constructor
 ·rintro ⟨a,b⟩
  have b:=eq_of_beq b
  have:=congrArg (fun z:Array Nat=>z[0]?) b
  simp at this
  exact this
 ·intro h
  have hi:i<cs.length:=(sD.mp h).1
  refine ⟨by omega,?_⟩
  rw [beq_iff_eq]
  apply Array.ext'
  simp
  rw [tU hi] at h
  cases h
  rw [rB hi]
  rfl
theorem WI (A B:List Nat)(m:Nat)(h:m∉A):Txt.find (S (A++m::B)) (one m)=(A.length:Nat):=by
 unfold Txt.find
 rcases StrLaws.occ_head (S (A++m::B)) (one m) 1 (tY _) with ⟨e,hn⟩ | ⟨i,r,e,ha,hn⟩
 ·exact absurd ((ZR _ _ A.length).mpr (by simp)) (hn A.length)
 ·rw [e]
  have h1:=(ZR _ _ _).mp ha
  have h2:¬ A.length<i:=fun z=>hn A.length z ((ZR _ _ _).mpr (by simp))
  have h3:¬ i<A.length:=fun z=>by
   rw [rP z] at h1
   exact h (pL h1)
  have:i=A.length:=by omega
  rw [this]
theorem W4 (l:List Nat)(c:Nat)(h:c∉l):Txt.find (S l) (one c)=-1:=by
 unfold Txt.find
 rcases StrLaws.occ_head (S l) (one c) 1 (tY _) with ⟨e,hn⟩ | ⟨i,r,e,ha,hn⟩
 ·rw [e]
 ·exact absurd (pL ((ZR _ _ _).mp ha)) h
theorem z1a (l:List Nat)(c:Nat):Txt.replace (S l) (one c) ⟨#[]⟩=S (l.filter (· != c)):=by
 rw [Yq (Txt.replace (S l) (one c) ⟨#[]⟩)]
 have:=replace_strikes (S l) c
 rw [u0] at this
 have e:(⟨#[c]⟩:Str)=one c:=rfl
 rw [e] at this
 rw [this]
theorem wm {A:List Nat}{m:Nat}(h:m∉A):A.filter (· != m)=A:=by
 rw [List.filter_eq_self]
 intro a ha
 have:a≠m:=fun z=>h (z▸ha)
 simpa using this
structure Jt (A B:List Nat)(m:Nat):Prop where
 mm:m=45\/m=61
 a1:∀ c∈A,c≠45/\c≠61
 b1:∀ c∈B,c≠45/\c≠61
 l1:A.length+B.length<=8
theorem Wn (A B:List Nat)(m:Nat)(j:Jt A B m):xv [.str (S (A++m::B))]=.ok (.int (A.length:Nat)):=by
 have c1:(one 45)=("-":Str):=rfl
 have c2:(one 61)=("=":Str):=rfl
 have nA:∀ c,(c=45\/c=61)->c∉A:=fun c hc h=>by have:=j.a1 c h; rcases hc with e | e<;>subst e<;>simp at this
 have nB:∀ c,(c=45\/c=61)->c∉B:=fun c hc h=>by have:=j.b1 c h; rcases hc with e | e<;>subst e<;>simp at this
 have key:∃ u v:Int,qC (S (A++m::B)) [.str "-"]=.ok (.int u)/\qC (S (A++m::B)) [.str "="]=.ok (.int v)/\kQ [.int u,.int v]=.ok (.int (A.length:Nat)):=by
  rcases j.mm with rfl | rfl
  ·refine ⟨(A.length:Nat),-1,?_,?_,?_⟩
   ·show R.ok (D.int (Txt.find (S (A++45::B)) (one 45)))=_
    rw [WI A B 45 (nA 45 (.inl rfl))]
   ·show R.ok (D.int (Txt.find (S (A++45::B)) (one 61)))=_
    rw [W4 _ _ (by simp [nA 61 (.inr rfl),nB 61 (.inr rfl)])]
   ·show R.ok (D.int (if ((A.length:Nat):Int) < -1 then _ else _))=_
    rw [if_neg (by omega)]
  ·refine ⟨-1,(A.length:Nat),?_,?_,?_⟩
   ·show R.ok (D.int (Txt.find (S (A++61::B)) (one 45)))=_
    rw [W4 _ _ (by simp [nA 45 (.inl rfl),nB 45 (.inl rfl)])]
   ·show R.ok (D.int (Txt.find (S (A++61::B)) (one 61)))=_
    rw [WI A B 61 (nA 61 (.inr rfl))]
   ·show R.ok (D.int (if (-1:Int)<((A.length:Nat):Int) then _ else _))=_
    rw [if_pos (by omega)]
 obtain ⟨u,v,h1,h2,h3⟩:=key
 generalize ((A.length:Nat):Int)=l at *
 generalize S (A++m::B)=J at *
 simp -implicitDefEqProofs only [xv,kB,zw,zr,zb,eC,eL,ze,za,R.ok_bind,tF,tV,tH,tM,tK,tO,tL,tD,Nat.reduceSub,tZ,Xq,X6,h1,h2,h3]
theorem jq (A B:List Nat)(m:Nat)(j:Jt A B m):yo [.str (S (A++m::B))]=.ok (.str (S (A++B))):=by
 have nA:∀ c,(c=45\/c=61)->c∉A:=fun c hc h=>by have:=j.a1 c h; rcases hc with e | e<;>subst e<;>simp at this
 have nB:∀ c,(c=45\/c=61)->c∉B:=fun c hc h=>by have:=j.b1 c h; rcases hc with e | e<;>subst e<;>simp at this
 have r0:∀ (l:List Nat) (c:Nat),l.length<=100->vZ (one c) "" (.str (S l))=.ok (.str (S (l.filter (· != c)))):=fun l c h=>by
  show (if (S l).length<=1048576 then R.ok (D.str (Txt.replace (S l) (one c) ⟨#[]⟩)) else R.bad)=_
  rw [if_pos (by rw [xw]; omega),z1a]
 have hl:(A++m::B).length<=100:=by have:=j.l1; simp; omega
 have r1:=r0 (A++m::B) 45 hl
 have r2:=r0 ((A++m::B).filter (· != 45)) 61 (rC (List.length_filter_le _ _) hl)
 have ef:((A++m::B).filter (· != 45)).filter (· != 61)=A++B:=by
  rw [List.filter_append,List.filter_append,wm (nA 45 (.inl rfl)),wm (nA 61 (.inr rfl))]
  rcases j.mm with rfl | rfl
  ·rw [List.filter_cons_of_neg (by simp),wm (nB 45 (.inl rfl)),wm (nB 61 (.inr rfl))]
  ·rw [List.filter_cons_of_pos (by simp),wm (nB 45 (.inl rfl)),List.filter_cons_of_neg (by simp),wm (nB 61 (.inr rfl))]
 rw [ef] at r2
 have c1:(one 45)=("-":Str):=rfl
 have c2:(one 61)=("=":Str):=rfl
 rw [c1] at r1
 rw [c2] at r2
 generalize S (A++m::B)=J at *
 generalize S ((A++m::B).filter (· != 45))=J2 at *
 simp -implicitDefEqProofs only [yo,uN,zw,zr,zb,eUn,R.ok_bind,tF,tV,tH,tM,tK,tO,tL,tD,Nat.reduceSub,tZ,r1,r2]
def J2:Tn->R Fl:=(zl 3 (zd zy (eC (.int 1)) (zd zA (zd zC (zb 0) (eC (.int 105))) (zd uJ (zb 2) (eC (.int 1))))))
def YF (c:Nat):D:=.str (one c)
theorem Jm {a b n:Nat}(hab:a<=b)(hb:b<=n):(Builtin.Str.strSliceIndices (some (a:Int)) (some (b:Int)) 1 n).length=b-a:=by
 rw [StrLaws.strSliceIndices_plain hab hb]; simp
theorem QO (a b n:Nat):Builtin.Str.strSliceIndices (some (a:Int)) (some (b:Int)) 1 n=Builtin.Str.strSliceIndices (some (a:Int)) (some ((min b n:Nat):Int)) 1 n:=by
 have h1:¬ ((a:Int)<0):=by omega
 have h2:¬ ((b:Int)<0):=by omega
 have h3:¬ (((min b n:Nat):Int)<0):=by omega
 have e:max (0:Int) (min (b:Int) (n:Int))=max (0:Int) (min ((min b n:Nat):Int) (n:Int)):=by omega
 simp only [Builtin.Str.strSliceIndices,h1,h2,h3,if_false,e,show ((1:Int)>0)=True from by simp,if_true]
theorem uk (cs:List Nat)(b n:Nat)(hb:b<=cs.length):Txt.slice (S cs) (some (b:Int)) (some ((b:Int)+(n:Nat)))=S ((cs.drop b).take n):=by
 have e0:(b:Int)+(n:Nat)=((b+n:Nat):Int):=by omega
 have hle:b<=min (b+n) cs.length:=by omega
 have hle2:min (b+n) cs.length<=(S cs).length:=by rw [xw]; omega
 have hp:=StrLaws.sliced_plain (S cs) hle hle2
 have hl:=Jm hle hle2
 rw [u0] at hp
 have et:(cs.drop b).take (min (b+n) cs.length-b)=(cs.drop b).take n:=by
  by_cases h:b+n<=cs.length
  ·congr 1; omega
  ·rw [rN (by rw [rF]; omega),rN (by rw [rF]; omega)]
 rw [et] at hp
 unfold Txt.slice
 rw [e0,QO,xw]
 rw [xw] at hp hl
 by_cases hw:(Builtin.Str.strSliceIndices (some (b:Int)) (some ((min (b+n) cs.length:Nat):Int)) 1 cs.length).length=cs.length
 ·rw [if_pos (by rw [hw]; simp)]
  rw [hl] at hw
  have hb0:b=0:=by omega
  subst hb0
  rw [List.drop_zero,rN (by omega)]
 ·rw [if_neg (by simp [hw]),hp]
  rfl
theorem jZ (l:List Nat)(h:∀ c∈l,c<128):Txt.lower (S l)=S (l.map lo1):=by
 rw [lower_ascii (x:=S l) (by rw [u0]; exact h)]
 show (⟨l.toArray.map lo1⟩:Str)=⟨(l.map lo1).toArray⟩
 rw [List.map_toArray]
def z2a (L:List Nat)(a:Nat)(cs:List Nat)(p:Nat):Bool:=decide (a<=p)&&decide (((cs.drop (p-a)).take L.length).map lo1=L)
theorem jk (l:List Nat)(h:l.length<=1000):yy [.str (S l)]=.ok (.int (l.length:Nat)):=by rw [ZL (by rw [xw,sizeLine_eq]; omega),xw]
theorem sm0 {g:Str->R D}{t:Tn->R D}{τ:Tn}{z:Str}(h:t τ=.ok (.str z)):vd g t τ=g z:=by unfold vd; rw [h,R.ok_bind]
theorem z4O (A B:List Nat)(m:Nat)(j:Jt A B m)(cs:List Nat)(hc:∀ c∈cs,c<128)(hl:cs.length<=40)(p:Nat)(hp:p<=cs.length):vB [.str (S (A++m::B)),.str (S cs),.int (p:Nat)]=.ok (.bl (z2a (A++B) A.length cs p)):=by
 have h1:=jq A B m j
 have h2:=Wn A B m j
 have hL:(A++B).length<=8:=by rw [tN]; exact j.l1
 have h3:=jk (A++B) (by omega)
 have hAB:A.length<=(A++B).length:=by rw [tN]; omega
 unfold z2a
 generalize A++B=L at *
 by_cases hq:A.length<=p
 ·have e1:decide ((0:Int)<=((p:Nat):Int)-(A.length:Nat))=true:=decide_eq_true (by omega)
  have eb:((p:Nat):Int)-(A.length:Nat)=((p-A.length:Nat):Int):=by omega
  have hs:slD (.str (S cs)) (some (((p:Nat):Int)-(A.length:Nat))) (some (((p:Nat):Int)-(A.length:Nat)+(L.length:Nat)))=.ok (.str (S ((cs.drop (p-A.length)).take L.length))):=by
   rw [eb]
   show (if (S cs).length<=sizeLine then _ else _)=_
   rw [if_pos (by rw [xw,sizeLine_eq]; omega),uk cs _ _ (by omega)]
  have hw:uY (S ((cs.drop (p-A.length)).take L.length))=.ok (.str (S (((cs.drop (p-A.length)).take L.length).map lo1))):=by
   show (if _<=5592405 then _ else _)=_
   rw [if_pos (by rw [xw,sW]; omega),jZ _ fun c h=>hc c (List.mem_of_mem_drop (pM h))]
  have he:eqR false (.str (S (((cs.drop (p-A.length)).take L.length).map lo1))) (.str (S L))=.ok (.bl (decide (((cs.drop (p-A.length)).take L.length).map lo1=L))):=by
   rw [ub,z2J]; rfl
  rw [decide_eq_true hq,rD]
  generalize (decide (((cs.drop (p-A.length)).take L.length).map lo1=L))=r at *
  generalize S (((cs.drop (p-A.length)).take L.length).map lo1)=X3 at *
  generalize S ((cs.drop (p-A.length)).take L.length)=X2 at *
  generalize ((L.length:Nat):Int)=n at *
  generalize ((A.length:Nat):Int)=a at *
  generalize ((p:Nat):Int)=P at *
  generalize S (A++m::B)=J at *
  generalize S cs=W at *
  generalize S L=LL at *
  have e5:∀ x0,vd uY (eSl (zb 1) (yb (zb 4)) (yb (zd zy (zb 4) (eL yy (za (zb 3) ze))))) [x0,some (.str W),some (.int P),some (.str LL),some (.int (P-a))]=.ok (.str X3):=fun x0=>by
   rw [sm0 (z:=X2) (by simp -implicitDefEqProofs only [zb,zd,eL,ze,za,eSl,yb,R.ok_bind,tD,tE,yw,h3,hs]),hw]
  simp -implicitDefEqProofs only [vB,X8,zw,zh,zl,zr,zb,eC,zd,eL,ze,za,wK,asB,R.ok_bind,tF,tV,tH,tM,tS,tK,tO,tL,tD,tE,tG,tI,Nat.reduceAdd,Nat.reduceSub,tZ,wt,z0l,if_true,h1,h2,e1,e5,he]
 ·have e1:decide ((0:Int)<=((p:Nat):Int)-(A.length:Nat))=false:=decide_eq_false (by omega)
  rw [decide_eq_false hq,rG]
  generalize ((L.length:Nat):Int)=n at *
  generalize ((A.length:Nat):Int)=a at *
  generalize ((p:Nat):Int)=P at *
  generalize S (A++m::B)=J at *
  generalize S cs=W at *
  generalize S L=LL at *
  simp -implicitDefEqProofs only [vB,X8,zw,zh,zl,zr,zb,eC,zd,eL,ze,za,wK,asB,R.ok_bind,tF,tV,tH,tM,tS,tK,tO,tL,tD,tE,tG,tI,Nat.reduceAdd,Nat.reduceSub,tZ,wt,z0l,if_false,tW,h1,h2,e1]
theorem Vk (A:Str)(c:Nat):zw 1 (zr (wK (eUn (xD "str") (zb 0)) (wK (zd (eqR false) (eL yy (za (zb 0) ze)) (eC (.int 1))) (zd uh (zb 0) (eC (.str A)))))) [.str (one c)]=.ok (.bl (decide (c∈A.cps.toList))):=by
 have h1:xD "str" (.str (one c))=.ok (.bl true):=rfl
 have h2:=jk [c] (by simp)
 have h2:yy [.str (one c)]=.ok (.int 1):=h2
 have h3:uh (.str (one c)) (.str A)=.ok (.bl (decide (c∈A.cps.toList))):=by
  show R.ok (D.bl (inS (one c) A))=_
  rw [Wf]
 have h4:eqR false (.int 1) (.int 1)=.ok (.bl true):=by rw [vh]; rfl
 generalize one c=z at *
 generalize decide (c∈A.cps.toList)=b at *
 simp -implicitDefEqProofs only [zw,zr,zb,eC,zd,eUn,eL,ze,za,wK,asB,R.ok_bind,tF,tV,tH,tM,tK,tO,tL,tD,Nat.reduceSub,tZ,if_true,h1,h2,h3,h4]
instance (c:Nat):Decidable (okS c):=by unfold okS; infer_instance
theorem JK (c:Nat):v5 [.str (one c)]=.ok (.bl (decide (okS c))):=Vk Z2 c
theorem Ws (cs:List Nat):L2.signs (S cs)=cs.map YF:=by
 unfold L2.signs
 rw [u0]
 rfl
theorem qJ (cs:List Nat)(h0:1<=cs.length)(h1:cs.length<=40):zJ [.str (S cs)]=.ok (.bl (cs.all fun c=>decide (okS c))):=by
 have i1:xD "str" (.str (S cs))=.ok (.bl true):=rfl
 have h2:=jk cs (by omega)
 have e1:decide ((1:Int)<=(cs.length:Nat))=true:=decide_eq_true (by omega)
 have e2:decide (((cs.length:Nat):Int)<=40)=true:=decide_eq_true (by omega)
 have hc:x8 (ym (Tgt.one 0).asg (fun _=>.ok true) (eL v5 (za (zb 0) ze)) [none]) (cs.map YF)=.ok (cs.filterMap fun c=>some (D.bl (decide (okS c)))):=yI fun c _=>by
  have:=JK c
  unfold YF
  generalize one c=z at *
  simp -implicitDefEqProofs only [ym,x5,zb,eL,ze,za,Tgt.asg,R.ok_bind,tD,tG,if_true,this]
 have e3:(cs.filterMap fun c=>some (D.bl (decide (okS c))))=(cs.map fun c=>decide (okS c)).map D.bl:=by
  rw [rJ]; clear hc e2 e1 h2 i1 h1 h0; induction cs with
  | nil=>rfl
  | cons c cs ih=>rw [sZ,tF,ih]; rfl
 rw [e3] at hc
 have hk:=xA (ys:=(cs.map fun c=>decide (okS c)).map D.bl) (by rw [tP,tP]; omega)
 have ha:=KZ (bs:=cs.map fun c=>decide (okS c))
 have e4:((cs.map fun c=>decide (okS c)).all id)=cs.all fun c=>decide (okS c):=by rw [List.all_map]; rfl
 rw [e4] at ha
 have hs:=Ws cs
 have hq:wY (.str (S cs))=.ok (cs.map YF):=by show R.ok (L2.signs (S cs))=_; rw [hs]
 generalize (cs.map fun c=>decide (okS c)).map D.bl=BL at *
 generalize (cs.all fun c=>decide (okS c))=r at *
 generalize cs.map YF=L at *
 generalize ((cs.length:Nat):Int)=l at *
 generalize S cs=W at *
 simp -implicitDefEqProofs only [zJ,wO,yC,xx,xB,zx,zw,zh,zr,sIf,zb,eC,eUn,eL,ze,za,zm,bOr,xk,vD,zZ,asB,wY,R.ok_bind,tF,tV,tH,tM,tK,tO,tL,tD,Nat.reduceSub,tZ,UZ,if_true,if_false,tW,i1,h2,e1,e2,rH,hs,hc,hk,ha]
theorem qF (cs:List Nat)(h:cs.length=0\/40<cs.length)(hl:cs.length<=1000):zJ [.str (S cs)]=.ok (.bl false):=by
 have i1:xD "str" (.str (S cs))=.ok (.bl true):=rfl
 have h2:=jk cs hl
 rcases h with h | h
 ·have e1:decide ((1:Int)<=(cs.length:Nat))=false:=decide_eq_false (by omega)
  generalize ((cs.length:Nat):Int)=l at *
  generalize S cs=W at *
  simp -implicitDefEqProofs only [zJ,wO,yC,xx,xB,zx,zw,zh,zr,sIf,zb,eC,eUn,eL,ze,za,zm,bOr,xk,vD,zZ,asB,R.ok_bind,tF,tV,tH,tM,tK,tO,tL,tD,Nat.reduceSub,tZ,UZ,if_true,if_false,tW,i1,h2,e1,rH,pD]
 ·have e1:decide ((1:Int)<=(cs.length:Nat))=true:=decide_eq_true (by omega)
  have e2:decide (((cs.length:Nat):Int)<=40)=false:=decide_eq_false (by omega)
  generalize ((cs.length:Nat):Int)=l at *
  generalize S cs=W at *
  simp -implicitDefEqProofs only [zJ,wO,yC,xx,xB,zx,zw,zh,zr,sIf,zb,eC,eUn,eL,ze,za,zm,bOr,xk,vD,zZ,asB,R.ok_bind,tF,tV,tH,tM,tK,tO,tL,tD,Nat.reduceSub,tZ,UZ,if_true,if_false,tW,i1,h2,e1,e2,rH,pD]
theorem wo (d:D)(h:xD "str" d=.ok (.bl false)):zJ [d]=.ok (.bl false):=by
 simp -implicitDefEqProofs only [zJ,wO,yC,xx,xB,zx,zw,zh,zr,sIf,zb,eC,eUn,eL,ze,za,zm,bOr,xk,vD,zZ,asB,R.ok_bind,tF,tV,tH,tM,tK,tO,tL,tD,Nat.reduceSub,tZ,if_true,h,pD]
theorem Kx (d:D)(h:zJ [d]=.ok (.bl true)):yO [d]=.ok (.bl true):=by
 simp -implicitDefEqProofs only [yO,vE,zx,zw,zh,zr,sIf,zb,eC,eL,ze,za,zm,xk,asB,R.ok_bind,tF,tV,tH,tM,tK,tO,tL,tD,Nat.reduceSub,tZ,if_false,tW,h,rH]
theorem UI (d:D)(h:zJ [d]=.ok (.bl false)):yO [d]=.err "BadWord":=by
 have e:∀ τ,V5 "BadWord" (za (eC (.str "a word is a text of 1 to 40 signs of words")) ze) τ=.err "BadWord":=fun τ=>by
  unfold V5
  simp -implicitDefEqProofs only [eC,ze,za,R.ok_bind,tH,tM,tZ]
  rw [if_pos (by rw [sizeLine_eq]; decide)]
 simp -implicitDefEqProofs only [yO,vE,zx,zw,zh,zr,sIf,zb,eC,eL,ze,za,zm,xk,asB,R.ok_bind,R.err_bind,tF,tV,tH,tM,tK,tO,tL,tD,Nat.reduceSub,tZ,if_true,h,pD,e]
def isL (c:Nat):Bool:=decide (lo1 c∈AZ.cps.toList)
def w6 (cs:List Nat)(i:Nat):Bool:=match cs[i]? with
 | some c=>isL c
 | none=>false
theorem uA {cs:List Nat}{i c:Nat}(h:cs[i]?=some c):w6 cs i=isL c:=by unfold w6; rw [h]
theorem ZU (A:Str)(c:Nat)(h:c<128):zw 1 (zr (zd uh (vd uY (zb 0)) (eC (.str A)))) [.str (one c)]=.ok (.bl (decide (lo1 c∈A.cps.toList))):=by
 have hw:uY (one c)=.ok (.str (one (lo1 c))):=by
  show (if _<=5592405 then _ else _)=_
  have:=jZ [c] (fun x hx=>by rw [sN.mp hx]; exact h)
  rw [if_pos (by show 1<=5592405; decide)]
  exact congrArg (fun z=>R.ok (D.str z)) this
 have h3:uh (.str (one (lo1 c))) (.str A)=.ok (.bl (decide (lo1 c∈A.cps.toList))):=by
  show R.ok (D.bl (inS (one (lo1 c)) A))=_
  rw [Wf]
 have h5:vd uY (zb 0) [some (.str (one c))]=.ok (.str (one (lo1 c))):=by rw [sm0 (z:=one c) rfl,hw]
 generalize decide (lo1 c∈A.cps.toList)=b at *
 generalize one (lo1 c)=z2 at *
 generalize one c=z at *
 simp -implicitDefEqProofs only [zw,zr,eC,zd,R.ok_bind,tF,tV,tH,tM,tK,tO,tL,Nat.reduceSub,tZ,h5,h3]
theorem vO (c:Nat)(h:c<128):yg [.str (one c)]=.ok (.bl (isL c)):=ZU AZ c h
def KA:Tn->R Bool:=(vX (zm (zd ltD (zb 2) (zb 1))) (zm (eL yg (za (zd ixD (zb 0) (zd uJ (zd uJ (zb 1) (zb 2)) (eC (.int 1)))) ze))))
def TA:Tn->R Fl:=(zh (zl 2 (eC (.int 0))) (zh (xQ KA (jh 2 vx (eC (.int 1)))) (zr (zb 2))))
theorem tA:yz=zw 3 TA:=rfl
def KB:Tn->R Bool:=(vX (zm (zd ltD (zd zy (zb 1) (zb 2)) (eL yy (za (zb 0) ze)))) (zm (eL yg (za (zd ixD (zb 0) (zd zy (zb 1) (zb 2))) ze))))
def TB:Tn->R Fl:=(zh (zl 2 (eC (.int 0))) (zh (xQ KB (jh 2 vx (eC (.int 1)))) (zr (zb 2))))
theorem tB:yq=zw 3 TB:=rfl
theorem ais (i j:Int):vx (.int i) (.int j)=.ok (.int (i+j)):=rfl
structure AheadIs (cs:List Nat)(p m:Nat):Prop where
 le:m<=p
 all:∀ i,i<m->w6 cs (p-1-i)=true
 fin:m=p\/w6 cs (p-1-m)=false
structure BehindIs (cs:List Nat)(p m:Nat):Prop where
 le:p+m<=cs.length
 all:∀ i,i<m->w6 cs (p+i)=true
 fin:p+m=cs.length\/w6 cs (p+m)=false
theorem z0m (cs:List Nat)(hc:∀ c∈cs,c<128)(hl:cs.length<=40)(p m:Nat)(hp:p<=cs.length):KA [some (.str (S cs)),some (.int (p:Nat)),some (.int (m:Nat))]=.ok (decide (m<p)&&w6 cs (p-1-m)):=by
 by_cases h:m<p
 ·have e1:decide (((m:Nat):Int)<(p:Nat))=true:=decide_eq_true (by omega)
  have hi:p-1-m<cs.length:=by omega
  have hg:cs[p-1-m]?=some cs[p-1-m]:=tU hi
  have ei:((p:Nat):Int)-(m:Nat)-1=((p-1-m:Nat):Int):=by omega
  have hx:=jo (cs:=cs) (i:=((p:Nat):Int)-(m:Nat)-1) (by omega) (by omega) (by rw [ei,rK]; exact hg)
  have hs:=vO cs[p-1-m] (hc _ (rM hi))
  rw [decide_eq_true h,rD,uA hg]
  generalize isL cs[p-1-m]=b at *
  generalize one cs[p-1-m]=z at *
  generalize ((p:Nat):Int)=P at *
  generalize ((m:Nat):Int)=M at *
  generalize S cs=W at *
  simp -implicitDefEqProofs only [KA,zb,eC,zd,eL,ze,za,zm,vX,asB,R.ok_bind,tD,tE,wt,wF,if_true,e1,hx,hs]
 ·have e1:decide (((m:Nat):Int)<(p:Nat))=false:=decide_eq_false (by omega)
  rw [decide_eq_false h,rG]
  generalize ((p:Nat):Int)=P at *
  generalize ((m:Nat):Int)=M at *
  generalize S cs=W at *
  simp -implicitDefEqProofs only [KA,zb,eC,zd,eL,ze,za,zm,vX,asB,R.ok_bind,tD,tE,wt,wF,if_false,tW,e1]
theorem z06 (cs:List Nat)(hc:∀ c∈cs,c<128)(hl:cs.length<=40)(p m:Nat):KB [some (.str (S cs)),some (.int (p:Nat)),some (.int (m:Nat))]=.ok (decide (p+m<cs.length)&&w6 cs (p+m)):=by
 have h2:=jk cs (by omega)
 by_cases h:p+m<cs.length
 ·have e1:decide (((p:Nat):Int)+(m:Nat)<(cs.length:Nat))=true:=decide_eq_true (by omega)
  have hg:cs[p+m]?=some cs[p+m]:=tU h
  have ei:((p:Nat):Int)+(m:Nat)=((p+m:Nat):Int):=by omega
  have hx:=jo (cs:=cs) (i:=((p:Nat):Int)+(m:Nat)) (by omega) (by omega) (by rw [ei,rK]; exact hg)
  have hs:=vO cs[p+m] (hc _ (rM h))
  rw [decide_eq_true h,rD,uA hg]
  generalize isL cs[p+m]=b at *
  generalize one cs[p+m]=z at *
  generalize ((p:Nat):Int)=P at *
  generalize ((m:Nat):Int)=M at *
  generalize ((cs.length:Nat):Int)=l at *
  generalize S cs=W at *
  simp -implicitDefEqProofs only [KB,zb,zd,eL,ze,za,zm,vX,asB,R.ok_bind,tD,tE,yw,wF,if_true,h2,e1,hx,hs]
 ·have e1:decide (((p:Nat):Int)+(m:Nat)<(cs.length:Nat))=false:=decide_eq_false (by omega)
  rw [decide_eq_false h,rG]
  generalize ((p:Nat):Int)=P at *
  generalize ((m:Nat):Int)=M at *
  generalize ((cs.length:Nat):Int)=l at *
  generalize S cs=W at *
  simp -implicitDefEqProofs only [KB,zb,zd,eL,ze,za,zm,vX,asB,R.ok_bind,tD,tE,yw,wF,if_false,tW,h2,e1]
theorem z0o (a b:Option D)(m:Nat):jh 2 vx (eC (.int 1)) [a,b,some (.int (m:Nat))]=.ok (.nx [a,b,some (.int ((m+1:Nat):Int))]):=by
 have e:((m:Nat):Int)+1=((m+1:Nat):Int):=by omega
 rw [<- e]
 generalize ((m:Nat):Int)=M at *
 simp -implicitDefEqProofs only [jh,zb,eC,R.ok_bind,tD,tE,tG,tI,ais]
def mu3 (n:Nat):Tn->Nat
 | [_,_,some (.int m)]=>n-m.toNat
 | _=>0
theorem km (cs:List Nat)(hc:∀ c∈cs,c<128)(hl:cs.length<=40)(p:Nat)(hp:p<=cs.length):∃ m:Nat,yz [.str (S cs),.int (p:Nat)]=.ok (.int (m:Nat))/\AheadIs cs p m:=by
 obtain ⟨τ',h1,⟨m,rfl,g1,g2⟩,h3⟩:=Z3 (k:=KA) (body:=jh 2 vx (eC (.int 1))) (fun τ=>∃ m:Nat,τ=[some (.str (S cs)),some (.int (p:Nat)),some (.int (m:Nat))]/\m<=p/\∀ i,i<m->w6 cs (p-1-i)=true) (mu3 p) (by
  rintro τ ⟨m,rfl,g1,g2⟩
  have hk:=z0m cs hc hl p m hp
  by_cases h:m<p
  ·rw [decide_eq_true h,rD] at hk
   cases hb:w6 cs (p-1-m) with
   | false=>rw [hb] at hk; exact .inl hk
   | true =>
    rw [hb] at hk
    refine .inr ⟨hk,_,z0o _ _ m,⟨m+1,rfl,h,fun i hi=>?_⟩,?_⟩
    ·by_cases hi2:i=m
     ·rw [hi2]; exact hb
     ·exact g2 i (by omega)
    ·show p-(((m+1:Nat):Int)).toNat<p-(((m:Nat):Int)).toNat
     omega
  ·rw [decide_eq_false h,rG] at hk
   exact .inl hk) [some (.str (S cs)),some (.int (p:Nat)),some (.int ((0:Nat):Int))] ⟨0,rfl,rO _,fun i hi=>absurd hi (by omega)⟩
 rw [z0m cs hc hl p m hp] at h3
 have h3:(decide (m<p)&&w6 cs (p-1-m))=false:=R.ok.inj h3
 refine ⟨m,?_,g1,g2,?_⟩
 ·have e0:((0:Nat):Int)=0:=rfl
  rw [e0] at h1
  rw [tA]
  generalize ((p:Nat):Int)=P at *
  generalize ((m:Nat):Int)=M at *
  generalize S cs=W at *
  simp -implicitDefEqProofs only [TA,zw,zh,zl,zr,zb,eC,R.ok_bind,tF,tV,tH,tM,tS,tK,tO,tL,tD,tE,tG,tI,Nat.reduceAdd,Nat.reduceSub,tZ,h1]
 ·by_cases h:m=p
  ·exact .inl h
  ·rw [decide_eq_true (by omega),rD] at h3
   exact .inr h3
theorem ji (cs:List Nat)(hc:∀ c∈cs,c<128)(hl:cs.length<=40)(p:Nat)(hp:p<=cs.length):∃ m:Nat,yq [.str (S cs),.int (p:Nat)]=.ok (.int (m:Nat))/\BehindIs cs p m:=by
 obtain ⟨τ',h1,⟨m,rfl,g1,g2⟩,h3⟩:=Z3 (k:=KB) (body:=jh 2 vx (eC (.int 1))) (fun τ=>∃ m:Nat,τ=[some (.str (S cs)),some (.int (p:Nat)),some (.int (m:Nat))]/\p+m<=cs.length/\∀ i,i<m->w6 cs (p+i)=true) (mu3 cs.length) (by
  rintro τ ⟨m,rfl,g1,g2⟩
  have hk:=z06 cs hc hl p m
  by_cases h:p+m<cs.length
  ·rw [decide_eq_true h,rD] at hk
   cases hb:w6 cs (p+m) with
   | false=>rw [hb] at hk; exact .inl hk
   | true =>
    rw [hb] at hk
    refine .inr ⟨hk,_,z0o _ _ m,⟨m+1,rfl,by omega,fun i hi=>?_⟩,?_⟩
    ·by_cases hi2:i=m
     ·rw [hi2]; exact hb
     ·exact g2 i (by omega)
    ·show cs.length-(((m+1:Nat):Int)).toNat<cs.length-(((m:Nat):Int)).toNat
     omega
  ·rw [decide_eq_false h,rG] at hk
   exact .inl hk) [some (.str (S cs)),some (.int (p:Nat)),some (.int ((0:Nat):Int))] ⟨0,rfl,hp,fun i hi=>absurd hi (by omega)⟩
 rw [z06 cs hc hl p m] at h3
 have h3:(decide (p+m<cs.length)&&w6 cs (p+m))=false:=R.ok.inj h3
 refine ⟨m,?_,g1,g2,?_⟩
 ·have e0:((0:Nat):Int)=0:=rfl
  rw [e0] at h1
  rw [tB]
  generalize ((p:Nat):Int)=P at *
  generalize ((m:Nat):Int)=M at *
  generalize S cs=W at *
  simp -implicitDefEqProofs only [TB,zw,zh,zl,zr,zb,eC,R.ok_bind,tF,tV,tH,tM,tS,tK,tO,tL,tD,tE,tG,tI,Nat.reduceAdd,Nat.reduceSub,tZ,h1]
 ·by_cases h:p+m=cs.length
  ·exact .inl h
  ·rw [decide_eq_true (by omega),rD] at h3
   exact .inr h3
def bT:Tn->R Fl:=(sIf (vX (zm (eL vB (za (zb 4) (za (zb 1) (za (zb 2) ze))))) (bOr (zm (zd (isN false) (zb 3) (eC .non))) (zm (zd gtT (eL vI (za (zb 4) ze)) (eL vI (za (zb 3) ze)))))) (zl 3 (zb 4)) zx)
def TT_:Tn->R Fl:=(zh (zl 3 (eC .non)) (zh (yJ (zZ (zb 0)) (.one 4) bT) (zr (ya (zb 3)))))
theorem tT:wj=zw 5 TT_:=rfl
def KW:Tn->R Bool:=(zm (zd uh (eL yo (za (zb 0) ze)) (zb 1)))
def TJW:Tn->R Fl:=(zh (zl 2 (vd uY (zb 1))) (zr (yE [none,some 2] (zZ (zb 0)) (.one 0) KW (ya (zb 0)))))
theorem tJW:yA=zw 3 TJW:=rfl
abbrev Jn:=List Nat×Nat×List Nat
def jtx (j:Jn):List Nat:=j.1++j.2.1::j.2.2
def Jk (j:Jn):Prop:=Jt j.1 j.2.2 j.2.1
def zz (j:Jn):D:=.str (S (jtx j))
def uD:Option Jn->D
 | none=>.non
 | some j=>zz j
def z10 (cs:List Nat)(p:Nat)(j:Jn):Bool:=z2a (j.1++j.2.2) j.1.length cs p
def rkJ (j:Jn):List Int:=[((jtx j).length:Int),(j.1.length:Int)]
def Vx (j:Jn):Option Jn->Bool
 | none=>true
 | some b=>qU (rkJ j) (rkJ b)
def jI (cs:List Nat)(p:Nat)(b:Option Jn)(j:Jn):Option Jn:=if (z10 cs p j&&Vx j b)=true then some j else b
def WS (cs:List Nat)(p:Nat)(l:List Jn):Option Jn:=l.foldl (jI cs p) none
theorem Jk.len {j:Jn}(h:Jk j):(jtx j).length<=9:=by
 have:=h.l1
 unfold jtx
 simp
 omega
theorem z3m (j:Jn)(h:Jk j):vI [zz j]=.ok (.tup [.int ((jtx j).length:Nat),.int (j.1.length:Nat)]):=by
 have h1:=Wn j.1 j.2.2 j.2.1 h
 have h2:=jk (jtx j) (by have:=h.len; omega)
 have h1:xv [.str (S (jtx j))]=.ok (.int (j.1.length:Nat)):=h1
 unfold zz
 generalize (((jtx j).length:Nat):Int)=l at *
 generalize ((j.1.length:Nat):Int)=a at *
 generalize S (jtx j)=Z at *
 simp -implicitDefEqProofs only [vI,Uy,zw,zr,zb,eL,ze,za,R.ok_bind,tF,tV,tH,tM,tK,tO,tL,tD,Nat.reduceSub,tZ,h1,h2]
theorem z34 (j b:Jn):gtT (.tup [.int ((jtx j).length:Nat),.int (j.1.length:Nat)]) (.tup [.int ((jtx b).length:Nat),.int (b.1.length:Nat)])=.ok (.bl (Vx j (some b))):=by
 unfold Vx rkJ
 rfl
theorem z38 (cs:List Nat)(hc:∀ c∈cs,c<128)(hl:cs.length<=40)(p:Nat)(hp:p<=cs.length)(j:Jn)(h:Jk j):vB [zz j,.str (S cs),.int (p:Nat)]=.ok (.bl (z10 cs p j)):=z4O j.1 j.2.2 j.2.1 h cs hc hl p hp
theorem z3w (cs:List Nat)(hc:∀ c∈cs,c<128)(hl:cs.length<=40)(p:Nat)(hp:p<=cs.length)(j:Jn)(h:Jk j)(b:Option Jn)(hb:∀ k,b=some k->Jk k)(B:D) :
  bT [some B,some (.str (S cs)),some (.int (p:Nat)),some (uD b),some (zz j)]=.ok (.nx [some B,some (.str (S cs)),some (.int (p:Nat)),some (uD (jI cs p b j)),some (zz j)]):=by
 have hf:=z38 cs hc hl p hp j h
 have hr:=z3m j h
 unfold jI
 cases hq:z10 cs p j with
 | false =>
  rw [hq] at hf
  rw [rG,if_neg (by decide)]
  generalize uD b=X at *
  generalize zz j=Z at *
  generalize S cs=W at *
  generalize ((p:Nat):Int)=P at *
  simp -implicitDefEqProofs only [bT,zx,zl,sIf,zb,eC,zd,eL,ze,za,zm,vX,bOr,asB,R.ok_bind,tD,tE,tG,tI,if_false,tW,hf]
 | true =>
  rw [hq] at hf
  rw [rD]
  cases b with
  | none =>
   rw [show Vx j none=true from rfl,if_pos rfl]
   have e1:isN false D.non D.non=.ok (.bl true):=rfl
   show bT [some B,some (.str (S cs)),some (.int (p:Nat)),some D.non,some (zz j)]=.ok (.nx [some B,some (.str (S cs)),some (.int (p:Nat)),some (zz j),some (zz j)])
   generalize zz j=Z at *
   generalize S cs=W at *
   generalize ((p:Nat):Int)=P at *
   simp -implicitDefEqProofs only [bT,zx,zl,sIf,zb,eC,zd,eL,ze,za,zm,vX,bOr,asB,R.ok_bind,tD,tE,tG,tI,if_true,hf,e1]
  | some k =>
   have hk:=z3m k (hb k rfl)
   have hg:=z34 j k
   have e1:isN false (zz k) D.non=.ok (.bl false):=rfl
   show bT [some B,some (.str (S cs)),some (.int (p:Nat)),some (zz k),some (zz j)]=.ok (.nx [some B,some (.str (S cs)),some (.int (p:Nat)),some (uD (if Vx j (some k)=true then some j else some k)),some (zz j)])
   cases hbt:Vx j (some k) with
   | true =>
    rw [hbt] at hg
    rw [if_pos rfl]
    show _=R.ok (Fl.nx [some B,some (.str (S cs)),some (.int (p:Nat)),some (zz j),some (zz j)])
    generalize D.tup [.int ((jtx j).length:Nat),.int (j.1.length:Nat)]=R1 at *
    generalize D.tup [.int ((jtx k).length:Nat),.int (k.1.length:Nat)]=R2 at *
    generalize zz j=Z at *
    generalize zz k=Y at *
    generalize S cs=W at *
    generalize ((p:Nat):Int)=P at *
    simp -implicitDefEqProofs only [bT,zx,zl,sIf,zb,eC,zd,eL,ze,za,zm,vX,bOr,asB,R.ok_bind,tD,tE,tG,tI,if_true,if_false,tW,hf,e1,hr,hk,hg]
   | false =>
    rw [hbt] at hg
    rw [if_neg (by decide)]
    show _=R.ok (Fl.nx [some B,some (.str (S cs)),some (.int (p:Nat)),some (zz k),some (zz j)])
    generalize D.tup [.int ((jtx j).length:Nat),.int (j.1.length:Nat)]=R1 at *
    generalize D.tup [.int ((jtx k).length:Nat),.int (k.1.length:Nat)]=R2 at *
    generalize zz j=Z at *
    generalize zz k=Y at *
    generalize S cs=W at *
    generalize ((p:Nat):Int)=P at *
    simp -implicitDefEqProofs only [bT,zx,zl,sIf,zb,eC,zd,eL,ze,za,zm,vX,bOr,asB,R.ok_bind,tD,tE,tG,tI,if_true,if_false,tW,hf,e1,hr,hk,hg]
theorem Ko (cs:List Nat)(p:Nat)(j:Jn)(h:Jk j)(b:Option Jn)(hb:∀ k,b=some k->Jk k):∀ k,jI cs p b j=some k->Jk k:=by
 intro k hk
 unfold jI at hk
 split at hk
 ·cases hk; exact h
 ·exact hb k hk
theorem z0C (cs:List Nat)(hc:∀ c∈cs,c<128)(hl:cs.length<=40)(p:Nat)(hp:p<=cs.length)(B:D):∀ (l:List Jn) (_:∀ j∈l,Jk j) (b:Option Jn) (_:∀ k,b=some k->Jk k) (y:Option D),
  ∃ y',yY (Tgt.one 4).asg bT (l.map zz) [some B,some (.str (S cs)),some (.int (p:Nat)),some (uD b),y]=.ok (.nx [some B,some (.str (S cs)),some (.int (p:Nat)),some (uD (l.foldl (jI cs p) b)),y'])
 | [],_,b,_,y=>⟨y,rfl⟩
 | j::l,hJ,b,hb,y=>by
  obtain ⟨y',e⟩:=z0C cs hc hl p hp B l (fun k hk=>hJ k (tR _ hk)) (jI cs p b j) (Ko cs p j (hJ j tQ) b hb) (some (zz j))
  refine ⟨y',?_⟩
  rw [tF,xh]
  show (bT [some B,some (.str (S cs)),some (.int (p:Nat)),some (uD b),some (zz j)]).bind _=_
  rw [z3w cs hc hl p hp j (hJ j tQ) b hb B,R.ok_bind,xY,e]
  rfl
theorem z3u (b:Option Jn):qX (uD b)=.ok (uD b):=by cases b<;>rfl
theorem JX (cs:List Nat)(hc:∀ c∈cs,c<128)(hl:cs.length<=40)(p:Nat)(hp:p<=cs.length)(l:List Jn)(hJ:∀ j∈l,Jk j):wj [.lst (l.map zz),.str (S cs),.int (p:Nat)]=.ok (uD (WS cs p l)):=by
 obtain ⟨y',e⟩:=z0C cs hc hl p hp (.lst (l.map zz)) l hJ none (fun k h=>by cases h) none
 have e:yY (Tgt.one 4).asg bT (l.map zz) [some (.lst (l.map zz)),some (.str (S cs)),some (.int (p:Nat)),some .non,none]=.ok (.nx [some (.lst (l.map zz)),some (.str (S cs)),some (.int (p:Nat)),some (uD (WS cs p l)),y']):=e
 have hi:=z3u (WS cs p l)
 rw [tT]
 generalize uD (WS cs p l)=Q at *
 generalize l.map zz=BK at *
 generalize S cs=W at *
 generalize ((p:Nat):Int)=P at *
 have eF:yJ (zZ (zb 0)) (.one 4) bT [some (.lst BK),some (.str W),some (.int P),some .non,none]=_:=xt (by simp -implicitDefEqProofs only [zb,zZ,wY,R.ok_bind,tD]) e
 simp -implicitDefEqProofs only [TT_,zU,zw,zh,zl,zr,zb,eC,R.ok_bind,tF,tV,tH,tM,tS,tK,tO,tL,tD,tE,tG,tI,Nat.reduceAdd,Nat.reduceSub,tZ,eF,hi]
def vA (cs:List Nat)(j:Jn):Bool:=inS (S (j.1++j.2.2)) (S (cs.map lo1))
theorem kh (cs:List Nat)(hc:∀ c∈cs,c<128)(hl:cs.length<=40)(l:List Jn)(hJ:∀ j∈l,Jk j)(hn:l.length<=1000):yA [.lst (l.map zz),.str (S cs)]=.ok (.lst ((l.filter (vA cs)).map zz)):=by
 have hw:uY (S cs)=.ok (.str (S (cs.map lo1))):=by
  show (if _<=5592405 then _ else _)=_
  rw [if_pos (by rw [xw]; omega),jZ _ hc]
 have h5:∀ x,vd uY (zb 1) [x,some (.str (S cs)),none]=.ok (.str (S (cs.map lo1))):=fun x=>by rw [sm0 (z:=S cs) rfl,hw]
 have hcp:x8 (ym (Tgt.one 0).asg KW (ya (zb 0)) [none,some (.str (S (cs.map lo1)))]) (l.map zz)=.ok (l.filterMap fun j=>if vA cs j=true then some (zz j) else none):=yI fun j hj=>by
  have h1:yo [zz j]=.ok (.str (S (j.1++j.2.2))):=jq j.1 j.2.2 j.2.1 (hJ j hj)
  have h2:uh (.str (S (j.1++j.2.2))) (.str (S (cs.map lo1)))=.ok (.bl (vA cs j)):=rfl
  have hi:qX (zz j)=.ok (zz j):=rfl
  generalize S (j.1++j.2.2)=L at *
  generalize S (cs.map lo1)=W at *
  generalize zz j=Z at *
  cases hb:vA cs j with
  | true=>rw [hb] at h2; simp -implicitDefEqProofs only [ym,x5,KW,zU,zb,zd,eL,ze,za,zm,asB,Tgt.asg,R.ok_bind,tD,tE,tG,if_true,h1,h2,hi]
  | false=>rw [hb] at h2; simp -implicitDefEqProofs only [ym,x5,KW,zU,zb,zd,eL,ze,za,zm,asB,Tgt.asg,R.ok_bind,tD,tE,tG,if_false,tW,h1,h2]
 have e3:(l.filterMap fun j=>if vA cs j=true then some (zz j) else none)=(l.filter (vA cs)).map zz:=by
  clear hcp h5 hw hn hJ
  induction l with
  | nil=>rfl
  | cons j l ih =>
   rw [sZ,pU]
   cases vA cs j with
   | true=>rw [if_pos rfl,if_pos rfl,tF]; dsimp only; rw [ih]
   | false=>rw [if_neg (by decide),if_neg (by decide)]; dsimp only; rw [ih]
 rw [e3] at hcp
 have hk:=xA (ys:=(l.filter (vA cs)).map zz) (by rw [tP]; have:=List.length_filter_le (vA cs) l; omega)
 rw [tJW]
 generalize (l.filter (vA cs)).map zz=Q at *
 generalize l.map zz=BK at *
 generalize S (cs.map lo1)=V at *
 generalize S cs=W at *
 simp -implicitDefEqProofs only [TJW,yC,xx,xB,qf,uO,zw,zh,zl,zr,zb,zZ,wY,R.ok_bind,tF,tV,tH,tM,tS,tK,tO,tL,tD,tE,tG,tI,Nat.reduceAdd,Nat.reduceSub,tZ,h5,hcp,hk]
def Ka:Option Jn->Bool
 | none=>false
 | some j=>inS "-" (S (jtx j))
def QC (cs:List Nat)(p:Nat):Bool:=decide (2<=p)&&(decide (cs[p-1]?=some 45)&&(w6 cs (p-2)&&w6 cs p))
def z1M (cs:List Nat)(p:Nat)(l:List Jn)(a b:Int)(m1 m2:Nat):Bool:=(decide (a<=(m1:Int))&&decide (b<=(m2:Int)))&&Ka (WS cs p l)
def z02 (m s:Bool)(d:D):D:=if m=true then .str "part" else if s=true then .str "soft" else d
theorem jd (x y:Int):decide (x<y)=!decide (y<=x):=by
 by_cases h:x<y
 ·rw [decide_eq_true h,decide_eq_false (by omega)]; rfl
 ·rw [decide_eq_false h,decide_eq_true (by omega)]; rfl
theorem z0n (b:Option Jn):isN true (uD b) .non=.ok (.bl b.isSome):=by cases b<;>rfl
theorem z4N (j:Jn):uh (.str "-") (zz j)=.ok (.bl (Ka (some j))):=rfl
theorem QL (RR:D)(a b:Int)(ha:ixD RR (.str "ahead")=.ok (.int a))(hb:ixD RR (.str "behind")=.ok (.int b))(cs:List Nat)(hc:∀ c∈cs,c<128)(hl:cs.length<=40)(p:Nat)(hp:p<=cs.length)(l:List Jn)(hJ:∀ j∈l,Jk j)(m1 m2:Nat)
  (h1:yz [.str (S cs),.int (p:Nat)]=.ok (.int (m1:Nat))) (h2:yq [.str (S cs),.int (p:Nat)]=.ok (.int (m2:Nat))) :
  yW [.lst (l.map zz),RR,.str (S cs),.int (p:Nat)]=.ok (.bl (z1M cs p l a b m1 m2)):=by
 have ht:=JX cs hc hl p hp l hJ
 unfold z1M
 have e1:=jd (m1:Int) a
 have e2:=jd (m2:Int) b
 generalize decide (a<=(m1:Int))=d1 at *
 generalize decide (b<=(m2:Int))=d2 at *
 generalize l.map zz=BK at *
 generalize S cs=W at *
 generalize ((p:Nat):Int)=P at *
 generalize ((m1:Nat):Int)=M1 at *
 generalize ((m2:Nat):Int)=M2 at *
 cases d1 with
 | false=>simp -implicitDefEqProofs only [yW,wz,zx,zw,zh,zl,zr,sIf,zb,eC,zd,eL,ze,za,zm,bOr,wK,asB,R.ok_bind,tF,tV,tH,tM,tS,tK,tO,tL,tD,tE,Nat.reduceAdd,Nat.reduceSub,tZ,wF,if_true,h1,ha,e1,pD,rG]
 | true =>
  cases d2 with
  | false=>simp -implicitDefEqProofs only [yW,wz,zx,zw,zh,zl,zr,sIf,zb,eC,zd,eL,ze,za,zm,bOr,wK,asB,R.ok_bind,tF,tV,tH,tM,tS,tK,tO,tL,tD,tE,Nat.reduceAdd,Nat.reduceSub,tZ,wF,if_true,if_false,tW,h1,ha,e1,h2,hb,e2,pD,rH,rG,pT]
  | true =>
   cases hk:WS cs p l with
   | none =>
    rw [hk] at ht
    have hn:=z0n none
    have eh:Ka none=false:=rfl
    generalize uD none=X at *
    simp -implicitDefEqProofs only [yW,wz,zx,zw,zh,zl,zr,sIf,zb,eC,zd,eL,ze,za,zm,bOr,wK,asB,R.ok_bind,tF,tV,tH,tM,tS,tK,tO,tL,tD,tE,tG,tI,Nat.reduceAdd,Nat.reduceSub,tZ,wF,if_false,tW,h1,ha,e1,h2,hb,e2,rH,ht,hn,Option.isSome_none,eh,pT]
   | some j =>
    rw [hk] at ht
    have hn:=z0n (some j)
    have hi:=z4N j
    have hn:isN true (zz j) .non=.ok (.bl true):=hn
    have ht:wj [.lst BK,.str W,.int P]=.ok (zz j):=ht
    generalize zz j=X at *
    generalize Ka (some j)=r at *
    simp -implicitDefEqProofs only [yW,wz,zx,zw,zh,zl,zr,sIf,zb,eC,zd,eL,ze,za,zm,bOr,wK,asB,R.ok_bind,tF,tV,tH,tM,tS,tK,tO,tL,tD,tE,tG,tI,Nat.reduceAdd,Nat.reduceSub,tZ,wF,if_true,if_false,tW,h1,ha,e1,h2,hb,e2,rH,ht,hn,hi,rD]
theorem z4D (cs:List Nat)(i:Nat)(c:Nat)(hg:cs[i]?=some c):(one c==("-":Str))=decide (cs[i]?=some 45):=by
 have c1:(one 45)=("-":Str):=rfl
 rw [<- c1,hg]
 show (S [c]==S [45])=_
 rw [z2J]
 congr 1
 simp
theorem KQ (cs:List Nat)(hc:∀ c∈cs,c<128)(hl:cs.length<=40)(p:Nat)(h0:1<=p)(hp:p<cs.length):xj [.str (S cs),.int (p:Nat)]=.ok (.bl (QC cs p)):=by
 unfold QC
 by_cases h2:2<=p
 ·have e1:decide (((p:Nat):Int)<2)=false:=decide_eq_false (by omega)
  have g1:cs[p-1]?=some cs[p-1]:=tU (by omega)
  have g2:cs[p-2]?=some cs[p-2]:=tU (by omega)
  have g3:cs[p]?=some cs[p]:=tU hp
  have i1:((p:Nat):Int)-1=((p-1:Nat):Int):=by omega
  have i2:((p:Nat):Int)-2=((p-2:Nat):Int):=by omega
  have x1:=jo (cs:=cs) (i:=((p:Nat):Int)-1) (by omega) (by omega) (by rw [i1,rK]; exact g1)
  have x2:=jo (cs:=cs) (i:=((p:Nat):Int)-2) (by omega) (by omega) (by rw [i2,rK]; exact g2)
  have x3:=jo (cs:=cs) (i:=((p:Nat):Int)) (by omega) (by omega) (by rw [rK]; exact g3)
  have l2:=vO cs[p-2] (hc _ (rM _))
  have l3:=vO cs[p] (hc _ (rM _))
  have q1:eqR true (.str (one cs[p-1])) (.str "-")=.ok (.bl (!decide (cs[p-1]?=some 45))):=by rw [ub,if_pos rfl,z4D cs (p-1) _ g1]
  rw [decide_eq_true h2,rD,uA g2,uA g3]
  generalize decide (cs[p-1]?=some 45)=d at *
  generalize isL cs[p-2]=b2 at *
  generalize isL cs[p]=b3 at *
  generalize one cs[p-1]=z1 at *
  generalize one cs[p-2]=z2 at *
  generalize one cs[p]=z3 at *
  generalize ((p:Nat):Int)=P at *
  generalize S cs=W at *
  cases d with
  | false=>simp -implicitDefEqProofs only [xj,wW,zx,zw,zh,zr,sIf,zb,eC,zd,eL,ze,za,zm,bOr,wK,asB,R.ok_bind,tF,tV,tH,tM,tK,tO,tL,tD,tE,Nat.reduceAdd,Nat.reduceSub,tZ,wt,wF,if_true,if_false,tW,e1,x1,q1,pD,rG]
  | true =>
   cases b2 with
   | false=>simp -implicitDefEqProofs only [xj,wW,zx,zw,zh,zr,sIf,zb,eC,zd,eL,ze,za,zm,bOr,wK,asB,R.ok_bind,tF,tV,tH,tM,tK,tO,tL,tD,tE,Nat.reduceAdd,Nat.reduceSub,tZ,wt,wF,if_false,tW,e1,x1,q1,rH,x2,l2,rG,rD]
   | true=>simp -implicitDefEqProofs only [xj,wW,zx,zw,zh,zr,sIf,zb,eC,zd,eL,ze,za,zm,bOr,wK,asB,R.ok_bind,tF,tV,tH,tM,tK,tO,tL,tD,tE,Nat.reduceAdd,Nat.reduceSub,tZ,wt,wF,if_true,if_false,tW,e1,x1,q1,rH,x2,l2,x3,l3,rD]
 ·have e1:decide (((p:Nat):Int)<2)=true:=decide_eq_true (by omega)
  rw [decide_eq_false h2,rG]
  generalize ((p:Nat):Int)=P at *
  generalize S cs=W at *
  simp -implicitDefEqProofs only [xj,wW,zx,zw,zh,zr,sIf,zb,eC,zd,eL,ze,za,zm,bOr,wK,asB,R.ok_bind,tF,tV,tH,tM,tK,tO,tL,tD,tE,Nat.reduceAdd,Nat.reduceSub,tZ,wt,wF,if_true,e1]
theorem K2 (BK RR W P:D)(m s:Bool)(h1:yW [BK,RR,W,P]=.ok (.bl m))(h2:xj [W,P]=.ok (.bl s)):yM [BK,RR,W,P]=.ok (z02 m s .non):=by
 unfold z02
 cases m with
 | true=>simp -implicitDefEqProofs only [yM,vN,zx,zw,zh,zr,sIf,zb,eC,eL,ze,za,zm,asB,R.ok_bind,tF,tV,tH,tM,tK,tO,tL,tD,tE,Nat.reduceAdd,Nat.reduceSub,tZ,if_true,h1]
 | false =>
  cases s with
  | true=>simp -implicitDefEqProofs only [yM,vN,zx,zw,zh,zr,sIf,zb,eC,eL,ze,za,zm,asB,R.ok_bind,tF,tV,tH,tM,tK,tO,tL,tD,tE,Nat.reduceAdd,Nat.reduceSub,tZ,if_true,if_false,tW,h1,h2]
  | false=>simp -implicitDefEqProofs only [yM,vN,zx,zw,zh,zr,sIf,zb,eC,eL,ze,za,zm,asB,R.ok_bind,tF,tV,tH,tM,tK,tO,tL,tD,tE,Nat.reduceAdd,Nat.reduceSub,tZ,if_false,tW,h1,h2]
def qR:Option Str->D
 | none=>.non
 | some z=>.str z
def EP1:Tn->R D:=(ya (eL (fun ds=>.ok (.tup ds)) (za (zb 0) (za (eL yM (za (zb 1) (za (zb 2) (za (zb 3) (za (zb 0) ze))))) ze))))
def KP2:Tn->R Bool:=(zm (zd (isN true) (zb 1) (eC .non)))
def EP2:Tn->R D:=(ya (eL (fun ds=>.ok (.tup ds)) (za (zb 0) (za (zb 1) ze))))
def TPL:Tn->R Fl:=(zh (kR (eL yO (za (zb 2) ze))) (zh (zl 3 (eL yA (za (zb 0) (za (zb 2) ze)))) (zh (zl 4 (yE [none,some 3,some 1,some 2] (iL Zl (za (eC (.int 1)) (za (eL yy (za (zb 2) ze)) ze))) (.one 0) (fun _=>.ok true) EP1)) (zr (yE [none,none] (zZ (zb 4)) (.many [0,1]) KP2 EP2)))))
theorem tPL:xo=zw 5 TPL:=rfl
theorem ZV (a n:Nat):Builtin.Str.strSliceIndices (some (a:Int)) none 1 n=Builtin.Str.strSliceIndices (some (a:Int)) (some (n:Int)) 1 n:=by
 have h1:¬ ((a:Int)<0):=by omega
 have h2:¬ ((n:Int)<0):=by omega
 have e:max (0:Int) (min (n:Int) (n:Int))=(n:Int):=by omega
 simp only [Builtin.Str.strSliceIndices,h1,h2,if_false,e,show ((1:Int)>0)=True from by simp,if_true]
theorem Y8 (b n:Nat):Builtin.Str.strSliceIndices none (some (b:Int)) 1 n=Builtin.Str.strSliceIndices (some ((0:Nat):Int)) (some (b:Int)) 1 n:=by
 have h1:¬ (((0:Nat):Int)<0):=by omega
 have h2:¬ ((b:Int)<0):=by omega
 have e:max (0:Int) (min ((0:Nat):Int) (n:Int))=0:=by omega
 simp only [Builtin.Str.strSliceIndices,h1,h2,if_false,e,show ((1:Int)>0)=True from by simp,if_true]
theorem Xd (cs:List Nat)(b:Nat)(hb:b<=cs.length):Txt.slice (S cs) (some (b:Int)) none=S (cs.drop b):=by
 have h:=uk cs b (cs.length-b) hb
 rw [rN (by rw [rF]; omega),show (b:Int)+((cs.length-b:Nat):Int)=((cs.length:Nat):Int) by omega] at h
 rw [<- h]
 unfold Txt.slice
 rw [xw,ZV]
theorem Jj (cs:List Nat)(b:Nat):Txt.slice (S cs) none (some (b:Int))=S (cs.take b):=by
 have h:=uk cs 0 b (rO _)
 rw [List.drop_zero,show ((0:Nat):Int)+(b:Int)=(b:Int) by omega] at h
 rw [<- h]
 unfold Txt.slice
 rw [xw,Y8]
theorem z1S (cs:List Nat)(hl:cs.length<=1000)(lo hi:Option Int):slD (.str (S cs)) lo hi=.ok (.str (Txt.slice (S cs) lo hi)):=by
 show (if (S cs).length<=sizeLine then _ else _)=_
 rw [if_pos (by rw [xw,sizeLine_eq]; omega)]
def mid (cs:List Nat)(b p:Nat):List Nat:=(cs.drop b).take (p-b)
theorem z0M (cs:List Nat)(hl:cs.length<=1000)(b p:Nat)(h1:b<=p)(h2:p<=cs.length):slD (.str (S cs)) (some (b:Int)) (some (p:Int))=.ok (.str (S (mid cs b p))):=by
 have:=uk cs b (p-b) (by omega)
 rw [show (b:Int)+((p-b:Nat):Int)=(p:Int) by omega] at this
 rw [z1S cs hl,this]
 rfl
theorem j6 (cs:List Nat)(hl:cs.length<=1000)(b:Nat)(h1:b<=cs.length):slD (.str (S cs)) (some (b:Int)) none=.ok (.str (S (cs.drop b))):=by
 rw [z1S cs hl,Xd cs b h1]
theorem UJ (cs:List Nat)(hl:cs.length<=1000)(b:Nat):slD (.str (S cs)) none (some (b:Int))=.ok (.str (S (cs.take b))):=by
 rw [z1S cs hl,Jj cs b]
theorem z4b {α:Type}(xs:List α)(y:α):jN (xs++[y]) none (some (-1))=xs:=by
 unfold jN
 have e1:HT.sIx (xs++[y]).length 0 none=0:=rfl
 have e2:HT.sIx (xs++[y]).length (xs++[y]).length (some (-1))=xs.length:=by
  rw [tN]
  unfold HT.sIx
  simp
  omega
 rw [e1,e2,List.drop_zero,Nat.sub_zero,List.take_append_of_le_length (tY _),List.take_length]
def PL (jf:Nat->Option Str)(n:Nat):List (Nat×Str):=(List.range n).filterMap fun i=>(jf (1+i)).map fun z=>(1+i,z)
def kc (p:Nat×Str):D:=.tup [.int (p.1:Nat),.str p.2]
theorem Qu (jf:Nat->Option Str)(n:Nat):(PL jf n).length<=n:=by
 have:=List.length_filterMap_le (fun i=>(jf (1+i)).map fun z=>(1+i,z)) (List.range n)
 rw [rS] at this
 exact this
theorem YA (i:Int)(o:Option Str):qX (.tup [.int i,qR o])=.ok (.tup [.int i,qR o]):=by cases o<;>rfl
theorem z27 (RR:D)(cs:List Nat)(ho:∀ c∈cs,okS c)(h1:1<=cs.length)(hl:cs.length<=40)(l:List Jn)(hJ:∀ j∈l,Jk j)(hn:l.length<=1000)(jf:Nat->Option Str)
  (hj:∀ p,1<=p->p<cs.length->yM [.lst ((l.filter (vA cs)).map zz),RR,.str (S cs),.int (p:Nat)]=.ok (qR (jf p))) :
  xo [.lst (l.map zz),RR,.str (S cs)]=.ok (.lst ((PL jf (cs.length-1)).map kc)):=by
 have hc:∀ c∈cs,c<128:=fun c h=>(ho c h).lt
 have hw:zJ [.str (S cs)]=.ok (.bl true):=by
  rw [qJ cs h1 hl]
  have:(cs.all fun c=>decide (okS c))=true:=pV.mpr fun c h=>decide_eq_true (ho c h)
  rw [this]
 have hne:=Kx _ hw
 have hjw:=kh cs hc hl l hJ hn
 have hlen:=jk cs (by omega)
 have e1:Zl [D.int 1,.int (cs.length:Nat)]=.ok (rng 1 (((cs.length:Nat):Int)-1).toNat):=W8 (by omega) (by omega) (by omega) (by omega)
 rw [show (((cs.length:Nat):Int)-1).toNat=cs.length-1 by omega] at e1
 have hc1:=kI (f:=ym (Tgt.one 0).asg (fun _=>.ok true) EP1 [none,some (.lst ((l.filter (vA cs)).map zz)),some RR,some (.str (S cs))]) (lo:=1) (n:=cs.length-1) (o:=fun i=>some (D.tup [.int ((1:Int)+(i:Nat)),qR (jf (1+i))])) fun i hi=>by
  have h:=hj (1+i) (by omega) (by omega)
  rw [show (((1+i:Nat):Int))=(1:Int)+(i:Nat) by omega] at h
  have hi2:=YA ((1:Int)+(i:Nat)) (jf (1+i))
  generalize qR (jf (1+i))=X at *
  generalize (1:Int)+((i:Nat):Int)=I at *
  generalize S cs=W at *
  generalize (l.filter (vA cs)).map zz=BK at *
  simp -implicitDefEqProofs only [ym,x5,EP1,zb,eL,ze,za,Tgt.asg,R.ok_bind,tD,tE,tG,if_true,zU,h,hi2]
 have e2:((List.range (cs.length-1)).filterMap fun i=>some (D.tup [.int ((1:Int)+(i:Nat)),qR (jf (1+i))]))=(List.range (cs.length-1)).map fun i=>D.tup [.int ((1:Int)+(i:Nat)),qR (jf (1+i))]:=by
  rw [List.filterMap_eq_map']
 rw [e2] at hc1
 have hc2:x8 (ym (Tgt.many [0,1]).asg KP2 EP2 [none,none]) ((List.range (cs.length-1)).map fun i=>D.tup [.int ((1:Int)+(i:Nat)),qR (jf (1+i))])=.ok ((List.range (cs.length-1)).filterMap fun i=>((jf (1+i)).map fun z=>(1+i,z)).map kc):=yI fun i _=>by
  have ei:(((1+i:Nat):Int))=(1:Int)+(i:Nat):=by omega
  unfold kc
  cases jf (1+i) with
  | none =>
   have e1:isN true D.non D.non=.ok (.bl false):=rfl
   show ym (Tgt.many [0,1]).asg KP2 EP2 [none,none] (D.tup [.int ((1:Int)+(i:Nat)),.non])=.ok none
   generalize (1:Int)+((i:Nat):Int)=I at *
   unfold ym
   have ea:(Tgt.many [0,1]).asg (D.tup [.int I,.non]) [none,none]=.ok [some (.int I),some .non]:=rfl
   simp -implicitDefEqProofs only [x5,KP2,ea,zb,eC,zd,zm,asB,R.ok_bind,tD,tE,if_false,tW,e1]
  | some z =>
   have e1:isN true (D.str z) D.non=.ok (.bl true):=rfl
   show ym (Tgt.many [0,1]).asg KP2 EP2 [none,none] (D.tup [.int ((1:Int)+(i:Nat)),.str z])=.ok (some (.tup [.int ((1+i:Nat):Int),.str z]))
   rw [ei]
   have hi2:=YA ((1:Int)+(i:Nat)) (some z)
   have hi2:qX (.tup [.int ((1:Int)+(i:Nat)),.str z])=.ok (.tup [.int ((1:Int)+(i:Nat)),.str z]):=hi2
   generalize (1:Int)+((i:Nat):Int)=I at *
   unfold ym
   have ea:(Tgt.many [0,1]).asg (D.tup [.int I,.str z]) [none,none]=.ok [some (.int I),some (.str z)]:=rfl
   simp -implicitDefEqProofs only [x5,KP2,EP2,ea,zb,eC,zd,eL,ze,za,zm,asB,R.ok_bind,tD,tE,if_true,e1,zU,hi2]
 have e3:((List.range (cs.length-1)).filterMap fun i=>((jf (1+i)).map fun z=>(1+i,z)).map kc)=(PL jf (cs.length-1)).map kc:=by
  unfold PL
  rw [List.map_filterMap]
 rw [e3] at hc2
 have hk1:=xA (ys:=(List.range (cs.length-1)).map fun i=>D.tup [.int ((1:Int)+(i:Nat)),qR (jf (1+i))]) (by rw [tP,rS]; omega)
 have hk2:=xA (ys:=(PL jf (cs.length-1)).map kc) (by rw [tP]; have:=Qu jf (cs.length-1); omega)
 rw [tPL]
 generalize (PL jf (cs.length-1)).map kc=Z at *
 generalize ((List.range (cs.length-1)).map fun i=>D.tup [.int ((1:Int)+(i:Nat)),qR (jf (1+i))])=Y at *
 generalize (l.filter (vA cs)).map zz=OW at *
 generalize l.map zz=BK at *
 generalize rng 1 (cs.length-1)=RG at *
 generalize ((cs.length:Nat):Int)=L at *
 generalize S cs=W at *
 simp -implicitDefEqProofs only [TPL,yC,xx,xB,qf,uO,zw,zh,zl,zr,kR,zb,eC,eL,ze,za,zZ,iL,wY,R.ok_bind,tF,tV,tH,tM,tS,tK,tO,tL,tD,tE,tG,tI,Nat.reduceAdd,Nat.reduceSub,tZ,hne,hjw,hlen,e1,hc1,hk1,hc2,hk2]
theorem Xi (B RR d:D)(h:zJ [d]=.ok (.bl false)):xo [B,RR,d]=.err "BadWord":=by
 have hne:=UI _ h
 rw [tPL]
 simp -implicitDefEqProofs only [TPL,yC,xx,xB,qf,zw,zh,zl,zr,kR,zb,eC,eL,ze,za,zZ,iL,R.ok_bind,R.err_bind,tF,tV,tH,tM,tS,tK,tO,tL,tD,tE,Nat.reduceAdd,Nat.reduceSub,tZ,hne]
def bPt:Tn->R Fl:=(zh (wN 3 (ya (eL (fun ds=>.ok (.tup ds)) (za (eSl (zb 2) (yb (zb 4)) (yb (zb 5))) (za (zb 6) ze))))) (zl 4 (zb 5)))
def TPD:Tn->R Fl:=(zh (zl 3 (eL (fun ds=>.ok (.lst ds)) ze)) (zh (zl 4 (eC (.int 0))) (zh (yJ (zZ (eL xo (za (zb 0) (za (zb 1) (za (zb 2) ze))))) (.many [5,6]) bPt) (zh (wN 3 (eL (fun ds=>.ok (.tup ds)) (za (eSl (zb 2) (yb (zb 4)) yT) (za (eC (.str "blank")) ze)))) (zr (zb 3))))))
theorem tPD:yl=zw 7 TPD:=rfl
def tx (s:List Nat)(z:Str):D:=.tup [.str (S s),.str z]
def Up (n:Nat):Nat->List (Nat×Str)->Prop
 | b,[]=>b<=n
 | b,q::r=>b<=q.1/\q.1<=n/\Up n q.1 r
def TXh (cs:List Nat):Nat->List (Nat×Str)->List D
 | _,[]=>[]
 | b,q::r=>tx (mid cs b q.1) q.2::TXh cs q.1 r
def lastP:Nat->List (Nat×Str)->Nat
 | b,[]=>b
 | _,q::r=>lastP q.1 r
theorem Up.last {n:Nat}:∀ {P:List (Nat×Str)} {b:Nat},Up n b P->lastP b P<=n
 | [],_,h=>h
 | q::r,_,h=>(Up.last (P:=r) (b:=q.1) h.2.2:lastP q.1 r<=n)
theorem WH (cs:List Nat):∀ (P:List (Nat×Str)) (b:Nat),(TXh cs b P).length=P.length
 | [],_=>rfl
 | q::r,b=>by unfold TXh; rw [tH,tH,WH cs r]
theorem z0U (s:List Nat)(z:Str):qX (tx s z)=.ok (tx s z):=rfl
theorem z1H (B RR:D)(cs:List Nat)(hl:cs.length<=40)(b p:Nat)(z:Str)(h1:b<=p)(h2:p<=cs.length)(L:List D)(hL:L.length<1000) :
  bPt [some B,some RR,some (.str (S cs)),some (.lst L),some (.int (b:Nat)),some (.int (p:Nat)),some (.str z)]=.ok (.nx [some B,some RR,some (.str (S cs)),some (.lst (L++[tx (mid cs b p) z])),some (.int (p:Nat)),some (.int (p:Nat)),some (.str z)]):=by
 have hs:=z0M cs (by omega) b p h1 h2
 have hi:=z0U (mid cs b p) z
 have ha:L.length<16777216:=by omega
 unfold tx at *
 generalize S (mid cs b p)=M at *
 generalize S cs=W at *
 generalize ((p:Nat):Int)=P at *
 generalize ((b:Nat):Int)=Bb at *
 simp -implicitDefEqProofs only [bPt,wa,wG,wJ,zU,zh,zl,zb,eL,ze,za,eSl,yb,R.ok_bind,tD,tE,tG,tI,hs,hi,ha]
theorem UQ (B RR:D)(cs:List Nat)(hl:cs.length<=40):∀ (P:List (Nat×Str)) (b:Nat) (L:List D) (y5 y6:Option D),Up cs.length b P->L.length+P.length<=900 ->
  ∃ z5 z6,yY (Tgt.many [5,6]).asg bPt (P.map kc) [some B,some RR,some (.str (S cs)),some (.lst L),some (.int (b:Nat)),y5,y6]=.ok (.nx [some B,some RR,some (.str (S cs)),some (.lst (L++TXh cs b P)),some (.int (lastP b P:Nat)),z5,z6])
 | [],b,L,y5,y6,_,_=>⟨y5,y6,by
  show R.ok _=_
  unfold TXh lastP
  rw [sF]⟩
 | q::r,b,L,y5,y6,hU,hL=>by
  obtain ⟨z5,z6,e⟩:=UQ B RR cs hl r q.1 (L++[tx (mid cs b q.1) q.2]) (some (.int (q.1:Nat))) (some (.str q.2)) hU.2.2 (by rw [tN]; rw [tH] at hL; simp; omega)
  refine ⟨z5,z6,?_⟩
  rw [tH] at hL
  rw [tF,xh]
  show (bPt [some B,some RR,some (.str (S cs)),some (.lst L),some (.int (b:Nat)),some (.int (q.1:Nat)),some (.str q.2)]).bind _=_
  rw [z1H B RR cs hl b q.1 q.2 hU.1 hU.2.1 L (by omega),R.ok_bind,xY,e,sS]
  rfl
def TXT (cs:List Nat)(P:List (Nat×Str)):List D:=TXh cs 0 P++[tx (cs.drop (lastP 0 P)) "blank"]
theorem z0H (RR:D)(cs:List Nat)(hl:cs.length<=40)(BK:D)(P:List (Nat×Str))(hU:Up cs.length 0 P)(hP:P.length<=40)(hp:xo [BK,RR,.str (S cs)]=.ok (.lst (P.map kc))) :
  yl [BK,RR,.str (S cs)]=.ok (.lst (TXT cs P)):=by
 obtain ⟨z5,z6,e⟩:=UQ BK RR cs hl P 0 [] none none hU (by simp; omega)
 have hs:=j6 cs (by omega) (lastP 0 P) hU.last
 have ha:(TXh cs 0 P).length<16777216:=by rw [WH]; omega
 rw [tL] at e
 rw [tPD]
 unfold TXT tx
 generalize TXh cs 0 P=TL at *
 generalize S (cs.drop (lastP 0 P))=V at *
 generalize ((lastP 0 P:Nat):Int)=LP at *
 generalize P.map kc=PP at *
 generalize S cs=W at *
 have e:yY (Tgt.many [5,6]).asg bPt PP [some BK,some RR,some (.str W),some (.lst []),some (.int 0),none,none]=.ok (.nx [some BK,some RR,some (.str W),some (.lst TL),some (.int LP),z5,z6]):=e
 have eF:yJ (zZ (eL xo (za (zb 0) (za (zb 1) (za (zb 2) ze))))) (.many [5,6]) bPt [some BK,some RR,some (.str W),some (.lst []),some (.int 0),none,none]=_:=xt (by simp -implicitDefEqProofs only [zb,eL,ze,za,zZ,wY,R.ok_bind,tD,tE,hp]) e
 simp -implicitDefEqProofs only [TPD,wa,wG,wJ,zw,zh,zl,zr,zb,eC,eL,ze,za,eSl,yT,yb,R.ok_bind,tF,tV,tH,tM,tS,tK,tO,tL,tD,tE,tG,tI,Nat.reduceAdd,Nat.reduceSub,tZ,eF,hs,ha]
theorem Xz (B RR d:D)(h:zJ [d]=.ok (.bl false)):yl [B,RR,d]=.err "BadWord":=by
 have hp:=Xi B RR d h
 rw [tPD]
 have eF:∀ x y,yJ (zZ (eL xo (za (zb 0) (za (zb 1) (za (zb 2) ze))))) (.many [5,6]) bPt [some B,some RR,some d,x,y,none,none]=.err "BadWord":=fun x y=>by
  unfold yJ
  simp -implicitDefEqProofs only [zb,eL,ze,za,zZ,R.ok_bind,R.err_bind,tD,tE,hp]
 simp -implicitDefEqProofs only [TPD,wa,zw,zh,zl,zr,zb,eC,eL,ze,R.ok_bind,R.err_bind,tF,tV,tH,tM,tS,tK,tO,tL,tG,tI,Nat.reduceAdd,Nat.reduceSub,tZ,eF]
theorem UC (jf:Nat->Option Str)(n:Nat):∀ (xs:List Nat) (b:Nat),xs.Pairwise (·<·)->(∀ x∈xs,b<=1+x/\1+x<=n)->b<=n->Up n b (xs.filterMap fun i=>(jf (1+i)).map fun z=>(1+i,z))
 | [],b,_,_,hb=>hb
 | x::xs,b,hp,hx,hb=>by
  obtain ⟨p1,p2⟩:=List.pairwise_cons.mp hp
  obtain ⟨q1,q2⟩:=hx x tQ
  rw [sZ]
  cases jf (1+x) with
  | none=>exact UC jf n xs b p2 (fun y hy=>hx y (tR _ hy)) hb
  | some z =>
   exact ⟨q1,q2,UC jf n xs (1+x) p2 (fun y hy=>⟨by have:=p1 y hy; omega,(hx y (tR _ hy)).2⟩) q2⟩
theorem z0N (l:List Jn):D.imms (l.map zz)=true:=uH (fun _=>rfl) l
abbrev K10:List Key:=[.inr "width",.inr "height",.inr "part",.inr "twin",.inr "over",.inr "lone",.inr "late",.inr "gap",.inr "ahead",.inr "behind"]
def dR (a0 a1 a2 a3 a4 a5 a6 a7 a8 a9:Int):D:=.dic K10 [.int a0,.int a1,.int a2,.int a3,.int a4,.int a5,.int a6,.int a7,.int a8,.int a9]
theorem QA (a0 a1 a2 a3 a4 a5 a6 a7 a8 a9:Int):ixD (dR a0 a1 a2 a3 a4 a5 a6 a7 a8 a9) (.str "ahead")=.ok (.int a8):=rfl
theorem V3 (a0 a1 a2 a3 a4 a5 a6 a7 a8 a9:Int):ixD (dR a0 a1 a2 a3 a4 a5 a6 a7 a8 a9) (.str "behind")=.ok (.int a9):=rfl
theorem Ks (a0 a1 a2 a3 a4 a5 a6 a7 a8 a9:Int):yn [dR a0 a1 a2 a3 a4 a5 a6 a7 a8 a9]=.ok (dR a0 a1 a2 a3 a4 a5 a6 a7 a8 a9):=by
 show (if D.imms [.int a0,.int a1,.int a2,.int a3,.int a4,.int a5,.int a6,.int a7,.int a8,.int a9]=true then R.ok (dR a0 a1 a2 a3 a4 a5 a6 a7 a8 a9) else R.bad)=_
 exact if_pos (qj [a0,a1,a2,a3,a4,a5,a6,a7,a8,a9])
theorem Wt (a0 a1 a2 a3 a4 a5 a6 a7 a8 a9:Int)(A:List Key)(B:List D)(k0:zT A B (.inr "width")=some (.int a0))(k1:zT A B (.inr "height")=some (.int a1))(k2:zT A B (.inr "part")=some (.int a2))(k3:zT A B (.inr "twin")=some (.int a3))(k4:zT A B (.inr "over")=some (.int a4))(k5:zT A B (.inr "lone")=some (.int a5))(k6:zT A B (.inr "late")=some (.int a6))(k7:zT A B (.inr "gap")=some (.int a7))(k8:zT A B (.inr "ahead")=some (.int a8))(k9:zT A B (.inr "behind")=some (.int a9)):L2.hitsD A B K10 [.int a0,.int a1,.int a2,.int a3,.int a4,.int a5,.int a6,.int a7,.int a8,.int a9]=some true:=by
 simp only [L2.hitsD,k0,k1,k2,k3,k4,k5,k6,k7,k8,k9,D.isS,eqS,Bool.and_self,if_true,pI,beq_self_eq_true]
theorem z4W (a0 a1 a2 a3 a4 a5 a6 a7 a8 a9:Int):eqR true (dR a0 a1 a2 a3 a4 a5 a6 a7 a8 a9) (dR a0 a1 a2 a3 a4 a5 a6 a7 a8 a9)=.ok (.bl false):=by
 have h:wB K10 [.int a0,.int a1,.int a2,.int a3,.int a4,.int a5,.int a6,.int a7,.int a8,.int a9] K10 [.int a0,.int a1,.int a2,.int a3,.int a4,.int a5,.int a6,.int a7,.int a8,.int a9]=some true:=by
  unfold wB
  rw [if_pos rfl]
  exact Wt _ _ _ _ _ _ _ _ _ _ _ _ rfl rfl rfl rfl rfl rfl rfl rfl rfl rfl
 show (match wB K10 [.int a0,.int a1,.int a2,.int a3,.int a4,.int a5,.int a6,.int a7,.int a8,.int a9] K10 [.int a0,.int a1,.int a2,.int a3,.int a4,.int a5,.int a6,.int a7,.int a8,.int a9] with
  | some b=>R.ok (D.bl (if true=true then !b else b))
  | none=>.bad)=_
 rw [h]
 rfl
theorem z4q (n:Int)(h1:1<=n):(yK "a" n).length=n.toNat:=by
 unfold yK
 rw [if_neg (by omega)]
 by_cases e:n=1
 ·subst e; rfl
 ·rw [if_neg (by
   have e1:(n==1)=false:=beq_false_of_ne e
   have e2:((("a":Str).length==0)=false):=by decide
   rw [e1,e2]; decide)]
  show ((List.replicate n.toNat (("a":Str)).cps).foldl (·++·) #[]).size=_
  rw [jH]
  show 0+n.toNat*1=_
  omega
theorem z1B (n:Int)(h1:1<=n)(h2:n<=41):jb (.str "a") (.int n)=.ok (.str (yK "a" n)):=by
 have e:("a":Str).length=1:=by decide
 exact if_pos ⟨by omega,by rw [e]; omega,by omega⟩
theorem Kd (z:Str)(h1:40<z.length)(h2:z.length<=1000):zJ [.str z]=.ok (.bl false):=by
 rw [Yq z]
 have e:z.cps.toList.length=z.length:=by simp [Str.length]
 exact qF _ (.inr (by omega)) (by omega)
theorem z4w (x y:Str):(x++y).length=x.length+y.length:=by
 have e:(x++y).cps.toList.length=_:=congrArg List.length (Wi x y)
 rw [tN] at e
 simpa [Str.length] using e
theorem Qv (n:Nat):∀ l:List Jn,y0 (eqF n) (l.map zz) (l.map zz)=some true
 | []=>rfl
 | j::l=>by
  rw [tF]
  unfold y0
  rw [Qv n l]
  have:eqF n (zz j) (zz j)=some true:=by
   have e:eqF n (zz j) (zz j)=some (S (jtx j)==S (jtx j)):=by cases n<;>rfl
   rw [e,beq_self_eq_true]
  rw [this]
  rfl
theorem z4X (l:List Jn):eqR true (.lst (l.map zz)) (.lst (l.map zz))=.ok (.bl false):=by
 refine Kk (fun _ _ h=>by cases h) ?_
 show (if (l.map zz).length=(l.map zz).length then y0 (eqF 11) (l.map zz) (l.map zz) else some false)=_
 rw [if_pos rfl]
 exact Qv 11 l
end K09
namespace K09
open PySem PyProof.Rows L2
theorem vp (ns:List Int)(hl:ns.length<=63)(k:Int)(hk:0<=k)(hk2:k<=1000):∃ v,zk [.frl (ns.map .int),.int k]=.ok (.int v)/\0<=v:=by
 have b0:-18446744073709551616<k:=by omega
 have b1:k<18446744073709551616:=by omega
 cases ns with
 | nil =>
  have e1:eqR false (.frl (([]:List Int).map .int)) (.lst [])=.ok (.bl true):=rfl
  refine ⟨(5003*k+17)*48271%2147483647,?_,sU _ (by decide)⟩
  generalize D.frl (([]:List Int).map .int)=X at *
  have m:∀ x:Int,zA (.int x) (.int 2147483647)=.ok (.int (x%2147483647)):=fun x=>zK (by decide)
  simp -implicitDefEqProofs only [zk,wM,zx,zw,zh,zl,zr,sIf,zb,eC,zd,eL,ze,za,zm,asB,R.ok_bind,tF,tV,tH,tM,tS,tK,tO,tL,tD,tE,Nat.reduceAdd,Nat.reduceSub,tZ,yw,if_true,Int.reduceLT,Int.reduceNeg,e1,Zn,ja,m]
 | cons n ns =>
  have hlen:((n::ns).length:Int)≠0:=by rw [tH]; omega
  have hpos:0<((n::ns).length:Int):=by rw [tH]; omega
  have hup:((n::ns).length:Int)<1073741824:=by omega
  have e1:eqR false (.frl ((n::ns).map .int)) (.lst [])=.ok (.bl false):=rfl
  have l1:yy [.frl ((n::ns).map .int)]=.ok (.int ((n::ns).length:Nat)):=by rw [Jl,tP]
  have q0:=sU k hlen
  have q1:=sR k hpos
  have m1:zA (.int k) (.int ((n::ns).length:Nat))=.ok (.int (k%((n::ns).length:Nat))):=zK hpos
  have d1:zC (.int k) (.int ((n::ns).length:Nat))=.ok (.int (k/((n::ns).length:Nat))):=zV hpos hup
  have hm:(k%((n::ns).length:Nat)).toNat<(n::ns).length:=by omega
  have hix:ixD (.frl ((n::ns).map .int)) (.int (k%((n::ns).length:Nat)))=.ok (.int (n::ns)[(k%((n::ns).length:Nat)).toNat]):=z1D (qi q0 (by rw [sM,tU hm]; rfl))
  generalize (n::ns)[(k%((n::ns).length:Nat)).toNat]=v at *
  refine ⟨(v+7919*(k/((n::ns).length:Nat))+101*k)*48271%2147483647,?_,sU _ (by decide)⟩
  have m:∀ x:Int,zA (.int x) (.int 2147483647)=.ok (.int (x%2147483647)):=fun x=>zK (by decide)
  generalize D.frl ((n::ns).map .int)=X at *
  generalize k/((n::ns).length:Nat)=q at *
  generalize k%((n::ns).length:Nat)=r at *
  generalize (((n::ns).length:Nat):Int)=L at *
  simp -implicitDefEqProofs only [zk,wM,zx,zw,zh,zl,zr,sIf,zb,eC,zd,eL,ze,za,zm,asB,R.ok_bind,tF,tV,tH,tM,tS,tK,tO,tL,tD,tE,tG,tI,Nat.reduceAdd,Nat.reduceSub,tZ,yw,if_false,tW,Int.reduceLT,Int.reduceNeg,e1,Zn,ja,m,l1,m1,d1,hix]
def lowC (c:Nat):Prop:=c∈AZ.cps.toList
theorem z2v:AZ.length=26:=by decide +kernel
theorem lowC.ok {c:Nat}(h:lowC c):okS c:=(by decide +kernel:∀ c∈AZ.cps.toList,c∈Z2.cps.toList) c h
def bL (A:Str):Tn->R Fl:=(zh (zl 6 (zd zA (zd wD (zd zy (zb 0) (zd wD (eC (.int 7919)) (zb 5))) (zd zy (eC (.int 48271)) (zd wD (zb 5) (zb 5)))) (eC (.int 1000003)))) (zl 4 (zd zy (zb 4) (zd ixD (zb 3) (zd zA (zb 6) (zd ixD (eL (fun ds=>.ok (.lst ds)) (za (eC (.int 26)) (za (eC (.int 3)) ze))) (eL kN (za (zb 2) ze))))))))
theorem z46 (A:Str)(lA:A.length=26)(hA:∀ c∈A.cps.toList,lowC c)(n m:D)(b:Bool)(x:Int)(hn:n=.int x)(cs:List Nat)(hl:cs.length<=1000)(j:Int)(j0:0<=j)(j1:j<=1000)(x6:Option D) :
  ∃ (c:Nat) (y6:Option D),lowC c/\bL A [some n,some m,some (.bl b),some (.str A),some (.str (S cs)),some (.int j),x6]=.ok (.nx [some n,some m,some (.bl b),some (.str A),some (.str (S (cs++[c]))),some (.int j),y6]):=by
 subst hn
 have b0:-18446744073709551616<j:=by omega
 have b1:j<18446744073709551616:=by omega
 have jj:j*j<=1000*1000:=Int.mul_le_mul j1 j1 j0 (by decide)
 have jn:0<=j*j:=Int.mul_nonneg j0 j0
 have b2:-18446744073709551616<48271+j*j:=by omega
 have b3:48271+j*j<18446744073709551616:=by omega
 have m1:zA (.int ((x+7919*j)*(48271+j*j))) (.int 1000003)=.ok (.int ((x+7919*j)*(48271+j*j)%1000003)):=zK (by decide)
 have i1:kN [.bl b]=.ok (.int (if b then 1 else 0)):=Kz
 have i2:∃ w:Int,0<w/\w<=26/\ixD (.lst [.int 26,.int 3]) (.int (if b then 1 else 0))=.ok (.int w):=by
  cases b
  ·exact ⟨26,by decide,by decide,UH⟩
  ·exact ⟨3,by decide,by decide,z2m⟩
 obtain ⟨w,w0,w1,i2⟩:=i2
 generalize (x+7919*j)*(48271+j*j)%1000003=u at *
 have m2:zA (.int u) (.int w)=.ok (.int (u%w)):=zK w0
 have q0:=sU u (show w≠0 by omega)
 have q1:=sR u w0
 obtain ⟨c,hc,pc⟩:=Yy (z:=A) (i:=u%w) (p:=lowC) (by rw [lA]; decide) q0 (by rw [lA]; show _<((26:Nat):Int); omega) hA
 have ad:zy (.str (S cs)) (.str (one c))=.ok (.str (S (cs++[c]))):=by
  rw [Wq (by rw [xw,sizeLine_eq]; show cs.length+1<=_; omega)]
  exact congrArg (fun z=>R.ok (D.str z)) (Yx cs [c])
 refine ⟨c,some (.int u),pc,?_⟩
 generalize (if b then (1:Int) else 0)=ib at *
 generalize u%w=uw at *
 simp -implicitDefEqProofs only [bL,zh,zl,zb,eC,zd,eL,ze,za,R.ok_bind,tD,tE,tG,tI,yw,Int.reduceLT,Int.reduceNeg,Zn,ja,b0,b1,b2,b3,m1,i1,i2,m2,hc,ad]
theorem KO (SF:Tn->R Fl)(x M:Int)(b:Bool)(A:Str)(r:D)(y5 y6:Option D)(h:SF [some (.int x),some (.int M),some (.bl b),some (.str A),some (.str ""),none,none]=.ok (.nx [some (.int x),some (.int M),some (.bl b),some (.str A),some r,y5,y6])) :
  zw 7 (zh (zl 3 (eC (.str A))) (zh (zl 4 (eC (.str ""))) (zh SF (zr (zb 4))))) [.int x,.int M,.bl b]=.ok r:=by
 simp -implicitDefEqProofs only [zw,zh,zl,zr,zb,eC,R.ok_bind,tF,tV,tH,tM,tS,tK,tO,tL,tD,tE,tG,tI,Nat.reduceAdd,Nat.reduceSub,tZ,h]
theorem XT:("":Str)=S []:=by decide +kernel
theorem Vo (A:Str)(lA:A.length=26)(hA:∀ c∈A.cps.toList,lowC c)(x:Int)(m:Nat)(hm:m<=40)(b:Bool) :
  ∃ cs:List Nat,cs.length=m/\(∀ c∈cs,lowC c)/\zw 7 (zh (zl 3 (eC (.str A))) (zh (zl 4 (eC (.str ""))) (zh (yJ (iL wC (za (zb 1) ze)) (.one 5) (bL A)) (zr (zb 4))))) [.int x,.int (m:Nat),.bl b]=.ok (.str (S cs)):=by
 obtain ⟨τ',e2,cs,y5,y6,g1,g2,h⟩:=xP (asg:=(Tgt.one 5).asg) (body:=bL A)
  (fun i τ=>∃ (cs:List Nat) (y5 y6:Option D),cs.length=i/\(∀ c∈cs,lowC c)/\τ=[some (.int x),some (.int (m:Nat)),some (.bl b),some (.str A),some (.str (S cs)),y5,y6]) (rng 0 m) 0
  [some (.int x),some (.int (m:Nat)),some (.bl b),some (.str A),some (.str (S [])),none,none] ⟨[],none,none,rfl,fun c hc=>(nomatch hc),rfl⟩ (fun i q τ hd ⟨cs,y5,y6,l1,l2,h⟩=>by
   obtain ⟨hi,rfl⟩:=j5 hd
   subst h
   obtain ⟨c,z6,pc,hb⟩:=z46 A lA hA (.int x) (.int (m:Nat)) b x rfl cs (by omega) ((0:Int)+(i:Nat)) (by omega) (by omega) y6
   refine ⟨_,_,rfl,.inl hb,cs++[c],_,z6,by rw [tN,l1]; rfl,fun y hy=>?_,rfl⟩
   rcases sE.mp hy with z | z
   ·exact l2 y z
   ·rw [sN.mp z]; exact pc)
 subst h
 rw [Wx,tZ] at g1
 rw [<- XT] at e2
 refine ⟨cs,g1,g2,?_⟩
 have e1:wC [D.int m]=.ok (rng 0 m):=(uo (by omega) (by omega)).trans (by rw [rK])
 have eF:yJ (iL wC (za (zb 1) ze)) (.one 5) (bL A) [some (.int x),some (.int m),some (.bl b),some (.str A),some (.str ""),none,none]=_:=xt (by simp -implicitDefEqProofs only [zb,ze,za,iL,R.ok_bind,tD,tE,e1]) e2
 exact KO _ x m b A _ _ _ eF
theorem Wg (x:Int)(m:Nat)(hm:m<=40)(b:Bool):∃ cs:List Nat,cs.length=m/\(∀ c∈cs,lowC c)/\zH [.int x,.int (m:Nat),.bl b]=.ok (.str (S cs)):=Vo AZ z2v (fun _ h=>h) x m hm b
end K09
namespace K09
open PySem PyProof.Rows L2
theorem z0i:∀ c∈AZ.cps.toList,Txt.upper (one c)=one (c-32)/\c-32∈Z2.cps.toList:=by decide +kernel
abbrev SG:Str:="!\"'(),-./0123456789:;?---"
theorem z2r:SG.length=25:=by decide +kernel
theorem z3A:∀ c∈SG.cps.toList,okS c:=by unfold okS; decide +kernel
def kG (cs:List Nat)(a d:Nat):List Nat:=cs.take a++[d]++cs.drop (a+1)
theorem kM {cs:List Nat}{a d:Nat}(h:a<cs.length):(kG cs a d).length=cs.length:=by
 unfold kG
 rw [tN,tN,sW,rF]
 show min a cs.length+1+(cs.length-(a+1))=_
 omega
theorem kD {cs:List Nat}{a d:Nat}(h:∀ c∈cs,okS c)(hd:okS d):∀ c∈kG cs a d,okS c:=by
 intro c hc
 unfold kG at hc
 rcases sE.mp hc with z | z
 ·rcases sE.mp z with y | y
  ·exact h c (pM y)
  ·rw [sN.mp y]; exact hd
 ·exact h c (List.mem_of_mem_drop z)
theorem qz (x y:List Nat)(h:x.length+y.length<=1000):zy (.str (S x)) (.str (S y))=.ok (.str (S (x++y))):=by
 rw [Wq (by rw [xw,xw,sizeLine_eq]; omega),Yx]
theorem Qq (x:List Nat)(d:Nat)(h:x.length<=900):zy (.str (S x)) (.str (one d))=.ok (.str (S (x++[d]))):=qz x [d] (by show x.length+1<=_; omega)
theorem z3q {t:Tn->R D}{τ:Tn}{c:Nat}(h:t τ=.ok (.str (one c)))(hc:lowC c):vd upD t τ=.ok (.str (one (c-32))):=by
 rw [sm0 h]
 show (if (one c).length<=5592405 then R.ok (D.str (Txt.upper (one c))) else .bad)=_
 rw [if_pos (by show 1<=_; decide),(z0i c hc).1]
def U1:Tn->R Fl:=(sIf (zm (zd (eqR false) (zd zA (zd zC (zb 0) (eC (.int 5))) (eC (.int 4))) (eC (.int 1)))) (zl 3 (zd zy (zd zy (eSl (zb 3) yT (yb (zb 4))) (vd upD (zd ixD (zb 3) (zb 4)))) (eSl (zb 3) (yb (zd zy (zb 4) (eC (.int 1)))) yT))) zx)
def U2 (A:Str):Tn->R Fl:=(sIf (zm (zd (eqR false) (zd zA (zd zC (zb 0) (eC (.int 5))) (eC (.int 4))) (eC (.int 2)))) (zh (zl 5 (eC (.str A))) (zh (zl 6 (ya (zd ixD (zb 5) (zd zA (zd zC (zb 0) (eC (.int 23))) (eL yy (za (zb 5) ze)))))) (zl 3 (zd zy (zd zy (eSl (zb 3) yT (yb (zb 4))) (zb 6)) (eSl (zb 3) (yb (zd zy (zb 4) (eC (.int 1)))) yT))))) zx)
theorem z2A (n:Int)(f m:Option D)(cs:List Nat)(hl:cs.length<=40)(hc:∀ c∈cs,lowC c)(a:Nat)(ha:a<cs.length):∃ cs1:List Nat,cs1.length=cs.length/\(∀ c∈cs1,okS c) /\
  U1 [some (.int n),f,m,some (.str (S cs)),some (.int (a:Nat)),none,none]=.ok (.nx [some (.int n),f,m,some (.str (S cs1)),some (.int (a:Nat)),none,none]):=by
 have d5:zC (.int n) (.int 5)=.ok (.int (n/5)):=zV (by decide) (by decide)
 have m4:zA (.int (n/5)) (.int 4)=.ok (.int (n/5%4)):=zK (by decide)
 have ho:∀ c∈cs,okS c:=fun c h=>(hc c h).ok
 by_cases hq:n/5%4=1
 ·have q1:eqR false (.int (n/5%4)) (.int 1)=.ok (.bl true):=by rw [hq]; rfl
  have hg:cs[a]?=some cs[a]:=tU ha
  have hlow:lowC cs[a]:=hc _ (rM ha)
  have hix:ixD (.str (S cs)) (.int (a:Nat))=.ok (.str (one cs[a])):=jo (by omega) (by omega) (by rw [rK]; exact hg)
  generalize cs[a]=c at *
  have s1:=UJ cs (by omega) a
  have s2:=j6 cs (by omega) (a+1) (by omega)
  rw [show ((a+1:Nat):Int)=(a:Int)+1 by omega] at s2
  have a1:=Qq (cs.take a) (c-32) (by rw [sW]; omega)
  have a2:=qz (cs.take a++[c-32]) (cs.drop (a+1)) (by rw [tN,sW,rF]; show min a cs.length+1+_<=_; omega)
  have hu:vd upD (zd ixD (zb 3) (zb 4)) [some (.int n),f,m,some (.str (S cs)),some (.int (a:Nat)),none,none]=.ok (.str (one (c-32))):=z3q (by
   generalize ((a:Nat):Int)=A at *
   simp -implicitDefEqProofs only [zb,zd,R.ok_bind,tD,tE,hix]) hlow
  refine ⟨kG cs a (c-32),kM ha,kD ho (z0i c hlow).2,?_⟩
  show U1 _=.ok (.nx [some (.int n),f,m,some (.str (S (cs.take a++[c-32]++cs.drop (a+1)))),some (.int (a:Nat)),none,none])
  unfold U1
  generalize vd upD (zd ixD (zb 3) (zb 4))=TU at *
  generalize S (cs.take a++[c-32]++cs.drop (a+1))=X3 at *
  generalize S (cs.take a++[c-32])=X2 at *
  generalize S (cs.take a)=X1 at *
  generalize S (cs.drop (a+1))=X4 at *
  generalize S cs=W at *
  generalize ((a:Nat):Int)=A at *
  generalize n/5%4=v at *
  generalize n/5=u at *
  simp -implicitDefEqProofs only [zx,zl,sIf,zb,eC,zd,zm,eSl,yT,yb,asB,R.ok_bind,tD,tE,tG,tI,yw,if_true,d5,m4,q1,s1,s2,a1,a2,hu]
 ·have q1:eqR false (.int (n/5%4)) (.int 1)=.ok (.bl false):=by rw [vh,beq_eq_false_iff_ne.mpr hq]; rfl
  refine ⟨cs,rfl,ho,?_⟩
  unfold U1
  generalize S cs=W at *
  generalize ((a:Nat):Int)=A at *
  generalize n/5%4=v at *
  generalize n/5=u at *
  simp -implicitDefEqProofs only [zx,zl,sIf,zb,eC,zd,zm,eSl,yT,yb,asB,R.ok_bind,tD,tE,tG,tI,yw,if_false,tW,d5,m4,q1]
theorem z4u (A:Str)(lA:A.length=25)(pA:∀ c∈A.cps.toList,okS c)(n:Int)(f m:Option D)(cs:List Nat)(hl:cs.length<=40)(ho:∀ c∈cs,okS c)(a:Nat)(ha:a<cs.length):∃ (cs1:List Nat) (y5 y6:Option D),cs1.length=cs.length/\(∀ c∈cs1,okS c) /\
  U2 A [some (.int n),f,m,some (.str (S cs)),some (.int (a:Nat)),none,none]=.ok (.nx [some (.int n),f,m,some (.str (S cs1)),some (.int (a:Nat)),y5,y6]):=by
 have d5:zC (.int n) (.int 5)=.ok (.int (n/5)):=zV (by decide) (by decide)
 have m4:zA (.int (n/5)) (.int 4)=.ok (.int (n/5%4)):=zK (by decide)
 by_cases hq:n/5%4=2
 ·have q1:eqR false (.int (n/5%4)) (.int 2)=.ok (.bl true):=by rw [hq]; rfl
  have l1:yy [.str A]=.ok (.int 25):=by rw [ZL (by rw [lA,sizeLine_eq]; decide),lA]; rfl
  have d23:zC (.int n) (.int 23)=.ok (.int (n/23)):=zV (by decide) (by decide)
  have m25:zA (.int (n/23)) (.int 25)=.ok (.int (n/23%25)):=zK (by decide)
  have b0:=sU (n/23) (show (25:Int)≠0 by decide)
  have b1:=sR (n/23) (show (0:Int)<25 by decide)
  obtain ⟨d,hd,od⟩:=Yy (z:=A) (i:=n/23%25) (p:=okS) (by rw [lA]; decide) b0 (by rw [lA]; exact b1) pA
  have s1:=UJ cs (by omega) a
  have s2:=j6 cs (by omega) (a+1) (by omega)
  rw [show ((a+1:Nat):Int)=(a:Int)+1 by omega] at s2
  have a1:=Qq (cs.take a) d (by rw [sW]; omega)
  have a2:=qz (cs.take a++[d]) (cs.drop (a+1)) (by rw [tN,sW,rF]; show min a cs.length+1+_<=_; omega)
  refine ⟨kG cs a d,some (.str A),some (.str (one d)),kM ha,kD ho od,?_⟩
  show U2 A _=.ok (.nx [some (.int n),f,m,some (.str (S (cs.take a++[d]++cs.drop (a+1)))),some (.int (a:Nat)),some (.str A),some (.str (one d))])
  unfold U2
  generalize S (cs.take a++[d]++cs.drop (a+1))=X3 at *
  generalize S (cs.take a++[d])=X2 at *
  generalize S (cs.take a)=X1 at *
  generalize S (cs.drop (a+1))=X4 at *
  generalize S cs=W at *
  generalize one d=O at *
  generalize ((a:Nat):Int)=A' at *
  generalize n/5%4=v at *
  generalize n/5=u at *
  generalize n/23%25=v2 at *
  generalize n/23=u2 at *
  simp -implicitDefEqProofs only [zU,Zb,zx,zh,zl,sIf,zb,eC,zd,eL,ze,za,zm,eSl,yT,yb,asB,R.ok_bind,tD,tE,tG,tI,yw,if_true,d5,m4,q1,l1,d23,m25,hd,s1,s2,a1,a2]
 ·have q1:eqR false (.int (n/5%4)) (.int 2)=.ok (.bl false):=by rw [vh,beq_eq_false_iff_ne.mpr hq]; rfl
  refine ⟨cs,none,none,rfl,ho,?_⟩
  unfold U2
  generalize S cs=W at *
  generalize ((a:Nat):Int)=A' at *
  generalize n/5%4=v at *
  generalize n/5=u at *
  simp -implicitDefEqProofs only [zU,zx,zh,zl,sIf,zb,eC,zd,eL,ze,za,zm,eSl,yT,yb,asB,R.ok_bind,tD,tE,tG,tI,zV,if_false,tW,Int.reduceLT,d5,m4,q1]
def U0:Tn->R Fl:=(sIf (zm (zd (eqR false) (zd zA (zd zC (zb 0) (eC (.int 12))) (eC (.int 8))) (eC (.int 1)))) (zl 2 (zd zy (eC (.int 1)) (zd zA (zd zC (zb 0) (eC (.int 96))) (eC (.int 40))))) zx)
theorem z2H (n:Int)(f:Option D)(k:Int)(h0:1<=k)(h1:k<=40):∃ m:Nat,1<=m/\m<=40/\U0 [some (.int n),f,some (.int k),none,none,none,none]=.ok (.nx [some (.int n),f,some (.int (m:Nat)),none,none,none,none]):=by
 have d12:zC (.int n) (.int 12)=.ok (.int (n/12)):=zV (by decide) (by decide)
 have m8:zA (.int (n/12)) (.int 8)=.ok (.int (n/12%8)):=zK (by decide)
 have d96:zC (.int n) (.int 96)=.ok (.int (n/96)):=zV (by decide) (by decide)
 have m40:zA (.int (n/96)) (.int 40)=.ok (.int (n/96%40)):=zK (by decide)
 have b0:=sU (n/96) (show (40:Int)≠0 by decide)
 have b1:=sR (n/96) (show (0:Int)<40 by decide)
 by_cases hq:n/12%8=1
 ·have q1:eqR false (.int (n/12%8)) (.int 1)=.ok (.bl true):=by rw [hq]; rfl
  refine ⟨(1+n/96%40).toNat,by omega,by omega,?_⟩
  have e:(((1+n/96%40).toNat:Nat):Int)=1+n/96%40:=rE (by omega)
  rw [e]
  generalize n/96%40=v2 at *
  generalize n/96=u2 at *
  generalize n/12%8=v at *
  generalize n/12=u at *
  simp -implicitDefEqProofs only [U0,zx,zl,sIf,zb,eC,zd,zm,asB,R.ok_bind,tD,tG,tI,yw,if_true,d12,m8,d96,m40,q1]
 ·have q1:eqR false (.int (n/12%8)) (.int 1)=.ok (.bl false):=by rw [vh,beq_eq_false_iff_ne.mpr hq]; rfl
  refine ⟨k.toNat,by omega,by omega,?_⟩
  have e:((k.toNat:Nat):Int)=k:=rE (by omega)
  rw [e]
  generalize n/12%8=v at *
  generalize n/12=u at *
  simp -implicitDefEqProofs only [U0,zx,zl,sIf,zb,eC,zd,zm,asB,R.ok_bind,tD,tG,tI,yw,zK,zV,if_false,tW,Int.reduceLT,d12,m8,q1]
theorem tWD:yQ=zw 7 (zh (zl 2 (zd zy (eC (.int 1)) (zd zA (zb 0) (eC (.int 12))))) (zh U0 (zh (zl 3 (eL zH (za (zd zC (zb 0) (eC (.int 100))) (za (zb 2) (za (zb 1) ze))))) (zh (zl 4 (zd zA (zd zC (zb 0) (eC (.int 17))) (zb 2))) (zh U1 (zh (U2 SG) (zr (zb 3)))))))):=rfl
theorem Je (T0 T1 T2:Tn->R Fl)(n:Int)(f M W W1 W2 a:D)(y5 y6:Option D)(h0:T0 [some (.int n),some f,some (.int (1+n%12)),none,none,none,none]=.ok (.nx [some (.int n),some f,some M,none,none,none,none]))
  (hL:zH [.int (n/100),M,f]=.ok W) (hm:zA (.int (n/17)) M=.ok a) (h1:T1 [some (.int n),some f,some M,some W,some a,none,none]=.ok (.nx [some (.int n),some f,some M,some W1,some a,none,none]))
  (h2:T2 [some (.int n),some f,some M,some W1,some a,none,none]=.ok (.nx [some (.int n),some f,some M,some W2,some a,y5,y6])) :
  zw 7 (zh (zl 2 (zd zy (eC (.int 1)) (zd zA (zb 0) (eC (.int 12))))) (zh T0 (zh (zl 3 (eL zH (za (zd zC (zb 0) (eC (.int 100))) (za (zb 2) (za (zb 1) ze))))) (zh (zl 4 (zd zA (zd zC (zb 0) (eC (.int 17))) (zb 2))) (zh T1 (zh T2 (zr (zb 3)))))))) [.int n,f]=.ok W2:=by
 have m12:zA (.int n) (.int 12)=.ok (.int (n%12)):=zK (by decide)
 have d1:zC (.int n) (.int 100)=.ok (.int (n/100)):=zV (by decide) (by decide)
 have d2:zC (.int n) (.int 17)=.ok (.int (n/17)):=zV (by decide) (by decide)
 generalize zH=FL at *
 generalize n/100=u1 at *
 generalize n/17=u2 at *
 generalize n%12=u3 at *
 simp -implicitDefEqProofs only [zw,zh,zl,zr,zb,eC,zd,eL,ze,za,R.ok_bind,tF,tV,tH,tM,tS,tK,tO,tL,tD,tE,tG,tI,Nat.reduceAdd,Nat.reduceSub,tZ,yw,m12,h0,d1,hL,d2,hm,h1,h2]
theorem z4B (n:Int)(b:Bool):∃ cs:List Nat,yQ [.int n,.bl b]=.ok (.str (S cs))/\(∀ c∈cs,okS c)/\1<=cs.length/\cs.length<=40:=by
 have b0:=sU n (show (12:Int)≠0 by decide)
 have b1:=sR n (show (0:Int)<12 by decide)
 obtain ⟨m,m1,m2,h0⟩:=z2H n (some (.bl b)) (1+n%12) (by omega) (by omega)
 obtain ⟨cs,c1,c2,hL⟩:=Wg (n/100) m m2 b
 have p0:=sU (n/17) (show (m:Int)≠0 by omega)
 have p1:=sR (n/17) (show (0:Int)<m by omega)
 have hm:zA (.int (n/17)) (.int (m:Nat))=.ok (.int (n/17%(m:Nat))):=zK (by omega)
 obtain ⟨a,ha⟩:∃ a:Nat,(a:Int)=n/17%(m:Nat):=⟨(n/17%(m:Nat)).toNat,rE p0⟩
 rw [<- ha] at hm p1
 obtain ⟨cs1,l1,o1,h1⟩:=z2A n (some (.bl b)) (some (.int (m:Nat))) cs (by omega) c2 a (by omega)
 obtain ⟨cs2,y5,y6,l2,o2,h2⟩:=z4u SG z2r z3A n (some (.bl b)) (some (.int (m:Nat))) cs1 (by omega) o1 a (by omega)
 refine ⟨cs2,?_,o2,by omega,by omega⟩
 rw [tWD]
 exact Je U0 U1 (U2 SG) n (.bl b) _ _ _ _ _ _ _ h0 hL hm h1 h2
end K09
namespace K09
open PySem PyProof.Rows L2
def nb (c:Nat):Prop:=c≠32
def nm (i:Int):Str:=("(":Str)++(toString i:Str)++(")":Str)
theorem z24:∀ j,j<100->(nm ((j:Nat):Int)).length<=4/\(("(":Str)++(toString ((j:Nat):Int):Str)).length<=4/\∀ c∈(nm ((j:Nat):Int)).cps.toList,c≠32:=by unfold nm; decide +kernel
theorem z0g {i:Int}(h0:0<=i)(h1:i<100):(nm i).length<=4/\(("(":Str)++(toString i:Str)).length<=4/\∀ c∈(nm i).cps.toList,c≠32:=by
 obtain ⟨j,rfl⟩:∃ j:Nat,i=(j:Int):=⟨i.toNat,(rE h0).symm⟩
 exact z24 j (by omega)
theorem z2i {i:Int}(h0:0<=i)(h1:i<1000000):i.natAbs.log2<1920:=by
 by_cases hz:i.natAbs=0
 ·rw [hz]; decide
 ·have:i.natAbs.log2<20:=(Nat.log2_lt hz).mpr (by omega)
  omega
theorem z3B {i:Int}(h0:0<=i)(h1:i<100):f3D "(" ")" (.int i)=.ok (.str (nm i)):=by
 obtain ⟨a,b,_⟩:=z0g h0 h1
 have l1:Str.length "("=1:=by decide +kernel
 refine if_pos ⟨z2i h0 (by omega),by rw [l1,sizeLine_eq]; decide,by rw [sizeLine_eq]; omega,?_⟩
 have a:(("(":Str)++(toString i:Str)++(")":Str)).length<=4:=a
 rw [sizeLine_eq]; omega
theorem Ji:∀ ys:List Str,(∀ y∈ys,∀ c∈y.cps.toList,nb c)->∃ cs:List Nat,Str.join "" ys=S cs/\(∀ c∈cs,nb c)/\cs.length=(ys.map (·.length)).sum
 | [],_=>⟨[],rfl,fun c h=>(nomatch h),rfl⟩
 | y::ys,h=>by
  obtain ⟨cs,e,h1,h2⟩:=Ji ys fun z hz=>h z (tR _ hz)
  refine ⟨y.cps.toList++cs,?_,fun c hc=>?_,?_⟩
  ·rw [uT,e,<- Yx,<- Yq]
  ·rcases sE.mp hc with z | z
   ·exact h y tQ c z
   ·exact h1 c z
  ·rw [tN,tF,pW,h2,Array.length_toList]; rfl
theorem J8 {α:Type}{g:α->Nat}{c:Nat}:∀ (xs:List α),(∀ x∈xs,g x<=c)->(xs.map g).sum<=c*xs.length
 | [],_=>by simp
 | x::xs,h=>by
  have h1:=h x tQ
  have h2:=J8 xs fun y hy=>h y (tR _ hy)
  rw [tF,pW,tH,Nat.mul_succ]
  omega
def mks (f:Int)(m:Nat):List Str:=(List.range m).map fun (i:Nat)=>nm (f+(i:Nat))
theorem K5 {f:Int}{m:Nat}(h0:0<=f)(h1:f+(m:Nat)<=100):∀ y∈mks f m,y.length<=4/\∀ c∈y.cps.toList,nb c:=by
 intro y hy
 unfold mks at hy
 obtain ⟨i,hi,rfl⟩:=rZ.mp hy
 have:=pG.mp hi
 obtain ⟨a,_,b⟩:=z0g (i:=f+(i:Nat)) (by omega) (by omega)
 exact ⟨a,b⟩
def LE:Tn->R D:=(eF3 "(" ")" (zb 0))
theorem J9 (f:Int)(m:Nat)(h0:0<=f)(h1:f+(m:Nat)<=100):x8 (ym (Tgt.one 0).asg (fun _=>.ok true) LE [none]) (rng f m)=.ok ((mks f m).map D.str):=by
 have hc:=kI (f:=ym (Tgt.one 0).asg (fun _=>.ok true) LE [none]) (lo:=f) (n:=m) (o:=fun i=>some (.str (nm (f+(i:Nat))))) fun i hi=>by
  have:=z3B (i:=f+(i:Nat)) (by omega) (by omega)
  generalize f+((i:Nat):Int)=j at *
  simp -implicitDefEqProofs only [ym,x5,LE,eF3,zb,Tgt.asg,R.ok_bind,tD,tG,if_true,this]
 rw [vc] at hc
 rw [hc]
 unfold mks
 rw [rJ]
 rfl
def C0:Tn->R Fl:=(sIf (zm (zd ltD (zd zA (zb 0) (eC (.int 4))) (eC (.int 2)))) (zr (eC (.str ""))) zx)
def C1:Tn->R Fl:=(sIf (zm (zd (eqR false) (zd zA (zb 0) (eC (.int 4))) (eC (.int 2)))) (zh (zl 1 (zd zy (eC (.int 1)) (zd zA (zd zC (zb 0) (eC (.int 4))) (eC (.int 60))))) (zh (zl 2 (yE [none] (iL Zl (za (zb 1) (za (zd zy (zd zy (zb 1) (eC (.int 1))) (zd zA (zd zC (zb 0) (eC (.int 240))) (eC (.int 3)))) ze))) (.one 0) (fun _=>.ok true) LE)) (zr (eSm xW (eC (.str "")) (za (zb 2) ze))))) zx)
def C2 (A:Str):Tn->R Fl:=(zh (zl 3 (eC (.str A))) (zr (zd zy (zd ixD (zb 3) (zd zA (zd zC (zb 0) (eC (.int 4))) (eC (.int 8)))) (zd ixD (zb 3) (zd zA (zd zC (zb 0) (eC (.int 32))) (eC (.int 8)))))))
abbrev TS:Str:="-a(Z9.!/"
theorem z0S:TS.length=8:=by decide +kernel
theorem z3a:∀ c∈TS.cps.toList,nb c:=by unfold nb; decide +kernel
theorem tTL:yN=zw 4 (zh C0 (zh C1 (C2 TS))):=rfl
theorem z3J (n:Int)(hq:n%4=2):∃ cs:List Nat,(∀ c∈cs,nb c)/\cs.length<=20/\C1 [some (.int n),none,none,none]=.ok (.rt (.str (S cs))):=by
 have m4:zA (.int n) (.int 4)=.ok (.int (n%4)):=zK (by decide)
 have q1:eqR false (.int (n%4)) (.int 2)=.ok (.bl true):=by rw [hq]; rfl
 have d4:zC (.int n) (.int 4)=.ok (.int (n/4)):=zV (by decide) (by decide)
 have m60:zA (.int (n/4)) (.int 60)=.ok (.int (n/4%60)):=zK (by decide)
 have d240:zC (.int n) (.int 240)=.ok (.int (n/240)):=zV (by decide) (by decide)
 have m3:zA (.int (n/240)) (.int 3)=.ok (.int (n/240%3)):=zK (by decide)
 have b0:=sU (n/4) (show (60:Int)≠0 by decide)
 have b1:=sR (n/4) (show (0:Int)<60 by decide)
 have b2:=sU (n/240) (show (3:Int)≠0 by decide)
 have b3:=sR (n/240) (show (0:Int)<3 by decide)
 generalize n/4%60=f at *
 generalize n/240%3=g at *
 have r2:Zl [.int (1+f),.int (1+f+1+g)]=.ok (rng (1+f) (1+f+1+g-(1+f)).toNat):=W8 (by omega) (by omega) (by omega) (by omega)
 obtain ⟨m,hm⟩:∃ m:Nat,(1+f+1+g-(1+f)).toNat=m:=⟨_,rfl⟩
 rw [hm] at r2
 have hc:=J9 (1+f) m (by omega) (by omega)
 have hmem:=K5 (f:=1+f) (m:=m) (by omega) (by omega)
 obtain ⟨cs,e,h1,h2⟩:=Ji (mks (1+f) m) fun y hy=>(hmem y hy).2
 have hsum:=J8 (g:=fun (x:Str)=>x.length) (c:=4) (mks (1+f) m) fun y hy=>(hmem y hy).1
 have hml:(mks (1+f) m).length=m:=by unfold mks; rw [tP,rS]
 rw [hml] at hsum
 have l0:Str.length ""=0:=by decide +kernel
 have hj:xW "" [.lst ((mks (1+f) m).map D.str)]=.ok (.str (S cs)):=by rw [jK (by rw [l0]; omega),e]
 have hl:((mks (1+f) m).map D.str).length<=16777216:=by rw [tP,hml]; omega
 have hk:=xA hl
 refine ⟨cs,h1,by omega,?_⟩
 generalize (mks (1+f) m).map D.str=W at *
 generalize S cs=V at *
 generalize n%4=u1 at *
 generalize n/4=u2 at *
 generalize n/240=u3 at *
 generalize rng (1+f) m=RR at *
 simp -implicitDefEqProofs only [C1,yC,xx,xB,zx,zh,zl,zr,sIf,zb,eC,zd,ze,za,zm,iL,asB,R.ok_bind,tD,tE,tG,tI,yw,if_true,Xq,X6,m4,q1,d4,m60,d240,m3,r2,hc,hk,hj]
theorem z2D (A:Str)(lA:A.length=8)(pA:∀ c∈A.cps.toList,nb c)(n:Int):∃ cs:List Nat,(∀ c∈cs,nb c)/\cs.length<=20/\C2 A [some (.int n),none,none,none]=.ok (.rt (.str (S cs))):=by
 have d4:zC (.int n) (.int 4)=.ok (.int (n/4)):=zV (by decide) (by decide)
 have m8:zA (.int (n/4)) (.int 8)=.ok (.int (n/4%8)):=zK (by decide)
 have d32:zC (.int n) (.int 32)=.ok (.int (n/32)):=zV (by decide) (by decide)
 have m82:zA (.int (n/32)) (.int 8)=.ok (.int (n/32%8)):=zK (by decide)
 have b0:=sU (n/4) (show (8:Int)≠0 by decide)
 have b1:=sR (n/4) (show (0:Int)<8 by decide)
 have b2:=sU (n/32) (show (8:Int)≠0 by decide)
 have b3:=sR (n/32) (show (0:Int)<8 by decide)
 obtain ⟨c,hc,oc⟩:=Yy (z:=A) (i:=n/4%8) (p:=nb) (by rw [lA]; decide) b0 (by rw [lA]; exact b1) pA
 obtain ⟨d,hd,od⟩:=Yy (z:=A) (i:=n/32%8) (p:=nb) (by rw [lA]; decide) b2 (by rw [lA]; exact b3) pA
 have a1:zy (.str (one c)) (.str (one d))=.ok (.str (S [c,d])):=qz [c] [d] (by show 2<=1000; decide)
 refine ⟨[c,d],fun x hx=>?_,by show 2<=20; decide,?_⟩
 ·rcases sJ.mp hx with z | z
  ·rw [z]; exact oc
  ·rw [sN.mp z]; exact od
 ·generalize n/4%8=v1 at *
  generalize n/32%8=v2 at *
  generalize n/4=u1 at *
  generalize n/32=u2 at *
  generalize S [c,d]=V at *
  simp -implicitDefEqProofs only [C2,zh,zl,zr,zb,eC,zd,R.ok_bind,tD,tE,tG,tI,d4,m8,d32,m82,hc,hd,a1]
theorem jW (T0 T1 T2:Tn->R Fl)(n:D)(r:D)(h:T0 [some n,none,none,none]=.ok (.rt r)\/T0 [some n,none,none,none]=.ok (.nx [some n,none,none,none])/\(T1 [some n,none,none,none]=.ok (.rt r)\/T1 [some n,none,none,none]=.ok (.nx [some n,none,none,none])/\T2 [some n,none,none,none]=.ok (.rt r))) :
  zw 4 (zh T0 (zh T1 T2)) [n]=.ok r:=by
 rcases h with h | ⟨h,h1 | ⟨h1,h2⟩⟩
 ·simp -implicitDefEqProofs only [zw,zh,R.ok_bind,tF,tV,tH,tM,tS,tK,tO,tL,Nat.reduceSub,tZ,h]
 ·simp -implicitDefEqProofs only [zw,zh,R.ok_bind,tF,tV,tH,tM,tS,tK,tO,tL,Nat.reduceSub,tZ,h,h1]
 ·simp -implicitDefEqProofs only [zw,zh,R.ok_bind,tF,tV,tH,tM,tS,tK,tO,tL,Nat.reduceSub,tZ,h,h1,h2]
theorem tail (n:Int):∃ cs:List Nat,yN [.int n]=.ok (.str (S cs))/\(∀ c∈cs,nb c)/\cs.length<=20:=by
 have m4:zA (.int n) (.int 4)=.ok (.int (n%4)):=zK (by decide)
 rw [tTL]
 by_cases h2:n%4<2
 ·refine ⟨[],jW _ _ _ _ _ (.inl ?_),fun c h=>(nomatch h),by decide⟩
  rw [<- XT]
  have e:decide (n%4<2)=true:=decide_eq_true h2
  generalize n%4=v at *
  simp -implicitDefEqProofs only [C0,zx,zr,sIf,zb,eC,zd,zm,asB,R.ok_bind,tD,wF,if_true,m4,e]
 ·have h0:C0 [some (.int n),none,none,none]=.ok (.nx [some (.int n),none,none,none]):=by
   have e:decide (n%4<2)=false:=decide_eq_false h2
   generalize n%4=v at *
   simp -implicitDefEqProofs only [C0,zx,zr,sIf,zb,eC,zd,zm,asB,R.ok_bind,tD,wF,if_false,tW,m4,e]
  by_cases hq:n%4=2
  ·obtain ⟨cs,a,b,h1⟩:=z3J n hq
   exact ⟨cs,jW _ _ _ _ _ (.inr ⟨h0,.inl h1⟩),a,b⟩
  ·obtain ⟨cs,a,b,h3⟩:=z2D TS z0S z3a n
   refine ⟨cs,jW _ _ _ _ _ (.inr ⟨h0,.inr ⟨?_,h3⟩⟩),a,b⟩
   have q1:eqR false (.int (n%4)) (.int 2)=.ok (.bl false):=by rw [vh,beq_eq_false_iff_ne.mpr hq]; rfl
   generalize n%4=v at *
   simp -implicitDefEqProofs only [C1,yC,xx,xB,zx,zh,zl,zr,sIf,zb,eC,zd,ze,za,zm,iL,asB,R.ok_bind,tD,tE,tG,tI,yw,zK,zV,if_false,tW,Int.reduceLT,m4,q1]
end K09
namespace K09
open PySem PyProof.Rows L2
def vv (p:Nat×Int):D:=.tup [.str (one p.1),.int p.2]
def fc (pl bl:Int)(P:List (Nat×Int)):D:=.tup [.int pl,.int bl,.tup (P.map vv)]
def wd (P:List (Nat×Int))(pl:Int)(c:Nat):Int:=match P.find? (fun p=>p.1==c) with
 | some p=>p.2
 | none=>pl
structure Fc (P:List (Nat×Int)):Prop where
 nd:(P.map (·.1)).Nodup
 no:∀ p∈P,p.1≠32
 len:P.length<=100
theorem uE {a b:Nat}(h:one a=one b):a=b:=by
 have h:S [a]=S [b]:=h
 have:=z0d h
 exact (List.cons.inj this).1
theorem z0J (a b:Nat):(one a==one b)=(a==b):=by
 by_cases h:a=b
 ·rw [h,beq_self_eq_true,beq_self_eq_true]
 ·rw [beq_eq_false_iff_ne.mpr h,beq_eq_false_iff_ne.mpr fun z=>h (uE z)]
theorem kW:(" ":Str)=one 32:=by decide +kernel
theorem ZT:∀ (kds:List (Key×D)) (ks:List Key) (ds:List D),(ks++kds.map (·.1)).Nodup->xC ks ds kds=(ks++kds.map (·.1),ds++kds.map (·.2))
 | [],ks,ds,_=>by rw [tV,tV,sF,sF]; rfl
 | (k,d)::r,ks,ds,h=>by
  have hk:k∉ks:=fun z=>by
   rw [sI] at h
   exact h.2.2 _ z _ tQ rfl
  have hp:xy ks ds k d=(ks++[k],ds++[d]):=if_neg hk
  show xC (xy ks ds k d).1 (xy ks ds k d).2 r=_
  rw [hp,ZT r (ks++[k]) (ds++[d]) (by rw [sS]; exact h),sS,sS]
  rfl
theorem XR (bl:Int)(c:Nat)(hc:c≠32):∀ P:List (Nat×Int),zT (P.map (fun p=>Key.inr (one p.1))++[.inr (one 32)]) (P.map (fun p=>D.int p.2)++[.int bl]) (.inr (one c))=(P.find? (fun p=>p.1==c)).map fun p=>D.int p.2
 | []=>by
  show (if Key.inr (one 32)=Key.inr (one c) then some (D.int bl) else zT [] [] _)=none
  rw [if_neg (fun z=>hc (uE (Key.inr.inj z)).symm)]
  rfl
 | p::P=>by
  have ih:=XR bl c hc P
  show (if Key.inr (one p.1)=Key.inr (one c) then some (D.int p.2) else _)=_
  rw [rV]
  by_cases h:p.1=c
  ·rw [if_pos (by rw [h]),beq_iff_eq.mpr h]; rfl
  ·rw [if_neg (fun z=>h (uE (Key.inr.inj z))),beq_eq_false_iff_ne.mpr h]; exact ih
def wcO (ks:List Key)(ds:List D)(pl:Int)(c:Nat):Int:=match (zT ks ds (.inr ⟨#[c]⟩)).getD (.int pl) with
 | .int n=>n
 | _=>0
theorem z1Y {ks:List Key}{ns:List Int}{pl:Int}{c:Nat}:Us ks (ns.map D.int) (.str ⟨#[c]⟩) (.int pl)=.ok (.int (wcO ks (ns.map D.int) pl c)):=by
 obtain ⟨n,e⟩:=Yi ks ns (.inr ⟨#[c]⟩) pl
 show (if ((zT ks (ns.map D.int) (.inr ⟨#[c]⟩)).getD (.int pl)).imm=true then R.ok ((zT ks (ns.map D.int) (.inr ⟨#[c]⟩)).getD (.int pl)) else .bad)=_
 unfold wcO
 rw [e]
 rfl
theorem Va (DK F:D)(ks:List Key)(ns:List Int)(pl:Int)(x:Str)(hD:DK=.dic ks (ns.map D.int))(h0:ixD F (.int 0)=.ok (.int pl)):x8 (ym (Tgt.one 0).asg (fun _=>.ok true) (YZ (zb 1) (zb 0) (zd ixD (zb 2) (eC (.int 0)))) [none,some DK,some F]) (signs x)=.ok ((x.cps.toList.map (wcO ks (ns.map D.int) pl)).map D.int):=by
 subst hD
 have:=yI (enc:=fun c=>D.str ⟨#[c]⟩) (f:=ym (Tgt.one 0).asg (fun _=>.ok true) (YZ (zb 1) (zb 0) (zd ixD (zb 2) (eC (.int 0)))) [none,some (.dic ks (ns.map D.int)),some F]) (o:=fun c=>some (.int (wcO ks (ns.map D.int) pl c))) (xs:=x.cps.toList) fun c _=>by
  have h3:=z1Y (ks:=ks) (ns:=ns) (pl:=pl) (c:=c)
  generalize ns.map D.int=ds at *
  simp -implicitDefEqProofs only [ym,x5,JZ,QG,zb,eC,zd,Tgt.asg,R.ok_bind,tD,tE,tG,if_true,h0,h3]
 rw [vc] at this
 show x8 _ (x.cps.toList.map fun c=>D.str ⟨#[c]⟩)=_
 rw [this,rJ]
 rfl
theorem JH (F O:D)(pl bl:Int)(ks ks1:List Key)(ds:List D)(ns:List Int)(x:Str)(hx:x.length<=1000)(h0:ixD F (.int 0)=.ok (.int pl))(h1:ixD F (.int 1)=.ok (.int bl))(h2:ixD F (.int 2)=.ok O)(hd:yn [O]=.ok (.dic ks ds))(hl:ks.length<16777216)(hp:xy ks ds (.inr " ") (.int bl)=(ks1,ns.map D.int)) :
  xM [F,.str x]=.ok (.int (x.cps.toList.map (wcO ks1 (ns.map D.int) pl)).sum):=by
 have hp1:(xy ks ds (.inr " ") (.int bl)).1=ks1:=by rw [hp]
 have hp2:(xy ks ds (.inr " ") (.int bl)).2=ns.map D.int:=by rw [hp]
 have hk:∀ τ:Tn,Z0 2 τ (.int bl) (.dic ks ds) (.str " ")=.ok (.nx (τ.set 2 (some (.dic ks1 (ns.map D.int))))):=fun τ=>by rw [qZ rfl hl,hp1,hp2]
 have hc:=Va (.dic ks1 (ns.map D.int)) F ks1 ns pl x rfl h0
 have hlen:((x.cps.toList.map (wcO ks1 (ns.map D.int) pl)).map D.int).length<=16777216:=by
  rw [tP,tP,Array.length_toList]; show x.length<=_; omega
 have hs:=z2p (ns:=x.cps.toList.map (wcO ks1 (ns.map D.int) pl))
 have hlst:=xA hlen
 clear hp1 hp2 hp
 generalize (x.cps.toList.map (wcO ks1 (ns.map D.int) pl)).sum=sm at *
 generalize (x.cps.toList.map (wcO ks1 (ns.map D.int) pl)).map D.int=LL at *
 generalize D.dic ks1 (ns.map D.int)=DK at *
 simp -implicitDefEqProofs only [xM,J1,yC,xx,xB,qf,uO,zU,uG,zw,zh,zl,zr,zb,eC,zd,eL,ze,za,zZ,wY,R.ok_bind,tF,tV,tH,tM,tS,tK,tO,tL,tD,tE,tG,tI,Nat.reduceAdd,Nat.reduceSub,tZ,h1,h2,hd,uy,hk,hc,hlst,hs]
theorem z2x (pl bl:Int)(P:List (Nat×Int))(f:Fc P)(cs:List Nat)(hl:cs.length<=1000)(hc:∀ c∈cs,nb c):xM [fc pl bl P,.str (S cs)]=.ok (.int (cs.map (wd P pl)).sum):=by
 have hd:=UA (ps:=P.map fun p=>(one p.1,p.2))
 have e0:(P.map fun p=>(one p.1,p.2)).map (fun p=>D.tup [.str p.1,.int p.2])=P.map vv:=by rw [rJ]; rfl
 rw [e0] at hd
 have nk:(P.map fun p=>Key.inr (one p.1)).Nodup:=by
  have h:=f.nd
  unfold List.Nodup at h ⊢
  rw [List.pairwise_map] at h ⊢
  exact h.imp fun z y=>z (uE (Key.inr.inj y))
 have hm:xC [] [] ((P.map fun p=>(one p.1,p.2)).map fun p=>(Key.inr p.1,D.int p.2))=(P.map fun p=>Key.inr (one p.1),P.map fun p=>D.int p.2):=by
  rw [ZT _ [] [] (by rw [tL,rJ,rJ]; exact nk),tL,tL,rJ,rJ,rJ,rJ]
  rfl
 rw [hm] at hd
 have hnb:Key.inr (" ":Str)∉P.map fun p=>Key.inr (one p.1):=fun z=>by
  obtain ⟨p,hp,e⟩:=rZ.mp z
  rw [kW] at e
  exact f.no p hp (uE (Key.inr.inj e))
 have hp:xy (P.map fun p=>Key.inr (one p.1)) (P.map fun p=>D.int p.2) (.inr " ") (.int bl)=((P.map fun p=>Key.inr (one p.1))++[.inr " "],(P.map (·.2)++[bl]).map D.int):=by
  have:xy (P.map fun p=>Key.inr (one p.1)) (P.map fun p=>D.int p.2) (.inr " ") (.int bl)=((P.map fun p=>Key.inr (one p.1))++[.inr " "],(P.map fun p=>D.int p.2)++[.int bl]):=if_neg hnb
  rw [this,sP,rJ]
  rfl
 have hw:=JH (fc pl bl P) (.tup (P.map vv)) pl bl _ _ _ _ (S cs) (by rw [xw]; exact hl) uQ ZE Xg hd (by show (P.map _).length<_; rw [tP]; have:=f.len; omega) hp
 rw [hw,u0]
 congr 3
 refine List.map_congr_left fun c h=>?_
 unfold wcO wd
 have e1:(P.map (·.2)++[bl]).map D.int=P.map (fun p=>D.int p.2)++[.int bl]:=by rw [sP,rJ]; rfl
 have e2:=XR bl c (hc c h) P
 rw [e1,kW]
 show (match (zT _ _ (.inr (one c))).getD (.int pl) with | .int n=>n | _=>0)=_
 rw [e2]
 cases P.find? (fun p=>p.1==c)<;>rfl
def kn:Tn->R Bool:=(zm (zd (eqR false) (zd ixD (zb 0) (eC (.int 0))) (zb 1)))
def ke:Tn->R D:=(ya (zd ixD (zb 0) (eC (.int 1))))
def bS:Tn->R Fl:=(zh (zl 4 (yE [none,some 3] (zZ (zd ixD (zb 0) (eC (.int 2)))) (.one 0) kn ke)) (zl 2 (zd zy (zb 2) (zd ixD (zd zy (zb 4) (eL (fun ds=>.ok (.lst ds)) (za (zd ixD (zb 0) (eC (.int 0))) ze))) (eC (.int 0))))))
theorem tSP:zR=zw 5 (zh (zl 2 (eC (.int 0))) (zh (yJ (zZ (zb 1)) (.one 3) bS) (zr (zb 2)))):=rfl
theorem z3H (P:List (Nat×Int))(c:Nat):x8 (ym (Tgt.one 0).asg kn ke [none,some (.str (one c))]) (P.map vv)=.ok ((P.filter fun p=>p.1==c).map fun p=>D.int p.2):=by
 have h:=yI (enc:=vv) (f:=ym (Tgt.one 0).asg kn ke [none,some (.str (one c))]) (o:=fun p=>if (p.1==c)=true then some (D.int p.2) else none) (xs:=P) fun p _=>by
  obtain ⟨a,w⟩:=p
  have q:eqR false (.str (one a)) (.str (one c))=.ok (.bl (a==c)):=by rw [ub,if_neg tX,z0J]
  show ym (Tgt.one 0).asg kn ke [none,some (.str (one c))] (.tup [.str (one a),.int w])=_
  cases e:(a==c)<;>rw [e] at q<;>simp -implicitDefEqProofs only [ym,x5,kn,ke,zU,uG,zb,eC,zd,zm,asB,Tgt.asg,R.ok_bind,tD,tE,tG,uQ,ZE,if_true,if_false,tW,q]
 rw [h]
 exact congrArg R.ok (z3X (fun p:Nat×Int=>p.1==c) (fun p=>D.int p.2) P)
theorem JU (P:List (Nat×Int))(pl:Int)(c:Nat):∃ r,((P.filter fun p=>p.1==c).map fun p=>D.int p.2)++[D.int pl]=D.int (wd P pl c)::r:=by
 unfold wd
 induction P with
 | nil=>exact ⟨[],rfl⟩
 | cons p P ih =>
  rw [rV,pU]
  cases h:(p.1==c)
  ·rw [if_neg tX]; exact ih
  ·rw [if_pos rfl]; exact ⟨_,rfl⟩
theorem J0 (l:List Int):D.imms (l.map D.int)=true:=by
 induction l with
 | nil=>rfl
 | cons a l ih=>exact ih
theorem z3I (pl bl:Int)(P:List (Nat×Int))(f:Fc P)(x:D)(m:Int)(c:Nat)(y4:Option D):∃ z4,bS [some (fc pl bl P),some x,some (.int m),some (.str (one c)),y4]=.ok (.nx [some (fc pl bl P),some x,some (.int (m+wd P pl c)),some (.str (one c)),z4]):=by
 have h2:ixD (fc pl bl P) (.int 2)=.ok (.tup (P.map vv)):=Xg
 have h0:ixD (fc pl bl P) (.int 0)=.ok (.int pl):=uQ
 have hk:=z3H P c
 have hlen:((P.filter fun p=>p.1==c).map fun p=>D.int p.2).length<=100:=by rw [tP]; exact rC (List.length_filter_le _ _) f.len
 have hl:=xA (ys:=(P.filter fun p=>p.1==c).map fun p=>D.int p.2) (by omega)
 have him:D.imms ((P.filter fun p=>p.1==c).map fun p=>D.int p.2)=true:=by
  have:=J0 ((P.filter fun p=>p.1==c).map (·.2))
  rw [rJ] at this
  exact this
 obtain ⟨r,hr⟩:=JU P pl c
 have ha:zy (.lst ((P.filter fun p=>p.1==c).map fun p=>D.int p.2)) (.lst [.int pl])=.ok (.lst (D.int (wd P pl c)::r)):=by
  rw [<- hr]
  exact if_pos ⟨him,rfl,by rw [sizeLine_eq]; show _+1<=_; omega⟩
 refine ⟨some (.lst ((P.filter fun p=>p.1==c).map fun p=>D.int p.2)),?_⟩
 generalize (P.filter fun p=>p.1==c).map (fun p=>D.int p.2)=KK at *
 generalize fc pl bl P=F at *
 generalize P.map vv=PP at *
 simp -implicitDefEqProofs only [bS,yC,xx,xB,qf,uO,UH,zh,zl,zb,eC,zd,eL,ze,za,zZ,wY,R.ok_bind,tD,tE,tG,tI,yw,h2,hk,hl,h0,ha]
theorem z4m (pl bl:Int)(P:List (Nat×Int))(f:Fc P)(cs:List Nat):zR [fc pl bl P,.str (S cs)]=.ok (.int (cs.map (wd P pl)).sum):=by
 have key:∀ (l:List Nat) (m:Int) (y3 y4:Option D),∃ z3 z4,yY (Tgt.one 3).asg bS (l.map YF) [some (fc pl bl P),some (.str (S cs)),some (.int m),y3,y4]=.ok (.nx [some (fc pl bl P),some (.str (S cs)),some (.int (m+(l.map (wd P pl)).sum)),z3,z4]):=by
  intro l
  induction l with
  | nil=>exact fun m y3 y4=>⟨y3,y4,by rw [tV,tV,List.sum_nil,Int.add_zero]; rfl⟩
  | cons c l ih =>
   intro m y3 y4
   obtain ⟨u4,hb⟩:=z3I pl bl P f (.str (S cs)) m c y4
   obtain ⟨z3,z4,h⟩:=ih (m+wd P pl c) (some (.str (one c))) u4
   refine ⟨z3,z4,?_⟩
   have ha:(Tgt.one 3).asg (YF c) [some (fc pl bl P),some (.str (S cs)),some (.int m),y3,y4]=.ok [some (fc pl bl P),some (.str (S cs)),some (.int m),some (.str (one c)),y4]:=rfl
   rw [tF,xh,ha,R.ok_bind,hb,R.ok_bind,xY,h,tF,pW,Int.add_assoc]
 obtain ⟨z3,z4,h⟩:=key cs 0 none none
 rw [Int.zero_add] at h
 have hi:zZ (zb 1) [some (fc pl bl P),some (.str (S cs)),some (.int 0),none,none]=.ok (cs.map YF):=by
  show R.ok (L2.signs (S cs))=_
  rw [Ws]
 have hf:=xt hi h
 rw [tSP]
 generalize yJ (zZ (zb 1)) (.one 3) bS=SF at *
 generalize (cs.map (wd P pl)).sum=sm at *
 generalize fc pl bl P=F at *
 generalize S cs=W at *
 simp -implicitDefEqProofs only [zw,zh,zl,zr,zb,eC,R.ok_bind,tF,tV,tH,tM,tS,tK,tO,tL,tD,tE,tG,tI,Nat.reduceAdd,Nat.reduceSub,tZ,hf]
end K09
namespace K09
open PySem PyProof.Rows L2
abbrev FS:Str:="!\"'(),-./0123456789:;?ABCDEFGHIJKLMNOPQRSTUVWXYZabcdefghijklmnopqrstuvwxyz"
theorem Xn:FS.length=74:=by decide +kernel
theorem z3M:∀ a,a<74->∀ b,b<74->a<b->FS.cps.toList.getD a 0≠FS.cps.toList.getD b 0:=by decide +kernel
theorem z2U:∀ a,a<74->FS.cps.toList.getD a 0≠32:=by decide +kernel
def bF:Tn->R Fl:=(wN 6 (ya (eL (fun ds=>.ok (.tup ds)) (za (zd ixD (zb 2) (zb 8)) (za (zd zy (eC (.int 1)) (zd zA (zd zA (zd zy (zb 3) (zd wD (eC (.int 7919)) (zb 8))) (eC (.int 10007))) (eC (.int 20)))) ze)))))
def G1 (A:Str):Tn->R Fl:=(zl 2 (eC (.str A)))
def G2:Tn->R Fl:=(yJ (iL Jd (za (zd zA (zd zC (zb 3) (eC (.int 16000))) (zb 7)) (za (eL yy (za (zb 2) ze)) (za (zb 7) ze)))) (.one 8) bF)
theorem tFC:yR=zw 9 (zh (G1 FS) (zh (zl 3 (eL zk (za (zb 0) (za (zb 1) ze)))) (zh (zl 4 (zd zy (eC (.int 1)) (zd zA (zb 3) (eC (.int 20))))) (zh (zl 5 (zd zy (eC (.int 1)) (zd zA (zd zC (zb 3) (eC (.int 20))) (eC (.int 20))))) (zh (zl 6 (eL (fun ds=>.ok (.lst ds)) ze)) (zh (zl 7 (zd zy (eC (.int 1)) (zd zA (zd zC (zb 3) (eC (.int 400))) (eC (.int 40))))) (zh G2 (zr (ya (eL (fun ds=>.ok (.tup ds)) (za (zb 4) (za (zb 5) (za (eL xR (za (zb 6) ze)) ze))))))))))))):=rfl
theorem z2R (A:Str)(lA:A.length=74)(s0 s1 s4 s5 s7:Option D)(n:Int)(L:List D)(hL:L.length<=1000)(j:Nat)(hj:j<74):∃ w:Int,
  bF [s0,s1,some (.str A),some (.int n),s4,s5,some (.lst L),s7,some (.int (j:Nat))]=.ok (.nx [s0,s1,some (.str A),some (.int n),s4,s5,some (.lst (L++[vv (A.cps.toList.getD j 0,w)])),s7,some (.int (j:Nat))]):=by
 have hg:A.cps.toList[j]?=some (A.cps.toList.getD j 0):=by
  have:j<A.cps.toList.length:=by rw [Array.length_toList]; show j<A.length; omega
  rw [tU this,pK,tU this]; rfl
 have hix:ixD (.str A) (.int (j:Nat))=.ok (.str (one (A.cps.toList.getD j 0))):=Uj (by rw [lA,sizeLine_eq]; decide) (qi (by omega) (by rw [rK]; exact hg))
 have b0:-18446744073709551616<(j:Int):=by omega
 have b1:(j:Int)<18446744073709551616:=by omega
 have mu:wD (.int 7919) (.int (j:Nat))=.ok (.int (7919*(j:Nat))):=ja b0 b1
 have m1:zA (.int (n+7919*(j:Nat))) (.int 10007)=.ok (.int ((n+7919*(j:Nat))%10007)):=zK (by decide)
 have m2:zA (.int ((n+7919*(j:Nat))%10007)) (.int 20)=.ok (.int ((n+7919*(j:Nat))%10007%20)):=zK (by decide)
 have hl:L.length<16777216:=by omega
 refine ⟨1+(n+7919*(j:Nat))%10007%20,?_⟩
 show _=R.ok (Fl.nx [s0,s1,some (.str A),some (.int n),s4,s5,some (.lst (L++[.tup [.str (one (A.cps.toList.getD j 0)),.int (1+(n+7919*(j:Nat))%10007%20)]])),s7,some (.int (j:Nat))])
 generalize (n+7919*((j:Nat):Int))%10007%20=v2 at *
 generalize (n+7919*((j:Nat):Int))%10007=v1 at *
 generalize A.cps.toList.getD j 0=c at *
 generalize ((j:Nat):Int)=J at *
 simp -implicitDefEqProofs only [bF,wa,wG,wJ,zU,uq,z00,Ju,Js,zb,eC,zd,eL,ze,za,R.ok_bind,tD,tE,tG,tI,yw,hix,mu,m1,m2,hl]
theorem z1X {lo k:Int}{n i:Nat}{d:D}(h:(upw lo k n)[i]?=some d):i<n/\d=.int (lo+(i:Int)*k):=by
 unfold upw at h
 rw [sM] at h
 by_cases hi:i<n
 ·rw [pE hi] at h
  exact ⟨hi,(Option.some.inj h).symm⟩
 ·rw [rR (by rw [rS]; omega)] at h; cases h
theorem z3V {lo k:Int}{i:Nat}(h0:0<=lo)(hk:0<k)(hi:i<szUp lo 74 k):lo+(i:Int)*k<74:=by
 unfold szUp at hi
 by_cases h:lo<74
 ·rw [if_pos h] at hi
  have d0:0<=(74-lo-1)/k:=Int.ediv_nonneg (by omega) (by omega)
  have h1:(i:Int)<=(74-lo-1)/k:=by omega
  have h2:(i:Int)*k<=(74-lo-1)/k*k:=Int.mul_le_mul_of_nonneg_right h1 (by omega)
  have h3:(74-lo-1)/k*k<=74-lo-1:=Int.ediv_mul_le _ (by omega)
  omega
 ·rw [if_neg h] at hi; cases hi
theorem z3v (s0 s1 s4 s5:Option D)(n st:Int)(h1:1<=st)(h2:st<=40):∃ (P:List (Nat×Int)) (y8:Option D),Fc P /\
  G2 [s0,s1,some (.str FS),some (.int n),s4,s5,some (.lst []),some (.int st),none]=.ok (.nx [s0,s1,some (.str FS),some (.int n),s4,s5,some (.lst (P.map vv)),some (.int st),y8]):=by
 have d1:zC (.int n) (.int 16000)=.ok (.int (n/16000)):=zV (by decide) (by decide)
 have m1:zA (.int (n/16000)) (.int st)=.ok (.int (n/16000%st)):=zK (by omega)
 have b0:=sU (n/16000) (show st≠0 by omega)
 have b1:=sR (n/16000) (show 0<st by omega)
 have l1:yy [.str FS]=.ok (.int 74):=by rw [ZL (by rw [Xn,sizeLine_eq]; decide),Xn]; rfl
 generalize n/16000%st=lo at *
 have hr:Jd [.int lo,.int 74,.int st]=.ok (upw lo st (szUp lo 74 st)):=if_pos ⟨b0,by omega,by decide,by decide,by omega,by omega⟩
 obtain ⟨τ',e2,P,js,y8,g1,g2,g3,g4,h⟩:=xP (asg:=(Tgt.one 8).asg) (body:=bF)
  (fun i τ=>∃ (P:List (Nat×Int)) (js:List Nat) (y8:Option D),P.map (·.1)=js.map (fun j=>FS.cps.toList.getD j 0)/\js.Pairwise (·<·)/\(∀ j∈js,j<74/\(j:Int)<lo+(i:Int)*st)/\P.length=i/\i<=szUp lo 74 st/\τ=[s0,s1,some (.str FS),some (.int n),s4,s5,some (.lst (P.map vv)),some (.int st),y8]) (upw lo st (szUp lo 74 st)) 0
  [s0,s1,some (.str FS),some (.int n),s4,s5,some (.lst []),some (.int st),none] ⟨[],[],none,rfl,.nil,fun j h=>(nomatch h),rfl,rO _,rfl⟩ (fun i d τ hd ⟨P,js,y8,q1,q2,q3,q4,q5,q6⟩=>by
   obtain ⟨hi,rfl⟩:=z1X hd
   subst q6
   rw [tZ] at q3 q4 q5 ⊢
   have hlt:=z3V b0 (by omega) hi
   have hnn:0<=(i:Int)*st:=Int.mul_nonneg (by omega) (by omega)
   obtain ⟨j,hj⟩:∃ j:Nat,lo+(i:Int)*st=(j:Int):=⟨(lo+(i:Int)*st).toNat,(rE (by omega)).symm⟩
   have hs1:(i:Int)*st<((i+1:Nat):Int)*st:=by
    rw [show ((i+1:Nat):Int)=(i:Int)+1 by omega,Int.add_mul,Int.one_mul]; omega
   have hle:(i:Int)<=(i:Int)*st:=by
    have:=Int.mul_le_mul_of_nonneg_left (show (1:Int)<=st by omega) (show 0<=(i:Int) by omega)
    rw [Int.mul_one] at this
    exact this
   obtain ⟨w,hb⟩:=z2R FS Xn s0 s1 s4 s5 (some (.int st)) n (P.map vv) (by rw [tP]; omega) j (by omega)
   refine ⟨_,_,rfl,.inl (by rw [hj]; exact hb),P++[(FS.cps.toList.getD j 0,w)],js++[j],_,by rw [sP,sP,q1]; rfl,?_,fun y hy=>?_,by rw [tN,q4]; rfl,by omega,by rw [sP]; rfl⟩
   ·rw [List.pairwise_append]
    refine ⟨q2,List.pairwise_singleton _ _,fun a ha b hb=>?_⟩
    rw [sN.mp hb]
    have:=(q3 a ha).2
    omega
   ·rcases sE.mp hy with z | z
    ·have:=q3 y z
     exact ⟨this.1,by omega⟩
    ·rw [sN.mp z]
     exact ⟨by omega,by omega⟩)
 obtain ⟨g5,h⟩:=h
 subst h
 refine ⟨P,y8,⟨?_,fun p hp=>?_,?_⟩,?_⟩
 ·rw [g1]
  unfold List.Nodup
  rw [List.pairwise_map]
  exact g2.imp_of_mem fun {a b} ha hb hab=>z3M a (g3 a ha).1 b (g3 b hb).1 hab
 ·have:p.1∈P.map (·.1):=rZ.mpr ⟨p,hp,rfl⟩
  rw [g1] at this
  obtain ⟨j,hj,e⟩:=rZ.mp this
  rw [<- e]
  exact z2U j (g3 j hj).1
 ·rw [g4]
  have:szUp lo 74 st<=100:=by
   unfold szUp
   by_cases h:lo<74
   ·rw [if_pos h]
    have:=Int.ediv_le_self st (show 0<=74-lo-1 by omega)
    omega
   ·rw [if_neg h]; decide
  omega
 ·refine xt ?_ e2
  generalize upw lo st (szUp lo 74 st)=RR at *
  generalize n/16000=u at *
  simp -implicitDefEqProofs only [zb,eC,zd,eL,ze,za,iL,R.ok_bind,tD,tE,d1,m1,l1,hr]
theorem QM (T1 T2:Tn->R Fl)(S0 A:D)(n:Int)(L:List D)(y8:Option D)(h1:T1 [some S0,some (.int 2),none,none,none,none,none,none,none]=.ok (.nx [some S0,some (.int 2),some A,none,none,none,none,none,none]))(hn:zk [S0,.int 2]=.ok (.int n))
  (h2:T2 [some S0,some (.int 2),some A,some (.int n),some (.int (1+n%20)),some (.int (1+n/20%20)),some (.lst []),some (.int (1+n/400%40)),none]=.ok (.nx [some S0,some (.int 2),some A,some (.int n),some (.int (1+n%20)),some (.int (1+n/20%20)),some (.lst L),some (.int (1+n/400%40)),y8]))
  (ht:xR [.lst L]=.ok (.tup L)) (hi:D.imms L=true) :
  zw 9 (zh T1 (zh (zl 3 (eL zk (za (zb 0) (za (zb 1) ze)))) (zh (zl 4 (zd zy (eC (.int 1)) (zd zA (zb 3) (eC (.int 20))))) (zh (zl 5 (zd zy (eC (.int 1)) (zd zA (zd zC (zb 3) (eC (.int 20))) (eC (.int 20))))) (zh (zl 6 (eL (fun ds=>.ok (.lst ds)) ze)) (zh (zl 7 (zd zy (eC (.int 1)) (zd zA (zd zC (zb 3) (eC (.int 400))) (eC (.int 40))))) (zh T2 (zr (ya (eL (fun ds=>.ok (.tup ds)) (za (zb 4) (za (zb 5) (za (eL xR (za (zb 6) ze)) ze))))))))))))) [S0,.int 2]=.ok (.tup [.int (1+n%20),.int (1+n/20%20),.tup L]):=by
 have m1:zA (.int n) (.int 20)=.ok (.int (n%20)):=zK (by decide)
 have d1:zC (.int n) (.int 20)=.ok (.int (n/20)):=zV (by decide) (by decide)
 have m2:zA (.int (n/20)) (.int 20)=.ok (.int (n/20%20)):=zK (by decide)
 have d2:zC (.int n) (.int 400)=.ok (.int (n/400)):=zV (by decide) (by decide)
 have m3:zA (.int (n/400)) (.int 40)=.ok (.int (n/400%40)):=zK (by decide)
 have im:D.imms [.int (1+n%20),.int (1+n/20%20),.tup L]=true:=by
  show (true&&(true&&(D.imms L&&true)))=true
  rw [hi]; rfl
 have hm:=uq im
 generalize zk=FN at *
 generalize xR=FT at *
 generalize n/400%40=v3 at *
 generalize n/20%20=v2 at *
 generalize n%20=v1 at *
 generalize n/400=u3 at *
 generalize n/20=u2 at *
 simp -implicitDefEqProofs only [zU,zw,zh,zl,zr,zb,eC,zd,eL,ze,za,R.ok_bind,tF,tV,tH,tM,tS,tK,tO,tL,tD,tE,tG,tI,Nat.reduceAdd,Nat.reduceSub,tZ,yw,h1,hn,m1,d1,m2,d2,m3,h2,ht,hm]
theorem z4S (ns:List Int)(hl:ns.length<=63):∃ (pl bl:Int) (P:List (Nat×Int)),yR [.frl (ns.map .int),.int 2]=.ok (fc pl bl P)/\Fc P:=by
 obtain ⟨n,hn,_⟩:=vp ns hl 2 (by decide) (by decide)
 have b0:=sU (n/400) (show (40:Int)≠0 by decide)
 have b1:=sR (n/400) (show (0:Int)<40 by decide)
 obtain ⟨P,y8,f,h2⟩:=z3v (some (.frl (ns.map .int))) (some (.int 2)) (some (.int (1+n%20))) (some (.int (1+n/20%20))) n (1+n/400%40) (by omega) (by omega)
 have hi:D.imms (P.map vv)=true:=uH (fun _=>rfl) P
 refine ⟨1+n%20,1+n/20%20,P,?_,f⟩
 rw [tFC]
 exact QM (G1 FS) G2 _ (.str FS) n _ y8 rfl hn h2 (Vv hi) hi
end K09
namespace K09
open PySem PyProof.Rows L2
abbrev Bd:=Str×Int×Int
def ZO (e:Bd):D:=.tup [.str e.1,.int e.2.1,.int e.2.2]
def ky (b:Bd):Key:=.inr b.1
def LB:List Bd:=[("width",4,2000),("height",2,200),("part",0,100000),("twin",0,100000),("over",1,100000),("lone",0,100000),("late",0,100000),("gap",0,5),("ahead",1,6),("behind",1,6)]
theorem z2M:(LB.map ky).Nodup:=by decide +kernel
theorem z3n:∀ b∈LB,b.2.1<b.2.2:=by decide +kernel
theorem z4Y:LB.map ky=K10:=rfl
def bU:Tn->R Fl:=(zh (zl 4 (eL zk (za (zb 0) (za (zd zy (eC (.int 10)) (zb 3)) ze)))) (zh (WT (.many [5,6,7]) (ya (zd ixD (zb 2) (zb 3)))) (zh (vy 1 (zd zy (zb 6) (zd zA (zd zC (zb 4) (eC (.int 3))) (zd zy (zd uJ (zb 7) (zb 6)) (eC (.int 1))))) (zb 5)) (sIf (zm (zd (eqR false) (zd zA (zb 4) (eC (.int 3))) (eC (.int 1)))) (vy 1 (zd zy (zb 6) (zd zA (zd zC (zb 4) (eC (.int 3))) (eC (.int 3)))) (zb 5)) zx))))
theorem Wm {ks:List Key}{ds:List D}{k:Key}{d:D}(h:k∉ks):xy ks ds k d=(ks++[k],ds++[d]):=if_neg h
theorem Yo:∀ {ks:List Key} {ds:List D} {k:Key} {d e:D},ks.length=ds.length->k∉ks->vF (ks++[k]) (ds++[d]) k e=ds++[e]
 | [],[],k,d,e,_,_=>by show [if k=k then e else d]=[e]; rw [if_pos rfl]
 | [],_::_,_,_,_,h,_=>by cases h
 | _::_,[],_,_,_,h,_=>by cases h
 | k0::ks,d0::ds,k,d,e,hl,h=>by
  show (if k0=k then e else d0)::vF (ks++[k]) (ds++[d]) k e=d0::(ds++[e])
  rw [if_neg (fun z=>h (by rw [z]; exact tQ)),Yo (by simpa using hl) (fun z=>h (tR _ z))]
theorem VE {ks:List Key}{ds:List D}{k:Key}{d e:D}(hl:ks.length=ds.length)(h:k∉ks):xy (ks++[k]) (ds++[d]) k e=(ks++[k],ds++[e]):=by
 unfold xy
 rw [if_pos (by simp),Yo hl h]
theorem z2S (S0 B:D)(ks:List Key)(ds:List D)(i:Int)(x:Str)(lo hi c:Int)(y4 y5 y6 y7:Option D)(hl:ks.length=ds.length)(hk:ks.length<1000)(hx:Key.inr x∉ks)(hc:zk [S0,.int (10+i)]=.ok (.int c))(hB:ixD B (.int i)=.ok (.tup [.str x,.int lo,.int hi]))(h2:lo<hi) :
  ∃ n,bU [some S0,some (.dic ks ds),some B,some (.int i),y4,y5,y6,y7]=.ok (.nx [some S0,some (.dic (ks++[.inr x]) (ds++[.int n])),some B,some (.int i),some (.int c),some (.str x),some (.int lo),some (.int hi)]):=by
 have m1:zA (.int c) (.int 3)=.ok (.int (c%3)):=zK (by decide)
 have f1:zC (.int c) (.int 3)=.ok (.int (c/3)):=zV (by decide) (by decide)
 have m2:zA (.int (c/3)) (.int (hi-lo+1))=.ok (.int (c/3%(hi-lo+1))):=zK (by omega)
 have m3:zA (.int (c/3)) (.int 3)=.ok (.int (c/3%3)):=zK (by decide)
 have k1:∀ (τ:Tn) (n:Int),Z0 1 τ (.int n) (.dic ks ds) (.str x)=.ok (.nx (τ.set 1 (some (.dic (ks++[.inr x]) (ds++[.int n]))))):=fun τ n=>by rw [qZ rfl (by omega),Wm hx]
 have k2:∀ (τ:Tn) (n m:Int),Z0 1 τ (.int n) (.dic (ks++[.inr x]) (ds++[.int m])) (.str x)=.ok (.nx (τ.set 1 (some (.dic (ks++[.inr x]) (ds++[.int n]))))):=fun τ n m=>by rw [qZ rfl (by rw [tN]; show ks.length+1<_; omega),VE hl hx]
 have im:D.imms [.str x,.int lo,.int hi]=true:=rfl
 have hm:=uq im
 generalize c/3%(hi-lo+1)=v at *
 generalize c/3%3=v3 at *
 by_cases e1:c%3=1
 ·refine ⟨lo+v3,?_⟩
  have q1:eqR false (.int (c%3)) (.int 1)=.ok (.bl true):=by rw [e1]; rfl
  generalize c%3=u at *
  generalize c/3=u3 at *
  simp -implicitDefEqProofs only [bU,yU,zU,zx,zh,zl,sIf,WT,zb,eC,zd,eL,ze,za,zm,asB,Tgt.asg,R.ok_bind,tH,tM,tD,tE,tG,tI,Nat.reduceAdd,tZ,yw,wt,if_true,hc,hB,hm,m1,f1,m2,m3,uy,k1,k2,q1]
 ·refine ⟨lo+v,?_⟩
  have q1:eqR false (.int (c%3)) (.int 1)=.ok (.bl false):=by rw [vh,beq_eq_false_iff_ne.mpr e1]; rfl
  generalize c%3=u at *
  generalize c/3=u3 at *
  simp -implicitDefEqProofs only [bU,yU,zU,zx,zh,zl,sIf,WT,zb,eC,zd,eL,ze,za,zm,asB,Tgt.asg,R.ok_bind,tH,tM,tD,tE,tG,tI,Nat.reduceAdd,tZ,yw,wt,if_true,if_false,tW,hc,hB,hm,m1,f1,m2,m3,uy,k1,k2,q1]
def R0:Tn->R Fl:=(zh (zl 1 (eC (.dic [] []))) (zh (zl 2 (eL (fun ds=>.ok (.lst ds)) (za (eL (fun ds=>.ok (.tup ds)) (za (eC (.str "width")) (za (eC (.int 4)) (za (eC (.int 2000)) ze)))) (za (eL (fun ds=>.ok (.tup ds)) (za (eC (.str "height")) (za (eC (.int 2)) (za (eC (.int 200)) ze)))) (za (eL (fun ds=>.ok (.tup ds)) (za (eC (.str "part")) (za (eC (.int 0)) (za (eC (.int 100000)) ze)))) (za (eL (fun ds=>.ok (.tup ds)) (za (eC (.str "twin")) (za (eC (.int 0)) (za (eC (.int 100000)) ze)))) ze)))))) (zh (zl 2 (zd zy (zb 2) (eL (fun ds=>.ok (.lst ds)) (za (eL (fun ds=>.ok (.tup ds)) (za (eC (.str "over")) (za (eC (.int 1)) (za (eC (.int 100000)) ze)))) (za (eL (fun ds=>.ok (.tup ds)) (za (eC (.str "lone")) (za (eC (.int 0)) (za (eC (.int 100000)) ze)))) (za (eL (fun ds=>.ok (.tup ds)) (za (eC (.str "late")) (za (eC (.int 0)) (za (eC (.int 100000)) ze)))) (za (eL (fun ds=>.ok (.tup ds)) (za (eC (.str "gap")) (za (eC (.int 0)) (za (eC (.int 5)) ze)))) ze))))))) (zl 2 (zd zy (zb 2) (eL (fun ds=>.ok (.lst ds)) (za (eL (fun ds=>.ok (.tup ds)) (za (eC (.str "ahead")) (za (eC (.int 1)) (za (eC (.int 6)) ze)))) (za (eL (fun ds=>.ok (.tup ds)) (za (eC (.str "behind")) (za (eC (.int 1)) (za (eC (.int 6)) ze)))) ze))))))))
theorem z3z (S0:D):R0 [some S0,none,none,none,none,none,none,none]=.ok (.nx [some S0,some (.dic [] []),some (.lst (LB.map ZO)),none,none,none,none,none]):=by
 have h:∀ xs ys:List D,D.imms xs=true->D.imms ys=true->xs.length+ys.length<=100->zy (.lst xs) (.lst ys)=.ok (.lst (xs++ys)):=fun xs ys h1 h2 h3=>if_pos ⟨h1,h2,rC h3 (by rw [sizeLine_eq]; decide)⟩
 simp -implicitDefEqProofs only [R0,zh,zl,zb,eC,zd,eL,ze,za,R.ok_bind,tD,tE,tG,tI]
 rw [h _ _ rfl rfl (by decide)]
 simp -implicitDefEqProofs only [R.ok_bind,tO,tL,tD,tE,tG,tI]
 rw [h _ _ rfl rfl (by decide)]
 simp -implicitDefEqProofs only [R.ok_bind,tO,tL]
 rfl
end K09
namespace K09
open PySem PyProof.Rows L2
theorem Xu (a b c:Tn->R Fl):zh a (zh b c)=zh (zh a b) c:=by
 funext τ
 unfold zh
 cases h:a τ with
 | ok f=>cases f<;>rfl
 | err n=>rfl
 | bad=>rfl
theorem xa {a b:Tn->R Fl}{τ τ1:Tn}(h:a τ=.ok (.nx τ1)):zh a b τ=b τ1:=by unfold zh; rw [h]; rfl
theorem Uh {n:Nat}{t:Tn->R Fl}{ds:List D}{τ:Tn}{d:D}(e:ds.map some++List.replicate (n-ds.length) none=τ)(h:t τ=.ok (.rt d)):zw n t ds=.ok d:=by
 unfold zw
 rw [e,h]
theorem tRL:yB=zw 8 (zh R0 (zh (yJ (iL wC (za (eC (.int 10)) ze)) (.one 3) bU) (zr (zb 1)))):=by
 unfold R0
 rw [<- Xu,<- Xu,<- Xu]
 rfl
theorem z0F (ns:List Int)(hn:ns.length<=63):∀ (m i:Nat) (ks:List Key) (vs:List Int) (y3 y4 y5 y6 y7:Option D),i+m=10->ks=(LB.take i).map ky->vs.length=i ->
  ∃ (ws:List Int) (z3 z4 z5 z6 z7:Option D),ws.length=10/\yY (Tgt.one 3).asg bU ((List.range' i m).map fun (j:Nat)=>D.int (0+(j:Int))) [some (.frl (ns.map .int)),some (.dic ks (vs.map .int)),some (.lst (LB.map ZO)),y3,y4,y5,y6,y7]=.ok (.nx [some (.frl (ns.map .int)),some (.dic (LB.map ky) (ws.map .int)),some (.lst (LB.map ZO)),z3,z4,z5,z6,z7])
 | 0,i,ks,vs,y3,y4,y5,y6,y7,hm,hk,hv=>by
  have hi:i=10:=by omega
  subst hi
  exact ⟨vs,y3,y4,y5,y6,y7,hv,by rw [hk]; rfl⟩
 | m+1,i,ks,vs,y3,y4,y5,y6,y7,hm,hk,hv=>by
  have hi:i<LB.length:=by show i<10; omega
  obtain ⟨c,hc,_⟩:=vp ns hn (10+(0+(i:Int))) (by omega) (by omega)
  have hB:ixD (.lst (LB.map ZO)) (.int (0+(i:Int)))=.ok (ZO LB[i]):=qg (qi (by omega) (by rw [show (0+(i:Int)).toNat=i by omega,sM,tU hi]; rfl))
  have hnot:ky LB[i]∉ks:=by
   have h:=z2M
   have e:LB.map ky=(LB.take i).map ky++(ky LB[i]::(LB.drop (i+1)).map ky):=by
    rw [<- tF,<- rB hi,<- sP,List.take_append_drop]
   rw [e,sI] at h
   rw [hk]
   exact fun z=>h.2.2 _ z _ tQ rfl
  have hlo:=z3n LB[i] (rM hi)
  have hkl:ks.length=i:=by rw [hk,tP,sW]; omega
  obtain ⟨n,hb⟩:=z2S (.frl (ns.map .int)) (.lst (LB.map ZO)) ks (vs.map .int) (0+(i:Int)) LB[i].1 LB[i].2.1 LB[i].2.2 c y4 y5 y6 y7 (by rw [tP,hkl,hv]) (by omega) hnot hc hB hlo
  obtain ⟨ws,z3,z4,z5,z6,z7,hw,h⟩:=z0F ns hn m (i+1) (ks++[ky LB[i]]) (vs++[n]) (some (.int (0+(i:Int)))) (some (.int c)) (some (.str LB[i].1)) (some (.int LB[i].2.1)) (some (.int LB[i].2.2)) (by omega) (by rw [hk,List.take_succ,tU hi,sP]; rfl) (by rw [tN,hv]; rfl)
  refine ⟨ws,z3,z4,z5,z6,z7,hw,?_⟩
  rw [List.range'_succ,tF,xh]
  have ha:(Tgt.one 3).asg (.int (0+(i:Int))) [some (.frl (ns.map .int)),some (.dic ks (vs.map .int)),some (.lst (LB.map ZO)),y3,y4,y5,y6,y7]=.ok [some (.frl (ns.map .int)),some (.dic ks (vs.map .int)),some (.lst (LB.map ZO)),some (.int (0+(i:Int))),y4,y5,y6,y7]:=rfl
  rw [ha,R.ok_bind,hb,R.ok_bind,xY]
  rw [sP] at h
  exact h
theorem z3K:∀ ws:List Int,ws.length=10->∃ a0 a1 a2 a3 a4 a5 a6 a7 a8 a9,ws=[a0,a1,a2,a3,a4,a5,a6,a7,a8,a9]
 | [a0,a1,a2,a3,a4,a5,a6,a7,a8,a9],_=>⟨a0,a1,a2,a3,a4,a5,a6,a7,a8,a9,rfl⟩
 | [],h | [_],h | [_,_],h | [_,_,_],h | [_,_,_,_],h | [_,_,_,_,_],h | [_,_,_,_,_,_],h | [_,_,_,_,_,_,_],h | [_,_,_,_,_,_,_,_],h | [_,_,_,_,_,_,_,_,_],h=>by simp at h
 | _::_::_::_::_::_::_::_::_::_::_::_,h=>by simp at h
theorem z3Z (ns:List Int)(hn:ns.length<=63):∃ a0 a1 a2 a3 a4 a5 a6 a7 a8 a9,yB [.frl (ns.map .int)]=.ok (dR a0 a1 a2 a3 a4 a5 a6 a7 a8 a9):=by
 obtain ⟨ws,z3,z4,z5,z6,z7,hw,h⟩:=z0F ns hn 10 0 [] [] none none none none none rfl rfl rfl
 obtain ⟨a0,a1,a2,a3,a4,a5,a6,a7,a8,a9,rfl⟩:=z3K ws hw
 refine ⟨a0,a1,a2,a3,a4,a5,a6,a7,a8,a9,?_⟩
 have e1:wC [D.int 10]=.ok (rng 0 10):=uo (j:=10) (by decide) (by decide)
 have er:rng 0 10=(List.range' 0 10).map fun (j:Nat)=>D.int (0+(j:Int)):=rfl
 have hi:∀ τ:Tn,iL wC (za (eC (.int 10)) ze) τ=.ok (rng 0 10):=fun τ=>by
  generalize rng 0 10=RR at *
  simp -implicitDefEqProofs only [eC,ze,za,iL,R.ok_bind,e1]
 have hf:=xt (g:=.one 3) (B:=bU) ((hi [some (.frl (ns.map .int)),some (.dic [] []),some (.lst (LB.map ZO)),none,none,none,none,none]).trans (congrArg R.ok er)) h
 rw [tRL]
 refine Uh (τ:=[some (.frl (ns.map .int)),none,none,none,none,none,none,none]) rfl ?_
 rw [xa (z3z _),xa hf]
 rfl
abbrev MK:Str:="-=-"
theorem z2t:MK.length=3:=by decide +kernel
theorem z2Y:∀ c∈MK.cps.toList,c=45\/c=61:=by decide +kernel
theorem Qi:∀ c∈AZ.cps.toList,c≠45/\c≠61:=z44
def B4:Tn->R Fl:=(zl 4 (eL zk (za (zb 0) (za (zd zy (eC (.int 20)) (zb 3)) ze))))
def B5:Tn->R Fl:=(zl 5 (zd zy (eC (.int 2)) (zd zA (zb 4) (eC (.int 3)))))
def B6:Tn->R Fl:=(zl 6 (eL zH (za (zd zC (zb 4) (eC (.int 12))) (za (zb 5) (za (zb 1) ze)))))
def B7:Tn->R Fl:=(zl 7 (zd zy (eC (.int 1)) (zd zA (zd zC (zb 4) (eC (.int 3))) (zd uJ (zb 5) (eC (.int 1))))))
def B8 (A:Str):Tn->R Fl:=(zl 8 (zd zy (zd zy (eSl (zb 6) yT (yb (zb 7))) (zd ixD (eC (.str A)) (zd zA (zd zC (zb 4) (eC (.int 6))) (eC (.int 3))))) (eSl (zb 6) (yb (zb 7)) yT)))
def rc9:Tn->R Bool:=(zm (zd (eqR false) (eUn (vZ "=" "-") (zb 0)) (eUn (vZ "=" "-") (zb 1))))
def B9:Tn->R Fl:=(sIf (zm (zd (eqR false) (eL yy (za (yE [none,some 8] (zZ (zb 2)) (.one 0) rc9 (ya (zb 0))) ze)) (eC (.int 0)))) (wN 2 (ya (zb 8))) zx)
def bK:Tn->R Fl:=zh B4 (zh B5 (zh B6 (zh B7 (zh (B8 MK) B9))))
theorem tBK:yP=zw 9 (zh (zl 2 (eL (fun ds=>.ok (.lst ds)) ze)) (zh (yJ (iL wC (za (zd zA (eL zk (za (zb 0) (za (eC (.int 3)) ze))) (eC (.int 10))) ze)) (.one 3) bK) (zr (zb 2)))):=rfl
theorem Jo (RP:D->R D)(EK EJ X Y:D)(b:Bool)(r1:RP EK=.ok X)(r2:RP EJ=.ok Y)(q:eqR false X Y=.ok (.bl b))(im:qX EK=.ok EK):ym (Tgt.one 0).asg (zm (zd (eqR false) (eUn RP (zb 0)) (eUn RP (zb 1)))) (ya (zb 0)) [none,some EJ] EK=.ok (if b=true then some EK else none):=by
 generalize eqR false=EQ at *
 cases b<;>simp -implicitDefEqProofs only [ym,x5,zU,zb,zd,eUn,zm,asB,Tgt.asg,R.ok_bind,tD,tE,tG,if_true,if_false,tW,r1,r2,q,im]
theorem z1I (CE:Tn->R D)(K L L2:List D)(J:D)(b:Bool)(s0 s1 s3 s4 s5 s6 s7:Option D)(h:CE [s0,s1,some (.lst L),s3,s4,s5,s6,s7,some J]=.ok (.lst K))(hb:b=((K.length:Int)==0))(im:qX J=.ok J)(hl:L.length<16777216) :
  (sIf (zm (zd (eqR false) (eL yy (za CE ze)) (eC (.int 0)))) (wN 2 (ya (zb 8))) zx) [s0,s1,some (.lst L),s3,s4,s5,s6,s7,some J]=.ok (.nx [s0,s1,some (.lst (if b=true then L++[J] else L)),s3,s4,s5,s6,s7,some J]):=by
 have l1:yy [.lst K]=.ok (.int (K.length:Nat)):=Wr
 have q:eqR false (.int (K.length:Nat)) (.int 0)=.ok (.bl b):=by rw [vh,if_neg tX,hb]
 generalize ((K.length:Nat):Int)=n at *
 generalize eqR false=EQ at *
 cases b<;>simp -implicitDefEqProofs only [wa,wG,wJ,zU,zx,sIf,zb,eC,zd,eL,ze,za,zm,asB,R.ok_bind,tD,tE,tG,tI,if_true,if_false,tW,h,l1,q,im,hl]
theorem z40 (l:List Jn)(hl:l.length<=20)(hJ:∀ j∈l,Jk j)(j:Jn)(hj:Jk j)(s0 s1 s3 s4 s5 s6 s7:Option D):∃ l':List Jn,(∀ k∈l',k∈l\/k=j)/\l'.length<=l.length+1 /\
  B9 [s0,s1,some (.lst (l.map zz)),s3,s4,s5,s6,s7,some (zz j)]=.ok (.nx [s0,s1,some (.lst (l'.map zz)),s3,s4,s5,s6,s7,some (zz j)]):=by
 have rp:∀ k:Jn,Jk k->vZ "=" "-" (zz k)=.ok (.str (Txt.replace (S (jtx k)) "=" "-")):=fun k hk=>if_pos (by rw [xw]; have:=hk.len; omega)
 have hc:=yI (enc:=zz) (f:=ym (Tgt.one 0).asg rc9 (ya (zb 0)) [none,some (zz j)]) (o:=fun k=>if (Txt.replace (S (jtx k)) "=" "-"==Txt.replace (S (jtx j)) "=" "-")=true then some (zz k) else none) (xs:=l) fun k hk =>
  Jo (vZ "=" "-") (zz k) (zz j) _ _ _ (rp k (hJ k hk)) (rp j hj) (by rw [ub,if_neg tX]) rfl
 have hlen:(l.filterMap fun k=>if (Txt.replace (S (jtx k)) "=" "-"==Txt.replace (S (jtx j)) "=" "-")=true then some (zz k) else none).length<=20:=rC (List.length_filterMap_le _ _) hl
 generalize (l.filterMap fun k=>if (Txt.replace (S (jtx k)) "=" "-"==Txt.replace (S (jtx j)) "=" "-")=true then some (zz k) else none)=KK at *
 have hk:=xA (ys:=KK) (by omega)
 have hE:yE [none,some 8] (zZ (zb 2)) (.one 0) rc9 (ya (zb 0)) [s0,s1,some (.lst (l.map zz)),s3,s4,s5,s6,s7,some (zz j)]=.ok (.lst KK):=by
  generalize rc9=RC at *
  generalize l.map zz=LL at *
  generalize zz j=EJ at *
  simp -implicitDefEqProofs only [yC,xx,xB,qf,uO,zb,zZ,wY,R.ok_bind,tD,tE,hc,hk]
 have hs:=z1I _ KK (l.map zz) [] (zz j) _ s0 s1 s3 s4 s5 s6 s7 hE rfl rfl (by rw [tP]; omega)
 cases hb:((KK.length:Int)==0) with
 | true =>
  rw [hb,if_pos rfl] at hs
  exact ⟨l++[j],fun k hk=>by
   rcases sE.mp hk with z | z
   ·exact .inl z
   ·exact .inr (sN.mp z),by rw [tN]; exact tY _,by rw [sP]; exact hs⟩
 | false =>
  rw [hb,if_neg tX] at hs
  exact ⟨l,fun k hk=>.inl hk,Nat.le_succ _,hs⟩
theorem z31 (A:Str)(lA:A.length=3)(pA:∀ c∈A.cps.toList,c=45\/c=61)(s0 s1 s2 s3 s5:Option D)(n:Int)(cs:List Nat)(hc:∀ c∈cs,lowC c)(hl:cs.length<=4)(a:Nat)(ha:a<=cs.length)(y8:Option D):∃ j:Jn,Jk j /\
  B8 A [s0,s1,s2,s3,some (.int n),s5,some (.str (S cs)),some (.int (a:Nat)),y8]=.ok (.nx [s0,s1,s2,s3,some (.int n),s5,some (.str (S cs)),some (.int (a:Nat)),some (zz j)]):=by
 have d6:zC (.int n) (.int 6)=.ok (.int (n/6)):=zV (by decide) (by decide)
 have m3:zA (.int (n/6)) (.int 3)=.ok (.int (n/6%3)):=zK (by decide)
 have b0:=sU (n/6) (show (3:Int)≠0 by decide)
 have b1:=sR (n/6) (show (0:Int)<3 by decide)
 obtain ⟨m,hm,om⟩:=Yy (z:=A) (i:=n/6%3) (p:=fun c=>c=45\/c=61) (by rw [lA]; decide) b0 (by rw [lA]; exact b1) pA
 have s1':=UJ cs (by omega) a
 have s2':=j6 cs (by omega) a ha
 have a1:=Qq (cs.take a) m (by rw [sW]; omega)
 have a2:=qz (cs.take a++[m]) (cs.drop a) (by rw [tN,sW,rF]; show min a cs.length+1+_<=_; omega)
 refine ⟨(cs.take a,m,cs.drop a),⟨om,fun c h=>Qi c (hc c (pM h)),fun c h=>Qi c (hc c (List.mem_of_mem_drop h)),by rw [sW,rF]; omega⟩,?_⟩
 have e:zz (cs.take a,m,cs.drop a)=.str (S (cs.take a++[m]++cs.drop a)):=by
  show D.str (S (cs.take a++m::cs.drop a))=_
  rw [sS]; rfl
 rw [e]
 unfold B8
 generalize S (cs.take a++[m]++cs.drop a)=X3 at *
 generalize S (cs.take a++[m])=X2 at *
 generalize S (cs.take a)=X1 at *
 generalize S (cs.drop a)=X4 at *
 generalize S cs=W at *
 generalize one m=O at *
 generalize ((a:Nat):Int)=AA at *
 generalize n/6%3=v at *
 generalize n/6=u at *
 simp -implicitDefEqProofs only [zl,zb,eC,zd,eSl,yT,yb,R.ok_bind,tD,tE,tG,tI,d6,m3,hm,s1',s2',a1,a2]
theorem z1o (T8 T9:Tn->R Fl)(S0 b L J L' W:D)(k n mm a:Int)(y4 y5 y6 y7 y8:Option D)(hv:zk [S0,.int (20+k)]=.ok (.int n))(m3:zA (.int n) (.int 3)=.ok (.int (n%3)))(hmm:2+n%3=mm)(d12:zC (.int n) (.int 12)=.ok (.int (n/12)))(hL:zH [.int (n/12),.int mm,b]=.ok W)
  (d3:zC (.int n) (.int 3)=.ok (.int (n/3))) (m4:zA (.int (n/3)) (.int (mm-1))=.ok (.int (n/3%(mm-1)))) (ha:1+n/3%(mm-1)=a)
  (h8:T8 [some S0,some b,some L,some (.int k),some (.int n),some (.int mm),some W,some (.int a),y8]=.ok (.nx [some S0,some b,some L,some (.int k),some (.int n),some (.int mm),some W,some (.int a),some J]))
  (h9:T9 [some S0,some b,some L,some (.int k),some (.int n),some (.int mm),some W,some (.int a),some J]=.ok (.nx [some S0,some b,some L',some (.int k),some (.int n),some (.int mm),some W,some (.int a),some J])) :
  zh B4 (zh B5 (zh B6 (zh B7 (zh T8 T9)))) [some S0,some b,some L,some (.int k),y4,y5,y6,y7,y8]=.ok (.nx [some S0,some b,some L',some (.int k),some (.int n),some (.int mm),some W,some (.int a),some J]):=by
 unfold B4 B5 B6 B7
 generalize zk=FN at *
 generalize zH=FL at *
 generalize n/12=u1 at *
 generalize n/3%(mm-1)=u3 at *
 generalize n/3=u2 at *
 generalize n%3=u4 at *
 simp -implicitDefEqProofs only [zh,zl,zb,eC,zd,eL,ze,za,R.ok_bind,tD,tE,tG,tI,yw,wt,hv,m3,hmm,d12,hL,d3,m4,ha,h8,h9]
theorem z3k (ns:List Int)(hn:ns.length<=63)(b:Bool)(l:List Jn)(hl:l.length<=20)(hJ:∀ j∈l,Jk j)(i:Nat)(hi:i<=20)(y4 y5 y6 y7 y8:Option D):∃ (l':List Jn) (z4 z5 z6 z7 z8:Option D),(∀ j∈l',Jk j)/\l'.length<=l.length+1 /\
  bK [some (.frl (ns.map .int)),some (.bl b),some (.lst (l.map zz)),some (.int (0+(i:Int))),y4,y5,y6,y7,y8]=.ok (.nx [some (.frl (ns.map .int)),some (.bl b),some (.lst (l'.map zz)),some (.int (0+(i:Int))),z4,z5,z6,z7,z8]):=by
 obtain ⟨n,hv,_⟩:=vp ns hn (20+(0+(i:Int))) (by omega) (by omega)
 have m3:zA (.int n) (.int 3)=.ok (.int (n%3)):=zK (by decide)
 have b0:=sU n (show (3:Int)≠0 by decide)
 have b1:=sR n (show (0:Int)<3 by decide)
 obtain ⟨mm,hmm⟩:∃ mm:Nat,(mm:Int)=2+n%3:=⟨(2+n%3).toNat,rE (by omega)⟩
 obtain ⟨cs,c1,c2,hL⟩:=Wg (n/12) mm (by omega) b
 have d12:zC (.int n) (.int 12)=.ok (.int (n/12)):=zV (by decide) (by decide)
 have d3:zC (.int n) (.int 3)=.ok (.int (n/3)):=zV (by decide) (by decide)
 have q0:=sU (n/3) (show (mm:Int)-1≠0 by omega)
 have q1:=sR (n/3) (show (0:Int)<(mm:Int)-1 by omega)
 have m4:zA (.int (n/3)) (.int ((mm:Int)-1))=.ok (.int (n/3%((mm:Int)-1))):=zK (by omega)
 obtain ⟨a,ha⟩:∃ a:Nat,(a:Int)=1+n/3%((mm:Int)-1):=⟨(1+n/3%((mm:Int)-1)).toNat,rE (by omega)⟩
 obtain ⟨j,hj,h8⟩:=z31 MK z2t z2Y (some (.frl (ns.map .int))) (some (.bl b)) (some (.lst (l.map zz))) (some (.int (0+(i:Int)))) (some (.int (mm:Nat))) n cs c2 (by omega) a (by omega) y8
 obtain ⟨l',k1,k2,h9⟩:=z40 l hl hJ j hj (some (.frl (ns.map .int))) (some (.bl b)) (some (.int (0+(i:Int)))) (some (.int n)) (some (.int (mm:Nat))) (some (.str (S cs))) (some (.int (a:Nat)))
 refine ⟨l',_,_,_,_,_,fun k hk=>?_,k2,z1o (B8 MK) B9 (.frl (ns.map .int)) (.bl b) _ _ _ _ (0+(i:Int)) n (mm:Nat) (a:Nat) y4 y5 y6 y7 y8 hv m3 hmm.symm d12 hL d3 m4 ha.symm h8 h9⟩
 rcases k1 k hk with z | z
 ·exact hJ k z
 ·rw [z]; exact hj
theorem Ja (T:Tn->R Fl)(S0 b:D)(L:D)(y3 y4 y5 y6 y7 y8:Option D)(h:T [some S0,some b,some (.lst []),none,none,none,none,none,none]=.ok (.nx [some S0,some b,some L,y3,y4,y5,y6,y7,y8])):zw 9 (zh (zl 2 (eL (fun ds=>.ok (.lst ds)) ze)) (zh T (zr (zb 2)))) [S0,b]=.ok L:=by
 simp -implicitDefEqProofs only [zw,zh,zl,zr,zb,eL,ze,R.ok_bind,tF,tV,tH,tM,tS,tK,tO,tL,tD,tE,tG,tI,Nat.reduceAdd,Nat.reduceSub,tZ,h]
theorem z4R (ns:List Int)(hn:ns.length<=63)(b:Bool):∃ l:List Jn,yP [.frl (ns.map .int),.bl b]=.ok (.lst (l.map zz))/\(∀ j∈l,Jk j)/\l.length<=20:=by
 obtain ⟨n,hv,_⟩:=vp ns hn 3 (by decide) (by decide)
 have m10:zA (.int n) (.int 10)=.ok (.int (n%10)):=zK (by decide)
 have b0:=sU n (show (10:Int)≠0 by decide)
 have b1:=sR n (show (0:Int)<10 by decide)
 have r1:wC [D.int (n%10)]=.ok (rng 0 (n%10).toNat):=uo (by omega) (by omega)
 obtain ⟨m,hm⟩:∃ m:Nat,(n%10).toNat=m:=⟨_,rfl⟩
 rw [hm] at r1
 obtain ⟨τ',e2,l,y3,y4,y5,y6,y7,y8,g1,g2,h⟩:=xP (asg:=(Tgt.one 3).asg) (body:=bK)
  (fun i τ=>∃ (l:List Jn) (y3 y4 y5 y6 y7 y8:Option D),(∀ j∈l,Jk j)/\l.length<=i/\τ=[some (.frl (ns.map .int)),some (.bl b),some (.lst (l.map zz)),y3,y4,y5,y6,y7,y8]) (rng 0 m) 0
  [some (.frl (ns.map .int)),some (.bl b),some (.lst []),none,none,none,none,none,none] ⟨[],none,none,none,none,none,none,fun j h=>(nomatch h),tY _,rfl⟩ (fun i d τ hd ⟨l,y3,y4,y5,y6,y7,y8,q1,q2,q3⟩=>by
   obtain ⟨hi,rfl⟩:=j5 hd
   subst q3
   obtain ⟨l',z4,z5,z6,z7,z8,k1,k2,hb⟩:=z3k ns hn b l (by omega) q1 i (by omega) y4 y5 y6 y7 y8
   exact ⟨_,_,rfl,.inl hb,l',_,z4,z5,z6,z7,z8,k1,by omega,rfl⟩)
 subst h
 rw [Wx,tZ] at g2
 refine ⟨l,?_,g1,by omega⟩
 have hi:iL wC (za (zd zA (eL zk (za (zb 0) (za (eC (.int 3)) ze))) (eC (.int 10))) ze) [some (.frl (ns.map .int)),some (.bl b),some (.lst []),none,none,none,none,none,none]=.ok (rng 0 m):=by
  generalize rng 0 m=RR at *
  generalize D.frl (ns.map .int)=S0 at *
  generalize n%10=v at *
  simp -implicitDefEqProofs only [zb,eC,zd,eL,ze,za,iL,R.ok_bind,tD,hv,m10,r1]
 rw [tBK]
 exact Ja _ _ _ _ y3 y4 y5 y6 y7 y8 (xt hi e2)
end K09
namespace K09
open PySem PyProof.Rows L2
def enT (q:List Nat×Str):D:=tx q.1 q.2
def TXl (cs:List Nat):Nat->List (Nat×Str)->List (List Nat×Str)
 | _,[]=>[]
 | b,q::r=>(mid cs b q.1,q.2)::TXl cs q.1 r
theorem W3 (cs:List Nat):∀ (P:List (Nat×Str)) (b:Nat),TXh cs b P=(TXl cs b P).map enT
 | [],_=>rfl
 | q::r,b=>by
  show tx _ _::TXh cs q.1 r=_
  rw [W3 cs r]
  rfl
theorem Ww (cs:List Nat):∀ (P:List (Nat×Str)) (b:Nat),(TXl cs b P).length=P.length
 | [],_=>rfl
 | q::r,b=>by show (TXl cs q.1 r).length+1=_; rw [Ww cs r]; rfl
theorem XO (cs:List Nat):∀ (P:List (Nat×Str)) (b:Nat),(TXl cs b P).map (·.2)=P.map (·.2)
 | [],_=>rfl
 | q::r,b=>by show q.2::(TXl cs q.1 r).map (·.2)=_; rw [XO cs r]; rfl
theorem Y2 (cs:List Nat):∀ (P:List (Nat×Str)) (b:Nat),Up cs.length b P->((TXl cs b P).map (·.1)).flatten++cs.drop (lastP b P)=cs.drop b
 | [],b,_=>rfl
 | q::r,b,h=>by
  obtain ⟨h1,h2,h3⟩:=h
  show (mid cs b q.1++((TXl cs q.1 r).map (·.1)).flatten)++cs.drop (lastP q.1 r)=_
  rw [sS,Y2 cs r q.1 h3]
  unfold mid
  have e:cs.drop q.1=(cs.drop b).drop (q.1-b):=by rw [List.drop_drop]; congr 1; omega
  rw [e,List.take_append_drop]
theorem z2I (RR:D)(a b:Int)(ha:ixD RR (.str "ahead")=.ok (.int a))(hb:ixD RR (.str "behind")=.ok (.int b))(cs:List Nat)(hc:∀ c∈cs,c<128)(hl:cs.length<=40)(l:List Jn)(hJ:∀ j∈l,Jk j) :
  ∃ jf:Nat->Option Str,(∀ p z,jf p=some z->z="part"\/z="soft")/\∀ p,1<=p->p<cs.length->yM [.lst ((l.filter (vA cs)).map zz),RR,.str (S cs),.int (p:Nat)]=.ok (qR (jf p)):=by
 have all:∀ p,∃ o:Option Str,(∀ z,o=some z->z="part"\/z="soft")/\(1<=p->p<cs.length->yM [.lst ((l.filter (vA cs)).map zz),RR,.str (S cs),.int (p:Nat)]=.ok (qR o)):=by
  intro p
  by_cases hp:1<=p/\p<cs.length
  ·obtain ⟨m1,e1,_⟩:=km cs hc hl p (by omega)
   obtain ⟨m2,e2,_⟩:=ji cs hc hl p (by omega)
   have hm:=QL RR a b ha hb cs hc hl p (by omega) (l.filter (vA cs)) (fun j hj=>hJ j (List.mem_filter.mp hj).1) m1 m2 e1 e2
   have hj:=K2 _ _ _ _ _ _ hm (KQ cs hc hl p hp.1 hp.2)
   generalize z1M cs p (l.filter (vA cs)) a b m1 m2=x at hj
   generalize QC cs p=y at hj
   cases x
   ·cases y
    ·exact ⟨none,fun z h=>(nomatch h),fun _ _=>hj⟩
    ·exact ⟨some "soft",fun z h=>.inr (Option.some.inj h).symm,fun _ _=>hj⟩
   ·exact ⟨some "part",fun z h=>.inl (Option.some.inj h).symm,fun _ _=>hj⟩
  ·exact ⟨none,fun z h=>(nomatch h),fun h1 h2=>absurd ⟨h1,h2⟩ hp⟩
 exact ⟨fun p=>Classical.choose (all p),fun p z h=>(Classical.choose_spec (all p)).1 z h,fun p=>(Classical.choose_spec (all p)).2⟩
structure Wd where
 cs:List Nat
 ts:List Nat
 q0:List (List Nat×Str)
 r:List Nat
structure Wok (BK RR:D)(x:Wd):Prop where
 pt:yl [BK,RR,.str (S x.cs)]=.ok (.lst ((x.q0++[(x.r,("blank":Str))]).map enT))
 nb:∀ q∈x.q0,(q.2==("blank":Str))=false
 fl:(x.q0.map (·.1)).flatten++x.r=x.cs
 lq:x.q0.length<=40
 lc:x.cs.length<=40
 lt:x.ts.length<=20
 oc:∀ c∈x.cs,K09.nb c
 ot:∀ c∈x.ts,K09.nb c
theorem okS.nb {c:Nat}(h:okS c):K09.nb c:=(by decide +kernel:∀ c∈Z2.cps.toList,c≠32) c h
theorem z43 (RR:D)(a b:Int)(ha:ixD RR (.str "ahead")=.ok (.int a))(hb:ixD RR (.str "behind")=.ok (.int b))(l:List Jn)(hJ:∀ j∈l,Jk j)(hn:l.length<=1000)(cs ts:List Nat)(ho:∀ c∈cs,okS c)(h1:1<=cs.length)(hl:cs.length<=40)(ht:∀ c∈ts,K09.nb c)(lt:ts.length<=20) :
  ∃ x:Wd,x.cs=cs/\x.ts=ts/\Wok (.lst (l.map zz)) RR x:=by
 have hc:∀ c∈cs,c<128:=fun c h=>(ho c h).lt
 obtain ⟨jf,hz,hj⟩:=z2I RR a b ha hb cs hc hl l hJ
 have hp:=z27 RR cs ho h1 hl l hJ hn jf hj
 have hU:Up cs.length 0 (PL jf (cs.length-1)):=UC jf cs.length (List.range (cs.length-1)) 0 List.pairwise_lt_range (fun x hx=>by have:=pG.mp hx; omega) (rO _)
 have hP:(PL jf (cs.length-1)).length<=40:=by have:=Qu jf (cs.length-1); omega
 have hpt:=z0H RR cs hl _ (PL jf (cs.length-1)) hU hP hp
 have hs:∀ q∈PL jf (cs.length-1),q.2="part"\/q.2="soft":=fun q hq=>by
  unfold PL at hq
  obtain ⟨i,_,e⟩:=pH.mp hq
  obtain ⟨z,e1,e2⟩:=rW.mp e
  rw [<- e2]
  exact hz _ z e1
 generalize PL jf (cs.length-1)=P at *
 refine ⟨⟨cs,ts,TXl cs 0 P,cs.drop (lastP 0 P)⟩,rfl,rfl,?_,fun q hq=>?_,?_,by rw [Ww]; exact hP,hl,lt,fun c h=>(ho c h).nb,ht⟩
 ·rw [hpt]
  unfold TXT
  rw [W3,sP]
  rfl
 ·have:q.2∈P.map (·.2):=by rw [<- XO cs P 0]; exact rZ.mpr ⟨q,hq,rfl⟩
  obtain ⟨p,hp,e⟩:=rZ.mp this
  have e1:(("part":Str)=="blank")=false:=by decide +kernel
  have e2:(("soft":Str)=="blank")=false:=by decide +kernel
  rcases hs p hp with z | z
  ·rw [<- e,z]; exact e1
  ·rw [<- e,z]; exact e2
 ·have:=Y2 cs P 0 hU
  rw [List.drop_zero] at this
  exact this
def uF (P:List (Nat×Int))(pl:Int)(t:List Nat):Int:=(t.map (wd P pl)).sum
def enP (P:List (Nat×Int))(pl:Int)(q:List Nat×Str):D:=.tup [.str (S q.1),.int (uF P pl q.1),.str q.2]
def pcs (x:Wd):List (List Nat×Str):=x.q0++[(x.r++x.ts,("blank":Str))]
def enW (x:Wd):D:=.tup [.str (S x.cs),.str (S x.ts)]
theorem Wok.mem {BK RR:D}{x:Wd}(h:Wok BK RR x):(∀ q∈x.q0,q.1.length<=40/\∀ c∈q.1,K09.nb c)/\x.r.length<=40/\∀ c∈x.r,K09.nb c:=by
 have e:=h.fl
 have hsub:∀ q∈x.q0,List.Sublist q.1 x.cs:=fun q hq=>by
  rw [<- e]
  exact (List.sublist_flatten_of_mem (rZ.mpr ⟨q,hq,rfl⟩)).trans (pO _ _)
 have hr:List.Sublist x.r x.cs:=by rw [<- e]; exact rQ _ _
 exact ⟨fun q hq=>⟨rC (hsub q hq).length_le h.lc,fun c hc=>h.oc c ((hsub q hq).subset hc)⟩,rC hr.length_le h.lc,fun c hc=>h.oc c (hr.subset hc)⟩
end K09
namespace K09
open PySem PyProof.Rows L2
def bI:Tn->R Fl:=(zh (zl 9 (eIf (zm (zd (eqR false) (zb 8) (eC (.str "blank")))) (zd zy (zb 7) (zb 6)) (ya (zb 7)))) (wN 4 (ya (eL (fun ds=>.ok (.tup ds)) (za (zb 9) (za (eL xM (za (zb 0) (za (zb 9) ze))) (za (zb 8) ze)))))))
def bO:Tn->R Fl:=(yJ (zZ (eL yl (za (zb 1) (za (zb 2) (za (zb 5) ze))))) (.many [7,8]) bI)
theorem tPC:zX=zw 10 (zh (zl 4 (eL (fun ds=>.ok (.lst ds)) ze)) (zh (yJ (zZ (zb 3)) (.many [5,6]) bO) (zr (zb 4)))):=rfl
theorem z32 (F B RR PR W TL TX FU:D)(z:Str)(w:Int)(L:List D)(b:Bool)(y9:Option D)(hb:eqR false (.str z) (.str "blank")=.ok (.bl b))(hf:if b=true then zy TX TL=.ok FU else qX TX=.ok FU)(hw:xM [F,FU]=.ok (.int w))(hs:∃ x,FU=.str x)(hL:L.length<16777216) :
  bI [some F,some B,some RR,some PR,some (.lst L),some W,some TL,some TX,some (.str z),y9]=.ok (.nx [some F,some B,some RR,some PR,some (.lst (L++[.tup [FU,.int w,.str z]])),some W,some TL,some TX,some (.str z),some FU]):=by
 obtain ⟨x,rfl⟩:=hs
 have im:D.imms [.str x,.int w,.str z]=true:=rfl
 have hm:=uq im
 unfold bI
 generalize xM=FW at *
 cases b
 ·rw [if_neg tX] at hf
  simp -implicitDefEqProofs only [wa,wG,wJ,zU,zh,zl,zb,eC,zd,eL,ze,za,zm,eIf,asB,R.ok_bind,tD,tE,tG,tI,if_false,tW,hb,hf,hw,hm,hL]
 ·rw [if_pos rfl] at hf
  simp -implicitDefEqProofs only [wa,wG,wJ,zU,zh,zl,zb,eC,zd,eL,ze,za,zm,eIf,asB,R.ok_bind,tD,tE,tG,tI,if_true,hb,hf,hw,hm,hL]
section
variable (pl bl:Int)(P:List (Nat×Int))(f:Fc P)(B RR PR:D)
include f
theorem z0s (x:Wd)(ok:Wok B RR x)(ys:List D):∀ (Q:List (List Nat×Str)) (L:List D) (y7 y8 y9:Option D),(∀ q∈Q,q∈x.q0)->L.length+Q.length<=10000 ->
  ∃ z7 z8 z9,yY (Tgt.many [7,8]).asg bI (Q.map enT++ys) [some (fc pl bl P),some B,some RR,some PR,some (.lst L),some (.str (S x.cs)),some (.str (S x.ts)),y7,y8,y9]=yY (Tgt.many [7,8]).asg bI ys [some (fc pl bl P),some B,some RR,some PR,some (.lst (L++Q.map (enP P pl))),some (.str (S x.cs)),some (.str (S x.ts)),z7,z8,z9]
 | [],L,y7,y8,y9,_,_=>⟨y7,y8,y9,by rw [tV,tV,sF,tL]⟩
 | q::Q,L,y7,y8,y9,hq,hl=>by
  rw [tH] at hl
  obtain ⟨m1,_,_⟩:=ok.mem
  obtain ⟨l1,n1⟩:=m1 q (hq q tQ)
  have hb:=z32 (fc pl bl P) B RR PR (.str (S x.cs)) (.str (S x.ts)) (.str (S q.1)) (.str (S q.1)) q.2 (uF P pl q.1) L false y9 (by rw [ub,if_neg tX,ok.nb q (hq q tQ)]) rfl (z2x pl bl P f q.1 (by omega) n1) ⟨_,rfl⟩ (by omega)
  obtain ⟨z7,z8,z9,h⟩:=z0s x ok ys Q (L++[enP P pl q]) (some (.str (S q.1))) (some (.str q.2)) (some (.str (S q.1))) (fun p hp=>hq p (tR _ hp)) (by rw [tN]; show L.length+1+_<=_; omega)
  refine ⟨z7,z8,z9,?_⟩
  have ha:(Tgt.many [7,8]).asg (enT q) [some (fc pl bl P),some B,some RR,some PR,some (.lst L),some (.str (S x.cs)),some (.str (S x.ts)),y7,y8,y9]=.ok [some (fc pl bl P),some B,some RR,some PR,some (.lst L),some (.str (S x.cs)),some (.str (S x.ts)),some (.str (S q.1)),some (.str q.2),y9]:=rfl
  rw [tF,tO,xh,ha,R.ok_bind,hb,R.ok_bind,xY]
  have h':=h
  rw [sS] at h'
  exact h'
theorem z3L (x:Wd)(ok:Wok B RR x)(L:List D)(y7 y8 y9:Option D)(hl:L.length<=9000) :
  ∃ z7 z8 z9,bO [some (fc pl bl P),some B,some RR,some PR,some (.lst L),some (.str (S x.cs)),some (.str (S x.ts)),y7,y8,y9]=.ok (.nx [some (fc pl bl P),some B,some RR,some PR,some (.lst (L++(pcs x).map (enP P pl))),some (.str (S x.cs)),some (.str (S x.ts)),z7,z8,z9]):=by
 obtain ⟨z7,z8,z9,h⟩:=z0s pl bl P f B RR PR x ok ([(x.r,("blank":Str))].map enT) x.q0 L y7 y8 y9 (fun _ h=>h) (by have:=ok.lq; omega)
 obtain ⟨_,lr,nr⟩:=ok.mem
 have lt:=ok.lt
 have ha:=qz x.r x.ts (by omega)
 have hb:=z32 (fc pl bl P) B RR PR (.str (S x.cs)) (.str (S x.ts)) (.str (S x.r)) (.str (S (x.r++x.ts))) "blank" (uF P pl (x.r++x.ts)) (L++x.q0.map (enP P pl)) true z9 (by rw [ub,if_neg tX,beq_self_eq_true]) (by rw [if_pos rfl]; exact ha) (z2x pl bl P f (x.r++x.ts) (by rw [tN]; omega) (fun c hc=>by
  rcases sE.mp hc with z | z
  ·exact nr c z
  ·exact ok.ot c z)) ⟨_,rfl⟩ (by rw [tN,tP]; have:=ok.lq; omega)
 refine ⟨some (.str (S x.r)),some (.str "blank"),some (.str (S (x.r++x.ts))),?_⟩
 refine xt (ds:=(x.q0++[(x.r,("blank":Str))]).map enT) ?_ ?_
 ·have hp:=ok.pt
  generalize (x.q0++[(x.r,("blank":Str))]).map enT=QQ at *
  generalize yl=FP at *
  simp -implicitDefEqProofs only [zb,eL,ze,za,zZ,wY,R.ok_bind,tD,tE,hp]
 ·rw [sP,h]
  have hA:(Tgt.many [7,8]).asg (enT (x.r,("blank":Str))) [some (fc pl bl P),some B,some RR,some PR,some (.lst (L++x.q0.map (enP P pl))),some (.str (S x.cs)),some (.str (S x.ts)),z7,z8,z9]=.ok [some (fc pl bl P),some B,some RR,some PR,some (.lst (L++x.q0.map (enP P pl))),some (.str (S x.cs)),some (.str (S x.ts)),some (.str (S x.r)),some (.str "blank"),z9]:=rfl
  rw [tF,tV,xh,hA,R.ok_bind,hb,R.ok_bind,xY,ZJ]
  unfold pcs
  rw [sP,<- sS]
  rfl
end
end K09
namespace K09
open PySem PyProof.Rows L2
theorem ZP {B RR:D}{x:Wd}(ok:Wok B RR x):(pcs x).length<=41:=by
 unfold pcs; rw [tN]; have:=ok.lq; show _+1<=_; omega
section
variable (pl bl:Int)(P:List (Nat×Int))(f:Fc P)(B RR PR:D)
include f
theorem QE (ys:List D):∀ (xs:List Wd) (L:List D) (y5 y6 y7 y8 y9:Option D),(∀ x∈xs,Wok B RR x)->L.length+41*xs.length<=9000 ->
  ∃ z5 z6 z7 z8 z9,yY (Tgt.many [5,6]).asg bO (xs.map enW++ys) [some (fc pl bl P),some B,some RR,some PR,some (.lst L),y5,y6,y7,y8,y9]=yY (Tgt.many [5,6]).asg bO ys [some (fc pl bl P),some B,some RR,some PR,some (.lst (L++(xs.flatMap pcs).map (enP P pl))),z5,z6,z7,z8,z9]
 | [],L,y5,y6,y7,y8,y9,_,_=>⟨y5,y6,y7,y8,y9,by rw [tV,List.flatMap_nil,tV,sF,tL]⟩
 | x::xs,L,y5,y6,y7,y8,y9,hq,hl=>by
  rw [tH] at hl
  have ok:=hq x tQ
  obtain ⟨u7,u8,u9,hb⟩:=z3L pl bl P f B RR PR x ok L y7 y8 y9 (by omega)
  obtain ⟨z5,z6,z7,z8,z9,h⟩:=QE ys xs (L++(pcs x).map (enP P pl)) (some (.str (S x.cs))) (some (.str (S x.ts))) u7 u8 u9 (fun p hp=>hq p (tR _ hp)) (by rw [tN,tP]; have:=ZP ok; omega)
  refine ⟨z5,z6,z7,z8,z9,?_⟩
  have ha:(Tgt.many [5,6]).asg (enW x) [some (fc pl bl P),some B,some RR,some PR,some (.lst L),y5,y6,y7,y8,y9]=.ok [some (fc pl bl P),some B,some RR,some PR,some (.lst L),some (.str (S x.cs)),some (.str (S x.ts)),y7,y8,y9]:=rfl
  rw [tF,tO,xh,ha,R.ok_bind,hb,R.ok_bind,xY,h,pS,sP,sS]
theorem jY (F B RR PR L:D)(T:Tn->R Fl)(z5 z6 z7 z8 z9:Option D)(h:T [some F,some B,some RR,some PR,some (.lst []),none,none,none,none,none]=.ok (.nx [some F,some B,some RR,some PR,some L,z5,z6,z7,z8,z9])) :
  zw 10 (zh (zl 4 (eL (fun ds=>.ok (.lst ds)) ze)) (zh T (zr (zb 4)))) [F,B,RR,PR]=.ok L:=by
 simp -implicitDefEqProofs only [zw,zh,zl,zr,zb,eL,ze,R.ok_bind,tF,tV,tH,tM,tS,tK,tO,tL,tD,tE,tG,tI,Nat.reduceAdd,Nat.reduceSub,tZ,h]
omit f in
theorem Xc (F B RR PR:D)(T:Tn->R Fl)(h:T [some F,some B,some RR,some PR,some (.lst []),none,none,none,none,none]=.err "BadWord") :
  zw 10 (zh (zl 4 (eL (fun ds=>.ok (.lst ds)) ze)) (zh T (zr (zb 4)))) [F,B,RR,PR]=.err "BadWord":=by
 simp -implicitDefEqProofs only [zw,zh,zl,zr,zb,eL,ze,R.ok_bind,R.err_bind,tF,tV,tH,tM,tS,tK,tO,tL,tG,tI,Nat.reduceAdd,Nat.reduceSub,tZ,h]
theorem z1L (xs:List Wd)(hx:∀ x∈xs,Wok B RR x)(hl:xs.length<=100):zX [fc pl bl P,B,RR,.lst (xs.map enW)]=.ok (.lst ((xs.flatMap pcs).map (enP P pl))):=by
 obtain ⟨z5,z6,z7,z8,z9,h⟩:=QE pl bl P f B RR (.lst (xs.map enW)) [] xs [] none none none none none hx (by rw [tM]; omega)
 rw [sF,ZJ,tL] at h
 rw [tPC]
 exact jY P f _ _ _ _ _ _ z5 z6 z7 z8 z9 (xt rfl h)
theorem Xv (xs:List Wd)(hx:∀ x∈xs,Wok B RR x)(hl:xs.length<=100)(d:D)(hd:zJ [d]=.ok (.bl false))(ys:List D):zX [fc pl bl P,B,RR,.lst (xs.map enW++.tup [d,.str ""]::ys)]=.err "BadWord":=by
 obtain ⟨z5,z6,z7,z8,z9,h⟩:=QE pl bl P f B RR (.lst (xs.map enW++.tup [d,.str ""]::ys)) (.tup [d,.str ""]::ys) xs [] none none none none none hx (by rw [tM]; omega)
 rw [tL] at h
 have hp:=Xz B RR d hd
 have hb:∀ s0 s3 s4 s6 s7 s8 s9:Option D,bO [s0,some B,some RR,s3,s4,some d,s6,s7,s8,s9]=.err "BadWord":=fun s0 s3 s4 s6 s7 s8 s9=>by
  unfold bO yJ
  generalize yl=FP at *
  simp -implicitDefEqProofs only [zb,eL,ze,za,zZ,R.ok_bind,R.err_bind,tD,tE,hp]
 have ha:∀ s0 s1 s2 s3 s4:Option D,(Tgt.many [5,6]).asg (.tup [d,.str ""]) [s0,s1,s2,s3,s4,z5,z6,z7,z8,z9]=.ok [s0,s1,s2,s3,s4,some d,some (.str ""),z7,z8,z9]:=fun _ _ _ _ _=>rfl
 rw [tPC]
 refine Xc _ _ _ _ _ (xt rfl ?_)
 rw [h,xh,ha,R.ok_bind,hb,R.err_bind]
end
end K09
namespace K09
open PySem PyProof.Rows L2
def bE:Tn->R Fl:=(wN 4 (ya (eL (fun ds=>.ok (.tup ds)) (za (zd ixD (zb 8) (zb 9)) (za (eL zR (za (zb 0) (za (zd ixD (zb 8) (zb 9)) ze))) (za (zd ixD (zd ixD (zb 7) (zb 9)) (eC (.int 1))) ze))))))
def D8:Tn->R Fl:=(zl 8 (yE [none] (zZ (zb 7)) (.one 0) (fun _=>.ok true) (ya (zd ixD (zb 0) (eC (.int 0))))))
def D9:Tn->R Fl:=(WY 8 (zd zy (zd ixD (zb 8) (eUn V2 (eC (.int 1)))) (zb 6)) (eUn V2 (eC (.int 1))))
def DF:Tn->R Fl:=(yJ (iL wC (za (eL yy (za (zb 7) ze)) ze)) (.one 9) bE)
def bD:Tn->R Fl:=(zh (zl 7 (eL yl (za (eL yk (za (zb 1) ze)) (za (eL yn (za (zb 2) ze)) (za (zb 5) ze))))) (zh D8 (zh D9 DF)))
theorem tDU:xb=zw 10 (zh (zl 4 (eL (fun ds=>.ok (.lst ds)) ze)) (zh (yJ (zZ (zb 3)) (.many [5,6]) bD) (zr (zb 4)))):=rfl
def enX (q:List Nat×Str):D:=.str (S q.1)
theorem KR (A:List D)(b:D):ixD (.lst (A++[b])) (.int (-1))=.ok b:=by
 refine qg ?_
 unfold atI ixN
 rw [if_neg (by decide),if_pos (by rw [tN]; show -((A.length+1:Nat):Int)<=-1; omega)]
 show (A++[b])[(-1+((A++[b]).length:Nat):Int).toNat]?=some b
 have e:(-1+((A++[b]).length:Nat):Int).toNat=A.length:=by rw [tN]; show (-1+((A.length+1:Nat):Int)).toNat=_; omega
 rw [e,pJ (tY _),Nat.sub_self]
 rfl
theorem Uc (A:List D)(b d:D):Kb (A++[b]) (-1) d=.ok (.lst (A++[d])):=by
 unfold Kb ixN
 rw [if_neg (by decide),if_pos (by rw [tN]; show -((A.length+1:Nat):Int)<=-1; omega)]
 have e:(-1+((A++[b]).length:Nat):Int).toNat=A.length:=by rw [tN]; show (-1+((A.length+1:Nat):Int)).toNat=_; omega
 rw [e]
 show R.ok (D.lst ((A++[b]).set A.length d))=_
 rw [List.set_append_right _ _ (tY _),Nat.sub_self]
 rfl
theorem VZ {A:List D}{i:Nat}{d:D}(h:A[i]?=some d):ixD (.lst A) (.int (i:Nat))=.ok d:=qg (qi (by omega) (by rw [rK]; exact h))
theorem vc {α:Type}(g:α->D):∀ Q:List α,Q.filterMap (fun q=>some (g q))=Q.map g
 | []=>rfl
 | q::Q=>by rw [sZ,vc g Q]; rfl
theorem z3D (Q:List (List Nat×Str))(hQ:Q.length<=1000)(s0 s1 s2 s3 s4 s5 s6 s8 s9:Option D):D8 [s0,s1,s2,s3,s4,s5,s6,some (.lst (Q.map enT)),s8,s9]=.ok (.nx [s0,s1,s2,s3,s4,s5,s6,some (.lst (Q.map enT)),some (.lst (Q.map enX)),s9]):=by
 have hk:x8 (ym (Tgt.one 0).asg (fun _=>.ok true) (ya (zd ixD (zb 0) (eC (.int 0)))) [none]) (Q.map enT)=.ok (Q.filterMap fun q=>some (enX q)):=yI fun q _=>by
  unfold ym enT tx enX
  simp -implicitDefEqProofs only [zU,Zb,zb,eC,zd,Tgt.asg,R.ok_bind,tD,tG,uQ,if_true]
  rfl
 rw [vc] at hk
 have hi:Ue (Q.map enX)=.ok (.lst (Q.map enX)):=xA (by rw [tP]; omega)
 unfold D8
 generalize Q.map enT=QQ at *
 generalize Q.map enX=QX at *
 simp -implicitDefEqProofs only [yC,xx,xB,zl,zb,zZ,wY,R.ok_bind,tD,tE,tG,tI,hk,hi]
theorem z35 (A:List D)(b t d:D)(h:zy b t=.ok d)(s0 s1 s2 s3 s4 s5 s7 s9:Option D):D9 [s0,s1,s2,s3,s4,s5,some t,s7,some (.lst (A++[b])),s9]=.ok (.nx [s0,s1,s2,s3,s4,s5,some t,s7,some (.lst (A++[d])),s9]):=by
 have e1:=KR A b
 have e2:=Uc A b d
 unfold D9 WY
 generalize A++[b]=X at *
 generalize A++[d]=Y at *
 simp -implicitDefEqProofs only [zb,eC,zd,eUn,R.ok_bind,tD,tE,tG,tI,z1b,Int.reduceNeg,e1,e2,h]
theorem z2N (F T7 T8:D)(i:Int)(z k:Str)(w:Int)(y:D)(L:List D)(hL:L.length<16777216)(h8:ixD T8 (.int i)=.ok (.str z))(h7:ixD T7 (.int i)=.ok (.tup [y,.str k]))(hw:zR [F,.str z]=.ok (.int w))(s1 s2 s3 s5 s6:Option D) :
  bE [some F,s1,s2,s3,some (.lst L),s5,s6,some T7,some T8,some (.int i)]=.ok (.nx [some F,s1,s2,s3,some (.lst (L++[.tup [.str z,.int w,.str k]])),s5,s6,some T7,some T8,some (.int i)]):=by
 have im:D.imms [.str z,.int w,.str k]=true:=rfl
 have hm:=uq im
 unfold bE
 generalize zR=FS at *
 simp -implicitDefEqProofs only [wa,wG,wJ,zU,zb,eC,zd,eL,ze,za,R.ok_bind,tD,tE,tG,tI,ZE,h8,h7,hw,hm,hL]
section
variable (pl bl:Int)(P:List (Nat×Int))(f:Fc P)
include f
theorem z3h (A C:List (List Nat×Str))(e:A.map (·.2)=C.map (·.2))(hn:A.length<=1000)(L:List D)(hL:L.length<=9000)(s1 s2 s3 s5 s6 s9:Option D) :
  ∃ z9,DF [some (fc pl bl P),s1,s2,s3,some (.lst L),s5,s6,some (.lst (A.map enT)),some (.lst (C.map enX)),s9]=.ok (.nx [some (fc pl bl P),s1,s2,s3,some (.lst (L++C.map (enP P pl))),s5,s6,some (.lst (A.map enT)),some (.lst (C.map enX)),z9]):=by
 have le:A.length=C.length:=by have:=congrArg List.length e; rwa [tP,tP] at this
 obtain ⟨τ',h1,z9,h2⟩:=xP (asg:=(Tgt.one 9).asg) (body:=bE) (fun k τ=>∃ y9,τ=[some (fc pl bl P),s1,s2,s3,some (.lst (L++(C.take k).map (enP P pl))),s5,s6,some (.lst (A.map enT)),some (.lst (C.map enX)),y9]) (rng 0 C.length) 0 [some (fc pl bl P),s1,s2,s3,some (.lst L),s5,s6,some (.lst (A.map enT)),some (.lst (C.map enX)),s9] ⟨s9,by rw [List.take_zero,tV,sF]⟩ (fun i d τ hd hI=>by
  obtain ⟨hi,rfl⟩:=j5 hd
  obtain ⟨y9,rfl⟩:=hI
  rw [tZ] at *
  have gc:=tU hi
  have ga:=tU (show i<A.length by omega)
  have e2:A[i].2=C[i].2:=by
   have:=congrArg (fun l=>l[i]?) e
   simp only [sM,gc,ga] at this
   exact Option.some.inj this
  refine ⟨_,_,rfl,.inl (z2N (fc pl bl P) (.lst (A.map enT)) (.lst (C.map enX)) (0+(i:Nat)) (S C[i].1) C[i].2 (uF P pl C[i].1) (.str (S A[i].1)) _ ?_ ?_ ?_ (z4m pl bl P f _) s1 s2 s3 s5 s6),some (.int (0+(i:Nat))),?_⟩
  ·rw [tN,tP,sW]; omega
  ·rw [Int.zero_add]; exact VZ (by rw [sM,gc]; rfl)
  ·rw [Int.zero_add]; exact VZ (by rw [sM,ga,<- e2]; rfl)
  ·rw [sS,List.take_succ,gc,sP]
   rfl)
 subst h2
 refine ⟨z9,xt ?_ ?_ (ds:=rng 0 C.length)⟩
 ·have hr:wC [.int ((A.map enT).length:Nat)]=.ok (rng 0 ((A.map enT).length:Int).toNat):=uo (by omega) (by rw [tP]; omega)
  rw [show ((A.map enT).length:Int).toNat=C.length by rw [tP]; omega] at hr
  generalize rng 0 C.length=RG at *
  generalize A.map enT=AA at *
  generalize wC=RF at *
  simp -implicitDefEqProofs only [zb,eL,ze,za,iL,R.ok_bind,tD,tE,Wr,hr]
 ·rw [h1]
  have e3:0+(rng 0 C.length).length=C.length:=by unfold rng; rw [tP,rS,tZ]
  rw [e3,List.take_length]
theorem z2w (F B RR PR W TL:D)(L Q X:List D)(T8 T9 TF:Tn->R Fl)(L':D)(y7 y8 y9 z8 z9:Option D)(hp:yl [B,RR,W]=.ok (.lst Q))(hl:yk [B]=.ok B)(hd:yn [RR]=.ok RR)
  (h8:T8 [some F,some B,some RR,some PR,some (.lst L),some W,some TL,some (.lst Q),y8,y9]=.ok (.nx [some F,some B,some RR,some PR,some (.lst L),some W,some TL,some (.lst Q),some (.lst X),y9]))
  (h9:T9 [some F,some B,some RR,some PR,some (.lst L),some W,some TL,some (.lst Q),some (.lst X),y9]=.ok (.nx [some F,some B,some RR,some PR,some (.lst L),some W,some TL,some (.lst Q),z8,y9]))
  (hF:TF [some F,some B,some RR,some PR,some (.lst L),some W,some TL,some (.lst Q),z8,y9]=.ok (.nx [some F,some B,some RR,some PR,some L',some W,some TL,some (.lst Q),z8,z9])) :
  (zh (zl 7 (eL yl (za (eL yk (za (zb 1) ze)) (za (eL yn (za (zb 2) ze)) (za (zb 5) ze))))) (zh T8 (zh T9 TF))) [some F,some B,some RR,some PR,some (.lst L),some W,some TL,y7,y8,y9]=.ok (.nx [some F,some B,some RR,some PR,some L',some W,some TL,some (.lst Q),z8,z9]):=by
 generalize yl=FP at *
 generalize yk=F1 at *
 generalize yn=F2 at *
 simp -implicitDefEqProofs only [zh,zl,zb,eL,ze,za,R.ok_bind,tD,tE,tG,tI,hp,hl,hd,h8,h9,hF]
variable (B RR PR:D)(hB:yk [B]=.ok B)(hR:yn [RR]=.ok RR)
include hB hR
theorem z41 (x:Wd)(ok:Wok B RR x)(L:List D)(y7 y8 y9:Option D)(hl:L.length<=9000) :
  ∃ z7 z8 z9,bD [some (fc pl bl P),some B,some RR,some PR,some (.lst L),some (.str (S x.cs)),some (.str (S x.ts)),y7,y8,y9]=.ok (.nx [some (fc pl bl P),some B,some RR,some PR,some (.lst (L++(pcs x).map (enP P pl))),some (.str (S x.cs)),some (.str (S x.ts)),z7,z8,z9]):=by
 obtain ⟨_,lr,nr⟩:=ok.mem
 have lt:=ok.lt
 have ha:=qz x.r x.ts (by omega)
 have h8:=z3D (x.q0++[(x.r,("blank":Str))]) (by rw [tN]; have:=ok.lq; show _+1<=_; omega) (some (fc pl bl P)) (some B) (some RR) (some PR) (some (.lst L)) (some (.str (S x.cs))) (some (.str (S x.ts))) y8 y9
 have h9:=z35 (x.q0.map enX) (.str (S x.r)) (.str (S x.ts)) _ ha (some (fc pl bl P)) (some B) (some RR) (some PR) (some (.lst L)) (some (.str (S x.cs))) (some (.lst ((x.q0++[(x.r,("blank":Str))]).map enT))) y9
 have e1:(x.q0++[(x.r,("blank":Str))]).map enX=x.q0.map enX++[.str (S x.r)]:=by rw [sP]; rfl
 have e2:x.q0.map enX++[.str (S (x.r++x.ts))]=(pcs x).map enX:=by unfold pcs; rw [sP]; rfl
 rw [e1] at h8
 rw [e2] at h9
 obtain ⟨z9,hF⟩:=z3h pl bl P f (x.q0++[(x.r,("blank":Str))]) (pcs x) (by unfold pcs; rw [sP,sP]; rfl) (by rw [tN]; have:=ok.lq; show _+1<=_; omega) L hl (some B) (some RR) (some PR) (some (.str (S x.cs))) (some (.str (S x.ts))) y9
 exact ⟨_,_,z9,z2w P f _ _ _ _ _ _ _ _ _ _ _ _ _ y7 y8 y9 _ z9 ok.pt hB hR h8 h9 hF⟩
theorem z0c:∀ (xs:List Wd) (L:List D) (y5 y6 y7 y8 y9:Option D),(∀ x∈xs,Wok B RR x)->L.length+41*xs.length<=9000 ->
  ∃ z5 z6 z7 z8 z9,yY (Tgt.many [5,6]).asg bD (xs.map enW) [some (fc pl bl P),some B,some RR,some PR,some (.lst L),y5,y6,y7,y8,y9]=.ok (.nx [some (fc pl bl P),some B,some RR,some PR,some (.lst (L++(xs.flatMap pcs).map (enP P pl))),z5,z6,z7,z8,z9])
 | [],L,y5,y6,y7,y8,y9,_,_=>⟨y5,y6,y7,y8,y9,by rw [tV,List.flatMap_nil,tV,sF]; rfl⟩
 | x::xs,L,y5,y6,y7,y8,y9,hq,hl=>by
  rw [tH] at hl
  have ok:=hq x tQ
  obtain ⟨u7,u8,u9,hb⟩:=z41 pl bl P f B RR PR hB hR x ok L y7 y8 y9 (by omega)
  obtain ⟨z5,z6,z7,z8,z9,h⟩:=z0c xs (L++(pcs x).map (enP P pl)) (some (.str (S x.cs))) (some (.str (S x.ts))) u7 u8 u9 (fun p hp=>hq p (tR _ hp)) (by rw [tN,tP]; have:=ZP ok; omega)
  refine ⟨z5,z6,z7,z8,z9,?_⟩
  have ha:(Tgt.many [5,6]).asg (enW x) [some (fc pl bl P),some B,some RR,some PR,some (.lst L),y5,y6,y7,y8,y9]=.ok [some (fc pl bl P),some B,some RR,some PR,some (.lst L),some (.str (S x.cs)),some (.str (S x.ts)),y7,y8,y9]:=rfl
  rw [tF,xh,ha,R.ok_bind,hb,R.ok_bind,xY,h,pS,sP,sS]
theorem due (xs:List Wd)(hx:∀ x∈xs,Wok B RR x)(hl:xs.length<=100):xb [fc pl bl P,B,RR,.lst (xs.map enW)]=.ok (.lst ((xs.flatMap pcs).map (enP P pl))):=by
 obtain ⟨z5,z6,z7,z8,z9,h⟩:=z0c pl bl P f B RR (.lst (xs.map enW)) hB hR xs [] none none none none none hx (by rw [tM]; omega)
 rw [tL] at h
 rw [tDU]
 exact jY P f _ _ _ _ _ _ z5 z6 z7 z8 z9 (xt rfl h)
end
end K09
namespace K09
open PySem PyProof.Rows L2
theorem whole (n:Int):yc [.int n]=.ok (.bl true):=by
 have e1:xD "int" (.int n)=.ok (.bl true):=rfl
 have e2:xD "bool" (.int n)=.ok (.bl false):=rfl
 show zw 1 vt [.int n]=_
 unfold vt
 simp -implicitDefEqProofs only [zw,zr,zb,eUn,wK,z1p,asB,R.ok_bind,tF,tV,tH,tM,tK,tO,tL,tD,Nat.reduceSub,tZ,if_true,e1,e2,pD]
def bT2:Tn->R Fl:=(zh (sIf (bOr (xk (zm (eUn (xD "tuple") (zb 2)))) (bOr (zm (zd (eqR true) (eL yy (za (zb 2) ze)) (eC (.int 3)))) (xk (zm (eUn (xD "str") (zd ixD (zb 2) (eC (.int 0)))))))) (zr (eC (.bl false))) zx) (sIf (bOr (xk (zm (eL yc (za (zd ixD (zb 2) (eC (.int 1))) ze)))) (xk (zm (eUn (xD "str") (zd ixD (zb 2) (eC (.int 2))))))) (zr (eC (.bl false))) zx))
theorem tTD:yS=zw 3 (zh (sIf (bOr (xk (zm (eUn (xD "list") (zb 0)))) (zm (zd (eqR true) (eL yy (za (zb 0) ze)) (eL yy (za (zb 1) ze))))) (zr (eC (.bl false))) zx) (zh (yJ (zZ (zb 0)) (.one 2) bT2) (zr (zd (eqR false) (zb 0) (zb 1))))):=rfl
theorem z1e (s0 s1:Option D)(x k:Str)(w:Int):bT2 [s0,s1,some (.tup [.str x,.int w,.str k])]=.ok (.nx [s0,s1,some (.tup [.str x,.int w,.str k])]):=by
 have e1:xD "tuple" (.tup [.str x,.int w,.str k])=.ok (.bl true):=rfl
 have e2:yy [.tup [.str x,.int w,.str k]]=.ok (.int 3):=rfl
 have e3:xD "str" (.str x)=.ok (.bl true):=rfl
 have e4:xD "str" (.str k)=.ok (.bl true):=rfl
 have e5:eqR true (.int 3) (.int 3)=.ok (.bl false):=rfl
 have e6:=whole w
 unfold bT2
 generalize yc=FW at *
 simp -implicitDefEqProofs only [zx,zh,zr,sIf,zb,eC,zd,eUn,eL,ze,za,zm,bOr,xk,asB,R.ok_bind,tD,tE,uQ,ZE,Xg,if_false,tW,e1,e2,e3,e4,e5,e6,rH]
theorem z3W (P:List (Nat×Int))(pl:Int)(n:Nat)(q:List Nat×Str):eqF (n+1) (enP P pl q) (enP P pl q)=some true:=by
 have e1:eqF n (.str (S q.1)) (.str (S q.1))=some (S q.1==S q.1):=by cases n<;>rfl
 have e2:eqF n (.int (uF P pl q.1)) (.int (uF P pl q.1))=some (uF P pl q.1==uF P pl q.1):=by cases n<;>rfl
 have e3:eqF n (.str q.2) (.str q.2)=some (q.2==q.2):=by cases n<;>rfl
 rw [beq_self_eq_true] at e1 e2 e3
 exact WB n fun d hd=>by
  rcases sJ.mp hd with z | hd
  ·rw [z]; exact e1
  ·rcases sJ.mp hd with z | hd
   ·rw [z]; exact e2
   ·rw [sN.mp hd]; exact e3
theorem jS {α:Type}{g:α->D}{e:D->D->Option Bool}(h:∀ a,e (g a) (g a)=some true):∀ l:List α,y0 e (l.map g) (l.map g)=some true
 | []=>rfl
 | a::l=>by
  rw [tF]
  unfold y0
  rw [jS h l,h]
  rfl
theorem J7 (T:Tn->R Fl)(X:List D)(y2:Option D)(h:T [some (.lst X),some (.lst X),none]=.ok (.nx [some (.lst X),some (.lst X),y2]))(he:eqR false (.lst X) (.lst X)=.ok (.bl true)) :
  zw 3 (zh (sIf (bOr (xk (zm (eUn (xD "list") (zb 0)))) (zm (zd (eqR true) (eL yy (za (zb 0) ze)) (eL yy (za (zb 1) ze))))) (zr (eC (.bl false))) zx) (zh T (zr (zd (eqR false) (zb 0) (zb 1))))) [.lst X,.lst X]=.ok (.bl true):=by
 have e1:xD "list" (.lst X)=.ok (.bl true):=rfl
 have e2:yy [.lst X]=.ok (.int (X.length:Nat)):=rfl
 have e3:eqR true (.int (X.length:Nat)) (.int (X.length:Nat))=.ok (.bl false):=by rw [vh,if_pos rfl,beq_self_eq_true]; rfl
 generalize ((X.length:Nat):Int)=n at *
 simp -implicitDefEqProofs only [zx,zw,zh,zr,sIf,zb,eC,zd,eUn,eL,ze,za,zm,bOr,xk,asB,R.ok_bind,tF,tV,tH,tM,tS,tK,tO,tL,tD,tE,Nat.reduceAdd,Nat.reduceSub,tZ,if_false,tW,e1,e2,e3,h,he,rH]
theorem z1O (P:List (Nat×Int))(pl:Int)(Q:List (List Nat×Str)):yS [.lst (Q.map (enP P pl)),.lst (Q.map (enP P pl))]=.ok (.bl true):=by
 obtain ⟨τ',h1,y2,h2⟩:=xP (asg:=(Tgt.one 2).asg) (body:=bT2) (fun k τ=>∃ y2,τ=[some (.lst (Q.map (enP P pl))),some (.lst (Q.map (enP P pl))),y2]) (Q.map (enP P pl)) 0 [some (.lst (Q.map (enP P pl))),some (.lst (Q.map (enP P pl))),none] ⟨none,rfl⟩ (fun i d τ hd hI=>by
  obtain ⟨y2,rfl⟩:=hI
  rw [sM] at hd
  obtain ⟨q,_,rfl⟩:=rW.mp hd
  exact ⟨_,_,rfl,.inl (z1e _ _ (S q.1) q.2 (uF P pl q.1)),_,rfl⟩)
 subst h2
 rw [tTD]
 refine J7 _ _ y2 (xt rfl h1) (WQ (fun _ _ h=>by cases h) ?_)
 show (if (Q.map (enP P pl)).length=(Q.map (enP P pl)).length then y0 (eqF 11) (Q.map (enP P pl)) (Q.map (enP P pl)) else some false)=_
 rw [if_pos rfl]
 exact jS (z3W P pl 10) Q
theorem W5:∀ l:List (List Nat),Str.join "" (l.map S)=S l.flatten
 | []=>rfl
 | c::cs=>by
  rw [tF,uT,W5 cs,Yx,rL]
theorem z0a:∀ l:List (List Nat),((l.map S).map (·.length)).sum=l.flatten.length
 | []=>rfl
 | c::cs=>by rw [tF,tF,pW,z0a cs,rL,tN,xw]
theorem Qk {α:Type}(g:α->List Nat)(l:List α)(h:(l.map g).flatten.length<=100000):xW "" [.lst (l.map fun a=>D.str (S (g a)))]=.ok (.str (S (l.map g).flatten)):=by
 have e:(l.map fun a=>D.str (S (g a)))=((l.map g).map S).map D.str:=by rw [rJ,rJ]; rfl
 have e0:Str.length ""=0:=by decide
 rw [e,jK (by rw [z0a,e0]; omega),W5]
theorem XU {B RR:D}:∀ xs:List Wd,(∀ x∈xs,Wok B RR x)->((xs.flatMap pcs).map (·.1)).flatten=(xs.map fun x=>x.cs++x.ts).flatten
 | [],_=>rfl
 | x::xs,h=>by
  have e:((pcs x).map (·.1)).flatten=x.cs++x.ts:=by
   unfold pcs
   rw [sP,List.flatten_append]
   show _++(x.r++x.ts++[])=_
   rw [sF,<- sS,(h x tQ).fl]
  rw [pS,sP,List.flatten_append,e,XU xs fun y hy=>h y (tR _ hy),tF,rL]
theorem Y6 {B RR:D}:∀ xs:List Wd,(∀ x∈xs,Wok B RR x)->(xs.map fun x=>x.cs++x.ts).flatten.length<=60*xs.length
 | [],_=>tY _
 | x::xs,h=>by
  have:=Y6 xs fun y hy=>h y (tR _ hy)
  have a:=(h x tQ).lc
  have b:=(h x tQ).lt
  rw [tF,rL,tN,tN,tH]
  omega
end K09
namespace K09
open PySem PyProof.Rows L2
theorem z2l {α:Type}{xs:List α}{b:Nat}(hb:b<=xs.length):jN xs none (some (b:Int))=xs.take b:=by
 unfold jN
 rw [HT.sIx_nat,HT.sIx_none,Nat.min_eq_left hb]
 rfl
theorem Qe {α:Type}{xs:List α}{a:Nat}(ha:a<=xs.length):jN xs (some (a:Int)) none=xs.drop a:=by
 unfold jN
 rw [HT.sIx_nat,HT.sIx_none,Nat.min_eq_left ha]
 exact rN (by rw [rF]; omega)
theorem z4L {F:List D->R D}{u:Tn->R (List D)}{g:Str->Option D}{τ:Tn}{ds:List D}{m:Str}{d:D}(h1:u τ=.ok ds)(h2:F ds=.err m)(h3:g m=some d):jL F u g τ=.ok (.rt d):=by
 unfold jL
 simp only [h1,h2,h3]
def odd (Z:Str):List D:=[.str "",.str Z,.str "a b",.non,.int 5,.frl [.str "a"],.str "a\n",.str "a_b",.tup [.str "a"],.bl true]
theorem U7 (z:Str)(cs:List Nat)(e:z=S cs)(h0:1<=cs.length)(h1:cs.length<=40)(h:(cs.all fun c=>decide (c∈Z2.cps.toList))=false):zJ [.str z]=.ok (.bl false):=by
 rw [e,qJ cs h0 h1]
 exact congrArg (fun b=>R.ok (D.bl b)) h
theorem z1G (Z:Str)(hZ:zJ [.str Z]=.ok (.bl false)):∀ d∈odd Z,zJ [d]=.ok (.bl false)/\d.imm=true:=by
 intro d hd
 unfold odd at hd
 simp only [sJ,pF,or_false] at hd
 rcases hd with rfl | rfl | rfl | rfl | rfl | rfl | rfl | rfl | rfl | rfl
 ·exact ⟨qF [] (.inl rfl) (by decide),rfl⟩
 ·exact ⟨hZ,rfl⟩
 ·exact ⟨U7 _ [97,32,98] (by decide +kernel) (by decide) (by decide) (by decide +kernel),rfl⟩
 ·exact ⟨wo _ rfl,rfl⟩
 ·exact ⟨wo _ rfl,rfl⟩
 ·exact ⟨wo _ rfl,rfl⟩
 ·exact ⟨U7 _ [97,10] (by decide +kernel) (by decide) (by decide) (by decide +kernel),rfl⟩
 ·exact ⟨U7 _ [97,95,98] (by decide +kernel) (by decide) (by decide) (by decide +kernel),rfl⟩
 ·exact ⟨wo _ rfl,rfl⟩
 ·exact ⟨wo _ rfl,rfl⟩
theorem uX (xs:List Wd):D.imms (xs.map enW)=true:=uH (fun _=>rfl) xs
def uR:Tn->R (List D):=(za (zb 0) (za (eL yk (za (zb 1) ze)) (za (eL yn (za (zb 2) ze)) (za (zd zy (zd zy (eSl (zb 3) yT (yb (zb 6))) (eL (fun ds=>.ok (.lst ds)) (za (eL (fun ds=>.ok (.tup ds)) (za (zb 5) (za (eC (.str "")) ze))) ze))) (eSl (zb 3) (yb (zb 6)) yT)) ze))))
def O5:Tn->R Fl:=(zl 5 (zd ixD (eL (fun ds=>.ok (.lst ds)) (za (eC (.str "")) (za (zd jb (eC (.str "a")) (eC (.int 41))) (za (eC (.str "a b")) (za (eC .non) (za (eC (.int 5)) (za (eL Qo (za (eC (.str "a")) ze)) (za (eC (.str "a\n")) (za (eC (.str "a_b")) (za (eL (fun ds=>.ok (.tup ds)) (za (eC (.str "a")) ze)) (za (eC (.bl true)) ze))))))))))) (zd zA (zb 4) (eC (.int 10)))))
def O6:Tn->R Fl:=(zl 6 (zd zA (zd zC (zb 4) (eC (.int 10))) (zd zy (eL yy (za (zb 3) ze)) (eC (.int 1)))))
theorem tRF:yi=zw 8 (zh O5 (zh O6 (zh (jL zX uR xE) (zr (eC (.bl false)))))):=rfl
theorem z3Y (n:Int)(s0 s1 s2 s3 s6 s7 y5:Option D):∃ d,O5 [s0,s1,s2,s3,some (.int n),y5,s6,s7]=.ok (.nx [s0,s1,s2,s3,some (.int n),some d,s6,s7])/\zJ [d]=.ok (.bl false)/\d.imm=true:=by
 have mb:=z1B 41 (by decide) (by decide)
 have lb:=z4q 41 (by decide)
 have hZ:=Kd (yK "a" 41) (by rw [lb]; decide) (by rw [lb]; decide)
 have m10:zA (.int n) (.int 10)=.ok (.int (n%10)):=zK (by decide)
 have hi:(n%10).toNat<(odd (yK "a" 41)).length:=by show _<10; omega
 have hx:ixD (.lst (odd (yK "a" 41))) (.int (n%10))=.ok (odd (yK "a" 41))[(n%10).toNat]:=qg (qi (by omega) (tU hi))
 obtain ⟨h1,h2⟩:=z1G (yK "a" 41) hZ _ (rM hi)
 refine ⟨_,?_,h1,h2⟩
 have fz:Qo [.str "a"]=.ok (.frl [.str "a"]):=rfl
 clear h1 h2 hZ lb
 generalize (odd (yK "a" 41))[(n%10).toNat]=d at *
 unfold odd at hx
 generalize yK "a" 41=Z at *
 generalize n%10=k at *
 unfold O5
 simp -implicitDefEqProofs only [zl,zb,eC,zd,eL,ze,za,R.ok_bind,tD,tE,tG,tI,mb,m10,fz,hx]
theorem z2Q (n:Int)(X:List D)(s0 s1 s2 s5 s7 y6:Option D):∃ a:Nat,a<=X.length/\O6 [s0,s1,s2,some (.lst X),some (.int n),s5,y6,s7]=.ok (.nx [s0,s1,s2,some (.lst X),some (.int n),s5,some (.int (a:Nat)),s7]):=by
 have d10:zC (.int n) (.int 10)=.ok (.int (n/10)):=zV (by decide) (by decide)
 have e2:yy [.lst X]=.ok (.int (X.length:Nat)):=rfl
 have ml:zA (.int (n/10)) (.int ((X.length:Nat)+1))=.ok (.int (n/10%((X.length:Nat)+1))):=zK (by omega)
 have q0:0<=n/10%(((X.length:Nat):Int)+1):=sU _ (by omega)
 have q1:n/10%(((X.length:Nat):Int)+1)<((X.length:Nat):Int)+1:=sR _ (by omega)
 refine ⟨(n/10%(((X.length:Nat):Int)+1)).toNat,by omega,?_⟩
 rw [rE q0]
 clear q0 q1
 generalize n/10%(((X.length:Nat):Int)+1)=q at *
 generalize ((X.length:Nat):Int)=l at *
 generalize n/10=u at *
 unfold O6
 simp -implicitDefEqProofs only [zl,zb,eC,zd,eL,ze,za,R.ok_bind,tD,tE,tG,tI,yw,d10,e2,ml]
theorem z2V (F B RR d:D)(xs:List Wd)(hB:yk [B]=.ok B)(hR:yn [RR]=.ok RR)(a:Nat)(ha:a<=xs.length)(hl:xs.length<=100)(hd:d.imm=true)(s4 s7:Option D) :
  uR [some F,some B,some RR,some (.lst (xs.map enW)),s4,some d,some (.int (a:Nat)),s7]=.ok [F,B,RR,.lst ((xs.take a).map enW++.tup [d,.str ""]::(xs.drop a).map enW)]:=by
 have h1:slD (.lst (xs.map enW)) none (some (a:Int))=.ok (.lst ((xs.take a).map enW)):=by
  rw [QI (uX xs),z2l (by rw [tP]; exact ha),List.map_take]
 have h2:slD (.lst (xs.map enW)) (some (a:Int)) none=.ok (.lst ((xs.drop a).map enW)):=by
  rw [QI (uX xs),Qe (by rw [tP]; exact ha),List.map_drop]
 have im:D.imms [.tup [d,.str ""]]=true:=by
  show ((d.imm&&(true&&true))&&true)=true
  rw [hd]; rfl
 have h3:zy (.lst ((xs.take a).map enW)) (.lst [.tup [d,.str ""]])=.ok (.lst ((xs.take a).map enW++[.tup [d,.str ""]])):=if_pos ⟨uX _,im,by rw [tP,sW,sizeLine_eq]; show _+1<=_; omega⟩
 have h4:zy (.lst ((xs.take a).map enW++[.tup [d,.str ""]])) (.lst ((xs.drop a).map enW))=.ok (.lst (((xs.take a).map enW++[.tup [d,.str ""]])++(xs.drop a).map enW)):=if_pos ⟨by rw [qK,uX,im]; rfl,uX _,by rw [tN,tP,tP,sW,rF,sizeLine_eq]; show _+1+_<=_; omega⟩
 have e:((xs.take a).map enW++[.tup [d,.str ""]])++(xs.drop a).map enW=(xs.take a).map enW++.tup [d,.str ""]::(xs.drop a).map enW:=by rw [sS]; rfl
 rw [e] at h4
 generalize (xs.take a).map enW++.tup [d,.str ""]::(xs.drop a).map enW=R4 at *
 generalize (xs.take a).map enW++[.tup [d,.str ""]]=R3 at *
 generalize (xs.take a).map enW=R1 at *
 generalize (xs.drop a).map enW=R2 at *
 generalize xs.map enW=XX at *
 generalize ((a:Nat):Int)=A at *
 unfold uR
 generalize yk=G1 at *
 generalize yn=G2 at *
 simp -implicitDefEqProofs only [zb,eC,zd,eL,ze,za,eSl,yT,yb,R.ok_bind,tD,tE,hB,hR,h1,h2,h3,h4]
theorem K6 (T5 T6 TT:Tn->R Fl)(τ1 τ2:Tn)(a b c d e:D)(h5:T5 [some a,some b,some c,some d,some e,none,none,none]=.ok (.nx τ1))(h6:T6 τ1=.ok (.nx τ2))(h7:TT τ2=.ok (.rt (.bl true))):zw 8 (zh T5 (zh T6 (zh TT (zr (eC (.bl false)))))) [a,b,c,d,e]=.ok (.bl true):=by
 simp -implicitDefEqProofs only [zw,zh,zr,eC,R.ok_bind,tF,tV,tH,tM,tS,tK,tO,tL,Nat.reduceAdd,Nat.reduceSub,tZ,h5,h6,h7]
theorem Jy (pl bl:Int)(P:List (Nat×Int))(f:Fc P)(B RR:D)(hB:yk [B]=.ok B)(hR:yn [RR]=.ok RR)(xs:List Wd)(hx:∀ x∈xs,Wok B RR x)(hl:xs.length<=100)(n:Int):yi [fc pl bl P,B,RR,.lst (xs.map enW),.int n]=.ok (.bl true):=by
 obtain ⟨d,h5,hd,hm⟩:=z3Y n (some (fc pl bl P)) (some B) (some RR) (some (.lst (xs.map enW))) none none none
 obtain ⟨a,ha,h6⟩:=z2Q n (xs.map enW) (some (fc pl bl P)) (some B) (some RR) (some d) none none
 rw [tP] at ha
 have hu:=z2V (fc pl bl P) B RR d xs hB hR a ha hl hm (some (.int n)) none
 have hp:=Xv pl bl P f B RR (xs.take a) (fun x h=>hx x (pM h)) (by rw [sW]; omega) d hd ((xs.drop a).map enW)
 rw [tRF]
 exact K6 _ _ _ _ _ _ _ _ _ _ h5 h6 (z4L hu hp (if_pos rfl))
end K09
namespace K09
open PySem PyProof.Rows L2
def Q0:Tn->R Fl:=(zl 1 (zd (eqR false) (zd zA (eL zk (za (zb 0) (za (eC (.int 4)) ze))) (eC (.int 2))) (eC (.int 1))))
def Q1:Tn->R Fl:=(zl 2 (eL yR (za (zb 0) (za (eC (.int 2)) ze))))
def Q2:Tn->R Fl:=(zl 3 (eL yB (za (zb 0) ze)))
def Q3:Tn->R Fl:=(zl 4 (eL yP (za (zb 0) (za (zb 1) ze))))
def Q4:Tn->R Fl:=(zl 5 (eL (fun ds=>.ok (.lst ds)) ze))
def bW:Tn->R Fl:=(zh (zl 7 (eL zk (za (zb 0) (za (zd zy (eC (.int 30)) (zb 6)) ze)))) (wN 5 (eL (fun ds=>.ok (.tup ds)) (za (eL yQ (za (zb 7) (za (zb 1) ze))) (za (eL yN (za (eL zk (za (zb 0) (za (zd zy (eC (.int 40)) (zb 6)) ze))) ze)) ze)))))
def Q5:Tn->R Fl:=(yJ (iL wC (za (zd zy (eC (.int 1)) (zd zA (eL zk (za (zb 0) (za (eC (.int 5)) ze))) (eC (.int 6)))) ze)) (.one 6) bW)
def Q6:Tn->R Fl:=(zl 8 (eL (fun ds=>.ok (.lst ds)) (za (eL yk (za (zb 4) ze)) (za (eL yn (za (zb 3) ze)) (za (eL yk (za (zb 5) ze)) ze)))))
def Q7:Tn->R Fl:=(zl 9 (eL wq (za (zb 2) (za (zd ixD (zb 8) (eC (.int 1))) ze))))
def Q8:Tn->R Fl:=(zl 10 (eL (fun ds=>.ok (.dic [.inr "blank",.inr "dash"] ds)) (za (ya (zd ixD (zb 2) (eC (.int 1)))) (za (eL zR (za (zb 2) (za (eC (.str "-")) ze))) ze))))
def Q9:Tn->R Fl:=(yJ (zZ (eL (fun ds=>.ok (.tup ds)) (za (eC (.str "width")) (za (eC (.str "part")) (za (eC (.str "twin")) (za (eC (.str "over")) ze)))))) (.one 11) (vy 10 (ya (zd ixD (zb 3) (zb 11))) (zb 11)))
def Q10:Tn->R Fl:=(Qz (xk (zm (eUn (xD "dict") (zb 9)))) (zm (zd (eqR true) (zb 9) (zb 10))) yc 9)
def Q11:Tn->R Fl:=(zl 12 (eL zX (za (zb 2) (za (zd ixD (zb 8) (eC (.int 0))) (za (zd ixD (zb 8) (eC (.int 1))) (za (zd ixD (zb 8) (eC (.int 2))) ze))))))
def Q12:Tn->R Fl:=(sIf (xk (zm (eL yS (za (zb 12) (za (eL xb (za (zb 2) (za (zb 4) (za (zb 3) (za (zb 5) ze))))) ze))))) (zr (eC (.bl false))) zx)
def Q13:Tn->R Fl:=(sIf (zm (zd (eqR true) (eSm xW (eC (.str "")) (za (yE [none] (zZ (zb 12)) (.one 0) (fun _=>.ok true) (ya (zd ixD (zb 0) (eC (.int 0))))) ze)) (eSm xW (eC (.str "")) (za (yE [none,none] (zZ (zb 5)) (.many [0,1]) (fun _=>.ok true) (zd zy (zb 0) (zb 1))) ze)))) (zr (eC (.bl false))) zx)
def Q14:Tn->R Fl:=(sIf (xk (zm (eL yi (za (zb 2) (za (zb 4) (za (zb 3) (za (zb 5) (za (eL zk (za (zb 0) (za (eC (.int 50)) ze))) ze)))))))) (zr (eC (.bl false))) zx)
def Q15:Tn->R Fl:=(zr (zd Z8 (zb 8) (eL (fun ds=>.ok (.lst ds)) (za (zb 4) (za (zb 3) (za (zb 5) ze))))))
theorem tLW:F_law=zw 13 (zh Q0 (zh Q1 (zh Q2 (zh Q3 (zh Q4 (zh Q5 (zh Q6 (zh Q7 (zh Q8 (zh Q9 (zh Q10 (zh Q11 (zh Q12 (zh Q13 (zh Q14 Q15))))))))))))))):=rfl
theorem z4r (S0 f:D)(i n m:Int)(W T:Str)(L:List D)(s2 s3 s4 y7 s8 s9 s10 s11 s12:Option D)(hL:L.length<16777216)(hn:zk [S0,.int (30+i)]=.ok (.int n))(hm:zk [S0,.int (40+i)]=.ok (.int m))(hw:yQ [.int n,f]=.ok (.str W))(ht:yN [.int m]=.ok (.str T)) :
  bW [some S0,some f,s2,s3,s4,some (.lst L),some (.int i),y7,s8,s9,s10,s11,s12]=.ok (.nx [some S0,some f,s2,s3,s4,some (.lst (L++[.tup [.str W,.str T]])),some (.int i),some (.int n),s8,s9,s10,s11,s12]):=by
 unfold bW
 generalize zk=FN at *
 generalize yQ=FW at *
 generalize yN=FT at *
 simp -implicitDefEqProofs only [wa,wG,wJ,zh,zl,zb,eC,zd,eL,ze,za,R.ok_bind,tD,tE,tG,tI,yw,hn,hm,hw,ht,hL]
theorem z36 (ns:List Int)(hn:ns.length<=63)(b:Bool)(l:List Jn)(hJ:∀ j∈l,Jk j)(hl:l.length<=20)(RR:D)(a a':Int)(ha:ixD RR (.str "ahead")=.ok (.int a))(hb:ixD RR (.str "behind")=.ok (.int a'))(s2:Option D) :
  ∃ (xs:List Wd) (y6 y7:Option D),(∀ x∈xs,Wok (.lst (l.map zz)) RR x)/\xs.length<=100/\Q5 [some (.frl (ns.map .int)),some (.bl b),s2,some RR,some (.lst (l.map zz)),some (.lst []),none,none,none,none,none,none,none]=.ok (.nx [some (.frl (ns.map .int)),some (.bl b),s2,some RR,some (.lst (l.map zz)),some (.lst (xs.map enW)),y6,y7,none,none,none,none,none]):=by
 obtain ⟨v,hv,_⟩:=vp ns hn 5 (by decide) (by decide)
 have m6:zA (.int v) (.int 6)=.ok (.int (v%6)):=zK (by decide)
 have b0:=sU v (show (6:Int)≠0 by decide)
 have b1:=sR v (show (0:Int)<6 by decide)
 have hr:wC [.int (1+v%6)]=.ok (rng 0 (1+v%6).toNat):=uo (by omega) (by omega)
 obtain ⟨τ',h1,xs,y6,y7,h2,h3,h4⟩:=xP (asg:=(Tgt.one 6).asg) (body:=bW) (fun k τ=>∃ (xs:List Wd) (y6 y7:Option D),τ=[some (.frl (ns.map .int)),some (.bl b),s2,some RR,some (.lst (l.map zz)),some (.lst (xs.map enW)),y6,y7,none,none,none,none,none]/\(∀ x∈xs,Wok (.lst (l.map zz)) RR x)/\xs.length=k) (rng 0 (1+v%6).toNat) 0 [some (.frl (ns.map .int)),some (.bl b),s2,some RR,some (.lst (l.map zz)),some (.lst []),none,none,none,none,none,none,none] ⟨[],none,none,rfl,fun _ h=>(nomatch h),rfl⟩ (fun i d τ hd hI=>by
  obtain ⟨hi,rfl⟩:=j5 hd
  obtain ⟨xs,y6,y7,rfl,hx,hk⟩:=hI
  obtain ⟨n,e1,_⟩:=vp ns hn (30+(0+(i:Nat))) (by omega) (by omega)
  obtain ⟨m,e2,_⟩:=vp ns hn (40+(0+(i:Nat))) (by omega) (by omega)
  obtain ⟨cs,e3,o1,o2,o3⟩:=z4B n b
  obtain ⟨ts,e4,o4,o5⟩:=tail m
  obtain ⟨x,x1,x2,x3⟩:=z43 RR a a' ha hb l hJ (by omega) cs ts o1 o2 o3 o4 o5
  refine ⟨_,_,rfl,.inl (z4r (.frl (ns.map .int)) (.bl b) (0+(i:Nat)) n m (S cs) (S ts) (xs.map enW) s2 (some RR) (some (.lst (l.map zz))) y7 none none none none none (by rw [tP]; omega) e1 e2 e3 e4),xs++[x],some (.int (0+(i:Nat))),some (.int n),?_,fun y hy=>?_,by rw [tN,hk]; rfl⟩
  ·rw [sP]
   show _=[some (D.frl (ns.map .int)),some (.bl b),s2,some RR,some (.lst (l.map zz)),some (.lst (xs.map enW++[.tup [.str (S x.cs),.str (S x.ts)]])),_,_,none,none,none,none,none]
   rw [x1,x2]
  ·rcases sE.mp hy with z | z
   ·exact hx y z
   ·rw [sN.mp z]; exact x3)
 subst h2
 refine ⟨xs,y6,y7,h3,by rw [h4]; unfold rng; rw [tP,rS]; omega,xt (ds:=rng 0 (1+v%6).toNat) ?_ h1⟩
 clear h1 h3 h4
 generalize rng 0 (1+v%6).toNat=RG at *
 generalize l.map zz=BK at *
 generalize xs.map enW=XX at *
 generalize zk=FN at *
 generalize wC=RF at *
 simp -implicitDefEqProofs only [zb,eC,zd,eL,ze,za,iL,R.ok_bind,tD,yw,hv,m6,hr]
def qW (a b c d e g:Int):D:=.dic [.inr "width",.inr "part",.inr "twin",.inr "over",.inr "blank",.inr "dash"] [.int a,.int b,.int c,.int d,.int e,.int g]
def X9 (a b c d e g:Int):D:=.dic [.inr "blank",.inr "dash",.inr "width",.inr "part",.inr "twin",.inr "over"] [.int e,.int g,.int a,.int b,.int c,.int d]
theorem QZ:("-":Str)=S [45]:=by decide +kernel
theorem z1n (pl bl:Int)(P:List (Nat×Int))(f:Fc P)(a0 a1 a2 a3 a4 a5 a6 a7 a8 a9:Int):wq [fc pl bl P,dR a0 a1 a2 a3 a4 a5 a6 a7 a8 a9]=.ok (qW a0 a2 a3 a4 bl (uF P pl [45])):=by
 have k0:ixD (dR a0 a1 a2 a3 a4 a5 a6 a7 a8 a9) (.str "width")=.ok (.int a0):=rfl
 have k2:ixD (dR a0 a1 a2 a3 a4 a5 a6 a7 a8 a9) (.str "part")=.ok (.int a2):=rfl
 have k3:ixD (dR a0 a1 a2 a3 a4 a5 a6 a7 a8 a9) (.str "twin")=.ok (.int a3):=rfl
 have k4:ixD (dR a0 a1 a2 a3 a4 a5 a6 a7 a8 a9) (.str "over")=.ok (.int a4):=rfl
 have k5:ixD (fc pl bl P) (.int 1)=.ok (.int bl):=rfl
 have hw:xM [fc pl bl P,.str "-"]=.ok (.int (uF P pl [45])):=by
  rw [QZ]
  exact z2x pl bl P f [45] (by decide) (fun c hc=>by rw [sN.mp hc]; unfold nb; decide)
 show zw 2 jr _=_
 unfold jr qW
 generalize xM=FW at *
 generalize dR a0 a1 a2 a3 a4 a5 a6 a7 a8 a9=RR at *
 generalize fc pl bl P=F at *
 generalize uF P pl [45]=w at *
 simp -implicitDefEqProofs only [zU,uG,zw,zr,zb,eC,zd,eL,ze,za,R.ok_bind,tF,tV,tH,tM,tK,tO,tL,tD,tE,Nat.reduceAdd,Nat.reduceSub,tZ,k0,k2,k3,k4,k5,hw]
theorem uB (RR:D)(x:Str)(v:Int)(ks:List Key)(ds:List D)(hk:ixD RR (.str x)=.ok (.int v))(hx:Key.inr x∉ks)(hl:ks.length<1000)(s0 s1 s2 s4 s5 s6 s7 s8 s9 s12:Option D):(vy 10 (ya (zd ixD (zb 3) (zb 11))) (zb 11)) [s0,s1,s2,some RR,s4,s5,s6,s7,s8,s9,some (.dic ks ds),some (.str x),s12]=.ok (.nx [s0,s1,s2,some RR,s4,s5,s6,s7,s8,s9,some (.dic (ks++[.inr x]) (ds++[.int v])),some (.str x),s12]):=by
 have hp:=Wm (ds:=ds) (d:=.int v) hx
 have ha:ks.length<16777216:=by omega
 have im:(D.int v).imm=true:=rfl
 rw [uy]
 simp -implicitDefEqProofs only [zU,uG,zb,zd,R.ok_bind,tD,tE,hk]
 rw [qZ im ha,hp]
 rfl
theorem z4n (a0 a1 a2 a3 a4 a5 a6 a7 a8 a9 e g:Int)(s0 s1 s2 s4 s5 s6 s7 s8 s9 s11 s12:Option D):Q9 [s0,s1,s2,some (dR a0 a1 a2 a3 a4 a5 a6 a7 a8 a9),s4,s5,s6,s7,s8,s9,some (.dic [.inr "blank",.inr "dash"] [.int e,.int g]),s11,s12]=.ok (.nx [s0,s1,s2,some (dR a0 a1 a2 a3 a4 a5 a6 a7 a8 a9),s4,s5,s6,s7,s8,s9,some (X9 a0 a2 a3 a4 e g),some (.str "over"),s12]):=by
 have k0:ixD (dR a0 a1 a2 a3 a4 a5 a6 a7 a8 a9) (.str "width")=.ok (.int a0):=rfl
 have k2:ixD (dR a0 a1 a2 a3 a4 a5 a6 a7 a8 a9) (.str "part")=.ok (.int a2):=rfl
 have k3:ixD (dR a0 a1 a2 a3 a4 a5 a6 a7 a8 a9) (.str "twin")=.ok (.int a3):=rfl
 have k4:ixD (dR a0 a1 a2 a3 a4 a5 a6 a7 a8 a9) (.str "over")=.ok (.int a4):=rfl
 generalize dR a0 a1 a2 a3 a4 a5 a6 a7 a8 a9=RR at *
 have ha:∀ (x:D) (y:Option D) (d:D),(Tgt.one 11).asg x [s0,s1,s2,some RR,s4,s5,s6,s7,s8,s9,some d,y,s12]=.ok [s0,s1,s2,some RR,s4,s5,s6,s7,s8,s9,some d,some x,s12]:=fun _ _ _=>rfl
 refine xt (ds:=[.str "width",.str "part",.str "twin",.str "over"]) rfl ?_
 rw [xh,ha,R.ok_bind,uB RR _ _ _ _ k0 (by decide +kernel) (by decide),R.ok_bind,xY]
 rw [xh,ha,R.ok_bind,uB RR _ _ _ _ k2 (by decide +kernel) (by decide),R.ok_bind,xY]
 rw [xh,ha,R.ok_bind,uB RR _ _ _ _ k3 (by decide +kernel) (by decide),R.ok_bind,xY]
 rw [xh,ha,R.ok_bind,uB RR _ _ _ _ k4 (by decide +kernel) (by decide),R.ok_bind,xY,ZJ]
 rfl
theorem VT (a b c d e g:Int)(A:List Key)(B:List D)(k0:zT A B (.inr "width")=some (.int a))(k1:zT A B (.inr "part")=some (.int b))(k2:zT A B (.inr "twin")=some (.int c))(k3:zT A B (.inr "over")=some (.int d))(k4:zT A B (.inr "blank")=some (.int e))(k5:zT A B (.inr "dash")=some (.int g)):L2.hitsD A B [.inr "width",.inr "part",.inr "twin",.inr "over",.inr "blank",.inr "dash"] [.int a,.int b,.int c,.int d,.int e,.int g]=some true:=by
 simp only [L2.hitsD,k0,k1,k2,k3,k4,k5,D.isS,eqS,Bool.and_self,if_true,pI,beq_self_eq_true]
theorem z26 (a b c d e g:Int):eqR true (qW a b c d e g) (X9 a b c d e g)=.ok (.bl false):=by
 have h:wB [.inr "width",.inr "part",.inr "twin",.inr "over",.inr "blank",.inr "dash"] [.int a,.int b,.int c,.int d,.int e,.int g] [.inr "blank",.inr "dash",.inr "width",.inr "part",.inr "twin",.inr "over"] [.int e,.int g,.int a,.int b,.int c,.int d]=some true:=by
  unfold wB
  exact (if_pos (by rfl)).trans (VT _ _ _ _ _ _ _ _ rfl rfl rfl rfl rfl rfl)
 show (match wB [.inr "width",.inr "part",.inr "twin",.inr "over",.inr "blank",.inr "dash"] [.int a,.int b,.int c,.int d,.int e,.int g] [.inr "blank",.inr "dash",.inr "width",.inr "part",.inr "twin",.inr "over"] [.int e,.int g,.int a,.int b,.int c,.int d] with
  | some b=>R.ok (D.bl (if true=true then !b else b))
  | none=>.bad)=_
 rw [h]
 rfl
theorem U9:∀ l:List Int,Zg yc (l.map D.int)=true
 | []=>rfl
 | n::l=>by
  rw [tF]
  unfold Zg
  rw [whole n,U9 l]
  rfl
theorem z0Y (a b c d e g:Int)(s0 s1 s2 s3 s4 s5 s6 s7 s8 s11 s12:Option D):Q10 [s0,s1,s2,s3,s4,s5,s6,s7,s8,some (qW a b c d e g),some (X9 a b c d e g),s11,s12]=.ok (.nx [s0,s1,s2,s3,s4,s5,s6,s7,s8,some (qW a b c d e g),some (X9 a b c d e g),s11,s12]):=by
 have e1:xD "dict" (qW a b c d e g)=.ok (.bl true):=rfl
 have e2:=z26 a b c d e g
 have hA:(xk (zm (eUn (xD "dict") (zb 9)))) [s0,s1,s2,s3,s4,s5,s6,s7,s8,some (qW a b c d e g),some (X9 a b c d e g),s11,s12]=.ok false:=by
  generalize qW a b c d e g=X at *
  simp -implicitDefEqProofs only [zb,eUn,zm,xk,asB,R.ok_bind,tD,tE,e1,rH]
 have hB:(zm (zd (eqR true) (zb 9) (zb 10))) [s0,s1,s2,s3,s4,s5,s6,s7,s8,some (qW a b c d e g),some (X9 a b c d e g),s11,s12]=.ok false:=by
  generalize qW a b c d e g=X at *
  simp -implicitDefEqProofs only [zb,zd,zm,asB,R.ok_bind,tD,tE,e2]
 have hC:zb 9 [s0,s1,s2,s3,s4,s5,s6,s7,s8,some (qW a b c d e g),some (X9 a b c d e g),s11,s12]=.ok (qW a b c d e g):=rfl
 unfold Q10 Qz
 rw [hA,R.ok_bind,if_neg tX,hB,R.ok_bind,if_neg tX,hC,R.ok_bind]
 exact if_pos ⟨J0 [a,b,c,d,e,g],U9 [a,b,c,d,e,g]⟩
theorem z0Z (P:List (Nat×Int))(pl:Int)(Q:List (List Nat×Str))(xs:List Wd)(hq:Q.length<=10000)(hx:xs.length<=1000)(e:(Q.map (·.1)).flatten=(xs.map fun x=>x.cs++x.ts).flatten)(hl:(xs.map fun x=>x.cs++x.ts).flatten.length<=100000)(hc:∀ x∈xs,x.cs.length+x.ts.length<=1000)(s0 s1 s2 s3 s4 s6 s7 s8 s9 s10 s11:Option D) :
  Q13 [s0,s1,s2,s3,s4,some (.lst (xs.map enW)),s6,s7,s8,s9,s10,s11,some (.lst (Q.map (enP P pl)))]=.ok (.nx [s0,s1,s2,s3,s4,some (.lst (xs.map enW)),s6,s7,s8,s9,s10,s11,some (.lst (Q.map (enP P pl)))]):=by
 have k1:x8 (ym (Tgt.one 0).asg (fun _=>.ok true) (ya (zd ixD (zb 0) (eC (.int 0)))) [none]) (Q.map (enP P pl))=.ok (Q.filterMap fun q=>some (enX q)):=yI fun q _=>by
  unfold ym enP enX
  generalize uF P pl q.1=w at *
  simp -implicitDefEqProofs only [zU,Zb,zb,eC,zd,Tgt.asg,R.ok_bind,tD,tG,uQ,if_true]
  rfl
 rw [vc] at k1
 have i1:Ue (Q.map enX)=.ok (.lst (Q.map enX)):=xA (by rw [tP]; omega)
 have j1:xW "" [.lst (Q.map enX)]=.ok (.str (S (Q.map (·.1)).flatten)):=Qk (fun q:List Nat×Str=>q.1) Q (by rw [e]; exact hl)
 have k2:x8 (ym (Tgt.many [0,1]).asg (fun _=>.ok true) (zd zy (zb 0) (zb 1)) [none,none]) (xs.map enW)=.ok (xs.filterMap fun x=>some (D.str (S (x.cs++x.ts)))):=yI fun x hx=>by
  have ha:=qz x.cs x.ts (hc x hx)
  show YE ((zy (.str (S x.cs)) (.str (S x.ts))).bind fun y=>.ok (some y))=_
  rw [ha]
  rfl
 rw [vc] at k2
 have i2:Ue (xs.map fun x=>D.str (S (x.cs++x.ts)))=.ok (.lst (xs.map fun x=>D.str (S (x.cs++x.ts)))):=xA (by rw [tP]; omega)
 have j2:xW "" [.lst (xs.map fun x=>D.str (S (x.cs++x.ts)))]=.ok (.str (S (xs.map fun x=>x.cs++x.ts).flatten)):=Qk (fun x:Wd=>x.cs++x.ts) xs hl
 rw [e] at j1
 have e0:eqR true (.str (S (xs.map fun x=>x.cs++x.ts).flatten)) (.str (S (xs.map fun x=>x.cs++x.ts).flatten))=.ok (.bl false):=by rw [ub,if_pos rfl,beq_self_eq_true]; rfl
 clear e hl
 generalize S (xs.map fun x=>x.cs++x.ts).flatten=Z at *
 generalize (xs.map fun x=>D.str (S (x.cs++x.ts)))=X2 at *
 generalize xs.map enW=X1 at *
 generalize Q.map enX=Q2 at *
 generalize Q.map (enP P pl)=Q1 at *
 unfold Q13
 simp -implicitDefEqProofs only [yC,xx,xB,zx,zr,sIf,zb,eC,zd,ze,za,zm,zZ,asB,wY,R.ok_bind,tD,tE,if_false,tW,Xq,X6,k1,i1,j1,k2,i2,j2,e0]
theorem z3x (a0 a1 a2 a3 a4 a5 a6 a7 a8 a9:Int):eqE (dR a0 a1 a2 a3 a4 a5 a6 a7 a8 a9) (dR a0 a1 a2 a3 a4 a5 a6 a7 a8 a9)=some true:=by
 show wB K10 [.int a0,.int a1,.int a2,.int a3,.int a4,.int a5,.int a6,.int a7,.int a8,.int a9] K10 [.int a0,.int a1,.int a2,.int a3,.int a4,.int a5,.int a6,.int a7,.int a8,.int a9]=some true
 unfold wB
 rw [if_pos rfl]
 exact Wt _ _ _ _ _ _ _ _ _ _ _ _ rfl rfl rfl rfl rfl rfl rfl rfl rfl rfl
theorem z3U (xs:List Wd):eqE (.lst (xs.map enW)) (.lst (xs.map enW))=some true:=by
 show (if (xs.map enW).length=(xs.map enW).length then y0 (eqF 10) (xs.map enW) (xs.map enW) else some false)=_
 rw [if_pos rfl]
 refine jS (fun x=>WB 9 fun d hd=>?_) xs
 have h:∀ z:Str,eqF 9 (.str z) (.str z)=some true:=fun z=>by
  have e:eqF 9 (.str z) (.str z)=some (z==z):=rfl
  rw [e,beq_self_eq_true]
 rcases sJ.mp hd with z | hd
 ·rw [z]; exact h _
 ·rw [sN.mp hd]; exact h _
theorem z2T (l:List Jn):eqE (.lst (l.map zz)) (.lst (l.map zz))=some true:=by
 show (if (l.map zz).length=(l.map zz).length then y0 (eqF 10) (l.map zz) (l.map zz) else some false)=_
 rw [if_pos rfl]
 exact Qv 10 l
theorem z1c (X Y Z:D)(h1:eqE X X=some true)(h2:eqE Y Y=some true)(h3:eqE Z Z=some true):Z8 (.lst [X,Y,Z]) (.lst [X,Y,Z])=.ok (.bl true):=by
 unfold Z8
 dsimp only
 rw [if_pos rfl]
 unfold y0
 rw [h1]
 unfold y0
 rw [h2]
 unfold y0
 rw [h3]
 rfl
end K09
namespace K09
open PySem PyProof.Rows L2
theorem z4a (S0:D)(n:Int)(hn:zk [S0,.int 4]=.ok (.int n)):Q0 [some S0,none,none,none,none,none,none,none,none,none,none,none,none]=.ok (.nx [some S0,some (.bl (n%2==1)),none,none,none,none,none,none,none,none,none,none,none]):=by
 have m2:zA (.int n) (.int 2)=.ok (.int (n%2)):=zK (by decide)
 have e:eqR false (.int (n%2)) (.int 1)=.ok (.bl (n%2==1)):=by rw [vh,if_neg tX]
 unfold Q0
 generalize (n%2==1)=b at *
 generalize n%2=m at *
 generalize zk=FN at *
 simp -implicitDefEqProofs only [zl,zb,eC,zd,eL,ze,za,R.ok_bind,tD,tG,tI,hn,m2,e]
theorem z42 (S0 F:D)(s1:Option D)(h:yR [S0,.int 2]=.ok F):Q1 [some S0,s1,none,none,none,none,none,none,none,none,none,none,none]=.ok (.nx [some S0,s1,some F,none,none,none,none,none,none,none,none,none,none]):=by
 unfold Q1
 generalize yR=FN at *
 simp -implicitDefEqProofs only [zl,zb,eC,eL,ze,za,R.ok_bind,tD,tG,tI,h]
theorem z2G (S0 RR:D)(s1 s2:Option D)(h:yB [S0]=.ok RR):Q2 [some S0,s1,s2,none,none,none,none,none,none,none,none,none,none]=.ok (.nx [some S0,s1,s2,some RR,none,none,none,none,none,none,none,none,none]):=by
 unfold Q2
 generalize yB=FN at *
 simp -implicitDefEqProofs only [zl,zb,eL,ze,za,R.ok_bind,tD,tG,tI,h]
theorem z2F (S0 b BK:D)(s2 s3:Option D)(h:yP [S0,b]=.ok BK):Q3 [some S0,some b,s2,s3,none,none,none,none,none,none,none,none,none]=.ok (.nx [some S0,some b,s2,s3,some BK,none,none,none,none,none,none,none,none]):=by
 unfold Q3
 generalize yP=FN at *
 simp -implicitDefEqProofs only [zl,zb,eL,ze,za,R.ok_bind,tD,tE,tG,tI,h]
theorem z39 (s0 s1 s2 s3 s4:Option D):Q4 [s0,s1,s2,s3,s4,none,none,none,none,none,none,none,none]=.ok (.nx [s0,s1,s2,s3,s4,some (.lst []),none,none,none,none,none,none,none]):=by
 unfold Q4
 simp -implicitDefEqProofs only [zl,eL,ze,R.ok_bind,tG,tI]
theorem z4o (s0 s1 s2 s6 s7 s8 s9 s10 s11 s12:Option D)(RR BK PR:D)(h1:yk [BK]=.ok BK)(h2:yn [RR]=.ok RR)(h3:yk [PR]=.ok PR):Q6 [s0,s1,s2,some RR,some BK,some PR,s6,s7,s8,s9,s10,s11,s12]=.ok (.nx [s0,s1,s2,some RR,some BK,some PR,s6,s7,some (.lst [BK,RR,PR]),s9,s10,s11,s12]):=by
 unfold Q6
 generalize yk=G1 at *
 generalize yn=G2 at *
 simp -implicitDefEqProofs only [zl,zb,eL,ze,za,R.ok_bind,tD,tE,tG,tI,h1,h2,h3]
theorem z3T (s0 s1 s3 s4 s5 s6 s7 s9 s10 s11 s12:Option D)(F RR BK PR L:D)(h:wq [F,RR]=.ok L):Q7 [s0,s1,some F,s3,s4,s5,s6,s7,some (.lst [BK,RR,PR]),s9,s10,s11,s12]=.ok (.nx [s0,s1,some F,s3,s4,s5,s6,s7,some (.lst [BK,RR,PR]),some L,s10,s11,s12]):=by
 have e:ixD (.lst [BK,RR,PR]) (.int 1)=.ok RR:=rfl
 unfold Q7
 generalize wq=G1 at *
 simp -implicitDefEqProofs only [zl,zb,eC,zd,eL,ze,za,R.ok_bind,tD,tE,tG,tI,h,e]
theorem z3i (s0 s1 s3 s4 s5 s6 s7 s8 s9 s10 s11 s12:Option D)(F:D)(b w:Int)(h1:ixD F (.int 1)=.ok (.int b))(h2:zR [F,.str "-"]=.ok (.int w)):Q8 [s0,s1,some F,s3,s4,s5,s6,s7,s8,s9,s10,s11,s12]=.ok (.nx [s0,s1,some F,s3,s4,s5,s6,s7,s8,s9,some (.dic [.inr "blank",.inr "dash"] [.int b,.int w]),s11,s12]):=by
 unfold Q8
 generalize zR=G1 at *
 simp -implicitDefEqProofs only [zU,uG,zl,zb,eC,zd,eL,ze,za,R.ok_bind,tD,tE,tG,tI,h1,h2]
theorem z2q (s0 s1 s3 s4 s5 s6 s7 s9 s10 s11 s12:Option D)(F RR BK PR L:D)(h:zX [F,BK,RR,PR]=.ok L):Q11 [s0,s1,some F,s3,s4,s5,s6,s7,some (.lst [BK,RR,PR]),s9,s10,s11,s12]=.ok (.nx [s0,s1,some F,s3,s4,s5,s6,s7,some (.lst [BK,RR,PR]),s9,s10,s11,some L]):=by
 have e0:ixD (.lst [BK,RR,PR]) (.int 0)=.ok BK:=rfl
 have e1:ixD (.lst [BK,RR,PR]) (.int 1)=.ok RR:=rfl
 have e2:ixD (.lst [BK,RR,PR]) (.int 2)=.ok PR:=rfl
 unfold Q11
 generalize zX=G1 at *
 simp -implicitDefEqProofs only [zl,zb,eC,zd,eL,ze,za,R.ok_bind,tD,tE,tG,tI,h,e0,e1,e2]
theorem z0O (s0 s1 s6 s7 s8 s9 s10 s11:Option D)(F RR BK PR L:D)(h:xb [F,BK,RR,PR]=.ok L)(h2:yS [L,L]=.ok (.bl true)):Q12 [s0,s1,some F,some RR,some BK,some PR,s6,s7,s8,s9,s10,s11,some L]=.ok (.nx [s0,s1,some F,some RR,some BK,some PR,s6,s7,s8,s9,s10,s11,some L]):=by
 unfold Q12
 generalize xb=G1 at *
 generalize yS=G2 at *
 simp -implicitDefEqProofs only [zx,zr,sIf,zb,eC,eL,ze,za,zm,xk,asB,R.ok_bind,tD,tE,if_false,tW,h,h2,rH]
theorem z1k (s1 s6 s7 s8 s9 s10 s11 s12:Option D)(S0 F RR BK PR:D)(n:Int)(hn:zk [S0,.int 50]=.ok (.int n))(h:yi [F,BK,RR,PR,.int n]=.ok (.bl true)):Q14 [some S0,s1,some F,some RR,some BK,some PR,s6,s7,s8,s9,s10,s11,s12]=.ok (.nx [some S0,s1,some F,some RR,some BK,some PR,s6,s7,s8,s9,s10,s11,s12]):=by
 unfold Q14
 generalize zk=G1 at *
 generalize yi=G2 at *
 simp -implicitDefEqProofs only [zx,zr,sIf,zb,eC,eL,ze,za,zm,xk,asB,R.ok_bind,tD,tE,if_false,tW,hn,h,rH]
theorem z29 (s0 s1 s2 s6 s7 s9 s10 s11 s12:Option D)(RR BK PR:D)(h:Z8 (.lst [BK,RR,PR]) (.lst [BK,RR,PR])=.ok (.bl true)):Q15 [s0,s1,s2,some RR,some BK,some PR,s6,s7,some (.lst [BK,RR,PR]),s9,s10,s11,s12]=.ok (.rt (.bl true)):=by
 unfold Q15
 simp -implicitDefEqProofs only [zr,zb,zd,eL,ze,za,R.ok_bind,tD,tE,h]
theorem XY {B RR:D}:∀ xs:List Wd,(∀ x∈xs,Wok B RR x)->(xs.flatMap pcs).length<=41*xs.length
 | [],_=>tY _
 | x::xs,h=>by
  have:=XY xs fun y hy=>h y (tR _ hy)
  have a:=ZP (h x tQ)
  rw [pS,tN,tH]
  omega
theorem law_true (ns:List Int)(h:ns.length<=63):F_law [.frl (ns.map D.int)]=.ok (.bl true):=by
 obtain ⟨n,hn,_⟩:=vp ns h 4 (by decide) (by decide)
 obtain ⟨pl,bl,P,hf,f⟩:=z4S ns h
 obtain ⟨a0,a1,a2,a3,a4,a5,a6,a7,a8,a9,hr⟩:=z3Z ns h
 obtain ⟨l,hb,hJ,hl⟩:=z4R ns h (n%2==1)
 have hA:=QA a0 a1 a2 a3 a4 a5 a6 a7 a8 a9
 have hB:=V3 a0 a1 a2 a3 a4 a5 a6 a7 a8 a9
 have hD:=Ks a0 a1 a2 a3 a4 a5 a6 a7 a8 a9
 have hL:yk [.lst (l.map zz)]=.ok (.lst (l.map zz)):=YO (z0N l)
 obtain ⟨xs,y6,y7,hx,hxl,h5⟩:=z36 ns h (n%2==1) l hJ hl _ _ _ hA hB (some (fc pl bl P))
 have hP:yk [.lst (xs.map enW)]=.ok (.lst (xs.map enW)):=YO (uX xs)
 obtain ⟨m,hm,_⟩:=vp ns h 50 (by decide) (by decide)
 have hlay:=z1n pl bl P f a0 a1 a2 a3 a4 a5 a6 a7 a8 a9
 have hsp:zR [fc pl bl P,.str "-"]=.ok (.int (uF P pl [45])):=by rw [QZ]; exact z4m pl bl P f [45]
 have hpc:=z1L pl bl P f _ _ xs hx hxl
 have hdu:=due pl bl P f _ _ hL hD xs hx hxl
 have hto:=z1O P pl (xs.flatMap pcs)
 have hre:=Jy pl bl P f _ _ hL hD xs hx hxl m
 have heq:=z1c _ _ _ (z2T l) (z3x a0 a1 a2 a3 a4 a5 a6 a7 a8 a9) (z3U xs)
 have hq:=XY xs hx
 have hfl:=Y6 xs hx
 rw [tLW]
 refine Uh (τ:=[some (.frl (ns.map D.int)),none,none,none,none,none,none,none,none,none,none,none,none]) rfl ?_
 rw [xa (z4a _ n hn),xa (z42 _ _ _ hf),xa (z2G _ _ _ _ hr),xa (z2F _ _ _ _ _ hb),xa (z39 _ _ _ _ _),xa h5,xa (z4o _ _ _ _ _ _ _ _ _ _ _ _ _ hL hD hP),xa (z3T _ _ _ _ _ _ _ _ _ _ _ _ _ _ _ _ hlay),xa (z3i _ _ _ _ _ _ _ _ _ _ _ _ _ bl _ rfl hsp),xa (z4n a0 a1 a2 a3 a4 a5 a6 a7 a8 a9 _ _ _ _ _ _ _ _ _ _ _ _ _),xa (z0Y _ _ _ _ _ _ _ _ _ _ _ _ _ _ _ _ _),xa (z2q _ _ _ _ _ _ _ _ _ _ _ _ _ _ _ _ hpc),xa (z0O _ _ _ _ _ _ _ _ _ _ _ _ _ hdu hto),xa (z0Z P pl _ xs (by omega) (by omega) (XU xs hx) (by omega) (fun x z=>by have:=(hx x z).lc; have:=(hx x z).lt; omega) _ _ _ _ _ _ _ _ _ _ _),xa (z1k _ _ _ _ _ _ _ _ _ _ _ _ _ m hm hre)]
 exact z29 _ _ _ _ _ _ _ _ _ _ _ _ heq
end K09
namespace K09
open PySem PySem.W PyProof.Rows
def e (P:Params)(k:Str)(t:Nat)(v:Value):DictEntry:={ hash:=PyData.keyHash P k,key:=.str k t,val:=v }
def dO (v:Array DictEntry)(n:Nat):Obj:={ cls:=.type "dict",data:=.dict v n }
def cO (n:Str)(t l a f r k:Nat):Obj:={ cls:=.type "code",data:=.fields #[.str n t,.str n (t+1),.str "/claim/cut.py" (t+2),.int l 0,.int a 0,.int 0 0,.int 0 0,.int f 0,.ref r,.bool true,.int 181 0,.ref (r+1),.none,.ref (r+2),.ref (r+3),.ref (r+4),.int k 0,.int l 0,.str "/claim/cut.py" (k+1)] }
def cN (n:Str)(t l a r:Nat):Obj:={ cls:=.type "code",data:=.fields #[.str n t,.str n (t+1),.str "/claim/cut.py" (t+2),.int l 0,.int a 0,.int 0 0,.int 0 0,.int 3 0,.ref r,.bool true,.int 181 0,.ref (r+1),.none,.none,.none,.ref (r+2),.int (t+3) 0,.int l 0,.str "/claim/cut.py" (t+4)] }
def fO (n:Str)(i c:Nat)(m:Str)(t:Nat):Obj:=⟨.type "function",none,.func (fnOf n n (L2.defArgs (top i)) (L2.defBody (top i)) (L2.defScope (top i)) .none .none .none (.str m t) none (.ref c) .none),#[]⟩
def K0 (P:Params):Frag:=[
 (3,dO #[e P "__name__" 165 (.str "law_quirehand_k09_pieces_of_words" 409),e P "__doc__" 166 .none,e P "__package__" 167 .none,e P "__loader__" 168 (.builtin "__main__.__loader__#opaque"),e P "__spec__" 169 .none,e P "__annotations__" 170 (.ref 6),e P "__builtins__" 171 (.ref 4),e P "__file__" 173 (.str "/claim/cut.py" 172),e P "__cached__" 174 .none,e P "SetError" 206 (.ref 24),e P "BadWord" 222 (.ref 37),e P "SIGNS" 226 (.str "abcdefghijklmnopqrstuvwxyzABCDEFGHIJKLMNOPQRSTUVWXYZ0123456789.,;:!?'\"()-/" 225),e P "is_sign" 233 (.ref 46),e P "wide" 239 (.ref 51),e P "SMALL" 243 (.str "abcdefghijklmnopqrstuvwxyz" 242),e P "mark_at" 250 (.ref 58),e P "letters_of" 257 (.ref 65),e P "fits" 268 (.ref 72),e P "rank" 275 (.ref 79),e P "telling" 286 (.ref 86),e P "MOST_SIGNS" 290 (.int 40 289),e P "is_word" 296 (.ref 91),e P "need_word" 303 (.ref 98),e P "is_letter" 310 (.ref 105),e P "letters_ahead" 319 (.ref 112),e P "letters_behind" 328 (.ref 119),e P "may_part" 339 (.ref 126),e P "is_soft" 347 (.ref 133),e P "join_at" 357 (.ref 140),e P "joints_within" 363 (.ref 145),e P "places" 369 (.ref 150),e P "parted" 382 (.ref 157),e P "lay_of" 392 (.ref 164),e P "pieces_of" 408 (.ref 171),e P "_law_number" 419 (.ref 178),e P "_law_whole" 426 (.ref 185),e P "_law_face" 441 (.ref 192),e P "_law_rules" 455 (.ref 199),e P "_law_letters" 468 (.ref 206),e P "_law_book" 474 (.ref 211),e P "_law_word" 487 (.ref 218),e P "_law_tail" 493 (.ref 223),e P "_law_span" 499 (.ref 228),e P "_law_due" 505 (.ref 233),e P "_law_told" 514 (.ref 240),e P "_law_refused" 528 (.ref 247),e P "law" 534 (.ref 252)] 47),
 (23,dO #[e P "__module__" 196 (.str "quirehand.errors" 187),e P "__firstlineno__" 200 (.int 2 199),e P "__static_attributes__" 201 (.ref 22),e P "__weakref__" 203 (.ref 25),e P "__doc__" 204 .none] 3),
 (24,{ cls:=.type "type",data:=.cls { name:="SetError",bases:=[.type "ValueError"],mro:=[.ref 24,.type "ValueError",.type "Exception",.type "BaseException",.type "object"],ns:=23,qualname:="SetError",subclasses:=[.ref 37] },slots:=#[some (.ref 15),none,some (.str "SetError" 189),some (.str "SetError" 197),some (.builtin "ValueError.__new__"),some (.bool true)] }),
 (36,dO #[e P "__module__" 214 (.str "quirehand.errors" 187),e P "__firstlineno__" 218 (.int 4 217),e P "__static_attributes__" 219 (.ref 35),e P "__doc__" 220 .none] 2),
 (37,{ cls:=.type "type",data:=.cls { name:="BadWord",bases:=[.ref 24],mro:=[.ref 37,.ref 24,.type "ValueError",.type "Exception",.type "BaseException",.type "object"],ns:=36,qualname:="BadWord" },slots:=#[some (.ref 28),none,some (.str "BadWord" 207),some (.str "BadWord" 215),some (.builtin "ValueError.__new__"),some (.bool true)] }),
 (45,cO "is_sign" 227 8 1 3 40 231),
 (46,fO "is_sign" 5 45 "quirehand.faces" 223),
 (50,cN "wide" 234 10 2 47),
 (51,fO "wide" 6 50 "quirehand.faces" 223),
 (57,cO "mark_at" 244 16 1 3 52 248),
 (58,fO "mark_at" 9 57 "quirehand.joints" 240),
 (64,cO "letters_of" 251 18 1 3 59 255),
 (65,fO "letters_of" 10 64 "quirehand.joints" 240),
 (71,cO "fits" 258 20 3 3 66 266),
 (72,fO "fits" 11 71 "quirehand.joints" 240),
 (78,cO "rank" 269 24 1 3 73 273),
 (79,fO "rank" 12 78 "quirehand.joints" 240),
 (85,cO "telling" 276 26 3 3 80 284),
 (86,fO "telling" 13 85 "quirehand.joints" 240),
 (90,cN "is_word" 291 34 1 87),
 (91,fO "is_word" 16 90 "quirehand.parting" 287),
 (97,cO "need_word" 297 38 1 3 92 301),
 (98,fO "need_word" 17 97 "quirehand.parting" 287),
 (104,cO "is_letter" 304 42 1 3 99 308),
 (105,fO "is_letter" 18 104 "quirehand.parting" 287),
 (111,cO "letters_ahead" 311 44 2 3 106 317),
 (112,fO "letters_ahead" 19 111 "quirehand.parting" 287),
 (118,cO "letters_behind" 320 49 2 3 113 326),
 (119,fO "letters_behind" 20 118 "quirehand.parting" 287),
 (125,cO "may_part" 329 54 4 3 120 337),
 (126,fO "may_part" 21 125 "quirehand.parting" 287),
 (132,cO "is_soft" 340 59 2 3 127 345),
 (133,fO "is_soft" 22 132 "quirehand.parting" 287),
 (139,cO "join_at" 348 63 4 3 134 355),
 (140,fO "join_at" 23 139 "quirehand.parting" 287),
 (144,cN "joints_within" 358 69 2 141),
 (145,fO "joints_within" 24 144 "quirehand.parting" 287),
 (149,cN "places" 364 72 3 146),
 (150,fO "places" 25 149 "quirehand.parting" 287),
 (156,cO "parted" 370 77 3 3 151 380),
 (157,fO "parted" 26 156 "quirehand.parting" 287),
 (163,cO "lay_of" 385 86 2 3 158 390),
 (164,fO "lay_of" 28 163 "quirehand.pieces" 383),
 (170,cO "pieces_of" 393 88 4 3 165 406),
 (171,fO "pieces_of" 29 170 "quirehand.pieces" 383),
 (177,cO "_law_number" 411 96 2 3 172 417),
 (178,fO "_law_number" 31 177 "law_quirehand_k09_pieces_of_words" 409),
 (184,cO "_law_whole" 420 101 1 3 179 424),
 (185,fO "_law_whole" 32 184 "law_quirehand_k09_pieces_of_words" 409),
 (191,cO "_law_face" 427 103 2 3 186 439),
 (192,fO "_law_face" 33 191 "law_quirehand_k09_pieces_of_words" 409),
 (198,cO "_law_rules" 442 113 1 3 193 453),
 (199,fO "_law_rules" 34 198 "law_quirehand_k09_pieces_of_words" 409),
 (205,cO "_law_letters" 456 125 3 3 200 466),
 (206,fO "_law_letters" 35 205 "law_quirehand_k09_pieces_of_words" 409),
 (210,cN "_law_book" 469 132 2 207),
 (211,fO "_law_book" 36 210 "law_quirehand_k09_pieces_of_words" 409),
 (217,cO "_law_word" 475 143 2 3 212 485),
 (218,fO "_law_word" 37 217 "law_quirehand_k09_pieces_of_words" 409),
 (222,cN "_law_tail" 488 156 1 219),
 (223,fO "_law_tail" 38 222 "law_quirehand_k09_pieces_of_words" 409),
 (227,cN "_law_span" 494 165 2 224),
 (228,fO "_law_span" 39 227 "law_quirehand_k09_pieces_of_words" 409),
 (232,cN "_law_due" 500 171 4 229),
 (233,fO "_law_due" 40 232 "law_quirehand_k09_pieces_of_words" 409),
 (239,cO "_law_told" 506 180 2 3 234 512),
 (240,fO "_law_told" 41 239 "law_quirehand_k09_pieces_of_words" 409),
 (246,cO "_law_refused" 515 189 5 3 241 526),
 (247,fO "_law_refused" 42 246 "law_quirehand_k09_pieces_of_words" 409),
 (251,cN "law" 529 197 1 248),
 (252,fO "law" 43 251 "law_quirehand_k09_pieces_of_words" 409)]
abbrev pw:Program:=PySem.Challenge.pw_quirehand_k09_pieces_of_words
def as0:List Addr:=[3,23,24,36,37,45,46,50,51,57,58,64,65,71,72,78,79,85,86,90,91,97,98,104,105,111,112,118,119,125,126,132,133,139,140,144,145,149,150,156,157,163,164,170,171,177,178,184,185,191,192,198,199,205,206,210,211,217,218,222,223,227,228,232,233,239,240,246,247,251,252]
theorem as_eq:∀ P,as0=(K0 P).map (·.1):=fun _=>rfl
def q0:Program:=view PySem.Challenge.pw_quirehand_k09_pieces_of_words [1,2,4,5,6,8,9,10,11,12,13,15,16,17,18,19,20,21,22,23,24,25,26,28,29,31,32,33,34,35,36,37,38,39,40,41,42,43]
theorem t0:(PySem.Challenge.pw_quirehand_k09_pieces_of_words.main.body.length==44)=true:=by k_qdec
set_option maxHeartbeats 0 in
theorem z4U:∀ w os,HW.runAll PySem.Challenge.pw_quirehand_k09_pieces_of_words (view PySem.Challenge.pw_quirehand_k09_pieces_of_words [1,2,4,5,6,8,9,10,11,12,13,15,16,17,18,19,20,21,22,23,24,25,26,28,29,31,32,33,34,35,36,37,38,39,40,41,42,43]) [] (fun s=>xlAt (view PySem.Challenge.pw_quirehand_k09_pieces_of_words [1,2,4,5,6,8,9,10,11,12,13,15,16,17,18,19,20,21,22,23,24,25,26,28,29,31,32,33,34,35,36,37,38,39,40,41,42,43]) [] s&&recOk [] s) (fun s=>as0.map s.heap.get?) 1517 w os=some (⟨denote treeTable (HW.body0 PySem.Challenge.pw_quirehand_k09_pieces_of_words),HW.body0 PySem.Challenge.pw_quirehand_k09_pieces_of_words,HW.p0,[topFrame HW.p0]⟩,(.next,HW.body0 PySem.Challenge.pw_quirehand_k09_pieces_of_words),(.next,HW.body0 PySem.Challenge.pw_quirehand_k09_pieces_of_words),true,openGood (view PySem.Challenge.pw_quirehand_k09_pieces_of_words [1,2,4,5,6,8,9,10,11,12,13,15,16,17,18,19,20,21,22,23,24,25,26,28,29,31,32,33,34,35,36,37,38,39,40,41,42,43]) [],(K0 w.params).map fun p=>some p.2):=by
 intro w os
 unfold HW.runAll HW.body0 HW.env0
 rw [Fast.te15667345088766844465,Fast.te14364793385576792824,Fast.te14374325043358763698,Fast.te10110043849684766642,Fast.te5923862056798008813,Fast.te4187177175401517315,Fast.te14082659384304107361,Fast.te11892475500146522536,Fast.te17597610517735574878]
 kernel_rfl
theorem left0:LeftO PySem.Challenge.pw_quirehand_k09_pieces_of_words q0 [] (fun s=>xlAt q0 [] s&&recOk [] s) (fun s=>as0.map s.heap.get?) (fun w=>(K0 w.params).map fun p=>some p.2) 3094 :=
 HW.left_of (n1:=1517) (by kernel_rfl) rfl (fun _=>rfl) (fun _=>by kernel_rfl) rfl z4U
end K09
namespace K09
open PySem PySem.Spec PySem.W PyProof.Rows L2
theorem facts (w:World)(mg:Str->Option Value)(fa:Addr)(h:Heap)(X:(K0 w.params).In h)(G:h.Ns mainGlobals mg)(hfa:mg "law"=some (.ref fa)) :
  ∃ fd:FuncData,(∀ (s:Shared) (u:Value),BindsTo s fd ⟨[u],[]⟩ [("_law_script",u)])/\∀ base:Heap,(K0 w.params).In base->base.Ns mainGlobals mg->FnOk pw w (K0 w.params) mg base (cxx pw w) 10 fa fd ["_law_script"] (spM (K0 w.params) F_law 1):=by
 have e:=hfa.symm.trans (PySem.W.mg_of X G (show nsIn (K0 w.params) mainGlobals "law"=some (some (.ref 252)) from by kernel_rfl))
 cases e
 have B:Bl mg:=⟨PySem.W.mg_none_of X G (show nsIn (K0 w.params) mainGlobals "isinstance"=some none from by kernel_rfl),PySem.W.mg_none_of X G (show nsIn (K0 w.params) mainGlobals "int"=some none from by kernel_rfl),PySem.W.mg_none_of X G (show nsIn (K0 w.params) mainGlobals "bool"=some none from by kernel_rfl),PySem.W.mg_none_of X G (show nsIn (K0 w.params) mainGlobals "str"=some none from by kernel_rfl),PySem.W.mg_none_of X G (show nsIn (K0 w.params) mainGlobals "dict"=some none from by kernel_rfl),PySem.W.mg_none_of X G (show nsIn (K0 w.params) mainGlobals "list"=some none from by kernel_rfl),PySem.W.mg_none_of X G (show nsIn (K0 w.params) mainGlobals "tuple"=some none from by kernel_rfl),PySem.W.mg_none_of X G (show nsIn (K0 w.params) mainGlobals "len"=some none from by kernel_rfl),PySem.W.mg_none_of X G (show nsIn (K0 w.params) mainGlobals "sum"=some none from by kernel_rfl),PySem.W.mg_none_of X G (show nsIn (K0 w.params) mainGlobals "max"=some none from by kernel_rfl),PySem.W.mg_none_of X G (show nsIn (K0 w.params) mainGlobals "min"=some none from by kernel_rfl),PySem.W.mg_none_of X G (show nsIn (K0 w.params) mainGlobals "all"=some none from by kernel_rfl),PySem.W.mg_none_of X G (show nsIn (K0 w.params) mainGlobals "range"=some none from by kernel_rfl),PySem.W.mg_none_of X G (show nsIn (K0 w.params) mainGlobals "enumerate"=some none from by kernel_rfl),PySem.W.mg_none_of X G (show nsIn (K0 w.params) mainGlobals "zip"=some none from by kernel_rfl)⟩
 have Gv:Gl0 (K0 w.params) mg:=⟨⟨_,PySem.W.mg_of X G (show nsIn (K0 w.params) mainGlobals "SIGNS"=some (some (.str "abcdefghijklmnopqrstuvwxyzABCDEFGHIJKLMNOPQRSTUVWXYZ0123456789.,;:!?'\"()-/" 225)) from by kernel_rfl)⟩,⟨_,PySem.W.mg_of X G (show nsIn (K0 w.params) mainGlobals "SMALL"=some (some (.str "abcdefghijklmnopqrstuvwxyz" 242)) from by kernel_rfl)⟩,⟨_,PySem.W.mg_of X G (show nsIn (K0 w.params) mainGlobals "MOST_SIGNS"=some (some (.int 40 289)) from by kernel_rfl)⟩⟩
 have Cl:Cls (K0 w.params) mg:=⟨⟨37,(show PySem.W.nsIn (K0 w.params) mainGlobals "BadWord"=some (some (.ref 37)) from by kernel_rfl),(show PySem.W.excIn (K0 w.params) 37 [.type "ValueError",.type "Exception",.type "BaseException",.type "object"] "ValueError.__new__"=true from by kernel_rfl)⟩,PySem.W.mg_none_of X G (show PySem.W.nsIn (K0 w.params) mainGlobals "ValueError"=some none from by kernel_rfl),24,37,PySem.W.mg_of X G (show PySem.W.nsIn (K0 w.params) mainGlobals "SetError"=some (some (.ref 24)) from by kernel_rfl),⟨(show PySem.W.nsIn (K0 w.params) mainGlobals "BadWord"=some (some (.ref 37)) from by kernel_rfl),(show PySem.W.excIn (K0 w.params) 37 [.type "ValueError",.type "Exception",.type "BaseException",.type "object"] "ValueError.__new__"=true from by kernel_rfl)⟩,⟨(show PySem.W.findIn (K0 w.params) (.ref 37) "__getattribute__"=some (some (.builtin "BaseException.__getattribute__")) from by kernel_rfl),(show PySem.W.findIn (K0 w.params) (.ref 37) "__getattr__"=some none from by kernel_rfl),(show PySem.W.findIn (K0 w.params) (.ref 37) "__class__"=some (some (.builtin "object.__class__")) from by kernel_rfl),(show PySem.W.specialIn (K0 w.params) (.builtin "object.__class__") "__get__"=some (some (.builtin "getset_descriptor.__get__")) from by kernel_rfl),(show PySem.W.takesIn (K0 w.params) (.builtin "object.__class__")=some true from by kernel_rfl),(show PySem.W.mroIn (K0 w.params) 37 (.type "object")=some true from by kernel_rfl),(show PySem.W.mroIn (K0 w.params) 37 (.type "BaseException")=some true from by kernel_rfl),z3y (show PySem.W.excIn (K0 w.params) 37 [.type "ValueError",.type "Exception",.type "BaseException",.type "object"] "ValueError.__new__"=true from by kernel_rfl)⟩,PySem.W.mg_of X G (show PySem.W.nsIn (K0 w.params) mainGlobals "BadWord"=some (some (.ref 37)) from by kernel_rfl),(show PySem.W.kitOne (K0 w.params) (.ref 37) (.type "ValueError")=some true from by kernel_rfl),(show PySem.W.kitOne (K0 w.params) (.ref 37) (.ref 24)=some true from by kernel_rfl),(show PySem.W.exmOne (K0 w.params) (.ref 37) (.ref 37)=some true from by kernel_rfl)⟩
 refine ⟨fnOf "law" "law" (defArgs (top 43)) (defBody (top 43)) (defScope (top 43)) .none .none .none (.str "law_quirehand_k09_pieces_of_words" 409) none (.ref 251) .none,fun s v=>.of_eq rfl,fun base _ _=>?_⟩
 have D_is_sign:=HW.dfn (n:="is_sign") (st:=top 5) (ps:=["thing"]) (a:=46) (c:=45) (m:="quirehand.faces") (t:=223) X G (fun _ _ _ _ _ _=>bd1 fun _=>rfl) (by kernel_rfl)
 have O_is_sign:=Xr (P:=pw) (w:=w) (base:=base) D_is_sign B Gv Cl 
 have D_wide:=HW.dfn (n:="wide") (st:=top 6) (ps:=["face","line"]) (a:=51) (c:=50) (m:="quirehand.faces") (t:=223) X G (fun _ _ _ _ _ _=>bd2 fun _ _=>rfl) (by kernel_rfl)
 have O_wide:=Kn (P:=pw) (w:=w) (base:=base) D_wide B Gv Cl 
 have D_mark_at:=HW.dfn (n:="mark_at") (st:=top 9) (ps:=["joint"]) (a:=58) (c:=57) (m:="quirehand.joints") (t:=240) X G (fun _ _ _ _ _ _=>bd1 fun _=>rfl) (by kernel_rfl)
 have O_mark_at:=XG (P:=pw) (w:=w) (base:=base) D_mark_at B Gv Cl 
 have D_letters_of:=HW.dfn (n:="letters_of") (st:=top 10) (ps:=["joint"]) (a:=65) (c:=64) (m:="quirehand.joints") (t:=240) X G (fun _ _ _ _ _ _=>bd1 fun _=>rfl) (by kernel_rfl)
 have O_letters_of:=kq (P:=pw) (w:=w) (base:=base) D_letters_of B Gv Cl 
 have D_fits:=HW.dfn (n:="fits") (st:=top 11) (ps:=["joint","word","place"]) (a:=72) (c:=71) (m:="quirehand.joints") (t:=240) X G (fun _ _ _ _ _ _=>bd3 fun _ _ _=>rfl) (by kernel_rfl)
 have O_fits:=Jp (P:=pw) (w:=w) (base:=base) D_fits B Gv Cl O_letters_of O_mark_at
 have D_rank:=HW.dfn (n:="rank") (st:=top 12) (ps:=["joint"]) (a:=79) (c:=78) (m:="quirehand.joints") (t:=240) X G (fun _ _ _ _ _ _=>bd1 fun _=>rfl) (by kernel_rfl)
 have O_rank:=Kc (P:=pw) (w:=w) (base:=base) D_rank B Gv Cl O_mark_at
 have D_telling:=HW.dfn (n:="telling") (st:=top 13) (ps:=["book","word","place"]) (a:=86) (c:=85) (m:="quirehand.joints") (t:=240) X G (fun _ _ _ _ _ _=>bd3 fun _ _ _=>rfl) (by kernel_rfl)
 have O_telling:=Xo (P:=pw) (w:=w) (base:=base) D_telling B Gv Cl O_fits O_rank
 have D_is_word:=HW.dfn (n:="is_word") (st:=top 16) (ps:=["thing"]) (a:=91) (c:=90) (m:="quirehand.parting") (t:=287) X G (fun _ _ _ _ _ _=>bd1 fun _=>rfl) (by kernel_rfl)
 have O_is_word:=XI (P:=pw) (w:=w) (base:=base) D_is_word B Gv Cl O_is_sign
 have D_need_word:=HW.dfn (n:="need_word") (st:=top 17) (ps:=["thing"]) (a:=98) (c:=97) (m:="quirehand.parting") (t:=287) X G (fun _ _ _ _ _ _=>bd1 fun _=>rfl) (by kernel_rfl)
 have O_need_word:=Zu (P:=pw) (w:=w) (base:=base) D_need_word B Gv Cl O_is_word
 have D_is_letter:=HW.dfn (n:="is_letter") (st:=top 18) (ps:=["sign"]) (a:=105) (c:=104) (m:="quirehand.parting") (t:=287) X G (fun _ _ _ _ _ _=>bd1 fun _=>rfl) (by kernel_rfl)
 have O_is_letter:=Ze (P:=pw) (w:=w) (base:=base) D_is_letter B Gv Cl 
 have D_letters_ahead:=HW.dfn (n:="letters_ahead") (st:=top 19) (ps:=["word","place"]) (a:=112) (c:=111) (m:="quirehand.parting") (t:=287) X G (fun _ _ _ _ _ _=>bd2 fun _ _=>rfl) (by kernel_rfl)
 have O_letters_ahead:=qc (P:=pw) (w:=w) (base:=base) D_letters_ahead B Gv Cl O_is_letter
 have D_letters_behind:=HW.dfn (n:="letters_behind") (st:=top 20) (ps:=["word","place"]) (a:=119) (c:=118) (m:="quirehand.parting") (t:=287) X G (fun _ _ _ _ _ _=>bd2 fun _ _=>rfl) (by kernel_rfl)
 have O_letters_behind:=uM (P:=pw) (w:=w) (base:=base) D_letters_behind B Gv Cl O_is_letter
 have D_may_part:=HW.dfn (n:="may_part") (st:=top 21) (ps:=["book","rules","word","place"]) (a:=126) (c:=125) (m:="quirehand.parting") (t:=287) X G (fun _ _ _ _ _ _=>bd4 fun _ _ _ _=>rfl) (by kernel_rfl)
 have O_may_part:=Y3 (P:=pw) (w:=w) (base:=base) D_may_part B Gv Cl O_telling O_letters_ahead O_letters_behind
 have D_is_soft:=HW.dfn (n:="is_soft") (st:=top 22) (ps:=["word","place"]) (a:=133) (c:=132) (m:="quirehand.parting") (t:=287) X G (fun _ _ _ _ _ _=>bd2 fun _ _=>rfl) (by kernel_rfl)
 have O_is_soft:=Xf (P:=pw) (w:=w) (base:=base) D_is_soft B Gv Cl O_is_letter
 have D_join_at:=HW.dfn (n:="join_at") (st:=top 23) (ps:=["book","rules","word","place"]) (a:=140) (c:=139) (m:="quirehand.parting") (t:=287) X G (fun _ _ _ _ _ _=>bd4 fun _ _ _ _=>rfl) (by kernel_rfl)
 have O_join_at:=XJ (P:=pw) (w:=w) (base:=base) D_join_at B Gv Cl O_may_part O_is_soft
 have D_joints_within:=HW.dfn (n:="joints_within") (st:=top 24) (ps:=["book","word"]) (a:=145) (c:=144) (m:="quirehand.parting") (t:=287) X G (fun _ _ _ _ _ _=>bd2 fun _ _=>rfl) (by kernel_rfl)
 have O_joints_within:=qe (P:=pw) (w:=w) (base:=base) D_joints_within B Gv Cl O_letters_of
 have D_places:=HW.dfn (n:="places") (st:=top 25) (ps:=["book","rules","word"]) (a:=150) (c:=149) (m:="quirehand.parting") (t:=287) X G (fun _ _ _ _ _ _=>bd3 fun _ _ _=>rfl) (by kernel_rfl)
 have O_places:=Vl (P:=pw) (w:=w) (base:=base) D_places B Gv Cl O_need_word O_joints_within O_join_at
 have D_parted:=HW.dfn (n:="parted") (st:=top 26) (ps:=["book","rules","word"]) (a:=157) (c:=156) (m:="quirehand.parting") (t:=287) X G (fun _ _ _ _ _ _=>bd3 fun _ _ _=>rfl) (by kernel_rfl)
 have O_parted:=Vp (P:=pw) (w:=w) (base:=base) D_parted B Gv Cl O_places
 have D_lay_of:=HW.dfn (n:="lay_of") (st:=top 28) (ps:=["face","rules"]) (a:=164) (c:=163) (m:="quirehand.pieces") (t:=383) X G (fun _ _ _ _ _ _=>bd2 fun _ _=>rfl) (by kernel_rfl)
 have O_lay_of:=WX (P:=pw) (w:=w) (base:=base) D_lay_of B Gv Cl O_wide
 have D_pieces_of:=HW.dfn (n:="pieces_of") (st:=top 29) (ps:=["face","book","rules","pairs"]) (a:=171) (c:=170) (m:="quirehand.pieces") (t:=383) X G (fun _ _ _ _ _ _=>bd4 fun _ _ _ _=>rfl) (by kernel_rfl)
 have O_pieces_of:=ZK (P:=pw) (w:=w) (base:=base) D_pieces_of B Gv Cl O_parted O_wide
 have D__law_number:=HW.dfn (n:="_law_number") (st:=top 31) (ps:=["_law_script","_law_k"]) (a:=178) (c:=177) (m:="law_quirehand_k09_pieces_of_words") (t:=409) X G (fun _ _ _ _ _ _=>bd2 fun _ _=>rfl) (by kernel_rfl)
 have O__law_number:=jP (P:=pw) (w:=w) (base:=base) D__law_number B Gv Cl 
 have D__law_whole:=HW.dfn (n:="_law_whole") (st:=top 32) (ps:=["_law_found"]) (a:=185) (c:=184) (m:="law_quirehand_k09_pieces_of_words") (t:=409) X G (fun _ _ _ _ _ _=>bd1 fun _=>rfl) (by kernel_rfl)
 have O__law_whole:=kb (P:=pw) (w:=w) (base:=base) D__law_whole B Gv Cl 
 have D__law_face:=HW.dfn (n:="_law_face") (st:=top 33) (ps:=["_law_script","_law_k"]) (a:=192) (c:=191) (m:="law_quirehand_k09_pieces_of_words") (t:=409) X G (fun _ _ _ _ _ _=>bd2 fun _ _=>rfl) (by kernel_rfl)
 have O__law_face:=Zc (P:=pw) (w:=w) (base:=base) D__law_face B Gv Cl O__law_number
 have D__law_rules:=HW.dfn (n:="_law_rules") (st:=top 34) (ps:=["_law_script"]) (a:=199) (c:=198) (m:="law_quirehand_k09_pieces_of_words") (t:=409) X G (fun _ _ _ _ _ _=>bd1 fun _=>rfl) (by kernel_rfl)
 have O__law_rules:=kr (P:=pw) (w:=w) (base:=base) D__law_rules B Gv Cl O__law_number
 have D__law_letters:=HW.dfn (n:="_law_letters") (st:=top 35) (ps:=["_law_number_here","_law_many","_law_few"]) (a:=206) (c:=205) (m:="law_quirehand_k09_pieces_of_words") (t:=409) X G (fun _ _ _ _ _ _=>bd3 fun _ _ _=>rfl) (by kernel_rfl)
 have O__law_letters:=qP (P:=pw) (w:=w) (base:=base) D__law_letters B Gv Cl 
 have D__law_book:=HW.dfn (n:="_law_book") (st:=top 36) (ps:=["_law_script","_law_few"]) (a:=211) (c:=210) (m:="law_quirehand_k09_pieces_of_words") (t:=409) X G (fun _ _ _ _ _ _=>bd2 fun _ _=>rfl) (by kernel_rfl)
 have O__law_book:=Z6 (P:=pw) (w:=w) (base:=base) D__law_book B Gv Cl O__law_number O__law_letters
 have D__law_word:=HW.dfn (n:="_law_word") (st:=top 37) (ps:=["_law_number_here","_law_few"]) (a:=218) (c:=217) (m:="law_quirehand_k09_pieces_of_words") (t:=409) X G (fun _ _ _ _ _ _=>bd2 fun _ _=>rfl) (by kernel_rfl)
 have O__law_word:=Zp (P:=pw) (w:=w) (base:=base) D__law_word B Gv Cl O__law_letters
 have D__law_tail:=HW.dfn (n:="_law_tail") (st:=top 38) (ps:=["_law_number_here"]) (a:=223) (c:=222) (m:="law_quirehand_k09_pieces_of_words") (t:=409) X G (fun _ _ _ _ _ _=>bd1 fun _=>rfl) (by kernel_rfl)
 have O__law_tail:=Zx (P:=pw) (w:=w) (base:=base) D__law_tail B Gv Cl 
 have D__law_span:=HW.dfn (n:="_law_span") (st:=top 39) (ps:=["_law_face_here","_law_text"]) (a:=228) (c:=227) (m:="law_quirehand_k09_pieces_of_words") (t:=409) X G (fun _ _ _ _ _ _=>bd2 fun _ _=>rfl) (by kernel_rfl)
 have O__law_span:=ZQ (P:=pw) (w:=w) (base:=base) D__law_span B Gv Cl 
 have D__law_due:=HW.dfn (n:="_law_due") (st:=top 40) (ps:=["_law_face_here","_law_book_here","_law_rules_here","_law_pairs"]) (a:=233) (c:=232) (m:="law_quirehand_k09_pieces_of_words") (t:=409) X G (fun _ _ _ _ _ _=>bd4 fun _ _ _ _=>rfl) (by kernel_rfl)
 have O__law_due:=ZX (P:=pw) (w:=w) (base:=base) D__law_due B Gv Cl O_parted O__law_span
 have D__law_told:=HW.dfn (n:="_law_told") (st:=top 41) (ps:=["_law_found","_law_due_here"]) (a:=240) (c:=239) (m:="law_quirehand_k09_pieces_of_words") (t:=409) X G (fun _ _ _ _ _ _=>bd2 fun _ _=>rfl) (by kernel_rfl)
 have O__law_told:=Za (P:=pw) (w:=w) (base:=base) D__law_told B Gv Cl O__law_whole
 have D__law_refused:=HW.dfn (n:="_law_refused") (st:=top 42) (ps:=["_law_face_here","_law_book_here","_law_rules_here","_law_pairs","_law_number_here"]) (a:=247) (c:=246) (m:="law_quirehand_k09_pieces_of_words") (t:=409) X G (fun _ _ _ _ _ _=>bd5 fun _ _ _ _ _=>rfl) (by kernel_rfl)
 have O__law_refused:=qS (P:=pw) (w:=w) (base:=base) D__law_refused B Gv Cl O_pieces_of
 exact z1u (show (K0 w.params).lookup 252=some (fO "law" 43 251 "law_quirehand_k09_pieces_of_words" 409) from by kernel_rfl) (show codeIn (K0 w.params) (.ref 251) "law"=true from by kernel_rfl) sc_law (by decide) (UW B Gv Cl O__law_face O__law_rules O__law_book O_lay_of O_pieces_of O__law_number O__law_span O__law_told O__law_refused O__law_due O__law_word O__law_tail O__law_whole)
end K09
end
open PySem PySem.W PyProof.Rows L2
set_option maxRecDepth 100000 in
set_option maxHeartbeats 0 in
theorem PySem.Challenge.cw_quirehand_k09_pieces_of_words_holds : PySem.Challenge.rw_quirehand_k09_pieces_of_words.Holds := by
 w_on; o_law
 refine PySem.W.holds_open (q:=K09.q0) (loose:=[]) (Xt:=fun s=>xlAt K09.q0 [] s&&recOk [] s) (XP:=XL K09.q0 []) (Yf:=fun s=>K09.as0.map s.heap.get?) (Ya:=fun w=>(K09.K0 w.params).map fun (p:Addr×Obj)=>some p.2) (YP:=InK K09.K0) (N:=3094) K09.left0 (InK.of K09.as_eq) InK.keeps (fun s e=>xl_of s (Bool.and_eq_true_iff.mp e).1) XL.keeps (by rfl) (by rfl) (by rfl) (fun s e=>recFacts_of (Bool.and_eq_true_iff.mp e).2) (by rfl) (by first | assumption | decide +kernel) (by decide +kernel) ⟨rfl,rfl,rfl,rfl,rfl,by decide +kernel⟩ ?hw ?hc
 case hw=>w_witness2
 case hc=>exact L2.law_walk (l:=PySem.Challenge.rw_quirehand_k09_pieces_of_words) (Fm:=K09.F_law) (k:=10) (x:="_law_script") K09.law_true ⟨rfl,by decide,by decide⟩ rfl rfl (fun w h Y=>Y) K09.facts
#print axioms PySem.Challenge.cw_quirehand_k09_pieces_of_words_holds
