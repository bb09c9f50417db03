import PyProof.Rows.All
import Wide.All
import OpenK.AllK
import Wide.FinOn
import Lean
import PyProof.EqAt
import PyProof.EqKinds
import PyProof.TupleCall
import PyProof.ZipIter
import KE.KDictSum
import PyProof.Rows.SortStr
import PyProof.Rows.TupAdd
import PyProof.TupleOfGen
import PySem.Challenge.RW_quirehand_k06_blocks_refused
set_option Elab.async false
set_option linter.all false
set_option maxRecDepth 100000
set_option maxHeartbeats 4000000
set_option bootstrap.genMatcherCode false
set_option genSizeOfSpec false
noncomputable section
open List renaming getElem?_cons_zero -> tD, getElem?_cons_succ -> tE, map_cons -> tG, set_cons_zero -> tH, replicate_zero -> tI, length_cons -> tJ, set_cons_succ -> tK, cons_append -> tM, nil_append -> tN, length_nil -> tO, mem_append_right -> tQ, map_nil -> tR, replicate_succ -> tS, mem_append_left -> tU, mem_cons_self -> tY, length_append -> tZ, mem_cons_of_mem -> sA, mem_append -> sC, size_toArray -> sF, mem_cons -> sG, getElem?_eq_some_iff -> sI, append_nil -> sJ, mem_singleton -> sL, getElem?_set_ne -> sM, getElem?_set_self -> sN, length_map -> sO, nodup_append -> sR, length_set -> sS, getElem?_map -> sT, lookup_cons -> sU, nodup_cons -> sX, length_replicate -> sY, filterMap_cons -> sZ, getElem_mem -> rA, getElem?_eq_getElem -> rB, length_take -> rC, all_eq_true -> rE, append_assoc -> rF, getElem?_append_left -> rG, length_drop -> rJ, getElem?_replicate -> rK, getElem?_append_right -> rM, getElem?_eq_none -> rN, sublist_append_right -> rO, flatten_cons -> rP, sum_cons -> rQ, mem_range -> rR, length_singleton -> rS, find?_cons -> rV, any_cons -> rX, nodup_nil -> rY, drop_eq_getElem_cons -> rZ, not_mem_nil -> pA, nil_sublist -> pC, getElem?_range -> pE, map_map -> pF, mem_filterMap -> pG, all_cons -> pH, length_eq_zero_iff -> pI, map_id -> pM, sublist_nil -> pN
open Bool renaming false_eq_true -> tF, false_ne_true -> sE, and_eq_true -> sP, not_true -> sV, not_false -> rH
open Nat renaming zero_add -> tX, le_refl -> sD, lt_of_lt_of_le -> sQ, ne_of_lt -> sW, le_trans -> rD, lt_irrefl -> rW, zero_le -> pD
open Int renaming toNat_of_nonneg -> rL, emod_nonneg -> pK
open Option renaming bind_eq_some_iff -> pJ, map_eq_some_iff -> pL
namespace L2
open PySem PySem.Spec PyProof.Rows
theorem au0 (h:True:=by first | exact .inl rfl | exact .inr rfl | assumption):True:=trivial
theorem au1 (h:True:=by decide):True:=trivial
theorem au2 (h:True:=by intro _; rfl):True:=trivial
theorem au3 (h:True:=by rfl):True:=trivial
theorem au4 (h:True:=by with_unfolding_all rfl):True:=trivial
theorem au5 (h:True:=by first | exact Or.inl rfl | exact Or.inr (Or.inl rfl) | exact Or.inr (Or.inr rfl)):True:=trivial
theorem au6 (h:True:=by exact fun _ _=>rfl):True:=trivial
theorem au7 (h:True:=by first | exact Or.inl rfl | exact Or.inr rfl):True:=trivial
theorem au8 (h:True:=by exact rfl):True:=trivial
inductive Key where
 | inl (i:Int) | inr (x:Str) | non
 deriving DecidableEq
def YU:Value->Bool
 | .none=>true
 | _=>false
def kj:Key->Value->Bool
 | .inl k,v=>Value.isInt k v
 | .inr x,v=>Value.isStrOf x v
 | .non,v=>YU v
def z0x (w:World):Key->Int
 | .inl k=>hashInt k
 | .inr x=>hashStr w x
 | .non=>0xFCA86420
theorem kd {v:Value}(h:YU v=true):v=.none:=by cases v<;>first | rfl | cases h
theorem yu:∀ {k:Key} {v:Value},kj k v=true->(∃ i t,k=Key.inl i/\v=Value.int i t)\/(∃ x t,k=Key.inr x/\v=Value.str x t)\/(k=Key.non/\v=Value.none)
 | .inl i,v,h=>by
  obtain ⟨t,e⟩:=Value.isInt_shape (k:=i) (v:=v) h
  exact .inl ⟨i,t,rfl,e⟩
 | .inr x,v,h=>by
  obtain ⟨t,e⟩:=Value.isStrOf_shape (x:=x) (v:=v) h
  exact .inr (.inl ⟨x,t,rfl,e⟩)
 | .non,v,h=>.inr (.inr ⟨rfl,kd h⟩)
theorem W0 (i:Int)(t:Tok):kj (.inl i) (.int i t)=true:=by simp [kj,Value.isInt]
theorem XT (x:Str)(t:Tok):kj (.inr x) (.str x t)=true:=by simp [kj,Value.isStrOf]
theorem QM (a b:Int):decide (Key.inl a=Key.inl b)=(a==b):=by
 by_cases e:a=b
 ·subst e; simp
 ·have h:¬ Key.inl a=Key.inl b:=fun q=>e (Key.inl.inj q)
  rw [decide_eq_false h]
  exact (beq_eq_false_iff_ne.mpr e).symm
theorem Jw (a b:Str):decide (Key.inr a=Key.inr b)=decide (a=b):=by
 by_cases e:a=b
 ·subst e; simp
 ·have h:¬ Key.inr a=Key.inr b:=fun q=>e (Key.inr.inj q)
  rw [decide_eq_false h,decide_eq_false e]
theorem slot_none_hash:Slot "NoneType" "__hash__" "NoneType.__hash__" :=
 .of (owner:="NoneType") (n:="__hash__") (by rw [typeLookup_type]; rw [builtinLookup_eq_fast]; kernel_rfl) (by decide +kernel) (by decide +kernel) (by decide +kernel)
  (by first | exact .inl (by decide +kernel) | exact .inr (by decide +kernel)) (by rw [isSubtype_type] ; kernel_rfl)
theorem qN:entryFor table "NoneType.__hash__"=some Builtin.«NoneType.__hash__»:=entryFor_of_fast (by kernel_rfl)
theorem jK (a:Value):argsOk "NoneType.__hash__" ⟨[a],[]⟩:=by unfold argsOk; kernel_rfl
theorem Xq {prog:Program}{w:World}{A:Around}{E:Value->Shared->Prop}{s:Shared}{Q:Int->Shared->Prop}(h:Q 0xFCA86420 { s with toks:=s.toks+1 }):wpAny (model prog w) A (pyHash .none) Q E s:=by
 have hT:s.TypeIs .none "NoneType":=rfl
 show wpAny _ _ (pyHashByItsType .none) Q E s
 unfold pyHashByItsType
 refine wpAny_bind ?_
 rw [cRoomFor,if_neg (by decide)]
 refine wpAny_pure (wpAny_bind (wpAny_specialOf hT slot_none_hash.lookup ?_))
 rw [if_neg (by decide)]
 refine wpAny_bind (wpAny_specialOf hT slot_none_hash.lookup ?_)
 rw [if_neg (by decide)]
 refine wpAny_bind (wpAny_callSpecialIfBoundUnlessNone?_slot hT slot_none_hash (wpAny_call_entry slot_none_hash hT qN ?_ (jK _)))
 show wpAny _ _ (do ret (<- mkInt 0xFCA86420)) _ _ s
 refine wpAny_ret_mkInt ?_
 show wpAny _ _ (pyHashByItsType.reduced 0xFCA86420) Q E _
 unfold pyHashByItsType.reduced
 rw [if_pos (by decide)]
 exact wpAny_pure h
def xn (prog:Program)(w:World):PySem.KeyKind prog w Key where
 is:=kj
 hash:=z0x w
 inj:=fun v a b ha hb=>by
  rcases yu ha with ⟨i,t,rfl,rfl⟩ | ⟨x,t,rfl,rfl⟩ | ⟨rfl,rfl⟩
  ·rcases yu hb with ⟨j,u,rfl,e⟩ | ⟨y,u,rfl,e⟩ | ⟨rfl,e⟩
   ·injection e with e1 _; rw [e1]
   ·exact nomatch e
   ·exact nomatch e
  ·rcases yu hb with ⟨j,u,rfl,e⟩ | ⟨y,u,rfl,e⟩ | ⟨rfl,e⟩
   ·exact nomatch e
   ·injection e with e1 _; rw [e1]
   ·exact nomatch e
  ·rcases yu hb with ⟨j,u,rfl,e⟩ | ⟨y,u,rfl,e⟩ | ⟨rfl,e⟩
   ·exact nomatch e
   ·exact nomatch e
   ·rfl
 byValue:=fun k v h=>by
  rcases yu h with ⟨i,t,rfl,rfl⟩ | ⟨x,t,rfl,rfl⟩ | ⟨rfl,rfl⟩<;>rfl
 pyHash:=fun hv h=>by
  rcases yu hv with ⟨i,t,rfl,rfl⟩ | ⟨x,t,rfl,rfl⟩ | ⟨rfl,rfl⟩
  ·exact wpAny_pyHash_int h
  ·exact wpAny_pyHash_str h
  ·exact Xq h
 eqBool:=fun hu hv h=>by
  rcases yu hu with ⟨i,t,rfl,rfl⟩ | ⟨x,t,rfl,rfl⟩ | ⟨rfl,rfl⟩
  ·rcases yu hv with ⟨j,u,rfl,rfl⟩ | ⟨y,u,rfl,rfl⟩ | ⟨rfl,rfl⟩
   ·rw [QM] at h; exact wpAny_eqBool_int h
   ·rw [decide_eq_false (by intro q; cases q)] at h; exact SeqAt.EqAt.int_str i t y u _ _ _ _ h
   ·rw [decide_eq_false (by intro q; cases q)] at h; exact SeqAt.EqAt.int_none i t _ _ _ _ h
  ·rcases yu hv with ⟨j,u,rfl,rfl⟩ | ⟨y,u,rfl,rfl⟩ | ⟨rfl,rfl⟩
   ·rw [decide_eq_false (by intro q; cases q)] at h; exact SeqAt.EqAt.str_int x t j u _ _ _ _ h
   ·rw [Jw] at h; exact wpAny_eqBool_str h
   ·rw [decide_eq_false (by intro q; cases q)] at h; exact SeqAt.EqAt.str_none x t _ _ _ _ h
  ·rcases yu hv with ⟨j,u,rfl,rfl⟩ | ⟨y,u,rfl,rfl⟩ | ⟨rfl,rfl⟩
   ·rw [decide_eq_false (by intro q; cases q)] at h; exact SeqAt.EqAt.none_int j u _ _ _ _ h
   ·rw [decide_eq_false (by intro q; cases q)] at h; exact SeqAt.EqAt.none_str y u _ _ _ _ h
   ·rw [decide_eq_true rfl] at h; exact SeqAt.EqAt.same .none _ _ _ _ h
 «strs»:=fun k x t v h=>by
  rcases yu h with ⟨i,u,rfl,e⟩ | ⟨y,u,rfl,e⟩ | ⟨rfl,e⟩
  ·exact nomatch e
  ·injection e with e1 _
   subst e1
   cases v<;>rfl
  ·exact nomatch e
theorem ZZ (prog:Program)(w:World)(i:Int)(t:Tok):(xn prog w).is (.inl i) (.int i t)=true:=W0 i t
theorem Y0 (prog:Program)(w:World)(x:Str)(t:Tok):(xn prog w).is (.inr x) (.str x t)=true:=XT x t
theorem ZQ (prog:Program)(w:World):(xn prog w).is .non .none=true:=rfl
inductive V where
 | non | bl (b:Bool) | int (i:Int) | str (x:Str) | byt (b:Array UInt8) | flt (b:UInt64) | ref (a:Addr) | ty (n:String)
 deriving DecidableEq
def RelV:V->Value->Prop
 | .non,u=>u=Value.none
 | .bl b,u=>u=Value.bool b
 | .int i,u=>∃ t,u=Value.int i t
 | .str x,u=>∃ t,u=Value.str x t
 | .byt b,u=>∃ t,u=Value.bytes b t
 | .flt b,u=>∃ t,u=Value.float b t
 | .ref a,u=>u=Value.ref a
 | .ty n,u=>u=Value.type n
abbrev Vals:List V->List Value->Prop:=Paired RelV
theorem Vals.length {xs:List V}{us:List Value}(r:Vals xs us):xs.length=us.length:=Paired.length r
theorem Vals.get:∀ {xs:List V} {us:List Value} {i:Nat} {x:V},Vals xs us->xs[i]?=some x->∃ u,us[i]?=some u/\RelV x u
 | _,_,_,_,.nil,e=>by simp at e
 | _,_,0,_,.cons r _,e=>by simp at e; subst e; exact ⟨_,rfl,r⟩
 | _,_,i+1,x,.cons _ t,e=>by
  obtain ⟨u,h1,h2⟩:=Vals.get (i:=i) (x:=x) t (by simpa using e)
  exact ⟨u,by simpa using h1,h2⟩
theorem Vals.set {x:V}{u:Value}(r:RelV x u):∀ {xs:List V} {us:List Value} (i:Nat),Vals xs us->Vals (xs.set i x) (us.set i u)
 | _,_,_,.nil=>.nil
 | _,_,0,.cons _ t=>.cons r t
 | _,_,i+1,.cons q t=>.cons q (Vals.set r i t)
theorem Vals.append:∀ {xs ys:List V} {us ws:List Value},Vals xs us->Vals ys ws->Vals (xs++ys) (us++ws)
 | _,_,_,_,.nil,s=>s
 | _,_,_,_,.cons r t,s=>.cons r (Vals.append t s)
theorem Vals.take:∀ {xs:List V} {us:List Value} (n:Nat),Vals xs us->Vals (xs.take n) (us.take n)
 | _,_,0,_=>.nil
 | _,_,_+1,.nil=>.nil
 | _,_,n+1,.cons r t=>.cons r (Vals.take n t)
theorem Vals.drop:∀ {xs:List V} {us:List Value} (n:Nat),Vals xs us->Vals (xs.drop n) (us.drop n)
 | _,_,0,r=>r
 | _,_,_+1,.nil=>.nil
 | _,_,n+1,.cons _ t=>Vals.drop n t
def RelO:Option V->Option Value->Prop
 | some v,some u=>RelV v u
 | none,none=>True
 | _,_=>False
def KV {κ:Type}:List (κ×V)->List (κ×Value)->Prop:=Paired fun (p:κ×V) (q:κ×Value)=>p.1=q.1/\RelV p.2 q.2
def kV:Key->V
 | .inl i=>.int i
 | .inr x=>.str x
 | .non=>.non
def TupN (h:Heap)(a:Addr)(items:Array Value):Prop:=∃ o,h.get? a=some o/\o.cls=.type "tuple"/\(o.dict=none/\o.slots=#[])/\∃ n,o.data=.seq items n
theorem TupN.tup {h:Heap}{a:Addr}{items:Array Value}(x:TupN h a items):IsTup h a items:=let ⟨o,ho,hc,_,n,hd⟩:=x; ⟨o,ho,hc,n,hd⟩
theorem TupN.lt {h:Heap}{a:Addr}{items:Array Value}(x:TupN h a items):a<h.objs.size:=x.tup.lt
theorem TupN.new (h:Heap)(items:Array Value):TupN (h.push { cls:=.type "tuple",data:=.seq items }) h.objs.size items:=⟨_,Heap.get?_push_size _ rfl,rfl,⟨rfl,rfl⟩,_,rfl⟩
inductive HO where
  | lst (xs:List V)
  | tup (xs:List V)
  | dK (kvs:List (Key×V)) | dT (kvs:List (List Key×V))
  | set (S:Int->Bool) (n:Nat)
  | ins (C dx:Addr) (fs:List (Str×V))
  | own (x:Addr)
  | xd (fs:List (Str×V))
  | met (f x:Addr)
  | rng (lo hi:Int)
  | frz (o:Obj) (u:HO)
  | tbl (ps:Array Value)
  | ext (φ:Heap->Prop)
abbrev Hp:=Addr->Option HO
def upd (H:Hp)(a:Addr)(o:HO):Hp:=fun b=>if b=a then some o else H b
theorem yb {H:Hp}{a:Addr}{o:HO}:upd H a o a=some o:=by unfold upd; rw [if_pos rfl]
theorem yq {H:Hp}{a b:Addr}{o:HO}(h:b≠a):upd H a o b=H b:=by unfold upd; rw [if_neg h]
theorem yC {H:Hp}{a b:Addr}{o:HO}(h:H a=some o)(h':H b=none):a≠b:=by
 intro e; subst e; rw [h] at h'; cases h'
section
variable (P:Program)(w:World)
def ObjOk (H:Hp)(h:Heap)(a:Addr):HO->Prop
 | .lst xs=>xs.length<=sizeLine/\∃ (its:List Value) (n:Nat),Vals xs its/\h.get? a=some { cls:=.type "list",data:=.seq its.toArray n }
 | .tup xs=>xs.length<=sizeLine/\∃ its:List Value,Vals xs its/\TupN h a its.toArray
 | .dK kvs=>kvs.length<=sizeLine/\(a==sysModules)=false/\∃ vs,KV kvs vs/\h.DictOf (xn P w) a vs
 | .dT kvs=>kvs.length<=sizeLine/\(a==sysModules)=false/\∃ xs:List (List Key×Addr×Value),
   Paired (fun (p:List Key×V) (q:List Key×Addr×Value)=>p.1=q.1/\H q.2.1=some (.tup (p.1.map kV))/\RelV p.2 q.2.2) kvs xs /\
   ∃ o es ep,h.get? a=some o/\o.ExactDict/\o.data=.dict es ep/\es.toList=xs.map (entryOfKey (tupleKind (xn P w)))/\(xs.map (·.1)).Nodup
 | .set S n=>h.SetOf (intKind P w) a S n
 | .ins C dx fs=>H dx=some (.own a)/\fs.length<=1000/\dx≠a/\h.get? a=some (PySem.W.instObj C dx) /\
   ∃ mA,h.Ns1 dx mA/\(∀ f,RelO (fs.lookup f) (mA f))/\PySem.Within mA (fs.map (·.1))
 | .own _=>∃ o,h.get? a=some o
 | .xd fs=>∃ mA,h.Ns1 a mA/\∀ f,RelO (fs.lookup f) (mA f)
 | .rng lo hi=>∃ t u v,h.get? a=some { cls:=.type "range",data:=.fields #[.int lo t,.int hi u,.int 1 v] }
 | .frz o u=>h.get? a=some o/\ObjOk H h a u
 | .tbl ps=>h.get? a=some { cls:=.none,data:=.fields ps }
 | .met f x=>h.get? a=some (PySem.W.methodObj (.ref f) (.ref x))
 | .ext φ=>φ h/\(∃ o,h.get? a=some o)/\∀ h1 h2:Heap,φ h1->(∀ o,h1.get? a=some o->h2.get? a=some o)->φ h2
def HOk (H:Hp)(h:Heap):Prop:=∀ a o,H a=some o->ObjOk P w H h a o
end
section
variable {P:Program}{w:World}{H H':Hp}{h h':Heap}{a:Addr}{o:HO}
theorem ObjOk.lt (x:ObjOk P w H h a o):a<h.objs.size:=by
 cases o with
 | lst xs=>obtain ⟨_,_,_,_,e⟩:=x; exact Heap.lt_size e
 | tup xs=>obtain ⟨_,_,_,p⟩:=x; exact p.lt
 | dK kvs=>obtain ⟨_,_,_,_,o,_,_,e,_⟩:=x; exact Heap.lt_size e
 | dT kvs=>obtain ⟨_,_,_,_,o,_,_,e,_⟩:=x; exact Heap.lt_size e
 | set S n=>obtain ⟨o,_,_,_,e,_⟩:=x; exact Heap.lt_size e
 | ins C dx fs=>obtain ⟨_,_,_,e,_⟩:=x; exact Heap.lt_size e
 | own y=>obtain ⟨_,e⟩:=x; exact Heap.lt_size e
 | xd fs=>obtain ⟨_,⟨_,_,_,e,_⟩,_⟩:=x; exact Heap.lt_size e
 | rng lo hi=>obtain ⟨_,_,_,e⟩:=x; exact Heap.lt_size e
 | frz ob u=>obtain ⟨e,_⟩:=x; exact Heap.lt_size e
 | tbl ps=>exact Heap.lt_size (show h.get? a=some _ from x)
 | met f y=>exact Heap.lt_size (show h.get? a=some _ from x)
 | ext φ=>obtain ⟨_,⟨_,e⟩,_⟩:=x; exact Heap.lt_size e
theorem Paired.mapP {α β:Type}{F G:α->β->Prop}:∀ {l₁:List α} {l₂:List β},Paired F l₁ l₂->(∀ a b,F a b->G a b)->Paired G l₁ l₂
 | _,_,.nil,_=>.nil
 | _,_,.cons r t,f=>.cons (f _ _ r) (Paired.mapP t f)
theorem ObjOk.stay (x:ObjOk P w H h a o)(k:∀ b u,(b=a\/H b=some (.own a))->h.get? b=some u->h'.get? b=some u)
  (ho:∀ b,H b=some (.own a)->H' b=some (.own a)) (ht:∀ b xs,H b=some (.tup xs)->H' b=some (.tup xs)):ObjOk P w H' h' a o:=by
 induction o with
 | lst xs=>obtain ⟨z,its,n,r,e⟩:=x; exact ⟨z,its,n,r,k _ _ (.inl rfl) e⟩
 | tup xs=>obtain ⟨z,its,r,ob,e,c⟩:=x; exact ⟨z,its,r,ob,k _ _ (.inl rfl) e,c⟩
 | dK kvs=>obtain ⟨z,y,vs,r,ob,es,ep,e,c⟩:=x; exact ⟨z,y,vs,r,ob,es,ep,k _ _ (.inl rfl) e,c⟩
 | dT kvs =>
  obtain ⟨z,y,xs,r,ob,es,ep,e,c⟩:=x
  exact ⟨z,y,xs,Paired.mapP r fun p q z=>⟨z.1,ht _ _ z.2.1,z.2.2⟩,ob,es,ep,k _ _ (.inl rfl) e,c⟩
 | set S n=>obtain ⟨ob,es,ep,t,e,c⟩:=x; exact ⟨ob,es,ep,t,k _ _ (.inl rfl) e,c⟩
 | ins C dx fs =>
  obtain ⟨d,z,ne,e,mA,⟨od,es,ep,e2,c⟩,r⟩:=x
  exact ⟨ho _ d,z,ne,k _ _ (.inl rfl) e,mA,⟨od,es,ep,k _ _ (.inr d) e2,c⟩,r⟩
 | own y=>obtain ⟨ob,e⟩:=x; exact ⟨ob,k _ _ (.inl rfl) e⟩
 | xd fs=>obtain ⟨mA,⟨od,es,ep,e,c⟩,r⟩:=x; exact ⟨mA,⟨od,es,ep,k _ _ (.inl rfl) e,c⟩,r⟩
 | rng lo hi=>obtain ⟨t,u,v,e⟩:=x; exact ⟨t,u,v,k _ _ (.inl rfl) e⟩
 | frz ob u ih=>obtain ⟨e,q⟩:=x; exact ⟨k _ _ (.inl rfl) e,ih q⟩
 | tbl ps =>
  have e:h.get? a=some { cls:=.none,data:=.fields ps }:=x
  show h'.get? a=some { cls:=.none,data:=.fields ps }
  exact k a _ (.inl rfl) e
 | met f y =>
  have e:h.get? a=some (PySem.W.methodObj (.ref f) (.ref y)):=x
  show h'.get? a=some (PySem.W.methodObj (.ref f) (.ref y))
  exact k a _ (.inl rfl) e
 | ext φ=>obtain ⟨p,⟨o,e⟩,st⟩:=x; exact ⟨st _ _ p fun o q=>k _ _ (.inl rfl) q,⟨o,k _ _ (.inl rfl) e⟩,st⟩
theorem HOk.lt (x:HOk P w H h)(e:H a=some o):a<h.objs.size:=(x a o e).lt
theorem HOk.fresh (x:HOk P w H h)(e:h.objs.size<=a):H a=none:=by
 cases q:H a with
 | none=>rfl
 | some u=>exact absurd (sQ (x.lt q) e) (rW _)
theorem HOk.kept (x:HOk P w H h)(k:∀ b u,h.get? b=some u->h'.get? b=some u):HOk P w H h':=fun a o e =>
 (x a o e).stay (fun b u _ q=>k b u q) (fun _ q=>q) fun _ _ q=>q
theorem HOk.laid (x:HOk P w H h)(k:∀ b u,h.get? b=some u->h'.get? b=some u)(hp:h.objs.size<=a)(new:ObjOk P w (upd H a o) h' a o):HOk P w (upd H a o) h':=fun b u e=>by
 have hn:=x.fresh hp
 by_cases hb:b=a
 ·subst hb; rw [yb] at e; cases e; exact new
 ·rw [yq hb] at e
  exact (x b u e).stay (fun c v _ q=>k c v q) (fun c q=>by rw [yq (yC q hn)]; exact q) fun c xs q=>by rw [yq (yC q hn)]; exact q
end
def Rd (H:Hp)(a:Addr)(u:HO):Prop:=H a=some u\/∃ o,H a=some (.frz o u)
theorem Rd.of {H:Hp}{a:Addr}{u:HO}(h:H a=some u):Rd H a u:=.inl h
theorem Rd.ok {P:Program}{w:World}{H:Hp}{h:Heap}{a:Addr}{u:HO}(r:Rd H a u)(x:HOk P w H h):ObjOk P w H h a u:=by
 rcases r with r | ⟨o,r⟩
 ·exact x a u r
 ·obtain ⟨_,q⟩:=x a _ r
  exact q
def Mut:Option HO->Prop
 | some (.lst _)=>True
 | some (.dK _)=>True
 | some (.dT _)=>True
 | some (.set _ _)=>True
 | some (.ins _ _ _)=>True
 | some (.ext _)=>True
 | _=>False
section
variable {P:Program}{w:World}{H:Hp}{h h':Heap}{x e:Addr}{o':HO}
theorem HOk.write (ok:HOk P w H h)(mu:Mut (H x))(he:e=x\/H e=some (.own x))(k:∀ b u,b≠e->h.get? b=some u->h'.get? b=some u)(heo:∃ u,h'.get? e=some u)
  (new:ObjOk P w (upd H x o') h' x o'):HOk P w (upd H x o') h':=fun b u q=>by
 have nown:∀ c y,H c=some (.own y)->c≠x:=fun c y r z=>by subst z; rw [r] at mu; exact mu
 have ntup:∀ c xs,H c=some (.tup xs)->c≠x:=fun c xs r z=>by subst z; rw [r] at mu; exact mu
 by_cases hb:b=x
 ·subst hb; rw [yb] at q; cases q; exact new
 ·rw [yq hb] at q
  by_cases hbe:b=e
  ·have q':H b=some (.own x):=by
    rcases he with z | z
    ·exact absurd (hbe.trans z) hb
    ·rw [hbe]; exact z
   rw [q] at q'; cases q'
   obtain ⟨v,hv⟩:=heo
   exact ⟨v,by rw [hbe]; exact hv⟩
  ·refine (ok b u q).stay (fun c v hc r=>k c v ?_ r) (fun c r=>by rw [yq (nown c b r)]; exact r) fun c xs r=>by rw [yq (ntup c xs r)]; exact r
   rcases hc with rfl | hc
   ·exact hbe
   ·rintro rfl
    rcases he with z | z
    ·exact nown c b hc z
    ·rw [hc] at z; cases z; exact hb rfl
end
structure Un (fs ex:List Addr)(H H':Hp)(h h':Heap):Prop where
 keep:∀ b o,h.get? b=some o->H b=none->b∉fs->b∉ex->h'.get? b=some o
 slot:∀ b o,h.get? b=some o->H b=none->b∈fs->b∉ex->∃ sl,h'.get? b=some { o with slots:=sl }
 free:∀ b o,h.get? b=some o->H b=none->b∉ex->H' b=none
 there:∀ b o,h.get? b=some o->b∉ex->∃ o',h'.get? b=some o'
 tups:∀ b xs,H b=some (.tup xs)->H' b=some (.tup xs)
 frzs:∀ b o u,H b=some (.frz o u)->H' b=some (.frz o u)
 tbls:∀ b ps,H b=some (.tbl ps)->∃ more,H' b=some (.tbl (ps++more))
section
variable {fs fs' ex ex':List Addr}{H H1 H2:Hp}{h h1 h2 h':Heap}{a x e:Addr}{o:HO}
theorem Un.any (u:Un fs ex H H1 h h1){b:Addr}{ob:Obj}(q:h.get? b=some ob)(n:H b=none)(hx:b∉ex):∃ sl,h1.get? b=some { ob with slots:=sl }:=by
 by_cases hb:b∈fs
 ·exact u.slot b ob q n hb hx
 ·exact ⟨ob.slots,u.keep b ob q n hb hx⟩
theorem Un.trans (a:Un fs ex H H1 h h1)(b:Un fs ex H1 H2 h1 h2):Un fs ex H H2 h h2 where
 keep:=fun c ob q n hc hx=>b.keep c ob (a.keep c ob q n hc hx) (a.free c ob q n hx) hc hx
 slot:=fun c ob q n hc hx=>by
  obtain ⟨sl,e1⟩:=a.slot c ob q n hc hx
  obtain ⟨sl',e2⟩:=b.slot c _ e1 (a.free c ob q n hx) hc hx
  exact ⟨sl',e2⟩
 free:=fun c ob q n hx=>by
  obtain ⟨o',e1⟩:=a.there c ob q hx
  exact b.free c o' e1 (a.free c ob q n hx) hx
 there:=fun c ob q hx=>by
  obtain ⟨o',e1⟩:=a.there c ob q hx
  exact b.there c o' e1 hx
 tups:=fun c xs q=>b.tups c xs (a.tups c xs q)
 frzs:=fun c ob xs q=>b.frzs c ob xs (a.frzs c ob xs q)
 tbls:=fun c ps q=>by
  obtain ⟨m1,e1⟩:=a.tbls c ps q
  obtain ⟨m2,e2⟩:=b.tbls c _ e1
  exact ⟨m1++m2,by rw [e2,Array.append_assoc]⟩
theorem Un.kept (k:∀ b u,h.get? b=some u->h'.get? b=some u):Un fs ex H H h h' :=
 ⟨fun b ob q _ _ _=>k b ob q,fun b ob q _ _ _=>⟨ob.slots,k b ob q⟩,fun _ _ _ n _=>n,fun b ob q _=>⟨ob,k b ob q⟩,fun _ _ q=>q,fun _ _ _ q=>q,fun _ ps q=>⟨#[],by rw [q]; simp⟩⟩
theorem Un.refl:Un fs ex H H h h:=Un.kept fun _ _ q=>q
theorem Un.laid (k:∀ b u,h.get? b=some u->h'.get? b=some u)(hp:h.objs.size<=a)(hn:H a=none):Un fs ex H (upd H a o) h h' where
 keep:=fun b u q _ _ _=>k b u q
 slot:=fun b u q _ _ _=>⟨u.slots,k b u q⟩
 free:=fun b u q n _=>by rw [yq (sW (sQ (Heap.lt_size q) hp))]; exact n
 there:=fun b u q _=>⟨u,k b u q⟩
 tups:=fun b xs q=>by rw [yq (yC q hn)]; exact q
 frzs:=fun b u xs q=>by rw [yq (yC q hn)]; exact q
 tbls:=fun b ps q=>⟨#[],by rw [yq (yC q hn),q]; simp⟩
theorem Un.write (mu:Mut (H x))(he:e=x\/H e=some (.own x))(k:∀ b u,b≠e->h.get? b=some u->h'.get? b=some u)(heo:∃ u,h'.get? e=some u):Un fs ex H (upd H x o) h h':=by
 have hx:∀ b,H b=none->b≠x:=fun b n z=>by subst z; rw [n] at mu; exact mu
 have hb:∀ b,H b=none->b≠e:=fun b n z=>by
  subst z
  rcases he with r | r
  ·exact hx b n r
  ·rw [n] at r; cases r
 have hm:∀ b u,H b=some u->¬ Mut (some u)->b≠x:=fun b u q nm z=>by subst z; rw [q] at mu; exact nm mu
 refine ⟨fun b u q n _ _=>k b u (hb b n) q,fun b u q n _ _=>⟨u.slots,k b u (hb b n) q⟩,fun b u q n _=>by rw [yq (hx b n)]; exact n,fun b u q _=>?_,
  fun b xs q=>by rw [yq (hm b _ q fun z=>z)]; exact q,fun b u xs q=>by rw [yq (hm b _ q fun z=>z)]; exact q,fun b ps q=>⟨#[],by rw [yq (hm b _ q fun z=>z),q]; simp⟩⟩
 by_cases hbe:b=e
 ·subst hbe; exact heo
 ·exact ⟨u,k b u hbe q⟩
theorem Un.mono (u:Un fs ex H H1 h h1)(hs:∀ b∈fs,b∈fs')(hx:∀ b∈ex,b∈ex'):Un fs' ex' H H1 h h1 :=
 ⟨fun b ob q n hb he=>u.keep b ob q n (fun z=>hb (hs b z)) fun z=>he (hx b z),fun _ _ q n _ he=>u.any q n fun z=>he (hx _ z),fun b ob q n he=>u.free b ob q n fun z=>he (hx b z),fun b ob q he=>u.there b ob q fun z=>he (hx b z),u.tups,u.frzs,u.tbls⟩
end
def trk (h:Heap)(H:Hp):List Addr:=(List.range h.objs.size).filter fun a=>(H a).isSome
def Zm (h:Heap)(H:Hp):Heap:=PySem.W.hideAll h (trk h H)
theorem Xx (h:Heap)(H:Hp):(Zm h H).objs.size=h.objs.size:=PySem.W.hideAll_size _ _
theorem V6 {h:Heap}{H:Hp}{b:Addr}{o:Obj}(e:h.get? b=some o)(n:H b=none):(Zm h H).get? b=some o :=
 PySem.W.hideAll_get _ e fun hm=>by
  have q:(H b).isSome=true:=(List.mem_filter.mp hm).2
  rw [n] at q; simp at q
theorem VJ {h:Heap}{H:Hp}{b:Addr}{o:Obj}(e:(Zm h H).get? b=some o):h.get? b=some o/\H b=none:=by
 have e':h.get? b=some o:=PySem.W.of_hideAll (trk h H) e
 refine ⟨e',?_⟩
 cases q:H b with
 | none=>rfl
 | some x =>
  have hm:b∈trk h H:=List.mem_filter.mpr ⟨rR.mpr (Heap.lt_size e'),by simp [q]⟩
  have z:(Zm h H).get? b=none:=PySem.W.hideAll_none (trk h H) hm
  rw [z] at e; cases e
def UI (g h:Heap)(L:Addr):List (Addr×Obj):=(List.range h.objs.size).filterMap fun a=>if a=L\/(g.get? a).isSome=true then none else (h.get? a).map fun o=>(a,o)
def rest (g h:Heap)(L d:Addr):List (Addr×Obj):=(UI g h L).filter fun p=>decide (p.1≠d)
structure Mod (K:PySem.W.Frag)(mg:Str->Option Value)(base:Heap):Prop where
 kin:K.In base
 glob:base.Ns mainGlobals mg
 blt:∃ mb,base.Ns builtinsNs mb/\∀ x:Str,x≠"__name__"->mb x=bootBuiltins x
 nolimit:base.NoLimit
structure Cx where
 prog:Program
 w:World
 K:PySem.W.Frag
 mg:Str->Option Value
 base:Heap
 A:Around
 N:List Str
 s₀:Shared
 H₀:Hp
 env:Env
 outer:List Env
 stack:List Env
 ex:List Addr
 fn:Str->Bool
 calm:Bool
 pn:List (Addr×Obj)
 xe:Value->Shared->Prop
def frs (l:List Env):List Addr:=l.filterMap (·.frame)
abbrev Cx.fs (X:Cx):List Addr:=frs X.outer
def Vis (sc:Scope)(x:Str):Prop:=sc.names.lookup x=some .local\/sc.names.lookup x=some .cell\/sc.names.lookup x=some .free
def Loc (sc:Scope)(x:Str):Prop:=sc.names.lookup x=some .local\/sc.names.lookup x=some .cell
def QI (env:Env)(h:Heap)(m:Str->Option Value)(x:Str)(u:Value):Prop :=
 (env.kindOf x=some .local/\m x=some u)\/((env.kindOf x=some .cell\/env.kindOf x=some .free)/\∃ c,env.cells.lookup x=some c/\h.IsCell c (some u))
structure Cx.Ok (X:Cx):Prop where
 mod:Mod X.K X.mg X.base
 kind:X.env.scope.kind=.function
 glob:X.env.globals=mainGlobals
 blt:X.env.builtins=builtinsNs
 above:X.s₀.heap.objs.size<=X.env.locals
 inj:∀ x y c,X.env.cells.lookup x=some c->X.env.cells.lookup y=some c->x=y
 has:∀ x,(X.env.kindOf x=some .cell\/X.env.kindOf x=some .free)->∃ c,X.env.cells.lookup x=some c
 cab:∀ x c,X.fn x=true->X.env.cells.lookup x=some c->X.s₀.heap.objs.size<=c
 hd:X.calm=true->X.A.handled=none
 frames:X.A.frames=some X.stack
 stk:X.stack=X.outer\/(X.stack=X.env::X.outer/\X.env.frame=some X.env.locals)
 exf:∀ b∈X.ex,b≠X.env.locals/\∀ x c,X.env.cells.lookup x=some c->c≠b
 bs:∀ b o,X.base.get? b=some o->X.s₀.heap.get? b=some o/\X.H₀ b=none
 bsz:X.base.objs.size<=X.s₀.heap.objs.size
 noex:∀ b o,X.base.get? b=some o->b∉X.ex
 exfs:∀ b∈X.ex,b∉X.fs
 funs:X.s₀.heap.FunFrames X.base X.outer
 frf:∀ b∈X.fs,X.H₀ b=none
structure Inv (X:Cx)(pins:List (Addr×Obj))(σ:List (Option V))(H:Hp)(s:Shared):Prop where
 ok:X.Ok
 os:s.os=X.s₀.os
 bare:AllBare s.gens
 base:Un X.fs X.ex X.H₀ H X.s₀.heap s.heap
 loc:∃ m,s.heap.Ns X.env.locals m/\∀ (i:Nat) (x:Str) (v:V),X.N[i]?=some x->σ[i]?=some (some v)->Vis X.env.scope x->∃ u,RelV v u/\QI X.env s.heap m x u
 cell:∀ x c,X.env.cells.lookup x=some c->∃ v,s.heap.IsCell c v
 free:H X.env.locals=none
 freeC:∀ x c,X.env.cells.lookup x=some c->H c=none
 pin:∀ p∈X.pn++pins,s.heap.get? p.1=some p.2/\H p.1=none/\p.1≠X.env.locals/\p.1∉X.fs/\∀ v,p.2.data≠.cell v
 hok:HOk X.prog X.w H s.heap
 len:σ.length=X.N.length
section
variable {X:Cx}{pins:List (Addr×Obj)}{σ:List (Option V)}{H H':Hp}{s:Shared}{h':Heap}
theorem Cx.Ok.nofr (ok:X.Ok){b:Addr}{o:Obj}(e:X.base.get? b=some o):b∉X.fs:=fun hb=>by
 have:=(ok.funs.mem hb).1
 rw [e] at this; cases this
theorem Inv.bs (I:Inv X pins σ H s):∀ b o,X.base.get? b=some o->s.heap.get? b=some o/\H b=none:=fun b o e =>
 ⟨I.base.keep b o (I.ok.bs b o e).1 (I.ok.bs b o e).2 (I.ok.nofr e) (I.ok.noex b o e),I.base.free b o (I.ok.bs b o e).1 (I.ok.bs b o e).2 (I.ok.noex b o e)⟩
theorem Inv.bk (I:Inv X pins σ H s):∀ b o,X.base.get? b=some o->s.heap.get? b=some o:=fun b o e=>(I.bs b o e).1
theorem Inv.mod (I:Inv X pins σ H s):Mod X.K X.mg X.base:=I.ok.mod
theorem Inv.kIn (I:Inv X pins σ H s):X.K.In s.heap:=I.ok.mod.kin.keeps I.bk
theorem Inv.nolimit (I:Inv X pins σ H s):s.heap.NoLimit:=I.ok.mod.nolimit.keeps I.bk
theorem Inv.fr (I:Inv X pins σ H s):∃ m,Fr X.base X.env.locals s.heap m :=
 let ⟨m,hn,_⟩:=I.loc
 ⟨m,hn,I.bk,rD I.ok.bsz I.ok.above⟩
theorem Inv.lt (I:Inv X pins σ H s):X.env.locals<s.heap.objs.size:=let ⟨_,hn,_⟩:=I.loc; hn.lt
theorem Inv.sz (I:Inv X pins σ H s):X.s₀.heap.objs.size<=s.heap.objs.size:=rD I.ok.above (Nat.le_of_lt I.lt)
theorem Inv.nofs (I:Inv X pins σ H s){a:Addr}(h:s.heap.objs.size<=a):a∉X.fs:=fun hb=>by
 obtain ⟨_,o,ho,_⟩:=I.ok.funs.mem hb
 exact absurd (sQ (Heap.lt_size ho) (rD I.sz h)) (rW _)
theorem Inv.cne (I:Inv X pins σ H s):∀ x c,X.env.cells.lookup x=some c->c≠X.env.locals:=fun x c e z=>by
 obtain ⟨v,o,ho,hd⟩:=I.cell x c e
 obtain ⟨m,⟨o',es,ep,ho',hd',_⟩,_⟩:=I.loc
 rw [z,ho'] at ho; cases ho; rw [hd'] at hd; cases hd
theorem Inv.funs (I:Inv X pins σ H s):s.heap.FunFrames X.base X.outer:=by
 have all:∀ (l:List Env),(∀ b∈frs l,b∈X.fs)->X.s₀.heap.FunFrames X.base l->s.heap.FunFrames X.base l:=by
  intro l
  induction l with
  | nil=>intro _ _; trivial
  | cons env r ih =>
   intro hs hl
   obtain ⟨hk,⟨L,o,hf,hn,ho,hd⟩,hr⟩:=hl
   have hL:L∈X.fs:=hs L (by unfold frs; rw [sZ,hf]; exact tY)
   obtain ⟨sl,e⟩:=I.base.slot L o ho (I.ok.frf L hL) hL fun z=>I.ok.exfs L z hL
   exact ⟨hk,⟨L,_,hf,hn,e,hd⟩,ih (fun b hb=>hs b (by unfold frs; rw [sZ,hf]; exact sA _ hb)) hr⟩
 exact all X.outer (fun _ hb=>hb) I.ok.funs
theorem Inv.stack (I:Inv X pins σ H s):s.heap.FunFrames X.base X.stack:=by
 rcases I.ok.stk with e | ⟨e,hf⟩
 ·rw [e]; exact I.funs
 ·rw [e]
  obtain ⟨m,hn,_⟩:=I.loc
  refine .cons (by rw [I.ok.kind]; decide) hf hn ?_ I.funs
  exact Heap.get?_none_of_le (rD I.ok.bsz I.ok.above)
theorem Inv.stkSub (I:Inv X pins σ H s):∀ b∈frs X.stack,b∈X.env.locals::X.fs:=fun b hb=>by
 rcases I.ok.stk with e | ⟨e,hf⟩
 ·rw [e] at hb; exact sA _ hb
 ·rw [e] at hb
  unfold frs at hb
  rw [sZ,hf] at hb
  exact hb
theorem Inv.stkFree (I:Inv X pins σ H s):∀ b∈frs X.stack,H b=none:=fun b hb=>by
 rcases sG.mp (I.stkSub b hb) with e | hb
 ·rw [e]; exact I.free
 ·obtain ⟨_,o,ho,_⟩:=I.ok.funs.mem hb
  exact I.base.free b o ho (I.ok.frf b hb) fun z=>I.ok.exfs b z hb
theorem Inv.step {g':Array GenState}{t':Nat}{d':Drawn}{ch:List Addr}(I:Inv X pins σ H s)
  (hch:∀ b∈ch,(b∈X.ex\/X.s₀.heap.objs.size<=b)/\b≠X.env.locals/\(∀ x c,X.env.cells.lookup x=some c->c≠b)/\∀ p∈X.pn++pins,p.1≠b)
  (keep:∀ b o,b≠X.env.locals->b∉X.fs->b∉ch->s.heap.get? b=some o->H b=none->h'.get? b=some o)
  (slot:∀ b o,b≠X.env.locals->b∈X.fs->b∉ch->s.heap.get? b=some o->H b=none->∃ sl,h'.get? b=some { o with slots:=sl }) (free:∀ b o,b∉ch->s.heap.get? b=some o->H b=none->H' b=none)
  (there:∀ b o,b∉ch->s.heap.get? b=some o->∃ o',h'.get? b=some o')
  (tups:∀ b xs,H b=some (.tup xs)->H' b=some (.tup xs)) (frzs:∀ b o u,H b=some (.frz o u)->H' b=some (.frz o u)) (tbls:∀ b ps,H b=some (.tbl ps)->∃ more,H' b=some (.tbl (ps++more)))
  (ns:∀ m,s.heap.Ns X.env.locals m->h'.Ns X.env.locals m) (hok:HOk X.prog X.w H' h') (hg:AllBare g') :
  Inv X pins σ H' { s with heap:=h',gens:=g',drawn:=d',toks:=t' }:=by
 have neL:∀ b o,X.s₀.heap.get? b=some o->b≠X.env.locals:=fun b o e=>sW (sQ (Heap.lt_size e) I.ok.above)
 have neC:∀ b o,X.s₀.heap.get? b=some o->b∉X.ex->b∉ch:=fun b o e hx hb=>by
  rcases (hch b hb).1 with z | z
  ·exact hx z
  ·exact absurd (sQ (Heap.lt_size e) z) (rW _)
 have cellK:∀ x c,X.env.cells.lookup x=some c->∀ v,s.heap.IsCell c v->h'.IsCell c v:=fun x c e v ⟨o,ho,hd⟩=>by
  have nch:c∉ch:=fun z=>(hch c z).2.2.1 x c e rfl
  by_cases hc:c∈X.fs
  ·obtain ⟨sl,q⟩:=slot c o (I.cne x c e) hc nch ho (I.freeC x c e)
   exact ⟨_,q,hd⟩
  ·exact ⟨o,keep c o (I.cne x c e) hc nch ho (I.freeC x c e),hd⟩
 refine ⟨I.ok,I.os,hg,⟨fun b o e n hb hx=>?_,fun b o e n hb hx=>?_,fun b o e n hx=>?_,fun b o e hx=>?_,fun b xs e=>tups b xs (I.base.tups b xs e),fun b o xs e=>frzs b o xs (I.base.frzs b o xs e),fun b ps e=>?_⟩,?_,fun x c e=>?_,?_,fun x c e=>?_,fun p hp=>?_,hok,I.len⟩
 ·exact keep b o (neL b o e) hb (neC b o e hx) (I.base.keep b o e n hb hx) (I.base.free b o e n hx)
 ·obtain ⟨sl,e1⟩:=I.base.slot b o e n hb hx
  obtain ⟨sl',e2⟩:=slot b _ (neL b o e) hb (neC b o e hx) e1 (I.base.free b o e n hx)
  exact ⟨sl',e2⟩
 ·obtain ⟨o',e1⟩:=I.base.there b o e hx
  exact free b o' (neC b o e hx) e1 (I.base.free b o e n hx)
 ·obtain ⟨o',e1⟩:=I.base.there b o e hx
  exact there b o' (neC b o e hx) e1
 ·obtain ⟨m1,e1⟩:=I.base.tbls b ps e
  obtain ⟨m2,e2⟩:=tbls b _ e1
  exact ⟨m1++m2,by rw [e2,Array.append_assoc]⟩
 ·obtain ⟨m,hn,hl⟩:=I.loc
  refine ⟨m,ns m hn,fun i x v e1 e2 e3=>?_⟩
  obtain ⟨u,r,l⟩:=hl i x v e1 e2 e3
  refine ⟨u,r,?_⟩
  rcases l with l | ⟨k,c,e,z⟩
  ·exact .inl l
  ·exact .inr ⟨k,c,e,cellK x c e _ z⟩
 ·obtain ⟨v,z⟩:=I.cell x c e
  exact ⟨v,cellK x c e v z⟩
 ·obtain ⟨m,⟨o,_,_,ho,_⟩,_⟩:=I.loc
  exact free _ o (fun z=>(hch _ z).2.1 rfl) ho I.free
 ·obtain ⟨v,o,ho,hd⟩:=I.cell x c e
  exact free c o (fun z=>(hch c z).2.2.1 x c e rfl) ho (I.freeC x c e)
 ·obtain ⟨e,n,ne,nf,d⟩:=I.pin p hp
  have nch:p.1∉ch:=fun z=>(hch p.1 z).2.2.2 p hp rfl
  exact ⟨keep p.1 p.2 ne nf nch e n,free p.1 p.2 nch e n,ne,nf,d⟩
theorem Inv.un {t':Nat}(I:Inv X pins σ H s)(u:Un X.fs [] H H' s.heap h')(hok:HOk X.prog X.w H' h'):Inv X pins σ H' { s with heap:=h',toks:=t' }:=by
 obtain ⟨m,⟨o,es,ep,ho,r⟩,_⟩:=id I.loc
 obtain ⟨sl,hL⟩:=u.any ho I.free (by simp)
 exact I.step (g':=s.gens) (d':=s.drawn) (ch:=[]) (fun _ z=>nomatch z) (fun b o _ hb _ e n=>u.keep b o e n hb (by simp)) (fun b o _ hb _ e n=>u.slot b o e n hb (by simp)) (fun b o _ e n=>u.free b o e n (by simp)) (fun b o _ e=>u.there b o e (by simp)) u.tups u.frzs u.tbls (fun m' hm=>by
  obtain ⟨o',es',ep',ho',r'⟩:=hm
  rw [ho] at ho'; cases ho'
  exact ⟨_,es',ep',hL,r'⟩) hok I.bare
theorem Inv.call {g':Array GenState}{t':Nat}{d':Drawn}{ch:List Addr}(I:Inv X pins σ H s)(u:Un (frs X.stack) ch H H' s.heap h')(hok:HOk X.prog X.w H' h')(hg:AllBare g')
  (hch:∀ b∈ch,(b∈X.ex\/X.s₀.heap.objs.size<=b)/\b≠X.env.locals/\(∀ x c,X.env.cells.lookup x=some c->c≠b)/\∀ p∈X.pn++pins,p.1≠b) :
  Inv X pins σ H' { s with heap:=h',gens:=g',drawn:=d',toks:=t' }:=by
 obtain ⟨m,⟨o,es,ep,ho,r⟩,_⟩:=id I.loc
 obtain ⟨sl,hL⟩:=u.any ho I.free fun z=>(hch _ z).2.1 rfl
 exact I.step (ch:=ch) hch (fun b o hL hb hc e n=>u.keep b o e n (fun z=>(sG.mp (I.stkSub b z)).elim hL hb) hc) (fun b o _ _ hc e n=>u.any e n hc) (fun b o hc e n=>u.free b o e n hc) (fun b o hc e=>u.there b o e hc) u.tups u.frzs u.tbls (fun m' hm=>by
  obtain ⟨o',es',ep',ho',r'⟩:=hm
  rw [ho] at ho'; cases ho'
  exact ⟨_,es',ep',hL,r'⟩) hok hg
theorem Inv.turned {t':Nat}{it:Addr}(I:Inv X pins σ H s)(k:∀ b o,b≠it->s.heap.get? b=some o->h'.get? b=some o)(hn:H it=none)(hL:it≠X.env.locals)
  (h1:it∈X.ex\/X.s₀.heap.objs.size<=it) (h2:∀ x c,X.env.cells.lookup x=some c->c≠it) (h3:∀ p∈X.pn++pins,p.1≠it):Inv X pins σ H { s with heap:=h',toks:=t' }:=by
 have nit:∀ b u,H b=some u->b≠it:=fun b u e z=>by rw [z,hn] at e; cases e
 refine I.step (g':=s.gens) (d':=s.drawn) (ch:=[it]) (fun b hb=>?_) (fun b o _ _ hc e _=>k b o (fun z=>hc (by simp [z])) e) (fun b o _ _ hc e _=>⟨o.slots,k b o (fun z=>hc (by simp [z])) e⟩) (fun _ _ _ _ n=>n)
  (fun b o hc e=>⟨o,k b o (fun z=>hc (by simp [z])) e⟩) (fun _ _ e=>e) (fun _ _ _ e=>e) (fun b ps e=>⟨#[],by rw [e]; simp⟩) (fun m hm=>?_) (fun b u e=>?_) I.bare
 ·have e:b=it:=by simpa using hb
  subst e
  exact ⟨h1,hL,h2,h3⟩
 ·obtain ⟨o,es,ep,ho,r⟩:=hm
  exact ⟨o,es,ep,k _ o (Ne.symm hL) ho,r⟩
 ·refine (I.hok b u e).stay (fun c v hc q=>k c v ?_ q) (fun _ q=>q) fun _ _ q=>q
  rcases hc with z | z
  ·rw [z]; exact nit b u e
  ·exact nit c _ z
theorem Inv.tok (I:Inv X pins σ H s)(t:Nat):Inv X pins σ H { s with toks:=t }:=I.un (h':=s.heap) (t':=t) Un.refl I.hok
theorem Inv.kept {t':Nat}(I:Inv X pins σ H s)(k:∀ b u,s.heap.get? b=some u->h'.get? b=some u):Inv X pins σ H { s with heap:=h',toks:=t' }:=I.un (Un.kept k) (I.hok.kept k)
theorem Inv.laid {a:Addr}{o:HO}{t':Nat}(I:Inv X pins σ H s)(k:∀ b u,s.heap.get? b=some u->h'.get? b=some u)(hp:s.heap.objs.size<=a)(new:ObjOk X.prog X.w (upd H a o) h' a o) :
  Inv X pins σ (upd H a o) { s with heap:=h',toks:=t' }:=I.un (Un.laid k hp (I.hok.fresh hp)) (I.hok.laid k hp new)
theorem Inv.write {x e:Addr}{o:HO}{t':Nat}(I:Inv X pins σ H s)(mu:Mut (H x))(he:e=x\/H e=some (.own x))(k:∀ b u,b≠e->s.heap.get? b=some u->h'.get? b=some u)(heo:∃ u,h'.get? e=some u)
  (new:ObjOk X.prog X.w (upd H x o) h' x o):Inv X pins σ (upd H x o) { s with heap:=h',toks:=t' }:=I.un (Un.write mu he k heo) (I.hok.write mu he k heo new)
theorem Inv.weak {σ':List (Option V)}(I:Inv X pins σ H s)(hl:σ'.length=σ.length)(w:∀ (i:Nat) v,σ'[i]?=some (some v)->σ[i]?=some (some v)):Inv X pins σ' H s :=
 ⟨I.ok,I.os,I.bare,I.base,let ⟨m,hn,hl'⟩:=I.loc; ⟨m,hn,fun i x v e1 e2 e3=>hl' i x v e1 (w i v e2) e3⟩,I.cell,I.free,I.freeC,I.pin,I.hok,hl.trans I.len⟩
theorem Inv.pins_of {pins':List (Addr×Obj)}(I:Inv X pins σ H s)(h:∀ p∈pins',s.heap.get? p.1=some p.2/\H p.1=none/\p.1≠X.env.locals/\p.1∉X.fs/\∀ v,p.2.data≠.cell v):Inv X pins' σ H s :=
 ⟨I.ok,I.os,I.bare,I.base,I.loc,I.cell,I.free,I.freeC,fun p hp=>(sC.mp hp).elim (fun z=>I.pin p (tU _ z)) (h p),I.hok,I.len⟩
theorem jL {N:List Str}(hN:N.Nodup){i j:Nat}{x:Str}(a:N[i]?=some x)(b:N[j]?=some x):i=j:=by
 obtain ⟨h1,e1⟩:=sI.mp a
 obtain ⟨h2,e2⟩:=sI.mp b
 exact (List.getElem_inj hN).mp (e1.trans e2.symm)
theorem km {M:Model}{A:Around}{E:Value->Shared->Prop}{i:Nat}{x:Str}{v:V}{u:Value}{Q:Unit->Shared->Prop}(I:Inv X pins σ H s)(hN:X.N.Nodup)(hi:X.N[i]?=some x)(hx:Loc X.env.scope x)(r:RelV v u)
  (h:∀ s',Inv X pins (σ.set i (some v)) H s'->(∃ a,Heap.SameBut a s.heap s'.heap/\(a=X.env.locals\/X.env.cells.lookup x=some a))->Q () s') (hf:autoParam (X.fn x=true\/X.env.scope.names.lookup x=some .local) L2.au0._auto_1):wpAny M A (storeName X.env x u) Q E s:=by
 obtain ⟨m,hn,hl⟩:=id I.loc
 have hcls:(X.env.scope.kind==.class||(X.env.scope.kind==.module&&X.env.locals != X.env.globals))=false:=by rw [I.ok.kind]; rfl
 have hiσ:i<σ.length:=by rw [I.len]; exact (sI.mp hi).1
 have cne:=I.cne
 have tracked:∀ {a:Addr} {h':Heap},(∃ o,s.heap.get? a=some o/\H a=none)->Heap.SameBut a s.heap h'->HOk X.prog X.w H h':=fun {a h'} ha hs b ob e=>by
  obtain ⟨_,_,hfree⟩:=ha
  refine (I.hok b ob e).stay (fun c w' hc q=>(hs.2 c ?_).trans q) (fun _ q=>q) fun _ _ q=>q
  rintro rfl
  rcases hc with rfl | hc
  ·rw [hfree] at e; cases e
  ·rw [hfree] at hc; cases hc
 rcases hx with hk | hk
 ·refine wpAny_storeName_local hk hn (fun h' hn' hs=>?_) hcls
  obtain ⟨oL,_,_,hoL,_⟩:=id hn
  refine h _ ⟨I.ok,I.os,I.bare,⟨fun b o e n hb hx=>?_,fun b o e n hb hx=>?_,I.base.free,fun b o e hx=>?_,I.base.tups,I.base.frzs,I.base.tbls⟩,⟨_,hn',fun j y v' e1 e2 e3=>?_⟩,fun y c e=>?_,I.free,I.freeC,fun p hp=>?_,tracked ⟨oL,hoL,I.free⟩ hs,by simpa using I.len⟩ ⟨_,hs,.inl rfl⟩
  ·exact (hs.2 b (sW (sQ (Heap.lt_size e) I.ok.above))).trans (I.base.keep b o e n hb hx)
  ·obtain ⟨sl,e1⟩:=I.base.slot b o e n hb hx
   exact ⟨sl,(hs.2 b (sW (sQ (Heap.lt_size e) I.ok.above))).trans e1⟩
  ·obtain ⟨o',e1⟩:=I.base.there b o e hx
   exact ⟨o',(hs.2 b (sW (sQ (Heap.lt_size e) I.ok.above))).trans e1⟩
  ·by_cases hj:j=i
   ·subst hj
    rw [hi] at e1; cases e1
    rw [sN hiσ] at e2
    cases e2
    exact ⟨u,r,.inl ⟨hk,by simp⟩⟩
   ·rw [sM (Ne.symm hj)] at e2
    obtain ⟨u',r',q⟩:=hl j y v' e1 e2 e3
    refine ⟨u',r',?_⟩
    rcases q with ⟨k,e⟩ | ⟨k,c,e,z⟩
    ·refine .inl ⟨k,?_⟩
     have:y≠x:=fun e=>hj (jL hN e1 (e▸hi))
     simp [this,e]
    ·exact .inr ⟨k,c,e,z.sameBut hs (cne y c e)⟩
  ·obtain ⟨w',z⟩:=I.cell y c e
   exact ⟨w',z.sameBut hs (cne y c e)⟩
  ·obtain ⟨e,n,ne,nf,d⟩:=I.pin p hp
   exact ⟨(hs.2 p.1 ne).trans e,n,ne,nf,d⟩
 ·have hfn:X.fn x=true:=by
   rcases hf with z | z
   ·exact z
   ·rw [z] at hk; cases hk
  obtain ⟨c,hc⟩:=I.ok.has x (.inl hk)
  obtain ⟨w',z⟩:=I.cell x c hc
  refine wpAny_storeName_cell I.ok.kind hk hc z (fun h' hc' hs=>?_)
  obtain ⟨oc,hoc,hocd⟩:=id z
  refine h { s with heap:=h' } ⟨I.ok,I.os,I.bare,⟨fun b o e n hb hx=>?_,fun b o e n hb hx=>?_,I.base.free,fun b o e hx=>?_,I.base.tups,I.base.frzs,I.base.tbls⟩,⟨m,hn.sameBut hs (Ne.symm (cne x c hc)),fun j y v' e1 e2 e3=>?_⟩,fun y c' e=>?_,I.free,I.freeC,fun p hp=>?_,tracked ⟨oc,hoc,I.freeC x c hc⟩ hs,by simpa using I.len⟩ ⟨c,hs,.inr hc⟩
  ·exact (hs.2 b (sW (sQ (Heap.lt_size e) (I.ok.cab x c hfn hc)))).trans (I.base.keep b o e n hb hx)
  ·obtain ⟨sl,e1⟩:=I.base.slot b o e n hb hx
   exact ⟨sl,(hs.2 b (sW (sQ (Heap.lt_size e) (I.ok.cab x c hfn hc)))).trans e1⟩
  ·obtain ⟨o',e1⟩:=I.base.there b o e hx
   exact ⟨o',(hs.2 b (sW (sQ (Heap.lt_size e) (I.ok.cab x c hfn hc)))).trans e1⟩
  ·by_cases hj:j=i
   ·subst hj
    rw [hi] at e1; cases e1
    rw [sN hiσ] at e2
    cases e2
    exact ⟨u,r,.inr ⟨.inl hk,c,hc,hc'⟩⟩
   ·rw [sM (Ne.symm hj)] at e2
    obtain ⟨u',r',q⟩:=hl j y v' e1 e2 e3
    refine ⟨u',r',?_⟩
    rcases q with q | ⟨k,c',e,z'⟩
    ·exact .inl q
    ·refine .inr ⟨k,c',e,z'.sameBut hs ?_⟩
     rintro rfl
     exact hj (jL hN e1 (I.ok.inj _ _ _ e hc▸hi))
  ·by_cases hcc:c'=c
   ·subst hcc; exact ⟨_,hc'⟩
   ·obtain ⟨w2,z2⟩:=I.cell y c' e
    exact ⟨w2,z2.sameBut hs hcc⟩
  ·obtain ⟨e,n,ne,nf,d⟩:=I.pin p hp
   refine ⟨(hs.2 p.1 ?_).trans e,n,ne,nf,d⟩
   intro q
   rw [q,hoc] at e
   have q':oc=p.2:=Option.some.inj e
   exact d w' (by rw [<- q']; exact hocd)
theorem jn {M:Model}{A:Around}{E:Value->Shared->Prop}{i:Nat}{x:Str}{v:V}{u:Value}{Q:Unit->Shared->Prop}(I:Inv X pins σ H s)(hN:X.N.Nodup)(hi:X.N[i]?=some x)(hx:Loc X.env.scope x)(r:RelV v u)
  (h:∀ s',Inv X pins (σ.set i (some v)) H s'->Q () s') (hf:autoParam (X.fn x=true\/X.env.scope.names.lookup x=some .local) L2.au0._auto_1):wpAny M A (storeName X.env x u) Q E s :=
 km I hN hi hx r (fun s' I' _=>h s' I') hf
theorem Inv.call' {s':Shared}{ch:List Addr}(I:Inv X pins σ H s)(ho:s'.os=s.os)(u:Un (frs X.stack) ch H H' s.heap s'.heap)(hok:HOk X.prog X.w H' s'.heap)(hg:AllBare s'.gens)
  (hch:∀ b∈ch,(b∈X.ex\/X.s₀.heap.objs.size<=b)/\b≠X.env.locals/\(∀ x c,X.env.cells.lookup x=some c->c≠b)/\∀ p∈X.pn++pins,p.1≠b):Inv X pins σ H' s':=by
 obtain ⟨h',g',d',t',o'⟩:=s'
 have e:o'=s.os:=ho
 subst e
 exact I.call (g':=g') (t':=t') (d':=d') u hok hg hch
end
abbrev XK:=Value->Option Addr->Hp->Prop
abbrev St:=List (Option V)
abbrev VK:=V->Hp->Prop
abbrev TE:=St->Hp->VK->Prop
abbrev TT:=St->Hp->(Bool->Hp->Prop)->Prop
abbrev TA:=St->Hp->(List V->Hp->Prop)->Prop
structure Ends where
 nx:St->Hp->Prop
 rt:VK
 bk:St->Hp->Prop:=fun _ _=>False
 ct:St->Hp->Prop:=fun _ _=>False
abbrev TS:=Ends->St->Hp->Prop
def EP (X:Cx)(pins:List (Addr×Obj))(σ:St)(Q:VK)(u:Value)(s':Shared):Prop:=∃ v H',Inv X pins σ H' s'/\RelV v u/\Q v H'
def TP (X:Cx)(pins:List (Addr×Obj))(σ:St)(Q:Bool->Hp->Prop)(b:Bool)(s':Shared):Prop:=∃ H',Inv X pins σ H' s'/\Q b H'
def AP (X:Cx)(pins:List (Addr×Obj))(σ:St)(Q:List V->Hp->Prop)(us:List Value)(s':Shared):Prop:=∃ vs H',Inv X pins σ H' s'/\Vals vs us/\Q vs H'
def SP (X:Cx)(pins:List (Addr×Obj))(D:Ends)(f:Flow)(s':Shared):Prop :=
 match f with
 | .next=>∃ σ' H',Inv X pins σ' H' s'/\D.nx σ' H'
 | .brk=>∃ σ' H',Inv X pins σ' H' s'/\D.bk σ' H'
 | .cont=>∃ σ' H',Inv X pins σ' H' s'/\D.ct σ' H'
 | .ret u=>∃ v σ' H',Inv X pins σ' H' s'/\RelV v u/\D.rt v H'
def PE (X:Cx)(e:Expr)(t:TE):Prop :=
 ∀ (pins:List (Addr×Obj)) (s:Shared) (σ:St) (H:Hp) (Q:VK),Inv X pins σ H s->t σ H Q->wpAny (model X.prog X.w) X.A (eval e X.env) (EP X pins σ Q) X.xe s
def PT (X:Cx)(e:Expr)(t:TT):Prop :=
 ∀ (pins:List (Addr×Obj)) (s:Shared) (σ:St) (H:Hp) (Q:Bool->Hp->Prop),Inv X pins σ H s->t σ H Q->wpAny (model X.prog X.w) X.A (isTrue e X.env (eval e X.env)) (TP X pins σ Q) X.xe s
def PW (X:Cx)(e:Expr)(t:TT):Prop :=
 ∀ (whole:Sem Value) (pins:List (Addr×Obj)) (s:Shared) (σ:St) (H:Hp) (Q:Bool->Hp->Prop),Inv X pins σ H s->t σ H Q->wpAny (model X.prog X.w) X.A (isTrue e X.env whole) (TP X pins σ Q) X.xe s
theorem PW.pt {X:Cx}{e:Expr}{t:TT}(h:PW X e t):PT X e t:=h _
def PA (X:Cx)(es:List Expr)(t:TA):Prop :=
 ∀ (pos:Pos) (pins:List (Addr×Obj)) (s:Shared) (σ:St) (H:Hp) (Q:List V->Hp->Prop),Inv X pins σ H s->t σ H Q->wpAny (model X.prog X.w) X.A (spliced (backTo pos (starEach es X.env))) (AP X pins σ Q) X.xe s
def PS (X:Cx)(st:Stmt)(t:TS):Prop :=
 ∀ (pins:List (Addr×Obj)) (s:Shared) (σ:St) (H:Hp) (D:Ends),Inv X pins σ H s->t D σ H->wpAny (model X.prog X.w) X.A (exec st X.env) (SP X pins D) X.xe s
def PSs (X:Cx)(st:List Stmt)(t:TS):Prop :=
 ∀ (pins:List (Addr×Obj)) (s:Shared) (σ:St) (H:Hp) (D:Ends),Inv X pins σ H s->t D σ H->wpAny (model X.prog X.w) X.A (execs st X.env) (SP X pins D) X.xe s
theorem thn {α:Type}{t:Sem α}{Q Q':α->Shared->Prop}{M:Model}{A:Around}{E:Value->Shared->Prop}{s:Shared}(h:wpAny M A t Q E s)(hQ:∀ a s,Q a s->Q' a s):wpAny M A t Q' E s:=wpAny_mono h hQ fun _ _ x=>x
section
variable {X:Cx}
def Ub (i:Nat):TE:=fun σ H Q=>∃ v,σ[i]?=some (some v)/\Q v H
def tC (v:V):TE:=fun _ H Q=>Q v H
theorem jA {i:Nat}{x:Str}{pos:Pos}(hN:X.N[i]?=some x)(hv:Vis X.env.scope x)(hd:autoParam ((x==("__debug__":Str))=false) L2.au1._auto_1)(hcd:autoParam ((x==("__classdict__":Str))=false) L2.au1._auto_1):PE X (.Name x pos) (Ub i):=by
 intro pins s σ H Q I h
 obtain ⟨v,e,h⟩:=h
 obtain ⟨m,hn,hl⟩:=I.loc
 obtain ⟨u,r,l⟩:=hl i x v hN e hv
 have fin:EP X pins σ Q u s:=⟨v,H,I,r,h⟩
 rcases l with ⟨hk,hm⟩ | ⟨hk,c,hc,hcell⟩
 ·exact wpAny_Name (wpAny_loadName_local I.ok.kind hk hn hm fin) hd
 ·rcases hk with hk | hk
  ·exact wpAny_Name (wpAny_loadName_cell I.ok.kind hk hc hcell fin) hd
  ·exact wpAny_Name (wpAny_loadName_free I.ok.kind hk hc hcell fin hcd) hd
theorem Jp {i j pos}:PE X (.Constant (.int i) j pos) (tC (.int i)):=fun _ _ _ H _ I h=>wpAny_Constant_int ⟨.int i,H,I.tok _,⟨_,rfl⟩,h⟩
theorem Q7 {b j pos}:PE X (.Constant (.bool b) j pos) (tC (.bl b)):=fun _ _ _ H _ I h=>Constant_bool ⟨.bl b,H,I,rfl,h⟩
theorem QZ {j pos}:PE X (.Constant .none j pos) (tC .non):=fun _ _ _ H _ I h=>Constant_none ⟨.non,H,I,rfl,h⟩
theorem Jc {x j pos}:PE X (.Constant (.str x) j pos) (tC (.str x)):=fun _ _ _ H _ I h=>Calls.Constant_str ⟨.str x,H,I.tok _,⟨_,rfl⟩,h⟩
def Gl (X:Cx)(x:Str):Prop:=X.env.kindOf x=some .globalImplicit
theorem ua {E:Value->Shared->Prop}{pins:List (Addr×Obj)}{s:Shared}{σ:St}{H:Hp}{x:Str}{u:Value}{pos:Pos}{Q:Value->Shared->Prop}(I:Inv X pins σ H s)(hg:Gl X x)(hm:X.mg x=some u)(h:Q u s)
  (hd:autoParam ((x==("__debug__":Str))=false) L2.au1._auto_1):wpAny (model X.prog X.w) X.A (eval (.Name x pos) X.env) Q E s :=
 Calls.Name_function_global I.ok.kind hg (Calls.loadGlobal_global (by rw [I.ok.glob]; exact I.mod.glob.keeps I.bk) hm h) hd
theorem Z0 {E:Value->Shared->Prop}{pins:List (Addr×Obj)}{s:Shared}{σ:St}{H:Hp}{x:Str}{u:Value}{pos:Pos}{Q:Value->Shared->Prop}(I:Inv X pins σ H s)(hg:Gl X x)(hm:X.mg x=none)(hv:bootBuiltins x=some u)(h:Q u s)
  (hn:autoParam (x≠"__name__") L2.au1._auto_1) (hd:autoParam ((x==("__debug__":Str))=false) L2.au1._auto_1):wpAny (model X.prog X.w) X.A (eval (.Name x pos) X.env) Q E s:=by
 obtain ⟨mb,h1,h2⟩:=I.mod.blt
 exact Calls.Name_function_global I.ok.kind hg (Calls.loadGlobal_builtin (by rw [I.ok.glob]; exact I.mod.glob.keeps I.bk) hm (by rw [I.ok.blt]; exact h1.keeps I.bk) ((h2 x hn).trans hv) h) hd
theorem xu {x:Str}{v:V}{u:Value}{pos:Pos}(hg:Gl X x)(hm:X.mg x=some u)(r:RelV v u)(hd:autoParam ((x==("__debug__":Str))=false) L2.au1._auto_1):PE X (.Name x pos) (tC v) :=
 fun _ _ _ H _ I h=>ua I hg hm ⟨v,H,I,r,h⟩ hd
theorem xA {x:Str}{v:V}{u:Value}{pos:Pos}(hg:Gl X x)(hm:X.mg x=none)(hv:bootBuiltins x=some u)(r:RelV v u)(hn:autoParam (x≠"__name__") L2.au1._auto_1)(hd:autoParam ((x==("__debug__":Str))=false) L2.au1._auto_1):PE X (.Name x pos) (tC v) :=
 fun _ _ _ H _ I h=>Z0 I hg hm hv ⟨v,H,I,r,h⟩ hn hd
variable {a b:Expr}{ta tb:TE}{pos:Pos}
def tB (t:TE):TT:=fun σ H Q=>t σ H fun x H1=>∃ c,x=.bl c/\Q c H1
theorem Wv {e:Expr}{t:TE}(h:PE X e t)(he:autoParam (∀ whole,isTrue e X.env whole=(do let v <- whole; standAt e.pos; holding [v] (truthy v))) L2.au2._auto_1):PT X e (tB t):=by
 intro pins s σ H Q I hw
 refine isTrue_plain (thn (h pins s σ H _ I hw) fun v s1 ⟨x,H1,I1,r1,q1⟩=>?_) (he _)
 obtain ⟨d,rfl,q⟩:=q1
 cases r1
 exact wpAny_truthy_bool ⟨H1,I1,q⟩
variable {tA tB':TT}{rest:List Expr}
def KN (t u:TT):TT:=fun σ H Q=>t σ H fun c H1=>if c=true then u σ H1 Q else Q false H1
def tOr (t u:TT):TT:=fun σ H Q=>t σ H fun c H1=>if c=true then Q true H1 else u σ H1 Q
def z07 (t:TT):TT:=fun σ H Q=>t σ H fun c H1=>Q (!c) H1
theorem UJ (ha:PT X a tA):PW X (.BoolOp .And [a] pos) tA:=by
 intro wh pins s σ H Q I h
 refine isTrue_and (thn (ha pins s σ H Q I h) fun c s1 e=>?_)
 cases c with
 | true=>exact isTrue_and_nil e
 | false=>exact e
theorem Qq (ha:PT X a tA):PW X (.BoolOp .Or [a] pos) tA:=by
 intro wh pins s σ H Q I h
 refine isTrue_or (thn (ha pins s σ H Q I h) fun c s1 e=>?_)
 cases c with
 | false=>exact isTrue_or_nil e
 | true=>exact e
theorem JB (ha:PT X a tA)(hb:PW X (.BoolOp .And (b::rest) pos) tB'):PW X (.BoolOp .And (a::b::rest) pos) (KN tA tB'):=by
 intro wh pins s σ H Q I h
 refine isTrue_and (thn (ha pins s σ H _ I h) fun c s1 ⟨H1,I1,q1⟩=>?_)
 cases c with
 | true=>exact hb wh pins s1 σ H1 Q I1 q1
 | false=>exact ⟨H1,I1,q1⟩
theorem JO (ha:PT X a tA)(hb:PW X (.BoolOp .Or (b::rest) pos) tB'):PW X (.BoolOp .Or (a::b::rest) pos) (tOr tA tB'):=by
 intro wh pins s σ H Q I h
 refine isTrue_or (thn (ha pins s σ H _ I h) fun c s1 ⟨H1,I1,q1⟩=>?_)
 cases c with
 | true=>exact ⟨H1,I1,q1⟩
 | false=>exact hb wh pins s1 σ H1 Q I1 q1
theorem Jr (ha:PT X a tA):PT X (.UnaryOp .Not a pos) (z07 tA):=by
 intro pins s σ H Q I h
 exact isTrue_not (ha pins s σ H (fun c H1=>Q (!c) H1) I h)
def UX (ta tb:TE):TE:=fun σ H Q=>ta σ H fun x H1=>∃ c,x=.bl c/\if c=true then tb σ H1 Q else Q (.bl false) H1
def K2 (ta:TE):TE:=fun σ H Q=>ta σ H fun x H1=>∃ c,x=.bl c/\Q (.bl (!c)) H1
theorem WU {op}{t:TE}(h:PE X a t):PE X (.BoolOp op [a] pos) t:=fun pins s σ H Q I hw=>BoolOp_one (h pins s σ H Q I hw)
theorem Yz (ha:PE X a ta)(hb:PE X (.BoolOp .And (b::rest) pos) tb):PE X (.BoolOp .And (a::b::rest) pos) (UX ta tb):=by
 intro pins s σ H Q I h
 refine BoolOp_and (thn (ha pins s σ H _ I h) fun v s1 ⟨x,H1,I1,r1,q1⟩=>?_)
 obtain ⟨c,rfl,q1⟩:=q1
 cases r1
 refine wpAny_truthy_bool ?_
 cases c with
 | true=>exact hb pins s1 σ H1 Q I1 q1
 | false=>exact ⟨.bl false,H1,I1,rfl,q1⟩
theorem QX (ha:PE X a ta):PE X (.UnaryOp .Not a pos) (K2 ta):=by
 intro pins s σ H Q I h
 refine UnaryOp_ (thn (ha pins s σ H _ I h) fun v s1 ⟨x,H1,I1,r1,q1⟩=>?_)
 obtain ⟨c,rfl,q1⟩:=q1
 cases r1
 exact not_of (wpAny_truthy_bool ⟨.bl (!c),H1,I1,rfl,q1⟩)
end
def SqL (K:PySem.W.Frag)(H:Hp)(a:Addr)(xs:List V):Prop :=
 Rd H a (.lst xs) \/
  ∃ (o:Obj) (its:Array Value) (n:Nat),K.lookup a=some o/\o.cls=.type "list"/\o.dict=none/\o.data=.seq its n/\its.size<=sizeLine/\Vals xs its.toList
def SqT (K:PySem.W.Frag)(H:Hp)(a:Addr)(xs:List V):Prop :=
 Rd H a (.tup xs) \/
  ∃ (o:Obj) (its:Array Value) (n:Nat),K.lookup a=some o/\o.cls=.type "tuple"/\(o.dict=none/\o.slots=#[])/\o.data=.seq its n/\its.size<=sizeLine/\Vals xs its.toList
def z0G:Value->Option V
 | .none=>some .non
 | .bool b=>some (.bl b)
 | .int i _=>some (.int i)
 | .str x _=>some (.str x)
 | .bytes b _=>some (.byt b)
 | .float b _=>some (.flt b)
 | .ref a=>some (.ref a)
 | .type n=>some (.ty n)
 | _=>none
theorem RelV.abs {x:V}{u:Value}(r:RelV x u):z0G u=some x:=by
 cases x with
 | non=>cases r; rfl
 | bl _=>cases r; rfl
 | int _=>obtain ⟨t,rfl⟩:=r; rfl
 | str _=>obtain ⟨t,rfl⟩:=r; rfl
 | byt _=>obtain ⟨t,rfl⟩:=r; rfl
 | flt _=>obtain ⟨t,rfl⟩:=r; rfl
 | ref _=>cases r; rfl
 | ty _=>cases r; rfl
theorem RelV.inj {x y:V}{u:Value}(r:RelV x u)(q:RelV y u):x=y:=Option.some.inj (r.abs.symm.trans q.abs)
theorem Vals.inj:∀ {xs ys:List V} {us:List Value},Vals xs us->Vals ys us->xs=ys
 | _,_,_,.nil,.nil=>rfl
 | _,_,_,.cons r t,.cons r' t'=>by rw [r.inj r',Vals.inj t t']
section
variable {X:Cx}{pins:List (Addr×Obj)}{σ:St}{H:Hp}{s:Shared}{a:Addr}{xs ys:List V}
theorem SqL.of {K:PySem.W.Frag}(h:H a=some (.lst xs)):SqL K H a xs:=.inl (.inl h)
theorem SqT.of {K:PySem.W.Frag}(h:H a=some (.tup xs)):SqT K H a xs:=.inl (.inl h)
theorem Inv.list (I:Inv X pins σ H s)(h:SqL X.K H a xs):∃ its:List Value,Vals xs its/\PlainL s.heap a its.toArray/\xs.length<=sizeLine:=by
 rcases h with h | ⟨o,its,n,hk,hc,hd,hs,hz,r⟩
 ·obtain ⟨z,its,n,r,e⟩:=h.ok I.hok
  exact ⟨its,r,⟨_,n,e,rfl,rfl,rfl⟩,z⟩
 ·refine ⟨its.toList,r,⟨o,n,I.kIn a o hk,hc,hd,by simpa using hs⟩,?_⟩
  have e:=r.length
  simp only [Array.length_toList] at e
  omega
theorem Inv.tuple (I:Inv X pins σ H s)(h:SqT X.K H a xs):∃ its:List Value,Vals xs its/\IsTup s.heap a its.toArray/\xs.length<=sizeLine:=by
 rcases h with h | ⟨o,its,n,hk,hc,_,hs,hz,r⟩
 ·obtain ⟨z,its,r,p⟩:=h.ok I.hok
  exact ⟨its,r,p.tup,z⟩
 ·refine ⟨its.toList,r,⟨o,I.kIn a o hk,hc,n,by simpa using hs⟩,?_⟩
  have e:=r.length
  simp only [Array.length_toList] at e
  omega
theorem Inv.list_inj (I:Inv X pins σ H s)(h:SqL X.K H a xs)(h':SqL X.K H a ys):xs=ys:=by
 obtain ⟨its,r,⟨o,n,e,_,_,d⟩,_⟩:=I.list h
 obtain ⟨its',r',⟨o',n',e',_,_,d'⟩,_⟩:=I.list h'
 rw [e] at e'; cases e'
 rw [d] at d'
 injection d' with d1 _
 have:its=its':=by simpa using congrArg Array.toList d1
 subst this
 exact r.inj r'
theorem Inv.tuple_inj (I:Inv X pins σ H s)(h:SqT X.K H a xs)(h':SqT X.K H a ys):xs=ys:=by
 obtain ⟨its,r,⟨o,e,_,n,d⟩,_⟩:=I.tuple h
 obtain ⟨its',r',⟨o',e',_,n',d'⟩,_⟩:=I.tuple h'
 rw [e] at e'; cases e'
 rw [d] at d'
 injection d' with d1 _
 have:its=its':=by simpa using congrArg Array.toList d1
 subst this
 exact r.inj r'
end
abbrev Cx.wish (X:Cx)(E:Value->Shared->Prop):Cx:={ X with xe:=E }
abbrev Cx.nox (X:Cx):Cx:=X.wish fun _ _=>False
theorem Cx.Ok.wish {X:Cx}(ok:X.Ok)(E:Value->Shared->Prop):(X.wish E).Ok :=
 ⟨ok.mod,ok.kind,ok.glob,ok.blt,ok.above,ok.inj,ok.has,ok.cab,ok.hd,ok.frames,ok.stk,ok.exf,ok.bs,ok.bsz,ok.noex,ok.exfs,ok.funs,ok.frf⟩
theorem Cx.Ok.unwish {X:Cx}{E:Value->Shared->Prop}(ok:(X.wish E).Ok):X.Ok :=
 ⟨ok.mod,ok.kind,ok.glob,ok.blt,ok.above,ok.inj,ok.has,ok.cab,ok.hd,ok.frames,ok.stk,ok.exf,ok.bs,ok.bsz,ok.noex,ok.exfs,ok.funs,ok.frf⟩
section
variable {X:Cx}{pins:List (Addr×Obj)}{σ:St}{H:Hp}{s:Shared}{E:Value->Shared->Prop}
theorem Inv.wish (I:Inv X pins σ H s)(E:Value->Shared->Prop):Inv (X.wish E) pins σ H s:=⟨I.ok.wish E,I.os,I.bare,I.base,I.loc,I.cell,I.free,I.freeC,I.pin,I.hok,I.len⟩
theorem Inv.unwish (I:Inv (X.wish E) pins σ H s):Inv X pins σ H s:=⟨I.ok.unwish,I.os,I.bare,I.base,I.loc,I.cell,I.free,I.freeC,I.pin,I.hok,I.len⟩
theorem SP.unwish {D:Ends}{f:Flow}{s':Shared}(h:SP (X.wish E) pins D f s'):SP X pins D f s':=by
 cases f with
 | next=>obtain ⟨σ',H',I,q⟩:=h; exact ⟨σ',H',I.unwish,q⟩
 | brk=>obtain ⟨σ',H',I,q⟩:=h; exact ⟨σ',H',I.unwish,q⟩
 | cont=>obtain ⟨σ',H',I,q⟩:=h; exact ⟨σ',H',I.unwish,q⟩
 | ret u=>obtain ⟨v,σ',H',I,r,q⟩:=h; exact ⟨v,σ',H',I.unwish,r,q⟩
theorem PE.nox {e:Expr}{t:TE}(h:PE X.nox e t):PE X e t:=fun pins s σ H Q I hw =>
 wpAny_mono (h pins s σ H Q (I.wish _) hw) (fun _ _ ⟨v,H',I',r,q⟩=>⟨v,H',I'.unwish,r,q⟩) fun _ _ z=>False.elim z
theorem PT.nox {e:Expr}{t:TT}(h:PT X.nox e t):PT X e t:=fun pins s σ H Q I hw =>
 wpAny_mono (h pins s σ H Q (I.wish _) hw) (fun _ _ ⟨H',I',q⟩=>⟨H',I'.unwish,q⟩) fun _ _ z=>False.elim z
theorem PSs.nox {st:List Stmt}{t:TS}(h:PSs X.nox st t):PSs X st t:=fun pins s σ H D I hw =>
 wpAny_mono (h pins s σ H D (I.wish _) hw) (fun _ _ q=>q.unwish) fun _ _ z=>False.elim z
end
section
variable {X:Cx}{st:Stmt}{rest:List Stmt}{t u:TS}{e:Expr}{te:TE}{pos:Pos}
def WY:TS:=fun D σ H=>D.nx σ H
def Qs (t u:TS):TS:=fun D σ H=>t { D with nx:=u D } σ H
theorem Zl:PSs X [] WY:=fun _ _ σ H _ I h=>wpAny_execs_nil ⟨σ,H,I,h⟩
theorem jD (h1:PS X st t)(h2:PSs X rest u):PSs X (st::rest) (Qs t u):=by
 intro pins s σ H D I h
 refine wpAny_execs_cons (thn (h1 pins s σ H { D with nx:=u D } I h) fun f s1 q=>?_)
 cases f with
 | next =>
  obtain ⟨σ',H',I',q⟩:=q
  exact h2 pins s1 σ' H' D I' q
 | ret v=>exact q
 | brk=>exact q
 | cont=>exact q
theorem uI (h1:PS X st t):PSs X [st] t:=by
 intro pins s σ H D I h
 refine wpAny_execs_cons (thn (h1 pins s σ H D I h) fun f s1 q=>?_)
 cases f with
 | next=>exact wpAny_execs_nil q
 | ret v=>exact q
 | brk=>exact q
 | cont=>exact q
theorem Inv.quiet {pins:List (Addr×Obj)}{σ:St}{H:Hp}{s:Shared}(I:Inv X pins σ H s):interactive X.env=false:=by simp [interactive,I.ok.kind]
def Ka (te:TE):TS:=fun D σ H=>te σ H fun _ H1=>D.nx σ H1
theorem UK (he:PE X e te)(hs:autoParam (swapsWith e none pos.line X.env=pure false) L2.au3._auto_1):PS X (.Expr e pos) (Ka te):=by
 intro pins s σ H D I h
 exact wpAny_Expr_any (thn (he pins s σ H _ I h) fun v s1 ⟨x,H1,I1,r1,q1⟩=>⟨σ,H1,I1,q1⟩) I.quiet hs
def QK (te:TE):TS:=fun D σ H=>te σ H D.rt
theorem jl (he:PE X e te):PS X (.Return (some e) pos) (QK te):=by
 intro pins s σ H D I h
 exact wpAny_Return_some (thn (he pins s σ H _ I h) fun v s1 ⟨x,H1,I1,r1,q1⟩=>⟨x,σ,H1,I1,r1,q1⟩)
def J4 (c:TT)(t u:TS):TS:=fun D σ H=>c σ H fun b H1=>if b=true then t D σ H1 else u D σ H1
theorem V9 {c:Expr}{a b:List Stmt}{tc:TT}(hc:PT X c tc)(ha:PSs X a t)(hb:PSs X b u):PS X (.If c a b pos) (J4 tc t u):=by
 intro pins s σ H D I h
 refine wpAny_If (thn (hc pins s σ H _ I h) fun d s1 ⟨H1,I1,q1⟩=>?_)
 cases d with
 | true=>exact ha pins s1 σ H1 D I1 q1
 | false=>exact hb pins s1 σ H1 D I1 q1
end
abbrev TG:=V->St->Hp->(St->Hp->Prop)->Prop
abbrev TGs:=List V->St->Hp->(St->Hp->Prop)->Prop
def PG (X:Cx)(target:Expr)(t:TG):Prop :=
 ∀ (pins:List (Addr×Obj)) (s:Shared) (σ:St) (H:Hp) (v:V) (u:Value) (Q:St->Hp->Prop),Inv X pins σ H s->RelV v u->t v σ H Q ->
  wpAny (model X.prog X.w) X.A (assign target X.env u) (fun _ s'=>∃ σ' H',Inv X pins σ' H' s'/\Q σ' H') X.xe s
def PGs (X:Cx)(ts:List Expr)(t:TGs):Prop :=
 ∀ (pins:List (Addr×Obj)) (s:Shared) (σ:St) (H:Hp) (vs:List V) (us:List Value) (Q:St->Hp->Prop),Inv X pins σ H s->Vals vs us->t vs σ H Q ->
  wpAny (model X.prog X.w) X.A (assignInOrder ((assignEach ts X.env).map (·.2)) us) (fun _ s'=>∃ σ' H',Inv X pins σ' H' s'/\Q σ' H') X.xe s
abbrev Js:=V->V->V->Hp->(Hp->Prop)->Prop
def KH (X:Cx)(t:Js):Prop :=
 ∀ (pins:List (Addr×Obj)) (s:Shared) (σ:St) (H:Hp) (o i v:V) (ov iv u:Value) (Q:Hp->Prop),Inv X pins σ H s->RelV o ov->RelV i iv->RelV v u->t o i v H Q ->
  wpAny (model X.prog X.w) X.A (setItem ov iv u) (fun _ s'=>∃ H',Inv X pins σ H' s'/\Q H') X.xe s
abbrev TIp:=V->V->Hp->VK->Prop
def PIp (X:Cx)(op:Operator)(t:TIp):Prop :=
 ∀ (pins:List (Addr×Obj)) (s:Shared) (σ:St) (H:Hp) (x y:V) (v u:Value) (Q:VK),Inv X pins σ H s->RelV x v->RelV y u->t x y H Q ->
  wpAny (model X.prog X.w) X.A (inplaceOp op v u) (EP X pins σ Q) X.xe s
section
variable {X:Cx}{pos:Pos}
def kD (i:Nat):TG:=fun v σ H Q=>Q (σ.set i (some v)) H
theorem U6 {i:Nat}{x:Str}(hN:X.N.Nodup)(hi:X.N[i]?=some x)(hx:Loc X.env.scope x)(hf:autoParam (X.fn x=true\/X.env.scope.names.lookup x=some .local) L2.au0._auto_1):PG X (.Name x pos) (kD i):=by
 intro pins s σ H v u Q I r h
 exact wpAny_assign_Name (jn I hN hi hx r (fun s' I'=>⟨_,H,I',h⟩) hf)
def KJ:TGs:=fun vs σ H Q=>vs=[]/\Q σ H
def JL (t:TG)(u:TGs):TGs:=fun vs σ H Q=>∃ v r,vs=v::r/\t v σ H fun σ' H'=>u r σ' H' Q
theorem U0:PGs X [] KJ:=by
 intro pins s σ H vs us Q I r h
 obtain ⟨e,h⟩:=h
 subst e
 cases r
 exact assignInOrder_nil ⟨σ,H,I,h⟩
theorem V3 {e:Expr}{es:List Expr}{t:TG}{u:TGs}(h1:PG X e t)(h2:PGs X es u)
  (hs:autoParam ((assignEach (e::es) X.env).map (·.2)=assign e X.env::(assignEach es X.env).map (·.2)) L2.au3._auto_1):PGs X (e::es) (JL t u):=by
 intro pins s σ H vs us Q I r h
 obtain ⟨v,vr,e1,h⟩:=h
 subst e1
 cases r with
 | cons r rr =>
  rw [hs]
  refine assignInOrder_cons (thn (h1 pins s σ H _ _ _ I r h) fun _ s1 ⟨σ1,H1,I1,q1⟩=>?_)
  exact h2 pins s1 σ1 H1 _ _ Q I1 rr q1
def JS (K:PySem.W.Frag)(n:Nat)(t:TGs):TG:=fun v σ H Q=>∃ a xs,v=.ref a/\SqT K H a xs/\xs.length=n/\t xs σ H Q
theorem Qm {es:List Expr}{k:Nat}{t:TGs}{n:Nat}(hc:X.calm=true)(h:PGs X es t)
  (hn:autoParam ((assignEach es X.env).length=n) L2.au3._auto_1) (hst:autoParam ((assignEach es X.env).findIdx? (·.1)=none) L2.au3._auto_1):PG X (.Tuple es k pos) (JS X.K n t):=by
 intro pins s σ H v u Q I r hw
 obtain ⟨a,xs,e1,hq,hl,hw⟩:=hw
 subst e1
 cases r
 obtain ⟨its,rv,ht,hz⟩:=I.tuple hq
 refine assign_Tuple_tuple (I.ok.hd hc) ht (by simp [hn,<- hl,rv.length]) hst fun h' hx=>?_
 have I1:Inv X pins σ H { s with heap:=h' }:=I.kept (t':=s.toks) fun b o e=>hx b o (sW (Heap.lt_size e)) e
 exact h pins _ σ H xs _ Q I1 (by simpa using rv) hw
def z0s (to ti:TE)(t:Js):TG:=fun v σ H Q=>to σ H fun o H1=>ti σ H1 fun i H2=>t o i v H2 fun H3=>Q σ H3
theorem Jx {o i:Expr}{to ti:TE}{t:Js}(ho:PE X o to)(hi:PE X i ti)(hs:KH X t)
  (ha:autoParam (∀ v,assign (.Subscript o i pos) X.env v=(do
   let ov <- holding [v] (eval o X.env)
   let iv <- holding [v,ov] (eval i X.env)
   standAt pos
   holding [v,ov,iv] (setItem ov iv v)
   release [v,ov,iv] [])) L2.au2._auto_1):PG X (.Subscript o i pos) (z0s to ti t):=by
 intro pins s σ H v u Q I r h
 rw [ha]
 refine wpAny_bind (wpAny_holding (thn (ho pins s σ H _ I h) fun ov s1 ⟨x,H1,I1,r1,q1⟩=>?_))
 refine wpAny_bind (wpAny_holding (thn (hi pins s1 σ H1 _ I1 q1) fun iv s2 ⟨y,H2,I2,r2,q2⟩=>?_))
 refine wpAny_bind (wpAny_standAt (wpAny_bind (wpAny_holding (thn (hs pins s2 σ H2 x y v ov iv u _ I2 r1 r2 r q2) fun _ s3 ⟨H3,I3,q3⟩=>?_))))
 exact wpAny_release ⟨σ,H3,I3,q3⟩
def JI (te:TE)(g:TG):TS:=fun D σ H=>te σ H fun x H1=>g x σ H1 D.nx
theorem Wn {tg e:Expr}{te:TE}{g:TG}(he:PE X e te)(hg:PG X tg g)(hs:autoParam (swapsWithSole [tg] e pos.line X.env=pure false) L2.au3._auto_1)(hw:autoParam (swappedStores [tg] e X.env=pure none) L2.au3._auto_1)
  (h1:autoParam ((assignEach [tg] X.env).map (·.2)=[assign tg X.env]) L2.au3._auto_1):PS X (.Assign [tg] e pos) (JI te g):=by
 intro pins s σ H D I h
 refine wpAny_Assign_stores (thn (he pins s σ H _ I h) fun v s1 ⟨x,H1,I1,r1,q1⟩=>?_) hs hw
 rw [h1]
 exact thn (hg pins s1 σ H1 x v _ I1 r1 q1) fun _ s2 q=>q
theorem Wy {i:Nat}{x:Str}{e:Expr}{te:TE}{pos':Pos}(hN:X.N.Nodup)(hi:X.N[i]?=some x)(hx:Loc X.env.scope x)(he:PE X e te)(hs:autoParam (swapsWith e (some (.Name x pos')) pos.line X.env=pure false) L2.au3._auto_1)(hf:autoParam (X.fn x=true\/X.env.scope.names.lookup x=some .local) L2.au0._auto_1) :
  PS X (.Assign [.Name x pos'] e pos) (JI te (kD i)):=by
 intro pins s σ H D I h
 refine wpAny_Assign_Name (thn (he pins s σ H _ I h) fun v s1 ⟨y,H1,I1,r1,q1⟩=>?_) hs
 exact jn I1 hN hi hx r1 (fun s2 I2=>⟨_,H1,I2,q1⟩) hf
end
section
variable {X:Cx}{pos:Pos}
end
structure It where
 go:Nat->Hp->Prop
 yld:Nat->Hp->V->Hp->Prop
 stop:Nat->Hp->Prop
def qJ (X:Cx)(pins:List (Addr×Obj))(H:Hp)(b:Addr):Prop :=
 H b=none/\b≠X.env.locals/\b∉X.fs/\(b∈X.ex\/X.s₀.heap.objs.size<=b)/\(∀ x c,X.env.cells.lookup x=some c->c≠b)/\∀ p∈X.pn++pins,p.1≠b
theorem Inv.fpOk {X:Cx}{pins:List (Addr×Obj)}{σ:St}{H H':Hp}{s:Shared}{b:Addr}(I:Inv X pins σ H s)(hb:s.heap.objs.size<=b)(hn:H' b=none):qJ X pins H' b:=by
 refine ⟨hn,Nat.ne_of_gt (sQ I.lt hb),I.nofs hb,.inr (rD I.sz hb),fun x c e z=>?_,fun p hp z=>?_⟩
 ·obtain ⟨v,q⟩:=I.cell x c e
  exact absurd (sQ q.lt (by rw [z]; exact hb)) (rW _)
 ·exact absurd (sQ (Heap.lt_size (I.pin p hp).1) (by rw [z]; exact hb)) (rW _)
structure Turn (P:Program)(w:World)(K:PySem.W.Frag)(tg:Expr)(J:It)(fp:List Addr)(it:Addr)(tn:Nat->Heap->Prop):Prop where
 mem:it∈fp
 obj:∀ i h,tn i h->∀ b∈fp,∃ o,h.get? b=some o/\∀ v,o.data≠.cell v
 keep:∀ i h h',tn i h->(∀ b∈fp,∀ o,h.get? b=some o->h'.get? b=some o)->tn i h'
 item:∀ (X:Cx),X.prog=P->X.w=w->X.K=K->X.calm=true->∀ (i:Nat) (pins:List (Addr×Obj)) (s:Shared) (σ:St) (H:Hp) (E:Value->Shared->Prop),Inv X pins σ H s->(∀ b∈fp,qJ X pins H b)->tn i s.heap->J.go i H ->
  wpAny (model P w) X.A (pyNext (.ref it)) (fun r s1=>∃ u,r=some u /\
   wpAny (model P w) X.A (letOwnedTupleGo tg (.ref it) u) (fun _ s2=>∃ x H',Inv X pins σ H' s2/\RelV x u/\J.yld i H x H'/\tn (i+1) s2.heap/\∀ b∈fp,H' b=none) E s1) E s
 done:∀ (X:Cx),X.prog=P->X.w=w->X.K=K->X.calm=true->∀ (i:Nat) (pins:List (Addr×Obj)) (s:Shared) (σ:St) (H:Hp) (E:Value->Shared->Prop),Inv X pins σ H s->(∀ b∈fp,qJ X pins H b)->tn i s.heap->J.stop i H ->
  wpAny (model P w) X.A (pyNext (.ref it)) (fun r s1=>r=none/\Inv X pins σ H s1) E s
 self:∀ (A:Around) (i:Nat) (s:Shared) (Q:Value->Shared->Prop) (E:Value->Shared->Prop),tn i s.heap->Q (.ref it) s->wpAny (model P w) A (pyIter (.ref it)) Q E s
abbrev TI:=St->Hp->(It->Hp->Prop)->Prop
def PIE (X:Cx)(pins:List (Addr×Obj))(σ:St)(tg:Expr)(R:It->Hp->Prop)(itv:Value)(s2:Shared):Prop :=
 ∃ (it:Addr) (fp:List Addr) (tn:Nat->Heap->Prop) (J:It) (H':Hp),itv=.ref it/\Inv X pins σ H' s2/\Turn X.prog X.w X.K tg J fp it tn/\tn 0 s2.heap/\(∀ b∈fp,qJ X pins H' b)/\R J H'
def PI (X:Cx)(tg iter:Expr)(wi:TI):Prop :=
 ∀ (pins:List (Addr×Obj)) (s:Shared) (σ:St) (H:Hp) (R:It->Hp->Prop),Inv X pins σ H s->wi σ H R ->
  wpAny (model X.prog X.w) X.A (eval iter X.env) (fun v s1=>wpAny (model X.prog X.w) X.A (pyIter v) (PIE X pins σ tg R) X.xe s1) X.xe s
theorem Zu {M:Model}{A:Around}{E:Value->Shared->Prop}{s:Shared}{tg:Expr}{it:Addr}{u:Value}{o:Obj}{n:String}{vs:Array Value}{Q:Unit->Shared->Prop}(ho:s.heap.get? it=some o)(hc:o.cls=.type n)(hd:o.data=.fields vs)
  (hn:["enumerate","zip","dict_itemiterator","dict_reverseitemiterator","odict_iterator","itertools.zip_longest","itertools.pairwise"].contains n=false) (hQ:Q () s):wpAny M A (letOwnedTupleGo tg (.ref it) u) Q E s:=by
 unfold letOwnedTupleGo
 cases tg<;>first
  | exact wpAny_pure hQ
  | (cases u<;>first
    | exact wpAny_pure hQ
    | (refine wpAny_bind (wpAny_load ho ?_);rw [hc,hd];show wpAny M A (if (["enumerate","zip","dict_itemiterator","dict_reverseitemiterator","odict_iterator","itertools.zip_longest","itertools.pairwise"].contains n&&vs[0]?==some (rawInt _))=true then _ else _) Q E s;rw [if_neg (by intro h; rw [hn,Bool.false_and] at h; cases h)];exact wpAny_pure hQ))
def Itl (K:PySem.W.Frag)(a:Addr):It :=
 ⟨fun i H=>∃ xs x,SqL K H a xs/\xs[i]?=some x,fun i H x H'=>H'=H/\∀ xs,SqL K H a xs->xs[i]?=some x,fun i H=>∃ xs,SqL K H a xs/\xs.length<=i⟩
def Itt (K:PySem.W.Frag)(a:Addr):It :=
 ⟨fun i H=>∃ xs x,SqT K H a xs/\xs[i]?=some x,fun i H x H'=>H'=H/\∀ xs,SqT K H a xs->xs[i]?=some x,fun i H=>∃ xs,SqT K H a xs/\xs.length<=i⟩
def Itr (lo:Int)(n:Nat):It:=⟨fun i _=>i<n,fun i H x H'=>H'=H/\x=.int (lo+i),fun i _=>n<=i⟩
theorem XM {P:Program}{w:World}{K:PySem.W.Frag}{tg:Expr}(a it:Addr):Turn P w K tg (Itl K a) [it] it (fun i h=>h.IsListIter it a i) where
 mem:=by simp
 obj:=fun i h st b hb=>by
  have e:b=it:=by simpa using hb
  subst e
  obtain ⟨o,e,c,d⟩:=st
  exact ⟨o,e,fun v z=>by rw [d] at z; cases z⟩
 keep:=fun i h h' st k=>st.at fun o e=>k it (by simp) o e
 item:=by
  intro X hP hw hK hc i pins s σ H E I hf st hg
  subst hP hw hK
  obtain ⟨xs,x,hq,hx⟩:=hg
  obtain ⟨its,rv,p,hz⟩:=I.list hq
  obtain ⟨u,hu,ru⟩:=rv.get hx
  obtain ⟨f0,f1,f2,f3,f4,f5⟩:=hf it (by simp)
  refine wpAny_pyNext_list_item st p.isList (x:=u) (by simpa using hu) fun h' st' sb=>?_
  have I1:Inv X pins σ H { s with heap:=h' }:=I.turned (t':=s.toks) (fun b o hb e=>(sb.2 b hb).trans e) f0 f1 f3 f4 f5
  obtain ⟨o,e,c,d⟩:=id st'
  exact ⟨u,rfl,Zu (s:={ s with heap:=h' }) e c d (by decide) ⟨x,H,I1,ru,⟨rfl,fun ys hy=>by rw [I.list_inj hy hq]; exact hx⟩,st',fun b hb=>(hf b hb).1⟩⟩
 done:=by
  intro X hP hw hK hc i pins s σ H E I hf st hg
  subst hP hw hK
  obtain ⟨xs,hq,hx⟩:=hg
  obtain ⟨its,rv,p,hz⟩:=I.list hq
  obtain ⟨f0,f1,f2,f3,f4,f5⟩:=hf it (by simp)
  have hl:=rv.length
  exact wpAny_pyNext_list_end (I.ok.hd hc) st p.isList (by simp; omega) fun h' eb=>⟨rfl,I.turned (t':=s.toks) (fun b o hb e=>eb b o hb e) f0 f1 f3 f4 f5⟩
 self:=fun _ _ _ _ _ st h=>wpAny_pyIter_listiter st h
theorem Yd {P:Program}{w:World}{K:PySem.W.Frag}{tg:Expr}(a it:Addr):Turn P w K tg (Itt K a) [it] it (fun i h=>h.IsTupleIter it a i) where
 mem:=by simp
 obj:=fun i h st b hb=>by
  have e:b=it:=by simpa using hb
  subst e
  obtain ⟨o,e,c,d⟩:=st
  exact ⟨o,e,fun v z=>by rw [d] at z; cases z⟩
 keep:=fun i h h' st k=>st.at fun o e=>k it (by simp) o e
 item:=by
  intro X hP hw hK hc i pins s σ H E I hf st hg
  subst hP hw hK
  obtain ⟨xs,x,hq,hx⟩:=hg
  obtain ⟨its,rv,p,hz⟩:=I.tuple hq
  obtain ⟨u,hu,ru⟩:=rv.get hx
  obtain ⟨f0,f1,f2,f3,f4,f5⟩:=hf it (by simp)
  refine wpAny_pyNext_tuple_item st (show s.heap.IsTuple a its.toArray from p) (x:=u) (by simpa using hu) fun h' st' sb=>?_
  have I1:Inv X pins σ H { s with heap:=h' }:=I.turned (t':=s.toks) (fun b o hb e=>(sb.2 b hb).trans e) f0 f1 f3 f4 f5
  obtain ⟨o,e,c,d⟩:=id st'
  exact ⟨u,rfl,Zu (s:={ s with heap:=h' }) e c d (by decide) ⟨x,H,I1,ru,⟨rfl,fun ys hy=>by rw [I.tuple_inj hy hq]; exact hx⟩,st',fun b hb=>(hf b hb).1⟩⟩
 done:=by
  intro X hP hw hK hc i pins s σ H E I hf st hg
  subst hP hw hK
  obtain ⟨xs,hq,hx⟩:=hg
  obtain ⟨its,rv,p,hz⟩:=I.tuple hq
  obtain ⟨f0,f1,f2,f3,f4,f5⟩:=hf it (by simp)
  have hl:=rv.length
  exact wpAny_pyNext_tuple_end (I.ok.hd hc) st (show s.heap.IsTuple a its.toArray from p) (by simp; omega) fun h' eb=>⟨rfl,I.turned (t':=s.toks) (fun b o hb e=>eb b o hb e) f0 f1 f3 f4 f5⟩
 self:=fun _ _ _ _ _ st h=>wpAny_pyIter_tupleiter st h
theorem YO {P:Program}{w:World}{K:PySem.W.Frag}{tg:Expr}(it:Addr)(lo:Int)(n:Nat):Turn P w K tg (Itr lo n) [it] it (fun i h=>IsRangeIter h it (lo+(i:Nat)*1) ((n:Int)-(i:Nat)) 1) where
 mem:=by simp
 obj:=fun i h st b hb=>by
  have e:b=it:=by simpa using hb
  subst e
  exact ⟨_,st,fun v z=>by
   have z':Data.fields _=Data.cell v:=z
   cases z'⟩
 keep:=fun i h h' st k=>k it (by simp) _ st
 item:=by
  intro X hP hw hK hc i pins s σ H E I hf st hg
  subst hP hw hK
  obtain ⟨f0,f1,f2,f3,f4,f5⟩:=hf it (by simp)
  have W:=Walks.range (prog:=X.prog) (w:=X.w) (I.ok.hd hc) it lo 1 n
  refine W.item i s _ _ hg st fun v h' tk hv st' kk=>?_
  obtain ⟨t,rfl⟩:=hv
  have I1:Inv X pins σ H { s with heap:=h',toks:=tk }:=I.turned (fun b o hb e=>kk b o (by simpa using hb) e) f0 f1 f3 f4 f5
  refine ⟨_,rfl,Zu (s:={ s with heap:=h',toks:=tk }) (n:="range_iterator") st' rfl rfl (by decide) ⟨.int (lo+i),H,I1,⟨t,?_⟩,⟨rfl,rfl⟩,st',fun b hb=>(hf b hb).1⟩⟩
  rw [Int.mul_one]
 done:=by
  intro X hP hw hK hc i pins s σ H E I hf st hg
  subst hP hw hK
  obtain ⟨f0,f1,f2,f3,f4,f5⟩:=hf it (by simp)
  exact wpAny_pyNext_range_end (I.ok.hd hc) st (by have:n<=i:=hg; omega) fun h' eb=>⟨rfl,I.turned (t':=s.toks) (fun b o hb e=>eb b o hb e) f0 f1 f3 f4 f5⟩
 self:=fun _ _ _ _ _ st h=>wpAny_pyIter_rangeiter st h
section
variable {X:Cx}{tg:Expr}
def Q0 (K:PySem.W.Frag)(tl:TE):TI:=fun σ H R=>tl σ H fun x H1=>∃ a,x=.ref a/\(∃ xs,SqL K H1 a xs)/\R (Itl K a) H1
def z04 (K:PySem.W.Frag)(tl:TE):TI:=fun σ H R=>tl σ H fun x H1=>∃ a,x=.ref a/\(∃ xs,SqT K H1 a xs)/\R (Itt K a) H1
theorem VC {l:Expr}{tl:TE}(hl:PE X l tl):PI X tg l (Q0 X.K tl):=by
 intro pins s σ H R I h
 refine thn (hl pins s σ H _ I h) fun v s1 ⟨x,H1,I1,r1,q1⟩=>?_
 obtain ⟨a,e,⟨xs,hq⟩,q⟩:=q1
 subst e
 cases r1
 obtain ⟨its,rv,p,hz⟩:=I1.list hq
 refine wpAny_pyIter_list p.isList ?_
 refine ⟨s1.heap.objs.size,[s1.heap.objs.size],_,_,H1,rfl,I1.kept (t':=s1.toks) fun b o e=>Heap.get?_push_of_some _ e,XM a _,⟨_,Heap.get?_push_size _ rfl,rfl,rfl⟩,fun b hb=>?_,q⟩
 have e:b=s1.heap.objs.size:=by simpa using hb
 subst e
 exact I1.fpOk (sD _) (I1.hok.fresh (sD _))
theorem Je {l:Expr}{tl:TE}(hl:PE X l tl):PI X tg l (z04 X.K tl):=by
 intro pins s σ H R I h
 refine thn (hl pins s σ H _ I h) fun v s1 ⟨x,H1,I1,r1,q1⟩=>?_
 obtain ⟨a,e,⟨xs,hq⟩,q⟩:=q1
 subst e
 cases r1
 obtain ⟨its,rv,p,hz⟩:=I1.tuple hq
 refine wpAny_pyIter_tuple (show s1.heap.IsTuple a its.toArray from p) ?_
 refine ⟨s1.heap.objs.size,[s1.heap.objs.size],_,_,H1,rfl,I1.kept (t':=s1.toks) fun b o e=>Heap.get?_push_of_some _ e,Yd a _,⟨_,Heap.get?_push_size _ rfl,rfl,rfl⟩,fun b hb=>?_,q⟩
 have e:b=s1.heap.objs.size:=by simpa using hb
 subst e
 exact I1.fpOk (sD _) (I1.hok.fresh (sD _))
theorem WT {pins:List (Addr×Obj)}{σ:St}{H:Hp}{s:Shared}{R:It->Hp->Prop}{E:Value->Shared->Prop}{lo hi:Int}{t u v:Tok}{tk:Nat}(I:Inv X pins σ H s)(h1:-(2 ^ 62)<=lo)(h2:lo<2 ^ 62)(h3:-(2 ^ 62)<=hi)(h4:hi<2 ^ 62)
  (q:R (Itr lo (hi-lo).toNat) H):wpAny (model X.prog X.w) X.A (pyIter (.ref s.heap.objs.size)) (PIE X pins σ tg R) E { s with heap:=s.heap.push { cls:=.type "range",data:=.fields #[.int lo t,.int hi u,.int 1 v] },toks:=tk }:=by
 refine wpAny_pyIter_range (IsRange.new ..) (small_one h1 h2 h3 h4) ?_
 have I1:Inv X pins σ H { s with heap:=s.heap.push { cls:=.type "range",data:=.fields #[.int lo t,.int hi u,.int 1 v] },toks:=tk }:=I.kept fun b o e=>Heap.get?_push_of_some _ e
 refine ⟨(s.heap.push { cls:=.type "range",data:=.fields #[.int lo t,.int hi u,.int 1 v] }).objs.size,[(s.heap.push { cls:=.type "range",data:=.fields #[.int lo t,.int hi u,.int 1 v] }).objs.size],_,_,H,rfl,
  I1.kept (t':=tk) fun b o e=>Heap.get?_push_of_some _ e,YO _ lo (hi-lo).toNat,?_,fun b hb=>?_,q⟩
 ·have e1:lo+((0:Nat):Int)*1=lo:=by simp
  have e2:(((hi-lo).toNat:Nat):Int)-((0:Nat):Int)=Builtin.Range.rangeSize lo hi 1:=by rw [rangeSize_one]; split<;>omega
  show IsRangeIter _ _ (lo+((0:Nat):Int)*1) ((((hi-lo).toNat:Nat):Int)-((0:Nat):Int)) 1
  rw [e1,e2]
  exact Heap.get?_push_size _ rfl
 ·have e:b=(s.heap.push { cls:=.type "range",data:=.fields #[.int lo t,.int hi u,.int 1 v] }).objs.size:=by simpa using hb
  subst e
  exact I1.fpOk (sD _) (I1.hok.fresh (sD _))
def JZ (ta:TA):TI:=fun σ H R=>ta σ H fun vs H1=>∃ j:Int,vs=[.int j]/\-(2 ^ 62)<=j/\j<2 ^ 62/\R (Itr 0 j.toNat) H1
theorem XH {a:Expr}{ta:TA}{p pos:Pos}(hg:Gl X "range")(hm:X.mg "range"=none)(ha:PA X [a] ta)(hs:autoParam (starEach [a] X.env=[(false,eval a X.env)]) L2.au3._auto_1):PI X tg (.Call (.Name "range" p) [a] [] pos) (JZ ta):=by
 intro pins s σ H R I h
 refine Call_ (Z0 I hg hm boot_range (PyProof.Rows.callWith_type1 (thn (ha pos pins s σ H _ I h) fun us s1 ⟨vs,H1,I1,r1,q1⟩=>?_) hs rfl))
 obtain ⟨j,e,q1,q2,q⟩:=q1
 subst e
 cases r1 with
 | cons r rr =>
  cases rr
  obtain ⟨t,rfl⟩:=r
  exact call_range_1 (WT I1 (by omega) (by omega) q1 q2 (by simpa using q))
def Kh (wi:TI)(g:TG)(tb:TS):TS:=fun D σ H=>wi σ H fun J H1=>∃ W:Nat->Nat->St->Hp->Prop,(∃ m,W 0 m σ H1)/\∀ i m σ H,W i m σ H ->
 (J.stop i H/\D.nx σ H)\/(J.go i H/\∃ N:St->Hp->Prop,(∀ σ' H',N σ' H'->∃ m',m'<m/\W (i+1) m' σ' H')/\∀ x H',J.yld i H x H'->g x σ H' fun σ2 H2=>tb { D with nx:=N,ct:=N,bk:=D.nx } σ2 H2)
def jF (fp:List Addr)(h:Heap):List (Addr×Obj):=fp.filterMap fun b=>(h.get? b).map fun o=>(b,o)
theorem vw {fp:List Addr}{h:Heap}{b:Addr}{o:Obj}(hb:b∈fp)(e:h.get? b=some o):(b,o)∈jF fp h:=pG.mpr ⟨b,hb,by rw [e]; rfl⟩
theorem Xo {fp:List Addr}{h:Heap}{p:Addr×Obj}(hp:p∈jF fp h):p.1∈fp/\h.get? p.1=some p.2:=by
 obtain ⟨b,hb,e⟩:=pG.mp hp
 cases q:h.get? b with
 | none=>rw [q] at e; cases e
 | some o =>
  rw [q] at e
  have e':(b,o)=p:=Option.some.inj e
  subst e'
  exact ⟨hb,q⟩
theorem Inv.pinned {pins:List (Addr×Obj)}{σ:St}{H:Hp}{s:Shared}{fp:List Addr}(I:Inv X pins σ H s)(hf:∀ b∈fp,qJ X pins H b)(ho:∀ b∈fp,∃ o,s.heap.get? b=some o/\∀ v,o.data≠.cell v):Inv X (pins++jF fp s.heap) σ H s :=
 I.pins_of fun p hp=>(sC.mp hp).elim (fun z=>I.pin p (tQ _ z)) fun z=>by
  obtain ⟨hb,e⟩:=Xo z
  obtain ⟨f0,f1,f2,_⟩:=hf p.1 hb
  obtain ⟨o,e',d⟩:=ho p.1 hb
  rw [e] at e'; cases e'
  exact ⟨e,f0,f1,f2,d⟩
theorem Inv.unpinned {pins pl:List (Addr×Obj)}{σ:St}{H:Hp}{s:Shared}(I:Inv X (pins++pl) σ H s):Inv X pins σ H s:=I.pins_of fun p hp=>I.pin p (tQ _ (tU _ hp))
theorem J8 {iter:Expr}{body:List Stmt}{wi:TI}{g:TG}{tb:TS}{pos:Pos}(hp:PassesOwn (model X.prog X.w) X.A X.env X.xe)(hc:X.calm=true)(hi:PI X tg iter wi)(hg:PG X tg g)(hb:PSs X body tb)
  (hs:autoParam (∀ x,foldedSetIterable iter X.env x=pure x) L2.au2._auto_1):PS X (.For tg iter body [] pos) (Kh wi g tb):=by
 intro pins s σ H D I h
 refine wpAny_For (thn (hi pins s σ H _ I h) fun v s1 h1=>thn h1 fun itv s2 h2=>?_) hs
 obtain ⟨it,fp,tn,J,H2,e,I2,T,st2,f2,W,⟨m0,w0⟩,turn⟩:=h2
 subst e
 have stat:∀ {H':Hp},(∀ b∈fp,H' b=none)->∀ b∈fp,qJ X pins H' b:=fun hn b hb=>⟨hn b hb,(f2 b hb).2⟩
 refine codeAny_forLoop_any (fun n s'=>∃ i σ' H',Inv X pins σ' H' s'/\tn i s'.heap/\(∀ b∈fp,H' b=none)/\W i n σ' H') ?_ m0 ⟨0,σ,H2,I2,st2,fun b hb=>(f2 b hb).1,w0⟩
 rintro n s3 ⟨i,σ3,H3,I3,st3,fr3,w3⟩
 rcases turn i n σ3 H3 w3 with ⟨stop,qn⟩ | ⟨go,N,hN,step⟩
 ·refine wpAny_passesOwn hp (thn (T.done X rfl rfl rfl hc i pins s3 σ3 H3 X.xe I3 (stat fr3) st3 stop) fun r s4 ⟨hr,I4⟩=>?_)
  subst hr
  exact wpAny_execs_nil ⟨σ3,H3,I4,qn⟩
 ·refine wpAny_passesOwn hp (thn (T.item X rfl rfl rfl hc i pins s3 σ3 H3 X.xe I3 (stat fr3) st3 go) fun r s4 ⟨u,hr,h4⟩=>?_)
  subst hr
  refine wpAny_passesOwn hp (thn h4 fun _ s5 ⟨x,H5,I5,r5,y5,st5,fr5⟩=>?_)
  have I5':=I5.pinned (stat fr5) (T.obj _ _ st5)
  refine wpAny_passesOwn hp (thn (hg _ s5 σ3 H5 x u _ I5' r5 (step x H5 y5)) fun _ s6 ⟨σ6,H6,I6,q6⟩=>?_)
  refine wpAny_passesOwn hp (thn (hb _ s6 σ6 H6 _ I6 q6) fun f s7 q7=>?_)
  have again:∀ {σ7:St} {H7:Hp},Inv X (pins++jF fp s5.heap) σ7 H7 s7->N σ7 H7->∃ m,m<n/\∃ i σ' H',Inv X pins σ' H' s7/\tn i s7.heap/\(∀ b∈fp,H' b=none)/\W i m σ' H':=fun {σ7 H7} I7 n7=>by
   obtain ⟨m',hm,w7⟩:=hN σ7 H7 n7
   refine ⟨m',hm,i+1,σ7,H7,I7.unpinned,T.keep _ _ _ st5 fun b hb o e=>(I7.pin (b,o) (tQ _ (tQ _ (vw hb e)))).1,fun b hb=>?_,w7⟩
   obtain ⟨o,e,d⟩:=T.obj _ _ st5 b hb
   exact (I7.pin (b,o) (tQ _ (tQ _ (vw hb e)))).2.1
  cases f with
  | next=>obtain ⟨σ7,H7,I7,n7⟩:=q7; exact again I7 n7
  | cont=>obtain ⟨σ7,H7,I7,n7⟩:=q7; exact again I7 n7
  | brk=>obtain ⟨σ7,H7,I7,q7⟩:=q7; exact ⟨σ7,H7,I7.unpinned,q7⟩
  | ret v=>obtain ⟨x7,σ7,H7,I7,r7,q7⟩:=q7; exact ⟨x7,σ7,H7,I7.unpinned,r7,q7⟩
end
abbrev R2:=V->V->Hp->VK->Prop
def OpR (X:Cx)(f:Value->Value->Sem Value)(r:R2):Prop :=
 ∀ (pins:List (Addr×Obj)) (s:Shared) (σ:St) (H:Hp) (x y:V) (v u:Value) (Q:VK),Inv X pins σ H s->RelV x v->RelV y u->r x y H Q ->
  wpAny (model X.prog X.w) X.A (f v u) (EP X pins σ Q) X.xe s
def UnR (X:Cx)(f:Value->Sem Value)(r:V->Hp->VK->Prop):Prop :=
 ∀ (pins:List (Addr×Obj)) (s:Shared) (σ:St) (H:Hp) (x:V) (v:Value) (Q:VK),Inv X pins σ H s->RelV x v->r x H Q ->
  wpAny (model X.prog X.w) X.A (f v) (EP X pins σ Q) X.xe s
def CallR (X:Cx)(f:Value)(r:List V->Hp->VK->Prop):Prop :=
 ∀ (pins:List (Addr×Obj)) (s:Shared) (σ:St) (H:Hp) (xs:List V) (us:List Value) (Q:VK),Inv X pins σ H s->Vals xs us->r xs H Q ->
  wpAny (model X.prog X.w) X.A (call f us) (EP X pins σ Q) X.xe s
def tOp (r:R2)(ta tb:TE):TE:=fun σ H Q=>ta σ H fun x H1=>tb σ H1 fun y H2=>r x y H2 Q
def tUn (r:V->Hp->VK->Prop)(ta:TE):TE:=fun σ H Q=>ta σ H fun x H1=>r x H1 Q
def rI (C:Int->Int->Prop)(g:Int->Int->V):R2:=fun x y H Q=>∃ i j,x=.int i/\y=.int j/\C i j/\Q (g i j) H
def rI0 (g:Int->Int->V):R2:=fun x y H Q=>∃ i j,x=.int i/\y=.int j/\Q (g i j) H
def rU (g:Int->V):V->Hp->VK->Prop:=fun x H Q=>∃ i,x=.int i/\Q (g i) H
section
variable {X:Cx}{a b c:Expr}{ta tb tc:TE}{pos:Pos}
theorem J3 (ha:PE X a ta)(hb:PE X b tb){pins:List (Addr×Obj)}{s:Shared}{σ:St}{H:Hp}{R:V->V->Hp->Prop}(I:Inv X pins σ H s)
  (h:ta σ H fun x H1=>tb σ H1 fun y H2=>R x y H2) {Q:Value->Shared->Prop} {f:Value->Value->Sem Value}
  (hf:∀ v u s2 x y H2,Inv X pins σ H2 s2->RelV x v->RelV y u->R x y H2->wpAny (model X.prog X.w) X.A (f v u) Q X.xe s2) :
  wpAny (model X.prog X.w) X.A (eval a X.env) (fun v s₁=>wpAny (model X.prog X.w) X.A (eval b X.env) (fun u s₂=>wpAny (model X.prog X.w) X.A (f v u) Q X.xe s₂) X.xe s₁) X.xe s:=by
 refine thn (ha pins s σ H _ I h) fun v s1 ⟨x,H1,I1,r1,q1⟩=>?_
 refine thn (hb pins s1 σ H1 _ I1 q1) fun u s2 ⟨y,H2,I2,r2,q2⟩=>?_
 exact hf v u s2 x y H2 I2 r1 r2 q2
theorem Kl {op:Operator}{r:R2}(ho:OpR X (binaryOp op) r)(ha:PE X a ta)(hb:PE X b tb):PE X (.BinOp a op b pos) (tOp r ta tb):=by
 intro pins s σ H Q I h
 exact wpAny_BinOp (J3 ha hb I h fun v u s2 x y H2 I2 rx ry q=>ho pins s2 σ H2 x y v u Q I2 rx ry q)
theorem z01 {op:UnaryOp}{r:V->Hp->VK->Prop}(ho:UnR X (unaryOp op) r)(ha:PE X a ta):PE X (.UnaryOp op a pos) (tUn r ta):=by
 intro pins s σ H Q I h
 exact UnaryOp_ (thn (ha pins s σ H _ I h) fun v s1 ⟨x,H1,I1,r1,q1⟩=>ho pins s1 σ H1 x v Q I1 r1 q1)
theorem opI {f:Value->Value->Sem Value}{C:Int->Int->Prop}{g:Int->Int->Int}
  (rule:∀ (i j:Int) (t u:Tok) (s:Shared) (Q:Value->Shared->Prop) (E:Value->Shared->Prop),C i j->Q (.int (g i j) s.toks) { s with toks:=s.toks+1 }->wpAny (model X.prog X.w) X.A (f (.int i t) (.int j u)) Q E s) :
  OpR X f (rI C fun i j=>.int (g i j)):=by
 intro pins s σ H x y v u Q I rx ry h
 obtain ⟨i,j,rfl,rfl,hc,q⟩:=h
 obtain ⟨t,rfl⟩:=rx
 obtain ⟨t',rfl⟩:=ry
 exact rule i j t t' s _ _ hc ⟨.int (g i j),H,I.tok _,⟨_,rfl⟩,q⟩
theorem KI {f:Value->Value->Sem Value}{g:Int->Int->Int}
  (rule:∀ (i j:Int) (t u:Tok) (s:Shared) (Q:Value->Shared->Prop) (E:Value->Shared->Prop),Q (.int (g i j) s.toks) { s with toks:=s.toks+1 }->wpAny (model X.prog X.w) X.A (f (.int i t) (.int j u)) Q E s) :
  OpR X f (rI0 fun i j=>.int (g i j)):=by
 intro pins s σ H x y v u Q I rx ry h
 obtain ⟨i,j,rfl,rfl,q⟩:=h
 obtain ⟨t,rfl⟩:=rx
 obtain ⟨t',rfl⟩:=ry
 exact rule i j t t' s _ _ ⟨.int (g i j),H,I.tok _,⟨_,rfl⟩,q⟩
theorem QF {f:Value->Value->Sem Value}{g:Int->Int->Bool}
  (rule:∀ (i j:Int) (t u:Tok) (s:Shared) (Q:Value->Shared->Prop) (E:Value->Shared->Prop),Q (.bool (g i j)) s->wpAny (model X.prog X.w) X.A (f (.int i t) (.int j u)) Q E s) :
  OpR X f (rI0 fun i j=>.bl (g i j)):=by
 intro pins s σ H x y v u Q I rx ry h
 obtain ⟨i,j,rfl,rfl,q⟩:=h
 obtain ⟨t,rfl⟩:=rx
 obtain ⟨t',rfl⟩:=ry
 exact rule i j t t' s _ _ ⟨.bl (g i j),H,I,rfl,q⟩
def KY (i j:Int):Prop:=0<j/\j<1073741824
def CMul (i j:Int):Prop:=(-(2 ^ 64)<i/\i<2 ^ 64)\/(-(2 ^ 64)<j/\j<2 ^ 64)
theorem CMul.ok {i j:Int}(h:CMul i j):IntMulOk i j:=by
 rcases h with ⟨h1,h2⟩ | ⟨h1,h2⟩
 ·exact .of_left (intBits_le_64 h1 h2)
 ·exact .of_right (intBits_le_64 h1 h2)
theorem Qi:OpR X (binaryOp .Add) (rI0 fun i j=>.int (i+j)):=KI fun _ _ _ _ _ _ _ q=>add_int q
theorem jO:OpR X (binaryOp .Sub) (rI0 fun i j=>.int (i-j)):=KI fun _ _ _ _ _ _ _ q=>sub_int q
theorem Qo:OpR X (binaryOp .Mult) (rI CMul fun i j=>.int (i*j)):=opI fun _ _ _ _ _ _ _ hc q=>mul_int q hc.ok
theorem zO:OpR X (binaryOp .FloorDiv) (rI KY fun i j=>.int (i/j)):=opI fun i j _ _ _ _ _ hc q=>by
 have h1:(0:Int)<j:=hc.1
 have h2:j<1073741824:=hc.2
 exact floordiv_int (by omega) (by rw [Int.fdiv_eq_ediv_of_nonneg i (by omega)]; exact q) (.inl (PyProof.noPylong_small (by omega)))
theorem zP:OpR X (binaryOp .Mod) (rI (fun _ j=>0<j) fun i j=>.int (i%j)):=opI fun i j _ _ _ _ _ hc q=>by
 have h1:(0:Int)<j:=hc
 exact mod_int' (by omega) (by rw [Int.fmod_eq_emod_of_nonneg i (by omega)]; exact q)
theorem unI {f:Value->Sem Value}{g:Int->Int}
  (rule:∀ (i:Int) (t:Tok) (s:Shared) (Q:Value->Shared->Prop) (E:Value->Shared->Prop),Q (.int (g i) s.toks) { s with toks:=s.toks+1 }->wpAny (model X.prog X.w) X.A (f (.int i t)) Q E s) :
  UnR X f (rU fun i=>.int (g i)):=by
 intro pins s σ H x v Q I rx h
 obtain ⟨i,rfl,q⟩:=h
 obtain ⟨t,rfl⟩:=rx
 exact rule i t s _ _ ⟨.int (g i),H,I.tok _,⟨_,rfl⟩,q⟩
theorem Qg:UnR X (unaryOp .USub) (rU fun i=>.int (-i)):=unI fun _ _ _ _ _ q=>neg_int q
end
section
variable {X:Cx}{a b c:Expr}{ta tb tc:TE}{pos:Pos}
theorem Wm {pins:List (Addr×Obj)}{σ:St}{H:Hp}{s:Shared}{Q:VK}{k k':Bool}(I:Inv X pins σ H s)(q:Q (.bl k) H)(e:k=k'):EP X pins σ Q (.bool k') s:=by
 subst e
 exact ⟨.bl k,H,I,rfl,q⟩
theorem X7:OpR X (compareOp .Lt) (rI0 fun i j=>.bl (decide (i<j))):=QF fun _ _ _ _ _ _ _ q=>lt_int q
theorem v3:OpR X (compareOp .LtE) (rI0 fun i j=>.bl (decide (i<=j))):=QF fun _ _ _ _ _ _ _ q=>le_int q
theorem Y6:OpR X (compareOp .Gt) (rI0 fun i j=>.bl (decide (j<i))):=QF fun _ _ _ _ _ _ _ q=>gt_int q
theorem OpR.or {f:Value->Value->Sem Value}{r r':R2}(h:OpR X f r)(h':OpR X f r'):OpR X f (fun x y H Q=>r x y H Q\/r' x y H Q):=by
 intro pins s σ H x y v u Q I rx ry q
 rcases q with q | q
 ·exact h pins s σ H x y v u Q I rx ry q
 ·exact h' pins s σ H x y v u Q I rx ry q
theorem zE (b:Expr){op:CmpOp}(h:autoParam (op≠.In) L2.au1._auto_1)(h2:autoParam (op≠.NotIn) L2.au1._auto_1):behindInMarks op b=false:=by
 have e1:(op==CmpOp.In)=false:=by cases op<;>first | rfl | exact absurd rfl h
 have e2:(op==CmpOp.NotIn)=false:=by cases op<;>first | rfl | exact absurd rfl h2
 cases b with
 | Set elts k _ =>
  show (k==0&&(op==.In||op==.NotIn)&&elts.all (constantsAlone 8))=false
  rw [e1,e2,Bool.or_self,Bool.and_false,Bool.false_and]
 | _=>rfl
theorem Ux {op:CmpOp}{r:R2}(ho:OpR X (compareOp op) r)(ha:PE X a ta)(hb:PE X b tb)(hm:behindInMarks op b=false):PE X (.Compare a [op] [b] pos) (tOp r ta tb):=by
 intro pins s σ H Q I h
 exact wpAny_Compare1 (J3 ha hb I h fun v u s2 x y H2 I2 rx ry q=>ho pins s2 σ H2 x y v u Q I2 rx ry q) hm
def UN (t:TE):TT:=fun σ H Q=>t σ H fun x H'=>∃ k,x=.bl k/\Q k H'
theorem VZ {op:CmpOp}{r:R2}(ho:OpR X (compareOp op) r)(ha:PE X a ta)(hb:PE X b tb)(hm:behindInMarks op b=false):PT X (.Compare a [op] [b] pos) (UN (tOp r ta tb)):=by
 intro pins s σ H Q I h
 refine wpAny_isTrue_Compare1 (thn (ha pins s σ H _ I h) fun v s1 ⟨x,H1,I1,r1,q1⟩=>thn (hb pins s1 σ H1 _ I1 q1) fun u s2 ⟨y,H2,I2,r2,q2⟩ =>
  thn (ho pins s2 σ H2 x y v u _ I2 r1 r2 q2) fun c s3 ⟨z,H3,I3,r3,k,e,q3⟩=>?_) hm
 subst e
 cases r3
 exact wpAny_truthy_bool ⟨H3,I3,q3⟩
def VA (r r':R2)(ta tb tc:TE):TE:=fun σ H Q=>ta σ H fun x H1=>tb σ H1 fun y H2=>r x y H2 fun z H3=>∃ k,z=.bl k /\
 (if k=true then tc σ H3 fun w' H4=>r' y w' H4 Q else Q (.bl false) H3)
theorem Ww {op op':CmpOp}{r r':R2}(ho:OpR X (compareOp op) r)(ho':OpR X (compareOp op') r')(ha:PE X a ta)(hb:PE X b tb)(hc:PE X c tc)
  (hm:autoParam (lastMarks [op,op'] [b,c]=false) L2.au4._auto_1):PT X (.Compare a [op,op'] [b,c] pos) (UN (VA r r' ta tb tc)):=by
 intro pins s σ H Q I h
 refine isTrue_chain (thn (ha pins s σ H _ I h) fun v s1 ⟨x,H1,I1,r1,q1⟩=>test_link (thn (hb pins s1 σ H1 _ I1 q1) fun u s2 ⟨y,H2,I2,r2,q2⟩ =>
  thn (ho pins s2 σ H2 x y v u _ I2 r1 r2 q2) fun d s3 ⟨z,H3,I3,r3,k,e,q3⟩=>?_)) hm
 subst e
 cases r3
 refine wpAny_truthy_bool ?_
 cases k with
 | false =>
  obtain ⟨k',e',q'⟩:=q3
  cases e'
  exact ite_ff ⟨H3,I3,q'⟩
 | true =>
  refine ite_tt (test_last (thn (hc pins s3 σ H3 _ I3 q3) fun w' s4 ⟨z',H4,I4,r4,q4⟩=>thn (ho' pins s4 σ H4 y z' u w' _ I4 r2 r4 q4) fun d' s5 ⟨z2,H5,I5,r5,k2,e2,q5⟩=>?_))
  subst e2
  cases r5
  exact wpAny_truthy_bool ⟨H5,I5,q5⟩
theorem uU:(sizeLine:Nat)<2 ^ 63:=by rw [sizeLine_eq]; decide
theorem Yb:OpR X (binaryOp .Add) (fun x y H Q=>∃ i j,x=.str i/\y=.str j/\i.length+j.length<=sizeLine/\Q (.str (i++j)) H):=by
 intro pins s σ H x y v u Q I rx ry h
 obtain ⟨i,j,rfl,rfl,hz,q⟩:=h
 obtain ⟨t,rfl⟩:=rx
 obtain ⟨t',rfl⟩:=ry
 exact add_str (fun t' tk=>⟨.str (i++j),H,I.tok _,⟨_,rfl⟩,q⟩) hz
theorem uB {x:V}{us:List Value}(r:Vals [x] us):∃ u,us=[u]/\RelV x u:=by
 cases r with
 | cons r1 r2=>cases r2; exact ⟨_,rfl,r1⟩
theorem X9 {x y:V}{us:List Value}(r:Vals [x,y] us):∃ u w',us=[u,w']/\RelV x u/\RelV y w':=by
 cases r with
 | cons r1 r2 =>
  cases r2 with
  | cons r3 r4=>cases r4; exact ⟨_,_,rfl,r1,r3⟩
theorem W2 (hc:X.calm=true):CallR X (.builtin "min") (fun xs H Q=>∃ i j,xs=[.int i,.int j]/\Q (.int (if j<i then j else i)) H):=by
 intro pins s σ H xs us Q I r h
 obtain ⟨i,j,rfl,q⟩:=h
 obtain ⟨u,w',rfl,⟨t,rfl⟩,⟨t',rfl⟩⟩:=X9 r
 refine min_two_ints (I.ok.hd hc) fun h' tk k=>⟨_,H,I.kept k,?_,q⟩
 by_cases hj:j<i
 ·rw [if_pos hj,if_pos hj]; exact ⟨_,rfl⟩
 ·rw [if_neg hj,if_neg hj]; exact ⟨_,rfl⟩
theorem XR:CallR X (.type "int") (fun xs H Q=>(∃ i,xs=[.int i]/\Q (.int i) H)\/∃ k,xs=[.bl k]/\Q (.int (if k then 1 else 0)) H):=by
 intro pins s σ H xs us Q I r h
 rcases h with ⟨i,rfl,q⟩ | ⟨k,rfl,q⟩
 ·obtain ⟨u,rfl,t,rfl⟩:=uB r
  exact call_int_int ⟨.int i,H,I,⟨_,rfl⟩,q⟩
 ·obtain ⟨u,rfl,r1⟩:=uB r
  cases r1
  exact call_int_bool ⟨.int (if k then 1 else 0),H,I.tok _,⟨_,rfl⟩,q⟩
end
structure ObjM (h:Heap)(x dx C:Addr)(mA:Str->Option Value):Prop where
 obj:h.get? x=some (PySem.W.instObj C dx)
 ns:h.Ns1 dx mA
 ne:dx≠x
theorem XG {h:Heap}{dx:Addr}{mA:Str->Option Value}(n:h.Ns1 dx mA):∃ od,h.get? dx=some od/\∀ name,PySem.W.lookIn name od=some (mA name):=by
 obtain ⟨o,es,ep,ho,hd,hk,_,hm⟩:=n
 refine ⟨o,ho,fun name=>?_⟩
 have e:=hm name
 unfold nsFind findBy at e
 rw [<- Array.find?_toList] at e
 unfold PySem.W.lookIn
 rw [hd]
 dsimp only
 split
 ·rename_i y q
  rw [q] at e
  exact congrArg some e
 ·rename_i q
  rw [q] at e
  have a:es.toList.any (·.refKey)=false:=by
   rw [List.any_eq_false]
   intro y hy
   obtain ⟨z,t,hkey⟩:=hk y (Array.mem_toList_iff.mp hy)
   simp [DictEntry.refKey,hkey]
  have a':¬ es.toList.any (·.refKey)=true:=by rw [a]; exact sE
  rw [if_neg a']
  exact congrArg some e
theorem ObjM.look {h:Heap}{x dx C:Addr}{mA:Str->Option Value}(I:ObjM h x dx C mA):∃ od,PySem.W.InstAt h x (PySem.W.instObj C dx) C (some od)/\∀ name,PySem.W.lookIn name od=some (mA name) :=
 let ⟨od,ho,hl⟩:=XG I.ns
 ⟨od,⟨I.obj,rfl,rfl,ho⟩,hl⟩
section
variable {prog:Program}{w:World}{A:Around}{E:Value->Shared->Prop}{s:Shared}{K:PySem.W.Frag}{x dx C f:Addr}{mA:Str->Option Value}{name:Str}{v:Value}
end
theorem RelO.some_of {v:V}{o:Option Value}(r:RelO (some v) o):∃ u,o=some u/\RelV v u:=by
 cases o with
 | none=>exact (show False from r).elim
 | some u=>exact ⟨u,rfl,r⟩
section
variable {P:Program}{w:World}{H H':Hp}{h h':Heap}{a C dx:Addr}{fs fs':List (Str×V)}
theorem VW (hok:HOk P w H h)(e:H a=some (.ins C dx fs)):∃ mA,ObjM h a dx C mA/\(∀ f,RelO (fs.lookup f) (mA f))/\PySem.Within mA (fs.map (·.1))/\fs.length<=1000/\H dx=some (.own a):=by
 obtain ⟨d,z,ne,ob,mA,n,r,q⟩:=(show ObjOk P w H h a (.ins C dx fs) from hok a _ e)
 exact ⟨mA,⟨ob,n,ne⟩,r,q,z,d⟩
end
structure Cls (K:PySem.W.Frag)(C:Addr):Prop where
 pg:PySem.W.plainGet K C Str.empty=true
 hd:PySem.W.hasDictIn K C=true
 po:PySem.W.plainOver K C=true
 sa:PySem.W.findIn K (.ref C) "__setattr__"=some (some (.builtin "object.__setattr__"))
theorem Cls.get {K:PySem.W.Frag}{C:Addr}(c:Cls K C)(f:Str):PySem.W.plainGet K C f=true:=c.pg
structure Con (K:PySem.W.Frag)(C:Addr)(f:Str)(v:V)(u:Value):Prop where
 at_:PySem.W.findIn K (.ref C) f=some (some u)
 rel:RelV v u
 get:PySem.W.specialIn K u "__get__"=some none
 cp:PySem.W.copiedNames.contains f=false
structure Meth (K:PySem.W.Frag)(C:Addr)(m:Str)(f:Addr):Prop where
 at_:PySem.W.findIn K (.ref C) m=some (some (.ref f))
 fn:PySem.W.isFn K (.ref f)=true
 kp:PySem.W.keepIn K (.ref f)=true
section
variable {X:Cx}{pins:List (Addr×Obj)}{σ:St}{H:Hp}{s:Shared}{a C dx:Addr}{fs:List (Str×V)}{f:Str}{v:V}{A:Around}{E:Value->Shared->Prop}
end
section
variable {X:Cx}{o e value:Expr}{f:Str}{pos pos' tpos:Pos}{ta tv:TE}
end
section
variable {X:Cx}{pins:List (Addr×Obj)}{σ:St}{H:Hp}{s:Shared}{A:Around}{E:Value->Shared->Prop}{Q:Value->Shared->Prop}{c:Value}{b:Bool}
inductive TyOf (K:PySem.W.Frag) (H:Hp):V->Value->Prop where
 | non:TyOf K H .non (.type "NoneType")
 | bl (x:Bool):TyOf K H (.bl x) (.type "bool")
 | int (i:Int):TyOf K H (.int i) (.type "int")
 | str (x:Str):TyOf K H (.str x) (.type "str")
 | flt (x:UInt64):TyOf K H (.flt x) (.type "float")
 | lst {a:Addr} {xs:List V} (e:H a=some (.lst xs)):TyOf K H (.ref a) (.type "list")
 | frz {a:Addr} {o:Obj} {xs:List V} (e:H a=some (.frz o (.lst xs))):TyOf K H (.ref a) (.type "list")
 | tup {a:Addr} {xs:List V} (e:H a=some (.tup xs)):TyOf K H (.ref a) (.type "tuple")
 | dK {a:Addr} {kvs:List (Key×V)} (e:H a=some (.dK kvs)):TyOf K H (.ref a) (.type "dict")
 | dT {a:Addr} {kvs:List (List Key×V)} (e:H a=some (.dT kvs)):TyOf K H (.ref a) (.type "dict")
 | ins {a C dx:Addr} {fs:List (Str×V)} (e:H a=some (.ins C dx fs)) (cl:Cls K C) (ha:PySem.W.findIn K (.ref C) "__class__"=some (some (.builtin "object.__class__")))
   (hn:PySem.W.specialIn K (.builtin "object.__class__") "__get__"=some (some (.builtin "getset_descriptor.__get__"))) (htk:PySem.W.takesIn K (.builtin "object.__class__")=some true)
   (hm:PySem.W.mroIn K C (.type "object")=some true):TyOf K H (.ref a) (.ref C)
theorem xX {x:V}{u t:Value}(I:Inv X pins σ H s)(rx:RelV x u)(ty:TyOf X.K H x t)(e:PySem.W.kitOne X.K t c=some b)(h:∀ tk,Q (.bool b) { s with toks:=tk }) :
  wpAny (model X.prog X.w) A (call (.builtin "isinstance") [u,c]) Q E s:=by
 cases ty with
 | non=>cases (show u=Value.none from rx); exact PySem.W.kia_one PySem.W.kitx_none I.kIn True.intro e (fun z=>nomatch z) h
 | bl y=>cases (show u=Value.bool y from rx); exact PySem.W.kia_one PySem.W.kitx_bool I.kIn True.intro e (fun z=>nomatch z) h
 | int i=>obtain ⟨t,q⟩:=(show ∃ t,u=Value.int i t from rx); cases q; exact PySem.W.kia_one PySem.W.kitx_int I.kIn True.intro e (fun z=>nomatch z) h
 | str y=>obtain ⟨t,q⟩:=(show ∃ t,u=Value.str y t from rx); cases q; exact PySem.W.kia_one PySem.W.kitx_str I.kIn True.intro e (fun z=>nomatch z) h
 | flt y=>obtain ⟨t,q⟩:=(show ∃ t,u=Value.float y t from rx); cases q; exact PySem.W.kia_one PySem.W.kitx_float I.kIn True.intro e (fun z=>nomatch z) h
 | @lst a xs ea =>
  cases (show u=Value.ref a from rx)
  obtain ⟨_,_,n,_,h1⟩:=(show ObjOk X.prog X.w H s.heap a (.lst xs) from I.hok a _ ea)
  exact PySem.W.kia_one PySem.W.kitx_list I.kIn ⟨_,h1,rfl⟩ e (fun z=>nomatch z) h
 | @frz a ob xs ea =>
  cases (show u=Value.ref a from rx)
  obtain ⟨_,_,_,n,_,h1⟩:=(show ObjOk X.prog X.w H s.heap a (.frz ob (.lst xs)) from I.hok a _ ea)
  exact PySem.W.kia_one PySem.W.kitx_list I.kIn ⟨_,h1,rfl⟩ e (fun z=>nomatch z) h
 | @tup a xs ea =>
  cases (show u=Value.ref a from rx)
  obtain ⟨_,_,_,p⟩:=(show ObjOk X.prog X.w H s.heap a (.tup xs) from I.hok a _ ea)
  obtain ⟨o,h1,h2,_⟩:=p
  exact PySem.W.kia_one PySem.W.kitx_tuple I.kIn ⟨o,h1,h2⟩ e (fun z=>nomatch z) h
 | @dK a kvs ea =>
  cases (show u=Value.ref a from rx)
  obtain ⟨_,_,vs,_,p⟩:=(show ObjOk X.prog X.w H s.heap a (.dK kvs) from I.hok a _ ea)
  obtain ⟨o,es,ep,h1,h2,_⟩:=p
  exact PySem.W.kia_one PySem.W.kitx_dict I.kIn ⟨o,h1,h2.1⟩ e (fun z=>nomatch z) h
 | @dT a kvs ea =>
  cases (show u=Value.ref a from rx)
  obtain ⟨_,_,xs,_,o,es,ep,h1,h2,_⟩:=(show ObjOk X.prog X.w H s.heap a (.dT kvs) from I.hok a _ ea)
  exact PySem.W.kia_one PySem.W.kitx_dict I.kIn ⟨o,h1,h2.1⟩ e (fun z=>nomatch z) h
 | @ins a C dx fs ea cl ha hn htk hm =>
  cases (show u=Value.ref a from rx)
  obtain ⟨mA,O,_⟩:=VW I.hok ea
  obtain ⟨od,J,_⟩:=O.look
  exact PySem.W.kia_one (PySem.W.kitx_own (cl.get _) cl.hd ha hn htk hm) I.kIn J e (fun z=>nomatch z) h
end
structure Room (k:Nat)(A:Around):Prop where
 hd:A.handled=none
 dp:A.depth+3*k+5<recursionLimit
 un:A.units+16*k+200<cLine
theorem Room.mono {j k:Nat}{A:Around}(r:Room k A)(h:j<=k):Room j A:=⟨r.hd,by have:=r.dp; omega,by have:=r.un; omega⟩
theorem Room.deeper {k:Nat}{A:Around}(r:Room (k+1) A)(env:Env):Room k (A.deeper env) :=
 ⟨r.hd,by have:=r.dp; show A.depth+1+3*k+5<_; omega,by have:=r.un; show A.units+3+16*k+200<_; omega⟩
theorem Room.in1 {k:Nat}{A:Around}(r:Room (k+1) A):Room k A.in1 :=
 ⟨r.hd,by have:=r.dp; show A.depth+3*k+5<_; omega,by have:=r.un; show A.units+1+16*k+200<_; omega⟩
theorem Room.depth {k:Nat}{A:Around}(r:Room k A):A.depth<recursionLimit:=by have:=r.dp; omega
theorem Room.units {k:Nat}{A:Around}(r:Room k A):A.units+64<cLine:=by have:=r.un; omega
def QJ:TA:=fun _ H Q=>Q [] H
def Xj (ta:TE)(tr:TA):TA:=fun σ H Q=>ta σ H fun x H1=>tr σ H1 fun xs H2=>Q (x::xs) H2
section
variable {X:Cx}{e:Expr}{es:List Expr}{te:TE}{t:TA}{pos:Pos}
theorem wA:PA X [] QJ:=fun _ _ _ _ H Q I h=>Calls.spliced_nil ⟨[],H,I,.nil,h⟩
theorem yi (ha:PE X e te)(hr:PA X es t)(hs:autoParam (starEach (e::es) X.env=(false,eval e X.env)::starEach es X.env) L2.au3._auto_1):PA X (e::es) (Xj te t):=by
 intro pos pins s σ H Q I h
 rw [hs]
 show wpAny _ _ (spliced ((false,eval e X.env)::backTo pos (starEach es X.env))) _ _ s
 refine Calls.spliced_cons (thn (ha pins s σ H _ I h) fun u s1 ⟨x,H1,I1,r1,q1⟩=>?_)
 exact thn (hr pos pins s1 σ H1 _ I1 q1) fun us s2 ⟨xs,H2,I2,r2,q2⟩=>⟨x::xs,H2,I2,.cons r1 r2,q2⟩
def JG (t:TA):TE:=fun σ H Q=>t σ H fun xs H1=>xs.length<=sizeLine/\∀ p,H1 p=none->Q (.ref p) (upd H1 p (.tup xs))
def Km (t:TA):TE:=fun σ H Q=>t σ H fun xs H1=>xs.length<=sizeLine/\∀ p,H1 p=none->Q (.ref p) (upd H1 p (.lst xs))
theorem Yi {x1}(h:PA X es t):PE X (.Tuple es x1 pos) (JG t):=by
 intro pins s σ H Q I hq
 refine wpAny_Tuple_spliced (thn (h pos pins s σ H _ I hq) fun us s1 ⟨xs,H1,I1,r,z,q⟩=>⟨by rw [<- r.length]; exact z,?_⟩)
 have hf:H1 s1.heap.objs.size=none:=I1.hok.fresh (sD _)
 refine ⟨.ref s1.heap.objs.size,upd H1 s1.heap.objs.size (.tup xs),I1.laid (t':=s1.toks) (fun b u e=>Heap.get?_push_of_some _ e) (sD _) ?_,rfl,q _ hf⟩
 exact ⟨z,us,r,TupN.new _ _⟩
theorem J1 (h:PA X es t):PE X (.List es pos) (Km t):=by
 intro pins s σ H Q I hq
 refine wpAny_List_spliced (thn (h pos pins s σ H _ I hq) fun us s1 ⟨xs,H1,I1,r,z,q⟩=>⟨by rw [<- r.length]; exact z,?_⟩)
 have hf:H1 s1.heap.objs.size=none:=I1.hok.fresh (sD _)
 refine ⟨.ref s1.heap.objs.size,upd H1 s1.heap.objs.size (.lst xs),I1.laid (t':=s1.toks) (fun b u e=>Heap.get?_push_of_some _ e) (sD _) ?_,rfl,q _ hf⟩
 exact ⟨z,us,0,r,Heap.get?_push_size _ rfl⟩
end
abbrev Sp:=List V->Hp->VK->XK->Prop
abbrev CXT:=List Env->Hp->Shared->XK->Value->Shared->Prop
structure Env0 (P:Program)(w:World)(K:PySem.W.Frag)(mg:Str->Option Value)(base:Heap)(A:Around)(outer:List Env)(s:Shared)(H:Hp):Prop where
 frames:A.frames=some outer
 mod:Mod K mg base
 bs:∀ b o,base.get? b=some o->s.heap.get? b=some o/\H b=none
 bsz:base.objs.size<=s.heap.objs.size
 funs:s.heap.FunFrames base outer
 frf:∀ b∈frs outer,H b=none
 hok:HOk P w H s.heap
 bare:AllBare s.gens
def CE (outer:List Env)(P:Program)(w:World)(H:Hp)(s:Shared)(Q:VK)(u:Value)(s':Shared):Prop :=
 ∃ v H',s'.os=s.os/\AllBare s'.gens/\Un (frs outer) [] H H' s.heap s'.heap/\HOk P w H' s'.heap/\RelV v u/\Q v H'
def CR (CX:CXT)(outer:List Env)(P:Program)(w:World)(H:Hp)(s:Shared)(Q:VK)(E:XK)(r:Result)(s':Shared):Prop :=
 match r with
 | .ok (.ret u)=>CE outer P w H s Q u s'
 | .ok _=>False
 | .error e=>CX outer H s E e s'
structure FnOk (P:Program)(w:World)(K:PySem.W.Frag)(mg:Str->Option Value)(base:Heap)(CX:CXT)(k:Nat)(f:Addr)(fd:FuncData)(ps:List Str)(sp:Sp):Prop where
 len:∀ vs H Q E,sp vs H Q E->vs.length=ps.length
 run:∀ (A:Around) (outer:List Env) (s:Shared) (H:Hp) (args:Args) (us:List Value) (vs:List V) (Q:VK) (E:XK),Room k A->Env0 P w K mg base A outer s H->BindsTo s fd args (ps.zip us)->Vals vs us->sp vs H Q E ->
  codeAny (model P w) A (.call (.ref f) args) (CR CX outer P w H s Q E) s
theorem FnOk.mono {P:Program}{w:World}{K:PySem.W.Frag}{mg:Str->Option Value}{base:Heap}{CX:CXT}{j k:Nat}{f:Addr}{fd:FuncData}{ps:List Str}{sp:Sp}(F:FnOk P w K mg base CX j f fd ps sp)(h:j<=k) :
  FnOk P w K mg base CX k f fd ps sp:=⟨F.len,fun A outer s H args us vs Q E hr=>F.run A outer s H args us vs Q E (hr.mono h)⟩
theorem Env0.in1 {P:Program}{w:World}{K:PySem.W.Frag}{mg:Str->Option Value}{base:Heap}{A:Around}{outer:List Env}{s:Shared}{H:Hp}(e:Env0 P w K mg base A outer s H) :
  Env0 P w K mg base A.in1 outer s H:=⟨e.frames,e.mod,e.bs,e.bsz,e.funs,e.frf,e.hok,e.bare⟩
section
variable {X:Cx}{pins:List (Addr×Obj)}{σ:St}{H:Hp}{s s':Shared}
theorem Inv.env0 (I:Inv X pins σ H s):Env0 X.prog X.w X.K X.mg X.base X.A X.stack s H :=
 ⟨I.ok.frames,I.ok.mod,I.bs,rD I.ok.bsz I.sz,I.stack,I.stkFree,I.hok,I.bare⟩
theorem Inv.after {Q:VK}{u:Value}(I:Inv X pins σ H s)(h:CE X.stack X.prog X.w H s Q u s'):EP X pins σ Q u s':=by
 obtain ⟨v,H',os,bare,un,hok,r,q⟩:=h
 obtain ⟨hh,g,d,t,os'⟩:=s'
 obtain rfl:os'=s.os:=os
 exact ⟨v,H',I.call (h':=hh) (g':=g) (d':=d) (t':=t) (ch:=[]) un hok bare (fun b z=>absurd z (by simp)),r,q⟩
end
def Wf (sp:Sp)(dvs:List V)(E:XK)(t:TA):TE:=fun σ H Q=>t σ H fun vs H1=>sp (vs++dvs) H1 Q E
def Binds (K:PySem.W.Frag)(fd:FuncData)(ps:List Str)(ds:List Value):Prop :=
 ∀ (s:Shared) (us:List Value),K.In s.heap->(us++ds).length=ps.length->BindsTo s fd ⟨us,[]⟩ (ps.zip (us++ds))
theorem Binds.all {K:PySem.W.Frag}{fd:FuncData}{ps:List Str}(h:∀ us:List Value,us.length=ps.length->bindArgs fd ⟨us,[]⟩=pure (ps.zip us)):Binds K fd ps []:=fun s us _ hl=>by
 rw [sJ] at hl ⊢
 exact .of_eq (h us hl)
def wU (CX:CXT)(X:Cx)(E:XK):Prop:=∀ (pins:List (Addr×Obj)) (σ:St) (H:Hp) (s:Shared) (e:Value) (s':Shared),Inv X pins σ H s->CX X.stack H s E e s'->X.xe e s'
section
variable {X:Cx}{CX:CXT}{k:Nat}{f C:Addr}{fd:FuncData}{ps:List Str}{sp:Sp}{dvs:List V}{ds:List Value}{E:XK}{x m:Str}{p pos apos:Pos}{e o:Expr}{es:List Expr}{ta:TE}{t:TA}
theorem WW {pins:List (Addr×Obj)}{σ:St}{H:Hp}{s:Shared}{Q:VK}{us:List Value}{vs:List V}(F:FnOk X.prog X.w X.K X.mg X.base CX k f fd ps sp)(hr:Room k X.A)(hb:Binds X.K fd ps ds)(hd:Vals dvs ds)(hx:wU CX X E)
  (I:Inv X pins σ H s) (r:Vals vs us) (h:sp (vs++dvs) H Q E):wpAny (model X.prog X.w) X.A (call (.ref f) us) (EP X pins σ Q) X.xe s:=by
 have r2:Vals (vs++dvs) (us++ds):=r.append hd
 have hl:(us++ds).length=ps.length:=by rw [<- r2.length]; exact F.len _ _ _ _ h
 refine wpAny_call (codeAny_mono (F.run X.A X.stack s H ⟨us,[]⟩ (us++ds) (vs++dvs) Q E hr I.env0 (hb s us I.kIn hl) r2 h) fun r s' hq=>?_)
 cases r with
 | error e=>exact hx pins σ H s e s' I hq
 | ok fl =>
  cases fl with
  | ret u=>exact I.after hq
  | next=>exact False.elim hq
  | brk=>exact False.elim hq
  | cont=>exact False.elim hq
theorem Ud (F:FnOk X.prog X.w X.K X.mg X.base CX k f fd ps sp)(hr:Room k X.A)(hg:Gl X x)(hm:X.mg x=some (.ref f))(hk:PySem.W.keepIn X.K (.ref f)=true)(hb:Binds X.K fd ps ds)(hd:Vals dvs ds)(hx:wU CX X E)
  (ha:PA X (e::es) t) (hdb:autoParam ((x==("__debug__":Str))=false) L2.au1._auto_1) (he:autoParam (starEach (e::es) X.env=(false,eval e X.env)::starEach es X.env) L2.au3._auto_1) (hpl:autoParam ((backTo pos (starEach es X.env)).any (·.1)=false) L2.au3._auto_1) :
  PE X (.Call (.Name x p) (e::es) [] pos) (Wf sp dvs E t):=by
 intro pins s σ H Q I h
 refine wpAny_Call_Name_kw (ua I hg hm ?_ hdb)
 refine PySem.W.callWith_K (h₀:=X.base) I.ok.mod.kin hk (thn (ha pos pins s σ H _ I h) fun us s1 ⟨vs,H1,I1,r,q⟩=>⟨I1.kIn,?_⟩) he hpl
 exact WW F hr hb hd hx I1 r q
structure Mk (K:PySem.W.Frag)(C f:Addr):Prop where
 makes:PySem.W.makesIn K C=true
 init:PySem.W.findIn K (.ref C) "__init__"=some (some (.ref f))
 fn:PySem.W.isFn K (.ref f)=true
 kp:PySem.W.keepIn K (.ref C)=true
end
section
variable {X:Cx}{CX:CXT}{k:Nat}{f C:Addr}{fd:FuncData}{ps ks:List Str}{sp:Sp}{E:XK}{x m:Str}{p pos apos kpos:Pos}{e o:Expr}{es:List Expr}{kws:List Keyword}{te ta:TE}{t tk:TA}{nm:Option Str}
structure KBinds (K:PySem.W.Frag)(fd:FuncData)(ps ks:List Str)(g:List Value->List Value->List Value)(gV:List V->List V->List V):Prop where
 to:∀ (s:Shared) (us ws:List Value),K.In s.heap->(g us ws).length=ps.length->BindsTo s fd ⟨us,ks.zip ws⟩ (ps.zip (g us ws))
 rel:∀ {vs:List V} {us:List Value} {zs:List V} {ws:List Value},Vals vs us->Vals zs ws->Vals (gV vs zs) (g us ws)
variable {g:List Value->List Value->List Value}{gV:List V->List V->List V}
end
structure FnScope (N P:List Str)(sc:Scope):Prop where
 kind:sc.kind=.function
 co:sc.isCoroutine=false
 gen:sc.isGenerator=false
 nd:N.Nodup
 pre:N.take P.length=P
 par:∀ x∈P,sc.names.lookup x=some .local\/sc.names.lookup x=some .cell
 nofree:∀ y∈sc.names,y.2≠.free
theorem kz {kindOf:Str->Option NameKind}{x:Str}:∀ {binds:List (Str×Value)} {m:Str->Option Value},(∀ v,(x,v)∉binds)->bindL kindOf binds m x=m x
 | [],_,_=>rfl
 | (n,v)::r,m,h=>by
  unfold bindL
  rw [kz fun w hw=>h w (sA _ hw)]
  split
  ·have:x≠n:=by rintro rfl; exact h v tY
   simp [this]
  ·rfl
theorem kA {kindOf:Str->Option NameKind}{x:Str}:∀ {binds:List (Str×Value)} {m:Str->Option Value},(∀ v,(x,v)∉binds)->bindC kindOf binds m x=m x
 | [],_,_=>rfl
 | (n,v)::r,m,h=>by
  unfold bindC
  rw [kA fun w hw=>h w (sA _ hw)]
  split
  ·rfl
  ·have:x≠n:=by rintro rfl; exact h v tY
   simp [this]
theorem qf {kindOf:Str->Option NameKind}{x:Str}{v:Value}:∀ {P:List Str} {vs:List Value} {i:Nat} {m:Str->Option Value},P.Nodup->P[i]?=some x->vs[i]?=some v->kindOf x=some .local ->
  bindL kindOf (P.zip vs) m x=some v
 | [],_,_,_,_,h,_,_=>by simp at h
 | _::_,[],_,_,_,_,h,_=>by simp at h
 | p::P,w::vs,0,m,nd,h1,h2,hk=>by
  simp at h1 h2; subst h1; subst h2
  show bindL kindOf ((p,w)::P.zip vs) m p=_
  unfold bindL
  rw [kz fun v hv=>(sX.mp nd).1 (List.of_mem_zip hv).1,if_pos hk]
  simp
 | p::P,w::vs,i+1,m,nd,h1,h2,hk=>by
  show bindL kindOf ((p,w)::P.zip vs) m x=_
  unfold bindL
  exact qf (i:=i) (sX.mp nd).2 (by simpa using h1) (by simpa using h2) hk
theorem uV {kindOf:Str->Option NameKind}{x:Str}{v:Value}:∀ {P:List Str} {vs:List Value} {i:Nat} {m:Str->Option Value},P.Nodup->P[i]?=some x->vs[i]?=some v->kindOf x≠some .local ->
  bindC kindOf (P.zip vs) m x=some v
 | [],_,_,_,_,h,_,_=>by simp at h
 | _::_,[],_,_,_,_,h,_=>by simp at h
 | p::P,w::vs,0,m,nd,h1,h2,hk=>by
  simp at h1 h2; subst h1; subst h2
  show bindC kindOf ((p,w)::P.zip vs) m p=_
  unfold bindC
  rw [kA fun v hv=>(sX.mp nd).1 (List.of_mem_zip hv).1,if_neg hk]
  simp
 | p::P,w::vs,i+1,m,nd,h1,h2,hk=>by
  show bindC kindOf ((p,w)::P.zip vs) m x=_
  unfold bindC
  exact uV (i:=i) (sX.mp nd).2 (by simpa using h1) (by simpa using h2) hk
def start (N:List Str)(vs:List V):St:=vs.map some++List.replicate (N.length-vs.length) none
def xl (CX:CXT)(P:Program)(w:World)(K:PySem.W.Frag)(mg:Str->Option Value)(base:Heap)(N:List Str)(qual:Str)(scope:Scope)(f:Addr)(cd:Value)(A:Around)(outer:List Env)(s:Shared)(H:Hp)(E:XK):Cx where
 prog:=P
 w:=w
 K:=K
 mg:=mg
 base:=base
 A:=A.deeper (envOfC qual scope s.heap.objs.size f cd)
 N:=N
 s₀:=s
 H₀:=H
 env:=envOfC qual scope s.heap.objs.size f cd
 outer:=outer
 stack:=envOfC qual scope s.heap.objs.size f cd::outer
 ex:=[]
 calm:=true
 fn:=fun _=>true
 pn:=[]
 xe:=fun e s'=>wpAny (model P w) (A.deeper (envOfC qual scope s.heap.objs.size f cd)) (leaving (envOfC qual scope s.heap.objs.size f cd) e) (fun _ s''=>CX outer H s E e s'') (fun e' s''=>CX outer H s E e' s'') s'
theorem vX {sc:Scope}{n:Nat}{x:Str}(h:sc.names.lookup x=some .cell):∃ c,(cellsFrom n sc.names []).lookup x=some c:=by
 have q:=PySem.W.cellsFrom_some sc.names n [] (.inl h)
 exact Option.isSome_iff_exists.mp q
theorem Xl {CX:CXT}{P:Program}{w:World}{K:PySem.W.Frag}{mg:Str->Option Value}{base:Heap}{N ps:List Str}{qual:Str}{scope:Scope}{f:Addr}{cd:Value}{A:Around}{outer:List Env}{s s1:Shared}{H:Hp}{E:XK}{us:List Value}{vs:List V}
  (S:FnScope N ps scope) (hd:A.handled=none) (e0:Env0 P w K mg base A outer s H) (hl:vs.length=ps.length) (r:Vals vs us)
  (x:InCallC s s.heap.objs.size (bindL (envOfC qual scope s.heap.objs.size f cd).kindOf (ps.zip us) fun _=>none) (cellsFrom (s.heap.objs.size+1) scope.names []) (bindC (envOfC qual scope s.heap.objs.size f cd).kindOf (ps.zip us) fun _=>none) s1) :
  Inv (xl CX P w K mg base N qual scope f cd A outer s H E) [] (start N vs) H s1:=by
 have hpl:ps.length<=N.length:=by have:=congrArg List.length S.pre; rw [rC] at this; omega
 obtain ⟨h1,tk,rfl,hk⟩:=x.done
 have noA:∀ b:Addr,b∉(xl CX P w K mg base N qual scope f cd A outer s H E).ex:=fun b z=>absurd (show b∈([]:List Addr) from z) (by simp)
 refine ⟨⟨e0.mod,S.kind,rfl,rfl,sD _,fun y z c h1 h2=>?_,fun y hy=>?_,fun y c _ h=>?_,fun _=>hd,Around.frames_deeper e0.frames,.inr ⟨rfl,rfl⟩,fun b z=>absurd z (noA b),e0.bs,e0.bsz,fun b _ _=>noA b,fun b z=>absurd z (noA b),e0.funs,e0.frf⟩,
  rfl,e0.bare,Un.kept hk,⟨_,x.toInCall.ns,fun i y v h1 h2 h3=>?_⟩,fun y c h=>⟨_,x.cell y c h⟩,e0.hok.fresh (sD _),fun y c h=>?_,fun p hp=>absurd (show p∈([]:List (Addr×Obj)) from hp) (by simp),e0.hok.kept hk,?_⟩
 ·exact name_of_addr x.apart (PySem.mem_of_lookup h1) (PySem.mem_of_lookup h2)
 ·have hy:scope.names.lookup y=some .cell\/scope.names.lookup y=some .free:=hy
  rcases hy with hy | hy
  ·exact vX hy
  ·exact absurd rfl (S.nofree _ (PySem.mem_of_lookup hy))
 ·exact Nat.le_of_lt (x.above y c (PySem.mem_of_lookup h))
 ·have hi:i<vs.length:=by
   unfold start at h2
   by_cases hi:i<vs.length
   ·exact hi
   ·rw [rM (by simpa using hi)] at h2
    rw [rK] at h2
    split at h2<;>cases h2
  have ha:vs[i]?=some v:=by
   unfold start at h2
   rw [rG (by simpa using hi),sT] at h2
   cases e:vs[i]? with
   | none=>rw [e] at h2; cases h2
   | some a=>rw [e] at h2; cases h2; rfl
  obtain ⟨u,hu,rv⟩:=r.get ha
  have hp:ps[i]?=some y:=by
   rw [<- S.pre,List.getElem?_take_of_lt (by omega)]; exact h1
  have ndP:ps.Nodup:=by rw [<- S.pre]; exact S.nd.sublist (List.take_sublist _ _)
  refine ⟨u,rv,?_⟩
  rcases S.par y (List.mem_of_getElem? hp) with k | k
  ·exact .inl ⟨k,qf ndP hp hu k⟩
  ·obtain ⟨c,e⟩:=vX (n:=s.heap.objs.size+1) k
   refine .inr ⟨.inl k,c,e,?_⟩
   have q:=x.cell y c e
   rw [uV ndP hp hu (by show scope.names.lookup y≠_; rw [k]; decide)] at q
   exact q
 ·exact e0.hok.fresh (Nat.le_of_lt (x.above y c (PySem.mem_of_lookup h)))
 ·unfold start
  show _=N.length
  rw [tZ,sO,sY]
  omega
theorem WQ {CX:CXT}{P:Program}{w:World}{K:PySem.W.Frag}{mg:Str->Option Value}{base:Heap}{k:Nat}{f:Addr}{name qual:Str}{params:Arguments}{body:List Stmt}{scope:Scope}{dV kV doc pm cdv ct oc:Value}{an od:Option Addr}
  {osl:Array (Option Value)} {N ps:List Str} {sp:Sp} (lk:K.lookup f=some ⟨oc,od,.func (PySem.W.fnOf name qual params body scope dV kV doc pm an cdv ct),osl⟩) (hcd:PySem.W.codeIn K cdv qual=true) (S:FnScope N ps scope)
  (len:∀ vs H Q E,sp vs H Q E->vs.length=ps.length)
  (hbody:∀ (A:Around) (outer:List Env) (s:Shared) (H:Hp) (vs:List V) (Q:VK) (E:XK),Room k (A.deeper (envOfC qual scope s.heap.objs.size f cdv))->sp vs H Q E ->
   ∃ t,PSs (xl CX P w K mg base N qual scope f cdv A outer s H E) body t/\t { nx:=fun _ H'=>Q .non H',rt:=Q } (start N vs) H) :
  FnOk P w K mg base CX (k+1) f (PySem.W.fnOf name qual params body scope dV kV doc pm an cdv ct) ps sp:=by
 refine ⟨len,fun A outer s H args us vs Q E hr e0 hb r hsp=>?_⟩
 have hl:=len _ _ _ _ hsp
 have KX:K.In s.heap:=e0.mod.kin.keeps fun b o e=>(e0.bs b o e).1
 have lim:s.heap.NoLimit:=e0.mod.nolimit.keeps fun b o e=>(e0.bs b o e).1
 have hkind:∀ y∈ps.zip us,scope.names.lookup y.1=some .local\/(scope.names.lookup y.1=some .cell/\((cellsFrom (s.heap.objs.size+1) scope.names []).lookup y.1).isSome=true):=fun ⟨n,v⟩ hy=>by
  rcases S.par n (List.of_mem_zip hy).1 with q | q
  ·exact .inl q
  ·exact .inr ⟨q,PySem.W.cellsFrom_some _ _ _ (.inl q)⟩
 refine codeAny_call_function hr.depth (KX _ _ lk) rfl S.co S.gen rfl (PySem.W.codeRec_of KX hcd) (hb _ _ _ _ ?_)
 refine wpAny_newFunctionEnv_cells S.kind hkind fun env he s1 x=>?_
 subst he
 refine ⟨lim.keeps x.toInCall.keep,codeAny_func ?_⟩
 obtain ⟨t,ht,hq⟩:=hbody A outer s H vs Q E (hr.deeper _) hsp
 have I:Inv (xl CX P w K mg base N qual scope f cdv A outer s H E) [] (start N vs) H s1:=Xl S hr.hd e0 hl r x
 refine wpAny_mono (ht [] s1 (start N vs) H _ I hq) (fun fl s' hs=>?_) fun e s' hs=>hs
 have fin:∀ {σ':St} {H':Hp} {v:V} {u:Value},Inv (xl CX P w K mg base N qual scope f cdv A outer s H E) [] σ' H' s'->RelV v u->Q v H'->CE outer P w H s Q u s' :=
  fun {σ' H' v u} J rv q=>⟨v,H',J.os,J.bare,J.base,J.hok,rv,q⟩
 cases fl with
 | ret u =>
  obtain ⟨v,σ',H',J,rv,q⟩:=hs
  exact fin J rv q
 | next =>
  obtain ⟨σ',H',J,q⟩:=hs
  exact fin (v:=V.non) (u:=Value.none) J rfl q
 | brk =>
  obtain ⟨_,_,_,q⟩:=hs
  exact False.elim q
 | cont =>
  obtain ⟨_,_,_,q⟩:=hs
  exact False.elim q
section
variable {X:Cx}{x:Str}{p pos:Pos}{e:Expr}{es:List Expr}{t:TA}{id T:String}{r:List V->Hp->VK->Prop}
def tCB (r:List V->Hp->VK->Prop)(t:TA):TE:=fun σ H Q=>t σ H fun vs H1=>r vs H1 Q
theorem vh (hc:CallR X (.builtin id) r)(hg:Gl X x)(hm:X.mg x=none)(hv:bootBuiltins x=some (.builtin id))(ha:PA X (e::es) t)(hn:autoParam (x≠"__name__") L2.au1._auto_1)(hdb:autoParam ((x==("__debug__":Str))=false) L2.au1._auto_1)
  (he:autoParam (starEach (e::es) X.env=(false,eval e X.env)::starEach es X.env) L2.au3._auto_1) (hpl:autoParam ((backTo pos (starEach es X.env)).any (·.1)=false) L2.au3._auto_1):PE X (.Call (.Name x p) (e::es) [] pos) (tCB r t):=by
 intro pins s σ H Q I h
 refine wpAny_Call_Name_kw (Z0 I hg hm hv ?_ hn hdb)
 exact PyProof.Rows.callWith_builtin1 (thn (ha pos pins s σ H _ I h) fun us s1 ⟨vs,H1,I1,r1,q1⟩=>hc pins s1 σ H1 vs us Q I1 r1 q1) he hpl
theorem XA (hc:CallR X (.type T) r)(hg:Gl X x)(hm:X.mg x=none)(hv:bootBuiltins x=some (.type T))(ha:PA X (e::es) t)(hn:autoParam (x≠"__name__") L2.au1._auto_1)(hdb:autoParam ((x==("__debug__":Str))=false) L2.au1._auto_1)
  (he:autoParam (starEach (e::es) X.env=(false,eval e X.env)::starEach es X.env) L2.au3._auto_1) (hpl:autoParam ((backTo pos (starEach es X.env)).any (·.1)=false) L2.au3._auto_1):PE X (.Call (.Name x p) (e::es) [] pos) (tCB r t):=by
 intro pins s σ H Q I h
 refine wpAny_Call_Name_kw (Z0 I hg hm hv ?_ hn hdb)
 exact PyProof.Rows.callWith_type1 (thn (ha pos pins s σ H _ I h) fun us s1 ⟨vs,H1,I1,r1,q1⟩=>hc pins s1 σ H1 vs us Q I1 r1 q1) he hpl
end
end L2
namespace HT
open PySem PyProof.Rows
section
open PySem.SeqAt
open PySem.AutoSeq1 (wpAny_loadPart')
open PySem.MeetsSeq PySem.MeetsSeq2 PySem.MeetsSeq3
end
section
variable {prog:Program}{w:World}{A:Around}{E:Value->Shared->Prop}{s:Shared}
theorem cat_tup {t b:Addr}{vs ws:List Value}{Q:Value->Shared->Prop}(ht:IsTup s.heap t vs.toArray)(hb:IsTup s.heap b ws.toArray)(hv:vs≠[])
  (h1:ws=[]->Q (.ref t) s) (h2:ws≠[]->Q (.ref s.heap.objs.size) { s with heap:=s.heap.push { cls:=.type "tuple",data:=.seq (vs++ws).toArray } })
  (hsz:vs.length+ws.length<=sizeLine):wpAny (model prog w) A (binaryOp .Add (.ref t) (.ref b)) Q E s:=by
 obtain ⟨⟨cls,dd,data,sl⟩,ho,hc,n,hd⟩:=id ht
 obtain ⟨⟨cls2,dd2,data2,sl2⟩,ho2,hc2,n2,hd2⟩:=id hb
 simp only at hc hd hc2 hd2
 subst hc hd hc2 hd2
 have e:vs.toArray++ws.toArray=(vs++ws).toArray:=by simp
 by_cases hw:ws=[]
 ·exact concat_meets ⟨_,ho,rfl⟩ ⟨_,ho2,rfl⟩ noFill_tuple_add seq_tuple_add PySem.F.slot_tuple_add PySem.F.entry_tuple_add (PySem.F.args_tuple_add_2 _ _)
   (tuple_addW1 t b vs.toArray ws.toArray n n2 dd dd2 sl sl2 (by simpa using hv) (by simp [hw])) ⟨ho,ho2,h1 hw⟩
 ·refine concat_meets ⟨_,ho,rfl⟩ ⟨_,ho2,rfl⟩ noFill_tuple_add seq_tuple_add PySem.F.slot_tuple_add PySem.F.entry_tuple_add (PySem.F.args_tuple_add_2 _ _)
   (tuple_addW2 t b vs.toArray ws.toArray n n2 dd dd2 sl sl2 (by simpa using hv) (by simpa using hw) (by rw [sF,sF]; exact hsz)) ⟨ho,ho2,?_⟩
  rw [e]
  exact h2 hw
def sIx (n d:Nat):Option Int->Nat
 | none=>d
 | some v=>if v<0 then (v+(n:Int)).toNat else min v.toNat n
theorem sIx_none (n d:Nat):sIx n d none=d:=rfl
theorem sIx_nat (n d k:Nat):sIx n d (some (k:Int))=min k n:=by
 show (if (k:Int)<0 then ((k:Int)+(n:Int)).toNat else min (k:Int).toNat n)=min k n
 rw [if_neg (by omega),Int.toNat_natCast]
theorem Qv (n d:Nat)(hd:d<=n)(o:Option Int):sIx n d o<=n:=by
 cases o with
 | none=>exact hd
 | some v =>
  show (if v<0 then (v+(n:Int)).toNat else min v.toNat n)<=n
  by_cases hv:v<0
  ·rw [if_pos hv]; omega
  ·rw [if_neg hv]; exact Nat.min_le_right _ _
theorem X8 (v:Int)(n d:Nat):(if v<0 then max (v+(n:Int)) 0 else min v (n:Int))=((sIx n d (some v):Nat):Int):=by
 show (if v<0 then max (v+(n:Int)) 0 else min v (n:Int))=(((if v<0 then (v+(n:Int)).toNat else min v.toNat n):Nat):Int)
 by_cases hv:v<0
 ·simp only [if_pos hv]; omega
 ·simp only [if_neg hv]; omega
theorem Yx (lo hi:Option Int)(n:Nat):Builtin.Slice.sliceAdjust lo hi 1 (n:Int)=(((sIx n 0 lo:Nat):Int),((sIx n n hi:Nat):Int)):=by
 have h1:¬ ((1:Int)<0):=by omega
 unfold Builtin.Slice.sliceAdjust
 simp only [h1,if_false]
 refine Prod.ext ?_ ?_
 ·cases lo with
  | none=>rfl
  | some v=>exact X8 v n 0
 ·cases hi with
  | none=>rfl
  | some v=>exact X8 v n n
theorem Yk (i j:Nat):Builtin.Slice.slicePlaces (i:Int) (j:Int) 1=j-i:=by
 unfold Builtin.Slice.slicePlaces
 have h1:(1:Int)>0:=by omega
 simp only [h1,if_true,Int.ediv_one]
 split<;>omega
theorem jd {v:Value}{o:Option Int}{Q:Option Int->Shared->Prop}(p:IsPart v o)(h:Q o s):wpAny (model prog w) A (Builtin.Slice.slicePartIndex v) Q E s:=by
 cases p with
 | none=>exact slicePart_none h
 | int i t=>exact slicePart_int h
theorem sliceApplied_gen {sl:Addr}{vl vu:Value}{lo hi:Option Int}{n:Nat}{Q:Int×Int×Nat->Shared->Prop}(hs:s.heap.IsSliceOf sl vl vu .none)(pl:IsPart vl lo)(pu:IsPart vu hi)
  (h:Q (((sIx n 0 lo:Nat):Int),1,sIx n n hi-sIx n 0 lo) s):wpAny (model prog w) A (Builtin.Slice.sliceApplied (.ref sl) (pure (n:Int))) Q E s:=by
 obtain ⟨os,hos,hcs,hds⟩:=id hs
 unfold Builtin.Slice.sliceApplied Builtin.Slice.sliceFields
 refine wpAny_bind (wpAny_bind (wpAny_field hos hds (x:=vl) rfl (wpAny_bind (wpAny_field hos hds (x:=vu) rfl (wpAny_bind (wpAny_field hos hds (x:=.none) rfl (wpAny_pure ?_)))))))
 refine wpAny_bind (slicePart_none ?_)
 show wpAny _ _ (if ((1:Int)==0)=true then _ else _) _ _ s
 rw [if_neg (by decide)]
 refine wpAny_bind (jd pl (wpAny_bind (jd pu (wpAny_bind (wpAny_pure ?_)))))
 show wpAny _ _ (match Builtin.Slice.sliceAdjust lo hi 1 (n:Int) with | (lo,hi)=>pure (lo,(1:Int),Builtin.Slice.slicePlaces lo hi 1)) _ _ s
 rw [Yx lo hi n]
 show wpAny _ _ (pure (((sIx n 0 lo:Nat):Int),(1:Int),Builtin.Slice.slicePlaces ((sIx n 0 lo:Nat):Int) ((sIx n n hi:Nat):Int) 1)) _ _ s
 rw [Yk]
 exact wpAny_pure h
theorem WE (xs:Array Value)(i k:Nat):((List.range k).filterMap fun (m:Nat)=>xs[((i:Int)+(m:Int)*1).toNat]?).toArray=((xs.toList.drop i).take k).toArray:=by
 have e:(fun (m:Nat)=>xs[((i:Int)+(m:Int)*1).toNat]?)=fun m=>xs[i+m]?:=by
  funext m
  have:((i:Int)+(m:Int)*1).toNat=i+m:=by omega
  rw [this]
 rw [e]
 have:=pick_run xs i k
 rw [List.filterMap_map] at this
 have e2:((fun x=>xs[x]?) ∘ fun x=>i+x)=fun m=>xs[i+m]?:=rfl
 rw [e2] at this
 rw [this]
theorem getItem_tuple_cut {t sl:Addr}{items:Array Value}{vl vu:Value}{lo hi:Option Int}{Q:Value->Shared->Prop}(ht:IsTup s.heap t items)(hs:s.heap.IsSliceOf sl vl vu .none)(pl:IsPart vl lo)(pu:IsPart vu hi)
  (hw:¬ (sIx items.size 0 lo=0/\sIx items.size items.size hi=items.size))
  (h:Q (.ref s.heap.objs.size) { s with heap:=s.heap.push { cls:=.type "tuple",data:=.seq ((items.toList.drop (sIx items.size 0 lo)).take (sIx items.size items.size hi-sIx items.size 0 lo)).toArray } })
  (hsz:items.size<=sizeLine):wpAny (model prog w) A (getItem (.ref t) (.ref sl)) Q E s:=by
 have htake:sizeOk (.seq ((items.toList.drop (sIx items.size 0 lo)).take (sIx items.size items.size hi-sIx items.size 0 lo)).toArray):=by
  show ((items.toList.drop (sIx items.size 0 lo)).take (sIx items.size items.size hi-sIx items.size 0 lo)).toArray.size<=sizeLine
  rw [sF,rC,rJ,Array.length_toList]
  omega
 have hj:sIx items.size items.size hi<=items.size:=Qv _ _ (sD _) hi
 obtain ⟨os,hos,hcs,hds⟩:=id hs
 have hTs:s.TypeIs (.ref sl) "slice":=⟨os,hos,hcs⟩
 unfold getItem
 try with_reducible refine wpAny_holding ?_
 first | refine wpAny_bind (wpAny_pure ?_) | skip
 refine wpAny_bind (wpAny_sequenceKey ht.typeIs (by decide) ?_)
 refine wpAny_bind (wpAny_callSpecial?_slot (name:=Str.ofString "__getitem__") ht.typeIs PyProof.Rows.slot_tuple_getitem
  (wpAny_call_entry PyProof.Rows.slot_tuple_getitem ht.typeIs entry_tuple_getitem ?_ (args_tuple_getitem _ _)))
 show wpAny _ _ (Builtin.Tuple.tupleItemsOf (.ref t) >>= _) _ _ s
 refine wpAny_bind (tupleItemsOf_ ht ?_)
 refine wpAny_bind (wpAny_typeOf hTs ?_)
 rw [if_pos (by decide)]
 refine wpAny_bind (sliceApplied_gen hs pl pu ?_)
 have hno:¬ ((((sIx items.size 0 lo:Nat):Int)==0&&(1:Int)==1&&(sIx items.size items.size hi-sIx items.size 0 lo)==items.size)=true):=by
  intro q
  rw [sP,sP] at q
  have q1:((sIx items.size 0 lo:Nat):Int)=0:=eq_of_beq q.1.1
  have q2:sIx items.size items.size hi-sIx items.size 0 lo=items.size:=eq_of_beq q.2
  exact hw ⟨by omega,by omega⟩
 show wpAny _ _ (if (((sIx items.size 0 lo:Nat):Int)==0&&(1:Int)==1&&(sIx items.size items.size hi-sIx items.size 0 lo)==items.size)=true then _ else _) _ _ s
 rw [if_neg hno,WE]
 first
  | exact wpAny_bind (m:=Builtin.Tuple.tupleExact _) (wpAny_newObj_type (wpAny_pure ⟨_,rfl,wpAny_pure h⟩) htake)
  | exact wpAny_bind (m:=Builtin.Tuple.tupleExact _) (wpAny_newObj_type (wpAny_bind (wpAny_pure (wpAny_pure ⟨_,rfl,wpAny_pure h⟩))) htake)
  | exact wpAny_bind (wpAny_bind (m:=Builtin.Tuple.tupleExact _) (wpAny_newObj_type (wpAny_pure (wpAny_pure ⟨_,rfl,wpAny_pure h⟩)) htake))
  | exact wpAny_bind (wpAny_bind (m:=Builtin.Tuple.tupleExact _) (wpAny_newObj_type (wpAny_pure ⟨_,rfl,wpAny_pure h⟩) htake))
end
end HT
namespace L2
open PySem PySem.Spec PyProof.Rows
abbrev TO:=St->Hp->(Option Int->Hp->Prop)->Prop
def PO (X:Cx)(e:Option Expr)(t:TO):Prop :=
 ∀ (pins:List (Addr×Obj)) (s:Shared) (σ:St) (H:Hp) (Q:Option Int->Hp->Prop),Inv X pins σ H s->t σ H Q ->
  wpAny (model X.prog X.w) X.A (evalPart e X.env) (fun u s'=>∃ o H',Inv X pins σ H' s'/\IsPart u o/\Q o H') X.xe s
def X6:TO:=fun _ H Q=>Q none H
def UL (t:TE):TO:=fun σ H Q=>t σ H fun x H1=>∃ i,x=.int i/\Q (some i) H1
section
variable {X:Cx}{e:Expr}{te:TE}{lo hi:Option Expr}{tl th:TO}{pos p2:Pos}
theorem VG:PO X none X6:=by
 intro pins s σ H Q I h
 rw [evalPart_none]
 exact wpAny_pure ⟨none,H,I,.none,h⟩
theorem Uk (h:PE X e te):PO X (some e) (UL te):=by
 intro pins s σ H Q I hw
 rw [evalPart_some]
 refine thn (h pins s σ H _ I hw) fun u s1 ⟨x,H1,I1,r1,q1⟩=>?_
 obtain ⟨i,rfl,q⟩:=q1
 obtain ⟨t,rfl⟩:=r1
 exact ⟨some i,H1,I1,.int i t,q⟩
def SlR (X:Cx)(r:V->Option Int->Option Int->Hp->VK->Prop):Prop :=
 ∀ (pins:List (Addr×Obj)) (s:Shared) (σ:St) (H:Hp) (x:V) (v vl vu:Value) (lo hi:Option Int) (sl:Addr) (Q:VK),Inv X pins σ H s->RelV x v->s.heap.IsSliceOf sl vl vu .none->IsPart vl lo->IsPart vu hi->r x lo hi H Q ->
  ∃ T id,typeLookup (.type T) "__getitem__"=pure (some (.builtin id))/\s.TypeIs v T/\wpAny (model X.prog X.w) X.A (getItem v (.ref sl)) (EP X pins σ Q) X.xe s
theorem SlR.or {r r':V->Option Int->Option Int->Hp->VK->Prop}(h:SlR X r)(h':SlR X r'):SlR X (fun x lo hi H Q=>r x lo hi H Q\/r' x lo hi H Q):=by
 intro pins s σ H x v vl vu lo hi sl Q I rx hs pl pu q
 rcases q with q | q
 ·exact h pins s σ H x v vl vu lo hi sl Q I rx hs pl pu q
 ·exact h' pins s σ H x v vl vu lo hi sl Q I rx hs pl pu q
def tSl (r:V->Option Int->Option Int->Hp->VK->Prop)(te:TE)(tl th:TO):TE:=fun σ H Q=>te σ H fun x H1=>tl σ H1 fun l H2=>th σ H2 fun u H3=>r x l u H3 Q
theorem ZX {r:V->Option Int->Option Int->Hp->VK->Prop}(hr:SlR X r)(he:PE X e te)(hl:PO X lo tl)(hu:PO X hi th):PE X (.Subscript e (.Slice lo hi none p2) pos) (tSl r te tl th):=by
 intro pins s σ H Q I h
 refine Subscript_ (thn (he pins s σ H _ I h) fun v s1 ⟨x,H1,I1,r1,q1⟩=>?_)
 refine wpAny_Slice (thn (hl pins s1 σ H1 _ I1 q1) fun vl s2 ⟨l,H2,I2,pl,q2⟩=>thn (hu pins s2 σ H2 _ I2 q2) fun vu s3 ⟨u,H3,I3,pu,q3⟩=>?_)
 rw [evalPart_none]
 refine wpAny_pure ?_
 have I4:Inv X pins σ H3 { s3 with heap:=s3.heap.push { cls:=.type "slice",data:=.fields #[vl,vu,.none] } }:=I3.kept (t':=s3.toks) fun b ob q=>Heap.get?_push_of_some _ q
 obtain ⟨T,id,hT,ht,hg⟩:=hr pins { s3 with heap:=s3.heap.push { cls:=.type "slice",data:=.fields #[vl,vu,.none] } } σ H3 x v vl vu l u s3.heap.objs.size Q I4 r1 (Heap.IsSliceOf.new ..) pl pu q3
 show wpAny (model X.prog X.w) X.A (subscriptTail e (.Slice lo hi none p2) v (.ref s3.heap.objs.size)) (EP X pins σ Q) X.xe { s3 with heap:=s3.heap.push { cls:=.type "slice",data:=.fields #[vl,vu,.none] } }
 exact tail_any (ops:=[.ref s3.heap.objs.size,v]) ht hT hg (by with_unfolding_all rfl)
def kN (xs:List V)(lo hi:Option Int):List V:=(xs.drop (HT.sIx xs.length 0 lo)).take (HT.sIx xs.length xs.length hi-HT.sIx xs.length 0 lo)
theorem qD (xs:List V)(lo hi:Option Int):(kN xs lo hi).length<=xs.length:=by
 unfold kN
 rw [rC,rJ]
 omega
def z0H (K:PySem.W.Frag):V->Option Int->Option Int->Hp->VK->Prop:=fun x lo hi H Q=>∃ a xs,x=.ref a/\SqT K H a xs /\
 ¬ (HT.sIx xs.length 0 lo=0/\HT.sIx xs.length xs.length hi=xs.length)/\∀ p,H p=none->Q (.ref p) (upd H p (.tup (kN xs lo hi)))
theorem WO:SlR X (z0H X.K):=by
 intro pins s σ H x v vl vu lo hi sl Q I rx hs pl pu h
 obtain ⟨a,xs,rfl,hx,hw,q⟩:=h
 cases rx
 obtain ⟨its,r,ht,hz⟩:=I.tuple hx
 have hlen:its.toArray.size=xs.length:=by rw [sF]; exact r.length.symm
 refine ⟨"tuple",_,PyProof.Rows.slot_tuple_getitem.lookup,ht.typeIs,?_⟩
 refine HT.getItem_tuple_cut ht hs pl pu (by rw [hlen]; exact hw) ?_ (by rw [hlen]; exact hz)
 rw [hlen]
 refine ⟨.ref s.heap.objs.size,_,I.laid (t':=s.toks) (o:=.tup (kN xs lo hi)) (fun b ob q=>Heap.get?_push_of_some _ q) (sD _) ?_,rfl,q _ (I.hok.fresh (sD _))⟩
 exact ⟨rD (qD xs lo hi) hz,_,(r.drop (HT.sIx xs.length 0 lo)).take (HT.sIx xs.length xs.length hi-HT.sIx xs.length 0 lo),TupN.new _ _⟩
def YW (K:PySem.W.Frag):R2:=fun x y H Q=>∃ a b xs ys,x=.ref a/\y=.ref b/\SqT K H a xs/\SqT K H b ys/\xs≠[]/\xs.length+ys.length<=sizeLine /\
 (ys=[]->Q (.ref a) H)/\(ys≠[]->∀ p,H p=none->Q (.ref p) (upd H p (.tup (xs++ys))))
theorem Vals.nil_iff {xs:List V}{us:List Value}(r:Vals xs us):us=[]↔xs=[]:=by
 cases r with
 | nil=>simp
 | cons _ _=>simp
theorem Xe:OpR X (binaryOp .Add) (YW X.K):=by
 intro pins s σ H x y v u Q I rx ry h
 obtain ⟨a,b,xs,ys,rfl,rfl,ha,hb,hx,hz,q1,q2⟩:=h
 cases rx
 cases ry
 obtain ⟨its,r1,p1,_⟩:=I.tuple ha
 obtain ⟨its2,r2,p2,_⟩:=I.tuple hb
 refine HT.cat_tup p1 p2 (fun z=>hx (r1.nil_iff.mp z)) (fun z=>⟨.ref a,H,I,rfl,q1 (r2.nil_iff.mp z)⟩) (fun z=>?_) (by rw [<- r1.length,<- r2.length]; exact hz)
 refine ⟨.ref s.heap.objs.size,_,I.laid (t':=s.toks) (o:=.tup (xs++ys)) (fun b ob q=>Heap.get?_push_of_some _ q) (sD _) ?_,rfl,q2 (fun w=>z (r2.nil_iff.mpr w)) _ (I.hok.fresh (sD _))⟩
 exact ⟨by rw [tZ]; exact hz,_,r1.append r2,TupN.new _ _⟩
end
def ixN (n:Nat)(i:Int):Option Nat:=if 0<=i then (if i<n then some i.toNat else none) else if -(n:Int)<=i then some (i+n).toNat else none
def atI {α:Type}(xs:List α)(i:Int):Option α:=(ixN xs.length i).bind fun j=>xs[j]?
theorem kZ {n:Nat}{i:Int}{j:Nat}(h:ixN n i=some j):seqIndex? i n=some j/\j<n/\-(n:Int)<=i/\i<n:=by
 unfold ixN at h
 by_cases h0:0<=i
 ·rw [if_pos h0] at h
  by_cases h1:i<n
  ·rw [if_pos h1] at h
   have e:i.toNat=j:=Option.some.inj h
   exact ⟨by rw [seqIndex_of h0 h1,e],by omega,by omega,h1⟩
  ·rw [if_neg h1] at h; cases h
 ·rw [if_neg h0] at h
  by_cases h1:-(n:Int)<=i
  ·rw [if_pos h1] at h
   have e:(i+n).toNat=j:=Option.some.inj h
   exact ⟨by rw [seqIndex_neg (by omega) h1,e],by omega,h1,by omega⟩
  ·rw [if_neg h1] at h; cases h
theorem Zc {α:Type}{xs:List α}{i:Int}{v:α}(h:atI xs i=some v):∃ j,seqIndex? i xs.length=some j/\xs[j]?=some v/\j<xs.length/\-(xs.length:Int)<=i/\i<xs.length:=by
 unfold atI at h
 cases e:ixN xs.length i with
 | none=>rw [e] at h; cases h
 | some j =>
  rw [e] at h
  obtain ⟨h1,h2,h3,h4⟩:=kZ e
  exact ⟨j,h1,h,h2,h3,h4⟩
theorem uH {α:Type}{xs:List α}{j:Nat}{v:α}(h:xs[j]?=some v):atI xs (j:Int)=some v:=by
 have hj:j<xs.length:=(sI.mp h).1
 have e:ixN xs.length (j:Int)=some j:=by
  unfold ixN
  rw [if_pos (by omega),if_pos (by omega)]; simp
 unfold atI; rw [e]; exact h
theorem WJ {α:Type}(xs:List α)(v:α):atI (xs++[v]) (-1)=some v:=by
 have hl:(xs++[v]).length=xs.length+1:=by simp
 have e:ixN (xs++[v]).length (-1)=some xs.length:=by
  unfold ixN
  rw [hl,if_neg (by decide),if_pos (by omega)]
  congr 1
  omega
 unfold atI
 rw [e]
 show (xs++[v])[xs.length]?=some v
 simp
def YR (b:Expr):Prop:=∀ o i,subscripted b false o i=operate [o,i] (getItem o i)
def IxR (X:Cx)(r:R2):Prop :=
 ∀ (value slice:Expr) (pins:List (Addr×Obj)) (s:Shared) (σ:St) (H:Hp) (x y:V) (v u:Value) (Q:VK),Inv X pins σ H s->RelV x v->RelV y u->r x y H Q ->
  subscripted slice false v u=operate [v,u] (getItem v u)->wpAny (model X.prog X.w) X.A (subscriptTail value slice v u) (EP X pins σ Q) X.xe s
def MtR (X:Cx)(id:String)(r:V->List V->Hp->VK->Prop):Prop :=
 ∀ (pins:List (Addr×Obj)) (s:Shared) (σ:St) (H:Hp) (x:V) (xs:List V) (v:Value) (us:List Value) (Q:VK),Inv X pins σ H s->RelV x v->Vals xs us->r x xs H Q ->
  wpAny (model X.prog X.w) X.A (call (.builtin id) (v::us)) (EP X pins σ Q) X.xe s
section
variable {X:Cx}{a b:Expr}{ta tb:TE}{pos:Pos}
theorem IxR.or {r r':R2}(h:IxR X r)(h':IxR X r'):IxR X (fun x y H Q=>r x y H Q\/r' x y H Q):=by
 intro value slice pins s σ H x y v u Q I rx ry q hs
 rcases q with q | q
 ·exact h value slice pins s σ H x y v u Q I rx ry q hs
 ·exact h' value slice pins s σ H x y v u Q I rx ry q hs
theorem MtR.or {id:String}{r r':V->List V->Hp->VK->Prop}(h:MtR X id r)(h':MtR X id r'):MtR X id (fun x xs H Q=>r x xs H Q\/r' x xs H Q):=by
 intro pins s σ H x xs v us Q I rx rs q
 rcases q with q | q
 ·exact h pins s σ H x xs v us Q I rx rs q
 ·exact h' pins s σ H x xs v us Q I rx rs q
theorem z0f {r:R2}(hr:IxR X r)(ha:PE X a ta)(hb:PE X b tb)(hs:YR b):PE X (.Subscript a b pos) (tOp r ta tb):=by
 intro pins s σ H Q I h
 exact Subscript_ (J3 ha hb I h fun v u s2 x y H2 I2 rx ry q=>hr a b pins s2 σ H2 x y v u Q I2 rx ry q (hs _ _))
def z09 (K:PySem.W.Frag):R2:=fun x y H Q=>∃ p xs i v,x=.ref p/\y=.int i/\SqL K H p xs/\atI xs i=some v/\Q v H
def K1 (K:PySem.W.Frag):R2:=fun x y H Q=>∃ p xs i v,x=.ref p/\y=.int i/\SqT K H p xs/\atI xs i=some v/\Q v H
def Kp:R2:=fun x y H Q=>∃ z i c,x=.str z/\y=.int i/\z.length<=sizeLine/\atI z.cps.toList i=some c/\Q (.str ⟨#[c]⟩) H
theorem ix_list:IxR X (z09 X.K):=by
 intro value slice pins s σ H x y v u Q I rx ry h hs
 obtain ⟨p,xs,i,z,rfl,rfl,hq,he,q⟩:=h
 cases rx
 obtain ⟨t,rfl⟩:=ry
 obtain ⟨its,r,pl,hz⟩:=I.list hq
 obtain ⟨j,h1,h2,h3,h4,h5⟩:=Zc he
 obtain ⟨w,ew,rw'⟩:=r.get h2
 have hl:=r.length
 have hn:=uU
 have fin:EP X pins σ Q w s:=⟨z,H,I,rw',q⟩
 by_cases h0:0<=i
 ·have hj:i.toNat=j:=by
   rw [seqIndex_of h0 h5] at h1
   exact Option.some.inj h1
  exact item_listR pl.isList h0 (by omega) (by rw [hj]; simpa using ew) fin hs
 ·have hj:(i+(its.toArray.size:Int)).toNat=j:=by
   rw [seqIndex_neg (by omega) h4] at h1
   rw [sF,<- hl]
   exact Option.some.inj h1
  exact subscriptTail_builtinR (x:=w) pl.isList.typeIs slot_list_getitem.lookup
   (wpAny_getItem_list_neg (Q:=fun r s'=>r=w/\EP X pins σ Q r s') pl.isList (by omega) (by rw [sF]<;>omega) (by omega) (by rw [hj]; simpa using ew) ⟨rfl,fin⟩) hs
theorem ix_tup:IxR X (K1 X.K):=by
 intro value slice pins s σ H x y v u Q I rx ry h hs
 obtain ⟨p,xs,i,z,rfl,rfl,hq,he,q⟩:=h
 cases rx
 obtain ⟨t,rfl⟩:=ry
 obtain ⟨its,r,pl,hz⟩:=I.tuple hq
 obtain ⟨j,h1,h2,h3,h4,h5⟩:=Zc he
 obtain ⟨w,ew,rw'⟩:=r.get h2
 have hl:=r.length
 have hn:=uU
 have fin:EP X pins σ Q w s:=⟨z,H,I,rw',q⟩
 exact subscriptTail_builtinR (x:=w) pl.typeIs slot_tuple_getitem.lookup
  (getItem_tuple (j:=j) (Q:=fun r s'=>r=w/\EP X pins σ Q r s') pl (by omega) (by omega) (by rw [sF,<- hl]; exact h1) (by simpa using ew) ⟨rfl,fin⟩) hs
theorem QE:IxR X Kp:=by
 intro value slice pins s σ H x y v u Q I rx ry h hs
 obtain ⟨z,i,c,rfl,rfl,hz,he,q⟩:=h
 obtain ⟨t,rfl⟩:=rx
 obtain ⟨t',rfl⟩:=ry
 obtain ⟨j,h1,h2,h3,h4,h5⟩:=Zc he
 have hl:z.cps.toList.length=z.length:=by simp [Str.length]
 rw [hl] at h1 h4 h5
 have hn:=uU
 exact tail_any (typeIs_str s z t) slot_str_getitem.lookup (getItem_str (c:=c) (by
  have e1:decide (i < -(2 ^ 63:Int))=false:=decide_eq_false (by omega)
  have e2:decide (i>=2 ^ 63)=false:=decide_eq_false (by omega)
  rw [e1,e2,Bool.or_false]) (by rw [h1]; simpa using h2) ⟨.str ⟨#[c]⟩,H,I.tok _,⟨_,rfl⟩,q⟩) hs
def rIx (K:PySem.W.Frag):R2:=fun x y H Q=>z09 K x y H Q\/K1 K x y H Q\/Kp x y H Q
theorem QQ:IxR X (rIx X.K):=ix_list.or (ix_tup.or QE)
theorem YG (its:List Value)(n j:Nat)(u:Value):Obj.mapSeq (·.setIfInBounds j u) { cls:=.type "list",data:=.seq its.toArray n }={ cls:=.type "list",data:=.seq (its.set j u).toArray n }:=by
 simp [Obj.mapSeq]
theorem Inv.lst {pins:List (Addr×Obj)}{σ:St}{H:Hp}{s:Shared}{p:Addr}{xs:List V}(I:Inv X pins σ H s)(h:H p=some (.lst xs)) :
  ∃ (its:List Value) (n:Nat),Vals xs its/\s.heap.get? p=some { cls:=.type "list",data:=.seq its.toArray n }/\xs.length<=sizeLine:=by
 obtain ⟨z,its,n,r,e⟩:=I.hok p _ h
 exact ⟨its,n,r,e,z⟩
theorem Inv.lstUpd {pins:List (Addr×Obj)}{σ:St}{H:Hp}{s:Shared}{p:Addr}{xs ys:List V}{its its':List Value}{n n':Nat}{f:Obj->Obj}(I:Inv X pins σ H s)(h:H p=some (.lst xs))
  (ho:s.heap.get? p=some { cls:=.type "list",data:=.seq its.toArray n }) (hf:f { cls:=.type "list",data:=.seq its.toArray n }={ cls:=.type "list",data:=.seq its'.toArray n' }) (r:Vals ys its') (hz:ys.length<=sizeLine) (t:Nat) :
  Inv X pins σ (upd H p (.lst ys)) { s with heap:=s.heap.update p f,toks:=t }:=by
 have e:(s.heap.update p f).get? p=some { cls:=.type "list",data:=.seq its'.toArray n' }:=by
  rw [Heap.get?_update_self f ho (by rw [hf]<;>rfl),hf]
 refine I.write (x:=p) (e:=p) (by rw [h]; trivial) (.inl rfl) (fun b u hb q=>(Heap.get?_update_other _ _ (Ne.symm hb)).trans q) ⟨_,e⟩ ?_
 exact ⟨hz,its',n',r,e⟩
def JP:V->V->V->Hp->(Hp->Prop)->Prop:=fun o i v H Q=>∃ p xs k j,o=.ref p/\i=.int k/\H p=some (.lst xs)/\ixN xs.length k=some j/\Q (upd H p (.lst (xs.set j v)))
theorem Vw:KH X JP:=by
 intro pins s σ H o i v ov iv u Q I ro ri rv h
 obtain ⟨p,xs,k,j,rfl,rfl,hp,hj,q⟩:=h
 cases ro
 obtain ⟨t,rfl⟩:=ri
 obtain ⟨its,n,r,ho,hz⟩:=I.lst hp
 obtain ⟨h1,h2,h3,h4⟩:=kZ hj
 have hl:=r.length
 have hn:=uU
 have I':Inv X pins σ (upd H p (.lst (xs.set j v))) { s with heap:=s.heap.update p (Obj.mapSeq (·.setIfInBounds j u)) } :=
  I.lstUpd hp ho (YG its n j u) (r.set rv j) (by rw [sS]; exact hz) s.toks
 by_cases h0:0<=k
 ·have hk:k.toNat=j:=by
   rw [seqIndex_of h0 h4] at h1
   exact Option.some.inj h1
  exact PySem.W.ki_setAt ho h0 (by omega) (by rw [sF,<- hl]; exact h4) (by rw [hk]; exact ⟨_,I',q⟩)
 ·have hk:(k+(its.toArray.size:Int)).toNat=j:=by
   rw [seqIndex_neg (by omega) h3] at h1
   rw [sF,<- hl]
   exact Option.some.inj h1
  exact PySem.W.ki_setBack ho (by omega) (by rw [sF,<- hl]; exact h3) (by omega) (by rw [hk]; exact ⟨_,I',q⟩)
theorem kK (lo hi:Option Int)(n:Nat):(sliceBounds lo hi none n).1=((HT.sIx n 0 lo:Nat):Int)/\(sliceBounds lo hi none n).2.1=((HT.sIx n n hi:Nat):Int)/\(sliceBounds lo hi none n).2.2=1:=by
 refine ⟨?_,?_,rfl⟩
 ·cases lo with
  | none=>simp [sliceBounds,HT.sIx]
  | some i =>
   simp only [sliceBounds,HT.sIx,Option.getD_none,show (1:Int)>0 by decide,if_true]
   by_cases h:i<0
   ·simp only [h,if_true]<;>omega
   ·simp only [h,if_false]<;>omega
 ·cases hi with
  | none=>simp [sliceBounds,HT.sIx]
  | some i =>
   simp only [sliceBounds,HT.sIx,Option.getD_none,show (1:Int)>0 by decide,if_true]
   by_cases h:i<0
   ·simp only [h,if_true]<;>omega
   ·simp only [h,if_false]<;>omega
theorem jV (its:List Value)(lo hi:Option Int):slicePick its.toArray lo hi none=((its.drop (HT.sIx its.length 0 lo)).take (HT.sIx its.length its.length hi-HT.sIx its.length 0 lo)).toArray:=by
 obtain ⟨h1,h2,h3⟩:=kK lo hi its.toArray.size
 unfold slicePick
 rw [h1,h2,h3]
 simp only [sliceRange_one,pick_run,sF]<;>rfl
def z0z (K:PySem.W.Frag):V->Option Int->Option Int->Hp->VK->Prop:=fun x lo hi H Q=>∃ a xs,x=.ref a/\SqL K H a xs/\∀ p,H p=none->Q (.ref p) (upd H p (.lst (kN xs lo hi)))
theorem X1:SlR X (z0z X.K):=by
 intro pins s σ H x v vl vu lo hi sl Q I rx hs pl pu h
 obtain ⟨a,xs,rfl,hx,q⟩:=h
 cases rx
 obtain ⟨its,r,ht,hz⟩:=I.list hx
 have hlen:=r.length
 refine ⟨"list",_,slot_list_getitem.lookup,ht.isList.typeIs,?_⟩
 refine wpAny_getItem_list_slice ht.isList hs pl pu .none (by simp) ?_ (by rw [sF]<;>omega)
 rw [jV,<- hlen]
 refine ⟨.ref s.heap.objs.size,_,I.laid (t':=s.toks) (o:=.lst (kN xs lo hi)) (fun b ob q=>Heap.get?_push_of_some _ q) (sD _) ?_,rfl,q _ (I.hok.fresh (sD _))⟩
 exact ⟨rD (qD xs lo hi) hz,_,0,(r.drop (HT.sIx xs.length 0 lo)).take (HT.sIx xs.length xs.length hi-HT.sIx xs.length 0 lo),Heap.get?_push_size _ rfl⟩
def uk:V->Bool
 | .non=>true
 | .bl _=>true
 | .int _=>true
 | .str _=>true
 | _=>false
def eqV:V->V->Bool
 | .non,.non=>true
 | .bl a,.bl b=>a==b
 | .bl a,.int b=>(if a then 1 else 0)==b
 | .int a,.bl b=>a==(if b then 1 else 0)
 | .int a,.int b=>a==b
 | .str a,.str b=>a==b
 | _,_=>false
theorem QA {A:Around}{s:Shared}{y x:V}{u v:Value}(ry:RelV y u)(rx:RelV x v)(fy:uk y=true)(fx:uk x=true):SeqAt.EqAt A s u v (eqV y x):=by
 cases y with
 | non =>
  cases ry
  cases x with
  | non=>cases rx; exact SeqAt.EqAt.same _
  | bl b=>cases rx; exact SeqAt.EqAt.none_bool b
  | int b=>obtain ⟨t,rfl⟩:=rx; exact SeqAt.EqAt.none_int b t
  | str b=>obtain ⟨t,rfl⟩:=rx; exact SeqAt.EqAt.none_str b t
  | _=>exact absurd (show false=true from fx) sE
 | bl a =>
  cases ry
  cases x with
  | non=>cases rx; exact SeqAt.EqAt.bool_none a
  | bl b=>cases rx; exact SeqAt.EqAt.bool_bool a b
  | int b=>obtain ⟨t,rfl⟩:=rx; exact SeqAt.EqAt.bool_int a b t
  | str b=>obtain ⟨t,rfl⟩:=rx; exact SeqAt.EqAt.bool_str a b t
  | _=>exact absurd (show false=true from fx) sE
 | int a =>
  obtain ⟨t',rfl⟩:=ry
  cases x with
  | non=>cases rx; exact SeqAt.EqAt.int_none a t'
  | bl b=>cases rx; exact SeqAt.EqAt.int_bool a t' b
  | int b=>obtain ⟨t,rfl⟩:=rx; exact SeqAt.EqAt.int_int a t' b t
  | str b=>obtain ⟨t,rfl⟩:=rx; exact SeqAt.EqAt.int_str a t' b t
  | _=>exact absurd (show false=true from fx) sE
 | str a =>
  obtain ⟨t',rfl⟩:=ry
  cases x with
  | non=>cases rx; exact SeqAt.EqAt.str_none a t'
  | bl b=>cases rx; exact SeqAt.EqAt.str_bool a t' b
  | int b=>obtain ⟨t,rfl⟩:=rx; exact SeqAt.EqAt.str_int a t' b t
  | str b=>obtain ⟨t,rfl⟩:=rx; exact SeqAt.EqAt.str_str a t' b t
  | _=>exact absurd (show false=true from fx) sE
 | _=>exact absurd (show false=true from fy) sE
def eqU (x:V)(u:Value):Bool:=match u with
 | .none=>eqV .non x
 | .bool b=>eqV (.bl b) x
 | .int i _=>eqV (.int i) x
 | .str z _=>eqV (.str z) x
 | _=>false
theorem Vg {x y:V}{u:Value}(r:RelV y u)(f:uk y=true):eqU x u=eqV y x:=by
 cases y with
 | non=>cases r; rfl
 | bl b=>cases r; rfl
 | int i=>obtain ⟨t,rfl⟩:=r; rfl
 | str z=>obtain ⟨t,rfl⟩:=r; rfl
 | _=>exact absurd (show false=true from f) sE
theorem Za {x:V}:∀ {xs:List V} {us:List Value},Vals xs us->xs.all uk=true->us.any (eqU x)=xs.any fun y=>eqV y x
 | _,_,.nil,_=>rfl
 | y::xs,u::us,.cons r t,f=>by
  rw [pH,sP] at f
  rw [rX,rX,Vg r f.1,Za t f.2]
theorem jz {A:Around}{s:Shared}{x:V}{v:Value}(rx:RelV x v)(fx:uk x=true):∀ {xs:List V} {us:List Value},Vals xs us->xs.all uk=true->∀ u∈us,SeqAt.EqAt A s u v (eqU x u)
 | _,_,.nil,_=>fun u hu=>by cases hu
 | y::xs,u::us,.cons r t,f=>fun u' hu=>by
  rw [pH,sP] at f
  rcases sG.mp hu with rfl | hu
  ·rw [Vg r f.1]; exact QA r rx f.1 fx
  ·exact jz rx fx t f.2 u' hu
def inV (x:V)(xs:List V):Bool:=xs.any fun y=>eqV y x
def rIn (K:PySem.W.Frag)(neg:Bool):R2:=fun x y H Q=>∃ p xs,y=.ref p/\(SqL K H p xs\/SqT K H p xs)/\uk x=true/\xs.all uk=true/\Q (.bl (if neg then !inV x xs else inV x xs)) H
theorem Z4:OpR X (compareOp .NotIn) (rIn X.K true):=by
 intro pins s σ H x y v u Q I rx ry h
 obtain ⟨p,xs,rfl,hq,fx,fs,q⟩:=h
 cases ry
 rcases hq with hq | hq
 ·obtain ⟨its,r,pl,hz⟩:=I.list hq
  refine SeqAt.notIn_listAt (eqU x) pl.isList (fun w hw=>jz rx fx r fs w (by simpa using hw)) ⟨.bl _,H,I,rfl,?_⟩
  rw [show its.toArray.any (eqU x)=its.any (eqU x) by simp,Za r fs]
  exact q
 ·obtain ⟨its,r,pl,hz⟩:=I.tuple hq
  refine SeqAt.notIn_tupleAt (eqU x) pl (fun w hw=>jz rx fx r fs w (by simpa using hw)) ⟨.bl _,H,I,rfl,?_⟩
  rw [show its.toArray.any (eqU x)=its.any (eqU x) by simp,Za r fs]
  exact q
theorem kL:CallR X (.builtin "len") (fun xs H Q=>∃ p ys,xs=[.ref p]/\(SqL X.K H p ys\/SqT X.K H p ys)/\Q (.int ys.length) H):=by
 intro pins s σ H xs us Q I r h
 obtain ⟨p,ys,rfl,hq,q⟩:=h
 obtain ⟨u,rfl,rx⟩:=uB r
 cases rx
 have hn:=uU
 rcases hq with hq | hq
 ·obtain ⟨its,r',pl,hz⟩:=I.list hq
  have hlen:=r'.length
  exact Calls.call_len_list pl.isList (by simp only [sF]<;>omega) ⟨.int ys.length,H,I.tok _,⟨s.toks+1,by rw [sF,hlen]⟩,q⟩
 ·obtain ⟨its,r',pl,hz⟩:=I.tuple hq
  have hlen:=r'.length
  exact len_tuple pl (by simp only [sF]<;>omega) ⟨.int ys.length,H,I.tok _,⟨s.toks+1,by rw [sF,hlen]⟩,q⟩
theorem Z8:CallR X (.builtin "len") (fun xs H Q=>∃ z,xs=[.str z]/\z.length<=sizeLine/\Q (.int z.length) H):=by
 intro pins s σ H xs us Q I r h
 obtain ⟨z,rfl,hz,q⟩:=h
 obtain ⟨u,rfl,t,rfl⟩:=uB r
 have hn:=uU
 exact len_str (by omega) ⟨.int z.length,H,I.tok _,⟨_,rfl⟩,q⟩
theorem CallR.or {f:Value}{r r':List V->Hp->VK->Prop}(h:CallR X f r)(h':CallR X f r'):CallR X f (fun xs H Q=>r xs H Q\/r' xs H Q):=by
 intro pins s σ H xs us Q I rs q
 rcases q with q | q
 ·exact h pins s σ H xs us Q I rs q
 ·exact h' pins s σ H xs us Q I rs q
theorem xk:CallR X (.type "list") (fun xs H Q=>∃ p ys,xs=[.ref p]/\(SqL X.K H p ys\/SqT X.K H p ys)/\∀ l,H l=none->Q (.ref l) (upd H l (.lst ys))):=by
 intro pins s σ H xs us Q I r h
 obtain ⟨p,ys,rfl,hq,q⟩:=h
 obtain ⟨u,rfl,rx⟩:=uB r
 cases rx
 have fin:∀ (its:List Value),Vals ys its->ys.length<=sizeLine->∀ (h':Heap) (c':Nat),(∀ b o',s.heap.get? b=some o'->h'.get? b=some o') ->
   h'.get? s.heap.objs.size=some { cls:=.type "list",dict:=none,data:=.seq its.toArray c',slots:=#[] }->EP X pins σ Q (.ref s.heap.objs.size) { s with heap:=h' }:=fun its r' hz h' c' kp e =>
  ⟨.ref s.heap.objs.size,_,I.laid (t':=s.toks) kp (sD _) (show ObjOk X.prog X.w _ h' _ (.lst ys) from ⟨hz,its,c',r',e⟩),rfl,q _ (I.hok.fresh (sD _))⟩
 rcases hq with hq | hq
 ·obtain ⟨its,r',pl,hz⟩:=I.list hq
  have hlen:=r'.length
  obtain ⟨o,ho,hc,n,hd⟩:=pl.isList
  exact call_list_seq p (.inl rfl) ho hc hd (fun h' c' kp e=>fin its r' hz h' c' kp e) (by simp only [sF]<;>omega)
 ·obtain ⟨its,r',pl,hz⟩:=I.tuple hq
  have hlen:=r'.length
  obtain ⟨o,ho,hc,n,hd⟩:=pl
  exact call_list_seq p (.inr rfl) ho hc hd (fun h' c' kp e=>fin its r' hz h' c' kp e) (by simp only [sF]<;>omega)
theorem yS:CallR X (.type "tuple") (fun xs H Q=>∃ p ys,xs=[.ref p]/\((SqL X.K H p ys/\∀ l,H l=none->Q (.ref l) (upd H l (.tup ys)))\/(SqT X.K H p ys/\Q (.ref p) H))):=by
 intro pins s σ H xs us Q I r h
 obtain ⟨p,ys,rfl,h⟩:=h
 obtain ⟨u,rfl,rx⟩:=uB r
 cases rx
 rcases h with ⟨hq,q⟩ | ⟨hq,q⟩
 ·obtain ⟨its,r',pl,hz⟩:=I.list hq
  have hlen:=r'.length
  refine call_tuple_list pl.isList (fun h' kp=>?_) (by simp only [sF]<;>omega)
  have I1:Inv X pins σ H { s with heap:=h' }:=I.kept (t':=s.toks) kp
  have I2:Inv X pins σ (upd H h'.objs.size (.tup ys)) { s with heap:=h'.push { cls:=.type "tuple",data:=.seq its.toArray } } :=
   I1.laid (t':=s.toks) (fun b o e=>Heap.get?_push_of_some _ e) (sD _) (show ObjOk X.prog X.w _ _ _ (.tup ys) from ⟨hz,its,r',TupN.new _ _⟩)
  exact ⟨.ref h'.objs.size,_,I2,rfl,q _ (I1.hok.fresh (sD _))⟩
 ·obtain ⟨its,r',pl,hz⟩:=I.tuple hq
  exact call_tuple_same pl ⟨.ref p,H,I,rfl,q⟩
def tyV (K:PySem.W.Frag)(T:String)(x:V)(H:Hp):Prop:=match x with
 | .str _=>T="str"
 | .int _=>T="int"
 | .ref p=>(T="list"/\∃ xs,SqL K H p xs)\/(T="tuple"/\∃ o,K.lookup p=some o/\o.cls=.type "tuple"/\o.dict=none) \/
   (T="dict"/\((∃ kvs,H p=some (.dK kvs))\/∃ kvs,H p=some (.dT kvs)))\/(T="set"/\∃ S n,H p=some (.set S n))
 | _=>False
theorem JE {pins:List (Addr×Obj)}{σ:St}{H:Hp}{s:Shared}{T:String}{x:V}{v:Value}(I:Inv X pins σ H s)(r:RelV x v)(ty:tyV X.K T x H) :
  s.TypeIs v T/\∀ a,v=.ref a->∃ ob,s.heap.get? a=some ob/\ob.dict=none:=by
 cases x with
 | str z =>
  obtain ⟨t,rfl⟩:=r
  cases (show T="str" from ty)
  exact ⟨typeIs_str s z t,fun _ e=>nomatch e⟩
 | int i =>
  obtain ⟨t,rfl⟩:=r
  cases (show T="int" from ty)
  exact ⟨typeIs_int s i t,fun _ e=>nomatch e⟩
 | ref p =>
  cases r
  rcases ty with ⟨rfl,xs,hq⟩ | ⟨rfl,o,hk,hc,hd⟩ | ⟨rfl,hk⟩ | ⟨rfl,S,n,hk⟩
  ·obtain ⟨its,_,pl,_⟩:=I.list hq
   refine ⟨pl.isList.typeIs,fun a e=>?_⟩
   cases e
   obtain ⟨o,n,e,c,hd,_⟩:=pl
   exact ⟨o,e,hd⟩
  ·refine ⟨⟨o,I.kIn p o hk,hc⟩,fun a e=>?_⟩
   cases e
   exact ⟨o,I.kIn _ o hk,hd⟩
  ·have z:∃ o,s.heap.get? p=some o/\o.ExactDict:=by
    rcases hk with ⟨kvs,hk⟩ | ⟨kvs,hk⟩
    ·obtain ⟨_,_,_,_,o,_,_,e,ex,_⟩:=I.hok p _ hk
     exact ⟨o,e,ex⟩
    ·obtain ⟨_,_,_,_,o,_,_,e,ex,_⟩:=I.hok p _ hk
     exact ⟨o,e,ex⟩
   obtain ⟨o,e,ex⟩:=z
   refine ⟨⟨o,e,ex.1⟩,fun a e2=>?_⟩
   cases e2
   exact ⟨o,e,ex.2.1⟩
  ·obtain ⟨o,_,_,_,e,ex,_⟩:=I.hok p _ hk
   refine ⟨⟨o,e,ex.1⟩,fun a e2=>?_⟩
   cases e2
   exact ⟨o,e,ex.2.1⟩
 | _=>exact False.elim ty
def tBM (K:PySem.W.Frag)(T:String)(r:V->List V->Hp->VK->Prop)(to:TE)(t:TA):TE:=fun σ H Q=>to σ H fun x H1=>tyV K T x H1/\t σ H1 fun xs H2=>r x xs H2 Q
variable {o e:Expr}{es:List Expr}{to:TE}{t:TA}{name:Str}{apos cpos:Pos}{T id:String}{r:V->List V->Hp->VK->Prop}
theorem JJ (pa:PlainAttrs T)(slot:Slot T name id)(hty:typeOf (.builtin id)=pure (.type "method_descriptor"))(hm:MtR X id r)(ho:PE X o to)(ha:PA X (e::es) t)
  (hbase:autoParam (attributeBase o name X.env (eval o X.env)=eval o X.env) L2.au3._auto_1)
  (hfew:autoParam (((backTo cpos (starEach (e::es) X.env)).all (fun x=>!x.1)&&(backToKw cpos (keywordEach [] X.env)).all (fun x=>x.1.isSome)
   && decide ((e::es).length+([]:List Keyword).length+(if ([]:List Keyword).isEmpty then 0 else 1)<30))=true) L2.au3._auto_1)
  (hline:autoParam ((apos.endLine==cpos.line)=true) L2.au3._auto_1) (hs:autoParam (starEach (e::es) X.env=(false,eval e X.env)::starEach es X.env) L2.au3._auto_1) (hplain:autoParam ((backTo cpos (starEach es X.env)).any (·.1)=false) L2.au3._auto_1) :
  PE X (.Call (.Attribute o name apos) (e::es) [] cpos) (tBM X.K T r to t):=by
 intro pins s σ H Q I h
 refine wpAny_Call_method_late hbase hfew hline rfl (thn (ho pins s σ H _ I h) fun v s1 ⟨x,H1,I1,r1,ty,q1⟩=>?_)
 obtain ⟨h1,h2⟩:=JE I1 r1 ty
 refine ⟨T,id,pa,slot,hty,h1,h2,?_⟩
 have hA:=ha cpos pins s1 σ H1 _ I1 q1
 rw [hs] at hA ⊢
 refine Calls.callWith_builtin (by show (false||(backTo cpos (starEach es X.env)).any (·.1))=false; rw [hplain]<;>rfl) (Calls.evalArgs_plain ?_)
 exact thn hA fun us s2 ⟨vs,H2,I2,r2,q2⟩=>hm pins s2 σ H2 x vs v us Q I2 r1 r2 q2
end
def MtM (X:Cx)(id:String)(r:V->List V->Hp->VK->Prop):Prop :=
 ∀ (pins:List (Addr×Obj)) (s:Shared) (σ:St) (H:Hp) (x:V) (xs:List V) (v:Value) (us:List Value) (Q:VK),Inv X pins σ H s->RelV x v->Vals xs us->r x xs H Q ->
  wpAny (model X.prog X.w) X.A (call (.builtin id) (v::us)) (EP X pins σ Q) X.xe s
theorem Vals.one:∀ {x:V} {us:List Value},Vals [x] us->∃ u,us=[u]/\RelV x u
 | _,_,.cons r .nil=>⟨_,rfl,r⟩
theorem Vals.two:∀ {x y:V} {us:List Value},Vals [x,y] us->∃ u v,us=[u,v]/\RelV x u/\RelV y v
 | _,_,_,.cons r (.cons q .nil)=>⟨_,_,rfl,r,q⟩
theorem Vals.zero:∀ {us:List Value},Vals [] us->us=[]
 | _,.nil=>rfl
theorem Vals.rep {xs:List V}{us:List Value}(h:Vals xs us):∀ k:Nat,Vals (List.replicate k xs).flatten (List.replicate k us).flatten
 | 0=>.nil
 | k+1=>by
  rw [tS,tS,rP,rP]
  exact Vals.append h (Vals.rep h k)
theorem qq (its:List Value):∀ (k:Nat) (acc:List Value),
  List.foldl (fun x1 x2=>x1++x2) acc.toArray (List.replicate k its.toArray)=(acc++(List.replicate k its).flatten).toArray
 | 0,acc=>by simp
 | k+1,acc=>by
  have e:acc.toArray++its.toArray=(acc++its).toArray:=by simp
  have e2:(acc++its)++(List.replicate k its).flatten=acc++(List.replicate (k+1) its).flatten:=by
   rw [tS,rP,rF]
  rw [<- e2,<- qq its k (acc++its),<- e,tS,List.foldl_cons]
section
variable {X:Cx}{pins:List (Addr×Obj)}{σ:St}{H:Hp}{s:Shared}{l b:Addr}{xs ys zs:List V}
theorem Inv.lset {its its':List Value}{n:Nat}{f:Array Value->Array Value}{t':Nat}(I:Inv X pins σ H s)(hH:H l=some (.lst xs))
  (e:s.heap.get? l=some { cls:=.type "list",data:=.seq its.toArray n }) (hf:f its.toArray=its'.toArray) (hv:Vals ys its') (hz:ys.length<=sizeLine) :
  Inv X pins σ (upd H l (.lst ys)) { s with heap:=s.heap.update l (Obj.mapSeq f),toks:=t' }:=by
 have q:=PySem.IsL.update e f
 rw [hf] at q
 refine I.write (x:=l) (e:=l) (by rw [hH]; exact trivial) (.inl rfl) (fun b' u hb hu=>(Heap.get?_update_other s.heap (Obj.mapSeq f) (Ne.symm hb)).trans hu) ⟨_,q⟩ ?_
 exact ⟨hz,its',_,hv,q⟩
theorem Inv.lnew {its:List Value}{t':Nat}(I:Inv X pins σ H s)(hv:Vals ys its)(hz:ys.length<=sizeLine) :
  Inv X pins σ (upd H s.heap.objs.size (.lst ys)) { s with heap:=s.heap.push { cls:=.type "list",data:=.seq its.toArray },toks:=t' } :=
 I.laid (fun _ _ q=>Heap.get?_push_of_some _ q) (sD _) ⟨hz,its,0,hv,Heap.get?_push_size _ rfl⟩
theorem Inv.fresh (I:Inv X pins σ H s):H s.heap.objs.size=none:=I.hok.fresh (sD _)
theorem Inv.lstM (I:Inv X pins σ H s)(hH:H l=some (.lst xs)):xs.length<=sizeLine/\∃ (its:List Value) (n:Nat),Vals xs its/\xs.length=its.length/\s.heap.get? l=some { cls:=.type "list",data:=.seq its.toArray n }:=by
 obtain ⟨z,its,n,r,e⟩:=I.hok l _ hH
 exact ⟨z,its,n,r,r.length,e⟩
theorem Wk {n:Nat}(h:n<=sizeLine):Builtin.List.listTooLong n=false:=by
 unfold Builtin.List.listTooLong
 exact decide_eq_false (by omega)
end
section
variable {X:Cx}
def VR:V->List V->Hp->VK->Prop:=fun x vs H Q=>∃ l xs y,x=.ref l/\vs=[y]/\H l=some (.lst xs)/\xs.length<sizeLine/\Q .non (upd H l (.lst (xs++[y])))
theorem kq:MtM X "list.append" VR:=by
 intro pins s σ H x vs v us Q I rx rv h
 obtain ⟨l,xs,y,rfl,rfl,hH,hz,q⟩:=h
 cases rx
 obtain ⟨u,rfl,ru⟩:=rv.one
 obtain ⟨z,its,n,r,hl,e⟩:=I.lstM hH
 refine call_meets F.slot_list_append ⟨_,e,rfl⟩ F.entry_list_append (F.args_list_append_2 _ _) (PySem.list_append l its.toArray n u (by rw [sF]; omega)) ⟨e,?_⟩
 refine ⟨.non,_,I.lset (its':=its++[u]) hH e (by simp) (r.append (.cons ru .nil)) ?_,rfl,q⟩
 rw [tZ,rS]
 omega
def JV:R2:=fun x y H Q=>∃ l b xs zs,x=.ref l/\y=.ref b/\H l=some (.lst xs)/\H b=some (.lst zs)/\xs.length+zs.length<=sizeLine/\∀ p,H p=none->Q (.ref p) (upd H p (.lst (xs++zs)))
theorem QU:OpR X (binaryOp .Add) JV:=by
 intro pins s σ H x y v u Q I rx ry h
 obtain ⟨l,b,xs,zs,rfl,rfl,hH,hB,hz,q⟩:=h
 cases rx
 cases ry
 obtain ⟨z,its,n,r,hl,e⟩:=I.lstM hH
 obtain ⟨z2,its2,n2,r2,hl2,e2⟩:=I.lstM hB
 refine PySem.P.add_list e e2 ?_ (by rw [sF,sF]; omega)
 have ea:its.toArray++its2.toArray=(its++its2).toArray:=by simp
 rw [ea]
 exact ⟨.ref _,_,I.lnew (t':=s.toks) (r.append r2) (by rw [tZ]; omega),rfl,q _ I.fresh⟩
def Jv:R2:=fun x y H Q=>∃ l k xs,x=.ref l/\y=.int k/\H l=some (.lst xs)/\-(2 ^ 63)<=k/\k<2 ^ 63/\xs.length*k.toNat<=sizeLine /\
 ∀ p,H p=none->Q (.ref p) (upd H p (.lst (List.replicate k.toNat xs).flatten))
theorem Z9 {α:Type}(xs:List α)(k:Nat):(List.replicate k xs).flatten.length=k*xs.length:=by
 induction k with
 | zero=>simp
 | succ k ih=>rw [tS,rP,tZ,ih,Nat.succ_mul,Nat.add_comm]
theorem QT:OpR X (binaryOp .Mult) Jv:=by
 intro pins s σ H x y v u Q I rx ry h
 obtain ⟨l,k,xs,rfl,rfl,hH,h1,h2,hz,q⟩:=h
 cases rx
 obtain ⟨t,rfl⟩:=ry
 obtain ⟨z,its,n,r,hl,e⟩:=I.lstM hH
 have hlen:its.toArray.size*k.toNat<=sizeLine:=by rw [sF,<- hl]; exact hz
 have hcap:¬ its.toArray.size*k.toNat>(2 ^ 63-1)/8:=by
  have:(sizeLine:Nat)<=(2 ^ 63-1)/8:=by decide
  omega
 have hfit:¬ (!Builtin.List.listFitsIndex k)=true:=by
  rw [fitsIndex_both h1 h2]
  exact sE
 have hlong:¬ Builtin.List.listTooLong (its.toArray.size*k.toNat)=true:=by
  rw [Wk hlen]
  exact sE
 have hnew:List.foldl (fun x1 x2=>x1++x2) #[] (List.replicate (if its.toArray.isEmpty=true then 0 else k.toNat) its.toArray)=(List.replicate k.toNat its).flatten.toArray:=by
  have f0:∀ m:Nat,List.foldl (fun x1 x2=>x1++x2) #[] (List.replicate m its.toArray)=(List.replicate m its).flatten.toArray:=fun m=>by
   have:=qq its m []
   rw [tN] at this
   exact this
  rw [f0]
  cases its with
  | nil=>simp
  | cons a r'=>rw [if_neg (by simp)]
 refine wpAny_binaryOp_repeat_ref (T:="list") (U:="int") (by decide) ⟨_,e,rfl⟩ (fun s'=>typeIs_int s' k t) noFill_list_mul F.fills_int_mul F.slot_int_rmul repeat_list F.slot_int_index.lookup
  (call_meets F.slot_int_rmul (typeIs_int s k t) F.entry_int_rmul (F.args_int_rmul_2 _ _) (int___rmul___int_list k t l its.toArray n)
   ⟨e,rfl,⟨_,e,rfl⟩,call_meets F.slot_list_mul ⟨_,e,rfl⟩ F.entry_list_mul (F.args_list_mul_2 _ _) (AutoListH.list___mul___list_int_3 l its.toArray n k t hfit hcap hlong) ⟨e,?_⟩⟩)
 rw [hnew]
 exact ⟨.ref _,_,I.lnew (t':=s.toks) (r.rep k.toNat) (by rw [Z9,Nat.mul_comm]; exact hz),rfl,q _ I.fresh⟩
end
section
variable {prog:Program}{w:World}{A:Around}{E:Value->Shared->Prop}{s:Shared}
end
section
variable {X:Cx}
end
section
variable {κ:Type}[DecidableEq κ]
def uS (kvs:List (κ×V))(k:κ):Option V:=(kvs.find? fun kv=>decide (kv.1=k)).map (·.2)
def Zw (kvs:List (κ×V))(k:κ)(v:V):List (κ×V) :=
 if (kvs.any fun kv=>decide (kv.1=k))=true then kvs.map (fun kv=>if kv.1=k then (kv.1,v) else kv) else kvs++[(k,v)]
def Q8 (kvs:List (κ×V))(k:κ):List (κ×V):=kvs.filter fun kv=>decide (kv.1≠k)
theorem uD {p:κ×V}{r:List (κ×V)}{k:κ}(e:p.1=k):uS (p::r) k=some p.2:=by simp [uS,rV,e]
theorem vM {p:κ×V}{r:List (κ×V)}{k:κ}(e:¬ p.1=k):uS (p::r) k=uS r k:=by simp [uS,rV,e]
theorem Zq (k:κ):∀ kvs:List (κ×V),(kvs.any fun kv=>decide (kv.1=k))=(uS kvs k).isSome
 | []=>rfl
 | p::r=>by
  rw [rX]
  by_cases e:p.1=k
  ·simp only [uD e,decide_eq_true e,Bool.true_or,Option.isSome_some]
  ·rw [vM e,decide_eq_false e,Bool.false_or]; exact Zq k r
theorem RelO.isSome_eq {o:Option V}{u:Option Value}(r:RelO o u):o.isSome=u.isSome:=by
 cases o with
 | none=>cases u with
  | none=>rfl
  | some _=>exact (show False from r).elim
 | some _=>cases u with
  | none=>exact (show False from r).elim
  | some _=>rfl
theorem RelO.getD {o:Option V}{u:Option Value}{d:V}{d':Value}(r:RelO o u)(rd:RelV d d'):RelV (o.getD d) (u.getD d'):=by
 cases o with
 | none=>cases u with
  | none=>exact rd
  | some _=>exact (show False from r).elim
 | some _=>cases u with
  | none=>exact (show False from r).elim
  | some _=>exact r
theorem KV.val {kvs:List (κ×V)}{vs:List (κ×Value)}(r:KV kvs vs)(k:κ):RelO (uS kvs k) (valueAt vs k):=by
 unfold KV at r
 induction r with
 | nil=>exact True.intro
 | @cons p q ps qs h t ih =>
  obtain ⟨h1,h2⟩:=h
  by_cases e:p.1=k
  ·have e':q.1=k:=h1.symm.trans e
   have b:valueAt (q::qs) k=some q.2:=by simp [valueAt,rV,e']
   rw [uD e,b]; exact h2
  ·have e':¬ q.1=k:=fun z=>e (h1.trans z)
   have b:valueAt (q::qs) k=valueAt qs k:=by simp [valueAt,rV,e']
   rw [vM e,b]; exact ih
theorem KV.any {kvs:List (κ×V)}{vs:List (κ×Value)}(r:KV kvs vs)(k:κ):(kvs.any fun kv=>decide (kv.1=k))=vs.any fun kv=>decide (kv.1=k):=by
 unfold KV at r
 induction r with
 | nil=>rfl
 | cons h t ih=>rw [rX,rX,ih,h.1]
theorem KV.repl {kvs:List (κ×V)}{vs:List (κ×Value)}(r:KV kvs vs)(k:κ){y:V}{u:Value}(ry:RelV y u) :
  KV (kvs.map fun kv=>if kv.1=k then (kv.1,y) else kv) (vs.map fun kv=>if kv.1=k then (kv.1,u) else kv):=by
 unfold KV at r ⊢
 induction r with
 | nil=>exact .nil
 | @cons p q ps qs h t ih =>
  rw [tG,tG]
  refine .cons ?_ ih
  obtain ⟨h1,h2⟩:=h
  by_cases e:p.1=k
  ·rw [if_pos e,if_pos (h1.symm.trans e)]; exact ⟨h1,ry⟩
  ·rw [if_neg e,if_neg (fun z=>e (h1.trans z))]; exact ⟨h1,h2⟩
theorem KV.put {kvs:List (κ×V)}{vs:List (κ×Value)}(r:KV kvs vs)(k:κ){y:V}{u:Value}(ry:RelV y u):KV (Zw kvs k y) (stored vs k u):=by
 unfold Zw stored
 rw [r.any k]
 by_cases e:(vs.any fun kv=>decide (kv.1=k))=true
 ·rw [if_pos e,if_pos e]; exact r.repl k ry
 ·rw [if_neg e,if_neg e]; exact Paired.snoc r ⟨rfl,ry⟩
theorem KV.drop {kvs:List (κ×V)}{vs:List (κ×Value)}(r:KV kvs vs)(k:κ):KV (Q8 kvs k) (without vs k):=by
 unfold KV at r ⊢
 unfold Q8 without
 induction r with
 | nil=>exact .nil
 | @cons p q ps qs h t ih =>
  obtain ⟨h1,h2⟩:=h
  rw [List.filter_cons,List.filter_cons]
  by_cases e:p.1=k
  ·have a:¬ decide (p.1≠k)=true:=by simp [e]
   have b:¬ decide (q.1≠k)=true:=by simp [h1.symm.trans e]
   rw [if_neg a,if_neg b]; exact ih
  ·have e':¬ q.1=k:=fun z=>e (h1.trans z)
   have a:decide (p.1≠k)=true:=by simp [e]
   have b:decide (q.1≠k)=true:=by simp [e']
   rw [if_pos a,if_pos b]; exact .cons ⟨h1,h2⟩ ih
theorem KV.keys {kvs:List (κ×V)}{vs:List (κ×Value)}(r:KV kvs vs):kvs.map (·.1)=vs.map (·.1):=by
 unfold KV at r
 induction r with
 | nil=>rfl
 | cons h t ih=>rw [tG,tG,ih,h.1]
theorem KV.length {kvs:List (κ×V)}{vs:List (κ×Value)}(r:KV kvs vs):kvs.length=vs.length:=Paired.length r
end
theorem UU {P:Program}{w:World}{k:Key}{u:Value}(r:RelV (kV k) u):(xn P w).is k u=true:=by
 cases k with
 | inl i=>obtain ⟨t,e⟩:=(show ∃ t,u=Value.int i t from r); subst e; exact ZZ P w i t
 | inr x=>obtain ⟨t,e⟩:=(show ∃ t,u=Value.str x t from r); subst e; exact Y0 P w x t
 | non=>cases (show u=Value.none from r); exact ZQ P w
theorem ko {P:Program}{w:World}:∀ {ks:List Key} {us:List Value},Vals (ks.map kV) us->ItemsAre (xn P w) ks us
 | [],_,r=>by rw [tR] at r; cases r; exact .nil
 | k::ks,_,r=>by
  rw [tG] at r
  cases r with
  | cons h t=>exact .cons (UU h) (ko t)
abbrev KT (H:Hp):List (List Key×V)->List (List Key×Addr×Value)->Prop:=Paired fun p q=>p.1=q.1/\H q.2.1=some (.tup (p.1.map kV))/\RelV p.2 q.2.2
theorem KT.val {H:Hp}{kvs:List (List Key×V)}{xs:List (List Key×Addr×Value)}(r:KT H kvs xs)(k:List Key):RelO (uS kvs k) ((atKey xs k).map (·.2)):=by
 induction r with
 | nil=>exact True.intro
 | @cons p q ps qs h t ih =>
  obtain ⟨h1,_,h2⟩:=h
  by_cases e:p.1=k
  ·have e':q.1=k:=h1.symm.trans e
   have b:atKey (q::qs) k=some q.2:=by simp [atKey,rV,e']
   rw [uD e,b]; exact h2
  ·have e':¬ q.1=k:=fun z=>e (h1.trans z)
   have b:atKey (q::qs) k=atKey qs k:=by simp [atKey,rV,e']
   rw [vM e,b]; exact ih
theorem KT.repl {H:Hp}{kvs:List (List Key×V)}{xs:List (List Key×Addr×Value)}(r:KT H kvs xs)(k:List Key){y:V}{u:Value}(ry:RelV y u) :
  KT H (kvs.map fun kv=>if kv.1=k then (kv.1,y) else kv) (xs.map (putAt k u)):=by
 induction r with
 | nil=>exact .nil
 | @cons p q ps qs h t ih =>
  rw [tG,tG]
  refine .cons ?_ ih
  obtain ⟨h1,h2,h3⟩:=h
  unfold putAt
  by_cases e:p.1=k
  ·rw [if_pos e,if_pos (h1.symm.trans e)]; exact ⟨h1,h2,ry⟩
  ·rw [if_neg e,if_neg (fun z=>e (h1.trans z))]; exact ⟨h1,h2,h3⟩
theorem KT.put {H:Hp}{kvs:List (List Key×V)}{xs:List (List Key×Addr×Value)}(r:KT H kvs xs)(k:List Key){b:Addr}{y:V}{u:Value}(hb:H b=some (.tup (k.map kV)))(ry:RelV y u) :
  KT H (Zw kvs k y) (storedH xs k b u):=by
 have e:(kvs.any fun kv=>decide (kv.1=k))=(atKey xs k).isSome:=by
  rw [Zq,(r.val k).isSome_eq,Option.isSome_map]
 unfold Zw storedH
 rw [e]
 by_cases q:(atKey xs k).isSome=true
 ·rw [if_pos q,if_pos q]; exact r.repl k ry
 ·rw [if_neg q,if_neg q]; exact Paired.snoc r ⟨rfl,hb,ry⟩
theorem KT.keeps {H H':Hp}{kvs:List (List Key×V)}{xs:List (List Key×Addr×Value)}(r:KT H kvs xs)(ht:∀ b ys,H b=some (.tup ys)->H' b=some (.tup ys)):KT H' kvs xs :=
 Paired.mapP r fun _ _ z=>⟨z.1,ht _ _ z.2.1,z.2.2⟩
section
variable {P:Program}{w:World}{H:Hp}{h:Heap}{a:Addr}
theorem Q6 {u:HO}(ok:HOk P w H h)(e:Rd H a u):ObjOk P w H h a u:=e.ok ok
theorem jQ {kvs:List (Key×V)}(ok:HOk P w H h)(e:Rd H a (.dK kvs)):kvs.length<=sizeLine/\(a==sysModules)=false/\∃ vs,KV kvs vs/\h.DictOf (xn P w) a vs :=
 show ObjOk P w H h a (.dK kvs) from Q6 ok e
theorem Vx {ks:List Key}(ok:HOk P w H h)(e:H a=some (.tup (ks.map kV))):(tupleKind (xn P w)).is h ks a:=by
 obtain ⟨_,its,r,o,h1,h2,_,n,h3⟩:=(show ObjOk P w H h a (.tup (ks.map kV)) from ok a _ e)
 exact ⟨o,its.toArray,n,h1,h2,h3,by simpa using ko r⟩
theorem Q5 {kvs:List (List Key×V)}(ok:HOk P w H h)(e:Rd H a (.dT kvs)):kvs.length<=sizeLine/\(a==sysModules)=false /\
  ∃ xs,KT H kvs xs/\h.DictOfH (tupleKind (xn P w)) a xs:=by
 obtain ⟨z,y,xs,r,o,es,ep,h1,h2,h3,h4,h5⟩:=(show ObjOk P w H h a (.dT kvs) from Q6 ok e)
 refine ⟨z,y,xs,r,o,es,ep,h1,h2,h3,h4,fun x hx=>?_,h5⟩
 have all:∀ {l:List (List Key×V)} {m:List (List Key×Addr×Value)},KT H l m->∀ x∈m,(tupleKind (xn P w)).is h x.1 x.2.1:=by
  intro l m q
  induction q with
  | nil=>intro x hx; exact nomatch hx
  | @cons p q ps qs hq t ih =>
   intro x hx
   rcases sG.mp hx with e | hx
   ·subst e
    exact Vx ok (by rw [<- hq.1]; exact hq.2.1)
   ·exact ih x hx
 exact all r x hx
end
def DGet (H:Hp)(a:Addr)(y:V)(r:Option V):Prop :=
 (∃ kvs k,Rd H a (.dK kvs)/\y=kV k/\r=uS kvs k)\/∃ kvs k b,Rd H a (.dT kvs)/\y=.ref b/\H b=some (.tup (k.map kV))/\r=uS kvs k
def DPut (H:Hp)(a:Addr)(y v:V)(H':Hp):Prop :=
 (∃ kvs k,H a=some (.dK kvs)/\y=kV k/\kvs.length<sizeLine/\H'=upd H a (.dK (Zw kvs k v))) \/
 ∃ kvs k b,H a=some (.dT kvs)/\y=.ref b/\H b=some (.tup (k.map kV))/\kvs.length<sizeLine/\H'=upd H a (.dT (Zw kvs k v))
theorem DGet.k {H:Hp}{a:Addr}{kvs:List (Key×V)}{k:Key}(e:H a=some (.dK kvs)):DGet H a (kV k) (uS kvs k):=.inl ⟨kvs,k,.inl e,rfl,rfl⟩
theorem DGet.t {H:Hp}{a b:Addr}{kvs:List (List Key×V)}{k:List Key}(e:H a=some (.dT kvs))(eb:H b=some (.tup (k.map kV))):DGet H a (.ref b) (uS kvs k):=.inr ⟨kvs,k,b,.inl e,rfl,eb,rfl⟩
theorem DPut.k {H:Hp}{a:Addr}{kvs:List (Key×V)}{k:Key}{v:V}(e:H a=some (.dK kvs))(hl:kvs.length<sizeLine):DPut H a (kV k) v (upd H a (.dK (Zw kvs k v))):=.inl ⟨kvs,k,e,rfl,hl,rfl⟩
theorem DPut.t {H:Hp}{a b:Addr}{kvs:List (List Key×V)}{k:List Key}{v:V}(e:H a=some (.dT kvs))(eb:H b=some (.tup (k.map kV)))(hl:kvs.length<sizeLine) :
  DPut H a (.ref b) v (upd H a (.dT (Zw kvs k v))):=.inr ⟨kvs,k,b,e,rfl,eb,hl,rfl⟩
section
variable {X:Cx}{pins:List (Addr×Obj)}{σ:St}{H:Hp}{s:Shared}{a:Addr}{y v:V}{u r:Value}{o:Option V}{A:Around}{E:Value->Shared->Prop}
theorem Inv.big (I:Inv X pins σ H s):sysModules<s.heap.objs.size:=by
 have h:mainGlobals<s.heap.objs.size:=(I.mod.glob.keeps I.bk).lt
 exact Nat.lt_trans (by decide) h
theorem Xp {Q:Value->Shared->Prop}(hu:A.units+1<cLine)(I:Inv X pins σ H s)(g:DGet H a y (some v))(ry:RelV y u)(h:∀ w' s',Inv X pins σ H s'->RelV v w'->Q w' s') :
  wpAny (model X.prog X.w) A (getItem (.ref a) u) Q E s:=by
 rcases g with ⟨kvs,k,e,ey,l⟩ | ⟨kvs,k,b,e,ey,eb,l⟩
 ·subst ey
  obtain ⟨z,hd,vs,rel,dd⟩:=jQ I.hok e
  obtain ⟨w',hw,rw'⟩:=RelO.some_of (v:=v) (o:=valueAt vs k) (by rw [l]; exact rel.val k)
  exact wpAny_getItem_of (UU ry) dd.mapOf hw (h w' _ (I.tok _) rw')
 ·subst ey
  cases (show u=Value.ref b from ry)
  obtain ⟨z,hd,xs,rel,dd⟩:=Q5 I.hok e
  obtain ⟨w',hw,rw'⟩:=RelO.some_of (v:=v) (o:=(atKey xs k).map (·.2)) (by rw [l]; exact rel.val k)
  obtain ⟨p,hp,hp2⟩:=pL.mp hw
  refine wpAny_getItem_heap (tupleKind_room_in1 hu) (Vx I.hok eb) dd hp ?_
  rw [hp2]
  exact h w' _ (I.tok _) rw'
end
section
variable {X:Cx}{pins:List (Addr×Obj)}{σ:St}{H:Hp}{s:Shared}{a:Addr}{kvs:List (Key×V)}{k:Key}{u:Value}{A:Around}{E:Value->Shared->Prop}
theorem K5 {Q:Value->Shared->Prop}(I:Inv X pins σ H s)(e:Rd H a (.dK kvs))(h:∀ t s',Inv X pins σ H s'->Q (.int kvs.length t) s'):wpAny (model X.prog X.w) A (call (.builtin "len") [.ref a]) Q E s:=by
 obtain ⟨z,hd,vs,rel,dd⟩:=jQ I.hok e
 refine call_len_dict hd dd (by rw [<- rel.length]; rw [sizeLine_eq] at z; omega) ?_
 rw [<- rel.length]
 exact h _ _ (I.tok _)
end
def z0c (i:Expr):Prop:=∀ ov iv,subscripted i false ov iv=operate [ov,iv] (getItem ov iv)
theorem VX {prog:Program}{w:World}{A:Around}{E:Value->Shared->Prop}{s:Shared}{env:Env}{value slice:Expr}{pos:Pos}{T id:String}{Q:Value->Shared->Prop}
  (hl:typeLookup (.type T) "__getitem__"=pure (some (.builtin id))) (hs:z0c slice)
  (h:wpAny (model prog w) A (eval value env) (fun o s₁=>wpAny (model prog w) A (eval slice env) (fun i s₂=>s₂.TypeIs o T/\wpAny (model prog w) A (getItem o i) Q E s₂) E s₁) E s) :
  wpAny (model prog w) A (eval (.Subscript value slice pos) env) Q E s:=by
 refine Subscript_ (wpAny_mono h (fun o s₁ h₁=>wpAny_mono h₁ (fun i s₂ h₂=>?_) fun _ _ x=>x) fun _ _ x=>x)
 obtain ⟨hT,h₂⟩:=h₂
 unfold subscriptTail
 refine wpAny_bind ?_
 rw [getitemInPython_of_ne hT.not_modules]
 refine wpAny_bind (wpAny_specialOf hT hl ?_)
 have fin:wpAny (model prog w) A (subscripted slice false o i) (fun r s₃=>wpAny (model prog w) A (letTemporaryGo value o r >>= fun _=>pure r) Q E s₃) E s₂:=by
  rw [hs o i]
  exact wpAny_operating (wpAny_mono h₂ (fun r s₃ h₃=>wpAny_bind (wpAny_letTemporaryGo (wpAny_pure h₃))) fun _ _ x=>x)
 first
  | exact wpAny_pure (wpAny_bind fin)
  | exact wpAny_bind (wpAny_pure (wpAny_bind fin))
  | exact wpAny_bind fin
theorem Y5 {X:Cx}{pins:List (Addr×Obj)}{σ:St}{H:Hp}{s:Shared}{a:Addr}{y:V}{o:Option V}(I:Inv X pins σ H s)(g:DGet H a y o):s.TypeIs (.ref a) "dict":=by
 rcases g with ⟨kvs,k,e,_,_⟩ | ⟨kvs,k,b,e,_,_,_⟩
 ·obtain ⟨_,_,vs,_,dd⟩:=jQ I.hok e
  exact dd.typeIs
 ·obtain ⟨_,_,xs,_,dd⟩:=Q5 I.hok e
  exact dd.typeIs
def US (td ty:TE):TE:=fun σ H Q=>td σ H fun x H1=>ty σ H1 fun y H2=>∃ a v,x=.ref a/\DGet H2 a y (some v)/\Q v H2
section
variable {X:Cx}{o i e value:Expr}{pos pos' tpos:Pos}{td ty tv:TE}
theorem UG (hu:X.A.units+1<cLine)(ho:PE X o td)(hi:PE X i ty)(hs:z0c i):PE X (.Subscript o i pos) (US td ty):=by
 intro pins s σ H Q I h
 refine VX PySem.F.slot_dict_getitem.lookup hs (thn (ho pins s σ H _ I h) fun u s1 ⟨x,H1,I1,rx,q1⟩=>thn (hi pins s1 σ H1 _ I1 q1) fun iv s2 ⟨y,H2,I2,ry,a,v,ex,g,q2⟩=>?_)
 subst ex
 obtain rfl:u=Value.ref a:=rx
 exact ⟨Y5 I2 g,Xp hu I2 g ry fun w' s3 I3 rw'=>⟨v,H2,I3,rw',q2⟩⟩
end
theorem Vm {P:Program}{w:World}{H:Hp}(h:Heap)(hb:sysModules<h.objs.size):ObjOk P w H (h.push { cls:=.type "dict",data:=.dict #[] }) h.objs.size (.dK []) :=
 ⟨pD _,beq_eq_false_iff_ne.mpr (Ne.symm (sW hb)),[],.nil,Heap.DictOf.new h⟩
def Jf:TE:=fun _ H Q=>∀ p,H p=none->Q (.ref p) (upd H p (.dK []))
section
variable {X:Cx}{pos:Pos}
theorem Vn:PE X (.Dict [] [] pos) Jf:=fun pins s σ H Q I h =>
 wpAny_Dict_empty ⟨.ref s.heap.objs.size,_,I.laid (a:=s.heap.objs.size) (o:=.dK []) (t':=s.toks) (fun _ _ q=>Heap.get?_push_of_some _ q) (sD _) (Vm s.heap I.big),rfl,h _ (I.hok.fresh (sD _))⟩
end
structure M1 (X:Cx)(o:Expr)(m:Str)(apos:Pos)(e:Expr)(cpos:Pos):Prop where
 base:attributeBase o m X.env (eval o X.env)=eval o X.env
 few:((backTo cpos (starEach [e] X.env)).all (fun x=>!x.1)&&(backToKw cpos (keywordEach [] X.env)).all (fun x=>x.1.isSome)
  && decide (([e]:List Expr).length+([]:List Keyword).length+(if ([]:List Keyword).isEmpty then 0 else 1)<30))=true
 line:(apos.endLine==cpos.line)=true
 trees:backTo cpos (starEach [e] X.env)=[(false,eval e X.env)]
structure M2 (X:Cx)(o:Expr)(m:Str)(apos:Pos)(e f:Expr)(cpos:Pos):Prop where
 base:attributeBase o m X.env (eval o X.env)=eval o X.env
 few:((backTo cpos (starEach [e,f] X.env)).all (fun x=>!x.1)&&(backToKw cpos (keywordEach [] X.env)).all (fun x=>x.1.isSome)
  && decide (([e,f]:List Expr).length+([]:List Keyword).length+(if ([]:List Keyword).isEmpty then 0 else 1)<30))=true
 line:(apos.endLine==cpos.line)=true
 trees:backTo cpos (starEach [e,f] X.env)=[(false,eval e X.env),(false,eval f X.env)]
section
variable {X:Cx}{pins:List (Addr×Obj)}{σ:St}{H:Hp}{s:Shared}{a:Addr}{y d:V}{u r:Value}{o:Option V}{A:Around}{E:Value->Shared->Prop}
end
section
variable {X:Cx}{o e f:Expr}{apos cpos:Pos}{td ty tx:TE}
end
section
variable {X:Cx}{pins:List (Addr×Obj)}{σ:St}{H:Hp}{s:Shared}{a:Addr}{kvs:List (Key×V)}{A:Around}{E:Value->Shared->Prop}
end
section
variable {X:Cx}{pins:List (Addr×Obj)}{σ:St}{H:Hp}{s:Shared}{a:Addr}{y:V}{u:Value}{A:Around}{E:Value->Shared->Prop}
end
end L2
namespace Att
open PySem PySem.W PySem.Calls PyProof.Rows
theorem qI {P:Params}{h:Heap}:∀ (ns:List Int) (vs:List Value),WellAll P h vs (ns.map WData.int)->IntsAre vs ns:=by
 intro ns
 induction ns with
 | nil =>
  intro vs w
  rw [tR] at w
  cases w
  exact .nil
 | cons n ns ih =>
  intro vs w
  rw [tG] at w
  cases w with
  | cons a b =>
   cases a
   exact .cons _ _ (ih _ b)
theorem XO {l:OpenLaw}{n:Nat}(hn:l.most=some n){P:Params}{h:Heap}{args:List WData}{vals:List Value}
  (hpre:l.row.toRowW.claim.pre args=true) (hwl:WellAll P h vals args) :
  ∃ a vs ns,vals=[Value.ref a]/\args=[WData.list (ns.map WData.int)]/\h.get? a=some { cls:=.type "list",data:=.seq vs.toArray }/\IntsAre vs ns/\ns.length<=n:=by
 have hsh:WShape.hasAll [] args [.list .int]=true:=(pre_splitW hpre).1
 have hc:l.pre.holds [] { args:=args }=true:=(pre_splitW hpre).2
 obtain ⟨d,r,rfl,h1,h2⟩:=hasAllW_cons hsh
 obtain rfl:=hasAllW_nil h2
 obtain ⟨xs,rfl,h3⟩:=hasW_list h1
 obtain ⟨ns,rfl⟩:=items_int h3
 have hlen:ns.length<=n:=by
  unfold OpenLaw.pre at hc
  have h4:(WTm.not (.lt (.lit (.int (n:Int))) (.len (.arg 0)))).holds [] { args:=[.list (ns.map .int)] }=true:=by
   have h4:=(holds_andW hc).1
   rw [hn] at h4
   exact h4
  have h5:=condW_of h4 (w_not (w_lt w_lit (w_len_list (w_arg rfl))))
  rw [sO] at h5
  refine Nat.le_of_not_lt fun q=>?_
  have q':(n:Int)<((ns.length:Nat):Int):=by omega
  first
   | (rw [decide_eq_true q'] at h5; exact absurd h5 (by decide))
   | (simp at h5; omega)
 cases hwl with
 | cons w1 w2 =>
  cases w2
  cases w1 with
  | list ho hall=>exact ⟨_,_,ns,rfl,rfl,ho,qI ns _ hall,hlen⟩
theorem Xu (l:OpenLaw)(args:List WData):l.row.toRowW.claim.post args (.bool true) args=true :=
 postW_of (r:=l.row.toRowW) (X:=(true==true))
  (show WShape.has [] (.bool true) .bool=true by first | rfl | decide | simp [WShape.has,WShape.arms,WShape.armsAll])
  (show (WTm.eq .res (.lit (.bool true))).value [] { args:=args,res:=some (.bool true),after:=args }=some (.bool (true==true)) from w_eq_bool (w_res rfl) w_lit) rfl
theorem attach_call {l:OpenLaw}{n:Nat}{q:Program}{loose:List Str}{XP:(Str->Option Value)->Heap->Prop}{YP:World->Heap->Prop}{d:DefRec}
  (hn:l.most=some n) (hdf:d.params.defaults=[])
  (call:∀ (w:World) (s₀ s₁:Shared) (mg mb:Str->Option Value) (fa:Addr) (o:Obj) (pm cd doc:Value) (a:Addr) (vs:List Value) (ns:List Int),
   Ground q loose [] XP w s₀ mg mb s₁.heap->YP w s₁.heap ->
   s₁.heap.get? fa=some o->o.data=.func (docDef d.name d.params d.body d.scope pm cd doc)->s₁.heap.CodeRec cd d.name->mg d.name=some (.ref fa) ->
   s₁.heap.get? a=some { cls:=.type "list",data:=.seq vs.toArray }->IntsAre vs ns->ns.length<=n->s₁.gens=#[] ->
   codeAny (model l.prog w) callerA (.call (.ref fa) ⟨[.ref a],[]⟩) (fun r s'=>r=.ok (.ret (.bool true))/\OldK s₁.heap s'.heap/\s'.os=s₁.os/\AllBare s'.gens) s₁) :
  WalkO q loose XP YP l.row.toRowW d [] (fun f vs=>PySem.call f vs):=by
 intro w s₀ s₁ mg mb G Y fa o pm cd doc dV kV ho hd hcd hD hmg hg args vals as hpre hlay hrd hwl hlo
 obtain rfl:dV=.none:=Dflts.none hD hdf
 obtain rfl:kV=.none:=Dflts.noKw hD
 obtain ⟨a,vs,ns,rfl,rfl,hobj,hints,hlen⟩:=XO hn hpre hwl
 refine enter_call (codeAny_mono (call w s₀ s₁ mg mb fa o pm cd doc a vs ns G Y ho (fd_plain hd) hcd hmg hobj hints hlen hg) fun r s' hq=>?_)
 obtain ⟨rfl,h2,h3,h4⟩:=hq
 exact ⟨.inl ⟨.bool true,.bool true,[],rfl,fun _=>rfl,.bool true,Xu l _,fun _=>⟨List.Pairwise.nil,fun _ hm=>(nomatch hm)⟩⟩,h2,h3,h4⟩
section
variable {prog:Program}{w:World}{A:Around}{E:Value->Shared->Prop}{s:Shared}{K:Frag}
end
end Att
namespace L2
open PySem PySem.Spec PyProof.Rows
theorem kn:∀ {vs:List Value} {ns:List Int},IntsAre vs ns->Vals (ns.map V.int) vs
 | _,_,.nil=>.nil
 | _,_,.cons n t h=>.cons ⟨t,rfl⟩ (kn h)
def VO (H:Hp):Prop:=∀ b,H b=none\/∃ o xs,H b=some (.frz o (.lst xs))
theorem WL {P:Program}{w:World}{K:PySem.W.Frag}{mg mb:Str->Option Value}{CX:CXT}{k:Nat}{fa a:Addr}{fd:FuncData}{x:Str}{sp:Sp}{s₁:Shared}{vs:List Value}{ns:List Int}
  (KX:K.In s₁.heap) (hns:s₁.heap.Ns mainGlobals mg) (hb:s₁.heap.Ns builtinsNs mb) (hbb:∀ x:Str,x≠"__name__"->mb x=bootBuiltins x) (hlim:s₁.heap.NoLimit) (hg:s₁.gens=#[])
  (ha:s₁.heap.get? a=some { cls:=.type "list",data:=.seq vs.toArray }) (hi:IntsAre vs ns) (hl:ns.length<=sizeLine) (hr:Room k callerA)
  (F:∀ base:Heap,K.In base->base.Ns mainGlobals mg->FnOk P w K mg base CX k fa fd [x] sp) (hbind:∀ (s:Shared) (u:Value),BindsTo s fd ⟨[u],[]⟩ [(x,u)])
  (hsp:∀ H:Hp,VO H->SqL K H a (ns.map V.int)->sp [.ref a] H (fun v _=>v=.bl true) fun _ _ _=>False)
  (hCX:∀ H e s',CX [] H s₁ (fun _ _ _=>False) e s'->False) :
  codeAny (model P w) callerA (.call (.ref fa) ⟨[.ref a],[]⟩) (fun r s'=>r=.ok (.ret (.bool true))/\OldK s₁.heap s'.heap/\s'.os=s₁.os/\AllBare s'.gens) s₁:=by
 have rv:=kn hi
 have lenV:=hi.length
 have core:∀ H:Hp,VO H->SqL K H a (ns.map V.int)->HOk P w H s₁.heap->(∀ b,H b≠none->b=a)->(H a≠none->K.lookup a=none) ->
   codeAny (model P w) callerA (.call (.ref fa) ⟨[.ref a],[]⟩) (fun r s'=>r=.ok (.ret (.bool true))/\OldK s₁.heap s'.heap/\s'.os=s₁.os/\AllBare s'.gens) s₁:=by
  intro H hO hS hok hA hK
  have base_of:∀ {b:Addr} {o:Obj},s₁.heap.get? b=some o->H b=none->(Zm s₁.heap H).get? b=some o:=fun e n=>V6 e n
  have noA:∀ {b:Addr} {o:Obj} {es:Array DictEntry} {ep:Nat},s₁.heap.get? b=some o->o.data=.dict es ep->H b=none:=fun {b o es ep} e d=>by
   cases q:H b with
   | none=>rfl
   | some u =>
    have e':b=a:=hA b (by rw [q]; simp)
    subst e'
    rw [ha] at e; cases e
    have d':Data.seq vs.toArray _=Data.dict es ep:=d
    cases d'
  have nsK:∀ {b:Addr} {m:Str->Option Value},s₁.heap.Ns b m->(Zm s₁.heap H).Ns b m:=fun {b m} ⟨o,es,ep,e,d,r⟩=>⟨o,es,ep,base_of e (noA e d),d,r⟩
  have hKb:K.In (Zm s₁.heap H):=fun b o e=>base_of (KX b o e) (by
   cases q:H b with
   | none=>rfl
   | some u =>
    have e':b=a:=hA b (by rw [q]; simp)
    subst e'
    rw [hK (by rw [q]; simp)] at e; cases e)
  have hM:Mod K mg (Zm s₁.heap H):=⟨hKb,nsK hns,⟨mb,nsK hb,hbb⟩,let ⟨mc,h1,h2⟩:=hlim; ⟨mc,nsK h1,h2⟩⟩
  have e0:Env0 P w K mg (Zm s₁.heap H) callerA [] s₁ H:=⟨rfl,hM,fun b o e=>VJ e,Nat.le_of_eq (Xx _ _),trivial,fun b hb=>absurd (show b∈([]:List Addr) from hb) (by simp),hok,.of_eq hg⟩
  refine codeAny_mono ((F _ hKb (nsK hns)).run callerA [] s₁ H ⟨[.ref a],[]⟩ [.ref a] [.ref a] _ _ hr e0 (hbind s₁ (.ref a)) (.cons rfl .nil) (hsp H hO hS)) fun r s' h=>?_
  cases r with
  | error e=>exact (hCX H e s' h).elim
  | ok fl =>
   cases fl with
   | next=>exact False.elim h
   | brk=>exact False.elim h
   | cont=>exact False.elim h
   | ret u =>
    obtain ⟨v,H',os,bare,un,hok',r',q⟩:=h
    have q':v=.bl true:=q
    subst q'
    obtain rfl:u=Value.bool true:=r'
    refine ⟨rfl,OldK.of_keep fun b o e=>?_,os,bare⟩
    cases q:H b with
    | none=>exact un.keep b o e q (by intro z; exact absurd (show b∈([]:List Addr) from z) (by simp)) (by simp)
    | some u =>
     rcases hO b with z | ⟨ob,xs,z⟩
     ·rw [q] at z; cases z
     ·have z2:=un.frzs b ob _ z
      obtain ⟨e1,_⟩:=hok b _ z
      obtain ⟨e2,_⟩:=hok' b _ z2
      rw [e] at e1; cases e1
      exact e2
 cases hk:K.lookup a with
 | some o =>
  have e:=KX a o hk
  rw [ha] at e
  cases e
  refine core (fun _=>none) (fun _=>.inl rfl) (.inr ⟨_,vs.toArray,_,hk,rfl,rfl,rfl,by rw [sF,lenV]; exact hl,by simpa using rv⟩) (fun b u z=>by have z':(none:Option HO)=some u:=z; cases z') (fun b z=>absurd rfl z) fun z=>absurd rfl z
 | none =>
  refine core (fun b=>if b=a then some (.frz { cls:=.type "list",data:=.seq vs.toArray } (.lst (ns.map V.int))) else none) (fun b=>?_) (.inl (.inr ⟨{ cls:=.type "list",data:=.seq vs.toArray },if_pos rfl⟩)) (fun b u z=>?_) (fun b z=>?_) fun _=>hk
  ·by_cases hb:b=a
   ·exact .inr ⟨_,_,if_pos hb⟩
   ·exact .inl (if_neg hb)
  ·by_cases hb:b=a
   ·have z':=(if_pos hb).symm.trans z
    cases z'
    subst hb
    exact ⟨ha,by rw [sO]; exact hl,vs,_,rv,ha⟩
   ·have z':=(if_neg hb).symm.trans z
    cases z'
  ·by_cases hb:b=a
   ·exact hb
   ·exact absurd (if_neg hb) z
theorem walk_of {l:PySem.W.OpenLaw}{n k:Nat}{q:Program}{loose:List Str}{XP:(Str->Option Value)->Heap->Prop}{YP:World->Heap->Prop}{d:DefRec}{K:Params->PySem.W.Frag}{CX:World->CXT}{sp:World->Sp}{x:Str}
  (hn:l.most=some n) (hn2:n<=sizeLine) (hdf:d.params.defaults=[]) (hr:Room k callerA)
  (hY:∀ (w:World) (h:Heap),YP w h->(K w.params).In h)
  (F:∀ (w:World) (mg:Str->Option Value) (fa:Addr) (h:Heap),(K w.params).In h->h.Ns mainGlobals mg->mg d.name=some (.ref fa) ->
   ∃ fd:FuncData,(∀ (s:Shared) (u:Value),BindsTo s fd ⟨[u],[]⟩ [(x,u)]) /\
    ∀ base:Heap,(K w.params).In base->base.Ns mainGlobals mg->FnOk l.prog w (K w.params) mg base (CX w) k fa fd [x] (sp w))
  (hsp:∀ (w:World) (H:Hp) (a:Addr) (ns:List Int),ns.length<=n->VO H->SqL (K w.params) H a (ns.map V.int)->sp w [.ref a] H (fun v _=>v=.bl true) fun _ _ _=>False)
  (hCX:∀ (w:World) (H:Hp) (s:Shared) (e:Value) (s':Shared),CX w [] H s (fun _ _ _=>False) e s'->False) :
  PySem.W.WalkO q loose XP YP l.row.toRowW d [] (fun f vs=>PySem.call f vs):=by
 refine Att.attach_call hn hdf fun w s₀ s₁ mg mb fa o pm cd doc a vs ns G Y ho hd hcd hmg hobj hints hlen hg=>?_
 have KX:=hY w _ Y
 obtain ⟨fd,hb,hF⟩:=F w mg fa _ KX G.T.g hmg
 exact WL KX G.T.g G.T.b G.T.builtins G.T.nolimit hg hobj hints (rD hlen hn2) hr hF hb (fun H hO hS=>hsp w H a ns hlen hO hS) fun H e s'=>hCX w H s₁ e s'
def defArgs (s:Stmt):Arguments:=match s with
 | .FunctionDef _ a _ _ _ _ _ _ _ _=>a
 | _=>{ posonlyargs:=[],args:=[],vararg:=none,kwonlyargs:=[],kw_defaults:=[],kwarg:=none,defaults:=[] }
def defBody (s:Stmt):List Stmt:=match s with
 | .FunctionDef _ _ b _ _ _ _ _ _ _=>b
 | _=>[]
def defScope (s:Stmt):Scope:=match s with
 | .FunctionDef _ _ _ _ _ _ sc _ _ _=>sc
 | _=>{ kind:=.function,names:=[],isGenerator:=false,isCoroutine:=false }
abbrev CX0:CXT:=fun _ _ _ _ _ _=>False
structure Fun (K:PySem.W.Frag)(x qual:Str)(st:Stmt)(f:Addr)(fd:FuncData):Prop where
 ex:∃ (oc:Value) (od:Option Addr) (kV doc pm:Value) (an:Option Addr) (cdv ct:Value) (osl:Array (Option Value)),
  fd=PySem.W.fnOf x qual (defArgs st) (defBody st) (defScope st) .none kV doc pm an cdv ct/\K.lookup f=some ⟨oc,od,.func fd,osl⟩/\PySem.W.codeIn K cdv qual=true
 kp:PySem.W.keepIn K (.ref f)=true
section
variable {P:Program}{w:World}{K:PySem.W.Frag}{mg:Str->Option Value}{base:Heap}
theorem Fun.ok {x qual:Str}{st:Stmt}{f:Addr}{fd:FuncData}{N ps:List Str}{k:Nat}{sp:Sp}(F:Fun K x qual st f fd)(S:FnScope N ps (defScope st))(len:∀ vs H Q E,sp vs H Q E->vs.length=ps.length)
  (hbody:∀ (cdv:Value) (A:Around) (outer:List Env) (s:Shared) (H:Hp) (vs:List V) (Q:VK) (E:XK),Room k (A.deeper (envOfC qual (defScope st) s.heap.objs.size f cdv))->sp vs H Q E ->
   ∃ t,PSs (xl CX0 P w K mg base N qual (defScope st) f cdv A outer s H E).nox (defBody st) t/\t { nx:=fun _ H'=>Q .non H',rt:=Q } (start N vs) H):FnOk P w K mg base CX0 (k+1) f fd ps sp:=by
 obtain ⟨oc,od,kV,doc,pm,an,cdv,ct,osl,rfl,lk,hcd⟩:=F.ex
 refine WQ lk hcd S len fun A outer s H vs Q E hr hsp=>?_
 obtain ⟨t,h,q⟩:=hbody cdv A outer s H vs Q E hr hsp
 exact ⟨t,h.nox,q⟩
theorem Fun.binds {x qual:Str}{st:Stmt}{f:Addr}{fd:FuncData}{ps:List Str}(F:Fun K x qual st f fd)
  (h:∀ (kV doc pm:Value) (an:Option Addr) (cdv ct:Value) (us:List Value),us.length=ps.length->bindArgs (PySem.W.fnOf x qual (defArgs st) (defBody st) (defScope st) .none kV doc pm an cdv ct) ⟨us,[]⟩=pure (ps.zip us)):Binds K fd ps []:=by
 obtain ⟨oc,od,kV,doc,pm,an,cdv,ct,osl,rfl,lk,hcd⟩:=F.ex
 exact .all (h kV doc pm an cdv ct)
theorem WB {x qual:Str}{st:Stmt}{f:Addr}{oc:Value}{od an:Option Addr}{osl:Array (Option Value)}{kV doc pm cdv ct:Value}(l:K.lookup f=some ⟨oc,od,.func (PySem.W.fnOf x qual (defArgs st) (defBody st) (defScope st) .none kV doc pm an cdv ct),osl⟩)
  (c:PySem.W.codeIn K cdv qual=true) (k:PySem.W.keepIn K (.ref f)=true):Fun K x qual st f (PySem.W.fnOf x qual (defArgs st) (defBody st) (defScope st) .none kV doc pm an cdv ct):=⟨⟨oc,od,kV,doc,pm,an,cdv,ct,osl,rfl,l,c⟩,k⟩
end
section
variable {X:Cx}
theorem pv (i:Nat){x:Str}{pos:Pos}(hN:autoParam (X.N[i]?=some x) L2.au3._auto_1)(hv:autoParam (Vis X.env.scope x) L2.au5._auto_1)(hd:autoParam ((x==("__debug__":Str))=false) L2.au1._auto_1)
  (hcd:autoParam ((x==("__classdict__":Str))=false) L2.au1._auto_1):PE X (.Name x pos) (Ub i):=jA hN hv hd hcd
theorem XJ:CallR X (.builtin "len") (fun xs H Q=>∃ a kvs,xs=[V.ref a]/\H a=some (.dK kvs)/\Q (.int kvs.length) H):=by
 intro pins s σ H xs us Q I r h
 obtain ⟨a,kvs,rfl,ha,q⟩:=h
 obtain ⟨u,rfl,ru⟩:=uB r
 cases ru
 exact K5 I (.inl ha) fun t s' I'=>⟨.int kvs.length,H,I',⟨t,rfl⟩,q⟩
end
theorem z0B {A B:Prop}(h:B):if false=true then A else B:=by
 rw [if_neg sE]
 exact h
theorem z0d {A B:Prop}(h:A):if true=true then A else B:=by
 rw [if_pos rfl]
 exact h
def Same (H H':Hp):Prop:=∀ b o,H b=some o->H' b=some o
theorem Same.refl (H:Hp):Same H H:=fun _ _ h=>h
theorem Same.trans {H H1 H2:Hp}(a:Same H H1)(b:Same H1 H2):Same H H2:=fun c o h=>b c o (a c o h)
theorem Same.free {H H':Hp}(e:Same H H'){l:Addr}(h:H' l=Option.none):H l=Option.none:=by
 cases q:H l with
 | none=>rfl
 | some o =>
  rw [e l o q] at h
  cases h
theorem Same.seq {K:PySem.W.Frag}{H H':Hp}{a:Addr}{xs:List V}(e:Same H H')(h:SqL K H a xs):SqL K H' a xs:=by
 rcases h with (h | ⟨o,h⟩) | h
 ·exact .inl (.inl (e _ _ h))
 ·exact .inl (.inr ⟨o,e _ _ h⟩)
 ·exact .inr h
section
variable {κ:Type}[DecidableEq κ]
end
def KD (fr:List Env)(H:Hp)(old:Addr->Prop)(e:Addr)(cls:Value)(h:Heap):Prop :=
 ∃ (B:Heap) (a0:Value),Heap.FlyingW B fr e cls a0 h/\∀ b o,h.get? b=some o->b∉frs fr->(H b≠none\/old b)->B.get? b=some o
def cxx (P:Program)(w:World):CXT:=fun outer H s E ev s'=>∃ (e:Addr) (cls:Value) (H':Hp),ev=.ref e/\s'.os=s.os/\AllBare s'.gens /\
 Un (frs outer) [] H H' s.heap s'.heap/\HOk P w H' s'.heap/\KD outer H' (fun b=>∃ o,s.heap.get? b=some o) e cls s'.heap/\E cls none H'
theorem ObjOk.there {P:Program}{w:World}{H:Hp}{h:Heap}{a:Addr}{o:HO}(x:ObjOk P w H h a o):∃ ob,h.get? a=some ob:=by
 cases o with
 | lst xs=>obtain ⟨_,_,_,_,e⟩:=x; exact ⟨_,e⟩
 | tup xs=>obtain ⟨_,_,_,_,e,_⟩:=x; exact ⟨_,e⟩
 | dK kvs=>obtain ⟨_,_,_,_,o,_,_,e,_⟩:=x; exact ⟨_,e⟩
 | dT kvs=>obtain ⟨_,_,_,_,o,_,_,e,_⟩:=x; exact ⟨_,e⟩
 | set S n=>obtain ⟨o,_,_,_,e,_⟩:=x; exact ⟨_,e⟩
 | ins C dx fs=>obtain ⟨_,_,_,e,_⟩:=x; exact ⟨_,e⟩
 | own y=>obtain ⟨_,e⟩:=x; exact ⟨_,e⟩
 | xd fs=>obtain ⟨_,⟨_,_,_,e,_⟩,_⟩:=x; exact ⟨_,e⟩
 | rng lo hi=>obtain ⟨_,_,_,e⟩:=x; exact ⟨_,e⟩
 | frz ob u=>obtain ⟨e,_⟩:=x; exact ⟨_,e⟩
 | tbl ps=>exact ⟨_,(show h.get? a=some _ from x)⟩
 | met f y=>exact ⟨_,(show h.get? a=some _ from x)⟩
 | ext φ=>obtain ⟨_,⟨_,e⟩,_⟩:=x; exact ⟨_,e⟩
section
variable {X:Cx}{pins:List (Addr×Obj)}{σ:St}{H:Hp}{s:Shared}
theorem Inv.trkNo (I:Inv X pins σ H s){b:Addr}{u:HO}(q:H b=some u):b∉frs X.stack:=fun m=>by
 have z:=I.stkFree b m
 rw [q] at z; cases z
theorem Inv.oldNo (I:Inv X pins σ H s)(hst:X.stack=X.env::X.outer)(hf:X.env.frame=some X.env.locals){b:Addr}{o:Obj}(q:X.s₀.heap.get? b=some o)(n:b∉X.fs):b∉frs X.stack:=fun m=>by
 rcases sG.mp (I.stkSub b m) with z | z
 ·exact absurd z (sW (sQ (Heap.lt_size q) I.ok.above))
 ·exact n z
theorem Xg {h' B:Heap}{e:Addr}{cls a0:Value}{E:XK}(I:Inv X pins σ H s)(hst:X.stack=X.env::X.outer)(hf:X.env.frame=some X.env.locals)(hex:X.ex=[])
  (fl:Heap.FlyingW B X.outer e cls a0 h') (cov:∀ b o,s.heap.get? b=some o->b∉frs X.stack->(H b≠none\/∃ o,X.s₀.heap.get? b=some o)->B.get? b=some o)
  (up:s.heap.UpToSlots h') (hE:E cls none H):cxx X.prog X.w X.outer X.H₀ X.s₀ E (.ref e) { s with heap:=h' }:=by
 have nex:∀ b:Addr,b∉X.ex:=fun b z=>by rw [hex] at z; cases z
 have trkd:∀ b u v,H b=some u->s.heap.get? b=some v->h'.get? b=some v:=fun b u v q r=>fl.1 b v (cov b v r (I.trkNo q) (.inl (by rw [q]; simp)))
 have oldd:∀ b o v,X.s₀.heap.get? b=some o->b∉X.fs->s.heap.get? b=some v->h'.get? b=some v:=fun b o v q n r=>fl.1 b v (cov b v r (I.oldNo hst hf q n) (.inr ⟨o,q⟩))
 have frms:∀ b o,b∈X.fs->s.heap.get? b=some o->∃ sl,h'.get? b=some { o with slots:=sl }:=fun b o hb q=>by
  obtain ⟨_,o2,ho2,nf⟩:=I.funs.mem hb
  rw [q] at ho2; cases ho2
  exact up b o q nf
 refine ⟨e,cls,H,rfl,I.os,I.bare,⟨fun b o q n hb hx=>?_,fun b o q n hb hx=>?_,fun b o q n hx=>I.base.free b o q n (nex b),fun b o q hx=>?_,I.base.tups,I.base.frzs,I.base.tbls⟩,fun b u q=>?_,⟨B,a0,fl,fun b o q n hor=>?_⟩,hE⟩
 ·exact oldd b o o q hb (I.base.keep b o q n hb (nex b))
 ·obtain ⟨sl,e1⟩:=I.base.slot b o q n hb (nex b)
  obtain ⟨sl',e2⟩:=frms b _ hb e1
  exact ⟨sl',e2⟩
 ·obtain ⟨o1,e1⟩:=I.base.there b o q (nex b)
  by_cases hb:b∈X.fs
  ·obtain ⟨sl,e2⟩:=frms b o1 hb e1
   exact ⟨_,e2⟩
  ·exact ⟨o1,oldd b o o1 q hb e1⟩
 ·refine (I.hok b u q).stay (fun c v hc r=>?_) (fun _ z=>z) fun _ _ z=>z
  rcases hc with z | z
  ·exact trkd c u v (by rw [z]; exact q) r
  ·exact trkd c _ v z r
 ·have q:h'.get? b=some o:=q
  rcases hor with hb | ⟨o0,e0⟩
  ·obtain ⟨u,hu⟩:=Option.ne_none_iff_exists'.mp hb
   obtain ⟨o1,e1⟩:=(I.hok b u hu).there
   have:=trkd b u o1 hu e1
   rw [q] at this; cases this
   exact cov b _ e1 (I.trkNo hu) (.inl hb)
  ·obtain ⟨o1,e1⟩:=I.base.there b o0 e0 (nex b)
   have:=oldd b o0 o1 e0 n e1
   rw [q] at this; cases this
   exact cov b _ e1 (I.oldNo hst hf e0 n) (.inr ⟨o0,e0⟩)
end
section
variable {P:Program}{w:World}{K:PySem.W.Frag}{mg:Str->Option Value}{base:Heap}{N:List Str}{qual:Str}{scope:Scope}{f:Addr}{cd:Value}{A:Around}{outer:List Env}{s:Shared}{H:Hp}{E:XK}
theorem zi:wU (cxx P w) (xl (cxx P w) P w K mg base N qual scope f cd A outer s H E) E:=by
 intro pins σ H1 s1 ev s' I hq
 obtain ⟨e,cls,H',rfl,os,bare,un,hok,⟨B,a0,fl,cov⟩,hE⟩:=hq
 have I':=I.call' (ch:=[]) os un hok bare (fun b z=>nomatch z)
 have hfr:(A.deeper (envOfC qual scope s.heap.objs.size f cd)).frames=some (envOfC qual scope s.heap.objs.size f cd::outer):=I.ok.frames
 refine wpAny_leaves_onW (L:=s.heap.objs.size) hfr rfl fl fun h' fl' up=>?_
 exact Xg (E:=E) I' rfl rfl rfl fl' (fun b o e1 e2 e3=>cov b o e1 e2 (by
  rcases e3 with z | ⟨o0,z⟩
  ·exact .inl z
  ·exact .inr (I.base.there b o0 z (fun q=>nomatch q)))) up hE
theorem xH {X:Cx}:wU (cxx P w) X (fun _ _ _=>False):=fun _ _ _ _ _ _ _ ⟨_,_,_,_,_,_,_,_,_,z⟩=>z.elim
theorem WX {outer:List Env}{H:Hp}{s:Shared}{e:Value}{s':Shared}(h:cxx P w outer H s (fun _ _ _=>False) e s'):False:=let ⟨_,_,_,_,_,_,_,_,_,z⟩:=h; z
end
structure ErrCls (K:PySem.W.Frag)(mg:Str->Option Value)(x:Str)(C:Addr)(bm:List Value)(newId:String):Prop where
 gl:mg x=some (.ref C)
 own:∀ h:Heap,K.In h->h.Ns mainGlobals mg->OwnCls x C bm newId mg h
theorem ZT {mg mb:Str->Option Value}{h:Heap}(g:h.Ns mainGlobals mg)(b:h.Ns builtinsNs mb)(bb:∀ x:Str,x≠"__name__"->mb x=bootBuiltins x)(nl:h.NoLimit)(p:Program):∃ loose,PySem.W.TopRead p loose mg mb h:=by
 obtain ⟨o,es,ep,ho,hd,hk,hf⟩:=id g
 refine ⟨es.toList.filterMap fun e=>match e.key with | .str y _=>some y | _=>none,g,b,nl,bb,fun x _ hx _ _ _=>?_⟩
 rw [<- hf]
 unfold nsFind findBy
 rw [<- Array.find?_toList]
 cases q:es.toList.find? (fun e=>e.key.isStr x) with
 | none=>rfl
 | some en =>
  exfalso
  have hm:=List.mem_of_find?_eq_some q
  have hp:=List.find?_some q
  obtain ⟨y,t,hy⟩:=hk en (by simpa using hm)
  rw [hy] at hp
  have hxy:y=x:=by simpa [Value.isStr] using hp
  exact hx (pG.mpr ⟨en,hm,by rw [hy,hxy]⟩)
structure ErrC (K:PySem.W.Frag)(x:Str)(C:Addr):Prop where
 ns:PySem.W.nsIn K mainGlobals x=some (some (.ref C))
 ex:PySem.W.excIn K C [.type "ValueError",.type "Exception",.type "BaseException",.type "object"] "ValueError.__new__"=true
theorem ErrC.mg {K:PySem.W.Frag}{x:Str}{C:Addr}{h:Heap}{mg:Str->Option Value}(e:ErrC K x C)(X:K.In h)(G:h.Ns mainGlobals mg):mg x=some (.ref C):=PySem.W.mg_of X G e.ns
section
variable {X:Cx}{pins:List (Addr×Obj)}{σ:St}{H:Hp}{s:Shared}
theorem Inv.ownCls {x:Str}{C:Addr}(I:Inv X pins σ H s)(e:ErrC X.K x C):OwnCls x C [.type "ValueError",.type "Exception",.type "BaseException",.type "object"] "ValueError.__new__" X.mg X.base:=by
 obtain ⟨mb,b1,b2⟩:=I.mod.blt
 obtain ⟨loose,T⟩:=ZT I.mod.glob b1 b2 I.mod.nolimit X.prog
 exact PySem.W.own_of_in I.mod.kin T e.ns e.ex
theorem V4 {P:Program}{w:World}{K:PySem.W.Frag}{mg:Str->Option Value}{base:Heap}{N:List Str}{qual:Str}{scope:Scope}{f:Addr}{cd:Value}{A:Around}{outer:List Env}{s:Shared}{H:Hp}{E:XK}
  {pins:List (Addr×Obj)} {σ:St} {H1:Hp} {s1:Shared} {h':Heap} {e:Addr} {cls:Value} {vs:List Value} (I:Inv (xl (cxx P w) P w K mg base N qual scope f cd A outer s H E) pins σ H1 s1)
  (hx:Heap.MadeExcOf s1.heap h' e cls vs) (hE:E cls none H1):(xl (cxx P w) P w K mg base N qual scope f cd A outer s H E).xe (.ref e) { s1 with heap:=h' }:=by
 have hfr:(A.deeper (envOfC qual scope s.heap.objs.size f cd)).frames=some (envOfC qual scope s.heap.objs.size f cd::outer):=I.ok.frames
 have fs:=I.stack
 have hin:∀ env∈(envOfC qual scope s.heap.objs.size f cd::outer),∀ b,env.frame=some b->b∈frs (envOfC qual scope s.heap.objs.size f cd::outer):=fun env he b hb=>pG.mpr ⟨env,he,hb⟩
 refine wpAny_leaves_madeW (L:=s.heap.objs.size) (base:=PySem.W.hideAll s1.heap (frs (envOfC qual scope s.heap.objs.size f cd::outer))) hfr rfl (fun b o q=>PySem.W.of_hideAll _ q) (PySem.W.funFrames_hide fs hin) hx fun h2 t fl tup nt up=>?_
 refine Xg (E:=E) (h':=h2) I rfl rfl rfl fl (fun b o q n _=>PySem.W.hideAll_get _ q n) (fun b o q nf=>?_) hE
 exact up b o (hx.keeps b o q) nf
end
def WI (C:Addr)(E:XK)(ta:TA):TS:=fun _ σ H=>ta σ H fun vs H1=>vs.length<=sizeLine/\E (.ref C) none H1
theorem WN {P:Program}{w:World}{K:PySem.W.Frag}{mg:Str->Option Value}{base:Heap}{N:List Str}{qual:Str}{scope:Scope}{f:Addr}{cd:Value}{A:Around}{outer:List Env}{s:Shared}{H:Hp}{E:XK}
  {x:Str} {C:Addr} {e₀:Expr} {rest:List Expr} {ta:TA} {np cpos pos:Pos} (hh:A.handled=none) (hc:ErrC K x C) (hg:Gl (xl (cxx P w) P w K mg base N qual scope f cd A outer s H E) x)
  (ha:PA (xl (cxx P w) P w K mg base N qual scope f cd A outer s H E) (e₀::rest) ta) (hd:autoParam ((x==("__debug__":Str))=false) L2.au1._auto_1)
  (he:autoParam (starEach (e₀::rest) (envOfC qual scope s.heap.objs.size f cd)=(false,eval e₀ (envOfC qual scope s.heap.objs.size f cd))::starEach rest (envOfC qual scope s.heap.objs.size f cd)) L2.au3._auto_1)
  (hp:autoParam ((backTo cpos (starEach rest (envOfC qual scope s.heap.objs.size f cd))).any (·.1)=false) L2.au3._auto_1) :
  PS (xl (cxx P w) P w K mg base N qual scope f cd A outer s H E) (.Raise (some (.Call (.Name x np) (e₀::rest) [] cpos)) none pos) (WI C E ta):=by
 intro pins s1 σ H1 D I h
 obtain ⟨bm,NN,nm,q,bs,hdct,sn,sub,ab,col,dd,k0,k1,k2,k3,k5,mN,hC,hN,hni,T⟩:=(I.ownCls hc).obj
 have F:=PySem.F.excBase_ValueError
 refine wpAny_Raise_call_subT (C:=C) (nm:=nm) (q:=q) (N:=NN) (bs:=bs) (bm:=bm) (hdct:=hdct) (sn:=sn) (sub:=sub) (ab:=ab) (col:=col) (dd:=dd) (k0:=k0) (k1:=k1) (k2:=k2) (k3:=k3) (k5:=k5) F (mN:=mN)
  (T.hasType F.hasBase) hh (by show (backTo cpos (starEach (e₀::rest) (envOfC qual scope s.heap.objs.size f cd))).any (·.1)=false; rw [he]; exact hp) hni (ua I hg (hc.mg I.mod.kin I.mod.glob) ⟨rfl,?_⟩ hd)
 have hw:=ha cpos pins s1 σ H1 _ I h
 have hw:wpAny (model P w) (A.deeper (envOfC qual scope s.heap.objs.size f cd)) (spliced (backTo cpos (starEach (e₀::rest) (envOfC qual scope s.heap.objs.size f cd)))) _ _ s1:=hw
 show wpAny _ _ (evalArgs (.ref C) true (backTo cpos (starEach (e₀::rest) (envOfC qual scope s.heap.objs.size f cd))) []) _ _ s1
 rw [he] at hw ⊢
 refine Calls.evalArgs_plain (thn hw fun us s2 ⟨vs,H2,I2,r,z,hE⟩=>?_)
 refine ⟨rfl,by rw [<- r.length]; exact z,I2.bk _ _ hC,hN.keeps I2.bk,T.keeps I2.bk,fun h' e hx=>V4 I2 hx hE⟩
abbrev Cx.within (X:Cx)(e:Addr)(oe:Obj):Cx:={ X with A:=X.A.mark (some (.ref e)),calm:=false,pn:=X.pn++[(e,oe)],xe:=fun _ _=>False }
section
variable {X:Cx}{pins:List (Addr×Obj)}{σ:St}{H:Hp}{s:Shared}{e:Addr}{oe:Obj}
theorem Cx.Ok.within (ok:X.Ok):(X.within e oe).Ok :=
 ⟨ok.mod,ok.kind,ok.glob,ok.blt,ok.above,ok.inj,ok.has,ok.cab,(fun z=>by cases z),ok.frames,ok.stk,ok.exf,ok.bs,ok.bsz,ok.noex,ok.exfs,ok.funs,ok.frf⟩
theorem Cx.Ok.without (ok:(X.within e oe).Ok)(hd:X.calm=true->X.A.handled=none):X.Ok :=
 ⟨ok.mod,ok.kind,ok.glob,ok.blt,ok.above,ok.inj,ok.has,ok.cab,hd,ok.frames,ok.stk,ok.exf,ok.bs,ok.bsz,ok.noex,ok.exfs,ok.funs,ok.frf⟩
theorem Inv.within (I:Inv X pins σ H s)(h1:s.heap.get? e=some oe)(h2:H e=none)(h3:e≠X.env.locals)(h4:e∉X.fs)(h5:∀ v,oe.data≠.cell v):Inv (X.within e oe) pins σ H s :=
 ⟨I.ok.within,I.os,I.bare,I.base,I.loc,I.cell,I.free,I.freeC,fun p hp=>by
  rcases sC.mp hp with z | z
  ·rcases sC.mp z with z | z
   ·exact I.pin p (tU _ z)
   ·obtain rfl:=sL.mp z
    exact ⟨h1,h2,h3,h4,h5⟩
  ·exact I.pin p (tQ _ z),I.hok,I.len⟩
theorem Inv.without (I:Inv (X.within e oe) pins σ H s)(hd:X.calm=true->X.A.handled=none):Inv X pins σ H s :=
 ⟨I.ok.without hd,I.os,I.bare,I.base,I.loc,I.cell,I.free,I.freeC,fun p hp=>by
  rcases sC.mp hp with z | z
  ·exact I.pin p (tU _ (tU _ z))
  ·exact I.pin p (tQ _ z),I.hok,I.len⟩
theorem SP.without {D:Ends}{f:Flow}(h:SP (X.within e oe) pins D f s)(hd:X.calm=true->X.A.handled=none):SP X pins D f s:=by
 cases f with
 | next=>obtain ⟨σ',H',I,q⟩:=h; exact ⟨σ',H',I.without hd,q⟩
 | brk=>obtain ⟨σ',H',I,q⟩:=h; exact ⟨σ',H',I.without hd,q⟩
 | cont=>obtain ⟨σ',H',I,q⟩:=h; exact ⟨σ',H',I.without hd,q⟩
 | ret u=>obtain ⟨v,σ',H',I,r,q⟩:=h; exact ⟨v,σ',H',I.without hd,r,q⟩
theorem Inv.reframe {h':Heap}{t':Nat}{m':Str->Option Value}{σ':St}(I:Inv X pins σ H s)(hn':h'.Ns X.env.locals m')(hs:Heap.SameBut X.env.locals s.heap h')(hl:σ'.length=σ.length)
  (hv:∀ m,s.heap.Ns X.env.locals m->(∀ (i:Nat) (x:Str) (v:V),X.N[i]?=some x->σ[i]?=some (some v)->Vis X.env.scope x->∃ u,RelV v u/\QI X.env s.heap m x u) ->
   ∀ (i:Nat) (x:Str) (v:V),X.N[i]?=some x->σ'[i]?=some (some v)->Vis X.env.scope x->∃ u,RelV v u/\QI X.env s.heap m' x u):Inv X pins σ' H { s with heap:=h',toks:=t' }:=by
 obtain ⟨m,hn,hr⟩:=id I.loc
 obtain ⟨oL,_,_,hoL,_⟩:=id hn
 have tracked:HOk X.prog X.w H h':=fun b ob q=>by
  refine (I.hok b ob q).stay (fun c v hc r=>(hs.2 c ?_).trans r) (fun _ z=>z) fun _ _ z=>z
  rintro rfl
  rcases hc with rfl | hc
  ·rw [I.free] at q; cases q
  ·rw [I.free] at hc; cases hc
 have below:∀ b o,X.s₀.heap.get? b=some o->b≠X.env.locals:=fun b o q=>sW (sQ (Heap.lt_size q) I.ok.above)
 refine ⟨I.ok,I.os,I.bare,⟨fun b o q n hb hx=>(hs.2 b (below b o q)).trans (I.base.keep b o q n hb hx),fun b o q n hb hx=>?_,I.base.free,fun b o q hx=>?_,I.base.tups,I.base.frzs,I.base.tbls⟩,⟨m',hn',fun i x v e1 e2 e3=>?_⟩,fun y c q=>?_,I.free,I.freeC,fun p hp=>?_,tracked,hl.trans I.len⟩
 ·obtain ⟨sl,e1⟩:=I.base.slot b o q n hb hx
  exact ⟨sl,(hs.2 b (below b o q)).trans e1⟩
 ·obtain ⟨o',e1⟩:=I.base.there b o q hx
  exact ⟨o',(hs.2 b (below b o q)).trans e1⟩
 ·obtain ⟨u,r,l⟩:=hv m hn hr i x v e1 e2 e3
  refine ⟨u,r,?_⟩
  rcases l with l | ⟨k,c,e,z⟩
  ·exact .inl l
  ·exact .inr ⟨k,c,e,z.sameBut hs (I.cne x c e)⟩
 ·obtain ⟨w',z⟩:=I.cell y c q
  exact ⟨w',z.sameBut hs (I.cne y c q)⟩
 ·obtain ⟨q,n,ne,nf,d⟩:=I.pin p hp
  exact ⟨(hs.2 p.1 ne).trans q,n,ne,nf,d⟩
theorem uG {M:Model}{A:Around}{E:Value->Shared->Prop}{i:Nat}{n:Str}{pos:Pos}{Q:Unit->Shared->Prop}(I:Inv X pins σ H s)(hN:X.N.Nodup)(hi:X.N[i]?=some n)(hx:X.env.scope.names.lookup n=some .local)
  (h:∀ s',Inv X pins (σ.set i none) H s'->Q () s'):wpAny M A (do bindName X.env n .none; unbindBehindTheSuite X.env n pos) Q E s:=by
 have hcls:(X.env.scope.kind==.class||(X.env.scope.kind==.module&&X.env.locals != X.env.globals))=false:=by rw [I.ok.kind]; rfl
 have hl:X.env.kindOf n=some .local:=hx
 refine wpAny_bind (wpAny_bindName (jn I hN hi (.inl hx) (v:=.non) (u:=.none) rfl (fun s1 I1=>?_) (.inr hx)))
 unfold unbindBehindTheSuite
 refine wpAny_onRaise ?_
 unfold unbindName
 refine wpAny_bind (wpAny_point (wpAny_bind ?_))
 unfold deleteName
 simp only [hl,hcls]
 rw [if_neg (by decide)]
 obtain ⟨m,hn,hl'⟩:=id I1.loc
 have hiσ:i<σ.length:=by rw [I.len]; exact (sI.mp hi).1
 have hmn:(m n).isSome=true:=by
  obtain ⟨u,r,l⟩:=hl' i n .non hi (by rw [sN hiσ]) (.inl hx)
  rcases l with ⟨_,z⟩ | ⟨k,_⟩
  ·rw [z]; rfl
  ·rcases k with k | k
   ·rw [hl] at k; cases k
   ·rw [hl] at k; cases k
 refine wpAny_bind (wpAny_nsDel_keeps hn fun h2 v hn2 hs2=>?_)
 rw [hmn]
 simp only [if_true,sV,tF,if_false]
 refine wpAny_pure (wpAny_point (h _ ?_))
 have I2:Inv X pins (σ.set i none) H { s1 with heap:=h2,toks:=s1.toks }:=I1.reframe hn2 hs2 (by simp) (fun m0 hn0 hv0 j y v e1 e2 e3=>by
  have em:m0=m:=by
   funext z
   obtain ⟨o1,es1,ep1,a1,b1,_,c1⟩:=hn0
   obtain ⟨o2,es2,ep2,a2,b2,_,c2⟩:=hn
   rw [a1] at a2; cases a2
   rw [b1] at b2; cases b2
   rw [<- c1,<- c2]
  subst em
  have hj:j≠i:=by
   rintro rfl
   rw [sN hiσ] at e2; cases e2
  rw [sM (Ne.symm hj)] at e2
  obtain ⟨u,r,l⟩:=hv0 j y v e1 (by rw [sM (Ne.symm hj)]; exact e2) e3
  refine ⟨u,r,?_⟩
  have hy:y≠n:=fun z=>hj (jL hN e1 (z▸hi))
  rcases l with ⟨k,z⟩ | l
  ·exact .inl ⟨k,by show (if y=n then _ else m0 y)=some u; rw [if_neg hy]; exact z⟩
  ·exact .inr l)
 exact I2
end
structure ErrI (K:PySem.W.Frag)(C:Addr):Prop where
 ga:PySem.W.findIn K (.ref C) "__getattribute__"=some (some (.builtin "BaseException.__getattribute__"))
 gt:PySem.W.findIn K (.ref C) "__getattr__"=some none
 cl:PySem.W.findIn K (.ref C) "__class__"=some (some (.builtin "object.__class__"))
 sp:PySem.W.specialIn K (.builtin "object.__class__") "__get__"=some (some (.builtin "getset_descriptor.__get__"))
 tk:PySem.W.takesIn K (.builtin "object.__class__")=some true
 mo:PySem.W.mroIn K C (.type "object")=some true
 mb:PySem.W.mroIn K C (.type "BaseException")=some true
 it:(PySem.W.clsIn K C).isSome=true
section
open PySem.W Builtin Builtin.ObjectAttr Builtin.Getset_descriptor
variable {prog:Program}{w:World}{A:Around}{E:Value->Shared->Prop}{s:Shared}{K:Frag}{e C:Addr}
theorem Xr {Q:Option Value->Shared->Prop}(c:ErrI K C)(X:K.In s.heap)(LT:Looks (model prog w) s.heap (typeOf (.ref e)) (.ref C))(h:Q (some (.ref C)) { s with toks:=s.toks+1 }):wpAny (model prog w) A (getAttr? (.ref e) "__class__") Q E s:=by
 obtain ⟨hh,g,d,t,os⟩:=s
 have L1:=looks_findIn (M:=model prog w) X c.ga
 have L2':=looks_findIn (M:=model prog w) X c.gt
 have L3:=looks_findIn (M:=model prog w) X c.cl
 have L4:=looks_specialIn (M:=model prog w) X c.sp
 have L5:=looks_takesIn (M:=model prog w) X c.tk
 have L6:=looks_mroIn (M:=model prog w) X c.mo
 have L7:=looks_mroIn (M:=model prog w) X c.mb
 have hb:=PySem.F.attr_ValueError.ga.bind (.ref e)
 unfold getAttr? getAttrBy? getAttrBy
 refine wpAny_bind (wpAny_mkText (wpAny_bind (wpAny_attempt (wpAny_holding ?_))))
 repeat (first | with_reducible refine wpAny_attempt ?_ | with_reducible refine wpAny_call ?_ | lk)
 refine codeAny_call_builtin PySem.F.attr_ValueError.ga.plain F.entry_bexc_ga ?_
 have hk:builtinKind "BaseException.__getattribute__"=some .slot:=by decide +kernel
 have hsp:splitId "BaseException.__getattribute__"=some ("BaseException","__getattribute__"):=by decide +kernel
 have har:=F.args_bexc_ga (.ref e) (.str "__class__" t)
 simp only [checkBuiltinCall,hk,hsp]
 unfold isInstance
 repeat (first | with_reducible refine wpAny_attempt ?_ | with_reducible refine wpAny_call ?_ | lk)
 have z:codeAny (model prog w) A.in1 (.call (.builtin "getset_descriptor.__get__") ⟨[.builtin "object.__class__",.ref e,.ref C],[]⟩) (fun r s'=>r=.ok (.ret (.ref C))/\s'=⟨hh,g,d,t+1,os⟩) ⟨hh,g,d,t+1,os⟩:=by
  refine codeAny_call_builtin KF.slot_gs.plain KF.entry_gs ?_
  refine KF.slot_gs.check _ _ _ _ _ _ _ _ KF.type_class (KF.args_gs _ _ _) ?_
  unfold Builtin.«getset_descriptor.__get__»
  unfold descrGet
  rw [dga_obj]
  refine wpAny_bind (wpAny_pure ?_)
  unfold descrGetter descrCheckInstance
  unfold descrNameAndClass isInstance
  simp only [KF.owner_class]
  repeat lk
  refine ⟨Code.quiet_builtin _ (by decide +kernel),?_⟩
  refine codeAny_builtin KF.entry_class ?_
  unfold Builtin.«object.__class__»
  unfold shownTypeOf
  repeat lk
  exact ⟨rfl,rfl⟩
 refine codeAny_mono z fun r s' q=>?_
 obtain ⟨rfl,rfl⟩:=q
 repeat lk
 exact h
end
section
open PySem.W
variable {K:Frag}{e C:Addr}
theorem ZJ (c:ErrI K C){M:Model}{h:Heap}(X:K.In h):Looks M h (isType (.ref C)) true:=by
 have z:=c.it
 unfold clsIn at z
 split at z
 ·rename_i a b cd sl ho
  intro A' Q' E' s' k q
  unfold isType
  unfold loadHead
  refine wpAny_bind (wpAny_loadPart (k _ _ (X _ _ ho)) ?_)
  exact wpAny_pure q
 ·cases z
theorem ZM (c:ErrI K C):KitX K (.ref e) (.ref C) (fun h=>∃ o,h.get? e=some o/\o.cls=.ref C) where
 ty:=fun M h _ p=>by
  obtain ⟨o,h1,h2⟩:=p
  exact h2▸(Looks.ld h1).andThen .now
 it:=fun _ _ X _=>ZJ c X
 ne:=fun h tp dd its n sl X htp=>by
  refine Bool.eq_false_iff.mpr fun q=>?_
  have ee:C=tp:=Value.ref.inj (beq_iff_eq.mp q)
  subst ee
  have z:=c.it
  unfold clsIn at z
  split at z
  ·rename_i a b cd sl' ho
   rw [X _ _ ho] at htp
   cases htp
  ·cases z
 ca:=fun {prog w A E Q s} X p k=>by
  obtain ⟨o,h1,h2⟩:=p
  exact Xr c X (h2▸(Looks.ld h1).andThen .now) k
end
inductive IsTy (K:PySem.W.Frag) (pn:List (Addr×Obj)) (H:Hp):V->Value->Prop where
 | of {x:V} {t:Value} (h:TyOf K H x t):IsTy K pn H x t
 | frd {a:Addr} {o:Obj} {kvs:List (Key×V)} (e:H a=some (.frz o (.dK kvs))):IsTy K pn H (.ref a) (.type "dict")
 | exc {a C:Addr} {oe:Obj} (hm:(a,oe)∈pn) (hc:oe.cls=.ref C) (c:ErrI K C):IsTy K pn H (.ref a) (.ref C)
inductive ClV:V->Value->Prop where
 | ref (a:Addr):ClV (.ref a) (.ref a)
 | ty (n:String):ClV (.ty n) (.type n)
def Kg (K:PySem.W.Frag)(pn:List (Addr×Obj)):List V->Hp->VK->Prop:=fun xs H Q=>∃ x c t u b,xs=[x,c]/\IsTy K pn H x t/\ClV c u/\PySem.W.kitOne K t u=some b/\Q (.bl b) H
theorem Vq {X:Cx}:CallR X (.builtin "isinstance") (Kg X.K X.pn):=by
 intro pins s σ H xs us Q I r h
 obtain ⟨x,c,t,u,b,rfl,ht,hc,hk,q⟩:=h
 obtain ⟨u1,u2,rfl,rx,rc⟩:=X9 r
 have e2:u2=u:=by cases hc with
  | ref a=>exact rc
  | ty n=>exact rc
 subst e2
 cases ht with
 | of ht=>exact xX I rx ht hk fun tk=>⟨.bl b,H,I.tok tk,rfl,q⟩
 | @frd a o kvs e =>
  obtain rfl:u1=Value.ref a:=rx
  obtain ⟨_,_,_,vs,_,p⟩:=(show ObjOk X.prog X.w H s.heap a (.frz o (.dK kvs)) from I.hok a _ e)
  obtain ⟨o',es,ep,h1,h2,_⟩:=p
  exact PySem.W.kia_one PySem.W.kitx_dict I.kIn ⟨o',h1,h2.1⟩ hk (fun z=>by cases z) fun tk=>⟨.bl b,H,I.tok tk,rfl,q⟩
 | exc hm hcl ci =>
  obtain ⟨e1,_⟩:=I.pin _ (tU _ hm)
  obtain rfl:u1=Value.ref _:=rx
  exact PySem.W.kia_one (ZM ci) I.kIn ⟨_,e1,hcl⟩ hk (fun z=>by cases z) fun tk=>⟨.bl b,H,I.tok tk,rfl,q⟩
section
variable {X:Cx}{pins:List (Addr×Obj)}{σ:St}{H:Hp}{s:Shared}
theorem Inv.flown {h' B:Heap}{old:Addr->Prop}(I:Inv X pins σ H s)(hst:X.stack=X.env::X.outer)(hf:X.env.frame=some X.env.locals)(st:B.StaysIn h')(up:s.heap.UpToSlots h')
  (cov:∀ b o,s.heap.get? b=some o->b∉frs X.stack->(H b≠none\/old b)->B.get? b=some o) (o1:∀ b o,X.s₀.heap.get? b=some o->b∉X.ex->old b) (o3:∀ p∈X.pn++pins,old p.1) :
  Inv X pins σ H { s with heap:=h' }:=by
 have trkd:∀ b u v,H b=some u->s.heap.get? b=some v->h'.get? b=some v:=fun b u v q r=>st b v (cov b v r (I.trkNo q) (.inl (by rw [q]; simp)))
 have oldd:∀ b o v,X.s₀.heap.get? b=some o->b∉X.fs->b∉X.ex->s.heap.get? b=some v->h'.get? b=some v:=fun b o v q n x r=>st b v (cov b v r (I.oldNo hst hf q n) (.inr (o1 b o q x)))
 have frms:∀ b o,b∈X.fs->s.heap.get? b=some o->∃ sl,h'.get? b=some { o with slots:=sl }:=fun b o hb q=>by
  obtain ⟨_,o2,ho2,nf⟩:=I.funs.mem hb
  rw [q] at ho2; cases ho2
  exact up b o q nf
 have cellK:∀ c v,s.heap.IsCell c v->h'.IsCell c v:=fun c v ⟨o,ho,hd⟩=>by
  obtain ⟨sl,e⟩:=up c o ho (fun vs q=>by rw [hd] at q; cases q)
  exact ⟨_,e,hd⟩
 refine ⟨I.ok,I.os,I.bare,⟨fun b o q n hb hx=>oldd b o o q hb hx (I.base.keep b o q n hb hx),fun b o q n hb hx=>?_,I.base.free,fun b o q hx=>?_,I.base.tups,I.base.frzs,I.base.tbls⟩,?_,fun y c q=>?_,I.free,I.freeC,fun p hp=>?_,fun b u q=>?_,I.len⟩
 ·obtain ⟨sl,e1⟩:=I.base.slot b o q n hb hx
  obtain ⟨sl',e2⟩:=frms b _ hb e1
  exact ⟨sl',e2⟩
 ·obtain ⟨o1',e1⟩:=I.base.there b o q hx
  by_cases hb:b∈X.fs
  ·obtain ⟨sl,e2⟩:=frms b o1' hb e1
   exact ⟨_,e2⟩
  ·exact ⟨o1',oldd b o o1' q hb hx e1⟩
 ·obtain ⟨m,hn,hl⟩:=I.loc
  refine ⟨m,up.ns hn,fun i x v e1 e2 e3=>?_⟩
  obtain ⟨u,r,l⟩:=hl i x v e1 e2 e3
  refine ⟨u,r,?_⟩
  rcases l with l | ⟨k,c,e,z⟩
  ·exact .inl l
  ·exact .inr ⟨k,c,e,cellK c _ z⟩
 ·obtain ⟨v,z⟩:=I.cell y c q
  exact ⟨v,cellK c v z⟩
 ·obtain ⟨q,n,ne,nf,d⟩:=I.pin p hp
  have hns:p.1∉frs X.stack:=fun m=>by
   rcases sG.mp (I.stkSub p.1 m) with z | z
   ·exact ne z
   ·exact nf z
  exact ⟨st _ _ (cov _ _ q hns (.inr (o3 p hp))),n,ne,nf,d⟩
 ·refine (I.hok b u q).stay (fun c v hc r=>?_) (fun _ z=>z) fun _ _ z=>z
  rcases hc with z | z
  ·exact trkd c u v (by rw [z]; exact q) r
  ·exact trkd c _ v z r
end
def z0e (K:PySem.W.Frag)(CS:Addr)(i:Nat)(sp:Sp)(dvs:List V)(t:TA)(ts:Addr->Obj->TS):TS:=fun D σ H=>t σ H fun vs H1=>sp (vs++dvs) H1 (fun _ H2=>D.nx σ H2)
 (fun cls _ H2=>∃ C,cls=.ref C/\PySem.W.exmOne K (.ref C) (.ref CS)=some true/\∀ (e:Addr) (oe:Obj),oe.cls=.ref C->H2 e=none ->
  ts e oe { nx:=fun σ' H'=>D.nx (σ'.set i none) H',rt:=D.rt,bk:=fun σ' H'=>D.bk (σ'.set i none) H',ct:=fun σ' H'=>D.ct (σ'.set i none) H' } (σ.set i (some (.ref e))) H2)
theorem Ju {X:Cx}{k:Nat}{f CS:Addr}{fd:FuncData}{ps:List Str}{sp:Sp}{dvs:List V}{ds:List Value}{x xc n:Str}{p pos pos' pc hpos tpos:Pos}{e:Expr}{es:List Expr}{t:TA}{i:Nat}{b₀:Stmt}{suite:List Stmt}{ts:Addr->Obj->TS}
  (hst:X.stack=X.env::X.outer) (hf:X.env.frame=some X.env.locals) (hc:X.calm=true) (hN:X.N.Nodup)
  (F:FnOk X.prog X.w X.K X.mg X.base (cxx X.prog X.w) k f fd ps sp) (hr:Room k X.A) (hg:Gl X x) (hm:X.mg x=some (.ref f)) (hk:PySem.W.keepIn X.K (.ref f)=true) (hb:Binds X.K fd ps ds) (hd:Vals dvs ds)
  (ha:PA X.nox (e::es) t) (hgc:Gl X xc) (hmc:X.mg xc=some (.ref CS)) (hi:X.N[i]?=some n) (hx:X.env.scope.names.lookup n=some .local)
  (hsuite:∀ (e:Addr) (oe:Obj),PSs (X.within e oe) (b₀::suite) (ts e oe))
  (hdb:autoParam ((x==("__debug__":Str))=false) L2.au1._auto_1) (hdc:autoParam ((xc==("__debug__":Str))=false) L2.au1._auto_1)
  (he:autoParam (starEach (e::es) X.env=(false,eval e X.env)::starEach es X.env) L2.au3._auto_1) (hpl:autoParam ((backTo pos (starEach es X.env)).any (·.1)=false) L2.au3._auto_1)
  (hsw:autoParam (swapsWith (.Call (.Name x p) (e::es) [] pos) none pos'.line X.env=pure false) L2.au3._auto_1) :
  PS X (.Try [.Expr (.Call (.Name x p) (e::es) [] pos) pos'] [.ExceptHandler (some (.Name xc pc)) (some n) (b₀::suite) hpos] [] [] tpos) (z0e X.K CS i sp dvs t ts):=by
 intro pins s σ H D I h
 have hhd:X.calm=true->X.A.handled=none:=I.ok.hd
 refine wpAny_Try_except (wpAny_execs_cons (wpAny_Expr_any ?_ I.quiet hsw))
 refine wpAny_Call_Name_kw (ua I hg hm ?_ hdb)
 refine PySem.W.callWith_K (h₀:=X.base) I.ok.mod.kin hk ?_ he hpl
 refine wpAny_mono (ha pos pins s σ H _ (I.wish _) h) (fun us s1 ⟨vs,H1,I1,r,q⟩=>⟨I1.kIn,?_⟩) fun _ _ z=>z.elim
 have I1:Inv X pins σ H1 s1:=I1.unwish
 have r2:Vals (vs++dvs) (us++ds):=r.append hd
 have hl:(us++ds).length=ps.length:=by rw [<- r2.length]; exact F.len _ _ _ _ q
 refine wpAny_call (codeAny_mono (F.run X.A X.stack s1 H1 ⟨us,[]⟩ (us++ds) (vs++dvs) _ _ hr I1.env0 (hb s1 us I1.kIn hl) r2 q) fun r s' hq=>?_)
 cases r with
 | ok fl =>
  cases fl with
  | ret u =>
   obtain ⟨v,H2,I2,rv,qn⟩:=I1.after hq
   exact wpAny_execs_nil (wpAny_execs_nil ⟨σ,H2,I2,qn⟩)
  | next=>exact False.elim hq
  | brk=>exact False.elim hq
  | cont=>exact False.elim hq
 | error ev =>
  obtain ⟨e1,cls,H2,rfl,os,bare,un,hok,⟨B,a0,fl,cov⟩,C,rfl,hex,hsu⟩:=hq
  have I2:Inv X pins σ H2 s':=I1.call' (ch:=[]) os un hok bare (fun b z=>nomatch z)
  have fl':Heap.FlyingW B (X.env::X.outer) e1 (.ref C) a0 s'.heap:=by rw [<- hst]; exact fl
  have hfr:X.A.frames=some (X.env::X.outer):=by rw [<- hst]; exact I.ok.frames
  have o1:∀ b o,X.s₀.heap.get? b=some o->b∉X.ex->∃ o,s1.heap.get? b=some o:=fun b o q x=>I1.base.there b o q x
  have o3:∀ p∈X.pn++pins,∃ o,s1.heap.get? p.1=some o:=fun p hp=>⟨_,(I1.pin p hp).1⟩
  have flown:∀ h':Heap,B.StaysIn h'->s'.heap.UpToSlots h'->Inv X pins σ H2 { s' with heap:=h' }:=fun h' st up=>I2.flown hst hf st up cov o1 o3
  have he2:H2 e1=none:=by
   cases q:H2 e1 with
   | none=>rfl
   | some u =>
    obtain ⟨o,ho⟩:=(I2.hok e1 u q).there
    have:=cov e1 o ho (I2.trkNo q) (.inl (by rw [q]; simp))
    rw [fl.2.1] at this; cases this
  have apart:∀ (h':Heap),Heap.FlyingW B (X.env::X.outer) e1 (.ref C) a0 h'->∃ oe,h'.get? e1=some oe/\oe.cls=.ref C/\(∃ vs,oe.data=.fields vs)/\e1≠X.env.locals/\e1∉X.fs:=fun h' z=>by
   obtain ⟨oe,vs,q1,q2,q3,_⟩:=z.first
   have nfr:e1∉frs (X.env::X.outer):=fun m=>by
    obtain ⟨_,o,ho,nf⟩:=z.2.2.1.mem m
    rw [q1] at ho; cases ho
    exact nf vs q3
   refine ⟨oe,q1,q2,⟨vs,q3⟩,fun q=>nfr ?_,fun m=>nfr ?_⟩
   ·rw [q]
    unfold frs
    rw [sZ,hf]
    exact tY
   ·unfold frs
    rw [sZ,hf]
    exact sA _ m
  refine wpAny_looks_onW hfr hf fl' fun h4 hd4 up4=>?_
  refine wpAny_landsW hd4 fun h5 fl5 up5=>?_
  have up5':s'.heap.UpToSlots h5:=up4.trans up5
  have I5:=flown h5 fl5.1 up5'
  obtain ⟨oe5,g1,g2,⟨vs5,g3⟩,g4,g5⟩:=apart h5 fl5
  have I5w:Inv (X.within e1 oe5) pins σ H2 { s' with heap:=h5 }:=I5.within g1 he2 g4 g5 (fun v q=>by rw [g3] at q; cases q)
  refine wpAny_handleBy_cons (codeAny_handlers_test (ua (X:=X.within e1 oe5) I5w hgc hmc ?_ hdc)) (by intro q; cases q)
  have LT:PySem.W.Looks (model X.prog X.w) h5 (typeOf (.ref e1)) (.ref C):=g2▸(PySem.W.Looks.ld g1).andThen .now
  refine (PySem.W.exm_one I5.kIn LT hex).here ?_
  refine codeAny_handlers_suite_as ?_
  refine lands_againW fl5 fun h6 fl6 up6=>?_
  have I6:=flown h6 fl6.1 (up5'.trans up6)
  obtain ⟨oe6,k1,k2,⟨vs6,k3⟩,k4,k5⟩:=apart h6 fl6
  refine km I6 hN hi (.inl hx) (v:=.ref e1) (u:=.ref e1) rfl (fun s7 I7 sb=>?_) (.inr hx)
  obtain ⟨a7,sb7,ha7⟩:=sb
  have ne7:e1≠a7:=by
   rcases ha7 with z | z
   ·rw [z]; exact k4
   ·intro q
    obtain ⟨v,o,ho,hdd⟩:=I6.cell n a7 z
    rw [<- q] at ho
    have ho:h6.get? e1=some o:=ho
    rw [k1] at ho; cases ho
    rw [k3] at hdd; cases hdd
  have e7:s7.heap.get? e1=some oe6:=(sb7.2 e1 ne7).trans k1
  have I7w:Inv (X.within e1 oe6) pins (σ.set i (some (.ref e1))) H2 s7:=I7.within e7 he2 k4 k5 (fun v q=>by rw [k3] at q; cases q)
  refine wpAny_mono (hsuite e1 oe6 pins s7 _ H2 _ I7w (hsu e1 oe6 k2 he2)) (fun fl8 s8 q8=>?_) fun _ _ z=>z.elim
  have q8:=SP.without q8 hhd
  cases fl8 with
  | next =>
   obtain ⟨σ8,H8,I8,q⟩:=q8
   exact uG I8 hN hi hx fun s9 I9=>⟨_,H8,I9,q⟩
  | brk =>
   obtain ⟨σ8,H8,I8,q⟩:=q8
   exact uG I8 hN hi hx fun s9 I9=>⟨_,H8,I9,q⟩
  | cont =>
   obtain ⟨σ8,H8,I8,q⟩:=q8
   exact uG I8 hN hi hx fun s9 I9=>⟨_,H8,I9,q⟩
  | ret u =>
   obtain ⟨v8,σ8,H8,I8,r8,q⟩:=q8
   exact uG I8 hN hi hx fun s9 I9=>⟨v8,_,H8,I9,r8,q⟩
def wJ (cells:List (Str×Addr)):List (Str×NameKind)->List (Str×Addr)->List (Str×Addr)
 | [],acc=>acc
 | (n,k)::r,acc=>wJ cells r (if (k==.free)=true then (n,(cells.lookup n).getD 0)::acc else acc)
theorem jZ {scope:Scope}{env:Env}(h:∀ y∈scope.names,y.2=.free->∃ c,env.cells.lookup y.1=some c):closureFor scope env=pure (wJ env.cells scope.names []):=by
 have go:∀ (l:List (Str×NameKind)) (acc:List (Str×Addr)),(∀ y∈l,y.2=.free->∃ c,env.cells.lookup y.1=some c) ->
   (forIn l acc fun (x:Str×NameKind) (r:List (Str×Addr))=>(if (x.2==.free)=true then (do let a <- cellOf env x.1; pure (ForInStep.yield ((x.1,a)::r))) else pure (ForInStep.yield r):Sem (ForInStep (List (Str×Addr)))))=pure (wJ env.cells l acc):=by
  intro l
  induction l with
  | nil=>intro acc _; rfl
  | cons x r ih =>
   intro acc hx
   obtain ⟨n,k⟩:=x
   rw [List.forIn_cons]
   have hr:=fun acc=>ih acc fun y hy=>hx y (sA _ hy)
   by_cases hk:(k==NameKind.free)=true
   ·obtain ⟨c,hc⟩:=hx (n,k) tY (by simpa using hk)
    have hc':env.cells.lookup n=some c:=hc
    have e1:cellOf env n=pure c:=by unfold cellOf; rw [hc']
    simp only [hk,if_true,e1,pure_bind]
    unfold wJ
    rw [if_pos hk,hc']
    exact hr _
   ·simp only [hk,tF,if_false,pure_bind]
    unfold wJ
    rw [if_neg hk]
    exact hr _
 unfold closureFor
 have e:=go scope.names [] h
 simp only [bind_pure_comp,map_pure] at e ⊢
 first | exact e | (simp only [e,bind_pure]; done) | (rw [show (forIn scope.names ([]:List (Str×Addr)) _)=_ from e]; rfl)
theorem uF {cells:List (Str×Addr)}{x:Str}{c:Addr}:∀ {names:List (Str×NameKind)} {acc:List (Str×Addr)},(wJ cells names acc).lookup x=some c->acc.lookup x=some c\/((x,NameKind.free)∈names/\c=(cells.lookup x).getD 0)
 | [],acc,h=>.inl h
 | (n,k)::r,acc,h=>by
  unfold wJ at h
  rcases uF h with z | ⟨z,e⟩
  ·by_cases hk:(k==NameKind.free)=true
   ·rw [if_pos hk] at z
    by_cases hx:(x==n)=true
    ·rw [sU,hx] at z
     have e1:x=n:=by simpa using hx
     have e2:k=NameKind.free:=by simpa using hk
     subst e1 e2
     exact .inr ⟨tY,(Option.some.inj z).symm⟩
    ·have hx':(x==n)=false:=by simpa using hx
     rw [sU,hx'] at z
     exact .inl z
   ·rw [if_neg hk] at z
    exact .inl z
  ·exact .inr ⟨sA _ z,e⟩
theorem qg {cells:List (Str×Addr)}{x:Str}:∀ {names:List (Str×NameKind)} {acc:List (Str×Addr)},((x,NameKind.free)∈names\/∃ c,acc.lookup x=some c)->∃ c,(wJ cells names acc).lookup x=some c
 | [],acc,h=>by
  rcases h with h | h
  ·cases h
  ·exact h
 | (n,k)::r,acc,h=>by
  unfold wJ
  refine qg ?_
  rcases h with h | ⟨c,h⟩
  ·rcases sG.mp h with z | z
   ·cases z
    refine .inr ⟨(cells.lookup x).getD 0,?_⟩
    rw [if_pos (by decide),sU]
    simp only [beq_self_eq_true]
   ·exact .inl z
  ·by_cases hk:(k==NameKind.free)=true
   ·rw [if_pos hk]
    by_cases hx:(x==n)=true
    ·exact .inr ⟨_,by rw [sU,hx]⟩
    ·have hx':(x==n)=false:=by simpa using hx
     exact .inr ⟨c,by rw [sU,hx']; exact h⟩
   ·rw [if_neg hk]
    exact .inr ⟨c,h⟩
theorem xK {env:Env}{x:Str}{k:NameKind}:∀ {names:List (Str×NameKind)},(names.map fun (n,k)=>if (k==NameKind.free&&env.scope.kind==.function&&env.kindOf n==some .cell) then (n,NameKind.cell) else (n,k)).lookup x=some k ->
  ∃ k',names.lookup x=some k'/\(k=k'\/(k'=.free/\k=.cell))
 | [],h=>by cases h
 | (n,j)::r,h=>by
  rw [tG] at h
  by_cases hx:(x==n)=true
  ·refine ⟨j,by rw [sU,hx],?_⟩
   dsimp only at h
   by_cases hc:(j==NameKind.free&&env.scope.kind==.function&&env.kindOf n==some .cell)=true
   ·rw [if_pos hc,sU,hx] at h
    simp only [sP] at hc
    exact .inr ⟨by simpa using hc.1.1,(Option.some.inj h).symm⟩
   ·rw [if_neg hc,sU,hx] at h
    exact .inl (Option.some.inj h).symm
  ·have hx':(x==n)=false:=by simpa using hx
   have e:(r.map fun (n,k)=>if (k==NameKind.free&&env.scope.kind==.function&&env.kindOf n==some .cell) then (n,NameKind.cell) else (n,k)).lookup x=some k:=by
    dsimp only at h
    by_cases hc:(j==NameKind.free&&env.scope.kind==.function&&env.kindOf n==some .cell)=true
    ·rw [if_pos hc,sU,hx'] at h; exact h
    ·rw [if_neg hc,sU,hx'] at h; exact h
   obtain ⟨k',e1,e2⟩:=xK e
   exact ⟨k',by rw [sU,hx']; exact e1,e2⟩
structure CompScope (X:Cx)(N':List Str)(fr:List (Option Nat))(scope:Scope):Prop where
 kind:scope.kind=.function
 nocell:∀ y∈scope.names,y.2≠.cell
 loc:∀ y∈scope.names,y.2=.local->scope.names.lookup y.1=some .local
 free:∀ y∈scope.names,y.2=.free->∃ c,X.env.cells.lookup y.1=some c
 len:fr.length=N'.length
 fre:∀ (j i:Nat) (x:Str),fr[j]?=some (some i)->N'[j]?=some x->X.N[i]?=some x/\scope.names.lookup x=some .free/\(X.env.kindOf x=some .cell\/X.env.kindOf x=some .free)
def xC (fr:List (Option Nat))(σ:St):St:=fr.map fun o=>o.bind fun i=>(σ[i]?).join
def yE (X:Cx)(scope:Scope)(N':List Str)(s₃:Shared)(H₃:Hp)(fp:List Addr)(pins:List (Addr×Obj)):Cx :=
 { X with N:=N',s₀:=s₃,H₀:=H₃,env:=compEnvC scope (wJ X.env.cells scope.names []) s₃.heap.objs.size X.env,outer:=X.stack,stack:=X.stack,ex:=fp,fn:=fun _=>false,pn:=X.pn++pins,xe:=fun _ _=>False }
section
variable {X:Cx}{pins:List (Addr×Obj)}{σ:St}{H:Hp}{s:Shared}{N':List Str}{fr:List (Option Nat)}{scope:Scope}{fp:List Addr}
theorem xD (S:CompScope X N' fr scope){x:Str}{c:Addr}(h:(wJ X.env.cells scope.names []).lookup x=some c):X.env.cells.lookup x=some c:=by
 rcases uF h with z | ⟨z,e⟩
 ·cases z
 ·obtain ⟨c',hc⟩:=S.free _ z rfl
  have hc:X.env.cells.lookup x=some c':=hc
  rw [hc] at e
  rw [hc,e]; rfl
theorem UB (I:Inv X pins σ H s)(S:CompScope X N' fr scope)(hf:∀ b∈fp,qJ X pins H b)(hlt:∀ b∈fp,b<s.heap.objs.size):(yE X scope N' s H fp pins).Ok:=by
 refine ⟨I.ok.mod,S.kind,I.ok.glob,I.ok.blt,sD _,fun x y c h1 h2=>I.ok.inj x y c (xD S h1) (xD S h2),fun x hx=>?_,(fun x c z=>by cases z),I.ok.hd,I.ok.frames,.inl rfl,fun b hb=>⟨sW (hlt b hb),fun x c h=>(hf b hb).2.2.2.2.1 x c (xD S h)⟩,
  I.bs,rD I.ok.bsz I.sz,fun b o e hb=>?_,fun b hb hm=>?_,I.stack,I.stkFree⟩
 ·have hx:(relabel scope X.env).names.lookup x=some .cell\/(relabel scope X.env).names.lookup x=some .free:=hx
  have key:scope.names.lookup x=some .free:=by
   rcases hx with h | h
   ·obtain ⟨k',e1,e2⟩:=xK h
    rcases e2 with z | ⟨z,_⟩
    ·exact absurd z.symm (S.nocell _ (PySem.mem_of_lookup e1))
    ·rw [e1,z]
   ·obtain ⟨k',e1,e2⟩:=xK h
    rcases e2 with z | ⟨_,z⟩
    ·rw [e1,<- z]
    ·cases z
  exact qg (.inl (PySem.mem_of_lookup key))
 ·rcases (hf b hb).2.2.2.1 with z | z
  ·exact I.ok.noex b o e z
  ·exact absurd (sQ (Heap.lt_size e) (rD I.ok.bsz z)) (rW _)
 ·rcases sG.mp (I.stkSub b hm) with z | z
  ·exact (hf b hb).2.1 z
  ·exact (hf b hb).2.2.1 z
theorem UH {h':Heap}{m:Str->Option Value}{tk:Nat}(I:Inv X pins σ H s)(S:CompScope X N' fr scope)(hf:∀ b∈fp,qJ X pins H b)(hlt:∀ b∈fp,b<s.heap.objs.size)(hn:h'.Ns s.heap.objs.size m)
  (hk:∀ b o,s.heap.get? b=some o->h'.get? b=some o):Inv (yE X scope N' s H fp pins) [] (xC fr σ) H { s with heap:=h',toks:=tk }:=by
 refine ⟨UB I S hf hlt,rfl,I.bare,Un.kept hk,⟨m,hn,fun j x v e1 e2 e3=>?_⟩,fun x c h=>?_,I.hok.fresh (sD _),fun x c h=>I.freeC x c (xD S h),fun p hp=>?_,I.hok.kept hk,by unfold xC; rw [sO]; exact S.len⟩
 ·have e1:N'[j]?=some x:=e1
  unfold xC at e2
  rw [sT] at e2
  cases hj:fr[j]? with
  | none=>rw [hj] at e2; cases e2
  | some o =>
   rw [hj] at e2
   cases o with
   | none=>cases e2
   | some i =>
    have e2:(σ[i]?).join=some v:=Option.some.inj e2
    have e2':σ[i]?=some (some v):=by
     cases hq:σ[i]? with
     | none=>rw [hq] at e2; cases e2
     | some w=>rw [hq] at e2; rw [show w=some v from e2]
    obtain ⟨n1,n2,n3⟩:=S.fre j i x hj e1
    obtain ⟨m0,hn0,hl⟩:=I.loc
    have hvis:Vis X.env.scope x:=by
     rcases n3 with z | z
     ·exact .inr (.inl z)
     ·exact .inr (.inr z)
    obtain ⟨u,r,l⟩:=hl i x v n1 e2' hvis
    refine ⟨u,r,.inr ⟨?_,?_⟩⟩
    ·have hh:∀ {names:List (Str×NameKind)},names.lookup x=some .free->(names.map fun (n,k)=>if (k==NameKind.free&&X.env.scope.kind==.function&&X.env.kindOf n==some .cell) then (n,NameKind.cell) else (n,k)).lookup x=some .cell \/
       (names.map fun (n,k)=>if (k==NameKind.free&&X.env.scope.kind==.function&&X.env.kindOf n==some .cell) then (n,NameKind.cell) else (n,k)).lookup x=some .free:=by
      intro names
      induction names with
      | nil=>intro z; cases z
      | cons y r ih =>
       obtain ⟨n,k⟩:=y
       intro z
       rw [tG]
       dsimp only
       by_cases hx:(x==n)=true
       ·rw [sU,hx] at z
        by_cases hc:(k==NameKind.free&&X.env.scope.kind==.function&&X.env.kindOf n==some .cell)=true
        ·rw [if_pos hc]; exact .inl (by rw [sU,hx])
        ·rw [if_neg hc]; exact .inr (by rw [sU,hx]; exact z)
       ·have hx':(x==n)=false:=by simpa using hx
        rw [sU,hx'] at z
        have:=ih z
        by_cases hc:(k==NameKind.free&&X.env.scope.kind==.function&&X.env.kindOf n==some .cell)=true
        ·rw [if_pos hc,sU,hx']; exact this
        ·rw [if_neg hc,sU,hx']; exact this
     exact hh n2
    ·rcases l with ⟨k,_⟩ | ⟨k,c,e,z⟩
     ·rcases n3 with q | q
      ·rw [q] at k; cases k
      ·rw [q] at k; cases k
     ·obtain ⟨c',hc'⟩:=qg (cells:=X.env.cells) (x:=x) (names:=scope.names) (acc:=[]) (.inl (PySem.mem_of_lookup n2))
      have e':=xD S hc'
      rw [e] at e'; cases e'
      obtain ⟨o,ho,hd⟩:=z
      exact ⟨c,hc',o,hk _ _ ho,hd⟩
 ·obtain ⟨v,o,ho,hd⟩:=I.cell x c (xD S h)
  exact ⟨v,o,hk _ _ ho,hd⟩
 ·have hp:p∈(X.pn++pins)++[]:=hp
  rw [sJ] at hp
  obtain ⟨q,n,ne,nf,d⟩:=I.pin p hp
  refine ⟨hk _ _ q,n,sW (Heap.lt_size q),fun hm=>?_,d⟩
  rcases sG.mp (I.stkSub p.1 hm) with z | z
  ·exact ne z
  ·exact nf z
end
section
variable {X:Cx}{pins:List (Addr×Obj)}{σ τ:St}{H H₃ H5:Hp}{s₃ s5:Shared}{N':List Str}{scope:Scope}{fp:List Addr}
theorem Wr {h':Heap}(I:Inv X pins σ H₃ s₃)(J:Inv (yE X scope N' s₃ H₃ fp pins) [] τ H5 s5)(hf:∀ b∈fp,qJ X pins H₃ b)(hs:Heap.SameBut s₃.heap.objs.size s5.heap h'):Inv X pins σ H5 { s5 with heap:=h' }:=by
 have hb:∀ b o,s₃.heap.get? b=some o->b≠s₃.heap.objs.size:=fun b o q=>sW (Heap.lt_size q)
 have u:Un (frs X.stack) fp H₃ H5 s₃.heap s5.heap:=J.base
 refine I.call' (s':={ s5 with heap:=h' }) (ch:=fp) J.os ⟨fun b o q n h1 h2=>(hs.2 b (hb b o q)).trans (u.keep b o q n h1 h2),fun b o q n h1 h2=>?_,u.free,fun b o q h2=>?_,u.tups,u.frzs,u.tbls⟩ (fun b ob q=>?_) J.bare (fun b m=>⟨(hf b m).2.2.2.1,(hf b m).2.1,(hf b m).2.2.2.2.1,(hf b m).2.2.2.2.2⟩)
 ·obtain ⟨sl,e⟩:=u.slot b o q n h1 h2
  exact ⟨sl,(hs.2 b (hb b o q)).trans e⟩
 ·obtain ⟨o',e⟩:=u.there b o q h2
  exact ⟨o',(hs.2 b (hb b o q)).trans e⟩
 ·have fr:H5 s₃.heap.objs.size=none:=J.free
  refine (J.hok b ob q).stay (fun c v hc r=>(hs.2 c ?_).trans r) (fun _ z=>z) fun _ _ z=>z
  rintro rfl
  rcases hc with rfl | hc
  ·rw [fr] at q; cases q
  ·rw [fr] at hc; cases hc
end
def PTs (X:Cx)(ifs:List Expr)(t:TT):Prop :=
 ∀ (pins:List (Addr×Obj)) (s:Shared) (σ:St) (H:Hp) (Q:Bool->Hp->Prop),Inv X pins σ H s->t σ H Q ->
  wpAny (model X.prog X.w) X.A (forIn ifs true fun c r=>if r=true then do let ok <- isTrue c X.env (eval c X.env); pure (ForInStep.yield ok) else pure (ForInStep.yield r)) (TP X pins σ Q) X.xe s
def K9:TT:=fun _ H Q=>Q true H
theorem Ur {X:Cx}:PTs X [] K9:=fun _ _ _ H _ I h=>wpAny_tests_nil ⟨H,I,h⟩
def X4 (fr:List (Option Nat))(wi:TI)(g:TG)(tc:TT)(te:TE):TE:=fun σ H Q=>wi σ H fun J H1=>∀ D,H1 D=none ->
 ∃ W:Nat->Nat->List V->St->Hp->Prop,(∃ m,W 0 m [] (xC fr σ) (upd H1 D (.lst [])))/\∀ i m ys τ H2,W i m ys τ H2->H2 D=some (.lst ys) /\
  ((J.stop i H2/\Q (.ref D) H2)\/(J.go i H2/\∀ x H3,J.yld i H2 x H3->g x τ H3 fun τ' H4=>tc τ' H4 fun b H5=>if b=true then te τ' H5 fun y H6=>H6 D=some (.lst ys)/\ys.length<sizeLine/\∃ m',m'<m/\W (i+1) m' (ys++[y]) τ' (upd H6 D (.lst (ys++[y])))
   else ∃ m',m'<m/\W (i+1) m' ys τ' H5))
theorem Vj {X:Cx}{N':List Str}{fr:List (Option Nat)}{scope:Scope}{tg iter elt:Expr}{ifs:List Expr}{wi:TI}{g:TG}{tc:TT}{te:TE}{pos cp:Pos}{use:Option (Value->Sem Unit)}{Qf:Value->Shared->Prop}(hc:X.calm=true)(S:CompScope X N' fr scope)(hi:PI X tg iter wi)
  (hg:∀ s₃ H₃ fp pins,PG (yE X scope N' s₃ H₃ fp pins) tg g) (ht:∀ s₃ H₃ fp pins,PTs (yE X scope N' s₃ H₃ fp pins) ifs tc) (he:∀ s₃ H₃ fp pins,PE (yE X scope N' s₃ H₃ fp pins) elt te)
  (hs:∀ x,foldedSetIterable iter X.env x=pure x) {pins:List (Addr×Obj)} {s:Shared} {σ:St} {H:Hp} {Q:VK} (I:Inv X pins σ H s) (h:X4 fr wi g tc te σ H Q)
  (hfin:∀ (s₃:Shared) (H₃:Hp) (fp:List Addr) (D:Addr) (s6:Shared) (τ:St) (H5:Hp) (fl:Flow),Inv X pins σ H₃ s₃->(∀ b∈fp,qJ X pins H₃ b)->Inv (yE X scope N' s₃ H₃ fp pins) [] τ H5 s6->Q (.ref D) H5 ->
   compPost (model X.prog X.w) X.A X.xe use Qf (.ref D) s₃.heap.objs.size (.ok fl) s6) :
  wpAny (model X.prog X.w) X.A (comprehension (.ListComp elt [⟨tg,iter,ifs,0⟩] scope pos) scope X.env cp (newList []) false (eval iter X.env) use) Qf X.xe s:=by
 refine wpAny_comprehension_free (use:=use) rfl hs (jZ S.free) S.kind S.loc ?_
 refine thn (hi pins s σ H _ I h) fun v s1 h1=>thn h1 fun itv s2 h2=>?_
 obtain ⟨it,fp,tn,J,H2,rfl,I2,T,st2,f2,hW⟩:=h2
 refine wpAny_newObj_type ?_ (by size_fits)
 have hD:H2 s2.heap.objs.size=none:=I2.hok.fresh (sD _)
 have I3:Inv X pins σ (upd H2 s2.heap.objs.size (.lst [])) { s2 with heap:=s2.heap.push { cls:=.type "list",data:=.seq ([]:List Value).toArray },toks:=s2.toks } :=
  I2.laid (fun b u e=>Heap.get?_push_of_some _ e) (sD _) ⟨pD _,[],0,.nil,Heap.get?_push_size _ rfl⟩
 generalize eD:s2.heap.objs.size=D at I3 hD ⊢
 generalize eH:upd H2 D (.lst [])=H3 at I3
 have f3:∀ b∈fp,qJ X pins H3 b:=fun b hb=>by
  obtain ⟨g0,g1⟩:=f2 b hb
  refine ⟨?_,g1⟩
  obtain ⟨o,ho,_⟩:=T.obj 0 _ st2 b hb
  rw [<- eH,yq (by rw [<- eD]; exact sW (Heap.lt_size ho))]
  exact g0
 have lt3:∀ b∈fp,b<(s2.heap.push { cls:=.type "list",data:=.seq ([]:List Value).toArray }).objs.size:=fun b hb=>by
  obtain ⟨o,ho,_⟩:=T.obj 0 _ st2 b hb
  rw [Heap.size_push]
  exact Nat.lt_succ_of_lt (Heap.lt_size ho)
 have st3:tn 0 (s2.heap.push { cls:=.type "list",data:=.seq ([]:List Value).toArray }):=T.keep _ _ _ st2 fun b _ o e=>Heap.get?_push_of_some _ e
 obtain ⟨W,⟨m0,w0⟩,turn⟩:=hW D hD
 rw [eH] at w0
 generalize es3:({ s2 with heap:=s2.heap.push { cls:=.type "list",data:=.seq ([]:List Value).toArray },toks:=s2.toks }:Shared)=s3 at I3
 have lt3:∀ b∈fp,b<s3.heap.objs.size:=by rw [<- es3]; exact lt3
 have st3:tn 0 s3.heap:=by rw [<- es3]; exact st3
 refine wpAny_newFunctionEnv S.nocell (by intro y hy; cases hy) (fun h4 hn4 hsb4=>?_) S.kind
 have k4:∀ b o,s3.heap.get? b=some o->h4.get? b=some o:=fun b o e=>(hsb4.2 b (sW (Heap.lt_size e))).trans (Heap.get?_push_of_some _ e)
 have I4:Inv (yE X scope N' s3 H3 fp pins) [] (xC fr σ) H3 { s3 with heap:=h4,toks:=s3.toks+([]:List (Str×Value)).length }:=UH I3 S f3 lt3 hn4 k4
 have st4:tn 0 h4:=T.keep _ _ _ st3 fun b _ o e=>k4 b o e
 have stat:∀ {H':Hp} {p':List (Addr×Obj)},p'=[]->(∀ b∈fp,H' b=none)->∀ b∈fp,qJ (yE X scope N' s3 H3 fp pins) p' H' b:=fun {H' p'} hp hn b hb=>by
  subst hp
  obtain ⟨g0,g1,g2,g3,g4,g5⟩:=f3 b hb
  refine ⟨hn b hb,sW (lt3 b hb),fun hm=>?_,.inl hb,fun x c h=>g4 x c (xD S h),fun p hp=>?_⟩
  ·rcases sG.mp (I3.stkSub b hm) with z | z
   ·exact g1 z
   ·exact g2 z
  ·have hp:p∈(X.pn++pins)++[]:=hp
   rw [sJ] at hp
   exact g5 p hp
 have loop:∀ s':Shared,s'={ s3 with heap:=h4,toks:=s3.toks+([]:List (Str×Value)).length }->codeAny (model X.prog X.w) X.A (.compLoop (.ListComp elt [⟨tg,iter,ifs,0⟩] scope pos) 0 (.ref it) (.ref D) (compEnvC scope (wJ X.env.cells scope.names []) s3.heap.objs.size X.env))
   (compPost (model X.prog X.w) X.A X.xe use Qf (.ref D) s3.heap.objs.size) s':=by
  rintro s' rfl
  refine codeAny_loop rfl (fun n s'=>∃ i ys τ H',Inv (yE X scope N' s3 H3 fp pins) [] τ H' s'/\tn i s'.heap/\(∀ b∈fp,H' b=none)/\W i n ys τ H') ?_ m0 ⟨0,[],_,H3,I4,st4,fun b hb=>(f3 b hb).1,w0⟩
  rintro n s5 ⟨i,ys,τ,H5,I5,st5,fr5,w5⟩
  show wpAny _ X.A ((compTurn (.ListComp elt [⟨tg,iter,ifs,0⟩] scope pos) 0 (.ref it) (.ref D) (compEnvC scope (wJ X.env.cells scope.names []) s3.heap.objs.size X.env)).onRaise (fun x=>do noteFrame x (compEnvC scope (wJ X.env.cells scope.names []) s3.heap.objs.size X.env); theTreesLotGoes x)) _ _ s5
  refine wpAny_noted ?_
  rw [compTurn_list]
  obtain ⟨hDy,hor⟩:=turn i n ys τ H5 w5
  rcases hor with ⟨stop,q⟩ | ⟨go,step⟩
  ·refine wpAny_bind (wpAny_standAt (wpAny_bind (thn (T.done (yE X scope N' s3 H3 fp pins) rfl rfl rfl hc i [] s5 τ H5 _ I5 (stat rfl fr5) st5 stop) fun r s6 ⟨hr,I6⟩=>?_)))
   subst hr
   exact wpAny_pure (hfin s3 H3 fp D s6 τ H5 _ I3 f3 I6 q)
  ·refine wpAny_bind (wpAny_standAt (wpAny_bind (thn (T.item (yE X scope N' s3 H3 fp pins) rfl rfl rfl hc i [] s5 τ H5 _ I5 (stat rfl fr5) st5 go) fun r s6 ⟨u,hr,h6⟩=>?_)))
   subst hr
   refine wpAny_bind (thn h6 fun _ s7 ⟨x,H7,I7,r7,y7,st7,fr7⟩=>?_)
   have I7':=I7.pinned (stat rfl fr7) (T.obj _ _ st7)
   refine wpAny_bind (wpAny_mono (hg s3 H3 fp pins _ s7 τ H7 x u _ I7' r7 (step x H7 y7)) (fun _ s8 ⟨τ8,H8,I8,q8⟩=>?_) fun _ _ z=>False.elim z)
   refine wpAny_bind (wpAny_mono (ht s3 H3 fp pins _ s8 τ8 H8 _ I8 q8) (fun b s9 ⟨H9,I9,q9⟩=>?_) fun _ _ z=>False.elim z)
   have again:∀ {s':Shared} {H':Hp},Inv (yE X scope N' s3 H3 fp pins) ([]++jF fp s7.heap) τ8 H' s'->tn (i+1) s'.heap/\∀ b∈fp,H' b=none:=fun {s' H'} I'=>by
    refine ⟨T.keep _ _ _ st7 fun b hb o e=>(I'.pin (b,o) (tQ _ (tQ _ (vw hb e)))).1,fun b hb=>?_⟩
    obtain ⟨o,e,d⟩:=T.obj _ _ st7 b hb
    exact (I'.pin (b,o) (tQ _ (tQ _ (vw hb e)))).2.1
   cases b with
   | false =>
    rw [if_neg sE] at q9
    obtain ⟨m',hm,w9⟩:=q9
    obtain ⟨a1,a2⟩:=again I9
    refine wpAny_pure ⟨rfl,m',hm,i+1,ys,τ8,H9,I9.unpinned,a1,a2,w9⟩
   | true =>
    rw [if_pos rfl] at q9
    refine wpAny_bind (wpAny_bind (wpAny_mono (he s3 H3 fp pins _ s9 τ8 H9 _ I9 q9) (fun yv s10 ⟨y,H10,I10,r10,hD10,hz,m',hm,w10⟩=>?_) fun _ _ z=>False.elim z))
    refine wpAny_bind (wpAny_mono (kq (X:=yE X scope N' s3 H3 fp pins) _ s10 τ8 H10 (.ref D) [y] (.ref D) [yv] (fun _ H11=>H11=upd H10 D (.lst (ys++[y]))) I10 rfl (.cons r10 .nil) ⟨D,ys,y,rfl,rfl,hD10,hz,rfl⟩) (fun _ s11 ⟨_,H11,I11,_,q11⟩=>?_) fun _ _ z=>False.elim z)
    subst q11
    obtain ⟨a1,a2⟩:=again I11
    exact wpAny_pure (wpAny_pure ⟨rfl,m',hm,i+1,ys++[y],τ8,_,I11.unpinned,a1,a2,w10⟩)
 exact codeAny_compStart_list (loop _ rfl) (T.self _ 0 _ _ _ st4 (loop _ rfl))
theorem X3 {X:Cx}{N':List Str}{fr:List (Option Nat)}{scope:Scope}{tg iter elt:Expr}{ifs:List Expr}{wi:TI}{g:TG}{tc:TT}{te:TE}{pos:Pos}(hc:X.calm=true)(S:CompScope X N' fr scope)(hi:PI X tg iter wi)
  (hg:∀ s₃ H₃ fp pins,PG (yE X scope N' s₃ H₃ fp pins) tg g) (ht:∀ s₃ H₃ fp pins,PTs (yE X scope N' s₃ H₃ fp pins) ifs tc) (he:∀ s₃ H₃ fp pins,PE (yE X scope N' s₃ H₃ fp pins) elt te)
  (hs:autoParam (∀ x,foldedSetIterable iter X.env x=pure x) L2.au2._auto_1):PE X (.ListComp elt [⟨tg,iter,ifs,0⟩] scope pos) (X4 fr wi g tc te):=by
 intro pins s σ H Q I h
 rw [eval_ListComp]
 refine Vj (use:=none) hc S hi hg ht he hs I h fun s3 H3 fp D s6 τ H5 fl I3 f3 I6 q=>?_
 obtain ⟨m6,hn6,_⟩:=I6.loc
 exact ⟨m6,hn6,fun h7 hs7=>⟨.ref D,H5,Wr I3 I6 f3 hs7,rfl,q⟩⟩
section
variable {X:Cx}
end
def J2 (x:Str)(i:Nat)(v:V):Prop:=∃ c,x.cps[i]?=some c/\v=.str ⟨#[c]⟩
def Its (x:Str):It:=⟨fun i _=>i<x.cps.size,fun i H v H'=>H'=H/\J2 x i v,fun i _=>x.cps.size<=i⟩
theorem Yh {P:Program}{w:World}{K:PySem.W.Frag}{tg:Expr}(x:Str)(t:Tok)(it:Addr):Turn P w K tg (Its x) [it] it (fun i h=>h.IsStrIter it "str_ascii_iterator" x t i) where
 mem:=by simp
 obj:=fun i h st b hb=>by
  have e:b=it:=by simpa using hb
  subst e
  obtain ⟨o,e,c,d⟩:=st
  exact ⟨o,e,fun v z=>by rw [d] at z; cases z⟩
 keep:=fun i h h' st k=>let ⟨o,ho,r⟩:=st; ⟨o,k it (by simp) o ho,r⟩
 item:=by
  intro X hP hw hK hc i pins s σ H E I hf st hg
  subst hP hw hK
  have hg:i<x.cps.size:=hg
  obtain ⟨f0,f1,f2,f3,f4,f5⟩:=hf it (by simp)
  refine wpAny_pyNext_ascii_item st (c:=x.cps[i]) (by simp [hg]) fun h' st' sb=>?_
  have I1:Inv X pins σ H { s with heap:=h',toks:=s.toks+1 }:=I.turned (fun b o hb e=>(sb.2 b hb).trans e) f0 f1 f3 f4 f5
  obtain ⟨o,e,c,d⟩:=id st'
  exact ⟨_,rfl,Zu (s:={ s with heap:=h',toks:=s.toks+1 }) e c d (by decide) ⟨.str ⟨#[x.cps[i]]⟩,H,I1,⟨_,rfl⟩,⟨rfl,_,by simp [hg],rfl⟩,st',fun b hb=>(hf b hb).1⟩⟩
 done:=by
  intro X hP hw hK hc i pins s σ H E I hf st hg
  subst hP hw hK
  have hg:x.cps.size<=i:=hg
  obtain ⟨f0,f1,f2,f3,f4,f5⟩:=hf it (by simp)
  exact wpAny_pyNext_ascii_end (I.ok.hd hc) st (by simp [hg]) fun h' eb=>⟨rfl,I.turned (t':=s.toks) (fun b o hb e=>eb b o hb e) f0 f1 f3 f4 f5⟩
 self:=fun _ _ _ _ _ st h=>wpAny_pyIter_striter_ascii st h
theorem W3 {P:Program}{w:World}{K:PySem.W.Frag}{tg:Expr}(x:Str)(t:Tok)(it:Addr):Turn P w K tg (Its x) [it] it (fun i h=>h.IsStrIter it "str_iterator" x t i) where
 mem:=by simp
 obj:=fun i h st b hb=>by
  have e:b=it:=by simpa using hb
  subst e
  obtain ⟨o,e,c,d⟩:=st
  exact ⟨o,e,fun v z=>by rw [d] at z; cases z⟩
 keep:=fun i h h' st k=>let ⟨o,ho,r⟩:=st; ⟨o,k it (by simp) o ho,r⟩
 item:=by
  intro X hP hw hK hc i pins s σ H E I hf st hg
  subst hP hw hK
  have hg:i<x.cps.size:=hg
  obtain ⟨f0,f1,f2,f3,f4,f5⟩:=hf it (by simp)
  refine wpAny_pyNext_wide_item st (c:=x.cps[i]) (by simp [hg]) fun h' st' sb=>?_
  have I1:Inv X pins σ H { s with heap:=h',toks:=s.toks+1 }:=I.turned (fun b o hb e=>(sb.2 b hb).trans e) f0 f1 f3 f4 f5
  obtain ⟨o,e,c,d⟩:=id st'
  exact ⟨_,rfl,Zu (s:={ s with heap:=h',toks:=s.toks+1 }) e c d (by decide) ⟨.str ⟨#[x.cps[i]]⟩,H,I1,⟨_,rfl⟩,⟨rfl,_,by simp [hg],rfl⟩,st',fun b hb=>(hf b hb).1⟩⟩
 done:=by
  intro X hP hw hK hc i pins s σ H E I hf st hg
  subst hP hw hK
  have hg:x.cps.size<=i:=hg
  obtain ⟨f0,f1,f2,f3,f4,f5⟩:=hf it (by simp)
  exact wpAny_pyNext_wide_end (I.ok.hd hc) st (by simp [hg]) fun h' eb=>⟨rfl,I.turned (t':=s.toks) (fun b o hb e=>eb b o hb e) f0 f1 f3 f4 f5⟩
 self:=fun _ _ _ _ _ st h=>wpAny_pyIter_striter_wide st h
def JQ (te:TE):TI:=fun σ H R=>te σ H fun v H1=>∃ x,v=.str x/\R (Its x) H1
theorem Jn {X:Cx}{tg e:Expr}{te:TE}(he:PE X e te):PI X tg e (JQ te):=by
 intro pins s σ H R I h
 refine thn (he pins s σ H _ I h) fun v s1 ⟨y,H1,I1,r1,q1⟩=>?_
 obtain ⟨x,rfl,q⟩:=q1
 obtain ⟨t,rfl⟩:=r1
 cases ha:x.cps.all (·<128)
 ·refine wpAny_pyIter_wide ha ?_
  refine ⟨s1.heap.objs.size,[s1.heap.objs.size],_,_,H1,rfl,I1.kept (t':=s1.toks) fun b o e=>Heap.get?_push_of_some _ e,W3 x t _,⟨_,Heap.get?_push_size _ rfl,rfl,rfl⟩,fun b hb=>?_,q⟩
  have e:b=s1.heap.objs.size:=by simpa using hb
  subst e
  exact I1.fpOk (sD _) (I1.hok.fresh (sD _))
 ·refine wpAny_pyIter_ascii ha ?_
  refine ⟨s1.heap.objs.size,[s1.heap.objs.size],_,_,H1,rfl,I1.kept (t':=s1.toks) fun b o e=>Heap.get?_push_of_some _ e,Yh x t _,⟨_,Heap.get?_push_size _ rfl,rfl,rfl⟩,fun b hb=>?_,q⟩
  have e:b=s1.heap.objs.size:=by simpa using hb
  subst e
  exact I1.fpOk (sD _) (I1.hok.fresh (sD _))
section
variable {X:Cx}
def z0u:V->Option Int->Option Int->Hp->VK->Prop:=fun x lo hi H Q=>∃ z,x=.str z/\z.length<=sizeLine/\Q (.str (Txt.slice z lo hi)) H
theorem Wz:SlR X z0u:=by
 intro pins s σ H x v vl vu lo hi sl Q I rx hs pl pu h
 obtain ⟨z,rfl,hz,q⟩:=h
 obtain ⟨t,rfl⟩:=rx
 refine ⟨"str",_,F.slot_str_getitem.lookup,typeIs_str _ _ _,?_⟩
 have fin:∀ (l u:Option (Int×Tok)),vl=partValue l->vu=partValue u->l.map (·.1)=lo->u.map (·.1)=hi->wpAny (model X.prog X.w) X.A (getItem (.str z t) (.ref sl)) (EP X pins σ Q) X.xe s:=by
  intro l u e1 e2 e3 e4
  subst e1 e2 e3 e4
  refine wpAny_getItem_str_slice (st:=none) hs rfl (post_val_or_str ⟨rD (Txt.slice_le z _ _) hz,fun t' k=>?_⟩)
  exact ⟨.str _,H,I.tok k,⟨t',rfl⟩,q⟩
 cases pl with
 | none =>
  cases pu with
  | none=>exact fin none none rfl rfl rfl rfl
  | int j tj=>exact fin none (some (j,tj)) rfl rfl rfl rfl
 | int i ti =>
  cases pu with
  | none=>exact fin (some (i,ti)) none rfl rfl rfl rfl
  | int j tj=>exact fin (some (i,ti)) (some (j,tj)) rfl rfl rfl rfl
end
section
variable {prog:Program}{w:World}{A:Around}{E:Value->Shared->Prop}{s:Shared}{K:Type}[DecidableEq K]{knd:KeyKind prog w K}{d:Addr}{kvs:List (K×Value)}{ep:Nat}
end
section
variable {X:Cx}
end
structure DefIn (K:PySem.W.Frag)(mg:Str->Option Value)(x:Str)(st:Stmt)(ps:List Str):Prop where
 ex:∃ f fd,Fun K x x st f fd/\mg x=some (.ref f)/\Binds K fd ps []
theorem Vd {K:PySem.W.Frag}{mg:Str->Option Value}{x:Str}{st:Stmt}{ps:List Str}{h:Heap}{f:Addr}{oc:Value}{od an:Option Addr}{osl:Array (Option Value)}{kV doc pm cdv ct:Value}(X:K.In h)(G:h.Ns mainGlobals mg)
  (hb:∀ (kV doc pm:Value) (an:Option Addr) (cdv ct:Value) (us:List Value),us.length=ps.length->bindArgs (PySem.W.fnOf x x (defArgs st) (defBody st) (defScope st) .none kV doc pm an cdv ct) ⟨us,[]⟩=pure (ps.zip us))
  (a:PySem.W.nsIn K mainGlobals x=some (some (.ref f))) (l:K.lookup f=some ⟨oc,od,.func (PySem.W.fnOf x x (defArgs st) (defBody st) (defScope st) .none kV doc pm an cdv ct),osl⟩)
  (c:PySem.W.codeIn K cdv x=true) (k:PySem.W.keepIn K (.ref f)=true):DefIn K mg x st ps :=
 ⟨f,_,WB l c k,PySem.W.mg_of X G a,(WB (st:=st) l c k).binds hb⟩
structure Own (P:Program)(w:World)(K:PySem.W.Frag)(mg:Str->Option Value)(base:Heap)(x:Str)(k:Nat)(ps:List Str)(sp:Sp):Prop where
 ex:∃ f fd,FnOk P w K mg base (cxx P w) k f fd ps sp/\mg x=some (.ref f)/\PySem.W.keepIn K (.ref f)=true/\Binds K fd ps []
section
variable {P:Program}{w:World}{K:PySem.W.Frag}{mg:Str->Option Value}{base:Heap}{x:Str}{st:Stmt}{N ps:List Str}{k:Nat}{sp:Sp}
theorem DefIn.own (D:DefIn K mg x st ps)(S:FnScope N ps (defScope st))(len:∀ vs H Q E,sp vs H Q E->vs.length=ps.length)
  (hbody:∀ (f:Addr) (cdv:Value) (A:Around) (outer:List Env) (s:Shared) (H:Hp) (vs:List V) (Q:VK) (E:XK),Room k (A.deeper (envOfC x (defScope st) s.heap.objs.size f cdv))->sp vs H Q E ->
   ∃ t,PSs (xl (cxx P w) P w K mg base N x (defScope st) f cdv A outer s H E) (defBody st) t/\t { nx:=fun _ H'=>Q .non H',rt:=Q } (start N vs) H):Own P w K mg base x (k+1) ps sp:=by
 obtain ⟨f,fd,F,hm,hb⟩:=D.ex
 obtain ⟨oc,od,kV,doc,pm,an,cdv,ct,osl,rfl,lk,hcd⟩:=F.ex
 exact ⟨f,_,WQ lk hcd S len fun A outer s H vs Q E hr hsp=>hbody f cdv A outer s H vs Q E hr hsp,hm,F.kp,hb⟩
theorem Own.mono {j:Nat}(O:Own P w K mg base x j ps sp)(h:j<=k):Own P w K mg base x k ps sp:=by
 obtain ⟨f,fd,F,a,b,c⟩:=O.ex
 exact ⟨f,fd,F.mono h,a,b,c⟩
end
section
variable {X:Cx}{x:Str}{k:Nat}{ps:List Str}{sp:Sp}{E:XK}{e:Expr}{es:List Expr}{t:TA}{p pos:Pos}
theorem Vt (O:Own X.prog X.w X.K X.mg X.base x k ps sp)(hr:Room k X.A)(hg:Gl X x)(hx:wU (cxx X.prog X.w) X E)(ha:PA X (e::es) t)(hdb:autoParam ((x==("__debug__":Str))=false) L2.au1._auto_1)
  (he:autoParam (starEach (e::es) X.env=(false,eval e X.env)::starEach es X.env) L2.au3._auto_1) (hpl:autoParam ((backTo pos (starEach es X.env)).any (·.1)=false) L2.au3._auto_1):PE X (.Call (.Name x p) (e::es) [] pos) (Wf sp [] E t):=by
 obtain ⟨f,fd,F,hm,hk,hb⟩:=O.ex
 exact Ud F hr hg hm hk hb .nil hx ha hdb he hpl
theorem VF {CS:Addr}{xc n:Str}{pos' pc hpos tpos:Pos}{i:Nat}{b₀:Stmt}{suite:List Stmt}{ts:Addr->Obj->TS}(O:Own X.prog X.w X.K X.mg X.base x k ps sp)(hst:X.stack=X.env::X.outer)(hf:X.env.frame=some X.env.locals)(hc:X.calm=true)(hN:X.N.Nodup)(hr:Room k X.A)(hg:Gl X x)
  (ha:PA X.nox (e::es) t) (hgc:Gl X xc) (hmc:X.mg xc=some (.ref CS)) (hi:X.N[i]?=some n) (hx:X.env.scope.names.lookup n=some .local) (hsuite:∀ (e:Addr) (oe:Obj),PSs (X.within e oe) (b₀::suite) (ts e oe))
  (hdb:autoParam ((x==("__debug__":Str))=false) L2.au1._auto_1) (hdc:autoParam ((xc==("__debug__":Str))=false) L2.au1._auto_1)
  (he:autoParam (starEach (e::es) X.env=(false,eval e X.env)::starEach es X.env) L2.au3._auto_1) (hpl:autoParam ((backTo pos (starEach es X.env)).any (·.1)=false) L2.au3._auto_1)
  (hsw:autoParam (swapsWith (.Call (.Name x p) (e::es) [] pos) none pos'.line X.env=pure false) L2.au3._auto_1) :
  PS X (.Try [.Expr (.Call (.Name x p) (e::es) [] pos) pos'] [.ExceptHandler (some (.Name xc pc)) (some n) (b₀::suite) hpos] [] [] tpos) (z0e X.K CS i sp [] t ts):=by
 obtain ⟨f,fd,F,hm,hk,hb⟩:=O.ex
 exact Ju hst hf hc hN F hr hg hm hk hb .nil ha hgc hmc hi hx hsuite hdb hdc he hpl hsw
end
def qy:List String:=["NoneType","bool","int","str","list","tuple","dict"]
section
variable {K:PySem.W.Frag}
theorem Uq:∀ {T:String},T∈qy->PySem.W.kitOne K (.type T) (.type "int")=some (T=="int"||T=="bool"):=by
 intro T h
 simp only [qy,sG,pA,or_false] at h
 rcases h with rfl | rfl | rfl | rfl | rfl | rfl | rfl<;>kernel_rfl
theorem Wc:∀ {T:String},T∈qy->PySem.W.kitOne K (.type T) (.type "bool")=some (T=="bool"):=by
 intro T h
 simp only [qy,sG,pA,or_false] at h
 rcases h with rfl | rfl | rfl | rfl | rfl | rfl | rfl<;>kernel_rfl
theorem W8:∀ {T U:String},T∈qy->U∈(["str","list","tuple","dict"]:List String)->PySem.W.kitOne K (.type T) (.type U)=some (T==U):=by
 intro T U h g
 simp only [qy,sG,pA,or_false] at h g
 rcases g with rfl | rfl | rfl | rfl<;>rcases h with rfl | rfl | rfl | rfl | rfl | rfl | rfl<;>kernel_rfl
end
def z0D (K:PySem.W.Frag)(pn:List (Addr×Obj))(u:V)(te:TE):TE:=fun σ H Q=>te σ H fun v H1=>Kg K pn [v,u] H1 Q
theorem WK {X:Cx}{u:V}{te:TE}{e c:Expr}{p pos:Pos}(hg:Gl X "isinstance")(hm:X.mg "isinstance"=none)(he:PE X e te)(hc:PE X c (tC u))(hs:autoParam (starEach [e,c] X.env=(false,eval e X.env)::starEach [c] X.env) L2.au3._auto_1)(hs2:autoParam (starEach [c] X.env=(false,eval c X.env)::starEach [] X.env) L2.au3._auto_1)
  (hpl:autoParam ((backTo pos (starEach [c] X.env)).any (·.1)=false) L2.au3._auto_1):PE X (.Call (.Name "isinstance" p) [e,c] [] pos) (z0D X.K X.pn u te):=by
 have key:=vh (X:=X) (x:="isinstance") (p:=p) (pos:=pos) Vq hg hm Boot.«isinstance» (yi he (yi hc wA hs2) hs) (by decide) (by decide) hs hpl
 intro pins s σ H Q I h
 exact key pins s σ H Q I h
inductive D where
 | non | bl (b:Bool) | int (i:Int) | str (x:Str) | tup (xs:List D) | lst (xs:List D) | dic (ks:List Key) (xs:List D) | frl (xs:List D)
inductive R (α:Type) where
 | ok (a:α) | err (c:Str) | bad
def R.bind {α β:Type}(r:R α)(f:α->R β):R β:=match r with
 | .ok a=>f a
 | .err c=>.err c
 | .bad=>.bad
theorem R.ok_bind {α β:Type}(a:α)(f:α->R β):(R.ok a).bind f=f a:=rfl
theorem R.err_bind {α β:Type}(c:Str)(f:α->R β):(R.err c:R α).bind f=.err c:=rfl
theorem R.bad_bind {α β:Type}(f:α->R β):(R.bad:R α).bind f=.bad:=rfl
mutual
def D.imm:D->Bool
 | .tup xs=>D.imms xs
 | .lst _=>false
 | .dic _ _=>false
 | _=>true
def D.imms:List D->Bool
 | []=>true
 | d::ds=>D.imm d&&D.imms ds
end
def SqF (K:PySem.W.Frag)(H:Hp)(a:Addr)(vs:List V):Prop:=(∃ o,H a=some (.frz o (.lst vs))) \/
 ∃ (o:Obj) (its:Array Value) (n:Nat),K.lookup a=some o/\o.cls=.type "list"/\o.dict=none/\o.data=.seq its n/\its.size<=sizeLine/\Vals vs its.toList
theorem SqF.sq {K:PySem.W.Frag}{H:Hp}{a:Addr}{vs:List V}(h:SqF K H a vs):SqL K H a vs:=by
 rcases h with ⟨o,h⟩ | h
 ·exact .inl (.inr ⟨o,h⟩)
 ·exact .inr h
mutual
def Rep (K:PySem.W.Frag)(H:Hp):D->V->List Addr->Prop
 | .non,v,L=>v=.non/\L=[]
 | .bl b,v,L=>v=.bl b/\L=[]
 | .int i,v,L=>v=.int i/\L=[]
 | .str x,v,L=>v=.str x/\L=[]
 | .tup ds,v,L=>∃ a vs,v=.ref a/\SqT K H a vs/\Reps K H ds vs L
 | .lst ds,v,L=>∃ a vs L',v=.ref a/\H a=some (.lst vs)/\L=a::L'/\Reps K H ds vs L'
 | .dic ks ds,v,L=>∃ a kvs L',v=.ref a/\H a=some (.dK kvs)/\L=a::L'/\kvs.map (·.1)=ks/\ks.Nodup/\Reps K H ds (kvs.map (·.2)) L'
 | .frl ds,v,L=>∃ a vs,v=.ref a/\SqF K H a vs/\L=[]/\D.imms ds=true/\Reps K H ds vs []
def Reps (K:PySem.W.Frag)(H:Hp):List D->List V->List Addr->Prop
 | [],vs,L=>vs=[]/\L=[]
 | d::ds,vs,L=>∃ v vs' L1 L2,vs=v::vs'/\L=L1++L2/\Rep K H d v L1/\Reps K H ds vs' L2
end
structure TF (H H':Hp):Prop where
 tup:∀ a xs,H a=some (.tup xs)->H' a=some (.tup xs)
 frz:∀ a o u,H a=some (.frz o u)->H' a=some (.frz o u)
theorem Same.tf {H H':Hp}(h:Same H H'):TF H H':=⟨fun a xs e=>h a _ e,fun a o u e=>h a _ e⟩
theorem Same.non {H H1:Hp}(s:Same H H1){a:Addr}(h:H1 a=none):H a=none:=by
 cases e:H a with
 | none=>rfl
 | some o=>rw [s a o e] at h; cases h
theorem Same.new {H:Hp}{p:Addr}{o:HO}(h:H p=none):Same H (upd H p o):=fun b u e=>by
 rw [yq (yC e h)]; exact e
theorem SqF.tf {K:PySem.W.Frag}{H H':Hp}{a:Addr}{vs:List V}(h:SqF K H a vs)(s:TF H H'):SqF K H' a vs:=by
 rcases h with ⟨o,h⟩ | h
 ·exact .inl ⟨o,s.frz _ _ _ h⟩
 ·exact .inr h
theorem SqT.tf {K:PySem.W.Frag}{H H':Hp}{a:Addr}{vs:List V}(h:SqT K H a vs)(s:TF H H'):SqT K H' a vs:=by
 rcases h with h | h
 ·rcases h with h | ⟨o,h⟩
  ·exact .inl (.inl (s.tup _ _ h))
  ·exact .inl (.inr ⟨o,s.frz _ _ _ h⟩)
 ·exact .inr h
section
variable {K:PySem.W.Frag}{H H':Hp}
mutual
theorem Rep.keep (s:TF H H'):∀ (d:D) (v:V) (L:List Addr),Rep K H d v L->(∀ a∈L,H' a=H a)->Rep K H' d v L
 | .non,_,_,h,_=>h
 | .bl _,_,_,h,_=>h
 | .int _,_,_,h,_=>h
 | .str _,_,_,h,_=>h
 | .tup ds,_,L,hq3,k=>by
  obtain ⟨a,vs,e,h,r⟩:=hq3
  exact ⟨a,vs,e,h.tf s,Reps.keep s ds vs L r k⟩
 | .lst ds,_,L,hq3,k=>by
   obtain ⟨a,vs,L',e,h1,h2,h3⟩:=hq3
   subst h2
   exact ⟨a,vs,L',e,by rw [k a tY]; exact h1,rfl,Reps.keep s ds vs L' h3 fun b hb=>k b (sA _ hb)⟩
 | .frl ds,_,L,hq3,k=>by
  obtain ⟨a,vs,e,h1,h2,h3,h4⟩:=hq3
  exact ⟨a,vs,e,h1.tf s,h2,h3,Reps.keep s ds vs [] h4 (fun _ hb=>nomatch hb)⟩
 | .dic ks ds,_,L,hq3,k=>by
   obtain ⟨a,kvs,L',e,h1,h2,h3,h4,h5⟩:=hq3
   subst h2
   exact ⟨a,kvs,L',e,by rw [k a tY]; exact h1,rfl,h3,h4,Reps.keep s ds _ L' h5 fun b hb=>k b (sA _ hb)⟩
theorem Reps.keep (s:TF H H'):∀ (ds:List D) (vs:List V) (L:List Addr),Reps K H ds vs L->(∀ a∈L,H' a=H a)->Reps K H' ds vs L
 | [],_,_,h,_=>h
 | d::ds,_,_,hq3,k=>by
  obtain ⟨v,vs',L1,L2,e1,e2,h1,h2⟩:=hq3
  subst e2
  exact ⟨v,vs',L1,L2,e1,rfl,Rep.keep s d v L1 h1 fun a ha=>k a (tU _ ha),Reps.keep s ds vs' L2 h2 fun a ha=>k a (tQ _ ha)⟩
end
mutual
theorem Rep.dom:∀ (d:D) (v:V) (L:List Addr),Rep K H d v L->∀ a∈L,(∃ vs,H a=some (.lst vs))\/∃ kvs,H a=some (.dK kvs)
 | .non,_,_,h,a,ha=>by rw [h.2] at ha; cases ha
 | .bl _,_,_,h,a,ha=>by rw [h.2] at ha; cases ha
 | .int _,_,_,h,a,ha=>by rw [h.2] at ha; cases ha
 | .str _,_,_,h,a,ha=>by rw [h.2] at ha; cases ha
 | .tup ds,_,L,hq3,b,hb=>by
  obtain ⟨a,vs,e,h,r⟩:=hq3
  exact Reps.dom ds vs L r b hb
 | .lst ds,_,L,hq3,b,hb=>by
   obtain ⟨a,vs,L',e,h1,h2,h3⟩:=hq3
   subst h2
   rcases sG.mp hb with z | z
   ·subst z; exact .inl ⟨vs,h1⟩
   ·exact Reps.dom ds vs L' h3 b z
 | .frl ds,_,L,hq3,b,hb=>by
  obtain ⟨a,vs,e,h1,h2,h3,h4⟩:=hq3
  rw [h2] at hb; cases hb
 | .dic ks ds,_,L,hq3,b,hb=>by
   obtain ⟨a,kvs,L',e,h1,h2,h3,h4,h5⟩:=hq3
   subst h2
   rcases sG.mp hb with z | z
   ·subst z; exact .inr ⟨kvs,h1⟩
   ·exact Reps.dom ds _ L' h5 b z
theorem Reps.dom:∀ (ds:List D) (vs:List V) (L:List Addr),Reps K H ds vs L->∀ a∈L,(∃ vs,H a=some (.lst vs))\/∃ kvs,H a=some (.dK kvs)
 | [],_,_,h,a,ha=>by rw [h.2] at ha; cases ha
 | d::ds,_,_,hq3,a,ha=>by
  obtain ⟨v,vs',L1,L2,e1,e2,h1,h2⟩:=hq3
  subst e2
  rcases sC.mp ha with z | z
  ·exact Rep.dom d v L1 h1 a z
  ·exact Reps.dom ds vs' L2 h2 a z
end
mutual
theorem Rep.imm:∀ (d:D) (v:V) (L:List Addr),Rep K H d v L->d.imm=true->L=[]
 | .non,_,_,h,_=>h.2
 | .bl _,_,_,h,_=>h.2
 | .int _,_,_,h,_=>h.2
 | .str _,_,_,h,_=>h.2
 | .tup ds,_,L,hq3,h=>by
  obtain ⟨_,vs,_,_,r⟩:=hq3
  exact Reps.imm ds vs L r h
 | .lst _,_,_,_,h=>nomatch h
 | .dic _ _,_,_,_,h=>nomatch h
 | .frl _,_,_,hq3,_=>by
  obtain ⟨_,_,_,_,h,_⟩:=hq3
  exact h
theorem Reps.imm:∀ (ds:List D) (vs:List V) (L:List Addr),Reps K H ds vs L->D.imms ds=true->L=[]
 | [],_,_,h,_=>h.2
 | d::ds,_,_,hq3,h=>by
  obtain ⟨v,vs',L1,L2,_,e2,h1,h2⟩:=hq3
  have h:(d.imm&&D.imms ds)=true:=h
  rw [sP] at h
  rw [e2,Rep.imm d v L1 h1 h.1,Reps.imm ds vs' L2 h2 h.2]; rfl
end
theorem Rep.there {d:D}{v:V}{L:List Addr}(h:Rep K H d v L){a:Addr}(ha:a∈L):H a≠none:=by
 rcases Rep.dom d v L h a ha with ⟨_,e⟩ | ⟨_,e⟩<;>rw [e]<;>simp
theorem Reps.there {d:List D}{v:List V}{L:List Addr}(h:Reps K H d v L){a:Addr}(ha:a∈L):H a≠none:=by
 rcases Reps.dom d v L h a ha with ⟨_,e⟩ | ⟨_,e⟩<;>rw [e]<;>simp
theorem Same.at {a:Addr}(s:Same H H')(h:H a≠none):H' a=H a:=by
 cases e:H a with
 | none=>exact absurd e h
 | some o=>exact s a o e
theorem Rep.same {d:D}{v:V}{L:List Addr}(h:Rep K H d v L)(s:Same H H'):Rep K H' d v L:=Rep.keep s.tf d v L h fun _ ha=>s.at (h.there ha)
theorem Reps.same {d:List D}{v:List V}{L:List Addr}(h:Reps K H d v L)(s:Same H H'):Reps K H' d v L:=Reps.keep s.tf d v L h fun _ ha=>s.at (h.there ha)
theorem Reps.length:∀ {ds:List D} {vs:List V} {L:List Addr},Reps K H ds vs L->vs.length=ds.length
 | [],_,_,hq3=>by
  obtain ⟨e,_⟩:=hq3
  rw [e]; rfl
 | d::ds,_,_,hq3=>by
  obtain ⟨v,vs',L1,L2,e1,e2,h1,h2⟩:=hq3
  rw [e1,tJ,tJ,Reps.length h2]
theorem Reps.nil:Reps K H [] [] []:=⟨rfl,rfl⟩
theorem Reps.cons {d:D}{v:V}{L1:List Addr}{ds:List D}{vs:List V}{L2:List Addr}(h:Rep K H d v L1)(t:Reps K H ds vs L2):Reps K H (d::ds) (v::vs) (L1++L2):=⟨v,vs,L1,L2,rfl,rfl,h,t⟩
theorem Reps.get:∀ {ds:List D} {vs:List V} {L:List Addr} {i:Nat} {d:D},Reps K H ds vs L->ds[i]?=some d->∃ v L1,vs[i]?=some v/\Rep K H d v L1/\List.Sublist L1 L
 | [],_,_,_,_,_,e=>by simp at e
 | d::ds,_,_,0,_,hq5,e=>by
  obtain ⟨v,vs',L1,L2,e1,e2,h1,h2⟩:=hq5
  subst e1 e2
  simp at e
  subst e
  exact ⟨v,L1,rfl,h1,List.sublist_append_left _ _⟩
 | d::ds,_,_,i+1,d',hq5,e=>by
  obtain ⟨v,vs',L1,L2,e1,e2,h1,h2⟩:=hq5
  subst e1 e2
  obtain ⟨v',L',a,b,c⟩:=Reps.get (i:=i) (d:=d') h2 (by simpa using e)
  exact ⟨v',L',by simpa using a,b,c.trans (rO _ _)⟩
theorem Reps.append:∀ {ds ds':List D} {vs vs':List V} {L L':List Addr},Reps K H ds vs L->Reps K H ds' vs' L'->Reps K H (ds++ds') (vs++vs') (L++L')
 | [],_,_,_,_,_,hq6,h=>by
  obtain ⟨e1,e2⟩:=hq6
  subst e1 e2; exact h
 | d::ds,_,_,_,_,_,hq6,h=>by
  obtain ⟨v,vs',L1,L2,e1,e2,h1,h2⟩:=hq6
  subst e1 e2
  have:=Reps.cons h1 (Reps.append h2 h)
  rw [<- rF] at this
  exact this
theorem Reps.take:∀ {ds:List D} {vs:List V} {L:List Addr} (n:Nat),Reps K H ds vs L->∃ L',Reps K H (ds.take n) (vs.take n) L'/\List.Sublist L' L
 | _,_,_,0,_=>⟨[],by simpa using Reps.nil,pC _⟩
 | [],_,_,n+1,hq4=>by
  obtain ⟨e1,e2⟩:=hq4
  subst e1 e2; exact ⟨[],by simpa using Reps.nil,pC _⟩
 | d::ds,_,_,n+1,hq4=>by
  obtain ⟨v,vs',L1,L2,e1,e2,h1,h2⟩:=hq4
  subst e1 e2
  obtain ⟨L',a,b⟩:=Reps.take n h2
  exact ⟨L1++L',by simpa using Reps.cons h1 a,List.Sublist.append (List.Sublist.refl _) b⟩
theorem Reps.drop:∀ {ds:List D} {vs:List V} {L:List Addr} (n:Nat),Reps K H ds vs L->∃ L',Reps K H (ds.drop n) (vs.drop n) L'/\List.Sublist L' L
 | _,_,L,0,h=>⟨L,by simpa using h,List.Sublist.refl _⟩
 | [],_,_,n+1,hq4=>by
  obtain ⟨e1,e2⟩:=hq4
  subst e1 e2; exact ⟨[],by simpa using Reps.nil,pC _⟩
 | d::ds,_,_,n+1,hq4=>by
  obtain ⟨v,vs',L1,L2,e1,e2,h1,h2⟩:=hq4
  subst e1 e2
  obtain ⟨L',a,b⟩:=Reps.drop n h2
  exact ⟨L',by simpa using a,b.trans (rO _ _)⟩
end
abbrev Tn:=List (Option D)
inductive Cl where
 | own | shr | brw | dead
 deriving DecidableEq
inductive Rc where
 | fresh | shr | bor
 deriving DecidableEq
structure EOk (K:PySem.W.Frag)(Γ:List Cl)(O:Addr->Prop)(H:Hp)(σ:St)(τ:Tn):Prop where
 dom:∀ a,O a->H a≠none
 slot:∀ (i:Nat) (c:Cl),Γ[i]?=some c->c≠.dead->∃ v d L,σ[i]?=some (some v)/\τ[i]?=some (some d)/\Rep K H d v L/\(c=.shr->∀ a∈L,¬ O a)
def RcOk (c:Rc)(O:Addr->Prop)(H:Hp)(L:List Addr):Prop:=match c with
 | .fresh=>L.Nodup/\∀ a∈L,H a=none
 | .shr=>∀ a∈L,¬ O a
 | .bor=>True
def post (K:PySem.W.Frag)(E:XK)(O:Addr->Prop)(c:Rc)(H:Hp)(Q:VK):R D->Prop
 | .ok d=>∀ v H' L,Same H H'->Rep K H' d v L->RcOk c O H L->Q v H'
 | .err n=>∀ C H',ErrC K n C->Same H H'->E (.ref C) none H'
 | .bad=>False
def postL (K:PySem.W.Frag)(E:XK)(O:Addr->Prop)(c:Rc)(H:Hp)(Q:List V->Hp->Prop):R (List D)->Prop
 | .ok ds=>∀ vs H' L,Same H H'->Reps K H' ds vs L->RcOk c O H L->Q vs H'
 | .err n=>∀ C H',ErrC K n C->Same H H'->E (.ref C) none H'
 | .bad=>False
def postB (K:PySem.W.Frag)(E:XK)(H:Hp)(Q:Bool->Hp->Prop):R Bool->Prop
 | .ok b=>∀ H',Same H H'->Q b H'
 | .err n=>∀ C H',ErrC K n C->Same H H'->E (.ref C) none H'
 | .bad=>False
section
variable {K:PySem.W.Frag}{Γ:List Cl}{O:Addr->Prop}{H H1:Hp}{σ:St}{τ:Tn}{E:XK}{c:Rc}{Q:VK}
theorem EOk.same (e:EOk K Γ O H σ τ)(s:Same H H1):EOk K Γ O H1 σ τ :=
 ⟨fun a h=>by rw [s.at (e.dom a h)]; exact e.dom a h,fun i c h1 h2=>by
  obtain ⟨v,d,L,a1,a2,a3,a4⟩:=e.slot i c h1 h2
  exact ⟨v,d,L,a1,a2,a3.same s,a4⟩⟩
theorem RcOk.same {L:List Addr}(h:RcOk c O H1 L)(s:Same H H1):RcOk c O H L:=by
 cases c with
 | fresh=>exact ⟨h.1,fun a ha=>s.non (h.2 a ha)⟩
 | shr=>exact h
 | bor=>exact h
theorem RcOk.shr {L:List Addr}(dom:∀ a,O a->H a≠none)(hc:c≠.bor)(h:RcOk c O H L):∀ a∈L,¬ O a:=by
 cases c with
 | fresh=>exact fun a ha ho=>dom a ho (h.2 a ha)
 | shr=>exact h
 | bor=>exact absurd rfl hc
theorem RcOk.nil:RcOk c O H []:=by
 cases c with
 | fresh=>exact ⟨rY,fun a ha=>by cases ha⟩
 | shr=>exact fun a ha=>by cases ha
 | bor=>trivial
theorem post.same {r:R D}(h:post K E O c H Q r)(s:Same H H1):post K E O c H1 Q r:=by
 cases r with
 | ok d=>exact fun v H' L s' r' c'=>h v H' L (s.trans s') r' (c'.same s)
 | err n=>exact fun C H' e s'=>h C H' e (s.trans s')
 | bad=>exact h
theorem postL.same {Q:List V->Hp->Prop}{r:R (List D)}(h:postL K E O c H Q r)(s:Same H H1):postL K E O c H1 Q r:=by
 cases r with
 | ok d=>exact fun v H' L s' r' c'=>h v H' L (s.trans s') r' (c'.same s)
 | err n=>exact fun C H' e s'=>h C H' e (s.trans s')
 | bad=>exact h
theorem postB.same {Q:Bool->Hp->Prop}{r:R Bool}(h:postB K E H Q r)(s:Same H H1):postB K E H1 Q r:=by
 cases r with
 | ok d=>exact fun H' s'=>h H' (s.trans s')
 | err n=>exact fun C H' e s'=>h C H' e (s.trans s')
 | bad=>exact h
end
def ME (X:Cx)(E:XK)(Γ:List Cl)(e:Expr)(t:Tn->R D)(c:Rc):Prop :=
 ∃ te,PE X e te/\∀ O σ H τ Q,EOk X.K Γ O H σ τ->post X.K E O c H Q (t τ)->te σ H Q
def MA (X:Cx)(E:XK)(Γ:List Cl)(es:List Expr)(t:Tn->R (List D))(c:Rc):Prop :=
 (∀ τ ds,t τ=.ok ds->ds.length=es.length)/\∃ ta,PA X es ta/\∀ O σ H τ Q,EOk X.K Γ O H σ τ->postL X.K E O c H Q (t τ)->ta σ H Q
def MT (X:Cx)(E:XK)(Γ:List Cl)(e:Expr)(t:Tn->R Bool):Prop :=
 ∃ te,PT X e te/\∀ O σ H τ Q,EOk X.K Γ O H σ τ->postB X.K E H Q (t τ)->te σ H Q
def MW (X:Cx)(E:XK)(Γ:List Cl)(e:Expr)(t:Tn->R Bool):Prop :=
 ∃ te,PW X e te/\∀ O σ H τ Q,EOk X.K Γ O H σ τ->postB X.K E H Q (t τ)->te σ H Q
theorem MW.mt {X:Cx}{E:XK}{Γ:List Cl}{e:Expr}{t:Tn->R Bool}(h:MW X E Γ e t):MT X E Γ e t:=by
 obtain ⟨te,p,q⟩:=h
 exact ⟨te,p.pt,q⟩
def Rc.of:Cl->Rc
 | .shr=>.shr
 | _=>.bor
def Rc.both:Rc->Rc->Rc
 | .fresh,.fresh=>.fresh
 | .bor,_=>.bor
 | _,.bor=>.bor
 | _,_=>.shr
def z7 (i:Nat):Tn->R D:=fun τ=>match τ[i]? with
 | some (some d)=>.ok d
 | _=>.bad
def eC (d:D):Tn->R D:=fun _=>.ok d
def uW (t:Tn->R D):Tn->R D:=fun τ=>(t τ).bind fun d=>if d.imm=true then .ok d else .bad
def za (g:D->D->R D)(a b:Tn->R D):Tn->R D:=fun τ=>(a τ).bind fun x=>(b τ).bind fun y=>g x y
def eUn (g:D->R D)(a:Tn->R D):Tn->R D:=fun τ=>(a τ).bind g
def z9:Tn->R (List D):=fun _=>.ok []
def z3 (a:Tn->R D)(b:Tn->R (List D)):Tn->R (List D):=fun τ=>(a τ).bind fun x=>(b τ).bind fun xs=>.ok (x::xs)
def eL (g:List D->R D)(a:Tn->R (List D)):Tn->R D:=fun τ=>(a τ).bind g
def asB:D->R Bool
 | .bl b=>.ok b
 | _=>.bad
def zg (a:Tn->R D):Tn->R Bool:=fun τ=>(a τ).bind asB
def vP (a b:Tn->R Bool):Tn->R Bool:=fun τ=>(a τ).bind fun x=>if x=true then b τ else .ok false
def bOr (a b:Tn->R Bool):Tn->R Bool:=fun τ=>(a τ).bind fun x=>if x=true then .ok true else b τ
def yk (a:Tn->R Bool):Tn->R Bool:=fun τ=>(a τ).bind fun x=>.ok (!x)
def vt (a b:Tn->R D):Tn->R D:=fun τ=>(a τ).bind fun x=>(asB x).bind fun k=>if k=true then b τ else .ok (.bl false)
def yW (g g':D->D->R D)(a b c:Tn->R D):Tn->R D:=fun τ=>(a τ).bind fun x=>(b τ).bind fun y=>(g x y).bind fun z=>(asB z).bind fun k=>if k=true then (c τ).bind fun w=>g' y w else .ok (.bl false)
section
variable {X:Cx}{E:XK}{Γ:List Cl}{e a b:Expr}{t ta tb tc:Tn->R D}{c ca cb:Rc}{pos:Pos}
theorem UD {i:Nat}{x:Str}{k:Cl}(hN:X.N[i]?=some x)(hk:Γ[i]?=some k)(hd:k≠.dead)(hv:Vis X.env.scope x)(hb:autoParam ((x==("__debug__":Str))=false) L2.au1._auto_1)(hcd:autoParam ((x==("__classdict__":Str))=false) L2.au1._auto_1) :
  ME X E Γ (.Name x pos) (z7 i) (Rc.of k):=by
 refine ⟨Ub i,jA hN hv hb hcd,fun O σ H τ Q ok h=>?_⟩
 obtain ⟨v,d,L,e1,e2,e3,e4⟩:=ok.slot i k hk hd
 unfold z7 at h
 rw [e2] at h
 refine ⟨v,e1,h v H L (Same.refl H) e3 ?_⟩
 cases k with
 | shr=>exact e4 rfl
 | own=>trivial
 | brw=>trivial
 | dead=>trivial
theorem XW {d:D}{v:V}(hp:PE X e (tC v))(hr:∀ H,Rep X.K H d v []):ME X E Γ e (eC d) .fresh :=
 ⟨tC v,hp,fun O σ H τ Q ok h=>h v H [] (Same.refl H) (hr H) RcOk.nil⟩
theorem zb {i:Int}{j}:ME X E Γ (.Constant (.int i) j pos) (eC (.int i)) .fresh:=XW Jp fun _=>⟨rfl,rfl⟩
theorem yz {i:Bool}{j}:ME X E Γ (.Constant (.bool i) j pos) (eC (.bl i)) .fresh:=XW Q7 fun _=>⟨rfl,rfl⟩
theorem vv {j}:ME X E Γ (.Constant .none j pos) (eC .non) .fresh:=XW QZ fun _=>⟨rfl,rfl⟩
theorem zh {x:Str}{j}:ME X E Γ (.Constant (.str x) j pos) (eC (.str x)) .fresh:=XW Jc fun _=>⟨rfl,rfl⟩
theorem qW (h:ME X E Γ e t c):ME X E Γ e (uW t) .fresh:=by
 obtain ⟨te,p,q⟩:=h
 refine ⟨te,p,fun O σ H τ Q ok h=>q O σ H τ Q ok ?_⟩
 unfold uW at h
 cases ht:t τ with
 | ok d =>
  rw [ht] at h
  refine fun v H' L s r k=>?_
  rw [R.ok_bind] at h
  by_cases hi:d.imm=true
  ·rw [if_pos hi] at h
   have:=Rep.imm d v L r hi
   subst this
   exact h v H' [] s r RcOk.nil
  ·rw [if_neg hi] at h; exact h.elim
 | err n=>rw [ht] at h; exact h
 | bad=>rw [ht] at h; exact h
theorem post.bind {K:PySem.W.Frag}{O:Addr->Prop}{H:Hp}{Q Q':VK}{r:R D}{f:D->R D}(h:post K E O c H Q (r.bind f))(hf:∀ d,r=.ok d->post K E O c H Q (f d)->∀ v H' L,Same H H'->Rep K H' d v L->RcOk ca O H L->Q' v H'):post K E O ca H Q' r:=by
 cases r with
 | ok d=>exact hf d rfl h
 | err n=>exact h
 | bad=>exact h
theorem z8:MA X E Γ [] z9 .fresh:=⟨fun τ ds h=>by cases h; rfl,QJ,wA,fun O σ H τ Q ok h=>h [] H [] (Same.refl H) Reps.nil RcOk.nil⟩
theorem RcOk.append {K:PySem.W.Frag}{O:Addr->Prop}{H H1:Hp}{d:D}{v:V}{L1 L2:List Addr}(dom:∀ a,O a->H a≠none)(s:Same H H1)(r:Rep K H1 d v L1)(h1:RcOk ca O H L1)(h2:RcOk cb O H1 L2):RcOk (Rc.both ca cb) O H (L1++L2):=by
 have dom1:∀ a,O a->H1 a≠none:=fun a h=>by rw [s.at (dom a h)]; exact dom a h
 by_cases hf:ca=.fresh/\cb=.fresh
 ·obtain ⟨rfl,rfl⟩:=hf
  refine ⟨sR.mpr ⟨h1.1,h2.1,fun a ha b hb z=>?_⟩,fun a ha=>?_⟩
  ·subst z
   exact r.there ha (h2.2 a hb)
  ·rcases sC.mp ha with z | z
   ·exact h1.2 a z
   ·exact s.non (h2.2 a z)
 ·have key:ca≠.bor->cb≠.bor->∀ a∈L1++L2,¬ O a:=fun n1 n2 a ha=>by
   rcases sC.mp ha with z | z
   ·exact h1.shr dom n1 a z
   ·exact h2.shr dom1 n2 a z
  cases ca<;>cases cb<;>first | exact absurd ⟨rfl,rfl⟩ hf | trivial | exact key (by simp) (by simp)
theorem z4 {es:List Expr}{u:Tn->R (List D)}(h:ME X E Γ e t ca)(r:MA X E Γ es u cb)(hs:autoParam (starEach (e::es) X.env=(false,eval e X.env)::starEach es X.env) L2.au3._auto_1):MA X E Γ (e::es) (z3 t u) (Rc.both ca cb):=by
 obtain ⟨te,p1,q1⟩:=h
 obtain ⟨hl,ta,p2,q2⟩:=r
 refine ⟨fun τ ds h=>?_,Xj te ta,yi p1 p2 hs,fun O σ H τ Q ok h=>?_⟩
 ·unfold z3 at h
  cases h1:t τ with
  | ok d =>
   rw [h1,R.ok_bind] at h
   cases h2:u τ with
   | ok xs =>
    rw [h2,R.ok_bind] at h
    cases h
    rw [tJ,tJ,hl τ xs h2]
   | err n=>rw [h2] at h; cases h
   | bad=>rw [h2] at h; cases h
  | err n=>rw [h1] at h; cases h
  | bad=>rw [h1] at h; cases h
 ·unfold z3 at h
  refine q1 O σ H τ _ ok ?_
  cases h1:t τ with
  | ok d =>
   rw [h1,R.ok_bind] at h
   refine fun v H1 L1 s1 r1 k1=>q2 O σ H1 τ _ (ok.same s1) ?_
   cases h2:u τ with
   | ok xs =>
    rw [h2,R.ok_bind] at h
    exact fun vs H2 L2 s2 r2 k2=>h (v::vs) H2 (L1++L2) (s1.trans s2) (Reps.cons (r1.same s2) r2) (RcOk.append ok.dom s1 r1 k1 k2)
   | err n=>rw [h2] at h; exact fun C H' e s'=>h C H' e (s1.trans s')
   | bad=>rw [h2] at h; exact h
  | err n=>rw [h1] at h; exact h
  | bad=>rw [h1] at h; exact h
theorem zd {es:List Expr}{u:Tn->R (List D)}{x1}(h:MA X E Γ es u c)(hz:autoParam (es.length<=1000) L2.au1._auto_1):ME X E Γ (.Tuple es x1 pos) (eL (fun ds=>.ok (.tup ds)) u) c:=by
 obtain ⟨hl,ta,p,q⟩:=h
 refine ⟨JG ta,Yi p,fun O σ H τ Q ok h=>q O σ H τ _ ok ?_⟩
 unfold eL at h
 have hs:sizeLine=16777216:=sizeLine_eq
 cases hu:u τ with
 | ok ds =>
  rw [hu,R.ok_bind] at h
  refine fun vs H1 L s r k=>⟨by rw [r.length,hl τ ds hu]; lia,fun p hp=>?_⟩
  refine h _ _ L (s.trans (Same.new hp)) ⟨p,vs,rfl,SqT.of yb,r.same (Same.new hp)⟩ k
 | err n=>rw [hu] at h; exact h
 | bad=>rw [hu] at h; exact h
theorem ye {es:List Expr}{u:Tn->R (List D)}(h:MA X E Γ es u c)(hz:autoParam (es.length<=1000) L2.au1._auto_1):ME X E Γ (.List es pos) (eL (fun ds=>.ok (.lst ds)) u) c:=by
 obtain ⟨hl,ta,p,q⟩:=h
 refine ⟨Km ta,J1 p,fun O σ H τ Q ok h=>q O σ H τ _ ok ?_⟩
 unfold eL at h
 have hs:sizeLine=16777216:=sizeLine_eq
 cases hu:u τ with
 | ok ds =>
  rw [hu,R.ok_bind] at h
  refine fun vs H1 L s r k=>⟨by rw [r.length,hl τ ds hu]; lia,fun p hp=>?_⟩
  refine h _ _ (p::L) (s.trans (Same.new hp)) ⟨p,vs,L,rfl,yb,rfl,r.same (Same.new hp)⟩ ?_
  have np:H p=none:=s.non hp
  cases c with
  | fresh =>
   refine ⟨sX.mpr ⟨fun z=>r.there z hp,k.1⟩,fun a ha=>?_⟩
   rcases sG.mp ha with z | z
   ·rw [z]; exact np
   ·exact k.2 a z
  | shr =>
   intro a ha
   rcases sG.mp ha with z | z
   ·rw [z]; exact fun o=>ok.dom p o np
   ·exact k a z
  | bor=>trivial
 | err n=>rw [hu] at h; exact h
 | bad=>rw [hu] at h; exact h
theorem xf (h:ME X E Γ e t c)(he:autoParam (∀ whole,isTrue e X.env whole=(do let v <- whole; standAt e.pos; holding [v] (truthy v))) L2.au2._auto_1):MT X E Γ e (zg t):=by
 obtain ⟨te,p,q⟩:=h
 refine ⟨tB te,Wv p he,fun O σ H τ Q ok h=>q O σ H τ _ ok ?_⟩
 unfold zg at h
 cases ht:t τ with
 | ok d =>
  rw [ht,R.ok_bind] at h
  refine fun v H' L s r _=>?_
  cases d with
  | bl k=>exact ⟨k,r.1,h H' s⟩
  | _=>exact h.elim
 | err n=>rw [ht] at h; exact h
 | bad=>rw [ht] at h; exact h
variable {u v:Tn->R Bool}{rest:List Expr}
theorem yB (h:MT X E Γ a u):MT X E Γ (.UnaryOp .Not a pos) (yk u):=by
 obtain ⟨te,p,q⟩:=h
 refine ⟨z07 te,Jr p,fun O σ H τ Q ok h=>q O σ H τ _ ok ?_⟩
 unfold yk at h
 cases ht:u τ with
 | ok d=>rw [ht,R.ok_bind] at h; exact h
 | err n=>rw [ht] at h; exact h
 | bad=>rw [ht] at h; exact h
theorem Z3 (h:MT X E Γ a u):MW X E Γ (.BoolOp .And [a] pos) u:=by
 obtain ⟨te,p,q⟩:=h
 exact ⟨te,UJ p,q⟩
theorem xM (h:MT X E Γ a u):MW X E Γ (.BoolOp .Or [a] pos) u:=by
 obtain ⟨te,p,q⟩:=h
 exact ⟨te,Qq p,q⟩
theorem Ys (h:MT X E Γ a u)(r:MW X E Γ (.BoolOp .And (b::rest) pos) v):MW X E Γ (.BoolOp .And (a::b::rest) pos) (vP u v):=by
 obtain ⟨te,p,q⟩:=h
 obtain ⟨te',p',q'⟩:=r
 refine ⟨KN te te',JB p p',fun O σ H τ Q ok h=>q O σ H τ _ ok ?_⟩
 unfold vP at h
 cases ht:u τ with
 | ok d =>
  rw [ht,R.ok_bind] at h
  refine fun H1 s1=>?_
  cases d with
  | true=>rw [if_pos rfl] at h ⊢; exact q' O σ H1 τ Q (ok.same s1) (h.same s1)
  | false=>rw [if_neg sE] at h ⊢; exact h H1 s1
 | err n=>rw [ht] at h; exact h
 | bad=>rw [ht] at h; exact h
theorem wo (h:MT X E Γ a u)(r:MW X E Γ (.BoolOp .Or (b::rest) pos) v):MW X E Γ (.BoolOp .Or (a::b::rest) pos) (bOr u v):=by
 obtain ⟨te,p,q⟩:=h
 obtain ⟨te',p',q'⟩:=r
 refine ⟨tOr te te',JO p p',fun O σ H τ Q ok h=>q O σ H τ _ ok ?_⟩
 unfold bOr at h
 cases ht:u τ with
 | ok d =>
  rw [ht,R.ok_bind] at h
  refine fun H1 s1=>?_
  cases d with
  | true=>rw [if_pos rfl] at h ⊢; exact h H1 s1
  | false=>rw [if_neg sE] at h ⊢; exact q' O σ H1 τ Q (ok.same s1) (h.same s1)
 | err n=>rw [ht] at h; exact h
 | bad=>rw [ht] at h; exact h
theorem jE {op}(h:ME X E Γ a t c):ME X E Γ (.BoolOp op [a] pos) t c:=by
 obtain ⟨te,p,q⟩:=h
 exact ⟨te,WU p,q⟩
theorem ZE {K:PySem.W.Frag}{O:Addr->Prop}{H:Hp}{Q:VK}{d:D}{f:Bool->R D}(h:post K E O c H Q ((asB d).bind f)){v:V}{H':Hp}{L:List Addr}(r:Rep K H' d v L):∃ k,v=.bl k/\d=.bl k/\post K E O c H Q (f k):=by
 cases d with
 | bl k=>exact ⟨k,r.1,rfl,h⟩
 | _=>exact h.elim
theorem qv (ha:ME X E Γ a ta ca)(hb:ME X E Γ (.BoolOp .And (b::rest) pos) tb c):ME X E Γ (.BoolOp .And (a::b::rest) pos) (vt ta tb) c:=by
 obtain ⟨te,p,q⟩:=ha
 obtain ⟨te',p',q'⟩:=hb
 refine ⟨UX te te',Yz p p',fun O σ H τ Q ok h=>q O σ H τ _ ok (post.bind h fun d _ h v H1 L s r _=>?_)⟩
 obtain ⟨k,e1,e2,h⟩:=ZE h r
 refine ⟨k,e1,?_⟩
 cases k with
 | true=>rw [if_pos rfl] at h ⊢; exact q' O σ H1 τ Q (ok.same s) (h.same s)
 | false=>rw [if_neg sE] at h ⊢; exact h _ H1 [] s ⟨rfl,rfl⟩ RcOk.nil
def OpB (K:PySem.W.Frag)(r:R2)(g:D->D->R D):Prop :=
 ∀ H x y dx dy Lx Ly (Q:VK),Rep K H dx x Lx->Rep K H dy y Ly->(∃ d,g dx dy=.ok d/\∀ v H' L,Same H H'->Rep K H' d v L->L.Nodup->(∀ a∈L,H a=none)->Q v H')->r x y H Q
def xO (g:D->D->R D):Prop:=∀ x y n,g x y≠.err n
theorem Yo {r:R2}{g:D->D->R D}{te te':TE}(hB:OpB X.K r g)(hn:xO g)(q:∀ O σ H τ Q,EOk X.K Γ O H σ τ->post X.K E O ca H Q (ta τ)->te σ H Q)(q':∀ O σ H τ Q,EOk X.K Γ O H σ τ->post X.K E O cb H Q (tb τ)->te' σ H Q)
  {O:Addr->Prop} {σ:St} {H:Hp} {τ:Tn} {Q:VK} (ok:EOk X.K Γ O H σ τ) (h:post X.K E O .fresh H Q (za g ta tb τ)):tOp r te te' σ H Q:=by
 unfold za at h
 refine q O σ H τ _ ok (post.bind h fun dx _ h x H1 Lx s1 rx _=>q' O σ H1 τ _ (ok.same s1) (post.bind (h.same s1) fun dy _ h y H2 Ly s2 ry _=>?_))
 cases hg:g dx dy with
 | ok d =>
  rw [hg] at h
  exact hB H2 x y dx dy Lx Ly Q (rx.same s2) ry ⟨d,hg,fun v H' L s r n1 n2=>h v H' L (s2.trans s) r ⟨n1,fun a ha=>s2.non (n2 a ha)⟩⟩
 | err n=>exact absurd hg (hn _ _ _)
 | bad=>rw [hg] at h; exact h.elim
theorem zj {op:Operator}{r:R2}{g:D->D->R D}(ho:OpR X (binaryOp op) r)(hB:OpB X.K r g)(hn:xO g)(ha:ME X E Γ a ta ca)(hb:ME X E Γ b tb cb):ME X E Γ (.BinOp a op b pos) (za g ta tb) .fresh:=by
 obtain ⟨te,p,q⟩:=ha
 obtain ⟨te',p',q'⟩:=hb
 exact ⟨_,Kl ho p p',fun O σ H τ Q ok h=>Yo hB hn q q' ok h⟩
theorem vT {op:CmpOp}{r:R2}{g:D->D->R D}(ho:OpR X (compareOp op) r)(hB:OpB X.K r g)(hn:xO g)(ha:ME X E Γ a ta ca)(hb:ME X E Γ b tb cb)(hm:behindInMarks op b=false):ME X E Γ (.Compare a [op] [b] pos) (za g ta tb) .fresh:=by
 obtain ⟨te,p,q⟩:=ha
 obtain ⟨te',p',q'⟩:=hb
 exact ⟨_,Ux ho p p' hm,fun O σ H τ Q ok h=>Yo hB hn q q' ok h⟩
theorem kF {K:PySem.W.Frag}{O:Addr->Prop}{H:Hp}{Q:Bool->Hp->Prop}{r:R D}(h:postB K E H Q (r.bind asB)):post K E O c H (fun x H'=>∃ k,x=.bl k/\Q k H') r:=by
 cases r with
 | ok d =>
  refine fun v H' L s r _=>?_
  cases d with
  | bl k=>exact ⟨k,r.1,h H' s⟩
  | _=>exact h.elim
 | err n=>exact h
 | bad=>exact h
theorem zJ {op:CmpOp}{r:R2}{g:D->D->R D}(ho:OpR X (compareOp op) r)(hB:OpB X.K r g)(hn:xO g)(ha:ME X E Γ a ta ca)(hb:ME X E Γ b tb cb)(hm:behindInMarks op b=false):MT X E Γ (.Compare a [op] [b] pos) (zg (za g ta tb)):=by
 obtain ⟨te,p,q⟩:=ha
 obtain ⟨te',p',q'⟩:=hb
 exact ⟨_,VZ ho p p' hm,fun O σ H τ Q ok h=>Yo (O:=O) hB hn q q' ok (kF h)⟩
theorem Vp {c':Expr}{cc:Rc}{r r':R2}{g g':D->D->R D}{te te' te2:TE}(hB:OpB X.K r g)(hn:xO g)(hB':OpB X.K r' g')(hn':xO g')(q:∀ O σ H τ Q,EOk X.K Γ O H σ τ->post X.K E O ca H Q (ta τ)->te σ H Q)(q':∀ O σ H τ Q,EOk X.K Γ O H σ τ->post X.K E O cb H Q (tb τ)->te' σ H Q)
  (q2:∀ O σ H τ Q,EOk X.K Γ O H σ τ->post X.K E O cc H Q (tc τ)->te2 σ H Q) {O:Addr->Prop} {σ:St} {H:Hp} {τ:Tn} {Q:VK} (ok:EOk X.K Γ O H σ τ) (h:post X.K E O .fresh H Q (yW g g' ta tb tc τ)):VA r r' te te' te2 σ H Q:=by
 unfold yW at h
 refine q O σ H τ _ ok (post.bind h fun dx _ h x H1 Lx s1 rx _=>q' O σ H1 τ _ (ok.same s1) (post.bind (h.same s1) fun dy _ h y H2 Ly s2 ry _=>?_))
 cases hg:g dx dy with
 | ok d =>
  rw [hg,R.ok_bind] at h
  refine hB H2 x y dx dy Lx Ly _ (rx.same s2) ry ⟨d,hg,fun z H3 L s3 r3 n1 n2=>?_⟩
  obtain ⟨k,e1,e2,h⟩:=ZE (h.same s2) r3
  refine ⟨k,e1,?_⟩
  cases k with
  | true =>
   rw [if_pos rfl] at h ⊢
   have ok3:=((ok.same s1).same s2).same s3
   refine q2 O σ H3 τ _ ok3 (post.bind (h.same s3) fun dw _ h w H4 Lw s4 rw4 _=>?_)
   cases hg':g' dy dw with
   | ok d' =>
    rw [hg'] at h
    exact hB' H4 y w dy dw Ly Lw Q ((ry.same s3).same s4) rw4 ⟨d',hg',fun v H' L s r n1 n2=>h v H' L (s4.trans s) r ⟨n1,fun a ha=>s4.non (n2 a ha)⟩⟩
   | err n=>exact absurd hg' (hn' _ _ _)
   | bad=>rw [hg'] at h; exact h.elim
  | false=>rw [if_neg sE] at h ⊢; exact h _ H3 [] s3 ⟨rfl,rfl⟩ RcOk.nil
 | err n=>exact absurd hg (hn _ _ _)
 | bad=>rw [hg] at h; exact h.elim
theorem vk {op op':CmpOp}{c':Expr}{cc:Rc}{r r':R2}{g g':D->D->R D}(ho:OpR X (compareOp op) r)(hB:OpB X.K r g)(hn:xO g)(ho':OpR X (compareOp op') r')(hB':OpB X.K r' g')(hn':xO g')
  (ha:ME X E Γ a ta ca) (hb:ME X E Γ b tb cb) (hc:ME X E Γ c' tc cc) (hm:autoParam (lastMarks [op,op'] [b,c']=false) L2.au4._auto_1):MT X E Γ (.Compare a [op,op'] [b,c'] pos) (zg (yW g g' ta tb tc)):=by
 obtain ⟨te,p,q⟩:=ha
 obtain ⟨te',p',q'⟩:=hb
 obtain ⟨te2,p2,q2⟩:=hc
 exact ⟨_,Ww ho ho' p p' p2 hm,fun O σ H τ Q ok h=>Vp (c':=c') (O:=O) hB hn hB' hn' q q' q2 ok (kF h)⟩
def ClB (K:PySem.W.Frag)(r:List V->Hp->VK->Prop)(g:List D->R D):Prop :=
 ∀ H xs ds L (Q:VK),Reps K H ds xs L->(∃ d,g ds=.ok d/\∀ v H' L',Same H H'->Rep K H' d v L'->L'.Nodup->(∀ a∈L',H a=none)->Q v H')->r xs H Q
def wq (g:List D->R D):Prop:=∀ ds n,g ds≠.err n
variable {uL:Tn->R (List D)}{es:List Expr}
theorem UR {r:List V->Hp->VK->Prop}{g:List D->R D}{ta':TA}(hB:ClB X.K r g)(hn:wq g)(q:∀ O σ H τ Q,EOk X.K Γ O H σ τ->postL X.K E O ca H Q (uL τ)->ta' σ H Q)
  {O:Addr->Prop} {σ:St} {H:Hp} {τ:Tn} {Q:VK} (ok:EOk X.K Γ O H σ τ) (h:post X.K E O .fresh H Q (eL g uL τ)):tCB r ta' σ H Q:=by
 refine q O σ H τ _ ok ?_
 unfold eL at h
 cases hu:uL τ with
 | ok ds =>
  rw [hu,R.ok_bind] at h
  refine fun vs H1 L s1 r1 _=>?_
  cases hg:g ds with
  | ok d =>
   rw [hg] at h
   exact hB H1 vs ds L Q r1 ⟨d,hg,fun v H' L s r n1 n2=>h v H' L (s1.trans s) r ⟨n1,fun a ha=>s1.non (n2 a ha)⟩⟩
  | err n=>exact absurd hg (hn _ _)
  | bad=>rw [hg] at h; exact h.elim
 | err n=>rw [hu] at h; exact h
 | bad=>rw [hu] at h; exact h
variable {x:Str}{id T:String}{p:Pos}
theorem zH {r:List V->Hp->VK->Prop}{g:List D->R D}(hc:CallR X (.builtin id) r)(hB:ClB X.K r g)(hn:wq g)(hg:Gl X x)(hm:X.mg x=none)(hv:bootBuiltins x=some (.builtin id))(ha:MA X E Γ (e::es) uL ca)(hx:autoParam (x≠"__name__") L2.au1._auto_1)(hdb:autoParam ((x==("__debug__":Str))=false) L2.au1._auto_1)
  (he:autoParam (starEach (e::es) X.env=(false,eval e X.env)::starEach es X.env) L2.au3._auto_1) (hpl:autoParam ((backTo pos (starEach es X.env)).any (·.1)=false) L2.au3._auto_1):ME X E Γ (.Call (.Name x p) (e::es) [] pos) (eL g uL) .fresh:=by
 obtain ⟨_,ta',p',q⟩:=ha
 exact ⟨_,vh hc hg hm hv p' hx hdb he hpl,fun O σ H τ Q ok h=>UR hB hn q ok h⟩
theorem yA {r:List V->Hp->VK->Prop}{g:List D->R D}(hc:CallR X (.type T) r)(hB:ClB X.K r g)(hn:wq g)(hg:Gl X x)(hm:X.mg x=none)(hv:bootBuiltins x=some (.type T))(ha:MA X E Γ (e::es) uL ca)(hx:autoParam (x≠"__name__") L2.au1._auto_1)(hdb:autoParam ((x==("__debug__":Str))=false) L2.au1._auto_1)
  (he:autoParam (starEach (e::es) X.env=(false,eval e X.env)::starEach es X.env) L2.au3._auto_1) (hpl:autoParam ((backTo pos (starEach es X.env)).any (·.1)=false) L2.au3._auto_1):ME X E Γ (.Call (.Name x p) (e::es) [] pos) (eL g uL) .fresh:=by
 obtain ⟨_,ta',p',q⟩:=ha
 exact ⟨_,XA hc hg hm hv p' hx hdb he hpl,fun O σ H τ Q ok h=>UR hB hn q ok h⟩
end
def wpE (K:PySem.W.Frag)(E:XK)(Γ:List Cl)(t:Tn->R D)(c:Rc):TE:=fun σ H Q=>∃ O τ,EOk K Γ O H σ τ/\post K E O c H Q (t τ)
def wpT (K:PySem.W.Frag)(E:XK)(Γ:List Cl)(t:Tn->R Bool):TT:=fun σ H Q=>∃ O τ,EOk K Γ O H σ τ/\postB K E H Q (t τ)
theorem ME.pe {X:Cx}{E:XK}{Γ:List Cl}{e:Expr}{t:Tn->R D}{c:Rc}(h:ME X E Γ e t c):PE X e (wpE X.K E Γ t c):=by
 obtain ⟨te,p,q⟩:=h
 rintro pins s σ H Q I ⟨O,τ,ok,z⟩
 exact p pins s σ H Q I (q O σ H τ Q ok z)
theorem MT.pt {X:Cx}{E:XK}{Γ:List Cl}{e:Expr}{t:Tn->R Bool}(h:MT X E Γ e t):PT X e (wpT X.K E Γ t):=by
 obtain ⟨te,p,q⟩:=h
 rintro pins s σ H Q I ⟨O,τ,ok,z⟩
 exact p pins s σ H Q I (q O σ H τ Q ok z)
structure SOk (K:PySem.W.Frag)(Γ:List Cl)(B H:Hp)(σ:St)(τ:Tn)(T:List Addr):Prop where
 ext:Same B H
 lσ:σ.length=Γ.length
 lτ:τ.length=Γ.length
 ex:∃ Ls:Nat->List Addr,
  (∀ i c,Γ[i]?=some c->c≠.dead->∃ v d,σ[i]?=some (some v)/\τ[i]?=some (some d)/\Rep K H d v (Ls i)) /\
  (∀ i,Γ[i]?=some .own->(Ls i).Nodup/\∀ a∈Ls i,B a=none) /\
  (∀ i j c,i≠j->Γ[i]?=some .own->Γ[j]?=some c->c≠.dead->∀ a∈Ls i,a∉Ls j) /\
  T.Nodup/\(∀ a∈T,B a=none/\H a≠none)/\(∀ i c,Γ[i]?=some c->c≠.dead->∀ a∈Ls i,a∉T)
inductive Fl where
 | nx (τ:Tn) | rt (d:D) | bk (τ:Tn) | ct (τ:Tn)
def KC (K:PySem.W.Frag)(E:XK)(B:Hp)(Γ':List Cl)(σ:St)(τ:Tn)(T:List Addr)(H:Hp)(Q:VK):R D->Prop
 | .ok d=>∀ v H' L,Same H H'->Rep K H' d v L->SOk K Γ' B H' σ τ (L++T)->Q v H'
 | .err n=>∀ C H',ErrC K n C->Same B H'->E (.ref C) none H'
 | .bad=>False
def uE (K:PySem.W.Frag)(E:XK)(B:Hp)(Γl Γ':List Cl)(Z:Ends):R Fl->Prop
 | .ok (.nx τ')=>∀ σ' H',SOk K Γ' B H' σ' τ' []->Z.nx σ' H'
 | .ok (.rt d)=>∀ v H' L,Same B H'->Rep K H' d v L->L.Nodup->(∀ a∈L,B a=none)->Z.rt v H'
 | .ok (.bk τ')=>∀ σ' H',SOk K Γl B H' σ' τ' []->Z.bk σ' H'
 | .ok (.ct τ')=>∀ σ' H',SOk K Γl B H' σ' τ' []->Z.ct σ' H'
 | .err n=>∀ C H',ErrC K n C->Same B H'->E (.ref C) none H'
 | .bad=>False
def MV (X:Cx)(E:XK)(Γ:List Cl)(e:Expr)(t:Tn->R D)(Γ':List Cl):Prop :=
 ∃ te,PE X e te/\∀ B σ H τ T Q,SOk X.K Γ B H σ τ T->KC X.K E B Γ' σ τ T H Q (t τ)->te σ H Q
def MS (X:Cx)(E:XK)(Γl Γ:List Cl)(s:Stmt)(t:Tn->R Fl)(Γ':List Cl):Prop :=
 ∃ ts,PS X s ts/\∀ B σ H τ Z,SOk X.K Γ B H σ τ []->uE X.K E B Γl Γ' Z (t τ)->ts Z σ H
def MSs (X:Cx)(E:XK)(Γl Γ:List Cl)(s:List Stmt)(t:Tn->R Fl)(Γ':List Cl):Prop :=
 ∃ ts,PSs X s ts/\∀ B σ H τ Z,SOk X.K Γ B H σ τ []->uE X.K E B Γl Γ' Z (t τ)->ts Z σ H
section
variable {K:PySem.W.Frag}{Γ Γ':List Cl}{B H H1:Hp}{σ:St}{τ:Tn}{T:List Addr}
theorem SOk.eok (h:SOk K Γ B H σ τ T):∃ O:Addr->Prop,EOk K Γ O H σ τ/\(∀ L:List Addr,(∀ a∈L,¬ O a)->∃ Ls:Nat->List Addr,
  (∀ i c,Γ[i]?=some c->c≠.dead->∃ v d,σ[i]?=some (some v)/\τ[i]?=some (some d)/\Rep K H d v (Ls i)) /\
  (∀ i,Γ[i]?=some .own->(Ls i).Nodup/\∀ a∈Ls i,B a=none) /\
  (∀ i j c,i≠j->Γ[i]?=some .own->Γ[j]?=some c->c≠.dead->∀ a∈Ls i,a∉Ls j) /\
  T.Nodup/\(∀ a∈T,B a=none/\H a≠none)/\(∀ i c,Γ[i]?=some c->c≠.dead->∀ a∈Ls i,a∉T)/\∀ i,Γ[i]?=some .own->∀ a∈Ls i,a∉L):=by
 obtain ⟨Ls,h1,h2,h3,h4,h5,h6⟩:=h.ex
 refine ⟨fun a=>∃ i,Γ[i]?=some .own/\a∈Ls i,⟨fun a ⟨i,e,ha⟩=>?_,fun i c e hc=>?_⟩,fun L hL=>⟨Ls,h1,h2,h3,h4,h5,h6,fun i e a ha hm=>hL a hm ⟨i,e,ha⟩⟩⟩
 ·obtain ⟨v,d,_,_,r⟩:=h1 i _ e (by simp)
  exact r.there ha
 ·obtain ⟨v,d,e1,e2,r⟩:=h1 i c e hc
  refine ⟨v,d,Ls i,e1,e2,r,fun z a ha ⟨j,ej,hj⟩=>?_⟩
  subst z
  have hij:j≠i:=fun z=>by subst z; rw [e] at ej; cases ej
  exact h3 j i _ hij ej e (by simp) a hj ha
theorem SOk.same (h:SOk K Γ B H σ τ T)(s:Same H H1):SOk K Γ B H1 σ τ T:=by
 obtain ⟨Ls,h1,h2,h3,h4,h5,h6⟩:=h.ex
 refine ⟨h.ext.trans s,h.lσ,h.lτ,Ls,fun i c e hc=>?_,h2,h3,h4,fun a ha=>⟨(h5 a ha).1,by rw [s.at (h5 a ha).2]; exact (h5 a ha).2⟩,h6⟩
 obtain ⟨v,d,e1,e2,r⟩:=h1 i c e hc
 exact ⟨v,d,e1,e2,r.same s⟩
theorem SOk.aside {L:List Addr}(h:SOk K Γ B H σ τ T)(s:Same H H1)(r:∀ a∈L,H1 a≠none)(n1:L.Nodup)(n2:∀ a∈L,H a=none):SOk K Γ B H1 σ τ (L++T):=by
 obtain ⟨Ls,h1,h2,h3,h4,h5,h6⟩:=h.ex
 refine ⟨h.ext.trans s,h.lσ,h.lτ,Ls,fun i c e hc=>?_,h2,h3,sR.mpr ⟨n1,h4,fun a ha b hb z=>?_⟩,fun a ha=>?_,fun i c e hc a ha hm=>?_⟩
 ·obtain ⟨v,d,e1,e2,r⟩:=h1 i c e hc
  exact ⟨v,d,e1,e2,r.same s⟩
 ·subst z; exact (h5 a hb).2 (n2 a ha)
 ·rcases sC.mp ha with z | z
  ·exact ⟨h.ext.non (n2 a z),r a z⟩
  ·exact ⟨(h5 a z).1,by rw [s.at (h5 a z).2]; exact (h5 a z).2⟩
 ·obtain ⟨v,d,e1,e2,r'⟩:=h1 i c e hc
  rcases sC.mp hm with z | z
  ·exact r'.there ha (n2 a z)
  ·exact h6 i c e hc a ha z
def wk1:Cl->Cl->Bool
 | _,.dead=>true
 | .own,.own=>true
 | .own,.shr=>true
 | .shr,.shr=>true
 | _,_=>false
def wk:List Cl->List Cl->Bool
 | [],[]=>true
 | a::r,b::q=>wk1 a b&&wk r q
 | _,_=>false
theorem Yt:∀ {Γ Γ':List Cl},wk Γ Γ'=true->Γ.length=Γ'.length
 | [],[],_=>rfl
 | a::r,b::q,h=>by
  have h:(wk1 a b&&wk r q)=true:=h
  rw [sP] at h
  rw [tJ,tJ,Yt h.2]
theorem UZ:∀ {Γ Γ':List Cl} {i:Nat} {c:Cl},wk Γ Γ'=true->Γ'[i]?=some c->∃ k,Γ[i]?=some k/\wk1 k c=true
 | [],[],_,_,_,e=>by simp at e
 | a::r,b::q,0,c,h,e=>by
  have h:(wk1 a b&&wk r q)=true:=h
  rw [sP] at h
  simp at e; subst e
  exact ⟨a,rfl,h.1⟩
 | a::r,b::q,i+1,c,h,e=>by
  have h:(wk1 a b&&wk r q)=true:=h
  rw [sP] at h
  obtain ⟨k,h1,h2⟩:=UZ (i:=i) (c:=c) h.2 (by simpa using e)
  exact ⟨k,by simpa using h1,h2⟩
theorem SOk.weak (h:SOk K Γ B H σ τ T)(w:wk Γ Γ'=true):SOk K Γ' B H σ τ T:=by
 obtain ⟨Ls,h1,h2,h3,h4,h5,h6⟩:=h.ex
 have live:∀ (i:Nat) (c:Cl),Γ'[i]?=some c->c≠Cl.dead->∃ k,Γ[i]?=some k/\k≠Cl.dead/\(c=Cl.own->k=Cl.own):=fun i c e hc=>by
  obtain ⟨k,e',w'⟩:=UZ w e
  refine ⟨k,e',fun z=>?_,fun z=>?_⟩
  ·subst z; cases c<;>first | exact absurd rfl hc | cases w'
  ·subst z; cases k<;>first | rfl | cases w'
 refine ⟨h.ext,by rw [<- Yt w]; exact h.lσ,by rw [<- Yt w]; exact h.lτ,Ls,fun i c e hc=>?_,fun i e=>?_,fun i j c hij ei ej hc=>?_,h4,h5,fun i c e hc=>?_⟩
 ·obtain ⟨k,e',n,_⟩:=live i c e hc
  exact h1 i k e' n
 ·obtain ⟨k,e',n,o⟩:=live i _ e (by simp)
  rw [o rfl] at e'
  exact h2 i e'
 ·obtain ⟨k,e',n,o⟩:=live i _ ei (by simp)
  obtain ⟨k2,e2,n2,_⟩:=live j c ej hc
  rw [o rfl] at e'
  exact h3 i j k2 hij e' e2 n2
 ·obtain ⟨k,e',n,_⟩:=live i c e hc
  exact h6 i k e' n
theorem SOk.out {i:Nat}(h:SOk K Γ B H σ τ T)(e:Γ[i]?=some .own):∃ v d L,σ[i]?=some (some v)/\τ[i]?=some (some d)/\Rep K H d v L/\SOk K (Γ.set i .dead) B H σ τ (L++T):=by
 obtain ⟨Ls,h1,h2,h3,h4,h5,h6⟩:=h.ex
 obtain ⟨v,d,e1,e2,r⟩:=h1 i _ e (by simp)
 have hi:i<Γ.length:=(sI.mp e).1
 have at':∀ (j:Nat) (c:Cl),(Γ.set i .dead)[j]?=some c->c≠.dead->j≠i/\Γ[j]?=some c:=fun j c ej hc=>by
  by_cases z:i=j
  ·subst z; rw [sN hi] at ej; exact absurd (Option.some.inj ej).symm hc
  ·rw [sM z] at ej; exact ⟨Ne.symm z,ej⟩
 refine ⟨v,d,Ls i,e1,e2,r,⟨h.ext,by rw [sS]; exact h.lσ,by rw [sS]; exact h.lτ,Ls,fun j c ej hc=>h1 j c (at' j c ej hc).2 hc,fun j ej=>h2 j (at' j _ ej (by simp)).2,fun j k c hjk ej ek hc=>h3 j k c hjk (at' j _ ej (by simp)).2 (at' k c ek hc).2 hc,
  sR.mpr ⟨(h2 i e).1,h4,fun a ha b hb z=>?_⟩,fun a ha=>?_,fun j c ej hc a ha hm=>?_⟩⟩
 ·subst z; exact h6 i _ e (by simp) a ha hb
 ·rcases sC.mp ha with z | z
  ·exact ⟨(h2 i e).2 a z,r.there z⟩
  ·exact h5 a z
 ·obtain ⟨n,ej'⟩:=at' j c ej hc
  rcases sC.mp hm with z | z
  ·exact h3 i j c (Ne.symm n) e ej' hc a z ha
  ·exact h6 j c ej' hc a ha z
def XY (Ls:Nat->List Addr)(i:Nat)(L:List Addr):Nat->List Addr:=fun j=>if j=i then L else Ls j
theorem yT {Ls:Nat->List Addr}{i:Nat}{L:List Addr}:XY Ls i L i=L:=if_pos rfl
theorem YV {Ls:Nat->List Addr}{i j:Nat}{L:List Addr}(h:j=i):XY Ls i L j=L:=if_pos h
theorem yK {Ls:Nat->List Addr}{i j:Nat}{L:List Addr}(h:j≠i):XY Ls i L j=Ls j:=if_neg h
theorem SOk.into {i:Nat}{d:D}{v:V}{L:List Addr}(h:SOk K Γ B H σ τ (L++T))(r:Rep K H d v L)(hi:i<Γ.length):SOk K (Γ.set i .own) B H (σ.set i (some v)) (τ.set i (some d)) T:=by
 obtain ⟨Ls,h1,h2,h3,h4,h5,h6⟩:=h.ex
 have hσ:i<σ.length:=by rw [h.lσ]; exact hi
 have hτ:i<τ.length:=by rw [h.lτ]; exact hi
 obtain ⟨n1,n2,n3⟩:=sR.mp h4
 have at':∀ (j:Nat) (c:Cl),j≠i->(Γ.set i .own)[j]?=some c->Γ[j]?=some c:=fun j c hj e=>by rw [sM (Ne.symm hj)] at e; exact e
 refine ⟨h.ext,by rw [sS,sS]; exact h.lσ,by rw [sS,sS]; exact h.lτ,XY Ls i L,fun j c e hc=>?_,fun j e=>?_,fun j k c hjk ej ek hc a ha hm=>?_,n2,fun a ha=>h5 a (tQ _ ha),fun j c e hc a ha hm=>?_⟩
 ·by_cases z:j=i
  ·subst z
   refine ⟨v,d,by rw [sN hσ],by rw [sN hτ],?_⟩
   rw [yT]; exact r
  ·obtain ⟨v',d',e1,e2,r'⟩:=h1 j c (at' j c z e) hc
   refine ⟨v',d',by rw [sM (Ne.symm z)]; exact e1,by rw [sM (Ne.symm z)]; exact e2,?_⟩
   rw [yK z]; exact r'
 ·by_cases z:j=i
  ·subst z; rw [yT]; exact ⟨n1,fun a ha=>(h5 a (tU _ ha)).1⟩
  ·rw [yK z]; exact h2 j (at' j _ z e)
 ·by_cases z:j=i
  ·subst z
   rw [yT] at ha
   rw [yK (Ne.symm hjk)] at hm
   exact h6 k c (at' k c (Ne.symm hjk) ek) hc a hm (tU _ ha)
  ·rw [yK z] at ha
   by_cases z2:k=i
   ·subst z2
    rw [yT] at hm
    exact h6 j _ (at' j _ z ej) (by simp) a ha (tU _ hm)
   ·rw [yK z2] at hm
    exact h3 j k c hjk (at' j _ z ej) (at' k c z2 ek) hc a ha hm
 ·by_cases z:j=i
  ·subst z; rw [yT] at ha; exact n3 a ha a hm rfl
  ·rw [yK z] at ha; exact h6 j c (at' j c z e) hc a ha (tQ _ hm)
end
section
variable {K:PySem.W.Frag}{Γ Γ':List Cl}{B H H1:Hp}{σ:St}{τ:Tn}{T:List Addr}
theorem SOk.intoS {i:Nat}{d:D}{v:V}{L:List Addr}{Ls:Nat->List Addr}(e0:Same B H)(l1:σ.length=Γ.length)(l2:τ.length=Γ.length)
  (h1:∀ i c,Γ[i]?=some c->c≠.dead->∃ v d,σ[i]?=some (some v)/\τ[i]?=some (some d)/\Rep K H d v (Ls i)) (h2:∀ i,Γ[i]?=some .own->(Ls i).Nodup/\∀ a∈Ls i,B a=none)
  (h3:∀ i j c,i≠j->Γ[i]?=some .own->Γ[j]?=some c->c≠.dead->∀ a∈Ls i,a∉Ls j) (h7:∀ i,Γ[i]?=some .own->∀ a∈Ls i,a∉L) (r:Rep K H d v L) (hi:i<Γ.length) :
  SOk K (Γ.set i .shr) B H (σ.set i (some v)) (τ.set i (some d)) []:=by
 have hσ:i<σ.length:=by rw [l1]; exact hi
 have hτ:i<τ.length:=by rw [l2]; exact hi
 have at':∀ (j:Nat) (c:Cl),j≠i->(Γ.set i .shr)[j]?=some c->Γ[j]?=some c:=fun j c hj e=>by rw [sM (Ne.symm hj)] at e; exact e
 have nown:∀ j:Nat,(Γ.set i .shr)[j]?=some .own->j≠i:=fun j e z=>by subst z; rw [sN hi] at e; cases e
 refine ⟨e0,by rw [sS,sS]; exact l1,by rw [sS,sS]; exact l2,XY Ls i L,fun j c e hc=>?_,fun j e=>?_,fun j k c hjk ej ek hc a ha hm=>?_,rY,fun a ha=>(nomatch ha),fun j c e hc a ha hm=>(nomatch hm)⟩
 ·by_cases z:j=i
  ·subst z
   refine ⟨v,d,by rw [sN hσ],by rw [sN hτ],?_⟩
   rw [yT]; exact r
  ·obtain ⟨v',d',e1,e2,r'⟩:=h1 j c (at' j c z e) hc
   refine ⟨v',d',by rw [sM (Ne.symm z)]; exact e1,by rw [sM (Ne.symm z)]; exact e2,?_⟩
   rw [yK z]; exact r'
 ·have z:=nown j e
  rw [yK z]; exact h2 j (at' j _ z e)
 ·have z:=nown j ej
  rw [yK z] at ha
  by_cases z2:k=i
  ·rw [YV z2] at hm; exact h7 j (at' j _ z ej) a ha hm
  ·rw [yK z2] at hm; exact h3 j k c hjk (at' j _ z ej) (at' k c z2 ek) hc a ha hm
end
section
variable {X:Cx}{E:XK}{Γ Γ1 Γ' Γl:List Cl}{e a b:Expr}{es:List Expr}{t:Tn->R D}{u:Tn->R (List D)}{c:Rc}{pos:Pos}
theorem zc (h:ME X E Γ e t .fresh):MV X E Γ e t Γ:=by
 obtain ⟨te,p,q⟩:=h
 refine ⟨te,p,fun B σ H τ T Q ok h=>?_⟩
 obtain ⟨O,eo,_⟩:=ok.eok
 refine q O σ H τ Q eo ?_
 cases ht:t τ with
 | ok d =>
  rw [ht] at h
  exact fun v H' L s r k=>h v H' L s r (ok.aside s (fun a ha=>r.there ha) k.1 k.2)
 | err n=>rw [ht] at h; exact fun C H' e s=>h C H' e (ok.ext.trans s)
 | bad=>rw [ht] at h; exact h
theorem U9 {i:Nat}{x:Str}(hN:X.N[i]?=some x)(hk:Γ[i]?=some .own)(hv:Vis X.env.scope x)(hb:autoParam ((x==("__debug__":Str))=false) L2.au1._auto_1)(hcd:autoParam ((x==("__classdict__":Str))=false) L2.au1._auto_1):MV X E Γ (.Name x pos) (z7 i) (Γ.set i .dead):=by
 refine ⟨Ub i,jA hN hv hb hcd,fun B σ H τ T Q ok h=>?_⟩
 obtain ⟨v,d,L,e1,e2,r,ok'⟩:=ok.out hk
 unfold z7 at h
 rw [e2] at h
 exact ⟨v,e1,h v H L (Same.refl H) r ok'⟩
def zk:Tn->R Fl:=fun τ=>.ok (.nx τ)
def ze (a b:Tn->R Fl):Tn->R Fl:=fun τ=>(a τ).bind fun f=>match f with
 | .nx τ'=>b τ'
 | f=>.ok f
def zo (t:Tn->R D):Tn->R Fl:=fun τ=>(t τ).bind fun d=>.ok (.rt d)
def zp (i:Nat)(t:Tn->R D):Tn->R Fl:=fun τ=>(t τ).bind fun d=>.ok (.nx (τ.set i (some d)))
def sIf (k:Tn->R Bool)(a b:Tn->R Fl):Tn->R Fl:=fun τ=>(k τ).bind fun x=>if x=true then a τ else b τ
theorem zC:MSs X E Γl Γ [] zk Γ:=⟨WY,Zl,fun B σ H τ Z ok h=>h σ H ok⟩
theorem zl {s:Stmt}{t:Tn->R Fl}(h:MS X E Γl Γ s t Γ'):MSs X E Γl Γ [s] t Γ':=by
 obtain ⟨ts,p,q⟩:=h
 exact ⟨ts,uI p,q⟩
theorem zf {s:Stmt}{r:List Stmt}{t1 t2:Tn->R Fl}(h:MS X E Γl Γ s t1 Γ1)(k:MSs X E Γl Γ1 r t2 Γ'):MSs X E Γl Γ (s::r) (ze t1 t2) Γ':=by
 obtain ⟨ts,p,q⟩:=h
 obtain ⟨ts',p',q'⟩:=k
 refine ⟨Qs ts ts',jD p p',fun B σ H τ Z ok h=>q B σ H τ _ ok ?_⟩
 unfold ze at h
 cases ht:t1 τ with
 | ok f =>
  rw [ht,R.ok_bind] at h
  cases f with
  | nx τ'=>exact fun σ' H' ok'=>q' B σ' H' τ' Z ok' h
  | rt d=>exact h
  | bk τ'=>exact h
  | ct τ'=>exact h
 | err n=>rw [ht] at h; exact h
 | bad=>rw [ht] at h; exact h
theorem uR {s:List Stmt}{t:Tn->R Fl}(h:MSs X E Γl Γ s t Γ1)(w:wk Γ1 Γ'=true):MSs X E Γl Γ s t Γ':=by
 obtain ⟨ts,p,q⟩:=h
 refine ⟨ts,p,fun B σ H τ Z ok h=>q B σ H τ Z ok ?_⟩
 cases ht:t τ with
 | ok f =>
  rw [ht] at h
  cases f with
  | nx τ'=>exact fun σ' H' ok'=>h σ' H' (ok'.weak w)
  | rt d=>exact h
  | bk τ'=>exact h
  | ct τ'=>exact h
 | err n=>rw [ht] at h; exact h
 | bad=>rw [ht] at h; exact h
theorem Qu {s:Stmt}{t:Tn->R Fl}(h:MS X E Γl Γ1 s t Γ')(w:wk Γ Γ1=true):MS X E Γl Γ s t Γ':=by
 obtain ⟨ts,p,q⟩:=h
 exact ⟨ts,p,fun B σ H τ Z ok h=>q B σ H τ Z (ok.weak w) h⟩
theorem zw (h:MV X E Γ e t Γ1):MS X E Γl Γ (.Return (some e) pos) (zo t) Γ':=by
 obtain ⟨te,p,q⟩:=h
 refine ⟨QK te,jl p,fun B σ H τ Z ok h=>q B σ H τ [] _ ok ?_⟩
 unfold zo at h
 cases ht:t τ with
 | ok d =>
  rw [ht,R.ok_bind] at h
  refine fun v H' L s r ok'=>?_
  obtain ⟨Ls,_,_,_,h4,h5,_⟩:=ok'.ex
  rw [sJ] at h4 h5
  exact h v H' L ok'.ext r h4 fun a ha=>(h5 a ha).1
 | err n=>rw [ht] at h; exact h
 | bad=>rw [ht] at h; exact h
theorem zX {k:Expr}{u:Tn->R Bool}{sa sb:List Stmt}{t1 t2:Tn->R Fl}(hk:MT X E Γ k u)(ha:MSs X E Γl Γ sa t1 Γ')(hb:MSs X E Γl Γ sb t2 Γ'):MS X E Γl Γ (.If k sa sb pos) (sIf u t1 t2) Γ':=by
 obtain ⟨te,p,q⟩:=hk
 obtain ⟨ts1,p1,q1⟩:=ha
 obtain ⟨ts2,p2,q2⟩:=hb
 refine ⟨J4 te ts1 ts2,V9 p p1 p2,fun B σ H τ Z ok h=>?_⟩
 obtain ⟨O,eo,_⟩:=ok.eok
 refine q O σ H τ _ eo ?_
 unfold sIf at h
 cases ht:u τ with
 | ok x =>
  rw [ht,R.ok_bind] at h
  refine fun H1 s1=>?_
  cases x with
  | true=>rw [if_pos rfl] at h ⊢; exact q1 B σ H1 τ Z (ok.same s1) h
  | false=>rw [if_neg sE] at h ⊢; exact q2 B σ H1 τ Z (ok.same s1) h
 | err n=>rw [ht] at h; exact fun C H' e s=>h C H' e (ok.ext.trans s)
 | bad=>rw [ht] at h; exact h
theorem Qz {i:Nat}{x:Str}{pos':Pos}(hN:X.N.Nodup)(hi:X.N[i]?=some x)(hl:i<Γ1.length)(h:MV X E Γ e t Γ1)(hx:Loc X.env.scope x)(hs:autoParam (swapsWith e (some (.Name x pos')) pos.line X.env=pure false) L2.au3._auto_1)(hf:autoParam (X.fn x=true\/X.env.scope.names.lookup x=some .local) L2.au0._auto_1) :
  MS X E Γl Γ (.Assign [.Name x pos'] e pos) (zp i t) (Γ1.set i .own):=by
 obtain ⟨te,p,q⟩:=h
 refine ⟨_,Wy hN hi hx p hs hf,fun B σ H τ Z ok h=>q B σ H τ [] _ ok ?_⟩
 unfold zp at h
 cases ht:t τ with
 | ok d =>
  rw [ht,R.ok_bind] at h
  exact fun v H' L s r ok'=>h _ _ (ok'.into r hl)
 | err n=>rw [ht] at h; exact h
 | bad=>rw [ht] at h; exact h
theorem Uc {i:Nat}{x:Str}{pos':Pos}(hN:X.N.Nodup)(hi:X.N[i]?=some x)(hl:i<Γ.length)(h:ME X E Γ e t c)(hc:c≠.bor)(hx:Loc X.env.scope x)(hs:autoParam (swapsWith e (some (.Name x pos')) pos.line X.env=pure false) L2.au3._auto_1)(hf:autoParam (X.fn x=true\/X.env.scope.names.lookup x=some .local) L2.au0._auto_1) :
  MS X E Γl Γ (.Assign [.Name x pos'] e pos) (zp i t) (Γ.set i .shr):=by
 obtain ⟨te,p,q⟩:=h
 refine ⟨_,Wy hN hi hx p hs hf,fun B σ H τ Z ok h=>?_⟩
 obtain ⟨O,eo,hL⟩:=ok.eok
 refine q O σ H τ _ eo ?_
 unfold zp at h
 cases ht:t τ with
 | ok d =>
  rw [ht,R.ok_bind] at h
  refine fun v H' L s r k=>h _ _ ?_
  obtain ⟨Ls,h1,h2,h3,_,_,_,h7⟩:=hL L (k.shr eo.dom hc)
  exact SOk.intoS (ok.ext.trans s) ok.lσ ok.lτ (fun j c e hc=>by obtain ⟨v',d',e1,e2,r'⟩:=h1 j c e hc; exact ⟨v',d',e1,e2,r'.same s⟩) h2 h3 h7 r hl
 | err n=>rw [ht] at h; exact fun C H' e s=>h C H' e (ok.ext.trans s)
 | bad=>rw [ht] at h; exact h
end
section
variable {K:PySem.W.Frag}{Γ Γ':List Cl}{B H H1:Hp}{σ:St}{τ:Tn}{T:List Addr}
theorem SOk.slot {i:Nat}(h:SOk K Γ B H σ τ T)(e:Γ[i]?=some .own):∃ v d L,σ[i]?=some (some v)/\τ[i]?=some (some d)/\Rep K H d v L/\L.Nodup/\(∀ a∈L,B a=none/\a∉T) /\
  ∀ (H2:Hp) (d2:D) (L2 Le T':List Addr),T=Le++T'->TF H H2->(∀ b,b∉L->H b≠none->H2 b=H b)->Rep K H2 d2 v L2->(∀ a∈L2,a∈L\/a∈Le)->L2.Nodup->SOk K Γ B H2 σ (τ.set i (some d2)) T':=by
 obtain ⟨Ls,h1,h2,h3,h4,h5,h6⟩:=h.ex
 obtain ⟨v,d,e1,e2,r⟩:=h1 i _ e (by simp)
 refine ⟨v,d,Ls i,e1,e2,r,(h2 i e).1,fun a ha=>⟨(h2 i e).2 a ha,h6 i _ e (by simp) a ha⟩,?_⟩
 rintro H2 d2 L2 Le T' rfl tf kp r2 sub nd
 obtain ⟨n1,n2,n3⟩:=sR.mp h4
 have hτ:i<τ.length:=(sI.mp e2).1
 have notL:∀ b,B b≠none->b∉Ls i:=fun b hb hm=>hb ((h2 i e).2 b hm)
 refine ⟨fun b o q=>?_,h.lσ,by rw [sS]; exact h.lτ,XY Ls i L2,fun j c ej hc=>?_,fun j ej=>?_,fun j k c hjk ej ek hc a ha hm=>?_,n2,fun a ha=>⟨(h5 a (tQ _ ha)).1,?_⟩,fun j c ej hc a ha hm=>?_⟩
 ·have hq:=h.ext b o q
  rw [kp b (notL b (by rw [q]; simp)) (by rw [hq]; simp)]; exact hq
 ·by_cases z:j=i
  ·subst z
   refine ⟨v,d2,e1,by rw [sN hτ],?_⟩
   rw [yT]; exact r2
  ·obtain ⟨v',d',q1,q2,r'⟩:=h1 j c ej hc
   refine ⟨v',d',q1,by rw [sM (Ne.symm z)]; exact q2,?_⟩
   rw [yK z]
   exact Rep.keep tf d' v' _ r' fun a ha=>kp a (fun hm=>h3 i j c (Ne.symm z) e ej hc a hm ha) (r'.there ha)
 ·by_cases z:j=i
  ·subst z
   rw [yT]
   refine ⟨nd,fun a ha=>?_⟩
   rcases sub a ha with m | m
   ·exact (h2 _ e).2 a m
   ·exact (h5 a (tU _ m)).1
  ·rw [yK z]; exact h2 j ej
 ·by_cases z:j=i
  ·subst z
   rw [yT] at ha
   rw [yK (Ne.symm hjk)] at hm
   rcases sub a ha with m | m
   ·exact h3 _ k c hjk e ek hc a m hm
   ·exact h6 k c ek hc a hm (tU _ m)
  ·rw [yK z] at ha
   by_cases z2:k=i
   ·subst z2
    rw [yT] at hm
    rcases sub a hm with m | m
    ·exact h3 j _ _ hjk ej e (by simp) a ha m
    ·exact h6 j _ ej (by simp) a ha (tU _ m)
   ·rw [yK z2] at hm; exact h3 j k c hjk ej ek hc a ha hm
 ·have q:=(h5 a (tQ _ ha)).2
  rw [kp a (fun hm=>h6 i _ e (by simp) a hm (tQ _ ha)) q]; exact q
 ·by_cases z:j=i
  ·rw [YV z] at ha
   rcases sub a ha with m | m
   ·exact h6 i _ e (by simp) a m (tQ _ hm)
   ·exact n3 a m a hm rfl
  ·rw [yK z] at ha
   exact h6 j c ej hc a ha (tQ _ hm)
theorem TF.upd {a:Addr}{o:HO}(h:(∃ vs,H a=some (.lst vs))\/∃ kvs,H a=some (.dK kvs)):TF H (upd H a o):=by
 refine ⟨fun b xs e=>?_,fun b p u e=>?_⟩
 ·rw [yq]
  ·exact e
  ·rintro rfl
   rcases h with ⟨_,h⟩ | ⟨_,h⟩<;>rw [h] at e<;>cases e
 ·rw [yq]
  ·exact e
  ·rintro rfl
   rcases h with ⟨_,h⟩ | ⟨_,h⟩<;>rw [h] at e<;>cases e
theorem Rep.upd {d:D}{v:V}{L:List Addr}{a:Addr}{o:HO}(r:Rep K H d v L)(h:(∃ vs,H a=some (.lst vs))\/∃ kvs,H a=some (.dK kvs))(n:a∉L):Rep K (L2.upd H a o) d v L :=
 Rep.keep (TF.upd h) d v L r fun b hb=>yq fun z=>n (z▸hb)
theorem Reps.upd {d:List D}{v:List V}{L:List Addr}{a:Addr}{o:HO}(r:Reps K H d v L)(h:(∃ vs,H a=some (.lst vs))\/∃ kvs,H a=some (.dK kvs))(n:a∉L):Reps K (L2.upd H a o) d v L :=
 Reps.keep (TF.upd h) d v L r fun b hb=>yq fun z=>n (z▸hb)
theorem Reps.set:∀ {ds:List D} {vs:List V} {L:List Addr} {d:D} {v:V} {Le:List Addr} (j:Nat),Reps K H ds vs L->Rep K H d v Le->j<ds.length->∃ L2,Reps K H (ds.set j d) (vs.set j v) L2/\(∀ a∈L2,a∈L\/a∈Le)/\((L++Le).Nodup->L2.Nodup)
 | [],_,_,_,_,_,_,_,_,h=>by simp at h
 | d::ds,_,_,d',v',Le,0,hq7,r,_=>by
  obtain ⟨v,vs',L1,L2,e1,e2,h1,h2⟩:=hq7
  subst e1 e2
  refine ⟨Le++L2,by simpa using Reps.cons r h2,fun a ha=>?_,fun n=>?_⟩
  ·rcases sC.mp ha with z | z
   ·exact .inr z
   ·exact .inl (tQ _ z)
  ·obtain ⟨n1,n2,n3⟩:=sR.mp n
   obtain ⟨m1,m2,m3⟩:=sR.mp n1
   exact sR.mpr ⟨n2,m2,fun a ha b hb z=>n3 b (tQ _ hb) a ha z.symm⟩
 | d::ds,_,_,d',v',Le,j+1,hq7,r,hj=>by
  obtain ⟨v,vs',L1,L2,e1,e2,h1,h2⟩:=hq7
  subst e1 e2
  obtain ⟨L3,a1,a2,a3⟩:=Reps.set j h2 r (by simpa using hj)
  refine ⟨L1++L3,by simpa using Reps.cons h1 a1,fun a ha=>?_,fun n=>?_⟩
  ·rcases sC.mp ha with z | z
   ·exact .inl (tU _ z)
   ·rcases a2 a z with m | m
    ·exact .inl (tQ _ m)
    ·exact .inr m
  ·rw [rF] at n
   obtain ⟨n1,n2,n3⟩:=sR.mp n
   refine sR.mpr ⟨n1,a3 n2,fun a ha b hb z=>?_⟩
   rcases a2 b hb with m | m
   ·exact n3 a ha b (tU _ m) z
   ·exact n3 a ha b (tQ _ m) z
end
section
variable {X:Cx}{E:XK}{Γ Γ1 Γ' Γl:List Cl}{e a b:Expr}{es:List Expr}{t t':Tn->R D}{u:Tn->R (List D)}{c:Rc}{pos:Pos}
def vN (i:Nat)(t:Tn->R D):Tn->R Fl:=fun τ=>(z7 i τ).bind fun l=>match l with
 | .lst ds=>(t τ).bind fun d=>if ds.length<sizeLine then .ok (.nx (τ.set i (some (.lst (ds++[d]))))) else .bad
 | _=>.bad
theorem Xy {i:Nat}{x:Str}{p0 p1 p2:Pos}(hN:X.N[i]?=some x)(h0:Γ[i]?=some .own)(h:MV X E Γ e t Γ1)(hk:Γ1[i]?=some .own)(hv:Vis X.env.scope x)(hb:autoParam ((x==("__debug__":Str))=false) L2.au1._auto_1)(hcd:autoParam ((x==("__classdict__":Str))=false) L2.au1._auto_1)
  (hbase:autoParam (attributeBase (.Name x p0) "append" X.env (eval (.Name x p0) X.env)=eval (.Name x p0) X.env) L2.au3._auto_1)
  (hfew:autoParam (((backTo p2 (starEach [e] X.env)).all (fun x=>!x.1)&&(backToKw p2 (keywordEach [] X.env)).all (fun x=>x.1.isSome)&&decide ([e].length+([]:List Keyword).length+(if ([]:List Keyword).isEmpty then 0 else 1)<30))=true) L2.au3._auto_1)
  (hline:autoParam ((p1.endLine==p2.line)=true) L2.au3._auto_1) (hs:autoParam (starEach [e] X.env=(false,eval e X.env)::starEach [] X.env) L2.au3._auto_1) (hplain:autoParam ((backTo p2 (starEach [] X.env)).any (·.1)=false) L2.au3._auto_1)
  (hsw:autoParam (swapsWith (.Call (.Attribute (.Name x p0) "append" p1) [e] [] p2) none pos.line X.env=pure false) L2.au3._auto_1) :
  MS X E Γl Γ (.Expr (.Call (.Attribute (.Name x p0) "append" p1) [e] [] p2) pos) (vN i t) Γ1:=by
 obtain ⟨te,p,q⟩:=h
 refine ⟨_,UK (JJ PySem.F.plainAttrs_list PySem.F.slot_list_append PySem.F.type_list_append kq (jA (pos:=p0) hN hv hb hcd) (yi p wA hs) hbase hfew hline hs hplain) hsw,fun B σ H τ Z ok h=>?_⟩
 obtain ⟨v,d,L,e1,e2,r,_⟩:=ok.slot h0
 refine ⟨v,e1,?_⟩
 unfold vN at h
 have ev:z7 i τ=.ok d:=by unfold z7; rw [e2]
 rw [ev,R.ok_bind] at h
 cases d with
 | lst ds =>
  obtain ⟨a,vs,L',rfl,ha,_,rs⟩:=r
  refine ⟨.inl ⟨rfl,vs,SqL.of ha⟩,q B σ H τ [] _ ok ?_⟩
  dsimp only at h
  cases ht:t τ with
  | ok d' =>
   rw [ht,R.ok_bind] at h
   refine fun y H1 Le s1 ry ok1=>?_
   obtain ⟨v1,d1,L1,q1,q2,r1,n1,n2,fin⟩:=ok1.slot hk
   rw [e1] at q1
   cases q1
   rw [e2] at q2
   cases q2
   obtain ⟨a1,vs1,L1',z1,ha1,z2,rs1⟩:=r1
   cases z1
   subst z2
   have hl:vs1.length=ds.length:=rs1.length
   by_cases hz:ds.length<sizeLine
   ·rw [if_pos hz] at h
    have mu:(∃ vs,H1 a=some (.lst vs))\/∃ kvs,H1 a=some (.dK kvs):=.inl ⟨_,ha1⟩
    have na:a∉Le:=fun m=>(n2 a tY).2 (tU _ m)
    obtain ⟨m1,m2⟩:=sX.mp n1
    refine ⟨a,vs1,y,rfl,rfl,ha1,by lia,h _ _ (fin _ _ (a::(L1'++Le)) Le [] rfl (TF.upd mu) (fun b hb _=>yq fun z=>hb (z▸tY)) ?_ (fun b hb=>?_) ?_)⟩
    ·refine ⟨a,vs1++[y],L1'++Le,rfl,yb,rfl,Reps.append (rs1.upd mu m1) ?_⟩
     have:=Reps.cons (ry.upd (o:=.lst (vs1++[y])) mu na) (Reps.nil (K:=X.K) (H:=upd H1 a (.lst (vs1++[y]))))
     rw [sJ] at this
     exact this
    ·rcases sG.mp hb with z | z
     ·exact .inl (z▸tY)
     ·rcases sC.mp z with z | z
      ·exact .inl (sA _ z)
      ·exact .inr z
    ·refine sX.mpr ⟨fun z=>?_,sR.mpr ⟨m2,?_,fun b hb b' hb' z=>?_⟩⟩
     ·rcases sC.mp z with z | z
      ·exact m1 z
      ·exact na z
     ·obtain ⟨_,_,_,_,w4,_⟩:=ok1.ex
      rw [sJ] at w4
      exact w4
     ·subst z
      exact (n2 b (sA _ hb)).2 (tU _ hb')
   ·rw [if_neg hz] at h; exact h.elim
  | err n=>rw [ht] at h; exact h
  | bad=>rw [ht] at h; exact h
 | _=>exact h.elim
def JK (ds:List D)(k:Int)(d:D):R D:=match ixN ds.length k with
 | some j=>.ok (.lst (ds.set j d))
 | none=>.bad
def Jk (i:Nat)(t ti:Tn->R D):Tn->R Fl:=fun τ=>(t τ).bind fun d=>(z7 i τ).bind fun l=>(ti τ).bind fun k=>match l,k with
 | .lst ds,.int k=>(JK ds k d).bind fun l'=>.ok (.nx (τ.set i (some l')))
 | _,_=>.bad
theorem QO {i:Nat}{x:Str}{p0 p1:Pos}{ix:Expr}{ti:Tn->R D}(hN:X.N[i]?=some x)(h:MV X E Γ e t Γ1)(hi:ME X E Γ1 ix ti c)(hk:Γ1[i]?=some .own)(hv:Vis X.env.scope x)(hb:autoParam ((x==("__debug__":Str))=false) L2.au1._auto_1)(hcd:autoParam ((x==("__classdict__":Str))=false) L2.au1._auto_1)
  (ha:autoParam (∀ v,assign (.Subscript (.Name x p0) ix p1) X.env v=(do
   let ov <- holding [v] (eval (.Name x p0) X.env)
   let iv <- holding [v,ov] (eval ix X.env)
   standAt p1
   holding [v,ov,iv] (setItem ov iv v)
   release [v,ov,iv] [])) L2.au2._auto_1)
  (hs:autoParam (swapsWithSole [.Subscript (.Name x p0) ix p1] e pos.line X.env=pure false) L2.au3._auto_1) (hw:autoParam (swappedStores [.Subscript (.Name x p0) ix p1] e X.env=pure none) L2.au3._auto_1)
  (h1:autoParam ((assignEach [.Subscript (.Name x p0) ix p1] X.env).map (·.2)=[assign (.Subscript (.Name x p0) ix p1) X.env]) L2.au3._auto_1) :
  MS X E Γl Γ (.Assign [.Subscript (.Name x p0) ix p1] e pos) (Jk i t ti) Γ1:=by
 obtain ⟨te,p,q⟩:=h
 obtain ⟨te',p',q'⟩:=hi
 refine ⟨_,Wn p (Jx (jA (pos:=p0) hN hv hb hcd) p' Vw ha) hs hw h1,fun B σ H τ Z ok h=>q B σ H τ [] _ ok ?_⟩
 unfold Jk at h
 cases ht:t τ with
 | ok d' =>
  rw [ht,R.ok_bind] at h
  refine fun y H1 Le s1 ry ok1=>?_
  obtain ⟨v1,d1,L1,q1,q2,r1,n1,n2,_⟩:=ok1.slot hk
  refine ⟨v1,q1,?_⟩
  have ev:z7 i τ=.ok d1:=by unfold z7; rw [q2]
  rw [ev,R.ok_bind] at h
  obtain ⟨O,eo,_⟩:=ok1.eok
  refine q' O σ H1 τ _ eo ?_
  cases hk':ti τ with
  | ok dk =>
   rw [hk',R.ok_bind] at h
   refine fun kv H2 Lk s2 rk _=>?_
   have ok2:=ok1.same s2
   obtain ⟨v2,d2,L2,q3,q4,r2,m1,m2,fin⟩:=ok2.slot hk
   rw [q1] at q3
   cases q3
   rw [q2] at q4
   cases q4
   cases d1 with
   | lst ds =>
    cases dk with
    | int k =>
     obtain ⟨a,vs,L',rfl,ha2,z2,rs⟩:=r2
     subst z2
     dsimp only at h
     unfold JK at h
     cases hj:ixN ds.length k with
     | none=>rw [hj] at h; exact h.elim
     | some j =>
      rw [hj] at h
      have hjl:j<ds.length:=(kZ hj).2.1
      have mu:(∃ vs,H2 a=some (.lst vs))\/∃ kvs,H2 a=some (.dK kvs):=.inl ⟨_,ha2⟩
      have na:a∉Le:=fun m=>(m2 a tY).2 (tU _ m)
      obtain ⟨w1,w2⟩:=sX.mp m1
      have nLe:Le.Nodup:=by
       obtain ⟨_,_,_,_,w4,_⟩:=ok1.ex
       rw [sJ] at w4
       exact w4
      have r3:=(ry.same s2).upd (o:=.lst (vs.set j y)) mu na
      obtain ⟨L3,a1,a2,a3⟩:=Reps.set j (rs.upd (o:=.lst (vs.set j y)) mu w1) r3 hjl
      refine ⟨a,vs,k,j,rfl,rk.1,ha2,by rw [rs.length]; exact hj,h _ _ (fin _ _ (a::L3) Le [] rfl (TF.upd mu) (fun b hb _=>yq fun z=>hb (z▸tY)) ⟨a,_,L3,rfl,yb,rfl,a1⟩ (fun b hb=>?_) ?_)⟩
      ·rcases sG.mp hb with z | z
       ·exact .inl (z▸tY)
       ·rcases a2 b z with z | z
        ·exact .inl (sA _ z)
        ·exact .inr z
      ·refine sX.mpr ⟨fun z=>?_,a3 (sR.mpr ⟨w2,nLe,fun b hb b' hb' z=>?_⟩)⟩
       ·rcases a2 a z with z | z
        ·exact w1 z
        ·exact na z
       ·subst z
        exact (m2 b (sA _ hb)).2 (tU _ hb')
    | _=>exact h.elim
   | _=>exact h.elim
  | err n=>rw [hk'] at h; exact fun C H' e s=>h C H' e (ok1.ext.trans s)
  | bad=>rw [hk'] at h; exact h
 | err n=>rw [ht] at h; exact h
 | bad=>rw [ht] at h; exact h
end
section
variable {K:PySem.W.Frag}{Γ Γ':List Cl}{B B' H H1:Hp}{σ:St}{τ:Tn}{T:List Addr}
theorem SOk.rebase (h:SOk K Γ B' H σ τ T)(s:Same B B'):SOk K Γ B H σ τ T:=by
 obtain ⟨Ls,h1,h2,h3,h4,h5,h6⟩:=h.ex
 exact ⟨s.trans h.ext,h.lσ,h.lτ,Ls,h1,fun i e=>⟨(h2 i e).1,fun a ha=>s.non ((h2 i e).2 a ha)⟩,h3,h4,fun a ha=>⟨s.non (h5 a ha).1,(h5 a ha).2⟩,h6⟩
open Classical in
theorem SOk.base (h:SOk K Γ B H σ τ []):∃ O:Addr->Prop,EOk K Γ O H σ τ/\(∀ a,O a->(∃ vs,H a=some (.lst vs))\/∃ kvs,H a=some (.dK kvs)) /\
  ∀ H1,Same H H1->∃ B1,Same B B1/\SOk K Γ B1 H1 σ τ []/\∀ a,¬ O a->B1 a=H1 a:=by
 obtain ⟨Ls,h1,h2,h3,h4,h5,h6⟩:=h.ex
 refine ⟨fun a=>∃ i,Γ[i]?=some .own/\a∈Ls i,⟨fun a ⟨i,e,ha⟩=>?_,fun i c e hc=>?_⟩,fun a ⟨i,e,ha⟩=>?_,fun H1 s1=>⟨fun a=>if (∃ i,Γ[i]?=some .own/\a∈Ls i) then none else H1 a,fun b o q=>?_,⟨fun b o q=>?_,h.lσ,h.lτ,Ls,fun i c e hc=>?_,fun i e=>⟨(h2 i e).1,fun a ha=>if_pos ⟨i,e,ha⟩⟩,h3,h4,fun a ha=>(nomatch ha),h6⟩,fun a n=>if_neg n⟩⟩
 ·obtain ⟨v,d,_,_,r⟩:=h1 i _ e (by simp)
  exact r.there ha
 ·obtain ⟨v,d,e1,e2,r⟩:=h1 i c e hc
  refine ⟨v,d,Ls i,e1,e2,r,fun z a ha ⟨j,ej,hj⟩=>?_⟩
  subst z
  have hij:j≠i:=fun z=>by subst z; rw [e] at ej; cases ej
  exact h3 j i _ hij ej e (by simp) a hj ha
 ·obtain ⟨v,d,_,_,r⟩:=h1 i _ e (by simp)
  exact Rep.dom d v _ r a ha
 ·show (if (∃ i,Γ[i]?=some .own/\b∈Ls i) then none else H1 b)=some o
  rw [if_neg]
  ·exact s1 b o (h.ext b o q)
  ·rintro ⟨i,e,hb⟩
   rw [(h2 i e).2 b hb] at q; cases q
 ·have q:(if (∃ i,Γ[i]?=some .own/\b∈Ls i) then none else H1 b)=some o:=q
  by_cases z:∃ i,Γ[i]?=some .own/\b∈Ls i
  ·rw [if_pos z] at q; cases q
  ·rw [if_neg z] at q; exact q
 ·obtain ⟨v,d,e1,e2,r⟩:=h1 i c e hc
  exact ⟨v,d,e1,e2,r.same s1⟩
theorem SOk.shrIn {i:Nat}{d:D}{v:V}{L:List Addr}(h:SOk K Γ B H σ τ [])(r:Rep K H d v L)(hL:∀ a∈L,B a≠none)(hi:i<Γ.length):SOk K (Γ.set i .shr) B H (σ.set i (some v)) (τ.set i (some d)) []:=by
 obtain ⟨Ls,h1,h2,h3,h4,h5,h6⟩:=h.ex
 exact SOk.intoS h.ext h.lσ h.lτ h1 h2 h3 (fun j e a ha hm=>hL a hm ((h2 j e).2 a ha)) r hi
end
def xg {α:Type}:List (Option α)->List Nat->List α->List (Option α)
 | σ,i::is,v::vs=>xg (σ.set i (some v)) is vs
 | σ,_,_=>σ
def shrAll:List Cl->List Nat->List Cl
 | Γ,[]=>Γ
 | Γ,i::is=>shrAll (Γ.set i .shr) is
theorem SOk.shrAll {K:PySem.W.Frag}{B H:Hp}{Γ:List Cl}{σ:St}{τ:Tn}{is:List Nat}{ds:List D}{vs:List V}{L:List Addr}(h:SOk K Γ B H σ τ [])(r:Reps K H ds vs L)(hL:∀ a∈L,B a≠none)(hl:ds.length=is.length)(hi:∀ i∈is,i<Γ.length) :
  SOk K (L2.shrAll Γ is) B H (xg σ is vs) (xg τ is ds) []:=by
 induction is generalizing Γ σ τ ds vs L with
 | nil =>
  cases ds with
  | nil=>cases r.1; exact h
  | cons=>cases hl
 | cons i is ih =>
  cases ds with
  | nil=>cases hl
  | cons d ds =>
   obtain ⟨v,vs',La,Lb,e1,e2,r1,r2⟩:=r
   subst e1 e2
   exact ih (h.shrIn r1 (fun a ha=>hL a (tU _ ha)) (hi i tY)) r2 (fun a ha=>hL a (tQ _ ha)) (Nat.succ.inj hl) (fun j hj=>by rw [sS]; exact hi j (sA _ hj))
def ItOk (K:PySem.W.Frag)(J:It)(ds:List D)(L:List Addr)(H:Hp):Prop:=(∀ a∈L,H a≠none)/\∀ H',TF H H'->(∀ a∈L,H' a=H a)->∀ i,
 (∀ d,ds[i]?=some d->J.go i H'/\∀ x H'',J.yld i H' x H''->Same H' H''/\∃ L',Rep K H'' d x L'/\∀ a∈L',a∈L)/\(ds.length<=i->J.stop i H')
def Qe (K:PySem.W.Frag)(E:XK)(O:Addr->Prop)(c:Rc)(H:Hp)(Rr:It->Hp->Prop):R (List D)->Prop
 | .ok ds=>∀ J H' L,Same H H'->ItOk K J ds L H'->(c≠.bor->∀ a∈L,¬ O a)->Rr J H'
 | .err n=>∀ C H',ErrC K n C->Same H H'->E (.ref C) none H'
 | .bad=>False
def MI (X:Cx)(E:XK)(Γ:List Cl)(tg iter:Expr)(t:Tn->R (List D))(c:Rc):Prop :=
 ∃ wi,PI X tg iter wi/\∀ O σ H τ Rr,EOk X.K Γ O H σ τ->Qe X.K E O c H Rr (t τ)->wi σ H Rr
inductive Tgt where
 | one (i:Nat) | many (is:List Nat)
def Tgt.slots:Tgt->List Nat
 | .one i=>[i]
 | .many is=>is
def Tgt.asg:Tgt->D->Tn->R Tn
 | .one i,d,τ=>.ok (τ.set i (some d))
 | .many is,.tup ds,τ=>if ds.length=is.length then .ok (xg τ is ds) else .bad
 | .many _,_,_=>.bad
def MG (X:Cx)(tg:Expr):Tgt->Prop
 | .one i=>PG X tg (kD i)
 | .many is=>∃ g,PG X tg (JS X.K is.length g)/\∀ (vs:List V) (σ:St) (H:Hp) (Q:St->Hp->Prop),vs.length=is.length->Q (xg σ is vs) H->g vs σ H Q
def vJ (asg:D->Tn->R Tn)(body:Tn->R Fl):List D->Tn->R Fl
 | [],τ=>.ok (.nx τ)
 | d::ds,τ=>(asg d τ).bind fun τ1=>(body τ1).bind fun f=>match f with
  | .nx τ2=>vJ asg body ds τ2
  | .ct τ2=>vJ asg body ds τ2
  | .bk τ2=>.ok (.nx τ2)
  | .rt r=>.ok (.rt r)
def xv (it:Tn->R (List D))(tg:Tgt)(body:Tn->R Fl):Tn->R Fl:=fun τ=>(it τ).bind fun ds=>vJ tg.asg body ds τ
section
variable {X:Cx}{E:XK}{Γ Γ1 Γ2 Γ' Γl:List Cl}{pos:Pos}
def tgG (K:PySem.W.Frag)(g:Tgt):TG:=fun v σ H Q=>match g with
 | .one i=>Q (σ.set i (some v)) H
 | .many is=>∃ a vs,v=.ref a/\SqT K H a vs/\vs.length=is.length/\Q (xg σ is vs) H
theorem MG.pg {tg:Expr}{g:Tgt}(h:MG X tg g):PG X tg (tgG X.K g):=by
 cases g with
 | one i=>exact h
 | many is =>
  obtain ⟨G,p,q⟩:=h
  rintro pins s σ H v u Q I r ⟨a,vs,e,hs,hl,z⟩
  exact p pins s σ H v u Q I r ⟨a,vs,e,hs,hl,q vs σ H Q hl z⟩
theorem WC {K:PySem.W.Frag}{B H:Hp}{σ:St}{τ τ1:Tn}{d:D}{v:V}{L:List Addr}{g:Tgt}(h:SOk K Γ B H σ τ [])(r:Rep K H d v L)(hL:∀ a∈L,B a≠none)(hi:∀ i∈g.slots,i<Γ.length)(ha:g.asg d τ=.ok τ1)
  {Q:St->Hp->Prop} (k:∀ σ1,SOk K (L2.shrAll Γ g.slots) B H σ1 τ1 []->Q σ1 H):tgG K g v σ H Q:=by
 cases g with
 | one i=>cases ha; exact k _ (h.shrIn r hL (hi i (by simp [Tgt.slots])))
 | many is =>
  cases d with
  | tup ds =>
   unfold Tgt.asg at ha
   dsimp only at ha
   by_cases hl:ds.length=is.length
   ·rw [if_pos hl] at ha
    cases ha
    obtain ⟨a,vs,rfl,hs,rs⟩:=r
    have hv:vs.length=is.length:=rs.length.trans hl
    exact ⟨a,vs,rfl,hs,hv,k _ (h.shrAll rs hL hl hi)⟩
   ·rw [if_neg hl] at ha; cases ha
  | _=>cases ha
theorem KG {it:Tn->R (List D)}{g:Tgt}{tb:Tn->R Fl}{c:Rc}{wi:TI}{ts:TS}(hcl:c≠.bor)(hn:∀ i∈g.slots,i<Γ.length)(hw:wk Γ2 Γ=true)(q:∀ O σ H τ Rr,EOk X.K Γ O H σ τ->Qe X.K E O c H Rr (it τ)->wi σ H Rr)(q':∀ B σ H τ Z,SOk X.K (shrAll Γ g.slots) B H σ τ []->uE X.K E B Γ Γ2 Z (tb τ)->ts Z σ H)
  (B:Hp) (σ:St) (H:Hp) (τ:Tn) (Z:Ends) (ok:SOk X.K Γ B H σ τ []) (h:uE X.K E B Γl Γ Z (xv it g tb τ)):Kh wi (tgG X.K g) ts Z σ H:=by
 obtain ⟨O,eo,Od,hB⟩:=ok.base
 refine q O σ H τ _ eo ?_
 unfold xv at h
 cases ht:it τ with
 | ok ds =>
  rw [ht,R.ok_bind] at h
  refine fun J H1 L s1 hit hO=>?_
  have hO:=hO hcl
  obtain ⟨hLd,hit⟩:=hit
  obtain ⟨B1,sB,ok1,hB1⟩:=hB H1 s1
  have inL:∀ a∈L,B1 a=H1 a:=fun a ha=>hB1 a (hO a ha)
  have Od1:∀ a,O a->(∃ vs,H1 a=some (.lst vs))\/∃ kvs,H1 a=some (.dK kvs):=fun a o=>by
   rcases Od a o with ⟨vs,e⟩ | ⟨kvs,e⟩
   ·exact .inl ⟨vs,s1 _ _ e⟩
   ·exact .inr ⟨kvs,s1 _ _ e⟩
  have stay:∀ H2,Same B1 H2->TF H1 H2/\∀ a∈L,H2 a=H1 a:=fun H2 s2=>by
   refine ⟨⟨fun a xs e=>?_,fun a o u e=>?_⟩,fun a ha=>?_⟩
   ·refine s2 a _ ((hB1 a fun z=>?_).trans e)
    rcases Od1 a z with ⟨_,w⟩ | ⟨_,w⟩<;>rw [e] at w<;>cases w
   ·refine s2 a _ ((hB1 a fun z=>?_).trans e)
    rcases Od1 a z with ⟨_,w⟩ | ⟨_,w⟩<;>rw [e] at w<;>cases w
   ·rw [s2.at (by rw [inL a ha]; exact hLd a ha),inL a ha]
  refine ⟨fun i m σ2 H2=>m=ds.length-i/\i<=ds.length/\∃ τ2,SOk X.K Γ B1 H2 σ2 τ2 []/\uE X.K E B Γl Γ Z (vJ g.asg tb (ds.drop i) τ2),⟨ds.length,by simp,pD _,τ,ok1,h⟩,?_⟩
  rintro i m σ2 H2 ⟨rfl,hile,τ2,ok2,h2⟩
  obtain ⟨tf,kp⟩:=stay H2 ok2.ext
  obtain ⟨go,stop⟩:=hit H2 tf kp i
  by_cases hlt:i<ds.length
  ·obtain ⟨hgo,hy⟩:=go ds[i] (by simp [hlt])
   rw [rZ hlt] at h2
   refine .inr ⟨hgo,fun σ' H'=>i+1<=ds.length/\∃ τ',SOk X.K Γ B1 H' σ' τ' []/\uE X.K E B Γl Γ Z (vJ g.asg tb (ds.drop (i+1)) τ'),fun σ' H' ⟨z,w⟩=>⟨ds.length-(i+1),by omega,rfl,z,w⟩,fun x H3 y=>?_⟩
   obtain ⟨s3,L',r',sub⟩:=hy x H3 y
   unfold vJ at h2
   cases ha:g.asg ds[i] τ2 with
   | ok τ3 =>
    rw [ha,R.ok_bind] at h2
    refine WC (ok2.same s3) r' (fun a ha=>by rw [inL a (sub a ha)]; exact hLd a (sub a ha)) hn ha fun σ3 ok3=>?_
    refine q' B1 σ3 H3 τ3 _ ok3 ?_
    cases hb:tb τ3 with
    | ok f =>
     rw [hb,R.ok_bind] at h2
     cases f with
     | nx τ4=>exact fun σ' H' ok4=>⟨hlt,τ4,ok4.weak hw,h2⟩
     | ct τ4=>exact fun σ' H' ok4=>⟨hlt,τ4,ok4,h2⟩
     | bk τ4=>exact fun σ' H' ok4=>h2 σ' H' (ok4.rebase sB)
     | rt d=>exact fun v H' L s r n1 n2=>h2 v H' L (sB.trans s) r n1 fun a ha=>sB.non (n2 a ha)
    | err n=>rw [hb] at h2; exact fun C H' e s=>h2 C H' e (sB.trans s)
    | bad=>rw [hb] at h2; exact h2
   | err n =>
    cases g with
    | one i=>cases ha
    | many is =>
     unfold Tgt.asg at ha
     split at ha
     ·cases ha
     ·split at ha<;>cases ha
     ·cases ha
   | bad=>rw [ha] at h2; exact h2.elim
  ·have e:i=ds.length:=by omega
   subst e
   rw [List.drop_length] at h2
   exact .inl ⟨stop (sD _),h2 σ2 H2 (ok2.rebase sB)⟩
 | err n=>rw [ht] at h; exact fun C H' e s=>h C H' e (ok.ext.trans s)
 | bad=>rw [ht] at h; exact h
theorem vL {tg iter:Expr}{body:List Stmt}{it:Tn->R (List D)}{g:Tgt}{tb:Tn->R Fl}{c:Rc}(hp:PassesOwn (model X.prog X.w) X.A X.env X.xe)(hc:X.calm=true)(hi:MI X E Γ tg iter it c)(hcl:c≠.bor)(hg:MG X tg g)
  (hn:∀ i∈g.slots,i<Γ.length) (hb:MSs X E Γ (shrAll Γ g.slots) body tb Γ2) (hw:wk Γ2 Γ=true) (hs:autoParam (∀ x,foldedSetIterable iter X.env x=pure x) L2.au2._auto_1):MS X E Γl Γ (.For tg iter body [] pos) (xv it g tb) Γ:=by
 obtain ⟨wi,p,q⟩:=hi
 obtain ⟨ts,p',q'⟩:=hb
 exact ⟨_,J8 hp hc p hg.pg p' hs,KG hcl hn hw q q'⟩
open Classical in
end
def signs (x:Str):List D:=x.cps.toList.map fun c=>.str ⟨#[c]⟩
def wF:D->R (List D)
 | .lst ds=>.ok ds
 | .tup ds=>.ok ds
 | .str x=>.ok (signs x)
 | _=>.bad
def xb (t:Tn->R D):Tn->R (List D):=fun τ=>(t τ).bind wF
def rng (lo:Int)(n:Nat):List D:=(List.range n).map fun (i:Nat)=>.int (lo+i)
def x8:List D->R (List D)
 | [.int j]=>if -(2 ^ 62)<=j/\j<2 ^ 62 then .ok (rng 0 j.toNat) else .bad
 | _=>.bad
def iL (g:List D->R (List D))(u:Tn->R (List D)):Tn->R (List D):=fun τ=>(u τ).bind g
section
variable {X:Cx}{E:XK}{Γ:List Cl}{tg e:Expr}{t:Tn->R D}{u:Tn->R (List D)}{c:Rc}{p pos:Pos}
theorem ItOk.list {K:PySem.W.Frag}{H:Hp}{a:Addr}{vs:List V}{ds:List D}{L L':List Addr}(ha:H a=some (.lst vs))(e:L=a::L')(r:Reps K H ds vs L'):ItOk K (Itl K a) ds L H:=by
 subst e
 refine ⟨fun b hb=>?_,fun H' tf kp i=>⟨fun d hd=>?_,fun hl=>?_⟩⟩
 ·rcases sG.mp hb with z | z
  ·rw [z,ha]; simp
  ·exact r.there z
 ·have ha':H' a=some (.lst vs):=(kp a tY).trans ha
  obtain ⟨v,L1,e1,r1,sub⟩:=r.get hd
  refine ⟨⟨vs,v,SqL.of ha',e1⟩,fun x H'' ⟨e2,hy⟩=>?_⟩
  subst e2
  have:=hy vs (SqL.of ha')
  rw [e1] at this
  cases this
  exact ⟨Same.refl _,L1,Rep.keep tf d _ L1 r1 fun b hb=>kp b (sA _ (sub.subset hb)),fun b hb=>sA _ (sub.subset hb)⟩
 ·have ha':H' a=some (.lst vs):=(kp a tY).trans ha
  exact ⟨vs,SqL.of ha',by rw [r.length]; exact hl⟩
theorem ItOk.tuple {K:PySem.W.Frag}{H:Hp}{a:Addr}{vs:List V}{ds:List D}{L:List Addr}(ha:SqT K H a vs)(hun:∀ H' xs,TF H H'->SqT K H' a xs->xs=vs)(r:Reps K H ds vs L):ItOk K (Itt K a) ds L H:=by
 refine ⟨fun b hb=>r.there hb,fun H' tf kp i=>⟨fun d hd=>?_,fun hl=>?_⟩⟩
 ·have ha':=ha.tf tf
  obtain ⟨v,L1,e1,r1,sub⟩:=r.get hd
  refine ⟨⟨vs,v,ha',e1⟩,fun x H'' ⟨e2,hy⟩=>?_⟩
  subst e2
  have:=hy vs ha'
  rw [e1] at this
  cases this
  exact ⟨Same.refl _,L1,Rep.keep tf d _ L1 r1 fun b hb=>kp b (sub.subset hb),fun b hb=>sub.subset hb⟩
 ·exact ⟨vs,ha.tf tf,by rw [r.length]; exact hl⟩
theorem ItOk.tup {K:PySem.W.Frag}{H:Hp}{a:Addr}{vs:List V}{ds:List D}{L:List Addr}(ha:SqT K H a vs)(r:Reps K H ds vs L):ItOk K (Itt K a) ds L H:=by
 refine ⟨fun b hb=>r.there hb,fun H' tf kp i=>⟨fun d hd=>?_,fun hl=>?_⟩⟩
 ·have ha':=ha.tf tf
  obtain ⟨v,L1,e1,r1,sub⟩:=r.get hd
  refine ⟨⟨vs,v,ha',e1⟩,fun x H'' ⟨e2,hy⟩=>?_⟩
  subst e2
  have:=hy vs ha'
  rw [e1] at this
  cases this
  exact ⟨Same.refl _,L1,Rep.keep tf d _ L1 r1 fun b hb=>kp b (sub.subset hb),fun b hb=>sub.subset hb⟩
 ·exact ⟨vs,ha.tf tf,by rw [r.length]; exact hl⟩
theorem ItOk.str {K:PySem.W.Frag}{H:Hp}{x:Str}:ItOk K (Its x) (signs x) [] H:=by
 refine ⟨fun b hb=>(nomatch hb),fun H' tf kp i=>⟨fun d hd=>?_,fun hl=>?_⟩⟩
 ·unfold signs at hd
  rw [sT] at hd
  cases hq:x.cps.toList[i]? with
  | none=>rw [hq] at hd; cases hd
  | some k =>
   rw [hq] at hd
   have hd:D.str ⟨#[k]⟩=d:=Option.some.inj hd
   subst hd
   have hi:i<x.cps.size:=by
    have:=(sI.mp hq).1
    simpa using this
   refine ⟨hi,fun y H'' ⟨e2,c',e3,e4⟩=>?_⟩
   subst e2 e4
   rw [<- Array.getElem?_toList,hq] at e3
   cases e3
   exact ⟨Same.refl _,[],⟨rfl,rfl⟩,fun b hb=>(nomatch hb)⟩
 ·have:(signs x).length=x.cps.size:=by simp [signs]
  show x.cps.size<=i
  lia
theorem ItOk.rng {K:PySem.W.Frag}{H:Hp}{lo:Int}{n:Nat}:ItOk K (Itr lo n) (L2.rng lo n) [] H:=by
 refine ⟨fun b hb=>(nomatch hb),fun H' tf kp i=>⟨fun d hd=>?_,fun hl=>?_⟩⟩
 ·unfold L2.rng at hd
  rw [sT] at hd
  by_cases hi:i<n
  ·rw [pE hi] at hd
   have hd:D.int (lo+(i:Int))=d:=Option.some.inj hd
   subst hd
   refine ⟨hi,fun y H'' ⟨e2,e3⟩=>?_⟩
   subst e2 e3
   exact ⟨Same.refl _,[],⟨rfl,rfl⟩,fun b hb=>(nomatch hb)⟩
  ·rw [rN (by simp; lia)] at hd; cases hd
 ·have:(L2.rng lo n).length=n:=by simp [L2.rng]
  show n<=i
  lia
theorem w8 (h:ME X E Γ e t c):MI X E Γ tg e (xb t) c:=by
 obtain ⟨te,p,q⟩:=h
 refine ⟨fun σ H Rr=>Q0 X.K te σ H Rr\/z04 X.K te σ H Rr\/JQ te σ H Rr,fun pins s σ H Rr I z=>?_,fun O σ H τ Rr ok h=>?_⟩
 ·rcases z with z | z | z
  ·exact VC p pins s σ H Rr I z
  ·exact Je p pins s σ H Rr I z
  ·exact Jn p pins s σ H Rr I z
 ·unfold xb at h
  cases ht:t τ with
  | ok d =>
   rw [ht,R.ok_bind] at h
   cases d with
   | lst ds =>
    refine .inl (q O σ H τ _ ok ?_)
    rw [ht]
    refine fun v H1 L s r k=>?_
    obtain ⟨a,vs,L',rfl,ha,e,rs⟩:=r
    exact ⟨a,rfl,⟨vs,SqL.of ha⟩,h _ H1 L s (ItOk.list ha e rs) fun n=>k.shr ok.dom n⟩
   | tup ds =>
    refine .inr (.inl (q O σ H τ _ ok ?_))
    rw [ht]
    refine fun v H1 L s r k=>?_
    obtain ⟨a,vs,rfl,ha,rs⟩:=r
    exact ⟨a,rfl,⟨vs,ha⟩,h _ H1 L s (ItOk.tup ha rs) fun n=>k.shr ok.dom n⟩
   | str x =>
    refine .inr (.inr (q O σ H τ _ ok ?_))
    rw [ht]
    refine fun v H1 L s r k=>?_
    exact ⟨x,r.1,h _ H1 [] s ItOk.str fun n a ha=>(nomatch ha)⟩
   | _=>exact h.elim
  | err n =>
   rw [ht] at h
   refine .inl (q O σ H τ _ ok ?_)
   rw [ht]; exact h
  | bad=>rw [ht] at h; exact h.elim
theorem xW {a:Expr}(hg:Gl X "range")(hm:X.mg "range"=none)(ha:MA X E Γ [a] u c)(hs:autoParam (starEach [a] X.env=[(false,eval a X.env)]) L2.au3._auto_1):MI X E Γ tg (.Call (.Name "range" p) [a] [] pos) (iL x8 u) .fresh:=by
 obtain ⟨_,ta,p',q⟩:=ha
 refine ⟨_,XH hg hm p' hs,fun O σ H τ Rr ok h=>q O σ H τ _ ok ?_⟩
 unfold iL at h
 cases ht:u τ with
 | ok ds =>
  rw [ht,R.ok_bind] at h
  refine fun vs H1 L s r k=>?_
  unfold x8 at h
  split at h
  ·rename_i j
   obtain ⟨v,vs',L1,L2,e1,_,r1,r2⟩:=r
   obtain ⟨rfl,_⟩:=r1
   obtain ⟨rfl,_⟩:=r2
   by_cases hj:-(2 ^ 62)<=j/\j<2 ^ 62
   ·rw [if_pos hj] at h
    exact ⟨j,e1,hj.1,hj.2,h _ H1 [] s ItOk.rng fun n a ha=>(nomatch ha)⟩
   ·rw [if_neg hj] at h; exact h.elim
  ·exact h.elim
 | err n=>rw [ht] at h; exact h
 | bad=>rw [ht] at h; exact h
end
def w6 (fr:List (Option Nat))(τ:Tn):Tn:=fr.map fun o=>o.bind fun i=>(τ[i]?).join
def ym (fr:List (Option Nat))(Γ:List Cl):List Cl:=fr.map fun o=>match o with
 | some i=>(match Γ[i]? with
  | some .shr=>.shr
  | some .own=>.brw
  | some .brw=>.brw
  | _=>.dead)
 | none=>.dead
def yF (k:Cl):List Cl->List Nat->List Cl
 | Γ,[]=>Γ
 | Γ,i::is=>yF k (Γ.set i k) is
def Cl.ofIt:Rc->Cl
 | .bor=>.brw
 | _=>.shr
def xi (f:D->R (Option D)):List D->R (List D)
 | []=>.ok []
 | d::ds=>(f d).bind fun o=>(xi f ds).bind fun ys=>.ok (o.toList++ys)
def Xa {α:Type}:R α->R α
 | .err _=>.bad
 | r=>r
def yZ (asg:D->Tn->R Tn)(cnd:Tn->R Bool)(elt:Tn->R D)(τ:Tn)(d:D):R (Option D) :=
 Xa ((asg d τ).bind fun τ1=>(cnd τ1).bind fun k=>if k=true then (elt τ1).bind fun y=>.ok (some y) else .ok none)
def xF (fr:List (Option Nat))(it:Tn->R (List D))(g:Tgt)(cnd:Tn->R Bool)(elt:Tn->R D):Tn->R D:=fun τ=>(it τ).bind fun xs=>(xi (yZ g.asg cnd elt (w6 fr τ)) xs).bind fun ys=>if ys.length<=sizeLine then .ok (.lst ys) else .bad
def MTs (X:Cx)(E:XK)(Γ:List Cl)(ifs:List Expr)(t:Tn->R Bool):Prop :=
 ∃ te,PTs X ifs te/\∀ O σ H τ Q,EOk X.K Γ O H σ τ->postB X.K E H Q (t τ)->te σ H Q
theorem xN {X:Cx}{E:XK}{Γ:List Cl}:MTs X E Γ [] (fun _=>.ok true):=⟨K9,Ur,fun O σ H τ Q ok h=>h H (Same.refl H)⟩
theorem MTs.pts {X:Cx}{E:XK}{Γ:List Cl}{e:List Expr}{t:Tn->R Bool}(h:MTs X E Γ e t):PTs X e (wpT X.K E Γ t):=by
 obtain ⟨te,p,q⟩:=h
 rintro pins s σ H Q I ⟨O,τ,ok,z⟩
 exact p pins s σ H Q I (q O σ H τ Q ok z)
section
variable {K:PySem.W.Frag}{Γ:List Cl}{O:Addr->Prop}{H:Hp}{σ:St}{τ:Tn}
theorem EOk.comp {fr:List (Option Nat)}(h:EOk K Γ O H σ τ):EOk K (ym fr Γ) O H (xC fr σ) (w6 fr τ):=by
 refine ⟨h.dom,fun j c e hc=>?_⟩
 unfold ym at e
 rw [sT] at e
 cases ho:fr[j]? with
 | none=>rw [ho] at e; cases e
 | some o =>
  rw [ho] at e
  cases o with
  | none=>exact absurd (Option.some.inj e).symm hc
  | some i =>
   have e:(match Γ[i]? with | some .shr=>Cl.shr | some .own=>.brw | some .brw=>.brw | _=>.dead)=c:=Option.some.inj e
   have key:∃ k,Γ[i]?=some k/\k≠.dead/\(c=.shr->k=.shr):=by
    cases hk:Γ[i]? with
    | none=>rw [hk] at e; exact absurd e.symm hc
    | some k =>
     rw [hk] at e
     cases k with
     | own=>subst e; exact ⟨_,rfl,by simp,fun z=>by cases z⟩
     | shr=>exact ⟨_,rfl,by simp,fun _=>rfl⟩
     | brw=>subst e; exact ⟨_,rfl,by simp,fun z=>by cases z⟩
     | dead=>exact absurd e.symm hc
   obtain ⟨k,k1,k2,k3⟩:=key
   obtain ⟨v,d,L,e1,e2,r,hs⟩:=h.slot i k k1 k2
   refine ⟨v,d,L,?_,?_,r,fun z=>hs (k3 z)⟩
   ·unfold xC; rw [sT,ho]; show some ((σ[i]?).join)=_; rw [e1]; rfl
   ·unfold w6; rw [sT,ho]; show some ((τ[i]?).join)=_; rw [e2]; rfl
theorem EOk.put {i:Nat}{k:Cl}{d:D}{v:V}{L:List Addr}(h:EOk K Γ O H σ τ)(r:Rep K H d v L)(hk:k=.shr->∀ a∈L,¬ O a)(h1:σ.length=Γ.length)(h2:τ.length=Γ.length):EOk K (Γ.set i k) O H (σ.set i (some v)) (τ.set i (some d)):=by
 refine ⟨h.dom,fun j c e hc=>?_⟩
 by_cases z:i=j
 ·subst z
  have hi:i<Γ.length:=by
   have:=(sI.mp e).1
   simpa using this
  rw [sN hi] at e
  cases e
  exact ⟨v,d,L,by rw [sN (by lia)],by rw [sN (by lia)],r,hk⟩
 ·rw [sM z] at e
  obtain ⟨v',d',L',a1,a2,a3,a4⟩:=h.slot j c e hc
  exact ⟨v',d',L',by rw [sM z]; exact a1,by rw [sM z]; exact a2,a3,a4⟩
end
theorem EOk.putAll {K:PySem.W.Frag}{O:Addr->Prop}{H:Hp}{k:Cl}{Γ:List Cl}{σ:St}{τ:Tn}{is:List Nat}{ds:List D}{vs:List V}{L:List Addr}(h:EOk K Γ O H σ τ)(r:Reps K H ds vs L)(hL:k=.shr->∀ a∈L,¬ O a)(hl:ds.length=is.length)(h1:σ.length=Γ.length)(h2:τ.length=Γ.length) :
  EOk K (yF k Γ is) O H (xg σ is vs) (xg τ is ds):=by
 induction is generalizing Γ σ τ ds vs L with
 | nil =>
  cases ds with
  | nil=>cases r.1; exact h
  | cons=>cases hl
 | cons i is ih =>
  cases ds with
  | nil=>cases hl
  | cons d ds =>
   obtain ⟨v,vs',L1,L2,e1,e2,r1,r2⟩:=r
   subst e1 e2
   exact ih (h.put r1 (fun z a ha=>hL z a (tU _ ha)) h1 h2) r2 (fun z a ha=>hL z a (tQ _ ha)) (Nat.succ.inj hl) (by rw [sS,sS]; exact h1) (by rw [sS,sS]; exact h2)
theorem jC {α:Type}:∀ (is:List Nat) (σ:List (Option α)) (vs:List α),(xg σ is vs).length=σ.length
 | [],σ,vs=>by unfold xg; rfl
 | i::is,σ,[]=>by unfold xg; rfl
 | i::is,σ,v::vs=>by unfold xg; rw [jC is,sS]
theorem kE {α:Type}{j:Nat}:∀ (is:List Nat) (σ:List (Option α)) (vs:List α),j∉is->(xg σ is vs)[j]?=σ[j]?
 | [],σ,vs,_=>by unfold xg; rfl
 | i::is,σ,[],_=>by unfold xg; rfl
 | i::is,σ,v::vs,h=>by
  unfold xg
  rw [kE is _ vs (fun z=>h (sA _ z)),sM (fun (z:i=j)=>h (z▸tY))]
theorem Wi {K:PySem.W.Frag}{Γ:List Cl}{O:Addr->Prop}{H:Hp}{σ:St}{τ τ1:Tn}{d:D}{v:V}{L:List Addr}{g:Tgt}{k:Cl}(h:EOk K Γ O H σ τ)(r:Rep K H d v L)(hL:k=.shr->∀ a∈L,¬ O a)(h1:σ.length=Γ.length)(h2:τ.length=Γ.length)(ha:g.asg d τ=.ok τ1)
  {Q:St->Hp->Prop} (kk:∀ σ1,EOk K (yF k Γ g.slots) O H σ1 τ1->σ1.length=σ.length->(∀ j,j∉g.slots->σ1[j]?=σ[j]?)->Q σ1 H):tgG K g v σ H Q:=by
 cases g with
 | one i =>
  cases ha
  exact kk _ (h.put r hL h1 h2) (by simp) fun j hj=>sM fun z=>hj (by simp [Tgt.slots,z])
 | many is =>
  cases d with
  | tup ds =>
   unfold Tgt.asg at ha
   dsimp only at ha
   by_cases hl:ds.length=is.length
   ·rw [if_pos hl] at ha
    cases ha
    obtain ⟨a,vs,rfl,hs,rs⟩:=r
    have hv:vs.length=is.length:=rs.length.trans hl
    exact ⟨a,vs,rfl,hs,hv,kk _ (h.putAll rs hL hl h1 h2) (jC _ _ _) fun j hj=>kE is σ vs hj⟩
   ·rw [if_neg hl] at ha; cases ha
  | _=>cases ha
abbrev noX:XK:=fun _ _ _=>False
theorem ZW {α:Type}{r:R α}{a:α}(h:Xa r=.ok a):r=.ok a:=by
 cases r with
 | ok b=>exact h
 | err n=>cases h
 | bad=>cases h
theorem ki {α:Type}{r:R α}{n:Str}(h:Xa r=.err n):False:=by cases r<;>cases h
theorem vU {f:D->R (Option D)}(hf:∀ d n,f d≠.err n):∀ (ds:List D) (n:Str),xi f ds≠.err n
 | [],n,h=>by cases h
 | d::ds,n,h=>by
  unfold xi at h
  cases h1:f d with
  | ok o =>
   rw [h1,R.ok_bind] at h
   cases h2:xi f ds with
   | ok ys=>rw [h2] at h; cases h
   | err m=>exact vU hf ds m h2
   | bad=>rw [h2] at h; cases h
  | err m=>exact hf d m h1
  | bad=>rw [h1] at h; cases h
theorem wM {α β:Type}{r:R α}{f:α->R β}{b:β}(h:r.bind f=.ok b):∃ a,r=.ok a/\f a=.ok b:=by
 cases r with
 | ok a=>exact ⟨a,rfl,h⟩
 | err n=>cases h
 | bad=>cases h
theorem je {f:D->R (Option D)}{d:D}{ds ys:List D}(h:xi f (d::ds)=.ok ys):∃ o zs,f d=.ok o/\xi f ds=.ok zs/\ys=o.toList++zs:=by
 unfold xi at h
 obtain ⟨o,h1,h⟩:=wM h
 obtain ⟨zs,h2,h⟩:=wM h
 cases h
 exact ⟨o,zs,h1,h2,rfl⟩
theorem EOk.live {K:PySem.W.Frag}{Γ:List Cl}{O:Addr->Prop}{H:Hp}{σ σ':St}{τ:Tn}(h:EOk K Γ O H σ τ)(e:∀ (j:Nat) (c:Cl),Γ[j]?=some c->c≠Cl.dead->σ'[j]?=σ[j]?):EOk K Γ O H σ' τ :=
 ⟨h.dom,fun i c e1 hc=>by
  obtain ⟨v,d,L,a1,a2,a3,a4⟩:=h.slot i c e1 hc
  exact ⟨v,d,L,by rw [e i c e1 hc]; exact a1,a2,a3,a4⟩⟩
section
variable {X:Cx}{E:XK}{Γ:List Cl}{pos:Pos}
theorem V0 {fr:List (Option Nat)}{tg iter:Expr}{it:Tn->R (List D)}{g:Tgt}{cnd:Tn->R Bool}{te:Tn->R D}{ci c:Rc}(hi:MI X E Γ tg iter it ci)(hcl:c≠.bor)(hd:∀ j∈g.slots,(ym fr Γ)[j]?=some .dead) :
  ∃ wi,PI X tg iter wi/\∀ O σ H τ Q,EOk X.K Γ O H σ τ->post X.K E O c H Q (xF fr it g cnd te τ)->X4 fr wi (tgG X.K g) (wpT X.K noX (yF (Cl.ofIt ci) (ym fr Γ) g.slots) cnd) (wpE X.K noX (yF (Cl.ofIt ci) (ym fr Γ) g.slots) te c) σ H Q:=by
 have hT0:∀ σ H Q,(∃ O τ,EOk X.K (yF (Cl.ofIt ci) (ym fr Γ) g.slots) O H σ τ/\postB X.K noX H Q (cnd τ))->wpT X.K noX (yF (Cl.ofIt ci) (ym fr Γ) g.slots) cnd σ H Q:=fun _ _ _ h=>h
 have hE0:∀ σ H Q,(∃ O τ,EOk X.K (yF (Cl.ofIt ci) (ym fr Γ) g.slots) O H σ τ/\post X.K noX O c H Q (te τ))->wpE X.K noX (yF (Cl.ofIt ci) (ym fr Γ) g.slots) te c σ H Q:=fun _ _ _ h=>h
 generalize wpT X.K noX (yF (Cl.ofIt ci) (ym fr Γ) g.slots) cnd=TC at hT0 ⊢
 generalize wpE X.K noX (yF (Cl.ofIt ci) (ym fr Γ) g.slots) te c=TE0 at hE0 ⊢
 obtain ⟨wi,p,q⟩:=hi
 refine ⟨wi,p,fun O σ H τ Q ok h=>q O σ H τ _ ok ?_⟩
 unfold xF at h
 cases hit':it τ with
 | err n=>rw [hit'] at h; exact h
 | bad=>rw [hit'] at h; exact h
 | ok ds =>
  rw [hit',R.ok_bind] at h
  refine fun J H1 L s1 hJ hO dd hD=>?_
  obtain ⟨hLd,hit⟩:=hJ
  generalize hF:yZ g.asg cnd te (w6 fr τ)=F at h
  cases hcL:xi F ds with
  | err n=>exact absurd hcL (vU (fun d n z=>by rw [<- hF] at z; exact ki z) ds n)
  | bad=>rw [hcL] at h; exact h.elim
  | ok ys =>
   rw [hcL,R.ok_bind] at h
   by_cases hz:ys.length<=sizeLine
   ·rw [if_pos hz] at h
    have hD0:H dd=none:=s1.non hD
    have Zz:(xC fr σ).length=(ym fr Γ).length:=by simp [xC,ym]
    have lenT:(w6 fr τ).length=(ym fr Γ).length:=by simp [w6,ym]
    obtain ⟨W,hW⟩:∃ W:Nat->Nat->List V->St->Hp->Prop,∀ i m ysv τ' H2,W i m ysv τ' H2↔(m=ds.length-i/\i<=ds.length/\H2 dd=some (.lst ysv)/\(∀ b,b≠dd->H1 b≠none->H2 b=H1 b)/\τ'.length=(ym fr Γ).length/\(∀ j,j∉g.slots->τ'[j]?=(xC fr σ)[j]?) /\
     ∃ dn rs Ly,ys=dn++rs/\xi F (ds.drop i)=.ok rs/\Reps X.K H2 dn ysv Ly/\dd∉Ly/\RcOk c O H1 Ly):=⟨_,fun _ _ _ _ _=>Iff.rfl⟩
    refine ⟨W,⟨ds.length,(hW _ _ _ _ _).mpr ⟨by simp,pD _,yb,fun b hb _=>yq hb,Zz,fun _ _=>rfl,[],ys,[],rfl,by simpa using hcL,Reps.nil,by simp,RcOk.nil⟩⟩,?_⟩
    intro i m ysv τ' H2 hw0
    obtain ⟨rfl,hile,hDy,kp,hl',hj',dn,rs,Ly,eys,hrs,rdn,nD,kLy⟩:=(hW _ _ _ _ _).mp hw0
    refine ⟨hDy,?_⟩
    have sH:Same H H2:=fun b o e=>by
     have e1:=s1 b o e
     have nb:b≠dd:=yC e hD0
     rw [kp b nb (by rw [e1]; simp)]; exact e1
    have s12:∀ b o,H1 b=some o->H2 b=some o:=fun b o e=>by
     rw [kp b (yC e hD) (by rw [e]; simp)]; exact e
    have okO:EOk X.K Γ (fun a=>O a\/a=dd) H2 σ τ:=by
     refine ⟨fun a ha=>?_,fun j k e hk=>?_⟩
     ·rcases ha with ha | ha
      ·exact (ok.same sH).dom a ha
      ·rw [ha,hDy]; simp
     ·obtain ⟨v,d,L0,a1,a2,a3,a4⟩:=ok.slot j k e hk
      refine ⟨v,d,L0,a1,a2,a3.same sH,fun z a ha hm=>?_⟩
      rcases hm with hm | hm
      ·exact a4 z a ha hm
      ·exact a3.there ha (hm▸hD0)
    have okc:EOk X.K (ym fr Γ) (fun a=>O a\/a=dd) H2 τ' (w6 fr τ):=(okO.comp (fr:=fr)).live fun j k e hk=>hj' j fun hm=>by
     rw [hd j hm] at e; exact hk (Option.some.inj e).symm
    obtain ⟨go,stop⟩:=hit H2 ⟨fun a xs e=>s12 a _ e,fun a o u e=>s12 a _ e⟩ (fun a ha=>kp a (fun z=>hLd a ha (z▸hD)) (hLd a ha)) i
    by_cases hlt:i<ds.length
    ·obtain ⟨hgo,hy⟩:=go ds[i] (by simp [hlt])
     refine .inr ⟨hgo,fun x H3 y=>?_⟩
     obtain ⟨s3,L',r',sub⟩:=hy x H3 y
     rw [rZ hlt] at hrs
     obtain ⟨o,zs,ho,hzs,ers⟩:=je hrs
     rw [<- hF] at ho
     have ho:=ZW ho
     obtain ⟨τ1,ha,ho⟩:=wM ho
     obtain ⟨k,hk,ho⟩:=wM ho
     refine Wi (k:=Cl.ofIt ci) (okc.same s3) r' (fun z a ha hm=>?_) hl' lenT ha fun σ1 ok1 hl1 hj1=>?_
     ·have hci:ci≠.bor:=fun w=>by subst w; cases z
      rcases hm with hm | hm
      ·exact hO hci a (sub a ha) hm
      ·exact hLd a (sub a ha) (hm▸hD)
     ·refine hT0 _ _ _ ⟨_,τ1,ok1,?_⟩
      rw [hk]
      refine fun H5 s5=>?_
      have s25:=s3.trans s5
      cases k with
      | true =>
       rw [if_pos rfl] at ho
       dsimp only
       rw [if_pos rfl]
       obtain ⟨yd,hyd,ho⟩:=wM ho
       cases ho
       refine hE0 _ _ _ ⟨_,τ1,ok1.same s5,?_⟩
       rw [hyd]
       refine fun yv H6 Lw s6 r6 k6=>?_
       have s26:=s25.trans s6
       have hD6:H6 dd=some (.lst ysv):=s26 dd _ hDy
       have hlen:ysv.length=dn.length:=rdn.length
       have nDw:dd∉Lw:=fun hm=>by
        cases c with
        | fresh=>have:=k6.2 dd hm; rw [s25 dd _ hDy] at this; cases this
        | shr=>exact k6 dd hm (.inr rfl)
        | bor=>exact hcl rfl
       have mu:(∃ vs,H6 dd=some (.lst vs))\/∃ kvs,H6 dd=some (.dK kvs):=.inl ⟨_,hD6⟩
       refine ⟨hD6,?_,ds.length-(i+1),by lia,(hW _ _ _ _ _).mpr ⟨rfl,hlt,yb,fun b hb hn=>?_,by rw [hl1]; exact hl',fun j hj=>(hj1 j hj).trans (hj' j hj),dn++[yd],zs,Ly++Lw,?_,hzs,?_,?_,?_⟩⟩
       ·rw [eys,ers,tZ,tZ] at hz
        simp only [Option.toList,rS] at hz
        lia
       ·rw [yq hb,<- kp b hb hn]
        exact s26.at (by rw [kp b hb hn]; exact hn)
       ·rw [eys,ers,rF]; rfl
       ·have:=Reps.append ((rdn.same s26).upd (o:=.lst (ysv++[yv])) mu nD) (Reps.cons (r6.upd (o:=.lst (ysv++[yv])) mu nDw) Reps.nil)
        rw [sJ] at this
        exact this
       ·intro hm
        rcases sC.mp hm with z | z
        ·exact nD z
        ·exact nDw z
       ·cases c with
        | fresh =>
         refine ⟨sR.mpr ⟨kLy.1,k6.1,fun a ha b hb z=>?_⟩,fun a ha=>?_⟩
         ·subst z
          have h2:=rdn.there ha
          have h5:=k6.2 a hb
          exact h2 (s25.non h5)
         ·rcases sC.mp ha with z | z
          ·exact kLy.2 a z
          ·have h5:=k6.2 a z
           have h2:H2 a=none:=s25.non h5
           cases e1:H1 a with
           | none=>rfl
           | some o=>rw [s12 a o e1] at h2; cases h2
        | shr =>
         intro a ha
         rcases sC.mp ha with z | z
         ·exact kLy a z
         ·exact fun w=>k6 a z (.inl w)
        | bor=>exact absurd rfl hcl
      | false =>
       rw [if_neg sE] at ho
       dsimp only
       rw [if_neg sE]
       cases ho
       refine ⟨ds.length-(i+1),by lia,(hW _ _ _ _ _).mpr ⟨rfl,hlt,s25 dd _ hDy,fun b hb hn=>?_,by rw [hl1]; exact hl',fun j hj=>(hj1 j hj).trans (hj' j hj),dn,zs,Ly,?_,hzs,rdn.same s25,nD,kLy⟩⟩
       ·rw [<- kp b hb hn]
        exact s25.at (by rw [kp b hb hn]; exact hn)
       ·rw [eys,ers]; rfl
    ·have e:i=ds.length:=by lia
     subst e
     rw [List.drop_length] at hrs
     cases hrs
     rw [sJ] at eys
     subst eys
     refine .inl ⟨stop (sD _),h (.ref dd) H2 (dd::Ly) sH ⟨dd,ysv,Ly,rfl,hDy,rfl,rdn⟩ ?_⟩
     cases c with
     | fresh =>
      refine ⟨sX.mpr ⟨nD,kLy.1⟩,fun a ha=>?_⟩
      rcases sG.mp ha with z | z
      ·rw [z]; exact hD0
      ·exact s1.non (kLy.2 a z)
     | shr =>
      intro a ha
      rcases sG.mp ha with z | z
      ·rw [z]; exact fun w=>ok.dom dd w hD0
      ·exact kLy a z
     | bor=>exact absurd rfl hcl
   ·rw [if_neg hz] at h; exact h.elim
theorem u7 {N':List Str}{fr:List (Option Nat)}{scope:Scope}{tg iter elt:Expr}{ifs:List Expr}{it:Tn->R (List D)}{g:Tgt}{cnd:Tn->R Bool}{te:Tn->R D}{ci c:Rc}(hc:X.calm=true)(S:CompScope X N' fr scope)(hi:MI X E Γ tg iter it ci)
  (hg:∀ s₃ H₃ fp pins,MG (yE X scope N' s₃ H₃ fp pins) tg g) (ht:∀ s₃ H₃ fp pins,MTs (yE X scope N' s₃ H₃ fp pins) noX (yF (Cl.ofIt ci) (ym fr Γ) g.slots) ifs cnd)
  (he:∀ s₃ H₃ fp pins,ME (yE X scope N' s₃ H₃ fp pins) noX (yF (Cl.ofIt ci) (ym fr Γ) g.slots) elt te c) (hcl:c≠.bor) (hd:∀ j∈g.slots,(ym fr Γ)[j]?=some .dead)
  (hs:autoParam (∀ x,foldedSetIterable iter X.env x=pure x) L2.au2._auto_1):ME X E Γ (.ListComp elt [⟨tg,iter,ifs,0⟩] scope pos) (xF fr it g cnd te) c:=by
 obtain ⟨wi,p,q⟩:=V0 (cnd:=cnd) (te:=te) hi hcl hd
 exact ⟨_,X3 hc S p (fun s₃ H₃ fp pins=>(hg s₃ H₃ fp pins).pg) (fun s₃ H₃ fp pins=>(ht s₃ H₃ fp pins).pts) (fun s₃ H₃ fp pins=>(he s₃ H₃ fp pins).pe) hs,q⟩
end
def spM (K:PySem.W.Frag)(F:List D->R D)(n:Nat):Sp:=fun vs H Q E=>vs.length=n/\∃ ds L,Reps K H ds vs L/\post K E (fun _=>False) .fresh H Q (F ds)
def zy (n:Nat)(t:Tn->R Fl)(ds:List D):R D:=match t (ds.map some++List.replicate (n-ds.length) none) with
 | .ok (.rt d)=>.ok d
 | .ok (.nx _)=>.ok .non
 | .err c=>.err c
 | _=>.bad
def qP (n m:Nat):List Cl:=List.replicate m .shr++List.replicate (n-m) .dead
theorem Reps.slot {K:PySem.W.Frag}{H:Hp}{ds:List D}{vs:List V}{L:List Addr}(r:Reps K H ds vs L):∃ Ls:Nat->List Addr,∀ (i:Nat) (d:D),ds[i]?=some d->∃ v,vs[i]?=some v/\Rep K H d v (Ls i):=by
 have:∀ i:Nat,∃ L1:List Addr,∀ d,ds[i]?=some d->∃ v,vs[i]?=some v/\Rep K H d v L1:=fun i=>by
  cases h:ds[i]? with
  | none=>exact ⟨[],fun d z=>by cases z⟩
  | some d =>
   obtain ⟨v,L1,e1,r1,_⟩:=r.get h
   exact ⟨L1,fun d' z=>by cases z; exact ⟨v,e1,r1⟩⟩
 exact ⟨fun i=>Classical.choose (this i),fun i=>Classical.choose_spec (this i)⟩
theorem SOk.start {K:PySem.W.Frag}{H:Hp}{N:List Str}{ds:List D}{vs:List V}{L:List Addr}(r:Reps K H ds vs L)(hn:vs.length<=N.length):SOk K (qP N.length vs.length) H H (L2.start N vs) (ds.map some++List.replicate (N.length-ds.length) none) []:=by
 have hl:=r.length
 have lp:(qP N.length vs.length).length=N.length:=by unfold qP; rw [tZ,sY,sY]; lia
 obtain ⟨Ls,hL⟩:=r.slot
 have cls:∀ i c,(qP N.length vs.length)[i]?=some c->c≠.dead->i<vs.length/\c=.shr:=fun i c e hc=>by
  unfold qP at e
  by_cases hi:i<vs.length
  ·rw [rG (by simpa using hi),rK,if_pos hi] at e
   exact ⟨hi,(Option.some.inj e).symm⟩
  ·rw [rM (by simp; lia),rK] at e
   split at e
   ·exact absurd (Option.some.inj e).symm hc
   ·cases e
 have no:∀ i:Nat,(qP N.length vs.length)[i]?≠some Cl.own:=fun i e=>by
  have:=(cls i _ e (by simp)).2
  cases this
 refine ⟨Same.refl H,?_,?_,Ls,fun i c e hc=>?_,fun i e=>absurd e (no i),fun i j c _ e=>absurd e (no i),rY,fun a ha=>(nomatch ha),fun i c e hc a ha hm=>(nomatch hm)⟩
 ·unfold L2.start; rw [lp,tZ,sO,sY]; lia
 ·rw [lp,tZ,sO,sY]; lia
 ·obtain ⟨hi,_⟩:=cls i c e hc
  have hi':i<ds.length:=by lia
  obtain ⟨v,e1,r1⟩:=hL i ds[i] (by simp [hi'])
  refine ⟨v,ds[i],?_,?_,r1⟩
  ·unfold L2.start
   rw [rG (by simpa using hi),sT,e1]; rfl
  ·rw [rG (by simpa using hi'),sT]; simp [hi']
section
variable {P:Program}{w:World}{K:PySem.W.Frag}{mg:Str->Option Value}{base:Heap}{x:Str}{st:Stmt}{N ps:List Str}{k:Nat}{t:Tn->R Fl}{Γ':List Cl}
theorem DefIn.mir (Df:DefIn K mg x st ps)(S:FnScope N ps (defScope st))(hn:ps.length<=N.length)
  (hbody:∀ (f:Addr) (cdv:Value) (A:Around) (outer:List Env) (s:Shared) (H:Hp) (E:XK),Room k (A.deeper (envOfC x (defScope st) s.heap.objs.size f cdv)) ->
   MSs (xl (cxx P w) P w K mg base N x (defScope st) f cdv A outer s H E) E [] (qP N.length ps.length) (defBody st) t Γ'):Own P w K mg base x (k+1) ps (spM K (zy N.length t) ps.length):=by
 refine Df.own S (fun vs H Q E h=>h.1) fun f cdv A outer s H vs Q E hr h=>?_
 obtain ⟨hl,ds,L,r,h⟩:=h
 obtain ⟨ts,p,q⟩:=hbody f cdv A outer s H E hr
 refine ⟨ts,p,q H (start N vs) H _ _ (hl▸SOk.start r (by lia)) ?_⟩
 unfold zy at h
 cases ht:t (ds.map some++List.replicate (N.length-ds.length) none) with
 | ok f =>
  rw [ht] at h
  cases f with
  | nx τ'=>exact fun σ' H' ok'=>h .non H' [] ok'.ext ⟨rfl,rfl⟩ RcOk.nil
  | rt d=>exact fun v H' L s r n1 n2=>h v H' L s r ⟨n1,n2⟩
  | bk τ'=>exact h.elim
  | ct τ'=>exact h.elim
 | err n=>rw [ht] at h; exact fun C H' e s=>h C H' e s
 | bad=>rw [ht] at h; exact h.elim
end
section
variable {X:Cx}{E:XK}{Γ Γ' Γl:List Cl}{x:Str}{k:Nat}{ps:List Str}{F:List D->R D}{e:Expr}{es:List Expr}{u:Tn->R (List D)}{c:Rc}{p pos:Pos}{n:Nat}
theorem zv (O:Own X.prog X.w X.K X.mg X.base x k ps (spM X.K F n))(hr:Room k X.A)(hg:Gl X x)(hx:wU (cxx X.prog X.w) X E)(ha:MA X E Γ (e::es) u c)(hl:autoParam ((e::es).length=n) L2.au3._auto_1)(hdb:autoParam ((x==("__debug__":Str))=false) L2.au1._auto_1)
  (he:autoParam (starEach (e::es) X.env=(false,eval e X.env)::starEach es X.env) L2.au3._auto_1) (hpl:autoParam ((backTo pos (starEach es X.env)).any (·.1)=false) L2.au3._auto_1):ME X E Γ (.Call (.Name x p) (e::es) [] pos) (eL F u) .fresh:=by
 obtain ⟨hlen,ta,pa,q⟩:=ha
 refine ⟨_,Vt O hr hg hx pa hdb he hpl,fun O' σ H τ Q ok h=>q O' σ H τ _ ok ?_⟩
 unfold eL at h
 cases hu:u τ with
 | ok ds =>
  rw [hu,R.ok_bind] at h
  refine fun vs H1 L s1 r1 _=>?_
  have hv:(vs++[]).length=n:=by rw [sJ,r1.length,hlen τ ds hu]; exact hl
  refine ⟨hv,ds,L,by rw [sJ]; exact r1,?_⟩
  have h1:=h.same s1
  cases hF:F ds with
  | ok d=>rw [hF] at h1; exact h1
  | err n=>rw [hF] at h1; exact h1
  | bad=>rw [hF] at h1; exact h1
 | err n=>rw [hu] at h; exact h
 | bad=>rw [hu] at h; exact h
end
def D.isS:D->Bool
 | .non=>true
 | .bl _=>true
 | .int _=>true
 | .str _=>true
 | _=>false
def eqS:D->D->Bool
 | .non,.non=>true
 | .bl a,.bl b=>a==b
 | .bl a,.int b=>(if a then 1 else 0)==b
 | .int a,.bl b=>a==(if b then 1 else 0)
 | .int a,.int b=>a==b
 | .str a,.str b=>a==b
 | _,_=>false
def yH (f:D->D->Option Bool):List D->List D->Option Bool
 | x::xs,y::ys=>match f x y,yH f xs ys with
  | some a,some b=>some (a&&b)
  | _,_=>none
 | _,_=>some true
theorem qd {b:Bool}(h:(none:Option Bool)=some b):False:=by cases h
def eqF:Nat->D->D->Option Bool
 | 0,x,y=>if (x.isS&&y.isS)=true then some (eqS x y) else none
 | n+1,x,y=>match x,y with
  | .lst xs,.lst ys=>if xs.length=ys.length then yH (eqF n) xs ys else some false
  | .tup xs,.tup ys=>(yH (eqF n) xs ys).map fun b=>b&&xs.length==ys.length
  | .frl xs,.lst ys=>if xs.length=ys.length then yH (eqF n) xs ys else some false
  | .frl xs,.frl ys=>if xs.length=ys.length then yH (eqF n) xs ys else some false
  | .lst _,.tup _=>some false
  | .tup _,.lst _=>some false
  | .lst _,y=>if y.isS=true then some false else none
  | .tup _,y=>if y.isS=true then some false else none
  | x,.lst _=>if x.isS=true then some false else none
  | x,.tup _=>if x.isS=true then some false else none
  | x,y=>if (x.isS&&y.isS)=true then some (eqS x y) else none
theorem Xd {K:PySem.W.Frag}{H:Hp}{d:D}{v:V}{L:List Addr}{u:Value}(h:d.isS=true)(r:Rep K H d v L)(q:RelV v u) :
  (d=.non/\u=.none)\/(∃ b,d=.bl b/\u=.bool b)\/(∃ i t,d=.int i/\u=.int i t)\/∃ x t,d=.str x/\u=.str x t:=by
 cases d with
 | non=>obtain ⟨rfl,_⟩:=r; exact .inl ⟨rfl,q⟩
 | bl b=>obtain ⟨rfl,_⟩:=r; exact .inr (.inl ⟨b,rfl,q⟩)
 | int i=>obtain ⟨rfl,_⟩:=r; obtain ⟨t,e⟩:=q; exact .inr (.inr (.inl ⟨i,t,rfl,e⟩))
 | str x=>obtain ⟨rfl,_⟩:=r; obtain ⟨t,e⟩:=q; exact .inr (.inr (.inr ⟨x,t,rfl,e⟩))
 | _=>cases h
open SeqAt in
theorem kJ {A:Around}{s:Shared}{K:PySem.W.Frag}{H:Hp}{d1 d2:D}{v1 v2:V}{L1 L2:List Addr}{u1 u2:Value}(h1:d1.isS=true)(h2:d2.isS=true)(r1:Rep K H d1 v1 L1)(r2:Rep K H d2 v2 L2)(q1:RelV v1 u1)(q2:RelV v2 u2) :
  RcAt A s u1 u2 (eqS d1 d2)/\EqAt A s u1 u2 (eqS d1 d2)/\RcNeAt A s u1 u2 (!eqS d1 d2):=by
 rcases Xd h1 r1 q1 with ⟨rfl,rfl⟩ | ⟨a,rfl,rfl⟩ | ⟨a,t,rfl,rfl⟩ | ⟨a,t,rfl,rfl⟩ <;>
 rcases Xd h2 r2 q2 with ⟨rfl,rfl⟩ | ⟨b,rfl,rfl⟩ | ⟨b,t',rfl,rfl⟩ | ⟨b,t',rfl,rfl⟩
 ·exact ⟨RcAt.none_none,EqAt.same _,RcNeAt.none_none⟩
 ·exact ⟨RcAt.none_bool b,EqAt.none_bool b,RcNeAt.none_bool b⟩
 ·exact ⟨RcAt.none_int b _,EqAt.none_int b _,RcNeAt.none_int b _⟩
 ·exact ⟨RcAt.none_str b _,EqAt.none_str b _,RcNeAt.none_str b _⟩
 ·exact ⟨RcAt.bool_none a,EqAt.bool_none a,RcNeAt.bool_none a⟩
 ·exact ⟨RcAt.bool_bool a b,EqAt.bool_bool a b,RcNeAt.bool_bool a b⟩
 ·exact ⟨RcAt.bool_int a b _,EqAt.bool_int a b _,RcNeAt.bool_int a b _⟩
 ·exact ⟨RcAt.bool_str a b _,EqAt.bool_str a b _,RcNeAt.bool_str a b _⟩
 ·exact ⟨RcAt.int_none a _,EqAt.int_none a _,RcNeAt.int_none a _⟩
 ·exact ⟨RcAt.int_bool a _ b,EqAt.int_bool a _ b,RcNeAt.int_bool a _ b⟩
 ·exact ⟨RcAt.int_int a _ b _,EqAt.int_int a _ b _,RcNeAt.int_int a _ b _⟩
 ·exact ⟨RcAt.int_str a _ b _,EqAt.int_str a _ b _,RcNeAt.int_str a _ b _⟩
 ·exact ⟨RcAt.str_none a _,EqAt.str_none a _,RcNeAt.str_none a _⟩
 ·exact ⟨RcAt.str_bool a _ b,EqAt.str_bool a _ b,RcNeAt.str_bool a _ b⟩
 ·exact ⟨RcAt.str_int a _ b _,EqAt.str_int a _ b _,RcNeAt.str_int a _ b _⟩
 ·exact ⟨RcAt.str_str a _ b _,EqAt.str_str a _ b _,RcNeAt.str_str a _ b _⟩
open SeqAt in
theorem Zt {A:Around}{s:Shared}{K:PySem.W.Frag}{H:Hp}{d:D}{v:V}{L:List Addr}{u:Value}{l:Addr}{items:Array Value}(hd:d.isS=true)(r:Rep K H d v L)(q:RelV v u)(hl:s.heap.IsList l items)(hu:A.units<cLine) :
  (RcAt A s (.ref l) u false/\EqAt A s (.ref l) u false/\RcNeAt A s (.ref l) u true)/\RcAt A s u (.ref l) false/\EqAt A s u (.ref l) false/\RcNeAt A s u (.ref l) true:=by
 rcases Xd hd r q with ⟨rfl,rfl⟩ | ⟨b,rfl,rfl⟩ | ⟨b,t',rfl,rfl⟩ | ⟨b,t',rfl,rfl⟩
 ·exact ⟨⟨RcAt.list_none hl hu,EqAt.list_none hl hu,RcNeAt.list_none hl hu⟩,RcAt.none_list hl hu,EqAt.none_list hl hu,RcNeAt.none_list hl hu⟩
 ·exact ⟨⟨RcAt.list_bool b hl hu,EqAt.list_bool b hl hu,RcNeAt.list_bool b hl hu⟩,RcAt.bool_list b hl hu,EqAt.bool_list b hl hu,RcNeAt.bool_list b hl hu⟩
 ·exact ⟨⟨RcAt.list_int b _ hl hu,EqAt.list_int b _ hl hu,RcNeAt.list_int b _ hl hu⟩,RcAt.int_list b _ hl hu,EqAt.int_list b _ hl hu,RcNeAt.int_list b _ hl hu⟩
 ·exact ⟨⟨RcAt.list_str b _ hl hu,EqAt.list_str b _ hl hu,RcNeAt.list_str b _ hl hu⟩,RcAt.str_list b _ hl hu,EqAt.str_list b _ hl hu,RcNeAt.str_list b _ hl hu⟩
open SeqAt in
theorem Y1 {A:Around}{s:Shared}{K:PySem.W.Frag}{H:Hp}{d:D}{v:V}{L:List Addr}{u:Value}{l:Addr}{items:Array Value}(hd:d.isS=true)(r:Rep K H d v L)(q:RelV v u)(hl:s.heap.IsTuple l items)(hu:A.units<cLine) :
  (RcAt A s (.ref l) u false/\EqAt A s (.ref l) u false/\RcNeAt A s (.ref l) u true)/\RcAt A s u (.ref l) false/\EqAt A s u (.ref l) false/\RcNeAt A s u (.ref l) true:=by
 rcases Xd hd r q with ⟨rfl,rfl⟩ | ⟨b,rfl,rfl⟩ | ⟨b,t',rfl,rfl⟩ | ⟨b,t',rfl,rfl⟩
 ·exact ⟨⟨RcAt.tuple_none hl hu,EqAt.tuple_none hl hu,RcNeAt.tuple_none hl hu⟩,RcAt.none_tuple hl hu,EqAt.none_tuple hl hu,RcNeAt.none_tuple hl hu⟩
 ·exact ⟨⟨RcAt.tuple_bool b hl hu,EqAt.tuple_bool b hl hu,RcNeAt.tuple_bool b hl hu⟩,RcAt.bool_tuple b hl hu,EqAt.bool_tuple b hl hu,RcNeAt.bool_tuple b hl hu⟩
 ·exact ⟨⟨RcAt.tuple_int b _ hl hu,EqAt.tuple_int b _ hl hu,RcNeAt.tuple_int b _ hl hu⟩,RcAt.int_tuple b _ hl hu,EqAt.int_tuple b _ hl hu,RcNeAt.int_tuple b _ hl hu⟩
 ·exact ⟨⟨RcAt.tuple_str b _ hl hu,EqAt.tuple_str b _ hl hu,RcNeAt.tuple_str b _ hl hu⟩,RcAt.str_tuple b _ hl hu,EqAt.str_tuple b _ hl hu,RcNeAt.str_tuple b _ hl hu⟩
def vO (f:D->D->Option Bool)(xs ys:List D)(j:Nat):Bool:=match xs[j]?,ys[j]? with
 | some x,some y=>(f x y).getD false
 | _,_=>true
theorem uZ {f:D->D->Option Bool}:∀ {xs ys:List D} {b:Bool},yH f xs ys=some b->b=(List.range (min xs.length ys.length)).all (vO f xs ys)/\∀ j x y,xs[j]?=some x->ys[j]?=some y->f x y=some (vO f xs ys j)
 | [],ys,b,h=>by
  unfold yH at h
  cases h
  exact ⟨by simp,fun j x y e=>by simp at e⟩
 | x::xs,[],b,h=>by
  unfold yH at h
  cases h
  exact ⟨by simp,fun j x y e e'=>by simp at e'⟩
 | x::xs,y::ys,b,h=>by
  unfold yH at h
  cases h1:f x y with
  | none=>rw [h1] at h; cases h
  | some a =>
   cases h2:yH f xs ys with
   | none=>rw [h1,h2] at h; cases h
   | some b' =>
    rw [h1,h2] at h
    cases h
    obtain ⟨e1,e2⟩:=uZ h2
    have z0:vO f (x::xs) (y::ys) 0=a:=by simp [vO,h1]
    have zs:∀ j,vO f (x::xs) (y::ys) (j+1)=vO f xs ys j:=fun j=>by simp [vO]
    refine ⟨?_,fun j x' y' ex ey=>?_⟩
    ·have hm:min (x::xs).length (y::ys).length=min xs.length ys.length+1:=by simp [Nat.succ_min_succ]
     rw [hm,List.range_succ_eq_map,pH,List.all_map,z0,e1]
     congr 1
    ·cases j with
     | zero=>simp at ex ey; subst ex ey; rw [z0]; exact h1
     | succ j=>rw [zs]; exact e2 j x' y' (by simpa using ex) (by simpa using ey)
section
variable {X:Cx}{pins:List (Addr×Obj)}{σ:St}{H:Hp}{s:Shared}
def D.ofV:V->D
 | .bl b=>.bl b
 | .int i=>.int i
 | .str x=>.str x
 | _=>.non
theorem Rep.ofV {K:PySem.W.Frag}{H:Hp}{d:D}{v:V}{L:List Addr}(h:∀ a,v≠.ref a)(r:Rep K H d v L):d=D.ofV v:=by
 cases d with
 | non=>rw [r.1]; rfl
 | bl=>rw [r.1]; rfl
 | int=>rw [r.1]; rfl
 | str=>rw [r.1]; rfl
 | tup=>obtain ⟨a,_,e,_⟩:=r; exact absurd e (h a)
 | lst=>obtain ⟨a,_,_,e,_⟩:=r; exact absurd e (h a)
 | dic=>obtain ⟨a,_,_,e,_⟩:=r; exact absurd e (h a)
 | frl=>obtain ⟨a,_,e,_⟩:=r; exact absurd e (h a)
theorem Rep.oneS {K:PySem.W.Frag}{H:Hp}{d d':D}{u v:V}{L L':List Addr}(e:v=u)(hs:∀ a,u≠.ref a)(r:Rep K H d v L)(r':Rep K H d' v L'):d=d':=by
 subst e
 exact (r.ofV hs).trans (r'.ofV hs).symm
theorem Rep.noS {K:PySem.W.Frag}{H:Hp}{d:D}{a:Addr}{L:List Addr}(r:Rep K H d (.ref a) L)(h:d.isS=true):False:=by
 cases d with
 | non=>cases r.1
 | bl=>cases r.1
 | int=>cases r.1
 | str=>cases r.1
 | _=>cases h
theorem YY {a:Addr}{vs:List V}{o:HO}(I:Inv X pins σ H s)(h:SqT X.K H a vs)(h':H a=some o)(n1:∀ xs,o≠.tup xs)(n2:∀ p xs,o≠.frz p (.tup xs)):False:=by
 rcases h with (z | ⟨p,z⟩) | ⟨o',its,n,hk,hc,_⟩
 ·rw [z] at h'; exact n1 _ (Option.some.inj h').symm
 ·rw [z] at h'; exact n2 _ _ (Option.some.inj h').symm
 ·have:=(I.bs a o' (I.mod.kin a o' hk)).2
  rw [this] at h'; cases h'
theorem YZ {a:Addr}{vs:List V}{o:HO}(I:Inv X pins σ H s)(h:SqF X.K H a vs)(h':H a=some o)(n2:∀ p xs,o≠.frz p (.lst xs)):False:=by
 rcases h with ⟨p,z⟩ | ⟨o',its,n,hk,hc,_⟩
 ·rw [z] at h'; exact n2 _ _ (Option.some.inj h').symm
 ·have:=(I.bs a o' (I.mod.kin a o' hk)).2
  rw [this] at h'; cases h'
theorem Qb {a:Addr}{vs ws:List V}(I:Inv X pins σ H s)(h':SqT X.K H a ws)(h:SqF X.K H a vs):False:=by
 obtain ⟨its,_,⟨o1,n1,e1,c1,_⟩,_⟩:=I.list h.sq
 obtain ⟨its2,_,⟨o2,e2,c2,_⟩,_⟩:=I.tuple h'
 rw [e1] at e2
 cases e2
 rw [c1] at c2
 exact absurd c2 (by simp)
theorem Qc {a:Addr}{xs:List V}{kvs:List (Key×V)}{H:Hp}(h:H a=some (.lst xs))(h':H a=some (.dK kvs)):False:=by
 rw [h] at h'; cases h'
mutual
theorem Rep.one (I:Inv X pins σ H s):∀ (d d':D) (v:V) (L L':List Addr),Rep X.K H d v L->Rep X.K H d' v L'->d=d'
 | .non,_,_,_,_,r,r'=>Rep.oneS r.1 (fun _ z=>V.noConfusion z) r r'
 | .bl _,_,_,_,_,r,r'=>Rep.oneS r.1 (fun _ z=>V.noConfusion z) r r'
 | .int _,_,_,_,_,r,r'=>Rep.oneS r.1 (fun _ z=>V.noConfusion z) r r'
 | .str _,_,_,_,_,r,r'=>Rep.oneS r.1 (fun _ z=>V.noConfusion z) r r'
 | .tup ds,d',_,L,L',hq5,r=>by
  obtain ⟨a,vs,e,h,rs⟩:=hq5
  subst e
  cases d' with
  | non=>exact (Rep.noS r rfl).elim
  | bl _=>exact (Rep.noS r rfl).elim
  | int _=>exact (Rep.noS r rfl).elim
  | str _=>exact (Rep.noS r rfl).elim
  | tup ds' =>
   obtain ⟨a',vs',e,h',rs'⟩:=r
   cases e
   cases I.tuple_inj h h'
   rw [Reps.one I ds ds' vs L L' rs rs']
  | lst _ =>
   obtain ⟨_,_,_,e,h',_⟩:=r
   cases e
   exact (YY I h h' (fun _ z=>HO.noConfusion z) fun _ _ z=>HO.noConfusion z).elim
  | dic _ _ =>
   obtain ⟨_,_,_,e,h',_⟩:=r
   cases e
   exact (YY I h h' (fun _ z=>HO.noConfusion z) fun _ _ z=>HO.noConfusion z).elim
  | frl _ =>
   obtain ⟨_,_,e,h',_⟩:=r
   cases e
   exact (Qb I h h').elim
 | .lst ds,d',_,L,L',hq5,r=>by
  obtain ⟨a,vs,L1,e,h,_,rs⟩:=hq5
  subst e
  cases d' with
  | non=>exact (Rep.noS r rfl).elim
  | bl _=>exact (Rep.noS r rfl).elim
  | int _=>exact (Rep.noS r rfl).elim
  | str _=>exact (Rep.noS r rfl).elim
  | tup ds' =>
   obtain ⟨a',vs',e,h',rs'⟩:=r
   cases e
   exact (YY I h' h (fun _ z=>HO.noConfusion z) fun _ _ z=>HO.noConfusion z).elim
  | lst ds' =>
   obtain ⟨_,_,_,e,h',_,rs'⟩:=r
   cases e
   rw [h] at h'
   cases h'
   rw [Reps.one I ds ds' vs _ _ rs rs']
  | dic _ _ =>
   obtain ⟨_,_,_,e,h',_⟩:=r
   cases e
   exact (Qc h h').elim
  | frl _ =>
   obtain ⟨_,_,e,h',_⟩:=r
   cases e
   exact (YZ I h' h fun _ _ z=>HO.noConfusion z).elim
 | .dic ks ds,d',_,L,L',hq5,r=>by
  obtain ⟨a,kvs,L1,e,h,_,hk,_,rs⟩:=hq5
  subst e
  cases d' with
  | non=>exact (Rep.noS r rfl).elim
  | bl _=>exact (Rep.noS r rfl).elim
  | int _=>exact (Rep.noS r rfl).elim
  | str _=>exact (Rep.noS r rfl).elim
  | tup ds' =>
   obtain ⟨a',vs',e,h',rs'⟩:=r
   cases e
   exact (YY I h' h (fun _ z=>HO.noConfusion z) fun _ _ z=>HO.noConfusion z).elim
  | lst ds' =>
   obtain ⟨_,_,_,e,h',_,rs'⟩:=r
   cases e
   exact (Qc h' h).elim
  | dic ks' ds' =>
   obtain ⟨_,_,_,e,h',_,hk',_,rs'⟩:=r
   cases e
   rw [h] at h'
   cases h'
   rw [<- hk,<- hk',Reps.one I ds ds' _ _ _ rs rs']
  | frl _ =>
   obtain ⟨_,_,e,h',_⟩:=r
   cases e
   exact (YZ I h' h fun _ _ z=>HO.noConfusion z).elim
 | .frl ds,d',_,L,L',hq5,r=>by
  obtain ⟨a,vs,e,h,_,_,rs⟩:=hq5
  subst e
  cases d' with
  | non=>exact (Rep.noS r rfl).elim
  | bl _=>exact (Rep.noS r rfl).elim
  | int _=>exact (Rep.noS r rfl).elim
  | str _=>exact (Rep.noS r rfl).elim
  | tup ds' =>
   obtain ⟨a',vs',e,h',rs'⟩:=r
   cases e
   exact (Qb I h' h).elim
  | lst ds' =>
   obtain ⟨_,_,_,e,h',_,rs'⟩:=r
   cases e
   exact (YZ I h h' fun _ _ z=>HO.noConfusion z).elim
  | dic ks' ds' =>
   obtain ⟨_,_,_,e,h',_,hk',_,rs'⟩:=r
   cases e
   exact (YZ I h h' fun _ _ z=>HO.noConfusion z).elim
  | frl ds' =>
   obtain ⟨_,_,e,h',_,_,rs'⟩:=r
   cases e
   have:=I.list_inj h.sq h'.sq
   subst this
   rw [Reps.one I ds ds' vs _ _ rs rs']
theorem Reps.one (I:Inv X pins σ H s):∀ (ds ds':List D) (vs:List V) (L L':List Addr),Reps X.K H ds vs L->Reps X.K H ds' vs L'->ds=ds'
 | [],ds',_,_,_,hq5,r=>by
  obtain ⟨e,_⟩:=hq5
  subst e
  cases ds' with
  | nil=>rfl
  | cons _ _=>obtain ⟨_,_,_,_,e,_⟩:=r; cases e
 | d::ds,ds',_,_,_,hq5,r=>by
  obtain ⟨v,vs',L1,L2,e1,_,h1,h2⟩:=hq5
  subst e1
  cases ds' with
  | nil=>obtain ⟨e,_⟩:=r; cases e
  | cons d' ds' =>
   obtain ⟨v',vs2,L3,L4,e,_,r1,r2⟩:=r
   cases e
   rw [Rep.one I d d' v _ _ h1 r1,Reps.one I ds ds' vs' _ _ h2 r2]
end
end
theorem Vo:∀ (d:D),d.isS=true->eqS d d=true
 | .non,_=>rfl
 | .bl b,_=>beq_self_eq_true b
 | .int b,_=>beq_self_eq_true b
 | .str b,_=>beq_self_eq_true b
 | .tup _,h=>nomatch h
 | .lst _,h=>nomatch h
 | .dic _ _,h=>nomatch h
 | .frl _,h=>nomatch h
theorem Vc:∀ (n:Nat) (d:D) (b:Bool),eqF n d d=some b->b=true:=by
 intro n
 induction n with
 | zero =>
  intro d b h
  replace h:(if (d.isS&&d.isS)=true then some (eqS d d) else none)=some b:=h
  split at h
  ·rename_i hs
   simp only [Bool.and_self] at hs
   rw [Vo d hs] at h
   exact (Option.some.inj h).symm
  ·cases h
 | succ n ih =>
  have zip:∀ (xs:List D) (b:Bool),yH (eqF n) xs xs=some b->b=true:=by
   intro xs
   induction xs with
   | nil=>intro b h; unfold yH at h; exact (Option.some.inj h).symm
   | cons x xs ihx =>
    intro b h
    unfold yH at h
    cases h1:eqF n x x with
    | none=>rw [h1] at h; cases h
    | some a =>
     cases h2:yH (eqF n) xs xs with
     | none=>rw [h1,h2] at h; cases h
     | some b' =>
      rw [h1,h2] at h
      cases h
      rw [ih x a h1,ihx b' h2]; rfl
  intro d b h
  cases d with
  | lst xs =>
   have h:(if xs.length=xs.length then yH (eqF n) xs xs else some false)=some b:=h
   rw [if_pos rfl] at h
   exact zip xs b h
  | tup xs =>
   have h:(yH (eqF n) xs xs).map (fun b=>b&&xs.length==xs.length)=some b:=h
   cases h1:yH (eqF n) xs xs with
   | none=>rw [h1] at h; cases h
   | some b'=>rw [h1] at h; rw [zip xs b' h1] at h; simp at h; exact h.symm▸rfl
  | non=>have h:some true=some b:=h; exact (Option.some.inj h).symm
  | bl x=>have h:some (x==x)=some b:=h; exact (Option.some.inj h).symm.trans (beq_self_eq_true x)
  | int x=>have h:some (x==x)=some b:=h; exact (Option.some.inj h).symm.trans (beq_self_eq_true x)
  | str x=>have h:some (x==x)=some b:=h; exact (Option.some.inj h).symm.trans (beq_self_eq_true x)
  | dic _ _=>cases h
  | frl xs =>
   have h:(if xs.length=xs.length then yH (eqF n) xs xs else some false)=some b:=h
   rw [if_pos rfl] at h
   exact zip xs b h
open SeqAt in
theorem jg {A:Around}{s:Shared}{a a':Addr}{b:Bool}(h:RcAt A s (.ref a) (.ref a') b)(hs:a=a'->b=true):EqAt A s (.ref a) (.ref a') b:=by
 by_cases z:a=a'
 ·subst z
  rw [hs rfl]
  exact EqAt.same _
 ·exact EqAt.of_refs z h
open SeqAt in
theorem jt {X:Cx}{pins:List (Addr×Obj)}{σ:St}{H:Hp}{s:Shared}(I:Inv X pins σ H s){n:Nat}{A:Around}(hu0:A.units<cLine)
  (ih:∀ (d1 d2:D) (v1 v2:V) (L1 L2:List Addr) (u1 u2:Value) (b:Bool),eqF n d1 d2=some b->Rep X.K H d1 v1 L1->Rep X.K H d2 v2 L2->RelV v1 u1->RelV v2 u2->EqAt A.in1 s u1 u2 b)
  {a a2:Addr} {vs vs2:List V} {xs ys:List D} {L L2:List Addr} {b:Bool} (ha:SqL X.K H a vs) (rs:Reps X.K H xs vs L) (ha2:SqL X.K H a2 vs2) (rs2:Reps X.K H ys vs2 L2)
  (h:(if xs.length=ys.length then yH (eqF n) xs ys else some false)=some b) (same:a=a2->b=true):RcAt A s (.ref a) (.ref a2) b/\EqAt A s (.ref a) (.ref a2) b/\RcNeAt A s (.ref a) (.ref a2) (!b):=by
 obtain ⟨its,rv,pl,_⟩:=I.list ha
 obtain ⟨its2,rv2,pl2,_⟩:=I.list ha2
 have l1:its.length=xs.length:=by rw [<- rv.length,rs.length]
 have l2:its2.length=ys.length:=by rw [<- rv2.length,rs2.length]
 by_cases hl:xs.length=ys.length
 ·rw [if_pos hl] at h
  obtain ⟨e1,e2⟩:=uZ h
  have he:∀ j (h1:j<its.toArray.size) (h2:j<its2.toArray.size),EqAt A.in1 s its.toArray[j] its2.toArray[j] (vO (eqF n) xs ys j):=fun j h1 h2=>by
   have h1':j<xs.length:=by simpa [l1] using h1
   have h2':j<ys.length:=by simpa [l2] using h2
   obtain ⟨w1,L3,g1,g2,_⟩:=rs.get (i:=j) (d:=xs[j]) (by simp [h1'])
   obtain ⟨w2,L4,g3,g4,_⟩:=rs2.get (i:=j) (d:=ys[j]) (by simp [h2'])
   obtain ⟨z1,k1,k2⟩:=rv.get g1
   obtain ⟨z2,k3,k4⟩:=rv2.get g3
   have m1:its.toArray[j]=z1:=by
    have:=(sI.mp k1).2
    simpa using this
   have m2:its2.toArray[j]=z2:=by
    have:=(sI.mp k3).2
    simpa using this
   rw [m1,m2]
   exact ih _ _ w1 w2 L3 L4 z1 z2 _ (e2 j _ _ (by simp [h1']) (by simp [h2'])) g2 g4 k2 k4
  have hsz:its.toArray.size=its2.toArray.size:=by simp [l1,l2,hl]
  have eb:b=(List.range its.toArray.size).all (vO (eqF n) xs ys):=by
   rw [e1]
   congr 2
   simp [l1,hl]
  have rc:=RcAt.lists pl.isList pl2.isList hsz hu0 he
  have rn:=RcNeAt.lists pl.isList pl2.isList hsz hu0 he
  rw [<- eb] at rc rn
  exact ⟨rc,jg rc same,rn⟩
 ·rw [if_neg hl] at h
  cases h
  have hsz:(its.toArray.size != its2.toArray.size)=true:=by simp [l1,l2,hl]
  have rc:=RcAt.lists_lengths pl.isList pl2.isList hsz hu0
  exact ⟨rc,jg rc same,RcNeAt.lists_lengths pl.isList pl2.isList hsz hu0⟩
open SeqAt in
theorem UT {X:Cx}{pins:List (Addr×Obj)}{σ:St}{H:Hp}{s:Shared}(I:Inv X pins σ H s):∀ (n:Nat) (A:Around) (d1 d2:D) (v1 v2:V) (L1 L2:List Addr) (u1 u2:Value) (b:Bool),A.units+n<cLine->eqF n d1 d2=some b ->
  Rep X.K H d1 v1 L1->Rep X.K H d2 v2 L2->RelV v1 u1->RelV v2 u2->RcAt A s u1 u2 b/\EqAt A s u1 u2 b/\RcNeAt A s u1 u2 (!b):=by
 intro n
 induction n with
 | zero =>
  intro A d1 d2 v1 v2 L1 L2 u1 u2 b hu h r1 r2 q1 q2
  have h:(if (d1.isS&&d2.isS)=true then some (eqS d1 d2) else none)=some b:=h
  split at h
  ·rename_i hs
   rw [sP] at hs
   cases h
   exact kJ hs.1 hs.2 r1 r2 q1 q2
  ·cases h
 | succ n ih =>
  intro A d1 d2 v1 v2 L1 L2 u1 u2 b hu h r1 r2 q1 q2
  have hu0:A.units<cLine:=by lia
  have hu1:A.in1.units+n<cLine:=by show A.units+1+n<cLine; lia
  have same:∀ a,v1=.ref a->v2=.ref a->b=true:=fun a e1 e2=>by
   subst e1 e2
   have:=Rep.one I d1 d2 _ _ _ r1 r2
   subst this
   exact Vc (n+1) d1 b h
  by_cases s1:d1.isS=true
  ·by_cases s2:d2.isS=true
   ·have e:b=eqS d1 d2:=by
     cases d1<;>first | exact absurd s1 sE | (cases d2<;>first | exact absurd s2 sE | exact (Option.some.inj h).symm)
    subst e
    exact kJ s1 s2 r1 r2 q1 q2
   ·cases d2 with
    | lst ys =>
     have e:b=false:=by cases d1<;>first | exact absurd s1 sE | exact (Option.some.inj h).symm
     subst e
     obtain ⟨a,vs,L',e2,ha,_,rs⟩:=r2
     have q2:u2=Value.ref a:=by rw [e2] at q2; exact q2
     rw [q2]
     obtain ⟨its,rv,pl,_⟩:=I.list (SqL.of ha)
     exact (Zt s1 r1 q1 pl.isList hu0).2
    | tup ys =>
     have e:b=false:=by cases d1<;>first | exact absurd s1 sE | exact (Option.some.inj h).symm
     subst e
     obtain ⟨a,vs,e2,ha,rs⟩:=r2
     have q2:u2=Value.ref a:=by rw [e2] at q2; exact q2
     rw [q2]
     obtain ⟨its,rv,pl,_⟩:=I.tuple ha
     exact (Y1 s1 r1 q1 pl hu0).2
    | dic _ _=>cases d1<;>first | exact absurd s1 sE | exact (qd (b:=b) h).elim
    | frl _=>cases d1<;>first | exact absurd s1 sE | exact (qd (b:=b) h).elim
    | _=>exact absurd rfl s2
  ·cases d1 with
   | lst xs =>
    obtain ⟨a,vs,L',e1,ha,_,rs⟩:=r1
    have q1:u1=Value.ref a:=by rw [e1] at q1; exact q1
    rw [q1]
    obtain ⟨its,rv,pl,_⟩:=I.list (SqL.of ha)
    cases d2 with
    | lst ys =>
     obtain ⟨a2,vs2,L2',e2,ha2,_,rs2⟩:=r2
     have q2:u2=Value.ref a2:=by rw [e2] at q2; exact q2
     rw [q2]
     exact jt I hu0 (fun d1 d2 v1 v2 L1 L2 u1 u2 b e r1 r2 q1 q2=>(ih A.in1 d1 d2 v1 v2 L1 L2 u1 u2 b hu1 e r1 r2 q1 q2).2.1) (SqL.of ha) rs (SqL.of ha2) rs2 h fun z=>same a e1 (by rw [z]; exact e2)
    | tup ys =>
     obtain ⟨a2,vs2,e2,ha2,rs2⟩:=r2
     have q2:u2=Value.ref a2:=by rw [e2] at q2; exact q2
     rw [q2]
     obtain ⟨its2,rv2,pl2,_⟩:=I.tuple ha2
     cases (Option.some.inj (show some false=some b from h))
     exact ⟨RcAt.list_tuple pl.isList pl2 hu0,EqAt.list_tuple pl.isList pl2 hu0,RcNeAt.list_tuple pl.isList pl2 hu0⟩
    | dic _ _=>exact (qd (b:=b) h).elim
    | frl _=>exact (qd (b:=b) h).elim
    | non=>cases (Option.some.inj (show some false=some b from h)); exact (Zt (d:=.non) rfl r2 q2 pl.isList hu0).1
    | bl x=>cases (Option.some.inj (show some false=some b from h)); exact (Zt (d:=.bl x) rfl r2 q2 pl.isList hu0).1
    | int x=>cases (Option.some.inj (show some false=some b from h)); exact (Zt (d:=.int x) rfl r2 q2 pl.isList hu0).1
    | str x=>cases (Option.some.inj (show some false=some b from h)); exact (Zt (d:=.str x) rfl r2 q2 pl.isList hu0).1
   | tup xs =>
    obtain ⟨a,vs,e1,ha,rs⟩:=r1
    have q1:u1=Value.ref a:=by rw [e1] at q1; exact q1
    rw [q1]
    obtain ⟨its,rv,pl,_⟩:=I.tuple ha
    cases d2 with
    | tup ys =>
     obtain ⟨a2,vs2,e2,ha2,rs2⟩:=r2
     have q2:u2=Value.ref a2:=by rw [e2] at q2; exact q2
     rw [q2]
     obtain ⟨its2,rv2,pl2,_⟩:=I.tuple ha2
     have h:(yH (eqF n) xs ys).map (fun b=>b&&xs.length==ys.length)=some b:=h
     have l1:its.length=xs.length:=by rw [<- rv.length,rs.length]
     have l2:its2.length=ys.length:=by rw [<- rv2.length,rs2.length]
     cases hz:yH (eqF n) xs ys with
     | none=>rw [hz] at h; cases h
     | some b' =>
      rw [hz] at h
      have h:(b'&&xs.length==ys.length)=b:=Option.some.inj h
      have e1':=e1
      have e2':=e2
      obtain ⟨e1,e2⟩:=uZ hz
      have he:∀ j (h1:j<its.toArray.size) (h2:j<its2.toArray.size),EqAt A.in1 s its.toArray[j] its2.toArray[j] (vO (eqF n) xs ys j):=fun j h1 h2=>by
       have h1':j<xs.length:=by simpa [l1] using h1
       have h2':j<ys.length:=by simpa [l2] using h2
       obtain ⟨w1,L3,g1,g2,_⟩:=rs.get (i:=j) (d:=xs[j]) (by simp [h1'])
       obtain ⟨w2,L4,g3,g4,_⟩:=rs2.get (i:=j) (d:=ys[j]) (by simp [h2'])
       obtain ⟨z1,k1,k2⟩:=rv.get g1
       obtain ⟨z2,k3,k4⟩:=rv2.get g3
       have m1:its.toArray[j]=z1:=by
        have:=(sI.mp k1).2
        simpa using this
       have m2:its2.toArray[j]=z2:=by
        have:=(sI.mp k3).2
        simpa using this
       rw [m1,m2]
       exact (ih A.in1 _ _ w1 w2 L3 L4 z1 z2 _ hu1 (e2 j _ _ (by simp [h1']) (by simp [h2'])) g2 g4 k2 k4).2.1
      have eb:b=((List.range (min its.toArray.size its2.toArray.size)).all (vO (eqF n) xs ys)&&its.toArray.size==its2.toArray.size):=by
       rw [<- h,e1]
       simp [l1,l2]
      have rc:=RcAt.tuples pl pl2 hu0 he
      have rn:=RcNeAt.tuples pl pl2 hu0 he
      rw [<- eb] at rc rn
      exact ⟨rc,jg rc fun z=>same a e1' (by rw [z]; exact e2'),rn⟩
    | lst ys =>
     obtain ⟨a2,vs2,L2',e2,ha2,_,rs2⟩:=r2
     have q2:u2=Value.ref a2:=by rw [e2] at q2; exact q2
     rw [q2]
     obtain ⟨its2,rv2,pl2,_⟩:=I.list (SqL.of ha2)
     cases (Option.some.inj (show some false=some b from h))
     exact ⟨RcAt.tuple_list pl pl2.isList hu0,EqAt.tuple_list pl pl2.isList hu0,RcNeAt.tuple_list pl pl2.isList hu0⟩
    | dic _ _=>exact (qd (b:=b) h).elim
    | frl _=>exact (qd (b:=b) h).elim
    | non=>cases (Option.some.inj (show some false=some b from h)); exact (Y1 (d:=.non) rfl r2 q2 pl hu0).1
    | bl x=>cases (Option.some.inj (show some false=some b from h)); exact (Y1 (d:=.bl x) rfl r2 q2 pl hu0).1
    | int x=>cases (Option.some.inj (show some false=some b from h)); exact (Y1 (d:=.int x) rfl r2 q2 pl hu0).1
    | str x=>cases (Option.some.inj (show some false=some b from h)); exact (Y1 (d:=.str x) rfl r2 q2 pl hu0).1
   | dic _ _=>cases d2<;>exact (qd (b:=b) h).elim
   | frl xs =>
    cases d2 with
    | lst ys =>
     obtain ⟨a,vs,e1,ha,_,_,rs⟩:=r1
     have q1:u1=Value.ref a:=by rw [e1] at q1; exact q1
     rw [q1]
     obtain ⟨a2,vs2,L2',e2,ha2,_,rs2⟩:=r2
     have q2:u2=Value.ref a2:=by rw [e2] at q2; exact q2
     rw [q2]
     exact jt I hu0 (fun d1 d2 v1 v2 L1 L2 u1 u2 b e r1 r2 q1 q2=>(ih A.in1 d1 d2 v1 v2 L1 L2 u1 u2 b hu1 e r1 r2 q1 q2).2.1) ha.sq rs (SqL.of ha2) rs2 h fun z=>same a e1 (by rw [z]; exact e2)
    | tup ys=>exact (qd (b:=b) h).elim
    | dic _ _=>exact (qd (b:=b) h).elim
    | frl ys =>
     obtain ⟨a,vs,e1,ha,_,_,rs⟩:=r1
     have q1:u1=Value.ref a:=by rw [e1] at q1; exact q1
     rw [q1]
     obtain ⟨a2,vs2,e2,ha2,_,_,rs2⟩:=r2
     have q2:u2=Value.ref a2:=by rw [e2] at q2; exact q2
     rw [q2]
     exact jt I hu0 (fun d1 d2 v1 v2 L1 L2 u1 u2 b e r1 r2 q1 q2=>(ih A.in1 d1 d2 v1 v2 L1 L2 u1 u2 b hu1 e r1 r2 q1 q2).2.1) ha.sq rs ha2.sq rs2 h fun z=>same a e1 (by rw [z]; exact e2)
    | non=>exact (qd (b:=b) h).elim
    | bl x=>exact (qd (b:=b) h).elim
    | int x=>exact (qd (b:=b) h).elim
    | str x=>exact (qd (b:=b) h).elim
   | _=>exact absurd rfl s1
theorem yp {K:PySem.W.Frag}{H:Hp}{ds:List D}{vs:List V}{L:List Addr}(r:Reps K H ds vs L)(h:D.imms ds=true):Reps K H ds vs []:=by
 have:=Reps.imm ds vs L r h
 subst this
 exact r
theorem yM:∀ (xs ys:List D),D.imms (xs++ys)=(D.imms xs&&D.imms ys)
 | [],ys=>by simp [D.imms]
 | x::xs,ys=>by simp [D.imms,yM xs ys,Bool.and_assoc]
theorem u5 {K:PySem.W.Frag}{H:Hp}{ds:List D}{vs:List V}{p:Addr}{Q:VK}(r:Reps K H ds vs [])(hp:H p=none)(q:∀ v H' L,Same H H'->Rep K H' (.lst ds) v L->L.Nodup->(∀ a∈L,H a=none)->Q v H'):Q (.ref p) (upd H p (.lst vs)) :=
 q _ _ [p] (Same.new hp) ⟨p,vs,[],rfl,yb,rfl,r.same (Same.new hp)⟩ (by simp) (fun a ha=>by rw [sL.mp ha]; exact hp)
def zU:D->D->R D
 | .int i,.int j=>.ok (.int (i+j))
 | .str x,.str y=>if x.length+y.length<=sizeLine then .ok (.str (x++y)) else .bad
 | .lst xs,.lst ys=>if D.imms xs=true/\D.imms ys=true/\xs.length+ys.length<=sizeLine then .ok (.lst (xs++ys)) else .bad
 | .tup xs,.tup ys=>if D.imms xs=true/\D.imms ys=true/\xs≠[]/\xs.length+ys.length<=sizeLine then .ok (.tup (xs++ys)) else .bad
 | _,_=>.bad
def Q9 (K:PySem.W.Frag):R2:=fun x y H Q=>(∃ i j,x=.int i/\y=.int j/\Q (.int (i+j)) H)\/(∃ i j,x=.str i/\y=.str j/\i.length+j.length<=sizeLine/\Q (.str (i++j)) H)\/JV x y H Q\/YW K x y H Q
theorem zD {X:Cx}:OpR X (binaryOp .Add) (Q9 X.K):=(OpR.or Qi (OpR.or Yb (OpR.or QU Xe)))
theorem yf {K:PySem.W.Frag}:OpB K (Q9 K) zU:=by
 rintro H x y dx dy Lx Ly Q rx ry ⟨d,hg,q⟩
 unfold zU at hg
 split at hg
 ·cases hg
  exact .inl ⟨_,_,rx.1,ry.1,q _ H [] (Same.refl H) ⟨rfl,rfl⟩ (by simp) (fun a ha=>nomatch ha)⟩
 ·split at hg
  ·rename_i hz
   cases hg
   exact .inr (.inl ⟨_,_,rx.1,ry.1,hz,q _ H [] (Same.refl H) ⟨rfl,rfl⟩ (by simp) (fun a ha=>nomatch ha)⟩)
  ·cases hg
 ·rename_i xs ys
  split at hg
  ·rename_i hz
   cases hg
   obtain ⟨a,vs,L1,rfl,ha,_,rs⟩:=rx
   obtain ⟨b,ws,L2,rfl,hb,_,qs⟩:=ry
   refine .inr (.inr (.inl ⟨a,b,vs,ws,rfl,rfl,ha,hb,by rw [rs.length,qs.length]; exact hz.2.2,fun p hp=>u5 (ds:=xs++ys) ?_ hp q⟩))
   exact Reps.append (yp rs hz.1) (yp qs hz.2.1)
  ·cases hg
 ·rename_i xs ys
  split at hg
  ·rename_i hz
   cases hg
   obtain ⟨a,vs,rfl,ha,rs⟩:=rx
   obtain ⟨b,ws,rfl,hb,qs⟩:=ry
   have hne:vs≠[]:=fun z=>hz.2.2.1 (by have:=rs.length; rw [z] at this; exact pI.mp this.symm)
   have rr:=Reps.append (yp rs hz.1) (yp qs hz.2.1)
   refine .inr (.inr (.inr ⟨a,b,vs,ws,rfl,rfl,ha,hb,hne,by rw [rs.length,qs.length]; exact hz.2.2.2,fun z=>?_,fun _ p hp=>?_⟩))
   ·subst z
    rw [sJ] at rr
    exact q _ H [] (Same.refl H) ⟨a,vs,rfl,ha,rr⟩ (by simp) (fun a ha=>nomatch ha)
   ·exact q _ _ [] (Same.new hp) ⟨p,vs++ws,rfl,SqT.of yb,rr.same (Same.new hp)⟩ (by simp) (fun a ha=>nomatch ha)
  ·cases hg
 ·cases hg
theorem yg:xO zU:=fun x y n h=>by
 unfold zU at h
 split at h
 ·cases h
 ·split at h<;>cases h
 ·split at h<;>cases h
 ·split at h<;>cases h
 ·cases h
def intD (C:Int->Int->Bool)(g:Int->Int->D):D->D->R D
 | .int i,.int j=>if C i j=true then .ok (g i j) else .bad
 | _,_=>.bad
theorem zr {C:Int->Int->Bool}{g:Int->Int->D}:xO (intD C g):=fun x y n h=>by
 unfold intD at h
 split at h
 ·split at h<;>cases h
 ·cases h
def Qy:D->V
 | .int i=>.int i
 | .bl b=>.bl b
 | .str x=>.str x
 | _=>.non
theorem ZD {K:PySem.W.Frag}{H:Hp}:∀ {d:D},d.isS=true->Rep K H d (Qy d) []
 | .non,_=>⟨rfl,rfl⟩
 | .bl _,_=>⟨rfl,rfl⟩
 | .int _,_=>⟨rfl,rfl⟩
 | .str _,_=>⟨rfl,rfl⟩
 | .tup _,h=>nomatch h
 | .lst _,h=>nomatch h
 | .dic _ _,h=>nomatch h
 | .frl _,h=>nomatch h
theorem Q1 {K:PySem.W.Frag}{C:Int->Int->Bool}{g:Int->Int->D}{P:Int->Int->Prop}{gv:Int->Int->V}(hP:∀ i j,C i j=true->P i j)(hs:∀ i j,(g i j).isS=true)(hv:∀ i j,Qy (g i j)=gv i j):OpB K (rI P gv) (intD C g):=by
 rintro H x y dx dy Lx Ly Q rx ry ⟨d,hg,q⟩
 unfold intD at hg
 split at hg
 ·split at hg
  ·rename_i i j hz
   cases hg
   refine ⟨i,j,rx.1,ry.1,hP i j hz,?_⟩
   rw [<- hv]
   exact q _ H [] (Same.refl H) (ZD (hs i j)) (by simp) (fun a ha=>nomatch ha)
  ·cases hg
 ·cases hg
theorem kY {K:PySem.W.Frag}{g:Int->Int->D}{gv:Int->Int->V}(hs:∀ i j,(g i j).isS=true)(hv:∀ i j,Qy (g i j)=gv i j):OpB K (rI0 gv) (intD (fun _ _=>true) g):=by
 rintro H x y dx dy Lx Ly Q rx ry ⟨d,hg,q⟩
 unfold intD at hg
 split at hg
 ·rw [if_pos rfl] at hg
  rename_i i j
  cases hg
  refine ⟨i,j,rx.1,ry.1,?_⟩
  rw [<- hv]
  exact q _ H [] (Same.refl H) (ZD (hs i j)) (by simp) (fun a ha=>nomatch ha)
 ·cases hg
abbrev jH:D->D->R D:=intD (fun _ _=>true) fun i j=>.int (i-j)
abbrev zu:D->D->R D:=intD (fun _ j=>decide (0<j)&&decide (j<1073741824)) fun i j=>.int (i/j)
abbrev zz:D->D->R D:=intD (fun _ j=>decide (0<j)) fun i j=>.int (i%j)
abbrev ltD:D->D->R D:=intD (fun _ _=>true) fun i j=>.bl (decide (i<j))
abbrev leD:D->D->R D:=intD (fun _ _=>true) fun i j=>.bl (decide (i<=j))
abbrev gtD:D->D->R D:=intD (fun _ _=>true) fun i j=>.bl (decide (j<i))
theorem ZL {K:PySem.W.Frag}:OpB K (rI0 fun i j=>.int (i-j)) jH:=kY (fun _ _=>rfl) fun _ _=>rfl
theorem y0 {K:PySem.W.Frag}:OpB K (rI KY fun i j=>.int (i/j)) zu:=Q1 (fun i j h=>by simp only [sP,decide_eq_true_eq] at h; exact h) (fun _ _=>rfl) fun _ _=>rfl
theorem yc {K:PySem.W.Frag}:OpB K (rI (fun _ j=>0<j) fun i j=>.int (i%j)) zz:=Q1 (fun i j h=>by simpa using h) (fun _ _=>rfl) fun _ _=>rfl
theorem Uw {K:PySem.W.Frag}:OpB K (rI0 fun i j=>.bl (decide (i<j))) ltD:=kY (fun _ _=>rfl) fun _ _=>rfl
theorem qp {K:PySem.W.Frag}:OpB K (rI0 fun i j=>.bl (decide (i<=j))) leD:=kY (fun _ _=>rfl) fun _ _=>rfl
theorem W9 {K:PySem.W.Frag}:OpB K (rI0 fun i j=>.bl (decide (j<i))) gtD:=kY (fun _ _=>rfl) fun _ _=>rfl
def xV:D->D->R D
 | .int i,.int j=>if ((decide (-(2 ^ 64)<i)&&decide (i<2 ^ 64))||(decide (-(2 ^ 64)<j)&&decide (j<2 ^ 64)))=true then .ok (.int (i*j)) else .bad
 | .lst xs,.int k=>if D.imms xs=true/\-(2 ^ 63)<=k/\k<2 ^ 63/\xs.length*k.toNat<=sizeLine then .ok (.lst (List.replicate k.toNat xs).flatten) else .bad
 | _,_=>.bad
theorem vK:xO xV:=fun x y n h=>by
 unfold xV at h
 split at h
 ·split at h<;>cases h
 ·split at h<;>cases h
 ·cases h
theorem xR {X:Cx}:OpR X (binaryOp .Mult) (fun x y H Q=>rI CMul (fun i j=>.int (i*j)) x y H Q\/Jv x y H Q):=OpR.or Qo QT
theorem Reps.rep {K:PySem.W.Frag}{H:Hp}{ds:List D}{vs:List V}(r:Reps K H ds vs []):∀ k:Nat,Reps K H (List.replicate k ds).flatten (List.replicate k vs).flatten []
 | 0=>by simpa using Reps.nil
 | k+1=>by
  rw [tS,tS,rP,rP]
  exact Reps.append r (Reps.rep r k)
theorem vS {K:PySem.W.Frag}:OpB K (fun x y H Q=>rI CMul (fun i j=>.int (i*j)) x y H Q\/Jv x y H Q) xV:=by
 rintro H x y dx dy Lx Ly Q rx ry ⟨d,hg,q⟩
 unfold xV at hg
 split at hg
 ·split at hg
  ·rename_i i j hz
   cases hg
   refine .inl ⟨i,j,rx.1,ry.1,?_,q _ H [] (Same.refl H) ⟨rfl,rfl⟩ (by simp) (fun a ha=>nomatch ha)⟩
   simpa [CMul] using hz
  ·cases hg
 ·split at hg
  ·rename_i xs k hz
   cases hg
   obtain ⟨a,vs,L1,rfl,ha,_,rs⟩:=rx
   exact .inr ⟨a,k,vs,rfl,ry.1,ha,hz.2.1,hz.2.2.1,by rw [rs.length]; exact hz.2.2.2,fun p hp=>u5 (Reps.rep (yp rs hz.1) _) hp q⟩
  ·cases hg
 ·cases hg
def WD (K:PySem.W.Frag)(neg:Bool):R2:=fun x y H Q=>∃ dx dy Lx Ly b,Rep K H dx x Lx/\Rep K H dy y Ly/\eqF 12 dx dy=some b/\Q (.bl (if neg=true then !b else b)) H
theorem J0 {X:Cx}(hu:X.A.units+12<cLine):OpR X (compareOp .Eq) (WD X.K false):=by
 rintro pins s σ H x y v u Q I rx ry ⟨dx,dy,Lx,Ly,b,r1,r2,he,q⟩
 exact (UT I 12 X.A dx dy x y Lx Ly v u b hu he r1 r2 rx ry).1 X.prog X.w X.xe _ ⟨.bl b,H,I,rfl,q⟩
theorem Qn {X:Cx}(hu:X.A.units+12<cLine):OpR X (compareOp .NotEq) (WD X.K true):=by
 rintro pins s σ H x y v u Q I rx ry ⟨dx,dy,Lx,Ly,b,r1,r2,he,q⟩
 exact (UT I 12 X.A dx dy x y Lx Ly v u b hu he r1 r2 rx ry).2.2 X.prog X.w X.xe _ ⟨.bl (!b),H,I,rfl,q⟩
def ui:List Key->List D->Key->Option D
 | k::ks,d::ds,j=>if k=j then some d else ui ks ds j
 | _,_,_=>none
def j4 (js:List Key)(ys:List D):List Key->List D->Option Bool
 | k::ks,x::xs=>match ui js ys k with
  | none=>some false
  | some y=>if (x.isS&&y.isS)=true then (j4 js ys ks xs).map (eqS x y&&·) else none
 | _,_=>some true
theorem qc {K:PySem.W.Frag}{H:Hp}:∀ {kvs:List (Key×V)} {ds:List D} {L:List Addr} {k:Key} {d:D},Reps K H ds (kvs.map (·.2)) L->ui (kvs.map (·.1)) ds k=some d->∃ v L1,uS kvs k=some v/\Rep K H d v L1/\List.Sublist L1 L
 | [],ds,_,k,d,r,h=>by cases ds<;>cases h
 | p::kvs,[],_,k,d,r,h=>by obtain ⟨e,_⟩:=r; cases e
 | p::kvs,d0::ds,_,k,d,hq5,h=>by
  obtain ⟨v,vs',L1,L2,e1,e2,r1,r2⟩:=hq5
  subst e2
  rw [tG] at e1
  cases e1
  rw [tG] at h
  unfold ui at h
  by_cases hk:p.1=k
  ·rw [if_pos hk] at h
   cases h
   exact ⟨p.2,L1,uD hk,r1,List.sublist_append_left _ _⟩
  ·rw [if_neg hk] at h
   obtain ⟨v,L',a,b,c⟩:=qc r2 h
   exact ⟨v,L',by rw [vM hk]; exact a,b,c.trans (rO _ _)⟩
theorem ky {K:PySem.W.Frag}{H:Hp}:∀ {kvs:List (Key×V)} {ds:List D} {L:List Addr} {k:Key},Reps K H ds (kvs.map (·.2)) L->ui (kvs.map (·.1)) ds k=none->uS kvs k=none
 | [],ds,_,k,r,h=>rfl
 | p::kvs,[],_,k,r,h=>by obtain ⟨e,_⟩:=r; cases e
 | p::kvs,d0::ds,_,k,hq4,h=>by
  obtain ⟨v,vs',L1,L2,e1,e2,r1,r2⟩:=hq4
  subst e2
  rw [tG] at e1
  cases e1
  rw [tG] at h
  unfold ui at h
  by_cases hk:p.1=k
  ·rw [if_pos hk] at h; cases h
  ·rw [if_neg hk] at h
   rw [vM hk]
   exact ky r2 h
theorem X0 {K:PySem.W.Frag}{H:Hp}{A:Around}{s:Shared}{kvb:List (Key×V)}{vb:List (Key×Value)}{ys:List D}{Lb:List Addr}(rb:KV kvb vb)(qb:Reps K H ys (kvb.map (·.2)) Lb) :
  ∀ {kva:List (Key×V)} {va:List (Key×Value)} {xs:List D} {La:List Addr} {b:Bool},KV kva va->Reps K H xs (kva.map (·.2)) La->j4 (kvb.map (·.1)) ys (kva.map (·.1)) xs=some b->PySem.W.KeqHits A s vb va b:=by
 intro kva va xs La b ra
 induction ra generalizing xs La b with
 | nil =>
  intro r h
  cases xs with
  | nil=>cases h; exact .nil
  | cons _ _=>obtain ⟨_,_,_,_,e,_⟩:=r; cases e
 | @cons p q l1 l2 h1 _ ih =>
  intro r h
  cases xs with
  | nil=>obtain ⟨e,_⟩:=r; cases e
  | cons x xs =>
   obtain ⟨v,vs',L1,L2,e1,e2,r1,r2⟩:=r
   rw [tG] at e1
   cases e1
   rw [tG] at h
   unfold j4 at h
   have ek:q.1=p.1:=h1.1.symm
   have hv:=rb.val p.1
   cases hl:ui (kvb.map (·.1)) ys p.1 with
   | none =>
    rw [hl] at h
    cases h
    rw [ky qb hl] at hv
    have:valueAt vb q.1=none:=by
     rw [ek]
     cases hq:valueAt vb p.1 with
     | none=>rfl
     | some y=>rw [hq] at hv; exact hv.elim
    exact PySem.W.KeqHits.miss (k:=q.1) (v:=q.2) this
   | some y =>
    rw [hl] at h
    dsimp only at h
    split at h
    ·rename_i hs
     rw [sP] at hs
     cases hr:j4 (kvb.map (·.1)) ys (l1.map (·.1)) xs with
     | none=>rw [hr] at h; cases h
     | some b' =>
      rw [hr] at h
      have h:(eqS x y&&b')=b:=Option.some.inj h
      obtain ⟨w,Lw,g1,g2,_⟩:=qc qb hl
      rw [g1] at hv
      obtain ⟨yv,hy,ry⟩:=RelO.some_of (v:=w) (o:=valueAt vb p.1) hv
      rw [<- h]
      exact PySem.W.KeqHits.hit (k:=q.1) (v:=q.2) (by rw [ek]; exact hy) (kJ (A:=A) (s:=s) hs.1 hs.2 r1 g2 h1.2 ry).2.1 (ih r2 hr)
    ·cases h
def ZO (K:PySem.W.Frag)(neg:Bool):R2:=fun x y H Q=>∃ a b kva kvb xs ys La Lb r,x=.ref a/\y=.ref b/\Rd H a (.dK kva)/\Rd H b (.dK kvb)/\Reps K H xs (kva.map (·.2)) La/\Reps K H ys (kvb.map (·.2)) Lb /\
 (kva.length=kvb.length->j4 (kvb.map (·.1)) ys (kva.map (·.1)) xs=some r)/\Q (.bl (if neg=true then !(kva.length==kvb.length&&r) else (kva.length==kvb.length&&r))) H
theorem Uh {X:Cx}(hu:X.A.units<cLine):OpR X (compareOp .Eq) (ZO X.K false):=by
 rintro pins s σ H x y v u Q I rx ry ⟨a,b,kva,kvb,xs,ys,La,Lb,r,e1,e2,ha,hb,qa,qb,hh,q⟩
 subst e1 e2
 obtain rfl:v=Value.ref a:=rx
 obtain rfl:u=Value.ref b:=ry
 obtain ⟨_,da,va,ra,oa⟩:=jQ I.hok ha
 obtain ⟨_,db,vb,rb,ob⟩:=jQ I.hok hb
 have l1:va.length=kva.length:=ra.length.symm
 have l2:vb.length=kvb.length:=rb.length.symm
 refine PySem.W.keq_eq (r:=r) da db oa ob hu (fun e=>X0 rb qb ra qa (hh (by lia))) ?_
 rw [l1,l2]
 exact ⟨.bl _,H,I,rfl,q⟩
theorem Uj {X:Cx}(hu:X.A.units<cLine):OpR X (compareOp .NotEq) (ZO X.K true):=by
 rintro pins s σ H x y v u Q I rx ry ⟨a,b,kva,kvb,xs,ys,La,Lb,r,e1,e2,ha,hb,qa,qb,hh,q⟩
 subst e1 e2
 obtain rfl:v=Value.ref a:=rx
 obtain rfl:u=Value.ref b:=ry
 obtain ⟨_,da,va,ra,oa⟩:=jQ I.hok ha
 obtain ⟨_,db,vb,rb,ob⟩:=jQ I.hok hb
 have l1:va.length=kva.length:=ra.length.symm
 have l2:vb.length=kvb.length:=rb.length.symm
 refine PySem.W.keq_ne (r:=r) da db oa ob hu (fun e=>X0 rb qb ra qa (hh (by lia))) ?_
 rw [l1,l2]
 exact ⟨.bl _,H,I,rfl,q⟩
def UQ (ks:List Key)(xs:List D)(js:List Key)(ys:List D):Option Bool:=if ks.length=js.length then j4 js ys ks xs else some false
def eqR (neg:Bool):D->D->R D
 | .dic ks xs,.dic js ys=>match UQ ks xs js ys with
  | some b=>.ok (.bl (if neg=true then !b else b))
  | none=>.bad
 | x,y=>match eqF 12 x y with
  | some b=>.ok (.bl (if neg=true then !b else b))
  | none=>.bad
theorem xa {neg:Bool}:xO (eqR neg):=fun x y n h=>by
 unfold eqR at h
 split at h
 ·split at h<;>cases h
 ·split at h<;>cases h
theorem x9 {K:PySem.W.Frag}{neg:Bool}:OpB K (fun x y H Q=>WD K neg x y H Q\/ZO K neg x y H Q) (eqR neg):=by
 rintro H x y dx dy Lx Ly Q rx ry ⟨d,hg,q⟩
 unfold eqR at hg
 split at hg
 ·rename_i ks xs js ys
  obtain ⟨a,kva,L1,rfl,ha,_,hk,_,rs⟩:=rx
  obtain ⟨b,kvb,L2,rfl,hb,_,hj,_,qs⟩:=ry
  have l1:ks.length=kva.length:=by rw [<- hk,sO]
  have l2:js.length=kvb.length:=by rw [<- hj,sO]
  unfold UQ at hg
  by_cases hl:ks.length=js.length
  ·rw [if_pos hl] at hg
   cases hr:j4 js ys ks xs with
   | none=>rw [hr] at hg; cases hg
   | some r =>
    rw [hr] at hg
    cases hg
    refine .inr ⟨a,b,kva,kvb,xs,ys,_,_,r,rfl,rfl,.inl ha,.inl hb,rs,qs,fun _=>by rw [hk,hj]; exact hr,?_⟩
    have e:(kva.length==kvb.length&&r)=r:=by
     have:(kva.length==kvb.length)=true:=by simp; lia
     rw [this,Bool.true_and]
    rw [e]
    exact q _ H [] (Same.refl H) ⟨rfl,rfl⟩ (by simp) (fun a ha=>nomatch ha)
  ·rw [if_neg hl] at hg
   cases hg
   refine .inr ⟨a,b,kva,kvb,xs,ys,_,_,false,rfl,rfl,.inl ha,.inl hb,rs,qs,fun z=>absurd z (by lia),?_⟩
   rw [Bool.and_false]
   exact q _ H [] (Same.refl H) ⟨rfl,rfl⟩ (by simp) (fun a ha=>nomatch ha)
 ·split at hg
  ·rename_i b hb
   cases hg
   exact .inl ⟨dx,dy,Lx,Ly,b,rx,ry,hb,q _ H [] (Same.refl H) ⟨rfl,rfl⟩ (by simp) (fun a ha=>nomatch ha)⟩
  ·cases hg
theorem zM {X:Cx}(hu:X.A.units+12<cLine):OpR X (compareOp .Eq) (fun x y H Q=>WD X.K false x y H Q\/ZO X.K false x y H Q):=OpR.or (J0 hu) (Uh (by lia))
theorem uy {X:Cx}(hu:X.A.units+12<cLine):OpR X (compareOp .NotEq) (fun x y H Q=>WD X.K true x y H Q\/ZO X.K true x y H Q):=OpR.or (Qn hu) (Uj (by lia))
def Xh:D->Option Key
 | .int i=>some (.inl i)
 | .str x=>some (.inr x)
 | .non=>some .non
 | _=>none
def ixD:D->D->R D
 | .lst ds,.int i=>match atI ds i with
  | some d=>.ok d
  | none=>.bad
 | .tup ds,.int i=>match atI ds i with
  | some d=>.ok d
  | none=>.bad
 | .frl ds,.int i=>match atI ds i with
  | some d=>.ok d
  | none=>.bad
 | .str x,.int i=>if x.length<=sizeLine then (match atI x.cps.toList i with
  | some c=>.ok (.str ⟨#[c]⟩)
  | none=>.bad) else .bad
 | .dic ks ds,k=>match Xh k with
  | some k=>(match ui ks ds k with
   | some d=>.ok d
   | none=>.bad)
  | none=>.bad
 | _,_=>.bad
theorem z0t:xO ixD:=fun x y n h=>by
 unfold ixD at h
 split at h
 ·split at h<;>cases h
 ·split at h<;>cases h
 ·split at h<;>cases h
 ·split at h
  ·split at h<;>cases h
  ·cases h
 ·split at h
  ·split at h<;>cases h
  ·cases h
 ·cases h
theorem XF {K:PySem.W.Frag}{H:Hp}{d:D}{v:V}{L:List Addr}{k:Key}(h:Xh d=some k)(r:Rep K H d v L):v=kV k:=by
 cases d with
 | non=>cases h; exact r.1
 | int i=>cases h; exact r.1
 | str x=>cases h; exact r.1
 | _=>cases h
theorem Reps.atI {K:PySem.W.Frag}{H:Hp}{ds:List D}{vs:List V}{L:List Addr}{i:Int}{d:D}(r:Reps K H ds vs L)(h:L2.atI ds i=some d):∃ v L1,L2.atI vs i=some v/\Rep K H d v L1/\List.Sublist L1 L:=by
 unfold L2.atI at h ⊢
 rw [r.length]
 cases e:ixN ds.length i with
 | none=>rw [e] at h; cases h
 | some j =>
  rw [e] at h
  obtain ⟨v,L1,a,b,c⟩:=r.get h
  exact ⟨v,L1,a,b,c⟩
section
variable {X:Cx}{E:XK}{Γ:List Cl}{e a b:Expr}{es:List Expr}{t ta tb:Tn->R D}{u:Tn->R (List D)}{c ca cb:Rc}{pos p p2:Pos}
theorem RcOk.sub {O:Addr->Prop}{H:Hp}{L L':List Addr}(h:RcOk c O H L)(s:List.Sublist L' L):RcOk c O H L':=by
 cases c with
 | fresh=>exact ⟨h.1.sublist s,fun a ha=>h.2 a (s.subset ha)⟩
 | shr=>exact fun a ha=>h a (s.subset ha)
 | bor=>trivial
theorem post.bind2 {K:PySem.W.Frag}{O:Addr->Prop}{H H1:Hp}{Q Q':VK}{r:R D}{f:D->R D}(h:post K E O c H Q (r.bind f))(s:Same H H1)(hf:∀ d,r=.ok d->post K E O c H Q (f d)->∀ v H' L,Same H1 H'->Rep K H' d v L->RcOk ca O H1 L->Q' v H'):post K E O ca H1 Q' r:=by
 cases r with
 | ok d=>exact hf d rfl h
 | err n=>exact fun C H' e s'=>h C H' e (s.trans s')
 | bad=>exact h
theorem Xs {K:PySem.W.Frag}{H:Hp}{dx dy d:D}{x y:V}{Lx Ly:List Addr}{Q:VK}(hn:∀ ks ds,dx≠.dic ks ds)(h:ixD dx dy=.ok d)(rx:Rep K H dx x Lx)(ry:Rep K H dy y Ly)(q:∀ v L1,Rep K H d v L1->List.Sublist L1 Lx->Q v H):rIx K x y H Q:=by
 unfold ixD at h
 split at h
 ·split at h
  ·rename_i hd
   cases h
   obtain ⟨a,vs,L',rfl,ha,e,rs⟩:=rx
   subst e
   obtain ⟨v,L1,g1,g2,g3⟩:=rs.atI hd
   exact .inl ⟨a,vs,_,v,rfl,ry.1,SqL.of ha,g1,q v L1 g2 (g3.trans (List.sublist_cons_self _ _))⟩
  ·cases h
 ·split at h
  ·rename_i hd
   cases h
   obtain ⟨a,vs,rfl,ha,rs⟩:=rx
   obtain ⟨v,L1,g1,g2,g3⟩:=rs.atI hd
   exact .inr (.inl ⟨a,vs,_,v,rfl,ry.1,ha,g1,q v L1 g2 g3⟩)
  ·cases h
 ·split at h
  ·rename_i hd
   cases h
   obtain ⟨a,vs,rfl,ha,e,_,rs⟩:=rx
   subst e
   obtain ⟨v,L1,g1,g2,g3⟩:=rs.atI hd
   exact .inl ⟨a,vs,_,v,rfl,ry.1,ha.sq,g1,q v L1 g2 g3⟩
  ·cases h
 ·split at h
  ·rename_i hz
   split at h
   ·rename_i hd
    cases h
    exact .inr (.inr ⟨_,_,_,rx.1,ry.1,hz,hd,q _ [] ⟨rfl,rfl⟩ (pC _)⟩)
   ·cases h
  ·cases h
 ·rename_i ks ds
  exact absurd rfl (hn _ _)
 ·cases h
theorem zY (hu:X.A.units+1<cLine)(ha:ME X E Γ a ta ca)(hb:ME X E Γ b tb cb)(hs:autoParam (YR b) L2.au6._auto_1):ME X E Γ (.Subscript a b pos) (za ixD ta tb) ca:=by
 obtain ⟨te,p,q⟩:=ha
 obtain ⟨te',p',q'⟩:=hb
 refine ⟨fun σ H Q=>tOp (rIx X.K) te te' σ H Q\/US te te' σ H Q,fun pins s σ H Q I z=>?_,fun O σ H τ Q ok h=>?_⟩
 ·rcases z with z | z
  ·exact z0f QQ p p' hs pins s σ H Q I z
  ·exact UG hu p p' hs pins s σ H Q I z
 ·unfold za at h
  by_cases hd:∃ ks ds,ta τ=.ok (.dic ks ds)
  ·obtain ⟨ks,ds,hd⟩:=hd
   refine .inr (q O σ H τ _ ok (post.bind h fun dx hx h x H1 Lx s1 rx kx=>?_))
   rw [hd] at hx
   cases hx
   refine q' O σ H1 τ _ (ok.same s1) (post.bind2 h s1 fun dy _ h y H2 Ly s2 ry _=>?_)
   have h:post X.K E O ca H Q (match Xh dy with
    | some k=>(match ui ks ds k with
     | some d=>.ok d
     | none=>.bad)
    | none=>.bad):=h
   cases hk:Xh dy with
   | none=>rw [hk] at h; exact h.elim
   | some k =>
    rw [hk] at h
    dsimp only at h
    cases hl:ui ks ds k with
    | none=>rw [hl] at h; exact h.elim
    | some d =>
     rw [hl] at h
     obtain ⟨ad,kvs,L',rfl,had,e2,hks,_,rs⟩:=rx
     subst e2
     rw [<- hks] at hl
     obtain ⟨v,L1,g1,g2,g3⟩:=qc rs hl
     refine ⟨ad,v,rfl,?_,h v H2 L1 (s1.trans s2) (g2.same s2) (kx.sub (g3.trans (List.sublist_cons_self _ _)))⟩
     rw [XF hk ry,<- g1]
     exact DGet.k (s2 _ _ had)
  ·refine .inl (q O σ H τ _ ok (post.bind h fun dx hx h x H1 Lx s1 rx kx=>q' O σ H1 τ _ (ok.same s1) (post.bind2 h s1 fun dy _ h y H2 Ly s2 ry _=>?_)))
   cases hg:ixD dx dy with
   | ok d =>
    rw [hg] at h
    exact Xs (fun ks ds z=>hd ⟨ks,ds,by rw [hx,z]⟩) hg (rx.same s2) ry fun v L1 g1 g2=>h v H2 L1 (s1.trans s2) g1 (kx.sub g2)
   | err n=>exact absurd hg (z0t _ _ _)
   | bad=>rw [hg] at h; exact h.elim
def XQ:D->R D
 | .int i=>.ok (.int (-i))
 | _=>.bad
theorem Vs (ha:ME X E Γ a ta ca):ME X E Γ (.UnaryOp .USub a pos) (eUn XQ ta) .fresh:=by
 obtain ⟨te,p,q⟩:=ha
 refine ⟨_,z01 Qg p,fun O σ H τ Q ok h=>q O σ H τ _ ok (post.bind h fun d _ h v H1 L s1 r1 _=>?_)⟩
 cases d with
 | int i=>exact ⟨i,r1.1,h _ H1 [] s1 ⟨rfl,rfl⟩ RcOk.nil⟩
 | _=>exact h.elim
def uq {α:Type}(xs:List α)(lo hi:Option Int):List α:=(xs.drop (HT.sIx xs.length 0 lo)).take (HT.sIx xs.length xs.length hi-HT.sIx xs.length 0 lo)
def slD (x:D)(lo hi:Option Int):R D:=match x with
 | .lst ds=>if D.imms ds=true then .ok (.lst (uq ds lo hi)) else .bad
 | .str z=>if z.length<=sizeLine then .ok (.str (Txt.slice z lo hi)) else .bad
 | .tup ds=>if D.imms ds=true/\¬ (HT.sIx ds.length 0 lo=0/\HT.sIx ds.length ds.length hi=ds.length) then .ok (.tup (uq ds lo hi)) else .bad
 | _=>.bad
def eSl (t:Tn->R D)(tl th:Tn->R (Option Int)):Tn->R D:=fun τ=>(t τ).bind fun x=>(tl τ).bind fun l=>(th τ).bind fun h=>slD x l h
def yY:Tn->R (Option Int):=fun _=>.ok none
def yR (t:Tn->R D):Tn->R (Option Int):=fun τ=>(t τ).bind fun d=>match d with
 | .int i=>.ok (some i)
 | _=>.bad
def Kc (K:PySem.W.Frag)(E:XK)(H:Hp)(Q:Option Int->Hp->Prop):R (Option Int)->Prop
 | .ok o=>∀ H',Same H H'->Q o H'
 | .err n=>∀ C H',ErrC K n C->Same H H'->E (.ref C) none H'
 | .bad=>False
def MO (X:Cx)(E:XK)(Γ:List Cl)(e:Option Expr)(t:Tn->R (Option Int)):Prop :=
 ∃ to,PO X e to/\∀ O σ H τ Q,EOk X.K Γ O H σ τ->Kc X.K E H Q (t τ)->to σ H Q
theorem wc:MO X E Γ none yY:=⟨X6,VG,fun O σ H τ Q ok h=>h H (Same.refl H)⟩
theorem wb (h:ME X E Γ e t c):MO X E Γ (some e) (yR t):=by
 obtain ⟨te,p,q⟩:=h
 refine ⟨UL te,Uk p,fun O σ H τ Q ok h=>q O σ H τ _ ok ?_⟩
 unfold yR at h
 cases ht:t τ with
 | ok d =>
  rw [ht,R.ok_bind] at h
  refine fun v H' L s r _=>?_
  cases d with
  | int i=>exact ⟨i,r.1,h H' s⟩
  | _=>exact h.elim
 | err n=>rw [ht] at h; exact h
 | bad=>rw [ht] at h; exact h
theorem Reps.cut {K:PySem.W.Frag}{H:Hp}{ds:List D}{vs:List V}{L:List Addr}(r:Reps K H ds vs L)(lo hi:Option Int):∃ L',Reps K H (uq ds lo hi) (kN vs lo hi) L'/\List.Sublist L' L:=by
 obtain ⟨L1,a,b⟩:=r.drop (HT.sIx ds.length 0 lo)
 obtain ⟨L2,c,d⟩:=a.take (HT.sIx ds.length ds.length hi-HT.sIx ds.length 0 lo)
 refine ⟨L2,?_,d.trans b⟩
 unfold uq kN
 rw [r.length]
 exact c
theorem X2 {lo hi:Option Expr}{tl th:Tn->R (Option Int)}(he:ME X E Γ e t c)(hl:MO X E Γ lo tl)(hh:MO X E Γ hi th):ME X E Γ (.Subscript e (.Slice lo hi none p2) pos) (eSl t tl th) .fresh:=by
 obtain ⟨te,p,q⟩:=he
 obtain ⟨tl',pl,ql⟩:=hl
 obtain ⟨th',ph,qh⟩:=hh
 refine ⟨_,ZX (SlR.or X1 (SlR.or Wz WO)) p pl ph,fun O σ H τ Q ok h=>?_⟩
 unfold eSl at h
 refine q O σ H τ _ ok (post.bind h fun dx hx h x H1 Lx s1 rx kx=>ql O σ H1 τ _ (ok.same s1) ?_)
 cases h1:tl τ with
 | err n=>rw [h1] at h; exact fun C H' e s'=>h C H' e (s1.trans s')
 | bad=>rw [h1] at h; exact h
 | ok l =>
  rw [h1,R.ok_bind] at h
  refine fun H2 s2=>qh O σ H2 τ _ ((ok.same s1).same s2) ?_
  cases h2:th τ with
  | err n=>rw [h2] at h; exact fun C H' e s'=>h C H' e ((s1.trans s2).trans s')
  | bad=>rw [h2] at h; exact h
  | ok g =>
   rw [h2,R.ok_bind] at h
   refine fun H3 s3=>?_
   have s03:=(s1.trans s2).trans s3
   have rx:=(rx.same s2).same s3
   unfold slD at h
   cases dx with
   | lst ds =>
    dsimp only at h
    by_cases hz:D.imms ds=true
    ·rw [if_pos hz] at h
     obtain ⟨a,vs,L',rfl,ha,_,rs⟩:=rx
     obtain ⟨L2,rc,_⟩:=(yp rs hz).cut l g
     have e0:L2=[]:=pN.mp ‹_›
     subst e0
     refine .inl ⟨a,vs,rfl,SqL.of ha,fun p hp=>u5 rc hp fun v H' L s r n1 n2=>h v H' L (s03.trans s) r ⟨n1,fun a ha=>s03.non (n2 a ha)⟩⟩
    ·rw [if_neg hz] at h; exact h.elim
   | str z =>
    dsimp only at h
    by_cases hz:z.length<=sizeLine
    ·rw [if_pos hz] at h
     exact .inr (.inl ⟨z,rx.1,hz,h _ H3 [] s03 ⟨rfl,rfl⟩ RcOk.nil⟩)
    ·rw [if_neg hz] at h; exact h.elim
   | tup ds =>
    dsimp only at h
    by_cases hz:D.imms ds=true/\¬ (HT.sIx ds.length 0 l=0/\HT.sIx ds.length ds.length g=ds.length)
    ·rw [if_pos hz] at h
     obtain ⟨a,vs,rfl,ha,rs⟩:=rx
     obtain ⟨L2,rc,_⟩:=(yp rs hz.1).cut l g
     have e0:L2=[]:=pN.mp ‹_›
     subst e0
     exact .inr (.inr ⟨a,vs,rfl,ha,by rw [rs.length]; exact hz.2,fun p hp=>h _ _ [] (s03.trans (Same.new hp)) ⟨p,_,rfl,SqT.of yb,rc.same (Same.new hp)⟩ RcOk.nil⟩)
    ·rw [if_neg hz] at h; exact h.elim
   | _=>exact h.elim
end
section
variable {X:Cx}
def yh:List D->R D
 | [.lst ds]=>.ok (.int ds.length)
 | [.tup ds]=>.ok (.int ds.length)
 | [.frl ds]=>.ok (.int ds.length)
 | [.str x]=>if x.length<=sizeLine then .ok (.int x.length) else .bad
 | [.dic ks _]=>.ok (.int ks.length)
 | _=>.bad
theorem yN:wq yh:=fun ds n h=>by
 rcases ds with _ | ⟨d,_ | ⟨_,_⟩⟩
 ·cases h
 ·cases d with
  | str x =>
   replace h:(if x.length<=sizeLine then R.ok (D.int x.length) else .bad)=R.err n:=h
   split at h<;>cases h
  | _=>cases h
 ·cases d<;>cases h
theorem zN:CallR X (.builtin "len") (fun xs H Q=>(∃ p ys,xs=[.ref p]/\(SqL X.K H p ys\/SqT X.K H p ys)/\Q (.int ys.length) H)\/(∃ z,xs=[.str z]/\z.length<=sizeLine/\Q (.int z.length) H)\/∃ a kvs,xs=[V.ref a]/\H a=some (.dK kvs)/\Q (.int kvs.length) H) :=
 CallR.or kL (CallR.or Z8 XJ)
theorem wG {K:PySem.W.Frag}{H:Hp}{d:D}{xs:List V}{L:List Addr}(r:Reps K H [d] xs L):∃ v,xs=[v]/\Rep K H d v L:=by
 obtain ⟨v,vs',L1,L2,e1,e2,r1,r2⟩:=r
 obtain ⟨rfl,rfl⟩:=r2
 rw [sJ] at e2
 subst e2
 exact ⟨v,e1,r1⟩
theorem Kk {K:PySem.W.Frag}{H:Hp}{d d':D}{xs:List V}{L:List Addr}(r:Reps K H [d,d'] xs L):∃ v v' L1 L2,xs=[v,v']/\L=L1++L2/\Rep K H d v L1/\Rep K H d' v' L2:=by
 obtain ⟨v,vs',L1,L2,e1,e2,r1,r2⟩:=r
 obtain ⟨v',rfl,r3⟩:=wG r2
 exact ⟨v,v',L1,L2,e1,e2,r1,r3⟩
theorem yL {K:PySem.W.Frag}:ClB K (fun xs H Q=>(∃ p ys,xs=[.ref p]/\(SqL K H p ys\/SqT K H p ys)/\Q (.int ys.length) H)\/(∃ z,xs=[.str z]/\z.length<=sizeLine/\Q (.int z.length) H)\/∃ a kvs,xs=[V.ref a]/\H a=some (.dK kvs)/\Q (.int kvs.length) H) yh:=by
 rintro H xs ds L Q r ⟨d,hg,q⟩
 have fin:∀ n:Int,d=.int n->Q (.int n) H:=fun n e=>q _ H [] (Same.refl H) (e▸⟨rfl,rfl⟩) (by simp) (fun a ha=>nomatch ha)
 rcases ds with _ | ⟨e,_ | ⟨_,_⟩⟩
 ·cases hg
 ·cases e with
  | lst es =>
   cases hg
   obtain ⟨v,rfl,a,vs,L',rfl,ha,_,rs⟩:=wG r
   exact .inl ⟨a,vs,rfl,.inl (SqL.of ha),fin _ (by rw [rs.length])⟩
  | tup es =>
   cases hg
   obtain ⟨v,rfl,a,vs,rfl,ha,rs⟩:=wG r
   exact .inl ⟨a,vs,rfl,.inr ha,fin _ (by rw [rs.length])⟩
  | frl es =>
   cases hg
   obtain ⟨v,rfl,a,vs,rfl,ha,_,_,rs⟩:=wG r
   exact .inl ⟨a,vs,rfl,.inl ha.sq,fin _ (by rw [rs.length])⟩
  | str x =>
   replace hg:(if x.length<=sizeLine then R.ok (D.int x.length) else .bad)=R.ok d:=hg
   split at hg
   ·rename_i hz
    cases hg
    obtain ⟨v,rfl,rfl,_⟩:=wG r
    exact .inr (.inl ⟨_,rfl,hz,fin _ rfl⟩)
   ·cases hg
  | dic ks es =>
   cases hg
   obtain ⟨v,rfl,a,kvs,L',rfl,ha,_,hk,_⟩:=wG r
   exact .inr (.inr ⟨a,kvs,rfl,ha,fin _ (by rw [<- hk,sO])⟩)
  | _=>cases hg
 ·cases e<;>cases hg
def ur:List D->Option (List Int)
 | []=>some []
 | .int i::ds=>(ur ds).map (i::·)
 | _=>none
theorem qG {K:PySem.W.Frag}{H:Hp}:∀ {ds:List D} {vs:List V} {L:List Addr} {ns:List Int},Reps K H ds vs L->ur ds=some ns->vs=ns.map V.int
 | [],_,_,ns,hq4,h=>by
  obtain ⟨e,_⟩:=hq4
  subst e; cases h; rfl
 | .int i::ds,_,_,ns,hq4,h=>by
  obtain ⟨v,vs',L1,L2,e1,_,r1,r2⟩:=hq4
  subst e1
  have h:(ur ds).map (i::·)=some ns:=h
  cases hi:ur ds with
  | none=>rw [hi] at h; cases h
  | some ms =>
   rw [hi] at h
   cases h
   rw [r1.1,qG r2 hi]; rfl
 | .non::_,_,_,_,_,h=>by cases h
 | .bl _::_,_,_,_,_,h=>by cases h
 | .str _::_,_,_,_,_,h=>by cases h
 | .tup _::_,_,_,_,_,h=>by cases h
 | .lst _::_,_,_,_,_,h=>by cases h
 | .dic _ _::_,_,_,_,_,h=>by cases h
 | .frl _::_,_,_,_,_,h=>by cases h
theorem jm:∀ {ns:List Int} {us:List Value},Vals (ns.map V.int) us->∃ xs:List (Int×Tok),us=xs.map (fun p=>Value.int p.1 p.2)/\xs.map (·.1)=ns
 | [],us,r=>by cases r; exact ⟨[],rfl,rfl⟩
 | n::ns,_,r=>by
  rw [tG] at r
  cases r with
  | cons r1 r2 =>
   obtain ⟨t,rfl⟩:=r1
   obtain ⟨xs,rfl,e⟩:=jm r2
   exact ⟨(n,t)::xs,rfl,by simp [e]⟩
def ug:List D->R D
 | [.lst ds]=>match ur ds with
  | some ns=>.ok (.int ns.sum)
  | none=>.bad
 | _=>.bad
theorem Vl:wq ug:=fun ds n h=>by
 unfold ug at h
 split at h
 ·split at h<;>cases h
 ·cases h
def Qd (K:PySem.W.Frag):List V->Hp->VK->Prop:=fun xs H Q=>∃ (p:Addr) (ns:List Int),xs=[.ref p]/\SqL K H p (ns.map V.int)/\Q (.int ns.sum) H
theorem Z1 (xs:List (Int×Tok)):preSum (numAt xs.toArray) xs.toArray.size=(xs.map (·.1)).sum:=by
 rw [preSum_eq,List.take_of_length_le (by simp)]
theorem qr (hc:X.calm=true):CallR X (.builtin "sum") (Qd X.K):=by
 intro pins s σ H xs us Q I r h
 obtain ⟨p,ns,rfl,hs,q⟩:=h
 obtain ⟨u,rfl,ru⟩:=uB r
 obtain rfl:u=Value.ref p:=ru
 obtain ⟨its,rv,pl,hz⟩:=I.list hs
 obtain ⟨ys,rfl,e⟩:=jm rv
 have hl:s.heap.IsList p (intItems ys.toArray):=by
  have:=pl.isList
  simpa [intItems] using this
 refine sum_intListG (I.ok.hd hc) hl fun h' tk t' hk=>⟨.int ns.sum,H,I.kept hk,⟨t',?_⟩,q⟩
 rw [Z1,e]
theorem We {K:PySem.W.Frag}:ClB K (Qd K) ug:=by
 rintro H xs ds L Q r ⟨d,hg,q⟩
 unfold ug at hg
 split at hg
 ·split at hg
  ·rename_i ds ns hn
   cases hg
   obtain ⟨v,rfl,a,vs,L',rfl,ha,_,rs⟩:=wG r
   exact ⟨a,ns,rfl,by rw [<- qG rs hn]; exact SqL.of ha,q _ H [] (Same.refl H) ⟨rfl,rfl⟩ (by simp) (fun a ha=>nomatch ha)⟩
  ·cases hg
 ·cases hg
def Wt:List D->R D
 | [.int i]=>.ok (.int i)
 | [.bl k]=>.ok (.int (if k then 1 else 0))
 | _=>.bad
theorem Jt:wq Wt:=fun ds n h=>by
 rcases ds with _ | ⟨d,_ | ⟨_,_⟩⟩
 ·cases h
 ·cases d<;>cases h
 ·cases d<;>cases h
theorem Ql {K:PySem.W.Frag}:ClB K (fun xs H Q=>(∃ i,xs=[.int i]/\Q (.int i) H)\/∃ k,xs=[.bl k]/\Q (.int (if k then 1 else 0)) H) Wt:=by
 rintro H xs ds L Q r ⟨d,hg,q⟩
 rcases ds with _ | ⟨e,_ | ⟨_,_⟩⟩
 ·cases hg
 ·cases e with
  | int i =>
   cases hg
   obtain ⟨v,rfl,rfl,_⟩:=wG r
   exact .inl ⟨_,rfl,q _ H [] (Same.refl H) ⟨rfl,rfl⟩ (by simp) (fun a ha=>nomatch ha)⟩
  | bl k =>
   cases hg
   obtain ⟨v,rfl,rfl,_⟩:=wG r
   exact .inr ⟨_,rfl,q _ H [] (Same.refl H) ⟨rfl,rfl⟩ (by simp) (fun a ha=>nomatch ha)⟩
  | _=>cases hg
 ·cases e<;>cases hg
def xj:List D->R D
 | [.lst ds]=>if D.imms ds=true then .ok (.lst ds) else .bad
 | [.tup ds]=>if D.imms ds=true then .ok (.lst ds) else .bad
 | _=>.bad
theorem ue:wq xj:=fun ds n h=>by
 unfold xj at h
 split at h
 ·split at h<;>cases h
 ·split at h<;>cases h
 ·cases h
theorem u9 {K:PySem.W.Frag}:ClB K (fun xs H Q=>∃ p ys,xs=[.ref p]/\(SqL K H p ys\/SqT K H p ys)/\∀ l,H l=none->Q (.ref l) (upd H l (.lst ys))) xj:=by
 rintro H xs ds L Q r ⟨d,hg,q⟩
 unfold xj at hg
 split at hg
 ·split at hg
  ·rename_i hz
   cases hg
   obtain ⟨v,rfl,a,vs,L',rfl,ha,_,rs⟩:=wG r
   exact ⟨a,vs,rfl,.inl (SqL.of ha),fun l hl=>u5 (yp rs hz) hl q⟩
  ·cases hg
 ·split at hg
  ·rename_i hz
   cases hg
   obtain ⟨v,rfl,a,vs,rfl,ha,rs⟩:=wG r
   exact ⟨a,vs,rfl,.inr ha,fun l hl=>u5 (yp rs hz) hl q⟩
  ·cases hg
 ·cases hg
def jx:D->String
 | .non=>"NoneType"
 | .bl _=>"bool"
 | .int _=>"int"
 | .str _=>"str"
 | .tup _=>"tuple"
 | .lst _=>"list"
 | .frl _=>"list"
 | .dic _ _=>"dict"
theorem XD (d:D):jx d∈qy:=by cases d<;>simp [jx,qy]
def Wh (d:D)(T:String):Bool:=jx d==T||(jx d=="bool"&&T=="int")
def z0j (K:PySem.W.Frag):List V->Hp->VK->Prop:=fun xs H Q=>∃ x T d L,xs=[x,.ty T]/\Rep K H d x L/\T∈(["int","bool","str","list","tuple","dict"]:List String)/\Q (.bl (Wh d T)) H
theorem UC {K:PySem.W.Frag}{d:D}{U:String}(hU:U∈(["int","bool","str","list","tuple","dict"]:List String)):PySem.W.kitOne K (.type (jx d)) (.type U)=some (Wh d U):=by
 have hT:=XD d
 unfold Wh
 simp only [sG,pA,or_false] at hU
 rcases hU with rfl | rfl | hU
 ·rw [Uq hT]
  simp
 ·rw [Wc hT]
  have:(jx d=="bool"&&("bool":String)=="int")=false:=by simp
  rw [this,Bool.or_false]
 ·rw [W8 hT (by simpa using hU)]
  have:(jx d=="bool"&&U=="int")=false:=by
   rcases hU with rfl | rfl | rfl | rfl<;>simp
  rw [this,Bool.or_false]
theorem Vb:CallR X (.builtin "isinstance") (z0j X.K):=by
 intro pins s σ H xs us Q I r h
 obtain ⟨x,T,d,L,rfl,rd,hT,q⟩:=h
 obtain ⟨u,u2,rfl,rx,rT⟩:=X9 r
 obtain rfl:u2=Value.type T:=rT
 have hk:=UC (K:=X.K) (d:=d) hT
 have fin:∀ tk,EP X pins σ Q (.bool (Wh d T)) { s with toks:=tk }:=fun tk=>⟨.bl _,H,I.tok tk,rfl,q⟩
 cases d with
 | non=>obtain ⟨rfl,_⟩:=rd; exact xX I rx .non hk fin
 | bl b=>obtain ⟨rfl,_⟩:=rd; exact xX I rx (.bl b) hk fin
 | int b=>obtain ⟨rfl,_⟩:=rd; exact xX I rx (.int b) hk fin
 | str b=>obtain ⟨rfl,_⟩:=rd; exact xX I rx (.str b) hk fin
 | lst _=>obtain ⟨a,_,_,rfl,e,_⟩:=rd; exact xX I rx (.lst e) hk fin
 | frl _ =>
  obtain ⟨a,vs,rfl,ha,_⟩:=rd
  obtain rfl:u=Value.ref a:=rx
  obtain ⟨its,_,⟨o,n,h1,h2,_⟩,_⟩:=I.list ha.sq
  exact PySem.W.kia_one PySem.W.kitx_list I.kIn ⟨o,h1,h2⟩ hk (fun z=>nomatch z) fin
 | dic _ _=>obtain ⟨a,_,_,rfl,e,_⟩:=rd; exact xX I rx (.dK e) hk fin
 | tup _ =>
  obtain ⟨a,vs,rfl,ha,_⟩:=rd
  obtain rfl:u=Value.ref a:=rx
  obtain ⟨its,_,⟨o,h1,h2,_⟩,_⟩:=I.tuple ha
  exact PySem.W.kia_one PySem.W.kitx_tuple I.kIn ⟨o,h1,h2⟩ hk (fun z=>nomatch z) fin
end
section
variable {X:Cx}{E:XK}{Γ:List Cl}{e c':Expr}{t:Tn->R D}{c:Rc}{pos p:Pos}
def xx (T:String):D->R D:=fun d=>.ok (.bl (Wh d T))
theorem wy {T:String}(hT:T∈(["int","bool","str","list","tuple","dict"]:List String))(hg:Gl X "isinstance")(hm:X.mg "isinstance"=none)(hc:PE X c' (tC (.ty T)))(he:ME X E Γ e t c)(hs:autoParam (starEach [e,c'] X.env=(false,eval e X.env)::starEach [c'] X.env) L2.au3._auto_1)(hs2:autoParam (starEach [c'] X.env=(false,eval c' X.env)::starEach [] X.env) L2.au3._auto_1)
  (hpl:autoParam ((backTo pos (starEach [c'] X.env)).any (·.1)=false) L2.au3._auto_1):ME X E Γ (.Call (.Name "isinstance" p) [e,c'] [] pos) (eUn (xx T) t) .fresh:=by
 obtain ⟨te,p',q⟩:=he
 refine ⟨_,vh (x:="isinstance") Vb hg hm Boot.«isinstance» (yi p' (yi hc wA hs2) hs) (by decide) (by decide) hs hpl,fun O σ H τ Q ok h=>q O σ H τ _ ok (post.bind h fun d _ h v H1 L s1 r1 _=>?_)⟩
 exact ⟨v,T,d,L,rfl,r1,hT,h _ H1 [] s1 ⟨rfl,rfl⟩ RcOk.nil⟩
end
section
variable {X:Cx}{E:XK}{Γ:List Cl}{e k v:Expr}{t:Tn->R D}{u:Tn->R (List D)}{c ca cb:Rc}{pos p:Pos}{ks:List Key}{keys:List (Option Expr)}{values:List Expr}
end
theorem Room.u12 {k:Nat}{A:Around}(r:Room k A):A.units+12<cLine:=by have:=r.un; lia
theorem Room.u1 {k:Nat}{A:Around}(r:Room k A):A.units+1<cLine:=by have:=r.un; lia
def kM (outer:Scope)(N N':List Str)(fr:List (Option Nat))(scope:Scope):Bool :=
 decide (scope.kind=.function)&&scope.names.all (fun y=>decide (y.2≠.cell))&&scope.names.all (fun y=>decide (y.2≠.local)||decide (scope.names.lookup y.1=some .local)) &&
 scope.names.all (fun y=>decide (y.2≠.free)||decide (outer.names.lookup y.1=some .cell)||decide (outer.names.lookup y.1=some .free))&&decide (fr.length=N'.length) &&
 (List.range fr.length).all fun j=>match fr[j]?,N'[j]? with
  | some (some i),some x=>decide (N[i]?=some x)&&decide (scope.names.lookup x=some .free)&&(decide (outer.names.lookup x=some .cell)||decide (outer.names.lookup x=some .free))
  | _,_=>true
theorem Yg {X:Cx}{N':List Str}{fr:List (Option Nat)}{scope:Scope}(hc:∀ x,(X.env.scope.names.lookup x=some .cell\/X.env.scope.names.lookup x=some .free)->∃ c,X.env.cells.lookup x=some c)(h:kM X.env.scope X.N N' fr scope=true):CompScope X N' fr scope:=by
 unfold kM at h
 simp only [sP,decide_eq_true_eq,rE,Bool.or_eq_true] at h
 obtain ⟨⟨⟨⟨⟨h1,h2⟩,h3⟩,h4⟩,h5⟩,h6⟩:=h
 refine ⟨h1,h2,fun y hy e=>?_,fun y hy e=>?_,h5,fun j i x e1 e2=>?_⟩
 ·rcases h3 y hy with z | z
  ·exact absurd e z
  ·exact z
 ·rcases h4 y hy with (z | z) | z
  ·exact absurd e z
  ·exact hc y.1 (.inl z)
  ·exact hc y.1 (.inr z)
 ·have hj:j<fr.length:=(sI.mp e1).1
  have:=h6 j (rR.mpr hj)
  rw [e1,e2] at this
  simp only [sP,decide_eq_true_eq,Bool.or_eq_true] at this
  exact ⟨this.1.1,this.1.2,this.2⟩
theorem wt {CX:CXT}{P:Program}{w:World}{K:PySem.W.Frag}{mg:Str->Option Value}{base:Heap}{N:List Str}{qual:Str}{sc:Scope}{f:Addr}{cd:Value}{A:Around}{outer:List Env}{s:Shared}{H:Hp}{E:XK}{N':List Str}{fr:List (Option Nat)}{scope:Scope}
  (nf:∀ y∈sc.names,y.2≠.free) (h:kM sc N N' fr scope=true):CompScope (xl CX P w K mg base N qual sc f cd A outer s H E) N' fr scope :=
 Yg (X:=xl CX P w K mg base N qual sc f cd A outer s H E) (fun x hx=>by
  rcases hx with hx | hx
  ·exact vX hx
  ·exact absurd rfl (nf _ (PySem.mem_of_lookup hx))) h
section
variable {X:Cx}{E:XK}{Γ Γ1 Γ' Γl:List Cl}{e:Expr}{t:Tn->R D}{c:Rc}{pos pos':Pos}
def MGs (X:Cx)(es:List Expr)(is:List Nat):Prop:=∃ g,PGs X es g/\∀ (vs:List V) (σ:St) (H:Hp) (Q:St->Hp->Prop),vs.length=is.length->Q (xg σ is vs) H->g vs σ H Q
theorem Xb:MGs X [] []:=⟨KJ,U0,fun vs σ H Q hl q=>by
 have:vs=[]:=pI.mp hl
 subst this
 exact ⟨rfl,q⟩⟩
theorem uN {x:Expr}{es:List Expr}{i:Nat}{is:List Nat}(h:PG X x (kD i))(r:MGs X es is)(hs:autoParam ((assignEach (x::es) X.env).map (·.2)=assign x X.env::(assignEach es X.env).map (·.2)) L2.au3._auto_1):MGs X (x::es) (i::is):=by
 obtain ⟨g,p,q⟩:=r
 refine ⟨_,V3 h p hs,fun vs σ H Q hl k=>?_⟩
 cases vs with
 | nil=>cases hl
 | cons v vs=>exact ⟨v,vs,rfl,q vs _ H Q (by simpa using hl) k⟩
theorem YX {es:List Expr}{k:Nat}{is:List Nat}(hc:X.calm=true)(h:MGs X es is)(hn:autoParam ((assignEach es X.env).length=is.length) L2.au3._auto_1)(hst:autoParam ((assignEach es X.env).findIdx? (·.1)=none) L2.au3._auto_1):MG X (.Tuple es k pos) (.many is):=by
 obtain ⟨g,p,q⟩:=h
 exact ⟨g,Qm hc p hn hst,q⟩
theorem yU {i:Nat}{x:Expr}(h:PG X x (kD i)):MG X x (.one i):=h
def ka (g:Tgt)(t:Tn->R D):Tn->R Fl:=fun τ=>(t τ).bind fun d=>(g.asg d τ).bind fun τ1=>.ok (.nx τ1)
theorem Jh {tg:Expr}{g:Tgt}(h:ME X E Γ e t c)(hc:c≠.bor)(hg:MG X tg g)(hn:∀ i∈g.slots,i<Γ.length)(hs:autoParam (swapsWithSole [tg] e pos.line X.env=pure false) L2.au3._auto_1)(hw:autoParam (swappedStores [tg] e X.env=pure none) L2.au3._auto_1)
  (h1:autoParam ((assignEach [tg] X.env).map (·.2)=[assign tg X.env]) L2.au3._auto_1):MS X E Γl Γ (.Assign [tg] e pos) (ka g t) (shrAll Γ g.slots):=by
 obtain ⟨te,p,q⟩:=h
 refine ⟨_,Wn p hg.pg hs hw h1,fun B σ H τ Z ok h=>?_⟩
 obtain ⟨O,eo,Od,hB⟩:=ok.base
 refine q O σ H τ _ eo ?_
 unfold ka at h
 cases ht:t τ with
 | ok d =>
  rw [ht,R.ok_bind] at h
  refine fun v H' L s r k=>?_
  obtain ⟨B1,sB,ok1,hB1⟩:=hB H' s
  have hL:∀ a∈L,B1 a≠none:=fun a ha=>by rw [hB1 a (k.shr eo.dom hc a ha)]; exact r.there ha
  cases ha:g.asg d τ with
  | ok τ1 =>
   rw [ha,R.ok_bind] at h
   exact WC ok1 r hL hn ha fun σ1 ok2=>h σ1 H' (ok2.rebase sB)
  | err n =>
   cases g with
   | one i=>cases ha
   | many is =>
    unfold Tgt.asg at ha
    split at ha
    ·cases ha
    ·split at ha<;>cases ha
    ·cases ha
  | bad=>rw [ha] at h; exact h.elim
 | err n=>rw [ht] at h; exact fun C H' e s=>h C H' e (ok.ext.trans s)
 | bad=>rw [ht] at h; exact h
theorem PIp.or {op:Operator}{r r':R2}(h:PIp X op r)(h':PIp X op r'):PIp X op (fun x y H Q=>r x y H Q\/r' x y H Q):=by
 intro pins s σ H x y v u Q I r1 r2 z
 rcases z with z | z
 ·exact h pins s σ H x y v u Q I r1 r2 z
 ·exact h' pins s σ H x y v u Q I r1 r2 z
structure Bl (mg:Str->Option Value):Prop where
 isinstance:mg "isinstance"=none
 int:mg "int"=none
 bool:mg "bool"=none
 str:mg "str"=none
 dict:mg "dict"=none
 list:mg "list"=none
 tuple:mg "tuple"=none
 len:mg "len"=none
 sum:mg "sum"=none
 max:mg "max"=none
 min:mg "min"=none
 all:mg "all"=none
 range:mg "range"=none
 enumerate:mg "enumerate"=none
 zip:mg "zip"=none
end
section
variable {X:Cx}{E:XK}{Γ Γ1 Γ' Γl:List Cl}{e:Expr}{t:Tn->R D}{c:Rc}{pos pos':Pos}
theorem mn (i:Nat)(k:Cl){x:Str}(hN:autoParam (X.N[i]?=some x) L2.au3._auto_1)(hk:autoParam (Γ[i]?=some k) L2.au3._auto_1)(hd:autoParam (k≠.dead) L2.au1._auto_1)(hv:autoParam (Vis X.env.scope x) L2.au5._auto_1)(hb:autoParam ((x==("__debug__":Str))=false) L2.au1._auto_1)(hcd:autoParam ((x==("__classdict__":Str))=false) L2.au1._auto_1) :
  ME X E Γ (.Name x pos) (z7 i) (Rc.of k):=UD hN hk hd hv hb hcd
theorem mvn (i:Nat){x:Str}(hN:autoParam (X.N[i]?=some x) L2.au3._auto_1)(hk:autoParam (Γ[i]?=some .own) L2.au3._auto_1)(hv:autoParam (Vis X.env.scope x) L2.au5._auto_1)(hb:autoParam ((x==("__debug__":Str))=false) L2.au1._auto_1)(hcd:autoParam ((x==("__classdict__":Str))=false) L2.au1._auto_1) :
  MV X E Γ (.Name x pos) (z7 i) (Γ.set i .dead):=U9 hN hk hv hb hcd
theorem st (i:Nat){x:Str}(nd:X.N.Nodup)(h:MV X E Γ e t Γ1)(hi:autoParam (X.N[i]?=some x) L2.au3._auto_1)(hl:autoParam (i<Γ1.length) L2.au1._auto_1)(hx:autoParam (Loc X.env.scope x) L2.au7._auto_1)(hs:autoParam (swapsWith e (some (.Name x pos')) pos.line X.env=pure false) L2.au3._auto_1)(hf:autoParam (X.fn x=true\/X.env.scope.names.lookup x=some .local) L2.au0._auto_1) :
  MS X E Γl Γ (.Assign [.Name x pos'] e pos) (zp i t) (Γ1.set i .own):=Qz nd hi hl h hx hs hf
theorem stS (i:Nat){x:Str}(nd:X.N.Nodup)(h:ME X E Γ e t c)(hc:autoParam (c≠.bor) L2.au1._auto_1)(hi:autoParam (X.N[i]?=some x) L2.au3._auto_1)(hl:autoParam (i<Γ.length) L2.au1._auto_1)(hx:autoParam (Loc X.env.scope x) L2.au7._auto_1)(hs:autoParam (swapsWith e (some (.Name x pos')) pos.line X.env=pure false) L2.au3._auto_1)(hf:autoParam (X.fn x=true\/X.env.scope.names.lookup x=some .local) L2.au0._auto_1) :
  MS X E Γl Γ (.Assign [.Name x pos'] e pos) (zp i t) (Γ.set i .shr):=Uc nd hi hl h hc hx hs hf
theorem pgn (i:Nat){x:Str}(nd:X.N.Nodup)(hi:autoParam (X.N[i]?=some x) L2.au3._auto_1)(hx:autoParam (Loc X.env.scope x) L2.au7._auto_1)(hf:autoParam (X.fn x=true\/X.env.scope.names.lookup x=some .local) L2.au0._auto_1):PG X (.Name x pos) (kD i):=U6 nd hi hx hf
theorem app (i:Nat){x:Str}{p0 p1 p2:Pos}(h:MV X E Γ e t Γ1)(hN:autoParam (X.N[i]?=some x) L2.au3._auto_1)(h0:autoParam (Γ[i]?=some .own) L2.au3._auto_1)(hk:autoParam (Γ1[i]?=some .own) L2.au3._auto_1)(hv:autoParam (Vis X.env.scope x) L2.au5._auto_1)(hb:autoParam ((x==("__debug__":Str))=false) L2.au1._auto_1)(hcd:autoParam ((x==("__classdict__":Str))=false) L2.au1._auto_1)
  (hbase:autoParam (attributeBase (.Name x p0) "append" X.env (eval (.Name x p0) X.env)=eval (.Name x p0) X.env) L2.au3._auto_1)
  (hfew:autoParam (((backTo p2 (starEach [e] X.env)).all (fun x=>!x.1)&&(backToKw p2 (keywordEach [] X.env)).all (fun x=>x.1.isSome)&&decide ([e].length+([]:List Keyword).length+(if ([]:List Keyword).isEmpty then 0 else 1)<30))=true) L2.au3._auto_1)
  (hline:autoParam ((p1.endLine==p2.line)=true) L2.au3._auto_1) (hs:autoParam (starEach [e] X.env=(false,eval e X.env)::starEach [] X.env) L2.au3._auto_1) (hplain:autoParam ((backTo p2 (starEach [] X.env)).any (·.1)=false) L2.au3._auto_1)
  (hsw:autoParam (swapsWith (.Call (.Attribute (.Name x p0) "append" p1) [e] [] p2) none pos.line X.env=pure false) L2.au3._auto_1) :
  MS X E Γl Γ (.Expr (.Call (.Attribute (.Name x p0) "append" p1) [e] [] p2) pos) (vN i t) Γ1:=Xy hN h0 h hk hv hb hcd hbase hfew hline hs hplain hsw
theorem put (i:Nat){x:Str}{p0 p1:Pos}{ix:Expr}{ti:Tn->R D}(h:MV X E Γ e t Γ1)(hi:ME X E Γ1 ix ti c)(hN:autoParam (X.N[i]?=some x) L2.au3._auto_1)(hk:autoParam (Γ1[i]?=some .own) L2.au3._auto_1)(hv:autoParam (Vis X.env.scope x) L2.au5._auto_1)(hb:autoParam ((x==("__debug__":Str))=false) L2.au1._auto_1)(hcd:autoParam ((x==("__classdict__":Str))=false) L2.au1._auto_1)
  (ha:autoParam (∀ v,assign (.Subscript (.Name x p0) ix p1) X.env v=(do
   let ov <- holding [v] (eval (.Name x p0) X.env)
   let iv <- holding [v,ov] (eval ix X.env)
   standAt p1
   holding [v,ov,iv] (setItem ov iv v)
   release [v,ov,iv] [])) L2.au2._auto_1)
  (hs:autoParam (swapsWithSole [.Subscript (.Name x p0) ix p1] e pos.line X.env=pure false) L2.au3._auto_1) (hw:autoParam (swappedStores [.Subscript (.Name x p0) ix p1] e X.env=pure none) L2.au3._auto_1)
  (h1:autoParam ((assignEach [.Subscript (.Name x p0) ix p1] X.env).map (·.2)=[assign (.Subscript (.Name x p0) ix p1) X.env]) L2.au3._auto_1) :
  MS X E Γl Γ (.Assign [.Subscript (.Name x p0) ix p1] e pos) (Jk i t ti) Γ1:=QO hN h hi hk hv hb hcd ha hs hw h1
end
section
variable {P:Program}{w:World}{K:PySem.W.Frag}{mg:Str->Option Value}{base:Heap}{x:Str}{st:Stmt}{N ps:List Str}{k:Nat}{t:Tn->R Fl}{Γ':List Cl}
theorem JF {f:Addr}{oc:Value}{od an:Option Addr}{osl:Array (Option Value)}{kV doc pm cdv ct:Value}(lk:K.lookup f=some ⟨oc,od,.func (PySem.W.fnOf x x (defArgs st) (defBody st) (defScope st) .none kV doc pm an cdv ct),osl⟩)(hcd:PySem.W.codeIn K cdv x=true)
  (S:FnScope N ps (defScope st)) (hn:ps.length<=N.length)
  (hbody:∀ (f:Addr) (cdv:Value) (A:Around) (outer:List Env) (s:Shared) (H:Hp) (E:XK),Room k (A.deeper (envOfC x (defScope st) s.heap.objs.size f cdv)) ->
   MSs (xl (cxx P w) P w K mg base N x (defScope st) f cdv A outer s H E) E [] (qP N.length ps.length) (defBody st) t Γ') :
  FnOk P w K mg base (cxx P w) (k+1) f (PySem.W.fnOf x x (defArgs st) (defBody st) (defScope st) .none kV doc pm an cdv ct) ps (spM K (zy N.length t) ps.length):=by
 refine WQ lk hcd S (fun vs H Q E h=>h.1) fun A outer s H vs Q E hr h=>?_
 obtain ⟨hl,ds,L,r,h⟩:=h
 obtain ⟨ts,p,q⟩:=hbody f cdv A outer s H E hr
 refine ⟨ts,p,q H (start N vs) H _ _ (hl▸SOk.start r (by lia)) ?_⟩
 unfold zy at h
 cases ht:t (ds.map some++List.replicate (N.length-ds.length) none) with
 | ok f =>
  rw [ht] at h
  cases f with
  | nx τ'=>exact fun σ' H' ok'=>h .non H' [] ok'.ext ⟨rfl,rfl⟩ RcOk.nil
  | rt d=>exact fun v H' L s r n1 n2=>h v H' L s r ⟨n1,n2⟩
  | bk τ'=>exact h.elim
  | ct τ'=>exact h.elim
 | err n=>rw [ht] at h; exact fun C H' e s=>h C H' e s
 | bad=>rw [ht] at h; exact h.elim
end
theorem kC:∀ ns:List Int,D.imms (ns.map D.int)=true
 | []=>rfl
 | n::ns=>by rw [tG]; show (true&&D.imms (ns.map D.int))=true; rw [kC ns]; rfl
theorem kl {K:PySem.W.Frag}{H:Hp}:∀ ns:List Int,Reps K H (ns.map D.int) (ns.map V.int) []
 | []=>Reps.nil
 | n::ns=>Reps.cons (L1:=[]) ⟨rfl,rfl⟩ (kl ns)
theorem VV {K:PySem.W.Frag}{H:Hp}{a:Addr}{ns:List Int}{F:List D->R D}(hO:VO H)(hS:SqL K H a (ns.map V.int))(hF:F [.frl (ns.map D.int)]=.ok (.bl true)):spM K F 1 [.ref a] H (fun v _=>v=.bl true) fun _ _ _=>False:=by
 have hs:SqF K H a (ns.map V.int):=by
  rcases hS with (z | z) | z
  ·rcases hO a with w | ⟨o,xs,w⟩
   ·rw [w] at z; cases z
   ·rw [w] at z; cases z
  ·exact .inl z
  ·exact .inr z
 refine ⟨rfl,[.frl (ns.map D.int)],[],Reps.cons (L1:=[]) ⟨a,ns.map V.int,rfl,hs,rfl,kC ns,kl ns⟩ Reps.nil,?_⟩
 rw [hF]
 exact fun v H' L s r _=>r.1
theorem law_walk {Fm:List D->R D}{k:Nat}{x:Str}{l:PySem.W.OpenLaw}{q:Program}{loose:List Str}{XP:(Str->Option Value)->Heap->Prop}{YP:World->Heap->Prop}{d:DefRec}{K:Params->PySem.W.Frag}(hF:∀ ns:List Int,ns.length<=63->Fm [.frl (ns.map D.int)]=.ok (.bl true))(hr:Room k callerA)(hn:l.most=some 63)(hdf:d.params.defaults=[])
  (hY:∀ (w:World) (h:Heap),YP w h->(K w.params).In h)
  (F:∀ (w:World) (mg:Str->Option Value) (fa:Addr) (h:Heap),(K w.params).In h->h.Ns mainGlobals mg->mg d.name=some (.ref fa) ->
   ∃ fd:FuncData,(∀ (s:Shared) (u:Value),BindsTo s fd ⟨[u],[]⟩ [(x,u)])/\∀ base:Heap,(K w.params).In base->base.Ns mainGlobals mg->FnOk l.prog w (K w.params) mg base (cxx l.prog w) k fa fd [x] (spM (K w.params) Fm 1)) :
  PySem.W.WalkO q loose XP YP l.row.toRowW d [] (fun f vs=>PySem.call f vs) :=
 L2.walk_of (n:=63) (k:=k) (x:=x) (CX:=fun w=>cxx l.prog w) (sp:=fun w=>spM (K w.params) Fm 1) hn (by decide) hdf hr hY F (fun w H a ns hl hO hS=>VV hO hS (hF ns hl)) fun w H s e s' z=>WX z
section
variable {i j:Int}{C:Int->Int->Bool}{g:Int->Int->D}
theorem yP:zU (.int i) (.int j)=.ok (.int (i+j)):=rfl
theorem WH:L2.intD C g (.int i) (.int j)=if C i j=true then .ok (g i j) else .bad:=rfl
theorem U7 (h1:-(2 ^ 64)<j)(h2:j<2 ^ 64):xV (.int i) (.int j)=.ok (.int (i*j)):=by
 have:((decide (-(2 ^ 64)<i)&&decide (i<2 ^ 64))||(decide (-(2 ^ 64)<j)&&decide (j<2 ^ 64)))=true:=by rw [decide_eq_true h1,decide_eq_true h2]; simp
 exact if_pos this
theorem VB (h1:-(2 ^ 64)<i)(h2:i<2 ^ 64):xV (.int i) (.int j)=.ok (.int (i*j)):=by
 have:((decide (-(2 ^ 64)<i)&&decide (i<2 ^ 64))||(decide (-(2 ^ 64)<j)&&decide (j<2 ^ 64)))=true:=by rw [decide_eq_true h1,decide_eq_true h2]; simp
 exact if_pos this
theorem uP (h1:-18446744073709551616<j)(h2:j<18446744073709551616):xV (.int i) (.int j)=.ok (.int (i*j)):=U7 (by lia) (by lia)
theorem qT (h1:-18446744073709551616<i)(h2:i<18446744073709551616):xV (.int i) (.int j)=.ok (.int (i*j)):=VB (by lia) (by lia)
theorem zG (h1:0<j)(h2:j<1073741824):zu (.int i) (.int j)=.ok (.int (i/j)):=by
 simp [zu,WH,h1,h2]
theorem zQ (h1:0<j):zz (.int i) (.int j)=.ok (.int (i%j)):=by
 simp [zz,WH,h1]
theorem zV {neg:Bool}:eqR neg (.int i) (.int j)=.ok (.bl (if neg=true then !(i==j) else i==j)):=by
 cases neg<;>rfl
theorem Yv {neg:Bool}{x y:Str}:eqR neg (.str x) (.str y)=.ok (.bl (if neg=true then !(x==y) else x==y)):=by
 cases neg<;>rfl
end
theorem Wu {α:Type}{xs:List α}{i:Int}{x:α}(h0:0<=i)(h:xs[i.toNat]?=some x):atI xs i=some x:=by
 have hj:i.toNat<xs.length:=(sI.mp h).1
 have:=uH h
 rw [rL h0] at this
 exact this
theorem JC {ds:List D}{i:Int}{d:D}(h:atI ds i=some d):ixD (.lst ds) (.int i)=.ok d:=by show (match atI ds i with | some d=>R.ok d | none=>R.bad)=_; rw [h]
theorem J9 {ds:List D}{i:Int}{d:D}(h:atI ds i=some d):ixD (.frl ds) (.int i)=.ok d:=by show (match atI ds i with | some d=>R.ok d | none=>R.bad)=_; rw [h]
theorem Qk {x:Str}{i:Int}{c:Nat}(hz:x.length<=sizeLine)(h:atI x.cps.toList i=some c):ixD (.str x) (.int i)=.ok (.str ⟨#[c]⟩):=by show (if x.length<=sizeLine then (match atI x.cps.toList i with | some c=>R.ok (D.str ⟨#[c]⟩) | none=>R.bad) else R.bad)=_; rw [if_pos hz,h]
theorem xw {a:D}{ds:List D}:ixD (.tup (a::ds)) (.int 0)=.ok a:=by
 have:atI (a::ds) 0=some a:=uH (j:=0) rfl
 show (match atI (a::ds) 0 with | some d=>R.ok d | none=>R.bad)=_; rw [this]
theorem xB {a b:D}{ds:List D}:ixD (.tup (a::b::ds)) (.int 1)=.ok b:=by
 have:atI (a::b::ds) 1=some b:=uH (j:=1) rfl
 show (match atI (a::b::ds) 1 with | some d=>R.ok d | none=>R.bad)=_; rw [this]
theorem YS {ds:List D}:yh [.frl ds]=.ok (.int ds.length):=rfl
theorem VU {x:Str}(h:x.length<=sizeLine):yh [.str x]=.ok (.int x.length):=if_pos h
theorem jq:∀ ns:List Int,ur (ns.map D.int)=some ns
 | []=>rfl
 | n::ns=>by rw [tG]; show (ur (ns.map D.int)).map (n::·)=_; rw [jq ns]; rfl
theorem YF {ns:List Int}:ug [.lst (ns.map D.int)]=.ok (.int ns.sum):=by
 simp only [ug,jq]
theorem xo {asg:D->Tn->R Tn}{body:Tn->R Fl}(Iv:Nat->Tn->Prop):∀ (ds:List D) (k:Nat) (τ:Tn),Iv k τ ->
  (∀ i d τ,ds[i]?=some d->Iv (k+i) τ->∃ τ1 τ2,asg d τ=.ok τ1/\(body τ1=.ok (.nx τ2)\/body τ1=.ok (.ct τ2))/\Iv (k+i+1) τ2)->∃ τ',vJ asg body ds τ=.ok (.nx τ')/\Iv (k+ds.length) τ'
 | [],k,τ,h0,_=>⟨τ,rfl,h0⟩
 | d::ds,k,τ,h0,hs=>by
  obtain ⟨τ1,τ2,e1,e2,h2⟩:=hs 0 d τ rfl h0
  obtain ⟨τ',e3,h3⟩:=xo Iv ds (k+1) τ2 (by simpa using h2) fun i d' τ' hd hi=>by
   obtain ⟨τ3,τ4,a,b,c⟩:=hs (i+1) d' τ' (by simpa using hd) (by rw [<- Nat.add_assoc,Nat.add_right_comm]; exact hi)
   have e:k+1+i+1=k+(i+1)+1:=by lia
   exact ⟨τ3,τ4,a,b,e▸c⟩
  refine ⟨τ',?_,by rw [tJ,Nat.add_comm ds.length 1,<- Nat.add_assoc]; exact h3⟩
  unfold vJ
  rw [e1,R.ok_bind]
  rcases e2 with e2 | e2<;>rw [e2,R.ok_bind]<;>exact e3
theorem xE {α:Type}{enc:α->D}{f:D->R (Option D)}{o:α->Option D}:∀ {xs:List α},(∀ x∈xs,f (enc x)=.ok (o x))->xi f (xs.map enc)=.ok (xs.filterMap o)
 | [],_=>rfl
 | x::xs,h=>by
  rw [tG]
  unfold xi
  rw [h x tY,R.ok_bind,xE fun y hy=>h y (sA _ hy),R.ok_bind]
  cases ho:o x with
  | none=>simp [sZ,ho]
  | some d=>simp [sZ,ho]
theorem vA {lo:Int}{n i:Nat}{d:D}(h:(rng lo n)[i]?=some d):i<n/\d=.int (lo+i):=by
 unfold rng at h
 rw [sT] at h
 by_cases hi:i<n
 ·rw [pE hi] at h
  exact ⟨hi,(Option.some.inj h).symm⟩
 ·rw [rN (by simp; lia)] at h; cases h
theorem vy {lo:Int}{n:Nat}:(rng lo n).length=n:=by simp [rng]
theorem vx {j:Int}(h1:-(2 ^ 62)<=j)(h2:j<2 ^ 62):x8 [.int j]=.ok (rng 0 j.toNat):=if_pos ⟨h1,h2⟩
theorem wj {α:Type}(a:α):Xa (R.ok a)=.ok a:=rfl
theorem vQ {i j:Int}:jH (.int i) (.int j)=.ok (.int (i-j)):=rfl
theorem qw {i j:Int}:ltD (.int i) (.int j)=.ok (.bl (decide (i<j))):=rfl
theorem jv {i j:Int}:leD (.int i) (.int j)=.ok (.bl (decide (i<=j))):=rfl
theorem vG {i j:Int}:gtD (.int i) (.int j)=.ok (.bl (decide (j<i))):=rfl
theorem Vk {i:Int}:XQ (.int i)=.ok (.int (-i)):=rfl
theorem Vf {ds:List D}{lo hi:Option Int}(h:D.imms ds=true):slD (.lst ds) lo hi=.ok (.lst (uq ds lo hi)):=if_pos h
theorem wI {α β:Type}(f:α->β)(xs:List α):xs.filterMap (fun x=>some (f x))=xs.map f:=by
 induction xs with
 | nil=>rfl
 | cons x xs ih=>simp
theorem ji {f:D->D->Option Bool}:∀ {ds:List D},(∀ d∈ds,f d d=some true)->yH f ds ds=some true
 | [],_=>rfl
 | d::ds,h=>by
  unfold yH
  rw [h d tY,ji fun x hx=>h x (sA _ hx)]
  rfl
theorem qU (n:Nat)(i j:Str):eqF n (.str i) (.str j)=some (i==j):=by cases n<;>rfl
theorem wg (n:Nat){xs:List D}(h:∀ d∈xs,eqF n d d=some true):eqF (n+1) (.tup xs) (.tup xs)=some true:=by
 show (yH (eqF n) xs xs).map _=_
 rw [ji h]
 simp
def VP (i:Nat)(τ:Tn)(ds:List D)(d:D):R Fl:=if ds.length<sizeLine then .ok (.nx (τ.set i (some (.lst (ds++[d]))))) else .bad
def Jq (i:Nat)(t:Tn->R D)(τ:Tn):D->R Fl
 | .lst ds=>(t τ).bind fun d=>VP i τ ds d
 | _=>.bad
theorem wL {i:Nat}{t:Tn->R D}{τ:Tn}:vN i t τ=(z7 i τ).bind (Jq i t τ):=by
 unfold vN Jq VP
 rfl
theorem wD {i:Nat}{t:Tn->R D}{τ:Tn}{ds:List D}:Jq i t τ (.lst ds)=(t τ).bind fun d=>VP i τ ds d:=rfl
theorem ub {i:Nat}{τ:Tn}{ds:List D}{d:D}(h:ds.length<16777216):VP i τ ds d=.ok (.nx (τ.set i (some (.lst (ds++[d]))))):=if_pos (by rw [sizeLine_eq]; exact h)
def Y4 (ys:List D):R D:=if ys.length<=sizeLine then .ok (.lst ys) else .bad
theorem vE {ys:List D}(h:ys.length<=16777216):Y4 ys=.ok (.lst ys):=if_pos (by rw [sizeLine_eq]; exact h)
theorem yo {fr:List (Option Nat)}{it:Tn->R (List D)}{g:Tgt}{c:Tn->R Bool}{e:Tn->R D}{τ:Tn}:xF fr it g c e τ=(it τ).bind fun xs=>(xi (yZ g.asg c e (w6 fr τ)) xs).bind Y4:=rfl
theorem yV {τ:Tn}:w6 [] τ=[]:=rfl
theorem yX {fr:List (Option Nat)}{τ:Tn}:w6 (none::fr) τ=none::w6 fr τ:=rfl
theorem qe {i:Nat}{fr:List (Option Nat)}{τ:Tn}:w6 (some i::fr) τ=(τ[i]?).join::w6 fr τ:=rfl
theorem Ze {a:Option D}:(some a).join=a:=rfl
def QS (d:D):R D:=if d.imm=true then .ok d else .bad
theorem uf {t:Tn->R D}{τ:Tn}:uW t τ=(t τ).bind QS:=rfl
theorem u4 {it:Tn->R (List D)}{g:Tgt}{B:Tn->R Fl}{τ:Tn}{ds:List D}{f:R Fl}(h1:it τ=.ok ds)(h2:vJ g.asg B ds τ=f):xv it g B τ=f:=by
 unfold xv
 rw [h1]
 exact h2
def uK:List D->R D
 | [.int i,.int j]=>.ok (.int (if j<i then j else i))
 | _=>.bad
theorem JD:wq uK:=fun ds n h=>by unfold uK at h; split at h<;>cases h
theorem QB {K:PySem.W.Frag}:ClB K (fun xs H Q=>∃ i j,xs=[.int i,.int j]/\Q (.int (if j<i then j else i)) H) uK:=by
 rintro H xs ds L Q r ⟨d,hg,q⟩
 unfold uK at hg
 split at hg
 ·cases hg
  obtain ⟨v,v',L1,L2,rfl,_,⟨rfl,_⟩,⟨rfl,_⟩⟩:=Kk r
  exact ⟨_,_,rfl,q _ H [] (Same.refl H) ⟨rfl,rfl⟩ (by simp) (fun a ha=>nomatch ha)⟩
 ·cases hg
section
variable {X:Cx}{E:XK}{Γ:List Cl}{e:Expr}{t:Tn->R D}{c:Rc}{pos p2:Pos}
end
section
variable {X:Cx}
end
section
variable {X:Cx}{tg:Expr}
end
section
variable {X:Cx}{E:XK}{Γ:List Cl}{tg:Expr}{u:Tn->R (List D)}{c:Rc}{p pos:Pos}
end
def vOf:D->V
 | .non=>.non
 | .bl b=>.bl b
 | .int i=>.int i
 | .str s=>.str s
 | _=>.non
theorem ja {K:PySem.W.Frag}{H:Hp}{d:D}{v:V}{L:List Addr}(r:Rep K H d v L)(h:d.isS=true):v=vOf d/\uk v=true:=by
 cases d with
 | non=>exact ⟨r.1,by rw [r.1]; rfl⟩
 | bl b=>exact ⟨r.1,by rw [r.1]; rfl⟩
 | int i=>exact ⟨r.1,by rw [r.1]; rfl⟩
 | str s=>exact ⟨r.1,by rw [r.1]; rfl⟩
 | _=>exact absurd h (by simp [D.isS])
theorem Ui {a b:D}(ha:a.isS=true)(hb:b.isS=true):eqV (vOf a) (vOf b)=eqS a b:=by
 cases a<;>cases b<;>first | rfl | (simp [D.isS] at ha; done) | (simp [D.isS] at hb; done)
theorem qk {K:PySem.W.Frag}{H:Hp}:∀ {ds:List D} {vs:List V} {L:List Addr},Reps K H ds vs L->ds.all D.isS=true->vs=ds.map vOf/\vs.all uk=true
 | [],_,_,hq3,_=>by
  obtain ⟨e,_⟩:=hq3
  subst e; exact ⟨rfl,rfl⟩
 | d::ds,_,_,hq3,h=>by
  obtain ⟨v,vs',L1,L2,e1,e2,r1,r2⟩:=hq3
  subst e1
  rw [pH,sP] at h
  obtain ⟨a,b⟩:=ja r1 h.1
  obtain ⟨c,d⟩:=qk r2 h.2
  refine ⟨by rw [tG,<- a,<- c],by rw [pH,b,d]; rfl⟩
theorem kI {x:D}(hx:x.isS=true):∀ {ds:List D},ds.all D.isS=true->inV (vOf x) (ds.map vOf)=ds.any fun d=>eqS d x
 | [],_=>rfl
 | d::ds,h=>by
  rw [pH,sP] at h
  have ih:=kI hx (ds:=ds) h.2
  unfold inV at *
  rw [tG,rX,rX,ih,Ui h.1 hx]
def inD (neg:Bool)(x y:D):R D:=match y with
 | .lst ds=>if (x.isS&&ds.all D.isS)=true then .ok (.bl (if neg=true then !(ds.any fun d=>eqS d x) else ds.any fun d=>eqS d x)) else .bad
 | .tup ds=>if (x.isS&&ds.all D.isS)=true then .ok (.bl (if neg=true then !(ds.any fun d=>eqS d x) else ds.any fun d=>eqS d x)) else .bad
 | _=>.bad
theorem z0C {neg:Bool}:xO (inD neg):=fun x y n h=>by
 unfold inD at h
 split at h
 ·split at h<;>cases h
 ·split at h<;>cases h
 ·cases h
theorem z0y {K:PySem.W.Frag}{neg:Bool}:OpB K (rIn K neg) (inD neg):=by
 rintro H x y dx dy Lx Ly Q rx ry ⟨d,hg,q⟩
 unfold inD at hg
 split at hg
 ·rename_i ds
  split at hg
  ·rename_i hz
   cases hg
   rw [sP] at hz
   obtain ⟨a,vs,L',rfl,ha,_,rs⟩:=ry
   obtain ⟨e1,f1⟩:=ja rx hz.1
   obtain ⟨e2,f2⟩:=qk rs hz.2
   refine ⟨a,vs,rfl,.inl (SqL.of ha),f1,f2,?_⟩
   rw [e1,e2,kI hz.1 hz.2]
   exact q _ H [] (Same.refl H) ⟨rfl,rfl⟩ (by simp) (fun a ha=>nomatch ha)
  ·cases hg
 ·rename_i ds
  split at hg
  ·rename_i hz
   cases hg
   rw [sP] at hz
   obtain ⟨a,vs,rfl,ha,rs⟩:=ry
   obtain ⟨e1,f1⟩:=ja rx hz.1
   obtain ⟨e2,f2⟩:=qk rs hz.2
   refine ⟨a,vs,rfl,.inr ha,f1,f2,?_⟩
   rw [e1,e2,kI hz.1 hz.2]
   exact q _ H [] (Same.refl H) ⟨rfl,rfl⟩ (by simp) (fun a ha=>nomatch ha)
  ·cases hg
 ·cases hg
def yn:List D->R D
 | [.lst ds]=>if D.imms ds=true then .ok (.tup ds) else .bad
 | [.tup ds]=>if D.imms ds=true then .ok (.tup ds) else .bad
 | _=>.bad
theorem v5:wq yn:=fun ds n h=>by
 unfold yn at h
 split at h
 ·split at h<;>cases h
 ·split at h<;>cases h
 ·cases h
theorem vm {K:PySem.W.Frag}:ClB K (fun xs H Q=>∃ p ys,xs=[.ref p]/\((SqL K H p ys/\∀ l,H l=none->Q (.ref l) (upd H l (.tup ys)))\/(SqT K H p ys/\Q (.ref p) H))) yn:=by
 rintro H xs ds L Q r ⟨d,hg,q⟩
 unfold yn at hg
 split at hg
 ·split at hg
  ·rename_i ds hz
   cases hg
   obtain ⟨v,rfl,a,vs,L',rfl,ha,_,rs⟩:=wG r
   have rs0:=yp rs hz
   refine ⟨a,vs,rfl,.inl ⟨SqL.of ha,fun l hl=>q _ _ [] (Same.new hl) ⟨l,vs,rfl,SqT.of yb,rs0.same (Same.new hl)⟩ (by simp) (fun a ha=>nomatch ha)⟩⟩
  ·cases hg
 ·split at hg
  ·rename_i ds hz
   cases hg
   obtain ⟨v,rfl,a,vs,rfl,ha,rs⟩:=wG r
   have rs0:=yp rs hz
   exact ⟨a,vs,rfl,.inr ⟨ha,q _ H [] (Same.refl H) ⟨a,vs,rfl,ha,rs0⟩ (by simp) (fun a ha=>nomatch ha)⟩⟩
  ·cases hg
 ·cases hg
theorem j5:∀ {bs:List Bool} {us:List Value},Vals (bs.map V.bl) us->us=bs.map Value.bool
 | [],us,r=>by cases r; rfl
 | b::bs,_,r=>by
  rw [tG] at r
  cases r with
  | cons r1 r2 =>
   obtain rfl:_=Value.bool b:=r1
   rw [tG,j5 r2]
theorem WZ (bs:List Bool):((List.range bs.length).all fun i=>(bs[i]?).getD true)=bs.all id:=by
 rw [Bool.eq_iff_iff,rE,rE]
 constructor
 ·intro h b hb
  obtain ⟨i,hi,e⟩:=List.getElem_of_mem hb
  have:=h i (rR.mpr hi)
  rw [rB hi,e] at this
  exact this
 ·intro h i hi
  have hi:=rR.mp hi
  rw [rB hi]
  exact h _ (rA hi)
def Q4 (K:PySem.W.Frag):List V->Hp->VK->Prop:=fun xs H Q=>∃ (p:Addr) (bs:List Bool),xs=[.ref p]/\SqL K H p (bs.map V.bl)/\Q (.bl (bs.all id)) H
section
variable {X:Cx}
theorem xG (hc:X.calm=true):CallR X (.builtin "all") (Q4 X.K):=by
 intro pins s σ H xs us Q I r h
 obtain ⟨p,bs,rfl,hs,q⟩:=h
 obtain ⟨u,rfl,ru⟩:=uB r
 obtain rfl:u=Value.ref p:=ru
 obtain ⟨its,rv,pl,hz⟩:=I.list hs
 have e:=j5 rv
 subst e
 have hl:s.heap.IsList p (bs.map Value.bool).toArray:=pl.isList
 have hlt:p<s.heap.objs.size:=by obtain ⟨_,e,_⟩:=hl; exact Heap.lt_size e
 refine call_all_walk (wpAny_pyIter_list hl ?_)
 refine ⟨_,_,_,_,_,_,fun i=>(bs[i]?).getD true,rfl,Walks.list (A:=X.A.in1) (I.ok.hd hc) _ p (sW hlt) (bs.map Value.bool).toArray,⟨⟨_,Heap.get?_push_size _ rfl,rfl,rfl⟩,hl.push _⟩,fun i v s' Q' E' hP hQ=>?_,fun h' tk hk=>?_⟩
 ·have hP:(bs.map Value.bool)[i]?=some v:=by simpa using hP
  rw [sT] at hP
  cases hb:bs[i]? with
  | none=>rw [hb] at hP; cases hP
  | some b =>
   rw [hb] at hP
   cases hP
   simp only [hb,Option.getD_some] at hQ
   exact wpAny_truthy_bool hQ
 ·have e:((List.range (bs.map Value.bool).toArray.size).all fun i=>(bs[i]?).getD true)=bs.all id:=by
   rw [sF,sO]
   exact WZ bs
  rw [e]
  refine ⟨.bl (bs.all id),H,I.kept fun b o eb=>hk b o (fun hm=>?_) (Heap.get?_push_of_some _ eb),rfl,q⟩
  rw [sL.mp hm] at eb
  exact rW _ (Heap.lt_size eb)
end
def xZ:List D->Option (List Bool)
 | []=>some []
 | .bl b::ds=>(xZ ds).map (b::·)
 | _=>none
theorem uT {K:PySem.W.Frag}{H:Hp}:∀ {ds:List D} {bs:List Bool} {vs:List V} {L:List Addr},Reps K H ds vs L->xZ ds=some bs->vs=bs.map V.bl
 | [],bs,_,_,hq4,h=>by
  obtain ⟨e,_⟩:=hq4
  cases h; exact e
 | .bl b::ds,bs,_,_,hq4,h=>by
  obtain ⟨v,vs',L1,L2,e1,e2,r1,r2⟩:=hq4
  unfold xZ at h
  cases hb:xZ ds with
  | none=>rw [hb] at h; cases h
  | some cs =>
   rw [hb] at h
   cases h
   rw [e1,r1.1,uT r2 hb]
   rfl
 | .non::_,_,_,_,_,h=>by cases h
 | .int _::_,_,_,_,_,h=>by cases h
 | .str _::_,_,_,_,_,h=>by cases h
 | .tup _::_,_,_,_,_,h=>by cases h
 | .lst _::_,_,_,_,_,h=>by cases h
 | .dic _ _::_,_,_,_,_,h=>by cases h
 | .frl _::_,_,_,_,_,h=>by cases h
def wV:List D->R D
 | [.lst ds]=>match xZ ds with
  | some bs=>.ok (.bl (bs.all id))
  | none=>.bad
 | _=>.bad
theorem qz:wq wV:=fun ds n h=>by
 unfold wV at h
 split at h
 ·split at h<;>cases h
 ·cases h
theorem qx {K:PySem.W.Frag}:ClB K (Q4 K) wV:=by
 rintro H xs ds L Q r ⟨d,hg,q⟩
 unfold wV at hg
 split at hg
 ·split at hg
  ·rename_i ds bs hn
   cases hg
   obtain ⟨v,rfl,a,vs,L',rfl,ha,_,rs⟩:=wG r
   exact ⟨a,bs,rfl,by rw [<- uT rs hn]; exact SqL.of ha,q _ H [] (Same.refl H) ⟨rfl,rfl⟩ (by simp) (fun a ha=>nomatch ha)⟩
  ·cases hg
 ·cases hg
section
variable {X:Cx}{E:XK}{Γ:List Cl}{o e:Expr}{es:List Expr}{t:Tn->R D}{u:Tn->R (List D)}{c ca:Rc}{name:Str}{apos cpos:Pos}{id:String}
end
theorem TupN.push {h:Heap}{a:Addr}{items:Array Value}(x:TupN h a items)(o:Obj):TupN (h.push o) a items:=let ⟨o',ho,r⟩:=x; ⟨o',Heap.get?_push_of_some o ho,r⟩
theorem TupN.at {h h':Heap}{a:Addr}{items:Array Value}(x:TupN h a items)(k:∀ b o,h.get? b=some o->h'.get? b=some o):TupN h' a items:=let ⟨o',ho,r⟩:=x; ⟨o',k _ _ ho,r⟩
def PairsAt (P:Program)(w:World)(h:Heap):List Value->List (Key×Value)->Prop:=Paired fun (v:Value) (p:Key×Value)=>∃ b key,v=.ref b/\h.IsTuple b #[key,p.2]/\(xn P w).is p.1 key=true
theorem PairsAt.get {P:Program}{w:World}{h:Heap}:∀ {its:List Value} {ps:List (Key×Value)} {i:Nat},PairsAt P w h its ps->i<its.length->∃ b key p,its[i]?=some (.ref b)/\ps[i]?=some p/\h.IsTuple b #[key,p.2]/\(xn P w).is p.1 key=true
 | _,_,i,.nil,hi=>by simp at hi
 | _,_,0,.cons (a:=v) (b:=p) r t,_=>by
  obtain ⟨b,key,e,x,y⟩:=r
  exact ⟨b,key,p,by rw [e]; rfl,rfl,x,y⟩
 | _,_,i+1,.cons r t,hi=>by
  obtain ⟨b,key,p,e,e2,x,y⟩:=PairsAt.get (i:=i) t (by simpa using hi)
  exact ⟨b,key,p,by simpa using e,by simpa using e2,x,y⟩
section
variable {prog:Program}{w:World}{A:Around}{R:Result->Shared->Prop}
end
section
variable {prog:Program}{w:World}{A:Around}{E:Value->Shared->Prop}{s:Shared}
end
def j7 {β:Type}:List Key->List β->Key->β->List β
 | k'::ks,x::xs,k,y=>(if k'=k then y else x)::j7 ks xs k y
 | _,_,_,_=>[]
section
variable {K:PySem.W.Frag}{H:Hp}
theorem Reps.repl {k:Key}{d:D}{v:V}(rd:Rep K H d v []):∀ {ks:List Key} {ds:List D} {vs:List V} {L:List Addr},Reps K H ds vs L->ks.length=ds.length->∃ L2,Reps K H (j7 ks ds k d) (j7 ks vs k v) L2/\List.Sublist L2 L
 | [],[],_,_,hq4,_=>by
  obtain ⟨e1,e2⟩:=hq4
  exact ⟨[],by subst e1; exact Reps.nil,pC _⟩
 | [],_::_,_,_,_,h=>by cases h
 | _::_,[],_,_,_,h=>by cases h
 | k'::ks,d'::ds,_,_,hq4,h=>by
  obtain ⟨v',vs',L1,L2,e1,e2,h1,h2⟩:=hq4
  subst e1 e2
  obtain ⟨L3,a,b⟩:=Reps.repl (ks:=ks) rd h2 (by simpa using h)
  by_cases e:k'=k
  ·refine ⟨[]++L3,?_,?_⟩
   ·show Reps K H ((if k'=k then d else d')::j7 ks ds k d) ((if k'=k then v else v')::j7 ks vs' k v) _
    rw [if_pos e,if_pos e]
    exact Reps.cons rd a
   ·exact b.trans (rO _ _)
  ·refine ⟨L1++L3,?_,List.Sublist.append (List.Sublist.refl _) b⟩
   show Reps K H ((if k'=k then d else d')::j7 ks ds k d) ((if k'=k then v else v')::j7 ks vs' k v) _
   rw [if_neg e,if_neg e]
   exact Reps.cons h1 a
end
section
variable {X:Cx}{E:XK}{Γ Γ1 Γ' Γl:List Cl}{e a b o f:Expr}{es:List Expr}{t t' u v:Tn->R D}{c ca cb:Rc}{pos:Pos}
end
section
variable {X:Cx}
end
section
variable {X:Cx}{E:XK}{Γ:List Cl}{u:Tn->R (List D)}{c:Rc}{p pos:Pos}
end
theorem VY (x y:Str):(x++y).cps.toList=x.cps.toList++y.cps.toList:=by
 show (x.cps++y.cps).toList=_
 simp
theorem Ul {d:D}(hd:∀ ks xs,d≠.dic ks xs)(h:eqF 12 d d=some true):eqR true d d=.ok (.bl false):=by
 cases d with
 | dic ks xs=>exact absurd rfl (hd ks xs)
 | _=>simp only [eqR,h]<;>rfl
section
variable {prog:Program}{w:World}{A:Around}{R:Result->Shared->Prop}
end
section
variable {prog:Program}{w:World}{A:Around}{E:Value->Shared->Prop}{s:Shared}
end
section
variable {X:Cx}{E:XK}{Γ:List Cl}{e f:Expr}{t u:Tn->R D}{ca cb:Rc}{p pos kp:Pos}{te tf:TE}
end
theorem qH:∀ bs:List Bool,xZ (bs.map D.bl)=some bs
 | []=>rfl
 | b::bs=>by rw [tG]; show (xZ (bs.map D.bl)).map (b::·)=_; rw [qH bs]; rfl
theorem Zh {bs:List Bool}:wV [.lst (bs.map D.bl)]=.ok (.bl (bs.all id)):=by
 simp only [wV,qH]
section
open PySem.SeqAt PySem.MeetsSeq3
open PySem.AutoSeq1 (wpAny_loadPart')
end
section
variable {X:Cx}{E:XK}{Γ Γ1 Γ' Γl:List Cl}{e:Expr}{t:Tn->R D}{pos:Pos}
end
section
open PySem.SeqAt PySem.MeetsSeq3
open PySem.AutoSeq1 (wpAny_loadPart')
end
section
variable {X:Cx}{pins:List (Addr×Obj)}{σ:St}{H:Hp}{s:Shared}
end
structure Src (P:Program)(w:World)(i l:Addr)(xs:Array Value)(st:Nat->Heap->Prop):Prop where
 keep:∀ k h h',st k h->(∀ b,b=i\/b=l->∀ o,h.get? b=some o->h'.get? b=some o)->st k h'
 obj:∀ k h,st k h->∃ o vs,h.get? i=some o/\o.data=.fields vs
 item:∀ (A:Around) (k:Nat) (s:Shared) (Q:Value->Shared->Prop) (E:Value->Shared->Prop) (x:Value),st k s.heap->xs[k]?=some x->(∀ h',st (k+1) h'->Heap.SameBut i s.heap h'->Q x { s with heap:=h' })->wpAny (model P w) A (Builtin.SmallTypes.nextOf (.ref i)) Q E s
 stop:∀ (A:Around) (k:Nat) (s:Shared) (Q:Value->Shared->Prop) (E:Value->Shared->Prop),A.handled=none->st k s.heap->xs[k]?=none->(∀ h' e,Heap.ExtBut i s.heap h'->(∃ o,h'.get? e=some o/\o.cls=.type "StopIteration")->E (.ref e) { s with heap:=h' })->wpAny (model P w) A (Builtin.SmallTypes.nextOf (.ref i)) Q E s
section
variable {prog:Program}{w:World}{A:Around}{E:Value->Shared->Prop}{s:Shared}
end
section
variable {prog:Program}{w:World}{A:Around}{E:Value->Shared->Prop}{s:Shared}
variable {z TI TO i1 i2 l1 l2:Addr}{k:Nat}{xs ys:Array Value}{st1 st2:Nat->Heap->Prop}{a b:Value}
structure ZSt (z TI TO i1 i2:Addr)(st1 st2:Nat->Heap->Prop)(f0:Value)(k1 k2:Nat)(h:Heap):Prop where
 z:IsZip h z TI TO f0
 ti:IsPair h TI (.ref i1) (.ref i2)
 to':∃ a b,IsPair h TO a b
 s1:st1 k1 h
 s2:st2 k2 h
theorem ZSt.keep {f0:Value}{k1 k2:Nat}{h h':Heap}(D:ZipApart z TI TO i1 i2 l1 l2)(S1:Src prog w i1 l1 xs st1)(S2:Src prog w i2 l2 ys st2)(S:ZSt z TI TO i1 i2 st1 st2 f0 k1 k2 h)(e:∀ c o,h.get? c=some o->h'.get? c=some o):ZSt z TI TO i1 i2 st1 st2 f0 k1 k2 h' :=
 ⟨e _ _ S.z,e _ _ S.ti,let ⟨a,b,q⟩:=S.to'; ⟨a,b,e _ _ q⟩,S1.keep _ _ _ S.s1 fun c _ o=>e c o,S2.keep _ _ _ S.s2 fun c _ o=>e c o⟩
end
def IIt:Bool->Heap->Addr->Addr->Nat->Prop
 | true,h,i,l,k=>h.IsTupleIter i l k
 | false,h,i,l,k=>h.IsListIter i l k
def ISq:Bool->Heap->Addr->Array Value->Prop
 | true,h,l,xs=>h.IsTuple l xs
 | false,h,l,xs=>h.IsList l xs
theorem IIt.at {t:Bool}{h h':Heap}{i l:Addr}{k:Nat}(x:IIt t h i l k)(e:∀ o,h.get? i=some o->h'.get? i=some o):IIt t h' i l k:=by
 cases t
 ·exact Heap.IsListIter.at (h:=h) x e
 ·exact Heap.IsTupleIter.at (h:=h) x e
theorem IIt.obj {t:Bool}{h:Heap}{i l:Addr}{k:Nat}(x:IIt t h i l k):∃ o vs,h.get? i=some o/\o.data=.fields vs:=by
 cases t
 ·obtain ⟨o,a,_,b⟩:=(show h.IsListIter i l k from x); exact ⟨o,_,a,b⟩
 ·obtain ⟨o,a,_,b⟩:=(show h.IsTupleIter i l k from x); exact ⟨o,_,a,b⟩
def Sq (t:Bool)(K:PySem.W.Frag)(H:Hp)(a:Addr)(xs:List V):Prop:=if t=true then SqT K H a xs else SqL K H a xs
section
variable {X:Cx}{pins:List (Addr×Obj)}{σ:St}{H:Hp}{s:Shared}{a:Addr}{xs ys:List V}{h':Heap}
theorem Inv.sq {t:Bool}(I:Inv X pins σ H s)(h:Sq t X.K H a xs):∃ its:List Value,Vals xs its/\ISq t s.heap a its.toArray/\xs.length<=sizeLine:=by
 cases t
 ·obtain ⟨its,r,p,z⟩:=I.list (show SqL X.K H a xs from h)
  exact ⟨its,r,p.isList,z⟩
 ·obtain ⟨its,r,p,z⟩:=I.tuple (show SqT X.K H a xs from h)
  exact ⟨its,r,p,z⟩
end
def Itz (K:PySem.W.Frag)(t1 t2:Bool)(a b:Addr):It :=
 ⟨fun i H=>∃ xs ys x y,Sq t1 K H a xs/\Sq t2 K H b ys/\xs[i]?=some x/\ys[i]?=some y,
   fun i H v H'=>∃ p x y,H p=none/\v=.ref p/\H'=upd H p (.tup [x,y])/\∀ xs ys,Sq t1 K H a xs->Sq t2 K H b ys->xs[i]?=some x/\ys[i]?=some y,
   fun i H=>∃ xs ys,Sq t1 K H a xs/\Sq t2 K H b ys/\(xs.length<=i\/ys.length<=i)⟩
section
variable {prog:Program}{w:World}{A:Around}{E:Value->Shared->Prop}{s:Shared}
end
section
variable {X:Cx}
end
def Zy (ds es:List D):List D:=(ds.zip es).map fun p=>.tup [p.1,p.2]
theorem Xn {ds es:List D}{i:Nat}{d:D}(h:(Zy ds es)[i]?=some d):∃ x y,ds[i]?=some x/\es[i]?=some y/\d=.tup [x,y]:=by
 unfold Zy at h
 rw [sT] at h
 cases hz:(ds.zip es)[i]? with
 | none=>rw [hz] at h; cases h
 | some p =>
  rw [hz] at h
  obtain ⟨h1,h2⟩:=List.getElem?_zip_eq_some.mp hz
  exact ⟨p.1,p.2,h1,h2,(Option.some.inj h).symm⟩
theorem XC (ds es:List D):(Zy ds es).length=min ds.length es.length:=by unfold Zy; rw [sO,List.length_zip]
theorem ItOk.zip {K:PySem.W.Frag}{H:Hp}{t:Bool}{a b:Addr}{vs ws:List V}{ds es:List D}{L1 L1' L2 L2':List Addr}(ha:∀ H',TF H H'->(∀ c∈L1,H' c=H c)->Sq t K H' a vs)(h1:Reps K H ds vs L1')(s1:∀ c∈L1',c∈L1)(d1:∀ c∈L1,H c≠none)(hb:H b=some (.lst ws))(e2:L2=b::L2')(h2:Reps K H es ws L2') :
  ItOk K (Itz K t false a b) (Zy ds es) (L1++L2) H:=by
 subst e2
 refine ⟨fun c hc=>?_,fun H' tf kp i=>⟨fun d hd=>?_,fun hl=>?_⟩⟩
 ·rcases sC.mp hc with z | z
  ·exact d1 c z
  ·rcases sG.mp z with z | z
   ·rw [z,hb]; simp
   ·exact h2.there z
 ·have ha':=ha H' tf fun c hc=>kp c (tU _ hc)
  have hb':H' b=some (.lst ws):=(kp b (tQ _ tY)).trans hb
  obtain ⟨x,y,hx,hy,rfl⟩:=Xn hd
  obtain ⟨v,M1,e1,r1,u1⟩:=h1.get hx
  obtain ⟨w,M2,e2,r2,u2⟩:=h2.get hy
  refine ⟨⟨vs,ws,v,w,ha',SqL.of hb',e1,e2⟩,fun z H'' ⟨p,x',y',hp,z1,z2,hq⟩=>?_⟩
  subst z1 z2
  obtain ⟨q1,q2⟩:=hq vs ws ha' (SqL.of hb')
  rw [e1] at q1
  cases q1
  rw [e2] at q2
  cases q2
  have r1':Rep K H' x v M1:=Rep.keep tf x _ M1 r1 fun c hc=>kp c (tU _ (s1 c (u1.subset hc)))
  have r2':Rep K H' y w M2:=Rep.keep tf y _ M2 r2 fun c hc=>kp c (tQ _ (sA _ (u2.subset hc)))
  refine ⟨Same.new hp,M1++(M2++[]),⟨p,_,rfl,SqT.of yb,?_⟩,fun c hc=>?_⟩
  ·exact Reps.cons (r1'.same (Same.new hp)) (Reps.cons (r2'.same (Same.new hp)) Reps.nil)
  ·rw [sJ] at hc
   rcases sC.mp hc with z | z
   ·exact tU _ (s1 c (u1.subset z))
   ·exact tQ _ (sA _ (u2.subset z))
 ·have ha':=ha H' tf fun c hc=>kp c (tU _ hc)
  have hb':H' b=some (.lst ws):=(kp b (tQ _ tY)).trans hb
  rw [XC] at hl
  have k1:=h1.length
  have k2:=h2.length
  refine ⟨vs,ws,ha',SqL.of hb',?_⟩
  by_cases hc:vs.length<=i
  ·exact .inl hc
  ·exact .inr (by omega)
section
variable {X:Cx}{E:XK}{Γ:List Cl}{u:Tn->R (List D)}{c:Rc}{p pos:Pos}
end
section
variable {prog:Program}{w:World}{A:Around}{E:Value->Shared->Prop}{s:Shared}
theorem uh {t sl:Addr}{items:Array Value}{vl vu:Value}{lo hi:Option Int}{Q:Value->Shared->Prop}(ht:IsTup s.heap t items)(hs:s.heap.IsSliceOf sl vl vu .none)(pl:IsPart vl lo)(pu:IsPart vu hi)
  (hw:HT.sIx items.size 0 lo=0/\HT.sIx items.size items.size hi=items.size) (h:Q (.ref t) s):wpAny (model prog w) A (getItem (.ref t) (.ref sl)) Q E s:=by
 obtain ⟨os,hos,hcs,hds⟩:=id hs
 have hTs:s.TypeIs (.ref sl) "slice":=⟨os,hos,hcs⟩
 unfold getItem
 try with_reducible refine wpAny_holding ?_
 first | refine wpAny_bind (wpAny_pure ?_) | skip
 refine wpAny_bind (wpAny_sequenceKey ht.typeIs (by decide) ?_)
 refine wpAny_bind (wpAny_callSpecial?_slot (name:=Str.ofString "__getitem__") ht.typeIs PyProof.Rows.slot_tuple_getitem (wpAny_call_entry PyProof.Rows.slot_tuple_getitem ht.typeIs entry_tuple_getitem ?_ (args_tuple_getitem _ _)))
 show wpAny _ _ (Builtin.Tuple.tupleItemsOf (.ref t) >>= _) _ _ s
 refine wpAny_bind (tupleItemsOf_ ht ?_)
 refine wpAny_bind (wpAny_typeOf hTs ?_)
 rw [if_pos (by decide)]
 refine wpAny_bind (HT.sliceApplied_gen hs pl pu ?_)
 have hyes:(((HT.sIx items.size 0 lo:Nat):Int)==0&&(1:Int)==1&&(HT.sIx items.size items.size hi-HT.sIx items.size 0 lo)==items.size)=true:=by
  rw [hw.1,hw.2]
  simp
 show wpAny _ _ (if (((HT.sIx items.size 0 lo:Nat):Int)==0&&(1:Int)==1&&(HT.sIx items.size items.size hi-HT.sIx items.size 0 lo)==items.size)=true then _ else _) _ _ s
 rw [if_pos hyes]
 refine wpAny_bind (m:=Builtin.Tuple.tupleIsExact _) ?_
 unfold Builtin.Tuple.tupleIsExact
 refine wpAny_bind (wpAny_typeOf ht.typeIs (wpAny_pure ?_))
 rw [if_pos (by decide)]
 exact wpAny_bind (wpAny_rule (wpAny_pure ⟨_,rfl,wpAny_pure h⟩))
end
def z0I (K:PySem.W.Frag):V->Option Int->Option Int->Hp->VK->Prop:=fun x lo hi H Q=>∃ a xs,x=.ref a/\SqT K H a xs/\((HT.sIx xs.length 0 lo=0/\HT.sIx xs.length xs.length hi=xs.length)->Q (.ref a) H) /\
 (¬ (HT.sIx xs.length 0 lo=0/\HT.sIx xs.length xs.length hi=xs.length)->∀ p,H p=none->Q (.ref p) (upd H p (.tup (kN xs lo hi))))
theorem UA {X:Cx}:SlR X (z0I X.K):=by
 intro pins s σ H x v vl vu lo hi sl Q I rx hs pl pu h
 obtain ⟨a,xs,rfl,hx,q1,q2⟩:=h
 by_cases hw:HT.sIx xs.length 0 lo=0/\HT.sIx xs.length xs.length hi=xs.length
 ·cases rx
  obtain ⟨its,r,ht,hz⟩:=I.tuple hx
  have hlen:its.toArray.size=xs.length:=by rw [sF]; exact r.length.symm
  exact ⟨"tuple",_,PyProof.Rows.slot_tuple_getitem.lookup,ht.typeIs,uh ht hs pl pu (by rw [hlen]; exact hw) ⟨.ref a,H,I,rfl,q1 hw⟩⟩
 ·exact WO pins s σ H _ v vl vu lo hi sl Q I rx hs pl pu ⟨a,xs,rfl,hx,hw,q2 hw⟩
theorem YB {α:Type}(xs:List α){lo hi:Option Int}(h:HT.sIx xs.length 0 lo=0/\HT.sIx xs.length xs.length hi=xs.length):uq xs lo hi=xs:=by
 unfold uq
 rw [h.1,h.2,List.drop_zero,Nat.sub_zero,List.take_length]
def slA (x:D)(lo hi:Option Int):R D:=match x with
 | .lst ds=>if D.imms ds=true then .ok (.lst (uq ds lo hi)) else .bad
 | .str z=>if z.length<=sizeLine then .ok (.str (Txt.slice z lo hi)) else .bad
 | .tup ds=>if D.imms ds=true then .ok (.tup (uq ds lo hi)) else .bad
 | _=>.bad
def j8 (t:Tn->R D)(tl th:Tn->R (Option Int)):Tn->R D:=fun τ=>(t τ).bind fun x=>(tl τ).bind fun l=>(th τ).bind fun h=>slA x l h
section
variable {X:Cx}{E:XK}{Γ:List Cl}{e:Expr}{t:Tn->R D}{c:Rc}{p2 pos:Pos}
theorem qY {lo hi:Option Expr}{tl th:Tn->R (Option Int)}(he:ME X E Γ e t c)(hl:MO X E Γ lo tl)(hh:MO X E Γ hi th):ME X E Γ (.Subscript e (.Slice lo hi none p2) pos) (j8 t tl th) .fresh:=by
 obtain ⟨te,p,q⟩:=he
 obtain ⟨tl',pl,ql⟩:=hl
 obtain ⟨th',ph,qh⟩:=hh
 refine ⟨_,ZX (SlR.or X1 (SlR.or Wz UA)) p pl ph,fun O σ H τ Q ok h=>?_⟩
 unfold j8 at h
 refine q O σ H τ _ ok (post.bind h fun dx hx h x H1 Lx s1 rx kx=>ql O σ H1 τ _ (ok.same s1) ?_)
 cases h1:tl τ with
 | err n=>rw [h1] at h; exact fun C H' e s'=>h C H' e (s1.trans s')
 | bad=>rw [h1] at h; exact h
 | ok l =>
  rw [h1,R.ok_bind] at h
  refine fun H2 s2=>qh O σ H2 τ _ ((ok.same s1).same s2) ?_
  cases h2:th τ with
  | err n=>rw [h2] at h; exact fun C H' e s'=>h C H' e ((s1.trans s2).trans s')
  | bad=>rw [h2] at h; exact h
  | ok g =>
   rw [h2,R.ok_bind] at h
   refine fun H3 s3=>?_
   have s03:=(s1.trans s2).trans s3
   have rx:=(rx.same s2).same s3
   unfold slA at h
   cases dx with
   | lst ds =>
    dsimp only at h
    by_cases hz:D.imms ds=true
    ·rw [if_pos hz] at h
     obtain ⟨a,vs,L',rfl,ha,_,rs⟩:=rx
     obtain ⟨L2,rc,_⟩:=(yp rs hz).cut l g
     have e0:L2=[]:=pN.mp ‹_›
     subst e0
     refine .inl ⟨a,vs,rfl,SqL.of ha,fun p hp=>u5 rc hp fun v H' L s r n1 n2=>h v H' L (s03.trans s) r ⟨n1,fun a ha=>s03.non (n2 a ha)⟩⟩
    ·rw [if_neg hz] at h; exact h.elim
   | str z =>
    dsimp only at h
    by_cases hz:z.length<=sizeLine
    ·rw [if_pos hz] at h
     exact .inr (.inl ⟨z,rx.1,hz,h _ H3 [] s03 ⟨rfl,rfl⟩ RcOk.nil⟩)
    ·rw [if_neg hz] at h; exact h.elim
   | tup ds =>
    dsimp only at h
    by_cases hz:D.imms ds=true
    ·rw [if_pos hz] at h
     obtain ⟨a,vs,rfl,ha,rs⟩:=rx
     have rs0:=yp rs hz
     obtain ⟨L2,rc,_⟩:=rs0.cut l g
     have e0:L2=[]:=pN.mp ‹_›
     subst e0
     refine .inr (.inr ⟨a,vs,rfl,ha,fun hw=>?_,fun hw p hp=>h _ _ [] (s03.trans (Same.new hp)) ⟨p,_,rfl,SqT.of yb,rc.same (Same.new hp)⟩ RcOk.nil⟩)
     rw [rs.length] at hw
     rw [YB ds hw] at h
     exact h _ H3 [] s03 ⟨a,vs,rfl,ha,rs0⟩ RcOk.nil
    ·rw [if_neg hz] at h; exact h.elim
   | _=>exact h.elim
end
section
variable {X:Cx}{E:XK}{Γ Γl:List Cl}{pos:Pos}
end
def XS (x:Str)(u:Tn->R (List D)):Tn->R Fl:=fun τ=>(u τ).bind fun ds=>if ds.length<=sizeLine then .err x else .bad
theorem Wl {P:Program}{w:World}{K:PySem.W.Frag}{mg:Str->Option Value}{base:Heap}{N:List Str}{qual:Str}{scope:Scope}{f:Addr}{cd:Value}{A:Around}{outer:List Env}{s:Shared}{H:Hp}{E:XK}{Γ Γl Γ':List Cl}
  {x:Str} {C:Addr} {e₀:Expr} {u:Tn->R (List D)} {c:Rc} {np cpos pos:Pos} (hc:ErrC K x C) (hg:Gl (xl (cxx P w) P w K mg base N qual scope f cd A outer s H E) x)
  (ha:MA (xl (cxx P w) P w K mg base N qual scope f cd A outer s H E) E Γ [e₀] u c) (hd:autoParam ((x==("__debug__":Str))=false) L2.au1._auto_1)
  (he:autoParam (starEach [e₀] (envOfC qual scope s.heap.objs.size f cd)=(false,eval e₀ (envOfC qual scope s.heap.objs.size f cd))::starEach [] (envOfC qual scope s.heap.objs.size f cd)) L2.au3._auto_1) :
  MS (xl (cxx P w) P w K mg base N qual scope f cd A outer s H E) E Γl Γ (.Raise (some (.Call (.Name x np) [e₀] [] cpos)) none pos) (XS x u) Γ':=by
 obtain ⟨_,ta,pa,q⟩:=ha
 refine ⟨WI C E ta,fun pins s1 σ H1 D I h=>WN (A:=A) (show A.handled=none from I.ok.hd rfl) hc hg pa hd he rfl pins s1 σ H1 D I h,fun B σ H1 τ Z ok h=>?_⟩
 obtain ⟨O,eok,_⟩:=ok.eok
 refine q O σ H1 τ _ eok ?_
 unfold XS at h
 cases hu:u τ with
 | ok ds =>
  rw [hu,R.ok_bind] at h
  refine fun vs H' L s r _=>?_
  by_cases hz:ds.length<=sizeLine
  ·rw [if_pos hz] at h
   exact ⟨by rw [r.length]; exact hz,h C H' hc (ok.ext.trans s)⟩
  ·rw [if_neg hz] at h; exact h.elim
 | err n=>rw [hu] at h; exact fun C' H' e s=>h C' H' e (ok.ext.trans s)
 | bad=>rw [hu] at h; exact h.elim
def j3 (F:List D->R D)(u:Tn->R (List D))(g:Str->Option D):Tn->R Fl:=fun τ=>match u τ with
 | .ok ds=>(match F ds with
  | .ok d=>.ok (.nx τ)
  | .err m=>(match g m with | some d=>.ok (.rt d) | none=>.bad)
  | .bad=>.bad)
 | _=>.bad
def Suite (X:Cx)(CS:Addr)(i:Nat)(sts:List Stmt)(g:Str->Option D):Prop:=∀ (m:Str) (d:D),g m=some d->∀ C,ErrC X.K m C->PySem.W.exmOne X.K (.ref C) (.ref CS)=some true /\
 ∃ ts:Addr->Obj->TS,(∀ e oe,PSs (X.within e oe) sts (ts e oe))/\∀ e oe (Z:Ends) (σ:St) (H:Hp),σ.length=X.N.length->oe.cls=.ref C->H e=none->σ[i]?=some (some (.ref e))->(∀ v H',Same H H'->Rep X.K H' d v []->Z.rt v H')->ts e oe Z σ H
def Suite.ts {X:Cx}{CS:Addr}{i:Nat}{sts:List Stmt}{g:Str->Option D}(hs:Suite X CS i sts g)(e:Addr)(oe:Obj):TS:=fun Z σ H=>∃ (m:Str) (d:L2.D) (hg:g m=some d) (C:Addr) (hC:ErrC X.K m C),Classical.choose (hs m d hg C hC).2 e oe Z σ H
theorem Suite.pss {X:Cx}{CS:Addr}{i:Nat}{sts:List Stmt}{g:Str->Option D}(hs:Suite X CS i sts g)(e:Addr)(oe:Obj):PSs (X.within e oe) sts (hs.ts e oe):=by
 intro pins s σ H Z I h
 obtain ⟨m,d,hg,C,hC,z⟩:=h
 exact (Classical.choose_spec (hs m d hg C hC).2).1 e oe pins s σ H Z I z
section
variable {X:Cx}{E:XK}{Γ Γl Γ':List Cl}{k:Nat}{CS:Addr}{ps:List Str}{F:List D->R D}{nA:Nat}{x xc n:Str}{p pos pos' pc hpos tpos:Pos}{e:Expr}{es:List Expr}{u:Tn->R (List D)}{c:Rc}{i:Nat}{b₀:Stmt}{suite:List Stmt}{g:Str->Option D}
theorem VH (O:Own X.prog X.w X.K X.mg X.base x k ps (spM X.K F nA))(hN:X.N.Nodup)(hr:Room k X.A)(hg:Gl X x)(ha:MA X.nox (fun _ _ _=>False) Γ (e::es) u c)(hgc:Gl X xc)(hmc:X.mg xc=some (.ref CS))(hi:X.N[i]?=some n)(hx:X.env.scope.names.lookup n=some .local)(hil:i<X.N.length)(hΓ:Γ.length=X.N.length)(hs:Suite X CS i (b₀::suite) g)
  (hst:autoParam (X.stack=X.env::X.outer) L2.au3._auto_1) (hf:autoParam (X.env.frame=some X.env.locals) L2.au3._auto_1) (hc:autoParam (X.calm=true) L2.au3._auto_1) (hl:autoParam ((e::es).length=nA) L2.au3._auto_1)
  (hdb:autoParam ((x==("__debug__":Str))=false) L2.au1._auto_1) (hdc:autoParam ((xc==("__debug__":Str))=false) L2.au1._auto_1)
  (he:autoParam (starEach (e::es) X.env=(false,eval e X.env)::starEach es X.env) L2.au3._auto_1) (hpl:autoParam ((backTo pos (starEach es X.env)).any (·.1)=false) L2.au3._auto_1)
  (hsw:autoParam (swapsWith (.Call (.Name x p) (e::es) [] pos) none pos'.line X.env=pure false) L2.au3._auto_1) :
  MS X E Γl Γ (.Try [.Expr (.Call (.Name x p) (e::es) [] pos) pos'] [.ExceptHandler (some (.Name xc pc)) (some n) (b₀::suite) hpos] [] [] tpos) (j3 F u g) Γ:=by
 obtain ⟨hlen,ta,pa,q⟩:=ha
 refine ⟨_,VF O hst hf hc hN hr hg pa hgc hmc hi hx hs.pss hdb hdc he hpl hsw,fun B σ H τ Z ok h=>?_⟩
 obtain ⟨O',eok,_⟩:=ok.eok
 refine q O' σ H τ _ eok ?_
 unfold j3 at h
 cases hu:u τ with
 | ok ds =>
  rw [hu] at h
  dsimp only at h
  refine fun vs H1 L s r _=>?_
  have hv:(vs++[]).length=nA:=by rw [sJ,r.length,hlen τ ds hu]; exact hl
  refine ⟨hv,ds,L,by rw [sJ]; exact r,?_⟩
  have sB:Same B H1:=ok.ext.trans s
  cases hF:F ds with
  | ok d =>
   rw [hF] at h
   exact fun v H' L' s' r' k'=>h σ H' (ok.same (s.trans s'))
  | err m =>
   rw [hF] at h
   dsimp only at h
   cases hgm:g m with
   | some d =>
    rw [hgm] at h
    dsimp only at h
    intro C H' hC s'
    refine ⟨C,rfl,(hs m d hgm C hC).1,fun e1 oe hcls hn=>⟨m,d,hgm,C,hC,?_⟩⟩
    refine (Classical.choose_spec (hs m d hgm C hC).2).2 e1 oe _ _ H' (by rw [sS,ok.lσ,hΓ]) hcls hn ?_ fun v H2 s2 r2=>h v H2 [] ((sB.trans s').trans s2) r2 rY fun a ha=>nomatch ha
    rw [sN (by rw [ok.lσ,hΓ]; exact hil)]
   | none=>rw [hgm] at h; exact h.elim
  | bad=>rw [hF] at h; exact h.elim
 | err m=>rw [hu] at h; exact h.elim
 | bad=>rw [hu] at h; exact h.elim
end
inductive ClVs:List V->List Value->Prop where
 | nil:ClVs [] []
 | cons {c:V} {u:Value} {cs:List V} {us:List Value} (h:ClV c u) (t:ClVs cs us):ClVs (c::cs) (u::us)
theorem ClVs.vals:∀ {cs:List V} {us its:List Value},ClVs cs us->Vals cs its->its=us
 | _,_,_,.nil,.nil=>rfl
 | _,_,_,.cons h t,.cons r rs=>by
  rw [ClVs.vals t rs]
  congr 1
  cases h with
  | ref a=>exact r
  | ty n=>exact r
def Kx (K:PySem.W.Frag)(pn:List (Addr×Obj)):List V->Hp->VK->Prop:=fun xs H Q=>∃ a oe C tp cs us b,xs=[.ref a,.ref tp]/\(a,oe)∈pn/\oe.cls=.ref C/\ErrI K C/\SqT K H tp cs/\ClVs cs us/\PySem.W.kitAny K (.ref C) us=some b/\Q (.bl b) H
theorem kr {X:Cx}:CallR X (.builtin "isinstance") (Kx X.K X.pn):=by
 intro pins s σ H xs us Q I r h
 obtain ⟨a,oe,C,tp,cs,cus,b,rfl,hm,hc,ci,ht,hcl,hk,q⟩:=h
 obtain ⟨u1,u2,rfl,rx,rc⟩:=X9 r
 obtain rfl:u1=Value.ref a:=rx
 obtain rfl:u2=Value.ref tp:=rc
 obtain ⟨e1,_⟩:=I.pin _ (tU _ hm)
 obtain ⟨its,rv,⟨o,ho,hcls,n,hd⟩,_⟩:=I.tuple ht
 have e2:=hcl.vals rv
 subst e2
 obtain ⟨cls,dd,data,sl⟩:=o
 have hcls:cls=.type "tuple":=hcls
 have hd:data=.seq its.toArray n:=hd
 subst hcls hd
 exact PySem.W.kia_tup (ZM ci) I.kIn ⟨_,e1,hc⟩ ho hk (fun z=>by cases z) fun tk=>⟨.bl b,H,I.tok tk,rfl,q⟩
section
variable {X:Cx}{E:XK}{Γ Γl:List Cl}{pos:Pos}
end
theorem Xv {P:Program}{w:World}{K:PySem.W.Frag}{mg:Str->Option Value}{base:Heap}{N:List Str}{qual:Str}{scope:Scope}{f:Addr}{cd:Value}{A:Around}{outer:List Env}{s:Shared}{H:Hp}{E:XK}{Γ Γl Γ':List Cl}
  {x:Str} {e₀:Expr} {u:Tn->R (List D)} {c:Rc} {np cpos pos:Pos} (hc:∃ C,ErrC K x C) (hg:Gl (xl (cxx P w) P w K mg base N qual scope f cd A outer s H E) x)
  (ha:MA (xl (cxx P w) P w K mg base N qual scope f cd A outer s H E) E Γ [e₀] u c) (hd:autoParam ((x==("__debug__":Str))=false) L2.au1._auto_1)
  (he:autoParam (starEach [e₀] (envOfC qual scope s.heap.objs.size f cd)=(false,eval e₀ (envOfC qual scope s.heap.objs.size f cd))::starEach [] (envOfC qual scope s.heap.objs.size f cd)) L2.au3._auto_1) :
  MS (xl (cxx P w) P w K mg base N qual scope f cd A outer s H E) E Γl Γ (.Raise (some (.Call (.Name x np) [e₀] [] cpos)) none pos) (XS x u) Γ':=by
 obtain ⟨C,hc⟩:=hc
 exact Wl hc hg ha hd he
section
variable {X:Cx}{E:XK}{Γ Γl Γ':List Cl}{k:Nat}{ps:List Str}{F:List D->R D}{nA:Nat}{x xc n:Str}{p pos pos' pc hpos tpos:Pos}{e:Expr}{es:List Expr}{u:Tn->R (List D)}{c:Rc}{i:Nat}{b₀:Stmt}{suite:List Stmt}{g:Str->Option D}
theorem Wj (O:Own X.prog X.w X.K X.mg X.base x k ps (spM X.K F nA))(hN:X.N.Nodup)(hr:Room k X.A)(hg:Gl X x)(ha:MA X.nox (fun _ _ _=>False) Γ (e::es) u c)(hgc:Gl X xc)(hi:X.N[i]?=some n)(hx:X.env.scope.names.lookup n=some .local)(hil:i<X.N.length)(hΓ:Γ.length=X.N.length)(hs:∃ CS,X.mg xc=some (.ref CS)/\Suite X CS i (b₀::suite) g)
  (hst:autoParam (X.stack=X.env::X.outer) L2.au3._auto_1) (hf:autoParam (X.env.frame=some X.env.locals) L2.au3._auto_1) (hc:autoParam (X.calm=true) L2.au3._auto_1) (hl:autoParam ((e::es).length=nA) L2.au3._auto_1)
  (hdb:autoParam ((x==("__debug__":Str))=false) L2.au1._auto_1) (hdc:autoParam ((xc==("__debug__":Str))=false) L2.au1._auto_1)
  (he:autoParam (starEach (e::es) X.env=(false,eval e X.env)::starEach es X.env) L2.au3._auto_1) (hpl:autoParam ((backTo pos (starEach es X.env)).any (·.1)=false) L2.au3._auto_1)
  (hsw:autoParam (swapsWith (.Call (.Name x p) (e::es) [] pos) none pos'.line X.env=pure false) L2.au3._auto_1) :
  MS X E Γl Γ (.Try [.Expr (.Call (.Name x p) (e::es) [] pos) pos'] [.ExceptHandler (some (.Name xc pc)) (some n) (b₀::suite) hpos] [] [] tpos) (j3 F u g) Γ:=by
 obtain ⟨CS,h1,h2⟩:=hs
 exact VH O hN hr hg ha hgc h1 hi hx hil hΓ h2 hst hf hc hl hdb hdc he hpl hsw
end
structure CompScopeC (X:Cx)(xc:Str)(N':List Str)(fr:List (Option Nat))(scope:Scope):Prop where
 kind:scope.kind=.function
 one:∃ pre post,scope.names=pre++(xc,NameKind.cell)::post/\∀ y∈pre++post,y.2≠.cell
 nox:∀ y∈scope.names,y.1=xc->y.2=.cell
 loc:∀ y∈scope.names,y.2=.local->scope.names.lookup y.1=some .local
 free:∀ y∈scope.names,y.2=.free->∃ c,X.env.cells.lookup y.1=some c
 len:fr.length=N'.length
 fre:∀ (j i:Nat) (x:Str),fr[j]?=some (some i)->N'[j]?=some x->X.N[i]?=some x/\scope.names.lookup x=some .free/\(X.env.kindOf x=some .cell\/X.env.kindOf x=some .free)
section
variable {X:Cx}{pins:List (Addr×Obj)}{σ:St}{H:Hp}{s:Shared}{xc:Str}{N':List Str}{fr:List (Option Nat)}{scope:Scope}{fp:List Addr}
end
section
variable {X:Cx}{pins:List (Addr×Obj)}{σ τ:St}{H H₃ H5:Hp}{s₃ s5:Shared}{xc:Str}{N':List Str}{scope:Scope}{fp:List Addr}
end
section
variable {X:Cx}{E:XK}{Γ:List Cl}{pos:Pos}
end
theorem Zz {α:Type}{us:List α}{n:Nat}(h:us.length=n+1):∃ a t,us=a::t/\t.length=n:=by
 cases us with
 | nil=>cases h
 | cons a t=>exact ⟨a,t,rfl,Nat.succ.inj h⟩
theorem z0l {α:Type}{us:List α}(h:us.length=0):us=[]:=pI.mp h
theorem bd1 {α:Type}{P:List α->Prop}(h:∀ a,P [a]):∀ us:List α,us.length=1->P us:=fun us hl=>by
 obtain ⟨a,t,rfl,h1⟩:=Zz hl
 cases z0l h1
 exact h a
theorem bd2 {α:Type}{P:List α->Prop}(h:∀ a b,P [a,b]):∀ us:List α,us.length=2->P us:=fun us hl=>by
 obtain ⟨a,t,rfl,h1⟩:=Zz hl
 exact bd1 (P:=fun t=>P (a::t)) (h a) t h1
theorem bd3 {α:Type}{P:List α->Prop}(h:∀ a b c,P [a,b,c]):∀ us:List α,us.length=3->P us:=fun us hl=>by
 obtain ⟨a,t,rfl,h1⟩:=Zz hl
 exact bd2 (P:=fun t=>P (a::t)) (h a) t h1
theorem bd4 {α:Type}{P:List α->Prop}(h:∀ a b c d,P [a,b,c,d]):∀ us:List α,us.length=4->P us:=fun us hl=>by
 obtain ⟨a,t,rfl,h1⟩:=Zz hl
 exact bd3 (P:=fun t=>P (a::t)) (h a) t h1
theorem Qx {X:Cx}{E:Value->Shared->Prop}{pins:List (Addr×Obj)}{s:Shared}{σ:St}{H:Hp}{i:Nat}{x:Str}{v:V}{pos:Pos}{Q:Value->Shared->Prop}(I:Inv X pins σ H s)(hN:X.N[i]?=some x)(hv:Vis X.env.scope x)(e:σ[i]?=some (some v))(h:∀ u,RelV v u->Q u s)
  (hd:autoParam ((x==("__debug__":Str))=false) L2.au1._auto_1) (hcd:autoParam ((x==("__classdict__":Str))=false) L2.au1._auto_1):wpAny (model X.prog X.w) X.A (eval (.Name x pos) X.env) Q E s:=by
 obtain ⟨m,hn,hl⟩:=I.loc
 obtain ⟨u,r,l⟩:=hl i x v hN e hv
 rcases l with ⟨hk,hm⟩ | ⟨hk,c,hc,hcell⟩
 ·exact wpAny_Name (wpAny_loadName_local I.ok.kind hk hn hm (h u r)) hd
 ·rcases hk with hk | hk
  ·exact wpAny_Name (wpAny_loadName_cell I.ok.kind hk hc hcell (h u r)) hd
  ·exact wpAny_Name (wpAny_loadName_free I.ok.kind hk hc hcell (h u r) hcd) hd
theorem SOk.deadPut {K:PySem.W.Frag}{Γ:List Cl}{B H:Hp}{σ:St}{τ:Tn}{T:List Addr}{i:Nat}{w:Option V}(h:SOk K Γ B H σ τ T)(e:Γ[i]?=some .dead):SOk K Γ B H (σ.set i w) τ T:=by
 obtain ⟨Ls,h1,h2⟩:=h.ex
 refine ⟨h.ext,by rw [sS]; exact h.lσ,h.lτ,Ls,fun j c ej hc=>?_,h2⟩
 obtain ⟨v,d,a1,a2,a3⟩:=h1 j c ej hc
 refine ⟨v,d,?_,a2,a3⟩
 by_cases hij:i=j
 ·subst hij
  rw [e] at ej
  exact absurd (Option.some.inj ej).symm hc
 ·rw [sM hij]
  exact a1
section
variable {X:Cx}{E:XK}{Γ Γl:List Cl}{x1 x2 xr d nm:Str}{F1 F2:List D->R D}{es:List Expr}{u:Tn->R (List D)}{c:Rc}{i k n:Nat}{f1 f2:Addr}{ps:List Str}{p1 p2 p3 p4 p5 p6 p7 p8 p9 p10 p11 p12:Pos}{ct:Nat}{jj:_}
end
theorem Own.mgx {P:Program}{w:World}{K:PySem.W.Frag}{mg:Str->Option Value}{base:Heap}{x:Str}{k:Nat}{ps:List Str}{sp:Sp}(O:Own P w K mg base x k ps sp):∃ f,mg x=some (.ref f):=by
 obtain ⟨f,_,_,h,_⟩:=O.ex
 exact ⟨f,h⟩
theorem Wa {X:Cx}{E:XK}{Γ:List Cl}{pos:Pos}:ME X E Γ (.Dict [] [] pos) (eC (.dic [] [])) .fresh :=
 ⟨_,Vn,fun O σ H τ Q ok h p hp=>h (.ref p) _ [p] (Same.new hp) ⟨p,[],[],rfl,yb,rfl,rfl,rY,rfl,rfl⟩ ⟨sX.mpr ⟨pA,rY⟩,fun a ha=>by rw [sL.mp ha]; exact hp⟩⟩
section
variable {K:PySem.W.Frag}{Γ:List Cl}{B H:Hp}{σ:St}{τ:Tn}{T T':List Addr}
end
section
variable {P:Program}{w:World}{K:PySem.W.Frag}{mg:Str->Option Value}{base:Heap}{x:Str}{st:Stmt}{N ps:List Str}{k:Nat}{t:Tn->R Fl}{Γ':List Cl}
end
def isB (neg:Bool):D->D->R D
 | .bl c,.bl d=>.ok (.bl (if neg=true then c != d else c==d))
 | _,_=>.bad
theorem uO {neg:Bool}:xO (isB neg):=fun x y n h=>by
 unfold isB at h
 split at h<;>cases h
theorem Qp {X:Cx}:OpR X (compareOp .Is) (fun x y H Q=>∃ c d,x=.bl c/\y=.bl d/\Q (.bl (c==d)) H):=by
 intro pins s σ H x y v u Q I rx ry h
 obtain ⟨c,d,rfl,rfl,q⟩:=h
 cases rx
 cases ry
 exact is_bool (Wm I q rfl)
theorem wK {X:Cx}:OpR X (compareOp .IsNot) (fun x y H Q=>∃ c d,x=.bl c/\y=.bl d/\Q (.bl (c != d)) H):=by
 intro pins s σ H x y v u Q I rx ry h
 obtain ⟨c,d,rfl,rfl,q⟩:=h
 cases rx
 cases ry
 exact isnot_bool (Wm I q rfl)
theorem Kn {K:PySem.W.Frag}:OpB K (fun x y H Q=>∃ c d,x=.bl c/\y=.bl d/\Q (.bl (c==d)) H) (isB false):=by
 rintro H x y dx dy Lx Ly Q rx ry ⟨d,hg,q⟩
 unfold isB at hg
 split at hg
 ·cases hg
  exact ⟨_,_,rx.1,ry.1,q _ H [] (Same.refl H) ⟨rfl,rfl⟩ (by simp) (fun a ha=>nomatch ha)⟩
 ·cases hg
theorem vR {K:PySem.W.Frag}:OpB K (fun x y H Q=>∃ c d,x=.bl c/\y=.bl d/\Q (.bl (c != d)) H) (isB true):=by
 rintro H x y dx dy Lx Ly Q rx ry ⟨d,hg,q⟩
 unfold isB at hg
 split at hg
 ·cases hg
  exact ⟨_,_,rx.1,ry.1,q _ H [] (Same.refl H) ⟨rfl,rfl⟩ (by simp) (fun a ha=>nomatch ha)⟩
 ·cases hg
section
variable {K:PySem.W.Frag}{pn:List (Addr×Obj)}{σ:St}{H:Hp}{Q:VK}{e:Addr}{oe:Obj}{C:Addr}
end
section
variable {X:Cx}{E:XK}{Γ Γ1 Γ2 Γa Γb Γl Γ':List Cl}{pos:Pos}
theorem Um {es:List Expr}{t:TA}(h:PA X es t):PE X (.List es pos) (fun σ H Q=>t σ H fun xs H1=>xs.length<=sizeLine/\∀ p,H1 p=none->∀ o,Q (.ref p) (upd H1 p (.frz o (.lst xs)))):=by
 intro pins s σ H Q I hq
 refine wpAny_List_spliced (thn (h pos pins s σ H _ I hq) fun us s1 q0=>?_)
 obtain ⟨xs,H1,I1,r,z,q⟩:=q0
 refine ⟨by rw [<- r.length]; exact z,?_⟩
 have hf:H1 s1.heap.objs.size=none:=I1.hok.fresh (sD _)
 have hg:(s1.heap.push { cls:=.type "list",data:=.seq us.toArray }).get? s1.heap.objs.size=some { cls:=.type "list",data:=.seq us.toArray }:=Heap.get?_push_size _ rfl
 refine ⟨.ref s1.heap.objs.size,upd H1 s1.heap.objs.size (.frz { cls:=.type "list",data:=.seq us.toArray } (.lst xs)),I1.laid (t':=s1.toks) (fun b u e=>Heap.get?_push_of_some _ e) (sD _) ?_,rfl,q _ hf _⟩
 exact ⟨hg,z,us,0,r,hg⟩
def vH (ds:List D):R D:=if D.imms ds=true then .ok (.frl ds) else .bad
theorem xQ {es:List Expr}{u:Tn->R (List D)}{c:Rc}(h:MA X E Γ es u c)(hz:autoParam (es.length<=1000) L2.au1._auto_1):ME X E Γ (.List es pos) (eL vH u) .fresh:=by
 obtain ⟨hlen,ta,p,q⟩:=h
 refine ⟨_,Um p,fun O σ H τ Q ok h=>q O σ H τ _ ok ?_⟩
 unfold eL at h
 cases hu:u τ with
 | err n=>rw [hu] at h; exact h
 | bad=>rw [hu] at h; exact h
 | ok ds =>
  rw [hu,R.ok_bind] at h
  refine fun vs H1 L s1 r1 _=>⟨by rw [r1.length,hlen τ ds hu,sizeLine_eq]; omega,fun p hp o=>?_⟩
  unfold vH at h
  by_cases hi:D.imms ds=true
  ·rw [if_pos hi] at h
   have sn:Same H1 (upd H1 p (.frz o (.lst vs))):=Same.new hp
   exact h (.ref p) _ [] (s1.trans sn) ⟨p,vs,rfl,.inl ⟨o,yb⟩,rfl,hi,(yp r1 hi).same sn⟩ RcOk.nil
  ·rw [if_neg hi] at h; exact h.elim
end
theorem UM {K:PySem.W.Frag}{H:Hp}{d:D}:∀ {ds:List D} {vs:List V} {L:List Addr} {k:Nat},Reps K H ds vs L->ds[k]?=some d->L.Nodup->∃ v Ld,vs[k]?=some v/\Rep K H d v Ld/\Ld.Nodup/\(∀ a∈Ld,a∈L) /\
  ∀ (H2:Hp) (d2:D) (L2:List Addr),TF H H2->(∀ b,b∉Ld->H b≠none->H2 b=H b)->Rep K H2 d2 v L2->(∀ a∈L2,a∈Ld)->L2.Nodup->∃ L',Reps K H2 (ds.set k d2) vs L'/\(∀ a∈L',a∈L)/\L'.Nodup
 | [],_,_,k,_,h,_=>by cases k<;>cases h
 | e::ds,_,_,0,hq,h,nd=>by
  obtain ⟨v,vs',L1,L2,e1,e2,r1,r2⟩:=hq
  subst e1 e2
  cases h
  obtain ⟨n1,n2,n3⟩:=sR.mp nd
  refine ⟨v,L1,rfl,r1,n1,fun a ha=>tU _ ha,fun H2 d2 L3 tf kp r3 sb nd3=>⟨L3++L2,?_,fun a ha=>?_,?_⟩⟩
  ·exact ⟨v,vs',L3,L2,rfl,rfl,r3,Reps.keep tf ds vs' L2 r2 fun a ha=>kp a (fun z=>n3 a z a ha rfl) (r2.there ha)⟩
  ·rcases sC.mp ha with z | z
   ·exact tU _ (sb a z)
   ·exact tQ _ z
  ·exact sR.mpr ⟨nd3,n2,fun a ha b hb z=>n3 a (sb a ha) b hb z⟩
 | e::ds,_,_,k+1,hq,h,nd=>by
  obtain ⟨v,vs',L1,L2,e1,e2,r1,r2⟩:=hq
  subst e1 e2
  obtain ⟨n1,n2,n3⟩:=sR.mp nd
  obtain ⟨w,Ld,g1,g2,g3,g4,g5⟩:=UM (k:=k) r2 (by simpa using h) n2
  refine ⟨w,Ld,by simpa using g1,g2,g3,fun a ha=>tQ _ (g4 a ha),fun H2 d2 L3 tf kp r3 sb nd3=>?_⟩
  obtain ⟨L',q1,q2,q3⟩:=g5 H2 d2 L3 tf kp r3 sb nd3
  refine ⟨L1++L',?_,fun a ha=>?_,?_⟩
  ·exact ⟨v,vs',L1,L',rfl,rfl,Rep.keep tf e v L1 r1 fun a ha=>kp a (fun z=>n3 a ha a (g4 a z) rfl) (r1.there ha),q1⟩
  ·rcases sC.mp ha with z | z
   ·exact tU _ z
   ·exact tQ _ (q2 a z)
  ·exact sR.mpr ⟨n1,q3,fun a ha b hb z=>n3 a ha b (q2 b hb) z⟩
theorem SOk.at {K:PySem.W.Frag}{Γ:List Cl}{B H:Hp}{σ:St}{τ:Tn}{i k:Nat}{ds:List D}{d:D}(h:SOk K Γ B H σ τ [])(e:Γ[i]?=some .own)(hτ:τ[i]?=some (some (.lst ds)))(hk:ds[k]?=some d) :
  ∃ a vs v Ld,σ[i]?=some (some (.ref a))/\H a=some (.lst vs)/\vs[k]?=some v/\Rep K H d v Ld/\Ld.Nodup/\∀ (H2:Hp) (d2:D) (L2:List Addr),TF H H2->(∀ b,b∉Ld->H b≠none->H2 b=H b)->Rep K H2 d2 v L2->(∀ a∈L2,a∈Ld)->L2.Nodup->SOk K Γ B H2 σ (τ.set i (some (.lst (ds.set k d2)))) []:=by
 obtain ⟨v0,d0,L,e1,e2,r,nd,n2,fin⟩:=h.slot e
 rw [hτ] at e2
 cases e2
 obtain ⟨a,vs,L',rfl,ha,rfl,rs⟩:=r
 obtain ⟨m1,m2⟩:=sX.mp nd
 obtain ⟨v,Ld,g1,g2,g3,g4,g5⟩:=UM rs hk m2
 refine ⟨a,vs,v,Ld,e1,ha,g1,g2,g3,fun H2 d2 L2 tf kp r2 sb nd2=>?_⟩
 obtain ⟨L3,q1,q2,q3⟩:=g5 H2 d2 L2 tf kp r2 sb nd2
 have hal:a∉Ld:=fun z=>m1 (g4 a z)
 have ha2:H2 a=some (.lst vs):=by rw [kp a hal (by rw [ha]; simp)]; exact ha
 refine fin H2 _ (a::L3) [] [] rfl tf (fun b hb hn=>kp b (fun z=>hb (sA _ (g4 b z))) hn) ⟨a,vs,L3,rfl,ha2,rfl,q1⟩ (fun b hb=>.inl ?_) (sX.mpr ⟨fun z=>m1 (q2 a z),q3⟩)
 rcases sG.mp hb with z | z
 ·rw [z]; exact tY
 ·exact sA _ (q2 b z)
section
variable {X:Cx}{E:XK}{Γ Γl:List Cl}{pos:Pos}{e:Expr}{t:Tn->R D}{c:Rc}
end
section
open PySem.SeqAt PySem.MeetsSeq3
open PySem.AutoSeq1 (wpAny_loadPart')
end
section
variable {X:Cx}{E:XK}{Γ Γl:List Cl}{pos:Pos}{e:Expr}{t:Tn->R D}{c:Rc}
end
section
variable {X:Cx}{E:XK}{Γ:List Cl}{o:Expr}{t:Tn->R D}{c:Rc}{apos cpos:Pos}
end
section
variable {X:Cx}{E:XK}{Γ:List Cl}{e:Expr}{t:Tn->R D}{c:Rc}
end
section
variable {X:Cx}{E:XK}{Γ:List Cl}{e:Expr}{t:Tn->R D}{c:Rc}{p2 p3 p4 pos:Pos}{j:Nat}
end
theorem TF.trans {H H1 H2:Hp}(a:TF H H1)(b:TF H1 H2):TF H H2:=⟨fun x xs e=>b.tup x xs (a.tup x xs e),fun x o u e=>b.frz x o u (a.frz x o u e)⟩
section
variable {X:Cx}{E:XK}{Γ Γl:List Cl}{pos:Pos}{e:Expr}{t:Tn->R D}{c:Rc}
end
section
variable {X:Cx}{E:XK}{Γ Γl:List Cl}{pos:Pos}{e:Expr}{t:Tn->R D}{c:Rc}
end
open PySem PySem.Spec PyProof.Rows PySem.Builtin.Str
section
variable {X:Cx}{E:XK}{Γ:List Cl}{o:Expr}{t:Tn->R D}{c:Rc}{apos cpos:Pos}
end
def inS (a b:Str):Bool:=!(occurrences b a 0 b.length 1).isEmpty
def KU:R2:=fun x y H Q=>∃ a b,x=.str a/\y=.str b/\Q (.bl (inS a b)) H
theorem Jl {X:Cx}:OpR X (compareOp .In) KU:=by
 intro pins s σ H x y v u Q I rx ry h
 obtain ⟨a,b,rfl,rfl,q⟩:=h
 obtain ⟨t,rfl⟩:=rx
 obtain ⟨t',rfl⟩:=ry
 exact in_str ⟨.bl (inS a b),H,I,rfl,q⟩
def Yr:D->D->R D
 | .str a,.str b=>.ok (.bl (inS a b))
 | _,_=>.bad
theorem z05:xO Yr:=fun x y n h=>by
 unfold Yr at h
 split at h<;>cases h
theorem Kf {K:PySem.W.Frag}:OpB K KU Yr:=by
 rintro H x y dx dy Lx Ly Q rx ry ⟨d,hg,q⟩
 unfold Yr at hg
 split at hg
 ·cases hg
  exact ⟨_,_,rx.1,ry.1,q _ H [] (Same.refl H) ⟨rfl,rfl⟩ (by simp) (fun a ha=>nomatch ha)⟩
 ·cases hg
def z02 (X:Cx)(st:List Stmt)(t:TS):Prop :=
 ∀ (pins:List (Addr×Obj)) (s:Shared) (σ:St) (H:Hp) (D:Ends),0<s.toks->Inv X pins σ H s->t D σ H->wpAny (model X.prog X.w) X.A (execs st X.env) (SP X pins D) X.xe s
def PEp (X:Cx)(e:Expr)(t:TE):Prop :=
 ∀ (pins:List (Addr×Obj)) (s:Shared) (σ:St) (H:Hp) (Q:VK),0<s.toks->Inv X pins σ H s->t σ H Q->wpAny (model X.prog X.w) X.A (eval e X.env) (EP X pins σ Q) X.xe s
theorem PE.p {X:Cx}{e:Expr}{t:TE}(h:PE X e t):PEp X e t:=fun pins s σ H Q _ I=>h pins s σ H Q I
theorem PEp.up {X:Cx}{e:Expr}{t:TE}(h:PEp X e t){pins:List (Addr×Obj)}{s:Shared}{σ:St}{H:Hp}{Q:VK}(hs:0<s.toks)(I:Inv X pins σ H s)(ht:t σ H Q):wpAny (model X.prog X.w) X.A (eval e X.env) (fun v s'=>0<s'.toks/\EP X pins σ Q v s') X.xe s :=
 wpAny_mono (wpAny_toks_of (n:=1) hs (h pins s σ H Q hs I ht)) (fun _ _ h=>h) fun _ _ h=>h.2
section
variable {X:Cx}{o:Expr}{to:TE}{a b:Str}{j1 j2:Nat}{p1 p2 apos cpos:Pos}
end
section
end
def MEp (X:Cx)(E:XK)(Γ:List Cl)(e:Expr)(t:Tn->R D)(c:Rc):Prop :=
 ∃ te,PEp X e te/\∀ O σ H τ Q,EOk X.K Γ O H σ τ->post X.K E O c H Q (t τ)->te σ H Q
def z0E (X:Cx)(E:XK)(Γl Γ:List Cl)(s:List Stmt)(t:Tn->R Fl)(Γ':List Cl):Prop :=
 ∃ ts,z02 X s ts/\∀ B σ H τ Z,SOk X.K Γ B H σ τ []->uE X.K E B Γl Γ' Z (t τ)->ts Z σ H
section
variable {X:Cx}{E:XK}{Γ Γ' Γl:List Cl}{e o:Expr}{t:Tn->R D}{c:Rc}{a b:Str}{j1 j2:Nat}{p1 p2 apos cpos pos:Pos}
theorem ME.p (h:ME X E Γ e t c):MEp X E Γ e t c:=by
 obtain ⟨te,p,q⟩:=h
 exact ⟨te,p.p,q⟩
end
section
variable {P:Program}{w:World}{K:PySem.W.Frag}{mg:Str->Option Value}{base:Heap}{x:Str}{st:Stmt}{N ps:List Str}{k:Nat}{t:Tn->R Fl}{Γ':List Cl}
end
section
open PySem.SeqAt PySem.MeetsSeq3
open PySem.AutoSeq1 (wpAny_loadPart')
end
section
open PySem.SeqAt PySem.MeetsSeq PySem.MeetsSeq3
open PySem.AutoSeq1 (wpAny_loadPart')
end
section
variable {X:Cx}{E:XK}{Γ Γs Γl:List Cl}{x:Str}{k:Nat}{ps:List Str}{F:List D->R D}{e:Expr}{es:List Expr}{t:Tn->R D}{u:Tn->R (List D)}{c:Rc}{p pos:Pos}{n:Nat}
end
section
variable {X:Cx}{E:XK}{Γ Γl:List Cl}{pos:Pos}
end
def wX (z:Str)(n:Int):Str:=if n<1 then Str.empty else if (n==1||z.length==0)=true then z else ⟨(List.replicate n.toNat z.cps).foldl (·++·) #[]⟩
theorem Y3 (c:Array Nat):∀ (k:Nat) (acc:Array Nat),((List.replicate k c).foldl (·++·) acc).size=acc.size+k*c.size
 | 0,acc=>by simp
 | k+1,acc=>by
  rw [tS,List.foldl_cons,Y3 c k,Array.size_append,Nat.succ_mul]
  lia
theorem YL (z:Str)(n:Int):(wX z n).length<=n.toNat*z.length:=by
 unfold wX
 split
 ·exact pD _
 ·split
  ·rename_i h1 h2
   rw [Bool.or_eq_true] at h2
   rcases h2 with e | e
   ·have:n=1:=by simpa using e
    subst this; show z.length<=1*z.length; lia
   ·have:z.length=0:=by simpa using e
    lia
  ·show ((List.replicate n.toNat z.cps).foldl (·++·) #[]).size<=_
   rw [Y3]
   show 0+n.toNat*z.length<=_
   lia
def Qa:R2:=fun x y H Q=>∃ z n,x=.str z/\y=.int n/\-1000000<=n/\n.toNat*z.length<=1000000/\n<=1000000/\Q (.str (wX z n)) H
theorem kR {X:Cx}:OpR X (binaryOp .Mult) Qa:=by
 intro pins s σ H x y v u Q I rx ry h
 obtain ⟨z,n,rfl,rfl,h0,h1,h2,q⟩:=h
 obtain ⟨t,rfl⟩:=rx
 obtain ⟨t',rfl⟩:=ry
 have hfit:(wX z n).length<=sizeLine:=by have:=YL z n; rw [sizeLine_eq]; lia
 refine PySem.P.mul_str (by
  have e1:decide (n < -(2 ^ 63:Int))=false:=decide_eq_false (by lia)
  have e2:decide (n>=2 ^ 63)=false:=decide_eq_false (by lia)
  rw [e1,e2]; rfl) (fun a b hg=>?_) (fun a b=>?_) ?_
 ·have hn:1<=n:=by lia
  have:(z.length:Int)<=(2 ^ 63-1)/n:=by
   rw [Int.le_ediv_iff_mul_le (by lia)]
   have e:(z.length:Int)*n=((n.toNat*z.length:Nat):Int):=by
    rw [Int.natCast_mul,rL (by lia),Int.mul_comm]
   rw [e]
   lia
  lia
 ·unfold PySem.Builtin.Str.tooLong
  rw [sizeLine_eq]
  exact decide_eq_false (by rw [Nat.mul_comm]; lia)
 ·have done:∀ t',EP X pins σ Q (.str (wX z n) t') s:=fun t'=>⟨.str (wX z n),H,I,⟨t',rfl⟩,q⟩
  have done':∀ t' k,EP X pins σ Q (.str (wX z n) t') { s with toks:=k }:=fun t' k=>⟨.str (wX z n),H,I.tok k,⟨t',rfl⟩,q⟩
  unfold wX at hfit done done'
  split
  ·rename_i hn
   rw [if_pos hn] at hfit done'
   exact ⟨hfit,done' _ _⟩
  ·rename_i hn
   rw [if_neg hn] at hfit done done'
   split
   ·rename_i h5
    rw [if_pos h5] at done
    exact done _
   ·rename_i h5
    rw [if_neg h5] at hfit done'
    exact ⟨hfit,done' _ _⟩
def qE:D->D->R D
 | .str z,.int n=>if -1000000<=n/\n.toNat*z.length<=1000000/\n<=1000000 then .ok (.str (wX z n)) else .bad
 | _,_=>.bad
theorem Yp:xO qE:=fun x y n h=>by
 unfold qE at h
 split at h
 ·split at h<;>cases h
 ·cases h
theorem YK {K:PySem.W.Frag}:OpB K Qa qE:=by
 rintro H x y dx dy Lx Ly Q rx ry ⟨d,hg,q⟩
 unfold qE at hg
 split at hg
 ·rename_i z n
  split at hg
  ·rename_i hz
   cases hg
   exact ⟨z,n,rx.1,ry.1,hz.1,hz.2.1,hz.2.2,q _ H [] (Same.refl H) ⟨rfl,rfl⟩ (by simp) (fun a ha=>nomatch ha)⟩
  ·cases hg
 ·cases hg
abbrev Cx.errd (X:Cx)(e:Addr)(oe:Obj):Cx:={ X with calm:=false,pn:=[(e,oe)] }
theorem QC {e:Addr}{oe:Obj}{s:Shared}{H:Hp}{outer:List Env}{h1:Heap}(hk:∀ b o,s.heap.get? b=some o->h1.get? b=some o)(h:s.heap.get? e=some oe/\H e=none/\e∉frs outer/\∀ v,oe.data≠.cell v) :
  ∀ p∈[(e,oe)]++([]:List (Addr×Obj)),h1.get? p.1=some p.2/\H p.1=none/\p.1≠s.heap.objs.size/\p.1∉frs outer/\∀ v,p.2.data≠.cell v:=fun p hp=>by
 rw [sJ] at hp
 rw [sL.mp hp]
 exact ⟨hk _ _ h.1,h.2.1,sW (Heap.lt_size h.1),h.2.2.1,h.2.2.2⟩
section
theorem YH {e:Addr}{oe:Obj}{CX:CXT}{P:Program}{w:World}{K:PySem.W.Frag}{mg:Str->Option Value}{base:Heap}{N ps:List Str}{qual:Str}{scope:Scope}{f:Addr}{cd:Value}{A:Around}{outer:List Env}{s s1:Shared}{H:Hp}{E:XK}{us:List Value}{vs:List V}
  (S:FnScope N ps scope) (hpn:s.heap.get? e=some oe/\H e=none/\e∉frs outer/\∀ v,oe.data≠.cell v) (e0:Env0 P w K mg base A outer s H) (hl:vs.length=ps.length) (r:Vals vs us)
  (x:InCallC s s.heap.objs.size (bindL (envOfC qual scope s.heap.objs.size f cd).kindOf (ps.zip us) fun _=>none) (cellsFrom (s.heap.objs.size+1) scope.names []) (bindC (envOfC qual scope s.heap.objs.size f cd).kindOf (ps.zip us) fun _=>none) s1) :
  Inv ((xl CX P w K mg base N qual scope f cd A outer s H E).errd e oe) [] (start N vs) H s1:=by
 have hpl:ps.length<=N.length:=by have:=congrArg List.length S.pre; rw [rC] at this; omega
 obtain ⟨h1,tk,rfl,hk⟩:=x.done
 have noA:∀ b:Addr,b∉(xl CX P w K mg base N qual scope f cd A outer s H E).ex:=fun b z=>absurd (show b∈([]:List Addr) from z) (by simp)
 refine ⟨⟨e0.mod,S.kind,rfl,rfl,sD _,fun y z c h1 h2=>?_,fun y hy=>?_,fun y c _ h=>?_,fun z=>Bool.noConfusion z,Around.frames_deeper e0.frames,.inr ⟨rfl,rfl⟩,fun b z=>absurd z (noA b),e0.bs,e0.bsz,fun b _ _=>noA b,fun b z=>absurd z (noA b),e0.funs,e0.frf⟩,
  rfl,e0.bare,Un.kept hk,⟨_,x.toInCall.ns,fun i y v h1 h2 h3=>?_⟩,fun y c h=>⟨_,x.cell y c h⟩,e0.hok.fresh (sD _),fun y c h=>?_,QC hk hpn,e0.hok.kept hk,?_⟩
 ·exact name_of_addr x.apart (PySem.mem_of_lookup h1) (PySem.mem_of_lookup h2)
 ·have hy:scope.names.lookup y=some .cell\/scope.names.lookup y=some .free:=hy
  rcases hy with hy | hy
  ·exact vX hy
  ·exact absurd rfl (S.nofree _ (PySem.mem_of_lookup hy))
 ·exact Nat.le_of_lt (x.above y c (PySem.mem_of_lookup h))
 ·have hi:i<vs.length:=by
   unfold start at h2
   by_cases hi:i<vs.length
   ·exact hi
   ·rw [rM (by simpa using hi)] at h2
    rw [rK] at h2
    split at h2<;>cases h2
  have ha:vs[i]?=some v:=by
   unfold start at h2
   rw [rG (by simpa using hi),sT] at h2
   cases e:vs[i]? with
   | none=>rw [e] at h2; cases h2
   | some a=>rw [e] at h2; cases h2; rfl
  obtain ⟨u,hu,rv⟩:=r.get ha
  have hp:ps[i]?=some y:=by
   rw [<- S.pre,List.getElem?_take_of_lt (by omega)]; exact h1
  have ndP:ps.Nodup:=by rw [<- S.pre]; exact S.nd.sublist (List.take_sublist _ _)
  refine ⟨u,rv,?_⟩
  rcases S.par y (List.mem_of_getElem? hp) with k | k
  ·exact .inl ⟨k,qf ndP hp hu k⟩
  ·obtain ⟨c,e⟩:=vX (n:=s.heap.objs.size+1) k
   refine .inr ⟨.inl k,c,e,?_⟩
   have q:=x.cell y c e
   rw [uV ndP hp hu (by show scope.names.lookup y≠_; rw [k]; decide)] at q
   exact q
 ·exact e0.hok.fresh (Nat.le_of_lt (x.above y c (PySem.mem_of_lookup h)))
 ·unfold start
  show _=N.length
  rw [tZ,sO,sY]
  omega
theorem QD {e:Addr}{oe:Obj}{CX:CXT}{P:Program}{w:World}{K:PySem.W.Frag}{mg:Str->Option Value}{base:Heap}{f:Addr}{name qual:Str}{params:Arguments}{body:List Stmt}{scope:Scope}{dV kV doc pm cdv ct oc:Value}{an od:Option Addr}
  {osl:Array (Option Value)} {N ps:List Str} {sp:Sp} (lk:K.lookup f=some ⟨oc,od,.func (PySem.W.fnOf name qual params body scope dV kV doc pm an cdv ct),osl⟩) (hcd:PySem.W.codeIn K cdv qual=true) (S:FnScope N ps scope)
  (len:∀ vs H Q E,sp vs H Q E->vs.length=ps.length)
  (hbody:∀ (A:Around) (outer:List Env) (s:Shared) (H:Hp) (vs:List V) (Q:VK) (E:XK),sp vs H Q E ->
   ∃ t,PSs ((xl CX P w K mg base N qual scope f cdv A outer s H E).errd e oe) body t/\t { nx:=fun _ H'=>Q .non H',rt:=Q } (start N vs) H) :
  ∀ (A:Around) (outer:List Env) (s:Shared) (H:Hp) (args:Args) (us:List Value) (vs:List V) (Q:VK) (E:XK),A.depth<recursionLimit->Env0 P w K mg base A outer s H->(s.heap.get? e=some oe/\H e=none/\e∉frs outer/\∀ v,oe.data≠.cell v) ->
   BindsTo s (PySem.W.fnOf name qual params body scope dV kV doc pm an cdv ct) args (ps.zip us)->Vals vs us->sp vs H Q E->codeAny (model P w) A (.call (.ref f) args) (CR CX outer P w H s Q E) s:=by
 intro A outer s H args us vs Q E hdep e0 hpn hb r hsp
 have hl:=len _ _ _ _ hsp
 have KX:K.In s.heap:=e0.mod.kin.keeps fun b o e=>(e0.bs b o e).1
 have lim:s.heap.NoLimit:=e0.mod.nolimit.keeps fun b o e=>(e0.bs b o e).1
 have hkind:∀ y∈ps.zip us,scope.names.lookup y.1=some .local\/(scope.names.lookup y.1=some .cell/\((cellsFrom (s.heap.objs.size+1) scope.names []).lookup y.1).isSome=true):=fun ⟨n,v⟩ hy=>by
  rcases S.par n (List.of_mem_zip hy).1 with q | q
  ·exact .inl q
  ·exact .inr ⟨q,PySem.W.cellsFrom_some _ _ _ (.inl q)⟩
 refine codeAny_call_function hdep (KX _ _ lk) rfl S.co S.gen rfl (PySem.W.codeRec_of KX hcd) (hb _ _ _ _ ?_)
 refine wpAny_newFunctionEnv_cells S.kind hkind fun env he s1 x=>?_
 subst he
 refine ⟨lim.keeps x.toInCall.keep,codeAny_func ?_⟩
 obtain ⟨t,ht,hq⟩:=hbody A outer s H vs Q E hsp
 have I:Inv ((xl CX P w K mg base N qual scope f cdv A outer s H E).errd e oe) [] (start N vs) H s1:=YH S hpn e0 hl r x
 refine wpAny_mono (ht [] s1 (start N vs) H _ I hq) (fun fl s' hs=>?_) fun e s' hs=>hs
 have fin:∀ {σ':St} {H':Hp} {v:V} {u:Value},Inv ((xl CX P w K mg base N qual scope f cdv A outer s H E).errd e oe) [] σ' H' s'->RelV v u->Q v H'->CE outer P w H s Q u s' :=
  fun {σ' H' v u} J rv q=>⟨v,H',J.os,J.bare,J.base,J.hok,rv,q⟩
 cases fl with
 | ret u =>
  obtain ⟨v,σ',H',J,rv,q⟩:=hs
  exact fin J rv q
 | next =>
  obtain ⟨σ',H',J,q⟩:=hs
  exact fin (v:=V.non) (u:=Value.none) J rfl q
 | brk =>
  obtain ⟨_,_,_,q⟩:=hs
  exact False.elim q
 | cont =>
  obtain ⟨_,_,_,q⟩:=hs
  exact False.elim q
end
theorem Yu {X:Cx}{x q:Str}{st:Stmt}{N:List Str}{e:Addr}{oe:Obj}{a:Expr}{ta:TE}{p pos:Pos}{b:Bool}(Df:DefIn X.K X.mg x st [q])(S:FnScope N [q] (defScope st))(hg:Gl X x)(hdep:X.A.depth<recursionLimit)(hm0:(e,oe)∈X.pn)(hloc:∀ b∈frs X.stack,b=X.env.locals\/b∈X.fs)
  (hbody:∀ (f:Addr) (cdv:Value) (A:Around) (outer:List Env) (s:Shared) (H:Hp) (Q:VK),(∀ H',Same H H'->Q (.bl b) H') ->
   ∃ t,PSs ((xl (cxx X.prog X.w) X.prog X.w X.K X.mg X.base N x (defScope st) f cdv A outer s H (fun _ _ _=>False)).errd e oe) (defBody st) t/\t { nx:=fun _ H'=>Q .non H',rt:=Q } (start N [.ref e]) H)
  (ha:PE X a ta) (hdb:autoParam ((x==("__debug__":Str))=false) L2.au1._auto_1) (hs:autoParam (starEach [a] X.env=(false,eval a X.env)::starEach [] X.env) L2.au3._auto_1) (hpl:autoParam ((backTo pos (starEach [] X.env)).any (·.1)=false) L2.au3._auto_1) :
  PE X (.Call (.Name x p) [a] [] pos) (fun σ H Q=>Xj ta QJ σ H fun vs H1=>vs=[.ref e]/\∀ H2,Same H1 H2->Q (.bl b) H2):=by
 intro pins s σ H Q I h
 obtain ⟨f,fd,F,hm,hb⟩:=Df.ex
 obtain ⟨oc,od,kV,doc,pm,an,cdv,ct,osl,rfl,lk,hcd⟩:=F.ex
 refine wpAny_Call_Name_kw (ua I hg hm ?_ hdb)
 refine PySem.W.callWith_K (h₀:=X.base) I.ok.mod.kin F.kp (thn ((yi ha wA hs) pos pins s σ H (fun vs H1=>vs=[.ref e]/\∀ H2,Same H1 H2->Q (.bl b) H2) I ?_) fun us s1 h1=>?_) hs hpl
 ·exact h
 ·obtain ⟨vs,H1,I1,r,rfl,q⟩:=h1
  refine ⟨I1.kIn,?_⟩
  obtain ⟨g1,g2,g3,g4,g5⟩:=I1.pin _ (tU _ hm0)
  have nf:e∉frs X.stack:=fun z=>by
   rcases hloc e z with w | w
   ·exact g3 w
   ·exact g4 w
  refine wpAny_call (codeAny_mono (QD (e:=e) (oe:=oe) (sp:=fun vs H Q E=>vs=[.ref e]/\E=(fun _ _ _=>False)/\∀ H',Same H H'->Q (.bl b) H') (CX:=cxx X.prog X.w) lk hcd S (fun vs H Q E h=>by rw [h.1]; rfl) (fun A outer s H vs Q E h=>?_) X.A X.stack s1 H1 ⟨us,[]⟩ us [.ref e] Q (fun _ _ _=>False) hdep I1.env0 ⟨g1,g2,nf,g5⟩ (by have:=hb s1 us I1.kIn (by rw [sJ,<- r.length]; rfl); rw [sJ] at this; exact this) r ⟨rfl,rfl,q⟩) fun rr s' hq=>?_)
  ·obtain ⟨rfl,rfl,h⟩:=h
   exact hbody f cdv A outer s H Q h
  ·cases rr with
   | error ev=>exact (WX hq).elim
   | ok fl =>
    cases fl with
    | ret u=>exact I1.after hq
    | next=>exact False.elim hq
    | brk=>exact False.elim hq
    | cont=>exact False.elim hq
def SuiteA (X:Cx)(CS:Addr)(i j:Nat)(sts:List Stmt)(g:Str->Option Int):Prop:=∀ (m:Str) (k:Int),g m=some k->∀ C,ErrC X.K m C->PySem.W.exmOne X.K (.ref C) (.ref CS)=some true /\
 ∃ ts:Addr->Obj->TS,(∀ e oe,PSs (X.within e oe) sts (ts e oe))/\∀ e oe (Z:Ends) (σ:St) (H:Hp) (n:Int),σ.length=X.N.length->oe.cls=.ref C->H e=none->σ[i]?=some (some (.ref e))->σ[j]?=some (some (.int n))->(∀ H',Same H H'->Z.nx (σ.set j (some (.int (n+k)))) H')->ts e oe Z σ H
def SuiteA.ts {X:Cx}{CS:Addr}{i j:Nat}{sts:List Stmt}{g:Str->Option Int}(hs:SuiteA X CS i j sts g)(e:Addr)(oe:Obj):TS:=fun Z σ H=>∃ (m:Str) (k:Int) (hg:g m=some k) (C:Addr) (hC:ErrC X.K m C),Classical.choose (hs m k hg C hC).2 e oe Z σ H
theorem SuiteA.pss {X:Cx}{CS:Addr}{i j:Nat}{sts:List Stmt}{g:Str->Option Int}(hs:SuiteA X CS i j sts g)(e:Addr)(oe:Obj):PSs (X.within e oe) sts (hs.ts e oe):=by
 intro pins s σ H Z I h
 obtain ⟨m,k,hg,C,hC,z⟩:=h
 exact (Classical.choose_spec (hs m k hg C hC).2).1 e oe pins s σ H Z I z
section
variable {X:Cx}{E:XK}{Γ Γl Γ':List Cl}{k:Nat}{CS:Addr}{ps:List Str}{F:List D->R D}{nA:Nat}{x xc n:Str}{p pos pos' pc hpos tpos:Pos}{e:Expr}{es:List Expr}{u:Tn->R (List D)}{c:Rc}{i j:Nat}{b₀:Stmt}{suite:List Stmt}{g:Str->Option Int}
end
section
variable {X:Cx}{E:XK}{Γ:List Cl}{pos:Pos}{x:Str}
theorem W5 {z:Str}(h:∃ t,X.mg x=some (.str z t))(hg:autoParam (Gl X x) L2.au8._auto_1)(hd:autoParam ((x==("__debug__":Str))=false) L2.au1._auto_1):ME X E Γ (.Name x pos) (eC (.str z)) .fresh:=by
 obtain ⟨t,ht⟩:=h
 exact XW (xu (v:=.str z) hg ht ⟨t,rfl⟩ hd) fun _=>⟨rfl,rfl⟩
theorem xy {i:Int}(h:∃ t,X.mg x=some (.int i t))(hg:autoParam (Gl X x) L2.au8._auto_1)(hd:autoParam ((x==("__debug__":Str))=false) L2.au1._auto_1):ME X E Γ (.Name x pos) (eC (.int i)) .fresh:=by
 obtain ⟨t,ht⟩:=h
 exact XW (xu (v:=.int i) hg ht ⟨t,rfl⟩ hd) fun _=>⟨rfl,rfl⟩
end
section
variable {X:Cx}{E:XK}{Γ Γl:List Cl}{pos p0:Pos}{ix:Expr}{ti:Tn->R D}{c:Rc}
end
section
variable {X:Cx}{E:XK}{Γ Γl Γ':List Cl}{k:Nat}{ps:List Str}{F:List D->R D}{nA:Nat}{x xc n:Str}{p pos pos' pc hpos tpos:Pos}{e:Expr}{es:List Expr}{u:Tn->R (List D)}{c:Rc}{i j:Nat}{b₀:Stmt}{suite:List Stmt}{g:Str->Option Int}
end
section
variable {X:Cx}{E:XK}{Γ Γl:List Cl}{pos:Pos}
end
def PST (X:Cx)(st:Stmt)(t:TS):Prop :=
 ∀ (pins:List (Addr×Obj)) (s:Shared) (σ:St) (H:Hp) (D:Ends),0<s.toks->Inv X pins σ H s->t D σ H->wpAny (model X.prog X.w) X.A (exec st X.env) (SP X pins D) X.xe s
theorem PS.tt {X:Cx}{st:Stmt}{t:TS}(h:PS X st t):PST X st t:=fun pins s σ H D _ I=>h pins s σ H D I
theorem PSs.tt {X:Cx}{st:List Stmt}{t:TS}(h:PSs X st t):z02 X st t:=fun pins s σ H D _ I=>h pins s σ H D I
section
variable {X:Cx}{st:Stmt}{rest:List Stmt}{t u:TS}
end
section
variable {X:Cx}{tg:Expr}
end
def MST (X:Cx)(E:XK)(Γl Γ:List Cl)(s:Stmt)(t:Tn->R Fl)(Γ':List Cl):Prop :=
 ∃ ts,PST X s ts/\∀ B σ H τ Z,SOk X.K Γ B H σ τ []->uE X.K E B Γl Γ' Z (t τ)->ts Z σ H
section
variable {X:Cx}{E:XK}{Γ Γ1 Γ2 Γ' Γl:List Cl}{pos:Pos}{e:Expr}{t:Tn->R D}{c:Rc}
theorem MS.tt {s:Stmt}{t:Tn->R Fl}(h:MS X E Γl Γ s t Γ'):MST X E Γl Γ s t Γ':=by
 obtain ⟨ts,p,q⟩:=h
 exact ⟨ts,p.tt,q⟩
theorem MSs.tt {s:List Stmt}{t:Tn->R Fl}(h:MSs X E Γl Γ s t Γ'):z0E X E Γl Γ s t Γ':=by
 obtain ⟨ts,p,q⟩:=h
 exact ⟨ts,p.tt,q⟩
end
section
variable {X:Cx}
end
section
variable {prog:Program}{w:World}{A:Around}{E:Value->Shared->Prop}{s:Shared}
end
section
variable {X:Cx}{E:XK}{Γ:List Cl}{e:Expr}{t:Tn->R D}{c:Rc}{p2 p3 p4 pos:Pos}{j:Nat}
end
section
variable {X:Cx}{E:XK}{Γ Γl:List Cl}{pos:Pos}
end
section
variable {X:Cx}{E:XK}{Γ Γl:List Cl}{pos:Pos}
end
open PySem PySem.Spec PyProof.Rows PySem.W
open PySem.AutoSeq1 (wpAny_loadPart')
section
variable {prog:Program}{w:World}{A:Around}{E:Value->Shared->Prop}{s:Shared}{T:String}{r d:Addr}{n:Nat}{P:Nat->Value->Prop}{OK:Heap->Prop}
end
section
variable {K:PySem.W.Frag}{Γ:List Cl}{B H H1:Hp}{σ:St}{τ:Tn}
end
section
variable {X:Cx}{E:XK}{Γ Γl:List Cl}{pos pos':Pos}
end
def JX (X:Cx)(ifs:List Expr)(t:TT):Prop :=
 ∀ (pins:List (Addr×Obj)) (s:Shared) (σ:St) (H:Hp) (Q:Bool->Hp->Prop),0<s.toks->Inv X pins σ H s->t σ H Q ->
  wpAny (model X.prog X.w) X.A (forIn ifs true fun c r=>if r=true then do let ok <- isTrue c X.env (eval c X.env); pure (ForInStep.yield ok) else pure (ForInStep.yield r)) (TP X pins σ Q) X.xe s
def MTsT (X:Cx)(E:XK)(Γ:List Cl)(ifs:List Expr)(t:Tn->R Bool):Prop :=
 ∃ te,JX X ifs te/\∀ O σ H τ Q,EOk X.K Γ O H σ τ->postB X.K E H Q (t τ)->te σ H Q
section
variable {X:Cx}{E:XK}{Γ Γ' Γl:List Cl}{pos p:Pos}{e a b:Expr}{t ta tb:Tn->R D}{c ca cb:Rc}{x:Str}{id:String}
theorem MTsT.pts {e:List Expr}{t:Tn->R Bool}(h:MTsT X E Γ e t):JX X e (wpT X.K E Γ t):=by
 obtain ⟨te,p,q⟩:=h
 rintro pins s σ H Q htk I ⟨O,τ,ok,z⟩
 exact p pins s σ H Q htk I (q O σ H τ Q ok z)
end
def Itu (lo k:Int)(n:Nat):It:=⟨fun i _=>i<n,fun i H x H'=>H'=H/\x=.int (lo+(i:Int)*k),fun i _=>n<=i⟩
section
variable {X:Cx}{tg:Expr}
end
def upw (lo k:Int)(n:Nat):List D:=(List.range n).map fun (i:Nat)=>.int (lo+(i:Int)*k)
theorem ItOk.up {K:PySem.W.Frag}{H:Hp}{lo k:Int}{n:Nat}:ItOk K (Itu lo k n) (L2.upw lo k n) [] H:=by
 refine ⟨fun b hb=>(nomatch hb),fun H' tf kp i=>⟨fun d hd=>?_,fun hl=>?_⟩⟩
 ·unfold L2.upw at hd
  rw [sT] at hd
  by_cases hi:i<n
  ·rw [pE hi] at hd
   have hd:D.int (lo+(i:Int)*k)=d:=Option.some.inj hd
   subst hd
   refine ⟨hi,fun y H'' ⟨e2,e3⟩=>?_⟩
   subst e2 e3
   exact ⟨Same.refl _,[],⟨rfl,rfl⟩,fun b hb=>(nomatch hb)⟩
  ·rw [rN (by simp; omega)] at hd; cases hd
 ·have:(L2.upw lo k n).length=n:=by simp [L2.upw]
  show n<=i
  omega
section
variable {X:Cx}{E:XK}{Γ:List Cl}{tg:Expr}{u:Tn->R (List D)}{c:Rc}{p pos:Pos}
end
section
variable {X:Cx}{E:XK}{Γ Γl:List Cl}{pos:Pos}
end
end L2
namespace HW
open PySem PySem.W
def uj {α:Type}:List α->List α
 | a::_::r=>a::uj r
 | l=>l
def jY {α:Type}:List α->List α
 | _::b::r=>b::jY r
 | _=>[]
theorem kH {α:Type}:∀ (l:List α) (k:Nat),(uj l)[k]?=l[2*k]?
 | [],k=>by simp [uj]
 | [a],k=>by cases k<;>simp [uj]
 | a::b::r,0=>by simp [uj]
 | a::b::r,k+1=>by
  have ih:=kH r k
  show (a::uj r)[k+1]?=_
  rw [tE,ih,show 2*(k+1)=2*k+1+1 by omega,tE,tE]
theorem ZV {α:Type}:∀ (l:List α) (k:Nat),(jY l)[k]?=l[2*k+1]?
 | [],k=>by simp [jY]
 | [a],k=>by simp [jY]
 | a::b::r,0=>by simp [jY]
 | a::b::r,k+1=>by
  have ih:=ZV r k
  show (b::jY r)[k+1]?=_
  rw [tE,ih,show 2*(k+1)+1=2*k+1+1+1 by omega,tE,tE]
theorem ku {α:Type}:∀ l:List α,(uj l).length<=l.length
 | []=>sD _
 | [_]=>sD _
 | a::b::r=>by show (uj r).length+1<=r.length+1+1; have:=ku r; omega
theorem Zx {α:Type}:∀ l:List α,(jY l).length<=l.length
 | []=>sD _
 | [_]=>pD _
 | a::b::r=>by show (jY r).length+1<=r.length+1+1; have:=Zx r; omega
def tr:Nat->List Obj->BT
 | n+1,o::l=>.node o (tr n (uj l)) (tr n (jY l))
 | _,_=>.nil
theorem Yw:∀ (n:Nat) (l:List Obj),l.length<=n->∀ i,(tr n l).get i=l[i]?
 | 0,[],_,i=>by simp [tr,BT.get]
 | 0,_::_,h,_=>by cases h
 | n+1,[],_,i=>by simp [tr,BT.get]
 | n+1,o::l,h,i=>by
  have hl:l.length<=n:=by simpa using h
  show (BT.node o (tr n (uj l)) (tr n (jY l))).get i=_
  rw [BT.get_node]
  by_cases h0:i=0
  ·subst h0; rfl
  ·rw [if_neg h0]
   by_cases h1:i%2=1
   ·rw [if_pos h1,Yw n _ (rD (ku l) hl),kH]
    obtain ⟨k,rfl⟩:∃ k,i=2*k+1:=⟨i/2,by omega⟩
    rw [show (2*k+1)/2=k by omega,tE]
   ·rw [if_neg h1,Yw n _ (rD (Zx l) hl),ZV]
    obtain ⟨k,rfl⟩:∃ k,i=2*k+1+1:=⟨i/2-1,by omega⟩
    rw [show (2*k+1+1)/2-1=k by omega,tE]
theorem Ug (l:List Obj):(tr l.length l).list l.length=l:=by
 unfold BT.list
 refine List.ext_getElem? fun i=>?_
 rw [sT]
 by_cases h:i<l.length
 ·rw [pE h,Option.map_some,Yw _ _ (sD _),rB h]; rfl
 ·rw [rN (by rw [List.length_range]; omega),rN (by omega)]; rfl
def asT (s:Shared):SharedT:=⟨tr s.heap.objs.toList.length s.heap.objs.toList,s.heap.objs.toList.length,s.heap.life,s.gens,s.drawn,s.toks,s.os⟩
theorem Uv (s:Shared):(asT s).abs=s:=by
 obtain ⟨⟨⟨l⟩,life⟩,gens,drawn,toks,os⟩:=s
 show (⟨⟨((tr l.length l).list l.length).toArray,life⟩,gens,drawn,toks,os⟩:Shared)=_
 rw [Ug]
def env0 (p:Program):Env:={ scope:=p.main.scope,locals:=mainNs,globals:=mainNs,cells:=[],code:=.ref 13,frame:=some 14 }
def p0:Pos:=⟨0,0,0,0⟩
def body0 (p:Program):Code:=.body (behindTheImports p) (env0 p)
def runAll (p q:Program)(loose:List Str)(Xt:Shared->Bool){α:Type}(Yf:Shared->α)(n1:Nat)(w:World)(os:OsState) :=
 (topGo treeTable p w 11 (some (.ref 6)) 12 ⟨boot_heap w.params,Array.mk [],boot_drawn,boot_toks,os⟩ (topStub p)).bind fun a =>
 (segRun treeTable p w 11 (some (.ref 6)) 1 1 a.1 (blockOf (behindTheImports p) (env0 p) (body0 p) p0 [topFrame p0])).bind fun b =>
 (segRunT treeTable p w 11 (some (.ref 6)) 1 n1 (asT b.2.1) (piecesOf (behindTheImports p) (env0 p) (body0 p) b.2.2.2 [topFrame p0])).bind fun c =>
 (topRun treeTable p w 11 (some (.ref 6)) 2 c.2.1.abs ⟨doneF .next,body0 p,c.2.2.2,[topFrame p0]⟩).map fun s =>
  (a.2,(b.1,b.2.2.1),(c.1,c.2.2.1),(staticsOk (importedModules p.main.body) (boot_heap w.params) s.heap&&namesBound p s.heap&&gensDone s&&laidKept (boot_heap w.params) s.heap),openSeen q loose (importedModules p.main.body) Xt true s,Yf s)
theorem left_of {p q:Program}{loose:List Str}{Xt:Shared->Bool}{α:Type}{Yf:Shared->α}{Ya:World->α}{n1 N:Nat}
  (e:opening p=plainProg p.main.scope.names) (hN:Nat.ble 600 N=true) (f:∀ s,fenceModules? p s=some s)
  (size:∀ w:World,((boot_heap w.params).isNs mainGlobals&&(Array.mk []:Array GenState).size==0,(boot_heap w.params).objs.size,(boot_heap w.params).nsMap mainGlobals "__annotations__")=(true,11,some (.ref 6)))
  (le:Nat.ble (12+(1+(n1+2))) N=true)
  (all:∀ w os,runAll p q loose Xt Yf n1 w os=some (⟨denote treeTable (body0 p),body0 p,p0,[topFrame p0]⟩,(.next,body0 p),(.next,body0 p),true,openGood q loose,Ya w)):LeftO p q loose Xt Yf Ya N:=fun w=>by
 obtain ⟨⟨hp,gn,dr,tk,os⟩,op,same⟩:=pL.mp (boot_open e hN f w)
 simp only [Prod.mk.injEq] at same
 obtain ⟨rfl,rfl,rfl,rfl⟩:=same
 have sz:=size w
 simp only [Prod.mk.injEq] at sz
 have hr:=all w os
 unfold runAll at hr
 obtain ⟨⟨sa,ta⟩,ha,hr⟩:=pJ.mp hr
 obtain ⟨⟨fb,sb,cb,pb⟩,hb,hr⟩:=pJ.mp hr
 obtain ⟨⟨fc,sc,cc,pc⟩,hc,hr⟩:=pJ.mp hr
 obtain ⟨s1,hd,hr⟩:=pL.mp hr
 simp only [Prod.mk.injEq] at hr
 obtain ⟨rfl,⟨rfl,rfl⟩,⟨rfl,rfl⟩,good,seen,told⟩:=hr
 dsimp only at hb hc hd
 have hc2:=segRun_of hc
 rw [Uv] at hc2
 have whole:=piece_app (rest:=[]) hc2 (piece_nil hd)
 rw [sJ] at whole
 have run:=topRun_mono (N-(12+(1+(n1+2)))) _ _ _ _ (go_top ha (piece_block hb whole))
 have eN:12+(1+(n1+2))+(N-(12+(1+(n1+2))))=N:=by have z:=Nat.le_of_ble_eq_true le; omega
 rw [eN] at run
 have ends:topFrom treeTable p w N ⟨boot_heap w.params,Array.mk [],boot_drawn,boot_toks,os⟩=some s1:=by
  show (match (boot_heap w.params).isNs mainGlobals&&(Array.mk []:Array GenState).size==0 with | true=>_ | false=>_)=_
  rw [sz.1,sz.2.1,sz.2.2]
  show Option.bind (topRun treeTable p w 11 (some (.ref 6)) N _ _) _=_
  rw [run]
  show (match (_:Bool) with | true=>some s1 | false=>none)=_
  rw [good]
 have both:openEnds treeTable p w N=some s1:=by unfold openEnds; rw [op]; exact ends
 rw [both,Option.map_some,seen,told]
open PySem.Spec PyProof.Rows L2 in
theorem dfn {K:Frag}{mg:Str->Option Value}{h:Heap}{n:Str}{st:Stmt}{ps:List Str}{a c:Addr}{m:Str}{t:Nat}(X:K.In h)(G:h.Ns mainGlobals mg)
  (hl:∀ (kV dc pm:Value) (an:Option Addr) (cd ct:Value) (us:List Value),us.length=ps.length->bindArgs (fnOf n n (defArgs st) (defBody st) (defScope st) .none kV dc pm an cd ct) { pos:=us }=pure (ps.zip us))
  (e:(nsIn K mainGlobals n,K.lookup a,codeIn K (.ref c) n,keepIn K (.ref a))=(some (some (.ref a)),some ⟨.type "function",none,.func (fnOf n n (defArgs st) (defBody st) (defScope st) .none .none .none (.str m t) none (.ref c) .none),#[]⟩,true,true)):DefIn K mg n st ps:=by
 simp only [Prod.mk.injEq] at e
 exact Vd X G hl e.1 e.2.1 e.2.2.1 e.2.2.2
end HW
namespace L2
open PySem PySem.Spec PyProof.Rows
def atF (j:Nat)(v:V)(t:TE):TE:=fun σ H Q=>σ[j]?=some (some v)/\t σ H Q
theorem Vz {X:Cx}{k:Nat}{f:Addr}{fd:FuncData}{ps:List Str}{sp:Sp}{dvs:List V}{ds:List Value}{x:Str}{p pos:Pos}{e:Expr}{es:List Expr}{t:TA}{E:XK}{j:Nat}
  (F:FnOk X.prog X.w X.K X.mg X.base (cxx X.prog X.w) k f fd ps sp) (hr:Room k X.A) (hj:X.N[j]?=some x) (hv:Vis X.env.scope x) (hk:PySem.W.keepIn X.K (.ref f)=true) (hb:Binds X.K fd ps ds) (hd:Vals dvs ds) (hx:wU (cxx X.prog X.w) X E)
  (ha:PA X (e::es) t) (hdb:autoParam ((x==("__debug__":Str))=false) L2.au1._auto_1) (hcb:autoParam ((x==("__classdict__":Str))=false) L2.au1._auto_1) (he:autoParam (starEach (e::es) X.env=(false,eval e X.env)::starEach es X.env) L2.au3._auto_1) (hpl:autoParam ((backTo pos (starEach es X.env)).any (·.1)=false) L2.au3._auto_1) :
  PE X (.Call (.Name x p) (e::es) [] pos) (atF j (.ref f) (Wf sp dvs E t)):=by
 intro pins s σ H Q I h0
 obtain ⟨hσ,h⟩:=h0
 refine wpAny_Call_Name_kw (Qx I hj hv hσ ?_ hdb hcb)
 intro u0 ru0
 obtain rfl:u0=Value.ref f:=ru0
 refine PySem.W.callWith_K (h₀:=X.base) I.ok.mod.kin hk (thn (ha pos pins s σ H _ I h) fun us s1 ⟨vs,H1,I1,r,q⟩=>⟨I1.kIn,?_⟩) he hpl
 exact WW F hr hb hd hx I1 r q
section
variable {X:Cx}{E:XK}{Γ:List Cl}{pos:Pos}
theorem XI {fr:List (Option Nat)}{tg iter:Expr}{it:Tn->R (List D)}{g:Tgt}{cnd:Tn->R Bool}{te:Tn->R D}{ci c:Rc}(hi:MI X E Γ tg iter it ci)(hcl:c≠.bor)(hd:∀ j∈g.slots,(ym fr Γ)[j]?=some .dead){jf:Nat}{vf:V}(hjf:jf∉g.slots) :
  ∃ wi,PI X tg iter wi/\∀ O σ H τ Q,(xC fr σ)[jf]?=some (some vf)->EOk X.K Γ O H σ τ->post X.K E O c H Q (xF fr it g cnd te τ)->X4 fr wi (tgG X.K g) (wpT X.K noX (yF (Cl.ofIt ci) (ym fr Γ) g.slots) cnd) (atF jf vf (wpE X.K noX (yF (Cl.ofIt ci) (ym fr Γ) g.slots) te c)) σ H Q:=by
 have hT0:∀ σ H Q,(∃ O τ,EOk X.K (yF (Cl.ofIt ci) (ym fr Γ) g.slots) O H σ τ/\postB X.K noX H Q (cnd τ))->wpT X.K noX (yF (Cl.ofIt ci) (ym fr Γ) g.slots) cnd σ H Q:=fun _ _ _ h=>h
 have hE0:∀ (σ:St) H Q,σ[jf]?=some (some vf)->(∃ O τ,EOk X.K (yF (Cl.ofIt ci) (ym fr Γ) g.slots) O H σ τ/\post X.K noX O c H Q (te τ))->atF jf vf (wpE X.K noX (yF (Cl.ofIt ci) (ym fr Γ) g.slots) te c) σ H Q:=fun _ _ _ a h=>⟨a,h⟩
 generalize wpT X.K noX (yF (Cl.ofIt ci) (ym fr Γ) g.slots) cnd=TC at hT0 ⊢
 generalize atF jf vf (wpE X.K noX (yF (Cl.ofIt ci) (ym fr Γ) g.slots) te c)=TE0 at hE0 ⊢
 obtain ⟨wi,p,q⟩:=hi
 refine ⟨wi,p,fun O σ H τ Q hσ ok h=>q O σ H τ _ ok ?_⟩
 unfold xF at h
 cases hit':it τ with
 | err n=>rw [hit'] at h; exact h
 | bad=>rw [hit'] at h; exact h
 | ok ds =>
  rw [hit',R.ok_bind] at h
  refine fun J H1 L s1 hJ hO dd hD=>?_
  obtain ⟨hLd,hit⟩:=hJ
  generalize hF:yZ g.asg cnd te (w6 fr τ)=F at h
  cases hcL:xi F ds with
  | err n=>exact absurd hcL (vU (fun d n z=>by rw [<- hF] at z; exact ki z) ds n)
  | bad=>rw [hcL] at h; exact h.elim
  | ok ys =>
   rw [hcL,R.ok_bind] at h
   by_cases hz:ys.length<=sizeLine
   ·rw [if_pos hz] at h
    have hD0:H dd=none:=s1.non hD
    have Zz:(xC fr σ).length=(ym fr Γ).length:=by simp [xC,ym]
    have lenT:(w6 fr τ).length=(ym fr Γ).length:=by simp [w6,ym]
    obtain ⟨W,hW⟩:∃ W:Nat->Nat->List V->St->Hp->Prop,∀ i m ysv τ' H2,W i m ysv τ' H2↔(m=ds.length-i/\i<=ds.length/\H2 dd=some (.lst ysv)/\(∀ b,b≠dd->H1 b≠none->H2 b=H1 b)/\τ'.length=(ym fr Γ).length/\(∀ j,j∉g.slots->τ'[j]?=(xC fr σ)[j]?) /\
     ∃ dn rs Ly,ys=dn++rs/\xi F (ds.drop i)=.ok rs/\Reps X.K H2 dn ysv Ly/\dd∉Ly/\RcOk c O H1 Ly):=⟨_,fun _ _ _ _ _=>Iff.rfl⟩
    refine ⟨W,⟨ds.length,(hW _ _ _ _ _).mpr ⟨by simp,pD _,yb,fun b hb _=>yq hb,Zz,fun _ _=>rfl,[],ys,[],rfl,by simpa using hcL,Reps.nil,by simp,RcOk.nil⟩⟩,?_⟩
    intro i m ysv τ' H2 hw0
    obtain ⟨rfl,hile,hDy,kp,hl',hj',dn,rs,Ly,eys,hrs,rdn,nD,kLy⟩:=(hW _ _ _ _ _).mp hw0
    refine ⟨hDy,?_⟩
    have sH:Same H H2:=fun b o e=>by
     have e1:=s1 b o e
     have nb:b≠dd:=yC e hD0
     rw [kp b nb (by rw [e1]; simp)]; exact e1
    have s12:∀ b o,H1 b=some o->H2 b=some o:=fun b o e=>by
     rw [kp b (yC e hD) (by rw [e]; simp)]; exact e
    have okO:EOk X.K Γ (fun a=>O a\/a=dd) H2 σ τ:=by
     refine ⟨fun a ha=>?_,fun j k e hk=>?_⟩
     ·rcases ha with ha | ha
      ·exact (ok.same sH).dom a ha
      ·rw [ha,hDy]; simp
     ·obtain ⟨v,d,L0,a1,a2,a3,a4⟩:=ok.slot j k e hk
      refine ⟨v,d,L0,a1,a2,a3.same sH,fun z a ha hm=>?_⟩
      rcases hm with hm | hm
      ·exact a4 z a ha hm
      ·exact a3.there ha (hm▸hD0)
    have okc:EOk X.K (ym fr Γ) (fun a=>O a\/a=dd) H2 τ' (w6 fr τ):=(okO.comp (fr:=fr)).live fun j k e hk=>hj' j fun hm=>by
     rw [hd j hm] at e; exact hk (Option.some.inj e).symm
    obtain ⟨go,stop⟩:=hit H2 ⟨fun a xs e=>s12 a _ e,fun a o u e=>s12 a _ e⟩ (fun a ha=>kp a (fun z=>hLd a ha (z▸hD)) (hLd a ha)) i
    by_cases hlt:i<ds.length
    ·obtain ⟨hgo,hy⟩:=go ds[i] (by simp [hlt])
     refine .inr ⟨hgo,fun x H3 y=>?_⟩
     obtain ⟨s3,L',r',sub⟩:=hy x H3 y
     rw [rZ hlt] at hrs
     obtain ⟨o,zs,ho,hzs,ers⟩:=je hrs
     rw [<- hF] at ho
     have ho:=ZW ho
     obtain ⟨τ1,ha,ho⟩:=wM ho
     obtain ⟨k,hk,ho⟩:=wM ho
     refine Wi (k:=Cl.ofIt ci) (okc.same s3) r' (fun z a ha hm=>?_) hl' lenT ha fun σ1 ok1 hl1 hj1=>?_
     ·have hci:ci≠.bor:=fun w=>by subst w; cases z
      rcases hm with hm | hm
      ·exact hO hci a (sub a ha) hm
      ·exact hLd a (sub a ha) (hm▸hD)
     ·refine hT0 _ _ _ ⟨_,τ1,ok1,?_⟩
      rw [hk]
      refine fun H5 s5=>?_
      have s25:=s3.trans s5
      cases k with
      | true =>
       rw [if_pos rfl] at ho
       dsimp only
       rw [if_pos rfl]
       obtain ⟨yd,hyd,ho⟩:=wM ho
       cases ho
       refine hE0 _ _ _ (((hj1 jf hjf).trans (hj' jf hjf)).trans hσ) ⟨_,τ1,ok1.same s5,?_⟩
       rw [hyd]
       refine fun yv H6 Lw s6 r6 k6=>?_
       have s26:=s25.trans s6
       have hD6:H6 dd=some (.lst ysv):=s26 dd _ hDy
       have hlen:ysv.length=dn.length:=rdn.length
       have nDw:dd∉Lw:=fun hm=>by
        cases c with
        | fresh=>have:=k6.2 dd hm; rw [s25 dd _ hDy] at this; cases this
        | shr=>exact k6 dd hm (.inr rfl)
        | bor=>exact hcl rfl
       have mu:(∃ vs,H6 dd=some (.lst vs))\/∃ kvs,H6 dd=some (.dK kvs):=.inl ⟨_,hD6⟩
       refine ⟨hD6,?_,ds.length-(i+1),by lia,(hW _ _ _ _ _).mpr ⟨rfl,hlt,yb,fun b hb hn=>?_,by rw [hl1]; exact hl',fun j hj=>(hj1 j hj).trans (hj' j hj),dn++[yd],zs,Ly++Lw,?_,hzs,?_,?_,?_⟩⟩
       ·rw [eys,ers,tZ,tZ] at hz
        simp only [Option.toList,rS] at hz
        lia
       ·rw [yq hb,<- kp b hb hn]
        exact s26.at (by rw [kp b hb hn]; exact hn)
       ·rw [eys,ers,rF]; rfl
       ·have:=Reps.append ((rdn.same s26).upd (o:=.lst (ysv++[yv])) mu nD) (Reps.cons (r6.upd (o:=.lst (ysv++[yv])) mu nDw) Reps.nil)
        rw [sJ] at this
        exact this
       ·intro hm
        rcases sC.mp hm with z | z
        ·exact nD z
        ·exact nDw z
       ·cases c with
        | fresh =>
         refine ⟨sR.mpr ⟨kLy.1,k6.1,fun a ha b hb z=>?_⟩,fun a ha=>?_⟩
         ·subst z
          have h2:=rdn.there ha
          have h5:=k6.2 a hb
          exact h2 (s25.non h5)
         ·rcases sC.mp ha with z | z
          ·exact kLy.2 a z
          ·have h5:=k6.2 a z
           have h2:H2 a=none:=s25.non h5
           cases e1:H1 a with
           | none=>rfl
           | some o=>rw [s12 a o e1] at h2; cases h2
        | shr =>
         intro a ha
         rcases sC.mp ha with z | z
         ·exact kLy a z
         ·exact fun w=>k6 a z (.inl w)
        | bor=>exact absurd rfl hcl
      | false =>
       rw [if_neg sE] at ho
       dsimp only
       rw [if_neg sE]
       cases ho
       refine ⟨ds.length-(i+1),by lia,(hW _ _ _ _ _).mpr ⟨rfl,hlt,s25 dd _ hDy,fun b hb hn=>?_,by rw [hl1]; exact hl',fun j hj=>(hj1 j hj).trans (hj' j hj),dn,zs,Ly,?_,hzs,rdn.same s25,nD,kLy⟩⟩
       ·rw [<- kp b hb hn]
        exact s25.at (by rw [kp b hb hn]; exact hn)
       ·rw [eys,ers]; rfl
    ·have e:i=ds.length:=by lia
     subst e
     rw [List.drop_length] at hrs
     cases hrs
     rw [sJ] at eys
     subst eys
     refine .inl ⟨stop (sD _),h (.ref dd) H2 (dd::Ly) sH ⟨dd,ysv,Ly,rfl,hDy,rfl,rdn⟩ ?_⟩
     cases c with
     | fresh =>
      refine ⟨sX.mpr ⟨nD,kLy.1⟩,fun a ha=>?_⟩
      rcases sG.mp ha with z | z
      ·rw [z]; exact hD0
      ·exact s1.non (kLy.2 a z)
     | shr =>
      intro a ha
      rcases sG.mp ha with z | z
      ·rw [z]; exact fun w=>ok.dom dd w hD0
      ·exact kLy a z
     | bor=>exact absurd rfl hcl
   ·rw [if_neg hz] at h; exact h.elim
def MEF (X:Cx)(E:XK)(Γ:List Cl)(j:Nat)(v:V)(e:Expr)(t:Tn->R D)(c:Rc):Prop :=
 ∃ te,PE X e te/\∀ O σ H τ Q,σ[j]?=some (some v)->EOk X.K Γ O H σ τ->post X.K E O c H Q (t τ)->te σ H Q
theorem MEF.pe {j:Nat}{v:V}{e:Expr}{t:Tn->R D}{c:Rc}(h:MEF X E Γ j v e t c):PE X e (atF j v (wpE X.K E Γ t c)):=by
 obtain ⟨te,p,q⟩:=h
 rintro pins s σ H Q I ⟨hσ,O,τ,ok,z⟩
 exact p pins s σ H Q I (q O σ H τ Q hσ ok z)
theorem wY {g x:Str}{f:Addr}{j k n:Nat}{ps:List Str}{F:List D->R D}{e:Expr}{es:List Expr}{u:Tn->R (List D)}{c:Rc}{p:Pos}(O:Own X.prog X.w X.K X.mg X.base g k ps (spM X.K F n))(hf:X.mg g=some (.ref f))(hr:Room k X.A)(hj:X.N[j]?=some x)(hv:Vis X.env.scope x)(hx:wU (cxx X.prog X.w) X E)(ha:MA X E Γ (e::es) u c)(hl:autoParam ((e::es).length=n) L2.au3._auto_1)
  (hdb:autoParam ((x==("__debug__":Str))=false) L2.au1._auto_1) (hcb:autoParam ((x==("__classdict__":Str))=false) L2.au1._auto_1) (he:autoParam (starEach (e::es) X.env=(false,eval e X.env)::starEach es X.env) L2.au3._auto_1) (hpl:autoParam ((backTo pos (starEach es X.env)).any (·.1)=false) L2.au3._auto_1):MEF X E Γ j (.ref f) (.Call (.Name x p) (e::es) [] pos) (eL F u) .fresh:=by
 obtain ⟨hlen,ta,pa,q⟩:=ha
 obtain ⟨f',fd,Fn,hm,hk,hb⟩:=O.ex
 rw [hf] at hm
 cases hm
 refine ⟨_,Vz Fn hr hj hv hk hb .nil hx pa hdb hcb he hpl,fun O' σ H τ Q hσ ok h=>⟨hσ,q O' σ H τ _ ok ?_⟩⟩
 unfold eL at h
 cases hu:u τ with
 | ok ds =>
  rw [hu,R.ok_bind] at h
  refine fun vs H1 L s1 r1 _=>?_
  have hv:(vs++[]).length=n:=by rw [sJ,r1.length,hlen τ ds hu]; exact hl
  refine ⟨hv,ds,L,by rw [sJ]; exact r1,?_⟩
  have h1:=h.same s1
  cases hF:F ds with
  | ok d=>rw [hF] at h1; exact h1
  | err n=>rw [hF] at h1; exact h1
  | bad=>rw [hF] at h1; exact h1
 | err n=>rw [hu] at h; exact h
 | bad=>rw [hu] at h; exact h
theorem vZ {N':List Str}{fr:List (Option Nat)}{scope:Scope}{tg iter elt:Expr}{ifs:List Expr}{it:Tn->R (List D)}{g:Tgt}{cnd:Tn->R Bool}{te:Tn->R D}{ci c:Rc}{j jf:Nat}{vf:V}(hc:X.calm=true)(S:CompScope X N' fr scope)(hi:MI X E Γ tg iter it ci)
  (hg:∀ s₃ H₃ fp pins,MG (yE X scope N' s₃ H₃ fp pins) tg g) (ht:∀ s₃ H₃ fp pins,MTs (yE X scope N' s₃ H₃ fp pins) noX (yF (Cl.ofIt ci) (ym fr Γ) g.slots) ifs cnd)
  (he:∀ s₃ H₃ fp pins,MEF (yE X scope N' s₃ H₃ fp pins) noX (yF (Cl.ofIt ci) (ym fr Γ) g.slots) jf vf elt te c) (hcl:c≠.bor) (hd:∀ j∈g.slots,(ym fr Γ)[j]?=some .dead) (hjf:jf∉g.slots) (hfr:fr[jf]?=some (some j))
  (hs:autoParam (∀ x,foldedSetIterable iter X.env x=pure x) L2.au2._auto_1):MEF X E Γ j vf (.ListComp elt [⟨tg,iter,ifs,0⟩] scope pos) (xF fr it g cnd te) c:=by
 obtain ⟨wi,p,q⟩:=XI (cnd:=cnd) (te:=te) (vf:=vf) hi hcl hd hjf
 refine ⟨_,X3 hc S p (fun s₃ H₃ fp pins=>(hg s₃ H₃ fp pins).pg) (fun s₃ H₃ fp pins=>(ht s₃ H₃ fp pins).pts) (fun s₃ H₃ fp pins=>(he s₃ H₃ fp pins).pe) hs,fun O σ H τ Q hσ ok h=>q O σ H τ Q ?_ ok h⟩
 unfold xC
 rw [sT,hfr]
 show some ((σ[j]?).join)=_
 rw [hσ]
 rfl
theorem wu {id:String}{x:Str}{r:List V->Hp->VK->Prop}{g:List D->R D}{j:Nat}{v:V}{e:Expr}{t:Tn->R D}{ca:Rc}{p:Pos}(hc:CallR X (.builtin id) r)(hB:ClB X.K r g)(hn:wq g)(hg:Gl X x)(hm:X.mg x=none)(hv:bootBuiltins x=some (.builtin id))(ha:MEF X E Γ j v e t ca)(hx:autoParam (x≠"__name__") L2.au1._auto_1)(hdb:autoParam ((x==("__debug__":Str))=false) L2.au1._auto_1)
  (he:autoParam (starEach [e] X.env=(false,eval e X.env)::starEach [] X.env) L2.au3._auto_1) (hpl:autoParam ((backTo pos (starEach [] X.env)).any (·.1)=false) L2.au3._auto_1):MEF X E Γ j v (.Call (.Name x p) [e] [] pos) (eL g (z3 t z9)) .fresh:=by
 obtain ⟨te,p',q⟩:=ha
 refine ⟨_,vh hc hg hm hv (yi p' wA he) hx hdb he hpl,fun O σ H τ Q hσ ok h=>q O σ H τ _ hσ ok ?_⟩
 unfold eL z3 z9 at h
 cases ht:t τ with
 | ok d =>
  rw [ht,R.ok_bind,R.ok_bind,R.ok_bind] at h
  refine fun w H1 L s1 r1 _=>?_
  cases hg:g [d] with
  | ok d' =>
   rw [hg] at h
   exact hB H1 [w] [d] L Q (by have:=Reps.cons r1 Reps.nil; rwa [sJ] at this) ⟨d',hg,fun v H' L s r n1 n2=>h v H' L (s1.trans s) r ⟨n1,fun a ha=>s1.non (n2 a ha)⟩⟩
  | err n=>exact absurd hg (hn _ _)
  | bad=>rw [hg] at h; exact h.elim
 | err n=>rw [ht] at h; exact h
 | bad=>rw [ht] at h; exact h
def U4 (X:Cx)(E:XK)(Γl Γ:List Cl)(j:Nat)(v:V)(s:List Stmt)(t:Tn->R Fl)(Γ':List Cl):Prop :=
 ∃ ts,PSs X s ts/\∀ B σ H τ Z,σ[j]?=some (some v)->SOk X.K Γ B H σ τ []->uE X.K E B Γl Γ' Z (t τ)->ts Z σ H
theorem uz {Γl Γ':List Cl}{j:Nat}{v:V}{e:Expr}{t:Tn->R D}(h:MEF X E Γ j v e t .fresh):U4 X E Γl Γ j v [.Return (some e) pos] (zo t) Γ':=by
 obtain ⟨te,p,q⟩:=h
 refine ⟨QK te,uI (jl p),fun B σ H τ Z hσ ok h=>?_⟩
 obtain ⟨O,eo,_⟩:=ok.eok
 refine q O σ H τ _ hσ eo ?_
 unfold zo at h
 cases ht:t τ with
 | ok d =>
  rw [ht,R.ok_bind] at h
  exact fun v H' L s r k=>h v H' L (ok.ext.trans s) r k.1 fun a ha=>ok.ext.non (k.2 a ha)
 | err n=>rw [ht] at h; exact fun C H' e s=>h C H' e (ok.ext.trans s)
 | bad=>rw [ht] at h; exact h
theorem qX {Γl Γ':List Cl}{j:Nat}{v:V}{k:Expr}{u:Tn->R Bool}{sa rest:List Stmt}{d:D}{t2:Tn->R Fl}(hk:MT X E Γ k u)(ha:MSs X E Γl Γ sa (zo (eC d)) Γ')(hr:U4 X E Γl Γ j v rest t2 Γ'):U4 X E Γl Γ j v (.If k sa [] pos::rest) (ze (sIf u (zo (eC d)) zk) t2) Γ':=by
 obtain ⟨te,p,q⟩:=hk
 obtain ⟨ts1,p1,q1⟩:=ha
 obtain ⟨ts2,p2,q2⟩:=hr
 refine ⟨Qs (J4 te ts1 WY) ts2,jD (V9 p p1 Zl) p2,fun B σ H τ Z hσ ok h=>?_⟩
 obtain ⟨O,eo,_⟩:=ok.eok
 refine q O σ H τ _ eo ?_
 unfold ze sIf at h
 cases ht:u τ with
 | ok x =>
  rw [ht,R.ok_bind] at h
  refine fun H1 s1=>?_
  cases x with
  | true =>
   rw [if_pos rfl] at h ⊢
   exact q1 B σ H1 τ _ (ok.same s1) h
  | false =>
   rw [if_neg sE] at h ⊢
   exact q2 B σ H1 τ Z hσ (ok.same s1) h
 | err n=>rw [ht] at h; exact fun C H' e s=>h C H' e (ok.ext.trans s)
 | bad=>rw [ht] at h; exact h
end
def spF (K:PySem.W.Frag)(F:List D->R D)(n:Nat)(v:V):Sp:=fun vs H Q E=>∃ ws,vs=ws++[v]/\ws.length=n/\∃ ds L,Reps K H ds ws L/\post K E (fun _=>False) .fresh H Q (F ds)
theorem YI {N:List Str}{ws:List V}{v:V}(h:ws.length<N.length):start N (ws++[v])=(start N ws).set ws.length (some v):=by
 unfold start
 obtain ⟨m,hm⟩:∃ m,N.length-ws.length=m+1:=⟨N.length-ws.length-1,by lia⟩
 have e:N.length-(ws++[v]).length=m:=by rw [tZ,rS]; lia
 rw [hm,e,List.map_append,tS,rF]
 have l:(ws.map some).length=ws.length:=sO some
 rw [List.set_append_right _ _ (by rw [l]; exact sD _),l,Nat.sub_self]
 rfl
section
variable {P:Program}{w:World}{K:PySem.W.Frag}{mg:Str->Option Value}{base:Heap}{N:List Str}{x:Str}{st:Stmt}{ps:List Str}{t:Tn->R Fl}{k n:Nat}{v:V}{Γ':List Cl}
theorem DefIn.mirF (Df:DefIn K mg x st ps)(S:FnScope N ps (defScope st))(hn:ps.length<=N.length)(hps:n+1=ps.length)
  (hbody:∀ (f:Addr) (cdv:Value) (A:Around) (outer:List Env) (s:Shared) (H:Hp) (E:XK),Room k (A.deeper (envOfC x (defScope st) s.heap.objs.size f cdv)) ->
   U4 (xl (cxx P w) P w K mg base N x (defScope st) f cdv A outer s H E) E [] (qP N.length n) n v (defBody st) t Γ'):Own P w K mg base x (k+1) ps (spF K (zy N.length t) n v):=by
 refine Df.own S (fun vs H Q E h=>?_) fun f cdv A outer s H vs Q E hr h=>?_
 ·obtain ⟨ws,rfl,hl,_⟩:=h
  rw [tZ,hl]
  exact hps
 obtain ⟨ws,rfl,hl,ds,L,r,h⟩:=h
 obtain ⟨ts,p,q⟩:=hbody f cdv A outer s H E hr
 have hlt:ws.length<N.length:=by lia
 have ok:=SOk.start (N:=N) r (by lia)
 rw [hl] at ok
 have hdead:(qP N.length n)[n]?=some .dead:=by
  unfold qP
  rw [rM (by rw [sY]; exact sD _),sY,Nat.sub_self,rK,if_pos (by lia)]
 refine ⟨ts,p,?_⟩
 rw [YI hlt,hl]
 refine q H _ H _ _ ?_ (ok.deadPut hdead) ?_
 ·rw [sN (by unfold start; rw [tZ,sO,sY]; lia)]
 unfold zy at h
 cases ht:t (ds.map some++List.replicate (N.length-ds.length) none) with
 | ok f =>
  rw [ht] at h
  cases f with
  | nx τ'=>exact fun σ' H' ok'=>h .non H' [] ok'.ext ⟨rfl,rfl⟩ RcOk.nil
  | rt d=>exact fun v H' L s r n1 n2=>h v H' L s r ⟨n1,n2⟩
  | bk τ'=>exact h.elim
  | ct τ'=>exact h.elim
 | err n=>rw [ht] at h; exact fun C H' e s=>h C H' e s
 | bad=>rw [ht] at h; exact h.elim
end
section
variable {X:Cx}{E:XK}{Γ:List Cl}{pos p:Pos}{e:Expr}{es:List Expr}{t:Tn->R D}{u:Tn->R (List D)}{ca cb c:Rc}{v:V}
def MAG (X:Cx)(E:XK)(Γ:List Cl)(v:V)(es:List Expr)(t:Tn->R (List D))(c:Rc):Prop :=
 (∀ τ ds,t τ=.ok ds->ds.length+1=es.length)/\∃ ta,PA X es ta/\∀ O σ H τ Q,EOk X.K Γ O H σ τ->postL X.K E O c H (fun ws H'=>Q (ws++[v]) H') (t τ)->ta σ H Q
theorem Ve {g:Str}{f:Addr}(hg:Gl X g)(hm:X.mg g=some (.ref f))(hd:autoParam ((g==("__debug__":Str))=false) L2.au1._auto_1)(hs:autoParam (starEach [.Name g p] X.env=(false,eval (.Name g p) X.env)::starEach [] X.env) L2.au3._auto_1):MAG X E Γ (.ref f) [.Name g p] z9 .fresh :=
 ⟨fun τ ds h=>by cases h; rfl,_,yi (xu (v:=.ref f) hg hm rfl hd) wA hs,fun O σ H τ Q ok h=>h [] H [] (Same.refl H) Reps.nil RcOk.nil⟩
theorem jk (h:ME X E Γ e t ca)(r:MAG X E Γ v es u cb)(hs:autoParam (starEach (e::es) X.env=(false,eval e X.env)::starEach es X.env) L2.au3._auto_1):MAG X E Γ v (e::es) (z3 t u) (Rc.both ca cb):=by
 obtain ⟨te,p1,q1⟩:=h
 obtain ⟨hl,ta,p2,q2⟩:=r
 refine ⟨fun τ ds h=>?_,Xj te ta,yi p1 p2 hs,fun O σ H τ Q ok h=>?_⟩
 ·unfold z3 at h
  cases h1:t τ with
  | ok d =>
   rw [h1,R.ok_bind] at h
   cases h2:u τ with
   | ok xs =>
    rw [h2,R.ok_bind] at h
    cases h
    rw [tJ,tJ,hl τ xs h2]
   | err n=>rw [h2] at h; cases h
   | bad=>rw [h2] at h; cases h
  | err n=>rw [h1] at h; cases h
  | bad=>rw [h1] at h; cases h
 ·unfold z3 at h
  refine q1 O σ H τ _ ok ?_
  cases h1:t τ with
  | ok d =>
   rw [h1,R.ok_bind] at h
   refine fun v H1 L1 s1 r1 k1=>q2 O σ H1 τ _ (ok.same s1) ?_
   cases h2:u τ with
   | ok xs =>
    rw [h2,R.ok_bind] at h
    exact fun vs H2 L2 s2 r2 k2=>h (v::vs) H2 (L1++L2) (s1.trans s2) (Reps.cons (r1.same s2) r2) (RcOk.append ok.dom s1 r1 k1 k2)
   | err n=>rw [h2] at h; exact fun C H' e s'=>h C H' e (s1.trans s')
   | bad=>rw [h2] at h; exact h
  | err n=>rw [h1] at h; exact h
  | bad=>rw [h1] at h; exact h
theorem Wg {x:Str}{k n:Nat}{ps:List Str}{F:List D->R D}(O:Own X.prog X.w X.K X.mg X.base x k ps (spF X.K F n v))(hr:Room k X.A)(hg:Gl X x)(hx:wU (cxx X.prog X.w) X E)(ha:MAG X E Γ v (e::es) u c)(hl:autoParam ((e::es).length=n+1) L2.au3._auto_1)(hdb:autoParam ((x==("__debug__":Str))=false) L2.au1._auto_1)
  (he:autoParam (starEach (e::es) X.env=(false,eval e X.env)::starEach es X.env) L2.au3._auto_1) (hpl:autoParam ((backTo pos (starEach es X.env)).any (·.1)=false) L2.au3._auto_1):ME X E Γ (.Call (.Name x p) (e::es) [] pos) (eL F u) .fresh:=by
 obtain ⟨hlen,ta,pa,q⟩:=ha
 refine ⟨_,Vt O hr hg hx pa hdb he hpl,fun O' σ H τ Q ok h=>q O' σ H τ _ ok ?_⟩
 unfold eL at h
 cases hu:u τ with
 | ok ds =>
  rw [hu,R.ok_bind] at h
  refine fun vs H1 L s1 r1 _=>?_
  have hv:vs.length=n:=by have:=hlen τ ds hu; rw [r1.length]; lia
  refine ⟨vs,sJ _,hv,ds,L,r1,?_⟩
  have h1:=h.same s1
  cases hF:F ds with
  | ok d=>rw [hF] at h1; exact h1
  | err n=>rw [hF] at h1; exact h1
  | bad=>rw [hF] at h1; exact h1
 | err n=>rw [hu] at h; exact h
 | bad=>rw [hu] at h; exact h
end
def OwnF (P:Program)(w:World)(K:PySem.W.Frag)(mg:Str->Option Value)(base:Heap)(x:Str)(k:Nat)(ps:List Str)(F:List D->R D)(n:Nat)(g:Str):Prop:=∃ f,mg g=some (.ref f)/\Own P w K mg base x k ps (spF K F n (.ref f))
theorem OwnF.mono {P:Program}{w:World}{K:PySem.W.Frag}{mg:Str->Option Value}{base:Heap}{x:Str}{j k:Nat}{ps:List Str}{F:List D->R D}{n:Nat}{g:Str}(O:OwnF P w K mg base x j ps F n g)(h:j<=k):OwnF P w K mg base x k ps F n g:=by
 obtain ⟨f,a,b⟩:=O
 exact ⟨f,a,b.mono h⟩
theorem xY {X:Cx}{E:XK}{Γ:List Cl}{x g:Str}{k:Nat}{ps:List Str}{F:List D->R D}{e1 e2 e3:Expr}{t1 t2 t3:Tn->R D}{c1 c2 c3:Rc}{p pg pos:Pos}(O:OwnF X.prog X.w X.K X.mg X.base x k ps F 3 g)(hr:Room k X.A)(hg:Gl X x)(hgg:Gl X g)(hx:wU (cxx X.prog X.w) X E)(h1:ME X E Γ e1 t1 c1)(h2:ME X E Γ e2 t2 c2)(h3:ME X E Γ e3 t3 c3)
  (hdb:autoParam ((x==("__debug__":Str))=false) L2.au1._auto_1) (hdg:autoParam ((g==("__debug__":Str))=false) L2.au1._auto_1) (s1:autoParam (starEach [e1,e2,e3,.Name g pg] X.env=(false,eval e1 X.env)::starEach [e2,e3,.Name g pg] X.env) L2.au3._auto_1) (s2:autoParam (starEach [e2,e3,.Name g pg] X.env=(false,eval e2 X.env)::starEach [e3,.Name g pg] X.env) L2.au3._auto_1) (s3:autoParam (starEach [e3,.Name g pg] X.env=(false,eval e3 X.env)::starEach [.Name g pg] X.env) L2.au3._auto_1)
  (hpl:autoParam ((backTo pos (starEach [e2,e3,.Name g pg] X.env)).any (·.1)=false) L2.au3._auto_1):ME X E Γ (.Call (.Name x p) [e1,e2,e3,.Name g pg] [] pos) (eL F (z3 t1 (z3 t2 (z3 t3 z9)))) .fresh:=by
 obtain ⟨f,a,b⟩:=O
 exact Wg b hr hg hx (jk h1 (jk h2 (jk h3 (Ve hgg a hdg rfl) s3) s2) s1) rfl hdb s1 hpl
theorem Uy {X:Cx}{e:Expr}{te:TE}(h:PE X e te):PE X e (fun σ H Q=>te σ H fun v H1=>∃ l xs,v=.ref l/\H1 l=some (.lst xs)/\∀ o,Q v (upd H1 l (.frz o (.lst xs)))):=by
 intro pins s σ H Q I hq
 refine wpAny_mono (h pins s σ H _ I hq) (fun u s1 hz=>?_) fun _ _ z=>z
 obtain ⟨v,H1,I1,r,l,xs,rfl,hl,q⟩:=hz
 obtain ⟨z,its,n,rv,hg⟩:=I1.hok l _ hl
 refine ⟨.ref l,upd H1 l (.frz { cls:=.type "list",data:=.seq its.toArray n } (.lst xs)),?_,r,q _⟩
 exact I1.write (x:=l) (e:=l) (h':=s1.heap) (t':=s1.toks) (by rw [hl]; trivial) (.inl rfl) (fun b u _ e=>e) ⟨_,hg⟩ ⟨hg,z,its,n,rv,hg⟩
def qL (d:D):R D:=match d with
 | .lst ds=>if D.imms ds=true then .ok (.frl ds) else .bad
 | _=>.bad
theorem uA {X:Cx}{E:XK}{Γ:List Cl}{e:Expr}{t:Tn->R D}(h:ME X E Γ e t .fresh):ME X E Γ e (eUn qL t) .fresh:=by
 obtain ⟨te,p,q⟩:=h
 refine ⟨_,Uy p,fun O σ H τ Q ok h=>q O σ H τ _ ok ?_⟩
 unfold eUn at h
 cases ht:t τ with
 | err n=>rw [ht] at h; exact h
 | bad=>rw [ht] at h; exact h
 | ok d =>
  rw [ht,R.ok_bind] at h
  intro v H1 L s1 r1 k1
  unfold qL at h
  cases d with
  | lst ds =>
   dsimp only at h
   by_cases hi:D.imms ds=true
   ·rw [if_pos hi] at h
    obtain ⟨l,vs,L',rfl,hl,eL,rs⟩:=r1
    have hl0:H l=none:=k1.2 l (by first | (rw [eL.1]; exact tY) | (rw [eL]; exact tY) | simp [eL])
    refine ⟨l,vs,rfl,hl,fun o=>?_⟩
    have mu:(∃ vs,H1 l=some (.lst vs))\/∃ kvs,H1 l=some (.dK kvs):=.inl ⟨_,hl⟩
    exact h (.ref l) _ [] (fun b o' e=>by rw [yq (yC e hl0)]; exact s1 b o' e) ⟨l,vs,rfl,.inl ⟨o,yb⟩,rfl,hi,(yp rs hi).upd mu (by simp)⟩ RcOk.nil
   ·rw [if_neg hi] at h; exact h.elim
  | _=>exact h.elim
section
variable {prog:Program}{w:World}{A:Around}{E:Value->Shared->Prop}{s:Shared}
theorem Wb {t b:Addr}{vs ws:List Value}{Q:Value->Shared->Prop}(ht:IsTup s.heap t vs.toArray)(hb:IsTup s.heap b ws.toArray)(hv:vs=[])(h0:Q (.ref b) s):wpAny (model prog w) A (binaryOp .Add (.ref t) (.ref b)) Q E s:=by
 obtain ⟨⟨cls,dd,data,sl⟩,ho,hc,n,hd⟩:=id ht
 obtain ⟨⟨cls2,dd2,data2,sl2⟩,ho2,hc2,n2,hd2⟩:=id hb
 simp only at hc hd hc2 hd2
 subst hc hd hc2 hd2
 exact concat_meets ⟨_,ho,rfl⟩ ⟨_,ho2,rfl⟩ noFill_tuple_add seq_tuple_add PySem.F.slot_tuple_add PySem.F.entry_tuple_add (PySem.F.args_tuple_add_2 _ _)
   (tuple_addW0 t b vs.toArray ws.toArray n n2 dd dd2 sl sl2 (by simp [hv])) ⟨ho,ho2,h0⟩
end
def V5 (K:PySem.W.Frag):R2:=fun x y H Q=>∃ a b ys,x=.ref a/\y=.ref b/\SqT K H a []/\SqT K H b ys/\Q (.ref b) H
theorem Us {X:Cx}:OpR X (binaryOp .Add) (V5 X.K):=by
 intro pins s σ H x y v u Q I rx ry h
 obtain ⟨a,b,ys,rfl,rfl,ha,hb,q⟩:=h
 cases rx
 cases ry
 obtain ⟨its,r1,p1,_⟩:=I.tuple ha
 obtain ⟨its2,r2,p2,_⟩:=I.tuple hb
 exact Wb p1 p2 (r1.nil_iff.mpr rfl) ⟨.ref b,H,I,rfl,q⟩
def xP:D->D->R D
 | .tup xs,.tup ys=>if D.imms xs=true/\D.imms ys=true/\xs.length+ys.length<=sizeLine then .ok (.tup (xs++ys)) else .bad
 | _,_=>.bad
theorem vF {X:Cx}:OpR X (binaryOp .Add) (fun x y H Q=>V5 X.K x y H Q\/YW X.K x y H Q):=OpR.or Us Xe
theorem ux:xO xP:=fun x y n h=>by
 unfold xP at h
 split at h
 ·split at h<;>cases h
 ·cases h
theorem um {K:PySem.W.Frag}:OpB K (fun x y H Q=>V5 K x y H Q\/YW K x y H Q) xP:=by
 rintro H x y dx dy Lx Ly Q rx ry ⟨d,hg,q⟩
 unfold xP at hg
 split at hg
 ·rename_i xs ys
  split at hg
  ·rename_i hz
   cases hg
   obtain ⟨a,vs,rfl,ha,rs⟩:=rx
   obtain ⟨b,ws,rfl,hb,qs⟩:=ry
   have rr:=Reps.append (yp rs hz.1) (yp qs hz.2.1)
   by_cases hv:vs=[]
   ·subst hv
    exact .inl ⟨a,b,ws,rfl,rfl,ha,hb,q _ H [] (Same.refl H) ⟨b,ws,rfl,hb,rr⟩ (by simp) (fun a ha=>nomatch ha)⟩
   ·refine .inr ⟨a,b,vs,ws,rfl,rfl,ha,hb,hv,by rw [rs.length,qs.length]; exact hz.2.2,fun z=>?_,fun _ p hp=>?_⟩
    ·subst z
     rw [sJ] at rr
     exact q _ H [] (Same.refl H) ⟨a,vs,rfl,ha,rr⟩ (by simp) (fun a ha=>nomatch ha)
    ·exact q _ _ [] (Same.new hp) ⟨p,vs++ws,rfl,SqT.of yb,rr.same (Same.new hp)⟩ (by simp) (fun a ha=>nomatch ha)
  ·cases hg
 ·cases hg
theorem ZC (l:Addr)(items:Array Value)(n:Nat)(x:Int)(u:Tok)(dd:Option Addr)(sl:Array (Option Value))(h1:(decide (x < -(2 ^ 63))||decide (x>=2 ^ 63))=false)(hc:(items.isEmpty||x==1)=true) :
  Meets (Builtin.«tuple.__mul__» ⟨[.ref l,.int x u],[]⟩) (fun _ R s=>s.heap.get? l=some { cls:=.type "tuple",dict:=dd,data:=.seq items n,slots:=sl }/\R (.ok (.ret (Value.ref l))) s) :=
 .of_wp fun prog w A R s h=>by
  obtain ⟨hp,g,d,tk,os⟩:=s; obtain ⟨hl,h⟩:=h
  have f1:=AutoSeq1.idx_int
  wp_walk using wpAny_loadPart' hl
  refine wpAny_ite_false (decide_eq_false (by rw [h1]; decide)) ?_
  wp_walk using wpAny_loadPart' hl
  exact ⟨_,rfl,h⟩
theorem ZN (l:Addr)(items:Array Value)(n:Nat)(x:Int)(u:Tok)(dd:Option Addr)(sl:Array (Option Value))(h1:(decide (x < -(2 ^ 63))||decide (x>=2 ^ 63))=false)(hc:(items.isEmpty||x==1)=false)(h0:(decide (x<=0)||items.isEmpty)=true) :
  Meets (Builtin.«tuple.__mul__» ⟨[.ref l,.int x u],[]⟩) (fun _ R s=>s.heap.get? l=some { cls:=.type "tuple",dict:=dd,data:=.seq items n,slots:=sl }/\R (.ok (.ret (Value.ref s.heap.objs.size))) { s with heap:=s.heap.push { cls:=Value.type "tuple",data:=Data.seq #[] } }) :=
 .of_wp fun prog w A R s h=>by
  obtain ⟨hp,g,d,tk,os⟩:=s; obtain ⟨hl,h⟩:=h
  have f1:=AutoSeq1.idx_int
  wp_walk using wpAny_loadPart' hl
  refine wpAny_ite_false (decide_eq_false (by rw [h1]; decide)) ?_
  wp_walk using wpAny_loadPart' hl
  exact ⟨_,rfl,h⟩
theorem ZI (l:Addr)(items:Array Value)(n:Nat)(x:Int)(u:Tok)(dd:Option Addr)(sl:Array (Option Value))(h1:(decide (x < -(2 ^ 63))||decide (x>=2 ^ 63))=false)(hc:(items.isEmpty||x==1)=false)(h0:(decide (x<=0)||items.isEmpty)=false)(hm:¬ (items.size:Int)*x>(2 ^ 63-1)/8)(ht:Builtin.Tuple.tupleTooMany (items.size*x)=false)(hf:((List.replicate x.toNat items).foldl (·++·) #[]).size<=sizeLine) :
  Meets (Builtin.«tuple.__mul__» ⟨[.ref l,.int x u],[]⟩) (fun _ R s=>s.heap.get? l=some { cls:=.type "tuple",dict:=dd,data:=.seq items n,slots:=sl }/\R (.ok (.ret (Value.ref s.heap.objs.size))) { s with heap:=s.heap.push { cls:=Value.type "tuple",data:=Data.seq ((List.replicate x.toNat items).foldl (·++·) #[]) } }) :=
 .of_wp fun prog w A R s h=>by
  obtain ⟨hp,g,d,tk,os⟩:=s; obtain ⟨hl,h⟩:=h
  have f1:=AutoSeq1.idx_int
  wp_walk using wpAny_loadPart' hl
  refine wpAny_ite_false (decide_eq_false (by rw [h1]; decide)) ?_
  wp_walk using wpAny_loadPart' hl
  refine wpAny_ite_false (decide_eq_false hm) ?_
  wp_walk using wpAny_loadPart' hl
  exact ⟨_,rfl,h⟩
theorem uX:fillsNumberSlot (.type "tuple") "mul"=pure false :=
 PySem.fillsNumberSlot_seq (id:="tuple.__mul__") (r:=some (.builtin "tuple.__rmul__")) F.slot_tuple_mul.lookup (by decide +kernel) F.slot_tuple_rmul.lookup (by decide +kernel)
theorem Zk:seqRepeat? (.type "tuple")=pure (some (.builtin "tuple.__mul__")):=by
 unfold seqRepeat?
 rw [PySem.seqSlot_of (T:="tuple") (name:="__mul__") (id:="tuple.__mul__") F.slot_tuple_mul.lookup (by decide +kernel),PySem.seqSlot_of (T:="tuple") (name:="__rmul__") (id:="tuple.__rmul__") F.slot_tuple_rmul.lookup (by decide +kernel)]
 rfl
theorem jG (a:Int)(t:Tok)(l:Addr)(items:Array Value)(n:Nat)(dd:Option Addr)(sl:Array (Option Value)) :
  Meets (Builtin.«int.__rmul__» ⟨[.int a t,.ref l],[]⟩) (fun _ R s=>s.heap.get? l=some { cls:=.type "tuple",dict:=dd,data:=.seq items n,slots:=sl }/\R (.ok (.ret Value.notImplemented)) s) :=
 .of_wp fun prog w A R s h=>by obtain ⟨hp,g,d,tk,os⟩:=s; obtain ⟨hl,h⟩:=h; wp_walk; exact ⟨_,rfl,h⟩
def WG (K:PySem.W.Frag):R2:=fun x y H Q=>∃ a k xs,x=.ref a/\y=.int k/\SqT K H a xs/\-(2 ^ 63)<=k/\k<2 ^ 63/\xs.length*k.toNat<=sizeLine /\
 ((xs=[]\/k=1)->Q (.ref a) H)/\(¬ (xs=[]\/k=1)->∀ p,H p=none->Q (.ref p) (upd H p (.tup (List.replicate k.toNat xs).flatten)))
theorem VD {X:Cx}:OpR X (binaryOp .Mult) (WG X.K):=by
 intro pins s σ H x y v u Q I rx ry h
 obtain ⟨a,k,xs,rfl,rfl,ha,h1,h2,hz,q1,q2⟩:=h
 cases rx
 obtain ⟨t,rfl⟩:=ry
 obtain ⟨its,r,p1,_⟩:=I.tuple ha
 obtain ⟨⟨cls,dd,data,sl⟩,ho,hc,n,hd⟩:=id p1
 simp only at hc hd
 subst hc hd
 have hl:its.length=xs.length:=r.length.symm
 have hb:(decide (k < -(2 ^ 63))||decide (k>=2 ^ 63))=false:=by
  rw [decide_eq_false (by omega),decide_eq_false (by omega)]; rfl
 have f0:∀ m:Nat,List.foldl (fun x1 x2=>x1++x2) #[] (List.replicate m its.toArray)=(List.replicate m its).flatten.toArray:=fun m=>by
  have:=qq its m []
  rw [tN] at this
  exact this
 have he:its.toArray.isEmpty=decide (its=[]):=by cases its<;>simp
 have go:∀ {Q':Value->Shared->Prop},wpAny (model X.prog X.w) X.A (call (.builtin "tuple.__mul__") [.ref a,.int k t]) Q' X.xe s->wpAny (model X.prog X.w) X.A (binaryOp .Mult (.ref a) (.int k t)) Q' X.xe s:=fun hq =>
  wpAny_binaryOp_repeat_ref (T:="tuple") (U:="int") (by decide) ⟨_,ho,rfl⟩ (fun s'=>typeIs_int s' k t) uX F.fills_int_mul F.slot_int_rmul Zk F.slot_int_index.lookup
   (call_meets F.slot_int_rmul (typeIs_int s k t) F.entry_int_rmul (F.args_int_rmul_2 _ _) (jG k t a its.toArray n dd sl) ⟨ho,rfl,⟨_,ho,rfl⟩,hq⟩)
 by_cases h0:xs=[]\/k=1
 ·refine go (call_meets F.slot_tuple_mul ⟨_,ho,rfl⟩ F.entry_tuple_mul (F.args_tuple_mul_2 _ _) (ZC a its.toArray n k t dd sl hb ?_) ⟨ho,.ref a,H,I,rfl,q1 h0⟩)
  rw [he]
  rcases h0 with z | z
  ·rw [decide_eq_true (r.nil_iff.mpr z)]; rfl
  ·rw [z]; simp
 ·have hne:its≠[]:=fun z=>h0 (.inl (r.nil_iff.mp z))
  have hk1:k≠1:=fun z=>h0 (.inr z)
  have e1:(its.toArray.isEmpty||k==1)=false:=by rw [he,decide_eq_false hne,beq_false_of_ne hk1]; rfl
  by_cases hk:k<=0
  ·have ek:k.toNat=0:=by omega
   refine go (call_meets F.slot_tuple_mul ⟨_,ho,rfl⟩ F.entry_tuple_mul (F.args_tuple_mul_2 _ _) (ZN a its.toArray n k t dd sl hb e1 (by rw [decide_eq_true hk]; rfl)) ⟨ho,?_⟩)
   have q:=q2 h0 _ (I.hok.fresh (sD _))
   rw [ek] at q
   refine ⟨.ref s.heap.objs.size,_,I.laid (t':=s.toks) (o:=.tup []) (fun b ob q=>Heap.get?_push_of_some _ q) (sD _) ?_,rfl,q⟩
   exact ⟨pD _,[],.nil,TupN.new _ _⟩
  ·have hs:its.length*k.toNat<=sizeLine:=by rw [hl]; exact hz
   have hsz:(sizeLine:Nat)=16777216:=sizeLine_eq
   have hint:((its.toArray.size:Nat):Int)*k<=(sizeLine:Int):=by
    rw [sF,show k=((k.toNat:Nat):Int) by omega]
    exact_mod_cast hs
   have hlen:(List.replicate k.toNat its).flatten.length<=sizeLine:=by rw [Z9,Nat.mul_comm]; exact hs
   refine go (call_meets F.slot_tuple_mul ⟨_,ho,rfl⟩ F.entry_tuple_mul (F.args_tuple_mul_2 _ _) (ZI a its.toArray n k t dd sl hb e1 (by rw [he,decide_eq_false hne,decide_eq_false hk]; rfl) (by omega) (decide_eq_false (by omega)) (by rw [f0,sF]; exact hlen)) ⟨ho,?_⟩)
   rw [f0]
   refine ⟨.ref s.heap.objs.size,_,I.laid (t':=s.toks) (o:=.tup (List.replicate k.toNat xs).flatten) (fun b ob q=>Heap.get?_push_of_some _ q) (sD _) ?_,rfl,q2 h0 _ (I.hok.fresh (sD _))⟩
   exact ⟨by rw [Z9,Nat.mul_comm]; exact hz,_,r.rep k.toNat,TupN.new _ _⟩
def xU:D->D->R D
 | .tup xs,.int k=>if D.imms xs=true/\-(2 ^ 63)<=k/\k<2 ^ 63/\xs.length*k.toNat<=sizeLine then .ok (.tup (List.replicate k.toNat xs).flatten) else .bad
 | _,_=>.bad
theorem wB:xO xU:=fun x y n h=>by
 unfold xU at h
 split at h
 ·split at h<;>cases h
 ·cases h
theorem xI {X:Cx}:OpR X (binaryOp .Mult) (WG X.K):=VD
theorem wC {K:PySem.W.Frag}:OpB K (WG K) xU:=by
 rintro H x y dx dy Lx Ly Q rx ry ⟨d,hg,q⟩
 unfold xU at hg
 split at hg
 ·rename_i xs k
  split at hg
  ·rename_i hz
   cases hg
   obtain ⟨a,vs,rfl,ha,rs⟩:=rx
   have rr:=(yp rs hz.1).rep k.toNat
   refine ⟨a,k,vs,rfl,ry.1,ha,hz.2.1,hz.2.2.1,by rw [rs.length]; exact hz.2.2.2,fun z=>?_,fun _ p hp=>?_⟩
   ·have e:(List.replicate k.toNat vs).flatten=vs:=by
     rcases z with z | z
     ·subst z; simp
     ·subst z; simp
    rw [e] at rr
    exact q _ H [] (Same.refl H) ⟨a,vs,rfl,ha,rr⟩ (by simp) (fun a ha=>nomatch ha)
   ·exact q _ _ [] (Same.new hp) ⟨p,_,rfl,SqT.of yb,rr.same (Same.new hp)⟩ (by simp) (fun a ha=>nomatch ha)
  ·cases hg
 ·cases hg
end L2
namespace K06
open PySem PySem.Spec PyProof.Rows L2
def top (i:Nat):Stmt:=PySem.Challenge.pw_quirehand_k06_blocks_refused.main.body.getD i (.Pass ⟨0,0,0,0⟩)
section
variable {P:Program}{w:World}{K:PySem.W.Frag}{mg:Str->Option Value}{base:Heap}
structure Gl0 (K:PySem.W.Frag)(mg:Str->Option Value):Prop where
 SIGNS:∃ t,mg "SIGNS"=some (.str "abcdefghijklmnopqrstuvwxyzABCDEFGHIJKLMNOPQRSTUVWXYZ0123456789.,;:!?'\"()-/" t)
 MOST_SIGNS:∃ t,mg "MOST_SIGNS"=some (.int 40 t)
 MOST_HEAD_WORDS:∃ t,mg "MOST_HEAD_WORDS"=some (.int 12 t)
 MOST_PAIRS:∃ t,mg "MOST_PAIRS"=some (.int 200 t)
 MOST_WORD_NOTES:∃ t,mg "MOST_WORD_NOTES"=some (.int 3 t)
 MOST_NOTE_WORDS:∃ t,mg "MOST_NOTE_WORDS"=some (.int 30 t)
 MOST_ROWS:∃ t,mg "MOST_ROWS"=some (.int 20 t)
 MOST_CELLS:∃ t,mg "MOST_CELLS"=some (.int 4 t)
 MOST_CELL_WORDS:∃ t,mg "MOST_CELL_WORDS"=some (.int 12 t)
 MOST_BLOCKS:∃ t,mg "MOST_BLOCKS"=some (.int 40 t)
 MOST_NOTES:∃ t,mg "MOST_NOTES"=some (.int 60 t)
theorem KQ {C:Addr}{bm:List Value}{n:String}(h:PySem.W.excIn K C bm n=true):(PySem.W.clsIn K C).isSome=true:=by
 unfold PySem.W.excIn at h
 split at h
 ·rename_i hl
  unfold PySem.W.clsIn
  rw [hl]
  rfl
 ·cases h
structure Cls (K:PySem.W.Frag)(mg:Str->Option Value):Prop where
 e_BadBlocks:∃ C,ErrC K "BadBlocks" C
 ve:mg "ValueError"=none
 ex:∃ CS CT c1 c2 c3 c4 c5 c6 c7 c8 c9:Addr,mg "SetError"=some (.ref CS)/\ErrC K "BadBlocks" CT/\ErrI K CT/\mg "BadBlocks"=some (.ref CT)/\PySem.W.kitOne K (.ref CT) (.type "ValueError")=some true/\PySem.W.exmOne K (.ref CT) (.ref CS)=some true/\(mg "BadBook"=some (.ref c1)/\PySem.W.kitOne K (.ref CT) (.ref c1)=some false)/\(mg "BadBreaks"=some (.ref c2)/\PySem.W.kitOne K (.ref CT) (.ref c2)=some false)/\(mg "BadFace"=some (.ref c3)/\PySem.W.kitOne K (.ref CT) (.ref c3)=some false)/\(mg "BadRules"=some (.ref c4)/\PySem.W.kitOne K (.ref CT) (.ref c4)=some false)/\(mg "BadText"=some (.ref c5)/\PySem.W.kitOne K (.ref CT) (.ref c5)=some false)/\(mg "BadWord"=some (.ref c6)/\PySem.W.kitOne K (.ref CT) (.ref c6)=some false)/\(mg "NoNote"=some (.ref c7)/\PySem.W.kitOne K (.ref CT) (.ref c7)=some false)/\(mg "NoPlace"=some (.ref c8)/\PySem.W.kitOne K (.ref CT) (.ref c8)=some false)/\(mg "TooWide"=some (.ref c9)/\PySem.W.kitOne K (.ref CT) (.ref c9)=some false)
def XE:Tn->R Fl:=(zo (vt (eUn (xx "str") (z7 0)) (vt (za (eqR false) (eL yh (z3 (z7 0) z9)) (eC (.int 1))) (za Yr (z7 0) (eC (.str "abcdefghijklmnopqrstuvwxyzABCDEFGHIJKLMNOPQRSTUVWXYZ0123456789.,;:!?'\"()-/"))))))
def vd:List D->R D:=zy 1 XE
theorem Yj:FnScope ["thing"] ["thing"] (defScope (top 14)):=⟨rfl,rfl,rfl,by decide +kernel,rfl,by decide +kernel,by decide +kernel⟩
theorem YD (Df:DefIn K mg "is_sign" (top 14) ["thing"])(B:Bl mg)(G:Gl0 K mg)(Cl:Cls K mg) :Own P w K mg base "is_sign" 1 ["thing"] (spM K vd 1) :=
 Df.mir (k:=0) (Γ':=[.shr]) Yj (by decide) fun f cdv A outer s H E hr=>(zl (zw (zc (qv (wy (T:="str") (by decide) rfl B.isinstance (xA (v:=.ty "str") rfl B.str Boot.«str» rfl) (mn 0 .shr)) (qv (vT (zM hr.u12) x9 xa (zH zN yL yN (by exact rfl) B.len PySem.boot_len (z4 (mn 0 .shr) z8)) zb (zE _)) (jE (vT Jl Kf z05 (mn 0 .shr) (W5 G.SIGNS) (by exact rfl))))))))
def vj:Tn->R Fl:=(ze (sIf (bOr (yk (zg (eUn (xx "str") (z7 0)))) (yk (zg (yW leD leD (eC (.int 1)) (eL yh (z3 (z7 0) z9)) (eC (.int 40)))))) (zo (eC (.bl false))) zk) (zo (eL wV (z3 (xF [none] (xb (z7 0)) (.one 0) (fun _=>.ok true) (eL vd (z3 (z7 0) z9))) z9))))
def zR:List D->R D:=zy 1 vj
theorem sc_is_word:FnScope ["thing"] ["thing"] (defScope (top 17)):=⟨rfl,rfl,rfl,by decide +kernel,rfl,by decide +kernel,by decide +kernel⟩
theorem Yc (Df:DefIn K mg "is_word" (top 17) ["thing"])(B:Bl mg)(G:Gl0 K mg)(Cl:Cls K mg)(O_is_sign:Own P w K mg base "is_sign" 1 ["thing"] (spM K vd 1)):Own P w K mg base "is_word" 2 ["thing"] (spM K zR 1) :=
 Df.mir (k:=1) (Γ':=[.shr]) sc_is_word (by decide) fun f cdv A outer s H E hr=>(zf (zX (MW.mt (wo (yB (xf (wy (T:="str") (by decide) rfl B.isinstance (xA (v:=.ty "str") rfl B.str Boot.«str» rfl) (mn 0 .shr)))) (xM (yB (vk v3 qp zr v3 qp zr zb (zH zN yL yN (by exact rfl) B.len PySem.boot_len (z4 (mn 0 .shr) z8)) (xy G.MOST_SIGNS)))))) (zl (zw (zc yz))) zC) (zl (zw (zc (zH (xG (by exact rfl)) qx qz (by exact rfl) B.all Boot.«all» (z4 (u7 (N':=["sign"]) (fr:=[none]) rfl (wt sc_is_word.nofree (by decide +kernel)) (w8 (mn 0 .shr)) (fun _ _ _ _=>(yU (pgn 0 (show List.Nodup (["sign"]:List Str) from by decide +kernel)))) (fun _ _ _ _=>xN) (fun _ _ _ _=>(zv (O_is_sign.mono (by decide)) hr (by exact rfl) xH (z4 (mn 0 .shr) z8))) (by decide) (by decide)) z8))))))
theorem sc_is_tuple_of:FnScope ["thing","least","most","is_part"] ["thing","least","most","is_part"] (defScope (top 28)):=⟨rfl,rfl,rfl,by decide +kernel,rfl,by decide +kernel,by decide +kernel⟩
def vq:Tn->R Fl:=(ze (sIf (bOr (yk (zg (eUn (xx "tuple") (z7 0)))) (yk (zg (yW leD leD (z7 1) (eL yh (z3 (z7 0) z9)) (z7 2))))) (zo (eC (.bl false))) zk) (zo (eL wV (z3 (xF [none,some 3] (xb (z7 0)) (.one 0) (fun _=>.ok true) (eL zR (z3 (z7 0) z9))) z9))))
def zm:List D->R D:=zy 4 vq
theorem vc (Df:DefIn K mg "is_tuple_of" (top 28) ["thing","least","most","is_part"])(B:Bl mg)(G:Gl0 K mg)(Cl:Cls K mg)(O_is_word:Own P w K mg base "is_word" 2 ["thing"] (spM K zR 1)):OwnF P w K mg base "is_tuple_of" 3 ["thing","least","most","is_part"] zm 3 "is_word":=by
 obtain ⟨fg,hfg⟩:=O_is_word.mgx
 exact ⟨fg,hfg,Df.mirF (k:=2) (v:=.ref fg) (n:=3) (Γ':=[.shr,.shr,.shr,.dead]) sc_is_tuple_of (by decide) rfl fun f cdv A outer s H E hr=>qX (MW.mt (wo (yB (xf (wy (T:="tuple") (by decide) rfl B.isinstance (xA (v:=.ty "tuple") rfl B.tuple Boot.«tuple» rfl) (mn 0 .shr)))) (xM (yB (vk v3 qp zr v3 qp zr (mn 1 .shr) (zH zN yL yN (by exact rfl) B.len PySem.boot_len (z4 (mn 0 .shr) z8)) (mn 2 .shr)))))) (zl (zw (zc yz))) (uz (wu (xG (by exact rfl)) qx qz (by exact rfl) B.all Boot.«all» (vZ (N':=["part","is_part"]) (fr:=[none,some 3]) (jf:=1) rfl (wt sc_is_tuple_of.nofree (by decide +kernel)) (w8 (mn 0 .shr)) (fun _ _ _ _=>(yU (pgn 0 (show List.Nodup (["part","is_part"]:List Str) from by decide +kernel)))) (fun _ _ _ _=>xN) (fun _ _ _ _=>wY (O_is_word.mono (by decide)) hfg hr rfl (by first | exact Or.inl rfl | exact Or.inr (Or.inl rfl) | exact Or.inr (Or.inr rfl)) xH (z4 (mn 0 .shr) z8)) (by decide) (by decide) (by decide) rfl)))⟩
def kG:Tn->R Fl:=(zo (eL zm (z3 (z7 0) (z3 (eC (.int 1)) (z3 (eC (.int 30)) z9)))))
def xt:List D->R D:=zy 1 kG
theorem YJ:FnScope ["thing"] ["thing"] (defScope (top 29)):=⟨rfl,rfl,rfl,by decide +kernel,rfl,by decide +kernel,by decide +kernel⟩
theorem YC (Df:DefIn K mg "is_note" (top 29) ["thing"])(B:Bl mg)(G:Gl0 K mg)(Cl:Cls K mg)(O_is_tuple_of__is_word:OwnF P w K mg base "is_tuple_of" 3 ["thing","least","most","is_part"] zm 3 "is_word"):Own P w K mg base "is_note" 4 ["thing"] (spM K xt 1) :=
 Df.mir (k:=3) (Γ':=[.shr]) YJ (by decide) fun f cdv A outer s H E hr=>(zl (zw (zc (xY (O_is_tuple_of__is_word.mono (by decide)) hr (by exact rfl) (by exact rfl) zi (mn 0 .shr) zb (xy G.MOST_NOTE_WORDS)))))
def vo:Tn->R Fl:=(ze (sIf (bOr (yk (zg (eUn (xx "tuple") (z7 0)))) (yk (zg (yW leD leD (z7 1) (eL yh (z3 (z7 0) z9)) (z7 2))))) (zo (eC (.bl false))) zk) (zo (eL wV (z3 (xF [none,some 3] (xb (z7 0)) (.one 0) (fun _=>.ok true) (eL xt (z3 (z7 0) z9))) z9))))
def zK:List D->R D:=zy 4 vo
theorem wZ (Df:DefIn K mg "is_tuple_of" (top 28) ["thing","least","most","is_part"])(B:Bl mg)(G:Gl0 K mg)(Cl:Cls K mg)(O_is_note:Own P w K mg base "is_note" 4 ["thing"] (spM K xt 1)):OwnF P w K mg base "is_tuple_of" 5 ["thing","least","most","is_part"] zK 3 "is_note":=by
 obtain ⟨fg,hfg⟩:=O_is_note.mgx
 exact ⟨fg,hfg,Df.mirF (k:=4) (v:=.ref fg) (n:=3) (Γ':=[.shr,.shr,.shr,.dead]) sc_is_tuple_of (by decide) rfl fun f cdv A outer s H E hr=>qX (MW.mt (wo (yB (xf (wy (T:="tuple") (by decide) rfl B.isinstance (xA (v:=.ty "tuple") rfl B.tuple Boot.«tuple» rfl) (mn 0 .shr)))) (xM (yB (vk v3 qp zr v3 qp zr (mn 1 .shr) (zH zN yL yN (by exact rfl) B.len PySem.boot_len (z4 (mn 0 .shr) z8)) (mn 2 .shr)))))) (zl (zw (zc yz))) (uz (wu (xG (by exact rfl)) qx qz (by exact rfl) B.all Boot.«all» (vZ (N':=["part","is_part"]) (fr:=[none,some 3]) (jf:=1) rfl (wt sc_is_tuple_of.nofree (by decide +kernel)) (w8 (mn 0 .shr)) (fun _ _ _ _=>(yU (pgn 0 (show List.Nodup (["part","is_part"]:List Str) from by decide +kernel)))) (fun _ _ _ _=>xN) (fun _ _ _ _=>wY (O_is_note.mono (by decide)) hfg hr rfl (by first | exact Or.inl rfl | exact Or.inr (Or.inl rfl) | exact Or.inr (Or.inr rfl)) xH (z4 (mn 0 .shr) z8)) (by decide) (by decide) (by decide) rfl)))⟩
def ud:Tn->R Fl:=(ze (sIf (bOr (yk (zg (eUn (xx "tuple") (z7 0)))) (zg (za (eqR true) (eL yh (z3 (z7 0) z9)) (eC (.int 2))))) (zo (eC (.bl false))) zk) (zo (vt (eL zR (z3 (za ixD (z7 0) (eC (.int 0))) z9)) (eL zK (z3 (za ixD (z7 0) (eC (.int 1))) (z3 (eC (.int 0)) (z3 (eC (.int 3)) z9)))))))
def yG:List D->R D:=zy 1 ud
theorem YA:FnScope ["thing"] ["thing"] (defScope (top 30)):=⟨rfl,rfl,rfl,by decide +kernel,rfl,by decide +kernel,by decide +kernel⟩
theorem Y9 (Df:DefIn K mg "is_pair" (top 30) ["thing"])(B:Bl mg)(G:Gl0 K mg)(Cl:Cls K mg)(O_is_word:Own P w K mg base "is_word" 2 ["thing"] (spM K zR 1))(O_is_tuple_of__is_note:OwnF P w K mg base "is_tuple_of" 5 ["thing","least","most","is_part"] zK 3 "is_note"):Own P w K mg base "is_pair" 6 ["thing"] (spM K yG 1) :=
 Df.mir (k:=5) (Γ':=[.shr]) YA (by decide) fun f cdv A outer s H E hr=>(zf (zX (MW.mt (wo (yB (xf (wy (T:="tuple") (by decide) rfl B.isinstance (xA (v:=.ty "tuple") rfl B.tuple Boot.«tuple» rfl) (mn 0 .shr)))) (xM (zJ (uy hr.u12) x9 xa (zH zN yL yN (by exact rfl) B.len PySem.boot_len (z4 (mn 0 .shr) z8)) zb (zE _))))) (zl (zw (zc yz))) zC) (zl (zw (zc (qv (zv (O_is_word.mono (by decide)) hr (by exact rfl) zi (z4 (zY hr.u1 (mn 0 .shr) zb) z8)) (jE (xY (O_is_tuple_of__is_note.mono (by decide)) hr (by exact rfl) (by exact rfl) zi (zY hr.u1 (mn 0 .shr) zb) zb (xy G.MOST_WORD_NOTES))))))))
def kB:Tn->R Fl:=(zo (eL zm (z3 (z7 0) (z3 (eC (.int 0)) (z3 (eC (.int 12)) z9)))))
def xm:List D->R D:=zy 1 kB
theorem YM:FnScope ["thing"] ["thing"] (defScope (top 31)):=⟨rfl,rfl,rfl,by decide +kernel,rfl,by decide +kernel,by decide +kernel⟩
theorem Yn (Df:DefIn K mg "is_cell" (top 31) ["thing"])(B:Bl mg)(G:Gl0 K mg)(Cl:Cls K mg)(O_is_tuple_of__is_word:OwnF P w K mg base "is_tuple_of" 3 ["thing","least","most","is_part"] zm 3 "is_word"):Own P w K mg base "is_cell" 4 ["thing"] (spM K xm 1) :=
 Df.mir (k:=3) (Γ':=[.shr]) YM (by decide) fun f cdv A outer s H E hr=>(zl (zw (zc (xY (O_is_tuple_of__is_word.mono (by decide)) hr (by exact rfl) (by exact rfl) zi (mn 0 .shr) zb (xy G.MOST_CELL_WORDS)))))
def vC:Tn->R Fl:=(ze (sIf (bOr (yk (zg (eUn (xx "tuple") (z7 0)))) (yk (zg (yW leD leD (z7 1) (eL yh (z3 (z7 0) z9)) (z7 2))))) (zo (eC (.bl false))) zk) (zo (eL wV (z3 (xF [none,some 3] (xb (z7 0)) (.one 0) (fun _=>.ok true) (eL xm (z3 (z7 0) z9))) z9))))
def zT:List D->R D:=zy 4 vC
theorem vg (Df:DefIn K mg "is_tuple_of" (top 28) ["thing","least","most","is_part"])(B:Bl mg)(G:Gl0 K mg)(Cl:Cls K mg)(O_is_cell:Own P w K mg base "is_cell" 4 ["thing"] (spM K xm 1)):OwnF P w K mg base "is_tuple_of" 5 ["thing","least","most","is_part"] zT 3 "is_cell":=by
 obtain ⟨fg,hfg⟩:=O_is_cell.mgx
 exact ⟨fg,hfg,Df.mirF (k:=4) (v:=.ref fg) (n:=3) (Γ':=[.shr,.shr,.shr,.dead]) sc_is_tuple_of (by decide) rfl fun f cdv A outer s H E hr=>qX (MW.mt (wo (yB (xf (wy (T:="tuple") (by decide) rfl B.isinstance (xA (v:=.ty "tuple") rfl B.tuple Boot.«tuple» rfl) (mn 0 .shr)))) (xM (yB (vk v3 qp zr v3 qp zr (mn 1 .shr) (zH zN yL yN (by exact rfl) B.len PySem.boot_len (z4 (mn 0 .shr) z8)) (mn 2 .shr)))))) (zl (zw (zc yz))) (uz (wu (xG (by exact rfl)) qx qz (by exact rfl) B.all Boot.«all» (vZ (N':=["part","is_part"]) (fr:=[none,some 3]) (jf:=1) rfl (wt sc_is_tuple_of.nofree (by decide +kernel)) (w8 (mn 0 .shr)) (fun _ _ _ _=>(yU (pgn 0 (show List.Nodup (["part","is_part"]:List Str) from by decide +kernel)))) (fun _ _ _ _=>xN) (fun _ _ _ _=>wY (O_is_cell.mono (by decide)) hfg hr rfl (by first | exact Or.inl rfl | exact Or.inr (Or.inl rfl) | exact Or.inr (Or.inr rfl)) xH (z4 (mn 0 .shr) z8)) (by decide) (by decide) (by decide) rfl)))⟩
def Y2:Tn->R Fl:=(zo (eL zT (z3 (z7 0) (z3 (eC (.int 1)) (z3 (eC (.int 4)) z9)))))
def yQ:List D->R D:=zy 1 Y2
theorem Xw:FnScope ["thing"] ["thing"] (defScope (top 32)):=⟨rfl,rfl,rfl,by decide +kernel,rfl,by decide +kernel,by decide +kernel⟩
theorem Xz (Df:DefIn K mg "is_row" (top 32) ["thing"])(B:Bl mg)(G:Gl0 K mg)(Cl:Cls K mg)(O_is_tuple_of__is_cell:OwnF P w K mg base "is_tuple_of" 5 ["thing","least","most","is_part"] zT 3 "is_cell"):Own P w K mg base "is_row" 6 ["thing"] (spM K yQ 1) :=
 Df.mir (k:=5) (Γ':=[.shr]) Xw (by decide) fun f cdv A outer s H E hr=>(zl (zw (zc (xY (O_is_tuple_of__is_cell.mono (by decide)) hr (by exact rfl) (by exact rfl) zi (mn 0 .shr) zb (xy G.MOST_CELLS)))))
def vI:Tn->R Fl:=(ze (sIf (bOr (yk (zg (eUn (xx "tuple") (z7 0)))) (yk (zg (yW leD leD (z7 1) (eL yh (z3 (z7 0) z9)) (z7 2))))) (zo (eC (.bl false))) zk) (zo (eL wV (z3 (xF [none,some 3] (xb (z7 0)) (.one 0) (fun _=>.ok true) (eL yQ (z3 (z7 0) z9))) z9))))
def zF:List D->R D:=zy 4 vI
theorem vB (Df:DefIn K mg "is_tuple_of" (top 28) ["thing","least","most","is_part"])(B:Bl mg)(G:Gl0 K mg)(Cl:Cls K mg)(O_is_row:Own P w K mg base "is_row" 6 ["thing"] (spM K yQ 1)):OwnF P w K mg base "is_tuple_of" 7 ["thing","least","most","is_part"] zF 3 "is_row":=by
 obtain ⟨fg,hfg⟩:=O_is_row.mgx
 exact ⟨fg,hfg,Df.mirF (k:=6) (v:=.ref fg) (n:=3) (Γ':=[.shr,.shr,.shr,.dead]) sc_is_tuple_of (by decide) rfl fun f cdv A outer s H E hr=>qX (MW.mt (wo (yB (xf (wy (T:="tuple") (by decide) rfl B.isinstance (xA (v:=.ty "tuple") rfl B.tuple Boot.«tuple» rfl) (mn 0 .shr)))) (xM (yB (vk v3 qp zr v3 qp zr (mn 1 .shr) (zH zN yL yN (by exact rfl) B.len PySem.boot_len (z4 (mn 0 .shr) z8)) (mn 2 .shr)))))) (zl (zw (zc yz))) (uz (wu (xG (by exact rfl)) qx qz (by exact rfl) B.all Boot.«all» (vZ (N':=["part","is_part"]) (fr:=[none,some 3]) (jf:=1) rfl (wt sc_is_tuple_of.nofree (by decide +kernel)) (w8 (mn 0 .shr)) (fun _ _ _ _=>(yU (pgn 0 (show List.Nodup (["part","is_part"]:List Str) from by decide +kernel)))) (fun _ _ _ _=>xN) (fun _ _ _ _=>wY (O_is_row.mono (by decide)) hfg hr rfl (by first | exact Or.inl rfl | exact Or.inr (Or.inl rfl) | exact Or.inr (Or.inr rfl)) xH (z4 (mn 0 .shr) z8)) (by decide) (by decide) (by decide) rfl)))⟩
def uo:Tn->R Fl:=(zo (vt (eL zF (z3 (z7 0) (z3 (eC (.int 1)) (z3 (eC (.int 20)) z9)))) (eL wV (z3 (xF [none,some 0] (xb (z7 0)) (.one 0) (fun _=>.ok true) (za (eqR false) (eL yh (z3 (z7 0) z9)) (eL yh (z3 (za ixD (z7 1) (eC (.int 0))) z9)))) z9))))
def yr:List D->R D:=zy 1 uo
theorem sc_is_table:FnScope ["thing"] ["thing"] (defScope (top 33)):=⟨rfl,rfl,rfl,by decide +kernel,rfl,by decide +kernel,by decide +kernel⟩
theorem ZS (Df:DefIn K mg "is_table" (top 33) ["thing"])(B:Bl mg)(G:Gl0 K mg)(Cl:Cls K mg)(O_is_tuple_of__is_row:OwnF P w K mg base "is_tuple_of" 7 ["thing","least","most","is_part"] zF 3 "is_row"):Own P w K mg base "is_table" 8 ["thing"] (spM K yr 1) :=
 Df.mir (k:=7) (Γ':=[.shr]) sc_is_table (by decide) fun f cdv A outer s H E hr=>(zl (zw (zc (qv (xY (O_is_tuple_of__is_row.mono (by decide)) hr (by exact rfl) (by exact rfl) zi (mn 0 .shr) zb (xy G.MOST_ROWS)) (jE (zH (xG (by exact rfl)) qx qz (by exact rfl) B.all Boot.«all» (z4 (u7 (N':=["row","thing"]) (fr:=[none,some 0]) rfl (wt sc_is_table.nofree (by decide +kernel)) (w8 (mn 0 .shr)) (fun _ _ _ _=>(yU (pgn 0 (show List.Nodup (["row","thing"]:List Str) from by decide +kernel)))) (fun _ _ _ _=>xN) (fun _ _ _ _=>(vT (zM hr.u12) x9 xa (zH zN yL yN (by exact rfl) B.len PySem.boot_len (z4 (mn 0 .shr) z8)) (zH zN yL yN (by exact rfl) B.len PySem.boot_len (z4 (zY hr.u1 (mn 1 .shr) zb) z8)) (zE _))) (by decide) (by decide)) z8)))))))
def vp:Tn->R Fl:=(ze (sIf (bOr (yk (zg (eUn (xx "tuple") (z7 0)))) (yk (zg (yW leD leD (z7 1) (eL yh (z3 (z7 0) z9)) (z7 2))))) (zo (eC (.bl false))) zk) (zo (eL wV (z3 (xF [none,some 3] (xb (z7 0)) (.one 0) (fun _=>.ok true) (eL yG (z3 (z7 0) z9))) z9))))
def zS:List D->R D:=zy 4 vp
theorem v9 (Df:DefIn K mg "is_tuple_of" (top 28) ["thing","least","most","is_part"])(B:Bl mg)(G:Gl0 K mg)(Cl:Cls K mg)(O_is_pair:Own P w K mg base "is_pair" 6 ["thing"] (spM K yG 1)):OwnF P w K mg base "is_tuple_of" 7 ["thing","least","most","is_part"] zS 3 "is_pair":=by
 obtain ⟨fg,hfg⟩:=O_is_pair.mgx
 exact ⟨fg,hfg,Df.mirF (k:=6) (v:=.ref fg) (n:=3) (Γ':=[.shr,.shr,.shr,.dead]) sc_is_tuple_of (by decide) rfl fun f cdv A outer s H E hr=>qX (MW.mt (wo (yB (xf (wy (T:="tuple") (by decide) rfl B.isinstance (xA (v:=.ty "tuple") rfl B.tuple Boot.«tuple» rfl) (mn 0 .shr)))) (xM (yB (vk v3 qp zr v3 qp zr (mn 1 .shr) (zH zN yL yN (by exact rfl) B.len PySem.boot_len (z4 (mn 0 .shr) z8)) (mn 2 .shr)))))) (zl (zw (zc yz))) (uz (wu (xG (by exact rfl)) qx qz (by exact rfl) B.all Boot.«all» (vZ (N':=["part","is_part"]) (fr:=[none,some 3]) (jf:=1) rfl (wt sc_is_tuple_of.nofree (by decide +kernel)) (w8 (mn 0 .shr)) (fun _ _ _ _=>(yU (pgn 0 (show List.Nodup (["part","is_part"]:List Str) from by decide +kernel)))) (fun _ _ _ _=>xN) (fun _ _ _ _=>wY (O_is_pair.mono (by decide)) hfg hr rfl (by first | exact Or.inl rfl | exact Or.inr (Or.inl rfl) | exact Or.inr (Or.inr rfl)) xH (z4 (mn 0 .shr) z8)) (by decide) (by decide) (by decide) rfl)))⟩
def jJ:Tn->R Fl:=(ze (sIf (bOr (yk (zg (eUn (xx "tuple") (z7 0)))) (bOr (zg (za (inD true) (eL yh (z3 (z7 0) z9)) (eL (fun ds=>.ok (.tup ds)) (z3 (eC (.int 1)) (z3 (eC (.int 2)) z9))))) (yk (zg (eUn (xx "str") (za ixD (z7 0) (eC (.int 0)))))))) (zo (eC (.bl false))) zk) (ze (sIf (zg (za (eqR false) (eL yh (z3 (z7 0) z9)) (eC (.int 1)))) (zo (za (eqR false) (za ixD (z7 0) (eC (.int 0))) (eC (.str "leaf")))) zk) (ze (sIf (zg (za (eqR false) (za ixD (z7 0) (eC (.int 0))) (eC (.str "head")))) (zo (eL zm (z3 (za ixD (z7 0) (eC (.int 1))) (z3 (eC (.int 1)) (z3 (eC (.int 12)) z9))))) zk) (ze (sIf (zg (za (eqR false) (za ixD (z7 0) (eC (.int 0))) (eC (.str "text")))) (zo (eL zS (z3 (za ixD (z7 0) (eC (.int 1))) (z3 (eC (.int 1)) (z3 (eC (.int 200)) z9))))) zk) (zo (vt (za (eqR false) (za ixD (z7 0) (eC (.int 0))) (eC (.str "table"))) (eL yr (z3 (za ixD (z7 0) (eC (.int 1))) z9))))))))
def zq:List D->R D:=zy 1 jJ
theorem ZY:FnScope ["thing"] ["thing"] (defScope (top 34)):=⟨rfl,rfl,rfl,by decide +kernel,rfl,by decide +kernel,by decide +kernel⟩
theorem Zr (Df:DefIn K mg "is_block" (top 34) ["thing"])(B:Bl mg)(G:Gl0 K mg)(Cl:Cls K mg)(O_is_table:Own P w K mg base "is_table" 8 ["thing"] (spM K yr 1))(O_is_tuple_of__is_word:OwnF P w K mg base "is_tuple_of" 3 ["thing","least","most","is_part"] zm 3 "is_word")(O_is_tuple_of__is_pair:OwnF P w K mg base "is_tuple_of" 7 ["thing","least","most","is_part"] zS 3 "is_pair"):Own P w K mg base "is_block" 9 ["thing"] (spM K zq 1) :=
 Df.mir (k:=8) (Γ':=[.shr]) ZY (by decide) fun f cdv A outer s H E hr=>(zf (zX (MW.mt (wo (yB (xf (wy (T:="tuple") (by decide) rfl B.isinstance (xA (v:=.ty "tuple") rfl B.tuple Boot.«tuple» rfl) (mn 0 .shr)))) (wo (zJ Z4 z0y z0C (zH zN yL yN (by exact rfl) B.len PySem.boot_len (z4 (mn 0 .shr) z8)) (zd (z4 zb (z4 zb z8))) (by exact rfl)) (xM (yB (xf (wy (T:="str") (by decide) rfl B.isinstance (xA (v:=.ty "str") rfl B.str Boot.«str» rfl) (zY hr.u1 (mn 0 .shr) zb)))))))) (zl (zw (zc yz))) zC) (zf (zX (zJ (zM hr.u12) x9 xa (zH zN yL yN (by exact rfl) B.len PySem.boot_len (z4 (mn 0 .shr) z8)) zb (zE _)) (zl (zw (zc (vT (zM hr.u12) x9 xa (zY hr.u1 (mn 0 .shr) zb) zh (zE _))))) zC) (zf (zX (zJ (zM hr.u12) x9 xa (zY hr.u1 (mn 0 .shr) zb) zh (zE _)) (zl (zw (zc (xY (O_is_tuple_of__is_word.mono (by decide)) hr (by exact rfl) (by exact rfl) zi (zY hr.u1 (mn 0 .shr) zb) zb (xy G.MOST_HEAD_WORDS))))) zC) (zf (zX (zJ (zM hr.u12) x9 xa (zY hr.u1 (mn 0 .shr) zb) zh (zE _)) (zl (zw (zc (xY (O_is_tuple_of__is_pair.mono (by decide)) hr (by exact rfl) (by exact rfl) zi (zY hr.u1 (mn 0 .shr) zb) zb (xy G.MOST_PAIRS))))) zC) (zl (zw (zc (qv (vT (zM hr.u12) x9 xa (zY hr.u1 (mn 0 .shr) zb) zh (zE _)) (jE (zv (O_is_table.mono (by decide)) hr (by exact rfl) zi (z4 (zY hr.u1 (mn 0 .shr) zb) z8)))))))))))
def vn:Tn->R Fl:=(ze (sIf (zg (za (eqR true) (za ixD (z7 0) (eC (.int 0))) (eC (.str "text")))) (zo (eC (.int 0))) zk) (zo (eL ug (z3 (xF [none,none] (xb (za ixD (z7 0) (eC (.int 1)))) (.many [0,1]) (fun _=>.ok true) (eL yh (z3 (z7 1) z9))) z9))))
def zW:List D->R D:=zy 1 vn
theorem sc_many_notes:FnScope ["block"] ["block"] (defScope (top 35)):=⟨rfl,rfl,rfl,by decide +kernel,rfl,by decide +kernel,by decide +kernel⟩
theorem ke (Df:DefIn K mg "many_notes" (top 35) ["block"])(B:Bl mg)(G:Gl0 K mg)(Cl:Cls K mg) :Own P w K mg base "many_notes" 1 ["block"] (spM K zW 1) :=
 Df.mir (k:=0) (Γ':=[.shr]) sc_many_notes (by decide) fun f cdv A outer s H E hr=>(zf (zX (zJ (uy hr.u12) x9 xa (zY hr.u1 (mn 0 .shr) zb) zh (zE _)) (zl (zw (zc zb))) zC) (zl (zw (zc (zH (qr rfl) We Vl (by exact rfl) B.sum PyProof.Rows.boot_sum (z4 (u7 (N':=["word","notes"]) (fr:=[none,none]) rfl (wt sc_many_notes.nofree (by decide +kernel)) (w8 (zY hr.u1 (mn 0 .shr) zb)) (fun _ _ _ _=>(YX rfl (uN (pgn 0 (show List.Nodup (["word","notes"]:List Str) from by decide +kernel)) (uN (pgn 1 (show List.Nodup (["word","notes"]:List Str) from by decide +kernel)) Xb)))) (fun _ _ _ _=>xN) (fun _ _ _ _=>(zH zN yL yN (by exact rfl) B.len PySem.boot_len (z4 (mn 1 .shr) z8))) (by decide) (by decide)) z8))))))
def xJ:Tn->R Fl:=(ze (sIf (bOr (yk (zg (eUn (xx "list") (z7 0)))) (zg (za gtD (eL yh (z3 (z7 0) z9)) (eC (.int 40))))) (zo (eC (.bl false))) zk) (ze (sIf (yk (zg (eL wV (z3 (xF [none] (xb (z7 0)) (.one 0) (fun _=>.ok true) (eL zq (z3 (z7 0) z9))) z9)))) (zo (eC (.bl false))) zk) (zo (za leD (eL ug (z3 (xF [none] (xb (z7 0)) (.one 0) (fun _=>.ok true) (eL zW (z3 (z7 0) z9))) z9)) (eC (.int 60))))))
def zZ:List D->R D:=zy 1 xJ
theorem sc_are_blocks:FnScope ["thing"] ["thing"] (defScope (top 36)):=⟨rfl,rfl,rfl,by decide +kernel,rfl,by decide +kernel,by decide +kernel⟩
theorem jS (Df:DefIn K mg "are_blocks" (top 36) ["thing"])(B:Bl mg)(G:Gl0 K mg)(Cl:Cls K mg)(O_is_block:Own P w K mg base "is_block" 9 ["thing"] (spM K zq 1))(O_many_notes:Own P w K mg base "many_notes" 1 ["block"] (spM K zW 1)):Own P w K mg base "are_blocks" 10 ["thing"] (spM K zZ 1) :=
 Df.mir (k:=9) (Γ':=[.shr]) sc_are_blocks (by decide) fun f cdv A outer s H E hr=>(zf (zX (MW.mt (wo (yB (xf (wy (T:="list") (by decide) rfl B.isinstance (xA (v:=.ty "list") rfl B.list Boot.«list» rfl) (mn 0 .shr)))) (xM (zJ Y6 W9 zr (zH zN yL yN (by exact rfl) B.len PySem.boot_len (z4 (mn 0 .shr) z8)) (xy G.MOST_BLOCKS) (zE _))))) (zl (zw (zc yz))) zC) (zf (zX (yB (xf (zH (xG (by exact rfl)) qx qz (by exact rfl) B.all Boot.«all» (z4 (u7 (N':=["part"]) (fr:=[none]) rfl (wt sc_are_blocks.nofree (by decide +kernel)) (w8 (mn 0 .shr)) (fun _ _ _ _=>(yU (pgn 0 (show List.Nodup (["part"]:List Str) from by decide +kernel)))) (fun _ _ _ _=>xN) (fun _ _ _ _=>(zv (O_is_block.mono (by decide)) hr (by exact rfl) xH (z4 (mn 0 .shr) z8))) (by decide) (by decide)) z8)))) (zl (zw (zc yz))) zC) (zl (zw (zc (vT v3 qp zr (zH (qr rfl) We Vl (by exact rfl) B.sum PyProof.Rows.boot_sum (z4 (u7 (N':=["block"]) (fr:=[none]) rfl (wt sc_are_blocks.nofree (by decide +kernel)) (w8 (mn 0 .shr)) (fun _ _ _ _=>(yU (pgn 0 (show List.Nodup (["block"]:List Str) from by decide +kernel)))) (fun _ _ _ _=>xN) (fun _ _ _ _=>(zv (O_many_notes.mono (by decide)) hr (by exact rfl) xH (z4 (mn 0 .shr) z8))) (by decide) (by decide)) z8)) (xy G.MOST_NOTES) (zE _)))))))
def wN:Tn->R Fl:=(ze (sIf (yk (zg (eL zZ (z3 (z7 0) z9)))) (XS "BadBlocks" (z3 (eC (.str "blocks are a list of at most 40 blocks with at most 60 notes in all")) z9)) zk) (zo (eC (.bl true))))
def zL:List D->R D:=zy 1 wN
theorem ju:FnScope ["blocks"] ["blocks"] (defScope (top 37)):=⟨rfl,rfl,rfl,by decide +kernel,rfl,by decide +kernel,by decide +kernel⟩
theorem jo (Df:DefIn K mg "need_blocks" (top 37) ["blocks"])(B:Bl mg)(G:Gl0 K mg)(Cl:Cls K mg)(O_are_blocks:Own P w K mg base "are_blocks" 10 ["thing"] (spM K zZ 1)):Own P w K mg base "need_blocks" 11 ["blocks"] (spM K zL 1) :=
 Df.mir (k:=10) (Γ':=[.shr]) ju (by decide) fun f cdv A outer s H E hr=>(zf (zX (yB (xf (zv (O_are_blocks.mono (by decide)) hr (by exact rfl) zi (z4 (mn 0 .shr) z8)))) (zl (Xv Cl.e_BadBlocks rfl (z4 zh z8))) zC) (zl (zw (zc yz))))
def wW:Tn->R Fl:=(ze (zp 2 (eC (.int 0))) (ze (sIf (zg (za ltD (z7 1) (eL yh (z3 (z7 0) z9)))) (zp 2 (za ixD (z7 0) (z7 1))) zk) (zo (za zz (za xV (za zU (za zU (z7 2) (za xV (eC (.int 7919)) (z7 1))) (eC (.int 17))) (eC (.int 48271))) (eC (.int 2147483647))))))
def zB:List D->R D:=zy 3 wW
theorem sc__law_number:FnScope ["_law_script","_law_k","_law_base"] ["_law_script","_law_k"] (defScope (top 39)):=⟨rfl,rfl,rfl,by decide +kernel,rfl,by decide +kernel,by decide +kernel⟩
theorem jB (Df:DefIn K mg "_law_number" (top 39) ["_law_script","_law_k"])(B:Bl mg)(G:Gl0 K mg)(Cl:Cls K mg) :Own P w K mg base "_law_number" 1 ["_law_script","_law_k"] (spM K zB 2) :=
 Df.mir (k:=0) (Γ':=[.shr,.shr,.dead]) sc__law_number (by decide) fun f cdv A outer s H E hr=>(zf (L2.st 2 sc__law_number.nd (zc zb)) (zf (zX (zJ X7 Uw zr (mn 1 .shr) (zH zN yL yN (by exact rfl) B.len PySem.boot_len (z4 (mn 0 .shr) z8)) (zE _)) (zl (stS 2 sc__law_number.nd (zY hr.u1 (mn 0 .shr) (mn 1 .shr)))) (uR (Γ':=[.shr,.shr,.shr]) zC rfl)) (zl (zw (zc (zj zP yc zr (zj xR vS vK (zj zD yf yg (zj zD yf yg (mn 2 .shr) (zj xR vS vK zb (mn 1 .shr))) zb) zb) zb))))))
def qB:Tn->R Fl:=(zo (za zz (za zU (za xV (z7 0) (eC (.int 69621))) (eC (.int 11))) (eC (.int 2147483629))))
def y9:List D->R D:=zy 1 qB
theorem Z5:FnScope ["_law_number_here"] ["_law_number_here"] (defScope (top 40)):=⟨rfl,rfl,rfl,by decide +kernel,rfl,by decide +kernel,by decide +kernel⟩
theorem Zg (Df:DefIn K mg "_law_next" (top 40) ["_law_number_here"])(B:Bl mg)(G:Gl0 K mg)(Cl:Cls K mg) :Own P w K mg base "_law_next" 1 ["_law_number_here"] (spM K y9 1) :=
 Df.mir (k:=0) (Γ':=[.shr]) Z5 (by decide) fun f cdv A outer s H E hr=>(zl (zw (zc (zj zP yc zr (zj zD yf yg (zj xR vS vK (mn 0 .shr) zb) zb) zb))))
def ZG:Tn->R Fl:=(ze (zp 1 (eC (.str "abcdefghijklmnopqrstuvwxyzABCDEFGHIJKLMNOPQRSTUVWXYZ0123456789.,;:!?'\"()-/"))) (ze (zp 2 (za zU (eC (.int 1)) (za zz (z7 0) (eC (.int 5))))) (ze (sIf (zg (za (eqR false) (za zz (za zu (z7 0) (eC (.int 5))) (eC (.int 24))) (eC (.int 1)))) (zp 2 (za zU (eC (.int 1)) (za zz (za zu (z7 0) (eC (.int 120))) (eC (.int 40))))) zk) (ze (zp 3 (eC (.str ""))) (ze (xv (iL x8 (z3 (z7 2) z9)) (.one 4) (ze (zp 5 (za zU (za zU (za zu (z7 0) (eC (.int 31))) (za xV (za xV (z7 4) (z7 4)) (za zU (eC (.int 1)) (za zz (z7 0) (eC (.int 17)))))) (z7 4))) (zp 3 (za zU (z7 3) (za ixD (z7 1) (za zz (z7 5) (eC (.int 74)))))))) (zo (z7 3)))))))
def yw:List D->R D:=zy 6 ZG
theorem sc__law_word:FnScope ["_law_number_here","_law_signs","_law_size","_law_found","_law_j","_law_at"] ["_law_number_here"] (defScope (top 41)):=⟨rfl,rfl,rfl,by decide +kernel,rfl,by decide +kernel,by decide +kernel⟩
theorem kS (Df:DefIn K mg "_law_word" (top 41) ["_law_number_here"])(B:Bl mg)(G:Gl0 K mg)(Cl:Cls K mg) :Own P w K mg base "_law_word" 1 ["_law_number_here"] (spM K yw 1) :=
 Df.mir (k:=0) (Γ':=[.shr,.dead,.dead,.dead,.dead,.dead]) sc__law_word (by decide) fun f cdv A outer s H E hr=>(zf (L2.st 1 sc__law_word.nd (zc zh)) (zf (L2.st 2 sc__law_word.nd (zc (zj zD yf yg zb (zj zP yc zr (mn 0 .shr) zb)))) (zf (zX (zJ (zM hr.u12) x9 xa (zj zP yc zr (zj zO y0 zr (mn 0 .shr) zb) zb) zb (zE _)) (zl (L2.st 2 sc__law_word.nd (zc (zj zD yf yg zb (zj zP yc zr (zj zO y0 zr (mn 0 .shr) zb) zb))))) zC) (zf (L2.st 3 sc__law_word.nd (zc zh)) (zf (vL (Γ2:=[.shr,.own,.own,.own,.shr,.own]) PassesOwn.leaving rfl (xW rfl B.range (z4 (mn 2 .own) z8)) (by decide) (yU (pgn 4 sc__law_word.nd)) (by decide) (zf (L2.st 5 sc__law_word.nd (zc (zj zD yf yg (zj zD yf yg (zj zO y0 zr (mn 0 .shr) zb) (zj xR vS vK (zj xR vS vK (mn 4 .shr) (mn 4 .shr)) (zj zD yf yg zb (zj zP yc zr (mn 0 .shr) zb)))) (mn 4 .shr)))) (zl (L2.st 3 sc__law_word.nd (zc (zj zD yf yg (mn 3 .own) (zY hr.u1 (mn 1 .own) (zj zP yc zr (mn 5 .own) zb))))))) rfl) (zl (zw (mvn 3))))))))
def kP:Tn->R Fl:=(ze (zp 3 (za zU (z7 1) (za zz (z7 0) (eC (.int 3))))) (ze (sIf (zg (za (eqR false) (za zz (za zu (z7 0) (eC (.int 3))) (eC (.int 20))) (eC (.int 1)))) (zp 3 (z7 2)) zk) (ze (zp 4 (eL (fun ds=>.ok (.lst ds)) z9)) (ze (xv (iL x8 (z3 (eL uK (z3 (z7 2) (z3 (z7 3) z9))) z9)) (.one 5) (ze (zp 0 (eL y9 (z3 (z7 0) z9))) (vN 4 (eL yw (z3 (za zu (z7 0) (eC (.int 3))) z9))))) (zo (eL yn (z3 (z7 4) z9)))))))
def zI:List D->R D:=zy 6 kP
theorem sc__law_words:FnScope ["_law_number_here","_law_least","_law_most","_law_many","_law_words_here","_law_j"] ["_law_number_here","_law_least","_law_most"] (defScope (top 42)):=⟨rfl,rfl,rfl,by decide +kernel,rfl,by decide +kernel,by decide +kernel⟩
theorem kf (Df:DefIn K mg "_law_words" (top 42) ["_law_number_here","_law_least","_law_most"])(B:Bl mg)(G:Gl0 K mg)(Cl:Cls K mg)(O__law_next:Own P w K mg base "_law_next" 1 ["_law_number_here"] (spM K y9 1))(O__law_word:Own P w K mg base "_law_word" 1 ["_law_number_here"] (spM K yw 1)):Own P w K mg base "_law_words" 2 ["_law_number_here","_law_least","_law_most"] (spM K zI 3) :=
 Df.mir (k:=1) (Γ':=[.shr,.shr,.shr,.dead,.dead,.dead]) sc__law_words (by decide) fun f cdv A outer s H E hr=>(zf (L2.st 3 sc__law_words.nd (zc (zj zD yf yg (mn 1 .shr) (zj zP yc zr (mn 0 .shr) zb)))) (zf (zX (zJ (zM hr.u12) x9 xa (zj zP yc zr (zj zO y0 zr (mn 0 .shr) zb) zb) zb (zE _)) (zl (stS 3 sc__law_words.nd (mn 2 .shr))) (uR (Γ':=[.shr,.shr,.shr,.shr,.dead,.dead]) zC rfl)) (zf (L2.st 4 sc__law_words.nd (zc (ye z8))) (zf (vL (Γ2:=[.own,.shr,.shr,.shr,.own,.shr]) PassesOwn.leaving rfl (xW rfl B.range (z4 (zH (W2 (by exact rfl)) QB JD (by exact rfl) B.min PyProof.Rows.boot_min (z4 (mn 2 .shr) (z4 (mn 3 .shr) z8))) z8)) (by decide) (yU (pgn 5 sc__law_words.nd)) (by decide) (zf (L2.st 0 sc__law_words.nd (zc (zv (O__law_next.mono (by decide)) hr (by exact rfl) zi (z4 (mn 0 .shr) z8)))) (zl (app 4 (zc (zv (O__law_word.mono (by decide)) hr (by exact rfl) zi (z4 (zj zO y0 zr (mn 0 .own) zb) z8)))))) rfl) (zl (zw (zc (yA yS vm v5 (by exact rfl) B.tuple Boot.«tuple» (z4 (mn 4 .own) z8)))))))))
def Zd:Tn->R Fl:=(ze (zp 2 (za zU (eC (.int 1)) (za zz (z7 0) (eC (.int 6))))) (ze (sIf (zg (za (eqR false) (za zz (za zu (z7 0) (eC (.int 6))) (eC (.int 60))) (eC (.int 1)))) (zp 2 (eC (.int 200))) zk) (ze (zp 3 (eL (fun ds=>.ok (.lst ds)) z9)) (ze (xv (iL x8 (z3 (z7 2) z9)) (.one 4) (ze (zp 0 (eL y9 (z3 (z7 0) z9))) (ze (zp 5 (eL (fun ds=>.ok (.lst ds)) z9)) (ze (xv (iL x8 (z3 (za ixD (eL (fun ds=>.ok (.lst ds)) (z3 (eC (.int 0)) (z3 (eC (.int 0)) (z3 (eC (.int 0)) (z3 (eC (.int 1)) (z3 (eC (.int 1)) (z3 (eC (.int 2)) (z3 (eC (.int 3)) z9)))))))) (za zz (za zu (z7 0) (eC (.int 7))) (eC (.int 7)))) z9)) (.one 6) (sIf (vP (zg (za gtD (z7 1) (eC (.int 0)))) (zg (za ltD (z7 2) (eC (.int 200))))) (ze (zp 1 (za jH (z7 1) (eC (.int 1)))) (vN 5 (eL zI (z3 (za zu (z7 0) (za zU (eC (.int 49)) (z7 6))) (z3 (eC (.int 1)) (z3 (eC (.int 30)) z9)))))) zk)) (vN 3 (eL (fun ds=>.ok (.tup ds)) (z3 (eL yw (z3 (za zz (za zu (z7 0) (eC (.int 5))) (za jH (eC (.int 1000003)) (za xV (eC (.int 999000)) (za zu (z7 2) (eC (.int 200)))))) z9)) (z3 (eL yn (z3 (z7 5) z9)) z9)))))))) (zo (eL yn (z3 (z7 3) z9)))))))
def xq:List D->R D:=zy 7 Zd
theorem sc__law_pairs:FnScope ["_law_number_here","_law_room","_law_many","_law_pairs_here","_law_j","_law_notes","_law_k"] ["_law_number_here","_law_room"] (defScope (top 43)):=⟨rfl,rfl,rfl,by decide +kernel,rfl,by decide +kernel,by decide +kernel⟩
theorem jX (Df:DefIn K mg "_law_pairs" (top 43) ["_law_number_here","_law_room"])(B:Bl mg)(G:Gl0 K mg)(Cl:Cls K mg)(O__law_next:Own P w K mg base "_law_next" 1 ["_law_number_here"] (spM K y9 1))(O__law_word:Own P w K mg base "_law_word" 1 ["_law_number_here"] (spM K yw 1))(O__law_words:Own P w K mg base "_law_words" 2 ["_law_number_here","_law_least","_law_most"] (spM K zI 3)):Own P w K mg base "_law_pairs" 3 ["_law_number_here","_law_room"] (spM K xq 2) :=
 Df.mir (k:=2) (Γ':=[.shr,.shr,.dead,.dead,.dead,.dead,.dead]) sc__law_pairs (by decide) fun f cdv A outer s H E hr=>(zf (L2.st 2 sc__law_pairs.nd (zc (zj zD yf yg zb (zj zP yc zr (mn 0 .shr) zb)))) (zf (zX (zJ (zM hr.u12) x9 xa (zj zP yc zr (zj zO y0 zr (mn 0 .shr) zb) zb) zb (zE _)) (zl (L2.st 2 sc__law_pairs.nd (zc zb))) zC) (zf (L2.st 3 sc__law_pairs.nd (zc (ye z8))) (zf (vL (Γ2:=[.own,.shr,.own,.own,.shr,.own,.dead]) PassesOwn.leaving rfl (xW rfl B.range (z4 (mn 2 .own) z8)) (by decide) (yU (pgn 4 sc__law_pairs.nd)) (by decide) (zf (L2.st 0 sc__law_pairs.nd (zc (zv (O__law_next.mono (by decide)) hr (by exact rfl) zi (z4 (mn 0 .shr) z8)))) (zf (L2.st 5 sc__law_pairs.nd (zc (ye z8))) (zf (vL (Γ2:=[.own,.shr,.own,.own,.shr,.own,.shr]) PassesOwn.leaving rfl (xW rfl B.range (z4 (zY hr.u1 (ye (z4 zb (z4 zb (z4 zb (z4 zb (z4 zb (z4 zb (z4 zb z8)))))))) (zj zP yc zr (zj zO y0 zr (mn 0 .own) zb) zb)) z8)) (by decide) (yU (pgn 6 sc__law_pairs.nd)) (by decide) (zl (zX (MW.mt (Ys (zJ Y6 W9 zr (mn 1 .shr) zb (zE _)) (Z3 (zJ X7 Uw zr (mn 2 .own) zb (zE _))))) (uR (Γ':=[.own,.shr,.own,.own,.shr,.own,.shr]) (zf (L2.st 1 sc__law_pairs.nd (zc (zj jO ZL zr (mn 1 .shr) zb))) (zl (app 5 (zc (zv (O__law_words.mono (by decide)) hr (by exact rfl) zi (z4 (zj zO y0 zr (mn 0 .own) (zj zD yf yg zb (mn 6 .shr))) (z4 zb (z4 zb z8)))))))) rfl) zC)) rfl) (zl (app 3 (zc (zd (z4 (zv (O__law_word.mono (by decide)) hr (by exact rfl) zi (z4 (zj zP yc zr (zj zO y0 zr (mn 0 .own) zb) (zj jO ZL zr zb (zj xR vS vK zb (zj zO y0 zr (mn 2 .own) zb)))) z8)) (z4 (yA yS vm v5 (by exact rfl) B.tuple Boot.«tuple» (z4 (mn 5 .own) z8)) z8))))))))) rfl) (zl (zw (zc (yA yS vm v5 (by exact rfl) B.tuple Boot.«tuple» (z4 (mn 3 .own) z8)))))))))
def Zi:Tn->R Fl:=(ze (zp 1 (za zU (eC (.int 1)) (za zz (z7 0) (eC (.int 4))))) (ze (zp 2 (za zU (eC (.int 1)) (za zz (za zu (z7 0) (eC (.int 4))) (eC (.int 3))))) (ze (sIf (zg (za (eqR false) (za zz (za zu (z7 0) (eC (.int 12))) (eC (.int 16))) (eC (.int 1)))) (zp 2 (eC (.int 20))) zk) (ze (zp 3 (eL (fun ds=>.ok (.lst ds)) z9)) (ze (xv (iL x8 (z3 (z7 2) z9)) (.one 4) (ze (zp 5 (eL (fun ds=>.ok (.lst ds)) z9)) (ze (xv (iL x8 (z3 (z7 1) z9)) (.one 6) (ze (zp 0 (eL y9 (z3 (z7 0) z9))) (vN 5 (eL zI (z3 (za zu (z7 0) (eC (.int 3))) (z3 (eC (.int 0)) (z3 (eC (.int 12)) z9))))))) (vN 3 (eL yn (z3 (z7 5) z9)))))) (zo (eL yn (z3 (z7 3) z9))))))))
def xp:List D->R D:=zy 7 Zi
theorem sc__law_table:FnScope ["_law_number_here","_law_many","_law_rows","_law_found","_law_j","_law_row","_law_k"] ["_law_number_here"] (defScope (top 44)):=⟨rfl,rfl,rfl,by decide +kernel,rfl,by decide +kernel,by decide +kernel⟩
theorem jU (Df:DefIn K mg "_law_table" (top 44) ["_law_number_here"])(B:Bl mg)(G:Gl0 K mg)(Cl:Cls K mg)(O__law_next:Own P w K mg base "_law_next" 1 ["_law_number_here"] (spM K y9 1))(O__law_words:Own P w K mg base "_law_words" 2 ["_law_number_here","_law_least","_law_most"] (spM K zI 3)):Own P w K mg base "_law_table" 3 ["_law_number_here"] (spM K xp 1) :=
 Df.mir (k:=2) (Γ':=[.shr,.dead,.dead,.dead,.dead,.dead,.dead]) sc__law_table (by decide) fun f cdv A outer s H E hr=>(zf (L2.st 1 sc__law_table.nd (zc (zj zD yf yg zb (zj zP yc zr (mn 0 .shr) zb)))) (zf (L2.st 2 sc__law_table.nd (zc (zj zD yf yg zb (zj zP yc zr (zj zO y0 zr (mn 0 .shr) zb) zb)))) (zf (zX (zJ (zM hr.u12) x9 xa (zj zP yc zr (zj zO y0 zr (mn 0 .shr) zb) zb) zb (zE _)) (zl (L2.st 2 sc__law_table.nd (zc zb))) zC) (zf (L2.st 3 sc__law_table.nd (zc (ye z8))) (zf (vL (Γ2:=[.shr,.own,.own,.own,.shr,.own,.dead]) PassesOwn.leaving rfl (xW rfl B.range (z4 (mn 2 .own) z8)) (by decide) (yU (pgn 4 sc__law_table.nd)) (by decide) (zf (L2.st 5 sc__law_table.nd (zc (ye z8))) (zf (vL (Γ2:=[.own,.own,.own,.own,.shr,.own,.shr]) PassesOwn.leaving rfl (xW rfl B.range (z4 (mn 1 .own) z8)) (by decide) (yU (pgn 6 sc__law_table.nd)) (by decide) (zf (L2.st 0 sc__law_table.nd (zc (zv (O__law_next.mono (by decide)) hr (by exact rfl) zi (z4 (mn 0 .shr) z8)))) (zl (app 5 (zc (zv (O__law_words.mono (by decide)) hr (by exact rfl) zi (z4 (zj zO y0 zr (mn 0 .own) zb) (z4 zb (z4 zb z8)))))))) rfl) (zl (app 3 (zc (yA yS vm v5 (by exact rfl) B.tuple Boot.«tuple» (z4 (mn 5 .own) z8))))))) rfl) (zl (zw (zc (yA yS vm v5 (by exact rfl) B.tuple Boot.«tuple» (z4 (mn 3 .own) z8))))))))))
def uJ:Tn->R Fl:=(ze (sIf (zg (za (eqR false) (za zz (z7 0) (eC (.int 8))) (eC (.int 0)))) (zo (eL (fun ds=>.ok (.tup ds)) (z3 (eC (.str "leaf")) z9))) zk) (ze (sIf (zg (za ltD (za zz (z7 0) (eC (.int 8))) (eC (.int 3)))) (zo (eL (fun ds=>.ok (.tup ds)) (z3 (eC (.str "head")) (z3 (eL zI (z3 (za zu (z7 0) (eC (.int 8))) (z3 (eC (.int 1)) (z3 (eC (.int 12)) z9)))) z9)))) zk) (ze (sIf (zg (za ltD (za zz (z7 0) (eC (.int 8))) (eC (.int 5)))) (zo (eL (fun ds=>.ok (.tup ds)) (z3 (eC (.str "table")) (z3 (eL xp (z3 (za zu (z7 0) (eC (.int 8))) z9)) z9)))) zk) (zo (eL (fun ds=>.ok (.tup ds)) (z3 (eC (.str "text")) (z3 (eL xq (z3 (za zu (z7 0) (eC (.int 8))) (z3 (z7 1) z9))) z9)))))))
def yO:List D->R D:=zy 2 uJ
theorem kb:FnScope ["_law_number_here","_law_room"] ["_law_number_here","_law_room"] (defScope (top 45)):=⟨rfl,rfl,rfl,by decide +kernel,rfl,by decide +kernel,by decide +kernel⟩
theorem kc (Df:DefIn K mg "_law_block" (top 45) ["_law_number_here","_law_room"])(B:Bl mg)(G:Gl0 K mg)(Cl:Cls K mg)(O__law_pairs:Own P w K mg base "_law_pairs" 3 ["_law_number_here","_law_room"] (spM K xq 2))(O__law_words:Own P w K mg base "_law_words" 2 ["_law_number_here","_law_least","_law_most"] (spM K zI 3))(O__law_table:Own P w K mg base "_law_table" 3 ["_law_number_here"] (spM K xp 1)):Own P w K mg base "_law_block" 4 ["_law_number_here","_law_room"] (spM K yO 2) :=
 Df.mir (k:=3) (Γ':=[.shr,.shr]) kb (by decide) fun f cdv A outer s H E hr=>(zf (zX (zJ (zM hr.u12) x9 xa (zj zP yc zr (mn 0 .shr) zb) zb (zE _)) (zl (zw (zc (zd (z4 zh z8))))) zC) (zf (zX (zJ X7 Uw zr (zj zP yc zr (mn 0 .shr) zb) zb (zE _)) (zl (zw (zc (zd (z4 zh (z4 (zv (O__law_words.mono (by decide)) hr (by exact rfl) zi (z4 (zj zO y0 zr (mn 0 .shr) zb) (z4 zb (z4 zb z8)))) z8)))))) zC) (zf (zX (zJ X7 Uw zr (zj zP yc zr (mn 0 .shr) zb) zb (zE _)) (zl (zw (zc (zd (z4 zh (z4 (zv (O__law_table.mono (by decide)) hr (by exact rfl) zi (z4 (zj zO y0 zr (mn 0 .shr) zb) z8)) z8)))))) zC) (zl (zw (zc (zd (z4 zh (z4 (zv (O__law_pairs.mono (by decide)) hr (by exact rfl) zi (z4 (zj zO y0 zr (mn 0 .shr) zb) (z4 (mn 1 .shr) z8))) z8)))))))))
def jW:Tn->R Fl:=(ze (zp 2 (eL zB (z3 (z7 0) (z3 (z7 1) z9)))) (ze (zp 3 (za zz (z7 2) (eC (.int 5)))) (ze (sIf (zg (za (eqR false) (za zz (za zu (z7 2) (eC (.int 5))) (eC (.int 40))) (eC (.int 1)))) (zp 3 (eC (.int 40))) zk) (ze (zp 4 (eL (fun ds=>.ok (.lst ds)) z9)) (ze (zp 5 (eC (.int 60))) (ze (xv (iL x8 (z3 (z7 3) z9)) (.one 6) (ze (zp 2 (za zU (eL zB (z3 (z7 0) (z3 (za zU (za zU (z7 1) (eC (.int 1))) (za zz (z7 6) (eC (.int 6)))) z9))) (za xV (eC (.int 101)) (za zu (z7 6) (eC (.int 6)))))) (ze (sIf (vP (zg (za (eqR false) (z7 3) (eC (.int 40)))) (zg (za gtD (za zz (z7 2) (eC (.int 8))) (eC (.int 4))))) (zp 2 (za jH (z7 2) (eC (.int 5)))) zk) (ze (vN 4 (eL yO (z3 (z7 2) (z3 (z7 5) z9)))) (sIf (zg (za (eqR false) (za ixD (za ixD (z7 4) (eUn XQ (eC (.int 1)))) (eC (.int 0))) (eC (.str "text")))) (zp 5 (za jH (z7 5) (eL ug (z3 (xF [none] (xb (za ixD (za ixD (z7 4) (eUn XQ (eC (.int 1)))) (eC (.int 1)))) (.one 0) (fun _=>.ok true) (eL yh (z3 (za ixD (z7 0) (eC (.int 1))) z9))) z9)))) zk))))) (zo (z7 4))))))))
def yJ:List D->R D:=zy 7 jW
theorem sc__law_blocks:FnScope ["_law_script","_law_first","_law_number_here","_law_many","_law_blocks_here","_law_room","_law_j"] ["_law_script","_law_first"] (defScope (top 46)):=⟨rfl,rfl,rfl,by decide +kernel,rfl,by decide +kernel,by decide +kernel⟩
theorem jM (Df:DefIn K mg "_law_blocks" (top 46) ["_law_script","_law_first"])(B:Bl mg)(G:Gl0 K mg)(Cl:Cls K mg)(O__law_number:Own P w K mg base "_law_number" 1 ["_law_script","_law_k"] (spM K zB 2))(O__law_block:Own P w K mg base "_law_block" 4 ["_law_number_here","_law_room"] (spM K yO 2)):Own P w K mg base "_law_blocks" 5 ["_law_script","_law_first"] (spM K yJ 2) :=
 Df.mir (k:=4) (Γ':=[.shr,.shr,.dead,.dead,.dead,.dead,.dead]) sc__law_blocks (by decide) fun f cdv A outer s H E hr=>(zf (L2.st 2 sc__law_blocks.nd (zc (zv (O__law_number.mono (by decide)) hr (by exact rfl) zi (z4 (mn 0 .shr) (z4 (mn 1 .shr) z8))))) (zf (L2.st 3 sc__law_blocks.nd (zc (zj zP yc zr (mn 2 .own) zb))) (zf (zX (zJ (zM hr.u12) x9 xa (zj zP yc zr (zj zO y0 zr (mn 2 .own) zb) zb) zb (zE _)) (zl (L2.st 3 sc__law_blocks.nd (zc zb))) zC) (zf (L2.st 4 sc__law_blocks.nd (zc (ye z8))) (zf (L2.st 5 sc__law_blocks.nd (zc zb)) (zf (vL (Γ2:=[.shr,.shr,.own,.own,.own,.own,.shr]) PassesOwn.leaving rfl (xW rfl B.range (z4 (mn 3 .own) z8)) (by decide) (yU (pgn 6 sc__law_blocks.nd)) (by decide) (zf (L2.st 2 sc__law_blocks.nd (zc (zj zD yf yg (zv (O__law_number.mono (by decide)) hr (by exact rfl) zi (z4 (mn 0 .shr) (z4 (zj zD yf yg (zj zD yf yg (mn 1 .shr) zb) (zj zP yc zr (mn 6 .shr) zb)) z8))) (zj xR vS vK zb (zj zO y0 zr (mn 6 .shr) zb))))) (zf (zX (MW.mt (Ys (zJ (zM hr.u12) x9 xa (mn 3 .own) zb (zE _)) (Z3 (zJ Y6 W9 zr (zj zP yc zr (mn 2 .own) zb) zb (zE _))))) (zl (L2.st 2 sc__law_blocks.nd (zc (zj jO ZL zr (mn 2 .own) zb)))) zC) (zf (app 4 (zc (zv (O__law_block.mono (by decide)) hr (by exact rfl) zi (z4 (mn 2 .own) (z4 (mn 5 .own) z8))))) (zl (zX (zJ (zM hr.u12) x9 xa (zY hr.u1 (zY hr.u1 (mn 4 .own) (Vs zb)) zb) zh (zE _)) (zl (L2.st 5 sc__law_blocks.nd (zc (zj jO ZL zr (mn 5 .own) (zH (qr rfl) We Vl (by exact rfl) B.sum PyProof.Rows.boot_sum (z4 (u7 (N':=["_law_pair"]) (fr:=[none]) rfl (wt sc__law_blocks.nofree (by decide +kernel)) (w8 (zY hr.u1 (zY hr.u1 (mn 4 .own) (Vs zb)) zb)) (fun _ _ _ _=>(yU (pgn 0 (show List.Nodup (["_law_pair"]:List Str) from by decide +kernel)))) (fun _ _ _ _=>xN) (fun _ _ _ _=>(zH zN yL yN (by exact rfl) B.len PySem.boot_len (z4 (zY hr.u1 (mn 0 .brw) zb) z8))) (by decide) (by decide)) z8)))))) zC))))) rfl) (zl (zw (mvn 4)))))))))
theorem W4:(["_law_blocks_here","_law_error"]:List Str).Nodup:=by decide +kernel
theorem uu:FnScope ["_law_error"] ["_law_error"] (defScope (top 47)):=⟨rfl,rfl,rfl,by decide +kernel,rfl,by decide +kernel,by decide +kernel⟩
def xh:Str->Option D:=fun m=>if m="BadBlocks" then some (.bl true) else none
def qo:List Stmt:=match defBody (top 48) with
 | .Try _ [.ExceptHandler _ _ b _] _ _ _::_=>b
 | _=>[]
abbrev cxR (P:Program)(w:World)(K:PySem.W.Frag)(mg:Str->Option Value)(base:Heap)(f:Addr)(cdv:Value)(A:Around)(outer:List Env)(s:Shared)(H:Hp)(E:XK):Cx:=xl (cxx P w) P w K mg base ["_law_blocks_here","_law_error"] "_law_refused" (defScope (top 48)) f cdv A outer s H E
theorem vY (Cl:Cls K mg)(B:Bl mg){e:Addr}{oe:Obj}{C:Addr}(hC:ErrC K "BadBlocks" C)(hcls:oe.cls=.ref C)(f:Addr)(cdv:Value)(A:Around)(outer:List Env)(s:Shared)(H:Hp)(Q:VK)(h:∀ H',Same H H'->Q (.bl false) H') :
  ∃ t,PSs ((xl (cxx P w) P w K mg base ["_law_error"] "_law_is_another" (defScope (top 47)) f cdv A outer s H (fun _ _ _=>False)).errd e oe) (defBody (top 47)) t/\t { nx:=fun _ H'=>Q .non H',rt:=Q } (start ["_law_error"] [.ref e]) H:=by
 obtain ⟨CS,CT,c1,c2,c3,c4,c5,c6,c7,c8,c9,hS,eT,iT,mT,kV,xS,⟨m1,k1⟩,⟨m2,k2⟩,⟨m3,k3⟩,⟨m4,k4⟩,⟨m5,k5⟩,⟨m6,k6⟩,⟨m7,k7⟩,⟨m8,k8⟩,⟨m9,k9⟩⟩:=Cl.ex
 have hCT:C=CT:=by
  have h1:PySem.W.nsIn K mainGlobals "BadBlocks"=some (some (.ref C)):=hC.ns
  rw [eT.ns] at h1
  cases h1
  rfl
 subst hCT
 refine ⟨_,jD (V9 (Wv (vh (x:="isinstance") kr rfl B.isinstance Boot.«isinstance» (yi (pv 0) (yi (Yi (yi (xu (v:=.ref c1) rfl m1 rfl) (yi (xu (v:=.ref c2) rfl m2 rfl) (yi (xu (v:=.ref c3) rfl m3 rfl) (yi (xu (v:=.ref c4) rfl m4 rfl) (yi (xu (v:=.ref c5) rfl m5 rfl) wA)))))) wA)))) (uI (jl Q7)) Zl)
  (uI (jl (vh (x:="isinstance") kr rfl B.isinstance Boot.«isinstance» (yi (pv 0) (yi (Yi (yi (xu (v:=.ref c6) rfl m6 rfl) (yi (xu (v:=.ref c7) rfl m7 rfl) (yi (xu (v:=.ref c8) rfl m8 rfl) (yi (xu (v:=.ref c9) rfl m9 rfl) wA))))) wA))))),?_⟩
 have q1:PySem.W.kitAny K (.ref C) [.ref c1,.ref c2,.ref c3,.ref c4,.ref c5]=some false:=by simp only [PySem.W.kitAny,k1,k2,k3,k4,k5]
 have q2:PySem.W.kitAny K (.ref C) [.ref c6,.ref c7,.ref c8,.ref c9]=some false:=by simp only [PySem.W.kitAny,k6,k7,k8,k9]
 have mem:(e,oe)∈((xl (cxx P w) P w K mg base ["_law_error"] "_law_is_another" (defScope (top 47)) f cdv A outer s H (fun _ _ _=>False)).errd e oe).pn:=sL.mpr rfl
 refine ⟨_,rfl,by show 5<=sizeLine; decide,fun p hp=>⟨e,oe,C,p,_,_,false,rfl,mem,hcls,iT,SqT.of yb,.cons (.ref _) (.cons (.ref _) (.cons (.ref _) (.cons (.ref _) (.cons (.ref _) .nil)))),q1,?_⟩⟩
 refine ⟨_,rfl,z0B ⟨_,rfl,by show 4<=sizeLine; decide,fun p2 hp2=>⟨e,oe,C,p2,_,_,false,rfl,mem,hcls,iT,SqT.of yb,.cons (.ref _) (.cons (.ref _) (.cons (.ref _) (.cons (.ref _) .nil))),q2,?_⟩⟩⟩
 exact h _ ((Same.new hp).trans (Same.new hp2))
theorem QY {X:Cx}{CS:Addr}{i:Nat}{sts:List Stmt}{g:Str->Option D}(hx:∀ (m:Str) (d:D),g m=some d->∀ C,ErrC X.K m C->PySem.W.exmOne X.K (.ref C) (.ref CS)=some true)
  (h:∀ (m:Str) (d:D),g m=some d->∀ C,ErrC X.K m C->∀ e oe (Z:Ends) (σ:L2.St) (H:Hp),σ.length=X.N.length->oe.cls=.ref C->H e=none->σ[i]?=some (some (.ref e))->(∀ v H',Same H H'->Rep X.K H' d v []->Z.rt v H')->∃ T,PSs (X.within e oe) sts T/\T Z σ H):Suite X CS i sts g:=by
 intro m d hg C hC
 refine ⟨hx m d hg C hC,fun e oe Z σ H=>∃ T,PSs (X.within e oe) sts T/\T Z σ H,fun e oe pins s σ H Z I z=>?_,fun e oe Z σ H h1 h2 h3 h4 h5=>h m d hg C hC e oe Z σ H h1 h2 h3 h4 h5⟩
 obtain ⟨T,hT,z⟩:=z
 exact hT pins s σ H Z I z
theorem uv (Cl:Cls K mg)(B:Bl mg)(Dc:DefIn K mg "_law_is_another" (top 47) ["_law_error"])(f:Addr)(cdv:Value)(A:Around)(outer:List Env)(s:Shared)(H:Hp)(E:XK)(hr:Room 11 (A.deeper (envOfC "_law_refused" (defScope (top 48)) s.heap.objs.size f cdv))) :
  ∃ CS,(cxR P w K mg base f cdv A outer s H E).mg "SetError"=some (.ref CS)/\Suite (cxR P w K mg base f cdv A outer s H E) CS 1 qo xh:=by
 obtain ⟨CS,CT,c1,c2,c3,c4,c5,c6,c7,c8,c9,hS,eT,iT,mT,kV,xS,z⟩:=Cl.ex
 clear z
 refine ⟨CS,hS,?_⟩
 have hm:∀ (m:Str) (d:D),xh m=some d->m="BadBlocks"/\d=.bl true:=by
  intro m d hg
  unfold xh at hg
  split at hg
  ·exact ⟨by assumption,(Option.some.inj hg).symm⟩
  ·cases hg
 have hCT:∀ C,ErrC K "BadBlocks" C->C=CT:=by
  intro C hC
  have h1:PySem.W.nsIn K mainGlobals "BadBlocks"=some (some (.ref C)):=hC.ns
  rw [eT.ns] at h1
  cases h1
  rfl
 refine QY (fun m d hg C hC=>?_) fun m d hg C hC e oe Z σ H1 hl hcls hn h1 hz=>?_
 ·obtain ⟨rfl,rfl⟩:=hm m d hg
  rw [hCT C hC]
  exact xS
 obtain ⟨rfl,rfl⟩:=hm m d hg
 have hCC:=hCT C hC
 subst hCC
 have q3:PySem.W.kitOne K (.ref C) (.ref C)=some true:=by unfold PySem.W.kitOne; rw [if_pos (by simp)]
 have mem:(e,oe)∈((cxR P w K mg base f cdv A outer s H E).within e oe).pn:=tQ _ (sL.mpr rfl)
 have hloc:∀ b∈frs ((cxR P w K mg base f cdv A outer s H E).within e oe).stack,b=((cxR P w K mg base f cdv A outer s H E).within e oe).env.locals\/b∈((cxR P w K mg base f cdv A outer s H E).within e oe).fs:=by
  intro b hb
  have hb:b∈frs ((cxR P w K mg base f cdv A outer s H E).env::outer):=hb
  unfold frs at hb
  rw [sZ] at hb
  rcases sG.mp hb with q | q
  ·exact .inl q
  ·exact .inr q
 refine ⟨_,uI (jl (Yz (WK rfl B.isinstance (pv 1) (xu (v:=.ref C) rfl mT rfl)) (Yz (WK rfl B.isinstance (pv 1) (xA (v:=.ty "ValueError") rfl Cl.ve Boot.«ValueError» rfl)) (WU (QX (Yu (X:=(cxR P w K mg base f cdv A outer s H E).within e oe) (b:=false) Dc uu rfl hr.depth mem hloc (fun f2 cd2 A2 o2 s2 H2 Q2 h2=>vY Cl B hC hcls f2 cd2 A2 o2 s2 H2 Q2 h2) (pv 1))))))),?_⟩
 refine ⟨_,h1,_,_,_,_,_,rfl,.exc mem hcls iT,.ref _,q3,true,rfl,z0d ⟨_,h1,_,_,_,_,_,rfl,.exc mem hcls iT,.ty _,kV,true,rfl,z0d ⟨_,h1,rfl,fun H2 hs2=>⟨false,rfl,?_⟩⟩⟩⟩
 exact hz _ _ hs2 ⟨rfl,rfl⟩
def j9:Tn->R Fl:=(ze (j3 zL (z3 (z7 0) z9) xh) (zo (eC (.bl false))))
def zA:List D->R D:=zy 2 j9
theorem sc__law_refused:FnScope ["_law_blocks_here","_law_error"] ["_law_blocks_here"] (defScope (top 48)):=⟨rfl,rfl,rfl,by decide +kernel,rfl,by decide +kernel,by decide +kernel⟩
theorem qO (Df:DefIn K mg "_law_refused" (top 48) ["_law_blocks_here"])(B:Bl mg)(G:Gl0 K mg)(Cl:Cls K mg)(O_need_blocks:Own P w K mg base "need_blocks" 11 ["blocks"] (spM K zL 1))(Dc__law_is_another:DefIn K mg "_law_is_another" (top 47) ["_law_error"]):Own P w K mg base "_law_refused" 12 ["_law_blocks_here"] (spM K zA 1) :=
 Df.mir (k:=11) (Γ':=[.shr,.dead]) sc__law_refused (by decide) fun f cdv A outer s H E hr=>(zf (Wj (O_need_blocks.mono (by decide)) sc__law_refused.nd hr rfl (z4 (mn 0 .shr) z8) rfl rfl rfl (show 1<2 by decide) rfl (uv Cl B Dc__law_is_another f cdv A outer s H E hr)) (zl (zw (zc yz))))
def uw:Tn->R Fl:=(ze (zp 1 (eL (fun ds=>.ok (.tup ds)) (z3 (eL (fun ds=>.ok (.tup ds)) (z3 (eC (.str "a")) (z3 (eL (fun ds=>.ok (.tup ds)) z9) z9))) z9))) (ze (zp 2 (eL (fun ds=>.ok (.lst ds)) (z3 (eL (fun ds=>.ok (.tup ds)) (z3 (eC (.str "head")) (z3 (eL (fun ds=>.ok (.tup ds)) z9) z9))) (z3 (eL (fun ds=>.ok (.tup ds)) (z3 (eC (.str "head")) (z3 (eL vH (z3 (eC (.str "a")) z9)) z9))) (z3 (eL (fun ds=>.ok (.tup ds)) (z3 (eC (.str "head")) (z3 (eL (fun ds=>.ok (.tup ds)) (z3 (eC (.str "a b")) z9)) z9))) (z3 (eL (fun ds=>.ok (.tup ds)) (z3 (eC (.str "head")) (z3 (eL (fun ds=>.ok (.tup ds)) (z3 (eC (.str "")) z9)) z9))) (z3 (eL (fun ds=>.ok (.tup ds)) (z3 (eC (.str "head")) z9)) (z3 (eL (fun ds=>.ok (.tup ds)) (z3 (eC (.str "head")) (z3 (eL (fun ds=>.ok (.tup ds)) (z3 (eC (.str "a")) z9)) (z3 (eC (.int 0)) z9)))) (z3 (eL vH (z3 (eC (.str "leaf")) z9)) z9))))))))) (ze (zp 2 (za zU (z7 2) (eL (fun ds=>.ok (.lst ds)) (z3 (eL (fun ds=>.ok (.tup ds)) (z3 (eC (.str "leaf")) (z3 (eL (fun ds=>.ok (.tup ds)) z9) z9))) (z3 (eL (fun ds=>.ok (.tup ds)) (z3 (eC (.str "leaf")) (z3 (eC .non) z9))) (z3 (eL (fun ds=>.ok (.tup ds)) (z3 (eC (.str "Head")) (z3 (eL (fun ds=>.ok (.tup ds)) (z3 (eC (.str "a")) z9)) z9))) (z3 (eC .non) (z3 (eC (.int 5)) (z3 (eC (.str "leaf")) (z3 (eL (fun ds=>.ok (.tup ds)) z9) (z3 (eL (fun ds=>.ok (.tup ds)) (z3 (eC (.str "text")) (z3 (eL (fun ds=>.ok (.tup ds)) z9) z9))) (z3 (eL (fun ds=>.ok (.tup ds)) (z3 (eC (.str "text")) (z3 (eL (fun ds=>.ok (.tup ds)) (z3 (eC (.str "a")) z9)) z9))) z9)))))))))))) (ze (zp 2 (za zU (z7 2) (eL (fun ds=>.ok (.lst ds)) (z3 (eL (fun ds=>.ok (.tup ds)) (z3 (eC (.str "text")) (z3 (eL (fun ds=>.ok (.tup ds)) (z3 (eL (fun ds=>.ok (.tup ds)) (z3 (eC (.str "a")) z9)) z9)) z9))) (z3 (eL (fun ds=>.ok (.tup ds)) (z3 (eC (.str "text")) (z3 (eL (fun ds=>.ok (.tup ds)) (z3 (eL (fun ds=>.ok (.tup ds)) (z3 (eC (.str "a")) (z3 (eL (fun ds=>.ok (.tup ds)) z9) (z3 (eL (fun ds=>.ok (.tup ds)) z9) z9)))) z9)) z9))) (z3 (eL (fun ds=>.ok (.tup ds)) (z3 (eC (.str "text")) (z3 (eL (fun ds=>.ok (.tup ds)) (z3 (eL (fun ds=>.ok (.tup ds)) (z3 (eC (.str "a")) (z3 (eC .non) z9))) z9)) z9))) (z3 (eL (fun ds=>.ok (.tup ds)) (z3 (eC (.str "text")) (z3 (eL (fun ds=>.ok (.tup ds)) (z3 (eL (fun ds=>.ok (.tup ds)) (z3 (eC (.str "a")) (z3 (eL vH (z3 (eC (.str "b")) z9)) z9))) z9)) z9))) z9))))))) (ze (zp 2 (za zU (z7 2) (eL (fun ds=>.ok (.lst ds)) (z3 (eL (fun ds=>.ok (.tup ds)) (z3 (eC (.str "text")) (z3 (eL (fun ds=>.ok (.tup ds)) (z3 (eL (fun ds=>.ok (.tup ds)) (z3 (eC (.str "a")) (z3 (eL (fun ds=>.ok (.tup ds)) (z3 (eL (fun ds=>.ok (.tup ds)) z9) z9)) z9))) z9)) z9))) (z3 (eL (fun ds=>.ok (.tup ds)) (z3 (eC (.str "text")) (z3 (eL (fun ds=>.ok (.tup ds)) (z3 (eL (fun ds=>.ok (.tup ds)) (z3 (eC (.int 5)) (z3 (eL (fun ds=>.ok (.tup ds)) z9) z9))) z9)) z9))) (z3 (eL (fun ds=>.ok (.tup ds)) (z3 (eC (.str "text")) (z3 (eL (fun ds=>.ok (.tup ds)) (z3 (eL vH (z3 (eC (.str "a")) (z3 (eL (fun ds=>.ok (.tup ds)) z9) z9))) z9)) z9))) (z3 (eL (fun ds=>.ok (.tup ds)) (z3 (eC (.str "text")) (z3 (eUn qL (eL xj (z3 (z7 1) z9))) z9))) (z3 (eC (.str "text")) z9)))))))) (ze (zp 2 (za zU (z7 2) (eL (fun ds=>.ok (.lst ds)) (z3 (eL (fun ds=>.ok (.tup ds)) (z3 (eC (.str "text")) (z3 (eL (fun ds=>.ok (.tup ds)) (z3 (eL (fun ds=>.ok (.tup ds)) (z3 (eC (.str "a")) (z3 (eL (fun ds=>.ok (.tup ds)) (z3 (eC (.str "b")) z9)) z9))) z9)) z9))) (z3 (eL (fun ds=>.ok (.tup ds)) (z3 (eC (.str "text")) (z3 (eL (fun ds=>.ok (.tup ds)) (z3 (eL (fun ds=>.ok (.tup ds)) (z3 (eC (.str "a")) (z3 (eL (fun ds=>.ok (.tup ds)) (z3 (eL vH (z3 (eC (.str "b")) z9)) z9)) z9))) z9)) z9))) (z3 (eL (fun ds=>.ok (.tup ds)) (z3 (eC (.str "text")) (z3 (z7 1) (z3 (z7 1) z9)))) (z3 (eL (fun ds=>.ok (.tup ds)) (z3 (eC (.str "table")) (z3 (eL (fun ds=>.ok (.tup ds)) z9) z9))) (z3 (eL (fun ds=>.ok (.tup ds)) (z3 (eC .non) z9)) z9)))))))) (ze (zp 2 (za zU (z7 2) (eL (fun ds=>.ok (.lst ds)) (z3 (eL (fun ds=>.ok (.tup ds)) (z3 (eC (.str "table")) (z3 (eL (fun ds=>.ok (.tup ds)) (z3 (eL (fun ds=>.ok (.tup ds)) z9) z9)) z9))) (z3 (eL (fun ds=>.ok (.tup ds)) (z3 (eC (.str "table")) (z3 (eL (fun ds=>.ok (.tup ds)) (z3 (eL (fun ds=>.ok (.tup ds)) (z3 (eL (fun ds=>.ok (.tup ds)) (z3 (eC (.str "a")) z9)) z9)) (z3 (eL (fun ds=>.ok (.tup ds)) (z3 (eL (fun ds=>.ok (.tup ds)) (z3 (eC (.str "a")) z9)) (z3 (eL (fun ds=>.ok (.tup ds)) (z3 (eC (.str "b")) z9)) z9))) z9))) z9))) (z3 (eL (fun ds=>.ok (.tup ds)) (z3 (eC (.str "table")) (z3 (eL (fun ds=>.ok (.tup ds)) (z3 (eL (fun ds=>.ok (.tup ds)) (z3 (eL vH (z3 (eC (.str "a")) z9)) z9)) z9)) z9))) z9)))))) (ze (zp 2 (za zU (z7 2) (eL (fun ds=>.ok (.lst ds)) (z3 (eL (fun ds=>.ok (.tup ds)) (z3 (eC (.str "table")) (z3 (eL (fun ds=>.ok (.tup ds)) (z3 (eL (fun ds=>.ok (.tup ds)) (z3 (eC (.str "a")) z9)) z9)) z9))) (z3 (eL (fun ds=>.ok (.tup ds)) (z3 (eC (.str "table")) (z3 (eL vH (z3 (eL (fun ds=>.ok (.tup ds)) (z3 (eL (fun ds=>.ok (.tup ds)) (z3 (eC (.str "a")) z9)) z9)) z9)) z9))) (z3 (eL (fun ds=>.ok (.tup ds)) (z3 (eC (.str "table")) (z3 (eL (fun ds=>.ok (.tup ds)) (z3 (eL vH (z3 (eL (fun ds=>.ok (.tup ds)) (z3 (eC (.str "a")) z9)) z9)) z9)) z9))) (z3 (eL (fun ds=>.ok (.tup ds)) (z3 (eC (.str "table")) (z3 (eL (fun ds=>.ok (.tup ds)) (z3 (eL (fun ds=>.ok (.tup ds)) (z3 (eL (fun ds=>.ok (.tup ds)) (z3 (eC (.str "a|b")) z9)) z9)) z9)) z9))) z9))))))) (ze (zp 2 (za zU (z7 2) (eL (fun ds=>.ok (.lst ds)) (z3 (eL (fun ds=>.ok (.tup ds)) (z3 (eC (.bl true)) (z3 (eL (fun ds=>.ok (.tup ds)) z9) z9))) (z3 (eL (fun ds=>.ok (.tup ds)) (z3 (eC (.str "leaf")) (z3 (eC (.str "leaf")) z9))) z9))))) (ze (zp 2 (za zU (z7 2) (eL (fun ds=>.ok (.lst ds)) (z3 (eL (fun ds=>.ok (.tup ds)) (z3 (eC (.str "head")) (z3 (eL (fun ds=>.ok (.tup ds)) (z3 (za qE (eC (.str "a")) (eC (.int 41))) z9)) z9))) (z3 (eL (fun ds=>.ok (.tup ds)) (z3 (eC (.str "text")) (z3 (eL (fun ds=>.ok (.tup ds)) (z3 (eL (fun ds=>.ok (.tup ds)) (z3 (eC (.str "a\n")) (z3 (eL (fun ds=>.ok (.tup ds)) z9) z9))) z9)) z9))) (z3 (eL (fun ds=>.ok (.tup ds)) (z3 (eC (.str "head")) (z3 (eC (.str "a")) z9))) z9)))))) (zo (uW (za ixD (z7 2) (za zz (z7 0) (eC (.int 42))))))))))))))))
def yI:List D->R D:=zy 3 uw
theorem sc__law_odd:FnScope ["_law_number_here","_law_one","_law_odd_here"] ["_law_number_here"] (defScope (top 49)):=⟨rfl,rfl,rfl,by decide +kernel,rfl,by decide +kernel,by decide +kernel⟩
theorem Zp (Df:DefIn K mg "_law_odd" (top 49) ["_law_number_here"])(B:Bl mg)(G:Gl0 K mg)(Cl:Cls K mg) :Own P w K mg base "_law_odd" 1 ["_law_number_here"] (spM K yI 1) :=
 Df.mir (k:=0) (Γ':=[.shr,.dead,.dead]) sc__law_odd (by decide) fun f cdv A outer s H E hr=>(zf (L2.st 1 sc__law_odd.nd (zc (zd (z4 (zd (z4 zh (z4 (zd z8) z8))) z8)))) (zf (L2.st 2 sc__law_odd.nd (zc (ye (z4 (zd (z4 zh (z4 (zd z8) z8))) (z4 (zd (z4 zh (z4 (xQ (z4 zh z8)) z8))) (z4 (zd (z4 zh (z4 (zd (z4 zh z8)) z8))) (z4 (zd (z4 zh (z4 (zd (z4 zh z8)) z8))) (z4 (zd (z4 zh z8)) (z4 (zd (z4 zh (z4 (zd (z4 zh z8)) (z4 zb z8)))) (z4 (xQ (z4 zh z8)) z8)))))))))) (zf (L2.st 2 sc__law_odd.nd (zc (zj zD yf yg (mn 2 .own) (ye (z4 (zd (z4 zh (z4 (zd z8) z8))) (z4 (zd (z4 zh (z4 vv z8))) (z4 (zd (z4 zh (z4 (zd (z4 zh z8)) z8))) (z4 vv (z4 zb (z4 zh (z4 (zd z8) (z4 (zd (z4 zh (z4 (zd z8) z8))) (z4 (zd (z4 zh (z4 (zd (z4 zh z8)) z8))) z8))))))))))))) (zf (L2.st 2 sc__law_odd.nd (zc (zj zD yf yg (mn 2 .own) (ye (z4 (zd (z4 zh (z4 (zd (z4 (zd (z4 zh z8)) z8)) z8))) (z4 (zd (z4 zh (z4 (zd (z4 (zd (z4 zh (z4 (zd z8) (z4 (zd z8) z8)))) z8)) z8))) (z4 (zd (z4 zh (z4 (zd (z4 (zd (z4 zh (z4 vv z8))) z8)) z8))) (z4 (zd (z4 zh (z4 (zd (z4 (zd (z4 zh (z4 (xQ (z4 zh z8)) z8))) z8)) z8))) z8)))))))) (zf (L2.st 2 sc__law_odd.nd (zc (zj zD yf yg (mn 2 .own) (ye (z4 (zd (z4 zh (z4 (zd (z4 (zd (z4 zh (z4 (zd (z4 (zd z8) z8)) z8))) z8)) z8))) (z4 (zd (z4 zh (z4 (zd (z4 (zd (z4 zb (z4 (zd z8) z8))) z8)) z8))) (z4 (zd (z4 zh (z4 (zd (z4 (xQ (z4 zh (z4 (zd z8) z8))) z8)) z8))) (z4 (zd (z4 zh (z4 (uA (yA xk u9 ue (by exact rfl) B.list Boot.«list» (z4 (mn 1 .own) z8))) z8))) (z4 zh z8))))))))) (zf (L2.st 2 sc__law_odd.nd (zc (zj zD yf yg (mn 2 .own) (ye (z4 (zd (z4 zh (z4 (zd (z4 (zd (z4 zh (z4 (zd (z4 zh z8)) z8))) z8)) z8))) (z4 (zd (z4 zh (z4 (zd (z4 (zd (z4 zh (z4 (zd (z4 (xQ (z4 zh z8)) z8)) z8))) z8)) z8))) (z4 (zd (z4 zh (z4 (mn 1 .own) (z4 (mn 1 .own) z8)))) (z4 (zd (z4 zh (z4 (zd z8) z8))) (z4 (zd (z4 vv z8)) z8))))))))) (zf (L2.st 2 sc__law_odd.nd (zc (zj zD yf yg (mn 2 .own) (ye (z4 (zd (z4 zh (z4 (zd (z4 (zd z8) z8)) z8))) (z4 (zd (z4 zh (z4 (zd (z4 (zd (z4 (zd (z4 zh z8)) z8)) (z4 (zd (z4 (zd (z4 zh z8)) (z4 (zd (z4 zh z8)) z8))) z8))) z8))) (z4 (zd (z4 zh (z4 (zd (z4 (zd (z4 (xQ (z4 zh z8)) z8)) z8)) z8))) z8))))))) (zf (L2.st 2 sc__law_odd.nd (zc (zj zD yf yg (mn 2 .own) (ye (z4 (zd (z4 zh (z4 (zd (z4 (zd (z4 zh z8)) z8)) z8))) (z4 (zd (z4 zh (z4 (xQ (z4 (zd (z4 (zd (z4 zh z8)) z8)) z8)) z8))) (z4 (zd (z4 zh (z4 (zd (z4 (xQ (z4 (zd (z4 zh z8)) z8)) z8)) z8))) (z4 (zd (z4 zh (z4 (zd (z4 (zd (z4 (zd (z4 zh z8)) z8)) z8)) z8))) z8)))))))) (zf (L2.st 2 sc__law_odd.nd (zc (zj zD yf yg (mn 2 .own) (ye (z4 (zd (z4 yz (z4 (zd z8) z8))) (z4 (zd (z4 zh (z4 zh z8))) z8)))))) (zf (L2.st 2 sc__law_odd.nd (zc (zj zD yf yg (mn 2 .own) (ye (z4 (zd (z4 zh (z4 (zd (z4 (zj kR YK Yp zh zb) z8)) z8))) (z4 (zd (z4 zh (z4 (zd (z4 (zd (z4 zh (z4 (zd z8) z8))) z8)) z8))) (z4 (zd (z4 zh (z4 zh z8))) z8))))))) (zl (zw (zc (qW (zY hr.u1 (mn 2 .own) (zj zP yc zr (mn 0 .shr) zb))))))))))))))))
def wa:Tn->R Fl:=(zo (za ixD (eL (fun ds=>.ok (.lst ds)) (z3 (eC (.str "")) (z3 (eC (.str "a b")) (z3 (za qE (eC (.str "a")) (eC (.int 41))) (z3 (eC .non) (z3 (eC (.int 5)) (z3 (eL vH (z3 (eC (.str "a")) z9)) (z3 (eL (fun ds=>.ok (.tup ds)) (z3 (eC (.str "a")) z9)) (z3 (eC (.str "a\n")) (z3 (eC (.str "a{")) (z3 (eC (.bl true)) z9))))))))))) (za zz (z7 0) (eC (.int 10)))))
def zt:List D->R D:=zy 1 wa
theorem qt:FnScope ["_law_number_here"] ["_law_number_here"] (defScope (top 50)):=⟨rfl,rfl,rfl,by decide +kernel,rfl,by decide +kernel,by decide +kernel⟩
theorem qu (Df:DefIn K mg "_law_bad_word" (top 50) ["_law_number_here"])(B:Bl mg)(G:Gl0 K mg)(Cl:Cls K mg) :Own P w K mg base "_law_bad_word" 1 ["_law_number_here"] (spM K zt 1) :=
 Df.mir (k:=0) (Γ':=[.shr]) qt (by decide) fun f cdv A outer s H E hr=>(zl (zw (zc (zY hr.u1 (ye (z4 zh (z4 zh (z4 (zj kR YK Yp zh zb) (z4 vv (z4 zb (z4 (xQ (z4 zh z8)) (z4 (zd (z4 zh z8)) (z4 zh (z4 zh (z4 yz z8))))))))))) (zj zP yc zr (mn 0 .shr) zb)))))
def qF:Tn->R Fl:=(zo (za xP (za xP (j8 (z7 0) yY (yR (z7 1))) (eL (fun ds=>.ok (.tup ds)) (z3 (z7 2) z9))) (j8 (z7 0) (yR (za zU (z7 1) (eC (.int 1)))) yY)))
def zx:List D->R D:=zy 3 qF
theorem kT:FnScope ["_law_row","_law_at","_law_thing"] ["_law_row","_law_at","_law_thing"] (defScope (top 51)):=⟨rfl,rfl,rfl,by decide +kernel,rfl,by decide +kernel,by decide +kernel⟩
theorem Z7 (Df:DefIn K mg "_law_with" (top 51) ["_law_row","_law_at","_law_thing"])(B:Bl mg)(G:Gl0 K mg)(Cl:Cls K mg) :Own P w K mg base "_law_with" 1 ["_law_row","_law_at","_law_thing"] (spM K zx 3) :=
 Df.mir (k:=0) (Γ':=[.shr,.shr,.shr]) kT (by decide) fun f cdv A outer s H E hr=>(zl (zw (zc (zj vF um ux (zj vF um ux (qY (mn 0 .shr) wc (wb (mn 1 .shr))) (zd (z4 (mn 2 .shr) z8))) (qY (mn 0 .shr) (wb (zj zD yf yg (mn 1 .shr) zb)) wc)))))
def qM:Tn->R Fl:=(ze (ka (.many [2,3]) (z7 0)) (ze (zp 4 (za zz (z7 1) (eC (.int 6)))) (ze (sIf (zg (za (eqR false) (z7 4) (eC (.int 0)))) (zo (uW (eL (fun ds=>.ok (.tup ds)) (z3 (eL zt (z3 (za zu (z7 1) (eC (.int 6))) z9)) (z3 (z7 3) z9))))) zk) (ze (sIf (zg (za (eqR false) (z7 4) (eC (.int 1)))) (zo (uW (za ixD (eL (fun ds=>.ok (.lst ds)) (z3 (eL vH (z3 (z7 2) (z3 (z7 3) z9))) (z3 (eL (fun ds=>.ok (.tup ds)) (z3 (z7 2) z9)) (z3 (eL (fun ds=>.ok (.tup ds)) (z3 (z7 2) (z3 (eUn qL (eL xj (z3 (z7 3) z9))) z9))) (z3 (eL (fun ds=>.ok (.tup ds)) (z3 (z7 2) (z3 (z7 3) (z3 (eL (fun ds=>.ok (.tup ds)) z9) z9)))) z9))))) (za zz (za zu (z7 1) (eC (.int 6))) (eC (.int 4)))))) zk) (ze (zp 5 (za ixD (za xP (z7 3) (eL (fun ds=>.ok (.tup ds)) (z3 (eL (fun ds=>.ok (.tup ds)) (z3 (eC (.str "c")) (z3 (eC (.str "d")) (z3 (eC (.str "e")) z9)))) z9))) (za zz (za zu (z7 1) (eC (.int 6))) (za zU (eL yh (z3 (z7 3) z9)) (eC (.int 1)))))) (ze (zp 6 (eL zx (z3 (z7 5) (z3 (za zz (za zu (z7 1) (eC (.int 60))) (eL yh (z3 (z7 5) z9))) (z3 (eL zt (z3 (za zu (z7 1) (eC (.int 600))) z9)) z9))))) (ze (sIf (zg (za (eqR false) (z7 4) (eC (.int 2)))) (zp 6 (za ixD (eL (fun ds=>.ok (.lst ds)) (z3 (eUn qL (eL xj (z3 (z7 5) z9))) (z3 (eL (fun ds=>.ok (.tup ds)) z9) (z3 (eC .non) (z3 (eC (.str "c")) z9))))) (za zz (za zu (z7 1) (eC (.int 60))) (eC (.int 4))))) zk) (ze (sIf (zg (za (eqR false) (eL yh (z3 (z7 3) z9)) (eC (.int 0)))) (zo (uW (eL (fun ds=>.ok (.tup ds)) (z3 (z7 2) (z3 (eL (fun ds=>.ok (.tup ds)) (z3 (z7 6) z9)) z9))))) zk) (zo (uW (eL (fun ds=>.ok (.tup ds)) (z3 (z7 2) (z3 (eL zx (z3 (z7 3) (z3 (za zz (za zu (z7 1) (eC (.int 6))) (eL yh (z3 (z7 3) z9))) (z3 (z7 6) z9)))) z9)))))))))))))
def yl:List D->R D:=zy 7 qM
theorem sc__law_bad_pair:FnScope ["_law_pair","_law_number_here","_law_word_here","_law_notes","_law_way","_law_note","_law_bad"] ["_law_pair","_law_number_here"] (defScope (top 52)):=⟨rfl,rfl,rfl,by decide +kernel,rfl,by decide +kernel,by decide +kernel⟩
theorem qm (Df:DefIn K mg "_law_bad_pair" (top 52) ["_law_pair","_law_number_here"])(B:Bl mg)(G:Gl0 K mg)(Cl:Cls K mg)(O__law_with:Own P w K mg base "_law_with" 1 ["_law_row","_law_at","_law_thing"] (spM K zx 3))(O__law_bad_word:Own P w K mg base "_law_bad_word" 1 ["_law_number_here"] (spM K zt 1)):Own P w K mg base "_law_bad_pair" 2 ["_law_pair","_law_number_here"] (spM K yl 2) :=
 Df.mir (k:=1) (Γ':=[.shr,.shr,.dead,.dead,.dead,.dead,.dead]) sc__law_bad_pair (by decide) fun f cdv A outer s H E hr=>(zf (Jh (mn 0 .shr) (by decide) (YX rfl (uN (pgn 2 sc__law_bad_pair.nd) (uN (pgn 3 sc__law_bad_pair.nd) Xb))) (by decide)) (zf (L2.st 4 sc__law_bad_pair.nd (zc (zj zP yc zr (mn 1 .shr) zb))) (zf (zX (zJ (zM hr.u12) x9 xa (mn 4 .own) zb (zE _)) (zl (zw (zc (qW (zd (z4 (zv (O__law_bad_word.mono (by decide)) hr (by exact rfl) zi (z4 (zj zO y0 zr (mn 1 .shr) zb) z8)) (z4 (mn 3 .shr) z8))))))) zC) (zf (zX (zJ (zM hr.u12) x9 xa (mn 4 .own) zb (zE _)) (zl (zw (zc (qW (zY hr.u1 (ye (z4 (xQ (z4 (mn 2 .shr) (z4 (mn 3 .shr) z8))) (z4 (zd (z4 (mn 2 .shr) z8)) (z4 (zd (z4 (mn 2 .shr) (z4 (uA (yA xk u9 ue (by exact rfl) B.list Boot.«list» (z4 (mn 3 .shr) z8))) z8))) (z4 (zd (z4 (mn 2 .shr) (z4 (mn 3 .shr) (z4 (zd z8) z8)))) z8))))) (zj zP yc zr (zj zO y0 zr (mn 1 .shr) zb) zb)))))) zC) (zf (L2.st 5 sc__law_bad_pair.nd (zc (zY hr.u1 (zj vF um ux (mn 3 .shr) (zd (z4 (zd (z4 zh (z4 zh (z4 zh z8)))) z8))) (zj zP yc zr (zj zO y0 zr (mn 1 .shr) zb) (zj zD yf yg (zH zN yL yN (by exact rfl) B.len PySem.boot_len (z4 (mn 3 .shr) z8)) zb))))) (zf (L2.st 6 sc__law_bad_pair.nd (zc (zv (O__law_with.mono (by decide)) hr (by exact rfl) zi (z4 (mn 5 .own) (z4 (zj zP yc zr (zj zO y0 zr (mn 1 .shr) zb) (zH zN yL yN (by exact rfl) B.len PySem.boot_len (z4 (mn 5 .own) z8))) (z4 (zv (O__law_bad_word.mono (by decide)) hr (by exact rfl) zi (z4 (zj zO y0 zr (mn 1 .shr) zb) z8)) z8)))))) (zf (zX (zJ (zM hr.u12) x9 xa (mn 4 .own) zb (zE _)) (zl (L2.st 6 sc__law_bad_pair.nd (zc (zY hr.u1 (ye (z4 (uA (yA xk u9 ue (by exact rfl) B.list Boot.«list» (z4 (mn 5 .own) z8))) (z4 (zd z8) (z4 vv (z4 zh z8))))) (zj zP yc zr (zj zO y0 zr (mn 1 .shr) zb) zb))))) zC) (zf (zX (zJ (zM hr.u12) x9 xa (zH zN yL yN (by exact rfl) B.len PySem.boot_len (z4 (mn 3 .shr) z8)) zb (zE _)) (zl (zw (zc (qW (zd (z4 (mn 2 .shr) (z4 (zd (z4 (mn 6 .own) z8)) z8))))))) zC) (zl (zw (zc (qW (zd (z4 (mn 2 .shr) (z4 (zv (O__law_with.mono (by decide)) hr (by exact rfl) zi (z4 (mn 3 .shr) (z4 (zj zP yc zr (zj zO y0 zr (mn 1 .shr) zb) (zH zN yL yN (by exact rfl) B.len PySem.boot_len (z4 (mn 3 .shr) z8))) (z4 (mn 6 .own) z8)))) z8)))))))))))))))
def jP:Tn->R Fl:=(ze (zp 3 (za zz (z7 1) (eC (.int 4)))) (ze (sIf (vP (zg (za (eqR false) (z7 3) (eC (.int 0)))) (zg (za gtD (z7 2) (eC (.int 1))))) (zo (za ixD (eL (fun ds=>.ok (.lst ds)) (z3 (j8 (z7 0) (yR (eC (.int 1))) yY) (z3 (za xP (z7 0) (eL (fun ds=>.ok (.tup ds)) (z3 (eL (fun ds=>.ok (.tup ds)) z9) z9))) z9))) (za zz (za zu (z7 1) (eC (.int 4))) (eC (.int 2))))) zk) (ze (sIf (zg (za (eqR false) (z7 3) (eC (.int 1)))) (zo (eUn qL (eL xj (z3 (z7 0) z9)))) zk) (ze (zp 4 (za zz (za zu (z7 1) (eC (.int 4))) (eL yh (z3 (z7 0) z9)))) (ze (sIf (zg (za (eqR false) (z7 3) (eC (.int 2)))) (zo (eL zx (z3 (z7 0) (z3 (z7 4) (z3 (za ixD (eL (fun ds=>.ok (.lst ds)) (z3 (eUn qL (eL xj (z3 (za ixD (z7 0) (z7 4)) z9))) (z3 (eC .non) (z3 (eC (.str "a")) (z3 (za xP (za ixD (z7 0) (z7 4)) (za xU (eL (fun ds=>.ok (.tup ds)) (z3 (eC (.str "b")) z9)) (eC (.int 13)))) z9))))) (za zz (za zu (z7 1) (eC (.int 20))) (eC (.int 4)))) z9))))) zk) (ze (zp 5 (za zz (za zu (z7 1) (eC (.int 20))) (za zU (eL yh (z3 (za ixD (z7 0) (z7 4)) z9)) (eC (.int 1))))) (zo (eL zx (z3 (z7 0) (z3 (z7 4) (z3 (za xP (za xP (j8 (za ixD (z7 0) (z7 4)) yY (yR (z7 5))) (eL (fun ds=>.ok (.tup ds)) (z3 (eL zt (z3 (za zu (z7 1) (eC (.int 260))) z9)) z9))) (j8 (za ixD (z7 0) (z7 4)) (yR (z7 5)) yY)) z9)))))))))))
def yD:List D->R D:=zy 6 jP
theorem sc__law_bad_row:FnScope ["_law_row","_law_number_here","_law_size","_law_way","_law_at","_law_place"] ["_law_row","_law_number_here","_law_size"] (defScope (top 53)):=⟨rfl,rfl,rfl,by decide +kernel,rfl,by decide +kernel,by decide +kernel⟩
theorem qQ (Df:DefIn K mg "_law_bad_row" (top 53) ["_law_row","_law_number_here","_law_size"])(B:Bl mg)(G:Gl0 K mg)(Cl:Cls K mg)(O__law_with:Own P w K mg base "_law_with" 1 ["_law_row","_law_at","_law_thing"] (spM K zx 3))(O__law_bad_word:Own P w K mg base "_law_bad_word" 1 ["_law_number_here"] (spM K zt 1)):Own P w K mg base "_law_bad_row" 2 ["_law_row","_law_number_here","_law_size"] (spM K yD 3) :=
 Df.mir (k:=1) (Γ':=[.shr,.shr,.shr,.dead,.dead,.dead]) sc__law_bad_row (by decide) fun f cdv A outer s H E hr=>(zf (L2.st 3 sc__law_bad_row.nd (zc (zj zP yc zr (mn 1 .shr) zb))) (zf (zX (MW.mt (Ys (zJ (zM hr.u12) x9 xa (mn 3 .own) zb (zE _)) (Z3 (zJ Y6 W9 zr (mn 2 .shr) zb (zE _))))) (zl (zw (zc (zY hr.u1 (ye (z4 (qY (mn 0 .shr) (wb zb) wc) (z4 (zj vF um ux (mn 0 .shr) (zd (z4 (zd z8) z8))) z8))) (zj zP yc zr (zj zO y0 zr (mn 1 .shr) zb) zb))))) zC) (zf (zX (zJ (zM hr.u12) x9 xa (mn 3 .own) zb (zE _)) (zl (zw (zc (uA (yA xk u9 ue (by exact rfl) B.list Boot.«list» (z4 (mn 0 .shr) z8)))))) zC) (zf (L2.st 4 sc__law_bad_row.nd (zc (zj zP yc zr (zj zO y0 zr (mn 1 .shr) zb) (zH zN yL yN (by exact rfl) B.len PySem.boot_len (z4 (mn 0 .shr) z8))))) (zf (zX (zJ (zM hr.u12) x9 xa (mn 3 .own) zb (zE _)) (zl (zw (zc (zv (O__law_with.mono (by decide)) hr (by exact rfl) zi (z4 (mn 0 .shr) (z4 (mn 4 .own) (z4 (zY hr.u1 (ye (z4 (uA (yA xk u9 ue (by exact rfl) B.list Boot.«list» (z4 (zY hr.u1 (mn 0 .shr) (mn 4 .own)) z8))) (z4 vv (z4 zh (z4 (zj vF um ux (zY hr.u1 (mn 0 .shr) (mn 4 .own)) (zj xI wC wB (zd (z4 zh z8)) zb)) z8))))) (zj zP yc zr (zj zO y0 zr (mn 1 .shr) zb) zb)) z8))))))) zC) (zf (L2.st 5 sc__law_bad_row.nd (zc (zj zP yc zr (zj zO y0 zr (mn 1 .shr) zb) (zj zD yf yg (zH zN yL yN (by exact rfl) B.len PySem.boot_len (z4 (zY hr.u1 (mn 0 .shr) (mn 4 .own)) z8)) zb)))) (zl (zw (zc (zv (O__law_with.mono (by decide)) hr (by exact rfl) zi (z4 (mn 0 .shr) (z4 (mn 4 .own) (z4 (zj vF um ux (zj vF um ux (qY (zY hr.u1 (mn 0 .shr) (mn 4 .own)) wc (wb (mn 5 .own))) (zd (z4 (zv (O__law_bad_word.mono (by decide)) hr (by exact rfl) zi (z4 (zj zO y0 zr (mn 1 .shr) zb) z8)) z8))) (qY (zY hr.u1 (mn 0 .shr) (mn 4 .own)) (wb (mn 5 .own)) wc)) z8)))))))))))))
def kg:Tn->R Fl:=(ze (sIf (zg (za (eqR false) (za ixD (z7 0) (eC (.int 0))) (eC (.str "leaf")))) (zo (za ixD (eL (fun ds=>.ok (.lst ds)) (z3 (eL (fun ds=>.ok (.tup ds)) (z3 (eC (.str "leaf")) (z3 (eL (fun ds=>.ok (.tup ds)) z9) z9))) (z3 (eL (fun ds=>.ok (.tup ds)) (z3 (eC (.str "leaf")) (z3 (eC .non) z9))) (z3 (eL vH (z3 (eC (.str "leaf")) z9)) z9)))) (za zz (z7 1) (eC (.int 3))))) zk) (ze (zp 2 (za zz (z7 1) (eL yh (z3 (za ixD (z7 0) (eC (.int 1))) z9)))) (ze (zp 3 (za zu (z7 1) (eC (.int 7)))) (ze (sIf (zg (za (eqR false) (za ixD (z7 0) (eC (.int 0))) (eC (.str "head")))) (zo (eL (fun ds=>.ok (.tup ds)) (z3 (eC (.str "head")) (z3 (eL zx (z3 (za ixD (z7 0) (eC (.int 1))) (z3 (z7 2) (z3 (eL zt (z3 (z7 3) z9)) z9)))) z9)))) zk) (ze (sIf (zg (za (eqR false) (za ixD (z7 0) (eC (.int 0))) (eC (.str "text")))) (zo (eL (fun ds=>.ok (.tup ds)) (z3 (eC (.str "text")) (z3 (eL zx (z3 (za ixD (z7 0) (eC (.int 1))) (z3 (z7 2) (z3 (eL yl (z3 (za ixD (za ixD (z7 0) (eC (.int 1))) (z7 2)) (z3 (z7 3) z9))) z9)))) z9)))) zk) (zo (eL (fun ds=>.ok (.tup ds)) (z3 (eC (.str "table")) (z3 (eL zx (z3 (za ixD (z7 0) (eC (.int 1))) (z3 (z7 2) (z3 (eL yD (z3 (za ixD (za ixD (z7 0) (eC (.int 1))) (z7 2)) (z3 (z7 3) (z3 (eL yh (z3 (za ixD (z7 0) (eC (.int 1))) z9)) z9)))) z9)))) z9)))))))))
def yx:List D->R D:=zy 4 kg
theorem sc__law_spoilt:FnScope ["_law_block_here","_law_number_here","_law_at","_law_more"] ["_law_block_here","_law_number_here"] (defScope (top 54)):=⟨rfl,rfl,rfl,by decide +kernel,rfl,by decide +kernel,by decide +kernel⟩
theorem jI (Df:DefIn K mg "_law_spoilt" (top 54) ["_law_block_here","_law_number_here"])(B:Bl mg)(G:Gl0 K mg)(Cl:Cls K mg)(O__law_with:Own P w K mg base "_law_with" 1 ["_law_row","_law_at","_law_thing"] (spM K zx 3))(O__law_bad_row:Own P w K mg base "_law_bad_row" 2 ["_law_row","_law_number_here","_law_size"] (spM K yD 3))(O__law_bad_word:Own P w K mg base "_law_bad_word" 1 ["_law_number_here"] (spM K zt 1))(O__law_bad_pair:Own P w K mg base "_law_bad_pair" 2 ["_law_pair","_law_number_here"] (spM K yl 2)):Own P w K mg base "_law_spoilt" 3 ["_law_block_here","_law_number_here"] (spM K yx 2) :=
 Df.mir (k:=2) (Γ':=[.shr,.shr,.dead,.dead]) sc__law_spoilt (by decide) fun f cdv A outer s H E hr=>(zf (zX (zJ (zM hr.u12) x9 xa (zY hr.u1 (mn 0 .shr) zb) zh (zE _)) (zl (zw (zc (zY hr.u1 (ye (z4 (zd (z4 zh (z4 (zd z8) z8))) (z4 (zd (z4 zh (z4 vv z8))) (z4 (xQ (z4 zh z8)) z8)))) (zj zP yc zr (mn 1 .shr) zb))))) zC) (zf (L2.st 2 sc__law_spoilt.nd (zc (zj zP yc zr (mn 1 .shr) (zH zN yL yN (by exact rfl) B.len PySem.boot_len (z4 (zY hr.u1 (mn 0 .shr) zb) z8))))) (zf (L2.st 3 sc__law_spoilt.nd (zc (zj zO y0 zr (mn 1 .shr) zb))) (zf (zX (zJ (zM hr.u12) x9 xa (zY hr.u1 (mn 0 .shr) zb) zh (zE _)) (zl (zw (zc (zd (z4 zh (z4 (zv (O__law_with.mono (by decide)) hr (by exact rfl) zi (z4 (zY hr.u1 (mn 0 .shr) zb) (z4 (mn 2 .own) (z4 (zv (O__law_bad_word.mono (by decide)) hr (by exact rfl) zi (z4 (mn 3 .own) z8)) z8)))) z8)))))) zC) (zf (zX (zJ (zM hr.u12) x9 xa (zY hr.u1 (mn 0 .shr) zb) zh (zE _)) (zl (zw (zc (zd (z4 zh (z4 (zv (O__law_with.mono (by decide)) hr (by exact rfl) zi (z4 (zY hr.u1 (mn 0 .shr) zb) (z4 (mn 2 .own) (z4 (zv (O__law_bad_pair.mono (by decide)) hr (by exact rfl) zi (z4 (zY hr.u1 (zY hr.u1 (mn 0 .shr) zb) (mn 2 .own)) (z4 (mn 3 .own) z8))) z8)))) z8)))))) zC) (zl (zw (zc (zd (z4 zh (z4 (zv (O__law_with.mono (by decide)) hr (by exact rfl) zi (z4 (zY hr.u1 (mn 0 .shr) zb) (z4 (mn 2 .own) (z4 (zv (O__law_bad_row.mono (by decide)) hr (by exact rfl) zi (z4 (zY hr.u1 (zY hr.u1 (mn 0 .shr) zb) (mn 2 .own)) (z4 (mn 3 .own) (z4 (zH zN yL yN (by exact rfl) B.len PySem.boot_len (z4 (zY hr.u1 (mn 0 .shr) zb) z8)) z8)))) z8)))) z8)))))))))))
def vz:Tn->R Fl:=(ze (zp 2 (za zz (z7 0) (eC (.int 8)))) (ze (sIf (zg (za (eqR false) (z7 2) (eC (.int 0)))) (zo (eL (fun ds=>.ok (.tup ds)) (z3 (eC (.str "head")) (z3 (za xU (eL (fun ds=>.ok (.tup ds)) (z3 (eC (.str "a")) z9)) (za zU (eC (.int 12)) (z7 1))) z9)))) zk) (ze (sIf (zg (za (eqR false) (z7 2) (eC (.int 1)))) (zo (eL (fun ds=>.ok (.tup ds)) (z3 (eC (.str "text")) (z3 (za xU (eL (fun ds=>.ok (.tup ds)) (z3 (eL (fun ds=>.ok (.tup ds)) (z3 (eC (.str "b")) (z3 (eL (fun ds=>.ok (.tup ds)) z9) z9))) z9)) (za zU (eC (.int 200)) (z7 1))) z9)))) zk) (ze (sIf (zg (za (eqR false) (z7 2) (eC (.int 2)))) (zo (eL (fun ds=>.ok (.tup ds)) (z3 (eC (.str "text")) (z3 (eL (fun ds=>.ok (.tup ds)) (z3 (eL (fun ds=>.ok (.tup ds)) (z3 (eC (.str "b")) (z3 (za xU (eL (fun ds=>.ok (.tup ds)) (z3 (eL (fun ds=>.ok (.tup ds)) (z3 (eC (.str "c")) z9)) z9)) (za zU (eC (.int 3)) (z7 1))) z9))) z9)) z9)))) zk) (ze (sIf (zg (za (eqR false) (z7 2) (eC (.int 3)))) (zo (eL (fun ds=>.ok (.tup ds)) (z3 (eC (.str "text")) (z3 (eL (fun ds=>.ok (.tup ds)) (z3 (eL (fun ds=>.ok (.tup ds)) (z3 (eC (.str "b")) (z3 (eL (fun ds=>.ok (.tup ds)) (z3 (za xU (eL (fun ds=>.ok (.tup ds)) (z3 (eC (.str "c")) z9)) (za zU (eC (.int 30)) (z7 1))) z9)) z9))) z9)) z9)))) zk) (ze (sIf (zg (za (eqR false) (z7 2) (eC (.int 4)))) (zo (eL (fun ds=>.ok (.tup ds)) (z3 (eC (.str "table")) (z3 (za xU (eL (fun ds=>.ok (.tup ds)) (z3 (eL (fun ds=>.ok (.tup ds)) (z3 (eL (fun ds=>.ok (.tup ds)) (z3 (eC (.str "d")) z9)) z9)) z9)) (za zU (eC (.int 20)) (z7 1))) z9)))) zk) (ze (sIf (zg (za (eqR false) (z7 2) (eC (.int 5)))) (zo (eL (fun ds=>.ok (.tup ds)) (z3 (eC (.str "table")) (z3 (eL (fun ds=>.ok (.tup ds)) (z3 (za xU (eL (fun ds=>.ok (.tup ds)) (z3 (eL (fun ds=>.ok (.tup ds)) (z3 (eC (.str "d")) z9)) z9)) (za zU (eC (.int 4)) (z7 1))) z9)) z9)))) zk) (ze (sIf (zg (za (eqR false) (z7 2) (eC (.int 6)))) (zo (eL (fun ds=>.ok (.tup ds)) (z3 (eC (.str "table")) (z3 (eL (fun ds=>.ok (.tup ds)) (z3 (eL (fun ds=>.ok (.tup ds)) (z3 (za xU (eL (fun ds=>.ok (.tup ds)) (z3 (eC (.str "d")) z9)) (za zU (eC (.int 12)) (z7 1))) z9)) z9)) z9)))) zk) (zo (eL (fun ds=>.ok (.tup ds)) (z3 (eC (.str "head")) (z3 (eL (fun ds=>.ok (.tup ds)) (z3 (za qE (eC (.str "e")) (za zU (eC (.int 40)) (z7 1))) z9)) z9))))))))))))
def yj:List D->R D:=zy 3 vz
theorem sc__law_bound:FnScope ["_law_number_here","_law_more","_law_way"] ["_law_number_here","_law_more"] (defScope (top 55)):=⟨rfl,rfl,rfl,by decide +kernel,rfl,by decide +kernel,by decide +kernel⟩
theorem jT (Df:DefIn K mg "_law_bound" (top 55) ["_law_number_here","_law_more"])(B:Bl mg)(G:Gl0 K mg)(Cl:Cls K mg) :Own P w K mg base "_law_bound" 1 ["_law_number_here","_law_more"] (spM K yj 2) :=
 Df.mir (k:=0) (Γ':=[.shr,.shr,.dead]) sc__law_bound (by decide) fun f cdv A outer s H E hr=>(zf (L2.st 2 sc__law_bound.nd (zc (zj zP yc zr (mn 0 .shr) zb))) (zf (zX (zJ (zM hr.u12) x9 xa (mn 2 .own) zb (zE _)) (zl (zw (zc (zd (z4 zh (z4 (zj xI wC wB (zd (z4 zh z8)) (zj zD yf yg zb (mn 1 .shr))) z8)))))) zC) (zf (zX (zJ (zM hr.u12) x9 xa (mn 2 .own) zb (zE _)) (zl (zw (zc (zd (z4 zh (z4 (zj xI wC wB (zd (z4 (zd (z4 zh (z4 (zd z8) z8))) z8)) (zj zD yf yg zb (mn 1 .shr))) z8)))))) zC) (zf (zX (zJ (zM hr.u12) x9 xa (mn 2 .own) zb (zE _)) (zl (zw (zc (zd (z4 zh (z4 (zd (z4 (zd (z4 zh (z4 (zj xI wC wB (zd (z4 (zd (z4 zh z8)) z8)) (zj zD yf yg zb (mn 1 .shr))) z8))) z8)) z8)))))) zC) (zf (zX (zJ (zM hr.u12) x9 xa (mn 2 .own) zb (zE _)) (zl (zw (zc (zd (z4 zh (z4 (zd (z4 (zd (z4 zh (z4 (zd (z4 (zj xI wC wB (zd (z4 zh z8)) (zj zD yf yg zb (mn 1 .shr))) z8)) z8))) z8)) z8)))))) zC) (zf (zX (zJ (zM hr.u12) x9 xa (mn 2 .own) zb (zE _)) (zl (zw (zc (zd (z4 zh (z4 (zj xI wC wB (zd (z4 (zd (z4 (zd (z4 zh z8)) z8)) z8)) (zj zD yf yg zb (mn 1 .shr))) z8)))))) zC) (zf (zX (zJ (zM hr.u12) x9 xa (mn 2 .own) zb (zE _)) (zl (zw (zc (zd (z4 zh (z4 (zd (z4 (zj xI wC wB (zd (z4 (zd (z4 zh z8)) z8)) (zj zD yf yg zb (mn 1 .shr))) z8)) z8)))))) zC) (zf (zX (zJ (zM hr.u12) x9 xa (mn 2 .own) zb (zE _)) (zl (zw (zc (zd (z4 zh (z4 (zd (z4 (zd (z4 (zj xI wC wB (zd (z4 zh z8)) (zj zD yf yg zb (mn 1 .shr))) z8)) z8)) z8)))))) zC) (zl (zw (zc (zd (z4 zh (z4 (zd (z4 (zj kR YK Yp zh (zj zD yf yg zb (mn 1 .shr))) z8)) z8))))))))))))))
def wR:Tn->R Fl:=(ze (zp 1 (eL (fun ds=>.ok (.lst ds)) (z3 (eL yj (z3 (z7 0) (z3 (eC (.int 0)) z9))) z9))) (ze (sIf (bOr (zg (za (isB true) (eL zL (z3 (z7 1) z9)) (eC (.bl true)))) (zg (za (isB true) (eL zq (z3 (za ixD (z7 1) (eC (.int 0))) z9)) (eC (.bl true))))) (zo (eC (.bl false))) zk) (ze (sIf (bOr (zg (za (isB true) (eL zq (z3 (eL yj (z3 (z7 0) (z3 (eC (.int 1)) z9))) z9)) (eC (.bl false)))) (yk (zg (eL zA (z3 (eL (fun ds=>.ok (.lst ds)) (z3 (eL (fun ds=>.ok (.tup ds)) (z3 (eC (.str "leaf")) z9)) (z3 (eL yj (z3 (z7 0) (z3 (eC (.int 1)) z9))) z9))) z9))))) (zo (eC (.bl false))) zk) (ze (zp 2 (eL (fun ds=>.ok (.tup ds)) (z3 (eC (.str "text")) (z3 (za xU (eL (fun ds=>.ok (.tup ds)) (z3 (eL (fun ds=>.ok (.tup ds)) (z3 (eC (.str "b")) (z3 (za xU (eL (fun ds=>.ok (.tup ds)) (z3 (eL (fun ds=>.ok (.tup ds)) (z3 (eC (.str "c")) z9)) z9)) (eC (.int 3))) z9))) z9)) (za zz (za zu (z7 0) (eC (.int 8))) (eC (.int 20)))) z9)))) (ze (zp 3 (eL (fun ds=>.ok (.tup ds)) (z3 (eC (.str "text")) (z3 (za xU (eL (fun ds=>.ok (.tup ds)) (z3 (eL (fun ds=>.ok (.tup ds)) (z3 (eC (.str "b")) (z3 (eL (fun ds=>.ok (.tup ds)) (z3 (eL (fun ds=>.ok (.tup ds)) (z3 (eC (.str "c")) z9)) z9)) z9))) z9)) (za jH (eC (.int 60)) (za xV (eC (.int 3)) (za zz (za zu (z7 0) (eC (.int 8))) (eC (.int 20)))))) z9)))) (ze (zp 4 (za zU (eL (fun ds=>.ok (.lst ds)) (z3 (z7 3) z9)) (za xV (eL (fun ds=>.ok (.lst ds)) (z3 (z7 2) z9)) (eL Wt (z3 (za gtD (za zz (za zu (z7 0) (eC (.int 8))) (eC (.int 20))) (eC (.int 0))) z9))))) (ze (sIf (bOr (zg (za (isB true) (eL zL (z3 (z7 4) z9)) (eC (.bl true)))) (yk (zg (eL zA (z3 (za zU (z7 4) (eL (fun ds=>.ok (.lst ds)) (z3 (eL (fun ds=>.ok (.tup ds)) (z3 (eC (.str "text")) (z3 (eL (fun ds=>.ok (.tup ds)) (z3 (eL (fun ds=>.ok (.tup ds)) (z3 (eC (.str "d")) (z3 (eL (fun ds=>.ok (.tup ds)) (z3 (eL (fun ds=>.ok (.tup ds)) (z3 (eC (.str "c")) z9)) z9)) z9))) z9)) z9))) z9))) z9))))) (zo (eC (.bl false))) zk) (zo (vt (za (isB false) (eL zL (z3 (za xV (eL (fun ds=>.ok (.lst ds)) (z3 (eL (fun ds=>.ok (.tup ds)) (z3 (eC (.str "leaf")) z9)) z9)) (eC (.int 40))) z9)) (eC (.bl true))) (eL zA (z3 (za xV (eL (fun ds=>.ok (.lst ds)) (z3 (eL (fun ds=>.ok (.tup ds)) (z3 (eC (.str "leaf")) z9)) z9)) (eC (.int 41))) z9)))))))))))
def yt:List D->R D:=zy 5 wR
theorem sc__law_bounds:FnScope ["_law_number_here","_law_few","_law_notes","_law_rest","_law_many"] ["_law_number_here"] (defScope (top 56)):=⟨rfl,rfl,rfl,by decide +kernel,rfl,by decide +kernel,by decide +kernel⟩
theorem jh (Df:DefIn K mg "_law_bounds" (top 56) ["_law_number_here"])(B:Bl mg)(G:Gl0 K mg)(Cl:Cls K mg)(O__law_bound:Own P w K mg base "_law_bound" 1 ["_law_number_here","_law_more"] (spM K yj 2))(O__law_refused:Own P w K mg base "_law_refused" 12 ["_law_blocks_here"] (spM K zA 1))(O_need_blocks:Own P w K mg base "need_blocks" 11 ["blocks"] (spM K zL 1))(O_is_block:Own P w K mg base "is_block" 9 ["thing"] (spM K zq 1)):Own P w K mg base "_law_bounds" 13 ["_law_number_here"] (spM K yt 1) :=
 Df.mir (k:=12) (Γ':=[.shr,.dead,.dead,.dead,.dead]) sc__law_bounds (by decide) fun f cdv A outer s H E hr=>(zf (L2.st 1 sc__law_bounds.nd (zc (ye (z4 (zv (O__law_bound.mono (by decide)) hr (by exact rfl) zi (z4 (mn 0 .shr) (z4 zb z8))) z8)))) (zf (zX (MW.mt (wo (zJ wK vR uO (zv (O_need_blocks.mono (by decide)) hr (by exact rfl) zi (z4 (mn 1 .own) z8)) yz (zE _)) (xM (zJ wK vR uO (zv (O_is_block.mono (by decide)) hr (by exact rfl) zi (z4 (zY hr.u1 (mn 1 .own) zb) z8)) yz (zE _))))) (zl (zw (zc yz))) zC) (zf (zX (MW.mt (wo (zJ wK vR uO (zv (O_is_block.mono (by decide)) hr (by exact rfl) zi (z4 (zv (O__law_bound.mono (by decide)) hr (by exact rfl) zi (z4 (mn 0 .shr) (z4 zb z8))) z8)) yz (zE _)) (xM (yB (xf (zv (O__law_refused.mono (by decide)) hr (by exact rfl) zi (z4 (ye (z4 (zd (z4 zh z8)) (z4 (zv (O__law_bound.mono (by decide)) hr (by exact rfl) zi (z4 (mn 0 .shr) (z4 zb z8))) z8))) z8))))))) (zl (zw (zc yz))) zC) (zf (L2.st 2 sc__law_bounds.nd (zc (zd (z4 zh (z4 (zj xI wC wB (zd (z4 (zd (z4 zh (z4 (zj xI wC wB (zd (z4 (zd (z4 zh z8)) z8)) zb) z8))) z8)) (zj zP yc zr (zj zO y0 zr (mn 0 .shr) zb) zb)) z8))))) (zf (L2.st 3 sc__law_bounds.nd (zc (zd (z4 zh (z4 (zj xI wC wB (zd (z4 (zd (z4 zh (z4 (zd (z4 (zd (z4 zh z8)) z8)) z8))) z8)) (zj jO ZL zr zb (zj xR vS vK zb (zj zP yc zr (zj zO y0 zr (mn 0 .shr) zb) zb)))) z8))))) (zf (L2.st 4 sc__law_bounds.nd (zc (zj zD yf yg (ye (z4 (mn 3 .own) z8)) (zj xR vS vK (ye (z4 (mn 2 .own) z8)) (yA XR Ql Jt (by exact rfl) B.int Boot.«int» (z4 (vT Y6 W9 zr (zj zP yc zr (zj zO y0 zr (mn 0 .shr) zb) zb) zb (zE _)) z8)))))) (zf (zX (MW.mt (wo (zJ wK vR uO (zv (O_need_blocks.mono (by decide)) hr (by exact rfl) zi (z4 (mn 4 .own) z8)) yz (zE _)) (xM (yB (xf (zv (O__law_refused.mono (by decide)) hr (by exact rfl) zi (z4 (zj zD yf yg (mn 4 .own) (ye (z4 (zd (z4 zh (z4 (zd (z4 (zd (z4 zh (z4 (zd (z4 (zd (z4 zh z8)) z8)) z8))) z8)) z8))) z8))) z8))))))) (zl (zw (zc yz))) zC) (zl (zw (zc (qv (vT Qp Kn uO (zv (O_need_blocks.mono (by decide)) hr (by exact rfl) zi (z4 (zj xR vS vK (ye (z4 (zd (z4 zh z8)) z8)) zb) z8)) yz (zE _)) (jE (zv (O__law_refused.mono (by decide)) hr (by exact rfl) zi (z4 (zj xR vS vK (ye (z4 (zd (z4 zh z8)) z8)) zb) z8))))))))))))))
def UP:Tn->R Fl:=(ze (zp 1 (eL yJ (z3 (z7 0) (z3 (eC (.int 0)) z9)))) (ze (zp 2 (eL xj (z3 (z7 1) z9))) (ze (sIf (bOr (zg (za (isB true) (eL zL (z3 (z7 2) z9)) (eC (.bl true)))) (zg (za (eqR true) (z7 2) (z7 1)))) (zo (eC (.bl false))) zk) (ze (xv (xb (z7 1)) (.one 3) (sIf (zg (za (isB true) (eL zq (z3 (z7 3) z9)) (eC (.bl true)))) (zo (eC (.bl false))) zk)) (ze (zp 4 (eL zB (z3 (z7 0) (z3 (eC (.int 8)) z9)))) (ze (zp 5 (eL yI (z3 (z7 4) z9))) (ze (sIf (zg (za (isB true) (eL zq (z3 (z7 5) z9)) (eC (.bl false)))) (zo (eC (.bl false))) zk) (ze (zp 6 (za zz (za zu (z7 4) (eC (.int 42))) (za zU (eL yh (z3 (z7 1) z9)) (eC (.int 1))))) (ze (sIf (yk (zg (eL zA (z3 (za zU (za zU (eSl (z7 1) yY (yR (z7 6))) (eL (fun ds=>.ok (.lst ds)) (z3 (z7 5) z9))) (eSl (z7 1) (yR (z7 6)) yY)) z9)))) (zo (eC (.bl false))) zk) (ze (sIf (yk (zg (eL zA (z3 (za ixD (eL (fun ds=>.ok (.lst ds)) (z3 (eL yn (z3 (z7 1) z9)) (z3 (eC .non) (z3 (eC (.dic [] [])) (z3 (eC (.str "leaf")) (z3 (eC (.int 5)) (z3 (eL (fun ds=>.ok (.tup ds)) z9) z9))))))) (za zz (za zu (z7 4) (eC (.int 300))) (eC (.int 6)))) z9)))) (zo (eC (.bl false))) zk) (ze (sIf (zg (za (eqR true) (z7 1) (eL (fun ds=>.ok (.lst ds)) z9))) (ze (zp 6 (za zz (z7 6) (eL yh (z3 (z7 1) z9)))) (ze (zp 7 (eL yx (z3 (za ixD (z7 1) (z7 6)) (z3 (eL zB (z3 (z7 0) (z3 (eC (.int 10)) z9))) z9)))) (sIf (bOr (zg (za (isB true) (eL zq (z3 (z7 7) z9)) (eC (.bl false)))) (yk (zg (eL zA (z3 (za zU (za zU (eSl (z7 1) yY (yR (z7 6))) (eL (fun ds=>.ok (.lst ds)) (z3 (z7 7) z9))) (eSl (z7 1) (yR (za zU (z7 6) (eC (.int 1)))) yY)) z9))))) (zo (eC (.bl false))) zk))) zk) (zo (eL yt (z3 (eL zB (z3 (z7 0) (z3 (eC (.int 9)) z9))) z9))))))))))))))
def F_law:List D->R D:=zy 8 UP
theorem sc_law:FnScope ["_law_script","_law_blocks_here","_law_handed","_law_block_here","_law_number_here","_law_odd_here","_law_at","_law_bad"] ["_law_script"] (defScope (top 57)):=⟨rfl,rfl,rfl,by decide +kernel,rfl,by decide +kernel,by decide +kernel⟩
theorem V1 (B:Bl mg)(G:Gl0 K mg)(Cl:Cls K mg)(O__law_blocks:Own P w K mg base "_law_blocks" 5 ["_law_script","_law_first"] (spM K yJ 2))(O__law_number:Own P w K mg base "_law_number" 1 ["_law_script","_law_k"] (spM K zB 2))(O__law_odd:Own P w K mg base "_law_odd" 1 ["_law_number_here"] (spM K yI 1))(O__law_bounds:Own P w K mg base "_law_bounds" 13 ["_law_number_here"] (spM K yt 1))(O_is_block:Own P w K mg base "is_block" 9 ["thing"] (spM K zq 1))(O__law_refused:Own P w K mg base "_law_refused" 12 ["_law_blocks_here"] (spM K zA 1))(O__law_spoilt:Own P w K mg base "_law_spoilt" 3 ["_law_block_here","_law_number_here"] (spM K yx 2))(O_need_blocks:Own P w K mg base "need_blocks" 11 ["blocks"] (spM K zL 1)):∀ (f:Addr) (cdv:Value) (A:Around) (outer:List Env) (s:Shared) (H:Hp) (E:XK),Room 13 (A.deeper (envOfC "law" (defScope (top 57)) s.heap.objs.size f cdv))->MSs (xl (cxx P w) P w K mg base ["_law_script","_law_blocks_here","_law_handed","_law_block_here","_law_number_here","_law_odd_here","_law_at","_law_bad"] "law" (defScope (top 57)) f cdv A outer s H E) E [] (qP 8 1) (defBody (top 57)) UP [.shr,.dead,.dead,.dead,.dead,.dead,.dead,.dead] :=
 fun f cdv A outer s H E hr=>(zf (L2.st 1 sc_law.nd (zc (zv (O__law_blocks.mono (by decide)) hr (by exact rfl) zi (z4 (mn 0 .shr) (z4 zb z8))))) (zf (L2.st 2 sc_law.nd (zc (yA xk u9 ue (by exact rfl) B.list Boot.«list» (z4 (mn 1 .own) z8)))) (zf (zX (MW.mt (wo (zJ wK vR uO (zv (O_need_blocks.mono (by decide)) hr (by exact rfl) zi (z4 (mn 2 .own) z8)) yz (zE _)) (xM (zJ (uy hr.u12) x9 xa (mn 2 .own) (mn 1 .own) (zE _))))) (zl (zw (zc yz))) zC) (zf (Qu (Γ1:=[.shr,.shr,.own,.dead,.dead,.dead,.dead,.dead]) (vL (Γ2:=[.shr,.shr,.own,.shr,.dead,.dead,.dead,.dead]) PassesOwn.leaving rfl (w8 (mn 1 .shr)) (by decide) (yU (pgn 3 sc_law.nd)) (by decide) (zl (zX (zJ wK vR uO (zv (O_is_block.mono (by decide)) hr (by exact rfl) zi (z4 (mn 3 .shr) z8)) yz (zE _)) (zl (zw (zc yz))) zC)) rfl) rfl) (zf (L2.st 4 sc_law.nd (zc (zv (O__law_number.mono (by decide)) hr (by exact rfl) zi (z4 (mn 0 .shr) (z4 zb z8))))) (zf (L2.st 5 sc_law.nd (zc (zv (O__law_odd.mono (by decide)) hr (by exact rfl) zi (z4 (mn 4 .own) z8)))) (zf (zX (zJ wK vR uO (zv (O_is_block.mono (by decide)) hr (by exact rfl) zi (z4 (mn 5 .own) z8)) yz (zE _)) (zl (zw (zc yz))) zC) (zf (L2.st 6 sc_law.nd (zc (zj zP yc zr (zj zO y0 zr (mn 4 .own) zb) (zj zD yf yg (zH zN yL yN (by exact rfl) B.len PySem.boot_len (z4 (mn 1 .shr) z8)) zb)))) (zf (zX (yB (xf (zv (O__law_refused.mono (by decide)) hr (by exact rfl) zi (z4 (zj zD yf yg (zj zD yf yg (X2 (mn 1 .shr) wc (wb (mn 6 .own))) (ye (z4 (mn 5 .own) z8))) (X2 (mn 1 .shr) (wb (mn 6 .own)) wc)) z8)))) (zl (zw (zc yz))) zC) (zf (zX (yB (xf (zv (O__law_refused.mono (by decide)) hr (by exact rfl) zi (z4 (zY hr.u1 (ye (z4 (yA yS vm v5 (by exact rfl) B.tuple Boot.«tuple» (z4 (mn 1 .shr) z8)) (z4 vv (z4 Wa (z4 zh (z4 zb (z4 (zd z8) z8))))))) (zj zP yc zr (zj zO y0 zr (mn 4 .own) zb) zb)) z8)))) (zl (zw (zc yz))) zC) (zf (zX (zJ (uy hr.u12) x9 xa (mn 1 .shr) (ye z8) (zE _)) (uR (Γ':=[.shr,.shr,.own,.dead,.own,.own,.own,.dead]) (zf (L2.st 6 sc_law.nd (zc (zj zP yc zr (mn 6 .own) (zH zN yL yN (by exact rfl) B.len PySem.boot_len (z4 (mn 1 .shr) z8))))) (zf (L2.st 7 sc_law.nd (zc (zv (O__law_spoilt.mono (by decide)) hr (by exact rfl) zi (z4 (zY hr.u1 (mn 1 .shr) (mn 6 .own)) (z4 (zv (O__law_number.mono (by decide)) hr (by exact rfl) zi (z4 (mn 0 .shr) (z4 zb z8))) z8))))) (zl (zX (MW.mt (wo (zJ wK vR uO (zv (O_is_block.mono (by decide)) hr (by exact rfl) zi (z4 (mn 7 .own) z8)) yz (zE _)) (xM (yB (xf (zv (O__law_refused.mono (by decide)) hr (by exact rfl) zi (z4 (zj zD yf yg (zj zD yf yg (X2 (mn 1 .shr) wc (wb (mn 6 .own))) (ye (z4 (mn 7 .own) z8))) (X2 (mn 1 .shr) (wb (zj zD yf yg (mn 6 .own) zb)) wc)) z8))))))) (zl (zw (zc yz))) zC)))) rfl) zC) (zl (zw (zc (zv (O__law_bounds.mono (by decide)) hr (by exact rfl) zi (z4 (zv (O__law_number.mono (by decide)) hr (by exact rfl) zi (z4 (mn 0 .shr) (z4 zb z8))) z8))))))))))))))))
end
end K06
namespace K06
open PySem PyProof.Rows L2
def uQ (G:List D->R D):Tn->R Fl:=(ze (sIf (bOr (yk (zg (eUn (xx "tuple") (z7 0)))) (yk (zg (yW leD leD (z7 1) (eL yh (z3 (z7 0) z9)) (z7 2))))) (zo (eC (.bl false))) zk) (zo (eL wV (z3 (xF [none,some 3] (xb (z7 0)) (.one 0) (fun _=>.ok true) (eL G (z3 (z7 0) z9))) z9))))
theorem qj:zm=zy 4 (uQ zR):=rfl
theorem YQ:zK=zy 4 (uQ xt):=rfl
theorem Yy:zT=zy 4 (uQ xm):=rfl
theorem Zv:zF=zy 4 (uQ yQ):=rfl
theorem WA:zS=zy 4 (uQ yG):=rfl
theorem wI {α:Type}(g:α->D):∀ Q:List α,Q.filterMap (fun q=>some (g q))=Q.map g
 | []=>rfl
 | q::Q=>by rw [sZ,wI g Q]; rfl
theorem kh:∀ bs:List Bool,xZ (bs.map D.bl)=some bs
 | []=>rfl
 | b::bs=>by rw [tG]; show (xZ (bs.map D.bl)).map (b::·)=_; rw [kh bs]; rfl
theorem kW (G:List D->R D)(d lo hi:D)(h:xx "tuple" d=.ok (.bl false)):zy 4 (uQ G) [d,lo,hi]=.ok (.bl false):=by
 simp -implicitDefEqProofs only [uQ,yo,yV,yX,qe,zk,zy,ze,zo,sIf,z7,eC,eUn,eL,z9,z3,zg,bOr,yk,yW,xb,asB,R.ok_bind,tG,tR,tJ,tO,tS,tI,tM,tN,tD,tE,Nat.reduceAdd,Nat.reduceSub,tX,if_true,h,rH]
theorem Xf {α:Type}(G:List D->R D)(en:α->D)(b:α->Bool)(xs:List α)(hG:∀ x∈xs,G [en x]=.ok (.bl (b x)))(lo hi:Int)(hl:xs.length<=10000)(h1:lo<=(xs.length:Nat))(h2:((xs.length:Nat):Int)<=hi):zy 4 (uQ G) [.tup (xs.map en),.int lo,.int hi]=.ok (.bl (xs.all b)):=by
 have e1:xx "tuple" (.tup (xs.map en))=.ok (.bl true):=rfl
 have e2:yh [.tup (xs.map en)]=.ok (.int (xs.length:Nat)):=by
  show R.ok (D.int ((xs.map en).length:Nat))=_
  rw [sO]
 have e3:decide (lo<=((xs.length:Nat):Int))=true:=decide_eq_true h1
 have e4:decide (((xs.length:Nat):Int)<=hi)=true:=decide_eq_true h2
 have k1:xi (yZ (Tgt.one 0).asg (fun _=>.ok true) (eL G (z3 (z7 0) z9)) [none,none]) (xs.map en)=.ok (xs.filterMap fun x=>some (D.bl (b x))):=xE fun x hx=>by
  have hg:=hG x hx
  unfold yZ
  simp -implicitDefEqProofs only [z7,eL,z9,z3,Tgt.asg,R.ok_bind,tD,tH,if_true,hg]
  rfl
 rw [wI] at k1
 have i1:Y4 (xs.map fun x=>D.bl (b x))=.ok (.lst (xs.map fun x=>D.bl (b x))):=vE (by rw [sO]; omega)
 have a1:wV [.lst (xs.map fun x=>D.bl (b x))]=.ok (.bl (xs.all b)):=by
  have e:(xs.map fun x=>D.bl (b x))=(xs.map b).map D.bl:=by rw [pF]; rfl
  show (match xZ (xs.map fun x=>D.bl (b x)) with | some bs=>R.ok (D.bl (bs.all id)) | none=>.bad)=_
  rw [e,kh]
  show R.ok (D.bl ((xs.map b).all id))=_
  rw [List.all_map]
  rfl
 generalize (xs.map fun x=>D.bl (b x))=BB at *
 generalize xs.map en=XX at *
 generalize ((xs.length:Nat):Int)=l at *
 generalize xs.all b=r at *
 simp -implicitDefEqProofs only [uQ,yo,yV,yX,qe,Ze,zk,zy,ze,zo,sIf,z7,eC,eUn,eL,z9,z3,zg,bOr,yk,yW,xb,asB,wF,R.ok_bind,tG,tR,tJ,tO,tS,tI,tM,tN,tD,tE,Nat.reduceAdd,Nat.reduceSub,tX,jv,if_true,if_false,tF,e1,e2,e3,e4,k1,i1,a1,sV]
end K06
namespace K06
open PySem PyProof.Rows L2
def isF:R D->Bool
 | .ok (.bl false)=>true
 | _=>false
def isT:R D->Bool
 | .ok (.bl true)=>true
 | _=>false
theorem wQ:∀ {r:R D},isF r=true->r=.ok (.bl false)
 | .ok (.bl false),_=>rfl
 | .ok (.bl true),h=>by cases h
 | .ok .non,h=>by cases h
 | .ok (.int _),h=>by cases h
 | .ok (.str _),h=>by cases h
 | .ok (.tup _),h=>by cases h
 | .ok (.lst _),h=>by cases h
 | .ok (.dic _ _),h=>by cases h
 | .ok (.frl _),h=>by cases h
 | .err _,h=>by cases h
 | .bad,h=>by cases h
def chk (k:Nat):Bool:=match yI [.int (k:Nat)] with
 | .ok d=>d.imm&&isF (zq [d])
 | _=>false
theorem Ym:(List.range 42).all chk=true:=by decide +kernel
end K06
namespace K06
open PySem PyProof.Rows L2
theorem jR:(List.range 160).all (fun k=>isT (yt [.int (k:Nat)]))=true:=by decide +kernel
def z0a (k:Nat):Bool:=match zt [.int (k:Nat)] with
 | .ok d=>d.imm&&isF (zR [d])
 | _=>false
theorem qK:(List.range 10).all z0a=true:=by decide +kernel
end K06
namespace K06
open PySem PyProof.Rows L2
def S (l:List Nat):Str:=⟨l.toArray⟩
theorem Xi (l:List Nat):(S l).length=l.length:=sF
theorem Xc (l:List Nat):(S l).cps.toList=l:=List.toList_toArray
theorem UY (z:Str):z=S z.cps.toList:=by
 obtain ⟨a⟩:=z
 show (⟨a⟩:Str)=⟨a.toList.toArray⟩
 rw [Array.toArray_toList]
theorem Kd (a b:List Nat):S a++S b=S (a++b):=by
 rw [UY (S a++S b),VY,Xc,Xc]
def one (c:Nat):Str:=S [c]
theorem KL {cs:List Nat}{i:Int}{c:Nat}(hl:cs.length<=1000)(h0:0<=i)(h:cs[i.toNat]?=some c):ixD (.str (S cs)) (.int i)=.ok (.str (one c)) :=
 Qk (by rw [Xi,sizeLine_eq]; omega) (Wu h0 (by rw [Xc]; exact h))
theorem K4 {z:Str}{i:Int}{p:Nat->Prop}(hz:z.length<=1000)(h0:0<=i)(h1:i<z.length)(hp:∀ c∈z.cps.toList,p c):∃ c,ixD (.str z) (.int i)=.ok (.str (one c))/\p c:=by
 have hl:z.cps.toList.length=z.length:=by simp [Str.length]
 have hi:i.toNat<z.cps.toList.length:=by omega
 refine ⟨z.cps.toList[i.toNat],?_,hp _ (rA hi)⟩
 have:=KL (cs:=z.cps.toList) (i:=i) (by omega) h0 (rB hi)
 rw [<- UY z] at this
 exact this
abbrev Z2:Str:="abcdefghijklmnopqrstuvwxyzABCDEFGHIJKLMNOPQRSTUVWXYZ0123456789.,;:!?'\"()-/"
def okS (c:Nat):Prop:=c∈Z2.cps.toList
theorem Ji:Z2.length=74:=by decide +kernel
theorem K6:∀ c∈Z2.cps.toList,okS c:=fun _ h=>h
theorem Uu (c:Nat)(z:Str):inS (one c) z=decide (c∈z.cps.toList):=StrLaws.found_one z c
def Va (c:Nat):D:=.str (one c)
theorem Vh (l:List Nat)(h:l.length<=1000):yh [.str (S l)]=.ok (.int (l.length:Nat)):=by rw [VU (by rw [Xi,sizeLine_eq]; omega),Xi]
theorem XZ (A:Str)(c:Nat):zy 1 (zo (vt (eUn (xx "str") (z7 0)) (vt (za (eqR false) (eL yh (z3 (z7 0) z9)) (eC (.int 1))) (za Yr (z7 0) (eC (.str A)))))) [.str (one c)]=.ok (.bl (decide (c∈A.cps.toList))):=by
 have h1:xx "str" (.str (one c))=.ok (.bl true):=rfl
 have h2:=Vh [c] (by simp)
 have h2:yh [.str (one c)]=.ok (.int 1):=h2
 have h3:Yr (.str (one c)) (.str A)=.ok (.bl (decide (c∈A.cps.toList))):=by
  show R.ok (D.bl (inS (one c) A))=_
  rw [Uu]
 have h4:eqR false (.int 1) (.int 1)=.ok (.bl true):=by rw [zV]; rfl
 generalize one c=z at *
 generalize decide (c∈A.cps.toList)=b at *
 simp -implicitDefEqProofs only [zy,zo,z7,eC,za,eUn,eL,z9,z3,vt,asB,R.ok_bind,tG,tR,tJ,tO,tI,tM,tN,tD,Nat.reduceSub,tX,if_true,h1,h2,h3,h4]
instance (c:Nat):Decidable (okS c):=by unfold okS; infer_instance
theorem Ue (c:Nat):vd [.str (one c)]=.ok (.bl (decide (okS c))):=XZ Z2 c
theorem Uo (cs:List Nat):L2.signs (S cs)=cs.map Va:=by
 unfold L2.signs
 rw [Xc]
 rfl
theorem ZH (cs:List Nat)(h0:1<=cs.length)(h1:cs.length<=40):zR [.str (S cs)]=.ok (.bl (cs.all fun c=>decide (okS c))):=by
 have i1:xx "str" (.str (S cs))=.ok (.bl true):=rfl
 have h2:=Vh cs (by omega)
 have e1:decide ((1:Int)<=(cs.length:Nat))=true:=decide_eq_true (by omega)
 have e2:decide (((cs.length:Nat):Int)<=40)=true:=decide_eq_true (by omega)
 have hc:xi (yZ (Tgt.one 0).asg (fun _=>.ok true) (eL vd (z3 (z7 0) z9)) [none]) (cs.map Va)=.ok (cs.filterMap fun c=>some (D.bl (decide (okS c)))):=xE fun c _=>by
  have:=Ue c
  unfold Va
  generalize one c=z at *
  simp -implicitDefEqProofs only [yZ,wj,z7,eL,z9,z3,Tgt.asg,R.ok_bind,tD,tH,if_true,this]
 have e3:(cs.filterMap fun c=>some (D.bl (decide (okS c))))=(cs.map fun c=>decide (okS c)).map D.bl:=by
  rw [pF]; clear hc e2 e1 h2 i1 h1 h0; induction cs with
  | nil=>rfl
  | cons c cs ih=>rw [sZ,tG,ih]; rfl
 rw [e3] at hc
 have hk:=vE (ys:=(cs.map fun c=>decide (okS c)).map D.bl) (by rw [sO,sO]; omega)
 have ha:=Zh (bs:=cs.map fun c=>decide (okS c))
 have e4:((cs.map fun c=>decide (okS c)).all id)=cs.all fun c=>decide (okS c):=by rw [List.all_map]; rfl
 rw [e4] at ha
 have hs:=Uo cs
 have hq:wF (.str (S cs))=.ok (cs.map Va):=by show R.ok (L2.signs (S cs))=_; rw [hs]
 generalize (cs.map fun c=>decide (okS c)).map D.bl=BL at *
 generalize (cs.all fun c=>decide (okS c))=r at *
 generalize cs.map Va=L at *
 generalize ((cs.length:Nat):Int)=l at *
 generalize S cs=W at *
 simp -implicitDefEqProofs only [zR,vj,yo,yV,yX,zk,zy,ze,zo,sIf,z7,eC,eUn,eL,z9,z3,zg,bOr,yk,yW,xb,asB,wF,R.ok_bind,tG,tR,tJ,tO,tI,tM,tN,tD,Nat.reduceSub,tX,jv,if_true,if_false,tF,i1,h2,e1,e2,sV,hs,hc,hk,ha]
theorem Q3 (cs:List Nat)(h:cs.length=0\/40<cs.length)(hl:cs.length<=1000):zR [.str (S cs)]=.ok (.bl false):=by
 have i1:xx "str" (.str (S cs))=.ok (.bl true):=rfl
 have h2:=Vh cs hl
 rcases h with h | h
 ·have e1:decide ((1:Int)<=(cs.length:Nat))=false:=decide_eq_false (by omega)
  generalize ((cs.length:Nat):Int)=l at *
  generalize S cs=W at *
  simp -implicitDefEqProofs only [zR,vj,yo,yV,yX,zk,zy,ze,zo,sIf,z7,eC,eUn,eL,z9,z3,zg,bOr,yk,yW,xb,asB,R.ok_bind,tG,tR,tJ,tO,tI,tM,tN,tD,Nat.reduceSub,tX,jv,if_true,if_false,tF,i1,h2,e1,sV,rH]
 ·have e1:decide ((1:Int)<=(cs.length:Nat))=true:=decide_eq_true (by omega)
  have e2:decide (((cs.length:Nat):Int)<=40)=false:=decide_eq_false (by omega)
  generalize ((cs.length:Nat):Int)=l at *
  generalize S cs=W at *
  simp -implicitDefEqProofs only [zR,vj,yo,yV,yX,zk,zy,ze,zo,sIf,z7,eC,eUn,eL,z9,z3,zg,bOr,yk,yW,xb,asB,R.ok_bind,tG,tR,tJ,tO,tI,tM,tN,tD,Nat.reduceSub,tX,jv,if_true,if_false,tF,i1,h2,e1,e2,sV,rH]
theorem JA (d:D)(h:xx "str" d=.ok (.bl false)):zR [d]=.ok (.bl false):=by
 simp -implicitDefEqProofs only [zR,vj,yo,yV,yX,zk,zy,ze,zo,sIf,z7,eC,eUn,eL,z9,z3,zg,bOr,yk,yW,xb,asB,R.ok_bind,tG,tR,tJ,tO,tI,tM,tN,tD,Nat.reduceSub,tX,if_true,h,rH]
theorem Vy {α:Type}{xs:List α}{b:Nat}(hb:b<=xs.length):uq xs none (some (b:Int))=xs.take b:=by
 unfold uq
 rw [HT.sIx_nat,HT.sIx_none,Nat.min_eq_left hb]
 rfl
theorem Y7 {α:Type}{xs:List α}{a:Nat}(ha:a<=xs.length):uq xs (some (a:Int)) none=xs.drop a:=by
 unfold uq
 rw [HT.sIx_nat,HT.sIx_none,Nat.min_eq_left ha]
 exact List.take_of_length_le (by rw [rJ]; omega)
theorem z0v {F:List D->R D}{u:Tn->R (List D)}{g:Str->Option D}{τ:Tn}{ds:List D}{m:Str}{d:D}(h1:u τ=.ok ds)(h2:F ds=.err m)(h3:g m=some d):j3 F u g τ=.ok (.rt d):=by
 unfold j3
 simp only [h1,h2,h3]
theorem z0K {a b:D}{ds:List D}:ixD (.tup (a::b::ds)) (.int 1)=.ok b:=xB
theorem vW (xs:List D):yh [.tup xs]=.ok (.int (xs.length:Nat)):=rfl
theorem vi (G:List D->R D)(xs:List D)(hG:∀ x∈xs,G [x]=.ok (.bl true))(lo hi:Int)(hl:xs.length<=10000)(h1:lo<=(xs.length:Nat))(h2:((xs.length:Nat):Int)<=hi):zy 4 (uQ G) [.tup xs,.int lo,.int hi]=.ok (.bl true):=by
 have h:=Xf G id (fun _=>true) xs hG lo hi hl h1 h2
 rw [pM] at h
 rw [h]
 have:xs.all (fun _=>true)=true:=by simp
 rw [this]
theorem uM (G:List D->R D)(xs:List D)(lo hi:Int)(h:((xs.length:Nat):Int)<lo\/hi<(xs.length:Nat)):zy 4 (uQ G) [.tup xs,.int lo,.int hi]=.ok (.bl false):=by
 have e1:xx "tuple" (.tup xs)=.ok (.bl true):=rfl
 have e2:=vW xs
 by_cases h1:lo<=((xs.length:Nat):Int)
 ·have e3:decide (lo<=((xs.length:Nat):Int))=true:=decide_eq_true h1
  have e4:decide (((xs.length:Nat):Int)<=hi)=false:=decide_eq_false (by omega)
  generalize ((xs.length:Nat):Int)=l at *
  simp -implicitDefEqProofs only [uQ,yo,yV,yX,qe,zk,zy,ze,zo,sIf,z7,eC,eUn,eL,z9,z3,zg,bOr,yk,yW,xb,asB,R.ok_bind,tG,tR,tJ,tO,tS,tI,tM,tN,tD,tE,Nat.reduceAdd,Nat.reduceSub,tX,jv,if_true,if_false,tF,e1,e2,e3,e4,sV,rH]
 ·have e3:decide (lo<=((xs.length:Nat):Int))=false:=decide_eq_false h1
  generalize ((xs.length:Nat):Int)=l at *
  simp -implicitDefEqProofs only [uQ,yo,yV,yX,qe,zk,zy,ze,zo,sIf,z7,eC,eUn,eL,z9,z3,zg,bOr,yk,yW,xb,asB,R.ok_bind,tG,tR,tJ,tO,tS,tI,tM,tN,tD,tE,Nat.reduceAdd,Nat.reduceSub,tX,jv,if_true,if_false,tF,e1,e2,e3,sV,rH]
def z0L (r:R D):Bool:=isT r
theorem K8 {r:R D}(h:∃ b,r=.ok (.bl b)):r=.ok (.bl (isT r)):=by
 obtain ⟨b,rfl⟩:=h
 cases b<;>rfl
theorem wm (G:List D->R D)(xs:List D)(hG:∀ x∈xs,∃ b,G [x]=.ok (.bl b))(hx:∃ x∈xs,G [x]=.ok (.bl false))(lo hi:Int)(hl:xs.length<=10000):zy 4 (uQ G) [.tup xs,.int lo,.int hi]=.ok (.bl false):=by
 by_cases h:((xs.length:Nat):Int)<lo\/hi<(xs.length:Nat)
 ·exact uM G xs lo hi h
 ·have h0:=Xf G id (fun x=>isT (G [x])) xs (fun x hx=>K8 (hG x hx)) lo hi hl (by omega) (by omega)
  rw [pM] at h0
  rw [h0]
  obtain ⟨x,hx,e⟩:=hx
  have:(xs.all fun x=>isT (G [x]))=false:=by
   rw [List.all_eq_false]
   exact ⟨x,hx,by rw [e]; decide⟩
  rw [this]
def Wd (d:D):Prop:=zR [d]=.ok (.bl true)/\∃ z,d=.str z
def NW (d:D):Prop:=zR [d]=.ok (.bl false)/\d.imm=true
theorem Wd.imm {d:D}(h:Wd d):d.imm=true:=by obtain ⟨_,z,rfl⟩:=h; rfl
theorem ya:∀ {xs:List D},(∀ x∈xs,x.imm=true)->D.imms xs=true
 | [],_=>rfl
 | x::xs,h=>by
  show (x.imm&&D.imms xs)=true
  rw [h x tY,ya fun y hy=>h y (sA _ hy)]
  rfl
def Ws (lo hi:Nat)(d:D):Prop:=∃ ws,d=.tup ws/\lo<=ws.length/\ws.length<=hi/\∀ w∈ws,Wd w
theorem Ws.imm {lo hi:Nat}{d:D}(h:Ws lo hi d):d.imm=true:=by
 obtain ⟨ws,rfl,_,_,h⟩:=h
 exact ya fun w hw=>(h w hw).imm
theorem Zo {lo hi:Nat}{d:D}(h:Ws lo hi d)(hh:hi<=1000):zm [d,.int (lo:Nat),.int (hi:Nat)]=.ok (.bl true):=by
 obtain ⟨ws,rfl,h1,h2,h⟩:=h
 rw [qj]
 exact vi _ ws (fun w hw=>(h w hw).1) _ _ (by omega) (by omega) (by omega)
theorem vV (xs:List D)(hl:xs.length<=10000)(h:∀ x∈xs,Wd x\/NW x)(hx:∃ x∈xs,NW x)(lo hi:Int):zm [.tup xs,.int lo,.int hi]=.ok (.bl false):=by
 rw [qj]
 refine wm _ xs (fun x hx=>?_) ?_ _ _ hl
 ·rcases h x hx with h | h
  ·exact ⟨_,h.1⟩
  ·exact ⟨_,h.1⟩
 ·obtain ⟨x,hx,h⟩:=hx
  exact ⟨x,hx,h.1⟩
theorem qS (d:D):xt [d]=zm [d,.int 1,.int 30]:=by
 generalize hr:zm [d,.int 1,.int 30]=r
 unfold xt kG
 generalize zm=G at *
 cases r<;>simp -implicitDefEqProofs only [zy,zo,z7,eC,eL,z9,z3,R.ok_bind,R.err_bind,R.bad_bind,tG,tR,tJ,tO,tI,tM,tN,tD,Nat.reduceSub,tX,hr]
theorem qV (d:D):xm [d]=zm [d,.int 0,.int 12]:=by
 generalize hr:zm [d,.int 0,.int 12]=r
 unfold xm kB
 generalize zm=G at *
 cases r<;>simp -implicitDefEqProofs only [zy,zo,z7,eC,eL,z9,z3,R.ok_bind,R.err_bind,R.bad_bind,tG,tR,tJ,tO,tI,tM,tN,tD,Nat.reduceSub,tX,hr]
theorem YN (d:D):yQ [d]=zT [d,.int 1,.int 4]:=by
 generalize hr:zT [d,.int 1,.int 4]=r
 unfold yQ Y2
 generalize zT=G at *
 cases r<;>simp -implicitDefEqProofs only [zy,zo,z7,eC,eL,z9,z3,R.ok_bind,R.err_bind,R.bad_bind,tG,tR,tJ,tO,tI,tM,tN,tD,Nat.reduceSub,tX,hr]
abbrev Nt (d:D):Prop:=Ws 1 30 d
abbrev Ce (d:D):Prop:=Ws 0 12 d
theorem Nt.yes {d:D}(h:Nt d):xt [d]=.ok (.bl true):=by rw [qS]; exact Zo h (by decide)
theorem Ce.yes {d:D}(h:Ce d):xm [d]=.ok (.bl true):=by rw [qV]; exact Zo h (by decide)
def NN (d:D):Prop:=xt [d]=.ok (.bl false)/\d.imm=true
def NC (d:D):Prop:=xm [d]=.ok (.bl false)/\d.imm=true
end K06
namespace K06
open PySem PyProof.Rows L2
theorem uY:∀ {r:R D},isT r=true->r=.ok (.bl true)
 | .ok (.bl true),_=>rfl
 | .ok (.bl false),h=>by cases h
 | .ok .non,h=>by cases h
 | .ok (.int _),h=>by cases h
 | .ok (.str _),h=>by cases h
 | .ok (.tup _),h=>by cases h
 | .ok (.lst _),h=>by cases h
 | .ok (.dic _ _),h=>by cases h
 | .ok (.frl _),h=>by cases h
 | .err _,h=>by cases h
 | .bad,h=>by cases h
theorem VS (d:D)(h:xx "tuple" d=.ok (.bl false)):yG [d]=.ok (.bl false):=by
 unfold yG ud
 generalize zR=G1 at *
 generalize zK=G2 at *
 simp -implicitDefEqProofs only [zk,zy,ze,zo,sIf,z7,eC,za,eUn,eL,z9,z3,zg,bOr,yk,vt,asB,R.ok_bind,tG,tR,tJ,tO,tI,tM,tN,tD,Nat.reduceSub,tX,if_true,h,rH]
theorem ZR (xs:List D)(h:xs.length≠2):yG [.tup xs]=.ok (.bl false):=by
 have e1:xx "tuple" (.tup xs)=.ok (.bl true):=rfl
 have e2:=vW xs
 have e3:eqR true (.int (xs.length:Nat)) (.int 2)=.ok (.bl true):=by
  rw [zV,if_pos rfl]
  have:(((xs.length:Nat):Int)==2)=false:=beq_false_of_ne (by omega)
  rw [this]; rfl
 generalize ((xs.length:Nat):Int)=l at *
 unfold yG ud
 generalize zR=G1 at *
 generalize zK=G2 at *
 simp -implicitDefEqProofs only [zk,zy,ze,zo,sIf,z7,eC,za,eUn,eL,z9,z3,zg,bOr,yk,vt,asB,R.ok_bind,tG,tR,tJ,tO,tI,tM,tN,tD,Nat.reduceSub,tX,if_true,if_false,tF,e1,e2,e3,sV]
theorem jc (w x:D)(b c:Bool)(h1:zR [w]=.ok (.bl b))(h2:b=true->zK [x,.int 0,.int 3]=.ok (.bl c)):yG [.tup [w,x]]=.ok (.bl (b&&c)):=by
 have e1:xx "tuple" (.tup [w,x])=.ok (.bl true):=rfl
 have e2:yh [.tup [w,x]]=.ok (.int 2):=rfl
 have e3:eqR true (.int 2) (.int 2)=.ok (.bl false):=by rw [zV]; rfl
 unfold yG ud
 generalize zR=G1 at *
 generalize zK=G2 at *
 cases b
 ·simp -implicitDefEqProofs only [zk,zy,ze,zo,sIf,z7,eC,za,eUn,eL,z9,z3,zg,bOr,yk,vt,asB,R.ok_bind,tG,tR,tJ,tO,tI,tM,tN,tD,Nat.reduceSub,tX,xw,xB,if_false,tF,e1,e2,e3,h1,sV,Bool.false_and]
 ·have h2:=h2 rfl
  simp -implicitDefEqProofs only [zk,zy,ze,zo,sIf,z7,eC,za,eUn,eL,z9,z3,zg,bOr,yk,vt,asB,R.ok_bind,tG,tR,tJ,tO,tI,tM,tN,tD,Nat.reduceSub,tX,xw,xB,if_true,if_false,tF,e1,e2,e3,h1,h2,sV,Bool.true_and]
def Pr (d:D):Prop:=∃ w ns,d=.tup [w,.tup ns]/\Wd w/\ns.length<=3/\∀ n∈ns,Nt n
def NP (d:D):Prop:=yG [d]=.ok (.bl false)/\d.imm=true
theorem Pr.imm {d:D}(h:Pr d):d.imm=true:=by
 obtain ⟨w,ns,rfl,h1,_,h2⟩:=h
 show (w.imm&&(D.imms ns&&true))=true
 rw [h1.imm,ya fun n hn=>(h2 n hn).imm]
 rfl
theorem Pr.yes {d:D}(h:Pr d):yG [d]=.ok (.bl true):=by
 obtain ⟨w,ns,rfl,h1,hl,h2⟩:=h
 refine jc w (.tup ns) true true h1.1 fun _=>?_
 rw [YQ]
 exact vi _ ns (fun n hn=>(h2 n hn).yes) _ _ (by omega) (by omega) (by omega)
theorem qC (xs:List D)(hl:xs.length<=10000)(h:∀ x∈xs,Nt x\/NN x)(hx:∃ x∈xs,NN x)(lo hi:Int):zK [.tup xs,.int lo,.int hi]=.ok (.bl false):=by
 rw [YQ]
 refine wm _ xs (fun x hx=>?_) ?_ _ _ hl
 ·rcases h x hx with h | h
  ·exact ⟨_,h.yes⟩
  ·exact ⟨_,h.1⟩
 ·obtain ⟨x,hx,h⟩:=hx
  exact ⟨x,hx,h.1⟩
theorem ZK (xs:List D)(hl:xs.length<=10000)(h:∀ x∈xs,Pr x\/NP x)(hx:∃ x∈xs,NP x)(lo hi:Int):zS [.tup xs,.int lo,.int hi]=.ok (.bl false):=by
 rw [WA]
 refine wm _ xs (fun x hx=>?_) ?_ _ _ hl
 ·rcases h x hx with h | h
  ·exact ⟨_,h.yes⟩
  ·exact ⟨_,h.1⟩
 ·obtain ⟨x,hx,h⟩:=hx
  exact ⟨x,hx,h.1⟩
def Rw (k:Nat)(d:D):Prop:=∃ cs,d=.tup cs/\cs.length=k/\∀ c∈cs,Ce c
def NR (d:D):Prop:=yQ [d]=.ok (.bl false)/\d.imm=true
theorem Rw.imm {k:Nat}{d:D}(h:Rw k d):d.imm=true:=by
 obtain ⟨cs,rfl,_,h⟩:=h
 exact ya fun c hc=>(h c hc).imm
theorem Rw.is {k:Nat}{d:D}(h:Rw k d)(hk:k<=10):yQ [d]=.ok (.bl (decide (1<=k/\k<=4))):=by
 obtain ⟨cs,rfl,rfl,h⟩:=h
 rw [YN,Yy]
 by_cases hb:1<=cs.length/\cs.length<=4
 ·rw [decide_eq_true hb]
  exact vi _ cs (fun c hc=>(h c hc).yes) _ _ (by omega) (by omega) (by omega)
 ·rw [decide_eq_false hb]
  exact uM _ cs _ _ (by omega)
theorem XN (xs:List D)(hl:xs.length<=10000)(h:∀ x∈xs,Ce x\/NC x)(hx:∃ x∈xs,NC x):yQ [.tup xs]=.ok (.bl false):=by
 rw [YN,Yy]
 refine wm _ xs (fun x hx=>?_) ?_ _ _ hl
 ·rcases h x hx with h | h
  ·exact ⟨_,h.yes⟩
  ·exact ⟨_,h.1⟩
 ·obtain ⟨x,hx,h⟩:=hx
  exact ⟨x,hx,h.1⟩
theorem QN (d:D)(h:xx "tuple" d=.ok (.bl false)):yQ [d]=.ok (.bl false):=by
 rw [YN,Yy]
 exact kW _ d _ _ h
theorem Zn (d:D)(h:xx "tuple" d=.ok (.bl false)):xt [d]=.ok (.bl false):=by
 rw [qS,qj]
 exact kW _ d _ _ h
theorem kQ (d:D)(h:xx "tuple" d=.ok (.bl false)):xm [d]=.ok (.bl false):=by
 rw [qV,qj]
 exact kW _ d _ _ h
theorem Zj (rs:D)(h1:zF [rs,.int 1,.int 20]=.ok (.bl false)):yr [rs]=.ok (.bl false):=by
 unfold yr uo
 generalize zF=G1 at *
 simp -implicitDefEqProofs only [yo,yV,yX,qe,Ze,zy,zo,z7,eC,eL,z9,z3,vt,xb,asB,wF,R.ok_bind,tG,tR,tJ,tO,tI,tM,tN,tD,Nat.reduceSub,tX,if_false,tF,h1]
theorem Xk (r0:D)(l:List D)(ks:D->Nat)(h1:zF [.tup (r0::l),.int 1,.int 20]=.ok (.bl true))(hk:∀ r∈r0::l,yh [r]=.ok (.int (ks r:Nat)))(hl:(r0::l).length<=1000) :
  yr [.tup (r0::l)]=.ok (.bl ((r0::l).all fun r=>((ks r:Nat):Int)==(ks r0:Nat))):=by
 have hi:ixD (.tup (r0::l)) (.int 0)=.ok r0:=xw
 have k0:=hk r0 tY
 generalize r0::l=rs at *
 have k1:xi (yZ (Tgt.one 0).asg (fun _=>.ok true) (za (eqR false) (eL yh (z3 (z7 0) z9)) (eL yh (z3 (za ixD (z7 1) (eC (.int 0))) z9))) [none,some (.tup rs)]) (rs.map id)=.ok (rs.filterMap fun r=>some (D.bl (((ks r:Nat):Int)==(ks r0:Nat)))):=xE fun r hr=>by
  have h:=hk r hr
  have e:eqR false (.int (ks r:Nat)) (.int (ks r0:Nat))=.ok (.bl (((ks r:Nat):Int)==(ks r0:Nat))):=by rw [zV,if_neg sE]
  show yZ _ _ _ _ r=_
  unfold yZ
  generalize (((ks r:Nat):Int)==(ks r0:Nat))=bb at *
  generalize ((ks r:Nat):Int)=a at *
  generalize ((ks r0:Nat):Int)=c at *
  generalize yh=ln at *
  simp -implicitDefEqProofs only [z7,eC,za,eL,z9,z3,Tgt.asg,R.ok_bind,tD,tE,tH,if_true,wj,hi,h,k0,e]
 rw [pM,wI] at k1
 have i1:Y4 (rs.map fun r=>D.bl (((ks r:Nat):Int)==(ks r0:Nat)))=.ok (.lst (rs.map fun r=>D.bl (((ks r:Nat):Int)==(ks r0:Nat)))):=vE (by rw [sO]; omega)
 have a1:wV [.lst (rs.map fun r=>D.bl (((ks r:Nat):Int)==(ks r0:Nat)))]=.ok (.bl (rs.all fun r=>((ks r:Nat):Int)==(ks r0:Nat))):=by
  have e:(rs.map fun r=>D.bl (((ks r:Nat):Int)==(ks r0:Nat)))=(rs.map fun r=>((ks r:Nat):Int)==(ks r0:Nat)).map D.bl:=by rw [pF]; rfl
  rw [e,Zh,List.all_map]
  rfl
 generalize (rs.all fun r=>((ks r:Nat):Int)==(ks r0:Nat))=BB at *
 generalize (rs.map fun r=>D.bl (((ks r:Nat):Int)==(ks r0:Nat)))=LL at *
 unfold yr uo
 generalize zF=G1 at *
 generalize wV=al at *
 have hq:wF (.tup rs)=.ok rs:=rfl
 simp -implicitDefEqProofs only [yo,yV,yX,qe,Ze,zy,zo,z7,eC,eL,z9,z3,vt,xb,asB,wF,R.ok_bind,tG,tR,tJ,tO,tI,tM,tN,tD,Nat.reduceSub,tX,if_true,h1,k1,i1,a1]
def Tb (d:D):Prop:=∃ k rs,d=.tup rs/\1<=k/\k<=4/\1<=rs.length/\rs.length<=20/\∀ r∈rs,Rw k r
theorem Tb.imm {d:D}(h:Tb d):d.imm=true:=by
 obtain ⟨k,rs,rfl,_,_,_,_,h⟩:=h
 exact ya fun r hr=>(h r hr).imm
theorem Rw.len {k:Nat}{d:D}(h:Rw k d):yh [d]=.ok (.int (k:Nat)):=by
 obtain ⟨cs,rfl,rfl,_⟩:=h
 rfl
def klen:D->Nat
 | .tup xs=>xs.length
 | _=>0
theorem Rw.klen {k:Nat}{d:D}(h:Rw k d):klen d=k:=by
 obtain ⟨cs,rfl,rfl,_⟩:=h
 rfl
theorem Tb.yes {d:D}(h:Tb d):yr [d]=.ok (.bl true):=by
 obtain ⟨k,rs,rfl,k1,k2,l1,l2,h⟩:=h
 have hr:zF [.tup rs,.int 1,.int 20]=.ok (.bl true):=by
  rw [Zv]
  exact vi _ rs (fun r hr=>by rw [(h r hr).is (by omega),decide_eq_true ⟨k1,k2⟩]) _ _ (by omega) (by omega) (by omega)
 cases rs with
 | nil=>cases l1
 | cons r0 l =>
  rw [Xk r0 l klen hr (fun r hr=>by rw [(h r hr).klen]; exact (h r hr).len) (by omega)]
  have:((r0::l).all fun r=>((klen r:Nat):Int)==(klen r0:Nat))=true:=by
   rw [rE]
   intro r hr
   rw [(h r hr).klen,(h r0 tY).klen]
   exact beq_self_eq_true _
  rw [this]
theorem Z6 (rs:List D)(k:Nat)(hk:k<=4)(hl:rs.length<=1000)(h:∀ r∈rs,Rw k r\/NR r)(hx:∃ r∈rs,NR r):yr [.tup rs]=.ok (.bl false):=by
 refine Zj _ ?_
 rw [Zv]
 refine wm _ rs (fun r hr=>?_) ?_ _ _ (by omega)
 ·rcases h r hr with h | h
  ·exact ⟨_,h.is (by omega)⟩
  ·exact ⟨_,h.1⟩
 ·obtain ⟨x,hx,h⟩:=hx
  exact ⟨x,hx,h.1⟩
theorem kO (rs:List D)(hl:rs.length<=1000)(h:∀ r∈rs,∃ k,k<=10/\Rw k r)(a b:D)(ha:a∈rs)(hb:b∈rs)(hn:klen a≠klen b):yr [.tup rs]=.ok (.bl false):=by
 have hb2:∀ r∈rs,∃ b,yQ [r]=.ok (.bl b):=fun r hr=>by
  obtain ⟨k,hk,h⟩:=h r hr
  exact ⟨_,h.is hk⟩
 by_cases hx:∃ r∈rs,yQ [r]=.ok (.bl false)
 ·refine Zj _ ?_
  rw [Zv]
  exact wm _ rs hb2 hx _ _ (by omega)
 ·by_cases hz:((rs.length:Nat):Int)<1\/20<((rs.length:Nat):Int)
  ·refine Zj _ ?_
   rw [Zv]
   exact uM _ rs _ _ hz
  ·have hr:zF [.tup rs,.int 1,.int 20]=.ok (.bl true):=by
    rw [Zv]
    refine vi _ rs (fun r hr=>?_) _ _ (by omega) (by omega) (by omega)
    obtain ⟨b,e⟩:=hb2 r hr
    cases b
    ·exact absurd ⟨r,hr,e⟩ hx
    ·exact e
   cases rs with
   | nil=>cases ha
   | cons r0 l =>
    rw [Xk r0 l klen hr (fun r hr=>by obtain ⟨k,_,h⟩:=h r hr; rw [h.klen]; exact h.len) (by omega)]
    have:((r0::l).all fun r=>((klen r:Nat):Int)==(klen r0:Nat))=false:=by
     rw [List.all_eq_false]
     by_cases e:klen a=klen r0
     ·exact ⟨b,hb,by rw [beq_iff_eq]; omega⟩
     ·exact ⟨a,ha,by rw [beq_iff_eq]; omega⟩
    rw [this]
def nc:D->Nat
 | .tup [_,.tup ns]=>ns.length
 | _=>0
def ncs (ps:List D):Nat:=(ps.map nc).sum
inductive Bk:D->Nat->Prop
 | leaf:Bk (.tup [.str "leaf"]) 0
 | head {t:D} (h:Ws 1 12 t):Bk (.tup [.str "head",t]) 0
 | table {t:D} (h:Tb t):Bk (.tup [.str "table",t]) 0
 | text {ps:List D} (h1:1<=ps.length) (h2:ps.length<=200) (h:∀ p∈ps,Pr p):Bk (.tup [.str "text",.tup ps]) (ncs ps)
theorem Bk.imm {d:D}{n:Nat}(h:Bk d n):d.imm=true:=by
 cases h with
 | leaf=>rfl
 | head h=>show (true&&(_&&true))=true; rw [h.imm]; rfl
 | table h=>show (true&&(_&&true))=true; rw [h.imm]; rfl
 | text _ _ h=>show (true&&(D.imms _&&true))=true; rw [ya fun p hp=>(h p hp).imm]; rfl
theorem z0p:inD true (.int 2) (.tup [.int 1,.int 2])=.ok (.bl false):=wQ (by decide +kernel)
theorem z0M:inD true (.int 1) (.tup [.int 1,.int 2])=.ok (.bl false):=wQ (by decide +kernel)
theorem u6 (z:Str)(x:D)(c:Bool)(h1:z="head"->zm [x,.int 1,.int 12]=.ok (.bl c))(h2:z="text"->zS [x,.int 1,.int 200]=.ok (.bl c))(h3:z="table"->yr [x]=.ok (.bl c))(hz:z="head"\/z="text"\/z="table"):zq [.tup [.str z,x]]=.ok (.bl c):=by
 have e1:xx "tuple" (.tup [.str z,x])=.ok (.bl true):=rfl
 have e2:yh [.tup [.str z,x]]=.ok (.int 2):=rfl
 have e3:=z0p
 have e4:xx "str" (.str z)=.ok (.bl true):=rfl
 have e5:eqR false (.int 2) (.int 1)=.ok (.bl false):=by rw [zV]; rfl
 unfold zq jJ
 generalize zm=G1 at *
 generalize zS=G2 at *
 generalize yr=G3 at *
 rcases hz with rfl | rfl | rfl
 ·have h1:=h1 rfl
  have q1:eqR false (.str "head") (.str "head")=.ok (.bl true):=uY (by decide +kernel)
  simp -implicitDefEqProofs only [zk,zy,ze,zo,sIf,z7,eC,za,eUn,eL,z9,z3,zg,bOr,yk,vt,asB,R.ok_bind,tG,tR,tJ,tO,tI,tM,tN,tD,Nat.reduceSub,tX,Yv,xw,xB,if_true,if_false,tF,e1,e2,e3,e4,e5,q1,h1,sV]
 ·have h1:=h2 rfl
  have q1:eqR false (.str "text") (.str "head")=.ok (.bl false):=wQ (by decide +kernel)
  have q2:eqR false (.str "text") (.str "text")=.ok (.bl true):=uY (by decide +kernel)
  simp -implicitDefEqProofs only [zk,zy,ze,zo,sIf,z7,eC,za,eUn,eL,z9,z3,zg,bOr,yk,vt,asB,R.ok_bind,tG,tR,tJ,tO,tI,tM,tN,tD,Nat.reduceSub,tX,Yv,xw,xB,if_true,if_false,tF,e1,e2,e3,e4,e5,q1,q2,h1,sV]
 ·have h1:=h3 rfl
  have q1:eqR false (.str "table") (.str "head")=.ok (.bl false):=wQ (by decide +kernel)
  have q2:eqR false (.str "table") (.str "text")=.ok (.bl false):=wQ (by decide +kernel)
  have q3:eqR false (.str "table") (.str "table")=.ok (.bl true):=uY (by decide +kernel)
  simp -implicitDefEqProofs only [zk,zy,ze,zo,sIf,z7,eC,za,eUn,eL,z9,z3,zg,bOr,yk,vt,asB,R.ok_bind,tG,tR,tJ,tO,tI,tM,tN,tD,Nat.reduceSub,tX,Yv,xw,xB,if_true,if_false,tF,e1,e2,e3,e4,e5,q1,q2,q3,h1,sV]
def NB (d:D):Prop:=zq [d]=.ok (.bl false)/\d.imm=true
theorem U5:zq [.tup [.str "leaf"]]=.ok (.bl true):=uY (by decide +kernel)
theorem Bk.yes {d:D}{n:Nat}(h:Bk d n):zq [d]=.ok (.bl true):=by
 cases h with
 | leaf=>exact U5
 | head h=>exact u6 _ _ _ (fun _=>Zo h (by decide)) (fun h=>absurd h (by decide)) (fun h=>absurd h (by decide)) (.inl rfl)
 | table h=>exact u6 _ _ _ (fun h=>absurd h (by decide)) (fun h=>absurd h (by decide)) (fun _=>h.yes) (.inr (.inr rfl))
 | text h1 h2 h =>
  refine u6 _ _ _ (fun h=>absurd h (by decide)) (fun _=>?_) (fun h=>absurd h (by decide)) (.inr (.inl rfl))
  rw [WA]
  exact vi _ _ (fun p hp=>(h p hp).yes) _ _ (by omega) (by omega) (by omega)
end K06
namespace K06
open PySem PyProof.Rows L2
def bn:D->Nat
 | .tup [.str z,.tup ps]=>if z="text" then ncs ps else 0
 | _=>0
theorem Bk.bn {d:D}{n:Nat}(h:Bk d n):bn d=n:=by
 cases h with
 | leaf=>rfl
 | @head t h=>obtain ⟨ws,rfl,_⟩:=h; show (if ("head":Str)="text" then ncs ws else 0)=0; exact if_neg (by decide)
 | @table t h=>obtain ⟨k,rs,rfl,_⟩:=h; show (if ("table":Str)="text" then ncs rs else 0)=0; exact if_neg (by decide)
 | @text ps _ _ _=>show (if ("text":Str)="text" then ncs ps else 0)=ncs ps; exact if_pos rfl
theorem Ye (z:Str)(l:List D)(h:eqR true (.str z) (.str "text")=.ok (.bl true)):zW [.tup (.str z::l)]=.ok (.int 0):=by
 simp -implicitDefEqProofs only [zW,vn,yo,yV,yX,zk,zy,ze,zo,sIf,z7,eC,za,eL,z9,z3,zg,xb,asB,R.ok_bind,tG,tR,tJ,tO,tI,tM,tN,tD,Nat.reduceSub,tX,xw,if_true,h]
theorem Jm (ps:List D)(hl:ps.length<=1000)(h:∀ p∈ps,Pr p):zW [.tup [.str "text",.tup ps]]=.ok (.int (ncs ps:Nat)):=by
 have q1:eqR true (.str "text") (.str "text")=.ok (.bl false):=wQ (by decide +kernel)
 have k1:xi (yZ (Tgt.many [0,1]).asg (fun _=>.ok true) (eL yh (z3 (z7 1) z9)) [none,none]) (ps.map id)=.ok (ps.filterMap fun p=>some (D.int (nc p:Nat))):=xE fun p hp=>by
  obtain ⟨w,ns,rfl,_,_,_⟩:=h p hp
  have e:=vW ns
  have e2:nc (.tup [w,.tup ns])=ns.length:=rfl
  rw [e2]
  show yZ _ _ _ _ (.tup [w,.tup ns])=_
  have ea:(Tgt.many [0,1]).asg (.tup [w,.tup ns]) [none,none]=.ok [some w,some (.tup ns)]:=rfl
  unfold yZ
  generalize ((ns.length:Nat):Int)=l at *
  generalize yh=ln at *
  simp -implicitDefEqProofs only [ea,wj,z7,eL,z9,z3,R.ok_bind,tD,tE,if_true,e]
 rw [pM,wI] at k1
 have i1:Y4 (ps.map fun p=>D.int (nc p:Nat))=.ok (.lst (ps.map fun p=>D.int (nc p:Nat))):=vE (by rw [sO]; omega)
 have s1:ug [.lst (ps.map fun p=>D.int (nc p:Nat))]=.ok (.int (ncs ps:Nat)):=by
  have e:(ps.map fun p=>D.int (nc p:Nat))=(ps.map fun p=>((nc p:Nat):Int)).map D.int:=by rw [pF]; rfl
  rw [e,YF]
  congr 2
  unfold ncs
  clear k1 i1 e h hl
  induction ps with
  | nil=>rfl
  | cons p ps ih=>rw [tG,tG,rQ,rQ,ih]; omega
 generalize ((ncs ps:Nat):Int)=N at *
 generalize (ps.map fun p=>D.int (nc p:Nat))=LL at *
 unfold zW vn
 generalize ug=sm at *
 generalize yh=ln at *
 simp -implicitDefEqProofs only [yo,yV,yX,zk,zy,ze,zo,sIf,z7,eC,za,eL,z9,z3,zg,xb,asB,wF,R.ok_bind,tG,tR,tJ,tO,tI,tM,tN,tD,Nat.reduceSub,tX,xw,xB,if_false,tF,q1,k1,i1,s1]
theorem Bk.many {d:D}{n:Nat}(h:Bk d n):zW [d]=.ok (.int (n:Nat)):=by
 cases h with
 | leaf=>exact Ye "leaf" [] (uY (by decide +kernel))
 | head h=>exact Ye "head" _ (uY (by decide +kernel))
 | table h=>exact Ye "table" _ (uY (by decide +kernel))
 | text h1 h2 h=>exact Jm _ (by omega) h
theorem qi (d:D)(h:xx "list" d=.ok (.bl false)):zZ [d]=.ok (.bl false):=by
 unfold zZ xJ
 generalize zq=G1 at *
 generalize zW=G2 at *
 simp -implicitDefEqProofs only [yo,yV,yX,zk,zy,ze,zo,sIf,z7,eC,za,eUn,eL,z9,z3,zg,bOr,yk,xb,asB,R.ok_bind,tG,tR,tJ,tO,tI,tM,tN,tD,Nat.reduceSub,tX,if_true,h,rH]
theorem WV (ds:List D)(h:40<ds.length):zZ [.lst ds]=.ok (.bl false):=by
 have e1:xx "list" (.lst ds)=.ok (.bl true):=rfl
 have e3:decide (((ds.length:Nat):Int)>40)=true:=decide_eq_true (by omega)
 unfold zZ xJ
 generalize zq=G1 at *
 generalize zW=G2 at *
 have e2:yh [.lst ds]=.ok (.int (ds.length:Nat)):=rfl
 generalize ((ds.length:Nat):Int)=l at *
 simp -implicitDefEqProofs only [yo,yV,yX,zk,zy,ze,zo,sIf,z7,eC,za,eUn,eL,z9,z3,zg,bOr,yk,xb,asB,R.ok_bind,tG,tR,tJ,tO,tI,tM,tN,tD,Nat.reduceSub,tX,vG,if_true,if_false,tF,e1,e2,e3,sV]
theorem jy (ds:List D)(hl:ds.length<=1000)(h:∀ d∈ds,∃ b,zq [d]=.ok (.bl b)):∃ L,xi (yZ (Tgt.one 0).asg (fun _=>.ok true) (eL zq (z3 (z7 0) z9)) [none]) ds=.ok L/\Y4 L=.ok (.lst L)/\wV [.lst L]=.ok (.bl (ds.all fun d=>isT (zq [d]))):=by
 have k1:xi (yZ (Tgt.one 0).asg (fun _=>.ok true) (eL zq (z3 (z7 0) z9)) [none]) (ds.map id)=.ok (ds.filterMap fun d=>some (D.bl (isT (zq [d])))):=xE fun d hd=>by
  have h:=K8 (h d hd)
  show yZ _ _ _ _ d=_
  generalize isT (zq [d])=b at *
  unfold yZ
  generalize zq=G1 at *
  simp -implicitDefEqProofs only [z7,eL,z9,z3,Tgt.asg,R.ok_bind,tD,tH,if_true,wj,h]
 rw [pM,wI] at k1
 refine ⟨_,k1,vE (by rw [sO]; omega),?_⟩
 have e:(ds.map fun d=>D.bl (isT (zq [d])))=(ds.map fun d=>isT (zq [d])).map D.bl:=by rw [pF]; rfl
 rw [e,Zh,List.all_map]
 rfl
theorem VT (ds:List D)(hl:ds.length<=1000)(h:∀ d∈ds,(∃ n,Bk d n)\/NB d)(hx:∃ d∈ds,NB d):zZ [.lst ds]=.ok (.bl false):=by
 by_cases h40:40<ds.length
 ·exact WV ds h40
 obtain ⟨L,k1,i1,a1⟩:=jy ds hl fun d hd=>by
  rcases h d hd with ⟨n,h⟩ | h
  ·exact ⟨_,h.yes⟩
  ·exact ⟨_,h.1⟩
 have ef:(ds.all fun d=>isT (zq [d]))=false:=by
  rw [List.all_eq_false]
  obtain ⟨d,hd,h⟩:=hx
  exact ⟨d,hd,by rw [h.1]; decide⟩
 rw [ef] at a1
 have e1:xx "list" (.lst ds)=.ok (.bl true):=rfl
 have e3:decide (((ds.length:Nat):Int)>40)=false:=decide_eq_false (by omega)
 have e2:yh [.lst ds]=.ok (.int (ds.length:Nat)):=rfl
 have hs:wF (.lst ds)=.ok ds:=rfl
 unfold zZ xJ
 generalize zq=G1 at *
 generalize zW=G2 at *
 generalize wV=al at *
 generalize ((ds.length:Nat):Int)=l at *
 simp -implicitDefEqProofs only [yo,yV,yX,zk,zy,ze,zo,sIf,z7,eC,za,eUn,eL,z9,z3,zg,bOr,yk,xb,asB,wF,R.ok_bind,tG,tR,tJ,tO,tI,tM,tN,tD,Nat.reduceSub,tX,vG,if_true,if_false,tF,e1,e2,e3,k1,i1,a1,sV,rH]
def bns (ds:List D):Nat:=(ds.map bn).sum
theorem W6 (ds:List D)(hl:ds.length<=40)(h:∀ d∈ds,∃ n,Bk d n)(hn:bns ds<=60):zZ [.lst ds]=.ok (.bl true):=by
 obtain ⟨L,k1,i1,a1⟩:=jy ds (by omega) fun d hd=>by
  obtain ⟨n,h⟩:=h d hd
  exact ⟨_,h.yes⟩
 have ef:(ds.all fun d=>isT (zq [d]))=true:=by
  rw [rE]
  intro d hd
  obtain ⟨n,h⟩:=h d hd
  rw [h.yes]; rfl
 rw [ef] at a1
 have k2:xi (yZ (Tgt.one 0).asg (fun _=>.ok true) (eL zW (z3 (z7 0) z9)) [none]) (ds.map id)=.ok (ds.filterMap fun d=>some (D.int (bn d:Nat))):=xE fun d hd=>by
  obtain ⟨n,h⟩:=h d hd
  have hm:=h.many
  rw [h.bn]
  show yZ _ _ _ _ d=_
  generalize ((n:Nat):Int)=N at *
  unfold yZ
  generalize zW=G1 at *
  simp -implicitDefEqProofs only [z7,eL,z9,z3,Tgt.asg,R.ok_bind,tD,tH,if_true,wj,hm]
 rw [pM,wI] at k2
 have i2:Y4 (ds.map fun d=>D.int (bn d:Nat))=.ok (.lst (ds.map fun d=>D.int (bn d:Nat))):=vE (by rw [sO]; omega)
 have s2:ug [.lst (ds.map fun d=>D.int (bn d:Nat))]=.ok (.int (bns ds:Nat)):=by
  have e:(ds.map fun d=>D.int (bn d:Nat))=(ds.map fun d=>((bn d:Nat):Int)).map D.int:=by rw [pF]; rfl
  rw [e,YF]
  congr 2
  unfold bns
  clear k1 k2 i1 i2 a1 ef e h hl hn
  induction ds with
  | nil=>rfl
  | cons p ps ih=>rw [tG,tG,rQ,rQ,ih]; omega
 have e1:xx "list" (.lst ds)=.ok (.bl true):=rfl
 have e3:decide (((ds.length:Nat):Int)>40)=false:=decide_eq_false (by omega)
 have e4:decide (((bns ds:Nat):Int)<=60)=true:=decide_eq_true (by omega)
 have e2:yh [.lst ds]=.ok (.int (ds.length:Nat)):=rfl
 have hs:wF (.lst ds)=.ok ds:=rfl
 generalize ((bns ds:Nat):Int)=N at *
 generalize (ds.map fun d=>D.int (bn d:Nat))=LL at *
 unfold zZ xJ
 generalize zq=G1 at *
 generalize zW=G2 at *
 generalize wV=al at *
 generalize ug=sm at *
 generalize ((ds.length:Nat):Int)=l at *
 simp -implicitDefEqProofs only [yo,yV,yX,zk,zy,ze,zo,sIf,z7,eC,za,eUn,eL,z9,z3,zg,bOr,yk,xb,asB,wF,R.ok_bind,tG,tR,tJ,tO,tI,tM,tN,tD,Nat.reduceSub,tX,jv,vG,if_false,tF,e1,e2,e3,e4,k1,i1,a1,k2,i2,s2,sV]
theorem Up (d:D)(h:zZ [d]=.ok (.bl true)):zL [d]=.ok (.bl true):=by
 simp -implicitDefEqProofs only [zL,wN,zk,zy,ze,zo,sIf,z7,eC,eL,z9,z3,zg,yk,asB,R.ok_bind,tG,tR,tJ,tO,tI,tM,tN,tD,Nat.reduceSub,tX,if_false,tF,h,sV]
theorem Vr (d:D)(h:zZ [d]=.ok (.bl false)):zL [d]=.err "BadBlocks":=by
 have e:∀ τ,XS "BadBlocks" (z3 (eC (.str "blocks are a list of at most 40 blocks with at most 60 notes in all")) z9) τ=.err "BadBlocks":=fun τ=>by
  unfold XS
  simp -implicitDefEqProofs only [eC,z9,z3,R.ok_bind,tJ,tO,tX]
  rw [if_pos (by rw [sizeLine_eq]; decide)]
 simp -implicitDefEqProofs only [zL,wN,zk,zy,ze,zo,sIf,z7,eC,eL,z9,z3,zg,yk,asB,R.ok_bind,R.err_bind,tG,tR,tJ,tO,tI,tM,tN,tD,Nat.reduceSub,tX,if_true,h,rH,e]
theorem VN (TT:Tn->R Fl)(d:D)(h:TT [some d,none]=.ok (.rt (.bl true))):zy 2 (ze TT (zo (eC (.bl false)))) [d]=.ok (.bl true):=by
 simp -implicitDefEqProofs only [zy,ze,zo,eC,R.ok_bind,tG,tR,tJ,tO,tS,tI,tM,tN,Nat.reduceSub,tX,h]
theorem vD (d:D)(h:zZ [d]=.ok (.bl false)):zA [d]=.ok (.bl true):=by
 have hT:zA=zy 2 (ze (j3 zL (z3 (z7 0) z9) xh) (zo (eC (.bl false)))):=rfl
 rw [hT]
 refine VN _ d (z0v (ds:=[d]) ?_ (Vr d h) (if_pos rfl))
 simp -implicitDefEqProofs only [z7,z9,z3,R.ok_bind,tD]
mutual
def dp:Nat->D->Bool
 | _,.str _=>true
 | 0,_=>false
 | n+1,.tup xs=>dps n xs
 | _,_=>false
def dps:Nat->List D->Bool
 | _,[]=>true
 | n,x::xs=>dp n x&&dps n xs
end
end K06
namespace K06
open PySem PyProof.Rows L2
theorem jb (ns:List Int)(k:Int)(hk:0<=k)(hl:ns.length<=63):∃ v,zB [.frl (ns.map .int),.int k]=.ok (.int v)/\0<=v/\v<2147483647:=by
 by_cases h:k<(ns.length:Int)
 ·have hm:k.toNat<ns.length:=by omega
  have hix:ixD (.frl (ns.map .int)) (.int k)=.ok (.int ns[k.toNat]):=J9 (Wu hk (by rw [sT,rB hm]; rfl))
  have e1:decide (k<(ns.length:Int))=true:=decide_eq_true h
  refine ⟨(ns[k.toNat]+7919*k+17)*48271%2147483647,?_,pK _ (by decide),Int.emod_lt_of_pos _ (by decide)⟩
  generalize ns[k.toNat]=v at *
  simp -implicitDefEqProofs only [zB,wW,zk,zy,ze,zp,zo,sIf,z7,eC,za,eL,z9,z3,zg,asB,R.ok_bind,tG,tR,tJ,tO,tS,tI,tM,tN,tD,tE,tH,tK,Nat.reduceAdd,Nat.reduceSub,tX,yP,qw,zQ,YS,if_true,Int.reduceLT,Int.reduceNeg,sO,e1,hix,qT,uP]
 ·have e1:decide (k<(ns.length:Int))=false:=decide_eq_false h
  refine ⟨(0+7919*k+17)*48271%2147483647,?_,pK _ (by decide),Int.emod_lt_of_pos _ (by decide)⟩
  simp -implicitDefEqProofs only [zB,wW,zk,zy,ze,zp,zo,sIf,z7,eC,za,eL,z9,z3,zg,asB,R.ok_bind,tG,tR,tJ,tO,tS,tI,tM,tN,tD,tE,tH,tK,Nat.reduceAdd,Nat.reduceSub,tX,yP,qw,zQ,YS,if_false,tF,Int.reduceLT,Int.reduceNeg,sO,e1,qT,uP]
theorem next (n:Int):∃ v,y9 [.int n]=.ok (.int v)/\0<=v:=by
 refine ⟨(n*69621+11)%2147483629,?_,pK _ (by decide)⟩
 simp -implicitDefEqProofs only [y9,qB,zy,zo,z7,eC,za,R.ok_bind,tG,tR,tJ,tO,tI,tM,tN,tD,Nat.reduceSub,tX,yP,zQ,Int.reduceLT,Int.reduceNeg,uP]
def bW:Tn->R Fl:=(ze (zp 5 (za zU (za zU (za zu (z7 0) (eC (.int 31))) (za xV (za xV (z7 4) (z7 4)) (za zU (eC (.int 1)) (za zz (z7 0) (eC (.int 17)))))) (z7 4))) (zp 3 (za zU (z7 3) (za ixD (z7 1) (za zz (z7 5) (eC (.int 74)))))))
def IFW:Tn->R Fl:=(sIf (zg (za (eqR false) (za zz (za zu (z7 0) (eC (.int 5))) (eC (.int 24))) (eC (.int 1)))) (zp 2 (za zU (eC (.int 1)) (za zz (za zu (z7 0) (eC (.int 120))) (eC (.int 40))))) zk)
def TW (B:Str):Tn->R Fl:=(ze (zp 1 (eC (.str B))) (ze (zp 2 (za zU (eC (.int 1)) (za zz (z7 0) (eC (.int 5))))) (ze IFW (ze (zp 3 (eC (.str ""))) (ze (xv (iL x8 (z3 (z7 2) z9)) (.one 4) bW) (zo (z7 3)))))))
theorem tW:yw=zy 6 (TW Z2):=rfl
theorem z00 (B:Str)(hB:B.length=74)(pB:∀ c∈B.cps.toList,okS c)(n j:Int)(j0:0<=j)(j1:j<100)(cs:List Nat)(hc:cs.length<=100)(x2 x5:Option D):∃ c y5,okS c /\
  bW [some (.int n),some (.str B),x2,some (.str (S cs)),some (.int j),x5]=.ok (.nx [some (.int n),some (.str B),x2,some (.str (S (cs++[c]))),some (.int j),y5]):=by
 have d31:zu (.int n) (.int 31)=.ok (.int (n/31)):=zG (by decide) (by decide)
 have m17:zz (.int n) (.int 17)=.ok (.int (n%17)):=zQ (by decide)
 have q1:xV (.int j) (.int j)=.ok (.int (j*j)):=uP (by omega) (by omega)
 have q2:xV (.int (j*j)) (.int (1+n%17))=.ok (.int (j*j*(1+n%17))):=uP (by omega) (by omega)
 generalize hA:n/31+j*j*(1+n%17)+j=A
 have m74:zz (.int A) (.int 74)=.ok (.int (A%74)):=zQ (by decide)
 obtain ⟨c,e,hc1⟩:=K4 (z:=B) (i:=A%74) (p:=fun c=>okS c) (by omega) (by omega) (by omega) pB
 have ea:zU (.str (S cs)) (.str (one c))=.ok (.str (S (cs++[c]))):=by
  have:zU (.str (S cs)) (.str (one c))=.ok (.str (S cs++one c)):=if_pos (by
   show (S cs).length+1<=_
   rw [Xi,sizeLine_eq]; omega)
  rw [this]
  exact congrArg (fun z=>R.ok (D.str z)) (Kd cs [c])
 refine ⟨c,some (.int A),hc1,?_⟩
 subst hA
 generalize S (cs++[c])=Z at *
 generalize S cs=Y at *
 generalize one c=C at *
 generalize n/31=u at *
 generalize n%17=w at *
 generalize j*j=jj at *
 generalize jj*(1+w)=ww at *
 generalize (u+ww+j)%74=yy at *
 simp -implicitDefEqProofs only [bW,ze,zp,z7,eC,za,R.ok_bind,tD,tE,tH,tK,yP,d31,m17,q1,q2,m74,e,ea]
theorem KR (n:Int):∃ z,yw [.int n]=.ok (.str z)/\Wd (.str z):=by
 have d5:zu (.int n) (.int 5)=.ok (.int (n/5)):=zG (by decide) (by decide)
 have d120:zu (.int n) (.int 120)=.ok (.int (n/120)):=zG (by decide) (by decide)
 have m5:zz (.int n) (.int 5)=.ok (.int (n%5)):=zQ (by decide)
 have m24:zz (.int (n/5)) (.int 24)=.ok (.int (n/5%24)):=zQ (by decide)
 have m40:zz (.int (n/120)) (.int 40)=.ok (.int (n/120%40)):=zQ (by decide)
 obtain ⟨sz,hs,s0,s1⟩:∃ sz:Int,(∀ x1,IFW [some (.int n),x1,some (.int (1+n%5)),none,none,none]=.ok (.nx [some (.int n),x1,some (.int sz),none,none,none]))/\1<=sz/\sz<=40:=by
  by_cases hq:n/5%24=1
  ·have z:(n/5%24==1)=true:=beq_iff_eq.mpr hq
   refine ⟨1+n/120%40,fun x1=>?_,by omega,by omega⟩
   simp -implicitDefEqProofs only [IFW,zk,zp,sIf,z7,eC,za,zg,asB,R.ok_bind,tD,tH,tK,yP,zV,if_true,if_false,tF,d5,m24,z,d120,m40]
  ·have z:(n/5%24==1)=false:=beq_false_of_ne hq
   refine ⟨1+n%5,fun x1=>?_,by omega,by omega⟩
   simp -implicitDefEqProofs only [IFW,zk,zp,sIf,z7,eC,za,zg,asB,R.ok_bind,tD,tH,tK,yP,zQ,zG,zV,if_false,tF,Int.reduceLT,d5,m24,z]
 have e1:x8 [D.int sz]=.ok (rng 0 sz.toNat):=vx (by omega) (by omega)
 obtain ⟨cs,y4,y5,g1,g2,h⟩:∃ (cs:List Nat) (y4 y5:Option D),cs.length=sz.toNat/\(∀ c∈cs,okS c)/\vJ (Tgt.one 4).asg bW (rng 0 sz.toNat) [some (.int n),some (.str Z2),some (.int sz),some (.str ""),none,none]=.ok (.nx [some (.int n),some (.str Z2),some (.int sz),some (.str (S cs)),y4,y5]):=by
  obtain ⟨τ',e2,cs,y4,y5,g1,g2,h⟩:=xo (asg:=(Tgt.one 4).asg) (body:=bW)
   (fun i τ=>∃ (cs:List Nat) (y4 y5:Option D),cs.length=i/\(∀ c∈cs,okS c)/\τ=[some (.int n),some (.str Z2),some (.int sz),some (.str (S cs)),y4,y5]) (rng 0 sz.toNat) 0
   [some (.int n),some (.str Z2),some (.int sz),some (.str ""),none,none] ⟨[],none,none,rfl,fun c hc=>(nomatch hc),rfl⟩ (fun i q τ hd ⟨cs,y4,y5,l1,l2,h⟩=>by
    obtain ⟨hi,rfl⟩:=vA hd
    subst h
    obtain ⟨c,z5,cl,hb⟩:=z00 Z2 Ji K6 n ((0:Int)+(i:Nat)) (by omega) (by omega) cs (by omega) (some (.int sz)) y5
    refine ⟨_,_,rfl,.inl hb,cs++[c],some (.int ((0:Int)+(i:Nat))),z5,by rw [tZ,l1]; rfl,fun x hx=>?_,rfl⟩
    rcases sC.mp hx with z | z
    ·exact l2 x z
    ·rw [sL.mp z]; exact cl)
  exact ⟨cs,y4,y5,by rw [g1,vy]; omega,g2,by rw [e2,h]⟩
 have eF:xv (iL x8 (z3 (z7 2) z9)) (.one 4) bW [some (.int n),some (.str Z2),some (.int sz),some (.str ""),none,none]=_:=u4 (by simp -implicitDefEqProofs only [z7,z9,z3,iL,R.ok_bind,tD,tE,e1]) h
 refine ⟨S cs,?_,?_,_,rfl⟩
 ·rw [tW]
  unfold TW
  generalize Z2=B at *
  generalize xv (iL x8 (z3 (z7 2) z9)) (.one 4) bW=SF at *
  generalize IFW=SI at *
  generalize S cs=Z at *
  have hs:=hs (some (.str B))
  generalize n%5=y at *
  simp -implicitDefEqProofs only [zy,ze,zp,zo,z7,eC,za,R.ok_bind,tG,tR,tJ,tO,tS,tI,tM,tN,tD,tE,tH,tK,Nat.reduceSub,tX,yP,m5,hs,eF]
 ·rw [ZH cs (by omega) (by omega)]
  have:(cs.all fun c=>decide (okS c))=true:=by
   rw [rE]
   exact fun c hc=>decide_eq_true (g2 c hc)
  rw [this]
def bV:Tn->R Fl:=(ze (zp 0 (eL y9 (z3 (z7 0) z9))) (vN 4 (eL yw (z3 (za zu (z7 0) (eC (.int 3))) z9))))
def IFV:Tn->R Fl:=(sIf (zg (za (eqR false) (za zz (za zu (z7 0) (eC (.int 3))) (eC (.int 20))) (eC (.int 1)))) (zp 3 (z7 2)) zk)
def TV:Tn->R Fl:=(ze (zp 3 (za zU (z7 1) (za zz (z7 0) (eC (.int 3))))) (ze IFV (ze (zp 4 (eL (fun ds=>.ok (.lst ds)) z9)) (ze (xv (iL x8 (z3 (eL uK (z3 (z7 2) (z3 (z7 3) z9))) z9)) (.one 5) bV) (zo (eL yn (z3 (z7 4) z9)))))))
theorem tV:zI=zy 6 TV:=rfl
theorem JR (n:Int)(L:List D)(hL:L.length<1000)(x1 x2 x3 x5:Option D):∃ n' w,Wd w/\bV [some (.int n),x1,x2,x3,some (.lst L),x5]=.ok (.nx [some (.int n'),x1,x2,x3,some (.lst (L++[w])),x5]):=by
 obtain ⟨v,hv,_⟩:=next n
 have d3:zu (.int v) (.int 3)=.ok (.int (v/3)):=zG (by decide) (by decide)
 obtain ⟨z,hz,wz⟩:=KR (v/3)
 refine ⟨v,.str z,wz,?_⟩
 have hL:L.length<16777216:=by omega
 unfold bV
 generalize y9=G1 at *
 generalize yw=G2 at *
 generalize v/3=y at *
 simp -implicitDefEqProofs only [wL,wD,ub,ze,zp,z7,eC,za,eL,z9,z3,R.ok_bind,tD,tE,tH,tK,hv,d3,hz,hL]
theorem Wo (n:Int)(lo hi:Nat)(h1:lo<=hi)(h2:hi<=100):∃ t,zI [.int n,.int (lo:Nat),.int (hi:Nat)]=.ok t/\Ws lo hi t:=by
 have d3:zu (.int n) (.int 3)=.ok (.int (n/3)):=zG (by decide) (by decide)
 have m3:zz (.int n) (.int 3)=.ok (.int (n%3)):=zQ (by decide)
 have m20:zz (.int (n/3)) (.int 20)=.ok (.int (n/3%20)):=zQ (by decide)
 obtain ⟨sz,hs,s0⟩:∃ sz:Int,IFV [some (.int n),some (.int (lo:Nat)),some (.int (hi:Nat)),some (.int ((lo:Nat)+n%3)),none,none]=.ok (.nx [some (.int n),some (.int (lo:Nat)),some (.int (hi:Nat)),some (.int sz),none,none])/\(lo:Int)<=sz:=by
  generalize hlo:((lo:Nat):Int)=LO at *
  generalize hhi:((hi:Nat):Int)=HI at *
  by_cases hq:n/3%20=1
  ·have z:(n/3%20==1)=true:=beq_iff_eq.mpr hq
   refine ⟨HI,?_,by omega⟩
   simp -implicitDefEqProofs only [IFV,zk,zp,sIf,z7,eC,za,zg,asB,R.ok_bind,tD,tE,tH,tK,zV,if_true,if_false,tF,d3,m20,z]
  ·have z:(n/3%20==1)=false:=beq_false_of_ne hq
   refine ⟨LO+n%3,?_,by omega⟩
   simp -implicitDefEqProofs only [IFV,zk,zp,sIf,z7,eC,za,zg,asB,R.ok_bind,tD,tE,tH,tK,zV,if_false,tF,d3,m20,z]
 obtain ⟨m,em,m1,m2⟩:∃ m:Nat,uK [.int (hi:Nat),.int sz]=.ok (.int (m:Nat))/\lo<=m/\m<=hi:=by
  by_cases h:sz<(hi:Nat)
  ·refine ⟨sz.toNat,?_,by omega,by omega⟩
   show R.ok (D.int (if sz<(hi:Nat) then sz else (hi:Nat)))=_
   rw [if_pos h,rL (by omega)]
  ·refine ⟨hi,?_,by omega,by omega⟩
   show R.ok (D.int (if sz<(hi:Nat) then sz else (hi:Nat)))=_
   rw [if_neg h]
 have e1:x8 [D.int (m:Nat)]=.ok (rng 0 m):=vx (by omega) (by omega)
 obtain ⟨n',ws,y5,g1,g2,h⟩:∃ (n':Int) (ws:List D) (y5:Option D),ws.length=m/\(∀ w∈ws,Wd w)/\vJ (Tgt.one 5).asg bV (rng 0 m) [some (.int n),some (.int (lo:Nat)),some (.int (hi:Nat)),some (.int sz),some (.lst []),none]=.ok (.nx [some (.int n'),some (.int (lo:Nat)),some (.int (hi:Nat)),some (.int sz),some (.lst ws),y5]):=by
  obtain ⟨τ',e2,n',ws,y5,g1,g2,h⟩:=xo (asg:=(Tgt.one 5).asg) (body:=bV)
   (fun i τ=>∃ (n':Int) (ws:List D) (y5:Option D),ws.length=i/\(∀ w∈ws,Wd w)/\τ=[some (.int n'),some (.int (lo:Nat)),some (.int (hi:Nat)),some (.int sz),some (.lst ws),y5]) (rng 0 m) 0
   _ ⟨n,[],none,rfl,fun c hc=>(nomatch hc),rfl⟩ (fun i q τ hd ⟨n',ws,y5,l1,l2,h⟩=>by
    obtain ⟨hi',rfl⟩:=vA hd
    subst h
    obtain ⟨v,w,hw,hb⟩:=JR n' ws (by omega) (some (.int (lo:Nat))) (some (.int (hi:Nat))) (some (.int sz)) (some (.int ((0:Int)+(i:Nat))))
    refine ⟨_,_,rfl,.inl hb,v,ws++[w],_,by rw [tZ,l1]; rfl,fun x hx=>?_,rfl⟩
    rcases sC.mp hx with z | z
    ·exact l2 x z
    ·rw [sL.mp z]; exact hw)
  exact ⟨n',ws,y5,by rw [g1,vy]; omega,g2,by rw [e2,h]⟩
 refine ⟨.tup ws,?_,ws,rfl,by omega,by omega,g2⟩
 have im:yn [.lst ws]=.ok (.tup ws):=if_pos (ya fun w hw=>(g2 w hw).imm)
 generalize ((lo:Nat):Int)=LO at *
 generalize ((hi:Nat):Int)=HI at *
 have eF:xv (iL x8 (z3 (eL uK (z3 (z7 2) (z3 (z7 3) z9))) z9)) (.one 5) bV [some (.int n),some (.int LO),some (.int HI),some (.int sz),some (.lst []),none]=_:=u4 (by simp -implicitDefEqProofs only [z7,eL,z9,z3,iL,R.ok_bind,tD,tE,em,e1]) h
 rw [tV]
 unfold TV
 generalize xv (iL x8 (z3 (eL uK (z3 (z7 2) (z3 (z7 3) z9))) z9)) (.one 5) bV=SF at *
 generalize IFV=SI at *
 generalize n%3=y at *
 simp -implicitDefEqProofs only [zy,ze,zp,zo,z7,eC,za,eL,z9,z3,R.ok_bind,tG,tR,tJ,tO,tS,tI,tM,tN,tD,tE,tH,tK,Nat.reduceAdd,Nat.reduceSub,tX,yP,m3,hs,eF,im]
end K06
namespace K06
open PySem PyProof.Rows L2
def bN:Tn->R Fl:=(sIf (vP (zg (za gtD (z7 1) (eC (.int 0)))) (zg (za ltD (z7 2) (eC (.int 200))))) (ze (zp 1 (za jH (z7 1) (eC (.int 1)))) (vN 5 (eL zI (z3 (za zu (z7 0) (za zU (eC (.int 49)) (z7 6))) (z3 (eC (.int 1)) (z3 (eC (.int 30)) z9)))))) zk)
def LN:Tn->R Fl:=(xv (iL x8 (z3 (za ixD (eL (fun ds=>.ok (.lst ds)) (z3 (eC (.int 0)) (z3 (eC (.int 0)) (z3 (eC (.int 0)) (z3 (eC (.int 1)) (z3 (eC (.int 1)) (z3 (eC (.int 2)) (z3 (eC (.int 3)) z9)))))))) (za zz (za zu (z7 0) (eC (.int 7))) (eC (.int 7)))) z9)) (.one 6) bN)
def bP:Tn->R Fl:=(ze (zp 0 (eL y9 (z3 (z7 0) z9))) (ze (zp 5 (eL (fun ds=>.ok (.lst ds)) z9)) (ze LN (vN 3 (eL (fun ds=>.ok (.tup ds)) (z3 (eL yw (z3 (za zz (za zu (z7 0) (eC (.int 5))) (za jH (eC (.int 1000003)) (za xV (eC (.int 999000)) (za zu (z7 2) (eC (.int 200)))))) z9)) (z3 (eL yn (z3 (z7 5) z9)) z9)))))))
def IFP:Tn->R Fl:=(sIf (zg (za (eqR false) (za zz (za zu (z7 0) (eC (.int 6))) (eC (.int 60))) (eC (.int 1)))) (zp 2 (eC (.int 200))) zk)
def TP:Tn->R Fl:=(ze (zp 2 (za zU (eC (.int 1)) (za zz (z7 0) (eC (.int 6))))) (ze IFP (ze (zp 3 (eL (fun ds=>.ok (.lst ds)) z9)) (ze (xv (iL x8 (z3 (z7 2) z9)) (.one 4) bP) (zo (eL yn (z3 (z7 3) z9)))))))
theorem tP:xq=zy 7 TP:=rfl
theorem Kw (n m k:Int)(room:Nat)(hk:0<=k)(hk2:k<=10)(L:List D)(hL:L.length<1000)(hN:∀ t∈L,Nt t)(x3 x4:Option D):∃ (room':Nat) (L':List D),room'+L'.length=room+L.length/\L'.length<=L.length+1/\(∀ t∈L',Nt t) /\
  bN [some (.int n),some (.int (room:Nat)),some (.int m),x3,x4,some (.lst L),some (.int k)]=.ok (.nx [some (.int n),some (.int (room':Nat)),some (.int m),x3,x4,some (.lst L'),some (.int k)]):=by
 have dk:zu (.int n) (.int (49+k))=.ok (.int (n/(49+k))):=zG (by omega) (by omega)
 obtain ⟨t,ht,nt⟩:=Wo (n/(49+k)) 1 30 (by decide) (by decide)
 have ht:zI [.int (n/(49+k)),.int 1,.int 30]=.ok t:=ht
 have hL:L.length<16777216:=by omega
 by_cases h1:0<room
 ·have e1:decide (((room:Nat):Int)>0)=true:=decide_eq_true (by omega)
  by_cases h2:m<200
  ·have e2:decide (m<200)=true:=decide_eq_true h2
   refine ⟨room-1,L++[t],by rw [tZ]; show _+(_+1)=_; omega,by rw [tZ]; exact sD _,fun x hx=>?_,?_⟩
   ·rcases sC.mp hx with z | z
    ·exact hN x z
    ·rw [sL.mp z]; exact nt
   ·have er:((room:Nat):Int)-1=((room-1:Nat):Int):=by omega
    rw [<- er]
    unfold bN
    generalize ((room:Nat):Int)=r at *
    generalize zI=G1 at *
    generalize n/(49+k)=y at *
    simp -implicitDefEqProofs only [wL,wD,ub,zk,ze,zp,sIf,z7,eC,za,eL,z9,z3,zg,vP,asB,R.ok_bind,tD,tE,tH,tK,yP,vQ,qw,vG,if_true,e1,e2,dk,ht,hL]
  ·have e2:decide (m<200)=false:=decide_eq_false h2
   refine ⟨room,L,rfl,by omega,hN,?_⟩
   unfold bN
   generalize ((room:Nat):Int)=r at *
   generalize zI=G1 at *
   simp -implicitDefEqProofs only [wL,wD,zk,ze,zp,sIf,z7,eC,za,eL,z9,z3,zg,vP,asB,R.ok_bind,tD,tE,tH,tK,yP,vQ,qw,vG,if_true,if_false,tF,e1,e2]
 ·have e1:decide (((room:Nat):Int)>0)=false:=decide_eq_false (by omega)
  refine ⟨room,L,rfl,by omega,hN,?_⟩
  unfold bN
  generalize ((room:Nat):Int)=r at *
  generalize zI=G1 at *
  simp -implicitDefEqProofs only [wL,wD,zk,ze,zp,sIf,z7,eC,za,eL,z9,z3,zg,vP,asB,R.ok_bind,tD,tE,tH,tK,yP,vQ,qw,vG,if_false,tF,e1]
theorem K3 (y:Int)(h0:0<=y)(h1:y<7):∃ c:Nat,c<=3/\ixD (.lst [.int 0,.int 0,.int 0,.int 1,.int 1,.int 2,.int 3]) (.int y)=.ok (.int (c:Nat)):=by
 have:y=0\/y=1\/y=2\/y=3\/y=4\/y=5\/y=6:=by omega
 rcases this with rfl | rfl | rfl | rfl | rfl | rfl | rfl
 ·exact ⟨0,by decide,rfl⟩
 ·exact ⟨0,by decide,rfl⟩
 ·exact ⟨0,by decide,rfl⟩
 ·exact ⟨1,by decide,rfl⟩
 ·exact ⟨1,by decide,rfl⟩
 ·exact ⟨2,by decide,rfl⟩
 ·exact ⟨3,by decide,rfl⟩
theorem Kb (n m:Int)(room:Nat)(x3 x4 x6:Option D):∃ (room':Nat) (L:List D) (y6:Option D),room'+L.length=room/\L.length<=3/\(∀ t∈L,Nt t) /\
  LN [some (.int n),some (.int (room:Nat)),some (.int m),x3,x4,some (.lst []),x6]=.ok (.nx [some (.int n),some (.int (room':Nat)),some (.int m),x3,x4,some (.lst L),y6]):=by
 have d7:zu (.int n) (.int 7)=.ok (.int (n/7)):=zG (by decide) (by decide)
 have m7:zz (.int (n/7)) (.int 7)=.ok (.int (n/7%7)):=zQ (by decide)
 obtain ⟨c,hc,ec⟩:=K3 (n/7%7) (by omega) (by omega)
 have e1:x8 [D.int (c:Nat)]=.ok (rng 0 c):=vx (by omega) (by omega)
 obtain ⟨τ',e2,room',L,y6,g1,g2,g3,h⟩:=xo (asg:=(Tgt.one 6).asg) (body:=bN)
  (fun i τ=>∃ (room':Nat) (L:List D) (y6:Option D),room'+L.length=room/\L.length<=i/\(∀ t∈L,Nt t)/\τ=[some (.int n),some (.int (room':Nat)),some (.int m),x3,x4,some (.lst L),y6]) (rng 0 c) 0
  _ ⟨room,[],x6,rfl,sD _,fun c hc=>(nomatch hc),rfl⟩ (fun i q τ hd ⟨room',L,y6,l1,l2,l3,h⟩=>by
   obtain ⟨hi',rfl⟩:=vA hd
   subst h
   obtain ⟨r2,L2,a1,a2,a3,hb⟩:=Kw n m ((0:Int)+(i:Nat)) room' (by omega) (by omega) L (by omega) l3 x3 x4
   exact ⟨_,_,rfl,.inl hb,r2,L2,_,by omega,by omega,a3,rfl⟩)
 rw [vy] at g2
 refine ⟨room',L,y6,g1,by omega,g3,?_⟩
 rw [h] at e2
 refine u4 ?_ e2
 generalize ((room:Nat):Int)=r at *
 generalize n/7%7=y at *
 generalize ((c:Nat):Int)=cc at *
 generalize rng 0 c=rr at *
 simp -implicitDefEqProofs only [z7,eC,za,eL,z9,z3,iL,R.ok_bind,tD,d7,m7,ec,e1]
theorem KA (n m:Int)(hm0:0<=m)(hm:m<=200)(room:Nat)(L:List D)(hL:L.length<1000)(x4 x5 x6:Option D):∃ (n':Int) (room':Nat) (p:D) (y5 y6:Option D),room'+nc p=room/\Pr p /\
  bP [some (.int n),some (.int (room:Nat)),some (.int m),some (.lst L),x4,x5,x6]=.ok (.nx [some (.int n'),some (.int (room':Nat)),some (.int m),some (.lst (L++[p])),x4,y5,y6]):=by
 obtain ⟨v,hv,_⟩:=next n
 obtain ⟨room',ns,y6,g1,g2,g3,h⟩:=Kb v m room (some (.lst L)) x4 x6
 have d5:zu (.int v) (.int 5)=.ok (.int (v/5)):=zG (by decide) (by decide)
 have d2:zu (.int m) (.int 200)=.ok (.int (m/200)):=zG (by decide) (by decide)
 have q1:xV (.int 999000) (.int (m/200))=.ok (.int (999000*(m/200))):=qT (by decide) (by decide)
 have mq:zz (.int (v/5)) (.int (1000003-999000*(m/200)))=.ok (.int (v/5%(1000003-999000*(m/200)))):=zQ (by omega)
 obtain ⟨z,hz,wz⟩:=KR (v/5%(1000003-999000*(m/200)))
 have im:yn [.lst ns]=.ok (.tup ns):=if_pos (ya fun w hw=>(g3 w hw).imm)
 refine ⟨v,room',.tup [.str z,.tup ns],some (.lst ns),y6,g1,⟨.str z,ns,rfl,wz,g2,g3⟩,?_⟩
 have hL:L.length<16777216:=by omega
 unfold bP
 generalize LN=SL at *
 generalize y9=G1 at *
 generalize yw=G2 at *
 generalize ((room:Nat):Int)=r at *
 generalize ((room':Nat):Int)=r' at *
 generalize v/5%(1000003-999000*(m/200))=yy at *
 generalize v/5=y5 at *
 generalize 999000*(m/200)=y7 at *
 generalize m/200=y8 at *
 simp -implicitDefEqProofs only [wL,wD,ub,ze,zp,z7,eC,za,eL,z9,z3,R.ok_bind,tD,tE,tH,tK,vQ,hv,h,d5,d2,q1,mq,hz,im,hL]
theorem VQ (L:List D)(p:D):ncs (L++[p])=ncs L+nc p:=by
 unfold ncs
 rw [List.map_append,List.sum_append,tG,tR,rQ,List.sum_nil]
 rfl
theorem JT (n:Int)(room:Nat):∃ ps,xq [.int n,.int (room:Nat)]=.ok (.tup ps)/\1<=ps.length/\ps.length<=200/\(∀ p∈ps,Pr p)/\ncs ps<=room:=by
 have d6:zu (.int n) (.int 6)=.ok (.int (n/6)):=zG (by decide) (by decide)
 have m6:zz (.int n) (.int 6)=.ok (.int (n%6)):=zQ (by decide)
 have m60:zz (.int (n/6)) (.int 60)=.ok (.int (n/6%60)):=zQ (by decide)
 obtain ⟨sz,hs,s0,s1⟩:∃ sz:Int,(IFP [some (.int n),some (.int (room:Nat)),some (.int (1+n%6)),none,none,none,none]=.ok (.nx [some (.int n),some (.int (room:Nat)),some (.int sz),none,none,none,none]))/\1<=sz/\sz<=200:=by
  generalize ((room:Nat):Int)=r at *
  by_cases hq:n/6%60=1
  ·have z:(n/6%60==1)=true:=beq_iff_eq.mpr hq
   refine ⟨200,?_,by omega,by omega⟩
   simp -implicitDefEqProofs only [IFP,zk,zp,sIf,z7,eC,za,zg,asB,R.ok_bind,tD,tH,tK,zV,if_true,if_false,tF,d6,m60,z]
  ·have z:(n/6%60==1)=false:=beq_false_of_ne hq
   refine ⟨1+n%6,?_,by omega,by omega⟩
   simp -implicitDefEqProofs only [IFP,zk,zp,sIf,z7,eC,za,zg,asB,R.ok_bind,tD,tH,tK,zV,if_false,tF,d6,m60,z]
 have e1:x8 [D.int sz]=.ok (rng 0 sz.toNat):=vx (by omega) (by omega)
 obtain ⟨τ',e2,n',room',ps,y4,y5,y6,g1,g2,g3,h⟩:=xo (asg:=(Tgt.one 4).asg) (body:=bP)
  (fun i τ=>∃ (n':Int) (room':Nat) (ps:List D) (y4 y5 y6:Option D),room'+ncs ps=room/\ps.length=i/\(∀ p∈ps,Pr p)/\τ=[some (.int n'),some (.int (room':Nat)),some (.int sz),some (.lst ps),y4,y5,y6]) (rng 0 sz.toNat) 0
  [some (.int n),some (.int (room:Nat)),some (.int sz),some (.lst []),none,none,none] ⟨n,room,[],none,none,none,rfl,rfl,fun c hc=>(nomatch hc),rfl⟩ (fun i q τ hd ⟨n',room',ps,y4,y5,y6,l1,l2,l3,h⟩=>by
   obtain ⟨hi',rfl⟩:=vA hd
   subst h
   obtain ⟨n2,r2,p,z5,z6,a1,a2,hb⟩:=KA n' sz (by omega) (by omega) room' ps (by omega) (some (.int ((0:Int)+(i:Nat)))) y5 y6
   refine ⟨_,_,rfl,.inl hb,n2,r2,ps++[p],_,z5,z6,by rw [VQ]; omega,by rw [tZ,l2]; rfl,fun x hx=>?_,rfl⟩
   rcases sC.mp hx with z | z
   ·exact l3 x z
   ·rw [sL.mp z]; exact a2)
 rw [vy] at g2
 refine ⟨ps,?_,by omega,by omega,g3,by omega⟩
 have im:yn [.lst ps]=.ok (.tup ps):=if_pos (ya fun w hw=>(g3 w hw).imm)
 rw [h] at e2
 generalize ((room:Nat):Int)=r at *
 generalize ((room':Nat):Int)=r' at *
 have eF:xv (iL x8 (z3 (z7 2) z9)) (.one 4) bP [some (.int n),some (.int r),some (.int sz),some (.lst []),none,none,none]=_:=u4 (by simp -implicitDefEqProofs only [z7,z9,z3,iL,R.ok_bind,tD,tE,e1]) e2
 rw [tP]
 unfold TP
 generalize xv (iL x8 (z3 (z7 2) z9)) (.one 4) bP=SF at *
 generalize IFP=SI at *
 generalize n%6=y at *
 simp -implicitDefEqProofs only [zy,ze,zp,zo,z7,eC,za,eL,z9,z3,R.ok_bind,tG,tR,tJ,tO,tS,tI,tM,tN,tD,tE,tH,tK,Nat.reduceAdd,Nat.reduceSub,tX,yP,m6,hs,eF,im]
def bC:Tn->R Fl:=(ze (zp 0 (eL y9 (z3 (z7 0) z9))) (vN 5 (eL zI (z3 (za zu (z7 0) (eC (.int 3))) (z3 (eC (.int 0)) (z3 (eC (.int 12)) z9))))))
def bR:Tn->R Fl:=(ze (zp 5 (eL (fun ds=>.ok (.lst ds)) z9)) (ze (xv (iL x8 (z3 (z7 1) z9)) (.one 6) bC) (vN 3 (eL yn (z3 (z7 5) z9)))))
def IFT:Tn->R Fl:=(sIf (zg (za (eqR false) (za zz (za zu (z7 0) (eC (.int 12))) (eC (.int 16))) (eC (.int 1)))) (zp 2 (eC (.int 20))) zk)
def TT:Tn->R Fl:=(ze (zp 1 (za zU (eC (.int 1)) (za zz (z7 0) (eC (.int 4))))) (ze (zp 2 (za zU (eC (.int 1)) (za zz (za zu (z7 0) (eC (.int 4))) (eC (.int 3))))) (ze IFT (ze (zp 3 (eL (fun ds=>.ok (.lst ds)) z9)) (ze (xv (iL x8 (z3 (z7 2) z9)) (.one 4) bR) (zo (eL yn (z3 (z7 3) z9))))))))
theorem tT:xp=zy 7 TT:=rfl
theorem z0b (n:Int)(L:List D)(hL:L.length<1000)(x1 x2 x3 x4 x6:Option D):∃ n' c,Ce c/\bC [some (.int n),x1,x2,x3,x4,some (.lst L),x6]=.ok (.nx [some (.int n'),x1,x2,x3,x4,some (.lst (L++[c])),x6]):=by
 obtain ⟨v,hv,_⟩:=next n
 have d3:zu (.int v) (.int 3)=.ok (.int (v/3)):=zG (by decide) (by decide)
 obtain ⟨t,ht,nt⟩:=Wo (v/3) 0 12 (by decide) (by decide)
 have ht:zI [.int (v/3),.int 0,.int 12]=.ok t:=ht
 refine ⟨v,t,nt,?_⟩
 have hL:L.length<16777216:=by omega
 unfold bC
 generalize y9=G1 at *
 generalize zI=G2 at *
 generalize v/3=y at *
 simp -implicitDefEqProofs only [wL,wD,ub,ze,zp,z7,eC,za,eL,z9,z3,R.ok_bind,tD,tE,tH,tK,hv,d3,ht,hL]
theorem Ky (n:Int)(k:Nat)(hk:k<=4)(L:List D)(hL:L.length<1000)(x2 x4 x5 x6:Option D):∃ n' r y5 y6,Rw k r/\bR [some (.int n),some (.int (k:Nat)),x2,some (.lst L),x4,x5,x6]=.ok (.nx [some (.int n'),some (.int (k:Nat)),x2,some (.lst (L++[r])),x4,y5,y6]):=by
 have e1:x8 [D.int (k:Nat)]=.ok (rng 0 k):=vx (by omega) (by omega)
 obtain ⟨τ',e2,n',cs,y6,g1,g2,h⟩:=xo (asg:=(Tgt.one 6).asg) (body:=bC)
  (fun i τ=>∃ (n':Int) (cs:List D) (y6:Option D),cs.length=i/\(∀ p∈cs,Ce p)/\τ=[some (.int n'),some (.int (k:Nat)),x2,some (.lst L),x4,some (.lst cs),y6]) (rng 0 k) 0
  [some (.int n),some (.int (k:Nat)),x2,some (.lst L),x4,some (.lst []),x6] ⟨n,[],x6,rfl,fun c hc=>(nomatch hc),rfl⟩ (fun i q τ hd ⟨n',cs,y6,l1,l2,h⟩=>by
   obtain ⟨hi',rfl⟩:=vA hd
   subst h
   obtain ⟨n2,c,a1,hb⟩:=z0b n' cs (by omega) (some (.int (k:Nat))) x2 (some (.lst L)) x4 (some (.int ((0:Int)+(i:Nat))))
   refine ⟨_,_,rfl,.inl hb,n2,cs++[c],_,by rw [tZ,l1]; rfl,fun x hx=>?_,rfl⟩
   rcases sC.mp hx with z | z
   ·exact l2 x z
   ·rw [sL.mp z]; exact a1)
 rw [vy] at g1
 have im:yn [.lst cs]=.ok (.tup cs):=if_pos (ya fun w hw=>(g2 w hw).imm)
 rw [h] at e2
 refine ⟨n',.tup cs,some (.lst cs),y6,⟨cs,rfl,by omega,g2⟩,?_⟩
 generalize ((k:Nat):Int)=kk at *
 have eF:xv (iL x8 (z3 (z7 1) z9)) (.one 6) bC [some (.int n),some (.int kk),x2,some (.lst L),x4,some (.lst []),x6]=_:=u4 (by simp -implicitDefEqProofs only [z7,z9,z3,iL,R.ok_bind,tD,tE,e1]) e2
 have hL:L.length<16777216:=by omega
 unfold bR
 generalize xv (iL x8 (z3 (z7 1) z9)) (.one 6) bC=SF at *
 simp -implicitDefEqProofs only [wL,wD,ub,ze,zp,z7,eL,z9,z3,R.ok_bind,tD,tE,tH,tK,eF,im,hL]
theorem table (n:Int):∃ t,xp [.int n]=.ok t/\Tb t:=by
 have d4:zu (.int n) (.int 4)=.ok (.int (n/4)):=zG (by decide) (by decide)
 have d12:zu (.int n) (.int 12)=.ok (.int (n/12)):=zG (by decide) (by decide)
 have m4:zz (.int n) (.int 4)=.ok (.int (n%4)):=zQ (by decide)
 have m3:zz (.int (n/4)) (.int 3)=.ok (.int (n/4%3)):=zQ (by decide)
 have m16:zz (.int (n/12)) (.int 16)=.ok (.int (n/12%16)):=zQ (by decide)
 obtain ⟨k,ek,k1,k2⟩:∃ k:Nat,1+n%4=((k:Nat):Int)/\1<=k/\k<=4:=⟨(1+n%4).toNat,by omega,by omega,by omega⟩
 obtain ⟨sz,hs,s0,s1⟩:∃ sz:Int,(IFT [some (.int n),some (.int (k:Nat)),some (.int (1+n/4%3)),none,none,none,none]=.ok (.nx [some (.int n),some (.int (k:Nat)),some (.int sz),none,none,none,none]))/\1<=sz/\sz<=20:=by
  generalize ((k:Nat):Int)=r at *
  by_cases hq:n/12%16=1
  ·have z:(n/12%16==1)=true:=beq_iff_eq.mpr hq
   refine ⟨20,?_,by omega,by omega⟩
   simp -implicitDefEqProofs only [IFT,zk,zp,sIf,z7,eC,za,zg,asB,R.ok_bind,tD,tH,tK,zV,if_true,if_false,tF,d12,m16,z]
  ·have z:(n/12%16==1)=false:=beq_false_of_ne hq
   refine ⟨1+n/4%3,?_,by omega,by omega⟩
   simp -implicitDefEqProofs only [IFT,zk,zp,sIf,z7,eC,za,zg,asB,R.ok_bind,tD,tH,tK,zV,if_false,tF,d12,m16,z]
 have e1:x8 [D.int sz]=.ok (rng 0 sz.toNat):=vx (by omega) (by omega)
 obtain ⟨τ',e2,n',rs,y4,y5,y6,g1,g2,h⟩:=xo (asg:=(Tgt.one 4).asg) (body:=bR)
  (fun i τ=>∃ (n':Int) (rs:List D) (y4 y5 y6:Option D),rs.length=i/\(∀ r∈rs,Rw k r)/\τ=[some (.int n'),some (.int (k:Nat)),some (.int sz),some (.lst rs),y4,y5,y6]) (rng 0 sz.toNat) 0
  [some (.int n),some (.int (k:Nat)),some (.int sz),some (.lst []),none,none,none] ⟨n,[],none,none,none,rfl,fun c hc=>(nomatch hc),rfl⟩ (fun i q τ hd ⟨n',rs,y4,y5,y6,l1,l2,h⟩=>by
   obtain ⟨hi',rfl⟩:=vA hd
   subst h
   obtain ⟨n2,r,z5,z6,a1,hb⟩:=Ky n' k k2 rs (by omega) (some (.int sz)) (some (.int ((0:Int)+(i:Nat)))) y5 y6
   refine ⟨_,_,rfl,.inl hb,n2,rs++[r],_,z5,z6,by rw [tZ,l1]; rfl,fun x hx=>?_,rfl⟩
   rcases sC.mp hx with z | z
   ·exact l2 x z
   ·rw [sL.mp z]; exact a1)
 rw [vy] at g1
 have im:yn [.lst rs]=.ok (.tup rs):=if_pos (ya fun w hw=>(g2 w hw).imm)
 rw [h] at e2
 refine ⟨.tup rs,?_,k,rs,rfl,k1,k2,by omega,by omega,g2⟩
 generalize ((k:Nat):Int)=kk at *
 have eF:xv (iL x8 (z3 (z7 2) z9)) (.one 4) bR [some (.int n),some (.int kk),some (.int sz),some (.lst []),none,none,none]=_:=u4 (by simp -implicitDefEqProofs only [z7,z9,z3,iL,R.ok_bind,tD,tE,e1]) e2
 rw [tT]
 unfold TT
 generalize xv (iL x8 (z3 (z7 2) z9)) (.one 4) bR=SF at *
 generalize IFT=SI at *
 generalize n/4%3=y3 at *
 generalize n/4=y2 at *
 generalize n%4=y at *
 simp -implicitDefEqProofs only [zy,ze,zp,zo,z7,eC,za,eL,z9,z3,R.ok_bind,tG,tR,tJ,tO,tS,tI,tM,tN,tD,tE,tH,tK,Nat.reduceSub,tX,yP,m4,d4,m3,ek,hs,eF,im]
end K06
namespace K06
open PySem PyProof.Rows L2
theorem Vv (n:Int)(room:Nat):∃ b m,yO [.int n,.int (room:Nat)]=.ok b/\Bk b m/\m<=room:=by
 have m8:zz (.int n) (.int 8)=.ok (.int (n%8)):=zQ (by decide)
 have d8:zu (.int n) (.int 8)=.ok (.int (n/8)):=zG (by decide) (by decide)
 obtain ⟨ws,hw,ww⟩:=Wo (n/8) 1 12 (by decide) (by decide)
 have hw:zI [.int (n/8),.int 1,.int 12]=.ok ws:=hw
 obtain ⟨t,ht,tt⟩:=table (n/8)
 obtain ⟨ps,hp,p1,p2,p3,p4⟩:=JT (n/8) room
 have hy0:0<=n%8:=pK _ (by decide)
 unfold yO uJ
 generalize zI=G1 at *
 generalize xp=G2 at *
 generalize xq=G3 at *
 generalize hr:((room:Nat):Int)=r at *
 generalize n%8=y at *
 generalize n/8=q at *
 by_cases h0:y=0
 ·refine ⟨_,0,?_,Bk.leaf,by omega⟩
  have z:(y==0)=true:=beq_iff_eq.mpr h0
  simp -implicitDefEqProofs only [zk,zy,ze,zo,sIf,z7,eC,za,eL,z9,z3,zg,asB,R.ok_bind,tG,tR,tJ,tO,tI,tM,tN,tD,Nat.reduceAdd,Nat.reduceSub,tX,zV,if_true,if_false,tF,m8,z]
 ·have z:(y==0)=false:=beq_false_of_ne h0
  by_cases h1:y<3
  ·have e1:decide (y<3)=true:=decide_eq_true h1
   refine ⟨_,0,?_,Bk.head ww,by omega⟩
   simp -implicitDefEqProofs only [zk,zy,ze,zo,sIf,z7,eC,za,eL,z9,z3,zg,asB,R.ok_bind,tG,tR,tJ,tO,tI,tM,tN,tD,Nat.reduceAdd,Nat.reduceSub,tX,qw,zV,if_true,if_false,tF,m8,d8,z,e1,hw]
  ·have e1:decide (y<3)=false:=decide_eq_false h1
   by_cases h2:y<5
   ·have e2:decide (y<5)=true:=decide_eq_true h2
    refine ⟨_,0,?_,Bk.table tt,by omega⟩
    simp -implicitDefEqProofs only [zk,zy,ze,zo,sIf,z7,eC,za,eL,z9,z3,zg,asB,R.ok_bind,tG,tR,tJ,tO,tI,tM,tN,tD,Nat.reduceAdd,Nat.reduceSub,tX,qw,zV,if_true,if_false,tF,m8,d8,z,e1,e2,ht]
   ·have e2:decide (y<5)=false:=decide_eq_false h2
    refine ⟨_,ncs ps,?_,Bk.text p1 p2 p3,p4⟩
    simp -implicitDefEqProofs only [zk,zy,ze,zo,sIf,z7,eC,za,eL,z9,z3,zg,asB,R.ok_bind,tG,tR,tJ,tO,tI,tM,tN,tD,tE,Nat.reduceAdd,Nat.reduceSub,tX,qw,zV,if_false,tF,m8,d8,z,e1,e2,hp]
def B1:Tn->R Fl:=(zp 2 (za zU (eL zB (z3 (z7 0) (z3 (za zU (za zU (z7 1) (eC (.int 1))) (za zz (z7 6) (eC (.int 6)))) z9))) (za xV (eC (.int 101)) (za zu (z7 6) (eC (.int 6))))))
def B2:Tn->R Fl:=(sIf (vP (zg (za (eqR false) (z7 3) (eC (.int 40)))) (zg (za gtD (za zz (z7 2) (eC (.int 8))) (eC (.int 4))))) (zp 2 (za jH (z7 2) (eC (.int 5)))) zk)
def B3:Tn->R Fl:=(vN 4 (eL yO (z3 (z7 2) (z3 (z7 5) z9))))
def B4:Tn->R Fl:=(sIf (zg (za (eqR false) (za ixD (za ixD (z7 4) (eUn XQ (eC (.int 1)))) (eC (.int 0))) (eC (.str "text")))) (zp 5 (za jH (z7 5) (eL ug (z3 (xF [none] (xb (za ixD (za ixD (z7 4) (eUn XQ (eC (.int 1)))) (eC (.int 1)))) (.one 0) (fun _=>.ok true) (eL yh (z3 (za ixD (z7 0) (eC (.int 1))) z9))) z9)))) zk)
def bB:Tn->R Fl:=(ze B1 (ze B2 (ze B3 B4)))
def IFB:Tn->R Fl:=(sIf (zg (za (eqR false) (za zz (za zu (z7 2) (eC (.int 5))) (eC (.int 40))) (eC (.int 1)))) (zp 3 (eC (.int 40))) zk)
def TB:Tn->R Fl:=(ze (zp 2 (eL zB (z3 (z7 0) (z3 (z7 1) z9)))) (ze (zp 3 (za zz (z7 2) (eC (.int 5)))) (ze IFB (ze (zp 4 (eL (fun ds=>.ok (.lst ds)) z9)) (ze (zp 5 (eC (.int 60))) (ze (xv (iL x8 (z3 (z7 3) z9)) (.one 6) bB) (zo (z7 4))))))))
theorem tB:yJ=zy 7 TB:=rfl
theorem Kt (ns:List Int)(hl:ns.length<=63)(j:Int)(hj:0<=j)(x2 x3 x4 x5:Option D):∃ v,B1 [some (.frl (ns.map .int)),some (.int 0),x2,x3,x4,x5,some (.int j)]=.ok (.nx [some (.frl (ns.map .int)),some (.int 0),some (.int v),x3,x4,x5,some (.int j)]):=by
 obtain ⟨v,hv,_⟩:=jb ns (0+1+j%6) (by omega) hl
 have m6:zz (.int j) (.int 6)=.ok (.int (j%6)):=zQ (by decide)
 have d6:zu (.int j) (.int 6)=.ok (.int (j/6)):=zG (by decide) (by decide)
 have q1:xV (.int 101) (.int (j/6))=.ok (.int (101*(j/6))):=qT (by decide) (by decide)
 refine ⟨v+101*(j/6),?_⟩
 have e1:(0:Int)+1=1:=rfl
 rw [e1] at hv
 unfold B1
 generalize zB=G1 at *
 generalize D.frl (ns.map .int)=S0 at *
 generalize 101*(j/6)=y1 at *
 generalize j/6=y2 at *
 generalize j%6=y3 at *
 simp -implicitDefEqProofs only [zp,z7,eC,za,eL,z9,z3,R.ok_bind,tD,tE,tH,tK,yP,m6,d6,q1,e1,hv]
theorem Kz (v m:Int)(x0 x1 x4 x5 x6:Option D):∃ v',B2 [x0,x1,some (.int v),some (.int m),x4,x5,x6]=.ok (.nx [x0,x1,some (.int v'),some (.int m),x4,x5,x6]):=by
 have m8:zz (.int v) (.int 8)=.ok (.int (v%8)):=zQ (by decide)
 unfold B2
 generalize v%8=y at *
 cases h:(m==40)
 ·exact ⟨v,by simp -implicitDefEqProofs only [zk,zp,sIf,z7,eC,za,zg,vP,asB,R.ok_bind,tD,tE,tH,tK,vQ,vG,zQ,zV,if_false,tF,Int.reduceLT,h]⟩
 ·cases h2:decide (y>4)
  ·exact ⟨v,by simp -implicitDefEqProofs only [zk,zp,sIf,z7,eC,za,zg,vP,asB,R.ok_bind,tD,tE,tH,tK,vQ,vG,zV,if_true,if_false,tF,h,m8,h2]⟩
  ·exact ⟨v-5,by simp -implicitDefEqProofs only [zk,zp,sIf,z7,eC,za,zg,vP,asB,R.ok_bind,tD,tE,tH,tK,vQ,vG,zV,if_true,if_false,tF,h,m8,h2]⟩
theorem Ki (v:Int)(room:Nat)(L:List D)(hL:L.length<1000)(x0 x1 x3 x6:Option D):∃ b m,Bk b m/\m<=room/\B3 [x0,x1,some (.int v),x3,some (.lst L),some (.int (room:Nat)),x6]=.ok (.nx [x0,x1,some (.int v),x3,some (.lst (L++[b])),some (.int (room:Nat)),x6]):=by
 obtain ⟨b,m,h,hb,hm⟩:=Vv v room
 refine ⟨b,m,hb,hm,?_⟩
 have hL:L.length<16777216:=by omega
 unfold B3
 generalize yO=G1 at *
 generalize ((room:Nat):Int)=r at *
 simp -implicitDefEqProofs only [wL,wD,ub,z7,eL,z9,z3,R.ok_bind,tD,tE,tH,tK,h,hL]
theorem ixm (L:List D)(b:D):ixD (.lst (L++[b])) (.int (-1))=.ok b:=JC (WJ L b)
theorem Wx (z:Str)(l:List D)(hz:eqR false (.str z) (.str "text")=.ok (.bl false))(L:List D)(x0 x1 x2 x3 x5 x6:Option D):B4 [x0,x1,x2,x3,some (.lst (L++[.tup (.str z::l)])),x5,x6]=.ok (.nx [x0,x1,x2,x3,some (.lst (L++[.tup (.str z::l)])),x5,x6]):=by
 have h:=ixm L (.tup (.str z::l))
 have h0:ixD (.tup (.str z::l)) (.int 0)=.ok (.str z):=xw
 generalize D.tup (.str z::l)=b at *
 generalize L++[b]=LL at *
 unfold B4
 simp -implicitDefEqProofs only [yo,yV,yX,zk,zp,sIf,z7,eC,za,eUn,eL,z9,z3,zg,xb,asB,R.ok_bind,tD,tE,tH,tK,Vk,if_false,tF,Int.reduceNeg,h,h0,hz]
theorem U8 (ps:List D)(hp:∀ p∈ps,Pr p)(h200:ps.length<=200)(L:List D)(x0 x1 x2 x3 x6:Option D)(room:Nat)(hr:ncs ps<=room):B4 [x0,x1,x2,x3,some (.lst (L++[.tup [.str "text",.tup ps]])),some (.int (room:Nat)),x6]=.ok (.nx [x0,x1,x2,x3,some (.lst (L++[.tup [.str "text",.tup ps]])),some (.int ((room-ncs ps:Nat))),x6]):=by
 have h:=ixm L (.tup [.str "text",.tup ps])
 have h0:ixD (.tup [.str "text",.tup ps]) (.int 0)=.ok (.str "text"):=xw
 have h1:ixD (.tup [.str "text",.tup ps]) (.int 1)=.ok (.tup ps):=xB
 have hz:eqR false (.str "text") (.str "text")=.ok (.bl true):=uY (by decide +kernel)
 have k1:xi (yZ (Tgt.one 0).asg (fun _=>.ok true) (eL yh (z3 (za ixD (z7 0) (eC (.int 1))) z9)) [none]) (ps.map id)=.ok (ps.filterMap fun p=>some (D.int (nc p:Nat))):=xE fun p hp1=>by
  obtain ⟨w,ns,rfl,_,_,_⟩:=hp p hp1
  have e:=vW ns
  have e2:nc (.tup [w,.tup ns])=ns.length:=rfl
  have e3:ixD (.tup [w,.tup ns]) (.int 1)=.ok (.tup ns):=xB
  rw [e2]
  show yZ _ _ _ _ (.tup [w,.tup ns])=_
  unfold yZ
  generalize D.tup [w,.tup ns]=P at *
  generalize ((ns.length:Nat):Int)=l at *
  generalize yh=ln at *
  simp -implicitDefEqProofs only [z7,eC,za,eL,z9,z3,Tgt.asg,R.ok_bind,tD,tH,if_true,wj,e3,e]
 rw [pM,wI] at k1
 have i1:Y4 (ps.map fun p=>D.int (nc p:Nat))=.ok (.lst (ps.map fun p=>D.int (nc p:Nat))):=vE (by rw [sO]; omega)
 have s1:ug [.lst (ps.map fun p=>D.int (nc p:Nat))]=.ok (.int (ncs ps:Nat)):=by
  have e:(ps.map fun p=>D.int (nc p:Nat))=(ps.map fun p=>((nc p:Nat):Int)).map D.int:=by rw [pF]; rfl
  rw [e,YF]
  congr 2
  unfold ncs
  clear k1 i1 e h h0 h1 hz hr hp h200
  induction ps with
  | nil=>rfl
  | cons p ps ih=>rw [tG,tG,rQ,rQ,ih]; omega
 have er:((room-ncs ps:Nat):Int)=((room:Nat):Int)-(ncs ps:Nat):=by omega
 rw [er]
 generalize D.tup [.str "text",.tup ps]=b at *
 generalize L++[b]=LL at *
 generalize ((ncs ps:Nat):Int)=N at *
 generalize ((room:Nat):Int)=rr at *
 generalize (ps.map fun p=>D.int (nc p:Nat))=PL at *
 unfold B4
 generalize ug=sm at *
 generalize yh=ln at *
 simp -implicitDefEqProofs only [yo,yV,yX,zk,zp,sIf,z7,eC,za,eUn,eL,z9,z3,zg,xb,asB,wF,R.ok_bind,tD,tE,tH,tK,vQ,Vk,if_true,Int.reduceNeg,h,h0,h1,hz,k1,i1,s1]
theorem JU (b:D)(m:Nat)(hb:Bk b m)(room:Nat)(hm:m<=room)(L:List D)(x0 x1 x2 x3 x6:Option D):B4 [x0,x1,x2,x3,some (.lst (L++[b])),some (.int (room:Nat)),x6]=.ok (.nx [x0,x1,x2,x3,some (.lst (L++[b])),some (.int ((room-m:Nat))),x6]):=by
 cases hb with
 | leaf=>exact Wx "leaf" [] (wQ (by decide +kernel)) L x0 x1 x2 x3 (some (.int (room:Nat))) x6
 | head h=>exact Wx "head" _ (wQ (by decide +kernel)) L x0 x1 x2 x3 (some (.int (room:Nat))) x6
 | table h=>exact Wx "table" _ (wQ (by decide +kernel)) L x0 x1 x2 x3 (some (.int (room:Nat))) x6
 | text h1 h2 h=>exact U8 _ h h2 L x0 x1 x2 x3 x6 room hm
theorem Jj (T1 T2 T3 T4:Tn->R Fl)(τ0 τ1 τ2 τ3 τ4:Tn)(h1:T1 τ0=.ok (.nx τ1))(h2:T2 τ1=.ok (.nx τ2))(h3:T3 τ2=.ok (.nx τ3))(h4:T4 τ3=.ok (.nx τ4)):ze T1 (ze T2 (ze T3 T4)) τ0=.ok (.nx τ4):=by
 simp -implicitDefEqProofs only [ze,R.ok_bind,h1,h2,h3,h4]
theorem KS (ns:List Int)(hl:ns.length<=63)(j m:Int)(hj:0<=j)(L:List D)(hL:L.length<1000)(room:Nat)(x2:Option D):∃ (b:D) (k:Nat) (y2:Option D),Bk b k/\k<=room /\
  bB [some (.frl (ns.map .int)),some (.int 0),x2,some (.int m),some (.lst L),some (.int (room:Nat)),some (.int j)]=.ok (.nx [some (.frl (ns.map .int)),some (.int 0),y2,some (.int m),some (.lst (L++[b])),some (.int ((room-k:Nat))),some (.int j)]):=by
 obtain ⟨v,h1⟩:=Kt ns hl j hj x2 (some (.int m)) (some (.lst L)) (some (.int (room:Nat)))
 obtain ⟨v',h2⟩:=Kz v m (some (.frl (ns.map .int))) (some (.int 0)) (some (.lst L)) (some (.int (room:Nat))) (some (.int j))
 obtain ⟨b,k,hb,hk,h3⟩:=Ki v' room L hL (some (.frl (ns.map .int))) (some (.int 0)) (some (.int m)) (some (.int j))
 exact ⟨b,k,_,hb,hk,Jj B1 B2 B3 B4 _ _ _ _ _ h1 h2 h3 (JU b k hb room hk L _ _ _ _ _)⟩
theorem VM (L:List D)(p:D):bns (L++[p])=bns L+bn p:=by
 unfold bns
 rw [List.map_append,List.sum_append,tG,tR,rQ,List.sum_nil]
 rfl
def JM (bs:List D):Prop:=bs.length<=40/\(∀ b∈bs,∃ n,Bk b n)/\bns bs<=60
theorem Jg (ns:List Int)(hl:ns.length<=63):∃ bs,yJ [.frl (ns.map .int),.int 0]=.ok (.lst bs)/\JM bs:=by
 obtain ⟨n,hn,n0,_⟩:=jb ns 0 (by omega) hl
 have d5:zu (.int n) (.int 5)=.ok (.int (n/5)):=zG (by decide) (by decide)
 have m5:zz (.int n) (.int 5)=.ok (.int (n%5)):=zQ (by decide)
 have m40:zz (.int (n/5)) (.int 40)=.ok (.int (n/5%40)):=zQ (by decide)
 obtain ⟨sz,hs,s0,s1⟩:∃ sz:Int,(IFB [some (.frl (ns.map .int)),some (.int 0),some (.int n),some (.int (n%5)),none,none,none]=.ok (.nx [some (.frl (ns.map .int)),some (.int 0),some (.int n),some (.int sz),none,none,none]))/\0<=sz/\sz<=40:=by
  generalize D.frl (ns.map .int)=S0 at *
  by_cases hq:n/5%40=1
  ·have z:(n/5%40==1)=true:=beq_iff_eq.mpr hq
   refine ⟨40,?_,by omega,by omega⟩
   simp -implicitDefEqProofs only [IFB,zk,zp,sIf,z7,eC,za,zg,asB,R.ok_bind,tD,tE,tH,tK,zV,if_true,if_false,tF,d5,m40,z]
  ·have z:(n/5%40==1)=false:=beq_false_of_ne hq
   refine ⟨n%5,?_,by omega,by omega⟩
   simp -implicitDefEqProofs only [IFB,zk,zp,sIf,z7,eC,za,zg,asB,R.ok_bind,tD,tE,tH,tK,zV,if_false,tF,d5,m40,z]
 have e1:x8 [D.int sz]=.ok (rng 0 sz.toNat):=vx (by omega) (by omega)
 obtain ⟨τ',e2,bs,room,y2,y6,g1,g2,g3,h⟩:=xo (asg:=(Tgt.one 6).asg) (body:=bB)
  (fun i τ=>∃ (bs:List D) (room:Nat) (y2 y6:Option D),bs.length=i/\room+bns bs=60/\(∀ b∈bs,∃ n,Bk b n)/\τ=[some (.frl (ns.map .int)),some (.int 0),y2,some (.int sz),some (.lst bs),some (.int (room:Nat)),y6]) (rng 0 sz.toNat) 0
  [some (.frl (ns.map .int)),some (.int 0),some (.int n),some (.int sz),some (.lst []),some (.int 60),none] ⟨[],60,_,none,rfl,rfl,fun c hc=>(nomatch hc),rfl⟩ (fun i q τ hd ⟨bs,room,y2,y6,l1,l2,l3,h⟩=>by
   obtain ⟨hi',rfl⟩:=vA hd
   subst h
   obtain ⟨b,k,z2,hb,hk,he⟩:=KS ns hl ((0:Int)+(i:Nat)) sz (by omega) bs (by omega) room y2
   refine ⟨_,_,rfl,.inl he,bs++[b],room-k,z2,_,by rw [tZ,l1]; rfl,by rw [VM,hb.bn]; omega,fun x hx=>?_,rfl⟩
   rcases sC.mp hx with z | z
   ·exact l3 x z
   ·rw [sL.mp z]; exact ⟨k,hb⟩)
 rw [vy] at g1
 rw [h] at e2
 refine ⟨bs,?_,by omega,g3,by omega⟩
 generalize ((room:Nat):Int)=r at *
 have eF:xv (iL x8 (z3 (z7 3) z9)) (.one 6) bB [some (.frl (ns.map .int)),some (.int 0),some (.int n),some (.int sz),some (.lst []),some (.int 60),none]=_:=u4 (by simp -implicitDefEqProofs only [z7,z9,z3,iL,R.ok_bind,tD,tE,e1]) e2
 rw [tB]
 unfold TB
 generalize xv (iL x8 (z3 (z7 3) z9)) (.one 6) bB=SF at *
 generalize IFB=SI at *
 generalize zB=G1 at *
 generalize D.frl (ns.map .int)=S0 at *
 generalize n%5=y at *
 simp -implicitDefEqProofs only [zy,ze,zp,zo,z7,eC,za,eL,z9,z3,R.ok_bind,tG,tR,tJ,tO,tS,tI,tM,tN,tD,tE,tH,tK,Nat.reduceAdd,Nat.reduceSub,tX,hn,m5,hs,eF]
theorem jr {f:D->D->Option Bool}:∀ {xs:List D},(∀ x∈xs,f x x=some true)->yH f xs xs=some true
 | [],_=>rfl
 | x::xs,h=>by
  unfold yH
  rw [jr fun y hy=>h y (sA _ hy),h x tY]
  rfl
theorem wg {n:Nat}{xs:List D}(h:∀ x∈xs,eqF n x x=some true):eqF (n+1) (.tup xs) (.tup xs)=some true:=by
 show ((yH (eqF n) xs xs).map fun b=>b&&xs.length==xs.length)=_
 rw [jr h,Option.map_some,beq_self_eq_true]
 rfl
theorem qU (n:Nat)(z:Str):eqF n (.str z) (.str z)=some true:=by
 have e:eqF n (.str z) (.str z)=some (z==z):=by cases n<;>rfl
 rw [e,beq_self_eq_true]
theorem Wd.eq {d:D}(h:Wd d)(n:Nat):eqF n d d=some true:=by obtain ⟨_,z,rfl⟩:=h; exact qU n z
theorem Ws.eq {lo hi:Nat}{d:D}(h:Ws lo hi d)(n:Nat):eqF (n+1) d d=some true:=by
 obtain ⟨ws,rfl,_,_,h⟩:=h
 exact wg fun w hw=>(h w hw).eq n
theorem Pr.eq {d:D}(h:Pr d)(n:Nat):eqF (n+3) d d=some true:=by
 obtain ⟨w,ns,rfl,hw,_,hn⟩:=h
 refine wg fun x hx=>?_
 rcases sG.mp hx with rfl | hx
 ·exact hw.eq _
 ·rw [sL.mp hx]
  exact wg fun y hy=>(hn y hy).eq n
theorem Tb.eq {d:D}(h:Tb d)(n:Nat):eqF (n+3) d d=some true:=by
 obtain ⟨k,rs,rfl,_,_,_,_,h⟩:=h
 refine wg fun r hr=>?_
 obtain ⟨cs,rfl,_,hc⟩:=h r hr
 exact wg fun c hc'=>(hc c hc').eq n
theorem two {n:Nat}{z:Str}{t:D}(h:eqF n t t=some true):eqF (n+1) (.tup [.str z,t]) (.tup [.str z,t])=some true:=by
 refine wg fun x hx=>?_
 rcases sG.mp hx with rfl | hx
 ·exact qU _ _
 ·rw [sL.mp hx]; exact h
theorem Bk.eq {d:D}{m:Nat}(h:Bk d m):eqF 11 d d=some true:=by
 cases h with
 | leaf=>exact wg fun x hx=>by rw [sL.mp hx]; exact qU _ _
 | head h=>exact two (h.eq 9)
 | table h=>exact two (h.eq 7)
 | text _ _ h=>exact two (wg fun p hp=>(h p hp).eq 6)
theorem KO (bs:List D)(h:∀ b∈bs,∃ n,Bk b n):eqR true (.lst bs) (.lst bs)=.ok (.bl false):=by
 refine Ul (fun _ _ h=>by cases h) ?_
 show (if bs.length=bs.length then yH (eqF 11) bs bs else some false)=_
 rw [if_pos rfl]
 exact jr fun b hb=>by obtain ⟨n,h⟩:=h b hb; exact h.eq
end K06
namespace K06
open PySem PyProof.Rows L2
theorem kX (n:Int):zt [.int n]=zt [.int (n%10)]:=by
 have m1:zz (.int n) (.int 10)=.ok (.int (n%10)):=zQ (by decide)
 have m2:zz (.int (n%10)) (.int 10)=.ok (.int (n%10)):=by
  have:=zQ (i:=n%10) (j:=10) (by decide)
  rw [Int.emod_emod_of_dvd n (by decide:(10:Int) ∣ 10)] at this
  exact this
 have hx:∀ L,∃ r,ixD L (.int (n%10))=r:=fun L=>⟨_,rfl⟩
 generalize n%10=y at *
 have e0:zt=zy 1 wa:=rfl
 rw [e0]
 unfold wa
 have mb:∃ r,qE (.str "a") (.int 41)=r:=⟨_,rfl⟩
 obtain ⟨rb,mb⟩:=mb
 have fz:∃ r,vH [.str "a"]=r:=⟨_,rfl⟩
 obtain ⟨rf,fz⟩:=fz
 generalize ixD=IX at *
 simp -implicitDefEqProofs only [zy,zo,z7,eC,za,eL,z9,z3,R.ok_bind,tG,tR,tJ,tO,tI,tM,tN,tD,Nat.reduceSub,tX,m1,m2,mb,fz]
theorem uC (n:Int):∃ d,zt [.int n]=.ok d/\NW d:=by
 rw [kX n]
 obtain ⟨k,hk,h10⟩:∃ k:Nat,n%10=((k:Nat):Int)/\k<10:=⟨(n%10).toNat,by omega,by omega⟩
 rw [hk]
 have h:=qK
 rw [rE] at h
 have h:=h k (rR.mpr h10)
 unfold z0a at h
 generalize zt [.int (k:Nat)]=r at *
 cases r with
 | ok d =>
  have h:(d.imm&&isF (zR [d]))=true:=h
  rw [sP] at h
  exact ⟨d,rfl,wQ h.2,h.1⟩
 | err _=>cases h
 | bad=>cases h
theorem v7 {xs:List D}(h:D.imms xs=true)(a:Nat):D.imms (xs.take a)=true:=by
 have e:=yM (xs.take a) (xs.drop a)
 rw [List.take_append_drop,h] at e
 cases hb:D.imms (xs.take a) with
 | false=>rw [hb] at e; cases e
 | true=>rfl
theorem uc {xs:List D}(h:D.imms xs=true)(a:Nat):D.imms (xs.drop a)=true:=by
 have e:=yM (xs.take a) (xs.drop a)
 rw [List.take_append_drop,h] at e
 cases hb:D.imms (xs.drop a) with
 | false=>rw [hb,Bool.and_false] at e; cases e
 | true=>rfl
theorem WS {xs:List D}(h:D.imms xs=true)(a:Nat)(ha:a<=xs.length):slA (.tup xs) none (some (a:Int))=.ok (.tup (xs.take a)):=by
 have:slA (.tup xs) none (some (a:Int))=.ok (.tup (uq xs none (some (a:Int)))):=if_pos h
 rw [this,Vy ha]
theorem jw {xs:List D}(h:D.imms xs=true)(a:Nat)(ha:a<=xs.length):slA (.tup xs) (some (a:Int)) none=.ok (.tup (xs.drop a)):=by
 have:slA (.tup xs) (some (a:Int)) none=.ok (.tup (uq xs (some (a:Int)) none)):=if_pos h
 rw [this,Y7 ha]
theorem ZP {xs ys:List D}(h1:D.imms xs=true)(h2:D.imms ys=true)(hl:xs.length+ys.length<=10000):xP (.tup xs) (.tup ys)=.ok (.tup (xs++ys)):=if_pos ⟨h1,h2,by rw [sizeLine_eq]; omega⟩
theorem Zs {d:D}(h:d.imm=true):D.imms [d]=true:=by show (d.imm&&true)=true; rw [h]; rfl
theorem wx {xs:List D}{d:D}(h:D.imms xs=true)(hd:d.imm=true)(a b:Nat):D.imms (xs.take a++d::xs.drop b)=true:=by
 rw [yM,v7 h]
 show (true&&(d.imm&&D.imms (xs.drop b)))=true
 rw [hd,uc h]
 rfl
theorem UW {xs:List D}{d:D}(h:D.imms xs=true)(hd:d.imm=true)(hl:xs.length<=1000)(a b:Nat):xP (.tup (xs.take a)) (.tup [d])=.ok (.tup (xs.take a++[d]))/\xP (.tup (xs.take a++[d])) (.tup (xs.drop b))=.ok (.tup (xs.take a++d::xs.drop b)):=by
 refine ⟨ZP (v7 h a) (Zs hd) (by rw [rC]; show _+1<=_; omega),?_⟩
 have e:xs.take a++d::xs.drop b=(xs.take a++[d])++xs.drop b:=by rw [rF]; rfl
 rw [e]
 exact ZP (by rw [yM,v7 h,Zs hd]; rfl) (uc h b) (by rw [tZ,rC,rJ]; show _+1+_<=_; omega)
theorem Zf {t:Tn->R D}{tl th:Tn->R (Option Int)}{τ:Tn}:j8 t tl th τ=(t τ).bind fun x=>(tl τ).bind fun l=>(th τ).bind fun h=>slA x l h:=rfl
theorem jN (xs:List D)(a:Nat)(d:D)(h:D.imms xs=true)(hd:d.imm=true)(hl:xs.length<=1000)(ha:a<xs.length):zx [.tup xs,.int (a:Nat),d]=.ok (.tup (xs.take a++d::xs.drop (a+1))):=by
 have s1:=WS h a (by omega)
 have s2:=jw h (a+1) (by omega)
 obtain ⟨a1,a2⟩:=UW h hd hl a (a+1)
 have ec:((a+1:Nat):Int)=((a:Nat):Int)+1:=by omega
 rw [ec] at s2
 generalize xs.take a++d::xs.drop (a+1)=R4 at *
 generalize xs.take a++[d]=R3 at *
 generalize xs.take a=R1 at *
 generalize xs.drop (a+1)=R2 at *
 generalize ((a:Nat):Int)=A at *
 unfold zx qF
 simp -implicitDefEqProofs only [zy,zo,z7,eC,za,eL,z9,z3,yY,yR,R.ok_bind,tG,tR,tJ,tO,tI,tM,tN,tD,tE,Nat.reduceAdd,Nat.reduceSub,tX,yP,Zf,s1,s2,a1,a2]
theorem wd {xs:List D}{d x:D}{a b:Nat}(h:x∈xs.take a++d::xs.drop b):x∈xs\/x=d:=by
 rcases sC.mp h with h | h
 ·exact .inl (List.mem_of_mem_take h)
 ·rcases sG.mp h with h | h
  ·exact .inr h
  ·exact .inl (List.mem_of_mem_drop h)
theorem we {xs:List D}{d:D}{a b:Nat}:d∈xs.take a++d::xs.drop b:=tQ _ tY
theorem wH {xs:List D}{d:D}{a b:Nat}:(xs.take a++d::xs.drop b).length<=2*xs.length+1:=by
 rw [tZ,tJ,rC,rJ]
 omega
theorem xT (n l:Int)(hl:0<l):∃ a:Nat,zz (.int n) (.int l)=.ok (.int (a:Nat))/\((a:Nat):Int)<l/\n%l=((a:Nat):Int):=by
 have h0:=pK n (b:=l) (by omega)
 refine ⟨(n%l).toNat,?_,?_,?_⟩
 ·rw [rL h0]; exact zQ hl
 ·rw [rL h0]; exact Int.emod_lt_of_pos _ hl
 ·rw [rL h0]
theorem ZF {xs:List D}{a:Nat}(h:a<xs.length):ixD (.tup xs) (.int (a:Nat))=.ok xs[a]:=by
 have e:atI xs (a:Int)=some xs[a]:=uH (rB h)
 show (match atI xs (a:Int) with | some d=>R.ok d | none=>R.bad)=_
 rw [e]
theorem ZA {xs:List D}{a:Nat}(h:a<xs.length):ixD (.lst xs) (.int (a:Nat))=.ok xs[a]:=by
 have e:atI xs (a:Int)=some xs[a]:=uH (rB h)
 show (match atI xs (a:Int) with | some d=>R.ok d | none=>R.bad)=_
 rw [e]
theorem Vu (ws:List D)(h1:ws.length<=30)(h:∀ w∈ws,Wd w)(a b:Nat)(d:D)(hd:NW d):NN (.tup (ws.take a++d::ws.drop b)):=by
 refine ⟨?_,wx (ya fun w hw=>(h w hw).imm) hd.2 a b⟩
 rw [qS]
 refine vV _ (by have:=wH (xs:=ws) (d:=d) (a:=a) (b:=b); omega) (fun x hx=>?_) ⟨d,we,hd⟩ _ _
 rcases wd hx with h' | rfl
 ·exact .inl (h x h')
 ·exact .inr hd
theorem V7 (ws:List D)(h1:ws.length<=12)(h:∀ w∈ws,Wd w)(a b:Nat)(d:D)(hd:NW d):NC (.tup (ws.take a++d::ws.drop b)):=by
 refine ⟨?_,wx (ya fun w hw=>(h w hw).imm) hd.2 a b⟩
 rw [qV]
 refine vV _ (by have:=wH (xs:=ws) (d:=d) (a:=a) (b:=b); omega) (fun x hx=>?_) ⟨d,we,hd⟩ _ _
 rcases wd hx with h' | rfl
 ·exact .inl (h x h')
 ·exact .inr hd
end K06
namespace K06
open PySem PyProof.Rows L2
def P1:Tn->R Fl:=(sIf (zg (za (eqR false) (z7 4) (eC (.int 0)))) (zo (uW (eL (fun ds=>.ok (.tup ds)) (z3 (eL zt (z3 (za zu (z7 1) (eC (.int 6))) z9)) (z3 (z7 3) z9))))) zk)
def P2:Tn->R Fl:=(sIf (zg (za (eqR false) (z7 4) (eC (.int 1)))) (zo (uW (za ixD (eL (fun ds=>.ok (.lst ds)) (z3 (eL vH (z3 (z7 2) (z3 (z7 3) z9))) (z3 (eL (fun ds=>.ok (.tup ds)) (z3 (z7 2) z9)) (z3 (eL (fun ds=>.ok (.tup ds)) (z3 (z7 2) (z3 (eUn qL (eL xj (z3 (z7 3) z9))) z9))) (z3 (eL (fun ds=>.ok (.tup ds)) (z3 (z7 2) (z3 (z7 3) (z3 (eL (fun ds=>.ok (.tup ds)) z9) z9)))) z9))))) (za zz (za zu (z7 1) (eC (.int 6))) (eC (.int 4)))))) zk)
def P3:Tn->R Fl:=(zp 5 (za ixD (za xP (z7 3) (eL (fun ds=>.ok (.tup ds)) (z3 (eL (fun ds=>.ok (.tup ds)) (z3 (eC (.str "c")) (z3 (eC (.str "d")) (z3 (eC (.str "e")) z9)))) z9))) (za zz (za zu (z7 1) (eC (.int 6))) (za zU (eL yh (z3 (z7 3) z9)) (eC (.int 1))))))
def P4:Tn->R Fl:=(zp 6 (eL zx (z3 (z7 5) (z3 (za zz (za zu (z7 1) (eC (.int 60))) (eL yh (z3 (z7 5) z9))) (z3 (eL zt (z3 (za zu (z7 1) (eC (.int 600))) z9)) z9)))))
def P5:Tn->R Fl:=(sIf (zg (za (eqR false) (z7 4) (eC (.int 2)))) (zp 6 (za ixD (eL (fun ds=>.ok (.lst ds)) (z3 (eUn qL (eL xj (z3 (z7 5) z9))) (z3 (eL (fun ds=>.ok (.tup ds)) z9) (z3 (eC .non) (z3 (eC (.str "c")) z9))))) (za zz (za zu (z7 1) (eC (.int 60))) (eC (.int 4))))) zk)
def P6:Tn->R Fl:=(sIf (zg (za (eqR false) (eL yh (z3 (z7 3) z9)) (eC (.int 0)))) (zo (uW (eL (fun ds=>.ok (.tup ds)) (z3 (z7 2) (z3 (eL (fun ds=>.ok (.tup ds)) (z3 (z7 6) z9)) z9))))) zk)
def P7:Tn->R Fl:=(zo (uW (eL (fun ds=>.ok (.tup ds)) (z3 (z7 2) (z3 (eL zx (z3 (z7 3) (z3 (za zz (za zu (z7 1) (eC (.int 6))) (eL yh (z3 (z7 3) z9))) (z3 (z7 6) z9)))) z9)))))
theorem tBP:yl=zy 7 (ze (ka (.many [2,3]) (z7 0)) (ze (zp 4 (za zz (z7 1) (eC (.int 6)))) (ze P1 (ze P2 (ze P3 (ze P4 (ze P5 (ze P6 P7)))))))):=rfl
theorem j6 (z:Str)(h:isT (zR [.str z])=true):Wd (.str z):=⟨uY h,z,rfl⟩
theorem cde:Nt (.tup [.str "c",.str "d",.str "e"]):=⟨_,rfl,by decide,by decide,fun w hw=>by
 rcases sG.mp hw with rfl | hw
 ·exact j6 _ (by decide +kernel)
 ·rcases sG.mp hw with rfl | hw
  ·exact j6 _ (by decide +kernel)
  ·rw [sL.mp hw]
   exact j6 _ (by decide +kernel)⟩
theorem Zb {d:D}(h:d.imm=true):QS d=.ok d:=if_pos h
theorem qR {xs:List D}(h:D.imms xs=true):qL (.lst xs)=.ok (.frl xs):=if_pos h
theorem kU {xs:List D}(h:D.imms xs=true):xj [.tup xs]=.ok (.lst xs):=if_pos h
theorem Yl {y:Int}{k:Int}(h:y≠k):(y==k)=false:=beq_false_of_ne h
theorem isb {y:Int}{k:Int}(h:y=k):(y==k)=true:=beq_iff_eq.mpr h
theorem Qt (a b c d:D)(p:D->Prop)(ha:p a)(hb:p b)(hc:p c)(hd:p d)(k:Nat)(hk:k<4):∃ x,ixD (.lst [a,b,c,d]) (.int (k:Nat))=.ok x/\p x:=by
 refine ⟨_,ZA (xs:=[a,b,c,d]) hk,?_⟩
 have:k=0\/k=1\/k=2\/k=3:=by omega
 rcases this with rfl | rfl | rfl | rfl<;>assumption
section
variable (w:D)(ns:List D)(hw:Wd w)(hl:ns.length<=3)(hn:∀ n∈ns,Nt n)(n:Int)
include hw hl hn
theorem ZU:D.imms ns=true:=ya fun t ht=>(hn t ht).imm
theorem KP:D.imms [w,.tup ns]=true:=by
 show (w.imm&&(D.imms ns&&true))=true
 rw [hw.imm,ZU w ns hw hl hn]; rfl
theorem K7 (y:Int)(hy:y≠0)(x0 x5 x6:Option D):P1 [x0,some (.int n),some w,some (.tup ns),some (.int y),x5,x6]=.ok (.nx [x0,some (.int n),some w,some (.tup ns),some (.int y),x5,x6]):=by
 have z:=Yl hy
 unfold P1
 generalize zt=G1 at *
 simp -implicitDefEqProofs only [uf,zk,zo,sIf,z7,eC,za,eL,z9,z3,zg,asB,R.ok_bind,tD,tE,zG,zV,if_false,tF,Int.reduceLT,z]
theorem Jz (x0 x5 x6:Option D):∃ d,NP d/\P1 [x0,some (.int n),some w,some (.tup ns),some (.int 0),x5,x6]=.ok (.rt d):=by
 have z:((0:Int)==0)=true:=rfl
 have d6:zu (.int n) (.int 6)=.ok (.int (n/6)):=zG (by decide) (by decide)
 obtain ⟨b,hb,nb⟩:=uC (n/6)
 have im:(D.tup [b,.tup ns]).imm=true:=by
  show (b.imm&&(D.imms ns&&true))=true
  rw [nb.2,ZU w ns hw hl hn]; rfl
 refine ⟨.tup [b,.tup ns],⟨jc b _ false true nb.1 (fun h=>by cases h),im⟩,?_⟩
 have im:=Zb im
 unfold P1
 generalize zt=G1 at *
 generalize n/6=q at *
 simp -implicitDefEqProofs only [uf,zk,zo,sIf,z7,eC,za,eL,z9,z3,zg,asB,R.ok_bind,tD,tE,zV,if_true,if_false,tF,z,d6,hb,im]
theorem Kq (y:Int)(hy:y≠1)(x0 x5 x6:Option D):P2 [x0,some (.int n),some w,some (.tup ns),some (.int y),x5,x6]=.ok (.nx [x0,some (.int n),some w,some (.tup ns),some (.int y),x5,x6]):=by
 have z:=Yl hy
 unfold P2
 simp -implicitDefEqProofs only [uf,zk,zo,sIf,z7,eC,za,eUn,eL,z9,z3,zg,asB,R.ok_bind,tD,tE,zQ,zG,zV,if_false,tF,Int.reduceLT,z]
theorem Jb (x0 x5 x6:Option D):∃ d,NP d/\P2 [x0,some (.int n),some w,some (.tup ns),some (.int 1),x5,x6]=.ok (.rt d):=by
 have z:((1:Int)==1)=true:=rfl
 have d6:zu (.int n) (.int 6)=.ok (.int (n/6)):=zG (by decide) (by decide)
 obtain ⟨k,m4,hk,_⟩:=xT (n/6) 4 (by decide)
 have i1:=KP w ns hw hl hn
 have i0:=ZU w ns hw hl hn
 have f1:vH [w,.tup ns]=.ok (.frl [w,.tup ns]):=if_pos i1
 have l1:=kU i0
 have f2:=qR i0
 obtain ⟨d,hd,nd⟩:=Qt (.frl [w,.tup ns]) (.tup [w]) (.tup [w,.frl ns]) (.tup [w,.tup ns,.tup []]) NP ⟨VS _ rfl,rfl⟩ ⟨ZR [w] (by show 1≠2; decide),Zs hw.imm⟩
  ⟨jc w _ true false hw.1 (fun _=>by rw [YQ]; exact kW _ _ _ _ rfl),by
   show (w.imm&&(true&&true))=true
   rw [hw.imm]; rfl⟩ ⟨ZR [w,.tup ns,.tup []] (by show 3≠2; decide),by
   show (w.imm&&(D.imms ns&&(true&&true)))=true
   rw [hw.imm,i0]; rfl⟩ k (by omega)
 refine ⟨d,nd,?_⟩
 have im:=Zb nd.2
 generalize D.frl [w,.tup ns]=A1 at *
 generalize D.frl ns=A2 at *
 generalize D.lst ns=A3 at *
 generalize ((k:Nat):Int)=kk at *
 generalize n/6=q at *
 unfold P2
 simp -implicitDefEqProofs only [uf,zk,zo,sIf,z7,eC,za,eUn,eL,z9,z3,zg,asB,R.ok_bind,tD,tE,zV,if_true,if_false,tF,z,d6,m4,f1,l1,f2,hd,im]
theorem JN (x0 x4 x5 x6:Option D):∃ t,Nt t/\P3 [x0,some (.int n),some w,some (.tup ns),x4,x5,x6]=.ok (.nx [x0,some (.int n),some w,some (.tup ns),x4,some t,x6]):=by
 have d6:zu (.int n) (.int 6)=.ok (.int (n/6)):=zG (by decide) (by decide)
 have i0:=ZU w ns hw hl hn
 have a1:=ZP (xs:=ns) (ys:=[.tup [.str "c",.str "d",.str "e"]]) i0 rfl (by show _+1<=_; omega)
 have e2:=vW ns
 obtain ⟨k,mk,hk,_⟩:=xT (n/6) (((ns.length:Nat):Int)+1) (by omega)
 have hk2:k<(ns++[D.tup [.str "c",.str "d",.str "e"]]).length:=by rw [tZ]; show _<_+1; omega
 have hx:=ZF hk2
 refine ⟨(ns++[D.tup [.str "c",.str "d",.str "e"]])[k],?_,?_⟩
 ·rcases sC.mp (rA hk2) with h | h
  ·exact hn _ h
  ·rw [sL.mp h]; exact cde
 ·generalize (ns++[D.tup [.str "c",.str "d",.str "e"]])[k]=t at *
  generalize (ns++[D.tup [.str "c",.str "d",.str "e"]])=nn at *
  generalize ((ns.length:Nat):Int)=l at *
  generalize ((k:Nat):Int)=kk at *
  generalize n/6=q at *
  unfold P3
  simp -implicitDefEqProofs only [zp,z7,eC,za,eL,z9,z3,R.ok_bind,tD,tE,tH,tK,yP,d6,a1,e2,mk,hx]
theorem Kv (t:D)(ht:Nt t)(x0 x2 x3 x4 x6:Option D):∃ d,NN d/\P4 [x0,some (.int n),x2,x3,x4,some t,x6]=.ok (.nx [x0,some (.int n),x2,x3,x4,some t,some d]):=by
 obtain ⟨ws,rfl,l1,l2,h⟩:=ht
 have d60:zu (.int n) (.int 60)=.ok (.int (n/60)):=zG (by decide) (by decide)
 have d600:zu (.int n) (.int 600)=.ok (.int (n/600)):=zG (by decide) (by decide)
 have e2:=vW ws
 obtain ⟨k,mk,hk,_⟩:=xT (n/60) ((ws.length:Nat):Int) (by omega)
 obtain ⟨b,hb,nb⟩:=uC (n/600)
 have hq:=jN ws k b (ya fun w hw=>(h w hw).imm) nb.2 (by omega) (by omega)
 refine ⟨_,Vu ws l2 h k (k+1) b nb,?_⟩
 generalize D.tup (ws.take k++b::ws.drop (k+1))=X at *
 generalize ((ws.length:Nat):Int)=l at *
 generalize ((k:Nat):Int)=kk at *
 generalize n/600=q6 at *
 generalize n/60=q at *
 unfold P4
 generalize zx=G1 at *
 generalize zt=G2 at *
 simp -implicitDefEqProofs only [zp,z7,eC,za,eL,z9,z3,R.ok_bind,tD,tE,tH,tK,d60,d600,e2,mk,hb,hq]
theorem JH (y:Int)(t d0:D)(ht:Nt t)(hd:NN d0)(x0 x2 x3:Option D):∃ d,NN d/\P5 [x0,some (.int n),x2,x3,some (.int y),some t,some d0]=.ok (.nx [x0,some (.int n),x2,x3,some (.int y),some t,some d]):=by
 by_cases hy:y=2
 ·have z:=isb hy
  have d60:zu (.int n) (.int 60)=.ok (.int (n/60)):=zG (by decide) (by decide)
  obtain ⟨ws,rfl,l1,l2,h⟩:=ht
  have i0:D.imms ws=true:=ya fun w hw=>(h w hw).imm
  have l1:=kU i0
  have f2:=qR i0
  obtain ⟨k,m4,hk,_⟩:=xT (n/60) 4 (by decide)
  obtain ⟨d,hd,nd⟩:=Qt (.frl ws) (.tup []) .non (.str "c") NN ⟨Zn _ rfl,rfl⟩ ⟨by rw [qS,qj]; exact uM _ [] _ _ (.inl (by decide)),rfl⟩ ⟨Zn _ rfl,rfl⟩ ⟨Zn _ rfl,rfl⟩ k (by omega)
  refine ⟨d,nd,?_⟩
  generalize D.frl ws=A2 at *
  generalize D.lst ws=A3 at *
  generalize ((k:Nat):Int)=kk at *
  generalize n/60=q at *
  unfold P5
  simp -implicitDefEqProofs only [zk,zp,sIf,z7,eC,za,eUn,eL,z9,z3,zg,asB,R.ok_bind,tD,tE,tH,tK,zV,if_true,if_false,tF,z,d60,m4,l1,f2,hd]
 ·have z:=Yl hy
  refine ⟨d0,hd,?_⟩
  unfold P5
  simp -implicitDefEqProofs only [zk,zp,sIf,z7,eC,za,eUn,eL,z9,z3,zg,asB,R.ok_bind,tD,tE,tH,tK,zQ,zG,zV,if_false,tF,Int.reduceLT,z]
theorem QL (d0:D)(hd:NN d0)(x0 x4 x5:Option D):∃ d,NP d/\ze P6 P7 [x0,some (.int n),some w,some (.tup ns),x4,x5,some d0]=.ok (.rt d):=by
 have e2:=vW ns
 have i0:=ZU w ns hw hl hn
 by_cases h0:ns.length=0
 ·have z:(((ns.length:Nat):Int)==0)=true:=isb (by omega)
  have im:(D.tup [w,.tup [d0]]).imm=true:=by
   show (w.imm&&(((d0.imm&&true))&&true))=true
   rw [hw.imm,hd.2]; rfl
  refine ⟨.tup [w,.tup [d0]],⟨jc w _ true false hw.1 fun _=>qC [d0] (by show 1<=10000; decide) (fun x hx=>.inr (by rw [sL.mp hx]; exact hd)) ⟨d0,tY,hd⟩ _ _,im⟩,?_⟩
  have im:=Zb im
  generalize ((ns.length:Nat):Int)=l at *
  generalize P7=PP7 at *
  unfold P6
  simp -implicitDefEqProofs only [uf,zk,ze,zo,sIf,z7,eC,za,eL,z9,z3,zg,asB,R.ok_bind,tD,tE,zV,if_true,if_false,tF,e2,z,im]
 ·have z:(((ns.length:Nat):Int)==0)=false:=Yl (by omega)
  have d6:zu (.int n) (.int 6)=.ok (.int (n/6)):=zG (by decide) (by decide)
  obtain ⟨k,mk,hk,_⟩:=xT (n/6) ((ns.length:Nat):Int) (by omega)
  have hq:=jN ns k d0 i0 hd.2 (by omega) (by omega)
  have im:(D.tup [w,.tup (ns.take k++d0::ns.drop (k+1))]).imm=true:=by
   show (w.imm&&(D.imms _&&true))=true
   rw [hw.imm,wx i0 hd.2]; rfl
  refine ⟨_,⟨jc w (.tup (ns.take k++d0::ns.drop (k+1))) true false hw.1 fun _=>qC _ (by have:=wH (xs:=ns) (d:=d0) (a:=k) (b:=k+1); omega) (fun x hx=>?_) ⟨d0,we,hd⟩ _ _,im⟩,?_⟩
  ·rcases wd hx with h' | rfl
   ·exact .inl (hn x h')
   ·exact .inr hd
  ·have im:=Zb im
   generalize D.tup (ns.take k++d0::ns.drop (k+1))=X at *
   generalize ((ns.length:Nat):Int)=l at *
   generalize ((k:Nat):Int)=kk at *
   generalize n/6=q at *
   unfold P6 P7
   generalize zx=G1 at *
   simp -implicitDefEqProofs only [uf,zk,ze,zo,sIf,z7,eC,za,eL,z9,z3,zg,asB,R.ok_bind,tD,tE,zV,if_false,tF,e2,z,d6,mk,hq,im]
end
theorem Ut (T1 T2 T3 T4 T5 T67:Tn->R Fl)(p w N d:D)(n y:Int)(ha:(Tgt.many [2,3]).asg p [some p,some (.int n),none,none,none,none,none]=.ok [some p,some (.int n),some w,some N,none,none,none])(hm:zz (.int n) (.int 6)=.ok (.int y))(h1:T1 [some p,some (.int n),some w,some N,some (.int y),none,none]=.ok (.rt d)):zy 7 (ze (ka (.many [2,3]) (z7 0)) (ze (zp 4 (za zz (z7 1) (eC (.int 6)))) (ze T1 (ze T2 (ze T3 (ze T4 (ze T5 T67))))))) [p,.int n]=.ok d:=by
 generalize hT:(Tgt.many [2,3])=T at *
 simp -implicitDefEqProofs only [zy,ze,zp,ka,z7,eC,za,R.ok_bind,tG,tR,tJ,tO,tS,tI,tM,tN,tD,tE,tH,tK,Nat.reduceAdd,Nat.reduceSub,tX,ha,hm,h1]
theorem VL (T1 T2 T3 T4 T5 T67:Tn->R Fl)(p w N d:D)(n y:Int)(ha:(Tgt.many [2,3]).asg p [some p,some (.int n),none,none,none,none,none]=.ok [some p,some (.int n),some w,some N,none,none,none])(hm:zz (.int n) (.int 6)=.ok (.int y))(τ:Tn)(h1:T1 [some p,some (.int n),some w,some N,some (.int y),none,none]=.ok (.nx τ))(h2:T2 τ=.ok (.rt d)):zy 7 (ze (ka (.many [2,3]) (z7 0)) (ze (zp 4 (za zz (z7 1) (eC (.int 6)))) (ze T1 (ze T2 (ze T3 (ze T4 (ze T5 T67))))))) [p,.int n]=.ok d:=by
 generalize hT:(Tgt.many [2,3])=T at *
 simp -implicitDefEqProofs only [zy,ze,zp,ka,z7,eC,za,R.ok_bind,tG,tR,tJ,tO,tS,tI,tM,tN,tD,tE,tH,tK,Nat.reduceAdd,Nat.reduceSub,tX,ha,hm,h1,h2]
theorem VE (T1 T2 T3 T4 T5 T67:Tn->R Fl)(p w N d:D)(n y:Int)(ha:(Tgt.many [2,3]).asg p [some p,some (.int n),none,none,none,none,none]=.ok [some p,some (.int n),some w,some N,none,none,none])(hm:zz (.int n) (.int 6)=.ok (.int y))(τ τ2 τ3 τ4 τ5:Tn)(h1:T1 [some p,some (.int n),some w,some N,some (.int y),none,none]=.ok (.nx τ))(h2:T2 τ=.ok (.nx τ2))(h3:T3 τ2=.ok (.nx τ3))(h4:T4 τ3=.ok (.nx τ4))(h5:T5 τ4=.ok (.nx τ5))(h6:T67 τ5=.ok (.rt d)):zy 7 (ze (ka (.many [2,3]) (z7 0)) (ze (zp 4 (za zz (z7 1) (eC (.int 6)))) (ze T1 (ze T2 (ze T3 (ze T4 (ze T5 T67))))))) [p,.int n]=.ok d:=by
 generalize hT:(Tgt.many [2,3])=T at *
 simp -implicitDefEqProofs only [zy,ze,zp,ka,z7,eC,za,R.ok_bind,tG,tR,tJ,tO,tS,tI,tM,tN,tD,tE,tH,tK,Nat.reduceAdd,Nat.reduceSub,tX,ha,hm,h1,h2,h3,h4,h5,h6]
theorem WM (p:D)(hp:Pr p)(n:Int):∃ d,yl [p,.int n]=.ok d/\NP d:=by
 obtain ⟨w,ns,rfl,hw,hl,hn⟩:=hp
 rw [tBP]
 have ha:(Tgt.many [2,3]).asg (.tup [w,.tup ns]) [some (.tup [w,.tup ns]),some (.int n),none,none,none,none,none]=.ok [some (.tup [w,.tup ns]),some (.int n),some w,some (.tup ns),none,none,none]:=rfl
 have hm:zz (.int n) (.int 6)=.ok (.int (n%6)):=zQ (by decide)
 generalize n%6=y at *
 by_cases h0:y=0
 ·subst h0
  obtain ⟨d,nd,h1⟩:=Jz w ns hw hl hn n (some (.tup [w,.tup ns])) none none
  exact ⟨d,Ut _ _ _ _ _ _ _ _ _ _ _ _ ha hm h1,nd⟩
 ·have h1:=K7 w ns hw hl hn n y h0 (some (.tup [w,.tup ns])) none none
  by_cases h01:y=1
  ·subst h01
   obtain ⟨d,nd,h2⟩:=Jb w ns hw hl hn n (some (.tup [w,.tup ns])) none none
   exact ⟨d,VL _ _ _ _ _ _ _ _ _ _ _ _ ha hm _ h1 h2,nd⟩
  ·have h2:=Kq w ns hw hl hn n y h01 (some (.tup [w,.tup ns])) none none
   obtain ⟨t,ht,h3⟩:=JN w ns hw hl hn n (some (.tup [w,.tup ns])) (some (.int y)) none none
   obtain ⟨d0,hd0,h4⟩:=Kv w ns hw hl hn n t ht (some (.tup [w,.tup ns])) (some w) (some (.tup ns)) (some (.int y)) none
   obtain ⟨d1,hd1,h5⟩:=JH w ns hw hl hn n y t d0 ht hd0 (some (.tup [w,.tup ns])) (some w) (some (.tup ns))
   obtain ⟨d,nd,h6⟩:=QL w ns hw hl hn n d1 hd1 (some (.tup [w,.tup ns])) (some (.int y)) (some t)
   exact ⟨d,VE _ _ _ _ _ _ _ _ _ _ _ _ ha hm _ _ _ _ _ h1 h2 h3 h4 h5 h6,nd⟩
end K06
namespace K06
open PySem PyProof.Rows L2
def R1:Tn->R Fl:=(sIf (vP (zg (za (eqR false) (z7 3) (eC (.int 0)))) (zg (za gtD (z7 2) (eC (.int 1))))) (zo (za ixD (eL (fun ds=>.ok (.lst ds)) (z3 (j8 (z7 0) (yR (eC (.int 1))) yY) (z3 (za xP (z7 0) (eL (fun ds=>.ok (.tup ds)) (z3 (eL (fun ds=>.ok (.tup ds)) z9) z9))) z9))) (za zz (za zu (z7 1) (eC (.int 4))) (eC (.int 2))))) zk)
def R2:Tn->R Fl:=(sIf (zg (za (eqR false) (z7 3) (eC (.int 1)))) (zo (eUn qL (eL xj (z3 (z7 0) z9)))) zk)
def R3:Tn->R Fl:=(zp 4 (za zz (za zu (z7 1) (eC (.int 4))) (eL yh (z3 (z7 0) z9))))
def R4:Tn->R Fl:=(sIf (zg (za (eqR false) (z7 3) (eC (.int 2)))) (zo (eL zx (z3 (z7 0) (z3 (z7 4) (z3 (za ixD (eL (fun ds=>.ok (.lst ds)) (z3 (eUn qL (eL xj (z3 (za ixD (z7 0) (z7 4)) z9))) (z3 (eC .non) (z3 (eC (.str "a")) (z3 (za xP (za ixD (z7 0) (z7 4)) (za xU (eL (fun ds=>.ok (.tup ds)) (z3 (eC (.str "b")) z9)) (eC (.int 13)))) z9))))) (za zz (za zu (z7 1) (eC (.int 20))) (eC (.int 4)))) z9))))) zk)
def R5:Tn->R Fl:=(zp 5 (za zz (za zu (z7 1) (eC (.int 20))) (za zU (eL yh (z3 (za ixD (z7 0) (z7 4)) z9)) (eC (.int 1)))))
def R6:Tn->R Fl:=(zo (eL zx (z3 (z7 0) (z3 (z7 4) (z3 (za xP (za xP (j8 (za ixD (z7 0) (z7 4)) yY (yR (z7 5))) (eL (fun ds=>.ok (.tup ds)) (z3 (eL zt (z3 (za zu (z7 1) (eC (.int 260))) z9)) z9))) (j8 (za ixD (z7 0) (z7 4)) (yR (z7 5)) yY)) z9)))))
theorem tBR:yD=zy 6 (ze (zp 3 (za zz (z7 1) (eC (.int 4)))) (ze R1 (ze R2 (ze R3 (ze R4 (ze R5 R6)))))):=rfl
def QR (k:Nat)(size:Int)(d:D):Prop:=NR d\/(1<size/\∃ k',k'<=10/\k'≠k/\Rw k' d)
theorem Ua {xs:List D}{k:Int}(h:D.imms xs=true/\-(2 ^ 63)<=k/\k<2 ^ 63/\xs.length*k.toNat<=sizeLine):xU (.tup xs) (.int k)=.ok (.tup (List.replicate k.toNat xs).flatten):=if_pos h
theorem Wq:Ce (.tup []):=⟨[],rfl,by decide,by decide,fun w hw=>nomatch hw⟩
theorem QP (a b:D)(p:D->Prop)(ha:p a)(hb:p b)(k:Nat)(hk:k<2):∃ x,ixD (.lst [a,b]) (.int (k:Nat))=.ok x/\p x:=by
 refine ⟨_,ZA (xs:=[a,b]) hk,?_⟩
 have:k=0\/k=1:=by omega
 rcases this with rfl | rfl<;>assumption
section
variable (cs:List D)(h1:1<=cs.length)(h4:cs.length<=4)(hc:∀ c∈cs,Ce c)(n sz:Int)
include h1 h4 hc
theorem Y8:D.imms cs=true:=ya fun t ht=>(hc t ht).imm
theorem z08 (y:Int)(hy:¬ (y=0/\1<sz))(x4 x5:Option D):R1 [some (.tup cs),some (.int n),some (.int sz),some (.int y),x4,x5]=.ok (.nx [some (.tup cs),some (.int n),some (.int sz),some (.int y),x4,x5]):=by
 unfold R1
 by_cases h:y=0
 ·have z:=isb h
  have e:decide (sz>1)=false:=decide_eq_false (fun g=>hy ⟨h,g⟩)
  simp -implicitDefEqProofs only [zk,zo,sIf,z7,eC,za,eL,z9,z3,zg,vP,asB,R.ok_bind,tD,tE,vG,zQ,zG,zV,if_true,if_false,tF,Int.reduceLT,z,e]
 ·have z:=Yl h
  simp -implicitDefEqProofs only [zk,zo,sIf,z7,eC,za,eL,z9,z3,zg,vP,asB,R.ok_bind,tD,tE,vG,zQ,zG,zV,if_false,tF,Int.reduceLT,z]
theorem J5 (hs:1<sz)(x4 x5:Option D):∃ d,QR cs.length sz d/\d.imm=true/\R1 [some (.tup cs),some (.int n),some (.int sz),some (.int 0),x4,x5]=.ok (.rt d):=by
 have z:((0:Int)==0)=true:=rfl
 have e:decide (sz>1)=true:=decide_eq_true hs
 have d4:zu (.int n) (.int 4)=.ok (.int (n/4)):=zG (by decide) (by decide)
 have i0:=Y8 cs h1 h4 hc
 have s1:=jw i0 1 h1
 have s1:slA (.tup cs) (some 1) none=.ok (.tup (cs.drop 1)):=s1
 have a1:=ZP (xs:=cs) (ys:=[.tup []]) i0 rfl (by show _+1<=_; omega)
 obtain ⟨k,mk,hk,_⟩:=xT (n/4) 2 (by decide)
 obtain ⟨d,hd,nd,im⟩:=QP (.tup (cs.drop 1)) (.tup (cs++[.tup []])) (fun d=>QR cs.length sz d/\d.imm=true)
  ⟨.inr ⟨hs,cs.length-1,by omega,by omega,cs.drop 1,rfl,by rw [rJ],fun c h=>hc c (List.mem_of_mem_drop h)⟩,uc i0 1⟩
  ⟨.inr ⟨hs,cs.length+1,by omega,by omega,_,rfl,by rw [tZ]; rfl,fun c h=>by
   rcases sC.mp h with h | h
   ·exact hc c h
   ·rw [sL.mp h]; exact Wq⟩,by show D.imms _=true; rw [yM,i0]; rfl⟩ k (by omega)
 refine ⟨d,nd,im,?_⟩
 generalize D.tup (cs.drop 1)=A1 at *
 generalize D.tup (cs++[.tup []])=A2 at *
 generalize ((k:Nat):Int)=kk at *
 generalize n/4=q at *
 unfold R1
 simp -implicitDefEqProofs only [zk,zo,sIf,z7,eC,za,eL,z9,z3,zg,vP,yY,yR,asB,R.ok_bind,tD,tE,vG,zV,if_true,if_false,tF,Zf,z,e,d4,s1,a1,mk,hd]
theorem KZ (y:Int)(hy:y≠1)(x2 x4 x5:Option D):R2 [some (.tup cs),some (.int n),x2,some (.int y),x4,x5]=.ok (.nx [some (.tup cs),some (.int n),x2,some (.int y),x4,x5]):=by
 have z:=Yl hy
 unfold R2
 simp -implicitDefEqProofs only [zk,zo,sIf,z7,eC,za,eUn,eL,z9,z3,zg,asB,R.ok_bind,tD,tE,zV,if_false,tF,z]
theorem Jd (x2 x4 x5:Option D):R2 [some (.tup cs),some (.int n),x2,some (.int 1),x4,x5]=.ok (.rt (.frl cs)):=by
 have z:((1:Int)==1)=true:=rfl
 have i0:=Y8 cs h1 h4 hc
 have l1:=kU i0
 have f2:=qR i0
 generalize D.lst cs=A3 at *
 unfold R2
 simp -implicitDefEqProofs only [zk,zo,sIf,z7,eC,za,eUn,eL,z9,z3,zg,asB,R.ok_bind,tD,tE,zV,if_true,if_false,tF,z,l1,f2]
theorem z06 (x2 x3 x4 x5:Option D):∃ a:Nat,a<cs.length/\R3 [some (.tup cs),some (.int n),x2,x3,x4,x5]=.ok (.nx [some (.tup cs),some (.int n),x2,x3,some (.int (a:Nat)),x5]):=by
 have d4:zu (.int n) (.int 4)=.ok (.int (n/4)):=zG (by decide) (by decide)
 have e2:=vW cs
 obtain ⟨k,mk,hk,_⟩:=xT (n/4) ((cs.length:Nat):Int) (by omega)
 refine ⟨k,by omega,?_⟩
 generalize ((cs.length:Nat):Int)=l at *
 generalize ((k:Nat):Int)=kk at *
 generalize n/4=q at *
 unfold R3
 simp -implicitDefEqProofs only [zp,z7,eC,za,eL,z9,z3,R.ok_bind,tD,tE,tH,tK,d4,e2,mk]
theorem YT (a:Nat)(d:D)(hd:NC d):NR (.tup (cs.take a++d::cs.drop (a+1))):=by
 refine ⟨XN _ (by have:=wH (xs:=cs) (d:=d) (a:=a) (b:=a+1); omega) (fun x hx=>?_) ⟨d,we,hd⟩,wx (Y8 cs h1 h4 hc) hd.2 _ _⟩
 rcases wd hx with h' | rfl
 ·exact .inl (hc x h')
 ·exact .inr hd
theorem KW (y:Int)(hy:y≠2)(x2 x4 x5:Option D):R4 [some (.tup cs),some (.int n),x2,some (.int y),x4,x5]=.ok (.nx [some (.tup cs),some (.int n),x2,some (.int y),x4,x5]):=by
 have z:=Yl hy
 unfold R4
 generalize zx=G1 at *
 simp -implicitDefEqProofs only [zk,zo,sIf,z7,eC,za,eUn,eL,z9,z3,zg,asB,R.ok_bind,tD,tE,zQ,zG,zV,if_false,tF,Int.reduceLT,z]
theorem Qj (a:Nat)(ha:a<cs.length)(x2 x5:Option D):∃ d,NR d/\R4 [some (.tup cs),some (.int n),x2,some (.int 2),some (.int (a:Nat)),x5]=.ok (.rt d):=by
 have z:((2:Int)==2)=true:=rfl
 have d20:zu (.int n) (.int 20)=.ok (.int (n/20)):=zG (by decide) (by decide)
 obtain ⟨k,mk,hk,_⟩:=xT (n/20) 4 (by decide)
 have hx:=ZF ha
 obtain ⟨ws,hw,_,l12,hws⟩:=hc _ (rA ha)
 rw [hw] at hx
 have i0:D.imms ws=true:=ya fun w hw=>(hws w hw).imm
 have l1:=kU i0
 have f2:=qR i0
 have mX:xU (.tup [.str "b"]) (.int 13)=.ok (.tup (List.replicate 13 [D.str "b"]).flatten):=Ua ⟨rfl,by decide,by decide,by rw [sizeLine_eq]; decide⟩
 have lX:((List.replicate 13 [D.str "b"]).flatten).length=13:=rfl
 have iX:D.imms ((List.replicate 13 [D.str "b"]).flatten)=true:=rfl
 generalize (List.replicate 13 [D.str "b"]).flatten=X at *
 have aX:=ZP i0 iX (by omega)
 obtain ⟨d,hd,nd⟩:=Qt (.frl ws) .non (.str "a") (.tup (ws++X)) NC ⟨kQ _ rfl,rfl⟩ ⟨kQ _ rfl,rfl⟩ ⟨kQ _ rfl,rfl⟩ ⟨by rw [qV,qj]; exact uM _ _ _ _ (.inr (by rw [tZ]; omega)),by show D.imms _=true; rw [yM,i0,iX]; rfl⟩ k (by omega)
 have hq:=jN cs a d (Y8 cs h1 h4 hc) nd.2 (by omega) ha
 refine ⟨_,YT cs h1 h4 hc a d nd,?_⟩
 generalize D.tup (cs.take a++d::cs.drop (a+1))=Y at *
 generalize D.tup (ws++X)=A1 at *
 generalize D.tup X=A0 at *
 generalize D.frl ws=A2 at *
 generalize D.lst ws=A3 at *
 generalize ((k:Nat):Int)=kk at *
 generalize ((a:Nat):Int)=aa at *
 generalize n/20=q at *
 unfold R4
 generalize zx=G1 at *
 simp -implicitDefEqProofs only [zk,zo,sIf,z7,eC,za,eUn,eL,z9,z3,zg,asB,R.ok_bind,tD,tE,zV,if_true,if_false,tF,z,d20,mk,hx,l1,f2,mX,aX,hd,hq]
theorem J6 (a:Nat)(ha:a<cs.length)(x2 x3 x5:Option D):∃ d,NR d/\ze R5 R6 [some (.tup cs),some (.int n),x2,x3,some (.int (a:Nat)),x5]=.ok (.rt d):=by
 have d20:zu (.int n) (.int 20)=.ok (.int (n/20)):=zG (by decide) (by decide)
 have d260:zu (.int n) (.int 260)=.ok (.int (n/260)):=zG (by decide) (by decide)
 have hx:=ZF ha
 obtain ⟨ws,hw,_,l12,hws⟩:=hc _ (rA ha)
 rw [hw] at hx
 have i0:D.imms ws=true:=ya fun w hw=>(hws w hw).imm
 have e2:=vW ws
 obtain ⟨k,mk,hk,_⟩:=xT (n/20) (((ws.length:Nat):Int)+1) (by omega)
 obtain ⟨b,hb,nb⟩:=uC (n/260)
 have s1:=WS i0 k (by omega)
 have s2:=jw i0 k (by omega)
 obtain ⟨a1,a2⟩:=UW i0 nb.2 (by omega) k k
 have nd:=V7 ws l12 hws k k b nb
 have hq:=jN cs a _ (Y8 cs h1 h4 hc) nd.2 (by omega) ha
 refine ⟨_,YT cs h1 h4 hc a _ nd,?_⟩
 generalize D.tup (cs.take a++D.tup (ws.take k++b::ws.drop k)::cs.drop (a+1))=Y at *
 generalize D.tup (ws.take k++b::ws.drop k)=Z at *
 generalize D.tup (ws.take k++[b])=A3 at *
 generalize D.tup (ws.take k)=A1 at *
 generalize D.tup (ws.drop k)=A2 at *
 generalize ((ws.length:Nat):Int)=l at *
 generalize ((k:Nat):Int)=kk at *
 generalize ((a:Nat):Int)=aa at *
 generalize n/260=q2 at *
 generalize n/20=q at *
 unfold R5 R6
 generalize zx=G1 at *
 generalize zt=G2 at *
 simp -implicitDefEqProofs only [ze,zp,zo,z7,eC,za,eL,z9,z3,yY,yR,R.ok_bind,tD,tE,tH,tK,yP,Zf,d20,d260,mk,hx,e2,hb,s1,s2,a1,a2,hq]
end
theorem z0J (T1 T2 T3 T4 T56:Tn->R Fl)(r s d:D)(n y:Int)(hm:zz (.int n) (.int 4)=.ok (.int y))(h1:T1 [some r,some (.int n),some s,some (.int y),none,none]=.ok (.rt d)):zy 6 (ze (zp 3 (za zz (z7 1) (eC (.int 4)))) (ze T1 (ze T2 (ze T3 (ze T4 T56))))) [r,.int n,s]=.ok d:=by
 simp -implicitDefEqProofs only [zy,ze,zp,z7,eC,za,R.ok_bind,tG,tR,tJ,tO,tS,tI,tM,tN,tD,tE,tH,tK,Nat.reduceAdd,Nat.reduceSub,tX,hm,h1]
theorem z0w (T1 T2 T3 T4 T56:Tn->R Fl)(r s d:D)(n y:Int)(hm:zz (.int n) (.int 4)=.ok (.int y))(τ1:Tn)(h1:T1 [some r,some (.int n),some s,some (.int y),none,none]=.ok (.nx τ1))(h2:T2 τ1=.ok (.rt d)):zy 6 (ze (zp 3 (za zz (z7 1) (eC (.int 4)))) (ze T1 (ze T2 (ze T3 (ze T4 T56))))) [r,.int n,s]=.ok d:=by
 simp -implicitDefEqProofs only [zy,ze,zp,z7,eC,za,R.ok_bind,tG,tR,tJ,tO,tS,tI,tM,tN,tD,tE,tH,tK,Nat.reduceAdd,Nat.reduceSub,tX,hm,h1,h2]
theorem z0h (T1 T2 T3 T4 T56:Tn->R Fl)(r s d:D)(n y:Int)(hm:zz (.int n) (.int 4)=.ok (.int y))(τ1 τ2 τ3:Tn)(h1:T1 [some r,some (.int n),some s,some (.int y),none,none]=.ok (.nx τ1))(h2:T2 τ1=.ok (.nx τ2))(h3:T3 τ2=.ok (.nx τ3))(h4:T4 τ3=.ok (.rt d)):zy 6 (ze (zp 3 (za zz (z7 1) (eC (.int 4)))) (ze T1 (ze T2 (ze T3 (ze T4 T56))))) [r,.int n,s]=.ok d:=by
 simp -implicitDefEqProofs only [zy,ze,zp,z7,eC,za,R.ok_bind,tG,tR,tJ,tO,tS,tI,tM,tN,tD,tE,tH,tK,Nat.reduceAdd,Nat.reduceSub,tX,hm,h1,h2,h3,h4]
theorem z0F (T1 T2 T3 T4 T56:Tn->R Fl)(r s d:D)(n y:Int)(hm:zz (.int n) (.int 4)=.ok (.int y))(τ1 τ2 τ3 τ4:Tn)(h1:T1 [some r,some (.int n),some s,some (.int y),none,none]=.ok (.nx τ1))(h2:T2 τ1=.ok (.nx τ2))(h3:T3 τ2=.ok (.nx τ3))(h4:T4 τ3=.ok (.nx τ4))(h5:T56 τ4=.ok (.rt d)):zy 6 (ze (zp 3 (za zz (z7 1) (eC (.int 4)))) (ze T1 (ze T2 (ze T3 (ze T4 T56))))) [r,.int n,s]=.ok d:=by
 simp -implicitDefEqProofs only [zy,ze,zp,z7,eC,za,R.ok_bind,tG,tR,tJ,tO,tS,tI,tM,tN,tD,tE,tH,tK,Nat.reduceAdd,Nat.reduceSub,tX,hm,h1,h2,h3,h4,h5]
theorem UE (k:Nat)(k1:1<=k)(k4:k<=4)(r:D)(hr:Rw k r)(n sz:Int):∃ d,yD [r,.int n,.int sz]=.ok d/\QR k sz d/\d.imm=true:=by
 obtain ⟨cs,rfl,rfl,hc⟩:=hr
 rw [tBR]
 have hm:zz (.int n) (.int 4)=.ok (.int (n%4)):=zQ (by decide)
 generalize n%4=y at *
 by_cases h0:y=0/\1<sz
 ·obtain ⟨rfl,hs⟩:=h0
  obtain ⟨d,q,im,h⟩:=J5 cs k1 k4 hc n sz hs none none
  exact ⟨d,z0J _ _ _ _ _ _ _ _ _ _ hm h,q,im⟩
 ·have e1:=z08 cs k1 k4 hc n sz y h0 none none
  by_cases h1:y=1
  ·subst h1
   exact ⟨_,z0w _ _ _ _ _ _ _ _ _ _ hm _ e1 (Jd cs k1 k4 hc n _ none none),.inl ⟨QN _ rfl,rfl⟩,rfl⟩
  ·have e2:=KZ cs k1 k4 hc n y h1 (some (.int sz)) none none
   obtain ⟨a,ha,e3⟩:=z06 cs k1 k4 hc n (some (.int sz)) (some (.int y)) none none
   by_cases h2:y=2
   ·subst h2
    obtain ⟨d,nd,e4⟩:=Qj cs k1 k4 hc n a ha (some (.int sz)) none
    exact ⟨d,z0h _ _ _ _ _ _ _ _ _ _ hm _ _ _ e1 e2 e3 e4,.inl nd,nd.2⟩
   ·have e4:=KW cs k1 k4 hc n y h2 (some (.int sz)) (some (.int (a:Nat))) none
    obtain ⟨d,nd,e5⟩:=J6 cs k1 k4 hc n a ha (some (.int sz)) (some (.int y)) none
    exact ⟨d,z0F _ _ _ _ _ _ _ _ _ _ hm _ _ _ _ e1 e2 e3 e4 e5,.inl nd,nd.2⟩
end K06
namespace K06
open PySem PyProof.Rows L2
def Ag (x x':Option D)(T:Tn->R Fl):Prop:=∀ τ,(∃ τ1,T (x::τ)=.ok (.nx (x::τ1))/\T (x'::τ)=.ok (.nx (x'::τ1)))\/(∃ d,T (x::τ)=.ok (.rt d)/\T (x'::τ)=.ok (.rt d))\/(∃ m,T (x::τ)=.err m/\T (x'::τ)=.err m)\/(T (x::τ)=.bad/\T (x'::τ)=.bad)
section
variable {x x':Option D}
theorem Ag.seq {A B:Tn->R Fl}(ha:Ag x x' A)(hb:Ag x x' B):Ag x x' (ze A B):=fun τ=>by
 unfold ze
 rcases ha τ with ⟨τ1,e1,e2⟩ | ⟨d,e1,e2⟩ | ⟨m,e1,e2⟩ | ⟨e1,e2⟩
 ·rw [e1,e2]; exact hb τ1
 ·rw [e1,e2]; exact .inr (.inl ⟨d,rfl,rfl⟩)
 ·rw [e1,e2]; exact .inr (.inr (.inl ⟨m,rfl,rfl⟩))
 ·rw [e1,e2]; exact .inr (.inr (.inr ⟨rfl,rfl⟩))
theorem Ag.set {i:Nat}{E:Tn->R D}(h:∀ τ,E (x::τ)=E (x'::τ)):Ag x x' (zp (i+1) E):=fun τ=>by
 unfold zp
 rw [h τ]
 cases E (x'::τ) with
 | ok d=>exact .inl ⟨τ.set i (some d),rfl,rfl⟩
 | err m=>exact .inr (.inr (.inl ⟨m,rfl,rfl⟩))
 | bad=>exact .inr (.inr (.inr ⟨rfl,rfl⟩))
theorem Ag.ret {E:Tn->R D}(h:∀ τ,E (x::τ)=E (x'::τ)):Ag x x' (zo E):=fun τ=>by
 unfold zo
 rw [h τ]
 cases E (x'::τ) with
 | ok d=>exact .inr (.inl ⟨d,rfl,rfl⟩)
 | err m=>exact .inr (.inr (.inl ⟨m,rfl,rfl⟩))
 | bad=>exact .inr (.inr (.inr ⟨rfl,rfl⟩))
theorem Ag.skip:Ag x x' zk:=fun τ=>.inl ⟨τ,rfl,rfl⟩
theorem Ag.ite {C:Tn->R Bool}{A B:Tn->R Fl}(h:∀ τ,C (x::τ)=C (x'::τ))(ha:Ag x x' A)(hb:Ag x x' B):Ag x x' (sIf C A B):=fun τ=>by
 unfold sIf
 rw [h τ]
 cases C (x'::τ) with
 | ok b =>
  cases b
  ·exact hb τ
  ·exact ha τ
 | err m=>exact .inr (.inr (.inl ⟨m,rfl,rfl⟩))
 | bad=>exact .inr (.inr (.inr ⟨rfl,rfl⟩))
end
theorem Ag.run {d d':D}{n:Nat}{T:Tn->R Fl}(h:Ag (some d) (some d') T)(ds:List D):zy n T (d::ds)=zy n T (d'::ds):=by
 unfold zy
 simp only [tG,tM,tJ]
 rcases h (ds.map some++List.replicate (n-(ds.length+1)) none) with ⟨τ1,e1,e2⟩ | ⟨r,e1,e2⟩ | ⟨m,e1,e2⟩ | ⟨e1,e2⟩<;>rw [e1,e2]
section
variable (n:Int)
theorem JW:zz (.int n) (.int 42)=zz (.int (n%42)) (.int 42):=by
 rw [zQ (by decide),zQ (by decide),Int.emod_emod_of_dvd n (by decide:(42:Int) ∣ 42)]
theorem Uz:yI [.int n]=yI [.int (n%42)]:=by
 refine Ag.run (n:=3) (T:=uw) ?_ []
 unfold uw
 refine Ag.seq (Ag.set fun _=>rfl) (Ag.seq (Ag.set fun _=>rfl) (Ag.seq (Ag.set fun _=>rfl) (Ag.seq (Ag.set fun _=>rfl) (Ag.seq (Ag.set fun _=>rfl) (Ag.seq (Ag.set fun _=>rfl) (Ag.seq (Ag.set fun _=>rfl) (Ag.seq (Ag.set fun _=>rfl) (Ag.seq (Ag.set fun _=>rfl) (Ag.seq (Ag.set fun _=>rfl) (Ag.ret fun τ=>?_))))))))))
 have h:=JW n
 have e:∀ y,uW (za ixD (z7 2) (za zz (z7 0) (eC (.int 42)))) (some (.int y)::τ)=((z7 1 τ).bind fun a=>(zz (.int y) (.int 42)).bind fun b=>ixD a b).bind QS:=fun _=>rfl
 rw [e,e,h]
end
theorem QG (n:Int):∃ d,yI [.int n]=.ok d/\NB d:=by
 rw [Uz n]
 obtain ⟨k,hk,h42⟩:∃ k:Nat,n%42=((k:Nat):Int)/\k<42:=⟨(n%42).toNat,by omega,by omega⟩
 rw [hk]
 have h:=Ym
 rw [rE] at h
 have h:=h k (rR.mpr h42)
 unfold chk at h
 generalize yI [.int (k:Nat)]=r at *
 cases r with
 | ok d =>
  have h:(d.imm&&isF (zq [d]))=true:=h
  rw [sP] at h
  exact ⟨d,rfl,wQ h.2,h.1⟩
 | err _=>cases h
 | bad=>cases h
section
variable (n:Int)
theorem z0q:zz (.int n) (.int 8)=zz (.int (n%160)) (.int 8):=by
 rw [zQ (by decide),zQ (by decide),Int.emod_emod_of_dvd n (by decide:(8:Int) ∣ 160)]
theorem XB (d:D):yj [.int n,d]=yj [.int (n%160),d]:=by
 refine Ag.run (n:=3) (T:=vz) ?_ [d]
 unfold vz
 refine Ag.seq (Ag.set fun τ=>?_) (Ag.seq (Ag.ite (fun _=>rfl) (Ag.ret fun _=>rfl) Ag.skip) (Ag.seq (Ag.ite (fun _=>rfl) (Ag.ret fun _=>rfl) Ag.skip) (Ag.seq (Ag.ite (fun _=>rfl) (Ag.ret fun _=>rfl) Ag.skip) (Ag.seq (Ag.ite (fun _=>rfl) (Ag.ret fun _=>rfl) Ag.skip) (Ag.seq (Ag.ite (fun _=>rfl) (Ag.ret fun _=>rfl) Ag.skip) (Ag.seq (Ag.ite (fun _=>rfl) (Ag.ret fun _=>rfl) Ag.skip) (Ag.seq (Ag.ite (fun _=>rfl) (Ag.ret fun _=>rfl) Ag.skip) (Ag.ret fun _=>rfl))))))))
 exact z0q n
theorem z0A:(zz (.int (n/8)) (.int 20))=zz (.int (n%160/8)) (.int 20):=by
 rw [zQ (by decide),zQ (by decide)]
 congr 2
 omega
theorem q20 (τ:Tn):za zz (za zu (z7 0) (eC (.int 8))) (eC (.int 20)) (some (.int n)::τ)=za zz (za zu (z7 0) (eC (.int 8))) (eC (.int 20)) (some (.int (n%160))::τ):=by
 have e:∀ y,za zz (za zu (z7 0) (eC (.int 8))) (eC (.int 20)) (some (.int y)::τ)=(zu (.int y) (.int 8)).bind fun a=>zz a (.int 20):=fun _=>rfl
 rw [e,e,zG (by decide) (by decide),zG (by decide) (by decide),R.ok_bind,R.ok_bind,z0A n]
theorem Kr (k:Int)(τ:Tn):eL yj (z3 (z7 0) (z3 (eC (.int k)) z9)) (some (.int n)::τ)=eL yj (z3 (z7 0) (z3 (eC (.int k)) z9)) (some (.int (n%160))::τ):=by
 have e:∀ y,eL yj (z3 (z7 0) (z3 (eC (.int k)) z9)) (some (.int y)::τ)=yj [.int y,.int k]:=fun _=>rfl
 rw [e,e,XB]
section
variable {x x':Option D}
theorem qA {g:D->D->R D}{a b:Tn->R D}(ha:∀ τ,a (x::τ)=a (x'::τ))(hb:∀ τ,b (x::τ)=b (x'::τ))(τ:Tn):za g a b (x::τ)=za g a b (x'::τ):=by unfold za; rw [ha τ,hb τ]
theorem x_L {g:List D->R D}{a:Tn->R (List D)}(ha:∀ τ,a (x::τ)=a (x'::τ))(τ:Tn):eL g a (x::τ)=eL g a (x'::τ):=by unfold eL; rw [ha τ]
theorem wO {a:Tn->R D}{b:Tn->R (List D)}(ha:∀ τ,a (x::τ)=a (x'::τ))(hb:∀ τ,b (x::τ)=b (x'::τ))(τ:Tn):z3 a b (x::τ)=z3 a b (x'::τ):=by unfold z3; rw [ha τ,hb τ]
theorem qZ (τ:Tn):z9 (x::τ)=z9 (x'::τ):=rfl
theorem V8 {a:Tn->R D}(ha:∀ τ,a (x::τ)=a (x'::τ))(τ:Tn):zg a (x::τ)=zg a (x'::τ):=by unfold zg; rw [ha τ]
theorem z0i {a b:Tn->R Bool}(ha:∀ τ,a (x::τ)=a (x'::τ))(hb:∀ τ,b (x::τ)=b (x'::τ))(τ:Tn):bOr a b (x::τ)=bOr a b (x'::τ):=by unfold bOr; rw [ha τ,hb τ]
theorem Ku {a:Tn->R Bool}(ha:∀ τ,a (x::τ)=a (x'::τ))(τ:Tn):yk a (x::τ)=yk a (x'::τ):=by unfold yk; rw [ha τ]
end
theorem YE:yt [.int n]=yt [.int (n%160)]:=by
 refine Ag.run (n:=5) (T:=wR) ?_ []
 have h1:=q20 n
 have h2:=Kr n 0
 have h3:=Kr n 1
 unfold wR
 generalize zA=G1 at *
 generalize zL=G2 at *
 generalize zq=G3 at *
 refine Ag.seq (Ag.set (x_L (wO h2 qZ))) (Ag.seq (Ag.ite (fun _=>rfl) (Ag.ret fun _=>rfl) Ag.skip) (Ag.seq (Ag.ite (z0i (V8 (qA (x_L (wO h3 qZ)) fun _=>rfl)) (Ku (V8 (x_L (wO (x_L (wO (fun _=>rfl) (wO h3 qZ))) qZ))))) (Ag.ret fun _=>rfl) Ag.skip) (Ag.seq (Ag.set (x_L (wO (fun _=>rfl) (wO (qA (fun _=>rfl) h1) qZ)))) (Ag.seq (Ag.set (x_L (wO (fun _=>rfl) (wO (qA (fun _=>rfl) (qA (fun _=>rfl) (qA (fun _=>rfl) h1))) qZ)))) (Ag.seq (Ag.set (qA (fun _=>rfl) (qA (fun _=>rfl) (x_L (wO (qA h1 fun _=>rfl) qZ))))) (Ag.seq (Ag.ite (fun _=>rfl) (Ag.ret fun _=>rfl) Ag.skip) (Ag.ret fun _=>rfl)))))))
end
theorem Xm (n:Int):yt [.int n]=.ok (.bl true):=by
 rw [YE n]
 obtain ⟨k,hk,h1⟩:∃ k:Nat,n%160=((k:Nat):Int)/\k<160:=⟨(n%160).toNat,by omega,by omega⟩
 rw [hk]
 have h:=jR
 rw [rE] at h
 exact uY (h k (rR.mpr h1))
def S1:Tn->R Fl:=(sIf (zg (za (eqR false) (za ixD (z7 0) (eC (.int 0))) (eC (.str "leaf")))) (zo (za ixD (eL (fun ds=>.ok (.lst ds)) (z3 (eL (fun ds=>.ok (.tup ds)) (z3 (eC (.str "leaf")) (z3 (eL (fun ds=>.ok (.tup ds)) z9) z9))) (z3 (eL (fun ds=>.ok (.tup ds)) (z3 (eC (.str "leaf")) (z3 (eC .non) z9))) (z3 (eL vH (z3 (eC (.str "leaf")) z9)) z9)))) (za zz (z7 1) (eC (.int 3))))) zk)
def S2:Tn->R Fl:=(zp 2 (za zz (z7 1) (eL yh (z3 (za ixD (z7 0) (eC (.int 1))) z9))))
def S3:Tn->R Fl:=(zp 3 (za zu (z7 1) (eC (.int 7))))
def S4:Tn->R Fl:=(sIf (zg (za (eqR false) (za ixD (z7 0) (eC (.int 0))) (eC (.str "head")))) (zo (eL (fun ds=>.ok (.tup ds)) (z3 (eC (.str "head")) (z3 (eL zx (z3 (za ixD (z7 0) (eC (.int 1))) (z3 (z7 2) (z3 (eL zt (z3 (z7 3) z9)) z9)))) z9)))) zk)
def S5:Tn->R Fl:=(sIf (zg (za (eqR false) (za ixD (z7 0) (eC (.int 0))) (eC (.str "text")))) (zo (eL (fun ds=>.ok (.tup ds)) (z3 (eC (.str "text")) (z3 (eL zx (z3 (za ixD (z7 0) (eC (.int 1))) (z3 (z7 2) (z3 (eL yl (z3 (za ixD (za ixD (z7 0) (eC (.int 1))) (z7 2)) (z3 (z7 3) z9))) z9)))) z9)))) zk)
def S6:Tn->R Fl:=(zo (eL (fun ds=>.ok (.tup ds)) (z3 (eC (.str "table")) (z3 (eL zx (z3 (za ixD (z7 0) (eC (.int 1))) (z3 (z7 2) (z3 (eL yD (z3 (za ixD (za ixD (z7 0) (eC (.int 1))) (z7 2)) (z3 (z7 3) (z3 (eL yh (z3 (za ixD (z7 0) (eC (.int 1))) z9)) z9)))) z9)))) z9))))
theorem tSP:yx=zy 4 (ze S1 (ze S2 (ze S3 (ze S4 (ze S5 S6))))):=rfl
theorem V2 (z:Str)(t:D)(n:Int)(x2 x3:Option D)(hz:eqR false (.str z) (.str "leaf")=.ok (.bl false)):S1 [some (.tup [.str z,t]),some (.int n),x2,x3]=.ok (.nx [some (.tup [.str z,t]),some (.int n),x2,x3]):=by
 unfold S1
 simp -implicitDefEqProofs only [zk,zo,sIf,z7,eC,za,eL,z9,z3,zg,asB,R.ok_bind,tD,tE,zQ,xw,if_false,tF,Int.reduceLT,hz]
theorem Qh:NB (.tup [.str "leaf",.tup []]):=⟨wQ (by decide +kernel),rfl⟩
theorem Ja:NB (.tup [.str "leaf",.non]):=⟨wQ (by decide +kernel),rfl⟩
theorem Jo:NB (.frl [.str "leaf"]):=⟨wQ (by decide +kernel),rfl⟩
theorem Jy (n:Int)(x2 x3:Option D):∃ d,NB d/\S1 [some (.tup [.str "leaf"]),some (.int n),x2,x3]=.ok (.rt d):=by
 have hz:eqR false (.str "leaf") (.str "leaf")=.ok (.bl true):=uY (by decide +kernel)
 obtain ⟨k,mk,hk,_⟩:=xT n 3 (by decide)
 have hk:k<3:=by omega
 have hx:=ZA (xs:=[D.tup [.str "leaf",.tup []],.tup [.str "leaf",.non],.frl [.str "leaf"]]) hk
 have f1:vH [.str "leaf"]=.ok (.frl [.str "leaf"]):=rfl
 refine ⟨[D.tup [.str "leaf",.tup []],.tup [.str "leaf",.non],.frl [.str "leaf"]][k],?_,?_⟩
 ·have:k=0\/k=1\/k=2:=by omega
  rcases this with rfl | rfl | rfl
  ·exact Qh
  ·exact Ja
  ·exact Jo
 ·generalize [D.tup [.str "leaf",.tup []],.tup [.str "leaf",.non],.frl [.str "leaf"]][k]=d at *
  generalize ((k:Nat):Int)=kk at *
  unfold S1
  simp -implicitDefEqProofs only [zk,zo,sIf,z7,eC,za,eL,z9,z3,zg,asB,R.ok_bind,tD,tE,xw,if_true,hz,mk,f1,hx]
theorem WR (z:Str)(xs:List D)(h:1<=xs.length)(n:Int)(x2 x3:Option D):∃ a:Nat,a<xs.length/\S2 [some (.tup [.str z,.tup xs]),some (.int n),x2,x3]=.ok (.nx [some (.tup [.str z,.tup xs]),some (.int n),some (.int (a:Nat)),x3]):=by
 have e2:=vW xs
 obtain ⟨k,mk,hk,_⟩:=xT n ((xs.length:Nat):Int) (by omega)
 refine ⟨k,by omega,?_⟩
 generalize ((xs.length:Nat):Int)=l at *
 generalize ((k:Nat):Int)=kk at *
 unfold S2
 simp -implicitDefEqProofs only [zp,z7,eC,za,eL,z9,z3,R.ok_bind,tD,tE,tH,tK,xB,e2,mk]
theorem W7 (x0 x2 x3:Option D)(n:Int):S3 [x0,some (.int n),x2,x3]=.ok (.nx [x0,some (.int n),x2,some (.int (n/7))]):=by
 have d7:zu (.int n) (.int 7)=.ok (.int (n/7)):=zG (by decide) (by decide)
 unfold S3
 generalize n/7=q at *
 simp -implicitDefEqProofs only [zp,z7,eC,za,R.ok_bind,tD,tE,tH,tK,d7]
theorem UO (z:Str)(t:D)(x1 x2 x3:Option D)(hz:eqR false (.str z) (.str "head")=.ok (.bl false)):S4 [some (.tup [.str z,t]),x1,x2,x3]=.ok (.nx [some (.tup [.str z,t]),x1,x2,x3]):=by
 unfold S4
 generalize zx=G1 at *
 generalize zt=G2 at *
 simp -implicitDefEqProofs only [zk,zo,sIf,z7,eC,za,eL,z9,z3,zg,asB,R.ok_bind,tD,tE,xw,xB,if_false,tF,hz]
theorem JY (z:Str)(t:D)(x1 x2 x3:Option D)(hz:eqR false (.str z) (.str "text")=.ok (.bl false)):S5 [some (.tup [.str z,t]),x1,x2,x3]=.ok (.nx [some (.tup [.str z,t]),x1,x2,x3]):=by
 unfold S5
 generalize zx=G1 at *
 generalize yl=G2 at *
 simp -implicitDefEqProofs only [zk,zo,sIf,z7,eC,za,eL,z9,z3,zg,asB,R.ok_bind,tD,tE,xw,xB,if_false,tF,hz]
theorem QV (ws:List D)(h1:1<=ws.length)(h2:ws.length<=12)(h:∀ w∈ws,Wd w)(a:Nat)(ha:a<ws.length)(m:Int)(x1:Option D):∃ d,NB d/\S4 [some (.tup [.str "head",.tup ws]),x1,some (.int (a:Nat)),some (.int m)]=.ok (.rt d):=by
 have hz:eqR false (.str "head") (.str "head")=.ok (.bl true):=uY (by decide +kernel)
 obtain ⟨b,hb,nb⟩:=uC m
 have i0:D.imms ws=true:=ya fun w hw=>(h w hw).imm
 have hq:=jN ws a b i0 nb.2 (by omega) ha
 refine ⟨.tup [.str "head",.tup (ws.take a++b::ws.drop (a+1))],⟨u6 _ _ _ (fun _=>vV _ (by have:=wH (xs:=ws) (d:=b) (a:=a) (b:=a+1); omega) (fun x hx=>?_) ⟨b,we,nb⟩ _ _) (fun h=>absurd h (by decide)) (fun h=>absurd h (by decide)) (.inl rfl),?_⟩,?_⟩
 ·rcases wd hx with h' | rfl
  ·exact .inl (h x h')
  ·exact .inr nb
 ·show (true&&(D.imms _&&true))=true
  rw [wx i0 nb.2]; rfl
 ·generalize D.tup (ws.take a++b::ws.drop (a+1))=X at *
  generalize ((a:Nat):Int)=aa at *
  unfold S4
  generalize zx=G1 at *
  generalize zt=G2 at *
  simp -implicitDefEqProofs only [zk,zo,sIf,z7,eC,za,eL,z9,z3,zg,asB,R.ok_bind,tD,tE,xw,xB,if_true,hz,hb,hq]
theorem Qr (ps:List D)(h1:1<=ps.length)(h2:ps.length<=200)(h:∀ p∈ps,Pr p)(a:Nat)(ha:a<ps.length)(m:Int)(x1:Option D):∃ d,NB d/\S5 [some (.tup [.str "text",.tup ps]),x1,some (.int (a:Nat)),some (.int m)]=.ok (.rt d):=by
 have hz:eqR false (.str "text") (.str "text")=.ok (.bl true):=uY (by decide +kernel)
 have hx:=ZF ha
 obtain ⟨b,hb,nb⟩:=WM _ (h _ (rA ha)) m
 have i0:D.imms ps=true:=ya fun w hw=>(h w hw).imm
 have hq:=jN ps a b i0 nb.2 (by omega) ha
 refine ⟨.tup [.str "text",.tup (ps.take a++b::ps.drop (a+1))],⟨u6 _ _ _ (fun h=>absurd h (by decide)) (fun _=>ZK _ (by have:=wH (xs:=ps) (d:=b) (a:=a) (b:=a+1); omega) (fun x hx=>?_) ⟨b,we,nb⟩ _ _) (fun h=>absurd h (by decide)) (.inr (.inl rfl)),?_⟩,?_⟩
 ·rcases wd hx with h' | rfl
  ·exact .inl (h x h')
  ·exact .inr nb
 ·show (true&&(D.imms _&&true))=true
  rw [wx i0 nb.2]; rfl
 ·generalize D.tup (ps.take a++b::ps.drop (a+1))=X at *
  generalize ps[a]=pa at *
  generalize ((a:Nat):Int)=aa at *
  unfold S5
  generalize zx=G1 at *
  generalize yl=G2 at *
  simp -implicitDefEqProofs only [zk,zo,sIf,z7,eC,za,eL,z9,z3,zg,asB,R.ok_bind,tD,tE,xw,xB,if_true,hz,hx,hb,hq]
theorem XU (k:Nat)(k1:1<=k)(k4:k<=4)(rs:List D)(l1:1<=rs.length)(l2:rs.length<=20)(h:∀ r∈rs,Rw k r)(a:Nat)(ha:a<rs.length)(b:D)(hb:QR k (rs.length:Nat) b):yr [.tup (rs.take a++b::rs.drop (a+1))]=.ok (.bl false):=by
 have hl:=wH (xs:=rs) (d:=b) (a:=a) (b:=a+1)
 rcases hb with nb | ⟨hs,k',q1,q2,hk⟩
 ·refine Z6 _ k k4 (by omega) (fun x hx=>?_) ⟨b,we,nb⟩
  rcases wd hx with h' | rfl
  ·exact .inl (h x h')
  ·exact .inr nb
 ·have hx:∃ c∈rs.take a++b::rs.drop (a+1),Rw k c:=by
   by_cases h0:a=0
   ·subst h0
    have hd:0<(rs.drop 1).length:=by rw [rJ]; omega
    exact ⟨(rs.drop 1)[0],tQ _ (sA _ (rA hd)),h _ (List.mem_of_mem_drop (rA hd))⟩
   ·have hd:0<(rs.take a).length:=by rw [rC]; omega
    exact ⟨(rs.take a)[0],tU _ (rA hd),h _ (List.mem_of_mem_take (rA hd))⟩
  obtain ⟨c,mc,hc⟩:=hx
  refine kO _ (by omega) (fun x hx=>?_) b c we mc (by rw [hk.klen,hc.klen]; exact q2)
  rcases wd hx with h' | rfl
  ·exact ⟨k,by omega,h x h'⟩
  ·exact ⟨k',q1,hk⟩
theorem QH (k:Nat)(k1:1<=k)(k4:k<=4)(rs:List D)(l1:1<=rs.length)(l2:rs.length<=20)(h:∀ r∈rs,Rw k r)(a:Nat)(ha:a<rs.length)(m:Int)(x1:Option D):∃ d,NB d/\S6 [some (.tup [.str "table",.tup rs]),x1,some (.int (a:Nat)),some (.int m)]=.ok (.rt d):=by
 have hx:=ZF ha
 have e2:=vW rs
 obtain ⟨b,hb,nb,im⟩:=UE k k1 k4 _ (h _ (rA ha)) m ((rs.length:Nat):Int)
 have i0:D.imms rs=true:=ya fun w hw=>(h w hw).imm
 have hq:=jN rs a b i0 im (by omega) ha
 refine ⟨.tup [.str "table",.tup (rs.take a++b::rs.drop (a+1))],⟨u6 _ _ _ (fun h=>absurd h (by decide)) (fun h=>absurd h (by decide)) (fun _=>XU k k1 k4 rs l1 l2 h a ha b nb) (.inr (.inr rfl)),?_⟩,?_⟩
 ·show (true&&(D.imms _&&true))=true
  rw [wx i0 im]; rfl
 ·generalize D.tup (rs.take a++b::rs.drop (a+1))=X at *
  generalize rs[a]=pa at *
  generalize ((rs.length:Nat):Int)=l at *
  generalize ((a:Nat):Int)=aa at *
  unfold S6
  generalize zx=G1 at *
  generalize yD=G2 at *
  simp -implicitDefEqProofs only [zo,z7,eC,za,eL,z9,z3,R.ok_bind,tD,tE,xB,hx,e2,hb,hq]
theorem z0m (T1 T2 T3 T4 T5 T6:Tn->R Fl)(b n d:D)(h1:T1 [some b,some n,none,none]=.ok (.rt d)):zy 4 (ze T1 (ze T2 (ze T3 (ze T4 (ze T5 T6))))) [b,n]=.ok d:=by
 simp -implicitDefEqProofs only [zy,ze,R.ok_bind,tG,tR,tJ,tO,tS,tI,tM,tN,Nat.reduceAdd,Nat.reduceSub,tX,h1]
theorem z0o (T1 T2 T3 T4 T5 T6:Tn->R Fl)(b n d:D)(τ1 τ2 τ3:Tn)(h1:T1 [some b,some n,none,none]=.ok (.nx τ1))(h2:T2 τ1=.ok (.nx τ2))(h3:T3 τ2=.ok (.nx τ3))(h4:T4 τ3=.ok (.rt d)):zy 4 (ze T1 (ze T2 (ze T3 (ze T4 (ze T5 T6))))) [b,n]=.ok d:=by
 simp -implicitDefEqProofs only [zy,ze,R.ok_bind,tG,tR,tJ,tO,tS,tI,tM,tN,Nat.reduceAdd,Nat.reduceSub,tX,h1,h2,h3,h4]
theorem z0r (T1 T2 T3 T4 T5 T6:Tn->R Fl)(b n d:D)(τ1 τ2 τ3 τ4:Tn)(h1:T1 [some b,some n,none,none]=.ok (.nx τ1))(h2:T2 τ1=.ok (.nx τ2))(h3:T3 τ2=.ok (.nx τ3))(h4:T4 τ3=.ok (.nx τ4))(h5:T5 τ4=.ok (.rt d)):zy 4 (ze T1 (ze T2 (ze T3 (ze T4 (ze T5 T6))))) [b,n]=.ok d:=by
 simp -implicitDefEqProofs only [zy,ze,R.ok_bind,tG,tR,tJ,tO,tS,tI,tM,tN,Nat.reduceAdd,Nat.reduceSub,tX,h1,h2,h3,h4,h5]
theorem z0k (T1 T2 T3 T4 T5 T6:Tn->R Fl)(b n d:D)(τ1 τ2 τ3 τ4 τ5:Tn)(h1:T1 [some b,some n,none,none]=.ok (.nx τ1))(h2:T2 τ1=.ok (.nx τ2))(h3:T3 τ2=.ok (.nx τ3))(h4:T4 τ3=.ok (.nx τ4))(h5:T5 τ4=.ok (.nx τ5))(h6:T6 τ5=.ok (.rt d)):zy 4 (ze T1 (ze T2 (ze T3 (ze T4 (ze T5 T6))))) [b,n]=.ok d:=by
 simp -implicitDefEqProofs only [zy,ze,R.ok_bind,tG,tR,tJ,tO,tS,tI,tM,tN,Nat.reduceAdd,Nat.reduceSub,tX,h1,h2,h3,h4,h5,h6]
theorem J7 (b:D)(m:Nat)(hb:Bk b m)(n:Int):∃ d,yx [b,.int n]=.ok d/\NB d:=by
 rw [tSP]
 cases hb with
 | leaf =>
  obtain ⟨d,nd,h⟩:=Jy n none none
  exact ⟨d,z0m _ _ _ _ _ _ _ _ _ h,nd⟩
 | head h =>
  obtain ⟨ws,rfl,l1,l2,h⟩:=h
  have h1:=V2 "head" (.tup ws) n none none (wQ (by decide +kernel))
  obtain ⟨a,ha,h2⟩:=WR "head" ws l1 n none none
  have h3:=W7 (some (.tup [.str "head",.tup ws])) (some (.int (a:Nat))) none n
  obtain ⟨d,nd,h4⟩:=QV ws l1 l2 h a ha (n/7) (some (.int n))
  exact ⟨d,z0o _ _ _ _ _ _ _ _ _ _ _ _ h1 h2 h3 h4,nd⟩
 | @text ps l1 l2 h =>
  have h1:=V2 "text" (.tup ps) n none none (wQ (by decide +kernel))
  obtain ⟨a,ha,h2⟩:=WR "text" ps l1 n none none
  have h3:=W7 (some (.tup [.str "text",.tup ps])) (some (.int (a:Nat))) none n
  have h4:=UO "text" (.tup ps) (some (.int n)) (some (.int (a:Nat))) (some (.int (n/7))) (wQ (by decide +kernel))
  obtain ⟨d,nd,h5⟩:=Qr ps l1 l2 h a ha (n/7) (some (.int n))
  exact ⟨d,z0r _ _ _ _ _ _ _ _ _ _ _ _ _ h1 h2 h3 h4 h5,nd⟩
 | table h =>
  obtain ⟨k,rs,rfl,k1,k4,l1,l2,h⟩:=h
  have h1:=V2 "table" (.tup rs) n none none (wQ (by decide +kernel))
  obtain ⟨a,ha,h2⟩:=WR "table" rs l1 n none none
  have h3:=W7 (some (.tup [.str "table",.tup rs])) (some (.int (a:Nat))) none n
  have h4:=UO "table" (.tup rs) (some (.int n)) (some (.int (a:Nat))) (some (.int (n/7))) (wQ (by decide +kernel))
  have h5:=JY "table" (.tup rs) (some (.int n)) (some (.int (a:Nat))) (some (.int (n/7))) (wQ (by decide +kernel))
  obtain ⟨d,nd,h6⟩:=QH k k1 k4 rs l1 l2 h a ha (n/7) (some (.int n))
  exact ⟨d,z0k _ _ _ _ _ _ _ _ _ _ _ _ _ _ h1 h2 h3 h4 h5 h6,nd⟩
end K06
namespace K06
open PySem PyProof.Rows L2
def L1:Tn->R Fl:=(zp 1 (eL yJ (z3 (z7 0) (z3 (eC (.int 0)) z9))))
def L2:Tn->R Fl:=(zp 2 (eL xj (z3 (z7 1) z9)))
def L3:Tn->R Fl:=(sIf (bOr (zg (za (isB true) (eL zL (z3 (z7 2) z9)) (eC (.bl true)))) (zg (za (eqR true) (z7 2) (z7 1)))) (zo (eC (.bl false))) zk)
def L4:Tn->R Fl:=(xv (xb (z7 1)) (.one 3) (sIf (zg (za (isB true) (eL zq (z3 (z7 3) z9)) (eC (.bl true)))) (zo (eC (.bl false))) zk))
def L5:Tn->R Fl:=(zp 4 (eL zB (z3 (z7 0) (z3 (eC (.int 8)) z9))))
def L6:Tn->R Fl:=(zp 5 (eL yI (z3 (z7 4) z9)))
def L7:Tn->R Fl:=(sIf (zg (za (isB true) (eL zq (z3 (z7 5) z9)) (eC (.bl false)))) (zo (eC (.bl false))) zk)
def L8:Tn->R Fl:=(zp 6 (za zz (za zu (z7 4) (eC (.int 42))) (za zU (eL yh (z3 (z7 1) z9)) (eC (.int 1)))))
def L9:Tn->R Fl:=(sIf (yk (zg (eL zA (z3 (za zU (za zU (eSl (z7 1) yY (yR (z7 6))) (eL (fun ds=>.ok (.lst ds)) (z3 (z7 5) z9))) (eSl (z7 1) (yR (z7 6)) yY)) z9)))) (zo (eC (.bl false))) zk)
def L10:Tn->R Fl:=(sIf (yk (zg (eL zA (z3 (za ixD (eL (fun ds=>.ok (.lst ds)) (z3 (eL yn (z3 (z7 1) z9)) (z3 (eC .non) (z3 (eC (.dic [] [])) (z3 (eC (.str "leaf")) (z3 (eC (.int 5)) (z3 (eL (fun ds=>.ok (.tup ds)) z9) z9))))))) (za zz (za zu (z7 4) (eC (.int 300))) (eC (.int 6)))) z9)))) (zo (eC (.bl false))) zk)
def L11:Tn->R Fl:=(sIf (zg (za (eqR true) (z7 1) (eL (fun ds=>.ok (.lst ds)) z9))) (ze (zp 6 (za zz (z7 6) (eL yh (z3 (z7 1) z9)))) (ze (zp 7 (eL yx (z3 (za ixD (z7 1) (z7 6)) (z3 (eL zB (z3 (z7 0) (z3 (eC (.int 10)) z9))) z9)))) (sIf (bOr (zg (za (isB true) (eL zq (z3 (z7 7) z9)) (eC (.bl false)))) (yk (zg (eL zA (z3 (za zU (za zU (eSl (z7 1) yY (yR (z7 6))) (eL (fun ds=>.ok (.lst ds)) (z3 (z7 7) z9))) (eSl (z7 1) (yR (za zU (z7 6) (eC (.int 1)))) yY)) z9))))) (zo (eC (.bl false))) zk))) zk)
def L12:Tn->R Fl:=(zo (eL yt (z3 (eL zB (z3 (z7 0) (z3 (eC (.int 9)) z9))) z9)))
theorem tL:F_law=zy 8 (ze L1 (ze L2 (ze L3 (ze L4 (ze L5 (ze L6 (ze L7 (ze L8 (ze L9 (ze L10 (ze L11 L12))))))))))):=rfl
def U1:Tn->R Fl:=(zp 6 (za zz (z7 6) (eL yh (z3 (z7 1) z9))))
def U2:Tn->R Fl:=(zp 7 (eL yx (z3 (za ixD (z7 1) (z7 6)) (z3 (eL zB (z3 (z7 0) (z3 (eC (.int 10)) z9))) z9))))
def U3:Tn->R Fl:=(sIf (bOr (zg (za (isB true) (eL zq (z3 (z7 7) z9)) (eC (.bl false)))) (yk (zg (eL zA (z3 (za zU (za zU (eSl (z7 1) yY (yR (z7 6))) (eL (fun ds=>.ok (.lst ds)) (z3 (z7 7) z9))) (eSl (z7 1) (yR (za zU (z7 6) (eC (.int 1)))) yY)) z9))))) (zo (eC (.bl false))) zk)
theorem z0g:L11=sIf (zg (za (eqR true) (z7 1) (eL (fun ds=>.ok (.lst ds)) z9))) (ze U1 (ze U2 U3)) zk:=rfl
section
variable (bs:List D)(hg:JM bs)
include hg
theorem Yq:D.imms bs=true:=ya fun b hb=>by obtain ⟨n,h⟩:=hg.2.1 b hb; exact h.imm
theorem Ke (x0 x2 x3 x4 x5 x6 x7:Option D):L2 [x0,some (.lst bs),x2,x3,x4,x5,x6,x7]=.ok (.nx [x0,some (.lst bs),some (.lst bs),x3,x4,x5,x6,x7]):=by
 have h:xj [.lst bs]=.ok (.lst bs):=if_pos (Yq bs hg)
 unfold L2
 simp -implicitDefEqProofs only [zp,z7,eL,z9,z3,R.ok_bind,tD,tE,tH,tK,h]
theorem z03 (x0 x3 x4 x5 x6 x7:Option D):L3 [x0,some (.lst bs),some (.lst bs),x3,x4,x5,x6,x7]=.ok (.nx [x0,some (.lst bs),some (.lst bs),x3,x4,x5,x6,x7]):=by
 have h1:=Up _ (W6 bs hg.1 hg.2.1 hg.2.2)
 have h2:=KO bs hg.2.1
 have h3:isB true (.bl true) (.bl true)=.ok (.bl false):=rfl
 unfold L3
 generalize zL=G1 at *
 simp -implicitDefEqProofs only [zk,zo,sIf,z7,eC,za,eL,z9,z3,zg,bOr,asB,R.ok_bind,tD,tE,if_false,tF,h1,h2,h3]
theorem Kj (x0 x2 x3 x4 x5 x6 x7:Option D):∃ y3,L4 [x0,some (.lst bs),x2,x3,x4,x5,x6,x7]=.ok (.nx [x0,some (.lst bs),x2,y3,x4,x5,x6,x7]):=by
 unfold L4
 obtain ⟨τ',e2,y3,h⟩:=xo (asg:=(Tgt.one 3).asg) (body:=(sIf (zg (za (isB true) (eL zq (z3 (z7 3) z9)) (eC (.bl true)))) (zo (eC (.bl false))) zk))
  (fun i τ=>∃ y3,τ=[x0,some (.lst bs),x2,y3,x4,x5,x6,x7]) bs 0
  [x0,some (.lst bs),x2,x3,x4,x5,x6,x7] ⟨x3,rfl⟩ (fun i q τ hd ⟨y3,h⟩=>by
   subst h
   obtain ⟨n,hb⟩:=hg.2.1 q (List.mem_of_getElem? hd)
   have h1:=hb.yes
   have h3:isB true (.bl true) (.bl true)=.ok (.bl false):=rfl
   refine ⟨_,_,rfl,.inl ?_,some q,rfl⟩
   generalize zq=G1 at *
   show _=R.ok (Fl.nx [x0,some (.lst bs),x2,some q,x4,x5,x6,x7])
   simp -implicitDefEqProofs only [zk,zo,sIf,z7,eC,za,eL,z9,z3,zg,asB,R.ok_bind,tD,tE,tH,tK,if_false,tF,h1,h3])
 rw [h] at e2
 refine ⟨y3,u4 ?_ e2⟩
 simp -implicitDefEqProofs only [z7,xb,wF,R.ok_bind,tD,tE]
theorem X5 (d:D)(hd:NB d)(a b:Nat):zA [.lst (bs.take a++d::bs.drop b)]=.ok (.bl true):=by
 refine vD _ (VT _ (by have:=wH (xs:=bs) (d:=d) (a:=a) (b:=b); have:=hg.1; omega) (fun x hx=>?_) ⟨d,we,hd⟩)
 rcases wd hx with h' | rfl
 ·exact .inl (hg.2.1 x h')
 ·exact .inr hd
theorem Vi (d:D)(hd:NB d)(a b:Nat)(ha:a<=bs.length)(hb:b<=bs.length):slD (.lst bs) none (some (a:Int))=.ok (.lst (bs.take a))/\slD (.lst bs) (some (b:Int)) none=.ok (.lst (bs.drop b))/\zU (.lst (bs.take a)) (.lst [d])=.ok (.lst (bs.take a++[d]))/\zU (.lst (bs.take a++[d])) (.lst (bs.drop b))=.ok (.lst (bs.take a++d::bs.drop b)):=by
 have i0:=Yq bs hg
 have hl:=hg.1
 refine ⟨by rw [Vf i0,Vy ha],by rw [Vf i0,Y7 hb],if_pos ⟨v7 i0 a,Zs hd.2,by rw [rC,sizeLine_eq]; show _+1<=_; omega⟩,?_⟩
 have e:bs.take a++d::bs.drop b=(bs.take a++[d])++bs.drop b:=by rw [rF]; rfl
 rw [e]
 exact if_pos ⟨by rw [yM,v7 i0,Zs hd.2]; rfl,uc i0 b,by rw [tZ,rC,rJ,sizeLine_eq]; show _+1+_<=_; omega⟩
theorem Ks (n:Int)(x0 x2 x3 x5 x6 x7:Option D):∃ a:Nat,a<=bs.length/\L8 [x0,some (.lst bs),x2,x3,some (.int n),x5,x6,x7]=.ok (.nx [x0,some (.lst bs),x2,x3,some (.int n),x5,some (.int (a:Nat)),x7]):=by
 have d42:zu (.int n) (.int 42)=.ok (.int (n/42)):=zG (by decide) (by decide)
 have e2:yh [.lst bs]=.ok (.int (bs.length:Nat)):=rfl
 obtain ⟨k,mk,hk,_⟩:=xT (n/42) (((bs.length:Nat):Int)+1) (by omega)
 refine ⟨k,by omega,?_⟩
 generalize ((bs.length:Nat):Int)=l at *
 generalize ((k:Nat):Int)=kk at *
 generalize n/42=q at *
 unfold L8
 simp -implicitDefEqProofs only [zp,z7,eC,za,eL,z9,z3,R.ok_bind,tD,tE,tH,tK,yP,d42,e2,mk]
theorem Ko (d:D)(hd:NB d)(a:Nat)(ha:a<=bs.length)(x0 x2 x3 x4 x7:Option D):L9 [x0,some (.lst bs),x2,x3,x4,some d,some (.int (a:Nat)),x7]=.ok (.nx [x0,some (.lst bs),x2,x3,x4,some d,some (.int (a:Nat)),x7]):=by
 obtain ⟨s1,s2,a1,a2⟩:=Vi bs hg d hd a a ha ha
 have hr:=X5 bs hg d hd a a
 generalize bs.take a++d::bs.drop a=B4 at *
 generalize bs.take a++[d]=B3 at *
 generalize bs.take a=B1 at *
 generalize bs.drop a=B2 at *
 generalize ((a:Nat):Int)=aa at *
 unfold L9
 generalize zA=G1 at *
 simp -implicitDefEqProofs only [zk,zo,sIf,z7,eC,za,eL,z9,z3,zg,yk,eSl,yY,yR,asB,R.ok_bind,tD,tE,if_false,tF,s1,s2,a1,a2,hr,sV]
theorem six (a b c d e f:D)(p:D->Prop)(ha:p a)(hb:p b)(hc:p c)(hd:p d)(he:p e)(hf:p f)(k:Nat)(hk:k<6):∃ x,ixD (.lst [a,b,c,d,e,f]) (.int (k:Nat))=.ok x/\p x:=by
 refine ⟨_,ZA (xs:=[a,b,c,d,e,f]) hk,?_⟩
 have:k=0\/k=1\/k=2\/k=3\/k=4\/k=5:=by omega
 rcases this with rfl | rfl | rfl | rfl | rfl | rfl<;>assumption
theorem Qw (n:Int)(x0 x2 x3 x5 x6 x7:Option D):L10 [x0,some (.lst bs),x2,x3,some (.int n),x5,x6,x7]=.ok (.nx [x0,some (.lst bs),x2,x3,some (.int n),x5,x6,x7]):=by
 have d3:zu (.int n) (.int 300)=.ok (.int (n/300)):=zG (by decide) (by decide)
 obtain ⟨k,mk,hk,_⟩:=xT (n/300) 6 (by decide)
 have t1:yn [.lst bs]=.ok (.tup bs):=if_pos (Yq bs hg)
 obtain ⟨d,hd,hr⟩:=six bs hg (.tup bs) .non (.dic [] []) (.str "leaf") (.int 5) (.tup []) (fun d=>zA [d]=.ok (.bl true)) (vD _ (qi _ rfl)) (vD _ (qi _ rfl)) (vD _ (qi _ rfl)) (vD _ (qi _ rfl)) (vD _ (qi _ rfl)) (vD _ (qi _ rfl)) k (by omega)
 generalize D.tup bs=TB at *
 generalize ((k:Nat):Int)=kk at *
 generalize n/300=q at *
 unfold L10
 generalize zA=G1 at *
 simp -implicitDefEqProofs only [zk,zo,sIf,z7,eC,za,eL,z9,z3,zg,yk,asB,R.ok_bind,tD,tE,if_false,tF,d3,mk,t1,hd,hr,sV]
theorem QW (ns:List Int)(hl:ns.length<=63)(a:Nat)(x2 x3 x4 x5:Option D):∃ y6 y7,L11 [some (.frl (ns.map .int)),some (.lst bs),x2,x3,x4,x5,some (.int (a:Nat)),none]=.ok (.nx [some (.frl (ns.map .int)),some (.lst bs),x2,x3,x4,x5,y6,y7]):=by
 rw [z0g]
 by_cases h0:bs=[]
 ·subst h0
  refine ⟨some (.int (a:Nat)),none,?_⟩
  have e:eqR true (.lst []) (.lst [])=.ok (.bl false):=wQ (by decide +kernel)
  generalize ((a:Nat):Int)=aa at *
  generalize U1=T1 at *
  generalize U2=T2 at *
  generalize U3=T3 at *
  simp -implicitDefEqProofs only [zk,ze,sIf,z7,za,eL,z9,zg,asB,R.ok_bind,tD,tE,if_false,tF,e]
 ·have hpos:0<bs.length:=List.length_pos_iff.mpr h0
  have e:eqR true (.lst bs) (.lst [])=.ok (.bl true):=by
   show (match (if bs.length=([]:List D).length then yH (eqF 11) bs [] else some false) with | some b=>R.ok (D.bl (if true=true then !b else b)) | none=>.bad)=_
   rw [if_neg (by rw [tO]; omega)]
   rfl
  obtain ⟨k,mk,hk,_⟩:=xT ((a:Nat):Int) ((bs.length:Nat):Int) (by omega)
  have hk:k<bs.length:=by omega
  have e2:yh [.lst bs]=.ok (.int (bs.length:Nat)):=rfl
  obtain ⟨v,hv,_⟩:=jb ns 10 (by decide) hl
  obtain ⟨m,hb⟩:=hg.2.1 _ (rA hk)
  obtain ⟨d,hd,nd⟩:=J7 _ m hb v
  have hx:=ZA hk
  obtain ⟨s1,s2,a1,a2⟩:=Vi bs hg d nd k (k+1) (by omega) (by omega)
  have hr:=X5 bs hg d nd k (k+1)
  have nb:=nd.1
  have hf:isB true (.bl false) (.bl false)=.ok (.bl false):=rfl
  refine ⟨some (.int (k:Nat)),some d,?_⟩
  have ec:((k+1:Nat):Int)=((k:Nat):Int)+1:=by omega
  rw [ec] at s2
  have u1:U1 [some (.frl (ns.map .int)),some (.lst bs),x2,x3,x4,x5,some (.int (a:Nat)),none]=.ok (.nx [some (.frl (ns.map .int)),some (.lst bs),x2,x3,x4,x5,some (.int (k:Nat)),none]):=by
   generalize ((bs.length:Nat):Int)=l at *
   generalize ((a:Nat):Int)=aa at *
   generalize ((k:Nat):Int)=kk at *
   generalize D.frl (ns.map .int)=S0 at *
   unfold U1
   simp -implicitDefEqProofs only [zp,z7,za,eL,z9,z3,R.ok_bind,tD,tE,tH,tK,e2,mk]
  have u2:U2 [some (.frl (ns.map .int)),some (.lst bs),x2,x3,x4,x5,some (.int (k:Nat)),none]=.ok (.nx [some (.frl (ns.map .int)),some (.lst bs),x2,x3,x4,x5,some (.int (k:Nat)),some d]):=by
   generalize D.frl (ns.map .int)=S0 at *
   generalize bs[k]=bk at *
   generalize ((k:Nat):Int)=kk at *
   unfold U2
   generalize yx=G1 at *
   generalize zB=G2 at *
   simp -implicitDefEqProofs only [zp,z7,eC,za,eL,z9,z3,R.ok_bind,tD,tE,tH,tK,hx,hv,hd]
  have u3:U3 [some (.frl (ns.map .int)),some (.lst bs),x2,x3,x4,x5,some (.int (k:Nat)),some d]=.ok (.nx [some (.frl (ns.map .int)),some (.lst bs),x2,x3,x4,x5,some (.int (k:Nat)),some d]):=by
   generalize D.frl (ns.map .int)=S0 at *
   generalize bs.take k++d::bs.drop (k+1)=B4 at *
   generalize bs.take k++[d]=B3 at *
   generalize bs.take k=B1 at *
   generalize bs.drop (k+1)=B2 at *
   generalize ((k:Nat):Int)=kk at *
   unfold U3
   generalize zA=G1 at *
   generalize zq=G2 at *
   simp -implicitDefEqProofs only [zk,zo,sIf,z7,eC,za,eL,z9,z3,zg,bOr,yk,eSl,yY,yR,asB,R.ok_bind,tD,tE,yP,if_false,tF,s1,s2,a1,a2,hr,nb,hf,sV]
  generalize D.frl (ns.map .int)=S0 at *
  generalize ((a:Nat):Int)=aa at *
  generalize ((k:Nat):Int)=kk at *
  generalize U1=T1 at *
  generalize U2=T2 at *
  generalize U3=T3 at *
  simp -implicitDefEqProofs only [zk,ze,sIf,z7,za,eL,z9,zg,asB,R.ok_bind,tD,tE,if_true,e,u1,u2,u3]
end
theorem VI (T1 T2 T3 T4 T5 T6 T7 T8 T9 T10 T11 T12:Tn->R Fl)(s d:D)(τ1 τ2 τ3 τ4 τ5 τ6 τ7 τ8 τ9 τ10 τ11:Tn)(h1:T1 [some s,none,none,none,none,none,none,none]=.ok (.nx τ1))(h2:T2 τ1=.ok (.nx τ2))(h3:T3 τ2=.ok (.nx τ3))(h4:T4 τ3=.ok (.nx τ4))(h5:T5 τ4=.ok (.nx τ5))(h6:T6 τ5=.ok (.nx τ6))(h7:T7 τ6=.ok (.nx τ7))(h8:T8 τ7=.ok (.nx τ8))(h9:T9 τ8=.ok (.nx τ9))(h10:T10 τ9=.ok (.nx τ10))(h11:T11 τ10=.ok (.nx τ11))(h12:T12 τ11=.ok (.rt d)):zy 8 (ze T1 (ze T2 (ze T3 (ze T4 (ze T5 (ze T6 (ze T7 (ze T8 (ze T9 (ze T10 (ze T11 T12))))))))))) [s]=.ok d:=by
 simp -implicitDefEqProofs only [zy,ze,R.ok_bind,tG,tR,tJ,tO,tS,tI,tM,tN,Nat.reduceSub,tX,h1,h2,h3,h4,h5,h6,h7,h8,h9,h10,h11,h12]
theorem law_true (ns:List Int)(h:ns.length<=63):F_law [.frl (ns.map D.int)]=.ok (.bl true):=by
 obtain ⟨bs,hb,hg⟩:=Jg ns h
 obtain ⟨n,hn,_⟩:=jb ns 8 (by decide) h
 obtain ⟨n9,hn9,_⟩:=jb ns 9 (by decide) h
 obtain ⟨d,hd,nd⟩:=QG n
 have h1:L1 [some (.frl (ns.map D.int)),none,none,none,none,none,none,none]=.ok (.nx [some (.frl (ns.map D.int)),some (.lst bs),none,none,none,none,none,none]):=by
  unfold L1
  generalize D.frl (ns.map .int)=S0 at *
  generalize yJ=G1 at *
  simp -implicitDefEqProofs only [zp,z7,eC,eL,z9,z3,R.ok_bind,tD,tH,tK,hb]
 have h2:=Ke bs hg (some (.frl (ns.map D.int))) none none none none none none
 have h3:=z03 bs hg (some (.frl (ns.map D.int))) none none none none none
 obtain ⟨y3,h4⟩:=Kj bs hg (some (.frl (ns.map D.int))) (some (.lst bs)) none none none none none
 have h5:L5 [some (.frl (ns.map D.int)),some (.lst bs),some (.lst bs),y3,none,none,none,none]=.ok (.nx [some (.frl (ns.map D.int)),some (.lst bs),some (.lst bs),y3,some (.int n),none,none,none]):=by
  unfold L5
  generalize D.frl (ns.map .int)=S0 at *
  generalize zB=G1 at *
  simp -implicitDefEqProofs only [zp,z7,eC,eL,z9,z3,R.ok_bind,tD,tH,tK,hn]
 have h6:L6 [some (.frl (ns.map D.int)),some (.lst bs),some (.lst bs),y3,some (.int n),none,none,none]=.ok (.nx [some (.frl (ns.map D.int)),some (.lst bs),some (.lst bs),y3,some (.int n),some d,none,none]):=by
  unfold L6
  generalize D.frl (ns.map .int)=S0 at *
  generalize yI=G1 at *
  simp -implicitDefEqProofs only [zp,z7,eL,z9,z3,R.ok_bind,tD,tE,tH,tK,hd]
 have h7:L7 [some (.frl (ns.map D.int)),some (.lst bs),some (.lst bs),y3,some (.int n),some d,none,none]=.ok (.nx [some (.frl (ns.map D.int)),some (.lst bs),some (.lst bs),y3,some (.int n),some d,none,none]):=by
  have hf:isB true (.bl false) (.bl false)=.ok (.bl false):=rfl
  have nb:=nd.1
  unfold L7
  generalize D.frl (ns.map .int)=S0 at *
  generalize zq=G1 at *
  simp -implicitDefEqProofs only [zk,zo,sIf,z7,eC,za,eL,z9,z3,zg,asB,R.ok_bind,tD,tE,if_false,tF,nb,hf]
 obtain ⟨a,ha,h8⟩:=Ks bs hg n (some (.frl (ns.map D.int))) (some (.lst bs)) y3 (some d) none none
 have h9:=Ko bs hg d nd a ha (some (.frl (ns.map D.int))) (some (.lst bs)) y3 (some (.int n)) none
 have h10:=Qw bs hg n (some (.frl (ns.map D.int))) (some (.lst bs)) y3 (some d) (some (.int (a:Nat))) none
 obtain ⟨y6,y7,h11⟩:=QW bs hg ns h a (some (.lst bs)) y3 (some (.int n)) (some d)
 have h12:L12 [some (.frl (ns.map D.int)),some (.lst bs),some (.lst bs),y3,some (.int n),some d,y6,y7]=.ok (.rt (.bl true)):=by
  have hb9:=Xm n9
  unfold L12
  generalize D.frl (ns.map .int)=S0 at *
  generalize zB=G1 at *
  generalize yt=G2 at *
  simp -implicitDefEqProofs only [zo,z7,eC,eL,z9,z3,R.ok_bind,tD,hn9,hb9]
 rw [tL]
 exact VI _ _ _ _ _ _ _ _ _ _ _ _ _ _ _ _ _ _ _ _ _ _ _ _ _ h1 h2 h3 h4 h5 h6 h7 h8 h9 h10 h11 h12
end K06
namespace K06
open PySem PySem.W PyProof.Rows
def e (P:Params)(k:Str)(t:Nat)(v:Value):DictEntry:={ hash:=PyData.keyHash P k,key:=.str k t,val:=v }
def dO (v:Array DictEntry)(n:Nat):Obj:={ cls:=.type "dict",data:=.dict v n }
def cO (n:Str)(t l a f r k:Nat):Obj:={ cls:=.type "code",data:=.fields #[.str n t,.str n (t+1),.str "/claim/cut.py" (t+2),.int l 0,.int a 0,.int 0 0,.int 0 0,.int f 0,.ref r,.bool true,.int 181 0,.ref (r+1),.none,.ref (r+2),.ref (r+3),.ref (r+4),.int k 0,.int l 0,.str "/claim/cut.py" (k+1)] }
def cN (n:Str)(t l a r:Nat):Obj:={ cls:=.type "code",data:=.fields #[.str n t,.str n (t+1),.str "/claim/cut.py" (t+2),.int l 0,.int a 0,.int 0 0,.int 0 0,.int 3 0,.ref r,.bool true,.int 181 0,.ref (r+1),.none,.none,.none,.ref (r+2),.int (t+3) 0,.int l 0,.str "/claim/cut.py" (t+4)] }
def fO (n:Str)(i c:Nat)(m:Str)(t:Nat):Obj:=⟨.type "function",none,.func (fnOf n n (L2.defArgs (top i)) (L2.defBody (top i)) (L2.defScope (top i)) .none .none .none (.str m t) none (.ref c) .none),#[]⟩
def K0 (P:Params):Frag:=[
 (3,dO #[e P "__name__" 165 (.str "law_quirehand_k06_blocks_refused" 483),e P "__doc__" 166 .none,e P "__package__" 167 .none,e P "__loader__" 168 (.builtin "__main__.__loader__#opaque"),e P "__spec__" 169 .none,e P "__annotations__" 170 (.ref 6),e P "__builtins__" 171 (.ref 4),e P "__file__" 173 (.str "/claim/cut.py" 172),e P "__cached__" 174 .none,e P "SetError" 206 (.ref 24),e P "BadFace" 222 (.ref 37),e P "BadRules" 238 (.ref 49),e P "BadBook" 254 (.ref 61),e P "BadWord" 270 (.ref 73),e P "BadBlocks" 286 (.ref 85),e P "BadText" 311 (.ref 104),e P "BadBreaks" 327 (.ref 116),e P "TooWide" 343 (.ref 128),e P "NoPlace" 359 (.ref 140),e P "NoNote" 375 (.ref 152),e P "SIGNS" 379 (.str "abcdefghijklmnopqrstuvwxyzABCDEFGHIJKLMNOPQRSTUVWXYZ0123456789.,;:!?'\"()-/" 378),e P "is_sign" 386 (.ref 161),e P "MOST_SIGNS" 390 (.int 40 389),e P "is_word" 396 (.ref 166),e P "MOST_HEAD_WORDS" 400 (.int 12 399),e P "MOST_PAIRS" 402 (.int 200 401),e P "MOST_WORD_NOTES" 404 (.int 3 403),e P "MOST_NOTE_WORDS" 406 (.int 30 405),e P "MOST_ROWS" 408 (.int 20 407),e P "MOST_CELLS" 410 (.int 4 409),e P "MOST_CELL_WORDS" 412 (.int 12 411),e P "MOST_BLOCKS" 414 (.int 40 413),e P "MOST_NOTES" 416 (.int 60 415),e P "is_tuple_of" 422 (.ref 171),e P "is_note" 429 (.ref 178),e P "is_pair" 436 (.ref 185),e P "is_cell" 443 (.ref 192),e P "is_row" 450 (.ref 199),e P "is_table" 456 (.ref 204),e P "is_block" 463 (.ref 211),e P "many_notes" 469 (.ref 216),e P "are_blocks" 475 (.ref 221),e P "need_blocks" 482 (.ref 228),e P "_law_number" 493 (.ref 235),e P "_law_next" 500 (.ref 242),e P "_law_word" 512 (.ref 249),e P "_law_words" 524 (.ref 256),e P "_law_pairs" 537 (.ref 263),e P "_law_table" 550 (.ref 270),e P "_law_block" 558 (.ref 277),e P "_law_blocks" 564 (.ref 282),e P "_law_is_another" 571 (.ref 289),e P "_law_refused" 579 (.ref 296),e P "_law_odd" 588 (.ref 303),e P "_law_bad_word" 595 (.ref 310),e P "_law_with" 604 (.ref 317),e P "_law_bad_pair" 617 (.ref 324),e P "_law_bad_row" 629 (.ref 331),e P "_law_spoilt" 639 (.ref 338),e P "_law_bound" 648 (.ref 345),e P "_law_bounds" 659 (.ref 352),e P "law" 673 (.ref 359)] 62),
 (23,dO #[e P "__module__" 196 (.str "quirehand.errors" 187),e P "__firstlineno__" 200 (.int 2 199),e P "__static_attributes__" 201 (.ref 22),e P "__weakref__" 203 (.ref 25),e P "__doc__" 204 .none] 3),
 (24,{ cls:=.type "type",data:=.cls { name:="SetError",bases:=[.type "ValueError"],mro:=[.ref 24,.type "ValueError",.type "Exception",.type "BaseException",.type "object"],ns:=23,qualname:="SetError",subclasses:=[.ref 37,.ref 49,.ref 61,.ref 73,.ref 85,.ref 104,.ref 116,.ref 128,.ref 140,.ref 152] },slots:=#[some (.ref 15),none,some (.str "SetError" 189),some (.str "SetError" 197),some (.builtin "ValueError.__new__"),some (.bool true)] }),
 (36,dO #[e P "__module__" 214 (.str "quirehand.errors" 187),e P "__firstlineno__" 218 (.int 4 217),e P "__static_attributes__" 219 (.ref 35),e P "__doc__" 220 .none] 2),
 (37,{ cls:=.type "type",data:=.cls { name:="BadFace",bases:=[.ref 24],mro:=[.ref 37,.ref 24,.type "ValueError",.type "Exception",.type "BaseException",.type "object"],ns:=36,qualname:="BadFace" },slots:=#[some (.ref 28),none,some (.str "BadFace" 207),some (.str "BadFace" 215),some (.builtin "ValueError.__new__"),some (.bool true)] }),
 (48,dO #[e P "__module__" 230 (.str "quirehand.errors" 187),e P "__firstlineno__" 234 (.int 6 233),e P "__static_attributes__" 235 (.ref 47),e P "__doc__" 236 .none] 2),
 (49,{ cls:=.type "type",data:=.cls { name:="BadRules",bases:=[.ref 24],mro:=[.ref 49,.ref 24,.type "ValueError",.type "Exception",.type "BaseException",.type "object"],ns:=48,qualname:="BadRules" },slots:=#[some (.ref 40),none,some (.str "BadRules" 223),some (.str "BadRules" 231),some (.builtin "ValueError.__new__"),some (.bool true)] }),
 (60,dO #[e P "__module__" 246 (.str "quirehand.errors" 187),e P "__firstlineno__" 250 (.int 8 249),e P "__static_attributes__" 251 (.ref 59),e P "__doc__" 252 .none] 2),
 (61,{ cls:=.type "type",data:=.cls { name:="BadBook",bases:=[.ref 24],mro:=[.ref 61,.ref 24,.type "ValueError",.type "Exception",.type "BaseException",.type "object"],ns:=60,qualname:="BadBook" },slots:=#[some (.ref 52),none,some (.str "BadBook" 239),some (.str "BadBook" 247),some (.builtin "ValueError.__new__"),some (.bool true)] }),
 (72,dO #[e P "__module__" 262 (.str "quirehand.errors" 187),e P "__firstlineno__" 266 (.int 10 265),e P "__static_attributes__" 267 (.ref 71),e P "__doc__" 268 .none] 2),
 (73,{ cls:=.type "type",data:=.cls { name:="BadWord",bases:=[.ref 24],mro:=[.ref 73,.ref 24,.type "ValueError",.type "Exception",.type "BaseException",.type "object"],ns:=72,qualname:="BadWord" },slots:=#[some (.ref 64),none,some (.str "BadWord" 255),some (.str "BadWord" 263),some (.builtin "ValueError.__new__"),some (.bool true)] }),
 (84,dO #[e P "__module__" 278 (.str "quirehand.errors" 187),e P "__firstlineno__" 282 (.int 12 281),e P "__static_attributes__" 283 (.ref 83),e P "__doc__" 284 .none] 2),
 (85,{ cls:=.type "type",data:=.cls { name:="BadBlocks",bases:=[.ref 24],mro:=[.ref 85,.ref 24,.type "ValueError",.type "Exception",.type "BaseException",.type "object"],ns:=84,qualname:="BadBlocks" },slots:=#[some (.ref 76),none,some (.str "BadBlocks" 271),some (.str "BadBlocks" 279),some (.builtin "ValueError.__new__"),some (.bool true)] }),
 (103,dO #[e P "__module__" 294 (.str "quirehand.errors" 187),e P "__firstlineno__" 298 (.int 14 297),e P "__init__" 306 (.ref 101),e P "__static_attributes__" 308 (.ref 102),e P "__doc__" 309 .none] 2),
 (104,{ cls:=.type "type",data:=.cls { name:="BadText",bases:=[.ref 24],mro:=[.ref 104,.ref 24,.type "ValueError",.type "Exception",.type "BaseException",.type "object"],ns:=103,qualname:="BadText" },slots:=#[some (.ref 88),none,some (.str "BadText" 287),some (.str "BadText" 295),some (.builtin "ValueError.__new__"),some (.bool true)] }),
 (115,dO #[e P "__module__" 319 (.str "quirehand.errors" 187),e P "__firstlineno__" 323 (.int 19 322),e P "__static_attributes__" 324 (.ref 114),e P "__doc__" 325 .none] 2),
 (116,{ cls:=.type "type",data:=.cls { name:="BadBreaks",bases:=[.ref 24],mro:=[.ref 116,.ref 24,.type "ValueError",.type "Exception",.type "BaseException",.type "object"],ns:=115,qualname:="BadBreaks" },slots:=#[some (.ref 107),none,some (.str "BadBreaks" 312),some (.str "BadBreaks" 320),some (.builtin "ValueError.__new__"),some (.bool true)] }),
 (127,dO #[e P "__module__" 335 (.str "quirehand.errors" 187),e P "__firstlineno__" 339 (.int 21 338),e P "__static_attributes__" 340 (.ref 126),e P "__doc__" 341 .none] 2),
 (128,{ cls:=.type "type",data:=.cls { name:="TooWide",bases:=[.ref 24],mro:=[.ref 128,.ref 24,.type "ValueError",.type "Exception",.type "BaseException",.type "object"],ns:=127,qualname:="TooWide" },slots:=#[some (.ref 119),none,some (.str "TooWide" 328),some (.str "TooWide" 336),some (.builtin "ValueError.__new__"),some (.bool true)] }),
 (139,dO #[e P "__module__" 351 (.str "quirehand.errors" 187),e P "__firstlineno__" 355 (.int 23 354),e P "__static_attributes__" 356 (.ref 138),e P "__doc__" 357 .none] 2),
 (140,{ cls:=.type "type",data:=.cls { name:="NoPlace",bases:=[.ref 24],mro:=[.ref 140,.ref 24,.type "ValueError",.type "Exception",.type "BaseException",.type "object"],ns:=139,qualname:="NoPlace" },slots:=#[some (.ref 131),none,some (.str "NoPlace" 344),some (.str "NoPlace" 352),some (.builtin "ValueError.__new__"),some (.bool true)] }),
 (151,dO #[e P "__module__" 367 (.str "quirehand.errors" 187),e P "__firstlineno__" 371 (.int 25 370),e P "__static_attributes__" 372 (.ref 150),e P "__doc__" 373 .none] 2),
 (152,{ cls:=.type "type",data:=.cls { name:="NoNote",bases:=[.ref 24],mro:=[.ref 152,.ref 24,.type "ValueError",.type "Exception",.type "BaseException",.type "object"],ns:=151,qualname:="NoNote" },slots:=#[some (.ref 143),none,some (.str "NoNote" 360),some (.str "NoNote" 368),some (.builtin "ValueError.__new__"),some (.bool true)] }),
 (160,cO "is_sign" 380 29 1 3 155 384),
 (161,fO "is_sign" 14 160 "quirehand.faces" 376),
 (165,cN "is_word" 391 33 1 162),
 (166,fO "is_word" 17 165 "quirehand.parting" 387),
 (170,cN "is_tuple_of" 417 47 4 167),
 (171,fO "is_tuple_of" 28 170 "quirehand.blocks" 397),
 (177,cO "is_note" 423 51 1 3 172 427),
 (178,fO "is_note" 29 177 "quirehand.blocks" 397),
 (184,cO "is_pair" 430 53 1 3 179 434),
 (185,fO "is_pair" 30 184 "quirehand.blocks" 397),
 (191,cO "is_cell" 437 57 1 3 186 441),
 (192,fO "is_cell" 31 191 "quirehand.blocks" 397),
 (198,cO "is_row" 444 59 1 3 193 448),
 (199,fO "is_row" 32 198 "quirehand.blocks" 397),
 (203,cN "is_table" 451 61 1 200),
 (204,fO "is_table" 33 203 "quirehand.blocks" 397),
 (210,cO "is_block" 457 63 1 3 205 461),
 (211,fO "is_block" 34 210 "quirehand.blocks" 397),
 (215,cN "many_notes" 464 73 1 212),
 (216,fO "many_notes" 35 215 "quirehand.blocks" 397),
 (220,cN "are_blocks" 470 77 1 217),
 (221,fO "are_blocks" 36 220 "quirehand.blocks" 397),
 (227,cO "need_blocks" 476 83 1 3 222 480),
 (228,fO "need_blocks" 37 227 "quirehand.blocks" 397),
 (234,cO "_law_number" 485 88 2 3 229 491),
 (235,fO "_law_number" 39 234 "law_quirehand_k06_blocks_refused" 483),
 (241,cO "_law_next" 494 93 1 3 236 498),
 (242,fO "_law_next" 40 241 "law_quirehand_k06_blocks_refused" 483),
 (248,cO "_law_word" 501 95 1 3 243 510),
 (249,fO "_law_word" 41 248 "law_quirehand_k06_blocks_refused" 483),
 (255,cO "_law_words" 513 105 3 3 250 522),
 (256,fO "_law_words" 42 255 "law_quirehand_k06_blocks_refused" 483),
 (262,cO "_law_pairs" 525 114 2 3 257 535),
 (263,fO "_law_pairs" 43 262 "law_quirehand_k06_blocks_refused" 483),
 (269,cO "_law_table" 538 128 1 3 264 548),
 (270,fO "_law_table" 44 269 "law_quirehand_k06_blocks_refused" 483),
 (276,cO "_law_block" 551 141 2 3 271 556),
 (277,fO "_law_block" 45 276 "law_quirehand_k06_blocks_refused" 483),
 (281,cN "_law_blocks" 559 149 2 278),
 (282,fO "_law_blocks" 46 281 "law_quirehand_k06_blocks_refused" 483),
 (288,cO "_law_is_another" 565 164 1 3 283 569),
 (289,fO "_law_is_another" 47 288 "law_quirehand_k06_blocks_refused" 483),
 (295,cO "_law_refused" 572 168 1 3 290 577),
 (296,fO "_law_refused" 48 295 "law_quirehand_k06_blocks_refused" 483),
 (302,cO "_law_odd" 580 174 1 3 297 586),
 (303,fO "_law_odd" 49 302 "law_quirehand_k06_blocks_refused" 483),
 (309,cO "_law_bad_word" 589 186 1 3 304 593),
 (310,fO "_law_bad_word" 50 309 "law_quirehand_k06_blocks_refused" 483),
 (316,cO "_law_with" 596 188 3 3 311 602),
 (317,fO "_law_with" 51 316 "law_quirehand_k06_blocks_refused" 483),
 (323,cO "_law_bad_pair" 605 190 2 3 318 615),
 (324,fO "_law_bad_pair" 52 323 "law_quirehand_k06_blocks_refused" 483),
 (330,cO "_law_bad_row" 618 204 3 3 325 627),
 (331,fO "_law_bad_row" 53 330 "law_quirehand_k06_blocks_refused" 483),
 (337,cO "_law_spoilt" 630 215 2 3 332 637),
 (338,fO "_law_spoilt" 54 337 "law_quirehand_k06_blocks_refused" 483),
 (344,cO "_law_bound" 640 225 2 3 339 646),
 (345,fO "_law_bound" 55 344 "law_quirehand_k06_blocks_refused" 483),
 (351,cO "_law_bounds" 649 242 1 3 346 657),
 (352,fO "_law_bounds" 56 351 "law_quirehand_k06_blocks_refused" 483),
 (358,cO "law" 660 254 1 3 353 671),
 (359,fO "law" 57 358 "law_quirehand_k06_blocks_refused" 483)]
abbrev pw:Program:=PySem.Challenge.pw_quirehand_k06_blocks_refused
def as0:List Addr:=[3,23,24,36,37,48,49,60,61,72,73,84,85,103,104,115,116,127,128,139,140,151,152,160,161,165,166,170,171,177,178,184,185,191,192,198,199,203,204,210,211,215,216,220,221,227,228,234,235,241,242,248,249,255,256,262,263,269,270,276,277,281,282,288,289,295,296,302,303,309,310,316,317,323,324,330,331,337,338,344,345,351,352,358,359]
theorem as_eq:∀ P,as0=(K0 P).map (·.1):=fun _=>rfl
def q0:Program:=view PySem.Challenge.pw_quirehand_k06_blocks_refused [1,2,3,4,5,6,7,8,9,10,11,13,14,16,17,19,20,21,22,23,24,25,26,27,28,29,30,31,32,33,34,35,36,37,39,40,41,42,43,44,45,46,47,48,49,50,51,52,53,54,55,56,57]
theorem t0:(PySem.Challenge.pw_quirehand_k06_blocks_refused.main.body.length==58)=true:=by k_qdec
set_option maxHeartbeats 0 in
theorem z0n:∀ w os,HW.runAll PySem.Challenge.pw_quirehand_k06_blocks_refused (view PySem.Challenge.pw_quirehand_k06_blocks_refused [1,2,3,4,5,6,7,8,9,10,11,13,14,16,17,19,20,21,22,23,24,25,26,27,28,29,30,31,32,33,34,35,36,37,39,40,41,42,43,44,45,46,47,48,49,50,51,52,53,54,55,56,57]) [] (fun s=>xlAt (view PySem.Challenge.pw_quirehand_k06_blocks_refused [1,2,3,4,5,6,7,8,9,10,11,13,14,16,17,19,20,21,22,23,24,25,26,27,28,29,30,31,32,33,34,35,36,37,39,40,41,42,43,44,45,46,47,48,49,50,51,52,53,54,55,56,57]) [] s&&recOk [] s) (fun s=>as0.map s.heap.get?) 3463 w os=some (⟨denote treeTable (HW.body0 PySem.Challenge.pw_quirehand_k06_blocks_refused),HW.body0 PySem.Challenge.pw_quirehand_k06_blocks_refused,HW.p0,[topFrame HW.p0]⟩,(.next,HW.body0 PySem.Challenge.pw_quirehand_k06_blocks_refused),(.next,HW.body0 PySem.Challenge.pw_quirehand_k06_blocks_refused),true,openGood (view PySem.Challenge.pw_quirehand_k06_blocks_refused [1,2,3,4,5,6,7,8,9,10,11,13,14,16,17,19,20,21,22,23,24,25,26,27,28,29,30,31,32,33,34,35,36,37,39,40,41,42,43,44,45,46,47,48,49,50,51,52,53,54,55,56,57]) [],(K0 w.params).map fun p=>some p.2):=by
 intro w os
 unfold HW.runAll HW.body0 HW.env0
 rw [Fast.te15667345088766844465,Fast.te14364793385576792824,Fast.te14374325043358763698,Fast.te10110043849684766642,Fast.te5923862056798008813,Fast.te4187177175401517315,Fast.te14082659384304107361,Fast.te11892475500146522536,Fast.te15858632723895919203]
 kernel_rfl
theorem left0:LeftO PySem.Challenge.pw_quirehand_k06_blocks_refused q0 [] (fun s=>xlAt q0 [] s&&recOk [] s) (fun s=>as0.map s.heap.get?) (fun w=>(K0 w.params).map fun p=>some p.2) 6986 :=
 HW.left_of (n1:=3463) (by kernel_rfl) rfl (fun _=>rfl) (fun _=>by kernel_rfl) rfl z0n
end K06
namespace K06
open PySem PySem.Spec PySem.W PyProof.Rows L2
theorem facts (w:World)(mg:Str->Option Value)(fa:Addr)(h:Heap)(X:(K0 w.params).In h)(G:h.Ns mainGlobals mg)(hfa:mg "law"=some (.ref fa)) :
  ∃ fd:FuncData,(∀ (s:Shared) (u:Value),BindsTo s fd ⟨[u],[]⟩ [("_law_script",u)])/\∀ base:Heap,(K0 w.params).In base->base.Ns mainGlobals mg->FnOk pw w (K0 w.params) mg base (cxx pw w) 14 fa fd ["_law_script"] (spM (K0 w.params) F_law 1):=by
 have e:=hfa.symm.trans (PySem.W.mg_of X G (show nsIn (K0 w.params) mainGlobals "law"=some (some (.ref 359)) from by kernel_rfl))
 cases e
 have B:Bl mg:=⟨PySem.W.mg_none_of X G (show nsIn (K0 w.params) mainGlobals "isinstance"=some none from by kernel_rfl),PySem.W.mg_none_of X G (show nsIn (K0 w.params) mainGlobals "int"=some none from by kernel_rfl),PySem.W.mg_none_of X G (show nsIn (K0 w.params) mainGlobals "bool"=some none from by kernel_rfl),PySem.W.mg_none_of X G (show nsIn (K0 w.params) mainGlobals "str"=some none from by kernel_rfl),PySem.W.mg_none_of X G (show nsIn (K0 w.params) mainGlobals "dict"=some none from by kernel_rfl),PySem.W.mg_none_of X G (show nsIn (K0 w.params) mainGlobals "list"=some none from by kernel_rfl),PySem.W.mg_none_of X G (show nsIn (K0 w.params) mainGlobals "tuple"=some none from by kernel_rfl),PySem.W.mg_none_of X G (show nsIn (K0 w.params) mainGlobals "len"=some none from by kernel_rfl),PySem.W.mg_none_of X G (show nsIn (K0 w.params) mainGlobals "sum"=some none from by kernel_rfl),PySem.W.mg_none_of X G (show nsIn (K0 w.params) mainGlobals "max"=some none from by kernel_rfl),PySem.W.mg_none_of X G (show nsIn (K0 w.params) mainGlobals "min"=some none from by kernel_rfl),PySem.W.mg_none_of X G (show nsIn (K0 w.params) mainGlobals "all"=some none from by kernel_rfl),PySem.W.mg_none_of X G (show nsIn (K0 w.params) mainGlobals "range"=some none from by kernel_rfl),PySem.W.mg_none_of X G (show nsIn (K0 w.params) mainGlobals "enumerate"=some none from by kernel_rfl),PySem.W.mg_none_of X G (show nsIn (K0 w.params) mainGlobals "zip"=some none from by kernel_rfl)⟩
 have Gv:Gl0 (K0 w.params) mg:=⟨⟨_,PySem.W.mg_of X G (show nsIn (K0 w.params) mainGlobals "SIGNS"=some (some (.str "abcdefghijklmnopqrstuvwxyzABCDEFGHIJKLMNOPQRSTUVWXYZ0123456789.,;:!?'\"()-/" 378)) from by kernel_rfl)⟩,⟨_,PySem.W.mg_of X G (show nsIn (K0 w.params) mainGlobals "MOST_SIGNS"=some (some (.int 40 389)) from by kernel_rfl)⟩,⟨_,PySem.W.mg_of X G (show nsIn (K0 w.params) mainGlobals "MOST_HEAD_WORDS"=some (some (.int 12 399)) from by kernel_rfl)⟩,⟨_,PySem.W.mg_of X G (show nsIn (K0 w.params) mainGlobals "MOST_PAIRS"=some (some (.int 200 401)) from by kernel_rfl)⟩,⟨_,PySem.W.mg_of X G (show nsIn (K0 w.params) mainGlobals "MOST_WORD_NOTES"=some (some (.int 3 403)) from by kernel_rfl)⟩,⟨_,PySem.W.mg_of X G (show nsIn (K0 w.params) mainGlobals "MOST_NOTE_WORDS"=some (some (.int 30 405)) from by kernel_rfl)⟩,⟨_,PySem.W.mg_of X G (show nsIn (K0 w.params) mainGlobals "MOST_ROWS"=some (some (.int 20 407)) from by kernel_rfl)⟩,⟨_,PySem.W.mg_of X G (show nsIn (K0 w.params) mainGlobals "MOST_CELLS"=some (some (.int 4 409)) from by kernel_rfl)⟩,⟨_,PySem.W.mg_of X G (show nsIn (K0 w.params) mainGlobals "MOST_CELL_WORDS"=some (some (.int 12 411)) from by kernel_rfl)⟩,⟨_,PySem.W.mg_of X G (show nsIn (K0 w.params) mainGlobals "MOST_BLOCKS"=some (some (.int 40 413)) from by kernel_rfl)⟩,⟨_,PySem.W.mg_of X G (show nsIn (K0 w.params) mainGlobals "MOST_NOTES"=some (some (.int 60 415)) from by kernel_rfl)⟩⟩
 have Cl:Cls (K0 w.params) mg:=⟨⟨85,(show PySem.W.nsIn (K0 w.params) mainGlobals "BadBlocks"=some (some (.ref 85)) from by kernel_rfl),(show PySem.W.excIn (K0 w.params) 85 [.type "ValueError",.type "Exception",.type "BaseException",.type "object"] "ValueError.__new__"=true from by kernel_rfl)⟩,PySem.W.mg_none_of X G (show PySem.W.nsIn (K0 w.params) mainGlobals "ValueError"=some none from by kernel_rfl),24,85,61,116,37,49,104,73,152,140,128,PySem.W.mg_of X G (show PySem.W.nsIn (K0 w.params) mainGlobals "SetError"=some (some (.ref 24)) from by kernel_rfl),⟨(show PySem.W.nsIn (K0 w.params) mainGlobals "BadBlocks"=some (some (.ref 85)) from by kernel_rfl),(show PySem.W.excIn (K0 w.params) 85 [.type "ValueError",.type "Exception",.type "BaseException",.type "object"] "ValueError.__new__"=true from by kernel_rfl)⟩,⟨(show PySem.W.findIn (K0 w.params) (.ref 85) "__getattribute__"=some (some (.builtin "BaseException.__getattribute__")) from by kernel_rfl),(show PySem.W.findIn (K0 w.params) (.ref 85) "__getattr__"=some none from by kernel_rfl),(show PySem.W.findIn (K0 w.params) (.ref 85) "__class__"=some (some (.builtin "object.__class__")) from by kernel_rfl),(show PySem.W.specialIn (K0 w.params) (.builtin "object.__class__") "__get__"=some (some (.builtin "getset_descriptor.__get__")) from by kernel_rfl),(show PySem.W.takesIn (K0 w.params) (.builtin "object.__class__")=some true from by kernel_rfl),(show PySem.W.mroIn (K0 w.params) 85 (.type "object")=some true from by kernel_rfl),(show PySem.W.mroIn (K0 w.params) 85 (.type "BaseException")=some true from by kernel_rfl),KQ (show PySem.W.excIn (K0 w.params) 85 [.type "ValueError",.type "Exception",.type "BaseException",.type "object"] "ValueError.__new__"=true from by kernel_rfl)⟩,PySem.W.mg_of X G (show PySem.W.nsIn (K0 w.params) mainGlobals "BadBlocks"=some (some (.ref 85)) from by kernel_rfl),(show PySem.W.kitOne (K0 w.params) (.ref 85) (.type "ValueError")=some true from by kernel_rfl),(show PySem.W.exmOne (K0 w.params) (.ref 85) (.ref 24)=some true from by kernel_rfl),⟨PySem.W.mg_of X G (show PySem.W.nsIn (K0 w.params) mainGlobals "BadBook"=some (some (.ref 61)) from by kernel_rfl),(show PySem.W.kitOne (K0 w.params) (.ref 85) (.ref 61)=some false from by kernel_rfl)⟩,⟨PySem.W.mg_of X G (show PySem.W.nsIn (K0 w.params) mainGlobals "BadBreaks"=some (some (.ref 116)) from by kernel_rfl),(show PySem.W.kitOne (K0 w.params) (.ref 85) (.ref 116)=some false from by kernel_rfl)⟩,⟨PySem.W.mg_of X G (show PySem.W.nsIn (K0 w.params) mainGlobals "BadFace"=some (some (.ref 37)) from by kernel_rfl),(show PySem.W.kitOne (K0 w.params) (.ref 85) (.ref 37)=some false from by kernel_rfl)⟩,⟨PySem.W.mg_of X G (show PySem.W.nsIn (K0 w.params) mainGlobals "BadRules"=some (some (.ref 49)) from by kernel_rfl),(show PySem.W.kitOne (K0 w.params) (.ref 85) (.ref 49)=some false from by kernel_rfl)⟩,⟨PySem.W.mg_of X G (show PySem.W.nsIn (K0 w.params) mainGlobals "BadText"=some (some (.ref 104)) from by kernel_rfl),(show PySem.W.kitOne (K0 w.params) (.ref 85) (.ref 104)=some false from by kernel_rfl)⟩,⟨PySem.W.mg_of X G (show PySem.W.nsIn (K0 w.params) mainGlobals "BadWord"=some (some (.ref 73)) from by kernel_rfl),(show PySem.W.kitOne (K0 w.params) (.ref 85) (.ref 73)=some false from by kernel_rfl)⟩,⟨PySem.W.mg_of X G (show PySem.W.nsIn (K0 w.params) mainGlobals "NoNote"=some (some (.ref 152)) from by kernel_rfl),(show PySem.W.kitOne (K0 w.params) (.ref 85) (.ref 152)=some false from by kernel_rfl)⟩,⟨PySem.W.mg_of X G (show PySem.W.nsIn (K0 w.params) mainGlobals "NoPlace"=some (some (.ref 140)) from by kernel_rfl),(show PySem.W.kitOne (K0 w.params) (.ref 85) (.ref 140)=some false from by kernel_rfl)⟩,⟨PySem.W.mg_of X G (show PySem.W.nsIn (K0 w.params) mainGlobals "TooWide"=some (some (.ref 128)) from by kernel_rfl),(show PySem.W.kitOne (K0 w.params) (.ref 85) (.ref 128)=some false from by kernel_rfl)⟩⟩
 refine ⟨fnOf "law" "law" (defArgs (top 57)) (defBody (top 57)) (defScope (top 57)) .none .none .none (.str "law_quirehand_k06_blocks_refused" 483) none (.ref 358) .none,fun s v=>.of_eq rfl,fun base _ _=>?_⟩
 have D_is_sign:=HW.dfn (n:="is_sign") (st:=top 14) (ps:=["thing"]) (a:=161) (c:=160) (m:="quirehand.faces") (t:=376) X G (fun _ _ _ _ _ _=>bd1 fun _=>rfl) (by kernel_rfl)
 have O_is_sign:=YD (P:=pw) (w:=w) (base:=base) D_is_sign B Gv Cl 
 have D_is_word:=HW.dfn (n:="is_word") (st:=top 17) (ps:=["thing"]) (a:=166) (c:=165) (m:="quirehand.parting") (t:=387) X G (fun _ _ _ _ _ _=>bd1 fun _=>rfl) (by kernel_rfl)
 have O_is_word:=Yc (P:=pw) (w:=w) (base:=base) D_is_word B Gv Cl O_is_sign
 have D_is_tuple_of:=HW.dfn (n:="is_tuple_of") (st:=top 28) (ps:=["thing","least","most","is_part"]) (a:=171) (c:=170) (m:="quirehand.blocks") (t:=397) X G (fun _ _ _ _ _ _=>bd4 fun _ _ _ _=>rfl) (by kernel_rfl)
 have D_is_note:=HW.dfn (n:="is_note") (st:=top 29) (ps:=["thing"]) (a:=178) (c:=177) (m:="quirehand.blocks") (t:=397) X G (fun _ _ _ _ _ _=>bd1 fun _=>rfl) (by kernel_rfl)
 have O_is_tuple_of__is_word:=vc (P:=pw) (w:=w) (base:=base) D_is_tuple_of B Gv Cl O_is_word
 have O_is_note:=YC (P:=pw) (w:=w) (base:=base) D_is_note B Gv Cl O_is_tuple_of__is_word
 have D_is_pair:=HW.dfn (n:="is_pair") (st:=top 30) (ps:=["thing"]) (a:=185) (c:=184) (m:="quirehand.blocks") (t:=397) X G (fun _ _ _ _ _ _=>bd1 fun _=>rfl) (by kernel_rfl)
 have O_is_tuple_of__is_note:=wZ (P:=pw) (w:=w) (base:=base) D_is_tuple_of B Gv Cl O_is_note
 have O_is_pair:=Y9 (P:=pw) (w:=w) (base:=base) D_is_pair B Gv Cl O_is_word O_is_tuple_of__is_note
 have D_is_cell:=HW.dfn (n:="is_cell") (st:=top 31) (ps:=["thing"]) (a:=192) (c:=191) (m:="quirehand.blocks") (t:=397) X G (fun _ _ _ _ _ _=>bd1 fun _=>rfl) (by kernel_rfl)
 have O_is_cell:=Yn (P:=pw) (w:=w) (base:=base) D_is_cell B Gv Cl O_is_tuple_of__is_word
 have D_is_row:=HW.dfn (n:="is_row") (st:=top 32) (ps:=["thing"]) (a:=199) (c:=198) (m:="quirehand.blocks") (t:=397) X G (fun _ _ _ _ _ _=>bd1 fun _=>rfl) (by kernel_rfl)
 have O_is_tuple_of__is_cell:=vg (P:=pw) (w:=w) (base:=base) D_is_tuple_of B Gv Cl O_is_cell
 have O_is_row:=Xz (P:=pw) (w:=w) (base:=base) D_is_row B Gv Cl O_is_tuple_of__is_cell
 have D_is_table:=HW.dfn (n:="is_table") (st:=top 33) (ps:=["thing"]) (a:=204) (c:=203) (m:="quirehand.blocks") (t:=397) X G (fun _ _ _ _ _ _=>bd1 fun _=>rfl) (by kernel_rfl)
 have O_is_tuple_of__is_row:=vB (P:=pw) (w:=w) (base:=base) D_is_tuple_of B Gv Cl O_is_row
 have O_is_table:=ZS (P:=pw) (w:=w) (base:=base) D_is_table B Gv Cl O_is_tuple_of__is_row
 have D_is_block:=HW.dfn (n:="is_block") (st:=top 34) (ps:=["thing"]) (a:=211) (c:=210) (m:="quirehand.blocks") (t:=397) X G (fun _ _ _ _ _ _=>bd1 fun _=>rfl) (by kernel_rfl)
 have O_is_tuple_of__is_pair:=v9 (P:=pw) (w:=w) (base:=base) D_is_tuple_of B Gv Cl O_is_pair
 have O_is_block:=Zr (P:=pw) (w:=w) (base:=base) D_is_block B Gv Cl O_is_table O_is_tuple_of__is_word O_is_tuple_of__is_pair
 have D_many_notes:=HW.dfn (n:="many_notes") (st:=top 35) (ps:=["block"]) (a:=216) (c:=215) (m:="quirehand.blocks") (t:=397) X G (fun _ _ _ _ _ _=>bd1 fun _=>rfl) (by kernel_rfl)
 have O_many_notes:=ke (P:=pw) (w:=w) (base:=base) D_many_notes B Gv Cl 
 have D_are_blocks:=HW.dfn (n:="are_blocks") (st:=top 36) (ps:=["thing"]) (a:=221) (c:=220) (m:="quirehand.blocks") (t:=397) X G (fun _ _ _ _ _ _=>bd1 fun _=>rfl) (by kernel_rfl)
 have O_are_blocks:=jS (P:=pw) (w:=w) (base:=base) D_are_blocks B Gv Cl O_is_block O_many_notes
 have D_need_blocks:=HW.dfn (n:="need_blocks") (st:=top 37) (ps:=["blocks"]) (a:=228) (c:=227) (m:="quirehand.blocks") (t:=397) X G (fun _ _ _ _ _ _=>bd1 fun _=>rfl) (by kernel_rfl)
 have O_need_blocks:=jo (P:=pw) (w:=w) (base:=base) D_need_blocks B Gv Cl O_are_blocks
 have D__law_number:=HW.dfn (n:="_law_number") (st:=top 39) (ps:=["_law_script","_law_k"]) (a:=235) (c:=234) (m:="law_quirehand_k06_blocks_refused") (t:=483) X G (fun _ _ _ _ _ _=>bd2 fun _ _=>rfl) (by kernel_rfl)
 have O__law_number:=jB (P:=pw) (w:=w) (base:=base) D__law_number B Gv Cl 
 have D__law_next:=HW.dfn (n:="_law_next") (st:=top 40) (ps:=["_law_number_here"]) (a:=242) (c:=241) (m:="law_quirehand_k06_blocks_refused") (t:=483) X G (fun _ _ _ _ _ _=>bd1 fun _=>rfl) (by kernel_rfl)
 have O__law_next:=Zg (P:=pw) (w:=w) (base:=base) D__law_next B Gv Cl 
 have D__law_word:=HW.dfn (n:="_law_word") (st:=top 41) (ps:=["_law_number_here"]) (a:=249) (c:=248) (m:="law_quirehand_k06_blocks_refused") (t:=483) X G (fun _ _ _ _ _ _=>bd1 fun _=>rfl) (by kernel_rfl)
 have O__law_word:=kS (P:=pw) (w:=w) (base:=base) D__law_word B Gv Cl 
 have D__law_words:=HW.dfn (n:="_law_words") (st:=top 42) (ps:=["_law_number_here","_law_least","_law_most"]) (a:=256) (c:=255) (m:="law_quirehand_k06_blocks_refused") (t:=483) X G (fun _ _ _ _ _ _=>bd3 fun _ _ _=>rfl) (by kernel_rfl)
 have O__law_words:=kf (P:=pw) (w:=w) (base:=base) D__law_words B Gv Cl O__law_next O__law_word
 have D__law_pairs:=HW.dfn (n:="_law_pairs") (st:=top 43) (ps:=["_law_number_here","_law_room"]) (a:=263) (c:=262) (m:="law_quirehand_k06_blocks_refused") (t:=483) X G (fun _ _ _ _ _ _=>bd2 fun _ _=>rfl) (by kernel_rfl)
 have O__law_pairs:=jX (P:=pw) (w:=w) (base:=base) D__law_pairs B Gv Cl O__law_next O__law_word O__law_words
 have D__law_table:=HW.dfn (n:="_law_table") (st:=top 44) (ps:=["_law_number_here"]) (a:=270) (c:=269) (m:="law_quirehand_k06_blocks_refused") (t:=483) X G (fun _ _ _ _ _ _=>bd1 fun _=>rfl) (by kernel_rfl)
 have O__law_table:=jU (P:=pw) (w:=w) (base:=base) D__law_table B Gv Cl O__law_next O__law_words
 have D__law_block:=HW.dfn (n:="_law_block") (st:=top 45) (ps:=["_law_number_here","_law_room"]) (a:=277) (c:=276) (m:="law_quirehand_k06_blocks_refused") (t:=483) X G (fun _ _ _ _ _ _=>bd2 fun _ _=>rfl) (by kernel_rfl)
 have O__law_block:=kc (P:=pw) (w:=w) (base:=base) D__law_block B Gv Cl O__law_pairs O__law_words O__law_table
 have D__law_blocks:=HW.dfn (n:="_law_blocks") (st:=top 46) (ps:=["_law_script","_law_first"]) (a:=282) (c:=281) (m:="law_quirehand_k06_blocks_refused") (t:=483) X G (fun _ _ _ _ _ _=>bd2 fun _ _=>rfl) (by kernel_rfl)
 have O__law_blocks:=jM (P:=pw) (w:=w) (base:=base) D__law_blocks B Gv Cl O__law_number O__law_block
 have D__law_is_another:=HW.dfn (n:="_law_is_another") (st:=top 47) (ps:=["_law_error"]) (a:=289) (c:=288) (m:="law_quirehand_k06_blocks_refused") (t:=483) X G (fun _ _ _ _ _ _=>bd1 fun _=>rfl) (by kernel_rfl)
 have D__law_refused:=HW.dfn (n:="_law_refused") (st:=top 48) (ps:=["_law_blocks_here"]) (a:=296) (c:=295) (m:="law_quirehand_k06_blocks_refused") (t:=483) X G (fun _ _ _ _ _ _=>bd1 fun _=>rfl) (by kernel_rfl)
 have O__law_refused:=qO (P:=pw) (w:=w) (base:=base) D__law_refused B Gv Cl O_need_blocks D__law_is_another
 have D__law_odd:=HW.dfn (n:="_law_odd") (st:=top 49) (ps:=["_law_number_here"]) (a:=303) (c:=302) (m:="law_quirehand_k06_blocks_refused") (t:=483) X G (fun _ _ _ _ _ _=>bd1 fun _=>rfl) (by kernel_rfl)
 have O__law_odd:=Zp (P:=pw) (w:=w) (base:=base) D__law_odd B Gv Cl 
 have D__law_bad_word:=HW.dfn (n:="_law_bad_word") (st:=top 50) (ps:=["_law_number_here"]) (a:=310) (c:=309) (m:="law_quirehand_k06_blocks_refused") (t:=483) X G (fun _ _ _ _ _ _=>bd1 fun _=>rfl) (by kernel_rfl)
 have O__law_bad_word:=qu (P:=pw) (w:=w) (base:=base) D__law_bad_word B Gv Cl 
 have D__law_with:=HW.dfn (n:="_law_with") (st:=top 51) (ps:=["_law_row","_law_at","_law_thing"]) (a:=317) (c:=316) (m:="law_quirehand_k06_blocks_refused") (t:=483) X G (fun _ _ _ _ _ _=>bd3 fun _ _ _=>rfl) (by kernel_rfl)
 have O__law_with:=Z7 (P:=pw) (w:=w) (base:=base) D__law_with B Gv Cl 
 have D__law_bad_pair:=HW.dfn (n:="_law_bad_pair") (st:=top 52) (ps:=["_law_pair","_law_number_here"]) (a:=324) (c:=323) (m:="law_quirehand_k06_blocks_refused") (t:=483) X G (fun _ _ _ _ _ _=>bd2 fun _ _=>rfl) (by kernel_rfl)
 have O__law_bad_pair:=qm (P:=pw) (w:=w) (base:=base) D__law_bad_pair B Gv Cl O__law_with O__law_bad_word
 have D__law_bad_row:=HW.dfn (n:="_law_bad_row") (st:=top 53) (ps:=["_law_row","_law_number_here","_law_size"]) (a:=331) (c:=330) (m:="law_quirehand_k06_blocks_refused") (t:=483) X G (fun _ _ _ _ _ _=>bd3 fun _ _ _=>rfl) (by kernel_rfl)
 have O__law_bad_row:=qQ (P:=pw) (w:=w) (base:=base) D__law_bad_row B Gv Cl O__law_with O__law_bad_word
 have D__law_spoilt:=HW.dfn (n:="_law_spoilt") (st:=top 54) (ps:=["_law_block_here","_law_number_here"]) (a:=338) (c:=337) (m:="law_quirehand_k06_blocks_refused") (t:=483) X G (fun _ _ _ _ _ _=>bd2 fun _ _=>rfl) (by kernel_rfl)
 have O__law_spoilt:=jI (P:=pw) (w:=w) (base:=base) D__law_spoilt B Gv Cl O__law_with O__law_bad_row O__law_bad_word O__law_bad_pair
 have D__law_bound:=HW.dfn (n:="_law_bound") (st:=top 55) (ps:=["_law_number_here","_law_more"]) (a:=345) (c:=344) (m:="law_quirehand_k06_blocks_refused") (t:=483) X G (fun _ _ _ _ _ _=>bd2 fun _ _=>rfl) (by kernel_rfl)
 have O__law_bound:=jT (P:=pw) (w:=w) (base:=base) D__law_bound B Gv Cl 
 have D__law_bounds:=HW.dfn (n:="_law_bounds") (st:=top 56) (ps:=["_law_number_here"]) (a:=352) (c:=351) (m:="law_quirehand_k06_blocks_refused") (t:=483) X G (fun _ _ _ _ _ _=>bd1 fun _=>rfl) (by kernel_rfl)
 have O__law_bounds:=jh (P:=pw) (w:=w) (base:=base) D__law_bounds B Gv Cl O__law_bound O__law_refused O_need_blocks O_is_block
 exact JF (show (K0 w.params).lookup 359=some (fO "law" 57 358 "law_quirehand_k06_blocks_refused" 483) from by kernel_rfl) (show codeIn (K0 w.params) (.ref 358) "law"=true from by kernel_rfl) sc_law (by decide) (V1 B Gv Cl O__law_blocks O__law_number O__law_odd O__law_bounds O_is_block O__law_refused O__law_spoilt O_need_blocks)
end K06
end
open PySem PySem.W PyProof.Rows L2
set_option maxRecDepth 100000 in
set_option maxHeartbeats 0 in
theorem PySem.Challenge.cw_quirehand_k06_blocks_refused_holds : PySem.Challenge.rw_quirehand_k06_blocks_refused.Holds := by
 w_on; o_law
 refine PySem.W.holds_open (q:=K06.q0) (loose:=[]) (Xt:=fun s=>xlAt K06.q0 [] s&&recOk [] s) (XP:=XL K06.q0 []) (Yf:=fun s=>K06.as0.map s.heap.get?) (Ya:=fun w=>(K06.K0 w.params).map fun (p:Addr×Obj)=>some p.2) (YP:=InK K06.K0) (N:=6986) K06.left0 (InK.of K06.as_eq) InK.keeps (fun s e=>xl_of s (Bool.and_eq_true_iff.mp e).1) XL.keeps (by rfl) (by rfl) (by rfl) (fun s e=>recFacts_of (Bool.and_eq_true_iff.mp e).2) (by rfl) (by first | assumption | decide +kernel) (by decide +kernel) ⟨rfl,rfl,rfl,rfl,rfl,by decide +kernel⟩ ?hw ?hc
 case hw=>w_witness2
 case hc=>exact L2.law_walk (l:=PySem.Challenge.rw_quirehand_k06_blocks_refused) (Fm:=K06.F_law) (k:=14) (x:="_law_script") K06.law_true ⟨rfl,by decide,by decide⟩ rfl rfl (fun w h Y=>Y) K06.facts
#print axioms PySem.Challenge.cw_quirehand_k06_blocks_refused_holds
