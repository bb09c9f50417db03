import PyProof.Rows.All
import Wide.All
import OpenK.AllK
import Wide.FinOn
import Lean
import PyProof.EqAt
import PyProof.EqKinds
import PyProof.TupleCall
import PyProof.ZipIter
import KE.KDictSum
import PyProof.Rows.SortStr
import PyProof.Rows.TupAdd
import PyProof.TupleOfGen
import PySem.Challenge.RW_quirehand_k24_all_fillings_tried
set_option Elab.async false
set_option linter.all false
set_option maxRecDepth 100000
set_option maxHeartbeats 4000000
set_option bootstrap.genMatcherCode false
set_option genSizeOfSpec false
noncomputable section
open PySem.Heap renaming get?_push_of_some->jYb,lt_size->jYc,get?_push_size->jYd
open Option.some renaming inj->jYe
open PySem.W renaming Frag->jJa,fnOf->jJb,findIn->jJc,kia_one->jJd,emptyDict->jJe,codeIn->jJf,instObj->jJg,keepIn->jJh,kitOne->jJi,callWith_K->jJj,lookIn->jJk,plainGet->jJm,nsIn->jJn,CodeHd->jJo,kla_fn->jJp,methodObj->jJq,hasDictIn->jJr,plainGet_of->jJs,isFn->jJt,takerIn->jJu,specialIn->jJv,mroIn->jJw,kitx_list->jJx,cellsFrom_some->jJy,keq_eq->jJz,tabObj->jJ0,kla_obj->jJ1,kitx_tuple->jJ6,methodCall_KW->jJ8
open PySem.F renaming plain_max_loop->jXh,plain_min_loop->jXi,entry_max_loop->jXj,entry_min_loop->jXk,slot_tuple_add->jXm,entry_tuple_add->jXn,args_tuple_add_2->jXo,plainAttrs_list->jXp,slot_dict_update->jXq,slot_list_ne->jXr
open List renaming getElem?_cons_zero -> tD, getElem?_cons_succ -> tE, length_cons -> tF, map_cons -> tG, set_cons_zero -> tH, set_cons_succ -> tI, replicate_zero -> tK, getElem?_eq_getElem -> tL, length_map -> tM, nil_append -> tN, replicate_succ -> tO, length_nil -> tP, mem_append_right -> tR, cons_append -> tS, length_append -> tT, mem_cons_self -> tU, getElem?_eq_some_iff -> tV, mem_cons_of_mem -> tW, append_nil -> tY, map_nil -> sA, mem_append_left -> sC, size_toArray -> sD, getElem?_set_ne -> sE, mem_cons -> sF, mem_append -> sG, nodup_append -> sI, getElem?_map -> sJ, getElem?_set_self -> sO, append_assoc -> sP, drop_eq_getElem_cons -> sQ, length_set -> sS, lookup_cons -> sU, map_append -> sV, nodup_cons -> sW, mem_singleton -> sX, getD_eq_getElem?_getD -> sY, mem_map -> rB, filterMap_cons -> rC, length_replicate -> rD, length_take -> rE, length_singleton -> rH, mem_of_mem_take -> rJ, not_mem_nil -> rK, length_range -> rN, flatMap_cons -> rO, mem_range -> rP, sublist_append_right -> rQ, map_map -> rR, mem_filterMap -> rS, mem_of_mem_drop -> rW, flatten_cons -> rY, range_succ_eq_map -> rZ, getElem?_append_right -> pA, length_drop -> pB, getElem?_append_left -> pD, sum_append -> pF, getElem?_range -> pG, map_congr_left -> pI, all_eq_true -> pJ, getElem_mem -> pK, drop_of_length_le -> pL, getElem?_drop -> pM, mem_filter -> pN, find?_cons -> pO, getElem?_eq_none -> pP, all_cons -> pQ, sum_cons -> pS, mem_of_getElem? -> pU, nodup_nil -> pW, nil_sublist -> pY, getElem?_take_of_lt -> hV, sublist_append_left -> gA, length_filterMap_le -> gD, getElem?_replicate -> gE, any_cons -> gF, drop_eq_nil_of_le -> gH, any_eq_true -> gL, mem_flatMap -> gM, mem_reverse -> gN
open Bool renaming false_eq_true -> tJ, false_ne_true -> tX, and_eq_true -> sR, not_true -> sZ, not_false -> rA, and_eq_true_iff -> rV, true_and -> pH, false_or -> pT, false_and -> pV, true_or -> gC, or_false -> gO
open Nat renaming le_refl -> tQ, zero_add -> tZ, ne_of_lt -> sL, lt_of_lt_of_le -> sN, le_trans -> sT, zero_le -> rG, lt_irrefl -> rX, le_succ -> pC, lt_succ_of_lt -> pR, lt_succ_self -> pX, le_of_lt -> pZ, sub_self -> gI, sub_zero -> gJ
open Option renaming map_eq_some_iff -> rL, map_some -> pE, bind_eq_some_iff -> gG
open Int renaming add_zero -> gB, zero_add -> gK
namespace L2
open PySem PySem.Spec PyProof.Rows
def au0 (h:True:=by first|exact .inl rfl|exact .inr rfl|assumption):True:=trivial
def au1 (h:True:=by decide):True:=trivial
def au2 (h:True:=by intro _;rfl):True:=trivial
def au3 (h:True:=by rfl):True:=trivial
def au4 (h:True:=by first|exact Or.inl rfl|exact Or.inr (Or.inl rfl)|exact Or.inr (Or.inr rfl)):True:=trivial
def au5 (h:True:=by exact fun _ _=>rfl):True:=trivial
def au6 (h:True:=by simp):True:=trivial
def au7 (h:True:=by first|exact Or.inl rfl|exact Or.inr rfl):True:=trivial
def au8 (h:True:=by size_fits):True:=trivial
inductive Key where
 | inl (i:Int) | inr (x:Str) | non
 deriving DecidableEq
def WU:Value->Bool
 | .none=>true
 | _=>false
def Z8:Key->Value->Bool
 | .inl k,v=>Value.isInt k v
 | .inr x,v=>Value.isStrOf x v
 | .non,v=>WU v
def z3K (w:World):Key->Int
 | .inl k=>hashInt k
 | .inr x=>hashStr w x
 | .non=>0xFCA86420
def kD {v:Value}(h:WU v=true):v=.none:=by cases v<;>first|rfl|cases h
def yj:∀ {k:Key} {v:Value},Z8 k v=true->(∃i t,k=Key.inl i/\v=Value.int i t)\/(∃x t,k=Key.inr x/\v=Value.str x t)\/(k=Key.non/\v=Value.none)
 | .inl i,v,h=>by
  obtain⟨t,e⟩:=Value.isInt_shape (k:=i) (v:=v) h;exact .inl ⟨i,t,rfl,e⟩
 | .inr x,v,h=>by
  obtain⟨t,e⟩:=Value.isStrOf_shape (x:=x) (v:=v) h;exact .inr (.inl ⟨x,t,rfl,e⟩)
 | .non,v,h=>.inr (.inr ⟨rfl,kD h⟩)
def Uh (i:Int)(t:Tok):Z8 (.inl i) (.int i t)=true:=by simp[Z8,Value.isInt]
def U4 (x:Str)(t:Tok):Z8 (.inr x) (.str x t)=true:=by simp[Z8,Value.isStrOf]
def z1U (a b:Int):decide (Key.inl a=Key.inl b)=(a==b):=by
 by_cases e:a=b
 ·subst e;simp
 ·have h:¬Key.inl a=Key.inl b:=fun q=>e (Key.inl.inj q);rw[decide_eq_false h];exact (beq_eq_false_iff_ne.mpr e).symm
def z1x (a b:Str):decide (Key.inr a=Key.inr b)=decide (a=b):=by
 by_cases e:a=b
 ·subst e;simp
 ·have h:¬Key.inr a=Key.inr b:=fun q=>e (Key.inr.inj q);rw[decide_eq_false h,decide_eq_false e]
def slot_none_hash:Slot "NoneType" "__hash__" "NoneType.__hash__" :=
 .of (owner:="NoneType") (n:="__hash__") (by rw[typeLookup_type];rw[builtinLookup_eq_fast];kernel_rfl) (by decide +kernel) (by decide +kernel) (by decide +kernel)
  (by first|exact .inl (by decide +kernel)|exact .inr (by decide +kernel)) (by rw[isSubtype_type] ;kernel_rfl)
def jc:entryFor table "NoneType.__hash__"=some Builtin.«NoneType.__hash__»:=entryFor_of_fast (by kernel_rfl)
def jG (a:Value):argsOk "NoneType.__hash__" ⟨[a],[]⟩:=by unfold argsOk;kernel_rfl
def Ue {prog:Program}{w:World}{A:Around}{E:Value->Shared->Prop}{s:Shared}{Q:Int->Shared->Prop}(h:Q 0xFCA86420 { s with toks:=s.toks+1 }):wpAny (model prog w) A (pyHash .none) Q E s:=by
 have hT:s.TypeIs .none "NoneType":=rfl;show wpAny _ _ (pyHashByItsType .none) Q E s;unfold pyHashByItsType;refine wpAny_bind ?_;rw[cRoomFor,if_neg (by decide)];refine wpAny_pure (wpAny_bind (wpAny_specialOf hT slot_none_hash.lookup ?_));rw[if_neg (by decide)];refine wpAny_bind (wpAny_specialOf hT slot_none_hash.lookup ?_);rw[if_neg (by decide)];refine wpAny_bind (wpAny_callSpecialIfBoundUnlessNone?_slot hT slot_none_hash (wpAny_call_entry slot_none_hash hT jc ?_ (jG _)));show wpAny _ _ (do ret (<-mkInt 0xFCA86420)) _ _ s;refine wpAny_ret_mkInt ?_;show wpAny _ _ (pyHashByItsType.reduced 0xFCA86420) Q E _;unfold pyHashByItsType.reduced;rw[if_pos (by decide)];exact wpAny_pure h
def yc (prog:Program)(w:World):PySem.KeyKind prog w Key where
 is:=Z8
 hash:=z3K w
 inj:=fun v a b ha hb=>by
  rcases yj ha with⟨i,t,rfl,rfl⟩|⟨x,t,rfl,rfl⟩|⟨rfl,rfl⟩
  ·rcases yj hb with⟨j,u,rfl,e⟩|⟨y,u,rfl,e⟩|⟨rfl,e⟩
   ·injection e with e1 _;rw[e1]
   ·exact nomatch e
   ·exact nomatch e
  ·rcases yj hb with⟨j,u,rfl,e⟩|⟨y,u,rfl,e⟩|⟨rfl,e⟩
   ·exact nomatch e
   ·injection e with e1 _;rw[e1]
   ·exact nomatch e
  ·rcases yj hb with⟨j,u,rfl,e⟩|⟨y,u,rfl,e⟩|⟨rfl,e⟩
   ·exact nomatch e
   ·exact nomatch e
   ·rfl
 byValue:=fun k v h=>by
  rcases yj h with⟨i,t,rfl,rfl⟩|⟨x,t,rfl,rfl⟩|⟨rfl,rfl⟩<;>rfl
 pyHash:=fun hv h=>by
  rcases yj hv with⟨i,t,rfl,rfl⟩|⟨x,t,rfl,rfl⟩|⟨rfl,rfl⟩
  ·exact wpAny_pyHash_int h
  ·exact wpAny_pyHash_str h
  ·exact Ue h
 eqBool:=fun hu hv h=>by
  rcases yj hu with⟨i,t,rfl,rfl⟩|⟨x,t,rfl,rfl⟩|⟨rfl,rfl⟩
  ·rcases yj hv with⟨j,u,rfl,rfl⟩|⟨y,u,rfl,rfl⟩|⟨rfl,rfl⟩
   ·rw[z1U]at h;exact wpAny_eqBool_int h
   ·rw[decide_eq_false (by intro q;cases q)]at h;exact SeqAt.EqAt.int_str i t y u _ _ _ _ h
   ·rw[decide_eq_false (by intro q;cases q)]at h;exact SeqAt.EqAt.int_none i t _ _ _ _ h
  ·rcases yj hv with⟨j,u,rfl,rfl⟩|⟨y,u,rfl,rfl⟩|⟨rfl,rfl⟩
   ·rw[decide_eq_false (by intro q;cases q)]at h;exact SeqAt.EqAt.str_int x t j u _ _ _ _ h
   ·rw[z1x]at h;exact wpAny_eqBool_str h
   ·rw[decide_eq_false (by intro q;cases q)]at h;exact SeqAt.EqAt.str_none x t _ _ _ _ h
  ·rcases yj hv with⟨j,u,rfl,rfl⟩|⟨y,u,rfl,rfl⟩|⟨rfl,rfl⟩
   ·rw[decide_eq_false (by intro q;cases q)]at h;exact SeqAt.EqAt.none_int j u _ _ _ _ h
   ·rw[decide_eq_false (by intro q;cases q)]at h;exact SeqAt.EqAt.none_str y u _ _ _ _ h
   ·rw[decide_eq_true rfl]at h;exact SeqAt.EqAt.same .none _ _ _ _ h
 «strs»:=fun k x t v h=>by
  rcases yj h with⟨i,u,rfl,e⟩|⟨y,u,rfl,e⟩|⟨rfl,e⟩
  ·exact nomatch e
  ·injection e with e1 _;subst e1;cases v<;>rfl
  ·exact nomatch e
def YR (prog:Program)(w:World)(i:Int)(t:Tok):(yc prog w).is (.inl i) (.int i t)=true:=Uh i t
def Xl (prog:Program)(w:World)(x:Str)(t:Tok):(yc prog w).is (.inr x) (.str x t)=true:=U4 x t
def Yq (prog:Program)(w:World):(yc prog w).is .non .none=true:=rfl
inductive V where
 | non | bl (b:Bool) | int (i:Int) | str (x:Str) | byt (b:Array UInt8) | flt (b:UInt64) | ref (a:Addr) | ty (n:String)
 deriving DecidableEq
def RelV:V->Value->Prop
 | .non,u=>u=Value.none
 | .bl b,u=>u=Value.bool b
 | .int i,u=>∃t,u=Value.int i t
 | .str x,u=>∃t,u=Value.str x t
 | .byt b,u=>∃t,u=Value.bytes b t
 | .flt b,u=>∃t,u=Value.float b t
 | .ref a,u=>u=Value.ref a
 | .ty n,u=>u=Value.type n
abbrev Vals:List V->List Value->Prop:=Paired RelV
theorem Vals.length {xs:List V}{us:List Value}(r:Vals xs us):xs.length=us.length:=Paired.length r
theorem Vals.get:∀ {xs:List V} {us:List Value} {i:Nat} {x:V},Vals xs us->xs[i]?=some x->∃u,us[i]?=some u/\RelV x u
 | _,_,_,_,.nil,e=>by simp at e
 | _,_,0,_,.cons r _,e=>by simp at e;subst e;exact⟨_,rfl,r⟩
 | _,_,i+1,x,.cons _ t,e=>by
  obtain⟨u,h1,h2⟩:=Vals.get (i:=i) (x:=x) t (by simpa using e);exact⟨u,by simpa using h1,h2⟩
theorem Vals.set {x:V}{u:Value}(r:RelV x u):∀ {xs:List V} {us:List Value} (i:Nat),Vals xs us->Vals (xs.set i x) (us.set i u)
 | _,_,_,.nil=>.nil
 | _,_,0,.cons _ t=>.cons r t
 | _,_,i+1,.cons q t=>.cons q (Vals.set r i t)
theorem Vals.append:∀ {xs ys:List V} {us ws:List Value},Vals xs us->Vals ys ws->Vals (xs++ys) (us++ws)
 | _,_,_,_,.nil,s=>s
 | _,_,_,_,.cons r t,s=>.cons r (Vals.append t s)
theorem Vals.take:∀ {xs:List V} {us:List Value} (n:Nat),Vals xs us->Vals (xs.take n) (us.take n)
 | _,_,0,_=>.nil
 | _,_,_+1,.nil=>.nil
 | _,_,n+1,.cons r t=>.cons r (Vals.take n t)
theorem Vals.drop:∀ {xs:List V} {us:List Value} (n:Nat),Vals xs us->Vals (xs.drop n) (us.drop n)
 | _,_,0,r=>r
 | _,_,_+1,.nil=>.nil
 | _,_,n+1,.cons _ t=>Vals.drop n t
def RelO:Option V->Option Value->Prop
 | some v,some u=>RelV v u
 | none,none=>True
 | _,_=>False
def KV {κ:Type}:List (κ×V)->List (κ×Value)->Prop:=Paired fun (p:κ×V) (q:κ×Value)=>p.1=q.1/\RelV p.2 q.2
def kV:Key->V
 | .inl i=>.int i
 | .inr x=>.str x
 | .non=>.non
def TupN (h:Heap)(a:Addr)(items:Array Value):Prop:=∃o,h.get? a=some o/\o.cls=.type "tuple"/\(o.dict=none/\o.slots=#[])/\∃n,o.data=.seq items n
theorem TupN.tup {h:Heap}{a:Addr}{items:Array Value}(x:TupN h a items):IsTup h a items:=let ⟨o,ho,hc,_,n,hd⟩:=x;⟨o,ho,hc,n,hd⟩
theorem TupN.lt {h:Heap}{a:Addr}{items:Array Value}(x:TupN h a items):a<h.objs.size:=x.tup.lt
theorem TupN.new (h:Heap)(items:Array Value):TupN (h.push { cls:=.type "tuple",data:=.seq items }) h.objs.size items:=⟨_,jYd _ rfl,rfl,⟨rfl,rfl⟩,_,rfl⟩
inductive HO where
  | lst (xs:List V)
  | tup (xs:List V)
  | dK (kvs:List (Key×V)) | dT (kvs:List (List Key×V))
  | set (S:Int->Bool) (n:Nat)
  | ins (C dx:Addr) (fs:List (Str×V))
  | own (x:Addr)
  | xd (fs:List (Str×V))
  | met (f x:Addr)
  | rng (lo hi:Int)
  | frz (o:Obj) (u:HO)
  | tbl (ps:Array Value)
  | ext (φ:Heap->Prop)
abbrev Hp:=Addr->Option HO
def upd (H:Hp)(a:Addr)(o:HO):Hp:=fun b=>if b=a then some o else H b
def zu {H:Hp}{a:Addr}{o:HO}:upd H a o a=some o:=by unfold upd;rw[if_pos rfl]
def zy {H:Hp}{a b:Addr}{o:HO}(h:b≠a):upd H a o b=H b:=by unfold upd;rw[if_neg h]
def JT {H:Hp}{a:Addr}{o u:HO}:upd (upd H a o) a u=upd H a u:=by
 funext b;unfold upd;split<;>rfl
def zR {H:Hp}{a b:Addr}{o:HO}(h:H a=some o)(h':H b=none):a≠b:=by
 intro e;subst e;rw[h]at h';cases h'
section
variable (P:Program)(w:World)
def ObjOk (H:Hp)(h:Heap)(a:Addr):HO->Prop
 | .lst xs=>xs.length<=sizeLine/\∃(its:List Value) (n:Nat),Vals xs its/\h.get? a=some { cls:=.type "list",data:=.seq its.toArray n }
 | .tup xs=>xs.length<=sizeLine/\∃its:List Value,Vals xs its/\TupN h a its.toArray
 | .dK kvs=>kvs.length<=sizeLine/\(a==sysModules)=false/\∃vs,KV kvs vs/\h.DictOf (yc P w) a vs
 | .dT kvs=>kvs.length<=sizeLine/\(a==sysModules)=false/\∃xs:List (List Key×Addr×Value),
   Paired (fun (p:List Key×V) (q:List Key×Addr×Value)=>p.1=q.1/\H q.2.1=some (.tup (p.1.map kV))/\RelV p.2 q.2.2) kvs xs /\
   ∃o es ep,h.get? a=some o/\o.ExactDict/\o.data=.dict es ep/\es.toList=xs.map (entryOfKey (tupleKind (yc P w)))/\(xs.map (·.1)).Nodup
 | .set S n=>h.SetOf (intKind P w) a S n
 | .ins C dx fs=>H dx=some (.own a)/\fs.length<=1000/\dx≠a/\h.get? a=some (jJg C dx) /\
   ∃mA,h.Ns1 dx mA/\(∀f,RelO (fs.lookup f) (mA f))/\PySem.Within mA (fs.map (·.1))
 | .own _=>∃o,h.get? a=some o
 | .xd fs=>∃mA,h.Ns1 a mA/\∀f,RelO (fs.lookup f) (mA f)
 | .rng lo hi=>∃t u v,h.get? a=some { cls:=.type "range",data:=.fields #[.int lo t,.int hi u,.int 1 v] }
 | .frz o u=>h.get? a=some o/\ObjOk H h a u
 | .tbl ps=>∃qs,h.get? a=some { cls:=.none,data:=.fields qs }/\(qs=#[]\/∃l k q t0 c',ps[0]?=some l/\ps[1]?=some k/\ps[2]?=some (.str q t0)/\qs=#[l,k,.ref c']/\H c'=some (.own a)/\h.CodeRec (.ref c') q)
 | .met f x=>h.get? a=some (jJq (.ref f) (.ref x))
 | .ext φ=>φ h/\(∃o,h.get? a=some o)/\∀h1 h2:Heap,φ h1->(∀o,h1.get? a=some o->h2.get? a=some o)->φ h2
def HOk (H:Hp)(h:Heap):Prop:=∀a o,H a=some o->ObjOk P w H h a o
end
section
variable {P:Program}{w:World}{H H':Hp}{h h':Heap}{a:Addr}{o:HO}
theorem ObjOk.lt (x:ObjOk P w H h a o):a<h.objs.size:=by
 cases o with
 | lst xs=>obtain⟨_,_,_,_,e⟩:=x;exact jYc e
 | tup xs=>obtain⟨_,_,_,p⟩:=x;exact p.lt
 | dK kvs=>obtain⟨_,_,_,_,o,_,_,e,_⟩:=x;exact jYc e
 | dT kvs=>obtain⟨_,_,_,_,o,_,_,e,_⟩:=x;exact jYc e
 | set S n=>obtain⟨o,_,_,_,e,_⟩:=x;exact jYc e
 | ins C dx fs=>obtain⟨_,_,_,e,_⟩:=x;exact jYc e
 | own y=>obtain⟨_,e⟩:=x;exact jYc e
 | xd fs=>obtain⟨_,⟨_,_,_,e,_⟩,_⟩:=x;exact jYc e
 | rng lo hi=>obtain⟨_,_,_,e⟩:=x;exact jYc e
 | frz ob u=>obtain⟨e,_⟩:=x;exact jYc e
 | tbl ps=>obtain⟨_,e,_⟩:=x;exact jYc e
 | met f y=>exact jYc (show h.get? a=some _ from x)
 | ext φ=>obtain⟨_,⟨_,e⟩,_⟩:=x;exact jYc e
theorem Paired.mapP {α β:Type}{F G:α->β->Prop}:∀ {l₁:List α} {l₂:List β},Paired F l₁ l₂->(∀a b,F a b->G a b)->Paired G l₁ l₂
 | _,_,.nil,_=>.nil
 | _,_,.cons r t,f=>.cons (f _ _ r) (Paired.mapP t f)
theorem ObjOk.stay (x:ObjOk P w H h a o)(k:∀b u,(b=a\/H b=some (.own a))->h.get? b=some u->h'.get? b=some u)
  (ho:∀b,H b=some (.own a)->H' b=some (.own a)) (ht:∀b xs,H b=some (.tup xs)->H' b=some (.tup xs)):ObjOk P w H' h' a o:=by
 induction o with
 | lst xs=>obtain⟨z,its,n,r,e⟩:=x;exact⟨z,its,n,r,k _ _ (.inl rfl) e⟩
 | tup xs=>obtain⟨z,its,r,ob,e,c⟩:=x;exact⟨z,its,r,ob,k _ _ (.inl rfl) e,c⟩
 | dK kvs=>obtain⟨z,y,vs,r,ob,es,ep,e,c⟩:=x;exact⟨z,y,vs,r,ob,es,ep,k _ _ (.inl rfl) e,c⟩
 | dT kvs =>
  obtain⟨z,y,xs,r,ob,es,ep,e,c⟩:=x;exact⟨z,y,xs,Paired.mapP r fun p q z=>⟨z.1,ht _ _ z.2.1,z.2.2⟩,ob,es,ep,k _ _ (.inl rfl) e,c⟩
 | set S n=>obtain⟨ob,es,ep,t,e,c⟩:=x;exact⟨ob,es,ep,t,k _ _ (.inl rfl) e,c⟩
 | ins C dx fs =>
  obtain⟨d,z,ne,e,mA,⟨od,es,ep,e2,c⟩,r⟩:=x;exact⟨ho _ d,z,ne,k _ _ (.inl rfl) e,mA,⟨od,es,ep,k _ _ (.inr d) e2,c⟩,r⟩
 | own y=>obtain⟨ob,e⟩:=x;exact⟨ob,k _ _ (.inl rfl) e⟩
 | xd fs=>obtain⟨mA,⟨od,es,ep,e,c⟩,r⟩:=x;exact⟨mA,⟨od,es,ep,k _ _ (.inl rfl) e,c⟩,r⟩
 | rng lo hi=>obtain⟨t,u,v,e⟩:=x;exact⟨t,u,v,k _ _ (.inl rfl) e⟩
 | frz ob u ih=>obtain⟨e,q⟩:=x;exact⟨k _ _ (.inl rfl) e,ih q⟩
 | tbl ps =>
  obtain⟨qs,e,z⟩:=x;refine⟨qs,k a _ (.inl rfl) e,?_⟩;rcases z with z|⟨l,m,q,t0,c',z1,z2,z3,z4,z5,c,ob,vs,t,z6,z7,z8⟩
  ·exact .inl z
  ·cases z6;exact .inr ⟨l,m,q,t0,c',z1,z2,z3,z4,ho _ z5,c',ob,vs,t,rfl,k _ _ (.inr z5) z7,z8⟩
 | met f y =>
  have e:h.get? a=some (jJq (.ref f) (.ref y)):=x;show h'.get? a=some (jJq (.ref f) (.ref y));exact k a _ (.inl rfl) e
 | ext φ=>obtain⟨p,⟨o,e⟩,st⟩:=x;exact⟨st _ _ p fun o q=>k _ _ (.inl rfl) q,⟨o,k _ _ (.inl rfl) e⟩,st⟩
theorem HOk.lt (x:HOk P w H h)(e:H a=some o):a<h.objs.size:=(x a o e).lt
def HOk.fresh (x:HOk P w H h)(e:h.objs.size<=a):H a=none:=by
 cases q:H a with
 | none=>rfl
 | some u=>exact absurd (sN (x.lt q) e) (rX _)
theorem HOk.kept (x:HOk P w H h)(k:∀b u,h.get? b=some u->h'.get? b=some u):HOk P w H h':=fun a o e =>
 (x a o e).stay (fun b u _ q=>k b u q) (fun _ q=>q) fun _ _ q=>q
theorem HOk.laid (x:HOk P w H h)(k:∀b u,h.get? b=some u->h'.get? b=some u)(hp:h.objs.size<=a)(new:ObjOk P w (upd H a o) h' a o):HOk P w (upd H a o) h':=fun b u e=>by
 have hn:=x.fresh hp
 by_cases hb:b=a
 ·subst hb;rw[zu]at e;cases e;exact new
 ·rw[zy hb]at e;exact (x b u e).stay (fun c v _ q=>k c v q) (fun c q=>by rw[zy (zR q hn)];exact q) fun c xs q=>by rw[zy (zR q hn)];exact q
end
def Rd (H:Hp)(a:Addr)(u:HO):Prop:=H a=some u\/∃o,H a=some (.frz o u)
theorem Rd.ok {P:Program}{w:World}{H:Hp}{h:Heap}{a:Addr}{u:HO}(r:Rd H a u)(x:HOk P w H h):ObjOk P w H h a u:=by
 rcases r with r|⟨o,r⟩
 ·exact x a u r
 ·obtain⟨_,q⟩:=x a _ r;exact q
def Mut:Option HO->Prop
 | some (.lst _)=>True
 | some (.dK _)=>True
 | some (.dT _)=>True
 | some (.set _ _)=>True
 | some (.ins _ _ _)=>True
 | some (.ext _)=>True
 | _=>False
section
variable {P:Program}{w:World}{H:Hp}{h h':Heap}{x e:Addr}{o':HO}
def HOk.write (ok:HOk P w H h)(mu:Mut (H x))(he:e=x\/H e=some (.own x))(k:∀b u,b≠e->h.get? b=some u->h'.get? b=some u)(heo:∃u,h'.get? e=some u)
  (new:ObjOk P w (upd H x o') h' x o'):HOk P w (upd H x o') h':=fun b u q=>by
 have nown:∀c y,H c=some (.own y)->c≠x:=fun c y r z=>by subst z;rw[r]at mu;exact mu
 have ntup:∀c xs,H c=some (.tup xs)->c≠x:=fun c xs r z=>by subst z;rw[r]at mu;exact mu
 by_cases hb:b=x
 ·subst hb;rw[zu]at q;cases q;exact new
 ·rw[zy hb]at q
  by_cases hbe:b=e
  ·have q':H b=some (.own x):=by
    rcases he with z|z
    ·exact absurd (hbe.trans z) hb
    ·rw[hbe];exact z
   rw[q]at q';cases q';obtain⟨v,hv⟩:=heo;exact⟨v,by rw[hbe];exact hv⟩
  ·refine (ok b u q).stay (fun c v hc r=>k c v ?_ r) (fun c r=>by rw[zy (nown c b r)];exact r) fun c xs r=>by rw[zy (ntup c xs r)];exact r
   rcases hc with rfl|hc
   ·exact hbe
   ·rintro rfl;rcases he with z|z
    ·exact nown c b hc z
    ·rw[hc]at z;cases z;exact hb rfl
end
structure Un (fs ex:List Addr)(H H':Hp)(h h':Heap):Prop where
 keep:∀b o,h.get? b=some o->H b=none->b∉fs->b∉ex->h'.get? b=some o
 slot:∀b o,h.get? b=some o->H b=none->b∈fs->b∉ex->∃sl,h'.get? b=some { o with slots:=sl }
 free:∀b o,h.get? b=some o->H b=none->b∉ex->H' b=none
 there:∀b o,h.get? b=some o->b∉ex->∃o',h'.get? b=some o'
 tups:∀b xs,H b=some (.tup xs)->H' b=some (.tup xs)
 frzs:∀b o u,H b=some (.frz o u)->H' b=some (.frz o u)
 tbls:∀b ps,H b=some (.tbl ps)->∃more,H' b=some (.tbl (ps++more))
section
variable {fs fs' ex ex':List Addr}{H H1 H2:Hp}{h h1 h2 h':Heap}{a x e:Addr}{o:HO}
theorem Un.any (u:Un fs ex H H1 h h1){b:Addr}{ob:Obj}(q:h.get? b=some ob)(n:H b=none)(hx:b∉ex):∃sl,h1.get? b=some { ob with slots:=sl }:=by
 by_cases hb:b∈fs
 ·exact u.slot b ob q n hb hx
 ·exact⟨ob.slots,u.keep b ob q n hb hx⟩
def Un.kept (k:∀b u,h.get? b=some u->h'.get? b=some u):Un fs ex H H h h' :=
 ⟨fun b ob q _ _ _=>k b ob q,fun b ob q _ _ _=>⟨ob.slots,k b ob q⟩,fun _ _ _ n _=>n,fun b ob q _=>⟨ob,k b ob q⟩,fun _ _ q=>q,fun _ _ _ q=>q,fun _ ps q=>⟨#[],by rw[q];simp⟩⟩
def Un.refl:Un fs ex H H h h:=Un.kept fun _ _ q=>q
def Un.laid (k:∀b u,h.get? b=some u->h'.get? b=some u)(hp:h.objs.size<=a)(hn:H a=none):Un fs ex H (upd H a o) h h' where
 keep:=fun b u q _ _ _=>k b u q
 slot:=fun b u q _ _ _=>⟨u.slots,k b u q⟩
 free:=fun b u q n _=>by rw[zy (sL (sN (jYc q) hp))];exact n
 there:=fun b u q _=>⟨u,k b u q⟩
 tups:=fun b xs q=>by rw[zy (zR q hn)];exact q
 frzs:=fun b u xs q=>by rw[zy (zR q hn)];exact q
 tbls:=fun b ps q=>⟨#[],by rw[zy (zR q hn),q];simp⟩
def Un.write (mu:Mut (H x))(he:e=x\/H e=some (.own x))(k:∀b u,b≠e->h.get? b=some u->h'.get? b=some u)(heo:∃u,h'.get? e=some u):Un fs ex H (upd H x o) h h':=by
 have hx:∀b,H b=none->b≠x:=fun b n z=>by subst z;rw[n]at mu;exact mu
 have hb:∀b,H b=none->b≠e:=fun b n z=>by
  subst z;rcases he with r|r
  ·exact hx b n r
  ·rw[n]at r;cases r
 have hm:∀b u,H b=some u->¬Mut (some u)->b≠x:=fun b u q nm z=>by subst z;rw[q]at mu;exact nm mu
 refine⟨fun b u q n _ _=>k b u (hb b n) q,fun b u q n _ _=>⟨u.slots,k b u (hb b n) q⟩,fun b u q n _=>by rw[zy (hx b n)];exact n,fun b u q _=>?_,
  fun b xs q=>by rw[zy (hm b _ q fun z=>z)];exact q,fun b u xs q=>by rw[zy (hm b _ q fun z=>z)];exact q,fun b ps q=>⟨#[],by rw[zy (hm b _ q fun z=>z),q];simp⟩⟩
 by_cases hbe:b=e
 ·subst hbe;exact heo
 ·exact⟨u,k b u hbe q⟩
end
def trk (h:Heap)(H:Hp):List Addr:=(List.range h.objs.size).filter fun a=>(H a).isSome
def kH (h:Heap)(H:Hp):Heap:=PySem.W.hideAll h (trk h H)
def Vz (h:Heap)(H:Hp):(kH h H).objs.size=h.objs.size:=PySem.W.hideAll_size _ _
def Qz {h:Heap}{H:Hp}{b:Addr}{o:Obj}(e:h.get? b=some o)(n:H b=none):(kH h H).get? b=some o:=
 PySem.W.hideAll_get _ e fun hm=>by
  have q:(H b).isSome=true:=(pN.mp hm).2;rw[n]at q;simp at q
def Ju {h:Heap}{H:Hp}{b:Addr}{o:Obj}(e:(kH h H).get? b=some o):h.get? b=some o/\H b=none:=by
 have e':h.get? b=some o:=PySem.W.of_hideAll (trk h H) e;refine⟨e',?_⟩;cases q:H b with
 | none=>rfl
 | some x =>
  have hm:b∈trk h H:=pN.mpr ⟨rP.mpr (jYc e'),by simp[q]⟩;have z:(kH h H).get? b=none:=PySem.W.hideAll_none (trk h H) hm;rw[z]at e;cases e
def Jy (g h:Heap)(L:Addr):List (Addr×Obj):=(List.range h.objs.size).filterMap fun a=>if a=L\/(g.get? a).isSome=true then none else (h.get? a).map fun o=>(a,o)
def rest (g h:Heap)(L d:Addr):List (Addr×Obj):=(Jy g h L).filter fun p=>decide (p.1≠d)
structure Mod (K:jJa)(mg:Str->Option Value)(base:Heap):Prop where
 kin:K.In base
 glob:base.Ns mainGlobals mg
 blt:∃mb,base.Ns builtinsNs mb/\∀x:Str,x≠"__name__"->mb x=bootBuiltins x
 nolimit:base.NoLimit
structure Cx where
 prog:Program
 w:World
 K:jJa
 mg:Str->Option Value
 base:Heap
 A:Around
 N:List Str
 s₀:Shared
 H₀:Hp
 env:Env
 outer:List Env
 stack:List Env
 ex:List Addr
 fn:Str->Bool
 calm:Bool
 pn:List (Addr×Obj)
 xe:Value->Shared->Prop
def frs (l:List Env):List Addr:=l.filterMap (·.frame)
abbrev Cx.fs (X:Cx):List Addr:=frs X.outer
def Vis (sc:Scope)(x:Str):Prop:=sc.names.lookup x=some .local\/sc.names.lookup x=some .cell\/sc.names.lookup x=some .free
def Loc (sc:Scope)(x:Str):Prop:=sc.names.lookup x=some .local\/sc.names.lookup x=some .cell
def z3Z (env:Env)(h:Heap)(m:Str->Option Value)(x:Str)(u:Value):Prop:=
 (env.kindOf x=some .local/\m x=some u)\/((env.kindOf x=some .cell\/env.kindOf x=some .free)/\∃c,env.cells.lookup x=some c/\h.IsCell c (some u))
structure Cx.Ok (X:Cx):Prop where
 mod:Mod X.K X.mg X.base
 kind:X.env.scope.kind=.function
 glob:X.env.globals=mainGlobals
 blt:X.env.builtins=builtinsNs
 above:X.s₀.heap.objs.size<=X.env.locals
 inj:∀x y c,X.env.cells.lookup x=some c->X.env.cells.lookup y=some c->x=y
 has:∀x,(X.env.kindOf x=some .cell\/X.env.kindOf x=some .free)->∃c,X.env.cells.lookup x=some c
 cab:∀x c,X.fn x=true->X.env.cells.lookup x=some c->X.s₀.heap.objs.size<=c
 hd:X.calm=true->X.A.handled=none
 frames:X.A.frames=some X.stack
 stk:X.stack=X.outer\/(X.stack=X.env::X.outer/\X.env.frame=some X.env.locals)
 exf:∀b∈X.ex,b≠X.env.locals/\∀x c,X.env.cells.lookup x=some c->c≠b
 bs:∀b o,X.base.get? b=some o->X.s₀.heap.get? b=some o/\X.H₀ b=none
 bsz:X.base.objs.size<=X.s₀.heap.objs.size
 noex:∀b o,X.base.get? b=some o->b∉X.ex
 exfs:∀b∈X.ex,b∉X.fs
 funs:X.s₀.heap.FunFrames X.base X.outer
 frf:∀b∈X.fs,X.H₀ b=none
structure Inv (X:Cx)(pins:List (Addr×Obj))(σ:List (Option V))(H:Hp)(s:Shared):Prop where
 ok:X.Ok
 os:s.os=X.s₀.os
 bare:AllBare s.gens
 base:Un X.fs X.ex X.H₀ H X.s₀.heap s.heap
 loc:∃m,s.heap.Ns X.env.locals m/\∀(i:Nat) (x:Str) (v:V),X.N[i]?=some x->σ[i]?=some (some v)->Vis X.env.scope x->∃u,RelV v u/\z3Z X.env s.heap m x u
 cell:∀x c,X.env.cells.lookup x=some c->∃v,s.heap.IsCell c v
 free:H X.env.locals=none
 freeC:∀x c,X.env.cells.lookup x=some c->H c=none
 pin:∀p∈X.pn++pins,s.heap.get? p.1=some p.2/\H p.1=none/\p.1≠X.env.locals/\p.1∉X.fs/\∀v,p.2.data≠.cell v
 hok:HOk X.prog X.w H s.heap
 len:σ.length=X.N.length
section
variable {X:Cx}{pins:List (Addr×Obj)}{σ:List (Option V)}{H H':Hp}{s:Shared}{h':Heap}
theorem Cx.Ok.nofr (ok:X.Ok){b:Addr}{o:Obj}(e:X.base.get? b=some o):b∉X.fs:=fun hb=>by
 have:=(ok.funs.mem hb).1;rw[e]at this;cases this
theorem Inv.bs (I:Inv X pins σ H s):∀b o,X.base.get? b=some o->s.heap.get? b=some o/\H b=none:=fun b o e =>
 ⟨I.base.keep b o (I.ok.bs b o e).1 (I.ok.bs b o e).2 (I.ok.nofr e) (I.ok.noex b o e),I.base.free b o (I.ok.bs b o e).1 (I.ok.bs b o e).2 (I.ok.noex b o e)⟩
theorem Inv.bk (I:Inv X pins σ H s):∀b o,X.base.get? b=some o->s.heap.get? b=some o:=fun b o e=>(I.bs b o e).1
theorem Inv.mod (I:Inv X pins σ H s):Mod X.K X.mg X.base:=I.ok.mod
theorem Inv.kIn (I:Inv X pins σ H s):X.K.In s.heap:=I.ok.mod.kin.keeps I.bk
theorem Inv.lt (I:Inv X pins σ H s):X.env.locals<s.heap.objs.size:=let ⟨_,hn,_⟩:=I.loc;hn.lt
theorem Inv.sz (I:Inv X pins σ H s):X.s₀.heap.objs.size<=s.heap.objs.size:=sT I.ok.above (pZ I.lt)
theorem Inv.nofs (I:Inv X pins σ H s){a:Addr}(h:s.heap.objs.size<=a):a∉X.fs:=fun hb=>by
 obtain⟨_,o,ho,_⟩:=I.ok.funs.mem hb;exact absurd (sN (jYc ho) (sT I.sz h)) (rX _)
theorem Inv.cne (I:Inv X pins σ H s):∀x c,X.env.cells.lookup x=some c->c≠X.env.locals:=fun x c e z=>by
 obtain⟨v,o,ho,hd⟩:=I.cell x c e;obtain⟨m,⟨o',es,ep,ho',hd',_⟩,_⟩:=I.loc;rw[z,ho']at ho;cases ho;rw[hd']at hd;cases hd
theorem Inv.funs (I:Inv X pins σ H s):s.heap.FunFrames X.base X.outer:=by
 have all:∀(l:List Env),(∀b∈frs l,b∈X.fs)->X.s₀.heap.FunFrames X.base l->s.heap.FunFrames X.base l:=by
  intro l
  induction l with
  | nil=>intro _ _;trivial
  | cons env r ih =>
   intro hs hl;obtain⟨hk,⟨L,o,hf,hn,ho,hd⟩,hr⟩:=hl;have hL:L∈X.fs:=hs L (by unfold frs;rw[rC,hf];exact tU);obtain⟨sl,e⟩:=I.base.slot L o ho (I.ok.frf L hL) hL fun z=>I.ok.exfs L z hL;exact⟨hk,⟨L,_,hf,hn,e,hd⟩,ih (fun b hb=>hs b (by unfold frs;rw[rC,hf];exact tW _ hb)) hr⟩
 exact all X.outer (fun _ hb=>hb) I.ok.funs
theorem Inv.stack (I:Inv X pins σ H s):s.heap.FunFrames X.base X.stack:=by
 rcases I.ok.stk with e|⟨e,hf⟩
 ·rw[e];exact I.funs
 ·rw[e];obtain⟨m,hn,_⟩:=I.loc;refine .cons (by rw[I.ok.kind];decide) hf hn ?_ I.funs;exact Heap.get?_none_of_le (sT I.ok.bsz I.ok.above)
def Inv.stkSub (I:Inv X pins σ H s):∀b∈frs X.stack,b∈X.env.locals::X.fs:=fun b hb=>by
 rcases I.ok.stk with e|⟨e,hf⟩
 ·rw[e]at hb;exact tW _ hb
 ·rw[e]at hb;unfold frs at hb;rw[rC,hf]at hb;exact hb
def Inv.stkFree (I:Inv X pins σ H s):∀b∈frs X.stack,H b=none:=fun b hb=>by
 rcases sF.mp (I.stkSub b hb)with e|hb
 ·rw[e];exact I.free
 ·obtain⟨_,o,ho,_⟩:=I.ok.funs.mem hb;exact I.base.free b o ho (I.ok.frf b hb) fun z=>I.ok.exfs b z hb
theorem Inv.step {g':Array GenState}{t':Nat}{d':Drawn}{ch:List Addr}(I:Inv X pins σ H s)
  (hch:∀b∈ch,(b∈X.ex\/X.s₀.heap.objs.size<=b)/\b≠X.env.locals/\(∀x c,X.env.cells.lookup x=some c->c≠b)/\∀p∈X.pn++pins,p.1≠b)
  (keep:∀b o,b≠X.env.locals->b∉X.fs->b∉ch->s.heap.get? b=some o->H b=none->h'.get? b=some o)
  (slot:∀b o,b≠X.env.locals->b∈X.fs->b∉ch->s.heap.get? b=some o->H b=none->∃sl,h'.get? b=some { o with slots:=sl }) (free:∀b o,b∉ch->s.heap.get? b=some o->H b=none->H' b=none)
  (there:∀b o,b∉ch->s.heap.get? b=some o->∃o',h'.get? b=some o')
  (tups:∀b xs,H b=some (.tup xs)->H' b=some (.tup xs)) (frzs:∀b o u,H b=some (.frz o u)->H' b=some (.frz o u)) (tbls:∀b ps,H b=some (.tbl ps)->∃more,H' b=some (.tbl (ps++more)))
  (ns:∀m,s.heap.Ns X.env.locals m->h'.Ns X.env.locals m) (hok:HOk X.prog X.w H' h') (hg:AllBare g'):
  Inv X pins σ H' { s with heap:=h',gens:=g',drawn:=d',toks:=t' }:=by
 have neL:∀b o,X.s₀.heap.get? b=some o->b≠X.env.locals:=fun b o e=>sL (sN (jYc e) I.ok.above);have neC:∀b o,X.s₀.heap.get? b=some o->b∉X.ex->b∉ch:=fun b o e hx hb=>by
  rcases (hch b hb).1 with z|z
  ·exact hx z
  ·exact absurd (sN (jYc e) z) (rX _)
 have cellK:∀x c,X.env.cells.lookup x=some c->∀v,s.heap.IsCell c v->h'.IsCell c v:=fun x c e v ⟨o,ho,hd⟩=>by
  have nch:c∉ch:=fun z=>(hch c z).2.2.1 x c e rfl
  by_cases hc:c∈X.fs
  ·obtain⟨sl,q⟩:=slot c o (I.cne x c e) hc nch ho (I.freeC x c e);exact⟨_,q,hd⟩
  ·exact⟨o,keep c o (I.cne x c e) hc nch ho (I.freeC x c e),hd⟩
 refine⟨I.ok,I.os,hg,⟨fun b o e n hb hx=>?_,fun b o e n hb hx=>?_,fun b o e n hx=>?_,fun b o e hx=>?_,fun b xs e=>tups b xs (I.base.tups b xs e),fun b o xs e=>frzs b o xs (I.base.frzs b o xs e),fun b ps e=>?_⟩,?_,fun x c e=>?_,?_,fun x c e=>?_,fun p hp=>?_,hok,I.len⟩
 ·exact keep b o (neL b o e) hb (neC b o e hx) (I.base.keep b o e n hb hx) (I.base.free b o e n hx)
 ·obtain⟨sl,e1⟩:=I.base.slot b o e n hb hx;obtain⟨sl',e2⟩:=slot b _ (neL b o e) hb (neC b o e hx) e1 (I.base.free b o e n hx);exact⟨sl',e2⟩
 ·obtain⟨o',e1⟩:=I.base.there b o e hx;exact free b o' (neC b o e hx) e1 (I.base.free b o e n hx)
 ·obtain⟨o',e1⟩:=I.base.there b o e hx;exact there b o' (neC b o e hx) e1
 ·obtain⟨m1,e1⟩:=I.base.tbls b ps e;obtain⟨m2,e2⟩:=tbls b _ e1;exact⟨m1++m2,by rw[e2,Array.append_assoc]⟩
 ·obtain⟨m,hn,hl⟩:=I.loc;refine⟨m,ns m hn,fun i x v e1 e2 e3=>?_⟩;obtain⟨u,r,l⟩:=hl i x v e1 e2 e3;refine⟨u,r,?_⟩;rcases l with l|⟨k,c,e,z⟩
  ·exact .inl l
  ·exact .inr ⟨k,c,e,cellK x c e _ z⟩
 ·obtain⟨v,z⟩:=I.cell x c e;exact⟨v,cellK x c e v z⟩
 ·obtain⟨m,⟨o,_,_,ho,_⟩,_⟩:=I.loc;exact free _ o (fun z=>(hch _ z).2.1 rfl) ho I.free
 ·obtain⟨v,o,ho,hd⟩:=I.cell x c e;exact free c o (fun z=>(hch c z).2.2.1 x c e rfl) ho (I.freeC x c e)
 ·obtain⟨e,n,ne,nf,d⟩:=I.pin p hp;have nch:p.1∉ch:=fun z=>(hch p.1 z).2.2.2 p hp rfl;exact⟨keep p.1 p.2 ne nf nch e n,free p.1 p.2 nch e n,ne,nf,d⟩
theorem Inv.un {t':Nat}(I:Inv X pins σ H s)(u:Un X.fs [] H H' s.heap h')(hok:HOk X.prog X.w H' h'):Inv X pins σ H' { s with heap:=h',toks:=t' }:=by
 obtain⟨m,⟨o,es,ep,ho,r⟩,_⟩:=id I.loc;obtain⟨sl,hL⟩:=u.any ho I.free (by simp);exact I.step (g':=s.gens) (d':=s.drawn) (ch:=[]) (fun _ z=>nomatch z) (fun b o _ hb _ e n=>u.keep b o e n hb (by simp)) (fun b o _ hb _ e n=>u.slot b o e n hb (by simp)) (fun b o _ e n=>u.free b o e n (by simp)) (fun b o _ e=>u.there b o e (by simp)) u.tups u.frzs u.tbls (fun m' hm=>by
  obtain⟨o',es',ep',ho',r'⟩:=hm;rw[ho]at ho';cases ho';exact⟨_,es',ep',hL,r'⟩) hok I.bare
theorem Inv.call {g':Array GenState}{t':Nat}{d':Drawn}{ch:List Addr}(I:Inv X pins σ H s)(u:Un (frs X.stack) ch H H' s.heap h')(hok:HOk X.prog X.w H' h')(hg:AllBare g')
  (hch:∀b∈ch,(b∈X.ex\/X.s₀.heap.objs.size<=b)/\b≠X.env.locals/\(∀x c,X.env.cells.lookup x=some c->c≠b)/\∀p∈X.pn++pins,p.1≠b):
  Inv X pins σ H' { s with heap:=h',gens:=g',drawn:=d',toks:=t' }:=by
 obtain⟨m,⟨o,es,ep,ho,r⟩,_⟩:=id I.loc;obtain⟨sl,hL⟩:=u.any ho I.free fun z=>(hch _ z).2.1 rfl;exact I.step (ch:=ch) hch (fun b o hL hb hc e n=>u.keep b o e n (fun z=>(sF.mp (I.stkSub b z)).elim hL hb) hc) (fun b o _ _ hc e n=>u.any e n hc) (fun b o hc e n=>u.free b o e n hc) (fun b o hc e=>u.there b o e hc) u.tups u.frzs u.tbls (fun m' hm=>by
  obtain⟨o',es',ep',ho',r'⟩:=hm;rw[ho]at ho';cases ho';exact⟨_,es',ep',hL,r'⟩) hok hg
def Inv.turned {t':Nat}{it:Addr}(I:Inv X pins σ H s)(k:∀b o,b≠it->s.heap.get? b=some o->h'.get? b=some o)(hn:H it=none)(hL:it≠X.env.locals)
  (h1:it∈X.ex\/X.s₀.heap.objs.size<=it) (h2:∀x c,X.env.cells.lookup x=some c->c≠it) (h3:∀p∈X.pn++pins,p.1≠it):Inv X pins σ H { s with heap:=h',toks:=t' }:=by
 have nit:∀b u,H b=some u->b≠it:=fun b u e z=>by rw[z,hn]at e;cases e
 refine I.step (g':=s.gens) (d':=s.drawn) (ch:=[it]) (fun b hb=>?_) (fun b o _ _ hc e _=>k b o (fun z=>hc (by simp[z])) e) (fun b o _ _ hc e _=>⟨o.slots,k b o (fun z=>hc (by simp[z])) e⟩) (fun _ _ _ _ n=>n)
  (fun b o hc e=>⟨o,k b o (fun z=>hc (by simp[z])) e⟩) (fun _ _ e=>e) (fun _ _ _ e=>e) (fun b ps e=>⟨#[],by rw[e];simp⟩) (fun m hm=>?_) (fun b u e=>?_) I.bare
 ·have e:b=it:=by simpa using hb
  subst e;exact⟨h1,hL,h2,h3⟩
 ·obtain⟨o,es,ep,ho,r⟩:=hm;exact⟨o,es,ep,k _ o (Ne.symm hL) ho,r⟩
 ·refine (I.hok b u e).stay (fun c v hc q=>k c v ?_ q) (fun _ q=>q) fun _ _ q=>q;rcases hc with z|z
  ·rw[z];exact nit b u e
  ·exact nit c _ z
theorem Inv.tok (I:Inv X pins σ H s)(t:Nat):Inv X pins σ H { s with toks:=t }:=I.un (h':=s.heap) (t':=t) Un.refl I.hok
theorem Inv.kept {t':Nat}(I:Inv X pins σ H s)(k:∀b u,s.heap.get? b=some u->h'.get? b=some u):Inv X pins σ H { s with heap:=h',toks:=t' }:=I.un (Un.kept k) (I.hok.kept k)
theorem Inv.laid {a:Addr}{o:HO}{t':Nat}(I:Inv X pins σ H s)(k:∀b u,s.heap.get? b=some u->h'.get? b=some u)(hp:s.heap.objs.size<=a)(new:ObjOk X.prog X.w (upd H a o) h' a o):
  Inv X pins σ (upd H a o) { s with heap:=h',toks:=t' }:=I.un (Un.laid k hp (I.hok.fresh hp)) (I.hok.laid k hp new)
theorem Inv.write {x e:Addr}{o:HO}{t':Nat}(I:Inv X pins σ H s)(mu:Mut (H x))(he:e=x\/H e=some (.own x))(k:∀b u,b≠e->s.heap.get? b=some u->h'.get? b=some u)(heo:∃u,h'.get? e=some u)
  (new:ObjOk X.prog X.w (upd H x o) h' x o):Inv X pins σ (upd H x o) { s with heap:=h',toks:=t' }:=I.un (Un.write mu he k heo) (I.hok.write mu he k heo new)
def Inv.pins_of {pins':List (Addr×Obj)}(I:Inv X pins σ H s)(h:∀p∈pins',s.heap.get? p.1=some p.2/\H p.1=none/\p.1≠X.env.locals/\p.1∉X.fs/\∀v,p.2.data≠.cell v):Inv X pins' σ H s:=
 ⟨I.ok,I.os,I.bare,I.base,I.loc,I.cell,I.free,I.freeC,fun p hp=>(sG.mp hp).elim (fun z=>I.pin p (sC _ z)) (h p),I.hok,I.len⟩
def Xs {N:List Str}(hN:N.Nodup){i j:Nat}{x:Str}(a:N[i]?=some x)(b:N[j]?=some x):i=j:=by
 obtain⟨h1,e1⟩:=tV.mp a;obtain⟨h2,e2⟩:=tV.mp b;exact (List.getElem_inj hN).mp (e1.trans e2.symm)
def Za {M:Model}{A:Around}{E:Value->Shared->Prop}{i:Nat}{x:Str}{v:V}{u:Value}{Q:Unit->Shared->Prop}(I:Inv X pins σ H s)(hN:X.N.Nodup)(hi:X.N[i]?=some x)(hx:Loc X.env.scope x)(r:RelV v u)
  (h:∀s',Inv X pins (σ.set i (some v)) H s'->(∃a,Heap.SameBut a s.heap s'.heap/\(a=X.env.locals\/X.env.cells.lookup x=some a))->Q () s') (hf:autoParam (X.fn x=true\/X.env.scope.names.lookup x=some .local) au0._auto_1):wpAny M A (storeName X.env x u) Q E s:=by
 obtain⟨m,hn,hl⟩:=id I.loc;have hcls:(X.env.scope.kind==.class||(X.env.scope.kind==.module&&X.env.locals != X.env.globals))=false:=by rw[I.ok.kind];rfl
 have hiσ:i<σ.length:=by rw[I.len];exact (tV.mp hi).1
 have cne:=I.cne;have tracked:∀ {a:Addr} {h':Heap},(∃o,s.heap.get? a=some o/\H a=none)->Heap.SameBut a s.heap h'->HOk X.prog X.w H h':=fun {a h'} ha hs b ob e=>by
  obtain⟨_,_,hfree⟩:=ha;refine (I.hok b ob e).stay (fun c w' hc q=>(hs.2 c ?_).trans q) (fun _ q=>q) fun _ _ q=>q;rintro rfl;rcases hc with rfl|hc
  ·rw[hfree]at e;cases e
  ·rw[hfree]at hc;cases hc
 rcases hx with hk|hk
 ·refine wpAny_storeName_local hk hn (fun h' hn' hs=>?_) hcls;obtain⟨oL,_,_,hoL,_⟩:=id hn;refine h _ ⟨I.ok,I.os,I.bare,⟨fun b o e n hb hx=>?_,fun b o e n hb hx=>?_,I.base.free,fun b o e hx=>?_,I.base.tups,I.base.frzs,I.base.tbls⟩,⟨_,hn',fun j y v' e1 e2 e3=>?_⟩,fun y c e=>?_,I.free,I.freeC,fun p hp=>?_,tracked ⟨oL,hoL,I.free⟩ hs,by simpa using I.len⟩ ⟨_,hs,.inl rfl⟩
  ·exact (hs.2 b (sL (sN (jYc e) I.ok.above))).trans (I.base.keep b o e n hb hx)
  ·obtain⟨sl,e1⟩:=I.base.slot b o e n hb hx;exact⟨sl,(hs.2 b (sL (sN (jYc e) I.ok.above))).trans e1⟩
  ·obtain⟨o',e1⟩:=I.base.there b o e hx;exact⟨o',(hs.2 b (sL (sN (jYc e) I.ok.above))).trans e1⟩
  ·by_cases hj:j=i
   ·subst hj;rw[hi]at e1;cases e1;rw[sO hiσ]at e2;cases e2;exact⟨u,r,.inl ⟨hk,by simp⟩⟩
   ·rw[sE (Ne.symm hj)]at e2;obtain⟨u',r',q⟩:=hl j y v' e1 e2 e3;refine⟨u',r',?_⟩;rcases q with⟨k,e⟩|⟨k,c,e,z⟩
    ·refine .inl ⟨k,?_⟩;have:y≠x:=fun e=>hj (Xs hN e1 (e▸hi));simp[this,e]
    ·exact .inr ⟨k,c,e,z.sameBut hs (cne y c e)⟩
  ·obtain⟨w',z⟩:=I.cell y c e;exact⟨w',z.sameBut hs (cne y c e)⟩
  ·obtain⟨e,n,ne,nf,d⟩:=I.pin p hp;exact⟨(hs.2 p.1 ne).trans e,n,ne,nf,d⟩
 ·have hfn:X.fn x=true:=by
   rcases hf with z|z
   ·exact z
   ·rw[z]at hk;cases hk
  obtain⟨c,hc⟩:=I.ok.has x (.inl hk);obtain⟨w',z⟩:=I.cell x c hc;refine wpAny_storeName_cell I.ok.kind hk hc z (fun h' hc' hs=>?_);obtain⟨oc,hoc,hocd⟩:=id z;refine h { s with heap:=h' } ⟨I.ok,I.os,I.bare,⟨fun b o e n hb hx=>?_,fun b o e n hb hx=>?_,I.base.free,fun b o e hx=>?_,I.base.tups,I.base.frzs,I.base.tbls⟩,⟨m,hn.sameBut hs (Ne.symm (cne x c hc)),fun j y v' e1 e2 e3=>?_⟩,fun y c' e=>?_,I.free,I.freeC,fun p hp=>?_,tracked ⟨oc,hoc,I.freeC x c hc⟩ hs,by simpa using I.len⟩ ⟨c,hs,.inr hc⟩
  ·exact (hs.2 b (sL (sN (jYc e) (I.ok.cab x c hfn hc)))).trans (I.base.keep b o e n hb hx)
  ·obtain⟨sl,e1⟩:=I.base.slot b o e n hb hx;exact⟨sl,(hs.2 b (sL (sN (jYc e) (I.ok.cab x c hfn hc)))).trans e1⟩
  ·obtain⟨o',e1⟩:=I.base.there b o e hx;exact⟨o',(hs.2 b (sL (sN (jYc e) (I.ok.cab x c hfn hc)))).trans e1⟩
  ·by_cases hj:j=i
   ·subst hj;rw[hi]at e1;cases e1;rw[sO hiσ]at e2;cases e2;exact⟨u,r,.inr ⟨.inl hk,c,hc,hc'⟩⟩
   ·rw[sE (Ne.symm hj)]at e2;obtain⟨u',r',q⟩:=hl j y v' e1 e2 e3;refine⟨u',r',?_⟩;rcases q with q|⟨k,c',e,z'⟩
    ·exact .inl q
    ·refine .inr ⟨k,c',e,z'.sameBut hs ?_⟩;rintro rfl;exact hj (Xs hN e1 (I.ok.inj _ _ _ e hc▸hi))
  ·by_cases hcc:c'=c
   ·subst hcc;exact⟨_,hc'⟩
   ·obtain⟨w2,z2⟩:=I.cell y c' e;exact⟨w2,z2.sameBut hs hcc⟩
  ·obtain⟨e,n,ne,nf,d⟩:=I.pin p hp;refine⟨(hs.2 p.1 ?_).trans e,n,ne,nf,d⟩;intro q;rw[q,hoc]at e;have q':oc=p.2:=jYe e;exact d w' (by rw[<-q'];exact hocd)
def jL {M:Model}{A:Around}{E:Value->Shared->Prop}{i:Nat}{x:Str}{v:V}{u:Value}{Q:Unit->Shared->Prop}(I:Inv X pins σ H s)(hN:X.N.Nodup)(hi:X.N[i]?=some x)(hx:Loc X.env.scope x)(r:RelV v u)
  (h:∀s',Inv X pins (σ.set i (some v)) H s'->Q () s') (hf:autoParam (X.fn x=true\/X.env.scope.names.lookup x=some .local) au0._auto_1):wpAny M A (storeName X.env x u) Q E s:=
 Za I hN hi hx r (fun s' I' _=>h s' I') hf
def Inv.call' {s':Shared}{ch:List Addr}(I:Inv X pins σ H s)(ho:s'.os=s.os)(u:Un (frs X.stack) ch H H' s.heap s'.heap)(hok:HOk X.prog X.w H' s'.heap)(hg:AllBare s'.gens)
  (hch:∀b∈ch,(b∈X.ex\/X.s₀.heap.objs.size<=b)/\b≠X.env.locals/\(∀x c,X.env.cells.lookup x=some c->c≠b)/\∀p∈X.pn++pins,p.1≠b):Inv X pins σ H' s':=by
 obtain⟨h',g',d',t',o'⟩:=s';have e:o'=s.os:=ho;subst e;exact I.call (g':=g') (t':=t') (d':=d') u hok hg hch
end
abbrev XK:=Value->Option Addr->Hp->Prop
abbrev St:=List (Option V)
abbrev VK:=V->Hp->Prop
abbrev TE:=St->Hp->VK->Prop
abbrev TT:=St->Hp->(Bool->Hp->Prop)->Prop
abbrev TA:=St->Hp->(List V->Hp->Prop)->Prop
structure Ends where
 nx:St->Hp->Prop
 rt:VK
 bk:St->Hp->Prop:=fun _ _=>False
 ct:St->Hp->Prop:=fun _ _=>False
abbrev TS:=Ends->St->Hp->Prop
def EP (X:Cx)(pins:List (Addr×Obj))(σ:St)(Q:VK)(u:Value)(s':Shared):Prop:=∃v H',Inv X pins σ H' s'/\RelV v u/\Q v H'
def TP (X:Cx)(pins:List (Addr×Obj))(σ:St)(Q:Bool->Hp->Prop)(b:Bool)(s':Shared):Prop:=∃H',Inv X pins σ H' s'/\Q b H'
def AP (X:Cx)(pins:List (Addr×Obj))(σ:St)(Q:List V->Hp->Prop)(us:List Value)(s':Shared):Prop:=∃vs H',Inv X pins σ H' s'/\Vals vs us/\Q vs H'
def SP (X:Cx)(pins:List (Addr×Obj))(D:Ends)(f:Flow)(s':Shared):Prop:=
 match f with
 | .next=>∃σ' H',Inv X pins σ' H' s'/\D.nx σ' H'
 | .brk=>∃σ' H',Inv X pins σ' H' s'/\D.bk σ' H'
 | .cont=>∃σ' H',Inv X pins σ' H' s'/\D.ct σ' H'
 | .ret u=>∃v σ' H',Inv X pins σ' H' s'/\RelV v u/\D.rt v H'
def PE (X:Cx)(e:Expr)(t:TE):Prop:=
 ∀(pins:List (Addr×Obj)) (s:Shared) (σ:St) (H:Hp) (Q:VK),Inv X pins σ H s->t σ H Q->wpAny (model X.prog X.w) X.A (eval e X.env) (EP X pins σ Q) X.xe s
def PT (X:Cx)(e:Expr)(t:TT):Prop:=
 ∀(pins:List (Addr×Obj)) (s:Shared) (σ:St) (H:Hp) (Q:Bool->Hp->Prop),Inv X pins σ H s->t σ H Q->wpAny (model X.prog X.w) X.A (isTrue e X.env (eval e X.env)) (TP X pins σ Q) X.xe s
def PW (X:Cx)(e:Expr)(t:TT):Prop:=
 ∀(whole:Sem Value) (pins:List (Addr×Obj)) (s:Shared) (σ:St) (H:Hp) (Q:Bool->Hp->Prop),Inv X pins σ H s->t σ H Q->wpAny (model X.prog X.w) X.A (isTrue e X.env whole) (TP X pins σ Q) X.xe s
theorem PW.pt {X:Cx}{e:Expr}{t:TT}(h:PW X e t):PT X e t:=h _
def PA (X:Cx)(es:List Expr)(t:TA):Prop:=
 ∀(pos:Pos) (pins:List (Addr×Obj)) (s:Shared) (σ:St) (H:Hp) (Q:List V->Hp->Prop),Inv X pins σ H s->t σ H Q->wpAny (model X.prog X.w) X.A (spliced (backTo pos (starEach es X.env))) (AP X pins σ Q) X.xe s
def PS (X:Cx)(st:Stmt)(t:TS):Prop:=
 ∀(pins:List (Addr×Obj)) (s:Shared) (σ:St) (H:Hp) (D:Ends),Inv X pins σ H s->t D σ H->wpAny (model X.prog X.w) X.A (exec st X.env) (SP X pins D) X.xe s
def PSs (X:Cx)(st:List Stmt)(t:TS):Prop:=
 ∀(pins:List (Addr×Obj)) (s:Shared) (σ:St) (H:Hp) (D:Ends),Inv X pins σ H s->t D σ H->wpAny (model X.prog X.w) X.A (execs st X.env) (SP X pins D) X.xe s
def thn {α:Type}{t:Sem α}{Q Q':α->Shared->Prop}{M:Model}{A:Around}{E:Value->Shared->Prop}{s:Shared}(h:wpAny M A t Q E s)(hQ:∀a s,Q a s->Q' a s):wpAny M A t Q' E s:=wpAny_mono h hQ fun _ _ x=>x
section
variable {X:Cx}
def xE (i:Nat):TE:=fun σ H Q=>∃v,σ[i]?=some (some v)/\Q v H
def tC (v:V):TE:=fun _ H Q=>Q v H
def uQ {i:Nat}{x:Str}{pos:Pos}(hN:X.N[i]?=some x)(hv:Vis X.env.scope x)(hd:autoParam ((x==("__debug__":Str))=false) au1._auto_1)(hcd:autoParam ((x==("__classdict__":Str))=false) au1._auto_1):PE X (.Name x pos) (xE i):=by
 intro pins s σ H Q I h;obtain⟨v,e,h⟩:=h;obtain⟨m,hn,hl⟩:=I.loc;obtain⟨u,r,l⟩:=hl i x v hN e hv;have fin:EP X pins σ Q u s:=⟨v,H,I,r,h⟩
 rcases l with⟨hk,hm⟩|⟨hk,c,hc,hcell⟩
 ·exact wpAny_Name (wpAny_loadName_local I.ok.kind hk hn hm fin) hd
 ·rcases hk with hk|hk
  ·exact wpAny_Name (wpAny_loadName_cell I.ok.kind hk hc hcell fin) hd
  ·exact wpAny_Name (wpAny_loadName_free I.ok.kind hk hc hcell fin hcd) hd
def QK {i j pos}:PE X (.Constant (.int i) j pos) (tC (.int i)):=fun _ _ _ H _ I h=>wpAny_Constant_int ⟨.int i,H,I.tok _,⟨_,rfl⟩,h⟩
def z2Z {b j pos}:PE X (.Constant (.bool b) j pos) (tC (.bl b)):=fun _ _ _ H _ I h=>Constant_bool ⟨.bl b,H,I,rfl,h⟩
def z0H {j pos}:PE X (.Constant .none j pos) (tC .non):=fun _ _ _ H _ I h=>Constant_none ⟨.non,H,I,rfl,h⟩
def wV {x j pos}:PE X (.Constant (.str x) j pos) (tC (.str x)):=fun _ _ _ H _ I h=>Calls.Constant_str ⟨.str x,H,I.tok _,⟨_,rfl⟩,h⟩
def Gl (X:Cx)(x:Str):Prop:=X.env.kindOf x=some .globalImplicit
def Y1 {E:Value->Shared->Prop}{pins:List (Addr×Obj)}{s:Shared}{σ:St}{H:Hp}{x:Str}{u:Value}{pos:Pos}{Q:Value->Shared->Prop}(I:Inv X pins σ H s)(hg:Gl X x)(hm:X.mg x=some u)(h:Q u s)
  (hd:autoParam ((x==("__debug__":Str))=false) au1._auto_1):wpAny (model X.prog X.w) X.A (eval (.Name x pos) X.env) Q E s:=
 Calls.Name_function_global I.ok.kind hg (Calls.loadGlobal_global (by rw[I.ok.glob];exact I.mod.glob.keeps I.bk) hm h) hd
def uT {E:Value->Shared->Prop}{pins:List (Addr×Obj)}{s:Shared}{σ:St}{H:Hp}{x:Str}{u:Value}{pos:Pos}{Q:Value->Shared->Prop}(I:Inv X pins σ H s)(hg:Gl X x)(hm:X.mg x=none)(hv:bootBuiltins x=some u)(h:Q u s)
  (hn:autoParam (x≠"__name__") au1._auto_1) (hd:autoParam ((x==("__debug__":Str))=false) au1._auto_1):wpAny (model X.prog X.w) X.A (eval (.Name x pos) X.env) Q E s:=by
 obtain⟨mb,h1,h2⟩:=I.mod.blt;exact Calls.Name_function_global I.ok.kind hg (Calls.loadGlobal_builtin (by rw[I.ok.glob];exact I.mod.glob.keeps I.bk) hm (by rw[I.ok.blt];exact h1.keeps I.bk) ((h2 x hn).trans hv) h) hd
def Zs {x:Str}{v:V}{u:Value}{pos:Pos}(hg:Gl X x)(hm:X.mg x=none)(hv:bootBuiltins x=some u)(r:RelV v u)(hn:autoParam (x≠"__name__") au1._auto_1)(hd:autoParam ((x==("__debug__":Str))=false) au1._auto_1):PE X (.Name x pos) (tC v):=
 fun _ _ _ H _ I h=>uT I hg hm hv ⟨v,H,I,r,h⟩ hn hd
variable {a b:Expr}{ta tb:TE}{pos:Pos}
def tB (t:TE):TT:=fun σ H Q=>t σ H fun x H1=>∃c,x=.bl c/\Q c H1
def z1o {e:Expr}{t:TE}(h:PE X e t)(he:autoParam (∀whole,isTrue e X.env whole=(do let v <-whole;standAt e.pos;holding [v] (truthy v))) au2._auto_1):PT X e (tB t):=by
 intro pins s σ H Q I hw;refine isTrue_plain (thn (h pins s σ H _ I hw) fun v s1 ⟨x,H1,I1,r1,q1⟩=>?_) (he _);obtain⟨d,rfl,q⟩:=q1;cases r1;exact wpAny_truthy_bool ⟨H1,I1,q⟩
variable {tA tB':TT}{rest:List Expr}
def z2l (t u:TT):TT:=fun σ H Q=>t σ H fun c H1=>if c=true then u σ H1 Q else Q false H1
def tOr (t u:TT):TT:=fun σ H Q=>t σ H fun c H1=>if c=true then Q true H1 else u σ H1 Q
def z2P (t:TT):TT:=fun σ H Q=>t σ H fun c H1=>Q (!c) H1
def KC (ha:PT X a tA):PW X (.BoolOp .And [a] pos) tA:=by
 intro wh pins s σ H Q I h;refine isTrue_and (thn (ha pins s σ H Q I h) fun c s1 e=>?_);cases c with
 | true=>exact isTrue_and_nil e
 | false=>exact e
def z0L (ha:PT X a tA):PW X (.BoolOp .Or [a] pos) tA:=by
 intro wh pins s σ H Q I h;refine isTrue_or (thn (ha pins s σ H Q I h) fun c s1 e=>?_);cases c with
 | false=>exact isTrue_or_nil e
 | true=>exact e
def z2b (ha:PT X a tA)(hb:PW X (.BoolOp .And (b::rest) pos) tB'):PW X (.BoolOp .And (a::b::rest) pos) (z2l tA tB'):=by
 intro wh pins s σ H Q I h;refine isTrue_and (thn (ha pins s σ H _ I h) fun c s1 ⟨H1,I1,q1⟩=>?_);cases c with
 | true=>exact hb wh pins s1 σ H1 Q I1 q1
 | false=>exact⟨H1,I1,q1⟩
def z3n (ha:PT X a tA)(hb:PW X (.BoolOp .Or (b::rest) pos) tB'):PW X (.BoolOp .Or (a::b::rest) pos) (tOr tA tB'):=by
 intro wh pins s σ H Q I h;refine isTrue_or (thn (ha pins s σ H _ I h) fun c s1 ⟨H1,I1,q1⟩=>?_);cases c with
 | true=>exact⟨H1,I1,q1⟩
 | false=>exact hb wh pins s1 σ H1 Q I1 q1
def z1w (ha:PT X a tA):PT X (.UnaryOp .Not a pos) (z2P tA):=by
 intro pins s σ H Q I h;exact isTrue_not (ha pins s σ H (fun c H1=>Q (!c) H1) I h)
def z0x (ta tb:TE):TE:=fun σ H Q=>ta σ H fun x H1=>∃c,x=.bl c/\if c=true then tb σ H1 Q else Q (.bl false) H1
def KY (ta:TE):TE:=fun σ H Q=>ta σ H fun x H1=>∃c,x=.bl c/\Q (.bl (!c)) H1
def z0U {op}{t:TE}(h:PE X a t):PE X (.BoolOp op [a] pos) t:=fun pins s σ H Q I hw=>BoolOp_one (h pins s σ H Q I hw)
def z1b (ha:PE X a ta)(hb:PE X (.BoolOp .And (b::rest) pos) tb):PE X (.BoolOp .And (a::b::rest) pos) (z0x ta tb):=by
 intro pins s σ H Q I h;refine BoolOp_and (thn (ha pins s σ H _ I h) fun v s1 ⟨x,H1,I1,r1,q1⟩=>?_);obtain⟨c,rfl,q1⟩:=q1;cases r1;refine wpAny_truthy_bool ?_;cases c with
 | true=>exact hb pins s1 σ H1 Q I1 q1
 | false=>exact⟨.bl false,H1,I1,rfl,q1⟩
def z1M (ha:PE X a ta):PE X (.UnaryOp .Not a pos) (KY ta):=by
 intro pins s σ H Q I h;refine UnaryOp_ (thn (ha pins s σ H _ I h) fun v s1 ⟨x,H1,I1,r1,q1⟩=>?_);obtain⟨c,rfl,q1⟩:=q1;cases r1;exact not_of (wpAny_truthy_bool ⟨.bl (!c),H1,I1,rfl,q1⟩)
def tIf (t:TT)(ta tb:TE):TE:=fun σ H Q=>t σ H fun c H1=>if c=true then ta σ H1 Q else tb σ H1 Q
def Q0 {c:Expr}(hc:PT X c tA)(ha:PE X a ta)(hb:PE X b tb):PE X (.IfExp c a b pos) (tIf tA ta tb):=by
 intro pins s σ H Q I h;refine wpAny_IfExp (thn (hc pins s σ H _ I h) fun d s1 ⟨H1,I1,q1⟩=>?_);cases d with
 | true=>exact ha pins s1 σ H1 Q I1 q1
 | false=>exact hb pins s1 σ H1 Q I1 q1
end
def SqL (K:jJa)(H:Hp)(a:Addr)(xs:List V):Prop:=
 Rd H a (.lst xs) \/
  ∃(o:Obj) (its:Array Value) (n:Nat),K.lookup a=some o/\o.cls=.type "list"/\o.dict=none/\o.data=.seq its n/\its.size<=sizeLine/\Vals xs its.toList
def SqT (K:jJa)(H:Hp)(a:Addr)(xs:List V):Prop:=
 Rd H a (.tup xs) \/
  ∃(o:Obj) (its:Array Value) (n:Nat),K.lookup a=some o/\o.cls=.type "tuple"/\(o.dict=none/\o.slots=#[])/\o.data=.seq its n/\its.size<=sizeLine/\Vals xs its.toList
def z3x:Value->Option V
 | .none=>some .non
 | .bool b=>some (.bl b)
 | .int i _=>some (.int i)
 | .str x _=>some (.str x)
 | .bytes b _=>some (.byt b)
 | .float b _=>some (.flt b)
 | .ref a=>some (.ref a)
 | .type n=>some (.ty n)
 | _=>none
theorem RelV.abs {x:V}{u:Value}(r:RelV x u):z3x u=some x:=by
 cases x with
 | non=>cases r;rfl
 | bl _=>cases r;rfl
 | int _=>obtain⟨t,rfl⟩:=r;rfl
 | str _=>obtain⟨t,rfl⟩:=r;rfl
 | byt _=>obtain⟨t,rfl⟩:=r;rfl
 | flt _=>obtain⟨t,rfl⟩:=r;rfl
 | ref _=>cases r;rfl
 | ty _=>cases r;rfl
theorem RelV.inj {x y:V}{u:Value}(r:RelV x u)(q:RelV y u):x=y:=jYe (r.abs.symm.trans q.abs)
theorem Vals.inj:∀ {xs ys:List V} {us:List Value},Vals xs us->Vals ys us->xs=ys
 | _,_,_,.nil,.nil=>rfl
 | _,_,_,.cons r t,.cons r' t'=>by rw[r.inj r',Vals.inj t t']
section
variable {X:Cx}{pins:List (Addr×Obj)}{σ:St}{H:Hp}{s:Shared}{a:Addr}{xs ys:List V}
theorem SqL.of {K:jJa}(h:H a=some (.lst xs)):SqL K H a xs:=.inl (.inl h)
theorem SqT.of {K:jJa}(h:H a=some (.tup xs)):SqT K H a xs:=.inl (.inl h)
theorem Inv.list (I:Inv X pins σ H s)(h:SqL X.K H a xs):∃its:List Value,Vals xs its/\PlainL s.heap a its.toArray/\xs.length<=sizeLine:=by
 rcases h with h|⟨o,its,n,hk,hc,hd,hs,hz,r⟩
 ·obtain⟨z,its,n,r,e⟩:=h.ok I.hok;exact⟨its,r,⟨_,n,e,rfl,rfl,rfl⟩,z⟩
 ·refine⟨its.toList,r,⟨o,n,I.kIn a o hk,hc,hd,by simpa using hs⟩,?_⟩;have e:=r.length;simp only[Array.length_toList]at e;omega
def Inv.tuple (I:Inv X pins σ H s)(h:SqT X.K H a xs):∃its:List Value,Vals xs its/\IsTup s.heap a its.toArray/\xs.length<=sizeLine:=by
 rcases h with h|⟨o,its,n,hk,hc,_,hs,hz,r⟩
 ·obtain⟨z,its,r,p⟩:=h.ok I.hok;exact⟨its,r,p.tup,z⟩
 ·refine⟨its.toList,r,⟨o,I.kIn a o hk,hc,n,by simpa using hs⟩,?_⟩;have e:=r.length;simp only[Array.length_toList]at e;omega
def Inv.list_inj (I:Inv X pins σ H s)(h:SqL X.K H a xs)(h':SqL X.K H a ys):xs=ys:=by
 obtain⟨its,r,⟨o,n,e,_,_,d⟩,_⟩:=I.list h;obtain⟨its',r',⟨o',n',e',_,_,d'⟩,_⟩:=I.list h';rw[e]at e';cases e';rw[d]at d';injection d' with d1 _;have:its=its':=by simpa using congrArg Array.toList d1
 subst this;exact r.inj r'
def Inv.tuple_inj (I:Inv X pins σ H s)(h:SqT X.K H a xs)(h':SqT X.K H a ys):xs=ys:=by
 obtain⟨its,r,⟨o,e,_,n,d⟩,_⟩:=I.tuple h;obtain⟨its',r',⟨o',e',_,n',d'⟩,_⟩:=I.tuple h';rw[e]at e';cases e';rw[d]at d';injection d' with d1 _;have:its=its':=by simpa using congrArg Array.toList d1
 subst this;exact r.inj r'
end
abbrev Cx.wish (X:Cx)(E:Value->Shared->Prop):Cx:={ X with xe:=E }
abbrev Cx.nox (X:Cx):Cx:=X.wish fun _ _=>False
section
variable {X:Cx}{pins:List (Addr×Obj)}{σ:St}{H:Hp}{s:Shared}{E:Value->Shared->Prop}
end
section
variable {X:Cx}{st:Stmt}{rest:List Stmt}{t u:TS}{e:Expr}{te:TE}{pos:Pos}
def z0h:TS:=fun D σ H=>D.nx σ H
def v7 (t u:TS):TS:=fun D σ H=>t { D with nx:=u D } σ H
def K1:PSs X [] z0h:=fun _ _ σ H _ I h=>wpAny_execs_nil ⟨σ,H,I,h⟩
def wW (h1:PS X st t)(h2:PSs X rest u):PSs X (st::rest) (v7 t u):=by
 intro pins s σ H D I h;refine wpAny_execs_cons (thn (h1 pins s σ H { D with nx:=u D } I h) fun f s1 q=>?_);cases f with
 | next =>
  obtain⟨σ',H',I',q⟩:=q;exact h2 pins s1 σ' H' D I' q
 | ret v=>exact q
 | brk=>exact q
 | cont=>exact q
def ZX (h1:PS X st t):PSs X [st] t:=by
 intro pins s σ H D I h;refine wpAny_execs_cons (thn (h1 pins s σ H D I h) fun f s1 q=>?_);cases f with
 | next=>exact wpAny_execs_nil q
 | ret v=>exact q
 | brk=>exact q
 | cont=>exact q
def Q1:TS:=fun D σ H=>D.bk σ H
def J6:PS X (.Break pos) Q1:=fun _ _ σ H _ I h=>wpAny_Break ⟨σ,H,I,h⟩
def Inv.quiet {pins:List (Addr×Obj)}{σ:St}{H:Hp}{s:Shared}(I:Inv X pins σ H s):interactive X.env=false:=by simp[interactive,I.ok.kind]
def z2c (te:TE):TS:=fun D σ H=>te σ H fun _ H1=>D.nx σ H1
def Vs (he:PE X e te)(hs:autoParam (swapsWith e none pos.line X.env=pure false) au3._auto_1):PS X (.Expr e pos) (z2c te):=by
 intro pins s σ H D I h;exact wpAny_Expr_any (thn (he pins s σ H _ I h) fun v s1 ⟨x,H1,I1,r1,q1⟩=>⟨σ,H1,I1,q1⟩) I.quiet hs
def z30 (te:TE):TS:=fun D σ H=>te σ H D.rt
def z0B (he:PE X e te):PS X (.Return (some e) pos) (z30 te):=by
 intro pins s σ H D I h;exact wpAny_Return_some (thn (he pins s σ H _ I h) fun v s1 ⟨x,H1,I1,r1,q1⟩=>⟨x,σ,H1,I1,r1,q1⟩)
def z3f (c:TT)(t u:TS):TS:=fun D σ H=>c σ H fun b H1=>if b=true then t D σ H1 else u D σ H1
def z36 {c:Expr}{a b:List Stmt}{tc:TT}(hc:PT X c tc)(ha:PSs X a t)(hb:PSs X b u):PS X (.If c a b pos) (z3f tc t u):=by
 intro pins s σ H D I h;refine wpAny_If (thn (hc pins s σ H _ I h) fun d s1 ⟨H1,I1,q1⟩=>?_);cases d with
 | true=>exact ha pins s1 σ H1 D I1 q1
 | false=>exact hb pins s1 σ H1 D I1 q1
end
abbrev TG:=V->St->Hp->(St->Hp->Prop)->Prop
abbrev TGs:=List V->St->Hp->(St->Hp->Prop)->Prop
def PG (X:Cx)(target:Expr)(t:TG):Prop:=
 ∀(pins:List (Addr×Obj)) (s:Shared) (σ:St) (H:Hp) (v:V) (u:Value) (Q:St->Hp->Prop),Inv X pins σ H s->RelV v u->t v σ H Q ->
  wpAny (model X.prog X.w) X.A (assign target X.env u) (fun _ s'=>∃σ' H',Inv X pins σ' H' s'/\Q σ' H') X.xe s
def PGs (X:Cx)(ts:List Expr)(t:TGs):Prop:=
 ∀(pins:List (Addr×Obj)) (s:Shared) (σ:St) (H:Hp) (vs:List V) (us:List Value) (Q:St->Hp->Prop),Inv X pins σ H s->Vals vs us->t vs σ H Q ->
  wpAny (model X.prog X.w) X.A (assignInOrder ((assignEach ts X.env).map (·.2)) us) (fun _ s'=>∃σ' H',Inv X pins σ' H' s'/\Q σ' H') X.xe s
abbrev z1O:=V->V->V->Hp->(Hp->Prop)->Prop
def z3r (X:Cx)(t:z1O):Prop:=
 ∀(pins:List (Addr×Obj)) (s:Shared) (σ:St) (H:Hp) (o i v:V) (ov iv u:Value) (Q:Hp->Prop),Inv X pins σ H s->RelV o ov->RelV i iv->RelV v u->t o i v H Q ->
  wpAny (model X.prog X.w) X.A (setItem ov iv u) (fun _ s'=>∃H',Inv X pins σ H' s'/\Q H') X.xe s
abbrev TIp:=V->V->Hp->VK->Prop
def PIp (X:Cx)(op:Operator)(t:TIp):Prop:=
 ∀(pins:List (Addr×Obj)) (s:Shared) (σ:St) (H:Hp) (x y:V) (v u:Value) (Q:VK),Inv X pins σ H s->RelV x v->RelV y u->t x y H Q ->
  wpAny (model X.prog X.w) X.A (inplaceOp op v u) (EP X pins σ Q) X.xe s
section
variable {X:Cx}{pos:Pos}
def vo (i:Nat):TG:=fun v σ H Q=>Q (σ.set i (some v)) H
def JD {i:Nat}{x:Str}(hN:X.N.Nodup)(hi:X.N[i]?=some x)(hx:Loc X.env.scope x)(hf:autoParam (X.fn x=true\/X.env.scope.names.lookup x=some .local) au0._auto_1):PG X (.Name x pos) (vo i):=by
 intro pins s σ H v u Q I r h;exact wpAny_assign_Name (jL I hN hi hx r (fun s' I'=>⟨_,H,I',h⟩) hf)
def z2w:TGs:=fun vs σ H Q=>vs=[]/\Q σ H
def z2O (t:TG)(u:TGs):TGs:=fun vs σ H Q=>∃v r,vs=v::r/\t v σ H fun σ' H'=>u r σ' H' Q
def Jj:PGs X [] z2w:=by
 intro pins s σ H vs us Q I r h;obtain⟨e,h⟩:=h;subst e;cases r;exact assignInOrder_nil ⟨σ,H,I,h⟩
def UG {e:Expr}{es:List Expr}{t:TG}{u:TGs}(h1:PG X e t)(h2:PGs X es u)
  (hs:autoParam ((assignEach (e::es) X.env).map (·.2)=assign e X.env::(assignEach es X.env).map (·.2)) au3._auto_1):PGs X (e::es) (z2O t u):=by
 intro pins s σ H vs us Q I r h;obtain⟨v,vr,e1,h⟩:=h;subst e1;cases r with
 | cons r rr =>
  rw[hs];refine assignInOrder_cons (thn (h1 pins s σ H _ _ _ I r h) fun _ s1 ⟨σ1,H1,I1,q1⟩=>?_);exact h2 pins s1 σ1 H1 _ _ Q I1 rr q1
def z2F (K:jJa)(n:Nat)(t:TGs):TG:=fun v σ H Q=>∃a xs,v=.ref a/\SqT K H a xs/\xs.length=n/\t xs σ H Q
def z1S {es:List Expr}{k:Nat}{t:TGs}{n:Nat}(hc:X.calm=true)(h:PGs X es t)
  (hn:autoParam ((assignEach es X.env).length=n) au3._auto_1) (hst:autoParam ((assignEach es X.env).findIdx? (·.1)=none) au3._auto_1):PG X (.Tuple es k pos) (z2F X.K n t):=by
 intro pins s σ H v u Q I r hw;obtain⟨a,xs,e1,hq,hl,hw⟩:=hw;subst e1;cases r;obtain⟨its,rv,ht,hz⟩:=I.tuple hq;refine assign_Tuple_tuple (I.ok.hd hc) ht (by simp[hn,<-hl,rv.length]) hst fun h' hx=>?_;have I1:Inv X pins σ H { s with heap:=h' }:=I.kept (t':=s.toks) fun b o e=>hx b o (sL (jYc e)) e;exact h pins _ σ H xs _ Q I1 (by simpa using rv) hw
def US (to ti:TE)(t:z1O):TG:=fun v σ H Q=>to σ H fun o H1=>ti σ H1 fun i H2=>t o i v H2 fun H3=>Q σ H3
def UB {o i:Expr}{to ti:TE}{t:z1O}(ho:PE X o to)(hi:PE X i ti)(hs:z3r X t)
  (ha:autoParam (∀v,assign (.Subscript o i pos) X.env v=(do
   let ov <-holding [v] (eval o X.env)
   let iv <-holding [v,ov] (eval i X.env)
   standAt pos
   holding [v,ov,iv] (setItem ov iv v)
   release [v,ov,iv] [])) au2._auto_1):PG X (.Subscript o i pos) (US to ti t):=by
 intro pins s σ H v u Q I r h;rw[ha];refine wpAny_bind (wpAny_holding (thn (ho pins s σ H _ I h) fun ov s1 ⟨x,H1,I1,r1,q1⟩=>?_));refine wpAny_bind (wpAny_holding (thn (hi pins s1 σ H1 _ I1 q1) fun iv s2 ⟨y,H2,I2,r2,q2⟩=>?_));refine wpAny_bind (wpAny_standAt (wpAny_bind (wpAny_holding (thn (hs pins s2 σ H2 x y v ov iv u _ I2 r1 r2 r q2) fun _ s3 ⟨H3,I3,q3⟩=>?_))));exact wpAny_release ⟨σ,H3,I3,q3⟩
def kP (te:TE)(g:TG):TS:=fun D σ H=>te σ H fun x H1=>g x σ H1 D.nx
def ZC {tg e:Expr}{te:TE}{g:TG}(he:PE X e te)(hg:PG X tg g)(hs:autoParam (swapsWithSole [tg] e pos.line X.env=pure false) au3._auto_1)(hw:autoParam (swappedStores [tg] e X.env=pure none) au3._auto_1)
  (h1:autoParam ((assignEach [tg] X.env).map (·.2)=[assign tg X.env]) au3._auto_1):PS X (.Assign [tg] e pos) (kP te g):=by
 intro pins s σ H D I h;refine wpAny_Assign_stores (thn (he pins s σ H _ I h) fun v s1 ⟨x,H1,I1,r1,q1⟩=>?_) hs hw;rw[h1];exact thn (hg pins s1 σ H1 x v _ I1 r1 q1) fun _ s2 q=>q
def XI {i:Nat}{x:Str}{e:Expr}{te:TE}{pos':Pos}(hN:X.N.Nodup)(hi:X.N[i]?=some x)(hx:Loc X.env.scope x)(he:PE X e te)(hs:autoParam (swapsWith e (some (.Name x pos')) pos.line X.env=pure false) au3._auto_1)(hf:autoParam (X.fn x=true\/X.env.scope.names.lookup x=some .local) au0._auto_1):
  PS X (.Assign [.Name x pos'] e pos) (kP te (vo i)):=by
 intro pins s σ H D I h;refine wpAny_Assign_Name (thn (he pins s σ H _ I h) fun v s1 ⟨y,H1,I1,r1,q1⟩=>?_) hs;exact jL I1 hN hi hx r1 (fun s2 I2=>⟨_,H1,I2,q1⟩) hf
def z43 (i:Nat)(te:TE)(ti:TIp):TS:=fun D σ H=>∃x,σ[i]?=some (some x)/\te σ H fun y H1=>ti x y H1 fun z H2=>D.nx (σ.set i (some z)) H2
def z24 {i:Nat}{x:Str}{e:Expr}{te:TE}{op:Operator}{ti:TIp}{pos':Pos}(hN:X.N.Nodup)(hi:X.N[i]?=some x)(hx:Loc X.env.scope x)(he:PE X e te)(ho:PIp X op ti)(hf:autoParam (X.fn x=true\/X.env.scope.names.lookup x=some .local) au0._auto_1):
  PS X (.AugAssign (.Name x pos') op e pos) (z43 i te ti):=by
 intro pins s σ H D I h;obtain⟨v,e1,h⟩:=h;obtain⟨m,hn,hl⟩:=I.loc;have vis:Vis X.env.scope x:=by rcases hx with k|k;exact .inl k;exact .inr (.inl k)
 obtain⟨u,r,l⟩:=hl i x v hi e1 vis;refine wpAny_AugAssign_Name ?_;have go:wpAny (model X.prog X.w) X.A (eval e X.env) (fun w s₂=>wpAny (model X.prog X.w) X.A (inplaceOp op u w) (fun r s₃=>wpAny (model X.prog X.w) X.A (storeName X.env x r) (fun _=>SP X pins D .next) X.xe s₃) X.xe s₂) X.xe s:=by
  refine thn (he pins s σ H _ I h) fun w s1 ⟨y,H1,I1,r1,q1⟩=>?_;refine thn (ho pins s1 σ H1 v y u w _ I1 r r1 q1) fun z s2 ⟨zv,H2,I2,r2,q2⟩=>?_;exact jL I2 hN hi hx r2 (fun s3 I3=>⟨_,H2,I3,q2⟩) hf
 rcases l with⟨hk,hm⟩|⟨hk,c,hc,hcell⟩
 ·exact wpAny_loadName_local I.ok.kind hk hn hm go
 ·rcases hk with hk|hk
  ·exact wpAny_loadName_cell I.ok.kind hk hc hcell go
  ·rcases hx with k|k
   ·have:X.env.scope.names.lookup x=some .free:=hk;rw[k]at this;cases this
   ·have:X.env.scope.names.lookup x=some .free:=hk;rw[k]at this;cases this
def ipI (f:Int->Int->Int):TIp:=fun x y H Q=>∃i j,x=.int i/\y=.int j/\Q (.int (f i j)) H
def z1q:PIp X .Add (ipI fun i j=>i+j):=by
 intro pins s σ H x y v u Q I r1 r2 h;obtain⟨i,j,e1,e2,q⟩:=h;subst e1;subst e2;obtain⟨t,rfl⟩:=r1;obtain⟨t',rfl⟩:=r2;exact iadd_int ⟨.int _,H,I.tok _,⟨_,rfl⟩,q⟩
end
section
variable {X:Cx}{pos:Pos}
def z23 (c:TT)(tb:TS):TS:=fun D σ H=>∃W:Nat->St->Hp->Prop,(∃m,W m σ H)/\∀m σ H,W m σ H ->
 c σ H fun b H1=>if b=true then ∃N:St->Hp->Prop,(∀σ' H',N σ' H'->∃m',m'<m/\W m' σ' H')/\tb { D with nx:=N,ct:=N,bk:=D.nx } σ H1 else D.nx σ H1
def Qk {c:Expr}{body:List Stmt}{tc:TT}{tb:TS}(hp:PassesOwn (model X.prog X.w) X.A X.env X.xe)(hc:PT X c tc)(hb:PSs X body tb):PS X (.While c body [] pos) (z23 tc tb):=by
 intro pins s σ H D I h;obtain⟨W,⟨m0,w0⟩,turn⟩:=h;refine wpAny_While (codeAny_whileLoop (fun n s'=>∃σ' H',Inv X pins σ' H' s'/\W n σ' H') ?_ m0 ⟨σ,H,I,w0⟩);rintro n s1 ⟨σ1,H1,I1,w1⟩;refine wpAny_passesOwn hp (thn (hc pins s1 σ1 H1 _ I1 (turn n σ1 H1 w1)) fun b s2 ⟨H2,I2,q2⟩=>?_);cases b with
 | true =>
  obtain⟨N,hN,q2⟩:=q2;rw[if_pos rfl];refine wpAny_passesOwn hp (thn (hb pins s2 σ1 H2 _ I2 q2) fun f s3 q3=>?_);cases f with
  | next =>
   obtain⟨σ3,H3,I3,n3⟩:=q3;obtain⟨m',hm,w3⟩:=hN σ3 H3 n3;exact⟨m',hm,σ3,H3,I3,w3⟩
  | cont =>
   obtain⟨σ3,H3,I3,n3⟩:=q3;obtain⟨m',hm,w3⟩:=hN σ3 H3 n3;exact⟨m',hm,σ3,H3,I3,w3⟩
  | brk=>exact q3
  | ret v=>exact q3
 | false =>
  rw[if_neg tX];exact wpAny_execs_nil ⟨σ1,H2,I2,q2⟩
end
structure It where
 go:Nat->Hp->Prop
 yld:Nat->Hp->V->Hp->Prop
 stop:Nat->Hp->Prop
def jf (X:Cx)(pins:List (Addr×Obj))(H:Hp)(b:Addr):Prop:=
 H b=none/\b≠X.env.locals/\b∉X.fs/\(b∈X.ex\/X.s₀.heap.objs.size<=b)/\(∀x c,X.env.cells.lookup x=some c->c≠b)/\∀p∈X.pn++pins,p.1≠b
theorem Inv.fpOk {X:Cx}{pins:List (Addr×Obj)}{σ:St}{H H':Hp}{s:Shared}{b:Addr}(I:Inv X pins σ H s)(hb:s.heap.objs.size<=b)(hn:H' b=none):jf X pins H' b:=by
 refine⟨hn,Nat.ne_of_gt (sN I.lt hb),I.nofs hb,.inr (sT I.sz hb),fun x c e z=>?_,fun p hp z=>?_⟩
 ·obtain⟨v,q⟩:=I.cell x c e;exact absurd (sN q.lt (by rw[z];exact hb)) (rX _)
 ·exact absurd (sN (jYc (I.pin p hp).1) (by rw[z];exact hb)) (rX _)
structure Turn (P:Program)(w:World)(K:jJa)(tg:Expr)(J:It)(fp:List Addr)(it:Addr)(tn:Nat->Heap->Prop):Prop where
 mem:it∈fp
 obj:∀i h,tn i h->∀b∈fp,∃o,h.get? b=some o/\∀v,o.data≠.cell v
 keep:∀i h h',tn i h->(∀b∈fp,∀o,h.get? b=some o->h'.get? b=some o)->tn i h'
 item:∀(X:Cx),X.prog=P->X.w=w->X.K=K->X.calm=true->∀(i:Nat) (pins:List (Addr×Obj)) (s:Shared) (σ:St) (H:Hp) (E:Value->Shared->Prop),Inv X pins σ H s->(∀b∈fp,jf X pins H b)->tn i s.heap->J.go i H ->
  wpAny (model P w) X.A (pyNext (.ref it)) (fun r s1=>∃u,r=some u /\
   wpAny (model P w) X.A (letOwnedTupleGo tg (.ref it) u) (fun _ s2=>∃x H',Inv X pins σ H' s2/\RelV x u/\J.yld i H x H'/\tn (i+1) s2.heap/\∀b∈fp,H' b=none) E s1) E s
 done:∀(X:Cx),X.prog=P->X.w=w->X.K=K->X.calm=true->∀(i:Nat) (pins:List (Addr×Obj)) (s:Shared) (σ:St) (H:Hp) (E:Value->Shared->Prop),Inv X pins σ H s->(∀b∈fp,jf X pins H b)->tn i s.heap->J.stop i H ->
  wpAny (model P w) X.A (pyNext (.ref it)) (fun r s1=>r=none/\Inv X pins σ H s1) E s
 self:∀(A:Around) (i:Nat) (s:Shared) (Q:Value->Shared->Prop) (E:Value->Shared->Prop),tn i s.heap->Q (.ref it) s->wpAny (model P w) A (pyIter (.ref it)) Q E s
abbrev TI:=St->Hp->(It->Hp->Prop)->Prop
def PIE (X:Cx)(pins:List (Addr×Obj))(σ:St)(tg:Expr)(R:It->Hp->Prop)(itv:Value)(s2:Shared):Prop:=
 ∃(it:Addr) (fp:List Addr) (tn:Nat->Heap->Prop) (J:It) (H':Hp),itv=.ref it/\Inv X pins σ H' s2/\Turn X.prog X.w X.K tg J fp it tn/\tn 0 s2.heap/\(∀b∈fp,jf X pins H' b)/\R J H'
def PI (X:Cx)(tg iter:Expr)(wi:TI):Prop:=
 ∀(pins:List (Addr×Obj)) (s:Shared) (σ:St) (H:Hp) (R:It->Hp->Prop),Inv X pins σ H s->wi σ H R ->
  wpAny (model X.prog X.w) X.A (eval iter X.env) (fun v s1=>wpAny (model X.prog X.w) X.A (pyIter v) (PIE X pins σ tg R) X.xe s1) X.xe s
def Z1 {M:Model}{A:Around}{E:Value->Shared->Prop}{s:Shared}{tg:Expr}{it:Addr}{u:Value}{o:Obj}{n:String}{vs:Array Value}{Q:Unit->Shared->Prop}(ho:s.heap.get? it=some o)(hc:o.cls=.type n)(hd:o.data=.fields vs)
  (hn:["enumerate","zip","dict_itemiterator","dict_reverseitemiterator","odict_iterator","itertools.zip_longest","itertools.pairwise"].contains n=false) (hQ:Q () s):wpAny M A (letOwnedTupleGo tg (.ref it) u) Q E s:=by
 unfold letOwnedTupleGo;cases tg<;>first
  | exact wpAny_pure hQ
  | (cases u<;>first
    | exact wpAny_pure hQ
    | (refine wpAny_bind (wpAny_load ho ?_);rw[hc,hd];show wpAny M A (if (["enumerate","zip","dict_itemiterator","dict_reverseitemiterator","odict_iterator","itertools.zip_longest","itertools.pairwise"].contains n&&vs[0]?==some (rawInt _))=true then _ else _) Q E s;rw[if_neg (by intro h;rw[hn,pV]at h;cases h)];exact wpAny_pure hQ))
def Itl (K:jJa)(a:Addr):It:=
 ⟨fun i H=>∃xs x,SqL K H a xs/\xs[i]?=some x,fun i H x H'=>H'=H/\∀xs,SqL K H a xs->xs[i]?=some x,fun i H=>∃xs,SqL K H a xs/\xs.length<=i⟩
def Itt (K:jJa)(a:Addr):It:=
 ⟨fun i H=>∃xs x,SqT K H a xs/\xs[i]?=some x,fun i H x H'=>H'=H/\∀xs,SqT K H a xs->xs[i]?=some x,fun i H=>∃xs,SqT K H a xs/\xs.length<=i⟩
def Itr (lo:Int)(n:Nat):It:=⟨fun i _=>i<n,fun i H x H'=>H'=H/\x=.int (lo+i),fun i _=>n<=i⟩
def VL {P:Program}{w:World}{K:jJa}{tg:Expr}(a it:Addr):Turn P w K tg (Itl K a) [it] it (fun i h=>h.IsListIter it a i) where
 mem:=by simp
 obj:=fun i h st b hb=>by
  have e:b=it:=by simpa using hb
  subst e;obtain⟨o,e,c,d⟩:=st;exact⟨o,e,fun v z=>by rw[d]at z;cases z⟩
 keep:=fun i h h' st k=>st.at fun o e=>k it (by simp) o e
 item:=by
  intro X hP hw hK hc i pins s σ H E I hf st hg;subst hP hw hK;obtain⟨xs,x,hq,hx⟩:=hg;obtain⟨its,rv,p,hz⟩:=I.list hq;obtain⟨u,hu,ru⟩:=rv.get hx;obtain⟨f0,f1,f2,f3,f4,f5⟩:=hf it (by simp);refine wpAny_pyNext_list_item st p.isList (x:=u) (by simpa using hu) fun h' st' sb=>?_;have I1:Inv X pins σ H { s with heap:=h' }:=I.turned (t':=s.toks) (fun b o hb e=>(sb.2 b hb).trans e) f0 f1 f3 f4 f5;obtain⟨o,e,c,d⟩:=id st';exact⟨u,rfl,Z1 (s:={ s with heap:=h' }) e c d (by decide) ⟨x,H,I1,ru,⟨rfl,fun ys hy=>by rw[I.list_inj hy hq];exact hx⟩,st',fun b hb=>(hf b hb).1⟩⟩
 done:=by
  intro X hP hw hK hc i pins s σ H E I hf st hg;subst hP hw hK;obtain⟨xs,hq,hx⟩:=hg;obtain⟨its,rv,p,hz⟩:=I.list hq;obtain⟨f0,f1,f2,f3,f4,f5⟩:=hf it (by simp);have hl:=rv.length;exact wpAny_pyNext_list_end (I.ok.hd hc) st p.isList (by simp;omega) fun h' eb=>⟨rfl,I.turned (t':=s.toks) (fun b o hb e=>eb b o hb e) f0 f1 f3 f4 f5⟩
 self:=fun _ _ _ _ _ st h=>wpAny_pyIter_listiter st h
def XD {P:Program}{w:World}{K:jJa}{tg:Expr}(a it:Addr):Turn P w K tg (Itt K a) [it] it (fun i h=>h.IsTupleIter it a i) where
 mem:=by simp
 obj:=fun i h st b hb=>by
  have e:b=it:=by simpa using hb
  subst e;obtain⟨o,e,c,d⟩:=st;exact⟨o,e,fun v z=>by rw[d]at z;cases z⟩
 keep:=fun i h h' st k=>st.at fun o e=>k it (by simp) o e
 item:=by
  intro X hP hw hK hc i pins s σ H E I hf st hg;subst hP hw hK;obtain⟨xs,x,hq,hx⟩:=hg;obtain⟨its,rv,p,hz⟩:=I.tuple hq;obtain⟨u,hu,ru⟩:=rv.get hx;obtain⟨f0,f1,f2,f3,f4,f5⟩:=hf it (by simp);refine wpAny_pyNext_tuple_item st (show s.heap.IsTuple a its.toArray from p) (x:=u) (by simpa using hu) fun h' st' sb=>?_;have I1:Inv X pins σ H { s with heap:=h' }:=I.turned (t':=s.toks) (fun b o hb e=>(sb.2 b hb).trans e) f0 f1 f3 f4 f5;obtain⟨o,e,c,d⟩:=id st';exact⟨u,rfl,Z1 (s:={ s with heap:=h' }) e c d (by decide) ⟨x,H,I1,ru,⟨rfl,fun ys hy=>by rw[I.tuple_inj hy hq];exact hx⟩,st',fun b hb=>(hf b hb).1⟩⟩
 done:=by
  intro X hP hw hK hc i pins s σ H E I hf st hg;subst hP hw hK;obtain⟨xs,hq,hx⟩:=hg;obtain⟨its,rv,p,hz⟩:=I.tuple hq;obtain⟨f0,f1,f2,f3,f4,f5⟩:=hf it (by simp);have hl:=rv.length;exact wpAny_pyNext_tuple_end (I.ok.hd hc) st (show s.heap.IsTuple a its.toArray from p) (by simp;omega) fun h' eb=>⟨rfl,I.turned (t':=s.toks) (fun b o hb e=>eb b o hb e) f0 f1 f3 f4 f5⟩
 self:=fun _ _ _ _ _ st h=>wpAny_pyIter_tupleiter st h
def Wh {P:Program}{w:World}{K:jJa}{tg:Expr}(it:Addr)(lo:Int)(n:Nat):Turn P w K tg (Itr lo n) [it] it (fun i h=>IsRangeIter h it (lo+(i:Nat)*1) ((n:Int)-(i:Nat)) 1) where
 mem:=by simp
 obj:=fun i h st b hb=>by
  have e:b=it:=by simpa using hb
  subst e;exact⟨_,st,fun v z=>by
   have z':Data.fields _=Data.cell v:=z;cases z'⟩
 keep:=fun i h h' st k=>k it (by simp) _ st
 item:=by
  intro X hP hw hK hc i pins s σ H E I hf st hg;subst hP hw hK;obtain⟨f0,f1,f2,f3,f4,f5⟩:=hf it (by simp);have W:=Walks.range (prog:=X.prog) (w:=X.w) (I.ok.hd hc) it lo 1 n;refine W.item i s _ _ hg st fun v h' tk hv st' kk=>?_;obtain⟨t,rfl⟩:=hv;have I1:Inv X pins σ H { s with heap:=h',toks:=tk }:=I.turned (fun b o hb e=>kk b o (by simpa using hb) e) f0 f1 f3 f4 f5;refine⟨_,rfl,Z1 (s:={ s with heap:=h',toks:=tk }) (n:="range_iterator") st' rfl rfl (by decide) ⟨.int (lo+i),H,I1,⟨t,?_⟩,⟨rfl,rfl⟩,st',fun b hb=>(hf b hb).1⟩⟩;rw[Int.mul_one]
 done:=by
  intro X hP hw hK hc i pins s σ H E I hf st hg;subst hP hw hK;obtain⟨f0,f1,f2,f3,f4,f5⟩:=hf it (by simp);exact wpAny_pyNext_range_end (I.ok.hd hc) st (by have:n<=i:=hg;omega) fun h' eb=>⟨rfl,I.turned (t':=s.toks) (fun b o hb e=>eb b o hb e) f0 f1 f3 f4 f5⟩
 self:=fun _ _ _ _ _ st h=>wpAny_pyIter_rangeiter st h
section
variable {X:Cx}{tg:Expr}
def Q6 (K:jJa)(tl:TE):TI:=fun σ H R=>tl σ H fun x H1=>∃a,x=.ref a/\(∃xs,SqL K H1 a xs)/\R (Itl K a) H1
def z2e (K:jJa)(tl:TE):TI:=fun σ H R=>tl σ H fun x H1=>∃a,x=.ref a/\(∃xs,SqT K H1 a xs)/\R (Itt K a) H1
def WK {l:Expr}{tl:TE}(hl:PE X l tl):PI X tg l (Q6 X.K tl):=by
 intro pins s σ H R I h;refine thn (hl pins s σ H _ I h) fun v s1 ⟨x,H1,I1,r1,q1⟩=>?_;obtain⟨a,e,⟨xs,hq⟩,q⟩:=q1;subst e;cases r1;obtain⟨its,rv,p,hz⟩:=I1.list hq;refine wpAny_pyIter_list p.isList ?_;refine⟨s1.heap.objs.size,[s1.heap.objs.size],_,_,H1,rfl,I1.kept (t':=s1.toks) fun b o e=>jYb _ e,VL a _,⟨_,jYd _ rfl,rfl,rfl⟩,fun b hb=>?_,q⟩;have e:b=s1.heap.objs.size:=by simpa using hb
 subst e;exact I1.fpOk (tQ _) (I1.hok.fresh (tQ _))
def z0J {l:Expr}{tl:TE}(hl:PE X l tl):PI X tg l (z2e X.K tl):=by
 intro pins s σ H R I h;refine thn (hl pins s σ H _ I h) fun v s1 ⟨x,H1,I1,r1,q1⟩=>?_;obtain⟨a,e,⟨xs,hq⟩,q⟩:=q1;subst e;cases r1;obtain⟨its,rv,p,hz⟩:=I1.tuple hq;refine wpAny_pyIter_tuple (show s1.heap.IsTuple a its.toArray from p) ?_;refine⟨s1.heap.objs.size,[s1.heap.objs.size],_,_,H1,rfl,I1.kept (t':=s1.toks) fun b o e=>jYb _ e,XD a _,⟨_,jYd _ rfl,rfl,rfl⟩,fun b hb=>?_,q⟩;have e:b=s1.heap.objs.size:=by simpa using hb
 subst e;exact I1.fpOk (tQ _) (I1.hok.fresh (tQ _))
def YI {pins:List (Addr×Obj)}{σ:St}{H:Hp}{s:Shared}{R:It->Hp->Prop}{E:Value->Shared->Prop}{lo hi:Int}{t u v:Tok}{tk:Nat}(I:Inv X pins σ H s)(h1:-(2 ^ 62)<=lo)(h2:lo<2 ^ 62)(h3:-(2 ^ 62)<=hi)(h4:hi<2 ^ 62)
  (q:R (Itr lo (hi-lo).toNat) H):wpAny (model X.prog X.w) X.A (pyIter (.ref s.heap.objs.size)) (PIE X pins σ tg R) E { s with heap:=s.heap.push { cls:=.type "range",data:=.fields #[.int lo t,.int hi u,.int 1 v] },toks:=tk }:=by
 refine wpAny_pyIter_range (IsRange.new ..) (small_one h1 h2 h3 h4) ?_;have I1:Inv X pins σ H { s with heap:=s.heap.push { cls:=.type "range",data:=.fields #[.int lo t,.int hi u,.int 1 v] },toks:=tk }:=I.kept fun b o e=>jYb _ e;refine⟨(s.heap.push { cls:=.type "range",data:=.fields #[.int lo t,.int hi u,.int 1 v] }).objs.size,[(s.heap.push { cls:=.type "range",data:=.fields #[.int lo t,.int hi u,.int 1 v] }).objs.size],_,_,H,rfl,
  I1.kept (t':=tk) fun b o e=>jYb _ e,Wh _ lo (hi-lo).toNat,?_,fun b hb=>?_,q⟩
 ·have e1:lo+((0:Nat):Int)*1=lo:=by simp
  have e2:(((hi-lo).toNat:Nat):Int)-((0:Nat):Int)=Builtin.Range.rangeSize lo hi 1:=by rw[rangeSize_one];split<;>omega
  show IsRangeIter _ _ (lo+((0:Nat):Int)*1) ((((hi-lo).toNat:Nat):Int)-((0:Nat):Int)) 1;rw[e1,e2];exact jYd _ rfl
 ·have e:b=(s.heap.push { cls:=.type "range",data:=.fields #[.int lo t,.int hi u,.int 1 v] }).objs.size:=by simpa using hb
  subst e;exact I1.fpOk (tQ _) (I1.hok.fresh (tQ _))
def z3l (ta:TA):TI:=fun σ H R=>ta σ H fun vs H1=>∃j:Int,vs=[.int j]/\-(2 ^ 62)<=j/\j<2 ^ 62/\R (Itr 0 j.toNat) H1
def z2t (ta:TA):TI:=fun σ H R=>ta σ H fun vs H1=>∃i j:Int,vs=[.int i,.int j]/\(-(2 ^ 62)<=i/\i<2 ^ 62/\-(2 ^ 62)<=j/\j<2 ^ 62)/\R (Itr i (j-i).toNat) H1
def Ui {a:Expr}{ta:TA}{p pos:Pos}(hg:Gl X "range")(hm:X.mg "range"=none)(ha:PA X [a] ta)(hs:autoParam (starEach [a] X.env=[(false,eval a X.env)]) au3._auto_1):PI X tg (.Call (.Name "range" p) [a] [] pos) (z3l ta):=by
 intro pins s σ H R I h;refine Call_ (uT I hg hm boot_range (PyProof.Rows.callWith_type1 (thn (ha pos pins s σ H _ I h) fun us s1 ⟨vs,H1,I1,r1,q1⟩=>?_) hs rfl));obtain⟨j,e,q1,q2,q⟩:=q1;subst e;cases r1 with
 | cons r rr =>
  cases rr;obtain⟨t,rfl⟩:=r;exact call_range_1 (YI I1 (by omega) (by omega) q1 q2 (by simpa using q))
def VR {a b:Expr}{ta:TA}{p pos:Pos}(hg:Gl X "range")(hm:X.mg "range"=none)(ha:PA X [a,b] ta)(hs:autoParam (starEach [a,b] X.env=[(false,eval a X.env),(false,eval b X.env)]) au3._auto_1)(hs2:autoParam (starEach [b] X.env=[(false,eval b X.env)]) au3._auto_1):
  PI X tg (.Call (.Name "range" p) [a,b] [] pos) (z2t ta):=by
 intro pins s σ H R I h;refine Call_ (uT I hg hm boot_range (PyProof.Rows.callWith_type1 (thn (ha pos pins s σ H _ I h) fun us s1 ⟨vs,H1,I1,r1,q1⟩=>?_) (by rw[hs,hs2]) (by rw[hs2];rfl)));obtain⟨i,j,e,⟨q1,q2,q3,q4⟩,q⟩:=q1;subst e;cases r1 with
 | cons r rr =>
  cases rr with
  | cons r' rr =>
   cases rr;obtain⟨t,rfl⟩:=r;obtain⟨t',rfl⟩:=r';exact call_range_2 (YI I1 q1 q2 q3 q4 q)
def QT (wi:TI)(g:TG)(tb:TS):TS:=fun D σ H=>wi σ H fun J H1=>∃W:Nat->Nat->St->Hp->Prop,(∃m,W 0 m σ H1)/\∀i m σ H,W i m σ H ->
 (J.stop i H/\D.nx σ H)\/(J.go i H/\∃N:St->Hp->Prop,(∀σ' H',N σ' H'->∃m',m'<m/\W (i+1) m' σ' H')/\∀x H',J.yld i H x H'->g x σ H' fun σ2 H2=>tb { D with nx:=N,ct:=N,bk:=D.nx } σ2 H2)
def jF (fp:List Addr)(h:Heap):List (Addr×Obj):=fp.filterMap fun b=>(h.get? b).map fun o=>(b,o)
def vw {fp:List Addr}{h:Heap}{b:Addr}{o:Obj}(hb:b∈fp)(e:h.get? b=some o):(b,o)∈jF fp h:=rS.mpr ⟨b,hb,by rw[e];rfl⟩
def U9 {fp:List Addr}{h:Heap}{p:Addr×Obj}(hp:p∈jF fp h):p.1∈fp/\h.get? p.1=some p.2:=by
 obtain⟨b,hb,e⟩:=rS.mp hp;cases q:h.get? b with
 | none=>rw[q]at e;cases e
 | some o =>
  rw[q]at e;have e':(b,o)=p:=jYe e;subst e';exact⟨hb,q⟩
def Inv.pinned {pins:List (Addr×Obj)}{σ:St}{H:Hp}{s:Shared}{fp:List Addr}(I:Inv X pins σ H s)(hf:∀b∈fp,jf X pins H b)(ho:∀b∈fp,∃o,s.heap.get? b=some o/\∀v,o.data≠.cell v):Inv X (pins++jF fp s.heap) σ H s:=
 I.pins_of fun p hp=>(sG.mp hp).elim (fun z=>I.pin p (tR _ z)) fun z=>by
  obtain⟨hb,e⟩:=U9 z;obtain⟨f0,f1,f2,_⟩:=hf p.1 hb;obtain⟨o,e',d⟩:=ho p.1 hb;rw[e]at e';cases e';exact⟨e,f0,f1,f2,d⟩
def Inv.unpinned {pins pl:List (Addr×Obj)}{σ:St}{H:Hp}{s:Shared}(I:Inv X (pins++pl) σ H s):Inv X pins σ H s:=I.pins_of fun p hp=>I.pin p (tR _ (sC _ hp))
def Qs {iter:Expr}{body:List Stmt}{wi:TI}{g:TG}{tb:TS}{pos:Pos}(hp:PassesOwn (model X.prog X.w) X.A X.env X.xe)(hc:X.calm=true)(hi:PI X tg iter wi)(hg:PG X tg g)(hb:PSs X body tb)
  (hs:autoParam (∀x,foldedSetIterable iter X.env x=pure x) au2._auto_1):PS X (.For tg iter body [] pos) (QT wi g tb):=by
 intro pins s σ H D I h;refine wpAny_For (thn (hi pins s σ H _ I h) fun v s1 h1=>thn h1 fun itv s2 h2=>?_) hs;obtain⟨it,fp,tn,J,H2,e,I2,T,st2,f2,W,⟨m0,w0⟩,turn⟩:=h2;subst e;have stat:∀ {H':Hp},(∀b∈fp,H' b=none)->∀b∈fp,jf X pins H' b:=fun hn b hb=>⟨hn b hb,(f2 b hb).2⟩
 refine codeAny_forLoop_any (fun n s'=>∃i σ' H',Inv X pins σ' H' s'/\tn i s'.heap/\(∀b∈fp,H' b=none)/\W i n σ' H') ?_ m0 ⟨0,σ,H2,I2,st2,fun b hb=>(f2 b hb).1,w0⟩;rintro n s3 ⟨i,σ3,H3,I3,st3,fr3,w3⟩;rcases turn i n σ3 H3 w3 with⟨stop,qn⟩|⟨go,N,hN,step⟩
 ·refine wpAny_passesOwn hp (thn (T.done X rfl rfl rfl hc i pins s3 σ3 H3 X.xe I3 (stat fr3) st3 stop) fun r s4 ⟨hr,I4⟩=>?_);subst hr;exact wpAny_execs_nil ⟨σ3,H3,I4,qn⟩
 ·refine wpAny_passesOwn hp (thn (T.item X rfl rfl rfl hc i pins s3 σ3 H3 X.xe I3 (stat fr3) st3 go) fun r s4 ⟨u,hr,h4⟩=>?_);subst hr;refine wpAny_passesOwn hp (thn h4 fun _ s5 ⟨x,H5,I5,r5,y5,st5,fr5⟩=>?_);have I5':=I5.pinned (stat fr5) (T.obj _ _ st5);refine wpAny_passesOwn hp (thn (hg _ s5 σ3 H5 x u _ I5' r5 (step x H5 y5)) fun _ s6 ⟨σ6,H6,I6,q6⟩=>?_);refine wpAny_passesOwn hp (thn (hb _ s6 σ6 H6 _ I6 q6) fun f s7 q7=>?_);have again:∀ {σ7:St} {H7:Hp},Inv X (pins++jF fp s5.heap) σ7 H7 s7->N σ7 H7->∃m,m<n/\∃i σ' H',Inv X pins σ' H' s7/\tn i s7.heap/\(∀b∈fp,H' b=none)/\W i m σ' H':=fun {σ7 H7} I7 n7=>by
   obtain⟨m',hm,w7⟩:=hN σ7 H7 n7;refine⟨m',hm,i+1,σ7,H7,I7.unpinned,T.keep _ _ _ st5 fun b hb o e=>(I7.pin (b,o) (tR _ (tR _ (vw hb e)))).1,fun b hb=>?_,w7⟩;obtain⟨o,e,d⟩:=T.obj _ _ st5 b hb;exact (I7.pin (b,o) (tR _ (tR _ (vw hb e)))).2.1
  cases f with
  | next=>obtain⟨σ7,H7,I7,n7⟩:=q7;exact again I7 n7
  | cont=>obtain⟨σ7,H7,I7,n7⟩:=q7;exact again I7 n7
  | brk=>obtain⟨σ7,H7,I7,q7⟩:=q7;exact⟨σ7,H7,I7.unpinned,q7⟩
  | ret v=>obtain⟨x7,σ7,H7,I7,r7,q7⟩:=q7;exact⟨x7,σ7,H7,I7.unpinned,r7,q7⟩
end
abbrev R2:=V->V->Hp->VK->Prop
def OpR (X:Cx)(f:Value->Value->Sem Value)(r:R2):Prop:=
 ∀(pins:List (Addr×Obj)) (s:Shared) (σ:St) (H:Hp) (x y:V) (v u:Value) (Q:VK),Inv X pins σ H s->RelV x v->RelV y u->r x y H Q ->
  wpAny (model X.prog X.w) X.A (f v u) (EP X pins σ Q) X.xe s
def UnR (X:Cx)(f:Value->Sem Value)(r:V->Hp->VK->Prop):Prop:=
 ∀(pins:List (Addr×Obj)) (s:Shared) (σ:St) (H:Hp) (x:V) (v:Value) (Q:VK),Inv X pins σ H s->RelV x v->r x H Q ->
  wpAny (model X.prog X.w) X.A (f v) (EP X pins σ Q) X.xe s
def CallR (X:Cx)(f:Value)(r:List V->Hp->VK->Prop):Prop:=
 ∀(pins:List (Addr×Obj)) (s:Shared) (σ:St) (H:Hp) (xs:List V) (us:List Value) (Q:VK),Inv X pins σ H s->Vals xs us->r xs H Q ->
  wpAny (model X.prog X.w) X.A (call f us) (EP X pins σ Q) X.xe s
def tOp (r:R2)(ta tb:TE):TE:=fun σ H Q=>ta σ H fun x H1=>tb σ H1 fun y H2=>r x y H2 Q
def tUn (r:V->Hp->VK->Prop)(ta:TE):TE:=fun σ H Q=>ta σ H fun x H1=>r x H1 Q
def rI (C:Int->Int->Prop)(g:Int->Int->V):R2:=fun x y H Q=>∃i j,x=.int i/\y=.int j/\C i j/\Q (g i j) H
def rI0 (g:Int->Int->V):R2:=fun x y H Q=>∃i j,x=.int i/\y=.int j/\Q (g i j) H
def rU (g:Int->V):V->Hp->VK->Prop:=fun x H Q=>∃i,x=.int i/\Q (g i) H
section
variable {X:Cx}{a b c:Expr}{ta tb tc:TE}{pos:Pos}
def z0W (ha:PE X a ta)(hb:PE X b tb){pins:List (Addr×Obj)}{s:Shared}{σ:St}{H:Hp}{R:V->V->Hp->Prop}(I:Inv X pins σ H s)
  (h:ta σ H fun x H1=>tb σ H1 fun y H2=>R x y H2) {Q:Value->Shared->Prop} {f:Value->Value->Sem Value}
  (hf:∀v u s2 x y H2,Inv X pins σ H2 s2->RelV x v->RelV y u->R x y H2->wpAny (model X.prog X.w) X.A (f v u) Q X.xe s2):
  wpAny (model X.prog X.w) X.A (eval a X.env) (fun v s₁=>wpAny (model X.prog X.w) X.A (eval b X.env) (fun u s₂=>wpAny (model X.prog X.w) X.A (f v u) Q X.xe s₂) X.xe s₁) X.xe s:=by
 refine thn (ha pins s σ H _ I h) fun v s1 ⟨x,H1,I1,r1,q1⟩=>?_;refine thn (hb pins s1 σ H1 _ I1 q1) fun u s2 ⟨y,H2,I2,r2,q2⟩=>?_;exact hf v u s2 x y H2 I2 r1 r2 q2
def z0u {op:Operator}{r:R2}(ho:OpR X (binaryOp op) r)(ha:PE X a ta)(hb:PE X b tb):PE X (.BinOp a op b pos) (tOp r ta tb):=by
 intro pins s σ H Q I h;exact wpAny_BinOp (z0W ha hb I h fun v u s2 x y H2 I2 rx ry q=>ho pins s2 σ H2 x y v u Q I2 rx ry q)
def z2f {op:UnaryOp}{r:V->Hp->VK->Prop}(ho:UnR X (unaryOp op) r)(ha:PE X a ta):PE X (.UnaryOp op a pos) (tUn r ta):=by
 intro pins s σ H Q I h;exact UnaryOp_ (thn (ha pins s σ H _ I h) fun v s1 ⟨x,H1,I1,r1,q1⟩=>ho pins s1 σ H1 x v Q I1 r1 q1)
def opI {f:Value->Value->Sem Value}{C:Int->Int->Prop}{g:Int->Int->Int}
  (rule:∀(i j:Int) (t u:Tok) (s:Shared) (Q:Value->Shared->Prop) (E:Value->Shared->Prop),C i j->Q (.int (g i j) s.toks) { s with toks:=s.toks+1 }->wpAny (model X.prog X.w) X.A (f (.int i t) (.int j u)) Q E s):
  OpR X f (rI C fun i j=>.int (g i j)):=by
 intro pins s σ H x y v u Q I rx ry h;obtain⟨i,j,rfl,rfl,hc,q⟩:=h;obtain⟨t,rfl⟩:=rx;obtain⟨t',rfl⟩:=ry;exact rule i j t t' s _ _ hc ⟨.int (g i j),H,I.tok _,⟨_,rfl⟩,q⟩
def z2G {f:Value->Value->Sem Value}{g:Int->Int->Int}
  (rule:∀(i j:Int) (t u:Tok) (s:Shared) (Q:Value->Shared->Prop) (E:Value->Shared->Prop),Q (.int (g i j) s.toks) { s with toks:=s.toks+1 }->wpAny (model X.prog X.w) X.A (f (.int i t) (.int j u)) Q E s):
  OpR X f (rI0 fun i j=>.int (g i j)):=by
 intro pins s σ H x y v u Q I rx ry h;obtain⟨i,j,rfl,rfl,q⟩:=h;obtain⟨t,rfl⟩:=rx;obtain⟨t',rfl⟩:=ry;exact rule i j t t' s _ _ ⟨.int (g i j),H,I.tok _,⟨_,rfl⟩,q⟩
def z2h {f:Value->Value->Sem Value}{g:Int->Int->Bool}
  (rule:∀(i j:Int) (t u:Tok) (s:Shared) (Q:Value->Shared->Prop) (E:Value->Shared->Prop),Q (.bool (g i j)) s->wpAny (model X.prog X.w) X.A (f (.int i t) (.int j u)) Q E s):
  OpR X f (rI0 fun i j=>.bl (g i j)):=by
 intro pins s σ H x y v u Q I rx ry h;obtain⟨i,j,rfl,rfl,q⟩:=h;obtain⟨t,rfl⟩:=rx;obtain⟨t',rfl⟩:=ry;exact rule i j t t' s _ _ ⟨.bl (g i j),H,I,rfl,q⟩
def z3h (i j:Int):Prop:=0<j/\j<1073741824
def CMul (i j:Int):Prop:=(-(2 ^ 64)<i/\i<2 ^ 64)\/(-(2 ^ 64)<j/\j<2 ^ 64)
theorem CMul.ok {i j:Int}(h:CMul i j):IntMulOk i j:=by
 rcases h with⟨h1,h2⟩|⟨h1,h2⟩
 ·exact .of_left (intBits_le_64 h1 h2)
 ·exact .of_right (intBits_le_64 h1 h2)
def z1t:OpR X (binaryOp .Add) (rI0 fun i j=>.int (i+j)):=z2G fun _ _ _ _ _ _ _ q=>add_int q
def yP:OpR X (binaryOp .Sub) (rI0 fun i j=>.int (i-j)):=z2G fun _ _ _ _ _ _ _ q=>sub_int q
def z0S:OpR X (binaryOp .Mult) (rI CMul fun i j=>.int (i*j)):=opI fun _ _ _ _ _ _ _ hc q=>mul_int q hc.ok
def yZ:OpR X (binaryOp .FloorDiv) (rI z3h fun i j=>.int (i/j)):=opI fun i j _ _ _ _ _ hc q=>by
 have h1:(0:Int)<j:=hc.1;have h2:j<1073741824:=hc.2;exact floordiv_int (by omega) (by rw[Int.fdiv_eq_ediv_of_nonneg i (by omega)];exact q) (.inl (PyProof.noPylong_small (by omega)))
def yl:OpR X (binaryOp .Mod) (rI (fun _ j=>0<j) fun i j=>.int (i%j)):=opI fun i j _ _ _ _ _ hc q=>by
 have h1:(0:Int)<j:=hc;exact mod_int' (by omega) (by rw[Int.fmod_eq_emod_of_nonneg i (by omega)];exact q)
def unI {f:Value->Sem Value}{g:Int->Int}
  (rule:∀(i:Int) (t:Tok) (s:Shared) (Q:Value->Shared->Prop) (E:Value->Shared->Prop),Q (.int (g i) s.toks) { s with toks:=s.toks+1 }->wpAny (model X.prog X.w) X.A (f (.int i t)) Q E s):
  UnR X f (rU fun i=>.int (g i)):=by
 intro pins s σ H x v Q I rx h;obtain⟨i,rfl,q⟩:=h;obtain⟨t,rfl⟩:=rx;exact rule i t s _ _ ⟨.int (g i),H,I.tok _,⟨_,rfl⟩,q⟩
def z1p:UnR X (unaryOp .USub) (rU fun i=>.int (-i)):=unI fun _ _ _ _ _ q=>neg_int q
end
def Jg {i j:Int}:decide (V.int i=V.int j)=(i==j):=by
 rw[Bool.eq_iff_iff];simp
section
variable {X:Cx}{a b c:Expr}{ta tb tc:TE}{pos:Pos}
def z0M {pins:List (Addr×Obj)}{σ:St}{H:Hp}{s:Shared}{Q:VK}{k k':Bool}(I:Inv X pins σ H s)(q:Q (.bl k) H)(e:k=k'):EP X pins σ Q (.bool k') s:=by
 subst e;exact⟨.bl k,H,I,rfl,q⟩
def jQ:OpR X (compareOp .Lt) (rI0 fun i j=>.bl (decide (i<j))):=z2h fun _ _ _ _ _ _ _ q=>lt_int q
def vT:OpR X (compareOp .Gt) (rI0 fun i j=>.bl (decide (j<i))):=z2h fun _ _ _ _ _ _ _ q=>gt_int q
def WG:OpR X (compareOp .IsNot) (fun x y H Q=>y=.non/\Q (.bl (!decide (x=.non))) H):=by
 intro pins s σ H x y v u Q I rx ry h;obtain⟨rfl,q⟩:=h;cases ry;refine isnot_none_gen (z0M I q ?_);cases x<;>first
  | (cases rx;rfl)
  | (obtain⟨t,rfl⟩:=rx;rfl)
theorem OpR.or {f:Value->Value->Sem Value}{r r':R2}(h:OpR X f r)(h':OpR X f r'):OpR X f (fun x y H Q=>r x y H Q\/r' x y H Q):=by
 intro pins s σ H x y v u Q I rx ry q;rcases q with q|q
 ·exact h pins s σ H x y v u Q I rx ry q
 ·exact h' pins s σ H x y v u Q I rx ry q
def zL (b:Expr){op:CmpOp}(h:autoParam (op≠.In) au1._auto_1)(h2:autoParam (op≠.NotIn) au1._auto_1):behindInMarks op b=false:=by
 have e1:(op==CmpOp.In)=false:=by cases op<;>first|rfl|exact absurd rfl h
 have e2:(op==CmpOp.NotIn)=false:=by cases op<;>first|rfl|exact absurd rfl h2
 cases b with
 | Set elts k _ =>
  show (k==0&&(op==.In||op==.NotIn)&&elts.all (constantsAlone 8))=false;rw[e1,e2,Bool.or_self,Bool.and_false,pV]
 | _=>rfl
def Ka {op:CmpOp}{r:R2}(ho:OpR X (compareOp op) r)(ha:PE X a ta)(hb:PE X b tb)(hm:behindInMarks op b=false):PE X (.Compare a [op] [b] pos) (tOp r ta tb):=by
 intro pins s σ H Q I h;exact wpAny_Compare1 (z0W ha hb I h fun v u s2 x y H2 I2 rx ry q=>ho pins s2 σ H2 x y v u Q I2 rx ry q) hm
def z3t (t:TE):TT:=fun σ H Q=>t σ H fun x H'=>∃k,x=.bl k/\Q k H'
def Jd {op:CmpOp}{r:R2}(ho:OpR X (compareOp op) r)(ha:PE X a ta)(hb:PE X b tb)(hm:behindInMarks op b=false):PT X (.Compare a [op] [b] pos) (z3t (tOp r ta tb)):=by
 intro pins s σ H Q I h;refine wpAny_isTrue_Compare1 (thn (ha pins s σ H _ I h) fun v s1 ⟨x,H1,I1,r1,q1⟩=>thn (hb pins s1 σ H1 _ I1 q1) fun u s2 ⟨y,H2,I2,r2,q2⟩ =>
  thn (ho pins s2 σ H2 x y v u _ I2 r1 r2 q2) fun c s3 ⟨z,H3,I3,r3,k,e,q3⟩=>?_) hm
 subst e;cases r3;exact wpAny_truthy_bool ⟨H3,I3,q3⟩
def qA:(sizeLine:Nat)<2 ^ 63:=by rw[sizeLine_eq];decide
def XH:OpR X (binaryOp .Add) (fun x y H Q=>∃i j,x=.str i/\y=.str j/\i.length+j.length<=sizeLine/\Q (.str (i++j)) H):=by
 intro pins s σ H x y v u Q I rx ry h;obtain⟨i,j,rfl,rfl,hz,q⟩:=h;obtain⟨t,rfl⟩:=rx;obtain⟨t',rfl⟩:=ry;exact add_str (fun t' tk=>⟨.str (i++j),H,I.tok _,⟨_,rfl⟩,q⟩) hz
def X7:OpR X (inplaceOp .Add) (fun x y H Q=>∃i j,x=.str i/\y=.str j/\i.length+j.length<=sizeLine/\Q (.str (i++j)) H):=by
 intro pins s σ H x y v u Q I rx ry h;obtain⟨i,j,rfl,rfl,hz,q⟩:=h;obtain⟨t,rfl⟩:=rx;obtain⟨t',rfl⟩:=ry;exact iadd_str (fun t' tk=>⟨.str (i++j),H,I.tok _,⟨_,rfl⟩,q⟩) hz
def vL {x:V}{us:List Value}(r:Vals [x] us):∃u,us=[u]/\RelV x u:=by
 cases r with
 | cons r1 r2=>cases r2;exact⟨_,rfl,r1⟩
def z0t {x y:V}{us:List Value}(r:Vals [x,y] us):∃u w',us=[u,w']/\RelV x u/\RelV y w':=by
 cases r with
 | cons r1 r2 =>
  cases r2 with
  | cons r3 r4=>cases r4;exact⟨_,_,rfl,r1,r3⟩
def VG (hc:X.calm=true):CallR X (.builtin "max") (fun xs H Q=>∃i j,xs=[.int i,.int j]/\Q (.int (if j>i then j else i)) H):=by
 intro pins s σ H xs us Q I r h;obtain⟨i,j,rfl,q⟩:=h;obtain⟨u,w',rfl,⟨t,rfl⟩,⟨t',rfl⟩⟩:=z0t r;refine max_two_ints (I.ok.hd hc) fun h' tk k=>⟨_,H,I.kept k,?_,q⟩
 by_cases hj:j>i
 ·rw[if_pos hj,if_pos hj];exact⟨_,rfl⟩
 ·rw[if_neg hj,if_neg hj];exact⟨_,rfl⟩
end
structure ObjM (h:Heap)(x dx C:Addr)(mA:Str->Option Value):Prop where
 obj:h.get? x=some (jJg C dx)
 ns:h.Ns1 dx mA
 ne:dx≠x
def VF {h:Heap}{dx:Addr}{mA:Str->Option Value}(n:h.Ns1 dx mA):∃od,h.get? dx=some od/\∀name,jJk name od=some (mA name):=by
 obtain⟨o,es,ep,ho,hd,hk,_,hm⟩:=n;refine⟨o,ho,fun name=>?_⟩;have e:=hm name;unfold nsFind findBy at e;rw[<-Array.find?_toList]at e;unfold jJk;rw[hd];dsimp only;split
 ·rename_i y q;rw[q]at e;exact congrArg some e
 ·rename_i q;rw[q]at e;have a:es.toList.any (·.refKey)=false:=by
   rw[List.any_eq_false];intro y hy;obtain⟨z,t,hkey⟩:=hk y (Array.mem_toList_iff.mp hy);simp[DictEntry.refKey,hkey]
  have a':¬es.toList.any (·.refKey)=true:=by rw[a];exact tX
  rw[if_neg a'];exact congrArg some e
theorem ObjM.look {h:Heap}{x dx C:Addr}{mA:Str->Option Value}(I:ObjM h x dx C mA):∃od,PySem.W.InstAt h x (jJg C dx) C (some od)/\∀name,jJk name od=some (mA name):=
 let ⟨od,ho,hl⟩:=VF I.ns
 ⟨od,⟨I.obj,rfl,rfl,ho⟩,hl⟩
section
variable {prog:Program}{w:World}{A:Around}{E:Value->Shared->Prop}{s:Shared}{K:jJa}{x dx C f:Addr}{mA:Str->Option Value}{name:Str}{v:Value}
def Kw {expr:Bool}{Q:Value->Shared->Prop}(X:K.In s.heap)(I:ObjM s.heap x dx C mA)(hg:jJm K C name=true)(hh:jJr K C=true)
  (ha:jJc K (.ref C) name=some none) (hv:mA name=some v) (hv':PySem.W.handedIn v=true) (h:Q v { s with toks:=s.toks+1 }):
  wpAny (model prog w) A (getAttr (.ref x) name expr) Q E s:=by
 obtain⟨od,J,hl⟩:=I.look;exact PySem.W.get_value X J (jJs hg).1 (PySem.W.findObj_own hh ha rfl (by rw[hl,hv])) hv' h
def QD {pl:Sem Bool}{Q:Value×List Value->Shared->Prop}(X:K.In s.heap)(I:ObjM s.heap x dx C mA)(hg:jJm K C name=true)
  (hf:jJc K (.ref C) name=some (some (.ref f))) (ht:jJt K (.ref f)=true) (hv:mA name=none) (h:Q (.ref f,[.ref x]) s):
  wpAny (model prog w) A (getMethod (.ref x) name pl) Q E s:=by
 obtain⟨od,J,hl⟩:=I.look;exact PySem.W.method_fn X J (jJs hg).1 (jJs hg).2 hf (beq_iff_eq.mp ht) (by show (jJk name od).map (·.isSome)=some false;rw[hl,hv];rfl) h
def KO {ns:List Str}{Q:Unit->Shared->Prop}(X:K.In s.heap)(I:ObjM s.heap x dx C mA)
  (hs:jJc K (.ref C) "__setattr__"=some (some (.builtin "object.__setattr__"))) (hp:PySem.W.plainOver K C=true) (ht:jJu K C name=some none) (hh:jJr K C=true)
  (hw:PySem.Within mA ns) (hsz:ns.length<=sizeLine)
  (h:∀h',ObjM h' x dx C (fun y=>if y=name then some v else mA y)->Heap.SameBut dx s.heap h'->Q () { s with heap:=h',toks:=s.toks+2 }):
  wpAny (model prog w) A (setAttr (.ref x) name v) Q E s:=by
 obtain⟨od,J,hl⟩:=I.look;refine PySem.W.set_plain X J hs (PySem.W.osa_open (s:={ s with toks:=s.toks+1 }) (r:=none) X J hp ht fun b=>?_);obtain⟨cd,hc,hd'⟩:=PySem.W.any_some hh;have hx:s.heap.get? x=some ⟨.ref C,some dx,.plain,#[]⟩:=I.obj;refine wpAny_bind (wpAny_pure (wpAny_bind (wpAny_bind (wpAny_loadPart hx (wpAny_bind (PySem.W.Looks.here (s:={ s with toks:=s.toks+1 }) (PySem.W.looks_clsIn X hc) ?_))))));rw[hd'];refine wpAny_pure (a:=some dx) (wpAny_bind (wpAny_pure (wpAny_bind ?_)));refine wpAny_nsSet1 (s:={ s with toks:=s.toks+1 }) I.ns fun h' hn2 hs2=>?_;obtain⟨oD,esD,epD,hoD,hdD,hcD⟩:=hn2.count (PySem.Within.cons name v hw);refine wpAny_bind (wpAny_lookBehind hoD (by rw[hdD];exact pastItsLine_dict (sT hcD (by rw[tF];omega))) ?_);exact wpAny_pure (h _ ⟨(hs2.2 _ (Ne.symm I.ne)).trans I.obj,hn2,I.ne⟩ hs2)
def UT {R:Result->Shared->Prop}{vs:List Value}{kw:List (Str×Value)}(X:K.In s.heap)(hm:PySem.W.makesIn K C=true)
  (hi:jJc K (.ref C) "__init__"=some (some (.ref f))) (hf:PySem.W.typeIn K (.ref f)=some (.type "function"))
  (h:codeAny (model prog w) (A.under (.builtin "type.__call__" ⟨.ref C::vs,kw⟩)) (.call (.ref f) ⟨.ref (s.heap.objs.size+1)::vs,kw⟩) (PySem.W.InitBack (s.heap.objs.size+1) R)
   { s with heap:=(s.heap.push jJe).push (jJg C s.heap.objs.size) }):
  codeAny (model prog w) A (.call (.ref C) ⟨vs,kw⟩) R s:=by
 obtain⟨hh,g,d,t,os⟩:=s;exact PySem.W.make_core (PySem.W.makes_of X hm) (PySem.W.looks_findIn X hi) (fun self=>PySem.W.bind_fn X self hf) (.inl rfl) h
end
def wZ (f:Str)(v:V):List (Str×V)->List (Str×V)
 | []=>[(f,v)]
 | (g,x)::r=>if g=f then (g,v)::r else (g,x)::wZ f v r
theorem qZ (f g:Str)(v:V):∀fs:List (Str×V),(wZ f v fs).lookup g=if g=f then some v else fs.lookup g
 | []=>by
  show List.lookup g [(f,v)]=_
  by_cases h:g=f
  ·have hb:(g==f)=true:=beq_iff_eq.mpr h;simp only[List.lookup,hb,if_pos h]
  ·have hb:(g==f)=false:=beq_eq_false_iff_ne.mpr h;simp only[List.lookup,hb,if_neg h]
 | (k,x)::r=>by
  have ih:=qZ f g v r;rw[show wZ f v ((k,x)::r)=(if k=f then (k,v)::r else (k,x)::wZ f v r) from rfl]
  by_cases hk:k=f
  ·rw[if_pos hk]
   by_cases h:g=k
   ·have hb:(g==k)=true:=beq_iff_eq.mpr h;simp only[List.lookup,hb,if_pos (h.trans hk)]
   ·have hb:(g==k)=false:=beq_eq_false_iff_ne.mpr h;simp only[List.lookup,hb,if_neg (fun e:g=f=>h (e.trans hk.symm))]
  ·rw[if_neg hk]
   by_cases h:g=k
   ·have hb:(g==k)=true:=beq_iff_eq.mpr h;simp only[List.lookup,hb,if_neg (fun e:g=f=>hk (h.symm.trans e))]
   ·have hb:(g==k)=false:=beq_eq_false_iff_ne.mpr h;simp only[List.lookup,hb];exact ih
theorem qz (f:Str)(v:V):∀fs:List (Str×V),f∈(wZ f v fs).map (·.1)/\∀g,g∈fs.map (·.1)->g∈(wZ f v fs).map (·.1)
 | []=>⟨by simp[wZ],fun g h=>by simp at h⟩
 | (k,x)::r=>by
  obtain⟨i1,i2⟩:=qz f v r;rw[show wZ f v ((k,x)::r)=(if k=f then (k,v)::r else (k,x)::wZ f v r) from rfl]
  by_cases hk:k=f
  ·rw[if_pos hk];subst hk;exact⟨by simp,fun g h=>by simpa using h⟩
  ·rw[if_neg hk];refine⟨?_,fun g h=>?_⟩
   ·rw[tG];exact tW _ i1
   ·rw[tG]at h ⊢;rcases sF.mp h with e|e
    ·exact sF.mpr (.inl e)
    ·exact tW _ (i2 g e)
theorem j3 (f:Str)(v:V):∀fs:List (Str×V),(wZ f v fs).length<=fs.length+1
 | []=>by simp[wZ]
 | (k,x)::r=>by
  have ih:=j3 f v r;rw[show wZ f v ((k,x)::r)=(if k=f then (k,v)::r else (k,x)::wZ f v r) from rfl]
  by_cases hk:k=f
  ·rw[if_pos hk,tF,tF];omega
  ·rw[if_neg hk,tF,tF];omega
def RelO.some_of {v:V}{o:Option Value}(r:RelO (some v) o):∃u,o=some u/\RelV v u:=by
 cases o with
 | none=>exact (show False from r).elim
 | some u=>exact⟨u,rfl,r⟩
def RelO.none_of {o:Option Value}(r:RelO none o):o=none:=by
 cases o with
 | none=>rfl
 | some u=>exact (show False from r).elim
def VM {v:V}{u:Value}(r:RelV v u):PySem.W.handedIn u=true:=by
 cases v with
 | non=>cases (show u=Value.none from r);rfl
 | bl b=>cases (show u=Value.bool b from r);rfl
 | int i=>obtain⟨t,e⟩:=(show ∃t,u=Value.int i t from r);cases e;rfl
 | str x=>obtain⟨t,e⟩:=(show ∃t,u=Value.str x t from r);cases e;rfl
 | byt b=>obtain⟨t,e⟩:=(show ∃t,u=Value.bytes b t from r);cases e;rfl
 | flt b=>obtain⟨t,e⟩:=(show ∃t,u=Value.float b t from r);cases e;rfl
 | ref a=>cases (show u=Value.ref a from r);rfl
 | ty n=>cases (show u=Value.type n from r);rfl
section
variable {P:Program}{w:World}{H H':Hp}{h h':Heap}{a C dx:Addr}{fs fs':List (Str×V)}
def jk (hok:HOk P w H h)(e:H a=some (.ins C dx fs)):∃mA,ObjM h a dx C mA/\(∀f,RelO (fs.lookup f) (mA f))/\PySem.Within mA (fs.map (·.1))/\fs.length<=1000/\H dx=some (.own a):=by
 obtain⟨d,z,ne,ob,mA,n,r,q⟩:=(show ObjOk P w H h a (.ins C dx fs) from hok a _ e)
 exact⟨mA,⟨ob,n,ne⟩,r,q,z,d⟩
end
structure Cls (K:jJa)(C:Addr):Prop where
 pg:jJm K C Str.empty=true
 hd:jJr K C=true
 po:PySem.W.plainOver K C=true
 sa:jJc K (.ref C) "__setattr__"=some (some (.builtin "object.__setattr__"))
theorem Cls.get {K:jJa}{C:Addr}(c:Cls K C)(f:Str):jJm K C f=true:=c.pg
def NoAttr (K:jJa)(C:Addr)(f:Str):Prop:=jJc K (.ref C) f=some none
theorem NoAttr.taker {K:jJa}{C:Addr}{f:Str}(n:NoAttr K C f):jJu K C f=some none:=by
 unfold jJu;rw[show jJc K (.ref C) f=some none from n]
 rfl
structure Con (K:jJa)(C:Addr)(f:Str)(v:V)(u:Value):Prop where
 at_:jJc K (.ref C) f=some (some u)
 rel:RelV v u
 get:jJv K u "__get__"=some none
 cp:PySem.W.copiedNames.contains f=false
structure Meth (K:jJa)(C:Addr)(m:Str)(f:Addr):Prop where
 at_:jJc K (.ref C) m=some (some (.ref f))
 fn:jJt K (.ref f)=true
 kp:jJh K (.ref f)=true
section
variable {X:Cx}{pins:List (Addr×Obj)}{σ:St}{H:Hp}{s:Shared}{a C dx:Addr}{fs:List (Str×V)}{f:Str}{v:V}{A:Around}{E:Value->Shared->Prop}
def Wg {b:Bool}{Q:Value->Shared->Prop}(I:Inv X pins σ H s)(e:H a=some (.ins C dx fs))(c:Cls X.K C)(n:NoAttr X.K C f)(l:fs.lookup f=some v)
  (h:∀u s',Inv X pins σ H s'->RelV v u->Q u s'):wpAny (model X.prog X.w) A (getAttr (.ref a) f b) Q E s:=by
 obtain⟨mA,O,r,_,_,_⟩:=jk I.hok e;obtain⟨u,hu,ru⟩:=RelO.some_of (v:=v) (o:=mA f) (by rw[<-l];exact r f);exact Kw I.kIn O (c.get f) c.hd n hu (VM ru) (h u _ (I.tok _) ru)
def jH {m:Str}{g:Addr}{pl:Sem Bool}{Q:Value×List Value->Shared->Prop}(I:Inv X pins σ H s)(e:H a=some (.ins C dx fs))(c:Cls X.K C)(k:Meth X.K C m g)(l:fs.lookup m=none)
  (h:Q (.ref g,[.ref a]) s):wpAny (model X.prog X.w) A (getMethod (.ref a) m pl) Q E s:=by
 obtain⟨mA,O,r,_,_,_⟩:=jk I.hok e;have hn:mA m=none:=RelO.none_of (by rw[<-l];exact r m);exact QD I.kIn O (c.get m) k.at_ k.fn hn h
def XW {y:V}{u:Value}{Q:Unit->Shared->Prop}(I:Inv X pins σ H s)(e:H a=some (.ins C dx fs))(c:Cls X.K C)(n:NoAttr X.K C f)(hl:fs.length<1000)(ry:RelV y u)
  (h:∀s',Inv X pins σ (upd H a (.ins C dx (wZ f y fs))) s'->Q () s'):wpAny (model X.prog X.w) A (setAttr (.ref a) f u) Q E s:=by
 obtain⟨mA,O,r,wi,_,ho⟩:=jk I.hok e;have hz:(fs.map (·.1)).length<=sizeLine:=by rw[tM,sizeLine_eq];omega
 refine KO I.kIn O c.sa c.po n.taker c.hd wi hz fun h' O' sb=>h _ ?_;have hd:∃o,h'.get? dx=some o:=let ⟨o,_,_,e',_⟩:=O'.ns;⟨o,e'⟩;refine I.write (x:=a) (e:=dx) (by rw[e];exact True.intro) (.inr ho) (fun b q hb z=>(sb.2 b hb).trans z) hd ?_;refine⟨by rw[zy O.ne];exact ho,?_,O.ne,O'.obj,_,O'.ns,fun g=>?_,fun g hg=>?_⟩
 ·have:=j3 f y fs;omega
 ·show RelO ((wZ f y fs).lookup g) (if g=f then some u else mA g);rw[qZ]
  by_cases q:g=f
  ·rw[if_pos q,if_pos q];exact ry
  ·rw[if_neg q,if_neg q];exact r g
 ·by_cases q:g=f
  ·rw[q];exact (qz f y fs).1
  ·refine (qz f y fs).2 g (wi g fun z=>hg ?_);show (if g=f then some u else mA g)=none;rw[if_neg q];exact z
theorem Inv.made (I:Inv X pins σ H s):Inv X pins σ (upd (upd H s.heap.objs.size (.own (s.heap.objs.size+1))) (s.heap.objs.size+1) (.ins C s.heap.objs.size []))
  { s with heap:=(s.heap.push jJe).push (jJg C s.heap.objs.size) }:=by
 have e1:(s.heap.push jJe).get? s.heap.objs.size=some jJe:=jYd s.heap rfl;have e2:((s.heap.push jJe).push (jJg C s.heap.objs.size)).get? (s.heap.objs.size+1)=some (jJg C s.heap.objs.size):=by
  have:=jYd (s.heap.push jJe) (o:=jJg C s.heap.objs.size) rfl
  rwa [Heap.size_push]at this
 have e3:(s.heap.push jJe).Ns s.heap.objs.size (fun _=>none):=⟨jJe,#[],_,e1,rfl,(fun e he=>absurd he (by simp)),fun _=>rfl⟩
 have I1:=I.laid (a:=s.heap.objs.size) (o:=.own (s.heap.objs.size+1)) (h':=s.heap.push jJe) (t':=s.toks) (fun b u q=>jYb _ q) (tQ _) ⟨_,e1⟩;refine I1.laid (a:=s.heap.objs.size+1) (o:=.ins C s.heap.objs.size []) (t':=s.toks) (fun b u q=>jYb _ q) (Nat.le_of_eq (Heap.size_push _ _)) ?_;have ne:s.heap.objs.size≠s.heap.objs.size+1:=sL (pX _);refine⟨by rw[zy ne,zu],rG _,ne,e2,fun _=>none,(Heap.Ns1.of_empty e3).at fun o q=>jYb _ q,fun _=>True.intro,fun y hy=>absurd rfl hy⟩
def KI {prog:Program}{w:World}{env:Env}{e:Expr}{f:Str}{pos:Pos}{s:Shared}{Q:Value->Shared->Prop}(hb:attributeBase e f env (eval e env)=eval e env)
  (h:wpAny (model prog w) A (eval e env) (fun o s₁=>wpAny (model prog w) A (getAttr o f true) Q E s₁) E s):wpAny (model prog w) A (eval (.Attribute e f pos) env) Q E s:=
 Attribute_any_ h (by rw[arm_eval_Attribute,hb])
end
def QL (K:jJa)(ta:TE)(f:Str):TE:=fun σ H Q=>ta σ H fun x H1=>∃a C dx fs v,x=.ref a/\H1 a=some (.ins C dx fs)/\Cls K C/\NoAttr K C f/\fs.lookup f=some v/\Q v H1
def uu (K:jJa)(ta tv:TE)(f:Str):TS:=fun D σ H=>tv σ H fun y H1=>ta σ H1 fun x H2=>∃a C dx fs,x=.ref a/\H2 a=some (.ins C dx fs)/\Cls K C/\NoAttr K C f/\fs.length<1000 /\
 D.nx σ (upd H2 a (.ins C dx (wZ f y fs)))
section
variable {X:Cx}{o e value:Expr}{f:Str}{pos pos' tpos:Pos}{ta tv:TE}
def Wm (he:PE X e ta)(hb:attributeBase e f X.env (eval e X.env)=eval e X.env):PE X (.Attribute e f pos) (QL X.K ta f):=by
 intro pins s σ H Q I h;refine KI hb (thn (he pins s σ H _ I h) fun u s1 ⟨x,H1,I1,rx,a,C,dx,fs,v,ex,ea,c,n,l,q⟩=>?_);subst ex;obtain rfl:u=Value.ref a:=rx;exact Wg I1 ea c n l fun u' s2 I2 ru=>⟨v,H1,I2,ru,q⟩
def jD (ha:PE X o ta)(hv:PE X value tv)(hs:swapsWith value (some (.Attribute o f pos')) pos.line X.env=pure false):PS X (.Assign [.Attribute o f pos'] value pos) (uu X.K ta tv f):=by
 intro pins s σ H D I h;refine plainObj_wpAny_Assign_Attribute (thn (hv pins s σ H _ I h) fun u s1 ⟨y,H1,I1,ry,q⟩=>thn (ha pins s1 σ H1 _ I1 q) fun ov s2 ⟨x,H2,I2,rx,a,C,dx,fs,ex,ea,c,n,l,q2⟩=>?_) hs;subst ex;obtain rfl:ov=Value.ref a:=rx;exact XW I2 ea c n l ry fun s3 I3=>⟨σ,_,I3,q2⟩
end
section
variable {X:Cx}{pins:List (Addr×Obj)}{σ:St}{H:Hp}{s:Shared}{A:Around}{E:Value->Shared->Prop}{Q:Value->Shared->Prop}{c:Value}{b:Bool}
inductive TyOf (K:jJa) (H:Hp):V->Value->Prop where
 | non:TyOf K H .non (.type "NoneType")
 | bl (x:Bool):TyOf K H (.bl x) (.type "bool")
 | int (i:Int):TyOf K H (.int i) (.type "int")
 | str (x:Str):TyOf K H (.str x) (.type "str")
 | flt (x:UInt64):TyOf K H (.flt x) (.type "float")
 | lst {a:Addr} {xs:List V} (e:H a=some (.lst xs)):TyOf K H (.ref a) (.type "list")
 | frz {a:Addr} {o:Obj} {xs:List V} (e:H a=some (.frz o (.lst xs))):TyOf K H (.ref a) (.type "list")
 | tup {a:Addr} {xs:List V} (e:H a=some (.tup xs)):TyOf K H (.ref a) (.type "tuple")
 | dK {a:Addr} {kvs:List (Key×V)} (e:H a=some (.dK kvs)):TyOf K H (.ref a) (.type "dict")
 | dT {a:Addr} {kvs:List (List Key×V)} (e:H a=some (.dT kvs)):TyOf K H (.ref a) (.type "dict")
 | ins {a C dx:Addr} {fs:List (Str×V)} (e:H a=some (.ins C dx fs)) (cl:Cls K C) (ha:jJc K (.ref C) "__class__"=some (some (.builtin "object.__class__")))
   (hn:jJv K (.builtin "object.__class__") "__get__"=some (some (.builtin "getset_descriptor.__get__"))) (htk:PySem.W.takesIn K (.builtin "object.__class__")=some true)
   (hm:jJw K C (.type "object")=some true):TyOf K H (.ref a) (.ref C)
def wL {x:V}{u t:Value}(I:Inv X pins σ H s)(rx:RelV x u)(ty:TyOf X.K H x t)(e:jJi X.K t c=some b)(h:∀tk,Q (.bool b) { s with toks:=tk }):
  wpAny (model X.prog X.w) A (call (.builtin "isinstance") [u,c]) Q E s:=by
 cases ty with
 | non=>cases (show u=Value.none from rx);exact jJd PySem.W.kitx_none I.kIn True.intro e (fun z=>nomatch z) h
 | bl y=>cases (show u=Value.bool y from rx);exact jJd PySem.W.kitx_bool I.kIn True.intro e (fun z=>nomatch z) h
 | int i=>obtain⟨t,q⟩:=(show ∃t,u=Value.int i t from rx);cases q;exact jJd PySem.W.kitx_int I.kIn True.intro e (fun z=>nomatch z) h
 | str y=>obtain⟨t,q⟩:=(show ∃t,u=Value.str y t from rx);cases q;exact jJd PySem.W.kitx_str I.kIn True.intro e (fun z=>nomatch z) h
 | flt y=>obtain⟨t,q⟩:=(show ∃t,u=Value.float y t from rx);cases q;exact jJd PySem.W.kitx_float I.kIn True.intro e (fun z=>nomatch z) h
 | @lst a xs ea =>
  cases (show u=Value.ref a from rx);obtain⟨_,_,n,_,h1⟩:=(show ObjOk X.prog X.w H s.heap a (.lst xs) from I.hok a _ ea)
  exact jJd jJx I.kIn ⟨_,h1,rfl⟩ e (fun z=>nomatch z) h
 | @frz a ob xs ea =>
  cases (show u=Value.ref a from rx);obtain⟨_,_,_,n,_,h1⟩:=(show ObjOk X.prog X.w H s.heap a (.frz ob (.lst xs)) from I.hok a _ ea)
  exact jJd jJx I.kIn ⟨_,h1,rfl⟩ e (fun z=>nomatch z) h
 | @tup a xs ea =>
  cases (show u=Value.ref a from rx);obtain⟨_,_,_,p⟩:=(show ObjOk X.prog X.w H s.heap a (.tup xs) from I.hok a _ ea)
  obtain⟨o,h1,h2,_⟩:=p;exact jJd jJ6 I.kIn ⟨o,h1,h2⟩ e (fun z=>nomatch z) h
 | @dK a kvs ea =>
  cases (show u=Value.ref a from rx);obtain⟨_,_,vs,_,p⟩:=(show ObjOk X.prog X.w H s.heap a (.dK kvs) from I.hok a _ ea)
  obtain⟨o,es,ep,h1,h2,_⟩:=p;exact jJd PySem.W.kitx_dict I.kIn ⟨o,h1,h2.1⟩ e (fun z=>nomatch z) h
 | @dT a kvs ea =>
  cases (show u=Value.ref a from rx);obtain⟨_,_,xs,_,o,es,ep,h1,h2,_⟩:=(show ObjOk X.prog X.w H s.heap a (.dT kvs) from I.hok a _ ea)
  exact jJd PySem.W.kitx_dict I.kIn ⟨o,h1,h2.1⟩ e (fun z=>nomatch z) h
 | @ins a C dx fs ea cl ha hn htk hm =>
  cases (show u=Value.ref a from rx);obtain⟨mA,O,_⟩:=jk I.hok ea;obtain⟨od,J,_⟩:=O.look;exact jJd (PySem.W.kitx_own (cl.get _) cl.hd ha hn htk hm) I.kIn J e (fun z=>nomatch z) h
end
structure Room (k:Nat)(A:Around):Prop where
 hd:A.handled=none
 dp:A.depth+3*k+5<recursionLimit
 un:A.units+16*k+200<cLine
theorem Room.mono {j k:Nat}{A:Around}(r:Room k A)(h:j<=k):Room j A:=⟨r.hd,by have:=r.dp;omega,by have:=r.un;omega⟩
theorem Room.deeper {k:Nat}{A:Around}(r:Room (k+1) A)(env:Env):Room k (A.deeper env):=
 ⟨r.hd,by have:=r.dp;show A.depth+1+3*k+5<_;omega,by have:=r.un;show A.units+3+16*k+200<_;omega⟩
theorem Room.in1 {k:Nat}{A:Around}(r:Room (k+1) A):Room k A.in1:=
 ⟨r.hd,by have:=r.dp;show A.depth+3*k+5<_;omega,by have:=r.un;show A.units+1+16*k+200<_;omega⟩
def Wc {A:Around}{C:Addr}{us:List Value}{kw:List (Str×Value)}:(A.under (.builtin "type.__call__" ⟨.ref C::us,kw⟩)).depth=A.depth+1:=by
 first|rfl|simp[Around.under,Code.weight,Code.isCreation,Code.isGuard,Code.isCaller,Code.frames,Code.isFrame,guardIds]
def XE {A:Around}{C:Addr}{us:List Value}{kw:List (Str×Value)}:(A.under (.builtin "type.__call__" ⟨.ref C::us,kw⟩)).units=A.units+1:=by
 first|rfl|simp[Around.under,Code.cUnits,Code.frames,Code.isFrame]
theorem Room.make {k:Nat}{A:Around}(r:Room (k+1) A)(C:Addr)(us:List Value)(kw:List (Str×Value)):Room k (A.under (.builtin "type.__call__" ⟨.ref C::us,kw⟩)):=
 ⟨r.hd,by have:=r.dp;rw[Wc];omega,by have:=r.un;rw[XE];omega⟩
theorem Room.depth {k:Nat}{A:Around}(r:Room k A):A.depth<recursionLimit:=by have:=r.dp;omega
def Room.units0 {k:Nat}{A:Around}(r:Room k A):A.units<cLine:=by have:=r.un;omega
def ZF:TA:=fun _ H Q=>Q [] H
def qw (ta:TE)(tr:TA):TA:=fun σ H Q=>ta σ H fun x H1=>tr σ H1 fun xs H2=>Q (x::xs) H2
section
variable {X:Cx}{e:Expr}{es:List Expr}{te:TE}{t:TA}{pos:Pos}
def vV:PA X [] ZF:=fun _ _ _ _ H Q I h=>Calls.spliced_nil ⟨[],H,I,.nil,h⟩
def wI (ha:PE X e te)(hr:PA X es t)(hs:autoParam (starEach (e::es) X.env=(false,eval e X.env)::starEach es X.env) au3._auto_1):PA X (e::es) (qw te t):=by
 intro pos pins s σ H Q I h;rw[hs];show wpAny _ _ (spliced ((false,eval e X.env)::backTo pos (starEach es X.env))) _ _ s;refine Calls.spliced_cons (thn (ha pins s σ H _ I h) fun u s1 ⟨x,H1,I1,r1,q1⟩=>?_);exact thn (hr pos pins s1 σ H1 _ I1 q1) fun us s2 ⟨xs,H2,I2,r2,q2⟩=>⟨x::xs,H2,I2,.cons r1 r2,q2⟩
def z20 (t:TA):TE:=fun σ H Q=>t σ H fun xs H1=>xs.length<=sizeLine/\∀p,H1 p=none->Q (.ref p) (upd H1 p (.tup xs))
def Yv (t:TA):TE:=fun σ H Q=>t σ H fun xs H1=>xs.length<=sizeLine/\∀p,H1 p=none->Q (.ref p) (upd H1 p (.lst xs))
def QC {x1}(h:PA X es t):PE X (.Tuple es x1 pos) (z20 t):=by
 intro pins s σ H Q I hq;refine wpAny_Tuple_spliced (thn (h pos pins s σ H _ I hq) fun us s1 ⟨xs,H1,I1,r,z,q⟩=>⟨by rw[<-r.length];exact z,?_⟩);have hf:H1 s1.heap.objs.size=none:=I1.hok.fresh (tQ _);refine⟨.ref s1.heap.objs.size,upd H1 s1.heap.objs.size (.tup xs),I1.laid (t':=s1.toks) (fun b u e=>jYb _ e) (tQ _) ?_,rfl,q _ hf⟩;exact⟨z,us,r,TupN.new _ _⟩
def XC (h:PA X es t):PE X (.List es pos) (Yv t):=by
 intro pins s σ H Q I hq;refine wpAny_List_spliced (thn (h pos pins s σ H _ I hq) fun us s1 ⟨xs,H1,I1,r,z,q⟩=>⟨by rw[<-r.length];exact z,?_⟩);have hf:H1 s1.heap.objs.size=none:=I1.hok.fresh (tQ _);refine⟨.ref s1.heap.objs.size,upd H1 s1.heap.objs.size (.lst xs),I1.laid (t':=s1.toks) (fun b u e=>jYb _ e) (tQ _) ?_,rfl,q _ hf⟩;exact⟨z,us,0,r,jYd _ rfl⟩
end
abbrev Sp:=List V->Hp->VK->XK->Prop
abbrev CXT:=List Env->Hp->Shared->XK->Value->Shared->Prop
structure Env0 (P:Program)(w:World)(K:jJa)(mg:Str->Option Value)(base:Heap)(A:Around)(outer:List Env)(s:Shared)(H:Hp):Prop where
 frames:A.frames=some outer
 mod:Mod K mg base
 bs:∀b o,base.get? b=some o->s.heap.get? b=some o/\H b=none
 bsz:base.objs.size<=s.heap.objs.size
 funs:s.heap.FunFrames base outer
 frf:∀b∈frs outer,H b=none
 hok:HOk P w H s.heap
 bare:AllBare s.gens
def CE (outer:List Env)(P:Program)(w:World)(H:Hp)(s:Shared)(Q:VK)(u:Value)(s':Shared):Prop:=
 ∃v H',s'.os=s.os/\AllBare s'.gens/\Un (frs outer) [] H H' s.heap s'.heap/\HOk P w H' s'.heap/\RelV v u/\Q v H'
def CR (CX:CXT)(outer:List Env)(P:Program)(w:World)(H:Hp)(s:Shared)(Q:VK)(E:XK)(r:Result)(s':Shared):Prop:=
 match r with
 | .ok (.ret u)=>CE outer P w H s Q u s'
 | .ok _=>False
 | .error e=>CX outer H s E e s'
structure FnOk (P:Program)(w:World)(K:jJa)(mg:Str->Option Value)(base:Heap)(CX:CXT)(k:Nat)(f:Addr)(fd:FuncData)(ps:List Str)(sp:Sp):Prop where
 len:∀vs H Q E,sp vs H Q E->vs.length=ps.length
 run:∀(A:Around) (outer:List Env) (s:Shared) (H:Hp) (args:Args) (us:List Value) (vs:List V) (Q:VK) (E:XK),Room k A->Env0 P w K mg base A outer s H->BindsTo s fd args (ps.zip us)->Vals vs us->sp vs H Q E ->
  codeAny (model P w) A (.call (.ref f) args) (CR CX outer P w H s Q E) s
theorem FnOk.mono {P:Program}{w:World}{K:jJa}{mg:Str->Option Value}{base:Heap}{CX:CXT}{j k:Nat}{f:Addr}{fd:FuncData}{ps:List Str}{sp:Sp}(F:FnOk P w K mg base CX j f fd ps sp)(h:j<=k):
  FnOk P w K mg base CX k f fd ps sp:=⟨F.len,fun A outer s H args us vs Q E hr=>F.run A outer s H args us vs Q E (hr.mono h)⟩
theorem Env0.make {P:Program}{w:World}{K:jJa}{mg:Str->Option Value}{base:Heap}{A:Around}{outer:List Env}{s:Shared}{H:Hp}(e:Env0 P w K mg base A outer s H)(C:Addr)(us:List Value)(kw:List (Str×Value)):
  Env0 P w K mg base (A.under (.builtin "type.__call__" ⟨.ref C::us,kw⟩)) outer s H:=⟨by first|exact e.frames|(simpa [Around.under,Code.envs,Code.isFrame,pushEnvs] using e.frames),e.mod,e.bs,e.bsz,e.funs,e.frf,e.hok,e.bare⟩
section
variable {X:Cx}{pins:List (Addr×Obj)}{σ:St}{H:Hp}{s s':Shared}
theorem Inv.env0 (I:Inv X pins σ H s):Env0 X.prog X.w X.K X.mg X.base X.A X.stack s H:=
 ⟨I.ok.frames,I.ok.mod,I.bs,sT I.ok.bsz I.sz,I.stack,I.stkFree,I.hok,I.bare⟩
def Inv.after {Q:VK}{u:Value}(I:Inv X pins σ H s)(h:CE X.stack X.prog X.w H s Q u s'):EP X pins σ Q u s':=by
 obtain⟨v,H',os,bare,un,hok,r,q⟩:=h;obtain⟨hh,g,d,t,os'⟩:=s';obtain rfl:os'=s.os:=os;exact⟨v,H',I.call (h':=hh) (g':=g) (d':=d) (t':=t) (ch:=[]) un hok bare (fun b z=>absurd z (by simp)),r,q⟩
end
def Ql (sp:Sp)(dvs:List V)(E:XK)(t:TA):TE:=fun σ H Q=>t σ H fun vs H1=>sp (vs++dvs) H1 Q E
def Ww (C:Addr)(m:Str)(sp:Sp)(dvs:List V)(E:XK)(ta:TE)(t:TA):TE:=fun σ H Q=>ta σ H fun x H1=>∃a dx fs,x=.ref a/\H1 a=some (.ins C dx fs)/\fs.lookup m=none /\
 t σ H1 fun vs H2=>sp (x::(vs++dvs)) H2 Q E
def Ja (C:Addr)(sp:Sp)(dvs:List V)(E:XK)(t:TA):TE:=fun σ H Q=>t σ H fun vs H1=>∀x dx,H1 x=none->H1 dx=none->dx≠x ->
 sp (.ref x::(vs++dvs)) (upd (upd H1 dx (.own x)) x (.ins C dx [])) (fun v H2=>v=.non/\Q (.ref x) H2) E
def Binds (K:jJa)(fd:FuncData)(ps:List Str)(ds:List Value):Prop:=
 ∀(s:Shared) (us:List Value),K.In s.heap->(us++ds).length=ps.length->BindsTo s fd ⟨us,[]⟩ (ps.zip (us++ds))
theorem Binds.all {K:jJa}{fd:FuncData}{ps:List Str}(h:∀us:List Value,us.length=ps.length->bindArgs fd ⟨us,[]⟩=pure (ps.zip us)):Binds K fd ps []:=fun s us _ hl=>by
 rw[tY]at hl ⊢;exact .of_eq (h us hl)
def xl (CX:CXT)(X:Cx)(E:XK):Prop:=∀(pins:List (Addr×Obj)) (σ:St) (H:Hp) (s:Shared) (e:Value) (s':Shared),Inv X pins σ H s->CX X.stack H s E e s'->X.xe e s'
section
variable {X:Cx}{CX:CXT}{k:Nat}{f C:Addr}{fd:FuncData}{ps:List Str}{sp:Sp}{dvs:List V}{ds:List Value}{E:XK}{x m:Str}{p pos apos:Pos}{e o:Expr}{es:List Expr}{ta:TE}{t:TA}
def Zv {pins:List (Addr×Obj)}{σ:St}{H:Hp}{s:Shared}{Q:VK}{us:List Value}{vs:List V}(F:FnOk X.prog X.w X.K X.mg X.base CX k f fd ps sp)(hr:Room k X.A)(hb:Binds X.K fd ps ds)(hd:Vals dvs ds)(hx:xl CX X E)
  (I:Inv X pins σ H s) (r:Vals vs us) (h:sp (vs++dvs) H Q E):wpAny (model X.prog X.w) X.A (call (.ref f) us) (EP X pins σ Q) X.xe s:=by
 have r2:Vals (vs++dvs) (us++ds):=r.append hd;have hl:(us++ds).length=ps.length:=by rw[<-r2.length];exact F.len _ _ _ _ h
 refine wpAny_call (codeAny_mono (F.run X.A X.stack s H ⟨us,[]⟩ (us++ds) (vs++dvs) Q E hr I.env0 (hb s us I.kIn hl) r2 h) fun r s' hq=>?_);cases r with
 | error e=>exact hx pins σ H s e s' I hq
 | ok fl =>
  cases fl with
  | ret u=>exact I.after hq
  | next=>exact False.elim hq
  | brk=>exact False.elim hq
  | cont=>exact False.elim hq
def JE (F:FnOk X.prog X.w X.K X.mg X.base CX k f fd ps sp)(hr:Room k X.A)(hg:Gl X x)(hm:X.mg x=some (.ref f))(hk:jJh X.K (.ref f)=true)(hb:Binds X.K fd ps ds)(hd:Vals dvs ds)(hx:xl CX X E)
  (ha:PA X (e::es) t) (hdb:autoParam ((x==("__debug__":Str))=false) au1._auto_1) (he:autoParam (starEach (e::es) X.env=(false,eval e X.env)::starEach es X.env) au3._auto_1) (hpl:autoParam ((backTo pos (starEach es X.env)).any (·.1)=false) au3._auto_1):
  PE X (.Call (.Name x p) (e::es) [] pos) (Ql sp dvs E t):=by
 intro pins s σ H Q I h;refine wpAny_Call_Name_kw (Y1 I hg hm ?_ hdb);refine jJj (h₀:=X.base) I.ok.mod.kin hk (thn (ha pos pins s σ H _ I h) fun us s1 ⟨vs,H1,I1,r,q⟩=>⟨I1.kIn,?_⟩) he hpl;exact Zv F hr hb hd hx I1 r q
def Jn {pl:Sem Bool}(he:PE X o ta)(c:Cls X.K C)(hm:Meth X.K C m f)(F:FnOk X.prog X.w X.K X.mg X.base CX k f fd ps sp)(hr:Room k X.A)(hb:Binds X.K fd ps ds)(hd:Vals dvs ds)(hx:xl CX X E)(ha:PA X (e::es) t)
  (hst:autoParam (starEach (e::es) X.env=(false,eval e X.env)::starEach es X.env) au3._auto_1) (hpl:autoParam ((backTo pos (starEach es X.env)).any (·.1)=false) au3._auto_1)
  (ht:autoParam (eval (.Call (.Attribute o m apos) (e::es) [] pos) X.env=(do
   let ov <-eval o X.env
   standAt apos.atName
   let (f,first) <-holding [ov] (getMethod ov m pl)
   callWith pos f first (backTo pos (starEach (e::es) X.env)) (backToKw pos (keywordEach [] X.env)))) au3._auto_1):
  PE X (.Call (.Attribute o m apos) (e::es) [] pos) (Ww C m sp dvs E ta t):=by
 intro pins s σ H Q I h;refine jJ8 (pl:=pl) (thn (he pins s σ H _ I h) fun u s1 ⟨x,H1,I1,rx,a,dx,fs,ex,ea,l,q⟩=>?_) ht;subst ex;obtain rfl:u=Value.ref a:=rx;refine jH I1 ea c hm l ?_;refine jJj (first:=[.ref a]) (h₀:=X.base) I.ok.mod.kin hm.kp (thn (ha pos pins s1 σ H1 _ I1 q) fun us s2 ⟨vs,H2,I2,r,q2⟩=>⟨I2.kIn,?_⟩) hst hpl;exact Zv (us:=.ref a::us) (vs:=.ref a::vs) F hr hb hd hx I2 (.cons rfl r) q2
structure Mk (K:jJa)(C f:Addr):Prop where
 makes:PySem.W.makesIn K C=true
 init:jJc K (.ref C) "__init__"=some (some (.ref f))
 fn:jJt K (.ref f)=true
 kp:jJh K (.ref C)=true
def J2 {pins:List (Addr×Obj)}{σ:St}{H:Hp}{s:Shared}{Q:VK}{us:List Value}{vs:List V}(M:Mk X.K C f)(F:FnOk X.prog X.w X.K X.mg X.base CX k f fd ps sp)(hr:Room (k+1) X.A)(hb:Binds X.K fd ps ds)(hd:Vals dvs ds)
  (hx:xl CX X E) (I:Inv X pins σ H s) (r:Vals vs us)
  (h:∀x dx,H x=none->H dx=none->dx≠x->sp (.ref x::(vs++dvs)) (upd (upd H dx (.own x)) x (.ins C dx [])) (fun v H2=>v=.non/\Q (.ref x) H2) E):
  wpAny (model X.prog X.w) X.A (call (.ref C) us) (EP X pins σ Q) X.xe s:=by
 have hq:=h (s.heap.objs.size+1) s.heap.objs.size (I.hok.fresh (pC _)) (I.hok.fresh (tQ _)) (sL (pX _));have I2:=Inv.made (C:=C) I;have r2:Vals (V.ref (s.heap.objs.size+1)::(vs++dvs)) (Value.ref (s.heap.objs.size+1)::(us++ds)):=.cons rfl (r.append hd);have hl:(Value.ref (s.heap.objs.size+1)::us++ds).length=ps.length:=by
  have e:=r2.length;rw[F.len _ _ _ _ hq]at e;exact e.symm
 refine wpAny_call (UT (f:=f) I.kIn M.makes M.init (beq_iff_eq.mp M.fn) (codeAny_mono (F.run _ X.stack _ _ ⟨Value.ref (s.heap.objs.size+1)::us,[]⟩ (Value.ref (s.heap.objs.size+1)::(us++ds)) _ _ E (hr.make C us [])
  (I2.env0.make C us []) (hb _ (Value.ref (s.heap.objs.size+1)::us) I2.kIn hl) r2 hq) fun r s' hq'=>?_))
 cases r with
 | error e=>exact hx pins σ _ _ e s' I2 hq'
 | ok fl =>
  cases fl with
  | ret u =>
   obtain⟨v,H',I3,rv,ev,q3⟩:=I2.after hq';subst ev;exact⟨rv,⟨V.ref (s.heap.objs.size+1),H',I3,rfl,q3⟩⟩
  | next=>exact False.elim hq'
  | brk=>exact False.elim hq'
  | cont=>exact False.elim hq'
def JA (M:Mk X.K C f)(F:FnOk X.prog X.w X.K X.mg X.base CX k f fd ps sp)(hr:Room (k+1) X.A)(hg:Gl X x)(hm:X.mg x=some (.ref C))(hb:Binds X.K fd ps ds)(hd:Vals dvs ds)(hx:xl CX X E)
  (ha:PA X (e::es) t) (hdb:autoParam ((x==("__debug__":Str))=false) au1._auto_1) (he:autoParam (starEach (e::es) X.env=(false,eval e X.env)::starEach es X.env) au3._auto_1) (hpl:autoParam ((backTo pos (starEach es X.env)).any (·.1)=false) au3._auto_1):
  PE X (.Call (.Name x p) (e::es) [] pos) (Ja C sp dvs E t):=by
 intro pins s σ H Q I h;refine wpAny_Call_Name_kw (Y1 I hg hm ?_ hdb);refine jJj (h₀:=X.base) I.ok.mod.kin M.kp (thn (ha pos pins s σ H _ I h) fun us s1 ⟨vs,H1,I1,r,q⟩=>⟨I1.kIn,?_⟩) he hpl;exact J2 M F hr hb hd hx I1 r q
end
section
variable {X:Cx}{CX:CXT}{k:Nat}{f C:Addr}{fd:FuncData}{ps ks:List Str}{sp:Sp}{E:XK}{x m:Str}{p pos apos kpos:Pos}{e o:Expr}{es:List Expr}{kws:List Keyword}{te ta:TE}{t tk:TA}{nm:Option Str}
structure KBinds (K:jJa)(fd:FuncData)(ps ks:List Str)(g:List Value->List Value->List Value)(gV:List V->List V->List V):Prop where
 to:∀(s:Shared) (us ws:List Value),K.In s.heap->(g us ws).length=ps.length->BindsTo s fd ⟨us,ks.zip ws⟩ (ps.zip (g us ws))
 rel:∀ {vs:List V} {us:List Value} {zs:List V} {ws:List Value},Vals vs us->Vals zs ws->Vals (gV vs zs) (g us ws)
variable {g:List Value->List Value->List Value}{gV:List V->List V->List V}
end
structure FnScope (N P:List Str)(sc:Scope):Prop where
 kind:sc.kind=.function
 co:sc.isCoroutine=false
 gen:sc.isGenerator=false
 nd:N.Nodup
 pre:N.take P.length=P
 par:∀x∈P,sc.names.lookup x=some .local\/sc.names.lookup x=some .cell
 nofree:∀y∈sc.names,y.2≠.free
theorem Z5 {kindOf:Str->Option NameKind}{x:Str}:∀ {binds:List (Str×Value)} {m:Str->Option Value},(∀v,(x,v)∉binds)->bindL kindOf binds m x=m x
 | [],_,_=>rfl
 | (n,v)::r,m,h=>by
  unfold bindL;rw[Z5 fun w hw=>h w (tW _ hw)];split
  ·have:x≠n:=by rintro rfl;exact h v tU
   simp[this]
  ·rfl
theorem Z3 {kindOf:Str->Option NameKind}{x:Str}:∀ {binds:List (Str×Value)} {m:Str->Option Value},(∀v,(x,v)∉binds)->bindC kindOf binds m x=m x
 | [],_,_=>rfl
 | (n,v)::r,m,h=>by
  unfold bindC;rw[Z3 fun w hw=>h w (tW _ hw)];split
  ·rfl
  ·have:x≠n:=by rintro rfl;exact h v tU
   simp[this]
theorem kT {kindOf:Str->Option NameKind}{x:Str}{v:Value}:∀ {P:List Str} {vs:List Value} {i:Nat} {m:Str->Option Value},P.Nodup->P[i]?=some x->vs[i]?=some v->kindOf x=some .local ->
  bindL kindOf (P.zip vs) m x=some v
 | [],_,_,_,_,h,_,_=>by simp at h
 | _::_,[],_,_,_,_,h,_=>by simp at h
 | p::P,w::vs,0,m,nd,h1,h2,hk=>by
  simp at h1 h2;subst h1;subst h2;show bindL kindOf ((p,w)::P.zip vs) m p=_;unfold bindL;rw[Z5 fun v hv=>(sW.mp nd).1 (List.of_mem_zip hv).1,if_pos hk];simp
 | p::P,w::vs,i+1,m,nd,h1,h2,hk=>by
  show bindL kindOf ((p,w)::P.zip vs) m x=_;unfold bindL;exact kT (i:=i) (sW.mp nd).2 (by simpa using h1) (by simpa using h2) hk
theorem Zf {kindOf:Str->Option NameKind}{x:Str}{v:Value}:∀ {P:List Str} {vs:List Value} {i:Nat} {m:Str->Option Value},P.Nodup->P[i]?=some x->vs[i]?=some v->kindOf x≠some .local ->
  bindC kindOf (P.zip vs) m x=some v
 | [],_,_,_,_,h,_,_=>by simp at h
 | _::_,[],_,_,_,_,h,_=>by simp at h
 | p::P,w::vs,0,m,nd,h1,h2,hk=>by
  simp at h1 h2;subst h1;subst h2;show bindC kindOf ((p,w)::P.zip vs) m p=_;unfold bindC;rw[Z3 fun v hv=>(sW.mp nd).1 (List.of_mem_zip hv).1,if_neg hk];simp
 | p::P,w::vs,i+1,m,nd,h1,h2,hk=>by
  show bindC kindOf ((p,w)::P.zip vs) m x=_;unfold bindC;exact Zf (i:=i) (sW.mp nd).2 (by simpa using h1) (by simpa using h2) hk
def start (N:List Str)(vs:List V):St:=vs.map some++List.replicate (N.length-vs.length) none
def wu (CX:CXT)(P:Program)(w:World)(K:jJa)(mg:Str->Option Value)(base:Heap)(N:List Str)(qual:Str)(scope:Scope)(f:Addr)(cd:Value)(A:Around)(outer:List Env)(s:Shared)(H:Hp)(E:XK):Cx where
 prog:=P
 w:=w
 K:=K
 mg:=mg
 base:=base
 A:=A.deeper (envOfC qual scope s.heap.objs.size f cd)
 N:=N
 s₀:=s
 H₀:=H
 env:=envOfC qual scope s.heap.objs.size f cd
 outer:=outer
 stack:=envOfC qual scope s.heap.objs.size f cd::outer
 ex:=[]
 calm:=true
 fn:=fun _=>true
 pn:=[]
 xe:=fun e s'=>wpAny (model P w) (A.deeper (envOfC qual scope s.heap.objs.size f cd)) (leaving (envOfC qual scope s.heap.objs.size f cd) e) (fun _ s''=>CX outer H s E e s'') (fun e' s''=>CX outer H s E e' s'') s'
def kj {sc:Scope}{n:Nat}{x:Str}(h:sc.names.lookup x=some .cell):∃c,(cellsFrom n sc.names []).lookup x=some c:=by
 have q:=jJy sc.names n [] (.inl h);exact Option.isSome_iff_exists.mp q
def Z6 {CX:CXT}{P:Program}{w:World}{K:jJa}{mg:Str->Option Value}{base:Heap}{N ps:List Str}{qual:Str}{scope:Scope}{f:Addr}{cd:Value}{A:Around}{outer:List Env}{s s1:Shared}{H:Hp}{E:XK}{us:List Value}{vs:List V}
  (S:FnScope N ps scope) (hd:A.handled=none) (e0:Env0 P w K mg base A outer s H) (hl:vs.length=ps.length) (r:Vals vs us)
  (x:InCallC s s.heap.objs.size (bindL (envOfC qual scope s.heap.objs.size f cd).kindOf (ps.zip us) fun _=>none) (cellsFrom (s.heap.objs.size+1) scope.names []) (bindC (envOfC qual scope s.heap.objs.size f cd).kindOf (ps.zip us) fun _=>none) s1):
  Inv (wu CX P w K mg base N qual scope f cd A outer s H E) [] (start N vs) H s1:=by
 have hpl:ps.length<=N.length:=by have:=congrArg List.length S.pre;rw[rE]at this;omega
 obtain⟨h1,tk,rfl,hk⟩:=x.done;have noA:∀b:Addr,b∉(wu CX P w K mg base N qual scope f cd A outer s H E).ex:=fun b z=>absurd (show b∈([]:List Addr) from z) (by simp);refine⟨⟨e0.mod,S.kind,rfl,rfl,tQ _,fun y z c h1 h2=>?_,fun y hy=>?_,fun y c _ h=>?_,fun _=>hd,Around.frames_deeper e0.frames,.inr ⟨rfl,rfl⟩,fun b z=>absurd z (noA b),e0.bs,e0.bsz,fun b _ _=>noA b,fun b z=>absurd z (noA b),e0.funs,e0.frf⟩,
  rfl,e0.bare,Un.kept hk,⟨_,x.toInCall.ns,fun i y v h1 h2 h3=>?_⟩,fun y c h=>⟨_,x.cell y c h⟩,e0.hok.fresh (tQ _),fun y c h=>?_,fun p hp=>absurd (show p∈([]:List (Addr×Obj)) from hp) (by simp),e0.hok.kept hk,?_⟩
 ·exact name_of_addr x.apart (PySem.mem_of_lookup h1) (PySem.mem_of_lookup h2)
 ·have hy:scope.names.lookup y=some .cell\/scope.names.lookup y=some .free:=hy;rcases hy with hy|hy
  ·exact kj hy
  ·exact absurd rfl (S.nofree _ (PySem.mem_of_lookup hy))
 ·exact pZ (x.above y c (PySem.mem_of_lookup h))
 ·have hi:i<vs.length:=by
   unfold start at h2
   by_cases hi:i<vs.length
   ·exact hi
   ·rw[pA (by simpa using hi)]at h2;rw[gE]at h2;split at h2<;>cases h2
  have ha:vs[i]?=some v:=by
   unfold start at h2;rw[pD (by simpa using hi),sJ]at h2;cases e:vs[i]? with
   | none=>rw[e]at h2;cases h2
   | some a=>rw[e]at h2;cases h2;rfl
  obtain⟨u,hu,rv⟩:=r.get ha;have hp:ps[i]?=some y:=by
   rw[<-S.pre,hV (by omega)];exact h1
  have ndP:ps.Nodup:=by rw[<-S.pre];exact S.nd.sublist (List.take_sublist _ _)
  refine⟨u,rv,?_⟩;rcases S.par y (pU hp)with k|k
  ·exact .inl ⟨k,kT ndP hp hu k⟩
  ·obtain⟨c,e⟩:=kj (n:=s.heap.objs.size+1) k;refine .inr ⟨.inl k,c,e,?_⟩;have q:=x.cell y c e;rw[Zf ndP hp hu (by show scope.names.lookup y≠_;rw[k];decide)]at q;exact q
 ·exact e0.hok.fresh (pZ (x.above y c (PySem.mem_of_lookup h)))
 ·unfold start;show _=N.length;rw[tT,tM,rD];omega
def WJ {CX:CXT}{P:Program}{w:World}{K:jJa}{mg:Str->Option Value}{base:Heap}{k:Nat}{f:Addr}{name qual:Str}{params:Arguments}{body:List Stmt}{scope:Scope}{dV kV doc pm cdv ct oc:Value}{an od:Option Addr}
  {osl:Array (Option Value)} {N ps:List Str} {sp:Sp} (lk:K.lookup f=some ⟨oc,od,.func (jJb name qual params body scope dV kV doc pm an cdv ct),osl⟩) (hcd:jJf K cdv qual=true) (S:FnScope N ps scope)
  (len:∀vs H Q E,sp vs H Q E->vs.length=ps.length)
  (hbody:∀(A:Around) (outer:List Env) (s:Shared) (H:Hp) (vs:List V) (Q:VK) (E:XK),Room k (A.deeper (envOfC qual scope s.heap.objs.size f cdv))->sp vs H Q E ->
   ∃t,PSs (wu CX P w K mg base N qual scope f cdv A outer s H E) body t/\t { nx:=fun _ H'=>Q .non H',rt:=Q } (start N vs) H):
  FnOk P w K mg base CX (k+1) f (jJb name qual params body scope dV kV doc pm an cdv ct) ps sp:=by
 refine⟨len,fun A outer s H args us vs Q E hr e0 hb r hsp=>?_⟩;have hl:=len _ _ _ _ hsp;have KX:K.In s.heap:=e0.mod.kin.keeps fun b o e=>(e0.bs b o e).1;have lim:s.heap.NoLimit:=e0.mod.nolimit.keeps fun b o e=>(e0.bs b o e).1;have hkind:∀y∈ps.zip us,scope.names.lookup y.1=some .local\/(scope.names.lookup y.1=some .cell/\((cellsFrom (s.heap.objs.size+1) scope.names []).lookup y.1).isSome=true):=fun⟨n,v⟩ hy=>by
  rcases S.par n (List.of_mem_zip hy).1 with q|q
  ·exact .inl q
  ·exact .inr ⟨q,jJy _ _ _ (.inl q)⟩
 refine codeAny_call_function hr.depth (KX _ _ lk) rfl S.co S.gen rfl (PySem.W.codeRec_of KX hcd) (hb _ _ _ _ ?_);refine wpAny_newFunctionEnv_cells S.kind hkind fun env he s1 x=>?_;subst he;refine⟨lim.keeps x.toInCall.keep,codeAny_func ?_⟩;obtain⟨t,ht,hq⟩:=hbody A outer s H vs Q E (hr.deeper _) hsp;have I:Inv (wu CX P w K mg base N qual scope f cdv A outer s H E) [] (start N vs) H s1:=Z6 S hr.hd e0 hl r x;refine wpAny_mono (ht [] s1 (start N vs) H _ I hq) (fun fl s' hs=>?_) fun e s' hs=>hs;have fin:∀ {σ':St} {H':Hp} {v:V} {u:Value},Inv (wu CX P w K mg base N qual scope f cdv A outer s H E) [] σ' H' s'->RelV v u->Q v H'->CE outer P w H s Q u s' :=
  fun {σ' H' v u} J rv q=>⟨v,H',J.os,J.bare,J.base,J.hok,rv,q⟩
 cases fl with
 | ret u =>
  obtain⟨v,σ',H',J,rv,q⟩:=hs;exact fin J rv q
 | next =>
  obtain⟨σ',H',J,q⟩:=hs;exact fin (v:=V.non) (u:=Value.none) J rfl q
 | brk =>
  obtain⟨_,_,_,q⟩:=hs;exact False.elim q
 | cont =>
  obtain⟨_,_,_,q⟩:=hs;exact False.elim q
section
variable {X:Cx}{x:Str}{p pos:Pos}{e:Expr}{es:List Expr}{t:TA}{id T:String}{r:List V->Hp->VK->Prop}
def tCB (r:List V->Hp->VK->Prop)(t:TA):TE:=fun σ H Q=>t σ H fun vs H1=>r vs H1 Q
def YE (hc:CallR X (.builtin id) r)(hg:Gl X x)(hm:X.mg x=none)(hv:bootBuiltins x=some (.builtin id))(ha:PA X (e::es) t)(hn:autoParam (x≠"__name__") au1._auto_1)(hdb:autoParam ((x==("__debug__":Str))=false) au1._auto_1)
  (he:autoParam (starEach (e::es) X.env=(false,eval e X.env)::starEach es X.env) au3._auto_1) (hpl:autoParam ((backTo pos (starEach es X.env)).any (·.1)=false) au3._auto_1):PE X (.Call (.Name x p) (e::es) [] pos) (tCB r t):=by
 intro pins s σ H Q I h;refine wpAny_Call_Name_kw (uT I hg hm hv ?_ hn hdb);exact PyProof.Rows.callWith_builtin1 (thn (ha pos pins s σ H _ I h) fun us s1 ⟨vs,H1,I1,r1,q1⟩=>hc pins s1 σ H1 vs us Q I1 r1 q1) he hpl
def VC (hc:CallR X (.type T) r)(hg:Gl X x)(hm:X.mg x=none)(hv:bootBuiltins x=some (.type T))(ha:PA X (e::es) t)(hn:autoParam (x≠"__name__") au1._auto_1)(hdb:autoParam ((x==("__debug__":Str))=false) au1._auto_1)
  (he:autoParam (starEach (e::es) X.env=(false,eval e X.env)::starEach es X.env) au3._auto_1) (hpl:autoParam ((backTo pos (starEach es X.env)).any (·.1)=false) au3._auto_1):PE X (.Call (.Name x p) (e::es) [] pos) (tCB r t):=by
 intro pins s σ H Q I h;refine wpAny_Call_Name_kw (uT I hg hm hv ?_ hn hdb);exact PyProof.Rows.callWith_type1 (thn (ha pos pins s σ H _ I h) fun us s1 ⟨vs,H1,I1,r1,q1⟩=>hc pins s1 σ H1 vs us Q I1 r1 q1) he hpl
end
end L2
namespace HT
open PySem PyProof.Rows
section
open PySem.SeqAt
open PySem.AutoSeq1 (wpAny_loadPart')
open PySem.MeetsSeq PySem.MeetsSeq2 PySem.MeetsSeq3
end
section
variable {prog:Program}{w:World}{A:Around}{E:Value->Shared->Prop}{s:Shared}
def cat_tup {t b:Addr}{vs ws:List Value}{Q:Value->Shared->Prop}(ht:IsTup s.heap t vs.toArray)(hb:IsTup s.heap b ws.toArray)(hv:vs≠[])
  (h1:ws=[]->Q (.ref t) s) (h2:ws≠[]->Q (.ref s.heap.objs.size) { s with heap:=s.heap.push { cls:=.type "tuple",data:=.seq (vs++ws).toArray } })
  (hsz:vs.length+ws.length<=sizeLine):wpAny (model prog w) A (binaryOp .Add (.ref t) (.ref b)) Q E s:=by
 obtain⟨⟨cls,dd,data,sl⟩,ho,hc,n,hd⟩:=id ht;obtain⟨⟨cls2,dd2,data2,sl2⟩,ho2,hc2,n2,hd2⟩:=id hb;simp only at hc hd hc2 hd2;subst hc hd hc2 hd2;have e:vs.toArray++ws.toArray=(vs++ws).toArray:=by simp
 by_cases hw:ws=[]
 ·exact concat_meets ⟨_,ho,rfl⟩ ⟨_,ho2,rfl⟩ noFill_tuple_add seq_tuple_add jXm jXn (jXo _ _)
   (tuple_addW1 t b vs.toArray ws.toArray n n2 dd dd2 sl sl2 (by simpa using hv) (by simp[hw])) ⟨ho,ho2,h1 hw⟩
 ·refine concat_meets ⟨_,ho,rfl⟩ ⟨_,ho2,rfl⟩ noFill_tuple_add seq_tuple_add jXm jXn (jXo _ _)
   (tuple_addW2 t b vs.toArray ws.toArray n n2 dd dd2 sl sl2 (by simpa using hv) (by simpa using hw) (by rw[sD,sD];exact hsz)) ⟨ho,ho2,?_⟩
  rw[e];exact h2 hw
def sIx (n d:Nat):Option Int->Nat
 | none=>d
 | some v=>if v<0 then (v+(n:Int)).toNat else min v.toNat n
def sIx_none (n d:Nat):sIx n d none=d:=rfl
def sIx_nat (n d k:Nat):sIx n d (some (k:Int))=min k n:=by
 show (if (k:Int)<0 then ((k:Int)+(n:Int)).toNat else min (k:Int).toNat n)=min k n;rw[if_neg (by omega),Int.toNat_natCast]
def z1u (n d:Nat)(hd:d<=n)(o:Option Int):sIx n d o<=n:=by
 cases o with
 | none=>exact hd
 | some v =>
  show (if v<0 then (v+(n:Int)).toNat else min v.toNat n)<=n
  by_cases hv:v<0
  ·rw[if_pos hv];omega
  ·rw[if_neg hv];exact Nat.min_le_right _ _
def clip_eq (v:Int)(n d:Nat):(if v<0 then max (v+(n:Int)) 0 else min v (n:Int))=((sIx n d (some v):Nat):Int):=by
 show (if v<0 then max (v+(n:Int)) 0 else min v (n:Int))=(((if v<0 then (v+(n:Int)).toNat else min v.toNat n):Nat):Int)
 by_cases hv:v<0
 ·simp only[if_pos hv];omega
 ·simp only[if_neg hv];omega
def W7 (lo hi:Option Int)(n:Nat):Builtin.Slice.sliceAdjust lo hi 1 (n:Int)=(((sIx n 0 lo:Nat):Int),((sIx n n hi:Nat):Int)):=by
 have h1:¬((1:Int)<0):=by omega
 unfold Builtin.Slice.sliceAdjust;simp only[h1,if_false];refine Prod.ext ?_ ?_
 ·cases lo with
  | none=>rfl
  | some v=>exact clip_eq v n 0
 ·cases hi with
  | none=>rfl
  | some v=>exact clip_eq v n n
def Wi (i j:Nat):Builtin.Slice.slicePlaces (i:Int) (j:Int) 1=j-i:=by
 unfold Builtin.Slice.slicePlaces;have h1:(1:Int)>0:=by omega
 simp only[h1,if_true,Int.ediv_one];split<;>omega
def jS {v:Value}{o:Option Int}{Q:Option Int->Shared->Prop}(p:IsPart v o)(h:Q o s):wpAny (model prog w) A (Builtin.Slice.slicePartIndex v) Q E s:=by
 cases p with
 | none=>exact slicePart_none h
 | int i t=>exact slicePart_int h
def qK {sl:Addr}{vl vu:Value}{lo hi:Option Int}{n:Nat}{Q:Int×Int×Nat->Shared->Prop}(hs:s.heap.IsSliceOf sl vl vu .none)(pl:IsPart vl lo)(pu:IsPart vu hi)
  (h:Q (((sIx n 0 lo:Nat):Int),1,sIx n n hi-sIx n 0 lo) s):wpAny (model prog w) A (Builtin.Slice.sliceApplied (.ref sl) (pure (n:Int))) Q E s:=by
 obtain⟨os,hos,hcs,hds⟩:=id hs;unfold Builtin.Slice.sliceApplied Builtin.Slice.sliceFields;refine wpAny_bind (wpAny_bind (wpAny_field hos hds (x:=vl) rfl (wpAny_bind (wpAny_field hos hds (x:=vu) rfl (wpAny_bind (wpAny_field hos hds (x:=.none) rfl (wpAny_pure ?_)))))));refine wpAny_bind (slicePart_none ?_);show wpAny _ _ (if ((1:Int)==0)=true then _ else _) _ _ s;rw[if_neg (by decide)];refine wpAny_bind (jS pl (wpAny_bind (jS pu (wpAny_bind (wpAny_pure ?_)))));show wpAny _ _ (match Builtin.Slice.sliceAdjust lo hi 1 (n:Int)with|(lo,hi)=>pure (lo,(1:Int),Builtin.Slice.slicePlaces lo hi 1)) _ _ s;rw[W7 lo hi n];show wpAny _ _ (pure (((sIx n 0 lo:Nat):Int),(1:Int),Builtin.Slice.slicePlaces ((sIx n 0 lo:Nat):Int) ((sIx n n hi:Nat):Int) 1)) _ _ s;rw[Wi];exact wpAny_pure h
def J8 (xs:Array Value)(i k:Nat):((List.range k).filterMap fun (m:Nat)=>xs[((i:Int)+(m:Int)*1).toNat]?).toArray=((xs.toList.drop i).take k).toArray:=by
 have e:(fun (m:Nat)=>xs[((i:Int)+(m:Int)*1).toNat]?)=fun m=>xs[i+m]?:=by
  funext m
  have:((i:Int)+(m:Int)*1).toNat=i+m:=by omega
  rw[this]
 rw[e];have:=pick_run xs i k;rw[List.filterMap_map]at this;have e2:((fun x=>xs[x]?) ∘ fun x=>i+x)=fun m=>xs[i+m]?:=rfl;rw[e2]at this;rw[this]
def getItem_tuple_cut {t sl:Addr}{items:Array Value}{vl vu:Value}{lo hi:Option Int}{Q:Value->Shared->Prop}(ht:IsTup s.heap t items)(hs:s.heap.IsSliceOf sl vl vu .none)(pl:IsPart vl lo)(pu:IsPart vu hi)
  (hw:¬(sIx items.size 0 lo=0/\sIx items.size items.size hi=items.size))
  (h:Q (.ref s.heap.objs.size) { s with heap:=s.heap.push { cls:=.type "tuple",data:=.seq ((items.toList.drop (sIx items.size 0 lo)).take (sIx items.size items.size hi-sIx items.size 0 lo)).toArray } })
  (hsz:items.size<=sizeLine):wpAny (model prog w) A (getItem (.ref t) (.ref sl)) Q E s:=by
 have htake:sizeOk (.seq ((items.toList.drop (sIx items.size 0 lo)).take (sIx items.size items.size hi-sIx items.size 0 lo)).toArray):=by
  show ((items.toList.drop (sIx items.size 0 lo)).take (sIx items.size items.size hi-sIx items.size 0 lo)).toArray.size<=sizeLine;rw[sD,rE,pB,Array.length_toList];omega
 have hj:sIx items.size items.size hi<=items.size:=z1u _ _ (tQ _) hi;obtain⟨os,hos,hcs,hds⟩:=id hs;have hTs:s.TypeIs (.ref sl) "slice":=⟨os,hos,hcs⟩
 unfold getItem
 try with_reducible refine wpAny_holding ?_
 first|refine wpAny_bind (wpAny_pure ?_)|skip
 refine wpAny_bind (wpAny_sequenceKey ht.typeIs (by decide) ?_);refine wpAny_bind (wpAny_callSpecial?_slot (name:=Str.ofString "__getitem__") ht.typeIs PyProof.Rows.slot_tuple_getitem
  (wpAny_call_entry PyProof.Rows.slot_tuple_getitem ht.typeIs entry_tuple_getitem ?_ (args_tuple_getitem _ _)))
 show wpAny _ _ (Builtin.Tuple.tupleItemsOf (.ref t) >>= _) _ _ s;refine wpAny_bind (tupleItemsOf_ ht ?_);refine wpAny_bind (wpAny_typeOf hTs ?_);rw[if_pos (by decide)];refine wpAny_bind (qK hs pl pu ?_);have hno:¬((((sIx items.size 0 lo:Nat):Int)==0&&(1:Int)==1&&(sIx items.size items.size hi-sIx items.size 0 lo)==items.size)=true):=by
  intro q;rw[sR,sR]at q;have q1:((sIx items.size 0 lo:Nat):Int)=0:=eq_of_beq q.1.1;have q2:sIx items.size items.size hi-sIx items.size 0 lo=items.size:=eq_of_beq q.2;exact hw ⟨by omega,by omega⟩
 show wpAny _ _ (if (((sIx items.size 0 lo:Nat):Int)==0&&(1:Int)==1&&(sIx items.size items.size hi-sIx items.size 0 lo)==items.size)=true then _ else _) _ _ s;rw[if_neg hno,J8]
 first
  | exact wpAny_bind (m:=Builtin.Tuple.tupleExact _) (wpAny_newObj_type (wpAny_pure ⟨_,rfl,wpAny_pure h⟩) htake)
  | exact wpAny_bind (m:=Builtin.Tuple.tupleExact _) (wpAny_newObj_type (wpAny_bind (wpAny_pure (wpAny_pure ⟨_,rfl,wpAny_pure h⟩))) htake)
  | exact wpAny_bind (wpAny_bind (m:=Builtin.Tuple.tupleExact _) (wpAny_newObj_type (wpAny_pure (wpAny_pure ⟨_,rfl,wpAny_pure h⟩)) htake))
  | exact wpAny_bind (wpAny_bind (m:=Builtin.Tuple.tupleExact _) (wpAny_newObj_type (wpAny_pure ⟨_,rfl,wpAny_pure h⟩) htake))
end
end HT
namespace L2
open PySem PySem.Spec PyProof.Rows
abbrev TO:=St->Hp->(Option Int->Hp->Prop)->Prop
def PO (X:Cx)(e:Option Expr)(t:TO):Prop:=
 ∀(pins:List (Addr×Obj)) (s:Shared) (σ:St) (H:Hp) (Q:Option Int->Hp->Prop),Inv X pins σ H s->t σ H Q ->
  wpAny (model X.prog X.w) X.A (evalPart e X.env) (fun u s'=>∃o H',Inv X pins σ H' s'/\IsPart u o/\Q o H') X.xe s
def V3:TO:=fun _ H Q=>Q none H
def z06 (t:TE):TO:=fun σ H Q=>t σ H fun x H1=>∃i,x=.int i/\Q (some i) H1
def XO {ns:List Int}:∀ {us:List Value},Vals (ns.map V.int) us->IntsAre us ns:=by
 induction ns with
 | nil=>intro us r;rw[sA]at r;cases r;exact .nil
 | cons n ns ih =>
  intro us r;rw[tG]at r;cases r with
  | cons r1 r2 =>
   obtain⟨t,e⟩:=r1;subst e;exact .cons n t (ih r2)
section
variable {X:Cx}{e:Expr}{te:TE}{lo hi:Option Expr}{tl th:TO}{pos p2:Pos}
def JJ:PO X none V3:=by
 intro pins s σ H Q I h;rw[evalPart_none];exact wpAny_pure ⟨none,H,I,.none,h⟩
def Kr (h:PE X e te):PO X (some e) (z06 te):=by
 intro pins s σ H Q I hw;rw[evalPart_some];refine thn (h pins s σ H _ I hw) fun u s1 ⟨x,H1,I1,r1,q1⟩=>?_;obtain⟨i,rfl,q⟩:=q1;obtain⟨t,rfl⟩:=r1;exact⟨some i,H1,I1,.int i t,q⟩
def SlR (X:Cx)(r:V->Option Int->Option Int->Hp->VK->Prop):Prop:=
 ∀(pins:List (Addr×Obj)) (s:Shared) (σ:St) (H:Hp) (x:V) (v vl vu:Value) (lo hi:Option Int) (sl:Addr) (Q:VK),Inv X pins σ H s->RelV x v->s.heap.IsSliceOf sl vl vu .none->IsPart vl lo->IsPart vu hi->r x lo hi H Q ->
  ∃T id,typeLookup (.type T) "__getitem__"=pure (some (.builtin id))/\s.TypeIs v T/\wpAny (model X.prog X.w) X.A (getItem v (.ref sl)) (EP X pins σ Q) X.xe s
theorem SlR.or {r r':V->Option Int->Option Int->Hp->VK->Prop}(h:SlR X r)(h':SlR X r'):SlR X (fun x lo hi H Q=>r x lo hi H Q\/r' x lo hi H Q):=by
 intro pins s σ H x v vl vu lo hi sl Q I rx hs pl pu q;rcases q with q|q
 ·exact h pins s σ H x v vl vu lo hi sl Q I rx hs pl pu q
 ·exact h' pins s σ H x v vl vu lo hi sl Q I rx hs pl pu q
def tSl (r:V->Option Int->Option Int->Hp->VK->Prop)(te:TE)(tl th:TO):TE:=fun σ H Q=>te σ H fun x H1=>tl σ H1 fun l H2=>th σ H2 fun u H3=>r x l u H3 Q
def QB {r:V->Option Int->Option Int->Hp->VK->Prop}(hr:SlR X r)(he:PE X e te)(hl:PO X lo tl)(hu:PO X hi th):PE X (.Subscript e (.Slice lo hi none p2) pos) (tSl r te tl th):=by
 intro pins s σ H Q I h;refine Subscript_ (thn (he pins s σ H _ I h) fun v s1 ⟨x,H1,I1,r1,q1⟩=>?_);refine wpAny_Slice (thn (hl pins s1 σ H1 _ I1 q1) fun vl s2 ⟨l,H2,I2,pl,q2⟩=>thn (hu pins s2 σ H2 _ I2 q2) fun vu s3 ⟨u,H3,I3,pu,q3⟩=>?_);rw[evalPart_none];refine wpAny_pure ?_;have I4:Inv X pins σ H3 { s3 with heap:=s3.heap.push { cls:=.type "slice",data:=.fields #[vl,vu,.none] } }:=I3.kept (t':=s3.toks) fun b ob q=>jYb _ q;obtain⟨T,id,hT,ht,hg⟩:=hr pins { s3 with heap:=s3.heap.push { cls:=.type "slice",data:=.fields #[vl,vu,.none] } } σ H3 x v vl vu l u s3.heap.objs.size Q I4 r1 (Heap.IsSliceOf.new ..) pl pu q3;show wpAny (model X.prog X.w) X.A (subscriptTail e (.Slice lo hi none p2) v (.ref s3.heap.objs.size)) (EP X pins σ Q) X.xe { s3 with heap:=s3.heap.push { cls:=.type "slice",data:=.fields #[vl,vu,.none] } };exact tail_any (ops:=[.ref s3.heap.objs.size,v]) ht hT hg (by with_unfolding_all rfl)
def YS (xs:List V)(lo hi:Option Int):List V:=(xs.drop (HT.sIx xs.length 0 lo)).take (HT.sIx xs.length xs.length hi-HT.sIx xs.length 0 lo)
def qX (xs:List V)(lo hi:Option Int):(YS xs lo hi).length<=xs.length:=by
 unfold YS;rw[rE,pB];omega
def z3T (K:jJa):V->Option Int->Option Int->Hp->VK->Prop:=fun x lo hi H Q=>∃a xs,x=.ref a/\SqT K H a xs /\
 ¬(HT.sIx xs.length 0 lo=0/\HT.sIx xs.length xs.length hi=xs.length)/\∀p,H p=none->Q (.ref p) (upd H p (.tup (YS xs lo hi)))
def z1d:SlR X (z3T X.K):=by
 intro pins s σ H x v vl vu lo hi sl Q I rx hs pl pu h;obtain⟨a,xs,rfl,hx,hw,q⟩:=h;cases rx;obtain⟨its,r,ht,hz⟩:=I.tuple hx;have hlen:its.toArray.size=xs.length:=by rw[sD];exact r.length.symm
 refine⟨"tuple",_,PyProof.Rows.slot_tuple_getitem.lookup,ht.typeIs,?_⟩;refine HT.getItem_tuple_cut ht hs pl pu (by rw[hlen];exact hw) ?_ (by rw[hlen];exact hz);rw[hlen];refine⟨.ref s.heap.objs.size,_,I.laid (t':=s.toks) (o:=.tup (YS xs lo hi)) (fun b ob q=>jYb _ q) (tQ _) ?_,rfl,q _ (I.hok.fresh (tQ _))⟩;exact⟨sT (qX xs lo hi) hz,_,(r.drop (HT.sIx xs.length 0 lo)).take (HT.sIx xs.length xs.length hi-HT.sIx xs.length 0 lo),TupN.new _ _⟩
def z04 (K:jJa):R2:=fun x y H Q=>∃a b xs ys,x=.ref a/\y=.ref b/\SqT K H a xs/\SqT K H b ys/\xs≠[]/\xs.length+ys.length<=sizeLine /\
 (ys=[]->Q (.ref a) H)/\(ys≠[]->∀p,H p=none->Q (.ref p) (upd H p (.tup (xs++ys))))
def Vals.nil_iff {xs:List V}{us:List Value}(r:Vals xs us):us=[]↔xs=[]:=by
 cases r with
 | nil=>simp
 | cons _ _=>simp
def Kp:OpR X (binaryOp .Add) (z04 X.K):=by
 intro pins s σ H x y v u Q I rx ry h;obtain⟨a,b,xs,ys,rfl,rfl,ha,hb,hx,hz,q1,q2⟩:=h;cases rx;cases ry;obtain⟨its,r1,p1,_⟩:=I.tuple ha;obtain⟨its2,r2,p2,_⟩:=I.tuple hb;refine HT.cat_tup p1 p2 (fun z=>hx (r1.nil_iff.mp z)) (fun z=>⟨.ref a,H,I,rfl,q1 (r2.nil_iff.mp z)⟩) (fun z=>?_) (by rw[<-r1.length,<-r2.length];exact hz);refine⟨.ref s.heap.objs.size,_,I.laid (t':=s.toks) (o:=.tup (xs++ys)) (fun b ob q=>jYb _ q) (tQ _) ?_,rfl,q2 (fun w=>z (r2.nil_iff.mpr w)) _ (I.hok.fresh (tQ _))⟩;exact⟨by rw[tT];exact hz,_,r1.append r2,TupN.new _ _⟩
end
def ixN (n:Nat)(i:Int):Option Nat:=if 0<=i then (if i<n then some i.toNat else none) else if -(n:Int)<=i then some (i+n).toNat else none
def atI {α:Type}(xs:List α)(i:Int):Option α:=(ixN xs.length i).bind fun j=>xs[j]?
def ZQ {n:Nat}{i:Int}{j:Nat}(h:ixN n i=some j):seqIndex? i n=some j/\j<n/\-(n:Int)<=i/\i<n:=by
 unfold ixN at h
 by_cases h0:0<=i
 ·rw[if_pos h0]at h
  by_cases h1:i<n
  ·rw[if_pos h1]at h;have e:i.toNat=j:=jYe h;exact⟨by rw[seqIndex_of h0 h1,e],by omega,by omega,h1⟩
  ·rw[if_neg h1]at h;cases h
 ·rw[if_neg h0]at h
  by_cases h1:-(n:Int)<=i
  ·rw[if_pos h1]at h;have e:(i+n).toNat=j:=jYe h;exact⟨by rw[seqIndex_neg (by omega) h1,e],by omega,h1,by omega⟩
  ·rw[if_neg h1]at h;cases h
def Yb {α:Type}{xs:List α}{i:Int}{v:α}(h:atI xs i=some v):∃j,seqIndex? i xs.length=some j/\xs[j]?=some v/\j<xs.length/\-(xs.length:Int)<=i/\i<xs.length:=by
 unfold atI at h;cases e:ixN xs.length i with
 | none=>rw[e]at h;cases h
 | some j =>
  rw[e]at h;obtain⟨h1,h2,h3,h4⟩:=ZQ e;exact⟨j,h1,h,h2,h3,h4⟩
def wd {α:Type}{xs:List α}{j:Nat}{v:α}(h:xs[j]?=some v):atI xs (j:Int)=some v:=by
 have hj:j<xs.length:=(tV.mp h).1;have e:ixN xs.length (j:Int)=some j:=by
  unfold ixN;rw[if_pos (by omega),if_pos (by omega)];simp
 unfold atI;rw[e];exact h
def Va (b:Expr):Prop:=∀o i,subscripted b false o i=operate [o,i] (getItem o i)
def IxR (X:Cx)(r:R2):Prop:=
 ∀(value slice:Expr) (pins:List (Addr×Obj)) (s:Shared) (σ:St) (H:Hp) (x y:V) (v u:Value) (Q:VK),Inv X pins σ H s->RelV x v->RelV y u->r x y H Q ->
  subscripted slice false v u=operate [v,u] (getItem v u)->wpAny (model X.prog X.w) X.A (subscriptTail value slice v u) (EP X pins σ Q) X.xe s
def MtR (X:Cx)(id:String)(r:V->List V->Hp->VK->Prop):Prop:=
 ∀(pins:List (Addr×Obj)) (s:Shared) (σ:St) (H:Hp) (x:V) (xs:List V) (v:Value) (us:List Value) (Q:VK),Inv X pins σ H s->RelV x v->Vals xs us->r x xs H Q ->
  wpAny (model X.prog X.w) X.A (call (.builtin id) (v::us)) (EP X pins σ Q) X.xe s
section
variable {X:Cx}{a b:Expr}{ta tb:TE}{pos:Pos}
theorem IxR.or {r r':R2}(h:IxR X r)(h':IxR X r'):IxR X (fun x y H Q=>r x y H Q\/r' x y H Q):=by
 intro value slice pins s σ H x y v u Q I rx ry q hs;rcases q with q|q
 ·exact h value slice pins s σ H x y v u Q I rx ry q hs
 ·exact h' value slice pins s σ H x y v u Q I rx ry q hs
def z33 {r:R2}(hr:IxR X r)(ha:PE X a ta)(hb:PE X b tb)(hs:Va b):PE X (.Subscript a b pos) (tOp r ta tb):=by
 intro pins s σ H Q I h;exact Subscript_ (z0W ha hb I h fun v u s2 x y H2 I2 rx ry q=>hr a b pins s2 σ H2 x y v u Q I2 rx ry q (hs _ _))
def z2k (K:jJa):R2:=fun x y H Q=>∃p xs i v,x=.ref p/\y=.int i/\SqL K H p xs/\atI xs i=some v/\Q v H
def z2v (K:jJa):R2:=fun x y H Q=>∃p xs i v,x=.ref p/\y=.int i/\SqT K H p xs/\atI xs i=some v/\Q v H
def z2C:R2:=fun x y H Q=>∃z i c,x=.str z/\y=.int i/\z.length<=sizeLine/\atI z.cps.toList i=some c/\Q (.str ⟨#[c]⟩) H
def ix_list:IxR X (z2k X.K):=by
 intro value slice pins s σ H x y v u Q I rx ry h hs;obtain⟨p,xs,i,z,rfl,rfl,hq,he,q⟩:=h;cases rx;obtain⟨t,rfl⟩:=ry;obtain⟨its,r,pl,hz⟩:=I.list hq;obtain⟨j,h1,h2,h3,h4,h5⟩:=Yb he;obtain⟨w,ew,rw'⟩:=r.get h2;have hl:=r.length;have hn:=qA;have fin:EP X pins σ Q w s:=⟨z,H,I,rw',q⟩
 by_cases h0:0<=i
 ·have hj:i.toNat=j:=by
   rw[seqIndex_of h0 h5]at h1;exact jYe h1
  exact item_listR pl.isList h0 (by omega) (by rw[hj];simpa using ew) fin hs
 ·have hj:(i+(its.toArray.size:Int)).toNat=j:=by
   rw[seqIndex_neg (by omega) h4]at h1;rw[sD,<-hl];exact jYe h1
  exact subscriptTail_builtinR (x:=w) pl.isList.typeIs slot_list_getitem.lookup
   (wpAny_getItem_list_neg (Q:=fun r s'=>r=w/\EP X pins σ Q r s') pl.isList (by omega) (by rw[sD]<;>omega) (by omega) (by rw[hj];simpa using ew) ⟨rfl,fin⟩) hs
def ix_tup:IxR X (z2v X.K):=by
 intro value slice pins s σ H x y v u Q I rx ry h hs;obtain⟨p,xs,i,z,rfl,rfl,hq,he,q⟩:=h;cases rx;obtain⟨t,rfl⟩:=ry;obtain⟨its,r,pl,hz⟩:=I.tuple hq;obtain⟨j,h1,h2,h3,h4,h5⟩:=Yb he;obtain⟨w,ew,rw'⟩:=r.get h2;have hl:=r.length;have hn:=qA;have fin:EP X pins σ Q w s:=⟨z,H,I,rw',q⟩
 exact subscriptTail_builtinR (x:=w) pl.typeIs slot_tuple_getitem.lookup
  (getItem_tuple (j:=j) (Q:=fun r s'=>r=w/\EP X pins σ Q r s') pl (by omega) (by omega) (by rw[sD,<-hl];exact h1) (by simpa using ew) ⟨rfl,fin⟩) hs
def z18:IxR X z2C:=by
 intro value slice pins s σ H x y v u Q I rx ry h hs;obtain⟨z,i,c,rfl,rfl,hz,he,q⟩:=h;obtain⟨t,rfl⟩:=rx;obtain⟨t',rfl⟩:=ry;obtain⟨j,h1,h2,h3,h4,h5⟩:=Yb he;have hl:z.cps.toList.length=z.length:=by simp[Str.length]
 rw[hl]at h1 h4 h5;have hn:=qA;exact tail_any (typeIs_str s z t) slot_str_getitem.lookup (getItem_str (c:=c) (by
  have e1:decide (i < -(2 ^ 63:Int))=false:=decide_eq_false (by omega);have e2:decide (i>=2 ^ 63)=false:=decide_eq_false (by omega);rw[e1,e2,gO]) (by rw[h1];simpa using h2) ⟨.str ⟨#[c]⟩,H,I.tok _,⟨_,rfl⟩,q⟩) hs
def rIx (K:jJa):R2:=fun x y H Q=>z2k K x y H Q\/z2v K x y H Q\/z2C x y H Q
def z0A:IxR X (rIx X.K):=ix_list.or (ix_tup.or z18)
def Wj (its:List Value)(n j:Nat)(u:Value):Obj.mapSeq (·.setIfInBounds j u) { cls:=.type "list",data:=.seq its.toArray n }={ cls:=.type "list",data:=.seq (its.set j u).toArray n }:=by
 simp[Obj.mapSeq]
theorem Inv.lst {pins:List (Addr×Obj)}{σ:St}{H:Hp}{s:Shared}{p:Addr}{xs:List V}(I:Inv X pins σ H s)(h:H p=some (.lst xs)):
  ∃(its:List Value) (n:Nat),Vals xs its/\s.heap.get? p=some { cls:=.type "list",data:=.seq its.toArray n }/\xs.length<=sizeLine:=by
 obtain⟨z,its,n,r,e⟩:=I.hok p _ h;exact⟨its,n,r,e,z⟩
def Inv.lstUpd {pins:List (Addr×Obj)}{σ:St}{H:Hp}{s:Shared}{p:Addr}{xs ys:List V}{its its':List Value}{n n':Nat}{f:Obj->Obj}(I:Inv X pins σ H s)(h:H p=some (.lst xs))
  (ho:s.heap.get? p=some { cls:=.type "list",data:=.seq its.toArray n }) (hf:f { cls:=.type "list",data:=.seq its.toArray n }={ cls:=.type "list",data:=.seq its'.toArray n' }) (r:Vals ys its') (hz:ys.length<=sizeLine) (t:Nat):
  Inv X pins σ (upd H p (.lst ys)) { s with heap:=s.heap.update p f,toks:=t }:=by
 have e:(s.heap.update p f).get? p=some { cls:=.type "list",data:=.seq its'.toArray n' }:=by
  rw[Heap.get?_update_self f ho (by rw[hf]<;>rfl),hf]
 refine I.write (x:=p) (e:=p) (by rw[h];trivial) (.inl rfl) (fun b u hb q=>(Heap.get?_update_other _ _ (Ne.symm hb)).trans q) ⟨_,e⟩ ?_;exact⟨hz,its',n',r,e⟩
def YO:V->V->V->Hp->(Hp->Prop)->Prop:=fun o i v H Q=>∃p xs k j,o=.ref p/\i=.int k/\H p=some (.lst xs)/\ixN xs.length k=some j/\Q (upd H p (.lst (xs.set j v)))
def YU:z3r X YO:=by
 intro pins s σ H o i v ov iv u Q I ro ri rv h;obtain⟨p,xs,k,j,rfl,rfl,hp,hj,q⟩:=h;cases ro;obtain⟨t,rfl⟩:=ri;obtain⟨its,n,r,ho,hz⟩:=I.lst hp;obtain⟨h1,h2,h3,h4⟩:=ZQ hj;have hl:=r.length;have hn:=qA;have I':Inv X pins σ (upd H p (.lst (xs.set j v))) { s with heap:=s.heap.update p (Obj.mapSeq (·.setIfInBounds j u)) }:=
  I.lstUpd hp ho (Wj its n j u) (r.set rv j) (by rw[sS];exact hz) s.toks
 by_cases h0:0<=k
 ·have hk:k.toNat=j:=by
   rw[seqIndex_of h0 h4]at h1;exact jYe h1
  exact PySem.W.ki_setAt ho h0 (by omega) (by rw[sD,<-hl];exact h4) (by rw[hk];exact⟨_,I',q⟩)
 ·have hk:(k+(its.toArray.size:Int)).toNat=j:=by
   rw[seqIndex_neg (by omega) h3]at h1;rw[sD,<-hl];exact jYe h1
  exact PySem.W.ki_setBack ho (by omega) (by rw[sD,<-hl];exact h3) (by omega) (by rw[hk];exact⟨_,I',q⟩)
def Y4 (lo hi:Option Int)(n:Nat):(sliceBounds lo hi none n).1=((HT.sIx n 0 lo:Nat):Int)/\(sliceBounds lo hi none n).2.1=((HT.sIx n n hi:Nat):Int)/\(sliceBounds lo hi none n).2.2=1:=by
 refine⟨?_,?_,rfl⟩
 ·cases lo with
  | none=>simp[sliceBounds,HT.sIx]
  | some i =>
   simp only[sliceBounds,HT.sIx,Option.getD_none,show (1:Int)>0 by decide,if_true]
   by_cases h:i<0
   ·simp only[h,if_true]<;>omega
   ·simp only[h,if_false]<;>omega
 ·cases hi with
  | none=>simp[sliceBounds,HT.sIx]
  | some i =>
   simp only[sliceBounds,HT.sIx,Option.getD_none,show (1:Int)>0 by decide,if_true]
   by_cases h:i<0
   ·simp only[h,if_true]<;>omega
   ·simp only[h,if_false]<;>omega
def kB (its:List Value)(lo hi:Option Int):slicePick its.toArray lo hi none=((its.drop (HT.sIx its.length 0 lo)).take (HT.sIx its.length its.length hi-HT.sIx its.length 0 lo)).toArray:=by
 obtain⟨h1,h2,h3⟩:=Y4 lo hi its.toArray.size;unfold slicePick;rw[h1,h2,h3];simp only[sliceRange_one,pick_run,sD]<;>rfl
def z41 (K:jJa):V->Option Int->Option Int->Hp->VK->Prop:=fun x lo hi H Q=>∃a xs,x=.ref a/\SqL K H a xs/\∀p,H p=none->Q (.ref p) (upd H p (.lst (YS xs lo hi)))
def KR:SlR X (z41 X.K):=by
 intro pins s σ H x v vl vu lo hi sl Q I rx hs pl pu h;obtain⟨a,xs,rfl,hx,q⟩:=h;cases rx;obtain⟨its,r,ht,hz⟩:=I.list hx;have hlen:=r.length;refine⟨"list",_,slot_list_getitem.lookup,ht.isList.typeIs,?_⟩;refine wpAny_getItem_list_slice ht.isList hs pl pu .none (by simp) ?_ (by rw[sD]<;>omega);rw[kB,<-hlen];refine⟨.ref s.heap.objs.size,_,I.laid (t':=s.toks) (o:=.lst (YS xs lo hi)) (fun b ob q=>jYb _ q) (tQ _) ?_,rfl,q _ (I.hok.fresh (tQ _))⟩;exact⟨sT (qX xs lo hi) hz,_,0,(r.drop (HT.sIx xs.length 0 lo)).take (HT.sIx xs.length xs.length hi-HT.sIx xs.length 0 lo),jYd _ rfl⟩
def uC:V->Bool
 | .non=>true
 | .bl _=>true
 | .int _=>true
 | .str _=>true
 | _=>false
def eqV:V->V->Bool
 | .non,.non=>true
 | .bl a,.bl b=>a==b
 | .bl a,.int b=>(if a then 1 else 0)==b
 | .int a,.bl b=>a==(if b then 1 else 0)
 | .int a,.int b=>a==b
 | .str a,.str b=>a==b
 | _,_=>false
def z17 {A:Around}{s:Shared}{y x:V}{u v:Value}(ry:RelV y u)(rx:RelV x v)(fy:uC y=true)(fx:uC x=true):SeqAt.EqAt A s u v (eqV y x):=by
 cases y with
 | non =>
  cases ry;cases x with
  | non=>cases rx;exact SeqAt.EqAt.same _
  | bl b=>cases rx;exact SeqAt.EqAt.none_bool b
  | int b=>obtain⟨t,rfl⟩:=rx;exact SeqAt.EqAt.none_int b t
  | str b=>obtain⟨t,rfl⟩:=rx;exact SeqAt.EqAt.none_str b t
  | _=>exact absurd (show false=true from fx) tX
 | bl a =>
  cases ry;cases x with
  | non=>cases rx;exact SeqAt.EqAt.bool_none a
  | bl b=>cases rx;exact SeqAt.EqAt.bool_bool a b
  | int b=>obtain⟨t,rfl⟩:=rx;exact SeqAt.EqAt.bool_int a b t
  | str b=>obtain⟨t,rfl⟩:=rx;exact SeqAt.EqAt.bool_str a b t
  | _=>exact absurd (show false=true from fx) tX
 | int a =>
  obtain⟨t',rfl⟩:=ry;cases x with
  | non=>cases rx;exact SeqAt.EqAt.int_none a t'
  | bl b=>cases rx;exact SeqAt.EqAt.int_bool a t' b
  | int b=>obtain⟨t,rfl⟩:=rx;exact SeqAt.EqAt.int_int a t' b t
  | str b=>obtain⟨t,rfl⟩:=rx;exact SeqAt.EqAt.int_str a t' b t
  | _=>exact absurd (show false=true from fx) tX
 | str a =>
  obtain⟨t',rfl⟩:=ry;cases x with
  | non=>cases rx;exact SeqAt.EqAt.str_none a t'
  | bl b=>cases rx;exact SeqAt.EqAt.str_bool a t' b
  | int b=>obtain⟨t,rfl⟩:=rx;exact SeqAt.EqAt.str_int a t' b t
  | str b=>obtain⟨t,rfl⟩:=rx;exact SeqAt.EqAt.str_str a t' b t
  | _=>exact absurd (show false=true from fx) tX
 | _=>exact absurd (show false=true from fy) tX
def eqU (x:V)(u:Value):Bool:=match u with
 | .none=>eqV .non x
 | .bool b=>eqV (.bl b) x
 | .int i _=>eqV (.int i) x
 | .str z _=>eqV (.str z) x
 | _=>false
def QV {x y:V}{u:Value}(r:RelV y u)(f:uC y=true):eqU x u=eqV y x:=by
 cases y with
 | non=>cases r;rfl
 | bl b=>cases r;rfl
 | int i=>obtain⟨t,rfl⟩:=r;rfl
 | str z=>obtain⟨t,rfl⟩:=r;rfl
 | _=>exact absurd (show false=true from f) tX
theorem ZV {x:V}:∀ {xs:List V} {us:List Value},Vals xs us->xs.all uC=true->us.any (eqU x)=xs.any fun y=>eqV y x
 | _,_,.nil,_=>rfl
 | y::xs,u::us,.cons r t,f=>by
  rw[pQ,sR]at f;rw[gF,gF,QV r f.1,ZV t f.2]
theorem jC {A:Around}{s:Shared}{x:V}{v:Value}(rx:RelV x v)(fx:uC x=true):∀ {xs:List V} {us:List Value},Vals xs us->xs.all uC=true->∀u∈us,SeqAt.EqAt A s u v (eqU x u)
 | _,_,.nil,_=>fun u hu=>by cases hu
 | y::xs,u::us,.cons r t,f=>fun u' hu=>by
  rw[pQ,sR]at f;rcases sF.mp hu with rfl|hu
  ·rw[QV r f.1];exact z17 r rx f.1 fx
  ·exact jC rx fx t f.2 u' hu
def inV (x:V)(xs:List V):Bool:=xs.any fun y=>eqV y x
def rIn (K:jJa)(neg:Bool):R2:=fun x y H Q=>∃p xs,y=.ref p/\(SqL K H p xs\/SqT K H p xs)/\uC x=true/\xs.all uC=true/\Q (.bl (if neg then !inV x xs else inV x xs)) H
def ZD:OpR X (compareOp .NotIn) (rIn X.K true):=by
 intro pins s σ H x y v u Q I rx ry h;obtain⟨p,xs,rfl,hq,fx,fs,q⟩:=h;cases ry;rcases hq with hq|hq
 ·obtain⟨its,r,pl,hz⟩:=I.list hq;refine SeqAt.notIn_listAt (eqU x) pl.isList (fun w hw=>jC rx fx r fs w (by simpa using hw)) ⟨.bl _,H,I,rfl,?_⟩;rw[show its.toArray.any (eqU x)=its.any (eqU x) by simp,ZV r fs];exact q
 ·obtain⟨its,r,pl,hz⟩:=I.tuple hq;refine SeqAt.notIn_tupleAt (eqU x) pl (fun w hw=>jC rx fx r fs w (by simpa using hw)) ⟨.bl _,H,I,rfl,?_⟩;rw[show its.toArray.any (eqU x)=its.any (eqU x) by simp,ZV r fs];exact q
def Yk:CallR X (.builtin "len") (fun xs H Q=>∃p ys,xs=[.ref p]/\(SqL X.K H p ys\/SqT X.K H p ys)/\Q (.int ys.length) H):=by
 intro pins s σ H xs us Q I r h;obtain⟨p,ys,rfl,hq,q⟩:=h;obtain⟨u,rfl,rx⟩:=vL r;cases rx;have hn:=qA;rcases hq with hq|hq
 ·obtain⟨its,r',pl,hz⟩:=I.list hq;have hlen:=r'.length;exact Calls.call_len_list pl.isList (by simp only[sD]<;>omega) ⟨.int ys.length,H,I.tok _,⟨s.toks+1,by rw[sD,hlen]⟩,q⟩
 ·obtain⟨its,r',pl,hz⟩:=I.tuple hq;have hlen:=r'.length;exact len_tuple pl (by simp only[sD]<;>omega) ⟨.int ys.length,H,I.tok _,⟨s.toks+1,by rw[sD,hlen]⟩,q⟩
def ZE:CallR X (.builtin "len") (fun xs H Q=>∃z,xs=[.str z]/\z.length<=sizeLine/\Q (.int z.length) H):=by
 intro pins s σ H xs us Q I r h;obtain⟨z,rfl,hz,q⟩:=h;obtain⟨u,rfl,t,rfl⟩:=vL r;have hn:=qA;exact len_str (by omega) ⟨.int z.length,H,I.tok _,⟨_,rfl⟩,q⟩
theorem CallR.or {f:Value}{r r':List V->Hp->VK->Prop}(h:CallR X f r)(h':CallR X f r'):CallR X f (fun xs H Q=>r xs H Q\/r' xs H Q):=by
 intro pins s σ H xs us Q I rs q;rcases q with q|q
 ·exact h pins s σ H xs us Q I rs q
 ·exact h' pins s σ H xs us Q I rs q
def qu:CallR X (.type "list") (fun xs H Q=>∃p ys,xs=[.ref p]/\(SqL X.K H p ys\/SqT X.K H p ys)/\∀l,H l=none->Q (.ref l) (upd H l (.lst ys))):=by
 intro pins s σ H xs us Q I r h;obtain⟨p,ys,rfl,hq,q⟩:=h;obtain⟨u,rfl,rx⟩:=vL r;cases rx;have fin:∀(its:List Value),Vals ys its->ys.length<=sizeLine->∀(h':Heap) (c':Nat),(∀b o',s.heap.get? b=some o'->h'.get? b=some o') ->
   h'.get? s.heap.objs.size=some { cls:=.type "list",dict:=none,data:=.seq its.toArray c',slots:=#[] }->EP X pins σ Q (.ref s.heap.objs.size) { s with heap:=h' }:=fun its r' hz h' c' kp e =>
  ⟨.ref s.heap.objs.size,_,I.laid (t':=s.toks) kp (tQ _) (show ObjOk X.prog X.w _ h' _ (.lst ys) from⟨hz,its,c',r',e⟩),rfl,q _ (I.hok.fresh (tQ _))⟩
 rcases hq with hq|hq
 ·obtain⟨its,r',pl,hz⟩:=I.list hq;have hlen:=r'.length;obtain⟨o,ho,hc,n,hd⟩:=pl.isList;exact call_list_seq p (.inl rfl) ho hc hd (fun h' c' kp e=>fin its r' hz h' c' kp e) (by simp only[sD]<;>omega)
 ·obtain⟨its,r',pl,hz⟩:=I.tuple hq;have hlen:=r'.length;obtain⟨o,ho,hc,n,hd⟩:=pl;exact call_list_seq p (.inr rfl) ho hc hd (fun h' c' kp e=>fin its r' hz h' c' kp e) (by simp only[sD]<;>omega)
def tyV (K:jJa)(T:String)(x:V)(H:Hp):Prop:=match x with
 | .str _=>T="str"
 | .int _=>T="int"
 | .ref p=>(T="list"/\∃xs,SqL K H p xs)\/(T="tuple"/\∃o,K.lookup p=some o/\o.cls=.type "tuple"/\o.dict=none) \/
   (T="dict"/\((∃kvs,H p=some (.dK kvs))\/∃kvs,H p=some (.dT kvs)))\/(T="set"/\∃S n,H p=some (.set S n))
 | _=>False
def QE {pins:List (Addr×Obj)}{σ:St}{H:Hp}{s:Shared}{T:String}{x:V}{v:Value}(I:Inv X pins σ H s)(r:RelV x v)(ty:tyV X.K T x H):
  s.TypeIs v T/\∀a,v=.ref a->∃ob,s.heap.get? a=some ob/\ob.dict=none:=by
 cases x with
 | str z =>
  obtain⟨t,rfl⟩:=r;cases (show T="str" from ty);exact⟨typeIs_str s z t,fun _ e=>nomatch e⟩
 | int i =>
  obtain⟨t,rfl⟩:=r;cases (show T="int" from ty);exact⟨typeIs_int s i t,fun _ e=>nomatch e⟩
 | ref p =>
  cases r;rcases ty with⟨rfl,xs,hq⟩|⟨rfl,o,hk,hc,hd⟩|⟨rfl,hk⟩|⟨rfl,S,n,hk⟩
  ·obtain⟨its,_,pl,_⟩:=I.list hq;refine⟨pl.isList.typeIs,fun a e=>?_⟩;cases e;obtain⟨o,n,e,c,hd,_⟩:=pl;exact⟨o,e,hd⟩
  ·refine⟨⟨o,I.kIn p o hk,hc⟩,fun a e=>?_⟩;cases e;exact⟨o,I.kIn _ o hk,hd⟩
  ·have z:∃o,s.heap.get? p=some o/\o.ExactDict:=by
    rcases hk with⟨kvs,hk⟩|⟨kvs,hk⟩
    ·obtain⟨_,_,_,_,o,_,_,e,ex,_⟩:=I.hok p _ hk;exact⟨o,e,ex⟩
    ·obtain⟨_,_,_,_,o,_,_,e,ex,_⟩:=I.hok p _ hk;exact⟨o,e,ex⟩
   obtain⟨o,e,ex⟩:=z;refine⟨⟨o,e,ex.1⟩,fun a e2=>?_⟩;cases e2;exact⟨o,e,ex.2.1⟩
  ·obtain⟨o,_,_,_,e,ex,_⟩:=I.hok p _ hk;refine⟨⟨o,e,ex.1⟩,fun a e2=>?_⟩;cases e2;exact⟨o,e,ex.2.1⟩
 | _=>exact False.elim ty
def z3H (K:jJa)(T:String)(r:V->List V->Hp->VK->Prop)(to:TE):TE:=fun σ H Q=>to σ H fun x H1=>tyV K T x H1/\r x [] H1 Q
def tBM (K:jJa)(T:String)(r:V->List V->Hp->VK->Prop)(to:TE)(t:TA):TE:=fun σ H Q=>to σ H fun x H1=>tyV K T x H1/\t σ H1 fun xs H2=>r x xs H2 Q
variable {o e:Expr}{es:List Expr}{to:TE}{t:TA}{name:Str}{apos cpos:Pos}{T id:String}{r:V->List V->Hp->VK->Prop}
def z1F (pa:PlainAttrs T)(slot:Slot T name id)(hty:typeOf (.builtin id)=pure (.type "method_descriptor"))(hm:MtR X id r)(ho:PE X o to)
  (hbase:autoParam (attributeBase o name X.env (eval o X.env)=eval o X.env) au3._auto_1) (hline:autoParam ((apos.endLine==cpos.line)=true) au3._auto_1):PE X (.Call (.Attribute o name apos) [] [] cpos) (z3H X.K T r to):=by
 intro pins s σ H Q I h;refine wpAny_Call_method0_late hbase hline (thn (ho pins s σ H _ I h) fun v s1 ⟨x,H1,I1,r1,ty,q1⟩=>?_);obtain⟨h1,h2⟩:=QE I1 r1 ty;exact⟨T,id,pa,slot,hty,h1,h2,Calls.callWith_builtin rfl (PySem.evalArgs_none (hm pins s1 σ H1 x [] v [] Q I1 r1 .nil q1))⟩
def KZ (pa:PlainAttrs T)(slot:Slot T name id)(hty:typeOf (.builtin id)=pure (.type "method_descriptor"))(hm:MtR X id r)(ho:PE X o to)(ha:PA X (e::es) t)
  (hbase:autoParam (attributeBase o name X.env (eval o X.env)=eval o X.env) au3._auto_1)
  (hfew:autoParam (((backTo cpos (starEach (e::es) X.env)).all (fun x=>!x.1)&&(backToKw cpos (keywordEach [] X.env)).all (fun x=>x.1.isSome)
   && decide ((e::es).length+([]:List Keyword).length+(if ([]:List Keyword).isEmpty then 0 else 1)<30))=true) au3._auto_1)
  (hline:autoParam ((apos.endLine==cpos.line)=true) au3._auto_1) (hs:autoParam (starEach (e::es) X.env=(false,eval e X.env)::starEach es X.env) au3._auto_1) (hplain:autoParam ((backTo cpos (starEach es X.env)).any (·.1)=false) au3._auto_1):
  PE X (.Call (.Attribute o name apos) (e::es) [] cpos) (tBM X.K T r to t):=by
 intro pins s σ H Q I h;refine wpAny_Call_method_late hbase hfew hline rfl (thn (ho pins s σ H _ I h) fun v s1 ⟨x,H1,I1,r1,ty,q1⟩=>?_);obtain⟨h1,h2⟩:=QE I1 r1 ty;refine⟨T,id,pa,slot,hty,h1,h2,?_⟩;have hA:=ha cpos pins s1 σ H1 _ I1 q1;rw[hs]at hA ⊢;refine Calls.callWith_builtin (by show (false||(backTo cpos (starEach es X.env)).any (·.1))=false;rw[hplain]<;>rfl) (Calls.evalArgs_plain ?_);exact thn hA fun us s2 ⟨vs,H2,I2,r2,q2⟩=>hm pins s2 σ H2 x vs v us Q I2 r1 r2 q2
end
def MtM (X:Cx)(id:String)(r:V->List V->Hp->VK->Prop):Prop:=
 ∀(pins:List (Addr×Obj)) (s:Shared) (σ:St) (H:Hp) (x:V) (xs:List V) (v:Value) (us:List Value) (Q:VK),Inv X pins σ H s->RelV x v->Vals xs us->r x xs H Q ->
  wpAny (model X.prog X.w) X.A (call (.builtin id) (v::us)) (EP X pins σ Q) X.xe s
theorem Vals.one:∀ {x:V} {us:List Value},Vals [x] us->∃u,us=[u]/\RelV x u
 | _,_,.cons r .nil=>⟨_,rfl,r⟩
theorem Vals.zero:∀ {us:List Value},Vals [] us->us=[]
 | _,.nil=>rfl
theorem Vals.dropLast {xs:List V}{us:List Value}(h:Vals xs us):Vals xs.dropLast us.dropLast:=by
 induction h with
 | nil=>exact .nil
 | cons r t ih =>
  cases t with
  | nil=>exact .nil
  | cons q t'=>exact .cons r ih
theorem Vals.rep {xs:List V}{us:List Value}(h:Vals xs us):∀k:Nat,Vals (List.replicate k xs).flatten (List.replicate k us).flatten
 | 0=>.nil
 | k+1=>by
  rw[tO,tO,rY,rY];exact Vals.append h (Vals.rep h k)
def Wk {α:Type}(l:List α):l.eraseIdx (l.length-1)=l.dropLast:=by
 induction l with
 | nil=>rfl
 | cons a r ih =>
  cases r with
  | nil=>rfl
  | cons b r =>
   have e:(a::b::r).length-1=((b::r).length-1)+1:=by
    have h1:(a::b::r).length=r.length+2:=rfl;have h2:(b::r).length=r.length+1:=rfl;omega
   rw[e,List.eraseIdx_cons_succ,ih]
   all_goals rfl
theorem kR (its:List Value):∀(k:Nat) (acc:List Value),
  List.foldl (fun x1 x2=>x1++x2) acc.toArray (List.replicate k its.toArray)=(acc++(List.replicate k its).flatten).toArray
 | 0,acc=>by simp
 | k+1,acc=>by
  have e:acc.toArray++its.toArray=(acc++its).toArray:=by simp
  have e2:(acc++its)++(List.replicate k its).flatten=acc++(List.replicate (k+1) its).flatten:=by
   rw[tO,rY,sP]
  rw[<-e2,<-kR its k (acc++its),<-e,tO,List.foldl_cons]
section
variable {X:Cx}{pins:List (Addr×Obj)}{σ:St}{H:Hp}{s:Shared}{l b:Addr}{xs ys zs:List V}
theorem Inv.lset {its its':List Value}{n:Nat}{f:Array Value->Array Value}{t':Nat}(I:Inv X pins σ H s)(hH:H l=some (.lst xs))
  (e:s.heap.get? l=some { cls:=.type "list",data:=.seq its.toArray n }) (hf:f its.toArray=its'.toArray) (hv:Vals ys its') (hz:ys.length<=sizeLine):
  Inv X pins σ (upd H l (.lst ys)) { s with heap:=s.heap.update l (Obj.mapSeq f),toks:=t' }:=by
 have q:=PySem.IsL.update e f;rw[hf]at q;refine I.write (x:=l) (e:=l) (by rw[hH];exact trivial) (.inl rfl) (fun b' u hb hu=>(Heap.get?_update_other s.heap (Obj.mapSeq f) (Ne.symm hb)).trans hu) ⟨_,q⟩ ?_;exact⟨hz,its',_,hv,q⟩
theorem Inv.lnew {its:List Value}{t':Nat}(I:Inv X pins σ H s)(hv:Vals ys its)(hz:ys.length<=sizeLine):
  Inv X pins σ (upd H s.heap.objs.size (.lst ys)) { s with heap:=s.heap.push { cls:=.type "list",data:=.seq its.toArray },toks:=t' }:=
 I.laid (fun _ _ q=>jYb _ q) (tQ _) ⟨hz,its,0,hv,jYd _ rfl⟩
theorem Inv.fresh (I:Inv X pins σ H s):H s.heap.objs.size=none:=I.hok.fresh (tQ _)
theorem Inv.lstM (I:Inv X pins σ H s)(hH:H l=some (.lst xs)):xs.length<=sizeLine/\∃(its:List Value) (n:Nat),Vals xs its/\xs.length=its.length/\s.heap.get? l=some { cls:=.type "list",data:=.seq its.toArray n }:=by
 obtain⟨z,its,n,r,e⟩:=I.hok l _ hH;exact⟨z,its,n,r,r.length,e⟩
def QR {n:Nat}(h:n<=sizeLine):Builtin.List.listTooLong n=false:=by
 unfold Builtin.List.listTooLong;exact decide_eq_false (by omega)
end
section
variable {X:Cx}
def Ks:V->List V->Hp->VK->Prop:=fun x vs H Q=>∃l xs y,x=.ref l/\vs=[y]/\H l=some (.lst xs)/\xs.length<sizeLine/\Q .non (upd H l (.lst (xs++[y])))
def Z7:MtM X "list.append" Ks:=by
 intro pins s σ H x vs v us Q I rx rv h;obtain⟨l,xs,y,rfl,rfl,hH,hz,q⟩:=h;cases rx;obtain⟨u,rfl,ru⟩:=rv.one;obtain⟨z,its,n,r,hl,e⟩:=I.lstM hH;refine call_meets F.slot_list_append ⟨_,e,rfl⟩ F.entry_list_append (F.args_list_append_2 _ _) (PySem.list_append l its.toArray n u (by rw[sD];omega)) ⟨e,?_⟩;refine⟨.non,_,I.lset (its':=its++[u]) hH e (by simp) (r.append (.cons ru .nil)) ?_,rfl,q⟩;rw[tT,rH];omega
def z3M:V->List V->Hp->VK->Prop:=fun x vs H Q=>∃l xs y,x=.ref l/\vs=[]/\H l=some (.lst xs)/\xs[xs.length-1]?=some y/\Q y (upd H l (.lst xs.dropLast))
def z1K:MtM X "list.pop" z3M:=by
 intro pins s σ H x vs v us Q I rx rv h;obtain⟨l,xs,y,rfl,rfl,hH,hy,q⟩:=h;cases rx;have hus:=rv.zero;subst hus;obtain⟨z,its,n,r,hl,e⟩:=I.lstM hH;obtain⟨u,hu,ru⟩:=r.get hy;have hy':its.toArray[its.toArray.size-1]?=some u:=by
  show its.toArray[its.length-1]?=some u;rw[<-Array.getElem?_toList,<-hl];exact hu
 refine call_meets F.slot_list_pop ⟨_,e,rfl⟩ F.entry_list_pop (F.args_list_pop_1 _) (MeetsSeq.list_pop_last l its.toArray n u hy' (by rw[sD];omega)) ⟨e,?_⟩;refine⟨y,_,I.lset (its':=its.dropLast) hH e ?_ r.dropLast ?_,ru,q⟩
 ·show its.toArray.eraseIdxIfInBounds (its.toArray.size-1)=its.dropLast.toArray;rw[sD,List.eraseIdxIfInBounds_toArray,Wk]
 ·rw[List.length_dropLast];omega
def z2u:R2:=fun x y H Q=>∃l b xs zs,x=.ref l/\y=.ref b/\H l=some (.lst xs)/\H b=some (.lst zs)/\xs.length+zs.length<=sizeLine/\∀p,H p=none->Q (.ref p) (upd H p (.lst (xs++zs)))
def z16:OpR X (binaryOp .Add) z2u:=by
 intro pins s σ H x y v u Q I rx ry h;obtain⟨l,b,xs,zs,rfl,rfl,hH,hB,hz,q⟩:=h;cases rx;cases ry;obtain⟨z,its,n,r,hl,e⟩:=I.lstM hH;obtain⟨z2,its2,n2,r2,hl2,e2⟩:=I.lstM hB;refine PySem.P.add_list e e2 ?_ (by rw[sD,sD];omega);have ea:its.toArray++its2.toArray=(its++its2).toArray:=by simp
 rw[ea];exact⟨.ref _,_,I.lnew (t':=s.toks) (r.append r2) (by rw[tT];omega),rfl,q _ I.fresh⟩
def VO:R2:=fun x y H Q=>∃l k xs,x=.ref l/\y=.int k/\H l=some (.lst xs)/\-(2 ^ 63)<=k/\k<2 ^ 63/\xs.length*k.toNat<=sizeLine /\
 ∀p,H p=none->Q (.ref p) (upd H p (.lst (List.replicate k.toNat xs).flatten))
def KD {α:Type}(xs:List α)(k:Nat):(List.replicate k xs).flatten.length=k*xs.length:=by
 induction k with
 | zero=>simp
 | succ k ih=>rw[tO,rY,tT,ih,Nat.succ_mul,Nat.add_comm]
def Q9:OpR X (binaryOp .Mult) VO:=by
 intro pins s σ H x y v u Q I rx ry h;obtain⟨l,k,xs,rfl,rfl,hH,h1,h2,hz,q⟩:=h;cases rx;obtain⟨t,rfl⟩:=ry;obtain⟨z,its,n,r,hl,e⟩:=I.lstM hH;have hlen:its.toArray.size*k.toNat<=sizeLine:=by rw[sD,<-hl];exact hz
 have hcap:¬its.toArray.size*k.toNat>(2 ^ 63-1)/8:=by
  have:(sizeLine:Nat)<=(2 ^ 63-1)/8:=by decide
  omega
 have hfit:¬(!Builtin.List.listFitsIndex k)=true:=by
  rw[fitsIndex_both h1 h2];exact tX
 have hlong:¬Builtin.List.listTooLong (its.toArray.size*k.toNat)=true:=by
  rw[QR hlen];exact tX
 have hnew:List.foldl (fun x1 x2=>x1++x2) #[] (List.replicate (if its.toArray.isEmpty=true then 0 else k.toNat) its.toArray)=(List.replicate k.toNat its).flatten.toArray:=by
  have f0:∀m:Nat,List.foldl (fun x1 x2=>x1++x2) #[] (List.replicate m its.toArray)=(List.replicate m its).flatten.toArray:=fun m=>by
   have:=kR its m [];rw[tN]at this;exact this
  rw[f0];cases its with
  | nil=>simp
  | cons a r'=>rw[if_neg (by simp)]
 refine wpAny_binaryOp_repeat_ref (T:="list") (U:="int") (by decide) ⟨_,e,rfl⟩ (fun s'=>typeIs_int s' k t) noFill_list_mul F.fills_int_mul F.slot_int_rmul repeat_list F.slot_int_index.lookup
  (call_meets F.slot_int_rmul (typeIs_int s k t) F.entry_int_rmul (F.args_int_rmul_2 _ _) (int___rmul___int_list k t l its.toArray n)
   ⟨e,rfl,⟨_,e,rfl⟩,call_meets F.slot_list_mul ⟨_,e,rfl⟩ F.entry_list_mul (F.args_list_mul_2 _ _) (AutoListH.list___mul___list_int_3 l its.toArray n k t hfit hcap hlong) ⟨e,?_⟩⟩)
 rw[hnew];exact⟨.ref _,_,I.lnew (t':=s.toks) (r.rep k.toNat) (by rw[KD,Nat.mul_comm];exact hz),rfl,q _ I.fresh⟩
end
section
variable {prog:Program}{w:World}{A:Around}{E:Value->Shared->Prop}{s:Shared}
end
section
variable {X:Cx}
end
section
variable {κ:Type}[DecidableEq κ]
def jg (kvs:List (κ×V))(k:κ):Option V:=(kvs.find? fun kv=>decide (kv.1=k)).map (·.2)
def vq (kvs:List (κ×V))(k:κ)(v:V):List (κ×V):=
 if (kvs.any fun kv=>decide (kv.1=k))=true then kvs.map (fun kv=>if kv.1=k then (kv.1,v) else kv) else kvs++[(k,v)]
def z4a (kvs:List (κ×V))(k:κ):List (κ×V):=kvs.filter fun kv=>decide (kv.1≠k)
def jA {p:κ×V}{r:List (κ×V)}{k:κ}(e:p.1=k):jg (p::r) k=some p.2:=by simp[jg,pO,e]
def qo {p:κ×V}{r:List (κ×V)}{k:κ}(e:¬p.1=k):jg (p::r) k=jg r k:=by simp[jg,pO,e]
def YA (kvs:List (κ×V))(k:κ)(v:V):(vq kvs k v).length<=kvs.length+1:=by
 unfold vq;split
 ·rw[tM];omega
 ·rw[tT,tF,tP];omega
theorem KV.val {kvs:List (κ×V)}{vs:List (κ×Value)}(r:KV kvs vs)(k:κ):RelO (jg kvs k) (valueAt vs k):=by
 unfold KV at r
 induction r with
 | nil=>exact True.intro
 | @cons p q ps qs h t ih =>
  obtain⟨h1,h2⟩:=h
  by_cases e:p.1=k
  ·have e':q.1=k:=h1.symm.trans e;have b:valueAt (q::qs) k=some q.2:=by simp[valueAt,pO,e']
   rw[jA e,b];exact h2
  ·have e':¬q.1=k:=fun z=>e (h1.trans z);have b:valueAt (q::qs) k=valueAt qs k:=by simp[valueAt,pO,e']
   rw[qo e,b];exact ih
theorem KV.any {kvs:List (κ×V)}{vs:List (κ×Value)}(r:KV kvs vs)(k:κ):(kvs.any fun kv=>decide (kv.1=k))=vs.any fun kv=>decide (kv.1=k):=by
 unfold KV at r
 induction r with
 | nil=>rfl
 | cons h t ih=>rw[gF,gF,ih,h.1]
def KV.repl {kvs:List (κ×V)}{vs:List (κ×Value)}(r:KV kvs vs)(k:κ){y:V}{u:Value}(ry:RelV y u):
  KV (kvs.map fun kv=>if kv.1=k then (kv.1,y) else kv) (vs.map fun kv=>if kv.1=k then (kv.1,u) else kv):=by
 unfold KV at r ⊢
 induction r with
 | nil=>exact .nil
 | @cons p q ps qs h t ih =>
  rw[tG,tG];refine .cons ?_ ih;obtain⟨h1,h2⟩:=h
  by_cases e:p.1=k
  ·rw[if_pos e,if_pos (h1.symm.trans e)];exact⟨h1,ry⟩
  ·rw[if_neg e,if_neg (fun z=>e (h1.trans z))];exact⟨h1,h2⟩
theorem KV.put {kvs:List (κ×V)}{vs:List (κ×Value)}(r:KV kvs vs)(k:κ){y:V}{u:Value}(ry:RelV y u):KV (vq kvs k y) (stored vs k u):=by
 unfold vq stored;rw[r.any k]
 by_cases e:(vs.any fun kv=>decide (kv.1=k))=true
 ·rw[if_pos e,if_pos e];exact r.repl k ry
 ·rw[if_neg e,if_neg e];exact Paired.snoc r ⟨rfl,ry⟩
theorem KV.length {kvs:List (κ×V)}{vs:List (κ×Value)}(r:KV kvs vs):kvs.length=vs.length:=Paired.length r
end
def WC {P:Program}{w:World}{k:Key}{u:Value}(r:RelV (kV k) u):(yc P w).is k u=true:=by
 cases k with
 | inl i=>obtain⟨t,e⟩:=(show ∃t,u=Value.int i t from r);subst e;exact YR P w i t
 | inr x=>obtain⟨t,e⟩:=(show ∃t,u=Value.str x t from r);subst e;exact Xl P w x t
 | non=>cases (show u=Value.none from r);exact Yq P w
theorem Zi {P:Program}{w:World}:∀ {ks:List Key} {us:List Value},Vals (ks.map kV) us->ItemsAre (yc P w) ks us
 | [],_,r=>by rw[sA]at r;cases r;exact .nil
 | k::ks,_,r=>by
  rw[tG]at r;cases r with
  | cons h t=>exact .cons (WC h) (Zi t)
abbrev KT (H:Hp):List (List Key×V)->List (List Key×Addr×Value)->Prop:=Paired fun p q=>p.1=q.1/\H q.2.1=some (.tup (p.1.map kV))/\RelV p.2 q.2.2
theorem KT.val {H:Hp}{kvs:List (List Key×V)}{xs:List (List Key×Addr×Value)}(r:KT H kvs xs)(k:List Key):RelO (jg kvs k) ((atKey xs k).map (·.2)):=by
 induction r with
 | nil=>exact True.intro
 | @cons p q ps qs h t ih =>
  obtain⟨h1,_,h2⟩:=h
  by_cases e:p.1=k
  ·have e':q.1=k:=h1.symm.trans e;have b:atKey (q::qs) k=some q.2:=by simp[atKey,pO,e']
   rw[jA e,b];exact h2
  ·have e':¬q.1=k:=fun z=>e (h1.trans z);have b:atKey (q::qs) k=atKey qs k:=by simp[atKey,pO,e']
   rw[qo e,b];exact ih
section
variable {P:Program}{w:World}{H:Hp}{h:Heap}{a:Addr}
def z0j {u:HO}(ok:HOk P w H h)(e:Rd H a u):ObjOk P w H h a u:=e.ok ok
def uZ {kvs:List (Key×V)}(ok:HOk P w H h)(e:Rd H a (.dK kvs)):kvs.length<=sizeLine/\(a==sysModules)=false/\∃vs,KV kvs vs/\h.DictOf (yc P w) a vs:=
 show ObjOk P w H h a (.dK kvs) from z0j ok e
def Xp {kvs:List (Key×V)}(ok:HOk P w H h)(e:H a=some (.dK kvs)):kvs.length<=sizeLine/\(a==sysModules)=false/\∃vs,KV kvs vs/\h.DictOf (yc P w) a vs:=uZ ok (.inl e)
def UH {ks:List Key}(ok:HOk P w H h)(e:H a=some (.tup (ks.map kV))):(tupleKind (yc P w)).is h ks a:=by
 obtain⟨_,its,r,o,h1,h2,_,n,h3⟩:=(show ObjOk P w H h a (.tup (ks.map kV)) from ok a _ e)
 exact⟨o,its.toArray,n,h1,h2,h3,by simpa using Zi r⟩
def z0k {kvs:List (List Key×V)}(ok:HOk P w H h)(e:Rd H a (.dT kvs)):kvs.length<=sizeLine/\(a==sysModules)=false /\
  ∃xs,KT H kvs xs/\h.DictOfH (tupleKind (yc P w)) a xs:=by
 obtain⟨z,y,xs,r,o,es,ep,h1,h2,h3,h4,h5⟩:=(show ObjOk P w H h a (.dT kvs) from z0j ok e)
 refine⟨z,y,xs,r,o,es,ep,h1,h2,h3,h4,fun x hx=>?_,h5⟩;have all:∀ {l:List (List Key×V)} {m:List (List Key×Addr×Value)},KT H l m->∀x∈m,(tupleKind (yc P w)).is h x.1 x.2.1:=by
  intro l m q
  induction q with
  | nil=>intro x hx;exact nomatch hx
  | @cons p q ps qs hq t ih =>
   intro x hx;rcases sF.mp hx with e|hx
   ·subst e;exact UH ok (by rw[<-hq.1];exact hq.2.1)
   ·exact ih x hx
 exact all r x hx
end
def DGet (H:Hp)(a:Addr)(y:V)(r:Option V):Prop:=
 (∃kvs k,Rd H a (.dK kvs)/\y=kV k/\r=jg kvs k)\/∃kvs k b,Rd H a (.dT kvs)/\y=.ref b/\H b=some (.tup (k.map kV))/\r=jg kvs k
def z4h (H:Hp)(a:Addr)(y v:V)(H':Hp):Prop:=
 (∃kvs k,H a=some (.dK kvs)/\y=kV k/\kvs.length<sizeLine/\H'=upd H a (.dK (vq kvs k v))) \/
 ∃kvs k b,H a=some (.dT kvs)/\y=.ref b/\H b=some (.tup (k.map kV))/\kvs.length<sizeLine/\H'=upd H a (.dT (vq kvs k v))
theorem DGet.k {H:Hp}{a:Addr}{kvs:List (Key×V)}{k:Key}(e:H a=some (.dK kvs)):DGet H a (kV k) (jg kvs k):=.inl ⟨kvs,k,.inl e,rfl,rfl⟩
section
variable {X:Cx}{pins:List (Addr×Obj)}{σ:St}{H:Hp}{s:Shared}{a:Addr}{y v:V}{u r:Value}{o:Option V}{A:Around}{E:Value->Shared->Prop}
theorem Inv.big (I:Inv X pins σ H s):sysModules<s.heap.objs.size:=by
 have h:mainGlobals<s.heap.objs.size:=(I.mod.glob.keeps I.bk).lt;exact Nat.lt_trans (by decide) h
def U5 {Q:Value->Shared->Prop}(hu:A.units+1<cLine)(I:Inv X pins σ H s)(g:DGet H a y (some v))(ry:RelV y u)(h:∀w' s',Inv X pins σ H s'->RelV v w'->Q w' s'):
  wpAny (model X.prog X.w) A (getItem (.ref a) u) Q E s:=by
 rcases g with⟨kvs,k,e,ey,l⟩|⟨kvs,k,b,e,ey,eb,l⟩
 ·subst ey;obtain⟨z,hd,vs,rel,dd⟩:=uZ I.hok e;obtain⟨w',hw,rw'⟩:=RelO.some_of (v:=v) (o:=valueAt vs k) (by rw[l];exact rel.val k);exact wpAny_getItem_of (WC ry) dd.mapOf hw (h w' _ (I.tok _) rw')
 ·subst ey;cases (show u=Value.ref b from ry);obtain⟨z,hd,xs,rel,dd⟩:=z0k I.hok e;obtain⟨w',hw,rw'⟩:=RelO.some_of (v:=v) (o:=(atKey xs k).map (·.2)) (by rw[l];exact rel.val k);obtain⟨p,hp,hp2⟩:=rL.mp hw;refine wpAny_getItem_heap (tupleKind_room_in1 hu) (UH I.hok eb) dd hp ?_;rw[hp2];exact h w' _ (I.tok _) rw'
def WZ {h':Heap}{t':Nat}{ob:HO}(I:Inv X pins σ H s)(mu:Mut (H a))(hs:Heap.SameBut a s.heap h')(he:∃q,h'.get? a=some q)(new:ObjOk X.prog X.w (upd H a ob) h' a ob):
  Inv X pins σ (upd H a ob) { s with heap:=h',toks:=t' }:=
 I.write (x:=a) (e:=a) mu (.inl rfl) (fun b q hb z=>(hs.2 b hb).trans z) he new
def Qo {P:Program}{w:World}{H':Hp}{h':Heap}{kvs:List (Key×V)}{vs:List (Key×Value)}(z:kvs.length<=sizeLine)(hd:(a==sysModules)=false)(rel:KV kvs vs)(dd:h'.DictOf (yc P w) a vs):
  ObjOk P w H' h' a (.dK kvs):=⟨z,hd,vs,rel,dd⟩
end
section
variable {X:Cx}{pins:List (Addr×Obj)}{σ:St}{H:Hp}{s:Shared}{a:Addr}{kvs:List (Key×V)}{k:Key}{u:Value}{A:Around}{E:Value->Shared->Prop}
def z3j {Q:Value->Shared->Prop}(I:Inv X pins σ H s)(e:Rd H a (.dK kvs))(h:∀t s',Inv X pins σ H s'->Q (.int kvs.length t) s'):wpAny (model X.prog X.w) A (call (.builtin "len") [.ref a]) Q E s:=by
 obtain⟨z,hd,vs,rel,dd⟩:=uZ I.hok e;refine call_len_dict hd dd (by rw[<-rel.length];rw[sizeLine_eq]at z;omega) ?_;rw[<-rel.length];exact h _ _ (I.tok _)
end
def z2o (i:Expr):Prop:=∀ov iv,subscripted i false ov iv=operate [ov,iv] (getItem ov iv)
def Kq {prog:Program}{w:World}{A:Around}{E:Value->Shared->Prop}{s:Shared}{env:Env}{value slice:Expr}{pos:Pos}{T id:String}{Q:Value->Shared->Prop}
  (hl:typeLookup (.type T) "__getitem__"=pure (some (.builtin id))) (hs:z2o slice)
  (h:wpAny (model prog w) A (eval value env) (fun o s₁=>wpAny (model prog w) A (eval slice env) (fun i s₂=>s₂.TypeIs o T/\wpAny (model prog w) A (getItem o i) Q E s₂) E s₁) E s):
  wpAny (model prog w) A (eval (.Subscript value slice pos) env) Q E s:=by
 refine Subscript_ (wpAny_mono h (fun o s₁ h₁=>wpAny_mono h₁ (fun i s₂ h₂=>?_) fun _ _ x=>x) fun _ _ x=>x);obtain⟨hT,h₂⟩:=h₂;unfold subscriptTail;refine wpAny_bind ?_;rw[getitemInPython_of_ne hT.not_modules];refine wpAny_bind (wpAny_specialOf hT hl ?_);have fin:wpAny (model prog w) A (subscripted slice false o i) (fun r s₃=>wpAny (model prog w) A (letTemporaryGo value o r >>= fun _=>pure r) Q E s₃) E s₂:=by
  rw[hs o i];exact wpAny_operating (wpAny_mono h₂ (fun r s₃ h₃=>wpAny_bind (wpAny_letTemporaryGo (wpAny_pure h₃))) fun _ _ x=>x)
 first
  | exact wpAny_pure (wpAny_bind fin)
  | exact wpAny_bind (wpAny_pure (wpAny_bind fin))
  | exact wpAny_bind fin
def X1 {X:Cx}{pins:List (Addr×Obj)}{σ:St}{H:Hp}{s:Shared}{a:Addr}{y:V}{o:Option V}(I:Inv X pins σ H s)(g:DGet H a y o):s.TypeIs (.ref a) "dict":=by
 rcases g with⟨kvs,k,e,_,_⟩|⟨kvs,k,b,e,_,_,_⟩
 ·obtain⟨_,_,vs,_,dd⟩:=uZ I.hok e;exact dd.typeIs
 ·obtain⟨_,_,xs,_,dd⟩:=z0k I.hok e;exact dd.typeIs
def z0l (td ty:TE):TE:=fun σ H Q=>td σ H fun x H1=>ty σ H1 fun y H2=>∃a v,x=.ref a/\DGet H2 a y (some v)/\Q v H2
section
variable {X:Cx}{o i e value:Expr}{pos pos' tpos:Pos}{td ty tv:TE}
def Ko (hu:X.A.units+1<cLine)(ho:PE X o td)(hi:PE X i ty)(hs:z2o i):PE X (.Subscript o i pos) (z0l td ty):=by
 intro pins s σ H Q I h;refine Kq PySem.F.slot_dict_getitem.lookup hs (thn (ho pins s σ H _ I h) fun u s1 ⟨x,H1,I1,rx,q1⟩=>thn (hi pins s1 σ H1 _ I1 q1) fun iv s2 ⟨y,H2,I2,ry,a,v,ex,g,q2⟩=>?_);subst ex;obtain rfl:u=Value.ref a:=rx;exact⟨X1 I2 g,U5 hu I2 g ry fun w' s3 I3 rw'=>⟨v,H2,I3,rw',q2⟩⟩
end
def Qh {P:Program}{w:World}{H:Hp}(h:Heap)(hb:sysModules<h.objs.size):ObjOk P w H (h.push { cls:=.type "dict",data:=.dict #[] }) h.objs.size (.dK []):=
 ⟨rG _,beq_eq_false_iff_ne.mpr (Ne.symm (sL hb)),[],.nil,Heap.DictOf.new h⟩
section
variable {X:Cx}{pos:Pos}
end
def Yi:List (TE×TE)->St->Hp->(List (V×V)->Hp->Prop)->Prop
 | [],_,H,Q=>Q [] H
 | (tk,tv)::r,σ,H,Q=>tk σ H fun x H1=>tv σ H1 fun y H2=>Yi r σ H2 fun ps H3=>Q ((x,y)::ps) H3
abbrev VV:List (V×V)->List (Value×Value)->Prop:=Paired fun p q=>RelV p.1 q.1/\RelV p.2 q.2
def PPs (X:Cx)(pos:Pos)(keys:List (Option Expr))(values:List Expr)(trs:List (TE×TE)):Prop:=
 ∀(pins:List (Addr×Obj)) (s:Shared) (σ:St) (H:Hp) (Q:List (V×V)->Hp->Prop),Inv X pins σ H s->Yi trs σ H Q ->
  wpAny (model X.prog X.w) X.A (evalPairs (pairTrees keys values X.env pos)) (fun vs s'=>∃ps H',Inv X pins σ H' s'/\VV ps vs/\Q ps H') X.xe s
def Kh {X:Cx}{pos:Pos}:PPs X pos [] [] []:=fun pins s σ H Q I h=>pairTrees_nil_walk ⟨[],H,I,.nil,h⟩
def UD {X:Cx}{pos:Pos}{k v:Expr}{ks:List (Option Expr)}{vs:List Expr}{tk tv:TE}{trs:List (TE×TE)}(hk:PE X k tk)(hv:PE X v tv)(hr:PPs X pos ks vs trs):
  PPs X pos (some k::ks) (v::vs) ((tk,tv)::trs):=fun pins s σ H Q I h =>
 pairTrees_cons_walk (thn (hk pins s σ H _ I h) fun u s1 ⟨x,H1,I1,rx,q1⟩=>thn (hv pins s1 σ H1 _ I1 q1) fun w2 s2 ⟨y,H2,I2,ry,q2⟩ =>
  thn (hr pins s2 σ H2 _ I2 q2) fun ws s3 ⟨ps,H3,I3,rel,q3⟩=>⟨(x,y)::ps,H3,I3,.cons ⟨rx,ry⟩ rel,q3⟩)
def yG (kvs more:List (Key×V)):List (Key×V):=more.foldl (fun acc kv=>vq acc kv.1 kv.2) kvs
def KV.merge:∀ {more:List (Key×V)} {rs:List (Key×Value)} {kvs:List (Key×V)} {vs:List (Key×Value)},KV more rs->KV kvs vs->KV (yG kvs more) (merged vs rs):=by
 intro more rs kvs vs r;unfold KV at r
 induction r generalizing kvs vs with
 | nil=>intro q;exact q
 | @cons p q ps qs h t ih =>
  intro r0;have e:KV (vq kvs p.1 p.2) (stored vs q.1 q.2):=by
   have:=r0.put p.1 h.2;rw[<-h.1];exact this
  exact ih e
theorem uz:∀(more kvs:List (Key×V)),(yG kvs more).length<=kvs.length+more.length
 | [],kvs=>by show kvs.length<=kvs.length+0;omega
 | p::r,kvs=>by
  have h1:=uz r (vq kvs p.1 p.2);have h2:=YA kvs p.1 p.2;show (yG (vq kvs p.1 p.2) r).length<=_;rw[tF];omega
theorem kd {P:Program}{w:World}:∀ {kvs:List (Key×V)} {ws:List (Value×Value)},VV (kvs.map fun kv=>(kV kv.1,kv.2)) ws->∃rs,Carries (yc P w) ws rs/\KV kvs rs
 | [],_,r=>by rw[sA]at r;cases r;exact⟨[],True.intro,.nil⟩
 | p::kvs,_,r=>by
  rw[tG]at r;cases r with
  | @cons a b as bs h t =>
   obtain⟨rs,c,q⟩:=kd (P:=P) (w:=w) t;obtain⟨b1,b2⟩:=b;exact⟨(p.1,b2)::rs,⟨WC h.1,rfl,c⟩,.cons ⟨rfl,h.2⟩ q⟩
def z2y (trs:List (TE×TE)):TE:=fun σ H Q=>∀p,H p=none->Yi trs σ (upd H p (.dK [])) fun ps H2=>H2 p=some (.dK [])/\∃kvs:List (Key×V),ps=kvs.map (fun kv=>(kV kv.1,kv.2))/\kvs.length<=15/\Q (.ref p) (upd H2 p (.dK (yG [] kvs)))
def K2 {X:Cx}{pos:Pos}{keys:List (Option Expr)}{values:List Expr}{trs:List (TE×TE)}(h:PPs X pos keys values trs)(hall:keys.all (·.isSome)=true)(hl:keys.length=values.length)(h0:keys≠[])
  (h15:keys.length<=15):PE X (.Dict keys values pos) (z2y trs):=by
 intro pins s σ H Q I q;have hn:=I.hok.fresh (tQ s.heap.objs.size);have I1:=I.laid (a:=s.heap.objs.size) (o:=.dK []) (h':=s.heap.push { cls:=.type "dict",data:=.dict #[] }) (t':=s.toks) (fun _ _ q=>jYb _ q) (tQ _) (Qh s.heap I.big);refine wpAny_Dict_walk (knd:=yc X.prog X.w) hall hl h0 h15 (thn (h pins _ σ _ _ I1 (q _ hn)) fun ws s2 ⟨ps,H2,I2,rel,e,kvs,ep,lk,q2⟩=>?_);subst ep;obtain⟨rs,c,rk⟩:=kd (P:=X.prog) (w:=X.w) rel;obtain⟨z,hd,vs0,r0,dd⟩:=Xp I2.hok e;cases r0;refine⟨rs,c,dd,fun h' dd' hs=>⟨.ref s.heap.objs.size,_,?_,rfl,q2⟩⟩;have hz:(yG [] kvs).length<=sizeLine:=by
  have h1:=uz kvs [];rw[tP]at h1;rw[sizeLine_eq];omega
 have he:∃q,h'.get? s.heap.objs.size=some q:=let ⟨q,_,_,hq,_⟩:=dd';⟨q,hq⟩;exact WZ I2 (by rw[e];exact True.intro) hs he (Qo hz hd (rk.merge .nil) dd')
structure M1 (X:Cx)(o:Expr)(m:Str)(apos:Pos)(e:Expr)(cpos:Pos):Prop where
 base:attributeBase o m X.env (eval o X.env)=eval o X.env
 few:((backTo cpos (starEach [e] X.env)).all (fun x=>!x.1)&&(backToKw cpos (keywordEach [] X.env)).all (fun x=>x.1.isSome)
  && decide (([e]:List Expr).length+([]:List Keyword).length+(if ([]:List Keyword).isEmpty then 0 else 1)<30))=true
 line:(apos.endLine==cpos.line)=true
 trees:backTo cpos (starEach [e] X.env)=[(false,eval e X.env)]
structure M2 (X:Cx)(o:Expr)(m:Str)(apos:Pos)(e f:Expr)(cpos:Pos):Prop where
 base:attributeBase o m X.env (eval o X.env)=eval o X.env
 few:((backTo cpos (starEach [e,f] X.env)).all (fun x=>!x.1)&&(backToKw cpos (keywordEach [] X.env)).all (fun x=>x.1.isSome)
  && decide (([e,f]:List Expr).length+([]:List Keyword).length+(if ([]:List Keyword).isEmpty then 0 else 1)<30))=true
 line:(apos.endLine==cpos.line)=true
 trees:backTo cpos (starEach [e,f] X.env)=[(false,eval e X.env),(false,eval f X.env)]
section
variable {X:Cx}{pins:List (Addr×Obj)}{σ:St}{H:Hp}{s:Shared}{a:Addr}{y d:V}{u r:Value}{o:Option V}{A:Around}{E:Value->Shared->Prop}
end
section
variable {X:Cx}{o e f:Expr}{apos cpos:Pos}{td ty tx:TE}
end
section
variable {X:Cx}{pins:List (Addr×Obj)}{σ:St}{H:Hp}{s:Shared}{a:Addr}{kvs:List (Key×V)}{A:Around}{E:Value->Shared->Prop}
end
section
variable {X:Cx}{pins:List (Addr×Obj)}{σ:St}{H:Hp}{s:Shared}{a:Addr}{y:V}{u:Value}{A:Around}{E:Value->Shared->Prop}
end
end L2
namespace Att
open PySem PySem.W PySem.Calls PyProof.Rows
def j7 {P:Params}{h:Heap}:∀(ns:List Int) (vs:List Value),WellAll P h vs (ns.map WData.int)->IntsAre vs ns:=by
 intro ns
 induction ns with
 | nil =>
  intro vs w;rw[sA]at w;cases w;exact .nil
 | cons n ns ih =>
  intro vs w;rw[tG]at w;cases w with
  | cons a b =>
   cases a;exact .cons _ _ (ih _ b)
def U0 {l:OpenLaw}{n:Nat}(hn:l.most=some n){P:Params}{h:Heap}{args:List WData}{vals:List Value}
  (hpre:l.row.toRowW.claim.pre args=true) (hwl:WellAll P h vals args):
  ∃a vs ns,vals=[Value.ref a]/\args=[WData.list (ns.map WData.int)]/\h.get? a=some { cls:=.type "list",data:=.seq vs.toArray }/\IntsAre vs ns/\ns.length<=n:=by
 have hsh:WShape.hasAll [] args [.list .int]=true:=(pre_splitW hpre).1;have hc:l.pre.holds [] { args:=args }=true:=(pre_splitW hpre).2;obtain⟨d,r,rfl,h1,h2⟩:=hasAllW_cons hsh;obtain rfl:=hasAllW_nil h2;obtain⟨xs,rfl,h3⟩:=hasW_list h1;obtain⟨ns,rfl⟩:=items_int h3;have hlen:ns.length<=n:=by
  unfold OpenLaw.pre at hc;have h4:(WTm.not (.lt (.lit (.int (n:Int))) (.len (.arg 0)))).holds [] { args:=[.list (ns.map .int)] }=true:=by
   have h4:=(holds_andW hc).1;rw[hn]at h4;exact h4
  have h5:=condW_of h4 (w_not (w_lt w_lit (w_len_list (w_arg rfl))));rw[tM]at h5;refine Nat.le_of_not_lt fun q=>?_;have q':(n:Int)<((ns.length:Nat):Int):=by omega
  first
   | (rw[decide_eq_true q']at h5;exact absurd h5 (by decide))
   | (simp at h5;omega)
 cases hwl with
 | cons w1 w2 =>
  cases w2;cases w1 with
  | list ho hall=>exact⟨_,_,ns,rfl,rfl,ho,j7 ns _ hall,hlen⟩
def U3 (l:OpenLaw)(args:List WData):l.row.toRowW.claim.post args (.bool true) args=true:=
 postW_of (r:=l.row.toRowW) (X:=(true==true))
  (show WShape.has [] (.bool true) .bool=true by first|rfl|decide|simp[WShape.has,WShape.arms,WShape.armsAll])
  (show (WTm.eq .res (.lit (.bool true))).value [] { args:=args,res:=some (.bool true),after:=args }=some (.bool (true==true)) from w_eq_bool (w_res rfl) w_lit) rfl
def attach_call {l:OpenLaw}{n:Nat}{q:Program}{loose:List Str}{XP:(Str->Option Value)->Heap->Prop}{YP:World->Heap->Prop}{d:DefRec}
  (hn:l.most=some n) (hdf:d.params.defaults=[])
  (call:∀(w:World) (s₀ s₁:Shared) (mg mb:Str->Option Value) (fa:Addr) (o:Obj) (pm cd doc:Value) (a:Addr) (vs:List Value) (ns:List Int),
   Ground q loose [] XP w s₀ mg mb s₁.heap->YP w s₁.heap ->
   s₁.heap.get? fa=some o->o.data=.func (docDef d.name d.params d.body d.scope pm cd doc)->s₁.heap.CodeRec cd d.name->mg d.name=some (.ref fa) ->
   s₁.heap.get? a=some { cls:=.type "list",data:=.seq vs.toArray }->IntsAre vs ns->ns.length<=n->s₁.gens=#[] ->
   codeAny (model l.prog w) callerA (.call (.ref fa) ⟨[.ref a],[]⟩) (fun r s'=>r=.ok (.ret (.bool true))/\OldK s₁.heap s'.heap/\s'.os=s₁.os/\AllBare s'.gens) s₁):
  WalkO q loose XP YP l.row.toRowW d [] (fun f vs=>PySem.call f vs):=by
 intro w s₀ s₁ mg mb G Y fa o pm cd doc dV kV ho hd hcd hD hmg hg args vals as hpre hlay hrd hwl hlo;obtain rfl:dV=.none:=Dflts.none hD hdf;obtain rfl:kV=.none:=Dflts.noKw hD;obtain⟨a,vs,ns,rfl,rfl,hobj,hints,hlen⟩:=U0 hn hpre hwl;refine enter_call (codeAny_mono (call w s₀ s₁ mg mb fa o pm cd doc a vs ns G Y ho (fd_plain hd) hcd hmg hobj hints hlen hg) fun r s' hq=>?_);obtain⟨rfl,h2,h3,h4⟩:=hq;exact⟨.inl ⟨.bool true,.bool true,[],rfl,fun _=>rfl,.bool true,U3 l _,fun _=>⟨List.Pairwise.nil,fun _ hm=>(nomatch hm)⟩⟩,h2,h3,h4⟩
section
variable {prog:Program}{w:World}{A:Around}{E:Value->Shared->Prop}{s:Shared}{K:Frag}
end
end Att
namespace L2
open PySem PySem.Spec PyProof.Rows
theorem Zg:∀ {vs:List Value} {ns:List Int},IntsAre vs ns->Vals (ns.map V.int) vs
 | _,_,.nil=>.nil
 | _,_,.cons n t h=>.cons ⟨t,rfl⟩ (Zg h)
def z3X (H:Hp):Prop:=∀b,H b=none\/∃o xs,H b=some (.frz o (.lst xs))
def defArgs (s:Stmt):Arguments:=match s with
 | .FunctionDef _ a _ _ _ _ _ _ _ _=>a
 | _=>{ posonlyargs:=[],args:=[],vararg:=none,kwonlyargs:=[],kw_defaults:=[],kwarg:=none,defaults:=[] }
def defBody (s:Stmt):List Stmt:=match s with
 | .FunctionDef _ _ b _ _ _ _ _ _ _=>b
 | _=>[]
def defScope (s:Stmt):Scope:=match s with
 | .FunctionDef _ _ _ _ _ _ sc _ _ _=>sc
 | _=>{ kind:=.function,names:=[],isGenerator:=false,isCoroutine:=false }
abbrev CX0:CXT:=fun _ _ _ _ _ _=>False
structure Fun (K:jJa)(x qual:Str)(st:Stmt)(f:Addr)(fd:FuncData):Prop where
 ex:∃(oc:Value) (od:Option Addr) (kV doc pm:Value) (an:Option Addr) (cdv ct:Value) (osl:Array (Option Value)),
  fd=jJb x qual (defArgs st) (defBody st) (defScope st) .none kV doc pm an cdv ct/\K.lookup f=some ⟨oc,od,.func fd,osl⟩/\jJf K cdv qual=true
 kp:jJh K (.ref f)=true
section
variable {P:Program}{w:World}{K:jJa}{mg:Str->Option Value}{base:Heap}
def Fun.binds {x qual:Str}{st:Stmt}{f:Addr}{fd:FuncData}{ps:List Str}(F:Fun K x qual st f fd)
  (h:∀(kV doc pm:Value) (an:Option Addr) (cdv ct:Value) (us:List Value),us.length=ps.length->bindArgs (jJb x qual (defArgs st) (defBody st) (defScope st) .none kV doc pm an cdv ct) ⟨us,[]⟩=pure (ps.zip us)):Binds K fd ps []:=by
 obtain⟨oc,od,kV,doc,pm,an,cdv,ct,osl,rfl,lk,hcd⟩:=F.ex;exact .all (h kV doc pm an cdv ct)
def UK {x qual:Str}{st:Stmt}{f:Addr}{oc:Value}{od an:Option Addr}{osl:Array (Option Value)}{kV doc pm cdv ct:Value}(l:K.lookup f=some ⟨oc,od,.func (jJb x qual (defArgs st) (defBody st) (defScope st) .none kV doc pm an cdv ct),osl⟩)
  (c:jJf K cdv qual=true) (k:jJh K (.ref f)=true):Fun K x qual st f (jJb x qual (defArgs st) (defBody st) (defScope st) .none kV doc pm an cdv ct):=⟨⟨oc,od,kV,doc,pm,an,cdv,ct,osl,rfl,l,c⟩,k⟩
end
section
variable {X:Cx}
def pv (i:Nat){x:Str}{pos:Pos}(hN:autoParam (X.N[i]?=some x) au3._auto_1)(hv:autoParam (Vis X.env.scope x) au4._auto_1)(hd:autoParam ((x==("__debug__":Str))=false) au1._auto_1)
  (hcd:autoParam ((x==("__classdict__":Str))=false) au1._auto_1):PE X (.Name x pos) (xE i):=uQ hN hv hd hcd
def VI:CallR X (.builtin "len") (fun xs H Q=>∃a kvs,xs=[V.ref a]/\H a=some (.dK kvs)/\Q (.int kvs.length) H):=by
 intro pins s σ H xs us Q I r h;obtain⟨a,kvs,rfl,ha,q⟩:=h;obtain⟨u,rfl,ru⟩:=vL r;cases ru;exact z3j I (.inl ha) fun t s' I'=>⟨.int kvs.length,H,I',⟨t,rfl⟩,q⟩
end
def Same (H H':Hp):Prop:=∀b o,H b=some o->H' b=some o
theorem Same.refl (H:Hp):Same H H:=fun _ _ h=>h
theorem Same.trans {H H1 H2:Hp}(a:Same H H1)(b:Same H1 H2):Same H H2:=fun c o h=>b c o (a c o h)
section
variable {κ:Type}[DecidableEq κ]
end
def z2K (fr:List Env)(H:Hp)(old:Addr->Prop)(e:Addr)(cls:Value)(h:Heap):Prop:=
 ∃(B:Heap) (a0:Value),Heap.FlyingW B fr e cls a0 h/\∀b o,h.get? b=some o->b∉frs fr->(H b≠none\/old b)->B.get? b=some o
def cxx (P:Program)(w:World):CXT:=fun outer H s E ev s'=>∃(e:Addr) (cls:Value) (H':Hp),ev=.ref e/\s'.os=s.os/\AllBare s'.gens /\
 Un (frs outer) [] H H' s.heap s'.heap/\HOk P w H' s'.heap/\z2K outer H' (fun b=>∃o,s.heap.get? b=some o) e cls s'.heap/\E cls none H'
theorem ObjOk.there {P:Program}{w:World}{H:Hp}{h:Heap}{a:Addr}{o:HO}(x:ObjOk P w H h a o):∃ob,h.get? a=some ob:=by
 cases o with
 | lst xs=>obtain⟨_,_,_,_,e⟩:=x;exact⟨_,e⟩
 | tup xs=>obtain⟨_,_,_,_,e,_⟩:=x;exact⟨_,e⟩
 | dK kvs=>obtain⟨_,_,_,_,o,_,_,e,_⟩:=x;exact⟨_,e⟩
 | dT kvs=>obtain⟨_,_,_,_,o,_,_,e,_⟩:=x;exact⟨_,e⟩
 | set S n=>obtain⟨o,_,_,_,e,_⟩:=x;exact⟨_,e⟩
 | ins C dx fs=>obtain⟨_,_,_,e,_⟩:=x;exact⟨_,e⟩
 | own y=>obtain⟨_,e⟩:=x;exact⟨_,e⟩
 | xd fs=>obtain⟨_,⟨_,_,_,e,_⟩,_⟩:=x;exact⟨_,e⟩
 | rng lo hi=>obtain⟨_,_,_,e⟩:=x;exact⟨_,e⟩
 | frz ob u=>obtain⟨e,_⟩:=x;exact⟨_,e⟩
 | tbl ps=>obtain⟨_,e,_⟩:=x;exact⟨_,e⟩
 | met f y=>exact⟨_,(show h.get? a=some _ from x)⟩
 | ext φ=>obtain⟨_,⟨_,e⟩,_⟩:=x;exact⟨_,e⟩
section
variable {X:Cx}{pins:List (Addr×Obj)}{σ:St}{H:Hp}{s:Shared}
def Inv.trkNo (I:Inv X pins σ H s){b:Addr}{u:HO}(q:H b=some u):b∉frs X.stack:=fun m=>by
 have z:=I.stkFree b m;rw[q]at z;cases z
def Inv.oldNo (I:Inv X pins σ H s)(hst:X.stack=X.env::X.outer)(hf:X.env.frame=some X.env.locals){b:Addr}{o:Obj}(q:X.s₀.heap.get? b=some o)(n:b∉X.fs):b∉frs X.stack:=fun m=>by
 rcases sF.mp (I.stkSub b m)with z|z
 ·exact absurd z (sL (sN (jYc q) I.ok.above))
 ·exact n z
def Jm {h' B:Heap}{e:Addr}{cls a0:Value}{E:XK}(I:Inv X pins σ H s)(hst:X.stack=X.env::X.outer)(hf:X.env.frame=some X.env.locals)(hex:X.ex=[])
  (fl:Heap.FlyingW B X.outer e cls a0 h') (cov:∀b o,s.heap.get? b=some o->b∉frs X.stack->(H b≠none\/∃o,X.s₀.heap.get? b=some o)->B.get? b=some o)
  (up:s.heap.UpToSlots h') (hE:E cls none H):cxx X.prog X.w X.outer X.H₀ X.s₀ E (.ref e) { s with heap:=h' }:=by
 have nex:∀b:Addr,b∉X.ex:=fun b z=>by rw[hex]at z;cases z
 have trkd:∀b u v,H b=some u->s.heap.get? b=some v->h'.get? b=some v:=fun b u v q r=>fl.1 b v (cov b v r (I.trkNo q) (.inl (by rw[q];simp)));have oldd:∀b o v,X.s₀.heap.get? b=some o->b∉X.fs->s.heap.get? b=some v->h'.get? b=some v:=fun b o v q n r=>fl.1 b v (cov b v r (I.oldNo hst hf q n) (.inr ⟨o,q⟩));have frms:∀b o,b∈X.fs->s.heap.get? b=some o->∃sl,h'.get? b=some { o with slots:=sl }:=fun b o hb q=>by
  obtain⟨_,o2,ho2,nf⟩:=I.funs.mem hb;rw[q]at ho2;cases ho2;exact up b o q nf
 refine⟨e,cls,H,rfl,I.os,I.bare,⟨fun b o q n hb hx=>?_,fun b o q n hb hx=>?_,fun b o q n hx=>I.base.free b o q n (nex b),fun b o q hx=>?_,I.base.tups,I.base.frzs,I.base.tbls⟩,fun b u q=>?_,⟨B,a0,fl,fun b o q n hor=>?_⟩,hE⟩
 ·exact oldd b o o q hb (I.base.keep b o q n hb (nex b))
 ·obtain⟨sl,e1⟩:=I.base.slot b o q n hb (nex b);obtain⟨sl',e2⟩:=frms b _ hb e1;exact⟨sl',e2⟩
 ·obtain⟨o1,e1⟩:=I.base.there b o q (nex b)
  by_cases hb:b∈X.fs
  ·obtain⟨sl,e2⟩:=frms b o1 hb e1;exact⟨_,e2⟩
  ·exact⟨o1,oldd b o o1 q hb e1⟩
 ·refine (I.hok b u q).stay (fun c v hc r=>?_) (fun _ z=>z) fun _ _ z=>z;rcases hc with z|z
  ·exact trkd c u v (by rw[z];exact q) r
  ·exact trkd c _ v z r
 ·have q:h'.get? b=some o:=q;rcases hor with hb|⟨o0,e0⟩
  ·obtain⟨u,hu⟩:=Option.ne_none_iff_exists'.mp hb;obtain⟨o1,e1⟩:=(I.hok b u hu).there;have:=trkd b u o1 hu e1;rw[q]at this;cases this;exact cov b _ e1 (I.trkNo hu) (.inl hb)
  ·obtain⟨o1,e1⟩:=I.base.there b o0 e0 (nex b);have:=oldd b o0 o1 e0 n e1;rw[q]at this;cases this;exact cov b _ e1 (I.oldNo hst hf e0 n) (.inr ⟨o0,e0⟩)
end
section
variable {P:Program}{w:World}{K:jJa}{mg:Str->Option Value}{base:Heap}{N:List Str}{qual:Str}{scope:Scope}{f:Addr}{cd:Value}{A:Around}{outer:List Env}{s:Shared}{H:Hp}{E:XK}
def zw:xl (cxx P w) (wu (cxx P w) P w K mg base N qual scope f cd A outer s H E) E:=by
 intro pins σ H1 s1 ev s' I hq;obtain⟨e,cls,H',rfl,os,bare,un,hok,⟨B,a0,fl,cov⟩,hE⟩:=hq;have I':=I.call' (ch:=[]) os un hok bare (fun b z=>nomatch z);have hfr:(A.deeper (envOfC qual scope s.heap.objs.size f cd)).frames=some (envOfC qual scope s.heap.objs.size f cd::outer):=I.ok.frames;refine wpAny_leaves_onW (L:=s.heap.objs.size) hfr rfl fl fun h' fl' up=>?_;exact Jm (E:=E) I' rfl rfl rfl fl' (fun b o e1 e2 e3=>cov b o e1 e2 (by
  rcases e3 with z|⟨o0,z⟩
  ·exact .inl z
  ·exact .inr (I.base.there b o0 z (fun q=>nomatch q)))) up hE
def ug {X:Cx}:xl (cxx P w) X (fun _ _ _=>False):=fun _ _ _ _ _ _ _ ⟨_,_,_,_,_,_,_,_,_,z⟩=>z.elim
def QN {outer:List Env}{H:Hp}{s:Shared}{e:Value}{s':Shared}(h:cxx P w outer H s (fun _ _ _=>False) e s'):False:=let ⟨_,_,_,_,_,_,_,_,_,z⟩:=h;z
end
structure ErrCls (K:jJa)(mg:Str->Option Value)(x:Str)(C:Addr)(bm:List Value)(newId:String):Prop where
 gl:mg x=some (.ref C)
 own:∀h:Heap,K.In h->h.Ns mainGlobals mg->OwnCls x C bm newId mg h
structure ErrC (K:jJa)(x:Str)(C:Addr):Prop where
 ns:jJn K mainGlobals x=some (some (.ref C))
 ex:PySem.W.excIn K C [.type "ValueError",.type "Exception",.type "BaseException",.type "object"] "ValueError.__new__"=true
section
variable {X:Cx}{pins:List (Addr×Obj)}{σ:St}{H:Hp}{s:Shared}
end
abbrev Cx.within (X:Cx)(e:Addr)(oe:Obj):Cx:={ X with A:=X.A.mark (some (.ref e)),calm:=false,pn:=X.pn++[(e,oe)],xe:=fun _ _=>False }
section
variable {X:Cx}{pins:List (Addr×Obj)}{σ:St}{H:Hp}{s:Shared}{e:Addr}{oe:Obj}
end
structure ErrI (K:jJa)(C:Addr):Prop where
 ga:jJc K (.ref C) "__getattribute__"=some (some (.builtin "BaseException.__getattribute__"))
 gt:jJc K (.ref C) "__getattr__"=some none
 cl:jJc K (.ref C) "__class__"=some (some (.builtin "object.__class__"))
 sp:jJv K (.builtin "object.__class__") "__get__"=some (some (.builtin "getset_descriptor.__get__"))
 tk:PySem.W.takesIn K (.builtin "object.__class__")=some true
 mo:jJw K C (.type "object")=some true
 mb:jJw K C (.type "BaseException")=some true
 it:(PySem.W.clsIn K C).isSome=true
section
open PySem.W Builtin Builtin.ObjectAttr Builtin.Getset_descriptor
variable {prog:Program}{w:World}{A:Around}{E:Value->Shared->Prop}{s:Shared}{K:Frag}{e C:Addr}
end
section
open PySem.W
variable {K:Frag}{e C:Addr}
end
inductive IsTy (K:jJa) (pn:List (Addr×Obj)) (H:Hp):V->Value->Prop where
 | of {x:V} {t:Value} (h:TyOf K H x t):IsTy K pn H x t
 | frd {a:Addr} {o:Obj} {kvs:List (Key×V)} (e:H a=some (.frz o (.dK kvs))):IsTy K pn H (.ref a) (.type "dict")
 | exc {a C:Addr} {oe:Obj} (hm:(a,oe)∈pn) (hc:oe.cls=.ref C) (c:ErrI K C):IsTy K pn H (.ref a) (.ref C)
inductive ClV:V->Value->Prop where
 | ref (a:Addr):ClV (.ref a) (.ref a)
 | ty (n:String):ClV (.ty n) (.type n)
section
variable {X:Cx}{pins:List (Addr×Obj)}{σ:St}{H:Hp}{s:Shared}
end
def vc (cells:List (Str×Addr)):List (Str×NameKind)->List (Str×Addr)->List (Str×Addr)
 | [],acc=>acc
 | (n,k)::r,acc=>vc cells r (if (k==.free)=true then (n,(cells.lookup n).getD 0)::acc else acc)
def kQ {scope:Scope}{env:Env}(h:∀y∈scope.names,y.2=.free->∃c,env.cells.lookup y.1=some c):closureFor scope env=pure (vc env.cells scope.names []):=by
 have go:∀(l:List (Str×NameKind)) (acc:List (Str×Addr)),(∀y∈l,y.2=.free->∃c,env.cells.lookup y.1=some c) ->
   (forIn l acc fun (x:Str×NameKind) (r:List (Str×Addr))=>(if (x.2==.free)=true then (do let a <-cellOf env x.1;pure (ForInStep.yield ((x.1,a)::r))) else pure (ForInStep.yield r):Sem (ForInStep (List (Str×Addr)))))=pure (vc env.cells l acc):=by
  intro l
  induction l with
  | nil=>intro acc _;rfl
  | cons x r ih =>
   intro acc hx;obtain⟨n,k⟩:=x;rw[List.forIn_cons];have hr:=fun acc=>ih acc fun y hy=>hx y (tW _ hy)
   by_cases hk:(k==NameKind.free)=true
   ·obtain⟨c,hc⟩:=hx (n,k) tU (by simpa using hk);have hc':env.cells.lookup n=some c:=hc;have e1:cellOf env n=pure c:=by unfold cellOf;rw[hc']
    simp only[hk,if_true,e1,pure_bind];unfold vc;rw[if_pos hk,hc'];exact hr _
   ·simp only[hk,tJ,if_false,pure_bind];unfold vc;rw[if_neg hk];exact hr _
 unfold closureFor;have e:=go scope.names [] h;simp only[bind_pure_comp,map_pure]at e ⊢
 first|exact e|(simp only[e,bind_pure];done)|(rw[show (forIn scope.names ([]:List (Str×Addr)) _)=_ from e];rfl)
theorem qe {cells:List (Str×Addr)}{x:Str}{c:Addr}:∀ {names:List (Str×NameKind)} {acc:List (Str×Addr)},(vc cells names acc).lookup x=some c->acc.lookup x=some c\/((x,NameKind.free)∈names/\c=(cells.lookup x).getD 0)
 | [],acc,h=>.inl h
 | (n,k)::r,acc,h=>by
  unfold vc at h;rcases qe h with z|⟨z,e⟩
  ·by_cases hk:(k==NameKind.free)=true
   ·rw[if_pos hk]at z
    by_cases hx:(x==n)=true
    ·rw[sU,hx]at z;have e1:x=n:=by simpa using hx
     have e2:k=NameKind.free:=by simpa using hk
     subst e1 e2;exact .inr ⟨tU,(jYe z).symm⟩
    ·have hx':(x==n)=false:=by simpa using hx
     rw[sU,hx']at z;exact .inl z
   ·rw[if_neg hk]at z;exact .inl z
  ·exact .inr ⟨tW _ z,e⟩
theorem qB {cells:List (Str×Addr)}{x:Str}:∀ {names:List (Str×NameKind)} {acc:List (Str×Addr)},((x,NameKind.free)∈names\/∃c,acc.lookup x=some c)->∃c,(vc cells names acc).lookup x=some c
 | [],acc,h=>by
  rcases h with h|h
  ·cases h
  ·exact h
 | (n,k)::r,acc,h=>by
  unfold vc;refine qB ?_;rcases h with h|⟨c,h⟩
  ·rcases sF.mp h with z|z
   ·cases z;refine .inr ⟨(cells.lookup x).getD 0,?_⟩;rw[if_pos (by decide),sU];simp only[beq_self_eq_true]
   ·exact .inl z
  ·by_cases hk:(k==NameKind.free)=true
   ·rw[if_pos hk]
    by_cases hx:(x==n)=true
    ·exact .inr ⟨_,by rw[sU,hx]⟩
    ·have hx':(x==n)=false:=by simpa using hx
     exact .inr ⟨c,by rw[sU,hx'];exact h⟩
   ·rw[if_neg hk];exact .inr ⟨c,h⟩
theorem xW {env:Env}{x:Str}{k:NameKind}:∀ {names:List (Str×NameKind)},(names.map fun (n,k)=>if (k==NameKind.free&&env.scope.kind==.function&&env.kindOf n==some .cell) then (n,NameKind.cell) else (n,k)).lookup x=some k ->
  ∃k',names.lookup x=some k'/\(k=k'\/(k'=.free/\k=.cell))
 | [],h=>by cases h
 | (n,j)::r,h=>by
  rw[tG]at h
  by_cases hx:(x==n)=true
  ·refine⟨j,by rw[sU,hx],?_⟩;dsimp only at h
   by_cases hc:(j==NameKind.free&&env.scope.kind==.function&&env.kindOf n==some .cell)=true
   ·rw[if_pos hc,sU,hx]at h;simp only[sR]at hc;exact .inr ⟨by simpa using hc.1.1,(jYe h).symm⟩
   ·rw[if_neg hc,sU,hx]at h;exact .inl (jYe h).symm
  ·have hx':(x==n)=false:=by simpa using hx
   have e:(r.map fun (n,k)=>if (k==NameKind.free&&env.scope.kind==.function&&env.kindOf n==some .cell) then (n,NameKind.cell) else (n,k)).lookup x=some k:=by
    dsimp only at h
    by_cases hc:(j==NameKind.free&&env.scope.kind==.function&&env.kindOf n==some .cell)=true
    ·rw[if_pos hc,sU,hx']at h;exact h
    ·rw[if_neg hc,sU,hx']at h;exact h
   obtain⟨k',e1,e2⟩:=xW e;exact⟨k',by rw[sU,hx'];exact e1,e2⟩
structure CompScope (X:Cx)(N':List Str)(fr:List (Option Nat))(scope:Scope):Prop where
 kind:scope.kind=.function
 nocell:∀y∈scope.names,y.2≠.cell
 loc:∀y∈scope.names,y.2=.local->scope.names.lookup y.1=some .local
 free:∀y∈scope.names,y.2=.free->∃c,X.env.cells.lookup y.1=some c
 len:fr.length=N'.length
 fre:∀(j i:Nat) (x:Str),fr[j]?=some (some i)->N'[j]?=some x->X.N[i]?=some x/\scope.names.lookup x=some .free/\(X.env.kindOf x=some .cell\/X.env.kindOf x=some .free)
def vg (fr:List (Option Nat))(σ:St):St:=fr.map fun o=>o.bind fun i=>(σ[i]?).join
def y4 (X:Cx)(scope:Scope)(N':List Str)(s₃:Shared)(H₃:Hp)(fp:List Addr)(pins:List (Addr×Obj)):Cx:=
 { X with N:=N',s₀:=s₃,H₀:=H₃,env:=compEnvC scope (vc X.env.cells scope.names []) s₃.heap.objs.size X.env,outer:=X.stack,stack:=X.stack,ex:=fp,fn:=fun _=>false,pn:=X.pn++pins,xe:=fun _ _=>False }
section
variable {X:Cx}{pins:List (Addr×Obj)}{σ:St}{H:Hp}{s:Shared}{N':List Str}{fr:List (Option Nat)}{scope:Scope}{fp:List Addr}
def xJ (S:CompScope X N' fr scope){x:Str}{c:Addr}(h:(vc X.env.cells scope.names []).lookup x=some c):X.env.cells.lookup x=some c:=by
 rcases qe h with z|⟨z,e⟩
 ·cases z
 ·obtain⟨c',hc⟩:=S.free _ z rfl;have hc:X.env.cells.lookup x=some c':=hc;rw[hc]at e;rw[hc,e];rfl
def Kf (I:Inv X pins σ H s)(S:CompScope X N' fr scope)(hf:∀b∈fp,jf X pins H b)(hlt:∀b∈fp,b<s.heap.objs.size):(y4 X scope N' s H fp pins).Ok:=by
 refine⟨I.ok.mod,S.kind,I.ok.glob,I.ok.blt,tQ _,fun x y c h1 h2=>I.ok.inj x y c (xJ S h1) (xJ S h2),fun x hx=>?_,(fun x c z=>by cases z),I.ok.hd,I.ok.frames,.inl rfl,fun b hb=>⟨sL (hlt b hb),fun x c h=>(hf b hb).2.2.2.2.1 x c (xJ S h)⟩,
  I.bs,sT I.ok.bsz I.sz,fun b o e hb=>?_,fun b hb hm=>?_,I.stack,I.stkFree⟩
 ·have hx:(relabel scope X.env).names.lookup x=some .cell\/(relabel scope X.env).names.lookup x=some .free:=hx;have key:scope.names.lookup x=some .free:=by
   rcases hx with h|h
   ·obtain⟨k',e1,e2⟩:=xW h;rcases e2 with z|⟨z,_⟩
    ·exact absurd z.symm (S.nocell _ (PySem.mem_of_lookup e1))
    ·rw[e1,z]
   ·obtain⟨k',e1,e2⟩:=xW h;rcases e2 with z|⟨_,z⟩
    ·rw[e1,<-z]
    ·cases z
  exact qB (.inl (PySem.mem_of_lookup key))
 ·rcases (hf b hb).2.2.2.1 with z|z
  ·exact I.ok.noex b o e z
  ·exact absurd (sN (jYc e) (sT I.ok.bsz z)) (rX _)
 ·rcases sF.mp (I.stkSub b hm)with z|z
  ·exact (hf b hb).2.1 z
  ·exact (hf b hb).2.2.1 z
def JM {h':Heap}{m:Str->Option Value}{tk:Nat}(I:Inv X pins σ H s)(S:CompScope X N' fr scope)(hf:∀b∈fp,jf X pins H b)(hlt:∀b∈fp,b<s.heap.objs.size)(hn:h'.Ns s.heap.objs.size m)
  (hk:∀b o,s.heap.get? b=some o->h'.get? b=some o):Inv (y4 X scope N' s H fp pins) [] (vg fr σ) H { s with heap:=h',toks:=tk }:=by
 refine⟨Kf I S hf hlt,rfl,I.bare,Un.kept hk,⟨m,hn,fun j x v e1 e2 e3=>?_⟩,fun x c h=>?_,I.hok.fresh (tQ _),fun x c h=>I.freeC x c (xJ S h),fun p hp=>?_,I.hok.kept hk,by unfold vg;rw[tM];exact S.len⟩
 ·have e1:N'[j]?=some x:=e1;unfold vg at e2;rw[sJ]at e2;cases hj:fr[j]? with
  | none=>rw[hj]at e2;cases e2
  | some o =>
   rw[hj]at e2;cases o with
   | none=>cases e2
   | some i =>
    have e2:(σ[i]?).join=some v:=jYe e2;have e2':σ[i]?=some (some v):=by
     cases hq:σ[i]? with
     | none=>rw[hq]at e2;cases e2
     | some w=>rw[hq]at e2;rw[show w=some v from e2]
    obtain⟨n1,n2,n3⟩:=S.fre j i x hj e1;obtain⟨m0,hn0,hl⟩:=I.loc;have hvis:Vis X.env.scope x:=by
     rcases n3 with z|z
     ·exact .inr (.inl z)
     ·exact .inr (.inr z)
    obtain⟨u,r,l⟩:=hl i x v n1 e2' hvis;refine⟨u,r,.inr ⟨?_,?_⟩⟩
    ·have hh:∀ {names:List (Str×NameKind)},names.lookup x=some .free->(names.map fun (n,k)=>if (k==NameKind.free&&X.env.scope.kind==.function&&X.env.kindOf n==some .cell) then (n,NameKind.cell) else (n,k)).lookup x=some .cell \/
       (names.map fun (n,k)=>if (k==NameKind.free&&X.env.scope.kind==.function&&X.env.kindOf n==some .cell) then (n,NameKind.cell) else (n,k)).lookup x=some .free:=by
      intro names
      induction names with
      | nil=>intro z;cases z
      | cons y r ih =>
       obtain⟨n,k⟩:=y;intro z;rw[tG];dsimp only
       by_cases hx:(x==n)=true
       ·rw[sU,hx]at z
        by_cases hc:(k==NameKind.free&&X.env.scope.kind==.function&&X.env.kindOf n==some .cell)=true
        ·rw[if_pos hc];exact .inl (by rw[sU,hx])
        ·rw[if_neg hc];exact .inr (by rw[sU,hx];exact z)
       ·have hx':(x==n)=false:=by simpa using hx
        rw[sU,hx']at z;have:=ih z
        by_cases hc:(k==NameKind.free&&X.env.scope.kind==.function&&X.env.kindOf n==some .cell)=true
        ·rw[if_pos hc,sU,hx'];exact this
        ·rw[if_neg hc,sU,hx'];exact this
     exact hh n2
    ·rcases l with⟨k,_⟩|⟨k,c,e,z⟩
     ·rcases n3 with q|q
      ·rw[q]at k;cases k
      ·rw[q]at k;cases k
     ·obtain⟨c',hc'⟩:=qB (cells:=X.env.cells) (x:=x) (names:=scope.names) (acc:=[]) (.inl (PySem.mem_of_lookup n2));have e':=xJ S hc';rw[e]at e';cases e';obtain⟨o,ho,hd⟩:=z;exact⟨c,hc',o,hk _ _ ho,hd⟩
 ·obtain⟨v,o,ho,hd⟩:=I.cell x c (xJ S h);exact⟨v,o,hk _ _ ho,hd⟩
 ·have hp:p∈(X.pn++pins)++[]:=hp;rw[tY]at hp;obtain⟨q,n,ne,nf,d⟩:=I.pin p hp;refine⟨hk _ _ q,n,sL (jYc q),fun hm=>?_,d⟩;rcases sF.mp (I.stkSub p.1 hm)with z|z
  ·exact ne z
  ·exact nf z
end
section
variable {X:Cx}{pins:List (Addr×Obj)}{σ τ:St}{H H₃ H5:Hp}{s₃ s5:Shared}{N':List Str}{scope:Scope}{fp:List Addr}
def YZ {h':Heap}(I:Inv X pins σ H₃ s₃)(J:Inv (y4 X scope N' s₃ H₃ fp pins) [] τ H5 s5)(hf:∀b∈fp,jf X pins H₃ b)(hs:Heap.SameBut s₃.heap.objs.size s5.heap h'):Inv X pins σ H5 { s5 with heap:=h' }:=by
 have hb:∀b o,s₃.heap.get? b=some o->b≠s₃.heap.objs.size:=fun b o q=>sL (jYc q);have u:Un (frs X.stack) fp H₃ H5 s₃.heap s5.heap:=J.base;refine I.call' (s':={ s5 with heap:=h' }) (ch:=fp) J.os ⟨fun b o q n h1 h2=>(hs.2 b (hb b o q)).trans (u.keep b o q n h1 h2),fun b o q n h1 h2=>?_,u.free,fun b o q h2=>?_,u.tups,u.frzs,u.tbls⟩ (fun b ob q=>?_) J.bare (fun b m=>⟨(hf b m).2.2.2.1,(hf b m).2.1,(hf b m).2.2.2.2.1,(hf b m).2.2.2.2.2⟩)
 ·obtain⟨sl,e⟩:=u.slot b o q n h1 h2;exact⟨sl,(hs.2 b (hb b o q)).trans e⟩
 ·obtain⟨o',e⟩:=u.there b o q h2;exact⟨o',(hs.2 b (hb b o q)).trans e⟩
 ·have fr:H5 s₃.heap.objs.size=none:=J.free;refine (J.hok b ob q).stay (fun c v hc r=>(hs.2 c ?_).trans r) (fun _ z=>z) fun _ _ z=>z;rintro rfl;rcases hc with rfl|hc
  ·rw[fr]at q;cases q
  ·rw[fr]at hc;cases hc
end
def PTs (X:Cx)(ifs:List Expr)(t:TT):Prop:=
 ∀(pins:List (Addr×Obj)) (s:Shared) (σ:St) (H:Hp) (Q:Bool->Hp->Prop),Inv X pins σ H s->t σ H Q ->
  wpAny (model X.prog X.w) X.A (forIn ifs true fun c r=>if r=true then do let ok <-isTrue c X.env (eval c X.env);pure (ForInStep.yield ok) else pure (ForInStep.yield r)) (TP X pins σ Q) X.xe s
def z2L:TT:=fun _ H Q=>Q true H
def Kn {X:Cx}:PTs X [] z2L:=fun _ _ _ H _ I h=>wpAny_tests_nil ⟨H,I,h⟩
def JQ {X:Cx}{c:Expr}{t:TT}(h:PT X c t):PTs X [c] t:=fun pins s σ H Q I q=>wpAny_tests_one (h pins s σ H Q I q)
def V4 (fr:List (Option Nat))(wi:TI)(g:TG)(tc:TT)(te:TE):TE:=fun σ H Q=>wi σ H fun J H1=>∀D,H1 D=none ->
 ∃W:Nat->Nat->List V->St->Hp->Prop,(∃m,W 0 m [] (vg fr σ) (upd H1 D (.lst [])))/\∀i m ys τ H2,W i m ys τ H2->H2 D=some (.lst ys) /\
  ((J.stop i H2/\Q (.ref D) H2)\/(J.go i H2/\∀x H3,J.yld i H2 x H3->g x τ H3 fun τ' H4=>tc τ' H4 fun b H5=>if b=true then te τ' H5 fun y H6=>H6 D=some (.lst ys)/\ys.length<sizeLine/\∃m',m'<m/\W (i+1) m' (ys++[y]) τ' (upd H6 D (.lst (ys++[y])))
   else ∃m',m'<m/\W (i+1) m' ys τ' H5))
def YT {X:Cx}{N':List Str}{fr:List (Option Nat)}{scope:Scope}{tg iter elt:Expr}{ifs:List Expr}{wi:TI}{g:TG}{tc:TT}{te:TE}{pos cp:Pos}{use:Option (Value->Sem Unit)}{Qf:Value->Shared->Prop}(hc:X.calm=true)(S:CompScope X N' fr scope)(hi:PI X tg iter wi)
  (hg:∀s₃ H₃ fp pins,PG (y4 X scope N' s₃ H₃ fp pins) tg g) (ht:∀s₃ H₃ fp pins,PTs (y4 X scope N' s₃ H₃ fp pins) ifs tc) (he:∀s₃ H₃ fp pins,PE (y4 X scope N' s₃ H₃ fp pins) elt te)
  (hs:∀x,foldedSetIterable iter X.env x=pure x) {pins:List (Addr×Obj)} {s:Shared} {σ:St} {H:Hp} {Q:VK} (I:Inv X pins σ H s) (h:V4 fr wi g tc te σ H Q)
  (hfin:∀(s₃:Shared) (H₃:Hp) (fp:List Addr) (D:Addr) (s6:Shared) (τ:St) (H5:Hp) (fl:Flow),Inv X pins σ H₃ s₃->(∀b∈fp,jf X pins H₃ b)->Inv (y4 X scope N' s₃ H₃ fp pins) [] τ H5 s6->Q (.ref D) H5 ->
   compPost (model X.prog X.w) X.A X.xe use Qf (.ref D) s₃.heap.objs.size (.ok fl) s6):
  wpAny (model X.prog X.w) X.A (comprehension (.ListComp elt [⟨tg,iter,ifs,0⟩] scope pos) scope X.env cp (newList []) false (eval iter X.env) use) Qf X.xe s:=by
 refine wpAny_comprehension_free (use:=use) rfl hs (kQ S.free) S.kind S.loc ?_;refine thn (hi pins s σ H _ I h) fun v s1 h1=>thn h1 fun itv s2 h2=>?_;obtain⟨it,fp,tn,J,H2,rfl,I2,T,st2,f2,hW⟩:=h2;refine wpAny_newObj_type ?_ (by size_fits);have hD:H2 s2.heap.objs.size=none:=I2.hok.fresh (tQ _);have I3:Inv X pins σ (upd H2 s2.heap.objs.size (.lst [])) { s2 with heap:=s2.heap.push { cls:=.type "list",data:=.seq ([]:List Value).toArray },toks:=s2.toks }:=
  I2.laid (fun b u e=>jYb _ e) (tQ _) ⟨rG _,[],0,.nil,jYd _ rfl⟩
 generalize eD:s2.heap.objs.size=D at I3 hD ⊢;generalize eH:upd H2 D (.lst [])=H3 at I3;have f3:∀b∈fp,jf X pins H3 b:=fun b hb=>by
  obtain⟨g0,g1⟩:=f2 b hb;refine⟨?_,g1⟩;obtain⟨o,ho,_⟩:=T.obj 0 _ st2 b hb;rw[<-eH,zy (by rw[<-eD];exact sL (jYc ho))];exact g0
 have lt3:∀b∈fp,b<(s2.heap.push { cls:=.type "list",data:=.seq ([]:List Value).toArray }).objs.size:=fun b hb=>by
  obtain⟨o,ho,_⟩:=T.obj 0 _ st2 b hb;rw[Heap.size_push];exact pR (jYc ho)
 have st3:tn 0 (s2.heap.push { cls:=.type "list",data:=.seq ([]:List Value).toArray }):=T.keep _ _ _ st2 fun b _ o e=>jYb _ e;obtain⟨W,⟨m0,w0⟩,turn⟩:=hW D hD;rw[eH]at w0;generalize es3:({ s2 with heap:=s2.heap.push { cls:=.type "list",data:=.seq ([]:List Value).toArray },toks:=s2.toks }:Shared)=s3 at I3;have lt3:∀b∈fp,b<s3.heap.objs.size:=by rw[<-es3];exact lt3
 have st3:tn 0 s3.heap:=by rw[<-es3];exact st3
 refine wpAny_newFunctionEnv S.nocell (by intro y hy;cases hy) (fun h4 hn4 hsb4=>?_) S.kind;have k4:∀b o,s3.heap.get? b=some o->h4.get? b=some o:=fun b o e=>(hsb4.2 b (sL (jYc e))).trans (jYb _ e);have I4:Inv (y4 X scope N' s3 H3 fp pins) [] (vg fr σ) H3 { s3 with heap:=h4,toks:=s3.toks+([]:List (Str×Value)).length }:=JM I3 S f3 lt3 hn4 k4;have st4:tn 0 h4:=T.keep _ _ _ st3 fun b _ o e=>k4 b o e;have stat:∀ {H':Hp} {p':List (Addr×Obj)},p'=[]->(∀b∈fp,H' b=none)->∀b∈fp,jf (y4 X scope N' s3 H3 fp pins) p' H' b:=fun {H' p'} hp hn b hb=>by
  subst hp;obtain⟨g0,g1,g2,g3,g4,g5⟩:=f3 b hb;refine⟨hn b hb,sL (lt3 b hb),fun hm=>?_,.inl hb,fun x c h=>g4 x c (xJ S h),fun p hp=>?_⟩
  ·rcases sF.mp (I3.stkSub b hm)with z|z
   ·exact g1 z
   ·exact g2 z
  ·have hp:p∈(X.pn++pins)++[]:=hp;rw[tY]at hp;exact g5 p hp
 have loop:∀s':Shared,s'={ s3 with heap:=h4,toks:=s3.toks+([]:List (Str×Value)).length }->codeAny (model X.prog X.w) X.A (.compLoop (.ListComp elt [⟨tg,iter,ifs,0⟩] scope pos) 0 (.ref it) (.ref D) (compEnvC scope (vc X.env.cells scope.names []) s3.heap.objs.size X.env))
   (compPost (model X.prog X.w) X.A X.xe use Qf (.ref D) s3.heap.objs.size) s':=by
  rintro s' rfl;refine codeAny_loop rfl (fun n s'=>∃i ys τ H',Inv (y4 X scope N' s3 H3 fp pins) [] τ H' s'/\tn i s'.heap/\(∀b∈fp,H' b=none)/\W i n ys τ H') ?_ m0 ⟨0,[],_,H3,I4,st4,fun b hb=>(f3 b hb).1,w0⟩;rintro n s5 ⟨i,ys,τ,H5,I5,st5,fr5,w5⟩;show wpAny _ X.A ((compTurn (.ListComp elt [⟨tg,iter,ifs,0⟩] scope pos) 0 (.ref it) (.ref D) (compEnvC scope (vc X.env.cells scope.names []) s3.heap.objs.size X.env)).onRaise (fun x=>do noteFrame x (compEnvC scope (vc X.env.cells scope.names []) s3.heap.objs.size X.env);theTreesLotGoes x)) _ _ s5;refine wpAny_noted ?_;rw[compTurn_list];obtain⟨hDy,hor⟩:=turn i n ys τ H5 w5;rcases hor with⟨stop,q⟩|⟨go,step⟩
  ·refine wpAny_bind (wpAny_standAt (wpAny_bind (thn (T.done (y4 X scope N' s3 H3 fp pins) rfl rfl rfl hc i [] s5 τ H5 _ I5 (stat rfl fr5) st5 stop) fun r s6 ⟨hr,I6⟩=>?_)));subst hr;exact wpAny_pure (hfin s3 H3 fp D s6 τ H5 _ I3 f3 I6 q)
  ·refine wpAny_bind (wpAny_standAt (wpAny_bind (thn (T.item (y4 X scope N' s3 H3 fp pins) rfl rfl rfl hc i [] s5 τ H5 _ I5 (stat rfl fr5) st5 go) fun r s6 ⟨u,hr,h6⟩=>?_)));subst hr;refine wpAny_bind (thn h6 fun _ s7 ⟨x,H7,I7,r7,y7,st7,fr7⟩=>?_);have I7':=I7.pinned (stat rfl fr7) (T.obj _ _ st7);refine wpAny_bind (wpAny_mono (hg s3 H3 fp pins _ s7 τ H7 x u _ I7' r7 (step x H7 y7)) (fun _ s8 ⟨τ8,H8,I8,q8⟩=>?_) fun _ _ z=>False.elim z);refine wpAny_bind (wpAny_mono (ht s3 H3 fp pins _ s8 τ8 H8 _ I8 q8) (fun b s9 ⟨H9,I9,q9⟩=>?_) fun _ _ z=>False.elim z);have again:∀ {s':Shared} {H':Hp},Inv (y4 X scope N' s3 H3 fp pins) ([]++jF fp s7.heap) τ8 H' s'->tn (i+1) s'.heap/\∀b∈fp,H' b=none:=fun {s' H'} I'=>by
    refine⟨T.keep _ _ _ st7 fun b hb o e=>(I'.pin (b,o) (tR _ (tR _ (vw hb e)))).1,fun b hb=>?_⟩;obtain⟨o,e,d⟩:=T.obj _ _ st7 b hb;exact (I'.pin (b,o) (tR _ (tR _ (vw hb e)))).2.1
   cases b with
   | false =>
    rw[if_neg tX]at q9;obtain⟨m',hm,w9⟩:=q9;obtain⟨a1,a2⟩:=again I9;refine wpAny_pure ⟨rfl,m',hm,i+1,ys,τ8,H9,I9.unpinned,a1,a2,w9⟩
   | true =>
    rw[if_pos rfl]at q9;refine wpAny_bind (wpAny_bind (wpAny_mono (he s3 H3 fp pins _ s9 τ8 H9 _ I9 q9) (fun yv s10 ⟨y,H10,I10,r10,hD10,hz,m',hm,w10⟩=>?_) fun _ _ z=>False.elim z));refine wpAny_bind (wpAny_mono (Z7 (X:=y4 X scope N' s3 H3 fp pins) _ s10 τ8 H10 (.ref D) [y] (.ref D) [yv] (fun _ H11=>H11=upd H10 D (.lst (ys++[y]))) I10 rfl (.cons r10 .nil) ⟨D,ys,y,rfl,rfl,hD10,hz,rfl⟩) (fun _ s11 ⟨_,H11,I11,_,q11⟩=>?_) fun _ _ z=>False.elim z);subst q11;obtain⟨a1,a2⟩:=again I11;exact wpAny_pure (wpAny_pure ⟨rfl,m',hm,i+1,ys++[y],τ8,_,I11.unpinned,a1,a2,w10⟩)
 exact codeAny_compStart_list (loop _ rfl) (T.self _ 0 _ _ _ st4 (loop _ rfl))
def Jo {X:Cx}{N':List Str}{fr:List (Option Nat)}{scope:Scope}{tg iter elt:Expr}{ifs:List Expr}{wi:TI}{g:TG}{tc:TT}{te:TE}{pos:Pos}(hc:X.calm=true)(S:CompScope X N' fr scope)(hi:PI X tg iter wi)
  (hg:∀s₃ H₃ fp pins,PG (y4 X scope N' s₃ H₃ fp pins) tg g) (ht:∀s₃ H₃ fp pins,PTs (y4 X scope N' s₃ H₃ fp pins) ifs tc) (he:∀s₃ H₃ fp pins,PE (y4 X scope N' s₃ H₃ fp pins) elt te)
  (hs:autoParam (∀x,foldedSetIterable iter X.env x=pure x) au2._auto_1):PE X (.ListComp elt [⟨tg,iter,ifs,0⟩] scope pos) (V4 fr wi g tc te):=by
 intro pins s σ H Q I h;rw[eval_ListComp];refine YT (use:=none) hc S hi hg ht he hs I h fun s3 H3 fp D s6 τ H5 fl I3 f3 I6 q=>?_;obtain⟨m6,hn6,_⟩:=I6.loc;exact⟨m6,hn6,fun h7 hs7=>⟨.ref D,H5,YZ I3 I6 f3 hs7,rfl,q⟩⟩
def K8 {X:Cx}{N':List Str}{fr:List (Option Nat)}{scope:Scope}{tg iter elt:Expr}{ifs:List Expr}{wi:TI}{g:TG}{tc:TT}{te:TE}{pos pos' cpos:Pos}{i:Nat}{x:Str}(hc:X.calm=true)(S:CompScope X N' fr scope)(hi:PI X tg iter wi)
  (hg:∀s₃ H₃ fp pins,PG (y4 X scope N' s₃ H₃ fp pins) tg g) (ht:∀s₃ H₃ fp pins,PTs (y4 X scope N' s₃ H₃ fp pins) ifs tc) (he:∀s₃ H₃ fp pins,PE (y4 X scope N' s₃ H₃ fp pins) elt te)
  (hN:X.N.Nodup) (hix:X.N[i]?=some x) (hx:Loc X.env.scope x) (hsw:swapsWith (.ListComp elt [⟨tg,iter,ifs,0⟩] scope cpos) (some (.Name x pos')) pos.line X.env=pure true)
  (hs:autoParam (∀x,foldedSetIterable iter X.env x=pure x) au2._auto_1) (hf:autoParam (X.fn x=true\/X.env.scope.names.lookup x=some .local) au0._auto_1):PS X (.Assign [.Name x pos'] (.ListComp elt [⟨tg,iter,ifs,0⟩] scope cpos) pos) (kP (V4 fr wi g tc te) (vo i)):=by
 intro pins s σ H Z I h;rw[exec_Assign_Name_used _ _ _ _ hsw];refine wpAny_bind (wpAny_standAt (wpAny_bind ?_));show wpAny _ _ (comprehension (.ListComp elt [⟨tg,iter,ifs,0⟩] scope cpos) scope X.env (firstIterPos [⟨tg,iter,ifs,0⟩] cpos) (newList []) false (eval iter X.env) (some (assign (.Name x pos') X.env)) >>= fun _=>pure ()) _ _ s;refine wpAny_bind (YT (use:=some (assign (.Name x pos') X.env)) hc S hi hg ht he hs I h fun s3 H3 fp D s6 τ H5 fl I3 f3 I6 q=>?_);obtain⟨m6,hn6,_⟩:=id I6.loc;have I7:Inv X pins σ H5 s6:=YZ (h':=s6.heap) I3 I6 f3 ⟨rfl,fun _ _=>rfl⟩;have ltC:X.env.locals<s3.heap.objs.size:=I3.lt;have cC:∀y c,X.env.cells.lookup y=some c->c≠s3.heap.objs.size:=fun y c e z=>by
  obtain⟨v,o,ho,_⟩:=I3.cell y c e;exact absurd (jYc ho) (by rw[z];exact rX _)
 show wpAny (model X.prog X.w) X.A (assign (.Name x pos') X.env (.ref D)) _ X.xe s6;refine wpAny_assign_Name (Za I7 hN hix hx (v:=.ref D) (u:=.ref D) rfl (fun s8 I8 sb=>?_) hf);obtain⟨a8,sb8,ha8⟩:=sb;have neC:s3.heap.objs.size≠a8:=by
  rcases ha8 with z|z
  ·rw[z];exact Nat.ne_of_gt ltC
  ·exact fun w=>cC x a8 z w.symm
 have hn8:s8.heap.Ns s3.heap.objs.size m6:=by
  obtain⟨o,es,ep,ho,r⟩:=hn6;exact⟨o,es,ep,(sb8.2 _ neC).trans ho,r⟩
 refine⟨m6,hn8,fun h9 hs9=>?_⟩;have frC:H5 s3.heap.objs.size=none:=I6.free;refine wpAny_pure (wpAny_pure ⟨_,H5,?_,q⟩);have:=I8.turned (h':=h9) (t':=s8.toks) (it:=s3.heap.objs.size) (fun b o hb e=>(hs9.2 b hb).trans e) frC (Nat.ne_of_gt ltC) (.inr (sT I3.ok.above (pZ ltC))) cC (fun p hp z=>?_)
 ·exact this
 ·have:=jYc (I3.pin p hp).1;rw[z]at this;exact rX _ this
section
variable {X:Cx}
end
def z0z (x:Str)(i:Nat)(v:V):Prop:=∃c,x.cps[i]?=some c/\v=.str ⟨#[c]⟩
def Its (x:Str):It:=⟨fun i _=>i<x.cps.size,fun i H v H'=>H'=H/\z0z x i v,fun i _=>x.cps.size<=i⟩
def W8 {P:Program}{w:World}{K:jJa}{tg:Expr}(x:Str)(t:Tok)(it:Addr):Turn P w K tg (Its x) [it] it (fun i h=>h.IsStrIter it "str_ascii_iterator" x t i) where
 mem:=by simp
 obj:=fun i h st b hb=>by
  have e:b=it:=by simpa using hb
  subst e;obtain⟨o,e,c,d⟩:=st;exact⟨o,e,fun v z=>by rw[d]at z;cases z⟩
 keep:=fun i h h' st k=>let ⟨o,ho,r⟩:=st;⟨o,k it (by simp) o ho,r⟩
 item:=by
  intro X hP hw hK hc i pins s σ H E I hf st hg;subst hP hw hK;have hg:i<x.cps.size:=hg;obtain⟨f0,f1,f2,f3,f4,f5⟩:=hf it (by simp);refine wpAny_pyNext_ascii_item st (c:=x.cps[i]) (by simp[hg]) fun h' st' sb=>?_;have I1:Inv X pins σ H { s with heap:=h',toks:=s.toks+1 }:=I.turned (fun b o hb e=>(sb.2 b hb).trans e) f0 f1 f3 f4 f5;obtain⟨o,e,c,d⟩:=id st';exact⟨_,rfl,Z1 (s:={ s with heap:=h',toks:=s.toks+1 }) e c d (by decide) ⟨.str ⟨#[x.cps[i]]⟩,H,I1,⟨_,rfl⟩,⟨rfl,_,by simp[hg],rfl⟩,st',fun b hb=>(hf b hb).1⟩⟩
 done:=by
  intro X hP hw hK hc i pins s σ H E I hf st hg;subst hP hw hK;have hg:x.cps.size<=i:=hg;obtain⟨f0,f1,f2,f3,f4,f5⟩:=hf it (by simp);exact wpAny_pyNext_ascii_end (I.ok.hd hc) st (by simp[hg]) fun h' eb=>⟨rfl,I.turned (t':=s.toks) (fun b o hb e=>eb b o hb e) f0 f1 f3 f4 f5⟩
 self:=fun _ _ _ _ _ st h=>wpAny_pyIter_striter_ascii st h
def VA {P:Program}{w:World}{K:jJa}{tg:Expr}(x:Str)(t:Tok)(it:Addr):Turn P w K tg (Its x) [it] it (fun i h=>h.IsStrIter it "str_iterator" x t i) where
 mem:=by simp
 obj:=fun i h st b hb=>by
  have e:b=it:=by simpa using hb
  subst e;obtain⟨o,e,c,d⟩:=st;exact⟨o,e,fun v z=>by rw[d]at z;cases z⟩
 keep:=fun i h h' st k=>let ⟨o,ho,r⟩:=st;⟨o,k it (by simp) o ho,r⟩
 item:=by
  intro X hP hw hK hc i pins s σ H E I hf st hg;subst hP hw hK;have hg:i<x.cps.size:=hg;obtain⟨f0,f1,f2,f3,f4,f5⟩:=hf it (by simp);refine wpAny_pyNext_wide_item st (c:=x.cps[i]) (by simp[hg]) fun h' st' sb=>?_;have I1:Inv X pins σ H { s with heap:=h',toks:=s.toks+1 }:=I.turned (fun b o hb e=>(sb.2 b hb).trans e) f0 f1 f3 f4 f5;obtain⟨o,e,c,d⟩:=id st';exact⟨_,rfl,Z1 (s:={ s with heap:=h',toks:=s.toks+1 }) e c d (by decide) ⟨.str ⟨#[x.cps[i]]⟩,H,I1,⟨_,rfl⟩,⟨rfl,_,by simp[hg],rfl⟩,st',fun b hb=>(hf b hb).1⟩⟩
 done:=by
  intro X hP hw hK hc i pins s σ H E I hf st hg;subst hP hw hK;have hg:x.cps.size<=i:=hg;obtain⟨f0,f1,f2,f3,f4,f5⟩:=hf it (by simp);exact wpAny_pyNext_wide_end (I.ok.hd hc) st (by simp[hg]) fun h' eb=>⟨rfl,I.turned (t':=s.toks) (fun b o hb e=>eb b o hb e) f0 f1 f3 f4 f5⟩
 self:=fun _ _ _ _ _ st h=>wpAny_pyIter_striter_wide st h
def z2T (te:TE):TI:=fun σ H R=>te σ H fun v H1=>∃x,v=.str x/\R (Its x) H1
def z1W {X:Cx}{tg e:Expr}{te:TE}(he:PE X e te):PI X tg e (z2T te):=by
 intro pins s σ H R I h;refine thn (he pins s σ H _ I h) fun v s1 ⟨y,H1,I1,r1,q1⟩=>?_;obtain⟨x,rfl,q⟩:=q1;obtain⟨t,rfl⟩:=r1;cases ha:x.cps.all (·<128)
 ·refine wpAny_pyIter_wide ha ?_;refine⟨s1.heap.objs.size,[s1.heap.objs.size],_,_,H1,rfl,I1.kept (t':=s1.toks) fun b o e=>jYb _ e,VA x t _,⟨_,jYd _ rfl,rfl,rfl⟩,fun b hb=>?_,q⟩;have e:b=s1.heap.objs.size:=by simpa using hb
  subst e;exact I1.fpOk (tQ _) (I1.hok.fresh (tQ _))
 ·refine wpAny_pyIter_ascii ha ?_;refine⟨s1.heap.objs.size,[s1.heap.objs.size],_,_,H1,rfl,I1.kept (t':=s1.toks) fun b o e=>jYb _ e,W8 x t _,⟨_,jYd _ rfl,rfl,rfl⟩,fun b hb=>?_,q⟩;have e:b=s1.heap.objs.size:=by simpa using hb
  subst e;exact I1.fpOk (tQ _) (I1.hok.fresh (tQ _))
section
variable {X:Cx}
def z3F:V->Option Int->Option Int->Hp->VK->Prop:=fun x lo hi H Q=>∃z,x=.str z/\z.length<=sizeLine/\Q (.str (Txt.slice z lo hi)) H
def z1v:SlR X z3F:=by
 intro pins s σ H x v vl vu lo hi sl Q I rx hs pl pu h;obtain⟨z,rfl,hz,q⟩:=h;obtain⟨t,rfl⟩:=rx;refine⟨"str",_,F.slot_str_getitem.lookup,typeIs_str _ _ _,?_⟩;have fin:∀(l u:Option (Int×Tok)),vl=partValue l->vu=partValue u->l.map (·.1)=lo->u.map (·.1)=hi->wpAny (model X.prog X.w) X.A (getItem (.str z t) (.ref sl)) (EP X pins σ Q) X.xe s:=by
  intro l u e1 e2 e3 e4;subst e1 e2 e3 e4;refine wpAny_getItem_str_slice (st:=none) hs rfl (post_val_or_str ⟨sT (Txt.slice_le z _ _) hz,fun t' k=>?_⟩);exact⟨.str _,H,I.tok k,⟨t',rfl⟩,q⟩
 cases pl with
 | none =>
  cases pu with
  | none=>exact fin none none rfl rfl rfl rfl
  | int j tj=>exact fin none (some (j,tj)) rfl rfl rfl rfl
 | int i ti =>
  cases pu with
  | none=>exact fin (some (i,ti)) none rfl rfl rfl rfl
  | int j tj=>exact fin (some (i,ti)) (some (j,tj)) rfl rfl rfl rfl
end
section
variable {prog:Program}{w:World}{A:Around}{E:Value->Shared->Prop}{s:Shared}{K:Type}[DecidableEq K]{knd:KeyKind prog w K}{d:Addr}{kvs:List (K×Value)}{ep:Nat}
end
section
variable {X:Cx}
end
structure DefIn (K:jJa)(mg:Str->Option Value)(x:Str)(st:Stmt)(ps:List Str):Prop where
 ex:∃f fd,Fun K x x st f fd/\mg x=some (.ref f)/\Binds K fd ps []
def QG {K:jJa}{mg:Str->Option Value}{x:Str}{st:Stmt}{ps:List Str}{h:Heap}{f:Addr}{oc:Value}{od an:Option Addr}{osl:Array (Option Value)}{kV doc pm cdv ct:Value}(X:K.In h)(G:h.Ns mainGlobals mg)
  (hb:∀(kV doc pm:Value) (an:Option Addr) (cdv ct:Value) (us:List Value),us.length=ps.length->bindArgs (jJb x x (defArgs st) (defBody st) (defScope st) .none kV doc pm an cdv ct) ⟨us,[]⟩=pure (ps.zip us))
  (a:jJn K mainGlobals x=some (some (.ref f))) (l:K.lookup f=some ⟨oc,od,.func (jJb x x (defArgs st) (defBody st) (defScope st) .none kV doc pm an cdv ct),osl⟩)
  (c:jJf K cdv x=true) (k:jJh K (.ref f)=true):DefIn K mg x st ps:=
 ⟨f,_,UK l c k,PySem.W.mg_of X G a,(UK (st:=st) l c k).binds hb⟩
structure Own (P:Program)(w:World)(K:jJa)(mg:Str->Option Value)(base:Heap)(x:Str)(k:Nat)(ps:List Str)(sp:Sp):Prop where
 ex:∃f fd,FnOk P w K mg base (cxx P w) k f fd ps sp/\mg x=some (.ref f)/\jJh K (.ref f)=true/\Binds K fd ps []
section
variable {P:Program}{w:World}{K:jJa}{mg:Str->Option Value}{base:Heap}{x:Str}{st:Stmt}{N ps:List Str}{k:Nat}{sp:Sp}
theorem DefIn.own (D:DefIn K mg x st ps)(S:FnScope N ps (defScope st))(len:∀vs H Q E,sp vs H Q E->vs.length=ps.length)
  (hbody:∀(f:Addr) (cdv:Value) (A:Around) (outer:List Env) (s:Shared) (H:Hp) (vs:List V) (Q:VK) (E:XK),Room k (A.deeper (envOfC x (defScope st) s.heap.objs.size f cdv))->sp vs H Q E ->
   ∃t,PSs (wu (cxx P w) P w K mg base N x (defScope st) f cdv A outer s H E) (defBody st) t/\t { nx:=fun _ H'=>Q .non H',rt:=Q } (start N vs) H):Own P w K mg base x (k+1) ps sp:=by
 obtain⟨f,fd,F,hm,hb⟩:=D.ex;obtain⟨oc,od,kV,doc,pm,an,cdv,ct,osl,rfl,lk,hcd⟩:=F.ex;exact⟨f,_,WJ lk hcd S len fun A outer s H vs Q E hr hsp=>hbody f cdv A outer s H vs Q E hr hsp,hm,F.kp,hb⟩
theorem Own.mono {j:Nat}(O:Own P w K mg base x j ps sp)(h:j<=k):Own P w K mg base x k ps sp:=by
 obtain⟨f,fd,F,a,b,c⟩:=O.ex;exact⟨f,fd,F.mono h,a,b,c⟩
end
section
variable {X:Cx}{x:Str}{k:Nat}{ps:List Str}{sp:Sp}{E:XK}{e:Expr}{es:List Expr}{t:TA}{p pos:Pos}
def z1I (O:Own X.prog X.w X.K X.mg X.base x k ps sp)(hr:Room k X.A)(hg:Gl X x)(hx:xl (cxx X.prog X.w) X E)(ha:PA X (e::es) t)(hdb:autoParam ((x==("__debug__":Str))=false) au1._auto_1)
  (he:autoParam (starEach (e::es) X.env=(false,eval e X.env)::starEach es X.env) au3._auto_1) (hpl:autoParam ((backTo pos (starEach es X.env)).any (·.1)=false) au3._auto_1):PE X (.Call (.Name x p) (e::es) [] pos) (Ql sp [] E t):=by
 obtain⟨f,fd,F,hm,hk,hb⟩:=O.ex;exact JE F hr hg hm hk hb .nil hx ha hdb he hpl
end
def qW:List String:=["NoneType","bool","int","str","list","tuple","dict"]
section
variable {K:jJa}
def Ku:∀ {T:String},T∈qW->jJi K (.type T) (.type "int")=some (T=="int"||T=="bool"):=by
 intro T h;simp only[qW,sF,rK,or_false]at h;rcases h with rfl|rfl|rfl|rfl|rfl|rfl|rfl<;>kernel_rfl
def QO:∀ {T:String},T∈qW->jJi K (.type T) (.type "bool")=some (T=="bool"):=by
 intro T h;simp only[qW,sF,rK,or_false]at h;rcases h with rfl|rfl|rfl|rfl|rfl|rfl|rfl<;>kernel_rfl
def QJ:∀ {T U:String},T∈qW->U∈(["str","list","tuple","dict"]:List String)->jJi K (.type T) (.type U)=some (T==U):=by
 intro T U h g;simp only[qW,sF,rK,or_false]at h g;rcases g with rfl|rfl|rfl|rfl<;>rcases h with rfl|rfl|rfl|rfl|rfl|rfl|rfl<;>kernel_rfl
end
inductive D where
 | non | bl (b:Bool) | int (i:Int) | str (x:Str) | tup (xs:List D) | lst (xs:List D) | dic (ks:List Key) (xs:List D) | frl (xs:List D) | obj (C:Addr) (ns:List Str) (xs:List D)
inductive R (α:Type) where
 | ok (a:α) | err (c:Str) | bad
def R.bind {α β:Type}(r:R α)(f:α->R β):R β:=match r with
 | .ok a=>f a
 | .err c=>.err c
 | .bad=>.bad
def jYa {α β:Type}(a:α)(f:α->R β):(R.ok a).bind f=f a:=rfl
mutual
def D.imm:D->Bool
 | .tup xs=>D.imms xs
 | .lst _=>false
 | .dic _ _=>false
 | .obj _ _ _=>false
 | _=>true
def D.imms:List D->Bool
 | []=>true
 | d::ds=>D.imm d&&D.imms ds
end
def SqF (K:jJa)(H:Hp)(a:Addr)(vs:List V):Prop:=(∃o,H a=some (.frz o (.lst vs))) \/
 ∃(o:Obj) (its:Array Value) (n:Nat),K.lookup a=some o/\o.cls=.type "list"/\o.dict=none/\o.data=.seq its n/\its.size<=sizeLine/\Vals vs its.toList
theorem SqF.sq {K:jJa}{H:Hp}{a:Addr}{vs:List V}(h:SqF K H a vs):SqL K H a vs:=by
 rcases h with⟨o,h⟩|h
 ·exact .inl (.inr ⟨o,h⟩)
 ·exact .inr h
mutual
def Rep (K:jJa)(H:Hp):D->V->List Addr->Prop
 | .non,v,L=>v=.non/\L=[]
 | .bl b,v,L=>v=.bl b/\L=[]
 | .int i,v,L=>v=.int i/\L=[]
 | .str x,v,L=>v=.str x/\L=[]
 | .tup ds,v,L=>∃a vs,v=.ref a/\SqT K H a vs/\Reps K H ds vs L
 | .lst ds,v,L=>∃a vs L',v=.ref a/\H a=some (.lst vs)/\L=a::L'/\Reps K H ds vs L'
 | .dic ks ds,v,L=>∃a kvs L',v=.ref a/\H a=some (.dK kvs)/\L=a::L'/\kvs.map (·.1)=ks/\ks.Nodup/\Reps K H ds (kvs.map (·.2)) L'
 | .frl ds,v,L=>∃a vs,v=.ref a/\SqF K H a vs/\L=[]/\D.imms ds=true/\Reps K H ds vs []
 | .obj C ns ds,v,L=>∃a dx fs,v=.ref a/\H a=some (.ins C dx fs)/\fs.map (·.1)=ns/\Reps K H ds (fs.map (·.2)) L
def Reps (K:jJa)(H:Hp):List D->List V->List Addr->Prop
 | [],vs,L=>vs=[]/\L=[]
 | d::ds,vs,L=>∃v vs' L1 L2,vs=v::vs'/\L=L1++L2/\Rep K H d v L1/\Reps K H ds vs' L2
end
structure TF (H H':Hp):Prop where
 tup:∀a xs,H a=some (.tup xs)->H' a=some (.tup xs)
 frz:∀a o u,H a=some (.frz o u)->H' a=some (.frz o u)
 ins:∀a C dx fs,H a=some (.ins C dx fs)->H' a=some (.ins C dx fs)
theorem Same.tf {H H':Hp}(h:Same H H'):TF H H':=⟨fun a xs e=>h a _ e,fun a o u e=>h a _ e,fun a C dx fs e=>h a _ e⟩
theorem Same.non {H H1:Hp}(s:Same H H1){a:Addr}(h:H1 a=none):H a=none:=by
 cases e:H a with
 | none=>rfl
 | some o=>rw[s a o e]at h;cases h
theorem Same.new {H:Hp}{p:Addr}{o:HO}(h:H p=none):Same H (upd H p o):=fun b u e=>by
 rw[zy (zR e h)];exact e
theorem SqF.tf {K:jJa}{H H':Hp}{a:Addr}{vs:List V}(h:SqF K H a vs)(s:TF H H'):SqF K H' a vs:=by
 rcases h with⟨o,h⟩|h
 ·exact .inl ⟨o,s.frz _ _ _ h⟩
 ·exact .inr h
theorem SqT.tf {K:jJa}{H H':Hp}{a:Addr}{vs:List V}(h:SqT K H a vs)(s:TF H H'):SqT K H' a vs:=by
 rcases h with h|h
 ·rcases h with h|⟨o,h⟩
  ·exact .inl (.inl (s.tup _ _ h))
  ·exact .inl (.inr ⟨o,s.frz _ _ _ h⟩)
 ·exact .inr h
section
variable {K:jJa}{H H':Hp}
mutual
theorem Rep.keep (s:TF H H'):∀(d:D) (v:V) (L:List Addr),Rep K H d v L->(∀a∈L,H' a=H a)->Rep K H' d v L
 | .non,_,_,h,_=>h
 | .bl _,_,_,h,_=>h
 | .int _,_,_,h,_=>h
 | .str _,_,_,h,_=>h
 | .tup ds,_,L,hq3,k=>by
  obtain⟨a,vs,e,h,r⟩:=hq3;exact⟨a,vs,e,h.tf s,Reps.keep s ds vs L r k⟩
 | .obj C ns ds,_,L,hq3,k=>by
  obtain⟨a,dx,fs,e,h,hn,r⟩:=hq3;exact⟨a,dx,fs,e,s.ins _ _ _ _ h,hn,Reps.keep s ds _ L r k⟩
 | .lst ds,_,L,hq3,k=>by
   obtain⟨a,vs,L',e,h1,h2,h3⟩:=hq3;subst h2;exact⟨a,vs,L',e,by rw[k a tU];exact h1,rfl,Reps.keep s ds vs L' h3 fun b hb=>k b (tW _ hb)⟩
 | .frl ds,_,L,hq3,k=>by
  obtain⟨a,vs,e,h1,h2,h3,h4⟩:=hq3;exact⟨a,vs,e,h1.tf s,h2,h3,Reps.keep s ds vs [] h4 (fun _ hb=>nomatch hb)⟩
 | .dic ks ds,_,L,hq3,k=>by
   obtain⟨a,kvs,L',e,h1,h2,h3,h4,h5⟩:=hq3;subst h2;exact⟨a,kvs,L',e,by rw[k a tU];exact h1,rfl,h3,h4,Reps.keep s ds _ L' h5 fun b hb=>k b (tW _ hb)⟩
theorem Reps.keep (s:TF H H'):∀(ds:List D) (vs:List V) (L:List Addr),Reps K H ds vs L->(∀a∈L,H' a=H a)->Reps K H' ds vs L
 | [],_,_,h,_=>h
 | d::ds,_,_,hq3,k=>by
  obtain⟨v,vs',L1,L2,e1,e2,h1,h2⟩:=hq3;subst e2;exact⟨v,vs',L1,L2,e1,rfl,Rep.keep s d v L1 h1 fun a ha=>k a (sC _ ha),Reps.keep s ds vs' L2 h2 fun a ha=>k a (tR _ ha)⟩
end
mutual
theorem Rep.dom:∀(d:D) (v:V) (L:List Addr),Rep K H d v L->∀a∈L,(∃vs,H a=some (.lst vs))\/∃kvs,H a=some (.dK kvs)
 | .non,_,_,h,a,ha=>by rw[h.2]at ha;cases ha
 | .bl _,_,_,h,a,ha=>by rw[h.2]at ha;cases ha
 | .int _,_,_,h,a,ha=>by rw[h.2]at ha;cases ha
 | .str _,_,_,h,a,ha=>by rw[h.2]at ha;cases ha
 | .tup ds,_,L,hq3,b,hb=>by
  obtain⟨a,vs,e,h,r⟩:=hq3;exact Reps.dom ds vs L r b hb
 | .obj C ns ds,_,L,hq3,b,hb=>by
  obtain⟨a,dx,fs,e,h,hn,r⟩:=hq3;exact Reps.dom ds _ L r b hb
 | .lst ds,_,L,hq3,b,hb=>by
   obtain⟨a,vs,L',e,h1,h2,h3⟩:=hq3;subst h2;rcases sF.mp hb with z|z
   ·subst z;exact .inl ⟨vs,h1⟩
   ·exact Reps.dom ds vs L' h3 b z
 | .frl ds,_,L,hq3,b,hb=>by
  obtain⟨a,vs,e,h1,h2,h3,h4⟩:=hq3;rw[h2]at hb;cases hb
 | .dic ks ds,_,L,hq3,b,hb=>by
   obtain⟨a,kvs,L',e,h1,h2,h3,h4,h5⟩:=hq3;subst h2;rcases sF.mp hb with z|z
   ·subst z;exact .inr ⟨kvs,h1⟩
   ·exact Reps.dom ds _ L' h5 b z
theorem Reps.dom:∀(ds:List D) (vs:List V) (L:List Addr),Reps K H ds vs L->∀a∈L,(∃vs,H a=some (.lst vs))\/∃kvs,H a=some (.dK kvs)
 | [],_,_,h,a,ha=>by rw[h.2]at ha;cases ha
 | d::ds,_,_,hq3,a,ha=>by
  obtain⟨v,vs',L1,L2,e1,e2,h1,h2⟩:=hq3;subst e2;rcases sG.mp ha with z|z
  ·exact Rep.dom d v L1 h1 a z
  ·exact Reps.dom ds vs' L2 h2 a z
end
mutual
theorem Rep.imm:∀(d:D) (v:V) (L:List Addr),Rep K H d v L->d.imm=true->L=[]
 | .non,_,_,h,_=>h.2
 | .bl _,_,_,h,_=>h.2
 | .int _,_,_,h,_=>h.2
 | .str _,_,_,h,_=>h.2
 | .tup ds,_,L,hq3,h=>by
  obtain⟨_,vs,_,_,r⟩:=hq3;exact Reps.imm ds vs L r h
 | .lst _,_,_,_,h=>nomatch h
 | .dic _ _,_,_,_,h=>nomatch h
 | .obj _ _ _,_,_,_,h=>nomatch h
 | .frl _,_,_,hq3,_=>by
  obtain⟨_,_,_,_,h,_⟩:=hq3;exact h
theorem Reps.imm:∀(ds:List D) (vs:List V) (L:List Addr),Reps K H ds vs L->D.imms ds=true->L=[]
 | [],_,_,h,_=>h.2
 | d::ds,_,_,hq3,h=>by
  obtain⟨v,vs',L1,L2,_,e2,h1,h2⟩:=hq3;have h:(d.imm&&D.imms ds)=true:=h;rw[sR]at h;rw[e2,Rep.imm d v L1 h1 h.1,Reps.imm ds vs' L2 h2 h.2];rfl
end
def Rep.there {d:D}{v:V}{L:List Addr}(h:Rep K H d v L){a:Addr}(ha:a∈L):H a≠none:=by
 rcases Rep.dom d v L h a ha with⟨_,e⟩|⟨_,e⟩<;>rw[e]<;>simp
theorem Reps.there {d:List D}{v:List V}{L:List Addr}(h:Reps K H d v L){a:Addr}(ha:a∈L):H a≠none:=by
 rcases Reps.dom d v L h a ha with⟨_,e⟩|⟨_,e⟩<;>rw[e]<;>simp
theorem Same.at {a:Addr}(s:Same H H')(h:H a≠none):H' a=H a:=by
 cases e:H a with
 | none=>exact absurd e h
 | some o=>exact s a o e
theorem Rep.same {d:D}{v:V}{L:List Addr}(h:Rep K H d v L)(s:Same H H'):Rep K H' d v L:=Rep.keep s.tf d v L h fun _ ha=>s.at (h.there ha)
theorem Reps.same {d:List D}{v:List V}{L:List Addr}(h:Reps K H d v L)(s:Same H H'):Reps K H' d v L:=Reps.keep s.tf d v L h fun _ ha=>s.at (h.there ha)
theorem Reps.length:∀ {ds:List D} {vs:List V} {L:List Addr},Reps K H ds vs L->vs.length=ds.length
 | [],_,_,hq3=>by
  obtain⟨e,_⟩:=hq3;rw[e];rfl
 | d::ds,_,_,hq3=>by
  obtain⟨v,vs',L1,L2,e1,e2,h1,h2⟩:=hq3;rw[e1,tF,tF,Reps.length h2]
theorem Reps.nil:Reps K H [] [] []:=⟨rfl,rfl⟩
theorem Reps.cons {d:D}{v:V}{L1:List Addr}{ds:List D}{vs:List V}{L2:List Addr}(h:Rep K H d v L1)(t:Reps K H ds vs L2):Reps K H (d::ds) (v::vs) (L1++L2):=⟨v,vs,L1,L2,rfl,rfl,h,t⟩
theorem Reps.get:∀ {ds:List D} {vs:List V} {L:List Addr} {i:Nat} {d:D},Reps K H ds vs L->ds[i]?=some d->∃v L1,vs[i]?=some v/\Rep K H d v L1/\List.Sublist L1 L
 | [],_,_,_,_,_,e=>by simp at e
 | d::ds,_,_,0,_,hq5,e=>by
  obtain⟨v,vs',L1,L2,e1,e2,h1,h2⟩:=hq5;subst e1 e2;simp at e;subst e;exact⟨v,L1,rfl,h1,gA _ _⟩
 | d::ds,_,_,i+1,d',hq5,e=>by
  obtain⟨v,vs',L1,L2,e1,e2,h1,h2⟩:=hq5;subst e1 e2;obtain⟨v',L',a,b,c⟩:=Reps.get (i:=i) (d:=d') h2 (by simpa using e);exact⟨v',L',by simpa using a,b,c.trans (rQ _ _)⟩
theorem Reps.append:∀ {ds ds':List D} {vs vs':List V} {L L':List Addr},Reps K H ds vs L->Reps K H ds' vs' L'->Reps K H (ds++ds') (vs++vs') (L++L')
 | [],_,_,_,_,_,hq6,h=>by
  obtain⟨e1,e2⟩:=hq6;subst e1 e2;exact h
 | d::ds,_,_,_,_,_,hq6,h=>by
  obtain⟨v,vs',L1,L2,e1,e2,h1,h2⟩:=hq6;subst e1 e2;have:=Reps.cons h1 (Reps.append h2 h);rw[<-sP]at this;exact this
theorem Reps.take:∀ {ds:List D} {vs:List V} {L:List Addr} (n:Nat),Reps K H ds vs L->∃L',Reps K H (ds.take n) (vs.take n) L'/\List.Sublist L' L
 | _,_,_,0,_=>⟨[],by simpa using Reps.nil,pY _⟩
 | [],_,_,n+1,hq4=>by
  obtain⟨e1,e2⟩:=hq4;subst e1 e2;exact⟨[],by simpa using Reps.nil,pY _⟩
 | d::ds,_,_,n+1,hq4=>by
  obtain⟨v,vs',L1,L2,e1,e2,h1,h2⟩:=hq4;subst e1 e2;obtain⟨L',a,b⟩:=Reps.take n h2;exact⟨L1++L',by simpa using Reps.cons h1 a,List.Sublist.append (List.Sublist.refl _) b⟩
theorem Reps.drop:∀ {ds:List D} {vs:List V} {L:List Addr} (n:Nat),Reps K H ds vs L->∃L',Reps K H (ds.drop n) (vs.drop n) L'/\List.Sublist L' L
 | _,_,L,0,h=>⟨L,by simpa using h,List.Sublist.refl _⟩
 | [],_,_,n+1,hq4=>by
  obtain⟨e1,e2⟩:=hq4;subst e1 e2;exact⟨[],by simpa using Reps.nil,pY _⟩
 | d::ds,_,_,n+1,hq4=>by
  obtain⟨v,vs',L1,L2,e1,e2,h1,h2⟩:=hq4;subst e1 e2;obtain⟨L',a,b⟩:=Reps.drop n h2;exact⟨L',by simpa using a,b.trans (rQ _ _)⟩
end
abbrev Tn:=List (Option D)
inductive Cl where
 | own | shr | brw | dead
 deriving DecidableEq
inductive Rc where
 | fresh | shr | bor
 deriving DecidableEq
structure EOk (K:jJa)(Γ:List Cl)(O:Addr->Prop)(H:Hp)(σ:St)(τ:Tn):Prop where
 dom:∀a,O a->H a≠none
 slot:∀(i:Nat) (c:Cl),Γ[i]?=some c->c≠.dead->∃v d L,σ[i]?=some (some v)/\τ[i]?=some (some d)/\Rep K H d v L/\(c=.shr->∀a∈L,¬O a)
def RcOk (c:Rc)(O:Addr->Prop)(H:Hp)(L:List Addr):Prop:=match c with
 | .fresh=>L.Nodup/\∀a∈L,H a=none
 | .shr=>∀a∈L,¬O a
 | .bor=>True
def post (K:jJa)(E:XK)(O:Addr->Prop)(c:Rc)(H:Hp)(Q:VK):R D->Prop
 | .ok d=>∀v H' L,Same H H'->Rep K H' d v L->RcOk c O H L->Q v H'
 | .err n=>∀C H',ErrC K n C->Same H H'->E (.ref C) none H'
 | .bad=>False
def qY (K:jJa)(E:XK)(O:Addr->Prop)(c:Rc)(H:Hp)(Q:List V->Hp->Prop):R (List D)->Prop
 | .ok ds=>∀vs H' L,Same H H'->Reps K H' ds vs L->RcOk c O H L->Q vs H'
 | .err n=>∀C H',ErrC K n C->Same H H'->E (.ref C) none H'
 | .bad=>False
def postB (K:jJa)(E:XK)(H:Hp)(Q:Bool->Hp->Prop):R Bool->Prop
 | .ok b=>∀H',Same H H'->Q b H'
 | .err n=>∀C H',ErrC K n C->Same H H'->E (.ref C) none H'
 | .bad=>False
section
variable {K:jJa}{Γ:List Cl}{O:Addr->Prop}{H H1:Hp}{σ:St}{τ:Tn}{E:XK}{c:Rc}{Q:VK}
theorem EOk.same (e:EOk K Γ O H σ τ)(s:Same H H1):EOk K Γ O H1 σ τ:=
 ⟨fun a h=>by rw[s.at (e.dom a h)];exact e.dom a h,fun i c h1 h2=>by
  obtain⟨v,d,L,a1,a2,a3,a4⟩:=e.slot i c h1 h2;exact⟨v,d,L,a1,a2,a3.same s,a4⟩⟩
theorem RcOk.same {L:List Addr}(h:RcOk c O H1 L)(s:Same H H1):RcOk c O H L:=by
 cases c with
 | fresh=>exact⟨h.1,fun a ha=>s.non (h.2 a ha)⟩
 | shr=>exact h
 | bor=>exact h
theorem RcOk.shr {L:List Addr}(dom:∀a,O a->H a≠none)(hc:c≠.bor)(h:RcOk c O H L):∀a∈L,¬O a:=by
 cases c with
 | fresh=>exact fun a ha ho=>dom a ho (h.2 a ha)
 | shr=>exact h
 | bor=>exact absurd rfl hc
theorem RcOk.nil:RcOk c O H []:=by
 cases c with
 | fresh=>exact⟨pW,fun a ha=>by cases ha⟩
 | shr=>exact fun a ha=>by cases ha
 | bor=>trivial
theorem post.same {r:R D}(h:post K E O c H Q r)(s:Same H H1):post K E O c H1 Q r:=by
 cases r with
 | ok d=>exact fun v H' L s' r' c'=>h v H' L (s.trans s') r' (c'.same s)
 | err n=>exact fun C H' e s'=>h C H' e (s.trans s')
 | bad=>exact h
theorem postB.same {Q:Bool->Hp->Prop}{r:R Bool}(h:postB K E H Q r)(s:Same H H1):postB K E H1 Q r:=by
 cases r with
 | ok d=>exact fun H' s'=>h H' (s.trans s')
 | err n=>exact fun C H' e s'=>h C H' e (s.trans s')
 | bad=>exact h
end
def ME (X:Cx)(E:XK)(Γ:List Cl)(e:Expr)(t:Tn->R D)(c:Rc):Prop:=
 ∃te,PE X e te/\∀O σ H τ Q,EOk X.K Γ O H σ τ->post X.K E O c H Q (t τ)->te σ H Q
def MA (X:Cx)(E:XK)(Γ:List Cl)(es:List Expr)(t:Tn->R (List D))(c:Rc):Prop:=
 (∀τ ds,t τ=.ok ds->ds.length=es.length)/\∃ta,PA X es ta/\∀O σ H τ Q,EOk X.K Γ O H σ τ->qY X.K E O c H Q (t τ)->ta σ H Q
def MT (X:Cx)(E:XK)(Γ:List Cl)(e:Expr)(t:Tn->R Bool):Prop:=
 ∃te,PT X e te/\∀O σ H τ Q,EOk X.K Γ O H σ τ->postB X.K E H Q (t τ)->te σ H Q
def MW (X:Cx)(E:XK)(Γ:List Cl)(e:Expr)(t:Tn->R Bool):Prop:=
 ∃te,PW X e te/\∀O σ H τ Q,EOk X.K Γ O H σ τ->postB X.K E H Q (t τ)->te σ H Q
theorem MW.mt {X:Cx}{E:XK}{Γ:List Cl}{e:Expr}{t:Tn->R Bool}(h:MW X E Γ e t):MT X E Γ e t:=by
 obtain⟨te,p,q⟩:=h;exact⟨te,p.pt,q⟩
def Rc.of:Cl->Rc
 | .shr=>.shr
 | _=>.bor
def Rc.both:Rc->Rc->Rc
 | .fresh,.fresh=>.fresh
 | .bor,_=>.bor
 | _,.bor=>.bor
 | _,_=>.shr
def zc (i:Nat):Tn->R D:=fun τ=>match τ[i]? with
 | some (some d)=>.ok d
 | _=>.bad
def eC (d:D):Tn->R D:=fun _=>.ok d
def yq (t:Tn->R D):Tn->R D:=fun τ=>(t τ).bind fun d=>if d.imm=true then .ok d else .bad
def zd (g:D->D->R D)(a b:Tn->R D):Tn->R D:=fun τ=>(a τ).bind fun x=>(b τ).bind fun y=>g x y
def eUn (g:D->R D)(a:Tn->R D):Tn->R D:=fun τ=>(a τ).bind g
def zg:Tn->R (List D):=fun _=>.ok []
def za (a:Tn->R D)(b:Tn->R (List D)):Tn->R (List D):=fun τ=>(a τ).bind fun x=>(b τ).bind fun xs=>.ok (x::xs)
def eL (g:List D->R D)(a:Tn->R (List D)):Tn->R D:=fun τ=>(a τ).bind g
def asB:D->R Bool
 | .bl b=>.ok b
 | _=>.bad
def zl (a:Tn->R D):Tn->R Bool:=fun τ=>(a τ).bind asB
def yT (a b:Tn->R Bool):Tn->R Bool:=fun τ=>(a τ).bind fun x=>if x=true then b τ else .ok false
def bOr (a b:Tn->R Bool):Tn->R Bool:=fun τ=>(a τ).bind fun x=>if x=true then .ok true else b τ
def xy (a:Tn->R Bool):Tn->R Bool:=fun τ=>(a τ).bind fun x=>.ok (!x)
def We (a b:Tn->R D):Tn->R D:=fun τ=>(a τ).bind fun x=>(asB x).bind fun k=>if k=true then b τ else .ok (.bl false)
def z1r (a:Tn->R D):Tn->R D:=fun τ=>(a τ).bind fun x=>(asB x).bind fun k=>.ok (.bl (!k))
def eIf (c:Tn->R Bool)(a b:Tn->R D):Tn->R D:=fun τ=>(c τ).bind fun k=>if k=true then a τ else b τ
section
variable {X:Cx}{E:XK}{Γ:List Cl}{e a b:Expr}{t ta tb tc:Tn->R D}{c ca cb:Rc}{pos:Pos}
def JX {i:Nat}{x:Str}{k:Cl}(hN:X.N[i]?=some x)(hk:Γ[i]?=some k)(hd:k≠.dead)(hv:Vis X.env.scope x)(hb:autoParam ((x==("__debug__":Str))=false) au1._auto_1)(hcd:autoParam ((x==("__classdict__":Str))=false) au1._auto_1):
  ME X E Γ (.Name x pos) (zc i) (Rc.of k):=by
 refine⟨xE i,uQ hN hv hb hcd,fun O σ H τ Q ok h=>?_⟩;obtain⟨v,d,L,e1,e2,e3,e4⟩:=ok.slot i k hk hd;unfold zc at h;rw[e2]at h;refine⟨v,e1,h v H L (Same.refl H) e3 ?_⟩;cases k with
 | shr=>exact e4 rfl
 | own=>trivial
 | brw=>trivial
 | dead=>trivial
def JB {d:D}{v:V}(hp:PE X e (tC v))(hr:∀H,Rep X.K H d v []):ME X E Γ e (eC d) .fresh:=
 ⟨tC v,hp,fun O σ H τ Q ok h=>h v H [] (Same.refl H) (hr H) RcOk.nil⟩
def zf {i:Int}{j}:ME X E Γ (.Constant (.int i) j pos) (eC (.int i)) .fresh:=JB QK fun _=>⟨rfl,rfl⟩
def UX {i:Bool}{j}:ME X E Γ (.Constant (.bool i) j pos) (eC (.bl i)) .fresh:=JB z2Z fun _=>⟨rfl,rfl⟩
def jw {j}:ME X E Γ (.Constant .none j pos) (eC .non) .fresh:=JB z0H fun _=>⟨rfl,rfl⟩
def xf {x:Str}{j}:ME X E Γ (.Constant (.str x) j pos) (eC (.str x)) .fresh:=JB wV fun _=>⟨rfl,rfl⟩
def yS (h:ME X E Γ e t c):ME X E Γ e (yq t) .fresh:=by
 obtain⟨te,p,q⟩:=h;refine⟨te,p,fun O σ H τ Q ok h=>q O σ H τ Q ok ?_⟩;unfold yq at h;cases ht:t τ with
 | ok d =>
  rw[ht]at h;refine fun v H' L s r k=>?_;rw[jYa]at h
  by_cases hi:d.imm=true
  ·rw[if_pos hi]at h;have:=Rep.imm d v L r hi;subst this;exact h v H' [] s r RcOk.nil
  ·rw[if_neg hi]at h;exact h.elim
 | err n=>rw[ht]at h;exact h
 | bad=>rw[ht]at h;exact h
theorem post.bind {K:jJa}{O:Addr->Prop}{H:Hp}{Q Q':VK}{r:R D}{f:D->R D}(h:post K E O c H Q (r.bind f))(hf:∀d,r=.ok d->post K E O c H Q (f d)->∀v H' L,Same H H'->Rep K H' d v L->RcOk ca O H L->Q' v H'):post K E O ca H Q' r:=by
 cases r with
 | ok d=>exact hf d rfl h
 | err n=>exact h
 | bad=>exact h
def zm:MA X E Γ [] zg .fresh:=⟨fun τ ds h=>by cases h;rfl,ZF,vV,fun O σ H τ Q ok h=>h [] H [] (Same.refl H) Reps.nil RcOk.nil⟩
def RcOk.append {K:jJa}{O:Addr->Prop}{H H1:Hp}{d:D}{v:V}{L1 L2:List Addr}(dom:∀a,O a->H a≠none)(s:Same H H1)(r:Rep K H1 d v L1)(h1:RcOk ca O H L1)(h2:RcOk cb O H1 L2):RcOk (Rc.both ca cb) O H (L1++L2):=by
 have dom1:∀a,O a->H1 a≠none:=fun a h=>by rw[s.at (dom a h)];exact dom a h
 by_cases hf:ca=.fresh/\cb=.fresh
 ·obtain⟨rfl,rfl⟩:=hf;refine⟨sI.mpr ⟨h1.1,h2.1,fun a ha b hb z=>?_⟩,fun a ha=>?_⟩
  ·subst z;exact r.there ha (h2.2 a hb)
  ·rcases sG.mp ha with z|z
   ·exact h1.2 a z
   ·exact s.non (h2.2 a z)
 ·have key:ca≠.bor->cb≠.bor->∀a∈L1++L2,¬O a:=fun n1 n2 a ha=>by
   rcases sG.mp ha with z|z
   ·exact h1.shr dom n1 a z
   ·exact h2.shr dom1 n2 a z
  cases ca<;>cases cb<;>first|exact absurd ⟨rfl,rfl⟩ hf|trivial|exact key (by simp) (by simp)
def ze {es:List Expr}{u:Tn->R (List D)}(h:ME X E Γ e t ca)(r:MA X E Γ es u cb)(hs:autoParam (starEach (e::es) X.env=(false,eval e X.env)::starEach es X.env) au3._auto_1):MA X E Γ (e::es) (za t u) (Rc.both ca cb):=by
 obtain⟨te,p1,q1⟩:=h;obtain⟨hl,ta,p2,q2⟩:=r;refine⟨fun τ ds h=>?_,qw te ta,wI p1 p2 hs,fun O σ H τ Q ok h=>?_⟩
 ·unfold za at h;cases h1:t τ with
  | ok d =>
   rw[h1,jYa]at h;cases h2:u τ with
   | ok xs =>
    rw[h2,jYa]at h;cases h;rw[tF,tF,hl τ xs h2]
   | err n=>rw[h2]at h;cases h
   | bad=>rw[h2]at h;cases h
  | err n=>rw[h1]at h;cases h
  | bad=>rw[h1]at h;cases h
 ·unfold za at h;refine q1 O σ H τ _ ok ?_;cases h1:t τ with
  | ok d =>
   rw[h1,jYa]at h;refine fun v H1 L1 s1 r1 k1=>q2 O σ H1 τ _ (ok.same s1) ?_;cases h2:u τ with
   | ok xs =>
    rw[h2,jYa]at h;exact fun vs H2 L2 s2 r2 k2=>h (v::vs) H2 (L1++L2) (s1.trans s2) (Reps.cons (r1.same s2) r2) (RcOk.append ok.dom s1 r1 k1 k2)
   | err n=>rw[h2]at h;exact fun C H' e s'=>h C H' e (s1.trans s')
   | bad=>rw[h2]at h;exact h
  | err n=>rw[h1]at h;exact h
  | bad=>rw[h1]at h;exact h
def xV {es:List Expr}{u:Tn->R (List D)}{x1}(h:MA X E Γ es u c)(hz:autoParam (es.length<=1000) au1._auto_1):ME X E Γ (.Tuple es x1 pos) (eL (fun ds=>.ok (.tup ds)) u) c:=by
 obtain⟨hl,ta,p,q⟩:=h;refine⟨z20 ta,QC p,fun O σ H τ Q ok h=>q O σ H τ _ ok ?_⟩;unfold eL at h;have hs:sizeLine=16777216:=sizeLine_eq;cases hu:u τ with
 | ok ds =>
  rw[hu,jYa]at h;refine fun vs H1 L s r k=>⟨by rw[r.length,hl τ ds hu];lia,fun p hp=>?_⟩
  refine h _ _ L (s.trans (Same.new hp)) ⟨p,vs,rfl,SqT.of zu,r.same (Same.new hp)⟩ k
 | err n=>rw[hu]at h;exact h
 | bad=>rw[hu]at h;exact h
def yH {es:List Expr}{u:Tn->R (List D)}(h:MA X E Γ es u c)(hz:autoParam (es.length<=1000) au1._auto_1):ME X E Γ (.List es pos) (eL (fun ds=>.ok (.lst ds)) u) c:=by
 obtain⟨hl,ta,p,q⟩:=h;refine⟨Yv ta,XC p,fun O σ H τ Q ok h=>q O σ H τ _ ok ?_⟩;unfold eL at h;have hs:sizeLine=16777216:=sizeLine_eq;cases hu:u τ with
 | ok ds =>
  rw[hu,jYa]at h;refine fun vs H1 L s r k=>⟨by rw[r.length,hl τ ds hu];lia,fun p hp=>?_⟩
  refine h _ _ (p::L) (s.trans (Same.new hp)) ⟨p,vs,L,rfl,zu,rfl,r.same (Same.new hp)⟩ ?_;have np:H p=none:=s.non hp;cases c with
  | fresh =>
   refine⟨sW.mpr ⟨fun z=>r.there z hp,k.1⟩,fun a ha=>?_⟩;rcases sF.mp ha with z|z
   ·rw[z];exact np
   ·exact k.2 a z
  | shr =>
   intro a ha;rcases sF.mp ha with z|z
   ·rw[z];exact fun o=>ok.dom p o np
   ·exact k a z
  | bor=>trivial
 | err n=>rw[hu]at h;exact h
 | bad=>rw[hu]at h;exact h
def vi (h:ME X E Γ e t c)(he:autoParam (∀whole,isTrue e X.env whole=(do let v <-whole;standAt e.pos;holding [v] (truthy v))) au2._auto_1):MT X E Γ e (zl t):=by
 obtain⟨te,p,q⟩:=h;refine⟨tB te,z1o p he,fun O σ H τ Q ok h=>q O σ H τ _ ok ?_⟩;unfold zl at h;cases ht:t τ with
 | ok d =>
  rw[ht,jYa]at h;refine fun v H' L s r _=>?_;cases d with
  | bl k=>exact⟨k,r.1,h H' s⟩
  | _=>exact h.elim
 | err n=>rw[ht]at h;exact h
 | bad=>rw[ht]at h;exact h
variable {u v:Tn->R Bool}{rest:List Expr}
def qJ (h:MT X E Γ a u):MT X E Γ (.UnaryOp .Not a pos) (xy u):=by
 obtain⟨te,p,q⟩:=h;refine⟨z2P te,z1w p,fun O σ H τ Q ok h=>q O σ H τ _ ok ?_⟩;unfold xy at h;cases ht:u τ with
 | ok d=>rw[ht,jYa]at h;exact h
 | err n=>rw[ht]at h;exact h
 | bad=>rw[ht]at h;exact h
def vB (h:MT X E Γ a u):MW X E Γ (.BoolOp .And [a] pos) u:=by
 obtain⟨te,p,q⟩:=h;exact⟨te,KC p,q⟩
def vY (h:MT X E Γ a u):MW X E Γ (.BoolOp .Or [a] pos) u:=by
 obtain⟨te,p,q⟩:=h;exact⟨te,z0L p,q⟩
def uK (h:MT X E Γ a u)(r:MW X E Γ (.BoolOp .And (b::rest) pos) v):MW X E Γ (.BoolOp .And (a::b::rest) pos) (yT u v):=by
 obtain⟨te,p,q⟩:=h;obtain⟨te',p',q'⟩:=r;refine⟨z2l te te',z2b p p',fun O σ H τ Q ok h=>q O σ H τ _ ok ?_⟩;unfold yT at h;cases ht:u τ with
 | ok d =>
  rw[ht,jYa]at h;refine fun H1 s1=>?_;cases d with
  | true=>rw[if_pos rfl]at h ⊢;exact q' O σ H1 τ Q (ok.same s1) (h.same s1)
  | false=>rw[if_neg tX]at h ⊢;exact h H1 s1
 | err n=>rw[ht]at h;exact h
 | bad=>rw[ht]at h;exact h
def uG (h:MT X E Γ a u)(r:MW X E Γ (.BoolOp .Or (b::rest) pos) v):MW X E Γ (.BoolOp .Or (a::b::rest) pos) (bOr u v):=by
 obtain⟨te,p,q⟩:=h;obtain⟨te',p',q'⟩:=r;refine⟨tOr te te',z3n p p',fun O σ H τ Q ok h=>q O σ H τ _ ok ?_⟩;unfold bOr at h;cases ht:u τ with
 | ok d =>
  rw[ht,jYa]at h;refine fun H1 s1=>?_;cases d with
  | true=>rw[if_pos rfl]at h ⊢;exact h H1 s1
  | false=>rw[if_neg tX]at h ⊢;exact q' O σ H1 τ Q (ok.same s1) (h.same s1)
 | err n=>rw[ht]at h;exact h
 | bad=>rw[ht]at h;exact h
def J5 {op}(h:ME X E Γ a t c):ME X E Γ (.BoolOp op [a] pos) t c:=by
 obtain⟨te,p,q⟩:=h;exact⟨te,z0U p,q⟩
def Xe {K:jJa}{O:Addr->Prop}{H:Hp}{Q:VK}{d:D}{f:Bool->R D}(h:post K E O c H Q ((asB d).bind f)){v:V}{H':Hp}{L:List Addr}(r:Rep K H' d v L):∃k,v=.bl k/\d=.bl k/\post K E O c H Q (f k):=by
 cases d with
 | bl k=>exact⟨k,r.1,rfl,h⟩
 | _=>exact h.elim
def Ut (ha:ME X E Γ a ta ca)(hb:ME X E Γ (.BoolOp .And (b::rest) pos) tb c):ME X E Γ (.BoolOp .And (a::b::rest) pos) (We ta tb) c:=by
 obtain⟨te,p,q⟩:=ha;obtain⟨te',p',q'⟩:=hb;refine⟨z0x te te',z1b p p',fun O σ H τ Q ok h=>q O σ H τ _ ok (post.bind h fun d _ h v H1 L s r _=>?_)⟩;obtain⟨k,e1,e2,h⟩:=Xe h r;refine⟨k,e1,?_⟩;cases k with
 | true=>rw[if_pos rfl]at h ⊢;exact q' O σ H1 τ Q (ok.same s) (h.same s)
 | false=>rw[if_neg tX]at h ⊢;exact h _ H1 [] s ⟨rfl,rfl⟩ RcOk.nil
def z1R (ha:ME X E Γ a ta ca):ME X E Γ (.UnaryOp .Not a pos) (z1r ta) .fresh:=by
 obtain⟨te,p,q⟩:=ha;refine⟨KY te,z1M p,fun O σ H τ Q ok h=>q O σ H τ _ ok (post.bind h fun d _ h v H1 L s r _=>?_)⟩;obtain⟨k,e1,e2,h⟩:=Xe h r;exact⟨k,e1,h _ H1 [] s ⟨rfl,rfl⟩ RcOk.nil⟩
def Qi {k:Expr}(hk:MT X E Γ k u)(ha:ME X E Γ a ta c)(hb:ME X E Γ b tb c):ME X E Γ (.IfExp k a b pos) (eIf u ta tb) c:=by
 obtain⟨te,p,q⟩:=hk;obtain⟨te1,p1,q1⟩:=ha;obtain⟨te2,p2,q2⟩:=hb;refine⟨tIf te te1 te2,Q0 p p1 p2,fun O σ H τ Q ok h=>q O σ H τ _ ok ?_⟩;unfold eIf at h;cases ht:u τ with
 | ok d =>
  rw[ht,jYa]at h;refine fun H1 s1=>?_;cases d with
  | true=>rw[if_pos rfl]at h ⊢;exact q1 O σ H1 τ Q (ok.same s1) (h.same s1)
  | false=>rw[if_neg tX]at h ⊢;exact q2 O σ H1 τ Q (ok.same s1) (h.same s1)
 | err n=>rw[ht]at h;exact h
 | bad=>rw[ht]at h;exact h
def OpB (K:jJa)(r:R2)(g:D->D->R D):Prop:=
 ∀H x y dx dy Lx Ly (Q:VK),Rep K H dx x Lx->Rep K H dy y Ly->(∃d,g dx dy=.ok d/\∀v H' L,Same H H'->Rep K H' d v L->L.Nodup->(∀a∈L,H a=none)->Q v H')->r x y H Q
def wG (g:D->D->R D):Prop:=∀x y n,g x y≠.err n
def XM {r:R2}{g:D->D->R D}{te te':TE}(hB:OpB X.K r g)(hn:wG g)(q:∀O σ H τ Q,EOk X.K Γ O H σ τ->post X.K E O ca H Q (ta τ)->te σ H Q)(q':∀O σ H τ Q,EOk X.K Γ O H σ τ->post X.K E O cb H Q (tb τ)->te' σ H Q)
  {O:Addr->Prop} {σ:St} {H:Hp} {τ:Tn} {Q:VK} (ok:EOk X.K Γ O H σ τ) (h:post X.K E O .fresh H Q (zd g ta tb τ)):tOp r te te' σ H Q:=by
 unfold zd at h;refine q O σ H τ _ ok (post.bind h fun dx _ h x H1 Lx s1 rx _=>q' O σ H1 τ _ (ok.same s1) (post.bind (h.same s1) fun dy _ h y H2 Ly s2 ry _=>?_));cases hg:g dx dy with
 | ok d =>
  rw[hg]at h;exact hB H2 x y dx dy Lx Ly Q (rx.same s2) ry ⟨d,hg,fun v H' L s r n1 n2=>h v H' L (s2.trans s) r ⟨n1,fun a ha=>s2.non (n2 a ha)⟩⟩
 | err n=>exact absurd hg (hn _ _ _)
 | bad=>rw[hg]at h;exact h.elim
def zp {op:Operator}{r:R2}{g:D->D->R D}(ho:OpR X (binaryOp op) r)(hB:OpB X.K r g)(hn:wG g)(ha:ME X E Γ a ta ca)(hb:ME X E Γ b tb cb):ME X E Γ (.BinOp a op b pos) (zd g ta tb) .fresh:=by
 obtain⟨te,p,q⟩:=ha;obtain⟨te',p',q'⟩:=hb;exact⟨_,z0u ho p p',fun O σ H τ Q ok h=>XM hB hn q q' ok h⟩
def Y6 {op:CmpOp}{r:R2}{g:D->D->R D}(ho:OpR X (compareOp op) r)(hB:OpB X.K r g)(hn:wG g)(ha:ME X E Γ a ta ca)(hb:ME X E Γ b tb cb)(hm:behindInMarks op b=false):ME X E Γ (.Compare a [op] [b] pos) (zd g ta tb) .fresh:=by
 obtain⟨te,p,q⟩:=ha;obtain⟨te',p',q'⟩:=hb;exact⟨_,Ka ho p p' hm,fun O σ H τ Q ok h=>XM hB hn q q' ok h⟩
def U8 {K:jJa}{O:Addr->Prop}{H:Hp}{Q:Bool->Hp->Prop}{r:R D}(h:postB K E H Q (r.bind asB)):post K E O c H (fun x H'=>∃k,x=.bl k/\Q k H') r:=by
 cases r with
 | ok d =>
  refine fun v H' L s r _=>?_;cases d with
  | bl k=>exact⟨k,r.1,h H' s⟩
  | _=>exact h.elim
 | err n=>exact h
 | bad=>exact h
def zN {op:CmpOp}{r:R2}{g:D->D->R D}(ho:OpR X (compareOp op) r)(hB:OpB X.K r g)(hn:wG g)(ha:ME X E Γ a ta ca)(hb:ME X E Γ b tb cb)(hm:behindInMarks op b=false):MT X E Γ (.Compare a [op] [b] pos) (zl (zd g ta tb)):=by
 obtain⟨te,p,q⟩:=ha;obtain⟨te',p',q'⟩:=hb;exact⟨_,Jd ho p p' hm,fun O σ H τ Q ok h=>XM (O:=O) hB hn q q' ok (U8 h)⟩
def ClB (K:jJa)(r:List V->Hp->VK->Prop)(g:List D->R D):Prop:=
 ∀H xs ds L (Q:VK),Reps K H ds xs L->(∃d,g ds=.ok d/\∀v H' L',Same H H'->Rep K H' d v L'->L'.Nodup->(∀a∈L',H a=none)->Q v H')->r xs H Q
def wX (g:List D->R D):Prop:=∀ds n,g ds≠.err n
variable {uL:Tn->R (List D)}{es:List Expr}
def z0m {r:List V->Hp->VK->Prop}{g:List D->R D}{ta':TA}(hB:ClB X.K r g)(hn:wX g)(q:∀O σ H τ Q,EOk X.K Γ O H σ τ->qY X.K E O ca H Q (uL τ)->ta' σ H Q)
  {O:Addr->Prop} {σ:St} {H:Hp} {τ:Tn} {Q:VK} (ok:EOk X.K Γ O H σ τ) (h:post X.K E O .fresh H Q (eL g uL τ)):tCB r ta' σ H Q:=by
 refine q O σ H τ _ ok ?_;unfold eL at h;cases hu:uL τ with
 | ok ds =>
  rw[hu,jYa]at h;refine fun vs H1 L s1 r1 _=>?_;cases hg:g ds with
  | ok d =>
   rw[hg]at h;exact hB H1 vs ds L Q r1 ⟨d,hg,fun v H' L s r n1 n2=>h v H' L (s1.trans s) r ⟨n1,fun a ha=>s1.non (n2 a ha)⟩⟩
  | err n=>exact absurd hg (hn _ _)
  | bad=>rw[hg]at h;exact h.elim
 | err n=>rw[hu]at h;exact h
 | bad=>rw[hu]at h;exact h
variable {x:Str}{id T:String}{p:Pos}
def zT {r:List V->Hp->VK->Prop}{g:List D->R D}(hc:CallR X (.builtin id) r)(hB:ClB X.K r g)(hn:wX g)(hg:Gl X x)(hm:X.mg x=none)(hv:bootBuiltins x=some (.builtin id))(ha:MA X E Γ (e::es) uL ca)(hx:autoParam (x≠"__name__") au1._auto_1)(hdb:autoParam ((x==("__debug__":Str))=false) au1._auto_1)
  (he:autoParam (starEach (e::es) X.env=(false,eval e X.env)::starEach es X.env) au3._auto_1) (hpl:autoParam ((backTo pos (starEach es X.env)).any (·.1)=false) au3._auto_1):ME X E Γ (.Call (.Name x p) (e::es) [] pos) (eL g uL) .fresh:=by
 obtain⟨_,ta',p',q⟩:=ha;exact⟨_,YE hc hg hm hv p' hx hdb he hpl,fun O σ H τ Q ok h=>z0m hB hn q ok h⟩
def qC {r:List V->Hp->VK->Prop}{g:List D->R D}(hc:CallR X (.type T) r)(hB:ClB X.K r g)(hn:wX g)(hg:Gl X x)(hm:X.mg x=none)(hv:bootBuiltins x=some (.type T))(ha:MA X E Γ (e::es) uL ca)(hx:autoParam (x≠"__name__") au1._auto_1)(hdb:autoParam ((x==("__debug__":Str))=false) au1._auto_1)
  (he:autoParam (starEach (e::es) X.env=(false,eval e X.env)::starEach es X.env) au3._auto_1) (hpl:autoParam ((backTo pos (starEach es X.env)).any (·.1)=false) au3._auto_1):ME X E Γ (.Call (.Name x p) (e::es) [] pos) (eL g uL) .fresh:=by
 obtain⟨_,ta',p',q⟩:=ha;exact⟨_,VC hc hg hm hv p' hx hdb he hpl,fun O σ H τ Q ok h=>z0m hB hn q ok h⟩
end
def wpE (K:jJa)(E:XK)(Γ:List Cl)(t:Tn->R D)(c:Rc):TE:=fun σ H Q=>∃O τ,EOk K Γ O H σ τ/\post K E O c H Q (t τ)
def wpT (K:jJa)(E:XK)(Γ:List Cl)(t:Tn->R Bool):TT:=fun σ H Q=>∃O τ,EOk K Γ O H σ τ/\postB K E H Q (t τ)
theorem ME.pe {X:Cx}{E:XK}{Γ:List Cl}{e:Expr}{t:Tn->R D}{c:Rc}(h:ME X E Γ e t c):PE X e (wpE X.K E Γ t c):=by
 obtain⟨te,p,q⟩:=h;rintro pins s σ H Q I ⟨O,τ,ok,z⟩;exact p pins s σ H Q I (q O σ H τ Q ok z)
structure SOk (K:jJa)(Γ:List Cl)(B H:Hp)(σ:St)(τ:Tn)(T:List Addr):Prop where
 ext:Same B H
 lσ:σ.length=Γ.length
 lτ:τ.length=Γ.length
 ex:∃Ls:Nat->List Addr,
  (∀i c,Γ[i]?=some c->c≠.dead->∃v d,σ[i]?=some (some v)/\τ[i]?=some (some d)/\Rep K H d v (Ls i)) /\
  (∀i,Γ[i]?=some .own->(Ls i).Nodup/\∀a∈Ls i,B a=none) /\
  (∀i j c,i≠j->Γ[i]?=some .own->Γ[j]?=some c->c≠.dead->∀a∈Ls i,a∉Ls j) /\
  T.Nodup/\(∀a∈T,B a=none/\H a≠none)/\(∀i c,Γ[i]?=some c->c≠.dead->∀a∈Ls i,a∉T)
inductive Fl where
 | nx (τ:Tn) | rt (d:D) | bk (τ:Tn) | ct (τ:Tn)
def z3o (K:jJa)(E:XK)(B:Hp)(Γ':List Cl)(σ:St)(τ:Tn)(T:List Addr)(H:Hp)(Q:VK):R D->Prop
 | .ok d=>∀v H' L,Same H H'->Rep K H' d v L->SOk K Γ' B H' σ τ (L++T)->Q v H'
 | .err n=>∀C H',ErrC K n C->Same B H'->E (.ref C) none H'
 | .bad=>False
def z1B (K:jJa)(E:XK)(B:Hp)(Γ':List Cl)(σ:St)(τ:Tn)(T:List Addr)(H:Hp)(Q:List V->Hp->Prop):R (List D)->Prop
 | .ok ds=>∀vs H' L,Same H H'->Reps K H' ds vs L->SOk K Γ' B H' σ τ (L++T)->Q vs H'
 | .err n=>∀C H',ErrC K n C->Same B H'->E (.ref C) none H'
 | .bad=>False
def uA (K:jJa)(E:XK)(B:Hp)(Γl Γ':List Cl)(Z:Ends):R Fl->Prop
 | .ok (.nx τ')=>∀σ' H',SOk K Γ' B H' σ' τ' []->Z.nx σ' H'
 | .ok (.rt d)=>∀v H' L,Same B H'->Rep K H' d v L->L.Nodup->(∀a∈L,B a=none)->Z.rt v H'
 | .ok (.bk τ')=>∀σ' H',SOk K Γl B H' σ' τ' []->Z.bk σ' H'
 | .ok (.ct τ')=>∀σ' H',SOk K Γl B H' σ' τ' []->Z.ct σ' H'
 | .err n=>∀C H',ErrC K n C->Same B H'->E (.ref C) none H'
 | .bad=>False
def MV (X:Cx)(E:XK)(Γ:List Cl)(e:Expr)(t:Tn->R D)(Γ':List Cl):Prop:=
 ∃te,PE X e te/\∀B σ H τ T Q,SOk X.K Γ B H σ τ T->z3o X.K E B Γ' σ τ T H Q (t τ)->te σ H Q
def MVs (X:Cx)(E:XK)(Γ:List Cl)(es:List Expr)(t:Tn->R (List D))(Γ':List Cl):Prop:=
 (∀τ ds,t τ=.ok ds->ds.length=es.length)/\∃ta,PA X es ta/\∀B σ H τ T Q,SOk X.K Γ B H σ τ T->z1B X.K E B Γ' σ τ T H Q (t τ)->ta σ H Q
def MS (X:Cx)(E:XK)(Γl Γ:List Cl)(s:Stmt)(t:Tn->R Fl)(Γ':List Cl):Prop:=
 ∃ts,PS X s ts/\∀B σ H τ Z,SOk X.K Γ B H σ τ []->uA X.K E B Γl Γ' Z (t τ)->ts Z σ H
def MSs (X:Cx)(E:XK)(Γl Γ:List Cl)(s:List Stmt)(t:Tn->R Fl)(Γ':List Cl):Prop:=
 ∃ts,PSs X s ts/\∀B σ H τ Z,SOk X.K Γ B H σ τ []->uA X.K E B Γl Γ' Z (t τ)->ts Z σ H
section
variable {K:jJa}{Γ Γ':List Cl}{B H H1:Hp}{σ:St}{τ:Tn}{T:List Addr}
theorem SOk.eok (h:SOk K Γ B H σ τ T):∃O:Addr->Prop,EOk K Γ O H σ τ/\(∀L:List Addr,(∀a∈L,¬O a)->∃Ls:Nat->List Addr,
  (∀i c,Γ[i]?=some c->c≠.dead->∃v d,σ[i]?=some (some v)/\τ[i]?=some (some d)/\Rep K H d v (Ls i)) /\
  (∀i,Γ[i]?=some .own->(Ls i).Nodup/\∀a∈Ls i,B a=none) /\
  (∀i j c,i≠j->Γ[i]?=some .own->Γ[j]?=some c->c≠.dead->∀a∈Ls i,a∉Ls j) /\
  T.Nodup/\(∀a∈T,B a=none/\H a≠none)/\(∀i c,Γ[i]?=some c->c≠.dead->∀a∈Ls i,a∉T)/\∀i,Γ[i]?=some .own->∀a∈Ls i,a∉L):=by
 obtain⟨Ls,h1,h2,h3,h4,h5,h6⟩:=h.ex;refine⟨fun a=>∃i,Γ[i]?=some .own/\a∈Ls i,⟨fun a ⟨i,e,ha⟩=>?_,fun i c e hc=>?_⟩,fun L hL=>⟨Ls,h1,h2,h3,h4,h5,h6,fun i e a ha hm=>hL a hm ⟨i,e,ha⟩⟩⟩
 ·obtain⟨v,d,_,_,r⟩:=h1 i _ e (by simp);exact r.there ha
 ·obtain⟨v,d,e1,e2,r⟩:=h1 i c e hc;refine⟨v,d,Ls i,e1,e2,r,fun z a ha ⟨j,ej,hj⟩=>?_⟩;subst z;have hij:j≠i:=fun z=>by subst z;rw[e]at ej;cases ej
  exact h3 j i _ hij ej e (by simp) a hj ha
theorem SOk.same (h:SOk K Γ B H σ τ T)(s:Same H H1):SOk K Γ B H1 σ τ T:=by
 obtain⟨Ls,h1,h2,h3,h4,h5,h6⟩:=h.ex;refine⟨h.ext.trans s,h.lσ,h.lτ,Ls,fun i c e hc=>?_,h2,h3,h4,fun a ha=>⟨(h5 a ha).1,by rw[s.at (h5 a ha).2];exact (h5 a ha).2⟩,h6⟩;obtain⟨v,d,e1,e2,r⟩:=h1 i c e hc;exact⟨v,d,e1,e2,r.same s⟩
def SOk.aside {L:List Addr}(h:SOk K Γ B H σ τ T)(s:Same H H1)(r:∀a∈L,H1 a≠none)(n1:L.Nodup)(n2:∀a∈L,H a=none):SOk K Γ B H1 σ τ (L++T):=by
 obtain⟨Ls,h1,h2,h3,h4,h5,h6⟩:=h.ex;refine⟨h.ext.trans s,h.lσ,h.lτ,Ls,fun i c e hc=>?_,h2,h3,sI.mpr ⟨n1,h4,fun a ha b hb z=>?_⟩,fun a ha=>?_,fun i c e hc a ha hm=>?_⟩
 ·obtain⟨v,d,e1,e2,r⟩:=h1 i c e hc;exact⟨v,d,e1,e2,r.same s⟩
 ·subst z;exact (h5 a hb).2 (n2 a ha)
 ·rcases sG.mp ha with z|z
  ·exact⟨h.ext.non (n2 a z),r a z⟩
  ·exact⟨(h5 a z).1,by rw[s.at (h5 a z).2];exact (h5 a z).2⟩
 ·obtain⟨v,d,e1,e2,r'⟩:=h1 i c e hc;rcases sG.mp hm with z|z
  ·exact r'.there ha (n2 a z)
  ·exact h6 i c e hc a ha z
theorem SOk.perm {T':List Addr}(h:SOk K Γ B H σ τ T)(p:T.Perm T'):SOk K Γ B H σ τ T':=by
 obtain⟨Ls,h1,h2,h3,h4,h5,h6⟩:=h.ex;exact⟨h.ext,h.lσ,h.lτ,Ls,h1,h2,h3,p.nodup_iff.mp h4,fun a ha=>h5 a (p.mem_iff.mpr ha),fun i c e hc a ha hm=>h6 i c e hc a ha (p.mem_iff.mpr hm)⟩
def wk1:Cl->Cl->Bool
 | _,.dead=>true
 | .own,.own=>true
 | .own,.shr=>true
 | .shr,.shr=>true
 | _,_=>false
def wk:List Cl->List Cl->Bool
 | [],[]=>true
 | a::r,b::q=>wk1 a b&&wk r q
 | _,_=>false
theorem Wu:∀ {Γ Γ':List Cl},wk Γ Γ'=true->Γ.length=Γ'.length
 | [],[],_=>rfl
 | a::r,b::q,h=>by
  have h:(wk1 a b&&wk r q)=true:=h;rw[sR]at h;rw[tF,tF,Wu h.2]
theorem z0n:∀ {Γ Γ':List Cl} {i:Nat} {c:Cl},wk Γ Γ'=true->Γ'[i]?=some c->∃k,Γ[i]?=some k/\wk1 k c=true
 | [],[],_,_,_,e=>by simp at e
 | a::r,b::q,0,c,h,e=>by
  have h:(wk1 a b&&wk r q)=true:=h;rw[sR]at h;simp at e;subst e;exact⟨a,rfl,h.1⟩
 | a::r,b::q,i+1,c,h,e=>by
  have h:(wk1 a b&&wk r q)=true:=h;rw[sR]at h;obtain⟨k,h1,h2⟩:=z0n (i:=i) (c:=c) h.2 (by simpa using e);exact⟨k,by simpa using h1,h2⟩
theorem SOk.weak (h:SOk K Γ B H σ τ T)(w:wk Γ Γ'=true):SOk K Γ' B H σ τ T:=by
 obtain⟨Ls,h1,h2,h3,h4,h5,h6⟩:=h.ex;have live:∀(i:Nat) (c:Cl),Γ'[i]?=some c->c≠Cl.dead->∃k,Γ[i]?=some k/\k≠Cl.dead/\(c=Cl.own->k=Cl.own):=fun i c e hc=>by
  obtain⟨k,e',w'⟩:=z0n w e;refine⟨k,e',fun z=>?_,fun z=>?_⟩
  ·subst z;cases c<;>first|exact absurd rfl hc|cases w'
  ·subst z;cases k<;>first|rfl|cases w'
 refine⟨h.ext,by rw[<-Wu w];exact h.lσ,by rw[<-Wu w];exact h.lτ,Ls,fun i c e hc=>?_,fun i e=>?_,fun i j c hij ei ej hc=>?_,h4,h5,fun i c e hc=>?_⟩
 ·obtain⟨k,e',n,_⟩:=live i c e hc;exact h1 i k e' n
 ·obtain⟨k,e',n,o⟩:=live i _ e (by simp);rw[o rfl]at e';exact h2 i e'
 ·obtain⟨k,e',n,o⟩:=live i _ ei (by simp);obtain⟨k2,e2,n2,_⟩:=live j c ej hc;rw[o rfl]at e';exact h3 i j k2 hij e' e2 n2
 ·obtain⟨k,e',n,_⟩:=live i c e hc;exact h6 i k e' n
theorem SOk.out {i:Nat}(h:SOk K Γ B H σ τ T)(e:Γ[i]?=some .own):∃v d L,σ[i]?=some (some v)/\τ[i]?=some (some d)/\Rep K H d v L/\SOk K (Γ.set i .dead) B H σ τ (L++T):=by
 obtain⟨Ls,h1,h2,h3,h4,h5,h6⟩:=h.ex;obtain⟨v,d,e1,e2,r⟩:=h1 i _ e (by simp);have hi:i<Γ.length:=(tV.mp e).1;have at':∀(j:Nat) (c:Cl),(Γ.set i .dead)[j]?=some c->c≠.dead->j≠i/\Γ[j]?=some c:=fun j c ej hc=>by
  by_cases z:i=j
  ·subst z;rw[sO hi]at ej;exact absurd (jYe ej).symm hc
  ·rw[sE z]at ej;exact⟨Ne.symm z,ej⟩
 refine⟨v,d,Ls i,e1,e2,r,⟨h.ext,by rw[sS];exact h.lσ,by rw[sS];exact h.lτ,Ls,fun j c ej hc=>h1 j c (at' j c ej hc).2 hc,fun j ej=>h2 j (at' j _ ej (by simp)).2,fun j k c hjk ej ek hc=>h3 j k c hjk (at' j _ ej (by simp)).2 (at' k c ek hc).2 hc,
  sI.mpr ⟨(h2 i e).1,h4,fun a ha b hb z=>?_⟩,fun a ha=>?_,fun j c ej hc a ha hm=>?_⟩⟩
 ·subst z;exact h6 i _ e (by simp) a ha hb
 ·rcases sG.mp ha with z|z
  ·exact⟨(h2 i e).2 a z,r.there z⟩
  ·exact h5 a z
 ·obtain⟨n,ej'⟩:=at' j c ej hc;rcases sG.mp hm with z|z
  ·exact h3 i j c (Ne.symm n) e ej' hc a z ha
  ·exact h6 j c ej' hc a ha z
def W3 (Ls:Nat->List Addr)(i:Nat)(L:List Addr):Nat->List Addr:=fun j=>if j=i then L else Ls j
def yo {Ls:Nat->List Addr}{i:Nat}{L:List Addr}:W3 Ls i L i=L:=if_pos rfl
def Wx {Ls:Nat->List Addr}{i j:Nat}{L:List Addr}(h:j=i):W3 Ls i L j=L:=if_pos h
def yh {Ls:Nat->List Addr}{i j:Nat}{L:List Addr}(h:j≠i):W3 Ls i L j=Ls j:=if_neg h
theorem SOk.into {i:Nat}{d:D}{v:V}{L:List Addr}(h:SOk K Γ B H σ τ (L++T))(r:Rep K H d v L)(hi:i<Γ.length):SOk K (Γ.set i .own) B H (σ.set i (some v)) (τ.set i (some d)) T:=by
 obtain⟨Ls,h1,h2,h3,h4,h5,h6⟩:=h.ex;have hσ:i<σ.length:=by rw[h.lσ];exact hi
 have hτ:i<τ.length:=by rw[h.lτ];exact hi
 obtain⟨n1,n2,n3⟩:=sI.mp h4;have at':∀(j:Nat) (c:Cl),j≠i->(Γ.set i .own)[j]?=some c->Γ[j]?=some c:=fun j c hj e=>by rw[sE (Ne.symm hj)]at e;exact e
 refine⟨h.ext,by rw[sS,sS];exact h.lσ,by rw[sS,sS];exact h.lτ,W3 Ls i L,fun j c e hc=>?_,fun j e=>?_,fun j k c hjk ej ek hc a ha hm=>?_,n2,fun a ha=>h5 a (tR _ ha),fun j c e hc a ha hm=>?_⟩
 ·by_cases z:j=i
  ·subst z;refine⟨v,d,by rw[sO hσ],by rw[sO hτ],?_⟩;rw[yo];exact r
  ·obtain⟨v',d',e1,e2,r'⟩:=h1 j c (at' j c z e) hc;refine⟨v',d',by rw[sE (Ne.symm z)];exact e1,by rw[sE (Ne.symm z)];exact e2,?_⟩;rw[yh z];exact r'
 ·by_cases z:j=i
  ·subst z;rw[yo];exact⟨n1,fun a ha=>(h5 a (sC _ ha)).1⟩
  ·rw[yh z];exact h2 j (at' j _ z e)
 ·by_cases z:j=i
  ·subst z;rw[yo]at ha;rw[yh (Ne.symm hjk)]at hm;exact h6 k c (at' k c (Ne.symm hjk) ek) hc a hm (sC _ ha)
  ·rw[yh z]at ha
   by_cases z2:k=i
   ·subst z2;rw[yo]at hm;exact h6 j _ (at' j _ z ej) (by simp) a ha (sC _ hm)
   ·rw[yh z2]at hm;exact h3 j k c hjk (at' j _ z ej) (at' k c z2 ek) hc a ha hm
 ·by_cases z:j=i
  ·subst z;rw[yo]at ha;exact n3 a ha a hm rfl
  ·rw[yh z]at ha;exact h6 j c (at' j c z e) hc a ha (tR _ hm)
end
section
variable {K:jJa}{Γ Γ':List Cl}{B H H1:Hp}{σ:St}{τ:Tn}{T:List Addr}
def SOk.intoS {i:Nat}{d:D}{v:V}{L:List Addr}{Ls:Nat->List Addr}(e0:Same B H)(l1:σ.length=Γ.length)(l2:τ.length=Γ.length)
  (h1:∀i c,Γ[i]?=some c->c≠.dead->∃v d,σ[i]?=some (some v)/\τ[i]?=some (some d)/\Rep K H d v (Ls i)) (h2:∀i,Γ[i]?=some .own->(Ls i).Nodup/\∀a∈Ls i,B a=none)
  (h3:∀i j c,i≠j->Γ[i]?=some .own->Γ[j]?=some c->c≠.dead->∀a∈Ls i,a∉Ls j) (h7:∀i,Γ[i]?=some .own->∀a∈Ls i,a∉L) (r:Rep K H d v L) (hi:i<Γ.length):
  SOk K (Γ.set i .shr) B H (σ.set i (some v)) (τ.set i (some d)) []:=by
 have hσ:i<σ.length:=by rw[l1];exact hi
 have hτ:i<τ.length:=by rw[l2];exact hi
 have at':∀(j:Nat) (c:Cl),j≠i->(Γ.set i .shr)[j]?=some c->Γ[j]?=some c:=fun j c hj e=>by rw[sE (Ne.symm hj)]at e;exact e
 have nown:∀j:Nat,(Γ.set i .shr)[j]?=some .own->j≠i:=fun j e z=>by subst z;rw[sO hi]at e;cases e
 refine⟨e0,by rw[sS,sS];exact l1,by rw[sS,sS];exact l2,W3 Ls i L,fun j c e hc=>?_,fun j e=>?_,fun j k c hjk ej ek hc a ha hm=>?_,pW,fun a ha=>(nomatch ha),fun j c e hc a ha hm=>(nomatch hm)⟩
 ·by_cases z:j=i
  ·subst z;refine⟨v,d,by rw[sO hσ],by rw[sO hτ],?_⟩;rw[yo];exact r
  ·obtain⟨v',d',e1,e2,r'⟩:=h1 j c (at' j c z e) hc;refine⟨v',d',by rw[sE (Ne.symm z)];exact e1,by rw[sE (Ne.symm z)];exact e2,?_⟩;rw[yh z];exact r'
 ·have z:=nown j e;rw[yh z];exact h2 j (at' j _ z e)
 ·have z:=nown j ej;rw[yh z]at ha
  by_cases z2:k=i
  ·rw[Wx z2]at hm;exact h7 j (at' j _ z ej) a ha hm
  ·rw[yh z2]at hm;exact h3 j k c hjk (at' j _ z ej) (at' k c z2 ek) hc a ha hm
end
section
variable {X:Cx}{E:XK}{Γ Γ1 Γ' Γl:List Cl}{e a b:Expr}{es:List Expr}{t:Tn->R D}{u:Tn->R (List D)}{c:Rc}{pos:Pos}
def zk (h:ME X E Γ e t .fresh):MV X E Γ e t Γ:=by
 obtain⟨te,p,q⟩:=h;refine⟨te,p,fun B σ H τ T Q ok h=>?_⟩;obtain⟨O,eo,_⟩:=ok.eok;refine q O σ H τ Q eo ?_;cases ht:t τ with
 | ok d =>
  rw[ht]at h;exact fun v H' L s r k=>h v H' L s r (ok.aside s (fun a ha=>r.there ha) k.1 k.2)
 | err n=>rw[ht]at h;exact fun C H' e s=>h C H' e (ok.ext.trans s)
 | bad=>rw[ht]at h;exact h
def Ji {i:Nat}{x:Str}(hN:X.N[i]?=some x)(hk:Γ[i]?=some .own)(hv:Vis X.env.scope x)(hb:autoParam ((x==("__debug__":Str))=false) au1._auto_1)(hcd:autoParam ((x==("__classdict__":Str))=false) au1._auto_1):MV X E Γ (.Name x pos) (zc i) (Γ.set i .dead):=by
 refine⟨xE i,uQ hN hv hb hcd,fun B σ H τ T Q ok h=>?_⟩;obtain⟨v,d,L,e1,e2,r,ok'⟩:=ok.out hk;unfold zc at h;rw[e2]at h;exact⟨v,e1,h v H L (Same.refl H) r ok'⟩
def Kc:MVs X E Γ [] zg Γ:=⟨fun τ ds h=>by cases h;rfl,ZF,vV,fun B σ H τ T Q ok h=>h [] H [] (Same.refl H) Reps.nil ok⟩
def YL (h:MV X E Γ e t Γ1)(r:MVs X E Γ1 es u Γ')(hs:autoParam (starEach (e::es) X.env=(false,eval e X.env)::starEach es X.env) au3._auto_1):MVs X E Γ (e::es) (za t u) Γ':=by
 obtain⟨te,p1,q1⟩:=h;obtain⟨hl,ta,p2,q2⟩:=r;refine⟨fun τ ds h=>?_,qw te ta,wI p1 p2 hs,fun B σ H τ T Q ok h=>?_⟩
 ·unfold za at h;cases h1:t τ with
  | ok d =>
   rw[h1,jYa]at h;cases h2:u τ with
   | ok xs =>
    rw[h2,jYa]at h;cases h;rw[tF,tF,hl τ xs h2]
   | err n=>rw[h2]at h;cases h
   | bad=>rw[h2]at h;cases h
  | err n=>rw[h1]at h;cases h
  | bad=>rw[h1]at h;cases h
 ·unfold za at h;refine q1 B σ H τ T _ ok ?_;cases h1:t τ with
  | ok d =>
   rw[h1,jYa]at h;refine fun v H1 L1 s1 r1 k1=>q2 B σ H1 τ (L1++T) _ k1 ?_;cases h2:u τ with
   | ok xs =>
    rw[h2,jYa]at h;refine fun vs H2 L2 s2 r2 k2=>h (v::vs) H2 (L1++L2) (s1.trans s2) (Reps.cons (r1.same s2) r2) (k2.perm ?_);rw[<-sP];exact List.Perm.append_right _ List.perm_append_comm
   | err n=>rw[h2]at h;exact h
   | bad=>rw[h2]at h;exact h
  | err n=>rw[h1]at h;exact h
  | bad=>rw[h1]at h;exact h
def z25 {x1}(h:MVs X E Γ es u Γ')(hz:autoParam (es.length<=1000) au1._auto_1):MV X E Γ (.Tuple es x1 pos) (eL (fun ds=>.ok (.tup ds)) u) Γ':=by
 obtain⟨hl,ta,p,q⟩:=h;refine⟨z20 ta,QC p,fun B σ H τ T Q ok h=>q B σ H τ T _ ok ?_⟩;unfold eL at h;have hs:sizeLine=16777216:=sizeLine_eq;cases hu:u τ with
 | ok ds =>
  rw[hu,jYa]at h;refine fun vs H1 L s r k=>⟨by rw[r.length,hl τ ds hu];lia,fun p hp=>?_⟩
  exact h _ _ L (s.trans (Same.new hp)) ⟨p,vs,rfl,SqT.of zu,r.same (Same.new hp)⟩ (k.same (Same.new hp))
 | err n=>rw[hu]at h;exact h
 | bad=>rw[hu]at h;exact h
def zt:Tn->R Fl:=fun τ=>.ok (.nx τ)
def zj (a b:Tn->R Fl):Tn->R Fl:=fun τ=>(a τ).bind fun f=>match f with
 | .nx τ'=>b τ'
 | f=>.ok f
def zA (t:Tn->R D):Tn->R Fl:=fun τ=>(t τ).bind fun d=>.ok (.rt d)
def zo (i:Nat)(t:Tn->R D):Tn->R Fl:=fun τ=>(t τ).bind fun d=>.ok (.nx (τ.set i (some d)))
def sIf (k:Tn->R Bool)(a b:Tn->R Fl):Tn->R Fl:=fun τ=>(k τ).bind fun x=>if x=true then a τ else b τ
def ya:MSs X E Γl Γ [] zt Γ:=⟨z0h,K1,fun B σ H τ Z ok h=>h σ H ok⟩
def zr {s:Stmt}{t:Tn->R Fl}(h:MS X E Γl Γ s t Γ'):MSs X E Γl Γ [s] t Γ':=by
 obtain⟨ts,p,q⟩:=h;exact⟨ts,ZX p,q⟩
def zh {s:Stmt}{r:List Stmt}{t1 t2:Tn->R Fl}(h:MS X E Γl Γ s t1 Γ1)(k:MSs X E Γl Γ1 r t2 Γ'):MSs X E Γl Γ (s::r) (zj t1 t2) Γ':=by
 obtain⟨ts,p,q⟩:=h;obtain⟨ts',p',q'⟩:=k;refine⟨v7 ts ts',wW p p',fun B σ H τ Z ok h=>q B σ H τ _ ok ?_⟩;unfold zj at h;cases ht:t1 τ with
 | ok f =>
  rw[ht,jYa]at h;cases f with
  | nx τ'=>exact fun σ' H' ok'=>q' B σ' H' τ' Z ok' h
  | rt d=>exact h
  | bk τ'=>exact h
  | ct τ'=>exact h
 | err n=>rw[ht]at h;exact h
 | bad=>rw[ht]at h;exact h
def Uy {s:List Stmt}{t:Tn->R Fl}(h:MSs X E Γl Γ s t Γ1)(w:wk Γ1 Γ'=true):MSs X E Γl Γ s t Γ':=by
 obtain⟨ts,p,q⟩:=h;refine⟨ts,p,fun B σ H τ Z ok h=>q B σ H τ Z ok ?_⟩;cases ht:t τ with
 | ok f =>
  rw[ht]at h;cases f with
  | nx τ'=>exact fun σ' H' ok'=>h σ' H' (ok'.weak w)
  | rt d=>exact h
  | bk τ'=>exact h
  | ct τ'=>exact h
 | err n=>rw[ht]at h;exact h
 | bad=>rw[ht]at h;exact h
def z0V {s:Stmt}{t:Tn->R Fl}(h:MS X E Γl Γ1 s t Γ')(w:wk Γ Γ1=true):MS X E Γl Γ s t Γ':=by
 obtain⟨ts,p,q⟩:=h;exact⟨ts,p,fun B σ H τ Z ok h=>q B σ H τ Z (ok.weak w) h⟩
def zU (h:MV X E Γ e t Γ1):MS X E Γl Γ (.Return (some e) pos) (zA t) Γ':=by
 obtain⟨te,p,q⟩:=h;refine⟨z30 te,z0B p,fun B σ H τ Z ok h=>q B σ H τ [] _ ok ?_⟩;unfold zA at h;cases ht:t τ with
 | ok d =>
  rw[ht,jYa]at h;refine fun v H' L s r ok'=>?_;obtain⟨Ls,_,_,_,h4,h5,_⟩:=ok'.ex;rw[tY]at h4 h5;exact h v H' L ok'.ext r h4 fun a ha=>(h5 a ha).1
 | err n=>rw[ht]at h;exact h
 | bad=>rw[ht]at h;exact h
def Xv (w:wk Γ Γl=true):MS X E Γl Γ (.Break pos) (fun τ=>.ok (.bk τ)) Γ':=⟨Q1,J6,fun B σ H τ Z ok h=>h σ H (ok.weak w)⟩
def xn {k:Expr}{u:Tn->R Bool}{sa sb:List Stmt}{t1 t2:Tn->R Fl}(hk:MT X E Γ k u)(ha:MSs X E Γl Γ sa t1 Γ')(hb:MSs X E Γl Γ sb t2 Γ'):MS X E Γl Γ (.If k sa sb pos) (sIf u t1 t2) Γ':=by
 obtain⟨te,p,q⟩:=hk;obtain⟨ts1,p1,q1⟩:=ha;obtain⟨ts2,p2,q2⟩:=hb;refine⟨z3f te ts1 ts2,z36 p p1 p2,fun B σ H τ Z ok h=>?_⟩;obtain⟨O,eo,_⟩:=ok.eok;refine q O σ H τ _ eo ?_;unfold sIf at h;cases ht:u τ with
 | ok x =>
  rw[ht,jYa]at h;refine fun H1 s1=>?_;cases x with
  | true=>rw[if_pos rfl]at h ⊢;exact q1 B σ H1 τ Z (ok.same s1) h
  | false=>rw[if_neg tX]at h ⊢;exact q2 B σ H1 τ Z (ok.same s1) h
 | err n=>rw[ht]at h;exact fun C H' e s=>h C H' e (ok.ext.trans s)
 | bad=>rw[ht]at h;exact h
def z1n {i:Nat}{x:Str}{pos':Pos}(hN:X.N.Nodup)(hi:X.N[i]?=some x)(hl:i<Γ1.length)(h:MV X E Γ e t Γ1)(hx:Loc X.env.scope x)(hs:autoParam (swapsWith e (some (.Name x pos')) pos.line X.env=pure false) au3._auto_1)(hf:autoParam (X.fn x=true\/X.env.scope.names.lookup x=some .local) au0._auto_1):
  MS X E Γl Γ (.Assign [.Name x pos'] e pos) (zo i t) (Γ1.set i .own):=by
 obtain⟨te,p,q⟩:=h;refine⟨_,XI hN hi hx p hs hf,fun B σ H τ Z ok h=>q B σ H τ [] _ ok ?_⟩;unfold zo at h;cases ht:t τ with
 | ok d =>
  rw[ht,jYa]at h;exact fun v H' L s r ok'=>h _ _ (ok'.into r hl)
 | err n=>rw[ht]at h;exact h
 | bad=>rw[ht]at h;exact h
def JH {i:Nat}{x:Str}{pos':Pos}(hN:X.N.Nodup)(hi:X.N[i]?=some x)(hl:i<Γ.length)(h:ME X E Γ e t c)(hc:c≠.bor)(hx:Loc X.env.scope x)(hs:autoParam (swapsWith e (some (.Name x pos')) pos.line X.env=pure false) au3._auto_1)(hf:autoParam (X.fn x=true\/X.env.scope.names.lookup x=some .local) au0._auto_1):
  MS X E Γl Γ (.Assign [.Name x pos'] e pos) (zo i t) (Γ.set i .shr):=by
 obtain⟨te,p,q⟩:=h;refine⟨_,XI hN hi hx p hs hf,fun B σ H τ Z ok h=>?_⟩;obtain⟨O,eo,hL⟩:=ok.eok;refine q O σ H τ _ eo ?_;unfold zo at h;cases ht:t τ with
 | ok d =>
  rw[ht,jYa]at h;refine fun v H' L s r k=>h _ _ ?_;obtain⟨Ls,h1,h2,h3,_,_,_,h7⟩:=hL L (k.shr eo.dom hc);exact SOk.intoS (ok.ext.trans s) ok.lσ ok.lτ (fun j c e hc=>by obtain⟨v',d',e1,e2,r'⟩:=h1 j c e hc;exact⟨v',d',e1,e2,r'.same s⟩) h2 h3 h7 r hl
 | err n=>rw[ht]at h;exact fun C H' e s=>h C H' e (ok.ext.trans s)
 | bad=>rw[ht]at h;exact h
end
section
variable {K:jJa}{Γ Γ':List Cl}{B H H1:Hp}{σ:St}{τ:Tn}{T:List Addr}
theorem SOk.slot {i:Nat}(h:SOk K Γ B H σ τ T)(e:Γ[i]?=some .own):∃v d L,σ[i]?=some (some v)/\τ[i]?=some (some d)/\Rep K H d v L/\L.Nodup/\(∀a∈L,B a=none/\a∉T) /\
  ∀(H2:Hp) (d2:D) (L2 Le T':List Addr),T=Le++T'->TF H H2->(∀b,b∉L->H b≠none->H2 b=H b)->Rep K H2 d2 v L2->(∀a∈L2,a∈L\/a∈Le)->L2.Nodup->SOk K Γ B H2 σ (τ.set i (some d2)) T':=by
 obtain⟨Ls,h1,h2,h3,h4,h5,h6⟩:=h.ex;obtain⟨v,d,e1,e2,r⟩:=h1 i _ e (by simp);refine⟨v,d,Ls i,e1,e2,r,(h2 i e).1,fun a ha=>⟨(h2 i e).2 a ha,h6 i _ e (by simp) a ha⟩,?_⟩;rintro H2 d2 L2 Le T' rfl tf kp r2 sub nd;obtain⟨n1,n2,n3⟩:=sI.mp h4;have hτ:i<τ.length:=(tV.mp e2).1;have notL:∀b,B b≠none->b∉Ls i:=fun b hb hm=>hb ((h2 i e).2 b hm);refine⟨fun b o q=>?_,h.lσ,by rw[sS];exact h.lτ,W3 Ls i L2,fun j c ej hc=>?_,fun j ej=>?_,fun j k c hjk ej ek hc a ha hm=>?_,n2,fun a ha=>⟨(h5 a (tR _ ha)).1,?_⟩,fun j c ej hc a ha hm=>?_⟩
 ·have hq:=h.ext b o q;rw[kp b (notL b (by rw[q];simp)) (by rw[hq];simp)];exact hq
 ·by_cases z:j=i
  ·subst z;refine⟨v,d2,e1,by rw[sO hτ],?_⟩;rw[yo];exact r2
  ·obtain⟨v',d',q1,q2,r'⟩:=h1 j c ej hc;refine⟨v',d',q1,by rw[sE (Ne.symm z)];exact q2,?_⟩;rw[yh z];exact Rep.keep tf d' v' _ r' fun a ha=>kp a (fun hm=>h3 i j c (Ne.symm z) e ej hc a hm ha) (r'.there ha)
 ·by_cases z:j=i
  ·subst z;rw[yo];refine⟨nd,fun a ha=>?_⟩;rcases sub a ha with m|m
   ·exact (h2 _ e).2 a m
   ·exact (h5 a (sC _ m)).1
  ·rw[yh z];exact h2 j ej
 ·by_cases z:j=i
  ·subst z;rw[yo]at ha;rw[yh (Ne.symm hjk)]at hm;rcases sub a ha with m|m
   ·exact h3 _ k c hjk e ek hc a m hm
   ·exact h6 k c ek hc a hm (sC _ m)
  ·rw[yh z]at ha
   by_cases z2:k=i
   ·subst z2;rw[yo]at hm;rcases sub a hm with m|m
    ·exact h3 j _ _ hjk ej e (by simp) a ha m
    ·exact h6 j _ ej (by simp) a ha (sC _ m)
   ·rw[yh z2]at hm;exact h3 j k c hjk ej ek hc a ha hm
 ·have q:=(h5 a (tR _ ha)).2;rw[kp a (fun hm=>h6 i _ e (by simp) a hm (tR _ ha)) q];exact q
 ·by_cases z:j=i
  ·rw[Wx z]at ha;rcases sub a ha with m|m
   ·exact h6 i _ e (by simp) a m (tR _ hm)
   ·exact n3 a m a hm rfl
  ·rw[yh z]at ha;exact h6 j c ej hc a ha (tR _ hm)
theorem TF.upd {a:Addr}{o:HO}(h:(∃vs,H a=some (.lst vs))\/∃kvs,H a=some (.dK kvs)):TF H (upd H a o):=by
 refine⟨fun b xs e=>?_,fun b p u e=>?_,fun b C dx fs e=>?_⟩<;>(rw[zy];exact e;rintro rfl;rcases h with⟨_,h⟩|⟨_,h⟩<;>rw[h]at e<;>cases e)
theorem Rep.upd {d:D}{v:V}{L:List Addr}{a:Addr}{o:HO}(r:Rep K H d v L)(h:(∃vs,H a=some (.lst vs))\/∃kvs,H a=some (.dK kvs))(n:a∉L):Rep K (L2.upd H a o) d v L:=
 Rep.keep (TF.upd h) d v L r fun b hb=>zy fun z=>n (z▸hb)
theorem Reps.upd {d:List D}{v:List V}{L:List Addr}{a:Addr}{o:HO}(r:Reps K H d v L)(h:(∃vs,H a=some (.lst vs))\/∃kvs,H a=some (.dK kvs))(n:a∉L):Reps K (L2.upd H a o) d v L:=
 Reps.keep (TF.upd h) d v L r fun b hb=>zy fun z=>n (z▸hb)
theorem Reps.set:∀ {ds:List D} {vs:List V} {L:List Addr} {d:D} {v:V} {Le:List Addr} (j:Nat),Reps K H ds vs L->Rep K H d v Le->j<ds.length->∃L2,Reps K H (ds.set j d) (vs.set j v) L2/\(∀a∈L2,a∈L\/a∈Le)/\((L++Le).Nodup->L2.Nodup)
 | [],_,_,_,_,_,_,_,_,h=>by simp at h
 | d::ds,_,_,d',v',Le,0,hq7,r,_=>by
  obtain⟨v,vs',L1,L2,e1,e2,h1,h2⟩:=hq7;subst e1 e2;refine⟨Le++L2,by simpa using Reps.cons r h2,fun a ha=>?_,fun n=>?_⟩
  ·rcases sG.mp ha with z|z
   ·exact .inr z
   ·exact .inl (tR _ z)
  ·obtain⟨n1,n2,n3⟩:=sI.mp n;obtain⟨m1,m2,m3⟩:=sI.mp n1;exact sI.mpr ⟨n2,m2,fun a ha b hb z=>n3 b (tR _ hb) a ha z.symm⟩
 | d::ds,_,_,d',v',Le,j+1,hq7,r,hj=>by
  obtain⟨v,vs',L1,L2,e1,e2,h1,h2⟩:=hq7;subst e1 e2;obtain⟨L3,a1,a2,a3⟩:=Reps.set j h2 r (by simpa using hj);refine⟨L1++L3,by simpa using Reps.cons h1 a1,fun a ha=>?_,fun n=>?_⟩
  ·rcases sG.mp ha with z|z
   ·exact .inl (sC _ z)
   ·rcases a2 a z with m|m
    ·exact .inl (tR _ m)
    ·exact .inr m
  ·rw[sP]at n;obtain⟨n1,n2,n3⟩:=sI.mp n;refine sI.mpr ⟨n1,a3 n2,fun a ha b hb z=>?_⟩;rcases a2 b hb with m|m
   ·exact n3 a ha b (sC _ m) z
   ·exact n3 a ha b (tR _ m) z
end
section
variable {X:Cx}{E:XK}{Γ Γ1 Γ' Γl:List Cl}{e a b:Expr}{es:List Expr}{t t':Tn->R D}{u:Tn->R (List D)}{c:Rc}{pos:Pos}
def vI (i:Nat)(t:Tn->R D):Tn->R Fl:=fun τ=>(zc i τ).bind fun l=>match l with
 | .lst ds=>(t τ).bind fun d=>if ds.length<sizeLine then .ok (.nx (τ.set i (some (.lst (ds++[d]))))) else .bad
 | _=>.bad
def Uk {i:Nat}{x:Str}{p0 p1 p2:Pos}(hN:X.N[i]?=some x)(h0:Γ[i]?=some .own)(h:MV X E Γ e t Γ1)(hk:Γ1[i]?=some .own)(hv:Vis X.env.scope x)(hb:autoParam ((x==("__debug__":Str))=false) au1._auto_1)(hcd:autoParam ((x==("__classdict__":Str))=false) au1._auto_1)
  (hbase:autoParam (attributeBase (.Name x p0) "append" X.env (eval (.Name x p0) X.env)=eval (.Name x p0) X.env) au3._auto_1)
  (hfew:autoParam (((backTo p2 (starEach [e] X.env)).all (fun x=>!x.1)&&(backToKw p2 (keywordEach [] X.env)).all (fun x=>x.1.isSome)&&decide ([e].length+([]:List Keyword).length+(if ([]:List Keyword).isEmpty then 0 else 1)<30))=true) au3._auto_1)
  (hline:autoParam ((p1.endLine==p2.line)=true) au3._auto_1) (hs:autoParam (starEach [e] X.env=(false,eval e X.env)::starEach [] X.env) au3._auto_1) (hplain:autoParam ((backTo p2 (starEach [] X.env)).any (·.1)=false) au3._auto_1)
  (hsw:autoParam (swapsWith (.Call (.Attribute (.Name x p0) "append" p1) [e] [] p2) none pos.line X.env=pure false) au3._auto_1):
  MS X E Γl Γ (.Expr (.Call (.Attribute (.Name x p0) "append" p1) [e] [] p2) pos) (vI i t) Γ1:=by
 obtain⟨te,p,q⟩:=h;refine⟨_,Vs (KZ jXp PySem.F.slot_list_append PySem.F.type_list_append Z7 (uQ (pos:=p0) hN hv hb hcd) (wI p vV hs) hbase hfew hline hs hplain) hsw,fun B σ H τ Z ok h=>?_⟩;obtain⟨v,d,L,e1,e2,r,_⟩:=ok.slot h0;refine⟨v,e1,?_⟩;unfold vI at h;have ev:zc i τ=.ok d:=by unfold zc;rw[e2]
 rw[ev,jYa]at h;cases d with
 | lst ds =>
  obtain⟨a,vs,L',rfl,ha,_,rs⟩:=r;refine⟨.inl ⟨rfl,vs,SqL.of ha⟩,q B σ H τ [] _ ok ?_⟩;dsimp only at h;cases ht:t τ with
  | ok d' =>
   rw[ht,jYa]at h;refine fun y H1 Le s1 ry ok1=>?_;obtain⟨v1,d1,L1,q1,q2,r1,n1,n2,fin⟩:=ok1.slot hk;rw[e1]at q1;cases q1;rw[e2]at q2;cases q2;obtain⟨a1,vs1,L1',z1,ha1,z2,rs1⟩:=r1;cases z1;subst z2;have hl:vs1.length=ds.length:=rs1.length
   by_cases hz:ds.length<sizeLine
   ·rw[if_pos hz]at h;have mu:(∃vs,H1 a=some (.lst vs))\/∃kvs,H1 a=some (.dK kvs):=.inl ⟨_,ha1⟩;have na:a∉Le:=fun m=>(n2 a tU).2 (sC _ m);obtain⟨m1,m2⟩:=sW.mp n1;refine⟨a,vs1,y,rfl,rfl,ha1,by lia,h _ _ (fin _ _ (a::(L1'++Le)) Le [] rfl (TF.upd mu) (fun b hb _=>zy fun z=>hb (z▸tU)) ?_ (fun b hb=>?_) ?_)⟩
    ·refine⟨a,vs1++[y],L1'++Le,rfl,zu,rfl,Reps.append (rs1.upd mu m1) ?_⟩;have:=Reps.cons (ry.upd (o:=.lst (vs1++[y])) mu na) (Reps.nil (K:=X.K) (H:=upd H1 a (.lst (vs1++[y]))));rw[tY]at this;exact this
    ·rcases sF.mp hb with z|z
     ·exact .inl (z▸tU)
     ·rcases sG.mp z with z|z
      ·exact .inl (tW _ z)
      ·exact .inr z
    ·refine sW.mpr ⟨fun z=>?_,sI.mpr ⟨m2,?_,fun b hb b' hb' z=>?_⟩⟩
     ·rcases sG.mp z with z|z
      ·exact m1 z
      ·exact na z
     ·obtain⟨_,_,_,_,w4,_⟩:=ok1.ex;rw[tY]at w4;exact w4
     ·subst z;exact (n2 b (tW _ hb)).2 (sC _ hb')
   ·rw[if_neg hz]at h;exact h.elim
  | err n=>rw[ht]at h;exact h
  | bad=>rw[ht]at h;exact h
 | _=>exact h.elim
def Ul (ds:List D)(k:Int)(d:D):R D:=match ixN ds.length k with
 | some j=>.ok (.lst (ds.set j d))
 | none=>.bad
def Ua (i:Nat)(t ti:Tn->R D):Tn->R Fl:=fun τ=>(t τ).bind fun d=>(zc i τ).bind fun l=>(ti τ).bind fun k=>match l,k with
 | .lst ds,.int k=>(Ul ds k d).bind fun l'=>.ok (.nx (τ.set i (some l')))
 | _,_=>.bad
def z1j {i:Nat}{x:Str}{p0 p1:Pos}{ix:Expr}{ti:Tn->R D}(hN:X.N[i]?=some x)(h:MV X E Γ e t Γ1)(hi:ME X E Γ1 ix ti c)(hk:Γ1[i]?=some .own)(hv:Vis X.env.scope x)(hb:autoParam ((x==("__debug__":Str))=false) au1._auto_1)(hcd:autoParam ((x==("__classdict__":Str))=false) au1._auto_1)
  (ha:autoParam (∀v,assign (.Subscript (.Name x p0) ix p1) X.env v=(do
   let ov <-holding [v] (eval (.Name x p0) X.env)
   let iv <-holding [v,ov] (eval ix X.env)
   standAt p1
   holding [v,ov,iv] (setItem ov iv v)
   release [v,ov,iv] [])) au2._auto_1)
  (hs:autoParam (swapsWithSole [.Subscript (.Name x p0) ix p1] e pos.line X.env=pure false) au3._auto_1) (hw:autoParam (swappedStores [.Subscript (.Name x p0) ix p1] e X.env=pure none) au3._auto_1)
  (h1:autoParam ((assignEach [.Subscript (.Name x p0) ix p1] X.env).map (·.2)=[assign (.Subscript (.Name x p0) ix p1) X.env]) au3._auto_1):
  MS X E Γl Γ (.Assign [.Subscript (.Name x p0) ix p1] e pos) (Ua i t ti) Γ1:=by
 obtain⟨te,p,q⟩:=h;obtain⟨te',p',q'⟩:=hi;refine⟨_,ZC p (UB (uQ (pos:=p0) hN hv hb hcd) p' YU ha) hs hw h1,fun B σ H τ Z ok h=>q B σ H τ [] _ ok ?_⟩;unfold Ua at h;cases ht:t τ with
 | ok d' =>
  rw[ht,jYa]at h;refine fun y H1 Le s1 ry ok1=>?_;obtain⟨v1,d1,L1,q1,q2,r1,n1,n2,_⟩:=ok1.slot hk;refine⟨v1,q1,?_⟩;have ev:zc i τ=.ok d1:=by unfold zc;rw[q2]
  rw[ev,jYa]at h;obtain⟨O,eo,_⟩:=ok1.eok;refine q' O σ H1 τ _ eo ?_;cases hk':ti τ with
  | ok dk =>
   rw[hk',jYa]at h;refine fun kv H2 Lk s2 rk _=>?_;have ok2:=ok1.same s2;obtain⟨v2,d2,L2,q3,q4,r2,m1,m2,fin⟩:=ok2.slot hk;rw[q1]at q3;cases q3;rw[q2]at q4;cases q4;cases d1 with
   | lst ds =>
    cases dk with
    | int k =>
     obtain⟨a,vs,L',rfl,ha2,z2,rs⟩:=r2;subst z2;dsimp only at h;unfold Ul at h;cases hj:ixN ds.length k with
     | none=>rw[hj]at h;exact h.elim
     | some j =>
      rw[hj]at h;have hjl:j<ds.length:=(ZQ hj).2.1;have mu:(∃vs,H2 a=some (.lst vs))\/∃kvs,H2 a=some (.dK kvs):=.inl ⟨_,ha2⟩;have na:a∉Le:=fun m=>(m2 a tU).2 (sC _ m);obtain⟨w1,w2⟩:=sW.mp m1;have nLe:Le.Nodup:=by
       obtain⟨_,_,_,_,w4,_⟩:=ok1.ex;rw[tY]at w4;exact w4
      have r3:=(ry.same s2).upd (o:=.lst (vs.set j y)) mu na;obtain⟨L3,a1,a2,a3⟩:=Reps.set j (rs.upd (o:=.lst (vs.set j y)) mu w1) r3 hjl;refine⟨a,vs,k,j,rfl,rk.1,ha2,by rw[rs.length];exact hj,h _ _ (fin _ _ (a::L3) Le [] rfl (TF.upd mu) (fun b hb _=>zy fun z=>hb (z▸tU)) ⟨a,_,L3,rfl,zu,rfl,a1⟩ (fun b hb=>?_) ?_)⟩
      ·rcases sF.mp hb with z|z
       ·exact .inl (z▸tU)
       ·rcases a2 b z with z|z
        ·exact .inl (tW _ z)
        ·exact .inr z
      ·refine sW.mpr ⟨fun z=>?_,a3 (sI.mpr ⟨w2,nLe,fun b hb b' hb' z=>?_⟩)⟩
       ·rcases a2 a z with z|z
        ·exact w1 z
        ·exact na z
       ·subst z;exact (m2 b (tW _ hb)).2 (sC _ hb')
    | _=>exact h.elim
   | _=>exact h.elim
  | err n=>rw[hk']at h;exact fun C H' e s=>h C H' e (ok1.ext.trans s)
  | bad=>rw[hk']at h;exact h
 | err n=>rw[ht]at h;exact h
 | bad=>rw[ht]at h;exact h
end
section
variable {K:jJa}{Γ Γ':List Cl}{B B' H H1:Hp}{σ:St}{τ:Tn}{T:List Addr}
def SOk.rebase (h:SOk K Γ B' H σ τ T)(s:Same B B'):SOk K Γ B H σ τ T:=by
 obtain⟨Ls,h1,h2,h3,h4,h5,h6⟩:=h.ex;exact⟨s.trans h.ext,h.lσ,h.lτ,Ls,h1,fun i e=>⟨(h2 i e).1,fun a ha=>s.non ((h2 i e).2 a ha)⟩,h3,h4,fun a ha=>⟨s.non (h5 a ha).1,(h5 a ha).2⟩,h6⟩
open Classical in
theorem SOk.base (h:SOk K Γ B H σ τ []):∃O:Addr->Prop,EOk K Γ O H σ τ/\(∀a,O a->(∃vs,H a=some (.lst vs))\/∃kvs,H a=some (.dK kvs)) /\
  ∀H1,Same H H1->∃B1,Same B B1/\SOk K Γ B1 H1 σ τ []/\∀a,¬O a->B1 a=H1 a:=by
 obtain⟨Ls,h1,h2,h3,h4,h5,h6⟩:=h.ex;refine⟨fun a=>∃i,Γ[i]?=some .own/\a∈Ls i,⟨fun a ⟨i,e,ha⟩=>?_,fun i c e hc=>?_⟩,fun a ⟨i,e,ha⟩=>?_,fun H1 s1=>⟨fun a=>if (∃i,Γ[i]?=some .own/\a∈Ls i) then none else H1 a,fun b o q=>?_,⟨fun b o q=>?_,h.lσ,h.lτ,Ls,fun i c e hc=>?_,fun i e=>⟨(h2 i e).1,fun a ha=>if_pos ⟨i,e,ha⟩⟩,h3,h4,fun a ha=>(nomatch ha),h6⟩,fun a n=>if_neg n⟩⟩
 ·obtain⟨v,d,_,_,r⟩:=h1 i _ e (by simp);exact r.there ha
 ·obtain⟨v,d,e1,e2,r⟩:=h1 i c e hc;refine⟨v,d,Ls i,e1,e2,r,fun z a ha ⟨j,ej,hj⟩=>?_⟩;subst z;have hij:j≠i:=fun z=>by subst z;rw[e]at ej;cases ej
  exact h3 j i _ hij ej e (by simp) a hj ha
 ·obtain⟨v,d,_,_,r⟩:=h1 i _ e (by simp);exact Rep.dom d v _ r a ha
 ·show (if (∃i,Γ[i]?=some .own/\b∈Ls i) then none else H1 b)=some o;rw[if_neg]
  ·exact s1 b o (h.ext b o q)
  ·rintro⟨i,e,hb⟩;rw[(h2 i e).2 b hb]at q;cases q
 ·have q:(if (∃i,Γ[i]?=some .own/\b∈Ls i) then none else H1 b)=some o:=q
  by_cases z:∃i,Γ[i]?=some .own/\b∈Ls i
  ·rw[if_pos z]at q;cases q
  ·rw[if_neg z]at q;exact q
 ·obtain⟨v,d,e1,e2,r⟩:=h1 i c e hc;exact⟨v,d,e1,e2,r.same s1⟩
def SOk.shrIn {i:Nat}{d:D}{v:V}{L:List Addr}(h:SOk K Γ B H σ τ [])(r:Rep K H d v L)(hL:∀a∈L,B a≠none)(hi:i<Γ.length):SOk K (Γ.set i .shr) B H (σ.set i (some v)) (τ.set i (some d)) []:=by
 obtain⟨Ls,h1,h2,h3,h4,h5,h6⟩:=h.ex;exact SOk.intoS h.ext h.lσ h.lτ h1 h2 h3 (fun j e a ha hm=>hL a hm ((h2 j e).2 a ha)) r hi
end
def xm {α:Type}:List (Option α)->List Nat->List α->List (Option α)
 | σ,i::is,v::vs=>xm (σ.set i (some v)) is vs
 | σ,_,_=>σ
def shrAll:List Cl->List Nat->List Cl
 | Γ,[]=>Γ
 | Γ,i::is=>shrAll (Γ.set i .shr) is
theorem SOk.shrAll {K:jJa}{B H:Hp}{Γ:List Cl}{σ:St}{τ:Tn}{is:List Nat}{ds:List D}{vs:List V}{L:List Addr}(h:SOk K Γ B H σ τ [])(r:Reps K H ds vs L)(hL:∀a∈L,B a≠none)(hl:ds.length=is.length)(hi:∀i∈is,i<Γ.length):
  SOk K (L2.shrAll Γ is) B H (xm σ is vs) (xm τ is ds) []:=by
 induction is generalizing Γ σ τ ds vs L with
 | nil =>
  cases ds with
  | nil=>cases r.1;exact h
  | cons=>cases hl
 | cons i is ih =>
  cases ds with
  | nil=>cases hl
  | cons d ds =>
   obtain⟨v,vs',La,Lb,e1,e2,r1,r2⟩:=r;subst e1 e2;exact ih (h.shrIn r1 (fun a ha=>hL a (sC _ ha)) (hi i tU)) r2 (fun a ha=>hL a (tR _ ha)) (Nat.succ.inj hl) (fun j hj=>by rw[sS];exact hi j (tW _ hj))
def ItOk (K:jJa)(J:It)(ds:List D)(L:List Addr)(H:Hp):Prop:=(∀a∈L,H a≠none)/\∀H',TF H H'->(∀a∈L,H' a=H a)->∀i,
 (∀d,ds[i]?=some d->J.go i H'/\∀x H'',J.yld i H' x H''->Same H' H''/\∃L',Rep K H'' d x L'/\∀a∈L',a∈L)/\(ds.length<=i->J.stop i H')
def z0o (K:jJa)(E:XK)(O:Addr->Prop)(c:Rc)(H:Hp)(Rr:It->Hp->Prop):R (List D)->Prop
 | .ok ds=>∀J H' L,Same H H'->ItOk K J ds L H'->(c≠.bor->∀a∈L,¬O a)->Rr J H'
 | .err n=>∀C H',ErrC K n C->Same H H'->E (.ref C) none H'
 | .bad=>False
def MI (X:Cx)(E:XK)(Γ:List Cl)(tg iter:Expr)(t:Tn->R (List D))(c:Rc):Prop:=
 ∃wi,PI X tg iter wi/\∀O σ H τ Rr,EOk X.K Γ O H σ τ->z0o X.K E O c H Rr (t τ)->wi σ H Rr
inductive Tgt where
 | one (i:Nat) | many (is:List Nat)
def Tgt.slots:Tgt->List Nat
 | .one i=>[i]
 | .many is=>is
def Tgt.asg:Tgt->D->Tn->R Tn
 | .one i,d,τ=>.ok (τ.set i (some d))
 | .many is,.tup ds,τ=>if ds.length=is.length then .ok (xm τ is ds) else .bad
 | .many _,_,_=>.bad
def MG (X:Cx)(tg:Expr):Tgt->Prop
 | .one i=>PG X tg (vo i)
 | .many is=>∃g,PG X tg (z2F X.K is.length g)/\∀(vs:List V) (σ:St) (H:Hp) (Q:St->Hp->Prop),vs.length=is.length->Q (xm σ is vs) H->g vs σ H Q
def yL (asg:D->Tn->R Tn)(body:Tn->R Fl):List D->Tn->R Fl
 | [],τ=>.ok (.nx τ)
 | d::ds,τ=>(asg d τ).bind fun τ1=>(body τ1).bind fun f=>match f with
  | .nx τ2=>yL asg body ds τ2
  | .ct τ2=>yL asg body ds τ2
  | .bk τ2=>.ok (.nx τ2)
  | .rt r=>.ok (.rt r)
def wz (it:Tn->R (List D))(tg:Tgt)(body:Tn->R Fl):Tn->R Fl:=fun τ=>(it τ).bind fun ds=>yL tg.asg body ds τ
section
variable {X:Cx}{E:XK}{Γ Γ1 Γ2 Γ' Γl:List Cl}{pos:Pos}
def tgG (K:jJa)(g:Tgt):TG:=fun v σ H Q=>match g with
 | .one i=>Q (σ.set i (some v)) H
 | .many is=>∃a vs,v=.ref a/\SqT K H a vs/\vs.length=is.length/\Q (xm σ is vs) H
theorem MG.pg {tg:Expr}{g:Tgt}(h:MG X tg g):PG X tg (tgG X.K g):=by
 cases g with
 | one i=>exact h
 | many is =>
  obtain⟨G,p,q⟩:=h;rintro pins s σ H v u Q I r ⟨a,vs,e,hs,hl,z⟩;exact p pins s σ H v u Q I r ⟨a,vs,e,hs,hl,q vs σ H Q hl z⟩
def W4 {K:jJa}{B H:Hp}{σ:St}{τ τ1:Tn}{d:D}{v:V}{L:List Addr}{g:Tgt}(h:SOk K Γ B H σ τ [])(r:Rep K H d v L)(hL:∀a∈L,B a≠none)(hi:∀i∈g.slots,i<Γ.length)(ha:g.asg d τ=.ok τ1)
  {Q:St->Hp->Prop} (k:∀σ1,SOk K (L2.shrAll Γ g.slots) B H σ1 τ1 []->Q σ1 H):tgG K g v σ H Q:=by
 cases g with
 | one i=>cases ha;exact k _ (h.shrIn r hL (hi i (by simp[Tgt.slots])))
 | many is =>
  cases d with
  | tup ds =>
   unfold Tgt.asg at ha;dsimp only at ha
   by_cases hl:ds.length=is.length
   ·rw[if_pos hl]at ha;cases ha;obtain⟨a,vs,rfl,hs,rs⟩:=r;have hv:vs.length=is.length:=rs.length.trans hl;exact⟨a,vs,rfl,hs,hv,k _ (h.shrAll rs hL hl hi)⟩
   ·rw[if_neg hl]at ha;cases ha
  | _=>cases ha
def z2V {it:Tn->R (List D)}{g:Tgt}{tb:Tn->R Fl}{c:Rc}{wi:TI}{ts:TS}(hcl:c≠.bor)(hn:∀i∈g.slots,i<Γ.length)(hw:wk Γ2 Γ=true)(q:∀O σ H τ Rr,EOk X.K Γ O H σ τ->z0o X.K E O c H Rr (it τ)->wi σ H Rr)(q':∀B σ H τ Z,SOk X.K (shrAll Γ g.slots) B H σ τ []->uA X.K E B Γ Γ2 Z (tb τ)->ts Z σ H)
  (B:Hp) (σ:St) (H:Hp) (τ:Tn) (Z:Ends) (ok:SOk X.K Γ B H σ τ []) (h:uA X.K E B Γl Γ Z (wz it g tb τ)):QT wi (tgG X.K g) ts Z σ H:=by
 obtain⟨O,eo,Od,hB⟩:=ok.base;refine q O σ H τ _ eo ?_;unfold wz at h;cases ht:it τ with
 | ok ds =>
  rw[ht,jYa]at h;refine fun J H1 L s1 hit hO=>?_;have hO:=hO hcl;obtain⟨hLd,hit⟩:=hit;obtain⟨B1,sB,ok1,hB1⟩:=hB H1 s1;have inL:∀a∈L,B1 a=H1 a:=fun a ha=>hB1 a (hO a ha);have Od1:∀a,O a->(∃vs,H1 a=some (.lst vs))\/∃kvs,H1 a=some (.dK kvs):=fun a o=>by
   rcases Od a o with⟨vs,e⟩|⟨kvs,e⟩
   ·exact .inl ⟨vs,s1 _ _ e⟩
   ·exact .inr ⟨kvs,s1 _ _ e⟩
  have stay:∀H2,Same B1 H2->TF H1 H2/\∀a∈L,H2 a=H1 a:=fun H2 s2=>by
   refine⟨⟨fun a xs e=>?_,fun a o u e=>?_,fun a C dx fs e=>?_⟩,fun a ha=>?_⟩
   ·refine s2 a _ ((hB1 a fun z=>?_).trans e);rcases Od1 a z with⟨_,w⟩|⟨_,w⟩<;>rw[e]at w<;>cases w
   ·refine s2 a _ ((hB1 a fun z=>?_).trans e);rcases Od1 a z with⟨_,w⟩|⟨_,w⟩<;>rw[e]at w<;>cases w
   ·refine s2 a _ ((hB1 a fun z=>?_).trans e);rcases Od1 a z with⟨_,w⟩|⟨_,w⟩<;>rw[e]at w<;>cases w
   ·rw[s2.at (by rw[inL a ha];exact hLd a ha),inL a ha]
  refine⟨fun i m σ2 H2=>m=ds.length-i/\i<=ds.length/\∃τ2,SOk X.K Γ B1 H2 σ2 τ2 []/\uA X.K E B Γl Γ Z (yL g.asg tb (ds.drop i) τ2),⟨ds.length,by simp,rG _,τ,ok1,h⟩,?_⟩;rintro i m σ2 H2 ⟨rfl,hile,τ2,ok2,h2⟩;obtain⟨tf,kp⟩:=stay H2 ok2.ext;obtain⟨go,stop⟩:=hit H2 tf kp i
  by_cases hlt:i<ds.length
  ·obtain⟨hgo,hy⟩:=go ds[i] (by simp[hlt]);rw[sQ hlt]at h2;refine .inr ⟨hgo,fun σ' H'=>i+1<=ds.length/\∃τ',SOk X.K Γ B1 H' σ' τ' []/\uA X.K E B Γl Γ Z (yL g.asg tb (ds.drop (i+1)) τ'),fun σ' H' ⟨z,w⟩=>⟨ds.length-(i+1),by omega,rfl,z,w⟩,fun x H3 y=>?_⟩;obtain⟨s3,L',r',sub⟩:=hy x H3 y;unfold yL at h2;cases ha:g.asg ds[i] τ2 with
   | ok τ3 =>
    rw[ha,jYa]at h2;refine W4 (ok2.same s3) r' (fun a ha=>by rw[inL a (sub a ha)];exact hLd a (sub a ha)) hn ha fun σ3 ok3=>?_;refine q' B1 σ3 H3 τ3 _ ok3 ?_;cases hb:tb τ3 with
    | ok f =>
     rw[hb,jYa]at h2;cases f with
     | nx τ4=>exact fun σ' H' ok4=>⟨hlt,τ4,ok4.weak hw,h2⟩
     | ct τ4=>exact fun σ' H' ok4=>⟨hlt,τ4,ok4,h2⟩
     | bk τ4=>exact fun σ' H' ok4=>h2 σ' H' (ok4.rebase sB)
     | rt d=>exact fun v H' L s r n1 n2=>h2 v H' L (sB.trans s) r n1 fun a ha=>sB.non (n2 a ha)
    | err n=>rw[hb]at h2;exact fun C H' e s=>h2 C H' e (sB.trans s)
    | bad=>rw[hb]at h2;exact h2
   | err n =>
    cases g with
    | one i=>cases ha
    | many is =>
     unfold Tgt.asg at ha;split at ha
     ·cases ha
     ·split at ha<;>cases ha
     ·cases ha
   | bad=>rw[ha]at h2;exact h2.elim
  ·have e:i=ds.length:=by omega
   subst e;rw[List.drop_length]at h2;exact .inl ⟨stop (tQ _),h2 σ2 H2 (ok2.rebase sB)⟩
 | err n=>rw[ht]at h;exact fun C H' e s=>h C H' e (ok.ext.trans s)
 | bad=>rw[ht]at h;exact h
def u0 {tg iter:Expr}{body:List Stmt}{it:Tn->R (List D)}{g:Tgt}{tb:Tn->R Fl}{c:Rc}(hp:PassesOwn (model X.prog X.w) X.A X.env X.xe)(hc:X.calm=true)(hi:MI X E Γ tg iter it c)(hcl:c≠.bor)(hg:MG X tg g)
  (hn:∀i∈g.slots,i<Γ.length) (hb:MSs X E Γ (shrAll Γ g.slots) body tb Γ2) (hw:wk Γ2 Γ=true) (hs:autoParam (∀x,foldedSetIterable iter X.env x=pure x) au2._auto_1):MS X E Γl Γ (.For tg iter body [] pos) (wz it g tb) Γ:=by
 obtain⟨wi,p,q⟩:=hi;obtain⟨ts,p',q'⟩:=hb;exact⟨_,Qs hp hc p hg.pg p' hs,z2V hcl hn hw q q'⟩
def wx (k:Tn->R Bool)(body:Tn->R Fl):Nat->Tn->R Fl
 | 0,_=>.bad
 | n+1,τ=>(k τ).bind fun x=>if x=true then (body τ).bind fun f=>match f with
  | .nx τ2=>wx k body n τ2
  | .ct τ2=>wx k body n τ2
  | .bk τ2=>.ok (.nx τ2)
  | .rt r=>.ok (.rt r)
  else .ok (.nx τ)
open Classical in
def yy (k:Tn->R Bool)(body:Tn->R Fl):Tn->R Fl:=fun τ=>if h:∃n,wx k body n τ≠.bad then wx k body (Classical.choose h) τ else .bad
theorem qM {k:Tn->R Bool}{body:Tn->R Fl}:∀(n:Nat) (τ:Tn),wx k body n τ≠.bad->wx k body (n+1) τ=wx k body n τ
 | 0,τ,h=>absurd rfl h
 | n+1,τ,h=>by
  unfold wx at h;rw[wx,wx];cases hk:k τ with
  | ok x =>
   rw[hk,jYa]at h;rw[jYa,jYa];cases x with
   | true =>
    rw[if_pos rfl]at h;rw[if_pos rfl,if_pos rfl];cases hb:body τ with
    | ok f =>
     rw[hb,jYa]at h;rw[jYa,jYa];cases f with
     | nx τ2=>exact qM n τ2 h
     | ct τ2=>exact qM n τ2 h
     | bk τ2=>rfl
     | rt d=>rfl
    | err n=>rfl
    | bad=>rfl
   | false=>rfl
  | err n=>rfl
  | bad=>rfl
def WM {k:Tn->R Bool}{body:Tn->R Fl}{n m:Nat}{τ:Tn}(h:wx k body n τ≠.bad)(hm:n<=m):wx k body m τ=wx k body n τ:=by
 obtain⟨j,rfl⟩:=Nat.le.dest hm
 induction j with
 | zero=>rfl
 | succ j ih =>
  have:=ih (Nat.le_add_right _ _);rw[<-Nat.add_assoc,qM (n+j) τ (by rw[this];exact h),this]
def qR {k:Tn->R Bool}{body:Tn->R Fl}{n:Nat}{τ:Tn}{r:R Fl}(h:wx k body n τ=r)(hr:r≠.bad):yy k body τ=r:=by
 have hx:∃n,wx k body n τ≠.bad:=⟨n,by rw[h];exact hr⟩
 unfold yy;rw[dif_pos hx];have h2:=Classical.choose_spec hx;rcases Nat.le_total n (Classical.choose hx)with z|z
 ·rw[WM (by rw[h];exact hr) z,h]
 ·rw[<-WM h2 z,h]
def ke {k:Tn->R Bool}{body:Tn->R Fl}{τ:Tn}:yy k body τ=.bad\/∃n,wx k body n τ=yy k body τ/\yy k body τ≠.bad:=by
 by_cases hx:∃n,wx k body n τ≠.bad
 ·refine .inr ⟨Classical.choose hx,?_,?_⟩<;>unfold yy<;>rw[dif_pos hx];exact Classical.choose_spec hx
 ·refine .inl ?_;unfold yy;rw[dif_neg hx]
def qc {k:Expr}{body:List Stmt}{u:Tn->R Bool}{tb:Tn->R Fl}(hp:PassesOwn (model X.prog X.w) X.A X.env X.xe)(hk:MT X E Γ k u)(hb:MSs X E Γ Γ body tb Γ2)(hw:wk Γ2 Γ=true):MS X E Γl Γ (.While k body [] pos) (yy u tb) Γ:=by
 obtain⟨te,p,q⟩:=hk;obtain⟨ts,p',q'⟩:=hb;refine⟨_,Qk hp p p',fun B σ H τ Z ok h=>?_⟩;rcases ke (k:=u) (body:=tb) (τ:=τ)with z|⟨n,hn,_⟩
 ·rw[z]at h;exact h.elim
 rw[<-hn]at h;refine⟨fun m σ2 H2=>∃τ2,SOk X.K Γ B H2 σ2 τ2 []/\uA X.K E B Γl Γ Z (wx u tb m τ2),⟨n,τ,ok,h⟩,?_⟩;rintro m σ2 H2 ⟨τ2,ok2,h2⟩;cases m with
 | zero=>exact h2.elim
 | succ m =>
  obtain⟨O,eo,_⟩:=ok2.eok;refine q O σ2 H2 τ2 _ eo ?_;unfold wx at h2;cases ht:u τ2 with
  | ok x =>
   rw[ht,jYa]at h2;refine fun H3 s3=>?_;cases x with
   | true =>
    rw[if_pos rfl]at h2 ⊢;refine⟨fun σ' H'=>∃τ',SOk X.K Γ B H' σ' τ' []/\uA X.K E B Γl Γ Z (wx u tb m τ'),fun σ' H' w=>⟨m,pX _,w⟩,q' B σ2 H3 τ2 _ (ok2.same s3) ?_⟩;cases hb:tb τ2 with
    | ok f =>
     rw[hb,jYa]at h2;cases f with
     | nx τ4=>exact fun σ' H' ok4=>⟨τ4,ok4.weak hw,h2⟩
     | ct τ4=>exact fun σ' H' ok4=>⟨τ4,ok4,h2⟩
     | bk τ4=>exact fun σ' H' ok4=>h2 σ' H' ok4
     | rt d=>exact h2
    | err n=>rw[hb]at h2;exact h2
    | bad=>rw[hb]at h2;exact h2
   | false=>rw[if_neg tX]at h2 ⊢;exact h2 σ2 H3 (ok2.same s3)
  | err n=>rw[ht]at h2;exact fun C H' e s=>h2 C H' e (ok2.ext.trans s)
  | bad=>rw[ht]at h2;exact h2
end
def YJ (x:Str):List D:=x.cps.toList.map fun c=>.str ⟨#[c]⟩
def Qy:D->R (List D)
 | .lst ds=>.ok ds
 | .tup ds=>.ok ds
 | .str x=>.ok (YJ x)
 | _=>.bad
def xq (t:Tn->R D):Tn->R (List D):=fun τ=>(t τ).bind Qy
def rng (lo:Int)(n:Nat):List D:=(List.range n).map fun (i:Nat)=>.int (lo+i)
def wJ:List D->R (List D)
 | [.int j]=>if -(2 ^ 62)<=j/\j<2 ^ 62 then .ok (rng 0 j.toNat) else .bad
 | _=>.bad
def uo:List D->R (List D)
 | [.int i,.int j]=>if -(2 ^ 62)<=i/\i<2 ^ 62/\-(2 ^ 62)<=j/\j<2 ^ 62 then .ok (rng i (j-i).toNat) else .bad
 | _=>.bad
def iL (g:List D->R (List D))(u:Tn->R (List D)):Tn->R (List D):=fun τ=>(u τ).bind g
section
variable {X:Cx}{E:XK}{Γ:List Cl}{tg e:Expr}{t:Tn->R D}{u:Tn->R (List D)}{c:Rc}{p pos:Pos}
theorem ItOk.list {K:jJa}{H:Hp}{a:Addr}{vs:List V}{ds:List D}{L L':List Addr}(ha:H a=some (.lst vs))(e:L=a::L')(r:Reps K H ds vs L'):ItOk K (Itl K a) ds L H:=by
 subst e;refine⟨fun b hb=>?_,fun H' tf kp i=>⟨fun d hd=>?_,fun hl=>?_⟩⟩
 ·rcases sF.mp hb with z|z
  ·rw[z,ha];simp
  ·exact r.there z
 ·have ha':H' a=some (.lst vs):=(kp a tU).trans ha;obtain⟨v,L1,e1,r1,sub⟩:=r.get hd;refine⟨⟨vs,v,SqL.of ha',e1⟩,fun x H'' ⟨e2,hy⟩=>?_⟩;subst e2;have:=hy vs (SqL.of ha');rw[e1]at this;cases this;exact⟨Same.refl _,L1,Rep.keep tf d _ L1 r1 fun b hb=>kp b (tW _ (sub.subset hb)),fun b hb=>tW _ (sub.subset hb)⟩
 ·have ha':H' a=some (.lst vs):=(kp a tU).trans ha;exact⟨vs,SqL.of ha',by rw[r.length];exact hl⟩
theorem ItOk.tup {K:jJa}{H:Hp}{a:Addr}{vs:List V}{ds:List D}{L:List Addr}(ha:SqT K H a vs)(r:Reps K H ds vs L):ItOk K (Itt K a) ds L H:=by
 refine⟨fun b hb=>r.there hb,fun H' tf kp i=>⟨fun d hd=>?_,fun hl=>?_⟩⟩
 ·have ha':=ha.tf tf;obtain⟨v,L1,e1,r1,sub⟩:=r.get hd;refine⟨⟨vs,v,ha',e1⟩,fun x H'' ⟨e2,hy⟩=>?_⟩;subst e2;have:=hy vs ha';rw[e1]at this;cases this;exact⟨Same.refl _,L1,Rep.keep tf d _ L1 r1 fun b hb=>kp b (sub.subset hb),fun b hb=>sub.subset hb⟩
 ·exact⟨vs,ha.tf tf,by rw[r.length];exact hl⟩
theorem ItOk.str {K:jJa}{H:Hp}{x:Str}:ItOk K (Its x) (YJ x) [] H:=by
 refine⟨fun b hb=>(nomatch hb),fun H' tf kp i=>⟨fun d hd=>?_,fun hl=>?_⟩⟩
 ·unfold YJ at hd;rw[sJ]at hd;cases hq:x.cps.toList[i]? with
  | none=>rw[hq]at hd;cases hd
  | some k =>
   rw[hq]at hd;have hd:D.str ⟨#[k]⟩=d:=jYe hd;subst hd;have hi:i<x.cps.size:=by
    have:=(tV.mp hq).1
    simpa using this
   refine⟨hi,fun y H'' ⟨e2,c',e3,e4⟩=>?_⟩;subst e2 e4;rw[<-Array.getElem?_toList,hq]at e3;cases e3;exact⟨Same.refl _,[],⟨rfl,rfl⟩,fun b hb=>(nomatch hb)⟩
 ·have:(YJ x).length=x.cps.size:=by simp[YJ]
  show x.cps.size<=i;lia
theorem ItOk.rng {K:jJa}{H:Hp}{lo:Int}{n:Nat}:ItOk K (Itr lo n) (L2.rng lo n) [] H:=by
 refine⟨fun b hb=>(nomatch hb),fun H' tf kp i=>⟨fun d hd=>?_,fun hl=>?_⟩⟩
 ·unfold L2.rng at hd;rw[sJ]at hd
  by_cases hi:i<n
  ·rw[pG hi]at hd;have hd:D.int (lo+(i:Int))=d:=jYe hd;subst hd;refine⟨hi,fun y H'' ⟨e2,e3⟩=>?_⟩;subst e2 e3;exact⟨Same.refl _,[],⟨rfl,rfl⟩,fun b hb=>(nomatch hb)⟩
  ·rw[pP (by simp;lia)]at hd;cases hd
 ·have:(L2.rng lo n).length=n:=by simp[L2.rng]
  show n<=i;lia
def xZ (h:ME X E Γ e t c):MI X E Γ tg e (xq t) c:=by
 obtain⟨te,p,q⟩:=h;refine⟨fun σ H Rr=>Q6 X.K te σ H Rr\/z2e X.K te σ H Rr\/z2T te σ H Rr,fun pins s σ H Rr I z=>?_,fun O σ H τ Rr ok h=>?_⟩
 ·rcases z with z|z|z
  ·exact WK p pins s σ H Rr I z
  ·exact z0J p pins s σ H Rr I z
  ·exact z1W p pins s σ H Rr I z
 ·unfold xq at h;cases ht:t τ with
  | ok d =>
   rw[ht,jYa]at h;cases d with
   | lst ds =>
    refine .inl (q O σ H τ _ ok ?_);rw[ht];refine fun v H1 L s r k=>?_;obtain⟨a,vs,L',rfl,ha,e,rs⟩:=r;exact⟨a,rfl,⟨vs,SqL.of ha⟩,h _ H1 L s (ItOk.list ha e rs) fun n=>k.shr ok.dom n⟩
   | tup ds =>
    refine .inr (.inl (q O σ H τ _ ok ?_));rw[ht];refine fun v H1 L s r k=>?_;obtain⟨a,vs,rfl,ha,rs⟩:=r;exact⟨a,rfl,⟨vs,ha⟩,h _ H1 L s (ItOk.tup ha rs) fun n=>k.shr ok.dom n⟩
   | str x =>
    refine .inr (.inr (q O σ H τ _ ok ?_));rw[ht];refine fun v H1 L s r k=>?_;exact⟨x,r.1,h _ H1 [] s ItOk.str fun n a ha=>(nomatch ha)⟩
   | _=>exact h.elim
  | err n =>
   rw[ht]at h;refine .inl (q O σ H τ _ ok ?_);rw[ht];exact h
  | bad=>rw[ht]at h;exact h.elim
def vt {a:Expr}(hg:Gl X "range")(hm:X.mg "range"=none)(ha:MA X E Γ [a] u c)(hs:autoParam (starEach [a] X.env=[(false,eval a X.env)]) au3._auto_1):MI X E Γ tg (.Call (.Name "range" p) [a] [] pos) (iL wJ u) .fresh:=by
 obtain⟨_,ta,p',q⟩:=ha;refine⟨_,Ui hg hm p' hs,fun O σ H τ Rr ok h=>q O σ H τ _ ok ?_⟩;unfold iL at h;cases ht:u τ with
 | ok ds =>
  rw[ht,jYa]at h;refine fun vs H1 L s r k=>?_;unfold wJ at h;split at h
  ·rename_i j;obtain⟨v,vs',L1,L2,e1,_,r1,r2⟩:=r;obtain⟨rfl,_⟩:=r1;obtain⟨rfl,_⟩:=r2
   by_cases hj:-(2 ^ 62)<=j/\j<2 ^ 62
   ·rw[if_pos hj]at h;exact⟨j,e1,hj.1,hj.2,h _ H1 [] s ItOk.rng fun n a ha=>(nomatch ha)⟩
   ·rw[if_neg hj]at h;exact h.elim
  ·exact h.elim
 | err n=>rw[ht]at h;exact h
 | bad=>rw[ht]at h;exact h
def qL {a b:Expr}(hg:Gl X "range")(hm:X.mg "range"=none)(ha:MA X E Γ [a,b] u c)(hs:autoParam (starEach [a,b] X.env=[(false,eval a X.env),(false,eval b X.env)]) au3._auto_1)(hs2:autoParam (starEach [b] X.env=[(false,eval b X.env)]) au3._auto_1):MI X E Γ tg (.Call (.Name "range" p) [a,b] [] pos) (iL uo u) .fresh:=by
 obtain⟨_,ta,p',q⟩:=ha;refine⟨_,VR hg hm p' hs hs2,fun O σ H τ Rr ok h=>q O σ H τ _ ok ?_⟩;unfold iL at h;cases ht:u τ with
 | ok ds =>
  rw[ht,jYa]at h;refine fun vs H1 L s r k=>?_;unfold uo at h;split at h
  ·rename_i i j;obtain⟨v,vs',L1,L2,e1,_,r1,v2,vs2,L3,L4,e2,_,r2,r3⟩:=r;obtain⟨rfl,_⟩:=r1;obtain⟨rfl,_⟩:=r2;obtain⟨rfl,_⟩:=r3;subst e2
   by_cases hj:-(2 ^ 62)<=i/\i<2 ^ 62/\-(2 ^ 62)<=j/\j<2 ^ 62
   ·rw[if_pos hj]at h;exact⟨i,j,e1,hj,h _ H1 [] s ItOk.rng fun n a ha=>(nomatch ha)⟩
   ·rw[if_neg hj]at h;exact h.elim
  ·exact h.elim
 | err n=>rw[ht]at h;exact h
 | bad=>rw[ht]at h;exact h
end
def wN (fr:List (Option Nat))(τ:Tn):Tn:=fr.map fun o=>o.bind fun i=>(τ[i]?).join
def yM (fr:List (Option Nat))(Γ:List Cl):List Cl:=fr.map fun o=>match o with
 | some i=>(match Γ[i]? with
  | some .shr=>.shr
  | some .own=>.brw
  | some .brw=>.brw
  | _=>.dead)
 | none=>.dead
def yY (k:Cl):List Cl->List Nat->List Cl
 | Γ,[]=>Γ
 | Γ,i::is=>yY k (Γ.set i k) is
def Cl.ofIt:Rc->Cl
 | .bor=>.brw
 | _=>.shr
def xo (f:D->R (Option D)):List D->R (List D)
 | []=>.ok []
 | d::ds=>(f d).bind fun o=>(xo f ds).bind fun ys=>.ok (o.toList++ys)
def vW {α:Type}:R α->R α
 | .err _=>.bad
 | r=>r
def wm (asg:D->Tn->R Tn)(cnd:Tn->R Bool)(elt:Tn->R D)(τ:Tn)(d:D):R (Option D):=
 vW ((asg d τ).bind fun τ1=>(cnd τ1).bind fun k=>if k=true then (elt τ1).bind fun y=>.ok (some y) else .ok none)
def yg (fr:List (Option Nat))(it:Tn->R (List D))(g:Tgt)(cnd:Tn->R Bool)(elt:Tn->R D):Tn->R D:=fun τ=>(it τ).bind fun xs=>(xo (wm g.asg cnd elt (wN fr τ)) xs).bind fun ys=>if ys.length<=sizeLine then .ok (.lst ys) else .bad
def MTs (X:Cx)(E:XK)(Γ:List Cl)(ifs:List Expr)(t:Tn->R Bool):Prop:=
 ∃te,PTs X ifs te/\∀O σ H τ Q,EOk X.K Γ O H σ τ->postB X.K E H Q (t τ)->te σ H Q
def xA {X:Cx}{E:XK}{Γ:List Cl}:MTs X E Γ [] (fun _=>.ok true):=⟨z2L,Kn,fun O σ H τ Q ok h=>h H (Same.refl H)⟩
def Vj {X:Cx}{E:XK}{Γ:List Cl}{e:Expr}{t:Tn->R Bool}(h:MT X E Γ e t):MTs X E Γ [e] t:=by
 obtain⟨te,p,q⟩:=h;exact⟨te,JQ p,q⟩
theorem MTs.pts {X:Cx}{E:XK}{Γ:List Cl}{e:List Expr}{t:Tn->R Bool}(h:MTs X E Γ e t):PTs X e (wpT X.K E Γ t):=by
 obtain⟨te,p,q⟩:=h;rintro pins s σ H Q I ⟨O,τ,ok,z⟩;exact p pins s σ H Q I (q O σ H τ Q ok z)
def Same.upd_of {H H1 H2:Hp}{p:Addr}{o:HO}(h:H p=none)(s:Same H H2):Same H (upd H2 p o):=fun b u e=>by
 rw[zy (zR e h)];exact s b u e
section
variable {K:jJa}{Γ:List Cl}{O:Addr->Prop}{H:Hp}{σ:St}{τ:Tn}
theorem EOk.comp {fr:List (Option Nat)}(h:EOk K Γ O H σ τ):EOk K (yM fr Γ) O H (vg fr σ) (wN fr τ):=by
 refine⟨h.dom,fun j c e hc=>?_⟩;unfold yM at e;rw[sJ]at e;cases ho:fr[j]? with
 | none=>rw[ho]at e;cases e
 | some o =>
  rw[ho]at e;cases o with
  | none=>exact absurd (jYe e).symm hc
  | some i =>
   have e:(match Γ[i]? with|some .shr=>Cl.shr|some .own=>.brw|some .brw=>.brw|_=>.dead)=c:=jYe e;have key:∃k,Γ[i]?=some k/\k≠.dead/\(c=.shr->k=.shr):=by
    cases hk:Γ[i]? with
    | none=>rw[hk]at e;exact absurd e.symm hc
    | some k =>
     rw[hk]at e;cases k with
     | own=>subst e;exact⟨_,rfl,by simp,fun z=>by cases z⟩
     | shr=>exact⟨_,rfl,by simp,fun _=>rfl⟩
     | brw=>subst e;exact⟨_,rfl,by simp,fun z=>by cases z⟩
     | dead=>exact absurd e.symm hc
   obtain⟨k,k1,k2,k3⟩:=key;obtain⟨v,d,L,e1,e2,r,hs⟩:=h.slot i k k1 k2;refine⟨v,d,L,?_,?_,r,fun z=>hs (k3 z)⟩
   ·unfold vg;rw[sJ,ho];show some ((σ[i]?).join)=_;rw[e1];rfl
   ·unfold wN;rw[sJ,ho];show some ((τ[i]?).join)=_;rw[e2];rfl
theorem EOk.put {i:Nat}{k:Cl}{d:D}{v:V}{L:List Addr}(h:EOk K Γ O H σ τ)(r:Rep K H d v L)(hk:k=.shr->∀a∈L,¬O a)(h1:σ.length=Γ.length)(h2:τ.length=Γ.length):EOk K (Γ.set i k) O H (σ.set i (some v)) (τ.set i (some d)):=by
 refine⟨h.dom,fun j c e hc=>?_⟩
 by_cases z:i=j
 ·subst z;have hi:i<Γ.length:=by
   have:=(tV.mp e).1
   simpa using this
  rw[sO hi]at e;cases e;exact⟨v,d,L,by rw[sO (by lia)],by rw[sO (by lia)],r,hk⟩
 ·rw[sE z]at e;obtain⟨v',d',L',a1,a2,a3,a4⟩:=h.slot j c e hc;exact⟨v',d',L',by rw[sE z];exact a1,by rw[sE z];exact a2,a3,a4⟩
end
def EOk.putAll {K:jJa}{O:Addr->Prop}{H:Hp}{k:Cl}{Γ:List Cl}{σ:St}{τ:Tn}{is:List Nat}{ds:List D}{vs:List V}{L:List Addr}(h:EOk K Γ O H σ τ)(r:Reps K H ds vs L)(hL:k=.shr->∀a∈L,¬O a)(hl:ds.length=is.length)(h1:σ.length=Γ.length)(h2:τ.length=Γ.length):
  EOk K (yY k Γ is) O H (xm σ is vs) (xm τ is ds):=by
 induction is generalizing Γ σ τ ds vs L with
 | nil =>
  cases ds with
  | nil=>cases r.1;exact h
  | cons=>cases hl
 | cons i is ih =>
  cases ds with
  | nil=>cases hl
  | cons d ds =>
   obtain⟨v,vs',L1,L2,e1,e2,r1,r2⟩:=r;subst e1 e2;exact ih (h.put r1 (fun z a ha=>hL z a (sC _ ha)) h1 h2) r2 (fun z a ha=>hL z a (tR _ ha)) (Nat.succ.inj hl) (by rw[sS,sS];exact h1) (by rw[sS,sS];exact h2)
theorem jt {α:Type}:∀(is:List Nat) (σ:List (Option α)) (vs:List α),(xm σ is vs).length=σ.length
 | [],σ,vs=>by unfold xm;rfl
 | i::is,σ,[]=>by unfold xm;rfl
 | i::is,σ,v::vs=>by unfold xm;rw[jt is,sS]
theorem kW {α:Type}{j:Nat}:∀(is:List Nat) (σ:List (Option α)) (vs:List α),j∉is->(xm σ is vs)[j]?=σ[j]?
 | [],σ,vs,_=>by unfold xm;rfl
 | i::is,σ,[],_=>by unfold xm;rfl
 | i::is,σ,v::vs,h=>by
  unfold xm;rw[kW is _ vs (fun z=>h (tW _ z)),sE (fun (z:i=j)=>h (z▸tU))]
def z0Z {K:jJa}{Γ:List Cl}{O:Addr->Prop}{H:Hp}{σ:St}{τ τ1:Tn}{d:D}{v:V}{L:List Addr}{g:Tgt}{k:Cl}(h:EOk K Γ O H σ τ)(r:Rep K H d v L)(hL:k=.shr->∀a∈L,¬O a)(h1:σ.length=Γ.length)(h2:τ.length=Γ.length)(ha:g.asg d τ=.ok τ1)
  {Q:St->Hp->Prop} (kk:∀σ1,EOk K (yY k Γ g.slots) O H σ1 τ1->σ1.length=σ.length->(∀j,j∉g.slots->σ1[j]?=σ[j]?)->Q σ1 H):tgG K g v σ H Q:=by
 cases g with
 | one i =>
  cases ha;exact kk _ (h.put r hL h1 h2) (by simp) fun j hj=>sE fun z=>hj (by simp[Tgt.slots,z])
 | many is =>
  cases d with
  | tup ds =>
   unfold Tgt.asg at ha;dsimp only at ha
   by_cases hl:ds.length=is.length
   ·rw[if_pos hl]at ha;cases ha;obtain⟨a,vs,rfl,hs,rs⟩:=r;have hv:vs.length=is.length:=rs.length.trans hl;exact⟨a,vs,rfl,hs,hv,kk _ (h.putAll rs hL hl h1 h2) (jt _ _ _) fun j hj=>kW is σ vs hj⟩
   ·rw[if_neg hl]at ha;cases ha
  | _=>cases ha
abbrev noX:XK:=fun _ _ _=>False
def J0 {α:Type}{r:R α}{a:α}(h:vW r=.ok a):r=.ok a:=by
 cases r with
 | ok b=>exact h
 | err n=>cases h
 | bad=>cases h
def Ub {α:Type}{r:R α}{n:Str}(h:vW r=.err n):False:=by cases r<;>cases h
theorem j4 {f:D->R (Option D)}(hf:∀d n,f d≠.err n):∀(ds:List D) (n:Str),xo f ds≠.err n
 | [],n,h=>by cases h
 | d::ds,n,h=>by
  unfold xo at h;cases h1:f d with
  | ok o =>
   rw[h1,jYa]at h;cases h2:xo f ds with
   | ok ys=>rw[h2]at h;cases h
   | err m=>exact j4 hf ds m h2
   | bad=>rw[h2]at h;cases h
  | err m=>exact hf d m h1
  | bad=>rw[h1]at h;cases h
def vA {α β:Type}{r:R α}{f:α->R β}{b:β}(h:r.bind f=.ok b):∃a,r=.ok a/\f a=.ok b:=by
 cases r with
 | ok a=>exact⟨a,rfl,h⟩
 | err n=>cases h
 | bad=>cases h
def Xx {f:D->R (Option D)}{d:D}{ds ys:List D}(h:xo f (d::ds)=.ok ys):∃o zs,f d=.ok o/\xo f ds=.ok zs/\ys=o.toList++zs:=by
 unfold xo at h;obtain⟨o,h1,h⟩:=vA h;obtain⟨zs,h2,h⟩:=vA h;cases h;exact⟨o,zs,h1,h2,rfl⟩
theorem EOk.live {K:jJa}{Γ:List Cl}{O:Addr->Prop}{H:Hp}{σ σ':St}{τ:Tn}(h:EOk K Γ O H σ τ)(e:∀(j:Nat) (c:Cl),Γ[j]?=some c->c≠Cl.dead->σ'[j]?=σ[j]?):EOk K Γ O H σ' τ:=
 ⟨h.dom,fun i c e1 hc=>by
  obtain⟨v,d,L,a1,a2,a3,a4⟩:=h.slot i c e1 hc;exact⟨v,d,L,by rw[e i c e1 hc];exact a1,a2,a3,a4⟩⟩
section
variable {X:Cx}{E:XK}{Γ:List Cl}{pos:Pos}
def YX {fr:List (Option Nat)}{tg iter:Expr}{it:Tn->R (List D)}{g:Tgt}{cnd:Tn->R Bool}{te:Tn->R D}{ci c:Rc}(hi:MI X E Γ tg iter it ci)(hcl:c≠.bor)(hd:∀j∈g.slots,(yM fr Γ)[j]?=some .dead):
  ∃wi,PI X tg iter wi/\∀O σ H τ Q,EOk X.K Γ O H σ τ->post X.K E O c H Q (yg fr it g cnd te τ)->V4 fr wi (tgG X.K g) (wpT X.K noX (yY (Cl.ofIt ci) (yM fr Γ) g.slots) cnd) (wpE X.K noX (yY (Cl.ofIt ci) (yM fr Γ) g.slots) te c) σ H Q:=by
 have hT0:∀σ H Q,(∃O τ,EOk X.K (yY (Cl.ofIt ci) (yM fr Γ) g.slots) O H σ τ/\postB X.K noX H Q (cnd τ))->wpT X.K noX (yY (Cl.ofIt ci) (yM fr Γ) g.slots) cnd σ H Q:=fun _ _ _ h=>h;have hE0:∀σ H Q,(∃O τ,EOk X.K (yY (Cl.ofIt ci) (yM fr Γ) g.slots) O H σ τ/\post X.K noX O c H Q (te τ))->wpE X.K noX (yY (Cl.ofIt ci) (yM fr Γ) g.slots) te c σ H Q:=fun _ _ _ h=>h;generalize wpT X.K noX (yY (Cl.ofIt ci) (yM fr Γ) g.slots) cnd=TC at hT0 ⊢;generalize wpE X.K noX (yY (Cl.ofIt ci) (yM fr Γ) g.slots) te c=TE0 at hE0 ⊢;obtain⟨wi,p,q⟩:=hi;refine⟨wi,p,fun O σ H τ Q ok h=>q O σ H τ _ ok ?_⟩;unfold yg at h;cases hit':it τ with
 | err n=>rw[hit']at h;exact h
 | bad=>rw[hit']at h;exact h
 | ok ds =>
  rw[hit',jYa]at h;refine fun J H1 L s1 hJ hO dd hD=>?_;obtain⟨hLd,hit⟩:=hJ;generalize hF:wm g.asg cnd te (wN fr τ)=F at h;cases hcL:xo F ds with
  | err n=>exact absurd hcL (j4 (fun d n z=>by rw[<-hF]at z;exact Ub z) ds n)
  | bad=>rw[hcL]at h;exact h.elim
  | ok ys =>
   rw[hcL,jYa]at h
   by_cases hz:ys.length<=sizeLine
   ·rw[if_pos hz]at h;have hD0:H dd=none:=s1.non hD;have jd:(vg fr σ).length=(yM fr Γ).length:=by simp[vg,yM]
    have lenT:(wN fr τ).length=(yM fr Γ).length:=by simp[wN,yM]
    obtain⟨W,hW⟩:∃W:Nat->Nat->List V->St->Hp->Prop,∀i m ysv τ' H2,W i m ysv τ' H2↔(m=ds.length-i/\i<=ds.length/\H2 dd=some (.lst ysv)/\(∀b,b≠dd->H1 b≠none->H2 b=H1 b)/\τ'.length=(yM fr Γ).length/\(∀j,j∉g.slots->τ'[j]?=(vg fr σ)[j]?) /\
     ∃dn rs Ly,ys=dn++rs/\xo F (ds.drop i)=.ok rs/\Reps X.K H2 dn ysv Ly/\dd∉Ly/\RcOk c O H1 Ly):=⟨_,fun _ _ _ _ _=>Iff.rfl⟩
    refine⟨W,⟨ds.length,(hW _ _ _ _ _).mpr ⟨by simp,rG _,zu,fun b hb _=>zy hb,jd,fun _ _=>rfl,[],ys,[],rfl,by simpa using hcL,Reps.nil,by simp,RcOk.nil⟩⟩,?_⟩;intro i m ysv τ' H2 hw0;obtain⟨rfl,hile,hDy,kp,hl',hj',dn,rs,Ly,eys,hrs,rdn,nD,kLy⟩:=(hW _ _ _ _ _).mp hw0;refine⟨hDy,?_⟩;have sH:Same H H2:=fun b o e=>by
     have e1:=s1 b o e;have nb:b≠dd:=zR e hD0;rw[kp b nb (by rw[e1];simp)];exact e1
    have s12:∀b o,H1 b=some o->H2 b=some o:=fun b o e=>by
     rw[kp b (zR e hD) (by rw[e];simp)];exact e
    have okO:EOk X.K Γ (fun a=>O a\/a=dd) H2 σ τ:=by
     refine⟨fun a ha=>?_,fun j k e hk=>?_⟩
     ·rcases ha with ha|ha
      ·exact (ok.same sH).dom a ha
      ·rw[ha,hDy];simp
     ·obtain⟨v,d,L0,a1,a2,a3,a4⟩:=ok.slot j k e hk;refine⟨v,d,L0,a1,a2,a3.same sH,fun z a ha hm=>?_⟩;rcases hm with hm|hm
      ·exact a4 z a ha hm
      ·exact a3.there ha (hm▸hD0)
    have okc:EOk X.K (yM fr Γ) (fun a=>O a\/a=dd) H2 τ' (wN fr τ):=(okO.comp (fr:=fr)).live fun j k e hk=>hj' j fun hm=>by
     rw[hd j hm]at e;exact hk (jYe e).symm
    obtain⟨go,stop⟩:=hit H2 ⟨fun a xs e=>s12 a _ e,fun a o u e=>s12 a _ e,fun a C dx fs e=>s12 a _ e⟩ (fun a ha=>kp a (fun z=>hLd a ha (z▸hD)) (hLd a ha)) i
    by_cases hlt:i<ds.length
    ·obtain⟨hgo,hy⟩:=go ds[i] (by simp[hlt]);refine .inr ⟨hgo,fun x H3 y=>?_⟩;obtain⟨s3,L',r',sub⟩:=hy x H3 y;rw[sQ hlt]at hrs;obtain⟨o,zs,ho,hzs,ers⟩:=Xx hrs;rw[<-hF]at ho;have ho:=J0 ho;obtain⟨τ1,ha,ho⟩:=vA ho;obtain⟨k,hk,ho⟩:=vA ho;refine z0Z (k:=Cl.ofIt ci) (okc.same s3) r' (fun z a ha hm=>?_) hl' lenT ha fun σ1 ok1 hl1 hj1=>?_
     ·have hci:ci≠.bor:=fun w=>by subst w;cases z
      rcases hm with hm|hm
      ·exact hO hci a (sub a ha) hm
      ·exact hLd a (sub a ha) (hm▸hD)
     ·refine hT0 _ _ _ ⟨_,τ1,ok1,?_⟩;rw[hk];refine fun H5 s5=>?_;have s25:=s3.trans s5;cases k with
      | true =>
       rw[if_pos rfl]at ho;dsimp only;rw[if_pos rfl];obtain⟨yd,hyd,ho⟩:=vA ho;cases ho;refine hE0 _ _ _ ⟨_,τ1,ok1.same s5,?_⟩;rw[hyd];refine fun yv H6 Lw s6 r6 k6=>?_;have s26:=s25.trans s6;have hD6:H6 dd=some (.lst ysv):=s26 dd _ hDy;have hlen:ysv.length=dn.length:=rdn.length;have nDw:dd∉Lw:=fun hm=>by
        cases c with
        | fresh=>have:=k6.2 dd hm;rw[s25 dd _ hDy]at this;cases this
        | shr=>exact k6 dd hm (.inr rfl)
        | bor=>exact hcl rfl
       have mu:(∃vs,H6 dd=some (.lst vs))\/∃kvs,H6 dd=some (.dK kvs):=.inl ⟨_,hD6⟩;refine⟨hD6,?_,ds.length-(i+1),by lia,(hW _ _ _ _ _).mpr ⟨rfl,hlt,zu,fun b hb hn=>?_,by rw[hl1];exact hl',fun j hj=>(hj1 j hj).trans (hj' j hj),dn++[yd],zs,Ly++Lw,?_,hzs,?_,?_,?_⟩⟩
       ·rw[eys,ers,tT,tT]at hz;simp only[Option.toList,rH]at hz;lia
       ·rw[zy hb,<-kp b hb hn];exact s26.at (by rw[kp b hb hn];exact hn)
       ·rw[eys,ers,sP];rfl
       ·have:=Reps.append ((rdn.same s26).upd (o:=.lst (ysv++[yv])) mu nD) (Reps.cons (r6.upd (o:=.lst (ysv++[yv])) mu nDw) Reps.nil);rw[tY]at this;exact this
       ·intro hm;rcases sG.mp hm with z|z
        ·exact nD z
        ·exact nDw z
       ·cases c with
        | fresh =>
         refine⟨sI.mpr ⟨kLy.1,k6.1,fun a ha b hb z=>?_⟩,fun a ha=>?_⟩
         ·subst z;have h2:=rdn.there ha;have h5:=k6.2 a hb;exact h2 (s25.non h5)
         ·rcases sG.mp ha with z|z
          ·exact kLy.2 a z
          ·have h5:=k6.2 a z;have h2:H2 a=none:=s25.non h5;cases e1:H1 a with
           | none=>rfl
           | some o=>rw[s12 a o e1]at h2;cases h2
        | shr =>
         intro a ha;rcases sG.mp ha with z|z
         ·exact kLy a z
         ·exact fun w=>k6 a z (.inl w)
        | bor=>exact absurd rfl hcl
      | false =>
       rw[if_neg tX]at ho;dsimp only;rw[if_neg tX];cases ho;refine⟨ds.length-(i+1),by lia,(hW _ _ _ _ _).mpr ⟨rfl,hlt,s25 dd _ hDy,fun b hb hn=>?_,by rw[hl1];exact hl',fun j hj=>(hj1 j hj).trans (hj' j hj),dn,zs,Ly,?_,hzs,rdn.same s25,nD,kLy⟩⟩
       ·rw[<-kp b hb hn];exact s25.at (by rw[kp b hb hn];exact hn)
       ·rw[eys,ers];rfl
    ·have e:i=ds.length:=by lia
     subst e;rw[List.drop_length]at hrs;cases hrs;rw[tY]at eys;subst eys;refine .inl ⟨stop (tQ _),h (.ref dd) H2 (dd::Ly) sH ⟨dd,ysv,Ly,rfl,hDy,rfl,rdn⟩ ?_⟩;cases c with
     | fresh =>
      refine⟨sW.mpr ⟨nD,kLy.1⟩,fun a ha=>?_⟩;rcases sF.mp ha with z|z
      ·rw[z];exact hD0
      ·exact s1.non (kLy.2 a z)
     | shr =>
      intro a ha;rcases sF.mp ha with z|z
      ·rw[z];exact fun w=>ok.dom dd w hD0
      ·exact kLy a z
     | bor=>exact absurd rfl hcl
   ·rw[if_neg hz]at h;exact h.elim
def w8 {N':List Str}{fr:List (Option Nat)}{scope:Scope}{tg iter elt:Expr}{ifs:List Expr}{it:Tn->R (List D)}{g:Tgt}{cnd:Tn->R Bool}{te:Tn->R D}{ci c:Rc}(hc:X.calm=true)(S:CompScope X N' fr scope)(hi:MI X E Γ tg iter it ci)
  (hg:∀s₃ H₃ fp pins,MG (y4 X scope N' s₃ H₃ fp pins) tg g) (ht:∀s₃ H₃ fp pins,MTs (y4 X scope N' s₃ H₃ fp pins) noX (yY (Cl.ofIt ci) (yM fr Γ) g.slots) ifs cnd)
  (he:∀s₃ H₃ fp pins,ME (y4 X scope N' s₃ H₃ fp pins) noX (yY (Cl.ofIt ci) (yM fr Γ) g.slots) elt te c) (hcl:c≠.bor) (hd:∀j∈g.slots,(yM fr Γ)[j]?=some .dead)
  (hs:autoParam (∀x,foldedSetIterable iter X.env x=pure x) au2._auto_1):ME X E Γ (.ListComp elt [⟨tg,iter,ifs,0⟩] scope pos) (yg fr it g cnd te) c:=by
 obtain⟨wi,p,q⟩:=YX (cnd:=cnd) (te:=te) hi hcl hd;exact⟨_,Jo hc S p (fun s₃ H₃ fp pins=>(hg s₃ H₃ fp pins).pg) (fun s₃ H₃ fp pins=>(ht s₃ H₃ fp pins).pts) (fun s₃ H₃ fp pins=>(he s₃ H₃ fp pins).pe) hs,q⟩
def Jh {Γl:List Cl}{N':List Str}{fr:List (Option Nat)}{scope:Scope}{tg iter elt:Expr}{ifs:List Expr}{it:Tn->R (List D)}{g:Tgt}{cnd:Tn->R Bool}{te:Tn->R D}{ci:Rc}{i:Nat}{x:Str}{pos' cpos:Pos}(hc:X.calm=true)(S:CompScope X N' fr scope)(hi:MI X E Γ tg iter it ci)
  (hg:∀s₃ H₃ fp pins,MG (y4 X scope N' s₃ H₃ fp pins) tg g) (ht:∀s₃ H₃ fp pins,MTs (y4 X scope N' s₃ H₃ fp pins) noX (yY (Cl.ofIt ci) (yM fr Γ) g.slots) ifs cnd)
  (he:∀s₃ H₃ fp pins,ME (y4 X scope N' s₃ H₃ fp pins) noX (yY (Cl.ofIt ci) (yM fr Γ) g.slots) elt te .fresh) (hd:∀j∈g.slots,(yM fr Γ)[j]?=some .dead)
  (hN:X.N.Nodup) (hix:X.N[i]?=some x) (hl:i<Γ.length) (hx:Loc X.env.scope x) (hsw:swapsWith (.ListComp elt [⟨tg,iter,ifs,0⟩] scope cpos) (some (.Name x pos')) pos.line X.env=pure true)
  (hs:autoParam (∀x,foldedSetIterable iter X.env x=pure x) au2._auto_1) (hf:autoParam (X.fn x=true\/X.env.scope.names.lookup x=some .local) au0._auto_1):
  MS X E Γl Γ (.Assign [.Name x pos'] (.ListComp elt [⟨tg,iter,ifs,0⟩] scope cpos) pos) (zo i (yg fr it g cnd te)) (Γ.set i .own):=by
 obtain⟨wi,p,q⟩:=YX (cnd:=cnd) (te:=te) (c:=.fresh) hi (by decide) hd;refine⟨_,K8 (g:=tgG X.K g) (tc:=wpT X.K noX (yY (Cl.ofIt ci) (yM fr Γ) g.slots) cnd) (te:=wpE X.K noX (yY (Cl.ofIt ci) (yM fr Γ) g.slots) te .fresh) hc S p (fun s₃ H₃ fp pins=>(hg s₃ H₃ fp pins).pg) (fun s₃ H₃ fp pins=>(ht s₃ H₃ fp pins).pts) (fun s₃ H₃ fp pins=>(he s₃ H₃ fp pins).pe) hN hix hx hsw hs hf,fun B σ H τ Z ok h=>?_⟩;obtain⟨O,eo,_⟩:=ok.eok;refine q O σ H τ _ eo ?_;unfold zo at h;cases ht':yg fr it g cnd te τ with
 | ok d =>
  rw[ht',jYa]at h;exact fun v H' L s r k=>h _ _ (SOk.into (T:=[]) (ok.aside s (fun a ha=>r.there ha) k.1 k.2) r hl)
 | err n=>rw[ht']at h;exact fun C H' e s=>h C H' e (ok.ext.trans s)
 | bad=>rw[ht']at h;exact h
end
def spM (K:jJa)(F:List D->R D)(n:Nat):Sp:=fun vs H Q E=>vs.length=n/\∃ds L,Reps K H ds vs L/\post K E (fun _=>False) .fresh H Q (F ds)
def zC (n:Nat)(t:Tn->R Fl)(ds:List D):R D:=match t (ds.map some++List.replicate (n-ds.length) none)with
 | .ok (.rt d)=>.ok d
 | .ok (.nx _)=>.ok .non
 | .err c=>.err c
 | _=>.bad
def qP (n m:Nat):List Cl:=List.replicate m .shr++List.replicate (n-m) .dead
theorem Reps.slot {K:jJa}{H:Hp}{ds:List D}{vs:List V}{L:List Addr}(r:Reps K H ds vs L):∃Ls:Nat->List Addr,∀(i:Nat) (d:D),ds[i]?=some d->∃v,vs[i]?=some v/\Rep K H d v (Ls i):=by
 have:∀i:Nat,∃L1:List Addr,∀d,ds[i]?=some d->∃v,vs[i]?=some v/\Rep K H d v L1:=fun i=>by
  cases h:ds[i]? with
  | none=>exact⟨[],fun d z=>by cases z⟩
  | some d =>
   obtain⟨v,L1,e1,r1,_⟩:=r.get h;exact⟨L1,fun d' z=>by cases z;exact⟨v,e1,r1⟩⟩
 exact⟨fun i=>Classical.choose (this i),fun i=>Classical.choose_spec (this i)⟩
theorem SOk.start {K:jJa}{H:Hp}{N:List Str}{ds:List D}{vs:List V}{L:List Addr}(r:Reps K H ds vs L)(hn:vs.length<=N.length):SOk K (qP N.length vs.length) H H (L2.start N vs) (ds.map some++List.replicate (N.length-ds.length) none) []:=by
 have hl:=r.length;have lp:(qP N.length vs.length).length=N.length:=by unfold qP;rw[tT,rD,rD];lia
 obtain⟨Ls,hL⟩:=r.slot;have cls:∀i c,(qP N.length vs.length)[i]?=some c->c≠.dead->i<vs.length/\c=.shr:=fun i c e hc=>by
  unfold qP at e
  by_cases hi:i<vs.length
  ·rw[pD (by simpa using hi),gE,if_pos hi]at e;exact⟨hi,(jYe e).symm⟩
  ·rw[pA (by simp;lia),gE]at e;split at e
   ·exact absurd (jYe e).symm hc
   ·cases e
 have no:∀i:Nat,(qP N.length vs.length)[i]?≠some Cl.own:=fun i e=>by
  have:=(cls i _ e (by simp)).2;cases this
 refine⟨Same.refl H,?_,?_,Ls,fun i c e hc=>?_,fun i e=>absurd e (no i),fun i j c _ e=>absurd e (no i),pW,fun a ha=>(nomatch ha),fun i c e hc a ha hm=>(nomatch hm)⟩
 ·unfold L2.start;rw[lp,tT,tM,rD];lia
 ·rw[lp,tT,tM,rD];lia
 ·obtain⟨hi,_⟩:=cls i c e hc;have hi':i<ds.length:=by lia
  obtain⟨v,e1,r1⟩:=hL i ds[i] (by simp[hi']);refine⟨v,ds[i],?_,?_,r1⟩
  ·unfold L2.start;rw[pD (by simpa using hi),sJ,e1];rfl
  ·rw[pD (by simpa using hi'),sJ];simp[hi']
section
variable {P:Program}{w:World}{K:jJa}{mg:Str->Option Value}{base:Heap}{x:Str}{st:Stmt}{N ps:List Str}{k:Nat}{t:Tn->R Fl}{Γ':List Cl}
theorem DefIn.mir (Df:DefIn K mg x st ps)(S:FnScope N ps (defScope st))(hn:ps.length<=N.length)
  (hbody:∀(f:Addr) (cdv:Value) (A:Around) (outer:List Env) (s:Shared) (H:Hp) (E:XK),Room k (A.deeper (envOfC x (defScope st) s.heap.objs.size f cdv)) ->
   MSs (wu (cxx P w) P w K mg base N x (defScope st) f cdv A outer s H E) E [] (qP N.length ps.length) (defBody st) t Γ'):Own P w K mg base x (k+1) ps (spM K (zC N.length t) ps.length):=by
 refine Df.own S (fun vs H Q E h=>h.1) fun f cdv A outer s H vs Q E hr h=>?_;obtain⟨hl,ds,L,r,h⟩:=h;obtain⟨ts,p,q⟩:=hbody f cdv A outer s H E hr;refine⟨ts,p,q H (start N vs) H _ _ (hl▸SOk.start r (by lia)) ?_⟩;unfold zC at h;cases ht:t (ds.map some++List.replicate (N.length-ds.length) none)with
 | ok f =>
  rw[ht]at h;cases f with
  | nx τ'=>exact fun σ' H' ok'=>h .non H' [] ok'.ext ⟨rfl,rfl⟩ RcOk.nil
  | rt d=>exact fun v H' L s r n1 n2=>h v H' L s r ⟨n1,n2⟩
  | bk τ'=>exact h.elim
  | ct τ'=>exact h.elim
 | err n=>rw[ht]at h;exact fun C H' e s=>h C H' e s
 | bad=>rw[ht]at h;exact h.elim
end
section
variable {X:Cx}{E:XK}{Γ Γ' Γl:List Cl}{x:Str}{k:Nat}{ps:List Str}{F:List D->R D}{e:Expr}{es:List Expr}{u:Tn->R (List D)}{c:Rc}{p pos:Pos}{n:Nat}
def zS (O:Own X.prog X.w X.K X.mg X.base x k ps (spM X.K F n))(hr:Room k X.A)(hg:Gl X x)(hx:xl (cxx X.prog X.w) X E)(ha:MA X E Γ (e::es) u c)(hl:autoParam ((e::es).length=n) au3._auto_1)(hdb:autoParam ((x==("__debug__":Str))=false) au1._auto_1)
  (he:autoParam (starEach (e::es) X.env=(false,eval e X.env)::starEach es X.env) au3._auto_1) (hpl:autoParam ((backTo pos (starEach es X.env)).any (·.1)=false) au3._auto_1):ME X E Γ (.Call (.Name x p) (e::es) [] pos) (eL F u) .fresh:=by
 obtain⟨hlen,ta,pa,q⟩:=ha;refine⟨_,z1I O hr hg hx pa hdb he hpl,fun O' σ H τ Q ok h=>q O' σ H τ _ ok ?_⟩;unfold eL at h;cases hu:u τ with
 | ok ds =>
  rw[hu,jYa]at h;refine fun vs H1 L s1 r1 _=>?_;have hv:(vs++[]).length=n:=by rw[tY,r1.length,hlen τ ds hu];exact hl
  refine⟨hv,ds,L,by rw[tY];exact r1,?_⟩;have h1:=h.same s1;cases hF:F ds with
  | ok d=>rw[hF]at h1;exact h1
  | err n=>rw[hF]at h1;exact h1
  | bad=>rw[hF]at h1;exact h1
 | err n=>rw[hu]at h;exact h
 | bad=>rw[hu]at h;exact h
end
def D.isS:D->Bool
 | .non=>true
 | .bl _=>true
 | .int _=>true
 | .str _=>true
 | _=>false
def eqS:D->D->Bool
 | .non,.non=>true
 | .bl a,.bl b=>a==b
 | .bl a,.int b=>(if a then 1 else 0)==b
 | .int a,.bl b=>a==(if b then 1 else 0)
 | .int a,.int b=>a==b
 | .str a,.str b=>a==b
 | _,_=>false
def yp (f:D->D->Option Bool):List D->List D->Option Bool
 | x::xs,y::ys=>match f x y,yp f xs ys with
  | some a,some b=>some (a&&b)
  | _,_=>none
 | _,_=>some true
def vK {b:Bool}(h:(none:Option Bool)=some b):False:=by cases h
def eqF:Nat->D->D->Option Bool
 | 0,x,y=>if (x.isS&&y.isS)=true then some (eqS x y) else none
 | n+1,x,y=>match x,y with
  | .lst xs,.lst ys=>if xs.length=ys.length then yp (eqF n) xs ys else some false
  | .tup xs,.tup ys=>(yp (eqF n) xs ys).map fun b=>b&&xs.length==ys.length
  | .frl xs,.lst ys=>if xs.length=ys.length then yp (eqF n) xs ys else some false
  | .frl xs,.frl ys=>if xs.length=ys.length then yp (eqF n) xs ys else some false
  | .lst _,.tup _=>some false
  | .tup _,.lst _=>some false
  | .lst _,y=>if y.isS=true then some false else none
  | .tup _,y=>if y.isS=true then some false else none
  | x,.lst _=>if x.isS=true then some false else none
  | x,.tup _=>if x.isS=true then some false else none
  | x,y=>if (x.isS&&y.isS)=true then some (eqS x y) else none
def WV {K:jJa}{H:Hp}{d:D}{v:V}{L:List Addr}{u:Value}(h:d.isS=true)(r:Rep K H d v L)(q:RelV v u):
  (d=.non/\u=.none)\/(∃b,d=.bl b/\u=.bool b)\/(∃i t,d=.int i/\u=.int i t)\/∃x t,d=.str x/\u=.str x t:=by
 cases d with
 | non=>obtain⟨rfl,_⟩:=r;exact .inl ⟨rfl,q⟩
 | bl b=>obtain⟨rfl,_⟩:=r;exact .inr (.inl ⟨b,rfl,q⟩)
 | int i=>obtain⟨rfl,_⟩:=r;obtain⟨t,e⟩:=q;exact .inr (.inr (.inl ⟨i,t,rfl,e⟩))
 | str x=>obtain⟨rfl,_⟩:=r;obtain⟨t,e⟩:=q;exact .inr (.inr (.inr ⟨x,t,rfl,e⟩))
 | _=>cases h
open SeqAt in
def ZZ {A:Around}{s:Shared}{K:jJa}{H:Hp}{d1 d2:D}{v1 v2:V}{L1 L2:List Addr}{u1 u2:Value}(h1:d1.isS=true)(h2:d2.isS=true)(r1:Rep K H d1 v1 L1)(r2:Rep K H d2 v2 L2)(q1:RelV v1 u1)(q2:RelV v2 u2):
  RcAt A s u1 u2 (eqS d1 d2)/\EqAt A s u1 u2 (eqS d1 d2)/\RcNeAt A s u1 u2 (!eqS d1 d2):=by
 rcases WV h1 r1 q1 with⟨rfl,rfl⟩|⟨a,rfl,rfl⟩|⟨a,t,rfl,rfl⟩|⟨a,t,rfl,rfl⟩ <;>
 rcases WV h2 r2 q2 with⟨rfl,rfl⟩|⟨b,rfl,rfl⟩|⟨b,t',rfl,rfl⟩|⟨b,t',rfl,rfl⟩
 ·exact⟨RcAt.none_none,EqAt.same _,RcNeAt.none_none⟩
 ·exact⟨RcAt.none_bool b,EqAt.none_bool b,RcNeAt.none_bool b⟩
 ·exact⟨RcAt.none_int b _,EqAt.none_int b _,RcNeAt.none_int b _⟩
 ·exact⟨RcAt.none_str b _,EqAt.none_str b _,RcNeAt.none_str b _⟩
 ·exact⟨RcAt.bool_none a,EqAt.bool_none a,RcNeAt.bool_none a⟩
 ·exact⟨RcAt.bool_bool a b,EqAt.bool_bool a b,RcNeAt.bool_bool a b⟩
 ·exact⟨RcAt.bool_int a b _,EqAt.bool_int a b _,RcNeAt.bool_int a b _⟩
 ·exact⟨RcAt.bool_str a b _,EqAt.bool_str a b _,RcNeAt.bool_str a b _⟩
 ·exact⟨RcAt.int_none a _,EqAt.int_none a _,RcNeAt.int_none a _⟩
 ·exact⟨RcAt.int_bool a _ b,EqAt.int_bool a _ b,RcNeAt.int_bool a _ b⟩
 ·exact⟨RcAt.int_int a _ b _,EqAt.int_int a _ b _,RcNeAt.int_int a _ b _⟩
 ·exact⟨RcAt.int_str a _ b _,EqAt.int_str a _ b _,RcNeAt.int_str a _ b _⟩
 ·exact⟨RcAt.str_none a _,EqAt.str_none a _,RcNeAt.str_none a _⟩
 ·exact⟨RcAt.str_bool a _ b,EqAt.str_bool a _ b,RcNeAt.str_bool a _ b⟩
 ·exact⟨RcAt.str_int a _ b _,EqAt.str_int a _ b _,RcNeAt.str_int a _ b _⟩
 ·exact⟨RcAt.str_str a _ b _,EqAt.str_str a _ b _,RcNeAt.str_str a _ b _⟩
open SeqAt in
def Yr {A:Around}{s:Shared}{K:jJa}{H:Hp}{d:D}{v:V}{L:List Addr}{u:Value}{l:Addr}{items:Array Value}(hd:d.isS=true)(r:Rep K H d v L)(q:RelV v u)(hl:s.heap.IsList l items)(hu:A.units<cLine):
  (RcAt A s (.ref l) u false/\EqAt A s (.ref l) u false/\RcNeAt A s (.ref l) u true)/\RcAt A s u (.ref l) false/\EqAt A s u (.ref l) false/\RcNeAt A s u (.ref l) true:=by
 rcases WV hd r q with⟨rfl,rfl⟩|⟨b,rfl,rfl⟩|⟨b,t',rfl,rfl⟩|⟨b,t',rfl,rfl⟩
 ·exact⟨⟨RcAt.list_none hl hu,EqAt.list_none hl hu,RcNeAt.list_none hl hu⟩,RcAt.none_list hl hu,EqAt.none_list hl hu,RcNeAt.none_list hl hu⟩
 ·exact⟨⟨RcAt.list_bool b hl hu,EqAt.list_bool b hl hu,RcNeAt.list_bool b hl hu⟩,RcAt.bool_list b hl hu,EqAt.bool_list b hl hu,RcNeAt.bool_list b hl hu⟩
 ·exact⟨⟨RcAt.list_int b _ hl hu,EqAt.list_int b _ hl hu,RcNeAt.list_int b _ hl hu⟩,RcAt.int_list b _ hl hu,EqAt.int_list b _ hl hu,RcNeAt.int_list b _ hl hu⟩
 ·exact⟨⟨RcAt.list_str b _ hl hu,EqAt.list_str b _ hl hu,RcNeAt.list_str b _ hl hu⟩,RcAt.str_list b _ hl hu,EqAt.str_list b _ hl hu,RcNeAt.str_list b _ hl hu⟩
open SeqAt in
def Yn {A:Around}{s:Shared}{K:jJa}{H:Hp}{d:D}{v:V}{L:List Addr}{u:Value}{l:Addr}{items:Array Value}(hd:d.isS=true)(r:Rep K H d v L)(q:RelV v u)(hl:s.heap.IsTuple l items)(hu:A.units<cLine):
  (RcAt A s (.ref l) u false/\EqAt A s (.ref l) u false/\RcNeAt A s (.ref l) u true)/\RcAt A s u (.ref l) false/\EqAt A s u (.ref l) false/\RcNeAt A s u (.ref l) true:=by
 rcases WV hd r q with⟨rfl,rfl⟩|⟨b,rfl,rfl⟩|⟨b,t',rfl,rfl⟩|⟨b,t',rfl,rfl⟩
 ·exact⟨⟨RcAt.tuple_none hl hu,EqAt.tuple_none hl hu,RcNeAt.tuple_none hl hu⟩,RcAt.none_tuple hl hu,EqAt.none_tuple hl hu,RcNeAt.none_tuple hl hu⟩
 ·exact⟨⟨RcAt.tuple_bool b hl hu,EqAt.tuple_bool b hl hu,RcNeAt.tuple_bool b hl hu⟩,RcAt.bool_tuple b hl hu,EqAt.bool_tuple b hl hu,RcNeAt.bool_tuple b hl hu⟩
 ·exact⟨⟨RcAt.tuple_int b _ hl hu,EqAt.tuple_int b _ hl hu,RcNeAt.tuple_int b _ hl hu⟩,RcAt.int_tuple b _ hl hu,EqAt.int_tuple b _ hl hu,RcNeAt.int_tuple b _ hl hu⟩
 ·exact⟨⟨RcAt.tuple_str b _ hl hu,EqAt.tuple_str b _ hl hu,RcNeAt.tuple_str b _ hl hu⟩,RcAt.str_tuple b _ hl hu,EqAt.str_tuple b _ hl hu,RcNeAt.str_tuple b _ hl hu⟩
def v8 (f:D->D->Option Bool)(xs ys:List D)(j:Nat):Bool:=match xs[j]?,ys[j]? with
 | some x,some y=>(f x y).getD false
 | _,_=>true
theorem uj {f:D->D->Option Bool}:∀ {xs ys:List D} {b:Bool},yp f xs ys=some b->b=(List.range (min xs.length ys.length)).all (v8 f xs ys)/\∀j x y,xs[j]?=some x->ys[j]?=some y->f x y=some (v8 f xs ys j)
 | [],ys,b,h=>by
  unfold yp at h;cases h;exact⟨by simp,fun j x y e=>by simp at e⟩
 | x::xs,[],b,h=>by
  unfold yp at h;cases h;exact⟨by simp,fun j x y e e'=>by simp at e'⟩
 | x::xs,y::ys,b,h=>by
  unfold yp at h;cases h1:f x y with
  | none=>rw[h1]at h;cases h
  | some a =>
   cases h2:yp f xs ys with
   | none=>rw[h1,h2]at h;cases h
   | some b' =>
    rw[h1,h2]at h;cases h;obtain⟨e1,e2⟩:=uj h2;have z0:v8 f (x::xs) (y::ys) 0=a:=by simp[v8,h1]
    have zs:∀j,v8 f (x::xs) (y::ys) (j+1)=v8 f xs ys j:=fun j=>by simp[v8]
    refine⟨?_,fun j x' y' ex ey=>?_⟩
    ·have hm:min (x::xs).length (y::ys).length=min xs.length ys.length+1:=by simp[Nat.succ_min_succ]
     rw[hm,rZ,pQ,List.all_map,z0,e1];congr 1
    ·cases j with
     | zero=>simp at ex ey;subst ex ey;rw[z0];exact h1
     | succ j=>rw[zs];exact e2 j x' y' (by simpa using ex) (by simpa using ey)
section
variable {X:Cx}{pins:List (Addr×Obj)}{σ:St}{H:Hp}{s:Shared}
def D.ofV:V->D
 | .bl b=>.bl b
 | .int i=>.int i
 | .str x=>.str x
 | _=>.non
theorem Rep.ofV {K:jJa}{H:Hp}{d:D}{v:V}{L:List Addr}(h:∀a,v≠.ref a)(r:Rep K H d v L):d=D.ofV v:=by
 cases d with
 | non=>rw[r.1];rfl
 | bl=>rw[r.1];rfl
 | int=>rw[r.1];rfl
 | str=>rw[r.1];rfl
 | tup=>obtain⟨a,_,e,_⟩:=r;exact absurd e (h a)
 | lst=>obtain⟨a,_,_,e,_⟩:=r;exact absurd e (h a)
 | dic=>obtain⟨a,_,_,e,_⟩:=r;exact absurd e (h a)
 | frl=>obtain⟨a,_,e,_⟩:=r;exact absurd e (h a)
 | obj=>obtain⟨a,_,_,e,_⟩:=r;exact absurd e (h a)
theorem Rep.oneS {K:jJa}{H:Hp}{d d':D}{u v:V}{L L':List Addr}(e:v=u)(hs:∀a,u≠.ref a)(r:Rep K H d v L)(r':Rep K H d' v L'):d=d':=by
 subst e;exact (r.ofV hs).trans (r'.ofV hs).symm
theorem Rep.noS {K:jJa}{H:Hp}{d:D}{a:Addr}{L:List Addr}(r:Rep K H d (.ref a) L)(h:d.isS=true):False:=by
 cases d with
 | non=>cases r.1
 | bl=>cases r.1
 | int=>cases r.1
 | str=>cases r.1
 | _=>cases h
def kS {a:Addr}{vs:List V}{o:HO}(I:Inv X pins σ H s)(h:SqT X.K H a vs)(h':H a=some o)(n1:∀xs,o≠.tup xs)(n2:∀p xs,o≠.frz p (.tup xs)):False:=by
 rcases h with (z|⟨p,z⟩)|⟨o',its,n,hk,hc,_⟩
 ·rw[z]at h';exact n1 _ (jYe h').symm
 ·rw[z]at h';exact n2 _ _ (jYe h').symm
 ·have:=(I.bs a o' (I.mod.kin a o' hk)).2;rw[this]at h';cases h'
def kY {a:Addr}{vs:List V}{o:HO}(I:Inv X pins σ H s)(h:SqF X.K H a vs)(h':H a=some o)(n2:∀p xs,o≠.frz p (.lst xs)):False:=by
 rcases h with⟨p,z⟩|⟨o',its,n,hk,hc,_⟩
 ·rw[z]at h';exact n2 _ _ (jYe h').symm
 ·have:=(I.bs a o' (I.mod.kin a o' hk)).2;rw[this]at h';cases h'
def z0g {a:Addr}{vs ws:List V}(I:Inv X pins σ H s)(h':SqT X.K H a ws)(h:SqF X.K H a vs):False:=by
 obtain⟨its,_,⟨o1,n1,e1,c1,_⟩,_⟩:=I.list h.sq;obtain⟨its2,_,⟨o2,e2,c2,_⟩,_⟩:=I.tuple h';rw[e1]at e2;cases e2;rw[c1]at c2;exact absurd c2 (by simp)
def z07 {a:Addr}{xs:List V}{kvs:List (Key×V)}{H:Hp}(h:H a=some (.lst xs))(h':H a=some (.dK kvs)):False:=by
 rw[h]at h';cases h'
mutual
theorem Rep.one (I:Inv X pins σ H s):∀(d d':D) (v:V) (L L':List Addr),Rep X.K H d v L->Rep X.K H d' v L'->d=d'
 | .non,_,_,_,_,r,r'=>Rep.oneS r.1 (fun _ z=>V.noConfusion z) r r'
 | .bl _,_,_,_,_,r,r'=>Rep.oneS r.1 (fun _ z=>V.noConfusion z) r r'
 | .int _,_,_,_,_,r,r'=>Rep.oneS r.1 (fun _ z=>V.noConfusion z) r r'
 | .str _,_,_,_,_,r,r'=>Rep.oneS r.1 (fun _ z=>V.noConfusion z) r r'
 | .tup ds,d',_,L,L',hq5,r=>by
  obtain⟨a,vs,e,h,rs⟩:=hq5;subst e;cases d' with
  | non=>exact (Rep.noS r rfl).elim
  | bl _=>exact (Rep.noS r rfl).elim
  | int _=>exact (Rep.noS r rfl).elim
  | str _=>exact (Rep.noS r rfl).elim
  | tup ds' =>
   obtain⟨a',vs',e,h',rs'⟩:=r;cases e;cases I.tuple_inj h h';rw[Reps.one I ds ds' vs L L' rs rs']
  | lst _ =>
   obtain⟨_,_,_,e,h',_⟩:=r;cases e;exact (kS I h h' (fun _ z=>HO.noConfusion z) fun _ _ z=>HO.noConfusion z).elim
  | dic _ _ =>
   obtain⟨_,_,_,e,h',_⟩:=r;cases e;exact (kS I h h' (fun _ z=>HO.noConfusion z) fun _ _ z=>HO.noConfusion z).elim
  | frl _ =>
   obtain⟨_,_,e,h',_⟩:=r;cases e;exact (z0g I h h').elim
  | obj _ _ _ =>
   obtain⟨_,_,_,e,h',_⟩:=r;cases e;exact (kS I h h' (fun _ z=>HO.noConfusion z) fun _ _ z=>HO.noConfusion z).elim
 | .lst ds,d',_,L,L',hq5,r=>by
  obtain⟨a,vs,L1,e,h,_,rs⟩:=hq5;subst e;cases d' with
  | non=>exact (Rep.noS r rfl).elim
  | bl _=>exact (Rep.noS r rfl).elim
  | int _=>exact (Rep.noS r rfl).elim
  | str _=>exact (Rep.noS r rfl).elim
  | tup ds' =>
   obtain⟨a',vs',e,h',rs'⟩:=r;cases e;exact (kS I h' h (fun _ z=>HO.noConfusion z) fun _ _ z=>HO.noConfusion z).elim
  | lst ds' =>
   obtain⟨_,_,_,e,h',_,rs'⟩:=r;cases e;rw[h]at h';cases h';rw[Reps.one I ds ds' vs _ _ rs rs']
  | dic _ _ =>
   obtain⟨_,_,_,e,h',_⟩:=r;cases e;exact (z07 h h').elim
  | frl _ =>
   obtain⟨_,_,e,h',_⟩:=r;cases e;exact (kY I h' h fun _ _ z=>HO.noConfusion z).elim
  | obj _ _ _ =>
   obtain⟨_,_,_,e,h',_⟩:=r;cases e;rw[h]at h';cases h'
 | .dic ks ds,d',_,L,L',hq5,r=>by
  obtain⟨a,kvs,L1,e,h,_,hk,_,rs⟩:=hq5;subst e;cases d' with
  | non=>exact (Rep.noS r rfl).elim
  | bl _=>exact (Rep.noS r rfl).elim
  | int _=>exact (Rep.noS r rfl).elim
  | str _=>exact (Rep.noS r rfl).elim
  | tup ds' =>
   obtain⟨a',vs',e,h',rs'⟩:=r;cases e;exact (kS I h' h (fun _ z=>HO.noConfusion z) fun _ _ z=>HO.noConfusion z).elim
  | lst ds' =>
   obtain⟨_,_,_,e,h',_,rs'⟩:=r;cases e;exact (z07 h' h).elim
  | dic ks' ds' =>
   obtain⟨_,_,_,e,h',_,hk',_,rs'⟩:=r;cases e;rw[h]at h';cases h';rw[<-hk,<-hk',Reps.one I ds ds' _ _ _ rs rs']
  | frl _ =>
   obtain⟨_,_,e,h',_⟩:=r;cases e;exact (kY I h' h fun _ _ z=>HO.noConfusion z).elim
  | obj _ _ _ =>
   obtain⟨_,_,_,e,h',_⟩:=r;cases e;rw[h]at h';cases h'
 | .frl ds,d',_,L,L',hq5,r=>by
  obtain⟨a,vs,e,h,_,_,rs⟩:=hq5;subst e;cases d' with
  | non=>exact (Rep.noS r rfl).elim
  | bl _=>exact (Rep.noS r rfl).elim
  | int _=>exact (Rep.noS r rfl).elim
  | str _=>exact (Rep.noS r rfl).elim
  | tup ds' =>
   obtain⟨a',vs',e,h',rs'⟩:=r;cases e;exact (z0g I h' h).elim
  | lst ds' =>
   obtain⟨_,_,_,e,h',_,rs'⟩:=r;cases e;exact (kY I h h' fun _ _ z=>HO.noConfusion z).elim
  | dic ks' ds' =>
   obtain⟨_,_,_,e,h',_,hk',_,rs'⟩:=r;cases e;exact (kY I h h' fun _ _ z=>HO.noConfusion z).elim
  | frl ds' =>
   obtain⟨_,_,e,h',_,_,rs'⟩:=r;cases e;have:=I.list_inj h.sq h'.sq;subst this;rw[Reps.one I ds ds' vs _ _ rs rs']
  | obj _ _ _ =>
   obtain⟨_,_,_,e,h',_⟩:=r;cases e;exact (kY I h h' fun _ _ z=>HO.noConfusion z).elim
 | .obj C ns ds,d',_,L,L',hq5,r=>by
  obtain⟨a,dx,fs,e,h,hk,rs⟩:=hq5;subst e;cases d' with
  | non=>exact (Rep.noS r rfl).elim
  | bl _=>exact (Rep.noS r rfl).elim
  | int _=>exact (Rep.noS r rfl).elim
  | str _=>exact (Rep.noS r rfl).elim
  | tup ds' =>
   obtain⟨a',vs',e,h',rs'⟩:=r;cases e;exact (kS I h' h (fun _ z=>HO.noConfusion z) fun _ _ z=>HO.noConfusion z).elim
  | lst ds' =>
   obtain⟨_,_,_,e,h',_,rs'⟩:=r;cases e;rw[h]at h';cases h'
  | dic ks' ds' =>
   obtain⟨_,_,_,e,h',_,hk',_,rs'⟩:=r;cases e;rw[h]at h';cases h'
  | frl ds' =>
   obtain⟨_,_,e,h',_,_,rs'⟩:=r;cases e;exact (kY I h' h fun _ _ z=>HO.noConfusion z).elim
  | obj C' ns' ds' =>
   obtain⟨_,_,_,e,h',hk',rs'⟩:=r;cases e;rw[h]at h';cases h';rw[<-hk,<-hk',Reps.one I ds ds' _ _ _ rs rs']
theorem Reps.one (I:Inv X pins σ H s):∀(ds ds':List D) (vs:List V) (L L':List Addr),Reps X.K H ds vs L->Reps X.K H ds' vs L'->ds=ds'
 | [],ds',_,_,_,hq5,r=>by
  obtain⟨e,_⟩:=hq5;subst e;cases ds' with
  | nil=>rfl
  | cons _ _=>obtain⟨_,_,_,_,e,_⟩:=r;cases e
 | d::ds,ds',_,_,_,hq5,r=>by
  obtain⟨v,vs',L1,L2,e1,_,h1,h2⟩:=hq5;subst e1;cases ds' with
  | nil=>obtain⟨e,_⟩:=r;cases e
  | cons d' ds' =>
   obtain⟨v',vs2,L3,L4,e,_,r1,r2⟩:=r;cases e;rw[Rep.one I d d' v _ _ h1 r1,Reps.one I ds ds' vs' _ _ h2 r2]
end
end
def Yy:∀(d:D),d.isS=true->eqS d d=true
 | .non,_=>rfl
 | .bl b,_=>beq_self_eq_true b
 | .int b,_=>beq_self_eq_true b
 | .str b,_=>beq_self_eq_true b
 | .tup _,h=>nomatch h
 | .lst _,h=>nomatch h
 | .dic _ _,h=>nomatch h
 | .frl _,h=>nomatch h
 | .obj _ _ _,h=>nomatch h
def QU:∀(n:Nat) (d:D) (b:Bool),eqF n d d=some b->b=true:=by
 intro n
 induction n with
 | zero =>
  intro d b h
  replace h:(if (d.isS&&d.isS)=true then some (eqS d d) else none)=some b:=h
  split at h
  ·rename_i hs;simp only[Bool.and_self]at hs;rw[Yy d hs]at h;exact (jYe h).symm
  ·cases h
 | succ n ih =>
  have zip:∀(xs:List D) (b:Bool),yp (eqF n) xs xs=some b->b=true:=by
   intro xs
   induction xs with
   | nil=>intro b h;unfold yp at h;exact (jYe h).symm
   | cons x xs ihx =>
    intro b h;unfold yp at h;cases h1:eqF n x x with
    | none=>rw[h1]at h;cases h
    | some a =>
     cases h2:yp (eqF n) xs xs with
     | none=>rw[h1,h2]at h;cases h
     | some b' =>
      rw[h1,h2]at h;cases h;rw[ih x a h1,ihx b' h2];rfl
  intro d b h;cases d with
  | lst xs =>
   have h:(if xs.length=xs.length then yp (eqF n) xs xs else some false)=some b:=h;rw[if_pos rfl]at h;exact zip xs b h
  | tup xs =>
   have h:(yp (eqF n) xs xs).map (fun b=>b&&xs.length==xs.length)=some b:=h;cases h1:yp (eqF n) xs xs with
   | none=>rw[h1]at h;cases h
   | some b'=>rw[h1]at h;rw[zip xs b' h1]at h;simp at h;exact h.symm▸rfl
  | non=>have h:some true=some b:=h;exact (jYe h).symm
  | bl x=>have h:some (x==x)=some b:=h;exact (jYe h).symm.trans (beq_self_eq_true x)
  | int x=>have h:some (x==x)=some b:=h;exact (jYe h).symm.trans (beq_self_eq_true x)
  | str x=>have h:some (x==x)=some b:=h;exact (jYe h).symm.trans (beq_self_eq_true x)
  | dic _ _=>cases h
  | obj _ _ _=>cases h
  | frl xs =>
   have h:(if xs.length=xs.length then yp (eqF n) xs xs else some false)=some b:=h;rw[if_pos rfl]at h;exact zip xs b h
open SeqAt in
def jK {A:Around}{s:Shared}{a a':Addr}{b:Bool}(h:RcAt A s (.ref a) (.ref a') b)(hs:a=a'->b=true):EqAt A s (.ref a) (.ref a') b:=by
 by_cases z:a=a'
 ·subst z;rw[hs rfl];exact EqAt.same _
 ·exact EqAt.of_refs z h
open SeqAt in
def kq {X:Cx}{pins:List (Addr×Obj)}{σ:St}{H:Hp}{s:Shared}(I:Inv X pins σ H s){n:Nat}{A:Around}(hu0:A.units<cLine)
  (ih:∀(d1 d2:D) (v1 v2:V) (L1 L2:List Addr) (u1 u2:Value) (b:Bool),eqF n d1 d2=some b->Rep X.K H d1 v1 L1->Rep X.K H d2 v2 L2->RelV v1 u1->RelV v2 u2->EqAt A.in1 s u1 u2 b)
  {a a2:Addr} {vs vs2:List V} {xs ys:List D} {L L2:List Addr} {b:Bool} (ha:SqL X.K H a vs) (rs:Reps X.K H xs vs L) (ha2:SqL X.K H a2 vs2) (rs2:Reps X.K H ys vs2 L2)
  (h:(if xs.length=ys.length then yp (eqF n) xs ys else some false)=some b) (same:a=a2->b=true):RcAt A s (.ref a) (.ref a2) b/\EqAt A s (.ref a) (.ref a2) b/\RcNeAt A s (.ref a) (.ref a2) (!b):=by
 obtain⟨its,rv,pl,_⟩:=I.list ha;obtain⟨its2,rv2,pl2,_⟩:=I.list ha2;have l1:its.length=xs.length:=by rw[<-rv.length,rs.length]
 have l2:its2.length=ys.length:=by rw[<-rv2.length,rs2.length]
 by_cases hl:xs.length=ys.length
 ·rw[if_pos hl]at h;obtain⟨e1,e2⟩:=uj h;have he:∀j (h1:j<its.toArray.size) (h2:j<its2.toArray.size),EqAt A.in1 s its.toArray[j] its2.toArray[j] (v8 (eqF n) xs ys j):=fun j h1 h2=>by
   have h1':j<xs.length:=by simpa [l1] using h1
   have h2':j<ys.length:=by simpa [l2] using h2
   obtain⟨w1,L3,g1,g2,_⟩:=rs.get (i:=j) (d:=xs[j]) (by simp[h1']);obtain⟨w2,L4,g3,g4,_⟩:=rs2.get (i:=j) (d:=ys[j]) (by simp[h2']);obtain⟨z1,k1,k2⟩:=rv.get g1;obtain⟨z2,k3,k4⟩:=rv2.get g3;have m1:its.toArray[j]=z1:=by
    have:=(tV.mp k1).2
    simpa using this
   have m2:its2.toArray[j]=z2:=by
    have:=(tV.mp k3).2
    simpa using this
   rw[m1,m2];exact ih _ _ w1 w2 L3 L4 z1 z2 _ (e2 j _ _ (by simp[h1']) (by simp[h2'])) g2 g4 k2 k4
  have hsz:its.toArray.size=its2.toArray.size:=by simp[l1,l2,hl]
  have eb:b=(List.range its.toArray.size).all (v8 (eqF n) xs ys):=by
   rw[e1];congr 2;simp[l1,hl]
  have rc:=RcAt.lists pl.isList pl2.isList hsz hu0 he;have rn:=RcNeAt.lists pl.isList pl2.isList hsz hu0 he;rw[<-eb]at rc rn;exact⟨rc,jK rc same,rn⟩
 ·rw[if_neg hl]at h;cases h;have hsz:(its.toArray.size != its2.toArray.size)=true:=by simp[l1,l2,hl]
  have rc:=RcAt.lists_lengths pl.isList pl2.isList hsz hu0;exact⟨rc,jK rc same,RcNeAt.lists_lengths pl.isList pl2.isList hsz hu0⟩
open SeqAt in
def Vp {X:Cx}{pins:List (Addr×Obj)}{σ:St}{H:Hp}{s:Shared}(I:Inv X pins σ H s):∀(n:Nat) (A:Around) (d1 d2:D) (v1 v2:V) (L1 L2:List Addr) (u1 u2:Value) (b:Bool),A.units+n<cLine->eqF n d1 d2=some b ->
  Rep X.K H d1 v1 L1->Rep X.K H d2 v2 L2->RelV v1 u1->RelV v2 u2->RcAt A s u1 u2 b/\EqAt A s u1 u2 b/\RcNeAt A s u1 u2 (!b):=by
 intro n
 induction n with
 | zero =>
  intro A d1 d2 v1 v2 L1 L2 u1 u2 b hu h r1 r2 q1 q2;have h:(if (d1.isS&&d2.isS)=true then some (eqS d1 d2) else none)=some b:=h;split at h
  ·rename_i hs;rw[sR]at hs;cases h;exact ZZ hs.1 hs.2 r1 r2 q1 q2
  ·cases h
 | succ n ih =>
  intro A d1 d2 v1 v2 L1 L2 u1 u2 b hu h r1 r2 q1 q2;have hu0:A.units<cLine:=by lia
  have hu1:A.in1.units+n<cLine:=by show A.units+1+n<cLine;lia
  have same:∀a,v1=.ref a->v2=.ref a->b=true:=fun a e1 e2=>by
   subst e1 e2;have:=Rep.one I d1 d2 _ _ _ r1 r2;subst this;exact QU (n+1) d1 b h
  by_cases s1:d1.isS=true
  ·by_cases s2:d2.isS=true
   ·have e:b=eqS d1 d2:=by
     cases d1<;>first|exact absurd s1 tX|(cases d2<;>first|exact absurd s2 tX|exact (jYe h).symm)
    subst e;exact ZZ s1 s2 r1 r2 q1 q2
   ·cases d2 with
    | lst ys =>
     have e:b=false:=by cases d1<;>first|exact absurd s1 tX|exact (jYe h).symm
     subst e;obtain⟨a,vs,L',e2,ha,_,rs⟩:=r2;have q2:u2=Value.ref a:=by rw[e2]at q2;exact q2
     rw[q2];obtain⟨its,rv,pl,_⟩:=I.list (SqL.of ha);exact (Yr s1 r1 q1 pl.isList hu0).2
    | tup ys =>
     have e:b=false:=by cases d1<;>first|exact absurd s1 tX|exact (jYe h).symm
     subst e;obtain⟨a,vs,e2,ha,rs⟩:=r2;have q2:u2=Value.ref a:=by rw[e2]at q2;exact q2
     rw[q2];obtain⟨its,rv,pl,_⟩:=I.tuple ha;exact (Yn s1 r1 q1 pl hu0).2
    | dic _ _=>cases d1<;>first | exact absurd s1 tX | exact (vK (b:=b) h).elim
    | frl _=>cases d1<;>first | exact absurd s1 tX | exact (vK (b:=b) h).elim
    | obj _ _ _=>cases d1<;>first | exact absurd s1 tX | exact (vK (b:=b) h).elim
    | _=>exact absurd rfl s2
  ·cases d1 with
   | lst xs =>
    obtain⟨a,vs,L',e1,ha,_,rs⟩:=r1;have q1:u1=Value.ref a:=by rw[e1]at q1;exact q1
    rw[q1];obtain⟨its,rv,pl,_⟩:=I.list (SqL.of ha);cases d2 with
    | lst ys =>
     obtain⟨a2,vs2,L2',e2,ha2,_,rs2⟩:=r2;have q2:u2=Value.ref a2:=by rw[e2]at q2;exact q2
     rw[q2];exact kq I hu0 (fun d1 d2 v1 v2 L1 L2 u1 u2 b e r1 r2 q1 q2=>(ih A.in1 d1 d2 v1 v2 L1 L2 u1 u2 b hu1 e r1 r2 q1 q2).2.1) (SqL.of ha) rs (SqL.of ha2) rs2 h fun z=>same a e1 (by rw[z];exact e2)
    | tup ys =>
     obtain⟨a2,vs2,e2,ha2,rs2⟩:=r2;have q2:u2=Value.ref a2:=by rw[e2]at q2;exact q2
     rw[q2];obtain⟨its2,rv2,pl2,_⟩:=I.tuple ha2;cases (jYe (show some false=some b from h));exact⟨RcAt.list_tuple pl.isList pl2 hu0,EqAt.list_tuple pl.isList pl2 hu0,RcNeAt.list_tuple pl.isList pl2 hu0⟩
    | dic _ _=>exact (vK (b:=b) h).elim
    | frl _=>exact (vK (b:=b) h).elim
    | obj _ _ _=>exact (vK (b:=b) h).elim
    | non=>cases (jYe (show some false=some b from h));exact (Yr (d:=.non) rfl r2 q2 pl.isList hu0).1
    | bl x=>cases (jYe (show some false=some b from h));exact (Yr (d:=.bl x) rfl r2 q2 pl.isList hu0).1
    | int x=>cases (jYe (show some false=some b from h));exact (Yr (d:=.int x) rfl r2 q2 pl.isList hu0).1
    | str x=>cases (jYe (show some false=some b from h));exact (Yr (d:=.str x) rfl r2 q2 pl.isList hu0).1
   | tup xs =>
    obtain⟨a,vs,e1,ha,rs⟩:=r1;have q1:u1=Value.ref a:=by rw[e1]at q1;exact q1
    rw[q1];obtain⟨its,rv,pl,_⟩:=I.tuple ha;cases d2 with
    | tup ys =>
     obtain⟨a2,vs2,e2,ha2,rs2⟩:=r2;have q2:u2=Value.ref a2:=by rw[e2]at q2;exact q2
     rw[q2];obtain⟨its2,rv2,pl2,_⟩:=I.tuple ha2;have h:(yp (eqF n) xs ys).map (fun b=>b&&xs.length==ys.length)=some b:=h;have l1:its.length=xs.length:=by rw[<-rv.length,rs.length]
     have l2:its2.length=ys.length:=by rw[<-rv2.length,rs2.length]
     cases hz:yp (eqF n) xs ys with
     | none=>rw[hz]at h;cases h
     | some b' =>
      rw[hz]at h;have h:(b'&&xs.length==ys.length)=b:=jYe h;have e1':=e1;have e2':=e2;obtain⟨e1,e2⟩:=uj hz;have he:∀j (h1:j<its.toArray.size) (h2:j<its2.toArray.size),EqAt A.in1 s its.toArray[j] its2.toArray[j] (v8 (eqF n) xs ys j):=fun j h1 h2=>by
       have h1':j<xs.length:=by simpa [l1] using h1
       have h2':j<ys.length:=by simpa [l2] using h2
       obtain⟨w1,L3,g1,g2,_⟩:=rs.get (i:=j) (d:=xs[j]) (by simp[h1']);obtain⟨w2,L4,g3,g4,_⟩:=rs2.get (i:=j) (d:=ys[j]) (by simp[h2']);obtain⟨z1,k1,k2⟩:=rv.get g1;obtain⟨z2,k3,k4⟩:=rv2.get g3;have m1:its.toArray[j]=z1:=by
        have:=(tV.mp k1).2
        simpa using this
       have m2:its2.toArray[j]=z2:=by
        have:=(tV.mp k3).2
        simpa using this
       rw[m1,m2];exact (ih A.in1 _ _ w1 w2 L3 L4 z1 z2 _ hu1 (e2 j _ _ (by simp[h1']) (by simp[h2'])) g2 g4 k2 k4).2.1
      have eb:b=((List.range (min its.toArray.size its2.toArray.size)).all (v8 (eqF n) xs ys)&&its.toArray.size==its2.toArray.size):=by
       rw[<-h,e1];simp[l1,l2]
      have rc:=RcAt.tuples pl pl2 hu0 he;have rn:=RcNeAt.tuples pl pl2 hu0 he;rw[<-eb]at rc rn;exact⟨rc,jK rc fun z=>same a e1' (by rw[z];exact e2'),rn⟩
    | lst ys =>
     obtain⟨a2,vs2,L2',e2,ha2,_,rs2⟩:=r2;have q2:u2=Value.ref a2:=by rw[e2]at q2;exact q2
     rw[q2];obtain⟨its2,rv2,pl2,_⟩:=I.list (SqL.of ha2);cases (jYe (show some false=some b from h));exact⟨RcAt.tuple_list pl pl2.isList hu0,EqAt.tuple_list pl pl2.isList hu0,RcNeAt.tuple_list pl pl2.isList hu0⟩
    | dic _ _=>exact (vK (b:=b) h).elim
    | frl _=>exact (vK (b:=b) h).elim
    | obj _ _ _=>exact (vK (b:=b) h).elim
    | non=>cases (jYe (show some false=some b from h));exact (Yn (d:=.non) rfl r2 q2 pl hu0).1
    | bl x=>cases (jYe (show some false=some b from h));exact (Yn (d:=.bl x) rfl r2 q2 pl hu0).1
    | int x=>cases (jYe (show some false=some b from h));exact (Yn (d:=.int x) rfl r2 q2 pl hu0).1
    | str x=>cases (jYe (show some false=some b from h));exact (Yn (d:=.str x) rfl r2 q2 pl hu0).1
   | dic _ _=>cases d2<;>exact (vK (b:=b) h).elim
   | obj _ _ _=>cases d2<;>exact (vK (b:=b) h).elim
   | frl xs =>
    cases d2 with
    | lst ys =>
     obtain⟨a,vs,e1,ha,_,_,rs⟩:=r1;have q1:u1=Value.ref a:=by rw[e1]at q1;exact q1
     rw[q1];obtain⟨a2,vs2,L2',e2,ha2,_,rs2⟩:=r2;have q2:u2=Value.ref a2:=by rw[e2]at q2;exact q2
     rw[q2];exact kq I hu0 (fun d1 d2 v1 v2 L1 L2 u1 u2 b e r1 r2 q1 q2=>(ih A.in1 d1 d2 v1 v2 L1 L2 u1 u2 b hu1 e r1 r2 q1 q2).2.1) ha.sq rs (SqL.of ha2) rs2 h fun z=>same a e1 (by rw[z];exact e2)
    | tup ys=>exact (vK (b:=b) h).elim
    | dic _ _=>exact (vK (b:=b) h).elim
    | obj _ _ _=>exact (vK (b:=b) h).elim
    | frl ys =>
     obtain⟨a,vs,e1,ha,_,_,rs⟩:=r1;have q1:u1=Value.ref a:=by rw[e1]at q1;exact q1
     rw[q1];obtain⟨a2,vs2,e2,ha2,_,_,rs2⟩:=r2;have q2:u2=Value.ref a2:=by rw[e2]at q2;exact q2
     rw[q2];exact kq I hu0 (fun d1 d2 v1 v2 L1 L2 u1 u2 b e r1 r2 q1 q2=>(ih A.in1 d1 d2 v1 v2 L1 L2 u1 u2 b hu1 e r1 r2 q1 q2).2.1) ha.sq rs ha2.sq rs2 h fun z=>same a e1 (by rw[z];exact e2)
    | non=>exact (vK (b:=b) h).elim
    | bl x=>exact (vK (b:=b) h).elim
    | int x=>exact (vK (b:=b) h).elim
    | str x=>exact (vK (b:=b) h).elim
   | _=>exact absurd rfl s1
def yw {K:jJa}{H:Hp}{ds:List D}{vs:List V}{L:List Addr}(r:Reps K H ds vs L)(h:D.imms ds=true):Reps K H ds vs []:=by
 have:=Reps.imm ds vs L r h;subst this;exact r
theorem j0:∀(xs ys:List D),D.imms (xs++ys)=(D.imms xs&&D.imms ys)
 | [],ys=>by simp[D.imms]
 | x::xs,ys=>by simp[D.imms,j0 xs ys,Bool.and_assoc]
def uc {K:jJa}{H:Hp}{ds:List D}{vs:List V}{p:Addr}{Q:VK}(r:Reps K H ds vs [])(hp:H p=none)(q:∀v H' L,Same H H'->Rep K H' (.lst ds) v L->L.Nodup->(∀a∈L,H a=none)->Q v H'):Q (.ref p) (upd H p (.lst vs)):=
 q _ _ [p] (Same.new hp) ⟨p,vs,[],rfl,zu,rfl,r.same (Same.new hp)⟩ (by simp) (fun a ha=>by rw[sX.mp ha];exact hp)
def zI:D->D->R D
 | .int i,.int j=>.ok (.int (i+j))
 | .str x,.str y=>if x.length+y.length<=sizeLine then .ok (.str (x++y)) else .bad
 | .lst xs,.lst ys=>if D.imms xs=true/\D.imms ys=true/\xs.length+ys.length<=sizeLine then .ok (.lst (xs++ys)) else .bad
 | .tup xs,.tup ys=>if D.imms xs=true/\D.imms ys=true/\xs≠[]/\xs.length+ys.length<=sizeLine then .ok (.tup (xs++ys)) else .bad
 | _,_=>.bad
def z05 (K:jJa):R2:=fun x y H Q=>(∃i j,x=.int i/\y=.int j/\Q (.int (i+j)) H)\/(∃i j,x=.str i/\y=.str j/\i.length+j.length<=sizeLine/\Q (.str (i++j)) H)\/z2u x y H Q\/z04 K x y H Q
def zD {X:Cx}:OpR X (binaryOp .Add) (z05 X.K):=(OpR.or z1t (OpR.or XH (OpR.or z16 Kp)))
def zW {K:jJa}:OpB K (z05 K) zI:=by
 rintro H x y dx dy Lx Ly Q rx ry ⟨d,hg,q⟩;unfold zI at hg;split at hg
 ·cases hg;exact .inl ⟨_,_,rx.1,ry.1,q _ H [] (Same.refl H) ⟨rfl,rfl⟩ (by simp) (fun a ha=>nomatch ha)⟩
 ·split at hg
  ·rename_i hz;cases hg;exact .inr (.inl ⟨_,_,rx.1,ry.1,hz,q _ H [] (Same.refl H) ⟨rfl,rfl⟩ (by simp) (fun a ha=>nomatch ha)⟩)
  ·cases hg
 ·rename_i xs ys;split at hg
  ·rename_i hz;cases hg;obtain⟨a,vs,L1,rfl,ha,_,rs⟩:=rx;obtain⟨b,ws,L2,rfl,hb,_,qs⟩:=ry;refine .inr (.inr (.inl ⟨a,b,vs,ws,rfl,rfl,ha,hb,by rw[rs.length,qs.length];exact hz.2.2,fun p hp=>uc (ds:=xs++ys) ?_ hp q⟩));exact Reps.append (yw rs hz.1) (yw qs hz.2.1)
  ·cases hg
 ·rename_i xs ys;split at hg
  ·rename_i hz;cases hg;obtain⟨a,vs,rfl,ha,rs⟩:=rx;obtain⟨b,ws,rfl,hb,qs⟩:=ry;have hne:vs≠[]:=fun z=>hz.2.2.1 (by have:=rs.length;rw[z]at this;exact List.length_eq_zero_iff.mp this.symm);have rr:=Reps.append (yw rs hz.1) (yw qs hz.2.1);refine .inr (.inr (.inr ⟨a,b,vs,ws,rfl,rfl,ha,hb,hne,by rw[rs.length,qs.length];exact hz.2.2.2,fun z=>?_,fun _ p hp=>?_⟩))
   ·subst z;rw[tY]at rr;exact q _ H [] (Same.refl H) ⟨a,vs,rfl,ha,rr⟩ (by simp) (fun a ha=>nomatch ha)
   ·exact q _ _ [] (Same.new hp) ⟨p,vs++ws,rfl,SqT.of zu,rr.same (Same.new hp)⟩ (by simp) (fun a ha=>nomatch ha)
  ·cases hg
 ·cases hg
def zV:wG zI:=fun x y n h=>by
 unfold zI at h;split at h
 ·cases h
 ·split at h<;>cases h
 ·split at h<;>cases h
 ·split at h<;>cases h
 ·cases h
def intD (C:Int->Int->Bool)(g:Int->Int->D):D->D->R D
 | .int i,.int j=>if C i j=true then .ok (g i j) else .bad
 | _,_=>.bad
def zz {C:Int->Int->Bool}{g:Int->Int->D}:wG (intD C g):=fun x y n h=>by
 unfold intD at h;split at h
 ·split at h<;>cases h
 ·cases h
def z0T:D->V
 | .int i=>.int i
 | .bl b=>.bl b
 | .str x=>.str x
 | _=>.non
def YK {K:jJa}{H:Hp}:∀ {d:D},d.isS=true->Rep K H d (z0T d) []
 | .non,_=>⟨rfl,rfl⟩
 | .bl _,_=>⟨rfl,rfl⟩
 | .int _,_=>⟨rfl,rfl⟩
 | .str _,_=>⟨rfl,rfl⟩
 | .tup _,h=>nomatch h
 | .lst _,h=>nomatch h
 | .dic _ _,h=>nomatch h
 | .frl _,h=>nomatch h
 | .obj _ _ _,h=>nomatch h
def z0w {K:jJa}{C:Int->Int->Bool}{g:Int->Int->D}{P:Int->Int->Prop}{gv:Int->Int->V}(hP:∀i j,C i j=true->P i j)(hs:∀i j,(g i j).isS=true)(hv:∀i j,z0T (g i j)=gv i j):OpB K (rI P gv) (intD C g):=by
 rintro H x y dx dy Lx Ly Q rx ry ⟨d,hg,q⟩;unfold intD at hg;split at hg
 ·split at hg
  ·rename_i i j hz;cases hg;refine⟨i,j,rx.1,ry.1,hP i j hz,?_⟩;rw[<-hv];exact q _ H [] (Same.refl H) (YK (hs i j)) (by simp) (fun a ha=>nomatch ha)
  ·cases hg
 ·cases hg
def Xz {K:jJa}{g:Int->Int->D}{gv:Int->Int->V}(hs:∀i j,(g i j).isS=true)(hv:∀i j,z0T (g i j)=gv i j):OpB K (rI0 gv) (intD (fun _ _=>true) g):=by
 rintro H x y dx dy Lx Ly Q rx ry ⟨d,hg,q⟩;unfold intD at hg;split at hg
 ·rw[if_pos rfl]at hg;rename_i i j;cases hg;refine⟨i,j,rx.1,ry.1,?_⟩;rw[<-hv];exact q _ H [] (Same.refl H) (YK (hs i j)) (by simp) (fun a ha=>nomatch ha)
 ·cases hg
abbrev yB:D->D->R D:=intD (fun _ _=>true) fun i j=>.int (i-j)
abbrev yx:D->D->R D:=intD (fun _ j=>decide (0<j)&&decide (j<1073741824)) fun i j=>.int (i/j)
abbrev yf:D->D->R D:=intD (fun _ j=>decide (0<j)) fun i j=>.int (i%j)
abbrev ltD:D->D->R D:=intD (fun _ _=>true) fun i j=>.bl (decide (i<j))
abbrev gtD:D->D->R D:=intD (fun _ _=>true) fun i j=>.bl (decide (j<i))
def xU {K:jJa}:OpB K (rI0 fun i j=>.int (i-j)) yB:=Xz (fun _ _=>rfl) fun _ _=>rfl
def xO {K:jJa}:OpB K (rI z3h fun i j=>.int (i/j)) yx:=z0w (fun i j h=>by simp only[sR,decide_eq_true_eq]at h;exact h) (fun _ _=>rfl) fun _ _=>rfl
def yW {K:jJa}:OpB K (rI (fun _ j=>0<j) fun i j=>.int (i%j)) yf:=z0w (fun i j h=>by simpa using h) (fun _ _=>rfl) fun _ _=>rfl
def XZ {K:jJa}:OpB K (rI0 fun i j=>.bl (decide (i<j))) ltD:=Xz (fun _ _=>rfl) fun _ _=>rfl
def jz {K:jJa}:OpB K (rI0 fun i j=>.bl (decide (j<i))) gtD:=Xz (fun _ _=>rfl) fun _ _=>rfl
def xp:D->D->R D
 | .int i,.int j=>if ((decide (-(2 ^ 64)<i)&&decide (i<2 ^ 64))||(decide (-(2 ^ 64)<j)&&decide (j<2 ^ 64)))=true then .ok (.int (i*j)) else .bad
 | .lst xs,.int k=>if D.imms xs=true/\-(2 ^ 63)<=k/\k<2 ^ 63/\xs.length*k.toNat<=sizeLine then .ok (.lst (List.replicate k.toNat xs).flatten) else .bad
 | _,_=>.bad
def uB:wG xp:=fun x y n h=>by
 unfold xp at h;split at h
 ·split at h<;>cases h
 ·split at h<;>cases h
 ·cases h
def wc {X:Cx}:OpR X (binaryOp .Mult) (fun x y H Q=>rI CMul (fun i j=>.int (i*j)) x y H Q\/VO x y H Q):=OpR.or z0S Q9
theorem Reps.rep {K:jJa}{H:Hp}{ds:List D}{vs:List V}(r:Reps K H ds vs []):∀k:Nat,Reps K H (List.replicate k ds).flatten (List.replicate k vs).flatten []
 | 0=>by simpa using Reps.nil
 | k+1=>by
  rw[tO,tO,rY,rY];exact Reps.append r (Reps.rep r k)
def uE {K:jJa}:OpB K (fun x y H Q=>rI CMul (fun i j=>.int (i*j)) x y H Q\/VO x y H Q) xp:=by
 rintro H x y dx dy Lx Ly Q rx ry ⟨d,hg,q⟩;unfold xp at hg;split at hg
 ·split at hg
  ·rename_i i j hz;cases hg;refine .inl ⟨i,j,rx.1,ry.1,?_,q _ H [] (Same.refl H) ⟨rfl,rfl⟩ (by simp) (fun a ha=>nomatch ha)⟩
   simpa [CMul] using hz
  ·cases hg
 ·split at hg
  ·rename_i xs k hz;cases hg;obtain⟨a,vs,L1,rfl,ha,_,rs⟩:=rx;exact .inr ⟨a,k,vs,rfl,ry.1,ha,hz.2.1,hz.2.2.1,by rw[rs.length];exact hz.2.2.2,fun p hp=>uc (Reps.rep (yw rs hz.1) _) hp q⟩
  ·cases hg
 ·cases hg
def Q8 (K:jJa)(neg:Bool):R2:=fun x y H Q=>∃dx dy Lx Ly b,Rep K H dx x Lx/\Rep K H dy y Ly/\eqF 12 dx dy=some b/\Q (.bl (if neg=true then !b else b)) H
def z0E {X:Cx}(hu:X.A.units+12<cLine):OpR X (compareOp .Eq) (Q8 X.K false):=by
 rintro pins s σ H x y v u Q I rx ry ⟨dx,dy,Lx,Ly,b,r1,r2,he,q⟩;exact (Vp I 12 X.A dx dy x y Lx Ly v u b hu he r1 r2 rx ry).1 X.prog X.w X.xe _ ⟨.bl b,H,I,rfl,q⟩
def z1L {X:Cx}(hu:X.A.units+12<cLine):OpR X (compareOp .NotEq) (Q8 X.K true):=by
 rintro pins s σ H x y v u Q I rx ry ⟨dx,dy,Lx,Ly,b,r1,r2,he,q⟩;exact (Vp I 12 X.A dx dy x y Lx Ly v u b hu he r1 r2 rx ry).2.2 X.prog X.w X.xe _ ⟨.bl (!b),H,I,rfl,q⟩
def xk:List Key->List D->Key->Option D
 | k::ks,d::ds,j=>if k=j then some d else xk ks ds j
 | _,_,_=>none
def hitsD (js:List Key)(ys:List D):List Key->List D->Option Bool
 | k::ks,x::xs=>match xk js ys k with
  | none=>some false
  | some y=>if (x.isS&&y.isS)=true then (hitsD js ys ks xs).map (eqS x y&&·) else none
 | _,_=>some true
theorem qE {K:jJa}{H:Hp}:∀ {kvs:List (Key×V)} {ds:List D} {L:List Addr} {k:Key} {d:D},Reps K H ds (kvs.map (·.2)) L->xk (kvs.map (·.1)) ds k=some d->∃v L1,jg kvs k=some v/\Rep K H d v L1/\List.Sublist L1 L
 | [],ds,_,k,d,r,h=>by cases ds<;>cases h
 | p::kvs,[],_,k,d,r,h=>by obtain⟨e,_⟩:=r;cases e
 | p::kvs,d0::ds,_,k,d,hq5,h=>by
  obtain⟨v,vs',L1,L2,e1,e2,r1,r2⟩:=hq5;subst e2;rw[tG]at e1;cases e1;rw[tG]at h;unfold xk at h
  by_cases hk:p.1=k
  ·rw[if_pos hk]at h;cases h;exact⟨p.2,L1,jA hk,r1,gA _ _⟩
  ·rw[if_neg hk]at h;obtain⟨v,L',a,b,c⟩:=qE r2 h;exact⟨v,L',by rw[qo hk];exact a,b,c.trans (rQ _ _)⟩
theorem Zc {K:jJa}{H:Hp}:∀ {kvs:List (Key×V)} {ds:List D} {L:List Addr} {k:Key},Reps K H ds (kvs.map (·.2)) L->xk (kvs.map (·.1)) ds k=none->jg kvs k=none
 | [],ds,_,k,r,h=>rfl
 | p::kvs,[],_,k,r,h=>by obtain⟨e,_⟩:=r;cases e
 | p::kvs,d0::ds,_,k,hq4,h=>by
  obtain⟨v,vs',L1,L2,e1,e2,r1,r2⟩:=hq4;subst e2;rw[tG]at e1;cases e1;rw[tG]at h;unfold xk at h
  by_cases hk:p.1=k
  ·rw[if_pos hk]at h;cases h
  ·rw[if_neg hk]at h;rw[qo hk];exact Zc r2 h
def ZS {K:jJa}{H:Hp}{A:Around}{s:Shared}{kvb:List (Key×V)}{vb:List (Key×Value)}{ys:List D}{Lb:List Addr}(rb:KV kvb vb)(qb:Reps K H ys (kvb.map (·.2)) Lb):
  ∀ {kva:List (Key×V)} {va:List (Key×Value)} {xs:List D} {La:List Addr} {b:Bool},KV kva va->Reps K H xs (kva.map (·.2)) La->hitsD (kvb.map (·.1)) ys (kva.map (·.1)) xs=some b->PySem.W.KeqHits A s vb va b:=by
 intro kva va xs La b ra
 induction ra generalizing xs La b with
 | nil =>
  intro r h;cases xs with
  | nil=>cases h;exact .nil
  | cons _ _=>obtain⟨_,_,_,_,e,_⟩:=r;cases e
 | @cons p q l1 l2 h1 _ ih =>
  intro r h;cases xs with
  | nil=>obtain⟨e,_⟩:=r;cases e
  | cons x xs =>
   obtain⟨v,vs',L1,L2,e1,e2,r1,r2⟩:=r;rw[tG]at e1;cases e1;rw[tG]at h;unfold hitsD at h;have ek:q.1=p.1:=h1.1.symm;have hv:=rb.val p.1;cases hl:xk (kvb.map (·.1)) ys p.1 with
   | none =>
    rw[hl]at h;cases h;rw[Zc qb hl]at hv;have:valueAt vb q.1=none:=by
     rw[ek];cases hq:valueAt vb p.1 with
     | none=>rfl
     | some y=>rw[hq]at hv;exact hv.elim
    exact PySem.W.KeqHits.miss (k:=q.1) (v:=q.2) this
   | some y =>
    rw[hl]at h;dsimp only at h;split at h
    ·rename_i hs;rw[sR]at hs;cases hr:hitsD (kvb.map (·.1)) ys (l1.map (·.1)) xs with
     | none=>rw[hr]at h;cases h
     | some b' =>
      rw[hr]at h;have h:(eqS x y&&b')=b:=jYe h;obtain⟨w,Lw,g1,g2,_⟩:=qE qb hl;rw[g1]at hv;obtain⟨yv,hy,ry⟩:=RelO.some_of (v:=w) (o:=valueAt vb p.1) hv;rw[<-h];exact PySem.W.KeqHits.hit (k:=q.1) (v:=q.2) (by rw[ek];exact hy) (ZZ (A:=A) (s:=s) hs.1 hs.2 r1 g2 h1.2 ry).2.1 (ih r2 hr)
    ·cases h
def Ys (K:jJa)(neg:Bool):R2:=fun x y H Q=>∃a b kva kvb xs ys La Lb r,x=.ref a/\y=.ref b/\Rd H a (.dK kva)/\Rd H b (.dK kvb)/\Reps K H xs (kva.map (·.2)) La/\Reps K H ys (kvb.map (·.2)) Lb /\
 (kva.length=kvb.length->hitsD (kvb.map (·.1)) ys (kva.map (·.1)) xs=some r)/\Q (.bl (if neg=true then !(kva.length==kvb.length&&r) else (kva.length==kvb.length&&r))) H
def JW {X:Cx}(hu:X.A.units<cLine):OpR X (compareOp .Eq) (Ys X.K false):=by
 rintro pins s σ H x y v u Q I rx ry ⟨a,b,kva,kvb,xs,ys,La,Lb,r,e1,e2,ha,hb,qa,qb,hh,q⟩;subst e1 e2;obtain rfl:v=Value.ref a:=rx;obtain rfl:u=Value.ref b:=ry;obtain⟨_,da,va,ra,oa⟩:=uZ I.hok ha;obtain⟨_,db,vb,rb,ob⟩:=uZ I.hok hb;have l1:va.length=kva.length:=ra.length.symm;have l2:vb.length=kvb.length:=rb.length.symm;refine jJz (r:=r) da db oa ob hu (fun e=>ZS rb qb ra qa (hh (by lia))) ?_;rw[l1,l2];exact⟨.bl _,H,I,rfl,q⟩
def KH {X:Cx}(hu:X.A.units<cLine):OpR X (compareOp .NotEq) (Ys X.K true):=by
 rintro pins s σ H x y v u Q I rx ry ⟨a,b,kva,kvb,xs,ys,La,Lb,r,e1,e2,ha,hb,qa,qb,hh,q⟩;subst e1 e2;obtain rfl:v=Value.ref a:=rx;obtain rfl:u=Value.ref b:=ry;obtain⟨_,da,va,ra,oa⟩:=uZ I.hok ha;obtain⟨_,db,vb,rb,ob⟩:=uZ I.hok hb;have l1:va.length=kva.length:=ra.length.symm;have l2:vb.length=kvb.length:=rb.length.symm;refine PySem.W.keq_ne (r:=r) da db oa ob hu (fun e=>ZS rb qb ra qa (hh (by lia))) ?_;rw[l1,l2];exact⟨.bl _,H,I,rfl,q⟩
def uX (ks:List Key)(xs:List D)(js:List Key)(ys:List D):Option Bool:=if ks.length=js.length then hitsD js ys ks xs else some false
def eqR (neg:Bool):D->D->R D
 | .dic ks xs,.dic js ys=>match uX ks xs js ys with
  | some b=>.ok (.bl (if neg=true then !b else b))
  | none=>.bad
 | x,y=>match eqF 12 x y with
  | some b=>.ok (.bl (if neg=true then !b else b))
  | none=>.bad
def vd {neg:Bool}:wG (eqR neg):=fun x y n h=>by
 unfold eqR at h;split at h
 ·split at h<;>cases h
 ·split at h<;>cases h
def vf {K:jJa}{neg:Bool}:OpB K (fun x y H Q=>Q8 K neg x y H Q\/Ys K neg x y H Q) (eqR neg):=by
 rintro H x y dx dy Lx Ly Q rx ry ⟨d,hg,q⟩;unfold eqR at hg;split at hg
 ·rename_i ks xs js ys;obtain⟨a,kva,L1,rfl,ha,_,hk,_,rs⟩:=rx;obtain⟨b,kvb,L2,rfl,hb,_,hj,_,qs⟩:=ry;have l1:ks.length=kva.length:=by rw[<-hk,tM]
  have l2:js.length=kvb.length:=by rw[<-hj,tM]
  unfold uX at hg
  by_cases hl:ks.length=js.length
  ·rw[if_pos hl]at hg;cases hr:hitsD js ys ks xs with
   | none=>rw[hr]at hg;cases hg
   | some r =>
    rw[hr]at hg;cases hg;refine .inr ⟨a,b,kva,kvb,xs,ys,_,_,r,rfl,rfl,.inl ha,.inl hb,rs,qs,fun _=>by rw[hk,hj];exact hr,?_⟩;have e:(kva.length==kvb.length&&r)=r:=by
     have:(kva.length==kvb.length)=true:=by simp;lia
     rw[this,pH]
    rw[e];exact q _ H [] (Same.refl H) ⟨rfl,rfl⟩ (by simp) (fun a ha=>nomatch ha)
  ·rw[if_neg hl]at hg;cases hg;refine .inr ⟨a,b,kva,kvb,xs,ys,_,_,false,rfl,rfl,.inl ha,.inl hb,rs,qs,fun z=>absurd z (by lia),?_⟩;rw[Bool.and_false];exact q _ H [] (Same.refl H) ⟨rfl,rfl⟩ (by simp) (fun a ha=>nomatch ha)
 ·split at hg
  ·rename_i b hb;cases hg;exact .inl ⟨dx,dy,Lx,Ly,b,rx,ry,hb,q _ H [] (Same.refl H) ⟨rfl,rfl⟩ (by simp) (fun a ha=>nomatch ha)⟩
  ·cases hg
def yN {X:Cx}(hu:X.A.units+12<cLine):OpR X (compareOp .Eq) (fun x y H Q=>Q8 X.K false x y H Q\/Ys X.K false x y H Q):=OpR.or (z0E hu) (JW (by lia))
def we {X:Cx}(hu:X.A.units+12<cLine):OpR X (compareOp .NotEq) (fun x y H Q=>Q8 X.K true x y H Q\/Ys X.K true x y H Q):=OpR.or (z1L hu) (KH (by lia))
def W5:D->Bool
 | .non=>true
 | _=>false
def isN (neg:Bool):D->D->R D
 | x,.non=>.ok (.bl (if neg=true then !W5 x else W5 x))
 | _,_=>.bad
def z0a {neg:Bool}:wG (isN neg):=fun x y n h=>by
 unfold isN at h;split at h<;>cases h
def K3 {K:jJa}{H:Hp}{d:D}{v:V}{L:List Addr}(r:Rep K H d v L):decide (v=V.non)=W5 d:=by
 cases d with
 | non=>obtain⟨rfl,_⟩:=r;rfl
 | bl b=>obtain⟨rfl,_⟩:=r;rfl
 | int b=>obtain⟨rfl,_⟩:=r;rfl
 | str b=>obtain⟨rfl,_⟩:=r;rfl
 | tup _=>obtain⟨_,_,rfl,_⟩:=r;rfl
 | lst _=>obtain⟨_,_,_,rfl,_⟩:=r;rfl
 | dic _ _=>obtain⟨_,_,_,rfl,_⟩:=r;rfl
 | frl _=>obtain⟨_,_,rfl,_⟩:=r;rfl
 | obj _ _ _=>obtain⟨_,_,_,rfl,_⟩:=r;rfl
def Qx {K:jJa}:OpB K (fun x y H Q=>y=.non/\Q (.bl (!decide (x=.non))) H) (isN true):=by
 rintro H x y dx dy Lx Ly Q rx ry ⟨d,hg,q⟩;unfold isN at hg;split at hg
 ·cases hg;refine⟨ry.1,?_⟩;rw[K3 rx];exact q _ H [] (Same.refl H) ⟨rfl,rfl⟩ (by simp) (fun a ha=>nomatch ha)
 ·cases hg
def Xj:D->Option Key
 | .int i=>some (.inl i)
 | .str x=>some (.inr x)
 | .non=>some .non
 | _=>none
def ixD:D->D->R D
 | .lst ds,.int i=>match atI ds i with
  | some d=>.ok d
  | none=>.bad
 | .tup ds,.int i=>match atI ds i with
  | some d=>.ok d
  | none=>.bad
 | .frl ds,.int i=>match atI ds i with
  | some d=>.ok d
  | none=>.bad
 | .str x,.int i=>if x.length<=sizeLine then (match atI x.cps.toList i with
  | some c=>.ok (.str ⟨#[c]⟩)
  | none=>.bad) else .bad
 | .dic ks ds,k=>match Xj k with
  | some k=>(match xk ks ds k with
   | some d=>.ok d
   | none=>.bad)
  | none=>.bad
 | _,_=>.bad
def z3E:wG ixD:=fun x y n h=>by
 unfold ixD at h;split at h
 ·split at h<;>cases h
 ·split at h<;>cases h
 ·split at h<;>cases h
 ·split at h
  ·split at h<;>cases h
  ·cases h
 ·split at h
  ·split at h<;>cases h
  ·cases h
 ·cases h
def Z0 {K:jJa}{H:Hp}{d:D}{v:V}{L:List Addr}{k:Key}(h:Xj d=some k)(r:Rep K H d v L):v=kV k:=by
 cases d with
 | non=>cases h;exact r.1
 | int i=>cases h;exact r.1
 | str x=>cases h;exact r.1
 | _=>cases h
theorem Reps.atI {K:jJa}{H:Hp}{ds:List D}{vs:List V}{L:List Addr}{i:Int}{d:D}(r:Reps K H ds vs L)(h:L2.atI ds i=some d):∃v L1,L2.atI vs i=some v/\Rep K H d v L1/\List.Sublist L1 L:=by
 unfold L2.atI at h ⊢;rw[r.length];cases e:ixN ds.length i with
 | none=>rw[e]at h;cases h
 | some j =>
  rw[e]at h;obtain⟨v,L1,a,b,c⟩:=r.get h;exact⟨v,L1,a,b,c⟩
section
variable {X:Cx}{E:XK}{Γ:List Cl}{e a b:Expr}{es:List Expr}{t ta tb:Tn->R D}{u:Tn->R (List D)}{c ca cb:Rc}{pos p p2:Pos}
theorem RcOk.sub {O:Addr->Prop}{H:Hp}{L L':List Addr}(h:RcOk c O H L)(s:List.Sublist L' L):RcOk c O H L':=by
 cases c with
 | fresh=>exact⟨h.1.sublist s,fun a ha=>h.2 a (s.subset ha)⟩
 | shr=>exact fun a ha=>h a (s.subset ha)
 | bor=>trivial
theorem post.bind2 {K:jJa}{O:Addr->Prop}{H H1:Hp}{Q Q':VK}{r:R D}{f:D->R D}(h:post K E O c H Q (r.bind f))(s:Same H H1)(hf:∀d,r=.ok d->post K E O c H Q (f d)->∀v H' L,Same H1 H'->Rep K H' d v L->RcOk ca O H1 L->Q' v H'):post K E O ca H1 Q' r:=by
 cases r with
 | ok d=>exact hf d rfl h
 | err n=>exact fun C H' e s'=>h C H' e (s.trans s')
 | bad=>exact h
def VZ {K:jJa}{H:Hp}{dx dy d:D}{x y:V}{Lx Ly:List Addr}{Q:VK}(hn:∀ks ds,dx≠.dic ks ds)(h:ixD dx dy=.ok d)(rx:Rep K H dx x Lx)(ry:Rep K H dy y Ly)(q:∀v L1,Rep K H d v L1->List.Sublist L1 Lx->Q v H):rIx K x y H Q:=by
 unfold ixD at h;split at h
 ·split at h
  ·rename_i hd;cases h;obtain⟨a,vs,L',rfl,ha,e,rs⟩:=rx;subst e;obtain⟨v,L1,g1,g2,g3⟩:=rs.atI hd;exact .inl ⟨a,vs,_,v,rfl,ry.1,SqL.of ha,g1,q v L1 g2 (g3.trans (List.sublist_cons_self _ _))⟩
  ·cases h
 ·split at h
  ·rename_i hd;cases h;obtain⟨a,vs,rfl,ha,rs⟩:=rx;obtain⟨v,L1,g1,g2,g3⟩:=rs.atI hd;exact .inr (.inl ⟨a,vs,_,v,rfl,ry.1,ha,g1,q v L1 g2 g3⟩)
  ·cases h
 ·split at h
  ·rename_i hd;cases h;obtain⟨a,vs,rfl,ha,e,_,rs⟩:=rx;subst e;obtain⟨v,L1,g1,g2,g3⟩:=rs.atI hd;exact .inl ⟨a,vs,_,v,rfl,ry.1,ha.sq,g1,q v L1 g2 g3⟩
  ·cases h
 ·split at h
  ·rename_i hz;split at h
   ·rename_i hd;cases h;exact .inr (.inr ⟨_,_,_,rx.1,ry.1,hz,hd,q _ [] ⟨rfl,rfl⟩ (pY _)⟩)
   ·cases h
  ·cases h
 ·rename_i ks ds;exact absurd rfl (hn _ _)
 ·cases h
def zE (hu:X.A.units+1<cLine)(ha:ME X E Γ a ta ca)(hb:ME X E Γ b tb cb)(hs:autoParam (Va b) au5._auto_1):ME X E Γ (.Subscript a b pos) (zd ixD ta tb) ca:=by
 obtain⟨te,p,q⟩:=ha;obtain⟨te',p',q'⟩:=hb;refine⟨fun σ H Q=>tOp (rIx X.K) te te' σ H Q\/z0l te te' σ H Q,fun pins s σ H Q I z=>?_,fun O σ H τ Q ok h=>?_⟩
 ·rcases z with z|z
  ·exact z33 z0A p p' hs pins s σ H Q I z
  ·exact Ko hu p p' hs pins s σ H Q I z
 ·unfold zd at h
  by_cases hd:∃ks ds,ta τ=.ok (.dic ks ds)
  ·obtain⟨ks,ds,hd⟩:=hd;refine .inr (q O σ H τ _ ok (post.bind h fun dx hx h x H1 Lx s1 rx kx=>?_));rw[hd]at hx;cases hx;refine q' O σ H1 τ _ (ok.same s1) (post.bind2 h s1 fun dy _ h y H2 Ly s2 ry _=>?_);have h:post X.K E O ca H Q (match Xj dy with
    | some k=>(match xk ks ds k with
     | some d=>.ok d
     | none=>.bad)
    | none=>.bad):=h
   cases hk:Xj dy with
   | none=>rw[hk]at h;exact h.elim
   | some k =>
    rw[hk]at h;dsimp only at h;cases hl:xk ks ds k with
    | none=>rw[hl]at h;exact h.elim
    | some d =>
     rw[hl]at h;obtain⟨ad,kvs,L',rfl,had,e2,hks,_,rs⟩:=rx;subst e2;rw[<-hks]at hl;obtain⟨v,L1,g1,g2,g3⟩:=qE rs hl;refine⟨ad,v,rfl,?_,h v H2 L1 (s1.trans s2) (g2.same s2) (kx.sub (g3.trans (List.sublist_cons_self _ _)))⟩;rw[Z0 hk ry,<-g1];exact DGet.k (s2 _ _ had)
  ·refine .inl (q O σ H τ _ ok (post.bind h fun dx hx h x H1 Lx s1 rx kx=>q' O σ H1 τ _ (ok.same s1) (post.bind2 h s1 fun dy _ h y H2 Ly s2 ry _=>?_)));cases hg:ixD dx dy with
   | ok d =>
    rw[hg]at h;exact VZ (fun ks ds z=>hd ⟨ks,ds,by rw[hx,z]⟩) hg (rx.same s2) ry fun v L1 g1 g2=>h v H2 L1 (s1.trans s2) g1 (kx.sub g2)
   | err n=>exact absurd hg (z3E _ _ _)
   | bad=>rw[hg]at h;exact h.elim
def vj:D->R D
 | .int i=>.ok (.int (-i))
 | _=>.bad
def vh (ha:ME X E Γ a ta ca):ME X E Γ (.UnaryOp .USub a pos) (eUn vj ta) .fresh:=by
 obtain⟨te,p,q⟩:=ha;refine⟨_,z2f z1p p,fun O σ H τ Q ok h=>q O σ H τ _ ok (post.bind h fun d _ h v H1 L s1 r1 _=>?_)⟩;cases d with
 | int i=>exact⟨i,r1.1,h _ H1 [] s1 ⟨rfl,rfl⟩ RcOk.nil⟩
 | _=>exact h.elim
def kN {α:Type}(xs:List α)(lo hi:Option Int):List α:=(xs.drop (HT.sIx xs.length 0 lo)).take (HT.sIx xs.length xs.length hi-HT.sIx xs.length 0 lo)
def slD (x:D)(lo hi:Option Int):R D:=match x with
 | .lst ds=>if D.imms ds=true then .ok (.lst (kN ds lo hi)) else .bad
 | .str z=>if z.length<=sizeLine then .ok (.str (Txt.slice z lo hi)) else .bad
 | .tup ds=>if D.imms ds=true/\¬(HT.sIx ds.length 0 lo=0/\HT.sIx ds.length ds.length hi=ds.length) then .ok (.tup (kN ds lo hi)) else .bad
 | _=>.bad
def eSl (t:Tn->R D)(tl th:Tn->R (Option Int)):Tn->R D:=fun τ=>(t τ).bind fun x=>(tl τ).bind fun l=>(th τ).bind fun h=>slD x l h
def wj:Tn->R (Option Int):=fun _=>.ok none
def zX (t:Tn->R D):Tn->R (Option Int):=fun τ=>(t τ).bind fun d=>match d with
 | .int i=>.ok (some i)
 | _=>.bad
def z3p (K:jJa)(E:XK)(H:Hp)(Q:Option Int->Hp->Prop):R (Option Int)->Prop
 | .ok o=>∀H',Same H H'->Q o H'
 | .err n=>∀C H',ErrC K n C->Same H H'->E (.ref C) none H'
 | .bad=>False
def MO (X:Cx)(E:XK)(Γ:List Cl)(e:Option Expr)(t:Tn->R (Option Int)):Prop:=
 ∃to,PO X e to/\∀O σ H τ Q,EOk X.K Γ O H σ τ->z3p X.K E H Q (t τ)->to σ H Q
def qt:MO X E Γ none wj:=⟨V3,JJ,fun O σ H τ Q ok h=>h H (Same.refl H)⟩
def xa (h:ME X E Γ e t c):MO X E Γ (some e) (zX t):=by
 obtain⟨te,p,q⟩:=h;refine⟨z06 te,Kr p,fun O σ H τ Q ok h=>q O σ H τ _ ok ?_⟩;unfold zX at h;cases ht:t τ with
 | ok d =>
  rw[ht,jYa]at h;refine fun v H' L s r _=>?_;cases d with
  | int i=>exact⟨i,r.1,h H' s⟩
  | _=>exact h.elim
 | err n=>rw[ht]at h;exact h
 | bad=>rw[ht]at h;exact h
theorem Reps.cut {K:jJa}{H:Hp}{ds:List D}{vs:List V}{L:List Addr}(r:Reps K H ds vs L)(lo hi:Option Int):∃L',Reps K H (kN ds lo hi) (YS vs lo hi) L'/\List.Sublist L' L:=by
 obtain⟨L1,a,b⟩:=r.drop (HT.sIx ds.length 0 lo);obtain⟨L2,c,d⟩:=a.take (HT.sIx ds.length ds.length hi-HT.sIx ds.length 0 lo);refine⟨L2,?_,d.trans b⟩;unfold kN YS;rw[r.length];exact c
def uJ {lo hi:Option Expr}{tl th:Tn->R (Option Int)}(he:ME X E Γ e t c)(hl:MO X E Γ lo tl)(hh:MO X E Γ hi th):ME X E Γ (.Subscript e (.Slice lo hi none p2) pos) (eSl t tl th) .fresh:=by
 obtain⟨te,p,q⟩:=he;obtain⟨tl',pl,ql⟩:=hl;obtain⟨th',ph,qh⟩:=hh;refine⟨_,QB (SlR.or KR (SlR.or z1v z1d)) p pl ph,fun O σ H τ Q ok h=>?_⟩;unfold eSl at h;refine q O σ H τ _ ok (post.bind h fun dx hx h x H1 Lx s1 rx kx=>ql O σ H1 τ _ (ok.same s1) ?_);cases h1:tl τ with
 | err n=>rw[h1]at h;exact fun C H' e s'=>h C H' e (s1.trans s')
 | bad=>rw[h1]at h;exact h
 | ok l =>
  rw[h1,jYa]at h;refine fun H2 s2=>qh O σ H2 τ _ ((ok.same s1).same s2) ?_;cases h2:th τ with
  | err n=>rw[h2]at h;exact fun C H' e s'=>h C H' e ((s1.trans s2).trans s')
  | bad=>rw[h2]at h;exact h
  | ok g =>
   rw[h2,jYa]at h;refine fun H3 s3=>?_;have s03:=(s1.trans s2).trans s3;have rx:=(rx.same s2).same s3;unfold slD at h;cases dx with
   | lst ds =>
    dsimp only at h
    by_cases hz:D.imms ds=true
    ·rw[if_pos hz]at h;obtain⟨a,vs,L',rfl,ha,_,rs⟩:=rx;obtain⟨L2,rc,_⟩:=(yw rs hz).cut l g;have e0:L2=[]:=List.sublist_nil.mp ‹_›;subst e0;refine .inl ⟨a,vs,rfl,SqL.of ha,fun p hp=>uc rc hp fun v H' L s r n1 n2=>h v H' L (s03.trans s) r ⟨n1,fun a ha=>s03.non (n2 a ha)⟩⟩
    ·rw[if_neg hz]at h;exact h.elim
   | str z =>
    dsimp only at h
    by_cases hz:z.length<=sizeLine
    ·rw[if_pos hz]at h;exact .inr (.inl ⟨z,rx.1,hz,h _ H3 [] s03 ⟨rfl,rfl⟩ RcOk.nil⟩)
    ·rw[if_neg hz]at h;exact h.elim
   | tup ds =>
    dsimp only at h
    by_cases hz:D.imms ds=true/\¬(HT.sIx ds.length 0 l=0/\HT.sIx ds.length ds.length g=ds.length)
    ·rw[if_pos hz]at h;obtain⟨a,vs,rfl,ha,rs⟩:=rx;obtain⟨L2,rc,_⟩:=(yw rs hz.1).cut l g;have e0:L2=[]:=List.sublist_nil.mp ‹_›;subst e0;exact .inr (.inr ⟨a,vs,rfl,ha,by rw[rs.length];exact hz.2,fun p hp=>h _ _ [] (s03.trans (Same.new hp)) ⟨p,_,rfl,SqT.of zu,rc.same (Same.new hp)⟩ RcOk.nil⟩)
    ·rw[if_neg hz]at h;exact h.elim
   | _=>exact h.elim
end
section
variable {X:Cx}
def xh:List D->R D
 | [.lst ds]=>.ok (.int ds.length)
 | [.tup ds]=>.ok (.int ds.length)
 | [.frl ds]=>.ok (.int ds.length)
 | [.str x]=>if x.length<=sizeLine then .ok (.int x.length) else .bad
 | [.dic ks _]=>.ok (.int ks.length)
 | _=>.bad
def vE:wX xh:=fun ds n h=>by
 rcases ds with _|⟨d,_|⟨_,_⟩⟩
 ·cases h
 ·cases d with
  | str x =>
   replace h:(if x.length<=sizeLine then R.ok (D.int x.length) else .bad)=R.err n:=h
   split at h<;>cases h
  | _=>cases h
 ·cases d<;>cases h
def yE:CallR X (.builtin "len") (fun xs H Q=>(∃p ys,xs=[.ref p]/\(SqL X.K H p ys\/SqT X.K H p ys)/\Q (.int ys.length) H)\/(∃z,xs=[.str z]/\z.length<=sizeLine/\Q (.int z.length) H)\/∃a kvs,xs=[V.ref a]/\H a=some (.dK kvs)/\Q (.int kvs.length) H):=
 CallR.or Yk (CallR.or ZE VI)
def vD {K:jJa}{H:Hp}{d:D}{xs:List V}{L:List Addr}(r:Reps K H [d] xs L):∃v,xs=[v]/\Rep K H d v L:=by
 obtain⟨v,vs',L1,L2,e1,e2,r1,r2⟩:=r;obtain⟨rfl,rfl⟩:=r2;rw[tY]at e2;subst e2;exact⟨v,e1,r1⟩
def z2U {K:jJa}{H:Hp}{d d':D}{xs:List V}{L:List Addr}(r:Reps K H [d,d'] xs L):∃v v' L1 L2,xs=[v,v']/\L=L1++L2/\Rep K H d v L1/\Rep K H d' v' L2:=by
 obtain⟨v,vs',L1,L2,e1,e2,r1,r2⟩:=r;obtain⟨v',rfl,r3⟩:=vD r2;exact⟨v,v',L1,L2,e1,e2,r1,r3⟩
def vH {K:jJa}:ClB K (fun xs H Q=>(∃p ys,xs=[.ref p]/\(SqL K H p ys\/SqT K H p ys)/\Q (.int ys.length) H)\/(∃z,xs=[.str z]/\z.length<=sizeLine/\Q (.int z.length) H)\/∃a kvs,xs=[V.ref a]/\H a=some (.dK kvs)/\Q (.int kvs.length) H) xh:=by
 rintro H xs ds L Q r ⟨d,hg,q⟩;have fin:∀n:Int,d=.int n->Q (.int n) H:=fun n e=>q _ H [] (Same.refl H) (e▸⟨rfl,rfl⟩) (by simp) (fun a ha=>nomatch ha);rcases ds with _|⟨e,_|⟨_,_⟩⟩
 ·cases hg
 ·cases e with
  | lst es =>
   cases hg;obtain⟨v,rfl,a,vs,L',rfl,ha,_,rs⟩:=vD r;exact .inl ⟨a,vs,rfl,.inl (SqL.of ha),fin _ (by rw[rs.length])⟩
  | tup es =>
   cases hg;obtain⟨v,rfl,a,vs,rfl,ha,rs⟩:=vD r;exact .inl ⟨a,vs,rfl,.inr ha,fin _ (by rw[rs.length])⟩
  | frl es =>
   cases hg;obtain⟨v,rfl,a,vs,rfl,ha,_,_,rs⟩:=vD r;exact .inl ⟨a,vs,rfl,.inl ha.sq,fin _ (by rw[rs.length])⟩
  | str x =>
   replace hg:(if x.length<=sizeLine then R.ok (D.int x.length) else .bad)=R.ok d:=hg
   split at hg
   ·rename_i hz;cases hg;obtain⟨v,rfl,rfl,_⟩:=vD r;exact .inr (.inl ⟨_,rfl,hz,fin _ rfl⟩)
   ·cases hg
  | dic ks es =>
   cases hg;obtain⟨v,rfl,a,kvs,L',rfl,ha,_,hk,_⟩:=vD r;exact .inr (.inr ⟨a,kvs,rfl,ha,fin _ (by rw[<-hk,tM])⟩)
  | _=>cases hg
 ·cases e<;>cases hg
def yz:List D->Option (List Int)
 | []=>some []
 | .int i::ds=>(yz ds).map (i::·)
 | _=>none
theorem xT {K:jJa}{H:Hp}:∀ {ds:List D} {vs:List V} {L:List Addr} {ns:List Int},Reps K H ds vs L->yz ds=some ns->vs=ns.map V.int
 | [],_,_,ns,hq4,h=>by
  obtain⟨e,_⟩:=hq4;subst e;cases h;rfl
 | .int i::ds,_,_,ns,hq4,h=>by
  obtain⟨v,vs',L1,L2,e1,_,r1,r2⟩:=hq4;subst e1;have h:(yz ds).map (i::·)=some ns:=h;cases hi:yz ds with
  | none=>rw[hi]at h;cases h
  | some ms =>
   rw[hi]at h;cases h;rw[r1.1,xT r2 hi];rfl
 | .non::_,_,_,_,_,h=>by cases h
 | .bl _::_,_,_,_,_,h=>by cases h
 | .str _::_,_,_,_,_,h=>by cases h
 | .tup _::_,_,_,_,_,h=>by cases h
 | .lst _::_,_,_,_,_,h=>by cases h
 | .dic _ _::_,_,_,_,_,h=>by cases h
 | .frl _::_,_,_,_,_,h=>by cases h
 | .obj _ _ _::_,_,_,_,_,h=>by cases h
theorem uP:∀ {ns:List Int} {us:List Value},Vals (ns.map V.int) us->∃xs:List (Int×Tok),us=xs.map (fun p=>Value.int p.1 p.2)/\xs.map (·.1)=ns
 | [],us,r=>by cases r;exact⟨[],rfl,rfl⟩
 | n::ns,_,r=>by
  rw[tG]at r;cases r with
  | cons r1 r2 =>
   obtain⟨t,rfl⟩:=r1;obtain⟨xs,rfl,e⟩:=uP r2;exact⟨(n,t)::xs,rfl,by simp[e]⟩
def vJ:List D->R D
 | [.lst ds]=>match yz ds with
  | some ns=>.ok (.int ns.sum)
  | none=>.bad
 | _=>.bad
def Zh:wX vJ:=fun ds n h=>by
 unfold vJ at h;split at h
 ·split at h<;>cases h
 ·cases h
def z0y (K:jJa):List V->Hp->VK->Prop:=fun xs H Q=>∃(p:Addr) (ns:List Int),xs=[.ref p]/\SqL K H p (ns.map V.int)/\Q (.int ns.sum) H
def ZU (xs:List (Int×Tok)):preSum (numAt xs.toArray) xs.toArray.size=(xs.map (·.1)).sum:=by
 rw[preSum_eq,List.take_of_length_le (by simp)]
def wK (hc:X.calm=true):CallR X (.builtin "sum") (z0y X.K):=by
 intro pins s σ H xs us Q I r h;obtain⟨p,ns,rfl,hs,q⟩:=h;obtain⟨u,rfl,ru⟩:=vL r;obtain rfl:u=Value.ref p:=ru;obtain⟨its,rv,pl,hz⟩:=I.list hs;obtain⟨ys,rfl,e⟩:=uP rv;have hl:s.heap.IsList p (intItems ys.toArray):=by
  have:=pl.isList
  simpa [intItems] using this
 refine sum_intListG (I.ok.hd hc) hl fun h' tk t' hk=>⟨.int ns.sum,H,I.kept hk,⟨t',?_⟩,q⟩
 rw[ZU,e]
def Zl {K:jJa}:ClB K (z0y K) vJ:=by
 rintro H xs ds L Q r ⟨d,hg,q⟩;unfold vJ at hg;split at hg
 ·split at hg
  ·rename_i ds ns hn;cases hg;obtain⟨v,rfl,a,vs,L',rfl,ha,_,rs⟩:=vD r;exact⟨a,ns,rfl,by rw[<-xT rs hn];exact SqL.of ha,q _ H [] (Same.refl H) ⟨rfl,rfl⟩ (by simp) (fun a ha=>nomatch ha)⟩
  ·cases hg
 ·cases hg
def ki:List D->R D
 | [.int i,.int j]=>.ok (.int (if j>i then j else i))
 | _=>.bad
def z0Y:wX ki:=fun ds n h=>by unfold ki at h;split at h<;>cases h
def z1Y {K:jJa}:ClB K (fun xs H Q=>∃i j,xs=[.int i,.int j]/\Q (.int (if j>i then j else i)) H) ki:=by
 rintro H xs ds L Q r ⟨d,hg,q⟩;unfold ki at hg;split at hg
 ·cases hg;obtain⟨v,v',L1,L2,rfl,_,⟨rfl,_⟩,⟨rfl,_⟩⟩:=z2U r;exact⟨_,_,rfl,q _ H [] (Same.refl H) ⟨rfl,rfl⟩ (by simp) (fun a ha=>nomatch ha)⟩
 ·cases hg
def wM:List D->R D
 | [.lst ds]=>if D.imms ds=true then .ok (.lst ds) else .bad
 | [.tup ds]=>if D.imms ds=true then .ok (.lst ds) else .bad
 | _=>.bad
def Vl:wX wM:=fun ds n h=>by
 unfold wM at h;split at h
 ·split at h<;>cases h
 ·split at h<;>cases h
 ·cases h
def Vq {K:jJa}:ClB K (fun xs H Q=>∃p ys,xs=[.ref p]/\(SqL K H p ys\/SqT K H p ys)/\∀l,H l=none->Q (.ref l) (upd H l (.lst ys))) wM:=by
 rintro H xs ds L Q r ⟨d,hg,q⟩;unfold wM at hg;split at hg
 ·split at hg
  ·rename_i hz;cases hg;obtain⟨v,rfl,a,vs,L',rfl,ha,_,rs⟩:=vD r;exact⟨a,vs,rfl,.inl (SqL.of ha),fun l hl=>uc (yw rs hz) hl q⟩
  ·cases hg
 ·split at hg
  ·rename_i hz;cases hg;obtain⟨v,rfl,a,vs,rfl,ha,rs⟩:=vD r;exact⟨a,vs,rfl,.inr ha,fun l hl=>uc (yw rs hz) hl q⟩
  ·cases hg
 ·cases hg
def jq:D->String
 | .non=>"NoneType"
 | .bl _=>"bool"
 | .int _=>"int"
 | .str _=>"str"
 | .tup _=>"tuple"
 | .lst _=>"list"
 | .frl _=>"list"
 | .dic _ _=>"dict"
 | .obj _ _ _=>"NoneType"
def D.isO:D->Bool
 | .obj _ _ _=>true
 | _=>false
def VT (d:D):jq d∈qW:=by cases d<;>simp[jq,qW]
def Qw (d:D)(T:String):Bool:=jq d==T||(jq d=="bool"&&T=="int")
def z48 (K:jJa):List V->Hp->VK->Prop:=fun xs H Q=>∃x T d L,xs=[x,.ty T]/\Rep K H d x L/\d.isO=false/\T∈(["int","bool","str","list","tuple","dict"]:List String)/\Q (.bl (Qw d T)) H
def Kk {K:jJa}{d:D}{U:String}(hU:U∈(["int","bool","str","list","tuple","dict"]:List String)):jJi K (.type (jq d)) (.type U)=some (Qw d U):=by
 have hT:=VT d;unfold Qw;simp only[sF,rK,or_false]at hU;rcases hU with rfl|rfl|hU
 ·rw[Ku hT];simp
 ·rw[QO hT];have:(jq d=="bool"&&("bool":String)=="int")=false:=by simp
  rw[this,gO]
 ·rw[QJ hT (by simpa using hU)];have:(jq d=="bool"&&U=="int")=false:=by
   rcases hU with rfl|rfl|rfl|rfl<;>simp
  rw[this,gO]
def Q5:CallR X (.builtin "isinstance") (z48 X.K):=by
 intro pins s σ H xs us Q I r h;obtain⟨x,T,d,L,rfl,rd,hO,hT,q⟩:=h;obtain⟨u,u2,rfl,rx,rT⟩:=z0t r;obtain rfl:u2=Value.type T:=rT;have hk:=Kk (K:=X.K) (d:=d) hT;have fin:∀tk,EP X pins σ Q (.bool (Qw d T)) { s with toks:=tk }:=fun tk=>⟨.bl _,H,I.tok tk,rfl,q⟩
 cases d with
 | non=>obtain⟨rfl,_⟩:=rd;exact wL I rx .non hk fin
 | bl b=>obtain⟨rfl,_⟩:=rd;exact wL I rx (.bl b) hk fin
 | int b=>obtain⟨rfl,_⟩:=rd;exact wL I rx (.int b) hk fin
 | str b=>obtain⟨rfl,_⟩:=rd;exact wL I rx (.str b) hk fin
 | lst _=>obtain⟨a,_,_,rfl,e,_⟩:=rd;exact wL I rx (.lst e) hk fin
 | frl _ =>
  obtain⟨a,vs,rfl,ha,_⟩:=rd;obtain rfl:u=Value.ref a:=rx;obtain⟨its,_,⟨o,n,h1,h2,_⟩,_⟩:=I.list ha.sq;exact jJd jJx I.kIn ⟨o,h1,h2⟩ hk (fun z=>nomatch z) fin
 | dic _ _=>obtain⟨a,_,_,rfl,e,_⟩:=rd;exact wL I rx (.dK e) hk fin
 | tup _ =>
  obtain⟨a,vs,rfl,ha,_⟩:=rd;obtain rfl:u=Value.ref a:=rx;obtain⟨its,_,⟨o,h1,h2,_⟩,_⟩:=I.tuple ha;exact jJd jJ6 I.kIn ⟨o,h1,h2⟩ hk (fun z=>nomatch z) fin
 | obj _ _ _=>cases hO
end
section
variable {X:Cx}{E:XK}{Γ:List Cl}{e c':Expr}{t:Tn->R D}{c:Rc}{pos p:Pos}
def YN (T:String):D->R D
 | .obj _ _ _=>.bad
 | d=>.ok (.bl (Qw d T))
def XS {T:String}(hT:T∈(["int","bool","str","list","tuple","dict"]:List String))(hg:Gl X "isinstance")(hm:X.mg "isinstance"=none)(hc:PE X c' (tC (.ty T)))(he:ME X E Γ e t c)(hs:autoParam (starEach [e,c'] X.env=(false,eval e X.env)::starEach [c'] X.env) au3._auto_1)(hs2:autoParam (starEach [c'] X.env=(false,eval c' X.env)::starEach [] X.env) au3._auto_1)
  (hpl:autoParam ((backTo pos (starEach [c'] X.env)).any (·.1)=false) au3._auto_1):ME X E Γ (.Call (.Name "isinstance" p) [e,c'] [] pos) (eUn (YN T) t) .fresh:=by
 obtain⟨te,p',q⟩:=he;refine⟨_,YE (x:="isinstance") Q5 hg hm Boot.«isinstance» (wI p' (wI hc vV hs2) hs) (by decide) (by decide) hs hpl,fun O σ H τ Q ok h=>q O σ H τ _ ok (post.bind h fun d _ h v H1 L s1 r1 _=>?_)⟩;cases d<;>first|exact h.elim|exact⟨v,T,_,L,rfl,r1,rfl,hT,h _ H1 [] s1 ⟨rfl,rfl⟩ RcOk.nil⟩
end
def z3g (ks:List Key)(vs:List V):List (V×V):=(ks.zip vs).map fun kv=>(kV kv.1,kv.2)
def jJ {kvs:List (Key×V)}{k:Key}{v:V}(h:k∉kvs.map (·.1)):vq kvs k v=kvs++[(k,v)]:=by
 unfold vq;rw[if_neg];intro z;rw[gL]at z;obtain⟨p,hp,e⟩:=z;exact h (rB.mpr ⟨p,hp,by simpa using e⟩)
theorem jB:∀(more kvs:List (Key×V)),((kvs++more).map (·.1)).Nodup->yG kvs more=kvs++more
 | [],kvs,_=>by simp[yG]
 | p::r,kvs,h=>by
  have hp:p.1∉kvs.map (·.1):=by
   rw[sV,tG]at h;obtain⟨_,_,h3⟩:=sI.mp h;exact fun z=>h3 p.1 z p.1 tU rfl
  show yG (vq kvs p.1 p.2) r=_;rw[jJ hp,jB r _ (by rw[sP];exact h),sP]
  rfl
theorem ZI:∀(ks:List Key) (vs:List V),vs.length=ks.length->(ks.zip vs).map (·.1)=ks
 | [],_,_=>rfl
 | k::ks,[],h=>by cases h
 | k::ks,v::vs,h=>by rw[List.zip_cons_cons,tG,ZI ks vs (by simpa using h)]
theorem WW:∀(ks:List Key) (vs:List V),vs.length=ks.length->(ks.zip vs).map (·.2)=vs
 | [],[],_=>rfl
 | [],_::_,h=>by cases h
 | k::ks,[],h=>by cases h
 | k::ks,v::vs,h=>by rw[List.zip_cons_cons,tG,WW ks vs (by simpa using h)]
section
variable {X:Cx}{E:XK}{Γ:List Cl}{e k v:Expr}{t:Tn->R D}{u:Tn->R (List D)}{c ca cb:Rc}{pos p:Pos}{ks:List Key}{keys:List (Option Expr)}{values:List Expr}
def MPs (X:Cx)(E:XK)(Γ:List Cl)(pos:Pos)(keys:List (Option Expr))(values:List Expr)(ks:List Key)(t:Tn->R (List D))(c:Rc):Prop:=
 (∀τ ds,t τ=.ok ds->ds.length=ks.length)/\∃trs,PPs X pos keys values trs/\∀O σ H τ (Q:List (V×V)->Hp->Prop),EOk X.K Γ O H σ τ->qY X.K E O c H (fun vs H'=>Q (z3g ks vs) H') (t τ)->Yi trs σ H Q
def WS:MPs X E Γ pos [] [] [] zg .fresh:=⟨fun τ ds h=>by cases h;rfl,[],Kh,fun O σ H τ Q ok h=>h [] H [] (Same.refl H) Reps.nil RcOk.nil⟩
def xG {key:Key}(hk:PE X k (tC (kV key)))(h:ME X E Γ v t ca)(r:MPs X E Γ pos keys values ks u cb):MPs X E Γ pos (some k::keys) (v::values) (key::ks) (za t u) (Rc.both ca cb):=by
 obtain⟨te,p1,q1⟩:=h;obtain⟨hl,trs,p2,q2⟩:=r;refine⟨fun τ ds h=>?_,_,UD hk p1 p2,fun O σ H τ Q ok h=>?_⟩
 ·unfold za at h;obtain⟨d,h1,h⟩:=vA h;obtain⟨xs,h2,h⟩:=vA h;cases h;rw[tF,tF,hl τ xs h2]
 ·unfold za at h;refine q1 O σ H τ _ ok ?_;cases h1:t τ with
  | ok d =>
   rw[h1,jYa]at h;refine fun v H1 L1 s1 r1 k1=>q2 O σ H1 τ _ (ok.same s1) ?_;cases h2:u τ with
   | ok xs =>
    rw[h2,jYa]at h;exact fun vs H2 L2 s2 r2 k2=>h (v::vs) H2 (L1++L2) (s1.trans s2) (Reps.cons (r1.same s2) r2) (RcOk.append ok.dom s1 r1 k1 k2)
   | err n=>rw[h2]at h;exact fun C H' e s'=>h C H' e (s1.trans s')
   | bad=>rw[h2]at h;exact h
  | err n=>rw[h1]at h;exact h
  | bad=>rw[h1]at h;exact h
def V0 (h:MPs X E Γ pos keys values ks u c)(hc:c≠.bor)(hnd:autoParam (ks.Nodup) au1._auto_1)(hlk:autoParam (ks.length<=15) au1._auto_1)(hall:autoParam (keys.all (·.isSome)=true) au3._auto_1)(hl:autoParam (keys.length=values.length) au3._auto_1)(h0:autoParam (keys≠[]) au6._auto_1)(h15:autoParam (keys.length<=15) au1._auto_1):
  ME X E Γ (.Dict keys values pos) (eL (fun ds=>.ok (.dic ks ds)) u) c:=by
 obtain⟨hlen,trs,p,q⟩:=h;refine⟨_,K2 p hall hl h0 h15,fun O σ H τ Q ok h dd hd=>?_⟩;have s0:Same H (upd H dd (.dK [])):=Same.new hd;have okO:EOk X.K Γ (fun a=>O a\/a=dd) (upd H dd (.dK [])) σ τ:=by
  refine⟨fun a ha=>?_,fun j k e hk=>?_⟩
  ·rcases ha with ha|ha
   ·exact (ok.same s0).dom a ha
   ·rw[ha,zu];simp
  ·obtain⟨v,d,L0,a1,a2,a3,a4⟩:=ok.slot j k e hk;refine⟨v,d,L0,a1,a2,a3.same s0,fun z a ha hm=>?_⟩;rcases hm with hm|hm
   ·exact a4 z a ha hm
   ·exact a3.there ha (hm▸hd)
 refine q _ σ _ τ _ okO ?_;unfold eL at h;cases hu:u τ with
 | err n=>rw[hu]at h;exact fun C H' e s'=>h C H' e (s0.trans s')
 | bad=>rw[hu]at h;exact h
 | ok ds =>
  rw[hu,jYa]at h;refine fun vs H2 L s2 r k2=>?_;have hD2:H2 dd=some (.dK []):=s2 _ _ zu;have hv:vs.length=ks.length:=by rw[r.length,hlen τ ds hu]
  have nD:dd∉L:=fun hm=>by
   cases c with
   | fresh=>have:=k2.2 dd hm;rw[zu]at this;cases this
   | shr=>exact k2 dd hm (.inr rfl)
   | bor=>exact hc rfl
  refine⟨hD2,ks.zip vs,rfl,by rw[List.length_zip];lia,?_⟩;have em:yG [] (ks.zip vs)=ks.zip vs:=by
   have:=jB (ks.zip vs) [] (by rw[tN,ZI ks vs hv];exact hnd);rw[this];rfl
  rw[em];have mu:(∃vs,H2 dd=some (.lst vs))\/∃kvs,H2 dd=some (.dK kvs):=.inr ⟨_,hD2⟩;refine h (.ref dd) _ (dd::L) ?_ ⟨dd,ks.zip vs,L,rfl,zu,rfl,ZI ks vs hv,hnd,?_⟩ ?_
  ·exact Same.upd_of (H1:=H) hd (s0.trans s2)
  ·rw[WW ks vs hv];exact r.upd mu nD
  ·cases c with
   | fresh =>
    refine⟨sW.mpr ⟨nD,k2.1⟩,fun a ha=>?_⟩;rcases sF.mp ha with z|z
    ·rw[z];exact hd
    ·exact s0.non (k2.2 a z)
   | shr =>
    intro a ha;rcases sF.mp ha with z|z
    ·rw[z];exact fun w=>ok.dom dd w hd
    ·exact fun w=>k2 a z (.inl w)
   | bor=>exact absurd rfl hc
def QY:List D->R D
 | [.dic ks ds]=>if D.imms ds=true then .ok (.dic ks ds) else .bad
 | _=>.bad
def Zu:List V->Hp->VK->Prop:=fun xs H Q=>∃a kvs,xs=[.ref a]/\Rd H a (.dK kvs)/\∀l,H l=none->Q (.ref l) (upd H l (.dK kvs))
def XF:CallR X (.type "dict") Zu:=by
 intro pins s σ H xs us Q I r h;obtain⟨a,kvs,rfl,hr,q⟩:=h;obtain⟨u,rfl,ru⟩:=vL r;obtain rfl:u=Value.ref a:=ru;obtain⟨z,hd,vs,rel,dd⟩:=uZ I.hok hr;refine kt_call_dict hd dd (by rw[<-rel.length];exact z) fun h' hm hs=>?_;have hk:∀b o,s.heap.get? b=some o->h'.get? b=some o:=fun b o e=>(hs.2 b (sL (jYc e))).trans (jYb _ e);have hsz:s.heap.objs.size<=s.heap.objs.size:=tQ _;refine⟨.ref s.heap.objs.size,_,I.laid (o:=.dK kvs) (t':=s.toks) hk hsz ?_,rfl,q _ (I.hok.fresh hsz)⟩;refine⟨z,?_,vs,rel,hm⟩;exact beq_eq_false_iff_ne.mpr (Ne.symm (sL I.big))
def JZ {K:jJa}:ClB K Zu QY:=by
 rintro H xs ds L Q r ⟨d,hg,q⟩;unfold QY at hg;split at hg
 ·split at hg
  ·rename_i hz;cases hg;obtain⟨v,rfl,a,kvs,L',rfl,ha,_,hk,hn,rs⟩:=vD r;refine⟨a,kvs,rfl,.inl ha,fun l hl=>q _ _ [l] (Same.new hl) ⟨l,kvs,[],rfl,zu,rfl,hk,hn,(yw rs hz).same (Same.new hl)⟩ (by simp) (fun b hb=>by rw[sX.mp hb];exact hl)⟩
  ·cases hg
 ·cases hg
end
theorem Room.u12 {k:Nat}{A:Around}(r:Room k A):A.units+12<cLine:=by have:=r.un;lia
theorem Room.u1 {k:Nat}{A:Around}(r:Room k A):A.units+1<cLine:=by have:=r.un;lia
def Zw (outer:Scope)(N N':List Str)(fr:List (Option Nat))(scope:Scope):Bool:=
 decide (scope.kind=.function)&&scope.names.all (fun y=>decide (y.2≠.cell))&&scope.names.all (fun y=>decide (y.2≠.local)||decide (scope.names.lookup y.1=some .local)) &&
 scope.names.all (fun y=>decide (y.2≠.free)||decide (outer.names.lookup y.1=some .cell)||decide (outer.names.lookup y.1=some .free))&&decide (fr.length=N'.length) &&
 (List.range fr.length).all fun j=>match fr[j]?,N'[j]? with
  | some (some i),some x=>decide (N[i]?=some x)&&decide (scope.names.lookup x=some .free)&&(decide (outer.names.lookup x=some .cell)||decide (outer.names.lookup x=some .free))
  | _,_=>true
def W6 {X:Cx}{N':List Str}{fr:List (Option Nat)}{scope:Scope}(hc:∀x,(X.env.scope.names.lookup x=some .cell\/X.env.scope.names.lookup x=some .free)->∃c,X.env.cells.lookup x=some c)(h:Zw X.env.scope X.N N' fr scope=true):CompScope X N' fr scope:=by
 unfold Zw at h;simp only[sR,decide_eq_true_eq,pJ,Bool.or_eq_true]at h;obtain⟨⟨⟨⟨⟨h1,h2⟩,h3⟩,h4⟩,h5⟩,h6⟩:=h;refine⟨h1,h2,fun y hy e=>?_,fun y hy e=>?_,h5,fun j i x e1 e2=>?_⟩
 ·rcases h3 y hy with z|z
  ·exact absurd e z
  ·exact z
 ·rcases h4 y hy with (z|z)|z
  ·exact absurd e z
  ·exact hc y.1 (.inl z)
  ·exact hc y.1 (.inr z)
 ·have hj:j<fr.length:=(tV.mp e1).1;have:=h6 j (rP.mpr hj);rw[e1,e2]at this;simp only[sR,decide_eq_true_eq,Bool.or_eq_true]at this;exact⟨this.1.1,this.1.2,this.2⟩
def xK {CX:CXT}{P:Program}{w:World}{K:jJa}{mg:Str->Option Value}{base:Heap}{N:List Str}{qual:Str}{sc:Scope}{f:Addr}{cd:Value}{A:Around}{outer:List Env}{s:Shared}{H:Hp}{E:XK}{N':List Str}{fr:List (Option Nat)}{scope:Scope}
  (nf:∀y∈sc.names,y.2≠.free) (h:Zw sc N N' fr scope=true):CompScope (wu CX P w K mg base N qual sc f cd A outer s H E) N' fr scope:=
 W6 (X:=wu CX P w K mg base N qual sc f cd A outer s H E) (fun x hx=>by
  rcases hx with hx|hx
  ·exact kj hx
  ·exact absurd rfl (nf _ (PySem.mem_of_lookup hx))) h
section
variable {X:Cx}{E:XK}{Γ Γ1 Γ' Γl:List Cl}{e:Expr}{t:Tn->R D}{c:Rc}{pos pos':Pos}
def MGs (X:Cx)(es:List Expr)(is:List Nat):Prop:=∃g,PGs X es g/\∀(vs:List V) (σ:St) (H:Hp) (Q:St->Hp->Prop),vs.length=is.length->Q (xm σ is vs) H->g vs σ H Q
def vv:MGs X [] []:=⟨z2w,Jj,fun vs σ H Q hl q=>by
 have:vs=[]:=List.length_eq_zero_iff.mp hl;subst this;exact⟨rfl,q⟩⟩
def yA {x:Expr}{es:List Expr}{i:Nat}{is:List Nat}(h:PG X x (vo i))(r:MGs X es is)(hs:autoParam ((assignEach (x::es) X.env).map (·.2)=assign x X.env::(assignEach es X.env).map (·.2)) au3._auto_1):MGs X (x::es) (i::is):=by
 obtain⟨g,p,q⟩:=r;refine⟨_,UG h p hs,fun vs σ H Q hl k=>?_⟩;cases vs with
 | nil=>cases hl
 | cons v vs=>exact⟨v,vs,rfl,q vs _ H Q (by simpa using hl) k⟩
def vC {es:List Expr}{k:Nat}{is:List Nat}(hc:X.calm=true)(h:MGs X es is)(hn:autoParam ((assignEach es X.env).length=is.length) au3._auto_1)(hst:autoParam ((assignEach es X.env).findIdx? (·.1)=none) au3._auto_1):MG X (.Tuple es k pos) (.many is):=by
 obtain⟨g,p,q⟩:=h;exact⟨g,z1S hc p hn hst,q⟩
def yO {i:Nat}{x:Expr}(h:PG X x (vo i)):MG X x (.one i):=h
def jI (g:Tgt)(t:Tn->R D):Tn->R Fl:=fun τ=>(t τ).bind fun d=>(g.asg d τ).bind fun τ1=>.ok (.nx τ1)
def XN {tg:Expr}{g:Tgt}(h:ME X E Γ e t c)(hc:c≠.bor)(hg:MG X tg g)(hn:∀i∈g.slots,i<Γ.length)(hs:autoParam (swapsWithSole [tg] e pos.line X.env=pure false) au3._auto_1)(hw:autoParam (swappedStores [tg] e X.env=pure none) au3._auto_1)
  (h1:autoParam ((assignEach [tg] X.env).map (·.2)=[assign tg X.env]) au3._auto_1):MS X E Γl Γ (.Assign [tg] e pos) (jI g t) (shrAll Γ g.slots):=by
 obtain⟨te,p,q⟩:=h;refine⟨_,ZC p hg.pg hs hw h1,fun B σ H τ Z ok h=>?_⟩;obtain⟨O,eo,Od,hB⟩:=ok.base;refine q O σ H τ _ eo ?_;unfold jI at h;cases ht:t τ with
 | ok d =>
  rw[ht,jYa]at h;refine fun v H' L s r k=>?_;obtain⟨B1,sB,ok1,hB1⟩:=hB H' s;have hL:∀a∈L,B1 a≠none:=fun a ha=>by rw[hB1 a (k.shr eo.dom hc a ha)];exact r.there ha
  cases ha:g.asg d τ with
  | ok τ1 =>
   rw[ha,jYa]at h;exact W4 ok1 r hL hn ha fun σ1 ok2=>h σ1 H' (ok2.rebase sB)
  | err n =>
   cases g with
   | one i=>cases ha
   | many is =>
    unfold Tgt.asg at ha;split at ha
    ·cases ha
    ·split at ha<;>cases ha
    ·cases ha
  | bad=>rw[ha]at h;exact h.elim
 | err n=>rw[ht]at h;exact fun C H' e s=>h C H' e (ok.ext.trans s)
 | bad=>rw[ht]at h;exact h
def wD (i:Nat)(g:D->D->R D)(t:Tn->R D):Tn->R Fl:=fun τ=>(zc i τ).bind fun x=>(t τ).bind fun y=>(g x y).bind fun z=>.ok (.nx (τ.set i (some z)))
def z1J {i:Nat}{x:Str}{op:Operator}{r:R2}{g:D->D->R D}{k:Cl}(hN:X.N.Nodup)(hi:X.N[i]?=some x)(hk:Γ[i]?=some k)(hkd:k≠.dead)(hB:OpB X.K r g)(hn:wG g)(ho:PIp X op r)(h:ME X E Γ e t c)(hx:Loc X.env.scope x)
  (hf:autoParam (X.fn x=true\/X.env.scope.names.lookup x=some .local) au0._auto_1):MS X E Γl Γ (.AugAssign (.Name x pos') op e pos) (wD i g t) (Γ.set i .own):=by
 obtain⟨te,p,q⟩:=h;refine⟨_,z24 hN hi hx p ho hf,fun B σ H τ Z ok h=>?_⟩;obtain⟨O,eo,_⟩:=ok.eok;obtain⟨v,d,L,e1,e2,e3,_⟩:=eo.slot i k hk hkd;refine⟨v,e1,q O σ H τ _ eo ?_⟩;unfold wD at h;have ev:zc i τ=.ok d:=by unfold zc;rw[e2]
 rw[ev,jYa]at h;have hl:i<Γ.length:=(tV.mp hk).1;cases ht:t τ with
 | ok dy =>
  rw[ht,jYa]at h;refine fun y H1 Ly s1 ry _=>?_;cases hg:g d dy with
  | ok dz =>
   rw[hg,jYa]at h;refine hB H1 v y d dy L Ly _ (e3.same s1) ry ⟨dz,hg,fun z H2 L2 s2 rz n1 n2=>h _ _ ?_⟩;have ok2:=(ok.same s1).aside s2 (fun a ha=>rz.there ha) n1 n2;exact SOk.into (T:=[]) ok2 rz hl
  | err n=>exact absurd hg (hn _ _ _)
  | bad=>rw[hg]at h;exact h.elim
 | err n=>rw[ht]at h;exact fun C H' e s=>h C H' e (ok.ext.trans s)
 | bad=>rw[ht]at h;exact h
theorem PIp.or {op:Operator}{r r':R2}(h:PIp X op r)(h':PIp X op r'):PIp X op (fun x y H Q=>r x y H Q\/r' x y H Q):=by
 intro pins s σ H x y v u Q I r1 r2 z;rcases z with z|z
 ·exact h pins s σ H x y v u Q I r1 r2 z
 ·exact h' pins s σ H x y v u Q I r1 r2 z
def wF:D->D->R D
 | .int i,.int j=>.ok (.int (i+j))
 | .str x,.str y=>if x.length+y.length<=sizeLine then .ok (.str (x++y)) else .bad
 | _,_=>.bad
def qm:wG wF:=fun x y n h=>by
 unfold wF at h;split at h
 ·cases h
 ·split at h<;>cases h
 ·cases h
def vQ:PIp X .Add (fun x y H Q=>ipI (fun i j=>i+j) x y H Q\/∃i j,x=.str i/\y=.str j/\i.length+j.length<=sizeLine/\Q (.str (i++j)) H):=PIp.or z1q fun pins s σ H x y v u Q I r1 r2 z=>X7 pins s σ H x y v u Q I r1 r2 z
def qx {K:jJa}:OpB K (fun x y H Q=>ipI (fun i j=>i+j) x y H Q\/∃i j,x=.str i/\y=.str j/\i.length+j.length<=sizeLine/\Q (.str (i++j)) H) wF:=by
 rintro H x y dx dy Lx Ly Q rx ry ⟨d,hg,q⟩;unfold wF at hg;split at hg
 ·cases hg;exact .inl ⟨_,_,rx.1,ry.1,q _ H [] (Same.refl H) ⟨rfl,rfl⟩ (by simp) (fun a ha=>nomatch ha)⟩
 ·split at hg
  ·rename_i hz;cases hg;exact .inr ⟨_,_,rx.1,ry.1,hz,q _ H [] (Same.refl H) ⟨rfl,rfl⟩ (by simp) (fun a ha=>nomatch ha)⟩
  ·cases hg
 ·cases hg
structure Bl (mg:Str->Option Value):Prop where
 isinstance:mg "isinstance"=none
 int:mg "int"=none
 bool:mg "bool"=none
 str:mg "str"=none
 dict:mg "dict"=none
 list:mg "list"=none
 tuple:mg "tuple"=none
 len:mg "len"=none
 sum:mg "sum"=none
 max:mg "max"=none
 min:mg "min"=none
 all:mg "all"=none
 range:mg "range"=none
 enumerate:mg "enumerate"=none
 zip:mg "zip"=none
end
section
variable {X:Cx}{E:XK}{Γ Γ1 Γ' Γl:List Cl}{e:Expr}{t:Tn->R D}{c:Rc}{pos pos':Pos}
def mn (i:Nat)(k:Cl){x:Str}(hN:autoParam (X.N[i]?=some x) au3._auto_1)(hk:autoParam (Γ[i]?=some k) au3._auto_1)(hd:autoParam (k≠.dead) au1._auto_1)(hv:autoParam (Vis X.env.scope x) au4._auto_1)(hb:autoParam ((x==("__debug__":Str))=false) au1._auto_1)(hcd:autoParam ((x==("__classdict__":Str))=false) au1._auto_1):
  ME X E Γ (.Name x pos) (zc i) (Rc.of k):=JX hN hk hd hv hb hcd
def mvn (i:Nat){x:Str}(hN:autoParam (X.N[i]?=some x) au3._auto_1)(hk:autoParam (Γ[i]?=some .own) au3._auto_1)(hv:autoParam (Vis X.env.scope x) au4._auto_1)(hb:autoParam ((x==("__debug__":Str))=false) au1._auto_1)(hcd:autoParam ((x==("__classdict__":Str))=false) au1._auto_1):
  MV X E Γ (.Name x pos) (zc i) (Γ.set i .dead):=Ji hN hk hv hb hcd
def st (i:Nat){x:Str}(nd:X.N.Nodup)(h:MV X E Γ e t Γ1)(hi:autoParam (X.N[i]?=some x) au3._auto_1)(hl:autoParam (i<Γ1.length) au1._auto_1)(hx:autoParam (Loc X.env.scope x) au7._auto_1)(hs:autoParam (swapsWith e (some (.Name x pos')) pos.line X.env=pure false) au3._auto_1)(hf:autoParam (X.fn x=true\/X.env.scope.names.lookup x=some .local) au0._auto_1):
  MS X E Γl Γ (.Assign [.Name x pos'] e pos) (zo i t) (Γ1.set i .own):=z1n nd hi hl h hx hs hf
def stS (i:Nat){x:Str}(nd:X.N.Nodup)(h:ME X E Γ e t c)(hc:autoParam (c≠.bor) au1._auto_1)(hi:autoParam (X.N[i]?=some x) au3._auto_1)(hl:autoParam (i<Γ.length) au1._auto_1)(hx:autoParam (Loc X.env.scope x) au7._auto_1)(hs:autoParam (swapsWith e (some (.Name x pos')) pos.line X.env=pure false) au3._auto_1)(hf:autoParam (X.fn x=true\/X.env.scope.names.lookup x=some .local) au0._auto_1):
  MS X E Γl Γ (.Assign [.Name x pos'] e pos) (zo i t) (Γ.set i .shr):=JH nd hi hl h hc hx hs hf
def pgn (i:Nat){x:Str}(nd:X.N.Nodup)(hi:autoParam (X.N[i]?=some x) au3._auto_1)(hx:autoParam (Loc X.env.scope x) au7._auto_1)(hf:autoParam (X.fn x=true\/X.env.scope.names.lookup x=some .local) au0._auto_1):PG X (.Name x pos) (vo i):=JD nd hi hx hf
def app (i:Nat){x:Str}{p0 p1 p2:Pos}(h:MV X E Γ e t Γ1)(hN:autoParam (X.N[i]?=some x) au3._auto_1)(h0:autoParam (Γ[i]?=some .own) au3._auto_1)(hk:autoParam (Γ1[i]?=some .own) au3._auto_1)(hv:autoParam (Vis X.env.scope x) au4._auto_1)(hb:autoParam ((x==("__debug__":Str))=false) au1._auto_1)(hcd:autoParam ((x==("__classdict__":Str))=false) au1._auto_1)
  (hbase:autoParam (attributeBase (.Name x p0) "append" X.env (eval (.Name x p0) X.env)=eval (.Name x p0) X.env) au3._auto_1)
  (hfew:autoParam (((backTo p2 (starEach [e] X.env)).all (fun x=>!x.1)&&(backToKw p2 (keywordEach [] X.env)).all (fun x=>x.1.isSome)&&decide ([e].length+([]:List Keyword).length+(if ([]:List Keyword).isEmpty then 0 else 1)<30))=true) au3._auto_1)
  (hline:autoParam ((p1.endLine==p2.line)=true) au3._auto_1) (hs:autoParam (starEach [e] X.env=(false,eval e X.env)::starEach [] X.env) au3._auto_1) (hplain:autoParam ((backTo p2 (starEach [] X.env)).any (·.1)=false) au3._auto_1)
  (hsw:autoParam (swapsWith (.Call (.Attribute (.Name x p0) "append" p1) [e] [] p2) none pos.line X.env=pure false) au3._auto_1):
  MS X E Γl Γ (.Expr (.Call (.Attribute (.Name x p0) "append" p1) [e] [] p2) pos) (vI i t) Γ1:=Uk hN h0 h hk hv hb hcd hbase hfew hline hs hplain hsw
def put (i:Nat){x:Str}{p0 p1:Pos}{ix:Expr}{ti:Tn->R D}(h:MV X E Γ e t Γ1)(hi:ME X E Γ1 ix ti c)(hN:autoParam (X.N[i]?=some x) au3._auto_1)(hk:autoParam (Γ1[i]?=some .own) au3._auto_1)(hv:autoParam (Vis X.env.scope x) au4._auto_1)(hb:autoParam ((x==("__debug__":Str))=false) au1._auto_1)(hcd:autoParam ((x==("__classdict__":Str))=false) au1._auto_1)
  (ha:autoParam (∀v,assign (.Subscript (.Name x p0) ix p1) X.env v=(do
   let ov <-holding [v] (eval (.Name x p0) X.env)
   let iv <-holding [v,ov] (eval ix X.env)
   standAt p1
   holding [v,ov,iv] (setItem ov iv v)
   release [v,ov,iv] [])) au2._auto_1)
  (hs:autoParam (swapsWithSole [.Subscript (.Name x p0) ix p1] e pos.line X.env=pure false) au3._auto_1) (hw:autoParam (swappedStores [.Subscript (.Name x p0) ix p1] e X.env=pure none) au3._auto_1)
  (h1:autoParam ((assignEach [.Subscript (.Name x p0) ix p1] X.env).map (·.2)=[assign (.Subscript (.Name x p0) ix p1) X.env]) au3._auto_1):
  MS X E Γl Γ (.Assign [.Subscript (.Name x p0) ix p1] e pos) (Ua i t ti) Γ1:=z1j hN h hi hk hv hb hcd ha hs hw h1
def aug (i:Nat)(k:Cl){x:Str}{op:Operator}{r:R2}{g:D->D->R D}(nd:X.N.Nodup)(hB:OpB X.K r g)(hn:wG g)(ho:PIp X op r)(h:ME X E Γ e t c)(hi:autoParam (X.N[i]?=some x) au3._auto_1)(hk:autoParam (Γ[i]?=some k) au3._auto_1)(hkd:autoParam (k≠.dead) au1._auto_1)(hx:autoParam (Loc X.env.scope x) au7._auto_1)
  (hf:autoParam (X.fn x=true\/X.env.scope.names.lookup x=some .local) au0._auto_1):MS X E Γl Γ (.AugAssign (.Name x pos') op e pos) (wD i g t) (Γ.set i .own):=z1J nd hi hk hkd hB hn ho h hx hf
def stC (i:Nat){x:Str}{N':List Str}{fr:List (Option Nat)}{scope:Scope}{tg iter elt:Expr}{ifs:List Expr}{it:Tn->R (List D)}{g:Tgt}{cnd:Tn->R Bool}{te:Tn->R D}{ci:Rc}{cpos:Pos}(nd:X.N.Nodup)(hc:X.calm=true)(S:CompScope X N' fr scope)(hi:MI X E Γ tg iter it ci)
  (hg:∀s₃ H₃ fp pins,MG (y4 X scope N' s₃ H₃ fp pins) tg g) (ht:∀s₃ H₃ fp pins,MTs (y4 X scope N' s₃ H₃ fp pins) noX (yY (Cl.ofIt ci) (yM fr Γ) g.slots) ifs cnd)
  (he:∀s₃ H₃ fp pins,ME (y4 X scope N' s₃ H₃ fp pins) noX (yY (Cl.ofIt ci) (yM fr Γ) g.slots) elt te .fresh) (hd:∀j∈g.slots,(yM fr Γ)[j]?=some .dead)
  (hix:autoParam (X.N[i]?=some x) au3._auto_1) (hl:autoParam (i<Γ.length) au1._auto_1) (hx:autoParam (Loc X.env.scope x) au7._auto_1) (hsw:autoParam (swapsWith (.ListComp elt [⟨tg,iter,ifs,0⟩] scope cpos) (some (.Name x pos')) pos.line X.env=pure true) au3._auto_1)
  (hs:autoParam (∀x,foldedSetIterable iter X.env x=pure x) au2._auto_1) (hf:autoParam (X.fn x=true\/X.env.scope.names.lookup x=some .local) au0._auto_1):
  MS X E Γl Γ (.Assign [.Name x pos'] (.ListComp elt [⟨tg,iter,ifs,0⟩] scope cpos) pos) (zo i (yg fr it g cnd te)) (Γ.set i .own):=Jh hc S hi hg ht he hd nd hix hl hx hsw hs hf
end
section
variable {P:Program}{w:World}{K:jJa}{mg:Str->Option Value}{base:Heap}{x:Str}{st:Stmt}{N ps:List Str}{k:Nat}{t:Tn->R Fl}{Γ':List Cl}
end
theorem qH:∀ns:List Int,D.imms (ns.map D.int)=true
 | []=>rfl
 | n::ns=>by rw[tG];show (true&&D.imms (ns.map D.int))=true;rw[qH ns];rfl
theorem ua {K:jJa}{H:Hp}:∀ns:List Int,Reps K H (ns.map D.int) (ns.map V.int) []
 | []=>Reps.nil
 | n::ns=>Reps.cons (L1:=[]) ⟨rfl,rfl⟩ (ua ns)
section
variable {i j:Int}{C:Int->Int->Bool}{g:Int->Int->D}
def zQ:zI (.int i) (.int j)=.ok (.int (i+j)):=rfl
def J3:L2.intD C g (.int i) (.int j)=if C i j=true then .ok (g i j) else .bad:=rfl
def Jx (h1:-(2 ^ 64)<j)(h2:j<2 ^ 64):xp (.int i) (.int j)=.ok (.int (i*j)):=by
 have:((decide (-(2 ^ 64)<i)&&decide (i<2 ^ 64))||(decide (-(2 ^ 64)<j)&&decide (j<2 ^ 64)))=true:=by rw[decide_eq_true h1,decide_eq_true h2];simp
 exact if_pos this
def Jt (h1:-(2 ^ 64)<i)(h2:i<2 ^ 64):xp (.int i) (.int j)=.ok (.int (i*j)):=by
 have:((decide (-(2 ^ 64)<i)&&decide (i<2 ^ 64))||(decide (-(2 ^ 64)<j)&&decide (j<2 ^ 64)))=true:=by rw[decide_eq_true h1,decide_eq_true h2];simp
 exact if_pos this
def ZK (h1:-18446744073709551616<j)(h2:j<18446744073709551616):xp (.int i) (.int j)=.ok (.int (i*j)):=Jx (by lia) (by lia)
def vz (h1:-18446744073709551616<i)(h2:i<18446744073709551616):xp (.int i) (.int j)=.ok (.int (i*j)):=Jt (by lia) (by lia)
def u4 (h1:0<j)(h2:j<1073741824):yx (.int i) (.int j)=.ok (.int (i/j)):=by
 simp[yx,J3,h1,h2]
def wR (h1:0<j):yf (.int i) (.int j)=.ok (.int (i%j)):=by
 simp[yf,J3,h1]
def xY {neg:Bool}:eqR neg (.int i) (.int j)=.ok (.bl (if neg=true then !(i==j) else i==j)):=by
 cases neg<;>rfl
end
def z1Q {α:Type}{xs:List α}{i:Int}{x:α}(h0:0<=i)(h:xs[i.toNat]?=some x):atI xs i=some x:=by
 have hj:i.toNat<xs.length:=(tV.mp h).1;have:=wd h;rw[Int.toNat_of_nonneg h0]at this;exact this
def qG {ds:List D}{i:Int}{d:D}(h:atI ds i=some d):ixD (.lst ds) (.int i)=.ok d:=by show (match atI ds i with|some d=>R.ok d|none=>R.bad)=_;rw[h]
def z1H {ds:List D}{i:Int}{d:D}(h:atI ds i=some d):ixD (.frl ds) (.int i)=.ok d:=by show (match atI ds i with|some d=>R.ok d|none=>R.bad)=_;rw[h]
def QZ {a:D}{ds:List D}:ixD (.tup (a::ds)) (.int 0)=.ok a:=by
 have:atI (a::ds) 0=some a:=wd (j:=0) rfl;show (match atI (a::ds) 0 with|some d=>R.ok d|none=>R.bad)=_;rw[this]
def Uq {a b:D}{ds:List D}:ixD (.tup (a::b::ds)) (.int 1)=.ok b:=by
 have:atI (a::b::ds) 1=some b:=wd (j:=1) rfl;show (match atI (a::b::ds) 1 with|some d=>R.ok d|none=>R.bad)=_;rw[this]
def Ux {a b c:D}{ds:List D}:ixD (.tup (a::b::c::ds)) (.int 2)=.ok c:=by
 have:atI (a::b::c::ds) 2=some c:=wd (j:=2) rfl;show (match atI (a::b::c::ds) 2 with|some d=>R.ok d|none=>R.bad)=_;rw[this]
def z0Q {a b c d:D}{ds:List D}:ixD (.tup (a::b::c::d::ds)) (.int 3)=.ok d:=by
 have:atI (a::b::c::d::ds) 3=some d:=wd (j:=3) rfl;show (match atI (a::b::c::d::ds) 3 with|some d=>R.ok d|none=>R.bad)=_;rw[this]
def WA {ds:List D}:xh [.lst ds]=.ok (.int ds.length):=rfl
def Vd {ds:List D}:xh [.frl ds]=.ok (.int ds.length):=rfl
theorem wO:∀ns:List Int,yz (ns.map D.int)=some ns
 | []=>rfl
 | n::ns=>by rw[tG];show (yz (ns.map D.int)).map (n::·)=_;rw[wO ns];rfl
def XG {ns:List Int}:vJ [.lst (ns.map D.int)]=.ok (.int ns.sum):=by
 simp only[vJ,wO]
theorem xj {α:Type}{f:α->D}(h:∀a,(f a).imm=true):∀xs:List α,D.imms (xs.map f)=true
 | []=>rfl
 | x::xs=>by rw[tG];show ((f x).imm&&D.imms (xs.map f))=true;rw[h,xj h xs];rfl
theorem ue {asg:D->Tn->R Tn}{body:Tn->R Fl}(Iv:Nat->Tn->Prop):∀(ds:List D) (k:Nat) (τ:Tn),Iv k τ ->
  (∀i d τ,ds[i]?=some d->Iv (k+i) τ->∃τ1 τ2,asg d τ=.ok τ1/\(body τ1=.ok (.nx τ2)\/body τ1=.ok (.ct τ2))/\Iv (k+i+1) τ2)->∃τ',yL asg body ds τ=.ok (.nx τ')/\Iv (k+ds.length) τ'
 | [],k,τ,h0,_=>⟨τ,rfl,h0⟩
 | d::ds,k,τ,h0,hs=>by
  obtain⟨τ1,τ2,e1,e2,h2⟩:=hs 0 d τ rfl h0;obtain⟨τ',e3,h3⟩:=ue Iv ds (k+1) τ2 (by simpa using h2) fun i d' τ' hd hi=>by
   obtain⟨τ3,τ4,a,b,c⟩:=hs (i+1) d' τ' (by simpa using hd) (by rw[<-Nat.add_assoc,Nat.add_right_comm];exact hi);have e:k+1+i+1=k+(i+1)+1:=by lia
   exact⟨τ3,τ4,a,b,e▸c⟩
  refine⟨τ',?_,by rw[tF,Nat.add_comm ds.length 1,<-Nat.add_assoc];exact h3⟩;unfold yL;rw[e1,jYa];rcases e2 with e2|e2<;>rw[e2,jYa]<;>exact e3
theorem w6 {α:Type}{enc:α->D}{f:D->R (Option D)}{o:α->Option D}:∀ {xs:List α},(∀x∈xs,f (enc x)=.ok (o x))->xo f (xs.map enc)=.ok (xs.filterMap o)
 | [],_=>rfl
 | x::xs,h=>by
  rw[tG];unfold xo;rw[h x tU,jYa,w6 fun y hy=>h y (tW _ hy),jYa];cases ho:o x with
  | none=>simp[rC,ho]
  | some d=>simp[rC,ho]
def qS {f:D->R (Option D)}{o:Nat->Option D}{lo:Int}{n:Nat}(h:∀i,i<n->f (.int (lo+i))=.ok (o i)):xo f (rng lo n)=.ok ((List.range n).filterMap o):=
 w6 (enc:=fun (i:Nat)=>.int (lo+i)) fun i hi=>h i (rP.mp hi)
def Yc {lo:Int}{n i:Nat}{d:D}(h:(rng lo n)[i]?=some d):i<n/\d=.int (lo+i):=by
 unfold rng at h;rw[sJ]at h
 by_cases hi:i<n
 ·rw[pG hi]at h;exact⟨hi,(jYe h).symm⟩
 ·rw[pP (by simp;lia)]at h;cases h
def Y5 {lo:Int}{n:Nat}:(rng lo n).length=n:=by simp[rng]
def uU {j:Int}(h1:-(2 ^ 62)<=j)(h2:j<2 ^ 62):wJ [.int j]=.ok (rng 0 j.toNat):=if_pos ⟨h1,h2⟩
def Yj {i j:Int}(h1:-(2 ^ 62)<=i)(h2:i<2 ^ 62)(h3:-(2 ^ 62)<=j)(h4:j<2 ^ 62):uo [.int i,.int j]=.ok (rng i (j-i).toNat):=if_pos ⟨h1,h2,h3,h4⟩
def Zn {α:Type}(a:α):vW (R.ok a)=.ok a:=rfl
def UN {α:Type}{xs:List α}{a b:Nat}(hb:b<=xs.length)(hab:a<=b):kN xs (some (a:Int)) (some (b:Int))=(xs.drop a).take (b-a):=by
 unfold kN;rw[HT.sIx_nat,HT.sIx_nat];congr 1
 ·lia
 ·congr 1;lia
def zP {i j:Int}:yB (.int i) (.int j)=.ok (.int (i-j)):=rfl
def xH {i j:Int}:ltD (.int i) (.int j)=.ok (.bl (decide (i<j))):=rfl
def yr {i j:Int}:gtD (.int i) (.int j)=.ok (.bl (decide (j<i))):=rfl
def qD {i:Int}:vj (.int i)=.ok (.int (-i)):=rfl
def ZJ {ds:List D}{lo hi:Option Int}(h:D.imms ds=true):slD (.lst ds) lo hi=.ok (.lst (kN ds lo hi)):=if_pos h
def Xg {ds:List D}(h:D.imms ds=true):wM [.lst ds]=.ok (.lst ds):=if_pos h
def uI {α β:Type}(f:α->β)(xs:List α)(a n:Nat):((xs.map f).drop a).take n=((xs.drop a).take n).map f:=by
 rw[List.map_take,List.map_drop]
def uf {α β:Type}(f:α->β)(xs:List α):xs.filterMap (fun x=>some (f x))=xs.map f:=by
 induction xs with
 | nil=>rfl
 | cons x xs ih=>simp
theorem uS {f:D->D->Option Bool}:∀ {ds:List D},(∀d∈ds,f d d=some true)->yp f ds ds=some true
 | [],_=>rfl
 | d::ds,h=>by
  unfold yp;rw[h d tU,uS fun x hx=>h x (tW _ hx)]
  rfl
def uh (n:Nat)(i j:Int):eqF n (.int i) (.int j)=some (i==j):=by cases n<;>rfl
def Vo (n:Nat)(i j:Str):eqF n (.str i) (.str j)=some (i==j):=by cases n<;>rfl
def WR (n:Nat){xs:List D}(h:∀d∈xs,eqF n d d=some true):eqF (n+1) (.tup xs) (.tup xs)=some true:=by
 show (yp (eqF n) xs xs).map _=_;rw[uS h];simp
def ZY (n:Nat){xs:List D}(h:∀d∈xs,eqF n d d=some true):eqF (n+1) (.lst xs) (.lst xs)=some true:=by
 show (if xs.length=xs.length then yp (eqF n) xs xs else some false)=_;rw[if_pos rfl,uS h]
def Ky (i:Nat)(τ:Tn)(ds:List D)(d:D):R Fl:=if ds.length<sizeLine then .ok (.nx (τ.set i (some (.lst (ds++[d]))))) else .bad
def z1f (i:Nat)(t:Tn->R D)(τ:Tn):D->R Fl
 | .lst ds=>(t τ).bind fun d=>Ky i τ ds d
 | _=>.bad
def xB {i:Nat}{t:Tn->R D}{τ:Tn}:vI i t τ=(zc i τ).bind (z1f i t τ):=by
 unfold vI z1f Ky
 rfl
def xC {i:Nat}{t:Tn->R D}{τ:Tn}{ds:List D}:z1f i t τ (.lst ds)=(t τ).bind fun d=>Ky i τ ds d:=rfl
def wb {i:Nat}{τ:Tn}{ds:List D}{d:D}(h:ds.length<16777216):Ky i τ ds d=.ok (.nx (τ.set i (some (.lst (ds++[d]))))):=if_pos (by rw[sizeLine_eq];exact h)
def U6 (ys:List D):R D:=if ys.length<=sizeLine then .ok (.lst ys) else .bad
def v9 {ys:List D}(h:ys.length<=16777216):U6 ys=.ok (.lst ys):=if_pos (by rw[sizeLine_eq];exact h)
def wq {fr:List (Option Nat)}{it:Tn->R (List D)}{g:Tgt}{c:Tn->R Bool}{e:Tn->R D}{τ:Tn}:yg fr it g c e τ=(it τ).bind fun xs=>(xo (wm g.asg c e (wN fr τ)) xs).bind U6:=rfl
def QP {τ:Tn}:wN [] τ=[]:=rfl
def QW {fr:List (Option Nat)}{τ:Tn}:wN (none::fr) τ=none::wN fr τ:=rfl
def QA {i:Nat}{fr:List (Option Nat)}{τ:Tn}:wN (some i::fr) τ=(τ[i]?).join::wN fr τ:=rfl
def WT {a:Option D}:(some a).join=a:=rfl
def XY (d:D):R D:=if d.imm=true then .ok d else .bad
def yn {t:Tn->R D}{τ:Tn}:yq t τ=(t τ).bind XY:=rfl
def wH {i:Int}:XY (.int i)=.ok (.int i):=rfl
def ud {ds:List D}(h:D.imms ds=true):XY (.tup ds)=.ok (.tup ds):=if_pos h
def u3:D.imms []=true:=rfl
def uk {i:Int}{ds:List D}:D.imms (.int i::ds)=D.imms ds:=pH _
def goF (asg:D->Tn->R Tn)(body:Tn->R Fl)(ds:List D):Fl->R Fl
 | .nx τ2=>yL asg body ds τ2
 | .ct τ2=>yL asg body ds τ2
 | .bk τ2=>.ok (.nx τ2)
 | .rt r=>.ok (.rt r)
def Js {asg:D->Tn->R Tn}{body:Tn->R Fl}{d:D}{ds:List D}{τ:Tn}:yL asg body (d::ds) τ=(asg d τ).bind fun τ1=>(body τ1).bind (goF asg body ds):=rfl
def z1c {asg:D->Tn->R Tn}{body:Tn->R Fl}{ds:List D}{τ:Tn}:goF asg body ds (.nx τ)=yL asg body ds τ:=rfl
def vx {it:Tn->R (List D)}{g:Tgt}{B:Tn->R Fl}{τ:Tn}{ds:List D}{f:R Fl}(h1:it τ=.ok ds)(h2:yL g.asg B ds τ=f):wz it g B τ=f:=by
 unfold wz;rw[h1];exact h2
section
variable {X:Cx}{E:XK}{Γ:List Cl}{e:Expr}{t:Tn->R D}{c:Rc}{pos p2:Pos}
end
def qd (lt:Int->Int->Bool)(f:Nat->Int):Nat->Int
 | 0=>f 0
 | k+1=>if lt (f (k+1)) (qd lt f k)=true then f (k+1) else qd lt f k
theorem X8 (lt:Int->Int->Bool)(f:Nat->Int):∀k,f (argBest (fun i j=>lt (f i) (f j)) k)=qd lt f k
 | 0=>rfl
 | k+1=>by
  have ih:=X8 lt f k;unfold argBest qd;rw[<-ih]
  by_cases h:lt (f (k+1)) (f (argBest (fun i j=>lt (f i) (f j)) k))=true
  ·rw[if_pos h,if_pos h]
  ·rw[if_neg h,if_neg h]
def km (ns:List Int):Int:=qd (fun i j=>decide (i<j)) (fun i=>ns.getD i 0) (ns.length-1)
def Wl (ys:List (Int×Tok))(i:Nat):numAt ys.toArray i=(ys.map (·.1)).getD i 0:=by
 unfold numAt;simp[List.getD]
def z09 (K:jJa):List V->Hp->VK->Prop:=fun xs H Q=>∃(p:Addr) (ns:List Int),xs=[.ref p]/\SqL K H p (ns.map V.int)/\0<ns.length/\Q (.int (km ns)) H
section
variable {X:Cx}
def Q4 {ys:List (Int×Tok)}{k:Nat}{v:Value}(h:(intItems ys.toArray)[k]?=some v):∃t,v=.int (numAt ys.toArray k) t:=by
 have:=intItems_at h
 simpa using this
def VW (hc:X.calm=true):CallR X (.builtin "min") (z09 X.K):=by
 intro pins s σ H xs us Q I r h;obtain⟨p,ns,rfl,hs,hn,q⟩:=h;obtain⟨u,rfl,ru⟩:=vL r;obtain rfl:u=Value.ref p:=ru;obtain⟨its,rv,pl,hz⟩:=I.list hs;obtain⟨ys,rfl,e⟩:=uP rv;have hl:s.heap.IsList p (intItems ys.toArray):=by
  have:=pl.isList
  simpa [intItems] using this
 subst e;refine min_intList (I.ok.hd hc) hl (by simpa using hn) fun v h' tk hv hk=>?_;obtain⟨t,rfl⟩:=Q4 hv;refine⟨.int (km (ys.map (·.1))),H,I.kept hk,⟨t,?_⟩,q⟩;have e1:=X8 (fun i j=>decide (i<j)) (numAt ys.toArray) (ys.toArray.size-1);rw[e1];unfold km;have e2:numAt ys.toArray=fun i=>(ys.map (·.1)).getD i 0:=funext fun i=>Wl ys i;rw[e2];simp
end
def YH (g:List Int->Int):List D->R D
 | [.lst ds]=>match yz ds with
  | some (n::ns)=>.ok (.int (g (n::ns)))
  | _=>.bad
 | _=>.bad
def qk:List D->R D:=YH km
def z1m {g:List Int->Int}:wX (YH g):=fun ds n h=>by
 unfold YH at h;split at h
 ·split at h<;>cases h
 ·cases h
def z1N:wX qk:=z1m
def z28 {K:jJa}:ClB K (z09 K) qk:=by
 rintro H xs ds L Q r ⟨d,hg,q⟩;unfold qk YH at hg;split at hg
 ·split at hg
  ·rename_i ds n ns hn;cases hg;obtain⟨v,rfl,a,vs,L',rfl,ha,_,rs⟩:=vD r;exact⟨a,n::ns,rfl,by rw[<-xT rs hn];exact SqL.of ha,by simp,q _ H [] (Same.refl H) ⟨rfl,rfl⟩ (by simp) (fun a ha=>nomatch ha)⟩
  ·cases hg
 ·cases hg
def Xh (a b:Int):Builtin.Range.rangeSize a b (-1)=if a>b then a-b else 0:=by
 unfold Builtin.Range.rangeSize;have h1:¬((-1:Int)>0):=by decide
 have h2:(-(-1):Int)=1:=rfl;simp only[h1,if_false,h2,Int.ediv_one];split<;>omega
def VU {a b:Int}(ha:-(2 ^ 62)<=a)(ha':a<2 ^ 62)(hb:-(2 ^ 62)<=b)(hb':b<2 ^ 62):Builtin.Range.small a b (-1)=true:=by
 have h1:¬((-1:Int)>0):=by decide
 unfold Builtin.Range.small;rw[Xh];simp only[Builtin.Range.rangeFitsLong,sR,Bool.or_eq_true,decide_eq_true_eq,beq_iff_eq,h1,if_false];split<;>omega
def Itn (lo:Int)(n:Nat):It:=⟨fun i _=>i<n,fun i H x H'=>H'=H/\x=.int (lo-i),fun i _=>n<=i⟩
def VB {P:Program}{w:World}{K:jJa}{tg:Expr}(it:Addr)(lo:Int)(n:Nat):Turn P w K tg (Itn lo n) [it] it (fun i h=>IsRangeIter h it (lo+(i:Nat)*(-1)) ((n:Int)-(i:Nat)) (-1)) where
 mem:=by simp
 obj:=fun i h st b hb=>by
  have e:b=it:=by simpa using hb
  subst e;exact⟨_,st,fun v z=>by
   have z':Data.fields _=Data.cell v:=z;cases z'⟩
 keep:=fun i h h' st k=>k it (by simp) _ st
 item:=by
  intro X hP hw hK hc i pins s σ H E I hf st hg;subst hP hw hK;obtain⟨f0,f1,f2,f3,f4,f5⟩:=hf it (by simp);have W:=Walks.range (prog:=X.prog) (w:=X.w) (I.ok.hd hc) it lo (-1) n;refine W.item i s _ _ hg st fun v h' tk hv st' kk=>?_;obtain⟨t,rfl⟩:=hv;have I1:Inv X pins σ H { s with heap:=h',toks:=tk }:=I.turned (fun b o hb e=>kk b o (by simpa using hb) e) f0 f1 f3 f4 f5;refine⟨_,rfl,Z1 (s:={ s with heap:=h',toks:=tk }) (n:="range_iterator") st' rfl rfl (by decide) ⟨.int (lo-i),H,I1,⟨t,?_⟩,⟨rfl,rfl⟩,st',fun b hb=>(hf b hb).1⟩⟩;have e:lo+(i:Int)*(-1)=lo-i:=by omega
  rw[e]
 done:=by
  intro X hP hw hK hc i pins s σ H E I hf st hg;subst hP hw hK;obtain⟨f0,f1,f2,f3,f4,f5⟩:=hf it (by simp);exact wpAny_pyNext_range_end (I.ok.hd hc) st (by have:n<=i:=hg;omega) fun h' eb=>⟨rfl,I.turned (t':=s.toks) (fun b o hb e=>eb b o hb e) f0 f1 f3 f4 f5⟩
 self:=fun _ _ _ _ _ st h=>wpAny_pyIter_rangeiter st h
section
variable {X:Cx}{tg:Expr}
def Jz {pins:List (Addr×Obj)}{σ:St}{H:Hp}{s:Shared}{R:It->Hp->Prop}{E:Value->Shared->Prop}{lo hi:Int}{t u v:Tok}{tk:Nat}(I:Inv X pins σ H s)(h1:-(2 ^ 62)<=lo)(h2:lo<2 ^ 62)(h3:-(2 ^ 62)<=hi)(h4:hi<2 ^ 62)
  (q:R (Itn lo (lo-hi).toNat) H):wpAny (model X.prog X.w) X.A (pyIter (.ref s.heap.objs.size)) (PIE X pins σ tg R) E { s with heap:=s.heap.push { cls:=.type "range",data:=.fields #[.int lo t,.int hi u,.int (-1) v] },toks:=tk }:=by
 refine wpAny_pyIter_range (IsRange.new ..) (VU h1 h2 h3 h4) ?_;have I1:Inv X pins σ H { s with heap:=s.heap.push { cls:=.type "range",data:=.fields #[.int lo t,.int hi u,.int (-1) v] },toks:=tk }:=I.kept fun b o e=>jYb _ e;refine⟨(s.heap.push { cls:=.type "range",data:=.fields #[.int lo t,.int hi u,.int (-1) v] }).objs.size,[(s.heap.push { cls:=.type "range",data:=.fields #[.int lo t,.int hi u,.int (-1) v] }).objs.size],_,_,H,rfl,
  I1.kept (t':=tk) fun b o e=>jYb _ e,VB _ lo (lo-hi).toNat,?_,fun b hb=>?_,q⟩
 ·have e1:lo+((0:Nat):Int)*(-1)=lo:=by simp
  have e2:(((lo-hi).toNat:Nat):Int)-((0:Nat):Int)=Builtin.Range.rangeSize lo hi (-1):=by rw[Xh];split<;>omega
  show IsRangeIter _ _ (lo+((0:Nat):Int)*(-1)) ((((lo-hi).toNat:Nat):Int)-((0:Nat):Int)) (-1);rw[e1,e2];exact jYd _ rfl
 ·have e:b=(s.heap.push { cls:=.type "range",data:=.fields #[.int lo t,.int hi u,.int (-1) v] }).objs.size:=by simpa using hb
  subst e;exact I1.fpOk (tQ _) (I1.hok.fresh (tQ _))
def V7 (ta:TA):TI:=fun σ H R=>ta σ H fun vs H1=>∃i j:Int,vs=[.int i,.int j,.int (-1)]/\(-(2 ^ 62)<=i/\i<2 ^ 62/\-(2 ^ 62)<=j/\j<2 ^ 62)/\R (Itn i (i-j).toNat) H1
def VX {a b c:Expr}{ta:TA}{p pos:Pos}(hg:Gl X "range")(hm:X.mg "range"=none)(ha:PA X [a,b,c] ta)(hs:autoParam (starEach [a,b,c] X.env=[(false,eval a X.env),(false,eval b X.env),(false,eval c X.env)]) au3._auto_1)(hs2:autoParam (starEach [b,c] X.env=[(false,eval b X.env),(false,eval c X.env)]) au3._auto_1):
  PI X tg (.Call (.Name "range" p) [a,b,c] [] pos) (V7 ta):=by
 intro pins s σ H R I h;refine Call_ (uT I hg hm boot_range (PyProof.Rows.callWith_type1 (thn (ha pos pins s σ H _ I h) fun us s1 ⟨vs,H1,I1,r1,q1⟩=>?_) (by rw[hs,hs2]) (by rw[hs2];rfl)));obtain⟨i,j,e,⟨q1,q2,q3,q4⟩,q⟩:=q1;subst e;cases r1 with
 | cons r rr =>
  cases rr with
  | cons r' rr =>
   cases rr with
   | cons r'' rr =>
    cases rr;obtain⟨t,rfl⟩:=r;obtain⟨t',rfl⟩:=r';obtain⟨t'',rfl⟩:=r'';exact call_range_3 (by decide) (Jz I1 q1 q2 q3 q4 q) (Or.inl (PyProof.noPylong_small (by omega)))
end
section
variable {X:Cx}{E:XK}{Γ:List Cl}{tg:Expr}{u:Tn->R (List D)}{c:Rc}{p pos:Pos}
end
def vOf:D->V
 | .non=>.non
 | .bl b=>.bl b
 | .int i=>.int i
 | .str s=>.str s
 | _=>.non
def jE {K:jJa}{H:Hp}{d:D}{v:V}{L:List Addr}(r:Rep K H d v L)(h:d.isS=true):v=vOf d/\uC v=true:=by
 cases d with
 | non=>exact⟨r.1,by rw[r.1];rfl⟩
 | bl b=>exact⟨r.1,by rw[r.1];rfl⟩
 | int i=>exact⟨r.1,by rw[r.1];rfl⟩
 | str s=>exact⟨r.1,by rw[r.1];rfl⟩
 | _=>exact absurd h (by simp[D.isS])
def Jr {a b:D}(ha:a.isS=true)(hb:b.isS=true):eqV (vOf a) (vOf b)=eqS a b:=by
 cases a<;>cases b<;>first|rfl|(simp[D.isS]at ha;done)|(simp[D.isS]at hb;done)
theorem qF {K:jJa}{H:Hp}:∀ {ds:List D} {vs:List V} {L:List Addr},Reps K H ds vs L->ds.all D.isS=true->vs=ds.map vOf/\vs.all uC=true
 | [],_,_,hq3,_=>by
  obtain⟨e,_⟩:=hq3;subst e;exact⟨rfl,rfl⟩
 | d::ds,_,_,hq3,h=>by
  obtain⟨v,vs',L1,L2,e1,e2,r1,r2⟩:=hq3;subst e1;rw[pQ,sR]at h;obtain⟨a,b⟩:=jE r1 h.1;obtain⟨c,d⟩:=qF r2 h.2;refine⟨by rw[tG,<-a,<-c],by rw[pQ,b,d];rfl⟩
theorem ZG {x:D}(hx:x.isS=true):∀ {ds:List D},ds.all D.isS=true->inV (vOf x) (ds.map vOf)=ds.any fun d=>eqS d x
 | [],_=>rfl
 | d::ds,h=>by
  rw[pQ,sR]at h;have ih:=ZG hx (ds:=ds) h.2;unfold inV at *;rw[tG,gF,gF,ih,Jr h.1 hx]
def inD (neg:Bool)(x y:D):R D:=match y with
 | .lst ds=>if (x.isS&&ds.all D.isS)=true then .ok (.bl (if neg=true then !(ds.any fun d=>eqS d x) else ds.any fun d=>eqS d x)) else .bad
 | .tup ds=>if (x.isS&&ds.all D.isS)=true then .ok (.bl (if neg=true then !(ds.any fun d=>eqS d x) else ds.any fun d=>eqS d x)) else .bad
 | _=>.bad
def z45 {neg:Bool}:wG (inD neg):=fun x y n h=>by
 unfold inD at h;split at h
 ·split at h<;>cases h
 ·split at h<;>cases h
 ·cases h
def z3Q {K:jJa}{neg:Bool}:OpB K (rIn K neg) (inD neg):=by
 rintro H x y dx dy Lx Ly Q rx ry ⟨d,hg,q⟩;unfold inD at hg;split at hg
 ·rename_i ds;split at hg
  ·rename_i hz;cases hg;rw[sR]at hz;obtain⟨a,vs,L',rfl,ha,_,rs⟩:=ry;obtain⟨e1,f1⟩:=jE rx hz.1;obtain⟨e2,f2⟩:=qF rs hz.2;refine⟨a,vs,rfl,.inl (SqL.of ha),f1,f2,?_⟩;rw[e1,e2,ZG hz.1 hz.2];exact q _ H [] (Same.refl H) ⟨rfl,rfl⟩ (by simp) (fun a ha=>nomatch ha)
  ·cases hg
 ·rename_i ds;split at hg
  ·rename_i hz;cases hg;rw[sR]at hz;obtain⟨a,vs,rfl,ha,rs⟩:=ry;obtain⟨e1,f1⟩:=jE rx hz.1;obtain⟨e2,f2⟩:=qF rs hz.2;refine⟨a,vs,rfl,.inr ha,f1,f2,?_⟩;rw[e1,e2,ZG hz.1 hz.2];exact q _ H [] (Same.refl H) ⟨rfl,rfl⟩ (by simp) (fun a ha=>nomatch ha)
  ·cases hg
 ·cases hg
section
variable {X:Cx}
end
section
variable {X:Cx}{E:XK}{Γ:List Cl}{o e:Expr}{es:List Expr}{t:Tn->R D}{u:Tn->R (List D)}{c ca:Rc}{name:Str}{apos cpos:Pos}{id:String}
end
theorem TupN.push {h:Heap}{a:Addr}{items:Array Value}(x:TupN h a items)(o:Obj):TupN (h.push o) a items:=let ⟨o',ho,r⟩:=x;⟨o',jYb o ho,r⟩
theorem TupN.at {h h':Heap}{a:Addr}{items:Array Value}(x:TupN h a items)(k:∀b o,h.get? b=some o->h'.get? b=some o):TupN h' a items:=let ⟨o',ho,r⟩:=x;⟨o',k _ _ ho,r⟩
def TupN.isTuple {h:Heap}{a:Addr}{items:Array Value}(x:TupN h a items):h.IsTuple a items:=x.tup
def uM {h h':Heap}{a:Addr}{items:Array Value}(x:h.IsTuple a items)(k:∀b o,h.get? b=some o->h'.get? b=some o):h'.IsTuple a items:=let ⟨o',ho,r⟩:=x;⟨o',k _ _ ho,r⟩
theorem Inv.tupN {X:Cx}{pins:List (Addr×Obj)}{σ:St}{H:Hp}{s:Shared}{a:Addr}{xs:List V}(I:Inv X pins σ H s)(h:SqT X.K H a xs):∃its:List Value,Vals xs its/\TupN s.heap a its.toArray/\xs.length<=sizeLine:=by
 rcases h with h|⟨o,its,n,hk,hc,hn,hs,hz,r⟩
 ·obtain⟨z,its,r,p⟩:=h.ok I.hok;exact⟨its,r,p,z⟩
 ·refine⟨its.toList,r,⟨o,I.kIn a o hk,hc,hn,n,by simpa using hs⟩,?_⟩;have e:=r.length;simp only[Array.length_toList]at e;omega
def ja:typeLookup (.type "tuple") "keys"=pure none:=by rw[typeLookup_type,builtinLookup_eq_fast];kernel_rfl
set_option maxRecDepth 8000 in
def ur {prog:Program}{w:World}{A:Around}{E:Value->Shared->Prop}{s:Shared}{a:Addr}{o:Obj}{xs:Array Value}{k:Nat}{name:Str}{Q:Option Value->Shared->Prop}
  (hx:s.heap.get? a=some o) (hc:o.cls=.type "tuple") (hdat:o.data=.seq xs k) (hd:o.dict=none) (hmiss:typeLookup (.type "tuple") name=pure none) (hname:(["__module__","__name__","__qualname__","__doc__","__annotations__"]:List Str).contains name=false) (hA:A.handled=none)
  (h:∀h' tk,(∀b o,s.heap.get? b=some o->h'.get? b=some o)->Q none { s with heap:=h',toks:=tk }) (hsz:autoParam (name.length+100<=sizeLine) au8._auto_1):
  wpAny (model prog w) A (getAttr? (.ref a) name) Q E s:=by
 obtain⟨c,dct,dat,sl⟩:=o;simp only at hc hdat hd;subst hc hdat hd;obtain⟨hp,g,d,tk,os⟩:=s;have hT:∀tk',(⟨hp,g,d,tk',os⟩:Shared).TypeIs (.ref a) "tuple":=fun _=>⟨_,hx,rfl⟩
 have f1:=sub_AttributeError;have f3:=PySem.F.slot_tuple_getattribute.lookup;have f4:=PySem.F.slot_tuple_getattribute.bind (.ref a);have f5:=am_tuple_getattr_none;unfold getAttr? getAttrBy? getAttrBy
 repeat (any_goals (first|assumption|exact hT _|((with_reducible show wpAny _ _ (call (Value.builtin "tuple.__getattribute__") _ _) _ _ _);refine call_meets PySem.F.slot_tuple_getattribute (hT _) am_entry_tuple_getattribute (PySem.F.args_tuple_getattribute_2 _ _) (meets_getattribute_miss_tuple a xs k sl name _ hmiss hname hsz) ⟨hx,hA,fun h' tk' e hx'=>?_⟩)|wp_step))
 obtain⟨t',u',he⟩:=hx'.there;have hkeep:=hx'.of.keeps;show wpAny _ _ (getattributeRaised _ _ _ _ _ _ _) _ _ _;unfold getattributeRaised
 repeat (any_goals (first|assumption|wp_step))
 all_goals exact h _ _ hkeep
def xX:entryFor table "dict.update.loop"=some Builtin.«dict.update.loop»:=entryFor_of_tree (by kernel_rfl)
def yt:plainId "dict.update.loop"=true:=by decide +kernel
def PairsAt (P:Program)(w:World)(h:Heap):List Value->List (Key×Value)->Prop:=Paired fun (v:Value) (p:Key×Value)=>∃b key,v=.ref b/\h.IsTuple b #[key,p.2]/\(yc P w).is p.1 key=true
theorem PairsAt.get {P:Program}{w:World}{h:Heap}:∀ {its:List Value} {ps:List (Key×Value)} {i:Nat},PairsAt P w h its ps->i<its.length->∃b key p,its[i]?=some (.ref b)/\ps[i]?=some p/\h.IsTuple b #[key,p.2]/\(yc P w).is p.1 key=true
 | _,_,i,.nil,hi=>by simp at hi
 | _,_,0,.cons (a:=v) (b:=p) r t,_=>by
  obtain⟨b,key,e,x,y⟩:=r;exact⟨b,key,p,by rw[e];rfl,rfl,x,y⟩
 | _,_,i+1,.cons r t,hi=>by
  obtain⟨b,key,p,e,e2,x,y⟩:=PairsAt.get (i:=i) t (by simpa using hi);exact⟨b,key,p,by simpa using e,by simpa using e2,x,y⟩
section
variable {prog:Program}{w:World}{A:Around}{R:Result->Shared->Prop}
def je {h0:Heap}{d I t:Addr}{items:List Value}{ps:List (Key×Value)}(hh:A.in1.handled=none)(hd0:h0.get? d=none)(hI0:h0.get? I=none)(hdI:d≠I)(ht0:h0.IsTuple t items.toArray)(hp:PairsAt prog w h0 items ps)(hz:ps.length<=sizeLine):
  ∀(k i:Nat) (j:Int) (tk:Tok) (s:Shared),items.length-i=k->i<=items.length->s.heap.IsTupleIter I t i->s.heap.DictOf (yc prog w) d (merged [] (ps.take i))->(∀b o,h0.get? b=some o->s.heap.get? b=some o) ->
   (∀h' tk',h'.DictOf (yc prog w) d (merged [] ps)->(∀b o,h0.get? b=some o->h'.get? b=some o)->R (.ok (.ret .none)) { s with heap:=h',toks:=tk' }) ->
   codeAny (model prog w) A (.builtin "dict.update.loop" ⟨[.ref d,.ref I,.int j tk,.none],[]⟩) R s:=by
 have hlen:items.length=ps.length:=Paired.length hp;have hne:∀ {b o},h0.get? b=some o->b≠d/\b≠I:=fun {b o} e=>⟨(fun z=>by rw[z,hd0]at e;cases e),(fun z=>by rw[z,hI0]at e;cases e)⟩
 intro k
 induction k with
 | zero =>
  intro i j tk s hk hi hit hD hkeep hR;have hin:i=items.length:=by omega
  subst hin;refine codeAny_builtin xX ?_;rw[Around.under_plainId yt _];show wpAny _ A.in1 (pyNext (.ref I) >>= _) _ _ s;refine wpAny_bind (wpAny_pyNext_tuple_end hh hit (uM ht0 hkeep) (by simp) fun h' eb=>?_);show wpAny _ A.in1 (Builtin.Dict.addKeywords d [] >>= _) _ _ _;refine wpAny_bind (wpAny_pure (wpAny_pure (hR h' s.toks ?_ fun b o e=>eb b o (hne e).2 (hkeep b o e))));obtain⟨o,es,ep,ho,rest⟩:=hD;rw[hlen,List.take_length]at rest;exact⟨o,es,ep,eb d o hdI ho,rest⟩
 | succ k ih =>
  intro i j tk s hk hi hit hD hkeep hR;have hlt:i<items.length:=by omega
  obtain⟨b,key,p,e1,e2,x,y⟩:=hp.get hlt;refine codeAny_builtin xX ?_;rw[Around.under_plainId yt _];show wpAny _ A.in1 (pyNext (.ref I) >>= _) _ _ s;refine wpAny_bind (wpAny_pyNext_tuple_item hit (uM ht0 hkeep) (x:=.ref b) (by simpa using e1) fun h1 hit1 sb1=>?_);have hkeep1:∀b o,h0.get? b=some o->h1.get? b=some o:=fun b o e=>(sb1.2 b (hne e).2).trans (hkeep b o e);have hD1:h1.DictOf (yc prog w) d (merged [] (ps.take i)):=by
   obtain⟨o,es,ep,ho,rest⟩:=hD;exact⟨o,es,ep,(sb1.2 d hdI).trans ho,rest⟩
  have x1:=uM x hkeep1;show wpAny _ A.in1 (holding [Value.ref b] _ >>= _) _ _ _;refine wpAny_bind (wpAny_holding ?_);refine wpAny_bind (wpAny_tryCatch ?_);obtain⟨ob,hob,hcb,nb,hdb⟩:=x1;unfold Builtin.Dict.pairItems;refine wpAny_bind (wpAny_typeOf ⟨ob,hob,hcb⟩ ?_);rw[if_pos (by decide)];refine wpAny_bind (wpAny_seqItems hob hdb ?_);refine wpAny_pure ?_;show wpAny _ A.in1 (holding [key,p.2] (dictSet d key p.2)) _ _ _;have hz1:(merged [] (ps.take i)).length<=sizeLine:=by
   have:=merged_length_le [] (ps.take i);rw[rE]at this;simp only[tP]at this;omega
  refine wpAny_holding (wpAny_dictSet_pairs (hsz:=hz1) y hD1 fun h2 hD2 sb2=>?_);rw[<-merged_take_succ [] ps i p e2]at hD2;refine wpAny_pure ⟨plainId_quiet yt _,ih (i+1) _ _ _ (by omega) hlt ?_ hD2 (fun b o e=>(sb2.2 b (hne e).1).trans (hkeep1 b o e)) ?_⟩
  ·obtain⟨oi,hoi,r⟩:=hit1;exact⟨oi,(sb2.2 I (Ne.symm hdI)).trans hoi,r⟩
  ·exact hR
end
section
variable {prog:Program}{w:World}{A:Around}{E:Value->Shared->Prop}{s:Shared}
def jh {t:Addr}{items:List Value}{ps:List (Key×Value)}{Q:Value->Shared->Prop}(hh:A.handled=none)(ht:TupN s.heap t items.toArray)(hp:PairsAt prog w s.heap items ps)(hz:ps.length<=sizeLine)
  (h:∀h' tk,h'.DictOf (yc prog w) s.heap.objs.size (merged [] ps)->(∀b o,s.heap.get? b=some o->h'.get? b=some o)->Q (.ref s.heap.objs.size) { s with heap:=h',toks:=tk }):
  wpAny (model prog w) A (call (.type "dict") [.ref t]) Q E s:=by
 refine callType_codes (Q₁:=fun obj s₁=>obj=.ref s.heap.objs.size/\s₁={ s with heap:=s.heap.push { cls:=.type "dict",data:=.dict #[] } }) PySem.F.kt_called_dict (PySem.F.kt_typeCall_dict_1 _) PySem.F.entry_dict_init (kt_code_dict_new _ ⟨rfl,rfl⟩) ?_;rintro obj s₁ ⟨rfl,rfl⟩;have hnew:(s.heap.push { cls:=.type "dict",data:=.dict #[] }).DictOf (yc prog w) s.heap.objs.size []:=Heap.DictOf.new s.heap;have ht':=ht.push { cls:=.type "dict",data:=.dict #[] };refine⟨hnew.typeIs,PySem.F.args_dict_init_2 _ _,?_⟩;unfold Builtin.«dict.__init__»;refine wpAny_bind ?_;unfold Builtin.Dict.selfAndRest;refine wpAny_bind (wpAny_notOrdered_dict hnew.typeIs ?_);show wpAny _ _ (pure (s.heap.objs.size,[Value.ref t])) _ _ _;refine wpAny_pure ?_;show wpAny _ _ (Builtin.Dict.updateFrom "dict.__init__" s.heap.objs.size (.ref t) [] .none) _ _ _;unfold Builtin.Dict.updateFrom;obtain⟨ot,ht1,ht2,⟨ht3,_⟩,nt,ht4⟩:=ht';refine wpAny_bind (wpAny_typeOf ⟨ot,ht1,ht2⟩ ?_);rw[if_pos (by decide)];refine wpAny_bind (ur ht1 ht2 ht4 ht3 ja (by decide) hh (fun h1 tk1 k1=>?_) (by size_fits));rw[if_pos (show (none:Option Value).isNone=true from rfl)];refine wpAny_bind (wpAny_rule ?_);have hlt:s.heap.objs.size<h1.objs.size:=by
  have:h1.get? s.heap.objs.size=some _:=k1 _ _ (jYd s.heap (o:={ cls:=.type "dict",data:=.dict #[] }) rfl);exact jYc this
 have hk01:∀b o,s.heap.get? b=some o->h1.get? b=some o:=fun b o e=>k1 b o (jYb _ e);refine wpAny_bind (wpAny_pyIter_tuple (ht.at hk01).isTuple ?_);have hfr:∀b,s.heap.objs.size<=b->s.heap.get? b=none:=fun b hb=>by
  cases e:s.heap.get? b with
  | none=>rfl
  | some o=>exact absurd (jYc e) (Nat.not_lt.mpr hb)
 refine wpAny_pure ⟨plainId_quiet yt _,je (A:=A.in1) (h0:=s.heap) (d:=s.heap.objs.size) (I:=h1.objs.size) (t:=t) (items:=items) (ps:=ps) hh (hfr _ (tQ _)) (hfr _ (pZ hlt)) (sL hlt) ht.isTuple hp hz (items.length-0) 0 0 0 _ rfl (rG _) ⟨_,jYd _ rfl,rfl,rfl⟩ ?_ (fun b o e=>jYb _ (hk01 b o e)) ?_⟩
 ·obtain⟨o,es,ep,ho,rest⟩:=hnew;exact⟨o,es,ep,jYb _ (k1 _ _ ho),rest⟩
 ·exact fun h' tk' hD hk=>⟨rfl,h h' tk' hD hk⟩
end
def qv {β:Type}:List Key->List β->Key->β->List β
 | k'::ks,x::xs,k,y=>(if k'=k then y else x)::qv ks xs k y
 | _,_,_,_=>[]
def jb (ks:List Key)(ds:List D)(k:Key)(d:D):List Key×List D:=if k∈ks then (ks,qv ks ds k d) else (ks++[k],ds++[d])
def wA:List Key->List D->List (Key×D)->List Key×List D
 | ks,ds,[]=>(ks,ds)
 | ks,ds,(k,d)::r=>wA (jb ks ds k d).1 (jb ks ds k d).2 r
section
variable {K:jJa}{H:Hp}
def KG:∀ {kvs:List (Key×V)} {k:Key} {v:V},k∈kvs.map (·.1)->vq kvs k v=kvs.map (fun kv=>if kv.1=k then (kv.1,v) else kv):=by
 intro kvs k v h;unfold vq;rw[if_pos];rw[gL];obtain⟨p,hp,e⟩:=rB.mp h;exact⟨p,hp,by simpa using e⟩
theorem YW:∀(kvs:List (Key×V)) (k:Key) (v:V),(kvs.map (fun kv=>if kv.1=k then (kv.1,v) else kv)).map (·.1)=kvs.map (·.1)
 | [],_,_=>rfl
 | p::r,k,v=>by
  rw[tG,tG,tG,YW r k v];congr 1;split<;>rfl
theorem X2:∀(kvs:List (Key×V)) (k:Key) (v:V),(kvs.map (fun kv=>if kv.1=k then (kv.1,v) else kv)).map (·.2)=qv (kvs.map (·.1)) (kvs.map (·.2)) k v
 | [],_,_=>rfl
 | p::r,k,v=>by
  rw[tG,tG,tG,tG,X2 r k v];show _=(if p.1=k then v else p.2)::_;congr 1;split<;>rfl
theorem Reps.repl {k:Key}{d:D}{v:V}(rd:Rep K H d v []):∀ {ks:List Key} {ds:List D} {vs:List V} {L:List Addr},Reps K H ds vs L->ks.length=ds.length->∃L2,Reps K H (qv ks ds k d) (qv ks vs k v) L2/\List.Sublist L2 L
 | [],[],_,_,hq4,_=>by
  obtain⟨e1,e2⟩:=hq4;exact⟨[],by subst e1;exact Reps.nil,pY _⟩
 | [],_::_,_,_,_,h=>by cases h
 | _::_,[],_,_,_,h=>by cases h
 | k'::ks,d'::ds,_,_,hq4,h=>by
  obtain⟨v',vs',L1,L2,e1,e2,h1,h2⟩:=hq4;subst e1 e2;obtain⟨L3,a,b⟩:=Reps.repl (ks:=ks) rd h2 (by simpa using h)
  by_cases e:k'=k
  ·refine⟨[]++L3,?_,?_⟩
   ·show Reps K H ((if k'=k then d else d')::qv ks ds k d) ((if k'=k then v else v')::qv ks vs' k v) _;rw[if_pos e,if_pos e];exact Reps.cons rd a
   ·exact b.trans (rQ _ _)
  ·refine⟨L1++L3,?_,List.Sublist.append (List.Sublist.refl _) b⟩;show Reps K H ((if k'=k then d else d')::qv ks ds k d) ((if k'=k then v else v')::qv ks vs' k v) _;rw[if_neg e,if_neg e];exact Reps.cons h1 a
def Jv {kvs:List (Key×V)}{ds:List D}{L:List Addr}{k:Key}{d:D}{v:V}(rs:Reps K H ds (kvs.map (·.2)) L)(nd:(kvs.map (·.1)).Nodup)(rd:Rep K H d v []):
  (vq kvs k v).map (·.1)=(jb (kvs.map (·.1)) ds k d).1/\(jb (kvs.map (·.1)) ds k d).1.Nodup/\∃L2,Reps K H (jb (kvs.map (·.1)) ds k d).2 ((vq kvs k v).map (·.2)) L2/\List.Sublist L2 L:=by
 unfold jb
 by_cases h:k∈kvs.map (·.1)
 ·rw[if_pos h,KG h,YW,X2];refine⟨rfl,nd,Reps.repl rd rs ?_⟩;rw[<-rs.length,tM,tM]
 ·rw[if_neg h,jJ h];refine⟨by rw[sV];rfl,?_,L,?_,List.Sublist.refl _⟩
  ·refine sI.mpr ⟨nd,by simp,fun a ha b hb z=>?_⟩;rw[sX]at hb;subst hb z;exact h ha
  ·rw[sV];have:=Reps.append rs (Reps.cons rd (Reps.nil (K:=K) (H:=H)));rw[tY,tY]at this;exact this
theorem qI:∀(ps:List (Key×D)) (qs:List (Key×V)) (kvs:List (Key×V)) (ds:List D),Paired (fun (p:Key×D) (q:Key×V)=>p.1=q.1/\Rep K H p.2 q.2 []) ps qs->Reps K H ds (kvs.map (·.2)) []->(kvs.map (·.1)).Nodup ->
  (yG kvs qs).map (·.1)=(wA (kvs.map (·.1)) ds ps).1/\(wA (kvs.map (·.1)) ds ps).1.Nodup/\Reps K H (wA (kvs.map (·.1)) ds ps).2 ((yG kvs qs).map (·.2)) []
 | [],_,kvs,ds,h,rs,nd=>by
  cases h;exact⟨rfl,nd,rs⟩
 | p::ps,_,kvs,ds,h,rs,nd=>by
  cases h with
  | @cons _ q _ qs e t =>
   obtain⟨e1,e2⟩:=e;obtain⟨a1,a2,L2,a3,a4⟩:=Jv (k:=p.1) rs nd e2;have z:L2=[]:=by simpa using a4
   subst z;obtain⟨b1,b2,b3⟩:=qI ps qs (vq kvs p.1 q.2) _ t a3 (a1▸a2);show (yG (vq kvs q.1 q.2) qs).map (·.1)=(wA (jb (kvs.map (·.1)) ds p.1 p.2).1 (jb (kvs.map (·.1)) ds p.1 p.2).2 ps).1/\_;rw[<-e1,<-a1];refine⟨b1,?_,?_⟩
   ·show (wA (jb (kvs.map (·.1)) ds p.1 p.2).1 (jb (kvs.map (·.1)) ds p.1 p.2).2 ps).1.Nodup;rw[<-a1];exact b2
   ·show Reps K H (wA (jb (kvs.map (·.1)) ds p.1 p.2).1 (jb (kvs.map (·.1)) ds p.1 p.2).2 ps).2 ((yG (vq kvs q.1 q.2) qs).map (·.2)) [];rw[<-a1,<-e1];exact b3
def qy:List D->Option (List (Key×D))
 | []=>some []
 | .tup [k,d]::ps=>match Xj k with
  | some k'=>if d.imm=true then (qy ps).map ((k',d)::·) else none
  | none=>none
 | _=>none
theorem jT:∀ {ps:List D} {kds:List (Key×D)} {vs:List V} {L:List Addr},Reps K H ps vs L->qy ps=some kds ->
  ∃qs:List (Key×V),Paired (fun (v:V) (q:Key×V)=>∃b,v=.ref b/\SqT K H b [kV q.1,q.2]) vs qs/\Paired (fun (p:Key×D) (q:Key×V)=>p.1=q.1/\Rep K H p.2 q.2 []) kds qs
 | [],kds,_,_,hq4,h=>by
  obtain⟨e,_⟩:=hq4;cases h;subst e;exact⟨[],.nil,.nil⟩
 | d::ps,kds,_,_,hq4,h=>by
  obtain⟨v,vs',L1,L2,e1,e2,r1,r2⟩:=hq4;subst e1;unfold qy at h;split at h
  ·rename_i e;cases e
  ·rename_i k d' ps' e;injection e with e3 e4;subst e3 e4;split at h
   ·rename_i k' hk;split at h
    ·rename_i hi;cases hp:qy ps with
     | none=>rw[hp]at h;cases h
     | some r =>
      rw[hp]at h;cases h;obtain⟨qs,a,b⟩:=jT r2 hp;obtain⟨bb,ws,ev,hs,⟨v1,ws',M1,M2,f1,f2,g1,v2,ws'',M3,M4,f3,f4,g2,g3,_⟩⟩:=r1;subst f1 f3 g3;have hM:=Rep.imm _ _ _ g2 hi;subst hM;refine⟨(k',v2)::qs,.cons ⟨bb,ev,?_⟩ a,.cons ⟨rfl,g2⟩ b⟩;rw[<-Z0 hk g1];exact hs
    ·cases h
   ·cases h
  ·cases h
end
section
variable {X:Cx}{E:XK}{Γ Γ1 Γ' Γl:List Cl}{e a b o f:Expr}{es:List Expr}{t t' u v:Tn->R D}{c ca cb:Rc}{pos:Pos}
end
def Xy (K:jJa):List V->Hp->VK->Prop:=fun xs H Q=>∃a vs,∃qs:List (Key×V),xs=[.ref a]/\SqT K H a vs/\Paired (fun (v:V) (q:Key×V)=>∃b,v=.ref b/\SqT K H b [kV q.1,q.2]) vs qs/\∀l,H l=none->Q (.ref l) (upd H l (.dK (yG [] qs)))
section
variable {X:Cx}
theorem Xc {pins:List (Addr×Obj)}{σ:St}{H:Hp}{s:Shared}(I:Inv X pins σ H s):∀ {vs:List V} {qs:List (Key×V)} {its:List Value},Paired (fun (v:V) (q:Key×V)=>∃b,v=.ref b/\SqT X.K H b [kV q.1,q.2]) vs qs->Vals vs its ->
  ∃ps:List (Key×Value),PairsAt X.prog X.w s.heap its ps/\KV qs ps
 | _,_,_,.nil,.nil=>⟨[],.nil,.nil⟩
 | _,_,_,.cons (b:=q) h t,.cons r t2=>by
  obtain⟨b,rfl,hs⟩:=h;obtain⟨ps,a1,a2⟩:=Xc I t t2;obtain⟨its2,r2,pl,_⟩:=I.tuple hs;cases r;cases r2 with
  | cons rk r3 =>
   cases r3 with
   | cons rv r4 =>
    cases r4;rename_i key u;exact⟨(q.1,u)::ps,.cons ⟨b,key,rfl,pl,WC rk⟩ a1,.cons ⟨rfl,rv⟩ a2⟩
def Ws (hc:X.calm=true):CallR X (.type "dict") (Xy X.K):=by
 intro pins s σ H xs us Q I r h;obtain⟨a,vs,qs,rfl,ha,hp,q⟩:=h;obtain⟨u,rfl,ru⟩:=vL r;obtain rfl:u=Value.ref a:=ru;obtain⟨its,rv,tn,hz⟩:=I.tupN ha;obtain⟨ps,hps,kv⟩:=Xc I hp rv;have hl1:vs.length=qs.length:=Paired.length hp;have hl2:=kv.length;refine jh (I.ok.hd hc) tn hps (by omega) fun h' tk hD hk=>?_;refine⟨.ref s.heap.objs.size,_,I.laid (o:=.dK (yG [] qs)) (t':=tk) hk (tQ _) ?_,rfl,q _ (I.hok.fresh (tQ _))⟩;have hm:KV (yG [] qs) (merged [] ps):=KV.merge kv .nil;refine⟨?_,beq_eq_false_iff_ne.mpr (Ne.symm (sL I.big)),_,hm,hD⟩;have e1:=hm.length;have e2:=merged_length_le [] ps;simp only[tP]at e2;omega
def XA (hc:X.calm=true):CallR X (.type "dict") (fun xs H Q=>Zu xs H Q\/Xy X.K xs H Q):=CallR.or XF (Ws hc)
end
def vR:List D->R D
 | [.dic ks ds]=>if D.imms ds=true then .ok (.dic ks ds) else .bad
 | [.tup ps]=>match qy ps with
  | some kds=>.ok (.dic (wA [] [] kds).1 (wA [] [] kds).2)
  | none=>.bad
 | _=>.bad
def K4:wX vR:=fun ds n h=>by
 unfold vR at h;split at h
 ·split at h<;>cases h
 ·split at h<;>cases h
 ·cases h
def KL {K:jJa}:ClB K (fun xs H Q=>Zu xs H Q\/Xy K xs H Q) vR:=by
 rintro H xs ds L Q r ⟨d,hg,q⟩;unfold vR at hg;split at hg
 ·rename_i ks ds;refine .inl (JZ H xs _ L Q r ⟨d,hg,q⟩)
 ·rename_i ps;split at hg
  ·rename_i kds hp;cases hg;obtain⟨v,rfl,a,vs,rfl,ha,rs⟩:=vD r;obtain⟨qs,h1,h2⟩:=jT rs hp;refine .inr ⟨a,vs,qs,rfl,ha,h1,fun l hl=>?_⟩;obtain⟨b1,b2,b3⟩:=qI kds qs [] [] h2 Reps.nil pW;exact q _ _ [l] (Same.new hl) ⟨l,_,[],rfl,zu,rfl,b1,b2,b3.same (Same.new hl)⟩ (by simp) (fun b hb=>by rw[sX.mp hb];exact hl)
  ·cases hg
 ·cases hg
section
variable {X:Cx}{E:XK}{Γ:List Cl}{u:Tn->R (List D)}{c:Rc}{p pos:Pos}
end
def Kl {d:D}(hd:∀ks xs,d≠.dic ks xs)(h:eqF 12 d d=some true):eqR true d d=.ok (.bl false):=by
 cases d with
 | dic ks xs=>exact absurd rfl (hd ks xs)
 | _=>simp only[eqR,h]<;>rfl
section
variable {prog:Program}{w:World}{A:Around}{R:Result->Shared->Prop}
end
section
variable {prog:Program}{w:World}{A:Around}{E:Value->Shared->Prop}{s:Shared}
end
section
variable {X:Cx}{E:XK}{Γ:List Cl}{e f:Expr}{t u:Tn->R D}{ca cb:Rc}{p pos kp:Pos}{te tf:TE}
end
def Vx {k:Tn->R Bool}{body:Tn->R Fl}(Iv:Tn->Prop)(μ:Tn->Nat)(hs:∀τ,Iv τ->k τ=.ok false\/(k τ=.ok true/\∃τ2,body τ=.ok (.nx τ2)/\Iv τ2/\μ τ2<μ τ))(τ:Tn)(h0:Iv τ):
  ∃τ',yy k body τ=.ok (.nx τ')/\Iv τ'/\k τ'=.ok false:=by
 have go:∀(m:Nat) (τ:Tn),μ τ<=m->Iv τ->∃n τ',wx k body n τ=.ok (.nx τ')/\Iv τ'/\k τ'=.ok false:=by
  intro m
  induction m with
  | zero =>
   intro τ hm h;rcases hs τ h with e|⟨e,τ2,_,_,hlt⟩
   ·exact⟨1,τ,by rw[wx,e];rfl,h,e⟩
   ·lia
  | succ m ih =>
   intro τ hm h;rcases hs τ h with e|⟨e,τ2,e2,h2,hlt⟩
   ·exact⟨1,τ,by rw[wx,e];rfl,h,e⟩
   ·obtain⟨n,τ',a,b,c⟩:=ih τ2 (by lia) h2;exact⟨n+1,τ',by rw[wx,e,jYa,if_pos rfl,e2,jYa];exact a,b,c⟩
 obtain⟨n,τ',a,b,c⟩:=go (μ τ) τ (tQ _) h0;exact⟨τ',qR a (by simp),b,c⟩
def UW (A:Around)(s:Shared)(a:Int)(t:Tok)(c:Int)(u:Tok)(prog:Program)(w:World)(E:Value->Shared->Prop)(Q:Value->Shared->Prop)(h:Q (.bool (decide (a>c))) s):
  wpAny (model prog w) A (richCompare .Gt (.int a t) (.int c u)) Q E s:=
 CmpOf.ints_gt (P:=fun k v=>∃t,v=.int (if k=0 then a else c) t) (fun k=>if k=0 then a else c) (fun _ _ h=>h) 0 1 (.int a t) (.int c u) _ _ _ ⟨t,rfl⟩ ⟨u,rfl⟩ h
def wY:List Int->List Int->Bool
 | [],_=>false
 | _::_,[]=>true
 | a::as,b::bs=>if a=b then wY as bs else decide (a>b)
section
open PySem.SeqAt PySem.MeetsSeq3
open PySem.AutoSeq1 (wpAny_loadPart')
end
def z3A:V->List V->Hp->VK->Prop:=fun x xs H Q=>∃a b kvs more,x=.ref a/\xs=[.ref b]/\a≠b/\H a=some (.dK kvs)/\H b=some (.dK more)/\kvs.length+more.length<=sizeLine/\Q .non (upd H a (.dK (yG kvs more)))
def z1C {X:Cx}:MtR X "dict.update" z3A:=by
 intro pins s σ H x xs v us Q I rx rs h;obtain⟨a,b,kvs,more,rfl,rfl,hab,ha,hb,hz,q⟩:=h;obtain rfl:v=Value.ref a:=rx;obtain⟨u,rfl,ru⟩:=vL rs;obtain rfl:u=Value.ref b:=ru;obtain⟨z1,hd1,vs1,rel1,dd1⟩:=Xp I.hok ha;obtain⟨z2,hd2,vs2,rel2,dd2⟩:=Xp I.hok hb;have hl1:=rel1.length;have hl2:=rel2.length;refine call_meetsIn jXq dd1.typeIs PySem.F.entry_dict_update (PySem.F.args_dict_update_2 _ _) (meets_dict_update (yc X.prog X.w) a b hab hd2) ⟨vs1,vs2,dd1,dd2,by omega,fun h' dd' _ hs=>?_⟩;have he:∃q,h'.get? a=some q:=let ⟨q,_,_,hq,_⟩:=dd';⟨q,hq⟩;have hm:KV (yG kvs more) (merged vs1 vs2):=KV.merge rel2 rel1;have hl:(yG kvs more).length<=sizeLine:=by
  have e1:=hm.length;have e2:=merged_length_le vs1 vs2;omega
 exact⟨.non,_,WZ (t':=s.toks) I (by rw[ha];exact True.intro) hs he (Qo hl hd1 hm dd'),rfl,q⟩
theorem kh {K:jJa}{H:Hp}:∀ {kvs:List (Key×V)} {ds:List D},Reps K H ds (kvs.map (·.2)) []->Paired (fun (p:Key×D) (q:Key×V)=>p.1=q.1/\Rep K H p.2 q.2 []) ((kvs.map (·.1)).zip ds) kvs
 | [],ds,r=>by
  cases ds with
  | nil=>exact .nil
  | cons d ds=>obtain⟨_,_,_,_,e,_⟩:=r;cases e
 | p::kvs,[],r=>by obtain⟨e,_⟩:=r;cases e
 | p::kvs,d::ds,hq2=>by
  obtain⟨v,vs',L1,L2,e1,e2,r1,r2⟩:=hq2;rw[tG]at e1;cases e1;have h:=List.append_eq_nil_iff.mp e2.symm;obtain⟨rfl,rfl⟩:=h;exact .cons ⟨rfl,r1⟩ (kh r2)
def UC (i:Nat)(t:Tn->R D):Tn->R Fl:=fun τ=>(zc i τ).bind fun l=>match l with
 | .dic ks ds=>(t τ).bind fun d=>match d with
  | .dic js es=>if D.imms ds=true/\D.imms es=true/\ks.length+js.length<=sizeLine then .ok (.nx (τ.set i (some (.dic (wA ks ds (js.zip es)).1 (wA ks ds (js.zip es)).2)))) else .bad
  | _=>.bad
 | _=>.bad
section
variable {X:Cx}{E:XK}{Γ Γ1 Γ' Γl:List Cl}{e:Expr}{t:Tn->R D}{pos:Pos}
def upt (i:Nat){x:Str}{p0 p1 p2:Pos}(h:MV X E Γ e t Γ1)(hN:autoParam (X.N[i]?=some x) au3._auto_1)(h0:autoParam (Γ[i]?=some .own) au3._auto_1)(hk:autoParam (Γ1[i]?=some .own) au3._auto_1)(hv:autoParam (Vis X.env.scope x) au4._auto_1)(hb:autoParam ((x==("__debug__":Str))=false) au1._auto_1)(hcd:autoParam ((x==("__classdict__":Str))=false) au1._auto_1)
  (hbase:autoParam (attributeBase (.Name x p0) "update" X.env (eval (.Name x p0) X.env)=eval (.Name x p0) X.env) au3._auto_1)
  (hfew:autoParam (((backTo p2 (starEach [e] X.env)).all (fun x=>!x.1)&&(backToKw p2 (keywordEach [] X.env)).all (fun x=>x.1.isSome)&&decide ([e].length+([]:List Keyword).length+(if ([]:List Keyword).isEmpty then 0 else 1)<30))=true) au3._auto_1)
  (hline:autoParam ((p1.endLine==p2.line)=true) au3._auto_1) (hs:autoParam (starEach [e] X.env=(false,eval e X.env)::starEach [] X.env) au3._auto_1) (hplain:autoParam ((backTo p2 (starEach [] X.env)).any (·.1)=false) au3._auto_1)
  (hsw:autoParam (swapsWith (.Call (.Attribute (.Name x p0) "update" p1) [e] [] p2) none pos.line X.env=pure false) au3._auto_1):
  MS X E Γl Γ (.Expr (.Call (.Attribute (.Name x p0) "update" p1) [e] [] p2) pos) (UC i t) Γ1:=by
 obtain⟨te,p,q⟩:=h;refine⟨_,Vs (KZ PySem.F.plainAttrs_dict jXq PySem.F.type_dict_update z1C (uQ (pos:=p0) hN hv hb hcd) (wI p vV hs) hbase hfew hline hs hplain) hsw,fun B σ H τ Z ok h=>?_⟩;obtain⟨v,d,L,e1,e2,r,_⟩:=ok.slot h0;refine⟨v,e1,?_⟩;unfold UC at h;have ev:zc i τ=.ok d:=by unfold zc;rw[e2]
 rw[ev,jYa]at h;cases d with
 | dic ks ds =>
  obtain⟨a,kvs,L',rfl,ha,_,hks,hnd,rs⟩:=r;refine⟨.inr (.inr (.inl ⟨rfl,.inl ⟨kvs,ha⟩⟩)),q B σ H τ [] _ ok ?_⟩;dsimp only at h;cases ht:t τ with
  | ok d' =>
   rw[ht,jYa]at h;refine fun y H1 Le s1 ry ok1=>?_;cases d' with
   | dic js es =>
    dsimp only at h
    by_cases hz:D.imms ds=true/\D.imms es=true/\ks.length+js.length<=sizeLine
    ·rw[if_pos hz]at h;obtain⟨v1,d1,L1,q1,q2,r1,n1,n2,fin⟩:=ok1.slot hk;rw[e1]at q1;cases q1;rw[e2]at q2;cases q2;obtain⟨a1,kvs1,L1',z1,ha1,z2,hks1,hnd1,rs1⟩:=r1;cases z1;subst z2;obtain⟨b,kvs2,L2',rfl,hb2,z3,hjs,hnd2,rs2⟩:=ry;subst z3;have hab:a≠b:=fun z=>(n2 a tU).2 (sC _ (z▸tU));have mu:(∃vs,H1 a=some (.lst vs))\/∃kvs,H1 a=some (.dK kvs):=.inr ⟨_,ha1⟩;have rs1':=yw rs1 hz.1;have rs2':=yw rs2 hz.2.1;have e3:=Reps.imm _ _ _ rs1 hz.1;subst e3;have k1:=rs1'.upd (o:=.dK (yG kvs1 kvs2)) mu (by simp);have k2:=rs2'.upd (o:=.dK (yG kvs1 kvs2)) mu (by simp);subst hks1 hjs;obtain⟨b1,b2,b3⟩:=qI _ kvs2 kvs1 ds (kh k2) k1 hnd1;refine⟨a,b,kvs1,kvs2,rfl,rfl,hab,ha1,hb2,by have:=hz.2.2;rw[tM,tM]at this;exact this,h _ _ (fin _ _ [a] (b::L2') [] rfl (TF.upd mu) (fun c hc _=>zy fun z=>hc (z▸tU)) ⟨a,_,[],rfl,zu,rfl,b1,b2,b3⟩ (fun c hc=>.inl (by rw[sX.mp hc];exact tU)) (by simp))⟩
    ·rw[if_neg hz]at h;exact h.elim
   | _=>exact h.elim
  | err n=>rw[ht]at h;exact h
  | bad=>rw[ht]at h;exact h
 | _=>exact h.elim
end
def EqX (P:Program)(w:World)(A:Around)(s:Shared)(y x:Value)(b:Bool):Prop:=∀(E:Value->Shared->Prop) (Q:Bool->Shared->Prop),Q b s->wpAny (model P w) A (eqBool y x) Q E s
section
open PySem.SeqAt PySem.MeetsSeq3
open PySem.AutoSeq1 (wpAny_loadPart')
end
def eqE:D->D->Option Bool
 | .dic ks xs,.dic js ys=>uX ks xs js ys
 | x,y=>eqF 11 x y
def z4d:D->D->R D
 | .lst xs,.lst ys=>(match (if xs.length=ys.length then yp eqE xs ys else some false)with
  | some b=>.ok (.bl b)
  | none=>.bad)
 | _,_=>.bad
section
variable {X:Cx}{pins:List (Addr×Obj)}{σ:St}{H:Hp}{s:Shared}
theorem kU:∀ {ks:List Key} {xs:List D},ks.Nodup->ks.length=xs.length->∀(pk:List Key) (px:List D),pk.length=px.length->(pk++ks).Nodup->∀b,hitsD (pk++ks) (px++xs) ks xs=some b->b=true
 | [],xs,_,_,pk,px,_,_,b,h=>by unfold hitsD at h;cases h;rfl
 | k::ks,[],_,hl,_,_,_,_,_,_=>by cases hl
 | k::ks,x::xs,hn,hl,pk,px,hp,hnd,b,h=>by
  have hlk:∀(pk:List Key) (px:List D),pk.length=px.length->k∉pk->xk (pk++k::ks) (px++x::xs) k=some x:=by
   intro pk
   induction pk with
   | nil =>
    intro px hp _;cases px with
    | nil=>show xk (k::ks) (x::xs) k=_;unfold xk;rw[if_pos rfl]
    | cons _ _=>cases hp
   | cons k' pk ih =>
    intro px hp hk;cases px with
    | nil=>cases hp
    | cons x' px =>
     show xk (k'::(pk++k::ks)) (x'::(px++x::xs)) k=_;unfold xk;rw[if_neg (show ¬k'=k from fun z=>hk (by rw[z];exact tU))];exact ih px (by simpa using hp) (fun z=>hk (tW _ z))
  have hk:k∉pk:=fun z=>(sI.mp hnd).2.2 k z k tU rfl;unfold hitsD at h;rw[hlk pk px hp hk]at h;dsimp only at h;split at h
  ·rename_i hs;rw[sR]at hs;have e1:pk++k::ks=(pk++[k])++ks:=by simp
   have e2:px++x::xs=(px++[x])++xs:=by simp
   cases hr:hitsD (pk++k::ks) (px++x::xs) ks xs with
   | none=>rw[hr]at h;cases h
   | some b' =>
    rw[hr]at h;rw[e1,e2]at hr;have:=kU (sW.mp hn).2 (by simpa using hl) (pk++[k]) (px++[x]) (by simp[hp]) (by rw[<-e1];exact hnd) b' hr;have h:(eqS x x&&b')=b:=jYe h;rw[<-h,this,Yy x hs.1]
    rfl
  ·cases h
def z1A (I:Inv X pins σ H s)(A:Around)(hu:A.units+11<cLine)(d1 d2:D)(v1 v2:V)(L1 L2:List Addr)(u1 u2:Value)(b:Bool)(h:eqE d1 d2=some b)(r1:Rep X.K H d1 v1 L1)(r2:Rep X.K H d2 v2 L2)(q1:RelV v1 u1)(q2:RelV v2 u2):EqX X.prog X.w A s u1 u2 b:=by
 by_cases hd:∃ks xs js ys,d1=.dic ks xs/\d2=.dic js ys
 ·obtain⟨ks,xs,js,ys,rfl,rfl⟩:=hd;have h:uX ks xs js ys=some b:=h;obtain⟨a1,kv1,M1,rfl,ha1,_,hk1,hn1,rs1⟩:=r1;obtain⟨a2,kv2,M2,rfl,ha2,_,hk2,hn2,rs2⟩:=r2;obtain rfl:u1=Value.ref a1:=q1;obtain rfl:u2=Value.ref a2:=q2;obtain⟨_,da,va,ra,oa⟩:=Xp I.hok ha1;obtain⟨_,db,vb,rb,ob⟩:=Xp I.hok ha2;have l1:va.length=kv1.length:=ra.length.symm;have l2:vb.length=kv2.length:=rb.length.symm;have lk1:ks.length=kv1.length:=by rw[<-hk1,tM]
  have lk2:js.length=kv2.length:=by rw[<-hk2,tM]
  intro E Q hq;unfold eqBool;refine wpAny_holding ?_
  by_cases hz:a1=a2
  ·subst hz;rw[ha1]at ha2;cases ha2;have hkj:ks=js:=hk1.symm.trans hk2;subst hkj;have hds:xs=ys:=Reps.one I xs ys _ _ _ rs1 rs2;subst hds;have hb:b=true:=by
    unfold uX at h;rw[if_pos rfl]at h;exact kU hn1 (by rw[lk1,<-rs1.length,tM]) [] [] rfl (by simpa using hn1) b (by simpa using h)
   subst hb;refine wpAny_ite_split (fun _=>?_) (fun hab=>absurd (beq_self_eq_true _) hab);exact wpAny_bind (wpAny_rule (wpAny_pure hq))
  ·refine wpAny_ite_split (fun hab=>absurd (by have:=eq_of_beq hab;injection this) hz) (fun _=>?_);refine wpAny_bind ?_;have hu0:A.units<cLine:=by omega
   by_cases hl:kv1.length=kv2.length
   ·have hh:hitsD (kv2.map (·.1)) ys (kv1.map (·.1)) xs=some b:=by
     unfold uX at h;rw[if_pos (by omega)]at h;rw[hk1,hk2];exact h
    refine jJz (r:=b) da db oa ob hu0 (fun e=>ZS rb rs2 ra rs1 hh) ?_;rw[l1,l2,hl,beq_self_eq_true,pH];exact wpAny_truthy_bool hq
   ·have hb:b=false:=by
     unfold uX at h;rw[if_neg (by omega)]at h;exact (jYe h).symm
    subst hb;refine jJz (r:=false) da db oa ob hu0 (fun e=>absurd e (by omega)) ?_;rw[Bool.and_false];exact wpAny_truthy_bool hq
 ·have h':eqF 11 d1 d2=some b:=by
   cases d1 with
   | dic ks xs =>
    cases d2 with
    | dic js ys=>exact absurd ⟨ks,xs,js,ys,rfl,rfl⟩ hd
    | _=>exact h
   | _=>exact h
  exact (Vp I 11 A d1 d2 v1 v2 L1 L2 u1 u2 b hu h' r1 r2 q1 q2).2.1 X.prog X.w
end
structure Src (P:Program)(w:World)(i l:Addr)(xs:Array Value)(st:Nat->Heap->Prop):Prop where
 keep:∀k h h',st k h->(∀b,b=i\/b=l->∀o,h.get? b=some o->h'.get? b=some o)->st k h'
 obj:∀k h,st k h->∃o vs,h.get? i=some o/\o.data=.fields vs
 item:∀(A:Around) (k:Nat) (s:Shared) (Q:Value->Shared->Prop) (E:Value->Shared->Prop) (x:Value),st k s.heap->xs[k]?=some x->(∀h',st (k+1) h'->Heap.SameBut i s.heap h'->Q x { s with heap:=h' })->wpAny (model P w) A (Builtin.SmallTypes.nextOf (.ref i)) Q E s
 stop:∀(A:Around) (k:Nat) (s:Shared) (Q:Value->Shared->Prop) (E:Value->Shared->Prop),A.handled=none->st k s.heap->xs[k]?=none->(∀h' e,Heap.ExtBut i s.heap h'->(∃o,h'.get? e=some o/\o.cls=.type "StopIteration")->E (.ref e) { s with heap:=h' })->wpAny (model P w) A (Builtin.SmallTypes.nextOf (.ref i)) Q E s
section
variable {prog:Program}{w:World}{A:Around}{E:Value->Shared->Prop}{s:Shared}
end
section
variable {prog:Program}{w:World}{A:Around}{E:Value->Shared->Prop}{s:Shared}
variable {z TI TO i1 i2 l1 l2:Addr}{k:Nat}{xs ys:Array Value}{st1 st2:Nat->Heap->Prop}{a b:Value}
structure ZSt (z TI TO i1 i2:Addr)(st1 st2:Nat->Heap->Prop)(f0:Value)(k1 k2:Nat)(h:Heap):Prop where
 z:IsZip h z TI TO f0
 ti:IsPair h TI (.ref i1) (.ref i2)
 to':∃a b,IsPair h TO a b
 s1:st1 k1 h
 s2:st2 k2 h
end
def IIt:Bool->Heap->Addr->Addr->Nat->Prop
 | true,h,i,l,k=>h.IsTupleIter i l k
 | false,h,i,l,k=>h.IsListIter i l k
def ISq:Bool->Heap->Addr->Array Value->Prop
 | true,h,l,xs=>h.IsTuple l xs
 | false,h,l,xs=>h.IsList l xs
def Sq (t:Bool)(K:jJa)(H:Hp)(a:Addr)(xs:List V):Prop:=if t=true then SqT K H a xs else SqL K H a xs
section
variable {X:Cx}{pins:List (Addr×Obj)}{σ:St}{H:Hp}{s:Shared}{a:Addr}{xs ys:List V}{h':Heap}
end
def Itz (K:jJa)(t1 t2:Bool)(a b:Addr):It:=
 ⟨fun i H=>∃xs ys x y,Sq t1 K H a xs/\Sq t2 K H b ys/\xs[i]?=some x/\ys[i]?=some y,
   fun i H v H'=>∃p x y,H p=none/\v=.ref p/\H'=upd H p (.tup [x,y])/\∀xs ys,Sq t1 K H a xs->Sq t2 K H b ys->xs[i]?=some x/\ys[i]?=some y,
   fun i H=>∃xs ys,Sq t1 K H a xs/\Sq t2 K H b ys/\(xs.length<=i\/ys.length<=i)⟩
section
variable {prog:Program}{w:World}{A:Around}{E:Value->Shared->Prop}{s:Shared}
end
section
variable {X:Cx}
end
def z4b (ds es:List D):List D:=(ds.zip es).map fun p=>.tup [p.1,p.2]
section
variable {X:Cx}{E:XK}{Γ:List Cl}{u:Tn->R (List D)}{c:Rc}{p pos:Pos}
end
section
variable {prog:Program}{w:World}{A:Around}{E:Value->Shared->Prop}{s:Shared}
end
section
variable {X:Cx}{E:XK}{Γ:List Cl}{e:Expr}{t:Tn->R D}{c:Rc}{p2 pos:Pos}
end
section
variable {X:Cx}{E:XK}{Γ Γl:List Cl}{pos:Pos}
end
def Suite (X:Cx)(CS:Addr)(i:Nat)(sts:List Stmt)(g:Str->Option D):Prop:=∀(m:Str) (d:D),g m=some d->∀C,ErrC X.K m C->PySem.W.exmOne X.K (.ref C) (.ref CS)=some true /\
 ∃ts:Addr->Obj->TS,(∀e oe,PSs (X.within e oe) sts (ts e oe))/\∀e oe (Z:Ends) (σ:St) (H:Hp),σ.length=X.N.length->oe.cls=.ref C->H e=none->σ[i]?=some (some (.ref e))->(∀v H',Same H H'->Rep X.K H' d v []->Z.rt v H')->ts e oe Z σ H
def Suite.ts {X:Cx}{CS:Addr}{i:Nat}{sts:List Stmt}{g:Str->Option D}(hs:Suite X CS i sts g)(e:Addr)(oe:Obj):TS:=fun Z σ H=>∃(m:Str) (d:L2.D) (hg:g m=some d) (C:Addr) (hC:ErrC X.K m C),Classical.choose (hs m d hg C hC).2 e oe Z σ H
section
variable {X:Cx}{E:XK}{Γ Γl Γ':List Cl}{k:Nat}{CS:Addr}{ps:List Str}{F:List D->R D}{nA:Nat}{x xc n:Str}{p pos pos' pc hpos tpos:Pos}{e:Expr}{es:List Expr}{u:Tn->R (List D)}{c:Rc}{i:Nat}{b₀:Stmt}{suite:List Stmt}{g:Str->Option D}
end
inductive ClVs:List V->List Value->Prop where
 | nil:ClVs [] []
 | cons {c:V} {u:Value} {cs:List V} {us:List Value} (h:ClV c u) (t:ClVs cs us):ClVs (c::cs) (u::us)
section
variable {X:Cx}{E:XK}{Γ Γl:List Cl}{pos:Pos}
end
section
variable {X:Cx}{E:XK}{Γ Γl Γ':List Cl}{k:Nat}{ps:List Str}{F:List D->R D}{nA:Nat}{x xc n:Str}{p pos pos' pc hpos tpos:Pos}{e:Expr}{es:List Expr}{u:Tn->R (List D)}{c:Rc}{i:Nat}{b₀:Stmt}{suite:List Stmt}{g:Str->Option D}
end
structure CompScopeC (X:Cx)(xc:Str)(N':List Str)(fr:List (Option Nat))(scope:Scope):Prop where
 kind:scope.kind=.function
 one:∃pre post,scope.names=pre++(xc,NameKind.cell)::post/\∀y∈pre++post,y.2≠.cell
 nox:∀y∈scope.names,y.1=xc->y.2=.cell
 loc:∀y∈scope.names,y.2=.local->scope.names.lookup y.1=some .local
 free:∀y∈scope.names,y.2=.free->∃c,X.env.cells.lookup y.1=some c
 len:fr.length=N'.length
 fre:∀(j i:Nat) (x:Str),fr[j]?=some (some i)->N'[j]?=some x->X.N[i]?=some x/\scope.names.lookup x=some .free/\(X.env.kindOf x=some .cell\/X.env.kindOf x=some .free)
section
variable {X:Cx}{pins:List (Addr×Obj)}{σ:St}{H:Hp}{s:Shared}{xc:Str}{N':List Str}{fr:List (Option Nat)}{scope:Scope}{fp:List Addr}
end
section
variable {X:Cx}{pins:List (Addr×Obj)}{σ τ:St}{H H₃ H5:Hp}{s₃ s5:Shared}{xc:Str}{N':List Str}{scope:Scope}{fp:List Addr}
end
section
variable {X:Cx}{E:XK}{Γ:List Cl}{pos:Pos}
end
def jd {α:Type}{us:List α}{n:Nat}(h:us.length=n+1):∃a t,us=a::t/\t.length=n:=by
 cases us with
 | nil=>cases h
 | cons a t=>exact⟨a,t,rfl,Nat.succ.inj h⟩
section
variable {X:Cx}{E:XK}{Γ Γl:List Cl}{x1 x2 xr d nm:Str}{F1 F2:List D->R D}{es:List Expr}{u:Tn->R (List D)}{c:Rc}{i k n:Nat}{f1 f2:Addr}{ps:List Str}{p1 p2 p3 p4 p5 p6 p7 p8 p9 p10 p11 p12:Pos}{ct:Nat}{jj:_}
end
section
variable {K:jJa}{Γ:List Cl}{B H:Hp}{σ:St}{τ:Tn}{T T':List Addr}
end
section
variable {P:Program}{w:World}{K:jJa}{mg:Str->Option Value}{base:Heap}{x:Str}{st:Stmt}{N ps:List Str}{k:Nat}{t:Tn->R Fl}{Γ':List Cl}
end
section
variable {K:jJa}{pn:List (Addr×Obj)}{σ:St}{H:Hp}{Q:VK}{e:Addr}{oe:Obj}{C:Addr}
end
section
variable {X:Cx}{E:XK}{Γ Γ1 Γ2 Γa Γb Γl Γ':List Cl}{pos:Pos}
def JS {es:List Expr}{t:TA}(h:PA X es t):PE X (.List es pos) (fun σ H Q=>t σ H fun xs H1=>xs.length<=sizeLine/\∀p,H1 p=none->∀o,Q (.ref p) (upd H1 p (.frz o (.lst xs)))):=by
 intro pins s σ H Q I hq;refine wpAny_List_spliced (thn (h pos pins s σ H _ I hq) fun us s1 q0=>?_);obtain⟨xs,H1,I1,r,z,q⟩:=q0;refine⟨by rw[<-r.length];exact z,?_⟩;have hf:H1 s1.heap.objs.size=none:=I1.hok.fresh (tQ _);have hg:(s1.heap.push { cls:=.type "list",data:=.seq us.toArray }).get? s1.heap.objs.size=some { cls:=.type "list",data:=.seq us.toArray }:=jYd _ rfl;refine⟨.ref s1.heap.objs.size,upd H1 s1.heap.objs.size (.frz { cls:=.type "list",data:=.seq us.toArray } (.lst xs)),I1.laid (t':=s1.toks) (fun b u e=>jYb _ e) (tQ _) ?_,rfl,q _ hf _⟩;exact⟨hg,z,us,0,r,hg⟩
def Vy (ds:List D):R D:=if D.imms ds=true then .ok (.frl ds) else .bad
def KJ {es:List Expr}{u:Tn->R (List D)}{c:Rc}(h:MA X E Γ es u c)(hz:autoParam (es.length<=1000) au1._auto_1):ME X E Γ (.List es pos) (eL Vy u) .fresh:=by
 obtain⟨hlen,ta,p,q⟩:=h;refine⟨_,JS p,fun O σ H τ Q ok h=>q O σ H τ _ ok ?_⟩;unfold eL at h;cases hu:u τ with
 | err n=>rw[hu]at h;exact h
 | bad=>rw[hu]at h;exact h
 | ok ds =>
  rw[hu,jYa]at h;refine fun vs H1 L s1 r1 _=>⟨by rw[r1.length,hlen τ ds hu,sizeLine_eq];omega,fun p hp o=>?_⟩
  unfold Vy at h
  by_cases hi:D.imms ds=true
  ·rw[if_pos hi]at h;have sn:Same H1 (upd H1 p (.frz o (.lst vs))):=Same.new hp;exact h (.ref p) _ [] (s1.trans sn) ⟨p,vs,rfl,.inl ⟨o,zu⟩,rfl,hi,(yw r1 hi).same sn⟩ RcOk.nil
  ·rw[if_neg hi]at h;exact h.elim
end
section
variable {X:Cx}{E:XK}{Γ Γl:List Cl}{pos:Pos}{e:Expr}{t:Tn->R D}{c:Rc}
end
section
open PySem.SeqAt PySem.MeetsSeq3
open PySem.AutoSeq1 (wpAny_loadPart')
def Q2 {P:Program}{w:World}(l b:Addr)(items items2:Array Value)(n n2:Nat)(dd dd2:Option Addr)(sl sl2:Array (Option Value))(hz:items.size=items2.size)(e:Nat->Bool)(k:Nat):
  ∀i:Nat,items.size-i=k->MeetsIn P w (Builtin.«list.__eq__.loop» ⟨[.ref l,.ref b,rawInt i,rawInt 3],[]⟩)
   (fun A R s=>((s.heap.get? l=some { cls:=.type "list",dict:=dd,data:=.seq items n,slots:=sl }/\s.heap.get? b=some { cls:=.type "list",dict:=dd2,data:=.seq items2 n2,slots:=sl2 }) /\
    ∀j (h1:j<items.size) (h2:j<items2.size),EqX P w A.in1 s items[j] items2[j] (e j))/\R (.ok (.ret (.bool (!((List.range items.size).drop i).all e)))) s):=by
 induction k with
 | zero =>
  intro i hk A R s h;obtain⟨hp,g,d,tk,os⟩:=s;obtain⟨⟨⟨hl,hb⟩,he⟩,h⟩:=h
  wp_walk using wpAny_loadPart' hl,wpAny_loadPart' hb
  have e1:items[((i:Nat):Int).toNat]?=none:=by simp;omega
  have d1:(List.range items.size).drop i=[]:=gH (by simp;omega);rw[d1]at h;rw[e1]
  wp_walk using wpAny_loadPart' hl,wpAny_loadPart' hb
  have e4:items2[((i:Nat):Int).toNat]?=none:=by simp;omega
  show R (.ok (.ret (.bool (items.size != items2.size)))) _;rw[hz]
  simpa using h
 | succ k ih =>
  intro i hk A R s h;obtain⟨hp,g,d,tk,os⟩:=s;obtain⟨⟨⟨hl,hb⟩,he⟩,h⟩:=h
  wp_walk using wpAny_loadPart' hl,wpAny_loadPart' hb
  have h1:i<items.size:=by omega
  have h2:i<items2.size:=by omega
  have e1:items[((i:Nat):Int).toNat]?=some items[i]:=by simp[h1]
  have e2:items2[((i:Nat):Int).toNat]?=some items2[i]:=by simp[h2]
  have d1:(List.range items.size).drop i=i::(List.range items.size).drop (i+1):=by simp[sQ,h1]
  have hc:((i:Int)+1)=((i+1:Nat):Int):=by push_cast;rfl
  rw[d1,pQ]at h;rw[e1,e2];refine wpAny_bind (he i h1 h2 _ _ ?_);cases hb':e i with
  | true =>
   rw[hb',pH]at h
   wp_walk
   rw[hc];exact⟨plainId_quiet plain_eq_loop _,codeAny_builtin entry_eq_loop (by
    rw[Around.under_plainId plain_eq_loop _];exact ih (i+1) (by omega) A R _ ⟨⟨⟨hl,hb⟩,he⟩,h⟩)⟩
  | false =>
   rw[hb',pV]at h
   wp_walk using wpAny_loadPart' hl,wpAny_loadPart' hb
   rw[e1,e2]
   wp_walk
   simpa using h
def UI {P:Program}{w:World}(l b:Addr)(items items2:Array Value)(n n2:Nat)(dd dd2:Option Addr)(sl sl2:Array (Option Value))(hz:items.size=items2.size)(e:Nat->Bool):
  MeetsIn P w (Builtin.«list.__ne__» ⟨[.ref l,.ref b],[]⟩)
   (fun A R s=>((s.heap.get? l=some { cls:=.type "list",dict:=dd,data:=.seq items n,slots:=sl }/\s.heap.get? b=some { cls:=.type "list",dict:=dd2,data:=.seq items2 n2,slots:=sl2 }) /\
    ∀j (h1:j<items.size) (h2:j<items2.size),EqX P w A.in1 s items[j] items2[j] (e j))/\R (.ok (.ret (.bool (!(List.range items.size).all e)))) s):=by
 intro A R s h;obtain⟨hp,g,d,tk,os⟩:=s;obtain⟨⟨⟨hl,hb⟩,he⟩,h⟩:=h;have f3:=AutoSeq1.sub_list_list;have hne:¬(items.size != items2.size)=true:=by simp[hz]
 wp_walk using wpAny_loadPart' hl,wpAny_loadPart' hb
 exact⟨plainId_quiet plain_eq_loop _,codeAny_builtin entry_eq_loop (by
  rw[Around.under_plainId plain_eq_loop _];exact Q2 l b items items2 n n2 dd dd2 sl sl2 hz e _ 0 rfl A R _ ⟨⟨⟨hl,hb⟩,he⟩,h⟩)⟩
end
def Yh:D->D->R D
 | .lst xs,.lst ys=>(match (if xs.length=ys.length then yp eqE xs ys else some false)with
  | some b=>.ok (.bl (!b))
  | none=>.bad)
 | _,_=>.bad
def z2n:wG Yh:=fun x y n h=>by
 unfold Yh at h;split at h
 ·split at h<;>cases h
 ·cases h
def z2z (K:jJa):R2:=fun x y H Q=>∃a b vs ws xs ys La Lb r,x=.ref a/\y=.ref b/\SqL K H a vs/\SqL K H b ws/\Reps K H xs vs La/\Reps K H ys ws Lb/\(if xs.length=ys.length then yp eqE xs ys else some false)=some r/\Q (.bl (!r)) H
def z0K {X:Cx}(hu:X.A.units+12<cLine):OpR X (compareOp .NotEq) (z2z X.K):=by
 intro pins s σ H x y v u Q I rx ry h;obtain⟨a,b,vs,ws,xs,ys,La,Lb,r,rfl,rfl,ha,hb,rs,rs2,hr,q⟩:=h;obtain rfl:v=Value.ref a:=rx;obtain rfl:u=Value.ref b:=ry;obtain⟨its,rv,pl,_⟩:=I.list ha;obtain⟨its2,rv2,pl2,_⟩:=I.list hb;have l1:its.length=xs.length:=by rw[<-rv.length,rs.length]
 have l2:its2.length=ys.length:=by rw[<-rv2.length,rs2.length]
 have hu0:X.A.units<cLine:=by omega
 by_cases hl:xs.length=ys.length
 ·rw[if_pos hl]at hr;obtain⟨e1,e2⟩:=uj hr;have he:∀j (h1:j<its.toArray.size) (h2:j<its2.toArray.size),EqX X.prog X.w X.A.in1 s its.toArray[j] its2.toArray[j] (v8 eqE xs ys j):=fun j h1 h2=>by
   have h1':j<xs.length:=by simpa [l1] using h1
   have h2':j<ys.length:=by simpa [l2] using h2
   obtain⟨w1,L3,g1,g2,_⟩:=rs.get (i:=j) (d:=xs[j]) (by simp[h1']);obtain⟨w2,L4,g3,g4,_⟩:=rs2.get (i:=j) (d:=ys[j]) (by simp[h2']);obtain⟨z1,k1,k2⟩:=rv.get g1;obtain⟨z2,k3,k4⟩:=rv2.get g3;have m1:its.toArray[j]=z1:=by
    have:=(tV.mp k1).2
    simpa using this
   have m2:its2.toArray[j]=z2:=by
    have:=(tV.mp k3).2
    simpa using this
   rw[m1,m2];exact z1A I _ (by show X.A.units+1+11<cLine;omega) _ _ w1 w2 L3 L4 z1 z2 _ (e2 j _ _ (by simp[h1']) (by simp[h2'])) g2 g4 k2 k4
  have hsz:its.toArray.size=its2.toArray.size:=by simp[l1,l2,hl]
  have eb:r=(List.range its.toArray.size).all (v8 eqE xs ys):=by
   rw[e1];congr 2;simp[l1,hl]
  obtain⟨⟨cls,dd,data,sl⟩,ho,hc,n,hd⟩:=pl.isList;obtain⟨⟨cls2,dd2,data2,sl2⟩,ho2,hc2,n2,hd2⟩:=pl2.isList;simp only at hc hd hc2 hd2;subst hc hd hc2 hd2;refine wpAny_richCompare_same_room (op:=.NotEq) ⟨_,ho,rfl⟩ ⟨_,ho2,rfl⟩ jXr (call_meetsIn jXr ⟨_,ho,rfl⟩ PySem.F.entry_list_ne (PySem.F.args_list_ne_2 _ _) (UI a b _ _ n n2 dd dd2 sl sl2 hsz (v8 eqE xs ys)) ⟨⟨⟨ho,ho2⟩,?_⟩,?_⟩) hu0
  ·exact he
  ·rw[<-eb];exact⟨(fun x=>nomatch x),.bl (!r),H,I,rfl,q⟩
 ·rw[if_neg hl]at hr;cases hr;have hsz:(its.toArray.size != its2.toArray.size)=true:=by simp[l1,l2,hl]
  exact SeqAt.RcNeAt.lists_lengths pl.isList pl2.isList hsz hu0 X.prog X.w X.xe _ ⟨.bl true,H,I,rfl,q⟩
def z2N {K:jJa}:OpB K (z2z K) Yh:=by
 rintro H x y dx dy Lx Ly Q rx ry ⟨d,hg,q⟩;unfold Yh at hg;split at hg
 ·rename_i xs ys;split at hg
  ·rename_i r hr;cases hg;obtain⟨a,vs,L',rfl,ha,_,rs⟩:=rx;obtain⟨b,ws,L2',rfl,hb,_,rs2⟩:=ry;exact⟨a,b,vs,ws,xs,ys,_,_,r,rfl,rfl,SqL.of ha,SqL.of hb,rs,rs2,hr,q _ H [] (Same.refl H) ⟨rfl,rfl⟩ (by simp) (fun a ha=>nomatch ha)⟩
  ·cases hg
 ·cases hg
section
variable {X:Cx}{E:XK}{Γ Γl:List Cl}{pos:Pos}{e:Expr}{t:Tn->R D}{c:Rc}
end
section
variable {X:Cx}{E:XK}{Γ:List Cl}{o:Expr}{t:Tn->R D}{c:Rc}{apos cpos:Pos}
end
section
variable {X:Cx}{E:XK}{Γ:List Cl}{e:Expr}{t:Tn->R D}{c:Rc}
end
section
variable {X:Cx}{E:XK}{Γ:List Cl}{e:Expr}{t:Tn->R D}{c:Rc}{p2 p3 p4 pos:Pos}{j:Nat}
end
def SOk.slotF {K:jJa}{Γ:List Cl}{B H:Hp}{σ:St}{τ:Tn}{i:Nat}(h:SOk K Γ B H σ τ [])(e:Γ[i]?=some .own):∃v d L,σ[i]?=some (some v)/\τ[i]?=some (some d)/\Rep K H d v L/\L.Nodup/\(∀a∈L,B a=none) /\
  ∀(H2:Hp) (d2:D) (L2:List Addr),TF H H2->(∀b,b∉L->H b≠none->H2 b=H b)->Rep K H2 d2 v L2->(∀a∈L2,a∈L\/H a=none)->L2.Nodup->SOk K Γ B H2 σ (τ.set i (some d2)) []:=by
 obtain⟨Ls,h1,h2,h3,h4,h5,h6⟩:=h.ex;obtain⟨v,d,e1,e2,r⟩:=h1 i _ e (by simp);refine⟨v,d,Ls i,e1,e2,r,(h2 i e).1,(h2 i e).2,?_⟩;intro H2 d2 L2 tf kp r2 sub nd;have hτ:i<τ.length:=(tV.mp e2).1;have notL:∀b,B b≠none->b∉Ls i:=fun b hb hm=>hb ((h2 i e).2 b hm);refine⟨fun b o q=>?_,h.lσ,by rw[sS];exact h.lτ,W3 Ls i L2,fun j c ej hc=>?_,fun j ej=>?_,fun j k c hjk ej ek hc a ha hm=>?_,pW,fun a ha=>(nomatch ha),fun j c ej hc a ha hm=>(nomatch hm)⟩
 ·have hq:=h.ext b o q;rw[kp b (notL b (by rw[q];simp)) (by rw[hq];simp)];exact hq
 ·by_cases z:j=i
  ·subst z;refine⟨v,d2,e1,by rw[sO hτ],?_⟩;rw[yo];exact r2
  ·obtain⟨v',d',q1,q2,r'⟩:=h1 j c ej hc;refine⟨v',d',q1,by rw[sE (Ne.symm z)];exact q2,?_⟩;rw[yh z];exact Rep.keep tf d' v' _ r' fun a ha=>kp a (fun hm=>h3 i j c (Ne.symm z) e ej hc a hm ha) (r'.there ha)
 ·by_cases z:j=i
  ·subst z;rw[yo];refine⟨nd,fun a ha=>?_⟩;rcases sub a ha with m|m
   ·exact (h2 _ e).2 a m
   ·exact h.ext.non m
  ·rw[yh z];exact h2 j ej
 ·by_cases z:j=i
  ·subst z;rw[yo]at ha;rw[yh (Ne.symm hjk)]at hm;rcases sub a ha with m|m
   ·exact h3 _ k c hjk e ek hc a m hm
   ·obtain⟨v',d',q1,q2,r'⟩:=h1 k c ek hc;exact r'.there hm m
  ·rw[yh z]at ha
   by_cases z2:k=i
   ·subst z2;rw[yo]at hm;rcases sub a hm with m|m
    ·exact h3 j _ _ hjk ej e (by simp) a ha m
    ·obtain⟨v',d',q1,q2,r'⟩:=h1 j _ ej (by simp);exact r'.there ha m
   ·rw[yh z2]at hm;exact h3 j k c hjk ej ek hc a ha hm
section
variable {X:Cx}{E:XK}{Γ Γl:List Cl}{pos:Pos}{e:Expr}{t:Tn->R D}{c:Rc}
end
section
variable {X:Cx}{E:XK}{Γ Γl:List Cl}{pos:Pos}{e:Expr}{t:Tn->R D}{c:Rc}
end
open PySem PySem.Spec PyProof.Rows PySem.Builtin.Str
section
variable {X:Cx}{E:XK}{Γ:List Cl}{o:Expr}{t:Tn->R D}{c:Rc}{apos cpos:Pos}
end
def z4g {α:Type}(t:Sem α):Prop:=∀(M:Model) (Γ:PySem.Ctx) (Q:α->Pos->Shared->Prop) (E:Value->Pos->Shared->Prop) (p:Pos) (s:Shared),Sem.wp M Γ t Q E p s->Sem.wp M Γ t (fun a p' s'=>0<s'.toks/\Q a p' s') E p s
def z3J (X:Cx)(st:List Stmt)(t:TS):Prop:=
 ∀(pins:List (Addr×Obj)) (s:Shared) (σ:St) (H:Hp) (D:Ends),0<s.toks->Inv X pins σ H s->t D σ H->wpAny (model X.prog X.w) X.A (execs st X.env) (SP X pins D) X.xe s
def PEp (X:Cx)(e:Expr)(t:TE):Prop:=
 ∀(pins:List (Addr×Obj)) (s:Shared) (σ:St) (H:Hp) (Q:VK),0<s.toks->Inv X pins σ H s->t σ H Q->wpAny (model X.prog X.w) X.A (eval e X.env) (EP X pins σ Q) X.xe s
section
variable {X:Cx}{o:Expr}{to:TE}{a b:Str}{j1 j2:Nat}{p1 p2 apos cpos:Pos}
end
section
end
def MEp (X:Cx)(E:XK)(Γ:List Cl)(e:Expr)(t:Tn->R D)(c:Rc):Prop:=
 ∃te,PEp X e te/\∀O σ H τ Q,EOk X.K Γ O H σ τ->post X.K E O c H Q (t τ)->te σ H Q
def z4f (X:Cx)(E:XK)(Γl Γ:List Cl)(s:List Stmt)(t:Tn->R Fl)(Γ':List Cl):Prop:=
 ∃ts,z3J X s ts/\∀B σ H τ Z,SOk X.K Γ B H σ τ []->uA X.K E B Γl Γ' Z (t τ)->ts Z σ H
section
variable {X:Cx}{E:XK}{Γ Γ' Γl:List Cl}{e o:Expr}{t:Tn->R D}{c:Rc}{a b:Str}{j1 j2:Nat}{p1 p2 apos cpos pos:Pos}
end
section
variable {P:Program}{w:World}{K:jJa}{mg:Str->Option Value}{base:Heap}{x:Str}{st:Stmt}{N ps:List Str}{k:Nat}{t:Tn->R Fl}{Γ':List Cl}
end
section
open PySem.SeqAt PySem.MeetsSeq3
open PySem.AutoSeq1 (wpAny_loadPart')
def kO (l b:Addr)(items items2:Array Value)(n n2:Nat)(dd dd2:Option Addr)(sl sl2:Array (Option Value))(ns ms:List Int)(hi:IntsAre items.toList ns)(hj:IntsAre items2.toList ms)(hsz:ns.length=ms.length):
  Meets (Builtin.«tuple.__gt__» ⟨[.ref l,.ref b],[]⟩)
   (fun A R s=>(s.heap.get? l=some { cls:=.type "tuple",dict:=dd,data:=.seq items n,slots:=sl }/\s.heap.get? b=some { cls:=.type "tuple",dict:=dd2,data:=.seq items2 n2,slots:=sl2 }) /\
    R (.ok (.ret (.bool (wY ns ms)))) s):=
 .of_wp fun prog w A R s h=>by
  have z1:items.size=ns.length:=by have:=hi.length;simpa using this
  have z2:items2.size=ms.length:=by have:=hj.length;simpa using this
  have at1:∀j,(hlt:j<ns.length)->∃t,items[j]?=some (.int ns[j] t):=fun j hlt=>by
   have h0:j<items.toList.length:=by simp;lia
   obtain⟨t,e⟩:=PyProof.Rows.IntsAre.int_at hi j _ (tL h0);refine⟨t,?_⟩;rw[<-Array.getElem?_toList,tL h0,e,sY,tL hlt]
   rfl
  have at2:∀j,(hlt:j<ms.length)->∃t,items2[j]?=some (.int ms[j] t):=fun j hlt=>by
   have h0:j<items2.toList.length:=by simp;lia
   obtain⟨t,e⟩:=PyProof.Rows.IntsAre.int_at hj j _ (tL h0);refine⟨t,?_⟩;rw[<-Array.getElem?_toList,tL h0,e,sY,tL hlt]
   rfl
  obtain⟨hp,g,d,tk,os⟩:=s;obtain⟨⟨hl,hb⟩,h⟩:=h;have f2:=AutoSeq1.sub_tuple_tuple;have hZ:(items.toList.zip items2.toList).length=ns.length:=by simp;lia
  wp_walk using wpAny_loadPart' hl,wpAny_loadPart' hb,wpAny_forIn_list _ (fun rest b s'=>b.1=none/\s'=⟨hp,g,d,tk,os⟩/\∃i,rest=(items.toList.zip items2.toList).drop i/\R (.ok (.ret (.bool (wY (ns.drop i) (ms.drop i))))) ⟨hp,g,d,tk,os⟩) _
  case turn =>
   rintro⟨x,y⟩ rest b' s' ⟨hb',rfl,i,hz,hR⟩;have hlt:i<ns.length:=by
    rcases Nat.lt_or_ge i (items.toList.zip items2.toList).length with h'|h'
    ·lia
    ·rw[pL h']at hz;cases hz
   have h2:i<ms.length:=by lia
   rw[sQ (by lia)]at hz;obtain⟨t,a1⟩:=at1 i hlt;obtain⟨u,a2⟩:=at2 i h2;have e0:(x,y)=(items.toList.zip items2.toList)[i]'(by lia):=(List.cons.inj hz).1;have hrest:=(List.cons.inj hz).2;rw[List.getElem_zip]at e0;have ex:x=.int ns[i] t:=by
    have:=congrArg Prod.fst e0;rw[show x=items.toList[i]'(by simp;lia) from this];have a1':items.toList[i]?=some (.int ns[i] t):=by simpa using a1
    rw[tL (by simp;lia)]at a1';exact jYe a1'
   have ey:y=.int ms[i] u:=by
    have:=congrArg Prod.snd e0;rw[show y=items2.toList[i]'(by simp;lia) from this];have a2':items2.toList[i]?=some (.int ms[i] u):=by simpa using a2
    rw[tL (by simp;lia)]at a2';exact jYe a2'
   subst ex ey;have d1:ns.drop i=ns[i]::ns.drop (i+1):=sQ hlt;have d2:ms.drop i=ms[i]::ms.drop (i+1):=sQ h2;rw[d1,d2]at hR;refine wpAny_bind ((SeqAt.EqAt.int_int (A:=A.in1) (s:=⟨hp,g,d,tk,os⟩) ns[i] t ms[i] u) prog w _ _ ?_)
   by_cases he:ns[i]=ms[i]
   ·have hb2:(ns[i]==ms[i])=true:=by simpa using he
    rw[hb2];have hx:wY (ns[i]::ns.drop (i+1)) (ms[i]::ms.drop (i+1))=wY (ns.drop (i+1)) (ms.drop (i+1)):=if_pos he;rw[hx]at hR
    wp_walk
    exact⟨rfl,rfl,i+1,hrest,hR⟩
   ·have hb2:(ns[i]==ms[i])=false:=by simpa using he
    rw[hb2];have hx:wY (ns[i]::ns.drop (i+1)) (ms[i]::ms.drop (i+1))=decide (ns[i]>ms[i]):=if_neg he;rw[hx]at hR;have hri:=UW A.in1 ⟨hp,g,d,tk,os⟩ ns[i] t ms[i] u prog w
    wp_walk using hri
    exact⟨_,rfl,hR⟩
  case fin =>
   rintro⟨b1,b2⟩ s' ⟨hb',rfl,i,hz,hR⟩;simp only at hb';subst hb';have hge:ns.length<=i:=by
    rcases Nat.lt_or_ge i (items.toList.zip items2.toList).length with h'|h'
    ·rw[sQ h']at hz;cases hz
    ·lia
   rw[pL hge]at hR;have hR:R (.ok (.ret (.bool false))) ⟨hp,g,d,tk,os⟩:=hR
   wp_walk
   exact⟨_,rfl,by
    have e:decide (items.size>items2.size)=false:=decide_eq_false (by lia)
    simpa [Builtin.Tuple.tupleCompareSizes,e,z1,z2,hsz] using hR⟩
  case h =>
   exact⟨rfl,rfl,0,rfl,h⟩
end
section
open PySem.SeqAt PySem.MeetsSeq PySem.MeetsSeq3
open PySem.AutoSeq1 (wpAny_loadPart')
end
section
variable {X:Cx}{E:XK}{Γ Γs Γl:List Cl}{x:Str}{k:Nat}{ps:List Str}{F:List D->R D}{e:Expr}{es:List Expr}{t:Tn->R D}{u:Tn->R (List D)}{c:Rc}{p pos:Pos}{n:Nat}
end
section
variable {X:Cx}{E:XK}{Γ Γl:List Cl}{pos:Pos}
end
section
end
def SuiteA (X:Cx)(CS:Addr)(i j:Nat)(sts:List Stmt)(g:Str->Option Int):Prop:=∀(m:Str) (k:Int),g m=some k->∀C,ErrC X.K m C->PySem.W.exmOne X.K (.ref C) (.ref CS)=some true /\
 ∃ts:Addr->Obj->TS,(∀e oe,PSs (X.within e oe) sts (ts e oe))/\∀e oe (Z:Ends) (σ:St) (H:Hp) (n:Int),σ.length=X.N.length->oe.cls=.ref C->H e=none->σ[i]?=some (some (.ref e))->σ[j]?=some (some (.int n))->(∀H',Same H H'->Z.nx (σ.set j (some (.int (n+k)))) H')->ts e oe Z σ H
def SuiteA.ts {X:Cx}{CS:Addr}{i j:Nat}{sts:List Stmt}{g:Str->Option Int}(hs:SuiteA X CS i j sts g)(e:Addr)(oe:Obj):TS:=fun Z σ H=>∃(m:Str) (k:Int) (hg:g m=some k) (C:Addr) (hC:ErrC X.K m C),Classical.choose (hs m k hg C hC).2 e oe Z σ H
section
variable {X:Cx}{E:XK}{Γ Γl Γ':List Cl}{k:Nat}{CS:Addr}{ps:List Str}{F:List D->R D}{nA:Nat}{x xc n:Str}{p pos pos' pc hpos tpos:Pos}{e:Expr}{es:List Expr}{u:Tn->R (List D)}{c:Rc}{i j:Nat}{b₀:Stmt}{suite:List Stmt}{g:Str->Option Int}
end
section
variable {X:Cx}{E:XK}{Γ:List Cl}{pos:Pos}{x:Str}
end
section
variable {X:Cx}{E:XK}{Γ Γl:List Cl}{pos p0:Pos}{ix:Expr}{ti:Tn->R D}{c:Rc}
end
section
variable {X:Cx}{E:XK}{Γ Γl Γ':List Cl}{k:Nat}{ps:List Str}{F:List D->R D}{nA:Nat}{x xc n:Str}{p pos pos' pc hpos tpos:Pos}{e:Expr}{es:List Expr}{u:Tn->R (List D)}{c:Rc}{i j:Nat}{b₀:Stmt}{suite:List Stmt}{g:Str->Option Int}
end
section
variable {X:Cx}{E:XK}{Γ Γl:List Cl}{pos:Pos}
end
def PST (X:Cx)(st:Stmt)(t:TS):Prop:=
 ∀(pins:List (Addr×Obj)) (s:Shared) (σ:St) (H:Hp) (D:Ends),0<s.toks->Inv X pins σ H s->t D σ H->wpAny (model X.prog X.w) X.A (exec st X.env) (SP X pins D) X.xe s
section
variable {X:Cx}{st:Stmt}{rest:List Stmt}{t u:TS}
end
section
variable {X:Cx}{tg:Expr}
end
def MST (X:Cx)(E:XK)(Γl Γ:List Cl)(s:Stmt)(t:Tn->R Fl)(Γ':List Cl):Prop:=
 ∃ts,PST X s ts/\∀B σ H τ Z,SOk X.K Γ B H σ τ []->uA X.K E B Γl Γ' Z (t τ)->ts Z σ H
section
variable {X:Cx}{E:XK}{Γ Γ1 Γ2 Γ' Γl:List Cl}{pos:Pos}{e:Expr}{t:Tn->R D}{c:Rc}
end
section
variable {X:Cx}
end
section
variable {prog:Program}{w:World}{A:Around}{E:Value->Shared->Prop}{s:Shared}
end
section
variable {X:Cx}{E:XK}{Γ:List Cl}{e:Expr}{t:Tn->R D}{c:Rc}{p2 p3 p4 pos:Pos}{j:Nat}
end
section
variable {X:Cx}{E:XK}{Γ Γl:List Cl}{pos:Pos}
end
section
variable {X:Cx}{E:XK}{Γ Γl:List Cl}{pos:Pos}
end
open PySem PySem.Spec PyProof.Rows PySem.W
open PySem.AutoSeq1 (wpAny_loadPart')
section
variable {prog:Program}{w:World}{A:Around}{E:Value->Shared->Prop}{s:Shared}{T:String}{r d:Addr}{n:Nat}{P:Nat->Value->Prop}{OK:Heap->Prop}
end
section
variable {K:jJa}{Γ:List Cl}{B H H1:Hp}{σ:St}{τ:Tn}
end
section
variable {X:Cx}{E:XK}{Γ Γl:List Cl}{pos pos':Pos}
end
def z44 (X:Cx)(ifs:List Expr)(t:TT):Prop:=
 ∀(pins:List (Addr×Obj)) (s:Shared) (σ:St) (H:Hp) (Q:Bool->Hp->Prop),0<s.toks->Inv X pins σ H s->t σ H Q ->
  wpAny (model X.prog X.w) X.A (forIn ifs true fun c r=>if r=true then do let ok <-isTrue c X.env (eval c X.env);pure (ForInStep.yield ok) else pure (ForInStep.yield r)) (TP X pins σ Q) X.xe s
def z4c (X:Cx)(E:XK)(Γ:List Cl)(ifs:List Expr)(t:Tn->R Bool):Prop:=
 ∃te,z44 X ifs te/\∀O σ H τ Q,EOk X.K Γ O H σ τ->postB X.K E H Q (t τ)->te σ H Q
section
variable {X:Cx}{E:XK}{Γ Γ' Γl:List Cl}{pos p:Pos}{e a b:Expr}{t ta tb:Tn->R D}{c ca cb:Rc}{x:Str}{id:String}
end
def Itu (lo k:Int)(n:Nat):It:=⟨fun i _=>i<n,fun i H x H'=>H'=H/\x=.int (lo+(i:Int)*k),fun i _=>n<=i⟩
section
variable {X:Cx}{tg:Expr}
end
def upw (lo k:Int)(n:Nat):List D:=(List.range n).map fun (i:Nat)=>.int (lo+(i:Int)*k)
section
variable {X:Cx}{E:XK}{Γ:List Cl}{tg:Expr}{u:Tn->R (List D)}{c:Rc}{p pos:Pos}
end
section
variable {X:Cx}{E:XK}{Γ Γl:List Cl}{pos:Pos}
end
end L2
namespace HW
open PySem PySem.W
def uH {α:Type}:List α->List α
 | a::_::r=>a::uH r
 | l=>l
def kG {α:Type}:List α->List α
 | _::b::r=>b::kG r
 | _=>[]
theorem Zm {α:Type}:∀(l:List α) (k:Nat),(uH l)[k]?=l[2*k]?
 | [],k=>by simp[uH]
 | [a],k=>by cases k<;>simp[uH]
 | a::b::r,0=>by simp[uH]
 | a::b::r,k+1=>by
  have ih:=Zm r k;show (a::uH r)[k+1]?=_;rw[tE,ih,show 2*(k+1)=2*k+1+1 by omega,tE,tE]
theorem Yx {α:Type}:∀(l:List α) (k:Nat),(kG l)[k]?=l[2*k+1]?
 | [],k=>by simp[kG]
 | [a],k=>by simp[kG]
 | a::b::r,0=>by simp[kG]
 | a::b::r,k+1=>by
  have ih:=Yx r k;show (b::kG r)[k+1]?=_;rw[tE,ih,show 2*(k+1)+1=2*k+1+1+1 by omega,tE,tE]
theorem Zj {α:Type}:∀l:List α,(uH l).length<=l.length
 | []=>tQ _
 | [_]=>tQ _
 | a::b::r=>by show (uH r).length+1<=r.length+1+1;have:=Zj r;omega
theorem Xo {α:Type}:∀l:List α,(kG l).length<=l.length
 | []=>tQ _
 | [_]=>rG _
 | a::b::r=>by show (kG r).length+1<=r.length+1+1;have:=Xo r;omega
def tr:Nat->List Obj->BT
 | n+1,o::l=>.node o (tr n (uH l)) (tr n (kG l))
 | _,_=>.nil
theorem XJ:∀(n:Nat) (l:List Obj),l.length<=n->∀i,(tr n l).get i=l[i]?
 | 0,[],_,i=>by simp[tr,BT.get]
 | 0,_::_,h,_=>by cases h
 | n+1,[],_,i=>by simp[tr,BT.get]
 | n+1,o::l,h,i=>by
  have hl:l.length<=n:=by simpa using h
  show (BT.node o (tr n (uH l)) (tr n (kG l))).get i=_;rw[BT.get_node]
  by_cases h0:i=0
  ·subst h0;rfl
  ·rw[if_neg h0]
   by_cases h1:i%2=1
   ·rw[if_pos h1,XJ n _ (sT (Zj l) hl),Zm];obtain⟨k,rfl⟩:∃k,i=2*k+1:=⟨i/2,by omega⟩
    rw[show (2*k+1)/2=k by omega,tE]
   ·rw[if_neg h1,XJ n _ (sT (Xo l) hl),Yx];obtain⟨k,rfl⟩:∃k,i=2*k+1+1:=⟨i/2-1,by omega⟩
    rw[show (2*k+1+1)/2-1=k by omega,tE]
def Jk (l:List Obj):(tr l.length l).list l.length=l:=by
 unfold BT.list;refine List.ext_getElem? fun i=>?_;rw[sJ]
 by_cases h:i<l.length
 ·rw[pG h,pE,XJ _ _ (tQ _),tL h];rfl
 ·rw[pP (by rw[rN];omega),pP (by omega)];rfl
def asT (s:Shared):SharedT:=⟨tr s.heap.objs.toList.length s.heap.objs.toList,s.heap.objs.toList.length,s.heap.life,s.gens,s.drawn,s.toks,s.os⟩
def JP (s:Shared):(asT s).abs=s:=by
 obtain⟨⟨⟨l⟩,life⟩,gens,drawn,toks,os⟩:=s;show (⟨⟨((tr l.length l).list l.length).toArray,life⟩,gens,drawn,toks,os⟩:Shared)=_;rw[Jk]
def env0 (p:Program):Env:={ scope:=p.main.scope,locals:=mainNs,globals:=mainNs,cells:=[],code:=.ref 13,frame:=some 14 }
def p0:Pos:=⟨0,0,0,0⟩
def jO (p:Program):Code:=.body (behindTheImports p) (env0 p)
def runAll (p q:Program)(loose:List Str)(Xt:Shared->Bool){α:Type}(Yf:Shared->α)(n1:Nat)(w:World)(os:OsState):=
 (Fast.tw15667345088766844465 Fast.tw14364793385576792824 p w 11 (some (.ref 6)) 12 ⟨boot_heap w.params,Array.mk [],boot_drawn,boot_toks,os⟩ (topStub p)).bind fun a =>
 (Fast.tw14374325043358763698 Fast.tw14364793385576792824 p w 11 (some (.ref 6)) 1 1 a.1 (blockOf (behindTheImports p) (env0 p) (jO p) p0 [topFrame p0])).bind fun b =>
 (Fast.tw10110043849684766642 Fast.tw14364793385576792824 p w 11 (some (.ref 6)) 1 n1 (asT b.2.1) (piecesOf (behindTheImports p) (env0 p) (jO p) b.2.2.2 [topFrame p0])).bind fun c =>
 (Fast.tw14082659384304107361 Fast.tw14364793385576792824 p w 11 (some (.ref 6)) 2 c.2.1.abs ⟨doneF .next,jO p,c.2.2.2,[topFrame p0]⟩).map fun s =>
  (a.2,(b.1,b.2.2.1),(c.1,c.2.2.1),(staticsOk (Fast.tw5923862056798008813 p.main.body) (boot_heap w.params) s.heap&&namesBound p s.heap&&gensDone s&&laidKept (boot_heap w.params) s.heap),Fast.tw4187177175401517315 q loose (Fast.tw5923862056798008813 p.main.body) Xt true s,Yf s)
section
variable (p q:Program)(loose:List Str)(Xt:Shared->Bool){α:Type}(Yf:Shared->α)(Ya:World->α)(n1:Nat)
def Pa:Prop:=∀w os,(runAll p q loose Xt Yf n1 w os).map (fun r=>(r.1,r.2.1,r.2.2.1,r.2.2.2.1,r.2.2.2.2.2))=some (⟨Fast.tw11892475500146522536 Fast.tw14364793385576792824 (jO p),jO p,p0,[topFrame p0]⟩,(.next,jO p),(.next,jO p),true,Ya w)
def Pb:Prop:=∀w os,(runAll p q loose Xt Yf n1 w os).map (fun r=>(r.2.2.2.2.1.1,r.2.2.2.2.1.2.1))=some (PyProof.Rows.expectedOf q,bltViewBooted)
def Pc:Prop:=∀w os,(runAll p q loose Xt Yf n1 w os).map (fun r=>r.2.2.2.2.1.2.2.1)=some true
def Pd:Prop:=∀w os,(runAll p q loose Xt Yf n1 w os).map (fun r=>(r.2.2.2.2.1.2.2.2.1,r.2.2.2.2.1.2.2.2.2.1))=some (true,pinGoodD (PyProof.Rows.drecsOf q))
def Pe:Prop:=∀w os,(runAll p q loose Xt Yf n1 w os).map (fun r=>r.2.2.2.2.1.2.2.2.2.2.1)=some (PyProof.Rows.plainGoodE q (looseW q loose))
def Pf:Prop:=∀w os,(runAll p q loose Xt Yf n1 w os).map (fun r=>r.2.2.2.2.1.2.2.2.2.2.2)=some (PyProof.Rows.plainGoodD q loose,wideGood q,clsGoodW q loose)
end
def left_of {p q:Program}{loose:List Str}{Xt:Shared->Bool}{α:Type}{Yf:Shared->α}{Ya:World->α}{n1 N:Nat}
  (e:opening p=plainProg p.main.scope.names) (hN:Nat.ble 600 N=true) (f:∀s,fenceModules? p s=some s)
  (size:∀w:World,((boot_heap w.params).isNs mainGlobals&&(Array.mk []:Array GenState).size==0,(boot_heap w.params).objs.size,(boot_heap w.params).nsMap mainGlobals "__annotations__")=(true,11,some (.ref 6)))
  (le:Nat.ble (12+(1+(n1+2))) N=true)
  (ha:Pa p q loose Xt Yf Ya n1) (hb:Pb p q loose Xt Yf n1) (hc:Pc p q loose Xt Yf n1) (hd:Pd p q loose Xt Yf n1) (he:Pe p q loose Xt Yf n1) (hf:Pf p q loose Xt Yf n1):LeftO p q loose Xt Yf Ya N:=fun w=>by
 obtain⟨⟨hp,gn,dr,tk,os⟩,op,same⟩:=rL.mp (boot_open e hN f w);simp only[Prod.mk.injEq]at same;obtain⟨rfl,rfl,rfl,rfl⟩:=same;have sz:=size w;simp only[Prod.mk.injEq]at sz;obtain⟨⟨r1,r2,r3,r4,⟨s1,s2,s3,s4,s5,s6,s7⟩,r6⟩,hr,e1⟩:=rL.mp (ha w os);have e2:=hb w os;have e3:=hc w os;have e4:=hd w os;have e5:=he w os;have e6:=hf w os;rw[hr]at e2 e3 e4 e5 e6;simp only[pE,Option.some.injEq,Prod.mk.injEq]at e1 e2 e3 e4 e5 e6;obtain⟨rfl,rfl,rfl,rfl,rfl⟩:=e1;obtain⟨rfl,rfl⟩:=e2;obtain rfl:=e3;obtain⟨rfl,rfl⟩:=e4;obtain rfl:=e5;subst e6;unfold runAll at hr;rw[<-Fast.te15667345088766844465,<-Fast.te14364793385576792824,<-Fast.te14374325043358763698,<-Fast.te10110043849684766642,<-Fast.te5923862056798008813,<-Fast.te4187177175401517315,<-Fast.te14082659384304107361,<-Fast.te11892475500146522536]at hr;obtain⟨⟨sa,ta⟩,ha,hr⟩:=gG.mp hr;obtain⟨⟨fb,sb,cb,pb⟩,hb,hr⟩:=gG.mp hr;obtain⟨⟨fc,sc,cc,pc⟩,hc,hr⟩:=gG.mp hr;obtain⟨s1,hd,hr⟩:=rL.mp hr;simp only[Prod.mk.injEq]at hr;obtain⟨rfl,⟨rfl,rfl⟩,⟨rfl,rfl⟩,good,seen,told⟩:=hr;dsimp only at hb hc hd;have hc2:=segRun_of hc;rw[JP]at hc2;have whole:=piece_app (rest:=[]) hc2 (piece_nil hd);rw[tY]at whole;have run:=topRun_mono (N-(12+(1+(n1+2)))) _ _ _ _ (go_top ha (piece_block hb whole));have eN:12+(1+(n1+2))+(N-(12+(1+(n1+2))))=N:=by have z:=Nat.le_of_ble_eq_true le;omega
 rw[eN]at run;have wy:topFrom treeTable p w N ⟨boot_heap w.params,Array.mk [],boot_drawn,boot_toks,os⟩=some s1:=by
  show (match (boot_heap w.params).isNs mainGlobals&&(Array.mk []:Array GenState).size==0 with|true=>_|false=>_)=_;rw[sz.1,sz.2.1,sz.2.2];show Option.bind (topRun treeTable p w 11 (some (.ref 6)) N _ _) _=_;rw[run];show (match (_:Bool)with|true=>some s1|false=>none)=_;rw[good]
 have both:openEnds treeTable p w N=some s1:=by unfold openEnds;rw[op];exact wy
 rw[both,pE,seen,told];rfl
open PySem.Spec PyProof.Rows L2 in
def dfn {K:Frag}{mg:Str->Option Value}{h:Heap}{n:Str}{st:Stmt}{ps:List Str}{a c:Addr}{m:Str}{t:Nat}(X:K.In h)(G:h.Ns mainGlobals mg)
  (hl:∀ {kV dc pm:Value} {an:Option Addr} {cd ct:Value} (us:List Value),us.length=ps.length->bindArgs (fnOf n n (defArgs st) (defBody st) (defScope st) .none kV dc pm an cd ct) { pos:=us }=pure (ps.zip us))
  (e:(nsIn K mainGlobals n,K.lookup a,codeIn K (.ref c) n,keepIn K (.ref a))=(some (some (.ref a)),some ⟨.type "function",none,.func (fnOf n n (defArgs st) (defBody st) (defScope st) .none .none .none (.str m t) none (.ref c) .none),#[]⟩,true,true)):DefIn K mg n st ps:=by
 simp only[Prod.mk.injEq]at e;exact QG X G (fun _ _ _ _ _ _=>hl) e.1 e.2.1 e.2.2.1 e.2.2.2
end HW
namespace L2
open PySem PySem.Spec PyProof.Rows
def atF (j:Nat)(v:V)(t:TE):TE:=fun σ H Q=>σ[j]?=some (some v)/\t σ H Q
section
variable {X:Cx}{E:XK}{Γ:List Cl}{pos:Pos}
def MEF (X:Cx)(E:XK)(Γ:List Cl)(j:Nat)(v:V)(e:Expr)(t:Tn->R D)(c:Rc):Prop:=
 ∃te,PE X e te/\∀O σ H τ Q,σ[j]?=some (some v)->EOk X.K Γ O H σ τ->post X.K E O c H Q (t τ)->te σ H Q
end
def spF (K:jJa)(F:List D->R D)(n:Nat)(v:V):Sp:=fun vs H Q E=>∃ws,vs=ws++[v]/\ws.length=n/\∃ds L,Reps K H ds ws L/\post K E (fun _=>False) .fresh H Q (F ds)
section
variable {P:Program}{w:World}{K:jJa}{mg:Str->Option Value}{base:Heap}{N:List Str}{x:Str}{st:Stmt}{ps:List Str}{t:Tn->R Fl}{k n:Nat}{v:V}{Γ':List Cl}
end
section
variable {X:Cx}{E:XK}{Γ:List Cl}{pos p:Pos}{e:Expr}{es:List Expr}{t:Tn->R D}{u:Tn->R (List D)}{ca cb c:Rc}{v:V}
end
def z4e (P:Program)(w:World)(K:jJa)(mg:Str->Option Value)(base:Heap)(x:Str)(k:Nat)(ps:List Str)(F:List D->R D)(n:Nat)(g:Str):Prop:=∃f,mg g=some (.ref f)/\Own P w K mg base x k ps (spF K F n (.ref f))
def JC {X:Cx}{e:Expr}{te:TE}(h:PE X e te):PE X e (fun σ H Q=>te σ H fun v H1=>∃l xs,v=.ref l/\H1 l=some (.lst xs)/\∀o,Q v (upd H1 l (.frz o (.lst xs)))):=by
 intro pins s σ H Q I hq;refine wpAny_mono (h pins s σ H _ I hq) (fun u s1 hz=>?_) fun _ _ z=>z;obtain⟨v,H1,I1,r,l,xs,rfl,hl,q⟩:=hz;obtain⟨z,its,n,rv,hg⟩:=I1.hok l _ hl;refine⟨.ref l,upd H1 l (.frz { cls:=.type "list",data:=.seq its.toArray n } (.lst xs)),?_,r,q _⟩;exact I1.write (x:=l) (e:=l) (h':=s1.heap) (t':=s1.toks) (by rw[hl];trivial) (.inl rfl) (fun b u _ e=>e) ⟨_,hg⟩ ⟨hg,z,its,n,rv,hg⟩
def Xi (d:D):R D:=match d with
 | .lst ds=>if D.imms ds=true then .ok (.frl ds) else .bad
 | _=>.bad
def V9 {X:Cx}{E:XK}{Γ:List Cl}{e:Expr}{t:Tn->R D}(h:ME X E Γ e t .fresh):ME X E Γ e (eUn Xi t) .fresh:=by
 obtain⟨te,p,q⟩:=h;refine⟨_,JC p,fun O σ H τ Q ok h=>q O σ H τ _ ok ?_⟩;unfold eUn at h;cases ht:t τ with
 | err n=>rw[ht]at h;exact h
 | bad=>rw[ht]at h;exact h
 | ok d =>
  rw[ht,jYa]at h;intro v H1 L s1 r1 k1;unfold Xi at h;cases d with
  | lst ds =>
   dsimp only at h
   by_cases hi:D.imms ds=true
   ·rw[if_pos hi]at h;obtain⟨l,vs,L',rfl,hl,eL,rs⟩:=r1;have hl0:H l=none:=k1.2 l (by first|(rw[eL.1];exact tU)|(rw[eL];exact tU)|simp[eL]);refine⟨l,vs,rfl,hl,fun o=>?_⟩;have mu:(∃vs,H1 l=some (.lst vs))\/∃kvs,H1 l=some (.dK kvs):=.inl ⟨_,hl⟩;exact h (.ref l) _ [] (fun b o' e=>by rw[zy (zR e hl0)];exact s1 b o' e) ⟨l,vs,rfl,.inl ⟨o,zu⟩,rfl,hi,(yw rs hi).upd mu (by simp)⟩ RcOk.nil
   ·rw[if_neg hi]at h;exact h.elim
  | _=>exact h.elim
section
variable {prog:Program}{w:World}{A:Around}{E:Value->Shared->Prop}{s:Shared}
end
open PySem PySem.Spec PyProof.Rows PySem.Builtin.Str
section
variable {X:Cx}{E:XK}{Γ Γl:List Cl}{pos:Pos}
end
open PySem PySem.Spec PyProof.Rows PySem.Builtin.Str
section
variable {X:Cx}{pins:List (Addr×Obj)}{σ:St}{H:Hp}{s:Shared}
theorem Inv.tbl {P:Addr}{ps:Array Value}(I:Inv X pins σ H s)(h:∃more,X.H₀ P=some (.tbl (ps++more))):∃more,H P=some (.tbl (ps++more)):=by
 obtain⟨m1,h⟩:=h;obtain⟨m2,h⟩:=I.base.tbls P _ h;exact⟨m1++m2,by rw[h,Array.append_assoc]⟩
def Inv.grown {P c':Addr}{ps:Array Value}{l k:Value}{q:Str}{t0:Tok}{h':Heap}{t':Nat}(I:Inv X pins σ H s)(hP:H P=some (.tbl ps))(p0:ps[0]?=some l)(p1:ps[1]?=some k)(p2:ps[2]?=some (.str q t0))
  (kp:Heap.ExtBut P s.heap h') (hc:s.heap.objs.size<=c') (hcr:h'.CodeRec (.ref c') q) (ht:h'.get? P=some (jJ0 #[l,k,.ref c'])):Inv X pins σ (upd H c' (.own P)) { s with heap:=h',toks:=t' }:=by
 have hn:H c'=none:=I.hok.fresh hc;have neP:∀b u,H b=some u->(∀z,u≠.tbl z)->b≠P:=fun b u e n z=>by subst z;rw[hP]at e;exact n _ (jYe e).symm
 have nP:∀b,H b=none->b≠P:=fun b e z=>by subst z;rw[hP]at e;cases e
 have hco:∃o,h'.get? c'=some o:=by obtain⟨c,o,vs,t,e,e2,_⟩:=hcr;cases e;exact⟨o,e2⟩
 have ncP:P≠c':=fun z=>by subst z;rw[hP]at hn;cases hn
 refine I.un (H':=upd H c' (.own P)) ⟨fun b o e n _ _=>kp b o (nP b n) e,fun b o e n _ _=>⟨o.slots,kp b o (nP b n) e⟩,fun b o e n _=>?_,fun b o e _=>?_,fun b xs e=>?_,fun b o u e=>?_,fun b qs e=>⟨#[],?_⟩⟩ fun a o e=>?_
 ·rw[zy (sL (sN (jYc e) hc))];exact n
 ·by_cases z:b=P
  ·subst z;exact⟨_,ht⟩
  ·exact⟨o,kp b o z e⟩
 ·rw[zy (zR e hn)];exact e
 ·rw[zy (zR e hn)];exact e
 ·rw[zy (zR e hn),e];simp
 ·by_cases z:a=c'
  ·subst z;rw[zu]at e;cases e;exact hco
  ·rw[zy z]at e
   by_cases z2:a=P
   ·subst z2;rw[hP]at e;cases e;exact⟨_,ht,.inr ⟨l,k,q,t0,c',p0,p1,p2,rfl,zu,hcr⟩⟩
   ·refine (I.hok a o e).stay (fun b u hb q=>kp b u ?_ q) (fun b q=>by rw[zy (zR q hn)];exact q) fun b xs q=>by rw[zy (zR q hn)];exact q
    rcases hb with rfl|hb
    ·exact z2
    ·exact neP b _ hb fun z=>by simp
theorem Same.own {H:Hp}{a b:Addr}(h:H a=none):Same H (upd H a (.own b)):=Same.new h
structure LamAt (X:Cx)(P:Addr)(ps:Array Value)(lp:Pos)(q:Str):Prop where
 tb:∃more,X.H₀ P=some (.tbl (ps++more))
 p0:ps[0]?=some (rawInt lp.line)
 p1:ps[1]?=some (rawInt lp.col)
 p2:∃t,ps[2]?=some (.str q t)
 cd:∃c,X.env.code=.ref c/\jJo X.base c P
 bb:X.base.BuiltinsAt X.mg P
 nm:mainGlobals≠P
def Xd {h h':Heap}{c P:Addr}(x:jJo h c P)(k:∀b o,h.get? b=some o->h'.get? b=some o):jJo h' c P:=by
 obtain⟨o,vs,file,tf,flags,tg,inF,text,tt,e,r⟩:=x;exact⟨o,vs,file,tf,flags,tg,inF,text,tt,k _ _ e,r⟩
def Wa {h h':Heap}{mg:Str->Option Value}{P:Addr}(x:h.BuiltinsAt mg P)(k:∀b o,h.get? b=some o->h'.get? b=some o):h'.BuiltinsAt mg P:=by
 obtain⟨bm,o,a,b,c,d,e,r⟩:=x;exact⟨bm,o,a,b,c,d,k _ _ e,r⟩
end
section
variable {X:Cx}{pins:List (Addr×Obj)}{σ:St}{H:Hp}{s:Shared}{P:Addr}{ps:Array Value}{params:Arguments}{body:Expr}{scope:Scope}{lp:Pos}
def z1G {Q:Value->Shared->Prop}(I:Inv X pins σ H s)(L:LamAt X P ps lp (X.env.qual++Str.ofString "<lambda>"))(hd:defaultsOf params X.env=([],[]))(hcl:closureFor scope X.env=pure [])
  (h:∀(f c':Addr) (ctv pm:Value) (H':Hp) (s':Shared),Inv X pins σ H' s'->Same H H'->s.heap.objs.size<=f->H' f=none->s'.heap.get? f=some (jJ1 (Str.ofString "<lambda>") (X.env.qual++Str.ofString "<lambda>") params body scope [] pm c' ctv)->s'.heap.CodeRec (.ref c') (X.env.qual++Str.ofString "<lambda>")->H' c'=some (.own P)->Q (.ref f) s'):
  wpAny (model X.prog X.w) X.A (eval (.Lambda params body scope lp) X.env) Q X.xe s:=by
 refine PySem.W.kla_eval hd ?_;obtain⟨more,hP⟩:=I.tbl L.tb;obtain⟨c,hc,hcd⟩:=L.cd;obtain⟨t0,p2⟩:=L.p2;have q0:(ps++more)[0]?=some (rawInt lp.line):=by rw[Array.getElem?_append_left (Array.getElem?_eq_some_iff.mp L.p0).1];exact L.p0
 have q1:(ps++more)[1]?=some (rawInt lp.col):=by rw[Array.getElem?_append_left (Array.getElem?_eq_some_iff.mp L.p1).1];exact L.p1
 have q2:=p2;rw[<-Array.getElem?_append_left (Array.getElem?_eq_some_iff.mp p2).1 (ys:=more)]at q2;obtain⟨qs,hq,hor⟩:=I.hok P _ hP;have hb:=Wa L.bb I.bk;have hch:=Xd hcd I.bk;have hg:s.heap.Ns mainGlobals X.mg:=by obtain⟨o,es,ep,e,r⟩:=I.mod.glob;exact⟨o,es,ep,I.bk _ _ e,r⟩
 rcases hor with z|⟨l,k,q,t1,c',z0,z1,z2,z3,z4,z5⟩
 ·subst z;refine PySem.W.kla_makeFunction hcl I.ok.glob hg hc hch hq (by trivial) rfl L.nm hb fun c' ctv h' tk kp hc1 hc2 hcr hP'=>?_;have J:=I.grown (t':=tk) hP q0 q1 q2 kp hc1 hcr (by simpa using hP');have hsz:s.heap.objs.size<=h'.objs.size:=sT hc1 (pZ hc2);refine h h'.objs.size c' ctv _ _ _ (J.kept (t':=tk) fun b u e=>jYb _ e) (Same.own (I.hok.fresh hc1)) hsz (J.hok.fresh (tQ _)) (jYd _ rfl) ?_ zu;obtain⟨a,o,vs,t,e,e2,r⟩:=hcr;exact⟨a,o,vs,t,e,jYb _ e2,r⟩
 ·rw[q0]at z0;rw[q1]at z1;rw[q2]at z2;cases z0;cases z1;cases z2;subst z3;refine PySem.W.kla_makeFunctionHit hcl I.ok.glob hg hc hch hq ?_ (cv:=.ref c') ?_ hb fun ctv h' tk kp hsz=>?_
  ·simp[TriplesOk,rawInt]
  ·simp[codeAmong,rawInt]
  ·refine h h'.objs.size c' ctv _ H _ (I.kept (t':=tk) fun b u e=>jYb _ (kp b u e)) (Same.refl H) hsz (I.hok.fresh hsz) (jYd _ rfl) ?_ z4;obtain⟨a,o,vs,t,e,e2,r⟩:=z5;exact⟨a,o,vs,t,e,jYb _ (kp _ _ e2),r⟩
end
def Kb {P:Program}{w:World}{K:jJa}{mg:Str->Option Value}{base:Heap}{A:Around}{outer:List Env}{s:Shared}{H:Hp}{k:Nat}{f c':Addr}{name qual:Str}{params:Arguments}{body:Expr}{scope:Scope}{pm ctv:Value}{N ps:List Str}{args:Args}{us:List Value}{vs:List V}{Q:VK}{E:XK}{te:TE}{R:Result->Shared->Prop}
  (hr:Room (k+1) A) (e0:Env0 P w K mg base A outer s H) (lk:s.heap.get? f=some (jJ1 name qual params body scope [] pm c' ctv)) (hcd:s.heap.CodeRec (.ref c') qual) (S:FnScope N ps scope)
  (hb:BindsTo s (jJp name qual params body scope [] pm (.ref c') ctv) args (ps.zip us)) (r:Vals vs us) (hl:vs.length=ps.length) (hp:PE (wu (cxx P w) P w K mg base N qual scope f (.ref c') A outer s H E) body te) (h:te (start N vs) H Q)
  (hR:∀u s' v H',Inv (wu (cxx P w) P w K mg base N qual scope f (.ref c') A outer s H E) [] (start N vs) H' s'->RelV v u->Q v H'->R (.ok (.ret u)) s') (hE:∀e s'',cxx P w outer H s E e s''->R (.error e) s''):codeAny (model P w) A (.call (.ref f) args) R s:=by
 have lim:s.heap.NoLimit:=e0.mod.nolimit.keeps fun b o e=>(e0.bs b o e).1;have hkind:∀y∈ps.zip us,scope.names.lookup y.1=some .local\/(scope.names.lookup y.1=some .cell/\((cellsFrom (s.heap.objs.size+1) scope.names []).lookup y.1).isSome=true):=fun⟨n,v⟩ hy=>by
  rcases S.par n (List.of_mem_zip hy).1 with q|q
  ·exact .inl q
  ·exact .inr ⟨q,jJy _ _ _ (.inl q)⟩
 refine PySem.W.kla_callFunE hr.depth lk rfl S.co S.gen rfl hcd (hb _ _ _ _ ?_);refine wpAny_newFunctionEnv_cells S.kind hkind fun env he s1 x=>?_;subst he;refine⟨lim.keeps x.toInCall.keep,PySem.W.kla_codeExpr ?_⟩;have I:Inv (wu (cxx P w) P w K mg base N qual scope f (.ref c') A outer s H E) [] (start N vs) H s1:=Z6 S hr.hd e0 hl r x;refine wpAny_mono (hp [] s1 (start N vs) H _ I h) (fun u s' hs=>?_) fun e s' hs=>?_
 ·obtain⟨v,H',J,rv,q⟩:=hs;exact hR u s' v H' J rv q
 ·exact wpAny_mono hs (fun _ s'' z=>hE _ _ z) fun e' s'' z=>hE _ _ z
theorem jZ:∀ns:List Int,yz (ns.map D.int)=some ns
 | []=>rfl
 | n::ns=>by
  have e:yz ((n::ns).map D.int)=(yz (ns.map D.int)).map (n::·):=rfl;rw[e,jZ ns];rfl
def Yt {b:Addr}{e:Env}{l:List Env}(m:b∈frs l):b∈frs (e::l):=by
 obtain⟨x,h1,h2⟩:=rS.mp m;exact rS.mpr ⟨x,tW _ h1,h2⟩
def uY (h:Heap)(a:Addr)(ns:List Int):Prop:=∃(its:Array Value) (n:Nat) (dd:Option Addr) (sl:Array (Option Value)),IntsAre its.toList ns/\h.get? a=some { cls:=.type "tuple",dict:=dd,data:=.seq its n,slots:=sl }
section
variable {X:Cx}{pins:List (Addr×Obj)}{σ:St}{H:Hp}{s:Shared}
def Inv.slotted {s':Shared}(I:Inv X pins σ H s)(os:s'.os=s.os)(bare:AllBare s'.gens)(kp:∀b o,b∉frs X.stack->s.heap.get? b=some o->s'.heap.get? b=some o)(sl:∀b o,b∈frs X.stack->s.heap.get? b=some o->∃sl,s'.heap.get? b=some { o with slots:=sl }):Inv X pins σ H s':=by
 obtain⟨hh,g,d,t,os'⟩:=s';obtain rfl:os'=s.os:=os;refine I.call (h':=hh) (g':=g) (d':=d) (t':=t) (ch:=[]) ⟨fun b o e n hb _=>kp b o hb e,fun b o e n hb _=>sl b o hb e,fun b o e n _=>n,fun b o e _=>?_,fun b xs e=>e,fun b o u e=>e,fun b ps e=>⟨#[],by rw[e];simp⟩⟩ (fun a o e=>?_) bare (fun b z=>absurd z (by simp))
 ·by_cases hb:b∈frs X.stack
  ·obtain⟨z,e'⟩:=sl b o hb e;exact⟨_,e'⟩
  ·exact⟨o,kp b o hb e⟩
 ·refine (I.hok a o e).stay (fun b u hb q=>kp b u ?_ q) (fun _ q=>q) fun _ _ q=>q;rcases hb with rfl|hb
  ·exact I.trkNo e
  ·exact I.trkNo hb
def QF {k:Nat}{f c' a:Addr}{name qual:Str}{params:Arguments}{body:Expr}{scope:Scope}{pm ctv:Value}{N:List Str}{y:Str}{tk:Tn->R D}{vs:List V}{d:D}{L:List Addr}{ns:List Int}{Q:Value->Shared->Prop}{E:Value->Shared->Prop}
  (I:Inv X pins σ H s) (hr:Room (k+2) X.A) (lk:s.heap.get? f=some (jJ1 name qual params body scope [] pm c' ctv)) (hcd:s.heap.CodeRec (.ref c') qual) (S:FnScope N [y] scope) (hN:N.length=1)
  (hb:∀u:Value,BindsTo s (jJp name qual params body scope [] pm (.ref c') ctv) ⟨[u],[]⟩ [(y,u)])
  (hk:∀(s:Shared) (H:Hp),ME (wu (cxx X.prog X.w) X.prog X.w X.K X.mg X.base N qual scope f (.ref c') X.A.in1 X.stack s H fun _ _ _=>False) (fun _ _ _=>False) [.shr] body tk .fresh)
  (ra:SqT X.K H a vs) (hd:∀H':Hp,SqT X.K H' a vs->Rep X.K H' d (.ref a) L) (ht:tk [some d]=.ok (.tup (ns.map D.int)))
  (h:∀ka s',Inv X pins σ H s'->(∀b o,b∉frs X.stack->s.heap.get? b=some o->s'.heap.get? b=some o)->ka∉frs X.stack->uY s'.heap ka ns->Q (.ref ka) s'):wpAny (model X.prog X.w) X.A.in1 (call (.ref f) [.ref a]) Q E s:=by
 obtain⟨H1,H1n,S1,sub,hA⟩:∃H1:Hp,(∀b,b≠a->H1 b=none)/\SqT X.K H1 a vs/\(∀b,H b=none->H1 b=none)/\(H1 a=none\/∃o,s.heap.get? a=some o/\H1 a=some (.frz o (.tup vs))/\ObjOk X.prog X.w H1 s.heap a (.tup vs)):=by
  rcases ra with (z|⟨o,z⟩)|z
  ·have q:=I.hok a _ z;obtain⟨o,ho⟩:=q.there;exact⟨upd (fun _=>none) a (.frz o (.tup vs)),fun b hb=>zy hb,.inl (.inr ⟨o,zu⟩),fun b e=>zy fun w=>(by subst w;rw[z]at e;cases e),.inr ⟨o,ho,zu,q⟩⟩
  ·obtain⟨ho,q⟩:=I.hok a _ z;exact⟨upd (fun _=>none) a (.frz o (.tup vs)),fun b hb=>zy hb,.inl (.inr ⟨o,zu⟩),fun b e=>zy fun w=>(by subst w;rw[z]at e;cases e),.inr ⟨o,ho,zu,q⟩⟩
  ·exact⟨fun _=>none,fun b _=>rfl,.inr z,fun b _=>rfl,.inl rfl⟩
 have hok1:HOk X.prog X.w H1 s.heap:=fun b o e=>by
  by_cases z:b=a
  ·subst z;rcases hA with w|⟨o',w1,w2,w3⟩
   ·rw[w]at e;cases e
   ·rw[w2]at e;cases e;exact⟨w1,w3⟩
  ·rw[H1n b z]at e;cases e
 have e0:=I.env0;have e1:Env0 X.prog X.w X.K X.mg X.base X.A.in1 X.stack s H1:=⟨e0.frames,e0.mod,fun b o e=>⟨(e0.bs b o e).1,sub b (e0.bs b o e).2⟩,e0.bsz,e0.funs,fun b hb=>sub b (e0.frf b hb),hok1,e0.bare⟩
 obtain⟨te,pe,q⟩:=hk s H1;have fin:=q (fun _=>False) [some (.ref a)] H1 [some d] (fun v H'=>∃ka,v=.ref ka/\SqT X.K H' ka (ns.map V.int)/\Same H1 H') ⟨fun a z=>z.elim,fun i c e hc=>by
  match i,e with
  | 0,e =>
   have:c=.shr:=by simpa using e.symm
   subst this;exact⟨.ref a,d,L,rfl,rfl,hd H1 S1,fun _ a _ z=>z⟩⟩ (by
  rw[ht];intro v H' L' s' r' _;obtain⟨ka,ws,e,sq,rs⟩:=r';rw[xT rs (jZ ns)]at sq;exact⟨ka,e,sq,s'⟩)
 have st:start N [V.ref a]=[some (V.ref a)]:=by unfold start;rw[hN];rfl
 refine wpAny_call (Kb (k:=k) (N:=N) (ps:=[y]) (us:=[.ref a]) (vs:=[.ref a]) (E:=fun _ _ _=>False) hr.in1 e1 lk hcd S (hb (.ref a)) (.cons rfl .nil) rfl pe (by rw[st];exact fin) (fun u s' v H' J rv z=>?_) fun e s'' z=>(QN z).elim);obtain⟨ka,rfl,sq,sm⟩:=z;obtain rfl:u=Value.ref ka:=rv;have un:Un (frs X.stack) [] H1 H' s.heap s'.heap:=J.base;have kp:∀b o,b∉frs X.stack->s.heap.get? b=some o->s'.heap.get? b=some o:=fun b o hb e=>by
  by_cases z:H1 b=none
  ·exact un.keep b o e z hb (by simp)
  ·have zb:b=a:=Classical.byContradiction fun w=>z (H1n b w);subst zb;rcases hA with w|⟨o',w1,w2,_⟩
   ·exact absurd w z
   ·rw[e]at w1;cases w1;exact (J.hok b _ (un.frzs b _ _ w2)).1
 refine h ka s' (I.slotted J.os J.bare kp fun b o hb e=>?_) kp ?_ ?_
 ·exact un.slot b o e (sub b (I.stkFree b hb)) hb (by simp)
 ·intro m;rcases sq with (w|⟨o',w⟩)|⟨o',its,n,hk',_⟩
  ·have:=J.stkFree ka (Yt m);rw[w]at this;cases this
  ·have:=J.stkFree ka (Yt m);rw[w]at this;cases this
  ·exact J.ok.nofr (J.mod.kin ka o' hk') m
 ·obtain⟨its,r1,p1,_⟩:=J.tuple sq;obtain⟨⟨cls,dd,data,sl⟩,ho,hc,n,hdat⟩:=p1;simp only at hc hdat;subst hc hdat;exact⟨its.toArray,n,dd,sl,XO r1,ho⟩
end
def z0C {prog:Program}{w:World}{A:Around}{E:Value->Shared->Prop}{s:Shared}{a b:Addr}{ns ms:List Int}{Q:Value->Shared->Prop}(hu:A.units<cLine)(ha:uY s.heap a ns)(hb:uY s.heap b ms)(hl:ns.length=ms.length)(h:Q (.bool (wY ns ms)) s):
  wpAny (model prog w) A (richCompare .Gt (.ref a) (.ref b)) Q E s:=by
 obtain⟨its,n,dd,sl,i1,ho⟩:=ha;obtain⟨its2,n2,dd2,sl2,i2,ho2⟩:=hb;exact richCompare_meets_room (op:=.Gt) ⟨_,ho,rfl⟩ ⟨_,ho2,rfl⟩ PySem.F.slot_tuple_gt PySem.F.entry_tuple_gt (PySem.F.args_tuple_gt_2 _ _) (kO a b _ _ n n2 dd dd2 sl sl2 ns ms i1 i2 hl)
  ⟨⟨ho,ho2⟩,show Value.bool (wY ns ms)≠Value.notImplemented/\Q (.bool (wY ns ms)) s from⟨(fun x=>nomatch x),h⟩⟩ hu
def wU (kf:Nat->List Int):Nat->Nat->Nat->Nat
 | 0,_,b=>b
 | n+1,i,b=>wU kf n (i+1) (if wY (kf i) (kf b)=true then i else b)
section
variable {X:Cx}{pins:List (Addr×Obj)}{σ:St}{H:Hp}
def Ud {R:Result->Shared->Prop}{l It S f c':Addr}{items:List Value}{fo co lo:Obj}(kf:Nat->List Int)(klen:Nat)(hlen:∀i,i<items.length->(kf i).length=klen)(hcalm:X.A.in1.handled=none)(hu:X.A.in1.units<cLine)
  (hIS:It≠S) (hIl:It≠l) (hSl:S≠l) (nI:H It=none) (nS:H S=none) (oI:X.s₀.heap.objs.size<=It) (oS:X.s₀.heap.objs.size<=S)
  (cells:∀b,b=It\/b=S->b≠X.env.locals/\(∀x c,X.env.cells.lookup x=some c->c≠b)/\(∀p∈X.pn++pins,p.1≠b)/\b∉frs X.stack/\b≠f/\b≠c')
  (nf:f∉frs X.stack) (nc:c'∉frs X.stack)
  (nl:l∉frs X.stack) (hlo:lo.cls=.type "list"/\∃n,lo.data=.seq items.toArray n)
  (hcall:∀(s:Shared) (j:Nat) (u:Value) (Q:Value->Shared->Prop) (E:Value->Shared->Prop),Inv X pins σ H s->s.heap.get? f=some fo->s.heap.get? c'=some co->items[j]?=some u ->
   (∀ka s',Inv X pins σ H s'->(∀b o,b∉frs X.stack->s.heap.get? b=some o->s'.heap.get? b=some o)->ka∉frs X.stack->uY s'.heap ka (kf j)->Q (.ref ka) s')->wpAny (model X.prog X.w) X.A.in1 (call (.ref f) [u]) Q E s):
  ∀(n i:Nat) (s:Shared) (b:Nat) (ub:Value) (kb:Addr),i+n=items.length->b<i->items[b]?=some ub->Inv X pins σ H s->s.heap.get? f=some fo->s.heap.get? c'=some co->s.heap.get? l=some lo->s.heap.IsListIter It l i->(∃c,s.heap.get? S=some { cls:=.type "list",dict:=none,data:=.seq #[ub,.ref kb] c,slots:=#[] }) ->
   uY s.heap kb (kf b)->kb∉frs X.stack->kb≠It->kb≠S ->
   (∀s' u,items[wU kf n i b]?=some u->Inv X pins σ H s'->R (.ok (.ret u)) s')->codeAny (model X.prog X.w) X.A (.builtin "max.loop" ⟨[.ref It,.ref f,.ref S],[]⟩) R s:=by
 have turn:∀ {s:Shared} {h':Heap} {t':Nat} {b:Addr},(b=It\/b=S)->Inv X pins σ H s->(∀a o,a≠b->s.heap.get? a=some o->h'.get? a=some o)->Inv X pins σ H { s with heap:=h',toks:=t' }:=fun {s h' t' b} hb I k=>by
  obtain⟨c1,c2,c3,_⟩:=cells b hb;exact I.turned k (by rcases hb with rfl|rfl<;>assumption) c1 (.inr (by rcases hb with rfl|rfl<;>assumption)) c2 c3
 have hname:(toString "max"++toString ".loop":String)="max.loop":=by decide
 intro n
 induction n with
 | zero =>
  rintro i s b ub kb hn hb hub I hf hc hL hI ⟨c,hS⟩ hk nk n1 n2 hR;have hl:s.heap.IsList l items.toArray:=⟨lo,hL,hlo⟩
  refine codeAny_builtin jXj ?_;rw[Around.under_plainId jXh _];show wpAny _ X.A.in1 (seqItems? (.ref S) >>= _) _ _ s;refine wpAny_bind (wpAny_seqItems hS rfl ?_);show wpAny _ X.A.in1 (tryCatch (pyNext (.ref It)) _ >>= _) _ _ s;refine wpAny_bind (wpAny_tryCatch (wpAny_pyNext_list_end hcalm hI hl (by simp;omega) fun h' eb=>?_));have I1:=turn (t':=s.toks) (.inl rfl) I fun a o ha e=>eb a o ha e;show wpAny _ X.A.in1 (updateSeq S (fun _=>#[]) >>= _) _ _ _;refine wpAny_bind (wpAny_updateSeq (eb S _ (Ne.symm hIS) hS) rfl (wpAny_bind (wpAny_letGo (wpAny_pure ?_))));exact hR _ ub hub (turn (t':=s.toks) (.inr rfl) I1 fun a o ha e=>(Heap.get?_update_other _ _ (Ne.symm ha)).trans e)
 | succ n ih =>
  rintro i s b ub kb hn hb hub I hf hc hL hI ⟨c,hS⟩ hk nk n1 n2 hR;have hl:s.heap.IsList l items.toArray:=⟨lo,hL,hlo⟩
  have hi:i<items.length:=by omega
  obtain⟨ui,hui⟩:∃u,items[i]?=some u:=⟨_,tL hi⟩
  refine codeAny_builtin jXj ?_;rw[Around.under_plainId jXh _];show wpAny _ X.A.in1 (seqItems? (.ref S) >>= _) _ _ s;refine wpAny_bind (wpAny_seqItems hS rfl ?_);show wpAny _ X.A.in1 (tryCatch (pyNext (.ref It)) _ >>= _) _ _ s;refine wpAny_bind (wpAny_tryCatch (wpAny_pyNext_list_item hI hl (x:=ui) (by simpa using hui) fun h1 hI1 sb1=>?_));have I1:=turn (t':=s.toks) (.inl rfl) I fun a o ha e=>(sb1.2 a ha).trans e;show wpAny _ X.A.in1 (tryCatch (holding [ui] (call (.ref f) [ui])) _ >>= _) _ _ _;obtain⟨_,_,_,fI,fIf,fIc⟩:=cells It (.inl rfl);obtain⟨_,_,_,fS,fSf,fSc⟩:=cells S (.inr rfl);refine wpAny_bind (wpAny_tryCatch (wpAny_holding (hcall _ i ui _ _ I1 ((sb1.2 f (Ne.symm fIf)).trans hf) ((sb1.2 c' (Ne.symm fIc)).trans hc) hui fun ka s2 I2 kp nka hka=>?_)));have hS2:=kp S _ fS ((sb1.2 S (Ne.symm hIS)).trans hS);have hf2:=kp f _ nf ((sb1.2 f (Ne.symm fIf)).trans hf);have hc2:=kp c' _ nc ((sb1.2 c' (Ne.symm fIc)).trans hc);have hL2:=kp l _ nl ((sb1.2 l (Ne.symm hIl)).trans hL);have hI2:s2.heap.IsListIter It l (i+1):=by
   obtain⟨o,e,r⟩:=hI1;exact⟨o,kp It o fI e,r⟩
  have hk2:uY s2.heap kb (kf b):=by
   obtain⟨its,m,dd,sl,r,e⟩:=hk;exact⟨its,m,dd,sl,r,kp kb _ nk ((sb1.2 kb n1).trans e)⟩
  have cls:∀ {a:Addr} {ns:List Int},uY s2.heap a ns->a≠It/\a≠S:=fun {a ns} ⟨its,m,dd,sl,r,e⟩=>by
   refine⟨fun z=>?_,fun z=>?_⟩
   ·subst z;obtain⟨o,e',c1,_⟩:=hI2;rw[e]at e';cases e';exact absurd c1 (by simp)
   ·subst z;rw[e]at hS2;injection hS2 with hS2;injection hS2 with z1;exact absurd z1 (by simp)
  show wpAny _ X.A.in1 (tryCatch (holding [ui,.ref ka] (richCompare .Gt (.ref ka) (.ref kb) >>= _)) _ >>= _) _ _ _;refine wpAny_bind (wpAny_tryCatch (wpAny_holding (wpAny_bind (z0C hu hka hk2 (by rw[hlen i hi,hlen b (by omega)]) ?_))));refine wpAny_bind (wpAny_holding (wpAny_truthy_bool ?_));refine wpAny_bind (wpAny_letGo (wpAny_pure ?_))
  by_cases hg:wY (kf i) (kf b)=true
  ·rw[if_pos hg];refine wpAny_bind (wpAny_updateSeq hS2 rfl (wpAny_bind (wpAny_letGo ?_)));rw[hname];refine wpAny_pure ⟨plainId_quiet jXh _,?_⟩;have up:∀a o,a≠S->s2.heap.get? a=some o->(s2.heap.update S (Obj.mapSeq fun _=>#[ui,.ref ka])).get? a=some o:=fun a o ha e=>(Heap.get?_update_other _ _ (Ne.symm ha)).trans e;have I3:=turn (t':=s2.toks) (.inr rfl) I2 up;refine ih (i+1) _ i ui ka (by omega) (by omega) hui I3 (up f _ (Ne.symm fSf) hf2) (up c' _ (Ne.symm fSc) hc2) (up l _ (Ne.symm hSl) hL2) ?_ ⟨_,Heap.get?_update_self _ hS2 rfl⟩ ?_ nka (cls hka).1 (cls hka).2 fun s' u hu' I'=>hR s' u ?_ I'
   ·obtain⟨o,e,r⟩:=hI2;exact⟨o,up It o hIS e,r⟩
   ·obtain⟨its,m,dd,sl,r,e⟩:=hka;exact⟨its,m,dd,sl,r,up ka _ (cls ⟨its,m,dd,sl,r,e⟩).2 e⟩
   ·rw[show wU kf (n+1) i b=wU kf n (i+1) (if wY (kf i) (kf b)=true then i else b) from rfl,if_pos hg];exact hu'
  ·rw[if_neg hg];refine wpAny_bind (wpAny_letGo ?_);rw[hname];refine wpAny_pure ⟨plainId_quiet jXh _,?_⟩;refine ih (i+1) _ b ub kb (by omega) (by omega) hub I2 hf2 hc2 hL2 hI2 ⟨_,hS2⟩ hk2 nk n1 n2 fun s' u hu' I'=>hR s' u ?_ I';rw[show wU kf (n+1) i b=wU kf n (i+1) (if wY (kf i) (kf b)=true then i else b) from rfl,if_neg hg];exact hu'
end
section
variable {X:Cx}{pins:List (Addr×Obj)}{σ:St}{H:Hp}{s:Shared}
def Inv.frs_lt (I:Inv X pins σ H s){b:Addr}(hb:b∈frs X.stack):b<s.heap.objs.size:=by
 rcases sF.mp (I.stkSub b hb)with z|z
 ·rw[z];exact I.lt
 ·obtain⟨_,o,ho,_⟩:=I.ok.funs.mem z;exact sN (jYc ho) I.sz
def Inv.apart (I:Inv X pins σ H s){b:Addr}(hb:s.heap.objs.size<=b):b≠X.env.locals/\(∀x c,X.env.cells.lookup x=some c->c≠b)/\(∀p∈X.pn++pins,p.1≠b)/\b∉frs X.stack:=by
 refine⟨fun z=>?_,fun x c e z=>?_,fun p hp z=>?_,fun z=>?_⟩
 ·exact absurd I.lt (Nat.not_lt.mpr (z▸hb))
 ·obtain⟨v,o,ho,_⟩:=I.cell x c e;exact absurd (jYc ho) (Nat.not_lt.mpr (z▸hb))
 ·exact absurd (jYc (I.pin p hp).1) (Nat.not_lt.mpr (z▸hb))
 ·exact absurd (I.frs_lt z) (Nat.not_lt.mpr hb)
def VJ {l f c':Addr}{items:List Value}{fo co lo:Obj}(kf:Nat->List Int)(klen:Nat)(hlen:∀i,i<items.length->(kf i).length=klen)(hcalm:X.A.handled=none)(hu:X.A.in1.units<cLine)(I:Inv X pins σ H s)(hpos:0<items.length)
  (hf:s.heap.get? f=some fo) (hc:s.heap.get? c'=some co) (nf:f∉frs X.stack) (nc:c'∉frs X.stack)
  (hL:s.heap.get? l=some lo) (nl:l∉frs X.stack) (hlo:lo.cls=.type "list"/\∃n,lo.data=.seq items.toArray n)
  (hcall:∀(s:Shared) (j:Nat) (u:Value) (Q:Value->Shared->Prop) (E:Value->Shared->Prop),Inv X pins σ H s->s.heap.get? f=some fo->s.heap.get? c'=some co->items[j]?=some u ->
   (∀ka s',Inv X pins σ H s'->(∀b o,b∉frs X.stack->s.heap.get? b=some o->s'.heap.get? b=some o)->ka∉frs X.stack->uY s'.heap ka (kf j)->Q (.ref ka) s')->wpAny (model X.prog X.w) X.A.in1 (call (.ref f) [u]) Q E s)
  {Q:Value->Shared->Prop} {E:Value->Shared->Prop} (h:∀s' u,items[wU kf (items.length-1) 1 0]?=some u->Inv X pins σ H s'->Q u s'):
  wpAny (model X.prog X.w) X.A (call (.builtin "max") [.ref l] [("key",.ref f)]) Q E s:=by
 have hname:(toString "max"++toString ".loop":String)="max.loop":=by decide
 have hl:s.heap.IsList l items.toArray:=⟨lo,hL,hlo⟩
 have hlt:l<s.heap.objs.size:=by obtain⟨o,ho,_⟩:=hl;exact jYc ho
 have hft:=jYc hf;have hct:=jYc hc;refine wpAny_call (codeAny_call_builtin PySem.F.plain_max PySem.F.entry_max ?_);have body:wpAny (model X.prog X.w) X.A.in1 (Builtin.«max» ⟨[.ref l],[("key",.ref f)]⟩) (fun fin s'=>match fin with
   | .done f=>(match (Except.ok f:Result)with | .ok (.ret v)=>Q v s' | .ok _=>False | .error e=>E e s')
   | .again c'=>c'.quiet=true/\codeAny (model X.prog X.w) X.A c' (fun r s'=>match r with | .ok (.ret v)=>Q v s' | .ok _=>False | .error e=>E e s') s') E s:=by
  show wpAny _ X.A.in1 (Builtin.Builtins.bindParams "max" ["key","default"] 0 ⟨[],[("key",.ref f)]⟩ >>= _) _ _ s;refine wpAny_bind (wpAny_of_eq (show Builtin.Builtins.bindParams "max" ["key","default"] 0 ⟨[],[("key",.ref f)]⟩=pure [some (.ref f),none] from rfl) ?_);refine wpAny_bind (wpAny_pure ?_);refine wpAny_bind (wpAny_pyIter_list hl ?_);refine wpAny_bind (wpAny_newObj_type ?_);rw[hname];have hz:(s.heap.push { cls:=.type "list_iterator",data:=.fields #[.ref l,.int 0 0] }).objs.size=s.heap.objs.size+1:=Heap.size_push ..;refine wpAny_pure ⟨plainId_quiet jXh _,?_⟩;have k0:∀b o,s.heap.get? b=some o->((s.heap.push { cls:=.type "list_iterator",data:=.fields #[.ref l,.int 0 0] }).push { cls:=.type "list",data:=.seq #[] }).get? b=some o:=fun b o e=>jYb _ (jYb _ e);have I0:=I.kept (t':=s.toks) k0;obtain⟨ui,hui⟩:∃u,items[0]?=some u:=⟨_,tL hpos⟩
  have aI:=I.apart (b:=s.heap.objs.size) (tQ _);have aS:=I.apart (b:=s.heap.objs.size+1) (pC _);have nIS:s.heap.objs.size≠s.heap.objs.size+1:=sL (pX _);have fI:f≠s.heap.objs.size:=sL hft;have fS:f≠s.heap.objs.size+1:=sL (pR hft);have cS:c'≠s.heap.objs.size+1:=sL (pR hct);have lI:l≠s.heap.objs.size:=sL hlt;have lS:l≠s.heap.objs.size+1:=sL (pR hlt);have cI:c'≠s.heap.objs.size:=sL hct;have hI:((s.heap.push { cls:=.type "list_iterator",data:=.fields #[.ref l,.int 0 0] }).push { cls:=.type "list",data:=.seq #[] }).IsListIter s.heap.objs.size l 0:=⟨_,jYb _ (jYd _ rfl),rfl,rfl⟩
  have hS:((s.heap.push { cls:=.type "list_iterator",data:=.fields #[.ref l,.int 0 0] }).push { cls:=.type "list",data:=.seq #[] }).get? (s.heap.objs.size+1)=some { cls:=.type "list",data:=.seq #[] }:=by
   rw[<-hz];exact jYd _ rfl
  rw[hz];refine codeAny_builtin jXj ?_;rw[Around.under_plainId jXh _];show wpAny _ X.A.in1 (seqItems? (.ref (s.heap.objs.size+1)) >>= _) _ _ _;refine wpAny_bind (wpAny_seqItems hS rfl ?_);show wpAny _ X.A.in1 (tryCatch (pyNext (.ref s.heap.objs.size)) _ >>= _) _ _ _;refine wpAny_bind (wpAny_tryCatch (wpAny_pyNext_list_item hI ⟨lo,k0 l _ hL,hlo⟩ (x:=ui) (by simpa using hui) fun h1 hI1 sb1=>?_));have I1:=I0.turned (t':=s.toks) (it:=s.heap.objs.size) (h':=h1) (fun a o ha e=>(sb1.2 a ha).trans e) (I.hok.fresh (tQ _)) aI.1 (.inr I.sz) aI.2.1 aI.2.2.1;show wpAny _ X.A.in1 (tryCatch (holding [ui] (call (.ref f) [ui])) _ >>= _) _ _ _;refine wpAny_bind (wpAny_tryCatch (wpAny_holding (hcall _ 0 ui _ _ I1 ((sb1.2 f fI).trans (k0 f _ hf)) ((sb1.2 c' cI).trans (k0 c' _ hc)) hui fun ka s2 I2 kp nka hka=>?_)));have hS2:=kp _ _ aS.2.2.2 ((sb1.2 (s.heap.objs.size+1) (Ne.symm nIS)).trans hS);have hI2:s2.heap.IsListIter s.heap.objs.size l 1:=by
   obtain⟨o,e,r⟩:=hI1;exact⟨o,kp _ o aI.2.2.2 e,r⟩
  show wpAny _ X.A.in1 (updateSeq (s.heap.objs.size+1) (fun _=>#[ui,.ref ka]) >>= _) _ _ _;refine wpAny_bind (wpAny_updateSeq hS2 rfl ?_);rw[hname];refine wpAny_pure ⟨plainId_quiet jXh _,?_⟩;have up:∀a o,a≠s.heap.objs.size+1->s2.heap.get? a=some o->(s2.heap.update (s.heap.objs.size+1) (Obj.mapSeq fun _=>#[ui,.ref ka])).get? a=some o:=fun a o ha e=>(Heap.get?_update_other _ _ (Ne.symm ha)).trans e;have I3:=I2.turned (t':=s2.toks) (it:=s.heap.objs.size+1) up (I.hok.fresh (pC _)) aS.1 (.inr (sT I.sz (pC _))) aS.2.1 aS.2.2.1;have ne:ka≠s.heap.objs.size/\ka≠s.heap.objs.size+1:=by
   obtain⟨its,m,dd,sl,r,e⟩:=hka;refine⟨fun z=>?_,fun z=>?_⟩
   ·obtain⟨o,e',c1,_⟩:=hI2;rw[z]at e;rw[e]at e';cases e';exact absurd c1 (by simp)
   ·rw[z]at e;rw[e]at hS2;injection hS2 with hS2;injection hS2 with z1;exact absurd z1 (by simp)
  refine Ud (X:=X) (pins:=pins) (σ:=σ) (H:=H) kf klen hlen hcalm hu nIS (Ne.symm lI) (Ne.symm lS) (I.hok.fresh (tQ _)) (I.hok.fresh (pC _)) I.sz (sT I.sz (pC _)) (fun b hb=>?_) nf nc nl hlo hcall (items.length-1) 1 _ 0 ui ka (by omega) (by omega) hui I3 (up f _ fS (kp f _ nf ((sb1.2 f fI).trans (k0 f _ hf)))) (up c' _ cS (kp c' _ nc ((sb1.2 c' cI).trans (k0 c' _ hc)))) (up l _ lS (kp l _ nl ((sb1.2 l lI).trans (k0 l _ hL)))) ?_ ⟨_,Heap.get?_update_self _ hS2 rfl⟩ ?_ nka ne.1 ne.2 fun s' u e I'=>h s' u e I'
  ·rcases hb with rfl|rfl
   ·exact⟨aI.1,aI.2.1,aI.2.2.1,aI.2.2.2,Ne.symm fI,Ne.symm cI⟩
   ·exact⟨aS.1,aS.2.1,aS.2.2.1,aS.2.2.2,Ne.symm fS,Ne.symm cS⟩
  ·obtain⟨o,e,r⟩:=hI2;exact⟨o,up _ o nIS e,r⟩
  ·obtain⟨its,m,dd,sl,r,e⟩:=hka;exact⟨its,m,dd,sl,r,up ka _ ne.2 e⟩
 have ha:argsOk "max" ⟨[.ref l],[("key",.ref f)]⟩:=kmk_max_key _ _;simp only[checkBuiltinCall,PySem.F.kind_max];cases hsig:Manifest.signature? "max" with
 | none=>exact wpAny_pure body
 | some sig =>
  have ha':Bind.checkArgs "max" sig ⟨[.ref l],[("key",.ref f)]⟩=pure ():=by simpa only [argsOk,hsig] using ha
  simp only[ha'];exact wpAny_pure body
end
def jM (tk:Tn->R D):List D->Option (List (List Int))
 | []=>some []
 | .tup es::ds=>(match yz es,tk [some (.tup es)],jM tk ds with
  | some _,.ok (.tup fs),some ks=>(match yz fs with
   | some ns=>if ns.length=2 then some (ns::ks) else none
   | none=>none)
  | _,_,_=>none)
 | _::_=>none
theorem keysK_at {tk:Tn->R D}:∀ {ds:List D} {ks:List (List Int)},jM tk ds=some ks->ks.length=ds.length/\∀i d,ds[i]?=some d->∃es xs ns,d=.tup es/\yz es=some xs/\tk [some d]=.ok (.tup (ns.map D.int))/\ks.getD i []=ns/\ns.length=2
 | [],ks,h=>by cases h;exact⟨rfl,fun i d e=>by simp at e⟩
 | d::ds,ks,h=>by
  cases d with
  | tup es =>
   have h:(match yz es,tk [some (.tup es)],jM tk ds with
    | some _,.ok (.tup fs),some ks=>(match yz fs with
     | some ns=>if ns.length=2 then some (ns::ks) else none
     | none=>none)
    | _,_,_=>none)=some ks:=h
   split at h
   ·rename_i xs fs ks' h1 h2 h3;split at h
    ·rename_i ns h4;split at h
     ·rename_i h5;cases h;obtain⟨l,r⟩:=keysK_at h3;have ef:fs=ns.map D.int:=intsOf_inv h4;refine⟨by rw[tF,tF,l],fun i d e=>?_⟩;cases i with
      | zero =>
       simp at e;subst e;exact⟨es,xs,ns,rfl,h1,by rw[h2,ef],rfl,h5⟩
      | succ i =>
       obtain⟨es',xs',ns',a,b,c,d',f⟩:=r i d (by simpa using e);exact⟨es',xs',ns',a,b,c,by simpa [List.getD] using d',f⟩
     ·cases h
    ·cases h
   ·cases h
  | _=>cases h
where
 intsOf_inv:∀ {ds:List D} {ns:List Int},yz ds=some ns->ds=ns.map D.int
 | [],ns,h=>by cases h;rfl
 | d::ds,ns,h=>by
  cases d with
  | int i =>
   have h:(yz ds).map (i::·)=some ns:=h;cases e:yz ds with
   | none=>rw[e]at h;cases h
   | some ms=>rw[e]at h;cases h;rw[intsOf_inv e];rfl
  | _=>cases h
def vG (tk:Tn->R D):D->R D
 | .lst ds=>(match jM tk ds with
  | some ks=>(match ds[wU (fun i=>ks.getD i []) (ds.length-1) 1 0]? with
   | some d=>.ok d
   | none=>.bad)
  | none=>.bad)
 | _=>.bad
def z0I (tk:Tn->R D)(d:D)(n:Str):vG tk d≠.err n:=fun h=>by
 unfold vG at h;split at h
 ·split at h
  ·split at h<;>cases h
  ·cases h
 ·cases h
section
variable {X:Cx}{E:XK}{Γ:List Cl}{e:Expr}{t:Tn->R D}{c:Rc}{p pos kp lp:Pos}{te:TE}{P:Addr}{ps:Array Value}{params:Arguments}{body:Expr}{scope:Scope}{tk:Tn->R D}{y:Str}{k:Nat}
def z31 (K:jJa)(tk:Tn->R D)(te:TE):TE:=fun σ H Q=>te σ H fun x H1=>∃a vs ds L,x=.ref a/\H1 a=some (.lst vs)/\Reps K H1 ds vs L/\∃d,vG tk (.lst ds)=.ok d/\∀v H2 L',Same H1 H2->Rep K H2 d v L'->(∀b∈L',b∈L)->Q v H2
def Ke (hc:X.calm=true)(hg:Gl X "max")(hm:X.mg "max"=none)(ha:PE X e te)(La:LamAt X P ps lp (X.env.qual++Str.ofString "<lambda>"))(hd:defaultsOf params X.env=([],[]))(hcl:closureFor scope X.env=pure [])(hr:Room (k+2) X.A)(S:FnScope [y] [y] scope)
  (hb:∀(qual:Str) (pm ctv cv u:Value) (s:Shared),BindsTo s (jJp (Str.ofString "<lambda>") qual params body scope [] pm cv ctv) ⟨[u],[]⟩ [(y,u)])
  (hk:∀(f c':Addr) (s:Shared) (H:Hp),ME (wu (cxx X.prog X.w) X.prog X.w X.K X.mg X.base [y] (X.env.qual++Str.ofString "<lambda>") scope f (.ref c') X.A.in1 X.stack s H fun _ _ _=>False) (fun _ _ _=>False) [.shr] body tk .fresh)
  (he:autoParam (starEach [e] X.env=(false,eval e X.env)::starEach [] X.env) au3._auto_1)
  (he2:autoParam (backTo pos (starEach [e] X.env)=(false,eval e X.env)::backTo pos (starEach [] X.env)) au3._auto_1) (hplain:autoParam ((backTo pos (starEach [e] X.env)).any (·.1)=false) au3._auto_1)
  (hall:autoParam ((backToKw pos (keywordEach [⟨some "key",.Lambda params body scope lp,kp⟩] X.env)).all (·.1.isSome)=true) au3._auto_1) (hkw:autoParam ((backToKw pos (keywordEach [⟨some "key",.Lambda params body scope lp,kp⟩] X.env)).any (·.1.isNone)=false) au3._auto_1):
  PE X (.Call (.Name "max" p) [e] [⟨some "key",.Lambda params body scope lp,kp⟩] pos) (z31 X.K tk te):=by
 intro pins s σ H Q I h;refine wpAny_Call_Name_kw (uT I hg hm PyProof.Rows.boot_max ?_ (by decide) (by decide));refine PyProof.Rows.callWith_kw ?_ he2 hplain hall hkw;refine thn ((wI ha vV he) pos pins s σ H (fun xs H1=>match xs with
  | [x]=>∃a vs ds L,x=.ref a/\H1 a=some (.lst vs)/\Reps X.K H1 ds vs L/\∃d,vG tk (.lst ds)=.ok d/\∀v H2 L',Same H1 H2->Rep X.K H2 d v L'->(∀b∈L',b∈L)->Q v H2
  | _=>False) I h) fun us s1 ⟨vs,H1,I1,r1,q1⟩=>?_
 match vs,r1,q1 with
 | [x],r1,q1 =>
  obtain⟨ux,rfl,rx⟩:=vL r1;obtain⟨a,vs,ds,L,rfl,hla,rs,d,hmx,q⟩:=q1;obtain rfl:ux=Value.ref a:=rx;refine PyProof.Rows.kws_cons (z1G I1 La hd hcl fun f c' ctv pm H2 s2 I2 sm hfs hfn hfo hcr hown=>PyProof.Rows.kws_nil ?_);have hla2:=sm a _ hla;have rs2:=rs.same sm;obtain⟨its,rv,⟨lo,n,hlo,hcls,_,hdat⟩,_⟩:=I2.list (SqL.of hla2);unfold vG at hmx;dsimp only at hmx;cases hks:jM tk ds with
  | none=>rw[hks]at hmx;cases hmx
  | some ks =>
   rw[hks]at hmx;dsimp only at hmx;obtain⟨kl,kat⟩:=keysK_at hks;have il:its.length=ds.length:=by rw[<-rv.length,rs2.length]
   cases hbd:ds[wU (fun i=>ks.getD i []) (ds.length-1) 1 0]? with
   | none=>rw[hbd]at hmx;cases hmx
   | some d' =>
    rw[hbd]at hmx;cases hmx;have hpos:0<its.length:=by
     rw[il];cases ds with
     | nil=>simp at hbd
     | cons _ _=>simp
    obtain⟨cc,co,cvs,ct,ecc,hco,hcr'⟩:=id hcr;cases ecc;have nf:f∉frs X.stack:=fun z=>by have:=I1.frs_lt z;exact absurd this (Nat.not_lt.mpr hfs)
    show wpAny _ _ (call (.builtin "max") [.ref a] [("key",.ref f)]) _ _ _;refine VJ (items:=its) (c':=c') (lo:=lo) (fun i=>ks.getD i []) 2 (fun i hi=>?_) (I2.ok.hd hc) (hr.in1.units0) I2 hpos hfo hco nf (I2.trkNo hown) hlo (I2.trkNo hla2) ⟨hcls,n,by simpa using hdat⟩ ?_ fun s' u hu I'=>?_
    ·obtain⟨d,hd⟩:∃d,ds[i]?=some d:=⟨_,tL (by omega)⟩
     obtain⟨es,xs,ns,_,_,_,e4,e5⟩:=kat i d hd;show (ks.getD i []).length=2;rw[e4,e5]
    ·intro s3 j u Q3 E3 I3 hf3 hc3 hu3 h3;have hj:j<ds.length:=by rw[<-il];exact (tV.mp hu3).1
     obtain⟨d,hdj⟩:∃d,ds[j]?=some d:=⟨_,tL hj⟩
     obtain⟨es,xs,ns,rfl,e2,e3,e4,e5⟩:=kat j d hdj;obtain⟨v,L1,hv,rep,_⟩:=rs2.get hdj;obtain⟨b,ws,rfl,sq,rws⟩:=rep;have hw:=xT rws e2;subst hw;obtain⟨u',hu',ru⟩:=rv.get hv;rw[hu3]at hu';cases hu';obtain rfl:u=Value.ref b:=ru;have rI:∀H':Hp,Reps X.K H' es (xs.map V.int) []:=fun H'=>by rw[keysK_at.intsOf_inv e2];exact ua xs
     refine QF (k:=k) (tk:=tk) (ns:=ns) (d:=.tup es) I3 hr hf3 ⟨c',co,cvs,ct,rfl,hc3,hcr'⟩ S rfl (fun u=>hb _ _ _ _ u _) (hk f c') sq (L:=[]) (fun H' sq'=>⟨b,_,rfl,sq',rI H'⟩) e3 fun ka s' J kp nka key=>h3 ka s' J kp nka ?_;show uY s'.heap ka (ks.getD j []);rw[e4];exact key
    ·rw[il]at hu;obtain⟨v,L1,hv,rep,sub⟩:=rs2.get hbd;obtain⟨u',hu',ru⟩:=rv.get hv;rw[hu]at hu';cases hu';exact⟨v,H2,I',ru,q v H2 L1 sm rep fun b hb=>sub.subset hb⟩
def Jw (hc:X.calm=true)(hg:Gl X "max")(hm:X.mg "max"=none)(ha:ME X E Γ e t c)(La:LamAt X P ps lp (X.env.qual++Str.ofString "<lambda>"))(hd:defaultsOf params X.env=([],[]))(hcl:closureFor scope X.env=pure [])(hr:Room (k+2) X.A)(S:FnScope [y] [y] scope)
  (hb:∀(qual:Str) (pm ctv cv u:Value) (s:Shared),BindsTo s (jJp (Str.ofString "<lambda>") qual params body scope [] pm cv ctv) ⟨[u],[]⟩ [(y,u)])
  (hk:∀(f c':Addr) (s:Shared) (H:Hp),ME (wu (cxx X.prog X.w) X.prog X.w X.K X.mg X.base [y] (X.env.qual++Str.ofString "<lambda>") scope f (.ref c') X.A.in1 X.stack s H fun _ _ _=>False) (fun _ _ _=>False) [.shr] body tk .fresh)
  (he:autoParam (starEach [e] X.env=(false,eval e X.env)::starEach [] X.env) au3._auto_1)
  (he2:autoParam (backTo pos (starEach [e] X.env)=(false,eval e X.env)::backTo pos (starEach [] X.env)) au3._auto_1) (hplain:autoParam ((backTo pos (starEach [e] X.env)).any (·.1)=false) au3._auto_1)
  (hall:autoParam ((backToKw pos (keywordEach [⟨some "key",.Lambda params body scope lp,kp⟩] X.env)).all (·.1.isSome)=true) au3._auto_1) (hkw:autoParam ((backToKw pos (keywordEach [⟨some "key",.Lambda params body scope lp,kp⟩] X.env)).any (·.1.isNone)=false) au3._auto_1):
  ME X E Γ (.Call (.Name "max" p) [e] [⟨some "key",.Lambda params body scope lp,kp⟩] pos) (eUn (vG tk) t) .bor:=by
 obtain⟨te,p1,q1⟩:=ha;refine⟨_,Ke hc hg hm p1 La hd hcl hr S hb hk he he2 hplain hall hkw,fun O σ H τ Q ok h=>?_⟩;refine q1 O σ H τ _ ok (post.bind h fun dx hx h x H1 Lx s1 rx kx=>?_);cases dx with
 | lst ds =>
  obtain⟨a,vs,L',rfl,had,e2,rs⟩:=rx;cases hmx:vG tk (.lst ds)with
  | ok d =>
   rw[hmx]at h;exact⟨a,vs,ds,L',rfl,had,rs,d,hmx,fun v H2 L2 s2 r2 _=>h v H2 L2 (s1.trans s2) r2 trivial⟩
  | err n=>exact absurd hmx (z0I _ _ _)
  | bad=>rw[hmx]at h;exact h.elim
 | _=>exact h.elim
end
def X6 (f:Str):List Str->List D->R D
 | n::ns,d::ds=>if n=f then .ok d else X6 f ns ds
 | _,_=>.bad
def yQ (C:Addr)(f:Str):D->R D
 | .obj C' ns ds=>if C'=C then X6 f ns ds else .bad
 | _=>.bad
theorem Vi {K:jJa}{H:Hp}{f:Str}{d:D}:∀ {fs:List (Str×V)} {ns:List Str} {ds:List D} {L:List Addr},fs.map (·.1)=ns->Reps K H ds (fs.map (·.2)) L->X6 f ns ds=.ok d->∃v L1,fs.lookup f=some v/\Rep K H d v L1/\List.Sublist L1 L
 | [],_,_,_,hn,r,h=>by subst hn;cases h
 | (n,v)::fs,_,[],_,hn,r,h=>by subst hn;cases h
 | (n,v)::fs,_,d'::ds,_,hn,r,h=>by
  subst hn;have h:(if n=f then .ok d' else X6 f (fs.map (·.1)) ds)=R.ok d:=h;obtain⟨v',vs',L1,L2,e1,e2,r1,r2⟩:=r;have e1:v::fs.map (·.2)=v'::vs':=e1;injection e1 with ev evs;subst ev evs e2
  by_cases hf:n=f
  ·rw[if_pos hf]at h;cases h;subst hf;exact⟨v,L1,by simp[List.lookup],r1,gA _ _⟩
  ·rw[if_neg hf]at h;obtain⟨w,L3,a,b,c⟩:=Vi (fs:=fs) rfl r2 h;have hb:(f==n)=false:=beq_false_of_ne (Ne.symm hf);exact⟨w,L3,by rw[List.lookup,hb];exact a,b,c.trans (rQ _ _)⟩
theorem WX {f:Str}{n:Str}:∀ {ns:List Str} {ds:List D},X6 f ns ds≠.err n
 | [],_,h=>by cases h
 | _::_,[],h=>by cases h
 | m::ns,d::ds,h=>by
  have h:(if m=f then .ok d else X6 f ns ds)=R.err n:=h;split at h
  ·cases h
  ·exact WX h
section
variable {X:Cx}{E:XK}{Γ:List Cl}{e:Expr}{t:Tn->R D}{c:Rc}{pos:Pos}{C:Addr}{f:Str}
def wB (cl:Cls X.K C)(hn:NoAttr X.K C f)(he:ME X E Γ e t c)(hb:autoParam (attributeBase e f X.env (eval e X.env)=eval e X.env) au3._auto_1):ME X E Γ (.Attribute e f pos) (eUn (yQ C f) t) c:=by
 obtain⟨te,p,q⟩:=he;refine⟨_,Wm p hb,fun O σ H τ Q ok h=>q O σ H τ _ ok (post.bind h fun d _ h v H1 L s1 r1 k1=>?_)⟩;cases d with
 | obj C' ns ds =>
  have h2:post X.K E O c H Q (if C'=C then X6 f ns ds else .bad):=h;clear h
  by_cases hC:C'=C
  ·rw[if_pos hC]at h2;subst hC;obtain⟨a,dx,fs,rfl,ha,hns,rs⟩:=r1;cases hf:X6 f ns ds with
   | ok d =>
    rw[hf]at h2;obtain⟨v,L1,l,rv,sub⟩:=Vi hns rs hf;exact⟨a,C',dx,fs,v,rfl,ha,cl,hn,l,h2 v H1 L1 s1 rv (k1.sub sub)⟩
   | err n=>exact absurd hf WX
   | bad=>rw[hf]at h2;exact h2.elim
  ·rw[if_neg hC]at h2;exact h2.elim
 | _=>exact h.elim
end
def spT (P:Addr)(ps:Array Value)(sp:Sp):Sp:=fun vs H Q E=>(∃more,H P=some (.tbl (ps++more)))/\sp vs H Q E
structure OwnM (P:Program)(w:World)(K:jJa)(mg:Str->Option Value)(base:Heap)(C:Addr)(m:Str)(k:Nat)(ps:List Str)(sp:Sp):Prop where
 ex:∃f fd,FnOk P w K mg base (cxx P w) k f fd ps sp/\Meth K C m f/\Binds K fd ps []
theorem OwnM.mono {P:Program}{w:World}{K:jJa}{mg:Str->Option Value}{base:Heap}{C:Addr}{m:Str}{j k:Nat}{ps:List Str}{sp:Sp}(O:OwnM P w K mg base C m j ps sp)(h:j<=k):OwnM P w K mg base C m k ps sp:=by
 obtain⟨f,fd,F,a,b⟩:=O.ex;exact⟨f,fd,F.mono h,a,b⟩
section
variable {P:Program}{w:World}{K:jJa}{mg:Str->Option Value}{base:Heap}{x qual:Str}{st:Stmt}{N ps:List Str}{k:Nat}{t:Tn->R Fl}{Γ':List Cl}{TP:Addr}{tps:Array Value}
def z0N {f:Addr}{oc:Value}{od an:Option Addr}{osl:Array (Option Value)}{kV doc pm cdv ct:Value}(lk:K.lookup f=some ⟨oc,od,.func (jJb x qual (defArgs st) (defBody st) (defScope st) .none kV doc pm an cdv ct),osl⟩)(hcd:jJf K cdv qual=true)
  (S:FnScope N ps (defScope st)) (hn:ps.length<=N.length)
  (hbody:∀(A:Around) (outer:List Env) (s:Shared) (H:Hp) (E:XK),Room k (A.deeper (envOfC qual (defScope st) s.heap.objs.size f cdv)) ->
   MSs (wu (cxx P w) P w K mg base N qual (defScope st) f cdv A outer s H E) E [] (qP N.length ps.length) (defBody st) t Γ'):
  FnOk P w K mg base (cxx P w) (k+1) f (jJb x qual (defArgs st) (defBody st) (defScope st) .none kV doc pm an cdv ct) ps (spM K (zC N.length t) ps.length):=by
 refine WJ lk hcd S (fun vs H Q E h=>h.1) fun A outer s H vs Q E hr h=>?_;obtain⟨hl,ds,L,r,h⟩:=h;obtain⟨ts,p,q⟩:=hbody A outer s H E hr;refine⟨ts,p,q H (start N vs) H _ _ (hl▸SOk.start r (by lia)) ?_⟩;unfold zC at h;cases ht:t (ds.map some++List.replicate (N.length-ds.length) none)with
 | ok f =>
  rw[ht]at h;cases f with
  | nx τ'=>exact fun σ' H' ok'=>h .non H' [] ok'.ext ⟨rfl,rfl⟩ RcOk.nil
  | rt d=>exact fun v H' L s r n1 n2=>h v H' L s r ⟨n1,n2⟩
  | bk τ'=>exact h.elim
  | ct τ'=>exact h.elim
 | err n=>rw[ht]at h;exact fun C H' e s=>h C H' e s
 | bad=>rw[ht]at h;exact h.elim
def Y2 {f:Addr}{oc:Value}{od an:Option Addr}{osl:Array (Option Value)}{kV doc pm cdv ct:Value}(lk:K.lookup f=some ⟨oc,od,.func (jJb x qual (defArgs st) (defBody st) (defScope st) .none kV doc pm an cdv ct),osl⟩)(hcd:jJf K cdv qual=true)
  (S:FnScope N ps (defScope st)) (hn:ps.length<=N.length)
  (hbody:∀(A:Around) (outer:List Env) (s:Shared) (H:Hp) (E:XK),(∃more,H TP=some (.tbl (tps++more)))->Room k (A.deeper (envOfC qual (defScope st) s.heap.objs.size f cdv)) ->
   MSs (wu (cxx P w) P w K mg base N qual (defScope st) f cdv A outer s H E) E [] (qP N.length ps.length) (defBody st) t Γ'):
  FnOk P w K mg base (cxx P w) (k+1) f (jJb x qual (defArgs st) (defBody st) (defScope st) .none kV doc pm an cdv ct) ps (spT TP tps (spM K (zC N.length t) ps.length)):=by
 refine WJ lk hcd S (fun vs H Q E h=>h.2.1) fun A outer s H vs Q E hr h=>?_;obtain⟨hT,hl,ds,L,r,h⟩:=h;obtain⟨ts,p,q⟩:=hbody A outer s H E hT hr;refine⟨ts,p,q H (start N vs) H _ _ (hl▸SOk.start r (by lia)) ?_⟩;unfold zC at h;cases ht:t (ds.map some++List.replicate (N.length-ds.length) none)with
 | ok f =>
  rw[ht]at h;cases f with
  | nx τ'=>exact fun σ' H' ok'=>h .non H' [] ok'.ext ⟨rfl,rfl⟩ RcOk.nil
  | rt d=>exact fun v H' L s r n1 n2=>h v H' L s r ⟨n1,n2⟩
  | bk τ'=>exact h.elim
  | ct τ'=>exact h.elim
 | err n=>rw[ht]at h;exact fun C H' e s=>h C H' e s
 | bad=>rw[ht]at h;exact h.elim
end
section
variable {X:Cx}{E:XK}{Γ:List Cl}{x m:Str}{k:Nat}{ps:List Str}{F:List D->R D}{o e:Expr}{es:List Expr}{to:Tn->R D}{u:Tn->R (List D)}{c co:Rc}{p pos apos:Pos}{n:Nat}{C TP:Addr}{tps:Array Value}{sp:Sp}{ta:TE}{t:TA}
def KP (O:Own X.prog X.w X.K X.mg X.base x k ps (spT TP tps sp))(hT:∃more,X.H₀ TP=some (.tbl (tps++more)))(hr:Room k X.A)(hg:Gl X x)(hx:xl (cxx X.prog X.w) X E)(ha:PA X (e::es) t)(hdb:autoParam ((x==("__debug__":Str))=false) au1._auto_1)
  (he:autoParam (starEach (e::es) X.env=(false,eval e X.env)::starEach es X.env) au3._auto_1) (hpl:autoParam ((backTo pos (starEach es X.env)).any (·.1)=false) au3._auto_1):PE X (.Call (.Name x p) (e::es) [] pos) (Ql sp [] E t):=by
 obtain⟨f,fd,Fn,hm,hk,hb⟩:=O.ex;intro pins s σ H Q I h;refine wpAny_Call_Name_kw (Y1 I hg hm ?_ hdb);refine jJj (h₀:=X.base) I.ok.mod.kin hk (thn (ha pos pins s σ H _ I h) fun us s1 ⟨vs,H1,I1,r,q⟩=>⟨I1.kIn,?_⟩) he hpl;exact Zv Fn hr hb .nil hx I1 r ⟨I1.tbl hT,q⟩
def UU (O:Own X.prog X.w X.K X.mg X.base x k ps (spT TP tps (spM X.K F n)))(hT:∃more,X.H₀ TP=some (.tbl (tps++more)))(hr:Room k X.A)(hg:Gl X x)(hx:xl (cxx X.prog X.w) X E)(ha:MA X E Γ (e::es) u c)(hl:autoParam ((e::es).length=n) au3._auto_1)(hdb:autoParam ((x==("__debug__":Str))=false) au1._auto_1)
  (he:autoParam (starEach (e::es) X.env=(false,eval e X.env)::starEach es X.env) au3._auto_1) (hpl:autoParam ((backTo pos (starEach es X.env)).any (·.1)=false) au3._auto_1):ME X E Γ (.Call (.Name x p) (e::es) [] pos) (eL F u) .fresh:=by
 obtain⟨hlen,ta,pa,q⟩:=ha;refine⟨_,KP O hT hr hg hx pa hdb he hpl,fun O' σ H τ Q ok h=>q O' σ H τ _ ok ?_⟩;unfold eL at h;cases hu:u τ with
 | ok ds =>
  rw[hu,jYa]at h;refine fun vs H1 L s1 r1 _=>?_;have hv:(vs++[]).length=n:=by rw[tY,r1.length,hlen τ ds hu];exact hl
  refine⟨hv,ds,L,by rw[tY];exact r1,?_⟩;have h1:=h.same s1;cases hF:F ds with
  | ok d=>rw[hF]at h1;exact h1
  | err n=>rw[hF]at h1;exact h1
  | bad=>rw[hF]at h1;exact h1
 | err n=>rw[hu]at h;exact h
 | bad=>rw[hu]at h;exact h
def yR (C:Addr)(m:Str)(F:List D->R D)(to:Tn->R D)(u:Tn->R (List D)):Tn->R D:=fun τ=>(to τ).bind fun o=>match o with
 | .obj C' ns ds=>if C'=C/\m∉ns then (u τ).bind fun as=>F (.obj C' ns ds::as) else .bad
 | _=>.bad
theorem Zd {m:Str}:∀ {fs:List (Str×V)},m∉fs.map (·.1)->fs.lookup m=none
 | [],_=>rfl
 | (n,v)::fs,h=>by
  have h1:m≠n:=fun z=>h (by simp[z]);have h2:m∉fs.map (·.1):=fun z=>h (by simp only[tG,sF];exact .inr z);rw[List.lookup,beq_false_of_ne h1];exact Zd h2
def Qp {pl:Sem Bool}(O:OwnM X.prog X.w X.K X.mg X.base C m k ps sp)(he:PE X o ta)(cl:Cls X.K C)(hr:Room k X.A)(hx:xl (cxx X.prog X.w) X E)(ha:PA X (e::es) t)
  (hst:autoParam (starEach (e::es) X.env=(false,eval e X.env)::starEach es X.env) au3._auto_1) (hpl:autoParam ((backTo pos (starEach es X.env)).any (·.1)=false) au3._auto_1)
  (ht:autoParam (eval (.Call (.Attribute o m apos) (e::es) [] pos) X.env=(do
   let ov <-eval o X.env
   standAt apos.atName
   let (f,first) <-holding [ov] (getMethod ov m pl)
   callWith pos f first (backTo pos (starEach (e::es) X.env)) (backToKw pos (keywordEach [] X.env)))) au3._auto_1):
  PE X (.Call (.Attribute o m apos) (e::es) [] pos) (Ww C m sp [] E ta t):=by
 obtain⟨f,fd,Fn,hm,hb⟩:=O.ex;exact Jn he cl hm Fn hr hb .nil hx ha hst hpl ht
def Qu {pl:Sem Bool}(O:OwnM X.prog X.w X.K X.mg X.base C m k ps (spT TP tps sp))(hT:∃more,X.H₀ TP=some (.tbl (tps++more)))(he:PE X o ta)(cl:Cls X.K C)(hr:Room k X.A)(hx:xl (cxx X.prog X.w) X E)(ha:PA X (e::es) t)
  (hst:autoParam (starEach (e::es) X.env=(false,eval e X.env)::starEach es X.env) au3._auto_1) (hpl:autoParam ((backTo pos (starEach es X.env)).any (·.1)=false) au3._auto_1)
  (ht:autoParam (eval (.Call (.Attribute o m apos) (e::es) [] pos) X.env=(do
   let ov <-eval o X.env
   standAt apos.atName
   let (f,first) <-holding [ov] (getMethod ov m pl)
   callWith pos f first (backTo pos (starEach (e::es) X.env)) (backToKw pos (keywordEach [] X.env)))) au3._auto_1):
  PE X (.Call (.Attribute o m apos) (e::es) [] pos) (Ww C m sp [] E ta t):=by
 obtain⟨f,fd,Fn,hm,hb⟩:=O.ex;intro pins s σ H Q I h;refine jJ8 (pl:=pl) (thn (he pins s σ H _ I h) fun u s1 ⟨x,H1,I1,rx,a,dx,fs,ex,ea,l,q⟩=>?_) ht;subst ex;obtain rfl:u=Value.ref a:=rx;refine jH I1 ea cl hm l ?_;refine jJj (first:=[.ref a]) (h₀:=X.base) I.ok.mod.kin hm.kp (thn (ha pos pins s1 σ H1 _ I1 q) fun us s2 ⟨vs,H2,I2,r,q2⟩=>⟨I2.kIn,?_⟩) hst hpl;exact Zv (us:=.ref a::us) (vs:=.ref a::vs) Fn hr hb .nil hx I2 (.cons rfl r) ⟨I2.tbl hT,q2⟩
def V6 {pe:Expr}(hp:PE X pe (Ww C m (spM X.K F n) [] E ta t))(hn:(e::es).length+1=n)(ha:MA X E Γ (e::es) u c)(he:∀O σ H τ Q,EOk X.K Γ O H σ τ->post X.K E O co H Q (to τ)->ta σ H Q)(hta:∀O σ H τ Q,EOk X.K Γ O H σ τ->qY X.K E O c H Q (u τ)->t σ H Q):ME X E Γ pe (yR C m F to u) .fresh:=by
 refine⟨_,hp,fun O σ H τ Q ok h=>he O σ H τ _ ok (post.bind h fun d _ h v H1 L s1 r1 _=>?_)⟩;cases d with
 | obj C' ns ds =>
  have h2:post X.K E O .fresh H Q (if C'=C/\m∉ns then (u τ).bind fun as=>F (.obj C' ns ds::as) else .bad):=h;clear h
  by_cases hC:C'=C/\m∉ns
  ·rw[if_pos hC]at h2;obtain⟨rfl,hm⟩:=hC;obtain⟨a,dx,fs,rfl,ha',hns,rs⟩:=r1;subst hns;refine⟨a,dx,fs,rfl,ha',Zd hm,hta O σ H1 τ _ (ok.same s1) ?_⟩;cases hu:u τ with
   | ok as =>
    rw[hu,jYa]at h2;refine fun vs H2 L2 s2 r2 _=>?_;have e2:(V.ref a::(vs++[])).length=n:=by rw[tY,tF,r2.length,ha.1 τ as hu];exact hn
    have rr:Reps X.K H2 (.obj C' (fs.map (·.1)) ds::as) (V.ref a::(vs++[])) (L++L2):=by
     rw[tY];exact Reps.cons ⟨a,dx,fs,rfl,s2 _ _ ha',rfl,rs.same s2⟩ r2
    refine⟨e2,_,_,rr,?_⟩;have h1:=h2.same (s1.trans s2);cases hF:F (.obj C' (fs.map (·.1)) ds::as)with
    | ok d=>rw[hF]at h1;exact h1
    | err n=>rw[hF]at h1;exact h1
    | bad=>rw[hF]at h1;exact h1
   | err n=>rw[hu]at h2;exact fun C2 H' e s'=>h2 C2 H' e (s1.trans s')
   | bad=>rw[hu]at h2;exact h2
  ·rw[if_neg hC]at h2;exact h2.elim
 | _=>exact h.elim
def qj {pl:Sem Bool}(O:OwnM X.prog X.w X.K X.mg X.base C m k ps (spM X.K F n))(cl:Cls X.K C)(hr:Room k X.A)(hx:xl (cxx X.prog X.w) X E)(he:ME X E Γ o to co)(ha:MA X E Γ (e::es) u c)(hl:autoParam ((e::es).length+1=n) au3._auto_1)
  (hst:autoParam (starEach (e::es) X.env=(false,eval e X.env)::starEach es X.env) au3._auto_1) (hpl:autoParam ((backTo pos (starEach es X.env)).any (·.1)=false) au3._auto_1)
  (ht:autoParam (eval (.Call (.Attribute o m apos) (e::es) [] pos) X.env=(do
   let ov <-eval o X.env
   standAt apos.atName
   let (f,first) <-holding [ov] (getMethod ov m pl)
   callWith pos f first (backTo pos (starEach (e::es) X.env)) (backToKw pos (keywordEach [] X.env)))) au3._auto_1):ME X E Γ (.Call (.Attribute o m apos) (e::es) [] pos) (yR C m F to u) .fresh:=by
 obtain⟨ta,p1,q1⟩:=he;have ha':=ha;obtain⟨_,t,p2,q2⟩:=ha';exact V6 (Qp O p1 cl hr hx p2 hst hpl ht) hl ha q1 q2
def Qr {pl:Sem Bool}(O:OwnM X.prog X.w X.K X.mg X.base C m k ps (spT TP tps (spM X.K F n)))(hT:∃more,X.H₀ TP=some (.tbl (tps++more)))(cl:Cls X.K C)(hr:Room k X.A)(hx:xl (cxx X.prog X.w) X E)(he:ME X E Γ o to co)(ha:MA X E Γ (e::es) u c)(hl:autoParam ((e::es).length+1=n) au3._auto_1)
  (hst:autoParam (starEach (e::es) X.env=(false,eval e X.env)::starEach es X.env) au3._auto_1) (hpl:autoParam ((backTo pos (starEach es X.env)).any (·.1)=false) au3._auto_1)
  (ht:autoParam (eval (.Call (.Attribute o m apos) (e::es) [] pos) X.env=(do
   let ov <-eval o X.env
   standAt apos.atName
   let (f,first) <-holding [ov] (getMethod ov m pl)
   callWith pos f first (backTo pos (starEach (e::es) X.env)) (backToKw pos (keywordEach [] X.env)))) au3._auto_1):ME X E Γ (.Call (.Attribute o m apos) (e::es) [] pos) (yR C m F to u) .fresh:=by
 obtain⟨ta,p1,q1⟩:=he;have ha':=ha;obtain⟨_,t,p2,q2⟩:=ha';exact V6 (Qu O hT p1 cl hr hx p2 hst hpl ht) hl ha q1 q2
end
def xP:List Str:=["strips","rules","feet","marks","found"]
def z0:D:=.lst [.int 0]
def filO (C:Addr)(S Ru fe ma:D)(fo:List D):D:=.obj C xP [S,Ru,fe,ma,.lst fo]
def qU (C:Addr)(tB tRow:Tn->R D)(S Hh Ru fe ma:D):Nat->List D->R (List D)
 | 0,dn=>.ok dn
 | k+1,dn=>(tB [some (filO C S Ru fe ma (List.replicate (k+1) z0++dn)),some S,some Hh,some Ru,some (.int k),none]).bind fun bo =>
   (tRow [some (filO C S Ru fe ma (List.replicate (k+1) z0++dn)),some S,some Hh,some Ru,some (.int k),some bo]).bind fun row=>qU C tB tRow S Hh Ru fe ma k (row::dn)
def uW:D->Option (List Int)
 | .lst es=>yz es
 | _=>none
def VQ (C:Addr)(tFe tMa tLen:Tn->R D)(u:Tn->R (List D))(tB tRow:Tn->R D):List D->R (List D)
 | [S,Hh,Ru]=>(tFe [none,some S,some Hh,some Ru,none,none]).bind fun fe=>(tMa [none,some S,some Hh,some Ru,none,none]).bind fun ma =>
   match uW fe,uW ma,tLen [none,some S,some Hh,some Ru,none,none],u [none,some S,some Hh,some Ru,none,none]with
   | some _,some _,.ok (.int k),.ok [.int i,.int j,.int m]=>if 1<=k/\k<1000000/\i=k-2/\j=-1/\m=-1 then (qU C tB tRow S Hh Ru fe ma (k-1).toNat [z0]).bind fun fo=>.ok [fe,ma,.lst fo] else .bad
   | _,_,_,_=>.bad
 | _=>.bad
def spI (K:jJa)(C:Addr)(Fi:List D->R (List D)):Sp:=fun vs H Q E=>∃x dx v0 v1 v2 ds L fe ma fo Hb,vs=[.ref x,v0,v1,v2]/\H x=some (.ins C dx [])/\Hb x=none/\Same Hb H/\Reps K Hb ds [v0,v1,v2] L/\Fi ds=.ok [fe,ma,fo] /\
 ∀H' v3 v4 v5 L',Same Hb H'->H' x=some (.ins C dx [("strips",v0),("rules",v2),("feet",v3),("marks",v4),("found",v5)])->Reps K H' [fe,ma,fo] [v3,v4,v5] L'->L'.Nodup->(∀a∈L',Hb a=none)->Q .non H'
theorem Vh {α:Type}(a b:α)(l:List α):∀k:Nat,(List.replicate (k+1) a++l).set k b=List.replicate k a++b::l
 | 0=>rfl
 | k+1=>by
  show (a::(List.replicate (k+1) a++l)).set (k+1) b=a::(List.replicate k a++b::l);rw[tI,Vh a b l k]
theorem Reps.many {K:jJa}{H:Hp}{d:D}{v:V}{L:List Addr}(r:Rep K H d v L){ds:List D}{vs:List V}{M:List Addr}(q:Reps K H ds vs M):∀k:Nat,∃M',Reps K H (List.replicate k d++ds) (List.replicate k v++vs) M'/\∀a∈M',a∈L\/a∈M
 | 0=>⟨M,q,fun a h=>.inr h⟩
 | k+1=>by
  obtain⟨M',a,b⟩:=Reps.many r q k;exact⟨L++M',Reps.cons r a,fun a h=>(sG.mp h).elim .inl (b a)⟩
section
variable {K:jJa}{C x dx af z:Addr}{v0 v1 v2 vF vM:V}{S Hh Ru fe ma:D}{L M:List Addr}{H0:Hp}
structure LoopI (K:jJa)(C x dx af z:Addr)(v0 v1 v2 vF vM:V)(S Hh Ru fe ma:D)(L M:List Addr)(H0:Hp)(k:Nat)(dn:List D)(σ:St)(H:Hp):Prop where
 kp:Same H0 H
 hx:H x=some (.ins C dx [("strips",v0),("rules",v2),("feet",vF),("marks",vM),("found",.ref af)])
 ra:Reps K H [S,Hh,Ru] [v0,v1,v2] L
 rf:Reps K H [fe,ma] [vF,vM] M
 ex:∃dv Ld,H af=some (.lst (List.replicate k (.ref z)++dv))/\Reps K H dn dv Ld/\(M++Ld).Nodup/\af∉M++Ld/\∀a∈Ld,H0 a=none
 hz:H z=some (.lst [.int 0])
 ls:σ.length=6
 s0:σ[0]?=some (some (.ref x))
 s1:σ[1]?=some (some v0)
 s2:σ[2]?=some (some v1)
 s3:σ[3]?=some (some v2)
theorem LoopI.obj {k:Nat}{dn:List D}{σ:St}{H:Hp}(h:LoopI K C x dx af z v0 v1 v2 vF vM S Hh Ru fe ma L M H0 k dn σ H):∃L',Rep K H (filO C S Ru fe ma (List.replicate k z0++dn)) (.ref x) L':=by
 obtain⟨dv,Ld,h1,h2,_⟩:=h.ex;obtain⟨v,vs,L1,L2,e1,_,r0,w,ws,L3,L4,e2,_,r1,y,ys,L5,L6,e3,_,r2,_⟩:=h.ra;obtain⟨f,fs,M1,M2,e4,_,rf1,g,gs,M3,M4,e5,_,rf2,_⟩:=h.rf;injection e1 with e1 e1';injection e2.symm.trans e1'.symm with a1 a2;subst e1;injection a2.symm.trans e3 with a3 a4;subst a3;injection e4 with b1 b2;subst b1;injection b2.trans e5 with b3 b4;subst b3;obtain⟨M',q1,_⟩:=Reps.many (d:=z0) (v:=.ref z) (L:=[z]) (show Rep K H z0 (.ref z) [z] from⟨z,[.int 0],[],rfl,h.hz,rfl,Reps.cons (L1:=[]) ⟨rfl,rfl⟩ Reps.nil⟩) h2 k;exact⟨_,x,dx,_,rfl,h.hx,rfl,Reps.cons r0 (Reps.cons r2 (Reps.cons rf1 (Reps.cons rf2 (Reps.cons ⟨af,_,M',rfl,h1,rfl,q1⟩ Reps.nil))))⟩
theorem LoopI.same {k:Nat}{dn:List D}{σ σ':St}{H H':Hp}(h:LoopI K C x dx af z v0 v1 v2 vF vM S Hh Ru fe ma L M H0 k dn σ H)(s:Same H H')(hl:σ'.length=6)(hs:∀i,i<4->σ'[i]?=σ[i]?):LoopI K C x dx af z v0 v1 v2 vF vM S Hh Ru fe ma L M H0 k dn σ' H':=by
 obtain⟨dv,Ld,h1,h2,h3,h4,h5⟩:=h.ex;exact⟨h.kp.trans s,s _ _ h.hx,h.ra.same s,h.rf.same s,⟨dv,Ld,s _ _ h1,h2.same s,h3,h4,h5⟩,s _ _ h.hz,hl,by rw[hs 0 (by omega)];exact h.s0,by rw[hs 1 (by omega)];exact h.s1,by rw[hs 2 (by omega)];exact h.s2,by rw[hs 3 (by omega)];exact h.s3⟩
theorem LoopI.put {k:Nat}{dn:List D}{σ:St}{H H1:Hp}{row:D}{y:V}{Lr:List Addr}(h:LoopI K C x dx af z v0 v1 v2 vF vM S Hh Ru fe ma L M H0 (k+1) dn σ H)(s:Same H H1)(r:Rep K H1 row y Lr)(nd:Lr.Nodup)(nw:∀a∈Lr,H a=none)
  (nL:af∉L) (naf:H0 af=none) (nzf:z≠af) (nx:x≠af):
  ∃vs,H1 af=some (.lst vs)/\vs.length=k+1+dn.length/\LoopI K C x dx af z v0 v1 v2 vF vM S Hh Ru fe ma L M H0 k (row::dn) σ (upd H1 af (.lst (vs.set k y))):=by
 have h':=h.same s h.ls (fun _ _=>rfl);obtain⟨dv,Ld,g1,g2,h3,h4,h5⟩:=h.ex;have h1:=s _ _ g1;have h2:=g2.same s;have mu:(∃vs,H1 af=some (.lst vs))\/∃kvs,H1 af=some (.dK kvs):=.inl ⟨_,h1⟩;have n1:af∉M:=fun w=>h4 (sC _ w);have n2:af∉Ld:=fun w=>h4 (tR _ w);have hafH:H af≠none:=by rw[g1];simp
 have n3:af∉Lr:=fun w=>hafH (nw af w);refine⟨_,h1,by rw[tT,rD,h2.length],?_⟩;rw[Vh];have dj:∀a∈Lr,a∉M++Ld:=fun a ha hm=>by
  rcases sG.mp hm with w|w
  ·exact h.rf.there w (nw a ha)
  ·exact g2.there w (nw a ha)
 refine⟨fun b o e=>?_,?_,h'.ra.upd mu nL,h'.rf.upd mu n1,⟨y::dv,Lr++Ld,zu,Reps.cons (r.upd mu n3) (h2.upd mu n2),?_,?_,?_⟩,?_,h.ls,h.s0,h.s1,h.s2,h.s3⟩
 ·rw[zy (fun w=>by rw[w,naf]at e;cases e)];exact h'.kp b o e
 ·rw[zy nx];exact h'.hx
 ·obtain⟨m1,m2,m3⟩:=sI.mp h3;refine sI.mpr ⟨m1,sI.mpr ⟨nd,m2,fun a ha b hb w=>?_⟩,fun a ha b hb w=>?_⟩
  ·subst w;exact dj a ha (tR _ hb)
  ·subst w;rcases sG.mp hb with w|w
   ·exact dj a w (sC _ ha)
   ·exact m3 a ha a w rfl
 ·intro w;rcases sG.mp w with w|w
  ·exact n1 w
  ·rcases sG.mp w with w|w
   ·exact n3 w
   ·exact n2 w
 ·intro a ha;rcases sG.mp ha with w|w
  ·exact h.kp.non (nw a w)
  ·exact h5 a w
 ·rw[zy nzf];exact h'.hz
end
theorem X3 {α:Type}(a:α):∀k:Nat,(List.replicate k [a]).flatten=List.replicate k a
 | 0=>rfl
 | k+1=>by rw[tO,rY,X3 a k];rfl
def wa {f g:Str}{v x:V}{r:List (Str×V)}(h:g≠f):wZ f v ((g,x)::r)=(g,x)::wZ f v r:=if_neg h
def z3P {v0 v2:V}:wZ "rules" v2 ([("strips",v0)]:List (Str×V))=([("strips",v0),("rules",v2)]:List (Str×V)):=by rw[wa (by decide)];rfl
def z3V {v0 v2 v3:V}:wZ "feet" v3 ([("strips",v0),("rules",v2)]:List (Str×V))=([("strips",v0),("rules",v2),("feet",v3)]:List (Str×V)):=by rw[wa (by decide),wa (by decide)];rfl
def z3L {v0 v2 v3 v4:V}:wZ "marks" v4 ([("strips",v0),("rules",v2),("feet",v3)]:List (Str×V))=([("strips",v0),("rules",v2),("feet",v3),("marks",v4)]:List (Str×V)):=by rw[wa (by decide),wa (by decide),wa (by decide)];rfl
def z3z {v0 v2 v3 v4 v5:V}:wZ "found" v5 ([("strips",v0),("rules",v2),("feet",v3),("marks",v4)]:List (Str×V))=([("strips",v0),("rules",v2),("feet",v3),("marks",v4),("found",v5)]:List (Str×V)):=by rw[wa (by decide),wa (by decide),wa (by decide),wa (by decide)];rfl
def z0q {v0 v2 v3 v4 v5:V}:([("strips",v0),("rules",v2),("feet",v3),("marks",v4),("found",v5)]:List (Str×V)).lookup ("found":Str)=some v5:=by
 have h1:(("found":Str)=="strips")=false:=by decide
 have h2:(("found":Str)=="rules")=false:=by decide
 have h3:(("found":Str)=="feet")=false:=by decide
 have h4:(("found":Str)=="marks")=false:=by decide
 simp only[List.lookup,h1,h2,h3,h4,beq_self_eq_true]
def z2I {K:jJa}{H:Hp}{d:D}{v:V}{L:List Addr}{xs:List Int}(h:uW d=some xs)(r:Rep K H d v L):∃a,v=.ref a/\H a=some (.lst (xs.map V.int))/\L=[a]:=by
 cases d with
 | lst es =>
  obtain⟨a,vs,L',e,ha,e2,rs⟩:=r;have h:yz es=some xs:=h;have hv:=xT rs h;subst hv;have:L'=[]:=by
   have q:es=xs.map D.int:=keysK_at.intsOf_inv h;rw[q]at rs;exact Reps.imm _ _ _ rs (qH xs)
  subst this;exact⟨a,e,ha,e2⟩
 | _=>cases h
def z2X {K:jJa}{H:Hp}{d:D}{a:Addr}{xs:List Int}(h:uW d=some xs)(ha:H a=some (.lst (xs.map V.int))):Rep K H d (.ref a) [a]:=by
 cases d with
 | lst es =>
  have q:es=xs.map D.int:=keysK_at.intsOf_inv h;exact⟨a,_,[],rfl,ha,rfl,by rw[q];exact ua xs⟩
 | _=>cases h
section
variable {X:Cx}{E:XK}{C:Addr}{tFe tMa tLen tB tRow:Tn->R D}{u:Tn->R (List D)}{ta:TA}{b1 b2 b3 b4 b5 b6:Stmt}
def Γi1:List Cl:=[.dead,.shr,.shr,.shr,.dead,.dead]
def Γi2:List Cl:=[.shr,.shr,.shr,.shr,.shr,.dead]
def Γi3:List Cl:=[.shr,.shr,.shr,.shr,.shr,.shr]
def Uc {K:jJa}{H:Hp}{σ:St}{S Hh Ru:D}{v0 v1 v2:V}{L:List Addr}(ra:Reps K H [S,Hh,Ru] [v0,v1,v2] L)(s1:σ[1]?=some (some v0))(s2:σ[2]?=some (some v1))(s3:σ[3]?=some (some v2)):EOk K Γi1 (fun _=>False) H σ [none,some S,some Hh,some Ru,none,none]:=by
 obtain⟨v,vs,L1,L2,e1,_,r0,w,ws,L3,L4,e2,_,r1,y,ys,L5,L6,e3,_,r2,_⟩:=ra;injection e1 with e1 e1';injection e2.symm.trans e1'.symm with a1 a2;subst e1;injection a2.symm.trans e3 with a3 a4;subst a3 a1;refine⟨fun a z=>z.elim,fun i c e hc=>?_⟩
 match i,e with
 | 0,e=>exact absurd (jYe e).symm hc
 | 1,e=>exact⟨_,_,_,s1,rfl,r0,fun _ a _ z=>z⟩
 | 2,e=>exact⟨_,_,_,s2,rfl,r1,fun _ a _ z=>z⟩
 | 3,e=>exact⟨_,_,_,s3,rfl,r2,fun _ a _ z=>z⟩
 | 4,e=>exact absurd (jYe e).symm hc
 | 5,e=>exact absurd (jYe e).symm hc
 | n+6,e=>cases e
def z3I {K:jJa}{H:Hp}{σ:St}{O S Hh Ru B:D}{x v0 v1 v2 b:V}{L Lo Lb:List Addr}(ro:Rep K H O x Lo)(rb:Rep K H B b Lb)(ra:Reps K H [S,Hh,Ru] [v0,v1,v2] L)(s0:σ[0]?=some (some x))(s1:σ[1]?=some (some v0))(s2:σ[2]?=some (some v1))(s3:σ[3]?=some (some v2))(s4:σ[4]?=some (some b)):EOk K Γi2 (fun _=>False) H σ [some O,some S,some Hh,some Ru,some B,none]:=by
 have h:=Uc ra s1 s2 s3;refine⟨fun a z=>z.elim,fun i c e hc=>?_⟩
 match i,e with
 | 0,e=>exact⟨_,_,_,s0,rfl,ro,fun _ a _ z=>z⟩
 | 1,e=>exact h.slot 1 c e hc
 | 2,e=>exact h.slot 2 c e hc
 | 3,e=>exact h.slot 3 c e hc
 | 4,e=>exact⟨_,_,_,s4,rfl,rb,fun _ a _ z=>z⟩
 | 5,e=>exact absurd (jYe e).symm hc
 | n+6,e=>cases e
def z49 {K:jJa}{H:Hp}{σ:St}{O S Hh Ru B Bo:D}{x v0 v1 v2 b bo:V}{L Lo Lb Lc:List Addr}(ro:Rep K H O x Lo)(rb:Rep K H B b Lb)(rc:Rep K H Bo bo Lc)(ra:Reps K H [S,Hh,Ru] [v0,v1,v2] L)(s0:σ[0]?=some (some x))(s1:σ[1]?=some (some v0))(s2:σ[2]?=some (some v1))(s3:σ[3]?=some (some v2))(s4:σ[4]?=some (some b))(s5:σ[5]?=some (some bo)):EOk K Γi3 (fun _=>False) H σ [some O,some S,some Hh,some Ru,some B,some Bo]:=by
 have h:=Uc ra s1 s2 s3;refine⟨fun a z=>z.elim,fun i c e hc=>?_⟩
 match i,e with
 | 0,e=>exact⟨_,_,_,s0,rfl,ro,fun _ a _ z=>z⟩
 | 1,e=>exact h.slot 1 c e hc
 | 2,e=>exact h.slot 2 c e hc
 | 3,e=>exact h.slot 3 c e hc
 | 4,e=>exact⟨_,_,_,s4,rfl,rb,fun _ a _ z=>z⟩
 | 5,e=>exact⟨_,_,_,s5,rfl,rc,fun _ a _ z=>z⟩
 | n+6,e=>cases e
def JG (cl:Cls X.K C)(hn:∀f∈xP,NoAttr X.K C f)(hta:∀O σ H τ Q,EOk X.K Γi1 O H σ τ->qY X.K E O .fresh H Q (u τ)->ta σ H Q)
  {ds:List D} {x dx:Addr} {v0 v1 v2:V} {L:List Addr} {Hb H:Hp} {fe ma fo:D} {σ:St} {Z:Ends} (hx:H x=some (.ins C dx [])) (nx:Hb x=none) (sb:Same Hb H) (ra:Reps X.K Hb ds [v0,v1,v2] L) (hF:VQ C tFe tMa tLen u tB tRow ds=.ok [fe,ma,fo])
  (ls:σ.length=6) (s0:σ[0]?=some (some (.ref x))) (s1:σ[1]?=some (some v0)) (s2:σ[2]?=some (some v1)) (s3:σ[3]?=some (some v2))
  (hQ:∀σ' H' v3 v4 v5 L',Same Hb H'->H' x=some (.ins C dx [("strips",v0),("rules",v2),("feet",v3),("marks",v4),("found",v5)])->Reps X.K H' [fe,ma,fo] [v3,v4,v5] L'->L'.Nodup->(∀a∈L',Hb a=none)->Z.nx σ' H'):
  v7 (uu X.K (xE 0) (xE 1) "strips") (v7 (uu X.K (xE 0) (xE 3) "rules") (v7 (uu X.K (xE 0) (wpE X.K E Γi1 tFe .fresh) "feet") (v7 (uu X.K (xE 0) (wpE X.K E Γi1 tMa .fresh) "marks")
   (v7 (uu X.K (xE 0) (tOp VO (Yv (qw (Yv (qw (tC (.int 0)) ZF)) ZF)) (wpE X.K E Γi1 tLen .fresh)) "found")
    (QT (V7 ta) (vo 4) (v7 (kP (wpE X.K E Γi2 tB .fresh) (vo 5)) (kP (wpE X.K E Γi3 tRow .fresh) (US (QL X.K (xE 0) "found") (xE 4) YO)))))))) Z σ H:=by
 obtain⟨S,Hh,Ru,rfl⟩:∃S Hh Ru,ds=[S,Hh,Ru]:=by
  match ds,ra.length with
  | [a,b,c],_=>exact⟨a,b,c,rfl⟩
 unfold VQ at hF;dsimp only at hF;cases hfe:tFe [none,some S,some Hh,some Ru,none,none]with
 | err n=>rw[hfe]at hF;cases hF
 | bad=>rw[hfe]at hF;cases hF
 | ok fe' =>
 rw[hfe,jYa]at hF;cases hma:tMa [none,some S,some Hh,some Ru,none,none]with
 | err n=>rw[hma]at hF;cases hF
 | bad=>rw[hma]at hF;cases hF
 | ok ma' =>
 rw[hma,jYa]at hF;split at hF
 rotate_left
 ·cases hF
 rename_i xsF xsM k i j m hiF hiM hlen hu;split at hF
 rotate_left
 ·cases hF
 rename_i hk;obtain⟨hk1,hk2,rfl,rfl,rfl⟩:=hk;obtain⟨n,rfl⟩:∃n:Nat,k=(n:Int)+1:=⟨(k-1).toNat,by omega⟩
 have hkn:((n:Int)+1-1).toNat=n:=by omega
 rw[hkn]at hF;cases hgo:qU C tB tRow S Hh Ru fe' ma' n [z0]with
 | err n=>rw[hgo]at hF;cases hF
 | bad=>rw[hgo]at hF;cases hF
 | ok fin =>
 rw[hgo,jYa]at hF;injection hF with hF;injection hF with e1 hF;injection hF with e2 hF;injection hF with e3 _;subst e1 e2 e3;refine⟨v0,s1,.ref x,s0,x,C,dx,[],rfl,hx,cl,hn _ (by simp[xP]),by decide,?_⟩;show v7 _ _ Z σ (upd H x (.ins C dx [("strips",v0)]));refine⟨v2,s3,.ref x,s0,x,C,dx,_,rfl,zu,cl,hn _ (by simp[xP]),by simp,?_⟩;rw[JT,z3P];have sb2:∀(H:Hp) (o:HO),Same Hb H->Same Hb (upd H x o):=fun H o q b o' e=>by rw[zy (zR e nx)];exact q b o' e
 have S2:=sb2 _ (.ins C dx [("strips",v0),("rules",v2)]) sb;refine⟨_,_,Uc (ra.same S2) s1 s2 s3,?_⟩;rw[hfe];intro vF H3 LF sm3 rF kF;refine⟨.ref x,s0,x,C,dx,_,rfl,sm3 _ _ zu,cl,hn _ (by simp[xP]),by simp,?_⟩;rw[z3V];obtain⟨aF,rfl,hF3,rfl⟩:=z2I hiF rF;have nF:=kF.2 aF (by simp);have xF:aF≠x:=fun z=>by rw[z,zu]at nF;cases nF
 have bF:Hb aF=none:=S2.non nF;have S3:=sb2 _ (.ins C dx [("strips",v0),("rules",v2),("feet",.ref aF)]) (S2.trans sm3);have hF3':upd H3 x (.ins C dx [("strips",v0),("rules",v2),("feet",.ref aF)]) aF=some (.lst (xsF.map V.int)):=by rw[zy xF];exact hF3
 refine⟨_,_,Uc (ra.same S3) s1 s2 s3,?_⟩;rw[hma];intro vM H4 LM sm4 rM kM;refine⟨.ref x,s0,x,C,dx,_,rfl,sm4 _ _ zu,cl,hn _ (by simp[xP]),by simp,?_⟩;rw[z3L];obtain⟨aM,rfl,hM4,rfl⟩:=z2I hiM rM;have nM:=kM.2 aM (by simp);have xM:aM≠x:=fun z=>by rw[z,zu]at nM;cases nM
 have bM:Hb aM=none:=S3.non nM;have nFM:aF≠aM:=fun z=>by rw[<-z,hF3']at nM;cases nM
 have S4:=sb2 _ (.ins C dx [("strips",v0),("rules",v2),("feet",.ref aF),("marks",.ref aM)]) (S3.trans sm4);generalize hH4:upd H4 x (.ins C dx [("strips",v0),("rules",v2),("feet",.ref aF),("marks",.ref aM)])=H4' at S4 ⊢;have x4:H4' x=some (.ins C dx [("strips",v0),("rules",v2),("feet",.ref aF),("marks",.ref aM)]):=by rw[<-hH4];exact zu
 have hF4:H4' aF=some (.lst (xsF.map V.int)):=by rw[<-hH4,zy xF];exact sm4 _ _ hF3'
 have hM4':H4' aM=some (.lst (xsM.map V.int)):=by rw[<-hH4,zy xM];exact hM4
 have hs:sizeLine=16777216:=sizeLine_eq;refine⟨by rw[hs];decide,fun z hz=>⟨by rw[hs];exact (by decide:1<=16777216),fun p2 hp2=>?_⟩⟩;have z2:z≠p2:=fun w=>by rw[<-w,zu]at hp2;cases hp2
 have s5:Same H4' (upd (upd H4' z (.lst [.int 0])) p2 (.lst [.ref z])):=(Same.new hz).trans (Same.new hp2);refine⟨_,_,Uc (ra.same (S4.trans s5)) s1 s2 s3,?_⟩;rw[hlen];intro kv H6 Lk sm6 rk _;refine⟨p2,(n:Int)+1,[.ref z],rfl,rk.1,sm6 _ _ zu,by omega,by omega,?_,fun af haf=>?_⟩
 ·rw[hs];simp;omega
 have hz6:H6 z=some (.lst [.int 0]):=sm6 _ _ (by rw[zy z2,zu]);have zaf:z≠af:=fun w=>by rw[w,haf]at hz6;cases hz6
 have x6:H6 x=some (.ins C dx [("strips",v0),("rules",v2),("feet",.ref aF),("marks",.ref aM)]):=sm6 _ _ (s5 _ _ x4);have xaf:x≠af:=fun w=>by rw[w,haf]at x6;cases x6
 refine⟨.ref x,s0,x,C,dx,_,rfl,by rw[zy xaf];exact x6,cl,hn _ (by simp[xP]),by simp,?_⟩;rw[z3z,X3,show ((n:Int)+1).toNat=n+1 by omega];have S6:Same Hb H6:=(S4.trans s5).trans sm6;have baf:Hb af=none:=S6.non haf;have bz:Hb z=none:=S4.non hz;have zx:z≠x:=fun w=>by rw[w,x4]at hz;cases hz
 have zF:z≠aF:=fun w=>by rw[w,hF4]at hz;cases hz
 have zM:z≠aM:=fun w=>by rw[w,hM4']at hz;cases hz
 have hF6:H6 aF=some (.lst (xsF.map V.int)):=sm6 _ _ (s5 _ _ hF4);have hM6:H6 aM=some (.lst (xsM.map V.int)):=sm6 _ _ (s5 _ _ hM4');have fF:aF≠af:=fun w=>by rw[w,haf]at hF6;cases hF6
 have fM:aM≠af:=fun w=>by rw[w,haf]at hM6;cases hM6
 generalize hH7:upd (upd H6 af (.lst (List.replicate (n+1) (.ref z)))) x (.ins C dx [("strips",v0),("rules",v2),("feet",.ref aF),("marks",.ref aM),("found",.ref af)])=H7;have S7:Same Hb H7:=by rw[<-hH7];exact sb2 _ _ (S6.trans (Same.new haf))
 have L0:LoopI X.K C x dx af z v0 v1 v2 (.ref aF) (.ref aM) S Hh Ru fe' ma' L [aF,aM] Hb n [z0] σ H7:=by
  have a1:H7 aF=some (.lst (xsF.map V.int)):=by rw[<-hH7,zy xF,zy fF];exact hF6
  have a2:H7 aM=some (.lst (xsM.map V.int)):=by rw[<-hH7,zy xM,zy fM];exact hM6
  have a3:H7 z=some (.lst [.int 0]):=by rw[<-hH7,zy zx,zy zaf];exact hz6
  refine⟨S7,by rw[<-hH7];exact zu,ra.same S7,Reps.cons (L1:=[aF]) (z2X hiF a1) (Reps.cons (L1:=[aM]) (z2X hiM a2) Reps.nil),⟨[.ref z],[z],?_,Reps.cons (L1:=[z]) ⟨z,_,[],rfl,a3,rfl,Reps.cons (L1:=[]) ⟨rfl,rfl⟩ Reps.nil⟩ Reps.nil,?_,?_,fun a ha=>by rw[sX.mp ha];exact bz⟩,a3,ls,s0,s1,s2,s3⟩
  ·rw[<-hH7,zy (Ne.symm xaf),zu,List.replicate_succ']
  ·simp[nFM,Ne.symm zF,Ne.symm zM]
  ·simp[Ne.symm fF,Ne.symm fM,Ne.symm zaf]
 have nL:af∉L:=fun m=>ra.there m baf;clear hH7;refine hta _ _ _ _ _ (Uc L0.ra s1 s2 s3) ?_;rw[hu];intro vs H8 L8 sm8 r8 _;obtain⟨w1,ws1,M1,M2,e1,_,⟨rfl,_⟩,w2,ws2,M3,M4,e2,_,⟨rfl,_⟩,w3,ws3,M5,M6,e3,_,⟨rfl,_⟩,⟨rfl,_⟩⟩:=r8;subst e3 e2;refine⟨_,_,e1,by omega,?_⟩;have hnn:((n:Int)+1-2-(-1)).toNat=n:=by omega
 rw[hnn];refine⟨fun i m σ2 H2=>m=n-i/\i<=n/\∃dn,LoopI X.K C x dx af z v0 v1 v2 (.ref aF) (.ref aM) S Hh Ru fe' ma' L [aF,aM] Hb (n-i) dn σ2 H2/\qU C tB tRow S Hh Ru fe' ma' (n-i) dn=.ok fin,⟨n,rfl,rG _,[z0],L0.same sm8 ls (fun _ _=>rfl),hgo⟩,?_⟩;rintro i m σ2 H2 ⟨rfl,hin,dn,W,hg⟩;rcases Nat.lt_or_ge i n with hi|hi
 ·refine .inr ⟨hi,fun σ' H'=>∃dn,LoopI X.K C x dx af z v0 v1 v2 (.ref aF) (.ref aM) S Hh Ru fe' ma' L [aF,aM] Hb (n-(i+1)) dn σ' H'/\qU C tB tRow S Hh Ru fe' ma' (n-(i+1)) dn=.ok fin,fun σ' H' ⟨dn',q1,q2⟩=>⟨n-(i+1),by omega,rfl,by omega,dn',q1,q2⟩,?_⟩;intro xv H' hy;obtain⟨e8,e9⟩:=hy;subst e9;rw[e8];clear e8;obtain⟨k,hk⟩:∃k,n-i=k+1:=⟨n-i-1,by omega⟩
  have hk':n-(i+1)=k:=by omega
  rw[hk'] 
  rw[hk]at W hg;have hkv:(n:Int)+1-2-(i:Int)=(k:Int):=by omega
  rw[hkv];show v7 _ _ _ (σ2.set 4 (some (.int k))) H2;obtain⟨Lo,ro⟩:=W.obj;have l2:=W.ls;have q0:(σ2.set 4 (some (V.int k)))[0]?=some (some (.ref x)):=by rw[sE (by omega)];exact W.s0
  have q1:(σ2.set 4 (some (V.int k)))[1]?=some (some v0):=by rw[sE (by omega)];exact W.s1
  have q2:(σ2.set 4 (some (V.int k)))[2]?=some (some v1):=by rw[sE (by omega)];exact W.s2
  have q3:(σ2.set 4 (some (V.int k)))[3]?=some (some v2):=by rw[sE (by omega)];exact W.s3
  have q4:(σ2.set 4 (some (V.int k)))[4]?=some (some (.int k)):=by rw[sO (by rw[l2];omega)]
  generalize hσ:σ2.set 4 (some (V.int k))=σ3 at *;have l3:σ3.length=6:=by rw[<-hσ,sS];exact l2
  refine⟨_,_,z3I (B:=.int k) (b:=.int k) (Lb:=[]) ro ⟨rfl,rfl⟩ W.ra q0 q1 q2 q3 q4,?_⟩;unfold qU at hg;cases htb:tB [some (filO C S Ru fe' ma' (List.replicate (k+1) z0++dn)),some S,some Hh,some Ru,some (.int k),none]with
  | err n=>rw[htb]at hg;cases hg
  | bad=>rw[htb]at hg;cases hg
  | ok bo =>
  rw[htb,jYa]at hg;intro vb H9 L9 sm9 r9 _;show kP (wpE X.K E Γi3 tRow .fresh) (US (QL X.K (xE 0) "found") (xE 4) YO) _ (σ3.set 5 (some vb)) H9;have W9:=W.same (σ':=σ3.set 5 (some vb)) sm9 (by rw[sS];exact l3) (fun j hj=>by rw[sE (by omega),<-hσ,sE (by omega)]);obtain⟨Lo2,ro2⟩:=W9.obj;have q4':(σ3.set 5 (some vb))[4]?=some (some (.int k)):=by rw[sE (by omega)];exact q4
  have q5':(σ3.set 5 (some vb))[5]?=some (some vb):=by rw[sO (by rw[l3];omega)]
  refine⟨_,_,z49 (B:=.int k) (b:=.int k) (Lb:=[]) ro2 ⟨rfl,rfl⟩ r9 W9.ra W9.s0 W9.s1 W9.s2 W9.s3 q4' q5',?_⟩;cases htr:tRow [some (filO C S Ru fe' ma' (List.replicate (k+1) z0++dn)),some S,some Hh,some Ru,some (.int k),some bo]with
  | err n=>rw[htr]at hg;cases hg
  | bad=>rw[htr]at hg;cases hg
  | ok row =>
  rw[htr,jYa]at hg;intro y H10 Lr sm10 rr kr;obtain⟨vs,p1,p2,p3⟩:=W9.put sm10 rr kr.1 kr.2 nL baf zaf xaf;refine⟨.ref x,W9.s0,x,C,dx,_,.ref af,rfl,sm10 _ _ W9.hx,cl,hn _ (by simp[xP]),z0q,.int k,q4',af,vs,k,k,rfl,rfl,p1,?_,row::dn,p3,hg⟩;unfold ixN;rw[if_pos (by omega),if_pos (by rw[p2];omega)];simp
 ·have hin':i=n:=by omega
  subst hin';rw[gI]at W hg;cases hg;obtain⟨dv,Ld,g1,g2,g3,g4,g5⟩:=W.ex;refine .inl ⟨tQ _,hQ σ2 H2 _ _ _ ([aF,aM]++(af::Ld++[])) W.kp W.hx ?_ ?_ ?_⟩
  ·have rr:=Reps.append W.rf (Reps.cons (show Rep X.K H2 (.lst fin) (.ref af) (af::Ld) from⟨af,_,Ld,rfl,g1,rfl,by simpa using g2⟩) Reps.nil);exact rr
  ·rw[tY];obtain⟨m1,m2,m3⟩:=sI.mp g3;refine sI.mpr ⟨m1,sW.mpr ⟨fun w=>g4 (tR _ w),m2⟩,fun a ha b hb w=>?_⟩;subst w;rcases sF.mp hb with w|w
   ·subst w;exact g4 (sC _ ha)
   ·exact m3 a ha a w rfl
  ·intro a ha;rw[tY]at ha;rcases sG.mp ha with w|w
   ·simp only[sF,rK,or_false]at w;rcases w with rfl|rfl
    ·exact bF
    ·exact bM
   ·rcases sF.mp w with w|w
    ·rw[w];exact baf
    ·exact g5 a w
end
structure OwnI (P:Program)(w:World)(K:jJa)(mg:Str->Option Value)(base:Heap)(x:Str)(C:Addr)(k:Nat)(ps:List Str)(sp:Sp):Prop where
 ex:∃f fd,FnOk P w K mg base (cxx P w) k f fd ps sp/\Mk K C f/\Binds K fd ps []/\mg x=some (.ref C)
section
variable {P:Program}{w:World}{K:jJa}{mg:Str->Option Value}{base:Heap}{x qual:Str}{st:Stmt}{N ps:List Str}{k:Nat}{C:Addr}{b1 b2 b3 b4 b5 b6:Stmt}{Fi:List D->R (List D)}
def z1P {f:Addr}{oc:Value}{od an:Option Addr}{osl:Array (Option Value)}{kV doc pm cdv ct:Value}(lk:K.lookup f=some ⟨oc,od,.func (jJb x qual (defArgs st) (defBody st) (defScope st) .none kV doc pm an cdv ct),osl⟩)(hcd:jJf K cdv qual=true)
  (S:FnScope N ps (defScope st)) (hN:N.length=6) (hps:ps.length=4) (cl:Cls K C) (hn:∀f∈xP,NoAttr K C f)
  (hbody:∀(A:Around) (outer:List Env) (s:Shared) (H:Hp) (E:XK),Room k (A.deeper (envOfC qual (defScope st) s.heap.objs.size f cdv)) ->
   ∃(tFe tMa tLen:Tn->R D) (u:Tn->R (List D)) (tB tRow:Tn->R D) (ta:TA),Fi=VQ C tFe tMa tLen u tB tRow/\(∀O σ H τ Q,EOk K Γi1 O H σ τ->qY K E O .fresh H Q (u τ)->ta σ H Q) /\
   PSs (wu (cxx P w) P w K mg base N qual (defScope st) f cdv A outer s H E) (defBody st) (v7 (uu K (xE 0) (xE 1) "strips") (v7 (uu K (xE 0) (xE 3) "rules") (v7 (uu K (xE 0) (wpE K E Γi1 tFe .fresh) "feet") (v7 (uu K (xE 0) (wpE K E Γi1 tMa .fresh) "marks")
   (v7 (uu K (xE 0) (tOp VO (Yv (qw (Yv (qw (tC (.int 0)) ZF)) ZF)) (wpE K E Γi1 tLen .fresh)) "found")
    (QT (V7 ta) (vo 4) (v7 (kP (wpE K E Γi2 tB .fresh) (vo 5)) (kP (wpE K E Γi3 tRow .fresh) (US (QL K (xE 0) "found") (xE 4) YO)))))))))):
  FnOk P w K mg base (cxx P w) (k+1) f (jJb x qual (defArgs st) (defBody st) (defScope st) .none kV doc pm an cdv ct) ps (spI K C Fi):=by
 refine WJ lk hcd S (fun vs H Q E ⟨_,_,_,_,_,_,_,_,_,_,_,e,_⟩=>by rw[e,hps];rfl) fun A outer s H vs Q E hr h=>?_;obtain⟨x,dx,v0,v1,v2,ds,L,fe,ma,fo,Hb,rfl,hx,nx,sb,ra,hF,hQ⟩:=h;obtain⟨tFe,tMa,tLen,u,tB,tRow,ta,rfl,hta,p⟩:=hbody A outer s H E hr;have es:start N [V.ref x,v0,v1,v2]=[some (V.ref x),some v0,some v1,some v2,none,none]:=by unfold start;rw[hN];rfl
 refine⟨_,p,?_⟩;rw[es];exact JG (X:=wu (cxx P w) P w K mg base N qual (defScope st) f cdv A outer s H E) cl hn hta hx nx sb ra hF rfl rfl rfl rfl rfl fun σ' H' v3 v4 v5 L' q1 q2 q3 q4 q5=>hQ H' v3 v4 v5 L' q1 q2 q3 q4 q5
end
def mkD (C:Addr)(Fi:List D->R (List D)):List D->R D:=fun ds=>match ds,Fi ds with
 | [S,_,Ru],.ok [fe,ma,.lst fo]=>.ok (filO C S Ru fe ma fo)
 | _,_=>.bad
def ko (Fi:List D->R (List D)):List D->R D:=fun ds=>match Fi ds with
 | .ok [_,_,fo]=>.ok fo
 | _=>.bad
section
variable {X:Cx}{E:XK}{Γ:List Cl}{x:Str}{k:Nat}{ps:List Str}{Fi:List D->R (List D)}{a b c:Expr}{u:Tn->R (List D)}{ca:Rc}{p pos fpos:Pos}{C:Addr}{t:TA}
def z0v (O:OwnI X.prog X.w X.K X.mg X.base x C k ps (spI X.K C Fi))(hr:Room (k+1) X.A)(hg:Gl X x)(hx:xl (cxx X.prog X.w) X E)(ha:PA X [a,b,c] t)(hdb:autoParam ((x==("__debug__":Str))=false) au1._auto_1)
  (he:autoParam (starEach [a,b,c] X.env=(false,eval a X.env)::starEach [b,c] X.env) au3._auto_1) (hpl:autoParam ((backTo pos (starEach [b,c] X.env)).any (·.1)=false) au3._auto_1):PE X (.Call (.Name x p) [a,b,c] [] pos) (Ja C (spI X.K C Fi) [] E t):=by
 obtain⟨f,fd,F,M,hb,hm⟩:=O.ex;exact JA M F hr hg hm hb .nil hx ha hdb he hpl
def z02 {O:Addr->Prop}{σ:St}{H:Hp}{τ:Tn}{Q:VK}{ds:List D}{fe ma fo:D}(ha:MA X E Γ [a,b,c] u ca)(q:∀O σ H τ Q,EOk X.K Γ O H σ τ->qY X.K E O ca H Q (u τ)->t σ H Q)(ok:EOk X.K Γ O H σ τ)(hu:u τ=.ok ds)(hF:Fi ds=.ok [fe,ma,fo])
  (h:∀H1 H2 x dx v0 v1 v2 v3 v4 v5 L L',Same H H1->Reps X.K H1 ds [v0,v1,v2] L->RcOk ca O H L->Same H1 H2->H2 x=some (.ins C dx [("strips",v0),("rules",v2),("feet",v3),("marks",v4),("found",v5)])->Reps X.K H2 [fe,ma,fo] [v3,v4,v5] L'->L'.Nodup->(∀a∈L',H1 a=none)->Q (.ref x) H2):Ja C (spI X.K C Fi) [] E t σ H Q:=by
 refine q O σ H τ _ ok ?_;rw[hu];intro vs H1 L s1 r1 k1;have hl:vs.length=3:=by rw[r1.length];exact ha.1 τ ds hu
 match vs,hl,r1 with
 | [v0,v1,v2],_,r1 =>
  intro x dx hx hdx ne;refine⟨x,dx,v0,v1,v2,ds,L,fe,ma,fo,H1,rfl,zu,hx,fun b o e=>?_,r1,hF,fun H' v3 v4 v5 L' sm hx' r' nd nw=>⟨rfl,h H1 H' x dx v0 v1 v2 v3 v4 v5 L L' s1 r1 k1 sm hx' r' nd nw⟩⟩;rw[zy (zR e hx),zy (zR e hdx)];exact e
def z3s (O:OwnI X.prog X.w X.K X.mg X.base x C k ps (spI X.K C Fi))(hr:Room (k+1) X.A)(hg:Gl X x)(hx:xl (cxx X.prog X.w) X E)(ha:MA X E Γ [a,b,c] u ca)(hca:ca≠.bor)(hdb:autoParam ((x==("__debug__":Str))=false) au1._auto_1)
  (he:autoParam (starEach [a,b,c] X.env=(false,eval a X.env)::starEach [b,c] X.env) au3._auto_1) (hpl:autoParam ((backTo pos (starEach [b,c] X.env)).any (·.1)=false) au3._auto_1):ME X E Γ (.Call (.Name x p) [a,b,c] [] pos) (eL (mkD C Fi) u) .shr:=by
 have ha':=ha;obtain⟨_,t,p2,q2⟩:=ha';refine⟨_,z0v O hr hg hx p2 hdb he hpl,fun Ow σ H τ Q ok h=>?_⟩;unfold eL at h;cases hu:u τ with
 | ok ds =>
  rw[hu,jYa]at h;unfold mkD at h;split at h
  ·rename_i S Hh Ru fe ma fo hF;refine z02 ha q2 ok hu hF fun H1 H2 x dx v0 v1 v2 v3 v4 v5 L L' s1 r1 k1 s2 hx' r' nd nw=>?_;obtain⟨w,vs,L1,L2,e1,rfl,r0,w1,ws,L3,L4,e2,rfl,r1',y,ys,L5,L6,e3,rfl,r2,z1,z2⟩:=r1;injection e1 with e1 e1';injection e2.symm.trans e1'.symm with a1 a2;subst e1;injection a2.symm.trans e3 with a3 a4;subst a3;obtain⟨w3,ws3,M1,M2,e4,rfl,q3,w4,ws4,M3,M4,e5,rfl,q4,w5,ws5,M5,M6,e6,rfl,q5,z3,z4⟩:=r';injection e4 with b1 b2;subst b1;injection b2.trans e5 with b3 b4;subst b3;injection b4.trans e6 with b5 b6;subst b5;subst z2 z4;refine h (.ref x) H2 (L1++(L5++(M1++(M3++(M5++[]))))) (s1.trans s2) ⟨x,dx,_,rfl,hx',rfl,Reps.cons (r0.same s2) (Reps.cons (r2.same s2) (Reps.cons q3 (Reps.cons q4 (Reps.cons q5 Reps.nil))))⟩ fun a ha=>?_;have ks:=k1.shr ok.dom hca;have new:∀a,a∈M1++(M3++(M5++[]))->¬Ow a:=fun a ha o=>ok.dom a o (s1.non (nw a ha));rcases sG.mp ha with z|z
   ·exact ks a (sC _ z)
   ·rcases sG.mp z with z|z
    ·exact ks a (tR _ (tR _ (sC _ z)))
    ·exact new a z
  ·exact h.elim
 | err n=>rw[hu]at h;exact q2 Ow σ H τ _ ok (by rw[hu];exact h)
 | bad=>rw[hu]at h;exact h.elim
def z0P (O:OwnI X.prog X.w X.K X.mg X.base x C k ps (spI X.K C Fi))(cl:Cls X.K C)(hn:NoAttr X.K C "found")(hr:Room (k+1) X.A)(hg:Gl X x)(hx:xl (cxx X.prog X.w) X E)(ha:MA X E Γ [a,b,c] u ca)(hdb:autoParam ((x==("__debug__":Str))=false) au1._auto_1)
  (he:autoParam (starEach [a,b,c] X.env=(false,eval a X.env)::starEach [b,c] X.env) au3._auto_1) (hpl:autoParam ((backTo pos (starEach [b,c] X.env)).any (·.1)=false) au3._auto_1)
  (hb:autoParam (attributeBase (.Call (.Name x p) [a,b,c] [] pos) "found" X.env (eval (.Call (.Name x p) [a,b,c] [] pos) X.env)=eval (.Call (.Name x p) [a,b,c] [] pos) X.env) au3._auto_1):ME X E Γ (.Attribute (.Call (.Name x p) [a,b,c] [] pos) "found" fpos) (eL (ko Fi) u) .fresh:=by
 have ha':=ha;obtain⟨_,t,p2,q2⟩:=ha';refine⟨_,Wm (z0v O hr hg hx p2 hdb he hpl) hb,fun Ow σ H τ Q ok h=>?_⟩;unfold eL at h;cases hu:u τ with
 | ok ds =>
  rw[hu,jYa]at h;unfold ko at h;split at h
  ·rename_i fe ma fo hF;refine z02 ha q2 ok hu hF fun H1 H2 x dx v0 v1 v2 v3 v4 v5 L L' s1 r1 k1 s2 hx' r' nd nw=>?_;obtain⟨w3,ws3,M1,M2,e4,rfl,q3,w4,ws4,M3,M4,e5,rfl,q4,w5,ws5,M5,M6,e6,rfl,q5,z3,z4⟩:=r';injection e4 with b1 b2;subst b1;injection b2.trans e5 with b3 b4;subst b3;injection b4.trans e6 with b5 b6;subst b5;subst z4;refine⟨x,C,dx,_,v5,rfl,hx',cl,hn,z0q,h v5 H2 M5 (s1.trans s2) q5 ⟨?_,fun a ha=>s1.non (nw a (tR _ (tR _ (sC _ ha))))⟩⟩;exact (sI.mp (sI.mp (sI.mp nd).2.1).2.1).1
  ·exact h.elim
 | err n=>rw[hu]at h;exact q2 Ow σ H τ _ ok (by rw[hu];exact h)
 | bad=>rw[hu]at h;exact h.elim
end
def Qn {K:jJa}{H:Hp}{a:Addr}{ns:List Int}{F:List D->R D}(hs:SqF K H a (ns.map V.int))(hF:F [.frl (ns.map D.int)]=.ok (.bl true)):spM K F 1 [.ref a] H (fun v _=>v=.bl true) fun _ _ _=>False:=by
 refine⟨rfl,[.frl (ns.map D.int)],[],Reps.cons (L1:=[]) ⟨a,ns.map V.int,rfl,hs,rfl,qH ns,ua ns⟩ Reps.nil,?_⟩;rw[hF];exact fun v H' L s r _=>r.1
def Ug {P:Program}{w:World}{K:jJa}{mg mb:Str->Option Value}{k:Nat}{fa a TP:Addr}{fd:FuncData}{x:Str}{Fm:List D->R D}{s₁:Shared}{vs:List Value}{ns:List Int}{ps:Array Value}
  (KX:K.In s₁.heap) (hns:s₁.heap.Ns mainGlobals mg) (hb:s₁.heap.Ns builtinsNs mb) (hbb:∀x:Str,x≠"__name__"->mb x=bootBuiltins x) (hlim:s₁.heap.NoLimit) (hg:s₁.gens=#[])
  (ha:s₁.heap.get? a=some { cls:=.type "list",data:=.seq vs.toArray }) (hi:IntsAre vs ns) (hl:ns.length<=sizeLine) (hr:Room k callerA)
  (hP:s₁.heap.get? TP=some (jJ0 #[])) (hKP:K.lookup TP=none) (hct:isCodeTable s₁.heap TP)
  (hbm:∃bm ob,mg "__builtins__"=some (.ref bm)/\bm≠builtinsNs/\s₁.heap.get? bm=some ob/\ob.cls=.type "module"/\ob.dict=some builtinsNs/\ob.data=.plain)
  (F:∀base:Heap,K.In base->base.Ns mainGlobals mg->base.BuiltinsAt mg TP->mainGlobals≠TP->FnOk P w K mg base (cxx P w) k fa fd [x] (spT TP ps (spM K Fm 1))) (hbind:∀(s:Shared) (u:Value),BindsTo s fd ⟨[u],[]⟩ [(x,u)])
  (hF:Fm [.frl (ns.map D.int)]=.ok (.bl true)):
  codeAny (model P w) callerA (.call (.ref fa) ⟨[.ref a],[]⟩) (fun r s'=>r=.ok (.ret (.bool true))/\OldK s₁.heap s'.heap/\s'.os=s₁.os/\AllBare s'.gens) s₁:=by
 have rv:=Zg hi;have lenV:=hi.length;have aT:a≠TP:=fun z=>by
  rw[z,hP]at ha;injection ha with ha;injection ha with z1;cases z1
 have core:∀H0:Hp,z3X H0->SqF K H0 a (ns.map V.int)->HOk P w H0 s₁.heap->(∀b,H0 b≠none->b=a)->(H0 a≠none->K.lookup a=none) ->
   codeAny (model P w) callerA (.call (.ref fa) ⟨[.ref a],[]⟩) (fun r s'=>r=.ok (.ret (.bool true))/\OldK s₁.heap s'.heap/\s'.os=s₁.os/\AllBare s'.gens) s₁:=by
  intro H0 hO hS hok0 hA hK;have hHn:∀b,b≠a->b≠TP->upd H0 TP (.tbl ps) b=none:=fun b n1 n2=>by
   rw[zy n2];exact Classical.byContradiction fun z=>n1 (hA b z)
  have hok:HOk P w (upd H0 TP (.tbl ps)) s₁.heap:=fun b o e=>by
   by_cases z:b=TP
   ·subst z;rw[zu]at e;cases e;exact⟨#[],hP,.inl rfl⟩
   ·rw[zy z]at e;rcases hO b with z|⟨ob,xs,z⟩
    ·rw[z]at e;cases e
    ·rw[z]at e;cases e;exact (show ObjOk P w (upd H0 TP (.tbl ps)) s₁.heap b (.frz ob (.lst xs)) from hok0 b _ z)
  have hS':SqF K (upd H0 TP (.tbl ps)) a (ns.map V.int):=by
   rcases hS with⟨o,z⟩|z
   ·exact .inl ⟨o,by rw[zy aT];exact z⟩
   ·exact .inr z
  generalize hH:upd H0 TP (.tbl ps)=H at hok hS' hHn;have hTP:H TP=some (.tbl ps):=by rw[<-hH];exact zu
  have base_of:∀ {b:Addr} {o:Obj},s₁.heap.get? b=some o->H b=none->(kH s₁.heap H).get? b=some o:=fun e n=>Qz e n;have noA:∀ {b:Addr} {o:Obj},s₁.heap.get? b=some o->(∀it n,o.data≠.seq it n)->(∀ps,o.data≠.fields ps)->H b=none:=fun {b o} e d1 d2=>by
   refine hHn b (fun z=>?_) fun z=>?_
   ·subst z;rw[ha]at e;cases e;exact d1 _ _ rfl
   ·subst z;rw[hP]at e;cases e;exact d2 _ rfl
  have nsK:∀ {b:Addr} {m:Str->Option Value},s₁.heap.Ns b m->(kH s₁.heap H).Ns b m:=fun {b m} ⟨o,es,ep,e,d,r⟩=>⟨o,es,ep,base_of e (noA e (fun _ _ z=>by rw[d]at z;cases z) fun _ z=>by rw[d]at z;cases z),d,r⟩
  have hKb:K.In (kH s₁.heap H):=fun b o e=>base_of (KX b o e) (by
   cases q:H b with
   | none=>rfl
   | some u =>
    by_cases z:b=TP
    ·subst z;rw[hKP]at e;cases e
    ·by_cases z2:b=a
     ·subst z2;rw[hK (by rw[<-hH,zy z]at q;rw[q];simp)]at e;cases e
     ·rw[hHn b z2 z]at q;cases q)
  have mgT:mainGlobals≠TP:=fun z=>by
   obtain⟨o,es,ep,e,d,_⟩:=hns;rw[z,hP]at e;cases e;cases d
  have hBA:(kH s₁.heap H).BuiltinsAt mg TP:=by
   obtain⟨bm,ob,b1,b2,b3,b4,b5,b6⟩:=hbm;refine⟨bm,ob,b1,b2,fun z=>?_,fun z=>?_,base_of b3 (noA b3 (fun _ _ z=>by rw[b6]at z;cases z) fun _ z=>by rw[b6]at z;cases z),b4,b5,b6⟩
   ·obtain⟨o,es,ep,e,d,_⟩:=hns;rw[<-z,b3]at e;cases e;rw[b6]at d;cases d
   ·rw[z,hP]at b3;cases b3;cases b6
  have hM:Mod K mg (kH s₁.heap H):=⟨hKb,nsK hns,⟨mb,nsK hb,hbb⟩,let ⟨mc,h1,h2⟩:=hlim;⟨mc,nsK h1,h2⟩⟩
  have e0:Env0 P w K mg (kH s₁.heap H) callerA [] s₁ H:=⟨rfl,hM,fun b o e=>Ju e,Nat.le_of_eq (Vz _ _),trivial,fun b hb=>absurd (show b∈([]:List Addr) from hb) (by simp),hok,.of_eq hg⟩
  refine codeAny_mono ((F _ hKb (nsK hns) hBA mgT).run callerA [] s₁ H ⟨[.ref a],[]⟩ [.ref a] [.ref a] _ _ hr e0 (hbind s₁ (.ref a)) (.cons rfl .nil) ⟨⟨#[],by rw[hTP];simp⟩,Qn hS' hF⟩) fun r s' h=>?_;cases r with
  | error e=>exact (QN h).elim
  | ok fl =>
   cases fl with
   | next=>exact False.elim h
   | brk=>exact False.elim h
   | cont=>exact False.elim h
   | ret u =>
    obtain⟨v,H',os,bare,un,hok',r',q⟩:=h;have q':v=.bl true:=q;subst q';obtain rfl:u=Value.bool true:=r';have old:∀b o,s₁.heap.get? b=some o->asItWas s₁.heap s'.heap b o:=fun b o e=>by
     by_cases z:b=TP
     ·subst z;obtain⟨more,e1⟩:=un.tbls b ps hTP;obtain⟨qs,e2,_⟩:=hok' b _ e1;rw[hP]at e;cases e;exact .inr (.inl ⟨hct,rfl,#[],qs,rfl,by rw[e2];simp⟩)
     ·by_cases z2:b=a
      ·subst z2;cases qq:H b with
       | none=>exact .inl (un.keep b o e qq (by intro z;exact absurd (show b∈([]:List Addr) from z) (by simp)) (by simp))
       | some u =>
        have qq':=qq;rw[<-hH,zy z]at qq';rcases hO b with z3|⟨ob,xs,z3⟩
        ·rw[z3]at qq';cases qq'
        ·rw[z3]at qq';cases qq';have w2:=un.frzs b ob _ qq;obtain⟨e1,_⟩:=hok b _ qq;obtain⟨e2,_⟩:=hok' b _ w2;rw[e]at e1;cases e1;exact .inl e2
      ·exact .inl (un.keep b o e (hHn b z2 z) (by intro z;exact absurd (show b∈([]:List Addr) from z) (by simp)) (by simp))
    exact⟨rfl,⟨old,fun b o e=>un.there b o e (by simp)⟩,os,bare⟩
 cases hk:K.lookup a with
 | some o =>
  have e:=KX a o hk;rw[ha]at e;cases e;exact core (fun _=>none) (fun _=>.inl rfl) (.inr ⟨_,vs.toArray,_,hk,rfl,rfl,rfl,by rw[sD,lenV];exact hl,by simpa using rv⟩) (fun b u z=>by have z':(none:Option HO)=some u:=z;cases z') (fun b z=>absurd rfl z) fun z=>absurd rfl z
 | none =>
  refine core (fun b=>if b=a then some (.frz { cls:=.type "list",data:=.seq vs.toArray } (.lst (ns.map V.int))) else none) (fun b=>?_) (.inl ⟨{ cls:=.type "list",data:=.seq vs.toArray },if_pos rfl⟩) (fun b u z=>?_) (fun b z=>?_) fun _=>hk
  ·by_cases hb:b=a
   ·exact .inr ⟨_,_,if_pos hb⟩
   ·exact .inl (if_neg hb)
  ·by_cases hb:b=a
   ·have z':=(if_pos hb).symm.trans z;cases z';subst hb;exact⟨ha,by rw[tM];exact hl,vs,_,rv,ha⟩
   ·have z':=(if_neg hb).symm.trans z;cases z'
  ·by_cases hb:b=a
   ·exact hb
   ·exact absurd (if_neg hb) z
def law_walkT {Fm:List D->R D}{k:Nat}{x:Str}{l:PySem.W.OpenLaw}{q:Program}{loose:List Str}{XP:(Str->Option Value)->Heap->Prop}{YP:World->Heap->Prop}{d:DefRec}{K:Params->jJa}{TP:Addr}{ps:Array Value}(hF:∀ns:List Int,ns.length<=63->Fm [.frl (ns.map D.int)]=.ok (.bl true))(hr:Room k callerA)(hn:l.most=some 63)(hdf:d.params.defaults=[])
  (hY:∀(w:World) (h:Heap),YP w h->(K w.params).In h/\h.get? TP=some (jJ0 #[])) (hKP:∀P:Params,(K P).lookup TP=none) (hct:∀(w:World) (h:Heap),(K w.params).In h->isCodeTable h TP)
  (F:∀(w:World) (mg:Str->Option Value) (fa:Addr) (h:Heap),(K w.params).In h->h.Ns mainGlobals mg->mg d.name=some (.ref fa) ->
   ∃fd:FuncData,(∀(s:Shared) (u:Value),BindsTo s fd ⟨[u],[]⟩ [(x,u)])/\∀base:Heap,(K w.params).In base->base.Ns mainGlobals mg->base.BuiltinsAt mg TP->mainGlobals≠TP->FnOk l.prog w (K w.params) mg base (cxx l.prog w) k fa fd [x] (spT TP ps (spM (K w.params) Fm 1))):
  PySem.W.WalkO q loose XP YP l.row.toRowW d [] (fun f vs=>PySem.call f vs):=by
 refine Att.attach_call hn hdf fun w s₀ s₁ mg mb fa o pm cd doc a vs ns G Y ho hd hcd hmg hobj hints hlen hg=>?_;obtain⟨KX,hP⟩:=hY w _ Y;obtain⟨fd,hb,hF'⟩:=F w mg fa _ KX G.T.g hmg;exact Ug KX G.T.g G.T.b G.T.builtins G.T.nolimit hg hobj hints (sT hlen (by rw[sizeLine_eq];decide)) hr hP (hKP _) (hct w _ KX) G.T.bmain hF' hb (hF ns hlen)
structure MethIn (K:jJa)(C:Addr)(m qual:Str)(st:Stmt)(ps:List Str)(cv:Value):Prop where
 ex:∃(f:Addr) (oc:Value) (od an:Option Addr) (osl:Array (Option Value)) (kV doc pm ct:Value),K.lookup f=some ⟨oc,od,.func (jJb m qual (defArgs st) (defBody st) (defScope st) .none kV doc pm an cv ct),osl⟩/\jJf K cv qual=true/\Meth K C m f/\Binds K (jJb m qual (defArgs st) (defBody st) (defScope st) .none kV doc pm an cv ct) ps []
structure InitIn (K:jJa)(mg:Str->Option Value)(C:Addr)(x qual:Str)(st:Stmt)(ps:List Str)(cv:Value):Prop where
 ex:∃(f:Addr) (oc:Value) (od an:Option Addr) (osl:Array (Option Value)) (kV doc pm ct:Value),K.lookup f=some ⟨oc,od,.func (jJb "__init__" qual (defArgs st) (defBody st) (defScope st) .none kV doc pm an cv ct),osl⟩/\jJf K cv qual=true/\Mk K C f/\Binds K (jJb "__init__" qual (defArgs st) (defBody st) (defScope st) .none kV doc pm an cv ct) ps []/\mg x=some (.ref C)
structure FilC (K:jJa)(C:Addr):Prop where
 cl:Cls K C
 no:∀f∈xP,NoAttr K C f
section
variable {P:Program}{w:World}{K:jJa}{mg:Str->Option Value}{base:Heap}{x m qual:Str}{st:Stmt}{N ps:List Str}{k:Nat}{t:Tn->R Fl}{Γ':List Cl}{TP C:Addr}{tps:Array Value}{cv:Value}
theorem MethIn.mir (Mi:MethIn K C m qual st ps cv)(S:FnScope N ps (defScope st))(hn:ps.length<=N.length)
  (hbody:∀(f:Addr) (A:Around) (outer:List Env) (s:Shared) (H:Hp) (E:XK),Room k (A.deeper (envOfC qual (defScope st) s.heap.objs.size f cv)) ->
   MSs (wu (cxx P w) P w K mg base N qual (defScope st) f cv A outer s H E) E [] (qP N.length ps.length) (defBody st) t Γ'):OwnM P w K mg base C m (k+1) ps (spM K (zC N.length t) ps.length):=by
 obtain⟨f,oc,od,an,osl,kV,doc,pm,ct,lk,hcd,hM,hB⟩:=Mi.ex;exact⟨f,_,z0N lk hcd S hn (hbody f),hM,hB⟩
theorem MethIn.mirT (Mi:MethIn K C m qual st ps cv)(S:FnScope N ps (defScope st))(hn:ps.length<=N.length)
  (hbody:∀(f:Addr) (A:Around) (outer:List Env) (s:Shared) (H:Hp) (E:XK),(∃more,H TP=some (.tbl (tps++more)))->Room k (A.deeper (envOfC qual (defScope st) s.heap.objs.size f cv)) ->
   MSs (wu (cxx P w) P w K mg base N qual (defScope st) f cv A outer s H E) E [] (qP N.length ps.length) (defBody st) t Γ'):OwnM P w K mg base C m (k+1) ps (spT TP tps (spM K (zC N.length t) ps.length)):=by
 obtain⟨f,oc,od,an,osl,kV,doc,pm,ct,lk,hcd,hM,hB⟩:=Mi.ex;exact⟨f,_,Y2 lk hcd S hn (hbody f),hM,hB⟩
theorem DefIn.mirB (Df:DefIn K mg x st ps)(S:FnScope N ps (defScope st))(hn:ps.length<=N.length)
  (hbody:∀(f:Addr) (cdv:Value) (A:Around) (outer:List Env) (s:Shared) (H:Hp) (E:XK),(∃more,H TP=some (.tbl (tps++more)))->Room k (A.deeper (envOfC x (defScope st) s.heap.objs.size f cdv)) ->
   MSs (wu (cxx P w) P w K mg base N x (defScope st) f cdv A outer s H E) E [] (qP N.length ps.length) (defBody st) t Γ'):Own P w K mg base x (k+1) ps (spT TP tps (spM K (zC N.length t) ps.length)):=by
 obtain⟨f,fd,F,hm,hb⟩:=Df.ex;obtain⟨oc,od,kV,doc,pm,an,cdv,ct,osl,rfl,lk,hcd⟩:=F.ex;exact⟨f,_,Y2 lk hcd S hn (hbody f cdv),hm,F.kp,hb⟩
theorem OwnI.mono {j:Nat}{sp:Sp}(O:OwnI P w K mg base x C j ps sp)(h:j<=k):OwnI P w K mg base x C k ps sp:=by
 obtain⟨f,fd,F,a,b,c⟩:=O.ex;exact⟨f,fd,F.mono h,a,b,c⟩
theorem InitIn.mir {tFe tMa tLen tB tRow:Tn->R D}{u:Tn->R (List D)}(Mi:InitIn K mg C x qual st ["self","strips","heights","rules"] cv)(S:FnScope ["self","strips","heights","rules","begin","bodies"] ["self","strips","heights","rules"] (defScope st))(Cf:FilC K C)
  (hbody:∀(f:Addr) (A:Around) (outer:List Env) (s:Shared) (H:Hp) (E:XK),Room k (A.deeper (envOfC qual (defScope st) s.heap.objs.size f cv)) ->
   ∃ta:TA,(∀O σ H τ Q,EOk K Γi1 O H σ τ->qY K E O .fresh H Q (u τ)->ta σ H Q) /\
   PSs (wu (cxx P w) P w K mg base ["self","strips","heights","rules","begin","bodies"] qual (defScope st) f cv A outer s H E) (defBody st) (v7 (uu K (xE 0) (xE 1) "strips") (v7 (uu K (xE 0) (xE 3) "rules") (v7 (uu K (xE 0) (wpE K E Γi1 tFe .fresh) "feet") (v7 (uu K (xE 0) (wpE K E Γi1 tMa .fresh) "marks")
   (v7 (uu K (xE 0) (tOp VO (Yv (qw (Yv (qw (tC (.int 0)) ZF)) ZF)) (wpE K E Γi1 tLen .fresh)) "found")
    (QT (V7 ta) (vo 4) (v7 (kP (wpE K E Γi2 tB .fresh) (vo 5)) (kP (wpE K E Γi3 tRow .fresh) (US (QL K (xE 0) "found") (xE 4) YO)))))))))):
  OwnI P w K mg base x C (k+1) ["self","strips","heights","rules"] (spI K C (VQ C tFe tMa tLen u tB tRow)):=by
 obtain⟨f,oc,od,an,osl,kV,doc,pm,ct,lk,hcd,hM,hB,hmg⟩:=Mi.ex;exact⟨f,_,z1P lk hcd S rfl rfl Cf.cl Cf.no fun A outer s H E hr=>by
  obtain⟨ta,h1,h2⟩:=hbody f A outer s H E hr;exact⟨tFe,tMa,tLen,u,tB,tRow,ta,rfl,h1,h2⟩,hM,hB,hmg⟩
end
section
variable {prog:Program}{w:World}{A:Around}{R:Result->Shared->Prop}
end
abbrev Xw (A:Around)(s:Shared)(x y:Value)(b:Bool):Prop:=∀(prog:Program) (w:World) (E:Value->Shared->Prop) (Q:Value->Shared->Prop),Q (.bool b) s->wpAny (model prog w) A (richCompare .Lt x y) Q E s
def UP (A:Around)(s:Shared)(a:Int)(t:Tok)(c:Int)(u:Tok):Xw A s (.int a t) (.int c u) (decide (a<c)):=fun prog w E Q h =>
 CmpOf.ints_lt (P:=fun k v=>∃t,v=.int (if k=0 then a else c) t) (fun k=>if k=0 then a else c) (fun _ _ h=>h) 0 1 (.int a t) (.int c u) _ _ _ ⟨t,rfl⟩ ⟨u,rfl⟩ h
def ltP:List (Bool×Bool)->Bool->Bool
 | [],e=>e
 | (true,_)::r,e=>ltP r e
 | (false,c)::_,_=>c
section
open PySem.SeqAt PySem.MeetsSeq3
open PySem.AutoSeq1 (wpAny_loadPart')
def Zq (A:Around)(s:Shared)(items items2:Array Value)(ps:List (Bool×Bool)):Prop:=∀(j:Nat) (x y:Value),items[j]?=some x->items2[j]?=some y->∃p:Bool×Bool,ps[j]?=some p/\EqAt A s x y p.1/\Xw A s x y p.2
def KS (l b:Addr)(items items2:Array Value)(n n2:Nat)(dd dd2:Option Addr)(sl sl2:Array (Option Value))(ps:List (Bool×Bool))(hp:ps.length=min items.size items2.size)(k:Nat):
  ∀i:Nat,items.size-i=k->i<=items2.size->Meets (Builtin.«list.__eq__.loop» ⟨[.ref l,.ref b,rawInt i,rawInt 0],[]⟩)
   (fun A R s=>(s.heap.get? l=some { cls:=.type "list",dict:=dd,data:=.seq items n,slots:=sl }/\s.heap.get? b=some { cls:=.type "list",dict:=dd2,data:=.seq items2 n2,slots:=sl2 })/\Zq A.in1 s items items2 ps /\
    R (.ok (.ret (.bool (ltP (ps.drop i) (decide (items.size<items2.size)))))) s):=by
 induction k with
 | zero =>
  intro i hk hi2 prog w A R s h;obtain⟨hp',g,d,tk,os⟩:=s;obtain⟨⟨hl,hb⟩,hc,h⟩:=h
  wp_walk using wpAny_loadPart' hl,wpAny_loadPart' hb
  have e1:items[((i:Nat):Int).toNat]?=none:=by simp;omega
  have d1:ps.drop i=[]:=gH (by omega);rw[d1]at h;rw[e1]
  wp_walk using wpAny_loadPart' hl,wpAny_loadPart' hb
  exact h
 | succ k ih =>
  intro i hk hi2 prog w A R s h;obtain⟨hp',g,d,tk,os⟩:=s;obtain⟨⟨hl,hb⟩,hc,h⟩:=h
  wp_walk using wpAny_loadPart' hl,wpAny_loadPart' hb
  have h1:i<items.size:=by omega
  have e1:items[((i:Nat):Int).toNat]?=some items[i]:=by simp[h1]
  by_cases h2:i<items2.size
  ·have e2:items2[((i:Nat):Int).toNat]?=some items2[i]:=by simp[h2]
   obtain⟨p,hpi,he,hlt⟩:=hc i items[i] items2[i] (by simp[h1]) (by simp[h2]);have h3:i<ps.length:=by omega
   have ep:ps[i]=p:=by rw[tL h3]at hpi;exact jYe hpi
   have d1:ps.drop i=p::ps.drop (i+1):=by rw[sQ h3,ep]
   rw[d1]at h;rw[e1,e2];have hcI:((i:Int)+1)=((i+1:Nat):Int):=by push_cast;rfl
   refine wpAny_bind (he prog w _ _ ?_);obtain⟨p1,p2⟩:=p;cases p1 with
   | true =>
    wp_walk
    rw[hcI];exact⟨plainId_quiet plain_eq_loop _,codeAny_builtin entry_eq_loop (by
     rw[Around.under_plainId plain_eq_loop _];exact ih (i+1) (by omega) (by omega) prog w A R _ ⟨⟨hl,hb⟩,hc,h⟩)⟩
   | false =>
    wp_walk using wpAny_loadPart' hl,wpAny_loadPart' hb
    rw[e1,e2];have hri:=hlt prog w
    wp_walk using hri
    exact h
  ·have e2:items2[((i:Nat):Int).toNat]?=none:=by simp;omega
   have d2:ps.drop i=[]:=gH (by omega);rw[d2]at h;rw[e1,e2]
   wp_walk using wpAny_loadPart' hl,wpAny_loadPart' hb
   exact h
def Xq (l b:Addr)(items items2:Array Value)(n n2:Nat)(dd dd2:Option Addr)(sl sl2:Array (Option Value))(ps:List (Bool×Bool))(hp:ps.length=min items.size items2.size):
  Meets (Builtin.«list.__lt__» ⟨[.ref l,.ref b],[]⟩)
   (fun A R s=>(s.heap.get? l=some { cls:=.type "list",dict:=dd,data:=.seq items n,slots:=sl }/\s.heap.get? b=some { cls:=.type "list",dict:=dd2,data:=.seq items2 n2,slots:=sl2 })/\Zq A.in1 s items items2 ps /\
    R (.ok (.ret (.bool (ltP ps (decide (items.size<items2.size)))))) s):=by
 intro prog w A R s h;obtain⟨hp',g,d,tk,os⟩:=s;obtain⟨⟨hl,hb⟩,hc,h⟩:=h;have f3:=AutoSeq1.sub_list_list
 wp_walk using wpAny_loadPart' hl,wpAny_loadPart' hb
 exact⟨plainId_quiet plain_eq_loop _,codeAny_builtin entry_eq_loop (by
  rw[Around.under_plainId plain_eq_loop _];exact KS l b items items2 n n2 dd dd2 sl sl2 ps hp _ 0 rfl (rG _) prog w A R _ ⟨⟨hl,hb⟩,hc,h⟩)⟩
def ZM (l b:Addr)(items items2:Array Value)(n n2:Nat)(dd dd2:Option Addr)(sl sl2:Array (Option Value))(ps:List (Bool×Bool))(hp:ps.length=min items.size items2.size):
  Meets (Builtin.«tuple.__lt__» ⟨[.ref l,.ref b],[]⟩)
   (fun A R s=>(s.heap.get? l=some { cls:=.type "tuple",dict:=dd,data:=.seq items n,slots:=sl }/\s.heap.get? b=some { cls:=.type "tuple",dict:=dd2,data:=.seq items2 n2,slots:=sl2 })/\Zq A.in1 s items items2 ps /\
    R (.ok (.ret (.bool (ltP ps (decide (items.size<items2.size)))))) s):=
 .of_wp fun prog w A R s h=>by
  obtain⟨hp',g,d,tk,os⟩:=s;obtain⟨⟨hl,hb⟩,hc,h⟩:=h;have f2:=AutoSeq1.sub_tuple_tuple;have hZ:(items.toList.zip items2.toList).length=ps.length:=by simp;omega
  wp_walk using wpAny_loadPart' hl,wpAny_loadPart' hb,wpAny_forIn_list _ (fun rest b s'=>b.1=none/\s'=⟨hp',g,d,tk,os⟩/\∃i,rest=(items.toList.zip items2.toList).drop i/\R (.ok (.ret (.bool (ltP (ps.drop i) (decide (items.size<items2.size)))))) ⟨hp',g,d,tk,os⟩) _
  case turn =>
   rintro⟨x,y⟩ rest b' s' ⟨hb',rfl,i,hz,hR⟩;have h3:i<ps.length:=by
    rcases Nat.lt_or_ge i (items.toList.zip items2.toList).length with h'|h'
    ·omega
    ·rw[pL h']at hz;cases hz
   have h1:i<items.size:=by omega
   have h2:i<items2.size:=by omega
   rw[sQ (by omega)]at hz;have e0:(x,y)=(items.toList.zip items2.toList)[i]'(by omega):=(List.cons.inj hz).1;have hrest:=(List.cons.inj hz).2;rw[List.getElem_zip]at e0;have ex:items[i]?=some x:=by
    have:=congrArg Prod.fst e0;rw[show x=items.toList[i]'(by simp;omega) from this];simp[h1]
   have ey:items2[i]?=some y:=by
    have:=congrArg Prod.snd e0;rw[show y=items2.toList[i]'(by simp;omega) from this];simp[h2]
   obtain⟨p,hpi,he,hlt⟩:=hc i x y ex ey;have ep:ps[i]=p:=by rw[tL h3]at hpi;exact jYe hpi
   have d1:ps.drop i=p::ps.drop (i+1):=by rw[sQ h3,ep]
   rw[d1]at hR;refine wpAny_bind (he prog w _ _ ?_);obtain⟨p1,p2⟩:=p;cases p1 with
   | true =>
    wp_walk
    exact⟨rfl,rfl,i+1,hrest,hR⟩
   | false =>
    have hri:=hlt prog w
    wp_walk using hri
    exact⟨_,rfl,hR⟩
  case fin =>
   rintro⟨b1,b2⟩ s' ⟨hb',rfl,i,hz,hR⟩;simp only at hb';subst hb';have hge:ps.length<=i:=by
    rcases Nat.lt_or_ge i (items.toList.zip items2.toList).length with h'|h'
    ·rw[sQ h']at hz;cases hz
    ·omega
   rw[pL hge]at hR
   wp_walk
   exact⟨_,rfl,hR⟩
  case h =>
   exact⟨rfl,rfl,0,rfl,h⟩
end
def ltZ (f g:D->D->Option Bool):List D->List D->Option (List (Bool×Bool))
 | x::xs,y::ys=>match f x y,g x y,ltZ f g xs ys with
  | some a,some c,some r=>some ((a,c)::r)
  | _,_,_=>none
 | _,_=>some []
theorem jm {f g:D->D->Option Bool}:∀ {xs ys:List D} {ps:List (Bool×Bool)},ltZ f g xs ys=some ps->ps.length=min xs.length ys.length/\∀(j:Nat) (x y:D),xs[j]?=some x->ys[j]?=some y->∃p:Bool×Bool,ps[j]?=some p/\f x y=some p.1/\g x y=some p.2
 | [],ys,ps,h=>by cases h;exact⟨by simp,fun j x y e=>by simp at e⟩
 | x::xs,[],ps,h=>by cases h;exact⟨by simp,fun j x y _ e=>by simp at e⟩
 | x::xs,y::ys,ps,h=>by
  have h:(match f x y,g x y,ltZ f g xs ys with
   | some a,some c,some r=>some ((a,c)::r)
   | _,_,_=>none)=some ps:=h
  split at h
  ·rename_i a c r h1 h2 h3;cases h;obtain⟨l,q⟩:=jm h3;refine⟨by simp[l],fun j x' y' e1 e2=>?_⟩;cases j with
   | zero =>
    simp at e1 e2;subst e1 e2;exact⟨(a,c),rfl,h1,h2⟩
   | succ j=>exact q j x' y' (by simpa using e1) (by simpa using e2)
  ·cases h
def ltF:Nat->D->D->Option Bool
 | _,.int i,.int j=>some (decide (i<j))
 | n+1,.frl xs,.frl ys=>(ltZ (eqF n) (ltF n) xs ys).map fun ps=>ltP ps (decide (xs.length<ys.length))
 | n+1,.tup xs,.tup ys=>(ltZ (eqF n) (ltF n) xs ys).map fun ps=>ltP ps (decide (xs.length<ys.length))
 | _,_,_=>none
section
variable {X:Cx}{pins:List (Addr×Obj)}{σ:St}{H:Hp}{s:Shared}
def Wy (I:Inv X pins σ H s){n:Nat}{A:Around}(hu:A.units+n<cLine)(ih:∀(d1 d2:D) (v1 v2:V) (L1 L2:List Addr) (u1 u2:Value) (b:Bool),ltF n d1 d2=some b->Rep X.K H d1 v1 L1->Rep X.K H d2 v2 L2->RelV v1 u1->RelV v2 u2->Xw A s u1 u2 b)
  {xs ys:List D} {vs vs2:List V} {L L2:List Addr} {its its2:List Value} {ps:List (Bool×Bool)} (rs:Reps X.K H xs vs L) (rs2:Reps X.K H ys vs2 L2) (rv:Vals vs its) (rv2:Vals vs2 its2) (h:ltZ (eqF n) (ltF n) xs ys=some ps):Zq A s its.toArray its2.toArray ps:=by
 intro j x y e1 e2;have e1:its[j]?=some x:=by simpa using e1
 have e2:its2[j]?=some y:=by simpa using e2
 have l1:its.length=xs.length:=by rw[<-rv.length,rs.length]
 have l2:its2.length=ys.length:=by rw[<-rv2.length,rs2.length]
 have h1:j<xs.length:=by rw[<-l1];exact (tV.mp e1).1
 have h2:j<ys.length:=by rw[<-l2];exact (tV.mp e2).1
 obtain⟨w1,L3,g1,g2,_⟩:=rs.get (i:=j) (d:=xs[j]) (by simp[h1]);obtain⟨w2,L4,g3,g4,_⟩:=rs2.get (i:=j) (d:=ys[j]) (by simp[h2]);obtain⟨z1,k1,k2⟩:=rv.get g1;obtain⟨z2,k3,k4⟩:=rv2.get g3;rw[e1]at k1;rw[e2]at k3;cases k1;cases k3;obtain⟨p,q1,q2,q3⟩:=(jm h).2 j xs[j] ys[j] (by simp[h1]) (by simp[h2]);exact⟨p,q1,(Vp I n A _ _ w1 w2 L3 L4 x y _ hu q2 g2 g4 k2 k4).2.1,ih _ _ w1 w2 L3 L4 x y _ q3 g2 g4 k2 k4⟩
def z37 (I:Inv X pins σ H s):∀(n:Nat) (A:Around) (d1 d2:D) (v1 v2:V) (L1 L2:List Addr) (u1 u2:Value) (b:Bool),A.units+n<cLine->ltF n d1 d2=some b->Rep X.K H d1 v1 L1->Rep X.K H d2 v2 L2->RelV v1 u1->RelV v2 u2->Xw A s u1 u2 b:=by
 have uW:∀(A:Around) (i j:Int) (v1 v2:V) (L1 L2:List Addr) (u1 u2:Value),Rep X.K H (.int i) v1 L1->Rep X.K H (.int j) v2 L2->RelV v1 u1->RelV v2 u2->Xw A s u1 u2 (decide (i<j)):=fun A i j v1 v2 L1 L2 u1 u2 r1 r2 q1 q2=>by
  rw[r1.1]at q1;rw[r2.1]at q2;obtain⟨t,rfl⟩:=q1;obtain⟨t2,rfl⟩:=q2;exact UP A s i t j t2
 intro n
 induction n with
 | zero =>
  intro A d1 d2 v1 v2 L1 L2 u1 u2 b hu h r1 r2 q1 q2;cases d1 with
  | int i =>
   cases d2 with
   | int j =>
    have h:some (decide (i<j))=some b:=by simpa [ltF] using h
    cases h;exact uW A i j v1 v2 L1 L2 u1 u2 r1 r2 q1 q2
   | _=>simp[ltF]at h
  | _=>simp[ltF]at h
 | succ n ih =>
  intro A d1 d2 v1 v2 L1 L2 u1 u2 b hu h r1 r2 q1 q2;have hu0:A.units<cLine:=by omega
  have hu1:A.in1.units+n<cLine:=by show A.units+1+n<cLine;omega
  have ih1:=fun d1 d2 v1 v2 L1 L2 u1 u2 b e=>ih A.in1 d1 d2 v1 v2 L1 L2 u1 u2 b hu1 e;cases d1 with
  | int i =>
   cases d2 with
   | int j =>
    have h:some (decide (i<j))=some b:=by simpa [ltF] using h
    cases h;exact uW A i j v1 v2 L1 L2 u1 u2 r1 r2 q1 q2
   | _=>simp[ltF]at h
  | frl xs =>
   cases d2 with
   | frl ys =>
    have h:(ltZ (eqF n) (ltF n) xs ys).map (fun ps=>ltP ps (decide (xs.length<ys.length)))=some b:=by simpa [ltF] using h
    obtain⟨ps,hz,rfl⟩:=rL.mp h;obtain⟨a,vs,rfl,ha,_,_,rs⟩:=r1;obtain⟨a2,vs2,rfl,ha2,_,_,rs2⟩:=r2;obtain rfl:u1=Value.ref a:=q1;obtain rfl:u2=Value.ref a2:=q2;obtain⟨its,rv,p1,_⟩:=I.list ha.sq;obtain⟨its2,rv2,p2,_⟩:=I.list ha2.sq;have l1:its.toArray.size=xs.length:=by rw[sD,<-rv.length,rs.length]
    have l2:its2.toArray.size=ys.length:=by rw[sD,<-rv2.length,rs2.length]
    have hc:=Wy I hu1 ih1 rs rs2 rv rv2 hz;have hlen:=(jm hz).1;obtain⟨⟨cls,dd,data,sl⟩,ho,hcc,n1,hd⟩:=p1.isList;obtain⟨⟨cls2,dd2,data2,sl2⟩,ho2,hcc2,n2,hd2⟩:=p2.isList;simp only at hcc hd hcc2 hd2;subst hcc hd hcc2 hd2;intro prog w E Q hQ;refine richCompare_meets_room (op:=.Lt) ⟨_,ho,rfl⟩ ⟨_,ho2,rfl⟩ PySem.F.slot_list_lt PySem.F.entry_list_lt (PySem.F.args_list_lt_2 _ _) (Xq a a2 _ _ n1 n2 dd dd2 sl sl2 ps (by rw[hlen,l1,l2])) ⟨⟨ho,ho2⟩,hc,?_⟩ hu0;rw[l1,l2];exact⟨(fun x=>nomatch x),hQ⟩
   | _=>simp[ltF]at h
  | tup xs =>
   cases d2 with
   | tup ys =>
    have h:(ltZ (eqF n) (ltF n) xs ys).map (fun ps=>ltP ps (decide (xs.length<ys.length)))=some b:=by simpa [ltF] using h
    obtain⟨ps,hz,rfl⟩:=rL.mp h;obtain⟨a,vs,rfl,ha,rs⟩:=r1;obtain⟨a2,vs2,rfl,ha2,rs2⟩:=r2;obtain rfl:u1=Value.ref a:=q1;obtain rfl:u2=Value.ref a2:=q2;obtain⟨its,rv,p1,_⟩:=I.tuple ha;obtain⟨its2,rv2,p2,_⟩:=I.tuple ha2;have l1:its.toArray.size=xs.length:=by rw[sD,<-rv.length,rs.length]
    have l2:its2.toArray.size=ys.length:=by rw[sD,<-rv2.length,rs2.length]
    have hc:=Wy I hu1 ih1 rs rs2 rv rv2 hz;have hlen:=(jm hz).1;obtain⟨⟨cls,dd,data,sl⟩,ho,hcc,n1,hd⟩:=p1;obtain⟨⟨cls2,dd2,data2,sl2⟩,ho2,hcc2,n2,hd2⟩:=p2;simp only at hcc hd hcc2 hd2;subst hcc hd hcc2 hd2;intro prog w E Q hQ;refine richCompare_meets_room (op:=.Lt) ⟨_,ho,rfl⟩ ⟨_,ho2,rfl⟩ PySem.F.slot_tuple_lt PySem.F.entry_tuple_lt (PySem.F.args_tuple_lt_2 _ _) (ZM a a2 _ _ n1 n2 dd dd2 sl sl2 ps (by rw[hlen,l1,l2])) ⟨⟨ho,ho2⟩,hc,?_⟩ hu0;rw[l1,l2];exact⟨(fun x=>nomatch x),hQ⟩
   | _=>simp[ltF]at h
  | _=>simp[ltF]at h
end
def vU (lf:Nat->Nat->Bool):Nat->Nat->Nat->Nat
 | 0,_,b=>b
 | n+1,i,b=>vU lf n (i+1) (if lf i b=true then i else b)
section
variable {X:Cx}{pins:List (Addr×Obj)}{σ:St}{H:Hp}
def VS {R:Result->Shared->Prop}{l It S:Addr}{items:List Value}{lo:Obj}(lf:Nat->Nat->Bool)(hcalm:X.A.in1.handled=none)
  (hIS:It≠S) (hIl:It≠l) (hSl:S≠l) (nI:H It=none) (nS:H S=none) (oI:X.s₀.heap.objs.size<=It) (oS:X.s₀.heap.objs.size<=S)
  (cells:∀b,b=It\/b=S->b≠X.env.locals/\(∀x c,X.env.cells.lookup x=some c->c≠b)/\(∀p∈X.pn++pins,p.1≠b))
  (hlo:lo.cls=.type "list"/\∃n,lo.data=.seq items.toArray n)
  (hlt:∀(s:Shared) (i j:Nat) (u u':Value),Inv X pins σ H s->items[i]?=some u->items[j]?=some u'->Xw X.A.in1 s u u' (lf i j)):
  ∀(n i:Nat) (s:Shared) (b:Nat) (ub:Value),i+n=items.length->b<i->items[b]?=some ub->Inv X pins σ H s->s.heap.get? l=some lo->s.heap.IsListIter It l i->(∃c,s.heap.get? S=some { cls:=.type "list",dict:=none,data:=.seq #[ub,ub] c,slots:=#[] }) ->
   (∀s' u,items[vU lf n i b]?=some u->Inv X pins σ H s'->R (.ok (.ret u)) s')->codeAny (model X.prog X.w) X.A (.builtin "min.loop" ⟨[.ref It,.none,.ref S],[]⟩) R s:=by
 have turn:∀ {s:Shared} {h':Heap} {t':Nat} {b:Addr},(b=It\/b=S)->Inv X pins σ H s->(∀a o,a≠b->s.heap.get? a=some o->h'.get? a=some o)->Inv X pins σ H { s with heap:=h',toks:=t' }:=fun {s h' t' b} hb I k=>by
  obtain⟨c1,c2,c3⟩:=cells b hb;exact I.turned k (by rcases hb with rfl|rfl<;>assumption) c1 (.inr (by rcases hb with rfl|rfl<;>assumption)) c2 c3
 have hname:(toString "min"++toString ".loop":String)="min.loop":=by decide
 intro n
 induction n with
 | zero =>
  rintro i s b ub hn hb hub I hL hI ⟨c,hS⟩ hR;refine codeAny_builtin jXk ?_;rw[Around.under_plainId jXi _];show wpAny _ X.A.in1 (seqItems? (.ref S) >>= _) _ _ s;refine wpAny_bind (wpAny_seqItems hS rfl ?_);show wpAny _ X.A.in1 (tryCatch (pyNext (.ref It)) _ >>= _) _ _ s;refine wpAny_bind (wpAny_tryCatch (wpAny_pyNext_list_end hcalm hI ⟨lo,hL,hlo⟩ (by simp;omega) fun h' eb=>?_));have I1:=turn (t':=s.toks) (.inl rfl) I fun a o ha e=>eb a o ha e;show wpAny _ X.A.in1 (updateSeq S (fun _=>#[]) >>= _) _ _ _;refine wpAny_bind (wpAny_updateSeq (eb S _ (Ne.symm hIS) hS) rfl (wpAny_bind (wpAny_letGo (wpAny_pure ?_))));exact hR _ ub hub (turn (t':=s.toks) (.inr rfl) I1 fun a o ha e=>(Heap.get?_update_other _ _ (Ne.symm ha)).trans e)
 | succ n ih =>
  rintro i s b ub hn hb hub I hL hI ⟨c,hS⟩ hR;have hi:i<items.length:=by omega
  obtain⟨ui,hui⟩:∃u,items[i]?=some u:=⟨_,tL hi⟩
  refine codeAny_builtin jXk ?_;rw[Around.under_plainId jXi _];show wpAny _ X.A.in1 (seqItems? (.ref S) >>= _) _ _ s;refine wpAny_bind (wpAny_seqItems hS rfl ?_);show wpAny _ X.A.in1 (tryCatch (pyNext (.ref It)) _ >>= _) _ _ s;refine wpAny_bind (wpAny_tryCatch (wpAny_pyNext_list_item hI ⟨lo,hL,hlo⟩ (x:=ui) (by simpa using hui) fun h1 hI1 sb1=>?_));have I1:=turn (t':=s.toks) (.inl rfl) I fun a o ha e=>(sb1.2 a ha).trans e;have hS1:=(sb1.2 S (Ne.symm hIS)).trans hS;have hL1:=(sb1.2 l (Ne.symm hIl)).trans hL;show wpAny _ X.A.in1 (tryCatch (holding [ui,ui] (richCompare .Lt ui ub >>= _)) _ >>= _) _ _ _;refine wpAny_bind (wpAny_tryCatch (wpAny_holding (wpAny_bind (hlt _ i b ui ub I1 hui hub _ _ _ _ ?_))));refine wpAny_bind (wpAny_holding (wpAny_truthy_bool ?_));refine wpAny_bind (wpAny_letGo (wpAny_pure ?_))
  by_cases hg:lf i b=true
  ·rw[if_pos hg];refine wpAny_bind (wpAny_updateSeq hS1 rfl (wpAny_bind (wpAny_letGo ?_)));rw[hname];refine wpAny_pure ⟨plainId_quiet jXi _,?_⟩;have up:∀a o,a≠S->h1.get? a=some o->(h1.update S (Obj.mapSeq fun _=>#[ui,ui])).get? a=some o:=fun a o ha e=>(Heap.get?_update_other _ _ (Ne.symm ha)).trans e;refine ih (i+1) _ i ui (by omega) (by omega) hui (turn (t':=s.toks) (.inr rfl) I1 up) (up l _ (Ne.symm hSl) hL1) ?_ ⟨_,Heap.get?_update_self _ hS1 rfl⟩ fun s' u hu' I'=>hR s' u ?_ I'
   ·obtain⟨o,e,r⟩:=hI1;exact⟨o,up It o hIS e,r⟩
   ·rw[show vU lf (n+1) i b=vU lf n (i+1) (if lf i b=true then i else b) from rfl,if_pos hg];exact hu'
  ·rw[if_neg hg];refine wpAny_bind (wpAny_letGo ?_);rw[hname];refine wpAny_pure ⟨plainId_quiet jXi _,?_⟩;refine ih (i+1) _ b ub (by omega) (by omega) hub I1 hL1 hI1 ⟨_,hS1⟩ fun s' u hu' I'=>hR s' u ?_ I';rw[show vU lf (n+1) i b=vU lf n (i+1) (if lf i b=true then i else b) from rfl,if_neg hg];exact hu'
def U1 {s:Shared}{E:Value->Shared->Prop}{l:Addr}{items:List Value}{lo:Obj}{Q:Value->Shared->Prop}(lf:Nat->Nat->Bool)(hcalm:X.A.handled=none)(I:Inv X pins σ H s)(hpos:0<items.length)(hL:s.heap.get? l=some lo)(hlo:lo.cls=.type "list"/\∃n,lo.data=.seq items.toArray n)
  (hlt:∀(s:Shared) (i j:Nat) (u u':Value),Inv X pins σ H s->items[i]?=some u->items[j]?=some u'->Xw X.A.in1 s u u' (lf i j))
  (h:∀s' u,items[vU lf (items.length-1) 1 0]?=some u->Inv X pins σ H s'->Q u s'):
  wpAny (model X.prog X.w) X.A (call (.builtin "min") [.ref l]) Q E s:=by
 have hname:(toString "min"++toString ".loop":String)="min.loop":=by decide
 have hlt':l<s.heap.objs.size:=jYc hL;refine wpAny_call (codeAny_call_builtin PySem.F.plain_min PySem.F.entry_min ?_);have body:wpAny (model X.prog X.w) X.A.in1 (Builtin.«min» ⟨[.ref l],[]⟩) (fun fin s'=>match fin with
   | .done f=>(match (Except.ok f:Result)with | .ok (.ret v)=>Q v s' | .ok _=>False | .error e=>E e s')
   | .again c'=>c'.quiet=true/\codeAny (model X.prog X.w) X.A c' (fun r s'=>match r with | .ok (.ret v)=>Q v s' | .ok _=>False | .error e=>E e s') s') E s:=by
  show wpAny _ X.A.in1 (Builtin.Builtins.bindParams "min" ["key","default"] 0 ⟨[],[]⟩ >>= _) _ _ s;refine wpAny_bind (wpAny_of_eq (show Builtin.Builtins.bindParams "min" ["key","default"] 0 ⟨[],[]⟩=pure [none,none] from rfl) ?_);refine wpAny_bind (wpAny_pure ?_);refine wpAny_bind (wpAny_pyIter_list ⟨lo,hL,hlo⟩ ?_);refine wpAny_bind (wpAny_newObj_type ?_);rw[hname];have hz:(s.heap.push { cls:=.type "list_iterator",data:=.fields #[.ref l,.int 0 0] }).objs.size=s.heap.objs.size+1:=Heap.size_push ..;refine wpAny_pure ⟨plainId_quiet jXi _,?_⟩;have k0:∀b o,s.heap.get? b=some o->((s.heap.push { cls:=.type "list_iterator",data:=.fields #[.ref l,.int 0 0] }).push { cls:=.type "list",data:=.seq #[] }).get? b=some o:=fun b o e=>jYb _ (jYb _ e);have I0:=I.kept (t':=s.toks) k0;obtain⟨ui,hui⟩:∃u,items[0]?=some u:=⟨_,tL hpos⟩
  have aI:=I.apart (b:=s.heap.objs.size) (tQ _);have aS:=I.apart (b:=s.heap.objs.size+1) (pC _);have nIS:s.heap.objs.size≠s.heap.objs.size+1:=sL (pX _);have lI:l≠s.heap.objs.size:=sL hlt';have lS:l≠s.heap.objs.size+1:=sL (pR hlt');have hI:((s.heap.push { cls:=.type "list_iterator",data:=.fields #[.ref l,.int 0 0] }).push { cls:=.type "list",data:=.seq #[] }).IsListIter s.heap.objs.size l 0:=⟨_,jYb _ (jYd _ rfl),rfl,rfl⟩
  have hS:((s.heap.push { cls:=.type "list_iterator",data:=.fields #[.ref l,.int 0 0] }).push { cls:=.type "list",data:=.seq #[] }).get? (s.heap.objs.size+1)=some { cls:=.type "list",data:=.seq #[] }:=by
   rw[<-hz];exact jYd _ rfl
  rw[hz];refine codeAny_builtin jXk ?_;rw[Around.under_plainId jXi _];show wpAny _ X.A.in1 (seqItems? (.ref (s.heap.objs.size+1)) >>= _) _ _ _;refine wpAny_bind (wpAny_seqItems hS rfl ?_);show wpAny _ X.A.in1 (tryCatch (pyNext (.ref s.heap.objs.size)) _ >>= _) _ _ _;refine wpAny_bind (wpAny_tryCatch (wpAny_pyNext_list_item hI ⟨lo,k0 l _ hL,hlo⟩ (x:=ui) (by simpa using hui) fun h1 hI1 sb1=>?_));have I1:=I0.turned (t':=s.toks) (it:=s.heap.objs.size) (h':=h1) (fun a o ha e=>(sb1.2 a ha).trans e) (I.hok.fresh (tQ _)) aI.1 (.inr I.sz) aI.2.1 aI.2.2.1;have hS1:=(sb1.2 (s.heap.objs.size+1) (Ne.symm nIS)).trans hS;show wpAny _ X.A.in1 (updateSeq (s.heap.objs.size+1) (fun _=>#[ui,ui]) >>= _) _ _ _;refine wpAny_bind (wpAny_updateSeq hS1 rfl ?_);rw[hname];refine wpAny_pure ⟨plainId_quiet jXi _,?_⟩;have up:∀a o,a≠s.heap.objs.size+1->h1.get? a=some o->(h1.update (s.heap.objs.size+1) (Obj.mapSeq fun _=>#[ui,ui])).get? a=some o:=fun a o ha e=>(Heap.get?_update_other _ _ (Ne.symm ha)).trans e;have I3:=I1.turned (t':=s.toks) (it:=s.heap.objs.size+1) up (I.hok.fresh (pC _)) aS.1 (.inr (sT I.sz (pC _))) aS.2.1 aS.2.2.1;refine VS (X:=X) (pins:=pins) (σ:=σ) (H:=H) lf hcalm nIS (Ne.symm lI) (Ne.symm lS) (I.hok.fresh (tQ _)) (I.hok.fresh (pC _)) I.sz (sT I.sz (pC _)) (fun b hb=>?_) hlo hlt (items.length-1) 1 _ 0 ui (by omega) (by omega) hui I3 (up l _ lS ((sb1.2 l lI).trans (k0 l _ hL))) ?_ ⟨_,Heap.get?_update_self _ hS1 rfl⟩ fun s' u e I'=>h s' u e I'
  ·rcases hb with rfl|rfl
   ·exact⟨aI.1,aI.2.1,aI.2.2.1⟩
   ·exact⟨aS.1,aS.2.1,aS.2.2.1⟩
  ·obtain⟨o,e,r⟩:=hI1;exact⟨o,up _ o nIS e,r⟩
 have ha:argsOk "min" ⟨[.ref l],[]⟩:=PySem.F.args_min1 _;simp only[checkBuiltinCall,PySem.F.kind_min];cases hsig:Manifest.signature? "min" with
 | none=>exact wpAny_pure body
 | some sig =>
  have ha':Bind.checkArgs "min" sig ⟨[.ref l],[]⟩=pure ():=by simpa only [argsOk,hsig] using ha
  simp only[ha'];exact wpAny_pure body
end
def JV (ds:List D):Option (Nat->Nat->Bool):=if (ds.all fun d=>d.imm&&ds.all fun e=>(ltF 3 d e).isSome)=true then some fun i j=>(match ds[i]?,ds[j]? with
 | some d,some e=>(ltF 3 d e).getD false
 | _,_=>false) else none
def vn:List D->R D
 | [.lst ds]=>(match JV ds with
  | some lf=>(match ds[vU lf (ds.length-1) 1 0]? with
   | some d=>.ok d
   | none=>.bad)
  | none=>.bad)
 | _=>.bad
def z1k:wX vn:=fun xs n h=>by
 unfold vn at h;split at h
 ·split at h
  ·split at h<;>cases h
  ·cases h
 ·cases h
def z08 (K:jJa):List V->Hp->VK->Prop:=fun xs H Q=>∃p vs ds L d,xs=[.ref p]/\H p=some (.lst vs)/\Reps K H ds vs L/\vn [.lst ds]=.ok d/\∀v,Rep K H d v []->Q v H
def VE {X:Cx}(hc:X.calm=true)(hu:X.A.in1.units+3<cLine):CallR X (.builtin "min") (z08 X.K):=by
 intro pins s σ H xs us Q I r h;obtain⟨p,vs,ds,L,d,rfl,hp,rs,hm,q⟩:=h;obtain⟨u,rfl,ru⟩:=vL r;obtain rfl:u=Value.ref p:=ru;obtain⟨its,rv,⟨lo,n,hlo,hcls,_,hdat⟩,_⟩:=I.list (SqL.of hp);unfold vn at hm;dsimp only at hm;have il:its.length=ds.length:=by rw[<-rv.length,rs.length]
 cases hlf:JV ds with
 | none=>rw[hlf]at hm;cases hm
 | some lf =>
  rw[hlf]at hm;dsimp only at hm;cases hbd:ds[vU lf (ds.length-1) 1 0]? with
  | none=>rw[hbd]at hm;cases hm
  | some d' =>
   rw[hbd]at hm;cases hm;unfold JV at hlf;split at hlf
   ·rename_i hall;have hlf:=jYe hlf;have hall:=pJ.mp hall;have hpos:0<its.length:=by
     rw[il];cases ds with
     | nil=>simp at hbd
     | cons _ _=>simp
    refine U1 lf (I.ok.hd hc) I hpos hlo ⟨hcls,n,by simpa using hdat⟩ (fun s' i j u u' I' hu1 hu2=>?_) fun s' u hu' I'=>?_
    ·have hi:i<ds.length:=by rw[<-il];exact (tV.mp hu1).1
     have hj:j<ds.length:=by rw[<-il];exact (tV.mp hu2).1
     obtain⟨v1,L1,g1,r1,_⟩:=rs.get (i:=i) (d:=ds[i]) (by simp[hi]);obtain⟨v2,L2,g2,r2,_⟩:=rs.get (i:=j) (d:=ds[j]) (by simp[hj]);obtain⟨u1,k1,q1⟩:=rv.get g1;obtain⟨u2,k2,q2⟩:=rv.get g2;rw[hu1]at k1;rw[hu2]at k2;cases k1;cases k2;have hs:=(pJ.mp (rV.mp (hall ds[i] (pK hi))).2) ds[j] (pK hj);obtain⟨b,hb⟩:=Option.isSome_iff_exists.mp hs;have:=z37 I' 3 X.A.in1 _ _ v1 v2 L1 L2 u u' b hu hb r1 r2 q1 q2;have e:lf i j=b:=by
      rw[<-hlf];dsimp only;rw[tL hi,tL hj];dsimp only;rw[hb]
      rfl
     rw[e];exact this
    ·rw[il]at hu';obtain⟨v,L1,hv,rep,sub⟩:=rs.get hbd;obtain⟨u',hu2,ru⟩:=rv.get hv;rw[hu']at hu2;cases hu2;have him:=(rV.mp (hall d (pU hbd))).1;have:L1=[]:=Rep.imm _ _ _ rep him;subst this;exact⟨v,H,I',ru,q v rep⟩
   ·cases hlf
def z0F {K:jJa}:ClB K (z08 K) vn:=by
 rintro H xs ds L Q r ⟨d,hg,q⟩;have hg':=hg;unfold vn at hg;split at hg
 ·rename_i es;obtain⟨v,vs',L1,L2,rfl,rfl,r1,⟨rfl,rfl⟩⟩:=r;obtain⟨a,vs,L',rfl,ha,_,rs⟩:=r1;exact⟨a,vs,es,L',d,rfl,ha,rs,hg',fun v rv=>q v H [] (Same.refl H) rv pW (fun a ha=>nomatch ha)⟩
 ·cases hg
def z0d (K:jJa):R2:=fun x y H Q=>∃l b xs zs,x=.ref l/\y=.ref b/\SqL K H l xs/\SqL K H b zs/\xs.length+zs.length<=sizeLine/\∀p,H p=none->Q (.ref p) (upd H p (.lst (xs++zs)))
def Vk {X:Cx}:OpR X (binaryOp .Add) (z0d X.K):=by
 intro pins s σ H x y v u Q I rx ry h;obtain⟨l,b,xs,zs,rfl,rfl,hl,hb,hz,q⟩:=h;cases rx;cases ry;obtain⟨its,r,p1,_⟩:=I.list hl;obtain⟨its2,r2,p2,_⟩:=I.list hb;have l1:=r.length;have l2:=r2.length;obtain⟨⟨cls,dd,data,sl⟩,ho,hc,n,hd⟩:=p1.isList;obtain⟨⟨cls2,dd2,data2,sl2⟩,ho2,hc2,n2,hd2⟩:=p2.isList;simp only at hc hd hc2 hd2;subst hc hd hc2 hd2;have ea:its.toArray++its2.toArray=(its++its2).toArray:=by simp
 refine concat_meets ⟨_,ho,rfl⟩ ⟨_,ho2,rfl⟩ noFill_list_add seq_list_add PySem.F.slot_list_add PySem.F.entry_list_add (PySem.F.args_list_add_2 _ _) (PyProof.Rows.list_addW l b its.toArray its2.toArray n n2 dd dd2 sl sl2 (by rw[sD,sD];omega)) ⟨ho,ho2,?_⟩;rw[ea];exact⟨.ref _,_,I.lnew (t':=s.toks) (r.append r2) (by rw[tT];omega),rfl,q _ I.fresh⟩
def asL:D->Option (List D)
 | .lst xs=>some xs
 | .frl xs=>some xs
 | _=>none
def vZ (x y:D):R D:=match asL x,asL y with
 | some xs,some ys=>if D.imms xs=true/\D.imms ys=true/\xs.length+ys.length<=sizeLine then .ok (.lst (xs++ys)) else .bad
 | _,_=>.bad
def Uu:wG vZ:=fun x y n h=>by
 unfold vZ at h;split at h
 ·split at h<;>cases h
 ·cases h
def Vg {K:jJa}{H:Hp}{d:D}{v:V}{L:List Addr}{xs:List D}(h:asL d=some xs)(hi:D.imms xs=true)(r:Rep K H d v L):∃a vs,v=.ref a/\SqL K H a vs/\Reps K H xs vs []:=by
 cases d with
 | lst ds =>
  cases h;obtain⟨a,vs,L1,rfl,ha,_,rs⟩:=r;exact⟨a,vs,rfl,SqL.of ha,yw rs hi⟩
 | frl ds =>
  cases h;obtain⟨a,vs,rfl,ha,_,_,rs⟩:=r;exact⟨a,vs,rfl,ha.sq,rs⟩
 | _=>cases h
def Qm {K:jJa}:OpB K (z0d K) vZ:=by
 rintro H x y dx dy Lx Ly Q rx ry ⟨d,hg,q⟩;unfold vZ at hg;split at hg
 ·rename_i xs ys h1 h2;split at hg
  ·rename_i hz;cases hg;obtain⟨a,vs,rfl,ha,rs⟩:=Vg h1 hz.1 rx;obtain⟨b,ws,rfl,hb,qs⟩:=Vg h2 hz.2.1 ry;exact⟨a,b,vs,ws,rfl,rfl,ha,hb,by rw[rs.length,qs.length];exact hz.2.2,fun p hp=>uc (ds:=xs++ys) (Reps.append rs qs) hp q⟩
  ·cases hg
 ·cases hg
theorem Reps.split {K:jJa}{H:Hp}{es:List D}:∀ {ds:List D} {vs:List V} {L:List Addr},Reps K H (ds++es) vs L->∃vs1 vs2 L1 L2,vs=vs1++vs2/\L=L1++L2/\Reps K H ds vs1 L1/\Reps K H es vs2 L2
 | [],vs,L,h=>⟨[],vs,[],L,rfl,rfl,Reps.nil,h⟩
 | d::ds,vs,L,h=>by
  obtain⟨w,vs',L1,L2,rfl,rfl,r1,r2⟩:=h;obtain⟨v1,v2,M1,M2,rfl,rfl,q1,q2⟩:=Reps.split (ds:=ds) r2;exact⟨w::v1,v2,L1++M1,M2,rfl,(sP _ _ _).symm,Reps.cons r1 q1,q2⟩
def Zb (i:Nat)(g:Tgt):Tn->R Fl:=fun τ=>match τ[i]? with
 | some (some (.lst ds))=>(match ds.getLast? with
  | some d=>if d.imm=true then (g.asg d (τ.set i (some (.lst ds.dropLast)))).bind fun τ1=>.ok (.nx τ1) else .bad
  | none=>.bad)
 | _=>.bad
section
variable {X:Cx}{E:XK}{Γ Γl:List Cl}{pos:Pos}
def KQ (i:Nat){x:Str}{p0 p1 p2:Pos}{tg:Expr}{g:Tgt}(hg:MG X tg g)(hn:∀i∈g.slots,i<Γ.length)(hN:autoParam (X.N[i]?=some x) au3._auto_1)(h0:autoParam (Γ[i]?=some .own) au3._auto_1)(hv:autoParam (Vis X.env.scope x) au4._auto_1)(hb:autoParam ((x==("__debug__":Str))=false) au1._auto_1)(hcd:autoParam ((x==("__classdict__":Str))=false) au1._auto_1)
  (hbase:autoParam (attributeBase (.Name x p0) "pop" X.env (eval (.Name x p0) X.env)=eval (.Name x p0) X.env) au3._auto_1) (hline:autoParam ((p1.endLine==p2.line)=true) au3._auto_1)
  (hs:autoParam (swapsWithSole [tg] (.Call (.Attribute (.Name x p0) "pop" p1) [] [] p2) pos.line X.env=pure false) au3._auto_1) (hw:autoParam (swappedStores [tg] (.Call (.Attribute (.Name x p0) "pop" p1) [] [] p2) X.env=pure none) au3._auto_1)
  (h1:autoParam ((assignEach [tg] X.env).map (·.2)=[assign tg X.env]) au3._auto_1):
  MS X E Γl Γ (.Assign [tg] (.Call (.Attribute (.Name x p0) "pop" p1) [] [] p2) pos) (Zb i g) (shrAll Γ g.slots):=by
 refine⟨_,ZC (z1F jXp PySem.F.slot_list_pop PySem.F.type_list_pop z1K (uQ (pos:=p0) hN hv hb hcd) hbase hline) hg.pg hs hw h1,fun B σ H τ Z ok h=>?_⟩;obtain⟨v,d,L,e1,e2,r,nd,n2,fin⟩:=ok.slotF h0;unfold Zb at h;rw[e2]at h;cases d with
 | lst ds =>
  dsimp only at h;cases hl:ds.getLast? with
  | none=>rw[hl]at h;exact h.elim
  | some dl =>
   rw[hl]at h;dsimp only at h;split at h
   ·rename_i him;obtain⟨pre,rfl⟩:=List.getLast?_eq_some_iff.mp hl;rw[List.dropLast_concat]at h;obtain⟨a,vs,L',rfl,ha,rfl,rs⟩:=r;obtain⟨vs1,vs2,L1,L2,rfl,rfl,r1,r2⟩:=rs.split;obtain⟨w,vs',L3,L4,rfl,rfl,r3,⟨rfl,rfl⟩⟩:=r2;have z3:L3=[]:=Rep.imm _ _ _ r3 him;subst z3;obtain⟨m1,m2⟩:=sW.mp nd;rw[tY,tY]at m1 m2;have mu:(∃vs,H a=some (.lst vs))\/∃kvs,H a=some (.dK kvs):=.inl ⟨_,ha⟩;refine⟨_,e1,.inl ⟨rfl,_,SqL.of ha⟩,a,_,w,rfl,rfl,ha,by simp,?_⟩;rw[List.dropLast_concat];have ok2:=fin (upd H a (.lst vs1)) (.lst pre) (a::L1) (TF.upd mu) (fun c hc _=>zy fun z=>hc (z▸tU)) ⟨a,vs1,L1,rfl,zu,rfl,r1.upd mu m1⟩ (fun c hc=>.inl (by
     rcases sF.mp hc with z|z
     ·exact z▸tU
     ·exact tW _ (sC _ z))) (sW.mpr ⟨m1,m2⟩)
    have r4:=r3.upd (o:=.lst vs1) mu (fun z=>nomatch z);cases hga:g.asg dl (τ.set i (some (.lst pre)))with
    | ok τ1 =>
     rw[hga,jYa]at h;exact W4 ok2 r4 (fun a ha=>nomatch ha) hn hga fun σ1 ok3=>h σ1 _ ok3
    | err n =>
     cases g with
     | one i=>cases hga
     | many is =>
      unfold Tgt.asg at hga;split at hga
      ·cases hga
      ·split at hga<;>cases hga
      ·cases hga
    | bad=>rw[hga]at h;exact h.elim
   ·exact h.elim
 | _=>exact h.elim
end
def Room.units3 {k:Nat}{A:Around}(r:Room k A):A.units+3<cLine:=by have:=r.un;omega
def kZ (t:Tn->R D):Tn->R (List D):=fun τ=>(t τ).bind fun d=>match d with
 | .frl ds=>.ok ds
 | _=>.bad
theorem ItOk.frl {K:jJa}{H:Hp}{a:Addr}{vs:List V}{ds:List D}(ha:SqF K H a vs)(r:Reps K H ds vs []):ItOk K (Itl K a) ds [] H:=by
 refine⟨fun b hb=>(nomatch hb),fun H' tf kp i=>⟨fun d hd=>?_,fun hl=>?_⟩⟩
 ·have ha':=(ha.tf tf).sq;obtain⟨v,L1,e1,r1,sub⟩:=r.get hd;refine⟨⟨vs,v,ha',e1⟩,fun x H'' ⟨e2,hy⟩=>?_⟩;subst e2;have:=hy vs ha';rw[e1]at this;cases this;exact⟨Same.refl _,L1,Rep.keep tf d _ L1 r1 fun b hb=>kp b (sub.subset hb),fun b hb=>sub.subset hb⟩
 ·exact⟨vs,(ha.tf tf).sq,by rw[r.length];exact hl⟩
section
variable {X:Cx}{E:XK}{Γ:List Cl}{tg e:Expr}{t:Tn->R D}{c:Rc}
def Vr (h:ME X E Γ e t c):MI X E Γ tg e (kZ t) c:=by
 obtain⟨te,p,q⟩:=h;refine⟨Q6 X.K te,WK p,fun O σ H τ Rr ok h=>q O σ H τ _ ok ?_⟩;unfold kZ at h;cases ht:t τ with
 | ok d =>
  rw[ht,jYa]at h;cases d with
  | frl ds =>
   refine fun v H1 L s r k=>?_;obtain⟨a,vs,rfl,ha,rfl,hi,rs⟩:=r;exact⟨a,rfl,⟨vs,ha.sq⟩,h _ H1 [] s (ItOk.frl ha rs) fun n a ha=>(nomatch ha)⟩
  | _=>exact h.elim
 | err n=>rw[ht]at h;exact h
 | bad=>rw[ht]at h;exact h
end
end L2
namespace K24
open PySem PySem.Spec PyProof.Rows L2
def top (i:Nat):Stmt:=PySem.Challenge.pw_quirehand_k24_all_fillings_tried.main.body.getD i (.Pass ⟨0,0,0,0⟩)
def mth (i j:Nat):Stmt:=match top i with
 | .ClassDef _ _ _ b _ _ _ _ _ _ _=>b.getD j (.Pass ⟨0,0,0,0⟩)
 | s=>s
abbrev CF:Addr:=88
abbrev TPa:Addr:=82
abbrev tps:Array Value:=#[rawInt 79,rawInt 29,.str ("Filler.best.<locals>."++Str.ofString "<lambda>") 0]
section
variable {P:Program}{w:World}{K:jJa}{mg:Str->Option Value}{base:Heap}
def X4:Tn->R Fl:=(zj (zo 2 (zd zI (zc 1) (eC (.int 1)))) (zj (yy (yT (zl (zd ltD (zc 2) (eL xh (za (zc 0) zg)))) (zl (zd (eqR false) (zd ixD (zd ixD (zc 0) (zd yB (zc 2) (eC (.int 1)))) (eC (.int 2))) (eC (.str "never"))))) (wD 2 wF (eC (.int 1)))) (zA (zc 2))))
def yX:List D->R D:=zC 3 X4
def sc_first_end:FnScope ["strips","begin","end"] ["strips","begin"] (defScope (top 1)):=by constructor<;>first|rfl|decide +kernel
def ZT (Df:DefIn K mg "first_end" (top 1) ["strips","begin"])(B:Bl mg)(Cf:FilC K CF) :Own P w K mg base "first_end" 1 ["strips","begin"] (spM K yX 2):=
 Df.mir (k:=0) (Γ':=[.shr,.shr,.dead]) sc_first_end (by decide) fun f cdv A outer s H E hr=>(zh (L2.st 2 sc_first_end.nd (zk (zp zD zW zV (mn 1 .shr) zf))) (zh (qc (Γ2:=[.shr,.shr,.own]) PassesOwn.leaving (MW.mt (uK (zN jQ XZ zz (mn 2 .own) (zT yE vH vE (by exact rfl) B.len PySem.boot_len (ze (mn 0 .shr) zm)) (zL _)) (vB (zN (yN hr.u12) vf vd (zE hr.u1 (zE hr.u1 (mn 0 .shr) (zp yP xU zz (mn 2 .own) zf)) zf) xf (zL _))))) (zr (aug 2 .own sc_first_end.nd qx qm vQ zf)) rfl) (zr (zU (mvn 2)))))
def VH:Tn->R Fl:=(zj (zo 7 (zd (eqR false) (zc 3) (eL xh (za (zc 0) zg)))) (zj (zo 8 (zd yB (zc 6) (zd ixD (zc 1) (eC (.str "height"))))) (zj (sIf (yT (zl (zd gtD (zc 8) (eC (.int 0)))) (bOr (zl (zd gtD (zc 3) (eL yX (za (zc 0) (za (zc 2) zg))))) (yT (xy (zl (zc 7))) (zl (zd ltD (zc 5) (zc 4)))))) (zA (eC .non)) zt) (zj (zo 9 (zd xp (zd ixD (zc 1) (eC (.str "late"))) (zc 5))) (zj (sIf (zl (zd gtD (zc 8) (eC (.int 0)))) (wD 9 wF (zd xp (zd ixD (zc 1) (eC (.str "over"))) (zc 8))) zt) (zj (zo 10 (zd ixD (zd ixD (zc 0) (zd yB (zc 3) (eC (.int 1)))) (eC (.int 2)))) (zj (sIf (bOr (zl (zc 7)) (zl (zd (eqR false) (zc 10) (eC (.str "must"))))) (zA (zc 9)) zt) (zj (sIf (zl (zd ltD (zc 8) (eC (.int 0)))) (wD 9 wF (zd xp (zc 8) (zc 8))) zt) (zA (zd zI (zc 9) (zc 10)))))))))))
def xQ:List D->R D:=zC 11 VH
def sc_cost_at:FnScope ["strips","rules","begin","end","own","late","height","last","beyond","price","cut"] ["strips","rules","begin","end","own","late","height"] (defScope (top 2)):=by constructor<;>first|rfl|decide +kernel
def W2 (Df:DefIn K mg "cost_at" (top 2) ["strips","rules","begin","end","own","late","height"])(B:Bl mg)(Cf:FilC K CF)(o0b:Own P w K mg base "first_end" 1 ["strips","begin"] (spM K yX 2)):Own P w K mg base "cost_at" 2 ["strips","rules","begin","end","own","late","height"] (spM K xQ 7):=
 Df.mir (k:=1) (Γ':=[.shr,.shr,.shr,.shr,.shr,.shr,.shr,.dead,.dead,.dead,.dead]) sc_cost_at (by decide) fun f cdv A outer s H E hr=>(zh (L2.st 7 sc_cost_at.nd (zk (Y6 (yN hr.u12) vf vd (mn 3 .shr) (zT yE vH vE (by exact rfl) B.len PySem.boot_len (ze (mn 0 .shr) zm)) (zL _)))) (zh (L2.st 8 sc_cost_at.nd (zk (zp yP xU zz (mn 6 .shr) (zE hr.u1 (mn 1 .shr) xf)))) (zh (xn (MW.mt (uK (zN vT jz zz (mn 8 .own) zf (zL _)) (vB (MW.mt (uG (zN vT jz zz (mn 3 .shr) (zS (o0b.mono (by decide)) hr (by exact rfl) zw (ze (mn 0 .shr) (ze (mn 2 .shr) zm))) (zL _)) (vY (MW.mt (uK (qJ (vi (mn 7 .own))) (vB (zN jQ XZ zz (mn 5 .shr) (mn 4 .shr) (zL _))))))))))) (zr (zU (zk jw))) ya) (zh (L2.st 9 sc_cost_at.nd (zk (zp wc uE uB (zE hr.u1 (mn 1 .shr) xf) (mn 5 .shr)))) (zh (xn (zN vT jz zz (mn 8 .own) zf (zL _)) (zr (aug 9 .own sc_cost_at.nd qx qm vQ (zp wc uE uB (zE hr.u1 (mn 1 .shr) xf) (mn 8 .own)))) ya) (zh (stS 10 sc_cost_at.nd (zE hr.u1 (zE hr.u1 (mn 0 .shr) (zp yP xU zz (mn 3 .shr) zf)) zf)) (zh (xn (MW.mt (uG (vi (mn 7 .own)) (vY (zN (yN hr.u12) vf vd (mn 10 .shr) xf (zL _))))) (zr (zU (mvn 9))) ya) (zh (xn (zN jQ XZ zz (mn 8 .own) zf (zL _)) (zr (aug 9 .own sc_cost_at.nd qx qm vQ (zp wc uE uB (mn 8 .own) (mn 8 .own)))) ya) (zr (zU (zk (zp zD zW zV (mn 9 .own) (mn 10 .shr)))))))))))))
def qV:Tn->R Fl:=(zA (eIf (zl (zd (eqR false) (zc 1) (eL xh (za (zc 0) zg)))) (eC (.int 0)) (yq (zc 2))))
def xt:List D->R D:=zC 3 qV
def ZR:FnScope ["strips","end","own"] ["strips","end","own"] (defScope (top 3)):=by constructor<;>first|rfl|decide +kernel
def ZP (Df:DefIn K mg "most_late" (top 3) ["strips","end","own"])(B:Bl mg)(Cf:FilC K CF) :Own P w K mg base "most_late" 1 ["strips","end","own"] (spM K xt 3):=
 Df.mir (k:=0) (Γ':=[.shr,.shr,.shr]) ZR (by decide) fun f cdv A outer s H E hr=>(zr (zU (zk (Qi (zN (yN hr.u12) vf vd (mn 1 .shr) (zT yE vH vE (by exact rfl) B.len PySem.boot_len (ze (mn 0 .shr) zm)) (zL _)) zf (yS (mn 2 .shr))))))
def Vw:Tn->R Fl:=(zj (zo 1 (eL (fun ds=>.ok (.lst ds)) (za (eC (.int 0)) zg))) (zj (wz (xq (zc 0)) (.one 2) (vI 1 (zd zI (zd ixD (zc 1) (eUn vj (eC (.int 1)))) (zc 2)))) (zA (zc 1))))
def xR:List D->R D:=zC 3 Vw
def sc_sums_of:FnScope ["numbers","sums","number"] ["numbers"] (defScope (top 5)):=by constructor<;>first|rfl|decide +kernel
def Wn (Df:DefIn K mg "sums_of" (top 5) ["numbers"])(B:Bl mg)(Cf:FilC K CF) :Own P w K mg base "sums_of" 1 ["numbers"] (spM K xR 1):=
 Df.mir (k:=0) (Γ':=[.shr,.dead,.dead]) sc_sums_of (by decide) fun f cdv A outer s H E hr=>(zh (L2.st 1 sc_sums_of.nd (zk (yH (ze zf zm)))) (zh (u0 (Γ2:=[.shr,.own,.shr]) PassesOwn.leaving rfl (xZ (mn 0 .shr)) (by decide) (yO (pgn 2 sc_sums_of.nd)) (by decide) (zr (app 1 (zk (zp zD zW zV (zE hr.u1 (mn 1 .own) (vh zf)) (mn 2 .shr))))) rfl) (zr (zU (mvn 1)))))
def kC:Tn->R Fl:=(zj (zo 3 (eL (fun ds=>.ok (.lst ds)) zg)) (zj (zo 4 (eC (.int 0))) (zj (zo 5 (eC (.int 0))) (zj (wz (iL uo (za (zd zI (zc 2) (eC (.int 1))) (za (zd zI (eL xh (za (zc 0) zg)) (eC (.int 1))) zg))) (.one 6) (zj (zo 7 (zd ixD (zc 0) (zd yB (zc 6) (eC (.int 1))))) (zj (wD 4 wF (zd zI (zd ixD (zc 7) (eC (.int 1))) (eIf (zl (zd gtD (zc 6) (zd zI (zc 2) (eC (.int 1))))) (yq (zd ixD (zc 7) (eC (.int 0)))) (eC (.int 0))))) (zj (wD 5 wF (zd ixD (zc 7) (eC (.int 3)))) (sIf (zl (zd (eqR true) (zd ixD (zc 7) (eC (.int 2))) (eC (.str "never")))) (zj (vI 3 (yq (eL (fun ds=>.ok (.tup ds)) (za (zc 6) (za (zc 4) (za (zc 5) zg)))))) (sIf (bOr (zl (zd (eqR false) (zd ixD (zc 7) (eC (.int 2))) (eC (.str "must")))) (zl (zd gtD (zc 4) (zd ixD (zc 1) (eC (.str "height")))))) (fun τ=>.ok (.bk τ)) zt)) zt))))) (zA (zc 3))))))
def y3:List D->R D:=zC 8 kC
def sc_bodies_from:FnScope ["strips","rules","begin","bodies","body","own","end","strip"] ["strips","rules","begin"] (defScope (top 6)):=by constructor<;>first|rfl|decide +kernel
def jy (Df:DefIn K mg "bodies_from" (top 6) ["strips","rules","begin"])(B:Bl mg)(Cf:FilC K CF) :Own P w K mg base "bodies_from" 1 ["strips","rules","begin"] (spM K y3 3):=
 Df.mir (k:=0) (Γ':=[.shr,.shr,.shr,.dead,.dead,.dead,.dead,.dead]) sc_bodies_from (by decide) fun f cdv A outer s H E hr=>(zh (L2.st 3 sc_bodies_from.nd (zk (yH zm))) (zh (L2.st 4 sc_bodies_from.nd (zk zf)) (zh (L2.st 5 sc_bodies_from.nd (zk zf)) (zh (u0 (Γ2:=[.shr,.shr,.shr,.own,.own,.own,.shr,.shr]) PassesOwn.leaving rfl (qL rfl B.range (ze (zp zD zW zV (mn 2 .shr) zf) (ze (zp zD zW zV (zT yE vH vE (by exact rfl) B.len PySem.boot_len (ze (mn 0 .shr) zm)) zf) zm))) (by decide) (yO (pgn 6 sc_bodies_from.nd)) (by decide) (zh (stS 7 sc_bodies_from.nd (zE hr.u1 (mn 0 .shr) (zp yP xU zz (mn 6 .shr) zf))) (zh (aug 4 .own sc_bodies_from.nd qx qm vQ (zp zD zW zV (zE hr.u1 (mn 7 .shr) zf) (Qi (zN vT jz zz (mn 6 .shr) (zp zD zW zV (mn 2 .shr) zf) (zL _)) (yS (zE hr.u1 (mn 7 .shr) zf)) zf))) (zh (aug 5 .own sc_bodies_from.nd qx qm vQ (zE hr.u1 (mn 7 .shr) zf)) (zr (xn (zN (we hr.u12) vf vd (zE hr.u1 (mn 7 .shr) zf) xf (zL _)) (zh (app 3 (zk (yS (xV (ze (mn 6 .shr) (ze (mn 4 .own) (ze (mn 5 .own) zm))))))) (zr (xn (MW.mt (uG (zN (yN hr.u12) vf vd (zE hr.u1 (mn 7 .shr) zf) xf (zL _)) (vY (zN vT jz zz (mn 4 .own) (zE hr.u1 (mn 1 .shr) xf) (zL _))))) (zr (Xv rfl)) ya))) ya))))) rfl) (zr (zU (mvn 3)))))))
def vm:Tn->R Fl:=(zj (sIf (zl (zd (eqR false) (zc 1) (zc 2))) (zA (eC (.int 0))) zt) (zA (zd yB (zd zI (eC (.int 1)) (zd ixD (eUn (yQ CF "feet") (zc 0)) (zc 2))) (zd ixD (eUn (yQ CF "feet") (zc 0)) (zc 1)))))
def zJ:List D->R D:=zC 3 vm
def kc:FnScope ["self","first","beyond"] ["self","first","beyond"] (defScope (mth 7 1)):=by constructor<;>first|rfl|decide +kernel
def kg {cv:Value}  (Mi:MethIn K CF "foot" "Filler.foot" (mth 7 1) ["self","first","beyond"] cv) (B:Bl mg) (Cf:FilC K CF) :OwnM P w K mg base CF "foot" 1 ["self","first","beyond"] (spM K zJ 3):=
 Mi.mir (k:=0) (Γ':=[.shr,.shr,.shr]) kc (by decide) fun f A outer s H E hr=>(zh (xn (zN (yN hr.u12) vf vd (mn 1 .shr) (mn 2 .shr) (zL _)) (zr (zU (zk zf))) ya) (zr (zU (zk (zp yP xU zz (zp zD zW zV zf (zE hr.u1 (wB Cf.cl (Cf.no _ (by simp[xP])) (mn 0 .shr)) (mn 2 .shr))) (zE hr.u1 (wB Cf.cl (Cf.no _ (by simp[xP])) (mn 0 .shr)) (mn 1 .shr)))))))
def YV:Tn->R Fl:=(zj (zo 11 (zd zI (zc 8) (yR CF "foot" zJ (zc 0) (za (zd yB (zc 5) (zc 3)) (za (zd yB (zd zI (zc 5) (zc 9)) (zc 10)) zg))))) (zj (zo 12 (eL xQ (za (eUn (yQ CF "strips") (zc 0)) (za (eUn (yQ CF "rules") (zc 0)) (za (zc 1) (za (zc 7) (za (zc 9) (za (zc 10) (za (zc 11) zg))))))))) (sIf (zl (zd (isN true) (zc 12) (eC .non))) (vI 4 (yq (eL (fun ds=>.ok (.tup ds)) (za (zc 7) (za (zc 10) (za (zd zI (zc 12) (zd ixD (zd ixD (eUn (yQ CF "found") (zc 0)) (zc 7)) (zc 10))) zg)))))) zt)))
def qf:Tn->R Fl:=(wz (iL wJ (za (zd zI (eL xt (za (eUn (yQ CF "strips") (zc 0)) (za (zc 7) (za (zc 9) zg)))) (eC (.int 1))) zg)) (.one 10) YV)
def kI:Tn->R Fl:=(zj (zo 4 (eL (fun ds=>.ok (.lst ds)) zg)) (zj (zo 5 (zd ixD (eUn (yQ CF "marks") (zc 0)) (zc 1))) (zj (zo 6 (yR CF "foot" zJ (zc 0) (za (zd yB (zc 5) (zc 3)) (za (zc 5) zg)))) (zj (wz (xq (zc 2)) (.many [7,8,9]) (zj (sIf (yT (zl (zd gtD (eL xh (za (zc 4) zg)) (eC (.int 0)))) (zl (zd gtD (zd zI (zc 8) (zc 6)) (zd ixD (eUn (yQ CF "rules") (zc 0)) (eC (.str "height")))))) (fun τ=>.ok (.bk τ)) zt) qf)) (zA (zc 4))))))
def zG:List D->R D:=zC 13 kI
def sc_Filler_ways:FnScope ["self","begin","bodies","ahead","told","before","least","end","body","own","late","height","price"] ["self","begin","bodies","ahead"] (defScope (mth 7 2)):=by constructor<;>first|rfl|decide +kernel
def jW {cv:Value}  (Mi:MethIn K CF "ways" "Filler.ways" (mth 7 2) ["self","begin","bodies","ahead"] cv) (B:Bl mg) (Cf:FilC K CF) (ol:OwnM P w K mg base CF "foot" 1 ["self","first","beyond"] (spM K zJ 3)) (o0h:Own P w K mg base "cost_at" 2 ["strips","rules","begin","end","own","late","height"] (spM K xQ 7)) (o0c:Own P w K mg base "most_late" 1 ["strips","end","own"] (spM K xt 3)):OwnM P w K mg base CF "ways" 3 ["self","begin","bodies","ahead"] (spM K zG 4):=
 Mi.mir (k:=2) (Γ':=[.shr,.shr,.shr,.shr,.dead,.dead,.dead,.dead,.dead,.dead,.dead,.dead,.dead]) sc_Filler_ways (by decide) fun f A outer s H E hr=>(zh (L2.st 4 sc_Filler_ways.nd (zk (yH zm))) (zh (stS 5 sc_Filler_ways.nd (zE hr.u1 (wB Cf.cl (Cf.no _ (by simp[xP])) (mn 0 .shr)) (mn 1 .shr))) (zh (L2.st 6 sc_Filler_ways.nd (zk (qj (ol.mono (by decide)) Cf.cl hr zw (mn 0 .shr) (ze (zp yP xU zz (mn 5 .shr) (mn 3 .shr)) (ze (mn 5 .shr) zm))))) (zh (u0 (Γ2:=[.shr,.shr,.shr,.shr,.own,.shr,.own,.shr,.shr,.shr,.dead,.dead,.dead]) PassesOwn.leaving rfl (xZ (mn 2 .shr)) (by decide) (vC rfl (yA (pgn 7 sc_Filler_ways.nd) (yA (pgn 8 sc_Filler_ways.nd) (yA (pgn 9 sc_Filler_ways.nd) vv)))) (by decide) (zh (xn (MW.mt (uK (zN vT jz zz (zT yE vH vE (by exact rfl) B.len PySem.boot_len (ze (mn 4 .own) zm)) zf (zL _)) (vB (zN vT jz zz (zp zD zW zV (mn 8 .shr) (mn 6 .own)) (zE hr.u1 (wB Cf.cl (Cf.no _ (by simp[xP])) (mn 0 .shr)) xf) (zL _))))) (zr (Xv rfl)) ya) (zr (u0 (Γ2:=[.shr,.shr,.shr,.shr,.own,.shr,.own,.shr,.shr,.shr,.shr,.own,.own]) PassesOwn.leaving rfl (vt rfl B.range (ze (zp zD zW zV (zS (o0c.mono (by decide)) hr (by exact rfl) zw (ze (wB Cf.cl (Cf.no _ (by simp[xP])) (mn 0 .shr)) (ze (mn 7 .shr) (ze (mn 9 .shr) zm)))) zf) zm)) (by decide) (yO (pgn 10 sc_Filler_ways.nd)) (by decide) (zh (L2.st 11 sc_Filler_ways.nd (zk (zp zD zW zV (mn 8 .shr) (qj (ol.mono (by decide)) Cf.cl hr zw (mn 0 .shr) (ze (zp yP xU zz (mn 5 .shr) (mn 3 .shr)) (ze (zp yP xU zz (zp zD zW zV (mn 5 .shr) (mn 9 .shr)) (mn 10 .shr)) zm)))))) (zh (L2.st 12 sc_Filler_ways.nd (zk (zS (o0h.mono (by decide)) hr (by exact rfl) zw (ze (wB Cf.cl (Cf.no _ (by simp[xP])) (mn 0 .shr)) (ze (wB Cf.cl (Cf.no _ (by simp[xP])) (mn 0 .shr)) (ze (mn 1 .shr) (ze (mn 7 .shr) (ze (mn 9 .shr) (ze (mn 10 .shr) (ze (mn 11 .own) zm)))))))))) (zr (xn (zN WG Qx z0a (mn 12 .own) jw (zL _)) (zr (app 4 (zk (yS (xV (ze (mn 7 .shr) (ze (mn 10 .shr) (ze (zp zD zW zV (mn 12 .own) (zE hr.u1 (zE hr.u1 (wB Cf.cl (Cf.no _ (by simp[xP])) (mn 0 .shr)) (mn 7 .shr)) (mn 10 .shr))) zm)))))))) ya)))) rfl))) rfl) (zr (zU (mvn 4)))))))
def jR:Tn->R Fl:=(zA (eL qk (za (yg [none] (xq (yR CF "ways" zG (zc 0) (za (zc 1) (za (zc 2) (za (zc 3) zg))))) (.one 0) (fun _=>.ok true) (zd ixD (zc 0) (eC (.int 2)))) zg)))
def zO:List D->R D:=zC 4 jR
def sc_Filler_price:FnScope ["self","begin","bodies","ahead"] ["self","begin","bodies","ahead"] (defScope (mth 7 3)):=by constructor<;>first|rfl|decide +kernel
def j9 {cv:Value}  (Mi:MethIn K CF "price" "Filler.price" (mth 7 3) ["self","begin","bodies","ahead"] cv) (B:Bl mg) (Cf:FilC K CF) (oh:OwnM P w K mg base CF "ways" 3 ["self","begin","bodies","ahead"] (spM K zG 4)):OwnM P w K mg base CF "price" 4 ["self","begin","bodies","ahead"] (spM K zO 4):=
 Mi.mir (k:=3) (Γ':=[.shr,.shr,.shr,.shr]) sc_Filler_price (by decide) fun f A outer s H E hr=>(zr (zU (zk (zT (VW (by exact rfl)) z28 z1N (by exact rfl) B.min PyProof.Rows.boot_min (ze (w8 (N':=["way"]) (fr:=[none]) rfl (xK sc_Filler_price.nofree (by decide +kernel)) (xZ (qj (oh.mono (by decide)) Cf.cl hr zw (mn 0 .shr) (ze (mn 1 .shr) (ze (mn 2 .shr) (ze (mn 3 .shr) zm))))) (fun _ _ _ _=>(yO (pgn 0 (show List.Nodup (["way"]:List Str) from by decide +kernel)))) (fun _ _ _ _=>xA) (fun _ _ _ _=>(zE hr.u1 (mn 0 .shr) zf)) (by decide) (by decide)) zm)))))
def ky:Tn->R Fl:=(zj (zo 3 (yR CF "ways" zG (zc 0) (za (zc 1) (za (eL y3 (za (eUn (yQ CF "strips") (zc 0)) (za (eUn (yQ CF "rules") (zc 0)) (za (zc 1) zg)))) (za (zc 2) zg))))) (zj (zo 4 (yg [none,some 2,some 1,some 0] (xq (zc 3)) (.one 0) (zl (zd (eqR false) (zd ixD (zc 0) (eC (.int 2))) (zd ixD (zd ixD (eUn (yQ CF "found") (zc 3)) (zc 2)) (zc 1)))) (yq (zc 0)))) (zA (yq (eUn (vG (eL (fun ds=>.ok (.tup ds)) (za (yq (zd ixD (zc 0) (eC (.int 0)))) (za (eUn vj (zd ixD (zc 0) (eC (.int 1)))) zg)))) (zc 4))))))
def y2:List D->R D:=zC 5 ky
def sc_Filler_best:FnScope ["self","begin","ahead","ways","good"] ["self","begin","ahead"] (defScope (mth 7 4)):=by constructor<;>first|rfl|decide +kernel
def jN  {cB:Addr} (Mi:MethIn K CF "best" "Filler.best" (mth 7 4) ["self","begin","ahead"] (.ref cB)) (hCH:jJo base cB TPa) (hBA:base.BuiltinsAt mg TPa) (hMG:mainGlobals≠TPa) (B:Bl mg) (Cf:FilC K CF) (oh:OwnM P w K mg base CF "ways" 3 ["self","begin","bodies","ahead"] (spM K zG 4)) (oj:Own P w K mg base "bodies_from" 1 ["strips","rules","begin"] (spM K y3 3)):OwnM P w K mg base CF "best" 4 ["self","begin","ahead"] (spT TPa tps (spM K y2 3)):=
 Mi.mirT (k:=3) (Γ':=[.shr,.shr,.shr,.dead,.dead]) sc_Filler_best (by decide) fun f A outer s H E hT hr=>(zh (L2.st 3 sc_Filler_best.nd (zk (qj (oh.mono (by decide)) Cf.cl hr zw (mn 0 .shr) (ze (mn 1 .shr) (ze (zS (oj.mono (by decide)) hr (by exact rfl) zw (ze (wB Cf.cl (Cf.no _ (by simp[xP])) (mn 0 .shr)) (ze (wB Cf.cl (Cf.no _ (by simp[xP])) (mn 0 .shr)) (ze (mn 1 .shr) zm)))) (ze (mn 2 .shr) zm)))))) (zh (stC 4 (N':=["way","ahead","begin","self"]) (fr:=[none,some 2,some 1,some 0]) sc_Filler_best.nd rfl (xK sc_Filler_best.nofree (by decide +kernel)) (xZ (mn 3 .own)) (fun _ _ _ _=>(yO (pgn 0 (show List.Nodup (["way","ahead","begin","self"]:List Str) from by decide +kernel)))) (fun _ _ _ _=>(Vj (zN (yN hr.u12) vf vd (zE hr.u1 (mn 0 .brw) zf) (zE hr.u1 (zE hr.u1 (wB Cf.cl (Cf.no _ (by simp[xP])) (mn 3 .shr)) (mn 2 .shr)) (mn 1 .shr)) (zL _)))) (fun _ _ _ _=>(yS (mn 0 .brw))) (by decide)) (zr (zU (zk (yS (Jw (by exact rfl) (by exact rfl) B.max (mn 4 .own) ⟨hT,rfl,rfl,⟨_,rfl⟩,⟨_,rfl,hCH⟩,hBA,hMG⟩ rfl rfl hr ⟨rfl,rfl,rfl,by decide +kernel,rfl,by decide +kernel,by decide +kernel⟩ (fun _ _ _ _ _ _=>.of_eq rfl) (fun _ _ _ _=>(xV (ze (yS (zE (hr.in1.deeper _).u1 (mn 0 .shr) zf)) (ze (vh (zE (hr.in1.deeper _).u1 (mn 0 .shr) zf)) zm)))))))))))
def Kt:Tn->R D:=(eL xR (za (zc 2) zg))
def JR:Tn->R D:=(eL xR (za (yg [none] (xq (zc 1)) (.one 0) (fun _=>.ok true) (zd ixD (zc 0) (eC (.int 3)))) zg))
def Jp:Tn->R D:=(zd zI (eL xh (za (zc 1) zg)) (eC (.int 1)))
def Qv:Tn->R D:=(eL y3 (za (zc 1) (za (zc 3) (za (zc 4) zg))))
def Xb:Tn->R D:=(yg [none,some 4,some 5,some 0] (iL wJ (za (zd zI (zd ixD (eUn (yQ CF "marks") (zc 0)) (zc 4)) (eC (.int 1))) zg)) (.one 0) (fun _=>.ok true) (yR CF "price" zO (zc 3) (za (zc 1) (za (zc 2) (za (zc 0) zg)))))
def Kg:Tn->R (List D):=(za (zd yB (eL xh (za (zc 1) zg)) (eC (.int 1))) (za (eUn vj (eC (.int 1))) (za (eUn vj (eC (.int 1))) zg)))
def yu:List D->R (List D):=VQ CF Kt JR Jp Kg Qv Xb
def sc_Filler___init__:FnScope ["self","strips","heights","rules","begin","bodies"] ["self","strips","heights","rules"] (defScope (mth 7 0)):=by constructor<;>first|rfl|decide +kernel
def uN {cv:Value}(Mi:InitIn K mg CF "Filler" "Filler.__init__" (mth 7 0) ["self","strips","heights","rules"] cv)(B:Bl mg)(Cf:FilC K CF)(o0a:Own P w K mg base "sums_of" 1 ["numbers"] (spM K xR 1))(oj:Own P w K mg base "bodies_from" 1 ["strips","rules","begin"] (spM K y3 3))(on:OwnM P w K mg base CF "price" 4 ["self","begin","bodies","ahead"] (spM K zO 4)):OwnI P w K mg base "Filler" CF 5 ["self","strips","heights","rules"] (spI K CF yu):=
 Mi.mir (k:=4) sc_Filler___init__ Cf fun f A outer s H E hr=>by
  obtain⟨_,ta,pa,qa⟩:=(show MA (wu (cxx P w) P w K mg base ["self","strips","heights","rules","begin","bodies"] "Filler.__init__" (defScope (mth 7 0)) f cv A outer s H E) E Γi1 _ Kg .fresh from (ze (zp yP xU zz (zT yE vH vE (by exact rfl) B.len PySem.boot_len (ze (mn 1 .shr) zm)) zf) (ze (vh zf) (ze (vh zf) zm))))
  refine⟨ta,qa,wW (jD (pv 0) (pv 1) rfl) (wW (jD (pv 0) (pv 3) rfl) (wW (jD (pv 0) (ME.pe (show ME _ E Γi1 _ Kt .fresh from (zS (o0a.mono (by decide)) hr (by exact rfl) zw (ze (mn 2 .shr) zm)))) rfl) (wW (jD (pv 0) (ME.pe (show ME _ E Γi1 _ JR .fresh from (zS (o0a.mono (by decide)) hr (by exact rfl) zw (ze (w8 (N':=["strip"]) (fr:=[none]) rfl (xK sc_Filler___init__.nofree (by decide +kernel)) (xZ (mn 1 .shr)) (fun _ _ _ _=>(yO (pgn 0 (show List.Nodup (["strip"]:List Str) from by decide +kernel)))) (fun _ _ _ _=>xA) (fun _ _ _ _=>(zE hr.u1 (mn 0 .shr) zf)) (by decide) (by decide)) zm)))) rfl) (wW (jD (pv 0) (z0u Q9 (XC (wI (XC (wI QK vV)) vV)) (ME.pe (show ME _ E Γi1 _ Jp .fresh from (zp zD zW zV (zT yE vH vE (by exact rfl) B.len PySem.boot_len (ze (mn 1 .shr) zm)) zf)))) rfl) (ZX (Qs PassesOwn.leaving rfl (VX rfl B.range pa) (pgn 4 sc_Filler___init__.nd) (wW (XI sc_Filler___init__.nd rfl (by first|exact Or.inl rfl|exact Or.inr rfl) (ME.pe (show ME _ E Γi2 _ Qv .fresh from (zS (oj.mono (by decide)) hr (by exact rfl) zw (ze (mn 1 .shr) (ze (mn 3 .shr) (ze (mn 4 .shr) zm))))))) (ZX (ZC (ME.pe (show ME _ E Γi3 _ Xb .fresh from (w8 (N':=["ahead","begin","bodies","self"]) (fr:=[none,some 4,some 5,some 0]) rfl (xK sc_Filler___init__.nofree (by decide +kernel)) (vt rfl B.range (ze (zp zD zW zV (zE hr.u1 (wB Cf.cl (Cf.no _ (by simp[xP])) (mn 0 .shr)) (mn 4 .shr)) zf) zm)) (fun _ _ _ _=>(yO (pgn 0 (show List.Nodup (["ahead","begin","bodies","self"]:List Str) from by decide +kernel)))) (fun _ _ _ _=>xA) (fun _ _ _ _=>(qj (on.mono (by decide)) Cf.cl hr ug (mn 3 .shr) (ze (mn 1 .shr) (ze (mn 2 .shr) (ze (mn 0 .shr) zm))))) (by decide) (by decide)))) (UB (Wm (pv 0) rfl) (pv 4) YU))))))))))⟩
def uF:Tn->R Fl:=(zA (eL (ko yu) (za (zc 0) (za (zc 1) (za (zc 2) zg)))))
def yJ:List D->R D:=zC 3 uF
def jU:FnScope ["strips","heights","rules"] ["strips","heights","rules"] (defScope (top 8)):=by constructor<;>first|rfl|decide +kernel
def jV (Df:DefIn K mg "leaf_prices" (top 8) ["strips","heights","rules"])(B:Bl mg)(Cf:FilC K CF)(og:OwnI P w K mg base "Filler" CF 5 ["self","strips","heights","rules"] (spI K CF yu)):Own P w K mg base "leaf_prices" 7 ["strips","heights","rules"] (spM K yJ 3):=
 Df.mir (k:=6) (Γ':=[.shr,.shr,.shr]) jU (by decide) fun f cdv A outer s H E hr=>(zr (zU (zk (z0P (og.mono (by decide)) Cf.cl (Cf.no _ (by simp[xP])) hr (by exact rfl) zw (ze (mn 0 .shr) (ze (mn 1 .shr) (ze (mn 2 .shr) zm)))))))
def Qj:Tn->R Fl:=(zj (zo 3 (eL (mkD CF yu) (za (zc 0) (za (zc 1) (za (zc 2) zg))))) (zj (zo 4 (eL (fun ds=>.ok (.lst ds)) zg)) (zj (zo 5 (eC (.int 0))) (zj (zo 6 (eC (.int 0))) (zj (yy (zl (zd ltD (zc 5) (eL xh (za (zc 0) zg)))) (zj (zo 7 (yR CF "best" y2 (zc 3) (za (zc 5) (za (zc 6) zg)))) (zj (zo 5 (yq (zd ixD (zc 7) (eC (.int 0))))) (zj (zo 6 (yq (zd ixD (zc 7) (eC (.int 1))))) (vI 4 (yq (eL (fun ds=>.ok (.tup ds)) (za (zc 5) (za (zc 6) zg))))))))) (zA (zc 4)))))))
def wQ:List D->R D:=zC 8 Qj
def sc_filled:FnScope ["strips","heights","rules","filler","leaves","begin","ahead","way"] ["strips","heights","rules"] (defScope (top 9)):=by constructor<;>first|rfl|decide +kernel
def U2 (Df:DefIn K mg "filled" (top 9) ["strips","heights","rules"])(B:Bl mg)(Cf:FilC K CF)(og:OwnI P w K mg base "Filler" CF 5 ["self","strips","heights","rules"] (spI K CF yu))(oo:OwnM P w K mg base CF "best" 4 ["self","begin","ahead"] (spT TPa tps (spM K y2 3))):Own P w K mg base "filled" 7 ["strips","heights","rules"] (spT TPa tps (spM K wQ 3)):=
 Df.mirB (k:=6) (Γ':=[.shr,.shr,.shr,.dead,.dead,.dead,.dead,.dead]) sc_filled (by decide) fun f cdv A outer s H E hT hr=>(zh (stS 3 sc_filled.nd (z3s (og.mono (by decide)) hr (by exact rfl) zw (ze (mn 0 .shr) (ze (mn 1 .shr) (ze (mn 2 .shr) zm))) (by decide))) (zh (L2.st 4 sc_filled.nd (zk (yH zm))) (zh (L2.st 5 sc_filled.nd (zk zf)) (zh (L2.st 6 sc_filled.nd (zk zf)) (zh (qc (Γ2:=[.shr,.shr,.shr,.shr,.own,.own,.own,.own]) PassesOwn.leaving (zN jQ XZ zz (mn 5 .own) (zT yE vH vE (by exact rfl) B.len PySem.boot_len (ze (mn 0 .shr) zm)) (zL _)) (zh (L2.st 7 sc_filled.nd (zk (Qr (oo.mono (by decide)) hT Cf.cl hr zw (mn 3 .shr) (ze (mn 5 .own) (ze (mn 6 .own) zm))))) (zh (L2.st 5 sc_filled.nd (zk (yS (zE hr.u1 (mn 7 .own) zf)))) (zh (L2.st 6 sc_filled.nd (zk (yS (zE hr.u1 (mn 7 .own) zf)))) (zr (app 4 (zk (yS (xV (ze (mn 5 .own) (ze (mn 6 .own) zm)))))))))) rfl) (zr (zU (mvn 4))))))))
def vO:Tn->R Fl:=(zj (sIf (zl (zd ltD (zc 1) (eL xh (za (zc 0) zg)))) (zA (yq (zd ixD (zc 0) (zc 1)))) zt) (zA (eC (.int 0))))
def xS:List D->R D:=zC 2 vO
def Y7:FnScope ["_law_script","_law_k"] ["_law_script","_law_k"] (defScope (top 11)):=by constructor<;>first|rfl|decide +kernel
def ZW (Df:DefIn K mg "_law_cell" (top 11) ["_law_script","_law_k"])(B:Bl mg)(Cf:FilC K CF) :Own P w K mg base "_law_cell" 1 ["_law_script","_law_k"] (spM K xS 2):=
 Df.mir (k:=0) (Γ':=[.shr,.shr]) Y7 (by decide) fun f cdv A outer s H E hr=>(zh (xn (zN jQ XZ zz (mn 1 .shr) (zT yE vH vE (by exact rfl) B.len PySem.boot_len (ze (mn 0 .shr) zm)) (zL _)) (zr (zU (zk (yS (zE hr.u1 (mn 0 .shr) (mn 1 .shr)))))) ya) (zr (zU (zk zf))))
def qp:Tn->R Fl:=(zA (zd yf (zd zI (zd xp (zd zI (eL xS (za (zc 0) (za (zc 1) zg))) (zd xp (zd xp (eC (.int 7919)) (zc 1)) (zc 1))) (eC (.int 48271))) (eC (.int 12345))) (eC (.int 2147483647))))
def zB:List D->R D:=zC 2 qp
def kJ:FnScope ["_law_script","_law_k"] ["_law_script","_law_k"] (defScope (top 12)):=by constructor<;>first|rfl|decide +kernel
def kE (Df:DefIn K mg "_law_mixed" (top 12) ["_law_script","_law_k"])(B:Bl mg)(Cf:FilC K CF)(o0d:Own P w K mg base "_law_cell" 1 ["_law_script","_law_k"] (spM K xS 2)):Own P w K mg base "_law_mixed" 2 ["_law_script","_law_k"] (spM K zB 2):=
 Df.mir (k:=1) (Γ':=[.shr,.shr]) kJ (by decide) fun f cdv A outer s H E hr=>(zr (zU (zk (zp yl yW zz (zp zD zW zV (zp wc uE uB (zp zD zW zV (zS (o0d.mono (by decide)) hr (by exact rfl) zw (ze (mn 0 .shr) (ze (mn 1 .shr) zm))) (zp wc uE uB (zp wc uE uB zf (mn 1 .shr)) (mn 1 .shr))) zf) zf) zf))))
def uV:Tn->R Fl:=(zA (We (eUn (YN "int") (zc 0)) (z1r (eUn (YN "bool") (zc 0)))))
def xD:List D->R D:=zC 1 uV
def kK:FnScope ["_law_found"] ["_law_found"] (defScope (top 13)):=by constructor<;>first|rfl|decide +kernel
def kz (Df:DefIn K mg "_law_whole" (top 13) ["_law_found"])(B:Bl mg)(Cf:FilC K CF) :Own P w K mg base "_law_whole" 1 ["_law_found"] (spM K xD 1):=
 Df.mir (k:=0) (Γ':=[.shr]) kK (by decide) fun f cdv A outer s H E hr=>(zr (zU (zk (Ut (XS (T:="int") (by decide) rfl B.isinstance (Zs (v:=.ty "int") rfl B.int Boot.«int» rfl) (mn 0 .shr)) (J5 (z1R (XS (T:="bool") (by decide) rfl B.isinstance (Zs (v:=.ty "bool") rfl B.bool Boot.«bool» rfl) (mn 0 .shr))))))))
def ve:Tn->R Fl:=(zj (sIf (zl (zd (eqR false) (zd yf (zd yx (zc 0) (eC (.int 5))) (eC (.int 17))) (eC (.int 4)))) (zA (zd zI (eC (.int 1)) (zd yf (zd yx (zc 0) (eC (.int 85))) (eC (.int 30))))) zt) (zA (zd zI (eC (.int 1)) (zd yf (zc 0) (eC (.int 3))))))
def yi:List D->R D:=zC 1 ve
def jr:FnScope ["_law_cell_here"] ["_law_cell_here"] (defScope (top 14)):=by constructor<;>first|rfl|decide +kernel
def jo (Df:DefIn K mg "_law_height" (top 14) ["_law_cell_here"])(B:Bl mg)(Cf:FilC K CF) :Own P w K mg base "_law_height" 1 ["_law_cell_here"] (spM K yi 1):=
 Df.mir (k:=0) (Γ':=[.shr]) jr (by decide) fun f cdv A outer s H E hr=>(zh (xn (zN (yN hr.u12) vf vd (zp yl yW zz (zp yZ xO zz (mn 0 .shr) zf) zf) zf (zL _)) (zr (zU (zk (zp zD zW zV zf (zp yl yW zz (zp yZ xO zz (mn 0 .shr) zf) zf))))) ya) (zr (zU (zk (zp zD zW zV zf (zp yl yW zz (mn 0 .shr) zf))))))
def kL:Tn->R Fl:=(zj (zo 2 (eL (fun ds=>.ok (.lst ds)) zg)) (zj (wz (iL wJ (za (zc 1) zg)) (.one 3) (zj (zo 4 (eL zB (za (zc 0) (za (zd zI (eC (.int 6)) (zc 3)) zg)))) (zj (zo 5 (zd ixD (eL (fun ds=>.ok (.lst ds)) (za (eC (.int 0)) (za (eC (.int 0)) (za (eC (.int 0)) (za (eC (.int 1)) (za (eC (.int 2)) (za (eC (.int 5)) zg))))))) (zd yf (zc 4) (eC (.int 6))))) (zj (zo 6 (zd ixD (eL (fun ds=>.ok (.lst ds)) (za (eC (.int 1)) (za (eC (.int 1)) (za (eC (.int 1)) (za (eC (.int 1)) (za (eC (.int 2)) (za (eC (.int 3)) (za (eC (.int 1)) (za (eC (.int 2)) zg))))))))) (zd yf (zd yx (zc 4) (eC (.int 6))) (eC (.int 8))))) (zj (sIf (zl (zd (eqR false) (zd yf (zd yx (zc 4) (eC (.int 48))) (eC (.int 23))) (eC (.int 7)))) (zo 6 (zd zI (eC (.int 1)) (zd yf (zd yx (zc 4) (eC (.int 1104))) (eC (.int 40))))) zt) (zj (zo 7 (zd ixD (eL (fun ds=>.ok (.lst ds)) (za (eC (.int 0)) (za (eC (.int 0)) (za (eC (.int 0)) (za (zd yf (zd yx (zc 4) (eC (.int 480))) (eC (.int 9))) (za (zd yf (zd yx (zc 4) (eC (.int 480))) (eC (.int 100001))) (za (eC (.str "never")) (za (eC (.str "never")) (za (eC (.str "must")) (za (eC (.int 0)) zg)))))))))) (zd yf (zd yx (zc 4) (eC (.int 3600))) (eC (.int 9))))) (vI 2 (yq (eL (fun ds=>.ok (.tup ds)) (za (zc 5) (za (zc 6) (za (zc 7) (za (zd ixD (eL (fun ds=>.ok (.lst ds)) (za (eC (.int 0)) (za (eC (.int 0)) (za (eC (.int 0)) (za (eC (.int 1)) (za (eC (.int 0)) (za (eC (.int 1)) (za (eC (.int 2)) (za (eC (.int 0)) (za (eC (.int 3)) zg)))))))))) (zd yf (zd yx (zc 4) (eC (.int 32400))) (eC (.int 9)))) zg))))))))))))) (zj (sIf (zl (zd gtD (zc 1) (eC (.int 0)))) (Ua 2 (zd zI (zd zI (eSl (zd ixD (zc 2) (eUn vj (eC (.int 1)))) wj (zX (eC (.int 2)))) (eL (fun ds=>.ok (.tup ds)) (za (eC (.int 0)) zg))) (eSl (zd ixD (zc 2) (eUn vj (eC (.int 1)))) (zX (eC (.int 3))) wj)) (eUn vj (eC (.int 1)))) zt) (zj (zo 8 (eL vJ (za (yg [none] (xq (zc 2)) (.one 0) (fun _=>.ok true) (yq (zd ixD (zc 0) (eC (.int 3))))) zg))) (zA (eL (fun ds=>.ok (.tup ds)) (za (zc 2) (za (yg [none,some 0] (iL wJ (za (zc 8) zg)) (.one 0) (fun _=>.ok true) (eL yi (za (zd zI (eL zB (za (zc 1) (za (zd zI (eC (.int 30)) (zd yf (zc 0) (eC (.int 12)))) zg))) (zd xp (eC (.int 977)) (zc 0))) zg))) zg))))))))
def zZ:List D->R D:=zC 9 kL
def sc__law_strips:FnScope ["_law_script","_law_many","_law_strips_here","_law_k","_law_cell_here","_law_gap","_law_high_here","_law_cut","_law_notes"] ["_law_script","_law_many"] (defScope (top 15)):=by constructor<;>first|rfl|decide +kernel
def kn (Df:DefIn K mg "_law_strips" (top 15) ["_law_script","_law_many"])(B:Bl mg)(Cf:FilC K CF)(o4:Own P w K mg base "_law_mixed" 2 ["_law_script","_law_k"] (spM K zB 2))(oq:Own P w K mg base "_law_height" 1 ["_law_cell_here"] (spM K yi 1)):Own P w K mg base "_law_strips" 3 ["_law_script","_law_many"] (spM K zZ 2):=
 Df.mir (k:=2) (Γ':=[.shr,.shr,.dead,.dead,.dead,.dead,.dead,.dead,.dead]) sc__law_strips (by decide) fun f cdv A outer s H E hr=>(zh (L2.st 2 sc__law_strips.nd (zk (yH zm))) (zh (u0 (Γ2:=[.shr,.shr,.own,.shr,.own,.own,.own,.own,.dead]) PassesOwn.leaving rfl (vt rfl B.range (ze (mn 1 .shr) zm)) (by decide) (yO (pgn 3 sc__law_strips.nd)) (by decide) (zh (L2.st 4 sc__law_strips.nd (zk (zS (o4.mono (by decide)) hr (by exact rfl) zw (ze (mn 0 .shr) (ze (zp zD zW zV zf (mn 3 .shr)) zm))))) (zh (L2.st 5 sc__law_strips.nd (zk (zE hr.u1 (yH (ze zf (ze zf (ze zf (ze zf (ze zf (ze zf zm))))))) (zp yl yW zz (mn 4 .own) zf)))) (zh (L2.st 6 sc__law_strips.nd (zk (zE hr.u1 (yH (ze zf (ze zf (ze zf (ze zf (ze zf (ze zf (ze zf (ze zf zm))))))))) (zp yl yW zz (zp yZ xO zz (mn 4 .own) zf) zf)))) (zh (xn (zN (yN hr.u12) vf vd (zp yl yW zz (zp yZ xO zz (mn 4 .own) zf) zf) zf (zL _)) (zr (L2.st 6 sc__law_strips.nd (zk (zp zD zW zV zf (zp yl yW zz (zp yZ xO zz (mn 4 .own) zf) zf))))) ya) (zh (L2.st 7 sc__law_strips.nd (zk (zE hr.u1 (yH (ze zf (ze zf (ze zf (ze (zp yl yW zz (zp yZ xO zz (mn 4 .own) zf) zf) (ze (zp yl yW zz (zp yZ xO zz (mn 4 .own) zf) zf) (ze xf (ze xf (ze xf (ze zf zm)))))))))) (zp yl yW zz (zp yZ xO zz (mn 4 .own) zf) zf)))) (zr (app 2 (zk (yS (xV (ze (mn 5 .own) (ze (mn 6 .own) (ze (mn 7 .own) (ze (zE hr.u1 (yH (ze zf (ze zf (ze zf (ze zf (ze zf (ze zf (ze zf (ze zf (ze zf zm)))))))))) (zp yl yW zz (zp yZ xO zz (mn 4 .own) zf) zf)) zm)))))))))))))) rfl) (zh (xn (zN vT jz zz (mn 1 .shr) zf (zL _)) (zr (put 2 (zk (zp zD zW zV (zp zD zW zV (uJ (zE hr.u1 (mn 2 .own) (vh zf)) qt (xa zf)) (xV (ze zf zm))) (uJ (zE hr.u1 (mn 2 .own) (vh zf)) (xa zf) qt))) (vh zf))) ya) (zh (L2.st 8 sc__law_strips.nd (zk (zT (wK rfl) Zl Zh (by exact rfl) B.sum PyProof.Rows.boot_sum (ze (w8 (N':=["_law_strip"]) (fr:=[none]) rfl (xK sc__law_strips.nofree (by decide +kernel)) (xZ (mn 2 .own)) (fun _ _ _ _=>(yO (pgn 0 (show List.Nodup (["_law_strip"]:List Str) from by decide +kernel)))) (fun _ _ _ _=>xA) (fun _ _ _ _=>(yS (zE hr.u1 (mn 0 .brw) zf))) (by decide) (by decide)) zm)))) (zr (zU (z25 (YL (mvn 2) (YL (zk (w8 (N':=["_law_k","_law_script"]) (fr:=[none,some 0]) rfl (xK sc__law_strips.nofree (by decide +kernel)) (vt rfl B.range (ze (mn 8 .own) zm)) (fun _ _ _ _=>(yO (pgn 0 (show List.Nodup (["_law_k","_law_script"]:List Str) from by decide +kernel)))) (fun _ _ _ _=>xA) (fun _ _ _ _=>(zS (oq.mono (by decide)) hr (by exact rfl) ug (ze (zp zD zW zV (zS (o4.mono (by decide)) hr (by exact rfl) ug (ze (mn 1 .shr) (ze (zp zD zW zV zf (zp yl yW zz (mn 0 .shr) zf)) zm))) (zp wc uE uB zf (mn 0 .shr))) zm))) (by decide) (by decide))) Kc)))))))))
def Yg:Tn->R Fl:=(zj (zo 1 (zd zI (eC (.int 2)) (zd yf (zc 0) (eC (.int 9))))) (zj (sIf (zl (zd (eqR false) (zd yf (zd yx (zc 0) (eC (.int 9))) (eC (.int 12))) (eC (.int 5)))) (zo 1 (zd zI (eC (.int 2)) (zd yf (zd yx (zc 0) (eC (.int 108))) (eC (.int 199))))) zt) (zj (zo 2 (zd ixD (eL (fun ds=>.ok (.lst ds)) (za (eC (.int 0)) (za (eC (.int 1)) (za (zd yf (zd yx (zc 0) (eC (.int 50))) (eC (.int 30))) (za (zd yf (zd yx (zc 0) (eC (.int 50))) (eC (.int 100001))) zg))))) (zd yf (zd yx (zc 0) (eC (.int 31))) (eC (.int 4))))) (zj (zo 3 (zd zI (eC (.int 1)) (zd yf (zd yx (zc 0) (eC (.int 7))) (zd ixD (eL (fun ds=>.ok (.lst ds)) (za (eC (.int 5)) (za (eC (.int 100000)) zg))) (zd yf (zc 0) (eC (.int 2))))))) (zj (zo 4 (eL (fun ds=>.ok (.dic [.inr "width",.inr "height",.inr "over",.inr "late",.inr "gap"] ds)) (za (eC (.int 30)) (za (yq (zc 1)) (za (yq (zc 3)) (za (yq (zc 2)) (za (zd yf (zc 0) (eC (.int 6))) zg))))))) (zj (UC 4 (eL (fun ds=>.ok (.dic [.inr "part",.inr "twin",.inr "lone",.inr "ahead",.inr "behind"] ds)) (za (zd yf (zc 0) (eC (.int 7))) (za (zd yf (zc 0) (eC (.int 9))) (za (zd yf (zc 0) (eC (.int 11))) (za (eC (.int 2)) (za (eC (.int 2)) zg))))))) (zA (zc 4))))))))
def ye:List D->R D:=zC 5 Yg
def sc__law_rules:FnScope ["_law_number","_law_high_here","_law_late","_law_over","_law_found"] ["_law_number"] (defScope (top 16)):=by constructor<;>first|rfl|decide +kernel
def ku (Df:DefIn K mg "_law_rules" (top 16) ["_law_number"])(B:Bl mg)(Cf:FilC K CF) :Own P w K mg base "_law_rules" 1 ["_law_number"] (spM K ye 1):=
 Df.mir (k:=0) (Γ':=[.shr,.dead,.dead,.dead,.dead]) sc__law_rules (by decide) fun f cdv A outer s H E hr=>(zh (L2.st 1 sc__law_rules.nd (zk (zp zD zW zV zf (zp yl yW zz (mn 0 .shr) zf)))) (zh (xn (zN (yN hr.u12) vf vd (zp yl yW zz (zp yZ xO zz (mn 0 .shr) zf) zf) zf (zL _)) (zr (L2.st 1 sc__law_rules.nd (zk (zp zD zW zV zf (zp yl yW zz (zp yZ xO zz (mn 0 .shr) zf) zf))))) ya) (zh (L2.st 2 sc__law_rules.nd (zk (zE hr.u1 (yH (ze zf (ze zf (ze (zp yl yW zz (zp yZ xO zz (mn 0 .shr) zf) zf) (ze (zp yl yW zz (zp yZ xO zz (mn 0 .shr) zf) zf) zm))))) (zp yl yW zz (zp yZ xO zz (mn 0 .shr) zf) zf)))) (zh (L2.st 3 sc__law_rules.nd (zk (zp zD zW zV zf (zp yl yW zz (zp yZ xO zz (mn 0 .shr) zf) (zE hr.u1 (yH (ze zf (ze zf zm))) (zp yl yW zz (mn 0 .shr) zf)))))) (zh (L2.st 4 sc__law_rules.nd (zk (V0 (xG (key:=.inr "width") wV zf (xG (key:=.inr "height") wV (yS (mn 1 .own)) (xG (key:=.inr "over") wV (yS (mn 3 .own)) (xG (key:=.inr "late") wV (yS (mn 2 .own)) (xG (key:=.inr "gap") wV (zp yl yW zz (mn 0 .shr) zf) WS))))) (by decide)))) (zh (upt 4 (zk (V0 (xG (key:=.inr "part") wV (zp yl yW zz (mn 0 .shr) zf) (xG (key:=.inr "twin") wV (zp yl yW zz (mn 0 .shr) zf) (xG (key:=.inr "lone") wV (zp yl yW zz (mn 0 .shr) zf) (xG (key:=.inr "ahead") wV zf (xG (key:=.inr "behind") wV zf WS))))) (by decide)))) (zr (zU (mvn 4)))))))))
def qr:Tn->R Fl:=(zA (eL vJ (za (yg [none] (xq (eSl (zc 0) (zX (zc 1)) (zX (zc 2)))) (.one 0) (fun _=>.ok true) (zd ixD (zc 0) (eC (.int 3)))) zg)))
def zH:List D->R D:=zC 3 qr
def sc__law_marks:FnScope ["_law_strips_here","_law_begin","_law_end"] ["_law_strips_here","_law_begin","_law_end"] (defScope (top 17)):=by constructor<;>first|rfl|decide +kernel
def kA (Df:DefIn K mg "_law_marks" (top 17) ["_law_strips_here","_law_begin","_law_end"])(B:Bl mg)(Cf:FilC K CF) :Own P w K mg base "_law_marks" 1 ["_law_strips_here","_law_begin","_law_end"] (spM K zH 3):=
 Df.mir (k:=0) (Γ':=[.shr,.shr,.shr]) sc__law_marks (by decide) fun f cdv A outer s H E hr=>(zr (zU (zk (zT (wK rfl) Zl Zh (by exact rfl) B.sum PyProof.Rows.boot_sum (ze (w8 (N':=["_law_strip"]) (fr:=[none]) rfl (xK sc__law_marks.nofree (by decide +kernel)) (xZ (uJ (mn 0 .shr) (xa (mn 1 .shr)) (xa (mn 2 .shr)))) (fun _ _ _ _=>(yO (pgn 0 (show List.Nodup (["_law_strip"]:List Str) from by decide +kernel)))) (fun _ _ _ _=>xA) (fun _ _ _ _=>(zE hr.u1 (mn 0 .shr) zf)) (by decide) (by decide)) zm)))))
def ju:Tn->R Fl:=(zj (zo 3 (yg [none] (xq (eSl (zc 0) (zX (zc 1)) (zX (zc 2)))) (.one 0) (fun _=>.ok true) (yq (zd ixD (zc 0) (eC (.int 2)))))) (zA (We (zd (inD true) (eC (.str "must")) (eSl (zc 3) wj (zX (eUn vj (eC (.int 1)))))) (zd (eqR true) (zd ixD (zc 3) (eUn vj (eC (.int 1)))) (eC (.str "never"))))))
def yK:List D->R D:=zC 4 ju
def sc__law_may:FnScope ["_law_strips_here","_law_begin","_law_end","_law_cuts"] ["_law_strips_here","_law_begin","_law_end"] (defScope (top 18)):=by constructor<;>first|rfl|decide +kernel
def Yu (Df:DefIn K mg "_law_may" (top 18) ["_law_strips_here","_law_begin","_law_end"])(B:Bl mg)(Cf:FilC K CF) :Own P w K mg base "_law_may" 1 ["_law_strips_here","_law_begin","_law_end"] (spM K yK 3):=
 Df.mir (k:=0) (Γ':=[.shr,.shr,.shr,.dead]) sc__law_may (by decide) fun f cdv A outer s H E hr=>(zh (stC 3 (N':=["_law_strip"]) (fr:=[none]) sc__law_may.nd rfl (xK sc__law_may.nofree (by decide +kernel)) (xZ (uJ (mn 0 .shr) (xa (mn 1 .shr)) (xa (mn 2 .shr)))) (fun _ _ _ _=>(yO (pgn 0 (show List.Nodup (["_law_strip"]:List Str) from by decide +kernel)))) (fun _ _ _ _=>xA) (fun _ _ _ _=>(yS (zE hr.u1 (mn 0 .shr) zf))) (by decide)) (zr (zU (zk (Ut (Y6 ZD z3Q z45 xf (uJ (mn 3 .own) qt (xa (vh zf))) (by exact rfl)) (J5 (Y6 (we hr.u12) vf vd (zE hr.u1 (mn 3 .own) (vh zf)) xf (zL _))))))))
def j6:Tn->R Fl:=(zj (zo 6 (yg [none] (xq (eSl (zc 0) (zX (zc 2)) (zX (zc 3)))) (.one 0) (fun _=>.ok true) (zd zI (zd ixD (zc 0) (eC (.int 0))) (zd ixD (zc 0) (eC (.int 1)))))) (zj (zo 7 (zd yB (eL vJ (za (zc 6) zg)) (zd ixD (zd ixD (zc 0) (zc 2)) (eC (.int 0))))) (zj (zo 8 (eL zH (za (zc 0) (za (eC (.int 0)) (za (zc 2) zg))))) (zj (zo 9 (eL zH (za (zc 0) (za (zc 2) (za (zc 3) zg))))) (zj (zo 10 (eSl (zc 1) (zX (zd yB (zc 8) (zc 4))) (zX (zc 8)))) (zj (zo 10 (zd zI (zc 10) (eSl (zc 1) (zX (zc 8)) (zX (zd yB (zd zI (zc 8) (zc 9)) (zc 5)))))) (zj (sIf (zl (zd (eqR true) (zc 10) (eL (fun ds=>.ok (.lst ds)) zg))) (zo 7 (zd zI (zd zI (zc 7) (eC (.int 1))) (eL vJ (za (zc 10) zg)))) zt) (zA (zc 7)))))))))
def xu:List D->R D:=zC 11 j6
def sc__law_high:FnScope ["_law_strips_here","_law_heights","_law_begin","_law_end","_law_ahead","_law_late","_law_rows","_law_high_here","_law_first","_law_own","_law_foot"] ["_law_strips_here","_law_heights","_law_begin","_law_end","_law_ahead","_law_late"] (defScope (top 19)):=by constructor<;>first|rfl|decide +kernel
def Zz (Df:DefIn K mg "_law_high" (top 19) ["_law_strips_here","_law_heights","_law_begin","_law_end","_law_ahead","_law_late"])(B:Bl mg)(Cf:FilC K CF)(o3:Own P w K mg base "_law_marks" 1 ["_law_strips_here","_law_begin","_law_end"] (spM K zH 3)):Own P w K mg base "_law_high" 2 ["_law_strips_here","_law_heights","_law_begin","_law_end","_law_ahead","_law_late"] (spM K xu 6):=
 Df.mir (k:=1) (Γ':=[.shr,.shr,.shr,.shr,.shr,.shr,.dead,.dead,.dead,.dead,.dead]) sc__law_high (by decide) fun f cdv A outer s H E hr=>(zh (stC 6 (N':=["_law_strip"]) (fr:=[none]) sc__law_high.nd rfl (xK sc__law_high.nofree (by decide +kernel)) (xZ (uJ (mn 0 .shr) (xa (mn 2 .shr)) (xa (mn 3 .shr)))) (fun _ _ _ _=>(yO (pgn 0 (show List.Nodup (["_law_strip"]:List Str) from by decide +kernel)))) (fun _ _ _ _=>xA) (fun _ _ _ _=>(zp zD zW zV (zE hr.u1 (mn 0 .shr) zf) (zE hr.u1 (mn 0 .shr) zf))) (by decide)) (zh (L2.st 7 sc__law_high.nd (zk (zp yP xU zz (zT (wK rfl) Zl Zh (by exact rfl) B.sum PyProof.Rows.boot_sum (ze (mn 6 .own) zm)) (zE hr.u1 (zE hr.u1 (mn 0 .shr) (mn 2 .shr)) zf)))) (zh (L2.st 8 sc__law_high.nd (zk (zS (o3.mono (by decide)) hr (by exact rfl) zw (ze (mn 0 .shr) (ze zf (ze (mn 2 .shr) zm)))))) (zh (L2.st 9 sc__law_high.nd (zk (zS (o3.mono (by decide)) hr (by exact rfl) zw (ze (mn 0 .shr) (ze (mn 2 .shr) (ze (mn 3 .shr) zm)))))) (zh (L2.st 10 sc__law_high.nd (zk (uJ (mn 1 .shr) (xa (zp yP xU zz (mn 8 .own) (mn 4 .shr))) (xa (mn 8 .own))))) (zh (L2.st 10 sc__law_high.nd (zk (zp zD zW zV (mn 10 .own) (uJ (mn 1 .shr) (xa (mn 8 .own)) (xa (zp yP xU zz (zp zD zW zV (mn 8 .own) (mn 9 .own)) (mn 5 .shr))))))) (zh (xn (zN (we hr.u12) vf vd (mn 10 .own) (yH zm) (zL _)) (zr (L2.st 7 sc__law_high.nd (zk (zp zD zW zV (zp zD zW zV (mn 7 .own) zf) (zT (wK rfl) Zl Zh (by exact rfl) B.sum PyProof.Rows.boot_sum (ze (mn 10 .own) zm)))))) ya) (zr (zU (mvn 7))))))))))
def Yp:Tn->R Fl:=(zj (zo 7 (eL zH (za (zc 0) (za (zc 3) (za (zc 4) zg))))) (zj (zo 8 (zd (eqR false) (zc 4) (eL xh (za (zc 0) zg)))) (zj (sIf (bOr (xy (zl (eL yK (za (zc 0) (za (zc 3) (za (zc 4) zg)))))) (bOr (zl (zd gtD (zc 6) (zc 7))) (yT (zl (zd gtD (zc 6) (eC (.int 0)))) (zl (zc 8))))) (zA (eC .non)) zt) (zj (zo 9 (zd yB (zd ixD (zc 2) (eC (.str "height"))) (eL xu (za (zc 0) (za (zc 1) (za (zc 3) (za (zc 4) (za (zc 5) (za (zc 6) zg))))))))) (zj (zo 10 (zd xp (zc 9) (zc 9))) (zj (sIf (zl (zd ltD (zc 9) (eC (.int 0)))) (zj (zo 11 (yg [none,some 0,some 3] (iL uo (za (zd zI (zc 3) (eC (.int 1))) (za (zc 4) zg))) (.one 0) (zl (eL yK (za (zc 1) (za (zc 2) (za (zc 0) zg))))) (yq (zc 0)))) (zj (sIf (bOr (zl (zd (eqR true) (zc 11) (eL (fun ds=>.ok (.lst ds)) zg))) (yT (zl (zd ltD (zc 6) (zc 7))) (xy (zl (zc 8))))) (zA (eC .non)) zt) (zo 10 (zd xp (zd yB (eC (.int 0)) (zc 9)) (zd ixD (zc 2) (eC (.str "over"))))))) (sIf (bOr (zl (zc 8)) (zl (zd (eqR false) (zd ixD (zd ixD (zc 0) (zd yB (zc 4) (eC (.int 1)))) (eC (.int 2))) (eC (.str "must"))))) (zo 10 (eC (.int 0))) zt)) (zj (sIf (yT (xy (zl (zc 8))) (zl (zd (eqR true) (zd ixD (zd ixD (zc 0) (zd yB (zc 4) (eC (.int 1)))) (eC (.int 2))) (eC (.str "must"))))) (zo 10 (zd zI (zc 10) (zd ixD (zd ixD (zc 0) (zd yB (zc 4) (eC (.int 1)))) (eC (.int 2))))) zt) (zA (zd zI (zc 10) (zd xp (zc 6) (zd ixD (zc 2) (eC (.str "late")))))))))))))
def yF:List D->R D:=zC 12 Yp
def sc__law_leaf:FnScope ["_law_strips_here","_law_heights","_law_rules_here","_law_begin","_law_end","_law_ahead","_law_late","_law_own","_law_at_end","_law_spare","_law_found","_law_lesser"] ["_law_strips_here","_law_heights","_law_rules_here","_law_begin","_law_end","_law_ahead","_law_late"] (defScope (top 20)):=by constructor<;>first|rfl|decide +kernel
def Ye (Df:DefIn K mg "_law_leaf" (top 20) ["_law_strips_here","_law_heights","_law_rules_here","_law_begin","_law_end","_law_ahead","_law_late"])(B:Bl mg)(Cf:FilC K CF)(o3:Own P w K mg base "_law_marks" 1 ["_law_strips_here","_law_begin","_law_end"] (spM K zH 3))(o0e:Own P w K mg base "_law_high" 2 ["_law_strips_here","_law_heights","_law_begin","_law_end","_law_ahead","_law_late"] (spM K xu 6))(oy:Own P w K mg base "_law_may" 1 ["_law_strips_here","_law_begin","_law_end"] (spM K yK 3)):Own P w K mg base "_law_leaf" 3 ["_law_strips_here","_law_heights","_law_rules_here","_law_begin","_law_end","_law_ahead","_law_late"] (spM K yF 7):=
 Df.mir (k:=2) (Γ':=[.shr,.shr,.shr,.shr,.shr,.shr,.shr,.dead,.dead,.dead,.dead,.dead]) sc__law_leaf (by decide) fun f cdv A outer s H E hr=>(zh (L2.st 7 sc__law_leaf.nd (zk (zS (o3.mono (by decide)) hr (by exact rfl) zw (ze (mn 0 .shr) (ze (mn 3 .shr) (ze (mn 4 .shr) zm)))))) (zh (L2.st 8 sc__law_leaf.nd (zk (Y6 (yN hr.u12) vf vd (mn 4 .shr) (zT yE vH vE (by exact rfl) B.len PySem.boot_len (ze (mn 0 .shr) zm)) (zL _)))) (zh (xn (MW.mt (uG (qJ (vi (zS (oy.mono (by decide)) hr (by exact rfl) zw (ze (mn 0 .shr) (ze (mn 3 .shr) (ze (mn 4 .shr) zm)))))) (uG (zN vT jz zz (mn 6 .shr) (mn 7 .own) (zL _)) (vY (MW.mt (uK (zN vT jz zz (mn 6 .shr) zf (zL _)) (vB (vi (mn 8 .own))))))))) (zr (zU (zk jw))) ya) (zh (L2.st 9 sc__law_leaf.nd (zk (zp yP xU zz (zE hr.u1 (mn 2 .shr) xf) (zS (o0e.mono (by decide)) hr (by exact rfl) zw (ze (mn 0 .shr) (ze (mn 1 .shr) (ze (mn 3 .shr) (ze (mn 4 .shr) (ze (mn 5 .shr) (ze (mn 6 .shr) zm)))))))))) (zh (L2.st 10 sc__law_leaf.nd (zk (zp wc uE uB (mn 9 .own) (mn 9 .own)))) (zh (xn (zN jQ XZ zz (mn 9 .own) zf (zL _)) (Uy (Γ':=[.shr,.shr,.shr,.shr,.shr,.shr,.shr,.own,.own,.own,.own,.dead]) (zh (stC 11 (N':=["_law_one","_law_strips_here","_law_begin"]) (fr:=[none,some 0,some 3]) sc__law_leaf.nd rfl (xK sc__law_leaf.nofree (by decide +kernel)) (qL rfl B.range (ze (zp zD zW zV (mn 3 .shr) zf) (ze (mn 4 .shr) zm))) (fun _ _ _ _=>(yO (pgn 0 (show List.Nodup (["_law_one","_law_strips_here","_law_begin"]:List Str) from by decide +kernel)))) (fun _ _ _ _=>(Vj (vi (zS (oy.mono (by decide)) hr (by exact rfl) ug (ze (mn 1 .shr) (ze (mn 2 .shr) (ze (mn 0 .shr) zm))))))) (fun _ _ _ _=>(yS (mn 0 .shr))) (by decide)) (zh (xn (MW.mt (uG (zN (we hr.u12) vf vd (mn 11 .own) (yH zm) (zL _)) (vY (MW.mt (uK (zN jQ XZ zz (mn 6 .shr) (mn 7 .own) (zL _)) (vB (qJ (vi (mn 8 .own))))))))) (zr (zU (zk jw))) ya) (zr (L2.st 10 sc__law_leaf.nd (zk (zp wc uE uB (zp yP xU zz zf (mn 9 .own)) (zE hr.u1 (mn 2 .shr) xf))))))) rfl) (zr (xn (MW.mt (uG (vi (mn 8 .own)) (vY (zN (yN hr.u12) vf vd (zE hr.u1 (zE hr.u1 (mn 0 .shr) (zp yP xU zz (mn 4 .shr) zf)) zf) xf (zL _))))) (zr (L2.st 10 sc__law_leaf.nd (zk zf))) ya))) (zh (xn (MW.mt (uK (qJ (vi (mn 8 .own))) (vB (zN (we hr.u12) vf vd (zE hr.u1 (zE hr.u1 (mn 0 .shr) (zp yP xU zz (mn 4 .shr) zf)) zf) xf (zL _))))) (zr (L2.st 10 sc__law_leaf.nd (zk (zp zD zW zV (mn 10 .own) (zE hr.u1 (zE hr.u1 (mn 0 .shr) (zp yP xU zz (mn 4 .shr) zf)) zf))))) ya) (zr (zU (zk (zp zD zW zV (mn 10 .own) (zp wc uE uB (mn 6 .shr) (zE hr.u1 (mn 2 .shr) xf)))))))))))))
def W0:Tn->R Fl:=(zj (zo 3 (eL (fun ds=>.ok (.lst ds)) zg)) (zj (zo 4 (eL (fun ds=>.ok (.lst ds)) (za (eL (fun ds=>.ok (.tup ds)) (za (eC (.int 0)) (za (eL Vy zg) zg))) zg))) (zj (yy (zl (zd (eqR true) (zc 4) (eL (fun ds=>.ok (.lst ds)) zg))) (zj (Zb 4 (.many [5,6])) (zj (jI (.many [7,8]) (zd ixD (zd vZ (eL (fun ds=>.ok (.lst ds)) (za (eL (fun ds=>.ok (.tup ds)) (za (eC (.int 0)) (za (eC (.int 0)) zg))) zg)) (zc 6)) (eUn vj (eC (.int 1))))) (zj (sIf (zl (zd (eqR false) (zc 7) (eL xh (za (zc 0) zg)))) (vI 3 (yq (eL (fun ds=>.ok (.tup ds)) (za (zc 5) (za (eUn Xi (yg [none,none] (kZ (zc 6)) (.many [0,1]) (fun _=>.ok true) (yq (eL (fun ds=>.ok (.tup ds)) (za (zd yB (eC (.int 0)) (zc 0)) (za (zc 1) zg)))))) zg))))) zt) (wz (iL uo (za (zd zI (zc 7) (eC (.int 1))) (za (zd zI (eL xh (za (zc 0) zg)) (eC (.int 1))) zg))) (.one 9) (wz (iL wJ (za (zd zI (eL zH (za (zc 0) (za (zc 7) (za (zc 9) zg)))) (eC (.int 1))) zg)) (.one 10) (zj (zo 11 (eL yF (za (zc 0) (za (zc 1) (za (zc 2) (za (zc 7) (za (zc 9) (za (zc 8) (za (zc 10) zg))))))))) (sIf (zl (zd (isN true) (zc 11) (eC .non))) (vI 4 (eL (fun ds=>.ok (.tup ds)) (za (zd zI (zc 5) (zc 11)) (za (eUn Xi (zd vZ (zc 6) (eL (fun ds=>.ok (.lst ds)) (za (eL (fun ds=>.ok (.tup ds)) (za (zc 9) (za (zc 10) zg))) zg)))) zg)))) zt)))))))) (zA (zc 3)))))
def xw:List D->R D:=zC 12 W0
def sc__law_all:FnScope ["_law_strips_here","_law_heights","_law_rules_here","_law_whole_here","_law_waiting","_law_worth","_law_leaves","_law_begin","_law_ahead","_law_end","_law_late","_law_more"] ["_law_strips_here","_law_heights","_law_rules_here"] (defScope (top 21)):=by constructor<;>first|rfl|decide +kernel
def YB (Df:DefIn K mg "_law_all" (top 21) ["_law_strips_here","_law_heights","_law_rules_here"])(B:Bl mg)(Cf:FilC K CF)(o0f:Own P w K mg base "_law_leaf" 3 ["_law_strips_here","_law_heights","_law_rules_here","_law_begin","_law_end","_law_ahead","_law_late"] (spM K yF 7))(o3:Own P w K mg base "_law_marks" 1 ["_law_strips_here","_law_begin","_law_end"] (spM K zH 3)):Own P w K mg base "_law_all" 4 ["_law_strips_here","_law_heights","_law_rules_here"] (spM K xw 3):=
 Df.mir (k:=3) (Γ':=[.shr,.shr,.shr,.dead,.dead,.dead,.dead,.dead,.dead,.dead,.dead,.dead]) sc__law_all (by decide) fun f cdv A outer s H E hr=>(zh (L2.st 3 sc__law_all.nd (zk (yH zm))) (zh (L2.st 4 sc__law_all.nd (zk (yH (ze (xV (ze zf (ze (KJ zm) zm))) zm)))) (zh (qc (Γ2:=[.shr,.shr,.shr,.own,.own,.shr,.shr,.shr,.shr,.dead,.dead,.dead]) PassesOwn.leaving (zN (we hr.u12) vf vd (mn 4 .own) (yH zm) (zL _)) (zh (KQ 4 (vC rfl (yA (pgn 5 sc__law_all.nd) (yA (pgn 6 sc__law_all.nd) vv))) (by decide)) (zh (XN (zE hr.u1 (zp Vk Qm Uu (yH (ze (xV (ze zf (ze zf zm))) zm)) (mn 6 .shr)) (vh zf)) (by decide) (vC rfl (yA (pgn 7 sc__law_all.nd) (yA (pgn 8 sc__law_all.nd) vv))) (by decide)) (zh (xn (zN (yN hr.u12) vf vd (mn 7 .shr) (zT yE vH vE (by exact rfl) B.len PySem.boot_len (ze (mn 0 .shr) zm)) (zL _)) (zr (app 3 (zk (yS (xV (ze (mn 5 .shr) (ze (V9 (w8 (N':=["_law_end","_law_late"]) (fr:=[none,none]) rfl (xK sc__law_all.nofree (by decide +kernel)) (Vr (mn 6 .shr)) (fun _ _ _ _=>(vC rfl (yA (pgn 0 (show List.Nodup (["_law_end","_law_late"]:List Str) from by decide +kernel)) (yA (pgn 1 (show List.Nodup (["_law_end","_law_late"]:List Str) from by decide +kernel)) vv)))) (fun _ _ _ _=>xA) (fun _ _ _ _=>(yS (xV (ze (zp yP xU zz zf (mn 0 .shr)) (ze (mn 1 .shr) zm))))) (by decide) (by decide))) zm))))))) ya) (zr (u0 (Γ2:=[.shr,.shr,.shr,.own,.own,.shr,.shr,.shr,.shr,.shr,.dead,.dead]) PassesOwn.leaving rfl (qL rfl B.range (ze (zp zD zW zV (mn 7 .shr) zf) (ze (zp zD zW zV (zT yE vH vE (by exact rfl) B.len PySem.boot_len (ze (mn 0 .shr) zm)) zf) zm))) (by decide) (yO (pgn 9 sc__law_all.nd)) (by decide) (zr (u0 (Γ2:=[.shr,.shr,.shr,.own,.own,.shr,.shr,.shr,.shr,.shr,.shr,.own]) PassesOwn.leaving rfl (vt rfl B.range (ze (zp zD zW zV (zS (o3.mono (by decide)) hr (by exact rfl) zw (ze (mn 0 .shr) (ze (mn 7 .shr) (ze (mn 9 .shr) zm)))) zf) zm)) (by decide) (yO (pgn 10 sc__law_all.nd)) (by decide) (zh (L2.st 11 sc__law_all.nd (zk (zS (o0f.mono (by decide)) hr (by exact rfl) zw (ze (mn 0 .shr) (ze (mn 1 .shr) (ze (mn 2 .shr) (ze (mn 7 .shr) (ze (mn 9 .shr) (ze (mn 8 .shr) (ze (mn 10 .shr) zm)))))))))) (zr (xn (zN WG Qx z0a (mn 11 .own) jw (zL _)) (zr (app 4 (zk (xV (ze (zp zD zW zV (mn 5 .shr) (mn 11 .own)) (ze (V9 (zp Vk Qm Uu (mn 6 .shr) (yH (ze (xV (ze (mn 9 .shr) (ze (mn 10 .shr) zm))) zm)))) zm)))))) ya))) rfl)) rfl))))) rfl) (zr (zU (mvn 3))))))
def z01:Tn->R Fl:=(zj (zo 1 (eL zB (za (zc 0) (za (eC (.int 0)) zg)))) (zj (jI (.many [2,3]) (eL zZ (za (zc 0) (za (zd zI (eC (.int 1)) (zd yf (zc 1) (eC (.int 5)))) zg)))) (zj (yy (zl (zd gtD (eL vJ (za (yg [none] (xq (zc 2)) (.one 0) (fun _=>.ok true) (zd ixD (zc 0) (eC (.int 3)))) zg)) (eC (.int 5)))) (zo 2 (yg [none] (xq (zc 2)) (.one 0) (fun _=>.ok true) (zd zI (eSl (zc 0) wj (zX (eC (.int 3)))) (eL (fun ds=>.ok (.tup ds)) (za (eL ki (za (eC (.int 0)) (za (zd yB (zd ixD (zc 0) (eC (.int 3))) (eC (.int 1))) zg))) zg)))))) (zj (zo 3 (eSl (zc 3) wj (zX (eL vJ (za (yg [none] (xq (zc 2)) (.one 0) (fun _=>.ok true) (zd ixD (zc 0) (eC (.int 3)))) zg))))) (zj (zo 4 (eL ye (za (eL zB (za (zc 0) (za (eC (.int 1)) zg))) zg))) (zj (wz (xq (eL (fun ds=>.ok (.lst ds)) (za (zc 4) (za (eL ye (za (eL zB (za (zc 0) (za (eC (.int 2)) zg))) zg)) (za (zc 4) zg))))) (.one 5) (zj (jI (.many [6,7]) (eL vn (za (eL xw (za (zc 2) (za (zc 3) (za (zc 5) zg)))) zg))) (zj (zo 8 (eL (fun ds=>.ok (.lst ds)) (za (eL wM (za (zc 2) zg)) (za (eL wM (za (zc 3) zg)) (za (eL vR (za (zc 5) zg)) zg))))) (zj (zo 9 (eL wQ (za (zd ixD (zc 8) (eC (.int 0))) (za (zd ixD (zc 8) (eC (.int 1))) (za (zd ixD (zc 8) (eC (.int 2))) zg))))) (zj (sIf (bOr (xy (zl (eUn (YN "list") (zc 9)))) (zl (zd (eqR true) (zc 9) (yg [none,none] (kZ (zc 7)) (.many [0,1]) (fun _=>.ok true) (eL (fun ds=>.ok (.tup ds)) (za (zd yB (eC (.int 0)) (zc 0)) (za (zc 1) zg))))))) (zA (eC (.bl false))) zt) (zj (zo 10 (zd ixD (zd ixD (eL yJ (za (zd ixD (zc 8) (eC (.int 0))) (za (zd ixD (zc 8) (eC (.int 1))) (za (zd ixD (zc 8) (eC (.int 2))) zg)))) (eC (.int 0))) (eC (.int 0)))) (sIf (bOr (xy (zl (eL xD (za (zc 10) zg)))) (bOr (zl (zd (eqR true) (zc 10) (zc 6))) (zl (zd Yh (zc 8) (eL (fun ds=>.ok (.lst ds)) (za (zc 2) (za (zc 3) (za (zc 5) zg)))))))) (zA (eC (.bl false))) zt))))))) (zA (eC (.bl true)))))))))
def F_law:List D->R D:=zC 11 z01
def sc_law:FnScope ["_law_script","_law_number","_law_strips_here","_law_heights","_law_first","_law_rules_here","_law_worth","_law_leaves","_law_handed","_law_found","_law_told"] ["_law_script"] (defScope (top 22)):=by constructor<;>first|rfl|decide +kernel
def Qd (B:Bl mg)(Cf:FilC K CF)(o4:Own P w K mg base "_law_mixed" 2 ["_law_script","_law_k"] (spM K zB 2))(ou:Own P w K mg base "_law_strips" 3 ["_law_script","_law_many"] (spM K zZ 2))(om:Own P w K mg base "_law_rules" 1 ["_law_number"] (spM K ye 1))(o0i:Own P w K mg base "filled" 7 ["strips","heights","rules"] (spT TPa tps (spM K wQ 3)))(o0g:Own P w K mg base "_law_all" 4 ["_law_strips_here","_law_heights","_law_rules_here"] (spM K xw 3))(ox:Own P w K mg base "leaf_prices" 7 ["strips","heights","rules"] (spM K yJ 3))(oz:Own P w K mg base "_law_whole" 1 ["_law_found"] (spM K xD 1)):∀(f:Addr) (cdv:Value) (A:Around) (outer:List Env) (s:Shared) (H:Hp) (E:XK),(∃more,H TPa=some (.tbl (tps++more)))->Room 7 (A.deeper (envOfC "law" (defScope (top 22)) s.heap.objs.size f cdv))->MSs (wu (cxx P w) P w K mg base ["_law_script","_law_number","_law_strips_here","_law_heights","_law_first","_law_rules_here","_law_worth","_law_leaves","_law_handed","_law_found","_law_told"] "law" (defScope (top 22)) f cdv A outer s H E) E [] (qP 11 1) (defBody (top 22)) z01 [.shr,.dead,.dead,.dead,.dead,.dead,.dead,.dead,.dead,.dead,.dead]:=
 fun f cdv A outer s H E hT hr=>(zh (L2.st 1 sc_law.nd (zk (zS (o4.mono (by decide)) hr (by exact rfl) zw (ze (mn 0 .shr) (ze zf zm))))) (zh (XN (zS (ou.mono (by decide)) hr (by exact rfl) zw (ze (mn 0 .shr) (ze (zp zD zW zV zf (zp yl yW zz (mn 1 .own) zf)) zm))) (by decide) (vC rfl (yA (pgn 2 sc_law.nd) (yA (pgn 3 sc_law.nd) vv))) (by decide)) (zh (qc (Γ2:=[.shr,.own,.own,.shr,.dead,.dead,.dead,.dead,.dead,.dead,.dead]) PassesOwn.leaving (zN vT jz zz (zT (wK rfl) Zl Zh (by exact rfl) B.sum PyProof.Rows.boot_sum (ze (w8 (N':=["_law_strip"]) (fr:=[none]) rfl (xK sc_law.nofree (by decide +kernel)) (xZ (mn 2 .shr)) (fun _ _ _ _=>(yO (pgn 0 (show List.Nodup (["_law_strip"]:List Str) from by decide +kernel)))) (fun _ _ _ _=>xA) (fun _ _ _ _=>(zE hr.u1 (mn 0 .shr) zf)) (by decide) (by decide)) zm)) zf (zL _)) (zr (stC 2 (N':=["_law_strip"]) (fr:=[none]) sc_law.nd rfl (xK sc_law.nofree (by decide +kernel)) (xZ (mn 2 .shr)) (fun _ _ _ _=>(yO (pgn 0 (show List.Nodup (["_law_strip"]:List Str) from by decide +kernel)))) (fun _ _ _ _=>xA) (fun _ _ _ _=>(zp zD zW zV (uJ (mn 0 .shr) qt (xa zf)) (xV (ze (zT (VG (by exact rfl)) z1Y z0Y (by exact rfl) B.max PyProof.Rows.boot_max (ze zf (ze (zp yP xU zz (zE hr.u1 (mn 0 .shr) zf) zf) zm))) zm)))) (by decide))) rfl) (zh (L2.st 3 sc_law.nd (zk (uJ (mn 3 .shr) qt (xa (zT (wK rfl) Zl Zh (by exact rfl) B.sum PyProof.Rows.boot_sum (ze (w8 (N':=["_law_strip"]) (fr:=[none]) rfl (xK sc_law.nofree (by decide +kernel)) (xZ (mn 2 .shr)) (fun _ _ _ _=>(yO (pgn 0 (show List.Nodup (["_law_strip"]:List Str) from by decide +kernel)))) (fun _ _ _ _=>xA) (fun _ _ _ _=>(zE hr.u1 (mn 0 .shr) zf)) (by decide) (by decide)) zm)))))) (zh (L2.st 4 sc_law.nd (zk (zS (om.mono (by decide)) hr (by exact rfl) zw (ze (zS (o4.mono (by decide)) hr (by exact rfl) zw (ze (mn 0 .shr) (ze zf zm))) zm)))) (zh (z0V (Γ1:=[.shr,.own,.shr,.own,.shr,.dead,.dead,.dead,.dead,.dead,.dead]) (u0 (Γ2:=[.shr,.own,.shr,.own,.shr,.shr,.shr,.shr,.own,.own,.own]) PassesOwn.leaving rfl (xZ (yH (ze (mn 4 .shr) (ze (zS (om.mono (by decide)) hr (by exact rfl) zw (ze (zS (o4.mono (by decide)) hr (by exact rfl) zw (ze (mn 0 .shr) (ze zf zm))) zm)) (ze (mn 4 .shr) zm))))) (by decide) (yO (pgn 5 sc_law.nd)) (by decide) (zh (XN (zT (VE (by exact rfl) (hr.mono (by decide):Room 1 _).in1.units3) z0F z1k (by exact rfl) B.min PyProof.Rows.boot_min (ze (zS (o0g.mono (by decide)) hr (by exact rfl) zw (ze (mn 2 .shr) (ze (mn 3 .own) (ze (mn 5 .shr) zm)))) zm)) (by decide) (vC rfl (yA (pgn 6 sc_law.nd) (yA (pgn 7 sc_law.nd) vv))) (by decide)) (zh (L2.st 8 sc_law.nd (zk (yH (ze (qC qu Vq Vl (by exact rfl) B.list Boot.«list» (ze (mn 2 .shr) zm)) (ze (qC qu Vq Vl (by exact rfl) B.list Boot.«list» (ze (mn 3 .own) zm)) (ze (qC (XA (by exact rfl)) KL K4 (by exact rfl) B.dict Boot.«dict» (ze (mn 5 .shr) zm)) zm)))))) (zh (L2.st 9 sc_law.nd (zk (UU (o0i.mono (by decide)) hT hr (by exact rfl) zw (ze (zE hr.u1 (mn 8 .own) zf) (ze (zE hr.u1 (mn 8 .own) zf) (ze (zE hr.u1 (mn 8 .own) zf) zm)))))) (zh (xn (MW.mt (uG (qJ (vi (XS (T:="list") (by decide) rfl B.isinstance (Zs (v:=.ty "list") rfl B.list Boot.«list» rfl) (mn 9 .own)))) (vY (zN (we hr.u12) vf vd (mn 9 .own) (w8 (N':=["_law_end","_law_late"]) (fr:=[none,none]) rfl (xK sc_law.nofree (by decide +kernel)) (Vr (mn 7 .shr)) (fun _ _ _ _=>(vC rfl (yA (pgn 0 (show List.Nodup (["_law_end","_law_late"]:List Str) from by decide +kernel)) (yA (pgn 1 (show List.Nodup (["_law_end","_law_late"]:List Str) from by decide +kernel)) vv)))) (fun _ _ _ _=>xA) (fun _ _ _ _=>(xV (ze (zp yP xU zz zf (mn 0 .shr)) (ze (mn 1 .shr) zm)))) (by decide) (by decide)) (zL _))))) (zr (zU (zk UX))) ya) (zh (L2.st 10 sc_law.nd (zk (zE hr.u1 (zE hr.u1 (zS (ox.mono (by decide)) hr (by exact rfl) zw (ze (zE hr.u1 (mn 8 .own) zf) (ze (zE hr.u1 (mn 8 .own) zf) (ze (zE hr.u1 (mn 8 .own) zf) zm)))) zf) zf))) (zr (xn (MW.mt (uG (qJ (vi (zS (oz.mono (by decide)) hr (by exact rfl) zw (ze (mn 10 .own) zm)))) (uG (zN (we hr.u12) vf vd (mn 10 .own) (mn 6 .shr) (zL _)) (vY (zN (z0K hr.u12) z2N z2n (mn 8 .own) (yH (ze (mn 2 .shr) (ze (mn 3 .own) (ze (mn 5 .shr) zm)))) (zL _)))))) (zr (zU (zk UX))) ya))))))) rfl) rfl) (zr (zU (zk UX)))))))))
end
inductive Ct where
 | num (n:Int) | never | must
def yI:Ct->D
 | .num n=>.int n
 | .never=>.str "never"
 | .must=>.str "must"
def yC:Ct->Bool
 | .never=>true
 | _=>false
def xg:Ct->Bool
 | .must=>true
 | _=>false
structure Sp where
 g:Int
 h:Int
 c:Ct
 m:Int
def zq (s:Sp):D:=.tup [.int s.g,.int s.h,yI s.c,.int s.m]
def s0 (s:Sp):ixD (zq s) (.int 0)=.ok (.int s.g):=QZ
def s1 (s:Sp):ixD (zq s) (.int 1)=.ok (.int s.h):=Uq
def s2 (s:Sp):ixD (zq s) (.int 2)=.ok (yI s.c):=Ux
def s3 (s:Sp):ixD (zq s) (.int 3)=.ok (.int s.m):=z0Q
def z3e (c:Ct):eqR true (yI c) (.str "never")=.ok (.bl (!yC c)):=by cases c<;>rfl
def z3R (c:Ct):eqR false (yI c) (.str "never")=.ok (.bl (yC c)):=by cases c<;>rfl
def z3w (c:Ct):eqR true (yI c) (.str "must")=.ok (.bl (!xg c)):=by cases c<;>rfl
def z1l (c:Ct):eqR false (yI c) (.str "must")=.ok (.bl (xg c)):=by cases c<;>rfl
def z3y (c:Ct):eqS (yI c) (.str "must")=xg c:=by cases c<;>rfl
def z35 (c:Ct):(yI c).isS=true:=by cases c<;>rfl
def QS (c:Ct):(yI c).imm=true:=by cases c<;>rfl
def QH (s:Sp):(zq s).imm=true:=by
 show ((D.int s.g).imm&&((D.int s.h).imm&&((yI s.c).imm&&((D.int s.m).imm&&true))))=true;rw[QS]
 rfl
def K6 (cs:List Ct):inD true (.str "must") (.lst (cs.map yI))=.ok (.bl (!cs.any xg)):=by
 have h1:(cs.map yI).all D.isS=true:=by rw[pJ];intro d hd;obtain⟨c,_,rfl⟩:=rB.mp hd;exact z35 c
 have h2:(cs.map yI).any (fun d=>eqS d (.str "must"))=cs.any xg:=by
  rw[List.any_map];congr 1
  funext c
  exact z3y c
 show (if ((D.str "must").isS&&(cs.map yI).all D.isS)=true then R.ok (D.bl (!((cs.map yI).any fun d=>eqS d (.str "must")))) else .bad)=_;rw[h1,h2]
 rfl
def eL1 {g:List D->R D}{t:Tn->R D}{τ:Tn}{d:D}{r:R D}(h:t τ=.ok d)(hg:g [d]=r):eL g (za t zg) τ=r:=by
 unfold eL za zg;rw[h,jYa,jYa,jYa];exact hg
def eB2 {g:D->D->R D}{s t:Tn->R D}{τ:Tn}{x y:D}{r:R D}(h1:s τ=.ok x)(h2:t τ=.ok y)(hg:g x y=r):zd g s t τ=r:=by
 unfold zd;rw[h1,jYa,h2,jYa];exact hg
def cmp {it:Tn->R (List D)}{el:Tn->R D}{τ:Tn}{xs:List Sp}{f:Sp->D}(h:it τ=.ok (xs.map zq))(hx:xs.length<=1000)(he:∀s,el [some (zq s)]=.ok (f s)):yg [none] it (.one 0) (fun _=>.ok true) el τ=.ok (.lst (xs.map f)):=by
 have h1:xo (wm (Tgt.one 0).asg (fun _=>.ok true) el (wN [none] τ)) (xs.map zq)=.ok (xs.map f):=by
  rw[w6 (o:=fun s:Sp=>some (f s)) (fun s _=>?_),uf];show vW ((R.ok [some (zq s)]).bind _)=_;rw[jYa,jYa,if_pos rfl,he s]
  rfl
 rw[wq,h,jYa,h1,jYa,v9 (by rw[tM];omega)]
def sl {t2 t3:Tn->R D}{τ:Tn}{ss:List Sp}{b e:Nat}{i j:Int}(h0:zc 0 τ=.ok (.lst (ss.map zq)))(h2:t2 τ=.ok (.int i))(h3:t3 τ=.ok (.int j))(hi:i=b)(hj:j=e)(h:b<=e)(he:e<=ss.length):xq (eSl (zc 0) (zX t2) (zX t3)) τ=.ok (((ss.drop b).take (e-b)).map zq):=by
 have e1:slD (.lst (ss.map zq)) (some i) (some j)=.ok (.lst (((ss.drop b).take (e-b)).map zq)):=by
  rw[ZJ (xj QH ss),hi,hj,UN (by rw[tM];exact he) h,uI]
 unfold xq eSl zX;rw[h0,jYa,h2,jYa];dsimp only;rw[jYa,h3,jYa];dsimp only;rw[jYa,e1,jYa]
 rfl
def cut (ss:List Sp)(b e:Nat):List Sp:=(ss.drop b).take (e-b)
def Zp {ss:List Sp}{b e:Nat}(h:b<=e)(he:e<=ss.length):(cut ss b e).length=e-b:=by
 unfold cut;rw[rE,pB];omega
def mk (ss:List Sp)(b e:Nat):Int:=((cut ss b e).map Sp.m).sum
def z1D (xs:List Sp)(f:Sp->Int):vJ [.lst (xs.map fun s=>.int (f s))]=.ok (.int (xs.map f).sum):=by
 have:=XG (ns:=xs.map f);rw[rR]at this;exact this
def z46 {X:Tn->R D}{a b c x:D}(h:X [some a,some b,some c]=.ok x):zC 3 (zA X) [a,b,c]=.ok x:=by
 simp -implicitDefEqProofs only [zC,zA,jYa,tG,sA,tF,tP,tK,tS,tN,Nat.reduceAdd,Nat.reduceSub,tZ,h]
def um {ss:List Sp}{b e:Nat}(h:b<=e)(he:e<=ss.length)(hn:ss.length<=1000):zH [.lst (ss.map zq),.int (b:Int),.int (e:Int)]=.ok (.int (mk ss b e)):=by
 have hT:zH=zC 3 qr:=rfl;rw[hT];refine z46 (eL1 (cmp (f:=fun s=>.int s.m) (sl rfl rfl rfl rfl rfl h he) (by have:=Zp h he;unfold cut at this;omega) fun s=>?_) (z1D _ _));have:=s3 s;generalize zq s=S at *;simp -implicitDefEqProofs only [zc,eC,zd,jYa,tD,this]
def ym (ss:List Sp)(k:Nat):Ct:=((ss[k]?).map Sp.c).getD .never
def xx (ss:List Sp)(b e:Nat):Bool:=!yC (ym ss (e-1))&&!((cut ss b (e-1)).any fun s=>xg s.c)
def UL {ss:List Sp}{k:Nat}{i:Int}(h:k<ss.length)(hi:i=k):ixD (.lst (ss.map zq)) (.int i)=.ok (zq ss[k]):=by
 rw[hi];exact qG (wd (by rw[sJ,tL h];rfl))
def uw {ss:List Sp}{k:Nat}(h:k<ss.length):ym ss k=ss[k].c:=by
 unfold ym;rw[tL h]
 rfl
def z2i (xs:List Sp):(xs.map fun s=>yI s.c)=(xs.map Sp.c).map yI:=by rw[rR];rfl
def wo {ss:List Sp}{b e:Nat}(h:b<e)(he:e<=ss.length):cut ss b e=cut ss b (e-1)++[ss[e-1]'(by omega)]:=by
 unfold cut;have e1:e-b=(e-1-b)+1:=by omega
 have e2:(ss.drop b)[e-1-b]?=some (ss[e-1]'(by omega)):=by
  rw[pM,show b+(e-1-b)=e-1 by omega];exact tL _
 rw[e1,List.take_add_one,e2]
 rfl
def QX (C:Tn->R D)(P i j:D)(L:List D)(hC:C [some P,some i,some j,none]=.ok (.lst L))(X:List D)(q:D)(a b:Bool)(h1:slD (.lst L) none (some (-1))=.ok (.lst X))(h2:inD true (.str "must") (.lst X)=.ok (.bl a))(h3:ixD (.lst L) (.int (-1))=.ok q)(h4:eqR true q (.str "never")=.ok (.bl b)):
  zC 4 (zj (zo 3 C) (zA (We (zd (inD true) (eC (.str "must")) (eSl (zc 3) wj (zX (eUn vj (eC (.int 1)))))) (zd (eqR true) (zd ixD (zc 3) (eUn vj (eC (.int 1)))) (eC (.str "never")))))) [P,i,j]=.ok (.bl (a&&b)):=by
 cases a
 ·simp -implicitDefEqProofs only [zC,zj,zo,zA,zc,eC,zd,eUn,We,eSl,wj,zX,asB,jYa,tG,sA,tF,tP,tO,tK,tS,tN,tD,tE,tH,tI,Nat.reduceAdd,Nat.reduceSub,tZ,qD,if_false,tJ,Int.reduceNeg,hC,h1,h2,h3,h4,pV]
 ·simp -implicitDefEqProofs only [zC,zj,zo,zA,zc,eC,zd,eUn,We,eSl,wj,zX,asB,jYa,tG,sA,tF,tP,tO,tK,tS,tN,tD,tE,tH,tI,Nat.reduceAdd,Nat.reduceSub,tZ,qD,if_true,Int.reduceNeg,hC,h1,h2,h3,h4,pH]
def z0R {α:Type}(xs:List α)(y:α):kN (xs++[y]) none (some (-1))=xs:=by
 unfold kN;have e:HT.sIx (xs++[y]).length (xs++[y]).length (some (-1))=xs.length:=by
  have:=HT.clip_eq (-1) (xs++[y]).length (xs++[y]).length;rw[if_pos (by decide)]at this;rw[tT,rH]at this ⊢;omega
 rw[e,HT.sIx_none,List.drop_zero,gJ,List.take_left']
 rfl
def Vu (xs:List D)(y:D):ixD (.lst (xs++[y])) (.int (-1))=.ok y:=by
 refine qG ?_;unfold atI ixN;rw[tT,rH,if_neg (by decide),if_pos (by omega)];rw[show ((-1:Int)+((xs.length+1:Nat):Int)).toNat=xs.length by omega];simp
def Vb {ss:List Sp}{b e:Nat}(h:b<e)(he:e<=ss.length)(hn:ss.length<=1000):yK [.lst (ss.map zq),.int (b:Int),.int (e:Int)]=.ok (.bl (xx ss b e)):=by
 have hT:yK=zC 4 ju:=rfl;have hk:e-1<ss.length:=by omega
 rw[hT];have hc:=cmp (τ:=[some (.lst (ss.map zq)),some (.int (b:Int)),some (.int (e:Int)),none]) (it:=xq (eSl (zc 0) (zX (zc 1)) (zX (zc 2)))) (el:=yq (zd ixD (zc 0) (eC (.int 2)))) (f:=fun s=>yI s.c) (sl (b:=b) (e:=e) rfl rfl rfl rfl rfl (by omega) (by omega)) (by have:=Zp (ss:=ss) (b:=b) (e:=e) (by omega) (by omega);unfold cut at this;omega) (fun s=>by
   have h1:=s2 s;have h2:XY (yI s.c)=.ok (yI s.c):=if_pos (QS s.c);generalize yI s.c=C at *;generalize zq s=S at *;simp -implicitDefEqProofs only [yn,zc,eC,zd,jYa,tD,h1,h2])
 have e1:((ss.drop b).take (e-b)).map (fun s=>yI s.c)=((cut ss b (e-1)).map fun s=>yI s.c)++[yI (ss[e-1]'hk).c]:=by
  have:=wo h he;unfold cut at this ⊢;rw[this,sV]
  rfl
 rw[e1]at hc;have hi:=K6 ((cut ss b (e-1)).map Sp.c);rw[<-z2i,List.any_map]at hi;have hm:D.imms (((cut ss b (e-1)).map fun s=>yI s.c)++[yI (ss[e-1]'hk).c])=true:=by
  rw[<-e1];exact xj (fun s:Sp=>QS s.c) _
 have:=QX _ _ _ _ _ hc _ _ _ _ (by rw[ZJ hm,z0R]) hi (Vu _ _) (z3e _);refine this.trans ?_;unfold xx;rw[uw hk,Bool.and_comm]
 rfl
def kF:Tn->R Bool:=(yT (zl (zd ltD (zc 2) (eL xh (za (zc 0) zg)))) (zl (zd (eqR false) (zd ixD (zd ixD (zc 0) (zd yB (zc 2) (eC (.int 1)))) (eC (.int 2))) (eC (.str "never")))))
def bF:Tn->R Fl:=(wD 2 wF (eC (.int 1)))
def jd (ss:List Sp):xh [.lst (ss.map zq)]=.ok (.int (ss.length:Int)):=by rw[WA,tM]
def z03 {ss:List Sp}{e:Nat}(h:1<=e)(he:e<=ss.length)(b:Option D):kF [some (.lst (ss.map zq)),b,some (.int (e:Int))]=.ok (decide (e<ss.length)&&yC (ym ss (e-1))):=by
 have hl:=jd ss;have hk:e-1<ss.length:=by omega
 have h1:=UL (i:=(e:Int)-1) hk (by omega);have h2:=s2 ss[e-1];have h3:=z3R ss[e-1].c;rw[uw hk]
 by_cases hc:e<ss.length
 ·have e1:decide ((e:Int)<(ss.length:Int))=true:=decide_eq_true (by omega);rw[decide_eq_true hc,pH];generalize yC ss[e-1].c=k at *;generalize yI ss[e-1].c=C at *;generalize zq ss[e-1]=q at *;generalize D.lst (ss.map zq)=P at *;generalize (e:Int)=E at *;generalize (ss.length:Int)=N at *;simp -implicitDefEqProofs only [kF,zc,eC,zd,eL,zg,za,zl,yT,asB,jYa,tD,tE,zP,xH,if_true,hl,e1,h1,h2,h3]
 ·have e1:decide ((e:Int)<(ss.length:Int))=false:=decide_eq_false (by omega);rw[decide_eq_false hc,pV];generalize D.lst (ss.map zq)=P at *;generalize (e:Int)=E at *;generalize (ss.length:Int)=N at *;simp -implicitDefEqProofs only [kF,zc,eC,zd,eL,zg,za,zl,yT,asB,jYa,tD,tE,zP,xH,if_false,tJ,hl,e1]
def Qc (i j:Int):wF (.int i) (.int j)=.ok (.int (i+j)):=rfl
def z2r (a b:Option D)(i:Int):bF [a,b,some (.int i)]=.ok (.nx [a,b,some (.int (i+1))]):=by
 simp -implicitDefEqProofs only [bF,wD,zc,eC,jYa,tD,tE,tH,tI,Qc]
def TFe (SF:Tn->R Fl):Tn->R Fl:=(zj (zo 2 (zd zI (zc 1) (eC (.int 1)))) (zj SF (zA (zc 2))))
def z21 (SF:Tn->R Fl)(P:D)(b r:Int)(h:SF [some P,some (.int b),some (.int (b+1))]=.ok (.nx [some P,some (.int b),some (.int r)])):zC 3 (TFe SF) [P,.int b]=.ok (.int r):=by
 simp -implicitDefEqProofs only [TFe,zC,zj,zo,zA,zc,eC,zd,jYa,tG,sA,tF,tP,tO,tK,tS,tN,tD,tE,tH,tI,Nat.reduceAdd,Nat.reduceSub,tZ,zQ,h]
def KW {ss:List Sp}{b:Nat}(hb:b<ss.length):∃f:Nat,yX [.lst (ss.map zq),.int (b:Int)]=.ok (.int (f:Int))/\b<f/\f<=ss.length/\(∀j,b<j->j<f->yC (ym ss (j-1))=true)/\(f=ss.length\/yC (ym ss (f-1))=false):=by
 obtain⟨τ',e1,⟨f,rfl,g1,g2,g3⟩,e2⟩:=Vx (k:=kF) (body:=bF) (fun τ=>∃f:Nat,τ=[some (.lst (ss.map zq)),some (.int (b:Int)),some (.int (f:Int))]/\b<f/\f<=ss.length/\∀j,b<j->j<f->yC (ym ss (j-1))=true)
  (fun τ:Tn=>match τ[2]? with|some (some (D.int i))=>((ss.length:Int)-i).toNat|_=>0)
  (fun τ ⟨f,ee,g1,g2,g3⟩=>by
   subst ee;have hk:=z03 (ss:=ss) (e:=f) (by omega) g2 (some (.int (b:Int)))
   by_cases hc:f<ss.length/\yC (ym ss (f-1))=true
   ·rw[decide_eq_true hc.1,hc.2]at hk;refine .inr ⟨hk,_,z2r _ _ _,⟨f+1,by push_cast;rfl,by omega,hc.1,fun j h1 h2=>?_⟩,?_⟩
    ·by_cases hj:j=f
     ·rw[hj];exact hc.2
     ·exact g3 j h1 (by omega)
    ·show ((ss.length:Int)-((f:Int)+1)).toNat<((ss.length:Int)-(f:Int)).toNat;have:=hc.1;omega
   ·refine .inl (hk.trans ?_)
    by_cases h1:f<ss.length
    ·have:yC (ym ss (f-1))=false:=by
      cases hh:yC (ym ss (f-1))with
      | true=>exact absurd ⟨h1,hh⟩ hc
      | false=>rfl
     rw[this,Bool.and_false]
    ·rw[decide_eq_false h1,pV])
  [some (.lst (ss.map zq)),some (.int (b:Int)),some (.int ((b:Int)+1))] ⟨b+1,by push_cast;rfl,by omega,by omega,fun j h1 h2=>by omega⟩
 have hT:yX=zC 3 (TFe (yy kF bF)):=rfl;refine⟨f,by rw[hT];exact z21 _ _ _ _ e1,g1,g2,g3,?_⟩;have hk:=z03 (ss:=ss) (e:=f) (by omega) g2 (some (.int (b:Int)));rw[e2]at hk;have hk:false=(decide (f<ss.length)&&yC (ym ss (f-1))):=R.ok.inj hk
 by_cases h1:f<ss.length
 ·right
  rw[decide_eq_true h1,pH]at hk;exact hk.symm
 ·left
  omega
def bh (ss:List Sp)(b e:Nat):Int:=((cut ss b e).map Sp.h).sum+((cut ss (b+1) e).map Sp.g).sum
def fh (xs:List Int):Int:=if xs=[] then 0 else 1+xs.sum
def wC (hs:List Int)(b e:Nat):List Int:=(hs.drop b).take (e-b)
def hsl (hs:List Int){b e:Nat}(h:b<=e)(he:e<=hs.length):slD (.lst (hs.map D.int)) (some (b:Int)) (some (e:Int))=.ok (.lst ((wC hs b e).map D.int)):=by
 rw[ZJ (xj (fun _=>rfl) hs),UN (by rw[tM];exact he) h,uI]
 rfl
def hgt (ss:List Sp)(hs:List Int)(b e:Nat)(lo hi:Nat):Int:=bh ss b e+fh (wC hs lo hi)
structure Lf (ss:List Sp)(hs:List Int)(b e fa ow:Nat)(a t:Int):Prop where
 be:b<e
 en:e<=ss.length
 n:ss.length<=1000
 m1:mk ss 0 b=(fa:Int)
 m2:mk ss b e=(ow:Int)
 hl:fa+ow<=hs.length
 a0:0<=a
 a1:a<=(fa:Int)
 t0:0<=t
section
variable {ss:List Sp}{hs:List Int}{b e fa ow:Nat}{a t:Int}
def J9 {ss:List Sp}{b e:Nat}(h:b<e)(he:e<=ss.length):cut ss b e=ss[b]'(by omega)::cut ss (b+1) e:=by
 unfold cut;rw[sQ (by omega),show e-b=(e-(b+1))+1 by omega,List.take_succ_cons]
def z29 (xs:List Sp):(xs.map fun s=>s.g+s.h).sum=(xs.map Sp.g).sum+(xs.map Sp.h).sum:=by
 induction xs with
 | nil=>rfl
 | cons x xs ih =>
  rw[tG,tG,tG,pS,pS,pS,ih];omega
def XU (L:List D):eqR true (.lst L) (.lst [])=.ok (.bl (!L.isEmpty)):=by cases L<;>rfl
def z15 (X:Tn->R D)(P Hs b e a t:D)(W:List Int)(q:D)(g0 m o av tv:Int)(F1 F2 F3:List D)(sm:Int)(ha:a=.int av)(ht:t=.int tv)(hX:X [some P,some Hs,some b,some e,some a,some t,none,none,none,none,none]=.ok (.lst (W.map D.int)))(h1:ixD P b=.ok q)(h2:ixD q (.int 0)=.ok (.int g0))
  (h3:zH [P,.int 0,b]=.ok (.int m)) (h4:zH [P,b,e]=.ok (.int o)) (h5:slD Hs (some (m-av)) (some m)=.ok (.lst F1)) (h6:slD Hs (some m) (some (m+o-tv))=.ok (.lst F2)) (h7:zI (.lst F1) (.lst F2)=.ok (.lst F3)) (h8:vJ [.lst F3]=.ok (.int sm)):
  zC 11 (zj (zo 6 X) (zj (zo 7 (zd yB (eL vJ (za (zc 6) zg)) (zd ixD (zd ixD (zc 0) (zc 2)) (eC (.int 0))))) (zj (zo 8 (eL zH (za (zc 0) (za (eC (.int 0)) (za (zc 2) zg))))) (zj (zo 9 (eL zH (za (zc 0) (za (zc 2) (za (zc 3) zg))))) (zj (zo 10 (eSl (zc 1) (zX (zd yB (zc 8) (zc 4))) (zX (zc 8)))) (zj (zo 10 (zd zI (zc 10) (eSl (zc 1) (zX (zc 8)) (zX (zd yB (zd zI (zc 8) (zc 9)) (zc 5)))))) (zj (sIf (zl (zd (eqR true) (zc 10) (eL (fun ds=>.ok (.lst ds)) zg))) (zo 7 (zd zI (zd zI (zc 7) (eC (.int 1))) (eL vJ (za (zc 10) zg)))) zt) (zA (zc 7)))))))))
   [P,Hs,b,e,a,t]=.ok (.int (if F3.isEmpty=true then W.sum-g0 else W.sum-g0+1+sm)):=by
 subst ha ht;have h9:=XU F3;have hsW:=XG (ns:=W);generalize D.lst (W.map D.int)=Wd at *;cases hz:F3.isEmpty with
 | true =>
  rw[hz]at h9;rw[if_pos rfl];simp -implicitDefEqProofs only [zt,zC,zj,zo,zA,sIf,zc,eC,zd,eL,zg,za,zl,eSl,zX,asB,jYa,tG,sA,tF,tP,tO,tK,tS,tN,tD,tE,tH,tI,Nat.reduceAdd,Nat.reduceSub,tZ,zQ,zP,if_false,tJ,hX,hsW,h1,h2,h3,h4,h5,h6,h7,h8,h9,sZ]
 | false =>
  rw[hz]at h9;rw[if_neg tX];simp -implicitDefEqProofs only [zt,zC,zj,zo,zA,sIf,zc,eC,zd,eL,zg,za,zl,eSl,zX,asB,jYa,tG,sA,tF,tP,tO,tK,tS,tN,tD,tE,tH,tI,Nat.reduceAdd,Nat.reduceSub,tZ,zQ,zP,if_true,hX,hsW,h1,h2,h3,h4,h5,h6,h7,h8,h9,rA]
def YD (hs:List Int){x y z:Nat}(h1:x<=y)(h2:y<=z):wC hs x y++wC hs y z=wC hs x z:=by
 unfold wC;have e1:z-x=(y-x)+(z-y):=by omega
 rw[e1,List.take_add,List.drop_drop,show x+(y-x)=y by omega]
def z2E (L:Lf ss hs b e fa ow a t)(ht:t<=(ow:Int))(hh:hs.length<=1000):xu [.lst (ss.map zq),.lst (hs.map D.int),.int (b:Int),.int (e:Int),.int a,.int t]=.ok (.int (hgt ss hs b e ((fa:Int)-a).toNat ((fa:Int)+ow-t).toNat)):=by
 have hbn:b<ss.length:=by have:=L.be;have:=L.en;omega
 have h1:=um (ss:=ss) (b:=0) (e:=b) (by omega) (by omega) L.n;have h2:=um (ss:=ss) (b:=b) (e:=e) (by have:=L.be;omega) L.en L.n;rw[L.m1]at h1;rw[L.m2]at h2;have q1:=L.a1;have q2:=L.hl;have q3:=L.a0;have q4:=L.t0;have l1:=Zp (ss:=ss) (b:=b) (e:=e) (by have:=L.be;omega) L.en;have l1':=l1;unfold cut at l1;have hX:yg [none] (xq (eSl (zc 0) (zX (zc 2)) (zX (zc 3)))) (.one 0) (fun _=>.ok true) (zd zI (zd ixD (zc 0) (eC (.int 0))) (zd ixD (zc 0) (eC (.int 1)))) [some (.lst (ss.map zq)),some (.lst (hs.map D.int)),some (.int (b:Int)),some (.int (e:Int)),some (.int a),some (.int t),none,none,none,none,none]=.ok (.lst (((cut ss b e).map fun s=>s.g+s.h).map D.int)):=by
  rw[rR];refine cmp (f:=fun s=>.int (s.g+s.h)) (sl rfl rfl rfl rfl rfl (by have:=L.be;omega) L.en) (by have:=L.n;have:=L.en;omega) fun s=>?_;have g0:=s0 s;have g1:=s1 s;generalize zq s=S at *;simp -implicitDefEqProofs only [zc,eC,zd,jYa,tD,zQ,g0,g1]
 have e1:(fa:Int)-a=((((fa:Int)-a).toNat:Nat):Int):=by omega
 have e2:(fa:Int)+ow-t=((((fa:Int)+ow-t).toNat:Nat):Int):=by omega
 have s5:=hsl hs (b:=((fa:Int)-a).toNat) (e:=fa) (by omega) (by omega);have s6:=hsl hs (b:=fa) (e:=((fa:Int)+ow-t).toNat) (by omega) (by omega);rw[<-e1]at s5;rw[<-e2]at s6;have hT:xu=zC 11 j6:=rfl;have ha:=YD hs (x:=((fa:Int)-a).toNat) (y:=fa) (z:=((fa:Int)+ow-t).toNat) (by omega) (by omega);have s7:zI (.lst ((wC hs ((fa:Int)-a).toNat fa).map D.int)) (.lst ((wC hs fa ((fa:Int)+ow-t).toNat).map D.int))=.ok (.lst ((wC hs ((fa:Int)-a).toNat ((fa:Int)+ow-t).toNat).map D.int)):=by
  rw[<-ha,sV];refine if_pos ⟨xj (fun _=>rfl) _,xj (fun _=>rfl) _,?_⟩;rw[tM,tM,sizeLine_eq];unfold wC;rw[rE,rE,pB,pB];omega
 have:=z15 _ _ _ _ _ _ _ _ _ _ _ _ a t _ _ _ _ rfl rfl hX (UL hbn rfl) (s0 _) h1 h2 s5 s6 s7 XG;rw[hT];refine this.trans ?_;unfold hgt bh fh;rw[z29];have c1:=J9 L.be L.en;have e5:((cut ss b e).map Sp.g).sum=(ss[b]'hbn).g+((cut ss (b+1) e).map Sp.g).sum:=by rw[c1,tG,pS]
 rw[e5];generalize wC hs ((fa:Int)-a).toNat ((fa:Int)+ow-t).toNat=X;cases X with
 | nil =>
  have hz:((List.map D.int ([]:List Int)).isEmpty)=true:=rfl;rw[if_pos hz,if_pos rfl];congr 2;omega
 | cons x xs =>
  have hz:¬((List.map D.int (x::xs)).isEmpty)=true:=by simp
  rw[if_neg hz,if_neg (show ¬(x::xs)=[] by simp)];congr 2;omega
end
def cN:Ct->Int
 | .num n=>n
 | _=>0
def Wb (last:Bool)(c:Ct)(bey lr ov t:Int):Int:=
 lr*t+(if 0<bey then ov*bey else 0)+(if (last||xg c)=true then 0 else (if bey<0 then bey*bey else 0)+cN c)
def cw (last:Bool)(c:Ct)(bey lr ov t own:Int)(less:Bool):D:=if 0<bey/\(less||(!last&&decide (t<own)))=true then .non else .int (Wb last c bey lr ov t)
def uD:Tn->R Fl:=(zj (zo 9 (zd xp (zd ixD (zc 1) (eC (.str "late"))) (zc 5))) (zj (sIf (zl (zd gtD (zc 8) (eC (.int 0)))) (wD 9 wF (zd xp (zd ixD (zc 1) (eC (.str "over"))) (zc 8))) zt) (zj (zo 10 (zd ixD (zd ixD (zc 0) (zd yB (zc 3) (eC (.int 1)))) (eC (.int 2)))) (zj (sIf (bOr (zl (zc 7)) (zl (zd (eqR false) (zc 10) (eC (.str "must"))))) (zA (zc 9)) zt) (zj (sIf (zl (zd ltD (zc 8) (eC (.int 0)))) (wD 9 wF (zd xp (zc 8) (zc 8))) zt) (zA (zd zI (zc 9) (zc 10))))))))
def Ki (P L q:D)(b e own t ht bey lr ov:Int)(last:Bool)(c:Ct)(hc:(last||xg c)=false->yC c=false)(h1:ixD L (.str "late")=.ok (.int lr))(h2:ixD L (.str "over")=.ok (.int ov))(h3:ixD P (.int (e-1))=.ok q)(h4:ixD q (.int 2)=.ok (yI c))
  (b1:-1000000000<lr/\lr<1000000000) (b2:-1000000000<ov/\ov<1000000000) (b3:-1000000000<bey/\bey<1000000000):
  uD [some P,some L,some (.int b),some (.int e),some (.int own),some (.int t),some (.int ht),some (.bl last),some (.int bey),none,none]=.ok (.rt (.int (Wb last c bey lr ov t))):=by
 have m1:xp (.int lr) (.int t)=.ok (.int (lr*t)):=vz (by omega) (by omega);have m2:xp (.int ov) (.int bey)=.ok (.int (ov*bey)):=vz (by omega) (by omega);have m3:xp (.int bey) (.int bey)=.ok (.int (bey*bey)):=vz (by omega) (by omega);have hmu:=z1l c;have hsum:∀x:Int,(last||xg c)=false->zI (.int x) (yI c)=.ok (.int (x+cN c)):=fun x h=>by
  have:=hc h;cases c with
  | num n=>rfl
  | never=>cases this
  | must=>cases last<;>cases h
 unfold Wb;have key:∀(x:Int),(if (last||xg c)=true then R.ok (Fl.rt (D.int x)) else R.ok (Fl.rt (.int (x+((if bey<0 then bey*bey else 0)+cN c)))))=R.ok (Fl.rt (.int (x+(if (last||xg c)=true then 0 else (if bey<0 then bey*bey else 0)+cN c)))):=fun x=>by
  split
  ·rw[gB]
  ·rfl
 rw[<-key]
 by_cases p1:0<bey
 ·have d1:decide (0<bey)=true:=decide_eq_true p1;have d2:decide (bey<0)=false:=decide_eq_false (by omega);rw[if_pos p1,if_neg (show ¬bey<0 by omega)];cases hl:last with
  | true =>
   simp -implicitDefEqProofs only [uD,zt,zj,zo,zA,sIf,wD,zc,eC,zd,zl,bOr,asB,jYa,tD,tE,tH,tI,zP,yr,if_true,h1,h2,h3,h4,m1,m2,d1,Qc,gC]
  | false =>
   cases hm:xg c with
   | true =>
    rw[hm]at hmu;simp -implicitDefEqProofs only [uD,zt,zj,zo,zA,sIf,wD,zc,eC,zd,zl,bOr,asB,jYa,tD,tE,tH,tI,zP,yr,if_true,if_false,tJ,h1,h2,h3,h4,m1,m2,d1,Qc,hmu,pT]
   | false =>
    rw[hm]at hmu;have hs:=hsum (lr*t+ov*bey) (by rw[hl,hm];rfl);rw[gK];simp -implicitDefEqProofs only [uD,zt,zj,zo,zA,sIf,wD,zc,eC,zd,zl,bOr,asB,jYa,tD,tE,tH,tI,zP,xH,yr,if_true,if_false,tJ,h1,h2,h3,h4,m1,m2,d1,d2,Qc,hmu,hs,pT]
 ·have d1:decide (0<bey)=false:=decide_eq_false p1;rw[if_neg p1,gB];cases hl:last with
  | true =>
   simp -implicitDefEqProofs only [uD,zt,zj,zo,zA,sIf,wD,zc,eC,zd,zl,bOr,asB,jYa,tD,tE,tH,tI,zP,yr,if_true,if_false,tJ,h1,h3,h4,m1,d1,gC]
  | false =>
   cases hm:xg c with
   | true =>
    rw[hm]at hmu;simp -implicitDefEqProofs only [uD,zt,zj,zo,zA,sIf,wD,zc,eC,zd,zl,bOr,asB,jYa,tD,tE,tH,tI,zP,yr,if_true,if_false,tJ,h1,h3,h4,m1,d1,hmu,pT]
   | false =>
    rw[hm]at hmu
    by_cases p2:bey<0
    ·have d2:decide (bey<0)=true:=decide_eq_true p2;have hs:=hsum (lr*t+bey*bey) (by rw[hl,hm];rfl);rw[if_pos p2,<-Int.add_assoc];simp -implicitDefEqProofs only [uD,zt,zj,zo,zA,sIf,wD,zc,eC,zd,zl,bOr,asB,jYa,tD,tE,tH,tI,zP,xH,yr,if_true,if_false,tJ,h1,h3,h4,m1,m3,d1,d2,Qc,hmu,hs,pT]
    ·have d2:decide (bey<0)=false:=decide_eq_false p2;have hs:=hsum (lr*t) (by rw[hl,hm];rfl);rw[if_neg p2,gK];simp -implicitDefEqProofs only [uD,zt,zj,zo,zA,sIf,wD,zc,eC,zd,zl,bOr,asB,jYa,tD,tE,tH,tI,zP,xH,yr,if_false,tJ,h1,h3,h4,m1,d1,d2,hmu,hs,pT]
def TCa (R0:Tn->R Fl):Tn->R Fl:=(zj (zo 7 (zd (eqR false) (zc 3) (eL xh (za (zc 0) zg)))) (zj (zo 8 (zd yB (zc 6) (zd ixD (zc 1) (eC (.str "height"))))) (zj (sIf (yT (zl (zd gtD (zc 8) (eC (.int 0)))) (bOr (zl (zd gtD (zc 3) (eL yX (za (zc 0) (za (zc 2) zg))))) (yT (xy (zl (zc 7))) (zl (zd ltD (zc 5) (zc 4)))))) (zA (eC .non)) zt) R0)))
def z27 (R0:Tn->R Fl)(P L:D)(b e own t ht H n f v:Int)(hl:xh [P]=.ok (.int n))(hH:ixD L (.str "height")=.ok (.int H))(hf:yX [P,.int b]=.ok (.int f))(hr:R0 [some P,some L,some (.int b),some (.int e),some (.int own),some (.int t),some (.int ht),some (.bl (e==n)),some (.int (ht-H)),none,none]=.ok (.rt (.int v))):
  zC 11 (TCa R0) [P,L,.int b,.int e,.int own,.int t,.int ht]=.ok (if 0<ht-H/\(decide (f<e)||(!(e==n)&&decide (t<own)))=true then .non else .int v):=by
 have hq:eqR false (.int e) (.int n)=.ok (.bl (e==n)):=xY;generalize (e==n)=last at *
 by_cases p1:0<ht-H
 ·have d1:decide (0<ht-H)=true:=decide_eq_true p1;cases h1:decide (f<e)with
  | true =>
   rw[if_pos ⟨p1,by rw[gC]⟩];simp -implicitDefEqProofs only [TCa,zt,zC,zj,zo,zA,sIf,zc,eC,zd,eL,zg,za,zl,yT,bOr,xy,asB,jYa,tG,sA,tF,tP,tO,tK,tS,tN,tD,tE,tH,tI,Nat.reduceAdd,Nat.reduceSub,tZ,zP,xH,yr,if_true,hl,hq,hH,hf,d1,h1]
  | false =>
   cases last with
   | true =>
    rw[if_neg (by rintro⟨_,z⟩;cases z)];simp -implicitDefEqProofs only [TCa,zt,zC,zj,zo,zA,sIf,zc,eC,zd,eL,zg,za,zl,yT,bOr,xy,asB,jYa,tG,sA,tF,tP,tO,tK,tS,tN,tD,tE,tH,tI,Nat.reduceAdd,Nat.reduceSub,tZ,zP,xH,yr,if_true,if_false,tJ,hl,hq,hH,hf,d1,h1,hr,sZ]
   | false =>
    cases h2:decide (t<own)with
    | true =>
     rw[if_pos ⟨p1,by rfl⟩];simp -implicitDefEqProofs only [TCa,zt,zC,zj,zo,zA,sIf,zc,eC,zd,eL,zg,za,zl,yT,bOr,xy,asB,jYa,tG,sA,tF,tP,tO,tK,tS,tN,tD,tE,tH,tI,Nat.reduceAdd,Nat.reduceSub,tZ,zP,xH,yr,if_true,if_false,tJ,hl,hq,hH,hf,d1,h1,h2,rA]
    | false =>
     rw[if_neg (by rintro⟨_,z⟩;cases z)];simp -implicitDefEqProofs only [TCa,zt,zC,zj,zo,zA,sIf,zc,eC,zd,eL,zg,za,zl,yT,bOr,xy,asB,jYa,tG,sA,tF,tP,tO,tK,tS,tN,tD,tE,tH,tI,Nat.reduceAdd,Nat.reduceSub,tZ,zP,xH,yr,if_true,if_false,tJ,hl,hq,hH,hf,d1,h1,h2,hr,rA]
 ·have d1:decide (0<ht-H)=false:=decide_eq_false p1;rw[if_neg (fun z=>p1 z.1)];simp -implicitDefEqProofs only [TCa,zt,zC,zj,zo,zA,sIf,zc,eC,zd,eL,zg,za,zl,yT,bOr,xy,asB,jYa,tG,sA,tF,tP,tO,tK,tS,tN,tD,tE,tH,tI,Nat.reduceAdd,Nat.reduceSub,tZ,zP,xH,yr,if_false,tJ,decide_eq_true_eq,hl,hq,hH,hf,d1,hr]
def Zk:Tn->R Fl:=(zj (sIf (yT (xy (zl (zc 8))) (zl (zd (eqR true) (zd ixD (zd ixD (zc 0) (zd yB (zc 4) (eC (.int 1)))) (eC (.int 2))) (eC (.str "must"))))) (zo 10 (zd zI (zc 10) (zd ixD (zd ixD (zc 0) (zd yB (zc 4) (eC (.int 1)))) (eC (.int 2))))) zt) (zA (zd zI (zc 10) (zd xp (zc 6) (zd ixD (zc 2) (eC (.str "late")))))))
def Qq (P Hs L q:D)(b e a t own fo sp lr:Int)(last:Bool)(c:Ct)(x:Option D)(hc:(last||xg c)=false->yC c=false)(h1:ixD L (.str "late")=.ok (.int lr))(h3:ixD P (.int (e-1))=.ok q)(h4:ixD q (.int 2)=.ok (yI c))(b1:-1000000000<lr/\lr<1000000000):
  Zk [some P,some Hs,some L,some (.int b),some (.int e),some (.int a),some (.int t),some (.int own),some (.bl last),some (.int sp),some (.int fo),x]=.ok (.rt (.int (fo+(if (last||xg c)=true then 0 else cN c)+t*lr))):=by
 have m1:xp (.int t) (.int lr)=.ok (.int (t*lr)):=ZK (by omega) (by omega);have hmu:=z3w c;cases hl:last with
 | true =>
  rw[gC,if_pos rfl,gB];simp -implicitDefEqProofs only [Zk,zt,zj,zo,zA,sIf,zc,eC,zd,zl,yT,xy,asB,jYa,tD,tE,tH,tI,zQ,zP,if_false,tJ,h1,m1,sZ]
 | false =>
  cases hm:xg c with
  | true =>
   rw[hm]at hmu;rw[Bool.or_true,if_pos rfl,gB];simp -implicitDefEqProofs only [Zk,zt,zj,zo,zA,sIf,zc,eC,zd,zl,yT,xy,asB,jYa,tD,tE,tH,tI,zQ,zP,if_true,if_false,tJ,h1,h3,h4,hmu,m1,sZ,rA]
  | false =>
   rw[hm]at hmu;have hs:zI (.int fo) (yI c)=.ok (.int (fo+cN c)):=by
    have:=hc (by rw[hl,hm];rfl);cases c with
    | num n=>rfl
    | never=>cases this
    | must=>cases hm
   rw[gO,if_neg tX];simp -implicitDefEqProofs only [Zk,zt,zj,zo,zA,sIf,zc,eC,zd,zl,yT,xy,asB,jYa,tD,tE,tH,tI,zQ,zP,if_true,h1,h3,h4,hmu,m1,hs,rA]
def CL:Tn->R D:=(yg [none,some 0,some 3] (iL uo (za (zd zI (zc 3) (eC (.int 1))) (za (zc 4) zg))) (.one 0) (zl (eL yK (za (zc 1) (za (zc 2) (za (zc 0) zg))))) (yq (zc 0)))
def TLl (C:Tn->R D)(R0:Tn->R Fl):Tn->R Fl:=(zj (zo 7 (eL zH (za (zc 0) (za (zc 3) (za (zc 4) zg))))) (zj (zo 8 (zd (eqR false) (zc 4) (eL xh (za (zc 0) zg)))) (zj (sIf (bOr (xy (zl (eL yK (za (zc 0) (za (zc 3) (za (zc 4) zg)))))) (bOr (zl (zd gtD (zc 6) (zc 7))) (yT (zl (zd gtD (zc 6) (eC (.int 0)))) (zl (zc 8))))) (zA (eC .non)) zt) (zj (zo 9 (zd yB (zd ixD (zc 2) (eC (.str "height"))) (eL xu (za (zc 0) (za (zc 1) (za (zc 3) (za (zc 4) (za (zc 5) (za (zc 6) zg))))))))) (zj (zo 10 (zd xp (zc 9) (zc 9))) (zj (sIf (zl (zd ltD (zc 9) (eC (.int 0)))) (zj (zo 11 C) (zj (sIf (bOr (zl (zd (eqR true) (zc 11) (eL (fun ds=>.ok (.lst ds)) zg))) (yT (zl (zd ltD (zc 6) (zc 7))) (xy (zl (zc 8))))) (zA (eC .non)) zt) (zo 10 (zd xp (zd yB (eC (.int 0)) (zc 9)) (zd ixD (zc 2) (eC (.str "over"))))))) (sIf (bOr (zl (zc 8)) (zl (zd (eqR false) (zd ixD (zd ixD (zc 0) (zd yB (zc 4) (eC (.int 1)))) (eC (.int 2))) (eC (.str "must"))))) (zo 10 (eC (.int 0))) zt)) R0))))))
def z26 (C:Tn->R D)(R0:Tn->R Fl)(P Hs L q:D)(b e a t n own H hg ov:Int)(may:Bool)(c:Ct)(LS:List D)(f:Int->Int)(hl:xh [P]=.ok (.int n))(ho:zH [P,.int b,.int e]=.ok (.int own))(hm:yK [P,.int b,.int e]=.ok (.bl may))(hH:ixD L (.str "height")=.ok (.int H))(hov:ixD L (.str "over")=.ok (.int ov))(t0:0<=t)(o0:0<=own)
  (h3:ixD P (.int (e-1))=.ok q) (h4:ixD q (.int 2)=.ok (yI c)) (b2:-1000000000<ov/\ov<1000000000) (b3:-1000000000<hg-H/\hg-H<1000000000)
  (hh:may=true->t<=(if (e==n)=true then 0 else own)->xu [P,Hs,.int b,.int e,.int a,.int t]=.ok (.int hg)/\C [some P,some Hs,some L,some (.int b),some (.int e),some (.int a),some (.int t),some (.int own),some (.bl (e==n)),some (.int (H-hg)),some (.int ((H-hg)*(H-hg))),none]=.ok (.lst LS)/\∀fo x,R0 [some P,some Hs,some L,some (.int b),some (.int e),some (.int a),some (.int t),some (.int own),some (.bl (e==n)),some (.int (H-hg)),some (.int fo),x]=.ok (.rt (.int (f fo)))):
  zC 12 (TLl C R0) [P,Hs,L,.int b,.int e,.int a,.int t]=.ok (if may=true/\t<=(if (e==n)=true then 0 else own) then (if 0<hg-H/\(!LS.isEmpty||(!(e==n)&&decide (t<own)))=true then .non else .int (f (if 0<hg-H then (hg-H)*ov else if ((e==n)||xg c)=true then 0 else (hg-H)*(hg-H)))) else .non):=by
 have hq:eqR false (.int e) (.int n)=.ok (.bl (e==n)):=xY;have hmu:=z1l c;have hn:=XU LS;have m3:xp (.int (H-hg)) (.int (H-hg))=.ok (.int ((H-hg)*(H-hg))):=vz (by omega) (by omega);have m2:xp (.int (0-(H-hg))) (.int ov)=.ok (.int ((0-(H-hg))*ov)):=ZK (by omega) (by omega);have esq:(H-hg)*(H-hg)=(hg-H)*(hg-H):=by
  rw[show H-hg=-(hg-H) by omega,Int.neg_mul_neg]
 have eov:(0-(H-hg))*ov=(hg-H)*ov:=by rw[show 0-(H-hg)=hg-H by omega]
 generalize (e==n)=last at *;cases may with
 | false =>
  rw[if_neg (by rintro⟨z,_⟩;cases z)];simp -implicitDefEqProofs only [TLl,zt,zC,zj,zo,zA,sIf,zc,eC,zd,eL,zg,za,zl,yT,bOr,xy,asB,jYa,tG,sA,tF,tP,tO,tK,tS,tN,tD,tE,tH,tI,Nat.reduceAdd,Nat.reduceSub,tZ,yr,if_true,decide_eq_true_eq,hl,ho,hq,hm,rA]
 | true =>
  by_cases p:t<=(if last=true then 0 else own)
  ·obtain⟨g1,g2,g3⟩:=hh rfl p;have d1:decide (own<t)=false:=decide_eq_false (by cases last<;>simp at p<;>omega);have d2:(if decide (0<t)=true then last else false)=false:=by
    cases last with
    | false=>split<;>rfl
    | true=>simp at p;rw[decide_eq_false (by omega)];rfl
   rw[if_pos ⟨rfl,p⟩];have d2':∀ {α:Type} (x y:α),(if decide (0<t)=true then (if last=true then x else y) else y)=y:=fun x y=>by
    cases last with
    | false=>split<;>rfl
    | true=>simp at p;rw[decide_eq_false (by omega)];rfl
   by_cases p1:0<hg-H
   ·have d3:decide (H-hg<0)=true:=decide_eq_true (by omega);rw[if_pos p1];cases hz:LS.isEmpty with
    | false =>
     rw[hz]at hn;rw[if_pos ⟨p1,by rfl⟩];cases last
     ·have d0:decide (0<t)=true\/decide (0<t)=false:=by cases decide (0<t)<;>simp
      rcases d0 with d0|d0<;>simp -implicitDefEqProofs only [TLl,zt,zC,zj,zo,zA,sIf,zc,eC,zd,eL,zg,za,zl,yT,bOr,xy,asB,jYa,tG,sA,tF,tP,tO,tK,tS,tN,tD,tE,tH,tI,Nat.reduceAdd,Nat.reduceSub,tZ,zP,xH,yr,if_true,if_false,tJ,decide_eq_true_eq,hl,ho,hq,hm,d0,d1,hH,g1,m3,d3,g2,hn,sZ,rA]
     ·have d0:decide (0<t)=false:=decide_eq_false (by simp at p;omega);simp -implicitDefEqProofs only [TLl,zt,zC,zj,zo,zA,sIf,zc,eC,zd,eL,zg,za,zl,yT,bOr,xy,asB,jYa,tG,sA,tF,tP,tO,tK,tS,tN,tD,tE,tH,tI,Nat.reduceAdd,Nat.reduceSub,tZ,zP,xH,yr,if_true,if_false,tJ,decide_eq_true_eq,hl,ho,hq,hm,d0,d1,hH,g1,m3,d3,g2,hn,sZ,rA]
    | true =>
     rw[hz]at hn;cases last with
     | true =>
      have d0:decide (0<t)=false:=decide_eq_false (by simp at p;omega);rw[if_neg (by rintro⟨_,z⟩;cases z)];cases d4:decide (t<own)<;>simp -implicitDefEqProofs only [TLl,zt,zC,zj,zo,zA,sIf,zc,eC,zd,eL,zg,za,zl,yT,bOr,xy,asB,jYa,tG,sA,tF,tP,tO,tK,tS,tN,tD,tE,tH,tI,Nat.reduceAdd,Nat.reduceSub,tZ,zP,xH,yr,if_true,if_false,tJ,hl,ho,hq,hm,d0,d1,d4,hH,g1,m3,d3,g2,hn,hov,m2,eov,g3,sZ]
     | false =>
      have d0:decide (0<t)=true\/decide (0<t)=false:=by cases decide (0<t)<;>simp
      cases d4:decide (t<own)with
      | true =>
       rw[if_pos ⟨p1,by rfl⟩];rcases d0 with d0|d0<;>simp -implicitDefEqProofs only [TLl,zt,zC,zj,zo,zA,sIf,zc,eC,zd,eL,zg,za,zl,yT,bOr,xy,asB,jYa,tG,sA,tF,tP,tO,tK,tS,tN,tD,tE,tH,tI,Nat.reduceAdd,Nat.reduceSub,tZ,zP,xH,yr,if_true,if_false,tJ,hl,ho,hq,hm,d0,d1,d4,hH,g1,m3,d3,g2,hn,sZ,rA]
      | false =>
       rw[if_neg (by rintro⟨_,z⟩;cases z)];rcases d0 with d0|d0<;>simp -implicitDefEqProofs only [TLl,zt,zC,zj,zo,zA,sIf,zc,eC,zd,eL,zg,za,zl,yT,bOr,xy,asB,jYa,tG,sA,tF,tP,tO,tK,tS,tN,tD,tE,tH,tI,Nat.reduceAdd,Nat.reduceSub,tZ,zP,xH,yr,if_true,if_false,tJ,hl,ho,hq,hm,d0,d1,d4,hH,g1,m3,d3,g2,hn,hov,m2,eov,g3,sZ,rA]
   ·have d3:decide (H-hg<0)=false:=decide_eq_false (by omega);rw[if_neg (fun z=>p1 z.1),if_neg p1];cases last with
    | true =>
     have d0:decide (0<t)=false:=decide_eq_false (by simp at p;omega);rw[gC,if_pos rfl];simp -implicitDefEqProofs only [TLl,zt,zC,zj,zo,zA,sIf,zc,eC,zd,eL,zg,za,zl,yT,bOr,xy,asB,jYa,tG,sA,tF,tP,tO,tK,tS,tN,tD,tE,tH,tI,Nat.reduceAdd,Nat.reduceSub,tZ,zP,xH,yr,if_true,if_false,tJ,hl,ho,hq,hm,d0,d1,hH,g1,m3,d3,g3,sZ]
    | false =>
     have d0:decide (0<t)=true\/decide (0<t)=false:=by cases decide (0<t)<;>simp
     cases hmm:xg c with
     | true =>
      rw[hmm]at hmu;rw[Bool.or_true,if_pos rfl];rcases d0 with d0|d0<;>simp -implicitDefEqProofs only [TLl,zt,zC,zj,zo,zA,sIf,zc,eC,zd,eL,zg,za,zl,yT,bOr,xy,asB,jYa,tG,sA,tF,tP,tO,tK,tS,tN,tD,tE,tH,tI,Nat.reduceAdd,Nat.reduceSub,tZ,zP,xH,yr,if_true,if_false,tJ,hl,ho,hq,hm,d0,d1,hH,g1,m3,d3,h3,h4,hmu,g3,sZ]
     | false =>
      rw[hmm]at hmu;rw[gO,if_neg tX,<-esq];rcases d0 with d0|d0<;>simp -implicitDefEqProofs only [TLl,zt,zC,zj,zo,zA,sIf,zc,eC,zd,eL,zg,za,zl,yT,bOr,xy,asB,jYa,tG,sA,tF,tP,tO,tK,tS,tN,tD,tE,tH,tI,Nat.reduceAdd,Nat.reduceSub,tZ,zP,xH,yr,if_true,if_false,tJ,hl,ho,hq,hm,d0,d1,hH,g1,m3,d3,h3,h4,hmu,g3,sZ]
  ·rw[if_neg (fun z=>p z.2)];cases last with
   | true =>
    simp only[if_true]at p;have d0:decide (0<t)=true:=decide_eq_true (by omega);cases d1:decide (own<t)<;>simp -implicitDefEqProofs only [TLl,zt,zC,zj,zo,zA,sIf,zc,eC,zd,eL,zg,za,zl,yT,bOr,xy,asB,jYa,tG,sA,tF,tP,tO,tK,tS,tN,tD,tE,tH,tI,Nat.reduceAdd,Nat.reduceSub,tZ,yr,if_true,if_false,tJ,hl,ho,hq,hm,d0,d1,sZ]
   | false =>
    simp only[tJ,if_false]at p;have d1:decide (own<t)=true:=decide_eq_true (by omega);simp -implicitDefEqProofs only [TLl,zt,zC,zj,zo,zA,sIf,zc,eC,zd,eL,zg,za,zl,yT,bOr,xy,asB,jYa,tG,sA,tF,tP,tO,tK,tS,tN,tD,tE,tH,tI,Nat.reduceAdd,Nat.reduceSub,tZ,yr,if_true,if_false,tJ,decide_eq_true_eq,hl,ho,hq,hm,d1,sZ]
def z2B {ss:List Sp}{b e:Nat}(h:b<e)(he:e<=ss.length)(hn:ss.length<=1000)(o1 o2 o5 o6 o7 o8 o9 o10 o11:Option D):
  CL [some (.lst (ss.map zq)),o1,o2,some (.int (b:Int)),some (.int (e:Int)),o5,o6,o7,o8,o9,o10,o11]=.ok (.lst ((List.range (e-b-1)).filterMap fun i=>if xx ss b (b+1+i)=true then some (D.int ((b:Int)+1+i)) else none)):=by
 have hc:=qS (f:=wm (Tgt.one 0).asg (zl (eL yK (za (zc 1) (za (zc 2) (za (zc 0) zg))))) (yq (zc 0)) [none,some (.lst (ss.map zq)),some (.int (b:Int))]) (o:=fun i=>if xx ss b (b+1+i)=true then some (D.int ((b:Int)+1+i)) else none) (lo:=(b:Int)+1) (n:=e-b-1) fun i hi=>by
  have hm:=Vb (ss:=ss) (b:=b) (e:=b+1+i) (by omega) (by omega) hn;have e1:(((b+1+i:Nat):Int))=(b:Int)+1+i:=by push_cast;rfl
  rw[e1]at hm;generalize xx ss b (b+1+i)=k at *;generalize D.lst (ss.map zq)=P at *;generalize (b:Int)+1+i=j at *;cases k<;>simp -implicitDefEqProofs only [wm,Zn,yn,wH,zc,eL,zg,za,zl,asB,Tgt.asg,jYa,tD,tE,tH,if_true,if_false,tJ,hm,if_true,tJ,if_false]
 have e1:uo [.int ((b:Int)+1),.int (e:Int)]=.ok (rng ((b:Int)+1) (e-b-1)):=by
  rw[Yj (by omega) (by omega) (by omega) (by omega)];congr 2;omega
 have hl:((List.range (e-b-1)).filterMap fun i=>if xx ss b (b+1+i)=true then some (D.int ((b:Int)+1+i)) else none).length<=16777216:=by
  have:=gD (fun i=>if xx ss b (b+1+i)=true then some (D.int ((b:Int)+1+i)) else none) (List.range (e-b-1));rw[rN]at this;omega
 generalize hLS:((List.range (e-b-1)).filterMap fun i=>if xx ss b (b+1+i)=true then some (D.int ((b:Int)+1+i)) else none)=LS at *;have hd:=v9 hl;generalize D.lst (ss.map zq)=P at *;simp -implicitDefEqProofs only [CL,wq,QP,QW,QA,WT,zc,eC,zd,zg,za,iL,jYa,tD,tE,zQ,e1,hc,hd]
def KN {ss:List Sp}{b e f:Nat}(h:f<=e):∀s∈cut ss b f,s∈cut ss b e:=by
 intro s hs;unfold cut at *;have:((ss.drop b).take (f-b))=((ss.drop b).take (e-b)).take (f-b):=by rw[List.take_take,Nat.min_eq_left (by omega)]
 rw[this]at hs;exact rJ hs
def Jf {ss:List Sp}{b e f:Nat}(h:b<e)(he:e<=ss.length)(hm:xx ss b e=true)(h1:b<f)(h3:∀j,b<j->j<f->yC (ym ss (j-1))=true)(h4:f=ss.length\/yC (ym ss (f-1))=false):
  (!(((List.range (e-b-1)).filterMap fun i=>if xx ss b (b+1+i)=true then some (D.int ((b:Int)+1+i)) else none).isEmpty))=decide ((f:Int)<(e:Int)):=by
 by_cases hf:f<e
 ·rw[decide_eq_true (by omega:(f:Int)<(e:Int))];have hmf:xx ss b f=true:=by
   unfold xx at hm ⊢;have hv:yC (ym ss (f-1))=false:=by
    rcases h4 with z|z
    ·omega
    ·exact z
   rw[hv];obtain⟨_,q⟩:=(rV).mp hm;have q:=(Bool.not_eq_true' _).mp q;have:((cut ss b (f-1)).any fun s=>xg s.c)=false:=by
    rw[List.any_eq_false]at q ⊢;exact fun s hs=>q s (KN (by omega) s hs)
   rw[this]
   rfl
  have:D.int ((b:Int)+1+(f-b-1:Nat))∈((List.range (e-b-1)).filterMap fun i=>if xx ss b (b+1+i)=true then some (D.int ((b:Int)+1+i)) else none):=by
   rw[rS];refine⟨f-b-1,rP.mpr (by omega),?_⟩;rw[show b+1+(f-b-1)=f by omega,if_pos hmf]
  cases hz:((List.range (e-b-1)).filterMap fun i=>if xx ss b (b+1+i)=true then some (D.int ((b:Int)+1+i)) else none)with
  | nil=>rw[hz]at this;cases this
  | cons x xs=>rfl
 ·rw[decide_eq_false (by omega:¬(f:Int)<(e:Int))];have:((List.range (e-b-1)).filterMap fun i=>if xx ss b (b+1+i)=true then some (D.int ((b:Int)+1+i)) else none)=[]:=by
   rw[List.filterMap_eq_nil_iff];intro i hi;have hi:=rP.mp hi;refine if_neg fun hz=>?_;have:=h3 (b+1+i) (by omega) (by omega);unfold xx at hz;rw[this]at hz;cases hz
  rw[this]
  rfl
def Jq (last:Bool)(c:Ct)(bey lr ov t:Int):(if 0<bey then bey*ov else if (last||xg c)=true then 0 else bey*bey)+(if (last||xg c)=true then 0 else cN c)+t*lr=Wb last c bey lr ov t:=by
 unfold Wb;rw[Int.mul_comm bey ov,Int.mul_comm t lr];generalize ov*bey=x;generalize lr*t=y
 by_cases h1:0<bey
 ·rw[if_pos h1,if_pos h1,if_neg (show ¬bey<0 by omega)];split<;>omega
 ·rw[if_neg h1,if_neg h1]
  by_cases h2:bey<0
  ·rw[if_pos h2];generalize bey*bey=z;split<;>omega
  ·have:bey=0:=by omega
   subst this;simp only[Int.lt_irrefl,if_false];split<;>omega
structure Ru (RL:D)(H ov lr:Int):Prop where
 h:ixD RL (.str "height")=.ok (.int H)
 o:ixD RL (.str "over")=.ok (.int ov)
 l:ixD RL (.str "late")=.ok (.int lr)
 bo:-1000000000<ov/\ov<1000000000
 bl:-1000000000<lr/\lr<1000000000
def j8:Option Int->D
 | none=>.non
 | some v=>.int v
def feN (ss:List Sp)(b:Nat):Nat:=if h:b<ss.length then Classical.choose (KW h) else 0
def Yd {ss:List Sp}{b:Nat}(hb:b<ss.length):yX [.lst (ss.map zq),.int (b:Int)]=.ok (.int (feN ss b:Int))/\b<feN ss b/\feN ss b<=ss.length/\(∀j,b<j->j<feN ss b->yC (ym ss (j-1))=true)/\(feN ss b=ss.length\/yC (ym ss (feN ss b-1))=false):=by
 unfold feN;rw[dif_pos hb];exact Classical.choose_spec (KW hb)
section
variable {ss:List Sp}{hs:List Int}{b e:Nat}{a t:Int}{RL:D}{H ov lr:Int}
def VY (ss:List Sp)(H ov lr:Int)(b e:Nat)(ow t ht:Int):Option Int:=
 if 0<ht-H/\(decide (feN ss b<e)||(!(e==ss.length)&&decide (t<ow)))=true then none else some (Wb (e==ss.length) (ym ss (e-1)) (ht-H) lr ov t)
def z1g (hbe:b<e)(hen:e<=ss.length)(U:Ru RL H ov lr)(hv:yC (ym ss (e-1))=false){ow ht:Int}(hbb:-1000000000<ht-H/\ht-H<1000000000):
  xQ [.lst (ss.map zq),RL,.int (b:Int),.int (e:Int),.int ow,.int t,.int ht]=.ok (j8 (VY ss H ov lr b e ow t ht)):=by
 have hbn:b<ss.length:=by omega
 have hk:e-1<ss.length:=by omega
 obtain⟨ff,f1,f2,f3,f4⟩:=Yd hbn;have hl:=jd ss;have h3:=UL (i:=(e:Int)-1) hk (by omega);have h4:=s2 ss[e-1];rw[uw hk]at hv;have hT:xQ=zC 11 (TCa uD):=rfl;rw[hT,z27 uD (.lst (ss.map zq)) RL b e ow t ht H ss.length (feN ss b) _ hl U.h ff (Ki _ _ _ _ _ _ _ _ _ _ _ _ _ (fun _=>hv) U.l U.o h3 h4 U.bl U.bo hbb)];unfold VY;have e1:(((e:Nat):Int)==((ss.length:Nat):Int))=(e==ss.length):=by
  by_cases z:e=ss.length
  ·subst z;simp
  ·rw[beq_false_of_ne z,beq_false_of_ne (by omega)]
 have e2:decide (((feN ss b:Nat):Int)<(e:Int))=decide (feN ss b<e):=by
  by_cases z:feN ss b<e
  ·rw[decide_eq_true z,decide_eq_true (by omega)]
  ·rw[decide_eq_false z,decide_eq_false (by omega)]
 rw[e1,e2,uw hk];split<;>rfl
def yV (ss:List Sp)(hs:List Int)(H ov lr:Int)(b e:Nat)(a t:Int):Option Int:=
 if xx ss b e=true/\t<=(if e=ss.length then 0 else mk ss b e) then VY ss H ov lr b e (mk ss b e) t (hgt ss hs b e (mk ss 0 b-a).toNat (mk ss 0 b+mk ss b e-t).toNat) else none
def UM (hbe:b<e)(hm:xx ss b e=true):yC (ym ss (e-1))=false:=by
 unfold xx at hm;have:=((rV).mp hm).1
 simpa using this
def Up {fa ow:Nat}(L:Lf ss hs b e fa ow a t)(hh:hs.length<=1000)(U:Ru RL H ov lr)(hB:∀lo hi,-1000000000<hgt ss hs b e lo hi-H/\hgt ss hs b e lo hi-H<1000000000):
  yF [.lst (ss.map zq),.lst (hs.map D.int),RL,.int (b:Int),.int (e:Int),.int a,.int t]=.ok (j8 (yV ss hs H ov lr b e a t)):=by
 have hbn:b<ss.length:=by have:=L.be;have:=L.en;omega
 have hk:e-1<ss.length:=by have:=L.be;have:=L.en;omega
 obtain⟨ff,f1,f2,f3,f4⟩:=Yd hbn;have hl:=jd ss;have hm':=Vb L.be L.en L.n;have ho':=um (pZ L.be) L.en L.n;rw[L.m2]at ho';have h3:=UL (i:=(e:Int)-1) hk (by have:=L.be;omega);have h4:=s2 ss[e-1];have hC:=z2B L.be L.en L.n;have eR:yV ss hs H ov lr b e a t=if xx ss b e=true/\t<=(if e=ss.length then 0 else (ow:Int)) then (if 0<hgt ss hs b e ((fa:Int)-a).toNat ((fa:Int)+ow-t).toNat-H/\(decide (feN ss b<e)||(!(e==ss.length)&&decide (t<(ow:Int))))=true then none else some (Wb (e==ss.length) ss[e-1].c (hgt ss hs b e ((fa:Int)-a).toNat ((fa:Int)+ow-t).toNat-H) lr ov t)) else none:=by
  unfold yV VY;rw[L.m1,L.m2,uw hk]
 rw[eR];generalize hht:hgt ss hs b e ((fa:Int)-a).toNat ((fa:Int)+ow-t).toNat=ht at *;have hbb:-1000000000<ht-H/\ht-H<1000000000:=hht▸hB _ _;have hls:=fun hz=>Jf L.be L.en hz f1 f3 f4;have hnv:xx ss b e=true->yC ss[e-1].c=false:=fun hz=>by
  have:=UM L.be hz;rw[uw hk]at this;exact this
 generalize hLS:((List.range (e-b-1)).filterMap fun i=>if xx ss b (b+1+i)=true then some (D.int ((b:Int)+1+i)) else none)=LS at *;have hown:t<=(if ((e:Int)==(ss.length:Int))=true then 0 else (ow:Int))->t<=(ow:Int):=fun z=>by split at z<;>omega
 have hT:yF=zC 12 (TLl CL Zk):=rfl;have q2:=z26 CL Zk (.lst (ss.map zq)) (.lst (hs.map D.int)) RL _ b e a t ss.length ow H ht ov (xx ss b e) ss[e-1].c LS (fun fo=>fo+(if (((e:Int)==(ss.length:Int))||xg ss[e-1].c)=true then 0 else cN ss[e-1].c)+t*lr) hl ho' hm' U.h U.o L.t0 (by omega) h3 h4 U.bo hbb fun z1 z2=>⟨hht▸z2E L (hown z2) hh,hC _ _ _ _ _ _ _ _ _,fun fo x=>Qq _ _ _ _ _ _ _ _ _ _ _ _ _ _ x (fun _=>hnv z1) U.l h3 h4 U.bl⟩
 rw[<-hT]at q2;have e1:(((e:Nat):Int)==((ss.length:Nat):Int))=(e==ss.length):=by
  by_cases z:e=ss.length
  ·subst z;simp
  ·rw[beq_false_of_ne z,beq_false_of_ne (by omega)]
 have ed:decide (((feN ss b:Nat):Int)<((e:Nat):Int))=decide (feN ss b<e):=by
  by_cases z:feN ss b<e
  ·rw[decide_eq_true z,decide_eq_true (by omega)]
  ·rw[decide_eq_false z,decide_eq_false (by omega)]
 have e2:(if (((e:Nat):Int)==((ss.length:Nat):Int))=true then 0 else (ow:Int))=(if e=ss.length then 0 else (ow:Int)):=by
  rw[e1]
  by_cases z:e=ss.length
  ·rw[if_pos z,if_pos (by simpa using z)]
  ·rw[if_neg z,if_neg (by simpa using z)]
 by_cases hp:xx ss b e=true/\t<=(if e=ss.length then 0 else (ow:Int))
 ·rw[if_pos hp];rw[if_pos (by rw[e2];exact hp),hls hp.1,ed,e1]at q2
  by_cases hq:0<ht-H/\(decide (feN ss b<e)||(!(e==ss.length)&&decide (t<(ow:Int))))=true
  ·rw[if_pos hq]at q2 ⊢;exact q2
  ·rw[if_neg hq]at q2 ⊢;rw[Jq]at q2;exact q2
 ·rw[if_neg hp];rw[if_neg (by rw[e2];exact hp)]at q2;exact q2
end
def pre (xs:List Int)(k:Nat):Int:=(xs.take k).sum
def yD (xs:List Int):List Int:=(List.range (xs.length+1)).map (pre xs)
def qN:Tn->R Fl:=(vI 1 (zd zI (zd ixD (zc 1) (eUn vj (eC (.int 1)))) (zc 2)))
def bSu (P:Option D)(L:List D)(v n:Int)(hL:L.length<16777000):qN [P,some (.lst (L++[.int v])),some (.int n)]=.ok (.nx [P,some (.lst (L++[.int v]++[.int (v+n)])),some (.int n)]):=by
 have h1:=Vu L (.int v);have h2:(L++[D.int v]).length<16777216:=by rw[tT];simp;omega
 generalize L++[D.int v]=M at *;simp -implicitDefEqProofs only [qN,xB,xC,zc,eC,zd,eUn,jYa,tD,tE,tH,tI,zQ,qD,Int.reduceNeg,h1,wb h2]
theorem z2p (P:Option D):∀(xs:List Int) (L:List D) (v:Int) (x:Option D),L.length+xs.length<16777000->∃x',yL (Tgt.one 2).asg qN (xs.map D.int) [P,some (.lst (L++[.int v])),x]=.ok (.nx [P,some (.lst (L++(List.range (xs.length+1)).map fun k=>.int (v+pre xs k))),x'])
 | [],L,v,x,_=>⟨x,by simp[yL,pre]⟩
 | n::xs,L,v,x,hl=>by
  rw[tF]at hl;obtain⟨x',ih⟩:=z2p P xs (L++[.int v]) (v+n) (some (.int n)) (by rw[tT];simp;omega);refine⟨x',?_⟩;rw[tG];show ((R.ok [P,some (.lst (L++[.int v])),some (.int n)]).bind _)=_;rw[jYa,bSu P L v n (by omega),jYa];show yL _ _ _ _=_;rw[ih,sP];congr 6;rw[tF,rZ (n:=xs.length+1),tG,rR];have e0:v+pre (n::xs) 0=v:=by unfold pre;simp
  rw[e0,List.singleton_append];refine congrArg (fun z=>L++D.int v::z) (pI fun k _=>?_);show D.int (v+n+pre xs k)=D.int (v+pre (n::xs) (k+1));unfold pre;rw[List.take_succ_cons,pS];congr 1;omega
def V5 (xs:List Int)(hl:xs.length<=1000):xR [.lst (xs.map D.int)]=.ok (.lst ((yD xs).map D.int)):=by
 obtain⟨x',h⟩:=z2p (some (.lst (xs.map D.int))) xs [] 0 none (by simp;omega);have h2:wz (xq (zc 0)) (.one 2) qN [some (.lst (xs.map D.int)),some (.lst [.int 0]),none]=_:=vx (ds:=xs.map D.int) rfl h;have hT:xR=zC 3 (zj (zo 1 (eL (fun ds=>.ok (.lst ds)) (za (eC (.int 0)) zg))) (zj (wz (xq (zc 0)) (.one 2) qN) (zA (zc 1)))):=rfl;have e:(yD xs).map D.int=[]++(List.range (xs.length+1)).map fun k=>.int (0+pre xs k):=by
  unfold yD;rw[rR,tN];exact pI fun k _=>by simp
 rw[hT,e];generalize ([]++(List.range (xs.length+1)).map fun k=>D.int (0+pre xs k))=Y at *;generalize hSF:wz (xq (zc 0)) (.one 2) qN=SF at *;simp -implicitDefEqProofs only [zC,zj,zo,zA,zc,eC,eL,zg,za,jYa,tG,sA,tF,tP,tO,tK,tS,tN,tD,tE,tH,tI,Nat.reduceSub,tZ,h2]
def ji (xs:List Int){k:Nat}{i:Int}(hk:k<=xs.length)(hi:i=k):ixD (.lst ((yD xs).map D.int)) (.int i)=.ok (.int (pre xs k)):=by
 rw[hi];refine qG (wd ?_);unfold yD;rw[rR,sJ,pG (by omega)]
 rfl
def Zy (ss:List Sp)(b:Nat):mk ss b b=0:=by unfold mk cut;simp
def z0X (ss:List Sp)(b:Nat):bh ss b b=0:=by unfold bh cut;simp
def Kz {ss:List Sp}{b e:Nat}(h:b<e)(he:e<=ss.length):mk ss b e=mk ss b (e-1)+(ss[e-1]'(by omega)).m:=by
 unfold mk;rw[wo h he,sV,pF];simp
def Wq (ss:List Sp){b e:Nat}(h:e<=b):cut ss b e=[]:=by unfold cut;rw[show e-b=0 by omega,List.take_zero]
def Vc {ss:List Sp}{b e:Nat}(h:b<e)(he:e<=ss.length):bh ss b e=bh ss b (e-1)+((ss[e-1]'(by omega)).h+(if e>b+1 then (ss[e-1]'(by omega)).g else 0)):=by
 unfold bh;rw[wo h he,sV,pF]
 by_cases h1:e>b+1
 ·rw[if_pos h1,wo (b:=b+1) h1 he,sV,pF];simp;omega
 ·rw[if_neg h1,Wq ss (b:=b+1) (e:=e) (by omega),Wq ss (b:=b+1) (e:=e-1) (by omega)];simp
def wy (ss:List Sp)(H:Int)(b:Nat):Nat->Nat->List Nat
 | 0,_=>[]
 | k+1,e=>if yC (ym ss (e-1))=true then wy ss H b k (e+1) else e::(if (xg (ym ss (e-1))||decide (bh ss b e>H))=true then [] else wy ss H b k (e+1))
def qi (ss:List Sp)(b e:Nat):D:=.tup [.int (e:Int),.int (bh ss b e),.int (mk ss b e)]
def qg:Tn->R Fl:=(zj (zo 7 (zd ixD (zc 0) (zd yB (zc 6) (eC (.int 1))))) (zj (wD 4 wF (zd zI (zd ixD (zc 7) (eC (.int 1))) (eIf (zl (zd gtD (zc 6) (zd zI (zc 2) (eC (.int 1))))) (yq (zd ixD (zc 7) (eC (.int 0)))) (eC (.int 0))))) (zj (wD 5 wF (zd ixD (zc 7) (eC (.int 3)))) (sIf (zl (zd (eqR true) (zd ixD (zc 7) (eC (.int 2))) (eC (.str "never")))) (zj (vI 3 (yq (eL (fun ds=>.ok (.tup ds)) (za (zc 6) (za (zc 4) (za (zc 5) zg)))))) (sIf (bOr (zl (zd (eqR false) (zd ixD (zc 7) (eC (.int 2))) (eC (.str "must")))) (zl (zd gtD (zc 4) (zd ixD (zc 1) (eC (.str "height")))))) (fun τ=>.ok (.bk τ)) zt)) zt))))
def bB (P RL q:D)(b e bd ow H g h m:Int)(c:Ct)(acc:List D)(x7:Option D)(hl:acc.length<16777000)(h0:ixD P (.int (e-1))=.ok q)(q0:ixD q (.int 0)=.ok (.int g))(q1:ixD q (.int 1)=.ok (.int h))(q2:ixD q (.int 2)=.ok (yI c))(q3:ixD q (.int 3)=.ok (.int m))(hH:ixD RL (.str "height")=.ok (.int H)):
  qg [some P,some RL,some (.int b),some (.lst acc),some (.int bd),some (.int ow),some (.int e),x7] =
   (if yC c=true then .ok (.nx [some P,some RL,some (.int b),some (.lst acc),some (.int (bd+(h+if e>b+1 then g else 0))),some (.int (ow+m)),some (.int e),some q])
       else if (xg c||decide (bd+(h+if e>b+1 then g else 0)>H))=true then .ok (.bk [some P,some RL,some (.int b),some (.lst (acc++[.tup [.int e,.int (bd+(h+if e>b+1 then g else 0)),.int (ow+m)]])),some (.int (bd+(h+if e>b+1 then g else 0))),some (.int (ow+m)),some (.int e),some q])
       else .ok (.nx [some P,some RL,some (.int b),some (.lst (acc++[.tup [.int e,.int (bd+(h+if e>b+1 then g else 0)),.int (ow+m)]])),some (.int (bd+(h+if e>b+1 then g else 0))),some (.int (ow+m)),some (.int e),some q])):=by
 have n1:=z3e c;have n2:=z1l c;have hl2:acc.length<16777216:=by omega
 have key:∀v:Int,(eIf (zl (zd gtD (zc 6) (zd zI (zc 2) (eC (.int 1))))) (yq (zd ixD (zc 7) (eC (.int 0)))) (eC (.int 0))) [some P,some RL,some (.int b),some (.lst acc),some (.int bd),some (.int ow),some (.int e),some q]=.ok (.int (if e>b+1 then g else 0)):=fun _=>by
  by_cases hz:b+1<e
  ·have d:decide (b+1<e)=true:=decide_eq_true hz;rw[if_pos hz];simp -implicitDefEqProofs only [yn,wH,zc,eC,zd,zl,eIf,asB,jYa,tD,tE,zQ,yr,if_true,d,q0]
  ·have d:decide (b+1<e)=false:=decide_eq_false hz;rw[if_neg hz];simp -implicitDefEqProofs only [yn,wH,zc,eC,zd,zl,eIf,asB,jYa,tD,tE,zQ,yr,if_false,tJ,d,q0]
 have key:=key 0;generalize (if e>b+1 then g else 0)=gg at *;generalize hK:(eIf (zl (zd gtD (zc 6) (zd zI (zc 2) (eC (.int 1))))) (yq (zd ixD (zc 7) (eC (.int 0)))) (eC (.int 0)))=KK at *;unfold qg;rw[hK];generalize yC c=nv at *;generalize xg c=mu at *;have a1:∀i j:Int,wF (.int i) (.int j)=.ok (.int (i+j)):=fun _ _=>rfl;cases nv with
 | true =>
  rw[if_pos rfl];simp -implicitDefEqProofs only [xB,xC,yn,ud,u3,uk,zt,zj,zo,sIf,wD,zc,eC,zd,eL,zg,za,zl,bOr,asB,jYa,tD,tE,tH,tI,zQ,zP,if_false,tJ,h0,q1,q2,q3,key,n1,a1,sZ]
 | false =>
  rw[if_neg tX];cases mu with
  | true =>
   rw[if_pos (by rw[gC])];simp -implicitDefEqProofs only [xB,xC,wb,yn,ud,u3,uk,zt,zj,zo,sIf,wD,zc,eC,zd,eL,zg,za,zl,bOr,asB,jYa,tD,tE,tH,tI,zQ,zP,if_true,h0,q1,q2,q3,key,n1,n2,a1,hl2,rA]
  | false =>
   rw[pT]
   by_cases hz:H<bd+(h+gg)
   ·have d:decide (H<bd+(h+gg))=true:=decide_eq_true hz;rw[if_pos d];simp -implicitDefEqProofs only [xB,xC,wb,yn,ud,u3,uk,zt,zj,zo,sIf,wD,zc,eC,zd,eL,zg,za,zl,bOr,asB,jYa,tD,tE,tH,tI,zQ,zP,yr,if_true,if_false,tJ,h0,q1,q2,q3,key,n1,n2,a1,hl2,hH,d,rA]
   ·have d:decide (H<bd+(h+gg))=false:=decide_eq_false hz;rw[if_neg (by show ¬decide (H<bd+(h+gg))=true;rw[d];exact tX)];simp -implicitDefEqProofs only [xB,xC,wb,yn,ud,u3,uk,zt,zj,zo,sIf,wD,zc,eC,zd,eL,zg,za,zl,bOr,asB,jYa,tD,tE,tH,tI,zQ,zP,yr,if_true,if_false,tJ,h0,q1,q2,q3,key,n1,n2,a1,hl2,hH,d,rA]
def Xn (lo:Int)(k:Nat):rng lo (k+1)=.int lo::rng (lo+1) k:=by
 unfold rng;rw[rZ,tG,rR];refine congr (congrArg List.cons (by simp)) (pI fun i _=>?_);show D.int (lo+((i+1:Nat):Int))=D.int (lo+1+(i:Int));congr 1;omega
section
variable {ss:List Sp}{RL:D}{H:Int}
theorem goB (hH:ixD RL (.str "height")=.ok (.int H))(b:Nat):∀(k e:Nat) (acc:List D) (x6 x7:Option D),e+k=ss.length+1->b<e->acc.length+k<1000000->∃x4 x5 x6' x7',yL (Tgt.one 6).asg qg (rng (e:Int) k) [some (.lst (ss.map zq)),some RL,some (.int (b:Int)),some (.lst acc),some (.int (bh ss b (e-1))),some (.int (mk ss b (e-1))),x6,x7]=.ok (.nx [some (.lst (ss.map zq)),some RL,some (.int (b:Int)),some (.lst (acc++(wy ss H b k e).map (qi ss b))),x4,x5,x6',x7'])
 | 0,e,acc,x6,x7,_,_,_=>⟨_,_,_,_,by rw[show wy ss H b 0 e=[] from rfl,sA,tY];rfl⟩
 | k+1,e,acc,x6,x7,hk,hb,hl=>by
  have he:e<=ss.length:=by omega
  have h1:e-1<ss.length:=by omega
  have t:=bB (.lst (ss.map zq)) RL _ b e (bh ss b (e-1)) (mk ss b (e-1)) H _ _ _ _ acc x7 (by omega) (UL (i:=(e:Int)-1) h1 (by omega)) (s0 _) (s1 _) (s2 _) (s3 _) hH;have eg:(if (e:Int)>(b:Int)+1 then (ss[e-1]).g else 0)=(if e>b+1 then (ss[e-1]).g else 0):=by
   by_cases z:e>b+1
   ·rw[if_pos z,if_pos (by omega)]
   ·rw[if_neg z,if_neg (by omega)]
  rw[eg,<-Vc hb he,<-Kz hb he,<-uw h1]at t;rw[Xn];have st:∀r,yL (Tgt.one 6).asg qg (.int (e:Int)::rng ((e:Int)+1) k) [some (.lst (ss.map zq)),some RL,some (.int (b:Int)),some (.lst acc),some (.int (bh ss b (e-1))),some (.int (mk ss b (e-1))),x6,x7]=r↔((qg [some (.lst (ss.map zq)),some RL,some (.int (b:Int)),some (.lst acc),some (.int (bh ss b (e-1))),some (.int (mk ss b (e-1))),some (.int (e:Int)),x7]).bind fun f=>match f with
   | .nx τ2=>yL (Tgt.one 6).asg qg (rng ((e:Int)+1) k) τ2
   | .ct τ2=>yL (Tgt.one 6).asg qg (rng ((e:Int)+1) k) τ2
   | .bk τ2=>.ok (.nx τ2)
   | .rt r=>.ok (.rt r))=r:=fun r=>Iff.rfl
  have e1:((e:Int)+1)=((e+1:Nat):Int):=by omega
  simp only[st];rw[t,e1];unfold wy
  by_cases hv:yC (ym ss (e-1))=true
  ·rw[if_pos hv,if_pos hv,jYa];exact goB hH b k (e+1) acc _ _ (by omega) (by omega) (by omega)
  ·rw[if_neg hv,if_neg hv]
   by_cases hm:(xg (ym ss (e-1))||decide (bh ss b e>H))=true
   ·rw[if_pos hm,if_pos hm,jYa];exact⟨_,_,_,_,rfl⟩
   ·rw[if_neg hm,if_neg hm,jYa];obtain⟨x4,x5,x6',x7',ih⟩:=goB hH b k (e+1) (acc++[qi ss b e]) (some (.int (e:Int))) (some (zq ss[e-1])) (by omega) (by omega) (by rw[tT];simp;omega);refine⟨x4,x5,x6',x7',?_⟩;rw[tG,<-List.append_cons]at *;exact ih
def z3C (hH:ixD RL (.str "height")=.ok (.int H))(b k e:Nat)(lo:Int)(hlo:lo=(e:Int))(he:e+k=ss.length+1)(hb:b<e)(hk:k<1000000):∃x4 x5 x6' x7',yL (Tgt.one 6).asg qg (rng lo k) [some (.lst (ss.map zq)),some RL,some (.int (b:Int)),some (.lst []),some (.int (bh ss b (e-1))),some (.int (mk ss b (e-1))),none,none]=.ok (.nx [some (.lst (ss.map zq)),some RL,some (.int (b:Int)),some (.lst ((wy ss H b k e).map (qi ss b))),x4,x5,x6',x7']):=by
 subst hlo;obtain⟨x4,x5,x6,x7,h⟩:=goB (ss:=ss) hH b k e [] none none he hb (by rw[tP,tZ];exact hk);rw[tN]at h;exact⟨x4,x5,x6,x7,h⟩
def z1T (SF:Tn->R Fl)(P RL b Y:D)(x4 x5 x6 x7:Option D)(h:SF [some P,some RL,some b,some (.lst []),some (.int 0),some (.int 0),none,none]=.ok (.nx [some P,some RL,some b,some Y,x4,x5,x6,x7])):zC 8 (zj (zo 3 (eL (fun ds=>.ok (.lst ds)) zg)) (zj (zo 4 (eC (.int 0))) (zj (zo 5 (eC (.int 0))) (zj SF (zA (zc 3)))))) [P,RL,b]=.ok Y:=by
 simp -implicitDefEqProofs only [zC,zj,zo,zA,zc,eC,eL,zg,jYa,tG,sA,tF,tP,tO,tK,tS,tN,tD,tE,tH,tI,Nat.reduceAdd,Nat.reduceSub,tZ,h]
def z2H (P RL b:D)(bi n:Int)(Y:List D)(hb:b=.int bi)(hl:xh [P]=.ok (.int n))(hr:uo [.int (bi+1),.int (n+1)]=.ok Y):iL uo (za (zd zI (zc 2) (eC (.int 1))) (za (zd zI (eL xh (za (zc 0) zg)) (eC (.int 1))) zg)) [some P,some RL,some b,some (.lst []),some (.int 0),some (.int 0),none,none]=.ok Y:=by
 subst hb;simp -implicitDefEqProofs only [zc,eC,zd,eL,zg,za,iL,jYa,tD,tE,zQ,hl,hr]
def Vv (hH:ixD RL (.str "height")=.ok (.int H)){b:Nat}(hb:b<ss.length)(hn:ss.length<=1000):y3 [.lst (ss.map zq),RL,.int (b:Int)]=.ok (.lst ((wy ss H b (ss.length-b) (b+1)).map (qi ss b))):=by
 obtain⟨x4,x5,x6,x7,h⟩:=z3C (ss:=ss) hH b (ss.length-b) (b+1) ((b:Int)+1) (by omega) (by omega) (by omega) (by omega);have e0:b+1-1=b:=by omega
 rw[e0,z0X,Zy]at h;have hr:uo [.int ((b:Int)+1),.int ((ss.length:Int)+1)]=.ok (rng ((b:Int)+1) (ss.length-b)):=(Yj (by omega) (by omega) (by omega) (by omega)).trans (by congr 2;omega);have hT:y3=zC 8 (zj (zo 3 (eL (fun ds=>.ok (.lst ds)) zg)) (zj (zo 4 (eC (.int 0))) (zj (zo 5 (eC (.int 0))) (zj (wz (iL uo (za (zd zI (zc 2) (eC (.int 1))) (za (zd zI (eL xh (za (zc 0) zg)) (eC (.int 1))) zg))) (.one 6) qg) (zA (zc 3)))))):=rfl;rw[hT];exact z1T _ _ _ _ _ x4 x5 x6 x7 (vx (z2H _ _ _ _ _ _ rfl (jd ss) hr) h)
end
section
variable {S Ru fe ma:D}{fo:List D}
def f_S:yQ CF "strips" (filO CF S Ru fe ma fo)=.ok S:=rfl
def f_R:yQ CF "rules" (filO CF S Ru fe ma fo)=.ok Ru:=rfl
def f_F:yQ CF "feet" (filO CF S Ru fe ma fo)=.ok fe:=rfl
def f_M:yQ CF "marks" (filO CF S Ru fe ma fo)=.ok ma:=rfl
def f_O:yQ CF "found" (filO CF S Ru fe ma fo)=.ok (.lst fo):=rfl
def jl {m:Str}{F:List D->R D}{u:Tn->R (List D)}{τ:Tn}(hm:m∉xP):yR CF m F (zc 0) u (some (filO CF S Ru fe ma fo)::τ)=(u (some (filO CF S Ru fe ma fo)::τ)).bind fun as=>F (filO CF S Ru fe ma fo::as):=if_pos ⟨rfl,hm⟩
def J4:("foot":Str)∉xP:=by decide
def Us:("ways":Str)∉xP:=by decide
def Kd:("price":Str)∉xP:=by decide
def z1e:("best":Str)∉xP:=by decide
end
def vp (hs:List Int)(i j:Nat):Int:=if i=j then 0 else 1+pre hs j-pre hs i
def V1 {S Ru ma:D}{fo:List D}{hs:List Int}{i j:Nat}{x y:Int}(hx:x=i)(hy:y=j)(hi:i<=hs.length)(hj:j<=hs.length):zJ [filO CF S Ru (.lst ((yD hs).map D.int)) ma fo,.int x,.int y]=.ok (.int (vp hs i j)):=by
 have h1:=ji hs hi hx;have h2:=ji hs hj hy;have hq:eqR false (.int x) (.int y)=.ok (.bl (x==y)):=xY;have e1:(x==y)=decide (i=j):=by
  by_cases z:i=j
  ·rw[decide_eq_true z];simp;omega
  ·rw[decide_eq_false z];exact beq_false_of_ne (by omega)
 rw[e1]at hq;have hf:yQ CF "feet" (filO CF S Ru (.lst ((yD hs).map D.int)) ma fo)=.ok (.lst ((yD hs).map D.int)):=f_F;unfold vp;generalize filO CF S Ru (.lst ((yD hs).map D.int)) ma fo=O at *;generalize (D.lst ((yD hs).map D.int))=FE at *;generalize pre hs i=pi at *;generalize pre hs j=pj at *
 by_cases z:i=j
 ·rw[decide_eq_true z]at hq;rw[if_pos z];simp -implicitDefEqProofs only [zJ,vm,zt,zC,zj,zA,sIf,zc,eC,zd,eUn,zl,asB,jYa,tG,sA,tF,tP,tK,tS,tN,tD,tE,Nat.reduceAdd,Nat.reduceSub,tZ,if_true,hq]
 ·rw[decide_eq_false z]at hq;rw[if_neg z];simp -implicitDefEqProofs only [zJ,vm,zt,zC,zj,zA,sIf,zc,eC,zd,eUn,zl,asB,jYa,tG,sA,tF,tP,tK,tS,tN,tD,tE,Nat.reduceAdd,Nat.reduceSub,tZ,zQ,zP,if_false,tJ,hq,hf,h1,h2]
def Kj {hs:List Int}{i j:Nat}(h:i<=j)(hj:j<=hs.length):pre hs j-pre hs i=(wC hs i j).sum:=by
 unfold pre wC;have:hs.take j=hs.take i++(hs.drop i).take (j-i):=by
  rw[<-List.take_append_drop i (hs.take j),List.take_take,List.drop_take];congr 1;congr 1;omega
 rw[this,pF];omega
def Yw {hs:List Int}{i j:Nat}(h:i<=j)(hj:j<=hs.length):vp hs i j=fh (wC hs i j):=by
 unfold vp fh;have hl:(wC hs i j).length=j-i:=by unfold wC;simp;omega
 by_cases z:i=j
 ·rw[if_pos z,if_pos (List.eq_nil_of_length_eq_zero (by omega))]
 ·rw[if_neg z,if_neg (fun w=>by rw[w]at hl;simp at hl;omega),<-Kj h hj];omega
def YC (e t:Int)(c:Option Int)(T:Int):List D:=match c with
 | none=>[]
 | some p=>[.tup [.int e,.int t,.int (p+T)]]
def bI (S Ru fe ma:D)(fo:List D)(b a bf e bd ow t fv T:Int)(c:Option Int)(row bo le:D)(told:List D)(x11 x12:Option D)(hl:told.length<16777000)(hf:zJ [filO CF S Ru fe ma fo,.int (bf-a),.int (bf+ow-t)]=.ok (.int fv))(hc:xQ [S,Ru,.int b,.int e,.int ow,.int t,.int (bd+fv)]=.ok (j8 c))(h1:c≠none->ixD (.lst fo) (.int e)=.ok row)(h2:c≠none->ixD row (.int t)=.ok (.int T)):
  ∃x11' x12',YV [some (filO CF S Ru fe ma fo),some (.int b),some bo,some (.int a),some (.lst told),some (.int bf),some le,some (.int e),some (.int bd),some (.int ow),some (.int t),x11,x12]=.ok (.nx [some (filO CF S Ru fe ma fo),some (.int b),some bo,some (.int a),some (.lst (told++YC e t c T)),some (.int bf),some le,some (.int e),some (.int bd),some (.int ow),some (.int t),x11',x12']):=by
 have hS:yQ CF "strips" (filO CF S Ru fe ma fo)=.ok S:=f_S;have hR:yQ CF "rules" (filO CF S Ru fe ma fo)=.ok Ru:=f_R;have hO:yQ CF "found" (filO CF S Ru fe ma fo)=.ok (.lst fo):=f_O;have hm:∀ {u:Tn->R (List D)} {τ:Tn},yR CF "foot" zJ (zc 0) u (some (filO CF S Ru fe ma fo)::τ)=(u (some (filO CF S Ru fe ma fo)::τ)).bind fun as=>zJ (filO CF S Ru fe ma fo::as):=jl J4;generalize filO CF S Ru fe ma fo=O at *;have hl2:told.length<16777216:=by omega
 refine⟨some (.int (bd+fv)),some (j8 c),?_⟩;cases c with
 | none =>
  have hn:isN true (j8 none) .non=.ok (.bl false):=rfl;rw[show told++YC e t none T=told from tY _];generalize j8 none=C at *;simp -implicitDefEqProofs only [YV,xB,xC,yn,zt,zj,zo,sIf,zc,eC,zd,eUn,eL,zg,za,zl,asB,jYa,tD,tE,tH,tI,zQ,zP,if_false,tJ,hm,hf,hS,hR,hc,hn]
 | some p =>
  have hn:isN true (.int p) .non=.ok (.bl true):=rfl;have r1:=h1 (by simp);have r2:=h2 (by simp);have hc:xQ [S,Ru,.int b,.int e,.int ow,.int t,.int (bd+fv)]=.ok (.int p):=hc;show _=R.ok (Fl.nx [some O,some (.int b),some bo,some (.int a),some (.lst (told++[.tup [.int e,.int t,.int (p+T)]])),some (.int bf),some le,some (.int e),some (.int bd),some (.int ow),some (.int t),some (.int (bd+fv)),some (.int p)]);simp -implicitDefEqProofs only [YV,xB,xC,wb,yn,ud,u3,uk,zt,zj,zo,sIf,zc,eC,zd,eUn,eL,zg,za,zl,asB,jYa,tD,tE,tH,tI,zQ,zP,if_true,hm,hf,hS,hR,hO,hc,hn,r1,r2,hl2]
def wl (e:Nat)(cf:Nat->Option Int)(Tf:Nat->Int)(l k:Nat):List D:=(List.range k).flatMap fun i=>YC (e:Int) ((l+i:Nat):Int) (cf (l+i)) (Tf (l+i))
def ZN (e:Nat)(cf:Nat->Option Int)(Tf:Nat->Int)(l k:Nat):wl e cf Tf l (k+1)=YC (e:Int) (l:Int) (cf l) (Tf l)++wl e cf Tf (l+1) k:=by
 unfold wl;rw[rZ,rO,List.flatMap_map];congr 1;refine congrArg (fun f=>List.flatMap f (List.range k)) (funext fun i=>?_);rw[show l+i.succ=l+1+i by omega]
def YM (e t:Int)(c:Option Int)(T:Int):(YC e t c T).length<=1:=by cases c<;>simp[YC]
theorem goI (S Ru fe ma:D)(fo:List D)(b a bf bd ow:Int)(bo le:D)(e:Nat)(cf:Nat->Option Int)(Tf fv:Nat->Int)(row:D):∀(k l:Nat) (lo:Int) (told:List D) (x10 x11 x12:Option D),lo=(l:Int)->told.length+k<16777000 ->
  (∀t,l<=t->t<l+k->zJ [filO CF S Ru fe ma fo,.int (bf-a),.int (bf+ow-(t:Int))]=.ok (.int (fv t))/\xQ [S,Ru,.int b,.int (e:Int),.int ow,.int (t:Int),.int (bd+fv t)]=.ok (j8 (cf t))/\(cf t≠none->ixD (.lst fo) (.int (e:Int))=.ok row/\ixD row (.int (t:Int))=.ok (.int (Tf t)))) ->
  ∃x10' x11' x12',yL (Tgt.one 10).asg YV (rng lo k) [some (filO CF S Ru fe ma fo),some (.int b),some bo,some (.int a),some (.lst told),some (.int bf),some le,some (.int (e:Int)),some (.int bd),some (.int ow),x10,x11,x12]=.ok (.nx [some (filO CF S Ru fe ma fo),some (.int b),some bo,some (.int a),some (.lst (told++wl e cf Tf l k)),some (.int bf),some le,some (.int (e:Int)),some (.int bd),some (.int ow),x10',x11',x12'])
 | 0,l,lo,told,x10,x11,x12,_,_,_=>⟨_,_,_,by rw[show wl e cf Tf l 0=[] from rfl,tY];rfl⟩
 | k+1,l,lo,told,x10,x11,x12,hlo,hl,h=>by
  obtain⟨h1,h2,h3⟩:=h l (tQ _) (by omega);subst hlo;obtain⟨y11,y12,t⟩:=bI S Ru fe ma fo b a bf e bd ow (l:Int) (fv l) (Tf l) (cf l) row bo le told x11 x12 (by omega) h1 h2 (fun z=>(h3 z).1) (fun z=>(h3 z).2);obtain⟨z10,z11,z12,ih⟩:=goI S Ru fe ma fo b a bf bd ow bo le e cf Tf fv row k (l+1) ((l:Int)+1) (told++YC (e:Int) (l:Int) (cf l) (Tf l)) (some (.int (l:Int))) y11 y12 (by omega) (by rw[tT];have:=YM (e:Int) (l:Int) (cf l) (Tf l);omega) fun t h1 h2=>h t (by omega) (by omega);refine⟨z10,z11,z12,?_⟩;rw[Xn,ZN,<-sP];show ((R.ok [some (filO CF S Ru fe ma fo),some (.int b),some bo,some (.int a),some (.lst told),some (.int bf),some le,some (.int (e:Int)),some (.int bd),some (.int ow),some (.int (l:Int)),x11,x12]).bind _)=_;rw[jYa,t,jYa];exact ih
def z2m (P:D)(e n own:Int)(hl:xh [P]=.ok (.int n)):xt [P,.int e,.int own]=.ok (.int (if (e==n)=true then 0 else own)):=by
 have hq:eqR false (.int e) (.int n)=.ok (.bl (e==n)):=xY;generalize (e==n)=last at *;cases last<;>simp -implicitDefEqProofs only [xt,qV,yn,wH,zC,zA,zc,eC,zd,eL,zg,za,zl,eIf,asB,jYa,tG,sA,tF,tP,tK,tS,tN,tD,tE,Nat.reduceAdd,Nat.reduceSub,tZ,if_true,if_false,tJ,hl,hq]
def uv (SF:Tn->R Fl):Tn->R Fl:=(zj (sIf (yT (zl (zd gtD (eL xh (za (zc 4) zg)) (eC (.int 0)))) (zl (zd gtD (zd zI (zc 8) (zc 6)) (zd ixD (eUn (yQ CF "rules") (zc 0)) (eC (.str "height")))))) (fun τ=>.ok (.bk τ)) zt) SF)
def z34 (S Ru fe ma:D)(fo:List D)(b bo a told bf le:D)(e bd ow ml:Int)(x10 x11 x12:Option D)(Y:List D)(h1:xt [S,.int e,.int ow]=.ok (.int ml))(h2:wJ [.int (ml+1)]=.ok Y):iL wJ (za (zd zI (eL xt (za (eUn (yQ CF "strips") (zc 0)) (za (zc 7) (za (zc 9) zg)))) (eC (.int 1))) zg) [some (filO CF S Ru fe ma fo),some b,some bo,some a,some told,some bf,some le,some (.int e),some (.int bd),some (.int ow),x10,x11,x12]=.ok Y:=by
 have hS:yQ CF "strips" (filO CF S Ru fe ma fo)=.ok S:=f_S;generalize filO CF S Ru fe ma fo=O at *;simp -implicitDefEqProofs only [zc,eC,zd,eUn,eL,zg,za,iL,jYa,tD,tE,zQ,hS,h1,h2]
def bO (SF:Tn->R Fl)(S Ru fe ma:D)(fo:List D)(b bo a bf:D)(le e bd ow H:Int)(told:List D)(x10 x11 x12:Option D)(hH:ixD Ru (.str "height")=.ok (.int H)):
  uv SF [some (filO CF S Ru fe ma fo),some b,some bo,some a,some (.lst told),some bf,some (.int le),some (.int e),some (.int bd),some (.int ow),x10,x11,x12] =
   (if 0<told.length/\H<bd+le then .ok (.bk [some (filO CF S Ru fe ma fo),some b,some bo,some a,some (.lst told),some bf,some (.int le),some (.int e),some (.int bd),some (.int ow),x10,x11,x12])
       else SF [some (filO CF S Ru fe ma fo),some b,some bo,some a,some (.lst told),some bf,some (.int le),some (.int e),some (.int bd),some (.int ow),x10,x11,x12]):=by
 have hR:yQ CF "rules" (filO CF S Ru fe ma fo)=.ok Ru:=f_R;generalize filO CF S Ru fe ma fo=O at *;have hl:xh [.lst told]=.ok (.int (told.length:Int)):=WA;generalize hn:(told.length:Int)=n at *
 by_cases p':0<told.length
 ·have p:0<n:=by omega
  have d1:decide (0<n)=true:=decide_eq_true p
  by_cases q:H<bd+le
  ·have d2:decide (H<bd+le)=true:=decide_eq_true q;rw[if_pos ⟨p',q⟩];simp -implicitDefEqProofs only [uv,zt,zj,sIf,zc,eC,zd,eUn,eL,zg,za,zl,yT,asB,jYa,tD,tE,zQ,yr,if_true,hl,d1,hR,hH,d2]
  ·have d2:decide (H<bd+le)=false:=decide_eq_false q;rw[if_neg (fun z=>q z.2)];simp -implicitDefEqProofs only [uv,zt,zj,sIf,zc,eC,zd,eUn,eL,zg,za,zl,yT,asB,jYa,tD,tE,zQ,yr,if_true,if_false,tJ,hl,d1,hR,hH,d2]
 ·have d1:decide (0<n)=false:=decide_eq_false (by omega);rw[if_neg (fun z=>p' z.1)];simp -implicitDefEqProofs only [uv,zt,zj,sIf,zc,eC,zd,eUn,eL,zg,za,zl,yT,asB,jYa,tD,tE,zQ,yr,if_false,tJ,hl,d1,hR,hH]
def qO (H le:Int)(bhf:Nat->Int)(W:Nat->List D):List Nat->List D->List D
 | [],told=>told
 | e::es,told=>if 0<told.length/\H<bhf e+le then told else qO H le bhf W es (told++W e)
def z2M (O b bo a td bf le x7 x8 x9 x10 x11 x12:Option D)(p q r:D):(Tgt.many [7,8,9]).asg (.tup [p,q,r]) [O,b,bo,a,td,bf,le,x7,x8,x9,x10,x11,x12]=.ok [O,b,bo,a,td,bf,le,some p,some q,some r,x10,x11,x12]:=rfl
theorem goO (S Ru fe ma:D)(fo:List D)(ss:List Sp)(b:Nat)(a:D)(bf:D)(bo:D)(le H:Int)(W:Nat->List D)(hH:ixD Ru (.str "height")=.ok (.int H)):∀(es:List Nat) (told:List D) (x7 x8 x9 x10 x11 x12:Option D),told.length+1000*es.length<16000000->(∀e∈es,(W e).length<=1000) ->
  (∀e∈es,∀(told:List D) (x10 x11 x12:Option D),told.length<16000000->∃y10 y11 y12,qf [some (filO CF S Ru fe ma fo),some (.int (b:Int)),some bo,some a,some (.lst told),some bf,some (.int le),some (.int (e:Int)),some (.int (bh ss b e)),some (.int (mk ss b e)),x10,x11,x12]=.ok (.nx [some (filO CF S Ru fe ma fo),some (.int (b:Int)),some bo,some a,some (.lst (told++W e)),some bf,some (.int le),some (.int (e:Int)),some (.int (bh ss b e)),some (.int (mk ss b e)),y10,y11,y12])) ->
  ∃y7 y8 y9 y10 y11 y12,yL (Tgt.many [7,8,9]).asg (uv qf) (es.map (qi ss b)) [some (filO CF S Ru fe ma fo),some (.int (b:Int)),some bo,some a,some (.lst told),some bf,some (.int le),x7,x8,x9,x10,x11,x12]=.ok (.nx [some (filO CF S Ru fe ma fo),some (.int (b:Int)),some bo,some a,some (.lst (qO H le (bh ss b) W es told)),some bf,some (.int le),y7,y8,y9,y10,y11,y12])
 | [],told,x7,x8,x9,x10,x11,x12,_,_,_=>⟨x7,x8,x9,x10,x11,x12,rfl⟩
 | e::es,told,x7,x8,x9,x10,x11,x12,hl,hW,h=>by
  have t:=bO qf S Ru fe ma fo (.int (b:Int)) bo a bf le e (bh ss b e) (mk ss b e) H told x10 x11 x12 hH;rw[tF]at hl;have st:yL (Tgt.many [7,8,9]).asg (uv qf) ((e::es).map (qi ss b)) [some (filO CF S Ru fe ma fo),some (.int (b:Int)),some bo,some a,some (.lst told),some bf,some (.int le),x7,x8,x9,x10,x11,x12]=((uv qf [some (filO CF S Ru fe ma fo),some (.int (b:Int)),some bo,some a,some (.lst told),some bf,some (.int le),some (.int (e:Int)),some (.int (bh ss b e)),some (.int (mk ss b e)),x10,x11,x12]).bind fun f=>match f with
   | .nx τ2=>yL (Tgt.many [7,8,9]).asg (uv qf) (es.map (qi ss b)) τ2
   | .ct τ2=>yL (Tgt.many [7,8,9]).asg (uv qf) (es.map (qi ss b)) τ2
   | .bk τ2=>.ok (.nx τ2)
   | .rt r=>.ok (.rt r)):=rfl
  rw[st,t];unfold qO
  by_cases hc:0<told.length/\H<bh ss b e+le
  ·rw[if_pos hc,if_pos hc,jYa];exact⟨_,_,_,_,_,_,rfl⟩
  ·rw[if_neg hc,if_neg hc];obtain⟨y10,y11,y12,u⟩:=h e tU told x10 x11 x12 (by omega);rw[u,jYa];have:=hW e tU;exact goO S Ru fe ma fo ss b a bf bo le H W hH es (told++W e) _ _ _ _ _ _ (by rw[tT];omega) (fun e' he=>hW e' (tW _ he)) fun e' he=>h e' (tW _ he)
def z1y (SF:Tn->R Fl)(S Ru fe ma:D)(fo:List D)(b a bf le:Int)(bo Y:D)(x7 x8 x9 x10 x11 x12:Option D)(hM:ixD ma (.int b)=.ok (.int bf))(hf:zJ [filO CF S Ru fe ma fo,.int (bf-a),.int bf]=.ok (.int le))(h:SF [some (filO CF S Ru fe ma fo),some (.int b),some bo,some (.int a),some (.lst []),some (.int bf),some (.int le),none,none,none,none,none,none]=.ok (.nx [some (filO CF S Ru fe ma fo),some (.int b),some bo,some (.int a),some Y,some (.int bf),some (.int le),x7,x8,x9,x10,x11,x12])):
  zC 13 (zj (zo 4 (eL (fun ds=>.ok (.lst ds)) zg)) (zj (zo 5 (zd ixD (eUn (yQ CF "marks") (zc 0)) (zc 1))) (zj (zo 6 (yR CF "foot" zJ (zc 0) (za (zd yB (zc 5) (zc 3)) (za (zc 5) zg)))) (zj SF (zA (zc 4)))))) [filO CF S Ru fe ma fo,.int b,bo,.int a]=.ok Y:=by
 have hG:yQ CF "marks" (filO CF S Ru fe ma fo)=.ok ma:=f_M;have hm:∀ {u:Tn->R (List D)} {τ:Tn},yR CF "foot" zJ (zc 0) u (some (filO CF S Ru fe ma fo)::τ)=(u (some (filO CF S Ru fe ma fo)::τ)).bind fun as=>zJ (filO CF S Ru fe ma fo::as):=jl J4;generalize filO CF S Ru fe ma fo=O at *;simp -implicitDefEqProofs only [zC,zj,zo,zA,zc,zd,eUn,eL,zg,za,jYa,tG,sA,tF,tP,tO,tK,tS,tN,tD,tE,tH,tI,Nat.reduceAdd,Nat.reduceSub,tZ,zP,hG,hM,hm,hf,h]
def z3G:zG=zC 13 (zj (zo 4 (eL (fun ds=>.ok (.lst ds)) zg)) (zj (zo 5 (zd ixD (eUn (yQ CF "marks") (zc 0)) (zc 1))) (zj (zo 6 (yR CF "foot" zJ (zc 0) (za (zd yB (zc 5) (zc 3)) (za (zc 5) zg)))) (zj (wz (xq (zc 2)) (.many [7,8,9]) (uv qf)) (zA (zc 4)))))):=rfl
structure SpB (s:Sp):Prop where
 g:0<=s.g/\s.g<=100
 h:0<=s.h/\s.h<=100
 m:0<=s.m/\s.m<=3
theorem XR (K:Int):∀xs:List Int,(∀x∈xs,0<=x/\x<=K)->0<=xs.sum/\xs.sum<=K*xs.length
 | [],_=>by simp
 | x::xs,h=>by
  have h1:=h x tU;have h2:=XR K xs fun y hy=>h y (tW _ hy);rw[pS,tF]
  push_cast
  rw[Int.mul_add,Int.mul_one];generalize K*(xs.length:Int)=z at *;omega
def vS (ss:List Sp)(h:∀p∈ss,SpB p):0<=(ss.map Sp.m).sum/\(ss.map Sp.m).sum<=3*ss.length:=by
 have:=XR 3 (ss.map Sp.m) fun x hx=>by
  obtain⟨s,hs,rfl⟩:=rB.mp hx;exact (h s hs).m
 rw[tM]at this;exact this
def jX (ss:List Sp){b e:Nat}(h:b<=e):(ss.map Sp.m).sum=mk ss 0 b+mk ss b e+((ss.drop e).map Sp.m).sum:=by
 unfold mk cut;have e1:ss=(ss.take b++(ss.drop b).take (e-b))++ss.drop e:=by
  have:ss.drop e=(ss.drop b).drop (e-b):=by rw[List.drop_drop,show b+(e-b)=e by omega]
  rw[this,sP,List.take_append_drop,List.take_append_drop]
 rw[List.drop_zero,gJ]
 conv=>lhs;rw[e1]
 rw[sV,sV,pF,pF]
def Y8 {ss:List Sp}{b e:Nat}{s:Sp}(h:s∈cut ss b e):s∈ss:=rW (rJ h)
def z2s {ss:List Sp}(hs:∀p∈ss,SpB p)(b e:Nat):0<=mk ss b e:=(vS (cut ss b e) fun p hp=>hs p (Y8 hp)).1
def z2Q (ss:List Sp)(f:Sp->Int)(h:∀p∈ss,0<=f p/\f p<=100):0<=(ss.map f).sum/\(ss.map f).sum<=100*ss.length:=by
 have:=XR 100 (ss.map f) fun x hx=>by
  obtain⟨s,hs,rfl⟩:=rB.mp hx;exact h s hs
 rw[tM]at this;exact this
def Qt (ss:List Sp)(b e:Nat):(cut ss b e).length<=ss.length:=by
 unfold cut;rw[rE,pB];omega
def z3k {ss:List Sp}{hs:List Int}(H:Int)(hH:0<=H/\H<=1000)(h20:ss.length<=20)(hsp:∀p∈ss,SpB p)(hl:hs.length<=1000)(hb:∀h∈hs,0<=h/\h<=100)(b e lo hi:Nat):-1000000000<hgt ss hs b e lo hi-H/\hgt ss hs b e lo hi-H<1000000000:=by
 have x1:=z2Q (cut ss b e) Sp.h fun p hp=>(hsp p (Y8 hp)).h;have x2:=z2Q (cut ss (b+1) e) Sp.g fun p hp=>(hsp p (Y8 hp)).g;have l1:=Qt ss b e;have l2:=Qt ss (b+1) e;have x3:=XR 100 (wC hs lo hi) fun x hx=>hb x (rW (rJ hx));have l3:(wC hs lo hi).length<=hs.length:=by unfold wC;rw[rE,pB];omega
 unfold hgt bh fh;split<;>omega
structure Gd (ss:List Sp)(hs:List Int)(RL:D)(H ov lr:Int):Prop where
 n:ss.length<=20
 sp:∀p∈ss,SpB p
 hl:(hs.length:Int)=(ss.map Sp.m).sum
 hb:∀h∈hs,0<=h/\h<=100
 U:Ru RL H ov lr
 H0:0<=H/\H<=1000
section
variable {ss:List Sp}{hs:List Int}{RL:D}{H ov lr:Int}
theorem Gd.hl2 (G:Gd ss hs RL H ov lr):hs.length<=60:=by
 have h1:=(vS ss G.sp).2;have h2:=G.hl;have h3:=G.n;omega
theorem Gd.mn (G:Gd ss hs RL H ov lr)(b e:Nat):0<=K24.mk ss b e:=z2s G.sp b e
theorem Gd.sum (G:Gd ss hs RL H ov lr){b e:Nat}(h:b<=e):K24.mk ss 0 b+K24.mk ss b e<=hs.length:=by
 have h1:=jX ss h;have h2:0<=((ss.drop e).map Sp.m).sum:=(vS (ss.drop e) fun p hp=>G.sp p (rW hp)).1;rw[G.hl];omega
theorem Gd.hB (G:Gd ss hs RL H ov lr)(b e lo hi:Nat):-1000000000<hgt ss hs b e lo hi-H/\hgt ss hs b e lo hi-H<1000000000:=z3k H G.H0 G.n G.sp (by have:=G.hl2;omega) G.hb b e lo hi
def J1 (ss:List Sp)(b:Nat):pre (ss.map Sp.m) b=mk ss 0 b:=by
 unfold pre mk cut;rw[List.drop_zero,gJ,List.map_take]
def Zr (ss:List Sp){b e:Nat}(h:b<=e):mk ss 0 e=mk ss 0 b+mk ss b e:=by
 have h1:=jX ss h;have h2:=jX ss (tQ e);rw[Zy]at h2;omega
theorem jP (b:Nat):∀(k e0:Nat),b<e0->e0+k<=ss.length+1->((cut ss b (e0-1)).any fun s=>xg s.c)=false->∀e∈wy ss H b k e0,e0<=e/\e<=ss.length/\xx ss b e=true
 | 0,e0,_,_,_,e,he=>by cases he
 | k+1,e0,hb,hk,hm,e,he=>by
  have h1:e0-1<ss.length:=by omega
  have nx:xg (ym ss (e0-1))=false->((cut ss b (e0+1-1)).any fun s=>xg s.c)=false:=fun z=>by
   rw[show e0+1-1=e0 by omega,wo hb (by omega),List.any_append,hm];rw[uw h1]at z;simp[z]
  unfold wy at he
  by_cases hv:yC (ym ss (e0-1))=true
  ·rw[if_pos hv]at he;have mu:xg (ym ss (e0-1))=false:=by
    cases h:ym ss (e0-1)<;>rw[h]at hv<;>first|rfl|cases hv
   obtain⟨a1,a2,a3⟩:=jP b k (e0+1) (by omega) (by omega) (nx mu) e he;exact⟨by omega,a2,a3⟩
  ·rw[if_neg hv]at he;rcases sF.mp he with z|z
   ·subst z;refine⟨tQ _,by omega,?_⟩;unfold xx;rw[hm]
    simpa using hv
   ·by_cases hc:(xg (ym ss (e0-1))||decide (bh ss b e0>H))=true
    ·rw[if_pos hc]at z;cases z
    ·rw[if_neg hc]at z;have mu:xg (ym ss (e0-1))=false:=by
      cases h:xg (ym ss (e0-1))with
      | false=>rfl
      | true=>rw[h]at hc;exact absurd rfl hc
     obtain⟨a1,a2,a3⟩:=jP b k (e0+1) (by omega) (by omega) (nx mu) e z;exact⟨by omega,a2,a3⟩
theorem UJ (e:Nat)(cf:Nat->Option Int)(Tf:Nat->Int):∀(k l:Nat),(wl e cf Tf l k).length<=k
 | 0,l=>tQ _
 | k+1,l=>by
  rw[ZN,tT];have h1:=YM (e:Int) (l:Int) (cf l) (Tf l);have h2:=UJ e cf Tf k (l+1);omega
def mlN (ss:List Sp)(b e:Nat):Nat:=if e=ss.length then 0 else (mk ss b e).toNat
def Wf (ss:List Sp)(hs:List Int)(H ov lr:Int)(T:Nat->Nat->Int)(b:Nat)(a:Int)(e:Nat):List D:=wl e (fun t=>yV ss hs H ov lr b e a (t:Int)) (T e) 0 (mlN ss b e+1)
def Je (G:Gd ss hs RL H ov lr){b:Nat}{a:Int}(hb:b<ss.length)(a0:0<=a)(ha:a<=mk ss 0 b)(fo:List D)(T:Nat->Nat->Int)(hfo:∀e,b<e->e<=ss.length->∃row,ixD (.lst fo) (.int (e:Int))=.ok row/\∀t:Nat,t<=mlN ss b e->ixD row (.int (t:Int))=.ok (.int (T e t))):
  zG [filO CF (.lst (ss.map zq)) RL (.lst ((yD hs).map D.int)) (.lst ((yD (ss.map Sp.m)).map D.int)) fo,.int (b:Int),.lst ((wy ss H b (ss.length-b) (b+1)).map (qi ss b)),.int a]=.ok (.lst (qO H (vp hs (mk ss 0 b-a).toNat (mk ss 0 b).toNat) (bh ss b) (Wf ss hs H ov lr T b a) (wy ss H b (ss.length-b) (b+1)) [])):=by
 have hn:=G.n;have hm0:=G.mn 0 b;have hs0:=G.sum (tQ b);rw[Zy]at hs0;have hc0:((cut ss b (b+1-1)).any fun s=>xg s.c)=false:=by rw[show b+1-1=b by omega,Wq ss (tQ b)];rfl
 have em:=jP (ss:=ss) (H:=H) b (ss.length-b) (b+1) (by omega) (by omega) hc0;have hM:ixD (.lst ((yD (ss.map Sp.m)).map D.int)) (.int (b:Int))=.ok (.int (mk ss 0 b)):=by
  rw[ji (ss.map Sp.m) (k:=b) (by rw[tM];omega) rfl,J1]
 have hlen:(wy ss H b (ss.length-b) (b+1)).length<=ss.length:=by
  have:∀k e,(wy ss H b k e).length<=k:=by
   intro k
   induction k with
   | zero=>intro e;exact tQ _
   | succ k ih =>
    intro e;unfold wy;have:=ih (e+1);split
    ·omega
    ·rw[tF];split
     ·simp
     ·omega
  exact sT (this _ _) (by omega)
 obtain⟨y7,y8,y9,y10,y11,y12,h⟩:=goO (.lst (ss.map zq)) RL (.lst ((yD hs).map D.int)) (.lst ((yD (ss.map Sp.m)).map D.int)) fo ss b (.int a) (.int (mk ss 0 b)) (.lst ((wy ss H b (ss.length-b) (b+1)).map (qi ss b))) (vp hs (mk ss 0 b-a).toNat (mk ss 0 b).toNat) H (Wf ss hs H ov lr T b a) G.U.h (wy ss H b (ss.length-b) (b+1)) [] none none none none none none (by rw[tP];omega)
  (fun e he=>by
   obtain⟨b1,b2,b3⟩:=em e he;have hw:=UJ e (fun t=>yV ss hs H ov lr b e a (t:Int)) (T e) (mlN ss b e+1) 0;have hs1:=G.sum (b:=b) (e:=e) (by omega);have:=G.hl2;unfold Wf;have:mlN ss b e<=60:=by unfold mlN;split<;>omega
   omega)
  (fun e he told x10 x11 x12 hl=>by
   obtain⟨b1,b2,b3⟩:=em e he;have hs1:=G.sum (b:=b) (e:=e) (by omega);have hm1:=G.mn b e;have h60:=G.hl2;obtain⟨row,r1,r2⟩:=hfo e (by omega) b2;have hl':=jd ss;have ml:=z2m (.lst (ss.map zq)) (e:Int) (ss.length:Int) (mk ss b e) hl';have eml:(if ((e:Int)==(ss.length:Int))=true then 0 else mk ss b e)=(mlN ss b e:Int):=by
    unfold mlN
    by_cases z:e=ss.length
    ·subst z;simp
    ·rw[if_neg z,if_neg (by rw[beq_false_of_ne (by omega)];exact tX)];omega
   rw[eml]at ml;have hml:mlN ss b e<=60:=by unfold mlN;split<;>omega
   have hmt:∀t:Nat,t<=mlN ss b e->(t:Int)<=mk ss b e/\((t:Int)<=if e=ss.length then 0 else mk ss b e):=fun t ht=>by
    unfold mlN at ht;split at ht
    ·rename_i z;rw[if_pos z];omega
    ·rename_i z;rw[if_neg z];omega
   obtain⟨z10,z11,z12,g⟩:=goI (.lst (ss.map zq)) RL (.lst ((yD hs).map D.int)) (.lst ((yD (ss.map Sp.m)).map D.int)) fo b a (mk ss 0 b) (bh ss b e) (mk ss b e) (.lst ((wy ss H b (ss.length-b) (b+1)).map (qi ss b))) (.int (vp hs (mk ss 0 b-a).toNat (mk ss 0 b).toNat)) e (fun t=>yV ss hs H ov lr b e a (t:Int)) (T e) (fun t=>vp hs (mk ss 0 b-a).toNat (mk ss 0 b+mk ss b e-(t:Int)).toNat) row (mlN ss b e+1) 0 0 told x10 x11 x12 rfl (by omega) (fun t _ ht=>by
     obtain⟨q1,q2⟩:=hmt t (by omega);refine⟨V1 (by omega) (by omega) (by omega) (by omega),?_,fun _=>⟨r1,r2 t (by omega)⟩⟩;have ef:bh ss b e+vp hs (mk ss 0 b-a).toNat (mk ss 0 b+mk ss b e-(t:Int)).toNat=hgt ss hs b e (mk ss 0 b-a).toNat (mk ss 0 b+mk ss b e-(t:Int)).toNat:=by
      rw[Yw (by omega) (by omega)];rfl
     rw[ef,z1g (by omega) b2 G.U (UM (by omega) b3) (G.hB b e _ _)];unfold yV;rw[if_pos ⟨b3,q2⟩])
   refine⟨z10,z11,z12,?_⟩;refine vx (ds:=rng 0 (mlN ss b e+1)) (z34 _ _ _ _ _ _ _ _ _ _ _ _ _ _ (mlN ss b e:Int) _ _ _ _ ml ?_) g;generalize mlN ss b e=q at *;exact (uU (by omega) (by omega)).trans (by congr 2))
 rw[z3G];exact z1y _ _ _ _ _ _ _ _ _ _ _ _ y7 y8 y9 y10 y11 y12 hM (V1 (by omega) (by omega) (by omega) (by omega)) (vx rfl h)
end
theorem ZL (e:Nat)(cf:Nat->Option Int)(Tf:Nat->Int):∀(k l:Nat),(∀t,l<=t->t<l+k->cf t=none)->wl e cf Tf l k=[]
 | 0,l,_=>rfl
 | k+1,l,h=>by
  rw[ZN,h l (tQ _) (by omega),ZL e cf Tf k (l+1) fun t h1 h2=>h t (by omega) (by omega)]
  rfl
section
variable {ss:List Sp}{hs:List Int}{RL:D}{H ov lr:Int}{T:Nat->Nat->Int}{b:Nat}{a:Int}
def z0i {e:Nat}(h:xx ss b e=false):Wf ss hs H ov lr T b a e=[]:=by
 refine ZL _ _ _ _ _ fun t _ _=>?_;show yV ss hs H ov lr b e a (t:Int)=none;unfold yV;rw[if_neg (fun z=>by rw[h]at z;cases z.1)]
def J7 {e:Nat}(hf:feN ss b<e)(h:∀t:Nat,(t:Int)<=mk ss b e->H<hgt ss hs b e (mk ss 0 b-a).toNat (mk ss 0 b+mk ss b e-(t:Int)).toNat)(hm:0<=mk ss b e):Wf ss hs H ov lr T b a e=[]:=by
 refine ZL _ _ _ _ _ fun t _ ht=>?_;show yV ss hs H ov lr b e a (t:Int)=none;have ht2:(t:Int)<=mk ss b e:=by
  unfold mlN at ht;split at ht<;>omega
 have:=h t ht2;unfold yV VY;generalize (if e=ss.length then 0 else mk ss b e)=ml
 by_cases hp:xx ss b e=true/\(t:Int)<=ml
 ·rw[if_pos hp,if_pos ⟨by omega,by rw[decide_eq_true hf,gC]⟩]
 ·rw[if_neg hp]
theorem WE (G:Gd ss hs RL H ov lr):∀(k e:Nat),b<e->e+k<=ss.length->bh ss b e<=bh ss b (e+k)
 | 0,e,_,_=>Int.le_refl _
 | k+1,e,hb,he=>by
  have ih:=WE G k e hb (by omega);have st:=Vc (ss:=ss) (b:=b) (e:=e+(k+1)) (by omega) he;have e1:e+(k+1)-1=e+k:=by omega
  have p:=G.sp (ss[e+(k+1)-1]'(by omega)) (pK _);have p1:=p.h;have p2:=p.g;generalize ss[e+(k+1)-1]'(by omega)=q at *;rw[st,e1];split<;>omega
def z3b {hs:List Int}(hb:∀h∈hs,0<=h/\h<=100)(i j:Nat):0<=fh (wC hs i j):=by
 have x3:=XR 100 (wC hs i j) fun x hx=>hb x (rW (rJ hx));unfold fh;split<;>omega
def K7 {hs:List Int}(hb:∀h∈hs,0<=h/\h<=100){i j k:Nat}(h1:i<=j)(h2:j<=k)(h3:k<=hs.length):vp hs i j<=fh (wC hs i k):=by
 rw[Yw h1 (by omega)];have x3:=XR 100 (wC hs j k) fun x hx=>hb x (rW (rJ hx));have x1:=XR 100 (wC hs i j) fun x hx=>hb x (rW (rJ hx));have e:=YD hs h1 h2;rw[<-e];unfold fh
 by_cases z:wC hs i j=[]
 ·rw[if_pos z,z,tN];split<;>omega
 ·rw[if_neg z,if_neg (fun w=>z (List.append_eq_nil_iff.mp w).1),pF];omega
def z2J {e:Nat}(hb:b<ss.length)(he:b<e)(h:yC (ym ss (e-1))=false):feN ss b<=e:=by
 obtain⟨_,f1,f2,f3,f4⟩:=Yd hb;refine Nat.le_of_not_lt fun z=>?_;have:=f3 e he z;rw[h]at this;cases this
def Qg {e0 e:Nat}(hb:b<e0)(h1:e0<e)(he:e<=ss.length)(hm:xg (ym ss (e0-1))=true):xx ss b e=false:=by
 have hk:e0-1<ss.length:=by omega
 have hmem:ss[e0-1]∈cut ss b (e-1):=by
  unfold cut;refine List.mem_iff_getElem?.mpr ⟨e0-1-b,?_⟩;rw[hV (by omega),pM,show b+(e0-1-b)=e0-1 by omega,tL hk]
 rw[uw hk]at hm;unfold xx;have:((cut ss b (e-1)).any fun s=>xg s.c)=true:=gL.mpr ⟨_,hmem,hm⟩;rw[this];simp
def Yl {α:Type}(f:Nat->List α)(k:Nat)(h:∀i,i<k->f i=[]):(List.range k).flatMap f=[]:=by
 refine List.flatMap_eq_nil_iff.mpr fun i hi=>h i (rP.mp hi)
def Ze {α:Type}(f:Nat->List α)(k e:Nat):((List.range (k+1)).flatMap fun i=>f (e+i))=f e++(List.range k).flatMap fun i=>f (e+1+i):=by
 rw[rZ,rO,List.flatMap_map];congr 1;refine congrArg (fun g=>List.flatMap g (List.range k)) (funext fun i=>?_);rw[show e+i.succ=e+1+i by omega]
theorem wg (G:Gd ss hs RL H ov lr)(hb:b<ss.length)(a0:0<=a)(ha:a<=mk ss 0 b):∀(k e0:Nat) (told:List D),b<e0->e0+k=ss.length+1->(told≠[]->feN ss b<e0) ->
  qO H (vp hs (mk ss 0 b-a).toNat (mk ss 0 b).toNat) (bh ss b) (Wf ss hs H ov lr T b a) (wy ss H b k e0) told=told++(List.range k).flatMap fun i=>Wf ss hs H ov lr T b a (e0+i)
 | 0,e0,told,_,_,_=>by
  rw[show wy ss H b 0 e0=[] from rfl,show (List.range 0).flatMap (fun i=>Wf ss hs H ov lr T b a (e0+i))=[] from rfl,tY]
  rfl
 | k+1,e0,told,he,hk,ht=>by
  have hm0:=G.mn 0 b;have big:∀(lo e:Nat),b<lo->lo<=e->e<=ss.length->∀t:Nat,(t:Int)<=mk ss b e->bh ss b lo+vp hs (mk ss 0 b-a).toNat (mk ss 0 b).toNat<=hgt ss hs b e (mk ss 0 b-a).toNat (mk ss 0 b+mk ss b e-(t:Int)).toNat/\bh ss b lo<=hgt ss hs b e (mk ss 0 b-a).toNat (mk ss 0 b+mk ss b e-(t:Int)).toNat:=fun lo e h1 h2 h3 t h4=>by
   have hs1:=G.sum (b:=b) (e:=e) (by omega);have m1:=WE (b:=b) G (e-lo) lo h1 (by omega);rw[show lo+(e-lo)=e by omega]at m1;have m2:=K7 G.hb (i:=(mk ss 0 b-a).toNat) (j:=(mk ss 0 b).toNat) (k:=(mk ss 0 b+mk ss b e-(t:Int)).toNat) (by omega) (by omega) (by omega);have m3:=z3b G.hb (mk ss 0 b-a).toNat (mk ss 0 b+mk ss b e-(t:Int)).toNat;unfold hgt;omega
  rw[Ze];unfold wy
  by_cases hv:yC (ym ss (e0-1))=true
  ·rw[if_pos hv,wg G hb a0 ha k (e0+1) told (by omega) (by omega) fun z=>by have:=ht z;omega];have:xx ss b e0=false:=by unfold xx;rw[hv];rfl
   rw[z0i this,tN]
  ·rw[if_neg hv];have hv':yC (ym ss (e0-1))=false:=by simpa using hv
   have hfe:=z2J hb he hv';unfold qO
   by_cases hc:0<told.length/\H<bh ss b e0+vp hs (mk ss 0 b-a).toNat (mk ss 0 b).toNat
   ·rw[if_pos hc];have hf:=ht (by intro z;rw[z]at hc;exact absurd hc.1 (by simp));have nil:∀e,e0<=e->e<=ss.length->Wf ss hs H ov lr T b a e=[]:=fun e h1 h2=>J7 (by omega) (fun t h4=>by have:=(big e0 e he h1 h2 t h4).1;omega) (G.mn b e);rw[nil e0 (tQ _) (by omega),Yl _ _ fun i hi=>nil _ (by omega) (by omega),tY,tY]
   ·rw[if_neg hc]
    by_cases hz:(xg (ym ss (e0-1))||decide (bh ss b e0>H))=true
    ·rw[if_pos hz];have nil:∀e,e0<e->e<=ss.length->Wf ss hs H ov lr T b a e=[]:=fun e h1 h2=>by
      rcases (Bool.or_eq_true_iff).mp hz with w|w
      ·exact z0i (Qg he h1 h2 w)
      ·exact J7 (by omega) (fun t h4=>by have:=(big e0 e he (by omega) h2 t h4).2;have:=of_decide_eq_true w;omega) (G.mn b e)
     rw[Yl _ _ fun i hi=>nil _ (by omega) (by omega),tY]
     rfl
    ·rw[if_neg hz,wg G hb a0 ha k (e0+1) (told++Wf ss hs H ov lr T b a e0) (by omega) (by omega) fun _=>by omega,sP]
end
def yU (T:Nat->Nat->Int)(w:Nat×Nat×Int):D:=.tup [.int (w.1:Int),.int (w.2.1:Int),.int (w.2.2+T w.1 w.2.1)]
theorem X5 (e:Nat)(cf:Nat->Option Int)(T:Nat->Nat->Int):∀xs:List Nat,(xs.flatMap fun (t:Nat)=>YC (e:Int) (t:Int) (cf t) (T e t))=(xs.filterMap fun (t:Nat)=>(cf t).map fun c=>(e,t,c)).map (yU T)
 | []=>rfl
 | t::xs=>by
  rw[rO,X5 e cf T xs,rC];cases cf t with
  | none=>rfl
  | some p=>rfl
section
variable {ss:List Sp}{hs:List Int}{RL:D}{H ov lr:Int}{b:Nat}{a:Int}
def lvE (ss:List Sp)(hs:List Int)(H ov lr:Int)(b:Nat)(a:Int)(e:Nat):List (Nat×Nat×Int):=(List.range (mlN ss b e+1)).filterMap fun (t:Nat)=>(yV ss hs H ov lr b e a (t:Int)).map fun c=>(e,t,c)
def lv (ss:List Sp)(hs:List Int)(H ov lr:Int)(b:Nat)(a:Int):List (Nat×Nat×Int):=(List.range (ss.length-b)).flatMap fun i=>lvE ss hs H ov lr b a (b+1+i)
def z3a (ss:List Sp)(hs:List Int)(H ov lr:Int)(T:Nat->Nat->Int)(b:Nat)(a:Int):List D:=(List.range (ss.length-b)).flatMap fun i=>Wf ss hs H ov lr T b a (b+1+i)
def z14 (T:Nat->Nat->Int)(e:Nat):Wf ss hs H ov lr T b a e=(lvE ss hs H ov lr b a e).map (yU T):=by
 unfold Wf lvE wl;rw[<-X5 e (fun t=>yV ss hs H ov lr b e a (t:Int)) T];refine congrArg (fun f=>List.flatMap f (List.range (mlN ss b e+1))) (funext fun i=>?_);rw[tZ]
def QM (T:Nat->Nat->Int):z3a ss hs H ov lr T b a=(lv ss hs H ov lr b a).map (yU T):=by
 unfold z3a lv;rw[List.map_flatMap];refine congrArg (fun f=>List.flatMap f (List.range (ss.length-b))) (funext fun i=>z14 T _)
def Wv {w:Nat×Nat×Int}(h:w∈lv ss hs H ov lr b a):b<w.1/\w.1<=ss.length/\w.2.1<=mlN ss b w.1/\yV ss hs H ov lr b w.1 a (w.2.1:Int)=some w.2.2:=by
 unfold lv at h;obtain⟨i,hi,h⟩:=gM.mp h;have hi:=rP.mp hi;unfold lvE at h;obtain⟨t,ht,h⟩:=rS.mp h;have ht:=rP.mp ht;cases hc:yV ss hs H ov lr b (b+1+i) a (t:Int)with
 | none=>rw[hc]at h;cases h
 | some c =>
  rw[hc]at h;cases h;exact⟨by show b<b+1+i;omega,by show b+1+i<=ss.length;omega,by show t<=mlN ss b (b+1+i);omega,hc⟩
def z2g {e t:Nat}{c:Int}(h1:b<e)(h2:e<=ss.length)(h3:t<=mlN ss b e)(h4:yV ss hs H ov lr b e a (t:Int)=some c):(e,t,c)∈lv ss hs H ov lr b a:=by
 unfold lv;refine gM.mpr ⟨e-b-1,rP.mpr (by omega),?_⟩;rw[show b+1+(e-b-1)=e by omega];unfold lvE;exact rS.mpr ⟨t,rP.mpr (by omega),by rw[h4];rfl⟩
def z00 (hb:b<ss.length)(hla:yC (ym ss (ss.length-1))=false)(hm:0<=mk ss b (feN ss b)):lv ss hs H ov lr b a≠[]:=by
 obtain⟨_,f1,f2,f3,f4⟩:=Yd hb;have hnv:yC (ym ss (feN ss b-1))=false:=by
  rcases f4 with z|z
  ·rw[z];exact hla
  ·exact z
 have hmay:xx ss b (feN ss b)=true:=by
  unfold xx;rw[hnv];have:((cut ss b (feN ss b-1)).any fun s=>xg s.c)=false:=by
   refine Bool.eq_false_iff.mpr fun z=>?_;obtain⟨s,hs1,hs2⟩:=gL.mp z;unfold cut at hs1;obtain⟨j,hj⟩:=List.mem_iff_getElem?.mp hs1;have hlt:j<feN ss b-1-b:=by
    have:=(tV.mp hj).1;rw[rE]at this;omega
   rw[hV hlt,pM]at hj;have hk:b+j<ss.length:=by omega
   have q:=f3 (b+j+1) (by omega) (by omega);rw[Nat.add_sub_cancel,uw hk]at q;rw[tL hk]at hj;cases hj;cases hc:ss[b+j].c with
   | num n=>rw[hc]at q;cases q
   | never=>rw[hc]at hs2;cases hs2
   | must=>rw[hc]at q;cases q
  rw[this]
  rfl
 have key:∃c,yV ss hs H ov lr b (feN ss b) a (mlN ss b (feN ss b):Int)=some c:=by
  unfold yV;have e1:((mlN ss b (feN ss b):Nat):Int)=(if feN ss b=ss.length then 0 else mk ss b (feN ss b)):=by
   unfold mlN;split<;>omega
  rw[if_pos ⟨hmay,by omega⟩];unfold VY;rw[if_neg]
  ·exact⟨_,rfl⟩
  ·rintro⟨_,z⟩;rw[decide_eq_false (rX _),pT]at z;obtain⟨z1,z2⟩:=(rV).mp z;have z2:=of_decide_eq_true z2
   by_cases w:feN ss b=ss.length
   ·rw[w]at z1;simp at z1
   ·rw[if_neg w]at e1;omega
 obtain⟨c,hc⟩:=key;exact List.ne_nil_of_mem (z2g f1 f2 (tQ _) hc)
end
def z3D {ns:List Int}(h:ns≠[]):qk [.lst (ns.map .int)]=.ok (.int (km ns)):=by
 cases ns with
 | nil=>exact absurd rfl h
 | cons n ns =>
  unfold qk YH;dsimp only;rw[wO]
def z3O {it:Tn->R (List D)}{el:Tn->R D}{τ:Tn}{T:Nat->Nat->Int}{xs:List (Nat×Nat×Int)}{f:Nat×Nat×Int->D}(h:it τ=.ok (xs.map (yU T)))(hx:xs.length<=100000)(he:∀s,el [some (yU T s)]=.ok (f s)):yg [none] it (.one 0) (fun _=>.ok true) el τ=.ok (.lst (xs.map f)):=by
 have h1:xo (wm (Tgt.one 0).asg (fun _=>.ok true) el (wN [none] τ)) (xs.map (yU T))=.ok (xs.map f):=by
  rw[w6 (o:=fun s:Nat×Nat×Int=>some (f s)) (fun s _=>?_),uf];show vW ((R.ok [some (yU T s)]).bind _)=_;rw[jYa,jYa,if_pos rfl,he s]
  rfl
 rw[wq,h,jYa,h1,jYa,v9 (by rw[tM];omega)]
section
variable {ss:List Sp}{hs:List Int}{RL:D}{H ov lr:Int}{b:Nat}{a:Int}
def Xa (G:Gd ss hs RL H ov lr)(hb:b<ss.length)(a0:0<=a)(ha:a<=mk ss 0 b)(fo:List D)(T:Nat->Nat->Int)(hfo:∀e,b<e->e<=ss.length->∃row,ixD (.lst fo) (.int (e:Int))=.ok row/\∀t:Nat,t<=mlN ss b e->ixD row (.int (t:Int))=.ok (.int (T e t))):
  zG [filO CF (.lst (ss.map zq)) RL (.lst ((yD hs).map D.int)) (.lst ((yD (ss.map Sp.m)).map D.int)) fo,.int (b:Int),.lst ((wy ss H b (ss.length-b) (b+1)).map (qi ss b)),.int a]=.ok (.lst ((lv ss hs H ov lr b a).map (yU T))):=by
 rw[Je G hb a0 ha fo T hfo,wg G hb a0 ha (ss.length-b) (b+1) [] (by omega) (by omega) (fun z=>absurd rfl z),tN,<-QM]
 rfl
def UO (G:Gd ss hs RL H ov lr)(hb:b<ss.length):(lv ss hs H ov lr b a).length<=100000:=by
 have h60:=G.hl2;have hn:=G.n;have one:∀e,b<e->e<=ss.length->(lvE ss hs H ov lr b a e).length<=61:=fun e h1 h2=>by
  have h3:=G.sum (b:=b) (e:=e) (by omega);have h5:=G.mn 0 b;have:mlN ss b e<=60:=by unfold mlN;split<;>omega
  unfold lvE;have:=gD (fun (t:Nat)=>(yV ss hs H ov lr b e a (t:Int)).map fun c=>(e,t,c)) (List.range (mlN ss b e+1));rw[rN]at this;omega
 have all:∀k e,b<e->e+k<=ss.length+1->((List.range k).flatMap fun i=>lvE ss hs H ov lr b a (e+i)).length<=61*k:=by
  intro k
  induction k with
  | zero=>intro e _ _;exact rG _
  | succ k ih =>
   intro e h1 h2;rw[Ze,tT];have:=one e h1 (by omega);have:=ih (e+1) (by omega) (by omega);omega
 have:=all (ss.length-b) (b+1) (by omega) (by omega);unfold lv;omega
def j5 (ss:List Sp)(hs:List Int)(H ov lr:Int)(T:Nat->Nat->Int)(b:Nat)(a:Int):Int:=km ((lv ss hs H ov lr b a).map fun w=>w.2.2+T w.1 w.2.1)
def z13 (S Ru fe ma:D)(fo:List D)(b a bo:D)(ws:List (Nat×Nat×Int))(T:Nat->Nat->Int)(hne:ws≠[])(hl:ws.length<=100000)(h:zG [filO CF S Ru fe ma fo,b,bo,a]=.ok (.lst (ws.map (yU T)))):zO [filO CF S Ru fe ma fo,b,bo,a]=.ok (.int (km (ws.map fun w=>w.2.2+T w.1 w.2.1))):=by
 have hm:∀ {u:Tn->R (List D)} {τ:Tn},yR CF "ways" zG (zc 0) u (some (filO CF S Ru fe ma fo)::τ)=(u (some (filO CF S Ru fe ma fo)::τ)).bind fun as=>zG (filO CF S Ru fe ma fo::as):=jl Us;have hi:xq (yR CF "ways" zG (zc 0) (za (zc 1) (za (zc 2) (za (zc 3) zg)))) [some (filO CF S Ru fe ma fo),some b,some bo,some a]=.ok (ws.map (yU T)):=by
  generalize filO CF S Ru fe ma fo=O at *;generalize ws.map (yU T)=Y at *;simp -implicitDefEqProofs only [zc,zg,za,xq,Qy,jYa,tD,tE,hm,h]
 have hc:=z3O (el:=(zd ixD (zc 0) (eC (.int 2)))) (f:=fun w=>.int (w.2.2+T w.1 w.2.1)) hi hl (fun s=>rfl);have hmin:=z3D (ns:=ws.map fun w=>w.2.2+T w.1 w.2.1) (fun z=>hne (List.map_eq_nil_iff.mp z));rw[rR]at hmin;have hr:=eL1 (g:=qk) hc hmin;have hT:zO=zC 4 (zA (eL qk (za (yg [none] (xq (yR CF "ways" zG (zc 0) (za (zc 1) (za (zc 2) (za (zc 3) zg))))) (.one 0) (fun _=>.ok true) (zd ixD (zc 0) (eC (.int 2)))) zg))):=rfl;rw[hT];generalize (eL qk (za (yg [none] (xq (yR CF "ways" zG (zc 0) (za (zc 1) (za (zc 2) (za (zc 3) zg))))) (.one 0) (fun _=>.ok true) (zd ixD (zc 0) (eC (.int 2)))) zg))=XX at *;generalize filO CF S Ru fe ma fo=O at *;simp -implicitDefEqProofs only [zC,zA,jYa,tG,sA,tF,tP,tK,tS,tN,Nat.reduceAdd,Nat.reduceSub,tZ,hr]
def Jb (G:Gd ss hs RL H ov lr)(hla:yC (ym ss (ss.length-1))=false)(hb:b<ss.length)(a0:0<=a)(ha:a<=mk ss 0 b)(fo:List D)(T:Nat->Nat->Int)(hfo:∀e,b<e->e<=ss.length->∃row,ixD (.lst fo) (.int (e:Int))=.ok row/\∀t:Nat,t<=mlN ss b e->ixD row (.int (t:Int))=.ok (.int (T e t))):
  zO [filO CF (.lst (ss.map zq)) RL (.lst ((yD hs).map D.int)) (.lst ((yD (ss.map Sp.m)).map D.int)) fo,.int (b:Int),.lst ((wy ss H b (ss.length-b) (b+1)).map (qi ss b)),.int a]=.ok (.int (j5 ss hs H ov lr T b a)):=
 z13 _ _ _ _ _ _ _ _ _ T (z00 hb hla (G.mn _ _)) (UO G hb) (Xa G hb a0 ha fo T hfo)
end
def TT (R:List (List Int))(b0 e t:Nat):Int:=(R.getD (e-b0) []).getD t 0
def uq (xs:List Int):D:=.lst (xs.map D.int)
section
variable {ss:List Sp}{hs:List Int}{RL:D}{H ov lr:Int}
def uy (ss:List Sp)(hs:List Int)(H ov lr:Int)(T:Nat->Nat->Int)(b:Nat):List Int:=(List.range ((mk ss 0 b).toNat+1)).map fun (a:Nat)=>j5 ss hs H ov lr T b (a:Int)
def yk (ss:List Sp)(hs:List Int)(H ov lr:Int):Nat->List (List Int)
 | 0=>[[0]]
 | k+1=>uy ss hs H ov lr (TT (yk ss hs H ov lr k) (ss.length-k)) (ss.length-k-1)::yk ss hs H ov lr k
def XT (xs:List Int){t:Nat}(h:t<xs.length):ixD (uq xs) (.int (t:Int))=.ok (.int (xs.getD t 0)):=by
 refine qG (wd ?_);rw[sJ,tL h];simp[List.getD,h]
def z2d (k r e:Nat)(R:List (List Int))(h1:r<e)(h2:e-(r+1)<R.length):ixD (.lst (List.replicate (r+1) z0++R.map uq)) (.int (e:Int))=.ok (uq (R.getD (e-(r+1)) [])):=by
 refine qG (wd ?_);rw[pA (by rw[rD];omega),rD,sJ,tL h2];simp[List.getD,h2]
def z0O (O S Hs RL bo ma:D)(b m:Int)(q:Nat)(f:Nat->Int)(hO:yQ CF "marks" O=.ok ma)(hM:ixD ma (.int b)=.ok (.int m))(hq:wJ [.int (m+1)]=.ok (rng 0 q))(hl:q<=100000)(hm:∀ {u:Tn->R (List D)} {x y z:Option D},yR CF "price" zO (zc 3) u [x,y,z,some O]=(u [x,y,z,some O]).bind fun as=>zO (O::as))
  (hp:∀i,i<q->zO [O,.int b,bo,.int (0+(i:Int))]=.ok (.int (f i))):Xb [some O,some S,some Hs,some RL,some (.int b),some bo]=.ok (uq ((List.range q).map f)):=by
 have hi:iL wJ (za (zd zI (zd ixD (eUn (yQ CF "marks") (zc 0)) (zc 4)) (eC (.int 1))) zg) [some O,some S,some Hs,some RL,some (.int b),some bo]=.ok (rng 0 q):=by
  generalize rng 0 q=Y at *;simp -implicitDefEqProofs only [zc,eC,zd,eUn,zg,za,iL,jYa,tD,tE,zQ,hO,hM,hq]
 have hc:xo (wm (Tgt.one 0).asg (fun _=>.ok true) (yR CF "price" zO (zc 3) (za (zc 1) (za (zc 2) (za (zc 0) zg)))) [none,some (.int b),some bo,some O]) (rng 0 q)=.ok ((List.range q).map fun i=>.int (f i)):=by
  rw[qS (o:=fun i=>some (.int (f i))) (fun i hi=>?_),uf];show vW ((R.ok [some (.int (0+(i:Int))),some (.int b),some bo,some O]).bind _)=_;rw[jYa,jYa,if_pos rfl,hm];show vW ((zO [O,.int b,bo,.int (0+(i:Int))]).bind _)=_;rw[hp i hi]
  rfl
 unfold Xb uq;rw[wq,hi,jYa];show (xo (wm (Tgt.one 0).asg (fun _=>.ok true) (yR CF "price" zO (zc 3) (za (zc 1) (za (zc 2) (za (zc 0) zg)))) [none,some (.int b),some bo,some O]) (rng 0 q)).bind U6=_;rw[hc,jYa,v9 (by rw[tM,rN];omega),rR]
 rfl
theorem jn:∀k,(yk ss hs H ov lr k).length=k+1
 | 0=>rfl
 | k+1=>by
  show (_::yk ss hs H ov lr k).length=_;rw[tF,jn k]
end
section
variable {ss:List Sp}{hs:List Int}{RL:D}{H ov lr:Int}
theorem jx:∀(k e:Nat),k<=ss.length->ss.length-k<=e->e<=ss.length->((yk ss hs H ov lr k).getD (e-(ss.length-k)) []).length=if e=ss.length then 1 else (mk ss 0 e).toNat+1
 | 0,e,_,h1,h2=>by
  have:e=ss.length:=by omega
  subst this;rw[if_pos rfl,show ss.length-(ss.length-0)=0 by omega]
  rfl
 | k+1,e,hk,h1,h2=>by
  show ((uy ss hs H ov lr (TT (yk ss hs H ov lr k) (ss.length-k)) (ss.length-k-1)::yk ss hs H ov lr k).getD (e-(ss.length-(k+1))) []).length=_
  by_cases z:e=ss.length-(k+1)
  ·rw[if_neg (by omega),show e-(ss.length-(k+1))=0 by omega];show (uy ss hs H ov lr _ (ss.length-k-1)).length=_;unfold uy;rw[tM,rN,show ss.length-k-1=e by omega]
  ·rw[show e-(ss.length-(k+1))=(e-(ss.length-k))+1 by omega];have ih:=jx k e (by omega) (by omega) h2;rw[<-ih];simp[List.getD]
def UQ {S Ru fe ma:D}{fo:List D}{m:Str}{F:List D->R D}{u:Tn->R (List D)}{x y z:Option D}(hm:m∉xP):yR CF m F (zc 3) u [x,y,z,some (filO CF S Ru fe ma fo)]=(u [x,y,z,some (filO CF S Ru fe ma fo)]).bind fun as=>F (filO CF S Ru fe ma fo::as):=if_pos ⟨rfl,hm⟩
def z0c (m:Int)(h0:0<=m)(h1:m<=1000):wJ [.int (m+1)]=.ok (rng 0 (m.toNat+1)):=by
 have e:(m+1).toNat=m.toNat+1:=by omega
 rw[uU (by omega) (by omega),e]
def z2A (S Hs RL O b bo:D)(h:y3 [S,RL,b]=.ok bo):Qv [some O,some S,some Hs,some RL,some b,none]=.ok bo:=by
 unfold Qv;simp -implicitDefEqProofs only [zc,eL,zg,za,jYa,tD,tE,h]
theorem Jc (G:Gd ss hs RL H ov lr)(hla:ss≠[]->yC (ym ss (ss.length-1))=false):∀(r k:Nat),r+k=ss.length ->
  qU CF Qv Xb (.lst (ss.map zq)) (.lst (hs.map D.int)) RL (.lst ((yD hs).map D.int)) (.lst ((yD (ss.map Sp.m)).map D.int)) r ((yk ss hs H ov lr k).map uq)=.ok ((yk ss hs H ov lr ss.length).map uq)
 | 0,k,h=>by
  rw[show k=ss.length by omega]
  rfl
 | r+1,k,h=>by
  have hb:r<ss.length:=by omega
  have hn:=G.n;have hnv:=hla (by intro z;rw[z]at hb;exact absurd hb (by simp));have hm0:=G.mn 0 r;have hs0:=G.sum (tQ r);rw[Zy]at hs0;have h60:=G.hl2;have hbo:=Vv (ss:=ss) (RL:=RL) (H:=H) G.U.h hb (by omega);have hlen:=jn (ss:=ss) (hs:=hs) (H:=H) (ov:=ov) (lr:=lr) k;have ekr:ss.length-k=r+1:=by omega
  have hM:ixD (.lst ((yD (ss.map Sp.m)).map D.int)) (.int (r:Int))=.ok (.int (mk ss 0 r)):=by
   rw[ji (ss.map Sp.m) (k:=r) (by rw[tM];omega) rfl,J1]
  have hfo:∀e,r<e->e<=ss.length->∃row,ixD (.lst (List.replicate (r+1) z0++(yk ss hs H ov lr k).map uq)) (.int (e:Int))=.ok row/\∀t:Nat,t<=mlN ss r e->ixD row (.int (t:Int))=.ok (.int (TT (yk ss hs H ov lr k) (ss.length-k) e t)):=fun e h1 h2=>by
   refine⟨_,z2d k r e _ h1 (by rw[hlen];omega),fun t ht=>?_⟩;have rl:=jx (ss:=ss) (hs:=hs) (H:=H) (ov:=ov) (lr:=lr) k e (by omega) (by omega) h2;rw[ekr]at rl ⊢;refine XT _ ?_;rw[rl];have ad:=Zr ss (b:=r) (e:=e) (by omega);unfold mlN at ht
   by_cases w:e=ss.length
   ·rw[if_pos w]at ht ⊢;omega
   ·rw[if_neg w]at ht ⊢;omega
  have hrow:=z0O (filO CF (.lst (ss.map zq)) RL (.lst ((yD hs).map D.int)) (.lst ((yD (ss.map Sp.m)).map D.int)) (List.replicate (r+1) z0++(yk ss hs H ov lr k).map uq)) (.lst (ss.map zq)) (.lst (hs.map D.int)) RL (.lst ((wy ss H r (ss.length-r) (r+1)).map (qi ss r))) (.lst ((yD (ss.map Sp.m)).map D.int)) (r:Int) (mk ss 0 r) ((mk ss 0 r).toNat+1) (fun a=>j5 ss hs H ov lr (TT (yk ss hs H ov lr k) (ss.length-k)) r (a:Int)) f_M hM (z0c _ hm0 (by omega)) (by omega) (UQ Kd) (fun i hi=>by
    rw[gK];exact Jb G hnv hb (by omega) (by omega) _ _ hfo)
  unfold qU;rw[z2A _ _ _ _ _ _ hbo,jYa,hrow,jYa];have ih:=Jc G hla r (k+1) (by omega);have er:yk ss hs H ov lr (k+1)=uy ss hs H ov lr (TT (yk ss hs H ov lr k) (ss.length-k)) r::yk ss hs H ov lr k:=by
   show uy ss hs H ov lr _ (ss.length-k-1)::_=_;rw[show ss.length-k-1=r by omega]
  rw[er,tG]at ih;exact ih
end
section
variable {ss:List Sp}{hs:List Int}{RL:D}{H ov lr:Int}
def z3U (S Hs RL fe:D)(h:xR [Hs]=.ok fe):Kt [none,some S,some Hs,some RL,none,none]=.ok fe:=by
 unfold Kt;simp -implicitDefEqProofs only [zc,eL,zg,za,jYa,tD,tE,h]
def z40 (Hs RL ma:D)(hn:ss.length<=1000)(h:xR [.lst (ss.map fun s=>.int s.m)]=.ok ma):JR [none,some (.lst (ss.map zq)),some Hs,some RL,none,none]=.ok ma:=by
 unfold JR;exact eL1 (cmp (xs:=ss) (f:=fun s=>.int s.m) rfl hn (fun s=>eB2 rfl rfl (s3 s))) h
def z3B (S Hs RL:D)(n:Int)(h:xh [S]=.ok (.int n)):Jp [none,some S,some Hs,some RL,none,none]=.ok (.int (n+1)):=by
 unfold Jp;simp -implicitDefEqProofs only [zc,eC,zd,eL,zg,za,jYa,tD,tE,zQ,h]
def z3W (S Hs RL:D)(n:Int)(h:xh [S]=.ok (.int n)):Kg [none,some S,some Hs,some RL,none,none]=.ok [.int (n-1),.int (-1),.int (-1)]:=by
 unfold Kg;simp -implicitDefEqProofs only [zc,eC,zd,eUn,eL,zg,za,jYa,tD,tE,zP,qD,Int.reduceNeg,h]
def Qa (G:Gd ss hs RL H ov lr)(hla:ss≠[]->yC (ym ss (ss.length-1))=false):yu [.lst (ss.map zq),.lst (hs.map D.int),RL]=.ok [.lst ((yD hs).map D.int),.lst ((yD (ss.map Sp.m)).map D.int),.lst ((yk ss hs H ov lr ss.length).map uq)]:=by
 have hn:=G.n;have h60:=G.hl2;have hl:=jd ss;have h1:=z3U (.lst (ss.map zq)) (.lst (hs.map D.int)) RL _ (V5 hs (by omega));have hm:=V5 (ss.map Sp.m) (by rw[tM];omega);rw[rR]at hm;have h2:=z40 (ss:=ss) (.lst (hs.map D.int)) RL _ (by omega) hm;have h3:=z3B (.lst (ss.map zq)) (.lst (hs.map D.int)) RL _ hl;have h4:=z3W (.lst (ss.map zq)) (.lst (hs.map D.int)) RL _ hl;have hg:=Jc G hla ss.length 0 (by omega);have hz:(yk ss hs H ov lr 0).map uq=[z0]:=rfl;rw[hz]at hg;have i1:uW (.lst ((yD hs).map D.int))=some (yD hs):=wO _;have i2:uW (.lst ((yD (ss.map Sp.m)).map D.int))=some (yD (ss.map Sp.m)):=wO _;unfold yu VQ;dsimp only;rw[h1,jYa,h2,jYa,i1,i2,h3,h4];dsimp only;rw[if_pos ⟨by omega,by omega,by omega,rfl,rfl⟩,show (((ss.length:Nat):Int)+1-1).toNat=ss.length by omega,hg,jYa]
def z3q (G:Gd ss hs RL H ov lr)(hla:ss≠[]->yC (ym ss (ss.length-1))=false):yJ [.lst (ss.map zq),.lst (hs.map D.int),RL]=.ok (.lst ((yk ss hs H ov lr ss.length).map uq)):=by
 have h:ko yu [.lst (ss.map zq),.lst (hs.map D.int),RL]=.ok (.lst ((yk ss hs H ov lr ss.length).map uq)):=by
  unfold ko;rw[Qa G hla]
 generalize (D.lst ((yk ss hs H ov lr ss.length).map uq))=Y at *;generalize (D.lst (ss.map zq))=S at *;generalize (D.lst (hs.map D.int))=HS at *;simp -implicitDefEqProofs only [yJ,uF,zC,zA,zc,eL,zg,za,jYa,tG,sA,tF,tP,tK,tS,tN,tD,tE,Nat.reduceAdd,Nat.reduceSub,tZ,h]
end
section
variable {ss:List Sp}{hs:List Int}{RL:D}{H ov lr:Int}
theorem qQ:∀(j k:Nat),(yk ss hs H ov lr (j+k)).drop j=yk ss hs H ov lr k
 | 0,k=>by rw[tZ];rfl
 | j+1,k=>by
  rw[show j+1+k=(j+k)+1 by omega];show (_::yk ss hs H ov lr (j+k)).drop (j+1)=_;rw[List.drop_succ_cons,qQ j k]
def T0 (ss:List Sp)(hs:List Int)(H ov lr:Int)(e t:Nat):Int:=((yk ss hs H ov lr ss.length).getD e []).getD t 0
def z0f {k e t:Nat}(hk:k<=ss.length)(he:ss.length-k<=e):TT (yk ss hs H ov lr k) (ss.length-k) e t=T0 ss hs H ov lr e t:=by
 unfold TT T0;have h:=qQ (ss:=ss) (hs:=hs) (H:=H) (ov:=ov) (lr:=lr) (ss.length-k) k;rw[show ss.length-k+k=ss.length by omega]at h;rw[<-h];congr 1;rw[sY,sY,pM,show ss.length-k+(e-(ss.length-k))=e by omega]
def Xu {b:Nat}{a:Int}{T T':Nat->Nat->Int}(h:∀e t,b<e->e<=ss.length->T e t=T' e t):j5 ss hs H ov lr T b a=j5 ss hs H ov lr T' b a:=by
 unfold j5;congr 1;refine pI fun w hw=>?_;obtain⟨h1,h2,_,_⟩:=Wv hw;rw[h w.1 w.2.1 h1 h2]
def z2a {b:Nat}(hb:b<ss.length):(yk ss hs H ov lr ss.length).getD b []=uy ss hs H ov lr (T0 ss hs H ov lr) b:=by
 have h:=qQ (ss:=ss) (hs:=hs) (H:=H) (ov:=ov) (lr:=lr) b (ss.length-b);rw[show b+(ss.length-b)=ss.length by omega]at h;have e1:(yk ss hs H ov lr ss.length).getD b []=((yk ss hs H ov lr ss.length).drop b).getD 0 []:=by
  rw[sY,sY,pM,Nat.add_zero]
 rw[e1,h,show ss.length-b=(ss.length-b-1)+1 by omega];show uy ss hs H ov lr (TT (yk ss hs H ov lr (ss.length-b-1)) (ss.length-(ss.length-b-1))) (ss.length-(ss.length-b-1)-1)=_;rw[show ss.length-(ss.length-b-1)-1=b by omega];unfold uy;refine pI fun a _=>Xu fun e t h1 h2=>z0f (by omega) (by omega)
def z0b {b a:Nat}(hb:b<ss.length)(ha:a<=(mk ss 0 b).toNat):T0 ss hs H ov lr b a=j5 ss hs H ov lr (T0 ss hs H ov lr) b (a:Int):=by
 have h:=z2a (ss:=ss) (hs:=hs) (H:=H) (ov:=ov) (lr:=lr) hb;show ((yk ss hs H ov lr ss.length).getD b []).getD a 0=_;rw[h];unfold uy;rw[sY,sJ,pG (by omega)]
 rfl
def Vf:T0 ss hs H ov lr ss.length 0=0:=by
 have h:=z0f (ss:=ss) (hs:=hs) (H:=H) (ov:=ov) (lr:=lr) (k:=0) (e:=ss.length) (t:=0) (by omega) (by omega);rw[<-h,gJ];unfold TT;rw[gI]
 rfl
end
def tkB:Tn->R D:=(eL (fun ds=>.ok (.tup ds)) (za (yq (zd ixD (zc 0) (eC (.int 0)))) (za (eUn vj (zd ixD (zc 0) (eC (.int 1)))) zg)))
def z22 (T:Nat->Nat->Int)(w:Nat×Nat×Int):tkB [some (yU T w)]=.ok (.tup [.int (w.1:Int),.int (-(w.2.1:Int))]):=rfl
def vX (w:Nat×Nat×Int):List Int:=[(w.1:Int),-(w.2.1:Int)]
theorem Vt (T:Nat->Nat->Int):∀xs:List (Nat×Nat×Int),jM tkB (xs.map (yU T))=some (xs.map vX)
 | []=>rfl
 | w::xs=>by
  rw[tG,tG];show (match yz [.int (w.1:Int),.int (w.2.1:Int),.int (w.2.2+T w.1 w.2.1)],tkB [some (yU T w)],jM tkB (xs.map (yU T))with
   | some _,.ok (.tup fs),some ks=>(match yz fs with
    | some ns=>if ns.length=2 then some (ns::ks) else none
    | none=>none)
   | _,_,_=>none)=_
  rw[z22,Vt T xs]
  rfl
def vP (xs:List (Nat×Nat×Int)):Nat:=wU (fun i=>(xs.map vX).getD i []) (xs.length-1) 1 0
theorem Ym (kf:Nat->List Int):∀(n i b:Nat),b<i->wU kf n i b<i+n
 | 0,i,b,h=>h
 | n+1,i,b,h=>by
  show wU kf n (i+1) (if wY (kf i) (kf b)=true then i else b)<_;have:=Ym kf n (i+1) (if wY (kf i) (kf b)=true then i else b) (by split<;>omega);omega
def xI {xs:List (Nat×Nat×Int)}(h:xs≠[]):vP xs<xs.length:=by
 have hl:0<xs.length:=List.length_pos_iff.mpr h;have:=Ym (fun i=>(xs.map vX).getD i []) (xs.length-1) 1 0 (by omega);unfold vP;omega
def z47 (T:Nat->Nat->Int){xs:List (Nat×Nat×Int)}(h:xs≠[]):vG tkB (.lst (xs.map (yU T)))=.ok (yU T (xs[vP xs]'(xI h))):=by
 unfold vG;dsimp only;rw[Vt];dsimp only;have e:(xs.map (yU T))[wU (fun i=>(xs.map vX).getD i []) ((xs.map (yU T)).length-1) 1 0]?=some (yU T (xs[vP xs]'(xI h))):=by
  rw[tM,sJ];show (xs[vP xs]?).map (yU T)=_;rw[tL (xI h)]
  rfl
 rw[e]
def WL:Tn->R D:=(yg [none,some 2,some 1,some 0] (xq (zc 3)) (.one 0) (zl (zd (eqR false) (zd ixD (zc 0) (eC (.int 2))) (zd ixD (zd ixD (eUn (yQ CF "found") (zc 3)) (zc 2)) (zc 1)))) (yq (zc 0)))
def Xk (T:Nat->Nat->Int)(w:Nat×Nat×Int):(yU T w).imm=true:=rfl
def K5 (O FO row:D)(b a v:Int)(T:Nat->Nat->Int)(xs:List (Nat×Nat×Int))(x4:Option D)(hx:xs.length<=100000)(hO:yQ CF "found" O=.ok FO)(h1:ixD FO (.int b)=.ok row)(h2:ixD row (.int a)=.ok (.int v)):
  WL [some O,some (.int b),some (.int a),some (.lst (xs.map (yU T))),x4]=.ok (.lst ((xs.filter fun w=>w.2.2+T w.1 w.2.1==v).map (yU T))):=by
 have hc:xo (wm (Tgt.one 0).asg (zl (zd (eqR false) (zd ixD (zc 0) (eC (.int 2))) (zd ixD (zd ixD (eUn (yQ CF "found") (zc 3)) (zc 2)) (zc 1)))) (yq (zc 0)) [none,some (.int a),some (.int b),some O]) (xs.map (yU T))=.ok (xs.filterMap fun w=>if (w.2.2+T w.1 w.2.1==v)=true then some (yU T w) else none):=by
  refine w6 fun w _=>?_;have e2:ixD (yU T w) (.int 2)=.ok (.int (w.2.2+T w.1 w.2.1)):=Ux;have im:=Xk T w;show vW ((R.ok [some (yU T w),some (.int a),some (.int b),some O]).bind _)=_;rw[jYa];generalize yU T w=W at *;generalize w.2.2+T w.1 w.2.1=z at *;have hq:eqR false (.int z) (.int v)=.ok (.bl (z==v)):=xY;have ht:(zl (zd (eqR false) (zd ixD (zc 0) (eC (.int 2))) (zd ixD (zd ixD (eUn (yQ CF "found") (zc 3)) (zc 2)) (zc 1)))) [some W,some (.int a),some (.int b),some O]=.ok (z==v):=by
   simp -implicitDefEqProofs only [zc,eC,zd,eUn,zl,asB,jYa,tD,tE,e2,hO,h1,h2,hq]
  rw[ht,jYa];cases z==v with
  | false=>rfl
  | true =>
   rw[if_pos rfl,if_pos rfl];have:yq (zc 0) [some W,some (.int a),some (.int b),some O]=.ok W:=by
    show (if W.imm=true then R.ok W else .bad)=_;rw[if_pos im]
   rw[this]
   rfl
 unfold WL;rw[wq];show (R.ok (xs.map (yU T))).bind _=_;rw[jYa];show (xo (wm (Tgt.one 0).asg (zl (zd (eqR false) (zd ixD (zc 0) (eC (.int 2))) (zd ixD (zd ixD (eUn (yQ CF "found") (zc 3)) (zc 2)) (zc 1)))) (yq (zc 0)) [none,some (.int a),some (.int b),some O]) (xs.map (yU T))).bind U6=_;rw[hc,jYa];have ef:(xs.filterMap fun w=>if (w.2.2+T w.1 w.2.1==v)=true then some (yU T w) else none)=(xs.filter fun w=>w.2.2+T w.1 w.2.1==v).map (yU T):=by
  clear hc hx
  induction xs with
  | nil=>rfl
  | cons w xs ih =>
   rw[rC,List.filter_cons];cases h:(w.2.2+T w.1 w.2.1==v)with
   | false=>simpa using ih
   | true=>simpa using ih
 rw[ef,v9];rw[tM];exact sT (List.length_filter_le _ _) (by omega)
def gd (ss:List Sp)(hs:List Int)(H ov lr:Int)(T:Nat->Nat->Int)(b:Nat)(a:Int)(v:Int):List (Nat×Nat×Int):=(lv ss hs H ov lr b a).filter fun w=>w.2.2+T w.1 w.2.1==v
def z1V (S Ru fe ma:D)(fo:List D)(b a bo row:D)(bi ai v:Int)(T:Nat->Nat->Int)(ws:List (Nat×Nat×Int))(hb:b=.int bi)(ha:a=.int ai)(hl:ws.length<=100000)(hne:(ws.filter fun w=>w.2.2+T w.1 w.2.1==v)≠[])(hbo:y3 [S,Ru,b]=.ok bo)(hw:zG [filO CF S Ru fe ma fo,b,bo,a]=.ok (.lst (ws.map (yU T))))(h1:ixD (.lst fo) b=.ok row)(h2:ixD row a=.ok (.int v)):
  y2 [filO CF S Ru fe ma fo,b,a]=.ok (yU T ((ws.filter fun w=>w.2.2+T w.1 w.2.1==v)[vP (ws.filter fun w=>w.2.2+T w.1 w.2.1==v)]'(xI hne))):=by
 subst hb ha;have hS:yQ CF "strips" (filO CF S Ru fe ma fo)=.ok S:=f_S;have hR:yQ CF "rules" (filO CF S Ru fe ma fo)=.ok Ru:=f_R;have hO:yQ CF "found" (filO CF S Ru fe ma fo)=.ok (.lst fo):=f_O;have hm:∀ {u:Tn->R (List D)} {τ:Tn},yR CF "ways" zG (zc 0) u (some (filO CF S Ru fe ma fo)::τ)=(u (some (filO CF S Ru fe ma fo)::τ)).bind fun as=>zG (filO CF S Ru fe ma fo::as):=jl Us;have hg:=fun x4=>K5 (filO CF S Ru fe ma fo) (.lst fo) row bi ai v T ws x4 hl hO h1 h2;have hx:=z47 T hne;have him:=Xk T ((ws.filter fun w=>w.2.2+T w.1 w.2.1==v)[vP (ws.filter fun w=>w.2.2+T w.1 w.2.1==v)]'(xI hne));have hT:y2=zC 5 (zj (zo 3 (yR CF "ways" zG (zc 0) (za (zc 1) (za (eL y3 (za (eUn (yQ CF "strips") (zc 0)) (za (eUn (yQ CF "rules") (zc 0)) (za (zc 1) zg)))) (za (zc 2) zg))))) (zj (zo 4 WL) (zA (yq (eUn (vG tkB) (zc 4)))))):=rfl;rw[hT];generalize yU T ((ws.filter fun w=>w.2.2+T w.1 w.2.1==v)[vP (ws.filter fun w=>w.2.2+T w.1 w.2.1==v)]'(xI hne))=Y at *;generalize (ws.filter fun w=>w.2.2+T w.1 w.2.1==v).map (yU T)=Z at *;generalize ws.map (yU T)=X at *;generalize filO CF S Ru fe ma fo=O at *;generalize WL=GB at *;generalize vG tkB=MK at *;have e5:yq (eUn MK (zc 4)) [some O,some (.int bi),some (.int ai),some (.lst X),some (.lst Z)]=.ok Y:=by
  show ((MK (.lst Z)).bind _)=_;rw[hx,jYa,if_pos him]
 generalize yq (eUn MK (zc 4))=EE at *;simp -implicitDefEqProofs only [zC,zj,zo,zA,zc,eUn,eL,zg,za,jYa,tG,sA,tF,tP,tO,tK,tS,tN,tD,tE,tH,tI,Nat.reduceAdd,Nat.reduceSub,tZ,hm,hS,hR,hbo,hw,hg,e5]
theorem WO (lt:Int->Int->Bool)(f:Nat->Int):∀k,∃j,j<=k/\qd lt f k=f j
 | 0=>⟨0,tQ _,rfl⟩
 | k+1=>by
  obtain⟨j,h1,h2⟩:=WO lt f k;unfold qd;split
  ·exact⟨k+1,tQ _,rfl⟩
  ·exact⟨j,by omega,h2⟩
def Qb {ns:List Int}(h:ns≠[]):km ns∈ns:=by
 have hp:0<ns.length:=List.length_pos_iff.mpr h;obtain⟨j,h1,h2⟩:=WO (fun i j=>decide (i<j)) (fun i=>ns.getD i 0) (ns.length-1);have hj:j<ns.length:=by omega
 have:km ns=ns[j]:=by
  unfold km;rw[h2];simp[List.getD,hj]
 rw[this];exact pK hj
section
variable {ss:List Sp}{hs:List Int}{RL:D}{H ov lr:Int}
def jY (ss:List Sp)(hs:List Int)(H ov lr:Int):List D:=(yk ss hs H ov lr ss.length).map uq
def Q7 {e:Nat}(h:e<=ss.length):ixD (.lst (jY ss hs H ov lr)) (.int (e:Int))=.ok (uq ((yk ss hs H ov lr ss.length).getD e [])):=by
 have hl:=jn (ss:=ss) (hs:=hs) (H:=H) (ov:=ov) (lr:=lr) ss.length;have h2:e<(yk ss hs H ov lr ss.length).length:=by omega
 refine qG (wd ?_);unfold jY;rw[sJ,tL h2];simp[List.getD,h2]
def Wz {e:Nat}(h:e<=ss.length):((yk ss hs H ov lr ss.length).getD e []).length=if e=ss.length then 1 else (mk ss 0 e).toNat+1:=by
 have h:=jx (ss:=ss) (hs:=hs) (H:=H) (ov:=ov) (lr:=lr) ss.length e (tQ _) (by omega) h;rw[gI,gJ]at h;exact h
def Uw {e t:Nat}(h:e<=ss.length)(ht:t<if e=ss.length then 1 else (mk ss 0 e).toNat+1):∃row,ixD (.lst (jY ss hs H ov lr)) (.int (e:Int))=.ok row/\ixD row (.int (t:Int))=.ok (.int (T0 ss hs H ov lr e t)):=
 ⟨_,Q7 h,XT _ (by rw[Wz h];exact ht)⟩
def z39 {b e t:Nat}(h0:0<=mk ss 0 b)(h:b<e)(h2:e<=ss.length)(ht:t<=mlN ss b e):t<if e=ss.length then 1 else (mk ss 0 e).toNat+1:=by
 have ad:=Zr ss (b:=b) (e:=e) (by omega);unfold mlN at ht
 by_cases w:e=ss.length
 ·rw[if_pos w]at ht ⊢;omega
 ·rw[if_neg w]at ht ⊢;omega
def z3N (G:Gd ss hs RL H ov lr)(b:Nat):∀e,b<e->e<=ss.length->∃row,ixD (.lst (jY ss hs H ov lr)) (.int (e:Int))=.ok row/\∀t:Nat,t<=mlN ss b e->ixD row (.int (t:Int))=.ok (.int (T0 ss hs H ov lr e t)):=fun e h1 h2 =>
 ⟨_,Q7 h2,fun t ht=>XT _ (by rw[Wz h2];exact z39 (G.mn 0 b) h1 h2 ht)⟩
def gl (ss:List Sp)(hs:List Int)(H ov lr:Int)(b a:Nat):List (Nat×Nat×Int):=(lv ss hs H ov lr b (a:Int)).filter fun w=>w.2.2+T0 ss hs H ov lr w.1 w.2.1==T0 ss hs H ov lr b a
def bw (ss:List Sp)(hs:List Int)(H ov lr:Int)(b a:Nat):Nat×Nat×Int:=(gl ss hs H ov lr b a).getD (vP (gl ss hs H ov lr b a)) (0,0,0)
def UE (G:Gd ss hs RL H ov lr)(hla:ss≠[]->yC (ym ss (ss.length-1))=false){b a:Nat}(hb:b<ss.length)(ha:a<=(mk ss 0 b).toNat):gl ss hs H ov lr b a≠[]:=by
 have hnv:=hla (by intro z;rw[z]at hb;exact absurd hb (by simp));have hne:=z00 (hs:=hs) (H:=H) (ov:=ov) (lr:=lr) (a:=(a:Int)) hb hnv (G.mn _ _);have hm:=Qb (ns:=(lv ss hs H ov lr b (a:Int)).map fun w=>w.2.2+T0 ss hs H ov lr w.1 w.2.1) (fun z=>hne (List.map_eq_nil_iff.mp z));have he:=z0b (ss:=ss) (hs:=hs) (H:=H) (ov:=ov) (lr:=lr) hb ha;unfold j5 at he;rw[<-he]at hm;obtain⟨w,hw,e⟩:=rB.mp hm;refine List.ne_nil_of_mem (a:=w) (pN.mpr ⟨hw,?_⟩);rw[e];simp
def Ur (h:gl ss hs H ov lr b a≠[]):bw ss hs H ov lr b a=(gl ss hs H ov lr b a)[vP (gl ss hs H ov lr b a)]'(xI h):=by
 unfold bw;simp[List.getD,xI h]
def Qe (h:gl ss hs H ov lr b a≠[]):bw ss hs H ov lr b a∈lv ss hs H ov lr b (a:Int):=by
 rw[Ur h];exact (pN.mp (pK (xI h))).1
def JK (G:Gd ss hs RL H ov lr)(hla:ss≠[]->yC (ym ss (ss.length-1))=false){b a:Nat}(hb:b<ss.length)(ha:a<=(mk ss 0 b).toNat):
  y2 [filO CF (.lst (ss.map zq)) RL (.lst ((yD hs).map D.int)) (.lst ((yD (ss.map Sp.m)).map D.int)) (jY ss hs H ov lr),.int (b:Int),.int (a:Int)]=.ok (yU (T0 ss hs H ov lr) (bw ss hs H ov lr b a)):=by
 have h0:=G.mn 0 b;have hn:=G.n;have hne:=UE G hla hb ha;obtain⟨row,r1,r2⟩:=Uw (ss:=ss) (hs:=hs) (H:=H) (ov:=ov) (lr:=lr) (e:=b) (t:=a) (by omega) (by rw[if_neg (by omega)];omega);rw[Ur hne];exact z1V _ _ _ _ _ _ _ _ row (b:Int) (a:Int) _ (T0 ss hs H ov lr) (lv ss hs H ov lr b (a:Int)) rfl rfl (UO G hb) hne (Vv (ss:=ss) (RL:=RL) (H:=H) G.U.h hb (by omega)) (Xa G hb (by omega) (by omega) _ _ (z3N G b)) r1 r2
end
def ZA {k:Tn->R Bool}{b:Tn->R Fl}{τ:Tn}(h:k τ=.ok false):yy k b τ=.ok (.nx τ):=qR (n:=1) (by rw[wx,h];rfl) (by simp)
def Y3 {k:Tn->R Bool}{b:Tn->R Fl}{τ τ2:Tn}{f:Fl}(h:k τ=.ok true)(hb:b τ=.ok (.nx τ2))(hw:yy k b τ2=.ok f):yy k b τ=.ok f:=by
 rcases ke (k:=k) (body:=b) (τ:=τ2)with e|⟨n,e,_⟩
 ·rw[e]at hw;cases hw
 ·exact qR (n:=n+1) (by rw[wx,h,jYa,if_pos rfl,hb,jYa];rw[hw]at e;exact e) (by simp)
def yb (p:Nat×Nat):D:=.tup [.int (p.1:Int),.int (p.2:Int)]
def fl (ss:List Sp)(hs:List Int)(H ov lr:Int):Nat->Nat->Nat->List (Nat×Nat)
 | 0,_,_=>[]
 | k+1,b,a=>if b<ss.length then ((bw ss hs H ov lr b a).1,(bw ss hs H ov lr b a).2.1)::fl ss hs H ov lr k (bw ss hs H ov lr b a).1 (bw ss hs H ov lr b a).2.1 else []
def Zx:Tn->R Bool:=(zl (zd ltD (zc 5) (eL xh (za (zc 0) zg))))
def ZO:Tn->R Fl:=(zj (zo 7 (yR CF "best" y2 (zc 3) (za (zc 5) (za (zc 6) zg)))) (zj (zo 5 (yq (zd ixD (zc 7) (eC (.int 0))))) (zj (zo 6 (yq (zd ixD (zc 7) (eC (.int 1))))) (vI 4 (yq (eL (fun ds=>.ok (.tup ds)) (za (zc 5) (za (zc 6) zg))))))))
def cFi (S Hs Ru O L a:D)(b n:Int)(x7:Option D)(hl:xh [S]=.ok (.int n)):Zx [some S,some Hs,some Ru,some O,some L,some (.int b),some a,x7]=.ok (decide (b<n)):=by
 unfold Zx;simp -implicitDefEqProofs only [zc,zd,eL,zg,za,zl,asB,jYa,tD,tE,xH,hl]
def QI {S Ru fe ma:D}{fo:List D}{m:Str}{F:List D->R D}{u:Tn->R (List D)}{x y z:Option D}{τ:Tn}(hm:m∉xP):yR CF m F (zc 3) u (x::y::z::some (filO CF S Ru fe ma fo)::τ)=(u (x::y::z::some (filO CF S Ru fe ma fo)::τ)).bind fun as=>F (filO CF S Ru fe ma fo::as):=if_pos ⟨rfl,hm⟩
def bFi (S Hs Ru fe ma:D)(fo L:List D)(b a e t:Int)(W:D)(x7:Option D)(hL:L.length<16777000)(h:y2 [filO CF S Ru fe ma fo,.int b,.int a]=.ok W)(w0:ixD W (.int 0)=.ok (.int e))(w1:ixD W (.int 1)=.ok (.int t)):
  ZO [some S,some Hs,some Ru,some (filO CF S Ru fe ma fo),some (.lst L),some (.int b),some (.int a),x7]=.ok (.nx [some S,some Hs,some Ru,some (filO CF S Ru fe ma fo),some (.lst (L++[.tup [.int e,.int t]])),some (.int e),some (.int t),some W]):=by
 have hm:∀ {u:Tn->R (List D)} {x y z:Option D} {τ:Tn},yR CF "best" y2 (zc 3) u (x::y::z::some (filO CF S Ru fe ma fo)::τ)=(u (x::y::z::some (filO CF S Ru fe ma fo)::τ)).bind fun as=>y2 (filO CF S Ru fe ma fo::as):=QI z1e;have hl2:L.length<16777216:=by omega
 unfold ZO;generalize filO CF S Ru fe ma fo=O at *;simp -implicitDefEqProofs only [xB,xC,wb,yn,wH,ud,u3,uk,zj,zo,zc,eC,zd,eL,zg,za,jYa,tD,tE,tH,tI,hm,h,w0,w1,hl2]
section
variable {ss:List Sp}{hs:List Int}{RL:D}{H ov lr:Int}
theorem z3d (G:Gd ss hs RL H ov lr)(hla:ss≠[]->yC (ym ss (ss.length-1))=false)(Hs:D):∀(k b a:Nat) (L:List D) (x7:Option D),ss.length-b<=k->a<=(mk ss 0 b).toNat->L.length+k<16777000 ->
  ∃y5 y6 y7,yy Zx ZO [some (.lst (ss.map zq)),some Hs,some RL,some (filO CF (.lst (ss.map zq)) RL (.lst ((yD hs).map D.int)) (.lst ((yD (ss.map Sp.m)).map D.int)) (jY ss hs H ov lr)),some (.lst L),some (.int (b:Int)),some (.int (a:Int)),x7]=.ok (.nx [some (.lst (ss.map zq)),some Hs,some RL,some (filO CF (.lst (ss.map zq)) RL (.lst ((yD hs).map D.int)) (.lst ((yD (ss.map Sp.m)).map D.int)) (jY ss hs H ov lr)),some (.lst (L++(fl ss hs H ov lr k b a).map yb)),y5,y6,y7])
 | k,b,a,L,x7,hk,ha,hL=>by
  have hc:=cFi (.lst (ss.map zq)) Hs RL (filO CF (.lst (ss.map zq)) RL (.lst ((yD hs).map D.int)) (.lst ((yD (ss.map Sp.m)).map D.int)) (jY ss hs H ov lr)) (.lst L) (.int (a:Int)) (b:Int) ss.length x7 (jd ss)
  by_cases hb:b<ss.length
  ·rw[decide_eq_true (by omega)]at hc;cases k with
   | zero=>omega
   | succ k =>
    have hm:=Wv (Qe (UE G hla hb ha));have h0:=G.mn 0 b;have h1:=G.mn b (bw ss hs H ov lr b a).1;have ad:=Zr ss (b:=b) (e:=(bw ss hs H ov lr b a).1) (by omega);have hml:mlN ss b (bw ss hs H ov lr b a).1<=(mk ss b (bw ss hs H ov lr b a).1).toNat:=by unfold mlN;split<;>omega
    have t:=bFi (.lst (ss.map zq)) Hs RL (.lst ((yD hs).map D.int)) (.lst ((yD (ss.map Sp.m)).map D.int)) (jY ss hs H ov lr) L (b:Int) (a:Int) ((bw ss hs H ov lr b a).1:Int) ((bw ss hs H ov lr b a).2.1:Int) _ x7 (by omega) (JK G hla hb ha) QZ Uq;obtain⟨y5,y6,y7,ih⟩:=z3d G hla Hs k (bw ss hs H ov lr b a).1 (bw ss hs H ov lr b a).2.1 (L++[.tup [.int ((bw ss hs H ov lr b a).1:Int),.int ((bw ss hs H ov lr b a).2.1:Int)]]) (some (yU (T0 ss hs H ov lr) (bw ss hs H ov lr b a))) (by omega) (by omega) (by rw[tT,rH];omega);refine⟨y5,y6,y7,(Y3 hc t ih).trans ?_⟩;rw[sP];have:fl ss hs H ov lr (k+1) b a=((bw ss hs H ov lr b a).1,(bw ss hs H ov lr b a).2.1)::fl ss hs H ov lr k (bw ss hs H ov lr b a).1 (bw ss hs H ov lr b a).2.1:=if_pos hb;rw[this]
    rfl
  ·rw[decide_eq_false (by omega)]at hc;have:fl ss hs H ov lr k b a=[]:=by
    cases k with
    | zero=>rfl
    | succ k=>exact if_neg hb
   refine⟨some (.int (b:Int)),some (.int (a:Int)),x7,(ZA hc).trans ?_⟩;rw[this,sA,tY]
def z1i (SW:Tn->R Fl)(S Hs Ru O Y:D)(y5 y6 y7:Option D)(h:mkD CF yu [S,Hs,Ru]=.ok O)(hw:SW [some S,some Hs,some Ru,some O,some (.lst []),some (.int 0),some (.int 0),none]=.ok (.nx [some S,some Hs,some Ru,some O,some Y,y5,y6,y7])):
  zC 8 (zj (zo 3 (eL (mkD CF yu) (za (zc 0) (za (zc 1) (za (zc 2) zg))))) (zj (zo 4 (eL (fun ds=>.ok (.lst ds)) zg)) (zj (zo 5 (eC (.int 0))) (zj (zo 6 (eC (.int 0))) (zj SW (zA (zc 4))))))) [S,Hs,Ru]=.ok Y:=by
 generalize mkD CF yu=MK at *;simp -implicitDefEqProofs only [zC,zj,zo,zA,zc,eC,eL,zg,za,jYa,tG,sA,tF,tP,tO,tK,tS,tN,tD,tE,tH,tI,Nat.reduceAdd,Nat.reduceSub,tZ,h,hw]
def VN (G:Gd ss hs RL H ov lr)(hla:ss≠[]->yC (ym ss (ss.length-1))=false):wQ [.lst (ss.map zq),.lst (hs.map D.int),RL]=.ok (.lst ((fl ss hs H ov lr ss.length 0 0).map yb)):=by
 have hn:=G.n;have hf:mkD CF yu [.lst (ss.map zq),.lst (hs.map D.int),RL]=.ok (filO CF (.lst (ss.map zq)) RL (.lst ((yD hs).map D.int)) (.lst ((yD (ss.map Sp.m)).map D.int)) (jY ss hs H ov lr)):=by
  unfold mkD;rw[Qa G hla]
  rfl
 obtain⟨y5,y6,y7,h⟩:=z3d G hla (.lst (hs.map D.int)) ss.length 0 0 [] none (by omega) (by omega) (by rw[tP];omega);rw[tN]at h;have hT:wQ=zC 8 (zj (zo 3 (eL (mkD CF yu) (za (zc 0) (za (zc 1) (za (zc 2) zg))))) (zj (zo 4 (eL (fun ds=>.ok (.lst ds)) zg)) (zj (zo 5 (eC (.int 0))) (zj (zo 6 (eC (.int 0))) (zj (yy Zx ZO) (zA (zc 4))))))):=rfl;rw[hT];exact z1i _ _ _ _ _ _ y5 y6 y7 hf h
end
def Kv (ns:List Int)(k:Int)(hk:0<=k)(hl:ns.length<=63):∃v,xS [.frl (ns.map .int),.int k]=.ok (.int v):=by
 by_cases h:k<(ns.length:Int)
 ·have hm:k.toNat<ns.length:=by omega
  have hix:ixD (.frl (ns.map .int)) (.int k)=.ok (.int ns[k.toNat]):=z1H (z1Q hk (by rw[sJ,tL hm];rfl));have e1:decide (k<(ns.length:Int))=true:=decide_eq_true h;refine⟨ns[k.toNat],?_⟩;generalize ns[k.toNat]=v at *;simp -implicitDefEqProofs only [xS,vO,yn,wH,zt,zC,zj,zA,sIf,zc,eC,zd,eL,zg,za,zl,asB,jYa,tG,sA,tF,tP,tK,tS,tN,tD,tE,Nat.reduceAdd,Nat.reduceSub,tZ,xH,Vd,if_true,tM,e1,hix]
 ·have e1:decide (k<(ns.length:Int))=false:=decide_eq_false h;refine⟨0,?_⟩;simp -implicitDefEqProofs only [xS,vO,yn,zt,zC,zj,zA,sIf,zc,eC,zd,eL,zg,za,zl,asB,jYa,tG,sA,tF,tP,tK,tS,tN,tD,tE,Nat.reduceAdd,Nat.reduceSub,tZ,xH,Vd,if_false,tJ,tM,e1]
def Xr (ns:List Int)(k:Int)(hk:0<=k)(hk2:k<=1000)(hl:ns.length<=63):∃v,zB [.frl (ns.map .int),.int k]=.ok (.int v)/\0<=v/\v<2147483647:=by
 obtain⟨v,hv⟩:=Kv ns k hk hl;have b1:-18446744073709551616<7919*k:=by omega
 have b2:7919*k<18446744073709551616:=by omega
 have e1:xp (.int 7919) (.int k)=.ok (.int (7919*k)):=vz (by decide) (by decide);have e2:xp (.int (7919*k)) (.int k)=.ok (.int (7919*k*k)):=vz b1 b2;have e3:xp (.int (v+7919*k*k)) (.int 48271)=.ok (.int ((v+7919*k*k)*48271)):=ZK (by decide) (by decide);refine⟨((v+7919*k*k)*48271+12345)%2147483647,?_,Int.emod_nonneg _ (by decide),Int.emod_lt_of_pos _ (by decide)⟩;simp -implicitDefEqProofs only [zB,qp,zC,zA,zc,eC,zd,eL,zg,za,jYa,tG,sA,tF,tP,tK,tS,tN,tD,tE,Nat.reduceAdd,Nat.reduceSub,tZ,zQ,wR,Int.reduceLT,hv,e1,e2,e3]
def Km (n:Int):∃v,yi [.int n]=.ok (.int v)/\1<=v/\v<=30:=by
 cases h:(n/5%17==4)with
 | true =>
  refine⟨1+n/85%30,?_,by omega,by omega⟩;simp -implicitDefEqProofs only [yi,ve,zt,zC,zj,zA,sIf,zc,eC,zd,zl,asB,jYa,tG,sA,tF,tP,tK,tS,tN,tD,Nat.reduceSub,tZ,zQ,wR,u4,xY,if_true,if_false,tJ,Int.reduceLT,h]
 | false =>
  refine⟨1+n%3,?_,by omega,by omega⟩;simp -implicitDefEqProofs only [yi,ve,zt,zC,zj,zA,sIf,zc,eC,zd,zl,asB,jYa,tG,sA,tF,tP,tK,tS,tN,tD,Nat.reduceSub,tZ,zQ,wR,u4,xY,if_false,tJ,Int.reduceLT,h]
def z1Z (n:Int):∃v,ixD (.lst [.int 0,.int 0,.int 0,.int 1,.int 2,.int 5]) (.int (n%6))=.ok (.int v)/\0<=v/\v<=5:=by
 have hm:n%6=0\/n%6=1\/n%6=2\/n%6=3\/n%6=4\/n%6=5:=by omega
 rcases hm with h|h|h|h|h|h<;>rw[h]
 ·exact⟨0,rfl,by decide,by decide⟩
 ·exact⟨0,rfl,by decide,by decide⟩
 ·exact⟨0,rfl,by decide,by decide⟩
 ·exact⟨1,rfl,by decide,by decide⟩
 ·exact⟨2,rfl,by decide,by decide⟩
 ·exact⟨5,rfl,by decide,by decide⟩
def Kx (n:Int):∃v,ixD (.lst [.int 1,.int 1,.int 1,.int 1,.int 2,.int 3,.int 1,.int 2]) (.int (n/6%8))=.ok (.int v)/\1<=v/\v<=3:=by
 have hm:n/6%8=0\/n/6%8=1\/n/6%8=2\/n/6%8=3\/n/6%8=4\/n/6%8=5\/n/6%8=6\/n/6%8=7:=by omega
 rcases hm with h|h|h|h|h|h|h|h<;>rw[h]
 ·exact⟨1,rfl,by decide,by decide⟩
 ·exact⟨1,rfl,by decide,by decide⟩
 ·exact⟨1,rfl,by decide,by decide⟩
 ·exact⟨1,rfl,by decide,by decide⟩
 ·exact⟨2,rfl,by decide,by decide⟩
 ·exact⟨3,rfl,by decide,by decide⟩
 ·exact⟨1,rfl,by decide,by decide⟩
 ·exact⟨2,rfl,by decide,by decide⟩
def JF (n:Int):∃v,ixD (.lst [.int 0,.int 0,.int 0,.int 1,.int 0,.int 1,.int 2,.int 0,.int 3]) (.int (n/32400%9))=.ok (.int v)/\0<=v/\v<=3:=by
 have hm:n/32400%9=0\/n/32400%9=1\/n/32400%9=2\/n/32400%9=3\/n/32400%9=4\/n/32400%9=5\/n/32400%9=6\/n/32400%9=7\/n/32400%9=8:=by omega
 rcases hm with h|h|h|h|h|h|h|h|h<;>rw[h]
 ·exact⟨0,rfl,by decide,by decide⟩
 ·exact⟨0,rfl,by decide,by decide⟩
 ·exact⟨0,rfl,by decide,by decide⟩
 ·exact⟨1,rfl,by decide,by decide⟩
 ·exact⟨0,rfl,by decide,by decide⟩
 ·exact⟨1,rfl,by decide,by decide⟩
 ·exact⟨2,rfl,by decide,by decide⟩
 ·exact⟨0,rfl,by decide,by decide⟩
 ·exact⟨3,rfl,by decide,by decide⟩
def z1h (n:Int):∃c:Ct,ixD (.lst [.int 0,.int 0,.int 0,.int (n/480%9),.int (n/480%100001),.str "never",.str "never",.str "must",.int 0]) (.int (n/3600%9))=.ok (yI c):=by
 have hm:n/3600%9=0\/n/3600%9=1\/n/3600%9=2\/n/3600%9=3\/n/3600%9=4\/n/3600%9=5\/n/3600%9=6\/n/3600%9=7\/n/3600%9=8:=by omega
 rcases hm with h|h|h|h|h|h|h|h|h<;>rw[h]
 ·exact⟨.num 0,rfl⟩
 ·exact⟨.num 0,rfl⟩
 ·exact⟨.num 0,rfl⟩
 ·exact⟨.num (n/480%9),rfl⟩
 ·exact⟨.num (n/480%100001),rfl⟩
 ·exact⟨.never,rfl⟩
 ·exact⟨.never,rfl⟩
 ·exact⟨.must,rfl⟩
 ·exact⟨.num 0,rfl⟩
def vN:Tn->R Fl:=(zj (zo 4 (eL zB (za (zc 0) (za (zd zI (eC (.int 6)) (zc 3)) zg)))) (zj (zo 5 (zd ixD (eL (fun ds=>.ok (.lst ds)) (za (eC (.int 0)) (za (eC (.int 0)) (za (eC (.int 0)) (za (eC (.int 1)) (za (eC (.int 2)) (za (eC (.int 5)) zg))))))) (zd yf (zc 4) (eC (.int 6))))) (zj (zo 6 (zd ixD (eL (fun ds=>.ok (.lst ds)) (za (eC (.int 1)) (za (eC (.int 1)) (za (eC (.int 1)) (za (eC (.int 1)) (za (eC (.int 2)) (za (eC (.int 3)) (za (eC (.int 1)) (za (eC (.int 2)) zg))))))))) (zd yf (zd yx (zc 4) (eC (.int 6))) (eC (.int 8))))) (zj (sIf (zl (zd (eqR false) (zd yf (zd yx (zc 4) (eC (.int 48))) (eC (.int 23))) (eC (.int 7)))) (zo 6 (zd zI (eC (.int 1)) (zd yf (zd yx (zc 4) (eC (.int 1104))) (eC (.int 40))))) zt) (zj (zo 7 (zd ixD (eL (fun ds=>.ok (.lst ds)) (za (eC (.int 0)) (za (eC (.int 0)) (za (eC (.int 0)) (za (zd yf (zd yx (zc 4) (eC (.int 480))) (eC (.int 9))) (za (zd yf (zd yx (zc 4) (eC (.int 480))) (eC (.int 100001))) (za (eC (.str "never")) (za (eC (.str "never")) (za (eC (.str "must")) (za (eC (.int 0)) zg)))))))))) (zd yf (zd yx (zc 4) (eC (.int 3600))) (eC (.int 9))))) (vI 2 (yq (eL (fun ds=>.ok (.tup ds)) (za (zc 5) (za (zc 6) (za (zc 7) (za (zd ixD (eL (fun ds=>.ok (.lst ds)) (za (eC (.int 0)) (za (eC (.int 0)) (za (eC (.int 0)) (za (eC (.int 1)) (za (eC (.int 0)) (za (eC (.int 1)) (za (eC (.int 2)) (za (eC (.int 0)) (za (eC (.int 3)) zg)))))))))) (zd yf (zd yx (zc 4) (eC (.int 32400))) (eC (.int 9)))) zg))))))))))))
def bS (ns:List Int)(hl:ns.length<=63)(m:Int)(ss:List Sp)(hp:ss.length<=400)(k:Int)(hk:0<=k)(hk2:k<=400)(x y z w v:Option D):∃(p:Sp) (x' y' z' w':Option D),vN [some (.frl (ns.map .int)),some (.int m),some (.lst (ss.map zq)),some (.int k),x,y,z,w,v]=.ok (.nx [some (.frl (ns.map .int)),some (.int m),some (.lst ((ss++[p]).map zq)),some (.int k),x',y',z',w',v])/\SpB p:=by
 obtain⟨n,e0,_⟩:=Xr ns (6+k) (by omega) (by omega) hl;obtain⟨g,e1,g0,g1⟩:=z1Z n;obtain⟨h,e2,h0,h1⟩:=Kx n;obtain⟨mm,e3,m0,m1⟩:=JF n;obtain⟨c,e4⟩:=z1h n;have hp':(ss.map zq).length<16777216:=by rw[tM];omega
 have hi:∀h:Int,XY (.tup [.int g,.int h,yI c,.int mm])=.ok (.tup [.int g,.int h,yI c,.int mm]):=fun h=>if_pos (QH ⟨g,h,c,mm⟩);have key:∀h:Int,1<=h->h<=100->(vN [some (.frl (ns.map .int)),some (.int m),some (.lst (ss.map zq)),some (.int k),x,y,z,w,v]=.ok (.nx [some (.frl (ns.map .int)),some (.int m),some (.lst (ss.map zq++[.tup [.int g,.int h,yI c,.int mm]])),some (.int k),some (.int n),some (.int g),some (.int h),some (yI c),v]))->∃(p:Sp) (x' y' z' w':Option D),vN [some (.frl (ns.map .int)),some (.int m),some (.lst (ss.map zq)),some (.int k),x,y,z,w,v]=.ok (.nx [some (.frl (ns.map .int)),some (.int m),some (.lst ((ss++[p]).map zq)),some (.int k),x',y',z',w',v])/\SpB p:=fun h h1 h2 e=>⟨⟨g,h,c,mm⟩,_,_,_,_,by rw[sV];exact e,⟨⟨g0,by show g<=100;omega⟩,⟨by show 0<=h;omega,h2⟩,⟨m0,m1⟩⟩⟩
 generalize yI c=C at *;cases hb:(n/48%23==7)with
 | true =>
  refine key (1+n/1104%40) (by omega) (by omega) ?_;generalize D.frl (ns.map .int)=scr at *;simp -implicitDefEqProofs only [vN,xB,xC,wb,yn,zt,zj,zo,sIf,zc,eC,zd,eL,zg,za,zl,asB,jYa,tD,tE,tH,tI,zQ,wR,u4,xY,if_true,if_false,tJ,Int.reduceLT,e0,e1,e2,e3,e4,hb,hp',hi]
 | false =>
  refine key h (by omega) (by omega) ?_;generalize D.frl (ns.map .int)=scr at *;simp -implicitDefEqProofs only [vN,xB,xC,wb,yn,zt,zj,zo,sIf,zc,eC,zd,eL,zg,za,zl,asB,jYa,tD,tE,tH,tI,zQ,wR,u4,xY,if_false,tJ,Int.reduceLT,e0,e1,e2,e3,e4,hb,hp',hi]
def lS (ns:List Int)(hl:ns.length<=63)(m:Nat)(hm:m<=300):∃(ss:List Sp) (x y z w v:Option D),yL (Tgt.one 3).asg vN (rng 0 m) [some (.frl (ns.map .int)),some (.int m),some (.lst []),none,none,none,none,none,none]=.ok (.nx [some (.frl (ns.map .int)),some (.int m),some (.lst (ss.map zq)),x,y,z,w,v,none])/\ss.length=m/\∀p∈ss,SpB p:=by
 obtain⟨τ',e2,ss,x,y,z,w,v,h,hn,hw⟩:=ue (asg:=(Tgt.one 3).asg) (body:=vN)
  (fun i τ=>∃(ss:List Sp) (x y z w v:Option D),τ=[some (.frl (ns.map .int)),some (.int m),some (.lst (ss.map zq)),x,y,z,w,v,none]/\ss.length=i/\∀p∈ss,SpB p) (rng 0 m) 0 [some (.frl (ns.map .int)),some (.int m),some (.lst []),none,none,none,none,none,none] ⟨[],_,_,_,_,_,rfl,rfl,fun p h=>by cases h⟩ (fun i d τ hd ⟨ss,x,y,z,w,v,e,hn,hw⟩=>by
   obtain⟨hi,rfl⟩:=Yc hd;subst e;obtain⟨p,x',y',z',w',e,h1⟩:=bS ns hl m ss (by omega) (0+(i:Int)) (by omega) (by omega) y z w v none;refine⟨_,_,rfl,.inl e,_,_,_,_,_,_,rfl,by rw[tT,hn];rfl,fun q hq=>?_⟩;rcases sG.mp hq with hq|hq
   ·exact hw q hq
   ·rw[sX.mp hq];exact h1)
 refine⟨ss,x,y,z,w,v,by rw[e2,h],?_,hw⟩;rw[hn,Y5,tZ]
def HC:Tn->R D:=(yg [none,some 0] (iL wJ (za (zc 8) zg)) (.one 0) (fun _=>.ok true) (eL yi (za (zd zI (eL zB (za (zc 1) (za (zd zI (eC (.int 30)) (zd yf (zc 0) (eC (.int 12)))) zg))) (zd xp (eC (.int 977)) (zc 0))) zg)))
def PT:Tn->R Fl:=(Ua 2 (zd zI (zd zI (eSl (zd ixD (zc 2) (eUn vj (eC (.int 1)))) wj (zX (eC (.int 2)))) (eL (fun ds=>.ok (.tup ds)) (za (eC (.int 0)) zg))) (eSl (zd ixD (zc 2) (eUn vj (eC (.int 1)))) (zX (eC (.int 3))) wj)) (eUn vj (eC (.int 1))))
def NS:Tn->R D:=(eL vJ (za (yg [none] (xq (zc 2)) (.one 0) (fun _=>.ok true) (yq (zd ixD (zc 0) (eC (.int 3))))) zg))
def TS (SF PT:Tn->R Fl)(NS HC:Tn->R D):Tn->R Fl:=(zj (zo 2 (eL (fun ds=>.ok (.lst ds)) zg)) (zj SF (zj (sIf (zl (zd gtD (zc 1) (eC (.int 0)))) PT zt) (zj (zo 8 NS) (zA (eL (fun ds=>.ok (.tup ds)) (za (zc 2) (za HC zg))))))))
def z3c (a b x y z w v u:Option D)(l l':List D)(q:Sp)(e3:ixD (.lst l) (.int (-1))=.ok (zq q))(e4:Ul l (-1) (zq ⟨q.g,q.h,.num 0,q.m⟩)=.ok (.lst l')):PT [a,b,some (.lst l),x,y,z,w,v,u]=.ok (.nx [a,b,some (.lst l'),x,y,z,w,v,u]):=by
 have e5:slD (zq q) none (some 2)=.ok (.tup [.int q.g,.int q.h]):=by
  obtain⟨g,h,c,m⟩:=q;cases c<;>rfl
 have e6:slD (zq q) (some 3) none=.ok (.tup [.int q.m]):=by
  obtain⟨g,h,c,m⟩:=q;cases c<;>rfl
 have e7:zI (.tup [.int q.g,.int q.h]) (.tup [.int 0])=.ok (.tup [.int q.g,.int q.h,.int 0]):=rfl;have e8:zI (.tup [.int q.g,.int q.h,.int 0]) (.tup [.int q.m])=.ok (.tup [.int q.g,.int q.h,.int 0,.int q.m]):=rfl;have e4:Ul l (-1) (.tup [.int q.g,.int q.h,.int 0,.int q.m])=.ok (.lst l'):=e4;generalize zq q=Q at *;simp -implicitDefEqProofs only [PT,zc,eC,zd,eUn,eL,zg,za,eSl,wj,zX,jYa,tD,tE,tH,tI,qD,Int.reduceNeg,Ua,e3,e5,e6,e7,e8,e4]
def KU (a b x y z w v u:Option D)(ss:List Sp)(hn:ss.length<=1000):NS [a,b,some (.lst (ss.map zq)),x,y,z,w,v,u]=.ok (.int (ss.map Sp.m).sum):=by
 refine eL1 (cmp (f:=fun s=>.int s.m) rfl hn fun s=>?_) (z1D _ _);have:=s3 s;generalize zq s=S at *;simp -implicitDefEqProofs only [yn,wH,zc,eC,zd,jYa,tD,this]
def z0s (ns:List Int)(hl:ns.length<=63)(m:Nat)(hm:m<=1000)(a b x y z w v:Option D):∃hs:List Int,HC [some (.frl (ns.map .int)),a,b,x,y,z,w,v,some (.int (m:Int))]=.ok (.lst (hs.map D.int))/\hs.length=m/\∀h∈hs,0<=h/\h<=100:=by
 have e1:wJ [D.int (m:Int)]=.ok (rng 0 m):=(uU (by omega) (by omega)).trans (by rw[Int.toNat_natCast]);have key:∀i:Nat,∃v:Int,(∃n,zB [.frl (ns.map .int),.int (30+(0+(i:Int))%12)]=.ok (.int n)/\yi [.int (n+977*(0+(i:Int)))]=.ok (.int v))/\0<=v/\v<=100:=fun i=>by
  obtain⟨n,ev,_⟩:=Xr ns (30+(0+(i:Int))%12) (by omega) (by omega) hl;obtain⟨v,ew,w1,w2⟩:=Km (n+977*(0+(i:Int)));exact⟨v,⟨n,ev,ew⟩,by omega,by omega⟩
 have hc:=qS (f:=wm (Tgt.one 0).asg (fun _=>.ok true) (eL yi (za (zd zI (eL zB (za (zc 1) (za (zd zI (eC (.int 30)) (zd yf (zc 0) (eC (.int 12)))) zg))) (zd xp (eC (.int 977)) (zc 0))) zg)) [none,some (.frl (ns.map .int))]) (o:=fun i=>some (D.int (Classical.choose (key i)))) (lo:=0) (n:=m) fun i hi=>by
  obtain⟨⟨n,ev,ew⟩,_⟩:=Classical.choose_spec (key i);generalize Classical.choose (key i)=r at *;generalize (0:Int)+(i:Int)=j at *;have e1:xp (.int 977) (.int j)=.ok (.int (977*j)):=vz (by decide) (by decide);generalize D.frl (ns.map .int)=scr at *;simp -implicitDefEqProofs only [wm,Zn,zc,eC,zd,eL,zg,za,Tgt.asg,jYa,tD,tE,tH,zQ,wR,if_true,Int.reduceLT,ev,e1,ew]
 rw[uf]at hc;have hlen:((List.range m).map fun i=>D.int (Classical.choose (key i))).length<=16777216:=by rw[tM,rN];omega
 have hd:=v9 hlen;refine⟨(List.range m).map fun i=>Classical.choose (key i),?_,by rw[tM,rN],fun c hc=>?_⟩
 ·rw[rR];show _=R.ok (D.lst ((List.range m).map fun i=>D.int (Classical.choose (key i))));generalize ((List.range m).map fun i=>D.int (Classical.choose (key i)))=X at *;generalize D.frl (ns.map .int)=scr at *;simp -implicitDefEqProofs only [HC,wq,QP,QW,QA,WT,zc,zg,za,iL,jYa,tD,tE,e1,hc,hd]
 ·obtain⟨i,hi,rfl⟩:=rB.mp hc;exact (Classical.choose_spec (key i)).2
def XQ (SF PT:Tn->R Fl)(NS HC:Tn->R D)(scr:D)(m:Int)(l l' X:D)(x y z w v:Option D)(n:Int)(hm:0<m)(h1:SF [some scr,some (.int m),some (.lst []),none,none,none,none,none,none]=.ok (.nx [some scr,some (.int m),some l,x,y,z,w,v,none]))(h2:PT [some scr,some (.int m),some l,x,y,z,w,v,none]=.ok (.nx [some scr,some (.int m),some l',x,y,z,w,v,none]))(h3:NS [some scr,some (.int m),some l',x,y,z,w,v,none]=.ok (.int n))(h4:HC [some scr,some (.int m),some l',x,y,z,w,v,some (.int n)]=.ok X):
  zC 9 (TS SF PT NS HC) [scr,.int m]=.ok (.tup [l',X]):=by
 have d1:decide (0<m)=true:=decide_eq_true hm;simp -implicitDefEqProofs only [TS,zt,zC,zj,zo,zA,sIf,zc,eC,zd,eL,zg,za,zl,asB,jYa,tG,sA,tF,tP,tO,tK,tS,tN,tD,tE,tH,tI,Nat.reduceAdd,Nat.reduceSub,tZ,yr,if_true,h1,h2,h3,h4,d1]
def YG (SF PT:Tn->R Fl)(NS HC:Tn->R D)(scr:D)(l X:D)(x y z w v:Option D)(n:Int)(h1:SF [some scr,some (.int 0),some (.lst []),none,none,none,none,none,none]=.ok (.nx [some scr,some (.int 0),some l,x,y,z,w,v,none]))(h3:NS [some scr,some (.int 0),some l,x,y,z,w,v,none]=.ok (.int n))(h4:HC [some scr,some (.int 0),some l,x,y,z,w,v,some (.int n)]=.ok X):
  zC 9 (TS SF PT NS HC) [scr,.int 0]=.ok (.tup [l,X]):=by
 simp -implicitDefEqProofs only [TS,zt,zC,zj,zo,zA,sIf,zc,eC,zd,eL,zg,za,zl,asB,jYa,tG,sA,tF,tP,tO,tK,tS,tN,tD,tE,tH,tI,Nat.reduceAdd,Nat.reduceSub,tZ,yr,if_false,tJ,h1,h3,h4,Int.lt_irrefl,decide_false]
structure Dr (ss:List Sp)(hs:List Int):Prop where
 sp:∀p∈ss,SpB p
 hl:(ss.map Sp.m).sum<=hs.length
 hn:hs.length<=1000
 hb:∀h∈hs,0<=h/\h<=100
 la:ss≠[]->yC (ym ss (ss.length-1))=false
def Wo (ns:List Int)(hl:ns.length<=63):zZ [.frl (ns.map .int),.int 0]=.ok (.tup [.lst [],.lst []]):=by
 obtain⟨hs,g1,g2,g3⟩:=z0s ns hl 0 (by omega) (some (.int 0)) (some (.lst [])) none none none none none;have:hs=[]:=List.eq_nil_of_length_eq_zero g2;subst this;have eT:zZ=zC 9 (TS (wz (iL wJ (za (zc 1) zg)) (.one 3) vN) PT NS HC):=rfl;rw[eT];have e1:wJ [D.int 0]=.ok (rng 0 0):=(uU (by omega) (by omega)).trans rfl;have eF:wz (iL wJ (za (zc 1) zg)) (.one 3) vN [some (.frl (ns.map .int)),some (.int 0),some (.lst []),none,none,none,none,none,none]=.ok (.nx [some (.frl (ns.map .int)),some (.int 0),some (.lst []),none,none,none,none,none,none]):=vx (ds:=rng 0 0) (by simp -implicitDefEqProofs only [zc,zg,za,iL,jYa,tD,tE,e1]) rfl;exact YG _ _ _ _ _ _ _ _ _ _ _ _ _ eF (KU _ _ _ _ _ _ _ _ [] (by simp)) g1
def Wt (ns:List Int)(hl:ns.length<=63)(m:Nat)(h1:1<=m)(hm:m<=20):∃(ss:List Sp) (hs:List Int),zZ [.frl (ns.map .int),.int (m:Int)]=.ok (.tup [.lst (ss.map zq),.lst (hs.map D.int)])/\ss.length=m/\Dr ss hs:=by
 obtain⟨ps,x,y,z,w,v,e,hn,hw⟩:=lS ns hl m (by omega);have e1:wJ [D.int (m:Int)]=.ok (rng 0 m):=(uU (by omega) (by omega)).trans (by rw[Int.toNat_natCast]);have hne:ps≠[]:=by intro h;rw[h]at hn;simp at hn;omega
 obtain⟨qs,q,rfl⟩:∃qs q,ps=qs++[q]:=⟨ps.dropLast,ps.getLast hne,(List.dropLast_concat_getLast hne).symm⟩
 have e3:ixD (.lst ((qs++[q]).map zq)) (.int (-1))=.ok (zq q):=by
  rw[sV];exact Vu _ _
 have e4:∀(d:D),Ul ((qs++[q]).map zq) (-1) d=.ok (.lst (qs.map zq++[d])):=fun d=>by
  have:ixN ((qs++[q]).map zq).length (-1)=some qs.length:=by
   rw[tM,tT];show ixN (qs.length+1) (-1)=_;unfold ixN;have h:(-1+((qs.length+1:Nat):Int)).toNat=qs.length:=by omega
   rw[if_neg (by decide),if_pos (by omega),h]
  unfold Ul;rw[this];simp
 have hlen:(qs++[(⟨q.g,q.h,.num 0,q.m⟩:Sp)]).length=m:=by
  rw[tT]at hn ⊢;exact hn
 have hsp:∀p∈qs++[(⟨q.g,q.h,.num 0,q.m⟩:Sp)],SpB p:=fun p hp=>by
  rcases sG.mp hp with h|h
  ·exact hw p (sC _ h)
  ·rw[sX.mp h];have:=hw q (tR _ (sX.mpr rfl));exact⟨this.g,this.h,this.m⟩
 have hmb:=vS _ hsp;have hla:yC (ym (qs++[(⟨q.g,q.h,.num 0,q.m⟩:Sp)]) ((qs++[(⟨q.g,q.h,.num 0,q.m⟩:Sp)]).length-1))=false:=by
  rw[tT,rH,Nat.add_sub_cancel];unfold ym;rw[pA (tQ _),gI]
  rfl
 have eq4:=e4 (zq ⟨q.g,q.h,.num 0,q.m⟩);have emap:qs.map zq++[zq ⟨q.g,q.h,.num 0,q.m⟩]=(qs++[(⟨q.g,q.h,.num 0,q.m⟩:Sp)]).map zq:=by rw[sV];rfl
 rw[emap]at eq4;generalize qs++[(⟨q.g,q.h,.num 0,q.m⟩:Sp)]=ss at *;have hk:(ss.map Sp.m).sum=(((ss.map Sp.m).sum.toNat:Nat):Int):=by omega
 obtain⟨hs,g1,g2,g3⟩:=z0s ns hl (ss.map Sp.m).sum.toNat (by omega) (some (.int (m:Int))) (some (.lst (ss.map zq))) x y z w v;rw[<-hk]at g1;have eT:zZ=zC 9 (TS (wz (iL wJ (za (zc 1) zg)) (.one 3) vN) PT NS HC):=rfl;refine⟨ss,hs,?_,hlen,⟨hsp,by rw[g2];exact Int.le_of_eq hk,by omega,g3,fun _=>hla⟩⟩;rw[eT];have eF:wz (iL wJ (za (zc 1) zg)) (.one 3) vN [some (.frl (ns.map .int)),some (.int (m:Int)),some (.lst []),none,none,none,none,none,none]=_:=vx (by simp -implicitDefEqProofs only [zc,zg,za,iL,jYa,tD,tE,e1]) e;exact XQ _ _ _ _ _ _ _ _ _ x y z w v _ (by omega) eF (z3c _ _ _ _ _ _ _ _ _ _ q e3 eq4) (KU _ _ _ _ _ _ _ _ ss (by omega)) g1
def Uj (ns:List Int)(hl:ns.length<=63)(m:Nat)(hm:m<=20):∃(ss:List Sp) (hs:List Int),zZ [.frl (ns.map .int),.int (m:Int)]=.ok (.tup [.lst (ss.map zq),.lst (hs.map D.int)])/\ss.length=m/\Dr ss hs:=by
 cases m with
 | zero=>exact⟨[],[],Wo ns hl,rfl,⟨fun p hp=>(by cases hp),by decide,by decide,fun h hh=>(by cases hh),fun z=>absurd rfl z⟩⟩
 | succ m=>exact Wt ns hl (m+1) (by omega) hm
abbrev KA:List Key:=[.inr "width",.inr "height",.inr "over",.inr "late",.inr "gap",.inr "part",.inr "twin",.inr "lone",.inr "ahead",.inr "behind"]
def Zo (n H ov lr:Int):D:=.dic KA [.int 30,.int H,.int ov,.int lr,.int (n%6),.int (n%7),.int (n%9),.int (n%11),.int 2,.int 2]
def JY (n H ov lr:Int):wA [.inr "width",.inr "height",.inr "over",.inr "late",.inr "gap"] [.int 30,.int H,.int ov,.int lr,.int (n%6)] (List.zip [.inr "part",.inr "twin",.inr "lone",.inr "ahead",.inr "behind"] [.int (n%7),.int (n%9),.int (n%11),.int 2,.int 2])=(KA,[.int 30,.int H,.int ov,.int lr,.int (n%6),.int (n%7),.int (n%9),.int (n%11),.int 2,.int 2]):=by rfl
def SU:Tn->R Fl:=(UC 4 (eL (fun ds=>.ok (.dic [.inr "part",.inr "twin",.inr "lone",.inr "ahead",.inr "behind"] ds)) (za (zd yf (zc 0) (eC (.int 7))) (za (zd yf (zc 0) (eC (.int 9))) (za (zd yf (zc 0) (eC (.int 11))) (za (eC (.int 2)) (za (eC (.int 2)) zg)))))))
def TR (SU:Tn->R Fl):Tn->R Fl:=(zj (zo 1 (zd zI (eC (.int 2)) (zd yf (zc 0) (eC (.int 9))))) (zj (sIf (zl (zd (eqR false) (zd yf (zd yx (zc 0) (eC (.int 9))) (eC (.int 12))) (eC (.int 5)))) (zo 1 (zd zI (eC (.int 2)) (zd yf (zd yx (zc 0) (eC (.int 108))) (eC (.int 199))))) zt) (zj (zo 2 (zd ixD (eL (fun ds=>.ok (.lst ds)) (za (eC (.int 0)) (za (eC (.int 1)) (za (zd yf (zd yx (zc 0) (eC (.int 50))) (eC (.int 30))) (za (zd yf (zd yx (zc 0) (eC (.int 50))) (eC (.int 100001))) zg))))) (zd yf (zd yx (zc 0) (eC (.int 31))) (eC (.int 4))))) (zj (zo 3 (zd zI (eC (.int 1)) (zd yf (zd yx (zc 0) (eC (.int 7))) (zd ixD (eL (fun ds=>.ok (.lst ds)) (za (eC (.int 5)) (za (eC (.int 100000)) zg))) (zd yf (zc 0) (eC (.int 2))))))) (zj (zo 4 (eL (fun ds=>.ok (.dic [.inr "width",.inr "height",.inr "over",.inr "late",.inr "gap"] ds)) (za (eC (.int 30)) (za (yq (zc 1)) (za (yq (zc 3)) (za (yq (zc 2)) (za (zd yf (zc 0) (eC (.int 6))) zg))))))) (zj SU (zA (zc 4))))))))
def z2q (n H ov lr:Int):SU [some (.int n),some (.int H),some (.int lr),some (.int ov),some (.dic [.inr "width",.inr "height",.inr "over",.inr "late",.inr "gap"] [.int 30,.int H,.int ov,.int lr,.int (n%6)])]=.ok (.nx [some (.int n),some (.int H),some (.int lr),some (.int ov),some (Zo n H ov lr)]):=by
 have e1:D.imms [.int 30,.int H,.int ov,.int lr,.int (n%6)]=true:=rfl;have e2:D.imms [.int (n%7),.int (n%9),.int (n%11),.int 2,.int 2]=true:=rfl;have e3:=JY n H ov lr;have e4:(eL (fun ds=>.ok (.dic [.inr "part",.inr "twin",.inr "lone",.inr "ahead",.inr "behind"] ds)) (za (zd yf (zc 0) (eC (.int 7))) (za (zd yf (zc 0) (eC (.int 9))) (za (zd yf (zc 0) (eC (.int 11))) (za (eC (.int 2)) (za (eC (.int 2)) zg)))))) [some (.int n),some (.int H),some (.int lr),some (.int ov),some (.dic [.inr "width",.inr "height",.inr "over",.inr "late",.inr "gap"] [.int 30,.int H,.int ov,.int lr,.int (n%6)])]=.ok (.dic [.inr "part",.inr "twin",.inr "lone",.inr "ahead",.inr "behind"] [.int (n%7),.int (n%9),.int (n%11),.int 2,.int 2]):=by
  simp -implicitDefEqProofs only [zc,eC,zd,eL,zg,za,jYa,tD,wR,Int.reduceLT]
 have e5:zc 4 [some (.int n),some (.int H),some (.int lr),some (.int ov),some (.dic [.inr "width",.inr "height",.inr "over",.inr "late",.inr "gap"] [.int 30,.int H,.int ov,.int lr,.int (n%6)])]=.ok (.dic [.inr "width",.inr "height",.inr "over",.inr "late",.inr "gap"] [.int 30,.int H,.int ov,.int lr,.int (n%6)]):=rfl;unfold SU UC;rw[e5,jYa];dsimp only;rw[e4,jYa];dsimp only;rw[if_pos ⟨e1,e2,by decide⟩,e3]
 rfl
def z3i (n:Int):∃v,ixD (.lst [.int 0,.int 1,.int (n/50%30),.int (n/50%100001)]) (.int (n/31%4))=.ok (.int v)/\0<=v/\v<=100001:=by
 have hm:n/31%4=0\/n/31%4=1\/n/31%4=2\/n/31%4=3:=by omega
 rcases hm with h|h|h|h<;>rw[h]
 ·exact⟨0,rfl,by decide,by decide⟩
 ·exact⟨1,rfl,by decide,by decide⟩
 ·exact⟨_,rfl,by omega,by omega⟩
 ·exact⟨_,rfl,by omega,by omega⟩
def z2R (n:Int):∃v,ixD (.lst [.int 5,.int 100000]) (.int (n%2))=.ok (.int v)/\0<v/\v<=100000:=by
 have hm:n%2=0\/n%2=1:=by omega
 rcases hm with h|h<;>rw[h]
 ·exact⟨5,rfl,by decide,by decide⟩
 ·exact⟨100000,rfl,by decide,by decide⟩
def Um (SU:Tn->R Fl)(n H ov lr q:Int)(RL:D)(hH:H=if (n/9%12==5)=true then 2+n/108%199 else 2+n%9)(hl:ixD (.lst [.int 0,.int 1,.int (n/50%30),.int (n/50%100001)]) (.int (n/31%4))=.ok (.int lr))(hq:ixD (.lst [.int 5,.int 100000]) (.int (n%2))=.ok (.int q))(q0:0<q)(ho:ov=1+n/7%q)(hs:SU [some (.int n),some (.int H),some (.int lr),some (.int ov),some (.dic [.inr "width",.inr "height",.inr "over",.inr "late",.inr "gap"] [.int 30,.int H,.int ov,.int lr,.int (n%6)])]=.ok (.nx [some (.int n),some (.int H),some (.int lr),some (.int ov),some RL])):
  zC 5 (TR SU) [.int n]=.ok RL:=by
 have e3:yf (.int (n/7)) (.int q)=.ok (.int (n/7%q)):=wR q0;subst hH ho;cases hb:(n/9%12==5)with
 | true =>
  rw[hb,if_pos rfl]at hs;simp -implicitDefEqProofs only [TR,yn,wH,zt,zC,zj,zo,zA,sIf,zc,eC,zd,eL,zg,za,zl,asB,jYa,tG,sA,tF,tP,tO,tK,tS,tN,tD,tE,tH,tI,Nat.reduceSub,tZ,zQ,wR,u4,xY,if_true,if_false,tJ,Int.reduceLT,hb,hl,hq,e3,hs]
 | false =>
  rw[hb,if_neg tX]at hs;simp -implicitDefEqProofs only [TR,yn,wH,zt,zC,zj,zo,zA,sIf,zc,eC,zd,eL,zg,za,zl,asB,jYa,tG,sA,tF,tP,tO,tK,tS,tN,tD,tE,tH,tI,Nat.reduceSub,tZ,zQ,wR,u4,xY,if_false,tJ,Int.reduceLT,hb,hl,hq,e3,hs]
def Yo (n:Int):∃H ov lr,ye [.int n]=.ok (Zo n H ov lr)/\Ru (Zo n H ov lr) H ov lr/\0<=H/\H<=1000:=by
 obtain⟨lr,h1,l0,l1⟩:=z3i n;obtain⟨q,h2,q0,q1⟩:=z2R n;have a1:=Int.emod_nonneg (n/7) (b:=q) (by omega);have a2:=Int.emod_lt_of_pos (n/7) (b:=q) (by omega);have eT:ye=zC 5 (TR SU):=rfl;refine⟨_,_,lr,by rw[eT];exact Um SU n _ _ lr q _ rfl h1 h2 q0 rfl (z2q _ _ _ _),⟨rfl,rfl,rfl,by omega,by omega⟩,?_,?_⟩
 ·split<;>omega
 ·split<;>omega
def z3S (n:Nat)(c:Ct):eqF n (yI c) (yI c)=some true:=by
 cases c with
 | num n=>show eqF _ (.int _) (.int _)=_;rw[uh];simp
 | never=>show eqF _ (.str _) (.str _)=_;rw[Vo];rfl
 | must=>show eqF _ (.str _) (.str _)=_;rw[Vo];rfl
def z42 (ss:List Sp):eqF 11 (.lst (ss.map zq)) (.lst (ss.map zq))=some true:=ZY 10 fun d hd=>by
 obtain⟨s,_,rfl⟩:=rB.mp hd;refine WR 9 fun e he=>?_;simp only[sF,rK,or_false]at he;rcases he with rfl|rfl|rfl|rfl
 ·rw[uh];simp
 ·rw[uh];simp
 ·exact z3S _ _
 ·rw[uh];simp
def z3v (hs:List Int):eqF 11 (.lst (hs.map D.int)) (.lst (hs.map D.int))=some true:=ZY 10 fun d hd=>by
 obtain⟨s,_,rfl⟩:=rB.mp hd;rw[uh];simp
def z2j (n H ov lr:Int)(A:List Key)(B:List D)(k0:xk A B (.inr "width")=some (.int 30))(k1:xk A B (.inr "height")=some (.int H))(k2:xk A B (.inr "over")=some (.int ov))(k3:xk A B (.inr "late")=some (.int lr))(k4:xk A B (.inr "gap")=some (.int (n%6)))(k5:xk A B (.inr "part")=some (.int (n%7)))(k6:xk A B (.inr "twin")=some (.int (n%9)))(k7:xk A B (.inr "lone")=some (.int (n%11)))(k8:xk A B (.inr "ahead")=some (.int 2))(k9:xk A B (.inr "behind")=some (.int 2)):L2.hitsD A B [.inr "width",.inr "height",.inr "over",.inr "late",.inr "gap",.inr "part",.inr "twin",.inr "lone",.inr "ahead",.inr "behind"] [.int 30,.int H,.int ov,.int lr,.int (n%6),.int (n%7),.int (n%9),.int (n%11),.int 2,.int 2]=some true:=by
 simp only[L2.hitsD,k0,k1,k2,k3,k4,k5,k6,k7,k8,k9,D.isS,eqS,Bool.and_self,if_true,pE,beq_self_eq_true]
def z1E (n H ov lr:Int):eqE (Zo n H ov lr) (Zo n H ov lr)=some true:=by
 show uX KA [.int 30,.int H,.int ov,.int lr,.int (n%6),.int (n%7),.int (n%9),.int (n%11),.int 2,.int 2] KA [.int 30,.int H,.int ov,.int lr,.int (n%6),.int (n%7),.int (n%9),.int (n%11),.int 2,.int 2]=some true;unfold uX;rw[if_pos rfl];exact z2j n H ov lr _ _ rfl rfl rfl rfl rfl rfl rfl rfl rfl rfl
abbrev Nd:=Int×List (Nat×Nat)
def zY (p:Nat×Nat):D:=.tup [.int (0-(p.1:Int)),.int (p.2:Int)]
def xN (x:Nd):D:=.tup [.int x.1,.frl (x.2.map zY)]
def vk (x:Nd):D:=.tup [.int x.1,.frl (x.2.map yb)]
def uO (p q:Nat×Nat):Bool:=if p.1=q.1 then decide (p.2<q.2) else decide (q.1<p.1)
def ltL:List (Nat×Nat)->List (Nat×Nat)->Bool
 | [],[]=>false
 | [],_::_=>true
 | _::_,[]=>false
 | p::ps,q::qs=>if p=q then ltL ps qs else uO p q
def ltN (x y:Nd):Bool:=if x.1=y.1 then (if x.2=y.2 then false else ltL x.2 y.2) else decide (x.1<y.1)
def Jg (i j:Int):(i==j)=decide (i=j):=rfl
def p1 (p q:Nat×Nat):eqF 1 (zY p) (zY q)=some (decide (p=q)):=by
 have h:eqF 1 (zY p) (zY q)=some (((0-(p.1:Int))==(0-(q.1:Int))&&((((p.2:Int))==(q.2:Int))&&true))&&true):=rfl;rw[h];congr 1;obtain⟨a,b⟩:=p;obtain⟨c,d⟩:=q;simp only[Bool.and_true,Prod.mk.injEq]
 by_cases h1:a=c
 ·subst h1
  by_cases h2:b=d
  ·subst h2;simp
  ·have e:((b:Int)==(d:Int))=false:=beq_false_of_ne (by omega);rw[e];simp[h2]
 ·have e:((0-(a:Int))==(0-(c:Int)))=false:=beq_false_of_ne (by omega);rw[e];simp[h1]
def p2 (p q:Nat×Nat):ltF 1 (zY p) (zY q)=some (uO p q):=by
 have h:ltF 1 (zY p) (zY q)=some (ltP [((0-(p.1:Int))==(0-(q.1:Int)),decide ((0-(p.1:Int))<(0-(q.1:Int)))),((p.2:Int)==(q.2:Int),decide ((p.2:Int)<(q.2:Int)))] (decide (2<2))):=rfl;rw[h];congr 1;unfold uO
 by_cases h1:p.1=q.1
 ·have e:((0-(p.1:Int))==(0-(q.1:Int)))=true:=by rw[h1];simp
  rw[e,if_pos h1]
  by_cases h2:p.2=q.2
  ·have e2:((p.2:Int)==(q.2:Int))=true:=by rw[h2];simp
   rw[e2,h2];simp[ltP]
  ·have e2:((p.2:Int)==(q.2:Int))=false:=beq_false_of_ne (by omega);rw[e2];simp[ltP]
 ·have e:((0-(p.1:Int))==(0-(q.1:Int)))=false:=beq_false_of_ne (by omega);rw[e,if_neg h1];show decide ((0-(p.1:Int))<(0-(q.1:Int)))=_
  by_cases h3:q.1<p.1
  ·rw[decide_eq_true h3,decide_eq_true (by omega)]
  ·rw[decide_eq_false h3,decide_eq_false (by omega)]
theorem p3:∀(ps qs:List (Nat×Nat)),∃zs,ltZ (eqF 1) (ltF 1) (ps.map zY) (qs.map zY)=some zs/\ltP zs (decide (ps.length<qs.length))=ltL ps qs
 | [],[]=>⟨[],rfl,rfl⟩
 | [],q::qs=>⟨[],rfl,by simp[ltP,ltL]⟩
 | p::ps,[]=>⟨[],rfl,by simp[ltP,ltL]⟩
 | p::ps,q::qs=>by
  obtain⟨zs,h1,h2⟩:=p3 ps qs;refine⟨(decide (p=q),uO p q)::zs,?_,?_⟩
  ·rw[tG,tG];show (match eqF 1 (zY p) (zY q),ltF 1 (zY p) (zY q),ltZ (eqF 1) (ltF 1) (ps.map zY) (qs.map zY)with
    | some a,some c,some r=>some ((a,c)::r)
    | _,_,_=>none)=_
   rw[p1,p2,h1]
  ·have e:decide ((p::ps).length<(q::qs).length)=decide (ps.length<qs.length):=by simp
   rw[e]
   by_cases h:p=q
   ·rw[decide_eq_true h];show ltP zs _=ltL (p::ps) (q::qs);rw[h2];have:ltL (p::ps) (q::qs)=if p=q then ltL ps qs else uO p q:=rfl;rw[this,if_pos h]
   ·rw[decide_eq_false h];show uO p q=ltL (p::ps) (q::qs);have:ltL (p::ps) (q::qs)=if p=q then ltL ps qs else uO p q:=rfl;rw[this,if_neg h]
theorem p4a:∀(ps qs:List (Nat×Nat)),ps.length=qs.length->yp (eqF 1) (ps.map zY) (qs.map zY)=some (decide (ps=qs))
 | [],[],_=>rfl
 | [],_::_,h=>by cases h
 | _::_,[],h=>by cases h
 | p::ps,q::qs,h=>by
  rw[tG,tG];show (match eqF 1 (zY p) (zY q),yp (eqF 1) (ps.map zY) (qs.map zY)with
   | some a,some b=>some (a&&b)
   | _,_=>none)=_
  rw[p1,p4a ps qs (by simpa using h)];congr 1
  by_cases h1:p=q
  ·subst h1
   by_cases h2:ps=qs
   ·subst h2;simp
   ·simp[h2]
  ·simp[h1]
def p4 (ps qs:List (Nat×Nat)):eqF 2 (.frl (ps.map zY)) (.frl (qs.map zY))=some (decide (ps=qs)):=by
 show (if (ps.map zY).length=(qs.map zY).length then yp (eqF 1) (ps.map zY) (qs.map zY) else some false)=_;rw[tM,tM]
 by_cases h:ps.length=qs.length
 ·rw[if_pos h,p4a ps qs h]
 ·rw[if_neg h,decide_eq_false (fun z=>h (by rw[z]))]
def p5 (ps qs:List (Nat×Nat)):ltF 2 (.frl (ps.map zY)) (.frl (qs.map zY))=some (ltL ps qs):=by
 obtain⟨zs,h1,h2⟩:=p3 ps qs;have h:ltF 2 (.frl (ps.map zY)) (.frl (qs.map zY))=(ltZ (eqF 1) (ltF 1) (ps.map zY) (qs.map zY)).map fun zs=>ltP zs (decide ((ps.map zY).length<(qs.map zY).length)):=by simp only[ltF]
 rw[h,h1,tM,tM,pE,h2]
def p6 (x y:Nd):ltF 3 (xN x) (xN y)=some (ltN x y):=by
 have e1:eqF 2 (.int x.1) (.int y.1)=some (x.1==y.1):=rfl;have e2:ltF 2 (.int x.1) (.int y.1)=some (decide (x.1<y.1)):=by simp only[ltF]
 have h:ltF 3 (xN x) (xN y)=(ltZ (eqF 2) (ltF 2) [.int x.1,.frl (x.2.map zY)] [.int y.1,.frl (y.2.map zY)]).map fun zs=>ltP zs (decide (2<2)):=by
  unfold xN;simp only[ltF]
  rfl
 have h2:ltZ (eqF 2) (ltF 2) [.int x.1,.frl (x.2.map zY)] [.int y.1,.frl (y.2.map zY)]=some [(x.1==y.1,decide (x.1<y.1)),(decide (x.2=y.2),ltL x.2 y.2)]:=by
  show (match eqF 2 (.int x.1) (.int y.1),ltF 2 (.int x.1) (.int y.1),(match eqF 2 (.frl (x.2.map zY)) (.frl (y.2.map zY)),ltF 2 (.frl (x.2.map zY)) (.frl (y.2.map zY)),ltZ (eqF 2) (ltF 2) [] []with
   | some a,some c,some r=>some ((a,c)::r)
   | _,_,_=>none)with
   | some a,some c,some r=>some ((a,c)::r)
   | _,_,_=>none)=_
  rw[e1,e2,p4,p5]
  rfl
 rw[h,h2,pE];congr 1;unfold ltN
 by_cases q1:x.1=y.1
 ·have:(x.1==y.1)=true:=by rw[q1];simp
  rw[this,if_pos q1]
  by_cases q2:x.2=y.2
  ·rw[decide_eq_true q2,if_pos q2]
   rfl
  ·rw[decide_eq_false q2,if_neg q2]
   rfl
 ·have:(x.1==y.1)=false:=beq_false_of_ne q1;rw[this,if_neg q1]
  rfl
def UY (x:Nd):(xN x).imm=true:=rfl
def z1a {xs:List Nd}{τ:Nd}(hm:τ∈xs)(h1:∀x∈xs,x≠τ->ltN τ x=true)(h2:∀x∈xs,x≠τ->ltN x τ=false):vn [.lst (xs.map xN)]=.ok (xN τ):=by
 have hall:((xs.map xN).all fun d=>d.imm&&(xs.map xN).all fun e=>(ltF 3 d e).isSome)=true:=by
  rw[pJ];intro d hd;obtain⟨x,_,rfl⟩:=rB.mp hd;rw[UY,pH,pJ];intro e he;obtain⟨y,_,rfl⟩:=rB.mp he;rw[p6]
  rfl
 obtain⟨j,hj,ej⟩:=List.mem_iff_getElem.mp hm;have hl:JV (xs.map xN)=some fun (i j:Nat)=>(match (xs.map xN)[i]?,(xs.map xN)[j]? with
  | some d,some e=>(ltF 3 d e).getD false
  | _,_=>false):=if_pos hall
 generalize hf:(fun (i j:Nat)=>(match (xs.map xN)[i]?,(xs.map xN)[j]? with
  | some d,some e=>(ltF 3 d e).getD false
  | _,_=>false))=lf at hl
 have at2:∀(i k:Nat) (x y:Nd),xs[i]?=some x->xs[k]?=some y->lf i k=ltN x y:=fun i k x y e1 e2=>by
  rw[<-hf];dsimp only;rw[sJ,sJ,e1,e2];show (ltF 3 (xN x) (xN y)).getD false=_;rw[p6]
  rfl
 have key:∀(n i b:Nat),i+n=xs.length->b<xs.length->(xs[b]?=some τ\/(i<=j/\j<i+n))->xs[vU lf n i b]?=some τ:=by
  intro n
  induction n with
  | zero =>
   intro i b hi hb h;rcases h with h|h
   ·exact h
   ·omega
  | succ n ih =>
   intro i b hi hb h;show xs[vU lf n (i+1) (if lf i b=true then i else b)]?=some τ;have hil:i<xs.length:=by omega
   obtain⟨xi,exi⟩:∃x,xs[i]?=some x:=⟨_,tL hil⟩
   obtain⟨xb,exb⟩:∃x,xs[b]?=some x:=⟨_,tL hb⟩
   have mi:=pU exi;have mb:=pU exb;have el:=at2 i b xi xb exi exb;refine ih (i+1) _ (by omega) (by split<;>omega) ?_
   by_cases zb:xb=τ
   ·left
    subst zb
    by_cases zi:xi=xb
    ·split
     ·rw[exi,zi]
     ·exact exb
    ·rw[el,h2 xi mi zi,if_neg tX];exact exb
   ·rcases h with h|⟨a1,a2⟩
    ·rw[exb]at h;exact absurd (jYe h) zb
    ·by_cases z:i=j
     ·left
      have:xi=τ:=by
       subst z;rw[tL hj,ej]at exi;exact (jYe exi).symm
      rw[el,this,h1 xb mb zb,if_pos rfl,exi,this]
     ·right
      omega
 have hpos:0<xs.length:=by omega
 have hb:=key (xs.length-1) 1 0 (by omega) hpos (by
  by_cases z:j=0
  ·left
   subst z;rw[tL hpos,ej]
  ·right
   omega)
 unfold vn;dsimp only;rw[hl];dsimp only;rw[tM,sJ,hb]
 rfl
theorem Ve (f:Nat->Int):∀k j,j<=k->qd (fun i j=>decide (i<j)) f k<=f j
 | 0,j,h=>by
  have:j=0:=by omega
  subst this;exact Int.le_refl _
 | k+1,j,h=>by
  unfold qd
  by_cases z:j=k+1
  ·subst z;split
   ·exact Int.le_refl _
   ·rename_i h1;have:=of_decide_eq_false (Bool.eq_false_iff.mpr h1);omega
  ·have ih:=Ve f k j (by omega);split
   ·rename_i h1;have:=of_decide_eq_true h1;omega
   ·exact ih
def JO {ns:List Int}{x:Int}(h:x∈ns):km ns<=x:=by
 obtain⟨j,hj,rfl⟩:=List.mem_iff_getElem.mp h;have:=Ve (fun i=>ns.getD i 0) (ns.length-1) j (by omega);have e:ns.getD j 0=ns[j]:=by simp[List.getD,hj]
 rw[e]at this;exact this
def leW (w b:Nat×Nat×Int):Prop:=w.1<b.1\/(w.1=b.1/\b.2.1<=w.2.1)
def z2D {w b:Nat×Nat×Int}(h:wY (vX w) (vX b)=false):leW w b:=by
 unfold vX wY at h;unfold leW;split at h
 ·rename_i h1;unfold wY at h;split at h
  ·rename_i h2
   right
   omega
  ·have:=of_decide_eq_false h
   right
   omega
 ·have:=of_decide_eq_false h
  left
  omega
def z2W {w b:Nat×Nat×Int}(h:wY (vX w) (vX b)=true):leW b w:=by
 unfold vX wY at h;unfold leW;split at h
 ·rename_i h1;unfold wY at h;split at h
  ·cases h
  ·have:=of_decide_eq_true h
   right
   omega
 ·have:=of_decide_eq_true h
  left
  omega
def VD {x y z:Nat×Nat×Int}(h1:leW x y)(h2:leW y z):leW x z:=by
 unfold leW at *;omega
def YY (x:Nat×Nat×Int):leW x x:=Or.inr ⟨rfl,tQ _⟩
theorem kX (xs:List (Nat×Nat×Int)):∀(n i b:Nat),b<i->i+n=xs.length->(∀j,j<i->leW (xs.getD j (0,0,0)) (xs.getD b (0,0,0)))->∀j,j<xs.length->leW (xs.getD j (0,0,0)) (xs.getD (wU (fun i=>(xs.map vX).getD i []) n i b) (0,0,0))
 | 0,i,b,hb,hi,h,j,hj=>h j (by omega)
 | n+1,i,b,hb,hi,h,j,hj=>by
  have kf:∀q,q<xs.length->(xs.map vX).getD q []=vX (xs.getD q (0,0,0)):=fun q hq=>by simp[List.getD,hq]
  show leW _ (xs.getD (wU _ n (i+1) (if wY ((xs.map vX).getD i []) ((xs.map vX).getD b [])=true then i else b)) (0,0,0));rw[kf i (by omega),kf b (by omega)];refine kX xs n (i+1) _ (by split<;>omega) (by omega) (fun q hq=>?_) j hj
  by_cases hl:wY (vX (xs.getD i (0,0,0))) (vX (xs.getD b (0,0,0)))=true
  ·rw[if_pos hl]
   by_cases z:q=i
   ·rw[z];exact YY _
   ·exact VD (h q (by omega)) (z2W hl)
  ·rw[if_neg hl]
   by_cases z:q=i
   ·rw[z];exact z2D (Bool.eq_false_iff.mpr hl)
   ·exact h q (by omega)
def VP {xs:List (Nat×Nat×Int)}{w:Nat×Nat×Int}(h:w∈xs):leW w (xs.getD (vP xs) (0,0,0)):=by
 obtain⟨j,hj,rfl⟩:=List.mem_iff_getElem.mp h;have:=kX xs (xs.length-1) 1 0 (by omega) (by omega) (fun q hq=>by
  have:q=0:=by omega
  subst this;exact YY _) j hj
 have e:xs.getD j (0,0,0)=xs[j]:=by simp[List.getD,hj]
 rw[e]at this;exact this
def Uo {p q:Nat×Nat}(h:uO p q=true):uO q p=false:=by
 unfold uO at *;split at h
 ·rename_i h1;have:=of_decide_eq_true h;rw[if_pos h1.symm];exact decide_eq_false (by omega)
 ·rename_i h1;have:=of_decide_eq_true h;rw[if_neg (Ne.symm h1)];exact decide_eq_false (by omega)
theorem YF:∀ {ps qs:List (Nat×Nat)},ltL ps qs=true->ltL qs ps=false
 | [],[],h=>by cases h
 | [],_::_,_=>rfl
 | _::_,[],h=>by cases h
 | p::ps,q::qs,h=>by
  have h:(if p=q then ltL ps qs else uO p q)=true:=h;show (if q=p then ltL qs ps else uO q p)=false
  by_cases z:p=q
  ·rw[if_pos z]at h;rw[if_pos z.symm];exact YF h
  ·rw[if_neg z]at h;rw[if_neg (Ne.symm z)];exact Uo h
section
variable {ss:List Sp}{hs:List Int}{RL:D}{H ov lr:Int}
def Ch (ss:List Sp)(hs:List Int)(H ov lr:Int):List (Nat×Nat)->Nat->Nat->Int->Prop
 | [],b,_,w=>b=ss.length/\w=0
 | p::ps,b,a,w=>∃c,(p.1,p.2,c)∈lv ss hs H ov lr b (a:Int)/\Ch ss hs H ov lr ps p.1 p.2 (w-c)
def UA {k a:Nat}:fl ss hs H ov lr k ss.length a=[]:=by
 cases k with
 | zero=>rfl
 | succ k=>exact if_neg (rX _)
def nxt (G:Gd ss hs RL H ov lr){b a:Nat}{w:Nat×Nat×Int}(hw:w∈lv ss hs H ov lr b (a:Int)):b<w.1/\w.1<=ss.length/\w.2.1<=(mk ss 0 w.1).toNat/\(w.1=ss.length->w.2.1=0):=by
 obtain⟨m1,m2,m3,_⟩:=Wv hw;have g0:=G.mn 0 b;have g1:=G.mn b w.1;have ad:=Zr ss (b:=b) (e:=w.1) (by omega);unfold mlN at m3;refine⟨m1,m2,?_,fun z=>?_⟩
 ·split at m3<;>omega
 ·rw[if_pos z]at m3;omega
theorem opt (G:Gd ss hs RL H ov lr):∀(ps:List (Nat×Nat)) (k b a:Nat) (w:Int),Ch ss hs H ov lr ps b a w->b<=ss.length->a<=(mk ss 0 b).toNat->(b=ss.length->a=0)->ss.length-b<=k ->
  T0 ss hs H ov lr b a<=w/\(w=T0 ss hs H ov lr b a->ps=fl ss hs H ov lr k b a\/ltL (fl ss hs H ov lr k b a) ps=true)
 | [],k,b,a,w,hq5,hb,ha,h0,hk=>by
  obtain⟨h1,h2⟩:=hq5;have:=h0 h1;subst this h1 h2;rw[Vf,UA];exact⟨Int.le_refl _,fun _=>.inl rfl⟩
 | p::ps,k,b,a,w,hq5,hb,ha,h0,hk=>by
  obtain⟨c,hm,hc⟩:=hq5;obtain⟨n1,n2,n3,n4⟩:=nxt G hm;have hbn:b<ss.length:=sN n1 n2;cases k with
  | zero=>omega
  | succ k =>
   obtain⟨i1,i2⟩:=opt G ps k p.1 p.2 (w-c) hc n2 n3 n4 (by omega);have he:=z0b (ss:=ss) (hs:=hs) (H:=H) (ov:=ov) (lr:=lr) hbn ha;have hle:T0 ss hs H ov lr b a<=c+T0 ss hs H ov lr p.1 p.2:=by
    rw[he];exact JO (rB.mpr ⟨(p.1,p.2,c),hm,rfl⟩)
   refine⟨by omega,fun hw=>?_⟩;have hg:(p.1,p.2,c)∈gl ss hs H ov lr b a:=pN.mpr ⟨hm,by
    have:c+T0 ss hs H ov lr p.1 p.2=T0 ss hs H ov lr b a:=by omega
    show (c+T0 ss hs H ov lr p.1 p.2==T0 ss hs H ov lr b a)=true;rw[this];simp⟩
   have hbw:=VP hg;have ef:fl ss hs H ov lr (k+1) b a=((bw ss hs H ov lr b a).1,(bw ss hs H ov lr b a).2.1)::fl ss hs H ov lr k (bw ss hs H ov lr b a).1 (bw ss hs H ov lr b a).2.1:=if_pos hbn;have hbw:leW (p.1,p.2,c) (bw ss hs H ov lr b a):=hbw;rw[ef];generalize bw ss hs H ov lr b a=W at *
   by_cases z:(W.1,W.2.1)=p
   ·have z1:W.1=p.1:=by rw[<-z]
    have z2:W.2.1=p.2:=by rw[<-z]
    rw[z,z1,z2];rcases i2 (by omega)with q|q
    ·left;rw[<-q]
    ·right
     show (if p=p then ltL (fl ss hs H ov lr k p.1 p.2) ps else uO p p)=true;rw[if_pos rfl];exact q
   ·right
    show (if (W.1,W.2.1)=p then ltL (fl ss hs H ov lr k W.1 W.2.1) ps else uO (W.1,W.2.1) p)=true;rw[if_neg z];unfold uO;dsimp only;unfold leW at hbw;dsimp only at hbw
    by_cases z1:W.1=p.1
    ·rw[if_pos z1];have z2:W.2.1≠p.2:=fun q=>z (by rw[z1,q]);exact decide_eq_true (by omega)
    ·rw[if_neg z1];exact decide_eq_true (by omega)
theorem z0e (G:Gd ss hs RL H ov lr)(hla:ss≠[]->yC (ym ss (ss.length-1))=false):∀(k b a:Nat),b<=ss.length->a<=(mk ss 0 b).toNat->(b=ss.length->a=0)->ss.length-b<=k->Ch ss hs H ov lr (fl ss hs H ov lr k b a) b a (T0 ss hs H ov lr b a)
 | k,b,a,hb,ha,h0,hk=>by
  by_cases hbn:b<ss.length
  ·cases k with
   | zero=>omega
   | succ k =>
    have hne:=UE G hla hbn ha;have hmem:=Qe hne;obtain⟨n1,n2,n3,n4⟩:=nxt G hmem;have ef:fl ss hs H ov lr (k+1) b a=((bw ss hs H ov lr b a).1,(bw ss hs H ov lr b a).2.1)::fl ss hs H ov lr k (bw ss hs H ov lr b a).1 (bw ss hs H ov lr b a).2.1:=if_pos hbn;have hq:(bw ss hs H ov lr b a).2.2+T0 ss hs H ov lr (bw ss hs H ov lr b a).1 (bw ss hs H ov lr b a).2.1=T0 ss hs H ov lr b a:=by
     have:bw ss hs H ov lr b a∈gl ss hs H ov lr b a:=by rw[Ur hne];exact pK (xI hne)
     have:=(pN.mp this).2
     simpa using this
    have ih:=z0e G hla k (bw ss hs H ov lr b a).1 (bw ss hs H ov lr b a).2.1 n2 n3 n4 (by omega);rw[ef];refine⟨(bw ss hs H ov lr b a).2.2,hmem,?_⟩;rw[show T0 ss hs H ov lr b a-(bw ss hs H ov lr b a).2.2=T0 ss hs H ov lr (bw ss hs H ov lr b a).1 (bw ss hs H ov lr b a).2.1 by omega];exact ih
  ·have e1:b=ss.length:=by omega
   have e2:=h0 e1;subst e1 e2;rw[UA];exact⟨rfl,Vf⟩
end
def Vm:Tn->R Bool:=(zl (zd (eqR true) (zc 4) (eL (fun ds=>.ok (.lst ds)) zg)))
def WN:Tn->R Fl:=(zj (zo 11 (eL yF (za (zc 0) (za (zc 1) (za (zc 2) (za (zc 7) (za (zc 9) (za (zc 8) (za (zc 10) zg))))))))) (sIf (zl (zd (isN true) (zc 11) (eC .non))) (vI 4 (eL (fun ds=>.ok (.tup ds)) (za (zd zI (zc 5) (zc 11)) (za (eUn Xi (zd vZ (zc 6) (eL (fun ds=>.ok (.lst ds)) (za (eL (fun ds=>.ok (.tup ds)) (za (zc 9) (za (zc 10) zg))) zg)))) zg)))) zt))
def UR:Tn->R Fl:=(wz (iL wJ (za (zd zI (eL zH (za (zc 0) (za (zc 7) (za (zc 9) zg)))) (eC (.int 1))) zg)) (.one 10) WN)
def UZ:Tn->R Fl:=(wz (iL uo (za (zd zI (zc 7) (eC (.int 1))) (za (zd zI (eL xh (za (zc 0) zg)) (eC (.int 1))) zg))) (.one 9) UR)
def V2:Tn->R D:=(yg [none,none] (kZ (zc 6)) (.many [0,1]) (fun _=>.ok true) (yq (eL (fun ds=>.ok (.tup ds)) (za (zd yB (eC (.int 0)) (zc 0)) (za (zc 1) zg)))))
def JN:Tn->R Fl:=(vI 3 (yq (eL (fun ds=>.ok (.tup ds)) (za (zc 5) (za (eUn Xi V2) zg)))))
def JU:Tn->R Fl:=(jI (.many [7,8]) (zd ixD (zd vZ (eL (fun ds=>.ok (.lst ds)) (za (eL (fun ds=>.ok (.tup ds)) (za (eC (.int 0)) (za (eC (.int 0)) zg))) zg)) (zc 6)) (eUn vj (eC (.int 1)))))
def WQ:Tn->R Fl:=(zj (Zb 4 (.many [5,6])) (zj JU (zj (sIf (zl (zd (eqR false) (zc 7) (eL xh (za (zc 0) zg)))) JN zt) UZ)))
def cA (a b c d:Option D)(L:List D)(y5 y6 y7 y8 y9 y10 y11:Option D):Vm [a,b,c,d,some (.lst L),y5,y6,y7,y8,y9,y10,y11]=.ok (!L.isEmpty):=by
 have h:=XU L;unfold Vm;generalize (D.lst L)=X at *;simp -implicitDefEqProofs only [zc,zd,eL,zg,zl,asB,jYa,tD,tE,h]
def K9 (w e t:Int)(A:List D):Option Int->List D
 | none=>[]
 | some p=>[.tup [.int (w+p),.frl (A++[.tup [.int e,.int t]])]]
def bE (S Hs Ru WH:D)(w b a e t:Int)(A acc:List D)(c:Option Int)(x11:Option D)(hl:acc.length<16777000)(hA:D.imms A=true)(hz:A.length<=1000)(hc:yF [S,Hs,Ru,.int b,.int e,.int a,.int t]=.ok (j8 c)):
  ∃y11,WN [some S,some Hs,some Ru,some WH,some (.lst acc),some (.int w),some (.frl A),some (.int b),some (.int a),some (.int e),some (.int t),x11]=.ok (.nx [some S,some Hs,some Ru,some WH,some (.lst (acc++K9 w e t A c)),some (.int w),some (.frl A),some (.int b),some (.int a),some (.int e),some (.int t),y11]):=by
 have hl2:acc.length<16777216:=by omega
 refine⟨some (j8 c),?_⟩;unfold WN;cases c with
 | none =>
  have hn:isN true (j8 none) .non=.ok (.bl false):=rfl;rw[show acc++K9 w e t A none=acc from tY _];generalize j8 none=C at *;simp -implicitDefEqProofs only [xB,xC,zt,zj,zo,sIf,zc,eC,zd,eUn,eL,zg,za,zl,asB,jYa,tD,tE,tH,tI,if_false,tJ,hc,hn]
 | some p =>
  have hn:isN true (.int p) .non=.ok (.bl true):=rfl;have hc:yF [S,Hs,Ru,.int b,.int e,.int a,.int t]=.ok (.int p):=hc;have im2:D.imms [.tup [.int e,.int t]]=true:=rfl;have h1:vZ (.frl A) (.lst [.tup [.int e,.int t]])=.ok (.lst (A++[.tup [.int e,.int t]])):=by
   show (if D.imms A=true/\D.imms [.tup [.int e,.int t]]=true/\A.length+1<=sizeLine then R.ok (D.lst (A++[.tup [.int e,.int t]])) else .bad)=_;exact if_pos ⟨hA,im2,by show _<=16777216;omega⟩
  have im3:D.imms (A++[.tup [.int e,.int t]])=true:=by rw[j0,hA,im2];rfl
  have h2:Xi (.lst (A++[.tup [.int e,.int t]]))=.ok (.frl (A++[.tup [.int e,.int t]])):=if_pos im3;show _=R.ok (Fl.nx [some S,some Hs,some Ru,some WH,some (.lst (acc++[.tup [.int (w+p),.frl (A++[.tup [.int e,.int t]])]])),some (.int w),some (.frl A),some (.int b),some (.int a),some (.int e),some (.int t),some (.int p)]);generalize A++[.tup [.int e,.int t]]=A2 at *;simp -implicitDefEqProofs only [xB,xC,wb,zt,zj,zo,sIf,zc,eC,zd,eUn,eL,zg,za,zl,asB,jYa,tD,tE,tH,tI,zQ,if_true,hc,hn,h1,h2,hl2]
def cG (a b c d e f:Option D)(ps:List (Nat×Nat))(hz:ps.length<=1000)(y7 y8 y9 y10 y11:Option D):V2 [a,b,c,d,e,f,some (.frl (ps.map yb)),y7,y8,y9,y10,y11]=.ok (.lst (ps.map zY)):=by
 have h1:xo (wm (Tgt.many [0,1]).asg (fun _=>.ok true) (yq (eL (fun ds=>.ok (.tup ds)) (za (zd yB (eC (.int 0)) (zc 0)) (za (zc 1) zg)))) [none,none]) (ps.map yb)=.ok (ps.map zY):=by
  rw[w6 (o:=fun p:Nat×Nat=>some (zY p)) (fun p _=>?_),uf];show vW ((R.ok [some (D.int (p.1:Int)),some (D.int (p.2:Int))]).bind _)=_;rw[jYa,jYa,if_pos rfl];have im:XY (zY p)=.ok (zY p):=if_pos rfl;have:(yq (eL (fun ds=>.ok (.tup ds)) (za (zd yB (eC (.int 0)) (zc 0)) (za (zc 1) zg)))) [some (.int (p.1:Int)),some (.int (p.2:Int))]=.ok (zY p):=rfl;rw[this]
  rfl
 unfold V2;rw[wq];show (R.ok (ps.map yb)).bind _=_;rw[jYa];show (xo (wm (Tgt.many [0,1]).asg (fun _=>.ok true) (yq (eL (fun ds=>.ok (.tup ds)) (za (zd yB (eC (.int 0)) (zc 0)) (za (zc 1) zg)))) [none,none]) (ps.map yb)).bind U6=_;rw[h1,jYa,v9 (by rw[tM];omega)]
def aW (a b c:Option D)(wh:List D)(wt:Option D)(w:Int)(ps:List (Nat×Nat))(hz:ps.length<=1000)(hl:wh.length<16777000)(y7 y8 y9 y10 y11:Option D):JN [a,b,c,some (.lst wh),wt,some (.int w),some (.frl (ps.map yb)),y7,y8,y9,y10,y11]=.ok (.nx [a,b,c,some (.lst (wh++[xN (w,ps)])),wt,some (.int w),some (.frl (ps.map yb)),y7,y8,y9,y10,y11]):=by
 have hl2:wh.length<16777216:=by omega
 have h1:=cG a b c (some (.lst wh)) wt (some (.int w)) ps hz y7 y8 y9 y10 y11;have h2:Xi (.lst (ps.map zY))=.ok (.frl (ps.map zY)):=if_pos (xj (f:=zY) (fun _=>rfl) ps);have h3:XY (.tup [.int w,.frl (ps.map zY)])=.ok (.tup [.int w,.frl (ps.map zY)]):=if_pos rfl;show _=R.ok (Fl.nx [a,b,c,some (.lst (wh++[.tup [.int w,.frl (ps.map zY)]])),wt,some (.int w),some (.frl (ps.map yb)),y7,y8,y9,y10,y11]);unfold JN;generalize V2=CG at *;generalize ps.map zY=G at *;generalize (D.frl (ps.map yb))=P at *;simp -implicitDefEqProofs only [xB,xC,wb,yn,zc,eUn,eL,zg,za,jYa,tD,tE,tH,tI,h1,h2,h3,hl2]
def zK (ps:List (Nat×Nat)):Nat×Nat:=((0,0)::ps).getLast (by simp)
def qT (ps:List (Nat×Nat))(p:Nat×Nat):zK (ps++[p])=p:=by
 unfold zK;rw[List.getLast_cons (by simp)];simp
def aL (a b c d e f:Option D)(ps:List (Nat×Nat))(hz:ps.length<=1000)(y7 y8 y9 y10 y11:Option D):JU [a,b,c,d,e,f,some (.frl (ps.map yb)),y7,y8,y9,y10,y11]=.ok (.nx [a,b,c,d,e,f,some (.frl (ps.map yb)),some (.int ((zK ps).1:Int)),some (.int ((zK ps).2:Int)),y9,y10,y11]):=by
 have e1:ps.map yb=ps.map yb:=rfl;have hi:D.imms (ps.map yb)=true:=xj (f:=yb) (fun _=>rfl) ps;have h1:vZ (.lst [.tup [.int 0,.int 0]]) (.frl (ps.map yb))=.ok (.lst (.tup [.int 0,.int 0]::ps.map yb)):=by
  show (if D.imms [.tup [.int 0,.int 0]]=true/\D.imms (ps.map yb)=true/\1+(ps.map yb).length<=sizeLine then R.ok (D.lst ([.tup [.int 0,.int 0]]++ps.map yb)) else .bad)=_;exact if_pos ⟨rfl,hi,by rw[tM];show _<=16777216;omega⟩
 have h2:ixD (.lst (.tup [.int 0,.int 0]::ps.map yb)) (.int (-1))=.ok (yb (zK ps)):=by
  have:(.tup [.int 0,.int 0]::ps.map yb:List D)=(((0,0)::ps).dropLast).map yb++[yb (zK ps)]:=by
   have e2:((0,0)::ps:List (Nat×Nat))=((0,0)::ps).dropLast++[zK ps]:=(List.dropLast_concat_getLast (by simp)).symm;have e3:(.tup [.int 0,.int 0]::ps.map yb:List D)=((0,0)::ps).map yb:=rfl;rw[e3]
   conv=>lhs;rw[e2]
   rw[sV]
   rfl
  rw[this];exact Vu _ _
 have h3:∀τ:Tn,τ=[a,b,c,d,e,f,some (.frl (ps.map yb)),y7,y8,y9,y10,y11]->(Tgt.many [7,8]).asg (yb (zK ps)) τ=.ok [a,b,c,d,e,f,some (.frl (ps.map yb)),some (.int ((zK ps).1:Int)),some (.int ((zK ps).2:Int)),y9,y10,y11]:=fun τ z=>by subst z;rfl
 have h4:(zd ixD (zd vZ (eL (fun ds=>.ok (.lst ds)) (za (eL (fun ds=>.ok (.tup ds)) (za (eC (.int 0)) (za (eC (.int 0)) zg))) zg)) (zc 6)) (eUn vj (eC (.int 1)))) [a,b,c,d,e,f,some (.frl (ps.map yb)),y7,y8,y9,y10,y11]=.ok (yb (zK ps)):=by
  generalize yb (zK ps)=Q at *;generalize (D.frl (ps.map yb))=P at *;simp -implicitDefEqProofs only [zc,eC,zd,eUn,eL,zg,za,jYa,tD,tE,qD,Int.reduceNeg,h1,h2]
 unfold JU jI;rw[h4,jYa,h3 _ rfl,jYa]
section
variable {ss:List Sp}{hs:List Int}{RL:D}{H ov lr:Int}
def z0G (G:Gd ss hs RL H ov lr){b a e t:Nat}(hb:b<e)(he:e<=ss.length)(ha:a<=(mk ss 0 b).toNat):yF [.lst (ss.map zq),.lst (hs.map D.int),RL,.int (b:Int),.int (e:Int),.int (a:Int),.int (t:Int)]=.ok (j8 (yV ss hs H ov lr b e (a:Int) (t:Int))):=by
 have h1:=G.mn 0 b;have h2:=G.mn b e;have h3:=G.sum (b:=b) (e:=e) (by omega);have h4:=G.n;have h5:=G.hl2;exact Up (fa:=(mk ss 0 b).toNat) (ow:=(mk ss b e).toNat) ⟨hb,he,by omega,by omega,by omega,by omega,by omega,by omega,by omega⟩ (by omega) G.U (G.hB b e)
def kf (x:Nd)(z:Nat×Nat×Int):Nd:=(x.1+z.2.2,x.2++[(z.1,z.2.1)])
def YQ (ss:List Sp)(hs:List Int)(H ov lr:Int)(x:Nd)(b a e t:Nat):Option Nd:=(yV ss hs H ov lr b e (a:Int) (t:Int)).map fun c=>kf x (e,t,c)
theorem Uv {α:Type}(f:Nat->Option α)(k:Nat):∀j,(∀t,k<=t->t<k+j->f t=none)->(List.range (k+j)).filterMap f=(List.range k).filterMap f
 | 0,_=>rfl
 | j+1,h=>by
  rw[show k+(j+1)=(k+j)+1 by omega,List.range_succ,List.filterMap_append,Uv f k j fun t h1 h2=>h t h1 (by omega)];have:=h (k+j) (by omega) (by omega);simp[this]
def z3u (G:Gd ss hs RL H ov lr)(x:Nd)(b a e:Nat):(List.range ((mk ss b e).toNat+1)).filterMap (YQ ss hs H ov lr x b a e)=(lvE ss hs H ov lr b (a:Int) e).map (kf x):=by
 have h2:=G.mn b e;have hle:mlN ss b e<=(mk ss b e).toNat:=by unfold mlN;split<;>omega
 have:=Uv (YQ ss hs H ov lr x b a e) (mlN ss b e+1) ((mk ss b e).toNat-mlN ss b e) fun t q1 q2=>by
  have:yV ss hs H ov lr b e (a:Int) (t:Int)=none:=by
   unfold yV;rw[if_neg];rintro⟨_,z⟩;unfold mlN at q1 q2
   by_cases w:e=ss.length
   ·rw[if_pos w]at z q1 q2;omega
   ·rw[if_neg w]at z q1 q2;omega
  unfold YQ;rw[this]
  rfl
 rw[show mlN ss b e+1+((mk ss b e).toNat-mlN ss b e)=(mk ss b e).toNat+1 by omega]at this;rw[this];unfold lvE;rw[List.map_filterMap];congr 1
 funext t
 unfold YQ;rw[Option.map_map]
 rfl
def QQ {α:Type}(f:Nat->Option α)(k:Nat):((List.range k).filterMap f).length<=k:=by
 have:=gD f (List.range k);rw[rN]at this;exact this
def z32 (S Hs Ru WH wt w l a:D)(b e m:Int)(x10 x11:Option D)(Y:List D)(h1:zH [S,.int b,.int e]=.ok (.int m))(h2:wJ [.int (m+1)]=.ok Y):iL wJ (za (zd zI (eL zH (za (zc 0) (za (zc 7) (za (zc 9) zg)))) (eC (.int 1))) zg) [some S,some Hs,some Ru,some WH,some wt,some w,some l,some (.int b),some a,some (.int e),x10,x11]=.ok Y:=by
 simp -implicitDefEqProofs only [zc,eC,zd,eL,zg,za,iL,jYa,tD,tE,zQ,h1,h2]
def lE (G:Gd ss hs RL H ov lr)(x:Nd)(hx:x.2.length<=100){b a e:Nat}(hb:b<e)(he:e<=ss.length)(ha:a<=(mk ss 0 b).toNat)(WH:D)(acc:List Nd)(hl:acc.length<16000000)(x10 x11:Option D):
  ∃y10 y11,UR [some (.lst (ss.map zq)),some (.lst (hs.map D.int)),some RL,some WH,some (.lst (acc.map vk)),some (.int x.1),some (.frl (x.2.map yb)),some (.int (b:Int)),some (.int (a:Int)),some (.int (e:Int)),x10,x11]=.ok (.nx [some (.lst (ss.map zq)),some (.lst (hs.map D.int)),some RL,some WH,some (.lst ((acc++(lvE ss hs H ov lr b (a:Int) e).map (kf x)).map vk)),some (.int x.1),some (.frl (x.2.map yb)),some (.int (b:Int)),some (.int (a:Int)),some (.int (e:Int)),y10,y11]):=by
 have h0:=G.mn 0 b;have h2:=G.mn b e;have h3:=G.sum (b:=b) (e:=e) (by omega);have h4:=G.n;have h60:=G.hl2;have hA:D.imms (x.2.map yb)=true:=xj (f:=yb) (fun _=>rfl) x.2;obtain⟨τ',e2,y10,y11,h⟩:=ue (asg:=(Tgt.one 10).asg) (body:=WN)
  (fun i τ=>∃y10 y11,τ=[some (.lst (ss.map zq)),some (.lst (hs.map D.int)),some RL,some WH,some (.lst ((acc++(List.range i).filterMap (YQ ss hs H ov lr x b a e)).map vk)),some (.int x.1),some (.frl (x.2.map yb)),some (.int (b:Int)),some (.int (a:Int)),some (.int (e:Int)),y10,y11]) (rng 0 ((mk ss b e).toNat+1)) 0 [some (.lst (ss.map zq)),some (.lst (hs.map D.int)),some RL,some WH,some (.lst (acc.map vk)),some (.int x.1),some (.frl (x.2.map yb)),some (.int (b:Int)),some (.int (a:Int)),some (.int (e:Int)),x10,x11] ⟨x10,x11,by simp⟩ (fun i d τ hd ⟨y10,y11,eτ⟩=>by
   obtain⟨hi,rfl⟩:=Yc hd;rw[tZ]at eτ;subst eτ;have fl:=QQ (YQ ss hs H ov lr x b a e) i;obtain⟨z11,t⟩:=bE (.lst (ss.map zq)) (.lst (hs.map D.int)) RL WH x.1 (b:Int) (a:Int) (e:Int) (i:Int) (x.2.map yb) ((acc++(List.range i).filterMap (YQ ss hs H ov lr x b a e)).map vk) _ y11 (by rw[tM,tT];omega) hA (by rw[tM];omega) (z0G G (t:=i) hb he ha);rw[gK];refine⟨_,_,rfl,.inl t,some (.int (i:Int)),z11,?_⟩;rw[tZ,List.range_succ,List.filterMap_append,<-sP,sV (l₁:=acc++_)];have ek:YQ ss hs H ov lr x b a e i=(yV ss hs H ov lr b e (a:Int) (i:Int)).map fun c=>kf x (e,i,c):=rfl;cases hc:yV ss hs H ov lr b e (a:Int) (i:Int)with
   | none =>
    rw[hc]at ek;simp only[rC,ek,Option.map_none,List.filterMap_nil,sA,K9]
   | some c =>
    rw[hc]at ek;have:vk (kf x (e,i,c))=.tup [.int (x.1+c),.frl (x.2.map yb++[.tup [.int (e:Int),.int (i:Int)]])]:=by
     show D.tup [.int (x.1+c),.frl ((x.2++[(e,i)]).map yb)]=_;rw[sV]
     rfl
    simp only[rC,ek,pE,List.filterMap_nil,tG,sA,this,K9])
 rw[Y5,tZ,z3u G]at h;refine⟨y10,y11,?_⟩;have hr:=z0c (mk ss b e) h2 (by omega);have g:=e2;rw[h]at g;exact vx (z32 _ _ _ _ _ _ _ _ _ _ _ _ _ _ (um (b:=b) (e:=e) (by omega) he (by omega)) hr) g
theorem jv {α:Type}{f:Nat->List α}{q:Nat}:∀k,(∀j,j<k->(f j).length<=q)->((List.range k).flatMap f).length<=q*k
 | 0,_=>rG _
 | k+1,h=>by
  rw[List.range_succ,List.flatMap_append,tT,Nat.mul_succ];have h1:=jv k fun j hj=>h j (by omega);have h2:=h k (by omega);simp only[rO,List.flatMap_nil,tY];omega
def WI (G:Gd ss hs RL H ov lr){b e q:Nat}{a:Int}(h1:b<e)(h2:e<=ss.length)(hq:(ss.map Sp.m).sum<=q):(lvE ss hs H ov lr b a e).length<=q+1:=by
 have h3:=G.sum (b:=b) (e:=e) (by omega);have h4:=G.hl;have h5:=G.mn 0 b;have h6:=G.mn b e;have:mlN ss b e<=q:=by unfold mlN;split<;>omega
 unfold lvE;have:=QQ (fun (t:Nat)=>(yV ss hs H ov lr b e a (t:Int)).map fun c=>(e,t,c)) (mlN ss b e+1);omega
def uR (ss:List Sp)(hs:List Int)(H ov lr:Int)(x:Nd):List Nd:=(lv ss hs H ov lr (zK x.2).1 ((zK x.2).2:Int)).map (kf x)
def Y9 (x:Nd){b a:Nat}(h:zK x.2=(b,a)):uR ss hs H ov lr x=(List.range (ss.length-b)).flatMap fun j=>(lvE ss hs H ov lr b (a:Int) (b+1+j)).map (kf x):=by
 unfold uR lv;rw[h,List.map_flatMap]
def z2S (S Hs Ru WH wt w l a:D)(b n:Int)(x9 x10 x11:Option D)(Y:List D)(h1:xh [S]=.ok (.int n))(h2:uo [.int (b+1),.int (n+1)]=.ok Y):iL uo (za (zd zI (zc 7) (eC (.int 1))) (za (zd zI (eL xh (za (zc 0) zg)) (eC (.int 1))) zg)) [some S,some Hs,some Ru,some WH,some wt,some w,some l,some (.int b),some a,x9,x10,x11]=.ok Y:=by
 simp -implicitDefEqProofs only [zc,eC,zd,eL,zg,za,iL,jYa,tD,tE,zQ,h1,h2]
def lD (G:Gd ss hs RL H ov lr)(x:Nd)(hx:x.2.length<=100){b a:Nat}(hp:zK x.2=(b,a))(hb:b<=ss.length)(ha:a<=(mk ss 0 b).toNat)(WH:D)(acc:List Nd)(hl:acc.length<15000000)(x9 x10 x11:Option D):
  ∃y9 y10 y11,UZ [some (.lst (ss.map zq)),some (.lst (hs.map D.int)),some RL,some WH,some (.lst (acc.map vk)),some (.int x.1),some (.frl (x.2.map yb)),some (.int (b:Int)),some (.int (a:Int)),x9,x10,x11]=.ok (.nx [some (.lst (ss.map zq)),some (.lst (hs.map D.int)),some RL,some WH,some (.lst ((acc++uR ss hs H ov lr x).map vk)),some (.int x.1),some (.frl (x.2.map yb)),some (.int (b:Int)),some (.int (a:Int)),y9,y10,y11]):=by
 have h4:=G.n;have h60:=G.hl2;have hsum:=G.hl;obtain⟨τ',e2,y9,y10,y11,h⟩:=ue (asg:=(Tgt.one 9).asg) (body:=UR)
  (fun i τ=>∃y9 y10 y11,τ=[some (.lst (ss.map zq)),some (.lst (hs.map D.int)),some RL,some WH,some (.lst ((acc++(List.range i).flatMap fun j=>(lvE ss hs H ov lr b (a:Int) (b+1+j)).map (kf x)).map vk)),some (.int x.1),some (.frl (x.2.map yb)),some (.int (b:Int)),some (.int (a:Int)),y9,y10,y11]) (rng ((b:Int)+1) (ss.length-b)) 0 [some (.lst (ss.map zq)),some (.lst (hs.map D.int)),some RL,some WH,some (.lst (acc.map vk)),some (.int x.1),some (.frl (x.2.map yb)),some (.int (b:Int)),some (.int (a:Int)),x9,x10,x11] ⟨x9,x10,x11,by simp⟩ (fun i d τ hd ⟨y9,y10,y11,eτ⟩=>by
   obtain⟨hi,rfl⟩:=Yc hd;rw[tZ]at eτ;subst eτ;have fl:=jv (f:=fun j=>(lvE ss hs H ov lr b (a:Int) (b+1+j)).map (kf x)) (q:=61) i fun j hj=>by
    rw[tM];exact WI G (by omega) (by omega) (by omega)
   obtain⟨z10,z11,t⟩:=lE G x hx (b:=b) (a:=a) (e:=b+1+i) (by omega) (by omega) ha WH (acc++(List.range i).flatMap fun j=>(lvE ss hs H ov lr b (a:Int) (b+1+j)).map (kf x)) (by rw[tT];omega) y10 y11;have ec:((b:Int)+1+(i:Int))=((b+1+i:Nat):Int):=by push_cast;rfl
   rw[ec];refine⟨_,_,rfl,.inl t,some (.int ((b+1+i:Nat):Int)),z10,z11,?_⟩;rw[tZ,List.range_succ,List.flatMap_append,<-sP];simp only[rO,List.flatMap_nil,tY])
 rw[Y5,tZ,<-Y9 x hp]at h;refine⟨y9,y10,y11,?_⟩;have hr:uo [.int ((b:Int)+1),.int ((ss.length:Int)+1)]=.ok (rng ((b:Int)+1) (ss.length-b)):=(Yj (by omega) (by omega) (by omega) (by omega)).trans (by congr 2;omega);have g:=e2;rw[h]at g;exact vx (z2S _ _ _ _ _ _ _ _ _ _ _ _ _ _ (jd ss) hr) g
end
def z3Y (a b c d:Option D)(L:List D)(p q:D)(him:(D.tup [p,q]).imm=true)(y5 y6 y7 y8 y9 y10 y11:Option D):Zb 4 (.many [5,6]) [a,b,c,d,some (.lst (L++[.tup [p,q]])),y5,y6,y7,y8,y9,y10,y11]=.ok (.nx [a,b,c,d,some (.lst L),some p,some q,y7,y8,y9,y10,y11]):=by
 show (match (L++[D.tup [p,q]]).getLast? with
  | some e=>if e.imm=true then ((Tgt.many [5,6]).asg e [a,b,c,d,some (D.lst (L++[D.tup [p,q]]).dropLast),y5,y6,y7,y8,y9,y10,y11]).bind fun τ1=>R.ok (Fl.nx τ1) else .bad
  | none=>.bad)=_
 rw[List.getLast?_concat,List.dropLast_concat];dsimp only;rw[if_pos him]
 rfl
def z19 (PP LL:Tn->R Fl)(S Hs Ru WH wt w l:D)(b a n:Int)(WH2 wt2 wt3:D)(y5 y6 y7 y8 y9 y10 y11 z9 z10 z11:Option D)(AS AW:Tn->R Fl)(hn:xh [S]=.ok (.int n))
  (h1:PP [some S,some Hs,some Ru,some WH,some wt,y5,y6,y7,y8,y9,y10,y11]=.ok (.nx [some S,some Hs,some Ru,some WH,some wt2,some w,some l,y7,y8,y9,y10,y11]))
  (h2:AS [some S,some Hs,some Ru,some WH,some wt2,some w,some l,y7,y8,y9,y10,y11]=.ok (.nx [some S,some Hs,some Ru,some WH,some wt2,some w,some l,some (.int b),some (.int a),y9,y10,y11]))
  (h3:b=n->AW [some S,some Hs,some Ru,some WH,some wt2,some w,some l,some (.int b),some (.int a),y9,y10,y11]=.ok (.nx [some S,some Hs,some Ru,some WH2,some wt2,some w,some l,some (.int b),some (.int a),y9,y10,y11])) (h3':b≠n->WH2=WH)
  (h4:LL [some S,some Hs,some Ru,some WH2,some wt2,some w,some l,some (.int b),some (.int a),y9,y10,y11]=.ok (.nx [some S,some Hs,some Ru,some WH2,some wt3,some w,some l,some (.int b),some (.int a),z9,z10,z11])):
  (zj PP (zj AS (zj (sIf (zl (zd (eqR false) (zc 7) (eL xh (za (zc 0) zg)))) AW zt) LL))) [some S,some Hs,some Ru,some WH,some wt,y5,y6,y7,y8,y9,y10,y11]=.ok (.nx [some S,some Hs,some Ru,some WH2,some wt3,some w,some l,some (.int b),some (.int a),z9,z10,z11]):=by
 have hq:eqR false (.int b) (.int n)=.ok (.bl (b==n)):=xY
 by_cases z:b=n
 ·have e:(b==n)=true:=by simpa using z
  rw[e]at hq;have h3:=h3 z;simp -implicitDefEqProofs only [zt,zj,sIf,zc,zd,eL,zg,za,zl,asB,jYa,tD,tE,if_true,h1,h2,hn,hq,h3,h4]
 ·have e:(b==n)=false:=by simpa using z
  rw[e]at hq;have z2:=h3' z;subst z2;simp -implicitDefEqProofs only [zt,zj,sIf,zc,zd,eL,zg,za,zl,asB,jYa,tD,tE,if_false,tJ,h1,h2,hn,hq,h4]
section
variable {ss:List Sp}{hs:List Int}{RL:D}{H ov lr:Int}
def fin (ss:List Sp)(x:Nd):List Nd:=if (zK x.2).1=ss.length then [x] else []
structure Vn (ss:List Sp)(x:Nd):Prop where
 b:(zK x.2).1<=ss.length
 a:(zK x.2).2<=(mk ss 0 (zK x.2).1).toNat
 e:(zK x.2).1=ss.length->(zK x.2).2=0
 l:x.2.length<=(zK x.2).1
theorem Vn.kid (G:Gd ss hs RL H ov lr){x y:Nd}(hx:Vn ss x)(hy:y∈uR ss hs H ov lr x):Vn ss y/\(zK x.2).1<(zK y.2).1:=by
 obtain⟨w,hw,rfl⟩:=rB.mp hy;obtain⟨n1,n2,n3,n4⟩:=nxt G hw;have e:zK (kf x w).2=(w.1,w.2.1):=qT _ _;refine⟨⟨?_,?_,?_,?_⟩,?_⟩
 ·rw[e];exact n2
 ·rw[e];exact n3
 ·rw[e];exact n4
 ·rw[e];have:=hx.l;show (x.2++[(w.1,w.2.1)]).length<=w.1;rw[tT,rH];omega
 ·rw[e];exact n1
def bAl (G:Gd ss hs RL H ov lr)(x:Nd)(hx:Vn ss x)(wh rest:List Nd)(h1:wh.length<16000000)(h2:rest.length<15000000)(y5 y6 y7 y8 y9 y10 y11:Option D):
  ∃z5 z6 z7 z8 z9 z10 z11,WQ [some (.lst (ss.map zq)),some (.lst (hs.map D.int)),some RL,some (.lst (wh.map xN)),some (.lst ((rest++[x]).map vk)),y5,y6,y7,y8,y9,y10,y11]=.ok (.nx [some (.lst (ss.map zq)),some (.lst (hs.map D.int)),some RL,some (.lst ((wh++fin ss x).map xN)),some (.lst ((rest++uR ss hs H ov lr x).map vk)),z5,z6,z7,z8,z9,z10,z11]):=by
 have hn:=G.n;have hl:=hx.l;have hb:=hx.b;have p1:=z3Y (some (.lst (ss.map zq))) (some (.lst (hs.map D.int))) (some RL) (some (.lst (wh.map xN))) (rest.map vk) (.int x.1) (.frl (x.2.map yb)) rfl y5 y6 y7 y8 y9 y10 y11;have p2:=aL (some (.lst (ss.map zq))) (some (.lst (hs.map D.int))) (some RL) (some (.lst (wh.map xN))) (some (.lst (rest.map vk))) (some (.int x.1)) x.2 (by omega) y7 y8 y9 y10 y11;have p3:=aW (some (.lst (ss.map zq))) (some (.lst (hs.map D.int))) (some RL) (wh.map xN) (some (.lst (rest.map vk))) x.1 x.2 (by omega) (by rw[tM];omega) (some (.int ((zK x.2).1:Int))) (some (.int ((zK x.2).2:Int))) y9 y10 y11;obtain⟨z9,z10,z11,p4⟩:=lD G x (by omega) (b:=(zK x.2).1) (a:=(zK x.2).2) rfl hb hx.a (.lst ((wh++fin ss x).map xN)) rest (by omega) y9 y10 y11;have er:(rest++[x]).map vk=rest.map vk++[.tup [.int x.1,.frl (x.2.map yb)]]:=by rw[sV];rfl
 refine⟨some (.int x.1),some (.frl (x.2.map yb)),some (.int ((zK x.2).1:Int)),some (.int ((zK x.2).2:Int)),z9,z10,z11,?_⟩;unfold WQ;rw[er];refine z19 (Zb 4 (.many [5,6])) UZ (.lst (ss.map zq)) (.lst (hs.map D.int)) RL (.lst (wh.map xN)) (.lst (rest.map vk++[.tup [.int x.1,.frl (x.2.map yb)]])) (.int x.1) (.frl (x.2.map yb)) ((zK x.2).1:Int) ((zK x.2).2:Int) ss.length (.lst ((wh++fin ss x).map xN)) (.lst (rest.map vk)) (.lst ((rest++uR ss hs H ov lr x).map vk)) y5 y6 y7 y8 y9 y10 y11 z9 z10 z11 JU JN (jd ss) p1 p2 (fun z=>?_) (fun z=>?_) p4
 ·have e:fin ss x=[x]:=if_pos (by omega);rw[e,sV];exact p3
 ·have e:fin ss x=[]:=if_neg (by omega);rw[e,tY]
def sub (ss:List Sp)(hs:List Int)(H ov lr:Int):Nat->Nd->List Nd
 | 0,x=>fin ss x
 | k+1,x=>fin ss x++(uR ss hs H ov lr x).reverse.flatMap (sub ss hs H ov lr k)
def Fin (ss:List Sp)(hs:List Int)(RL:D)(out wh wt:List Nd):Prop:=∀y5 y6 y7 y8 y9 y10 y11,∃z5 z6 z7 z8 z9 z10 z11,yy Vm WQ [some (.lst (ss.map zq)),some (.lst (hs.map D.int)),some RL,some (.lst (wh.map xN)),some (.lst (wt.map vk)),y5,y6,y7,y8,y9,y10,y11]=.ok (.nx [some (.lst (ss.map zq)),some (.lst (hs.map D.int)),some RL,some (.lst (out.map xN)),some (.lst []),z5,z6,z7,z8,z9,z10,z11])
theorem Fin.done (out:List Nd):Fin ss hs RL out out []:=fun y5 y6 y7 y8 y9 y10 y11=>⟨y5,y6,y7,y8,y9,y10,y11,ZA (cA _ _ _ _ [] _ _ _ _ _ _ _)⟩
theorem Fin.step (G:Gd ss hs RL H ov lr){x:Nd}(hx:Vn ss x){out wh rest:List Nd}(h1:wh.length<16000000)(h2:rest.length<15000000)(h:Fin ss hs RL out (wh++fin ss x) (rest++uR ss hs H ov lr x)):Fin ss hs RL out wh (rest++[x]):=fun y5 y6 y7 y8 y9 y10 y11=>by
 obtain⟨z5,z6,z7,z8,z9,z10,z11,hb⟩:=bAl G x hx wh rest h1 h2 y5 y6 y7 y8 y9 y10 y11;obtain⟨u5,u6,u7,u8,u9,u10,u11,hw⟩:=h z5 z6 z7 z8 z9 z10 z11;refine⟨u5,u6,u7,u8,u9,u10,u11,Y3 ?_ hb hw⟩;rw[cA];simp
def Xf (G:Gd ss hs RL H ov lr){x:Nd}{q:Nat}(hx:Vn ss x)(hq:(ss.map Sp.m).sum<=q):(uR ss hs H ov lr x).length<=(q+1)*(ss.length-(zK x.2).1):=by
 rw[Y9 x (b:=(zK x.2).1) (a:=(zK x.2).2) rfl];refine jv _ fun j hj=>?_;rw[tM];exact WI G (by omega) (by omega) hq
def Xm {x:Nd}(h:(zK x.2).1=ss.length):uR ss hs H ov lr x=[]:=by
 rw[Y9 x (b:=(zK x.2).1) (a:=(zK x.2).2) rfl,h,gI]
 rfl
theorem run (G:Gd ss hs RL H ov lr)(out:List Nd):∀(k:Nat) (x:Nd),Vn ss x->ss.length-(zK x.2).1<=k->∀(wh rest:List Nd),wh.length+(sub ss hs H ov lr k x).length<16000000->rest.length+2000*(k+1)<14000000->Fin ss hs RL out (wh++sub ss hs H ov lr k x) rest->Fin ss hs RL out wh (rest++[x])
 | 0,x,hx,hk,wh,rest,h1,h2,h=>by
  have hb:=hx.b;refine Fin.step G hx (by omega) (by omega) ?_;rw[Xm (by omega),tY];exact h
 | k+1,x,hx,hk,wh,rest,h1,h2,h=>by
  have hn:=G.n;have h60:=G.hl2;have hsum:=G.hl;have es:sub ss hs H ov lr (k+1) x=fin ss x++(uR ss hs H ov lr x).reverse.flatMap (sub ss hs H ov lr k):=rfl;rw[es]at h h1;rw[tT]at h1;refine Fin.step G hx (by omega) (by omega) ?_;have kl:=Xf G (q:=60) hx (by omega);have kl2:(uR ss hs H ov lr x).length<=1300:=by
   have:(60+1)*(ss.length-(zK x.2).1)<=61*20:=Nat.mul_le_mul_left 61 (by omega);omega
  have go:∀(rs:List Nd),(∀y∈rs,Vn ss y/\(zK x.2).1<(zK y.2).1)->rs.length<=1300->∀(wh:List Nd),wh.length+(rs.flatMap (sub ss hs H ov lr k)).length<16000000->Fin ss hs RL out (wh++rs.flatMap (sub ss hs H ov lr k)) rest->Fin ss hs RL out wh (rest++rs.reverse):=by
   intro rs
   induction rs with
   | nil =>
    intro _ _ wh _ h;rw[List.reverse_nil,tY];rw[List.flatMap_nil,tY]at h;exact h
   | cons y rs ih =>
    intro hv hl wh hw h;obtain⟨vy,by1⟩:=hv y tU;rw[rO,tT]at hw;rw[rO,<-sP]at h;rw[tF]at hl;have:=vy.b;have g:=run G out k y vy (by omega) wh (rest++rs.reverse) (by omega) (by rw[tT,List.length_reverse];omega) (ih (fun z hz=>hv z (tW _ hz)) (by omega) _ (by rw[tT];omega) h);rw[List.reverse_cons,<-sP];exact g
  have g:=go (uR ss hs H ov lr x).reverse (fun y hy=>hx.kid G (gN.mp hy)) (by rw[List.length_reverse];exact kl2) (wh++fin ss x) (by rw[tT];omega) (by rw[sP];exact h);rw[List.reverse_reverse]at g;exact g
end
section
variable {ss:List Sp}{hs:List Int}{RL:D}{H ov lr:Int}
def WY {x y:Nd}(h:y∈fin ss x):y=x/\(zK x.2).1=ss.length:=by
 unfold fin at h;split at h
 ·rename_i e;exact⟨sX.mp h,e⟩
 ·cases h
theorem Z9:∀(k:Nat) (x y:Nd),y∈sub ss hs H ov lr k x->∃ps w,y=(x.1+w,x.2++ps)/\Ch ss hs H ov lr ps (zK x.2).1 (zK x.2).2 w
 | 0,x,y,h=>by
  obtain⟨rfl,e⟩:=WY h;exact⟨[],0,by rw[gB,tY],e,rfl⟩
 | k+1,x,y,h=>by
  rcases sG.mp h with h|h
  ·obtain⟨rfl,e⟩:=WY h;exact⟨[],0,by rw[gB,tY],e,rfl⟩
  ·obtain⟨z,hz,hy⟩:=gM.mp h;obtain⟨w,hw,rfl⟩:=rB.mp (gN.mp hz);obtain⟨ps,v,e1,e2⟩:=Z9 k _ y hy;have el:zK (kf x w).2=(w.1,w.2.1):=qT _ _;rw[el]at e2;refine⟨(w.1,w.2.1)::ps,w.2.2+v,?_,w.2.2,hw,?_⟩
   ·rw[e1];show (x.1+w.2.2+v,(x.2++[(w.1,w.2.1)])++ps)=_;rw[Int.add_assoc,sP]
    rfl
   ·rw[show w.2.2+v-w.2.2=v by omega];exact e2
theorem Z2:∀(ps:List (Nat×Nat)) (k:Nat) (x:Nd) (w:Int),Ch ss hs H ov lr ps (zK x.2).1 (zK x.2).2 w->ps.length<=k->(x.1+w,x.2++ps)∈sub ss hs H ov lr k x
 | [],k,x,w,hq4,_=>by
  obtain⟨e1,e2⟩:=hq4;subst e2;rw[gB,tY];have hf:x∈fin ss x:=by
   unfold fin;rw[if_pos e1];exact sX.mpr rfl
  cases k with
  | zero=>exact hf
  | succ k=>exact sC _ hf
 | p::ps,k,x,w,hq4,hk=>by
  obtain⟨c,hm,hc⟩:=hq4;rw[tF]at hk;cases k with
  | zero=>omega
  | succ k =>
   have el:zK (kf x (p.1,p.2,c)).2=(p.1,p.2):=qT _ _;have ih:=Z2 ps k (kf x (p.1,p.2,c)) (w-c) (by rw[el];exact hc) (by omega);refine tR _ (gM.mpr ⟨kf x (p.1,p.2,c),gN.mpr (rB.mpr ⟨_,hm,rfl⟩),?_⟩);have e1:((kf x (p.1,p.2,c)).1+(w-c),(kf x (p.1,p.2,c)).2++ps)=((x.1+w,x.2++p::ps):Nd):=by
    show (x.1+c+(w-c),(x.2++[(p.1,p.2)])++ps)=_;rw[show x.1+c+(w-c)=x.1+w by omega,sP]
    rfl
   rw[e1]at ih;exact ih
def bnd (q:Nat):Nat->Nat
 | 0=>1
 | j+1=>(q+1)*(j+1)*bnd q j
def z1s (q j:Nat):bnd q j<=bnd q (j+1):=by
 show bnd q j<=(q+1)*(j+1)*bnd q j;have:1<=(q+1)*(j+1):=Nat.mul_pos (Nat.succ_pos _) (Nat.succ_pos _)
 calc bnd q j=1*bnd q j:=(Nat.one_mul _).symm
  _<=_:=Nat.mul_le_mul_right _ this
def Yz (q:Nat){i j:Nat}(h:i<=j):bnd q i<=bnd q j:=by
 induction j with
 | zero =>
  have:i=0:=by omega
  subst this;exact tQ _
 | succ j ih =>
  by_cases z:i=j+1
  ·subst z;exact tQ _
  ·exact sT (ih (by omega)) (z1s q j)
theorem z0r {α β:Type}{f:α->List β}{q:Nat}:∀(xs:List α),(∀x∈xs,(f x).length<=q)->(xs.flatMap f).length<=xs.length*q
 | [],_=>rG _
 | x::xs,h=>by
  rw[rO,tT,tF,Nat.succ_mul];have h1:=h x tU;have h2:=z0r xs fun y hy=>h y (tW _ hy);omega
theorem WD (G:Gd ss hs RL H ov lr){q:Nat}(hq:(ss.map Sp.m).sum<=q):∀(k:Nat) (x:Nd),Vn ss x->ss.length-(zK x.2).1<=k->(sub ss hs H ov lr k x).length<=bnd q (ss.length-(zK x.2).1)
 | 0,x,hx,hk=>by
  have hb:=hx.b;rw[show ss.length-(zK x.2).1=0 by omega];show (fin ss x).length<=1;unfold fin;split
  ·exact tQ _
  ·exact rG _
 | k+1,x,hx,hk=>by
  have hb:=hx.b;show (fin ss x++(uR ss hs H ov lr x).reverse.flatMap (sub ss hs H ov lr k)).length<=_;rw[tT]
  by_cases z:(zK x.2).1=ss.length
  ·rw[Xm z,z,gI];unfold fin;rw[if_pos z];exact tQ _
  ·unfold fin;rw[if_neg z];obtain⟨j,hj⟩:∃j,ss.length-(zK x.2).1=j+1:=⟨ss.length-(zK x.2).1-1,by omega⟩
   have h1:=z0r (f:=sub ss hs H ov lr k) (q:=bnd q j) (uR ss hs H ov lr x).reverse fun y hy=>by
    obtain⟨vy,ly⟩:=hx.kid G (gN.mp hy);have:=vy.b;exact sT (WD G hq k y vy (by omega)) (Yz q (by omega))
   rw[List.length_reverse]at h1;have h2:=Xf G hx hq;rw[hj]at h2 ⊢;show 0+_<=(q+1)*(j+1)*bnd q j;rw[tZ];exact sT h1 (Nat.mul_le_mul_right _ h2)
def x0:Nd:=(0,[])
def Vn.root:Vn ss x0:=⟨rG _,rG _,fun _=>rfl,rG _⟩
def JI (SW:Tn->R Fl)(S Hs Ru Y:D)(z4 z5 z6 z7 z8 z9 z10 z11:Option D)(h:SW [some S,some Hs,some Ru,some (.lst []),some (.lst [.tup [.int 0,.frl []]]),none,none,none,none,none,none,none]=.ok (.nx [some S,some Hs,some Ru,some Y,z4,z5,z6,z7,z8,z9,z10,z11])):
  zC 12 (zj (zo 3 (eL (fun ds=>.ok (.lst ds)) zg)) (zj (zo 4 (eL (fun ds=>.ok (.lst ds)) (za (eL (fun ds=>.ok (.tup ds)) (za (eC (.int 0)) (za (eL Vy zg) zg))) zg))) (zj SW (zA (zc 3))))) [S,Hs,Ru]=.ok Y:=by
 have hz:Vy []=.ok (.frl []):=rfl;simp -implicitDefEqProofs only [zC,zj,zo,zA,zc,eC,eL,zg,za,jYa,tG,sA,tF,tP,tO,tK,tS,tN,tD,tE,tH,tI,Nat.reduceAdd,Nat.reduceSub,tZ,hz,h]
def z1z (G:Gd ss hs RL H ov lr)(h5:ss.length<=5)(hq:(ss.map Sp.m).sum<=5):xw [.lst (ss.map zq),.lst (hs.map D.int),RL]=.ok (.lst ((sub ss hs H ov lr ss.length x0).map xN)):=by
 have hb:=WD G (q:=5) hq ss.length x0 Vn.root (Nat.sub_le _ _);have hb2:bnd 5 (ss.length-(zK x0.2).1)<=bnd 5 5:=Yz 5 (by omega);have hb3:bnd 5 5=933120:=rfl;have hf:=run G (sub ss hs H ov lr ss.length x0) ss.length x0 Vn.root (Nat.sub_le _ _) [] [] (by rw[tP];omega) (by rw[tP];omega) (Fin.done _);obtain⟨z5,z6,z7,z8,z9,z10,z11,h⟩:=hf none none none none none none none;have hT:xw=zC 12 (zj (zo 3 (eL (fun ds=>.ok (.lst ds)) zg)) (zj (zo 4 (eL (fun ds=>.ok (.lst ds)) (za (eL (fun ds=>.ok (.tup ds)) (za (eC (.int 0)) (za (eL Vy zg) zg))) zg))) (zj (yy Vm WQ) (zA (zc 3))))):=rfl;rw[hT];exact JI _ _ _ _ _ _ z5 z6 z7 z8 z9 z10 z11 h
def z0p (k b a:Nat):(fl ss hs H ov lr k b a).length<=k:=by
 induction k generalizing b a with
 | zero=>exact tQ _
 | succ k ih =>
  unfold fl;split
  ·rw[tF];have:=ih (bw ss hs H ov lr b a).1 (bw ss hs H ov lr b a).2.1;omega
  ·exact rG _
def JL (G:Gd ss hs RL H ov lr)(hla:ss≠[]->yC (ym ss (ss.length-1))=false):vn [.lst ((sub ss hs H ov lr ss.length x0).map xN)]=.ok (xN (T0 ss hs H ov lr 0 0,fl ss hs H ov lr ss.length 0 0)):=by
 have hc:=z0e G hla ss.length 0 0 (by omega) (by omega) (fun _=>rfl) (by omega);have hm:=Z2 (fl ss hs H ov lr ss.length 0 0) ss.length x0 (T0 ss hs H ov lr 0 0) hc (z0p _ _ _);have e0:((x0.1+T0 ss hs H ov lr 0 0,x0.2++fl ss hs H ov lr ss.length 0 0):Nd)=(T0 ss hs H ov lr 0 0,fl ss hs H ov lr ss.length 0 0):=by
  show ((0+T0 ss hs H ov lr 0 0,[]++fl ss hs H ov lr ss.length 0 0):Nd)=_;rw[gK,tN]
 rw[e0]at hm;have key:∀y∈sub ss hs H ov lr ss.length x0,y≠(T0 ss hs H ov lr 0 0,fl ss hs H ov lr ss.length 0 0)->T0 ss hs H ov lr 0 0<y.1\/(y.1=T0 ss hs H ov lr 0 0/\y.2≠fl ss hs H ov lr ss.length 0 0/\ltL (fl ss hs H ov lr ss.length 0 0) y.2=true):=fun y hy hne=>by
  obtain⟨ps,w,rfl,hch⟩:=Z9 ss.length x0 y hy;obtain⟨o1,o2⟩:=opt G ps ss.length 0 0 w hch (by omega) (by omega) (fun _=>rfl) (by omega);have e1:((x0.1+w,x0.2++ps):Nd)=(w,ps):=by
   show ((0+w,[]++ps):Nd)=_;rw[gK,tN]
  rw[e1]at hne ⊢;show T0 ss hs H ov lr 0 0<w\/(w=T0 ss hs H ov lr 0 0/\ps≠fl ss hs H ov lr ss.length 0 0/\ltL (fl ss hs H ov lr ss.length 0 0) ps=true)
  by_cases z:w=T0 ss hs H ov lr 0 0
  ·right
   have hp:ps≠fl ss hs H ov lr ss.length 0 0:=fun q=>hne (by rw[z,q]);rcases o2 z with q|q
   ·exact absurd q hp
   ·exact⟨z,hp,q⟩
  ·left
   omega
 refine z1a hm (fun y hy hne=>?_) (fun y hy hne=>?_)
 ·unfold ltN;dsimp only;rcases key y hy hne with q|⟨q1,q2,q3⟩
  ·rw[if_neg (by omega)];exact decide_eq_true q
  ·rw[if_pos q1.symm,if_neg (Ne.symm q2)];exact q3
 ·unfold ltN;dsimp only;rcases key y hy hne with q|⟨q1,q2,q3⟩
  ·rw[if_neg (by omega)];exact decide_eq_false (by omega)
  ·rw[if_pos q1,if_neg q2];exact YF q3
end
def dcr (s:Sp):Sp:=⟨s.g,s.h,s.c,if s.m-1>0 then s.m-1 else 0⟩
def Wr:Tn->R D:=(eL vJ (za (yg [none] (xq (zc 2)) (.one 0) (fun _=>.ok true) (zd ixD (zc 0) (eC (.int 3)))) zg))
def WB:Tn->R Bool:=(zl (zd gtD Wr (eC (.int 5))))
def Jl:Tn->R D:=(zd zI (eSl (zc 0) wj (zX (eC (.int 3)))) (eL (fun ds=>.ok (.tup ds)) (za (eL ki (za (eC (.int 0)) (za (zd yB (zd ixD (zc 0) (eC (.int 3))) (eC (.int 1))) zg))) zg)))
def V8:Tn->R Fl:=(zo 2 (yg [none] (xq (zc 2)) (.one 0) (fun _=>.ok true) Jl))
def sM (a b d e f g h i j k:Option D)(ss:List Sp)(hn:ss.length<=1000):Wr [a,b,some (.lst (ss.map zq)),d,e,f,g,h,i,j,k]=.ok (.int (ss.map Sp.m).sum):=by
 refine eL1 (cmp (f:=fun s=>.int s.m) rfl hn fun s=>?_) (z1D _ _);have:=s3 s;generalize zq s=S at *;simp -implicitDefEqProofs only [zc,eC,zd,jYa,tD,this]
def dE (s:Sp):Jl [some (zq s)]=.ok (zq (dcr s)):=by
 have e5:slD (zq s) none (some 3)=.ok (.tup [.int s.g,.int s.h,yI s.c]):=by
  obtain⟨g,h,c,m⟩:=s;cases c<;>rfl
 have e3:=s3 s;have e4:ki [.int 0,.int (s.m-1)]=.ok (.int (if s.m-1>0 then s.m-1 else 0)):=rfl;have e6:zI (.tup [.int s.g,.int s.h,yI s.c]) (.tup [.int (if s.m-1>0 then s.m-1 else 0)])=.ok (zq (dcr s)):=by
  obtain⟨g,h,c,m⟩:=s;cases c<;>rfl
 unfold Jl;generalize zq s=S at *;generalize zq (dcr s)=S' at *;simp -implicitDefEqProofs only [zc,eC,zd,eL,zg,za,eSl,wj,zX,jYa,tD,zP,e5,e3,e4,e6]
def bM (a b d e f g h i j k:Option D)(ss:List Sp)(hn:ss.length<=1000):V8 [a,b,some (.lst (ss.map zq)),d,e,f,g,h,i,j,k]=.ok (.nx [a,b,some (.lst ((ss.map dcr).map zq)),d,e,f,g,h,i,j,k]):=by
 have h1:=cmp (it:=xq (zc 2)) (τ:=[a,b,some (.lst (ss.map zq)),d,e,f,g,h,i,j,k]) (f:=fun s=>zq (dcr s)) rfl hn dE;have h2:(ss.map dcr).map zq=ss.map fun s=>zq (dcr s):=by rw[rR];rfl
 rw[h2];unfold V8;generalize (ss.map fun s=>zq (dcr s))=Y at *;generalize yg [none] (xq (zc 2)) (.one 0) (fun _=>.ok true) Jl=EE at *;simp -implicitDefEqProofs only [zo,jYa,tH,tI,h1]
def cM (a b:Option D)(S:D)(d e f g h i j k:Option D)(q:Int)(hs:Wr [a,b,some S,d,e,f,g,h,i,j,k]=.ok (.int q)):WB [a,b,some S,d,e,f,g,h,i,j,k]=.ok (decide (5<q)):=by
 unfold WB;generalize Wr=SM at *;simp -implicitDefEqProofs only [eC,zd,zl,asB,jYa,yr,hs]
theorem ZH:∀ss:List Sp,(∀p∈ss,SpB p)->((ss.map dcr).map Sp.m).sum<=(ss.map Sp.m).sum/\(0<(ss.map Sp.m).sum->((ss.map dcr).map Sp.m).sum<(ss.map Sp.m).sum)
 | [],_=>⟨Int.le_refl _,fun z=>absurd z (by decide)⟩
 | s::ss,h=>by
  obtain⟨h1,h2⟩:=ZH ss fun p hp=>h p (tW _ hp);have hm:=(h s tU).m;have h3:=(vS ss fun p hp=>h p (tW _ hp)).1;simp only[tG,pS];have e:(dcr s).m=if s.m-1>0 then s.m-1 else 0:=rfl;rw[e];split<;>constructor<;>omega
def z1X {ss:List Sp}{hs:List Int}(h:Dr ss hs):Dr (ss.map dcr) hs:=by
 refine⟨fun p hp=>?_,by have:=(ZH ss h.sp).1;have:=h.hl;omega,h.hn,h.hb,fun z=>?_⟩
 ·obtain⟨s,hs,rfl⟩:=rB.mp hp;have b:=h.sp s hs;refine⟨b.g,b.h,?_⟩;have hm:=b.m;show 0<=(if s.m-1>0 then s.m-1 else 0)/\(if s.m-1>0 then s.m-1 else 0)<=3;split<;>omega
 ·have:=h.la (fun w=>z (by rw[w];rfl));rw[tM];unfold ym at *;rw[sJ,Option.map_map];exact this
theorem goM (scr n:Option D)(HS:Option D)(d e f g h i j:Option D){hs:List Int}:∀(k:Nat) (ss:List Sp),Dr ss hs->ss.length<=20->(ss.map Sp.m).sum<=k ->
  ∃ss':List Sp,yy WB V8 [scr,n,some (.lst (ss.map zq)),HS,d,e,f,g,h,i,j]=.ok (.nx [scr,n,some (.lst (ss'.map zq)),HS,d,e,f,g,h,i,j])/\Dr ss' hs/\ss'.length=ss.length/\(ss'.map Sp.m).sum<=5
 | k,ss,hd,hn,hk=>by
  have hc:=cM scr n (.lst (ss.map zq)) HS d e f g h i j _ (sM scr n HS d e f g h i j ss (by omega))
  by_cases hz:5<(ss.map Sp.m).sum
  ·rw[decide_eq_true hz]at hc;cases k with
   | zero=>omega
   | succ k =>
    have hlt:=(ZH ss hd.sp).2 (by omega);obtain⟨ss',q1,q2,q3,q4⟩:=goM scr n HS d e f g h i j k (ss.map dcr) (z1X hd) (by rw[tM];exact hn) (by omega);exact⟨ss',Y3 hc (bM scr n HS d e f g h i j ss (by omega)) q1,q2,by rw[q3,tM],q4⟩
  ·rw[decide_eq_false hz]at hc;exact⟨ss,ZA hc,hd,rfl,by omega⟩
def slH {hs:List Int}{q:Nat}(h:q<=hs.length):slD (.lst (hs.map D.int)) none (some (q:Int))=.ok (.lst ((hs.take q).map D.int)):=by
 rw[ZJ (xj (fun _=>rfl) hs)];unfold kN;rw[HT.sIx_none,HT.sIx_nat,List.drop_zero,gJ,tM,Nat.min_eq_left h,List.map_take]
def Z4:Tn->R D:=(yg [none,none] (kZ (zc 7)) (.many [0,1]) (fun _=>.ok true) (eL (fun ds=>.ok (.tup ds)) (za (zd yB (eC (.int 0)) (zc 0)) (za (zc 1) zg))))
def U7:Tn->R Fl:=(jI (.many [6,7]) (eL vn (za (eL xw (za (zc 2) (za (zc 3) (za (zc 5) zg)))) zg)))
def X9 (AS:Tn->R Fl)(CR:Tn->R D):Tn->R Fl:=(zj AS (zj (zo 8 (eL (fun ds=>.ok (.lst ds)) (za (eL wM (za (zc 2) zg)) (za (eL wM (za (zc 3) zg)) (za (eL vR (za (zc 5) zg)) zg))))) (zj (zo 9 (eL wQ (za (zd ixD (zc 8) (eC (.int 0))) (za (zd ixD (zc 8) (eC (.int 1))) (za (zd ixD (zc 8) (eC (.int 2))) zg))))) (zj (sIf (bOr (xy (zl (eUn (YN "list") (zc 9)))) (zl (zd (eqR true) (zc 9) CR))) (zA (eC (.bl false))) zt) (zj (zo 10 (zd ixD (zd ixD (eL yJ (za (zd ixD (zc 8) (eC (.int 0))) (za (zd ixD (zc 8) (eC (.int 1))) (za (zd ixD (zc 8) (eC (.int 2))) zg)))) (eC (.int 0))) (eC (.int 0)))) (sIf (bOr (xy (zl (eL xD (za (zc 10) zg)))) (bOr (zl (zd (eqR true) (zc 10) (zc 6))) (zl (zd Yh (zc 8) (eL (fun ds=>.ok (.lst ds)) (za (zc 2) (za (zc 3) (za (zc 5) zg)))))))) (zA (eC (.bl false))) zt))))))
def TL (SW SF:Tn->R Fl)(E4:Tn->R D):Tn->R Fl:=(zj (zo 1 (eL zB (za (zc 0) (za (eC (.int 0)) zg)))) (zj (jI (.many [2,3]) (eL zZ (za (zc 0) (za (zd zI (eC (.int 1)) (zd yf (zc 1) (eC (.int 5)))) zg)))) (zj SW (zj (zo 3 E4) (zj (zo 4 (eL ye (za (eL zB (za (zc 0) (za (eC (.int 1)) zg))) zg))) (zj SF (zA (eC (.bl true)))))))))
def Uz (i:Int):xD [.int i]=.ok (.bl true):=by
 have h1:YN "int" (.int i)=.ok (.bl true):=rfl;have h2:YN "bool" (.int i)=.ok (.bl false):=rfl;simp -implicitDefEqProofs only [xD,uV,zC,zA,zc,eUn,We,z1r,asB,jYa,tG,sA,tF,tP,tK,tS,tN,tD,Nat.reduceSub,tZ,if_true,h1,h2,rA]
def cR (a b c d e f g:Option D)(ps:List (Nat×Nat))(hz:ps.length<=1000)(y8 y9 y10:Option D):Z4 [a,b,c,d,e,f,g,some (.frl (ps.map zY)),y8,y9,y10]=.ok (.lst (ps.map yb)):=by
 have h1:xo (wm (Tgt.many [0,1]).asg (fun _=>.ok true) (eL (fun ds=>.ok (.tup ds)) (za (zd yB (eC (.int 0)) (zc 0)) (za (zc 1) zg))) [none,none]) (ps.map zY)=.ok (ps.map yb):=by
  rw[w6 (o:=fun p:Nat×Nat=>some (yb p)) (fun p _=>?_),uf];show vW ((R.ok [some (D.int (0-(p.1:Int))),some (D.int (p.2:Int))]).bind _)=_;rw[jYa,jYa,if_pos rfl];have:(eL (fun ds=>.ok (.tup ds)) (za (zd yB (eC (.int 0)) (zc 0)) (za (zc 1) zg))) [some (.int (0-(p.1:Int))),some (.int (p.2:Int))]=.ok (.tup [.int (0-(0-(p.1:Int))),.int (p.2:Int)]):=rfl;rw[this,show 0-(0-(p.1:Int))=(p.1:Int) by omega]
  rfl
 unfold Z4;rw[wq];show (R.ok (ps.map zY)).bind _=_;rw[jYa];show (xo (wm (Tgt.many [0,1]).asg (fun _=>.ok true) (eL (fun ds=>.ok (.tup ds)) (za (zd yB (eC (.int 0)) (zc 0)) (za (zc 1) zg))) [none,none]) (ps.map zY)).bind U6=_;rw[h1,jYa,v9 (by rw[tM];omega)]
def aM (a b:Option D)(S HS RL A:D)(r:Option D)(w:Int)(G:D)(y6 y7 y8 y9 y10:Option D)(h1:xw [S,HS,RL]=.ok A)(h2:vn [A]=.ok (.tup [.int w,G])):U7 [a,b,some S,some HS,r,some RL,y6,y7,y8,y9,y10]=.ok (.nx [a,b,some S,some HS,r,some RL,some (.int w),some G,y8,y9,y10]):=by
 have h3:(eL vn (za (eL xw (za (zc 2) (za (zc 3) (za (zc 5) zg)))) zg)) [a,b,some S,some HS,r,some RL,y6,y7,y8,y9,y10]=.ok (.tup [.int w,G]):=by
  generalize D.tup [.int w,G]=X at *;simp -implicitDefEqProofs only [zc,eL,zg,za,jYa,tD,tE,h1,h2]
 unfold U7 jI;rw[h3,jYa]
 rfl
def bR (AS:Tn->R Fl)(CR:Tn->R D)(a b:Option D)(S HS RL F TB row G:D)(r:Option D)(w:Int)(y6 y7 y8 y9 y10:Option D)(h1:AS [a,b,some S,some HS,r,some RL,y6,y7,y8,y9,y10]=.ok (.nx [a,b,some S,some HS,r,some RL,some (.int w),some G,y8,y9,y10]))(h2:wM [S]=.ok S)(h3:wM [HS]=.ok HS)(h4:vR [RL]=.ok RL)(h5:wQ [S,HS,RL]=.ok F)(h6:YN "list" F=.ok (.bl true))(h7:CR [a,b,some S,some HS,r,some RL,some (.int w),some G,some (.lst [S,HS,RL]),some F,y10]=.ok F)(h8:eqR true F F=.ok (.bl false))(h9:yJ [S,HS,RL]=.ok TB)(h10:ixD TB (.int 0)=.ok row)(h11:ixD row (.int 0)=.ok (.int w))(h12:Yh (.lst [S,HS,RL]) (.lst [S,HS,RL])=.ok (.bl false)):
  X9 AS CR [a,b,some S,some HS,r,some RL,y6,y7,y8,y9,y10]=.ok (.nx [a,b,some S,some HS,r,some RL,some (.int w),some G,some (.lst [S,HS,RL]),some F,some (.int w)]):=by
 have e0:ixD (.lst [S,HS,RL]) (.int 0)=.ok S:=rfl;have e1:ixD (.lst [S,HS,RL]) (.int 1)=.ok HS:=rfl;have e2:ixD (.lst [S,HS,RL]) (.int 2)=.ok RL:=rfl;have e3:=Uz w;have e4:eqR true (.int w) (.int w)=.ok (.bl false):=by rw[xY];simp
 unfold X9;simp -implicitDefEqProofs only [zt,zj,zo,zA,sIf,zc,eC,zd,eUn,eL,zg,za,zl,bOr,xy,asB,jYa,tD,tE,tH,tI,if_false,tJ,h1,h2,h3,h4,e0,e1,e2,h5,h6,h7,h8,h9,h10,h11,e3,e4,h12,sZ]
def z0D (ss:List Sp)(hs:List Int)(RL:D)(hR:eqE RL RL=some true):Yh (.lst [.lst (ss.map zq),.lst (hs.map D.int),RL]) (.lst [.lst (ss.map zq),.lst (hs.map D.int),RL])=.ok (.bl false):=by
 have e1:eqE (.lst (ss.map zq)) (.lst (ss.map zq))=some true:=z42 ss;have e2:eqE (.lst (hs.map D.int)) (.lst (hs.map D.int))=some true:=z3v hs;unfold Yh;dsimp only;rw[if_pos rfl];unfold yp;rw[e1];unfold yp;rw[e2];unfold yp;rw[hR]
 rfl
def z2x (ps:List (Nat×Nat)):eqR true (.lst (ps.map yb)) (.lst (ps.map yb))=.ok (.bl false):=by
 refine Kl (fun _ _ z=>by cases z) (ZY 11 fun d hd=>?_);obtain⟨p,_,rfl⟩:=rB.mp hd;refine WR 10 fun d hd=>?_;simp only[sF,rK,or_false]at hd;rcases hd with rfl|rfl<;>rw[uh]<;>simp
def Zt {ss:List Sp}{hs:List Int}{RL:D}{H ov lr:Int}(G:Gd ss hs RL H ov lr)(hla:ss≠[]->yC (ym ss (ss.length-1))=false)(h5:ss.length<=5)(hq:(ss.map Sp.m).sum<=5)(hR:eqE RL RL=some true)(hd:vR [RL]=.ok RL)(a b r:Option D)(y6 y7 y8 y9 y10:Option D):
  ∃z6 z7 z8 z9 z10,X9 U7 Z4 [a,b,some (.lst (ss.map zq)),some (.lst (hs.map D.int)),r,some RL,y6,y7,y8,y9,y10]=.ok (.nx [a,b,some (.lst (ss.map zq)),some (.lst (hs.map D.int)),r,some RL,z6,z7,z8,z9,z10]):=by
 obtain⟨row,r1,r2⟩:=Uw (ss:=ss) (hs:=hs) (H:=H) (ov:=ov) (lr:=lr) (e:=0) (t:=0) (by omega) (by split<;>omega);have hl:=z0p (ss:=ss) (hs:=hs) (H:=H) (ov:=ov) (lr:=lr) ss.length 0 0;exact⟨_,_,_,_,_,bR U7 Z4 a b _ _ RL _ (.lst (jY ss hs H ov lr)) row _ r _ y6 y7 y8 y9 y10 (aM a b _ _ RL _ r _ _ y6 y7 y8 y9 y10 (z1z G h5 hq) (JL G hla)) (Xg (xj QH ss)) (Xg (xj (f:=D.int) (fun _=>rfl) hs)) hd (VN G hla) rfl (cR a b _ _ r _ _ (fl ss hs H ov lr ss.length 0 0) (by omega) _ _ _) (z2x _) (z3q G hla) r1 r2 (z0D ss hs RL hR)⟩
theorem lR (B:Tn->R Fl)(a b S HS r:Option D):∀(ts:List D) (y5 y6 y7 y8 y9 y10:Option D),(∀t∈ts,∀y6 y7 y8 y9 y10:Option D,∃z6 z7 z8 z9 z10,B [a,b,S,HS,r,some t,y6,y7,y8,y9,y10]=.ok (.nx [a,b,S,HS,r,some t,z6,z7,z8,z9,z10]))->∃z5 z6 z7 z8 z9 z10,yL (Tgt.one 5).asg B ts [a,b,S,HS,r,y5,y6,y7,y8,y9,y10]=.ok (.nx [a,b,S,HS,r,z5,z6,z7,z8,z9,z10])
 | [],y5,y6,y7,y8,y9,y10,_=>⟨y5,y6,y7,y8,y9,y10,rfl⟩
 | t::ts,y5,y6,y7,y8,y9,y10,h=>by
  obtain⟨z6,z7,z8,z9,z10,e⟩:=h t tU y6 y7 y8 y9 y10;obtain⟨u5,u6,u7,u8,u9,u10,e'⟩:=lR B a b S HS r ts (some t) z6 z7 z8 z9 z10 fun v hv=>h v (tW _ hv);refine⟨u5,u6,u7,u8,u9,u10,?_⟩;rw[Js];show (B [a,b,S,HS,r,some t,y6,y7,y8,y9,y10]).bind _=_;rw[e,jYa,z1c];exact e'
def tl (SW SF:Tn->R Fl)(E4:Tn->R D)(scr S0 HS0 S HS R1:D)(n k:Int)(hn:zB [scr,.int 0]=.ok (.int n))(h1:zZ [scr,.int (1+n%5)]=.ok (.tup [S0,HS0]))(h2:SW [some scr,some (.int n),some S0,some HS0,none,none,none,none,none,none,none]=.ok (.nx [some scr,some (.int n),some S,some HS0,none,none,none,none,none,none,none]))(h3:E4 [some scr,some (.int n),some S,some HS0,none,none,none,none,none,none,none]=.ok HS)(hk:zB [scr,.int 1]=.ok (.int k))(h4:ye [.int k]=.ok R1)(z5 z6 z7 z8 z9 z10:Option D)(h8:SF [some scr,some (.int n),some S,some HS,some R1,none,none,none,none,none,none]=.ok (.nx [some scr,some (.int n),some S,some HS,some R1,z5,z6,z7,z8,z9,z10])):
  zC 11 (TL SW SF E4) [scr]=.ok (.bl true):=by
 simp -implicitDefEqProofs only [TL,zC,zj,zo,zA,jI,zc,eC,zd,eL,zg,za,Tgt.asg,jYa,tG,sA,tF,tP,tO,tK,tS,tN,tD,tE,tH,tI,Nat.reduceAdd,Nat.reduceSub,tZ,zQ,wR,if_true,Int.reduceLT,xm,hn,h1,h2,h3,hk,h4,h8]
def z3m {ss:List Sp}{hs:List Int}(hn:ss.length<=1000)(hd:Dr ss hs)(a b d e f g h i j:Option D):(eSl (zc 3) wj (zX Wr)) [a,b,some (.lst (ss.map zq)),some (.lst (hs.map D.int)),d,e,f,g,h,i,j]=.ok (.lst ((hs.take (ss.map Sp.m).sum.toNat).map D.int)):=by
 have h1:=sM a b (some (.lst (hs.map D.int))) d e f g h i j ss hn;have h0:=(vS ss hd.sp).1;have hl:=hd.hl;have h2:=slH (hs:=hs) (q:=(ss.map Sp.m).sum.toNat) (by omega);rw[show (((ss.map Sp.m).sum.toNat:Nat):Int)=(ss.map Sp.m).sum by omega]at h2;generalize (hs.take (ss.map Sp.m).sum.toNat).map D.int=Y at *;generalize (ss.map Sp.m).sum=q at *;generalize (D.lst (hs.map D.int))=HS at *;generalize (D.lst (ss.map zq))=S at *;generalize Wr=SM at *;simp -implicitDefEqProofs only [zc,eSl,wj,zX,jYa,tD,tE,h1,h2]
def z38 (scr n S HS R1 R2:D)(k:Int)(h1:zB [scr,.int 2]=.ok (.int k))(h2:ye [.int k]=.ok R2):xq (eL (fun ds=>.ok (.lst ds)) (za (zc 4) (za (eL ye (za (eL zB (za (zc 0) (za (eC (.int 2)) zg))) zg)) (za (zc 4) zg)))) [some scr,some n,some S,some HS,some R1,none,none,none,none,none,none]=.ok [R1,R2,R1]:=by
 simp -implicitDefEqProofs only [zc,eC,eL,zg,za,xq,Qy,jYa,tD,tE,h1,h2]
def law_true (ns:List Int)(h:ns.length<=63):F_law [.frl (ns.map D.int)]=.ok (.bl true):=by
 obtain⟨n,hn,n0,_⟩:=Xr ns 0 (by decide) (by decide) h;obtain⟨k1,hk1,_⟩:=Xr ns 1 (by decide) (by decide) h;obtain⟨k2,hk2,_⟩:=Xr ns 2 (by decide) (by decide) h;obtain⟨H1,ov1,lr1,hR1,hU1,hH1⟩:=Yo k1;obtain⟨H2,ov2,lr2,hR2,hU2,hH2⟩:=Yo k2;obtain⟨m,hm⟩:∃m:Nat,(m:Int)=1+n%5:=⟨(1+n%5).toNat,by omega⟩
 obtain⟨ss0,hs0,hS,hlen,hd0⟩:=Uj ns h m (by omega);have hsum:=(vS ss0 hd0.sp)
 obtain⟨ss,hw,hd,hl,hq⟩:=goM (some (.frl (ns.map D.int))) (some (.int n)) (some (.lst (hs0.map D.int))) none none none none none none none (hs:=hs0) 1000 ss0 hd0 (by omega) (by omega);have h0:=(vS ss hd.sp).1;have hle:=hd.hl;have G:∀ {RL:D} {H ov lr:Int},Ru RL H ov lr->(0<=H/\H<=1000)->Gd ss (hs0.take (ss.map Sp.m).sum.toNat) RL H ov lr:=fun U hH=>⟨by omega,hd.sp,by rw[rE];omega,fun x hx=>hd.hb x (rJ hx),U,hH⟩
 rw[hm]at hS;have hT:F_law=zC 11 (TL (yy WB V8) (wz (xq (eL (fun ds=>.ok (.lst ds)) (za (zc 4) (za (eL ye (za (eL zB (za (zc 0) (za (eC (.int 2)) zg))) zg)) (za (zc 4) zg))))) (.one 5) (X9 U7 Z4)) (eSl (zc 3) wj (zX Wr))):=rfl;obtain⟨z5,z6,z7,z8,z9,z10,g⟩:=lR (X9 U7 Z4) (some (.frl (ns.map D.int))) (some (.int n)) (some (.lst (ss.map zq))) (some (.lst ((hs0.take (ss.map Sp.m).sum.toNat).map D.int))) (some (Zo k1 H1 ov1 lr1)) [Zo k1 H1 ov1 lr1,Zo k2 H2 ov2 lr2,Zo k1 H1 ov1 lr1] none none none none none none (fun t ht y6 y7 y8 y9 y10=>by
  simp only[sF,rK,or_false]at ht;rcases ht with rfl|rfl|rfl
  ·exact Zt (G hU1 hH1) hd.la (by omega) hq (z1E k1 H1 ov1 lr1) rfl _ _ _ _ _ _ _ _
  ·exact Zt (G hU2 hH2) hd.la (by omega) hq (z1E k2 H2 ov2 lr2) rfl _ _ _ _ _ _ _ _
  ·exact Zt (G hU1 hH1) hd.la (by omega) hq (z1E k1 H1 ov1 lr1) rfl _ _ _ _ _ _ _ _)
 rw[hT];exact tl _ _ _ _ _ _ _ _ _ n k1 hn hS hw (z3m (by omega) hd _ _ _ _ _ _ _ _ _) hk1 hR1 z5 z6 z7 z8 z9 z10 (vx (z38 _ _ _ _ _ _ k2 hk2 hR2) g)
open PySem PySem.W PyProof.Rows
def e (P:Params)(k:Str)(t:Nat)(v:Value):DictEntry:={ hash:=PyData.keyHash P k,key:=.str k t,val:=v }
def dO (v:Array DictEntry)(n:Nat):Obj:={ cls:=.type "dict",data:=.dict v n }
def cO (n q:Str)(t l a r:Nat)(x y:Value)(z k:Nat):Obj:={ cls:=.type "code",data:=.fields #[.str n t,.str q (t+1),.str "/claim/cut.py" (t+2),.int l 0,.int a 0,.int 0 0,.int 0 0,.int 3 0,.ref r,.bool true,.int 181 0,.ref (r+1),.none,x,y,.ref z,.int k 0,.int l 0,.str "/claim/cut.py" (k+1)] }
def fO (n q:Str)(st:Stmt)(c:Nat)(m:Str)(t:Nat):Obj:=⟨.type "function",none,.func (fnOf n q (L2.defArgs st) (L2.defBody st) (L2.defScope st) .none .none .none (.str m t) none (.ref c) .none),#[]⟩
def K0 (P:Params):Frag:=[
 (3,dO #[e P "__name__" 165 (.str "law_quirehand_k24_all_fillings_tried" 343),e P "__doc__" 166 .none,e P "__package__" 167 .none,e P "__loader__" 168 (.builtin "__main__.__loader__#opaque"),e P "__spec__" 169 .none,e P "__annotations__" 170 (.ref 6),e P "__builtins__" 171 (.ref 4),e P "__file__" 173 (.str "/claim/cut.py" 172),e P "__cached__" 174 .none,e P "first_end" 197 (.ref 21),e P "cost_at" 214 (.ref 28),e P "most_late" 223 (.ref 35),e P "sums_of" 234 (.ref 42),e P "bodies_from" 248 (.ref 49),e P "Filler" 319 (.ref 88),e P "leaf_prices" 328 (.ref 99),e P "filled" 342 (.ref 106),e P "_law_cell" 352 (.ref 113),e P "_law_mixed" 360 (.ref 120),e P "_law_whole" 367 (.ref 127),e P "_law_height" 374 (.ref 134),e P "_law_strips" 380 (.ref 139),e P "_law_rules" 391 (.ref 146),e P "_law_marks" 397 (.ref 151),e P "_law_may" 403 (.ref 156),e P "_law_high" 409 (.ref 161),e P "_law_leaf" 415 (.ref 166),e P "_law_all" 421 (.ref 171),e P "law" 427 (.ref 176)] 29),
 (20,cO "first_end" "first_end" 189 2 2 15 (.ref 17) (.ref 18) 19 195),
 (21,fO "first_end" "first_end" (top 1) 20 "quirehand.leaves" 187),
 (27,cO "cost_at" "cost_at" 198 7 7 22 (.ref 24) (.ref 25) 26 212),
 (28,fO "cost_at" "cost_at" (top 2) 27 "quirehand.leaves" 187),
 (34,cO "most_late" "most_late" 215 21 3 29 (.ref 31) (.ref 32) 33 221),
 (35,fO "most_late" "most_late" (top 3) 34 "quirehand.leaves" 187),
 (41,cO "sums_of" "sums_of" 226 24 1 36 (.ref 38) (.ref 39) 40 232),
 (42,fO "sums_of" "sums_of" (top 5) 41 "quirehand.filling" 224),
 (48,cO "bodies_from" "bodies_from" 235 29 3 43 (.ref 45) (.ref 46) 47 246),
 (49,fO "bodies_from" "bodies_from" (top 6) 48 "quirehand.filling" 224),
 (60,cO "__init__" "Filler.__init__" 261 44 4 57 .none .none 59 264),
 (61,fO "__init__" "Filler.__init__" (mth 7 0) 60 "quirehand.filling" 224),
 (67,cO "foot" "Filler.foot" 267 54 3 62 (.ref 64) (.ref 65) 66 273),
 (68,fO "foot" "Filler.foot" (mth 7 1) 67 "quirehand.filling" 224),
 (74,cO "ways" "Filler.ways" 276 59 4 69 (.ref 71) (.ref 72) 73 292),
 (75,fO "ways" "Filler.ways" (mth 7 2) 74 "quirehand.filling" 224),
 (79,cO "price" "Filler.price" 295 73 4 76 .none .none 78 298),
 (80,fO "price" "Filler.price" (mth 7 3) 79 "quirehand.filling" 224),
 (84,cO "best" "Filler.best" 301 76 3 81 .none .none 83 304),
 (85,fO "best" "Filler.best" (mth 7 4) 84 "quirehand.filling" 224),
 (87,dO #[e P "__module__" 256 (.str "quirehand.filling" 224),e P "__firstlineno__" 260 (.int 42 259),e P "__init__" 266 (.ref 61),e P "foot" 275 (.ref 68),e P "ways" 294 (.ref 75),e P "price" 300 (.ref 80),e P "best" 306 (.ref 85),e P "__static_attributes__" 312 (.ref 86),e P "__dict__" 314 (.ref 89),e P "__weakref__" 316 (.ref 90),e P "__doc__" 317 .none] 4),
 (88,{ cls:=.type "type",data:=.cls { name:="Filler",bases:=[.type "object"],mro:=[.ref 88,.type "object"],ns:=87,qualname:="Filler" },slots:=#[none,none,some (.str "Filler" 249),some (.str "Filler" 257),some (.builtin "object.__new__"),some (.bool true)] }),
 (89,{ cls:=.type "getset_descriptor",data:=.fields #[.str "__dict__" 313,.ref 88,.builtin "function.__dict__",.builtin "function.__dict__#set"] }),
 (90,{ cls:=.type "getset_descriptor",data:=.fields #[.str "__weakref__" 315,.ref 88,.builtin "ExceptionGroup.__weakref__",.none] }),
 (98,cO "leaf_prices" "leaf_prices" 320 80 3 93 (.ref 95) (.ref 96) 97 326),
 (99,fO "leaf_prices" "leaf_prices" (top 8) 98 "quirehand.filling" 224),
 (105,cO "filled" "filled" 329 82 3 100 (.ref 102) (.ref 103) 104 340),
 (106,fO "filled" "filled" (top 9) 105 "quirehand.filling" 224),
 (112,cO "_law_cell" "_law_cell" 345 94 2 107 (.ref 109) (.ref 110) 111 350),
 (113,fO "_law_cell" "_law_cell" (top 11) 112 "law_quirehand_k24_all_fillings_tried" 343),
 (119,cO "_law_mixed" "_law_mixed" 353 98 2 114 (.ref 116) (.ref 117) 118 358),
 (120,fO "_law_mixed" "_law_mixed" (top 12) 119 "law_quirehand_k24_all_fillings_tried" 343),
 (126,cO "_law_whole" "_law_whole" 361 100 1 121 (.ref 123) (.ref 124) 125 365),
 (127,fO "_law_whole" "_law_whole" (top 13) 126 "law_quirehand_k24_all_fillings_tried" 343),
 (133,cO "_law_height" "_law_height" 368 102 1 128 (.ref 130) (.ref 131) 132 372),
 (134,fO "_law_height" "_law_height" (top 14) 133 "law_quirehand_k24_all_fillings_tried" 343),
 (138,cO "_law_strips" "_law_strips" 375 106 2 135 .none .none 137 378),
 (139,fO "_law_strips" "_law_strips" (top 15) 138 "law_quirehand_k24_all_fillings_tried" 343),
 (145,cO "_law_rules" "_law_rules" 381 120 1 140 (.ref 142) (.ref 143) 144 389),
 (146,fO "_law_rules" "_law_rules" (top 16) 145 "law_quirehand_k24_all_fillings_tried" 343),
 (150,cO "_law_marks" "_law_marks" 392 129 3 147 .none .none 149 395),
 (151,fO "_law_marks" "_law_marks" (top 17) 150 "law_quirehand_k24_all_fillings_tried" 343),
 (155,cO "_law_may" "_law_may" 398 131 3 152 .none .none 154 401),
 (156,fO "_law_may" "_law_may" (top 18) 155 "law_quirehand_k24_all_fillings_tried" 343),
 (160,cO "_law_high" "_law_high" 404 134 6 157 .none .none 159 407),
 (161,fO "_law_high" "_law_high" (top 19) 160 "law_quirehand_k24_all_fillings_tried" 343),
 (165,cO "_law_leaf" "_law_leaf" 410 144 7 162 .none .none 164 413),
 (166,fO "_law_leaf" "_law_leaf" (top 20) 165 "law_quirehand_k24_all_fillings_tried" 343),
 (170,cO "_law_all" "_law_all" 416 161 3 167 .none .none 169 419),
 (171,fO "_law_all" "_law_all" (top 21) 170 "law_quirehand_k24_all_fillings_tried" 343),
 (175,cO "law" "law" 422 175 1 172 .none .none 174 425),
 (176,fO "law" "law" (top 22) 175 "law_quirehand_k24_all_fillings_tried" 343)]
abbrev pw:Program:=PySem.Challenge.pw_quirehand_k24_all_fillings_tried
def as0:List Addr:=[3,20,21,27,28,34,35,41,42,48,49,60,61,67,68,74,75,79,80,84,85,87,88,89,90,98,99,105,106,112,113,119,120,126,127,133,134,138,139,145,146,150,151,155,156,160,161,165,166,170,171,175,176]
def z2Y:∀P,as0=(K0 P).map (·.1):=fun _=>rfl
def q0:Program:=view pw [1,2,3,5,6,7,8,9,11,12,13,14,15,16,17,18,19,20,21,22]
def X0 (s:Shared):Bool:=xlAt q0 [] s&&recOk [] s
def x1 (s:Shared)(e:X0 s=true):xlAt q0 [] s=true/\recOk [] s=true:=(rV).mp e
def Y0 (s:Shared):List (Option Obj)×Option Obj:=(as0.map s.heap.get?,s.heap.get? 82)
def A0 (w:World):List (Option Obj)×Option Obj:=((K0 w.params).map fun p=>some p.2,some (tabObj #[]))
def YP (w:World)(h:Heap):Prop:=(K0 w.params).In h/\h.get? 82=some (tabObj #[])
theorem YP.of (w:World)(s:Shared)(x:Y0 s=A0 w):YP w s.heap:=⟨InK.of z2Y w s (Prod.mk.inj x).1,(Prod.mk.inj x).2⟩
theorem YP.keeps (w:World)(h h':Heap)(x:YP w h)(k:∀b o,h.get? b=some o->h'.get? b=some o):YP w h':=⟨Frag.In.keeps x.1 k,k _ _ x.2⟩
def t0:(PySem.Challenge.pw_quirehand_k24_all_fillings_tried.main.body.length==23)=true:=by k_qdec
section
set_option maxHeartbeats 0
theorem Pa:HW.Pa pw q0 [] X0 Y0 A0 982:=by intro w os;unfold HW.runAll q0 pw;rw[Fast.te16190869126915157432];kernel_rfl
theorem Pb:HW.Pb pw q0 [] X0 Y0 982:=by intro w os;unfold HW.runAll q0 pw;rw[Fast.te16190869126915157432];kernel_rfl
theorem Pc:HW.Pc pw q0 [] X0 Y0 982:=by intro w os;unfold HW.runAll q0 pw;rw[Fast.te16190869126915157432];kernel_rfl
theorem Pd:HW.Pd pw q0 [] X0 Y0 982:=by intro w os;unfold HW.runAll q0 pw;rw[Fast.te16190869126915157432];kernel_rfl
theorem Pe:HW.Pe pw q0 [] X0 Y0 982:=by intro w os;unfold HW.runAll q0 pw;rw[Fast.te16190869126915157432];kernel_rfl
theorem Pf:HW.Pf pw q0 [] X0 Y0 982:=by intro w os;unfold HW.runAll q0 pw;rw[Fast.te16190869126915157432];kernel_rfl
def left0:LeftO pw q0 [] X0 Y0 A0 2024:=HW.left_of (n1:=982) (by kernel_rfl) rfl (fun _=>rfl) (fun _=>by kernel_rfl) rfl Pa Pb Pc Pd Pe Pf
end
open PySem PySem.Spec PySem.W PyProof.Rows L2
def facts (w:World)(mg:Str->Option Value)(fa:Addr)(h:Heap)(X:(K0 w.params).In h)(G:h.Ns mainGlobals mg)(hfa:mg "law"=some (.ref fa)):
  ∃fd:FuncData,(∀(s:Shared) (u:Value),BindsTo s fd ⟨[u],[]⟩ [("_law_script",u)])/\∀base:Heap,(K0 w.params).In base->base.Ns mainGlobals mg->base.BuiltinsAt mg TPa->mainGlobals≠TPa->FnOk pw w (K0 w.params) mg base (cxx pw w) 8 fa fd ["_law_script"] (spT TPa tps (spM (K0 w.params) F_law 1)):=by
 have y0:=fun (n:Str) (h:jJn (K0 w.params) mainGlobals n=some none)=>PySem.W.mg_none_of X G h
 have y1:=fun (n:Str) (v:Value) (h:jJn (K0 w.params) mainGlobals n=some (some v))=>PySem.W.mg_of X G h
 have y2:=fun (a:Addr) (v:Value) (b:Bool) (h:jJi (K0 w.params) (.ref a) v=some b)=>h
 have yd:=fun m t n i ps a c=>HW.dfn (n:=n) (st:=top i) (ps:=ps) (a:=a) (c:=c) (m:=m) (t:=t) X G
 have yl:=yd "law_quirehand_k07_written_and_read" 598
 have y0:=fun (n:Str) (z:nsIn (K0 w.params) mainGlobals n=some none)=>mg_none_of X G z;have y1:=fun (n:Str) (v:Value) (z:nsIn (K0 w.params) mainGlobals n=some (some v))=>mg_of X G z;have e:=hfa.symm.trans (y1 "law" (.ref 176) (by kernel_rfl));cases e;have B:Bl mg:=⟨y0 "isinstance" (by kernel_rfl),y0 "int" (by kernel_rfl),y0 "bool" (by kernel_rfl),y0 "str" (by kernel_rfl),y0 "dict" (by kernel_rfl),y0 "list" (by kernel_rfl),y0 "tuple" (by kernel_rfl),y0 "len" (by kernel_rfl),y0 "sum" (by kernel_rfl),y0 "max" (by kernel_rfl),y0 "min" (by kernel_rfl),y0 "all" (by kernel_rfl),y0 "range" (by kernel_rfl),y0 "enumerate" (by kernel_rfl),y0 "zip" (by kernel_rfl)⟩
 have Cf:FilC (K0 w.params) CF:=⟨⟨by kernel_rfl,by kernel_rfl,by kernel_rfl,by kernel_rfl⟩,fun f hf=>by simp only[xP,sF,rK,or_false]at hf;rcases hf with rfl|rfl|rfl|rfl|rfl<;>(unfold NoAttr;kernel_rfl)⟩
 refine⟨fnOf "law" "law" (defArgs (top 22)) (defBody (top 22)) (defScope (top 22)) .none .none .none (.str "law_quirehand_k24_all_fillings_tried" 343) none (.ref 175) .none,fun s v=>.of_eq rfl,fun base XB GB hBA hMG=>?_⟩;have o1h:=yd "quirehand.leaves" 187 "first_end" 1 ["strips","begin"] 21 20 (fun us hl=>match us,hl with | [_,_],_=>rfl) (by kernel_rfl);have o0b:=ZT (P:=pw) (w:=w) (base:=base) o1h B Cf 
 have o2e:=yd "quirehand.leaves" 187 "cost_at" 2 ["strips","rules","begin","end","own","late","height"] 28 27 (fun us hl=>match us,hl with | [_,_,_,_,_,_,_],_=>rfl) (by kernel_rfl);have o0h:=W2 (P:=pw) (w:=w) (base:=base) o2e B Cf o0b;have o1i:=yd "quirehand.leaves" 187 "most_late" 3 ["strips","end","own"] 35 34 (fun us hl=>match us,hl with | [_,_,_],_=>rfl) (by kernel_rfl);have o0c:=ZP (P:=pw) (w:=w) (base:=base) o1i B Cf 
 have o2f:=yd "quirehand.filling" 224 "sums_of" 5 ["numbers"] 42 41 (fun us hl=>match us,hl with | [_],_=>rfl) (by kernel_rfl);have o0a:=Wn (P:=pw) (w:=w) (base:=base) o2f B Cf 
 have o0j:=yd "quirehand.filling" 224 "bodies_from" 6 ["strips","rules","begin"] 49 48 (fun us hl=>match us,hl with | [_,_,_],_=>rfl) (by kernel_rfl);have oj:=jy (P:=pw) (w:=w) (base:=base) o0j B Cf 
 have I_Filler_foot:MethIn (K0 w.params) CF "foot" "Filler.foot" (mth 7 1) ["self","first","beyond"] (.ref 67):=⟨⟨68,_,_,_,_,_,_,_,_,(show (K0 w.params).lookup 68=some (fO "foot" "Filler.foot" (mth 7 1) 67 "quirehand.filling" 224) from by kernel_rfl),by kernel_rfl,⟨by kernel_rfl,by kernel_rfl,by kernel_rfl⟩,.all fun us hl=>match us,hl with | [_,_,_],_=>rfl⟩⟩
 have ol:=kg (P:=pw) (w:=w) (base:=base) I_Filler_foot B Cf 
 have I_Filler_ways:MethIn (K0 w.params) CF "ways" "Filler.ways" (mth 7 2) ["self","begin","bodies","ahead"] (.ref 74):=⟨⟨75,_,_,_,_,_,_,_,_,(show (K0 w.params).lookup 75=some (fO "ways" "Filler.ways" (mth 7 2) 74 "quirehand.filling" 224) from by kernel_rfl),by kernel_rfl,⟨by kernel_rfl,by kernel_rfl,by kernel_rfl⟩,.all fun us hl=>match us,hl with | [_,_,_,_],_=>rfl⟩⟩
 have oh:=jW (P:=pw) (w:=w) (base:=base) I_Filler_ways B Cf ol o0h o0c;have I_Filler_price:MethIn (K0 w.params) CF "price" "Filler.price" (mth 7 3) ["self","begin","bodies","ahead"] (.ref 79):=⟨⟨80,_,_,_,_,_,_,_,_,(show (K0 w.params).lookup 80=some (fO "price" "Filler.price" (mth 7 3) 79 "quirehand.filling" 224) from by kernel_rfl),by kernel_rfl,⟨by kernel_rfl,by kernel_rfl,by kernel_rfl⟩,.all fun us hl=>match us,hl with | [_,_,_,_],_=>rfl⟩⟩
 have on:=j9 (P:=pw) (w:=w) (base:=base) I_Filler_price B Cf oh;have I_Filler_best:MethIn (K0 w.params) CF "best" "Filler.best" (mth 7 4) ["self","begin","ahead"] (.ref 84):=⟨⟨85,_,_,_,_,_,_,_,_,(show (K0 w.params).lookup 85=some (fO "best" "Filler.best" (mth 7 4) 84 "quirehand.filling" 224) from by kernel_rfl),by kernel_rfl,⟨by kernel_rfl,by kernel_rfl,by kernel_rfl⟩,.all fun us hl=>match us,hl with | [_,_,_],_=>rfl⟩⟩
 have hCH:CodeHd base 84 TPa:=⟨_,_,_,_,_,_,_,_,_,XB 84 (cO "best" "Filler.best" 301 76 3 81 .none .none 83 304) (by kernel_rfl),rfl,rfl,rfl,rfl,rfl,rfl,rfl,rfl,by decide⟩
 have oo:=jN (P:=pw) (w:=w) (base:=base) I_Filler_best hCH hBA hMG B Cf oh oj;have I_Filler___init__:InitIn (K0 w.params) mg CF "Filler" "Filler.__init__" (mth 7 0) ["self","strips","heights","rules"] (.ref 60):=⟨⟨61,_,_,_,_,_,_,_,_,(show (K0 w.params).lookup 61=some (fO "__init__" "Filler.__init__" (mth 7 0) 60 "quirehand.filling" 224) from by kernel_rfl),by kernel_rfl,⟨by kernel_rfl,by kernel_rfl,by kernel_rfl,by kernel_rfl⟩,.all fun us hl=>match us,hl with | [_,_,_,_],_=>rfl,y1 "Filler" (.ref 88) (by kernel_rfl)⟩⟩
 have og:=uN (P:=pw) (w:=w) (base:=base) I_Filler___init__ B Cf o0a oj on;have o1a:=yd "quirehand.filling" 224 "leaf_prices" 8 ["strips","heights","rules"] 99 98 (fun us hl=>match us,hl with | [_,_,_],_=>rfl) (by kernel_rfl);have ox:=jV (P:=pw) (w:=w) (base:=base) o1a B Cf og;have o2g:=yd "quirehand.filling" 224 "filled" 9 ["strips","heights","rules"] 106 105 (fun us hl=>match us,hl with | [_,_,_],_=>rfl) (by kernel_rfl);have o0i:=U2 (P:=pw) (w:=w) (base:=base) o2g B Cf og oo;have o1j:=yd "law_quirehand_k24_all_fillings_tried" 343 "_law_cell" 11 ["_law_script","_law_k"] 113 112 (fun us hl=>match us,hl with | [_,_],_=>rfl) (by kernel_rfl);have o0d:=ZW (P:=pw) (w:=w) (base:=base) o1j B Cf 
 have o1d:=yd "law_quirehand_k24_all_fillings_tried" 343 "_law_mixed" 12 ["_law_script","_law_k"] 120 119 (fun us hl=>match us,hl with | [_,_],_=>rfl) (by kernel_rfl);have o4:=kE (P:=pw) (w:=w) (base:=base) o1d B Cf o0d;have o1e:=yd "law_quirehand_k24_all_fillings_tried" 343 "_law_whole" 13 ["_law_found"] 127 126 (fun us hl=>match us,hl with | [_],_=>rfl) (by kernel_rfl);have oz:=kz (P:=pw) (w:=w) (base:=base) o1e B Cf 
 have o1b:=yd "law_quirehand_k24_all_fillings_tried" 343 "_law_height" 14 ["_law_cell_here"] 134 133 (fun us hl=>match us,hl with | [_],_=>rfl) (by kernel_rfl);have oq:=jo (P:=pw) (w:=w) (base:=base) o1b B Cf 
 have o1c:=yd "law_quirehand_k24_all_fillings_tried" 343 "_law_strips" 15 ["_law_script","_law_many"] 139 138 (fun us hl=>match us,hl with | [_,_],_=>rfl) (by kernel_rfl);have ou:=kn (P:=pw) (w:=w) (base:=base) o1c B Cf o4 oq;have o1f:=yd "law_quirehand_k24_all_fillings_tried" 343 "_law_rules" 16 ["_law_number"] 146 145 (fun us hl=>match us,hl with | [_],_=>rfl) (by kernel_rfl);have om:=ku (P:=pw) (w:=w) (base:=base) o1f B Cf 
 have o1g:=yd "law_quirehand_k24_all_fillings_tried" 343 "_law_marks" 17 ["_law_strips_here","_law_begin","_law_end"] 151 150 (fun us hl=>match us,hl with | [_,_,_],_=>rfl) (by kernel_rfl);have o3:=kA (P:=pw) (w:=w) (base:=base) o1g B Cf 
 have o2c:=yd "law_quirehand_k24_all_fillings_tried" 343 "_law_may" 18 ["_law_strips_here","_law_begin","_law_end"] 156 155 (fun us hl=>match us,hl with | [_,_,_],_=>rfl) (by kernel_rfl);have oy:=Yu (P:=pw) (w:=w) (base:=base) o2c B Cf 
 have o2a:=yd "law_quirehand_k24_all_fillings_tried" 343 "_law_high" 19 ["_law_strips_here","_law_heights","_law_begin","_law_end","_law_ahead","_law_late"] 161 160 (fun us hl=>match us,hl with | [_,_,_,_,_,_],_=>rfl) (by kernel_rfl);have o0e:=Zz (P:=pw) (w:=w) (base:=base) o2a B Cf o3;have o2b:=yd "law_quirehand_k24_all_fillings_tried" 343 "_law_leaf" 20 ["_law_strips_here","_law_heights","_law_rules_here","_law_begin","_law_end","_law_ahead","_law_late"] 166 165 (fun us hl=>match us,hl with | [_,_,_,_,_,_,_],_=>rfl) (by kernel_rfl);have o0f:=Ye (P:=pw) (w:=w) (base:=base) o2b B Cf o3 o0e oy;have o2d:=yd "law_quirehand_k24_all_fillings_tried" 343 "_law_all" 21 ["_law_strips_here","_law_heights","_law_rules_here"] 171 170 (fun us hl=>match us,hl with | [_,_,_],_=>rfl) (by kernel_rfl);have o0g:=YB (P:=pw) (w:=w) (base:=base) o2d B Cf o0f o3;exact Y2 (TP:=TPa) (tps:=tps) (show (K0 w.params).lookup 176=some (fO "law" "law" (top 22) 175 "law_quirehand_k24_all_fillings_tried" 343) from by kernel_rfl) (by kernel_rfl) sc_law (by decide) (Qd B Cf o4 ou om o0i o0g ox oz _ _)
def codeT (w:World)(h:Heap)(X:(K0 w.params).In h):isCodeTable h TPa:=⟨84,_,_,X 84 (cO "best" "Filler.best" 301 76 3 81 .none .none 83 304) (by kernel_rfl),rfl,rfl,rfl⟩
end K24
end
open PySem PySem.W PyProof.Rows L2
set_option maxRecDepth 100000 in
set_option maxHeartbeats 0 in
theorem PySem.Challenge.cw_quirehand_k24_all_fillings_tried_holds : PySem.Challenge.rw_quirehand_k24_all_fillings_tried.Holds := by
 w_on;o_law
 refine PySem.W.holds_open (q:=K24.q0) (loose:=[]) (Xt:=K24.X0) (XP:=XL K24.q0 []) (Yf:=K24.Y0) (Ya:=K24.A0) (YP:=K24.YP) (N:=2024) K24.left0 K24.YP.of K24.YP.keeps (fun s e=>xl_of s (K24.x1 s e).1) XL.keeps (by rfl) (by rfl) (by rfl) (fun s e=>recFacts_of (K24.x1 s e).2) (by rfl) (by first|assumption|decide +kernel) (by decide +kernel) ⟨rfl,rfl,rfl,rfl,rfl,by decide +kernel⟩ ?hw ?hc
 case hw=>w_witness2
 case hc=>exact L2.law_walkT (l:=PySem.Challenge.rw_quirehand_k24_all_fillings_tried) (Fm:=K24.F_law) (k:=8) (x:="_law_script") (TP:=K24.TPa) (ps:=K24.tps) K24.law_true ⟨rfl,by decide,by decide⟩ rfl rfl (fun w h Y=>Y) (fun _=>by kernel_rfl) K24.codeT K24.facts
#print axioms PySem.Challenge.cw_quirehand_k24_all_fillings_tried_holds
