import PyProof.Rows.All
import Wide.All
import OpenK.AllK
import Wide.FinOn
import Lean
import PyProof.EqAt
import PyProof.EqKinds
import PyProof.TupleCall
import PyProof.ZipIter
import KE.KDictSum
import PyProof.Rows.SortStr
import PyProof.Rows.TupAdd
import PyProof.TupleOfGen
import PySem.Challenge.RW_quirehand_k07_written_and_read
set_option Elab.async false
set_option maxRecDepth 100000
set_option maxHeartbeats 4000000
set_option bootstrap.genMatcherCode false
set_option genSizeOfSpec false
noncomputable section
open PySem.Heap renaming get?_push_of_some->jYb,lt_size->jYc,get?_push_size->jYd
open Option.some renaming inj->jYe
open PySem.W renaming Frag->jJa,kitOne->jJb,kia_one->jJc,findIn->jJd,fnOf->jJe,keepIn->jJf,nsIn->jJg,excIn->jJh,mroIn->jJi,codeIn->jJj,exmOne->jJk,kitAny->jJm,specialIn->jJn,instObj->jJo,methodObj->jJp,lookIn->jJq,takesIn->jJr,kitx_list->jJs,kitx_dict->jJt,callWith_K->jJu,mg_of->jJv,clsIn->jJw,hideAll_get->jJy,of_hideAll->jJz,kitx_tuple->jJ2,cellsFrom_some->jJ3
open PySem.F renaming plainAttrs_str->jQx,slot_str_join->jQy,type_str_join->jQz,slot_str_split->jQ0,type_str_split->jQ1,slot_tuple_add->jQ2,entry_tuple_add->jQ3,args_tuple_add_2->jQ4,plainAttrs_list->jQ5,slot_list_append->jQ6,type_list_append->jQ7,slot_str_strip->jQ8,type_str_strip->jQ9,slot_str_startswith->jXa,type_str_startswith->jXb
open List renaming getElem?_cons_zero -> tD, getElem?_cons_succ -> tE, length_cons -> tF, map_cons -> tG, length_append -> tH, set_cons_zero -> tI, replicate_zero -> tJ, set_cons_succ -> tM, mem_cons_self -> tN, nil_append -> tO, cons_append -> tQ, length_nil -> tR, mem_cons_of_mem -> tS, length_map -> tU, map_nil -> tX, append_nil -> tZ, replicate_succ -> sA, mem_append -> sC, mem_append_right -> sD, mem_append_left -> sE, append_assoc -> sF, mem_singleton -> sG, mem_cons -> sI, size_toArray -> sM, getElem?_eq_some_iff -> sN, getElem?_set_ne -> sO, getElem?_set_self -> sP, nodup_append -> sQ, map_map -> sR, length_set -> sS, getElem?_map -> sV, length_replicate -> sW, sum_cons -> sX, lookup_cons -> sZ, map_append -> rA, nodup_cons -> rC, getElem?_append_left -> rE, getElem_mem -> rF, getElem?_eq_getElem -> rG, filterMap_cons -> rH, eq_of_mem_replicate -> rK, length_drop -> rL, getElem?_append_right -> rM, mem_map -> rN, dropLast_concat_getLast -> rO, getElem?_replicate -> rQ, length_take -> rR, take_of_length_le -> rS, flatten_cons -> rV, map_eq_nil_iff -> rW, all_eq_true -> rX, getElem?_eq_none -> pC, sublist_append_right -> pD, nodup_nil -> pE, foldl_cons -> pF, map_id -> pG, map_congr_left -> pH, filter_cons -> pI, length_singleton -> pK, find?_cons -> pM, all_cons -> pO, any_cons -> pP, drop_eq_getElem_cons -> pR, not_mem_nil -> pS, nil_sublist -> pU, getElem?_range -> pV, mem_filterMap -> pX, length_eq_zero_iff -> pY, reverse_cons -> hV, mem_range -> hX, all_map -> hZ, sublist_nil -> gA
open Bool renaming false_eq_true -> tK, false_ne_true -> sJ, not_true -> sT, and_eq_true -> sY, not_false -> rP, false_and -> pJ, and_false -> pQ
open Nat renaming zero_add -> tY, le_refl -> sL, lt_of_lt_of_le -> sU, ne_of_lt -> rB, le_trans -> rD, le_of_lt -> rJ, mul_le_mul_right -> rY, zero_le -> rZ, succ_mul -> pL, lt_irrefl -> pN
open Int renaming toNat_of_nonneg -> pA, emod_nonneg -> hI
open Option renaming bind_eq_some_iff -> pZ, map_eq_some_iff -> hR
namespace L2
open PySem PySem.Spec PyProof.Rows
def au0 (h:True:=by first|exact .inl rfl|exact .inr rfl|assumption):True:=trivial
def au1 (h:True:=by decide):True:=trivial
def au2 (h:True:=by intro _;rfl):True:=trivial
def au3 (h:True:=by rfl):True:=trivial
def au4 (h:True:=by with_unfolding_all rfl):True:=trivial
def au5 (h:True:=by first|exact Or.inl rfl|exact Or.inr (Or.inl rfl)|exact Or.inr (Or.inr rfl)):True:=trivial
def au6 (h:True:=by exact fun _ _=>rfl):True:=trivial
def au7 (h:True:=by first|exact Or.inl rfl|exact Or.inr rfl):True:=trivial
def au8 (h:True:=by exact rfl):True:=trivial
def au9 (h:True:=by nofun):True:=trivial
inductive Key where
 | inl (i:Int) | inr (x:Str) | non
 deriving DecidableEq
def Qa:Value->Bool
 | .none=>true
 | _=>false
def YO:Key->Value->Bool
 | .inl k,v=>Value.isInt k v
 | .inr x,v=>Value.isStrOf x v
 | .non,v=>Qa v
def z6L (w:World):Key->Int
 | .inl k=>hashInt k
 | .inr x=>hashStr w x
 | .non=>0xFCA86420
def Yz {v:Value}(h:Qa v=true):v=.none:=by cases v<;>first|rfl|cases h
def yW:∀ {k:Key} {v:Value},YO k v=true->(∃i t,k=Key.inl i/\v=Value.int i t)\/(∃x t,k=Key.inr x/\v=Value.str x t)\/(k=Key.non/\v=Value.none)
 | .inl i,v,h=>by
  obtain⟨t,e⟩:=Value.isInt_shape (k:=i) (v:=v) h;exact .inl ⟨i,t,rfl,e⟩
 | .inr x,v,h=>by
  obtain⟨t,e⟩:=Value.isStrOf_shape (x:=x) (v:=v) h;exact .inr (.inl ⟨x,t,rfl,e⟩)
 | .non,v,h=>.inr (.inr ⟨rfl,Yz h⟩)
def J2 (i:Int)(t:Tok):YO (.inl i) (.int i t)=true:=by simp[YO,Value.isInt]
def QW (x:Str)(t:Tok):YO (.inr x) (.str x t)=true:=by simp[YO,Value.isStrOf]
def z4w (a b:Int):decide (Key.inl a=Key.inl b)=(a==b):=by
 by_cases e:a=b
 ·subst e;simp
 ·have h:¬Key.inl a=Key.inl b:=fun q=>e (Key.inl.inj q);rw[decide_eq_false h];exact (beq_eq_false_iff_ne.mpr e).symm
def z3I (a b:Str):decide (Key.inr a=Key.inr b)=decide (a=b):=by
 by_cases e:a=b
 ·subst e;simp
 ·have h:¬Key.inr a=Key.inr b:=fun q=>e (Key.inr.inj q);rw[decide_eq_false h,decide_eq_false e]
def slot_none_hash:Slot "NoneType" "__hash__" "NoneType.__hash__" :=
 .of (owner:="NoneType") (n:="__hash__") (by rw[typeLookup_type];rw[builtinLookup_eq_fast];kernel_rfl) (by decide +kernel) (by decide +kernel) (by decide +kernel)
  (by first|exact .inl (by decide +kernel)|exact .inr (by decide +kernel)) (by rw[isSubtype_type] ;kernel_rfl)
def kS:entryFor table "NoneType.__hash__"=some Builtin.«NoneType.__hash__»:=entryFor_of_fast (by kernel_rfl)
def Zx (a:Value):argsOk "NoneType.__hash__" ⟨[a],[]⟩:=by unfold argsOk;kernel_rfl
def J7 {prog:Program}{w:World}{A:Around}{E:Value->Shared->Prop}{s:Shared}{Q:Int->Shared->Prop}(h:Q 0xFCA86420 { s with toks:=s.toks+1 }):wpAny (model prog w) A (pyHash .none) Q E s:=by
 have hT:s.TypeIs .none "NoneType":=rfl;show wpAny _ _ (pyHashByItsType .none) Q E s;unfold pyHashByItsType;refine wpAny_bind ?_;rw[cRoomFor,if_neg (by decide)];refine wpAny_pure (wpAny_bind (wpAny_specialOf hT slot_none_hash.lookup ?_));rw[if_neg (by decide)];refine wpAny_bind (wpAny_specialOf hT slot_none_hash.lookup ?_);rw[if_neg (by decide)];refine wpAny_bind (wpAny_callSpecialIfBoundUnlessNone?_slot hT slot_none_hash (wpAny_call_entry slot_none_hash hT kS ?_ (Zx _)));show wpAny _ _ (do ret (<-mkInt 0xFCA86420)) _ _ s;refine wpAny_ret_mkInt ?_;show wpAny _ _ (pyHashByItsType.reduced 0xFCA86420) Q E _;unfold pyHashByItsType.reduced;rw[if_pos (by decide)];exact wpAny_pure h
def wF (prog:Program)(w:World):PySem.KeyKind prog w Key where
 is:=YO
 hash:=z6L w
 inj:=fun v a b ha hb=>by
  rcases yW ha with⟨i,t,rfl,rfl⟩|⟨x,t,rfl,rfl⟩|⟨rfl,rfl⟩
  ·rcases yW hb with⟨j,u,rfl,e⟩|⟨y,u,rfl,e⟩|⟨rfl,e⟩
   ·injection e with e1 _;rw[e1]
   ·exact nomatch e
   ·exact nomatch e
  ·rcases yW hb with⟨j,u,rfl,e⟩|⟨y,u,rfl,e⟩|⟨rfl,e⟩
   ·exact nomatch e
   ·injection e with e1 _;rw[e1]
   ·exact nomatch e
  ·rcases yW hb with⟨j,u,rfl,e⟩|⟨y,u,rfl,e⟩|⟨rfl,e⟩
   ·exact nomatch e
   ·exact nomatch e
   ·rfl
 byValue:=fun k v h=>by
  rcases yW h with⟨i,t,rfl,rfl⟩|⟨x,t,rfl,rfl⟩|⟨rfl,rfl⟩<;>rfl
 pyHash:=fun hv h=>by
  rcases yW hv with⟨i,t,rfl,rfl⟩|⟨x,t,rfl,rfl⟩|⟨rfl,rfl⟩
  ·exact wpAny_pyHash_int h
  ·exact wpAny_pyHash_str h
  ·exact J7 h
 eqBool:=fun hu hv h=>by
  rcases yW hu with⟨i,t,rfl,rfl⟩|⟨x,t,rfl,rfl⟩|⟨rfl,rfl⟩
  ·rcases yW hv with⟨j,u,rfl,rfl⟩|⟨y,u,rfl,rfl⟩|⟨rfl,rfl⟩
   ·rw[z4w]at h;exact wpAny_eqBool_int h
   ·rw[decide_eq_false (by intro q;cases q)]at h;exact SeqAt.EqAt.int_str i t y u _ _ _ _ h
   ·rw[decide_eq_false (by intro q;cases q)]at h;exact SeqAt.EqAt.int_none i t _ _ _ _ h
  ·rcases yW hv with⟨j,u,rfl,rfl⟩|⟨y,u,rfl,rfl⟩|⟨rfl,rfl⟩
   ·rw[decide_eq_false (by intro q;cases q)]at h;exact SeqAt.EqAt.str_int x t j u _ _ _ _ h
   ·rw[z3I]at h;exact wpAny_eqBool_str h
   ·rw[decide_eq_false (by intro q;cases q)]at h;exact SeqAt.EqAt.str_none x t _ _ _ _ h
  ·rcases yW hv with⟨j,u,rfl,rfl⟩|⟨y,u,rfl,rfl⟩|⟨rfl,rfl⟩
   ·rw[decide_eq_false (by intro q;cases q)]at h;exact SeqAt.EqAt.none_int j u _ _ _ _ h
   ·rw[decide_eq_false (by intro q;cases q)]at h;exact SeqAt.EqAt.none_str y u _ _ _ _ h
   ·rw[decide_eq_true rfl]at h;exact SeqAt.EqAt.same .none _ _ _ _ h
 «strs»:=fun k x t v h=>by
  rcases yW h with⟨i,u,rfl,e⟩|⟨y,u,rfl,e⟩|⟨rfl,e⟩
  ·exact nomatch e
  ·injection e with e1 _;subst e1;cases v<;>rfl
  ·exact nomatch e
def V8 (prog:Program)(w:World)(i:Int)(t:Tok):(wF prog w).is (.inl i) (.int i t)=true:=J2 i t
def V4 (prog:Program)(w:World)(x:Str)(t:Tok):(wF prog w).is (.inr x) (.str x t)=true:=QW x t
def Vj (prog:Program)(w:World):(wF prog w).is .non .none=true:=rfl
inductive V where
 | non | bl (b:Bool) | int (i:Int) | str (x:Str) | byt (b:Array UInt8) | flt (b:UInt64) | ref (a:Addr) | ty (n:String)
 deriving DecidableEq
def RelV:V->Value->Prop
 | .non,u=>u=Value.none
 | .bl b,u=>u=Value.bool b
 | .int i,u=>∃t,u=Value.int i t
 | .str x,u=>∃t,u=Value.str x t
 | .byt b,u=>∃t,u=Value.bytes b t
 | .flt b,u=>∃t,u=Value.float b t
 | .ref a,u=>u=Value.ref a
 | .ty n,u=>u=Value.type n
abbrev Vals:List V->List Value->Prop:=Paired RelV
def Vals.length {xs:List V}{us:List Value}(r:Vals xs us):xs.length=us.length:=Paired.length r
def Vals.get:∀ {xs:List V} {us:List Value} {i:Nat} {x:V},Vals xs us->xs[i]?=some x->∃u,us[i]?=some u/\RelV x u
 | _,_,_,_,.nil,e=>by simp at e
 | _,_,0,_,.cons r _,e=>by simp at e;subst e;exact⟨_,rfl,r⟩
 | _,_,i+1,x,.cons _ t,e=>by
  obtain⟨u,h1,h2⟩:=Vals.get (i:=i) (x:=x) t (by simpa using e);exact⟨u,by simpa using h1,h2⟩
def Vals.set {x:V}{u:Value}(r:RelV x u):∀ {xs:List V} {us:List Value} (i:Nat),Vals xs us->Vals (xs.set i x) (us.set i u)
 | _,_,_,.nil=>.nil
 | _,_,0,.cons _ t=>.cons r t
 | _,_,i+1,.cons q t=>.cons q (Vals.set r i t)
def Vals.append:∀ {xs ys:List V} {us ws:List Value},Vals xs us->Vals ys ws->Vals (xs++ys) (us++ws)
 | _,_,_,_,.nil,s=>s
 | _,_,_,_,.cons r t,s=>.cons r (Vals.append t s)
def Vals.take:∀ {xs:List V} {us:List Value} (n:Nat),Vals xs us->Vals (xs.take n) (us.take n)
 | _,_,0,_=>.nil
 | _,_,_+1,.nil=>.nil
 | _,_,n+1,.cons r t=>.cons r (Vals.take n t)
def Vals.drop:∀ {xs:List V} {us:List Value} (n:Nat),Vals xs us->Vals (xs.drop n) (us.drop n)
 | _,_,0,r=>r
 | _,_,_+1,.nil=>.nil
 | _,_,n+1,.cons _ t=>Vals.drop n t
def RelO:Option V->Option Value->Prop
 | some v,some u=>RelV v u
 | none,none=>True
 | _,_=>False
def KV {κ:Type}:List (κ×V)->List (κ×Value)->Prop:=Paired fun (p:κ×V) (q:κ×Value)=>p.1=q.1/\RelV p.2 q.2
def kV:Key->V
 | .inl i=>.int i
 | .inr x=>.str x
 | .non=>.non
def TupN (h:Heap)(a:Addr)(items:Array Value):Prop:=∃o,h.get? a=some o/\o.cls=.type "tuple"/\(o.dict=none/\o.slots=#[])/\∃n,o.data=.seq items n
def TupN.tup {h:Heap}{a:Addr}{items:Array Value}(x:TupN h a items):IsTup h a items:=let ⟨o,ho,hc,_,n,hd⟩:=x;⟨o,ho,hc,n,hd⟩
def TupN.lt {h:Heap}{a:Addr}{items:Array Value}(x:TupN h a items):a<h.objs.size:=x.tup.lt
def TupN.new (h:Heap)(items:Array Value):TupN (h.push { cls:=.type "tuple",data:=.seq items }) h.objs.size items:=⟨_,jYd _ rfl,rfl,⟨rfl,rfl⟩,_,rfl⟩
inductive HO where
  | lst (xs:List V)
  | tup (xs:List V)
  | dK (kvs:List (Key×V)) | dT (kvs:List (List Key×V))
  | set (S:Int->Bool) (n:Nat)
  | ins (C dx:Addr) (fs:List (Str×V))
  | own (x:Addr)
  | xd (fs:List (Str×V))
  | met (f x:Addr)
  | rng (lo hi:Int)
  | frz (o:Obj) (u:HO)
  | tbl (ps:Array Value)
  | ext (φ:Heap->Prop)
abbrev Hp:=Addr->Option HO
def upd (H:Hp)(a:Addr)(o:HO):Hp:=fun b=>if b=a then some o else H b
def zT {H:Hp}{a:Addr}{o:HO}:upd H a o a=some o:=by unfold upd;rw[if_pos rfl]
def y8 {H:Hp}{a b:Addr}{o:HO}(h:b≠a):upd H a o b=H b:=by unfold upd;rw[if_neg h]
def Qr {H:Hp}{a b:Addr}{o u:HO}(h:H a=some o)(h':H b=some u)(d:o≠u):a≠b:=by
 intro e;subst e;rw[h]at h';exact d (jYe h')
def yx {H:Hp}{a b:Addr}{o:HO}(h:H a=some o)(h':H b=none):a≠b:=by
 intro e;subst e;rw[h]at h';cases h'
section
variable (P:Program)(w:World)
def ObjOk (H:Hp)(h:Heap)(a:Addr):HO->Prop
 | .lst xs=>xs.length<=sizeLine/\∃(its:List Value) (n:Nat),Vals xs its/\h.get? a=some { cls:=.type "list",data:=.seq its.toArray n }
 | .tup xs=>xs.length<=sizeLine/\∃its:List Value,Vals xs its/\TupN h a its.toArray
 | .dK kvs=>kvs.length<=sizeLine/\(a==sysModules)=false/\∃vs,KV kvs vs/\h.DictOf (wF P w) a vs
 | .dT kvs=>kvs.length<=sizeLine/\(a==sysModules)=false/\∃xs:List (List Key×Addr×Value),
   Paired (fun (p:List Key×V) (q:List Key×Addr×Value)=>p.1=q.1/\H q.2.1=some (.tup (p.1.map kV))/\RelV p.2 q.2.2) kvs xs /\
   ∃o es ep,h.get? a=some o/\o.ExactDict/\o.data=.dict es ep/\es.toList=xs.map (entryOfKey (tupleKind (wF P w)))/\(xs.map (·.1)).Nodup
 | .set S n=>h.SetOf (intKind P w) a S n
 | .ins C dx fs=>H dx=some (.own a)/\fs.length<=1000/\dx≠a/\h.get? a=some (jJo C dx) /\
   ∃mA,h.Ns1 dx mA/\(∀f,RelO (fs.lookup f) (mA f))/\PySem.Within mA (fs.map (·.1))
 | .own _=>∃o,h.get? a=some o
 | .xd fs=>∃mA,h.Ns1 a mA/\∀f,RelO (fs.lookup f) (mA f)
 | .rng lo hi=>∃t u v,h.get? a=some { cls:=.type "range",data:=.fields #[.int lo t,.int hi u,.int 1 v] }
 | .frz o u=>h.get? a=some o/\ObjOk H h a u
 | .tbl ps=>h.get? a=some { cls:=.none,data:=.fields ps }
 | .met f x=>h.get? a=some (jJp (.ref f) (.ref x))
 | .ext φ=>φ h/\(∃o,h.get? a=some o)/\∀h1 h2:Heap,φ h1->(∀o,h1.get? a=some o->h2.get? a=some o)->φ h2
def HOk (H:Hp)(h:Heap):Prop:=∀a o,H a=some o->ObjOk P w H h a o
end
section
variable {P:Program}{w:World}{H H':Hp}{h h':Heap}{a:Addr}{o:HO}
def ObjOk.lt (x:ObjOk P w H h a o):a<h.objs.size:=by
 cases o with
 | lst xs=>obtain⟨_,_,_,_,e⟩:=x;exact jYc e
 | tup xs=>obtain⟨_,_,_,p⟩:=x;exact p.lt
 | dK kvs=>obtain⟨_,_,_,_,o,_,_,e,_⟩:=x;exact jYc e
 | dT kvs=>obtain⟨_,_,_,_,o,_,_,e,_⟩:=x;exact jYc e
 | set S n=>obtain⟨o,_,_,_,e,_⟩:=x;exact jYc e
 | ins C dx fs=>obtain⟨_,_,_,e,_⟩:=x;exact jYc e
 | own y=>obtain⟨_,e⟩:=x;exact jYc e
 | xd fs=>obtain⟨_,⟨_,_,_,e,_⟩,_⟩:=x;exact jYc e
 | rng lo hi=>obtain⟨_,_,_,e⟩:=x;exact jYc e
 | frz ob u=>obtain⟨e,_⟩:=x;exact jYc e
 | tbl ps=>exact jYc (show h.get? a=some _ from x)
 | met f y=>exact jYc (show h.get? a=some _ from x)
 | ext φ=>obtain⟨_,⟨_,e⟩,_⟩:=x;exact jYc e
def Paired.mapP {α β:Type}{F G:α->β->Prop}:∀ {l₁:List α} {l₂:List β},Paired F l₁ l₂->(∀a b,F a b->G a b)->Paired G l₁ l₂
 | _,_,.nil,_=>.nil
 | _,_,.cons r t,f=>.cons (f _ _ r) (Paired.mapP t f)
def ObjOk.stay (x:ObjOk P w H h a o)(k:∀b u,(b=a\/H b=some (.own a))->h.get? b=some u->h'.get? b=some u)
  (ho:∀b,H b=some (.own a)->H' b=some (.own a)) (ht:∀b xs,H b=some (.tup xs)->H' b=some (.tup xs)):ObjOk P w H' h' a o:=by
 induction o with
 | lst xs=>obtain⟨z,its,n,r,e⟩:=x;exact⟨z,its,n,r,k _ _ (.inl rfl) e⟩
 | tup xs=>obtain⟨z,its,r,ob,e,c⟩:=x;exact⟨z,its,r,ob,k _ _ (.inl rfl) e,c⟩
 | dK kvs=>obtain⟨z,y,vs,r,ob,es,ep,e,c⟩:=x;exact⟨z,y,vs,r,ob,es,ep,k _ _ (.inl rfl) e,c⟩
 | dT kvs =>
  obtain⟨z,y,xs,r,ob,es,ep,e,c⟩:=x;exact⟨z,y,xs,Paired.mapP r fun p q z=>⟨z.1,ht _ _ z.2.1,z.2.2⟩,ob,es,ep,k _ _ (.inl rfl) e,c⟩
 | set S n=>obtain⟨ob,es,ep,t,e,c⟩:=x;exact⟨ob,es,ep,t,k _ _ (.inl rfl) e,c⟩
 | ins C dx fs =>
  obtain⟨d,z,ne,e,mA,⟨od,es,ep,e2,c⟩,r⟩:=x;exact⟨ho _ d,z,ne,k _ _ (.inl rfl) e,mA,⟨od,es,ep,k _ _ (.inr d) e2,c⟩,r⟩
 | own y=>obtain⟨ob,e⟩:=x;exact⟨ob,k _ _ (.inl rfl) e⟩
 | xd fs=>obtain⟨mA,⟨od,es,ep,e,c⟩,r⟩:=x;exact⟨mA,⟨od,es,ep,k _ _ (.inl rfl) e,c⟩,r⟩
 | rng lo hi=>obtain⟨t,u,v,e⟩:=x;exact⟨t,u,v,k _ _ (.inl rfl) e⟩
 | frz ob u ih=>obtain⟨e,q⟩:=x;exact⟨k _ _ (.inl rfl) e,ih q⟩
 | tbl ps =>
  have e:h.get? a=some { cls:=.none,data:=.fields ps }:=x;show h'.get? a=some { cls:=.none,data:=.fields ps };exact k a _ (.inl rfl) e
 | met f y =>
  have e:h.get? a=some (jJp (.ref f) (.ref y)):=x;show h'.get? a=some (jJp (.ref f) (.ref y));exact k a _ (.inl rfl) e
 | ext φ=>obtain⟨p,⟨o,e⟩,st⟩:=x;exact⟨st _ _ p fun o q=>k _ _ (.inl rfl) q,⟨o,k _ _ (.inl rfl) e⟩,st⟩
def HOk.lt (x:HOk P w H h)(e:H a=some o):a<h.objs.size:=(x a o e).lt
def HOk.fresh (x:HOk P w H h)(e:h.objs.size<=a):H a=none:=by
 cases q:H a with
 | none=>rfl
 | some u=>exact absurd (sU (x.lt q) e) (pN _)
def HOk.kept (x:HOk P w H h)(k:∀b u,h.get? b=some u->h'.get? b=some u):HOk P w H h':=fun a o e =>
 (x a o e).stay (fun b u _ q=>k b u q) (fun _ q=>q) fun _ _ q=>q
def HOk.laid (x:HOk P w H h)(k:∀b u,h.get? b=some u->h'.get? b=some u)(hp:h.objs.size<=a)(new:ObjOk P w (upd H a o) h' a o):HOk P w (upd H a o) h':=fun b u e=>by
 have hn:=x.fresh hp
 by_cases hb:b=a
 ·subst hb;rw[zT]at e;cases e;exact new
 ·rw[y8 hb]at e;exact (x b u e).stay (fun c v _ q=>k c v q) (fun c q=>by rw[y8 (yx q hn)];exact q) fun c xs q=>by rw[y8 (yx q hn)];exact q
end
def Rd (H:Hp)(a:Addr)(u:HO):Prop:=H a=some u\/∃o,H a=some (.frz o u)
def Rd.of {H:Hp}{a:Addr}{u:HO}(h:H a=some u):Rd H a u:=.inl h
def Rd.ok {P:Program}{w:World}{H:Hp}{h:Heap}{a:Addr}{u:HO}(r:Rd H a u)(x:HOk P w H h):ObjOk P w H h a u:=by
 rcases r with r|⟨o,r⟩
 ·exact x a u r
 ·obtain⟨_,q⟩:=x a _ r;exact q
def Mut:Option HO->Prop
 | some (.lst _)=>True
 | some (.dK _)=>True
 | some (.dT _)=>True
 | some (.set _ _)=>True
 | some (.ins _ _ _)=>True
 | some (.ext _)=>True
 | _=>False
section
variable {P:Program}{w:World}{H:Hp}{h h':Heap}{x e:Addr}{o':HO}
def HOk.write (ok:HOk P w H h)(mu:Mut (H x))(he:e=x\/H e=some (.own x))(k:∀b u,b≠e->h.get? b=some u->h'.get? b=some u)(heo:∃u,h'.get? e=some u)
  (new:ObjOk P w (upd H x o') h' x o'):HOk P w (upd H x o') h':=fun b u q=>by
 have nown:∀c y,H c=some (.own y)->c≠x:=fun c y r z=>by subst z;rw[r]at mu;exact mu
 have ntup:∀c xs,H c=some (.tup xs)->c≠x:=fun c xs r z=>by subst z;rw[r]at mu;exact mu
 by_cases hb:b=x
 ·subst hb;rw[zT]at q;cases q;exact new
 ·rw[y8 hb]at q
  by_cases hbe:b=e
  ·have q':H b=some (.own x):=by
    rcases he with z|z
    ·exact absurd (hbe.trans z) hb
    ·rw[hbe];exact z
   rw[q]at q';cases q';obtain⟨v,hv⟩:=heo;exact⟨v,by rw[hbe];exact hv⟩
  ·refine (ok b u q).stay (fun c v hc r=>k c v ?_ r) (fun c r=>by rw[y8 (nown c b r)];exact r) fun c xs r=>by rw[y8 (ntup c xs r)];exact r
   rcases hc with rfl|hc
   ·exact hbe
   ·rintro rfl;rcases he with z|z
    ·exact nown c b hc z
    ·rw[hc]at z;cases z;exact hb rfl
end
structure Un (fs ex:List Addr)(H H':Hp)(h h':Heap):Prop where
 keep:∀b o,h.get? b=some o->H b=none->b∉fs->b∉ex->h'.get? b=some o
 slot:∀b o,h.get? b=some o->H b=none->b∈fs->b∉ex->∃sl,h'.get? b=some { o with slots:=sl }
 free:∀b o,h.get? b=some o->H b=none->b∉ex->H' b=none
 there:∀b o,h.get? b=some o->b∉ex->∃o',h'.get? b=some o'
 tups:∀b xs,H b=some (.tup xs)->H' b=some (.tup xs)
 frzs:∀b o u,H b=some (.frz o u)->H' b=some (.frz o u)
 tbls:∀b ps,H b=some (.tbl ps)->∃more,H' b=some (.tbl (ps++more))
section
variable {fs fs' ex ex':List Addr}{H H1 H2:Hp}{h h1 h2 h':Heap}{a x e:Addr}{o:HO}
def Un.any (u:Un fs ex H H1 h h1){b:Addr}{ob:Obj}(q:h.get? b=some ob)(n:H b=none)(hx:b∉ex):∃sl,h1.get? b=some { ob with slots:=sl }:=by
 by_cases hb:b∈fs
 ·exact u.slot b ob q n hb hx
 ·exact⟨ob.slots,u.keep b ob q n hb hx⟩
def Un.trans (a:Un fs ex H H1 h h1)(b:Un fs ex H1 H2 h1 h2):Un fs ex H H2 h h2 where
 keep:=fun c ob q n hc hx=>b.keep c ob (a.keep c ob q n hc hx) (a.free c ob q n hx) hc hx
 slot:=fun c ob q n hc hx=>by
  obtain⟨sl,e1⟩:=a.slot c ob q n hc hx;obtain⟨sl',e2⟩:=b.slot c _ e1 (a.free c ob q n hx) hc hx;exact⟨sl',e2⟩
 free:=fun c ob q n hx=>by
  obtain⟨o',e1⟩:=a.there c ob q hx;exact b.free c o' e1 (a.free c ob q n hx) hx
 there:=fun c ob q hx=>by
  obtain⟨o',e1⟩:=a.there c ob q hx;exact b.there c o' e1 hx
 tups:=fun c xs q=>b.tups c xs (a.tups c xs q)
 frzs:=fun c ob xs q=>b.frzs c ob xs (a.frzs c ob xs q)
 tbls:=fun c ps q=>by
  obtain⟨m1,e1⟩:=a.tbls c ps q;obtain⟨m2,e2⟩:=b.tbls c _ e1;exact⟨m1++m2,by rw[e2,Array.append_assoc]⟩
def Un.kept (k:∀b u,h.get? b=some u->h'.get? b=some u):Un fs ex H H h h' :=
 ⟨fun b ob q _ _ _=>k b ob q,fun b ob q _ _ _=>⟨ob.slots,k b ob q⟩,fun _ _ _ n _=>n,fun b ob q _=>⟨ob,k b ob q⟩,fun _ _ q=>q,fun _ _ _ q=>q,fun _ ps q=>⟨#[],by rw[q];simp⟩⟩
def Un.refl:Un fs ex H H h h:=Un.kept fun _ _ q=>q
def Un.laid (k:∀b u,h.get? b=some u->h'.get? b=some u)(hp:h.objs.size<=a)(hn:H a=none):Un fs ex H (upd H a o) h h' where
 keep:=fun b u q _ _ _=>k b u q
 slot:=fun b u q _ _ _=>⟨u.slots,k b u q⟩
 free:=fun b u q n _=>by rw[y8 (rB (sU (jYc q) hp))];exact n
 there:=fun b u q _=>⟨u,k b u q⟩
 tups:=fun b xs q=>by rw[y8 (yx q hn)];exact q
 frzs:=fun b u xs q=>by rw[y8 (yx q hn)];exact q
 tbls:=fun b ps q=>⟨#[],by rw[y8 (yx q hn),q];simp⟩
def Un.write (mu:Mut (H x))(he:e=x\/H e=some (.own x))(k:∀b u,b≠e->h.get? b=some u->h'.get? b=some u)(heo:∃u,h'.get? e=some u):Un fs ex H (upd H x o) h h':=by
 have hx:∀b,H b=none->b≠x:=fun b n z=>by subst z;rw[n]at mu;exact mu
 have hb:∀b,H b=none->b≠e:=fun b n z=>by
  subst z;rcases he with r|r
  ·exact hx b n r
  ·rw[n]at r;cases r
 have hm:∀b u,H b=some u->¬Mut (some u)->b≠x:=fun b u q nm z=>by subst z;rw[q]at mu;exact nm mu
 refine⟨fun b u q n _ _=>k b u (hb b n) q,fun b u q n _ _=>⟨u.slots,k b u (hb b n) q⟩,fun b u q n _=>by rw[y8 (hx b n)];exact n,fun b u q _=>?_,
  fun b xs q=>by rw[y8 (hm b _ q fun z=>z)];exact q,fun b u xs q=>by rw[y8 (hm b _ q fun z=>z)];exact q,fun b ps q=>⟨#[],by rw[y8 (hm b _ q fun z=>z),q];simp⟩⟩
 by_cases hbe:b=e
 ·subst hbe;exact heo
 ·exact⟨u,k b u hbe q⟩
def Un.mono (u:Un fs ex H H1 h h1)(hs:∀b∈fs,b∈fs')(hx:∀b∈ex,b∈ex'):Un fs' ex' H H1 h h1:=
 ⟨fun b ob q n hb he=>u.keep b ob q n (fun z=>hb (hs b z)) fun z=>he (hx b z),fun _ _ q n _ he=>u.any q n fun z=>he (hx _ z),fun b ob q n he=>u.free b ob q n fun z=>he (hx b z),fun b ob q he=>u.there b ob q fun z=>he (hx b z),u.tups,u.frzs,u.tbls⟩
end
def trk (h:Heap)(H:Hp):List Addr:=(List.range h.objs.size).filter fun a=>(H a).isSome
def XR (h:Heap)(H:Hp):Heap:=PySem.W.hideAll h (trk h H)
def Jn (h:Heap)(H:Hp):(XR h H).objs.size=h.objs.size:=PySem.W.hideAll_size _ _
def Ka {h:Heap}{H:Hp}{b:Addr}{o:Obj}(e:h.get? b=some o)(n:H b=none):(XR h H).get? b=some o:=
 jJy _ e fun hm=>by
  have q:(H b).isSome=true:=(List.mem_filter.mp hm).2;rw[n]at q;simp at q
def z1r {h:Heap}{H:Hp}{b:Addr}{o:Obj}(e:(XR h H).get? b=some o):h.get? b=some o/\H b=none:=by
 have e':h.get? b=some o:=jJz (trk h H) e;refine⟨e',?_⟩;cases q:H b with
 | none=>rfl
 | some x =>
  have hm:b∈trk h H:=List.mem_filter.mpr ⟨hX.mpr (jYc e'),by simp[q]⟩;have z:(XR h H).get? b=none:=PySem.W.hideAll_none (trk h H) hm;rw[z]at e;cases e
def z1y (g h:Heap)(L:Addr):List (Addr×Obj):=(List.range h.objs.size).filterMap fun a=>if a=L\/(g.get? a).isSome=true then none else (h.get? a).map fun o=>(a,o)
def rest (g h:Heap)(L d:Addr):List (Addr×Obj):=(z1y g h L).filter fun p=>decide (p.1≠d)
structure Mod (K:jJa)(mg:Str->Option Value)(base:Heap):Prop where
 kin:K.In base
 glob:base.Ns mainGlobals mg
 blt:∃mb,base.Ns builtinsNs mb/\∀x:Str,x≠"__name__"->mb x=bootBuiltins x
 nolimit:base.NoLimit
structure Cx where
 prog:Program
 w:World
 K:jJa
 mg:Str->Option Value
 base:Heap
 A:Around
 N:List Str
 s₀:Shared
 H₀:Hp
 env:Env
 outer:List Env
 stack:List Env
 ex:List Addr
 fn:Str->Bool
 calm:Bool
 pn:List (Addr×Obj)
 xe:Value->Shared->Prop
def frs (l:List Env):List Addr:=l.filterMap (·.frame)
abbrev Cx.fs (X:Cx):List Addr:=frs X.outer
def Vis (sc:Scope)(x:Str):Prop:=sc.names.lookup x=some .local\/sc.names.lookup x=some .cell\/sc.names.lookup x=some .free
def Loc (sc:Scope)(x:Str):Prop:=sc.names.lookup x=some .local\/sc.names.lookup x=some .cell
def z34 (env:Env)(h:Heap)(m:Str->Option Value)(x:Str)(u:Value):Prop:=
 (env.kindOf x=some .local/\m x=some u)\/((env.kindOf x=some .cell\/env.kindOf x=some .free)/\∃c,env.cells.lookup x=some c/\h.IsCell c (some u))
structure Cx.Ok (X:Cx):Prop where
 mod:Mod X.K X.mg X.base
 kind:X.env.scope.kind=.function
 glob:X.env.globals=mainGlobals
 blt:X.env.builtins=builtinsNs
 above:X.s₀.heap.objs.size<=X.env.locals
 inj:∀x y c,X.env.cells.lookup x=some c->X.env.cells.lookup y=some c->x=y
 has:∀x,(X.env.kindOf x=some .cell\/X.env.kindOf x=some .free)->∃c,X.env.cells.lookup x=some c
 cab:∀x c,X.fn x=true->X.env.cells.lookup x=some c->X.s₀.heap.objs.size<=c
 hd:X.calm=true->X.A.handled=none
 frames:X.A.frames=some X.stack
 stk:X.stack=X.outer\/(X.stack=X.env::X.outer/\X.env.frame=some X.env.locals)
 exf:∀b∈X.ex,b≠X.env.locals/\∀x c,X.env.cells.lookup x=some c->c≠b
 bs:∀b o,X.base.get? b=some o->X.s₀.heap.get? b=some o/\X.H₀ b=none
 bsz:X.base.objs.size<=X.s₀.heap.objs.size
 noex:∀b o,X.base.get? b=some o->b∉X.ex
 exfs:∀b∈X.ex,b∉X.fs
 funs:X.s₀.heap.FunFrames X.base X.outer
 frf:∀b∈X.fs,X.H₀ b=none
structure Inv (X:Cx)(pins:List (Addr×Obj))(σ:List (Option V))(H:Hp)(s:Shared):Prop where
 ok:X.Ok
 os:s.os=X.s₀.os
 bare:AllBare s.gens
 base:Un X.fs X.ex X.H₀ H X.s₀.heap s.heap
 loc:∃m,s.heap.Ns X.env.locals m/\∀(i:Nat) (x:Str) (v:V),X.N[i]?=some x->σ[i]?=some (some v)->Vis X.env.scope x->∃u,RelV v u/\z34 X.env s.heap m x u
 cell:∀x c,X.env.cells.lookup x=some c->∃v,s.heap.IsCell c v
 free:H X.env.locals=none
 freeC:∀x c,X.env.cells.lookup x=some c->H c=none
 pin:∀p∈X.pn++pins,s.heap.get? p.1=some p.2/\H p.1=none/\p.1≠X.env.locals/\p.1∉X.fs/\∀v,p.2.data≠.cell v
 hok:HOk X.prog X.w H s.heap
 len:σ.length=X.N.length
section
variable {X:Cx}{pins:List (Addr×Obj)}{σ:List (Option V)}{H H':Hp}{s:Shared}{h':Heap}
def Cx.Ok.nofr (ok:X.Ok){b:Addr}{o:Obj}(e:X.base.get? b=some o):b∉X.fs:=fun hb=>by
 have:=(ok.funs.mem hb).1;rw[e]at this;cases this
def Inv.bs (I:Inv X pins σ H s):∀b o,X.base.get? b=some o->s.heap.get? b=some o/\H b=none:=fun b o e =>
 ⟨I.base.keep b o (I.ok.bs b o e).1 (I.ok.bs b o e).2 (I.ok.nofr e) (I.ok.noex b o e),I.base.free b o (I.ok.bs b o e).1 (I.ok.bs b o e).2 (I.ok.noex b o e)⟩
def Inv.bk (I:Inv X pins σ H s):∀b o,X.base.get? b=some o->s.heap.get? b=some o:=fun b o e=>(I.bs b o e).1
def Inv.mod (I:Inv X pins σ H s):Mod X.K X.mg X.base:=I.ok.mod
def Inv.kIn (I:Inv X pins σ H s):X.K.In s.heap:=I.ok.mod.kin.keeps I.bk
def Inv.nolimit (I:Inv X pins σ H s):s.heap.NoLimit:=I.ok.mod.nolimit.keeps I.bk
def Inv.fr (I:Inv X pins σ H s):∃m,Fr X.base X.env.locals s.heap m:=
 let ⟨m,hn,_⟩:=I.loc
 ⟨m,hn,I.bk,rD I.ok.bsz I.ok.above⟩
def Inv.lt (I:Inv X pins σ H s):X.env.locals<s.heap.objs.size:=let ⟨_,hn,_⟩:=I.loc;hn.lt
def Inv.sz (I:Inv X pins σ H s):X.s₀.heap.objs.size<=s.heap.objs.size:=rD I.ok.above (rJ I.lt)
def Inv.nofs (I:Inv X pins σ H s){a:Addr}(h:s.heap.objs.size<=a):a∉X.fs:=fun hb=>by
 obtain⟨_,o,ho,_⟩:=I.ok.funs.mem hb;exact absurd (sU (jYc ho) (rD I.sz h)) (pN _)
def Inv.cne (I:Inv X pins σ H s):∀x c,X.env.cells.lookup x=some c->c≠X.env.locals:=fun x c e z=>by
 obtain⟨v,o,ho,hd⟩:=I.cell x c e;obtain⟨m,⟨o',es,ep,ho',hd',_⟩,_⟩:=I.loc;rw[z,ho']at ho;cases ho;rw[hd']at hd;cases hd
def Inv.funs (I:Inv X pins σ H s):s.heap.FunFrames X.base X.outer:=by
 have all:∀(l:List Env),(∀b∈frs l,b∈X.fs)->X.s₀.heap.FunFrames X.base l->s.heap.FunFrames X.base l:=by
  intro l
  induction l with
  | nil=>intro _ _;trivial
  | cons env r ih =>
   intro hs hl;obtain⟨hk,⟨L,o,hf,hn,ho,hd⟩,hr⟩:=hl;have hL:L∈X.fs:=hs L (by unfold frs;rw[rH,hf];exact tN);obtain⟨sl,e⟩:=I.base.slot L o ho (I.ok.frf L hL) hL fun z=>I.ok.exfs L z hL;exact⟨hk,⟨L,_,hf,hn,e,hd⟩,ih (fun b hb=>hs b (by unfold frs;rw[rH,hf];exact tS _ hb)) hr⟩
 exact all X.outer (fun _ hb=>hb) I.ok.funs
def Inv.stack (I:Inv X pins σ H s):s.heap.FunFrames X.base X.stack:=by
 rcases I.ok.stk with e|⟨e,hf⟩
 ·rw[e];exact I.funs
 ·rw[e];obtain⟨m,hn,_⟩:=I.loc;refine .cons (by rw[I.ok.kind];decide) hf hn ?_ I.funs;exact Heap.get?_none_of_le (rD I.ok.bsz I.ok.above)
def Inv.stkSub (I:Inv X pins σ H s):∀b∈frs X.stack,b∈X.env.locals::X.fs:=fun b hb=>by
 rcases I.ok.stk with e|⟨e,hf⟩
 ·rw[e]at hb;exact tS _ hb
 ·rw[e]at hb;unfold frs at hb;rw[rH,hf]at hb;exact hb
def Inv.stkFree (I:Inv X pins σ H s):∀b∈frs X.stack,H b=none:=fun b hb=>by
 rcases sI.mp (I.stkSub b hb)with e|hb
 ·rw[e];exact I.free
 ·obtain⟨_,o,ho,_⟩:=I.ok.funs.mem hb;exact I.base.free b o ho (I.ok.frf b hb) fun z=>I.ok.exfs b z hb
def Inv.step {g':Array GenState}{t':Nat}{d':Drawn}{ch:List Addr}(I:Inv X pins σ H s)
  (hch:∀b∈ch,(b∈X.ex\/X.s₀.heap.objs.size<=b)/\b≠X.env.locals/\(∀x c,X.env.cells.lookup x=some c->c≠b)/\∀p∈X.pn++pins,p.1≠b)
  (keep:∀b o,b≠X.env.locals->b∉X.fs->b∉ch->s.heap.get? b=some o->H b=none->h'.get? b=some o)
  (slot:∀b o,b≠X.env.locals->b∈X.fs->b∉ch->s.heap.get? b=some o->H b=none->∃sl,h'.get? b=some { o with slots:=sl }) (free:∀b o,b∉ch->s.heap.get? b=some o->H b=none->H' b=none)
  (there:∀b o,b∉ch->s.heap.get? b=some o->∃o',h'.get? b=some o')
  (tups:∀b xs,H b=some (.tup xs)->H' b=some (.tup xs)) (frzs:∀b o u,H b=some (.frz o u)->H' b=some (.frz o u)) (tbls:∀b ps,H b=some (.tbl ps)->∃more,H' b=some (.tbl (ps++more)))
  (ns:∀m,s.heap.Ns X.env.locals m->h'.Ns X.env.locals m) (hok:HOk X.prog X.w H' h') (hg:AllBare g'):
  Inv X pins σ H' { s with heap:=h',gens:=g',drawn:=d',toks:=t' }:=by
 have neL:∀b o,X.s₀.heap.get? b=some o->b≠X.env.locals:=fun b o e=>rB (sU (jYc e) I.ok.above);have neC:∀b o,X.s₀.heap.get? b=some o->b∉X.ex->b∉ch:=fun b o e hx hb=>by
  rcases (hch b hb).1 with z|z
  ·exact hx z
  ·exact absurd (sU (jYc e) z) (pN _)
 have cellK:∀x c,X.env.cells.lookup x=some c->∀v,s.heap.IsCell c v->h'.IsCell c v:=fun x c e v ⟨o,ho,hd⟩=>by
  have nch:c∉ch:=fun z=>(hch c z).2.2.1 x c e rfl
  by_cases hc:c∈X.fs
  ·obtain⟨sl,q⟩:=slot c o (I.cne x c e) hc nch ho (I.freeC x c e);exact⟨_,q,hd⟩
  ·exact⟨o,keep c o (I.cne x c e) hc nch ho (I.freeC x c e),hd⟩
 refine⟨I.ok,I.os,hg,⟨fun b o e n hb hx=>?_,fun b o e n hb hx=>?_,fun b o e n hx=>?_,fun b o e hx=>?_,fun b xs e=>tups b xs (I.base.tups b xs e),fun b o xs e=>frzs b o xs (I.base.frzs b o xs e),fun b ps e=>?_⟩,?_,fun x c e=>?_,?_,fun x c e=>?_,fun p hp=>?_,hok,I.len⟩
 ·exact keep b o (neL b o e) hb (neC b o e hx) (I.base.keep b o e n hb hx) (I.base.free b o e n hx)
 ·obtain⟨sl,e1⟩:=I.base.slot b o e n hb hx;obtain⟨sl',e2⟩:=slot b _ (neL b o e) hb (neC b o e hx) e1 (I.base.free b o e n hx);exact⟨sl',e2⟩
 ·obtain⟨o',e1⟩:=I.base.there b o e hx;exact free b o' (neC b o e hx) e1 (I.base.free b o e n hx)
 ·obtain⟨o',e1⟩:=I.base.there b o e hx;exact there b o' (neC b o e hx) e1
 ·obtain⟨m1,e1⟩:=I.base.tbls b ps e;obtain⟨m2,e2⟩:=tbls b _ e1;exact⟨m1++m2,by rw[e2,Array.append_assoc]⟩
 ·obtain⟨m,hn,hl⟩:=I.loc;refine⟨m,ns m hn,fun i x v e1 e2 e3=>?_⟩;obtain⟨u,r,l⟩:=hl i x v e1 e2 e3;refine⟨u,r,?_⟩;rcases l with l|⟨k,c,e,z⟩
  ·exact .inl l
  ·exact .inr ⟨k,c,e,cellK x c e _ z⟩
 ·obtain⟨v,z⟩:=I.cell x c e;exact⟨v,cellK x c e v z⟩
 ·obtain⟨m,⟨o,_,_,ho,_⟩,_⟩:=I.loc;exact free _ o (fun z=>(hch _ z).2.1 rfl) ho I.free
 ·obtain⟨v,o,ho,hd⟩:=I.cell x c e;exact free c o (fun z=>(hch c z).2.2.1 x c e rfl) ho (I.freeC x c e)
 ·obtain⟨e,n,ne,nf,d⟩:=I.pin p hp;have nch:p.1∉ch:=fun z=>(hch p.1 z).2.2.2 p hp rfl;exact⟨keep p.1 p.2 ne nf nch e n,free p.1 p.2 nch e n,ne,nf,d⟩
def Inv.un {t':Nat}(I:Inv X pins σ H s)(u:Un X.fs [] H H' s.heap h')(hok:HOk X.prog X.w H' h'):Inv X pins σ H' { s with heap:=h',toks:=t' }:=by
 obtain⟨m,⟨o,es,ep,ho,r⟩,_⟩:=id I.loc;obtain⟨sl,hL⟩:=u.any ho I.free (by simp);exact I.step (g':=s.gens) (d':=s.drawn) (ch:=[]) (fun _ z=>nomatch z) (fun b o _ hb _ e n=>u.keep b o e n hb (by simp)) (fun b o _ hb _ e n=>u.slot b o e n hb (by simp)) (fun b o _ e n=>u.free b o e n (by simp)) (fun b o _ e=>u.there b o e (by simp)) u.tups u.frzs u.tbls (fun m' hm=>by
  obtain⟨o',es',ep',ho',r'⟩:=hm;rw[ho]at ho';cases ho';exact⟨_,es',ep',hL,r'⟩) hok I.bare
def Inv.call {g':Array GenState}{t':Nat}{d':Drawn}{ch:List Addr}(I:Inv X pins σ H s)(u:Un (frs X.stack) ch H H' s.heap h')(hok:HOk X.prog X.w H' h')(hg:AllBare g')
  (hch:∀b∈ch,(b∈X.ex\/X.s₀.heap.objs.size<=b)/\b≠X.env.locals/\(∀x c,X.env.cells.lookup x=some c->c≠b)/\∀p∈X.pn++pins,p.1≠b):
  Inv X pins σ H' { s with heap:=h',gens:=g',drawn:=d',toks:=t' }:=by
 obtain⟨m,⟨o,es,ep,ho,r⟩,_⟩:=id I.loc;obtain⟨sl,hL⟩:=u.any ho I.free fun z=>(hch _ z).2.1 rfl;exact I.step (ch:=ch) hch (fun b o hL hb hc e n=>u.keep b o e n (fun z=>(sI.mp (I.stkSub b z)).elim hL hb) hc) (fun b o _ _ hc e n=>u.any e n hc) (fun b o hc e n=>u.free b o e n hc) (fun b o hc e=>u.there b o e hc) u.tups u.frzs u.tbls (fun m' hm=>by
  obtain⟨o',es',ep',ho',r'⟩:=hm;rw[ho]at ho';cases ho';exact⟨_,es',ep',hL,r'⟩) hok hg
def Inv.turned {t':Nat}{it:Addr}(I:Inv X pins σ H s)(k:∀b o,b≠it->s.heap.get? b=some o->h'.get? b=some o)(hn:H it=none)(hL:it≠X.env.locals)
  (h1:it∈X.ex\/X.s₀.heap.objs.size<=it) (h2:∀x c,X.env.cells.lookup x=some c->c≠it) (h3:∀p∈X.pn++pins,p.1≠it):Inv X pins σ H { s with heap:=h',toks:=t' }:=by
 have nit:∀b u,H b=some u->b≠it:=fun b u e z=>by rw[z,hn]at e;cases e
 refine I.step (g':=s.gens) (d':=s.drawn) (ch:=[it]) (fun b hb=>?_) (fun b o _ _ hc e _=>k b o (fun z=>hc (by simp[z])) e) (fun b o _ _ hc e _=>⟨o.slots,k b o (fun z=>hc (by simp[z])) e⟩) (fun _ _ _ _ n=>n)
  (fun b o hc e=>⟨o,k b o (fun z=>hc (by simp[z])) e⟩) (fun _ _ e=>e) (fun _ _ _ e=>e) (fun b ps e=>⟨#[],by rw[e];simp⟩) (fun m hm=>?_) (fun b u e=>?_) I.bare
 ·have e:b=it:=by simpa using hb
  subst e;exact⟨h1,hL,h2,h3⟩
 ·obtain⟨o,es,ep,ho,r⟩:=hm;exact⟨o,es,ep,k _ o (Ne.symm hL) ho,r⟩
 ·refine (I.hok b u e).stay (fun c v hc q=>k c v ?_ q) (fun _ q=>q) fun _ _ q=>q;rcases hc with z|z
  ·rw[z];exact nit b u e
  ·exact nit c _ z
def Inv.tok (I:Inv X pins σ H s)(t:Nat):Inv X pins σ H { s with toks:=t }:=I.un (h':=s.heap) (t':=t) Un.refl I.hok
def Inv.kept {t':Nat}(I:Inv X pins σ H s)(k:∀b u,s.heap.get? b=some u->h'.get? b=some u):Inv X pins σ H { s with heap:=h',toks:=t' }:=I.un (Un.kept k) (I.hok.kept k)
def Inv.laid {a:Addr}{o:HO}{t':Nat}(I:Inv X pins σ H s)(k:∀b u,s.heap.get? b=some u->h'.get? b=some u)(hp:s.heap.objs.size<=a)(new:ObjOk X.prog X.w (upd H a o) h' a o):
  Inv X pins σ (upd H a o) { s with heap:=h',toks:=t' }:=I.un (Un.laid k hp (I.hok.fresh hp)) (I.hok.laid k hp new)
def Inv.write {x e:Addr}{o:HO}{t':Nat}(I:Inv X pins σ H s)(mu:Mut (H x))(he:e=x\/H e=some (.own x))(k:∀b u,b≠e->s.heap.get? b=some u->h'.get? b=some u)(heo:∃u,h'.get? e=some u)
  (new:ObjOk X.prog X.w (upd H x o) h' x o):Inv X pins σ (upd H x o) { s with heap:=h',toks:=t' }:=I.un (Un.write mu he k heo) (I.hok.write mu he k heo new)
def Inv.weak {σ':List (Option V)}(I:Inv X pins σ H s)(hl:σ'.length=σ.length)(w:∀(i:Nat) v,σ'[i]?=some (some v)->σ[i]?=some (some v)):Inv X pins σ' H s:=
 ⟨I.ok,I.os,I.bare,I.base,let ⟨m,hn,hl'⟩:=I.loc;⟨m,hn,fun i x v e1 e2 e3=>hl' i x v e1 (w i v e2) e3⟩,I.cell,I.free,I.freeC,I.pin,I.hok,hl.trans I.len⟩
def Inv.pins_of {pins':List (Addr×Obj)}(I:Inv X pins σ H s)(h:∀p∈pins',s.heap.get? p.1=some p.2/\H p.1=none/\p.1≠X.env.locals/\p.1∉X.fs/\∀v,p.2.data≠.cell v):Inv X pins' σ H s:=
 ⟨I.ok,I.os,I.bare,I.base,I.loc,I.cell,I.free,I.freeC,fun p hp=>(sC.mp hp).elim (fun z=>I.pin p (sE _ z)) (h p),I.hok,I.len⟩
def Zu {N:List Str}(hN:N.Nodup){i j:Nat}{x:Str}(a:N[i]?=some x)(b:N[j]?=some x):i=j:=by
 obtain⟨h1,e1⟩:=sN.mp a;obtain⟨h2,e2⟩:=sN.mp b;exact (List.getElem_inj hN).mp (e1.trans e2.symm)
def Xd {M:Model}{A:Around}{E:Value->Shared->Prop}{i:Nat}{x:Str}{v:V}{u:Value}{Q:Unit->Shared->Prop}(I:Inv X pins σ H s)(hN:X.N.Nodup)(hi:X.N[i]?=some x)(hx:Loc X.env.scope x)(r:RelV v u)
  (h:∀s',Inv X pins (σ.set i (some v)) H s'->(∃a,Heap.SameBut a s.heap s'.heap/\(a=X.env.locals\/X.env.cells.lookup x=some a))->Q () s') (hf:autoParam (X.fn x=true\/X.env.scope.names.lookup x=some .local) au0._auto_1):wpAny M A (storeName X.env x u) Q E s:=by
 obtain⟨m,hn,hl⟩:=id I.loc;have hcls:(X.env.scope.kind==.class||(X.env.scope.kind==.module&&X.env.locals != X.env.globals))=false:=by rw[I.ok.kind];rfl
 have hiσ:i<σ.length:=by rw[I.len];exact (sN.mp hi).1
 have cne:=I.cne;have tracked:∀ {a:Addr} {h':Heap},(∃o,s.heap.get? a=some o/\H a=none)->Heap.SameBut a s.heap h'->HOk X.prog X.w H h':=fun {a h'} ha hs b ob e=>by
  obtain⟨_,_,hfree⟩:=ha;refine (I.hok b ob e).stay (fun c w' hc q=>(hs.2 c ?_).trans q) (fun _ q=>q) fun _ _ q=>q;rintro rfl;rcases hc with rfl|hc
  ·rw[hfree]at e;cases e
  ·rw[hfree]at hc;cases hc
 rcases hx with hk|hk
 ·refine wpAny_storeName_local hk hn (fun h' hn' hs=>?_) hcls;obtain⟨oL,_,_,hoL,_⟩:=id hn;refine h _ ⟨I.ok,I.os,I.bare,⟨fun b o e n hb hx=>?_,fun b o e n hb hx=>?_,I.base.free,fun b o e hx=>?_,I.base.tups,I.base.frzs,I.base.tbls⟩,⟨_,hn',fun j y v' e1 e2 e3=>?_⟩,fun y c e=>?_,I.free,I.freeC,fun p hp=>?_,tracked ⟨oL,hoL,I.free⟩ hs,by simpa using I.len⟩ ⟨_,hs,.inl rfl⟩
  ·exact (hs.2 b (rB (sU (jYc e) I.ok.above))).trans (I.base.keep b o e n hb hx)
  ·obtain⟨sl,e1⟩:=I.base.slot b o e n hb hx;exact⟨sl,(hs.2 b (rB (sU (jYc e) I.ok.above))).trans e1⟩
  ·obtain⟨o',e1⟩:=I.base.there b o e hx;exact⟨o',(hs.2 b (rB (sU (jYc e) I.ok.above))).trans e1⟩
  ·by_cases hj:j=i
   ·subst hj;rw[hi]at e1;cases e1;rw[sP hiσ]at e2;cases e2;exact⟨u,r,.inl ⟨hk,by simp⟩⟩
   ·rw[sO (Ne.symm hj)]at e2;obtain⟨u',r',q⟩:=hl j y v' e1 e2 e3;refine⟨u',r',?_⟩;rcases q with⟨k,e⟩|⟨k,c,e,z⟩
    ·refine .inl ⟨k,?_⟩;have:y≠x:=fun e=>hj (Zu hN e1 (e▸hi));simp[this,e]
    ·exact .inr ⟨k,c,e,z.sameBut hs (cne y c e)⟩
  ·obtain⟨w',z⟩:=I.cell y c e;exact⟨w',z.sameBut hs (cne y c e)⟩
  ·obtain⟨e,n,ne,nf,d⟩:=I.pin p hp;exact⟨(hs.2 p.1 ne).trans e,n,ne,nf,d⟩
 ·have hfn:X.fn x=true:=by
   rcases hf with z|z
   ·exact z
   ·rw[z]at hk;cases hk
  obtain⟨c,hc⟩:=I.ok.has x (.inl hk);obtain⟨w',z⟩:=I.cell x c hc;refine wpAny_storeName_cell I.ok.kind hk hc z (fun h' hc' hs=>?_);obtain⟨oc,hoc,hocd⟩:=id z;refine h { s with heap:=h' } ⟨I.ok,I.os,I.bare,⟨fun b o e n hb hx=>?_,fun b o e n hb hx=>?_,I.base.free,fun b o e hx=>?_,I.base.tups,I.base.frzs,I.base.tbls⟩,⟨m,hn.sameBut hs (Ne.symm (cne x c hc)),fun j y v' e1 e2 e3=>?_⟩,fun y c' e=>?_,I.free,I.freeC,fun p hp=>?_,tracked ⟨oc,hoc,I.freeC x c hc⟩ hs,by simpa using I.len⟩ ⟨c,hs,.inr hc⟩
  ·exact (hs.2 b (rB (sU (jYc e) (I.ok.cab x c hfn hc)))).trans (I.base.keep b o e n hb hx)
  ·obtain⟨sl,e1⟩:=I.base.slot b o e n hb hx;exact⟨sl,(hs.2 b (rB (sU (jYc e) (I.ok.cab x c hfn hc)))).trans e1⟩
  ·obtain⟨o',e1⟩:=I.base.there b o e hx;exact⟨o',(hs.2 b (rB (sU (jYc e) (I.ok.cab x c hfn hc)))).trans e1⟩
  ·by_cases hj:j=i
   ·subst hj;rw[hi]at e1;cases e1;rw[sP hiσ]at e2;cases e2;exact⟨u,r,.inr ⟨.inl hk,c,hc,hc'⟩⟩
   ·rw[sO (Ne.symm hj)]at e2;obtain⟨u',r',q⟩:=hl j y v' e1 e2 e3;refine⟨u',r',?_⟩;rcases q with q|⟨k,c',e,z'⟩
    ·exact .inl q
    ·refine .inr ⟨k,c',e,z'.sameBut hs ?_⟩;rintro rfl;exact hj (Zu hN e1 (I.ok.inj _ _ _ e hc▸hi))
  ·by_cases hcc:c'=c
   ·subst hcc;exact⟨_,hc'⟩
   ·obtain⟨w2,z2⟩:=I.cell y c' e;exact⟨w2,z2.sameBut hs hcc⟩
  ·obtain⟨e,n,ne,nf,d⟩:=I.pin p hp;refine⟨(hs.2 p.1 ?_).trans e,n,ne,nf,d⟩;intro q;rw[q,hoc]at e;have q':oc=p.2:=jYe e;exact d w' (by rw[<-q'];exact hocd)
def jl {M:Model}{A:Around}{E:Value->Shared->Prop}{i:Nat}{x:Str}{v:V}{u:Value}{Q:Unit->Shared->Prop}(I:Inv X pins σ H s)(hN:X.N.Nodup)(hi:X.N[i]?=some x)(hx:Loc X.env.scope x)(r:RelV v u)
  (h:∀s',Inv X pins (σ.set i (some v)) H s'->Q () s') (hf:autoParam (X.fn x=true\/X.env.scope.names.lookup x=some .local) au0._auto_1):wpAny M A (storeName X.env x u) Q E s:=
 Xd I hN hi hx r (fun s' I' _=>h s' I') hf
def Inv.call' {s':Shared}{ch:List Addr}(I:Inv X pins σ H s)(ho:s'.os=s.os)(u:Un (frs X.stack) ch H H' s.heap s'.heap)(hok:HOk X.prog X.w H' s'.heap)(hg:AllBare s'.gens)
  (hch:∀b∈ch,(b∈X.ex\/X.s₀.heap.objs.size<=b)/\b≠X.env.locals/\(∀x c,X.env.cells.lookup x=some c->c≠b)/\∀p∈X.pn++pins,p.1≠b):Inv X pins σ H' s':=by
 obtain⟨h',g',d',t',o'⟩:=s';have e:o'=s.os:=ho;subst e;exact I.call (g':=g') (t':=t') (d':=d') u hok hg hch
end
abbrev XK:=Value->Option Addr->Hp->Prop
abbrev St:=List (Option V)
abbrev VK:=V->Hp->Prop
abbrev TE:=St->Hp->VK->Prop
abbrev TT:=St->Hp->(Bool->Hp->Prop)->Prop
abbrev TA:=St->Hp->(List V->Hp->Prop)->Prop
structure Ends where
 nx:St->Hp->Prop
 rt:VK
 bk:St->Hp->Prop:=fun _ _=>False
 ct:St->Hp->Prop:=fun _ _=>False
abbrev TS:=Ends->St->Hp->Prop
def EP (X:Cx)(pins:List (Addr×Obj))(σ:St)(Q:VK)(u:Value)(s':Shared):Prop:=∃v H',Inv X pins σ H' s'/\RelV v u/\Q v H'
def TP (X:Cx)(pins:List (Addr×Obj))(σ:St)(Q:Bool->Hp->Prop)(b:Bool)(s':Shared):Prop:=∃H',Inv X pins σ H' s'/\Q b H'
def AP (X:Cx)(pins:List (Addr×Obj))(σ:St)(Q:List V->Hp->Prop)(us:List Value)(s':Shared):Prop:=∃vs H',Inv X pins σ H' s'/\Vals vs us/\Q vs H'
def SP (X:Cx)(pins:List (Addr×Obj))(D:Ends)(f:Flow)(s':Shared):Prop:=
 match f with
 | .next=>∃σ' H',Inv X pins σ' H' s'/\D.nx σ' H'
 | .brk=>∃σ' H',Inv X pins σ' H' s'/\D.bk σ' H'
 | .cont=>∃σ' H',Inv X pins σ' H' s'/\D.ct σ' H'
 | .ret u=>∃v σ' H',Inv X pins σ' H' s'/\RelV v u/\D.rt v H'
def PE (X:Cx)(e:Expr)(t:TE):Prop:=
 ∀(pins:List (Addr×Obj)) (s:Shared) (σ:St) (H:Hp) (Q:VK),Inv X pins σ H s->t σ H Q->wpAny (model X.prog X.w) X.A (eval e X.env) (EP X pins σ Q) X.xe s
def PT (X:Cx)(e:Expr)(t:TT):Prop:=
 ∀(pins:List (Addr×Obj)) (s:Shared) (σ:St) (H:Hp) (Q:Bool->Hp->Prop),Inv X pins σ H s->t σ H Q->wpAny (model X.prog X.w) X.A (isTrue e X.env (eval e X.env)) (TP X pins σ Q) X.xe s
def PW (X:Cx)(e:Expr)(t:TT):Prop:=
 ∀(whole:Sem Value) (pins:List (Addr×Obj)) (s:Shared) (σ:St) (H:Hp) (Q:Bool->Hp->Prop),Inv X pins σ H s->t σ H Q->wpAny (model X.prog X.w) X.A (isTrue e X.env whole) (TP X pins σ Q) X.xe s
def PW.pt {X:Cx}{e:Expr}{t:TT}(h:PW X e t):PT X e t:=h _
def PA (X:Cx)(es:List Expr)(t:TA):Prop:=
 ∀(pos:Pos) (pins:List (Addr×Obj)) (s:Shared) (σ:St) (H:Hp) (Q:List V->Hp->Prop),Inv X pins σ H s->t σ H Q->wpAny (model X.prog X.w) X.A (spliced (backTo pos (starEach es X.env))) (AP X pins σ Q) X.xe s
def PS (X:Cx)(st:Stmt)(t:TS):Prop:=
 ∀(pins:List (Addr×Obj)) (s:Shared) (σ:St) (H:Hp) (D:Ends),Inv X pins σ H s->t D σ H->wpAny (model X.prog X.w) X.A (exec st X.env) (SP X pins D) X.xe s
def PSs (X:Cx)(st:List Stmt)(t:TS):Prop:=
 ∀(pins:List (Addr×Obj)) (s:Shared) (σ:St) (H:Hp) (D:Ends),Inv X pins σ H s->t D σ H->wpAny (model X.prog X.w) X.A (execs st X.env) (SP X pins D) X.xe s
def thn {α:Type}{t:Sem α}{Q Q':α->Shared->Prop}{M:Model}{A:Around}{E:Value->Shared->Prop}{s:Shared}(h:wpAny M A t Q E s)(hQ:∀a s,Q a s->Q' a s):wpAny M A t Q' E s:=wpAny_mono h hQ fun _ _ x=>x
section
variable {X:Cx}
def z1t (i:Nat):TE:=fun σ H Q=>∃v,σ[i]?=some (some v)/\Q v H
def tC (v:V):TE:=fun _ H Q=>Q v H
def ja {i:Nat}{x:Str}{pos:Pos}(hN:X.N[i]?=some x)(hv:Vis X.env.scope x)(hd:autoParam ((x==("__debug__":Str))=false) au1._auto_1)(hcd:autoParam ((x==("__classdict__":Str))=false) au1._auto_1):PE X (.Name x pos) (z1t i):=by
 intro pins s σ H Q I h;obtain⟨v,e,h⟩:=h;obtain⟨m,hn,hl⟩:=I.loc;obtain⟨u,r,l⟩:=hl i x v hN e hv;have fin:EP X pins σ Q u s:=⟨v,H,I,r,h⟩
 rcases l with⟨hk,hm⟩|⟨hk,c,hc,hcell⟩
 ·exact wpAny_Name (wpAny_loadName_local I.ok.kind hk hn hm fin) hd
 ·rcases hk with hk|hk
  ·exact wpAny_Name (wpAny_loadName_cell I.ok.kind hk hc hcell fin) hd
  ·exact wpAny_Name (wpAny_loadName_free I.ok.kind hk hc hcell fin hcd) hd
def U8 {i j pos}:PE X (.Constant (.int i) j pos) (tC (.int i)):=fun _ _ _ H _ I h=>wpAny_Constant_int ⟨.int i,H,I.tok _,⟨_,rfl⟩,h⟩
def JC {b j pos}:PE X (.Constant (.bool b) j pos) (tC (.bl b)):=fun _ _ _ H _ I h=>Constant_bool ⟨.bl b,H,I,rfl,h⟩
def z3H {j pos}:PE X (.Constant .none j pos) (tC .non):=fun _ _ _ H _ I h=>Constant_none ⟨.non,H,I,rfl,h⟩
def z4C {x j pos}:PE X (.Constant (.str x) j pos) (tC (.str x)):=fun _ _ _ H _ I h=>Calls.Constant_str ⟨.str x,H,I.tok _,⟨_,rfl⟩,h⟩
def Gl (X:Cx)(x:Str):Prop:=X.env.kindOf x=some .globalImplicit
def jI {E:Value->Shared->Prop}{pins:List (Addr×Obj)}{s:Shared}{σ:St}{H:Hp}{x:Str}{u:Value}{pos:Pos}{Q:Value->Shared->Prop}(I:Inv X pins σ H s)(hg:Gl X x)(hm:X.mg x=some u)(h:Q u s)
  (hd:autoParam ((x==("__debug__":Str))=false) au1._auto_1):wpAny (model X.prog X.w) X.A (eval (.Name x pos) X.env) Q E s:=
 Calls.Name_function_global I.ok.kind hg (Calls.loadGlobal_global (by rw[I.ok.glob];exact I.mod.glob.keeps I.bk) hm h) hd
def ZF {E:Value->Shared->Prop}{pins:List (Addr×Obj)}{s:Shared}{σ:St}{H:Hp}{x:Str}{u:Value}{pos:Pos}{Q:Value->Shared->Prop}(I:Inv X pins σ H s)(hg:Gl X x)(hm:X.mg x=none)(hv:bootBuiltins x=some u)(h:Q u s)
  (hn:autoParam (x≠"__name__") au1._auto_1) (hd:autoParam ((x==("__debug__":Str))=false) au1._auto_1):wpAny (model X.prog X.w) X.A (eval (.Name x pos) X.env) Q E s:=by
 obtain⟨mb,h1,h2⟩:=I.mod.blt;exact Calls.Name_function_global I.ok.kind hg (Calls.loadGlobal_builtin (by rw[I.ok.glob];exact I.mod.glob.keeps I.bk) hm (by rw[I.ok.blt];exact h1.keeps I.bk) ((h2 x hn).trans hv) h) hd
def wu {x:Str}{v:V}{u:Value}{pos:Pos}(hg:Gl X x)(hm:X.mg x=some u)(r:RelV v u)(hd:autoParam ((x==("__debug__":Str))=false) au1._auto_1):PE X (.Name x pos) (tC v):=
 fun _ _ _ H _ I h=>jI I hg hm ⟨v,H,I,r,h⟩ hd
def xQ {x:Str}{v:V}{u:Value}{pos:Pos}(hg:Gl X x)(hm:X.mg x=none)(hv:bootBuiltins x=some u)(r:RelV v u)(hn:autoParam (x≠"__name__") au1._auto_1)(hd:autoParam ((x==("__debug__":Str))=false) au1._auto_1):PE X (.Name x pos) (tC v):=
 fun _ _ _ H _ I h=>ZF I hg hm hv ⟨v,H,I,r,h⟩ hn hd
variable {a b:Expr}{ta tb:TE}{pos:Pos}
def tB (t:TE):TT:=fun σ H Q=>t σ H fun x H1=>∃c,x=.bl c/\Q c H1
def UA {e:Expr}{t:TE}(h:PE X e t)(he:autoParam (∀whole,isTrue e X.env whole=(do let v <-whole;standAt e.pos;holding [v] (truthy v))) au2._auto_1):PT X e (tB t):=by
 intro pins s σ H Q I hw;refine isTrue_plain (thn (h pins s σ H _ I hw) fun v s1 ⟨x,H1,I1,r1,q1⟩=>?_) (he _);obtain⟨d,rfl,q⟩:=q1;cases r1;exact wpAny_truthy_bool ⟨H1,I1,q⟩
variable {tA tB':TT}{rest:List Expr}
def z4X (t u:TT):TT:=fun σ H Q=>t σ H fun c H1=>if c=true then u σ H1 Q else Q false H1
def tOr (t u:TT):TT:=fun σ H Q=>t σ H fun c H1=>if c=true then Q true H1 else u σ H1 Q
def z5N (t:TT):TT:=fun σ H Q=>t σ H fun c H1=>Q (!c) H1
def z1P (ha:PT X a tA):PW X (.BoolOp .And [a] pos) tA:=by
 intro wh pins s σ H Q I h;refine isTrue_and (thn (ha pins s σ H Q I h) fun c s1 e=>?_);cases c with
 | true=>exact isTrue_and_nil e
 | false=>exact e
def z3c (ha:PT X a tA):PW X (.BoolOp .Or [a] pos) tA:=by
 intro wh pins s σ H Q I h;refine isTrue_or (thn (ha pins s σ H Q I h) fun c s1 e=>?_);cases c with
 | false=>exact isTrue_or_nil e
 | true=>exact e
def z3A (ha:PT X a tA)(hb:PW X (.BoolOp .And (b::rest) pos) tB'):PW X (.BoolOp .And (a::b::rest) pos) (z4X tA tB'):=by
 intro wh pins s σ H Q I h;refine isTrue_and (thn (ha pins s σ H _ I h) fun c s1 ⟨H1,I1,q1⟩=>?_);cases c with
 | true=>exact hb wh pins s1 σ H1 Q I1 q1
 | false=>exact⟨H1,I1,q1⟩
def z5B (ha:PT X a tA)(hb:PW X (.BoolOp .Or (b::rest) pos) tB'):PW X (.BoolOp .Or (a::b::rest) pos) (tOr tA tB'):=by
 intro wh pins s σ H Q I h;refine isTrue_or (thn (ha pins s σ H _ I h) fun c s1 ⟨H1,I1,q1⟩=>?_);cases c with
 | true=>exact⟨H1,I1,q1⟩
 | false=>exact hb wh pins s1 σ H1 Q I1 q1
def z3e (ha:PT X a tA):PT X (.UnaryOp .Not a pos) (z5N tA):=by
 intro pins s σ H Q I h;exact isTrue_not (ha pins s σ H (fun c H1=>Q (!c) H1) I h)
def z2U (ta tb:TE):TE:=fun σ H Q=>ta σ H fun x H1=>∃c,x=.bl c/\if c=true then tb σ H1 Q else Q (.bl false) H1
def Kk {op}{t:TE}(h:PE X a t):PE X (.BoolOp op [a] pos) t:=fun pins s σ H Q I hw=>BoolOp_one (h pins s σ H Q I hw)
def z0p (ha:PE X a ta)(hb:PE X (.BoolOp .And (b::rest) pos) tb):PE X (.BoolOp .And (a::b::rest) pos) (z2U ta tb):=by
 intro pins s σ H Q I h;refine BoolOp_and (thn (ha pins s σ H _ I h) fun v s1 ⟨x,H1,I1,r1,q1⟩=>?_);obtain⟨c,rfl,q1⟩:=q1;cases r1;refine wpAny_truthy_bool ?_;cases c with
 | true=>exact hb pins s1 σ H1 Q I1 q1
 | false=>exact⟨.bl false,H1,I1,rfl,q1⟩
end
def SqL (K:jJa)(H:Hp)(a:Addr)(xs:List V):Prop:=
 Rd H a (.lst xs) \/
  ∃(o:Obj) (its:Array Value) (n:Nat),K.lookup a=some o/\o.cls=.type "list"/\o.dict=none/\o.data=.seq its n/\its.size<=sizeLine/\Vals xs its.toList
def SqT (K:jJa)(H:Hp)(a:Addr)(xs:List V):Prop:=
 Rd H a (.tup xs) \/
  ∃(o:Obj) (its:Array Value) (n:Nat),K.lookup a=some o/\o.cls=.type "tuple"/\(o.dict=none/\o.slots=#[])/\o.data=.seq its n/\its.size<=sizeLine/\Vals xs its.toList
def z6v:Value->Option V
 | .none=>some .non
 | .bool b=>some (.bl b)
 | .int i _=>some (.int i)
 | .str x _=>some (.str x)
 | .bytes b _=>some (.byt b)
 | .float b _=>some (.flt b)
 | .ref a=>some (.ref a)
 | .type n=>some (.ty n)
 | _=>none
def RelV.abs {x:V}{u:Value}(r:RelV x u):z6v u=some x:=by
 cases x with
 | non=>cases r;rfl
 | bl _=>cases r;rfl
 | int _=>obtain⟨t,rfl⟩:=r;rfl
 | str _=>obtain⟨t,rfl⟩:=r;rfl
 | byt _=>obtain⟨t,rfl⟩:=r;rfl
 | flt _=>obtain⟨t,rfl⟩:=r;rfl
 | ref _=>cases r;rfl
 | ty _=>cases r;rfl
def RelV.inj {x y:V}{u:Value}(r:RelV x u)(q:RelV y u):x=y:=jYe (r.abs.symm.trans q.abs)
def Vals.inj:∀ {xs ys:List V} {us:List Value},Vals xs us->Vals ys us->xs=ys
 | _,_,_,.nil,.nil=>rfl
 | _,_,_,.cons r t,.cons r' t'=>by rw[r.inj r',Vals.inj t t']
section
variable {X:Cx}{pins:List (Addr×Obj)}{σ:St}{H:Hp}{s:Shared}{a:Addr}{xs ys:List V}
def SqL.of {K:jJa}(h:H a=some (.lst xs)):SqL K H a xs:=.inl (.inl h)
def SqT.of {K:jJa}(h:H a=some (.tup xs)):SqT K H a xs:=.inl (.inl h)
def Inv.list (I:Inv X pins σ H s)(h:SqL X.K H a xs):∃its:List Value,Vals xs its/\PlainL s.heap a its.toArray/\xs.length<=sizeLine:=by
 rcases h with h|⟨o,its,n,hk,hc,hd,hs,hz,r⟩
 ·obtain⟨z,its,n,r,e⟩:=h.ok I.hok;exact⟨its,r,⟨_,n,e,rfl,rfl,rfl⟩,z⟩
 ·refine⟨its.toList,r,⟨o,n,I.kIn a o hk,hc,hd,by simpa using hs⟩,?_⟩;have e:=r.length;simp only[Array.length_toList]at e;omega
def Inv.tuple (I:Inv X pins σ H s)(h:SqT X.K H a xs):∃its:List Value,Vals xs its/\IsTup s.heap a its.toArray/\xs.length<=sizeLine:=by
 rcases h with h|⟨o,its,n,hk,hc,_,hs,hz,r⟩
 ·obtain⟨z,its,r,p⟩:=h.ok I.hok;exact⟨its,r,p.tup,z⟩
 ·refine⟨its.toList,r,⟨o,I.kIn a o hk,hc,n,by simpa using hs⟩,?_⟩;have e:=r.length;simp only[Array.length_toList]at e;omega
def Inv.list_inj (I:Inv X pins σ H s)(h:SqL X.K H a xs)(h':SqL X.K H a ys):xs=ys:=by
 obtain⟨its,r,⟨o,n,e,_,_,d⟩,_⟩:=I.list h;obtain⟨its',r',⟨o',n',e',_,_,d'⟩,_⟩:=I.list h';rw[e]at e';cases e';rw[d]at d';injection d' with d1 _;have:its=its':=by simpa using congrArg Array.toList d1
 subst this;exact r.inj r'
def Inv.tuple_inj (I:Inv X pins σ H s)(h:SqT X.K H a xs)(h':SqT X.K H a ys):xs=ys:=by
 obtain⟨its,r,⟨o,e,_,n,d⟩,_⟩:=I.tuple h;obtain⟨its',r',⟨o',e',_,n',d'⟩,_⟩:=I.tuple h';rw[e]at e';cases e';rw[d]at d';injection d' with d1 _;have:its=its':=by simpa using congrArg Array.toList d1
 subst this;exact r.inj r'
end
abbrev Cx.wish (X:Cx)(E:Value->Shared->Prop):Cx:={ X with xe:=E }
abbrev Cx.nox (X:Cx):Cx:=X.wish fun _ _=>False
def Cx.Ok.wish {X:Cx}(ok:X.Ok)(E:Value->Shared->Prop):(X.wish E).Ok:=
 ⟨ok.mod,ok.kind,ok.glob,ok.blt,ok.above,ok.inj,ok.has,ok.cab,ok.hd,ok.frames,ok.stk,ok.exf,ok.bs,ok.bsz,ok.noex,ok.exfs,ok.funs,ok.frf⟩
def Cx.Ok.unwish {X:Cx}{E:Value->Shared->Prop}(ok:(X.wish E).Ok):X.Ok:=
 ⟨ok.mod,ok.kind,ok.glob,ok.blt,ok.above,ok.inj,ok.has,ok.cab,ok.hd,ok.frames,ok.stk,ok.exf,ok.bs,ok.bsz,ok.noex,ok.exfs,ok.funs,ok.frf⟩
section
variable {X:Cx}{pins:List (Addr×Obj)}{σ:St}{H:Hp}{s:Shared}{E:Value->Shared->Prop}
def Inv.wish (I:Inv X pins σ H s)(E:Value->Shared->Prop):Inv (X.wish E) pins σ H s:=⟨I.ok.wish E,I.os,I.bare,I.base,I.loc,I.cell,I.free,I.freeC,I.pin,I.hok,I.len⟩
def Inv.unwish (I:Inv (X.wish E) pins σ H s):Inv X pins σ H s:=⟨I.ok.unwish,I.os,I.bare,I.base,I.loc,I.cell,I.free,I.freeC,I.pin,I.hok,I.len⟩
def SP.unwish {D:Ends}{f:Flow}{s':Shared}(h:SP (X.wish E) pins D f s'):SP X pins D f s':=by
 cases f with
 | next=>obtain⟨σ',H',I,q⟩:=h;exact⟨σ',H',I.unwish,q⟩
 | brk=>obtain⟨σ',H',I,q⟩:=h;exact⟨σ',H',I.unwish,q⟩
 | cont=>obtain⟨σ',H',I,q⟩:=h;exact⟨σ',H',I.unwish,q⟩
 | ret u=>obtain⟨v,σ',H',I,r,q⟩:=h;exact⟨v,σ',H',I.unwish,r,q⟩
def PE.nox {e:Expr}{t:TE}(h:PE X.nox e t):PE X e t:=fun pins s σ H Q I hw =>
 wpAny_mono (h pins s σ H Q (I.wish _) hw) (fun _ _ ⟨v,H',I',r,q⟩=>⟨v,H',I'.unwish,r,q⟩) fun _ _ z=>False.elim z
def PT.nox {e:Expr}{t:TT}(h:PT X.nox e t):PT X e t:=fun pins s σ H Q I hw =>
 wpAny_mono (h pins s σ H Q (I.wish _) hw) (fun _ _ ⟨H',I',q⟩=>⟨H',I'.unwish,q⟩) fun _ _ z=>False.elim z
def PSs.nox {st:List Stmt}{t:TS}(h:PSs X.nox st t):PSs X st t:=fun pins s σ H D I hw =>
 wpAny_mono (h pins s σ H D (I.wish _) hw) (fun _ _ q=>q.unwish) fun _ _ z=>False.elim z
end
section
variable {X:Cx}{st:Stmt}{rest:List Stmt}{t u:TS}{e:Expr}{te:TE}{pos:Pos}
def K3:TS:=fun D σ H=>D.nx σ H
def z3M (t u:TS):TS:=fun D σ H=>t { D with nx:=u D } σ H
def Zf:PSs X [] K3:=fun _ _ σ H _ I h=>wpAny_execs_nil ⟨σ,H,I,h⟩
def jK (h1:PS X st t)(h2:PSs X rest u):PSs X (st::rest) (z3M t u):=by
 intro pins s σ H D I h;refine wpAny_execs_cons (thn (h1 pins s σ H { D with nx:=u D } I h) fun f s1 q=>?_);cases f with
 | next =>
  obtain⟨σ',H',I',q⟩:=q;exact h2 pins s1 σ' H' D I' q
 | ret v=>exact q
 | brk=>exact q
 | cont=>exact q
def jm (h1:PS X st t):PSs X [st] t:=by
 intro pins s σ H D I h;refine wpAny_execs_cons (thn (h1 pins s σ H D I h) fun f s1 q=>?_);cases f with
 | next=>exact wpAny_execs_nil q
 | ret v=>exact q
 | brk=>exact q
 | cont=>exact q
def Inv.quiet {pins:List (Addr×Obj)}{σ:St}{H:Hp}{s:Shared}(I:Inv X pins σ H s):interactive X.env=false:=by simp[interactive,I.ok.kind]
def z2m (te:TE):TS:=fun D σ H=>te σ H fun _ H1=>D.nx σ H1
def Wr (he:PE X e te)(hs:autoParam (swapsWith e none pos.line X.env=pure false) au3._auto_1):PS X (.Expr e pos) (z2m te):=by
 intro pins s σ H D I h;exact wpAny_Expr_any (thn (he pins s σ H _ I h) fun v s1 ⟨x,H1,I1,r1,q1⟩=>⟨σ,H1,I1,q1⟩) I.quiet hs
def z4z (te:TE):TS:=fun D σ H=>te σ H D.rt
def Zn (he:PE X e te):PS X (.Return (some e) pos) (z4z te):=by
 intro pins s σ H D I h;exact wpAny_Return_some (thn (he pins s σ H _ I h) fun v s1 ⟨x,H1,I1,r1,q1⟩=>⟨x,σ,H1,I1,r1,q1⟩)
def z3d (c:TT)(t u:TS):TS:=fun D σ H=>c σ H fun b H1=>if b=true then t D σ H1 else u D σ H1
def Qd {c:Expr}{a b:List Stmt}{tc:TT}(hc:PT X c tc)(ha:PSs X a t)(hb:PSs X b u):PS X (.If c a b pos) (z3d tc t u):=by
 intro pins s σ H D I h;refine wpAny_If (thn (hc pins s σ H _ I h) fun d s1 ⟨H1,I1,q1⟩=>?_);cases d with
 | true=>exact ha pins s1 σ H1 D I1 q1
 | false=>exact hb pins s1 σ H1 D I1 q1
def z0l:TS:=fun _ _ _=>False
def K2:PS X st z0l:=fun _ _ _ _ _ _ h=>h.elim
end
abbrev TG:=V->St->Hp->(St->Hp->Prop)->Prop
abbrev TGs:=List V->St->Hp->(St->Hp->Prop)->Prop
def PG (X:Cx)(target:Expr)(t:TG):Prop:=
 ∀(pins:List (Addr×Obj)) (s:Shared) (σ:St) (H:Hp) (v:V) (u:Value) (Q:St->Hp->Prop),Inv X pins σ H s->RelV v u->t v σ H Q ->
  wpAny (model X.prog X.w) X.A (assign target X.env u) (fun _ s'=>∃σ' H',Inv X pins σ' H' s'/\Q σ' H') X.xe s
def PGs (X:Cx)(ts:List Expr)(t:TGs):Prop:=
 ∀(pins:List (Addr×Obj)) (s:Shared) (σ:St) (H:Hp) (vs:List V) (us:List Value) (Q:St->Hp->Prop),Inv X pins σ H s->Vals vs us->t vs σ H Q ->
  wpAny (model X.prog X.w) X.A (assignInOrder ((assignEach ts X.env).map (·.2)) us) (fun _ s'=>∃σ' H',Inv X pins σ' H' s'/\Q σ' H') X.xe s
abbrev z3a:=V->V->V->Hp->(Hp->Prop)->Prop
def z54 (X:Cx)(t:z3a):Prop:=
 ∀(pins:List (Addr×Obj)) (s:Shared) (σ:St) (H:Hp) (o i v:V) (ov iv u:Value) (Q:Hp->Prop),Inv X pins σ H s->RelV o ov->RelV i iv->RelV v u->t o i v H Q ->
  wpAny (model X.prog X.w) X.A (setItem ov iv u) (fun _ s'=>∃H',Inv X pins σ H' s'/\Q H') X.xe s
abbrev TIp:=V->V->Hp->VK->Prop
def PIp (X:Cx)(op:Operator)(t:TIp):Prop:=
 ∀(pins:List (Addr×Obj)) (s:Shared) (σ:St) (H:Hp) (x y:V) (v u:Value) (Q:VK),Inv X pins σ H s->RelV x v->RelV y u->t x y H Q ->
  wpAny (model X.prog X.w) X.A (inplaceOp op v u) (EP X pins σ Q) X.xe s
section
variable {X:Cx}{pos:Pos}
def YW (i:Nat):TG:=fun v σ H Q=>Q (σ.set i (some v)) H
def z0Y {i:Nat}{x:Str}(hN:X.N.Nodup)(hi:X.N[i]?=some x)(hx:Loc X.env.scope x)(hf:autoParam (X.fn x=true\/X.env.scope.names.lookup x=some .local) au0._auto_1):PG X (.Name x pos) (YW i):=by
 intro pins s σ H v u Q I r h;exact wpAny_assign_Name (jl I hN hi hx r (fun s' I'=>⟨_,H,I',h⟩) hf)
def z6i:TGs:=fun vs σ H Q=>vs=[]/\Q σ H
def z5D (t:TG)(u:TGs):TGs:=fun vs σ H Q=>∃v r,vs=v::r/\t v σ H fun σ' H'=>u r σ' H' Q
def z1Z:PGs X [] z6i:=by
 intro pins s σ H vs us Q I r h;obtain⟨e,h⟩:=h;subst e;cases r;exact assignInOrder_nil ⟨σ,H,I,h⟩
def Kt {e:Expr}{es:List Expr}{t:TG}{u:TGs}(h1:PG X e t)(h2:PGs X es u)
  (hs:autoParam ((assignEach (e::es) X.env).map (·.2)=assign e X.env::(assignEach es X.env).map (·.2)) au3._auto_1):PGs X (e::es) (z5D t u):=by
 intro pins s σ H vs us Q I r h;obtain⟨v,vr,e1,h⟩:=h;subst e1;cases r with
 | cons r rr =>
  rw[hs];refine assignInOrder_cons (thn (h1 pins s σ H _ _ _ I r h) fun _ s1 ⟨σ1,H1,I1,q1⟩=>?_);exact h2 pins s1 σ1 H1 _ _ Q I1 rr q1
def z5e (K:jJa)(n:Nat)(t:TGs):TG:=fun v σ H Q=>∃a xs,v=.ref a/\SqT K H a xs/\xs.length=n/\t xs σ H Q
def z3t {es:List Expr}{k:Nat}{t:TGs}{n:Nat}(hc:X.calm=true)(h:PGs X es t)
  (hn:autoParam ((assignEach es X.env).length=n) au3._auto_1) (hst:autoParam ((assignEach es X.env).findIdx? (·.1)=none) au3._auto_1):PG X (.Tuple es k pos) (z5e X.K n t):=by
 intro pins s σ H v u Q I r hw;obtain⟨a,xs,e1,hq,hl,hw⟩:=hw;subst e1;cases r;obtain⟨its,rv,ht,hz⟩:=I.tuple hq;refine assign_Tuple_tuple (I.ok.hd hc) ht (by simp[hn,<-hl,rv.length]) hst fun h' hx=>?_;have I1:Inv X pins σ H { s with heap:=h' }:=I.kept (t':=s.toks) fun b o e=>hx b o (rB (jYc e)) e;exact h pins _ σ H xs _ Q I1 (by simpa using rv) hw
def z6S (to ti:TE)(t:z3a):TG:=fun v σ H Q=>to σ H fun o H1=>ti σ H1 fun i H2=>t o i v H2 fun H3=>Q σ H3
def z3F {o i:Expr}{to ti:TE}{t:z3a}(ho:PE X o to)(hi:PE X i ti)(hs:z54 X t)
  (ha:autoParam (∀v,assign (.Subscript o i pos) X.env v=(do
   let ov <-holding [v] (eval o X.env)
   let iv <-holding [v,ov] (eval i X.env)
   standAt pos
   holding [v,ov,iv] (setItem ov iv v)
   release [v,ov,iv] [])) au2._auto_1):PG X (.Subscript o i pos) (z6S to ti t):=by
 intro pins s σ H v u Q I r h;rw[ha];refine wpAny_bind (wpAny_holding (thn (ho pins s σ H _ I h) fun ov s1 ⟨x,H1,I1,r1,q1⟩=>?_));refine wpAny_bind (wpAny_holding (thn (hi pins s1 σ H1 _ I1 q1) fun iv s2 ⟨y,H2,I2,r2,q2⟩=>?_));refine wpAny_bind (wpAny_standAt (wpAny_bind (wpAny_holding (thn (hs pins s2 σ H2 x y v ov iv u _ I2 r1 r2 r q2) fun _ s3 ⟨H3,I3,q3⟩=>?_))));exact wpAny_release ⟨σ,H3,I3,q3⟩
def z6k (te:TE)(g:TG):TS:=fun D σ H=>te σ H fun x H1=>g x σ H1 D.nx
def JY {tg e:Expr}{te:TE}{g:TG}(he:PE X e te)(hg:PG X tg g)(hs:autoParam (swapsWithSole [tg] e pos.line X.env=pure false) au3._auto_1)(hw:autoParam (swappedStores [tg] e X.env=pure none) au3._auto_1)
  (h1:autoParam ((assignEach [tg] X.env).map (·.2)=[assign tg X.env]) au3._auto_1):PS X (.Assign [tg] e pos) (z6k te g):=by
 intro pins s σ H D I h;refine wpAny_Assign_stores (thn (he pins s σ H _ I h) fun v s1 ⟨x,H1,I1,r1,q1⟩=>?_) hs hw;rw[h1];exact thn (hg pins s1 σ H1 x v _ I1 r1 q1) fun _ s2 q=>q
def z0q {i:Nat}{x:Str}{e:Expr}{te:TE}{pos':Pos}(hN:X.N.Nodup)(hi:X.N[i]?=some x)(hx:Loc X.env.scope x)(he:PE X e te)(hs:autoParam (swapsWith e (some (.Name x pos')) pos.line X.env=pure false) au3._auto_1)(hf:autoParam (X.fn x=true\/X.env.scope.names.lookup x=some .local) au0._auto_1):
  PS X (.Assign [.Name x pos'] e pos) (z6k te (YW i)):=by
 intro pins s σ H D I h;refine wpAny_Assign_Name (thn (he pins s σ H _ I h) fun v s1 ⟨y,H1,I1,r1,q1⟩=>?_) hs;exact jl I1 hN hi hx r1 (fun s2 I2=>⟨_,H1,I2,q1⟩) hf
def z6W (i:Nat)(te:TE)(ti:TIp):TS:=fun D σ H=>∃x,σ[i]?=some (some x)/\te σ H fun y H1=>ti x y H1 fun z H2=>D.nx (σ.set i (some z)) H2
def z3p {i:Nat}{x:Str}{e:Expr}{te:TE}{op:Operator}{ti:TIp}{pos':Pos}(hN:X.N.Nodup)(hi:X.N[i]?=some x)(hx:Loc X.env.scope x)(he:PE X e te)(ho:PIp X op ti)(hf:autoParam (X.fn x=true\/X.env.scope.names.lookup x=some .local) au0._auto_1):
  PS X (.AugAssign (.Name x pos') op e pos) (z6W i te ti):=by
 intro pins s σ H D I h;obtain⟨v,e1,h⟩:=h;obtain⟨m,hn,hl⟩:=I.loc;have vis:Vis X.env.scope x:=by rcases hx with k|k;exact .inl k;exact .inr (.inl k)
 obtain⟨u,r,l⟩:=hl i x v hi e1 vis;refine wpAny_AugAssign_Name ?_;have go:wpAny (model X.prog X.w) X.A (eval e X.env) (fun w s₂=>wpAny (model X.prog X.w) X.A (inplaceOp op u w) (fun r s₃=>wpAny (model X.prog X.w) X.A (storeName X.env x r) (fun _=>SP X pins D .next) X.xe s₃) X.xe s₂) X.xe s:=by
  refine thn (he pins s σ H _ I h) fun w s1 ⟨y,H1,I1,r1,q1⟩=>?_;refine thn (ho pins s1 σ H1 v y u w _ I1 r r1 q1) fun z s2 ⟨zv,H2,I2,r2,q2⟩=>?_;exact jl I2 hN hi hx r2 (fun s3 I3=>⟨_,H2,I3,q2⟩) hf
 rcases l with⟨hk,hm⟩|⟨hk,c,hc,hcell⟩
 ·exact wpAny_loadName_local I.ok.kind hk hn hm go
 ·rcases hk with hk|hk
  ·exact wpAny_loadName_cell I.ok.kind hk hc hcell go
  ·rcases hx with k|k
   ·have:X.env.scope.names.lookup x=some .free:=hk;rw[k]at this;cases this
   ·have:X.env.scope.names.lookup x=some .free:=hk;rw[k]at this;cases this
def ipI (f:Int->Int->Int):TIp:=fun x y H Q=>∃i j,x=.int i/\y=.int j/\Q (.int (f i j)) H
def z4n:PIp X .Add (ipI fun i j=>i+j):=by
 intro pins s σ H x y v u Q I r1 r2 h;obtain⟨i,j,e1,e2,q⟩:=h;subst e1;subst e2;obtain⟨t,rfl⟩:=r1;obtain⟨t',rfl⟩:=r2;exact iadd_int ⟨.int _,H,I.tok _,⟨_,rfl⟩,q⟩
end
section
variable {X:Cx}{pos:Pos}
def z3P (c:TT)(tb:TS):TS:=fun D σ H=>∃W:Nat->St->Hp->Prop,(∃m,W m σ H)/\∀m σ H,W m σ H ->
 c σ H fun b H1=>if b=true then ∃N:St->Hp->Prop,(∀σ' H',N σ' H'->∃m',m'<m/\W m' σ' H')/\tb { D with nx:=N,ct:=N,bk:=D.nx } σ H1 else D.nx σ H1
def K4 {c:Expr}{body:List Stmt}{tc:TT}{tb:TS}(hp:PassesOwn (model X.prog X.w) X.A X.env X.xe)(hc:PT X c tc)(hb:PSs X body tb):PS X (.While c body [] pos) (z3P tc tb):=by
 intro pins s σ H D I h;obtain⟨W,⟨m0,w0⟩,turn⟩:=h;refine wpAny_While (codeAny_whileLoop (fun n s'=>∃σ' H',Inv X pins σ' H' s'/\W n σ' H') ?_ m0 ⟨σ,H,I,w0⟩);rintro n s1 ⟨σ1,H1,I1,w1⟩;refine wpAny_passesOwn hp (thn (hc pins s1 σ1 H1 _ I1 (turn n σ1 H1 w1)) fun b s2 ⟨H2,I2,q2⟩=>?_);cases b with
 | true =>
  obtain⟨N,hN,q2⟩:=q2;rw[if_pos rfl];refine wpAny_passesOwn hp (thn (hb pins s2 σ1 H2 _ I2 q2) fun f s3 q3=>?_);cases f with
  | next =>
   obtain⟨σ3,H3,I3,n3⟩:=q3;obtain⟨m',hm,w3⟩:=hN σ3 H3 n3;exact⟨m',hm,σ3,H3,I3,w3⟩
  | cont =>
   obtain⟨σ3,H3,I3,n3⟩:=q3;obtain⟨m',hm,w3⟩:=hN σ3 H3 n3;exact⟨m',hm,σ3,H3,I3,w3⟩
  | brk=>exact q3
  | ret v=>exact q3
 | false =>
  rw[if_neg sJ];exact wpAny_execs_nil ⟨σ1,H2,I2,q2⟩
end
structure It where
 go:Nat->Hp->Prop
 yld:Nat->Hp->V->Hp->Prop
 stop:Nat->Hp->Prop
def kZ (X:Cx)(pins:List (Addr×Obj))(H:Hp)(b:Addr):Prop:=
 H b=none/\b≠X.env.locals/\b∉X.fs/\(b∈X.ex\/X.s₀.heap.objs.size<=b)/\(∀x c,X.env.cells.lookup x=some c->c≠b)/\∀p∈X.pn++pins,p.1≠b
def Inv.fpOk {X:Cx}{pins:List (Addr×Obj)}{σ:St}{H H':Hp}{s:Shared}{b:Addr}(I:Inv X pins σ H s)(hb:s.heap.objs.size<=b)(hn:H' b=none):kZ X pins H' b:=by
 refine⟨hn,Nat.ne_of_gt (sU I.lt hb),I.nofs hb,.inr (rD I.sz hb),fun x c e z=>?_,fun p hp z=>?_⟩
 ·obtain⟨v,q⟩:=I.cell x c e;exact absurd (sU q.lt (by rw[z];exact hb)) (pN _)
 ·exact absurd (sU (jYc (I.pin p hp).1) (by rw[z];exact hb)) (pN _)
structure Turn (P:Program)(w:World)(K:jJa)(tg:Expr)(J:It)(fp:List Addr)(it:Addr)(tn:Nat->Heap->Prop):Prop where
 mem:it∈fp
 obj:∀i h,tn i h->∀b∈fp,∃o,h.get? b=some o/\∀v,o.data≠.cell v
 keep:∀i h h',tn i h->(∀b∈fp,∀o,h.get? b=some o->h'.get? b=some o)->tn i h'
 item:∀(X:Cx),X.prog=P->X.w=w->X.K=K->X.calm=true->∀(i:Nat) (pins:List (Addr×Obj)) (s:Shared) (σ:St) (H:Hp) (E:Value->Shared->Prop),Inv X pins σ H s->(∀b∈fp,kZ X pins H b)->tn i s.heap->J.go i H ->
  wpAny (model P w) X.A (pyNext (.ref it)) (fun r s1=>∃u,r=some u /\
   wpAny (model P w) X.A (letOwnedTupleGo tg (.ref it) u) (fun _ s2=>∃x H',Inv X pins σ H' s2/\RelV x u/\J.yld i H x H'/\tn (i+1) s2.heap/\∀b∈fp,H' b=none) E s1) E s
 done:∀(X:Cx),X.prog=P->X.w=w->X.K=K->X.calm=true->∀(i:Nat) (pins:List (Addr×Obj)) (s:Shared) (σ:St) (H:Hp) (E:Value->Shared->Prop),Inv X pins σ H s->(∀b∈fp,kZ X pins H b)->tn i s.heap->J.stop i H ->
  wpAny (model P w) X.A (pyNext (.ref it)) (fun r s1=>r=none/\Inv X pins σ H s1) E s
 self:∀(A:Around) (i:Nat) (s:Shared) (Q:Value->Shared->Prop) (E:Value->Shared->Prop),tn i s.heap->Q (.ref it) s->wpAny (model P w) A (pyIter (.ref it)) Q E s
abbrev TI:=St->Hp->(It->Hp->Prop)->Prop
def PIE (X:Cx)(pins:List (Addr×Obj))(σ:St)(tg:Expr)(R:It->Hp->Prop)(itv:Value)(s2:Shared):Prop:=
 ∃(it:Addr) (fp:List Addr) (tn:Nat->Heap->Prop) (J:It) (H':Hp),itv=.ref it/\Inv X pins σ H' s2/\Turn X.prog X.w X.K tg J fp it tn/\tn 0 s2.heap/\(∀b∈fp,kZ X pins H' b)/\R J H'
def PI (X:Cx)(tg iter:Expr)(wi:TI):Prop:=
 ∀(pins:List (Addr×Obj)) (s:Shared) (σ:St) (H:Hp) (R:It->Hp->Prop),Inv X pins σ H s->wi σ H R ->
  wpAny (model X.prog X.w) X.A (eval iter X.env) (fun v s1=>wpAny (model X.prog X.w) X.A (pyIter v) (PIE X pins σ tg R) X.xe s1) X.xe s
def WZ {M:Model}{A:Around}{E:Value->Shared->Prop}{s:Shared}{tg:Expr}{it:Addr}{u:Value}{o:Obj}{n:String}{vs:Array Value}{Q:Unit->Shared->Prop}(ho:s.heap.get? it=some o)(hc:o.cls=.type n)(hd:o.data=.fields vs)
  (hn:["enumerate","zip","dict_itemiterator","dict_reverseitemiterator","odict_iterator","itertools.zip_longest","itertools.pairwise"].contains n=false) (hQ:Q () s):wpAny M A (letOwnedTupleGo tg (.ref it) u) Q E s:=by
 unfold letOwnedTupleGo;cases tg<;>first
  | exact wpAny_pure hQ
  | (cases u<;>first
    | exact wpAny_pure hQ
    | (refine wpAny_bind (wpAny_load ho ?_);rw[hc,hd];show wpAny M A (if (["enumerate","zip","dict_itemiterator","dict_reverseitemiterator","odict_iterator","itertools.zip_longest","itertools.pairwise"].contains n&&vs[0]?==some (rawInt _))=true then _ else _) Q E s;rw[if_neg (by intro h;rw[hn,pJ]at h;cases h)];exact wpAny_pure hQ))
def Itl (K:jJa)(a:Addr):It:=
 ⟨fun i H=>∃xs x,SqL K H a xs/\xs[i]?=some x,fun i H x H'=>H'=H/\∀xs,SqL K H a xs->xs[i]?=some x,fun i H=>∃xs,SqL K H a xs/\xs.length<=i⟩
def Itt (K:jJa)(a:Addr):It:=
 ⟨fun i H=>∃xs x,SqT K H a xs/\xs[i]?=some x,fun i H x H'=>H'=H/\∀xs,SqT K H a xs->xs[i]?=some x,fun i H=>∃xs,SqT K H a xs/\xs.length<=i⟩
def Itr (lo:Int)(n:Nat):It:=⟨fun i _=>i<n,fun i H x H'=>H'=H/\x=.int (lo+i),fun i _=>n<=i⟩
def QU {P:Program}{w:World}{K:jJa}{tg:Expr}(a it:Addr):Turn P w K tg (Itl K a) [it] it (fun i h=>h.IsListIter it a i) where
 mem:=by simp
 obj:=fun i h st b hb=>by
  have e:b=it:=by simpa using hb
  subst e;obtain⟨o,e,c,d⟩:=st;exact⟨o,e,fun v z=>by rw[d]at z;cases z⟩
 keep:=fun i h h' st k=>st.at fun o e=>k it (by simp) o e
 item:=by
  intro X hP hw hK hc i pins s σ H E I hf st hg;subst hP hw hK;obtain⟨xs,x,hq,hx⟩:=hg;obtain⟨its,rv,p,hz⟩:=I.list hq;obtain⟨u,hu,ru⟩:=rv.get hx;obtain⟨f0,f1,f2,f3,f4,f5⟩:=hf it (by simp);refine wpAny_pyNext_list_item st p.isList (x:=u) (by simpa using hu) fun h' st' sb=>?_;have I1:Inv X pins σ H { s with heap:=h' }:=I.turned (t':=s.toks) (fun b o hb e=>(sb.2 b hb).trans e) f0 f1 f3 f4 f5;obtain⟨o,e,c,d⟩:=id st';exact⟨u,rfl,WZ (s:={ s with heap:=h' }) e c d (by decide) ⟨x,H,I1,ru,⟨rfl,fun ys hy=>by rw[I.list_inj hy hq];exact hx⟩,st',fun b hb=>(hf b hb).1⟩⟩
 done:=by
  intro X hP hw hK hc i pins s σ H E I hf st hg;subst hP hw hK;obtain⟨xs,hq,hx⟩:=hg;obtain⟨its,rv,p,hz⟩:=I.list hq;obtain⟨f0,f1,f2,f3,f4,f5⟩:=hf it (by simp);have hl:=rv.length;exact wpAny_pyNext_list_end (I.ok.hd hc) st p.isList (by simp;omega) fun h' eb=>⟨rfl,I.turned (t':=s.toks) (fun b o hb e=>eb b o hb e) f0 f1 f3 f4 f5⟩
 self:=fun _ _ _ _ _ st h=>wpAny_pyIter_listiter st h
def UG {P:Program}{w:World}{K:jJa}{tg:Expr}(a it:Addr):Turn P w K tg (Itt K a) [it] it (fun i h=>h.IsTupleIter it a i) where
 mem:=by simp
 obj:=fun i h st b hb=>by
  have e:b=it:=by simpa using hb
  subst e;obtain⟨o,e,c,d⟩:=st;exact⟨o,e,fun v z=>by rw[d]at z;cases z⟩
 keep:=fun i h h' st k=>st.at fun o e=>k it (by simp) o e
 item:=by
  intro X hP hw hK hc i pins s σ H E I hf st hg;subst hP hw hK;obtain⟨xs,x,hq,hx⟩:=hg;obtain⟨its,rv,p,hz⟩:=I.tuple hq;obtain⟨u,hu,ru⟩:=rv.get hx;obtain⟨f0,f1,f2,f3,f4,f5⟩:=hf it (by simp);refine wpAny_pyNext_tuple_item st (show s.heap.IsTuple a its.toArray from p) (x:=u) (by simpa using hu) fun h' st' sb=>?_;have I1:Inv X pins σ H { s with heap:=h' }:=I.turned (t':=s.toks) (fun b o hb e=>(sb.2 b hb).trans e) f0 f1 f3 f4 f5;obtain⟨o,e,c,d⟩:=id st';exact⟨u,rfl,WZ (s:={ s with heap:=h' }) e c d (by decide) ⟨x,H,I1,ru,⟨rfl,fun ys hy=>by rw[I.tuple_inj hy hq];exact hx⟩,st',fun b hb=>(hf b hb).1⟩⟩
 done:=by
  intro X hP hw hK hc i pins s σ H E I hf st hg;subst hP hw hK;obtain⟨xs,hq,hx⟩:=hg;obtain⟨its,rv,p,hz⟩:=I.tuple hq;obtain⟨f0,f1,f2,f3,f4,f5⟩:=hf it (by simp);have hl:=rv.length;exact wpAny_pyNext_tuple_end (I.ok.hd hc) st (show s.heap.IsTuple a its.toArray from p) (by simp;omega) fun h' eb=>⟨rfl,I.turned (t':=s.toks) (fun b o hb e=>eb b o hb e) f0 f1 f3 f4 f5⟩
 self:=fun _ _ _ _ _ st h=>wpAny_pyIter_tupleiter st h
def Up {P:Program}{w:World}{K:jJa}{tg:Expr}(it:Addr)(lo:Int)(n:Nat):Turn P w K tg (Itr lo n) [it] it (fun i h=>IsRangeIter h it (lo+(i:Nat)*1) ((n:Int)-(i:Nat)) 1) where
 mem:=by simp
 obj:=fun i h st b hb=>by
  have e:b=it:=by simpa using hb
  subst e;exact⟨_,st,fun v z=>by
   have z':Data.fields _=Data.cell v:=z;cases z'⟩
 keep:=fun i h h' st k=>k it (by simp) _ st
 item:=by
  intro X hP hw hK hc i pins s σ H E I hf st hg;subst hP hw hK;obtain⟨f0,f1,f2,f3,f4,f5⟩:=hf it (by simp);have W:=Walks.range (prog:=X.prog) (w:=X.w) (I.ok.hd hc) it lo 1 n;refine W.item i s _ _ hg st fun v h' tk hv st' kk=>?_;obtain⟨t,rfl⟩:=hv;have I1:Inv X pins σ H { s with heap:=h',toks:=tk }:=I.turned (fun b o hb e=>kk b o (by simpa using hb) e) f0 f1 f3 f4 f5;refine⟨_,rfl,WZ (s:={ s with heap:=h',toks:=tk }) (n:="range_iterator") st' rfl rfl (by decide) ⟨.int (lo+i),H,I1,⟨t,?_⟩,⟨rfl,rfl⟩,st',fun b hb=>(hf b hb).1⟩⟩;rw[Int.mul_one]
 done:=by
  intro X hP hw hK hc i pins s σ H E I hf st hg;subst hP hw hK;obtain⟨f0,f1,f2,f3,f4,f5⟩:=hf it (by simp);exact wpAny_pyNext_range_end (I.ok.hd hc) st (by have:n<=i:=hg;omega) fun h' eb=>⟨rfl,I.turned (t':=s.toks) (fun b o hb e=>eb b o hb e) f0 f1 f3 f4 f5⟩
 self:=fun _ _ _ _ _ st h=>wpAny_pyIter_rangeiter st h
section
variable {X:Cx}{tg:Expr}
def z2S (K:jJa)(tl:TE):TI:=fun σ H R=>tl σ H fun x H1=>∃a,x=.ref a/\(∃xs,SqL K H1 a xs)/\R (Itl K a) H1
def z5U (K:jJa)(tl:TE):TI:=fun σ H R=>tl σ H fun x H1=>∃a,x=.ref a/\(∃xs,SqT K H1 a xs)/\R (Itt K a) H1
def z1i {l:Expr}{tl:TE}(hl:PE X l tl):PI X tg l (z2S X.K tl):=by
 intro pins s σ H R I h;refine thn (hl pins s σ H _ I h) fun v s1 ⟨x,H1,I1,r1,q1⟩=>?_;obtain⟨a,e,⟨xs,hq⟩,q⟩:=q1;subst e;cases r1;obtain⟨its,rv,p,hz⟩:=I1.list hq;refine wpAny_pyIter_list p.isList ?_;refine⟨s1.heap.objs.size,[s1.heap.objs.size],_,_,H1,rfl,I1.kept (t':=s1.toks) fun b o e=>jYb _ e,QU a _,⟨_,jYd _ rfl,rfl,rfl⟩,fun b hb=>?_,q⟩;have e:b=s1.heap.objs.size:=by simpa using hb
 subst e;exact I1.fpOk (sL _) (I1.hok.fresh (sL _))
def z46 {l:Expr}{tl:TE}(hl:PE X l tl):PI X tg l (z5U X.K tl):=by
 intro pins s σ H R I h;refine thn (hl pins s σ H _ I h) fun v s1 ⟨x,H1,I1,r1,q1⟩=>?_;obtain⟨a,e,⟨xs,hq⟩,q⟩:=q1;subst e;cases r1;obtain⟨its,rv,p,hz⟩:=I1.tuple hq;refine wpAny_pyIter_tuple (show s1.heap.IsTuple a its.toArray from p) ?_;refine⟨s1.heap.objs.size,[s1.heap.objs.size],_,_,H1,rfl,I1.kept (t':=s1.toks) fun b o e=>jYb _ e,UG a _,⟨_,jYd _ rfl,rfl,rfl⟩,fun b hb=>?_,q⟩;have e:b=s1.heap.objs.size:=by simpa using hb
 subst e;exact I1.fpOk (sL _) (I1.hok.fresh (sL _))
def KU {pins:List (Addr×Obj)}{σ:St}{H:Hp}{s:Shared}{R:It->Hp->Prop}{E:Value->Shared->Prop}{lo hi:Int}{t u v:Tok}{tk:Nat}(I:Inv X pins σ H s)(h1:-(2 ^ 62)<=lo)(h2:lo<2 ^ 62)(h3:-(2 ^ 62)<=hi)(h4:hi<2 ^ 62)
  (q:R (Itr lo (hi-lo).toNat) H):wpAny (model X.prog X.w) X.A (pyIter (.ref s.heap.objs.size)) (PIE X pins σ tg R) E { s with heap:=s.heap.push { cls:=.type "range",data:=.fields #[.int lo t,.int hi u,.int 1 v] },toks:=tk }:=by
 refine wpAny_pyIter_range (IsRange.new ..) (small_one h1 h2 h3 h4) ?_;have I1:Inv X pins σ H { s with heap:=s.heap.push { cls:=.type "range",data:=.fields #[.int lo t,.int hi u,.int 1 v] },toks:=tk }:=I.kept fun b o e=>jYb _ e;refine⟨(s.heap.push { cls:=.type "range",data:=.fields #[.int lo t,.int hi u,.int 1 v] }).objs.size,[(s.heap.push { cls:=.type "range",data:=.fields #[.int lo t,.int hi u,.int 1 v] }).objs.size],_,_,H,rfl,
  I1.kept (t':=tk) fun b o e=>jYb _ e,Up _ lo (hi-lo).toNat,?_,fun b hb=>?_,q⟩
 ·have e1:lo+((0:Nat):Int)*1=lo:=by simp
  have e2:(((hi-lo).toNat:Nat):Int)-((0:Nat):Int)=Builtin.Range.rangeSize lo hi 1:=by rw[rangeSize_one];split<;>omega
  show IsRangeIter _ _ (lo+((0:Nat):Int)*1) ((((hi-lo).toNat:Nat):Int)-((0:Nat):Int)) 1;rw[e1,e2];exact jYd _ rfl
 ·have e:b=(s.heap.push { cls:=.type "range",data:=.fields #[.int lo t,.int hi u,.int 1 v] }).objs.size:=by simpa using hb
  subst e;exact I1.fpOk (sL _) (I1.hok.fresh (sL _))
def z5z (ta:TA):TI:=fun σ H R=>ta σ H fun vs H1=>∃j:Int,vs=[.int j]/\-(2 ^ 62)<=j/\j<2 ^ 62/\R (Itr 0 j.toNat) H1
def Jb {a:Expr}{ta:TA}{p pos:Pos}(hg:Gl X "range")(hm:X.mg "range"=none)(ha:PA X [a] ta)(hs:autoParam (starEach [a] X.env=[(false,eval a X.env)]) au3._auto_1):PI X tg (.Call (.Name "range" p) [a] [] pos) (z5z ta):=by
 intro pins s σ H R I h;refine Call_ (ZF I hg hm boot_range (PyProof.Rows.callWith_type1 (thn (ha pos pins s σ H _ I h) fun us s1 ⟨vs,H1,I1,r1,q1⟩=>?_) hs rfl));obtain⟨j,e,q1,q2,q⟩:=q1;subst e;cases r1 with
 | cons r rr =>
  cases rr;obtain⟨t,rfl⟩:=r;exact call_range_1 (KU I1 (by omega) (by omega) q1 q2 (by simpa using q))
def z5S (wi:TI)(g:TG)(tb:TS):TS:=fun D σ H=>wi σ H fun J H1=>∃W:Nat->Nat->St->Hp->Prop,(∃m,W 0 m σ H1)/\∀i m σ H,W i m σ H ->
 (J.stop i H/\D.nx σ H)\/(J.go i H/\∃N:St->Hp->Prop,(∀σ' H',N σ' H'->∃m',m'<m/\W (i+1) m' σ' H')/\∀x H',J.yld i H x H'->g x σ H' fun σ2 H2=>tb { D with nx:=N,ct:=N,bk:=D.nx } σ2 H2)
def Y5 (fp:List Addr)(h:Heap):List (Addr×Obj):=fp.filterMap fun b=>(h.get? b).map fun o=>(b,o)
def uN {fp:List Addr}{h:Heap}{b:Addr}{o:Obj}(hb:b∈fp)(e:h.get? b=some o):(b,o)∈Y5 fp h:=pX.mpr ⟨b,hb,by rw[e];rfl⟩
def Jh {fp:List Addr}{h:Heap}{p:Addr×Obj}(hp:p∈Y5 fp h):p.1∈fp/\h.get? p.1=some p.2:=by
 obtain⟨b,hb,e⟩:=pX.mp hp;cases q:h.get? b with
 | none=>rw[q]at e;cases e
 | some o =>
  rw[q]at e;have e':(b,o)=p:=jYe e;subst e';exact⟨hb,q⟩
def Inv.pinned {pins:List (Addr×Obj)}{σ:St}{H:Hp}{s:Shared}{fp:List Addr}(I:Inv X pins σ H s)(hf:∀b∈fp,kZ X pins H b)(ho:∀b∈fp,∃o,s.heap.get? b=some o/\∀v,o.data≠.cell v):Inv X (pins++Y5 fp s.heap) σ H s:=
 I.pins_of fun p hp=>(sC.mp hp).elim (fun z=>I.pin p (sD _ z)) fun z=>by
  obtain⟨hb,e⟩:=Jh z;obtain⟨f0,f1,f2,_⟩:=hf p.1 hb;obtain⟨o,e',d⟩:=ho p.1 hb;rw[e]at e';cases e';exact⟨e,f0,f1,f2,d⟩
def Inv.unpinned {pins pl:List (Addr×Obj)}{σ:St}{H:Hp}{s:Shared}(I:Inv X (pins++pl) σ H s):Inv X pins σ H s:=I.pins_of fun p hp=>I.pin p (sD _ (sE _ hp))
def z4h {iter:Expr}{body:List Stmt}{wi:TI}{g:TG}{tb:TS}{pos:Pos}(hp:PassesOwn (model X.prog X.w) X.A X.env X.xe)(hc:X.calm=true)(hi:PI X tg iter wi)(hg:PG X tg g)(hb:PSs X body tb)
  (hs:autoParam (∀x,foldedSetIterable iter X.env x=pure x) au2._auto_1):PS X (.For tg iter body [] pos) (z5S wi g tb):=by
 intro pins s σ H D I h;refine wpAny_For (thn (hi pins s σ H _ I h) fun v s1 h1=>thn h1 fun itv s2 h2=>?_) hs;obtain⟨it,fp,tn,J,H2,e,I2,T,st2,f2,W,⟨m0,w0⟩,turn⟩:=h2;subst e;have stat:∀ {H':Hp},(∀b∈fp,H' b=none)->∀b∈fp,kZ X pins H' b:=fun hn b hb=>⟨hn b hb,(f2 b hb).2⟩
 refine codeAny_forLoop_any (fun n s'=>∃i σ' H',Inv X pins σ' H' s'/\tn i s'.heap/\(∀b∈fp,H' b=none)/\W i n σ' H') ?_ m0 ⟨0,σ,H2,I2,st2,fun b hb=>(f2 b hb).1,w0⟩;rintro n s3 ⟨i,σ3,H3,I3,st3,fr3,w3⟩;rcases turn i n σ3 H3 w3 with⟨stop,qn⟩|⟨go,N,hN,step⟩
 ·refine wpAny_passesOwn hp (thn (T.done X rfl rfl rfl hc i pins s3 σ3 H3 X.xe I3 (stat fr3) st3 stop) fun r s4 ⟨hr,I4⟩=>?_);subst hr;exact wpAny_execs_nil ⟨σ3,H3,I4,qn⟩
 ·refine wpAny_passesOwn hp (thn (T.item X rfl rfl rfl hc i pins s3 σ3 H3 X.xe I3 (stat fr3) st3 go) fun r s4 ⟨u,hr,h4⟩=>?_);subst hr;refine wpAny_passesOwn hp (thn h4 fun _ s5 ⟨x,H5,I5,r5,y5,st5,fr5⟩=>?_);have I5':=I5.pinned (stat fr5) (T.obj _ _ st5);refine wpAny_passesOwn hp (thn (hg _ s5 σ3 H5 x u _ I5' r5 (step x H5 y5)) fun _ s6 ⟨σ6,H6,I6,q6⟩=>?_);refine wpAny_passesOwn hp (thn (hb _ s6 σ6 H6 _ I6 q6) fun f s7 q7=>?_);have again:∀ {σ7:St} {H7:Hp},Inv X (pins++Y5 fp s5.heap) σ7 H7 s7->N σ7 H7->∃m,m<n/\∃i σ' H',Inv X pins σ' H' s7/\tn i s7.heap/\(∀b∈fp,H' b=none)/\W i m σ' H':=fun {σ7 H7} I7 n7=>by
   obtain⟨m',hm,w7⟩:=hN σ7 H7 n7;refine⟨m',hm,i+1,σ7,H7,I7.unpinned,T.keep _ _ _ st5 fun b hb o e=>(I7.pin (b,o) (sD _ (sD _ (uN hb e)))).1,fun b hb=>?_,w7⟩;obtain⟨o,e,d⟩:=T.obj _ _ st5 b hb;exact (I7.pin (b,o) (sD _ (sD _ (uN hb e)))).2.1
  cases f with
  | next=>obtain⟨σ7,H7,I7,n7⟩:=q7;exact again I7 n7
  | cont=>obtain⟨σ7,H7,I7,n7⟩:=q7;exact again I7 n7
  | brk=>obtain⟨σ7,H7,I7,q7⟩:=q7;exact⟨σ7,H7,I7.unpinned,q7⟩
  | ret v=>obtain⟨x7,σ7,H7,I7,r7,q7⟩:=q7;exact⟨x7,σ7,H7,I7.unpinned,r7,q7⟩
end
abbrev R2:=V->V->Hp->VK->Prop
def OpR (X:Cx)(f:Value->Value->Sem Value)(r:R2):Prop:=
 ∀(pins:List (Addr×Obj)) (s:Shared) (σ:St) (H:Hp) (x y:V) (v u:Value) (Q:VK),Inv X pins σ H s->RelV x v->RelV y u->r x y H Q ->
  wpAny (model X.prog X.w) X.A (f v u) (EP X pins σ Q) X.xe s
def UnR (X:Cx)(f:Value->Sem Value)(r:V->Hp->VK->Prop):Prop:=
 ∀(pins:List (Addr×Obj)) (s:Shared) (σ:St) (H:Hp) (x:V) (v:Value) (Q:VK),Inv X pins σ H s->RelV x v->r x H Q ->
  wpAny (model X.prog X.w) X.A (f v) (EP X pins σ Q) X.xe s
def CallR (X:Cx)(f:Value)(r:List V->Hp->VK->Prop):Prop:=
 ∀(pins:List (Addr×Obj)) (s:Shared) (σ:St) (H:Hp) (xs:List V) (us:List Value) (Q:VK),Inv X pins σ H s->Vals xs us->r xs H Q ->
  wpAny (model X.prog X.w) X.A (call f us) (EP X pins σ Q) X.xe s
def tOp (r:R2)(ta tb:TE):TE:=fun σ H Q=>ta σ H fun x H1=>tb σ H1 fun y H2=>r x y H2 Q
def tUn (r:V->Hp->VK->Prop)(ta:TE):TE:=fun σ H Q=>ta σ H fun x H1=>r x H1 Q
def rI (C:Int->Int->Prop)(g:Int->Int->V):R2:=fun x y H Q=>∃i j,x=.int i/\y=.int j/\C i j/\Q (g i j) H
def rI0 (g:Int->Int->V):R2:=fun x y H Q=>∃i j,x=.int i/\y=.int j/\Q (g i j) H
def rU (g:Int->V):V->Hp->VK->Prop:=fun x H Q=>∃i,x=.int i/\Q (g i) H
section
variable {X:Cx}{a b c:Expr}{ta tb tc:TE}{pos:Pos}
def z4m (ha:PE X a ta)(hb:PE X b tb){pins:List (Addr×Obj)}{s:Shared}{σ:St}{H:Hp}{R:V->V->Hp->Prop}(I:Inv X pins σ H s)
  (h:ta σ H fun x H1=>tb σ H1 fun y H2=>R x y H2) {Q:Value->Shared->Prop} {f:Value->Value->Sem Value}
  (hf:∀v u s2 x y H2,Inv X pins σ H2 s2->RelV x v->RelV y u->R x y H2->wpAny (model X.prog X.w) X.A (f v u) Q X.xe s2):
  wpAny (model X.prog X.w) X.A (eval a X.env) (fun v s₁=>wpAny (model X.prog X.w) X.A (eval b X.env) (fun u s₂=>wpAny (model X.prog X.w) X.A (f v u) Q X.xe s₂) X.xe s₁) X.xe s:=by
 refine thn (ha pins s σ H _ I h) fun v s1 ⟨x,H1,I1,r1,q1⟩=>?_;refine thn (hb pins s1 σ H1 _ I1 q1) fun u s2 ⟨y,H2,I2,r2,q2⟩=>?_;exact hf v u s2 x y H2 I2 r1 r2 q2
def z6l {op:Operator}{r:R2}(ho:OpR X (binaryOp op) r)(ha:PE X a ta)(hb:PE X b tb):PE X (.BinOp a op b pos) (tOp r ta tb):=by
 intro pins s σ H Q I h;exact wpAny_BinOp (z4m ha hb I h fun v u s2 x y H2 I2 rx ry q=>ho pins s2 σ H2 x y v u Q I2 rx ry q)
def z2g {op:UnaryOp}{r:V->Hp->VK->Prop}(ho:UnR X (unaryOp op) r)(ha:PE X a ta):PE X (.UnaryOp op a pos) (tUn r ta):=by
 intro pins s σ H Q I h;exact UnaryOp_ (thn (ha pins s σ H _ I h) fun v s1 ⟨x,H1,I1,r1,q1⟩=>ho pins s1 σ H1 x v Q I1 r1 q1)
def opI {f:Value->Value->Sem Value}{C:Int->Int->Prop}{g:Int->Int->Int}
  (rule:∀(i j:Int) (t u:Tok) (s:Shared) (Q:Value->Shared->Prop) (E:Value->Shared->Prop),C i j->Q (.int (g i j) s.toks) { s with toks:=s.toks+1 }->wpAny (model X.prog X.w) X.A (f (.int i t) (.int j u)) Q E s):
  OpR X f (rI C fun i j=>.int (g i j)):=by
 intro pins s σ H x y v u Q I rx ry h;obtain⟨i,j,rfl,rfl,hc,q⟩:=h;obtain⟨t,rfl⟩:=rx;obtain⟨t',rfl⟩:=ry;exact rule i j t t' s _ _ hc ⟨.int (g i j),H,I.tok _,⟨_,rfl⟩,q⟩
def z5d {f:Value->Value->Sem Value}{g:Int->Int->Int}
  (rule:∀(i j:Int) (t u:Tok) (s:Shared) (Q:Value->Shared->Prop) (E:Value->Shared->Prop),Q (.int (g i j) s.toks) { s with toks:=s.toks+1 }->wpAny (model X.prog X.w) X.A (f (.int i t) (.int j u)) Q E s):
  OpR X f (rI0 fun i j=>.int (g i j)):=by
 intro pins s σ H x y v u Q I rx ry h;obtain⟨i,j,rfl,rfl,q⟩:=h;obtain⟨t,rfl⟩:=rx;obtain⟨t',rfl⟩:=ry;exact rule i j t t' s _ _ ⟨.int (g i j),H,I.tok _,⟨_,rfl⟩,q⟩
def z3G {f:Value->Value->Sem Value}{g:Int->Int->Bool}
  (rule:∀(i j:Int) (t u:Tok) (s:Shared) (Q:Value->Shared->Prop) (E:Value->Shared->Prop),Q (.bool (g i j)) s->wpAny (model X.prog X.w) X.A (f (.int i t) (.int j u)) Q E s):
  OpR X f (rI0 fun i j=>.bl (g i j)):=by
 intro pins s σ H x y v u Q I rx ry h;obtain⟨i,j,rfl,rfl,q⟩:=h;obtain⟨t,rfl⟩:=rx;obtain⟨t',rfl⟩:=ry;exact rule i j t t' s _ _ ⟨.bl (g i j),H,I,rfl,q⟩
def z5G (i j:Int):Prop:=0<j/\j<1073741824
def CMul (i j:Int):Prop:=(-(2 ^ 64)<i/\i<2 ^ 64)\/(-(2 ^ 64)<j/\j<2 ^ 64)
def CMul.ok {i j:Int}(h:CMul i j):IntMulOk i j:=by
 rcases h with⟨h1,h2⟩|⟨h1,h2⟩
 ·exact .of_left (intBits_le_64 h1 h2)
 ·exact .of_right (intBits_le_64 h1 h2)
def z3s:OpR X (binaryOp .Add) (rI0 fun i j=>.int (i+j)):=z5d fun _ _ _ _ _ _ _ q=>add_int q
def Wc:OpR X (binaryOp .Sub) (rI0 fun i j=>.int (i-j)):=z5d fun _ _ _ _ _ _ _ q=>sub_int q
def z39:OpR X (binaryOp .Mult) (rI CMul fun i j=>.int (i*j)):=opI fun _ _ _ _ _ _ _ hc q=>mul_int q hc.ok
def zH:OpR X (binaryOp .FloorDiv) (rI z5G fun i j=>.int (i/j)):=opI fun i j _ _ _ _ _ hc q=>by
 have h1:(0:Int)<j:=hc.1;have h2:j<1073741824:=hc.2;exact floordiv_int (by omega) (by rw[Int.fdiv_eq_ediv_of_nonneg i (by omega)];exact q) (.inl (PyProof.noPylong_small (by omega)))
def zJ:OpR X (binaryOp .Mod) (rI (fun _ j=>0<j) fun i j=>.int (i%j)):=opI fun i j _ _ _ _ _ hc q=>by
 have h1:(0:Int)<j:=hc;exact mod_int' (by omega) (by rw[Int.fmod_eq_emod_of_nonneg i (by omega)];exact q)
def unI {f:Value->Sem Value}{g:Int->Int}
  (rule:∀(i:Int) (t:Tok) (s:Shared) (Q:Value->Shared->Prop) (E:Value->Shared->Prop),Q (.int (g i) s.toks) { s with toks:=s.toks+1 }->wpAny (model X.prog X.w) X.A (f (.int i t)) Q E s):
  UnR X f (rU fun i=>.int (g i)):=by
 intro pins s σ H x v Q I rx h;obtain⟨i,rfl,q⟩:=h;obtain⟨t,rfl⟩:=rx;exact rule i t s _ _ ⟨.int (g i),H,I.tok _,⟨_,rfl⟩,q⟩
def Kq:UnR X (unaryOp .USub) (rU fun i=>.int (-i)):=unI fun _ _ _ _ _ q=>neg_int q
end
section
variable {X:Cx}{a b c:Expr}{ta tb tc:TE}{pos:Pos}
def qX:OpR X (compareOp .Lt) (rI0 fun i j=>.bl (decide (i<j))):=z3G fun _ _ _ _ _ _ _ q=>lt_int q
def uw:OpR X (compareOp .LtE) (rI0 fun i j=>.bl (decide (i<=j))):=z3G fun _ _ _ _ _ _ _ q=>le_int q
def X7:OpR X (compareOp .Gt) (rI0 fun i j=>.bl (decide (j<i))):=z3G fun _ _ _ _ _ _ _ q=>gt_int q
def OpR.or {f:Value->Value->Sem Value}{r r':R2}(h:OpR X f r)(h':OpR X f r'):OpR X f (fun x y H Q=>r x y H Q\/r' x y H Q):=by
 intro pins s σ H x y v u Q I rx ry q;rcases q with q|q
 ·exact h pins s σ H x y v u Q I rx ry q
 ·exact h' pins s σ H x y v u Q I rx ry q
def zA (b:Expr){op:CmpOp}(h:autoParam (op≠.In) au1._auto_1)(h2:autoParam (op≠.NotIn) au1._auto_1):behindInMarks op b=false:=by
 have e1:(op==CmpOp.In)=false:=by cases op<;>first|rfl|exact absurd rfl h
 have e2:(op==CmpOp.NotIn)=false:=by cases op<;>first|rfl|exact absurd rfl h2
 cases b with
 | Set elts k _ =>
  show (k==0&&(op==.In||op==.NotIn)&&elts.all (constantsAlone 8))=false;rw[e1,e2,Bool.or_self,pQ,pJ]
 | _=>rfl
def z19 {op:CmpOp}{r:R2}(ho:OpR X (compareOp op) r)(ha:PE X a ta)(hb:PE X b tb)(hm:behindInMarks op b=false):PE X (.Compare a [op] [b] pos) (tOp r ta tb):=by
 intro pins s σ H Q I h;exact wpAny_Compare1 (z4m ha hb I h fun v u s2 x y H2 I2 rx ry q=>ho pins s2 σ H2 x y v u Q I2 rx ry q) hm
def z2p (t:TE):TT:=fun σ H Q=>t σ H fun x H'=>∃k,x=.bl k/\Q k H'
def z1A {op:CmpOp}{r:R2}(ho:OpR X (compareOp op) r)(ha:PE X a ta)(hb:PE X b tb)(hm:behindInMarks op b=false):PT X (.Compare a [op] [b] pos) (z2p (tOp r ta tb)):=by
 intro pins s σ H Q I h;refine wpAny_isTrue_Compare1 (thn (ha pins s σ H _ I h) fun v s1 ⟨x,H1,I1,r1,q1⟩=>thn (hb pins s1 σ H1 _ I1 q1) fun u s2 ⟨y,H2,I2,r2,q2⟩ =>
  thn (ho pins s2 σ H2 x y v u _ I2 r1 r2 q2) fun c s3 ⟨z,H3,I3,r3,k,e,q3⟩=>?_) hm
 subst e;cases r3;exact wpAny_truthy_bool ⟨H3,I3,q3⟩
def z0R (r r':R2)(ta tb tc:TE):TE:=fun σ H Q=>ta σ H fun x H1=>tb σ H1 fun y H2=>r x y H2 fun z H3=>∃k,z=.bl k /\
 (if k=true then tc σ H3 fun w' H4=>r' y w' H4 Q else Q (.bl false) H3)
def Kp {op op':CmpOp}{r r':R2}(ho:OpR X (compareOp op) r)(ho':OpR X (compareOp op') r')(ha:PE X a ta)(hb:PE X b tb)(hc:PE X c tc)
  (hm:autoParam (lastMarks [op,op'] [b,c]=false) au4._auto_1):PT X (.Compare a [op,op'] [b,c] pos) (z2p (z0R r r' ta tb tc)):=by
 intro pins s σ H Q I h;refine isTrue_chain (thn (ha pins s σ H _ I h) fun v s1 ⟨x,H1,I1,r1,q1⟩=>test_link (thn (hb pins s1 σ H1 _ I1 q1) fun u s2 ⟨y,H2,I2,r2,q2⟩ =>
  thn (ho pins s2 σ H2 x y v u _ I2 r1 r2 q2) fun d s3 ⟨z,H3,I3,r3,k,e,q3⟩=>?_)) hm
 subst e;cases r3;refine wpAny_truthy_bool ?_;cases k with
 | false =>
  obtain⟨k',e',q'⟩:=q3;cases e';exact ite_ff ⟨H3,I3,q'⟩
 | true =>
  refine ite_tt (test_last (thn (hc pins s3 σ H3 _ I3 q3) fun w' s4 ⟨z',H4,I4,r4,q4⟩=>thn (ho' pins s4 σ H4 y z' u w' _ I4 r2 r4 q4) fun d' s5 ⟨z2,H5,I5,r5,k2,e2,q5⟩=>?_));subst e2;cases r5;exact wpAny_truthy_bool ⟨H5,I5,q5⟩
def kf:(sizeLine:Nat)<2 ^ 63:=by rw[sizeLine_eq];decide
def UM:OpR X (binaryOp .Add) (fun x y H Q=>∃i j,x=.str i/\y=.str j/\i.length+j.length<=sizeLine/\Q (.str (i++j)) H):=by
 intro pins s σ H x y v u Q I rx ry h;obtain⟨i,j,rfl,rfl,hz,q⟩:=h;obtain⟨t,rfl⟩:=rx;obtain⟨t',rfl⟩:=ry;exact add_str (fun t' tk=>⟨.str (i++j),H,I.tok _,⟨_,rfl⟩,q⟩) hz
def WS:OpR X (inplaceOp .Add) (fun x y H Q=>∃i j,x=.str i/\y=.str j/\i.length+j.length<=sizeLine/\Q (.str (i++j)) H):=by
 intro pins s σ H x y v u Q I rx ry h;obtain⟨i,j,rfl,rfl,hz,q⟩:=h;obtain⟨t,rfl⟩:=rx;obtain⟨t',rfl⟩:=ry;exact iadd_str (fun t' tk=>⟨.str (i++j),H,I.tok _,⟨_,rfl⟩,q⟩) hz
def uF {x:V}{us:List Value}(r:Vals [x] us):∃u,us=[u]/\RelV x u:=by
 cases r with
 | cons r1 r2=>cases r2;exact⟨_,rfl,r1⟩
def Qg {x y:V}{us:List Value}(r:Vals [x,y] us):∃u w',us=[u,w']/\RelV x u/\RelV y w':=by
 cases r with
 | cons r1 r2 =>
  cases r2 with
  | cons r3 r4=>cases r4;exact⟨_,_,rfl,r1,r3⟩
def QZ (hc:X.calm=true):CallR X (.builtin "min") (fun xs H Q=>∃i j,xs=[.int i,.int j]/\Q (.int (if j<i then j else i)) H):=by
 intro pins s σ H xs us Q I r h;obtain⟨i,j,rfl,q⟩:=h;obtain⟨u,w',rfl,⟨t,rfl⟩,⟨t',rfl⟩⟩:=Qg r;refine min_two_ints (I.ok.hd hc) fun h' tk k=>⟨_,H,I.kept k,?_,q⟩
 by_cases hj:j<i
 ·rw[if_pos hj,if_pos hj];exact⟨_,rfl⟩
 ·rw[if_neg hj,if_neg hj];exact⟨_,rfl⟩
end
structure ObjM (h:Heap)(x dx C:Addr)(mA:Str->Option Value):Prop where
 obj:h.get? x=some (jJo C dx)
 ns:h.Ns1 dx mA
 ne:dx≠x
def Jp {h:Heap}{dx:Addr}{mA:Str->Option Value}(n:h.Ns1 dx mA):∃od,h.get? dx=some od/\∀name,jJq name od=some (mA name):=by
 obtain⟨o,es,ep,ho,hd,hk,_,hm⟩:=n;refine⟨o,ho,fun name=>?_⟩;have e:=hm name;unfold nsFind findBy at e;rw[<-Array.find?_toList]at e;unfold jJq;rw[hd];dsimp only;split
 ·rename_i y q;rw[q]at e;exact congrArg some e
 ·rename_i q;rw[q]at e;have a:es.toList.any (·.refKey)=false:=by
   rw[List.any_eq_false];intro y hy;obtain⟨z,t,hkey⟩:=hk y (Array.mem_toList_iff.mp hy);simp[DictEntry.refKey,hkey]
  have a':¬es.toList.any (·.refKey)=true:=by rw[a];exact sJ
  rw[if_neg a'];exact congrArg some e
def ObjM.look {h:Heap}{x dx C:Addr}{mA:Str->Option Value}(I:ObjM h x dx C mA):∃od,PySem.W.InstAt h x (jJo C dx) C (some od)/\∀name,jJq name od=some (mA name):=
 let ⟨od,ho,hl⟩:=Jp I.ns
 ⟨od,⟨I.obj,rfl,rfl,ho⟩,hl⟩
section
variable {prog:Program}{w:World}{A:Around}{E:Value->Shared->Prop}{s:Shared}{K:jJa}{x dx C f:Addr}{mA:Str->Option Value}{name:Str}{v:Value}
end
def RelO.some_of {v:V}{o:Option Value}(r:RelO (some v) o):∃u,o=some u/\RelV v u:=by
 cases o with
 | none=>exact (show False from r).elim
 | some u=>exact⟨u,rfl,r⟩
section
variable {P:Program}{w:World}{H H':Hp}{h h':Heap}{a C dx:Addr}{fs fs':List (Str×V)}
def z1Q (hok:HOk P w H h)(e:H a=some (.ins C dx fs)):∃mA,ObjM h a dx C mA/\(∀f,RelO (fs.lookup f) (mA f))/\PySem.Within mA (fs.map (·.1))/\fs.length<=1000/\H dx=some (.own a):=by
 obtain⟨d,z,ne,ob,mA,n,r,q⟩:=(show ObjOk P w H h a (.ins C dx fs) from hok a _ e)
 exact⟨mA,⟨ob,n,ne⟩,r,q,z,d⟩
end
structure Cls (K:jJa)(C:Addr):Prop where
 pg:PySem.W.plainGet K C Str.empty=true
 hd:PySem.W.hasDictIn K C=true
 po:PySem.W.plainOver K C=true
 sa:jJd K (.ref C) "__setattr__"=some (some (.builtin "object.__setattr__"))
def Cls.get {K:jJa}{C:Addr}(c:Cls K C)(f:Str):PySem.W.plainGet K C f=true:=c.pg
structure Con (K:jJa)(C:Addr)(f:Str)(v:V)(u:Value):Prop where
 at_:jJd K (.ref C) f=some (some u)
 rel:RelV v u
 get:jJn K u "__get__"=some none
 cp:PySem.W.copiedNames.contains f=false
structure Meth (K:jJa)(C:Addr)(m:Str)(f:Addr):Prop where
 at_:jJd K (.ref C) m=some (some (.ref f))
 fn:PySem.W.isFn K (.ref f)=true
 kp:jJf K (.ref f)=true
section
variable {X:Cx}{pins:List (Addr×Obj)}{σ:St}{H:Hp}{s:Shared}{a C dx:Addr}{fs:List (Str×V)}{f:Str}{v:V}{A:Around}{E:Value->Shared->Prop}
end
section
variable {X:Cx}{o e value:Expr}{f:Str}{pos pos' tpos:Pos}{ta tv:TE}
end
section
variable {X:Cx}{pins:List (Addr×Obj)}{σ:St}{H:Hp}{s:Shared}{A:Around}{E:Value->Shared->Prop}{Q:Value->Shared->Prop}{c:Value}{b:Bool}
inductive TyOf (K:jJa) (H:Hp):V->Value->Prop where
 | non:TyOf K H .non (.type "NoneType")
 | bl (x:Bool):TyOf K H (.bl x) (.type "bool")
 | int (i:Int):TyOf K H (.int i) (.type "int")
 | str (x:Str):TyOf K H (.str x) (.type "str")
 | flt (x:UInt64):TyOf K H (.flt x) (.type "float")
 | lst {a:Addr} {xs:List V} (e:H a=some (.lst xs)):TyOf K H (.ref a) (.type "list")
 | frz {a:Addr} {o:Obj} {xs:List V} (e:H a=some (.frz o (.lst xs))):TyOf K H (.ref a) (.type "list")
 | tup {a:Addr} {xs:List V} (e:H a=some (.tup xs)):TyOf K H (.ref a) (.type "tuple")
 | dK {a:Addr} {kvs:List (Key×V)} (e:H a=some (.dK kvs)):TyOf K H (.ref a) (.type "dict")
 | dT {a:Addr} {kvs:List (List Key×V)} (e:H a=some (.dT kvs)):TyOf K H (.ref a) (.type "dict")
 | ins {a C dx:Addr} {fs:List (Str×V)} (e:H a=some (.ins C dx fs)) (cl:Cls K C) (ha:jJd K (.ref C) "__class__"=some (some (.builtin "object.__class__")))
   (hn:jJn K (.builtin "object.__class__") "__get__"=some (some (.builtin "getset_descriptor.__get__"))) (htk:jJr K (.builtin "object.__class__")=some true)
   (hm:jJi K C (.type "object")=some true):TyOf K H (.ref a) (.ref C)
def vo {x:V}{u t:Value}(I:Inv X pins σ H s)(rx:RelV x u)(ty:TyOf X.K H x t)(e:jJb X.K t c=some b)(h:∀tk,Q (.bool b) { s with toks:=tk }):
  wpAny (model X.prog X.w) A (call (.builtin "isinstance") [u,c]) Q E s:=by
 cases ty with
 | non=>cases (show u=Value.none from rx);exact jJc PySem.W.kitx_none I.kIn True.intro e (fun z=>nomatch z) h
 | bl y=>cases (show u=Value.bool y from rx);exact jJc PySem.W.kitx_bool I.kIn True.intro e (fun z=>nomatch z) h
 | int i=>obtain⟨t,q⟩:=(show ∃t,u=Value.int i t from rx);cases q;exact jJc PySem.W.kitx_int I.kIn True.intro e (fun z=>nomatch z) h
 | str y=>obtain⟨t,q⟩:=(show ∃t,u=Value.str y t from rx);cases q;exact jJc PySem.W.kitx_str I.kIn True.intro e (fun z=>nomatch z) h
 | flt y=>obtain⟨t,q⟩:=(show ∃t,u=Value.float y t from rx);cases q;exact jJc PySem.W.kitx_float I.kIn True.intro e (fun z=>nomatch z) h
 | @lst a xs ea =>
  cases (show u=Value.ref a from rx);obtain⟨_,_,n,_,h1⟩:=(show ObjOk X.prog X.w H s.heap a (.lst xs) from I.hok a _ ea)
  exact jJc jJs I.kIn ⟨_,h1,rfl⟩ e (fun z=>nomatch z) h
 | @frz a ob xs ea =>
  cases (show u=Value.ref a from rx);obtain⟨_,_,_,n,_,h1⟩:=(show ObjOk X.prog X.w H s.heap a (.frz ob (.lst xs)) from I.hok a _ ea)
  exact jJc jJs I.kIn ⟨_,h1,rfl⟩ e (fun z=>nomatch z) h
 | @tup a xs ea =>
  cases (show u=Value.ref a from rx);obtain⟨_,_,_,p⟩:=(show ObjOk X.prog X.w H s.heap a (.tup xs) from I.hok a _ ea)
  obtain⟨o,h1,h2,_⟩:=p;exact jJc jJ2 I.kIn ⟨o,h1,h2⟩ e (fun z=>nomatch z) h
 | @dK a kvs ea =>
  cases (show u=Value.ref a from rx);obtain⟨_,_,vs,_,p⟩:=(show ObjOk X.prog X.w H s.heap a (.dK kvs) from I.hok a _ ea)
  obtain⟨o,es,ep,h1,h2,_⟩:=p;exact jJc jJt I.kIn ⟨o,h1,h2.1⟩ e (fun z=>nomatch z) h
 | @dT a kvs ea =>
  cases (show u=Value.ref a from rx);obtain⟨_,_,xs,_,o,es,ep,h1,h2,_⟩:=(show ObjOk X.prog X.w H s.heap a (.dT kvs) from I.hok a _ ea)
  exact jJc jJt I.kIn ⟨o,h1,h2.1⟩ e (fun z=>nomatch z) h
 | @ins a C dx fs ea cl ha hn htk hm =>
  cases (show u=Value.ref a from rx);obtain⟨mA,O,_⟩:=z1Q I.hok ea;obtain⟨od,J,_⟩:=O.look;exact jJc (PySem.W.kitx_own (cl.get _) cl.hd ha hn htk hm) I.kIn J e (fun z=>nomatch z) h
end
structure Room (k:Nat)(A:Around):Prop where
 hd:A.handled=none
 dp:A.depth+3*k+5<recursionLimit
 un:A.units+16*k+200<cLine
def Room.mono {j k:Nat}{A:Around}(r:Room k A)(h:j<=k):Room j A:=⟨r.hd,by have:=r.dp;omega,by have:=r.un;omega⟩
def Room.deeper {k:Nat}{A:Around}(r:Room (k+1) A)(env:Env):Room k (A.deeper env):=
 ⟨r.hd,by have:=r.dp;show A.depth+1+3*k+5<_;omega,by have:=r.un;show A.units+3+16*k+200<_;omega⟩
def Room.in1 {k:Nat}{A:Around}(r:Room (k+1) A):Room k A.in1:=
 ⟨r.hd,by have:=r.dp;show A.depth+3*k+5<_;omega,by have:=r.un;show A.units+1+16*k+200<_;omega⟩
def Room.depth {k:Nat}{A:Around}(r:Room k A):A.depth<recursionLimit:=by have:=r.dp;omega
def Room.units {k:Nat}{A:Around}(r:Room k A):A.units+64<cLine:=by have:=r.un;omega
def z5y:TA:=fun _ H Q=>Q [] H
def z0y (ta:TE)(tr:TA):TA:=fun σ H Q=>ta σ H fun x H1=>tr σ H1 fun xs H2=>Q (x::xs) H2
section
variable {X:Cx}{e:Expr}{es:List Expr}{te:TE}{t:TA}{pos:Pos}
def vY:PA X [] z5y:=fun _ _ _ _ H Q I h=>Calls.spliced_nil ⟨[],H,I,.nil,h⟩
def yG (ha:PE X e te)(hr:PA X es t)(hs:autoParam (starEach (e::es) X.env=(false,eval e X.env)::starEach es X.env) au3._auto_1):PA X (e::es) (z0y te t):=by
 intro pos pins s σ H Q I h;rw[hs];show wpAny _ _ (spliced ((false,eval e X.env)::backTo pos (starEach es X.env))) _ _ s;refine Calls.spliced_cons (thn (ha pins s σ H _ I h) fun u s1 ⟨x,H1,I1,r1,q1⟩=>?_);exact thn (hr pos pins s1 σ H1 _ I1 q1) fun us s2 ⟨xs,H2,I2,r2,q2⟩=>⟨x::xs,H2,I2,.cons r1 r2,q2⟩
def z4I (t:TA):TE:=fun σ H Q=>t σ H fun xs H1=>xs.length<=sizeLine/\∀p,H1 p=none->Q (.ref p) (upd H1 p (.tup xs))
def z5k (t:TA):TE:=fun σ H Q=>t σ H fun xs H1=>xs.length<=sizeLine/\∀p,H1 p=none->Q (.ref p) (upd H1 p (.lst xs))
def Uj {x1}(h:PA X es t):PE X (.Tuple es x1 pos) (z4I t):=by
 intro pins s σ H Q I hq;refine wpAny_Tuple_spliced (thn (h pos pins s σ H _ I hq) fun us s1 ⟨xs,H1,I1,r,z,q⟩=>⟨by rw[<-r.length];exact z,?_⟩);have hf:H1 s1.heap.objs.size=none:=I1.hok.fresh (sL _);refine⟨.ref s1.heap.objs.size,upd H1 s1.heap.objs.size (.tup xs),I1.laid (t':=s1.toks) (fun b u e=>jYb _ e) (sL _) ?_,rfl,q _ hf⟩;exact⟨z,us,r,TupN.new _ _⟩
def z47 (h:PA X es t):PE X (.List es pos) (z5k t):=by
 intro pins s σ H Q I hq;refine wpAny_List_spliced (thn (h pos pins s σ H _ I hq) fun us s1 ⟨xs,H1,I1,r,z,q⟩=>⟨by rw[<-r.length];exact z,?_⟩);have hf:H1 s1.heap.objs.size=none:=I1.hok.fresh (sL _);refine⟨.ref s1.heap.objs.size,upd H1 s1.heap.objs.size (.lst xs),I1.laid (t':=s1.toks) (fun b u e=>jYb _ e) (sL _) ?_,rfl,q _ hf⟩;exact⟨z,us,0,r,jYd _ rfl⟩
end
abbrev Sp:=List V->Hp->VK->XK->Prop
abbrev CXT:=List Env->Hp->Shared->XK->Value->Shared->Prop
structure Env0 (P:Program)(w:World)(K:jJa)(mg:Str->Option Value)(base:Heap)(A:Around)(outer:List Env)(s:Shared)(H:Hp):Prop where
 frames:A.frames=some outer
 mod:Mod K mg base
 bs:∀b o,base.get? b=some o->s.heap.get? b=some o/\H b=none
 bsz:base.objs.size<=s.heap.objs.size
 funs:s.heap.FunFrames base outer
 frf:∀b∈frs outer,H b=none
 hok:HOk P w H s.heap
 bare:AllBare s.gens
def CE (outer:List Env)(P:Program)(w:World)(H:Hp)(s:Shared)(Q:VK)(u:Value)(s':Shared):Prop:=
 ∃v H',s'.os=s.os/\AllBare s'.gens/\Un (frs outer) [] H H' s.heap s'.heap/\HOk P w H' s'.heap/\RelV v u/\Q v H'
def CR (CX:CXT)(outer:List Env)(P:Program)(w:World)(H:Hp)(s:Shared)(Q:VK)(E:XK)(r:Result)(s':Shared):Prop:=
 match r with
 | .ok (.ret u)=>CE outer P w H s Q u s'
 | .ok _=>False
 | .error e=>CX outer H s E e s'
structure FnOk (P:Program)(w:World)(K:jJa)(mg:Str->Option Value)(base:Heap)(CX:CXT)(k:Nat)(f:Addr)(fd:FuncData)(ps:List Str)(sp:Sp):Prop where
 len:∀vs H Q E,sp vs H Q E->vs.length=ps.length
 run:∀(A:Around) (outer:List Env) (s:Shared) (H:Hp) (args:Args) (us:List Value) (vs:List V) (Q:VK) (E:XK),Room k A->Env0 P w K mg base A outer s H->BindsTo s fd args (ps.zip us)->Vals vs us->sp vs H Q E ->
  codeAny (model P w) A (.call (.ref f) args) (CR CX outer P w H s Q E) s
def FnOk.mono {P:Program}{w:World}{K:jJa}{mg:Str->Option Value}{base:Heap}{CX:CXT}{j k:Nat}{f:Addr}{fd:FuncData}{ps:List Str}{sp:Sp}(F:FnOk P w K mg base CX j f fd ps sp)(h:j<=k):
  FnOk P w K mg base CX k f fd ps sp:=⟨F.len,fun A outer s H args us vs Q E hr=>F.run A outer s H args us vs Q E (hr.mono h)⟩
def Env0.in1 {P:Program}{w:World}{K:jJa}{mg:Str->Option Value}{base:Heap}{A:Around}{outer:List Env}{s:Shared}{H:Hp}(e:Env0 P w K mg base A outer s H):
  Env0 P w K mg base A.in1 outer s H:=⟨e.frames,e.mod,e.bs,e.bsz,e.funs,e.frf,e.hok,e.bare⟩
section
variable {X:Cx}{pins:List (Addr×Obj)}{σ:St}{H:Hp}{s s':Shared}
def Inv.env0 (I:Inv X pins σ H s):Env0 X.prog X.w X.K X.mg X.base X.A X.stack s H:=
 ⟨I.ok.frames,I.ok.mod,I.bs,rD I.ok.bsz I.sz,I.stack,I.stkFree,I.hok,I.bare⟩
def Inv.after {Q:VK}{u:Value}(I:Inv X pins σ H s)(h:CE X.stack X.prog X.w H s Q u s'):EP X pins σ Q u s':=by
 obtain⟨v,H',os,bare,un,hok,r,q⟩:=h;obtain⟨hh,g,d,t,os'⟩:=s';obtain rfl:os'=s.os:=os;exact⟨v,H',I.call (h':=hh) (g':=g) (d':=d) (t':=t) (ch:=[]) un hok bare (fun b z=>absurd z (by simp)),r,q⟩
end
def z05 (sp:Sp)(dvs:List V)(E:XK)(t:TA):TE:=fun σ H Q=>t σ H fun vs H1=>sp (vs++dvs) H1 Q E
def Binds (K:jJa)(fd:FuncData)(ps:List Str)(ds:List Value):Prop:=
 ∀(s:Shared) (us:List Value),K.In s.heap->(us++ds).length=ps.length->BindsTo s fd ⟨us,[]⟩ (ps.zip (us++ds))
def Binds.all {K:jJa}{fd:FuncData}{ps:List Str}(h:∀us:List Value,us.length=ps.length->bindArgs fd ⟨us,[]⟩=pure (ps.zip us)):Binds K fd ps []:=fun s us _ hl=>by
 rw[tZ]at hl ⊢;exact .of_eq (h us hl)
def vW (CX:CXT)(X:Cx)(E:XK):Prop:=∀(pins:List (Addr×Obj)) (σ:St) (H:Hp) (s:Shared) (e:Value) (s':Shared),Inv X pins σ H s->CX X.stack H s E e s'->X.xe e s'
section
variable {X:Cx}{CX:CXT}{k:Nat}{f C:Addr}{fd:FuncData}{ps:List Str}{sp:Sp}{dvs:List V}{ds:List Value}{E:XK}{x m:Str}{p pos apos:Pos}{e o:Expr}{es:List Expr}{ta:TE}{t:TA}
def z06 {pins:List (Addr×Obj)}{σ:St}{H:Hp}{s:Shared}{Q:VK}{us:List Value}{vs:List V}(F:FnOk X.prog X.w X.K X.mg X.base CX k f fd ps sp)(hr:Room k X.A)(hb:Binds X.K fd ps ds)(hd:Vals dvs ds)(hx:vW CX X E)
  (I:Inv X pins σ H s) (r:Vals vs us) (h:sp (vs++dvs) H Q E):wpAny (model X.prog X.w) X.A (call (.ref f) us) (EP X pins σ Q) X.xe s:=by
 have r2:Vals (vs++dvs) (us++ds):=r.append hd;have hl:(us++ds).length=ps.length:=by rw[<-r2.length];exact F.len _ _ _ _ h
 refine wpAny_call (codeAny_mono (F.run X.A X.stack s H ⟨us,[]⟩ (us++ds) (vs++dvs) Q E hr I.env0 (hb s us I.kIn hl) r2 h) fun r s' hq=>?_);cases r with
 | error e=>exact hx pins σ H s e s' I hq
 | ok fl =>
  cases fl with
  | ret u=>exact I.after hq
  | next=>exact False.elim hq
  | brk=>exact False.elim hq
  | cont=>exact False.elim hq
def z1E (F:FnOk X.prog X.w X.K X.mg X.base CX k f fd ps sp)(hr:Room k X.A)(hg:Gl X x)(hm:X.mg x=some (.ref f))(hk:jJf X.K (.ref f)=true)(hb:Binds X.K fd ps ds)(hd:Vals dvs ds)(hx:vW CX X E)
  (ha:PA X (e::es) t) (hdb:autoParam ((x==("__debug__":Str))=false) au1._auto_1) (he:autoParam (starEach (e::es) X.env=(false,eval e X.env)::starEach es X.env) au3._auto_1) (hpl:autoParam ((backTo pos (starEach es X.env)).any (·.1)=false) au3._auto_1):
  PE X (.Call (.Name x p) (e::es) [] pos) (z05 sp dvs E t):=by
 intro pins s σ H Q I h;refine wpAny_Call_Name_kw (jI I hg hm ?_ hdb);refine jJu (h₀:=X.base) I.ok.mod.kin hk (thn (ha pos pins s σ H _ I h) fun us s1 ⟨vs,H1,I1,r,q⟩=>⟨I1.kIn,?_⟩) he hpl;exact z06 F hr hb hd hx I1 r q
structure Mk (K:jJa)(C f:Addr):Prop where
 makes:PySem.W.makesIn K C=true
 init:jJd K (.ref C) "__init__"=some (some (.ref f))
 fn:PySem.W.isFn K (.ref f)=true
 kp:jJf K (.ref C)=true
end
section
variable {X:Cx}{CX:CXT}{k:Nat}{f C:Addr}{fd:FuncData}{ps ks:List Str}{sp:Sp}{E:XK}{x m:Str}{p pos apos kpos:Pos}{e o:Expr}{es:List Expr}{kws:List Keyword}{te ta:TE}{t tk:TA}{nm:Option Str}
structure KBinds (K:jJa)(fd:FuncData)(ps ks:List Str)(g:List Value->List Value->List Value)(gV:List V->List V->List V):Prop where
 to:∀(s:Shared) (us ws:List Value),K.In s.heap->(g us ws).length=ps.length->BindsTo s fd ⟨us,ks.zip ws⟩ (ps.zip (g us ws))
 rel:∀ {vs:List V} {us:List Value} {zs:List V} {ws:List Value},Vals vs us->Vals zs ws->Vals (gV vs zs) (g us ws)
variable {g:List Value->List Value->List Value}{gV:List V->List V->List V}
end
structure FnScope (N P:List Str)(sc:Scope):Prop where
 kind:sc.kind=.function
 co:sc.isCoroutine=false
 gen:sc.isGenerator=false
 nd:N.Nodup
 pre:N.take P.length=P
 par:∀x∈P,sc.names.lookup x=some .local\/sc.names.lookup x=some .cell
 nofree:∀y∈sc.names,y.2≠.free
def YT {kindOf:Str->Option NameKind}{x:Str}:∀ {binds:List (Str×Value)} {m:Str->Option Value},(∀v,(x,v)∉binds)->bindL kindOf binds m x=m x
 | [],_,_=>rfl
 | (n,v)::r,m,h=>by
  unfold bindL;rw[YT fun w hw=>h w (tS _ hw)];split
  ·have:x≠n:=by rintro rfl;exact h v tN
   simp[this]
  ·rfl
def X0 {kindOf:Str->Option NameKind}{x:Str}:∀ {binds:List (Str×Value)} {m:Str->Option Value},(∀v,(x,v)∉binds)->bindC kindOf binds m x=m x
 | [],_,_=>rfl
 | (n,v)::r,m,h=>by
  unfold bindC;rw[X0 fun w hw=>h w (tS _ hw)];split
  ·rfl
  ·have:x≠n:=by rintro rfl;exact h v tN
   simp[this]
def YU {kindOf:Str->Option NameKind}{x:Str}{v:Value}:∀ {P:List Str} {vs:List Value} {i:Nat} {m:Str->Option Value},P.Nodup->P[i]?=some x->vs[i]?=some v->kindOf x=some .local ->
  bindL kindOf (P.zip vs) m x=some v
 | [],_,_,_,_,h,_,_=>by simp at h
 | _::_,[],_,_,_,_,h,_=>by simp at h
 | p::P,w::vs,0,m,nd,h1,h2,hk=>by
  simp at h1 h2;subst h1;subst h2;show bindL kindOf ((p,w)::P.zip vs) m p=_;unfold bindL;rw[YT fun v hv=>(rC.mp nd).1 (List.of_mem_zip hv).1,if_pos hk];simp
 | p::P,w::vs,i+1,m,nd,h1,h2,hk=>by
  show bindL kindOf ((p,w)::P.zip vs) m x=_;unfold bindL;exact YU (i:=i) (rC.mp nd).2 (by simpa using h1) (by simpa using h2) hk
def YN {kindOf:Str->Option NameKind}{x:Str}{v:Value}:∀ {P:List Str} {vs:List Value} {i:Nat} {m:Str->Option Value},P.Nodup->P[i]?=some x->vs[i]?=some v->kindOf x≠some .local ->
  bindC kindOf (P.zip vs) m x=some v
 | [],_,_,_,_,h,_,_=>by simp at h
 | _::_,[],_,_,_,_,h,_=>by simp at h
 | p::P,w::vs,0,m,nd,h1,h2,hk=>by
  simp at h1 h2;subst h1;subst h2;show bindC kindOf ((p,w)::P.zip vs) m p=_;unfold bindC;rw[X0 fun v hv=>(rC.mp nd).1 (List.of_mem_zip hv).1,if_neg hk];simp
 | p::P,w::vs,i+1,m,nd,h1,h2,hk=>by
  show bindC kindOf ((p,w)::P.zip vs) m x=_;unfold bindC;exact YN (i:=i) (rC.mp nd).2 (by simpa using h1) (by simpa using h2) hk
def start (N:List Str)(vs:List V):St:=vs.map some++List.replicate (N.length-vs.length) none
def vp (CX:CXT)(P:Program)(w:World)(K:jJa)(mg:Str->Option Value)(base:Heap)(N:List Str)(qual:Str)(scope:Scope)(f:Addr)(cd:Value)(A:Around)(outer:List Env)(s:Shared)(H:Hp)(E:XK):Cx where
 prog:=P
 w:=w
 K:=K
 mg:=mg
 base:=base
 A:=A.deeper (envOfC qual scope s.heap.objs.size f cd)
 N:=N
 s₀:=s
 H₀:=H
 env:=envOfC qual scope s.heap.objs.size f cd
 outer:=outer
 stack:=envOfC qual scope s.heap.objs.size f cd::outer
 ex:=[]
 calm:=true
 fn:=fun _=>true
 pn:=[]
 xe:=fun e s'=>wpAny (model P w) (A.deeper (envOfC qual scope s.heap.objs.size f cd)) (leaving (envOfC qual scope s.heap.objs.size f cd) e) (fun _ s''=>CX outer H s E e s'') (fun e' s''=>CX outer H s E e' s'') s'
def Yn {sc:Scope}{n:Nat}{x:Str}(h:sc.names.lookup x=some .cell):∃c,(cellsFrom n sc.names []).lookup x=some c:=by
 have q:=jJ3 sc.names n [] (.inl h);exact Option.isSome_iff_exists.mp q
def Ji {CX:CXT}{P:Program}{w:World}{K:jJa}{mg:Str->Option Value}{base:Heap}{N ps:List Str}{qual:Str}{scope:Scope}{f:Addr}{cd:Value}{A:Around}{outer:List Env}{s s1:Shared}{H:Hp}{E:XK}{us:List Value}{vs:List V}
  (S:FnScope N ps scope) (hd:A.handled=none) (e0:Env0 P w K mg base A outer s H) (hl:vs.length=ps.length) (r:Vals vs us)
  (x:InCallC s s.heap.objs.size (bindL (envOfC qual scope s.heap.objs.size f cd).kindOf (ps.zip us) fun _=>none) (cellsFrom (s.heap.objs.size+1) scope.names []) (bindC (envOfC qual scope s.heap.objs.size f cd).kindOf (ps.zip us) fun _=>none) s1):
  Inv (vp CX P w K mg base N qual scope f cd A outer s H E) [] (start N vs) H s1:=by
 have hpl:ps.length<=N.length:=by have:=congrArg List.length S.pre;rw[rR]at this;omega
 obtain⟨h1,tk,rfl,hk⟩:=x.done;have noA:∀b:Addr,b∉(vp CX P w K mg base N qual scope f cd A outer s H E).ex:=fun b z=>absurd (show b∈([]:List Addr) from z) (by simp);refine⟨⟨e0.mod,S.kind,rfl,rfl,sL _,fun y z c h1 h2=>?_,fun y hy=>?_,fun y c _ h=>?_,fun _=>hd,Around.frames_deeper e0.frames,.inr ⟨rfl,rfl⟩,fun b z=>absurd z (noA b),e0.bs,e0.bsz,fun b _ _=>noA b,fun b z=>absurd z (noA b),e0.funs,e0.frf⟩,
  rfl,e0.bare,Un.kept hk,⟨_,x.toInCall.ns,fun i y v h1 h2 h3=>?_⟩,fun y c h=>⟨_,x.cell y c h⟩,e0.hok.fresh (sL _),fun y c h=>?_,fun p hp=>absurd (show p∈([]:List (Addr×Obj)) from hp) (by simp),e0.hok.kept hk,?_⟩
 ·exact name_of_addr x.apart (PySem.mem_of_lookup h1) (PySem.mem_of_lookup h2)
 ·have hy:scope.names.lookup y=some .cell\/scope.names.lookup y=some .free:=hy;rcases hy with hy|hy
  ·exact Yn hy
  ·exact absurd rfl (S.nofree _ (PySem.mem_of_lookup hy))
 ·exact rJ (x.above y c (PySem.mem_of_lookup h))
 ·have hi:i<vs.length:=by
   unfold start at h2
   by_cases hi:i<vs.length
   ·exact hi
   ·rw[rM (by simpa using hi)]at h2;rw[rQ]at h2;split at h2<;>cases h2
  have ha:vs[i]?=some v:=by
   unfold start at h2;rw[rE (by simpa using hi),sV]at h2;cases e:vs[i]? with
   | none=>rw[e]at h2;cases h2
   | some a=>rw[e]at h2;cases h2;rfl
  obtain⟨u,hu,rv⟩:=r.get ha;have hp:ps[i]?=some y:=by
   rw[<-S.pre,List.getElem?_take_of_lt (by omega)];exact h1
  have ndP:ps.Nodup:=by rw[<-S.pre];exact S.nd.sublist (List.take_sublist _ _)
  refine⟨u,rv,?_⟩;rcases S.par y (List.mem_of_getElem? hp)with k|k
  ·exact .inl ⟨k,YU ndP hp hu k⟩
  ·obtain⟨c,e⟩:=Yn (n:=s.heap.objs.size+1) k;refine .inr ⟨.inl k,c,e,?_⟩;have q:=x.cell y c e;rw[YN ndP hp hu (by show scope.names.lookup y≠_;rw[k];decide)]at q;exact q
 ·exact e0.hok.fresh (rJ (x.above y c (PySem.mem_of_lookup h)))
 ·unfold start;show _=N.length;rw[tH,tU,sW];omega
def JJ {CX:CXT}{P:Program}{w:World}{K:jJa}{mg:Str->Option Value}{base:Heap}{k:Nat}{f:Addr}{name qual:Str}{params:Arguments}{body:List Stmt}{scope:Scope}{dV kV doc pm cdv ct oc:Value}{an od:Option Addr}
  {osl:Array (Option Value)} {N ps:List Str} {sp:Sp} (lk:K.lookup f=some ⟨oc,od,.func (jJe name qual params body scope dV kV doc pm an cdv ct),osl⟩) (hcd:jJj K cdv qual=true) (S:FnScope N ps scope)
  (len:∀vs H Q E,sp vs H Q E->vs.length=ps.length)
  (hbody:∀(A:Around) (outer:List Env) (s:Shared) (H:Hp) (vs:List V) (Q:VK) (E:XK),Room k (A.deeper (envOfC qual scope s.heap.objs.size f cdv))->sp vs H Q E ->
   ∃t,PSs (vp CX P w K mg base N qual scope f cdv A outer s H E) body t/\t { nx:=fun _ H'=>Q .non H',rt:=Q } (start N vs) H):
  FnOk P w K mg base CX (k+1) f (jJe name qual params body scope dV kV doc pm an cdv ct) ps sp:=by
 refine⟨len,fun A outer s H args us vs Q E hr e0 hb r hsp=>?_⟩;have hl:=len _ _ _ _ hsp;have KX:K.In s.heap:=e0.mod.kin.keeps fun b o e=>(e0.bs b o e).1;have lim:s.heap.NoLimit:=e0.mod.nolimit.keeps fun b o e=>(e0.bs b o e).1;have hkind:∀y∈ps.zip us,scope.names.lookup y.1=some .local\/(scope.names.lookup y.1=some .cell/\((cellsFrom (s.heap.objs.size+1) scope.names []).lookup y.1).isSome=true):=fun⟨n,v⟩ hy=>by
  rcases S.par n (List.of_mem_zip hy).1 with q|q
  ·exact .inl q
  ·exact .inr ⟨q,jJ3 _ _ _ (.inl q)⟩
 refine codeAny_call_function hr.depth (KX _ _ lk) rfl S.co S.gen rfl (PySem.W.codeRec_of KX hcd) (hb _ _ _ _ ?_);refine wpAny_newFunctionEnv_cells S.kind hkind fun env he s1 x=>?_;subst he;refine⟨lim.keeps x.toInCall.keep,codeAny_func ?_⟩;obtain⟨t,ht,hq⟩:=hbody A outer s H vs Q E (hr.deeper _) hsp;have I:Inv (vp CX P w K mg base N qual scope f cdv A outer s H E) [] (start N vs) H s1:=Ji S hr.hd e0 hl r x;refine wpAny_mono (ht [] s1 (start N vs) H _ I hq) (fun fl s' hs=>?_) fun e s' hs=>hs;have fin:∀ {σ':St} {H':Hp} {v:V} {u:Value},Inv (vp CX P w K mg base N qual scope f cdv A outer s H E) [] σ' H' s'->RelV v u->Q v H'->CE outer P w H s Q u s' :=
  fun {σ' H' v u} J rv q=>⟨v,H',J.os,J.bare,J.base,J.hok,rv,q⟩
 cases fl with
 | ret u =>
  obtain⟨v,σ',H',J,rv,q⟩:=hs;exact fin J rv q
 | next =>
  obtain⟨σ',H',J,q⟩:=hs;exact fin (v:=V.non) (u:=Value.none) J rfl q
 | brk =>
  obtain⟨_,_,_,q⟩:=hs;exact False.elim q
 | cont =>
  obtain⟨_,_,_,q⟩:=hs;exact False.elim q
section
variable {X:Cx}{x:Str}{p pos:Pos}{e:Expr}{es:List Expr}{t:TA}{id T:String}{r:List V->Hp->VK->Prop}
def tCB (r:List V->Hp->VK->Prop)(t:TA):TE:=fun σ H Q=>t σ H fun vs H1=>r vs H1 Q
def uE (hc:CallR X (.builtin id) r)(hg:Gl X x)(hm:X.mg x=none)(hv:bootBuiltins x=some (.builtin id))(ha:PA X (e::es) t)(hn:autoParam (x≠"__name__") au1._auto_1)(hdb:autoParam ((x==("__debug__":Str))=false) au1._auto_1)
  (he:autoParam (starEach (e::es) X.env=(false,eval e X.env)::starEach es X.env) au3._auto_1) (hpl:autoParam ((backTo pos (starEach es X.env)).any (·.1)=false) au3._auto_1):PE X (.Call (.Name x p) (e::es) [] pos) (tCB r t):=by
 intro pins s σ H Q I h;refine wpAny_Call_Name_kw (ZF I hg hm hv ?_ hn hdb);exact PyProof.Rows.callWith_builtin1 (thn (ha pos pins s σ H _ I h) fun us s1 ⟨vs,H1,I1,r1,q1⟩=>hc pins s1 σ H1 vs us Q I1 r1 q1) he hpl
def Jo (hc:CallR X (.type T) r)(hg:Gl X x)(hm:X.mg x=none)(hv:bootBuiltins x=some (.type T))(ha:PA X (e::es) t)(hn:autoParam (x≠"__name__") au1._auto_1)(hdb:autoParam ((x==("__debug__":Str))=false) au1._auto_1)
  (he:autoParam (starEach (e::es) X.env=(false,eval e X.env)::starEach es X.env) au3._auto_1) (hpl:autoParam ((backTo pos (starEach es X.env)).any (·.1)=false) au3._auto_1):PE X (.Call (.Name x p) (e::es) [] pos) (tCB r t):=by
 intro pins s σ H Q I h;refine wpAny_Call_Name_kw (ZF I hg hm hv ?_ hn hdb);exact PyProof.Rows.callWith_type1 (thn (ha pos pins s σ H _ I h) fun us s1 ⟨vs,H1,I1,r1,q1⟩=>hc pins s1 σ H1 vs us Q I1 r1 q1) he hpl
end
end L2
namespace HT
open PySem PyProof.Rows
section
open PySem.SeqAt
open PySem.AutoSeq1 (wpAny_loadPart')
open PySem.MeetsSeq PySem.MeetsSeq2 PySem.MeetsSeq3
end
section
variable {prog:Program}{w:World}{A:Around}{E:Value->Shared->Prop}{s:Shared}
def cat_tup {t b:Addr}{vs ws:List Value}{Q:Value->Shared->Prop}(ht:IsTup s.heap t vs.toArray)(hb:IsTup s.heap b ws.toArray)(hv:vs≠[])
  (h1:ws=[]->Q (.ref t) s) (h2:ws≠[]->Q (.ref s.heap.objs.size) { s with heap:=s.heap.push { cls:=.type "tuple",data:=.seq (vs++ws).toArray } })
  (hsz:vs.length+ws.length<=sizeLine):wpAny (model prog w) A (binaryOp .Add (.ref t) (.ref b)) Q E s:=by
 obtain⟨⟨cls,dd,data,sl⟩,ho,hc,n,hd⟩:=id ht;obtain⟨⟨cls2,dd2,data2,sl2⟩,ho2,hc2,n2,hd2⟩:=id hb;simp only at hc hd hc2 hd2;subst hc hd hc2 hd2;have e:vs.toArray++ws.toArray=(vs++ws).toArray:=by simp
 by_cases hw:ws=[]
 ·exact concat_meets ⟨_,ho,rfl⟩ ⟨_,ho2,rfl⟩ noFill_tuple_add seq_tuple_add jQ2 jQ3 (jQ4 _ _)
   (tuple_addW1 t b vs.toArray ws.toArray n n2 dd dd2 sl sl2 (by simpa using hv) (by simp[hw])) ⟨ho,ho2,h1 hw⟩
 ·refine concat_meets ⟨_,ho,rfl⟩ ⟨_,ho2,rfl⟩ noFill_tuple_add seq_tuple_add jQ2 jQ3 (jQ4 _ _)
   (tuple_addW2 t b vs.toArray ws.toArray n n2 dd dd2 sl sl2 (by simpa using hv) (by simpa using hw) (by rw[sM,sM];exact hsz)) ⟨ho,ho2,?_⟩
  rw[e];exact h2 hw
def sIx (n d:Nat):Option Int->Nat
 | none=>d
 | some v=>if v<0 then (v+(n:Int)).toNat else min v.toNat n
def sIx_none (n d:Nat):sIx n d none=d:=rfl
def sIx_nat (n d k:Nat):sIx n d (some (k:Int))=min k n:=by
 show (if (k:Int)<0 then ((k:Int)+(n:Int)).toNat else min (k:Int).toNat n)=min k n;rw[if_neg (by omega),Int.toNat_natCast]
def z4s (n d:Nat)(hd:d<=n)(o:Option Int):sIx n d o<=n:=by
 cases o with
 | none=>exact hd
 | some v =>
  show (if v<0 then (v+(n:Int)).toNat else min v.toNat n)<=n
  by_cases hv:v<0
  ·rw[if_pos hv];omega
  ·rw[if_neg hv];exact Nat.min_le_right _ _
def Qe (v:Int)(n d:Nat):(if v<0 then max (v+(n:Int)) 0 else min v (n:Int))=((sIx n d (some v):Nat):Int):=by
 show (if v<0 then max (v+(n:Int)) 0 else min v (n:Int))=(((if v<0 then (v+(n:Int)).toNat else min v.toNat n):Nat):Int)
 by_cases hv:v<0
 ·simp only[if_pos hv];omega
 ·simp only[if_neg hv];omega
def UK (lo hi:Option Int)(n:Nat):Builtin.Slice.sliceAdjust lo hi 1 (n:Int)=(((sIx n 0 lo:Nat):Int),((sIx n n hi:Nat):Int)):=by
 have h1:¬((1:Int)<0):=by omega
 unfold Builtin.Slice.sliceAdjust;simp only[h1,if_false];refine Prod.ext ?_ ?_
 ·cases lo with
  | none=>rfl
  | some v=>exact Qe v n 0
 ·cases hi with
  | none=>rfl
  | some v=>exact Qe v n n
def U3 (i j:Nat):Builtin.Slice.slicePlaces (i:Int) (j:Int) 1=j-i:=by
 unfold Builtin.Slice.slicePlaces;have h1:(1:Int)>0:=by omega
 simp only[h1,if_true,Int.ediv_one];split<;>omega
def Zo {v:Value}{o:Option Int}{Q:Option Int->Shared->Prop}(p:IsPart v o)(h:Q o s):wpAny (model prog w) A (Builtin.Slice.slicePartIndex v) Q E s:=by
 cases p with
 | none=>exact slicePart_none h
 | int i t=>exact slicePart_int h
def sliceApplied_gen {sl:Addr}{vl vu:Value}{lo hi:Option Int}{n:Nat}{Q:Int×Int×Nat->Shared->Prop}(hs:s.heap.IsSliceOf sl vl vu .none)(pl:IsPart vl lo)(pu:IsPart vu hi)
  (h:Q (((sIx n 0 lo:Nat):Int),1,sIx n n hi-sIx n 0 lo) s):wpAny (model prog w) A (Builtin.Slice.sliceApplied (.ref sl) (pure (n:Int))) Q E s:=by
 obtain⟨os,hos,hcs,hds⟩:=id hs;unfold Builtin.Slice.sliceApplied Builtin.Slice.sliceFields;refine wpAny_bind (wpAny_bind (wpAny_field hos hds (x:=vl) rfl (wpAny_bind (wpAny_field hos hds (x:=vu) rfl (wpAny_bind (wpAny_field hos hds (x:=.none) rfl (wpAny_pure ?_)))))));refine wpAny_bind (slicePart_none ?_);show wpAny _ _ (if ((1:Int)==0)=true then _ else _) _ _ s;rw[if_neg (by decide)];refine wpAny_bind (Zo pl (wpAny_bind (Zo pu (wpAny_bind (wpAny_pure ?_)))));show wpAny _ _ (match Builtin.Slice.sliceAdjust lo hi 1 (n:Int)with|(lo,hi)=>pure (lo,(1:Int),Builtin.Slice.slicePlaces lo hi 1)) _ _ s;rw[UK lo hi n];show wpAny _ _ (pure (((sIx n 0 lo:Nat):Int),(1:Int),Builtin.Slice.slicePlaces ((sIx n 0 lo:Nat):Int) ((sIx n n hi:Nat):Int) 1)) _ _ s;rw[U3];exact wpAny_pure h
def z0j (xs:Array Value)(i k:Nat):((List.range k).filterMap fun (m:Nat)=>xs[((i:Int)+(m:Int)*1).toNat]?).toArray=((xs.toList.drop i).take k).toArray:=by
 have e:(fun (m:Nat)=>xs[((i:Int)+(m:Int)*1).toNat]?)=fun m=>xs[i+m]?:=by
  funext m
  have:((i:Int)+(m:Int)*1).toNat=i+m:=by omega
  rw[this]
 rw[e];have:=pick_run xs i k;rw[List.filterMap_map]at this;have e2:((fun x=>xs[x]?) ∘ fun x=>i+x)=fun m=>xs[i+m]?:=rfl;rw[e2]at this;rw[this]
def getItem_tuple_cut {t sl:Addr}{items:Array Value}{vl vu:Value}{lo hi:Option Int}{Q:Value->Shared->Prop}(ht:IsTup s.heap t items)(hs:s.heap.IsSliceOf sl vl vu .none)(pl:IsPart vl lo)(pu:IsPart vu hi)
  (hw:¬(sIx items.size 0 lo=0/\sIx items.size items.size hi=items.size))
  (h:Q (.ref s.heap.objs.size) { s with heap:=s.heap.push { cls:=.type "tuple",data:=.seq ((items.toList.drop (sIx items.size 0 lo)).take (sIx items.size items.size hi-sIx items.size 0 lo)).toArray } })
  (hsz:items.size<=sizeLine):wpAny (model prog w) A (getItem (.ref t) (.ref sl)) Q E s:=by
 have htake:sizeOk (.seq ((items.toList.drop (sIx items.size 0 lo)).take (sIx items.size items.size hi-sIx items.size 0 lo)).toArray):=by
  show ((items.toList.drop (sIx items.size 0 lo)).take (sIx items.size items.size hi-sIx items.size 0 lo)).toArray.size<=sizeLine;rw[sM,rR,rL,Array.length_toList];omega
 have hj:sIx items.size items.size hi<=items.size:=z4s _ _ (sL _) hi;obtain⟨os,hos,hcs,hds⟩:=id hs;have hTs:s.TypeIs (.ref sl) "slice":=⟨os,hos,hcs⟩
 unfold getItem
 try with_reducible refine wpAny_holding ?_
 first|refine wpAny_bind (wpAny_pure ?_)|skip
 refine wpAny_bind (wpAny_sequenceKey ht.typeIs (by decide) ?_);refine wpAny_bind (wpAny_callSpecial?_slot (name:=Str.ofString "__getitem__") ht.typeIs PyProof.Rows.slot_tuple_getitem
  (wpAny_call_entry PyProof.Rows.slot_tuple_getitem ht.typeIs entry_tuple_getitem ?_ (args_tuple_getitem _ _)))
 show wpAny _ _ (Builtin.Tuple.tupleItemsOf (.ref t) >>= _) _ _ s;refine wpAny_bind (tupleItemsOf_ ht ?_);refine wpAny_bind (wpAny_typeOf hTs ?_);rw[if_pos (by decide)];refine wpAny_bind (sliceApplied_gen hs pl pu ?_);have hno:¬((((sIx items.size 0 lo:Nat):Int)==0&&(1:Int)==1&&(sIx items.size items.size hi-sIx items.size 0 lo)==items.size)=true):=by
  intro q;rw[sY,sY]at q;have q1:((sIx items.size 0 lo:Nat):Int)=0:=eq_of_beq q.1.1;have q2:sIx items.size items.size hi-sIx items.size 0 lo=items.size:=eq_of_beq q.2;exact hw ⟨by omega,by omega⟩
 show wpAny _ _ (if (((sIx items.size 0 lo:Nat):Int)==0&&(1:Int)==1&&(sIx items.size items.size hi-sIx items.size 0 lo)==items.size)=true then _ else _) _ _ s;rw[if_neg hno,z0j]
 first
  | exact wpAny_bind (m:=Builtin.Tuple.tupleExact _) (wpAny_newObj_type (wpAny_pure ⟨_,rfl,wpAny_pure h⟩) htake)
  | exact wpAny_bind (m:=Builtin.Tuple.tupleExact _) (wpAny_newObj_type (wpAny_bind (wpAny_pure (wpAny_pure ⟨_,rfl,wpAny_pure h⟩))) htake)
  | exact wpAny_bind (wpAny_bind (m:=Builtin.Tuple.tupleExact _) (wpAny_newObj_type (wpAny_pure (wpAny_pure ⟨_,rfl,wpAny_pure h⟩)) htake))
  | exact wpAny_bind (wpAny_bind (m:=Builtin.Tuple.tupleExact _) (wpAny_newObj_type (wpAny_pure ⟨_,rfl,wpAny_pure h⟩) htake))
end
end HT
namespace L2
open PySem PySem.Spec PyProof.Rows
abbrev TO:=St->Hp->(Option Int->Hp->Prop)->Prop
def PO (X:Cx)(e:Option Expr)(t:TO):Prop:=
 ∀(pins:List (Addr×Obj)) (s:Shared) (σ:St) (H:Hp) (Q:Option Int->Hp->Prop),Inv X pins σ H s->t σ H Q ->
  wpAny (model X.prog X.w) X.A (evalPart e X.env) (fun u s'=>∃o H',Inv X pins σ H' s'/\IsPart u o/\Q o H') X.xe s
def QK:TO:=fun _ H Q=>Q none H
def z2w (t:TE):TO:=fun σ H Q=>t σ H fun x H1=>∃i,x=.int i/\Q (some i) H1
section
variable {X:Cx}{e:Expr}{te:TE}{lo hi:Option Expr}{tl th:TO}{pos p2:Pos}
def z1B:PO X none QK:=by
 intro pins s σ H Q I h;rw[evalPart_none];exact wpAny_pure ⟨none,H,I,.none,h⟩
def z1O (h:PE X e te):PO X (some e) (z2w te):=by
 intro pins s σ H Q I hw;rw[evalPart_some];refine thn (h pins s σ H _ I hw) fun u s1 ⟨x,H1,I1,r1,q1⟩=>?_;obtain⟨i,rfl,q⟩:=q1;obtain⟨t,rfl⟩:=r1;exact⟨some i,H1,I1,.int i t,q⟩
def SlR (X:Cx)(r:V->Option Int->Option Int->Hp->VK->Prop):Prop:=
 ∀(pins:List (Addr×Obj)) (s:Shared) (σ:St) (H:Hp) (x:V) (v vl vu:Value) (lo hi:Option Int) (sl:Addr) (Q:VK),Inv X pins σ H s->RelV x v->s.heap.IsSliceOf sl vl vu .none->IsPart vl lo->IsPart vu hi->r x lo hi H Q ->
  ∃T id,typeLookup (.type T) "__getitem__"=pure (some (.builtin id))/\s.TypeIs v T/\wpAny (model X.prog X.w) X.A (getItem v (.ref sl)) (EP X pins σ Q) X.xe s
def SlR.or {r r':V->Option Int->Option Int->Hp->VK->Prop}(h:SlR X r)(h':SlR X r'):SlR X (fun x lo hi H Q=>r x lo hi H Q\/r' x lo hi H Q):=by
 intro pins s σ H x v vl vu lo hi sl Q I rx hs pl pu q;rcases q with q|q
 ·exact h pins s σ H x v vl vu lo hi sl Q I rx hs pl pu q
 ·exact h' pins s σ H x v vl vu lo hi sl Q I rx hs pl pu q
def tSl (r:V->Option Int->Option Int->Hp->VK->Prop)(te:TE)(tl th:TO):TE:=fun σ H Q=>te σ H fun x H1=>tl σ H1 fun l H2=>th σ H2 fun u H3=>r x l u H3 Q
def Vt {r:V->Option Int->Option Int->Hp->VK->Prop}(hr:SlR X r)(he:PE X e te)(hl:PO X lo tl)(hu:PO X hi th):PE X (.Subscript e (.Slice lo hi none p2) pos) (tSl r te tl th):=by
 intro pins s σ H Q I h;refine Subscript_ (thn (he pins s σ H _ I h) fun v s1 ⟨x,H1,I1,r1,q1⟩=>?_);refine wpAny_Slice (thn (hl pins s1 σ H1 _ I1 q1) fun vl s2 ⟨l,H2,I2,pl,q2⟩=>thn (hu pins s2 σ H2 _ I2 q2) fun vu s3 ⟨u,H3,I3,pu,q3⟩=>?_);rw[evalPart_none];refine wpAny_pure ?_;have I4:Inv X pins σ H3 { s3 with heap:=s3.heap.push { cls:=.type "slice",data:=.fields #[vl,vu,.none] } }:=I3.kept (t':=s3.toks) fun b ob q=>jYb _ q;obtain⟨T,id,hT,ht,hg⟩:=hr pins { s3 with heap:=s3.heap.push { cls:=.type "slice",data:=.fields #[vl,vu,.none] } } σ H3 x v vl vu l u s3.heap.objs.size Q I4 r1 (Heap.IsSliceOf.new ..) pl pu q3;show wpAny (model X.prog X.w) X.A (subscriptTail e (.Slice lo hi none p2) v (.ref s3.heap.objs.size)) (EP X pins σ Q) X.xe { s3 with heap:=s3.heap.push { cls:=.type "slice",data:=.fields #[vl,vu,.none] } };exact tail_any (ops:=[.ref s3.heap.objs.size,v]) ht hT hg (by with_unfolding_all rfl)
def XY (xs:List V)(lo hi:Option Int):List V:=(xs.drop (HT.sIx xs.length 0 lo)).take (HT.sIx xs.length xs.length hi-HT.sIx xs.length 0 lo)
def kI (xs:List V)(lo hi:Option Int):(XY xs lo hi).length<=xs.length:=by
 unfold XY;rw[rR,rL];omega
def z6s (K:jJa):V->Option Int->Option Int->Hp->VK->Prop:=fun x lo hi H Q=>∃a xs,x=.ref a/\SqT K H a xs /\
 ¬(HT.sIx xs.length 0 lo=0/\HT.sIx xs.length xs.length hi=xs.length)/\∀p,H p=none->Q (.ref p) (upd H p (.tup (XY xs lo hi)))
def JL:SlR X (z6s X.K):=by
 intro pins s σ H x v vl vu lo hi sl Q I rx hs pl pu h;obtain⟨a,xs,rfl,hx,hw,q⟩:=h;cases rx;obtain⟨its,r,ht,hz⟩:=I.tuple hx;have hlen:its.toArray.size=xs.length:=by rw[sM];exact r.length.symm
 refine⟨"tuple",_,PyProof.Rows.slot_tuple_getitem.lookup,ht.typeIs,?_⟩;refine HT.getItem_tuple_cut ht hs pl pu (by rw[hlen];exact hw) ?_ (by rw[hlen];exact hz);rw[hlen];refine⟨.ref s.heap.objs.size,_,I.laid (t':=s.toks) (o:=.tup (XY xs lo hi)) (fun b ob q=>jYb _ q) (sL _) ?_,rfl,q _ (I.hok.fresh (sL _))⟩;exact⟨rD (kI xs lo hi) hz,_,(r.drop (HT.sIx xs.length 0 lo)).take (HT.sIx xs.length xs.length hi-HT.sIx xs.length 0 lo),TupN.new _ _⟩
def UR (K:jJa):R2:=fun x y H Q=>∃a b xs ys,x=.ref a/\y=.ref b/\SqT K H a xs/\SqT K H b ys/\xs≠[]/\xs.length+ys.length<=sizeLine /\
 (ys=[]->Q (.ref a) H)/\(ys≠[]->∀p,H p=none->Q (.ref p) (upd H p (.tup (xs++ys))))
def Vals.nil_iff {xs:List V}{us:List Value}(r:Vals xs us):us=[]↔xs=[]:=by
 cases r with
 | nil=>simp
 | cons _ _=>simp
def QL:OpR X (binaryOp .Add) (UR X.K):=by
 intro pins s σ H x y v u Q I rx ry h;obtain⟨a,b,xs,ys,rfl,rfl,ha,hb,hx,hz,q1,q2⟩:=h;cases rx;cases ry;obtain⟨its,r1,p1,_⟩:=I.tuple ha;obtain⟨its2,r2,p2,_⟩:=I.tuple hb;refine HT.cat_tup p1 p2 (fun z=>hx (r1.nil_iff.mp z)) (fun z=>⟨.ref a,H,I,rfl,q1 (r2.nil_iff.mp z)⟩) (fun z=>?_) (by rw[<-r1.length,<-r2.length];exact hz);refine⟨.ref s.heap.objs.size,_,I.laid (t':=s.toks) (o:=.tup (xs++ys)) (fun b ob q=>jYb _ q) (sL _) ?_,rfl,q2 (fun w=>z (r2.nil_iff.mpr w)) _ (I.hok.fresh (sL _))⟩;exact⟨by rw[tH];exact hz,_,r1.append r2,TupN.new _ _⟩
end
def ixN (n:Nat)(i:Int):Option Nat:=if 0<=i then (if i<n then some i.toNat else none) else if -(n:Int)<=i then some (i+n).toNat else none
def atI {α:Type}(xs:List α)(i:Int):Option α:=(ixN xs.length i).bind fun j=>xs[j]?
def W4 {n:Nat}{i:Int}{j:Nat}(h:ixN n i=some j):seqIndex? i n=some j/\j<n/\-(n:Int)<=i/\i<n:=by
 unfold ixN at h
 by_cases h0:0<=i
 ·rw[if_pos h0]at h
  by_cases h1:i<n
  ·rw[if_pos h1]at h;have e:i.toNat=j:=jYe h;exact⟨by rw[seqIndex_of h0 h1,e],by omega,by omega,h1⟩
  ·rw[if_neg h1]at h;cases h
 ·rw[if_neg h0]at h
  by_cases h1:-(n:Int)<=i
  ·rw[if_pos h1]at h;have e:(i+n).toNat=j:=jYe h;exact⟨by rw[seqIndex_neg (by omega) h1,e],by omega,h1,by omega⟩
  ·rw[if_neg h1]at h;cases h
def Xk {α:Type}{xs:List α}{i:Int}{v:α}(h:atI xs i=some v):∃j,seqIndex? i xs.length=some j/\xs[j]?=some v/\j<xs.length/\-(xs.length:Int)<=i/\i<xs.length:=by
 unfold atI at h;cases e:ixN xs.length i with
 | none=>rw[e]at h;cases h
 | some j =>
  rw[e]at h;obtain⟨h1,h2,h3,h4⟩:=W4 e;exact⟨j,h1,h,h2,h3,h4⟩
def uQ {α:Type}{xs:List α}{j:Nat}{v:α}(h:xs[j]?=some v):atI xs (j:Int)=some v:=by
 have hj:j<xs.length:=(sN.mp h).1;have e:ixN xs.length (j:Int)=some j:=by
  unfold ixN;rw[if_pos (by omega),if_pos (by omega)];simp
 unfold atI;rw[e];exact h
def WT {α:Type}(xs:List α)(v:α):atI (xs++[v]) (-1)=some v:=by
 have hl:(xs++[v]).length=xs.length+1:=by simp
 have e:ixN (xs++[v]).length (-1)=some xs.length:=by
  unfold ixN;rw[hl,if_neg (by decide),if_pos (by omega)];congr 1;omega
 unfold atI;rw[e];show (xs++[v])[xs.length]?=some v;simp
def Qq (b:Expr):Prop:=∀o i,subscripted b false o i=operate [o,i] (getItem o i)
def IxR (X:Cx)(r:R2):Prop:=
 ∀(value slice:Expr) (pins:List (Addr×Obj)) (s:Shared) (σ:St) (H:Hp) (x y:V) (v u:Value) (Q:VK),Inv X pins σ H s->RelV x v->RelV y u->r x y H Q ->
  subscripted slice false v u=operate [v,u] (getItem v u)->wpAny (model X.prog X.w) X.A (subscriptTail value slice v u) (EP X pins σ Q) X.xe s
def MtR (X:Cx)(id:String)(r:V->List V->Hp->VK->Prop):Prop:=
 ∀(pins:List (Addr×Obj)) (s:Shared) (σ:St) (H:Hp) (x:V) (xs:List V) (v:Value) (us:List Value) (Q:VK),Inv X pins σ H s->RelV x v->Vals xs us->r x xs H Q ->
  wpAny (model X.prog X.w) X.A (call (.builtin id) (v::us)) (EP X pins σ Q) X.xe s
section
variable {X:Cx}{a b:Expr}{ta tb:TE}{pos:Pos}
def IxR.or {r r':R2}(h:IxR X r)(h':IxR X r'):IxR X (fun x y H Q=>r x y H Q\/r' x y H Q):=by
 intro value slice pins s σ H x y v u Q I rx ry q hs;rcases q with q|q
 ·exact h value slice pins s σ H x y v u Q I rx ry q hs
 ·exact h' value slice pins s σ H x y v u Q I rx ry q hs
def MtR.or {id:String}{r r':V->List V->Hp->VK->Prop}(h:MtR X id r)(h':MtR X id r'):MtR X id (fun x xs H Q=>r x xs H Q\/r' x xs H Q):=by
 intro pins s σ H x xs v us Q I rx rs q;rcases q with q|q
 ·exact h pins s σ H x xs v us Q I rx rs q
 ·exact h' pins s σ H x xs v us Q I rx rs q
def z03 {r:R2}(hr:IxR X r)(ha:PE X a ta)(hb:PE X b tb)(hs:Qq b):PE X (.Subscript a b pos) (tOp r ta tb):=by
 intro pins s σ H Q I h;exact Subscript_ (z4m ha hb I h fun v u s2 x y H2 I2 rx ry q=>hr a b pins s2 σ H2 x y v u Q I2 rx ry q (hs _ _))
def z5X (K:jJa):R2:=fun x y H Q=>∃p xs i v,x=.ref p/\y=.int i/\SqL K H p xs/\atI xs i=some v/\Q v H
def z6o (K:jJa):R2:=fun x y H Q=>∃p xs i v,x=.ref p/\y=.int i/\SqT K H p xs/\atI xs i=some v/\Q v H
def z6d:R2:=fun x y H Q=>∃z i c,x=.str z/\y=.int i/\z.length<=sizeLine/\atI z.cps.toList i=some c/\Q (.str ⟨#[c]⟩) H
def ix_list:IxR X (z5X X.K):=by
 intro value slice pins s σ H x y v u Q I rx ry h hs;obtain⟨p,xs,i,z,rfl,rfl,hq,he,q⟩:=h;cases rx;obtain⟨t,rfl⟩:=ry;obtain⟨its,r,pl,hz⟩:=I.list hq;obtain⟨j,h1,h2,h3,h4,h5⟩:=Xk he;obtain⟨w,ew,rw'⟩:=r.get h2;have hl:=r.length;have hn:=kf;have fin:EP X pins σ Q w s:=⟨z,H,I,rw',q⟩
 by_cases h0:0<=i
 ·have hj:i.toNat=j:=by
   rw[seqIndex_of h0 h5]at h1;exact jYe h1
  exact item_listR pl.isList h0 (by omega) (by rw[hj];simpa using ew) fin hs
 ·have hj:(i+(its.toArray.size:Int)).toNat=j:=by
   rw[seqIndex_neg (by omega) h4]at h1;rw[sM,<-hl];exact jYe h1
  exact subscriptTail_builtinR (x:=w) pl.isList.typeIs slot_list_getitem.lookup
   (wpAny_getItem_list_neg (Q:=fun r s'=>r=w/\EP X pins σ Q r s') pl.isList (by omega) (by rw[sM]<;>omega) (by omega) (by rw[hj];simpa using ew) ⟨rfl,fin⟩) hs
def ix_tup:IxR X (z6o X.K):=by
 intro value slice pins s σ H x y v u Q I rx ry h hs;obtain⟨p,xs,i,z,rfl,rfl,hq,he,q⟩:=h;cases rx;obtain⟨t,rfl⟩:=ry;obtain⟨its,r,pl,hz⟩:=I.tuple hq;obtain⟨j,h1,h2,h3,h4,h5⟩:=Xk he;obtain⟨w,ew,rw'⟩:=r.get h2;have hl:=r.length;have hn:=kf;have fin:EP X pins σ Q w s:=⟨z,H,I,rw',q⟩
 exact subscriptTail_builtinR (x:=w) pl.typeIs slot_tuple_getitem.lookup
  (getItem_tuple (j:=j) (Q:=fun r s'=>r=w/\EP X pins σ Q r s') pl (by omega) (by omega) (by rw[sM,<-hl];exact h1) (by simpa using ew) ⟨rfl,fin⟩) hs
def z3n:IxR X z6d:=by
 intro value slice pins s σ H x y v u Q I rx ry h hs;obtain⟨z,i,c,rfl,rfl,hz,he,q⟩:=h;obtain⟨t,rfl⟩:=rx;obtain⟨t',rfl⟩:=ry;obtain⟨j,h1,h2,h3,h4,h5⟩:=Xk he;have hl:z.cps.toList.length=z.length:=by simp[Str.length]
 rw[hl]at h1 h4 h5;have hn:=kf;exact tail_any (typeIs_str s z t) slot_str_getitem.lookup (getItem_str (c:=c) (by
  have e1:decide (i < -(2 ^ 63:Int))=false:=decide_eq_false (by omega);have e2:decide (i>=2 ^ 63)=false:=decide_eq_false (by omega);rw[e1,e2,Bool.or_false]) (by rw[h1];simpa using h2) ⟨.str ⟨#[c]⟩,H,I.tok _,⟨_,rfl⟩,q⟩) hs
def rIx (K:jJa):R2:=fun x y H Q=>z5X K x y H Q\/z6o K x y H Q\/z6d x y H Q
def Uz:IxR X (rIx X.K):=ix_list.or (ix_tup.or z3n)
def UN (its:List Value)(n j:Nat)(u:Value):Obj.mapSeq (·.setIfInBounds j u) { cls:=.type "list",data:=.seq its.toArray n }={ cls:=.type "list",data:=.seq (its.set j u).toArray n }:=by
 simp[Obj.mapSeq]
def Inv.lst {pins:List (Addr×Obj)}{σ:St}{H:Hp}{s:Shared}{p:Addr}{xs:List V}(I:Inv X pins σ H s)(h:H p=some (.lst xs)):
  ∃(its:List Value) (n:Nat),Vals xs its/\s.heap.get? p=some { cls:=.type "list",data:=.seq its.toArray n }/\xs.length<=sizeLine:=by
 obtain⟨z,its,n,r,e⟩:=I.hok p _ h;exact⟨its,n,r,e,z⟩
def Inv.lstUpd {pins:List (Addr×Obj)}{σ:St}{H:Hp}{s:Shared}{p:Addr}{xs ys:List V}{its its':List Value}{n n':Nat}{f:Obj->Obj}(I:Inv X pins σ H s)(h:H p=some (.lst xs))
  (ho:s.heap.get? p=some { cls:=.type "list",data:=.seq its.toArray n }) (hf:f { cls:=.type "list",data:=.seq its.toArray n }={ cls:=.type "list",data:=.seq its'.toArray n' }) (r:Vals ys its') (hz:ys.length<=sizeLine) (t:Nat):
  Inv X pins σ (upd H p (.lst ys)) { s with heap:=s.heap.update p f,toks:=t }:=by
 have e:(s.heap.update p f).get? p=some { cls:=.type "list",data:=.seq its'.toArray n' }:=by
  rw[Heap.get?_update_self f ho (by rw[hf]<;>rfl),hf]
 refine I.write (x:=p) (e:=p) (by rw[h];trivial) (.inl rfl) (fun b u hb q=>(Heap.get?_update_other _ _ (Ne.symm hb)).trans q) ⟨_,e⟩ ?_;exact⟨hz,its',n',r,e⟩
def z6m:V->V->V->Hp->(Hp->Prop)->Prop:=fun o i v H Q=>∃p xs k j,o=.ref p/\i=.int k/\H p=some (.lst xs)/\ixN xs.length k=some j/\Q (upd H p (.lst (xs.set j v)))
def z0z:z54 X z6m:=by
 intro pins s σ H o i v ov iv u Q I ro ri rv h;obtain⟨p,xs,k,j,rfl,rfl,hp,hj,q⟩:=h;cases ro;obtain⟨t,rfl⟩:=ri;obtain⟨its,n,r,ho,hz⟩:=I.lst hp;obtain⟨h1,h2,h3,h4⟩:=W4 hj;have hl:=r.length;have hn:=kf;have I':Inv X pins σ (upd H p (.lst (xs.set j v))) { s with heap:=s.heap.update p (Obj.mapSeq (·.setIfInBounds j u)) }:=
  I.lstUpd hp ho (UN its n j u) (r.set rv j) (by rw[sS];exact hz) s.toks
 by_cases h0:0<=k
 ·have hk:k.toNat=j:=by
   rw[seqIndex_of h0 h4]at h1;exact jYe h1
  exact PySem.W.ki_setAt ho h0 (by omega) (by rw[sM,<-hl];exact h4) (by rw[hk];exact⟨_,I',q⟩)
 ·have hk:(k+(its.toArray.size:Int)).toNat=j:=by
   rw[seqIndex_neg (by omega) h3]at h1;rw[sM,<-hl];exact jYe h1
  exact PySem.W.ki_setBack ho (by omega) (by rw[sM,<-hl];exact h3) (by omega) (by rw[hk];exact⟨_,I',q⟩)
def We (lo hi:Option Int)(n:Nat):(sliceBounds lo hi none n).1=((HT.sIx n 0 lo:Nat):Int)/\(sliceBounds lo hi none n).2.1=((HT.sIx n n hi:Nat):Int)/\(sliceBounds lo hi none n).2.2=1:=by
 refine⟨?_,?_,rfl⟩
 ·cases lo with
  | none=>simp[sliceBounds,HT.sIx]
  | some i =>
   simp only[sliceBounds,HT.sIx,Option.getD_none,show (1:Int)>0 by decide,if_true]
   by_cases h:i<0
   ·simp only[h,if_true]<;>omega
   ·simp only[h,if_false]<;>omega
 ·cases hi with
  | none=>simp[sliceBounds,HT.sIx]
  | some i =>
   simp only[sliceBounds,HT.sIx,Option.getD_none,show (1:Int)>0 by decide,if_true]
   by_cases h:i<0
   ·simp only[h,if_true]<;>omega
   ·simp only[h,if_false]<;>omega
def Yq (its:List Value)(lo hi:Option Int):slicePick its.toArray lo hi none=((its.drop (HT.sIx its.length 0 lo)).take (HT.sIx its.length its.length hi-HT.sIx its.length 0 lo)).toArray:=by
 obtain⟨h1,h2,h3⟩:=We lo hi its.toArray.size;unfold slicePick;rw[h1,h2,h3];simp only[sliceRange_one,pick_run,sM]<;>rfl
def z6P (K:jJa):V->Option Int->Option Int->Hp->VK->Prop:=fun x lo hi H Q=>∃a xs,x=.ref a/\SqL K H a xs/\∀p,H p=none->Q (.ref p) (upd H p (.lst (XY xs lo hi)))
def Qv:SlR X (z6P X.K):=by
 intro pins s σ H x v vl vu lo hi sl Q I rx hs pl pu h;obtain⟨a,xs,rfl,hx,q⟩:=h;cases rx;obtain⟨its,r,ht,hz⟩:=I.list hx;have hlen:=r.length;refine⟨"list",_,slot_list_getitem.lookup,ht.isList.typeIs,?_⟩;refine wpAny_getItem_list_slice ht.isList hs pl pu .none (by simp) ?_ (by rw[sM]<;>omega);rw[Yq,<-hlen];refine⟨.ref s.heap.objs.size,_,I.laid (t':=s.toks) (o:=.lst (XY xs lo hi)) (fun b ob q=>jYb _ q) (sL _) ?_,rfl,q _ (I.hok.fresh (sL _))⟩;exact⟨rD (kI xs lo hi) hz,_,0,(r.drop (HT.sIx xs.length 0 lo)).take (HT.sIx xs.length xs.length hi-HT.sIx xs.length 0 lo),jYd _ rfl⟩
def qW:V->Bool
 | .non=>true
 | .bl _=>true
 | .int _=>true
 | .str _=>true
 | _=>false
def eqV:V->V->Bool
 | .non,.non=>true
 | .bl a,.bl b=>a==b
 | .bl a,.int b=>(if a then 1 else 0)==b
 | .int a,.bl b=>a==(if b then 1 else 0)
 | .int a,.int b=>a==b
 | .str a,.str b=>a==b
 | _,_=>false
def z3r {A:Around}{s:Shared}{y x:V}{u v:Value}(ry:RelV y u)(rx:RelV x v)(fy:qW y=true)(fx:qW x=true):SeqAt.EqAt A s u v (eqV y x):=by
 cases y with
 | non =>
  cases ry;cases x with
  | non=>cases rx;exact SeqAt.EqAt.same _
  | bl b=>cases rx;exact SeqAt.EqAt.none_bool b
  | int b=>obtain⟨t,rfl⟩:=rx;exact SeqAt.EqAt.none_int b t
  | str b=>obtain⟨t,rfl⟩:=rx;exact SeqAt.EqAt.none_str b t
  | _=>exact absurd (show false=true from fx) sJ
 | bl a =>
  cases ry;cases x with
  | non=>cases rx;exact SeqAt.EqAt.bool_none a
  | bl b=>cases rx;exact SeqAt.EqAt.bool_bool a b
  | int b=>obtain⟨t,rfl⟩:=rx;exact SeqAt.EqAt.bool_int a b t
  | str b=>obtain⟨t,rfl⟩:=rx;exact SeqAt.EqAt.bool_str a b t
  | _=>exact absurd (show false=true from fx) sJ
 | int a =>
  obtain⟨t',rfl⟩:=ry;cases x with
  | non=>cases rx;exact SeqAt.EqAt.int_none a t'
  | bl b=>cases rx;exact SeqAt.EqAt.int_bool a t' b
  | int b=>obtain⟨t,rfl⟩:=rx;exact SeqAt.EqAt.int_int a t' b t
  | str b=>obtain⟨t,rfl⟩:=rx;exact SeqAt.EqAt.int_str a t' b t
  | _=>exact absurd (show false=true from fx) sJ
 | str a =>
  obtain⟨t',rfl⟩:=ry;cases x with
  | non=>cases rx;exact SeqAt.EqAt.str_none a t'
  | bl b=>cases rx;exact SeqAt.EqAt.str_bool a t' b
  | int b=>obtain⟨t,rfl⟩:=rx;exact SeqAt.EqAt.str_int a t' b t
  | str b=>obtain⟨t,rfl⟩:=rx;exact SeqAt.EqAt.str_str a t' b t
  | _=>exact absurd (show false=true from fx) sJ
 | _=>exact absurd (show false=true from fy) sJ
def eqU (x:V)(u:Value):Bool:=match u with
 | .none=>eqV .non x
 | .bool b=>eqV (.bl b) x
 | .int i _=>eqV (.int i) x
 | .str z _=>eqV (.str z) x
 | _=>false
def z0J {x y:V}{u:Value}(r:RelV y u)(f:qW y=true):eqU x u=eqV y x:=by
 cases y with
 | non=>cases r;rfl
 | bl b=>cases r;rfl
 | int i=>obtain⟨t,rfl⟩:=r;rfl
 | str z=>obtain⟨t,rfl⟩:=r;rfl
 | _=>exact absurd (show false=true from f) sJ
def Wa {x:V}:∀ {xs:List V} {us:List Value},Vals xs us->xs.all qW=true->us.any (eqU x)=xs.any fun y=>eqV y x
 | _,_,.nil,_=>rfl
 | y::xs,u::us,.cons r t,f=>by
  rw[pO,sY]at f;rw[pP,pP,z0J r f.1,Wa t f.2]
def ZS {A:Around}{s:Shared}{x:V}{v:Value}(rx:RelV x v)(fx:qW x=true):∀ {xs:List V} {us:List Value},Vals xs us->xs.all qW=true->∀u∈us,SeqAt.EqAt A s u v (eqU x u)
 | _,_,.nil,_=>fun u hu=>by cases hu
 | y::xs,u::us,.cons r t,f=>fun u' hu=>by
  rw[pO,sY]at f;rcases sI.mp hu with rfl|hu
  ·rw[z0J r f.1];exact z3r r rx f.1 fx
  ·exact ZS rx fx t f.2 u' hu
def inV (x:V)(xs:List V):Bool:=xs.any fun y=>eqV y x
def rIn (K:jJa)(neg:Bool):R2:=fun x y H Q=>∃p xs,y=.ref p/\(SqL K H p xs\/SqT K H p xs)/\qW x=true/\xs.all qW=true/\Q (.bl (if neg then !inV x xs else inV x xs)) H
def Xu:OpR X (compareOp .NotIn) (rIn X.K true):=by
 intro pins s σ H x y v u Q I rx ry h;obtain⟨p,xs,rfl,hq,fx,fs,q⟩:=h;cases ry;rcases hq with hq|hq
 ·obtain⟨its,r,pl,hz⟩:=I.list hq;refine SeqAt.notIn_listAt (eqU x) pl.isList (fun w hw=>ZS rx fx r fs w (by simpa using hw)) ⟨.bl _,H,I,rfl,?_⟩;rw[show its.toArray.any (eqU x)=its.any (eqU x) by simp,Wa r fs];exact q
 ·obtain⟨its,r,pl,hz⟩:=I.tuple hq;refine SeqAt.notIn_tupleAt (eqU x) pl (fun w hw=>ZS rx fx r fs w (by simpa using hw)) ⟨.bl _,H,I,rfl,?_⟩;rw[show its.toArray.any (eqU x)=its.any (eqU x) by simp,Wa r fs];exact q
def Wm:OpR X (compareOp .NotIn) (fun x y H Q=>∃i j,x=.str i/\y=.str j/\Q (.bl (!(!(Builtin.Str.occurrences j i 0 j.length 1).isEmpty))) H):=by
 intro pins s σ H x y v u Q I rx ry h;obtain⟨i,j,rfl,rfl,q⟩:=h;obtain⟨t,rfl⟩:=rx;obtain⟨t',rfl⟩:=ry;exact notIn_str ⟨.bl _,H,I,rfl,q⟩
def W9:CallR X (.builtin "len") (fun xs H Q=>∃p ys,xs=[.ref p]/\(SqL X.K H p ys\/SqT X.K H p ys)/\Q (.int ys.length) H):=by
 intro pins s σ H xs us Q I r h;obtain⟨p,ys,rfl,hq,q⟩:=h;obtain⟨u,rfl,rx⟩:=uF r;cases rx;have hn:=kf;rcases hq with hq|hq
 ·obtain⟨its,r',pl,hz⟩:=I.list hq;have hlen:=r'.length;exact Calls.call_len_list pl.isList (by simp only[sM]<;>omega) ⟨.int ys.length,H,I.tok _,⟨s.toks+1,by rw[sM,hlen]⟩,q⟩
 ·obtain⟨its,r',pl,hz⟩:=I.tuple hq;have hlen:=r'.length;exact len_tuple pl (by simp only[sM]<;>omega) ⟨.int ys.length,H,I.tok _,⟨s.toks+1,by rw[sM,hlen]⟩,q⟩
def XA:CallR X (.builtin "len") (fun xs H Q=>∃z,xs=[.str z]/\z.length<=sizeLine/\Q (.int z.length) H):=by
 intro pins s σ H xs us Q I r h;obtain⟨z,rfl,hz,q⟩:=h;obtain⟨u,rfl,t,rfl⟩:=uF r;have hn:=kf;exact len_str (by omega) ⟨.int z.length,H,I.tok _,⟨_,rfl⟩,q⟩
def CallR.or {f:Value}{r r':List V->Hp->VK->Prop}(h:CallR X f r)(h':CallR X f r'):CallR X f (fun xs H Q=>r xs H Q\/r' xs H Q):=by
 intro pins s σ H xs us Q I rs q;rcases q with q|q
 ·exact h pins s σ H xs us Q I rs q
 ·exact h' pins s σ H xs us Q I rs q
def wZ:CallR X (.type "list") (fun xs H Q=>∃p ys,xs=[.ref p]/\(SqL X.K H p ys\/SqT X.K H p ys)/\∀l,H l=none->Q (.ref l) (upd H l (.lst ys))):=by
 intro pins s σ H xs us Q I r h;obtain⟨p,ys,rfl,hq,q⟩:=h;obtain⟨u,rfl,rx⟩:=uF r;cases rx;have fin:∀(its:List Value),Vals ys its->ys.length<=sizeLine->∀(h':Heap) (c':Nat),(∀b o',s.heap.get? b=some o'->h'.get? b=some o') ->
   h'.get? s.heap.objs.size=some { cls:=.type "list",dict:=none,data:=.seq its.toArray c',slots:=#[] }->EP X pins σ Q (.ref s.heap.objs.size) { s with heap:=h' }:=fun its r' hz h' c' kp e =>
  ⟨.ref s.heap.objs.size,_,I.laid (t':=s.toks) kp (sL _) (show ObjOk X.prog X.w _ h' _ (.lst ys) from⟨hz,its,c',r',e⟩),rfl,q _ (I.hok.fresh (sL _))⟩
 rcases hq with hq|hq
 ·obtain⟨its,r',pl,hz⟩:=I.list hq;have hlen:=r'.length;obtain⟨o,ho,hc,n,hd⟩:=pl.isList;exact call_list_seq p (.inl rfl) ho hc hd (fun h' c' kp e=>fin its r' hz h' c' kp e) (by simp only[sM]<;>omega)
 ·obtain⟨its,r',pl,hz⟩:=I.tuple hq;have hlen:=r'.length;obtain⟨o,ho,hc,n,hd⟩:=pl;exact call_list_seq p (.inr rfl) ho hc hd (fun h' c' kp e=>fin its r' hz h' c' kp e) (by simp only[sM]<;>omega)
def yF:CallR X (.type "tuple") (fun xs H Q=>∃p ys,xs=[.ref p]/\((SqL X.K H p ys/\∀l,H l=none->Q (.ref l) (upd H l (.tup ys)))\/(SqT X.K H p ys/\Q (.ref p) H))):=by
 intro pins s σ H xs us Q I r h;obtain⟨p,ys,rfl,h⟩:=h;obtain⟨u,rfl,rx⟩:=uF r;cases rx;rcases h with⟨hq,q⟩|⟨hq,q⟩
 ·obtain⟨its,r',pl,hz⟩:=I.list hq;have hlen:=r'.length;refine call_tuple_list pl.isList (fun h' kp=>?_) (by simp only[sM]<;>omega);have I1:Inv X pins σ H { s with heap:=h' }:=I.kept (t':=s.toks) kp;have I2:Inv X pins σ (upd H h'.objs.size (.tup ys)) { s with heap:=h'.push { cls:=.type "tuple",data:=.seq its.toArray } }:=
   I1.laid (t':=s.toks) (fun b o e=>jYb _ e) (sL _) (show ObjOk X.prog X.w _ _ _ (.tup ys) from⟨hz,its,r',TupN.new _ _⟩)
  exact⟨.ref h'.objs.size,_,I2,rfl,q _ (I1.hok.fresh (sL _))⟩
 ·obtain⟨its,r',pl,hz⟩:=I.tuple hq;exact call_tuple_same pl ⟨.ref p,H,I,rfl,q⟩
def tyV (K:jJa)(T:String)(x:V)(H:Hp):Prop:=match x with
 | .str _=>T="str"
 | .int _=>T="int"
 | .ref p=>(T="list"/\∃xs,SqL K H p xs)\/(T="tuple"/\∃o,K.lookup p=some o/\o.cls=.type "tuple"/\o.dict=none) \/
   (T="dict"/\((∃kvs,H p=some (.dK kvs))\/∃kvs,H p=some (.dT kvs)))\/(T="set"/\∃S n,H p=some (.set S n))
 | _=>False
def z3T {pins:List (Addr×Obj)}{σ:St}{H:Hp}{s:Shared}{T:String}{x:V}{v:Value}(I:Inv X pins σ H s)(r:RelV x v)(ty:tyV X.K T x H):
  s.TypeIs v T/\∀a,v=.ref a->∃ob,s.heap.get? a=some ob/\ob.dict=none:=by
 cases x with
 | str z =>
  obtain⟨t,rfl⟩:=r;cases (show T="str" from ty);exact⟨typeIs_str s z t,fun _ e=>nomatch e⟩
 | int i =>
  obtain⟨t,rfl⟩:=r;cases (show T="int" from ty);exact⟨typeIs_int s i t,fun _ e=>nomatch e⟩
 | ref p =>
  cases r;rcases ty with⟨rfl,xs,hq⟩|⟨rfl,o,hk,hc,hd⟩|⟨rfl,hk⟩|⟨rfl,S,n,hk⟩
  ·obtain⟨its,_,pl,_⟩:=I.list hq;refine⟨pl.isList.typeIs,fun a e=>?_⟩;cases e;obtain⟨o,n,e,c,hd,_⟩:=pl;exact⟨o,e,hd⟩
  ·refine⟨⟨o,I.kIn p o hk,hc⟩,fun a e=>?_⟩;cases e;exact⟨o,I.kIn _ o hk,hd⟩
  ·have z:∃o,s.heap.get? p=some o/\o.ExactDict:=by
    rcases hk with⟨kvs,hk⟩|⟨kvs,hk⟩
    ·obtain⟨_,_,_,_,o,_,_,e,ex,_⟩:=I.hok p _ hk;exact⟨o,e,ex⟩
    ·obtain⟨_,_,_,_,o,_,_,e,ex,_⟩:=I.hok p _ hk;exact⟨o,e,ex⟩
   obtain⟨o,e,ex⟩:=z;refine⟨⟨o,e,ex.1⟩,fun a e2=>?_⟩;cases e2;exact⟨o,e,ex.2.1⟩
  ·obtain⟨o,_,_,_,e,ex,_⟩:=I.hok p _ hk;refine⟨⟨o,e,ex.1⟩,fun a e2=>?_⟩;cases e2;exact⟨o,e,ex.2.1⟩
 | _=>exact False.elim ty
def tBM (K:jJa)(T:String)(r:V->List V->Hp->VK->Prop)(to:TE)(t:TA):TE:=fun σ H Q=>to σ H fun x H1=>tyV K T x H1/\t σ H1 fun xs H2=>r x xs H2 Q
variable {o e:Expr}{es:List Expr}{to:TE}{t:TA}{name:Str}{apos cpos:Pos}{T id:String}{r:V->List V->Hp->VK->Prop}
def z0V (pa:PlainAttrs T)(slot:Slot T name id)(hty:typeOf (.builtin id)=pure (.type "method_descriptor"))(hm:MtR X id r)(ho:PE X o to)(ha:PA X (e::es) t)
  (hbase:autoParam (attributeBase o name X.env (eval o X.env)=eval o X.env) au3._auto_1)
  (hfew:autoParam (((backTo cpos (starEach (e::es) X.env)).all (fun x=>!x.1)&&(backToKw cpos (keywordEach [] X.env)).all (fun x=>x.1.isSome)
   && decide ((e::es).length+([]:List Keyword).length+(if ([]:List Keyword).isEmpty then 0 else 1)<30))=true) au3._auto_1)
  (hline:autoParam ((apos.endLine==cpos.line)=true) au3._auto_1) (hs:autoParam (starEach (e::es) X.env=(false,eval e X.env)::starEach es X.env) au3._auto_1) (hplain:autoParam ((backTo cpos (starEach es X.env)).any (·.1)=false) au3._auto_1):
  PE X (.Call (.Attribute o name apos) (e::es) [] cpos) (tBM X.K T r to t):=by
 intro pins s σ H Q I h;refine wpAny_Call_method_late hbase hfew hline rfl (thn (ho pins s σ H _ I h) fun v s1 ⟨x,H1,I1,r1,ty,q1⟩=>?_);obtain⟨h1,h2⟩:=z3T I1 r1 ty;refine⟨T,id,pa,slot,hty,h1,h2,?_⟩;have hA:=ha cpos pins s1 σ H1 _ I1 q1;rw[hs]at hA ⊢;refine Calls.callWith_builtin (by show (false||(backTo cpos (starEach es X.env)).any (·.1))=false;rw[hplain]<;>rfl) (Calls.evalArgs_plain ?_);exact thn hA fun us s2 ⟨vs,H2,I2,r2,q2⟩=>hm pins s2 σ H2 x vs v us Q I2 r1 r2 q2
end
def MtM (X:Cx)(id:String)(r:V->List V->Hp->VK->Prop):Prop:=
 ∀(pins:List (Addr×Obj)) (s:Shared) (σ:St) (H:Hp) (x:V) (xs:List V) (v:Value) (us:List Value) (Q:VK),Inv X pins σ H s->RelV x v->Vals xs us->r x xs H Q ->
  wpAny (model X.prog X.w) X.A (call (.builtin id) (v::us)) (EP X pins σ Q) X.xe s
def Vals.one:∀ {x:V} {us:List Value},Vals [x] us->∃u,us=[u]/\RelV x u
 | _,_,.cons r .nil=>⟨_,rfl,r⟩
def Vals.two:∀ {x y:V} {us:List Value},Vals [x,y] us->∃u v,us=[u,v]/\RelV x u/\RelV y v
 | _,_,_,.cons r (.cons q .nil)=>⟨_,_,rfl,r,q⟩
def Vals.zero:∀ {us:List Value},Vals [] us->us=[]
 | _,.nil=>rfl
def Vals.dropLast {xs:List V}{us:List Value}(h:Vals xs us):Vals xs.dropLast us.dropLast:=by
 induction h with
 | nil=>exact .nil
 | cons r t ih =>
  cases t with
  | nil=>exact .nil
  | cons q t'=>exact .cons r ih
def Vals.reverse {xs:List V}{us:List Value}(h:Vals xs us):Vals xs.reverse us.reverse:=by
 induction h with
 | nil=>exact .nil
 | cons r t ih=>rw[hV,hV];exact Vals.append ih (.cons r .nil)
def Vals.rep {xs:List V}{us:List Value}(h:Vals xs us):∀k:Nat,Vals (List.replicate k xs).flatten (List.replicate k us).flatten
 | 0=>.nil
 | k+1=>by
  rw[sA,sA,rV,rV];exact Vals.append h (Vals.rep h k)
def jY (its:List Value):∀(k:Nat) (acc:List Value),
  List.foldl (fun x1 x2=>x1++x2) acc.toArray (List.replicate k its.toArray)=(acc++(List.replicate k its).flatten).toArray
 | 0,acc=>by simp
 | k+1,acc=>by
  have e:acc.toArray++its.toArray=(acc++its).toArray:=by simp
  have e2:(acc++its)++(List.replicate k its).flatten=acc++(List.replicate (k+1) its).flatten:=by
   rw[sA,rV,sF]
  rw[<-e2,<-jY its k (acc++its),<-e,sA,pF]
section
variable {X:Cx}{pins:List (Addr×Obj)}{σ:St}{H:Hp}{s:Shared}{l b:Addr}{xs ys zs:List V}
def Inv.lset {its its':List Value}{n:Nat}{f:Array Value->Array Value}{t':Nat}(I:Inv X pins σ H s)(hH:H l=some (.lst xs))
  (e:s.heap.get? l=some { cls:=.type "list",data:=.seq its.toArray n }) (hf:f its.toArray=its'.toArray) (hv:Vals ys its') (hz:ys.length<=sizeLine):
  Inv X pins σ (upd H l (.lst ys)) { s with heap:=s.heap.update l (Obj.mapSeq f),toks:=t' }:=by
 have q:=PySem.IsL.update e f;rw[hf]at q;refine I.write (x:=l) (e:=l) (by rw[hH];exact trivial) (.inl rfl) (fun b' u hb hu=>(Heap.get?_update_other s.heap (Obj.mapSeq f) (Ne.symm hb)).trans hu) ⟨_,q⟩ ?_;exact⟨hz,its',_,hv,q⟩
def Inv.lnew {its:List Value}{t':Nat}(I:Inv X pins σ H s)(hv:Vals ys its)(hz:ys.length<=sizeLine):
  Inv X pins σ (upd H s.heap.objs.size (.lst ys)) { s with heap:=s.heap.push { cls:=.type "list",data:=.seq its.toArray },toks:=t' }:=
 I.laid (fun _ _ q=>jYb _ q) (sL _) ⟨hz,its,0,hv,jYd _ rfl⟩
def Inv.fresh (I:Inv X pins σ H s):H s.heap.objs.size=none:=I.hok.fresh (sL _)
def Inv.lstM (I:Inv X pins σ H s)(hH:H l=some (.lst xs)):xs.length<=sizeLine/\∃(its:List Value) (n:Nat),Vals xs its/\xs.length=its.length/\s.heap.get? l=some { cls:=.type "list",data:=.seq its.toArray n }:=by
 obtain⟨z,its,n,r,e⟩:=I.hok l _ hH;exact⟨z,its,n,r,r.length,e⟩
def JQ {n:Nat}(h:n<=sizeLine):Builtin.List.listTooLong n=false:=by
 unfold Builtin.List.listTooLong;exact decide_eq_false (by omega)
end
section
variable {X:Cx}
def z24:V->List V->Hp->VK->Prop:=fun x vs H Q=>∃l xs y,x=.ref l/\vs=[y]/\H l=some (.lst xs)/\xs.length<sizeLine/\Q .non (upd H l (.lst (xs++[y])))
def kl:MtM X "list.append" z24:=by
 intro pins s σ H x vs v us Q I rx rv h;obtain⟨l,xs,y,rfl,rfl,hH,hz,q⟩:=h;cases rx;obtain⟨u,rfl,ru⟩:=rv.one;obtain⟨z,its,n,r,hl,e⟩:=I.lstM hH;refine call_meets F.slot_list_append ⟨_,e,rfl⟩ F.entry_list_append (F.args_list_append_2 _ _) (PySem.list_append l its.toArray n u (by rw[sM];omega)) ⟨e,?_⟩;refine⟨.non,_,I.lset (its':=its++[u]) hH e (by simp) (r.append (.cons ru .nil)) ?_,rfl,q⟩;rw[tH,pK];omega
def z5J:R2:=fun x y H Q=>∃l b xs zs,x=.ref l/\y=.ref b/\H l=some (.lst xs)/\H b=some (.lst zs)/\xs.length+zs.length<=sizeLine/\∀p,H p=none->Q (.ref p) (upd H p (.lst (xs++zs)))
def z3m:OpR X (binaryOp .Add) z5J:=by
 intro pins s σ H x y v u Q I rx ry h;obtain⟨l,b,xs,zs,rfl,rfl,hH,hB,hz,q⟩:=h;cases rx;cases ry;obtain⟨z,its,n,r,hl,e⟩:=I.lstM hH;obtain⟨z2,its2,n2,r2,hl2,e2⟩:=I.lstM hB;refine PySem.P.add_list e e2 ?_ (by rw[sM,sM];omega);have ea:its.toArray++its2.toArray=(its++its2).toArray:=by simp
 rw[ea];exact⟨.ref _,_,I.lnew (t':=s.toks) (r.append r2) (by rw[tH];omega),rfl,q _ I.fresh⟩
def z3u:R2:=fun x y H Q=>∃l k xs,x=.ref l/\y=.int k/\H l=some (.lst xs)/\-(2 ^ 63)<=k/\k<2 ^ 63/\xs.length*k.toNat<=sizeLine /\
 ∀p,H p=none->Q (.ref p) (upd H p (.lst (List.replicate k.toNat xs).flatten))
def W2 {α:Type}(xs:List α)(k:Nat):(List.replicate k xs).flatten.length=k*xs.length:=by
 induction k with
 | zero=>simp
 | succ k ih=>rw[sA,rV,tH,ih,pL,Nat.add_comm]
def z4c:OpR X (binaryOp .Mult) z3u:=by
 intro pins s σ H x y v u Q I rx ry h;obtain⟨l,k,xs,rfl,rfl,hH,h1,h2,hz,q⟩:=h;cases rx;obtain⟨t,rfl⟩:=ry;obtain⟨z,its,n,r,hl,e⟩:=I.lstM hH;have hlen:its.toArray.size*k.toNat<=sizeLine:=by rw[sM,<-hl];exact hz
 have hcap:¬its.toArray.size*k.toNat>(2 ^ 63-1)/8:=by
  have:(sizeLine:Nat)<=(2 ^ 63-1)/8:=by decide
  omega
 have hfit:¬(!Builtin.List.listFitsIndex k)=true:=by
  rw[fitsIndex_both h1 h2];exact sJ
 have hlong:¬Builtin.List.listTooLong (its.toArray.size*k.toNat)=true:=by
  rw[JQ hlen];exact sJ
 have hnew:List.foldl (fun x1 x2=>x1++x2) #[] (List.replicate (if its.toArray.isEmpty=true then 0 else k.toNat) its.toArray)=(List.replicate k.toNat its).flatten.toArray:=by
  have f0:∀m:Nat,List.foldl (fun x1 x2=>x1++x2) #[] (List.replicate m its.toArray)=(List.replicate m its).flatten.toArray:=fun m=>by
   have:=jY its m [];rw[tO]at this;exact this
  rw[f0];cases its with
  | nil=>simp
  | cons a r'=>rw[if_neg (by simp)]
 refine wpAny_binaryOp_repeat_ref (T:="list") (U:="int") (by decide) ⟨_,e,rfl⟩ (fun s'=>typeIs_int s' k t) noFill_list_mul F.fills_int_mul F.slot_int_rmul repeat_list F.slot_int_index.lookup
  (call_meets F.slot_int_rmul (typeIs_int s k t) F.entry_int_rmul (F.args_int_rmul_2 _ _) (int___rmul___int_list k t l its.toArray n)
   ⟨e,rfl,⟨_,e,rfl⟩,call_meets F.slot_list_mul ⟨_,e,rfl⟩ F.entry_list_mul (F.args_list_mul_2 _ _) (AutoListH.list___mul___list_int_3 l its.toArray n k t hfit hcap hlong) ⟨e,?_⟩⟩)
 rw[hnew];exact⟨.ref _,_,I.lnew (t':=s.toks) (r.rep k.toNat) (by rw[W2,Nat.mul_comm];exact hz),rfl,q _ I.fresh⟩
end
section
variable {prog:Program}{w:World}{A:Around}{E:Value->Shared->Prop}{s:Shared}
end
section
variable {X:Cx}
end
section
variable {κ:Type}[DecidableEq κ]
def jo (kvs:List (κ×V))(k:κ):Option V:=(kvs.find? fun kv=>decide (kv.1=k)).map (·.2)
def VC (kvs:List (κ×V))(k:κ)(v:V):List (κ×V):=
 if (kvs.any fun kv=>decide (kv.1=k))=true then kvs.map (fun kv=>if kv.1=k then (kv.1,v) else kv) else kvs++[(k,v)]
def z2Q (kvs:List (κ×V))(k:κ):List (κ×V):=kvs.filter fun kv=>decide (kv.1≠k)
def jD {p:κ×V}{r:List (κ×V)}{k:κ}(e:p.1=k):jo (p::r) k=some p.2:=by simp[jo,pM,e]
def qJ {p:κ×V}{r:List (κ×V)}{k:κ}(e:¬p.1=k):jo (p::r) k=jo r k:=by simp[jo,pM,e]
def WK (k:κ):∀kvs:List (κ×V),(kvs.any fun kv=>decide (kv.1=k))=(jo kvs k).isSome
 | []=>rfl
 | p::r=>by
  rw[pP]
  by_cases e:p.1=k
  ·simp only[jD e,decide_eq_true e,Bool.true_or,Option.isSome_some]
  ·rw[qJ e,decide_eq_false e,Bool.false_or];exact WK k r
def RelO.isSome_eq (r:RelO o u):o.isSome=u.isSome:=by
 cases o with
 | none=>cases u with
  | none=>rfl
  | some _=>exact (show False from r).elim
 | some _=>cases u with
  | none=>exact (show False from r).elim
  | some _=>rfl
def RelO.getD (r:RelO o u)(rd:RelV d d'):RelV (o.getD d) (u.getD d'):=by
 cases o with
 | none=>cases u with
  | none=>exact rd
  | some _=>exact (show False from r).elim
 | some _=>cases u with
  | none=>exact (show False from r).elim
  | some _=>exact r
def KV.val {kvs:List (κ×V)}{vs:List (κ×Value)}(r:KV kvs vs)(k:κ):RelO (jo kvs k) (valueAt vs k):=by
 unfold KV at r
 induction r with
 | nil=>exact True.intro
 | @cons p q ps qs h t ih =>
  obtain⟨h1,h2⟩:=h
  by_cases e:p.1=k
  ·have e':q.1=k:=h1.symm.trans e;have b:valueAt (q::qs) k=some q.2:=by simp[valueAt,pM,e']
   rw[jD e,b];exact h2
  ·have e':¬q.1=k:=fun z=>e (h1.trans z);have b:valueAt (q::qs) k=valueAt qs k:=by simp[valueAt,pM,e']
   rw[qJ e,b];exact ih
def KV.any (r:KV kvs vs)(k:κ):(kvs.any fun kv=>decide (kv.1=k))=vs.any fun kv=>decide (kv.1=k):=by
 unfold KV at r
 induction r with
 | nil=>rfl
 | cons h t ih=>rw[pP,pP,ih,h.1]
def KV.repl (r:KV kvs vs)(k:κ){y:V}{u:Value}(ry:RelV y u):
  KV (kvs.map fun kv=>if kv.1=k then (kv.1,y) else kv) (vs.map fun kv=>if kv.1=k then (kv.1,u) else kv):=by
 unfold KV at r ⊢
 induction r with
 | nil=>exact .nil
 | @cons p q ps qs h t ih =>
  rw[tG,tG];refine .cons ?_ ih;obtain⟨h1,h2⟩:=h
  by_cases e:p.1=k
  ·rw[if_pos e,if_pos (h1.symm.trans e)];exact⟨h1,ry⟩
  ·rw[if_neg e,if_neg (fun z=>e (h1.trans z))];exact⟨h1,h2⟩
def KV.put (r:KV kvs vs)(k:κ){y:V}{u:Value}(ry:RelV y u):KV (VC kvs k y) (stored vs k u):=by
 unfold VC stored;rw[r.any k]
 by_cases e:(vs.any fun kv=>decide (kv.1=k))=true
 ·rw[if_pos e,if_pos e];exact r.repl k ry
 ·rw[if_neg e,if_neg e];exact Paired.snoc r ⟨rfl,ry⟩
def KV.drop (r:KV kvs vs)(k:κ):KV (z2Q kvs k) (without vs k):=by
 unfold KV at r ⊢;unfold z2Q without
 induction r with
 | nil=>exact .nil
 | @cons p q ps qs h t ih =>
  obtain⟨h1,h2⟩:=h;rw[pI,pI]
  by_cases e:p.1=k
  ·have a:¬decide (p.1≠k)=true:=by simp[e]
   have b:¬decide (q.1≠k)=true:=by simp[h1.symm.trans e]
   rw[if_neg a,if_neg b];exact ih
  ·have e':¬q.1=k:=fun z=>e (h1.trans z);have a:decide (p.1≠k)=true:=by simp[e]
   have b:decide (q.1≠k)=true:=by simp[e']
   rw[if_pos a,if_pos b];exact .cons ⟨h1,h2⟩ ih
def KV.keys {kvs:List (κ×V)}{vs:List (κ×Value)}(r:KV kvs vs):kvs.map (·.1)=vs.map (·.1):=by
 unfold KV at r
 induction r with
 | nil=>rfl
 | cons h t ih=>rw[tG,tG,ih,h.1]
def KV.length (r:KV kvs vs):kvs.length=vs.length:=Paired.length r
end
def z2n (r:RelV (kV k) u):(wF P w).is k u=true:=by
 cases k with
 | inl i=>obtain⟨t,e⟩:=(show ∃t,u=Value.int i t from r);subst e;exact V8 P w i t
 | inr x=>obtain⟨t,e⟩:=(show ∃t,u=Value.str x t from r);subst e;exact V4 P w x t
 | non=>cases (show u=Value.none from r);exact Vj P w
def X8:∀ {ks:List Key} {us:List Value},Vals (ks.map kV) us->ItemsAre (wF P w) ks us
 | [],_,r=>by rw[tX]at r;cases r;exact .nil
 | k::ks,_,r=>by
  rw[tG]at r;cases r with
  | cons h t=>exact .cons (z2n h) (X8 t)
abbrev KT (H:Hp):List (List Key×V)->List (List Key×Addr×Value)->Prop:=Paired fun p q=>p.1=q.1/\H q.2.1=some (.tup (p.1.map kV))/\RelV p.2 q.2.2
def KT.val {H:Hp}{kvs:List (List Key×V)}{xs:List (List Key×Addr×Value)}(r:KT H kvs xs)(k:List Key):RelO (jo kvs k) ((atKey xs k).map (·.2)):=by
 induction r with
 | nil=>exact True.intro
 | @cons p q ps qs h t ih =>
  obtain⟨h1,_,h2⟩:=h
  by_cases e:p.1=k
  ·have e':q.1=k:=h1.symm.trans e;have b:atKey (q::qs) k=some q.2:=by simp[atKey,pM,e']
   rw[jD e,b];exact h2
  ·have e':¬q.1=k:=fun z=>e (h1.trans z);have b:atKey (q::qs) k=atKey qs k:=by simp[atKey,pM,e']
   rw[qJ e,b];exact ih
def KT.repl (r:KT H kvs xs)(k:List Key){y:V}{u:Value}(ry:RelV y u):
  KT H (kvs.map fun kv=>if kv.1=k then (kv.1,y) else kv) (xs.map (putAt k u)):=by
 induction r with
 | nil=>exact .nil
 | @cons p q ps qs h t ih =>
  rw[tG,tG];refine .cons ?_ ih;obtain⟨h1,h2,h3⟩:=h;unfold putAt
  by_cases e:p.1=k
  ·rw[if_pos e,if_pos (h1.symm.trans e)];exact⟨h1,h2,ry⟩
  ·rw[if_neg e,if_neg (fun z=>e (h1.trans z))];exact⟨h1,h2,h3⟩
def KT.put (r:KT H kvs xs)(k:List Key){b:Addr}{y:V}{u:Value}(hb:H b=some (.tup (k.map kV)))(ry:RelV y u):
  KT H (VC kvs k y) (storedH xs k b u):=by
 have e:(kvs.any fun kv=>decide (kv.1=k))=(atKey xs k).isSome:=by
  rw[WK,(r.val k).isSome_eq,Option.isSome_map]
 unfold VC storedH;rw[e]
 by_cases q:(atKey xs k).isSome=true
 ·rw[if_pos q,if_pos q];exact r.repl k ry
 ·rw[if_neg q,if_neg q];exact Paired.snoc r ⟨rfl,hb,ry⟩
def KT.keeps (r:KT H kvs xs)(ht:∀b ys,H b=some (.tup ys)->H' b=some (.tup ys)):KT H' kvs xs:=
 Paired.mapP r fun _ _ z=>⟨z.1,ht _ _ z.2.1,z.2.2⟩
section
def z2j (ok:HOk P w H h)(e:Rd H a u):ObjOk P w H h a u:=e.ok ok
def ZU (ok:HOk P w H h)(e:Rd H a (.dK kvs)):kvs.length<=sizeLine/\(a==sysModules)=false/\∃vs,KV kvs vs/\h.DictOf (wF P w) a vs:=
 show ObjOk P w H h a (.dK kvs) from z2j ok e
def z0P (ok:HOk P w H h)(e:H a=some (.tup (ks.map kV))):(tupleKind (wF P w)).is h ks a:=by
 obtain⟨_,its,r,o,h1,h2,_,n,h3⟩:=(show ObjOk P w H h a (.tup (ks.map kV)) from ok a _ e)
 exact⟨o,its.toArray,n,h1,h2,h3,by simpa using X8 r⟩
def z2x (ok:HOk P w H h)(e:Rd H a (.dT kvs)):kvs.length<=sizeLine/\(a==sysModules)=false /\
  ∃xs,KT H kvs xs/\h.DictOfH (tupleKind (wF P w)) a xs:=by
 obtain⟨z,y,xs,r,o,es,ep,h1,h2,h3,h4,h5⟩:=(show ObjOk P w H h a (.dT kvs) from z2j ok e)
 refine⟨z,y,xs,r,o,es,ep,h1,h2,h3,h4,fun x hx=>?_,h5⟩;have all:∀ {l:List (List Key×V)} {m:List (List Key×Addr×Value)},KT H l m->∀x∈m,(tupleKind (wF P w)).is h x.1 x.2.1:=by
  intro l m q
  induction q with
  | nil=>intro x hx;exact nomatch hx
  | @cons p q ps qs hq t ih =>
   intro x hx;rcases sI.mp hx with e|hx
   ·subst e;exact z0P ok (by rw[<-hq.1];exact hq.2.1)
   ·exact ih x hx
 exact all r x hx
end
def DGet (H:Hp)(a:Addr)(y:V)(r:Option V):Prop:=
 (∃kvs k,Rd H a (.dK kvs)/\y=kV k/\r=jo kvs k)\/∃kvs k b,Rd H a (.dT kvs)/\y=.ref b/\H b=some (.tup (k.map kV))/\r=jo kvs k
def DPut (H:Hp)(a:Addr)(y v:V)(H':Hp):Prop:=
 (∃kvs k,H a=some (.dK kvs)/\y=kV k/\kvs.length<sizeLine/\H'=upd H a (.dK (VC kvs k v))) \/
 ∃kvs k b,H a=some (.dT kvs)/\y=.ref b/\H b=some (.tup (k.map kV))/\kvs.length<sizeLine/\H'=upd H a (.dT (VC kvs k v))
def DGet.k {H:Hp}{a:Addr}{kvs:List (Key×V)}{k:Key}(e:H a=some (.dK kvs)):DGet H a (kV k) (jo kvs k):=.inl ⟨kvs,k,.inl e,rfl,rfl⟩
def DGet.t {H:Hp}{a b:Addr}{kvs:List (List Key×V)}{k:List Key}(e:H a=some (.dT kvs))(eb:H b=some (.tup (k.map kV))):DGet H a (.ref b) (jo kvs k):=.inr ⟨kvs,k,b,.inl e,rfl,eb,rfl⟩
def DPut.k {H:Hp}{a:Addr}{kvs:List (Key×V)}{k:Key}{v:V}(e:H a=some (.dK kvs))(hl:kvs.length<sizeLine):DPut H a (kV k) v (upd H a (.dK (VC kvs k v))):=.inl ⟨kvs,k,e,rfl,hl,rfl⟩
def DPut.t {H:Hp}{a b:Addr}{kvs:List (List Key×V)}{k:List Key}{v:V}(e:H a=some (.dT kvs))(eb:H b=some (.tup (k.map kV)))(hl:kvs.length<sizeLine):
  DPut H a (.ref b) v (upd H a (.dT (VC kvs k v))):=.inr ⟨kvs,k,b,e,rfl,eb,hl,rfl⟩
section
def Inv.big (I:Inv X pins σ H s):sysModules<s.heap.objs.size:=by
 have h:mainGlobals<s.heap.objs.size:=(I.mod.glob.keeps I.bk).lt;exact Nat.lt_trans (by decide) h
def Jt (hu:A.units+1<cLine)(I:Inv X pins σ H s)(g:DGet H a y (some v))(ry:RelV y u)(h:∀w' s',Inv X pins σ H s'->RelV v w'->Q w' s'):
  wpAny (model X.prog X.w) A (getItem (.ref a) u) Q E s:=by
 rcases g with⟨kvs,k,e,ey,l⟩|⟨kvs,k,b,e,ey,eb,l⟩
 ·subst ey;obtain⟨z,hd,vs,rel,dd⟩:=ZU I.hok e;obtain⟨w',hw,rw'⟩:=RelO.some_of (v:=v) (o:=valueAt vs k) (by rw[l];exact rel.val k);exact wpAny_getItem_of (z2n ry) dd.mapOf hw (h w' _ (I.tok _) rw')
 ·subst ey;cases (show u=Value.ref b from ry);obtain⟨z,hd,xs,rel,dd⟩:=z2x I.hok e;obtain⟨w',hw,rw'⟩:=RelO.some_of (v:=v) (o:=(atKey xs k).map (·.2)) (by rw[l];exact rel.val k);obtain⟨p,hp,hp2⟩:=hR.mp hw;refine wpAny_getItem_heap (tupleKind_room_in1 hu) (z0P I.hok eb) dd hp ?_;rw[hp2];exact h w' _ (I.tok _) rw'
end
section
variable {X:Cx}{pins:List (Addr×Obj)}{σ:St}{H:Hp}{s:Shared}{a:Addr}{kvs:List (Key×V)}{k:Key}{u:Value}{A:Around}{E:Value->Shared->Prop}
def z5a (I:Inv X pins σ H s)(e:Rd H a (.dK kvs))(h:∀t s',Inv X pins σ H s'->Q (.int kvs.length t) s'):wpAny (model X.prog X.w) A (call (.builtin "len") [.ref a]) Q E s:=by
 obtain⟨z,hd,vs,rel,dd⟩:=ZU I.hok e;refine call_len_dict hd dd (by rw[<-rel.length];rw[sizeLine_eq]at z;omega) ?_;rw[<-rel.length];exact h _ _ (I.tok _)
end
def z4J (i:Expr):Prop:=∀ov iv,subscripted i false ov iv=operate [ov,iv] (getItem ov iv)
def z27 {prog:Program}{w:World}{A:Around}{E:Value->Shared->Prop}{s:Shared}{env:Env}{value slice:Expr}{pos:Pos}{T id:String}{Q:Value->Shared->Prop}
  (hl:typeLookup (.type T) "__getitem__"=pure (some (.builtin id))) (hs:z4J slice)
  (h:wpAny (model prog w) A (eval value env) (fun o s₁=>wpAny (model prog w) A (eval slice env) (fun i s₂=>s₂.TypeIs o T/\wpAny (model prog w) A (getItem o i) Q E s₂) E s₁) E s):
  wpAny (model prog w) A (eval (.Subscript value slice pos) env) Q E s:=by
 refine Subscript_ (wpAny_mono h (fun o s₁ h₁=>wpAny_mono h₁ (fun i s₂ h₂=>?_) fun _ _ x=>x) fun _ _ x=>x);obtain⟨hT,h₂⟩:=h₂;unfold subscriptTail;refine wpAny_bind ?_;rw[getitemInPython_of_ne hT.not_modules];refine wpAny_bind (wpAny_specialOf hT hl ?_);have fin:wpAny (model prog w) A (subscripted slice false o i) (fun r s₃=>wpAny (model prog w) A (letTemporaryGo value o r >>= fun _=>pure r) Q E s₃) E s₂:=by
  rw[hs o i];exact wpAny_operating (wpAny_mono h₂ (fun r s₃ h₃=>wpAny_bind (wpAny_letTemporaryGo (wpAny_pure h₃))) fun _ _ x=>x)
 first
  | exact wpAny_pure (wpAny_bind fin)
  | exact wpAny_bind (wpAny_pure (wpAny_bind fin))
  | exact wpAny_bind fin
def WD (I:Inv X pins σ H s)(g:DGet H a y o):s.TypeIs (.ref a) "dict":=by
 rcases g with⟨kvs,k,e,_,_⟩|⟨kvs,k,b,e,_,_,_⟩
 ·obtain⟨_,_,vs,_,dd⟩:=ZU I.hok e;exact dd.typeIs
 ·obtain⟨_,_,xs,_,dd⟩:=z2x I.hok e;exact dd.typeIs
def z2I (td ty:TE):TE:=fun σ H Q=>td σ H fun x H1=>ty σ H1 fun y H2=>∃a v,x=.ref a/\DGet H2 a y (some v)/\Q v H2
section
def z1o (hu:X.A.units+1<cLine)(ho:PE X o td)(hi:PE X i ty)(hs:z4J i):PE X (.Subscript o i pos) (z2I td ty):=by
 intro pins s σ H Q I h;refine z27 PySem.F.slot_dict_getitem.lookup hs (thn (ho pins s σ H _ I h) fun u s1 ⟨x,H1,I1,rx,q1⟩=>thn (hi pins s1 σ H1 _ I1 q1) fun iv s2 ⟨y,H2,I2,ry,a,v,ex,g,q2⟩=>?_);subst ex;obtain rfl:u=Value.ref a:=rx;exact⟨WD I2 g,Jt hu I2 g ry fun w' s3 I3 rw'=>⟨v,H2,I3,rw',q2⟩⟩
end
def K9 (h:Heap)(hb:sysModules<h.objs.size):ObjOk P w H (h.push { cls:=.type "dict",data:=.dict #[] }) h.objs.size (.dK []):=
 ⟨rZ _,beq_eq_false_iff_ne.mpr (Ne.symm (rB hb)),[],.nil,Heap.DictOf.new h⟩
def z42:TE:=fun _ H Q=>∀p,H p=none->Q (.ref p) (upd H p (.dK []))
section
def Ky:PE X (.Dict [] [] pos) z42:=fun pins s σ H Q I h =>
 wpAny_Dict_empty ⟨.ref s.heap.objs.size,_,I.laid (a:=s.heap.objs.size) (o:=.dK []) (t':=s.toks) (fun _ _ q=>jYb _ q) (sL _) (K9 s.heap I.big),rfl,h _ (I.hok.fresh (sL _))⟩
end
structure M1 (X:Cx)(o:Expr)(m:Str)(apos:Pos)(e:Expr)(cpos:Pos):Prop where
 base:attributeBase o m X.env (eval o X.env)=eval o X.env
 few:((backTo cpos (starEach [e] X.env)).all (fun x=>!x.1)&&(backToKw cpos (keywordEach [] X.env)).all (fun x=>x.1.isSome)
  && decide (([e]:List Expr).length+([]:List Keyword).length+(if ([]:List Keyword).isEmpty then 0 else 1)<30))=true
 line:(apos.endLine==cpos.line)=true
 trees:backTo cpos (starEach [e] X.env)=[(false,eval e X.env)]
structure M2 (X:Cx)(o:Expr)(m:Str)(apos:Pos)(e f:Expr)(cpos:Pos):Prop where
 base:attributeBase o m X.env (eval o X.env)=eval o X.env
 few:((backTo cpos (starEach [e,f] X.env)).all (fun x=>!x.1)&&(backToKw cpos (keywordEach [] X.env)).all (fun x=>x.1.isSome)
  && decide (([e,f]:List Expr).length+([]:List Keyword).length+(if ([]:List Keyword).isEmpty then 0 else 1)<30))=true
 line:(apos.endLine==cpos.line)=true
 trees:backTo cpos (starEach [e,f] X.env)=[(false,eval e X.env),(false,eval f X.env)]
section
variable {X:Cx}{pins:List (Addr×Obj)}{σ:St}{H:Hp}{s:Shared}{a:Addr}{y d:V}{u r:Value}{o:Option V}{A:Around}{E:Value->Shared->Prop}
end
section
end
section
end
section
variable {X:Cx}{pins:List (Addr×Obj)}{σ:St}{H:Hp}{s:Shared}{a:Addr}{y:V}{u:Value}{A:Around}{E:Value->Shared->Prop}
end
end L2
namespace Att
open PySem PySem.W PySem.Calls PyProof.Rows
def kU:∀(ns:List Int) (vs:List Value),WellAll P h vs (ns.map WData.int)->IntsAre vs ns:=by
 intro ns
 induction ns with
 | nil =>
  intro vs w;rw[tX]at w;cases w;exact .nil
 | cons n ns ih =>
  intro vs w;rw[tG]at w;cases w with
  | cons a b =>
   cases a;exact .cons _ _ (ih _ b)
def Ju {l:OpenLaw}{n:Nat}(hn:l.most=some n){P:Params}{h:Heap}{args:List WData}{vals:List Value}
  (hpre:l.row.toRowW.claim.pre args=true) (hwl:WellAll P h vals args):
  ∃a vs ns,vals=[Value.ref a]/\args=[WData.list (ns.map WData.int)]/\h.get? a=some { cls:=.type "list",data:=.seq vs.toArray }/\IntsAre vs ns/\ns.length<=n:=by
 have hsh:WShape.hasAll [] args [.list .int]=true:=(pre_splitW hpre).1;have hc:l.pre.holds [] { args:=args }=true:=(pre_splitW hpre).2;obtain⟨d,r,rfl,h1,h2⟩:=hasAllW_cons hsh;obtain rfl:=hasAllW_nil h2;obtain⟨xs,rfl,h3⟩:=hasW_list h1;obtain⟨ns,rfl⟩:=items_int h3;have hlen:ns.length<=n:=by
  unfold OpenLaw.pre at hc;have h4:(WTm.not (.lt (.lit (.int (n:Int))) (.len (.arg 0)))).holds [] { args:=[.list (ns.map .int)] }=true:=by
   have h4:=(holds_andW hc).1;rw[hn]at h4;exact h4
  have h5:=condW_of h4 (w_not (w_lt w_lit (w_len_list (w_arg rfl))));rw[tU]at h5;refine Nat.le_of_not_lt fun q=>?_;have q':(n:Int)<((ns.length:Nat):Int):=by omega
  first
   | (rw[decide_eq_true q']at h5;exact absurd h5 (by decide))
   | (simp at h5;omega)
 cases hwl with
 | cons w1 w2 =>
  cases w2;cases w1 with
  | list ho hall=>exact⟨_,_,ns,rfl,rfl,ho,kU ns _ hall,hlen⟩
def Jj (l:OpenLaw)(args:List WData):l.row.toRowW.claim.post args (.bool true) args=true:=
 postW_of (r:=l.row.toRowW) (X:=(true==true))
  (show WShape.has [] (.bool true) .bool=true by first|rfl|decide|simp[WShape.has,WShape.arms,WShape.armsAll])
  (show (WTm.eq .res (.lit (.bool true))).value [] { args:=args,res:=some (.bool true),after:=args }=some (.bool (true==true)) from w_eq_bool (w_res rfl) w_lit) rfl
def attach_call {l:OpenLaw}{n:Nat}{q:Program}{loose:List Str}{XP:(Str->Option Value)->Heap->Prop}{YP:World->Heap->Prop}{d:DefRec}
  (hn:l.most=some n) (hdf:d.params.defaults=[])
  (call:∀(w:World) (s₀ s₁:Shared) (mg mb:Str->Option Value) (fa:Addr) (o:Obj) (pm cd doc:Value) (a:Addr) (vs:List Value) (ns:List Int),
   Ground q loose [] XP w s₀ mg mb s₁.heap->YP w s₁.heap ->
   s₁.heap.get? fa=some o->o.data=.func (docDef d.name d.params d.body d.scope pm cd doc)->s₁.heap.CodeRec cd d.name->mg d.name=some (.ref fa) ->
   s₁.heap.get? a=some { cls:=.type "list",data:=.seq vs.toArray }->IntsAre vs ns->ns.length<=n->s₁.gens=#[] ->
   codeAny (model l.prog w) callerA (.call (.ref fa) ⟨[.ref a],[]⟩) (fun r s'=>r=.ok (.ret (.bool true))/\OldK s₁.heap s'.heap/\s'.os=s₁.os/\AllBare s'.gens) s₁):
  WalkO q loose XP YP l.row.toRowW d [] (fun f vs=>PySem.call f vs):=by
 intro w s₀ s₁ mg mb G Y fa o pm cd doc dV kV ho hd hcd hD hmg hg args vals as hpre hlay hrd hwl hlo;obtain rfl:dV=.none:=Dflts.none hD hdf;obtain rfl:kV=.none:=Dflts.noKw hD;obtain⟨a,vs,ns,rfl,rfl,hobj,hints,hlen⟩:=Ju hn hpre hwl;refine enter_call (codeAny_mono (call w s₀ s₁ mg mb fa o pm cd doc a vs ns G Y ho (fd_plain hd) hcd hmg hobj hints hlen hg) fun r s' hq=>?_);obtain⟨rfl,h2,h3,h4⟩:=hq;exact⟨.inl ⟨.bool true,.bool true,[],rfl,fun _=>rfl,.bool true,Jj l _,fun _=>⟨List.Pairwise.nil,fun _ hm=>(nomatch hm)⟩⟩,h2,h3,h4⟩
section
variable {prog:Program}{w:World}{A:Around}{E:Value->Shared->Prop}{s:Shared}{K:Frag}
end
end Att
namespace L2
open PySem PySem.Spec PyProof.Rows
def Xi:∀ {vs:List Value} {ns:List Int},IntsAre vs ns->Vals (ns.map V.int) vs
 | _,_,.nil=>.nil
 | _,_,.cons n t h=>.cons ⟨t,rfl⟩ (Xi h)
def z1R (H:Hp):Prop:=∀b,H b=none\/∃o xs,H b=some (.frz o (.lst xs))
def KZ {P:Program}{w:World}{K:jJa}{mg mb:Str->Option Value}{CX:CXT}{k:Nat}{fa a:Addr}{fd:FuncData}{x:Str}{sp:Sp}{s₁:Shared}{vs:List Value}{ns:List Int}
  (KX:K.In s₁.heap) (hns:s₁.heap.Ns mainGlobals mg) (hb:s₁.heap.Ns builtinsNs mb) (hbb:∀x:Str,x≠"__name__"->mb x=bootBuiltins x) (hlim:s₁.heap.NoLimit) (hg:s₁.gens=#[])
  (ha:s₁.heap.get? a=some { cls:=.type "list",data:=.seq vs.toArray }) (hi:IntsAre vs ns) (hl:ns.length<=sizeLine) (hr:Room k callerA)
  (F:∀base:Heap,K.In base->base.Ns mainGlobals mg->FnOk P w K mg base CX k fa fd [x] sp) (hbind:∀(s:Shared) (u:Value),BindsTo s fd ⟨[u],[]⟩ [(x,u)])
  (hsp:∀H:Hp,z1R H->SqL K H a (ns.map V.int)->sp [.ref a] H (fun v _=>v=.bl true) fun _ _ _=>False)
  (hCX:∀H e s',CX [] H s₁ (fun _ _ _=>False) e s'->False):
  codeAny (model P w) callerA (.call (.ref fa) ⟨[.ref a],[]⟩) (fun r s'=>r=.ok (.ret (.bool true))/\OldK s₁.heap s'.heap/\s'.os=s₁.os/\AllBare s'.gens) s₁:=by
 have rv:=Xi hi;have lenV:=hi.length;have core:∀H:Hp,z1R H->SqL K H a (ns.map V.int)->HOk P w H s₁.heap->(∀b,H b≠none->b=a)->(H a≠none->K.lookup a=none) ->
   codeAny (model P w) callerA (.call (.ref fa) ⟨[.ref a],[]⟩) (fun r s'=>r=.ok (.ret (.bool true))/\OldK s₁.heap s'.heap/\s'.os=s₁.os/\AllBare s'.gens) s₁:=by
  intro H hO hS hok hA hK;have base_of:∀ {b:Addr} {o:Obj},s₁.heap.get? b=some o->H b=none->(XR s₁.heap H).get? b=some o:=fun e n=>Ka e n;have noA:∀ {b:Addr} {o:Obj} {es:Array DictEntry} {ep:Nat},s₁.heap.get? b=some o->o.data=.dict es ep->H b=none:=fun {b o es ep} e d=>by
   cases q:H b with
   | none=>rfl
   | some u =>
    have e':b=a:=hA b (by rw[q];simp);subst e';rw[ha]at e;cases e;have d':Data.seq vs.toArray _=Data.dict es ep:=d;cases d'
  have nsK:∀ {b:Addr} {m:Str->Option Value},s₁.heap.Ns b m->(XR s₁.heap H).Ns b m:=fun {b m} ⟨o,es,ep,e,d,r⟩=>⟨o,es,ep,base_of e (noA e d),d,r⟩
  have hKb:K.In (XR s₁.heap H):=fun b o e=>base_of (KX b o e) (by
   cases q:H b with
   | none=>rfl
   | some u =>
    have e':b=a:=hA b (by rw[q];simp);subst e';rw[hK (by rw[q];simp)]at e;cases e)
  have hM:Mod K mg (XR s₁.heap H):=⟨hKb,nsK hns,⟨mb,nsK hb,hbb⟩,let ⟨mc,h1,h2⟩:=hlim;⟨mc,nsK h1,h2⟩⟩
  have e0:Env0 P w K mg (XR s₁.heap H) callerA [] s₁ H:=⟨rfl,hM,fun b o e=>z1r e,Nat.le_of_eq (Jn _ _),trivial,fun b hb=>absurd (show b∈([]:List Addr) from hb) (by simp),hok,.of_eq hg⟩
  refine codeAny_mono ((F _ hKb (nsK hns)).run callerA [] s₁ H ⟨[.ref a],[]⟩ [.ref a] [.ref a] _ _ hr e0 (hbind s₁ (.ref a)) (.cons rfl .nil) (hsp H hO hS)) fun r s' h=>?_;cases r with
  | error e=>exact (hCX H e s' h).elim
  | ok fl =>
   cases fl with
   | next=>exact False.elim h
   | brk=>exact False.elim h
   | cont=>exact False.elim h
   | ret u =>
    obtain⟨v,H',os,bare,un,hok',r',q⟩:=h;have q':v=.bl true:=q;subst q';obtain rfl:u=Value.bool true:=r';refine⟨rfl,OldK.of_keep fun b o e=>?_,os,bare⟩;cases q:H b with
    | none=>exact un.keep b o e q (by intro z;exact absurd (show b∈([]:List Addr) from z) (by simp)) (by simp)
    | some u =>
     rcases hO b with z|⟨ob,xs,z⟩
     ·rw[q]at z;cases z
     ·have z2:=un.frzs b ob _ z;obtain⟨e1,_⟩:=hok b _ z;obtain⟨e2,_⟩:=hok' b _ z2;rw[e]at e1;cases e1;exact e2
 cases hk:K.lookup a with
 | some o =>
  have e:=KX a o hk;rw[ha]at e;cases e;refine core (fun _=>none) (fun _=>.inl rfl) (.inr ⟨_,vs.toArray,_,hk,rfl,rfl,rfl,by rw[sM,lenV];exact hl,by simpa using rv⟩) (fun b u z=>by have z':(none:Option HO)=some u:=z;cases z') (fun b z=>absurd rfl z) fun z=>absurd rfl z
 | none =>
  refine core (fun b=>if b=a then some (.frz { cls:=.type "list",data:=.seq vs.toArray } (.lst (ns.map V.int))) else none) (fun b=>?_) (.inl (.inr ⟨{ cls:=.type "list",data:=.seq vs.toArray },if_pos rfl⟩)) (fun b u z=>?_) (fun b z=>?_) fun _=>hk
  ·by_cases hb:b=a
   ·exact .inr ⟨_,_,if_pos hb⟩
   ·exact .inl (if_neg hb)
  ·by_cases hb:b=a
   ·have z':=(if_pos hb).symm.trans z;cases z';subst hb;exact⟨ha,by rw[tU];exact hl,vs,_,rv,ha⟩
   ·have z':=(if_neg hb).symm.trans z;cases z'
  ·by_cases hb:b=a
   ·exact hb
   ·exact absurd (if_neg hb) z
def walk_of {l:PySem.W.OpenLaw}{n k:Nat}{q:Program}{loose:List Str}{XP:(Str->Option Value)->Heap->Prop}{YP:World->Heap->Prop}{d:DefRec}{K:Params->jJa}{CX:World->CXT}{sp:World->Sp}{x:Str}
  (hn:l.most=some n) (hn2:n<=sizeLine) (hdf:d.params.defaults=[]) (hr:Room k callerA)
  (hY:∀(w:World) (h:Heap),YP w h->(K w.params).In h)
  (F:∀(w:World) (mg:Str->Option Value) (fa:Addr) (h:Heap),(K w.params).In h->h.Ns mainGlobals mg->mg d.name=some (.ref fa) ->
   ∃fd:FuncData,(∀(s:Shared) (u:Value),BindsTo s fd ⟨[u],[]⟩ [(x,u)]) /\
    ∀base:Heap,(K w.params).In base->base.Ns mainGlobals mg->FnOk l.prog w (K w.params) mg base (CX w) k fa fd [x] (sp w))
  (hsp:∀(w:World) (H:Hp) (a:Addr) (ns:List Int),ns.length<=n->z1R H->SqL (K w.params) H a (ns.map V.int)->sp w [.ref a] H (fun v _=>v=.bl true) fun _ _ _=>False)
  (hCX:∀(w:World) (H:Hp) (s:Shared) (e:Value) (s':Shared),CX w [] H s (fun _ _ _=>False) e s'->False):
  PySem.W.WalkO q loose XP YP l.row.toRowW d [] (fun f vs=>PySem.call f vs):=by
 refine Att.attach_call hn hdf fun w s₀ s₁ mg mb fa o pm cd doc a vs ns G Y ho hd hcd hmg hobj hints hlen hg=>?_;have KX:=hY w _ Y;obtain⟨fd,hb,hF⟩:=F w mg fa _ KX G.T.g hmg;exact KZ KX G.T.g G.T.b G.T.builtins G.T.nolimit hg hobj hints (rD hlen hn2) hr hF hb (fun H hO hS=>hsp w H a ns hlen hO hS) fun H e s'=>hCX w H s₁ e s'
def defArgs (s:Stmt):Arguments:=match s with
 | .FunctionDef _ a _ _ _ _ _ _ _ _=>a
 | _=>{ posonlyargs:=[],args:=[],vararg:=none,kwonlyargs:=[],kw_defaults:=[],kwarg:=none,defaults:=[] }
def defBody (s:Stmt):List Stmt:=match s with
 | .FunctionDef _ _ b _ _ _ _ _ _ _=>b
 | _=>[]
def defScope (s:Stmt):Scope:=match s with
 | .FunctionDef _ _ _ _ _ _ sc _ _ _=>sc
 | _=>{ kind:=.function,names:=[],isGenerator:=false,isCoroutine:=false }
abbrev CX0:CXT:=fun _ _ _ _ _ _=>False
structure Fun (K:jJa)(x qual:Str)(st:Stmt)(f:Addr)(fd:FuncData):Prop where
 ex:∃(oc:Value) (od:Option Addr) (kV doc pm:Value) (an:Option Addr) (cdv ct:Value) (osl:Array (Option Value)),
  fd=jJe x qual (defArgs st) (defBody st) (defScope st) .none kV doc pm an cdv ct/\K.lookup f=some ⟨oc,od,.func fd,osl⟩/\jJj K cdv qual=true
 kp:jJf K (.ref f)=true
section
variable {P:Program}{w:World}{K:jJa}{mg:Str->Option Value}{base:Heap}
def Fun.ok {x qual:Str}{st:Stmt}{f:Addr}{fd:FuncData}{N ps:List Str}{k:Nat}{sp:Sp}(F:Fun K x qual st f fd)(S:FnScope N ps (defScope st))(len:∀vs H Q E,sp vs H Q E->vs.length=ps.length)
  (hbody:∀(cdv:Value) (A:Around) (outer:List Env) (s:Shared) (H:Hp) (vs:List V) (Q:VK) (E:XK),Room k (A.deeper (envOfC qual (defScope st) s.heap.objs.size f cdv))->sp vs H Q E ->
   ∃t,PSs (vp CX0 P w K mg base N qual (defScope st) f cdv A outer s H E).nox (defBody st) t/\t { nx:=fun _ H'=>Q .non H',rt:=Q } (start N vs) H):FnOk P w K mg base CX0 (k+1) f fd ps sp:=by
 obtain⟨oc,od,kV,doc,pm,an,cdv,ct,osl,rfl,lk,hcd⟩:=F.ex;refine JJ lk hcd S len fun A outer s H vs Q E hr hsp=>?_;obtain⟨t,h,q⟩:=hbody cdv A outer s H vs Q E hr hsp;exact⟨t,h.nox,q⟩
def Fun.binds {x qual:Str}{st:Stmt}{f:Addr}{fd:FuncData}{ps:List Str}(F:Fun K x qual st f fd)
  (h:∀(kV doc pm:Value) (an:Option Addr) (cdv ct:Value) (us:List Value),us.length=ps.length->bindArgs (jJe x qual (defArgs st) (defBody st) (defScope st) .none kV doc pm an cdv ct) ⟨us,[]⟩=pure (ps.zip us)):Binds K fd ps []:=by
 obtain⟨oc,od,kV,doc,pm,an,cdv,ct,osl,rfl,lk,hcd⟩:=F.ex;exact .all (h kV doc pm an cdv ct)
def z0g {x qual:Str}{st:Stmt}{f:Addr}{oc:Value}{od an:Option Addr}{osl:Array (Option Value)}{kV doc pm cdv ct:Value}(l:K.lookup f=some ⟨oc,od,.func (jJe x qual (defArgs st) (defBody st) (defScope st) .none kV doc pm an cdv ct),osl⟩)
  (c:jJj K cdv qual=true) (k:jJf K (.ref f)=true):Fun K x qual st f (jJe x qual (defArgs st) (defBody st) (defScope st) .none kV doc pm an cdv ct):=⟨⟨oc,od,kV,doc,pm,an,cdv,ct,osl,rfl,l,c⟩,k⟩
end
section
def pv (i:Nat){x:Str}{pos:Pos}(hN:autoParam (X.N[i]?=some x) au3._auto_1)(hv:autoParam (Vis X.env.scope x) au5._auto_1)(hd:autoParam ((x==("__debug__":Str))=false) au1._auto_1)
  (hcd:autoParam ((x==("__classdict__":Str))=false) au1._auto_1):PE X (.Name x pos) (z1t i):=ja hN hv hd hcd
def QO:CallR X (.builtin "len") (fun xs H Q=>∃a kvs,xs=[V.ref a]/\H a=some (.dK kvs)/\Q (.int kvs.length) H):=by
 intro pins s σ H xs us Q I r h;obtain⟨a,kvs,rfl,ha,q⟩:=h;obtain⟨u,rfl,ru⟩:=uF r;cases ru;exact z5a I (.inl ha) fun t s' I'=>⟨.int kvs.length,H,I',⟨t,rfl⟩,q⟩
end
def z53 {A B:Prop}(h:B):if false=true then A else B:=by
 rw[if_neg sJ];exact h
def z6A {A B:Prop}(h:A):if true=true then A else B:=by
 rw[if_pos rfl];exact h
def Same (H H':Hp):Prop:=∀b o,H b=some o->H' b=some o
def Same.refl (H:Hp):Same H H:=fun _ _ h=>h
def Same.trans (a:Same H H1)(b:Same H1 H2):Same H H2:=fun c o h=>b c o (a c o h)
def Same.free (e:Same H H'){l:Addr}(h:H' l=Option.none):H l=Option.none:=by
 cases q:H l with
 | none=>rfl
 | some o =>
  rw[e l o q]at h;cases h
def Same.seq {K:jJa}{H H':Hp}{a:Addr}{xs:List V}(e:Same H H')(h:SqL K H a xs):SqL K H' a xs:=by
 rcases h with (h|⟨o,h⟩)|h
 ·exact .inl (.inl (e _ _ h))
 ·exact .inl (.inr ⟨o,e _ _ h⟩)
 ·exact .inr h
section
variable {κ:Type}[DecidableEq κ]
end
def z5Y (fr:List Env)(H:Hp)(old:Addr->Prop)(e:Addr)(cls:Value)(h:Heap):Prop:=
 ∃(B:Heap) (a0:Value),Heap.FlyingW B fr e cls a0 h/\∀b o,h.get? b=some o->b∉frs fr->(H b≠none\/old b)->B.get? b=some o
def cxx (P:Program)(w:World):CXT:=fun outer H s E ev s'=>∃(e:Addr) (cls:Value) (H':Hp),ev=.ref e/\s'.os=s.os/\AllBare s'.gens /\
 Un (frs outer) [] H H' s.heap s'.heap/\HOk P w H' s'.heap/\z5Y outer H' (fun b=>∃o,s.heap.get? b=some o) e cls s'.heap/\E cls none H'
def ObjOk.there (x:ObjOk P w H h a o):∃ob,h.get? a=some ob:=by
 cases o with
 | lst xs=>obtain⟨_,_,_,_,e⟩:=x;exact⟨_,e⟩
 | tup xs=>obtain⟨_,_,_,_,e,_⟩:=x;exact⟨_,e⟩
 | dK kvs=>obtain⟨_,_,_,_,o,_,_,e,_⟩:=x;exact⟨_,e⟩
 | dT kvs=>obtain⟨_,_,_,_,o,_,_,e,_⟩:=x;exact⟨_,e⟩
 | set S n=>obtain⟨o,_,_,_,e,_⟩:=x;exact⟨_,e⟩
 | ins C dx fs=>obtain⟨_,_,_,e,_⟩:=x;exact⟨_,e⟩
 | own y=>obtain⟨_,e⟩:=x;exact⟨_,e⟩
 | xd fs=>obtain⟨_,⟨_,_,_,e,_⟩,_⟩:=x;exact⟨_,e⟩
 | rng lo hi=>obtain⟨_,_,_,e⟩:=x;exact⟨_,e⟩
 | frz ob u=>obtain⟨e,_⟩:=x;exact⟨_,e⟩
 | tbl ps=>exact⟨_,(show h.get? a=some _ from x)⟩
 | met f y=>exact⟨_,(show h.get? a=some _ from x)⟩
 | ext φ=>obtain⟨_,⟨_,e⟩,_⟩:=x;exact⟨_,e⟩
section
def Inv.trkNo (I:Inv X pins σ H s){b:Addr}{u:HO}(q:H b=some u):b∉frs X.stack:=fun m=>by
 have z:=I.stkFree b m;rw[q]at z;cases z
def Inv.oldNo (I:Inv X pins σ H s)(hst:X.stack=X.env::X.outer)(hf:X.env.frame=some X.env.locals){b:Addr}{o:Obj}(q:X.s₀.heap.get? b=some o)(n:b∉X.fs):b∉frs X.stack:=fun m=>by
 rcases sI.mp (I.stkSub b m)with z|z
 ·exact absurd z (rB (sU (jYc q) I.ok.above))
 ·exact n z
def Qp (I:Inv X pins σ H s)(hst:X.stack=X.env::X.outer)(hf:X.env.frame=some X.env.locals)(hex:X.ex=[])
  (fl:Heap.FlyingW B X.outer e cls a0 h') (cov:∀b o,s.heap.get? b=some o->b∉frs X.stack->(H b≠none\/∃o,X.s₀.heap.get? b=some o)->B.get? b=some o)
  (up:s.heap.UpToSlots h') (hE:E cls none H):cxx X.prog X.w X.outer X.H₀ X.s₀ E (.ref e) { s with heap:=h' }:=by
 have nex:∀b:Addr,b∉X.ex:=fun b z=>by rw[hex]at z;cases z
 have trkd:∀b u v,H b=some u->s.heap.get? b=some v->h'.get? b=some v:=fun b u v q r=>fl.1 b v (cov b v r (I.trkNo q) (.inl (by rw[q];simp)));have oldd:∀b o v,X.s₀.heap.get? b=some o->b∉X.fs->s.heap.get? b=some v->h'.get? b=some v:=fun b o v q n r=>fl.1 b v (cov b v r (I.oldNo hst hf q n) (.inr ⟨o,q⟩));have frms:∀b o,b∈X.fs->s.heap.get? b=some o->∃sl,h'.get? b=some { o with slots:=sl }:=fun b o hb q=>by
  obtain⟨_,o2,ho2,nf⟩:=I.funs.mem hb;rw[q]at ho2;cases ho2;exact up b o q nf
 refine⟨e,cls,H,rfl,I.os,I.bare,⟨fun b o q n hb hx=>?_,fun b o q n hb hx=>?_,fun b o q n hx=>I.base.free b o q n (nex b),fun b o q hx=>?_,I.base.tups,I.base.frzs,I.base.tbls⟩,fun b u q=>?_,⟨B,a0,fl,fun b o q n hor=>?_⟩,hE⟩
 ·exact oldd b o o q hb (I.base.keep b o q n hb (nex b))
 ·obtain⟨sl,e1⟩:=I.base.slot b o q n hb (nex b);obtain⟨sl',e2⟩:=frms b _ hb e1;exact⟨sl',e2⟩
 ·obtain⟨o1,e1⟩:=I.base.there b o q (nex b)
  by_cases hb:b∈X.fs
  ·obtain⟨sl,e2⟩:=frms b o1 hb e1;exact⟨_,e2⟩
  ·exact⟨o1,oldd b o o1 q hb e1⟩
 ·refine (I.hok b u q).stay (fun c v hc r=>?_) (fun _ z=>z) fun _ _ z=>z;rcases hc with z|z
  ·exact trkd c u v (by rw[z];exact q) r
  ·exact trkd c _ v z r
 ·have q:h'.get? b=some o:=q;rcases hor with hb|⟨o0,e0⟩
  ·obtain⟨u,hu⟩:=Option.ne_none_iff_exists'.mp hb;obtain⟨o1,e1⟩:=(I.hok b u hu).there;have:=trkd b u o1 hu e1;rw[q]at this;cases this;exact cov b _ e1 (I.trkNo hu) (.inl hb)
  ·obtain⟨o1,e1⟩:=I.base.there b o0 e0 (nex b);have:=oldd b o0 o1 e0 n e1;rw[q]at this;cases this;exact cov b _ e1 (I.oldNo hst hf e0 n) (.inr ⟨o0,e0⟩)
end
section
variable {P:Program}{w:World}{K:jJa}{mg:Str->Option Value}{base:Heap}{N:List Str}{qual:Str}{scope:Scope}{f:Addr}{cd:Value}{A:Around}{outer:List Env}{s:Shared}{H:Hp}{E:XK}
def zl:vW (cxx P w) (vp (cxx P w) P w K mg base N qual scope f cd A outer s H E) E:=by
 intro pins σ H1 s1 ev s' I hq;obtain⟨e,cls,H',rfl,os,bare,un,hok,⟨B,a0,fl,cov⟩,hE⟩:=hq;have I':=I.call' (ch:=[]) os un hok bare (fun b z=>nomatch z);have hfr:(A.deeper (envOfC qual scope s.heap.objs.size f cd)).frames=some (envOfC qual scope s.heap.objs.size f cd::outer):=I.ok.frames;refine wpAny_leaves_onW (L:=s.heap.objs.size) hfr rfl fl fun h' fl' up=>?_;exact Qp (E:=E) I' rfl rfl rfl fl' (fun b o e1 e2 e3=>cov b o e1 e2 (by
  rcases e3 with z|⟨o0,z⟩
  ·exact .inl z
  ·exact .inr (I.base.there b o0 z (fun q=>nomatch q)))) up hE
def yO:vW (cxx P w) X (fun _ _ _=>False):=fun _ _ _ _ _ _ _ ⟨_,_,_,_,_,_,_,_,_,z⟩=>z.elim
def z3q (h:cxx P w outer H s (fun _ _ _=>False) e s'):False:=let ⟨_,_,_,_,_,_,_,_,_,z⟩:=h;z
end
structure ErrCls (K:jJa)(mg:Str->Option Value)(x:Str)(C:Addr)(bm:List Value)(newId:String):Prop where
 gl:mg x=some (.ref C)
 own:∀h:Heap,K.In h->h.Ns mainGlobals mg->OwnCls x C bm newId mg h
def VA (g:h.Ns mainGlobals mg)(b:h.Ns builtinsNs mb)(bb:∀x:Str,x≠"__name__"->mb x=bootBuiltins x)(nl:h.NoLimit)(p:Program):∃loose,PySem.W.TopRead p loose mg mb h:=by
 obtain⟨o,es,ep,ho,hd,hk,hf⟩:=id g;refine⟨es.toList.filterMap fun e=>match e.key with|.str y _=>some y|_=>none,g,b,nl,bb,fun x _ hx _ _ _=>?_⟩;rw[<-hf];unfold nsFind findBy;rw[<-Array.find?_toList];cases q:es.toList.find? (fun e=>e.key.isStr x)with
 | none=>rfl
 | some en =>
  exfalso;have hm:=List.mem_of_find?_eq_some q;have hp:=List.find?_some q;obtain⟨y,t,hy⟩:=hk en (by simpa using hm);rw[hy]at hp;have hxy:y=x:=by simpa [Value.isStr] using hp
  exact hx (pX.mpr ⟨en,hm,by rw[hy,hxy]⟩)
structure ErrC (K:jJa)(x:Str)(C:Addr):Prop where
 ns:jJg K mainGlobals x=some (some (.ref C))
 ex:jJh K C [.type "ValueError",.type "Exception",.type "BaseException",.type "object"] "ValueError.__new__"=true
def ErrC.mg {K:jJa}{x:Str}{C:Addr}{h:Heap}{mg:Str->Option Value}(e:ErrC K x C)(X:K.In h)(G:h.Ns mainGlobals mg):mg x=some (.ref C):=jJv X G e.ns
section
def Inv.ownCls (I:Inv X pins σ H s)(e:ErrC X.K x C):OwnCls x C [.type "ValueError",.type "Exception",.type "BaseException",.type "object"] "ValueError.__new__" X.mg X.base:=by
 obtain⟨mb,b1,b2⟩:=I.mod.blt;obtain⟨loose,T⟩:=VA I.mod.glob b1 b2 I.mod.nolimit X.prog;exact PySem.W.own_of_in I.mod.kin T e.ns e.ex
def z0C {P:Program}{w:World}{K:jJa}{mg:Str->Option Value}{base:Heap}{N:List Str}{qual:Str}{scope:Scope}{f:Addr}{cd:Value}{A:Around}{outer:List Env}{s:Shared}{H:Hp}{E:XK}
  {pins:List (Addr×Obj)} {σ:St} {H1:Hp} {s1:Shared} {h':Heap} {e:Addr} {cls:Value} {vs:List Value} (I:Inv (vp (cxx P w) P w K mg base N qual scope f cd A outer s H E) pins σ H1 s1)
  (hx:Heap.MadeExcOf s1.heap h' e cls vs) (hE:E cls none H1):(vp (cxx P w) P w K mg base N qual scope f cd A outer s H E).xe (.ref e) { s1 with heap:=h' }:=by
 have hfr:(A.deeper (envOfC qual scope s.heap.objs.size f cd)).frames=some (envOfC qual scope s.heap.objs.size f cd::outer):=I.ok.frames;have fs:=I.stack;have hin:∀env∈(envOfC qual scope s.heap.objs.size f cd::outer),∀b,env.frame=some b->b∈frs (envOfC qual scope s.heap.objs.size f cd::outer):=fun env he b hb=>pX.mpr ⟨env,he,hb⟩;refine wpAny_leaves_madeW (L:=s.heap.objs.size) (base:=PySem.W.hideAll s1.heap (frs (envOfC qual scope s.heap.objs.size f cd::outer))) hfr rfl (fun b o q=>jJz _ q) (PySem.W.funFrames_hide fs hin) hx fun h2 t fl tup nt up=>?_;refine Qp (E:=E) (h':=h2) I rfl rfl rfl fl (fun b o q n _=>jJy _ q n) (fun b o q nf=>?_) hE;exact up b o (hx.keeps b o q) nf
end
def Ks (C:Addr)(E:XK)(ta:TA):TS:=fun _ σ H=>ta σ H fun vs H1=>vs.length<=sizeLine/\E (.ref C) none H1
def KC {P:Program}{w:World}{K:jJa}{mg:Str->Option Value}{base:Heap}{N:List Str}{qual:Str}{scope:Scope}{f:Addr}{cd:Value}{A:Around}{outer:List Env}{s:Shared}{H:Hp}{E:XK}
  {x:Str} {C:Addr} {e₀:Expr} {rest:List Expr} {ta:TA} {np cpos pos:Pos} (hh:A.handled=none) (hc:ErrC K x C) (hg:Gl (vp (cxx P w) P w K mg base N qual scope f cd A outer s H E) x)
  (ha:PA (vp (cxx P w) P w K mg base N qual scope f cd A outer s H E) (e₀::rest) ta) (hd:autoParam ((x==("__debug__":Str))=false) au1._auto_1)
  (he:autoParam (starEach (e₀::rest) (envOfC qual scope s.heap.objs.size f cd)=(false,eval e₀ (envOfC qual scope s.heap.objs.size f cd))::starEach rest (envOfC qual scope s.heap.objs.size f cd)) au3._auto_1)
  (hp:autoParam ((backTo cpos (starEach rest (envOfC qual scope s.heap.objs.size f cd))).any (·.1)=false) au3._auto_1):
  PS (vp (cxx P w) P w K mg base N qual scope f cd A outer s H E) (.Raise (some (.Call (.Name x np) (e₀::rest) [] cpos)) none pos) (Ks C E ta):=by
 intro pins s1 σ H1 D I h;obtain⟨bm,NN,nm,q,bs,hdct,sn,sub,ab,col,dd,k0,k1,k2,k3,k5,mN,hC,hN,hni,T⟩:=(I.ownCls hc).obj;have F:=PySem.F.excBase_ValueError;refine wpAny_Raise_call_subT (C:=C) (nm:=nm) (q:=q) (N:=NN) (bs:=bs) (bm:=bm) (hdct:=hdct) (sn:=sn) (sub:=sub) (ab:=ab) (col:=col) (dd:=dd) (k0:=k0) (k1:=k1) (k2:=k2) (k3:=k3) (k5:=k5) F (mN:=mN)
  (T.hasType F.hasBase) hh (by show (backTo cpos (starEach (e₀::rest) (envOfC qual scope s.heap.objs.size f cd))).any (·.1)=false;rw[he];exact hp) hni (jI I hg (hc.mg I.mod.kin I.mod.glob) ⟨rfl,?_⟩ hd)
 have hw:=ha cpos pins s1 σ H1 _ I h;have hw:wpAny (model P w) (A.deeper (envOfC qual scope s.heap.objs.size f cd)) (spliced (backTo cpos (starEach (e₀::rest) (envOfC qual scope s.heap.objs.size f cd)))) _ _ s1:=hw;show wpAny _ _ (evalArgs (.ref C) true (backTo cpos (starEach (e₀::rest) (envOfC qual scope s.heap.objs.size f cd))) []) _ _ s1;rw[he]at hw ⊢;refine Calls.evalArgs_plain (thn hw fun us s2 ⟨vs,H2,I2,r,z,hE⟩=>?_);refine⟨rfl,by rw[<-r.length];exact z,I2.bk _ _ hC,hN.keeps I2.bk,T.keeps I2.bk,fun h' e hx=>z0C I2 hx hE⟩
abbrev Cx.within (X:Cx)(e:Addr)(oe:Obj):Cx:={ X with A:=X.A.mark (some (.ref e)),calm:=false,pn:=X.pn++[(e,oe)],xe:=fun _ _=>False }
section
variable {X:Cx}{pins:List (Addr×Obj)}{σ:St}{H:Hp}{s:Shared}{e:Addr}{oe:Obj}
def Cx.Ok.within (ok:X.Ok):(X.within e oe).Ok:=
 ⟨ok.mod,ok.kind,ok.glob,ok.blt,ok.above,ok.inj,ok.has,ok.cab,(fun z=>by cases z),ok.frames,ok.stk,ok.exf,ok.bs,ok.bsz,ok.noex,ok.exfs,ok.funs,ok.frf⟩
def Cx.Ok.without (ok:(X.within e oe).Ok)(hd:X.calm=true->X.A.handled=none):X.Ok:=
 ⟨ok.mod,ok.kind,ok.glob,ok.blt,ok.above,ok.inj,ok.has,ok.cab,hd,ok.frames,ok.stk,ok.exf,ok.bs,ok.bsz,ok.noex,ok.exfs,ok.funs,ok.frf⟩
def Inv.within (I:Inv X pins σ H s)(h1:s.heap.get? e=some oe)(h2:H e=none)(h3:e≠X.env.locals)(h4:e∉X.fs)(h5:∀v,oe.data≠.cell v):Inv (X.within e oe) pins σ H s:=
 ⟨I.ok.within,I.os,I.bare,I.base,I.loc,I.cell,I.free,I.freeC,fun p hp=>by
  rcases sC.mp hp with z|z
  ·rcases sC.mp z with z|z
   ·exact I.pin p (sE _ z)
   ·obtain rfl:=sG.mp z;exact⟨h1,h2,h3,h4,h5⟩
  ·exact I.pin p (sD _ z),I.hok,I.len⟩
def Inv.without (I:Inv (X.within e oe) pins σ H s)(hd:X.calm=true->X.A.handled=none):Inv X pins σ H s:=
 ⟨I.ok.without hd,I.os,I.bare,I.base,I.loc,I.cell,I.free,I.freeC,fun p hp=>by
  rcases sC.mp hp with z|z
  ·exact I.pin p (sE _ (sE _ z))
  ·exact I.pin p (sD _ z),I.hok,I.len⟩
def SP.without (h:SP (X.within e oe) pins D f s)(hd:X.calm=true->X.A.handled=none):SP X pins D f s:=by
 cases f with
 | next=>obtain⟨σ',H',I,q⟩:=h;exact⟨σ',H',I.without hd,q⟩
 | brk=>obtain⟨σ',H',I,q⟩:=h;exact⟨σ',H',I.without hd,q⟩
 | cont=>obtain⟨σ',H',I,q⟩:=h;exact⟨σ',H',I.without hd,q⟩
 | ret u=>obtain⟨v,σ',H',I,r,q⟩:=h;exact⟨v,σ',H',I.without hd,r,q⟩
def Inv.reframe {t':Nat}(I:Inv X pins σ H s)(hn':h'.Ns X.env.locals m')(hs:Heap.SameBut X.env.locals s.heap h')(hl:σ'.length=σ.length)
  (hv:∀m,s.heap.Ns X.env.locals m->(∀(i:Nat) (x:Str) (v:V),X.N[i]?=some x->σ[i]?=some (some v)->Vis X.env.scope x->∃u,RelV v u/\z34 X.env s.heap m x u) ->
   ∀(i:Nat) (x:Str) (v:V),X.N[i]?=some x->σ'[i]?=some (some v)->Vis X.env.scope x->∃u,RelV v u/\z34 X.env s.heap m' x u):Inv X pins σ' H { s with heap:=h',toks:=t' }:=by
 obtain⟨m,hn,hr⟩:=id I.loc;obtain⟨oL,_,_,hoL,_⟩:=id hn;have tracked:HOk X.prog X.w H h':=fun b ob q=>by
  refine (I.hok b ob q).stay (fun c v hc r=>(hs.2 c ?_).trans r) (fun _ z=>z) fun _ _ z=>z;rintro rfl;rcases hc with rfl|hc
  ·rw[I.free]at q;cases q
  ·rw[I.free]at hc;cases hc
 have below:∀b o,X.s₀.heap.get? b=some o->b≠X.env.locals:=fun b o q=>rB (sU (jYc q) I.ok.above);refine⟨I.ok,I.os,I.bare,⟨fun b o q n hb hx=>(hs.2 b (below b o q)).trans (I.base.keep b o q n hb hx),fun b o q n hb hx=>?_,I.base.free,fun b o q hx=>?_,I.base.tups,I.base.frzs,I.base.tbls⟩,⟨m',hn',fun i x v e1 e2 e3=>?_⟩,fun y c q=>?_,I.free,I.freeC,fun p hp=>?_,tracked,hl.trans I.len⟩
 ·obtain⟨sl,e1⟩:=I.base.slot b o q n hb hx;exact⟨sl,(hs.2 b (below b o q)).trans e1⟩
 ·obtain⟨o',e1⟩:=I.base.there b o q hx;exact⟨o',(hs.2 b (below b o q)).trans e1⟩
 ·obtain⟨u,r,l⟩:=hv m hn hr i x v e1 e2 e3;refine⟨u,r,?_⟩;rcases l with l|⟨k,c,e,z⟩
  ·exact .inl l
  ·exact .inr ⟨k,c,e,z.sameBut hs (I.cne x c e)⟩
 ·obtain⟨w',z⟩:=I.cell y c q;exact⟨w',z.sameBut hs (I.cne y c q)⟩
 ·obtain⟨q,n,ne,nf,d⟩:=I.pin p hp;exact⟨(hs.2 p.1 ne).trans q,n,ne,nf,d⟩
def jq {i:Nat}(I:Inv X pins σ H s)(hN:X.N.Nodup)(hi:X.N[i]?=some n)(hx:X.env.scope.names.lookup n=some .local)
  (h:∀s',Inv X pins (σ.set i none) H s'->Q () s'):wpAny M A (do bindName X.env n .none;unbindBehindTheSuite X.env n pos) Q E s:=by
 have hcls:(X.env.scope.kind==.class||(X.env.scope.kind==.module&&X.env.locals != X.env.globals))=false:=by rw[I.ok.kind];rfl
 have hl:X.env.kindOf n=some .local:=hx;refine wpAny_bind (wpAny_bindName (jl I hN hi (.inl hx) (v:=.non) (u:=.none) rfl (fun s1 I1=>?_) (.inr hx)));unfold unbindBehindTheSuite;refine wpAny_onRaise ?_;unfold unbindName;refine wpAny_bind (wpAny_point (wpAny_bind ?_));unfold deleteName;simp only[hl,hcls];rw[if_neg (by decide)];obtain⟨m,hn,hl'⟩:=id I1.loc;have hiσ:i<σ.length:=by rw[I.len];exact (sN.mp hi).1
 have hmn:(m n).isSome=true:=by
  obtain⟨u,r,l⟩:=hl' i n .non hi (by rw[sP hiσ]) (.inl hx);rcases l with⟨_,z⟩|⟨k,_⟩
  ·rw[z];rfl
  ·rcases k with k|k
   ·rw[hl]at k;cases k
   ·rw[hl]at k;cases k
 refine wpAny_bind (wpAny_nsDel_keeps hn fun h2 v hn2 hs2=>?_);rw[hmn];simp only[if_true,sT,tK,if_false];refine wpAny_pure (wpAny_point (h _ ?_));have I2:Inv X pins (σ.set i none) H { s1 with heap:=h2,toks:=s1.toks }:=I1.reframe hn2 hs2 (by simp) (fun m0 hn0 hv0 j y v e1 e2 e3=>by
  have em:m0=m:=by
   funext z
   obtain⟨o1,es1,ep1,a1,b1,_,c1⟩:=hn0;obtain⟨o2,es2,ep2,a2,b2,_,c2⟩:=hn;rw[a1]at a2;cases a2;rw[b1]at b2;cases b2;rw[<-c1,<-c2]
  subst em;have hj:j≠i:=by
   rintro rfl;rw[sP hiσ]at e2;cases e2
  rw[sO (Ne.symm hj)]at e2;obtain⟨u,r,l⟩:=hv0 j y v e1 (by rw[sO (Ne.symm hj)];exact e2) e3;refine⟨u,r,?_⟩;have hy:y≠n:=fun z=>hj (Zu hN e1 (z▸hi));rcases l with⟨k,z⟩|l
  ·exact .inl ⟨k,by show (if y=n then _ else m0 y)=some u;rw[if_neg hy];exact z⟩
  ·exact .inr l)
 exact I2
end
structure ErrI (K:jJa)(C:Addr):Prop where
 ga:jJd K (.ref C) "__getattribute__"=some (some (.builtin "BaseException.__getattribute__"))
 gt:jJd K (.ref C) "__getattr__"=some none
 cl:jJd K (.ref C) "__class__"=some (some (.builtin "object.__class__"))
 sp:jJn K (.builtin "object.__class__") "__get__"=some (some (.builtin "getset_descriptor.__get__"))
 tk:jJr K (.builtin "object.__class__")=some true
 mo:jJi K C (.type "object")=some true
 mb:jJi K C (.type "BaseException")=some true
 it:(jJw K C).isSome=true
section
open PySem.W Builtin Builtin.ObjectAttr Builtin.Getset_descriptor
variable {prog:Program}{w:World}{A:Around}{E:Value->Shared->Prop}{s:Shared}{K:Frag}{e C:Addr}
def J9 {Q:Option Value->Shared->Prop}(c:ErrI K C)(X:K.In s.heap)(LT:Looks (model prog w) s.heap (typeOf (.ref e)) (.ref C))(h:Q (some (.ref C)) { s with toks:=s.toks+1 }):wpAny (model prog w) A (getAttr? (.ref e) "__class__") Q E s:=by
 obtain⟨hh,g,d,t,os⟩:=s;have L1:=looks_findIn (M:=model prog w) X c.ga;have L2':=looks_findIn (M:=model prog w) X c.gt;have L3:=looks_findIn (M:=model prog w) X c.cl;have L4:=looks_specialIn (M:=model prog w) X c.sp;have L5:=looks_takesIn (M:=model prog w) X c.tk;have L6:=looks_mroIn (M:=model prog w) X c.mo;have L7:=looks_mroIn (M:=model prog w) X c.mb;have hb:=PySem.F.attr_ValueError.ga.bind (.ref e);unfold getAttr? getAttrBy? getAttrBy;refine wpAny_bind (wpAny_mkText (wpAny_bind (wpAny_attempt (wpAny_holding ?_))))
 repeat (first|with_reducible refine wpAny_attempt ?_|with_reducible refine wpAny_call ?_|lk)
 refine codeAny_call_builtin PySem.F.attr_ValueError.ga.plain F.entry_bexc_ga ?_;have hk:builtinKind "BaseException.__getattribute__"=some .slot:=by decide +kernel
 have hsp:splitId "BaseException.__getattribute__"=some ("BaseException","__getattribute__"):=by decide +kernel
 have har:=F.args_bexc_ga (.ref e) (.str "__class__" t);simp only[checkBuiltinCall,hk,hsp];unfold isInstance
 repeat (first|with_reducible refine wpAny_attempt ?_|with_reducible refine wpAny_call ?_|lk)
 have z:codeAny (model prog w) A.in1 (.call (.builtin "getset_descriptor.__get__") ⟨[.builtin "object.__class__",.ref e,.ref C],[]⟩) (fun r s'=>r=.ok (.ret (.ref C))/\s'=⟨hh,g,d,t+1,os⟩) ⟨hh,g,d,t+1,os⟩:=by
  refine codeAny_call_builtin KF.slot_gs.plain KF.entry_gs ?_;refine KF.slot_gs.check _ _ _ _ _ _ _ _ KF.type_class (KF.args_gs _ _ _) ?_;unfold Builtin.«getset_descriptor.__get__»;unfold descrGet;rw[dga_obj];refine wpAny_bind (wpAny_pure ?_);unfold descrGetter descrCheckInstance;unfold descrNameAndClass isInstance;simp only[KF.owner_class]
  repeat lk
  refine⟨Code.quiet_builtin _ (by decide +kernel),?_⟩;refine codeAny_builtin KF.entry_class ?_;unfold Builtin.«object.__class__»;unfold shownTypeOf
  repeat lk
  exact⟨rfl,rfl⟩
 refine codeAny_mono z fun r s' q=>?_;obtain⟨rfl,rfl⟩:=q
 repeat lk
 exact h
end
section
open PySem.W
variable {K:Frag}{e C:Addr}
def Wz (c:ErrI K C){M:Model}{h:Heap}(X:K.In h):Looks M h (isType (.ref C)) true:=by
 have z:=c.it;unfold clsIn at z;split at z
 ·rename_i a b cd sl ho;intro A' Q' E' s' k q;unfold isType;unfold loadHead;refine wpAny_bind (wpAny_loadPart (k _ _ (X _ _ ho)) ?_);exact wpAny_pure q
 ·cases z
def Vz (c:ErrI K C):KitX K (.ref e) (.ref C) (fun h=>∃o,h.get? e=some o/\o.cls=.ref C) where
 ty:=fun M h _ p=>by
  obtain⟨o,h1,h2⟩:=p;exact h2▸(Looks.ld h1).andThen .now
 it:=fun _ _ X _=>Wz c X
 ne:=fun h tp dd its n sl X htp=>by
  refine Bool.eq_false_iff.mpr fun q=>?_;have ee:C=tp:=Value.ref.inj (beq_iff_eq.mp q);subst ee;have z:=c.it;unfold clsIn at z;split at z
  ·rename_i a b cd sl' ho;rw[X _ _ ho]at htp;cases htp
  ·cases z
 ca:=fun {prog w A E Q s} X p k=>by
  obtain⟨o,h1,h2⟩:=p;exact J9 c X (h2▸(Looks.ld h1).andThen .now) k
end
inductive IsTy (K:jJa) (pn:List (Addr×Obj)) (H:Hp):V->Value->Prop where
 | of {x:V} {t:Value} (h:TyOf K H x t):IsTy K pn H x t
 | frd {a:Addr} {o:Obj} {kvs:List (Key×V)} (e:H a=some (.frz o (.dK kvs))):IsTy K pn H (.ref a) (.type "dict")
 | exc {a C:Addr} {oe:Obj} (hm:(a,oe)∈pn) (hc:oe.cls=.ref C) (c:ErrI K C):IsTy K pn H (.ref a) (.ref C)
inductive ClV:V->Value->Prop where
 | ref (a:Addr):ClV (.ref a) (.ref a)
 | ty (n:String):ClV (.ty n) (.type n)
def z4V (K:jJa)(pn:List (Addr×Obj)):List V->Hp->VK->Prop:=fun xs H Q=>∃x c t u b,xs=[x,c]/\IsTy K pn H x t/\ClV c u/\jJb K t u=some b/\Q (.bl b) H
def z0o:CallR X (.builtin "isinstance") (z4V X.K X.pn):=by
 intro pins s σ H xs us Q I r h;obtain⟨x,c,t,u,b,rfl,ht,hc,hk,q⟩:=h;obtain⟨u1,u2,rfl,rx,rc⟩:=Qg r;have e2:u2=u:=by cases hc with
  | ref a=>exact rc
  | ty n=>exact rc
 subst e2;cases ht with
 | of ht=>exact vo I rx ht hk fun tk=>⟨.bl b,H,I.tok tk,rfl,q⟩
 | @frd a o kvs e =>
  obtain rfl:u1=Value.ref a:=rx;obtain⟨_,_,_,vs,_,p⟩:=(show ObjOk X.prog X.w H s.heap a (.frz o (.dK kvs)) from I.hok a _ e)
  obtain⟨o',es,ep,h1,h2,_⟩:=p;exact jJc jJt I.kIn ⟨o',h1,h2.1⟩ hk (fun z=>by cases z) fun tk=>⟨.bl b,H,I.tok tk,rfl,q⟩
 | exc hm hcl ci =>
  obtain⟨e1,_⟩:=I.pin _ (sE _ hm);obtain rfl:u1=Value.ref _:=rx;exact jJc (Vz ci) I.kIn ⟨_,e1,hcl⟩ hk (fun z=>by cases z) fun tk=>⟨.bl b,H,I.tok tk,rfl,q⟩
section
variable {X:Cx}{pins:List (Addr×Obj)}{σ:St}{H:Hp}{s:Shared}
def Inv.flown {h' B:Heap}{old:Addr->Prop}(I:Inv X pins σ H s)(hst:X.stack=X.env::X.outer)(hf:X.env.frame=some X.env.locals)(st:B.StaysIn h')(up:s.heap.UpToSlots h')
  (cov:∀b o,s.heap.get? b=some o->b∉frs X.stack->(H b≠none\/old b)->B.get? b=some o) (o1:∀b o,X.s₀.heap.get? b=some o->b∉X.ex->old b) (o3:∀p∈X.pn++pins,old p.1):
  Inv X pins σ H { s with heap:=h' }:=by
 have trkd:∀b u v,H b=some u->s.heap.get? b=some v->h'.get? b=some v:=fun b u v q r=>st b v (cov b v r (I.trkNo q) (.inl (by rw[q];simp)));have oldd:∀b o v,X.s₀.heap.get? b=some o->b∉X.fs->b∉X.ex->s.heap.get? b=some v->h'.get? b=some v:=fun b o v q n x r=>st b v (cov b v r (I.oldNo hst hf q n) (.inr (o1 b o q x)));have frms:∀b o,b∈X.fs->s.heap.get? b=some o->∃sl,h'.get? b=some { o with slots:=sl }:=fun b o hb q=>by
  obtain⟨_,o2,ho2,nf⟩:=I.funs.mem hb;rw[q]at ho2;cases ho2;exact up b o q nf
 have cellK:∀c v,s.heap.IsCell c v->h'.IsCell c v:=fun c v ⟨o,ho,hd⟩=>by
  obtain⟨sl,e⟩:=up c o ho (fun vs q=>by rw[hd]at q;cases q);exact⟨_,e,hd⟩
 refine⟨I.ok,I.os,I.bare,⟨fun b o q n hb hx=>oldd b o o q hb hx (I.base.keep b o q n hb hx),fun b o q n hb hx=>?_,I.base.free,fun b o q hx=>?_,I.base.tups,I.base.frzs,I.base.tbls⟩,?_,fun y c q=>?_,I.free,I.freeC,fun p hp=>?_,fun b u q=>?_,I.len⟩
 ·obtain⟨sl,e1⟩:=I.base.slot b o q n hb hx;obtain⟨sl',e2⟩:=frms b _ hb e1;exact⟨sl',e2⟩
 ·obtain⟨o1',e1⟩:=I.base.there b o q hx
  by_cases hb:b∈X.fs
  ·obtain⟨sl,e2⟩:=frms b o1' hb e1;exact⟨_,e2⟩
  ·exact⟨o1',oldd b o o1' q hb hx e1⟩
 ·obtain⟨m,hn,hl⟩:=I.loc;refine⟨m,up.ns hn,fun i x v e1 e2 e3=>?_⟩;obtain⟨u,r,l⟩:=hl i x v e1 e2 e3;refine⟨u,r,?_⟩;rcases l with l|⟨k,c,e,z⟩
  ·exact .inl l
  ·exact .inr ⟨k,c,e,cellK c _ z⟩
 ·obtain⟨v,z⟩:=I.cell y c q;exact⟨v,cellK c v z⟩
 ·obtain⟨q,n,ne,nf,d⟩:=I.pin p hp;have hns:p.1∉frs X.stack:=fun m=>by
   rcases sI.mp (I.stkSub p.1 m)with z|z
   ·exact ne z
   ·exact nf z
  exact⟨st _ _ (cov _ _ q hns (.inr (o3 p hp))),n,ne,nf,d⟩
 ·refine (I.hok b u q).stay (fun c v hc r=>?_) (fun _ z=>z) fun _ _ z=>z;rcases hc with z|z
  ·exact trkd c u v (by rw[z];exact q) r
  ·exact trkd c _ v z r
end
def z69 (K:jJa)(CS:Addr)(i:Nat)(sp:Sp)(dvs:List V)(t:TA)(ts:Addr->Obj->TS):TS:=fun D σ H=>t σ H fun vs H1=>sp (vs++dvs) H1 (fun _ H2=>D.nx σ H2)
 (fun cls _ H2=>∃C,cls=.ref C/\jJk K (.ref C) (.ref CS)=some true/\∀(e:Addr) (oe:Obj),oe.cls=.ref C->H2 e=none ->
  ts e oe { nx:=fun σ' H'=>D.nx (σ'.set i none) H',rt:=D.rt,bk:=fun σ' H'=>D.bk (σ'.set i none) H',ct:=fun σ' H'=>D.ct (σ'.set i none) H' } (σ.set i (some (.ref e))) H2)
def z4y {k:Nat}{p pos pos' pc hpos tpos:Pos}{i:Nat}
  (hst:X.stack=X.env::X.outer) (hf:X.env.frame=some X.env.locals) (hc:X.calm=true) (hN:X.N.Nodup)
  (F:FnOk X.prog X.w X.K X.mg X.base (cxx X.prog X.w) k f fd ps sp) (hr:Room k X.A) (hg:Gl X x) (hm:X.mg x=some (.ref f)) (hk:jJf X.K (.ref f)=true) (hb:Binds X.K fd ps ds) (hd:Vals dvs ds)
  (ha:PA X.nox (e::es) t) (hgc:Gl X xc) (hmc:X.mg xc=some (.ref CS)) (hi:X.N[i]?=some n) (hx:X.env.scope.names.lookup n=some .local)
  (hsuite:∀(e:Addr) (oe:Obj),PSs (X.within e oe) (b₀::suite) (ts e oe))
  (hdb:autoParam ((x==("__debug__":Str))=false) au1._auto_1) (hdc:autoParam ((xc==("__debug__":Str))=false) au1._auto_1)
  (he:autoParam (starEach (e::es) X.env=(false,eval e X.env)::starEach es X.env) au3._auto_1) (hpl:autoParam ((backTo pos (starEach es X.env)).any (·.1)=false) au3._auto_1)
  (hsw:autoParam (swapsWith (.Call (.Name x p) (e::es) [] pos) none pos'.line X.env=pure false) au3._auto_1):
  PS X (.Try [.Expr (.Call (.Name x p) (e::es) [] pos) pos'] [.ExceptHandler (some (.Name xc pc)) (some n) (b₀::suite) hpos] [] [] tpos) (z69 X.K CS i sp dvs t ts):=by
 intro pins s σ H D I h;have hhd:X.calm=true->X.A.handled=none:=I.ok.hd;refine wpAny_Try_except (wpAny_execs_cons (wpAny_Expr_any ?_ I.quiet hsw));refine wpAny_Call_Name_kw (jI I hg hm ?_ hdb);refine jJu (h₀:=X.base) I.ok.mod.kin hk ?_ he hpl;refine wpAny_mono (ha pos pins s σ H _ (I.wish _) h) (fun us s1 ⟨vs,H1,I1,r,q⟩=>⟨I1.kIn,?_⟩) fun _ _ z=>z.elim;have I1:Inv X pins σ H1 s1:=I1.unwish;have r2:Vals (vs++dvs) (us++ds):=r.append hd;have hl:(us++ds).length=ps.length:=by rw[<-r2.length];exact F.len _ _ _ _ q
 refine wpAny_call (codeAny_mono (F.run X.A X.stack s1 H1 ⟨us,[]⟩ (us++ds) (vs++dvs) _ _ hr I1.env0 (hb s1 us I1.kIn hl) r2 q) fun r s' hq=>?_);cases r with
 | ok fl =>
  cases fl with
  | ret u =>
   obtain⟨v,H2,I2,rv,qn⟩:=I1.after hq;exact wpAny_execs_nil (wpAny_execs_nil ⟨σ,H2,I2,qn⟩)
  | next=>exact False.elim hq
  | brk=>exact False.elim hq
  | cont=>exact False.elim hq
 | error ev =>
  obtain⟨e1,cls,H2,rfl,os,bare,un,hok,⟨B,a0,fl,cov⟩,C,rfl,hex,hsu⟩:=hq;have I2:Inv X pins σ H2 s':=I1.call' (ch:=[]) os un hok bare (fun b z=>nomatch z);have fl':Heap.FlyingW B (X.env::X.outer) e1 (.ref C) a0 s'.heap:=by rw[<-hst];exact fl
  have hfr:X.A.frames=some (X.env::X.outer):=by rw[<-hst];exact I.ok.frames
  have o1:∀b o,X.s₀.heap.get? b=some o->b∉X.ex->∃o,s1.heap.get? b=some o:=fun b o q x=>I1.base.there b o q x;have o3:∀p∈X.pn++pins,∃o,s1.heap.get? p.1=some o:=fun p hp=>⟨_,(I1.pin p hp).1⟩
  have flown:∀h':Heap,B.StaysIn h'->s'.heap.UpToSlots h'->Inv X pins σ H2 { s' with heap:=h' }:=fun h' st up=>I2.flown hst hf st up cov o1 o3;have he2:H2 e1=none:=by
   cases q:H2 e1 with
   | none=>rfl
   | some u =>
    obtain⟨o,ho⟩:=(I2.hok e1 u q).there;have:=cov e1 o ho (I2.trkNo q) (.inl (by rw[q];simp));rw[fl.2.1]at this;cases this
  have apart:∀(h':Heap),Heap.FlyingW B (X.env::X.outer) e1 (.ref C) a0 h'->∃oe,h'.get? e1=some oe/\oe.cls=.ref C/\(∃vs,oe.data=.fields vs)/\e1≠X.env.locals/\e1∉X.fs:=fun h' z=>by
   obtain⟨oe,vs,q1,q2,q3,_⟩:=z.first;have nfr:e1∉frs (X.env::X.outer):=fun m=>by
    obtain⟨_,o,ho,nf⟩:=z.2.2.1.mem m;rw[q1]at ho;cases ho;exact nf vs q3
   refine⟨oe,q1,q2,⟨vs,q3⟩,fun q=>nfr ?_,fun m=>nfr ?_⟩
   ·rw[q];unfold frs;rw[rH,hf];exact tN
   ·unfold frs;rw[rH,hf];exact tS _ m
  refine wpAny_looks_onW hfr hf fl' fun h4 hd4 up4=>?_;refine wpAny_landsW hd4 fun h5 fl5 up5=>?_;have up5':s'.heap.UpToSlots h5:=up4.trans up5;have I5:=flown h5 fl5.1 up5';obtain⟨oe5,g1,g2,⟨vs5,g3⟩,g4,g5⟩:=apart h5 fl5;have I5w:Inv (X.within e1 oe5) pins σ H2 { s' with heap:=h5 }:=I5.within g1 he2 g4 g5 (fun v q=>by rw[g3]at q;cases q);refine wpAny_handleBy_cons (codeAny_handlers_test (jI (X:=X.within e1 oe5) I5w hgc hmc ?_ hdc)) (by intro q;cases q);have LT:PySem.W.Looks (model X.prog X.w) h5 (typeOf (.ref e1)) (.ref C):=g2▸(PySem.W.Looks.ld g1).andThen .now;refine (PySem.W.exm_one I5.kIn LT hex).here ?_;refine codeAny_handlers_suite_as ?_;refine lands_againW fl5 fun h6 fl6 up6=>?_;have I6:=flown h6 fl6.1 (up5'.trans up6);obtain⟨oe6,k1,k2,⟨vs6,k3⟩,k4,k5⟩:=apart h6 fl6;refine Xd I6 hN hi (.inl hx) (v:=.ref e1) (u:=.ref e1) rfl (fun s7 I7 sb=>?_) (.inr hx);obtain⟨a7,sb7,ha7⟩:=sb;have ne7:e1≠a7:=by
   rcases ha7 with z|z
   ·rw[z];exact k4
   ·intro q;obtain⟨v,o,ho,hdd⟩:=I6.cell n a7 z;rw[<-q]at ho;have ho:h6.get? e1=some o:=ho;rw[k1]at ho;cases ho;rw[k3]at hdd;cases hdd
  have e7:s7.heap.get? e1=some oe6:=(sb7.2 e1 ne7).trans k1;have I7w:Inv (X.within e1 oe6) pins (σ.set i (some (.ref e1))) H2 s7:=I7.within e7 he2 k4 k5 (fun v q=>by rw[k3]at q;cases q);refine wpAny_mono (hsuite e1 oe6 pins s7 _ H2 _ I7w (hsu e1 oe6 k2 he2)) (fun fl8 s8 q8=>?_) fun _ _ z=>z.elim;have q8:=SP.without q8 hhd;cases fl8 with
  | next =>
   obtain⟨σ8,H8,I8,q⟩:=q8;exact jq I8 hN hi hx fun s9 I9=>⟨_,H8,I9,q⟩
  | brk =>
   obtain⟨σ8,H8,I8,q⟩:=q8;exact jq I8 hN hi hx fun s9 I9=>⟨_,H8,I9,q⟩
  | cont =>
   obtain⟨σ8,H8,I8,q⟩:=q8;exact jq I8 hN hi hx fun s9 I9=>⟨_,H8,I9,q⟩
  | ret u =>
   obtain⟨v8,σ8,H8,I8,r8,q⟩:=q8;exact jq I8 hN hi hx fun s9 I9=>⟨v8,_,H8,I9,r8,q⟩
def ue (cells:List (Str×Addr)):List (Str×NameKind)->List (Str×Addr)->List (Str×Addr)
 | [],acc=>acc
 | (n,k)::r,acc=>ue cells r (if (k==.free)=true then (n,(cells.lookup n).getD 0)::acc else acc)
def YE (h:∀y∈scope.names,y.2=.free->∃c,env.cells.lookup y.1=some c):closureFor scope env=pure (ue env.cells scope.names []):=by
 have go:∀(l:List (Str×NameKind)) (acc:List (Str×Addr)),(∀y∈l,y.2=.free->∃c,env.cells.lookup y.1=some c) ->
   (forIn l acc fun (x:Str×NameKind) (r:List (Str×Addr))=>(if (x.2==.free)=true then (do let a <-cellOf env x.1;pure (ForInStep.yield ((x.1,a)::r))) else pure (ForInStep.yield r):Sem (ForInStep (List (Str×Addr)))))=pure (ue env.cells l acc):=by
  intro l
  induction l with
  | nil=>intro acc _;rfl
  | cons x r ih =>
   intro acc hx;obtain⟨n,k⟩:=x;rw[List.forIn_cons];have hr:=fun acc=>ih acc fun y hy=>hx y (tS _ hy)
   by_cases hk:(k==NameKind.free)=true
   ·obtain⟨c,hc⟩:=hx (n,k) tN (by simpa using hk);have hc':env.cells.lookup n=some c:=hc;have e1:cellOf env n=pure c:=by unfold cellOf;rw[hc']
    simp only[hk,if_true,e1,pure_bind];unfold ue;rw[if_pos hk,hc'];exact hr _
   ·simp only[hk,tK,if_false,pure_bind];unfold ue;rw[if_neg hk];exact hr _
 unfold closureFor;have e:=go scope.names [] h;simp only[bind_pure_comp,map_pure]at e ⊢
 first|exact e|(simp only[e,bind_pure];done)|(rw[show (forIn scope.names ([]:List (Str×Addr)) _)=_ from e];rfl)
def jJ:∀ {names:List (Str×NameKind)} {acc:List (Str×Addr)},(ue cells names acc).lookup x=some c->acc.lookup x=some c\/((x,NameKind.free)∈names/\c=(cells.lookup x).getD 0)
 | [],acc,h=>.inl h
 | (n,k)::r,acc,h=>by
  unfold ue at h;rcases jJ h with z|⟨z,e⟩
  ·by_cases hk:(k==NameKind.free)=true
   ·rw[if_pos hk]at z
    by_cases hx:(x==n)=true
    ·rw[sZ,hx]at z;have e1:x=n:=by simpa using hx
     have e2:k=NameKind.free:=by simpa using hk
     subst e1 e2;exact .inr ⟨tN,(jYe z).symm⟩
    ·have hx':(x==n)=false:=by simpa using hx
     rw[sZ,hx']at z;exact .inl z
   ·rw[if_neg hk]at z;exact .inl z
  ·exact .inr ⟨tS _ z,e⟩
def ko:∀ {names:List (Str×NameKind)} {acc:List (Str×Addr)},((x,NameKind.free)∈names\/∃c,acc.lookup x=some c)->∃c,(ue cells names acc).lookup x=some c
 | [],acc,h=>by
  rcases h with h|h
  ·cases h
  ·exact h
 | (n,k)::r,acc,h=>by
  unfold ue;refine ko ?_;rcases h with h|⟨c,h⟩
  ·rcases sI.mp h with z|z
   ·cases z;refine .inr ⟨(cells.lookup x).getD 0,?_⟩;rw[if_pos (by decide),sZ];simp only[beq_self_eq_true]
   ·exact .inl z
  ·by_cases hk:(k==NameKind.free)=true
   ·rw[if_pos hk]
    by_cases hx:(x==n)=true
    ·exact .inr ⟨_,by rw[sZ,hx]⟩
    ·have hx':(x==n)=false:=by simpa using hx
     exact .inr ⟨c,by rw[sZ,hx'];exact h⟩
   ·rw[if_neg hk];exact .inr ⟨c,h⟩
def vh {env:Env}{x:Str}{k:NameKind}:∀ {names:List (Str×NameKind)},(names.map fun (n,k)=>if (k==NameKind.free&&env.scope.kind==.function&&env.kindOf n==some .cell) then (n,NameKind.cell) else (n,k)).lookup x=some k ->
  ∃k',names.lookup x=some k'/\(k=k'\/(k'=.free/\k=.cell))
 | [],h=>by cases h
 | (n,j)::r,h=>by
  rw[tG]at h
  by_cases hx:(x==n)=true
  ·refine⟨j,by rw[sZ,hx],?_⟩;dsimp only at h
   by_cases hc:(j==NameKind.free&&env.scope.kind==.function&&env.kindOf n==some .cell)=true
   ·rw[if_pos hc,sZ,hx]at h;simp only[sY]at hc;exact .inr ⟨by simpa using hc.1.1,(jYe h).symm⟩
   ·rw[if_neg hc,sZ,hx]at h;exact .inl (jYe h).symm
  ·have hx':(x==n)=false:=by simpa using hx
   have e:(r.map fun (n,k)=>if (k==NameKind.free&&env.scope.kind==.function&&env.kindOf n==some .cell) then (n,NameKind.cell) else (n,k)).lookup x=some k:=by
    dsimp only at h
    by_cases hc:(j==NameKind.free&&env.scope.kind==.function&&env.kindOf n==some .cell)=true
    ·rw[if_pos hc,sZ,hx']at h;exact h
    ·rw[if_neg hc,sZ,hx']at h;exact h
   obtain⟨k',e1,e2⟩:=vh e;exact⟨k',by rw[sZ,hx'];exact e1,e2⟩
structure CompScope (X:Cx)(N':List Str)(fr:List (Option Nat))(scope:Scope):Prop where
 kind:scope.kind=.function
 nocell:∀y∈scope.names,y.2≠.cell
 loc:∀y∈scope.names,y.2=.local->scope.names.lookup y.1=some .local
 free:∀y∈scope.names,y.2=.free->∃c,X.env.cells.lookup y.1=some c
 len:fr.length=N'.length
 fre:∀(j i:Nat) (x:Str),fr[j]?=some (some i)->N'[j]?=some x->X.N[i]?=some x/\scope.names.lookup x=some .free/\(X.env.kindOf x=some .cell\/X.env.kindOf x=some .free)
def wN (fr:List (Option Nat))(σ:St):St:=fr.map fun o=>o.bind fun i=>(σ[i]?).join
def xm (X:Cx)(scope:Scope)(N':List Str)(s₃:Shared)(H₃:Hp)(fp:List Addr)(pins:List (Addr×Obj)):Cx:=
 { X with N:=N',s₀:=s₃,H₀:=H₃,env:=compEnvC scope (ue X.env.cells scope.names []) s₃.heap.objs.size X.env,outer:=X.stack,stack:=X.stack,ex:=fp,fn:=fun _=>false,pn:=X.pn++pins,xe:=fun _ _=>False }
section
variable {X:Cx}{pins:List (Addr×Obj)}{σ:St}{H:Hp}{s:Shared}{N':List Str}{fr:List (Option Nat)}{scope:Scope}{fp:List Addr}
def wR (S:CompScope X N' fr scope){x:Str}{c:Addr}(h:(ue X.env.cells scope.names []).lookup x=some c):X.env.cells.lookup x=some c:=by
 rcases jJ h with z|⟨z,e⟩
 ·cases z
 ·obtain⟨c',hc⟩:=S.free _ z rfl;have hc:X.env.cells.lookup x=some c':=hc;rw[hc]at e;rw[hc,e];rfl
def z1w (I:Inv X pins σ H s)(S:CompScope X N' fr scope)(hf:∀b∈fp,kZ X pins H b)(hlt:∀b∈fp,b<s.heap.objs.size):(xm X scope N' s H fp pins).Ok:=by
 refine⟨I.ok.mod,S.kind,I.ok.glob,I.ok.blt,sL _,fun x y c h1 h2=>I.ok.inj x y c (wR S h1) (wR S h2),fun x hx=>?_,(fun x c z=>by cases z),I.ok.hd,I.ok.frames,.inl rfl,fun b hb=>⟨rB (hlt b hb),fun x c h=>(hf b hb).2.2.2.2.1 x c (wR S h)⟩,
  I.bs,rD I.ok.bsz I.sz,fun b o e hb=>?_,fun b hb hm=>?_,I.stack,I.stkFree⟩
 ·have hx:(relabel scope X.env).names.lookup x=some .cell\/(relabel scope X.env).names.lookup x=some .free:=hx;have key:scope.names.lookup x=some .free:=by
   rcases hx with h|h
   ·obtain⟨k',e1,e2⟩:=vh h;rcases e2 with z|⟨z,_⟩
    ·exact absurd z.symm (S.nocell _ (PySem.mem_of_lookup e1))
    ·rw[e1,z]
   ·obtain⟨k',e1,e2⟩:=vh h;rcases e2 with z|⟨_,z⟩
    ·rw[e1,<-z]
    ·cases z
  exact ko (.inl (PySem.mem_of_lookup key))
 ·rcases (hf b hb).2.2.2.1 with z|z
  ·exact I.ok.noex b o e z
  ·exact absurd (sU (jYc e) (rD I.ok.bsz z)) (pN _)
 ·rcases sI.mp (I.stkSub b hm)with z|z
  ·exact (hf b hb).2.1 z
  ·exact (hf b hb).2.2.1 z
def z1c {tk:Nat}(I:Inv X pins σ H s)(S:CompScope X N' fr scope)(hf:∀b∈fp,kZ X pins H b)(hlt:∀b∈fp,b<s.heap.objs.size)(hn:h'.Ns s.heap.objs.size m)
  (hk:∀b o,s.heap.get? b=some o->h'.get? b=some o):Inv (xm X scope N' s H fp pins) [] (wN fr σ) H { s with heap:=h',toks:=tk }:=by
 refine⟨z1w I S hf hlt,rfl,I.bare,Un.kept hk,⟨m,hn,fun j x v e1 e2 e3=>?_⟩,fun x c h=>?_,I.hok.fresh (sL _),fun x c h=>I.freeC x c (wR S h),fun p hp=>?_,I.hok.kept hk,by unfold wN;rw[tU];exact S.len⟩
 ·have e1:N'[j]?=some x:=e1;unfold wN at e2;rw[sV]at e2;cases hj:fr[j]? with
  | none=>rw[hj]at e2;cases e2
  | some o =>
   rw[hj]at e2;cases o with
   | none=>cases e2
   | some i =>
    have e2:(σ[i]?).join=some v:=jYe e2;have e2':σ[i]?=some (some v):=by
     cases hq:σ[i]? with
     | none=>rw[hq]at e2;cases e2
     | some w=>rw[hq]at e2;rw[show w=some v from e2]
    obtain⟨n1,n2,n3⟩:=S.fre j i x hj e1;obtain⟨m0,hn0,hl⟩:=I.loc;have hvis:Vis X.env.scope x:=by
     rcases n3 with z|z
     ·exact .inr (.inl z)
     ·exact .inr (.inr z)
    obtain⟨u,r,l⟩:=hl i x v n1 e2' hvis;refine⟨u,r,.inr ⟨?_,?_⟩⟩
    ·have hh:∀ {names:List (Str×NameKind)},names.lookup x=some .free->(names.map fun (n,k)=>if (k==NameKind.free&&X.env.scope.kind==.function&&X.env.kindOf n==some .cell) then (n,NameKind.cell) else (n,k)).lookup x=some .cell \/
       (names.map fun (n,k)=>if (k==NameKind.free&&X.env.scope.kind==.function&&X.env.kindOf n==some .cell) then (n,NameKind.cell) else (n,k)).lookup x=some .free:=by
      intro names
      induction names with
      | nil=>intro z;cases z
      | cons y r ih =>
       obtain⟨n,k⟩:=y;intro z;rw[tG];dsimp only
       by_cases hx:(x==n)=true
       ·rw[sZ,hx]at z
        by_cases hc:(k==NameKind.free&&X.env.scope.kind==.function&&X.env.kindOf n==some .cell)=true
        ·rw[if_pos hc];exact .inl (by rw[sZ,hx])
        ·rw[if_neg hc];exact .inr (by rw[sZ,hx];exact z)
       ·have hx':(x==n)=false:=by simpa using hx
        rw[sZ,hx']at z;have:=ih z
        by_cases hc:(k==NameKind.free&&X.env.scope.kind==.function&&X.env.kindOf n==some .cell)=true
        ·rw[if_pos hc,sZ,hx'];exact this
        ·rw[if_neg hc,sZ,hx'];exact this
     exact hh n2
    ·rcases l with⟨k,_⟩|⟨k,c,e,z⟩
     ·rcases n3 with q|q
      ·rw[q]at k;cases k
      ·rw[q]at k;cases k
     ·obtain⟨c',hc'⟩:=ko (cells:=X.env.cells) (x:=x) (names:=scope.names) (acc:=[]) (.inl (PySem.mem_of_lookup n2));have e':=wR S hc';rw[e]at e';cases e';obtain⟨o,ho,hd⟩:=z;exact⟨c,hc',o,hk _ _ ho,hd⟩
 ·obtain⟨v,o,ho,hd⟩:=I.cell x c (wR S h);exact⟨v,o,hk _ _ ho,hd⟩
 ·have hp:p∈(X.pn++pins)++[]:=hp;rw[tZ]at hp;obtain⟨q,n,ne,nf,d⟩:=I.pin p hp;refine⟨hk _ _ q,n,rB (jYc q),fun hm=>?_,d⟩;rcases sI.mp (I.stkSub p.1 hm)with z|z
  ·exact ne z
  ·exact nf z
end
section
variable {X:Cx}{pins:List (Addr×Obj)}{σ τ:St}{H H₃ H5:Hp}{s₃ s5:Shared}{N':List Str}{scope:Scope}{fp:List Addr}
def z0M (I:Inv X pins σ H₃ s₃)(J:Inv (xm X scope N' s₃ H₃ fp pins) [] τ H5 s5)(hf:∀b∈fp,kZ X pins H₃ b)(hs:Heap.SameBut s₃.heap.objs.size s5.heap h'):Inv X pins σ H5 { s5 with heap:=h' }:=by
 have hb:∀b o,s₃.heap.get? b=some o->b≠s₃.heap.objs.size:=fun b o q=>rB (jYc q);have u:Un (frs X.stack) fp H₃ H5 s₃.heap s5.heap:=J.base;refine I.call' (s':={ s5 with heap:=h' }) (ch:=fp) J.os ⟨fun b o q n h1 h2=>(hs.2 b (hb b o q)).trans (u.keep b o q n h1 h2),fun b o q n h1 h2=>?_,u.free,fun b o q h2=>?_,u.tups,u.frzs,u.tbls⟩ (fun b ob q=>?_) J.bare (fun b m=>⟨(hf b m).2.2.2.1,(hf b m).2.1,(hf b m).2.2.2.2.1,(hf b m).2.2.2.2.2⟩)
 ·obtain⟨sl,e⟩:=u.slot b o q n h1 h2;exact⟨sl,(hs.2 b (hb b o q)).trans e⟩
 ·obtain⟨o',e⟩:=u.there b o q h2;exact⟨o',(hs.2 b (hb b o q)).trans e⟩
 ·have fr:H5 s₃.heap.objs.size=none:=J.free;refine (J.hok b ob q).stay (fun c v hc r=>(hs.2 c ?_).trans r) (fun _ z=>z) fun _ _ z=>z;rintro rfl;rcases hc with rfl|hc
  ·rw[fr]at q;cases q
  ·rw[fr]at hc;cases hc
end
def PTs (X:Cx)(ifs:List Expr)(t:TT):Prop:=
 ∀(pins:List (Addr×Obj)) (s:Shared) (σ:St) (H:Hp) (Q:Bool->Hp->Prop),Inv X pins σ H s->t σ H Q ->
  wpAny (model X.prog X.w) X.A (forIn ifs true fun c r=>if r=true then do let ok <-isTrue c X.env (eval c X.env);pure (ForInStep.yield ok) else pure (ForInStep.yield r)) (TP X pins σ Q) X.xe s
def z67:TT:=fun _ H Q=>Q true H
def z1V:PTs X [] z67:=fun _ _ _ H _ I h=>wpAny_tests_nil ⟨H,I,h⟩
def z1N (h:PT X c t):PTs X [c] t:=fun pins s σ H Q I q=>wpAny_tests_one (h pins s σ H Q I q)
def UP (fr:List (Option Nat))(wi:TI)(g:TG)(tc:TT)(te:TE):TE:=fun σ H Q=>wi σ H fun J H1=>∀D,H1 D=none ->
 ∃W:Nat->Nat->List V->St->Hp->Prop,(∃m,W 0 m [] (wN fr σ) (upd H1 D (.lst [])))/\∀i m ys τ H2,W i m ys τ H2->H2 D=some (.lst ys) /\
  ((J.stop i H2/\Q (.ref D) H2)\/(J.go i H2/\∀x H3,J.yld i H2 x H3->g x τ H3 fun τ' H4=>tc τ' H4 fun b H5=>if b=true then te τ' H5 fun y H6=>H6 D=some (.lst ys)/\ys.length<sizeLine/\∃m',m'<m/\W (i+1) m' (ys++[y]) τ' (upd H6 D (.lst (ys++[y])))
   else ∃m',m'<m/\W (i+1) m' ys τ' H5))
def Kz {fr:List (Option Nat)}(hc:X.calm=true)(S:CompScope X N' fr scope)(hi:PI X tg iter wi)
  (hg:∀s₃ H₃ fp pins,PG (xm X scope N' s₃ H₃ fp pins) tg g) (ht:∀s₃ H₃ fp pins,PTs (xm X scope N' s₃ H₃ fp pins) ifs tc) (he:∀s₃ H₃ fp pins,PE (xm X scope N' s₃ H₃ fp pins) elt te)
  (hs:∀x,foldedSetIterable iter X.env x=pure x) {pins:List (Addr×Obj)} {s:Shared} {σ:St} {H:Hp} {Q:VK} (I:Inv X pins σ H s) (h:UP fr wi g tc te σ H Q)
  (hfin:∀(s₃:Shared) (H₃:Hp) (fp:List Addr) (D:Addr) (s6:Shared) (τ:St) (H5:Hp) (fl:Flow),Inv X pins σ H₃ s₃->(∀b∈fp,kZ X pins H₃ b)->Inv (xm X scope N' s₃ H₃ fp pins) [] τ H5 s6->Q (.ref D) H5 ->
   compPost (model X.prog X.w) X.A X.xe use Qf (.ref D) s₃.heap.objs.size (.ok fl) s6):
  wpAny (model X.prog X.w) X.A (comprehension (.ListComp elt [⟨tg,iter,ifs,0⟩] scope pos) scope X.env cp (newList []) false (eval iter X.env) use) Qf X.xe s:=by
 refine wpAny_comprehension_free (use:=use) rfl hs (YE S.free) S.kind S.loc ?_;refine thn (hi pins s σ H _ I h) fun v s1 h1=>thn h1 fun itv s2 h2=>?_;obtain⟨it,fp,tn,J,H2,rfl,I2,T,st2,f2,hW⟩:=h2;refine wpAny_newObj_type ?_ (by size_fits);have hD:H2 s2.heap.objs.size=none:=I2.hok.fresh (sL _);have I3:Inv X pins σ (upd H2 s2.heap.objs.size (.lst [])) { s2 with heap:=s2.heap.push { cls:=.type "list",data:=.seq ([]:List Value).toArray },toks:=s2.toks }:=
  I2.laid (fun b u e=>jYb _ e) (sL _) ⟨rZ _,[],0,.nil,jYd _ rfl⟩
 generalize eD:s2.heap.objs.size=D at I3 hD ⊢;generalize eH:upd H2 D (.lst [])=H3 at I3;have f3:∀b∈fp,kZ X pins H3 b:=fun b hb=>by
  obtain⟨g0,g1⟩:=f2 b hb;refine⟨?_,g1⟩;obtain⟨o,ho,_⟩:=T.obj 0 _ st2 b hb;rw[<-eH,y8 (by rw[<-eD];exact rB (jYc ho))];exact g0
 have lt3:∀b∈fp,b<(s2.heap.push { cls:=.type "list",data:=.seq ([]:List Value).toArray }).objs.size:=fun b hb=>by
  obtain⟨o,ho,_⟩:=T.obj 0 _ st2 b hb;rw[Heap.size_push];exact Nat.lt_succ_of_lt (jYc ho)
 have st3:tn 0 (s2.heap.push { cls:=.type "list",data:=.seq ([]:List Value).toArray }):=T.keep _ _ _ st2 fun b _ o e=>jYb _ e;obtain⟨W,⟨m0,w0⟩,turn⟩:=hW D hD;rw[eH]at w0;generalize es3:({ s2 with heap:=s2.heap.push { cls:=.type "list",data:=.seq ([]:List Value).toArray },toks:=s2.toks }:Shared)=s3 at I3;have lt3:∀b∈fp,b<s3.heap.objs.size:=by rw[<-es3];exact lt3
 have st3:tn 0 s3.heap:=by rw[<-es3];exact st3
 refine wpAny_newFunctionEnv S.nocell (by intro y hy;cases hy) (fun h4 hn4 hsb4=>?_) S.kind;have k4:∀b o,s3.heap.get? b=some o->h4.get? b=some o:=fun b o e=>(hsb4.2 b (rB (jYc e))).trans (jYb _ e);have I4:Inv (xm X scope N' s3 H3 fp pins) [] (wN fr σ) H3 { s3 with heap:=h4,toks:=s3.toks+([]:List (Str×Value)).length }:=z1c I3 S f3 lt3 hn4 k4;have st4:tn 0 h4:=T.keep _ _ _ st3 fun b _ o e=>k4 b o e;have stat:∀ {H':Hp} {p':List (Addr×Obj)},p'=[]->(∀b∈fp,H' b=none)->∀b∈fp,kZ (xm X scope N' s3 H3 fp pins) p' H' b:=fun {H' p'} hp hn b hb=>by
  subst hp;obtain⟨g0,g1,g2,g3,g4,g5⟩:=f3 b hb;refine⟨hn b hb,rB (lt3 b hb),fun hm=>?_,.inl hb,fun x c h=>g4 x c (wR S h),fun p hp=>?_⟩
  ·rcases sI.mp (I3.stkSub b hm)with z|z
   ·exact g1 z
   ·exact g2 z
  ·have hp:p∈(X.pn++pins)++[]:=hp;rw[tZ]at hp;exact g5 p hp
 have loop:∀s':Shared,s'={ s3 with heap:=h4,toks:=s3.toks+([]:List (Str×Value)).length }->codeAny (model X.prog X.w) X.A (.compLoop (.ListComp elt [⟨tg,iter,ifs,0⟩] scope pos) 0 (.ref it) (.ref D) (compEnvC scope (ue X.env.cells scope.names []) s3.heap.objs.size X.env))
   (compPost (model X.prog X.w) X.A X.xe use Qf (.ref D) s3.heap.objs.size) s':=by
  rintro s' rfl;refine codeAny_loop rfl (fun n s'=>∃i ys τ H',Inv (xm X scope N' s3 H3 fp pins) [] τ H' s'/\tn i s'.heap/\(∀b∈fp,H' b=none)/\W i n ys τ H') ?_ m0 ⟨0,[],_,H3,I4,st4,fun b hb=>(f3 b hb).1,w0⟩;rintro n s5 ⟨i,ys,τ,H5,I5,st5,fr5,w5⟩;show wpAny _ X.A ((compTurn (.ListComp elt [⟨tg,iter,ifs,0⟩] scope pos) 0 (.ref it) (.ref D) (compEnvC scope (ue X.env.cells scope.names []) s3.heap.objs.size X.env)).onRaise (fun x=>do noteFrame x (compEnvC scope (ue X.env.cells scope.names []) s3.heap.objs.size X.env);theTreesLotGoes x)) _ _ s5;refine wpAny_noted ?_;rw[compTurn_list];obtain⟨hDy,hor⟩:=turn i n ys τ H5 w5;rcases hor with⟨stop,q⟩|⟨go,step⟩
  ·refine wpAny_bind (wpAny_standAt (wpAny_bind (thn (T.done (xm X scope N' s3 H3 fp pins) rfl rfl rfl hc i [] s5 τ H5 _ I5 (stat rfl fr5) st5 stop) fun r s6 ⟨hr,I6⟩=>?_)));subst hr;exact wpAny_pure (hfin s3 H3 fp D s6 τ H5 _ I3 f3 I6 q)
  ·refine wpAny_bind (wpAny_standAt (wpAny_bind (thn (T.item (xm X scope N' s3 H3 fp pins) rfl rfl rfl hc i [] s5 τ H5 _ I5 (stat rfl fr5) st5 go) fun r s6 ⟨u,hr,h6⟩=>?_)));subst hr;refine wpAny_bind (thn h6 fun _ s7 ⟨x,H7,I7,r7,y7,st7,fr7⟩=>?_);have I7':=I7.pinned (stat rfl fr7) (T.obj _ _ st7);refine wpAny_bind (wpAny_mono (hg s3 H3 fp pins _ s7 τ H7 x u _ I7' r7 (step x H7 y7)) (fun _ s8 ⟨τ8,H8,I8,q8⟩=>?_) fun _ _ z=>False.elim z);refine wpAny_bind (wpAny_mono (ht s3 H3 fp pins _ s8 τ8 H8 _ I8 q8) (fun b s9 ⟨H9,I9,q9⟩=>?_) fun _ _ z=>False.elim z);have again:∀ {s':Shared} {H':Hp},Inv (xm X scope N' s3 H3 fp pins) ([]++Y5 fp s7.heap) τ8 H' s'->tn (i+1) s'.heap/\∀b∈fp,H' b=none:=fun {s' H'} I'=>by
    refine⟨T.keep _ _ _ st7 fun b hb o e=>(I'.pin (b,o) (sD _ (sD _ (uN hb e)))).1,fun b hb=>?_⟩;obtain⟨o,e,d⟩:=T.obj _ _ st7 b hb;exact (I'.pin (b,o) (sD _ (sD _ (uN hb e)))).2.1
   cases b with
   | false =>
    rw[if_neg sJ]at q9;obtain⟨m',hm,w9⟩:=q9;obtain⟨a1,a2⟩:=again I9;refine wpAny_pure ⟨rfl,m',hm,i+1,ys,τ8,H9,I9.unpinned,a1,a2,w9⟩
   | true =>
    rw[if_pos rfl]at q9;refine wpAny_bind (wpAny_bind (wpAny_mono (he s3 H3 fp pins _ s9 τ8 H9 _ I9 q9) (fun yv s10 ⟨y,H10,I10,r10,hD10,hz,m',hm,w10⟩=>?_) fun _ _ z=>False.elim z));refine wpAny_bind (wpAny_mono (kl (X:=xm X scope N' s3 H3 fp pins) _ s10 τ8 H10 (.ref D) [y] (.ref D) [yv] (fun _ H11=>H11=upd H10 D (.lst (ys++[y]))) I10 rfl (.cons r10 .nil) ⟨D,ys,y,rfl,rfl,hD10,hz,rfl⟩) (fun _ s11 ⟨_,H11,I11,_,q11⟩=>?_) fun _ _ z=>False.elim z);subst q11;obtain⟨a1,a2⟩:=again I11;exact wpAny_pure (wpAny_pure ⟨rfl,m',hm,i+1,ys++[y],τ8,_,I11.unpinned,a1,a2,w10⟩)
 exact codeAny_compStart_list (loop _ rfl) (T.self _ 0 _ _ _ st4 (loop _ rfl))
def QF {fr:List (Option Nat)}{pos:Pos}(hc:X.calm=true)(S:CompScope X N' fr scope)(hi:PI X tg iter wi)
  (hg:∀s₃ H₃ fp pins,PG (xm X scope N' s₃ H₃ fp pins) tg g) (ht:∀s₃ H₃ fp pins,PTs (xm X scope N' s₃ H₃ fp pins) ifs tc) (he:∀s₃ H₃ fp pins,PE (xm X scope N' s₃ H₃ fp pins) elt te)
  (hs:autoParam (∀x,foldedSetIterable iter X.env x=pure x) au2._auto_1):PE X (.ListComp elt [⟨tg,iter,ifs,0⟩] scope pos) (UP fr wi g tc te):=by
 intro pins s σ H Q I h;rw[eval_ListComp];refine Kz (use:=none) hc S hi hg ht he hs I h fun s3 H3 fp D s6 τ H5 fl I3 f3 I6 q=>?_;obtain⟨m6,hn6,_⟩:=I6.loc;exact⟨m6,hn6,fun h7 hs7=>⟨.ref D,H5,z0M I3 I6 f3 hs7,rfl,q⟩⟩
def Ite (K:jJa)(a:Addr):It:=
 ⟨fun i H=>∃xs x,SqL K H a xs/\xs[i]?=some x,fun i H x H'=>∃p y,H p=none/\x=.ref p/\H'=upd H p (.tup [.int i,y])/\∀xs,SqL K H a xs->xs[i]?=some y,fun i H=>∃xs,SqL K H a xs/\xs.length<=i⟩
def J8 {P:Program}{w:World}{K:jJa}{elts:List Expr}{x1:Nat}{tpos:Pos}(a e it:Addr)(hne:e≠it):Turn P w K (.Tuple elts x1 tpos) (Ite K a) [e,it] e (fun i h=>(∃old,IsEnum h e it i old)/\h.IsListIter it a i) where
 mem:=by simp
 obj:=fun i h st b hb=>by
  obtain⟨⟨old,s1⟩,o,e1,c,d⟩:=st;have hb:b=e\/b=it:=by simpa using hb
  rcases hb with rfl|rfl
  ·exact⟨_,s1,fun v z=>by cases z⟩
  ·exact⟨o,e1,fun v z=>by rw[d]at z;cases z⟩
 keep:=fun i h h' st k=>by
  obtain⟨⟨old,s1⟩,s2⟩:=st;exact⟨⟨old,k e (by simp) _ s1⟩,s2.at fun o q=>k it (by simp) o q⟩
 item:=by
  intro X hP hw hK hc i pins s σ H E I hf st hg;subst hP hw hK;obtain⟨⟨old,s1⟩,s2⟩:=st;obtain⟨xs,x,hq,hx⟩:=hg;obtain⟨its,rv,p,hz⟩:=I.list hq;obtain⟨u,hu,ru⟩:=rv.get hx;obtain⟨f0,f1,f2,f3,f4,f5⟩:=hf e (by simp);obtain⟨g0,g1,g2,g3,g4,g5⟩:=hf it (by simp);refine wpAny_pyNext_enum_item s1 s2 p.isList (x:=u) (by simpa using hu) hne fun h1 out it1 tup sz kp=>?_;refine⟨_,rfl,wpAny_letOwnedTupleGo_enum out fun h2 en2 sb2=>?_⟩;have sb2:Heap.SameBut e h1 h2:=sb2;have eT:e≠s.heap.objs.size:=rB (jYc s1);have iT:it≠s.heap.objs.size:=by
   obtain⟨o,q,_⟩:=s2;exact rB (jYc q)
  have hfresh:H s.heap.objs.size=none:=I.hok.fresh (sL _);have keep2:∀b o,b≠e->b≠it->s.heap.get? b=some o->h2.get? b=some o:=fun b o n1 n2 q=>(sb2.2 b n1).trans (kp b o n1 n2 q);have nE:∀b u,H b=some u->b≠e:=fun b u q z=>by rw[z,f0]at q;cases q
  have nI:∀b u,H b=some u->b≠it:=fun b u q z=>by rw[z,g0]at q;cases q
  have htup:h2.get? s.heap.objs.size=some { cls:=.type "tuple",data:=.seq #[.int i s.toks,u] }:=(sb2.2 _ (Ne.symm eT)).trans tup;have hok2:HOk X.prog X.w (upd H s.heap.objs.size (.tup [.int i,x])) h2:=fun b ob q=>by
   by_cases hb:b=s.heap.objs.size
   ·subst hb;rw[zT]at q;cases q;exact⟨by show 2<=sizeLine;decide,[.int i s.toks,u],.cons ⟨_,rfl⟩ (.cons ru .nil),⟨_,htup,rfl,⟨rfl,rfl⟩,_,rfl⟩⟩
   ·rw[y8 hb]at q;refine (I.hok b ob q).stay (fun c v hc r=>keep2 c v ?_ ?_ r) (fun c z=>?_) fun c ys z=>?_
    ·rcases hc with rfl|hc
     ·exact nE c _ q
     ·exact nE c _ hc
    ·rcases hc with rfl|hc
     ·exact nI c _ q
     ·exact nI c _ hc
    ·rw[y8 (yx z hfresh)];exact z
    ·rw[y8 (yx z hfresh)];exact z
  have I2:Inv X pins σ (upd H s.heap.objs.size (.tup [.int i,x])) { s with heap:=h2,gens:=s.gens,drawn:=s.drawn,toks:=s.toks+1 }:=by
   refine I.step (ch:=[e,it]) (fun b hb=>?_) (fun b o _ _ hc q _=>keep2 b o (fun z=>hc (by simp[z])) (fun z=>hc (by simp[z])) q) (fun b o _ _ hc q _=>⟨o.slots,keep2 b o (fun z=>hc (by simp[z])) (fun z=>hc (by simp[z])) q⟩) (fun b o hc q n=>?_)
    (fun b o hc q=>⟨o,keep2 b o (fun z=>hc (by simp[z])) (fun z=>hc (by simp[z])) q⟩) (fun b ys z=>by rw[y8 (yx z hfresh)];exact z) (fun b o v z=>by rw[y8 (yx z hfresh)];exact z)
    (fun b ps z=>⟨#[],by rw[y8 (yx z hfresh),z];simp⟩) (fun m hm=>?_) hok2 I.bare
   ·have hb:b=e\/b=it:=by simpa using hb
    rcases hb with rfl|rfl
    ·exact⟨f3,f1,f4,f5⟩
    ·exact⟨g3,g1,g4,g5⟩
   ·rw[y8 (rB (jYc q))];exact n
   ·obtain⟨o,es,ep,ho,r⟩:=hm;exact⟨o,es,ep,keep2 _ o (Ne.symm f1) (Ne.symm g1) ho,r⟩
  refine⟨.ref s.heap.objs.size,_,I2,rfl,⟨s.heap.objs.size,x,hfresh,rfl,rfl,fun ys hy=>by rw[I.list_inj hy hq];exact hx⟩,⟨⟨u,?_⟩,?_⟩,fun b hb=>?_⟩
  ·exact_mod_cast en2
  ·exact it1.at fun o q=>(sb2.2 it (Ne.symm hne)).trans q
  ·have hb:b=e\/b=it:=by simpa using hb
   rcases hb with rfl|rfl
   ·rw[y8 eT];exact f0
   ·rw[y8 iT];exact g0
 done:=by
  intro X hP hw hK hc i pins s σ H E I hf st hg;subst hP hw hK;obtain⟨⟨old,s1⟩,s2⟩:=st;obtain⟨xs,hq,hx⟩:=hg;obtain⟨its,rv,p,hz⟩:=I.list hq;obtain⟨g0,g1,g2,g3,g4,g5⟩:=hf it (by simp);have hl:=rv.length;exact wpAny_pyNext_enum_end (I.ok.hd hc) s1 s2 p.isList (by simp;omega) fun h' eb=>⟨rfl,I.turned (t':=s.toks) (fun b o hb q=>eb b o hb q) g0 g1 g3 g4 g5⟩
 self:=fun A i s Q E st h=>by
  obtain⟨⟨old,s1⟩,s2⟩:=st;exact wpAny_pyIter_enum s1 h
def z64 (K:jJa)(ta:TA):TI:=fun σ H R=>ta σ H fun vs H1=>∃a,vs=[.ref a]/\(∃xs,SqL K H1 a xs)/\R (Ite K a) H1
section
def z1s {a:Expr}{ta:TA}{p pos tpos:Pos}{elts:List Expr}{x1:Nat}(hg:Gl X "enumerate")(hm:X.mg "enumerate"=none)(ha:PA X [a] ta)(hb:autoParam (bootBuiltins "enumerate"=some (.type "enumerate")) au3._auto_1)(hs:autoParam (starEach [a] X.env=[(false,eval a X.env)]) au3._auto_1):
  PI X (.Tuple elts x1 tpos) (.Call (.Name "enumerate" p) [a] [] pos) (z64 X.K ta):=by
 intro pins s σ H R I h;refine Call_ (ZF I hg hm hb (PyProof.Rows.callWith_type1 (thn (ha pos pins s σ H _ I h) fun us s1 ⟨vs,H1,I1,r1,q1⟩=>?_) hs rfl));obtain⟨a,e,⟨xs,hq⟩,q⟩:=q1;subst e;obtain⟨u,rfl,ru⟩:=r1.one;cases ru;obtain⟨its,rv,pl,hz⟩:=I1.list hq;refine call_enumerate_list pl.isList fun h' en it sz kp=>?_;refine wpAny_pyIter_enum en ?_;have I2:Inv X pins σ H1 { s1 with heap:=h',toks:=s1.toks }:=I1.kept kp;refine⟨s1.heap.objs.size+1,[s1.heap.objs.size+1,s1.heap.objs.size],_,_,H1,rfl,I2,J8 a _ _ (Nat.succ_ne_self _),⟨⟨.none,en⟩,it⟩,fun b hb=>?_,q⟩;have hb:b=s1.heap.objs.size+1\/b=s1.heap.objs.size:=by simpa using hb
 rcases hb with rfl|rfl
 ·exact I1.fpOk (Nat.le_succ _) (I1.hok.fresh (Nat.le_succ _))
 ·exact I1.fpOk (sL _) (I1.hok.fresh (sL _))
end
def z4B (x:Str)(i:Nat)(v:V):Prop:=∃c,x.cps[i]?=some c/\v=.str ⟨#[c]⟩
def Its (x:Str):It:=⟨fun i _=>i<x.cps.size,fun i H v H'=>H'=H/\z4B x i v,fun i _=>x.cps.size<=i⟩
def Uh {P:Program}{w:World}{K:jJa}{tg:Expr}(x:Str)(t:Tok)(it:Addr):Turn P w K tg (Its x) [it] it (fun i h=>h.IsStrIter it "str_ascii_iterator" x t i) where
 mem:=by simp
 obj:=fun i h st b hb=>by
  have e:b=it:=by simpa using hb
  subst e;obtain⟨o,e,c,d⟩:=st;exact⟨o,e,fun v z=>by rw[d]at z;cases z⟩
 keep:=fun i h h' st k=>let ⟨o,ho,r⟩:=st;⟨o,k it (by simp) o ho,r⟩
 item:=by
  intro X hP hw hK hc i pins s σ H E I hf st hg;subst hP hw hK;have hg:i<x.cps.size:=hg;obtain⟨f0,f1,f2,f3,f4,f5⟩:=hf it (by simp);refine wpAny_pyNext_ascii_item st (c:=x.cps[i]) (by simp[hg]) fun h' st' sb=>?_;have I1:Inv X pins σ H { s with heap:=h',toks:=s.toks+1 }:=I.turned (fun b o hb e=>(sb.2 b hb).trans e) f0 f1 f3 f4 f5;obtain⟨o,e,c,d⟩:=id st';exact⟨_,rfl,WZ (s:={ s with heap:=h',toks:=s.toks+1 }) e c d (by decide) ⟨.str ⟨#[x.cps[i]]⟩,H,I1,⟨_,rfl⟩,⟨rfl,_,by simp[hg],rfl⟩,st',fun b hb=>(hf b hb).1⟩⟩
 done:=by
  intro X hP hw hK hc i pins s σ H E I hf st hg;subst hP hw hK;have hg:x.cps.size<=i:=hg;obtain⟨f0,f1,f2,f3,f4,f5⟩:=hf it (by simp);exact wpAny_pyNext_ascii_end (I.ok.hd hc) st (by simp[hg]) fun h' eb=>⟨rfl,I.turned (t':=s.toks) (fun b o hb e=>eb b o hb e) f0 f1 f3 f4 f5⟩
 self:=fun _ _ _ _ _ st h=>wpAny_pyIter_striter_ascii st h
def Jv {P:Program}{w:World}{K:jJa}{tg:Expr}(x:Str)(t:Tok)(it:Addr):Turn P w K tg (Its x) [it] it (fun i h=>h.IsStrIter it "str_iterator" x t i) where
 mem:=by simp
 obj:=fun i h st b hb=>by
  have e:b=it:=by simpa using hb
  subst e;obtain⟨o,e,c,d⟩:=st;exact⟨o,e,fun v z=>by rw[d]at z;cases z⟩
 keep:=fun i h h' st k=>let ⟨o,ho,r⟩:=st;⟨o,k it (by simp) o ho,r⟩
 item:=by
  intro X hP hw hK hc i pins s σ H E I hf st hg;subst hP hw hK;have hg:i<x.cps.size:=hg;obtain⟨f0,f1,f2,f3,f4,f5⟩:=hf it (by simp);refine wpAny_pyNext_wide_item st (c:=x.cps[i]) (by simp[hg]) fun h' st' sb=>?_;have I1:Inv X pins σ H { s with heap:=h',toks:=s.toks+1 }:=I.turned (fun b o hb e=>(sb.2 b hb).trans e) f0 f1 f3 f4 f5;obtain⟨o,e,c,d⟩:=id st';exact⟨_,rfl,WZ (s:={ s with heap:=h',toks:=s.toks+1 }) e c d (by decide) ⟨.str ⟨#[x.cps[i]]⟩,H,I1,⟨_,rfl⟩,⟨rfl,_,by simp[hg],rfl⟩,st',fun b hb=>(hf b hb).1⟩⟩
 done:=by
  intro X hP hw hK hc i pins s σ H E I hf st hg;subst hP hw hK;have hg:x.cps.size<=i:=hg;obtain⟨f0,f1,f2,f3,f4,f5⟩:=hf it (by simp);exact wpAny_pyNext_wide_end (I.ok.hd hc) st (by simp[hg]) fun h' eb=>⟨rfl,I.turned (t':=s.toks) (fun b o hb e=>eb b o hb e) f0 f1 f3 f4 f5⟩
 self:=fun _ _ _ _ _ st h=>wpAny_pyIter_striter_wide st h
def z6c (te:TE):TI:=fun σ H R=>te σ H fun v H1=>∃x,v=.str x/\R (Its x) H1
def z49 {X:Cx}{tg e:Expr}{te:TE}(he:PE X e te):PI X tg e (z6c te):=by
 intro pins s σ H R I h;refine thn (he pins s σ H _ I h) fun v s1 ⟨y,H1,I1,r1,q1⟩=>?_;obtain⟨x,rfl,q⟩:=q1;obtain⟨t,rfl⟩:=r1;cases ha:x.cps.all (·<128)
 ·refine wpAny_pyIter_wide ha ?_;refine⟨s1.heap.objs.size,[s1.heap.objs.size],_,_,H1,rfl,I1.kept (t':=s1.toks) fun b o e=>jYb _ e,Jv x t _,⟨_,jYd _ rfl,rfl,rfl⟩,fun b hb=>?_,q⟩;have e:b=s1.heap.objs.size:=by simpa using hb
  subst e;exact I1.fpOk (sL _) (I1.hok.fresh (sL _))
 ·refine wpAny_pyIter_ascii ha ?_;refine⟨s1.heap.objs.size,[s1.heap.objs.size],_,_,H1,rfl,I1.kept (t':=s1.toks) fun b o e=>jYb _ e,Uh x t _,⟨_,jYd _ rfl,rfl,rfl⟩,fun b hb=>?_,q⟩;have e:b=s1.heap.objs.size:=by simpa using hb
  subst e;exact I1.fpOk (sL _) (I1.hok.fresh (sL _))
section
variable {X:Cx}
def z6x:V->Option Int->Option Int->Hp->VK->Prop:=fun x lo hi H Q=>∃z,x=.str z/\z.length<=sizeLine/\Q (.str (Txt.slice z lo hi)) H
def z0c:SlR X z6x:=by
 intro pins s σ H x v vl vu lo hi sl Q I rx hs pl pu h;obtain⟨z,rfl,hz,q⟩:=h;obtain⟨t,rfl⟩:=rx;refine⟨"str",_,F.slot_str_getitem.lookup,typeIs_str _ _ _,?_⟩;have fin:∀(l u:Option (Int×Tok)),vl=partValue l->vu=partValue u->l.map (·.1)=lo->u.map (·.1)=hi->wpAny (model X.prog X.w) X.A (getItem (.str z t) (.ref sl)) (EP X pins σ Q) X.xe s:=by
  intro l u e1 e2 e3 e4;subst e1 e2 e3 e4;refine wpAny_getItem_str_slice (st:=none) hs rfl (post_val_or_str ⟨rD (Txt.slice_le z _ _) hz,fun t' k=>?_⟩);exact⟨.str _,H,I.tok k,⟨t',rfl⟩,q⟩
 cases pl with
 | none =>
  cases pu with
  | none=>exact fin none none rfl rfl rfl rfl
  | int j tj=>exact fin none (some (j,tj)) rfl rfl rfl rfl
 | int i ti =>
  cases pu with
  | none=>exact fin (some (i,ti)) none rfl rfl rfl rfl
  | int j tj=>exact fin (some (i,ti)) (some (j,tj)) rfl rfl rfl rfl
end
section
variable {prog:Program}{w:World}{A:Around}{E:Value->Shared->Prop}{s:Shared}{K:Type}[DecidableEq K]{knd:KeyKind prog w K}{d:Addr}{kvs:List (K×Value)}{ep:Nat}
end
section
variable {X:Cx}
end
structure DefIn (K:jJa)(mg:Str->Option Value)(x:Str)(st:Stmt)(ps:List Str):Prop where
 ex:∃f fd,Fun K x x st f fd/\mg x=some (.ref f)/\Binds K fd ps []
def KJ {K:jJa}{mg:Str->Option Value}{x:Str}{st:Stmt}{ps:List Str}{h:Heap}{f:Addr}{oc:Value}{od an:Option Addr}{osl:Array (Option Value)}{kV doc pm cdv ct:Value}(X:K.In h)(G:h.Ns mainGlobals mg)
  (hb:∀(kV doc pm:Value) (an:Option Addr) (cdv ct:Value) (us:List Value),us.length=ps.length->bindArgs (jJe x x (defArgs st) (defBody st) (defScope st) .none kV doc pm an cdv ct) ⟨us,[]⟩=pure (ps.zip us))
  (a:jJg K mainGlobals x=some (some (.ref f))) (l:K.lookup f=some ⟨oc,od,.func (jJe x x (defArgs st) (defBody st) (defScope st) .none kV doc pm an cdv ct),osl⟩)
  (c:jJj K cdv x=true) (k:jJf K (.ref f)=true):DefIn K mg x st ps:=
 ⟨f,_,z0g l c k,jJv X G a,(z0g (st:=st) l c k).binds hb⟩
structure Own (P:Program)(w:World)(K:jJa)(mg:Str->Option Value)(base:Heap)(x:Str)(k:Nat)(ps:List Str)(sp:Sp):Prop where
 ex:∃f fd,FnOk P w K mg base (cxx P w) k f fd ps sp/\mg x=some (.ref f)/\jJf K (.ref f)=true/\Binds K fd ps []
section
variable {P:Program}{w:World}{K:jJa}{mg:Str->Option Value}{base:Heap}{x:Str}{st:Stmt}{N ps:List Str}{k:Nat}{sp:Sp}
def DefIn.own (D:DefIn K mg x st ps)(S:FnScope N ps (defScope st))(len:∀vs H Q E,sp vs H Q E->vs.length=ps.length)
  (hbody:∀(f:Addr) (cdv:Value) (A:Around) (outer:List Env) (s:Shared) (H:Hp) (vs:List V) (Q:VK) (E:XK),Room k (A.deeper (envOfC x (defScope st) s.heap.objs.size f cdv))->sp vs H Q E ->
   ∃t,PSs (vp (cxx P w) P w K mg base N x (defScope st) f cdv A outer s H E) (defBody st) t/\t { nx:=fun _ H'=>Q .non H',rt:=Q } (start N vs) H):Own P w K mg base x (k+1) ps sp:=by
 obtain⟨f,fd,F,hm,hb⟩:=D.ex;obtain⟨oc,od,kV,doc,pm,an,cdv,ct,osl,rfl,lk,hcd⟩:=F.ex;exact⟨f,_,JJ lk hcd S len fun A outer s H vs Q E hr hsp=>hbody f cdv A outer s H vs Q E hr hsp,hm,F.kp,hb⟩
def Own.mono {j:Nat}(O:Own P w K mg base x j ps sp)(h:j<=k):Own P w K mg base x k ps sp:=by
 obtain⟨f,fd,F,a,b,c⟩:=O.ex;exact⟨f,fd,F.mono h,a,b,c⟩
end
section
variable {k:Nat}
def Uq (O:Own X.prog X.w X.K X.mg X.base x k ps sp)(hr:Room k X.A)(hg:Gl X x)(hx:vW (cxx X.prog X.w) X E)(ha:PA X (e::es) t)(hdb:autoParam ((x==("__debug__":Str))=false) au1._auto_1)
  (he:autoParam (starEach (e::es) X.env=(false,eval e X.env)::starEach es X.env) au3._auto_1) (hpl:autoParam ((backTo pos (starEach es X.env)).any (·.1)=false) au3._auto_1):PE X (.Call (.Name x p) (e::es) [] pos) (z05 sp [] E t):=by
 obtain⟨f,fd,F,hm,hk,hb⟩:=O.ex;exact z1E F hr hg hm hk hb .nil hx ha hdb he hpl
def z18 {pos' pc hpos tpos:Pos}{i:Nat}(O:Own X.prog X.w X.K X.mg X.base x k ps sp)(hst:X.stack=X.env::X.outer)(hf:X.env.frame=some X.env.locals)(hc:X.calm=true)(hN:X.N.Nodup)(hr:Room k X.A)(hg:Gl X x)
  (ha:PA X.nox (e::es) t) (hgc:Gl X xc) (hmc:X.mg xc=some (.ref CS)) (hi:X.N[i]?=some n) (hx:X.env.scope.names.lookup n=some .local) (hsuite:∀(e:Addr) (oe:Obj),PSs (X.within e oe) (b₀::suite) (ts e oe))
  (hdb:autoParam ((x==("__debug__":Str))=false) au1._auto_1) (hdc:autoParam ((xc==("__debug__":Str))=false) au1._auto_1)
  (he:autoParam (starEach (e::es) X.env=(false,eval e X.env)::starEach es X.env) au3._auto_1) (hpl:autoParam ((backTo pos (starEach es X.env)).any (·.1)=false) au3._auto_1)
  (hsw:autoParam (swapsWith (.Call (.Name x p) (e::es) [] pos) none pos'.line X.env=pure false) au3._auto_1):
  PS X (.Try [.Expr (.Call (.Name x p) (e::es) [] pos) pos'] [.ExceptHandler (some (.Name xc pc)) (some n) (b₀::suite) hpos] [] [] tpos) (z69 X.K CS i sp [] t ts):=by
 obtain⟨f,fd,F,hm,hk,hb⟩:=O.ex;exact z4y hst hf hc hN F hr hg hm hk hb .nil ha hgc hmc hi hx hsuite hdb hdc he hpl hsw
end
def kJ:List String:=["NoneType","bool","int","str","list","tuple","dict"]
section
variable {K:jJa}
def z1x:∀ {T:String},T∈kJ->jJb K (.type T) (.type "int")=some (T=="int"||T=="bool"):=by
 intro T h;simp only[kJ,sI,pS,or_false]at h;rcases h with rfl|rfl|rfl|rfl|rfl|rfl|rfl<;>kernel_rfl
def z09:∀ {T:String},T∈kJ->jJb K (.type T) (.type "bool")=some (T=="bool"):=by
 intro T h;simp only[kJ,sI,pS,or_false]at h;rcases h with rfl|rfl|rfl|rfl|rfl|rfl|rfl<;>kernel_rfl
def z0a:∀ {T U:String},T∈kJ->U∈(["str","list","tuple","dict"]:List String)->jJb K (.type T) (.type U)=some (T==U):=by
 intro T U h g;simp only[kJ,sI,pS,or_false]at h g;rcases g with rfl|rfl|rfl|rfl<;>rcases h with rfl|rfl|rfl|rfl|rfl|rfl|rfl<;>kernel_rfl
end
def z6F (K:jJa)(pn:List (Addr×Obj))(u:V)(te:TE):TE:=fun σ H Q=>te σ H fun v H1=>z4V K pn [v,u] H1 Q
def K6 {p pos:Pos}(hg:Gl X "isinstance")(hm:X.mg "isinstance"=none)(he:PE X e te)(hc:PE X c (tC u))(hs:autoParam (starEach [e,c] X.env=(false,eval e X.env)::starEach [c] X.env) au3._auto_1)(hs2:autoParam (starEach [c] X.env=(false,eval c X.env)::starEach [] X.env) au3._auto_1)
  (hpl:autoParam ((backTo pos (starEach [c] X.env)).any (·.1)=false) au3._auto_1):PE X (.Call (.Name "isinstance" p) [e,c] [] pos) (z6F X.K X.pn u te):=by
 have key:=uE (X:=X) (x:="isinstance") (p:=p) (pos:=pos) z0o hg hm Boot.«isinstance» (yG he (yG hc vY hs2) hs) (by decide) (by decide) hs hpl;intro pins s σ H Q I h;exact key pins s σ H Q I h
inductive D where
 | non | bl (b:Bool) | int (i:Int) | str (x:Str) | tup (xs:List D) | lst (xs:List D) | dic (ks:List Key) (xs:List D) | frl (xs:List D)
inductive R (α:Type) where
 | ok (a:α) | err (c:Str) | bad
def R.bind {α β:Type}(r:R α)(f:α->R β):R β:=match r with
 | .ok a=>f a
 | .err c=>.err c
 | .bad=>.bad
def jYa {α β:Type}(a:α)(f:α->R β):(R.ok a).bind f=f a:=rfl
def R.err_bind {α β:Type}(c:Str)(f:α->R β):(R.err c:R α).bind f=.err c:=rfl
def R.bad_bind {α β:Type}(f:α->R β):(R.bad:R α).bind f=.bad:=rfl
mutual
def D.imm:D->Bool
 | .tup xs=>D.imms xs
 | .lst _=>false
 | .dic _ _=>false
 | _=>true
def D.imms:List D->Bool
 | []=>true
 | d::ds=>D.imm d&&D.imms ds
end
def SqF (K:jJa)(H:Hp)(a:Addr)(vs:List V):Prop:=(∃o,H a=some (.frz o (.lst vs))) \/
 ∃(o:Obj) (its:Array Value) (n:Nat),K.lookup a=some o/\o.cls=.type "list"/\o.dict=none/\o.data=.seq its n/\its.size<=sizeLine/\Vals vs its.toList
def SqF.sq {K:jJa}{H:Hp}{a:Addr}{vs:List V}(h:SqF K H a vs):SqL K H a vs:=by
 rcases h with⟨o,h⟩|h
 ·exact .inl (.inr ⟨o,h⟩)
 ·exact .inr h
mutual
def Rep (K:jJa)(H:Hp):D->V->List Addr->Prop
 | .non,v,L=>v=.non/\L=[]
 | .bl b,v,L=>v=.bl b/\L=[]
 | .int i,v,L=>v=.int i/\L=[]
 | .str x,v,L=>v=.str x/\L=[]
 | .tup ds,v,L=>∃a vs,v=.ref a/\SqT K H a vs/\Reps K H ds vs L
 | .lst ds,v,L=>∃a vs L',v=.ref a/\H a=some (.lst vs)/\L=a::L'/\Reps K H ds vs L'
 | .dic ks ds,v,L=>∃a kvs L',v=.ref a/\H a=some (.dK kvs)/\L=a::L'/\kvs.map (·.1)=ks/\ks.Nodup/\Reps K H ds (kvs.map (·.2)) L'
 | .frl ds,v,L=>∃a vs,v=.ref a/\SqF K H a vs/\L=[]/\D.imms ds=true/\Reps K H ds vs []
def Reps (K:jJa)(H:Hp):List D->List V->List Addr->Prop
 | [],vs,L=>vs=[]/\L=[]
 | d::ds,vs,L=>∃v vs' L1 L2,vs=v::vs'/\L=L1++L2/\Rep K H d v L1/\Reps K H ds vs' L2
end
structure TF (H H':Hp):Prop where
 tup:∀a xs,H a=some (.tup xs)->H' a=some (.tup xs)
 frz:∀a o u,H a=some (.frz o u)->H' a=some (.frz o u)
def Same.tf (h:Same H H'):TF H H':=⟨fun a xs e=>h a _ e,fun a o u e=>h a _ e⟩
def Same.non (s:Same H H1){a:Addr}(h:H1 a=none):H a=none:=by
 cases e:H a with
 | none=>rfl
 | some o=>rw[s a o e]at h;cases h
def Same.new (h:H p=none):Same H (upd H p o):=fun b u e=>by
 rw[y8 (yx e h)];exact e
def SqF.tf {K:jJa}{H H':Hp}{a:Addr}{vs:List V}(h:SqF K H a vs)(s:TF H H'):SqF K H' a vs:=by
 rcases h with⟨o,h⟩|h
 ·exact .inl ⟨o,s.frz _ _ _ h⟩
 ·exact .inr h
def SqT.tf {K:jJa}{H H':Hp}{a:Addr}{vs:List V}(h:SqT K H a vs)(s:TF H H'):SqT K H' a vs:=by
 rcases h with h|h
 ·rcases h with h|⟨o,h⟩
  ·exact .inl (.inl (s.tup _ _ h))
  ·exact .inl (.inr ⟨o,s.frz _ _ _ h⟩)
 ·exact .inr h
section
variable {K:jJa}{H H':Hp}
mutual
def Rep.keep (s:TF H H'):∀(d:D) (v:V) (L:List Addr),Rep K H d v L->(∀a∈L,H' a=H a)->Rep K H' d v L
 | .non,_,_,h,_=>h
 | .bl _,_,_,h,_=>h
 | .int _,_,_,h,_=>h
 | .str _,_,_,h,_=>h
 | .tup ds,_,L,hq3,k=>by
  obtain⟨a,vs,e,h,r⟩:=hq3;exact⟨a,vs,e,h.tf s,Reps.keep s ds vs L r k⟩
 | .lst ds,_,L,hq3,k=>by
   obtain⟨a,vs,L',e,h1,h2,h3⟩:=hq3;subst h2;exact⟨a,vs,L',e,by rw[k a tN];exact h1,rfl,Reps.keep s ds vs L' h3 fun b hb=>k b (tS _ hb)⟩
 | .frl ds,_,L,hq3,k=>by
  obtain⟨a,vs,e,h1,h2,h3,h4⟩:=hq3;exact⟨a,vs,e,h1.tf s,h2,h3,Reps.keep s ds vs [] h4 (fun _ hb=>nomatch hb)⟩
 | .dic ks ds,_,L,hq3,k=>by
   obtain⟨a,kvs,L',e,h1,h2,h3,h4,h5⟩:=hq3;subst h2;exact⟨a,kvs,L',e,by rw[k a tN];exact h1,rfl,h3,h4,Reps.keep s ds _ L' h5 fun b hb=>k b (tS _ hb)⟩
def Reps.keep (s:TF H H'):∀(ds:List D) (vs:List V) (L:List Addr),Reps K H ds vs L->(∀a∈L,H' a=H a)->Reps K H' ds vs L
 | [],_,_,h,_=>h
 | d::ds,_,_,hq3,k=>by
  obtain⟨v,vs',L1,L2,e1,e2,h1,h2⟩:=hq3;subst e2;exact⟨v,vs',L1,L2,e1,rfl,Rep.keep s d v L1 h1 fun a ha=>k a (sE _ ha),Reps.keep s ds vs' L2 h2 fun a ha=>k a (sD _ ha)⟩
end
mutual
def Rep.dom:∀(d:D) (v:V) (L:List Addr),Rep K H d v L->∀a∈L,(∃vs,H a=some (.lst vs))\/∃kvs,H a=some (.dK kvs)
 | .non,_,_,h,a,ha=>by rw[h.2]at ha;cases ha
 | .bl _,_,_,h,a,ha=>by rw[h.2]at ha;cases ha
 | .int _,_,_,h,a,ha=>by rw[h.2]at ha;cases ha
 | .str _,_,_,h,a,ha=>by rw[h.2]at ha;cases ha
 | .tup ds,_,L,hq3,b,hb=>by
  obtain⟨a,vs,e,h,r⟩:=hq3;exact Reps.dom ds vs L r b hb
 | .lst ds,_,L,hq3,b,hb=>by
   obtain⟨a,vs,L',e,h1,h2,h3⟩:=hq3;subst h2;rcases sI.mp hb with z|z
   ·subst z;exact .inl ⟨vs,h1⟩
   ·exact Reps.dom ds vs L' h3 b z
 | .frl ds,_,L,hq3,b,hb=>by
  obtain⟨a,vs,e,h1,h2,h3,h4⟩:=hq3;rw[h2]at hb;cases hb
 | .dic ks ds,_,L,hq3,b,hb=>by
   obtain⟨a,kvs,L',e,h1,h2,h3,h4,h5⟩:=hq3;subst h2;rcases sI.mp hb with z|z
   ·subst z;exact .inr ⟨kvs,h1⟩
   ·exact Reps.dom ds _ L' h5 b z
def Reps.dom:∀(ds:List D) (vs:List V) (L:List Addr),Reps K H ds vs L->∀a∈L,(∃vs,H a=some (.lst vs))\/∃kvs,H a=some (.dK kvs)
 | [],_,_,h,a,ha=>by rw[h.2]at ha;cases ha
 | d::ds,_,_,hq3,a,ha=>by
  obtain⟨v,vs',L1,L2,e1,e2,h1,h2⟩:=hq3;subst e2;rcases sC.mp ha with z|z
  ·exact Rep.dom d v L1 h1 a z
  ·exact Reps.dom ds vs' L2 h2 a z
end
mutual
def Rep.imm:∀(d:D) (v:V) (L:List Addr),Rep K H d v L->d.imm=true->L=[]
 | .non,_,_,h,_=>h.2
 | .bl _,_,_,h,_=>h.2
 | .int _,_,_,h,_=>h.2
 | .str _,_,_,h,_=>h.2
 | .tup ds,_,L,hq3,h=>by
  obtain⟨_,vs,_,_,r⟩:=hq3;exact Reps.imm ds vs L r h
 | .lst _,_,_,_,h=>nomatch h
 | .dic _ _,_,_,_,h=>nomatch h
 | .frl _,_,_,hq3,_=>by
  obtain⟨_,_,_,_,h,_⟩:=hq3;exact h
def Reps.imm:∀(ds:List D) (vs:List V) (L:List Addr),Reps K H ds vs L->D.imms ds=true->L=[]
 | [],_,_,h,_=>h.2
 | d::ds,_,_,hq3,h=>by
  obtain⟨v,vs',L1,L2,_,e2,h1,h2⟩:=hq3;have h:(d.imm&&D.imms ds)=true:=h;rw[sY]at h;rw[e2,Rep.imm d v L1 h1 h.1,Reps.imm ds vs' L2 h2 h.2];rfl
end
def Rep.there {d:D}{v:V}{L:List Addr}(h:Rep K H d v L){a:Addr}(ha:a∈L):H a≠none:=by
 rcases Rep.dom d v L h a ha with⟨_,e⟩|⟨_,e⟩<;>rw[e]<;>simp
def Reps.there {d:List D}{v:List V}{L:List Addr}(h:Reps K H d v L){a:Addr}(ha:a∈L):H a≠none:=by
 rcases Reps.dom d v L h a ha with⟨_,e⟩|⟨_,e⟩<;>rw[e]<;>simp
def Same.at (s:Same H H')(h:H a≠none):H' a=H a:=by
 cases e:H a with
 | none=>exact absurd e h
 | some o=>exact s a o e
def Rep.same {d:D}{v:V}{L:List Addr}(h:Rep K H d v L)(s:Same H H'):Rep K H' d v L:=Rep.keep s.tf d v L h fun _ ha=>s.at (h.there ha)
def Reps.same {d:List D}{v:List V}{L:List Addr}(h:Reps K H d v L)(s:Same H H'):Reps K H' d v L:=Reps.keep s.tf d v L h fun _ ha=>s.at (h.there ha)
def Reps.length:∀ {ds:List D} {vs:List V} {L:List Addr},Reps K H ds vs L->vs.length=ds.length
 | [],_,_,hq3=>by
  obtain⟨e,_⟩:=hq3;rw[e];rfl
 | d::ds,_,_,hq3=>by
  obtain⟨v,vs',L1,L2,e1,e2,h1,h2⟩:=hq3;rw[e1,tF,tF,Reps.length h2]
def Reps.nil:Reps K H [] [] []:=⟨rfl,rfl⟩
def Reps.cons {d:D}{v:V}{L1:List Addr}{ds:List D}{vs:List V}{L2:List Addr}(h:Rep K H d v L1)(t:Reps K H ds vs L2):Reps K H (d::ds) (v::vs) (L1++L2):=⟨v,vs,L1,L2,rfl,rfl,h,t⟩
def Reps.get:∀ {ds:List D} {vs:List V} {L:List Addr} {i:Nat} {d:D},Reps K H ds vs L->ds[i]?=some d->∃v L1,vs[i]?=some v/\Rep K H d v L1/\List.Sublist L1 L
 | [],_,_,_,_,_,e=>by simp at e
 | d::ds,_,_,0,_,hq5,e=>by
  obtain⟨v,vs',L1,L2,e1,e2,h1,h2⟩:=hq5;subst e1 e2;simp at e;subst e;exact⟨v,L1,rfl,h1,List.sublist_append_left _ _⟩
 | d::ds,_,_,i+1,d',hq5,e=>by
  obtain⟨v,vs',L1,L2,e1,e2,h1,h2⟩:=hq5;subst e1 e2;obtain⟨v',L',a,b,c⟩:=Reps.get (i:=i) (d:=d') h2 (by simpa using e);exact⟨v',L',by simpa using a,b,c.trans (pD _ _)⟩
def Reps.append:∀ {ds ds':List D} {vs vs':List V} {L L':List Addr},Reps K H ds vs L->Reps K H ds' vs' L'->Reps K H (ds++ds') (vs++vs') (L++L')
 | [],_,_,_,_,_,hq6,h=>by
  obtain⟨e1,e2⟩:=hq6;subst e1 e2;exact h
 | d::ds,_,_,_,_,_,hq6,h=>by
  obtain⟨v,vs',L1,L2,e1,e2,h1,h2⟩:=hq6;subst e1 e2;have:=Reps.cons h1 (Reps.append h2 h);rw[<-sF]at this;exact this
def Reps.take:∀ {ds:List D} {vs:List V} {L:List Addr} (n:Nat),Reps K H ds vs L->∃L',Reps K H (ds.take n) (vs.take n) L'/\List.Sublist L' L
 | _,_,_,0,_=>⟨[],by simpa using Reps.nil,pU _⟩
 | [],_,_,n+1,hq4=>by
  obtain⟨e1,e2⟩:=hq4;subst e1 e2;exact⟨[],by simpa using Reps.nil,pU _⟩
 | d::ds,_,_,n+1,hq4=>by
  obtain⟨v,vs',L1,L2,e1,e2,h1,h2⟩:=hq4;subst e1 e2;obtain⟨L',a,b⟩:=Reps.take n h2;exact⟨L1++L',by simpa using Reps.cons h1 a,List.Sublist.append (List.Sublist.refl _) b⟩
def Reps.drop:∀ {ds:List D} {vs:List V} {L:List Addr} (n:Nat),Reps K H ds vs L->∃L',Reps K H (ds.drop n) (vs.drop n) L'/\List.Sublist L' L
 | _,_,L,0,h=>⟨L,by simpa using h,List.Sublist.refl _⟩
 | [],_,_,n+1,hq4=>by
  obtain⟨e1,e2⟩:=hq4;subst e1 e2;exact⟨[],by simpa using Reps.nil,pU _⟩
 | d::ds,_,_,n+1,hq4=>by
  obtain⟨v,vs',L1,L2,e1,e2,h1,h2⟩:=hq4;subst e1 e2;obtain⟨L',a,b⟩:=Reps.drop n h2;exact⟨L',by simpa using a,b.trans (pD _ _)⟩
end
abbrev Tn:=List (Option D)
inductive Cl where
 | own | shr | brw | dead
 deriving DecidableEq
inductive Rc where
 | fresh | shr | bor
 deriving DecidableEq
structure EOk (K:jJa)(Γ:List Cl)(O:Addr->Prop)(H:Hp)(σ:St)(τ:Tn):Prop where
 dom:∀a,O a->H a≠none
 slot:∀(i:Nat) (c:Cl),Γ[i]?=some c->c≠.dead->∃v d L,σ[i]?=some (some v)/\τ[i]?=some (some d)/\Rep K H d v L/\(c=.shr->∀a∈L,¬O a)
def RcOk (c:Rc)(O:Addr->Prop)(H:Hp)(L:List Addr):Prop:=match c with
 | .fresh=>L.Nodup/\∀a∈L,H a=none
 | .shr=>∀a∈L,¬O a
 | .bor=>True
def post (K:jJa)(E:XK)(O:Addr->Prop)(c:Rc)(H:Hp)(Q:VK):R D->Prop
 | .ok d=>∀v H' L,Same H H'->Rep K H' d v L->RcOk c O H L->Q v H'
 | .err n=>∀C H',ErrC K n C->Same H H'->E (.ref C) none H'
 | .bad=>False
def postL (K:jJa)(E:XK)(O:Addr->Prop)(c:Rc)(H:Hp)(Q:List V->Hp->Prop):R (List D)->Prop
 | .ok ds=>∀vs H' L,Same H H'->Reps K H' ds vs L->RcOk c O H L->Q vs H'
 | .err n=>∀C H',ErrC K n C->Same H H'->E (.ref C) none H'
 | .bad=>False
def postB (K:jJa)(E:XK)(H:Hp)(Q:Bool->Hp->Prop):R Bool->Prop
 | .ok b=>∀H',Same H H'->Q b H'
 | .err n=>∀C H',ErrC K n C->Same H H'->E (.ref C) none H'
 | .bad=>False
section
variable {K:jJa}{Γ:List Cl}{O:Addr->Prop}{H H1:Hp}{σ:St}{τ:Tn}{E:XK}{c:Rc}{Q:VK}
def EOk.same (e:EOk K Γ O H σ τ)(s:Same H H1):EOk K Γ O H1 σ τ:=
 ⟨fun a h=>by rw[s.at (e.dom a h)];exact e.dom a h,fun i c h1 h2=>by
  obtain⟨v,d,L,a1,a2,a3,a4⟩:=e.slot i c h1 h2;exact⟨v,d,L,a1,a2,a3.same s,a4⟩⟩
def RcOk.same (h:RcOk c O H1 L)(s:Same H H1):RcOk c O H L:=by
 cases c with
 | fresh=>exact⟨h.1,fun a ha=>s.non (h.2 a ha)⟩
 | shr=>exact h
 | bor=>exact h
def RcOk.shr (dom:∀a,O a->H a≠none)(hc:c≠.bor)(h:RcOk c O H L):∀a∈L,¬O a:=by
 cases c with
 | fresh=>exact fun a ha ho=>dom a ho (h.2 a ha)
 | shr=>exact h
 | bor=>exact absurd rfl hc
def RcOk.nil:RcOk c O H []:=by
 cases c with
 | fresh=>exact⟨pE,fun a ha=>by cases ha⟩
 | shr=>exact fun a ha=>by cases ha
 | bor=>trivial
def post.same {r:R D}(h:post K E O c H Q r)(s:Same H H1):post K E O c H1 Q r:=by
 cases r with
 | ok d=>exact fun v H' L s' r' c'=>h v H' L (s.trans s') r' (c'.same s)
 | err n=>exact fun C H' e s'=>h C H' e (s.trans s')
 | bad=>exact h
def postL.same {Q:List V->Hp->Prop}{r:R (List D)}(h:postL K E O c H Q r)(s:Same H H1):postL K E O c H1 Q r:=by
 cases r with
 | ok d=>exact fun v H' L s' r' c'=>h v H' L (s.trans s') r' (c'.same s)
 | err n=>exact fun C H' e s'=>h C H' e (s.trans s')
 | bad=>exact h
def postB.same {Q:Bool->Hp->Prop}{r:R Bool}(h:postB K E H Q r)(s:Same H H1):postB K E H1 Q r:=by
 cases r with
 | ok d=>exact fun H' s'=>h H' (s.trans s')
 | err n=>exact fun C H' e s'=>h C H' e (s.trans s')
 | bad=>exact h
end
def ME (X:Cx)(E:XK)(Γ:List Cl)(e:Expr)(t:Tn->R D)(c:Rc):Prop:=
 ∃te,PE X e te/\∀O σ H τ Q,EOk X.K Γ O H σ τ->post X.K E O c H Q (t τ)->te σ H Q
def MA (X:Cx)(E:XK)(Γ:List Cl)(es:List Expr)(t:Tn->R (List D))(c:Rc):Prop:=
 (∀τ ds,t τ=.ok ds->ds.length=es.length)/\∃ta,PA X es ta/\∀O σ H τ Q,EOk X.K Γ O H σ τ->postL X.K E O c H Q (t τ)->ta σ H Q
def MT (X:Cx)(E:XK)(Γ:List Cl)(e:Expr)(t:Tn->R Bool):Prop:=
 ∃te,PT X e te/\∀O σ H τ Q,EOk X.K Γ O H σ τ->postB X.K E H Q (t τ)->te σ H Q
def MW (X:Cx)(E:XK)(Γ:List Cl)(e:Expr)(t:Tn->R Bool):Prop:=
 ∃te,PW X e te/\∀O σ H τ Q,EOk X.K Γ O H σ τ->postB X.K E H Q (t τ)->te σ H Q
def MW.mt {t:Tn->R Bool}(h:MW X E Γ e t):MT X E Γ e t:=by
 obtain⟨te,p,q⟩:=h;exact⟨te,p.pt,q⟩
def Rc.of:Cl->Rc
 | .shr=>.shr
 | _=>.bor
def Rc.both:Rc->Rc->Rc
 | .fresh,.fresh=>.fresh
 | .bor,_=>.bor
 | _,.bor=>.bor
 | _,_=>.shr
def za (i:Nat):Tn->R D:=fun τ=>match τ[i]? with
 | some (some d)=>.ok d
 | _=>.bad
def eC (d:D):Tn->R D:=fun _=>.ok d
def qm (t:Tn->R D):Tn->R D:=fun τ=>(t τ).bind fun d=>if d.imm=true then .ok d else .bad
def ze (g:D->D->R D)(a b:Tn->R D):Tn->R D:=fun τ=>(a τ).bind fun x=>(b τ).bind fun y=>g x y
def eUn (g:D->R D)(a:Tn->R D):Tn->R D:=fun τ=>(a τ).bind g
def zb:Tn->R (List D):=fun _=>.ok []
def z8 (a:Tn->R D)(b:Tn->R (List D)):Tn->R (List D):=fun τ=>(a τ).bind fun x=>(b τ).bind fun xs=>.ok (x::xs)
def eL (g:List D->R D)(a:Tn->R (List D)):Tn->R D:=fun τ=>(a τ).bind g
def asB:D->R Bool
 | .bl b=>.ok b
 | _=>.bad
def zi (a:Tn->R D):Tn->R Bool:=fun τ=>(a τ).bind asB
def wo (a b:Tn->R Bool):Tn->R Bool:=fun τ=>(a τ).bind fun x=>if x=true then b τ else .ok false
def bOr (a b:Tn->R Bool):Tn->R Bool:=fun τ=>(a τ).bind fun x=>if x=true then .ok true else b τ
def yh (a:Tn->R Bool):Tn->R Bool:=fun τ=>(a τ).bind fun x=>.ok (!x)
def vT (a b:Tn->R D):Tn->R D:=fun τ=>(a τ).bind fun x=>(asB x).bind fun k=>if k=true then b τ else .ok (.bl false)
def w8 (g g':D->D->R D)(a b c:Tn->R D):Tn->R D:=fun τ=>(a τ).bind fun x=>(b τ).bind fun y=>(g x y).bind fun z=>(asB z).bind fun k=>if k=true then (c τ).bind fun w=>g' y w else .ok (.bl false)
section
variable {X:Cx}{E:XK}{Γ:List Cl}{e a b:Expr}{t ta tb tc:Tn->R D}{c ca cb:Rc}{pos:Pos}
def z1G {i:Nat}(hN:X.N[i]?=some x)(hk:Γ[i]?=some k)(hd:k≠.dead)(hv:Vis X.env.scope x)(hb:autoParam ((x==("__debug__":Str))=false) au1._auto_1)(hcd:autoParam ((x==("__classdict__":Str))=false) au1._auto_1):
  ME X E Γ (.Name x pos) (za i) (Rc.of k):=by
 refine⟨z1t i,ja hN hv hb hcd,fun O σ H τ Q ok h=>?_⟩;obtain⟨v,d,L,e1,e2,e3,e4⟩:=ok.slot i k hk hd;unfold za at h;rw[e2]at h;refine⟨v,e1,h v H L (Same.refl H) e3 ?_⟩;cases k with
 | shr=>exact e4 rfl
 | own=>trivial
 | brw=>trivial
 | dead=>trivial
def J5 (hp:PE X e (tC v))(hr:∀H,Rep X.K H d v []):ME X E Γ e (eC d) .fresh:=
 ⟨tC v,hp,fun O σ H τ Q ok h=>h v H [] (Same.refl H) (hr H) RcOk.nil⟩
def zg {i:Int}{j}:ME X E Γ (.Constant (.int i) j pos) (eC (.int i)) .fresh:=J5 U8 fun _=>⟨rfl,rfl⟩
def wG {i:Bool}{j}:ME X E Γ (.Constant (.bool i) j pos) (eC (.bl i)) .fresh:=J5 JC fun _=>⟨rfl,rfl⟩
def qB {j}:ME X E Γ (.Constant .none j pos) (eC .non) .fresh:=J5 z3H fun _=>⟨rfl,rfl⟩
def zk {j}:ME X E Γ (.Constant (.str x) j pos) (eC (.str x)) .fresh:=J5 z4C fun _=>⟨rfl,rfl⟩
def vV (h:ME X E Γ e t c):ME X E Γ e (qm t) .fresh:=by
 obtain⟨te,p,q⟩:=h;refine⟨te,p,fun O σ H τ Q ok h=>q O σ H τ Q ok ?_⟩;unfold qm at h;cases ht:t τ with
 | ok d =>
  rw[ht]at h;refine fun v H' L s r k=>?_;rw[jYa]at h
  by_cases hi:d.imm=true
  ·rw[if_pos hi]at h;have:=Rep.imm d v L r hi;subst this;exact h v H' [] s r RcOk.nil
  ·rw[if_neg hi]at h;exact h.elim
 | err n=>rw[ht]at h;exact h
 | bad=>rw[ht]at h;exact h
def post.bind {K:jJa}{O:Addr->Prop}{H:Hp}{Q Q':VK}{r:R D}{f:D->R D}(h:post K E O c H Q (r.bind f))(hf:∀d,r=.ok d->post K E O c H Q (f d)->∀v H' L,Same H H'->Rep K H' d v L->RcOk ca O H L->Q' v H'):post K E O ca H Q' r:=by
 cases r with
 | ok d=>exact hf d rfl h
 | err n=>exact h
 | bad=>exact h
def zc:MA X E Γ [] zb .fresh:=⟨fun τ ds h=>by cases h;rfl,z5y,vY,fun O σ H τ Q ok h=>h [] H [] (Same.refl H) Reps.nil RcOk.nil⟩
def RcOk.append {K:jJa}{O:Addr->Prop}{H H1:Hp}{d:D}{v:V}{L1 L2:List Addr}(dom:∀a,O a->H a≠none)(s:Same H H1)(r:Rep K H1 d v L1)(h1:RcOk ca O H L1)(h2:RcOk cb O H1 L2):RcOk (Rc.both ca cb) O H (L1++L2):=by
 have dom1:∀a,O a->H1 a≠none:=fun a h=>by rw[s.at (dom a h)];exact dom a h
 by_cases hf:ca=.fresh/\cb=.fresh
 ·obtain⟨rfl,rfl⟩:=hf;refine⟨sQ.mpr ⟨h1.1,h2.1,fun a ha b hb z=>?_⟩,fun a ha=>?_⟩
  ·subst z;exact r.there ha (h2.2 a hb)
  ·rcases sC.mp ha with z|z
   ·exact h1.2 a z
   ·exact s.non (h2.2 a z)
 ·have key:ca≠.bor->cb≠.bor->∀a∈L1++L2,¬O a:=fun n1 n2 a ha=>by
   rcases sC.mp ha with z|z
   ·exact h1.shr dom n1 a z
   ·exact h2.shr dom1 n2 a z
  cases ca<;>cases cb<;>first|exact absurd ⟨rfl,rfl⟩ hf|trivial|exact key (by simp) (by simp)
def z9 (h:ME X E Γ e t ca)(r:MA X E Γ es u cb)(hs:autoParam (starEach (e::es) X.env=(false,eval e X.env)::starEach es X.env) au3._auto_1):MA X E Γ (e::es) (z8 t u) (Rc.both ca cb):=by
 obtain⟨te,p1,q1⟩:=h;obtain⟨hl,ta,p2,q2⟩:=r;refine⟨fun τ ds h=>?_,z0y te ta,yG p1 p2 hs,fun O σ H τ Q ok h=>?_⟩
 ·unfold z8 at h;cases h1:t τ with
  | ok d =>
   rw[h1,jYa]at h;cases h2:u τ with
   | ok xs =>
    rw[h2,jYa]at h;cases h;rw[tF,tF,hl τ xs h2]
   | err n=>rw[h2]at h;cases h
   | bad=>rw[h2]at h;cases h
  | err n=>rw[h1]at h;cases h
  | bad=>rw[h1]at h;cases h
 ·unfold z8 at h;refine q1 O σ H τ _ ok ?_;cases h1:t τ with
  | ok d =>
   rw[h1,jYa]at h;refine fun v H1 L1 s1 r1 k1=>q2 O σ H1 τ _ (ok.same s1) ?_;cases h2:u τ with
   | ok xs =>
    rw[h2,jYa]at h;exact fun vs H2 L2 s2 r2 k2=>h (v::vs) H2 (L1++L2) (s1.trans s2) (Reps.cons (r1.same s2) r2) (RcOk.append ok.dom s1 r1 k1 k2)
   | err n=>rw[h2]at h;exact fun C H' e s'=>h C H' e (s1.trans s')
   | bad=>rw[h2]at h;exact h
  | err n=>rw[h1]at h;exact h
  | bad=>rw[h1]at h;exact h
def zF {x1}(h:MA X E Γ es u c)(hz:autoParam (es.length<=1000) au1._auto_1):ME X E Γ (.Tuple es x1 pos) (eL (fun ds=>.ok (.tup ds)) u) c:=by
 obtain⟨hl,ta,p,q⟩:=h;refine⟨z4I ta,Uj p,fun O σ H τ Q ok h=>q O σ H τ _ ok ?_⟩;unfold eL at h;have hs:sizeLine=16777216:=sizeLine_eq;cases hu:u τ with
 | ok ds =>
  rw[hu,jYa]at h;refine fun vs H1 L s r k=>⟨by rw[r.length,hl τ ds hu];lia,fun p hp=>?_⟩
  refine h _ _ L (s.trans (Same.new hp)) ⟨p,vs,rfl,SqT.of zT,r.same (Same.new hp)⟩ k
 | err n=>rw[hu]at h;exact h
 | bad=>rw[hu]at h;exact h
def yq (h:MA X E Γ es u c)(hz:autoParam (es.length<=1000) au1._auto_1):ME X E Γ (.List es pos) (eL (fun ds=>.ok (.lst ds)) u) c:=by
 obtain⟨hl,ta,p,q⟩:=h;refine⟨z5k ta,z47 p,fun O σ H τ Q ok h=>q O σ H τ _ ok ?_⟩;unfold eL at h;have hs:sizeLine=16777216:=sizeLine_eq;cases hu:u τ with
 | ok ds =>
  rw[hu,jYa]at h;refine fun vs H1 L s r k=>⟨by rw[r.length,hl τ ds hu];lia,fun p hp=>?_⟩
  refine h _ _ (p::L) (s.trans (Same.new hp)) ⟨p,vs,L,rfl,zT,rfl,r.same (Same.new hp)⟩ ?_;have np:H p=none:=s.non hp;cases c with
  | fresh =>
   refine⟨rC.mpr ⟨fun z=>r.there z hp,k.1⟩,fun a ha=>?_⟩;rcases sI.mp ha with z|z
   ·rw[z];exact np
   ·exact k.2 a z
  | shr =>
   intro a ha;rcases sI.mp ha with z|z
   ·rw[z];exact fun o=>ok.dom p o np
   ·exact k a z
  | bor=>trivial
 | err n=>rw[hu]at h;exact h
 | bad=>rw[hu]at h;exact h
def xh (h:ME X E Γ e t c)(he:autoParam (∀whole,isTrue e X.env whole=(do let v <-whole;standAt e.pos;holding [v] (truthy v))) au2._auto_1):MT X E Γ e (zi t):=by
 obtain⟨te,p,q⟩:=h;refine⟨tB te,UA p he,fun O σ H τ Q ok h=>q O σ H τ _ ok ?_⟩;unfold zi at h;cases ht:t τ with
 | ok d =>
  rw[ht,jYa]at h;refine fun v H' L s r _=>?_;cases d with
  | bl k=>exact⟨k,r.1,h H' s⟩
  | _=>exact h.elim
 | err n=>rw[ht]at h;exact h
 | bad=>rw[ht]at h;exact h
variable {u v:Tn->R Bool}{rest:List Expr}
def yR (h:MT X E Γ a u):MT X E Γ (.UnaryOp .Not a pos) (yh u):=by
 obtain⟨te,p,q⟩:=h;refine⟨z5N te,z3e p,fun O σ H τ Q ok h=>q O σ H τ _ ok ?_⟩;unfold yh at h;cases ht:u τ with
 | ok d=>rw[ht,jYa]at h;exact h
 | err n=>rw[ht]at h;exact h
 | bad=>rw[ht]at h;exact h
def vH (h:MT X E Γ a u):MW X E Γ (.BoolOp .And [a] pos) u:=by
 obtain⟨te,p,q⟩:=h;exact⟨te,z1P p,q⟩
def vk (h:MT X E Γ a u):MW X E Γ (.BoolOp .Or [a] pos) u:=by
 obtain⟨te,p,q⟩:=h;exact⟨te,z3c p,q⟩
def uU (h:MT X E Γ a u)(r:MW X E Γ (.BoolOp .And (b::rest) pos) v):MW X E Γ (.BoolOp .And (a::b::rest) pos) (wo u v):=by
 obtain⟨te,p,q⟩:=h;obtain⟨te',p',q'⟩:=r;refine⟨z4X te te',z3A p p',fun O σ H τ Q ok h=>q O σ H τ _ ok ?_⟩;unfold wo at h;cases ht:u τ with
 | ok d =>
  rw[ht,jYa]at h;refine fun H1 s1=>?_;cases d with
  | true=>rw[if_pos rfl]at h ⊢;exact q' O σ H1 τ Q (ok.same s1) (h.same s1)
  | false=>rw[if_neg sJ]at h ⊢;exact h H1 s1
 | err n=>rw[ht]at h;exact h
 | bad=>rw[ht]at h;exact h
def vO (h:MT X E Γ a u)(r:MW X E Γ (.BoolOp .Or (b::rest) pos) v):MW X E Γ (.BoolOp .Or (a::b::rest) pos) (bOr u v):=by
 obtain⟨te,p,q⟩:=h;obtain⟨te',p',q'⟩:=r;refine⟨tOr te te',z5B p p',fun O σ H τ Q ok h=>q O σ H τ _ ok ?_⟩;unfold bOr at h;cases ht:u τ with
 | ok d =>
  rw[ht,jYa]at h;refine fun H1 s1=>?_;cases d with
  | true=>rw[if_pos rfl]at h ⊢;exact h H1 s1
  | false=>rw[if_neg sJ]at h ⊢;exact q' O σ H1 τ Q (ok.same s1) (h.same s1)
 | err n=>rw[ht]at h;exact h
 | bad=>rw[ht]at h;exact h
def Zl {op}(h:ME X E Γ a t c):ME X E Γ (.BoolOp op [a] pos) t c:=by
 obtain⟨te,p,q⟩:=h;exact⟨te,Kk p,q⟩
def VI {K:jJa}{O:Addr->Prop}{H:Hp}{Q:VK}{d:D}{f:Bool->R D}(h:post K E O c H Q ((asB d).bind f)){v:V}{H':Hp}{L:List Addr}(r:Rep K H' d v L):∃k,v=.bl k/\d=.bl k/\post K E O c H Q (f k):=by
 cases d with
 | bl k=>exact⟨k,r.1,rfl,h⟩
 | _=>exact h.elim
def j8 (ha:ME X E Γ a ta ca)(hb:ME X E Γ (.BoolOp .And (b::rest) pos) tb c):ME X E Γ (.BoolOp .And (a::b::rest) pos) (vT ta tb) c:=by
 obtain⟨te,p,q⟩:=ha;obtain⟨te',p',q'⟩:=hb;refine⟨z2U te te',z0p p p',fun O σ H τ Q ok h=>q O σ H τ _ ok (post.bind h fun d _ h v H1 L s r _=>?_)⟩;obtain⟨k,e1,e2,h⟩:=VI h r;refine⟨k,e1,?_⟩;cases k with
 | true=>rw[if_pos rfl]at h ⊢;exact q' O σ H1 τ Q (ok.same s) (h.same s)
 | false=>rw[if_neg sJ]at h ⊢;exact h _ H1 [] s ⟨rfl,rfl⟩ RcOk.nil
def OpB (K:jJa)(r:R2)(g:D->D->R D):Prop:=
 ∀H x y dx dy Lx Ly (Q:VK),Rep K H dx x Lx->Rep K H dy y Ly->(∃d,g dx dy=.ok d/\∀v H' L,Same H H'->Rep K H' d v L->L.Nodup->(∀a∈L,H a=none)->Q v H')->r x y H Q
def wH (g:D->D->R D):Prop:=∀x y n,g x y≠.err n
def Ui {r:R2}{g:D->D->R D}{te te':TE}(hB:OpB X.K r g)(hn:wH g)(q:∀O σ H τ Q,EOk X.K Γ O H σ τ->post X.K E O ca H Q (ta τ)->te σ H Q)(q':∀O σ H τ Q,EOk X.K Γ O H σ τ->post X.K E O cb H Q (tb τ)->te' σ H Q)
  {O:Addr->Prop} {σ:St} {H:Hp} {τ:Tn} {Q:VK} (ok:EOk X.K Γ O H σ τ) (h:post X.K E O .fresh H Q (ze g ta tb τ)):tOp r te te' σ H Q:=by
 unfold ze at h;refine q O σ H τ _ ok (post.bind h fun dx _ h x H1 Lx s1 rx _=>q' O σ H1 τ _ (ok.same s1) (post.bind (h.same s1) fun dy _ h y H2 Ly s2 ry _=>?_));cases hg:g dx dy with
 | ok d =>
  rw[hg]at h;exact hB H2 x y dx dy Lx Ly Q (rx.same s2) ry ⟨d,hg,fun v H' L s r n1 n2=>h v H' L (s2.trans s) r ⟨n1,fun a ha=>s2.non (n2 a ha)⟩⟩
 | err n=>exact absurd hg (hn _ _ _)
 | bad=>rw[hg]at h;exact h.elim
def zo {op:Operator}{r:R2}{g:D->D->R D}(ho:OpR X (binaryOp op) r)(hB:OpB X.K r g)(hn:wH g)(ha:ME X E Γ a ta ca)(hb:ME X E Γ b tb cb):ME X E Γ (.BinOp a op b pos) (ze g ta tb) .fresh:=by
 obtain⟨te,p,q⟩:=ha;obtain⟨te',p',q'⟩:=hb;exact⟨_,z6l ho p p',fun O σ H τ Q ok h=>Ui hB hn q q' ok h⟩
def qH {op:CmpOp}{r:R2}{g:D->D->R D}(ho:OpR X (compareOp op) r)(hB:OpB X.K r g)(hn:wH g)(ha:ME X E Γ a ta ca)(hb:ME X E Γ b tb cb)(hm:behindInMarks op b=false):ME X E Γ (.Compare a [op] [b] pos) (ze g ta tb) .fresh:=by
 obtain⟨te,p,q⟩:=ha;obtain⟨te',p',q'⟩:=hb;exact⟨_,z19 ho p p' hm,fun O σ H τ Q ok h=>Ui hB hn q q' ok h⟩
def X6 {K:jJa}{O:Addr->Prop}{H:Hp}{Q:Bool->Hp->Prop}{r:R D}(h:postB K E H Q (r.bind asB)):post K E O c H (fun x H'=>∃k,x=.bl k/\Q k H') r:=by
 cases r with
 | ok d =>
  refine fun v H' L s r _=>?_;cases d with
  | bl k=>exact⟨k,r.1,h H' s⟩
  | _=>exact h.elim
 | err n=>exact h
 | bad=>exact h
def zD {op:CmpOp}{r:R2}{g:D->D->R D}(ho:OpR X (compareOp op) r)(hB:OpB X.K r g)(hn:wH g)(ha:ME X E Γ a ta ca)(hb:ME X E Γ b tb cb)(hm:behindInMarks op b=false):MT X E Γ (.Compare a [op] [b] pos) (zi (ze g ta tb)):=by
 obtain⟨te,p,q⟩:=ha;obtain⟨te',p',q'⟩:=hb;exact⟨_,z1A ho p p' hm,fun O σ H τ Q ok h=>Ui (O:=O) hB hn q q' ok (X6 h)⟩
def JK {c':Expr}{cc:Rc}{r r':R2}{g g':D->D->R D}{te te' te2:TE}(hB:OpB X.K r g)(hn:wH g)(hB':OpB X.K r' g')(hn':wH g')(q:∀O σ H τ Q,EOk X.K Γ O H σ τ->post X.K E O ca H Q (ta τ)->te σ H Q)(q':∀O σ H τ Q,EOk X.K Γ O H σ τ->post X.K E O cb H Q (tb τ)->te' σ H Q)
  (q2:∀O σ H τ Q,EOk X.K Γ O H σ τ->post X.K E O cc H Q (tc τ)->te2 σ H Q) {O:Addr->Prop} {σ:St} {H:Hp} {τ:Tn} {Q:VK} (ok:EOk X.K Γ O H σ τ) (h:post X.K E O .fresh H Q (w8 g g' ta tb tc τ)):z0R r r' te te' te2 σ H Q:=by
 unfold w8 at h;refine q O σ H τ _ ok (post.bind h fun dx _ h x H1 Lx s1 rx _=>q' O σ H1 τ _ (ok.same s1) (post.bind (h.same s1) fun dy _ h y H2 Ly s2 ry _=>?_));cases hg:g dx dy with
 | ok d =>
  rw[hg,jYa]at h;refine hB H2 x y dx dy Lx Ly _ (rx.same s2) ry ⟨d,hg,fun z H3 L s3 r3 n1 n2=>?_⟩;obtain⟨k,e1,e2,h⟩:=VI (h.same s2) r3;refine⟨k,e1,?_⟩;cases k with
  | true =>
   rw[if_pos rfl]at h ⊢;have ok3:=((ok.same s1).same s2).same s3;refine q2 O σ H3 τ _ ok3 (post.bind (h.same s3) fun dw _ h w H4 Lw s4 rw4 _=>?_);cases hg':g' dy dw with
   | ok d' =>
    rw[hg']at h;exact hB' H4 y w dy dw Ly Lw Q ((ry.same s3).same s4) rw4 ⟨d',hg',fun v H' L s r n1 n2=>h v H' L (s4.trans s) r ⟨n1,fun a ha=>s4.non (n2 a ha)⟩⟩
   | err n=>exact absurd hg' (hn' _ _ _)
   | bad=>rw[hg']at h;exact h.elim
  | false=>rw[if_neg sJ]at h ⊢;exact h _ H3 [] s3 ⟨rfl,rfl⟩ RcOk.nil
 | err n=>exact absurd hg (hn _ _ _)
 | bad=>rw[hg]at h;exact h.elim
def ux {op op':CmpOp}{c':Expr}{cc:Rc}{r r':R2}{g g':D->D->R D}(ho:OpR X (compareOp op) r)(hB:OpB X.K r g)(hn:wH g)(ho':OpR X (compareOp op') r')(hB':OpB X.K r' g')(hn':wH g')
  (ha:ME X E Γ a ta ca) (hb:ME X E Γ b tb cb) (hc:ME X E Γ c' tc cc) (hm:autoParam (lastMarks [op,op'] [b,c']=false) au4._auto_1):MT X E Γ (.Compare a [op,op'] [b,c'] pos) (zi (w8 g g' ta tb tc)):=by
 obtain⟨te,p,q⟩:=ha;obtain⟨te',p',q'⟩:=hb;obtain⟨te2,p2,q2⟩:=hc;exact⟨_,Kp ho ho' p p' p2 hm,fun O σ H τ Q ok h=>JK (c':=c') (O:=O) hB hn hB' hn' q q' q2 ok (X6 h)⟩
def ClB (K:jJa)(r:List V->Hp->VK->Prop)(g:List D->R D):Prop:=
 ∀H xs ds L (Q:VK),Reps K H ds xs L->(∃d,g ds=.ok d/\∀v H' L',Same H H'->Rep K H' d v L'->L'.Nodup->(∀a∈L',H a=none)->Q v H')->r xs H Q
def we (g:List D->R D):Prop:=∀ds n,g ds≠.err n
variable {uL:Tn->R (List D)}{es:List Expr}
def z2W {r:List V->Hp->VK->Prop}{g:List D->R D}{ta':TA}(hB:ClB X.K r g)(hn:we g)(q:∀O σ H τ Q,EOk X.K Γ O H σ τ->postL X.K E O ca H Q (uL τ)->ta' σ H Q)
  {O:Addr->Prop} {σ:St} {H:Hp} {τ:Tn} {Q:VK} (ok:EOk X.K Γ O H σ τ) (h:post X.K E O .fresh H Q (eL g uL τ)):tCB r ta' σ H Q:=by
 refine q O σ H τ _ ok ?_;unfold eL at h;cases hu:uL τ with
 | ok ds =>
  rw[hu,jYa]at h;refine fun vs H1 L s1 r1 _=>?_;cases hg:g ds with
  | ok d =>
   rw[hg]at h;exact hB H1 vs ds L Q r1 ⟨d,hg,fun v H' L s r n1 n2=>h v H' L (s1.trans s) r ⟨n1,fun a ha=>s1.non (n2 a ha)⟩⟩
  | err n=>exact absurd hg (hn _ _)
  | bad=>rw[hg]at h;exact h.elim
 | err n=>rw[hu]at h;exact h
 | bad=>rw[hu]at h;exact h
variable {x:Str}{id T:String}{p:Pos}
def zB {r:List V->Hp->VK->Prop}{g:List D->R D}(hc:CallR X (.builtin id) r)(hB:ClB X.K r g)(hn:we g)(hg:Gl X x)(hm:X.mg x=none)(hv:bootBuiltins x=some (.builtin id))(ha:MA X E Γ (e::es) uL ca)(hx:autoParam (x≠"__name__") au1._auto_1)(hdb:autoParam ((x==("__debug__":Str))=false) au1._auto_1)
  (he:autoParam (starEach (e::es) X.env=(false,eval e X.env)::starEach es X.env) au3._auto_1) (hpl:autoParam ((backTo pos (starEach es X.env)).any (·.1)=false) au3._auto_1):ME X E Γ (.Call (.Name x p) (e::es) [] pos) (eL g uL) .fresh:=by
 obtain⟨_,ta',p',q⟩:=ha;exact⟨_,uE hc hg hm hv p' hx hdb he hpl,fun O σ H τ Q ok h=>z2W hB hn q ok h⟩
def yN {r:List V->Hp->VK->Prop}{g:List D->R D}(hc:CallR X (.type T) r)(hB:ClB X.K r g)(hn:we g)(hg:Gl X x)(hm:X.mg x=none)(hv:bootBuiltins x=some (.type T))(ha:MA X E Γ (e::es) uL ca)(hx:autoParam (x≠"__name__") au1._auto_1)(hdb:autoParam ((x==("__debug__":Str))=false) au1._auto_1)
  (he:autoParam (starEach (e::es) X.env=(false,eval e X.env)::starEach es X.env) au3._auto_1) (hpl:autoParam ((backTo pos (starEach es X.env)).any (·.1)=false) au3._auto_1):ME X E Γ (.Call (.Name x p) (e::es) [] pos) (eL g uL) .fresh:=by
 obtain⟨_,ta',p',q⟩:=ha;exact⟨_,Jo hc hg hm hv p' hx hdb he hpl,fun O σ H τ Q ok h=>z2W hB hn q ok h⟩
end
def wpE (K:jJa)(E:XK)(Γ:List Cl)(t:Tn->R D)(c:Rc):TE:=fun σ H Q=>∃O τ,EOk K Γ O H σ τ/\post K E O c H Q (t τ)
def wpT (K:jJa)(E:XK)(Γ:List Cl)(t:Tn->R Bool):TT:=fun σ H Q=>∃O τ,EOk K Γ O H σ τ/\postB K E H Q (t τ)
def ME.pe (h:ME X E Γ e t c):PE X e (wpE X.K E Γ t c):=by
 obtain⟨te,p,q⟩:=h;rintro pins s σ H Q I ⟨O,τ,ok,z⟩;exact p pins s σ H Q I (q O σ H τ Q ok z)
def MT.pt {t:Tn->R Bool}(h:MT X E Γ e t):PT X e (wpT X.K E Γ t):=by
 obtain⟨te,p,q⟩:=h;rintro pins s σ H Q I ⟨O,τ,ok,z⟩;exact p pins s σ H Q I (q O σ H τ Q ok z)
structure SOk (K:jJa)(Γ:List Cl)(B H:Hp)(σ:St)(τ:Tn)(T:List Addr):Prop where
 ext:Same B H
 lσ:σ.length=Γ.length
 lτ:τ.length=Γ.length
 ex:∃Ls:Nat->List Addr,
  (∀i c,Γ[i]?=some c->c≠.dead->∃v d,σ[i]?=some (some v)/\τ[i]?=some (some d)/\Rep K H d v (Ls i)) /\
  (∀i,Γ[i]?=some .own->(Ls i).Nodup/\∀a∈Ls i,B a=none) /\
  (∀i j c,i≠j->Γ[i]?=some .own->Γ[j]?=some c->c≠.dead->∀a∈Ls i,a∉Ls j) /\
  T.Nodup/\(∀a∈T,B a=none/\H a≠none)/\(∀i c,Γ[i]?=some c->c≠.dead->∀a∈Ls i,a∉T)
inductive Fl where
 | nx (τ:Tn) | rt (d:D) | bk (τ:Tn) | ct (τ:Tn)
def z5Q (K:jJa)(E:XK)(B:Hp)(Γ':List Cl)(σ:St)(τ:Tn)(T:List Addr)(H:Hp)(Q:VK):R D->Prop
 | .ok d=>∀v H' L,Same H H'->Rep K H' d v L->SOk K Γ' B H' σ τ (L++T)->Q v H'
 | .err n=>∀C H',ErrC K n C->Same B H'->E (.ref C) none H'
 | .bad=>False
def qq (K:jJa)(E:XK)(B:Hp)(Γl Γ':List Cl)(Z:Ends):R Fl->Prop
 | .ok (.nx τ')=>∀σ' H',SOk K Γ' B H' σ' τ' []->Z.nx σ' H'
 | .ok (.rt d)=>∀v H' L,Same B H'->Rep K H' d v L->L.Nodup->(∀a∈L,B a=none)->Z.rt v H'
 | .ok (.bk τ')=>∀σ' H',SOk K Γl B H' σ' τ' []->Z.bk σ' H'
 | .ok (.ct τ')=>∀σ' H',SOk K Γl B H' σ' τ' []->Z.ct σ' H'
 | .err n=>∀C H',ErrC K n C->Same B H'->E (.ref C) none H'
 | .bad=>False
def MV (X:Cx)(E:XK)(Γ:List Cl)(e:Expr)(t:Tn->R D)(Γ':List Cl):Prop:=
 ∃te,PE X e te/\∀B σ H τ T Q,SOk X.K Γ B H σ τ T->z5Q X.K E B Γ' σ τ T H Q (t τ)->te σ H Q
def MS (X:Cx)(E:XK)(Γl Γ:List Cl)(s:Stmt)(t:Tn->R Fl)(Γ':List Cl):Prop:=
 ∃ts,PS X s ts/\∀B σ H τ Z,SOk X.K Γ B H σ τ []->qq X.K E B Γl Γ' Z (t τ)->ts Z σ H
def MSs (X:Cx)(E:XK)(Γl Γ:List Cl)(s:List Stmt)(t:Tn->R Fl)(Γ':List Cl):Prop:=
 ∃ts,PSs X s ts/\∀B σ H τ Z,SOk X.K Γ B H σ τ []->qq X.K E B Γl Γ' Z (t τ)->ts Z σ H
section
variable {K:jJa}{Γ Γ':List Cl}{B H H1:Hp}{σ:St}{τ:Tn}{T:List Addr}
def SOk.eok (h:SOk K Γ B H σ τ T):∃O:Addr->Prop,EOk K Γ O H σ τ/\(∀L:List Addr,(∀a∈L,¬O a)->∃Ls:Nat->List Addr,
  (∀i c,Γ[i]?=some c->c≠.dead->∃v d,σ[i]?=some (some v)/\τ[i]?=some (some d)/\Rep K H d v (Ls i)) /\
  (∀i,Γ[i]?=some .own->(Ls i).Nodup/\∀a∈Ls i,B a=none) /\
  (∀i j c,i≠j->Γ[i]?=some .own->Γ[j]?=some c->c≠.dead->∀a∈Ls i,a∉Ls j) /\
  T.Nodup/\(∀a∈T,B a=none/\H a≠none)/\(∀i c,Γ[i]?=some c->c≠.dead->∀a∈Ls i,a∉T)/\∀i,Γ[i]?=some .own->∀a∈Ls i,a∉L):=by
 obtain⟨Ls,h1,h2,h3,h4,h5,h6⟩:=h.ex;refine⟨fun a=>∃i,Γ[i]?=some .own/\a∈Ls i,⟨fun a ⟨i,e,ha⟩=>?_,fun i c e hc=>?_⟩,fun L hL=>⟨Ls,h1,h2,h3,h4,h5,h6,fun i e a ha hm=>hL a hm ⟨i,e,ha⟩⟩⟩
 ·obtain⟨v,d,_,_,r⟩:=h1 i _ e (by simp);exact r.there ha
 ·obtain⟨v,d,e1,e2,r⟩:=h1 i c e hc;refine⟨v,d,Ls i,e1,e2,r,fun z a ha ⟨j,ej,hj⟩=>?_⟩;subst z;have hij:j≠i:=fun z=>by subst z;rw[e]at ej;cases ej
  exact h3 j i _ hij ej e (by simp) a hj ha
def SOk.same (h:SOk K Γ B H σ τ T)(s:Same H H1):SOk K Γ B H1 σ τ T:=by
 obtain⟨Ls,h1,h2,h3,h4,h5,h6⟩:=h.ex;refine⟨h.ext.trans s,h.lσ,h.lτ,Ls,fun i c e hc=>?_,h2,h3,h4,fun a ha=>⟨(h5 a ha).1,by rw[s.at (h5 a ha).2];exact (h5 a ha).2⟩,h6⟩;obtain⟨v,d,e1,e2,r⟩:=h1 i c e hc;exact⟨v,d,e1,e2,r.same s⟩
def SOk.aside {L:List Addr}(h:SOk K Γ B H σ τ T)(s:Same H H1)(r:∀a∈L,H1 a≠none)(n1:L.Nodup)(n2:∀a∈L,H a=none):SOk K Γ B H1 σ τ (L++T):=by
 obtain⟨Ls,h1,h2,h3,h4,h5,h6⟩:=h.ex;refine⟨h.ext.trans s,h.lσ,h.lτ,Ls,fun i c e hc=>?_,h2,h3,sQ.mpr ⟨n1,h4,fun a ha b hb z=>?_⟩,fun a ha=>?_,fun i c e hc a ha hm=>?_⟩
 ·obtain⟨v,d,e1,e2,r⟩:=h1 i c e hc;exact⟨v,d,e1,e2,r.same s⟩
 ·subst z;exact (h5 a hb).2 (n2 a ha)
 ·rcases sC.mp ha with z|z
  ·exact⟨h.ext.non (n2 a z),r a z⟩
  ·exact⟨(h5 a z).1,by rw[s.at (h5 a z).2];exact (h5 a z).2⟩
 ·obtain⟨v,d,e1,e2,r'⟩:=h1 i c e hc;rcases sC.mp hm with z|z
  ·exact r'.there ha (n2 a z)
  ·exact h6 i c e hc a ha z
def wk1:Cl->Cl->Bool
 | _,.dead=>true
 | .own,.own=>true
 | .own,.shr=>true
 | .shr,.shr=>true
 | _,_=>false
def wk:List Cl->List Cl->Bool
 | [],[]=>true
 | a::r,b::q=>wk1 a b&&wk r q
 | _,_=>false
def VS:∀ {Γ Γ':List Cl},wk Γ Γ'=true->Γ.length=Γ'.length
 | [],[],_=>rfl
 | a::r,b::q,h=>by
  have h:(wk1 a b&&wk r q)=true:=h;rw[sY]at h;rw[tF,tF,VS h.2]
def z2V:∀ {Γ Γ':List Cl} {i:Nat} {c:Cl},wk Γ Γ'=true->Γ'[i]?=some c->∃k,Γ[i]?=some k/\wk1 k c=true
 | [],[],_,_,_,e=>by simp at e
 | a::r,b::q,0,c,h,e=>by
  have h:(wk1 a b&&wk r q)=true:=h;rw[sY]at h;simp at e;subst e;exact⟨a,rfl,h.1⟩
 | a::r,b::q,i+1,c,h,e=>by
  have h:(wk1 a b&&wk r q)=true:=h;rw[sY]at h;obtain⟨k,h1,h2⟩:=z2V (i:=i) (c:=c) h.2 (by simpa using e);exact⟨k,by simpa using h1,h2⟩
def SOk.weak (h:SOk K Γ B H σ τ T)(w:wk Γ Γ'=true):SOk K Γ' B H σ τ T:=by
 obtain⟨Ls,h1,h2,h3,h4,h5,h6⟩:=h.ex;have live:∀(i:Nat) (c:Cl),Γ'[i]?=some c->c≠Cl.dead->∃k,Γ[i]?=some k/\k≠Cl.dead/\(c=Cl.own->k=Cl.own):=fun i c e hc=>by
  obtain⟨k,e',w'⟩:=z2V w e;refine⟨k,e',fun z=>?_,fun z=>?_⟩
  ·subst z;cases c<;>first|exact absurd rfl hc|cases w'
  ·subst z;cases k<;>first|rfl|cases w'
 refine⟨h.ext,by rw[<-VS w];exact h.lσ,by rw[<-VS w];exact h.lτ,Ls,fun i c e hc=>?_,fun i e=>?_,fun i j c hij ei ej hc=>?_,h4,h5,fun i c e hc=>?_⟩
 ·obtain⟨k,e',n,_⟩:=live i c e hc;exact h1 i k e' n
 ·obtain⟨k,e',n,o⟩:=live i _ e (by simp);rw[o rfl]at e';exact h2 i e'
 ·obtain⟨k,e',n,o⟩:=live i _ ei (by simp);obtain⟨k2,e2,n2,_⟩:=live j c ej hc;rw[o rfl]at e';exact h3 i j k2 hij e' e2 n2
 ·obtain⟨k,e',n,_⟩:=live i c e hc;exact h6 i k e' n
def SOk.out {i:Nat}(h:SOk K Γ B H σ τ T)(e:Γ[i]?=some .own):∃v d L,σ[i]?=some (some v)/\τ[i]?=some (some d)/\Rep K H d v L/\SOk K (Γ.set i .dead) B H σ τ (L++T):=by
 obtain⟨Ls,h1,h2,h3,h4,h5,h6⟩:=h.ex;obtain⟨v,d,e1,e2,r⟩:=h1 i _ e (by simp);have hi:i<Γ.length:=(sN.mp e).1;have at':∀(j:Nat) (c:Cl),(Γ.set i .dead)[j]?=some c->c≠.dead->j≠i/\Γ[j]?=some c:=fun j c ej hc=>by
  by_cases z:i=j
  ·subst z;rw[sP hi]at ej;exact absurd (jYe ej).symm hc
  ·rw[sO z]at ej;exact⟨Ne.symm z,ej⟩
 refine⟨v,d,Ls i,e1,e2,r,⟨h.ext,by rw[sS];exact h.lσ,by rw[sS];exact h.lτ,Ls,fun j c ej hc=>h1 j c (at' j c ej hc).2 hc,fun j ej=>h2 j (at' j _ ej (by simp)).2,fun j k c hjk ej ek hc=>h3 j k c hjk (at' j _ ej (by simp)).2 (at' k c ek hc).2 hc,
  sQ.mpr ⟨(h2 i e).1,h4,fun a ha b hb z=>?_⟩,fun a ha=>?_,fun j c ej hc a ha hm=>?_⟩⟩
 ·subst z;exact h6 i _ e (by simp) a ha hb
 ·rcases sC.mp ha with z|z
  ·exact⟨(h2 i e).2 a z,r.there z⟩
  ·exact h5 a z
 ·obtain⟨n,ej'⟩:=at' j c ej hc;rcases sC.mp hm with z|z
  ·exact h3 i j c (Ne.symm n) e ej' hc a z ha
  ·exact h6 j c ej' hc a ha z
def J4 (Ls:Nat->List Addr)(i:Nat)(L:List Addr):Nat->List Addr:=fun j=>if j=i then L else Ls j
def xZ {Ls:Nat->List Addr}{i:Nat}:J4 Ls i L i=L:=if_pos rfl
def QG {Ls:Nat->List Addr}{i j:Nat}(h:j=i):J4 Ls i L j=L:=if_pos h
def xI {Ls:Nat->List Addr}{i j:Nat}(h:j≠i):J4 Ls i L j=Ls j:=if_neg h
def SOk.into {i:Nat}{d:D}{v:V}{L:List Addr}(h:SOk K Γ B H σ τ (L++T))(r:Rep K H d v L)(hi:i<Γ.length):SOk K (Γ.set i .own) B H (σ.set i (some v)) (τ.set i (some d)) T:=by
 obtain⟨Ls,h1,h2,h3,h4,h5,h6⟩:=h.ex;have hσ:i<σ.length:=by rw[h.lσ];exact hi
 have hτ:i<τ.length:=by rw[h.lτ];exact hi
 obtain⟨n1,n2,n3⟩:=sQ.mp h4;have at':∀(j:Nat) (c:Cl),j≠i->(Γ.set i .own)[j]?=some c->Γ[j]?=some c:=fun j c hj e=>by rw[sO (Ne.symm hj)]at e;exact e
 refine⟨h.ext,by rw[sS,sS];exact h.lσ,by rw[sS,sS];exact h.lτ,J4 Ls i L,fun j c e hc=>?_,fun j e=>?_,fun j k c hjk ej ek hc a ha hm=>?_,n2,fun a ha=>h5 a (sD _ ha),fun j c e hc a ha hm=>?_⟩
 ·by_cases z:j=i
  ·subst z;refine⟨v,d,by rw[sP hσ],by rw[sP hτ],?_⟩;rw[xZ];exact r
  ·obtain⟨v',d',e1,e2,r'⟩:=h1 j c (at' j c z e) hc;refine⟨v',d',by rw[sO (Ne.symm z)];exact e1,by rw[sO (Ne.symm z)];exact e2,?_⟩;rw[xI z];exact r'
 ·by_cases z:j=i
  ·subst z;rw[xZ];exact⟨n1,fun a ha=>(h5 a (sE _ ha)).1⟩
  ·rw[xI z];exact h2 j (at' j _ z e)
 ·by_cases z:j=i
  ·subst z;rw[xZ]at ha;rw[xI (Ne.symm hjk)]at hm;exact h6 k c (at' k c (Ne.symm hjk) ek) hc a hm (sE _ ha)
  ·rw[xI z]at ha
   by_cases z2:k=i
   ·subst z2;rw[xZ]at hm;exact h6 j _ (at' j _ z ej) (by simp) a ha (sE _ hm)
   ·rw[xI z2]at hm;exact h3 j k c hjk (at' j _ z ej) (at' k c z2 ek) hc a ha hm
 ·by_cases z:j=i
  ·subst z;rw[xZ]at ha;exact n3 a ha a hm rfl
  ·rw[xI z]at ha;exact h6 j c (at' j c z e) hc a ha (sD _ hm)
end
section
variable {K:jJa}{Γ Γ':List Cl}{B H H1:Hp}{σ:St}{τ:Tn}{T:List Addr}
def SOk.intoS {i:Nat}{d:D}{v:V}{L:List Addr}{Ls:Nat->List Addr}(e0:Same B H)(l1:σ.length=Γ.length)(l2:τ.length=Γ.length)
  (h1:∀i c,Γ[i]?=some c->c≠.dead->∃v d,σ[i]?=some (some v)/\τ[i]?=some (some d)/\Rep K H d v (Ls i)) (h2:∀i,Γ[i]?=some .own->(Ls i).Nodup/\∀a∈Ls i,B a=none)
  (h3:∀i j c,i≠j->Γ[i]?=some .own->Γ[j]?=some c->c≠.dead->∀a∈Ls i,a∉Ls j) (h7:∀i,Γ[i]?=some .own->∀a∈Ls i,a∉L) (r:Rep K H d v L) (hi:i<Γ.length):
  SOk K (Γ.set i .shr) B H (σ.set i (some v)) (τ.set i (some d)) []:=by
 have hσ:i<σ.length:=by rw[l1];exact hi
 have hτ:i<τ.length:=by rw[l2];exact hi
 have at':∀(j:Nat) (c:Cl),j≠i->(Γ.set i .shr)[j]?=some c->Γ[j]?=some c:=fun j c hj e=>by rw[sO (Ne.symm hj)]at e;exact e
 have nown:∀j:Nat,(Γ.set i .shr)[j]?=some .own->j≠i:=fun j e z=>by subst z;rw[sP hi]at e;cases e
 refine⟨e0,by rw[sS,sS];exact l1,by rw[sS,sS];exact l2,J4 Ls i L,fun j c e hc=>?_,fun j e=>?_,fun j k c hjk ej ek hc a ha hm=>?_,pE,fun a ha=>(nomatch ha),fun j c e hc a ha hm=>(nomatch hm)⟩
 ·by_cases z:j=i
  ·subst z;refine⟨v,d,by rw[sP hσ],by rw[sP hτ],?_⟩;rw[xZ];exact r
  ·obtain⟨v',d',e1,e2,r'⟩:=h1 j c (at' j c z e) hc;refine⟨v',d',by rw[sO (Ne.symm z)];exact e1,by rw[sO (Ne.symm z)];exact e2,?_⟩;rw[xI z];exact r'
 ·have z:=nown j e;rw[xI z];exact h2 j (at' j _ z e)
 ·have z:=nown j ej;rw[xI z]at ha
  by_cases z2:k=i
  ·rw[QG z2]at hm;exact h7 j (at' j _ z ej) a ha hm
  ·rw[xI z2]at hm;exact h3 j k c hjk (at' j _ z ej) (at' k c z2 ek) hc a ha hm
end
section
def zd (h:ME X E Γ e t .fresh):MV X E Γ e t Γ:=by
 obtain⟨te,p,q⟩:=h;refine⟨te,p,fun B σ H τ T Q ok h=>?_⟩;obtain⟨O,eo,_⟩:=ok.eok;refine q O σ H τ Q eo ?_;cases ht:t τ with
 | ok d =>
  rw[ht]at h;exact fun v H' L s r k=>h v H' L s r (ok.aside s (fun a ha=>r.there ha) k.1 k.2)
 | err n=>rw[ht]at h;exact fun C H' e s=>h C H' e (ok.ext.trans s)
 | bad=>rw[ht]at h;exact h
def z1L {i:Nat}(hN:X.N[i]?=some x)(hk:Γ[i]?=some .own)(hv:Vis X.env.scope x)(hb:autoParam ((x==("__debug__":Str))=false) au1._auto_1)(hcd:autoParam ((x==("__classdict__":Str))=false) au1._auto_1):MV X E Γ (.Name x pos) (za i) (Γ.set i .dead):=by
 refine⟨z1t i,ja hN hv hb hcd,fun B σ H τ T Q ok h=>?_⟩;obtain⟨v,d,L,e1,e2,r,ok'⟩:=ok.out hk;unfold za at h;rw[e2]at h;exact⟨v,e1,h v H L (Same.refl H) r ok'⟩
def zm:Tn->R Fl:=fun τ=>.ok (.nx τ)
def z00:Tn->R Fl:=fun _=>.bad
def zh (a b:Tn->R Fl):Tn->R Fl:=fun τ=>(a τ).bind fun f=>match f with
 | .nx τ'=>b τ'
 | f=>.ok f
def Ve (t:Tn->R D):Tn->R Fl:=fun τ=>(t τ).bind fun _=>.ok (.nx τ)
def zp (t:Tn->R D):Tn->R Fl:=fun τ=>(t τ).bind fun d=>.ok (.rt d)
def zq (i:Nat)(t:Tn->R D):Tn->R Fl:=fun τ=>(t τ).bind fun d=>.ok (.nx (τ.set i (some d)))
def sIf (k:Tn->R Bool)(a b:Tn->R Fl):Tn->R Fl:=fun τ=>(k τ).bind fun x=>if x=true then a τ else b τ
def VX:MS X E Γl Γ s z00 Γ':=⟨z0l,K2,fun _ _ _ _ _ _ h=>h.elim⟩
def zy:MSs X E Γl Γ [] zm Γ:=⟨K3,Zf,fun B σ H τ Z ok h=>h σ H ok⟩
def zj (h:MS X E Γl Γ s t Γ'):MSs X E Γl Γ [s] t Γ':=by
 obtain⟨ts,p,q⟩:=h;exact⟨ts,jm p,q⟩
def zf (h:MS X E Γl Γ s t1 Γ1)(k:MSs X E Γl Γ1 r t2 Γ'):MSs X E Γl Γ (s::r) (zh t1 t2) Γ':=by
 obtain⟨ts,p,q⟩:=h;obtain⟨ts',p',q'⟩:=k;refine⟨z3M ts ts',jK p p',fun B σ H τ Z ok h=>q B σ H τ _ ok ?_⟩;unfold zh at h;cases ht:t1 τ with
 | ok f =>
  rw[ht,jYa]at h;cases f with
  | nx τ'=>exact fun σ' H' ok'=>q' B σ' H' τ' Z ok' h
  | rt d=>exact h
  | bk τ'=>exact h
  | ct τ'=>exact h
 | err n=>rw[ht]at h;exact h
 | bad=>rw[ht]at h;exact h
def Zq (h:MSs X E Γl Γ s t Γ1)(w:wk Γ1 Γ'=true):MSs X E Γl Γ s t Γ':=by
 obtain⟨ts,p,q⟩:=h;refine⟨ts,p,fun B σ H τ Z ok h=>q B σ H τ Z ok ?_⟩;cases ht:t τ with
 | ok f =>
  rw[ht]at h;cases f with
  | nx τ'=>exact fun σ' H' ok'=>h σ' H' (ok'.weak w)
  | rt d=>exact h
  | bk τ'=>exact h
  | ct τ'=>exact h
 | err n=>rw[ht]at h;exact h
 | bad=>rw[ht]at h;exact h
def z1f (h:ME X E Γ e t c)(hs:autoParam (swapsWith e none pos.line X.env=pure false) au3._auto_1):MS X E Γl Γ (.Expr e pos) (Ve t) Γ:=by
 obtain⟨te,p,q⟩:=h;refine⟨z2m te,Wr p hs,fun B σ H τ Z ok h=>?_⟩;obtain⟨O,eo,_⟩:=ok.eok;refine q O σ H τ _ eo ?_;unfold Ve at h;cases ht:t τ with
 | ok d=>rw[ht,jYa]at h;exact fun v H' L s r k=>h σ H' (ok.same s)
 | err n=>rw[ht]at h;exact fun C H' e s=>h C H' e (ok.ext.trans s)
 | bad=>rw[ht]at h;exact h
def zu (h:MV X E Γ e t Γ1):MS X E Γl Γ (.Return (some e) pos) (zp t) Γ':=by
 obtain⟨te,p,q⟩:=h;refine⟨z4z te,Zn p,fun B σ H τ Z ok h=>q B σ H τ [] _ ok ?_⟩;unfold zp at h;cases ht:t τ with
 | ok d =>
  rw[ht,jYa]at h;refine fun v H' L s r ok'=>?_;obtain⟨Ls,_,_,_,h4,h5,_⟩:=ok'.ex;rw[tZ]at h4 h5;exact h v H' L ok'.ext r h4 fun a ha=>(h5 a ha).1
 | err n=>rw[ht]at h;exact h
 | bad=>rw[ht]at h;exact h
def zP {u:Tn->R Bool}(hk:MT X E Γ k u)(ha:MSs X E Γl Γ sa t1 Γ')(hb:MSs X E Γl Γ sb t2 Γ'):MS X E Γl Γ (.If k sa sb pos) (sIf u t1 t2) Γ':=by
 obtain⟨te,p,q⟩:=hk;obtain⟨ts1,p1,q1⟩:=ha;obtain⟨ts2,p2,q2⟩:=hb;refine⟨z3d te ts1 ts2,Qd p p1 p2,fun B σ H τ Z ok h=>?_⟩;obtain⟨O,eo,_⟩:=ok.eok;refine q O σ H τ _ eo ?_;unfold sIf at h;cases ht:u τ with
 | ok x =>
  rw[ht,jYa]at h;refine fun H1 s1=>?_;cases x with
  | true=>rw[if_pos rfl]at h ⊢;exact q1 B σ H1 τ Z (ok.same s1) h
  | false=>rw[if_neg sJ]at h ⊢;exact q2 B σ H1 τ Z (ok.same s1) h
 | err n=>rw[ht]at h;exact fun C H' e s=>h C H' e (ok.ext.trans s)
 | bad=>rw[ht]at h;exact h
def z4r {i:Nat}(hN:X.N.Nodup)(hi:X.N[i]?=some x)(hl:i<Γ1.length)(h:MV X E Γ e t Γ1)(hx:Loc X.env.scope x)(hs:autoParam (swapsWith e (some (.Name x pos')) pos.line X.env=pure false) au3._auto_1)(hf:autoParam (X.fn x=true\/X.env.scope.names.lookup x=some .local) au0._auto_1):
  MS X E Γl Γ (.Assign [.Name x pos'] e pos) (zq i t) (Γ1.set i .own):=by
 obtain⟨te,p,q⟩:=h;refine⟨_,z0q hN hi hx p hs hf,fun B σ H τ Z ok h=>q B σ H τ [] _ ok ?_⟩;unfold zq at h;cases ht:t τ with
 | ok d =>
  rw[ht,jYa]at h;exact fun v H' L s r ok'=>h _ _ (ok'.into r hl)
 | err n=>rw[ht]at h;exact h
 | bad=>rw[ht]at h;exact h
def z1n {i:Nat}{x:Str}{pos':Pos}(hN:X.N.Nodup)(hi:X.N[i]?=some x)(hl:i<Γ.length)(h:ME X E Γ e t c)(hc:c≠.bor)(hx:Loc X.env.scope x)(hs:autoParam (swapsWith e (some (.Name x pos')) pos.line X.env=pure false) au3._auto_1)(hf:autoParam (X.fn x=true\/X.env.scope.names.lookup x=some .local) au0._auto_1):
  MS X E Γl Γ (.Assign [.Name x pos'] e pos) (zq i t) (Γ.set i .shr):=by
 obtain⟨te,p,q⟩:=h;refine⟨_,z0q hN hi hx p hs hf,fun B σ H τ Z ok h=>?_⟩;obtain⟨O,eo,hL⟩:=ok.eok;refine q O σ H τ _ eo ?_;unfold zq at h;cases ht:t τ with
 | ok d =>
  rw[ht,jYa]at h;refine fun v H' L s r k=>h _ _ ?_;obtain⟨Ls,h1,h2,h3,_,_,_,h7⟩:=hL L (k.shr eo.dom hc);exact SOk.intoS (ok.ext.trans s) ok.lσ ok.lτ (fun j c e hc=>by obtain⟨v',d',e1,e2,r'⟩:=h1 j c e hc;exact⟨v',d',e1,e2,r'.same s⟩) h2 h3 h7 r hl
 | err n=>rw[ht]at h;exact fun C H' e s=>h C H' e (ok.ext.trans s)
 | bad=>rw[ht]at h;exact h
end
section
variable {K:jJa}{Γ Γ':List Cl}{B H H1:Hp}{σ:St}{τ:Tn}{T:List Addr}
def SOk.slot {i:Nat}(h:SOk K Γ B H σ τ T)(e:Γ[i]?=some .own):∃v d L,σ[i]?=some (some v)/\τ[i]?=some (some d)/\Rep K H d v L/\L.Nodup/\(∀a∈L,B a=none/\a∉T) /\
  ∀(H2:Hp) (d2:D) (L2 Le T':List Addr),T=Le++T'->TF H H2->(∀b,b∉L->H b≠none->H2 b=H b)->Rep K H2 d2 v L2->(∀a∈L2,a∈L\/a∈Le)->L2.Nodup->SOk K Γ B H2 σ (τ.set i (some d2)) T':=by
 obtain⟨Ls,h1,h2,h3,h4,h5,h6⟩:=h.ex;obtain⟨v,d,e1,e2,r⟩:=h1 i _ e (by simp);refine⟨v,d,Ls i,e1,e2,r,(h2 i e).1,fun a ha=>⟨(h2 i e).2 a ha,h6 i _ e (by simp) a ha⟩,?_⟩;rintro H2 d2 L2 Le T' rfl tf kp r2 sub nd;obtain⟨n1,n2,n3⟩:=sQ.mp h4;have hτ:i<τ.length:=(sN.mp e2).1;have notL:∀b,B b≠none->b∉Ls i:=fun b hb hm=>hb ((h2 i e).2 b hm);refine⟨fun b o q=>?_,h.lσ,by rw[sS];exact h.lτ,J4 Ls i L2,fun j c ej hc=>?_,fun j ej=>?_,fun j k c hjk ej ek hc a ha hm=>?_,n2,fun a ha=>⟨(h5 a (sD _ ha)).1,?_⟩,fun j c ej hc a ha hm=>?_⟩
 ·have hq:=h.ext b o q;rw[kp b (notL b (by rw[q];simp)) (by rw[hq];simp)];exact hq
 ·by_cases z:j=i
  ·subst z;refine⟨v,d2,e1,by rw[sP hτ],?_⟩;rw[xZ];exact r2
  ·obtain⟨v',d',q1,q2,r'⟩:=h1 j c ej hc;refine⟨v',d',q1,by rw[sO (Ne.symm z)];exact q2,?_⟩;rw[xI z];exact Rep.keep tf d' v' _ r' fun a ha=>kp a (fun hm=>h3 i j c (Ne.symm z) e ej hc a hm ha) (r'.there ha)
 ·by_cases z:j=i
  ·subst z;rw[xZ];refine⟨nd,fun a ha=>?_⟩;rcases sub a ha with m|m
   ·exact (h2 _ e).2 a m
   ·exact (h5 a (sE _ m)).1
  ·rw[xI z];exact h2 j ej
 ·by_cases z:j=i
  ·subst z;rw[xZ]at ha;rw[xI (Ne.symm hjk)]at hm;rcases sub a ha with m|m
   ·exact h3 _ k c hjk e ek hc a m hm
   ·exact h6 k c ek hc a hm (sE _ m)
  ·rw[xI z]at ha
   by_cases z2:k=i
   ·subst z2;rw[xZ]at hm;rcases sub a hm with m|m
    ·exact h3 j _ _ hjk ej e (by simp) a ha m
    ·exact h6 j _ ej (by simp) a ha (sE _ m)
   ·rw[xI z2]at hm;exact h3 j k c hjk ej ek hc a ha hm
 ·have q:=(h5 a (sD _ ha)).2;rw[kp a (fun hm=>h6 i _ e (by simp) a hm (sD _ ha)) q];exact q
 ·by_cases z:j=i
  ·rw[QG z]at ha;rcases sub a ha with m|m
   ·exact h6 i _ e (by simp) a m (sD _ hm)
   ·exact n3 a m a hm rfl
  ·rw[xI z]at ha;exact h6 j c ej hc a ha (sD _ hm)
def TF.upd (h:(∃vs,H a=some (.lst vs))\/∃kvs,H a=some (.dK kvs)):TF H (upd H a o):=by
 refine⟨fun b xs e=>?_,fun b p u e=>?_⟩
 ·rw[y8]
  ·exact e
  ·rintro rfl;rcases h with⟨_,h⟩|⟨_,h⟩<;>rw[h]at e<;>cases e
 ·rw[y8]
  ·exact e
  ·rintro rfl;rcases h with⟨_,h⟩|⟨_,h⟩<;>rw[h]at e<;>cases e
def Rep.upd {d:D}{v:V}{L:List Addr}{a:Addr}{o:HO}(r:Rep K H d v L)(h:(∃vs,H a=some (.lst vs))\/∃kvs,H a=some (.dK kvs))(n:a∉L):Rep K (L2.upd H a o) d v L:=
 Rep.keep (TF.upd h) d v L r fun b hb=>y8 fun z=>n (z▸hb)
def Reps.upd {d:List D}{v:List V}{L:List Addr}{a:Addr}{o:HO}(r:Reps K H d v L)(h:(∃vs,H a=some (.lst vs))\/∃kvs,H a=some (.dK kvs))(n:a∉L):Reps K (L2.upd H a o) d v L:=
 Reps.keep (TF.upd h) d v L r fun b hb=>y8 fun z=>n (z▸hb)
def Reps.set:∀ {ds:List D} {vs:List V} {L:List Addr} {d:D} {v:V} {Le:List Addr} (j:Nat),Reps K H ds vs L->Rep K H d v Le->j<ds.length->∃L2,Reps K H (ds.set j d) (vs.set j v) L2/\(∀a∈L2,a∈L\/a∈Le)/\((L++Le).Nodup->L2.Nodup)
 | [],_,_,_,_,_,_,_,_,h=>by simp at h
 | d::ds,_,_,d',v',Le,0,hq7,r,_=>by
  obtain⟨v,vs',L1,L2,e1,e2,h1,h2⟩:=hq7;subst e1 e2;refine⟨Le++L2,by simpa using Reps.cons r h2,fun a ha=>?_,fun n=>?_⟩
  ·rcases sC.mp ha with z|z
   ·exact .inr z
   ·exact .inl (sD _ z)
  ·obtain⟨n1,n2,n3⟩:=sQ.mp n;obtain⟨m1,m2,m3⟩:=sQ.mp n1;exact sQ.mpr ⟨n2,m2,fun a ha b hb z=>n3 b (sD _ hb) a ha z.symm⟩
 | d::ds,_,_,d',v',Le,j+1,hq7,r,hj=>by
  obtain⟨v,vs',L1,L2,e1,e2,h1,h2⟩:=hq7;subst e1 e2;obtain⟨L3,a1,a2,a3⟩:=Reps.set j h2 r (by simpa using hj);refine⟨L1++L3,by simpa using Reps.cons h1 a1,fun a ha=>?_,fun n=>?_⟩
  ·rcases sC.mp ha with z|z
   ·exact .inl (sE _ z)
   ·rcases a2 a z with m|m
    ·exact .inl (sD _ m)
    ·exact .inr m
  ·rw[sF]at n;obtain⟨n1,n2,n3⟩:=sQ.mp n;refine sQ.mpr ⟨n1,a3 n2,fun a ha b hb z=>?_⟩;rcases a2 b hb with m|m
   ·exact n3 a ha b (sE _ m) z
   ·exact n3 a ha b (sD _ m) z
end
section
variable {X:Cx}{E:XK}{Γ Γ1 Γ' Γl:List Cl}{e a b:Expr}{es:List Expr}{t t':Tn->R D}{u:Tn->R (List D)}{c:Rc}{pos:Pos}
def uV (i:Nat)(t:Tn->R D):Tn->R Fl:=fun τ=>(za i τ).bind fun l=>match l with
 | .lst ds=>(t τ).bind fun d=>if ds.length<sizeLine then .ok (.nx (τ.set i (some (.lst (ds++[d]))))) else .bad
 | _=>.bad
def Jc {i:Nat}{x:Str}{p0 p1 p2:Pos}(hN:X.N[i]?=some x)(h0:Γ[i]?=some .own)(h:MV X E Γ e t Γ1)(hk:Γ1[i]?=some .own)(hv:Vis X.env.scope x)(hb:autoParam ((x==("__debug__":Str))=false) au1._auto_1)(hcd:autoParam ((x==("__classdict__":Str))=false) au1._auto_1)
  (hbase:autoParam (attributeBase (.Name x p0) "append" X.env (eval (.Name x p0) X.env)=eval (.Name x p0) X.env) au3._auto_1)
  (hfew:autoParam (((backTo p2 (starEach [e] X.env)).all (fun x=>!x.1)&&(backToKw p2 (keywordEach [] X.env)).all (fun x=>x.1.isSome)&&decide ([e].length+([]:List Keyword).length+(if ([]:List Keyword).isEmpty then 0 else 1)<30))=true) au3._auto_1)
  (hline:autoParam ((p1.endLine==p2.line)=true) au3._auto_1) (hs:autoParam (starEach [e] X.env=(false,eval e X.env)::starEach [] X.env) au3._auto_1) (hplain:autoParam ((backTo p2 (starEach [] X.env)).any (·.1)=false) au3._auto_1)
  (hsw:autoParam (swapsWith (.Call (.Attribute (.Name x p0) "append" p1) [e] [] p2) none pos.line X.env=pure false) au3._auto_1):
  MS X E Γl Γ (.Expr (.Call (.Attribute (.Name x p0) "append" p1) [e] [] p2) pos) (uV i t) Γ1:=by
 obtain⟨te,p,q⟩:=h;refine⟨_,Wr (z0V jQ5 jQ6 jQ7 kl (ja (pos:=p0) hN hv hb hcd) (yG p vY hs) hbase hfew hline hs hplain) hsw,fun B σ H τ Z ok h=>?_⟩;obtain⟨v,d,L,e1,e2,r,_⟩:=ok.slot h0;refine⟨v,e1,?_⟩;unfold uV at h;have ev:za i τ=.ok d:=by unfold za;rw[e2]
 rw[ev,jYa]at h;cases d with
 | lst ds =>
  obtain⟨a,vs,L',rfl,ha,_,rs⟩:=r;refine⟨.inl ⟨rfl,vs,SqL.of ha⟩,q B σ H τ [] _ ok ?_⟩;dsimp only at h;cases ht:t τ with
  | ok d' =>
   rw[ht,jYa]at h;refine fun y H1 Le s1 ry ok1=>?_;obtain⟨v1,d1,L1,q1,q2,r1,n1,n2,fin⟩:=ok1.slot hk;rw[e1]at q1;cases q1;rw[e2]at q2;cases q2;obtain⟨a1,vs1,L1',z1,ha1,z2,rs1⟩:=r1;cases z1;subst z2;have hl:vs1.length=ds.length:=rs1.length
   by_cases hz:ds.length<sizeLine
   ·rw[if_pos hz]at h;have mu:(∃vs,H1 a=some (.lst vs))\/∃kvs,H1 a=some (.dK kvs):=.inl ⟨_,ha1⟩;have na:a∉Le:=fun m=>(n2 a tN).2 (sE _ m);obtain⟨m1,m2⟩:=rC.mp n1;refine⟨a,vs1,y,rfl,rfl,ha1,by lia,h _ _ (fin _ _ (a::(L1'++Le)) Le [] rfl (TF.upd mu) (fun b hb _=>y8 fun z=>hb (z▸tN)) ?_ (fun b hb=>?_) ?_)⟩
    ·refine⟨a,vs1++[y],L1'++Le,rfl,zT,rfl,Reps.append (rs1.upd mu m1) ?_⟩;have:=Reps.cons (ry.upd (o:=.lst (vs1++[y])) mu na) (Reps.nil (K:=X.K) (H:=upd H1 a (.lst (vs1++[y]))));rw[tZ]at this;exact this
    ·rcases sI.mp hb with z|z
     ·exact .inl (z▸tN)
     ·rcases sC.mp z with z|z
      ·exact .inl (tS _ z)
      ·exact .inr z
    ·refine rC.mpr ⟨fun z=>?_,sQ.mpr ⟨m2,?_,fun b hb b' hb' z=>?_⟩⟩
     ·rcases sC.mp z with z|z
      ·exact m1 z
      ·exact na z
     ·obtain⟨_,_,_,_,w4,_⟩:=ok1.ex;rw[tZ]at w4;exact w4
     ·subst z;exact (n2 b (tS _ hb)).2 (sE _ hb')
   ·rw[if_neg hz]at h;exact h.elim
  | err n=>rw[ht]at h;exact h
  | bad=>rw[ht]at h;exact h
 | _=>exact h.elim
def z5H (ds:List D)(k:Int)(d:D):R D:=match ixN ds.length k with
 | some j=>.ok (.lst (ds.set j d))
 | none=>.bad
def z3B (i:Nat)(t ti:Tn->R D):Tn->R Fl:=fun τ=>(t τ).bind fun d=>(za i τ).bind fun l=>(ti τ).bind fun k=>match l,k with
 | .lst ds,.int k=>(z5H ds k d).bind fun l'=>.ok (.nx (τ.set i (some l')))
 | _,_=>.bad
def z2Y {i:Nat}{x:Str}{p0 p1:Pos}{ix:Expr}{ti:Tn->R D}(hN:X.N[i]?=some x)(h:MV X E Γ e t Γ1)(hi:ME X E Γ1 ix ti c)(hk:Γ1[i]?=some .own)(hv:Vis X.env.scope x)(hb:autoParam ((x==("__debug__":Str))=false) au1._auto_1)(hcd:autoParam ((x==("__classdict__":Str))=false) au1._auto_1)
  (ha:autoParam (∀v,assign (.Subscript (.Name x p0) ix p1) X.env v=(do
   let ov <-holding [v] (eval (.Name x p0) X.env)
   let iv <-holding [v,ov] (eval ix X.env)
   standAt p1
   holding [v,ov,iv] (setItem ov iv v)
   release [v,ov,iv] [])) au2._auto_1)
  (hs:autoParam (swapsWithSole [.Subscript (.Name x p0) ix p1] e pos.line X.env=pure false) au3._auto_1) (hw:autoParam (swappedStores [.Subscript (.Name x p0) ix p1] e X.env=pure none) au3._auto_1)
  (h1:autoParam ((assignEach [.Subscript (.Name x p0) ix p1] X.env).map (·.2)=[assign (.Subscript (.Name x p0) ix p1) X.env]) au3._auto_1):
  MS X E Γl Γ (.Assign [.Subscript (.Name x p0) ix p1] e pos) (z3B i t ti) Γ1:=by
 obtain⟨te,p,q⟩:=h;obtain⟨te',p',q'⟩:=hi;refine⟨_,JY p (z3F (ja (pos:=p0) hN hv hb hcd) p' z0z ha) hs hw h1,fun B σ H τ Z ok h=>q B σ H τ [] _ ok ?_⟩;unfold z3B at h;cases ht:t τ with
 | ok d' =>
  rw[ht,jYa]at h;refine fun y H1 Le s1 ry ok1=>?_;obtain⟨v1,d1,L1,q1,q2,r1,n1,n2,_⟩:=ok1.slot hk;refine⟨v1,q1,?_⟩;have ev:za i τ=.ok d1:=by unfold za;rw[q2]
  rw[ev,jYa]at h;obtain⟨O,eo,_⟩:=ok1.eok;refine q' O σ H1 τ _ eo ?_;cases hk':ti τ with
  | ok dk =>
   rw[hk',jYa]at h;refine fun kv H2 Lk s2 rk _=>?_;have ok2:=ok1.same s2;obtain⟨v2,d2,L2,q3,q4,r2,m1,m2,fin⟩:=ok2.slot hk;rw[q1]at q3;cases q3;rw[q2]at q4;cases q4;cases d1 with
   | lst ds =>
    cases dk with
    | int k =>
     obtain⟨a,vs,L',rfl,ha2,z2,rs⟩:=r2;subst z2;dsimp only at h;unfold z5H at h;cases hj:ixN ds.length k with
     | none=>rw[hj]at h;exact h.elim
     | some j =>
      rw[hj]at h;have hjl:j<ds.length:=(W4 hj).2.1;have mu:(∃vs,H2 a=some (.lst vs))\/∃kvs,H2 a=some (.dK kvs):=.inl ⟨_,ha2⟩;have na:a∉Le:=fun m=>(m2 a tN).2 (sE _ m);obtain⟨w1,w2⟩:=rC.mp m1;have nLe:Le.Nodup:=by
       obtain⟨_,_,_,_,w4,_⟩:=ok1.ex;rw[tZ]at w4;exact w4
      have r3:=(ry.same s2).upd (o:=.lst (vs.set j y)) mu na;obtain⟨L3,a1,a2,a3⟩:=Reps.set j (rs.upd (o:=.lst (vs.set j y)) mu w1) r3 hjl;refine⟨a,vs,k,j,rfl,rk.1,ha2,by rw[rs.length];exact hj,h _ _ (fin _ _ (a::L3) Le [] rfl (TF.upd mu) (fun b hb _=>y8 fun z=>hb (z▸tN)) ⟨a,_,L3,rfl,zT,rfl,a1⟩ (fun b hb=>?_) ?_)⟩
      ·rcases sI.mp hb with z|z
       ·exact .inl (z▸tN)
       ·rcases a2 b z with z|z
        ·exact .inl (tS _ z)
        ·exact .inr z
      ·refine rC.mpr ⟨fun z=>?_,a3 (sQ.mpr ⟨w2,nLe,fun b hb b' hb' z=>?_⟩)⟩
       ·rcases a2 a z with z|z
        ·exact w1 z
        ·exact na z
       ·subst z;exact (m2 b (tS _ hb)).2 (sE _ hb')
    | _=>exact h.elim
   | _=>exact h.elim
  | err n=>rw[hk']at h;exact fun C H' e s=>h C H' e (ok1.ext.trans s)
  | bad=>rw[hk']at h;exact h
 | err n=>rw[ht]at h;exact h
 | bad=>rw[ht]at h;exact h
end
section
variable {K:jJa}{Γ Γ':List Cl}{B B' H H1:Hp}{σ:St}{τ:Tn}{T:List Addr}
def SOk.rebase (h:SOk K Γ B' H σ τ T)(s:Same B B'):SOk K Γ B H σ τ T:=by
 obtain⟨Ls,h1,h2,h3,h4,h5,h6⟩:=h.ex;exact⟨s.trans h.ext,h.lσ,h.lτ,Ls,h1,fun i e=>⟨(h2 i e).1,fun a ha=>s.non ((h2 i e).2 a ha)⟩,h3,h4,fun a ha=>⟨s.non (h5 a ha).1,(h5 a ha).2⟩,h6⟩
open Classical in
def SOk.base (h:SOk K Γ B H σ τ []):∃O:Addr->Prop,EOk K Γ O H σ τ/\(∀a,O a->(∃vs,H a=some (.lst vs))\/∃kvs,H a=some (.dK kvs)) /\
  ∀H1,Same H H1->∃B1,Same B B1/\SOk K Γ B1 H1 σ τ []/\∀a,¬O a->B1 a=H1 a:=by
 obtain⟨Ls,h1,h2,h3,h4,h5,h6⟩:=h.ex;refine⟨fun a=>∃i,Γ[i]?=some .own/\a∈Ls i,⟨fun a ⟨i,e,ha⟩=>?_,fun i c e hc=>?_⟩,fun a ⟨i,e,ha⟩=>?_,fun H1 s1=>⟨fun a=>if (∃i,Γ[i]?=some .own/\a∈Ls i) then none else H1 a,fun b o q=>?_,⟨fun b o q=>?_,h.lσ,h.lτ,Ls,fun i c e hc=>?_,fun i e=>⟨(h2 i e).1,fun a ha=>if_pos ⟨i,e,ha⟩⟩,h3,h4,fun a ha=>(nomatch ha),h6⟩,fun a n=>if_neg n⟩⟩
 ·obtain⟨v,d,_,_,r⟩:=h1 i _ e (by simp);exact r.there ha
 ·obtain⟨v,d,e1,e2,r⟩:=h1 i c e hc;refine⟨v,d,Ls i,e1,e2,r,fun z a ha ⟨j,ej,hj⟩=>?_⟩;subst z;have hij:j≠i:=fun z=>by subst z;rw[e]at ej;cases ej
  exact h3 j i _ hij ej e (by simp) a hj ha
 ·obtain⟨v,d,_,_,r⟩:=h1 i _ e (by simp);exact Rep.dom d v _ r a ha
 ·show (if (∃i,Γ[i]?=some .own/\b∈Ls i) then none else H1 b)=some o;rw[if_neg]
  ·exact s1 b o (h.ext b o q)
  ·rintro⟨i,e,hb⟩;rw[(h2 i e).2 b hb]at q;cases q
 ·have q:(if (∃i,Γ[i]?=some .own/\b∈Ls i) then none else H1 b)=some o:=q
  by_cases z:∃i,Γ[i]?=some .own/\b∈Ls i
  ·rw[if_pos z]at q;cases q
  ·rw[if_neg z]at q;exact q
 ·obtain⟨v,d,e1,e2,r⟩:=h1 i c e hc;exact⟨v,d,e1,e2,r.same s1⟩
def SOk.shrIn {i:Nat}{d:D}{v:V}{L:List Addr}(h:SOk K Γ B H σ τ [])(r:Rep K H d v L)(hL:∀a∈L,B a≠none)(hi:i<Γ.length):SOk K (Γ.set i .shr) B H (σ.set i (some v)) (τ.set i (some d)) []:=by
 obtain⟨Ls,h1,h2,h3,h4,h5,h6⟩:=h.ex;exact SOk.intoS h.ext h.lσ h.lτ h1 h2 h3 (fun j e a ha hm=>hL a hm ((h2 j e).2 a ha)) r hi
end
def wg {α:Type}:List (Option α)->List Nat->List α->List (Option α)
 | σ,i::is,v::vs=>wg (σ.set i (some v)) is vs
 | σ,_,_=>σ
def shrAll:List Cl->List Nat->List Cl
 | Γ,[]=>Γ
 | Γ,i::is=>shrAll (Γ.set i .shr) is
def SOk.shrAll {K:jJa}{B H:Hp}{Γ:List Cl}{σ:St}{τ:Tn}{is:List Nat}{ds:List D}{vs:List V}{L:List Addr}(h:SOk K Γ B H σ τ [])(r:Reps K H ds vs L)(hL:∀a∈L,B a≠none)(hl:ds.length=is.length)(hi:∀i∈is,i<Γ.length):
  SOk K (L2.shrAll Γ is) B H (wg σ is vs) (wg τ is ds) []:=by
 induction is generalizing Γ σ τ ds vs L with
 | nil =>
  cases ds with
  | nil=>cases r.1;exact h
  | cons=>cases hl
 | cons i is ih =>
  cases ds with
  | nil=>cases hl
  | cons d ds =>
   obtain⟨v,vs',La,Lb,e1,e2,r1,r2⟩:=r;subst e1 e2;exact ih (h.shrIn r1 (fun a ha=>hL a (sE _ ha)) (hi i tN)) r2 (fun a ha=>hL a (sD _ ha)) (Nat.succ.inj hl) (fun j hj=>by rw[sS];exact hi j (tS _ hj))
def ItOk (K:jJa)(J:It)(ds:List D)(L:List Addr)(H:Hp):Prop:=(∀a∈L,H a≠none)/\∀H',TF H H'->(∀a∈L,H' a=H a)->∀i,
 (∀d,ds[i]?=some d->J.go i H'/\∀x H'',J.yld i H' x H''->Same H' H''/\∃L',Rep K H'' d x L'/\∀a∈L',a∈L)/\(ds.length<=i->J.stop i H')
def z2o (K:jJa)(E:XK)(O:Addr->Prop)(c:Rc)(H:Hp)(Rr:It->Hp->Prop):R (List D)->Prop
 | .ok ds=>∀J H' L,Same H H'->ItOk K J ds L H'->(c≠.bor->∀a∈L,¬O a)->Rr J H'
 | .err n=>∀C H',ErrC K n C->Same H H'->E (.ref C) none H'
 | .bad=>False
def MI (X:Cx)(E:XK)(Γ:List Cl)(tg iter:Expr)(t:Tn->R (List D))(c:Rc):Prop:=
 ∃wi,PI X tg iter wi/\∀O σ H τ Rr,EOk X.K Γ O H σ τ->z2o X.K E O c H Rr (t τ)->wi σ H Rr
inductive Tgt where
 | one (i:Nat) | many (is:List Nat)
def Tgt.slots:Tgt->List Nat
 | .one i=>[i]
 | .many is=>is
def Tgt.asg:Tgt->D->Tn->R Tn
 | .one i,d,τ=>.ok (τ.set i (some d))
 | .many is,.tup ds,τ=>if ds.length=is.length then .ok (wg τ is ds) else .bad
 | .many _,_,_=>.bad
def MG (X:Cx)(tg:Expr):Tgt->Prop
 | .one i=>PG X tg (YW i)
 | .many is=>∃g,PG X tg (z5e X.K is.length g)/\∀(vs:List V) (σ:St) (H:Hp) (Q:St->Hp->Prop),vs.length=is.length->Q (wg σ is vs) H->g vs σ H Q
def xK (asg:D->Tn->R Tn)(body:Tn->R Fl):List D->Tn->R Fl
 | [],τ=>.ok (.nx τ)
 | d::ds,τ=>(asg d τ).bind fun τ1=>(body τ1).bind fun f=>match f with
  | .nx τ2=>xK asg body ds τ2
  | .ct τ2=>xK asg body ds τ2
  | .bk τ2=>.ok (.nx τ2)
  | .rt r=>.ok (.rt r)
def yY (it:Tn->R (List D))(tg:Tgt)(body:Tn->R Fl):Tn->R Fl:=fun τ=>(it τ).bind fun ds=>xK tg.asg body ds τ
section
variable {X:Cx}{E:XK}{Γ Γ1 Γ2 Γ' Γl:List Cl}{pos:Pos}
def tgG (K:jJa)(g:Tgt):TG:=fun v σ H Q=>match g with
 | .one i=>Q (σ.set i (some v)) H
 | .many is=>∃a vs,v=.ref a/\SqT K H a vs/\vs.length=is.length/\Q (wg σ is vs) H
def MG.pg (h:MG X tg g):PG X tg (tgG X.K g):=by
 cases g with
 | one i=>exact h
 | many is =>
  obtain⟨G,p,q⟩:=h;rintro pins s σ H v u Q I r ⟨a,vs,e,hs,hl,z⟩;exact p pins s σ H v u Q I r ⟨a,vs,e,hs,hl,q vs σ H Q hl z⟩
def z0f {K:jJa}{B H:Hp}{σ:St}{τ τ1:Tn}{d:D}{v:V}{L:List Addr}{g:Tgt}(h:SOk K Γ B H σ τ [])(r:Rep K H d v L)(hL:∀a∈L,B a≠none)(hi:∀i∈g.slots,i<Γ.length)(ha:g.asg d τ=.ok τ1)
  {Q:St->Hp->Prop} (k:∀σ1,SOk K (L2.shrAll Γ g.slots) B H σ1 τ1 []->Q σ1 H):tgG K g v σ H Q:=by
 cases g with
 | one i=>cases ha;exact k _ (h.shrIn r hL (hi i (by simp[Tgt.slots])))
 | many is =>
  cases d with
  | tup ds =>
   unfold Tgt.asg at ha;dsimp only at ha
   by_cases hl:ds.length=is.length
   ·rw[if_pos hl]at ha;cases ha;obtain⟨a,vs,rfl,hs,rs⟩:=r;have hv:vs.length=is.length:=rs.length.trans hl;exact⟨a,vs,rfl,hs,hv,k _ (h.shrAll rs hL hl hi)⟩
   ·rw[if_neg hl]at ha;cases ha
  | _=>cases ha
def z6a {it:Tn->R (List D)}{g:Tgt}{tb:Tn->R Fl}{c:Rc}{wi:TI}{ts:TS}(hcl:c≠.bor)(hn:∀i∈g.slots,i<Γ.length)(hw:wk Γ2 Γ=true)(q:∀O σ H τ Rr,EOk X.K Γ O H σ τ->z2o X.K E O c H Rr (it τ)->wi σ H Rr)(q':∀B σ H τ Z,SOk X.K (shrAll Γ g.slots) B H σ τ []->qq X.K E B Γ Γ2 Z (tb τ)->ts Z σ H)
  (B:Hp) (σ:St) (H:Hp) (τ:Tn) (Z:Ends) (ok:SOk X.K Γ B H σ τ []) (h:qq X.K E B Γl Γ Z (yY it g tb τ)):z5S wi (tgG X.K g) ts Z σ H:=by
 obtain⟨O,eo,Od,hB⟩:=ok.base;refine q O σ H τ _ eo ?_;unfold yY at h;cases ht:it τ with
 | ok ds =>
  rw[ht,jYa]at h;refine fun J H1 L s1 hit hO=>?_;have hO:=hO hcl;obtain⟨hLd,hit⟩:=hit;obtain⟨B1,sB,ok1,hB1⟩:=hB H1 s1;have inL:∀a∈L,B1 a=H1 a:=fun a ha=>hB1 a (hO a ha);have Od1:∀a,O a->(∃vs,H1 a=some (.lst vs))\/∃kvs,H1 a=some (.dK kvs):=fun a o=>by
   rcases Od a o with⟨vs,e⟩|⟨kvs,e⟩
   ·exact .inl ⟨vs,s1 _ _ e⟩
   ·exact .inr ⟨kvs,s1 _ _ e⟩
  have stay:∀H2,Same B1 H2->TF H1 H2/\∀a∈L,H2 a=H1 a:=fun H2 s2=>by
   refine⟨⟨fun a xs e=>?_,fun a o u e=>?_⟩,fun a ha=>?_⟩
   ·refine s2 a _ ((hB1 a fun z=>?_).trans e);rcases Od1 a z with⟨_,w⟩|⟨_,w⟩<;>rw[e]at w<;>cases w
   ·refine s2 a _ ((hB1 a fun z=>?_).trans e);rcases Od1 a z with⟨_,w⟩|⟨_,w⟩<;>rw[e]at w<;>cases w
   ·rw[s2.at (by rw[inL a ha];exact hLd a ha),inL a ha]
  refine⟨fun i m σ2 H2=>m=ds.length-i/\i<=ds.length/\∃τ2,SOk X.K Γ B1 H2 σ2 τ2 []/\qq X.K E B Γl Γ Z (xK g.asg tb (ds.drop i) τ2),⟨ds.length,by simp,rZ _,τ,ok1,h⟩,?_⟩;rintro i m σ2 H2 ⟨rfl,hile,τ2,ok2,h2⟩;obtain⟨tf,kp⟩:=stay H2 ok2.ext;obtain⟨go,stop⟩:=hit H2 tf kp i
  by_cases hlt:i<ds.length
  ·obtain⟨hgo,hy⟩:=go ds[i] (by simp[hlt]);rw[pR hlt]at h2;refine .inr ⟨hgo,fun σ' H'=>i+1<=ds.length/\∃τ',SOk X.K Γ B1 H' σ' τ' []/\qq X.K E B Γl Γ Z (xK g.asg tb (ds.drop (i+1)) τ'),fun σ' H' ⟨z,w⟩=>⟨ds.length-(i+1),by omega,rfl,z,w⟩,fun x H3 y=>?_⟩;obtain⟨s3,L',r',sub⟩:=hy x H3 y;unfold xK at h2;cases ha:g.asg ds[i] τ2 with
   | ok τ3 =>
    rw[ha,jYa]at h2;refine z0f (ok2.same s3) r' (fun a ha=>by rw[inL a (sub a ha)];exact hLd a (sub a ha)) hn ha fun σ3 ok3=>?_;refine q' B1 σ3 H3 τ3 _ ok3 ?_;cases hb:tb τ3 with
    | ok f =>
     rw[hb,jYa]at h2;cases f with
     | nx τ4=>exact fun σ' H' ok4=>⟨hlt,τ4,ok4.weak hw,h2⟩
     | ct τ4=>exact fun σ' H' ok4=>⟨hlt,τ4,ok4,h2⟩
     | bk τ4=>exact fun σ' H' ok4=>h2 σ' H' (ok4.rebase sB)
     | rt d=>exact fun v H' L s r n1 n2=>h2 v H' L (sB.trans s) r n1 fun a ha=>sB.non (n2 a ha)
    | err n=>rw[hb]at h2;exact fun C H' e s=>h2 C H' e (sB.trans s)
    | bad=>rw[hb]at h2;exact h2
   | err n =>
    cases g with
    | one i=>cases ha
    | many is =>
     unfold Tgt.asg at ha;split at ha
     ·cases ha
     ·split at ha<;>cases ha
     ·cases ha
   | bad=>rw[ha]at h2;exact h2.elim
  ·have e:i=ds.length:=by omega
   subst e;rw[List.drop_length]at h2;exact .inl ⟨stop (sL _),h2 σ2 H2 (ok2.rebase sB)⟩
 | err n=>rw[ht]at h;exact fun C H' e s=>h C H' e (ok.ext.trans s)
 | bad=>rw[ht]at h;exact h
def vd (hp:PassesOwn (model X.prog X.w) X.A X.env X.xe)(hc:X.calm=true)(hi:MI X E Γ tg iter it c)(hcl:c≠.bor)(hg:MG X tg g)
  (hn:∀i∈g.slots,i<Γ.length) (hb:MSs X E Γ (shrAll Γ g.slots) body tb Γ2) (hw:wk Γ2 Γ=true) (hs:autoParam (∀x,foldedSetIterable iter X.env x=pure x) au2._auto_1):MS X E Γl Γ (.For tg iter body [] pos) (yY it g tb) Γ:=by
 obtain⟨wi,p,q⟩:=hi;obtain⟨ts,p',q'⟩:=hb;exact⟨_,z4h hp hc p hg.pg p' hs,z6a hcl hn hw q q'⟩
def vZ (k:Tn->R Bool)(body:Tn->R Fl):Nat->Tn->R Fl
 | 0,_=>.bad
 | n+1,τ=>(k τ).bind fun x=>if x=true then (body τ).bind fun f=>match f with
  | .nx τ2=>vZ k body n τ2
  | .ct τ2=>vZ k body n τ2
  | .bk τ2=>.ok (.nx τ2)
  | .rt r=>.ok (.rt r)
  else .ok (.nx τ)
open Classical in
def xf (k:Tn->R Bool)(body:Tn->R Fl):Tn->R Fl:=fun τ=>if h:∃n,vZ k body n τ≠.bad then vZ k body (Classical.choose h) τ else .bad
def kA {k:Tn->R Bool}:∀(n:Nat) (τ:Tn),vZ k body n τ≠.bad->vZ k body (n+1) τ=vZ k body n τ
 | 0,τ,h=>absurd rfl h
 | n+1,τ,h=>by
  unfold vZ at h;rw[vZ,vZ];cases hk:k τ with
  | ok x =>
   rw[hk,jYa]at h;rw[jYa,jYa];cases x with
   | true =>
    rw[if_pos rfl]at h;rw[if_pos rfl,if_pos rfl];cases hb:body τ with
    | ok f =>
     rw[hb,jYa]at h;rw[jYa,jYa];cases f with
     | nx τ2=>exact kA n τ2 h
     | ct τ2=>exact kA n τ2 h
     | bk τ2=>rfl
     | rt d=>rfl
    | err n=>rfl
    | bad=>rfl
   | false=>rfl
  | err n=>rfl
  | bad=>rfl
def Qk {k:Tn->R Bool}{n m:Nat}(h:vZ k body n τ≠.bad)(hm:n<=m):vZ k body m τ=vZ k body n τ:=by
 obtain⟨j,rfl⟩:=Nat.le.dest hm
 induction j with
 | zero=>rfl
 | succ j ih =>
  have:=ih (Nat.le_add_right _ _);rw[<-Nat.add_assoc,kA (n+j) τ (by rw[this];exact h),this]
def YS {k:Tn->R Bool}{n:Nat}(h:vZ k body n τ=r)(hr:r≠.bad):xf k body τ=r:=by
 have hx:∃n,vZ k body n τ≠.bad:=⟨n,by rw[h];exact hr⟩
 unfold xf;rw[dif_pos hx];have h2:=Classical.choose_spec hx;rcases Nat.le_total n (Classical.choose hx)with z|z
 ·rw[Qk (by rw[h];exact hr) z,h]
 ·rw[<-Qk h2 z,h]
def ZL {k:Tn->R Bool}:xf k body τ=.bad\/∃n,vZ k body n τ=xf k body τ/\xf k body τ≠.bad:=by
 by_cases hx:∃n,vZ k body n τ≠.bad
 ·refine .inr ⟨Classical.choose hx,?_,?_⟩<;>unfold xf<;>rw[dif_pos hx];exact Classical.choose_spec hx
 ·refine .inl ?_;unfold xf;rw[dif_neg hx]
def jF {u:Tn->R Bool}(hp:PassesOwn (model X.prog X.w) X.A X.env X.xe)(hk:MT X E Γ k u)(hb:MSs X E Γ Γ body tb Γ2)(hw:wk Γ2 Γ=true):MS X E Γl Γ (.While k body [] pos) (xf u tb) Γ:=by
 obtain⟨te,p,q⟩:=hk;obtain⟨ts,p',q'⟩:=hb;refine⟨_,K4 hp p p',fun B σ H τ Z ok h=>?_⟩;rcases ZL (k:=u) (body:=tb) (τ:=τ)with z|⟨n,hn,_⟩
 ·rw[z]at h;exact h.elim
 rw[<-hn]at h;refine⟨fun m σ2 H2=>∃τ2,SOk X.K Γ B H2 σ2 τ2 []/\qq X.K E B Γl Γ Z (vZ u tb m τ2),⟨n,τ,ok,h⟩,?_⟩;rintro m σ2 H2 ⟨τ2,ok2,h2⟩;cases m with
 | zero=>exact h2.elim
 | succ m =>
  obtain⟨O,eo,_⟩:=ok2.eok;refine q O σ2 H2 τ2 _ eo ?_;unfold vZ at h2;cases ht:u τ2 with
  | ok x =>
   rw[ht,jYa]at h2;refine fun H3 s3=>?_;cases x with
   | true =>
    rw[if_pos rfl]at h2 ⊢;refine⟨fun σ' H'=>∃τ',SOk X.K Γ B H' σ' τ' []/\qq X.K E B Γl Γ Z (vZ u tb m τ'),fun σ' H' w=>⟨m,Nat.lt_succ_self _,w⟩,q' B σ2 H3 τ2 _ (ok2.same s3) ?_⟩;cases hb:tb τ2 with
    | ok f =>
     rw[hb,jYa]at h2;cases f with
     | nx τ4=>exact fun σ' H' ok4=>⟨τ4,ok4.weak hw,h2⟩
     | ct τ4=>exact fun σ' H' ok4=>⟨τ4,ok4,h2⟩
     | bk τ4=>exact fun σ' H' ok4=>h2 σ' H' ok4
     | rt d=>exact h2
    | err n=>rw[hb]at h2;exact h2
    | bad=>rw[hb]at h2;exact h2
   | false=>rw[if_neg sJ]at h2 ⊢;exact h2 σ2 H3 (ok2.same s3)
  | err n=>rw[ht]at h2;exact fun C H' e s=>h2 C H' e (ok2.ext.trans s)
  | bad=>rw[ht]at h2;exact h2
end
def signs (x:Str):List D:=x.cps.toList.map fun c=>.str ⟨#[c]⟩
def xk:D->R (List D)
 | .lst ds=>.ok ds
 | .tup ds=>.ok ds
 | .str x=>.ok (signs x)
 | _=>.bad
def zQ (t:Tn->R D):Tn->R (List D):=fun τ=>(t τ).bind xk
def rng (lo:Int)(n:Nat):List D:=(List.range n).map fun (i:Nat)=>.int (lo+i)
def wY:List D->R (List D)
 | [.int j]=>if -(2 ^ 62)<=j/\j<2 ^ 62 then .ok (rng 0 j.toNat) else .bad
 | _=>.bad
def v5:Nat->List D->List D
 | _,[]=>[]
 | n,d::ds=>.tup [.int n,d]::v5 (n+1) ds
def ZE:List D->R (List D)
 | [.lst ds]=>.ok (v5 0 ds)
 | _=>.bad
def iL (g:List D->R (List D))(u:Tn->R (List D)):Tn->R (List D):=fun τ=>(u τ).bind g
def Zm:∀(n:Nat) (ds:List D),(v5 n ds).length=ds.length
 | _,[]=>rfl
 | n,d::ds=>by unfold v5;rw[tF,tF,Zm (n+1) ds]
def ZP:∀(n:Nat) (ds:List D) (i:Nat) (d:D),(v5 n ds)[i]?=some d->∃d',ds[i]?=some d'/\d=.tup [.int ((n+i:Nat):Int),d']
 | _,[],_,_,h=>by simp[v5]at h
 | n,d::ds,0,e,h=>by
  unfold v5 at h;simp at h;exact⟨d,rfl,h.symm⟩
 | n,d::ds,i+1,e,h=>by
  unfold v5 at h;obtain⟨d',h1,h2⟩:=ZP (n+1) ds i e (by simpa using h);exact⟨d',by simpa using h1,by rw[h2,Nat.add_assoc,Nat.add_comm 1 i]⟩
section
def ItOk.list {K:jJa}{H:Hp}{a:Addr}{vs:List V}{ds:List D}{L L':List Addr}(ha:H a=some (.lst vs))(e:L=a::L')(r:Reps K H ds vs L'):ItOk K (Itl K a) ds L H:=by
 subst e;refine⟨fun b hb=>?_,fun H' tf kp i=>⟨fun d hd=>?_,fun hl=>?_⟩⟩
 ·rcases sI.mp hb with z|z
  ·rw[z,ha];simp
  ·exact r.there z
 ·have ha':H' a=some (.lst vs):=(kp a tN).trans ha;obtain⟨v,L1,e1,r1,sub⟩:=r.get hd;refine⟨⟨vs,v,SqL.of ha',e1⟩,fun x H'' ⟨e2,hy⟩=>?_⟩;subst e2;have:=hy vs (SqL.of ha');rw[e1]at this;cases this;exact⟨Same.refl _,L1,Rep.keep tf d _ L1 r1 fun b hb=>kp b (tS _ (sub.subset hb)),fun b hb=>tS _ (sub.subset hb)⟩
 ·have ha':H' a=some (.lst vs):=(kp a tN).trans ha;exact⟨vs,SqL.of ha',by rw[r.length];exact hl⟩
def ItOk.tuple {K:jJa}{H:Hp}{a:Addr}{vs:List V}{ds:List D}{L:List Addr}(ha:SqT K H a vs)(hun:∀H' xs,TF H H'->SqT K H' a xs->xs=vs)(r:Reps K H ds vs L):ItOk K (Itt K a) ds L H:=by
 refine⟨fun b hb=>r.there hb,fun H' tf kp i=>⟨fun d hd=>?_,fun hl=>?_⟩⟩
 ·have ha':=ha.tf tf;obtain⟨v,L1,e1,r1,sub⟩:=r.get hd;refine⟨⟨vs,v,ha',e1⟩,fun x H'' ⟨e2,hy⟩=>?_⟩;subst e2;have:=hy vs ha';rw[e1]at this;cases this;exact⟨Same.refl _,L1,Rep.keep tf d _ L1 r1 fun b hb=>kp b (sub.subset hb),fun b hb=>sub.subset hb⟩
 ·exact⟨vs,ha.tf tf,by rw[r.length];exact hl⟩
def ItOk.tup {K:jJa}{H:Hp}{a:Addr}{vs:List V}{ds:List D}{L:List Addr}(ha:SqT K H a vs)(r:Reps K H ds vs L):ItOk K (Itt K a) ds L H:=by
 refine⟨fun b hb=>r.there hb,fun H' tf kp i=>⟨fun d hd=>?_,fun hl=>?_⟩⟩
 ·have ha':=ha.tf tf;obtain⟨v,L1,e1,r1,sub⟩:=r.get hd;refine⟨⟨vs,v,ha',e1⟩,fun x H'' ⟨e2,hy⟩=>?_⟩;subst e2;have:=hy vs ha';rw[e1]at this;cases this;exact⟨Same.refl _,L1,Rep.keep tf d _ L1 r1 fun b hb=>kp b (sub.subset hb),fun b hb=>sub.subset hb⟩
 ·exact⟨vs,ha.tf tf,by rw[r.length];exact hl⟩
def ItOk.str {K:jJa}{H:Hp}{x:Str}:ItOk K (Its x) (signs x) [] H:=by
 refine⟨fun b hb=>(nomatch hb),fun H' tf kp i=>⟨fun d hd=>?_,fun hl=>?_⟩⟩
 ·unfold signs at hd;rw[sV]at hd;cases hq:x.cps.toList[i]? with
  | none=>rw[hq]at hd;cases hd
  | some k =>
   rw[hq]at hd;have hd:D.str ⟨#[k]⟩=d:=jYe hd;subst hd;have hi:i<x.cps.size:=by
    have:=(sN.mp hq).1
    simpa using this
   refine⟨hi,fun y H'' ⟨e2,c',e3,e4⟩=>?_⟩;subst e2 e4;rw[<-Array.getElem?_toList,hq]at e3;cases e3;exact⟨Same.refl _,[],⟨rfl,rfl⟩,fun b hb=>(nomatch hb)⟩
 ·have:(signs x).length=x.cps.size:=by simp[signs]
  show x.cps.size<=i;lia
def ItOk.rng {K:jJa}{H:Hp}{lo:Int}{n:Nat}:ItOk K (Itr lo n) (L2.rng lo n) [] H:=by
 refine⟨fun b hb=>(nomatch hb),fun H' tf kp i=>⟨fun d hd=>?_,fun hl=>?_⟩⟩
 ·unfold L2.rng at hd;rw[sV]at hd
  by_cases hi:i<n
  ·rw[pV hi]at hd;have hd:D.int (lo+(i:Int))=d:=jYe hd;subst hd;refine⟨hi,fun y H'' ⟨e2,e3⟩=>?_⟩;subst e2 e3;exact⟨Same.refl _,[],⟨rfl,rfl⟩,fun b hb=>(nomatch hb)⟩
  ·rw[pC (by simp;lia)]at hd;cases hd
 ·have:(L2.rng lo n).length=n:=by simp[L2.rng]
  show n<=i;lia
def ItOk.enum {K:jJa}{H:Hp}{a:Addr}{vs:List V}{ds:List D}{L L':List Addr}(ha:H a=some (.lst vs))(e:L=a::L')(r:Reps K H ds vs L'):ItOk K (Ite K a) (v5 0 ds) L H:=by
 subst e;refine⟨fun b hb=>?_,fun H' tf kp i=>⟨fun d hd=>?_,fun hl=>?_⟩⟩
 ·rcases sI.mp hb with z|z
  ·rw[z,ha];simp
  ·exact r.there z
 ·have ha':H' a=some (.lst vs):=(kp a tN).trans ha;obtain⟨d',hd',rfl⟩:=ZP 0 ds i d hd;obtain⟨v,L1,e1,r1,sub⟩:=r.get hd';refine⟨⟨vs,v,SqL.of ha',e1⟩,fun x H'' ⟨p,y,hp,e2,e3,hy⟩=>?_⟩;subst e2 e3;have:=hy vs (SqL.of ha');rw[e1]at this;cases this;refine⟨Same.new hp,L1,⟨p,_,rfl,SqT.of zT,?_⟩,fun b hb=>tS _ (sub.subset hb)⟩;have r2:Rep K H' d' v L1:=Rep.keep tf d' _ L1 r1 fun b hb=>kp b (tS _ (sub.subset hb));have:=Reps.cons (K:=K) (H:=upd H' p (.tup [.int (i:Int),v])) (d:=.int ((0+i:Nat):Int)) (v:=.int (i:Int)) (L1:=[]) ⟨by simp,rfl⟩ (Reps.cons (r2.same (Same.new hp)) Reps.nil)
  simpa using this
 ·have ha':H' a=some (.lst vs):=(kp a tN).trans ha;rw[Zm]at hl;exact⟨vs,SqL.of ha',by rw[r.length];exact hl⟩
def yH (h:ME X E Γ e t c):MI X E Γ tg e (zQ t) c:=by
 obtain⟨te,p,q⟩:=h;refine⟨fun σ H Rr=>z2S X.K te σ H Rr\/z5U X.K te σ H Rr\/z6c te σ H Rr,fun pins s σ H Rr I z=>?_,fun O σ H τ Rr ok h=>?_⟩
 ·rcases z with z|z|z
  ·exact z1i p pins s σ H Rr I z
  ·exact z46 p pins s σ H Rr I z
  ·exact z49 p pins s σ H Rr I z
 ·unfold zQ at h;cases ht:t τ with
  | ok d =>
   rw[ht,jYa]at h;cases d with
   | lst ds =>
    refine .inl (q O σ H τ _ ok ?_);rw[ht];refine fun v H1 L s r k=>?_;obtain⟨a,vs,L',rfl,ha,e,rs⟩:=r;exact⟨a,rfl,⟨vs,SqL.of ha⟩,h _ H1 L s (ItOk.list ha e rs) fun n=>k.shr ok.dom n⟩
   | tup ds =>
    refine .inr (.inl (q O σ H τ _ ok ?_));rw[ht];refine fun v H1 L s r k=>?_;obtain⟨a,vs,rfl,ha,rs⟩:=r;exact⟨a,rfl,⟨vs,ha⟩,h _ H1 L s (ItOk.tup ha rs) fun n=>k.shr ok.dom n⟩
   | str x =>
    refine .inr (.inr (q O σ H τ _ ok ?_));rw[ht];refine fun v H1 L s r k=>?_;exact⟨x,r.1,h _ H1 [] s ItOk.str fun n a ha=>(nomatch ha)⟩
   | _=>exact h.elim
  | err n =>
   rw[ht]at h;refine .inl (q O σ H τ _ ok ?_);rw[ht];exact h
  | bad=>rw[ht]at h;exact h.elim
def vn (hg:Gl X "range")(hm:X.mg "range"=none)(ha:MA X E Γ [a] u c)(hs:autoParam (starEach [a] X.env=[(false,eval a X.env)]) au3._auto_1):MI X E Γ tg (.Call (.Name "range" p) [a] [] pos) (iL wY u) .fresh:=by
 obtain⟨_,ta,p',q⟩:=ha;refine⟨_,Jb hg hm p' hs,fun O σ H τ Rr ok h=>q O σ H τ _ ok ?_⟩;unfold iL at h;cases ht:u τ with
 | ok ds =>
  rw[ht,jYa]at h;refine fun vs H1 L s r k=>?_;unfold wY at h;split at h
  ·rename_i j;obtain⟨v,vs',L1,L2,e1,_,r1,r2⟩:=r;obtain⟨rfl,_⟩:=r1;obtain⟨rfl,_⟩:=r2
   by_cases hj:-(2 ^ 62)<=j/\j<2 ^ 62
   ·rw[if_pos hj]at h;exact⟨j,e1,hj.1,hj.2,h _ H1 [] s ItOk.rng fun n a ha=>(nomatch ha)⟩
   ·rw[if_neg hj]at h;exact h.elim
  ·exact h.elim
 | err n=>rw[ht]at h;exact h
 | bad=>rw[ht]at h;exact h
def z1d {elts:List Expr}{x1:Nat}{tpos:Pos}(hg:Gl X "enumerate")(hm:X.mg "enumerate"=none)(ha:MA X E Γ [a] u c)(hb:autoParam (bootBuiltins "enumerate"=some (.type "enumerate")) au3._auto_1)(hs:autoParam (starEach [a] X.env=[(false,eval a X.env)]) au3._auto_1):
  MI X E Γ (.Tuple elts x1 tpos) (.Call (.Name "enumerate" p) [a] [] pos) (iL ZE u) c:=by
 obtain⟨_,ta,p',q⟩:=ha;refine⟨_,z1s hg hm p' hb hs,fun O σ H τ Rr ok h=>q O σ H τ _ ok ?_⟩;unfold iL at h;cases ht:u τ with
 | ok ds =>
  rw[ht,jYa]at h;refine fun vs H1 L s r k=>?_;unfold ZE at h;split at h
  ·rename_i ds;obtain⟨v,vs',L1,L2,e1,e2,r1,r2⟩:=r;obtain⟨rfl,rfl⟩:=r2;rw[tZ]at e2;subst e2;obtain⟨a',vs2,L',rfl,ha,e,rs⟩:=r1;exact⟨a',e1,⟨vs2,SqL.of ha⟩,h _ H1 _ s (ItOk.enum ha e rs) fun n=>k.shr ok.dom n⟩
  ·exact h.elim
 | err n=>rw[ht]at h;exact h
 | bad=>rw[ht]at h;exact h
end
def vz (fr:List (Option Nat))(τ:Tn):Tn:=fr.map fun o=>o.bind fun i=>(τ[i]?).join
def yP (fr:List (Option Nat))(Γ:List Cl):List Cl:=fr.map fun o=>match o with
 | some i=>(match Γ[i]? with
  | some .shr=>.shr
  | some .own=>.brw
  | some .brw=>.brw
  | _=>.dead)
 | none=>.dead
def xo (k:Cl):List Cl->List Nat->List Cl
 | Γ,[]=>Γ
 | Γ,i::is=>xo k (Γ.set i k) is
def Cl.ofIt:Rc->Cl
 | .bor=>.brw
 | _=>.shr
def yQ (f:D->R (Option D)):List D->R (List D)
 | []=>.ok []
 | d::ds=>(f d).bind fun o=>(yQ f ds).bind fun ys=>.ok (o.toList++ys)
def qi {α:Type}:R α->R α
 | .err _=>.bad
 | r=>r
def ya (asg:D->Tn->R Tn)(cnd:Tn->R Bool)(elt:Tn->R D)(τ:Tn)(d:D):R (Option D):=
 qi ((asg d τ).bind fun τ1=>(cnd τ1).bind fun k=>if k=true then (elt τ1).bind fun y=>.ok (some y) else .ok none)
def xl (fr:List (Option Nat))(it:Tn->R (List D))(g:Tgt)(cnd:Tn->R Bool)(elt:Tn->R D):Tn->R D:=fun τ=>(it τ).bind fun xs=>(yQ (ya g.asg cnd elt (vz fr τ)) xs).bind fun ys=>if ys.length<=sizeLine then .ok (.lst ys) else .bad
def MTs (X:Cx)(E:XK)(Γ:List Cl)(ifs:List Expr)(t:Tn->R Bool):Prop:=
 ∃te,PTs X ifs te/\∀O σ H τ Q,EOk X.K Γ O H σ τ->postB X.K E H Q (t τ)->te σ H Q
def yS:MTs X E Γ [] (fun _=>.ok true):=⟨z67,z1V,fun O σ H τ Q ok h=>h H (Same.refl H)⟩
def z20 {t:Tn->R Bool}(h:MT X E Γ e t):MTs X E Γ [e] t:=by
 obtain⟨te,p,q⟩:=h;exact⟨te,z1N p,q⟩
def MTs.pts {t:Tn->R Bool}(h:MTs X E Γ e t):PTs X e (wpT X.K E Γ t):=by
 obtain⟨te,p,q⟩:=h;rintro pins s σ H Q I ⟨O,τ,ok,z⟩;exact p pins s σ H Q I (q O σ H τ Q ok z)
section
variable {K:jJa}{Γ:List Cl}{O:Addr->Prop}{H:Hp}{σ:St}{τ:Tn}
def EOk.comp {fr:List (Option Nat)}(h:EOk K Γ O H σ τ):EOk K (yP fr Γ) O H (wN fr σ) (vz fr τ):=by
 refine⟨h.dom,fun j c e hc=>?_⟩;unfold yP at e;rw[sV]at e;cases ho:fr[j]? with
 | none=>rw[ho]at e;cases e
 | some o =>
  rw[ho]at e;cases o with
  | none=>exact absurd (jYe e).symm hc
  | some i =>
   have e:(match Γ[i]? with|some .shr=>Cl.shr|some .own=>.brw|some .brw=>.brw|_=>.dead)=c:=jYe e;have key:∃k,Γ[i]?=some k/\k≠.dead/\(c=.shr->k=.shr):=by
    cases hk:Γ[i]? with
    | none=>rw[hk]at e;exact absurd e.symm hc
    | some k =>
     rw[hk]at e;cases k with
     | own=>subst e;exact⟨_,rfl,by simp,fun z=>by cases z⟩
     | shr=>exact⟨_,rfl,by simp,fun _=>rfl⟩
     | brw=>subst e;exact⟨_,rfl,by simp,fun z=>by cases z⟩
     | dead=>exact absurd e.symm hc
   obtain⟨k,k1,k2,k3⟩:=key;obtain⟨v,d,L,e1,e2,r,hs⟩:=h.slot i k k1 k2;refine⟨v,d,L,?_,?_,r,fun z=>hs (k3 z)⟩
   ·unfold wN;rw[sV,ho];show some ((σ[i]?).join)=_;rw[e1];rfl
   ·unfold vz;rw[sV,ho];show some ((τ[i]?).join)=_;rw[e2];rfl
def EOk.put {i:Nat}{k:Cl}{d:D}{v:V}{L:List Addr}(h:EOk K Γ O H σ τ)(r:Rep K H d v L)(hk:k=.shr->∀a∈L,¬O a)(h1:σ.length=Γ.length)(h2:τ.length=Γ.length):EOk K (Γ.set i k) O H (σ.set i (some v)) (τ.set i (some d)):=by
 refine⟨h.dom,fun j c e hc=>?_⟩
 by_cases z:i=j
 ·subst z;have hi:i<Γ.length:=by
   have:=(sN.mp e).1
   simpa using this
  rw[sP hi]at e;cases e;exact⟨v,d,L,by rw[sP (by lia)],by rw[sP (by lia)],r,hk⟩
 ·rw[sO z]at e;obtain⟨v',d',L',a1,a2,a3,a4⟩:=h.slot j c e hc;exact⟨v',d',L',by rw[sO z];exact a1,by rw[sO z];exact a2,a3,a4⟩
end
def EOk.putAll {K:jJa}{O:Addr->Prop}{H:Hp}{k:Cl}{Γ:List Cl}{σ:St}{τ:Tn}{is:List Nat}{ds:List D}{vs:List V}{L:List Addr}(h:EOk K Γ O H σ τ)(r:Reps K H ds vs L)(hL:k=.shr->∀a∈L,¬O a)(hl:ds.length=is.length)(h1:σ.length=Γ.length)(h2:τ.length=Γ.length):
  EOk K (xo k Γ is) O H (wg σ is vs) (wg τ is ds):=by
 induction is generalizing Γ σ τ ds vs L with
 | nil =>
  cases ds with
  | nil=>cases r.1;exact h
  | cons=>cases hl
 | cons i is ih =>
  cases ds with
  | nil=>cases hl
  | cons d ds =>
   obtain⟨v,vs',L1,L2,e1,e2,r1,r2⟩:=r;subst e1 e2;exact ih (h.put r1 (fun z a ha=>hL z a (sE _ ha)) h1 h2) r2 (fun z a ha=>hL z a (sD _ ha)) (Nat.succ.inj hl) (by rw[sS,sS];exact h1) (by rw[sS,sS];exact h2)
def Zz {α:Type}:∀(is:List Nat) (σ:List (Option α)) (vs:List α),(wg σ is vs).length=σ.length
 | [],σ,vs=>by unfold wg;rfl
 | i::is,σ,[]=>by unfold wg;rfl
 | i::is,σ,v::vs=>by unfold wg;rw[Zz is,sS]
def Xj {α:Type}{j:Nat}:∀(is:List Nat) (σ:List (Option α)) (vs:List α),j∉is->(wg σ is vs)[j]?=σ[j]?
 | [],σ,vs,_=>by unfold wg;rfl
 | i::is,σ,[],_=>by unfold wg;rfl
 | i::is,σ,v::vs,h=>by
  unfold wg;rw[Xj is _ vs (fun z=>h (tS _ z)),sO (fun (z:i=j)=>h (z▸tN))]
def z0L {K:jJa}{Γ:List Cl}{O:Addr->Prop}{H:Hp}{σ:St}{τ τ1:Tn}{d:D}{v:V}{L:List Addr}{g:Tgt}{k:Cl}(h:EOk K Γ O H σ τ)(r:Rep K H d v L)(hL:k=.shr->∀a∈L,¬O a)(h1:σ.length=Γ.length)(h2:τ.length=Γ.length)(ha:g.asg d τ=.ok τ1)
  {Q:St->Hp->Prop} (kk:∀σ1,EOk K (xo k Γ g.slots) O H σ1 τ1->σ1.length=σ.length->(∀j,j∉g.slots->σ1[j]?=σ[j]?)->Q σ1 H):tgG K g v σ H Q:=by
 cases g with
 | one i =>
  cases ha;exact kk _ (h.put r hL h1 h2) (by simp) fun j hj=>sO fun z=>hj (by simp[Tgt.slots,z])
 | many is =>
  cases d with
  | tup ds =>
   unfold Tgt.asg at ha;dsimp only at ha
   by_cases hl:ds.length=is.length
   ·rw[if_pos hl]at ha;cases ha;obtain⟨a,vs,rfl,hs,rs⟩:=r;have hv:vs.length=is.length:=rs.length.trans hl;exact⟨a,vs,rfl,hs,hv,kk _ (h.putAll rs hL hl h1 h2) (Zz _ _ _) fun j hj=>Xj is σ vs hj⟩
   ·rw[if_neg hl]at ha;cases ha
  | _=>cases ha
abbrev noX:XK:=fun _ _ _=>False
def Vc {α:Type}{r:R α}{a:α}(h:qi r=.ok a):r=.ok a:=by
 cases r with
 | ok b=>exact h
 | err n=>cases h
 | bad=>cases h
def YZ {α:Type}{r:R α}{n:Str}(h:qi r=.err n):False:=by cases r<;>cases h
def qy {f:D->R (Option D)}(hf:∀d n,f d≠.err n):∀(ds:List D) (n:Str),yQ f ds≠.err n
 | [],n,h=>by cases h
 | d::ds,n,h=>by
  unfold yQ at h;cases h1:f d with
  | ok o =>
   rw[h1,jYa]at h;cases h2:yQ f ds with
   | ok ys=>rw[h2]at h;cases h
   | err m=>exact qy hf ds m h2
   | bad=>rw[h2]at h;cases h
  | err m=>exact hf d m h1
  | bad=>rw[h1]at h;cases h
def uf {α β:Type}{r:R α}{f:α->R β}{b:β}(h:r.bind f=.ok b):∃a,r=.ok a/\f a=.ok b:=by
 cases r with
 | ok a=>exact⟨a,rfl,h⟩
 | err n=>cases h
 | bad=>cases h
def ZM {f:D->R (Option D)}{d:D}{ds ys:List D}(h:yQ f (d::ds)=.ok ys):∃o zs,f d=.ok o/\yQ f ds=.ok zs/\ys=o.toList++zs:=by
 unfold yQ at h;obtain⟨o,h1,h⟩:=uf h;obtain⟨zs,h2,h⟩:=uf h;cases h;exact⟨o,zs,h1,h2,rfl⟩
def EOk.live {K:jJa}{Γ:List Cl}{O:Addr->Prop}{H:Hp}{σ σ':St}{τ:Tn}(h:EOk K Γ O H σ τ)(e:∀(j:Nat) (c:Cl),Γ[j]?=some c->c≠Cl.dead->σ'[j]?=σ[j]?):EOk K Γ O H σ' τ:=
 ⟨h.dom,fun i c e1 hc=>by
  obtain⟨v,d,L,a1,a2,a3,a4⟩:=h.slot i c e1 hc;exact⟨v,d,L,by rw[e i c e1 hc];exact a1,a2,a3,a4⟩⟩
section
variable {X:Cx}{E:XK}{Γ:List Cl}{pos:Pos}
def z0T {fr:List (Option Nat)}{tg iter:Expr}{it:Tn->R (List D)}{g:Tgt}{cnd:Tn->R Bool}{te:Tn->R D}{ci c:Rc}(hi:MI X E Γ tg iter it ci)(hcl:c≠.bor)(hd:∀j∈g.slots,(yP fr Γ)[j]?=some .dead):
  ∃wi,PI X tg iter wi/\∀O σ H τ Q,EOk X.K Γ O H σ τ->post X.K E O c H Q (xl fr it g cnd te τ)->UP fr wi (tgG X.K g) (wpT X.K noX (xo (Cl.ofIt ci) (yP fr Γ) g.slots) cnd) (wpE X.K noX (xo (Cl.ofIt ci) (yP fr Γ) g.slots) te c) σ H Q:=by
 have hT0:∀σ H Q,(∃O τ,EOk X.K (xo (Cl.ofIt ci) (yP fr Γ) g.slots) O H σ τ/\postB X.K noX H Q (cnd τ))->wpT X.K noX (xo (Cl.ofIt ci) (yP fr Γ) g.slots) cnd σ H Q:=fun _ _ _ h=>h;have hE0:∀σ H Q,(∃O τ,EOk X.K (xo (Cl.ofIt ci) (yP fr Γ) g.slots) O H σ τ/\post X.K noX O c H Q (te τ))->wpE X.K noX (xo (Cl.ofIt ci) (yP fr Γ) g.slots) te c σ H Q:=fun _ _ _ h=>h;generalize wpT X.K noX (xo (Cl.ofIt ci) (yP fr Γ) g.slots) cnd=TC at hT0 ⊢;generalize wpE X.K noX (xo (Cl.ofIt ci) (yP fr Γ) g.slots) te c=TE0 at hE0 ⊢;obtain⟨wi,p,q⟩:=hi;refine⟨wi,p,fun O σ H τ Q ok h=>q O σ H τ _ ok ?_⟩;unfold xl at h;cases hit':it τ with
 | err n=>rw[hit']at h;exact h
 | bad=>rw[hit']at h;exact h
 | ok ds =>
  rw[hit',jYa]at h;refine fun J H1 L s1 hJ hO dd hD=>?_;obtain⟨hLd,hit⟩:=hJ;generalize hF:ya g.asg cnd te (vz fr τ)=F at h;cases hcL:yQ F ds with
  | err n=>exact absurd hcL (qy (fun d n z=>by rw[<-hF]at z;exact YZ z) ds n)
  | bad=>rw[hcL]at h;exact h.elim
  | ok ys =>
   rw[hcL,jYa]at h
   by_cases hz:ys.length<=sizeLine
   ·rw[if_pos hz]at h;have hD0:H dd=none:=s1.non hD;have WA:(wN fr σ).length=(yP fr Γ).length:=by simp[wN,yP]
    have lenT:(vz fr τ).length=(yP fr Γ).length:=by simp[vz,yP]
    obtain⟨W,hW⟩:∃W:Nat->Nat->List V->St->Hp->Prop,∀i m ysv τ' H2,W i m ysv τ' H2↔(m=ds.length-i/\i<=ds.length/\H2 dd=some (.lst ysv)/\(∀b,b≠dd->H1 b≠none->H2 b=H1 b)/\τ'.length=(yP fr Γ).length/\(∀j,j∉g.slots->τ'[j]?=(wN fr σ)[j]?) /\
     ∃dn rs Ly,ys=dn++rs/\yQ F (ds.drop i)=.ok rs/\Reps X.K H2 dn ysv Ly/\dd∉Ly/\RcOk c O H1 Ly):=⟨_,fun _ _ _ _ _=>Iff.rfl⟩
    refine⟨W,⟨ds.length,(hW _ _ _ _ _).mpr ⟨by simp,rZ _,zT,fun b hb _=>y8 hb,WA,fun _ _=>rfl,[],ys,[],rfl,by simpa using hcL,Reps.nil,by simp,RcOk.nil⟩⟩,?_⟩;intro i m ysv τ' H2 hw0;obtain⟨rfl,hile,hDy,kp,hl',hj',dn,rs,Ly,eys,hrs,rdn,nD,kLy⟩:=(hW _ _ _ _ _).mp hw0;refine⟨hDy,?_⟩;have sH:Same H H2:=fun b o e=>by
     have e1:=s1 b o e;have nb:b≠dd:=yx e hD0;rw[kp b nb (by rw[e1];simp)];exact e1
    have s12:∀b o,H1 b=some o->H2 b=some o:=fun b o e=>by
     rw[kp b (yx e hD) (by rw[e];simp)];exact e
    have okO:EOk X.K Γ (fun a=>O a\/a=dd) H2 σ τ:=by
     refine⟨fun a ha=>?_,fun j k e hk=>?_⟩
     ·rcases ha with ha|ha
      ·exact (ok.same sH).dom a ha
      ·rw[ha,hDy];simp
     ·obtain⟨v,d,L0,a1,a2,a3,a4⟩:=ok.slot j k e hk;refine⟨v,d,L0,a1,a2,a3.same sH,fun z a ha hm=>?_⟩;rcases hm with hm|hm
      ·exact a4 z a ha hm
      ·exact a3.there ha (hm▸hD0)
    have okc:EOk X.K (yP fr Γ) (fun a=>O a\/a=dd) H2 τ' (vz fr τ):=(okO.comp (fr:=fr)).live fun j k e hk=>hj' j fun hm=>by
     rw[hd j hm]at e;exact hk (jYe e).symm
    obtain⟨go,stop⟩:=hit H2 ⟨fun a xs e=>s12 a _ e,fun a o u e=>s12 a _ e⟩ (fun a ha=>kp a (fun z=>hLd a ha (z▸hD)) (hLd a ha)) i
    by_cases hlt:i<ds.length
    ·obtain⟨hgo,hy⟩:=go ds[i] (by simp[hlt]);refine .inr ⟨hgo,fun x H3 y=>?_⟩;obtain⟨s3,L',r',sub⟩:=hy x H3 y;rw[pR hlt]at hrs;obtain⟨o,zs,ho,hzs,ers⟩:=ZM hrs;rw[<-hF]at ho;have ho:=Vc ho;obtain⟨τ1,ha,ho⟩:=uf ho;obtain⟨k,hk,ho⟩:=uf ho;refine z0L (k:=Cl.ofIt ci) (okc.same s3) r' (fun z a ha hm=>?_) hl' lenT ha fun σ1 ok1 hl1 hj1=>?_
     ·have hci:ci≠.bor:=fun w=>by subst w;cases z
      rcases hm with hm|hm
      ·exact hO hci a (sub a ha) hm
      ·exact hLd a (sub a ha) (hm▸hD)
     ·refine hT0 _ _ _ ⟨_,τ1,ok1,?_⟩;rw[hk];refine fun H5 s5=>?_;have s25:=s3.trans s5;cases k with
      | true =>
       rw[if_pos rfl]at ho;dsimp only;rw[if_pos rfl];obtain⟨yd,hyd,ho⟩:=uf ho;cases ho;refine hE0 _ _ _ ⟨_,τ1,ok1.same s5,?_⟩;rw[hyd];refine fun yv H6 Lw s6 r6 k6=>?_;have s26:=s25.trans s6;have hD6:H6 dd=some (.lst ysv):=s26 dd _ hDy;have hlen:ysv.length=dn.length:=rdn.length;have nDw:dd∉Lw:=fun hm=>by
        cases c with
        | fresh=>have:=k6.2 dd hm;rw[s25 dd _ hDy]at this;cases this
        | shr=>exact k6 dd hm (.inr rfl)
        | bor=>exact hcl rfl
       have mu:(∃vs,H6 dd=some (.lst vs))\/∃kvs,H6 dd=some (.dK kvs):=.inl ⟨_,hD6⟩;refine⟨hD6,?_,ds.length-(i+1),by lia,(hW _ _ _ _ _).mpr ⟨rfl,hlt,zT,fun b hb hn=>?_,by rw[hl1];exact hl',fun j hj=>(hj1 j hj).trans (hj' j hj),dn++[yd],zs,Ly++Lw,?_,hzs,?_,?_,?_⟩⟩
       ·rw[eys,ers,tH,tH]at hz;simp only[Option.toList,pK]at hz;lia
       ·rw[y8 hb,<-kp b hb hn];exact s26.at (by rw[kp b hb hn];exact hn)
       ·rw[eys,ers,sF];rfl
       ·have:=Reps.append ((rdn.same s26).upd (o:=.lst (ysv++[yv])) mu nD) (Reps.cons (r6.upd (o:=.lst (ysv++[yv])) mu nDw) Reps.nil);rw[tZ]at this;exact this
       ·intro hm;rcases sC.mp hm with z|z
        ·exact nD z
        ·exact nDw z
       ·cases c with
        | fresh =>
         refine⟨sQ.mpr ⟨kLy.1,k6.1,fun a ha b hb z=>?_⟩,fun a ha=>?_⟩
         ·subst z;have h2:=rdn.there ha;have h5:=k6.2 a hb;exact h2 (s25.non h5)
         ·rcases sC.mp ha with z|z
          ·exact kLy.2 a z
          ·have h5:=k6.2 a z;have h2:H2 a=none:=s25.non h5;cases e1:H1 a with
           | none=>rfl
           | some o=>rw[s12 a o e1]at h2;cases h2
        | shr =>
         intro a ha;rcases sC.mp ha with z|z
         ·exact kLy a z
         ·exact fun w=>k6 a z (.inl w)
        | bor=>exact absurd rfl hcl
      | false =>
       rw[if_neg sJ]at ho;dsimp only;rw[if_neg sJ];cases ho;refine⟨ds.length-(i+1),by lia,(hW _ _ _ _ _).mpr ⟨rfl,hlt,s25 dd _ hDy,fun b hb hn=>?_,by rw[hl1];exact hl',fun j hj=>(hj1 j hj).trans (hj' j hj),dn,zs,Ly,?_,hzs,rdn.same s25,nD,kLy⟩⟩
       ·rw[<-kp b hb hn];exact s25.at (by rw[kp b hb hn];exact hn)
       ·rw[eys,ers];rfl
    ·have e:i=ds.length:=by lia
     subst e;rw[List.drop_length]at hrs;cases hrs;rw[tZ]at eys;subst eys;refine .inl ⟨stop (sL _),h (.ref dd) H2 (dd::Ly) sH ⟨dd,ysv,Ly,rfl,hDy,rfl,rdn⟩ ?_⟩;cases c with
     | fresh =>
      refine⟨rC.mpr ⟨nD,kLy.1⟩,fun a ha=>?_⟩;rcases sI.mp ha with z|z
      ·rw[z];exact hD0
      ·exact s1.non (kLy.2 a z)
     | shr =>
      intro a ha;rcases sI.mp ha with z|z
      ·rw[z];exact fun w=>ok.dom dd w hD0
      ·exact kLy a z
     | bor=>exact absurd rfl hcl
   ·rw[if_neg hz]at h;exact h.elim
def xu {N':List Str}{fr:List (Option Nat)}{scope:Scope}{tg iter elt:Expr}{ifs:List Expr}{it:Tn->R (List D)}{g:Tgt}{cnd:Tn->R Bool}{te:Tn->R D}{ci c:Rc}(hc:X.calm=true)(S:CompScope X N' fr scope)(hi:MI X E Γ tg iter it ci)
  (hg:∀s₃ H₃ fp pins,MG (xm X scope N' s₃ H₃ fp pins) tg g) (ht:∀s₃ H₃ fp pins,MTs (xm X scope N' s₃ H₃ fp pins) noX (xo (Cl.ofIt ci) (yP fr Γ) g.slots) ifs cnd)
  (he:∀s₃ H₃ fp pins,ME (xm X scope N' s₃ H₃ fp pins) noX (xo (Cl.ofIt ci) (yP fr Γ) g.slots) elt te c) (hcl:c≠.bor) (hd:∀j∈g.slots,(yP fr Γ)[j]?=some .dead)
  (hs:autoParam (∀x,foldedSetIterable iter X.env x=pure x) au2._auto_1):ME X E Γ (.ListComp elt [⟨tg,iter,ifs,0⟩] scope pos) (xl fr it g cnd te) c:=by
 obtain⟨wi,p,q⟩:=z0T (cnd:=cnd) (te:=te) hi hcl hd;exact⟨_,QF hc S p (fun s₃ H₃ fp pins=>(hg s₃ H₃ fp pins).pg) (fun s₃ H₃ fp pins=>(ht s₃ H₃ fp pins).pts) (fun s₃ H₃ fp pins=>(he s₃ H₃ fp pins).pe) hs,q⟩
end
def spM (K:jJa)(F:List D->R D)(n:Nat):Sp:=fun vs H Q E=>vs.length=n/\∃ds L,Reps K H ds vs L/\post K E (fun _=>False) .fresh H Q (F ds)
def zr (n:Nat)(t:Tn->R Fl)(ds:List D):R D:=match t (ds.map some++List.replicate (n-ds.length) none)with
 | .ok (.rt d)=>.ok d
 | .ok (.nx _)=>.ok .non
 | .err c=>.err c
 | _=>.bad
def qd (n m:Nat):List Cl:=List.replicate m .shr++List.replicate (n-m) .dead
def Reps.slot {K:jJa}{H:Hp}{ds:List D}{vs:List V}{L:List Addr}(r:Reps K H ds vs L):∃Ls:Nat->List Addr,∀(i:Nat) (d:D),ds[i]?=some d->∃v,vs[i]?=some v/\Rep K H d v (Ls i):=by
 have:∀i:Nat,∃L1:List Addr,∀d,ds[i]?=some d->∃v,vs[i]?=some v/\Rep K H d v L1:=fun i=>by
  cases h:ds[i]? with
  | none=>exact⟨[],fun d z=>by cases z⟩
  | some d =>
   obtain⟨v,L1,e1,r1,_⟩:=r.get h;exact⟨L1,fun d' z=>by cases z;exact⟨v,e1,r1⟩⟩
 exact⟨fun i=>Classical.choose (this i),fun i=>Classical.choose_spec (this i)⟩
def SOk.start {K:jJa}{H:Hp}{N:List Str}{ds:List D}{vs:List V}{L:List Addr}(r:Reps K H ds vs L)(hn:vs.length<=N.length):SOk K (qd N.length vs.length) H H (L2.start N vs) (ds.map some++List.replicate (N.length-ds.length) none) []:=by
 have hl:=r.length;have lp:(qd N.length vs.length).length=N.length:=by unfold qd;rw[tH,sW,sW];lia
 obtain⟨Ls,hL⟩:=r.slot;have cls:∀i c,(qd N.length vs.length)[i]?=some c->c≠.dead->i<vs.length/\c=.shr:=fun i c e hc=>by
  unfold qd at e
  by_cases hi:i<vs.length
  ·rw[rE (by simpa using hi),rQ,if_pos hi]at e;exact⟨hi,(jYe e).symm⟩
  ·rw[rM (by simp;lia),rQ]at e;split at e
   ·exact absurd (jYe e).symm hc
   ·cases e
 have no:∀i:Nat,(qd N.length vs.length)[i]?≠some Cl.own:=fun i e=>by
  have:=(cls i _ e (by simp)).2;cases this
 refine⟨Same.refl H,?_,?_,Ls,fun i c e hc=>?_,fun i e=>absurd e (no i),fun i j c _ e=>absurd e (no i),pE,fun a ha=>(nomatch ha),fun i c e hc a ha hm=>(nomatch hm)⟩
 ·unfold L2.start;rw[lp,tH,tU,sW];lia
 ·rw[lp,tH,tU,sW];lia
 ·obtain⟨hi,_⟩:=cls i c e hc;have hi':i<ds.length:=by lia
  obtain⟨v,e1,r1⟩:=hL i ds[i] (by simp[hi']);refine⟨v,ds[i],?_,?_,r1⟩
  ·unfold L2.start;rw[rE (by simpa using hi),sV,e1];rfl
  ·rw[rE (by simpa using hi'),sV];simp[hi']
section
variable {P:Program}{w:World}{K:jJa}{mg:Str->Option Value}{base:Heap}{x:Str}{st:Stmt}{N ps:List Str}{k:Nat}{t:Tn->R Fl}{Γ':List Cl}
def DefIn.mir (Df:DefIn K mg x st ps)(S:FnScope N ps (defScope st))(hn:ps.length<=N.length)
  (hbody:∀(f:Addr) (cdv:Value) (A:Around) (outer:List Env) (s:Shared) (H:Hp) (E:XK),Room k (A.deeper (envOfC x (defScope st) s.heap.objs.size f cdv)) ->
   MSs (vp (cxx P w) P w K mg base N x (defScope st) f cdv A outer s H E) E [] (qd N.length ps.length) (defBody st) t Γ'):Own P w K mg base x (k+1) ps (spM K (zr N.length t) ps.length):=by
 refine Df.own S (fun vs H Q E h=>h.1) fun f cdv A outer s H vs Q E hr h=>?_;obtain⟨hl,ds,L,r,h⟩:=h;obtain⟨ts,p,q⟩:=hbody f cdv A outer s H E hr;refine⟨ts,p,q H (start N vs) H _ _ (hl▸SOk.start r (by lia)) ?_⟩;unfold zr at h;cases ht:t (ds.map some++List.replicate (N.length-ds.length) none)with
 | ok f =>
  rw[ht]at h;cases f with
  | nx τ'=>exact fun σ' H' ok'=>h .non H' [] ok'.ext ⟨rfl,rfl⟩ RcOk.nil
  | rt d=>exact fun v H' L s r n1 n2=>h v H' L s r ⟨n1,n2⟩
  | bk τ'=>exact h.elim
  | ct τ'=>exact h.elim
 | err n=>rw[ht]at h;exact fun C H' e s=>h C H' e s
 | bad=>rw[ht]at h;exact h.elim
end
section
variable {X:Cx}{E:XK}{Γ Γ' Γl:List Cl}{x:Str}{k:Nat}{ps:List Str}{F:List D->R D}{e:Expr}{es:List Expr}{u:Tn->R (List D)}{c:Rc}{p pos:Pos}{n:Nat}
def zw (O:Own X.prog X.w X.K X.mg X.base x k ps (spM X.K F n))(hr:Room k X.A)(hg:Gl X x)(hx:vW (cxx X.prog X.w) X E)(ha:MA X E Γ (e::es) u c)(hl:autoParam ((e::es).length=n) au3._auto_1)(hdb:autoParam ((x==("__debug__":Str))=false) au1._auto_1)
  (he:autoParam (starEach (e::es) X.env=(false,eval e X.env)::starEach es X.env) au3._auto_1) (hpl:autoParam ((backTo pos (starEach es X.env)).any (·.1)=false) au3._auto_1):ME X E Γ (.Call (.Name x p) (e::es) [] pos) (eL F u) .fresh:=by
 obtain⟨hlen,ta,pa,q⟩:=ha;refine⟨_,Uq O hr hg hx pa hdb he hpl,fun O' σ H τ Q ok h=>q O' σ H τ _ ok ?_⟩;unfold eL at h;cases hu:u τ with
 | ok ds =>
  rw[hu,jYa]at h;refine fun vs H1 L s1 r1 _=>?_;have hv:(vs++[]).length=n:=by rw[tZ,r1.length,hlen τ ds hu];exact hl
  refine⟨hv,ds,L,by rw[tZ];exact r1,?_⟩;have h1:=h.same s1;cases hF:F ds with
  | ok d=>rw[hF]at h1;exact h1
  | err n=>rw[hF]at h1;exact h1
  | bad=>rw[hF]at h1;exact h1
 | err n=>rw[hu]at h;exact h
 | bad=>rw[hu]at h;exact h
end
def D.isS:D->Bool
 | .non=>true
 | .bl _=>true
 | .int _=>true
 | .str _=>true
 | _=>false
def eqS:D->D->Bool
 | .non,.non=>true
 | .bl a,.bl b=>a==b
 | .bl a,.int b=>(if a then 1 else 0)==b
 | .int a,.bl b=>a==(if b then 1 else 0)
 | .int a,.int b=>a==b
 | .str a,.str b=>a==b
 | _,_=>false
def xa (f:D->D->Option Bool):List D->List D->Option Bool
 | x::xs,y::ys=>match f x y,xa f xs ys with
  | some a,some b=>some (a&&b)
  | _,_=>none
 | _,_=>some true
def kg {b:Bool}(h:(none:Option Bool)=some b):False:=by cases h
def eqF:Nat->D->D->Option Bool
 | 0,x,y=>if (x.isS&&y.isS)=true then some (eqS x y) else none
 | n+1,x,y=>match x,y with
  | .lst xs,.lst ys=>if xs.length=ys.length then xa (eqF n) xs ys else some false
  | .tup xs,.tup ys=>(xa (eqF n) xs ys).map fun b=>b&&xs.length==ys.length
  | .frl xs,.lst ys=>if xs.length=ys.length then xa (eqF n) xs ys else some false
  | .frl xs,.frl ys=>if xs.length=ys.length then xa (eqF n) xs ys else some false
  | .lst _,.tup _=>some false
  | .tup _,.lst _=>some false
  | .lst _,y=>if y.isS=true then some false else none
  | .tup _,y=>if y.isS=true then some false else none
  | x,.lst _=>if x.isS=true then some false else none
  | x,.tup _=>if x.isS=true then some false else none
  | x,y=>if (x.isS&&y.isS)=true then some (eqS x y) else none
def US {K:jJa}{H:Hp}{d:D}{v:V}{L:List Addr}{u:Value}(h:d.isS=true)(r:Rep K H d v L)(q:RelV v u):
  (d=.non/\u=.none)\/(∃b,d=.bl b/\u=.bool b)\/(∃i t,d=.int i/\u=.int i t)\/∃x t,d=.str x/\u=.str x t:=by
 cases d with
 | non=>obtain⟨rfl,_⟩:=r;exact .inl ⟨rfl,q⟩
 | bl b=>obtain⟨rfl,_⟩:=r;exact .inr (.inl ⟨b,rfl,q⟩)
 | int i=>obtain⟨rfl,_⟩:=r;obtain⟨t,e⟩:=q;exact .inr (.inr (.inl ⟨i,t,rfl,e⟩))
 | str x=>obtain⟨rfl,_⟩:=r;obtain⟨t,e⟩:=q;exact .inr (.inr (.inr ⟨x,t,rfl,e⟩))
 | _=>cases h
open SeqAt in
def Xz {A:Around}{s:Shared}{K:jJa}{H:Hp}{d1 d2:D}{v1 v2:V}{L1 L2:List Addr}{u1 u2:Value}(h1:d1.isS=true)(h2:d2.isS=true)(r1:Rep K H d1 v1 L1)(r2:Rep K H d2 v2 L2)(q1:RelV v1 u1)(q2:RelV v2 u2):
  RcAt A s u1 u2 (eqS d1 d2)/\EqAt A s u1 u2 (eqS d1 d2)/\RcNeAt A s u1 u2 (!eqS d1 d2):=by
 rcases US h1 r1 q1 with⟨rfl,rfl⟩|⟨a,rfl,rfl⟩|⟨a,t,rfl,rfl⟩|⟨a,t,rfl,rfl⟩ <;>
 rcases US h2 r2 q2 with⟨rfl,rfl⟩|⟨b,rfl,rfl⟩|⟨b,t',rfl,rfl⟩|⟨b,t',rfl,rfl⟩
 ·exact⟨RcAt.none_none,EqAt.same _,RcNeAt.none_none⟩
 ·exact⟨RcAt.none_bool b,EqAt.none_bool b,RcNeAt.none_bool b⟩
 ·exact⟨RcAt.none_int b _,EqAt.none_int b _,RcNeAt.none_int b _⟩
 ·exact⟨RcAt.none_str b _,EqAt.none_str b _,RcNeAt.none_str b _⟩
 ·exact⟨RcAt.bool_none a,EqAt.bool_none a,RcNeAt.bool_none a⟩
 ·exact⟨RcAt.bool_bool a b,EqAt.bool_bool a b,RcNeAt.bool_bool a b⟩
 ·exact⟨RcAt.bool_int a b _,EqAt.bool_int a b _,RcNeAt.bool_int a b _⟩
 ·exact⟨RcAt.bool_str a b _,EqAt.bool_str a b _,RcNeAt.bool_str a b _⟩
 ·exact⟨RcAt.int_none a _,EqAt.int_none a _,RcNeAt.int_none a _⟩
 ·exact⟨RcAt.int_bool a _ b,EqAt.int_bool a _ b,RcNeAt.int_bool a _ b⟩
 ·exact⟨RcAt.int_int a _ b _,EqAt.int_int a _ b _,RcNeAt.int_int a _ b _⟩
 ·exact⟨RcAt.int_str a _ b _,EqAt.int_str a _ b _,RcNeAt.int_str a _ b _⟩
 ·exact⟨RcAt.str_none a _,EqAt.str_none a _,RcNeAt.str_none a _⟩
 ·exact⟨RcAt.str_bool a _ b,EqAt.str_bool a _ b,RcNeAt.str_bool a _ b⟩
 ·exact⟨RcAt.str_int a _ b _,EqAt.str_int a _ b _,RcNeAt.str_int a _ b _⟩
 ·exact⟨RcAt.str_str a _ b _,EqAt.str_str a _ b _,RcNeAt.str_str a _ b _⟩
open SeqAt in
def Vf {A:Around}{s:Shared}{K:jJa}{H:Hp}{d:D}{v:V}{L:List Addr}{u:Value}{l:Addr}{items:Array Value}(hd:d.isS=true)(r:Rep K H d v L)(q:RelV v u)(hl:s.heap.IsList l items)(hu:A.units<cLine):
  (RcAt A s (.ref l) u false/\EqAt A s (.ref l) u false/\RcNeAt A s (.ref l) u true)/\RcAt A s u (.ref l) false/\EqAt A s u (.ref l) false/\RcNeAt A s u (.ref l) true:=by
 rcases US hd r q with⟨rfl,rfl⟩|⟨b,rfl,rfl⟩|⟨b,t',rfl,rfl⟩|⟨b,t',rfl,rfl⟩
 ·exact⟨⟨RcAt.list_none hl hu,EqAt.list_none hl hu,RcNeAt.list_none hl hu⟩,RcAt.none_list hl hu,EqAt.none_list hl hu,RcNeAt.none_list hl hu⟩
 ·exact⟨⟨RcAt.list_bool b hl hu,EqAt.list_bool b hl hu,RcNeAt.list_bool b hl hu⟩,RcAt.bool_list b hl hu,EqAt.bool_list b hl hu,RcNeAt.bool_list b hl hu⟩
 ·exact⟨⟨RcAt.list_int b _ hl hu,EqAt.list_int b _ hl hu,RcNeAt.list_int b _ hl hu⟩,RcAt.int_list b _ hl hu,EqAt.int_list b _ hl hu,RcNeAt.int_list b _ hl hu⟩
 ·exact⟨⟨RcAt.list_str b _ hl hu,EqAt.list_str b _ hl hu,RcNeAt.list_str b _ hl hu⟩,RcAt.str_list b _ hl hu,EqAt.str_list b _ hl hu,RcNeAt.str_list b _ hl hu⟩
open SeqAt in
def VE {A:Around}{s:Shared}{K:jJa}{H:Hp}{d:D}{v:V}{L:List Addr}{u:Value}{l:Addr}{items:Array Value}(hd:d.isS=true)(r:Rep K H d v L)(q:RelV v u)(hl:s.heap.IsTuple l items)(hu:A.units<cLine):
  (RcAt A s (.ref l) u false/\EqAt A s (.ref l) u false/\RcNeAt A s (.ref l) u true)/\RcAt A s u (.ref l) false/\EqAt A s u (.ref l) false/\RcNeAt A s u (.ref l) true:=by
 rcases US hd r q with⟨rfl,rfl⟩|⟨b,rfl,rfl⟩|⟨b,t',rfl,rfl⟩|⟨b,t',rfl,rfl⟩
 ·exact⟨⟨RcAt.tuple_none hl hu,EqAt.tuple_none hl hu,RcNeAt.tuple_none hl hu⟩,RcAt.none_tuple hl hu,EqAt.none_tuple hl hu,RcNeAt.none_tuple hl hu⟩
 ·exact⟨⟨RcAt.tuple_bool b hl hu,EqAt.tuple_bool b hl hu,RcNeAt.tuple_bool b hl hu⟩,RcAt.bool_tuple b hl hu,EqAt.bool_tuple b hl hu,RcNeAt.bool_tuple b hl hu⟩
 ·exact⟨⟨RcAt.tuple_int b _ hl hu,EqAt.tuple_int b _ hl hu,RcNeAt.tuple_int b _ hl hu⟩,RcAt.int_tuple b _ hl hu,EqAt.int_tuple b _ hl hu,RcNeAt.int_tuple b _ hl hu⟩
 ·exact⟨⟨RcAt.tuple_str b _ hl hu,EqAt.tuple_str b _ hl hu,RcNeAt.tuple_str b _ hl hu⟩,RcAt.str_tuple b _ hl hu,EqAt.str_tuple b _ hl hu,RcNeAt.str_tuple b _ hl hu⟩
def qv (f:D->D->Option Bool)(xs ys:List D)(j:Nat):Bool:=match xs[j]?,ys[j]? with
 | some x,some y=>(f x y).getD false
 | _,_=>true
def kb {f:D->D->Option Bool}:∀ {xs ys:List D} {b:Bool},xa f xs ys=some b->b=(List.range (min xs.length ys.length)).all (qv f xs ys)/\∀j x y,xs[j]?=some x->ys[j]?=some y->f x y=some (qv f xs ys j)
 | [],ys,b,h=>by
  unfold xa at h;cases h;exact⟨by simp,fun j x y e=>by simp at e⟩
 | x::xs,[],b,h=>by
  unfold xa at h;cases h;exact⟨by simp,fun j x y e e'=>by simp at e'⟩
 | x::xs,y::ys,b,h=>by
  unfold xa at h;cases h1:f x y with
  | none=>rw[h1]at h;cases h
  | some a =>
   cases h2:xa f xs ys with
   | none=>rw[h1,h2]at h;cases h
   | some b' =>
    rw[h1,h2]at h;cases h;obtain⟨e1,e2⟩:=kb h2;have z0:qv f (x::xs) (y::ys) 0=a:=by simp[qv,h1]
    have zs:∀j,qv f (x::xs) (y::ys) (j+1)=qv f xs ys j:=fun j=>by simp[qv]
    refine⟨?_,fun j x' y' ex ey=>?_⟩
    ·have hm:min (x::xs).length (y::ys).length=min xs.length ys.length+1:=by simp[Nat.succ_min_succ]
     rw[hm,List.range_succ_eq_map,pO,hZ,z0,e1];congr 1
    ·cases j with
     | zero=>simp at ex ey;subst ex ey;rw[z0];exact h1
     | succ j=>rw[zs];exact e2 j x' y' (by simpa using ex) (by simpa using ey)
section
variable {X:Cx}{pins:List (Addr×Obj)}{σ:St}{H:Hp}{s:Shared}
def D.ofV:V->D
 | .bl b=>.bl b
 | .int i=>.int i
 | .str x=>.str x
 | _=>.non
def Rep.ofV {K:jJa}{H:Hp}{d:D}{v:V}{L:List Addr}(h:∀a,v≠.ref a)(r:Rep K H d v L):d=D.ofV v:=by
 cases d with
 | non=>rw[r.1];rfl
 | bl=>rw[r.1];rfl
 | int=>rw[r.1];rfl
 | str=>rw[r.1];rfl
 | tup=>obtain⟨a,_,e,_⟩:=r;exact absurd e (h a)
 | lst=>obtain⟨a,_,_,e,_⟩:=r;exact absurd e (h a)
 | dic=>obtain⟨a,_,_,e,_⟩:=r;exact absurd e (h a)
 | frl=>obtain⟨a,_,e,_⟩:=r;exact absurd e (h a)
def Rep.oneS {K:jJa}{H:Hp}{d d':D}{u v:V}{L L':List Addr}(e:v=u)(hs:∀a,u≠.ref a)(r:Rep K H d v L)(r':Rep K H d' v L'):d=d':=by
 subst e;exact (r.ofV hs).trans (r'.ofV hs).symm
def Rep.noS {K:jJa}{H:Hp}{d:D}{a:Addr}{L:List Addr}(r:Rep K H d (.ref a) L)(h:d.isS=true):False:=by
 cases d with
 | non=>cases r.1
 | bl=>cases r.1
 | int=>cases r.1
 | str=>cases r.1
 | _=>cases h
def QA (I:Inv X pins σ H s)(h:SqT X.K H a vs)(h':H a=some o)(n1:∀xs,o≠.tup xs)(n2:∀p xs,o≠.frz p (.tup xs)):False:=by
 rcases h with (z|⟨p,z⟩)|⟨o',its,n,hk,hc,_⟩
 ·rw[z]at h';exact n1 _ (jYe h').symm
 ·rw[z]at h';exact n2 _ _ (jYe h').symm
 ·have:=(I.bs a o' (I.mod.kin a o' hk)).2;rw[this]at h';cases h'
def QD (I:Inv X pins σ H s)(h:SqF X.K H a vs)(h':H a=some o)(n2:∀p xs,o≠.frz p (.lst xs)):False:=by
 rcases h with⟨p,z⟩|⟨o',its,n,hk,hc,_⟩
 ·rw[z]at h';exact n2 _ _ (jYe h').symm
 ·have:=(I.bs a o' (I.mod.kin a o' hk)).2;rw[this]at h';cases h'
def z2q (I:Inv X pins σ H s)(h':SqT X.K H a ws)(h:SqF X.K H a vs):False:=by
 obtain⟨its,_,⟨o1,n1,e1,c1,_⟩,_⟩:=I.list h.sq;obtain⟨its2,_,⟨o2,e2,c2,_⟩,_⟩:=I.tuple h';rw[e1]at e2;cases e2;rw[c1]at c2;exact absurd c2 (by simp)
def z2N {a:Addr}{xs:List V}{kvs:List (Key×V)}{H:Hp}(h:H a=some (.lst xs))(h':H a=some (.dK kvs)):False:=by
 rw[h]at h';cases h'
mutual
def Rep.one (I:Inv X pins σ H s):∀(d d':D) (v:V) (L L':List Addr),Rep X.K H d v L->Rep X.K H d' v L'->d=d'
 | .non,_,_,_,_,r,r'=>Rep.oneS r.1 (fun _ z=>V.noConfusion z) r r'
 | .bl _,_,_,_,_,r,r'=>Rep.oneS r.1 (fun _ z=>V.noConfusion z) r r'
 | .int _,_,_,_,_,r,r'=>Rep.oneS r.1 (fun _ z=>V.noConfusion z) r r'
 | .str _,_,_,_,_,r,r'=>Rep.oneS r.1 (fun _ z=>V.noConfusion z) r r'
 | .tup ds,d',_,L,L',hq5,r=>by
  obtain⟨a,vs,e,h,rs⟩:=hq5;subst e;cases d' with
  | non=>exact (Rep.noS r rfl).elim
  | bl _=>exact (Rep.noS r rfl).elim
  | int _=>exact (Rep.noS r rfl).elim
  | str _=>exact (Rep.noS r rfl).elim
  | tup ds' =>
   obtain⟨a',vs',e,h',rs'⟩:=r;cases e;cases I.tuple_inj h h';rw[Reps.one I ds ds' vs L L' rs rs']
  | lst _ =>
   obtain⟨_,_,_,e,h',_⟩:=r;cases e;exact (QA I h h' (fun _ z=>HO.noConfusion z) fun _ _ z=>HO.noConfusion z).elim
  | dic _ _ =>
   obtain⟨_,_,_,e,h',_⟩:=r;cases e;exact (QA I h h' (fun _ z=>HO.noConfusion z) fun _ _ z=>HO.noConfusion z).elim
  | frl _ =>
   obtain⟨_,_,e,h',_⟩:=r;cases e;exact (z2q I h h').elim
 | .lst ds,d',_,L,L',hq5,r=>by
  obtain⟨a,vs,L1,e,h,_,rs⟩:=hq5;subst e;cases d' with
  | non=>exact (Rep.noS r rfl).elim
  | bl _=>exact (Rep.noS r rfl).elim
  | int _=>exact (Rep.noS r rfl).elim
  | str _=>exact (Rep.noS r rfl).elim
  | tup ds' =>
   obtain⟨a',vs',e,h',rs'⟩:=r;cases e;exact (QA I h' h (fun _ z=>HO.noConfusion z) fun _ _ z=>HO.noConfusion z).elim
  | lst ds' =>
   obtain⟨_,_,_,e,h',_,rs'⟩:=r;cases e;rw[h]at h';cases h';rw[Reps.one I ds ds' vs _ _ rs rs']
  | dic _ _ =>
   obtain⟨_,_,_,e,h',_⟩:=r;cases e;exact (z2N h h').elim
  | frl _ =>
   obtain⟨_,_,e,h',_⟩:=r;cases e;exact (QD I h' h fun _ _ z=>HO.noConfusion z).elim
 | .dic ks ds,d',_,L,L',hq5,r=>by
  obtain⟨a,kvs,L1,e,h,_,hk,_,rs⟩:=hq5;subst e;cases d' with
  | non=>exact (Rep.noS r rfl).elim
  | bl _=>exact (Rep.noS r rfl).elim
  | int _=>exact (Rep.noS r rfl).elim
  | str _=>exact (Rep.noS r rfl).elim
  | tup ds' =>
   obtain⟨a',vs',e,h',rs'⟩:=r;cases e;exact (QA I h' h (fun _ z=>HO.noConfusion z) fun _ _ z=>HO.noConfusion z).elim
  | lst ds' =>
   obtain⟨_,_,_,e,h',_,rs'⟩:=r;cases e;exact (z2N h' h).elim
  | dic ks' ds' =>
   obtain⟨_,_,_,e,h',_,hk',_,rs'⟩:=r;cases e;rw[h]at h';cases h';rw[<-hk,<-hk',Reps.one I ds ds' _ _ _ rs rs']
  | frl _ =>
   obtain⟨_,_,e,h',_⟩:=r;cases e;exact (QD I h' h fun _ _ z=>HO.noConfusion z).elim
 | .frl ds,d',_,L,L',hq5,r=>by
  obtain⟨a,vs,e,h,_,_,rs⟩:=hq5;subst e;cases d' with
  | non=>exact (Rep.noS r rfl).elim
  | bl _=>exact (Rep.noS r rfl).elim
  | int _=>exact (Rep.noS r rfl).elim
  | str _=>exact (Rep.noS r rfl).elim
  | tup ds' =>
   obtain⟨a',vs',e,h',rs'⟩:=r;cases e;exact (z2q I h' h).elim
  | lst ds' =>
   obtain⟨_,_,_,e,h',_,rs'⟩:=r;cases e;exact (QD I h h' fun _ _ z=>HO.noConfusion z).elim
  | dic ks' ds' =>
   obtain⟨_,_,_,e,h',_,hk',_,rs'⟩:=r;cases e;exact (QD I h h' fun _ _ z=>HO.noConfusion z).elim
  | frl ds' =>
   obtain⟨_,_,e,h',_,_,rs'⟩:=r;cases e;have:=I.list_inj h.sq h'.sq;subst this;rw[Reps.one I ds ds' vs _ _ rs rs']
def Reps.one (I:Inv X pins σ H s):∀(ds ds':List D) (vs:List V) (L L':List Addr),Reps X.K H ds vs L->Reps X.K H ds' vs L'->ds=ds'
 | [],ds',_,_,_,hq5,r=>by
  obtain⟨e,_⟩:=hq5;subst e;cases ds' with
  | nil=>rfl
  | cons _ _=>obtain⟨_,_,_,_,e,_⟩:=r;cases e
 | d::ds,ds',_,_,_,hq5,r=>by
  obtain⟨v,vs',L1,L2,e1,_,h1,h2⟩:=hq5;subst e1;cases ds' with
  | nil=>obtain⟨e,_⟩:=r;cases e
  | cons d' ds' =>
   obtain⟨v',vs2,L3,L4,e,_,r1,r2⟩:=r;cases e;rw[Rep.one I d d' v _ _ h1 r1,Reps.one I ds ds' vs' _ _ h2 r2]
end
end
def JT:∀(d:D),d.isS=true->eqS d d=true
 | .non,_=>rfl
 | .bl b,_=>beq_self_eq_true b
 | .int b,_=>beq_self_eq_true b
 | .str b,_=>beq_self_eq_true b
 | .tup _,h=>nomatch h
 | .lst _,h=>nomatch h
 | .dic _ _,h=>nomatch h
 | .frl _,h=>nomatch h
def Ko:∀(n:Nat) (d:D) (b:Bool),eqF n d d=some b->b=true:=by
 intro n
 induction n with
 | zero =>
  intro d b h
  replace h:(if (d.isS&&d.isS)=true then some (eqS d d) else none)=some b:=h
  split at h
  ·rename_i hs;simp only[Bool.and_self]at hs;rw[JT d hs]at h;exact (jYe h).symm
  ·cases h
 | succ n ih =>
  have zip:∀(xs:List D) (b:Bool),xa (eqF n) xs xs=some b->b=true:=by
   intro xs
   induction xs with
   | nil=>intro b h;unfold xa at h;exact (jYe h).symm
   | cons x xs ihx =>
    intro b h;unfold xa at h;cases h1:eqF n x x with
    | none=>rw[h1]at h;cases h
    | some a =>
     cases h2:xa (eqF n) xs xs with
     | none=>rw[h1,h2]at h;cases h
     | some b' =>
      rw[h1,h2]at h;cases h;rw[ih x a h1,ihx b' h2];rfl
  intro d b h;cases d with
  | lst xs =>
   have h:(if xs.length=xs.length then xa (eqF n) xs xs else some false)=some b:=h;rw[if_pos rfl]at h;exact zip xs b h
  | tup xs =>
   have h:(xa (eqF n) xs xs).map (fun b=>b&&xs.length==xs.length)=some b:=h;cases h1:xa (eqF n) xs xs with
   | none=>rw[h1]at h;cases h
   | some b'=>rw[h1]at h;rw[zip xs b' h1]at h;simp at h;exact h.symm▸rfl
  | non=>have h:some true=some b:=h;exact (jYe h).symm
  | bl x=>have h:some (x==x)=some b:=h;exact (jYe h).symm.trans (beq_self_eq_true x)
  | int x=>have h:some (x==x)=some b:=h;exact (jYe h).symm.trans (beq_self_eq_true x)
  | str x=>have h:some (x==x)=some b:=h;exact (jYe h).symm.trans (beq_self_eq_true x)
  | dic _ _=>cases h
  | frl xs =>
   have h:(if xs.length=xs.length then xa (eqF n) xs xs else some false)=some b:=h;rw[if_pos rfl]at h;exact zip xs b h
open SeqAt in
def ZH {b:Bool}(h:RcAt A s (.ref a) (.ref a') b)(hs:a=a'->b=true):EqAt A s (.ref a) (.ref a') b:=by
 by_cases z:a=a'
 ·subst z;rw[hs rfl];exact EqAt.same _
 ·exact EqAt.of_refs z h
open SeqAt in
def Zs (I:Inv X pins σ H s){n:Nat}{A:Around}(hu0:A.units<cLine)
  (ih:∀(d1 d2:D) (v1 v2:V) (L1 L2:List Addr) (u1 u2:Value) (b:Bool),eqF n d1 d2=some b->Rep X.K H d1 v1 L1->Rep X.K H d2 v2 L2->RelV v1 u1->RelV v2 u2->EqAt A.in1 s u1 u2 b)
  {a a2:Addr} {vs vs2:List V} {xs ys:List D} {L L2:List Addr} {b:Bool} (ha:SqL X.K H a vs) (rs:Reps X.K H xs vs L) (ha2:SqL X.K H a2 vs2) (rs2:Reps X.K H ys vs2 L2)
  (h:(if xs.length=ys.length then xa (eqF n) xs ys else some false)=some b) (same:a=a2->b=true):RcAt A s (.ref a) (.ref a2) b/\EqAt A s (.ref a) (.ref a2) b/\RcNeAt A s (.ref a) (.ref a2) (!b):=by
 obtain⟨its,rv,pl,_⟩:=I.list ha;obtain⟨its2,rv2,pl2,_⟩:=I.list ha2;have l1:its.length=xs.length:=by rw[<-rv.length,rs.length]
 have l2:its2.length=ys.length:=by rw[<-rv2.length,rs2.length]
 by_cases hl:xs.length=ys.length
 ·rw[if_pos hl]at h;obtain⟨e1,e2⟩:=kb h;have he:∀j (h1:j<its.toArray.size) (h2:j<its2.toArray.size),EqAt A.in1 s its.toArray[j] its2.toArray[j] (qv (eqF n) xs ys j):=fun j h1 h2=>by
   have h1':j<xs.length:=by simpa [l1] using h1
   have h2':j<ys.length:=by simpa [l2] using h2
   obtain⟨w1,L3,g1,g2,_⟩:=rs.get (i:=j) (d:=xs[j]) (by simp[h1']);obtain⟨w2,L4,g3,g4,_⟩:=rs2.get (i:=j) (d:=ys[j]) (by simp[h2']);obtain⟨z1,k1,k2⟩:=rv.get g1;obtain⟨z2,k3,k4⟩:=rv2.get g3;have m1:its.toArray[j]=z1:=by
    have:=(sN.mp k1).2
    simpa using this
   have m2:its2.toArray[j]=z2:=by
    have:=(sN.mp k3).2
    simpa using this
   rw[m1,m2];exact ih _ _ w1 w2 L3 L4 z1 z2 _ (e2 j _ _ (by simp[h1']) (by simp[h2'])) g2 g4 k2 k4
  have hsz:its.toArray.size=its2.toArray.size:=by simp[l1,l2,hl]
  have eb:b=(List.range its.toArray.size).all (qv (eqF n) xs ys):=by
   rw[e1];congr 2;simp[l1,hl]
  have rc:=RcAt.lists pl.isList pl2.isList hsz hu0 he;have rn:=RcNeAt.lists pl.isList pl2.isList hsz hu0 he;rw[<-eb]at rc rn;exact⟨rc,ZH rc same,rn⟩
 ·rw[if_neg hl]at h;cases h;have hsz:(its.toArray.size != its2.toArray.size)=true:=by simp[l1,l2,hl]
  have rc:=RcAt.lists_lengths pl.isList pl2.isList hsz hu0;exact⟨rc,ZH rc same,RcNeAt.lists_lengths pl.isList pl2.isList hsz hu0⟩
open SeqAt in
def z2E {X:Cx}{pins:List (Addr×Obj)}{σ:St}{H:Hp}{s:Shared}(I:Inv X pins σ H s):∀(n:Nat) (A:Around) (d1 d2:D) (v1 v2:V) (L1 L2:List Addr) (u1 u2:Value) (b:Bool),A.units+n<cLine->eqF n d1 d2=some b ->
  Rep X.K H d1 v1 L1->Rep X.K H d2 v2 L2->RelV v1 u1->RelV v2 u2->RcAt A s u1 u2 b/\EqAt A s u1 u2 b/\RcNeAt A s u1 u2 (!b):=by
 intro n
 induction n with
 | zero =>
  intro A d1 d2 v1 v2 L1 L2 u1 u2 b hu h r1 r2 q1 q2;have h:(if (d1.isS&&d2.isS)=true then some (eqS d1 d2) else none)=some b:=h;split at h
  ·rename_i hs;rw[sY]at hs;cases h;exact Xz hs.1 hs.2 r1 r2 q1 q2
  ·cases h
 | succ n ih =>
  intro A d1 d2 v1 v2 L1 L2 u1 u2 b hu h r1 r2 q1 q2;have hu0:A.units<cLine:=by lia
  have hu1:A.in1.units+n<cLine:=by show A.units+1+n<cLine;lia
  have same:∀a,v1=.ref a->v2=.ref a->b=true:=fun a e1 e2=>by
   subst e1 e2;have:=Rep.one I d1 d2 _ _ _ r1 r2;subst this;exact Ko (n+1) d1 b h
  by_cases s1:d1.isS=true
  ·by_cases s2:d2.isS=true
   ·have e:b=eqS d1 d2:=by
     cases d1<;>first|exact absurd s1 sJ|(cases d2<;>first|exact absurd s2 sJ|exact (jYe h).symm)
    subst e;exact Xz s1 s2 r1 r2 q1 q2
   ·cases d2 with
    | lst ys =>
     have e:b=false:=by cases d1<;>first|exact absurd s1 sJ|exact (jYe h).symm
     subst e;obtain⟨a,vs,L',e2,ha,_,rs⟩:=r2;have q2:u2=Value.ref a:=by rw[e2]at q2;exact q2
     rw[q2];obtain⟨its,rv,pl,_⟩:=I.list (SqL.of ha);exact (Vf s1 r1 q1 pl.isList hu0).2
    | tup ys =>
     have e:b=false:=by cases d1<;>first|exact absurd s1 sJ|exact (jYe h).symm
     subst e;obtain⟨a,vs,e2,ha,rs⟩:=r2;have q2:u2=Value.ref a:=by rw[e2]at q2;exact q2
     rw[q2];obtain⟨its,rv,pl,_⟩:=I.tuple ha;exact (VE s1 r1 q1 pl hu0).2
    | dic _ _=>cases d1<;>first | exact absurd s1 sJ | exact (kg (b:=b) h).elim
    | frl _=>cases d1<;>first | exact absurd s1 sJ | exact (kg (b:=b) h).elim
    | _=>exact absurd rfl s2
  ·cases d1 with
   | lst xs =>
    obtain⟨a,vs,L',e1,ha,_,rs⟩:=r1;have q1:u1=Value.ref a:=by rw[e1]at q1;exact q1
    rw[q1];obtain⟨its,rv,pl,_⟩:=I.list (SqL.of ha);cases d2 with
    | lst ys =>
     obtain⟨a2,vs2,L2',e2,ha2,_,rs2⟩:=r2;have q2:u2=Value.ref a2:=by rw[e2]at q2;exact q2
     rw[q2];exact Zs I hu0 (fun d1 d2 v1 v2 L1 L2 u1 u2 b e r1 r2 q1 q2=>(ih A.in1 d1 d2 v1 v2 L1 L2 u1 u2 b hu1 e r1 r2 q1 q2).2.1) (SqL.of ha) rs (SqL.of ha2) rs2 h fun z=>same a e1 (by rw[z];exact e2)
    | tup ys =>
     obtain⟨a2,vs2,e2,ha2,rs2⟩:=r2;have q2:u2=Value.ref a2:=by rw[e2]at q2;exact q2
     rw[q2];obtain⟨its2,rv2,pl2,_⟩:=I.tuple ha2;cases (jYe (show some false=some b from h));exact⟨RcAt.list_tuple pl.isList pl2 hu0,EqAt.list_tuple pl.isList pl2 hu0,RcNeAt.list_tuple pl.isList pl2 hu0⟩
    | dic _ _=>exact (kg (b:=b) h).elim
    | frl _=>exact (kg (b:=b) h).elim
    | non=>cases (jYe (show some false=some b from h));exact (Vf (d:=.non) rfl r2 q2 pl.isList hu0).1
    | bl x=>cases (jYe (show some false=some b from h));exact (Vf (d:=.bl x) rfl r2 q2 pl.isList hu0).1
    | int x=>cases (jYe (show some false=some b from h));exact (Vf (d:=.int x) rfl r2 q2 pl.isList hu0).1
    | str x=>cases (jYe (show some false=some b from h));exact (Vf (d:=.str x) rfl r2 q2 pl.isList hu0).1
   | tup xs =>
    obtain⟨a,vs,e1,ha,rs⟩:=r1;have q1:u1=Value.ref a:=by rw[e1]at q1;exact q1
    rw[q1];obtain⟨its,rv,pl,_⟩:=I.tuple ha;cases d2 with
    | tup ys =>
     obtain⟨a2,vs2,e2,ha2,rs2⟩:=r2;have q2:u2=Value.ref a2:=by rw[e2]at q2;exact q2
     rw[q2];obtain⟨its2,rv2,pl2,_⟩:=I.tuple ha2;have h:(xa (eqF n) xs ys).map (fun b=>b&&xs.length==ys.length)=some b:=h;have l1:its.length=xs.length:=by rw[<-rv.length,rs.length]
     have l2:its2.length=ys.length:=by rw[<-rv2.length,rs2.length]
     cases hz:xa (eqF n) xs ys with
     | none=>rw[hz]at h;cases h
     | some b' =>
      rw[hz]at h;have h:(b'&&xs.length==ys.length)=b:=jYe h;have e1':=e1;have e2':=e2;obtain⟨e1,e2⟩:=kb hz;have he:∀j (h1:j<its.toArray.size) (h2:j<its2.toArray.size),EqAt A.in1 s its.toArray[j] its2.toArray[j] (qv (eqF n) xs ys j):=fun j h1 h2=>by
       have h1':j<xs.length:=by simpa [l1] using h1
       have h2':j<ys.length:=by simpa [l2] using h2
       obtain⟨w1,L3,g1,g2,_⟩:=rs.get (i:=j) (d:=xs[j]) (by simp[h1']);obtain⟨w2,L4,g3,g4,_⟩:=rs2.get (i:=j) (d:=ys[j]) (by simp[h2']);obtain⟨z1,k1,k2⟩:=rv.get g1;obtain⟨z2,k3,k4⟩:=rv2.get g3;have m1:its.toArray[j]=z1:=by
        have:=(sN.mp k1).2
        simpa using this
       have m2:its2.toArray[j]=z2:=by
        have:=(sN.mp k3).2
        simpa using this
       rw[m1,m2];exact (ih A.in1 _ _ w1 w2 L3 L4 z1 z2 _ hu1 (e2 j _ _ (by simp[h1']) (by simp[h2'])) g2 g4 k2 k4).2.1
      have eb:b=((List.range (min its.toArray.size its2.toArray.size)).all (qv (eqF n) xs ys)&&its.toArray.size==its2.toArray.size):=by
       rw[<-h,e1];simp[l1,l2]
      have rc:=RcAt.tuples pl pl2 hu0 he;have rn:=RcNeAt.tuples pl pl2 hu0 he;rw[<-eb]at rc rn;exact⟨rc,ZH rc fun z=>same a e1' (by rw[z];exact e2'),rn⟩
    | lst ys =>
     obtain⟨a2,vs2,L2',e2,ha2,_,rs2⟩:=r2;have q2:u2=Value.ref a2:=by rw[e2]at q2;exact q2
     rw[q2];obtain⟨its2,rv2,pl2,_⟩:=I.list (SqL.of ha2);cases (jYe (show some false=some b from h));exact⟨RcAt.tuple_list pl pl2.isList hu0,EqAt.tuple_list pl pl2.isList hu0,RcNeAt.tuple_list pl pl2.isList hu0⟩
    | dic _ _=>exact (kg (b:=b) h).elim
    | frl _=>exact (kg (b:=b) h).elim
    | non=>cases (jYe (show some false=some b from h));exact (VE (d:=.non) rfl r2 q2 pl hu0).1
    | bl x=>cases (jYe (show some false=some b from h));exact (VE (d:=.bl x) rfl r2 q2 pl hu0).1
    | int x=>cases (jYe (show some false=some b from h));exact (VE (d:=.int x) rfl r2 q2 pl hu0).1
    | str x=>cases (jYe (show some false=some b from h));exact (VE (d:=.str x) rfl r2 q2 pl hu0).1
   | dic _ _=>cases d2<;>exact (kg (b:=b) h).elim
   | frl xs =>
    cases d2 with
    | lst ys =>
     obtain⟨a,vs,e1,ha,_,_,rs⟩:=r1;have q1:u1=Value.ref a:=by rw[e1]at q1;exact q1
     rw[q1];obtain⟨a2,vs2,L2',e2,ha2,_,rs2⟩:=r2;have q2:u2=Value.ref a2:=by rw[e2]at q2;exact q2
     rw[q2];exact Zs I hu0 (fun d1 d2 v1 v2 L1 L2 u1 u2 b e r1 r2 q1 q2=>(ih A.in1 d1 d2 v1 v2 L1 L2 u1 u2 b hu1 e r1 r2 q1 q2).2.1) ha.sq rs (SqL.of ha2) rs2 h fun z=>same a e1 (by rw[z];exact e2)
    | tup ys=>exact (kg (b:=b) h).elim
    | dic _ _=>exact (kg (b:=b) h).elim
    | frl ys =>
     obtain⟨a,vs,e1,ha,_,_,rs⟩:=r1;have q1:u1=Value.ref a:=by rw[e1]at q1;exact q1
     rw[q1];obtain⟨a2,vs2,e2,ha2,_,_,rs2⟩:=r2;have q2:u2=Value.ref a2:=by rw[e2]at q2;exact q2
     rw[q2];exact Zs I hu0 (fun d1 d2 v1 v2 L1 L2 u1 u2 b e r1 r2 q1 q2=>(ih A.in1 d1 d2 v1 v2 L1 L2 u1 u2 b hu1 e r1 r2 q1 q2).2.1) ha.sq rs ha2.sq rs2 h fun z=>same a e1 (by rw[z];exact e2)
    | non=>exact (kg (b:=b) h).elim
    | bl x=>exact (kg (b:=b) h).elim
    | int x=>exact (kg (b:=b) h).elim
    | str x=>exact (kg (b:=b) h).elim
   | _=>exact absurd rfl s1
def yT {K:jJa}{H:Hp}{ds:List D}{vs:List V}{L:List Addr}(r:Reps K H ds vs L)(h:D.imms ds=true):Reps K H ds vs []:=by
 have:=Reps.imm ds vs L r h;subst this;exact r
def xP:∀(xs ys:List D),D.imms (xs++ys)=(D.imms xs&&D.imms ys)
 | [],ys=>by simp[D.imms]
 | x::xs,ys=>by simp[D.imms,xP xs ys,Bool.and_assoc]
def qO {K:jJa}{H:Hp}{ds:List D}{vs:List V}{p:Addr}{Q:VK}(r:Reps K H ds vs [])(hp:H p=none)(q:∀v H' L,Same H H'->Rep K H' (.lst ds) v L->L.Nodup->(∀a∈L,H a=none)->Q v H'):Q (.ref p) (upd H p (.lst vs)):=
 q _ _ [p] (Same.new hp) ⟨p,vs,[],rfl,zT,rfl,r.same (Same.new hp)⟩ (by simp) (fun a ha=>by rw[sG.mp ha];exact hp)
def zL:D->D->R D
 | .int i,.int j=>.ok (.int (i+j))
 | .str x,.str y=>if x.length+y.length<=sizeLine then .ok (.str (x++y)) else .bad
 | .lst xs,.lst ys=>if D.imms xs=true/\D.imms ys=true/\xs.length+ys.length<=sizeLine then .ok (.lst (xs++ys)) else .bad
 | .tup xs,.tup ys=>if D.imms xs=true/\D.imms ys=true/\xs≠[]/\xs.length+ys.length<=sizeLine then .ok (.tup (xs++ys)) else .bad
 | _,_=>.bad
def z2X (K:jJa):R2:=fun x y H Q=>(∃i j,x=.int i/\y=.int j/\Q (.int (i+j)) H)\/(∃i j,x=.str i/\y=.str j/\i.length+j.length<=sizeLine/\Q (.str (i++j)) H)\/z5J x y H Q\/UR K x y H Q
def zz:OpR X (binaryOp .Add) (z2X X.K):=(OpR.or z3s (OpR.or UM (OpR.or z3m QL)))
def zY {K:jJa}:OpB K (z2X K) zL:=by
 rintro H x y dx dy Lx Ly Q rx ry ⟨d,hg,q⟩;unfold zL at hg;split at hg
 ·cases hg;exact .inl ⟨_,_,rx.1,ry.1,q _ H [] (Same.refl H) ⟨rfl,rfl⟩ (by simp) (fun a ha=>nomatch ha)⟩
 ·split at hg
  ·rename_i hz;cases hg;exact .inr (.inl ⟨_,_,rx.1,ry.1,hz,q _ H [] (Same.refl H) ⟨rfl,rfl⟩ (by simp) (fun a ha=>nomatch ha)⟩)
  ·cases hg
 ·rename_i xs ys;split at hg
  ·rename_i hz;cases hg;obtain⟨a,vs,L1,rfl,ha,_,rs⟩:=rx;obtain⟨b,ws,L2,rfl,hb,_,qs⟩:=ry;refine .inr (.inr (.inl ⟨a,b,vs,ws,rfl,rfl,ha,hb,by rw[rs.length,qs.length];exact hz.2.2,fun p hp=>qO (ds:=xs++ys) ?_ hp q⟩));exact Reps.append (yT rs hz.1) (yT qs hz.2.1)
  ·cases hg
 ·rename_i xs ys;split at hg
  ·rename_i hz;cases hg;obtain⟨a,vs,rfl,ha,rs⟩:=rx;obtain⟨b,ws,rfl,hb,qs⟩:=ry;have hne:vs≠[]:=fun z=>hz.2.2.1 (by have:=rs.length;rw[z]at this;exact pY.mp this.symm);have rr:=Reps.append (yT rs hz.1) (yT qs hz.2.1);refine .inr (.inr (.inr ⟨a,b,vs,ws,rfl,rfl,ha,hb,hne,by rw[rs.length,qs.length];exact hz.2.2.2,fun z=>?_,fun _ p hp=>?_⟩))
   ·subst z;rw[tZ]at rr;exact q _ H [] (Same.refl H) ⟨a,vs,rfl,ha,rr⟩ (by simp) (fun a ha=>nomatch ha)
   ·exact q _ _ [] (Same.new hp) ⟨p,vs++ws,rfl,SqT.of zT,rr.same (Same.new hp)⟩ (by simp) (fun a ha=>nomatch ha)
  ·cases hg
 ·cases hg
def zX:wH zL:=fun x y n h=>by
 unfold zL at h;split at h
 ·cases h
 ·split at h<;>cases h
 ·split at h<;>cases h
 ·split at h<;>cases h
 ·cases h
def intD (C:Int->Int->Bool)(g:Int->Int->D):D->D->R D
 | .int i,.int j=>if C i j=true then .ok (g i j) else .bad
 | _,_=>.bad
def zt {C:Int->Int->Bool}{g:Int->Int->D}:wH (intD C g):=fun x y n h=>by
 unfold intD at h;split at h
 ·split at h<;>cases h
 ·cases h
def z33:D->V
 | .int i=>.int i
 | .bl b=>.bl b
 | .str x=>.str x
 | _=>.non
def Vv {K:jJa}{H:Hp}:∀ {d:D},d.isS=true->Rep K H d (z33 d) []
 | .non,_=>⟨rfl,rfl⟩
 | .bl _,_=>⟨rfl,rfl⟩
 | .int _,_=>⟨rfl,rfl⟩
 | .str _,_=>⟨rfl,rfl⟩
 | .tup _,h=>nomatch h
 | .lst _,h=>nomatch h
 | .dic _ _,h=>nomatch h
 | .frl _,h=>nomatch h
def z2M {K:jJa}{C:Int->Int->Bool}{g:Int->Int->D}{P:Int->Int->Prop}{gv:Int->Int->V}(hP:∀i j,C i j=true->P i j)(hs:∀i j,(g i j).isS=true)(hv:∀i j,z33 (g i j)=gv i j):OpB K (rI P gv) (intD C g):=by
 rintro H x y dx dy Lx Ly Q rx ry ⟨d,hg,q⟩;unfold intD at hg;split at hg
 ·split at hg
  ·rename_i i j hz;cases hg;refine⟨i,j,rx.1,ry.1,hP i j hz,?_⟩;rw[<-hv];exact q _ H [] (Same.refl H) (Vv (hs i j)) (by simp) (fun a ha=>nomatch ha)
  ·cases hg
 ·cases hg
def Wf {K:jJa}{g:Int->Int->D}{gv:Int->Int->V}(hs:∀i j,(g i j).isS=true)(hv:∀i j,z33 (g i j)=gv i j):OpB K (rI0 gv) (intD (fun _ _=>true) g):=by
 rintro H x y dx dy Lx Ly Q rx ry ⟨d,hg,q⟩;unfold intD at hg;split at hg
 ·rw[if_pos rfl]at hg;rename_i i j;cases hg;refine⟨i,j,rx.1,ry.1,?_⟩;rw[<-hv];exact q _ H [] (Same.refl H) (Vv (hs i j)) (by simp) (fun a ha=>nomatch ha)
 ·cases hg
abbrev QV:D->D->R D:=intD (fun _ _=>true) fun i j=>.int (i-j)
abbrev yf:D->D->R D:=intD (fun _ j=>decide (0<j)&&decide (j<1073741824)) fun i j=>.int (i/j)
abbrev y0:D->D->R D:=intD (fun _ j=>decide (0<j)) fun i j=>.int (i%j)
abbrev ltD:D->D->R D:=intD (fun _ _=>true) fun i j=>.bl (decide (i<j))
abbrev leD:D->D->R D:=intD (fun _ _=>true) fun i j=>.bl (decide (i<=j))
abbrev gtD:D->D->R D:=intD (fun _ _=>true) fun i j=>.bl (decide (j<i))
def QB {K:jJa}:OpB K (rI0 fun i j=>.int (i-j)) QV:=Wf (fun _ _=>rfl) fun _ _=>rfl
def zV {K:jJa}:OpB K (rI z5G fun i j=>.int (i/j)) yf:=z2M (fun i j h=>by simp only[sY,decide_eq_true_eq]at h;exact h) (fun _ _=>rfl) fun _ _=>rfl
def ye {K:jJa}:OpB K (rI (fun _ j=>0<j) fun i j=>.int (i%j)) y0:=z2M (fun i j h=>by simpa using h) (fun _ _=>rfl) fun _ _=>rfl
def YF {K:jJa}:OpB K (rI0 fun i j=>.bl (decide (i<j))) ltD:=Wf (fun _ _=>rfl) fun _ _=>rfl
def kn {K:jJa}:OpB K (rI0 fun i j=>.bl (decide (i<=j))) leD:=Wf (fun _ _=>rfl) fun _ _=>rfl
def QY {K:jJa}:OpB K (rI0 fun i j=>.bl (decide (j<i))) gtD:=Wf (fun _ _=>rfl) fun _ _=>rfl
def u9:D->D->R D
 | .int i,.int j=>if ((decide (-(2 ^ 64)<i)&&decide (i<2 ^ 64))||(decide (-(2 ^ 64)<j)&&decide (j<2 ^ 64)))=true then .ok (.int (i*j)) else .bad
 | .lst xs,.int k=>if D.imms xs=true/\-(2 ^ 63)<=k/\k<2 ^ 63/\xs.length*k.toNat<=sizeLine then .ok (.lst (List.replicate k.toNat xs).flatten) else .bad
 | _,_=>.bad
def kL:wH u9:=fun x y n h=>by
 unfold u9 at h;split at h
 ·split at h<;>cases h
 ·split at h<;>cases h
 ·cases h
def uh:OpR X (binaryOp .Mult) (fun x y H Q=>rI CMul (fun i j=>.int (i*j)) x y H Q\/z3u x y H Q):=OpR.or z39 z4c
def Reps.rep {K:jJa}{H:Hp}{ds:List D}{vs:List V}(r:Reps K H ds vs []):∀k:Nat,Reps K H (List.replicate k ds).flatten (List.replicate k vs).flatten []
 | 0=>by simpa using Reps.nil
 | k+1=>by
  rw[sA,sA,rV,rV];exact Reps.append r (Reps.rep r k)
def kC {K:jJa}:OpB K (fun x y H Q=>rI CMul (fun i j=>.int (i*j)) x y H Q\/z3u x y H Q) u9:=by
 rintro H x y dx dy Lx Ly Q rx ry ⟨d,hg,q⟩;unfold u9 at hg;split at hg
 ·split at hg
  ·rename_i i j hz;cases hg;refine .inl ⟨i,j,rx.1,ry.1,?_,q _ H [] (Same.refl H) ⟨rfl,rfl⟩ (by simp) (fun a ha=>nomatch ha)⟩
   simpa [CMul] using hz
  ·cases hg
 ·split at hg
  ·rename_i xs k hz;cases hg;obtain⟨a,vs,L1,rfl,ha,_,rs⟩:=rx;exact .inr ⟨a,k,vs,rfl,ry.1,ha,hz.2.1,hz.2.2.1,by rw[rs.length];exact hz.2.2.2,fun p hp=>qO (Reps.rep (yT rs hz.1) _) hp q⟩
  ·cases hg
 ·cases hg
def z0u (K:jJa)(neg:Bool):R2:=fun x y H Q=>∃dx dy Lx Ly b,Rep K H dx x Lx/\Rep K H dy y Ly/\eqF 12 dx dy=some b/\Q (.bl (if neg=true then !b else b)) H
def z3E (hu:X.A.units+12<cLine):OpR X (compareOp .Eq) (z0u X.K false):=by
 rintro pins s σ H x y v u Q I rx ry ⟨dx,dy,Lx,Ly,b,r1,r2,he,q⟩;exact (z2E I 12 X.A dx dy x y Lx Ly v u b hu he r1 r2 rx ry).1 X.prog X.w X.xe _ ⟨.bl b,H,I,rfl,q⟩
def z4q (hu:X.A.units+12<cLine):OpR X (compareOp .NotEq) (z0u X.K true):=by
 rintro pins s σ H x y v u Q I rx ry ⟨dx,dy,Lx,Ly,b,r1,r2,he,q⟩;exact (z2E I 12 X.A dx dy x y Lx Ly v u b hu he r1 r2 rx ry).2.2 X.prog X.w X.xe _ ⟨.bl (!b),H,I,rfl,q⟩
def qV:List Key->List D->Key->Option D
 | k::ks,d::ds,j=>if k=j then some d else qV ks ds j
 | _,_,_=>none
def ZJ (js:List Key)(ys:List D):List Key->List D->Option Bool
 | k::ks,x::xs=>match qV js ys k with
  | none=>some false
  | some y=>if (x.isS&&y.isS)=true then (ZJ js ys ks xs).map (eqS x y&&·) else none
 | _,_=>some true
def kc {K:jJa}{H:Hp}:∀ {kvs:List (Key×V)} {ds:List D} {L:List Addr} {k:Key} {d:D},Reps K H ds (kvs.map (·.2)) L->qV (kvs.map (·.1)) ds k=some d->∃v L1,jo kvs k=some v/\Rep K H d v L1/\List.Sublist L1 L
 | [],ds,_,k,d,r,h=>by cases ds<;>cases h
 | p::kvs,[],_,k,d,r,h=>by obtain⟨e,_⟩:=r;cases e
 | p::kvs,d0::ds,_,k,d,hq5,h=>by
  obtain⟨v,vs',L1,L2,e1,e2,r1,r2⟩:=hq5;subst e2;rw[tG]at e1;cases e1;rw[tG]at h;unfold qV at h
  by_cases hk:p.1=k
  ·rw[if_pos hk]at h;cases h;exact⟨p.2,L1,jD hk,r1,List.sublist_append_left _ _⟩
  ·rw[if_neg hk]at h;obtain⟨v,L',a,b,c⟩:=kc r2 h;exact⟨v,L',by rw[qJ hk];exact a,b,c.trans (pD _ _)⟩
def YQ {K:jJa}{H:Hp}:∀ {kvs:List (Key×V)} {ds:List D} {L:List Addr} {k:Key},Reps K H ds (kvs.map (·.2)) L->qV (kvs.map (·.1)) ds k=none->jo kvs k=none
 | [],ds,_,k,r,h=>rfl
 | p::kvs,[],_,k,r,h=>by obtain⟨e,_⟩:=r;cases e
 | p::kvs,d0::ds,_,k,hq4,h=>by
  obtain⟨v,vs',L1,L2,e1,e2,r1,r2⟩:=hq4;subst e2;rw[tG]at e1;cases e1;rw[tG]at h;unfold qV at h
  by_cases hk:p.1=k
  ·rw[if_pos hk]at h;cases h
  ·rw[if_neg hk]at h;rw[qJ hk];exact YQ r2 h
def Qj {K:jJa}{H:Hp}{A:Around}{s:Shared}{kvb:List (Key×V)}{vb:List (Key×Value)}{ys:List D}{Lb:List Addr}(rb:KV kvb vb)(qb:Reps K H ys (kvb.map (·.2)) Lb):
  ∀ {kva:List (Key×V)} {va:List (Key×Value)} {xs:List D} {La:List Addr} {b:Bool},KV kva va->Reps K H xs (kva.map (·.2)) La->ZJ (kvb.map (·.1)) ys (kva.map (·.1)) xs=some b->PySem.W.KeqHits A s vb va b:=by
 intro kva va xs La b ra
 induction ra generalizing xs La b with
 | nil =>
  intro r h;cases xs with
  | nil=>cases h;exact .nil
  | cons _ _=>obtain⟨_,_,_,_,e,_⟩:=r;cases e
 | @cons p q l1 l2 h1 _ ih =>
  intro r h;cases xs with
  | nil=>obtain⟨e,_⟩:=r;cases e
  | cons x xs =>
   obtain⟨v,vs',L1,L2,e1,e2,r1,r2⟩:=r;rw[tG]at e1;cases e1;rw[tG]at h;unfold ZJ at h;have ek:q.1=p.1:=h1.1.symm;have hv:=rb.val p.1;cases hl:qV (kvb.map (·.1)) ys p.1 with
   | none =>
    rw[hl]at h;cases h;rw[YQ qb hl]at hv;have:valueAt vb q.1=none:=by
     rw[ek];cases hq:valueAt vb p.1 with
     | none=>rfl
     | some y=>rw[hq]at hv;exact hv.elim
    exact PySem.W.KeqHits.miss (k:=q.1) (v:=q.2) this
   | some y =>
    rw[hl]at h;dsimp only at h;split at h
    ·rename_i hs;rw[sY]at hs;cases hr:ZJ (kvb.map (·.1)) ys (l1.map (·.1)) xs with
     | none=>rw[hr]at h;cases h
     | some b' =>
      rw[hr]at h;have h:(eqS x y&&b')=b:=jYe h;obtain⟨w,Lw,g1,g2,_⟩:=kc qb hl;rw[g1]at hv;obtain⟨yv,hy,ry⟩:=RelO.some_of (v:=w) (o:=valueAt vb p.1) hv;rw[<-h];exact PySem.W.KeqHits.hit (k:=q.1) (v:=q.2) (by rw[ek];exact hy) (Xz (A:=A) (s:=s) hs.1 hs.2 r1 g2 h1.2 ry).2.1 (ih r2 hr)
    ·cases h
def WI (K:jJa)(neg:Bool):R2:=fun x y H Q=>∃a b kva kvb xs ys La Lb r,x=.ref a/\y=.ref b/\Rd H a (.dK kva)/\Rd H b (.dK kvb)/\Reps K H xs (kva.map (·.2)) La/\Reps K H ys (kvb.map (·.2)) Lb /\
 (kva.length=kvb.length->ZJ (kvb.map (·.1)) ys (kva.map (·.1)) xs=some r)/\Q (.bl (if neg=true then !(kva.length==kvb.length&&r) else (kva.length==kvb.length&&r))) H
def z1T {X:Cx}(hu:X.A.units<cLine):OpR X (compareOp .Eq) (WI X.K false):=by
 rintro pins s σ H x y v u Q I rx ry ⟨a,b,kva,kvb,xs,ys,La,Lb,r,e1,e2,ha,hb,qa,qb,hh,q⟩;subst e1 e2;obtain rfl:v=Value.ref a:=rx;obtain rfl:u=Value.ref b:=ry;obtain⟨_,da,va,ra,oa⟩:=ZU I.hok ha;obtain⟨_,db,vb,rb,ob⟩:=ZU I.hok hb;have l1:va.length=kva.length:=ra.length.symm;have l2:vb.length=kvb.length:=rb.length.symm;refine PySem.W.keq_eq (r:=r) da db oa ob hu (fun e=>Qj rb qb ra qa (hh (by lia))) ?_;rw[l1,l2];exact⟨.bl _,H,I,rfl,q⟩
def z16 {X:Cx}(hu:X.A.units<cLine):OpR X (compareOp .NotEq) (WI X.K true):=by
 rintro pins s σ H x y v u Q I rx ry ⟨a,b,kva,kvb,xs,ys,La,Lb,r,e1,e2,ha,hb,qa,qb,hh,q⟩;subst e1 e2;obtain rfl:v=Value.ref a:=rx;obtain rfl:u=Value.ref b:=ry;obtain⟨_,da,va,ra,oa⟩:=ZU I.hok ha;obtain⟨_,db,vb,rb,ob⟩:=ZU I.hok hb;have l1:va.length=kva.length:=ra.length.symm;have l2:vb.length=kvb.length:=rb.length.symm;refine PySem.W.keq_ne (r:=r) da db oa ob hu (fun e=>Qj rb qb ra qa (hh (by lia))) ?_;rw[l1,l2];exact⟨.bl _,H,I,rfl,q⟩
def z2J (ks:List Key)(xs:List D)(js:List Key)(ys:List D):Option Bool:=if ks.length=js.length then ZJ js ys ks xs else some false
def eqR (neg:Bool):D->D->R D
 | .dic ks xs,.dic js ys=>match z2J ks xs js ys with
  | some b=>.ok (.bl (if neg=true then !b else b))
  | none=>.bad
 | x,y=>match eqF 12 x y with
  | some b=>.ok (.bl (if neg=true then !b else b))
  | none=>.bad
def xi {neg:Bool}:wH (eqR neg):=fun x y n h=>by
 unfold eqR at h;split at h
 ·split at h<;>cases h
 ·split at h<;>cases h
def xj {K:jJa}{neg:Bool}:OpB K (fun x y H Q=>z0u K neg x y H Q\/WI K neg x y H Q) (eqR neg):=by
 rintro H x y dx dy Lx Ly Q rx ry ⟨d,hg,q⟩;unfold eqR at hg;split at hg
 ·rename_i ks xs js ys;obtain⟨a,kva,L1,rfl,ha,_,hk,_,rs⟩:=rx;obtain⟨b,kvb,L2,rfl,hb,_,hj,_,qs⟩:=ry;have l1:ks.length=kva.length:=by rw[<-hk,tU]
  have l2:js.length=kvb.length:=by rw[<-hj,tU]
  unfold z2J at hg
  by_cases hl:ks.length=js.length
  ·rw[if_pos hl]at hg;cases hr:ZJ js ys ks xs with
   | none=>rw[hr]at hg;cases hg
   | some r =>
    rw[hr]at hg;cases hg;refine .inr ⟨a,b,kva,kvb,xs,ys,_,_,r,rfl,rfl,.inl ha,.inl hb,rs,qs,fun _=>by rw[hk,hj];exact hr,?_⟩;have e:(kva.length==kvb.length&&r)=r:=by
     have:(kva.length==kvb.length)=true:=by simp;lia
     rw[this,Bool.true_and]
    rw[e];exact q _ H [] (Same.refl H) ⟨rfl,rfl⟩ (by simp) (fun a ha=>nomatch ha)
  ·rw[if_neg hl]at hg;cases hg;refine .inr ⟨a,b,kva,kvb,xs,ys,_,_,false,rfl,rfl,.inl ha,.inl hb,rs,qs,fun z=>absurd z (by lia),?_⟩;rw[pQ];exact q _ H [] (Same.refl H) ⟨rfl,rfl⟩ (by simp) (fun a ha=>nomatch ha)
 ·split at hg
  ·rename_i b hb;cases hg;exact .inl ⟨dx,dy,Lx,Ly,b,rx,ry,hb,q _ H [] (Same.refl H) ⟨rfl,rfl⟩ (by simp) (fun a ha=>nomatch ha)⟩
  ·cases hg
def zC (hu:X.A.units+12<cLine):OpR X (compareOp .Eq) (fun x y H Q=>z0u X.K false x y H Q\/WI X.K false x y H Q):=OpR.or (z3E hu) (z1T (by lia))
def vc (hu:X.A.units+12<cLine):OpR X (compareOp .NotEq) (fun x y H Q=>z0u X.K true x y H Q\/WI X.K true x y H Q):=OpR.or (z4q hu) (z16 (by lia))
def QI:D->Option Key
 | .int i=>some (.inl i)
 | .str x=>some (.inr x)
 | .non=>some .non
 | _=>none
def ixD:D->D->R D
 | .lst ds,.int i=>match atI ds i with
  | some d=>.ok d
  | none=>.bad
 | .tup ds,.int i=>match atI ds i with
  | some d=>.ok d
  | none=>.bad
 | .frl ds,.int i=>match atI ds i with
  | some d=>.ok d
  | none=>.bad
 | .str x,.int i=>if x.length<=sizeLine then (match atI x.cps.toList i with
  | some c=>.ok (.str ⟨#[c]⟩)
  | none=>.bad) else .bad
 | .dic ks ds,k=>match QI k with
  | some k=>(match qV ks ds k with
   | some d=>.ok d
   | none=>.bad)
  | none=>.bad
 | _,_=>.bad
def z6u:wH ixD:=fun x y n h=>by
 unfold ixD at h;split at h
 ·split at h<;>cases h
 ·split at h<;>cases h
 ·split at h<;>cases h
 ·split at h
  ·split at h<;>cases h
  ·cases h
 ·split at h
  ·split at h<;>cases h
  ·cases h
 ·cases h
def QS {K:jJa}{H:Hp}{d:D}{v:V}{L:List Addr}{k:Key}(h:QI d=some k)(r:Rep K H d v L):v=kV k:=by
 cases d with
 | non=>cases h;exact r.1
 | int i=>cases h;exact r.1
 | str x=>cases h;exact r.1
 | _=>cases h
def Reps.atI {K:jJa}{H:Hp}{ds:List D}{vs:List V}{L:List Addr}{i:Int}{d:D}(r:Reps K H ds vs L)(h:L2.atI ds i=some d):∃v L1,L2.atI vs i=some v/\Rep K H d v L1/\List.Sublist L1 L:=by
 unfold L2.atI at h ⊢;rw[r.length];cases e:ixN ds.length i with
 | none=>rw[e]at h;cases h
 | some j =>
  rw[e]at h;obtain⟨v,L1,a,b,c⟩:=r.get h;exact⟨v,L1,a,b,c⟩
section
variable {X:Cx}{E:XK}{Γ:List Cl}{e a b:Expr}{es:List Expr}{t ta tb:Tn->R D}{u:Tn->R (List D)}{c ca cb:Rc}{pos p p2:Pos}
def RcOk.sub (h:RcOk c O H L)(s:List.Sublist L' L):RcOk c O H L':=by
 cases c with
 | fresh=>exact⟨h.1.sublist s,fun a ha=>h.2 a (s.subset ha)⟩
 | shr=>exact fun a ha=>h a (s.subset ha)
 | bor=>trivial
def post.bind2 {K:jJa}{O:Addr->Prop}{H H1:Hp}{Q Q':VK}{r:R D}{f:D->R D}(h:post K E O c H Q (r.bind f))(s:Same H H1)(hf:∀d,r=.ok d->post K E O c H Q (f d)->∀v H' L,Same H1 H'->Rep K H' d v L->RcOk ca O H1 L->Q' v H'):post K E O ca H1 Q' r:=by
 cases r with
 | ok d=>exact hf d rfl h
 | err n=>exact fun C H' e s'=>h C H' e (s.trans s')
 | bad=>exact h
def Jf {K:jJa}{H:Hp}{dx dy d:D}{x y:V}{Lx Ly:List Addr}{Q:VK}(hn:∀ks ds,dx≠.dic ks ds)(h:ixD dx dy=.ok d)(rx:Rep K H dx x Lx)(ry:Rep K H dy y Ly)(q:∀v L1,Rep K H d v L1->List.Sublist L1 Lx->Q v H):rIx K x y H Q:=by
 unfold ixD at h;split at h
 ·split at h
  ·rename_i hd;cases h;obtain⟨a,vs,L',rfl,ha,e,rs⟩:=rx;subst e;obtain⟨v,L1,g1,g2,g3⟩:=rs.atI hd;exact .inl ⟨a,vs,_,v,rfl,ry.1,SqL.of ha,g1,q v L1 g2 (g3.trans (List.sublist_cons_self _ _))⟩
  ·cases h
 ·split at h
  ·rename_i hd;cases h;obtain⟨a,vs,rfl,ha,rs⟩:=rx;obtain⟨v,L1,g1,g2,g3⟩:=rs.atI hd;exact .inr (.inl ⟨a,vs,_,v,rfl,ry.1,ha,g1,q v L1 g2 g3⟩)
  ·cases h
 ·split at h
  ·rename_i hd;cases h;obtain⟨a,vs,rfl,ha,e,_,rs⟩:=rx;subst e;obtain⟨v,L1,g1,g2,g3⟩:=rs.atI hd;exact .inl ⟨a,vs,_,v,rfl,ry.1,ha.sq,g1,q v L1 g2 g3⟩
  ·cases h
 ·split at h
  ·rename_i hz;split at h
   ·rename_i hd;cases h;exact .inr (.inr ⟨_,_,_,rx.1,ry.1,hz,hd,q _ [] ⟨rfl,rfl⟩ (pU _)⟩)
   ·cases h
  ·cases h
 ·rename_i ks ds;exact absurd rfl (hn _ _)
 ·cases h
def zG (hu:X.A.units+1<cLine)(ha:ME X E Γ a ta ca)(hb:ME X E Γ b tb cb)(hs:autoParam (Qq b) au6._auto_1):ME X E Γ (.Subscript a b pos) (ze ixD ta tb) ca:=by
 obtain⟨te,p,q⟩:=ha;obtain⟨te',p',q'⟩:=hb;refine⟨fun σ H Q=>tOp (rIx X.K) te te' σ H Q\/z2I te te' σ H Q,fun pins s σ H Q I z=>?_,fun O σ H τ Q ok h=>?_⟩
 ·rcases z with z|z
  ·exact z03 Uz p p' hs pins s σ H Q I z
  ·exact z1o hu p p' hs pins s σ H Q I z
 ·unfold ze at h
  by_cases hd:∃ks ds,ta τ=.ok (.dic ks ds)
  ·obtain⟨ks,ds,hd⟩:=hd;refine .inr (q O σ H τ _ ok (post.bind h fun dx hx h x H1 Lx s1 rx kx=>?_));rw[hd]at hx;cases hx;refine q' O σ H1 τ _ (ok.same s1) (post.bind2 h s1 fun dy _ h y H2 Ly s2 ry _=>?_);have h:post X.K E O ca H Q (match QI dy with
    | some k=>(match qV ks ds k with
     | some d=>.ok d
     | none=>.bad)
    | none=>.bad):=h
   cases hk:QI dy with
   | none=>rw[hk]at h;exact h.elim
   | some k =>
    rw[hk]at h;dsimp only at h;cases hl:qV ks ds k with
    | none=>rw[hl]at h;exact h.elim
    | some d =>
     rw[hl]at h;obtain⟨ad,kvs,L',rfl,had,e2,hks,_,rs⟩:=rx;subst e2;rw[<-hks]at hl;obtain⟨v,L1,g1,g2,g3⟩:=kc rs hl;refine⟨ad,v,rfl,?_,h v H2 L1 (s1.trans s2) (g2.same s2) (kx.sub (g3.trans (List.sublist_cons_self _ _)))⟩;rw[QS hk ry,<-g1];exact DGet.k (s2 _ _ had)
  ·refine .inl (q O σ H τ _ ok (post.bind h fun dx hx h x H1 Lx s1 rx kx=>q' O σ H1 τ _ (ok.same s1) (post.bind2 h s1 fun dy _ h y H2 Ly s2 ry _=>?_)));cases hg:ixD dx dy with
   | ok d =>
    rw[hg]at h;exact Jf (fun ks ds z=>hd ⟨ks,ds,by rw[hx,z]⟩) hg (rx.same s2) ry fun v L1 g1 g2=>h v H2 L1 (s1.trans s2) g1 (kx.sub g2)
   | err n=>exact absurd hg (z6u _ _ _)
   | bad=>rw[hg]at h;exact h.elim
def KY:D->R D
 | .int i=>.ok (.int (-i))
 | _=>.bad
def U6 (ha:ME X E Γ a ta ca):ME X E Γ (.UnaryOp .USub a pos) (eUn KY ta) .fresh:=by
 obtain⟨te,p,q⟩:=ha;refine⟨_,z2g Kq p,fun O σ H τ Q ok h=>q O σ H τ _ ok (post.bind h fun d _ h v H1 L s1 r1 _=>?_)⟩;cases d with
 | int i=>exact⟨i,r1.1,h _ H1 [] s1 ⟨rfl,rfl⟩ RcOk.nil⟩
 | _=>exact h.elim
def j6 {α:Type}(xs:List α)(lo hi:Option Int):List α:=(xs.drop (HT.sIx xs.length 0 lo)).take (HT.sIx xs.length xs.length hi-HT.sIx xs.length 0 lo)
def slD (x:D)(lo hi:Option Int):R D:=match x with
 | .lst ds=>if D.imms ds=true then .ok (.lst (j6 ds lo hi)) else .bad
 | .str z=>if z.length<=sizeLine then .ok (.str (Txt.slice z lo hi)) else .bad
 | .tup ds=>if D.imms ds=true/\¬(HT.sIx ds.length 0 lo=0/\HT.sIx ds.length ds.length hi=ds.length) then .ok (.tup (j6 ds lo hi)) else .bad
 | _=>.bad
def eSl (t:Tn->R D)(tl th:Tn->R (Option Int)):Tn->R D:=fun τ=>(t τ).bind fun x=>(tl τ).bind fun l=>(th τ).bind fun h=>slD x l h
def xD:Tn->R (Option Int):=fun _=>.ok none
def yL (t:Tn->R D):Tn->R (Option Int):=fun τ=>(t τ).bind fun d=>match d with
 | .int i=>.ok (some i)
 | _=>.bad
def z4U (K:jJa)(E:XK)(H:Hp)(Q:Option Int->Hp->Prop):R (Option Int)->Prop
 | .ok o=>∀H',Same H H'->Q o H'
 | .err n=>∀C H',ErrC K n C->Same H H'->E (.ref C) none H'
 | .bad=>False
def MO (X:Cx)(E:XK)(Γ:List Cl)(e:Option Expr)(t:Tn->R (Option Int)):Prop:=
 ∃to,PO X e to/\∀O σ H τ Q,EOk X.K Γ O H σ τ->z4U X.K E H Q (t τ)->to σ H Q
def wa:MO X E Γ none xD:=⟨QK,z1B,fun O σ H τ Q ok h=>h H (Same.refl H)⟩
def xb (h:ME X E Γ e t c):MO X E Γ (some e) (yL t):=by
 obtain⟨te,p,q⟩:=h;refine⟨z2w te,z1O p,fun O σ H τ Q ok h=>q O σ H τ _ ok ?_⟩;unfold yL at h;cases ht:t τ with
 | ok d =>
  rw[ht,jYa]at h;refine fun v H' L s r _=>?_;cases d with
  | int i=>exact⟨i,r.1,h H' s⟩
  | _=>exact h.elim
 | err n=>rw[ht]at h;exact h
 | bad=>rw[ht]at h;exact h
def Reps.cut {K:jJa}{H:Hp}{ds:List D}{vs:List V}{L:List Addr}(r:Reps K H ds vs L)(lo hi:Option Int):∃L',Reps K H (j6 ds lo hi) (XY vs lo hi) L'/\List.Sublist L' L:=by
 obtain⟨L1,a,b⟩:=r.drop (HT.sIx ds.length 0 lo);obtain⟨L2,c,d⟩:=a.take (HT.sIx ds.length ds.length hi-HT.sIx ds.length 0 lo);refine⟨L2,?_,d.trans b⟩;unfold j6 XY;rw[r.length];exact c
def qk {lo hi:Option Expr}{tl th:Tn->R (Option Int)}(he:ME X E Γ e t c)(hl:MO X E Γ lo tl)(hh:MO X E Γ hi th):ME X E Γ (.Subscript e (.Slice lo hi none p2) pos) (eSl t tl th) .fresh:=by
 obtain⟨te,p,q⟩:=he;obtain⟨tl',pl,ql⟩:=hl;obtain⟨th',ph,qh⟩:=hh;refine⟨_,Vt (SlR.or Qv (SlR.or z0c JL)) p pl ph,fun O σ H τ Q ok h=>?_⟩;unfold eSl at h;refine q O σ H τ _ ok (post.bind h fun dx hx h x H1 Lx s1 rx kx=>ql O σ H1 τ _ (ok.same s1) ?_);cases h1:tl τ with
 | err n=>rw[h1]at h;exact fun C H' e s'=>h C H' e (s1.trans s')
 | bad=>rw[h1]at h;exact h
 | ok l =>
  rw[h1,jYa]at h;refine fun H2 s2=>qh O σ H2 τ _ ((ok.same s1).same s2) ?_;cases h2:th τ with
  | err n=>rw[h2]at h;exact fun C H' e s'=>h C H' e ((s1.trans s2).trans s')
  | bad=>rw[h2]at h;exact h
  | ok g =>
   rw[h2,jYa]at h;refine fun H3 s3=>?_;have s03:=(s1.trans s2).trans s3;have rx:=(rx.same s2).same s3;unfold slD at h;cases dx with
   | lst ds =>
    dsimp only at h
    by_cases hz:D.imms ds=true
    ·rw[if_pos hz]at h;obtain⟨a,vs,L',rfl,ha,_,rs⟩:=rx;obtain⟨L2,rc,_⟩:=(yT rs hz).cut l g;have e0:L2=[]:=gA.mp ‹_›;subst e0;refine .inl ⟨a,vs,rfl,SqL.of ha,fun p hp=>qO rc hp fun v H' L s r n1 n2=>h v H' L (s03.trans s) r ⟨n1,fun a ha=>s03.non (n2 a ha)⟩⟩
    ·rw[if_neg hz]at h;exact h.elim
   | str z =>
    dsimp only at h
    by_cases hz:z.length<=sizeLine
    ·rw[if_pos hz]at h;exact .inr (.inl ⟨z,rx.1,hz,h _ H3 [] s03 ⟨rfl,rfl⟩ RcOk.nil⟩)
    ·rw[if_neg hz]at h;exact h.elim
   | tup ds =>
    dsimp only at h
    by_cases hz:D.imms ds=true/\¬(HT.sIx ds.length 0 l=0/\HT.sIx ds.length ds.length g=ds.length)
    ·rw[if_pos hz]at h;obtain⟨a,vs,rfl,ha,rs⟩:=rx;obtain⟨L2,rc,_⟩:=(yT rs hz.1).cut l g;have e0:L2=[]:=gA.mp ‹_›;subst e0;exact .inr (.inr ⟨a,vs,rfl,ha,by rw[rs.length];exact hz.2,fun p hp=>h _ _ [] (s03.trans (Same.new hp)) ⟨p,_,rfl,SqT.of zT,rc.same (Same.new hp)⟩ RcOk.nil⟩)
    ·rw[if_neg hz]at h;exact h.elim
   | _=>exact h.elim
end
section
variable {X:Cx}
def yE:List D->R D
 | [.lst ds]=>.ok (.int ds.length)
 | [.tup ds]=>.ok (.int ds.length)
 | [.frl ds]=>.ok (.int ds.length)
 | [.str x]=>if x.length<=sizeLine then .ok (.int x.length) else .bad
 | [.dic ks _]=>.ok (.int ks.length)
 | _=>.bad
def yZ:we yE:=fun ds n h=>by
 rcases ds with _|⟨d,_|⟨_,_⟩⟩
 ·cases h
 ·cases d with
  | str x =>
   replace h:(if x.length<=sizeLine then R.ok (D.int x.length) else .bad)=R.err n:=h
   split at h<;>cases h
  | _=>cases h
 ·cases d<;>cases h
def zE:CallR X (.builtin "len") (fun xs H Q=>(∃p ys,xs=[.ref p]/\(SqL X.K H p ys\/SqT X.K H p ys)/\Q (.int ys.length) H)\/(∃z,xs=[.str z]/\z.length<=sizeLine/\Q (.int z.length) H)\/∃a kvs,xs=[V.ref a]/\H a=some (.dK kvs)/\Q (.int kvs.length) H):=
 CallR.or W9 (CallR.or XA QO)
def ua {K:jJa}{H:Hp}{d:D}{xs:List V}{L:List Addr}(r:Reps K H [d] xs L):∃v,xs=[v]/\Rep K H d v L:=by
 obtain⟨v,vs',L1,L2,e1,e2,r1,r2⟩:=r;obtain⟨rfl,rfl⟩:=r2;rw[tZ]at e2;subst e2;exact⟨v,e1,r1⟩
def z6j {K:jJa}{H:Hp}{d d':D}{xs:List V}{L:List Addr}(r:Reps K H [d,d'] xs L):∃v v' L1 L2,xs=[v,v']/\L=L1++L2/\Rep K H d v L1/\Rep K H d' v' L2:=by
 obtain⟨v,vs',L1,L2,e1,e2,r1,r2⟩:=r;obtain⟨v',rfl,r3⟩:=ua r2;exact⟨v,v',L1,L2,e1,e2,r1,r3⟩
def x9 {K:jJa}:ClB K (fun xs H Q=>(∃p ys,xs=[.ref p]/\(SqL K H p ys\/SqT K H p ys)/\Q (.int ys.length) H)\/(∃z,xs=[.str z]/\z.length<=sizeLine/\Q (.int z.length) H)\/∃a kvs,xs=[V.ref a]/\H a=some (.dK kvs)/\Q (.int kvs.length) H) yE:=by
 rintro H xs ds L Q r ⟨d,hg,q⟩;have fin:∀n:Int,d=.int n->Q (.int n) H:=fun n e=>q _ H [] (Same.refl H) (e▸⟨rfl,rfl⟩) (by simp) (fun a ha=>nomatch ha);rcases ds with _|⟨e,_|⟨_,_⟩⟩
 ·cases hg
 ·cases e with
  | lst es =>
   cases hg;obtain⟨v,rfl,a,vs,L',rfl,ha,_,rs⟩:=ua r;exact .inl ⟨a,vs,rfl,.inl (SqL.of ha),fin _ (by rw[rs.length])⟩
  | tup es =>
   cases hg;obtain⟨v,rfl,a,vs,rfl,ha,rs⟩:=ua r;exact .inl ⟨a,vs,rfl,.inr ha,fin _ (by rw[rs.length])⟩
  | frl es =>
   cases hg;obtain⟨v,rfl,a,vs,rfl,ha,_,_,rs⟩:=ua r;exact .inl ⟨a,vs,rfl,.inl ha.sq,fin _ (by rw[rs.length])⟩
  | str x =>
   replace hg:(if x.length<=sizeLine then R.ok (D.int x.length) else .bad)=R.ok d:=hg
   split at hg
   ·rename_i hz;cases hg;obtain⟨v,rfl,rfl,_⟩:=ua r;exact .inr (.inl ⟨_,rfl,hz,fin _ rfl⟩)
   ·cases hg
  | dic ks es =>
   cases hg;obtain⟨v,rfl,a,kvs,L',rfl,ha,_,hk,_⟩:=ua r;exact .inr (.inr ⟨a,kvs,rfl,ha,fin _ (by rw[<-hk,tU])⟩)
  | _=>cases hg
 ·cases e<;>cases hg
def j4:List D->Option (List Int)
 | []=>some []
 | .int i::ds=>(j4 ds).map (i::·)
 | _=>none
def kD {K:jJa}{H:Hp}:∀ {ds:List D} {vs:List V} {L:List Addr} {ns:List Int},Reps K H ds vs L->j4 ds=some ns->vs=ns.map V.int
 | [],_,_,ns,hq4,h=>by
  obtain⟨e,_⟩:=hq4;subst e;cases h;rfl
 | .int i::ds,_,_,ns,hq4,h=>by
  obtain⟨v,vs',L1,L2,e1,_,r1,r2⟩:=hq4;subst e1;have h:(j4 ds).map (i::·)=some ns:=h;cases hi:j4 ds with
  | none=>rw[hi]at h;cases h
  | some ms =>
   rw[hi]at h;cases h;rw[r1.1,kD r2 hi];rfl
 | .non::_,_,_,_,_,h=>by cases h
 | .bl _::_,_,_,_,_,h=>by cases h
 | .str _::_,_,_,_,_,h=>by cases h
 | .tup _::_,_,_,_,_,h=>by cases h
 | .lst _::_,_,_,_,_,h=>by cases h
 | .dic _ _::_,_,_,_,_,h=>by cases h
 | .frl _::_,_,_,_,_,h=>by cases h
def ZQ:∀ {ns:List Int} {us:List Value},Vals (ns.map V.int) us->∃xs:List (Int×Tok),us=xs.map (fun p=>Value.int p.1 p.2)/\xs.map (·.1)=ns
 | [],us,r=>by cases r;exact⟨[],rfl,rfl⟩
 | n::ns,_,r=>by
  rw[tG]at r;cases r with
  | cons r1 r2 =>
   obtain⟨t,rfl⟩:=r1;obtain⟨xs,rfl,e⟩:=ZQ r2;exact⟨(n,t)::xs,rfl,by simp[e]⟩
def kY:List D->R D
 | [.lst ds]=>match j4 ds with
  | some ns=>.ok (.int ns.sum)
  | none=>.bad
 | _=>.bad
def KA:we kY:=fun ds n h=>by
 unfold kY at h;split at h
 ·split at h<;>cases h
 ·cases h
def z2B (K:jJa):List V->Hp->VK->Prop:=fun xs H Q=>∃(p:Addr) (ns:List Int),xs=[.ref p]/\SqL K H p (ns.map V.int)/\Q (.int ns.sum) H
def XN (xs:List (Int×Tok)):preSum (numAt xs.toArray) xs.toArray.size=(xs.map (·.1)).sum:=by
 rw[preSum_eq,rS (by simp)]
def km (hc:X.calm=true):CallR X (.builtin "sum") (z2B X.K):=by
 intro pins s σ H xs us Q I r h;obtain⟨p,ns,rfl,hs,q⟩:=h;obtain⟨u,rfl,ru⟩:=uF r;obtain rfl:u=Value.ref p:=ru;obtain⟨its,rv,pl,hz⟩:=I.list hs;obtain⟨ys,rfl,e⟩:=ZQ rv;have hl:s.heap.IsList p (intItems ys.toArray):=by
  have:=pl.isList
  simpa [intItems] using this
 refine sum_intListG (I.ok.hd hc) hl fun h' tk t' hk=>⟨.int ns.sum,H,I.kept hk,⟨t',?_⟩,q⟩
 rw[XN,e]
def JE {K:jJa}:ClB K (z2B K) kY:=by
 rintro H xs ds L Q r ⟨d,hg,q⟩;unfold kY at hg;split at hg
 ·split at hg
  ·rename_i ds ns hn;cases hg;obtain⟨v,rfl,a,vs,L',rfl,ha,_,rs⟩:=ua r;exact⟨a,ns,rfl,by rw[<-kD rs hn];exact SqL.of ha,q _ H [] (Same.refl H) ⟨rfl,rfl⟩ (by simp) (fun a ha=>nomatch ha)⟩
  ·cases hg
 ·cases hg
def vC:List D->R D
 | [.lst ds]=>if D.imms ds=true then .ok (.lst ds) else .bad
 | [.tup ds]=>if D.imms ds=true then .ok (.lst ds) else .bad
 | _=>.bad
def jA:we vC:=fun ds n h=>by
 unfold vC at h;split at h
 ·split at h<;>cases h
 ·split at h<;>cases h
 ·cases h
def jP {K:jJa}:ClB K (fun xs H Q=>∃p ys,xs=[.ref p]/\(SqL K H p ys\/SqT K H p ys)/\∀l,H l=none->Q (.ref l) (upd H l (.lst ys))) vC:=by
 rintro H xs ds L Q r ⟨d,hg,q⟩;unfold vC at hg;split at hg
 ·split at hg
  ·rename_i hz;cases hg;obtain⟨v,rfl,a,vs,L',rfl,ha,_,rs⟩:=ua r;exact⟨a,vs,rfl,.inl (SqL.of ha),fun l hl=>qO (yT rs hz) hl q⟩
  ·cases hg
 ·split at hg
  ·rename_i hz;cases hg;obtain⟨v,rfl,a,vs,rfl,ha,rs⟩:=ua r;exact⟨a,vs,rfl,.inr ha,fun l hl=>qO (yT rs hz) hl q⟩
  ·cases hg
 ·cases hg
def Yc:D->String
 | .non=>"NoneType"
 | .bl _=>"bool"
 | .int _=>"int"
 | .str _=>"str"
 | .tup _=>"tuple"
 | .lst _=>"list"
 | .frl _=>"list"
 | .dic _ _=>"dict"
def Jq (d:D):Yc d∈kJ:=by cases d<;>simp[Yc,kJ]
def JV (d:D)(T:String):Bool:=Yc d==T||(Yc d=="bool"&&T=="int")
def z6Q (K:jJa):List V->Hp->VK->Prop:=fun xs H Q=>∃x T d L,xs=[x,.ty T]/\Rep K H d x L/\T∈(["int","bool","str","list","tuple","dict"]:List String)/\Q (.bl (JV d T)) H
def z1U {K:jJa}{d:D}{U:String}(hU:U∈(["int","bool","str","list","tuple","dict"]:List String)):jJb K (.type (Yc d)) (.type U)=some (JV d U):=by
 have hT:=Jq d;unfold JV;simp only[sI,pS,or_false]at hU;rcases hU with rfl|rfl|hU
 ·rw[z1x hT];simp
 ·rw[z09 hT];have:(Yc d=="bool"&&("bool":String)=="int")=false:=by simp
  rw[this,Bool.or_false]
 ·rw[z0a hT (by simpa using hU)];have:(Yc d=="bool"&&U=="int")=false:=by
   rcases hU with rfl|rfl|rfl|rfl<;>simp
  rw[this,Bool.or_false]
def z0t:CallR X (.builtin "isinstance") (z6Q X.K):=by
 intro pins s σ H xs us Q I r h;obtain⟨x,T,d,L,rfl,rd,hT,q⟩:=h;obtain⟨u,u2,rfl,rx,rT⟩:=Qg r;obtain rfl:u2=Value.type T:=rT;have hk:=z1U (K:=X.K) (d:=d) hT;have fin:∀tk,EP X pins σ Q (.bool (JV d T)) { s with toks:=tk }:=fun tk=>⟨.bl _,H,I.tok tk,rfl,q⟩
 cases d with
 | non=>obtain⟨rfl,_⟩:=rd;exact vo I rx .non hk fin
 | bl b=>obtain⟨rfl,_⟩:=rd;exact vo I rx (.bl b) hk fin
 | int b=>obtain⟨rfl,_⟩:=rd;exact vo I rx (.int b) hk fin
 | str b=>obtain⟨rfl,_⟩:=rd;exact vo I rx (.str b) hk fin
 | lst _=>obtain⟨a,_,_,rfl,e,_⟩:=rd;exact vo I rx (.lst e) hk fin
 | frl _ =>
  obtain⟨a,vs,rfl,ha,_⟩:=rd;obtain rfl:u=Value.ref a:=rx;obtain⟨its,_,⟨o,n,h1,h2,_⟩,_⟩:=I.list ha.sq;exact jJc jJs I.kIn ⟨o,h1,h2⟩ hk (fun z=>nomatch z) fin
 | dic _ _=>obtain⟨a,_,_,rfl,e,_⟩:=rd;exact vo I rx (.dK e) hk fin
 | tup _ =>
  obtain⟨a,vs,rfl,ha,_⟩:=rd;obtain rfl:u=Value.ref a:=rx;obtain⟨its,_,⟨o,h1,h2,_⟩,_⟩:=I.tuple ha;exact jJc jJ2 I.kIn ⟨o,h1,h2⟩ hk (fun z=>nomatch z) fin
end
section
def xO (T:String):D->R D:=fun d=>.ok (.bl (JV d T))
def vg (hT:T∈(["int","bool","str","list","tuple","dict"]:List String))(hg:Gl X "isinstance")(hm:X.mg "isinstance"=none)(hc:PE X c' (tC (.ty T)))(he:ME X E Γ e t c)(hs:autoParam (starEach [e,c'] X.env=(false,eval e X.env)::starEach [c'] X.env) au3._auto_1)(hs2:autoParam (starEach [c'] X.env=(false,eval c' X.env)::starEach [] X.env) au3._auto_1)
  (hpl:autoParam ((backTo pos (starEach [c'] X.env)).any (·.1)=false) au3._auto_1):ME X E Γ (.Call (.Name "isinstance" p) [e,c'] [] pos) (eUn (xO T) t) .fresh:=by
 obtain⟨te,p',q⟩:=he;refine⟨_,uE (x:="isinstance") z0t hg hm Boot.«isinstance» (yG p' (yG hc vY hs2) hs) (by decide) (by decide) hs hpl,fun O σ H τ Q ok h=>q O σ H τ _ ok (post.bind h fun d _ h v H1 L s1 r1 _=>?_)⟩;exact⟨v,T,d,L,rfl,r1,hT,h _ H1 [] s1 ⟨rfl,rfl⟩ RcOk.nil⟩
end
section
variable {X:Cx}{E:XK}{Γ:List Cl}{e k v:Expr}{t:Tn->R D}{u:Tn->R (List D)}{c ca cb:Rc}{pos p:Pos}{ks:List Key}{keys:List (Option Expr)}{values:List Expr}
end
def Room.u12 {k:Nat}(r:Room k A):A.units+12<cLine:=by have:=r.un;lia
def Room.u1 {k:Nat}(r:Room k A):A.units+1<cLine:=by have:=r.un;lia
def XM (outer:Scope)(N N':List Str)(fr:List (Option Nat))(scope:Scope):Bool:=
 decide (scope.kind=.function)&&scope.names.all (fun y=>decide (y.2≠.cell))&&scope.names.all (fun y=>decide (y.2≠.local)||decide (scope.names.lookup y.1=some .local)) &&
 scope.names.all (fun y=>decide (y.2≠.free)||decide (outer.names.lookup y.1=some .cell)||decide (outer.names.lookup y.1=some .free))&&decide (fr.length=N'.length) &&
 (List.range fr.length).all fun j=>match fr[j]?,N'[j]? with
  | some (some i),some x=>decide (N[i]?=some x)&&decide (scope.names.lookup x=some .free)&&(decide (outer.names.lookup x=some .cell)||decide (outer.names.lookup x=some .free))
  | _,_=>true
def Ul {fr:List (Option Nat)}(hc:∀x,(X.env.scope.names.lookup x=some .cell\/X.env.scope.names.lookup x=some .free)->∃c,X.env.cells.lookup x=some c)(h:XM X.env.scope X.N N' fr scope=true):CompScope X N' fr scope:=by
 unfold XM at h;simp only[sY,decide_eq_true_eq,rX,Bool.or_eq_true]at h;obtain⟨⟨⟨⟨⟨h1,h2⟩,h3⟩,h4⟩,h5⟩,h6⟩:=h;refine⟨h1,h2,fun y hy e=>?_,fun y hy e=>?_,h5,fun j i x e1 e2=>?_⟩
 ·rcases h3 y hy with z|z
  ·exact absurd e z
  ·exact z
 ·rcases h4 y hy with (z|z)|z
  ·exact absurd e z
  ·exact hc y.1 (.inl z)
  ·exact hc y.1 (.inr z)
 ·have hj:j<fr.length:=(sN.mp e1).1;have:=h6 j (hX.mpr hj);rw[e1,e2]at this;simp only[sY,decide_eq_true_eq,Bool.or_eq_true]at this;exact⟨this.1.1,this.1.2,this.2⟩
def xn {CX:CXT}{P:Program}{w:World}{K:jJa}{mg:Str->Option Value}{base:Heap}{N:List Str}{qual:Str}{sc:Scope}{f:Addr}{cd:Value}{A:Around}{outer:List Env}{s:Shared}{H:Hp}{E:XK}{N':List Str}{fr:List (Option Nat)}{scope:Scope}
  (nf:∀y∈sc.names,y.2≠.free) (h:XM sc N N' fr scope=true):CompScope (vp CX P w K mg base N qual sc f cd A outer s H E) N' fr scope:=
 Ul (X:=vp CX P w K mg base N qual sc f cd A outer s H E) (fun x hx=>by
  rcases hx with hx|hx
  ·exact Yn hx
  ·exact absurd rfl (nf _ (PySem.mem_of_lookup hx))) h
section
def MGs (X:Cx)(es:List Expr)(is:List Nat):Prop:=∃g,PGs X es g/\∀(vs:List V) (σ:St) (H:Hp) (Q:St->Hp->Prop),vs.length=is.length->Q (wg σ is vs) H->g vs σ H Q
def qN:MGs X [] []:=⟨z6i,z1Z,fun vs σ H Q hl q=>by
 have:vs=[]:=pY.mp hl;subst this;exact⟨rfl,q⟩⟩
def xX {i:Nat}{is:List Nat}(h:PG X x (YW i))(r:MGs X es is)(hs:autoParam ((assignEach (x::es) X.env).map (·.2)=assign x X.env::(assignEach es X.env).map (·.2)) au3._auto_1):MGs X (x::es) (i::is):=by
 obtain⟨g,p,q⟩:=r;refine⟨_,Kt h p hs,fun vs σ H Q hl k=>?_⟩;cases vs with
 | nil=>cases hl
 | cons v vs=>exact⟨v,vs,rfl,q vs _ H Q (by simpa using hl) k⟩
def qP {k:Nat}{is:List Nat}(hc:X.calm=true)(h:MGs X es is)(hn:autoParam ((assignEach es X.env).length=is.length) au3._auto_1)(hst:autoParam ((assignEach es X.env).findIdx? (·.1)=none) au3._auto_1):MG X (.Tuple es k pos) (.many is):=by
 obtain⟨g,p,q⟩:=h;exact⟨g,z3t hc p hn hst,q⟩
def yA {i:Nat}(h:PG X x (YW i)):MG X x (.one i):=h
def Yt (g:Tgt)(t:Tn->R D):Tn->R Fl:=fun τ=>(t τ).bind fun d=>(g.asg d τ).bind fun τ1=>.ok (.nx τ1)
def z3z (h:ME X E Γ e t c)(hc:c≠.bor)(hg:MG X tg g)(hn:∀i∈g.slots,i<Γ.length)(hs:autoParam (swapsWithSole [tg] e pos.line X.env=pure false) au3._auto_1)(hw:autoParam (swappedStores [tg] e X.env=pure none) au3._auto_1)
  (h1:autoParam ((assignEach [tg] X.env).map (·.2)=[assign tg X.env]) au3._auto_1):MS X E Γl Γ (.Assign [tg] e pos) (Yt g t) (shrAll Γ g.slots):=by
 obtain⟨te,p,q⟩:=h;refine⟨_,JY p hg.pg hs hw h1,fun B σ H τ Z ok h=>?_⟩;obtain⟨O,eo,Od,hB⟩:=ok.base;refine q O σ H τ _ eo ?_;unfold Yt at h;cases ht:t τ with
 | ok d =>
  rw[ht,jYa]at h;refine fun v H' L s r k=>?_;obtain⟨B1,sB,ok1,hB1⟩:=hB H' s;have hL:∀a∈L,B1 a≠none:=fun a ha=>by rw[hB1 a (k.shr eo.dom hc a ha)];exact r.there ha
  cases ha:g.asg d τ with
  | ok τ1 =>
   rw[ha,jYa]at h;exact z0f ok1 r hL hn ha fun σ1 ok2=>h σ1 H' (ok2.rebase sB)
  | err n =>
   cases g with
   | one i=>cases ha
   | many is =>
    unfold Tgt.asg at ha;split at ha
    ·cases ha
    ·split at ha<;>cases ha
    ·cases ha
  | bad=>rw[ha]at h;exact h.elim
 | err n=>rw[ht]at h;exact fun C H' e s=>h C H' e (ok.ext.trans s)
 | bad=>rw[ht]at h;exact h
def kq (i:Nat)(g:D->D->R D)(t:Tn->R D):Tn->R Fl:=fun τ=>(za i τ).bind fun x=>(t τ).bind fun y=>(g x y).bind fun z=>.ok (.nx (τ.set i (some z)))
def z4A {i:Nat}(hN:X.N.Nodup)(hi:X.N[i]?=some x)(hk:Γ[i]?=some k)(hkd:k≠.dead)(hB:OpB X.K r g)(hn:wH g)(ho:PIp X op r)(h:ME X E Γ e t c)(hx:Loc X.env.scope x)
  (hf:autoParam (X.fn x=true\/X.env.scope.names.lookup x=some .local) au0._auto_1):MS X E Γl Γ (.AugAssign (.Name x pos') op e pos) (kq i g t) (Γ.set i .own):=by
 obtain⟨te,p,q⟩:=h;refine⟨_,z3p hN hi hx p ho hf,fun B σ H τ Z ok h=>?_⟩;obtain⟨O,eo,_⟩:=ok.eok;obtain⟨v,d,L,e1,e2,e3,_⟩:=eo.slot i k hk hkd;refine⟨v,e1,q O σ H τ _ eo ?_⟩;unfold kq at h;have ev:za i τ=.ok d:=by unfold za;rw[e2]
 rw[ev,jYa]at h;have hl:i<Γ.length:=(sN.mp hk).1;cases ht:t τ with
 | ok dy =>
  rw[ht,jYa]at h;refine fun y H1 Ly s1 ry _=>?_;cases hg:g d dy with
  | ok dz =>
   rw[hg,jYa]at h;refine hB H1 v y d dy L Ly _ (e3.same s1) ry ⟨dz,hg,fun z H2 L2 s2 rz n1 n2=>h _ _ ?_⟩;have ok2:=(ok.same s1).aside s2 (fun a ha=>rz.there ha) n1 n2;exact SOk.into (T:=[]) ok2 rz hl
  | err n=>exact absurd hg (hn _ _ _)
  | bad=>rw[hg]at h;exact h.elim
 | err n=>rw[ht]at h;exact fun C H' e s=>h C H' e (ok.ext.trans s)
 | bad=>rw[ht]at h;exact h
def PIp.or (h:PIp X op r)(h':PIp X op r'):PIp X op (fun x y H Q=>r x y H Q\/r' x y H Q):=by
 intro pins s σ H x y v u Q I r1 r2 z;rcases z with z|z
 ·exact h pins s σ H x y v u Q I r1 r2 z
 ·exact h' pins s σ H x y v u Q I r1 r2 z
def ub:D->D->R D
 | .int i,.int j=>.ok (.int (i+j))
 | .str x,.str y=>if x.length+y.length<=sizeLine then .ok (.str (x++y)) else .bad
 | _,_=>.bad
def Wo:wH ub:=fun x y n h=>by
 unfold ub at h;split at h
 ·cases h
 ·split at h<;>cases h
 ·cases h
def Zt:PIp X .Add (fun x y H Q=>ipI (fun i j=>i+j) x y H Q\/∃i j,x=.str i/\y=.str j/\i.length+j.length<=sizeLine/\Q (.str (i++j)) H):=PIp.or z4n fun pins s σ H x y v u Q I r1 r2 z=>WS pins s σ H x y v u Q I r1 r2 z
def XD {K:jJa}:OpB K (fun x y H Q=>ipI (fun i j=>i+j) x y H Q\/∃i j,x=.str i/\y=.str j/\i.length+j.length<=sizeLine/\Q (.str (i++j)) H) ub:=by
 rintro H x y dx dy Lx Ly Q rx ry ⟨d,hg,q⟩;unfold ub at hg;split at hg
 ·cases hg;exact .inl ⟨_,_,rx.1,ry.1,q _ H [] (Same.refl H) ⟨rfl,rfl⟩ (by simp) (fun a ha=>nomatch ha)⟩
 ·split at hg
  ·rename_i hz;cases hg;exact .inr ⟨_,_,rx.1,ry.1,hz,q _ H [] (Same.refl H) ⟨rfl,rfl⟩ (by simp) (fun a ha=>nomatch ha)⟩
  ·cases hg
 ·cases hg
structure Bl (mg:Str->Option Value):Prop where
 isinstance:mg "isinstance"=none
 int:mg "int"=none
 bool:mg "bool"=none
 str:mg "str"=none
 dict:mg "dict"=none
 list:mg "list"=none
 tuple:mg "tuple"=none
 len:mg "len"=none
 sum:mg "sum"=none
 max:mg "max"=none
 min:mg "min"=none
 all:mg "all"=none
 range:mg "range"=none
 enumerate:mg "enumerate"=none
 zip:mg "zip"=none
end
section
def mn (i:Nat)(k:Cl){x:Str}(hN:autoParam (X.N[i]?=some x) au3._auto_1)(hk:autoParam (Γ[i]?=some k) au3._auto_1)(hd:autoParam (k≠.dead) au1._auto_1)(hv:autoParam (Vis X.env.scope x) au5._auto_1)(hb:autoParam ((x==("__debug__":Str))=false) au1._auto_1)(hcd:autoParam ((x==("__classdict__":Str))=false) au1._auto_1):
  ME X E Γ (.Name x pos) (za i) (Rc.of k):=z1G hN hk hd hv hb hcd
def mvn (i:Nat){x:Str}(hN:autoParam (X.N[i]?=some x) au3._auto_1)(hk:autoParam (Γ[i]?=some .own) au3._auto_1)(hv:autoParam (Vis X.env.scope x) au5._auto_1)(hb:autoParam ((x==("__debug__":Str))=false) au1._auto_1)(hcd:autoParam ((x==("__classdict__":Str))=false) au1._auto_1):
  MV X E Γ (.Name x pos) (za i) (Γ.set i .dead):=z1L hN hk hv hb hcd
def st (i:Nat){x:Str}(nd:X.N.Nodup)(h:MV X E Γ e t Γ1)(hi:autoParam (X.N[i]?=some x) au3._auto_1)(hl:autoParam (i<Γ1.length) au1._auto_1)(hx:autoParam (Loc X.env.scope x) au7._auto_1)(hs:autoParam (swapsWith e (some (.Name x pos')) pos.line X.env=pure false) au3._auto_1)(hf:autoParam (X.fn x=true\/X.env.scope.names.lookup x=some .local) au0._auto_1):
  MS X E Γl Γ (.Assign [.Name x pos'] e pos) (zq i t) (Γ1.set i .own):=z4r nd hi hl h hx hs hf
def stS (i:Nat){x:Str}(nd:X.N.Nodup)(h:ME X E Γ e t c)(hc:autoParam (c≠.bor) au1._auto_1)(hi:autoParam (X.N[i]?=some x) au3._auto_1)(hl:autoParam (i<Γ.length) au1._auto_1)(hx:autoParam (Loc X.env.scope x) au7._auto_1)(hs:autoParam (swapsWith e (some (.Name x pos')) pos.line X.env=pure false) au3._auto_1)(hf:autoParam (X.fn x=true\/X.env.scope.names.lookup x=some .local) au0._auto_1):
  MS X E Γl Γ (.Assign [.Name x pos'] e pos) (zq i t) (Γ.set i .shr):=z1n nd hi hl h hc hx hs hf
def pgn (i:Nat){x:Str}(nd:X.N.Nodup)(hi:autoParam (X.N[i]?=some x) au3._auto_1)(hx:autoParam (Loc X.env.scope x) au7._auto_1)(hf:autoParam (X.fn x=true\/X.env.scope.names.lookup x=some .local) au0._auto_1):PG X (.Name x pos) (YW i):=z0Y nd hi hx hf
def app (i:Nat){x:Str}{p0 p1 p2:Pos}(h:MV X E Γ e t Γ1)(hN:autoParam (X.N[i]?=some x) au3._auto_1)(h0:autoParam (Γ[i]?=some .own) au3._auto_1)(hk:autoParam (Γ1[i]?=some .own) au3._auto_1)(hv:autoParam (Vis X.env.scope x) au5._auto_1)(hb:autoParam ((x==("__debug__":Str))=false) au1._auto_1)(hcd:autoParam ((x==("__classdict__":Str))=false) au1._auto_1)
  (hbase:autoParam (attributeBase (.Name x p0) "append" X.env (eval (.Name x p0) X.env)=eval (.Name x p0) X.env) au3._auto_1)
  (hfew:autoParam (((backTo p2 (starEach [e] X.env)).all (fun x=>!x.1)&&(backToKw p2 (keywordEach [] X.env)).all (fun x=>x.1.isSome)&&decide ([e].length+([]:List Keyword).length+(if ([]:List Keyword).isEmpty then 0 else 1)<30))=true) au3._auto_1)
  (hline:autoParam ((p1.endLine==p2.line)=true) au3._auto_1) (hs:autoParam (starEach [e] X.env=(false,eval e X.env)::starEach [] X.env) au3._auto_1) (hplain:autoParam ((backTo p2 (starEach [] X.env)).any (·.1)=false) au3._auto_1)
  (hsw:autoParam (swapsWith (.Call (.Attribute (.Name x p0) "append" p1) [e] [] p2) none pos.line X.env=pure false) au3._auto_1):
  MS X E Γl Γ (.Expr (.Call (.Attribute (.Name x p0) "append" p1) [e] [] p2) pos) (uV i t) Γ1:=Jc hN h0 h hk hv hb hcd hbase hfew hline hs hplain hsw
def put (i:Nat){x:Str}{p0 p1:Pos}{ix:Expr}{ti:Tn->R D}(h:MV X E Γ e t Γ1)(hi:ME X E Γ1 ix ti c)(hN:autoParam (X.N[i]?=some x) au3._auto_1)(hk:autoParam (Γ1[i]?=some .own) au3._auto_1)(hv:autoParam (Vis X.env.scope x) au5._auto_1)(hb:autoParam ((x==("__debug__":Str))=false) au1._auto_1)(hcd:autoParam ((x==("__classdict__":Str))=false) au1._auto_1)
  (ha:autoParam (∀v,assign (.Subscript (.Name x p0) ix p1) X.env v=(do
   let ov <-holding [v] (eval (.Name x p0) X.env)
   let iv <-holding [v,ov] (eval ix X.env)
   standAt p1
   holding [v,ov,iv] (setItem ov iv v)
   release [v,ov,iv] [])) au2._auto_1)
  (hs:autoParam (swapsWithSole [.Subscript (.Name x p0) ix p1] e pos.line X.env=pure false) au3._auto_1) (hw:autoParam (swappedStores [.Subscript (.Name x p0) ix p1] e X.env=pure none) au3._auto_1)
  (h1:autoParam ((assignEach [.Subscript (.Name x p0) ix p1] X.env).map (·.2)=[assign (.Subscript (.Name x p0) ix p1) X.env]) au3._auto_1):
  MS X E Γl Γ (.Assign [.Subscript (.Name x p0) ix p1] e pos) (z3B i t ti) Γ1:=z2Y hN h hi hk hv hb hcd ha hs hw h1
def aug (i:Nat)(k:Cl){x:Str}{op:Operator}{r:R2}{g:D->D->R D}(nd:X.N.Nodup)(hB:OpB X.K r g)(hn:wH g)(ho:PIp X op r)(h:ME X E Γ e t c)(hi:autoParam (X.N[i]?=some x) au3._auto_1)(hk:autoParam (Γ[i]?=some k) au3._auto_1)(hkd:autoParam (k≠.dead) au1._auto_1)(hx:autoParam (Loc X.env.scope x) au7._auto_1)
  (hf:autoParam (X.fn x=true\/X.env.scope.names.lookup x=some .local) au0._auto_1):MS X E Γl Γ (.AugAssign (.Name x pos') op e pos) (kq i g t) (Γ.set i .own):=z4A nd hi hk hkd hB hn ho h hx hf
end
section
variable {P:Program}{w:World}{K:jJa}{mg:Str->Option Value}{base:Heap}{x:Str}{st:Stmt}{N ps:List Str}{k:Nat}{t:Tn->R Fl}{Γ':List Cl}
def z3b {f:Addr}{oc:Value}{od an:Option Addr}{osl:Array (Option Value)}{kV doc pm cdv ct:Value}(lk:K.lookup f=some ⟨oc,od,.func (jJe x x (defArgs st) (defBody st) (defScope st) .none kV doc pm an cdv ct),osl⟩)(hcd:jJj K cdv x=true)
  (S:FnScope N ps (defScope st)) (hn:ps.length<=N.length)
  (hbody:∀(f:Addr) (cdv:Value) (A:Around) (outer:List Env) (s:Shared) (H:Hp) (E:XK),Room k (A.deeper (envOfC x (defScope st) s.heap.objs.size f cdv)) ->
   MSs (vp (cxx P w) P w K mg base N x (defScope st) f cdv A outer s H E) E [] (qd N.length ps.length) (defBody st) t Γ'):
  FnOk P w K mg base (cxx P w) (k+1) f (jJe x x (defArgs st) (defBody st) (defScope st) .none kV doc pm an cdv ct) ps (spM K (zr N.length t) ps.length):=by
 refine JJ lk hcd S (fun vs H Q E h=>h.1) fun A outer s H vs Q E hr h=>?_;obtain⟨hl,ds,L,r,h⟩:=h;obtain⟨ts,p,q⟩:=hbody f cdv A outer s H E hr;refine⟨ts,p,q H (start N vs) H _ _ (hl▸SOk.start r (by lia)) ?_⟩;unfold zr at h;cases ht:t (ds.map some++List.replicate (N.length-ds.length) none)with
 | ok f =>
  rw[ht]at h;cases f with
  | nx τ'=>exact fun σ' H' ok'=>h .non H' [] ok'.ext ⟨rfl,rfl⟩ RcOk.nil
  | rt d=>exact fun v H' L s r n1 n2=>h v H' L s r ⟨n1,n2⟩
  | bk τ'=>exact h.elim
  | ct τ'=>exact h.elim
 | err n=>rw[ht]at h;exact fun C H' e s=>h C H' e s
 | bad=>rw[ht]at h;exact h.elim
end
def YK:∀ns:List Int,D.imms (ns.map D.int)=true
 | []=>rfl
 | n::ns=>by rw[tG];show (true&&D.imms (ns.map D.int))=true;rw[YK ns];rfl
def Xf {K:jJa}{H:Hp}:∀ns:List Int,Reps K H (ns.map D.int) (ns.map V.int) []
 | []=>Reps.nil
 | n::ns=>Reps.cons (L1:=[]) ⟨rfl,rfl⟩ (Xf ns)
def z1p {K:jJa}{H:Hp}{a:Addr}{ns:List Int}{F:List D->R D}(hO:z1R H)(hS:SqL K H a (ns.map V.int))(hF:F [.frl (ns.map D.int)]=.ok (.bl true)):spM K F 1 [.ref a] H (fun v _=>v=.bl true) fun _ _ _=>False:=by
 have hs:SqF K H a (ns.map V.int):=by
  rcases hS with (z|z)|z
  ·rcases hO a with w|⟨o,xs,w⟩
   ·rw[w]at z;cases z
   ·rw[w]at z;cases z
  ·exact .inl z
  ·exact .inr z
 refine⟨rfl,[.frl (ns.map D.int)],[],Reps.cons (L1:=[]) ⟨a,ns.map V.int,rfl,hs,rfl,YK ns,Xf ns⟩ Reps.nil,?_⟩;rw[hF];exact fun v H' L s r _=>r.1
def law_walk {Fm:List D->R D}{k:Nat}{x:Str}{l:PySem.W.OpenLaw}{q:Program}{loose:List Str}{XP:(Str->Option Value)->Heap->Prop}{YP:World->Heap->Prop}{d:DefRec}{K:Params->jJa}(hF:∀ns:List Int,ns.length<=63->Fm [.frl (ns.map D.int)]=.ok (.bl true))(hr:Room k callerA)(hn:l.most=some 63)(hdf:d.params.defaults=[])
  (hY:∀(w:World) (h:Heap),YP w h->(K w.params).In h)
  (F:∀(w:World) (mg:Str->Option Value) (fa:Addr) (h:Heap),(K w.params).In h->h.Ns mainGlobals mg->mg d.name=some (.ref fa) ->
   ∃fd:FuncData,(∀(s:Shared) (u:Value),BindsTo s fd ⟨[u],[]⟩ [(x,u)])/\∀base:Heap,(K w.params).In base->base.Ns mainGlobals mg->FnOk l.prog w (K w.params) mg base (cxx l.prog w) k fa fd [x] (spM (K w.params) Fm 1)):
  PySem.W.WalkO q loose XP YP l.row.toRowW d [] (fun f vs=>PySem.call f vs):=
 L2.walk_of (n:=63) (k:=k) (x:=x) (CX:=fun w=>cxx l.prog w) (sp:=fun w=>spM (K w.params) Fm 1) hn (by decide) hdf hr hY F (fun w H a ns hl hO hS=>z1p hO hS (hF ns hl)) fun w H s e s' z=>z3q z
section
variable {i j:Int}{C:Int->Int->Bool}{g:Int->Int->D}
def xN:zL (.int i) (.int j)=.ok (.int (i+j)):=rfl
def Kf:L2.intD C g (.int i) (.int j)=if C i j=true then .ok (g i j) else .bad:=rfl
def z21 (h1:-(2 ^ 64)<j)(h2:j<2 ^ 64):u9 (.int i) (.int j)=.ok (.int (i*j)):=by
 have:((decide (-(2 ^ 64)<i)&&decide (i<2 ^ 64))||(decide (-(2 ^ 64)<j)&&decide (j<2 ^ 64)))=true:=by rw[decide_eq_true h1,decide_eq_true h2];simp
 exact if_pos this
def z23 (h1:-(2 ^ 64)<i)(h2:i<2 ^ 64):u9 (.int i) (.int j)=.ok (.int (i*j)):=by
 have:((decide (-(2 ^ 64)<i)&&decide (i<2 ^ 64))||(decide (-(2 ^ 64)<j)&&decide (j<2 ^ 64)))=true:=by rw[decide_eq_true h1,decide_eq_true h2];simp
 exact if_pos this
def jQ (h1:-18446744073709551616<j)(h2:j<18446744073709551616):u9 (.int i) (.int j)=.ok (.int (i*j)):=z21 (by lia) (by lia)
def Ze (h1:-18446744073709551616<i)(h2:i<18446744073709551616):u9 (.int i) (.int j)=.ok (.int (i*j)):=z23 (by lia) (by lia)
def vK (h1:0<j)(h2:j<1073741824):yf (.int i) (.int j)=.ok (.int (i/j)):=by
 simp[yf,Kf,h1,h2]
def wO (h1:0<j):y0 (.int i) (.int j)=.ok (.int (i%j)):=by
 simp[y0,Kf,h1]
def zZ {neg:Bool}:eqR neg (.int i) (.int j)=.ok (.bl (if neg=true then !(i==j) else i==j)):=by
 cases neg<;>rfl
def vN {neg:Bool}:eqR neg (.str x) (.str y)=.ok (.bl (if neg=true then !(x==y) else x==y)):=by
 cases neg<;>rfl
end
def Ku {i:Int}(h0:0<=i)(h:xs[i.toNat]?=some x):atI xs i=some x:=by
 have hj:i.toNat<xs.length:=(sN.mp h).1;have:=uQ h;rw[pA h0]at this;exact this
def Kw {i:Int}(h:atI ds i=some d):ixD (.lst ds) (.int i)=.ok d:=by show (match atI ds i with|some d=>R.ok d|none=>R.bad)=_;rw[h]
def z4f {i:Int}(h:atI ds i=some d):ixD (.frl ds) (.int i)=.ok d:=by show (match atI ds i with|some d=>R.ok d|none=>R.bad)=_;rw[h]
def KG {i:Int}{c:Nat}(hz:x.length<=sizeLine)(h:atI x.cps.toList i=some c):ixD (.str x) (.int i)=.ok (.str ⟨#[c]⟩):=by show (if x.length<=sizeLine then (match atI x.cps.toList i with|some c=>R.ok (D.str ⟨#[c]⟩)|none=>R.bad) else R.bad)=_;rw[if_pos hz,h]
def yV:ixD (.tup (a::ds)) (.int 0)=.ok a:=by
 have:atI (a::ds) 0=some a:=uQ (j:=0) rfl;show (match atI (a::ds) 0 with|some d=>R.ok d|none=>R.bad)=_;rw[this]
def xp:ixD (.tup (a::b::ds)) (.int 1)=.ok b:=by
 have:atI (a::b::ds) 1=some b:=uQ (j:=1) rfl;show (match atI (a::b::ds) 1 with|some d=>R.ok d|none=>R.bad)=_;rw[this]
def UX:yE [.frl ds]=.ok (.int ds.length):=rfl
def Q4 (h:x.length<=sizeLine):yE [.str x]=.ok (.int x.length):=if_pos h
def Y9:∀ns:List Int,j4 (ns.map D.int)=some ns
 | []=>rfl
 | n::ns=>by rw[tG];show (j4 (ns.map D.int)).map (n::·)=_;rw[Y9 ns];rfl
def Uc {ns:List Int}:kY [.lst (ns.map D.int)]=.ok (.int ns.sum):=by
 simp only[kY,Y9]
def vS {α:Type}{f:α->D}(h:∀a,(f a).imm=true):∀xs:List α,D.imms (xs.map f)=true
 | []=>rfl
 | x::xs=>by rw[tG];show ((f x).imm&&D.imms (xs.map f))=true;rw[h,vS h xs];rfl
def wV (Iv:Nat->Tn->Prop):∀(ds:List D) (k:Nat) (τ:Tn),Iv k τ ->
  (∀i d τ,ds[i]?=some d->Iv (k+i) τ->∃τ1 τ2,asg d τ=.ok τ1/\(body τ1=.ok (.nx τ2)\/body τ1=.ok (.ct τ2))/\Iv (k+i+1) τ2)->∃τ',xK asg body ds τ=.ok (.nx τ')/\Iv (k+ds.length) τ'
 | [],k,τ,h0,_=>⟨τ,rfl,h0⟩
 | d::ds,k,τ,h0,hs=>by
  obtain⟨τ1,τ2,e1,e2,h2⟩:=hs 0 d τ rfl h0;obtain⟨τ',e3,h3⟩:=wV Iv ds (k+1) τ2 (by simpa using h2) fun i d' τ' hd hi=>by
   obtain⟨τ3,τ4,a,b,c⟩:=hs (i+1) d' τ' (by simpa using hd) (by rw[<-Nat.add_assoc,Nat.add_right_comm];exact hi);have e:k+1+i+1=k+(i+1)+1:=by lia
   exact⟨τ3,τ4,a,b,e▸c⟩
  refine⟨τ',?_,by rw[tF,Nat.add_comm ds.length 1,<-Nat.add_assoc];exact h3⟩;unfold xK;rw[e1,jYa];rcases e2 with e2|e2<;>rw[e2,jYa]<;>exact e3
def ym {α:Type}{enc:α->D}{f:D->R (Option D)}{o:α->Option D}:∀ {xs:List α},(∀x∈xs,f (enc x)=.ok (o x))->yQ f (xs.map enc)=.ok (xs.filterMap o)
 | [],_=>rfl
 | x::xs,h=>by
  rw[tG];unfold yQ;rw[h x tN,jYa,ym fun y hy=>h y (tS _ hy),jYa];cases ho:o x with
  | none=>simp[rH,ho]
  | some d=>simp[rH,ho]
def uK {lo:Int}{n i:Nat}(h:(rng lo n)[i]?=some d):i<n/\d=.int (lo+i):=by
 unfold rng at h;rw[sV]at h
 by_cases hi:i<n
 ·rw[pV hi]at h;exact⟨hi,(jYe h).symm⟩
 ·rw[pC (by simp;lia)]at h;cases h
def uW {lo:Int}{n:Nat}:(rng lo n).length=n:=by simp[rng]
def uI {j:Int}(h1:-(2 ^ 62)<=j)(h2:j<2 ^ 62):wY [.int j]=.ok (rng 0 j.toNat):=if_pos ⟨h1,h2⟩
def yz {α:Type}(a:α):qi (R.ok a)=.ok a:=rfl
def z1Y (h:x.length+y.length<=sizeLine):zL (.str x) (.str y)=.ok (.str (x++y)):=if_pos h
def qz {i j:Int}:QV (.int i) (.int j)=.ok (.int (i-j)):=rfl
def vx {i j:Int}:ltD (.int i) (.int j)=.ok (.bl (decide (i<j))):=rfl
def Yg {i j:Int}:leD (.int i) (.int j)=.ok (.bl (decide (i<=j))):=rfl
def vE {i j:Int}:gtD (.int i) (.int j)=.ok (.bl (decide (j<i))):=rfl
def Ud {i:Int}:KY (.int i)=.ok (.int (-i)):=rfl
def W3 {lo hi:Option Int}(h:D.imms ds=true):slD (.lst ds) lo hi=.ok (.lst (j6 ds lo hi)):=if_pos h
def xv {α β:Type}(f:α->β)(xs:List α):xs.filterMap (fun x=>some (f x))=xs.map f:=by
 induction xs with
 | nil=>rfl
 | cons x xs ih=>simp
def ZZ {f:D->D->Option Bool}:∀ {ds:List D},(∀d∈ds,f d d=some true)->xa f ds ds=some true
 | [],_=>rfl
 | d::ds,h=>by
  unfold xa;rw[h d tN,ZZ fun x hx=>h x (tS _ hx)]
  rfl
def Zi (n:Nat)(i j:Str):eqF n (.str i) (.str j)=some (i==j):=by cases n<;>rfl
def vI (n:Nat){xs:List D}(h:∀d∈xs,eqF n d d=some true):eqF (n+1) (.tup xs) (.tup xs)=some true:=by
 show (xa (eqF n) xs xs).map _=_;rw[ZZ h];simp
def z1v (i:Nat)(τ:Tn)(ds:List D)(d:D):R Fl:=if ds.length<sizeLine then .ok (.nx (τ.set i (some (.lst (ds++[d]))))) else .bad
def z31 (i:Nat)(t:Tn->R D)(τ:Tn):D->R Fl
 | .lst ds=>(t τ).bind fun d=>z1v i τ ds d
 | _=>.bad
def xw {i:Nat}:uV i t τ=(za i τ).bind (z31 i t τ):=by
 unfold uV z31 z1v
 rfl
def xx {i:Nat}:z31 i t τ (.lst ds)=(t τ).bind fun d=>z1v i τ ds d:=rfl
def wc {i:Nat}(h:ds.length<16777216):z1v i τ ds d=.ok (.nx (τ.set i (some (.lst (ds++[d]))))):=if_pos (by rw[sizeLine_eq];exact h)
def uz (ys:List D):R D:=if ys.length<=sizeLine then .ok (.lst ys) else .bad
def xt (h:ys.length<=16777216):uz ys=.ok (.lst ys):=if_pos (by rw[sizeLine_eq];exact h)
def zI {fr:List (Option Nat)}{c:Tn->R Bool}:xl fr it g c e τ=(it τ).bind fun xs=>(yQ (ya g.asg c e (vz fr τ)) xs).bind uz:=rfl
def yt:vz [] τ=[]:=rfl
def yw {fr:List (Option Nat)}:vz (none::fr) τ=none::vz fr τ:=rfl
def ka {i:Nat}{fr:List (Option Nat)}:vz (some i::fr) τ=(τ[i]?).join::vz fr τ:=rfl
def Wh:(some a).join=a:=rfl
def JW (d:D):R D:=if d.imm=true then .ok d else .bad
def wb:qm t τ=(t τ).bind JW:=rfl
def Zd {i:Int}:JW (.int i)=.ok (.int i):=rfl
def goF (asg:D->Tn->R Tn)(body:Tn->R Fl)(ds:List D):Fl->R Fl
 | .nx τ2=>xK asg body ds τ2
 | .ct τ2=>xK asg body ds τ2
 | .bk τ2=>.ok (.nx τ2)
 | .rt r=>.ok (.rt r)
def uT:xK asg body (d::ds) τ=(asg d τ).bind fun τ1=>(body τ1).bind (goF asg body ds):=rfl
def j3:goF asg body ds (.nx τ)=xK asg body ds τ:=rfl
def z0U:ixD (.lst (a::ds)) (.int 0)=.ok a:=Kw (uQ (j:=0) rfl)
def vj (h1:it τ=.ok ds)(h2:xK g.asg B ds τ=f):yY it g B τ=f:=by
 unfold yY;rw[h1];exact h2
def kH:List D->R D
 | [.int i,.int j]=>.ok (.int (if j<i then j else i))
 | _=>.bad
def z3Q:we kH:=fun ds n h=>by unfold kH at h;split at h<;>cases h
def z4t {K:jJa}:ClB K (fun xs H Q=>∃i j,xs=[.int i,.int j]/\Q (.int (if j<i then j else i)) H) kH:=by
 rintro H xs ds L Q r ⟨d,hg,q⟩;unfold kH at hg;split at hg
 ·cases hg;obtain⟨v,v',L1,L2,rfl,_,⟨rfl,_⟩,⟨rfl,_⟩⟩:=z6j r;exact⟨_,_,rfl,q _ H [] (Same.refl H) ⟨rfl,rfl⟩ (by simp) (fun a ha=>nomatch ha)⟩
 ·cases hg
section
variable {X:Cx}{E:XK}{Γ:List Cl}{e:Expr}{t:Tn->R D}{c:Rc}{pos p2:Pos}
end
section
variable {X:Cx}
end
section
variable {X:Cx}{tg:Expr}
end
section
variable {X:Cx}{E:XK}{Γ:List Cl}{tg:Expr}{u:Tn->R (List D)}{c:Rc}{p pos:Pos}
end
def vOf:D->V
 | .non=>.non
 | .bl b=>.bl b
 | .int i=>.int i
 | .str s=>.str s
 | _=>.non
def Y0 {K:jJa}{H:Hp}{d:D}{v:V}{L:List Addr}(r:Rep K H d v L)(h:d.isS=true):v=vOf d/\qW v=true:=by
 cases d with
 | non=>exact⟨r.1,by rw[r.1];rfl⟩
 | bl b=>exact⟨r.1,by rw[r.1];rfl⟩
 | int i=>exact⟨r.1,by rw[r.1];rfl⟩
 | str s=>exact⟨r.1,by rw[r.1];rfl⟩
 | _=>exact absurd h (by simp[D.isS])
def z1b (ha:a.isS=true)(hb:b.isS=true):eqV (vOf a) (vOf b)=eqS a b:=by
 cases a<;>cases b<;>first|rfl|(simp[D.isS]at ha;done)|(simp[D.isS]at hb;done)
def jW {K:jJa}{H:Hp}:∀ {ds:List D} {vs:List V} {L:List Addr},Reps K H ds vs L->ds.all D.isS=true->vs=ds.map vOf/\vs.all qW=true
 | [],_,_,hq3,_=>by
  obtain⟨e,_⟩:=hq3;subst e;exact⟨rfl,rfl⟩
 | d::ds,_,_,hq3,h=>by
  obtain⟨v,vs',L1,L2,e1,e2,r1,r2⟩:=hq3;subst e1;rw[pO,sY]at h;obtain⟨a,b⟩:=Y0 r1 h.1;obtain⟨c,d⟩:=jW r2 h.2;refine⟨by rw[tG,<-a,<-c],by rw[pO,b,d];rfl⟩
def Wn (hx:x.isS=true):∀ {ds:List D},ds.all D.isS=true->inV (vOf x) (ds.map vOf)=ds.any fun d=>eqS d x
 | [],_=>rfl
 | d::ds,h=>by
  rw[pO,sY]at h;have ih:=Wn hx (ds:=ds) h.2;unfold inV at *;rw[tG,pP,pP,ih,z1b h.1 hx]
def inD (neg:Bool)(x y:D):R D:=match y with
 | .lst ds=>if (x.isS&&ds.all D.isS)=true then .ok (.bl (if neg=true then !(ds.any fun d=>eqS d x) else ds.any fun d=>eqS d x)) else .bad
 | .tup ds=>if (x.isS&&ds.all D.isS)=true then .ok (.bl (if neg=true then !(ds.any fun d=>eqS d x) else ds.any fun d=>eqS d x)) else .bad
 | _=>.bad
def z6I {neg:Bool}:wH (inD neg):=fun x y n h=>by
 unfold inD at h;split at h
 ·split at h<;>cases h
 ·split at h<;>cases h
 ·cases h
def z6T {K:jJa}{neg:Bool}:OpB K (rIn K neg) (inD neg):=by
 rintro H x y dx dy Lx Ly Q rx ry ⟨d,hg,q⟩;unfold inD at hg;split at hg
 ·rename_i ds;split at hg
  ·rename_i hz;cases hg;rw[sY]at hz;obtain⟨a,vs,L',rfl,ha,_,rs⟩:=ry;obtain⟨e1,f1⟩:=Y0 rx hz.1;obtain⟨e2,f2⟩:=jW rs hz.2;refine⟨a,vs,rfl,.inl (SqL.of ha),f1,f2,?_⟩;rw[e1,e2,Wn hz.1 hz.2];exact q _ H [] (Same.refl H) ⟨rfl,rfl⟩ (by simp) (fun a ha=>nomatch ha)
  ·cases hg
 ·rename_i ds;split at hg
  ·rename_i hz;cases hg;rw[sY]at hz;obtain⟨a,vs,rfl,ha,rs⟩:=ry;obtain⟨e1,f1⟩:=Y0 rx hz.1;obtain⟨e2,f2⟩:=jW rs hz.2;refine⟨a,vs,rfl,.inr ha,f1,f2,?_⟩;rw[e1,e2,Wn hz.1 hz.2];exact q _ H [] (Same.refl H) ⟨rfl,rfl⟩ (by simp) (fun a ha=>nomatch ha)
  ·cases hg
 ·cases hg
def yc:List D->R D
 | [.lst ds]=>if D.imms ds=true then .ok (.tup ds) else .bad
 | [.tup ds]=>if D.imms ds=true then .ok (.tup ds) else .bad
 | _=>.bad
def wd:we yc:=fun ds n h=>by
 unfold yc at h;split at h
 ·split at h<;>cases h
 ·split at h<;>cases h
 ·cases h
def wt {K:jJa}:ClB K (fun xs H Q=>∃p ys,xs=[.ref p]/\((SqL K H p ys/\∀l,H l=none->Q (.ref l) (upd H l (.tup ys)))\/(SqT K H p ys/\Q (.ref p) H))) yc:=by
 rintro H xs ds L Q r ⟨d,hg,q⟩;unfold yc at hg;split at hg
 ·split at hg
  ·rename_i ds hz;cases hg;obtain⟨v,rfl,a,vs,L',rfl,ha,_,rs⟩:=ua r;have rs0:=yT rs hz;refine⟨a,vs,rfl,.inl ⟨SqL.of ha,fun l hl=>q _ _ [] (Same.new hl) ⟨l,vs,rfl,SqT.of zT,rs0.same (Same.new hl)⟩ (by simp) (fun a ha=>nomatch ha)⟩⟩
  ·cases hg
 ·split at hg
  ·rename_i ds hz;cases hg;obtain⟨v,rfl,a,vs,rfl,ha,rs⟩:=ua r;have rs0:=yT rs hz;exact⟨a,vs,rfl,.inr ⟨ha,q _ H [] (Same.refl H) ⟨a,vs,rfl,ha,rs0⟩ (by simp) (fun a ha=>nomatch ha)⟩⟩
  ·cases hg
 ·cases hg
def ZN:∀ {bs:List Bool} {us:List Value},Vals (bs.map V.bl) us->us=bs.map Value.bool
 | [],us,r=>by cases r;rfl
 | b::bs,_,r=>by
  rw[tG]at r;cases r with
  | cons r1 r2 =>
   obtain rfl:_=Value.bool b:=r1;rw[tG,ZN r2]
def Kr (bs:List Bool):((List.range bs.length).all fun i=>(bs[i]?).getD true)=bs.all id:=by
 rw[Bool.eq_iff_iff,rX,rX];constructor
 ·intro h b hb;obtain⟨i,hi,e⟩:=List.getElem_of_mem hb;have:=h i (hX.mpr hi);rw[rG hi,e]at this;exact this
 ·intro h i hi;have hi:=hX.mp hi;rw[rG hi];exact h _ (rF hi)
def z2l (K:jJa):List V->Hp->VK->Prop:=fun xs H Q=>∃(p:Addr) (bs:List Bool),xs=[.ref p]/\SqL K H p (bs.map V.bl)/\Q (.bl (bs.all id)) H
section
def wD (hc:X.calm=true):CallR X (.builtin "all") (z2l X.K):=by
 intro pins s σ H xs us Q I r h;obtain⟨p,bs,rfl,hs,q⟩:=h;obtain⟨u,rfl,ru⟩:=uF r;obtain rfl:u=Value.ref p:=ru;obtain⟨its,rv,pl,hz⟩:=I.list hs;have e:=ZN rv;subst e;have hl:s.heap.IsList p (bs.map Value.bool).toArray:=pl.isList;have hlt:p<s.heap.objs.size:=by obtain⟨_,e,_⟩:=hl;exact jYc e
 refine call_all_walk (wpAny_pyIter_list hl ?_);refine⟨_,_,_,_,_,_,fun i=>(bs[i]?).getD true,rfl,Walks.list (A:=X.A.in1) (I.ok.hd hc) _ p (rB hlt) (bs.map Value.bool).toArray,⟨⟨_,jYd _ rfl,rfl,rfl⟩,hl.push _⟩,fun i v s' Q' E' hP hQ=>?_,fun h' tk hk=>?_⟩
 ·have hP:(bs.map Value.bool)[i]?=some v:=by simpa using hP
  rw[sV]at hP;cases hb:bs[i]? with
  | none=>rw[hb]at hP;cases hP
  | some b =>
   rw[hb]at hP;cases hP;simp only[hb,Option.getD_some]at hQ;exact wpAny_truthy_bool hQ
 ·have e:((List.range (bs.map Value.bool).toArray.size).all fun i=>(bs[i]?).getD true)=bs.all id:=by
   rw[sM,tU];exact Kr bs
  rw[e];refine⟨.bl (bs.all id),H,I.kept fun b o eb=>hk b o (fun hm=>?_) (jYb _ eb),rfl,q⟩;rw[sG.mp hm]at eb;exact pN _ (jYc eb)
end
def vv:List D->Option (List Bool)
 | []=>some []
 | .bl b::ds=>(vv ds).map (b::·)
 | _=>none
def jt {K:jJa}{H:Hp}:∀ {ds:List D} {bs:List Bool} {vs:List V} {L:List Addr},Reps K H ds vs L->vv ds=some bs->vs=bs.map V.bl
 | [],bs,_,_,hq4,h=>by
  obtain⟨e,_⟩:=hq4;cases h;exact e
 | .bl b::ds,bs,_,_,hq4,h=>by
  obtain⟨v,vs',L1,L2,e1,e2,r1,r2⟩:=hq4;unfold vv at h;cases hb:vv ds with
  | none=>rw[hb]at h;cases h
  | some cs =>
   rw[hb]at h;cases h;rw[e1,r1.1,jt r2 hb]
   rfl
 | .non::_,_,_,_,_,h=>by cases h
 | .int _::_,_,_,_,_,h=>by cases h
 | .str _::_,_,_,_,_,h=>by cases h
 | .tup _::_,_,_,_,_,h=>by cases h
 | .lst _::_,_,_,_,_,h=>by cases h
 | .dic _ _::_,_,_,_,_,h=>by cases h
 | .frl _::_,_,_,_,_,h=>by cases h
def vP:List D->R D
 | [.lst ds]=>match vv ds with
  | some bs=>.ok (.bl (bs.all id))
  | none=>.bad
 | _=>.bad
def jU:we vP:=fun ds n h=>by
 unfold vP at h;split at h
 ·split at h<;>cases h
 ·cases h
def jG {K:jJa}:ClB K (z2l K) vP:=by
 rintro H xs ds L Q r ⟨d,hg,q⟩;unfold vP at hg;split at hg
 ·split at hg
  ·rename_i ds bs hn;cases hg;obtain⟨v,rfl,a,vs,L',rfl,ha,_,rs⟩:=ua r;exact⟨a,bs,rfl,by rw[<-jt rs hn];exact SqL.of ha,q _ H [] (Same.refl H) ⟨rfl,rfl⟩ (by simp) (fun a ha=>nomatch ha)⟩
  ·cases hg
 ·cases hg
def eSm (g:Str->List D->R D)(t:Tn->R D)(u:Tn->R (List D)):Tn->R D:=fun τ=>(t τ).bind fun d=>match d with
 | .str z=>(u τ).bind fun ds=>g z ds
 | _=>.bad
def SmB (K:jJa)(r:V->List V->Hp->VK->Prop)(g:Str->List D->R D):Prop:=
 ∀H z xs ds L (Q:VK),Reps K H ds xs L->(∃d,g z ds=.ok d/\∀v H' L',Same H H'->Rep K H' d v L'->L'.Nodup->(∀a∈L',H a=none)->Q v H')->r (.str z) xs H Q
section
variable {X:Cx}{E:XK}{Γ:List Cl}{o e:Expr}{es:List Expr}{t:Tn->R D}{u:Tn->R (List D)}{c ca:Rc}{name:Str}{apos cpos:Pos}{id:String}
def xy {r:V->List V->Hp->VK->Prop}{g:Str->List D->R D}(pa:PlainAttrs "str")(slot:Slot "str" name id)(hty:typeOf (.builtin id)=pure (.type "method_descriptor"))(hm:MtR X id r)(hB:SmB X.K r g)(hn:∀z,we (g z))(ho:ME X E Γ o t c)(ha:MA X E Γ (e::es) u ca)
  (hbase:autoParam (attributeBase o name X.env (eval o X.env)=eval o X.env) au3._auto_1)
  (hfew:autoParam (((backTo cpos (starEach (e::es) X.env)).all (fun x=>!x.1)&&(backToKw cpos (keywordEach [] X.env)).all (fun x=>x.1.isSome)
   && decide ((e::es).length+([]:List Keyword).length+(if ([]:List Keyword).isEmpty then 0 else 1)<30))=true) au3._auto_1)
  (hline:autoParam ((apos.endLine==cpos.line)=true) au3._auto_1) (hs:autoParam (starEach (e::es) X.env=(false,eval e X.env)::starEach es X.env) au3._auto_1) (hplain:autoParam ((backTo cpos (starEach es X.env)).any (·.1)=false) au3._auto_1):
  ME X E Γ (.Call (.Attribute o name apos) (e::es) [] cpos) (eSm g t u) .fresh:=by
 obtain⟨te,p,q⟩:=ho;obtain⟨_,ta',p',q'⟩:=ha;refine⟨_,z0V pa slot hty hm p p' hbase hfew hline hs hplain,fun O σ H τ Q ok h=>?_⟩;unfold eSm at h;refine q O σ H τ _ ok (post.bind h fun d hd h x H1 L1 s1 r1 _=>?_);cases d with
 | str z =>
  obtain⟨rfl,_⟩:=r1;refine⟨rfl,q' O σ H1 τ _ (ok.same s1) ?_⟩;dsimp only at h;cases hu:u τ with
  | ok ds =>
   rw[hu,jYa]at h;refine fun vs H2 L s2 r2 _=>?_;cases hg:g z ds with
   | ok d =>
    rw[hg]at h;exact hB H2 z vs ds L Q r2 ⟨d,hg,fun v H' L s r n1 n2=>h v H' L ((s1.trans s2).trans s) r ⟨n1,fun a ha=>(s1.trans s2).non (n2 a ha)⟩⟩
   | err n=>exact absurd hg (hn _ _ _)
   | bad=>rw[hg]at h;exact h.elim
  | err n=>rw[hu]at h;exact fun C H' e s'=>h C H' e (s1.trans s')
  | bad=>rw[hu]at h;exact h
 | _=>exact h.elim
end
def qw:List D->Option (List Str)
 | []=>some []
 | .str b::ds=>(qw ds).map (b::·)
 | _=>none
def qD {K:jJa}{H:Hp}:∀ {ds:List D} {bs:List Str} {vs:List V} {L:List Addr},Reps K H ds vs L->qw ds=some bs->vs=bs.map V.str
 | [],bs,_,_,hq4,h=>by
  obtain⟨e,_⟩:=hq4;cases h;exact e
 | .str b::ds,bs,_,_,hq4,h=>by
  obtain⟨v,vs',L1,L2,e1,e2,r1,r2⟩:=hq4;unfold qw at h;cases hb:qw ds with
  | none=>rw[hb]at h;cases h
  | some cs =>
   rw[hb]at h;cases h;rw[e1,r1.1,qD r2 hb]
   rfl
 | .non::_,_,_,_,_,h=>by cases h
 | .int _::_,_,_,_,_,h=>by cases h
 | .bl _::_,_,_,_,_,h=>by cases h
 | .tup _::_,_,_,_,_,h=>by cases h
 | .lst _::_,_,_,_,_,h=>by cases h
 | .dic _ _::_,_,_,_,_,h=>by cases h
 | .frl _::_,_,_,_,_,h=>by cases h
def kj:∀ {ys:List Str} {us:List Value},Vals (ys.map V.str) us->StrsAre us ys
 | [],us,r=>by cases r;exact .nil
 | y::ys,_,r=>by
  rw[tG]at r;cases r with
  | cons r1 r2 =>
   obtain⟨t,rfl⟩:=r1;exact .cons y t (kj r2)
def z2G (K:jJa):V->List V->Hp->VK->Prop:=fun x xs H Q=>∃z p ys,x=.str z/\xs=[.ref p]/\(SqL K H p (ys.map V.str)\/SqT K H p (ys.map V.str))/\(ys.map (·.length)).sum+ys.length*z.length<=16777216/\Q (.str (Txt.join z ys)) H
def yM:MtR X "str.join" (z2G X.K):=by
 intro pins s σ H x xs v us Q I rx rs h;obtain⟨z,p,ys,rfl,rfl,hq,hz,q⟩:=h;obtain⟨t,rfl⟩:=rx;obtain⟨u,rfl,ru⟩:=uF rs;obtain rfl:u=Value.ref p:=ru;rcases hq with hq|hq
 ·obtain⟨its,r,pl,_⟩:=I.list hq;exact join_list pl.isList (by simpa using kj r) hz fun t' k=>⟨.str (Txt.join z ys),H,I.tok _,⟨t',rfl⟩,q⟩
 ·obtain⟨its,r,pl,_⟩:=I.tuple hq;exact join_tuple pl (by simpa using kj r) hz fun t' k=>⟨.str (Txt.join z ys),H,I.tok _,⟨t',rfl⟩,q⟩
def y9 (z:Str):List D->R D
 | [.lst ds]=>match qw ds with
  | some ys=>if (ys.map (·.length)).sum+ys.length*z.length<=16777216 then .ok (.str (Txt.join z ys)) else .bad
  | none=>.bad
 | [.tup ds]=>match qw ds with
  | some ys=>if (ys.map (·.length)).sum+ys.length*z.length<=16777216 then .ok (.str (Txt.join z ys)) else .bad
  | none=>.bad
 | _=>.bad
def xT (z:Str):we (y9 z):=fun ds n h=>by
 unfold y9 at h;split at h
 ·split at h
  ·split at h<;>cases h
  ·cases h
 ·split at h
  ·split at h<;>cases h
  ·cases h
 ·cases h
def xR {K:jJa}:SmB K (z2G K) y9:=by
 rintro H z xs ds L Q r ⟨d,hg,q⟩;unfold y9 at hg;split at hg
 ·split at hg
  ·rename_i ds ys hn;split at hg
   ·rename_i hz;cases hg;obtain⟨v,rfl,a,vs,L',rfl,ha,_,rs⟩:=ua r;exact⟨z,a,ys,rfl,rfl,.inl (by rw[<-qD rs hn];exact SqL.of ha),hz,q _ H [] (Same.refl H) ⟨rfl,rfl⟩ (by simp) (fun a ha=>nomatch ha)⟩
   ·cases hg
  ·cases hg
 ·split at hg
  ·rename_i ds ys hn;split at hg
   ·rename_i hz;cases hg;obtain⟨v,rfl,a,vs,rfl,ha,rs⟩:=ua r;exact⟨z,a,ys,rfl,rfl,.inr (by rw[<-qD rs hn];exact ha),hz,q _ H [] (Same.refl H) ⟨rfl,rfl⟩ (by simp) (fun a ha=>nomatch ha)⟩
   ·cases hg
  ·cases hg
 ·cases hg
def TupN.push {h:Heap}{a:Addr}{items:Array Value}(x:TupN h a items)(o:Obj):TupN (h.push o) a items:=let ⟨o',ho,r⟩:=x;⟨o',jYb o ho,r⟩
def TupN.at {h h':Heap}{a:Addr}{items:Array Value}(x:TupN h a items)(k:∀b o,h.get? b=some o->h'.get? b=some o):TupN h' a items:=let ⟨o',ho,r⟩:=x;⟨o',k _ _ ho,r⟩
def PairsAt (P:Program)(w:World)(h:Heap):List Value->List (Key×Value)->Prop:=Paired fun (v:Value) (p:Key×Value)=>∃b key,v=.ref b/\h.IsTuple b #[key,p.2]/\(wF P w).is p.1 key=true
def PairsAt.get {P:Program}{w:World}{h:Heap}:∀ {its:List Value} {ps:List (Key×Value)} {i:Nat},PairsAt P w h its ps->i<its.length->∃b key p,its[i]?=some (.ref b)/\ps[i]?=some p/\h.IsTuple b #[key,p.2]/\(wF P w).is p.1 key=true
 | _,_,i,.nil,hi=>by simp at hi
 | _,_,0,.cons (a:=v) (b:=p) r t,_=>by
  obtain⟨b,key,e,x,y⟩:=r;exact⟨b,key,p,by rw[e];rfl,rfl,x,y⟩
 | _,_,i+1,.cons r t,hi=>by
  obtain⟨b,key,p,e,e2,x,y⟩:=PairsAt.get (i:=i) t (by simpa using hi);exact⟨b,key,p,by simpa using e,by simpa using e2,x,y⟩
section
variable {prog:Program}{w:World}{A:Around}{R:Result->Shared->Prop}
end
section
variable {prog:Program}{w:World}{A:Around}{E:Value->Shared->Prop}{s:Shared}
end
def Zr {β:Type}:List Key->List β->Key->β->List β
 | k'::ks,x::xs,k,y=>(if k'=k then y else x)::Zr ks xs k y
 | _,_,_,_=>[]
section
variable {K:jJa}{H:Hp}
def Reps.repl {k:Key}{d:D}{v:V}(rd:Rep K H d v []):∀ {ks:List Key} {ds:List D} {vs:List V} {L:List Addr},Reps K H ds vs L->ks.length=ds.length->∃L2,Reps K H (Zr ks ds k d) (Zr ks vs k v) L2/\List.Sublist L2 L
 | [],[],_,_,hq4,_=>by
  obtain⟨e1,e2⟩:=hq4;exact⟨[],by subst e1;exact Reps.nil,pU _⟩
 | [],_::_,_,_,_,h=>by cases h
 | _::_,[],_,_,_,h=>by cases h
 | k'::ks,d'::ds,_,_,hq4,h=>by
  obtain⟨v',vs',L1,L2,e1,e2,h1,h2⟩:=hq4;subst e1 e2;obtain⟨L3,a,b⟩:=Reps.repl (ks:=ks) rd h2 (by simpa using h)
  by_cases e:k'=k
  ·refine⟨[]++L3,?_,?_⟩
   ·show Reps K H ((if k'=k then d else d')::Zr ks ds k d) ((if k'=k then v else v')::Zr ks vs' k v) _;rw[if_pos e,if_pos e];exact Reps.cons rd a
   ·exact b.trans (pD _ _)
  ·refine⟨L1++L3,?_,List.Sublist.append (List.Sublist.refl _) b⟩;show Reps K H ((if k'=k then d else d')::Zr ks ds k d) ((if k'=k then v else v')::Zr ks vs' k v) _;rw[if_neg e,if_neg e];exact Reps.cons h1 a
end
section
variable {X:Cx}{E:XK}{Γ Γ1 Γ' Γl:List Cl}{e a b o f:Expr}{es:List Expr}{t t' u v:Tn->R D}{c ca cb:Rc}{pos:Pos}
end
section
variable {X:Cx}
end
section
variable {X:Cx}{E:XK}{Γ:List Cl}{u:Tn->R (List D)}{c:Rc}{p pos:Pos}
end
def smD (g:Str->List D->R D)(u:Tn->R (List D))(τ:Tn):D->R D
 | .str z=>(u τ).bind fun ds=>g z ds
 | _=>.bad
def yD:eSm g t u τ=(t τ).bind (smD g u τ):=by
 unfold eSm;congr 1
def yC:smD g u τ (.str z)=(u τ).bind fun ds=>g z ds:=rfl
def ZR:∀ys:List Str,qw (ys.map D.str)=some ys
 | []=>rfl
 | y::ys=>by rw[tG];show (qw (ys.map D.str)).map (y::·)=_;rw[ZR ys];rfl
def z0m (h:(ys.map (·.length)).sum+ys.length*z.length<=16777216):y9 z [.lst (ys.map D.str)]=.ok (.str (Str.join z ys)):=by
 have e:Txt.join z ys=Str.join z ys:=eq_of_beq (join_plain_closes z ys);simp only[y9,ZR,if_pos h,e]
def z2b (x y:Str):(x++y).cps.toList=x.cps.toList++y.cps.toList:=by
 show (x.cps++y.cps).toList=_;simp
def KQ:ZE [.lst ds]=.ok (v5 0 ds):=rfl
def J0 (h:D.imms ds=true):yc [.lst ds]=.ok (.tup ds):=if_pos h
def z1F (hd:∀ks xs,d≠.dic ks xs)(h:eqF 12 d d=some true):eqR true d d=.ok (.bl false):=by
 cases d with
 | dic ks xs=>exact absurd rfl (hd ks xs)
 | _=>simp only[eqR,h]<;>rfl
section
variable {prog:Program}{w:World}{A:Around}{R:Result->Shared->Prop}
end
section
variable {prog:Program}{w:World}{A:Around}{E:Value->Shared->Prop}{s:Shared}
end
section
variable {X:Cx}{E:XK}{Γ:List Cl}{e f:Expr}{t u:Tn->R D}{ca cb:Rc}{p pos kp:Pos}{te tf:TE}
end
def kE:∀bs:List Bool,vv (bs.map D.bl)=some bs
 | []=>rfl
 | b::bs=>by rw[tG];show (vv (bs.map D.bl)).map (b::·)=_;rw[kE bs];rfl
def Zh {bs:List Bool}:vP [.lst (bs.map D.bl)]=.ok (.bl (bs.all id)):=by
 simp only[vP,kE]
section
open PySem.SeqAt PySem.MeetsSeq3
open PySem.AutoSeq1 (wpAny_loadPart')
end
section
variable {X:Cx}{E:XK}{Γ Γ1 Γ' Γl:List Cl}{e:Expr}{t:Tn->R D}{pos:Pos}
end
section
open PySem.SeqAt PySem.MeetsSeq3
open PySem.AutoSeq1 (wpAny_loadPart')
end
section
variable {X:Cx}{pins:List (Addr×Obj)}{σ:St}{H:Hp}{s:Shared}
end
structure Src (P:Program)(w:World)(i l:Addr)(xs:Array Value)(st:Nat->Heap->Prop):Prop where
 keep:∀k h h',st k h->(∀b,b=i\/b=l->∀o,h.get? b=some o->h'.get? b=some o)->st k h'
 obj:∀k h,st k h->∃o vs,h.get? i=some o/\o.data=.fields vs
 item:∀(A:Around) (k:Nat) (s:Shared) (Q:Value->Shared->Prop) (E:Value->Shared->Prop) (x:Value),st k s.heap->xs[k]?=some x->(∀h',st (k+1) h'->Heap.SameBut i s.heap h'->Q x { s with heap:=h' })->wpAny (model P w) A (Builtin.SmallTypes.nextOf (.ref i)) Q E s
 stop:∀(A:Around) (k:Nat) (s:Shared) (Q:Value->Shared->Prop) (E:Value->Shared->Prop),A.handled=none->st k s.heap->xs[k]?=none->(∀h' e,Heap.ExtBut i s.heap h'->(∃o,h'.get? e=some o/\o.cls=.type "StopIteration")->E (.ref e) { s with heap:=h' })->wpAny (model P w) A (Builtin.SmallTypes.nextOf (.ref i)) Q E s
section
variable {prog:Program}{w:World}{A:Around}{E:Value->Shared->Prop}{s:Shared}
end
section
variable {prog:Program}{w:World}{A:Around}{E:Value->Shared->Prop}{s:Shared}
variable {z TI TO i1 i2 l1 l2:Addr}{k:Nat}{xs ys:Array Value}{st1 st2:Nat->Heap->Prop}{a b:Value}
structure ZSt (z TI TO i1 i2:Addr)(st1 st2:Nat->Heap->Prop)(f0:Value)(k1 k2:Nat)(h:Heap):Prop where
 z:IsZip h z TI TO f0
 ti:IsPair h TI (.ref i1) (.ref i2)
 to':∃a b,IsPair h TO a b
 s1:st1 k1 h
 s2:st2 k2 h
def ZSt.keep {f0:Value}{k1 k2:Nat}{h h':Heap}(D:ZipApart z TI TO i1 i2 l1 l2)(S1:Src prog w i1 l1 xs st1)(S2:Src prog w i2 l2 ys st2)(S:ZSt z TI TO i1 i2 st1 st2 f0 k1 k2 h)(e:∀c o,h.get? c=some o->h'.get? c=some o):ZSt z TI TO i1 i2 st1 st2 f0 k1 k2 h' :=
 ⟨e _ _ S.z,e _ _ S.ti,let ⟨a,b,q⟩:=S.to';⟨a,b,e _ _ q⟩,S1.keep _ _ _ S.s1 fun c _ o=>e c o,S2.keep _ _ _ S.s2 fun c _ o=>e c o⟩
end
def IIt:Bool->Heap->Addr->Addr->Nat->Prop
 | true,h,i,l,k=>h.IsTupleIter i l k
 | false,h,i,l,k=>h.IsListIter i l k
def ISq:Bool->Heap->Addr->Array Value->Prop
 | true,h,l,xs=>h.IsTuple l xs
 | false,h,l,xs=>h.IsList l xs
def IIt.at {t:Bool}{k:Nat}(x:IIt t h i l k)(e:∀o,h.get? i=some o->h'.get? i=some o):IIt t h' i l k:=by
 cases t
 ·exact Heap.IsListIter.at (h:=h) x e
 ·exact Heap.IsTupleIter.at (h:=h) x e
def IIt.obj {t:Bool}{k:Nat}(x:IIt t h i l k):∃o vs,h.get? i=some o/\o.data=.fields vs:=by
 cases t
 ·obtain⟨o,a,_,b⟩:=(show h.IsListIter i l k from x);exact⟨o,_,a,b⟩
 ·obtain⟨o,a,_,b⟩:=(show h.IsTupleIter i l k from x);exact⟨o,_,a,b⟩
def Sq (t:Bool)(K:jJa)(H:Hp)(a:Addr)(xs:List V):Prop:=if t=true then SqT K H a xs else SqL K H a xs
section
def Inv.sq {t:Bool}(I:Inv X pins σ H s)(h:Sq t X.K H a xs):∃its:List Value,Vals xs its/\ISq t s.heap a its.toArray/\xs.length<=sizeLine:=by
 cases t
 ·obtain⟨its,r,p,z⟩:=I.list (show SqL X.K H a xs from h);exact⟨its,r,p.isList,z⟩
 ·obtain⟨its,r,p,z⟩:=I.tuple (show SqT X.K H a xs from h);exact⟨its,r,p,z⟩
end
def Itz (K:jJa)(t1 t2:Bool)(a b:Addr):It:=
 ⟨fun i H=>∃xs ys x y,Sq t1 K H a xs/\Sq t2 K H b ys/\xs[i]?=some x/\ys[i]?=some y,
   fun i H v H'=>∃p x y,H p=none/\v=.ref p/\H'=upd H p (.tup [x,y])/\∀xs ys,Sq t1 K H a xs->Sq t2 K H b ys->xs[i]?=some x/\ys[i]?=some y,
   fun i H=>∃xs ys,Sq t1 K H a xs/\Sq t2 K H b ys/\(xs.length<=i\/ys.length<=i)⟩
section
end
section
end
def Vq (ds es:List D):List D:=(ds.zip es).map fun p=>.tup [p.1,p.2]
def Jw {i:Nat}(h:(Vq ds es)[i]?=some d):∃x y,ds[i]?=some x/\es[i]?=some y/\d=.tup [x,y]:=by
 unfold Vq at h;rw[sV]at h;cases hz:(ds.zip es)[i]? with
 | none=>rw[hz]at h;cases h
 | some p =>
  rw[hz]at h;obtain⟨h1,h2⟩:=List.getElem?_zip_eq_some.mp hz;exact⟨p.1,p.2,h1,h2,(jYe h).symm⟩
def J3 (ds es:List D):(Vq ds es).length=min ds.length es.length:=by unfold Vq;rw[tU,List.length_zip]
def ItOk.zip {K:jJa}{H:Hp}{t:Bool}{a b:Addr}{vs ws:List V}{ds es:List D}{L1 L1' L2 L2':List Addr}(ha:∀H',TF H H'->(∀c∈L1,H' c=H c)->Sq t K H' a vs)(h1:Reps K H ds vs L1')(s1:∀c∈L1',c∈L1)(d1:∀c∈L1,H c≠none)(hb:H b=some (.lst ws))(e2:L2=b::L2')(h2:Reps K H es ws L2'):
  ItOk K (Itz K t false a b) (Vq ds es) (L1++L2) H:=by
 subst e2;refine⟨fun c hc=>?_,fun H' tf kp i=>⟨fun d hd=>?_,fun hl=>?_⟩⟩
 ·rcases sC.mp hc with z|z
  ·exact d1 c z
  ·rcases sI.mp z with z|z
   ·rw[z,hb];simp
   ·exact h2.there z
 ·have ha':=ha H' tf fun c hc=>kp c (sE _ hc);have hb':H' b=some (.lst ws):=(kp b (sD _ tN)).trans hb;obtain⟨x,y,hx,hy,rfl⟩:=Jw hd;obtain⟨v,M1,e1,r1,u1⟩:=h1.get hx;obtain⟨w,M2,e2,r2,u2⟩:=h2.get hy;refine⟨⟨vs,ws,v,w,ha',SqL.of hb',e1,e2⟩,fun z H'' ⟨p,x',y',hp,z1,z2,hq⟩=>?_⟩;subst z1 z2;obtain⟨q1,q2⟩:=hq vs ws ha' (SqL.of hb');rw[e1]at q1;cases q1;rw[e2]at q2;cases q2;have r1':Rep K H' x v M1:=Rep.keep tf x _ M1 r1 fun c hc=>kp c (sE _ (s1 c (u1.subset hc)));have r2':Rep K H' y w M2:=Rep.keep tf y _ M2 r2 fun c hc=>kp c (sD _ (tS _ (u2.subset hc)));refine⟨Same.new hp,M1++(M2++[]),⟨p,_,rfl,SqT.of zT,?_⟩,fun c hc=>?_⟩
  ·exact Reps.cons (r1'.same (Same.new hp)) (Reps.cons (r2'.same (Same.new hp)) Reps.nil)
  ·rw[tZ]at hc;rcases sC.mp hc with z|z
   ·exact sE _ (s1 c (u1.subset z))
   ·exact sD _ (tS _ (u2.subset z))
 ·have ha':=ha H' tf fun c hc=>kp c (sE _ hc);have hb':H' b=some (.lst ws):=(kp b (sD _ tN)).trans hb;rw[J3]at hl;have k1:=h1.length;have k2:=h2.length;refine⟨vs,ws,ha',SqL.of hb',?_⟩
  by_cases hc:vs.length<=i
  ·exact .inl hc
  ·exact .inr (by omega)
section
end
section
variable {prog:Program}{w:World}{A:Around}{E:Value->Shared->Prop}{s:Shared}
def qS {lo hi:Option Int}(ht:IsTup s.heap t items)(hs:s.heap.IsSliceOf sl vl vu .none)(pl:IsPart vl lo)(pu:IsPart vu hi)
  (hw:HT.sIx items.size 0 lo=0/\HT.sIx items.size items.size hi=items.size) (h:Q (.ref t) s):wpAny (model prog w) A (getItem (.ref t) (.ref sl)) Q E s:=by
 obtain⟨os,hos,hcs,hds⟩:=id hs;have hTs:s.TypeIs (.ref sl) "slice":=⟨os,hos,hcs⟩
 unfold getItem
 try with_reducible refine wpAny_holding ?_
 first|refine wpAny_bind (wpAny_pure ?_)|skip
 refine wpAny_bind (wpAny_sequenceKey ht.typeIs (by decide) ?_);refine wpAny_bind (wpAny_callSpecial?_slot (name:=Str.ofString "__getitem__") ht.typeIs PyProof.Rows.slot_tuple_getitem (wpAny_call_entry PyProof.Rows.slot_tuple_getitem ht.typeIs entry_tuple_getitem ?_ (args_tuple_getitem _ _)));show wpAny _ _ (Builtin.Tuple.tupleItemsOf (.ref t) >>= _) _ _ s;refine wpAny_bind (tupleItemsOf_ ht ?_);refine wpAny_bind (wpAny_typeOf hTs ?_);rw[if_pos (by decide)];refine wpAny_bind (HT.sliceApplied_gen hs pl pu ?_);have hyes:(((HT.sIx items.size 0 lo:Nat):Int)==0&&(1:Int)==1&&(HT.sIx items.size items.size hi-HT.sIx items.size 0 lo)==items.size)=true:=by
  rw[hw.1,hw.2];simp
 show wpAny _ _ (if (((HT.sIx items.size 0 lo:Nat):Int)==0&&(1:Int)==1&&(HT.sIx items.size items.size hi-HT.sIx items.size 0 lo)==items.size)=true then _ else _) _ _ s;rw[if_pos hyes];refine wpAny_bind (m:=Builtin.Tuple.tupleIsExact _) ?_;unfold Builtin.Tuple.tupleIsExact;refine wpAny_bind (wpAny_typeOf ht.typeIs (wpAny_pure ?_));rw[if_pos (by decide)];exact wpAny_bind (wpAny_rule (wpAny_pure ⟨_,rfl,wpAny_pure h⟩))
end
def z6w (K:jJa):V->Option Int->Option Int->Hp->VK->Prop:=fun x lo hi H Q=>∃a xs,x=.ref a/\SqT K H a xs/\((HT.sIx xs.length 0 lo=0/\HT.sIx xs.length xs.length hi=xs.length)->Q (.ref a) H) /\
 (¬(HT.sIx xs.length 0 lo=0/\HT.sIx xs.length xs.length hi=xs.length)->∀p,H p=none->Q (.ref p) (upd H p (.tup (XY xs lo hi))))
def z13:SlR X (z6w X.K):=by
 intro pins s σ H x v vl vu lo hi sl Q I rx hs pl pu h;obtain⟨a,xs,rfl,hx,q1,q2⟩:=h
 by_cases hw:HT.sIx xs.length 0 lo=0/\HT.sIx xs.length xs.length hi=xs.length
 ·cases rx;obtain⟨its,r,ht,hz⟩:=I.tuple hx;have hlen:its.toArray.size=xs.length:=by rw[sM];exact r.length.symm
  exact⟨"tuple",_,PyProof.Rows.slot_tuple_getitem.lookup,ht.typeIs,qS ht hs pl pu (by rw[hlen];exact hw) ⟨.ref a,H,I,rfl,q1 hw⟩⟩
 ·exact JL pins s σ H _ v vl vu lo hi sl Q I rx hs pl pu ⟨a,xs,rfl,hx,hw,q2 hw⟩
def U2 {α:Type}(xs:List α){lo hi:Option Int}(h:HT.sIx xs.length 0 lo=0/\HT.sIx xs.length xs.length hi=xs.length):j6 xs lo hi=xs:=by
 unfold j6;rw[h.1,h.2,List.drop_zero,Nat.sub_zero,List.take_length]
def slA (x:D)(lo hi:Option Int):R D:=match x with
 | .lst ds=>if D.imms ds=true then .ok (.lst (j6 ds lo hi)) else .bad
 | .str z=>if z.length<=sizeLine then .ok (.str (Txt.slice z lo hi)) else .bad
 | .tup ds=>if D.imms ds=true then .ok (.tup (j6 ds lo hi)) else .bad
 | _=>.bad
def WN (t:Tn->R D)(tl th:Tn->R (Option Int)):Tn->R D:=fun τ=>(t τ).bind fun x=>(tl τ).bind fun l=>(th τ).bind fun h=>slA x l h
section
variable {X:Cx}{E:XK}{Γ:List Cl}{e:Expr}{t:Tn->R D}{c:Rc}{p2 pos:Pos}
def Yo {lo hi:Option Expr}{tl th:Tn->R (Option Int)}(he:ME X E Γ e t c)(hl:MO X E Γ lo tl)(hh:MO X E Γ hi th):ME X E Γ (.Subscript e (.Slice lo hi none p2) pos) (WN t tl th) .fresh:=by
 obtain⟨te,p,q⟩:=he;obtain⟨tl',pl,ql⟩:=hl;obtain⟨th',ph,qh⟩:=hh;refine⟨_,Vt (SlR.or Qv (SlR.or z0c z13)) p pl ph,fun O σ H τ Q ok h=>?_⟩;unfold WN at h;refine q O σ H τ _ ok (post.bind h fun dx hx h x H1 Lx s1 rx kx=>ql O σ H1 τ _ (ok.same s1) ?_);cases h1:tl τ with
 | err n=>rw[h1]at h;exact fun C H' e s'=>h C H' e (s1.trans s')
 | bad=>rw[h1]at h;exact h
 | ok l =>
  rw[h1,jYa]at h;refine fun H2 s2=>qh O σ H2 τ _ ((ok.same s1).same s2) ?_;cases h2:th τ with
  | err n=>rw[h2]at h;exact fun C H' e s'=>h C H' e ((s1.trans s2).trans s')
  | bad=>rw[h2]at h;exact h
  | ok g =>
   rw[h2,jYa]at h;refine fun H3 s3=>?_;have s03:=(s1.trans s2).trans s3;have rx:=(rx.same s2).same s3;unfold slA at h;cases dx with
   | lst ds =>
    dsimp only at h
    by_cases hz:D.imms ds=true
    ·rw[if_pos hz]at h;obtain⟨a,vs,L',rfl,ha,_,rs⟩:=rx;obtain⟨L2,rc,_⟩:=(yT rs hz).cut l g;have e0:L2=[]:=gA.mp ‹_›;subst e0;refine .inl ⟨a,vs,rfl,SqL.of ha,fun p hp=>qO rc hp fun v H' L s r n1 n2=>h v H' L (s03.trans s) r ⟨n1,fun a ha=>s03.non (n2 a ha)⟩⟩
    ·rw[if_neg hz]at h;exact h.elim
   | str z =>
    dsimp only at h
    by_cases hz:z.length<=sizeLine
    ·rw[if_pos hz]at h;exact .inr (.inl ⟨z,rx.1,hz,h _ H3 [] s03 ⟨rfl,rfl⟩ RcOk.nil⟩)
    ·rw[if_neg hz]at h;exact h.elim
   | tup ds =>
    dsimp only at h
    by_cases hz:D.imms ds=true
    ·rw[if_pos hz]at h;obtain⟨a,vs,rfl,ha,rs⟩:=rx;have rs0:=yT rs hz;obtain⟨L2,rc,_⟩:=rs0.cut l g;have e0:L2=[]:=gA.mp ‹_›;subst e0;refine .inr (.inr ⟨a,vs,rfl,ha,fun hw=>?_,fun hw p hp=>h _ _ [] (s03.trans (Same.new hp)) ⟨p,_,rfl,SqT.of zT,rc.same (Same.new hp)⟩ RcOk.nil⟩);rw[rs.length]at hw;rw[U2 ds hw]at h;exact h _ H3 [] s03 ⟨a,vs,rfl,ha,rs0⟩ RcOk.nil
    ·rw[if_neg hz]at h;exact h.elim
   | _=>exact h.elim
end
section
end
def Ja (x:Str)(u:Tn->R (List D)):Tn->R Fl:=fun τ=>(u τ).bind fun ds=>if ds.length<=sizeLine then .err x else .bad
def z0e {P:Program}{w:World}{K:jJa}{mg:Str->Option Value}{base:Heap}{N:List Str}{qual:Str}{scope:Scope}{f:Addr}{cd:Value}{A:Around}{outer:List Env}{s:Shared}{H:Hp}{E:XK}{Γ Γl Γ':List Cl}
  {x:Str} {C:Addr} {e₀:Expr} {u:Tn->R (List D)} {c:Rc} {np cpos pos:Pos} (hc:ErrC K x C) (hg:Gl (vp (cxx P w) P w K mg base N qual scope f cd A outer s H E) x)
  (ha:MA (vp (cxx P w) P w K mg base N qual scope f cd A outer s H E) E Γ [e₀] u c) (hd:autoParam ((x==("__debug__":Str))=false) au1._auto_1)
  (he:autoParam (starEach [e₀] (envOfC qual scope s.heap.objs.size f cd)=(false,eval e₀ (envOfC qual scope s.heap.objs.size f cd))::starEach [] (envOfC qual scope s.heap.objs.size f cd)) au3._auto_1):
  MS (vp (cxx P w) P w K mg base N qual scope f cd A outer s H E) E Γl Γ (.Raise (some (.Call (.Name x np) [e₀] [] cpos)) none pos) (Ja x u) Γ':=by
 obtain⟨_,ta,pa,q⟩:=ha;refine⟨Ks C E ta,fun pins s1 σ H1 D I h=>KC (A:=A) (show A.handled=none from I.ok.hd rfl) hc hg pa hd he rfl pins s1 σ H1 D I h,fun B σ H1 τ Z ok h=>?_⟩;obtain⟨O,eok,_⟩:=ok.eok;refine q O σ H1 τ _ eok ?_;unfold Ja at h;cases hu:u τ with
 | ok ds =>
  rw[hu,jYa]at h;refine fun vs H' L s r _=>?_
  by_cases hz:ds.length<=sizeLine
  ·rw[if_pos hz]at h;exact⟨by rw[r.length];exact hz,h C H' hc (ok.ext.trans s)⟩
  ·rw[if_neg hz]at h;exact h.elim
 | err n=>rw[hu]at h;exact fun C' H' e s=>h C' H' e (ok.ext.trans s)
 | bad=>rw[hu]at h;exact h.elim
def ZG (F:List D->R D)(u:Tn->R (List D))(g:Str->Option D):Tn->R Fl:=fun τ=>match u τ with
 | .ok ds=>(match F ds with
  | .ok d=>.ok (.nx τ)
  | .err m=>(match g m with | some d=>.ok (.rt d) | none=>.bad)
  | .bad=>.bad)
 | _=>.bad
def Suite (X:Cx)(CS:Addr)(i:Nat)(sts:List Stmt)(g:Str->Option D):Prop:=∀(m:Str) (d:D),g m=some d->∀C,ErrC X.K m C->jJk X.K (.ref C) (.ref CS)=some true /\
 ∃ts:Addr->Obj->TS,(∀e oe,PSs (X.within e oe) sts (ts e oe))/\∀e oe (Z:Ends) (σ:St) (H:Hp),σ.length=X.N.length->oe.cls=.ref C->H e=none->σ[i]?=some (some (.ref e))->(∀v H',Same H H'->Rep X.K H' d v []->Z.rt v H')->ts e oe Z σ H
def Suite.ts {X:Cx}{CS:Addr}{i:Nat}{sts:List Stmt}{g:Str->Option D}(hs:Suite X CS i sts g)(e:Addr)(oe:Obj):TS:=fun Z σ H=>∃(m:Str) (d:L2.D) (hg:g m=some d) (C:Addr) (hC:ErrC X.K m C),Classical.choose (hs m d hg C hC).2 e oe Z σ H
def Suite.pss {i:Nat}(hs:Suite X CS i sts g)(e:Addr)(oe:Obj):PSs (X.within e oe) sts (hs.ts e oe):=by
 intro pins s σ H Z I h;obtain⟨m,d,hg,C,hC,z⟩:=h;exact (Classical.choose_spec (hs m d hg C hC).2).1 e oe pins s σ H Z I z
section
variable {k:Nat}{nA:Nat}{i:Nat}
def z26 (O:Own X.prog X.w X.K X.mg X.base x k ps (spM X.K F nA))(hN:X.N.Nodup)(hr:Room k X.A)(hg:Gl X x)(ha:MA X.nox (fun _ _ _=>False) Γ (e::es) u c)(hgc:Gl X xc)(hmc:X.mg xc=some (.ref CS))(hi:X.N[i]?=some n)(hx:X.env.scope.names.lookup n=some .local)(hil:i<X.N.length)(hΓ:Γ.length=X.N.length)(hs:Suite X CS i (b₀::suite) g)
  (hst:autoParam (X.stack=X.env::X.outer) au3._auto_1) (hf:autoParam (X.env.frame=some X.env.locals) au3._auto_1) (hc:autoParam (X.calm=true) au3._auto_1) (hl:autoParam ((e::es).length=nA) au3._auto_1)
  (hdb:autoParam ((x==("__debug__":Str))=false) au1._auto_1) (hdc:autoParam ((xc==("__debug__":Str))=false) au1._auto_1)
  (he:autoParam (starEach (e::es) X.env=(false,eval e X.env)::starEach es X.env) au3._auto_1) (hpl:autoParam ((backTo pos (starEach es X.env)).any (·.1)=false) au3._auto_1)
  (hsw:autoParam (swapsWith (.Call (.Name x p) (e::es) [] pos) none pos'.line X.env=pure false) au3._auto_1):
  MS X E Γl Γ (.Try [.Expr (.Call (.Name x p) (e::es) [] pos) pos'] [.ExceptHandler (some (.Name xc pc)) (some n) (b₀::suite) hpos] [] [] tpos) (ZG F u g) Γ:=by
 obtain⟨hlen,ta,pa,q⟩:=ha;refine⟨_,z18 O hst hf hc hN hr hg pa hgc hmc hi hx hs.pss hdb hdc he hpl hsw,fun B σ H τ Z ok h=>?_⟩;obtain⟨O',eok,_⟩:=ok.eok;refine q O' σ H τ _ eok ?_;unfold ZG at h;cases hu:u τ with
 | ok ds =>
  rw[hu]at h;dsimp only at h;refine fun vs H1 L s r _=>?_;have hv:(vs++[]).length=nA:=by rw[tZ,r.length,hlen τ ds hu];exact hl
  refine⟨hv,ds,L,by rw[tZ];exact r,?_⟩;have sB:Same B H1:=ok.ext.trans s;cases hF:F ds with
  | ok d =>
   rw[hF]at h;exact fun v H' L' s' r' k'=>h σ H' (ok.same (s.trans s'))
  | err m =>
   rw[hF]at h;dsimp only at h;cases hgm:g m with
   | some d =>
    rw[hgm]at h;dsimp only at h;intro C H' hC s';refine⟨C,rfl,(hs m d hgm C hC).1,fun e1 oe hcls hn=>⟨m,d,hgm,C,hC,?_⟩⟩;refine (Classical.choose_spec (hs m d hgm C hC).2).2 e1 oe _ _ H' (by rw[sS,ok.lσ,hΓ]) hcls hn ?_ fun v H2 s2 r2=>h v H2 [] ((sB.trans s').trans s2) r2 pE fun a ha=>nomatch ha;rw[sP (by rw[ok.lσ,hΓ];exact hil)]
   | none=>rw[hgm]at h;exact h.elim
  | bad=>rw[hF]at h;exact h.elim
 | err m=>rw[hu]at h;exact h.elim
 | bad=>rw[hu]at h;exact h.elim
end
inductive ClVs:List V->List Value->Prop where
 | nil:ClVs [] []
 | cons {c:V} {u:Value} {cs:List V} {us:List Value} (h:ClV c u) (t:ClVs cs us):ClVs (c::cs) (u::us)
def ClVs.vals:∀ {cs:List V} {us its:List Value},ClVs cs us->Vals cs its->its=us
 | _,_,_,.nil,.nil=>rfl
 | _,_,_,.cons h t,.cons r rs=>by
  rw[ClVs.vals t rs];congr 1;cases h with
  | ref a=>exact r
  | ty n=>exact r
def z4L (K:jJa)(pn:List (Addr×Obj)):List V->Hp->VK->Prop:=fun xs H Q=>∃a oe C tp cs us b,xs=[.ref a,.ref tp]/\(a,oe)∈pn/\oe.cls=.ref C/\ErrI K C/\SqT K H tp cs/\ClVs cs us/\jJm K (.ref C) us=some b/\Q (.bl b) H
def Xh:CallR X (.builtin "isinstance") (z4L X.K X.pn):=by
 intro pins s σ H xs us Q I r h;obtain⟨a,oe,C,tp,cs,cus,b,rfl,hm,hc,ci,ht,hcl,hk,q⟩:=h;obtain⟨u1,u2,rfl,rx,rc⟩:=Qg r;obtain rfl:u1=Value.ref a:=rx;obtain rfl:u2=Value.ref tp:=rc;obtain⟨e1,_⟩:=I.pin _ (sE _ hm);obtain⟨its,rv,⟨o,ho,hcls,n,hd⟩,_⟩:=I.tuple ht;have e2:=hcl.vals rv;subst e2;obtain⟨cls,dd,data,sl⟩:=o;have hcls:cls=.type "tuple":=hcls;have hd:data=.seq its.toArray n:=hd;subst hcls hd;exact PySem.W.kia_tup (Vz ci) I.kIn ⟨_,e1,hc⟩ ho hk (fun z=>by cases z) fun tk=>⟨.bl b,H,I.tok tk,rfl,q⟩
section
variable {X:Cx}{E:XK}{Γ Γl:List Cl}{pos:Pos}
end
def QT {P:Program}{w:World}{K:jJa}{mg:Str->Option Value}{base:Heap}{N:List Str}{qual:Str}{scope:Scope}{f:Addr}{cd:Value}{A:Around}{outer:List Env}{s:Shared}{H:Hp}{E:XK}{Γ Γl Γ':List Cl}
  {x:Str} {e₀:Expr} {u:Tn->R (List D)} {c:Rc} {np cpos pos:Pos} (hc:∃C,ErrC K x C) (hg:Gl (vp (cxx P w) P w K mg base N qual scope f cd A outer s H E) x)
  (ha:MA (vp (cxx P w) P w K mg base N qual scope f cd A outer s H E) E Γ [e₀] u c) (hd:autoParam ((x==("__debug__":Str))=false) au1._auto_1)
  (he:autoParam (starEach [e₀] (envOfC qual scope s.heap.objs.size f cd)=(false,eval e₀ (envOfC qual scope s.heap.objs.size f cd))::starEach [] (envOfC qual scope s.heap.objs.size f cd)) au3._auto_1):
  MS (vp (cxx P w) P w K mg base N qual scope f cd A outer s H E) E Γl Γ (.Raise (some (.Call (.Name x np) [e₀] [] cpos)) none pos) (Ja x u) Γ':=by
 obtain⟨C,hc⟩:=hc;exact z0e hc hg ha hd he
section
variable {k:Nat}{nA:Nat}{i:Nat}
def Kv (O:Own X.prog X.w X.K X.mg X.base x k ps (spM X.K F nA))(hN:X.N.Nodup)(hr:Room k X.A)(hg:Gl X x)(ha:MA X.nox (fun _ _ _=>False) Γ (e::es) u c)(hgc:Gl X xc)(hi:X.N[i]?=some n)(hx:X.env.scope.names.lookup n=some .local)(hil:i<X.N.length)(hΓ:Γ.length=X.N.length)(hs:∃CS,X.mg xc=some (.ref CS)/\Suite X CS i (b₀::suite) g)
  (hst:autoParam (X.stack=X.env::X.outer) au3._auto_1) (hf:autoParam (X.env.frame=some X.env.locals) au3._auto_1) (hc:autoParam (X.calm=true) au3._auto_1) (hl:autoParam ((e::es).length=nA) au3._auto_1)
  (hdb:autoParam ((x==("__debug__":Str))=false) au1._auto_1) (hdc:autoParam ((xc==("__debug__":Str))=false) au1._auto_1)
  (he:autoParam (starEach (e::es) X.env=(false,eval e X.env)::starEach es X.env) au3._auto_1) (hpl:autoParam ((backTo pos (starEach es X.env)).any (·.1)=false) au3._auto_1)
  (hsw:autoParam (swapsWith (.Call (.Name x p) (e::es) [] pos) none pos'.line X.env=pure false) au3._auto_1):
  MS X E Γl Γ (.Try [.Expr (.Call (.Name x p) (e::es) [] pos) pos'] [.ExceptHandler (some (.Name xc pc)) (some n) (b₀::suite) hpos] [] [] tpos) (ZG F u g) Γ:=by
 obtain⟨CS,h1,h2⟩:=hs;exact z26 O hN hr hg ha hgc h1 hi hx hil hΓ h2 hst hf hc hl hdb hdc he hpl hsw
end
structure CompScopeC (X:Cx)(xc:Str)(N':List Str)(fr:List (Option Nat))(scope:Scope):Prop where
 kind:scope.kind=.function
 one:∃pre post,scope.names=pre++(xc,NameKind.cell)::post/\∀y∈pre++post,y.2≠.cell
 nox:∀y∈scope.names,y.1=xc->y.2=.cell
 loc:∀y∈scope.names,y.2=.local->scope.names.lookup y.1=some .local
 free:∀y∈scope.names,y.2=.free->∃c,X.env.cells.lookup y.1=some c
 len:fr.length=N'.length
 fre:∀(j i:Nat) (x:Str),fr[j]?=some (some i)->N'[j]?=some x->X.N[i]?=some x/\scope.names.lookup x=some .free/\(X.env.kindOf x=some .cell\/X.env.kindOf x=some .free)
section
variable {X:Cx}{pins:List (Addr×Obj)}{σ:St}{H:Hp}{s:Shared}{xc:Str}{N':List Str}{fr:List (Option Nat)}{scope:Scope}{fp:List Addr}
end
section
variable {X:Cx}{pins:List (Addr×Obj)}{σ τ:St}{H H₃ H5:Hp}{s₃ s5:Shared}{xc:Str}{N':List Str}{scope:Scope}{fp:List Addr}
end
section
variable {X:Cx}{E:XK}{Γ:List Cl}{pos:Pos}
end
def WA {α:Type}{us:List α}{n:Nat}(h:us.length=n+1):∃a t,us=a::t/\t.length=n:=by
 cases us with
 | nil=>cases h
 | cons a t=>exact⟨a,t,rfl,Nat.succ.inj h⟩
def z6U {α:Type}{us:List α}(h:us.length=0):us=[]:=pY.mp h
def bd1 {α:Type}{P:List α->Prop}(h:∀a,P [a]):∀us:List α,us.length=1->P us:=fun us hl=>by
 obtain⟨a,t,rfl,h1⟩:=WA hl;cases z6U h1;exact h a
def bd2 {α:Type}{P:List α->Prop}(h:∀a b,P [a,b]):∀us:List α,us.length=2->P us:=fun us hl=>by
 obtain⟨a,t,rfl,h1⟩:=WA hl;exact bd1 (P:=fun t=>P (a::t)) (h a) t h1
def bd3 {α:Type}{P:List α->Prop}(h:∀a b c,P [a,b,c]):∀us:List α,us.length=3->P us:=fun us hl=>by
 obtain⟨a,t,rfl,h1⟩:=WA hl;exact bd2 (P:=fun t=>P (a::t)) (h a) t h1
def bd4 {α:Type}{P:List α->Prop}(h:∀a b c d,P [a,b,c,d]):∀us:List α,us.length=4->P us:=fun us hl=>by
 obtain⟨a,t,rfl,h1⟩:=WA hl;exact bd3 (P:=fun t=>P (a::t)) (h a) t h1
def z3y {E:Value->Shared->Prop}{i:Nat}{pos:Pos}(I:Inv X pins σ H s)(hN:X.N[i]?=some x)(hv:Vis X.env.scope x)(e:σ[i]?=some (some v))(h:∀u,RelV v u->Q u s)
  (hd:autoParam ((x==("__debug__":Str))=false) au1._auto_1) (hcd:autoParam ((x==("__classdict__":Str))=false) au1._auto_1):wpAny (model X.prog X.w) X.A (eval (.Name x pos) X.env) Q E s:=by
 obtain⟨m,hn,hl⟩:=I.loc;obtain⟨u,r,l⟩:=hl i x v hN e hv;rcases l with⟨hk,hm⟩|⟨hk,c,hc,hcell⟩
 ·exact wpAny_Name (wpAny_loadName_local I.ok.kind hk hn hm (h u r)) hd
 ·rcases hk with hk|hk
  ·exact wpAny_Name (wpAny_loadName_cell I.ok.kind hk hc hcell (h u r)) hd
  ·exact wpAny_Name (wpAny_loadName_free I.ok.kind hk hc hcell (h u r) hcd) hd
def SOk.deadPut {K:jJa}{Γ:List Cl}{B H:Hp}{σ:St}{τ:Tn}{T:List Addr}{i:Nat}{w:Option V}(h:SOk K Γ B H σ τ T)(e:Γ[i]?=some .dead):SOk K Γ B H (σ.set i w) τ T:=by
 obtain⟨Ls,h1,h2⟩:=h.ex;refine⟨h.ext,by rw[sS];exact h.lσ,h.lτ,Ls,fun j c ej hc=>?_,h2⟩;obtain⟨v,d,a1,a2,a3⟩:=h1 j c ej hc;refine⟨v,d,?_,a2,a3⟩
 by_cases hij:i=j
 ·subst hij;rw[e]at ej;exact absurd (jYe ej).symm hc
 ·rw[sO hij];exact a1
section
variable {X:Cx}{E:XK}{Γ Γl:List Cl}{x1 x2 xr d nm:Str}{F1 F2:List D->R D}{es:List Expr}{u:Tn->R (List D)}{c:Rc}{i k n:Nat}{f1 f2:Addr}{ps:List Str}{p1 p2 p3 p4 p5 p6 p7 p8 p9 p10 p11 p12:Pos}{ct:Nat}{jj:_}
end
def Own.mgx {P:Program}{w:World}{K:jJa}{mg:Str->Option Value}{base:Heap}{x:Str}{k:Nat}{ps:List Str}{sp:Sp}(O:Own P w K mg base x k ps sp):∃f,mg x=some (.ref f):=by
 obtain⟨f,_,_,h,_⟩:=O.ex;exact⟨f,h⟩
def JZ {X:Cx}{E:XK}{Γ:List Cl}{pos:Pos}:ME X E Γ (.Dict [] [] pos) (eC (.dic [] [])) .fresh:=
 ⟨_,Ky,fun O σ H τ Q ok h p hp=>h (.ref p) _ [p] (Same.new hp) ⟨p,[],[],rfl,zT,rfl,rfl,pE,rfl,rfl⟩ ⟨rC.mpr ⟨pS,pE⟩,fun a ha=>by rw[sG.mp ha];exact hp⟩⟩
section
variable {K:jJa}{Γ:List Cl}{B H:Hp}{σ:St}{τ:Tn}{T T':List Addr}
end
def Ut (H:Hp)(L:List Addr):Hp:=fun a=>if a∈L then none else H a
def Qx (h:a∈L):Ut H L a=none:=if_pos h
def Wi (h:a∉L):Ut H L a=H a:=if_neg h
def z1C (h:Ut H L a=none):a∈L\/H a=none:=by
 by_cases z:a∈L
 ·exact .inl z
 ·rw[Wi z]at h;exact .inr h
def spO (K:jJa)(F:List D->R D)(n:Nat):Sp:=fun vs H Q _=>vs.length=n/\∃v0 vs' d0 ds L0 L1,vs=v0::vs'/\Rep K H d0 v0 L0/\L0.Nodup/\Reps K H ds vs' L1/\(∀a∈L0,a∉L1) /\
 match F (d0::ds)with
 | .ok d=>∀v H' L,Same (Ut H L0) H'->Rep K H' d v L->L.Nodup->(∀a∈L,Ut H L0 a=none)->Q v H'
 | _=>False
def SOk.startO {K:jJa}{H:Hp}{N:List Str}{d0:D}{v0:V}{ds:List D}{vs:List V}{L0 L1:List Addr}(r0:Rep K H d0 v0 L0)(nd:L0.Nodup)(r:Reps K H ds vs L1)(dj:∀a∈L0,a∉L1)(hn:(v0::vs).length<=N.length):
  SOk K ((qd N.length (v0::vs).length).set 0 .own) (Ut H L0) H (L2.start N (v0::vs)) ((d0::ds).map some++List.replicate (N.length-(d0::ds).length) none) []:=by
 have hl:=r.length;have lp:(qd N.length (v0::vs).length).length=N.length:=by unfold qd;rw[tH,sW,sW];omega
 have hN:0<N.length:=by rw[tF]at hn;omega
 have:∀i:Nat,∃Li:List Addr,∀d,ds[i]?=some d->∃v,vs[i]?=some v/\Rep K H d v Li/\∀a∈Li,a∈L1:=fun i=>by
  cases h:ds[i]? with
  | none=>exact⟨[],fun d z=>by cases z⟩
  | some d =>
   obtain⟨v,L1',e1,r1,sb⟩:=r.get h;exact⟨L1',fun d' z=>by cases z;exact⟨v,e1,r1,fun a ha=>sb.mem ha⟩⟩
 obtain⟨Ls,hL⟩:∃Ls:Nat->List Addr,∀(i:Nat) (d:D),ds[i]?=some d->∃v,vs[i]?=some v/\Rep K H d v (Ls i)/\∀a∈Ls i,a∈L1:=⟨fun i=>Classical.choose (this i),fun i=>Classical.choose_spec (this i)⟩
 have cls:∀i c,((qd N.length (v0::vs).length).set 0 .own)[i]?=some c->c≠.dead->i=0\/(i≠0/\i<(v0::vs).length/\c=.shr):=fun i c e hc=>by
  by_cases z:i=0
  ·exact .inl z
  ·rw[sO (Ne.symm z)]at e;unfold qd at e
   by_cases hi:i<(v0::vs).length
   ·rw[rE (by simpa using hi),rQ,if_pos hi]at e;exact .inr ⟨z,hi,(jYe e).symm⟩
   ·rw[rM (by simp at hi ⊢;omega),rQ]at e;split at e
    ·exact absurd (jYe e).symm hc
    ·cases e
 have own0:∀i,((qd N.length (v0::vs).length).set 0 .own)[i]?=some Cl.own->i=0:=fun i e=>by
  rcases cls i _ e (by simp)with z|⟨_,_,z⟩
  ·exact z
  ·cases z
 let LL:Nat->List Addr:=fun i=>if i=0 then L0 else Ls (i-1)
 have sub:∀j,j≠0->j<(v0::vs).length->∀a∈LL j,a∈L1:=fun j hj hlt a ha=>by
  have ha:a∈Ls (j-1):=by
   have:LL j=Ls (j-1):=if_neg hj;rw[this]at ha;exact ha
  have hd:j-1<ds.length:=by rw[tF]at hlt;omega
  obtain⟨v,_,_,sb⟩:=hL (j-1) ds[j-1] (by simp[hd]);exact sb a ha
 refine⟨fun b o q=>?_,?_,?_,LL,fun i c e hc=>?_,fun i e=>?_,fun i j c hij e ej hc a ha hm=>?_,pE,fun a ha=>(nomatch ha),fun i c e hc a ha hm=>(nomatch hm)⟩
 ·by_cases z:b∈L0
  ·rw[Qx z]at q;cases q
  ·rw[Wi z]at q;exact q
 ·unfold L2.start;rw[sS,lp,tH,tU,sW];omega
 ·rw[sS,lp,tH,tU,sW];rw[tF]at hn ⊢;omega
 ·rcases cls i c e hc with z|⟨z,hi,_⟩
  ·subst z;exact⟨v0,d0,rfl,rfl,r0⟩
  ·obtain⟨j,rfl⟩:∃j,i=j+1:=⟨i-1,by omega⟩
   have hj:j<ds.length:=by rw[tF]at hi;omega
   obtain⟨v,e1,r1,_⟩:=hL j ds[j] (by simp[hj]);refine⟨v,ds[j],?_,?_,r1⟩
   ·unfold L2.start;rw[rE (by simpa using hi),sV,tE,e1];rfl
   ·rw[rE (by simp;exact hj),sV];simp[hj]
 ·cases own0 i e;exact⟨nd,fun a ha=>Qx ha⟩
 ·cases own0 i e;rcases cls j c ej hc with z|⟨z,hj,_⟩
  ·exact hij z.symm
  ·exact dj a ha (sub j z hj a hm)
section
variable {P:Program}{w:World}{K:jJa}{mg:Str->Option Value}{base:Heap}{x:Str}{st:Stmt}{N ps:List Str}{k:Nat}{t:Tn->R Fl}{Γ':List Cl}
def DefIn.mirO (Df:DefIn K mg x st ps)(S:FnScope N ps (defScope st))(hn:ps.length<=N.length)
  (hbody:∀(f:Addr) (cdv:Value) (A:Around) (outer:List Env) (s:Shared) (H:Hp) (E:XK),Room k (A.deeper (envOfC x (defScope st) s.heap.objs.size f cdv)) ->
   MSs (vp (cxx P w) P w K mg base N x (defScope st) f cdv A outer s H E) E [] ((qd N.length ps.length).set 0 .own) (defBody st) t Γ'):Own P w K mg base x (k+1) ps (spO K (zr N.length t) ps.length):=by
 refine Df.own S (fun vs H Q E h=>h.1) fun f cdv A outer s H vs Q E hr h=>?_;obtain⟨hl,v0,vs',d0,ds,L0,L1,rfl,r0,nd,r,dj,h⟩:=h;obtain⟨ts,p,q⟩:=hbody f cdv A outer s H E hr;refine⟨ts,p,q (Ut H L0) (start N (v0::vs')) H _ _ (hl▸SOk.startO r0 nd r dj (by omega)) ?_⟩;unfold zr at h;cases ht:t ((d0::ds).map some++List.replicate (N.length-(d0::ds).length) none)with
 | ok f =>
  rw[ht]at h;cases f with
  | nx τ'=>exact fun σ' H' ok'=>h .non H' [] ok'.ext ⟨rfl,rfl⟩ pE fun a ha=>nomatch ha
  | rt d=>exact fun v H' L s r n1 n2=>h v H' L s r n1 n2
  | bk _=>exact h.elim
  | ct _=>exact h.elim
 | err n=>rw[ht]at h;exact h.elim
 | bad=>rw[ht]at h;exact h.elim
end
section
variable {K:jJa}{pn:List (Addr×Obj)}{σ:St}{H:Hp}{Q:VK}{e:Addr}{oe:Obj}{C:Addr}
end
section
variable {X:Cx}{E:XK}{Γ Γ1 Γ2 Γa Γb Γl Γ':List Cl}{pos:Pos}
def z1K (h:PA X es t):PE X (.List es pos) (fun σ H Q=>t σ H fun xs H1=>xs.length<=sizeLine/\∀p,H1 p=none->∀o,Q (.ref p) (upd H1 p (.frz o (.lst xs)))):=by
 intro pins s σ H Q I hq;refine wpAny_List_spliced (thn (h pos pins s σ H _ I hq) fun us s1 q0=>?_);obtain⟨xs,H1,I1,r,z,q⟩:=q0;refine⟨by rw[<-r.length];exact z,?_⟩;have hf:H1 s1.heap.objs.size=none:=I1.hok.fresh (sL _);have hg:(s1.heap.push { cls:=.type "list",data:=.seq us.toArray }).get? s1.heap.objs.size=some { cls:=.type "list",data:=.seq us.toArray }:=jYd _ rfl;refine⟨.ref s1.heap.objs.size,upd H1 s1.heap.objs.size (.frz { cls:=.type "list",data:=.seq us.toArray } (.lst xs)),I1.laid (t':=s1.toks) (fun b u e=>jYb _ e) (sL _) ?_,rfl,q _ hf _⟩;exact⟨hg,z,us,0,r,hg⟩
def Vw (ds:List D):R D:=if D.imms ds=true then .ok (.frl ds) else .bad
def Xl (h:MA X E Γ es u c)(hz:autoParam (es.length<=1000) au1._auto_1):ME X E Γ (.List es pos) (eL Vw u) .fresh:=by
 obtain⟨hlen,ta,p,q⟩:=h;refine⟨_,z1K p,fun O σ H τ Q ok h=>q O σ H τ _ ok ?_⟩;unfold eL at h;cases hu:u τ with
 | err n=>rw[hu]at h;exact h
 | bad=>rw[hu]at h;exact h
 | ok ds =>
  rw[hu,jYa]at h;refine fun vs H1 L s1 r1 _=>⟨by rw[r1.length,hlen τ ds hu,sizeLine_eq];omega,fun p hp o=>?_⟩
  unfold Vw at h
  by_cases hi:D.imms ds=true
  ·rw[if_pos hi]at h;have sn:Same H1 (upd H1 p (.frz o (.lst vs))):=Same.new hp;exact h (.ref p) _ [] (s1.trans sn) ⟨p,vs,rfl,.inl ⟨o,zT⟩,rfl,hi,(yT r1 hi).same sn⟩ RcOk.nil
  ·rw[if_neg hi]at h;exact h.elim
end
def z2y {K:jJa}{H:Hp}{d:D}:∀ {ds:List D} {vs:List V} {L:List Addr} {k:Nat},Reps K H ds vs L->ds[k]?=some d->L.Nodup->∃v Ld,vs[k]?=some v/\Rep K H d v Ld/\Ld.Nodup/\(∀a∈Ld,a∈L) /\
  ∀(H2:Hp) (d2:D) (L2:List Addr),TF H H2->(∀b,b∉Ld->H b≠none->H2 b=H b)->Rep K H2 d2 v L2->(∀a∈L2,a∈Ld)->L2.Nodup->∃L',Reps K H2 (ds.set k d2) vs L'/\(∀a∈L',a∈L)/\L'.Nodup
 | [],_,_,k,_,h,_=>by cases k<;>cases h
 | e::ds,_,_,0,hq,h,nd=>by
  obtain⟨v,vs',L1,L2,e1,e2,r1,r2⟩:=hq;subst e1 e2;cases h;obtain⟨n1,n2,n3⟩:=sQ.mp nd;refine⟨v,L1,rfl,r1,n1,fun a ha=>sE _ ha,fun H2 d2 L3 tf kp r3 sb nd3=>⟨L3++L2,?_,fun a ha=>?_,?_⟩⟩
  ·exact⟨v,vs',L3,L2,rfl,rfl,r3,Reps.keep tf ds vs' L2 r2 fun a ha=>kp a (fun z=>n3 a z a ha rfl) (r2.there ha)⟩
  ·rcases sC.mp ha with z|z
   ·exact sE _ (sb a z)
   ·exact sD _ z
  ·exact sQ.mpr ⟨nd3,n2,fun a ha b hb z=>n3 a (sb a ha) b hb z⟩
 | e::ds,_,_,k+1,hq,h,nd=>by
  obtain⟨v,vs',L1,L2,e1,e2,r1,r2⟩:=hq;subst e1 e2;obtain⟨n1,n2,n3⟩:=sQ.mp nd;obtain⟨w,Ld,g1,g2,g3,g4,g5⟩:=z2y (k:=k) r2 (by simpa using h) n2;refine⟨w,Ld,by simpa using g1,g2,g3,fun a ha=>sD _ (g4 a ha),fun H2 d2 L3 tf kp r3 sb nd3=>?_⟩;obtain⟨L',q1,q2,q3⟩:=g5 H2 d2 L3 tf kp r3 sb nd3;refine⟨L1++L',?_,fun a ha=>?_,?_⟩
  ·exact⟨v,vs',L1,L',rfl,rfl,Rep.keep tf e v L1 r1 fun a ha=>kp a (fun z=>n3 a ha a (g4 a z) rfl) (r1.there ha),q1⟩
  ·rcases sC.mp ha with z|z
   ·exact sE _ z
   ·exact sD _ (q2 a z)
  ·exact sQ.mpr ⟨n1,q3,fun a ha b hb z=>n3 a ha b (q2 b hb) z⟩
def SOk.at {K:jJa}{Γ:List Cl}{B H:Hp}{σ:St}{τ:Tn}{i k:Nat}{ds:List D}{d:D}(h:SOk K Γ B H σ τ [])(e:Γ[i]?=some .own)(hτ:τ[i]?=some (some (.lst ds)))(hk:ds[k]?=some d):
  ∃a vs v Ld,σ[i]?=some (some (.ref a))/\H a=some (.lst vs)/\vs[k]?=some v/\Rep K H d v Ld/\Ld.Nodup/\∀(H2:Hp) (d2:D) (L2:List Addr),TF H H2->(∀b,b∉Ld->H b≠none->H2 b=H b)->Rep K H2 d2 v L2->(∀a∈L2,a∈Ld)->L2.Nodup->SOk K Γ B H2 σ (τ.set i (some (.lst (ds.set k d2)))) []:=by
 obtain⟨v0,d0,L,e1,e2,r,nd,n2,fin⟩:=h.slot e;rw[hτ]at e2;cases e2;obtain⟨a,vs,L',rfl,ha,rfl,rs⟩:=r;obtain⟨m1,m2⟩:=rC.mp nd;obtain⟨v,Ld,g1,g2,g3,g4,g5⟩:=z2y rs hk m2;refine⟨a,vs,v,Ld,e1,ha,g1,g2,g3,fun H2 d2 L2 tf kp r2 sb nd2=>?_⟩;obtain⟨L3,q1,q2,q3⟩:=g5 H2 d2 L2 tf kp r2 sb nd2;have hal:a∉Ld:=fun z=>m1 (g4 a z);have ha2:H2 a=some (.lst vs):=by rw[kp a hal (by rw[ha];simp)];exact ha
 refine fin H2 _ (a::L3) [] [] rfl tf (fun b hb hn=>kp b (fun z=>hb (tS _ (g4 b z))) hn) ⟨a,vs,L3,rfl,ha2,rfl,q1⟩ (fun b hb=>.inl ?_) (rC.mpr ⟨fun z=>m1 (q2 a z),q3⟩);rcases sI.mp hb with z|z
 ·rw[z];exact tN
 ·exact tS _ (q2 b z)
section
variable {X:Cx}{E:XK}{Γ Γl:List Cl}{pos:Pos}{e:Expr}{t:Tn->R D}{c:Rc}
end
section
open PySem.SeqAt PySem.MeetsSeq3
open PySem.AutoSeq1 (wpAny_loadPart')
end
section
variable {X:Cx}{E:XK}{Γ Γl:List Cl}{pos:Pos}{e:Expr}{t:Tn->R D}{c:Rc}
end
section
variable {X:Cx}{E:XK}{Γ:List Cl}{o:Expr}{t:Tn->R D}{c:Rc}{apos cpos:Pos}
end
section
variable {X:Cx}{E:XK}{Γ:List Cl}{e:Expr}{t:Tn->R D}{c:Rc}
end
section
variable {X:Cx}{E:XK}{Γ:List Cl}{e:Expr}{t:Tn->R D}{c:Rc}{p2 p3 p4 pos:Pos}{j:Nat}
end
def TF.trans {H H1 H2:Hp}(a:TF H H1)(b:TF H1 H2):TF H H2:=⟨fun x xs e=>b.tup x xs (a.tup x xs e),fun x o u e=>b.frz x o u (a.frz x o u e)⟩
section
variable {X:Cx}{E:XK}{Γ Γl:List Cl}{pos:Pos}{e:Expr}{t:Tn->R D}{c:Rc}
end
section
variable {X:Cx}{E:XK}{Γ Γl:List Cl}{pos:Pos}{e:Expr}{t:Tn->R D}{c:Rc}
end
open PySem PySem.Spec PyProof.Rows PySem.Builtin.Str
def Z3 {K:jJa}{H:Hp}{y:Str}{vs:List V}{L:List Addr}(r:Reps K H [.str y] vs L):vs=[.str y]:=by
 obtain⟨v,vs',L1,L2,e1,_,r1,r2⟩:=r;rw[e1,r1.1,r2.1]
section
variable {X:Cx}{E:XK}{Γ:List Cl}{o:Expr}{t:Tn->R D}{c:Rc}{apos cpos:Pos}
end
def inS (a b:Str):Bool:=!(occurrences b a 0 b.length 1).isEmpty
def z60:R2:=fun x y H Q=>∃a b,x=.str a/\y=.str b/\Q (.bl (inS a b)) H
def z3W {X:Cx}:OpR X (compareOp .In) z60:=by
 intro pins s σ H x y v u Q I rx ry h;obtain⟨a,b,rfl,rfl,q⟩:=h;obtain⟨t,rfl⟩:=rx;obtain⟨t',rfl⟩:=ry;exact in_str ⟨.bl (inS a b),H,I,rfl,q⟩
def VL:D->D->R D
 | .str a,.str b=>.ok (.bl (inS a b))
 | _,_=>.bad
def z5L:wH VL:=fun x y n h=>by
 unfold VL at h;split at h<;>cases h
def z4M {K:jJa}:OpB K z60 VL:=by
 rintro H x y dx dy Lx Ly Q rx ry ⟨d,hg,q⟩;unfold VL at hg;split at hg
 ·cases hg;exact⟨_,_,rx.1,ry.1,q _ H [] (Same.refl H) ⟨rfl,rfl⟩ (by simp) (fun a ha=>nomatch ha)⟩
 ·cases hg
def z5K (X:Cx)(st:List Stmt)(t:TS):Prop:=
 ∀(pins:List (Addr×Obj)) (s:Shared) (σ:St) (H:Hp) (D:Ends),0<s.toks->Inv X pins σ H s->t D σ H->wpAny (model X.prog X.w) X.A (execs st X.env) (SP X pins D) X.xe s
def PEp (X:Cx)(e:Expr)(t:TE):Prop:=
 ∀(pins:List (Addr×Obj)) (s:Shared) (σ:St) (H:Hp) (Q:VK),0<s.toks->Inv X pins σ H s->t σ H Q->wpAny (model X.prog X.w) X.A (eval e X.env) (EP X pins σ Q) X.xe s
def PE.p {X:Cx}{e:Expr}{t:TE}(h:PE X e t):PEp X e t:=fun pins s σ H Q _ I=>h pins s σ H Q I
def PEp.up {X:Cx}{e:Expr}{t:TE}(h:PEp X e t){pins:List (Addr×Obj)}{s:Shared}{σ:St}{H:Hp}{Q:VK}(hs:0<s.toks)(I:Inv X pins σ H s)(ht:t σ H Q):wpAny (model X.prog X.w) X.A (eval e X.env) (fun v s'=>0<s'.toks/\EP X pins σ Q v s') X.xe s:=
 wpAny_mono (wpAny_toks_of (n:=1) hs (h pins s σ H Q hs I ht)) (fun _ _ h=>h) fun _ _ h=>h.2
section
variable {X:Cx}{o:Expr}{to:TE}{a b:Str}{j1 j2:Nat}{p1 p2 apos cpos:Pos}
end
section
end
def MEp (X:Cx)(E:XK)(Γ:List Cl)(e:Expr)(t:Tn->R D)(c:Rc):Prop:=
 ∃te,PEp X e te/\∀O σ H τ Q,EOk X.K Γ O H σ τ->post X.K E O c H Q (t τ)->te σ H Q
def z6C (X:Cx)(E:XK)(Γl Γ:List Cl)(s:List Stmt)(t:Tn->R Fl)(Γ':List Cl):Prop:=
 ∃ts,z5K X s ts/\∀B σ H τ Z,SOk X.K Γ B H σ τ []->qq X.K E B Γl Γ' Z (t τ)->ts Z σ H
section
variable {X:Cx}{E:XK}{Γ Γ' Γl:List Cl}{e o:Expr}{t:Tn->R D}{c:Rc}{a b:Str}{j1 j2:Nat}{p1 p2 apos cpos pos:Pos}
def ME.p (h:ME X E Γ e t c):MEp X E Γ e t c:=by
 obtain⟨te,p,q⟩:=h;exact⟨te,p.p,q⟩
end
section
variable {P:Program}{w:World}{K:jJa}{mg:Str->Option Value}{base:Heap}{x:Str}{st:Stmt}{N ps:List Str}{k:Nat}{t:Tn->R Fl}{Γ':List Cl}
end
section
open PySem.SeqAt PySem.MeetsSeq3
open PySem.AutoSeq1 (wpAny_loadPart')
end
section
open PySem.SeqAt PySem.MeetsSeq PySem.MeetsSeq3
open PySem.AutoSeq1 (wpAny_loadPart')
end
section
variable {k:Nat}{n:Nat}
def JI:List Cl->List Cl
 | []=>[]
 | .own::r=>.shr::JI r
 | c::r=>c::JI r
def jN:∀ {Γ:List Cl} {i:Nat} {c:Cl},(JI Γ)[i]?=some c->∃c',Γ[i]?=some c'/\(c'=.dead->c=.dead)
 | [],_,_,h=>by cases h
 | .own::r,0,c,h=>⟨.own,rfl,fun z=>nomatch z⟩
 | .shr::r,0,c,h=>⟨.shr,rfl,fun z=>nomatch z⟩
 | .brw::r,0,c,h=>⟨.brw,rfl,fun z=>nomatch z⟩
 | .dead::r,0,c,h=>⟨.dead,rfl,fun _=>by cases h;rfl⟩
 | .own::r,i+1,c,h=>jN (Γ:=r) (i:=i) h
 | .shr::r,i+1,c,h=>jN (Γ:=r) (i:=i) h
 | .brw::r,i+1,c,h=>jN (Γ:=r) (i:=i) h
 | .dead::r,i+1,c,h=>jN (Γ:=r) (i:=i) h
def Yj (O:Own X.prog X.w X.K X.mg X.base x k ps (spO X.K F n))(hr:Room k X.A)(hg:Gl X x)(hx:vW (cxx X.prog X.w) X E)(h0:ME X E Γ e t .fresh)(ha:MA X E (JI Γ) es u c)(hc:c≠.bor)(hl:autoParam ((e::es).length=n) au3._auto_1)(hdb:autoParam ((x==("__debug__":Str))=false) au1._auto_1)
  (he:autoParam (starEach (e::es) X.env=(false,eval e X.env)::starEach es X.env) au3._auto_1) (hpl:autoParam ((backTo pos (starEach es X.env)).any (·.1)=false) au3._auto_1):ME X E Γ (.Call (.Name x p) (e::es) [] pos) (eL (fun ds=>qi (F ds)) (z8 t u)) .fresh:=by
 obtain⟨te,pe,qe⟩:=h0;obtain⟨hlen,ta,pa,q⟩:=ha;refine⟨_,Uq O hr hg hx (yG pe pa he) hdb he hpl,fun O' σ H τ Q ok h=>?_⟩;refine qe O' σ H τ _ ok ?_;unfold eL z8 at h;cases ht:t τ with
 | err m=>rw[ht]at h;exact h
 | bad=>rw[ht]at h;exact h
 | ok d0 =>
  rw[ht,jYa]at h;refine fun v0 H1 L0 s1 r0 ⟨nd0,fr0⟩=>?_;have ok1:EOk X.K (JI Γ) (fun a=>a∈L0) H1 σ τ:=⟨fun a ha=>r0.there ha,fun i c hi hcd=>by
   obtain⟨c',e1,e2⟩:=jN hi;obtain⟨v,d,L,a1,a2,a3,_⟩:=ok.slot i c' e1 (fun z=>hcd (e2 z));exact⟨v,d,L,a1,a2,a3.same s1,fun _ a ha hm=>a3.there ha (fr0 a hm)⟩⟩
  refine q _ σ H1 τ _ ok1 ?_;cases hu:u τ with
  | err m=>rw[hu]at h;exact fun C H' e s=>h C H' e (s1.trans s)
  | bad=>rw[hu]at h;exact h
  | ok ds =>
   rw[hu,jYa,jYa]at h;refine fun vs H2 L1 s2 rs rc=>?_;have dj:∀a∈L0,a∉L1:=fun a ha hm=>RcOk.shr (fun a ha=>ok1.dom a ha) hc rc a hm ha;have hv:((v0::vs)++[]).length=n:=by rw[tZ,tF,rs.length,hlen τ ds hu];exact hl
   refine⟨hv,v0,vs,d0,ds,L0,L1,by rw[tZ],r0.same s2,nd0,rs,dj,?_⟩;cases hF:F (d0::ds)with
   | err m=>rw[hF]at h;exact h.elim
   | bad=>rw[hF]at h;exact h.elim
   | ok d =>
    rw[hF]at h;refine fun v H' L s' r' nd fr=>h v H' L (fun b o z=>?_) r' ⟨nd,fun a ha=>?_⟩
    ·have hb:b∉L0:=fun hm=>by rw[fr0 b hm]at z;cases z
     exact s' b o (by rw[Wi hb];exact s2 _ _ (s1 _ _ z))
    ·rcases z1C (fr a ha)with z|z
     ·exact fr0 a z
     ·exact s1.non (s2.non z)
end
section
variable {X:Cx}{E:XK}{Γ Γl:List Cl}{pos:Pos}
end
def uk (z:Str)(n:Int):Str:=if n<1 then Str.empty else if (n==1||z.length==0)=true then z else ⟨(List.replicate n.toNat z.cps).foldl (·++·) #[]⟩
def WE (c:Array Nat):∀(k:Nat) (acc:Array Nat),((List.replicate k c).foldl (·++·) acc).size=acc.size+k*c.size
 | 0,acc=>by simp
 | k+1,acc=>by
  rw[sA,pF,WE c k,Array.size_append,pL];lia
def UC (z:Str)(n:Int):(uk z n).length<=n.toNat*z.length:=by
 unfold uk;split
 ·exact rZ _
 ·split
  ·rename_i h1 h2;rw[Bool.or_eq_true]at h2;rcases h2 with e|e
   ·have:n=1:=by simpa using e
    subst this;show z.length<=1*z.length;lia
   ·have:z.length=0:=by simpa using e
    lia
  ·show ((List.replicate n.toNat z.cps).foldl (·++·) #[]).size<=_;rw[WE];show 0+n.toNat*z.length<=_;lia
def z2P:R2:=fun x y H Q=>∃z n,x=.str z/\y=.int n/\-1000000<=n/\n.toNat*z.length<=1000000/\n<=1000000/\Q (.str (uk z n)) H
def Qy:OpR X (binaryOp .Mult) z2P:=by
 intro pins s σ H x y v u Q I rx ry h;obtain⟨z,n,rfl,rfl,h0,h1,h2,q⟩:=h;obtain⟨t,rfl⟩:=rx;obtain⟨t',rfl⟩:=ry;have hfit:(uk z n).length<=sizeLine:=by have:=UC z n;rw[sizeLine_eq];lia
 refine PySem.P.mul_str (by
  have e1:decide (n < -(2 ^ 63:Int))=false:=decide_eq_false (by lia);have e2:decide (n>=2 ^ 63)=false:=decide_eq_false (by lia);rw[e1,e2];rfl) (fun a b hg=>?_) (fun a b=>?_) ?_
 ·have hn:1<=n:=by lia
  have:(z.length:Int)<=(2 ^ 63-1)/n:=by
   rw[Int.le_ediv_iff_mul_le (by lia)];have e:(z.length:Int)*n=((n.toNat*z.length:Nat):Int):=by
    rw[Int.natCast_mul,pA (by lia),Int.mul_comm]
   rw[e];lia
  lia
 ·unfold PySem.Builtin.Str.tooLong;rw[sizeLine_eq];exact decide_eq_false (by rw[Nat.mul_comm];lia)
 ·have done:∀t',EP X pins σ Q (.str (uk z n) t') s:=fun t'=>⟨.str (uk z n),H,I,⟨t',rfl⟩,q⟩
  have done':∀t' k,EP X pins σ Q (.str (uk z n) t') { s with toks:=k }:=fun t' k=>⟨.str (uk z n),H,I.tok k,⟨t',rfl⟩,q⟩
  unfold uk at hfit done done';split
  ·rename_i hn;rw[if_pos hn]at hfit done';exact⟨hfit,done' _ _⟩
  ·rename_i hn;rw[if_neg hn]at hfit done done';split
   ·rename_i h5;rw[if_pos h5]at done;exact done _
   ·rename_i h5;rw[if_neg h5]at hfit done';exact⟨hfit,done' _ _⟩
def kB:D->D->R D
 | .str z,.int n=>if -1000000<=n/\n.toNat*z.length<=1000000/\n<=1000000 then .ok (.str (uk z n)) else .bad
 | _,_=>.bad
def JR:wH kB:=fun x y n h=>by
 unfold kB at h;split at h
 ·split at h<;>cases h
 ·cases h
def KS {K:jJa}:OpB K z2P kB:=by
 rintro H x y dx dy Lx Ly Q rx ry ⟨d,hg,q⟩;unfold kB at hg;split at hg
 ·rename_i z n;split at hg
  ·rename_i hz;cases hg;exact⟨z,n,rx.1,ry.1,hz.1,hz.2.1,hz.2.2,q _ H [] (Same.refl H) ⟨rfl,rfl⟩ (by simp) (fun a ha=>nomatch ha)⟩
  ·cases hg
 ·cases hg
section
end
def SuiteA (X:Cx)(CS:Addr)(i j:Nat)(sts:List Stmt)(g:Str->Option Int):Prop:=∀(m:Str) (k:Int),g m=some k->∀C,ErrC X.K m C->jJk X.K (.ref C) (.ref CS)=some true /\
 ∃ts:Addr->Obj->TS,(∀e oe,PSs (X.within e oe) sts (ts e oe))/\∀e oe (Z:Ends) (σ:St) (H:Hp) (n:Int),σ.length=X.N.length->oe.cls=.ref C->H e=none->σ[i]?=some (some (.ref e))->σ[j]?=some (some (.int n))->(∀H',Same H H'->Z.nx (σ.set j (some (.int (n+k)))) H')->ts e oe Z σ H
def SuiteA.ts {X:Cx}{CS:Addr}{i j:Nat}{sts:List Stmt}{g:Str->Option Int}(hs:SuiteA X CS i j sts g)(e:Addr)(oe:Obj):TS:=fun Z σ H=>∃(m:Str) (k:Int) (hg:g m=some k) (C:Addr) (hC:ErrC X.K m C),Classical.choose (hs m k hg C hC).2 e oe Z σ H
def SuiteA.pss {i j:Nat}{g:Str->Option Int}(hs:SuiteA X CS i j sts g)(e:Addr)(oe:Obj):PSs (X.within e oe) sts (hs.ts e oe):=by
 intro pins s σ H Z I h;obtain⟨m,k,hg,C,hC,z⟩:=h;exact (Classical.choose_spec (hs m k hg C hC).2).1 e oe pins s σ H Z I z
section
variable {X:Cx}{E:XK}{Γ Γl Γ':List Cl}{k:Nat}{CS:Addr}{ps:List Str}{F:List D->R D}{nA:Nat}{x xc n:Str}{p pos pos' pc hpos tpos:Pos}{e:Expr}{es:List Expr}{u:Tn->R (List D)}{c:Rc}{i j:Nat}{b₀:Stmt}{suite:List Stmt}{g:Str->Option Int}
end
section
variable {X:Cx}{E:XK}{Γ:List Cl}{pos:Pos}{x:Str}
def z0d {z:Str}(h:∃t,X.mg x=some (.str z t))(hg:autoParam (Gl X x) au8._auto_1)(hd:autoParam ((x==("__debug__":Str))=false) au1._auto_1):ME X E Γ (.Name x pos) (eC (.str z)) .fresh:=by
 obtain⟨t,ht⟩:=h;exact J5 (wu (v:=.str z) hg ht ⟨t,rfl⟩ hd) fun _=>⟨rfl,rfl⟩
def xV {i:Int}(h:∃t,X.mg x=some (.int i t))(hg:autoParam (Gl X x) au8._auto_1)(hd:autoParam ((x==("__debug__":Str))=false) au1._auto_1):ME X E Γ (.Name x pos) (eC (.int i)) .fresh:=by
 obtain⟨t,ht⟩:=h;exact J5 (wu (v:=.int i) hg ht ⟨t,rfl⟩ hd) fun _=>⟨rfl,rfl⟩
end
section
variable {X:Cx}{E:XK}{Γ Γl:List Cl}{pos p0:Pos}{ix:Expr}{ti:Tn->R D}{c:Rc}
end
section
variable {X:Cx}{E:XK}{Γ Γl Γ':List Cl}{k:Nat}{ps:List Str}{F:List D->R D}{nA:Nat}{x xc n:Str}{p pos pos' pc hpos tpos:Pos}{e:Expr}{es:List Expr}{u:Tn->R (List D)}{c:Rc}{i j:Nat}{b₀:Stmt}{suite:List Stmt}{g:Str->Option Int}
end
section
variable {X:Cx}{E:XK}{Γ Γl:List Cl}{pos:Pos}
end
def PST (X:Cx)(st:Stmt)(t:TS):Prop:=
 ∀(pins:List (Addr×Obj)) (s:Shared) (σ:St) (H:Hp) (D:Ends),0<s.toks->Inv X pins σ H s->t D σ H->wpAny (model X.prog X.w) X.A (exec st X.env) (SP X pins D) X.xe s
def PS.tt {X:Cx}{st:Stmt}{t:TS}(h:PS X st t):PST X st t:=fun pins s σ H D _ I=>h pins s σ H D I
def PSs.tt {X:Cx}{st:List Stmt}{t:TS}(h:PSs X st t):z5K X st t:=fun pins s σ H D _ I=>h pins s σ H D I
section
variable {X:Cx}{st:Stmt}{rest:List Stmt}{t u:TS}
end
section
variable {X:Cx}{tg:Expr}
end
def MST (X:Cx)(E:XK)(Γl Γ:List Cl)(s:Stmt)(t:Tn->R Fl)(Γ':List Cl):Prop:=
 ∃ts,PST X s ts/\∀B σ H τ Z,SOk X.K Γ B H σ τ []->qq X.K E B Γl Γ' Z (t τ)->ts Z σ H
section
variable {X:Cx}{E:XK}{Γ Γ1 Γ2 Γ' Γl:List Cl}{pos:Pos}{e:Expr}{t:Tn->R D}{c:Rc}
def MS.tt {s:Stmt}{t:Tn->R Fl}(h:MS X E Γl Γ s t Γ'):MST X E Γl Γ s t Γ':=by
 obtain⟨ts,p,q⟩:=h;exact⟨ts,p.tt,q⟩
def MSs.tt {s:List Stmt}{t:Tn->R Fl}(h:MSs X E Γl Γ s t Γ'):z6C X E Γl Γ s t Γ':=by
 obtain⟨ts,p,q⟩:=h;exact⟨ts,p.tt,q⟩
end
section
variable {X:Cx}
end
def ZA {K:jJa}{H:Hp}:∀ss:List Str,Reps K H (ss.map D.str) (ss.map V.str) []
 | []=>Reps.nil
 | z::ss=>⟨_,_,[],[],rfl,rfl,⟨rfl,rfl⟩,ZA ss⟩
section
variable {prog:Program}{w:World}{A:Around}{E:Value->Shared->Prop}{s:Shared}
end
section
variable {X:Cx}{E:XK}{Γ:List Cl}{e:Expr}{t:Tn->R D}{c:Rc}{p2 p3 p4 pos:Pos}{j:Nat}
end
section
variable {X:Cx}{E:XK}{Γ Γl:List Cl}{pos:Pos}
end
section
variable {X:Cx}{E:XK}{Γ Γl:List Cl}{pos:Pos}
end
open PySem PySem.Spec PyProof.Rows PySem.W
open PySem.AutoSeq1 (wpAny_loadPart')
section
variable {prog:Program}{w:World}{A:Around}{E:Value->Shared->Prop}{s:Shared}{T:String}{r d:Addr}{n:Nat}{P:Nat->Value->Prop}{OK:Heap->Prop}
end
section
variable {K:jJa}{Γ:List Cl}{B H H1:Hp}{σ:St}{τ:Tn}
end
section
variable {X:Cx}{E:XK}{Γ Γl:List Cl}{pos pos':Pos}
end
def z5Z (X:Cx)(ifs:List Expr)(t:TT):Prop:=
 ∀(pins:List (Addr×Obj)) (s:Shared) (σ:St) (H:Hp) (Q:Bool->Hp->Prop),0<s.toks->Inv X pins σ H s->t σ H Q ->
  wpAny (model X.prog X.w) X.A (forIn ifs true fun c r=>if r=true then do let ok <-isTrue c X.env (eval c X.env);pure (ForInStep.yield ok) else pure (ForInStep.yield r)) (TP X pins σ Q) X.xe s
def MTsT (X:Cx)(E:XK)(Γ:List Cl)(ifs:List Expr)(t:Tn->R Bool):Prop:=
 ∃te,z5Z X ifs te/\∀O σ H τ Q,EOk X.K Γ O H σ τ->postB X.K E H Q (t τ)->te σ H Q
section
variable {X:Cx}{E:XK}{Γ Γ' Γl:List Cl}{pos p:Pos}{e a b:Expr}{t ta tb:Tn->R D}{c ca cb:Rc}{x:Str}{id:String}
def MTsT.pts {e:List Expr}{t:Tn->R Bool}(h:MTsT X E Γ e t):z5Z X e (wpT X.K E Γ t):=by
 obtain⟨te,p,q⟩:=h;rintro pins s σ H Q htk I ⟨O,τ,ok,z⟩;exact p pins s σ H Q htk I (q O σ H τ Q ok z)
end
def Itu (lo k:Int)(n:Nat):It:=⟨fun i _=>i<n,fun i H x H'=>H'=H/\x=.int (lo+(i:Int)*k),fun i _=>n<=i⟩
section
variable {X:Cx}{tg:Expr}
end
def upw (lo k:Int)(n:Nat):List D:=(List.range n).map fun (i:Nat)=>.int (lo+(i:Int)*k)
def ItOk.up {K:jJa}{H:Hp}{lo k:Int}{n:Nat}:ItOk K (Itu lo k n) (L2.upw lo k n) [] H:=by
 refine⟨fun b hb=>(nomatch hb),fun H' tf kp i=>⟨fun d hd=>?_,fun hl=>?_⟩⟩
 ·unfold L2.upw at hd;rw[sV]at hd
  by_cases hi:i<n
  ·rw[pV hi]at hd;have hd:D.int (lo+(i:Int)*k)=d:=jYe hd;subst hd;refine⟨hi,fun y H'' ⟨e2,e3⟩=>?_⟩;subst e2 e3;exact⟨Same.refl _,[],⟨rfl,rfl⟩,fun b hb=>(nomatch hb)⟩
  ·rw[pC (by simp;omega)]at hd;cases hd
 ·have:(L2.upw lo k n).length=n:=by simp[L2.upw]
  show n<=i;omega
section
variable {X:Cx}{E:XK}{Γ:List Cl}{tg:Expr}{u:Tn->R (List D)}{c:Rc}{p pos:Pos}
end
section
variable {X:Cx}{E:XK}{Γ Γl:List Cl}{pos:Pos}
end
end L2
namespace HW
open PySem PySem.W
def qU {α:Type}:List α->List α
 | a::_::r=>a::qU r
 | l=>l
def qu {α:Type}:List α->List α
 | _::b::r=>b::qu r
 | _=>[]
def X5 {α:Type}:∀(l:List α) (k:Nat),(qU l)[k]?=l[2*k]?
 | [],k=>by simp[qU]
 | [a],k=>by cases k<;>simp[qU]
 | a::b::r,0=>by simp[qU]
 | a::b::r,k+1=>by
  have ih:=X5 r k;show (a::qU r)[k+1]?=_;rw[tE,ih,show 2*(k+1)=2*k+1+1 by omega,tE,tE]
def WY {α:Type}:∀(l:List α) (k:Nat),(qu l)[k]?=l[2*k+1]?
 | [],k=>by simp[qu]
 | [a],k=>by simp[qu]
 | a::b::r,0=>by simp[qu]
 | a::b::r,k+1=>by
  have ih:=WY r k;show (b::qu r)[k+1]?=_;rw[tE,ih,show 2*(k+1)+1=2*k+1+1+1 by omega,tE,tE]
def YJ {α:Type}:∀l:List α,(qU l).length<=l.length
 | []=>sL _
 | [_]=>sL _
 | a::b::r=>by show (qU r).length+1<=r.length+1+1;have:=YJ r;omega
def Vs {α:Type}:∀l:List α,(qu l).length<=l.length
 | []=>sL _
 | [_]=>rZ _
 | a::b::r=>by show (qu r).length+1<=r.length+1+1;have:=Vs r;omega
def tr:Nat->List Obj->BT
 | n+1,o::l=>.node o (tr n (qU l)) (tr n (qu l))
 | _,_=>.nil
def Uy:∀(n:Nat) (l:List Obj),l.length<=n->∀i,(tr n l).get i=l[i]?
 | 0,[],_,i=>by simp[tr,BT.get]
 | 0,_::_,h,_=>by cases h
 | n+1,[],_,i=>by simp[tr,BT.get]
 | n+1,o::l,h,i=>by
  have hl:l.length<=n:=by simpa using h
  show (BT.node o (tr n (qU l)) (tr n (qu l))).get i=_;rw[BT.get_node]
  by_cases h0:i=0
  ·subst h0;rfl
  ·rw[if_neg h0]
   by_cases h1:i%2=1
   ·rw[if_pos h1,Uy n _ (rD (YJ l) hl),X5];obtain⟨k,rfl⟩:∃k,i=2*k+1:=⟨i/2,by omega⟩
    rw[show (2*k+1)/2=k by omega,tE]
   ·rw[if_neg h1,Uy n _ (rD (Vs l) hl),WY];obtain⟨k,rfl⟩:∃k,i=2*k+1+1:=⟨i/2-1,by omega⟩
    rw[show (2*k+1+1)/2-1=k by omega,tE]
def z0W (l:List Obj):(tr l.length l).list l.length=l:=by
 unfold BT.list;refine List.ext_getElem? fun i=>?_;rw[sV]
 by_cases h:i<l.length
 ·rw[pV h,Option.map_some,Uy _ _ (sL _),rG h];rfl
 ·rw[pC (by rw[List.length_range];omega),pC (by omega)];rfl
def asT (s:Shared):SharedT:=⟨tr s.heap.objs.toList.length s.heap.objs.toList,s.heap.objs.toList.length,s.heap.life,s.gens,s.drawn,s.toks,s.os⟩
def z0Z (s:Shared):(asT s).abs=s:=by
 obtain⟨⟨⟨l⟩,life⟩,gens,drawn,toks,os⟩:=s;show (⟨⟨((tr l.length l).list l.length).toArray,life⟩,gens,drawn,toks,os⟩:Shared)=_;rw[z0W]
def env0 (p:Program):Env:={ scope:=p.main.scope,locals:=mainNs,globals:=mainNs,cells:=[],code:=.ref 13,frame:=some 14 }
def p0:Pos:=⟨0,0,0,0⟩
def body0 (p:Program):Code:=.body (behindTheImports p) (env0 p)
def runAll (p q:Program)(loose:List Str)(Xt:Shared->Bool){α:Type}(Yf:Shared->α)(n1:Nat)(w:World)(os:OsState):=
 (Fast.tw15667345088766844465 Fast.tw14364793385576792824 p w 11 (some (.ref 6)) 12 ⟨boot_heap w.params,Array.mk [],boot_drawn,boot_toks,os⟩ (topStub p)).bind fun a =>
 (Fast.tw14374325043358763698 Fast.tw14364793385576792824 p w 11 (some (.ref 6)) 1 1 a.1 (blockOf (behindTheImports p) (env0 p) (body0 p) p0 [topFrame p0])).bind fun b =>
 (Fast.tw10110043849684766642 Fast.tw14364793385576792824 p w 11 (some (.ref 6)) 1 n1 (asT b.2.1) (piecesOf (behindTheImports p) (env0 p) (body0 p) b.2.2.2 [topFrame p0])).bind fun c =>
 (Fast.tw14082659384304107361 Fast.tw14364793385576792824 p w 11 (some (.ref 6)) 2 c.2.1.abs ⟨doneF .next,body0 p,c.2.2.2,[topFrame p0]⟩).map fun s =>
  (a.2,(b.1,b.2.2.1),(c.1,c.2.2.1),(staticsOk (Fast.tw5923862056798008813 p.main.body) (boot_heap w.params) s.heap&&namesBound p s.heap&&gensDone s&&laidKept (boot_heap w.params) s.heap),Fast.tw4187177175401517315 q loose (Fast.tw5923862056798008813 p.main.body) Xt true s,Yf s)
section
variable (p q:Program)(loose:List Str)(Xt:Shared->Bool){α:Type}(Yf:Shared->α)(Ya:World->α)(n1:Nat)
def Pa:=∀w os,(runAll p q loose Xt Yf n1 w os).map (fun r=>(r.1,r.2.1,r.2.2.1,r.2.2.2.1,r.2.2.2.2.2))=some (⟨Fast.tw11892475500146522536 Fast.tw14364793385576792824 (body0 p),body0 p,p0,[topFrame p0]⟩,(.next,body0 p),(.next,body0 p),true,Ya w)
def Pz {β:Type}(g:_->β)(b:β):=∀w os,(runAll p q loose Xt Yf n1 w os).map (fun r=>g r.2.2.2.2.1)=some b
end
def left_of {p q:Program}{loose:List Str}{Xt:Shared->Bool}{α:Type}{Yf:Shared->α}{Ya:World->α}{n1 N:Nat}
  (e:opening p=plainProg p.main.scope.names) (hN:Nat.ble 600 N=true) (f:∀s,fenceModules? p s=some s)
  (size:∀w:World,((boot_heap w.params).isNs mainGlobals&&(Array.mk []:Array GenState).size==0,(boot_heap w.params).objs.size,(boot_heap w.params).nsMap mainGlobals "__annotations__")=(true,11,some (.ref 6)))
  (le:Nat.ble (12+(1+(n1+2))) N=true)
  (ha:Pa p q loose Xt Yf Ya n1)(hb:Pz p q loose Xt Yf n1 (fun r=>(r.1,r.2.1)) (PyProof.Rows.expectedOf q,bltViewBooted))(hc:Pz p q loose Xt Yf n1 (·.2.2.1) true)(hd:Pz p q loose Xt Yf n1 (fun r=>(r.2.2.2.1,r.2.2.2.2.1)) (true,pinGoodD (PyProof.Rows.drecsOf q)))(he:Pz p q loose Xt Yf n1 (·.2.2.2.2.2.1) (PyProof.Rows.plainGoodE q (looseW q loose)))(hf:Pz p q loose Xt Yf n1 (·.2.2.2.2.2.2) (PyProof.Rows.plainGoodD q loose,wideGood q,clsGoodW q loose)):LeftO p q loose Xt Yf Ya N:=fun w=>by
 obtain⟨⟨hp,gn,dr,tk,os⟩,op,same⟩:=hR.mp (boot_open e hN f w);simp only[Prod.mk.injEq]at same;obtain⟨rfl,rfl,rfl,rfl⟩:=same;have sz:=size w;simp only[Prod.mk.injEq]at sz;obtain⟨⟨r1,r2,r3,r4,⟨s1,s2,s3,s4,s5,s6,s7⟩,r6⟩,hr,e1⟩:=hR.mp (ha w os);have e2:=hb w os;have e3:=hc w os;have e4:=hd w os;have e5:=he w os;have e6:=hf w os;rw[hr]at e2 e3 e4 e5 e6;simp only[Option.map_some,Option.some.injEq,Prod.mk.injEq]at e1 e2 e3 e4 e5 e6;obtain⟨rfl,rfl,rfl,rfl,rfl⟩:=e1;obtain⟨rfl,rfl⟩:=e2;obtain rfl:=e3;obtain⟨rfl,rfl⟩:=e4;obtain rfl:=e5;subst e6;unfold runAll at hr;rw[<-Fast.te15667345088766844465,<-Fast.te14364793385576792824,<-Fast.te14374325043358763698,<-Fast.te10110043849684766642,<-Fast.te5923862056798008813,<-Fast.te4187177175401517315,<-Fast.te14082659384304107361,<-Fast.te11892475500146522536]at hr;obtain⟨⟨sa,ta⟩,ha,hr⟩:=pZ.mp hr;obtain⟨⟨fb,sb,cb,pb⟩,hb,hr⟩:=pZ.mp hr;obtain⟨⟨fc,sc,cc,pc⟩,hc,hr⟩:=pZ.mp hr;obtain⟨s1,hd,hr⟩:=hR.mp hr;simp only[Prod.mk.injEq]at hr;obtain⟨rfl,⟨rfl,rfl⟩,⟨rfl,rfl⟩,good,seen,told⟩:=hr;dsimp only at hb hc hd;have hc2:=segRun_of hc;rw[z0Z]at hc2;have whole:=piece_app (rest:=[]) hc2 (piece_nil hd);rw[tZ]at whole;have run:=topRun_mono (N-(12+(1+(n1+2)))) _ _ _ _ (go_top ha (piece_block hb whole));have eN:12+(1+(n1+2))+(N-(12+(1+(n1+2))))=N:=by have z:=Nat.le_of_ble_eq_true le;omega
 rw[eN]at run;have ends:topFrom treeTable p w N ⟨boot_heap w.params,Array.mk [],boot_drawn,boot_toks,os⟩=some s1:=by
  show (match (boot_heap w.params).isNs mainGlobals&&(Array.mk []:Array GenState).size==0 with|true=>_|false=>_)=_;rw[sz.1,sz.2.1,sz.2.2];show Option.bind (topRun treeTable p w 11 (some (.ref 6)) N _ _) _=_;rw[run];show (match (_:Bool)with|true=>some s1|false=>none)=_;rw[good]
 have both:openEnds treeTable p w N=some s1:=by unfold openEnds;rw[op];exact ends
 rw[both,Option.map_some,seen,told];rfl
open PySem.Spec PyProof.Rows L2 in
def dfn {K:Frag}{mg:Str->Option Value}{h:Heap}{n:Str}{st:Stmt}{ps:List Str}{a c:Addr}{m:Str}{t:Nat}(X:K.In h)(G:h.Ns mainGlobals mg)
  (hl:∀{kV dc pm:Value} {an:Option Addr} {cd ct:Value} (us:List Value),us.length=ps.length->bindArgs (fnOf n n (defArgs st) (defBody st) (defScope st) .none kV dc pm an cd ct) { pos:=us }=pure (ps.zip us))
  (e:(nsIn K mainGlobals n,K.lookup a,codeIn K (.ref c) n,keepIn K (.ref a))=(some (some (.ref a)),some ⟨.type "function",none,.func (fnOf n n (defArgs st) (defBody st) (defScope st) .none .none .none (.str m t) none (.ref c) .none),#[]⟩,true,true)):DefIn K mg n st ps:=by
 simp only[Prod.mk.injEq]at e;exact KJ X G (fun _ _ _ _ _ _=>hl) e.1 e.2.1 e.2.2.1 e.2.2.2
end HW
namespace L2
open PySem PySem.Spec PyProof.Rows
def atF (j:Nat)(v:V)(t:TE):TE:=fun σ H Q=>σ[j]?=some (some v)/\t σ H Q
def z08 {k:Nat}{p pos:Pos}{j:Nat}
  (F:FnOk X.prog X.w X.K X.mg X.base (cxx X.prog X.w) k f fd ps sp) (hr:Room k X.A) (hj:X.N[j]?=some x) (hv:Vis X.env.scope x) (hk:jJf X.K (.ref f)=true) (hb:Binds X.K fd ps ds) (hd:Vals dvs ds) (hx:vW (cxx X.prog X.w) X E)
  (ha:PA X (e::es) t) (hdb:autoParam ((x==("__debug__":Str))=false) au1._auto_1) (hcb:autoParam ((x==("__classdict__":Str))=false) au1._auto_1) (he:autoParam (starEach (e::es) X.env=(false,eval e X.env)::starEach es X.env) au3._auto_1) (hpl:autoParam ((backTo pos (starEach es X.env)).any (·.1)=false) au3._auto_1):
  PE X (.Call (.Name x p) (e::es) [] pos) (atF j (.ref f) (z05 sp dvs E t)):=by
 intro pins s σ H Q I h0;obtain⟨hσ,h⟩:=h0;refine wpAny_Call_Name_kw (z3y I hj hv hσ ?_ hdb hcb);intro u0 ru0;obtain rfl:u0=Value.ref f:=ru0;refine jJu (h₀:=X.base) I.ok.mod.kin hk (thn (ha pos pins s σ H _ I h) fun us s1 ⟨vs,H1,I1,r,q⟩=>⟨I1.kIn,?_⟩) he hpl;exact z06 F hr hb hd hx I1 r q
section
def Jr {fr:List (Option Nat)}{cnd:Tn->R Bool}(hi:MI X E Γ tg iter it ci)(hcl:c≠.bor)(hd:∀j∈g.slots,(yP fr Γ)[j]?=some .dead){jf:Nat}{vf:V}(hjf:jf∉g.slots):
  ∃wi,PI X tg iter wi/\∀O σ H τ Q,(wN fr σ)[jf]?=some (some vf)->EOk X.K Γ O H σ τ->post X.K E O c H Q (xl fr it g cnd te τ)->UP fr wi (tgG X.K g) (wpT X.K noX (xo (Cl.ofIt ci) (yP fr Γ) g.slots) cnd) (atF jf vf (wpE X.K noX (xo (Cl.ofIt ci) (yP fr Γ) g.slots) te c)) σ H Q:=by
 have hT0:∀σ H Q,(∃O τ,EOk X.K (xo (Cl.ofIt ci) (yP fr Γ) g.slots) O H σ τ/\postB X.K noX H Q (cnd τ))->wpT X.K noX (xo (Cl.ofIt ci) (yP fr Γ) g.slots) cnd σ H Q:=fun _ _ _ h=>h;have hE0:∀(σ:St) H Q,σ[jf]?=some (some vf)->(∃O τ,EOk X.K (xo (Cl.ofIt ci) (yP fr Γ) g.slots) O H σ τ/\post X.K noX O c H Q (te τ))->atF jf vf (wpE X.K noX (xo (Cl.ofIt ci) (yP fr Γ) g.slots) te c) σ H Q:=fun _ _ _ a h=>⟨a,h⟩
 generalize wpT X.K noX (xo (Cl.ofIt ci) (yP fr Γ) g.slots) cnd=TC at hT0 ⊢;generalize atF jf vf (wpE X.K noX (xo (Cl.ofIt ci) (yP fr Γ) g.slots) te c)=TE0 at hE0 ⊢;obtain⟨wi,p,q⟩:=hi;refine⟨wi,p,fun O σ H τ Q hσ ok h=>q O σ H τ _ ok ?_⟩;unfold xl at h;cases hit':it τ with
 | err n=>rw[hit']at h;exact h
 | bad=>rw[hit']at h;exact h
 | ok ds =>
  rw[hit',jYa]at h;refine fun J H1 L s1 hJ hO dd hD=>?_;obtain⟨hLd,hit⟩:=hJ;generalize hF:ya g.asg cnd te (vz fr τ)=F at h;cases hcL:yQ F ds with
  | err n=>exact absurd hcL (qy (fun d n z=>by rw[<-hF]at z;exact YZ z) ds n)
  | bad=>rw[hcL]at h;exact h.elim
  | ok ys =>
   rw[hcL,jYa]at h
   by_cases hz:ys.length<=sizeLine
   ·rw[if_pos hz]at h;have hD0:H dd=none:=s1.non hD;have WA:(wN fr σ).length=(yP fr Γ).length:=by simp[wN,yP]
    have lenT:(vz fr τ).length=(yP fr Γ).length:=by simp[vz,yP]
    obtain⟨W,hW⟩:∃W:Nat->Nat->List V->St->Hp->Prop,∀i m ysv τ' H2,W i m ysv τ' H2↔(m=ds.length-i/\i<=ds.length/\H2 dd=some (.lst ysv)/\(∀b,b≠dd->H1 b≠none->H2 b=H1 b)/\τ'.length=(yP fr Γ).length/\(∀j,j∉g.slots->τ'[j]?=(wN fr σ)[j]?) /\
     ∃dn rs Ly,ys=dn++rs/\yQ F (ds.drop i)=.ok rs/\Reps X.K H2 dn ysv Ly/\dd∉Ly/\RcOk c O H1 Ly):=⟨_,fun _ _ _ _ _=>Iff.rfl⟩
    refine⟨W,⟨ds.length,(hW _ _ _ _ _).mpr ⟨by simp,rZ _,zT,fun b hb _=>y8 hb,WA,fun _ _=>rfl,[],ys,[],rfl,by simpa using hcL,Reps.nil,by simp,RcOk.nil⟩⟩,?_⟩;intro i m ysv τ' H2 hw0;obtain⟨rfl,hile,hDy,kp,hl',hj',dn,rs,Ly,eys,hrs,rdn,nD,kLy⟩:=(hW _ _ _ _ _).mp hw0;refine⟨hDy,?_⟩;have sH:Same H H2:=fun b o e=>by
     have e1:=s1 b o e;have nb:b≠dd:=yx e hD0;rw[kp b nb (by rw[e1];simp)];exact e1
    have s12:∀b o,H1 b=some o->H2 b=some o:=fun b o e=>by
     rw[kp b (yx e hD) (by rw[e];simp)];exact e
    have okO:EOk X.K Γ (fun a=>O a\/a=dd) H2 σ τ:=by
     refine⟨fun a ha=>?_,fun j k e hk=>?_⟩
     ·rcases ha with ha|ha
      ·exact (ok.same sH).dom a ha
      ·rw[ha,hDy];simp
     ·obtain⟨v,d,L0,a1,a2,a3,a4⟩:=ok.slot j k e hk;refine⟨v,d,L0,a1,a2,a3.same sH,fun z a ha hm=>?_⟩;rcases hm with hm|hm
      ·exact a4 z a ha hm
      ·exact a3.there ha (hm▸hD0)
    have okc:EOk X.K (yP fr Γ) (fun a=>O a\/a=dd) H2 τ' (vz fr τ):=(okO.comp (fr:=fr)).live fun j k e hk=>hj' j fun hm=>by
     rw[hd j hm]at e;exact hk (jYe e).symm
    obtain⟨go,stop⟩:=hit H2 ⟨fun a xs e=>s12 a _ e,fun a o u e=>s12 a _ e⟩ (fun a ha=>kp a (fun z=>hLd a ha (z▸hD)) (hLd a ha)) i
    by_cases hlt:i<ds.length
    ·obtain⟨hgo,hy⟩:=go ds[i] (by simp[hlt]);refine .inr ⟨hgo,fun x H3 y=>?_⟩;obtain⟨s3,L',r',sub⟩:=hy x H3 y;rw[pR hlt]at hrs;obtain⟨o,zs,ho,hzs,ers⟩:=ZM hrs;rw[<-hF]at ho;have ho:=Vc ho;obtain⟨τ1,ha,ho⟩:=uf ho;obtain⟨k,hk,ho⟩:=uf ho;refine z0L (k:=Cl.ofIt ci) (okc.same s3) r' (fun z a ha hm=>?_) hl' lenT ha fun σ1 ok1 hl1 hj1=>?_
     ·have hci:ci≠.bor:=fun w=>by subst w;cases z
      rcases hm with hm|hm
      ·exact hO hci a (sub a ha) hm
      ·exact hLd a (sub a ha) (hm▸hD)
     ·refine hT0 _ _ _ ⟨_,τ1,ok1,?_⟩;rw[hk];refine fun H5 s5=>?_;have s25:=s3.trans s5;cases k with
      | true =>
       rw[if_pos rfl]at ho;dsimp only;rw[if_pos rfl];obtain⟨yd,hyd,ho⟩:=uf ho;cases ho;refine hE0 _ _ _ (((hj1 jf hjf).trans (hj' jf hjf)).trans hσ) ⟨_,τ1,ok1.same s5,?_⟩;rw[hyd];refine fun yv H6 Lw s6 r6 k6=>?_;have s26:=s25.trans s6;have hD6:H6 dd=some (.lst ysv):=s26 dd _ hDy;have hlen:ysv.length=dn.length:=rdn.length;have nDw:dd∉Lw:=fun hm=>by
        cases c with
        | fresh=>have:=k6.2 dd hm;rw[s25 dd _ hDy]at this;cases this
        | shr=>exact k6 dd hm (.inr rfl)
        | bor=>exact hcl rfl
       have mu:(∃vs,H6 dd=some (.lst vs))\/∃kvs,H6 dd=some (.dK kvs):=.inl ⟨_,hD6⟩;refine⟨hD6,?_,ds.length-(i+1),by lia,(hW _ _ _ _ _).mpr ⟨rfl,hlt,zT,fun b hb hn=>?_,by rw[hl1];exact hl',fun j hj=>(hj1 j hj).trans (hj' j hj),dn++[yd],zs,Ly++Lw,?_,hzs,?_,?_,?_⟩⟩
       ·rw[eys,ers,tH,tH]at hz;simp only[Option.toList,pK]at hz;lia
       ·rw[y8 hb,<-kp b hb hn];exact s26.at (by rw[kp b hb hn];exact hn)
       ·rw[eys,ers,sF];rfl
       ·have:=Reps.append ((rdn.same s26).upd (o:=.lst (ysv++[yv])) mu nD) (Reps.cons (r6.upd (o:=.lst (ysv++[yv])) mu nDw) Reps.nil);rw[tZ]at this;exact this
       ·intro hm;rcases sC.mp hm with z|z
        ·exact nD z
        ·exact nDw z
       ·cases c with
        | fresh =>
         refine⟨sQ.mpr ⟨kLy.1,k6.1,fun a ha b hb z=>?_⟩,fun a ha=>?_⟩
         ·subst z;have h2:=rdn.there ha;have h5:=k6.2 a hb;exact h2 (s25.non h5)
         ·rcases sC.mp ha with z|z
          ·exact kLy.2 a z
          ·have h5:=k6.2 a z;have h2:H2 a=none:=s25.non h5;cases e1:H1 a with
           | none=>rfl
           | some o=>rw[s12 a o e1]at h2;cases h2
        | shr =>
         intro a ha;rcases sC.mp ha with z|z
         ·exact kLy a z
         ·exact fun w=>k6 a z (.inl w)
        | bor=>exact absurd rfl hcl
      | false =>
       rw[if_neg sJ]at ho;dsimp only;rw[if_neg sJ];cases ho;refine⟨ds.length-(i+1),by lia,(hW _ _ _ _ _).mpr ⟨rfl,hlt,s25 dd _ hDy,fun b hb hn=>?_,by rw[hl1];exact hl',fun j hj=>(hj1 j hj).trans (hj' j hj),dn,zs,Ly,?_,hzs,rdn.same s25,nD,kLy⟩⟩
       ·rw[<-kp b hb hn];exact s25.at (by rw[kp b hb hn];exact hn)
       ·rw[eys,ers];rfl
    ·have e:i=ds.length:=by lia
     subst e;rw[List.drop_length]at hrs;cases hrs;rw[tZ]at eys;subst eys;refine .inl ⟨stop (sL _),h (.ref dd) H2 (dd::Ly) sH ⟨dd,ysv,Ly,rfl,hDy,rfl,rdn⟩ ?_⟩;cases c with
     | fresh =>
      refine⟨rC.mpr ⟨nD,kLy.1⟩,fun a ha=>?_⟩;rcases sI.mp ha with z|z
      ·rw[z];exact hD0
      ·exact s1.non (kLy.2 a z)
     | shr =>
      intro a ha;rcases sI.mp ha with z|z
      ·rw[z];exact fun w=>ok.dom dd w hD0
      ·exact kLy a z
     | bor=>exact absurd rfl hcl
   ·rw[if_neg hz]at h;exact h.elim
def MEF (X:Cx)(E:XK)(Γ:List Cl)(j:Nat)(v:V)(e:Expr)(t:Tn->R D)(c:Rc):Prop:=
 ∃te,PE X e te/\∀O σ H τ Q,σ[j]?=some (some v)->EOk X.K Γ O H σ τ->post X.K E O c H Q (t τ)->te σ H Q
def MEF.pe {j:Nat}(h:MEF X E Γ j v e t c):PE X e (atF j v (wpE X.K E Γ t c)):=by
 obtain⟨te,p,q⟩:=h;rintro pins s σ H Q I ⟨hσ,O,τ,ok,z⟩;exact p pins s σ H Q I (q O σ H τ Q hσ ok z)
def uq {j k n:Nat}{p:Pos}(O:Own X.prog X.w X.K X.mg X.base g k ps (spM X.K F n))(hf:X.mg g=some (.ref f))(hr:Room k X.A)(hj:X.N[j]?=some x)(hv:Vis X.env.scope x)(hx:vW (cxx X.prog X.w) X E)(ha:MA X E Γ (e::es) u c)(hl:autoParam ((e::es).length=n) au3._auto_1)
  (hdb:autoParam ((x==("__debug__":Str))=false) au1._auto_1) (hcb:autoParam ((x==("__classdict__":Str))=false) au1._auto_1) (he:autoParam (starEach (e::es) X.env=(false,eval e X.env)::starEach es X.env) au3._auto_1) (hpl:autoParam ((backTo pos (starEach es X.env)).any (·.1)=false) au3._auto_1):MEF X E Γ j (.ref f) (.Call (.Name x p) (e::es) [] pos) (eL F u) .fresh:=by
 obtain⟨hlen,ta,pa,q⟩:=ha;obtain⟨f',fd,Fn,hm,hk,hb⟩:=O.ex;rw[hf]at hm;cases hm;refine⟨_,z08 Fn hr hj hv hk hb .nil hx pa hdb hcb he hpl,fun O' σ H τ Q hσ ok h=>⟨hσ,q O' σ H τ _ ok ?_⟩⟩;unfold eL at h;cases hu:u τ with
 | ok ds =>
  rw[hu,jYa]at h;refine fun vs H1 L s1 r1 _=>?_;have hv:(vs++[]).length=n:=by rw[tZ,r1.length,hlen τ ds hu];exact hl
  refine⟨hv,ds,L,by rw[tZ];exact r1,?_⟩;have h1:=h.same s1;cases hF:F ds with
  | ok d=>rw[hF]at h1;exact h1
  | err n=>rw[hF]at h1;exact h1
  | bad=>rw[hF]at h1;exact h1
 | err n=>rw[hu]at h;exact h
 | bad=>rw[hu]at h;exact h
def qx {fr:List (Option Nat)}{cnd:Tn->R Bool}{j jf:Nat}(hc:X.calm=true)(S:CompScope X N' fr scope)(hi:MI X E Γ tg iter it ci)
  (hg:∀s₃ H₃ fp pins,MG (xm X scope N' s₃ H₃ fp pins) tg g) (ht:∀s₃ H₃ fp pins,MTs (xm X scope N' s₃ H₃ fp pins) noX (xo (Cl.ofIt ci) (yP fr Γ) g.slots) ifs cnd)
  (he:∀s₃ H₃ fp pins,MEF (xm X scope N' s₃ H₃ fp pins) noX (xo (Cl.ofIt ci) (yP fr Γ) g.slots) jf vf elt te c) (hcl:c≠.bor) (hd:∀j∈g.slots,(yP fr Γ)[j]?=some .dead) (hjf:jf∉g.slots) (hfr:fr[jf]?=some (some j))
  (hs:autoParam (∀x,foldedSetIterable iter X.env x=pure x) au2._auto_1):MEF X E Γ j vf (.ListComp elt [⟨tg,iter,ifs,0⟩] scope pos) (xl fr it g cnd te) c:=by
 obtain⟨wi,p,q⟩:=Jr (cnd:=cnd) (te:=te) (vf:=vf) hi hcl hd hjf;refine⟨_,QF hc S p (fun s₃ H₃ fp pins=>(hg s₃ H₃ fp pins).pg) (fun s₃ H₃ fp pins=>(ht s₃ H₃ fp pins).pts) (fun s₃ H₃ fp pins=>(he s₃ H₃ fp pins).pe) hs,fun O σ H τ Q hσ ok h=>q O σ H τ Q ?_ ok h⟩;unfold wN;rw[sV,hfr];show some ((σ[j]?).join)=_;rw[hσ]
 rfl
def vR {id:String}{x:Str}{r:List V->Hp->VK->Prop}{g:List D->R D}{j:Nat}{v:V}{e:Expr}{t:Tn->R D}{ca:Rc}{p:Pos}(hc:CallR X (.builtin id) r)(hB:ClB X.K r g)(hn:we g)(hg:Gl X x)(hm:X.mg x=none)(hv:bootBuiltins x=some (.builtin id))(ha:MEF X E Γ j v e t ca)(hx:autoParam (x≠"__name__") au1._auto_1)(hdb:autoParam ((x==("__debug__":Str))=false) au1._auto_1)
  (he:autoParam (starEach [e] X.env=(false,eval e X.env)::starEach [] X.env) au3._auto_1) (hpl:autoParam ((backTo pos (starEach [] X.env)).any (·.1)=false) au3._auto_1):MEF X E Γ j v (.Call (.Name x p) [e] [] pos) (eL g (z8 t zb)) .fresh:=by
 obtain⟨te,p',q⟩:=ha;refine⟨_,uE hc hg hm hv (yG p' vY he) hx hdb he hpl,fun O σ H τ Q hσ ok h=>q O σ H τ _ hσ ok ?_⟩;unfold eL z8 zb at h;cases ht:t τ with
 | ok d =>
  rw[ht,jYa,jYa,jYa]at h;refine fun w H1 L s1 r1 _=>?_;cases hg:g [d]with
  | ok d' =>
   rw[hg]at h;exact hB H1 [w] [d] L Q (by have:=Reps.cons r1 Reps.nil;rwa [tZ]at this) ⟨d',hg,fun v H' L s r n1 n2=>h v H' L (s1.trans s) r ⟨n1,fun a ha=>s1.non (n2 a ha)⟩⟩
  | err n=>exact absurd hg (hn _ _)
  | bad=>rw[hg]at h;exact h.elim
 | err n=>rw[ht]at h;exact h
 | bad=>rw[ht]at h;exact h
def z1h (X:Cx)(E:XK)(Γl Γ:List Cl)(j:Nat)(v:V)(s:List Stmt)(t:Tn->R Fl)(Γ':List Cl):Prop:=
 ∃ts,PSs X s ts/\∀B σ H τ Z,σ[j]?=some (some v)->SOk X.K Γ B H σ τ []->qq X.K E B Γl Γ' Z (t τ)->ts Z σ H
def jB {j:Nat}(h:MEF X E Γ j v e t .fresh):z1h X E Γl Γ j v [.Return (some e) pos] (zp t) Γ':=by
 obtain⟨te,p,q⟩:=h;refine⟨z4z te,jm (Zn p),fun B σ H τ Z hσ ok h=>?_⟩;obtain⟨O,eo,_⟩:=ok.eok;refine q O σ H τ _ hσ eo ?_;unfold zp at h;cases ht:t τ with
 | ok d =>
  rw[ht,jYa]at h;exact fun v H' L s r k=>h v H' L (ok.ext.trans s) r k.1 fun a ha=>ok.ext.non (k.2 a ha)
 | err n=>rw[ht]at h;exact fun C H' e s=>h C H' e (ok.ext.trans s)
 | bad=>rw[ht]at h;exact h
def Yk {Γl Γ':List Cl}{j:Nat}{v:V}{k:Expr}{u:Tn->R Bool}{sa rest:List Stmt}{d:D}{t2:Tn->R Fl}(hk:MT X E Γ k u)(ha:MSs X E Γl Γ sa (zp (eC d)) Γ')(hr:z1h X E Γl Γ j v rest t2 Γ'):z1h X E Γl Γ j v (.If k sa [] pos::rest) (zh (sIf u (zp (eC d)) zm) t2) Γ':=by
 obtain⟨te,p,q⟩:=hk;obtain⟨ts1,p1,q1⟩:=ha;obtain⟨ts2,p2,q2⟩:=hr;refine⟨z3M (z3d te ts1 K3) ts2,jK (Qd p p1 Zf) p2,fun B σ H τ Z hσ ok h=>?_⟩;obtain⟨O,eo,_⟩:=ok.eok;refine q O σ H τ _ eo ?_;unfold zh sIf at h;cases ht:u τ with
 | ok x =>
  rw[ht,jYa]at h;refine fun H1 s1=>?_;cases x with
  | true =>
   rw[if_pos rfl]at h ⊢;exact q1 B σ H1 τ _ (ok.same s1) h
  | false =>
   rw[if_neg sJ]at h ⊢;exact q2 B σ H1 τ Z hσ (ok.same s1) h
 | err n=>rw[ht]at h;exact fun C H' e s=>h C H' e (ok.ext.trans s)
 | bad=>rw[ht]at h;exact h
end
def spF (K:jJa)(F:List D->R D)(n:Nat)(v:V):Sp:=fun vs H Q E=>∃ws,vs=ws++[v]/\ws.length=n/\∃ds L,Reps K H ds ws L/\post K E (fun _=>False) .fresh H Q (F ds)
def U9 (h:ws.length<N.length):start N (ws++[v])=(start N ws).set ws.length (some v):=by
 unfold start;obtain⟨m,hm⟩:∃m,N.length-ws.length=m+1:=⟨N.length-ws.length-1,by lia⟩
 have e:N.length-(ws++[v]).length=m:=by rw[tH,pK];lia
 rw[hm,e,rA,sA,sF];have l:(ws.map some).length=ws.length:=tU some;rw[List.set_append_right _ _ (by rw[l];exact sL _),l,Nat.sub_self]
 rfl
section
variable {P:Program}{w:World}{K:jJa}{mg:Str->Option Value}{base:Heap}{N:List Str}{x:Str}{st:Stmt}{ps:List Str}{t:Tn->R Fl}{k n:Nat}{v:V}{Γ':List Cl}
def DefIn.mirF (Df:DefIn K mg x st ps)(S:FnScope N ps (defScope st))(hn:ps.length<=N.length)(hps:n+1=ps.length)
  (hbody:∀(f:Addr) (cdv:Value) (A:Around) (outer:List Env) (s:Shared) (H:Hp) (E:XK),Room k (A.deeper (envOfC x (defScope st) s.heap.objs.size f cdv)) ->
   z1h (vp (cxx P w) P w K mg base N x (defScope st) f cdv A outer s H E) E [] (qd N.length n) n v (defBody st) t Γ'):Own P w K mg base x (k+1) ps (spF K (zr N.length t) n v):=by
 refine Df.own S (fun vs H Q E h=>?_) fun f cdv A outer s H vs Q E hr h=>?_
 ·obtain⟨ws,rfl,hl,_⟩:=h;rw[tH,hl];exact hps
 obtain⟨ws,rfl,hl,ds,L,r,h⟩:=h;obtain⟨ts,p,q⟩:=hbody f cdv A outer s H E hr;have hlt:ws.length<N.length:=by lia
 have ok:=SOk.start (N:=N) r (by lia);rw[hl]at ok;have hdead:(qd N.length n)[n]?=some .dead:=by
  unfold qd;rw[rM (by rw[sW];exact sL _),sW,Nat.sub_self,rQ,if_pos (by lia)]
 refine⟨ts,p,?_⟩;rw[U9 hlt,hl];refine q H _ H _ _ ?_ (ok.deadPut hdead) ?_
 ·rw[sP (by unfold start;rw[tH,tU,sW];lia)]
 unfold zr at h;cases ht:t (ds.map some++List.replicate (N.length-ds.length) none)with
 | ok f =>
  rw[ht]at h;cases f with
  | nx τ'=>exact fun σ' H' ok'=>h .non H' [] ok'.ext ⟨rfl,rfl⟩ RcOk.nil
  | rt d=>exact fun v H' L s r n1 n2=>h v H' L s r ⟨n1,n2⟩
  | bk τ'=>exact h.elim
  | ct τ'=>exact h.elim
 | err n=>rw[ht]at h;exact fun C H' e s=>h C H' e s
 | bad=>rw[ht]at h;exact h.elim
end
section
variable {X:Cx}{E:XK}{Γ:List Cl}{pos p:Pos}{e:Expr}{es:List Expr}{t:Tn->R D}{u:Tn->R (List D)}{ca cb c:Rc}{v:V}
def MAG (X:Cx)(E:XK)(Γ:List Cl)(v:V)(es:List Expr)(t:Tn->R (List D))(c:Rc):Prop:=
 (∀τ ds,t τ=.ok ds->ds.length+1=es.length)/\∃ta,PA X es ta/\∀O σ H τ Q,EOk X.K Γ O H σ τ->postL X.K E O c H (fun ws H'=>Q (ws++[v]) H') (t τ)->ta σ H Q
def Kx (hg:Gl X g)(hm:X.mg g=some (.ref f))(hd:autoParam ((g==("__debug__":Str))=false) au1._auto_1)(hs:autoParam (starEach [.Name g p] X.env=(false,eval (.Name g p) X.env)::starEach [] X.env) au3._auto_1):MAG X E Γ (.ref f) [.Name g p] zb .fresh:=
 ⟨fun τ ds h=>by cases h;rfl,_,yG (wu (v:=.ref f) hg hm rfl hd) vY hs,fun O σ H τ Q ok h=>h [] H [] (Same.refl H) Reps.nil RcOk.nil⟩
def Yb (h:ME X E Γ e t ca)(r:MAG X E Γ v es u cb)(hs:autoParam (starEach (e::es) X.env=(false,eval e X.env)::starEach es X.env) au3._auto_1):MAG X E Γ v (e::es) (z8 t u) (Rc.both ca cb):=by
 obtain⟨te,p1,q1⟩:=h;obtain⟨hl,ta,p2,q2⟩:=r;refine⟨fun τ ds h=>?_,z0y te ta,yG p1 p2 hs,fun O σ H τ Q ok h=>?_⟩
 ·unfold z8 at h;cases h1:t τ with
  | ok d =>
   rw[h1,jYa]at h;cases h2:u τ with
   | ok xs =>
    rw[h2,jYa]at h;cases h;rw[tF,tF,hl τ xs h2]
   | err n=>rw[h2]at h;cases h
   | bad=>rw[h2]at h;cases h
  | err n=>rw[h1]at h;cases h
  | bad=>rw[h1]at h;cases h
 ·unfold z8 at h;refine q1 O σ H τ _ ok ?_;cases h1:t τ with
  | ok d =>
   rw[h1,jYa]at h;refine fun v H1 L1 s1 r1 k1=>q2 O σ H1 τ _ (ok.same s1) ?_;cases h2:u τ with
   | ok xs =>
    rw[h2,jYa]at h;exact fun vs H2 L2 s2 r2 k2=>h (v::vs) H2 (L1++L2) (s1.trans s2) (Reps.cons (r1.same s2) r2) (RcOk.append ok.dom s1 r1 k1 k2)
   | err n=>rw[h2]at h;exact fun C H' e s'=>h C H' e (s1.trans s')
   | bad=>rw[h2]at h;exact h
  | err n=>rw[h1]at h;exact h
  | bad=>rw[h1]at h;exact h
def z0Q {k n:Nat}(O:Own X.prog X.w X.K X.mg X.base x k ps (spF X.K F n v))(hr:Room k X.A)(hg:Gl X x)(hx:vW (cxx X.prog X.w) X E)(ha:MAG X E Γ v (e::es) u c)(hl:autoParam ((e::es).length=n+1) au3._auto_1)(hdb:autoParam ((x==("__debug__":Str))=false) au1._auto_1)
  (he:autoParam (starEach (e::es) X.env=(false,eval e X.env)::starEach es X.env) au3._auto_1) (hpl:autoParam ((backTo pos (starEach es X.env)).any (·.1)=false) au3._auto_1):ME X E Γ (.Call (.Name x p) (e::es) [] pos) (eL F u) .fresh:=by
 obtain⟨hlen,ta,pa,q⟩:=ha;refine⟨_,Uq O hr hg hx pa hdb he hpl,fun O' σ H τ Q ok h=>q O' σ H τ _ ok ?_⟩;unfold eL at h;cases hu:u τ with
 | ok ds =>
  rw[hu,jYa]at h;refine fun vs H1 L s1 r1 _=>?_;have hv:vs.length=n:=by have:=hlen τ ds hu;rw[r1.length];lia
  refine⟨vs,tZ _,hv,ds,L,r1,?_⟩;have h1:=h.same s1;cases hF:F ds with
  | ok d=>rw[hF]at h1;exact h1
  | err n=>rw[hF]at h1;exact h1
  | bad=>rw[hF]at h1;exact h1
 | err n=>rw[hu]at h;exact h
 | bad=>rw[hu]at h;exact h
end
def OwnF (P:Program)(w:World)(K:jJa)(mg:Str->Option Value)(base:Heap)(x:Str)(k:Nat)(ps:List Str)(F:List D->R D)(n:Nat)(g:Str):Prop:=∃f,mg g=some (.ref f)/\Own P w K mg base x k ps (spF K F n (.ref f))
def OwnF.mono {P:Program}{w:World}{K:jJa}{mg:Str->Option Value}{base:Heap}{x:Str}{j k:Nat}{ps:List Str}{F:List D->R D}{n:Nat}{g:Str}(O:OwnF P w K mg base x j ps F n g)(h:j<=k):OwnF P w K mg base x k ps F n g:=by
 obtain⟨f,a,b⟩:=O;exact⟨f,a,b.mono h⟩
def vt {k:Nat}{p pg pos:Pos}(O:OwnF X.prog X.w X.K X.mg X.base x k ps F 3 g)(hr:Room k X.A)(hg:Gl X x)(hgg:Gl X g)(hx:vW (cxx X.prog X.w) X E)(h1:ME X E Γ e1 t1 c1)(h2:ME X E Γ e2 t2 c2)(h3:ME X E Γ e3 t3 c3)
  (hdb:autoParam ((x==("__debug__":Str))=false) au1._auto_1) (hdg:autoParam ((g==("__debug__":Str))=false) au1._auto_1) (s1:autoParam (starEach [e1,e2,e3,.Name g pg] X.env=(false,eval e1 X.env)::starEach [e2,e3,.Name g pg] X.env) au3._auto_1) (s2:autoParam (starEach [e2,e3,.Name g pg] X.env=(false,eval e2 X.env)::starEach [e3,.Name g pg] X.env) au3._auto_1) (s3:autoParam (starEach [e3,.Name g pg] X.env=(false,eval e3 X.env)::starEach [.Name g pg] X.env) au3._auto_1)
  (hpl:autoParam ((backTo pos (starEach [e2,e3,.Name g pg] X.env)).any (·.1)=false) au3._auto_1):ME X E Γ (.Call (.Name x p) [e1,e2,e3,.Name g pg] [] pos) (eL F (z8 t1 (z8 t2 (z8 t3 zb)))) .fresh:=by
 obtain⟨f,a,b⟩:=O;exact z0Q b hr hg hx (Yb h1 (Yb h2 (Yb h3 (Kx hgg a hdg rfl) s3) s2) s1) rfl hdb s1 hpl
def z10 (h:PE X e te):PE X e (fun σ H Q=>te σ H fun v H1=>∃l xs,v=.ref l/\H1 l=some (.lst xs)/\∀o,Q v (upd H1 l (.frz o (.lst xs)))):=by
 intro pins s σ H Q I hq;refine wpAny_mono (h pins s σ H _ I hq) (fun u s1 hz=>?_) fun _ _ z=>z;obtain⟨v,H1,I1,r,l,xs,rfl,hl,q⟩:=hz;obtain⟨z,its,n,rv,hg⟩:=I1.hok l _ hl;refine⟨.ref l,upd H1 l (.frz { cls:=.type "list",data:=.seq its.toArray n } (.lst xs)),?_,r,q _⟩;exact I1.write (x:=l) (e:=l) (h':=s1.heap) (t':=s1.toks) (by rw[hl];trivial) (.inl rfl) (fun b u _ e=>e) ⟨_,hg⟩ ⟨hg,z,its,n,rv,hg⟩
def U4 (d:D):R D:=match d with
 | .lst ds=>if D.imms ds=true then .ok (.frl ds) else .bad
 | _=>.bad
def Z4 (h:ME X E Γ e t .fresh):ME X E Γ e (eUn U4 t) .fresh:=by
 obtain⟨te,p,q⟩:=h;refine⟨_,z10 p,fun O σ H τ Q ok h=>q O σ H τ _ ok ?_⟩;unfold eUn at h;cases ht:t τ with
 | err n=>rw[ht]at h;exact h
 | bad=>rw[ht]at h;exact h
 | ok d =>
  rw[ht,jYa]at h;intro v H1 L s1 r1 k1;unfold U4 at h;cases d with
  | lst ds =>
   dsimp only at h
   by_cases hi:D.imms ds=true
   ·rw[if_pos hi]at h;obtain⟨l,vs,L',rfl,hl,eL,rs⟩:=r1;have hl0:H l=none:=k1.2 l (by first|(rw[eL.1];exact tN)|(rw[eL];exact tN)|simp[eL]);refine⟨l,vs,rfl,hl,fun o=>?_⟩;have mu:(∃vs,H1 l=some (.lst vs))\/∃kvs,H1 l=some (.dK kvs):=.inl ⟨_,hl⟩;exact h (.ref l) _ [] (fun b o' e=>by rw[y8 (yx e hl0)];exact s1 b o' e) ⟨l,vs,rfl,.inl ⟨o,zT⟩,rfl,hi,(yT rs hi).upd mu (by simp)⟩ RcOk.nil
   ·rw[if_neg hi]at h;exact h.elim
  | _=>exact h.elim
section
def z0N {t b:Addr}{vs ws:List Value}{Q:Value->Shared->Prop}(ht:IsTup s.heap t vs.toArray)(hb:IsTup s.heap b ws.toArray)(hv:vs=[])(h0:Q (.ref b) s):wpAny (model prog w) A (binaryOp .Add (.ref t) (.ref b)) Q E s:=by
 obtain⟨⟨cls,dd,data,sl⟩,ho,hc,n,hd⟩:=id ht;obtain⟨⟨cls2,dd2,data2,sl2⟩,ho2,hc2,n2,hd2⟩:=id hb;simp only at hc hd hc2 hd2;subst hc hd hc2 hd2;exact concat_meets ⟨_,ho,rfl⟩ ⟨_,ho2,rfl⟩ noFill_tuple_add seq_tuple_add jQ2 jQ3 (jQ4 _ _)
   (tuple_addW0 t b vs.toArray ws.toArray n n2 dd dd2 sl sl2 (by simp[hv])) ⟨ho,ho2,h0⟩
end
def z0S (K:jJa):R2:=fun x y H Q=>∃a b ys,x=.ref a/\y=.ref b/\SqT K H a []/\SqT K H b ys/\Q (.ref b) H
def z0X:OpR X (binaryOp .Add) (z0S X.K):=by
 intro pins s σ H x y v u Q I rx ry h;obtain⟨a,b,ys,rfl,rfl,ha,hb,q⟩:=h;cases rx;cases ry;obtain⟨its,r1,p1,_⟩:=I.tuple ha;obtain⟨its2,r2,p2,_⟩:=I.tuple hb;exact z0N p1 p2 (r1.nil_iff.mpr rfl) ⟨.ref b,H,I,rfl,q⟩
def ud:D->D->R D
 | .tup xs,.tup ys=>if D.imms xs=true/\D.imms ys=true/\xs.length+ys.length<=sizeLine then .ok (.tup (xs++ys)) else .bad
 | _,_=>.bad
def uP:OpR X (binaryOp .Add) (fun x y H Q=>z0S X.K x y H Q\/UR X.K x y H Q):=OpR.or z0X QL
def jk:wH ud:=fun x y n h=>by
 unfold ud at h;split at h
 ·split at h<;>cases h
 ·cases h
def je {K:jJa}:OpB K (fun x y H Q=>z0S K x y H Q\/UR K x y H Q) ud:=by
 rintro H x y dx dy Lx Ly Q rx ry ⟨d,hg,q⟩;unfold ud at hg;split at hg
 ·rename_i xs ys;split at hg
  ·rename_i hz;cases hg;obtain⟨a,vs,rfl,ha,rs⟩:=rx;obtain⟨b,ws,rfl,hb,qs⟩:=ry;have rr:=Reps.append (yT rs hz.1) (yT qs hz.2.1)
   by_cases hv:vs=[]
   ·subst hv;exact .inl ⟨a,b,ws,rfl,rfl,ha,hb,q _ H [] (Same.refl H) ⟨b,ws,rfl,hb,rr⟩ (by simp) (fun a ha=>nomatch ha)⟩
   ·refine .inr ⟨a,b,vs,ws,rfl,rfl,ha,hb,hv,by rw[rs.length,qs.length];exact hz.2.2,fun z=>?_,fun _ p hp=>?_⟩
    ·subst z;rw[tZ]at rr;exact q _ H [] (Same.refl H) ⟨a,vs,rfl,ha,rr⟩ (by simp) (fun a ha=>nomatch ha)
    ·exact q _ _ [] (Same.new hp) ⟨p,vs++ws,rfl,SqT.of zT,rr.same (Same.new hp)⟩ (by simp) (fun a ha=>nomatch ha)
  ·cases hg
 ·cases hg
def Vx (l:Addr)(items:Array Value)(n:Nat)(x:Int)(u:Tok)(dd:Option Addr)(sl:Array (Option Value))(h1:(decide (x < -(2 ^ 63))||decide (x>=2 ^ 63))=false)(hc:(items.isEmpty||x==1)=true):
  Meets (Builtin.«tuple.__mul__» ⟨[.ref l,.int x u],[]⟩) (fun _ R s=>s.heap.get? l=some { cls:=.type "tuple",dict:=dd,data:=.seq items n,slots:=sl }/\R (.ok (.ret (Value.ref l))) s):=
 .of_wp fun prog w A R s h=>by
  obtain⟨hp,g,d,tk,os⟩:=s;obtain⟨hl,h⟩:=h;have f1:=AutoSeq1.idx_int
  wp_walk using wpAny_loadPart' hl
  refine wpAny_ite_false (decide_eq_false (by rw[h1];decide)) ?_
  wp_walk using wpAny_loadPart' hl
  exact⟨_,rfl,h⟩
def V5 (l:Addr)(items:Array Value)(n:Nat)(x:Int)(u:Tok)(dd:Option Addr)(sl:Array (Option Value))(h1:(decide (x < -(2 ^ 63))||decide (x>=2 ^ 63))=false)(hc:(items.isEmpty||x==1)=false)(h0:(decide (x<=0)||items.isEmpty)=true):
  Meets (Builtin.«tuple.__mul__» ⟨[.ref l,.int x u],[]⟩) (fun _ R s=>s.heap.get? l=some { cls:=.type "tuple",dict:=dd,data:=.seq items n,slots:=sl }/\R (.ok (.ret (Value.ref s.heap.objs.size))) { s with heap:=s.heap.push { cls:=Value.type "tuple",data:=Data.seq #[] } }):=
 .of_wp fun prog w A R s h=>by
  obtain⟨hp,g,d,tk,os⟩:=s;obtain⟨hl,h⟩:=h;have f1:=AutoSeq1.idx_int
  wp_walk using wpAny_loadPart' hl
  refine wpAny_ite_false (decide_eq_false (by rw[h1];decide)) ?_
  wp_walk using wpAny_loadPart' hl
  exact⟨_,rfl,h⟩
def VB (l:Addr)(items:Array Value)(n:Nat)(x:Int)(u:Tok)(dd:Option Addr)(sl:Array (Option Value))(h1:(decide (x < -(2 ^ 63))||decide (x>=2 ^ 63))=false)(hc:(items.isEmpty||x==1)=false)(h0:(decide (x<=0)||items.isEmpty)=false)(hm:¬(items.size:Int)*x>(2 ^ 63-1)/8)(ht:Builtin.Tuple.tupleTooMany (items.size*x)=false)(hf:((List.replicate x.toNat items).foldl (·++·) #[]).size<=sizeLine):
  Meets (Builtin.«tuple.__mul__» ⟨[.ref l,.int x u],[]⟩) (fun _ R s=>s.heap.get? l=some { cls:=.type "tuple",dict:=dd,data:=.seq items n,slots:=sl }/\R (.ok (.ret (Value.ref s.heap.objs.size))) { s with heap:=s.heap.push { cls:=Value.type "tuple",data:=Data.seq ((List.replicate x.toNat items).foldl (·++·) #[]) } }):=
 .of_wp fun prog w A R s h=>by
  obtain⟨hp,g,d,tk,os⟩:=s;obtain⟨hl,h⟩:=h;have f1:=AutoSeq1.idx_int
  wp_walk using wpAny_loadPart' hl
  refine wpAny_ite_false (decide_eq_false (by rw[h1];decide)) ?_
  wp_walk using wpAny_loadPart' hl
  refine wpAny_ite_false (decide_eq_false hm) ?_
  wp_walk using wpAny_loadPart' hl
  exact⟨_,rfl,h⟩
def jX:fillsNumberSlot (.type "tuple") "mul"=pure false:=
 PySem.fillsNumberSlot_seq (id:="tuple.__mul__") (r:=some (.builtin "tuple.__rmul__")) F.slot_tuple_mul.lookup (by decide +kernel) F.slot_tuple_rmul.lookup (by decide +kernel)
def Wb:seqRepeat? (.type "tuple")=pure (some (.builtin "tuple.__mul__")):=by
 unfold seqRepeat?;rw[PySem.seqSlot_of (T:="tuple") (name:="__mul__") (id:="tuple.__mul__") F.slot_tuple_mul.lookup (by decide +kernel),PySem.seqSlot_of (T:="tuple") (name:="__rmul__") (id:="tuple.__rmul__") F.slot_tuple_rmul.lookup (by decide +kernel)]
 rfl
def ZK (a:Int)(t:Tok)(l:Addr)(items:Array Value)(n:Nat)(dd:Option Addr)(sl:Array (Option Value)):
  Meets (Builtin.«int.__rmul__» ⟨[.int a t,.ref l],[]⟩) (fun _ R s=>s.heap.get? l=some { cls:=.type "tuple",dict:=dd,data:=.seq items n,slots:=sl }/\R (.ok (.ret Value.notImplemented)) s):=
 .of_wp fun prog w A R s h=>by obtain⟨hp,g,d,tk,os⟩:=s;obtain⟨hl,h⟩:=h;wp_walk;exact⟨_,rfl,h⟩
def z0D (K:jJa):R2:=fun x y H Q=>∃a k xs,x=.ref a/\y=.int k/\SqT K H a xs/\-(2 ^ 63)<=k/\k<2 ^ 63/\xs.length*k.toNat<=sizeLine /\
 ((xs=[]\/k=1)->Q (.ref a) H)/\(¬(xs=[]\/k=1)->∀p,H p=none->Q (.ref p) (upd H p (.tup (List.replicate k.toNat xs).flatten)))
def z1k:OpR X (binaryOp .Mult) (z0D X.K):=by
 intro pins s σ H x y v u Q I rx ry h;obtain⟨a,k,xs,rfl,rfl,ha,h1,h2,hz,q1,q2⟩:=h;cases rx;obtain⟨t,rfl⟩:=ry;obtain⟨its,r,p1,_⟩:=I.tuple ha;obtain⟨⟨cls,dd,data,sl⟩,ho,hc,n,hd⟩:=id p1;simp only at hc hd;subst hc hd;have hl:its.length=xs.length:=r.length.symm;have hb:(decide (k < -(2 ^ 63))||decide (k>=2 ^ 63))=false:=by
  rw[decide_eq_false (by omega),decide_eq_false (by omega)];rfl
 have f0:∀m:Nat,List.foldl (fun x1 x2=>x1++x2) #[] (List.replicate m its.toArray)=(List.replicate m its).flatten.toArray:=fun m=>by
  have:=jY its m [];rw[tO]at this;exact this
 have he:its.toArray.isEmpty=decide (its=[]):=by cases its<;>simp
 have go:∀ {Q':Value->Shared->Prop},wpAny (model X.prog X.w) X.A (call (.builtin "tuple.__mul__") [.ref a,.int k t]) Q' X.xe s->wpAny (model X.prog X.w) X.A (binaryOp .Mult (.ref a) (.int k t)) Q' X.xe s:=fun hq =>
  wpAny_binaryOp_repeat_ref (T:="tuple") (U:="int") (by decide) ⟨_,ho,rfl⟩ (fun s'=>typeIs_int s' k t) jX F.fills_int_mul F.slot_int_rmul Wb F.slot_int_index.lookup
   (call_meets F.slot_int_rmul (typeIs_int s k t) F.entry_int_rmul (F.args_int_rmul_2 _ _) (ZK k t a its.toArray n dd sl) ⟨ho,rfl,⟨_,ho,rfl⟩,hq⟩)
 by_cases h0:xs=[]\/k=1
 ·refine go (call_meets F.slot_tuple_mul ⟨_,ho,rfl⟩ F.entry_tuple_mul (F.args_tuple_mul_2 _ _) (Vx a its.toArray n k t dd sl hb ?_) ⟨ho,.ref a,H,I,rfl,q1 h0⟩);rw[he];rcases h0 with z|z
  ·rw[decide_eq_true (r.nil_iff.mpr z)];rfl
  ·rw[z];simp
 ·have hne:its≠[]:=fun z=>h0 (.inl (r.nil_iff.mp z));have hk1:k≠1:=fun z=>h0 (.inr z);have e1:(its.toArray.isEmpty||k==1)=false:=by rw[he,decide_eq_false hne,beq_false_of_ne hk1];rfl
  by_cases hk:k<=0
  ·have ek:k.toNat=0:=by omega
   refine go (call_meets F.slot_tuple_mul ⟨_,ho,rfl⟩ F.entry_tuple_mul (F.args_tuple_mul_2 _ _) (V5 a its.toArray n k t dd sl hb e1 (by rw[decide_eq_true hk];rfl)) ⟨ho,?_⟩);have q:=q2 h0 _ (I.hok.fresh (sL _));rw[ek]at q;refine⟨.ref s.heap.objs.size,_,I.laid (t':=s.toks) (o:=.tup []) (fun b ob q=>jYb _ q) (sL _) ?_,rfl,q⟩;exact⟨rZ _,[],.nil,TupN.new _ _⟩
  ·have hs:its.length*k.toNat<=sizeLine:=by rw[hl];exact hz
   have hsz:(sizeLine:Nat)=16777216:=sizeLine_eq;have hint:((its.toArray.size:Nat):Int)*k<=(sizeLine:Int):=by
    rw[sM,show k=((k.toNat:Nat):Int) by omega]
    exact_mod_cast hs
   have hlen:(List.replicate k.toNat its).flatten.length<=sizeLine:=by rw[W2,Nat.mul_comm];exact hs
   refine go (call_meets F.slot_tuple_mul ⟨_,ho,rfl⟩ F.entry_tuple_mul (F.args_tuple_mul_2 _ _) (VB a its.toArray n k t dd sl hb e1 (by rw[he,decide_eq_false hne,decide_eq_false hk];rfl) (by omega) (decide_eq_false (by omega)) (by rw[f0,sM];exact hlen)) ⟨ho,?_⟩);rw[f0];refine⟨.ref s.heap.objs.size,_,I.laid (t':=s.toks) (o:=.tup (List.replicate k.toNat xs).flatten) (fun b ob q=>jYb _ q) (sL _) ?_,rfl,q2 h0 _ (I.hok.fresh (sL _))⟩;exact⟨by rw[W2,Nat.mul_comm];exact hz,_,r.rep k.toNat,TupN.new _ _⟩
def qY:D->D->R D
 | .tup xs,.int k=>if D.imms xs=true/\-(2 ^ 63)<=k/\k<2 ^ 63/\xs.length*k.toNat<=sizeLine then .ok (.tup (List.replicate k.toNat xs).flatten) else .bad
 | _,_=>.bad
def z0i:wH qY:=fun x y n h=>by
 unfold qY at h;split at h
 ·split at h<;>cases h
 ·cases h
def Q8:OpR X (binaryOp .Mult) (z0D X.K):=z1k
def KR {K:jJa}:OpB K (z0D K) qY:=by
 rintro H x y dx dy Lx Ly Q rx ry ⟨d,hg,q⟩;unfold qY at hg;split at hg
 ·rename_i xs k;split at hg
  ·rename_i hz;cases hg;obtain⟨a,vs,rfl,ha,rs⟩:=rx;have rr:=(yT rs hz.1).rep k.toNat;refine⟨a,k,vs,rfl,ry.1,ha,hz.2.1,hz.2.2.1,by rw[rs.length];exact hz.2.2.2,fun z=>?_,fun _ p hp=>?_⟩
   ·have e:(List.replicate k.toNat vs).flatten=vs:=by
     rcases z with z|z
     ·subst z;simp
     ·subst z;simp
    rw[e]at rr;exact q _ H [] (Same.refl H) ⟨a,vs,rfl,ha,rr⟩ (by simp) (fun a ha=>nomatch ha)
   ·exact q _ _ [] (Same.new hp) ⟨p,_,rfl,SqT.of zT,rr.same (Same.new hp)⟩ (by simp) (fun a ha=>nomatch ha)
  ·cases hg
 ·cases hg
open PySem PySem.Spec PyProof.Rows PySem.Builtin.Str
def z56:V->List V->Hp->VK->Prop:=fun x xs H Q=>∃z y,x=.str z/\xs=[.str y]/\Q (.bl (Txt.startswith z y)) H
def qp:MtR X "str.startswith" z56:=by
 intro pins s σ H x xs v us Q I rx rs h;obtain⟨z,y,rfl,rfl,q⟩:=h;obtain⟨t,rfl⟩:=rx;obtain⟨u,rfl,ru⟩:=uF rs;obtain⟨t2,rfl⟩:=ru;exact SC.startswith ⟨.bl (Txt.startswith z y),H,I,rfl,q⟩
def xE (z:Str):List D->R D
 | [.str y]=>.ok (.bl (Txt.startswith z y))
 | _=>.bad
def jL (z:Str):we (xE z):=fun ds n h=>by
 unfold xE at h;split at h<;>cases h
def jz {K:jJa}:SmB K z56 xE:=by
 rintro H z xs ds L Q rs ⟨d,hg,q⟩;unfold xE at hg;split at hg
 ·rename_i y;cases hg;exact⟨z,y,rfl,Z3 rs,q _ H [] (Same.refl H) ⟨rfl,rfl⟩ (by simp) (fun a ha=>nomatch ha)⟩
 ·cases hg
def z5V:V->List V->Hp->VK->Prop:=fun x xs H Q=>∃z y,x=.str z/\xs=[.str y]/\Q (.bl (Txt.endswith z y)) H
def XZ:MtR X "str.endswith" z5V:=by
 intro pins s σ H x xs v us Q I rx rs h;obtain⟨z,y,rfl,rfl,q⟩:=h;obtain⟨t,rfl⟩:=rx;obtain⟨u,rfl,ru⟩:=uF rs;obtain⟨t2,rfl⟩:=ru;exact SC.endswith ⟨.bl (Txt.endswith z y),H,I,rfl,q⟩
def vM (z:Str):List D->R D
 | [.str y]=>.ok (.bl (Txt.endswith z y))
 | _=>.bad
def U5 (z:Str):we (vM z):=fun ds n h=>by
 unfold vM at h;split at h<;>cases h
def VZ {K:jJa}:SmB K z5V vM:=by
 rintro H z xs ds L Q rs ⟨d,hg,q⟩;unfold vM at hg;split at hg
 ·rename_i y;cases hg;exact⟨z,y,rfl,Z3 rs,q _ H [] (Same.refl H) ⟨rfl,rfl⟩ (by simp) (fun a ha=>nomatch ha)⟩
 ·cases hg
def z0I:V->List V->Hp->VK->Prop:=fun x xs H Q=>∃z y,x=.str z/\xs=[.str y]/\z.length<=sizeLine/\Q (.str (Txt.stripChars z y)) H
def Xe:MtR X "str.strip" z0I:=by
 intro pins s σ H x xs v us Q I rx rs h;obtain⟨z,y,rfl,rfl,hz,q⟩:=h;obtain⟨t,rfl⟩:=rx;obtain⟨u,rfl,ru⟩:=uF rs;obtain⟨t2,rfl⟩:=ru;exact SC.stripChars (fun t' k=>⟨.str (Txt.stripChars z y),H,I.tok _,⟨t',rfl⟩,q⟩) hz
def qA (z:Str):List D->R D
 | [.str y]=>if z.length<=sizeLine then .ok (.str (Txt.stripChars z y)) else .bad
 | _=>.bad
def Q0 (z:Str):we (qA z):=fun ds n h=>by
 unfold qA at h;split at h
 ·split at h<;>cases h
 ·cases h
def Qs {K:jJa}:SmB K z0I qA:=by
 rintro H z xs ds L Q rs ⟨d,hg,q⟩;unfold qA at hg;split at hg
 ·rename_i y;split at hg
  ·rename_i hz;cases hg;exact⟨z,y,rfl,Z3 rs,hz,q _ H [] (Same.refl H) ⟨rfl,rfl⟩ (by simp) (fun a ha=>nomatch ha)⟩
  ·cases hg
 ·cases hg
def z0s:V->List V->Hp->VK->Prop:=fun x xs H Q=>∃z y i,x=.str z/\xs=[.str y,.int i]/\Q (.int (Txt.find3 z y i)) H
def z0O:MtR X "str.find" z0s:=by
 intro pins s σ H x xs v us Q I rx rs h;obtain⟨z,y,i,rfl,rfl,q⟩:=h;obtain⟨t,rfl⟩:=rx;cases rs with
 | cons r1 r2 =>
  obtain⟨t1,rfl⟩:=r1;obtain⟨u,rfl,ru⟩:=uF r2;obtain⟨t2,rfl⟩:=ru;exact SC.find3 ⟨.int (Txt.find3 z y i),H,I.tok _,⟨_,rfl⟩,q⟩
def jb (z:Str):List D->R D
 | [.str y,.int i]=>.ok (.int (Txt.find3 z y i))
 | _=>.bad
def z1l (z:Str):we (jb z):=fun ds n h=>by
 unfold jb at h;split at h<;>cases h
def z1g {K:jJa}:SmB K z0s jb:=by
 rintro H z xs ds L Q rs ⟨d,hg,q⟩;unfold jb at hg;split at hg
 ·rename_i y i;cases hg;have e:xs=[.str y,.int i]:=by
   obtain⟨v,vs',L1,L2,e1,_,r1,v2,vs2,L3,L4,e2,_,r2,r3⟩:=rs;rw[e1,r1.1,e2,r2.1,r3.1]
  exact⟨z,y,i,rfl,e,q _ H [] (Same.refl H) ⟨rfl,rfl⟩ (by simp) (fun a ha=>nomatch ha)⟩
 ·cases hg
def Qm:∀l:List (Str×Tok),Vals ((l.map (·.1)).map V.str) (strValues l)
 | []=>.nil
 | p::l=>.cons ⟨p.2,rfl⟩ (Qm l)
def JP:V->List V->Hp->VK->Prop:=fun x xs H Q=>∃z y,x=.str z/\xs=[.str y]/\(y.length==0)=false/\z.length<=sizeLine/\(Txt.split z y).length<=sizeLine/\∀p,H p=none->Q (.ref p) (upd H p (.lst ((Txt.split z y).map V.str)))
def uB:MtR X "str.split" JP:=by
 intro pins s σ H x xs v us Q I rx rs h;obtain⟨z,y,rfl,rfl,hy,hz,hn,q⟩:=h;obtain⟨t,rfl⟩:=rx;obtain⟨w,rfl,ru⟩:=uF rs;obtain⟨u,rfl⟩:=ru;have key:∀(l:List (Str×Tok)) (k m:Nat),l.map (·.1)=Txt.split z y->∃v H1,Inv X pins σ H1 { s with heap:=s.heap.push { cls:=.type "list",data:=.seq (strValues l).toArray m },toks:=k }/\RelV v (.ref s.heap.objs.size)/\Q v H1:=fun l k m e=>by
  refine⟨.ref s.heap.objs.size,upd H s.heap.objs.size (.lst ((Txt.split z y).map V.str)),I.laid (fun b ob q=>jYb _ q) (sL _) ?_,rfl,q _ (I.hok.fresh (sL _))⟩;refine⟨by rw[tU];exact hn,strValues l,m,?_,jYd _ rfl⟩;rw[<-e];exact Qm l
 cases h1:(decide (z.length<y.length)||decide (strKind z<strKind y))with
 | true=>exact call_meets F.slot_str_split (typeIs_str _ _ _) F.entry_str_split (F.args_str_split_2 _ _) (meets_str_split_cannot_occur z y t u h1) (key [(z,t)] _ _ (if_pos h1).symm)
 | false =>
  cases hf:(occurrences z y 0 z.length (z.length+1)).isEmpty with
  | true=>exact call_meets F.slot_str_split (typeIs_str _ _ _) F.entry_str_split (F.args_str_split_2 _ _) (meets_str_split_not_found z y t u h1 hy hf) (key [(z,t)] _ _ ((if_neg (ne_true_of_eq_false h1)).trans (if_pos hf)).symm)
  | false =>
   have e:Txt.split z y=partsBetween z (occurrences z y 0 z.length (z.length+1)) y.length:=(if_neg (ne_true_of_eq_false h1)).trans (if_neg (ne_true_of_eq_false hf));rw[e]at hn;refine call_meets F.slot_str_split (typeIs_str _ _ _) F.entry_str_split (F.args_str_split_2 _ _) (meets_str_split_sep z y t u h1 hy hf hz hn) ?_;rw[strsFrom_eq];exact key (numbered s.toks _) _ _ ((numbered_texts _ _).trans e.symm)
def xM (z:Str):List D->R D
 | [.str y]=>if (y.length==0)=false/\z.length<=sizeLine/\(Txt.split z y).length<=sizeLine then .ok (.lst ((Txt.split z y).map D.str)) else .bad
 | _=>.bad
def jv (z:Str):we (xM z):=fun ds n h=>by
 unfold xM at h;split at h
 ·split at h<;>cases h
 ·cases h
def jV {K:jJa}:SmB K JP xM:=by
 rintro H z xs ds L Q rs ⟨d,hg,q⟩;unfold xM at hg;split at hg
 ·rename_i y;split at hg
  ·rename_i hz;cases hg;refine⟨z,y,rfl,Z3 rs,hz.1,hz.2.1,hz.2.2,fun p hp=>?_⟩;exact q (.ref p) _ [p] (Same.new hp) ⟨p,(Txt.split z y).map V.str,[],rfl,zT,rfl,ZA _⟩ (by simp) (fun a ha=>by rw[sG.mp ha];exact hp)
  ·cases hg
 ·cases hg
def Zv (z:Str):D->Option D
 | .tup [n,.lst ws]=>if ws.length<sizeLine then some (.tup [n,.lst (ws++[.str z])]) else none
 | _=>none
def qr (z:Str):List D->Option (List D)
 | []=>none
 | [d]=>(Zv z d).map fun e=>[e]
 | d::e::r=>(qr z (e::r)).map (d::·)
def z1D {K:jJa}{H:Hp}{z:Str}{d e:D}{v:V}{L:List Addr}(r:Rep K H d v L)(h:Zv z d=some e)(nd:L.Nodup):∃t n0 b ws,v=.ref t/\SqT K H t [n0,.ref b]/\H b=some (.lst ws)/\ws.length<sizeLine/\b∈L/\Rep K (upd H b (.lst (ws++[.str z]))) e v L:=by
 unfold Zv at h;split at h
 ·rename_i n fs;split at h
  ·rename_i hz;cases h;obtain⟨t,vs,rfl,ht,rs⟩:=r;obtain⟨v0,vs',L1,L2,e1,e2,r1,v1,vs2,L3,L4,e3,e4,r2,r3⟩:=rs;obtain⟨e5,e6⟩:=r3;obtain⟨b,ws,L',e7,hb,e8,qs⟩:=r2;subst e1 e2 e3 e4 e5 e6 e7 e8;have hl:ws.length=fs.length:=qs.length;have mu:(∃vs,H b=some (.lst vs))\/∃kvs,H b=some (.dK kvs):=.inl ⟨_,hb⟩;obtain⟨n1,n2,n3⟩:=sQ.mp nd;obtain⟨n4,n5,n6⟩:=sQ.mp n2;obtain⟨m1,m2⟩:=rC.mp n4;have hbm:b∈(b::L')++[]:=sE _ tN;have rr:=Reps.append (qs.upd (o:=.lst (ws++[.str z])) mu m1) (Reps.cons (d:=.str z) (v:=.str z) (L1:=[]) ⟨rfl,rfl⟩ (Reps.nil (K:=K) (H:=upd H b (.lst (ws++[.str z])))));rw[tZ,tZ]at rr;exact⟨t,v0,b,ws,rfl,ht,hb,by omega,sD _ hbm,t,_,rfl,ht.tf (TF.upd mu),Reps.cons (r1.upd mu fun z=>n3 b z b hbm rfl) (Reps.cons ⟨b,_,L',rfl,zT,rfl,rr⟩ Reps.nil)⟩
  ·cases h
 ·cases h
def QE {K:jJa}{H:Hp}{z:Str}:∀ {ds es:List D} {vs:List V} {L:List Addr},Reps K H ds vs L->qr z ds=some es->L.Nodup->∃pre t n0 b ws,vs=pre++[.ref t]/\SqT K H t [n0,.ref b]/\H b=some (.lst ws)/\ws.length<sizeLine/\b∈L/\Reps K (upd H b (.lst (ws++[.str z]))) es vs L
 | [],_,_,_,_,h,_=>by cases h
 | [d],es,_,_,hq5,h,nd=>by
  obtain⟨v0,vs',L1,L2,e1,e2,r1,r2⟩:=hq5;subst e1 e2;obtain⟨e5,e6⟩:=r2;subst e5 e6;have h:(Zv z d).map (fun e=>[e])=some es:=h;cases hq:Zv z d with
  | none=>rw[hq]at h;cases h
  | some e =>
   rw[hq]at h;cases h;rw[tZ]at nd;obtain⟨t,n0,b,ws,rfl,a1,a2,a3,a4,a5⟩:=z1D r1 hq nd;exact⟨[],t,n0,b,ws,rfl,a1,a2,a3,sE _ a4,Reps.cons a5 Reps.nil⟩
 | d::d2::ds,es,_,_,hq5,h,nd=>by
  obtain⟨v0,vs',L1,L2,e1,e2,r1,r2⟩:=hq5;subst e1 e2;have h:(qr z (d2::ds)).map (d::·)=some es:=h;cases hq:qr z (d2::ds)with
  | none=>rw[hq]at h;cases h
  | some fs =>
   rw[hq]at h;cases h;obtain⟨n1,n2,n3⟩:=sQ.mp nd;obtain⟨pre,t,n0,b,ws,rfl,a1,a2,a3,a4,a5⟩:=QE r2 hq n2;have mu:(∃vs,H b=some (.lst vs))\/∃kvs,H b=some (.dK kvs):=.inl ⟨_,a2⟩;exact⟨v0::pre,t,n0,b,ws,rfl,a1,a2,a3,sD _ a4,Reps.cons (r1.upd mu fun z=>n3 b z b a4 rfl) a5⟩
def uX (i j:Nat):Tn->R Fl:=fun τ=>match τ[i]?,τ[j]? with
 | some (some (.lst ds)),some (some (.str z))=>(match qr z ds with
  | some es=>.ok (.nx (τ.set i (some (.lst es))))
  | none=>.bad)
 | _,_=>.bad
section
variable {X:Cx}{E:XK}{Γ Γl:List Cl}{pos:Pos}
def z68 (i j:Nat){x y:Str}{c0 c1:Nat}{p0 p1 p2 p3 p4 p5 p6 p7 p8:Pos}(hN:autoParam (X.N[i]?=some x) au3._auto_1)(hM:autoParam (X.N[j]?=some y) au3._auto_1)(h0:autoParam (Γ[i]?=some .own) au3._auto_1){cj:Cl}(h1:autoParam (Γ[j]?=some cj) au3._auto_1)(hcj:autoParam (cj≠.dead) au9._auto_1)(hv:autoParam (Vis X.env.scope x) au5._auto_1)(hb:autoParam ((x==("__debug__":Str))=false) au1._auto_1)(hcd:autoParam ((x==("__classdict__":Str))=false) au1._auto_1)
  (hv2:autoParam (Vis X.env.scope y) au5._auto_1) (hb2:autoParam ((y==("__debug__":Str))=false) au1._auto_1) (hcd2:autoParam ((y==("__classdict__":Str))=false) au1._auto_1)
  (hbase:autoParam (attributeBase (.Subscript (.Subscript (.Name x p0) (.UnaryOp .USub (.Constant (.int 1) c0 p3) p5) p4) (.Constant (.int 1) c1 p6) p7) "append" X.env (eval (.Subscript (.Subscript (.Name x p0) (.UnaryOp .USub (.Constant (.int 1) c0 p3) p5) p4) (.Constant (.int 1) c1 p6) p7) X.env)=eval (.Subscript (.Subscript (.Name x p0) (.UnaryOp .USub (.Constant (.int 1) c0 p3) p5) p4) (.Constant (.int 1) c1 p6) p7) X.env) au3._auto_1)
  (hfew:autoParam (((backTo p2 (starEach [.Name y p8] X.env)).all (fun x=>!x.1)&&(backToKw p2 (keywordEach [] X.env)).all (fun x=>x.1.isSome)&&decide ([Expr.Name y p8].length+([]:List Keyword).length+(if ([]:List Keyword).isEmpty then 0 else 1)<30))=true) au3._auto_1)
  (hline:autoParam ((p1.endLine==p2.line)=true) au3._auto_1) (hs:autoParam (starEach [.Name y p8] X.env=(false,eval (.Name y p8) X.env)::starEach [] X.env) au3._auto_1) (hplain:autoParam ((backTo p2 (starEach [] X.env)).any (·.1)=false) au3._auto_1)
  (hsw:autoParam (swapsWith (.Call (.Attribute (.Subscript (.Subscript (.Name x p0) (.UnaryOp .USub (.Constant (.int 1) c0 p3) p5) p4) (.Constant (.int 1) c1 p6) p7) "append" p1) [.Name y p8] [] p2) none pos.line X.env=pure false) au3._auto_1):
  MS X E Γl Γ (.Expr (.Call (.Attribute (.Subscript (.Subscript (.Name x p0) (.UnaryOp .USub (.Constant (.int 1) c0 p3) p5) p4) (.Constant (.int 1) c1 p6) p7) "append" p1) [.Name y p8] [] p2) pos) (uX i j) Γ:=by
 refine⟨_,Wr (z0V jQ5 jQ6 jQ7 kl (z03 Uz (z03 Uz (ja (pos:=p0) hN hv hb hcd) (z2g Kq U8) (fun _ _=>rfl)) U8 (fun _ _=>rfl)) (yG (ja (pos:=p8) hM hv2 hb2 hcd2) vY hs) hbase hfew hline hs hplain) hsw,fun B σ H τ Z ok h=>?_⟩;obtain⟨Ls,g1,_⟩:=ok.ex;obtain⟨vy,dy,y1,y2,ry⟩:=g1 j _ h1 hcj;obtain⟨v0,d0,L,e1,e2,r,nd,n2,fin⟩:=ok.slot h0;unfold uX at h;rw[e2,y2]at h;cases d0 with
 | lst ds =>
  cases dy with
  | str z =>
   dsimp only at h;cases hq:qr z ds with
   | none=>rw[hq]at h;exact h.elim
   | some es =>
    rw[hq]at h;obtain⟨a,vs,L1,rfl,ha,e,rs⟩:=r;subst e;obtain⟨rfl,_⟩:=ry;obtain⟨m1,m2⟩:=rC.mp nd;obtain⟨pre,t,n0,b,ws,rfl,c1,c2,cz,c3,c4⟩:=QE rs hq m2;have mu:(∃vs,H b=some (.lst vs))\/∃kvs,H b=some (.dK kvs):=.inl ⟨_,c2⟩;have hab:a≠b:=fun z=>m1 (z▸c3);refine⟨_,e1,1,rfl,.inl ⟨a,pre++[.ref t],-1,.ref t,rfl,rfl,SqL.of ha,WT _ _,.inr (.inl ⟨t,[n0,.ref b],1,.ref b,rfl,rfl,c1,rfl,.inl ⟨rfl,ws,SqL.of c2⟩,_,y1,b,ws,.str z,rfl,rfl,c2,cz,?_⟩)⟩⟩;exact h _ _ (fin _ _ (a::L1) [] [] rfl (TF.upd mu) (fun c hc _=>y8 fun z=>hc (z▸tS _ c3)) ⟨a,_,L1,rfl,by rw[y8 hab];exact ha,rfl,c4⟩ (fun c hc=>.inl hc) nd)
  | _=>exact h.elim
 | _=>cases dy<;>exact h.elim
end
open PySem PySem.Spec PyProof.Rows PySem.Builtin.Str
def z2F:R2:=fun x y H Q=>∃a b,x=.str a/\y=.str b/\Q (.bl (!inS a b)) H
def z2d {X:Cx}:OpR X (compareOp .NotIn) z2F:=fun pins s σ H x y v u Q I rx ry h=>Wm pins s σ H x y v u Q I rx ry h
def YI:D->D->R D
 | .str a,.str b=>.ok (.bl (!inS a b))
 | _,_=>.bad
def z4g:wH YI:=fun x y n h=>by
 unfold YI at h;split at h<;>cases h
def z3o {K:jJa}:OpB K z2F YI:=by
 rintro H x y dx dy Lx Ly Q rx ry ⟨d,hg,q⟩;unfold YI at hg;split at hg
 ·rename_i a b;cases hg;exact⟨a,b,rx.1,ry.1,q _ H [] (Same.refl H) ⟨rfl,rfl⟩ (by simp) (fun a ha=>nomatch ha)⟩
 ·cases hg
end L2
namespace K07
open PySem PySem.Spec PyProof.Rows L2
def top (i:Nat):Stmt:=PySem.Challenge.pw_quirehand_k07_written_and_read.main.body.getD i (.Pass ⟨0,0,0,0⟩)
section
variable {P:Program}{w:World}{K:jJa}{mg:Str->Option Value}{base:Heap}
structure Gl0 (K:jJa)(mg:Str->Option Value):Prop where
 SIGNS:∃t,mg "SIGNS"=some (.str "abcdefghijklmnopqrstuvwxyzABCDEFGHIJKLMNOPQRSTUVWXYZ0123456789.,;:!?'\"()-/" t)
 MOST_SIGNS:∃t,mg "MOST_SIGNS"=some (.int 40 t)
 MOST_HEAD_WORDS:∃t,mg "MOST_HEAD_WORDS"=some (.int 12 t)
 MOST_PAIRS:∃t,mg "MOST_PAIRS"=some (.int 200 t)
 MOST_WORD_NOTES:∃t,mg "MOST_WORD_NOTES"=some (.int 3 t)
 MOST_NOTE_WORDS:∃t,mg "MOST_NOTE_WORDS"=some (.int 30 t)
 MOST_ROWS:∃t,mg "MOST_ROWS"=some (.int 20 t)
 MOST_CELLS:∃t,mg "MOST_CELLS"=some (.int 4 t)
 MOST_CELL_WORDS:∃t,mg "MOST_CELL_WORDS"=some (.int 12 t)
 MOST_BLOCKS:∃t,mg "MOST_BLOCKS"=some (.int 40 t)
 MOST_NOTES:∃t,mg "MOST_NOTES"=some (.int 60 t)
def z5I {C:Addr}{bm:List Value}{n:String}(h:jJh K C bm n=true):(jJw K C).isSome=true:=by
 unfold jJh at h;split at h
 ·rename_i hl;unfold jJw;rw[hl]
  rfl
 ·cases h
structure Cls (K:jJa)(mg:Str->Option Value):Prop where
 e_BadBlocks:∃C,ErrC K "BadBlocks" C
 ve:mg "ValueError"=none
 ex:∃CS CT c1 c2 c3 c4 c5 c6 c7 c8 c9:Addr,mg "SetError"=some (.ref CS)/\ErrC K "BadBlocks" CT/\ErrI K CT/\mg "BadBlocks"=some (.ref CT)/\jJb K (.ref CT) (.type "ValueError")=some true/\jJk K (.ref CT) (.ref CS)=some true/\(mg "BadBook"=some (.ref c1)/\jJb K (.ref CT) (.ref c1)=some false)/\(mg "BadBreaks"=some (.ref c2)/\jJb K (.ref CT) (.ref c2)=some false)/\(mg "BadFace"=some (.ref c3)/\jJb K (.ref CT) (.ref c3)=some false)/\(mg "BadRules"=some (.ref c4)/\jJb K (.ref CT) (.ref c4)=some false)/\(mg "BadText"=some (.ref c5)/\jJb K (.ref CT) (.ref c5)=some false)/\(mg "BadWord"=some (.ref c6)/\jJb K (.ref CT) (.ref c6)=some false)/\(mg "NoNote"=some (.ref c7)/\jJb K (.ref CT) (.ref c7)=some false)/\(mg "NoPlace"=some (.ref c8)/\jJb K (.ref CT) (.ref c8)=some false)/\(mg "TooWide"=some (.ref c9)/\jJb K (.ref CT) (.ref c9)=some false)
def QN:Tn->R Fl:=(zp (vT (eUn (xO "str") (za 0)) (vT (ze (eqR false) (eL yE (z8 (za 0) zb)) (eC (.int 1))) (ze VL (za 0) (eC (.str "abcdefghijklmnopqrstuvwxyzABCDEFGHIJKLMNOPQRSTUVWXYZ0123456789.,;:!?'\"()-/"))))))
def uD:List D->R D:=zr 1 QN
def Ug:FnScope ["thing"] ["thing"] (defScope (top 14)):=by constructor<;>first|rfl|decide +kernel
def Ue (Df:DefIn K mg "is_sign" (top 14) ["thing"])(B:Bl mg)(G:Gl0 K mg)(Cl:Cls K mg) :Own P w K mg base "is_sign" 1 ["thing"] (spM K uD 1):=
 Df.mir (k:=0) (Γ':=[.shr]) Ug (by decide) fun f cdv A outer s H E hr=>(zj (zu (zd (j8 (vg (T:="str") (by decide) rfl B.isinstance (xQ (v:=.ty "str") rfl B.str Boot.«str» rfl) (mn 0 .shr)) (j8 (qH (zC hr.u12) xj xi (zB zE x9 yZ (by exact rfl) B.len PySem.boot_len (z9 (mn 0 .shr) zc)) zg (zA _)) (Zl (qH z3W z4M z5L (mn 0 .shr) (z0d G.SIGNS) (by exact rfl))))))))
def uH:Tn->R Fl:=(zh (sIf (bOr (yh (zi (eUn (xO "str") (za 0)))) (yh (zi (w8 leD leD (eC (.int 1)) (eL yE (z8 (za 0) zb)) (eC (.int 40)))))) (zp (eC (.bl false))) zm) (zp (eL vP (z8 (xl [none] (zQ (za 0)) (.one 0) (fun _=>.ok true) (eL uD (z8 (za 0) zb))) zb))))
def yk:List D->R D:=zr 1 uH
def sc_is_word:FnScope ["thing"] ["thing"] (defScope (top 17)):=by constructor<;>first|rfl|decide +kernel
def Um (Df:DefIn K mg "is_word" (top 17) ["thing"])(B:Bl mg)(G:Gl0 K mg)(Cl:Cls K mg)(o2h:Own P w K mg base "is_sign" 1 ["thing"] (spM K uD 1)):Own P w K mg base "is_word" 2 ["thing"] (spM K yk 1):=
 Df.mir (k:=1) (Γ':=[.shr]) sc_is_word (by decide) fun f cdv A outer s H E hr=>(zf (zP (MW.mt (vO (yR (xh (vg (T:="str") (by decide) rfl B.isinstance (xQ (v:=.ty "str") rfl B.str Boot.«str» rfl) (mn 0 .shr)))) (vk (yR (ux uw kn zt uw kn zt zg (zB zE x9 yZ (by exact rfl) B.len PySem.boot_len (z9 (mn 0 .shr) zc)) (xV G.MOST_SIGNS)))))) (zj (zu (zd wG))) zy) (zj (zu (zd (zB (wD (by exact rfl)) jG jU (by exact rfl) B.all Boot.«all» (z9 (xu (N':=["sign"]) (fr:=[none]) rfl (xn sc_is_word.nofree (by decide +kernel)) (yH (mn 0 .shr)) (fun _ _ _ _=>(yA (pgn 0 (show List.Nodup (["sign"]:List Str) from by decide +kernel)))) (fun _ _ _ _=>yS) (fun _ _ _ _=>(zw (o2h.mono (by decide)) hr (by exact rfl) yO (z9 (mn 0 .shr) zc))) (by decide) (by decide)) zc))))))
def sc_is_tuple_of:FnScope ["thing","least","most","is_part"] ["thing","least","most","is_part"] (defScope (top 28)):=by constructor<;>first|rfl|decide +kernel
def qg:Tn->R Fl:=(zh (sIf (bOr (yh (zi (eUn (xO "tuple") (za 0)))) (yh (zi (w8 leD leD (za 1) (eL yE (z8 (za 0) zb)) (za 2))))) (zp (eC (.bl false))) zm) (zp (eL vP (z8 (xl [none,some 3] (zQ (za 0)) (.one 0) (fun _=>.ok true) (eL yk (z8 (za 0) zb))) zb))))
def zx:List D->R D:=zr 4 qg
def ur (Df:DefIn K mg "is_tuple_of" (top 28) ["thing","least","most","is_part"])(B:Bl mg)(G:Gl0 K mg)(Cl:Cls K mg)(ou:Own P w K mg base "is_word" 2 ["thing"] (spM K yk 1)):OwnF P w K mg base "is_tuple_of" 3 ["thing","least","most","is_part"] zx 3 "is_word":=by
 obtain⟨fg,hfg⟩:=ou.mgx;exact⟨fg,hfg,Df.mirF (k:=2) (v:=.ref fg) (n:=3) (Γ':=[.shr,.shr,.shr,.dead]) sc_is_tuple_of (by decide) rfl fun f cdv A outer s H E hr=>Yk (MW.mt (vO (yR (xh (vg (T:="tuple") (by decide) rfl B.isinstance (xQ (v:=.ty "tuple") rfl B.tuple Boot.«tuple» rfl) (mn 0 .shr)))) (vk (yR (ux uw kn zt uw kn zt (mn 1 .shr) (zB zE x9 yZ (by exact rfl) B.len PySem.boot_len (z9 (mn 0 .shr) zc)) (mn 2 .shr)))))) (zj (zu (zd wG))) (jB (vR (wD (by exact rfl)) jG jU (by exact rfl) B.all Boot.«all» (qx (N':=["part","is_part"]) (fr:=[none,some 3]) (jf:=1) rfl (xn sc_is_tuple_of.nofree (by decide +kernel)) (yH (mn 0 .shr)) (fun _ _ _ _=>(yA (pgn 0 (show List.Nodup (["part","is_part"]:List Str) from by decide +kernel)))) (fun _ _ _ _=>yS) (fun _ _ _ _=>uq (ou.mono (by decide)) hfg hr rfl (by first|exact Or.inl rfl|exact Or.inr (Or.inl rfl)|exact Or.inr (Or.inr rfl)) yO (z9 (mn 0 .shr) zc)) (by decide) (by decide) (by decide) rfl)))⟩
def Xg:Tn->R Fl:=(zp (eL zx (z8 (za 0) (z8 (eC (.int 1)) (z8 (eC (.int 30)) zb)))))
def wy:List D->R D:=zr 1 Xg
def U1:FnScope ["thing"] ["thing"] (defScope (top 29)):=by constructor<;>first|rfl|decide +kernel
def VV (Df:DefIn K mg "is_note" (top 29) ["thing"])(B:Bl mg)(G:Gl0 K mg)(Cl:Cls K mg)(o4:OwnF P w K mg base "is_tuple_of" 3 ["thing","least","most","is_part"] zx 3 "is_word"):Own P w K mg base "is_note" 4 ["thing"] (spM K wy 1):=
 Df.mir (k:=3) (Γ':=[.shr]) U1 (by decide) fun f cdv A outer s H E hr=>(zj (zu (zd (vt (o4.mono (by decide)) hr (by exact rfl) (by exact rfl) zl (mn 0 .shr) zg (xV G.MOST_NOTE_WORDS)))))
def uR:Tn->R Fl:=(zh (sIf (bOr (yh (zi (eUn (xO "tuple") (za 0)))) (yh (zi (w8 leD leD (za 1) (eL yE (z8 (za 0) zb)) (za 2))))) (zp (eC (.bl false))) zm) (zp (eL vP (z8 (xl [none,some 3] (zQ (za 0)) (.one 0) (fun _=>.ok true) (eL wy (z8 (za 0) zb))) zb))))
def yr:List D->R D:=zr 4 uR
def uv (Df:DefIn K mg "is_tuple_of" (top 28) ["thing","least","most","is_part"])(B:Bl mg)(G:Gl0 K mg)(Cl:Cls K mg)(o1f:Own P w K mg base "is_note" 4 ["thing"] (spM K wy 1)):OwnF P w K mg base "is_tuple_of" 5 ["thing","least","most","is_part"] yr 3 "is_note":=by
 obtain⟨fg,hfg⟩:=o1f.mgx;exact⟨fg,hfg,Df.mirF (k:=4) (v:=.ref fg) (n:=3) (Γ':=[.shr,.shr,.shr,.dead]) sc_is_tuple_of (by decide) rfl fun f cdv A outer s H E hr=>Yk (MW.mt (vO (yR (xh (vg (T:="tuple") (by decide) rfl B.isinstance (xQ (v:=.ty "tuple") rfl B.tuple Boot.«tuple» rfl) (mn 0 .shr)))) (vk (yR (ux uw kn zt uw kn zt (mn 1 .shr) (zB zE x9 yZ (by exact rfl) B.len PySem.boot_len (z9 (mn 0 .shr) zc)) (mn 2 .shr)))))) (zj (zu (zd wG))) (jB (vR (wD (by exact rfl)) jG jU (by exact rfl) B.all Boot.«all» (qx (N':=["part","is_part"]) (fr:=[none,some 3]) (jf:=1) rfl (xn sc_is_tuple_of.nofree (by decide +kernel)) (yH (mn 0 .shr)) (fun _ _ _ _=>(yA (pgn 0 (show List.Nodup (["part","is_part"]:List Str) from by decide +kernel)))) (fun _ _ _ _=>yS) (fun _ _ _ _=>uq (o1f.mono (by decide)) hfg hr rfl (by first|exact Or.inl rfl|exact Or.inr (Or.inl rfl)|exact Or.inr (Or.inr rfl)) yO (z9 (mn 0 .shr) zc)) (by decide) (by decide) (by decide) rfl)))⟩
def qL:Tn->R Fl:=(zh (sIf (bOr (yh (zi (eUn (xO "tuple") (za 0)))) (zi (ze (eqR true) (eL yE (z8 (za 0) zb)) (eC (.int 2))))) (zp (eC (.bl false))) zm) (zp (vT (eL yk (z8 (ze ixD (za 0) (eC (.int 0))) zb)) (eL yr (z8 (ze ixD (za 0) (eC (.int 1))) (z8 (eC (.int 0)) (z8 (eC (.int 3)) zb)))))))
def xB:List D->R D:=zr 1 qL
def VW:FnScope ["thing"] ["thing"] (defScope (top 30)):=by constructor<;>first|rfl|decide +kernel
def VQ (Df:DefIn K mg "is_pair" (top 30) ["thing"])(B:Bl mg)(G:Gl0 K mg)(Cl:Cls K mg)(ou:Own P w K mg base "is_word" 2 ["thing"] (spM K yk 1))(oi:OwnF P w K mg base "is_tuple_of" 5 ["thing","least","most","is_part"] yr 3 "is_note"):Own P w K mg base "is_pair" 6 ["thing"] (spM K xB 1):=
 Df.mir (k:=5) (Γ':=[.shr]) VW (by decide) fun f cdv A outer s H E hr=>(zf (zP (MW.mt (vO (yR (xh (vg (T:="tuple") (by decide) rfl B.isinstance (xQ (v:=.ty "tuple") rfl B.tuple Boot.«tuple» rfl) (mn 0 .shr)))) (vk (zD (vc hr.u12) xj xi (zB zE x9 yZ (by exact rfl) B.len PySem.boot_len (z9 (mn 0 .shr) zc)) zg (zA _))))) (zj (zu (zd wG))) zy) (zj (zu (zd (j8 (zw (ou.mono (by decide)) hr (by exact rfl) zl (z9 (zG hr.u1 (mn 0 .shr) zg) zc)) (Zl (vt (oi.mono (by decide)) hr (by exact rfl) (by exact rfl) zl (zG hr.u1 (mn 0 .shr) zg) zg (xV G.MOST_WORD_NOTES))))))))
def YL:Tn->R Fl:=(zp (eL zx (z8 (za 0) (z8 (eC (.int 0)) (z8 (eC (.int 12)) zb)))))
def wC:List D->R D:=zr 1 YL
def Us:FnScope ["thing"] ["thing"] (defScope (top 31)):=by constructor<;>first|rfl|decide +kernel
def UH (Df:DefIn K mg "is_cell" (top 31) ["thing"])(B:Bl mg)(G:Gl0 K mg)(Cl:Cls K mg)(o4:OwnF P w K mg base "is_tuple_of" 3 ["thing","least","most","is_part"] zx 3 "is_word"):Own P w K mg base "is_cell" 4 ["thing"] (spM K wC 1):=
 Df.mir (k:=3) (Γ':=[.shr]) Us (by decide) fun f cdv A outer s H E hr=>(zj (zu (zd (vt (o4.mono (by decide)) hr (by exact rfl) (by exact rfl) zl (mn 0 .shr) zg (xV G.MOST_CELL_WORDS)))))
def uY:Tn->R Fl:=(zh (sIf (bOr (yh (zi (eUn (xO "tuple") (za 0)))) (yh (zi (w8 leD leD (za 1) (eL yE (z8 (za 0) zb)) (za 2))))) (zp (eC (.bl false))) zm) (zp (eL vP (z8 (xl [none,some 3] (zQ (za 0)) (.one 0) (fun _=>.ok true) (eL wC (z8 (za 0) zb))) zb))))
def yn:List D->R D:=zr 4 uY
def uu (Df:DefIn K mg "is_tuple_of" (top 28) ["thing","least","most","is_part"])(B:Bl mg)(G:Gl0 K mg)(Cl:Cls K mg)(o1g:Own P w K mg base "is_cell" 4 ["thing"] (spM K wC 1)):OwnF P w K mg base "is_tuple_of" 5 ["thing","least","most","is_part"] yn 3 "is_cell":=by
 obtain⟨fg,hfg⟩:=o1g.mgx;exact⟨fg,hfg,Df.mirF (k:=4) (v:=.ref fg) (n:=3) (Γ':=[.shr,.shr,.shr,.dead]) sc_is_tuple_of (by decide) rfl fun f cdv A outer s H E hr=>Yk (MW.mt (vO (yR (xh (vg (T:="tuple") (by decide) rfl B.isinstance (xQ (v:=.ty "tuple") rfl B.tuple Boot.«tuple» rfl) (mn 0 .shr)))) (vk (yR (ux uw kn zt uw kn zt (mn 1 .shr) (zB zE x9 yZ (by exact rfl) B.len PySem.boot_len (z9 (mn 0 .shr) zc)) (mn 2 .shr)))))) (zj (zu (zd wG))) (jB (vR (wD (by exact rfl)) jG jU (by exact rfl) B.all Boot.«all» (qx (N':=["part","is_part"]) (fr:=[none,some 3]) (jf:=1) rfl (xn sc_is_tuple_of.nofree (by decide +kernel)) (yH (mn 0 .shr)) (fun _ _ _ _=>(yA (pgn 0 (show List.Nodup (["part","is_part"]:List Str) from by decide +kernel)))) (fun _ _ _ _=>yS) (fun _ _ _ _=>uq (o1g.mono (by decide)) hfg hr rfl (by first|exact Or.inl rfl|exact Or.inr (Or.inl rfl)|exact Or.inr (Or.inr rfl)) yO (z9 (mn 0 .shr) zc)) (by decide) (by decide) (by decide) rfl)))⟩
def Vp:Tn->R Fl:=(zp (eL yn (z8 (za 0) (z8 (eC (.int 1)) (z8 (eC (.int 4)) zb)))))
def xW:List D->R D:=zr 1 Vp
def Je:FnScope ["thing"] ["thing"] (defScope (top 32)):=by constructor<;>first|rfl|decide +kernel
def QP (Df:DefIn K mg "is_row" (top 32) ["thing"])(B:Bl mg)(G:Gl0 K mg)(Cl:Cls K mg)(oj:OwnF P w K mg base "is_tuple_of" 5 ["thing","least","most","is_part"] yn 3 "is_cell"):Own P w K mg base "is_row" 6 ["thing"] (spM K xW 1):=
 Df.mir (k:=5) (Γ':=[.shr]) Je (by decide) fun f cdv A outer s H E hr=>(zj (zu (zd (vt (oj.mono (by decide)) hr (by exact rfl) (by exact rfl) zl (mn 0 .shr) zg (xV G.MOST_CELLS)))))
def qo:Tn->R Fl:=(zh (sIf (bOr (yh (zi (eUn (xO "tuple") (za 0)))) (yh (zi (w8 leD leD (za 1) (eL yE (z8 (za 0) zb)) (za 2))))) (zp (eC (.bl false))) zm) (zp (eL vP (z8 (xl [none,some 3] (zQ (za 0)) (.one 0) (fun _=>.ok true) (eL xW (z8 (za 0) zb))) zb))))
def zM:List D->R D:=zr 4 qo
def uZ (Df:DefIn K mg "is_tuple_of" (top 28) ["thing","least","most","is_part"])(B:Bl mg)(G:Gl0 K mg)(Cl:Cls K mg)(o2a:Own P w K mg base "is_row" 6 ["thing"] (spM K xW 1)):OwnF P w K mg base "is_tuple_of" 7 ["thing","least","most","is_part"] zM 3 "is_row":=by
 obtain⟨fg,hfg⟩:=o2a.mgx;exact⟨fg,hfg,Df.mirF (k:=6) (v:=.ref fg) (n:=3) (Γ':=[.shr,.shr,.shr,.dead]) sc_is_tuple_of (by decide) rfl fun f cdv A outer s H E hr=>Yk (MW.mt (vO (yR (xh (vg (T:="tuple") (by decide) rfl B.isinstance (xQ (v:=.ty "tuple") rfl B.tuple Boot.«tuple» rfl) (mn 0 .shr)))) (vk (yR (ux uw kn zt uw kn zt (mn 1 .shr) (zB zE x9 yZ (by exact rfl) B.len PySem.boot_len (z9 (mn 0 .shr) zc)) (mn 2 .shr)))))) (zj (zu (zd wG))) (jB (vR (wD (by exact rfl)) jG jU (by exact rfl) B.all Boot.«all» (qx (N':=["part","is_part"]) (fr:=[none,some 3]) (jf:=1) rfl (xn sc_is_tuple_of.nofree (by decide +kernel)) (yH (mn 0 .shr)) (fun _ _ _ _=>(yA (pgn 0 (show List.Nodup (["part","is_part"]:List Str) from by decide +kernel)))) (fun _ _ _ _=>yS) (fun _ _ _ _=>uq (o2a.mono (by decide)) hfg hr rfl (by first|exact Or.inl rfl|exact Or.inr (Or.inl rfl)|exact Or.inr (Or.inr rfl)) yO (z9 (mn 0 .shr) zc)) (by decide) (by decide) (by decide) rfl)))⟩
def j7:Tn->R Fl:=(zp (vT (eL zM (z8 (za 0) (z8 (eC (.int 1)) (z8 (eC (.int 20)) zb)))) (eL vP (z8 (xl [none,some 0] (zQ (za 0)) (.one 0) (fun _=>.ok true) (ze (eqR false) (eL yE (z8 (za 0) zb)) (eL yE (z8 (ze ixD (za 1) (eC (.int 0))) zb)))) zb))))
def xg:List D->R D:=zr 1 j7
def sc_is_table:FnScope ["thing"] ["thing"] (defScope (top 33)):=by constructor<;>first|rfl|decide +kernel
def Vi (Df:DefIn K mg "is_table" (top 33) ["thing"])(B:Bl mg)(G:Gl0 K mg)(Cl:Cls K mg)(om:OwnF P w K mg base "is_tuple_of" 7 ["thing","least","most","is_part"] zM 3 "is_row"):Own P w K mg base "is_table" 8 ["thing"] (spM K xg 1):=
 Df.mir (k:=7) (Γ':=[.shr]) sc_is_table (by decide) fun f cdv A outer s H E hr=>(zj (zu (zd (j8 (vt (om.mono (by decide)) hr (by exact rfl) (by exact rfl) zl (mn 0 .shr) zg (xV G.MOST_ROWS)) (Zl (zB (wD (by exact rfl)) jG jU (by exact rfl) B.all Boot.«all» (z9 (xu (N':=["row","thing"]) (fr:=[none,some 0]) rfl (xn sc_is_table.nofree (by decide +kernel)) (yH (mn 0 .shr)) (fun _ _ _ _=>(yA (pgn 0 (show List.Nodup (["row","thing"]:List Str) from by decide +kernel)))) (fun _ _ _ _=>yS) (fun _ _ _ _=>(qH (zC hr.u12) xj xi (zB zE x9 yZ (by exact rfl) B.len PySem.boot_len (z9 (mn 0 .shr) zc)) (zB zE x9 yZ (by exact rfl) B.len PySem.boot_len (z9 (zG hr.u1 (mn 1 .shr) zg) zc)) (zA _))) (by decide) (by decide)) zc)))))))
def uO:Tn->R Fl:=(zh (sIf (bOr (yh (zi (eUn (xO "tuple") (za 0)))) (yh (zi (w8 leD leD (za 1) (eL yE (z8 (za 0) zb)) (za 2))))) (zp (eC (.bl false))) zm) (zp (eL vP (z8 (xl [none,some 3] (zQ (za 0)) (.one 0) (fun _=>.ok true) (eL xB (z8 (za 0) zb))) zb))))
def yo:List D->R D:=zr 4 uO
def uC (Df:DefIn K mg "is_tuple_of" (top 28) ["thing","least","most","is_part"])(B:Bl mg)(G:Gl0 K mg)(Cl:Cls K mg)(o1h:Own P w K mg base "is_pair" 6 ["thing"] (spM K xB 1)):OwnF P w K mg base "is_tuple_of" 7 ["thing","least","most","is_part"] yo 3 "is_pair":=by
 obtain⟨fg,hfg⟩:=o1h.mgx;exact⟨fg,hfg,Df.mirF (k:=6) (v:=.ref fg) (n:=3) (Γ':=[.shr,.shr,.shr,.dead]) sc_is_tuple_of (by decide) rfl fun f cdv A outer s H E hr=>Yk (MW.mt (vO (yR (xh (vg (T:="tuple") (by decide) rfl B.isinstance (xQ (v:=.ty "tuple") rfl B.tuple Boot.«tuple» rfl) (mn 0 .shr)))) (vk (yR (ux uw kn zt uw kn zt (mn 1 .shr) (zB zE x9 yZ (by exact rfl) B.len PySem.boot_len (z9 (mn 0 .shr) zc)) (mn 2 .shr)))))) (zj (zu (zd wG))) (jB (vR (wD (by exact rfl)) jG jU (by exact rfl) B.all Boot.«all» (qx (N':=["part","is_part"]) (fr:=[none,some 3]) (jf:=1) rfl (xn sc_is_tuple_of.nofree (by decide +kernel)) (yH (mn 0 .shr)) (fun _ _ _ _=>(yA (pgn 0 (show List.Nodup (["part","is_part"]:List Str) from by decide +kernel)))) (fun _ _ _ _=>yS) (fun _ _ _ _=>uq (o1h.mono (by decide)) hfg hr rfl (by first|exact Or.inl rfl|exact Or.inr (Or.inl rfl)|exact Or.inr (Or.inr rfl)) yO (z9 (mn 0 .shr) zc)) (by decide) (by decide) (by decide) rfl)))⟩
def Ye:Tn->R Fl:=(zh (sIf (bOr (yh (zi (eUn (xO "tuple") (za 0)))) (bOr (zi (ze (inD true) (eL yE (z8 (za 0) zb)) (eL (fun ds=>.ok (.tup ds)) (z8 (eC (.int 1)) (z8 (eC (.int 2)) zb))))) (yh (zi (eUn (xO "str") (ze ixD (za 0) (eC (.int 0)))))))) (zp (eC (.bl false))) zm) (zh (sIf (zi (ze (eqR false) (eL yE (z8 (za 0) zb)) (eC (.int 1)))) (zp (ze (eqR false) (ze ixD (za 0) (eC (.int 0))) (eC (.str "leaf")))) zm) (zh (sIf (zi (ze (eqR false) (ze ixD (za 0) (eC (.int 0))) (eC (.str "head")))) (zp (eL zx (z8 (ze ixD (za 0) (eC (.int 1))) (z8 (eC (.int 1)) (z8 (eC (.int 12)) zb))))) zm) (zh (sIf (zi (ze (eqR false) (ze ixD (za 0) (eC (.int 0))) (eC (.str "text")))) (zp (eL yo (z8 (ze ixD (za 0) (eC (.int 1))) (z8 (eC (.int 1)) (z8 (eC (.int 200)) zb))))) zm) (zp (vT (ze (eqR false) (ze ixD (za 0) (eC (.int 0))) (eC (.str "table"))) (eL xg (z8 (ze ixD (za 0) (eC (.int 1))) zb))))))))
def zR:List D->R D:=zr 1 Ye
def Vd:FnScope ["thing"] ["thing"] (defScope (top 34)):=by constructor<;>first|rfl|decide +kernel
def Vb (Df:DefIn K mg "is_block" (top 34) ["thing"])(B:Bl mg)(G:Gl0 K mg)(Cl:Cls K mg)(o2b:Own P w K mg base "is_table" 8 ["thing"] (spM K xg 1))(o4:OwnF P w K mg base "is_tuple_of" 3 ["thing","least","most","is_part"] zx 3 "is_word")(ol:OwnF P w K mg base "is_tuple_of" 7 ["thing","least","most","is_part"] yo 3 "is_pair"):Own P w K mg base "is_block" 9 ["thing"] (spM K zR 1):=
 Df.mir (k:=8) (Γ':=[.shr]) Vd (by decide) fun f cdv A outer s H E hr=>(zf (zP (MW.mt (vO (yR (xh (vg (T:="tuple") (by decide) rfl B.isinstance (xQ (v:=.ty "tuple") rfl B.tuple Boot.«tuple» rfl) (mn 0 .shr)))) (vO (zD Xu z6T z6I (zB zE x9 yZ (by exact rfl) B.len PySem.boot_len (z9 (mn 0 .shr) zc)) (zF (z9 zg (z9 zg zc))) (by exact rfl)) (vk (yR (xh (vg (T:="str") (by decide) rfl B.isinstance (xQ (v:=.ty "str") rfl B.str Boot.«str» rfl) (zG hr.u1 (mn 0 .shr) zg)))))))) (zj (zu (zd wG))) zy) (zf (zP (zD (zC hr.u12) xj xi (zB zE x9 yZ (by exact rfl) B.len PySem.boot_len (z9 (mn 0 .shr) zc)) zg (zA _)) (zj (zu (zd (qH (zC hr.u12) xj xi (zG hr.u1 (mn 0 .shr) zg) zk (zA _))))) zy) (zf (zP (zD (zC hr.u12) xj xi (zG hr.u1 (mn 0 .shr) zg) zk (zA _)) (zj (zu (zd (vt (o4.mono (by decide)) hr (by exact rfl) (by exact rfl) zl (zG hr.u1 (mn 0 .shr) zg) zg (xV G.MOST_HEAD_WORDS))))) zy) (zf (zP (zD (zC hr.u12) xj xi (zG hr.u1 (mn 0 .shr) zg) zk (zA _)) (zj (zu (zd (vt (ol.mono (by decide)) hr (by exact rfl) (by exact rfl) zl (zG hr.u1 (mn 0 .shr) zg) zg (xV G.MOST_PAIRS))))) zy) (zj (zu (zd (j8 (qH (zC hr.u12) xj xi (zG hr.u1 (mn 0 .shr) zg) zk (zA _)) (Zl (zw (o2b.mono (by decide)) hr (by exact rfl) zl (z9 (zG hr.u1 (mn 0 .shr) zg) zc)))))))))))
def uM:Tn->R Fl:=(zh (sIf (zi (ze (eqR true) (ze ixD (za 0) (eC (.int 0))) (eC (.str "text")))) (zp (eC (.int 0))) zm) (zp (eL kY (z8 (xl [none,none] (zQ (ze ixD (za 0) (eC (.int 1)))) (.many [0,1]) (fun _=>.ok true) (eL yE (z8 (za 1) zb))) zb))))
def yJ:List D->R D:=zr 1 uM
def sc_many_notes:FnScope ["block"] ["block"] (defScope (top 35)):=by constructor<;>first|rfl|decide +kernel
def Yy (Df:DefIn K mg "many_notes" (top 35) ["block"])(B:Bl mg)(G:Gl0 K mg)(Cl:Cls K mg) :Own P w K mg base "many_notes" 1 ["block"] (spM K yJ 1):=
 Df.mir (k:=0) (Γ':=[.shr]) sc_many_notes (by decide) fun f cdv A outer s H E hr=>(zf (zP (zD (vc hr.u12) xj xi (zG hr.u1 (mn 0 .shr) zg) zk (zA _)) (zj (zu (zd zg))) zy) (zj (zu (zd (zB (km rfl) JE KA (by exact rfl) B.sum PyProof.Rows.boot_sum (z9 (xu (N':=["word","notes"]) (fr:=[none,none]) rfl (xn sc_many_notes.nofree (by decide +kernel)) (yH (zG hr.u1 (mn 0 .shr) zg)) (fun _ _ _ _=>(qP rfl (xX (pgn 0 (show List.Nodup (["word","notes"]:List Str) from by decide +kernel)) (xX (pgn 1 (show List.Nodup (["word","notes"]:List Str) from by decide +kernel)) qN)))) (fun _ _ _ _=>yS) (fun _ _ _ _=>(zB zE x9 yZ (by exact rfl) B.len PySem.boot_len (z9 (mn 1 .shr) zc))) (by decide) (by decide)) zc))))))
def v3:Tn->R Fl:=(zh (sIf (bOr (yh (zi (eUn (xO "list") (za 0)))) (zi (ze gtD (eL yE (z8 (za 0) zb)) (eC (.int 40))))) (zp (eC (.bl false))) zm) (zh (sIf (yh (zi (eL vP (z8 (xl [none] (zQ (za 0)) (.one 0) (fun _=>.ok true) (eL zR (z8 (za 0) zb))) zb)))) (zp (eC (.bl false))) zm) (zp (ze leD (eL kY (z8 (xl [none] (zQ (za 0)) (.one 0) (fun _=>.ok true) (eL yJ (z8 (za 0) zb))) zb)) (eC (.int 60))))))
def zS:List D->R D:=zr 1 v3
def sc_are_blocks:FnScope ["thing"] ["thing"] (defScope (top 36)):=by constructor<;>first|rfl|decide +kernel
def YA (Df:DefIn K mg "are_blocks" (top 36) ["thing"])(B:Bl mg)(G:Gl0 K mg)(Cl:Cls K mg)(ox:Own P w K mg base "is_block" 9 ["thing"] (spM K zR 1))(on:Own P w K mg base "many_notes" 1 ["block"] (spM K yJ 1)):Own P w K mg base "are_blocks" 10 ["thing"] (spM K zS 1):=
 Df.mir (k:=9) (Γ':=[.shr]) sc_are_blocks (by decide) fun f cdv A outer s H E hr=>(zf (zP (MW.mt (vO (yR (xh (vg (T:="list") (by decide) rfl B.isinstance (xQ (v:=.ty "list") rfl B.list Boot.«list» rfl) (mn 0 .shr)))) (vk (zD X7 QY zt (zB zE x9 yZ (by exact rfl) B.len PySem.boot_len (z9 (mn 0 .shr) zc)) (xV G.MOST_BLOCKS) (zA _))))) (zj (zu (zd wG))) zy) (zf (zP (yR (xh (zB (wD (by exact rfl)) jG jU (by exact rfl) B.all Boot.«all» (z9 (xu (N':=["part"]) (fr:=[none]) rfl (xn sc_are_blocks.nofree (by decide +kernel)) (yH (mn 0 .shr)) (fun _ _ _ _=>(yA (pgn 0 (show List.Nodup (["part"]:List Str) from by decide +kernel)))) (fun _ _ _ _=>yS) (fun _ _ _ _=>(zw (ox.mono (by decide)) hr (by exact rfl) yO (z9 (mn 0 .shr) zc))) (by decide) (by decide)) zc)))) (zj (zu (zd wG))) zy) (zj (zu (zd (qH uw kn zt (zB (km rfl) JE KA (by exact rfl) B.sum PyProof.Rows.boot_sum (z9 (xu (N':=["block"]) (fr:=[none]) rfl (xn sc_are_blocks.nofree (by decide +kernel)) (yH (mn 0 .shr)) (fun _ _ _ _=>(yA (pgn 0 (show List.Nodup (["block"]:List Str) from by decide +kernel)))) (fun _ _ _ _=>yS) (fun _ _ _ _=>(zw (on.mono (by decide)) hr (by exact rfl) yO (z9 (mn 0 .shr) zc))) (by decide) (by decide)) zc)) (xV G.MOST_NOTES) (zA _)))))))
def ui:Tn->R Fl:=(zh (sIf (yh (zi (eL zS (z8 (za 0) zb)))) (Ja "BadBlocks" (z8 (eC (.str "blocks are a list of at most 40 blocks with at most 60 notes in all")) zb)) zm) (zp (eC (.bl true))))
def xF:List D->R D:=zr 1 ui
def Zy:FnScope ["blocks"] ["blocks"] (defScope (top 37)):=by constructor<;>first|rfl|decide +kernel
def ZD (Df:DefIn K mg "need_blocks" (top 37) ["blocks"])(B:Bl mg)(G:Gl0 K mg)(Cl:Cls K mg)(o0i:Own P w K mg base "are_blocks" 10 ["thing"] (spM K zS 1)):Own P w K mg base "need_blocks" 11 ["blocks"] (spM K xF 1):=
 Df.mir (k:=10) (Γ':=[.shr]) Zy (by decide) fun f cdv A outer s H E hr=>(zf (zP (yR (xh (zw (o0i.mono (by decide)) hr (by exact rfl) zl (z9 (mn 0 .shr) zc)))) (zj (QT Cl.e_BadBlocks rfl (z9 zk zc))) zy) (zj (zu (zd wG))))
def bRn:Tn->R Fl:=(zh (zq 5 (eSm qA (za 4) (z8 (eC (.str " ")) zb))) (zh (sIf (wo (zi (ze (eqR true) (za 5) (eC (.str "")))) (yh (zi (za 2)))) (uV 1 (eL (fun ds=>.ok (.tup ds)) (z8 (qm (za 3)) (z8 (eL (fun ds=>.ok (.lst ds)) zb) zb)))) zm) (zh (zq 2 (ze (eqR true) (za 5) (eC (.str "")))) (sIf (zi (za 2)) (uX 1 5) zm))))
def J1:Tn->R Fl:=(zh (zq 1 (eL (fun ds=>.ok (.lst ds)) zb)) (zh (zq 2 (eC (.bl false))) (zh (yY (iL ZE (z8 (eSm xM (za 0) (z8 (eC (.str "\n")) zb)) zb)) (.many [3,4]) bRn) (zp (za 1)))))
def vq:List D->R D:=zr 6 J1
def sc_runs_of:FnScope ["text","runs","within","number","row","bare"] ["text"] (defScope (top 39)):=by constructor<;>first|rfl|decide +kernel
def UI (Df:DefIn K mg "runs_of" (top 39) ["text"])(B:Bl mg)(G:Gl0 K mg)(Cl:Cls K mg) :Own P w K mg base "runs_of" 1 ["text"] (spM K vq 1):=
 Df.mir (k:=0) (Γ':=[.shr,.dead,.dead,.dead,.dead,.dead]) sc_runs_of (by decide) fun f cdv A outer s H E hr=>(zf (L2.st 1 sc_runs_of.nd (zd (yq zc))) (zf (L2.st 2 sc_runs_of.nd (zd wG)) (zf (vd (Γ2:=[.shr,.own,.own,.shr,.shr,.own]) PassesOwn.leaving rfl (z1d rfl B.enumerate (z9 (xy jQx jQ0 jQ1 uB jV jv (mn 0 .shr) (z9 zk zc)) zc)) (by decide) (qP rfl (xX (pgn 3 sc_runs_of.nd) (xX (pgn 4 sc_runs_of.nd) qN))) (by decide) (zf (L2.st 5 sc_runs_of.nd (zd (xy jQx jQ8 jQ9 Xe Qs Q0 (mn 4 .shr) (z9 zk zc)))) (zf (zP (MW.mt (uU (zD (vc hr.u12) xj xi (mn 5 .own) zk (zA _)) (vH (yR (xh (mn 2 .own)))))) (zj (app 1 (zd (zF (z9 (vV (mn 3 .shr)) (z9 (yq zc) zc)))))) zy) (zf (L2.st 2 sc_runs_of.nd (zd (qH (vc hr.u12) xj xi (mn 5 .own) zk (zA _)))) (zj (zP (xh (mn 2 .own)) (zj (z68 1 5)) zy))))) rfl) (zj (zu (mvn 1))))))
def Y6:Tn->R Fl:=(zp (eL yc (z8 (xl [none] (zQ (eSm xM (za 0) (z8 (eC (.str " ")) zb))) (.one 0) (zi (ze (eqR true) (za 0) (eC (.str "")))) (za 0)) zb)))
def yK:List D->R D:=zr 1 Y6
def sc_words_of:FnScope ["row"] ["row"] (defScope (top 40)):=by constructor<;>first|rfl|decide +kernel
def Vn (Df:DefIn K mg "words_of" (top 40) ["row"])(B:Bl mg)(G:Gl0 K mg)(Cl:Cls K mg) :Own P w K mg base "words_of" 1 ["row"] (spM K yK 1):=
 Df.mir (k:=0) (Γ':=[.shr]) sc_words_of (by decide) fun f cdv A outer s H E hr=>(zj (zu (zd (yN yF wt wd (by exact rfl) B.tuple Boot.«tuple» (z9 (xu (N':=["word"]) (fr:=[none]) rfl (xn sc_words_of.nofree (by decide +kernel)) (yH (xy jQx jQ0 jQ1 uB jV jv (mn 0 .shr) (z9 zk zc))) (fun _ _ _ _=>(yA (pgn 0 (show List.Nodup (["word"]:List Str) from by decide +kernel)))) (fun _ _ _ _=>(z20 (zD (vc hr.u12) xj xi (mn 0 .shr) zk (zA _)))) (fun _ _ _ _=>(mn 0 .shr)) (by decide) (by decide)) zc)))))
def qI:Tn->R Fl:=(zp (vT (ze gtD (eL yE (z8 (za 0) zb)) (eC (.int 1))) (vT (eSm xE (za 0) (z8 (eC (.str "|")) zb)) (eSm vM (za 0) (z8 (eC (.str "|")) zb)))))
def yB:List D->R D:=zr 1 qI
def kT:FnScope ["row"] ["row"] (defScope (top 41)):=by constructor<;>first|rfl|decide +kernel
def Z0 (Df:DefIn K mg "is_table_row" (top 41) ["row"])(B:Bl mg)(G:Gl0 K mg)(Cl:Cls K mg) :Own P w K mg base "is_table_row" 1 ["row"] (spM K yB 1):=
 Df.mir (k:=0) (Γ':=[.shr]) kT (by decide) fun f cdv A outer s H E hr=>(zj (zu (zd (j8 (qH X7 QY zt (zB zE x9 yZ (by exact rfl) B.len PySem.boot_len (z9 (mn 0 .shr) zc)) zg (zA _)) (j8 (xy jQx jXa jXb qp jz jL (mn 0 .shr) (z9 zk zc)) (Zl (xy jQx PySem.F.slot_str_endswith PySem.F.type_str_endswith XZ VZ U5 (mn 0 .shr) (z9 zk zc))))))))
def ZV:Tn->R Fl:=(zp (eL yc (z8 (xl [none] (zQ (eSm xM (eSl (za 0) (yL (eC (.int 1))) (yL (eUn KY (eC (.int 1))))) (z8 (eC (.str "|")) zb))) (.one 0) (fun _=>.ok true) (eL yK (z8 (za 0) zb))) zb)))
def xG:List D->R D:=zr 1 ZV
def sc_cells_of:FnScope ["row"] ["row"] (defScope (top 42)):=by constructor<;>first|rfl|decide +kernel
def Wy (Df:DefIn K mg "cells_of" (top 42) ["row"])(B:Bl mg)(G:Gl0 K mg)(Cl:Cls K mg)(og:Own P w K mg base "words_of" 1 ["row"] (spM K yK 1)):Own P w K mg base "cells_of" 2 ["row"] (spM K xG 1):=
 Df.mir (k:=1) (Γ':=[.shr]) sc_cells_of (by decide) fun f cdv A outer s H E hr=>(zj (zu (zd (yN yF wt wd (by exact rfl) B.tuple Boot.«tuple» (z9 (xu (N':=["cell"]) (fr:=[none]) rfl (xn sc_cells_of.nofree (by decide +kernel)) (yH (xy jQx jQ0 jQ1 uB jV jv (qk (mn 0 .shr) (xb zg) (xb (U6 zg))) (z9 zk zc))) (fun _ _ _ _=>(yA (pgn 0 (show List.Nodup (["cell"]:List Str) from by decide +kernel)))) (fun _ _ _ _=>yS) (fun _ _ _ _=>(zw (og.mono (by decide)) hr (by exact rfl) yO (z9 (mn 0 .shr) zc))) (by decide) (by decide)) zc)))))
def KW:Tn->R Bool:=(wo (zi (ze ltD (za 2) (eL yE (z8 (za 0) zb)))) (zi (ze YI (ze ixD (za 0) (za 2)) (eC (.str " {")))))
def U7:Tn->R Fl:=(zh (zq 2 (za 1)) (zh (xf KW (kq 2 ub (eC (.int 1)))) (zp (qm (za 2)))))
def vm:List D->R D:=zr 3 U7
def sc_word_end:FnScope ["line","begin","end"] ["line","begin"] (defScope (top 43)):=by constructor<;>first|rfl|decide +kernel
def Vo (Df:DefIn K mg "word_end" (top 43) ["line","begin"])(B:Bl mg)(G:Gl0 K mg)(Cl:Cls K mg) :Own P w K mg base "word_end" 1 ["line","begin"] (spM K vm 2):=
 Df.mir (k:=0) (Γ':=[.shr,.shr,.dead]) sc_word_end (by decide) fun f cdv A outer s H E hr=>(zf (stS 2 sc_word_end.nd (mn 1 .shr)) (zf (jF (Γ2:=[.shr,.shr,.own]) PassesOwn.leaving (MW.mt (uU (zD qX YF zt (mn 2 .shr) (zB zE x9 yZ (by exact rfl) B.len PySem.boot_len (z9 (mn 0 .shr) zc)) (zA _)) (vH (zD z2d z3o z4g (zG hr.u1 (mn 0 .shr) (mn 2 .shr)) zk (by exact rfl))))) (zj (aug 2 .shr sc_word_end.nd XD Wo Zt zg)) rfl) (zj (zu (zd (vV (mn 2 .shr)))))))
def KB:Tn->R Bool:=(wo (zi (ze ltD (za 2) (eL yE (z8 (za 0) zb)))) (zi (ze (eqR false) (ze ixD (za 0) (za 2)) (eC (.str " ")))))
def XI:Tn->R Fl:=(zh (zq 2 (za 1)) (zh (xf KB (kq 2 ub (eC (.int 1)))) (zp (qm (za 2)))))
def wA:List D->R D:=zr 3 XI
def sc_blanks_end:FnScope ["line","begin","end"] ["line","begin"] (defScope (top 44)):=by constructor<;>first|rfl|decide +kernel
def Ys (Df:DefIn K mg "blanks_end" (top 44) ["line","begin"])(B:Bl mg)(G:Gl0 K mg)(Cl:Cls K mg) :Own P w K mg base "blanks_end" 1 ["line","begin"] (spM K wA 2):=
 Df.mir (k:=0) (Γ':=[.shr,.shr,.dead]) sc_blanks_end (by decide) fun f cdv A outer s H E hr=>(zf (stS 2 sc_blanks_end.nd (mn 1 .shr)) (zf (jF (Γ2:=[.shr,.shr,.own]) PassesOwn.leaving (MW.mt (uU (zD qX YF zt (mn 2 .shr) (zB zE x9 yZ (by exact rfl) B.len PySem.boot_len (z9 (mn 0 .shr) zc)) (zA _)) (vH (zD (zC hr.u12) xj xi (zG hr.u1 (mn 0 .shr) (mn 2 .shr)) zk (zA _))))) (zj (aug 2 .shr sc_blanks_end.nd XD Wo Zt zg)) rfl) (zj (zu (zd (vV (mn 2 .shr)))))))
def KN:Tn->R Bool:=(wo (zi (ze ltD (za 3) (eL yE (z8 (za 0) zb)))) (zi (ze (eqR false) (ze ixD (za 0) (za 3)) (eC (.str "{")))))
def bK:Tn->R Fl:=(zh (zq 6 (eSm jb (za 0) (z8 (eC (.str "}")) (z8 (za 3) zb)))) (zh (sIf (zi (ze ltD (za 6) (eC (.int 0)))) (zp (eC .non)) zm) (zh (uV 5 (eL yK (z8 (eSl (za 0) (yL (ze zL (za 3) (eC (.int 1)))) (yL (za 6))) zb))) (zq 3 (ze zL (za 6) (eC (.int 1)))))))
def Q1:Tn->R Fl:=(zq 3 (eL vm (z8 (za 0) (z8 (za 2) zb))))
def Q2:Tn->R Fl:=(zq 4 (eSl (za 0) (yL (za 2)) (yL (za 3))))
def Q3:Tn->R Fl:=(zq 5 (eL (fun ds=>.ok (.lst ds)) zb))
def Q5:Tn->R Fl:=(sIf (wo (zi (ze ltD (za 3) (eL yE (z8 (za 0) zb)))) (zi (ze (eqR true) (ze ixD (za 0) (za 3)) (eC (.str " "))))) (zp (eC .non)) zm)
def Q6:Tn->R Fl:=(uV 1 (qm (eL (fun ds=>.ok (.tup ds)) (z8 (za 4) (z8 (eL yc (z8 (za 5) zb)) zb)))))
def Q7:Tn->R Fl:=(zq 2 (eL wA (z8 (za 0) (z8 (za 3) zb))))
def bQ:Tn->R Fl:=(zh Q1 (zh Q2 (zh Q3 (zh (xf KN bK) (zh Q5 (zh Q6 Q7))))))
def KO:Tn->R Bool:=(zi (ze ltD (za 2) (eL yE (z8 (za 0) zb))))
def VY:Tn->R Fl:=(zh (zq 1 (eL (fun ds=>.ok (.lst ds)) zb)) (zh (zq 2 (eC (.int 0))) (zh (xf KO bQ) (zp (eL yc (z8 (za 1) zb))))))
def wm:List D->R D:=zr 7 VY
def sc_pairs_of:FnScope ["line","pairs","begin","end","word","notes","close"] ["line"] (defScope (top 45)):=by constructor<;>first|rfl|decide +kernel
def Vk (Df:DefIn K mg "pairs_of" (top 45) ["line"])(B:Bl mg)(G:Gl0 K mg)(Cl:Cls K mg)(o2c:Own P w K mg base "word_end" 1 ["line","begin"] (spM K vm 2))(o0j:Own P w K mg base "blanks_end" 1 ["line","begin"] (spM K wA 2))(og:Own P w K mg base "words_of" 1 ["row"] (spM K yK 1)):Own P w K mg base "pairs_of" 2 ["line"] (spM K wm 1):=
 Df.mir (k:=1) (Γ':=[.shr,.dead,.dead,.dead,.dead,.dead,.dead]) sc_pairs_of (by decide) fun f cdv A outer s H E hr=>(zf (L2.st 1 sc_pairs_of.nd (zd (yq zc))) (zf (L2.st 2 sc_pairs_of.nd (zd zg)) (zf (jF (Γ2:=[.shr,.own,.own,.own,.own,.own,.dead]) PassesOwn.leaving (zD qX YF zt (mn 2 .own) (zB zE x9 yZ (by exact rfl) B.len PySem.boot_len (z9 (mn 0 .shr) zc)) (zA _)) (zf (L2.st 3 sc_pairs_of.nd (zd (zw (o2c.mono (by decide)) hr (by exact rfl) zl (z9 (mn 0 .shr) (z9 (mn 2 .own) zc))))) (zf (L2.st 4 sc_pairs_of.nd (zd (qk (mn 0 .shr) (xb (mn 2 .own)) (xb (mn 3 .own))))) (zf (L2.st 5 sc_pairs_of.nd (zd (yq zc))) (zf (jF (Γ2:=[.shr,.own,.own,.own,.own,.own,.own]) PassesOwn.leaving (MW.mt (uU (zD qX YF zt (mn 3 .own) (zB zE x9 yZ (by exact rfl) B.len PySem.boot_len (z9 (mn 0 .shr) zc)) (zA _)) (vH (zD (zC hr.u12) xj xi (zG hr.u1 (mn 0 .shr) (mn 3 .own)) zk (zA _))))) (zf (L2.st 6 sc_pairs_of.nd (zd (xy jQx PySem.F.slot_str_find PySem.F.type_str_find z0O z1g z1l (mn 0 .shr) (z9 zk (z9 (mn 3 .own) zc))))) (zf (zP (zD qX YF zt (mn 6 .own) zg (zA _)) (zj (zu (zd qB))) zy) (zf (app 5 (zd (zw (og.mono (by decide)) hr (by exact rfl) zl (z9 (qk (mn 0 .shr) (xb (zo zz zY zX (mn 3 .own) zg)) (xb (mn 6 .own))) zc)))) (zj (L2.st 3 sc_pairs_of.nd (zd (zo zz zY zX (mn 6 .own) zg))))))) rfl) (zf (zP (MW.mt (uU (zD qX YF zt (mn 3 .own) (zB zE x9 yZ (by exact rfl) B.len PySem.boot_len (z9 (mn 0 .shr) zc)) (zA _)) (vH (zD (vc hr.u12) xj xi (zG hr.u1 (mn 0 .shr) (mn 3 .own)) zk (zA _))))) (zj (zu (zd qB))) zy) (zf (app 1 (zd (vV (zF (z9 (mn 4 .own) (z9 (yN yF wt wd (by exact rfl) B.tuple Boot.«tuple» (z9 (mn 5 .own) zc)) zc)))))) (zj (L2.st 2 sc_pairs_of.nd (zd (zw (o0j.mono (by decide)) hr (by exact rfl) zl (z9 (mn 0 .shr) (z9 (mn 3 .own) zc)))))))))))) rfl) (zj (zu (zd (yN yF wt wd (by exact rfl) B.tuple Boot.«tuple» (z9 (mn 1 .own) zc))))))))
def qc:Tn->R Fl:=(zh (sIf (zi (ze (eqR false) (za 0) (eL (fun ds=>.ok (.lst ds)) (z8 (eC (.str "~")) zb)))) (zp (eL (fun ds=>.ok (.tup ds)) (z8 (eC (.str "leaf")) zb))) zm) (zh (sIf (wo (zi (ze (eqR false) (eL yE (z8 (za 0) zb)) (eC (.int 1)))) (zi (eSm xE (ze ixD (za 0) (eC (.int 0))) (z8 (eC (.str "= ")) zb)))) (zp (eL (fun ds=>.ok (.tup ds)) (z8 (eC (.str "head")) (z8 (eL yK (z8 (eSl (ze ixD (za 0) (eC (.int 0))) (yL (eC (.int 1))) xD) zb)) zb)))) zm) (zh (sIf (zi (eL vP (z8 (xl [none] (zQ (za 0)) (.one 0) (fun _=>.ok true) (eL yB (z8 (za 0) zb))) zb))) (zp (eL (fun ds=>.ok (.tup ds)) (z8 (eC (.str "table")) (z8 (eL yc (z8 (xl [none] (zQ (za 0)) (.one 0) (fun _=>.ok true) (eL xG (z8 (za 0) zb))) zb)) zb)))) zm) (zp (eL (fun ds=>.ok (.tup ds)) (z8 (eC (.str "text")) (z8 (eL wm (z8 (eSm y9 (eC (.str " ")) (z8 (za 0) zb)) zb)) zb)))))))
def yb:List D->R D:=zr 1 qc
def sc_block_of:FnScope ["rows"] ["rows"] (defScope (top 46)):=by constructor<;>first|rfl|decide +kernel
def WQ (Df:DefIn K mg "block_of" (top 46) ["rows"])(B:Bl mg)(G:Gl0 K mg)(Cl:Cls K mg)(o2d:Own P w K mg base "pairs_of" 2 ["line"] (spM K wm 1))(og:Own P w K mg base "words_of" 1 ["row"] (spM K yK 1))(o0d:Own P w K mg base "is_table_row" 1 ["row"] (spM K yB 1))(o2e:Own P w K mg base "cells_of" 2 ["row"] (spM K xG 1)):Own P w K mg base "block_of" 3 ["rows"] (spM K yb 1):=
 Df.mir (k:=2) (Γ':=[.shr]) sc_block_of (by decide) fun f cdv A outer s H E hr=>(zf (zP (zD (zC hr.u12) xj xi (mn 0 .shr) (yq (z9 zk zc)) (zA _)) (zj (zu (zd (zF (z9 zk zc))))) zy) (zf (zP (MW.mt (uU (zD (zC hr.u12) xj xi (zB zE x9 yZ (by exact rfl) B.len PySem.boot_len (z9 (mn 0 .shr) zc)) zg (zA _)) (vH (xh (xy jQx jXa jXb qp jz jL (zG hr.u1 (mn 0 .shr) zg) (z9 zk zc)))))) (zj (zu (zd (zF (z9 zk (z9 (zw (og.mono (by decide)) hr (by exact rfl) zl (z9 (qk (zG hr.u1 (mn 0 .shr) zg) (xb zg) wa) zc)) zc)))))) zy) (zf (zP (xh (zB (wD (by exact rfl)) jG jU (by exact rfl) B.all Boot.«all» (z9 (xu (N':=["row"]) (fr:=[none]) rfl (xn sc_block_of.nofree (by decide +kernel)) (yH (mn 0 .shr)) (fun _ _ _ _=>(yA (pgn 0 (show List.Nodup (["row"]:List Str) from by decide +kernel)))) (fun _ _ _ _=>yS) (fun _ _ _ _=>(zw (o0d.mono (by decide)) hr (by exact rfl) yO (z9 (mn 0 .shr) zc))) (by decide) (by decide)) zc))) (zj (zu (zd (zF (z9 zk (z9 (yN yF wt wd (by exact rfl) B.tuple Boot.«tuple» (z9 (xu (N':=["row"]) (fr:=[none]) rfl (xn sc_block_of.nofree (by decide +kernel)) (yH (mn 0 .shr)) (fun _ _ _ _=>(yA (pgn 0 (show List.Nodup (["row"]:List Str) from by decide +kernel)))) (fun _ _ _ _=>yS) (fun _ _ _ _=>(zw (o2e.mono (by decide)) hr (by exact rfl) yO (z9 (mn 0 .shr) zc))) (by decide) (by decide)) zc)) zc)))))) zy) (zj (zu (zd (zF (z9 zk (z9 (zw (o2d.mono (by decide)) hr (by exact rfl) zl (z9 (xy jQx jQy jQz yM xR xT zk (z9 (mn 0 .shr) zc)) zc)) zc)))))))))
def bRd:Tn->R Fl:=(zh (zq 5 (eL yb (z8 (za 4) zb))) (zh (sIf (bOr (yh (zi (eL zR (z8 (za 5) zb)))) (zi (ze (eqR false) (eL yE (z8 (za 1) zb)) (eC (.int 40))))) z00 zm) (zh (kq 2 ub (eL yJ (z8 (za 5) zb))) (zh (sIf (zi (ze gtD (za 2) (eC (.int 60)))) z00 zm) (uV 1 (qm (za 5)))))))
def z4x:Tn->R Fl:=(zh (sIf (yh (zi (eUn (xO "str") (za 0)))) z00 zm) (zh (zq 1 (eL (fun ds=>.ok (.lst ds)) zb)) (zh (zq 2 (eC (.int 0))) (zh (yY (zQ (eL vq (z8 (za 0) zb))) (.many [3,4]) bRd) (zp (za 1))))))
def vA:List D->R D:=zr 6 z4x
def sc_read:FnScope ["text","blocks","notes","number","rows","block"] ["text"] (defScope (top 47)):=by constructor<;>first|rfl|decide +kernel
def z14 (Df:DefIn K mg "read" (top 47) ["text"])(B:Bl mg)(G:Gl0 K mg)(Cl:Cls K mg)(o2i:Own P w K mg base "runs_of" 1 ["text"] (spM K vq 1))(o2f:Own P w K mg base "block_of" 3 ["rows"] (spM K yb 1))(on:Own P w K mg base "many_notes" 1 ["block"] (spM K yJ 1))(ox:Own P w K mg base "is_block" 9 ["thing"] (spM K zR 1)):Own P w K mg base "read" 10 ["text"] (spM K vA 1):=
 Df.mir (k:=9) (Γ':=[.shr,.dead,.dead,.dead,.dead,.dead]) sc_read (by decide) fun f cdv A outer s H E hr=>(zf (zP (yR (xh (vg (T:="str") (by decide) rfl B.isinstance (xQ (v:=.ty "str") rfl B.str Boot.«str» rfl) (mn 0 .shr)))) (zj VX) zy) (zf (L2.st 1 sc_read.nd (zd (yq zc))) (zf (L2.st 2 sc_read.nd (zd zg)) (zf (vd (Γ2:=[.shr,.own,.own,.shr,.shr,.own]) PassesOwn.leaving rfl (yH (zw (o2i.mono (by decide)) hr (by exact rfl) zl (z9 (mn 0 .shr) zc))) (by decide) (qP rfl (xX (pgn 3 sc_read.nd) (xX (pgn 4 sc_read.nd) qN))) (by decide) (zf (L2.st 5 sc_read.nd (zd (zw (o2f.mono (by decide)) hr (by exact rfl) zl (z9 (mn 4 .shr) zc)))) (zf (zP (MW.mt (vO (yR (xh (zw (ox.mono (by decide)) hr (by exact rfl) zl (z9 (mn 5 .own) zc)))) (vk (zD (zC hr.u12) xj xi (zB zE x9 yZ (by exact rfl) B.len PySem.boot_len (z9 (mn 1 .own) zc)) (xV G.MOST_BLOCKS) (zA _))))) (zj VX) zy) (zf (aug 2 .own sc_read.nd XD Wo Zt (zw (on.mono (by decide)) hr (by exact rfl) zl (z9 (mn 5 .own) zc))) (zf (zP (zD X7 QY zt (mn 2 .own) (xV G.MOST_NOTES) (zA _)) (zj VX) zy) (zj (app 1 (zd (vV (mn 5 .own))))))))) rfl) (zj (zu (mvn 1)))))))
def kO:Tn->R Fl:=(zp (ze zL (ze zL (eC (.str "{")) (eSm y9 (eC (.str " ")) (z8 (za 0) zb))) (eC (.str "}"))))
def wX:List D->R D:=zr 1 kO
def XF:FnScope ["note"] ["note"] (defScope (top 49)):=by constructor<;>first|rfl|decide +kernel
def XS (Df:DefIn K mg "note_text" (top 49) ["note"])(B:Bl mg)(G:Gl0 K mg)(Cl:Cls K mg) :Own P w K mg base "note_text" 1 ["note"] (spM K wX 1):=
 Df.mir (k:=0) (Γ':=[.shr]) XF (by decide) fun f cdv A outer s H E hr=>(zj (zu (zd (zo zz zY zX (zo zz zY zX zk (xy jQx jQy jQz yM xR xT zk (z9 (mn 0 .shr) zc))) zk))))
def kK:Tn->R Fl:=(zp (ze zL (za 0) (eSm y9 (eC (.str "")) (z8 (xl [none] (zQ (za 1)) (.one 0) (fun _=>.ok true) (eL wX (z8 (za 0) zb))) zb))))
def wW:List D->R D:=zr 2 kK
def sc_pair_text:FnScope ["word","notes"] ["word","notes"] (defScope (top 50)):=by constructor<;>first|rfl|decide +kernel
def Wt (Df:DefIn K mg "pair_text" (top 50) ["word","notes"])(B:Bl mg)(G:Gl0 K mg)(Cl:Cls K mg)(o1i:Own P w K mg base "note_text" 1 ["note"] (spM K wX 1)):Own P w K mg base "pair_text" 2 ["word","notes"] (spM K wW 2):=
 Df.mir (k:=1) (Γ':=[.shr,.shr]) sc_pair_text (by decide) fun f cdv A outer s H E hr=>(zj (zu (zd (zo zz zY zX (mn 0 .shr) (xy jQx jQy jQz yM xR xT zk (z9 (xu (N':=["note"]) (fr:=[none]) rfl (xn sc_pair_text.nofree (by decide +kernel)) (yH (mn 1 .shr)) (fun _ _ _ _=>(yA (pgn 0 (show List.Nodup (["note"]:List Str) from by decide +kernel)))) (fun _ _ _ _=>yS) (fun _ _ _ _=>(zw (o1i.mono (by decide)) hr (by exact rfl) yO (z9 (mn 0 .shr) zc))) (by decide) (by decide)) zc))))))
def Zk:Tn->R Fl:=(zp (ze zL (ze zL (eC (.str "| ")) (eSm y9 (eC (.str " | ")) (z8 (xl [none] (zQ (za 0)) (.one 0) (fun _=>.ok true) (eSm y9 (eC (.str " ")) (z8 (za 0) zb))) zb))) (eC (.str " |"))))
def wQ:List D->R D:=zr 1 Zk
def sc_row_text:FnScope ["row"] ["row"] (defScope (top 51)):=by constructor<;>first|rfl|decide +kernel
def Wv (Df:DefIn K mg "row_text" (top 51) ["row"])(B:Bl mg)(G:Gl0 K mg)(Cl:Cls K mg) :Own P w K mg base "row_text" 1 ["row"] (spM K wQ 1):=
 Df.mir (k:=0) (Γ':=[.shr]) sc_row_text (by decide) fun f cdv A outer s H E hr=>(zj (zu (zd (zo zz zY zX (zo zz zY zX zk (xy jQx jQy jQz yM xR xT zk (z9 (xu (N':=["cell"]) (fr:=[none]) rfl (xn sc_row_text.nofree (by decide +kernel)) (yH (mn 0 .shr)) (fun _ _ _ _=>(yA (pgn 0 (show List.Nodup (["cell"]:List Str) from by decide +kernel)))) (fun _ _ _ _=>yS) (fun _ _ _ _=>(xy jQx jQy jQz yM xR xT zk (z9 (mn 0 .shr) zc))) (by decide) (by decide)) zc))) zk))))
def v7:Tn->R Fl:=(zh (sIf (zi (ze (eqR false) (ze ixD (za 0) (eC (.int 0))) (eC (.str "head")))) (zp (ze zL (eC (.str "= ")) (eSm y9 (eC (.str " ")) (z8 (ze ixD (za 0) (eC (.int 1))) zb)))) zm) (zh (sIf (zi (ze (eqR false) (ze ixD (za 0) (eC (.int 0))) (eC (.str "text")))) (zp (eSm y9 (eC (.str " ")) (z8 (xl [none,none] (zQ (ze ixD (za 0) (eC (.int 1)))) (.many [0,1]) (fun _=>.ok true) (eL wW (z8 (za 0) (z8 (za 1) zb)))) zb))) zm) (zh (sIf (zi (ze (eqR false) (ze ixD (za 0) (eC (.int 0))) (eC (.str "table")))) (zp (eSm y9 (eC (.str "\n")) (z8 (xl [none] (zQ (ze ixD (za 0) (eC (.int 1)))) (.one 0) (fun _=>.ok true) (eL wQ (z8 (za 0) zb))) zb))) zm) (zp (eC (.str "~"))))))
def yl:List D->R D:=zr 1 v7
def sc_block_text:FnScope ["block"] ["block"] (defScope (top 52)):=by constructor<;>first|rfl|decide +kernel
def YC (Df:DefIn K mg "block_text" (top 52) ["block"])(B:Bl mg)(G:Gl0 K mg)(Cl:Cls K mg)(o1j:Own P w K mg base "pair_text" 2 ["word","notes"] (spM K wW 2))(o2g:Own P w K mg base "row_text" 1 ["row"] (spM K wQ 1)):Own P w K mg base "block_text" 3 ["block"] (spM K yl 1):=
 Df.mir (k:=2) (Γ':=[.shr]) sc_block_text (by decide) fun f cdv A outer s H E hr=>(zf (zP (zD (zC hr.u12) xj xi (zG hr.u1 (mn 0 .shr) zg) zk (zA _)) (zj (zu (zd (zo zz zY zX zk (xy jQx jQy jQz yM xR xT zk (z9 (zG hr.u1 (mn 0 .shr) zg) zc)))))) zy) (zf (zP (zD (zC hr.u12) xj xi (zG hr.u1 (mn 0 .shr) zg) zk (zA _)) (zj (zu (zd (xy jQx jQy jQz yM xR xT zk (z9 (xu (N':=["word","notes"]) (fr:=[none,none]) rfl (xn sc_block_text.nofree (by decide +kernel)) (yH (zG hr.u1 (mn 0 .shr) zg)) (fun _ _ _ _=>(qP rfl (xX (pgn 0 (show List.Nodup (["word","notes"]:List Str) from by decide +kernel)) (xX (pgn 1 (show List.Nodup (["word","notes"]:List Str) from by decide +kernel)) qN)))) (fun _ _ _ _=>yS) (fun _ _ _ _=>(zw (o1j.mono (by decide)) hr (by exact rfl) yO (z9 (mn 0 .shr) (z9 (mn 1 .shr) zc)))) (by decide) (by decide)) zc))))) zy) (zf (zP (zD (zC hr.u12) xj xi (zG hr.u1 (mn 0 .shr) zg) zk (zA _)) (zj (zu (zd (xy jQx jQy jQz yM xR xT zk (z9 (xu (N':=["row"]) (fr:=[none]) rfl (xn sc_block_text.nofree (by decide +kernel)) (yH (zG hr.u1 (mn 0 .shr) zg)) (fun _ _ _ _=>(yA (pgn 0 (show List.Nodup (["row"]:List Str) from by decide +kernel)))) (fun _ _ _ _=>yS) (fun _ _ _ _=>(zw (o2g.mono (by decide)) hr (by exact rfl) yO (z9 (mn 0 .shr) zc))) (by decide) (by decide)) zc))))) zy) (zj (zu (zd zk))))))
def kh:Tn->R Fl:=(zh (Ve (eL xF (z8 (za 0) zb))) (zp (eSm y9 (eC (.str "\n\n")) (z8 (xl [none] (zQ (za 0)) (.one 0) (fun _=>.ok true) (eL yl (z8 (za 0) zb))) zb))))
def xJ:List D->R D:=zr 1 kh
def sc_written:FnScope ["blocks"] ["blocks"] (defScope (top 53)):=by constructor<;>first|rfl|decide +kernel
def VN (Df:DefIn K mg "written" (top 53) ["blocks"])(B:Bl mg)(G:Gl0 K mg)(Cl:Cls K mg)(o0f:Own P w K mg base "need_blocks" 11 ["blocks"] (spM K xF 1))(o1a:Own P w K mg base "block_text" 3 ["block"] (spM K yl 1)):Own P w K mg base "written" 12 ["blocks"] (spM K xJ 1):=
 Df.mir (k:=11) (Γ':=[.shr]) sc_written (by decide) fun f cdv A outer s H E hr=>(zf (z1f (zw (o0f.mono (by decide)) hr (by exact rfl) zl (z9 (mn 0 .shr) zc))) (zj (zu (zd (xy jQx jQy jQz yM xR xT zk (z9 (xu (N':=["block"]) (fr:=[none]) rfl (xn sc_written.nofree (by decide +kernel)) (yH (mn 0 .shr)) (fun _ _ _ _=>(yA (pgn 0 (show List.Nodup (["block"]:List Str) from by decide +kernel)))) (fun _ _ _ _=>yS) (fun _ _ _ _=>(zw (o1a.mono (by decide)) hr (by exact rfl) yO (z9 (mn 0 .shr) zc))) (by decide) (by decide)) zc))))))
def uj:Tn->R Fl:=(zh (zq 2 (eC (.int 0))) (zh (sIf (zi (ze ltD (za 1) (eL yE (z8 (za 0) zb)))) (zq 2 (ze ixD (za 0) (za 1))) zm) (zp (ze y0 (ze u9 (ze zL (ze zL (za 2) (ze u9 (eC (.int 7919)) (za 1))) (eC (.int 17))) (eC (.int 48271))) (eC (.int 2147483647))))))
def zW:List D->R D:=zr 3 uj
def sc__law_number:FnScope ["_law_script","_law_k","_law_base"] ["_law_script","_law_k"] (defScope (top 55)):=by constructor<;>first|rfl|decide +kernel
def Zw (Df:DefIn K mg "_law_number" (top 55) ["_law_script","_law_k"])(B:Bl mg)(G:Gl0 K mg)(Cl:Cls K mg) :Own P w K mg base "_law_number" 1 ["_law_script","_law_k"] (spM K zW 2):=
 Df.mir (k:=0) (Γ':=[.shr,.shr,.dead]) sc__law_number (by decide) fun f cdv A outer s H E hr=>(zf (L2.st 2 sc__law_number.nd (zd zg)) (zf (zP (zD qX YF zt (mn 1 .shr) (zB zE x9 yZ (by exact rfl) B.len PySem.boot_len (z9 (mn 0 .shr) zc)) (zA _)) (zj (stS 2 sc__law_number.nd (zG hr.u1 (mn 0 .shr) (mn 1 .shr)))) (Zq (Γ':=[.shr,.shr,.shr]) zy rfl)) (zj (zu (zd (zo zJ ye zt (zo uh kC kL (zo zz zY zX (zo zz zY zX (mn 2 .shr) (zo uh kC kL zg (mn 1 .shr))) zg) zg) zg))))))
def kM:Tn->R Fl:=(zp (ze y0 (ze zL (ze u9 (za 0) (eC (.int 69621))) (eC (.int 11))) (eC (.int 2147483629))))
def yj:List D->R D:=zr 1 kM
def Wg:FnScope ["_law_number_here"] ["_law_number_here"] (defScope (top 56)):=by constructor<;>first|rfl|decide +kernel
def XW (Df:DefIn K mg "_law_next" (top 56) ["_law_number_here"])(B:Bl mg)(G:Gl0 K mg)(Cl:Cls K mg) :Own P w K mg base "_law_next" 1 ["_law_number_here"] (spM K yj 1):=
 Df.mir (k:=0) (Γ':=[.shr]) Wg (by decide) fun f cdv A outer s H E hr=>(zj (zu (zd (zo zJ ye zt (zo zz zY zX (zo uh kC kL (mn 0 .shr) zg) zg) zg))))
def bW:Tn->R Fl:=(zh (zq 5 (ze zL (ze zL (ze yf (za 0) (eC (.int 31))) (ze u9 (ze u9 (za 4) (za 4)) (ze zL (eC (.int 1)) (ze y0 (za 0) (eC (.int 17)))))) (za 4))) (zq 3 (ze zL (za 3) (ze ixD (za 1) (ze y0 (za 5) (eC (.int 74)))))))
def IFW:Tn->R Fl:=(sIf (zi (ze (eqR false) (ze y0 (ze yf (za 0) (eC (.int 5))) (eC (.int 24))) (eC (.int 1)))) (zq 2 (ze zL (eC (.int 1)) (ze y0 (ze yf (za 0) (eC (.int 120))) (eC (.int 40))))) zm)
def Vl:Tn->R Fl:=(zh (zq 1 (eC (.str "abcdefghijklmnopqrstuvwxyzABCDEFGHIJKLMNOPQRSTUVWXYZ0123456789.,;:!?'\"()-/"))) (zh (zq 2 (ze zL (eC (.int 1)) (ze y0 (za 0) (eC (.int 5))))) (zh IFW (zh (zq 3 (eC (.str ""))) (zh (yY (iL wY (z8 (za 2) zb)) (.one 4) bW) (zp (za 3)))))))
def wj:List D->R D:=zr 6 Vl
def sc__law_word:FnScope ["_law_number_here","_law_signs","_law_size","_law_found","_law_j","_law_at"] ["_law_number_here"] (defScope (top 57)):=by constructor<;>first|rfl|decide +kernel
def Xp (Df:DefIn K mg "_law_word" (top 57) ["_law_number_here"])(B:Bl mg)(G:Gl0 K mg)(Cl:Cls K mg) :Own P w K mg base "_law_word" 1 ["_law_number_here"] (spM K wj 1):=
 Df.mir (k:=0) (Γ':=[.shr,.dead,.dead,.dead,.dead,.dead]) sc__law_word (by decide) fun f cdv A outer s H E hr=>(zf (L2.st 1 sc__law_word.nd (zd zk)) (zf (L2.st 2 sc__law_word.nd (zd (zo zz zY zX zg (zo zJ ye zt (mn 0 .shr) zg)))) (zf (zP (zD (zC hr.u12) xj xi (zo zJ ye zt (zo zH zV zt (mn 0 .shr) zg) zg) zg (zA _)) (zj (L2.st 2 sc__law_word.nd (zd (zo zz zY zX zg (zo zJ ye zt (zo zH zV zt (mn 0 .shr) zg) zg))))) zy) (zf (L2.st 3 sc__law_word.nd (zd zk)) (zf (vd (Γ2:=[.shr,.own,.own,.own,.shr,.own]) PassesOwn.leaving rfl (vn rfl B.range (z9 (mn 2 .own) zc)) (by decide) (yA (pgn 4 sc__law_word.nd)) (by decide) (zf (L2.st 5 sc__law_word.nd (zd (zo zz zY zX (zo zz zY zX (zo zH zV zt (mn 0 .shr) zg) (zo uh kC kL (zo uh kC kL (mn 4 .shr) (mn 4 .shr)) (zo zz zY zX zg (zo zJ ye zt (mn 0 .shr) zg)))) (mn 4 .shr)))) (zj (L2.st 3 sc__law_word.nd (zd (zo zz zY zX (mn 3 .own) (zG hr.u1 (mn 1 .own) (zo zJ ye zt (mn 5 .own) zg))))))) rfl) (zj (zu (mvn 3))))))))
def bV:Tn->R Fl:=(zh (zq 0 (eL yj (z8 (za 0) zb))) (uV 4 (eL wj (z8 (ze yf (za 0) (eC (.int 3))) zb))))
def IFV:Tn->R Fl:=(sIf (zi (ze (eqR false) (ze y0 (ze yf (za 0) (eC (.int 3))) (eC (.int 20))) (eC (.int 1)))) (zq 3 (za 2)) zm)
def TV:Tn->R Fl:=(zh (zq 3 (ze zL (za 1) (ze y0 (za 0) (eC (.int 3))))) (zh IFV (zh (zq 4 (eL (fun ds=>.ok (.lst ds)) zb)) (zh (yY (iL wY (z8 (eL kH (z8 (za 2) (z8 (za 3) zb))) zb)) (.one 5) bV) (zp (eL yc (z8 (za 4) zb)))))))
def Wl:Tn->R Fl:=TV
def yp:List D->R D:=zr 6 Wl
def sc__law_words:FnScope ["_law_number_here","_law_least","_law_most","_law_many","_law_words_here","_law_j"] ["_law_number_here","_law_least","_law_most"] (defScope (top 58)):=by constructor<;>first|rfl|decide +kernel
def Yr (Df:DefIn K mg "_law_words" (top 58) ["_law_number_here","_law_least","_law_most"])(B:Bl mg)(G:Gl0 K mg)(Cl:Cls K mg)(o5:Own P w K mg base "_law_next" 1 ["_law_number_here"] (spM K yj 1))(ot:Own P w K mg base "_law_word" 1 ["_law_number_here"] (spM K wj 1)):Own P w K mg base "_law_words" 2 ["_law_number_here","_law_least","_law_most"] (spM K yp 3):=
 Df.mir (k:=1) (Γ':=[.shr,.shr,.shr,.dead,.dead,.dead]) sc__law_words (by decide) fun f cdv A outer s H E hr=>(zf (L2.st 3 sc__law_words.nd (zd (zo zz zY zX (mn 1 .shr) (zo zJ ye zt (mn 0 .shr) zg)))) (zf (zP (zD (zC hr.u12) xj xi (zo zJ ye zt (zo zH zV zt (mn 0 .shr) zg) zg) zg (zA _)) (zj (stS 3 sc__law_words.nd (mn 2 .shr))) (Zq (Γ':=[.shr,.shr,.shr,.shr,.dead,.dead]) zy rfl)) (zf (L2.st 4 sc__law_words.nd (zd (yq zc))) (zf (vd (Γ2:=[.own,.shr,.shr,.shr,.own,.shr]) PassesOwn.leaving rfl (vn rfl B.range (z9 (zB (QZ (by exact rfl)) z4t z3Q (by exact rfl) B.min PyProof.Rows.boot_min (z9 (mn 2 .shr) (z9 (mn 3 .shr) zc))) zc)) (by decide) (yA (pgn 5 sc__law_words.nd)) (by decide) (zf (L2.st 0 sc__law_words.nd (zd (zw (o5.mono (by decide)) hr (by exact rfl) zl (z9 (mn 0 .shr) zc)))) (zj (app 4 (zd (zw (ot.mono (by decide)) hr (by exact rfl) zl (z9 (zo zH zV zt (mn 0 .own) zg) zc)))))) rfl) (zj (zu (zd (yN yF wt wd (by exact rfl) B.tuple Boot.«tuple» (z9 (mn 4 .own) zc)))))))))
def bN:Tn->R Fl:=(sIf (wo (zi (ze gtD (za 1) (eC (.int 0)))) (zi (ze ltD (za 2) (eC (.int 200))))) (zh (zq 1 (ze QV (za 1) (eC (.int 1)))) (uV 5 (eL yp (z8 (ze yf (za 0) (ze zL (eC (.int 49)) (za 6))) (z8 (eC (.int 1)) (z8 (eC (.int 30)) zb)))))) zm)
def LN:Tn->R Fl:=(yY (iL wY (z8 (ze ixD (eL (fun ds=>.ok (.lst ds)) (z8 (eC (.int 0)) (z8 (eC (.int 0)) (z8 (eC (.int 0)) (z8 (eC (.int 1)) (z8 (eC (.int 1)) (z8 (eC (.int 2)) (z8 (eC (.int 3)) zb)))))))) (ze y0 (ze yf (za 0) (eC (.int 7))) (eC (.int 7)))) zb)) (.one 6) bN)
def bP:Tn->R Fl:=(zh (zq 0 (eL yj (z8 (za 0) zb))) (zh (zq 5 (eL (fun ds=>.ok (.lst ds)) zb)) (zh LN (uV 3 (eL (fun ds=>.ok (.tup ds)) (z8 (eL wj (z8 (ze y0 (ze yf (za 0) (eC (.int 5))) (ze QV (eC (.int 1000003)) (ze u9 (eC (.int 999000)) (ze yf (za 2) (eC (.int 200)))))) zb)) (z8 (eL yc (z8 (za 5) zb)) zb)))))))
def IFP:Tn->R Fl:=(sIf (zi (ze (eqR false) (ze y0 (ze yf (za 0) (eC (.int 6))) (eC (.int 60))) (eC (.int 1)))) (zq 2 (eC (.int 200))) zm)
def TP:Tn->R Fl:=(zh (zq 2 (ze zL (eC (.int 1)) (ze y0 (za 0) (eC (.int 6))))) (zh IFP (zh (zq 3 (eL (fun ds=>.ok (.lst ds)) zb)) (zh (yY (iL wY (z8 (za 2) zb)) (.one 4) bP) (zp (eL yc (z8 (za 3) zb)))))))
def XH:Tn->R Fl:=TP
def wB:List D->R D:=zr 7 XH
def sc__law_pairs:FnScope ["_law_number_here","_law_room","_law_many","_law_pairs_here","_law_j","_law_notes","_law_k"] ["_law_number_here","_law_room"] (defScope (top 59)):=by constructor<;>first|rfl|decide +kernel
def YG (Df:DefIn K mg "_law_pairs" (top 59) ["_law_number_here","_law_room"])(B:Bl mg)(G:Gl0 K mg)(Cl:Cls K mg)(o5:Own P w K mg base "_law_next" 1 ["_law_number_here"] (spM K yj 1))(ot:Own P w K mg base "_law_word" 1 ["_law_number_here"] (spM K wj 1))(o8:Own P w K mg base "_law_words" 2 ["_law_number_here","_law_least","_law_most"] (spM K yp 3)):Own P w K mg base "_law_pairs" 3 ["_law_number_here","_law_room"] (spM K wB 2):=
 Df.mir (k:=2) (Γ':=[.shr,.shr,.dead,.dead,.dead,.dead,.dead]) sc__law_pairs (by decide) fun f cdv A outer s H E hr=>(zf (L2.st 2 sc__law_pairs.nd (zd (zo zz zY zX zg (zo zJ ye zt (mn 0 .shr) zg)))) (zf (zP (zD (zC hr.u12) xj xi (zo zJ ye zt (zo zH zV zt (mn 0 .shr) zg) zg) zg (zA _)) (zj (L2.st 2 sc__law_pairs.nd (zd zg))) zy) (zf (L2.st 3 sc__law_pairs.nd (zd (yq zc))) (zf (vd (Γ2:=[.own,.shr,.own,.own,.shr,.own,.dead]) PassesOwn.leaving rfl (vn rfl B.range (z9 (mn 2 .own) zc)) (by decide) (yA (pgn 4 sc__law_pairs.nd)) (by decide) (zf (L2.st 0 sc__law_pairs.nd (zd (zw (o5.mono (by decide)) hr (by exact rfl) zl (z9 (mn 0 .shr) zc)))) (zf (L2.st 5 sc__law_pairs.nd (zd (yq zc))) (zf (vd (Γ2:=[.own,.shr,.own,.own,.shr,.own,.shr]) PassesOwn.leaving rfl (vn rfl B.range (z9 (zG hr.u1 (yq (z9 zg (z9 zg (z9 zg (z9 zg (z9 zg (z9 zg (z9 zg zc)))))))) (zo zJ ye zt (zo zH zV zt (mn 0 .own) zg) zg)) zc)) (by decide) (yA (pgn 6 sc__law_pairs.nd)) (by decide) (zj (zP (MW.mt (uU (zD X7 QY zt (mn 1 .shr) zg (zA _)) (vH (zD qX YF zt (mn 2 .own) zg (zA _))))) (Zq (Γ':=[.own,.shr,.own,.own,.shr,.own,.shr]) (zf (L2.st 1 sc__law_pairs.nd (zd (zo Wc QB zt (mn 1 .shr) zg))) (zj (app 5 (zd (zw (o8.mono (by decide)) hr (by exact rfl) zl (z9 (zo zH zV zt (mn 0 .own) (zo zz zY zX zg (mn 6 .shr))) (z9 zg (z9 zg zc)))))))) rfl) zy)) rfl) (zj (app 3 (zd (zF (z9 (zw (ot.mono (by decide)) hr (by exact rfl) zl (z9 (zo zJ ye zt (zo zH zV zt (mn 0 .own) zg) (zo Wc QB zt zg (zo uh kC kL zg (zo zH zV zt (mn 2 .own) zg)))) zc)) (z9 (yN yF wt wd (by exact rfl) B.tuple Boot.«tuple» (z9 (mn 5 .own) zc)) zc))))))))) rfl) (zj (zu (zd (yN yF wt wd (by exact rfl) B.tuple Boot.«tuple» (z9 (mn 3 .own) zc)))))))))
def bC:Tn->R Fl:=(zh (zq 0 (eL yj (z8 (za 0) zb))) (uV 5 (eL yp (z8 (ze yf (za 0) (eC (.int 3))) (z8 (eC (.int 0)) (z8 (eC (.int 12)) zb))))))
def bR:Tn->R Fl:=(zh (zq 5 (eL (fun ds=>.ok (.lst ds)) zb)) (zh (yY (iL wY (z8 (za 1) zb)) (.one 6) bC) (uV 3 (eL yc (z8 (za 5) zb)))))
def IFT:Tn->R Fl:=(sIf (zi (ze (eqR false) (ze y0 (ze yf (za 0) (eC (.int 12))) (eC (.int 16))) (eC (.int 1)))) (zq 2 (eC (.int 20))) zm)
def TT:Tn->R Fl:=(zh (zq 1 (ze zL (eC (.int 1)) (ze y0 (za 0) (eC (.int 4))))) (zh (zq 2 (ze zL (eC (.int 1)) (ze y0 (ze yf (za 0) (eC (.int 4))) (eC (.int 3))))) (zh IFT (zh (zq 3 (eL (fun ds=>.ok (.lst ds)) zb)) (zh (yY (iL wY (z8 (za 2) zb)) (.one 4) bR) (zp (eL yc (z8 (za 3) zb))))))))
def Wj:Tn->R Fl:=TT
def wx:List D->R D:=zr 7 Wj
def sc__law_table:FnScope ["_law_number_here","_law_many","_law_rows","_law_found","_law_j","_law_row","_law_k"] ["_law_number_here"] (defScope (top 60)):=by constructor<;>first|rfl|decide +kernel
def Yv (Df:DefIn K mg "_law_table" (top 60) ["_law_number_here"])(B:Bl mg)(G:Gl0 K mg)(Cl:Cls K mg)(o5:Own P w K mg base "_law_next" 1 ["_law_number_here"] (spM K yj 1))(o8:Own P w K mg base "_law_words" 2 ["_law_number_here","_law_least","_law_most"] (spM K yp 3)):Own P w K mg base "_law_table" 3 ["_law_number_here"] (spM K wx 1):=
 Df.mir (k:=2) (Γ':=[.shr,.dead,.dead,.dead,.dead,.dead,.dead]) sc__law_table (by decide) fun f cdv A outer s H E hr=>(zf (L2.st 1 sc__law_table.nd (zd (zo zz zY zX zg (zo zJ ye zt (mn 0 .shr) zg)))) (zf (L2.st 2 sc__law_table.nd (zd (zo zz zY zX zg (zo zJ ye zt (zo zH zV zt (mn 0 .shr) zg) zg)))) (zf (zP (zD (zC hr.u12) xj xi (zo zJ ye zt (zo zH zV zt (mn 0 .shr) zg) zg) zg (zA _)) (zj (L2.st 2 sc__law_table.nd (zd zg))) zy) (zf (L2.st 3 sc__law_table.nd (zd (yq zc))) (zf (vd (Γ2:=[.shr,.own,.own,.own,.shr,.own,.dead]) PassesOwn.leaving rfl (vn rfl B.range (z9 (mn 2 .own) zc)) (by decide) (yA (pgn 4 sc__law_table.nd)) (by decide) (zf (L2.st 5 sc__law_table.nd (zd (yq zc))) (zf (vd (Γ2:=[.own,.own,.own,.own,.shr,.own,.shr]) PassesOwn.leaving rfl (vn rfl B.range (z9 (mn 1 .own) zc)) (by decide) (yA (pgn 6 sc__law_table.nd)) (by decide) (zf (L2.st 0 sc__law_table.nd (zd (zw (o5.mono (by decide)) hr (by exact rfl) zl (z9 (mn 0 .shr) zc)))) (zj (app 5 (zd (zw (o8.mono (by decide)) hr (by exact rfl) zl (z9 (zo zH zV zt (mn 0 .own) zg) (z9 zg (z9 zg zc)))))))) rfl) (zj (app 3 (zd (yN yF wt wd (by exact rfl) B.tuple Boot.«tuple» (z9 (mn 5 .own) zc))))))) rfl) (zj (zu (zd (yN yF wt wd (by exact rfl) B.tuple Boot.«tuple» (z9 (mn 3 .own) zc))))))))))
def jR:Tn->R Fl:=(zh (sIf (zi (ze (eqR false) (ze y0 (za 0) (eC (.int 8))) (eC (.int 0)))) (zp (eL (fun ds=>.ok (.tup ds)) (z8 (eC (.str "leaf")) zb))) zm) (zh (sIf (zi (ze ltD (ze y0 (za 0) (eC (.int 8))) (eC (.int 3)))) (zp (eL (fun ds=>.ok (.tup ds)) (z8 (eC (.str "head")) (z8 (eL yp (z8 (ze yf (za 0) (eC (.int 8))) (z8 (eC (.int 1)) (z8 (eC (.int 12)) zb)))) zb)))) zm) (zh (sIf (zi (ze ltD (ze y0 (za 0) (eC (.int 8))) (eC (.int 5)))) (zp (eL (fun ds=>.ok (.tup ds)) (z8 (eC (.str "table")) (z8 (eL wx (z8 (ze yf (za 0) (eC (.int 8))) zb)) zb)))) zm) (zp (eL (fun ds=>.ok (.tup ds)) (z8 (eC (.str "text")) (z8 (eL wB (z8 (ze yf (za 0) (eC (.int 8))) (z8 (za 1) zb))) zb)))))))
def v9:List D->R D:=zr 2 jR
def YB:FnScope ["_law_number_here","_law_room"] ["_law_number_here","_law_room"] (defScope (top 61)):=by constructor<;>first|rfl|decide +kernel
def Yu (Df:DefIn K mg "_law_block" (top 61) ["_law_number_here","_law_room"])(B:Bl mg)(G:Gl0 K mg)(Cl:Cls K mg)(o1b:Own P w K mg base "_law_pairs" 3 ["_law_number_here","_law_room"] (spM K wB 2))(o8:Own P w K mg base "_law_words" 2 ["_law_number_here","_law_least","_law_most"] (spM K yp 3))(o1c:Own P w K mg base "_law_table" 3 ["_law_number_here"] (spM K wx 1)):Own P w K mg base "_law_block" 4 ["_law_number_here","_law_room"] (spM K v9 2):=
 Df.mir (k:=3) (Γ':=[.shr,.shr]) YB (by decide) fun f cdv A outer s H E hr=>(zf (zP (zD (zC hr.u12) xj xi (zo zJ ye zt (mn 0 .shr) zg) zg (zA _)) (zj (zu (zd (zF (z9 zk zc))))) zy) (zf (zP (zD qX YF zt (zo zJ ye zt (mn 0 .shr) zg) zg (zA _)) (zj (zu (zd (zF (z9 zk (z9 (zw (o8.mono (by decide)) hr (by exact rfl) zl (z9 (zo zH zV zt (mn 0 .shr) zg) (z9 zg (z9 zg zc)))) zc)))))) zy) (zf (zP (zD qX YF zt (zo zJ ye zt (mn 0 .shr) zg) zg (zA _)) (zj (zu (zd (zF (z9 zk (z9 (zw (o1c.mono (by decide)) hr (by exact rfl) zl (z9 (zo zH zV zt (mn 0 .shr) zg) zc)) zc)))))) zy) (zj (zu (zd (zF (z9 zk (z9 (zw (o1b.mono (by decide)) hr (by exact rfl) zl (z9 (zo zH zV zt (mn 0 .shr) zg) (z9 (mn 1 .shr) zc))) zc)))))))))
def B1:Tn->R Fl:=(zq 2 (ze zL (eL zW (z8 (za 0) (z8 (ze zL (ze zL (za 1) (eC (.int 1))) (ze y0 (za 6) (eC (.int 6)))) zb))) (ze u9 (eC (.int 101)) (ze yf (za 6) (eC (.int 6))))))
def B2:Tn->R Fl:=(sIf (wo (zi (ze (eqR false) (za 3) (eC (.int 40)))) (zi (ze gtD (ze y0 (za 2) (eC (.int 8))) (eC (.int 4))))) (zq 2 (ze QV (za 2) (eC (.int 5)))) zm)
def B3:Tn->R Fl:=(uV 4 (eL v9 (z8 (za 2) (z8 (za 5) zb))))
def B4:Tn->R Fl:=(sIf (zi (ze (eqR false) (ze ixD (ze ixD (za 4) (eUn KY (eC (.int 1)))) (eC (.int 0))) (eC (.str "text")))) (zq 5 (ze QV (za 5) (eL kY (z8 (xl [none] (zQ (ze ixD (ze ixD (za 4) (eUn KY (eC (.int 1)))) (eC (.int 1)))) (.one 0) (fun _=>.ok true) (eL yE (z8 (ze ixD (za 0) (eC (.int 1))) zb))) zb)))) zm)
def IFB:Tn->R Fl:=(sIf (zi (ze (eqR false) (ze y0 (ze yf (za 2) (eC (.int 5))) (eC (.int 40))) (eC (.int 1)))) (zq 3 (eC (.int 40))) zm)
def Yp:Tn->R Fl:=(zh (zq 2 (eL zW (z8 (za 0) (z8 (za 1) zb)))) (zh (zq 3 (ze y0 (za 2) (eC (.int 5)))) (zh IFB (zh (zq 4 (eL (fun ds=>.ok (.lst ds)) zb)) (zh (zq 5 (eC (.int 60))) (zh (yY (iL wY (z8 (za 3) zb)) (.one 6) (zh B1 (zh B2 (zh B3 B4)))) (zp (za 4))))))))
def xH:List D->R D:=zr 7 Yp
def sc__law_blocks:FnScope ["_law_script","_law_first","_law_number_here","_law_many","_law_blocks_here","_law_room","_law_j"] ["_law_script","_law_first"] (defScope (top 62)):=by constructor<;>first|rfl|decide +kernel
def Y3 (Df:DefIn K mg "_law_blocks" (top 62) ["_law_script","_law_first"])(B:Bl mg)(G:Gl0 K mg)(Cl:Cls K mg)(o9:Own P w K mg base "_law_number" 1 ["_law_script","_law_k"] (spM K zW 2))(o1d:Own P w K mg base "_law_block" 4 ["_law_number_here","_law_room"] (spM K v9 2)):Own P w K mg base "_law_blocks" 5 ["_law_script","_law_first"] (spM K xH 2):=
 Df.mir (k:=4) (Γ':=[.shr,.shr,.dead,.dead,.dead,.dead,.dead]) sc__law_blocks (by decide) fun f cdv A outer s H E hr=>(zf (L2.st 2 sc__law_blocks.nd (zd (zw (o9.mono (by decide)) hr (by exact rfl) zl (z9 (mn 0 .shr) (z9 (mn 1 .shr) zc))))) (zf (L2.st 3 sc__law_blocks.nd (zd (zo zJ ye zt (mn 2 .own) zg))) (zf (zP (zD (zC hr.u12) xj xi (zo zJ ye zt (zo zH zV zt (mn 2 .own) zg) zg) zg (zA _)) (zj (L2.st 3 sc__law_blocks.nd (zd zg))) zy) (zf (L2.st 4 sc__law_blocks.nd (zd (yq zc))) (zf (L2.st 5 sc__law_blocks.nd (zd zg)) (zf (vd (Γ2:=[.shr,.shr,.own,.own,.own,.own,.shr]) PassesOwn.leaving rfl (vn rfl B.range (z9 (mn 3 .own) zc)) (by decide) (yA (pgn 6 sc__law_blocks.nd)) (by decide) (zf (L2.st 2 sc__law_blocks.nd (zd (zo zz zY zX (zw (o9.mono (by decide)) hr (by exact rfl) zl (z9 (mn 0 .shr) (z9 (zo zz zY zX (zo zz zY zX (mn 1 .shr) zg) (zo zJ ye zt (mn 6 .shr) zg)) zc))) (zo uh kC kL zg (zo zH zV zt (mn 6 .shr) zg))))) (zf (zP (MW.mt (uU (zD (zC hr.u12) xj xi (mn 3 .own) zg (zA _)) (vH (zD X7 QY zt (zo zJ ye zt (mn 2 .own) zg) zg (zA _))))) (zj (L2.st 2 sc__law_blocks.nd (zd (zo Wc QB zt (mn 2 .own) zg)))) zy) (zf (app 4 (zd (zw (o1d.mono (by decide)) hr (by exact rfl) zl (z9 (mn 2 .own) (z9 (mn 5 .own) zc))))) (zj (zP (zD (zC hr.u12) xj xi (zG hr.u1 (zG hr.u1 (mn 4 .own) (U6 zg)) zg) zk (zA _)) (zj (L2.st 5 sc__law_blocks.nd (zd (zo Wc QB zt (mn 5 .own) (zB (km rfl) JE KA (by exact rfl) B.sum PyProof.Rows.boot_sum (z9 (xu (N':=["_law_pair"]) (fr:=[none]) rfl (xn sc__law_blocks.nofree (by decide +kernel)) (yH (zG hr.u1 (zG hr.u1 (mn 4 .own) (U6 zg)) zg)) (fun _ _ _ _=>(yA (pgn 0 (show List.Nodup (["_law_pair"]:List Str) from by decide +kernel)))) (fun _ _ _ _=>yS) (fun _ _ _ _=>(zB zE x9 yZ (by exact rfl) B.len PySem.boot_len (z9 (zG hr.u1 (mn 0 .brw) zg) zc))) (by decide) (by decide)) zc)))))) zy))))) rfl) (zj (zu (mvn 4)))))))))
def bTr:Tn->R Fl:=(uV 1 (ze zL (ze zL (eC (.str "|")) (eSm y9 (eC (.str "|")) (z8 (xl [none] (zQ (za 2)) (.one 0) (fun _=>.ok true) (ze zL (ze zL (eC (.str " ")) (eSm y9 (eC (.str " ")) (z8 (za 0) zb))) (eC (.str " ")))) zb))) (eC (.str "|"))))
def bTp:Tn->R Fl:=(uV 1 (ze zL (za 3) (eSm y9 (eC (.str "")) (z8 (xl [none] (zQ (za 4)) (.one 0) (fun _=>.ok true) (ze zL (ze zL (eC (.str "{")) (eSm y9 (eC (.str " ")) (z8 (za 0) zb))) (eC (.str "}")))) zb))))
def Yh:Tn->R Fl:=(zh (sIf (zi (ze (eqR false) (ze ixD (za 0) (eC (.int 0))) (eC (.str "leaf")))) (zp (eC (.str "~"))) zm) (zh (sIf (zi (ze (eqR false) (ze ixD (za 0) (eC (.int 0))) (eC (.str "head")))) (zp (ze zL (eC (.str "= ")) (eSm y9 (eC (.str " ")) (z8 (ze ixD (za 0) (eC (.int 1))) zb)))) zm) (zh (zq 1 (eL (fun ds=>.ok (.lst ds)) zb)) (zh (sIf (zi (ze (eqR false) (ze ixD (za 0) (eC (.int 0))) (eC (.str "table")))) (zh (yY (zQ (ze ixD (za 0) (eC (.int 1)))) (.one 2) bTr) (zp (eSm y9 (eC (.str "\n")) (z8 (za 1) zb)))) zm) (zh (yY (zQ (ze ixD (za 0) (eC (.int 1)))) (.many [3,4]) bTp) (zp (eSm y9 (eC (.str " ")) (z8 (za 1) zb))))))))
def yi:List D->R D:=zr 5 Yh
def sc__law_text_of:FnScope ["_law_block_here","_law_rows","_law_row","_law_word_here","_law_notes"] ["_law_block_here"] (defScope (top 63)):=by constructor<;>first|rfl|decide +kernel
def kX (Df:DefIn K mg "_law_text_of" (top 63) ["_law_block_here"])(B:Bl mg)(G:Gl0 K mg)(Cl:Cls K mg) :Own P w K mg base "_law_text_of" 1 ["_law_block_here"] (spM K yi 1):=
 Df.mir (k:=0) (Γ':=[.shr,.dead,.dead,.dead,.dead]) sc__law_text_of (by decide) fun f cdv A outer s H E hr=>(zf (zP (zD (zC hr.u12) xj xi (zG hr.u1 (mn 0 .shr) zg) zk (zA _)) (zj (zu (zd zk))) zy) (zf (zP (zD (zC hr.u12) xj xi (zG hr.u1 (mn 0 .shr) zg) zk (zA _)) (zj (zu (zd (zo zz zY zX zk (xy jQx jQy jQz yM xR xT zk (z9 (zG hr.u1 (mn 0 .shr) zg) zc)))))) zy) (zf (L2.st 1 sc__law_text_of.nd (zd (yq zc))) (zf (zP (zD (zC hr.u12) xj xi (zG hr.u1 (mn 0 .shr) zg) zk (zA _)) (zf (vd (Γ2:=[.shr,.own,.shr,.dead,.dead]) PassesOwn.leaving rfl (yH (zG hr.u1 (mn 0 .shr) zg)) (by decide) (yA (pgn 2 sc__law_text_of.nd)) (by decide) (zj (app 1 (zd (zo zz zY zX (zo zz zY zX zk (xy jQx jQy jQz yM xR xT zk (z9 (xu (N':=["_law_cell"]) (fr:=[none]) rfl (xn sc__law_text_of.nofree (by decide +kernel)) (yH (mn 2 .shr)) (fun _ _ _ _=>(yA (pgn 0 (show List.Nodup (["_law_cell"]:List Str) from by decide +kernel)))) (fun _ _ _ _=>yS) (fun _ _ _ _=>(zo zz zY zX (zo zz zY zX zk (xy jQx jQy jQz yM xR xT zk (z9 (mn 0 .shr) zc))) zk)) (by decide) (by decide)) zc))) zk)))) rfl) (zj (zu (zd (xy jQx jQy jQz yM xR xT zk (z9 (mn 1 .own) zc)))))) zy) (zf (vd (Γ2:=[.shr,.own,.dead,.shr,.shr]) PassesOwn.leaving rfl (yH (zG hr.u1 (mn 0 .shr) zg)) (by decide) (qP rfl (xX (pgn 3 sc__law_text_of.nd) (xX (pgn 4 sc__law_text_of.nd) qN))) (by decide) (zj (app 1 (zd (zo zz zY zX (mn 3 .shr) (xy jQx jQy jQz yM xR xT zk (z9 (xu (N':=["_law_note"]) (fr:=[none]) rfl (xn sc__law_text_of.nofree (by decide +kernel)) (yH (mn 4 .shr)) (fun _ _ _ _=>(yA (pgn 0 (show List.Nodup (["_law_note"]:List Str) from by decide +kernel)))) (fun _ _ _ _=>yS) (fun _ _ _ _=>(zo zz zY zX (zo zz zY zX zk (xy jQx jQy jQz yM xR xT zk (z9 (mn 0 .shr) zc))) zk)) (by decide) (by decide)) zc)))))) rfl) (zj (zu (zd (xy jQx jQy jQz yM xR xT zk (z9 (mn 1 .own) zc))))))))))
def X1:Tn->R Fl:=(zq 2 (ze zL (za 2) (ze ixD (eL (fun ds=>.ok (.lst ds)) (z8 (eC (.str " ")) (z8 (eC (.str "  ")) (z8 (eC (.str "\n")) (z8 (eC (.str " \n  ")) zb))))) (ze y0 (ze yf (za 1) (eC (.int 7))) (eC (.int 4))))))
def X2:Tn->R Fl:=(zq 2 (ze zL (ze zL (za 2) (eC (.str "{"))) (ze ixD (eL (fun ds=>.ok (.lst ds)) (z8 (eC (.str "")) (z8 (eC (.str "")) (z8 (eC (.str " ")) (z8 (eC (.str "\n")) zb))))) (ze y0 (ze yf (za 1) (eC (.int 7))) (eC (.int 4))))))
def X3:Tn->R Fl:=(zq 2 (ze zL (ze zL (za 2) (ze ixD (eL (fun ds=>.ok (.lst ds)) (z8 (eC (.str "")) (z8 (eC (.str "")) (z8 (eC (.str "  ")) (z8 (eC (.str "\n ")) zb))))) (ze y0 (ze yf (za 1) (eC (.int 7))) (eC (.int 4))))) (eC (.str "}"))))
def bX:Tn->R Fl:=(zh (zq 1 (eL yj (z8 (za 1) zb))) (sIf (zi (ze (eqR false) (za 3) (eC (.str " ")))) X1 (sIf (zi (ze (eqR false) (za 3) (eC (.str "{")))) X2 (sIf (zi (ze (eqR false) (za 3) (eC (.str "}")))) X3 (zq 2 (ze zL (za 2) (za 3)))))))
def jM:Tn->R Fl:=(zh (zq 2 (eC (.str ""))) (zh (yY (zQ (za 0)) (.one 3) bX) (zp (za 2))))
def yI:List D->R D:=zr 4 jM
def sc__law_loose_text:FnScope ["_law_line","_law_number_here","_law_found","_law_sign"] ["_law_line","_law_number_here"] (defScope (top 64)):=by constructor<;>first|rfl|decide +kernel
def ji (Df:DefIn K mg "_law_loose_text" (top 64) ["_law_line","_law_number_here"])(B:Bl mg)(G:Gl0 K mg)(Cl:Cls K mg)(o5:Own P w K mg base "_law_next" 1 ["_law_number_here"] (spM K yj 1)):Own P w K mg base "_law_loose_text" 2 ["_law_line","_law_number_here"] (spM K yI 2):=
 Df.mir (k:=1) (Γ':=[.shr,.shr,.dead,.dead]) sc__law_loose_text (by decide) fun f cdv A outer s H E hr=>(zf (L2.st 2 sc__law_loose_text.nd (zd zk)) (zf (vd (Γ2:=[.shr,.own,.own,.shr]) PassesOwn.leaving rfl (yH (mn 0 .shr)) (by decide) (yA (pgn 3 sc__law_loose_text.nd)) (by decide) (zf (L2.st 1 sc__law_loose_text.nd (zd (zw (o5.mono (by decide)) hr (by exact rfl) zl (z9 (mn 1 .shr) zc)))) (zj (zP (zD (zC hr.u12) xj xi (mn 3 .shr) zk (zA _)) (zj (L2.st 2 sc__law_loose_text.nd (zd (zo zz zY zX (mn 2 .own) (zG hr.u1 (yq (z9 zk (z9 zk (z9 zk (z9 zk zc))))) (zo zJ ye zt (zo zH zV zt (mn 1 .own) zg) zg)))))) (zj (zP (zD (zC hr.u12) xj xi (mn 3 .shr) zk (zA _)) (zj (L2.st 2 sc__law_loose_text.nd (zd (zo zz zY zX (zo zz zY zX (mn 2 .own) zk) (zG hr.u1 (yq (z9 zk (z9 zk (z9 zk (z9 zk zc))))) (zo zJ ye zt (zo zH zV zt (mn 1 .own) zg) zg)))))) (zj (zP (zD (zC hr.u12) xj xi (mn 3 .shr) zk (zA _)) (zj (L2.st 2 sc__law_loose_text.nd (zd (zo zz zY zX (zo zz zY zX (mn 2 .own) (zG hr.u1 (yq (z9 zk (z9 zk (z9 zk (z9 zk zc))))) (zo zJ ye zt (zo zH zV zt (mn 1 .own) zg) zg))) zk)))) (zj (L2.st 2 sc__law_loose_text.nd (zd (zo zz zY zX (mn 2 .own) (mn 3 .shr)))))))))))) rfl) (zj (zu (mvn 2)))))
def W5:Tn->R Fl:=(zq 5 (eSm xM (za 4) (z8 (eC (.str " ")) zb)))
def W6:Tn->R Fl:=(zq 6 (ze zL (ze zL (eSl (za 5) xD (yL (eC (.int 1)))) (eL (fun ds=>.ok (.lst ds)) (z8 (ze kB (eC (.str " ")) (ze y0 (ze yf (za 1) (eC (.int 15))) (eC (.int 2)))) zb))) (eSl (za 5) (yL (eC (.int 1))) xD)))
def W7:Tn->R Fl:=(zq 7 (ze zL (eSl (eC (.str "  ")) xD (yL (ze y0 (ze yf (za 1) (eC (.int 5))) (eC (.int 3))))) (eSm qA (eSm y9 (eC (.str " ")) (z8 (za 6) zb)) (z8 (eC (.str " ")) zb))))
def W8:Tn->R Fl:=(uV 3 (ze zL (za 7) (eSl (eC (.str "  ")) xD (yL (ze y0 (ze yf (za 1) (eC (.int 30))) (eC (.int 3)))))))
def W1:Tn->R Fl:=(zq 1 (eL yj (z8 (za 1) zb)))
def bLr:Tn->R Fl:=(zh W1 (zh W5 (zh W6 (zh W7 W8))))
def jc:Tn->R Fl:=(zh (zq 2 (eL yi (z8 (za 0) zb))) (zh (sIf (zi (ze (eqR false) (ze ixD (za 0) (eC (.int 0))) (eC (.str "text")))) (zp (eL yI (z8 (za 2) (z8 (za 1) zb)))) zm) (zh (zq 3 (eL (fun ds=>.ok (.lst ds)) zb)) (zh (yY (zQ (eSm xM (za 2) (z8 (eC (.str "\n")) zb))) (.one 4) bLr) (zp (eSm y9 (eC (.str "\n")) (z8 (za 3) zb)))))))
def yU:List D->R D:=zr 8 jc
def sc__law_loose_block:FnScope ["_law_block_here","_law_number_here","_law_text","_law_rows","_law_row","_law_words_here","_law_more","_law_line"] ["_law_block_here","_law_number_here"] (defScope (top 65)):=by constructor<;>first|rfl|decide +kernel
def qR (Df:DefIn K mg "_law_loose_block" (top 65) ["_law_block_here","_law_number_here"])(B:Bl mg)(G:Gl0 K mg)(Cl:Cls K mg)(oh:Own P w K mg base "_law_text_of" 1 ["_law_block_here"] (spM K yi 1))(oy:Own P w K mg base "_law_loose_text" 2 ["_law_line","_law_number_here"] (spM K yI 2))(o5:Own P w K mg base "_law_next" 1 ["_law_number_here"] (spM K yj 1)):Own P w K mg base "_law_loose_block" 3 ["_law_block_here","_law_number_here"] (spM K yU 2):=
 Df.mir (k:=2) (Γ':=[.shr,.shr,.dead,.dead,.dead,.dead,.dead,.dead]) sc__law_loose_block (by decide) fun f cdv A outer s H E hr=>(zf (L2.st 2 sc__law_loose_block.nd (zd (zw (oh.mono (by decide)) hr (by exact rfl) zl (z9 (mn 0 .shr) zc)))) (zf (zP (zD (zC hr.u12) xj xi (zG hr.u1 (mn 0 .shr) zg) zk (zA _)) (zj (zu (zd (zw (oy.mono (by decide)) hr (by exact rfl) zl (z9 (mn 2 .own) (z9 (mn 1 .shr) zc)))))) zy) (zf (L2.st 3 sc__law_loose_block.nd (zd (yq zc))) (zf (vd (Γ2:=[.shr,.own,.own,.own,.shr,.own,.own,.own]) PassesOwn.leaving rfl (yH (xy jQx jQ0 jQ1 uB jV jv (mn 2 .own) (z9 zk zc))) (by decide) (yA (pgn 4 sc__law_loose_block.nd)) (by decide) (zf (L2.st 1 sc__law_loose_block.nd (zd (zw (o5.mono (by decide)) hr (by exact rfl) zl (z9 (mn 1 .shr) zc)))) (zf (L2.st 5 sc__law_loose_block.nd (zd (xy jQx jQ0 jQ1 uB jV jv (mn 4 .shr) (z9 zk zc)))) (zf (L2.st 6 sc__law_loose_block.nd (zd (zo zz zY zX (zo zz zY zX (qk (mn 5 .own) wa (xb zg)) (yq (z9 (zo Qy KS JR zk (zo zJ ye zt (zo zH zV zt (mn 1 .own) zg) zg)) zc))) (qk (mn 5 .own) (xb zg) wa)))) (zf (L2.st 7 sc__law_loose_block.nd (zd (zo zz zY zX (qk zk wa (xb (zo zJ ye zt (zo zH zV zt (mn 1 .own) zg) zg))) (xy jQx jQ8 jQ9 Xe Qs Q0 (xy jQx jQy jQz yM xR xT zk (z9 (mn 6 .own) zc)) (z9 zk zc))))) (zj (app 3 (zd (zo zz zY zX (mn 7 .own) (qk zk wa (xb (zo zJ ye zt (zo zH zV zt (mn 1 .own) zg) zg))))))))))) rfl) (zj (zu (zd (xy jQx jQy jQz yM xR xT zk (z9 (mn 3 .own) zc)))))))))
def bLo:Tn->R Fl:=(zh (zq 1 (eL yj (z8 (za 1) zb))) (zh (zq 2 (ze zL (za 2) (eL yU (z8 (za 3) (z8 (za 1) zb))))) (zq 2 (ze zL (za 2) (ze ixD (eL (fun ds=>.ok (.lst ds)) (z8 (eC (.str "\n\n")) (z8 (eC (.str " \n \n")) (z8 (eC (.str "\n\n\n")) zb)))) (ze y0 (ze yf (za 1) (eC (.int 5))) (eC (.int 3))))))))
def Xr:Tn->R Fl:=(zh (zq 2 (ze ixD (eL (fun ds=>.ok (.lst ds)) (z8 (eC (.str "")) (z8 (eC (.str "\n")) (z8 (eC (.str " \n\n")) zb)))) (ze y0 (za 1) (eC (.int 3))))) (zh (yY (zQ (za 0)) (.one 3) bLo) (zp (za 2))))
def xU:List D->R D:=zr 4 Xr
def sc__law_loose:FnScope ["_law_blocks_here","_law_number_here","_law_found","_law_block_here"] ["_law_blocks_here","_law_number_here"] (defScope (top 66)):=by constructor<;>first|rfl|decide +kernel
def YD (Df:DefIn K mg "_law_loose" (top 66) ["_law_blocks_here","_law_number_here"])(B:Bl mg)(G:Gl0 K mg)(Cl:Cls K mg)(o5:Own P w K mg base "_law_next" 1 ["_law_number_here"] (spM K yj 1))(ow:Own P w K mg base "_law_loose_block" 3 ["_law_block_here","_law_number_here"] (spM K yU 2)):Own P w K mg base "_law_loose" 4 ["_law_blocks_here","_law_number_here"] (spM K xU 2):=
 Df.mir (k:=3) (Γ':=[.shr,.shr,.dead,.dead]) sc__law_loose (by decide) fun f cdv A outer s H E hr=>(zf (L2.st 2 sc__law_loose.nd (zd (zG hr.u1 (yq (z9 zk (z9 zk (z9 zk zc)))) (zo zJ ye zt (mn 1 .shr) zg)))) (zf (vd (Γ2:=[.shr,.own,.own,.shr]) PassesOwn.leaving rfl (yH (mn 0 .shr)) (by decide) (yA (pgn 3 sc__law_loose.nd)) (by decide) (zf (L2.st 1 sc__law_loose.nd (zd (zw (o5.mono (by decide)) hr (by exact rfl) zl (z9 (mn 1 .shr) zc)))) (zf (L2.st 2 sc__law_loose.nd (zd (zo zz zY zX (mn 2 .own) (zw (ow.mono (by decide)) hr (by exact rfl) zl (z9 (mn 3 .shr) (z9 (mn 1 .own) zc)))))) (zj (L2.st 2 sc__law_loose.nd (zd (zo zz zY zX (mn 2 .own) (zG hr.u1 (yq (z9 zk (z9 zk (z9 zk zc)))) (zo zJ ye zt (zo zH zV zt (mn 1 .own) zg) zg)))))))) rfl) (zj (zu (mvn 2)))))
def vB:Tn->R Fl:=(zp (ze ixD (eL (fun ds=>.ok (.lst ds)) (z8 (eC (.str "")) (z8 (eC (.str "a b")) (z8 (ze kB (eC (.str "a")) (eC (.int 41))) (z8 (eC .non) (z8 (eC (.int 5)) (z8 (eL Vw (z8 (eC (.str "a")) zb)) (z8 (eL (fun ds=>.ok (.tup ds)) (z8 (eC (.str "a")) zb)) (z8 (eC (.str "a\n")) (z8 (eC (.str "a{")) (z8 (eC (.bl true)) zb))))))))))) (ze y0 (za 0) (eC (.int 10)))))
def zK:List D->R D:=zr 1 vB
def ky:FnScope ["_law_number_here"] ["_law_number_here"] (defScope (top 67)):=by constructor<;>first|rfl|decide +kernel
def kz (Df:DefIn K mg "_law_bad_word" (top 67) ["_law_number_here"])(B:Bl mg)(G:Gl0 K mg)(Cl:Cls K mg) :Own P w K mg base "_law_bad_word" 1 ["_law_number_here"] (spM K zK 1):=
 Df.mir (k:=0) (Γ':=[.shr]) ky (by decide) fun f cdv A outer s H E hr=>(zj (zu (zd (zG hr.u1 (yq (z9 zk (z9 zk (z9 (zo Qy KS JR zk zg) (z9 qB (z9 zg (z9 (Xl (z9 zk zc)) (z9 (zF (z9 zk zc)) (z9 zk (z9 zk (z9 wG zc))))))))))) (zo zJ ye zt (mn 0 .shr) zg)))))
def kN:Tn->R Fl:=(zp (ze ud (ze ud (WN (za 0) xD (yL (za 1))) (eL (fun ds=>.ok (.tup ds)) (z8 (za 2) zb))) (WN (za 0) (yL (ze zL (za 1) (eC (.int 1)))) xD)))
def yy:List D->R D:=zr 3 kN
def Xy:FnScope ["_law_row","_law_at","_law_thing"] ["_law_row","_law_at","_law_thing"] (defScope (top 68)):=by constructor<;>first|rfl|decide +kernel
def Wq (Df:DefIn K mg "_law_with" (top 68) ["_law_row","_law_at","_law_thing"])(B:Bl mg)(G:Gl0 K mg)(Cl:Cls K mg) :Own P w K mg base "_law_with" 1 ["_law_row","_law_at","_law_thing"] (spM K yy 3):=
 Df.mir (k:=0) (Γ':=[.shr,.shr,.shr]) Xy (by decide) fun f cdv A outer s H E hr=>(zj (zu (zd (zo uP je jk (zo uP je jk (Yo (mn 0 .shr) wa (xb (mn 1 .shr))) (zF (z9 (mn 2 .shr) zc))) (Yo (mn 0 .shr) (xb (zo zz zY zX (mn 1 .shr) zg)) wa)))))
def P1:Tn->R Fl:=(sIf (zi (ze (eqR false) (za 4) (eC (.int 0)))) (zp (qm (eL (fun ds=>.ok (.tup ds)) (z8 (eL zK (z8 (ze yf (za 1) (eC (.int 6))) zb)) (z8 (za 3) zb))))) zm)
def P2:Tn->R Fl:=(sIf (zi (ze (eqR false) (za 4) (eC (.int 1)))) (zp (qm (ze ixD (eL (fun ds=>.ok (.lst ds)) (z8 (eL Vw (z8 (za 2) (z8 (za 3) zb))) (z8 (eL (fun ds=>.ok (.tup ds)) (z8 (za 2) zb)) (z8 (eL (fun ds=>.ok (.tup ds)) (z8 (za 2) (z8 (eUn U4 (eL vC (z8 (za 3) zb))) zb))) (z8 (eL (fun ds=>.ok (.tup ds)) (z8 (za 2) (z8 (za 3) (z8 (eL (fun ds=>.ok (.tup ds)) zb) zb)))) zb))))) (ze y0 (ze yf (za 1) (eC (.int 6))) (eC (.int 4)))))) zm)
def P3:Tn->R Fl:=(zq 5 (ze ixD (ze ud (za 3) (eL (fun ds=>.ok (.tup ds)) (z8 (eL (fun ds=>.ok (.tup ds)) (z8 (eC (.str "c")) (z8 (eC (.str "d")) (z8 (eC (.str "e")) zb)))) zb))) (ze y0 (ze yf (za 1) (eC (.int 6))) (ze zL (eL yE (z8 (za 3) zb)) (eC (.int 1))))))
def P4:Tn->R Fl:=(zq 6 (eL yy (z8 (za 5) (z8 (ze y0 (ze yf (za 1) (eC (.int 60))) (eL yE (z8 (za 5) zb))) (z8 (eL zK (z8 (ze yf (za 1) (eC (.int 600))) zb)) zb)))))
def P5:Tn->R Fl:=(sIf (zi (ze (eqR false) (za 4) (eC (.int 2)))) (zq 6 (ze ixD (eL (fun ds=>.ok (.lst ds)) (z8 (eUn U4 (eL vC (z8 (za 5) zb))) (z8 (eL (fun ds=>.ok (.tup ds)) zb) (z8 (eC .non) (z8 (eC (.str "c")) zb))))) (ze y0 (ze yf (za 1) (eC (.int 60))) (eC (.int 4))))) zm)
def P6:Tn->R Fl:=(sIf (zi (ze (eqR false) (eL yE (z8 (za 3) zb)) (eC (.int 0)))) (zp (qm (eL (fun ds=>.ok (.tup ds)) (z8 (za 2) (z8 (eL (fun ds=>.ok (.tup ds)) (z8 (za 6) zb)) zb))))) zm)
def P7:Tn->R Fl:=(zp (qm (eL (fun ds=>.ok (.tup ds)) (z8 (za 2) (z8 (eL yy (z8 (za 3) (z8 (ze y0 (ze yf (za 1) (eC (.int 6))) (eL yE (z8 (za 3) zb))) (z8 (za 6) zb)))) zb)))))
def kR:Tn->R Fl:=(zh (Yt (.many [2,3]) (za 0)) (zh (zq 4 (ze y0 (za 1) (eC (.int 6)))) (zh P1 (zh P2 (zh P3 (zh P4 (zh P5 (zh P6 P7))))))))
def xY:List D->R D:=zr 7 kR
def sc__law_bad_pair:FnScope ["_law_pair","_law_number_here","_law_word_here","_law_notes","_law_way","_law_note","_law_bad"] ["_law_pair","_law_number_here"] (defScope (top 69)):=by constructor<;>first|rfl|decide +kernel
def ke (Df:DefIn K mg "_law_bad_pair" (top 69) ["_law_pair","_law_number_here"])(B:Bl mg)(G:Gl0 K mg)(Cl:Cls K mg)(o7:Own P w K mg base "_law_with" 1 ["_law_row","_law_at","_law_thing"] (spM K yy 3))(o6:Own P w K mg base "_law_bad_word" 1 ["_law_number_here"] (spM K zK 1)):Own P w K mg base "_law_bad_pair" 2 ["_law_pair","_law_number_here"] (spM K xY 2):=
 Df.mir (k:=1) (Γ':=[.shr,.shr,.dead,.dead,.dead,.dead,.dead]) sc__law_bad_pair (by decide) fun f cdv A outer s H E hr=>(zf (z3z (mn 0 .shr) (by decide) (qP rfl (xX (pgn 2 sc__law_bad_pair.nd) (xX (pgn 3 sc__law_bad_pair.nd) qN))) (by decide)) (zf (L2.st 4 sc__law_bad_pair.nd (zd (zo zJ ye zt (mn 1 .shr) zg))) (zf (zP (zD (zC hr.u12) xj xi (mn 4 .own) zg (zA _)) (zj (zu (zd (vV (zF (z9 (zw (o6.mono (by decide)) hr (by exact rfl) zl (z9 (zo zH zV zt (mn 1 .shr) zg) zc)) (z9 (mn 3 .shr) zc))))))) zy) (zf (zP (zD (zC hr.u12) xj xi (mn 4 .own) zg (zA _)) (zj (zu (zd (vV (zG hr.u1 (yq (z9 (Xl (z9 (mn 2 .shr) (z9 (mn 3 .shr) zc))) (z9 (zF (z9 (mn 2 .shr) zc)) (z9 (zF (z9 (mn 2 .shr) (z9 (Z4 (yN wZ jP jA (by exact rfl) B.list Boot.«list» (z9 (mn 3 .shr) zc))) zc))) (z9 (zF (z9 (mn 2 .shr) (z9 (mn 3 .shr) (z9 (zF zc) zc)))) zc))))) (zo zJ ye zt (zo zH zV zt (mn 1 .shr) zg) zg)))))) zy) (zf (L2.st 5 sc__law_bad_pair.nd (zd (zG hr.u1 (zo uP je jk (mn 3 .shr) (zF (z9 (zF (z9 zk (z9 zk (z9 zk zc)))) zc))) (zo zJ ye zt (zo zH zV zt (mn 1 .shr) zg) (zo zz zY zX (zB zE x9 yZ (by exact rfl) B.len PySem.boot_len (z9 (mn 3 .shr) zc)) zg))))) (zf (L2.st 6 sc__law_bad_pair.nd (zd (zw (o7.mono (by decide)) hr (by exact rfl) zl (z9 (mn 5 .own) (z9 (zo zJ ye zt (zo zH zV zt (mn 1 .shr) zg) (zB zE x9 yZ (by exact rfl) B.len PySem.boot_len (z9 (mn 5 .own) zc))) (z9 (zw (o6.mono (by decide)) hr (by exact rfl) zl (z9 (zo zH zV zt (mn 1 .shr) zg) zc)) zc)))))) (zf (zP (zD (zC hr.u12) xj xi (mn 4 .own) zg (zA _)) (zj (L2.st 6 sc__law_bad_pair.nd (zd (zG hr.u1 (yq (z9 (Z4 (yN wZ jP jA (by exact rfl) B.list Boot.«list» (z9 (mn 5 .own) zc))) (z9 (zF zc) (z9 qB (z9 zk zc))))) (zo zJ ye zt (zo zH zV zt (mn 1 .shr) zg) zg))))) zy) (zf (zP (zD (zC hr.u12) xj xi (zB zE x9 yZ (by exact rfl) B.len PySem.boot_len (z9 (mn 3 .shr) zc)) zg (zA _)) (zj (zu (zd (vV (zF (z9 (mn 2 .shr) (z9 (zF (z9 (mn 6 .own) zc)) zc))))))) zy) (zj (zu (zd (vV (zF (z9 (mn 2 .shr) (z9 (zw (o7.mono (by decide)) hr (by exact rfl) zl (z9 (mn 3 .shr) (z9 (zo zJ ye zt (zo zH zV zt (mn 1 .shr) zg) (zB zE x9 yZ (by exact rfl) B.len PySem.boot_len (z9 (mn 3 .shr) zc))) (z9 (mn 6 .own) zc)))) zc)))))))))))))))
def R1:Tn->R Fl:=(sIf (wo (zi (ze (eqR false) (za 3) (eC (.int 0)))) (zi (ze gtD (za 2) (eC (.int 1))))) (zp (ze ixD (eL (fun ds=>.ok (.lst ds)) (z8 (WN (za 0) (yL (eC (.int 1))) xD) (z8 (ze ud (za 0) (eL (fun ds=>.ok (.tup ds)) (z8 (eL (fun ds=>.ok (.tup ds)) zb) zb))) zb))) (ze y0 (ze yf (za 1) (eC (.int 4))) (eC (.int 2))))) zm)
def R2:Tn->R Fl:=(sIf (zi (ze (eqR false) (za 3) (eC (.int 1)))) (zp (eUn U4 (eL vC (z8 (za 0) zb)))) zm)
def R3:Tn->R Fl:=(zq 4 (ze y0 (ze yf (za 1) (eC (.int 4))) (eL yE (z8 (za 0) zb))))
def R4:Tn->R Fl:=(sIf (zi (ze (eqR false) (za 3) (eC (.int 2)))) (zp (eL yy (z8 (za 0) (z8 (za 4) (z8 (ze ixD (eL (fun ds=>.ok (.lst ds)) (z8 (eUn U4 (eL vC (z8 (ze ixD (za 0) (za 4)) zb))) (z8 (eC .non) (z8 (eC (.str "a")) (z8 (ze ud (ze ixD (za 0) (za 4)) (ze qY (eL (fun ds=>.ok (.tup ds)) (z8 (eC (.str "b")) zb)) (eC (.int 13)))) zb))))) (ze y0 (ze yf (za 1) (eC (.int 20))) (eC (.int 4)))) zb))))) zm)
def R5:Tn->R Fl:=(zq 5 (ze y0 (ze yf (za 1) (eC (.int 20))) (ze zL (eL yE (z8 (ze ixD (za 0) (za 4)) zb)) (eC (.int 1)))))
def R6:Tn->R Fl:=(zp (eL yy (z8 (za 0) (z8 (za 4) (z8 (ze ud (ze ud (WN (ze ixD (za 0) (za 4)) xD (yL (za 5))) (eL (fun ds=>.ok (.tup ds)) (z8 (eL zK (z8 (ze yf (za 1) (eC (.int 260))) zb)) zb))) (WN (ze ixD (za 0) (za 4)) (yL (za 5)) xD)) zb)))))
def Ym:Tn->R Fl:=(zh (zq 3 (ze y0 (za 1) (eC (.int 4)))) (zh R1 (zh R2 (zh R3 (zh R4 (zh R5 R6))))))
def wq:List D->R D:=zr 6 Ym
def sc__law_bad_row:FnScope ["_law_row","_law_number_here","_law_size","_law_way","_law_at","_law_place"] ["_law_row","_law_number_here","_law_size"] (defScope (top 70)):=by constructor<;>first|rfl|decide +kernel
def kW (Df:DefIn K mg "_law_bad_row" (top 70) ["_law_row","_law_number_here","_law_size"])(B:Bl mg)(G:Gl0 K mg)(Cl:Cls K mg)(o7:Own P w K mg base "_law_with" 1 ["_law_row","_law_at","_law_thing"] (spM K yy 3))(o6:Own P w K mg base "_law_bad_word" 1 ["_law_number_here"] (spM K zK 1)):Own P w K mg base "_law_bad_row" 2 ["_law_row","_law_number_here","_law_size"] (spM K wq 3):=
 Df.mir (k:=1) (Γ':=[.shr,.shr,.shr,.dead,.dead,.dead]) sc__law_bad_row (by decide) fun f cdv A outer s H E hr=>(zf (L2.st 3 sc__law_bad_row.nd (zd (zo zJ ye zt (mn 1 .shr) zg))) (zf (zP (MW.mt (uU (zD (zC hr.u12) xj xi (mn 3 .own) zg (zA _)) (vH (zD X7 QY zt (mn 2 .shr) zg (zA _))))) (zj (zu (zd (zG hr.u1 (yq (z9 (Yo (mn 0 .shr) (xb zg) wa) (z9 (zo uP je jk (mn 0 .shr) (zF (z9 (zF zc) zc))) zc))) (zo zJ ye zt (zo zH zV zt (mn 1 .shr) zg) zg))))) zy) (zf (zP (zD (zC hr.u12) xj xi (mn 3 .own) zg (zA _)) (zj (zu (zd (Z4 (yN wZ jP jA (by exact rfl) B.list Boot.«list» (z9 (mn 0 .shr) zc)))))) zy) (zf (L2.st 4 sc__law_bad_row.nd (zd (zo zJ ye zt (zo zH zV zt (mn 1 .shr) zg) (zB zE x9 yZ (by exact rfl) B.len PySem.boot_len (z9 (mn 0 .shr) zc))))) (zf (zP (zD (zC hr.u12) xj xi (mn 3 .own) zg (zA _)) (zj (zu (zd (zw (o7.mono (by decide)) hr (by exact rfl) zl (z9 (mn 0 .shr) (z9 (mn 4 .own) (z9 (zG hr.u1 (yq (z9 (Z4 (yN wZ jP jA (by exact rfl) B.list Boot.«list» (z9 (zG hr.u1 (mn 0 .shr) (mn 4 .own)) zc))) (z9 qB (z9 zk (z9 (zo uP je jk (zG hr.u1 (mn 0 .shr) (mn 4 .own)) (zo Q8 KR z0i (zF (z9 zk zc)) zg)) zc))))) (zo zJ ye zt (zo zH zV zt (mn 1 .shr) zg) zg)) zc))))))) zy) (zf (L2.st 5 sc__law_bad_row.nd (zd (zo zJ ye zt (zo zH zV zt (mn 1 .shr) zg) (zo zz zY zX (zB zE x9 yZ (by exact rfl) B.len PySem.boot_len (z9 (zG hr.u1 (mn 0 .shr) (mn 4 .own)) zc)) zg)))) (zj (zu (zd (zw (o7.mono (by decide)) hr (by exact rfl) zl (z9 (mn 0 .shr) (z9 (mn 4 .own) (z9 (zo uP je jk (zo uP je jk (Yo (zG hr.u1 (mn 0 .shr) (mn 4 .own)) wa (xb (mn 5 .own))) (zF (z9 (zw (o6.mono (by decide)) hr (by exact rfl) zl (z9 (zo zH zV zt (mn 1 .shr) zg) zc)) zc))) (Yo (zG hr.u1 (mn 0 .shr) (mn 4 .own)) (xb (mn 5 .own)) wa)) zc)))))))))))))
def S1:Tn->R Fl:=(sIf (zi (ze (eqR false) (ze ixD (za 0) (eC (.int 0))) (eC (.str "leaf")))) (zp (ze ixD (eL (fun ds=>.ok (.lst ds)) (z8 (eL (fun ds=>.ok (.tup ds)) (z8 (eC (.str "leaf")) (z8 (eL (fun ds=>.ok (.tup ds)) zb) zb))) (z8 (eL (fun ds=>.ok (.tup ds)) (z8 (eC (.str "leaf")) (z8 (eC .non) zb))) (z8 (eL Vw (z8 (eC (.str "leaf")) zb)) zb)))) (ze y0 (za 1) (eC (.int 3))))) zm)
def S2:Tn->R Fl:=(zq 2 (ze y0 (za 1) (eL yE (z8 (ze ixD (za 0) (eC (.int 1))) zb))))
def S3:Tn->R Fl:=(zq 3 (ze yf (za 1) (eC (.int 7))))
def S4:Tn->R Fl:=(sIf (zi (ze (eqR false) (ze ixD (za 0) (eC (.int 0))) (eC (.str "head")))) (zp (eL (fun ds=>.ok (.tup ds)) (z8 (eC (.str "head")) (z8 (eL yy (z8 (ze ixD (za 0) (eC (.int 1))) (z8 (za 2) (z8 (eL zK (z8 (za 3) zb)) zb)))) zb)))) zm)
def S5:Tn->R Fl:=(sIf (zi (ze (eqR false) (ze ixD (za 0) (eC (.int 0))) (eC (.str "text")))) (zp (eL (fun ds=>.ok (.tup ds)) (z8 (eC (.str "text")) (z8 (eL yy (z8 (ze ixD (za 0) (eC (.int 1))) (z8 (za 2) (z8 (eL xY (z8 (ze ixD (ze ixD (za 0) (eC (.int 1))) (za 2)) (z8 (za 3) zb))) zb)))) zb)))) zm)
def S6:Tn->R Fl:=(zp (eL (fun ds=>.ok (.tup ds)) (z8 (eC (.str "table")) (z8 (eL yy (z8 (ze ixD (za 0) (eC (.int 1))) (z8 (za 2) (z8 (eL wq (z8 (ze ixD (ze ixD (za 0) (eC (.int 1))) (za 2)) (z8 (za 3) (z8 (eL yE (z8 (ze ixD (za 0) (eC (.int 1))) zb)) zb)))) zb)))) zb))))
def Yx:Tn->R Fl:=(zh S1 (zh S2 (zh S3 (zh S4 (zh S5 S6)))))
def w6:List D->R D:=zr 4 Yx
def sc__law_spoilt:FnScope ["_law_block_here","_law_number_here","_law_at","_law_more"] ["_law_block_here","_law_number_here"] (defScope (top 71)):=by constructor<;>first|rfl|decide +kernel
def Yi (Df:DefIn K mg "_law_spoilt" (top 71) ["_law_block_here","_law_number_here"])(B:Bl mg)(G:Gl0 K mg)(Cl:Cls K mg)(o7:Own P w K mg base "_law_with" 1 ["_law_row","_law_at","_law_thing"] (spM K yy 3))(o0e:Own P w K mg base "_law_bad_row" 2 ["_law_row","_law_number_here","_law_size"] (spM K wq 3))(o6:Own P w K mg base "_law_bad_word" 1 ["_law_number_here"] (spM K zK 1))(o0b:Own P w K mg base "_law_bad_pair" 2 ["_law_pair","_law_number_here"] (spM K xY 2)):Own P w K mg base "_law_spoilt" 3 ["_law_block_here","_law_number_here"] (spM K w6 2):=
 Df.mir (k:=2) (Γ':=[.shr,.shr,.dead,.dead]) sc__law_spoilt (by decide) fun f cdv A outer s H E hr=>(zf (zP (zD (zC hr.u12) xj xi (zG hr.u1 (mn 0 .shr) zg) zk (zA _)) (zj (zu (zd (zG hr.u1 (yq (z9 (zF (z9 zk (z9 (zF zc) zc))) (z9 (zF (z9 zk (z9 qB zc))) (z9 (Xl (z9 zk zc)) zc)))) (zo zJ ye zt (mn 1 .shr) zg))))) zy) (zf (L2.st 2 sc__law_spoilt.nd (zd (zo zJ ye zt (mn 1 .shr) (zB zE x9 yZ (by exact rfl) B.len PySem.boot_len (z9 (zG hr.u1 (mn 0 .shr) zg) zc))))) (zf (L2.st 3 sc__law_spoilt.nd (zd (zo zH zV zt (mn 1 .shr) zg))) (zf (zP (zD (zC hr.u12) xj xi (zG hr.u1 (mn 0 .shr) zg) zk (zA _)) (zj (zu (zd (zF (z9 zk (z9 (zw (o7.mono (by decide)) hr (by exact rfl) zl (z9 (zG hr.u1 (mn 0 .shr) zg) (z9 (mn 2 .own) (z9 (zw (o6.mono (by decide)) hr (by exact rfl) zl (z9 (mn 3 .own) zc)) zc)))) zc)))))) zy) (zf (zP (zD (zC hr.u12) xj xi (zG hr.u1 (mn 0 .shr) zg) zk (zA _)) (zj (zu (zd (zF (z9 zk (z9 (zw (o7.mono (by decide)) hr (by exact rfl) zl (z9 (zG hr.u1 (mn 0 .shr) zg) (z9 (mn 2 .own) (z9 (zw (o0b.mono (by decide)) hr (by exact rfl) zl (z9 (zG hr.u1 (zG hr.u1 (mn 0 .shr) zg) (mn 2 .own)) (z9 (mn 3 .own) zc))) zc)))) zc)))))) zy) (zj (zu (zd (zF (z9 zk (z9 (zw (o7.mono (by decide)) hr (by exact rfl) zl (z9 (zG hr.u1 (mn 0 .shr) zg) (z9 (mn 2 .own) (z9 (zw (o0e.mono (by decide)) hr (by exact rfl) zl (z9 (zG hr.u1 (zG hr.u1 (mn 0 .shr) zg) (mn 2 .own)) (z9 (mn 3 .own) (z9 (zB zE x9 yZ (by exact rfl) B.len PySem.boot_len (z9 (zG hr.u1 (mn 0 .shr) zg) zc)) zc)))) zc)))) zc)))))))))))
def kP:Tn->R Fl:=(zh (sIf (bOr (yh (zi (eUn (xO "list") (za 0)))) (zi (ze (eqR true) (za 0) (za 1)))) (zp (eC (.bl false))) zm) (zh (uV 0 (eL (fun ds=>.ok (.tup ds)) (z8 (eC (.str "leaf")) zb))) (zp (eC (.bl true)))))
def yX:List D->R D:=zr 2 kP
def Xq:FnScope ["_law_found","_law_blocks_here"] ["_law_found","_law_blocks_here"] (defScope (top 72)):=by constructor<;>first|rfl|decide +kernel
def Xs (Df:DefIn K mg "_law_same" (top 72) ["_law_found","_law_blocks_here"])(B:Bl mg)(G:Gl0 K mg)(Cl:Cls K mg) :Own P w K mg base "_law_same" 1 ["_law_found","_law_blocks_here"] (spO K yX 2):=
 Df.mirO (k:=0) (Γ':=[.own,.shr]) Xq (by decide) fun f cdv A outer s H E hr=>(zf (zP (MW.mt (vO (yR (xh (vg (T:="list") (by decide) rfl B.isinstance (xQ (v:=.ty "list") rfl B.list Boot.«list» rfl) (mn 0 .own)))) (vk (zD (vc hr.u12) xj xi (mn 0 .own) (mn 1 .shr) (zA _))))) (zj (zu (zd wG))) zy) (zf (app 0 (zd (zF (z9 zk zc)))) (zj (zu (zd wG)))))
def Jy:(["_law_blocks_here","error"]:List Str).Nodup:=by decide +kernel
def vi:Str->Option D:=fun m=>if m="BadBlocks" then some (.bl true) else none
def ku:List Stmt:=match defBody (top 73)with
 | .Try _ [.ExceptHandler _ _ b _] _ _ _::_=>b
 | _=>[]
abbrev cxR (P:Program)(w:World)(K:jJa)(mg:Str->Option Value)(base:Heap)(f:Addr)(cdv:Value)(A:Around)(outer:List Env)(s:Shared)(H:Hp)(E:XK):Cx:=vp (cxx P w) P w K mg base ["_law_blocks_here","error"] "_law_refused" (defScope (top 73)) f cdv A outer s H E
def j9 (Cl:Cls K mg)(B:Bl mg)(f:Addr)(cdv:Value)(A:Around)(outer:List Env)(s:Shared)(H:Hp)(E:XK):
  ∃CS,(cxR P w K mg base f cdv A outer s H E).mg "SetError"=some (.ref CS)/\Suite (cxR P w K mg base f cdv A outer s H E) CS 1 ku vi:=by
 obtain⟨CS,CT,c1,c2,c3,c4,c5,c6,c7,c8,c9,hS,eT,iT,mT,kV,xS,⟨m1,k1⟩,⟨m2,k2⟩,⟨m3,k3⟩,⟨m4,k4⟩,⟨m5,k5⟩,⟨m6,k6⟩,⟨m7,k7⟩,⟨m8,k8⟩,⟨m9,k9⟩⟩:=Cl.ex;refine⟨CS,hS,fun m d hg C hC=>?_⟩;have hm:m="BadBlocks"/\d=.bl true:=by
  unfold vi at hg;split at hg
  ·exact⟨by assumption,(jYe hg).symm⟩
  ·cases hg
 obtain⟨rfl,rfl⟩:=hm;have hCT:C=CT:=by
  have h1:jJg K mainGlobals "BadBlocks"=some (some (.ref C)):=hC.ns;rw[eT.ns]at h1;cases h1
  rfl
 subst hCT;refine⟨xS,_,fun e oe =>
  jK (Qd (UA (uE (x:="isinstance") Xh rfl B.isinstance Boot.«isinstance» (yG (pv 1) (yG (Uj (yG (wu (v:=.ref c1) rfl m1 rfl) (yG (wu (v:=.ref c2) rfl m2 rfl) (yG (wu (v:=.ref c3) rfl m3 rfl) (yG (wu (v:=.ref c4) rfl m4 rfl) (yG (wu (v:=.ref c5) rfl m5 rfl) (yG (wu (v:=.ref c6) rfl m6 rfl) vY))))))) vY)))) (jm (Zn JC)) Zf)
  (jK (Qd (UA (uE (x:="isinstance") Xh rfl B.isinstance Boot.«isinstance» (yG (pv 1) (yG (Uj (yG (wu (v:=.ref c7) rfl m7 rfl) (yG (wu (v:=.ref c8) rfl m8 rfl) (yG (wu (v:=.ref c9) rfl m9 rfl) vY)))) vY)))) (jm (Zn JC)) Zf)
  (jm (Zn (z0p (K6 rfl B.isinstance (pv 1) (wu (v:=.ref C) rfl mT rfl)) (Kk (K6 rfl B.isinstance (pv 1) (xQ (v:=.ty "ValueError") rfl Cl.ve Boot.«ValueError» rfl))))))),fun e oe Z σ H1 hl hcls hn hσ hQ=>?_⟩
 have q1:jJm K (.ref C) [.ref c1,.ref c2,.ref c3,.ref c4,.ref c5,.ref c6]=some false:=by simp only[jJm,k1,k2,k3,k4,k5,k6]
 have q2:jJm K (.ref C) [.ref c7,.ref c8,.ref c9]=some false:=by simp only[jJm,k7,k8,k9]
 have q3:jJb K (.ref C) (.ref C)=some true:=by unfold jJb;rw[if_pos (by simp)]
 have mem:(e,oe)∈((cxR P w K mg base f cdv A outer s H E).within e oe).pn:=sD _ (sG.mpr rfl);refine⟨_,hσ,by show 6<=sizeLine;decide,fun p hp=>⟨e,oe,C,p,_,_,false,rfl,mem,hcls,iT,SqT.of zT,.cons (.ref _) (.cons (.ref _) (.cons (.ref _) (.cons (.ref _) (.cons (.ref _) (.cons (.ref _) .nil))))),q1,?_⟩⟩;refine⟨_,rfl,z53 ⟨_,hσ,by show 3<=sizeLine;decide,fun p2 hp2=>⟨e,oe,C,p2,_,_,false,rfl,mem,hcls,iT,SqT.of zT,.cons (.ref _) (.cons (.ref _) (.cons (.ref _) .nil)),q2,?_⟩⟩⟩;refine⟨_,rfl,z53 ⟨_,hσ,_,_,_,_,_,rfl,.exc mem hcls iT,.ref _,q3,true,rfl,z6A ⟨_,hσ,_,_,_,_,_,rfl,.exc mem hcls iT,.ty _,kV,?_⟩⟩⟩;exact hQ _ _ ((Same.new hp).trans (Same.new hp2)) ⟨rfl,rfl⟩
def Y2:Tn->R Fl:=(zh (ZG xJ (z8 (za 0) zb) vi) (zp (eC (.bl false))))
def zU:List D->R D:=zr 2 Y2
def sc__law_refused:FnScope ["_law_blocks_here","error"] ["_law_blocks_here"] (defScope (top 73)):=by constructor<;>first|rfl|decide +kernel
def Z1 (Df:DefIn K mg "_law_refused" (top 73) ["_law_blocks_here"])(B:Bl mg)(G:Gl0 K mg)(Cl:Cls K mg)(o0a:Own P w K mg base "written" 12 ["blocks"] (spM K xJ 1)):Own P w K mg base "_law_refused" 13 ["_law_blocks_here"] (spM K zU 1):=
 Df.mir (k:=12) (Γ':=[.shr,.dead]) sc__law_refused (by decide) fun f cdv A outer s H E hr=>(zf (Kv (o0a.mono (by decide)) sc__law_refused.nd hr rfl (z9 (mn 0 .shr) zc) rfl rfl rfl (show 1<2 by decide) rfl (j9 Cl B f cdv A outer s H E)) (zj (zu (zd wG))))
def qj:Tn->R Fl:=(zh (zq 2 (eL (fun ds=>.ok (.tup ds)) (z8 (eC (.str "text")) (z8 (ze qY (eL (fun ds=>.ok (.tup ds)) (z8 (eL (fun ds=>.ok (.tup ds)) (z8 (eC (.str "a")) (z8 (eL (fun ds=>.ok (.tup ds)) (z8 (eL (fun ds=>.ok (.tup ds)) (z8 (eC (.str "b")) zb)) (z8 (eL (fun ds=>.ok (.tup ds)) (z8 (eC (.str "c")) zb)) (z8 (eL (fun ds=>.ok (.tup ds)) (z8 (eC (.str "d")) zb)) zb)))) zb))) zb)) (eC (.int 20))) zb)))) (zp (ze ixD (eL (fun ds=>.ok (.lst ds)) (z8 (ze u9 (eL (fun ds=>.ok (.lst ds)) (z8 (eL (fun ds=>.ok (.tup ds)) (z8 (eC (.str "leaf")) zb)) zb)) (eC (.int 41))) (z8 (eL (fun ds=>.ok (.lst ds)) (z8 (qm (za 2)) (z8 (eL (fun ds=>.ok (.tup ds)) (z8 (eC (.str "text")) (z8 (eL (fun ds=>.ok (.tup ds)) (z8 (eL (fun ds=>.ok (.tup ds)) (z8 (eC (.str "e")) (z8 (eL (fun ds=>.ok (.tup ds)) (z8 (eL (fun ds=>.ok (.tup ds)) (z8 (eC (.str "f")) zb)) zb)) zb))) zb)) zb))) zb))) (z8 (eL yc (z8 (za 0) zb)) (z8 (eC .non) (z8 (eC (.dic [] [])) (z8 (eC (.str "~")) zb))))))) (ze y0 (za 1) (eC (.int 6))))))
def xA:List D->R D:=zr 3 qj
def sc__law_too_many:FnScope ["_law_blocks_here","_law_number_here","_law_note"] ["_law_blocks_here","_law_number_here"] (defScope (top 74)):=by constructor<;>first|rfl|decide +kernel
def kr (Df:DefIn K mg "_law_too_many" (top 74) ["_law_blocks_here","_law_number_here"])(B:Bl mg)(G:Gl0 K mg)(Cl:Cls K mg) :Own P w K mg base "_law_too_many" 1 ["_law_blocks_here","_law_number_here"] (spM K xA 2):=
 Df.mir (k:=0) (Γ':=[.shr,.shr,.dead]) sc__law_too_many (by decide) fun f cdv A outer s H E hr=>(zf (L2.st 2 sc__law_too_many.nd (zd (zF (z9 zk (z9 (zo Q8 KR z0i (zF (z9 (zF (z9 zk (z9 (zF (z9 (zF (z9 zk zc)) (z9 (zF (z9 zk zc)) (z9 (zF (z9 zk zc)) zc)))) zc))) zc)) zg) zc))))) (zj (zu (zd (zG hr.u1 (yq (z9 (zo uh kC kL (yq (z9 (zF (z9 zk zc)) zc)) zg) (z9 (yq (z9 (vV (mn 2 .own)) (z9 (zF (z9 zk (z9 (zF (z9 (zF (z9 zk (z9 (zF (z9 (zF (z9 zk zc)) zc)) zc))) zc)) zc))) zc))) (z9 (yN yF wt wd (by exact rfl) B.tuple Boot.«tuple» (z9 (mn 0 .shr) zc)) (z9 qB (z9 JZ (z9 zk zc))))))) (zo zJ ye zt (mn 1 .shr) zg))))))
def z2T:Tn->R Fl:=(zh (zq 1 (eL xH (z8 (za 0) (z8 (eC (.int 0)) zb)))) (zh (zq 2 (eL vC (z8 (za 1) zb))) (zh (zq 3 (eSm y9 (eC (.str "\n\n")) (z8 (xl [none] (zQ (za 1)) (.one 0) (fun _=>.ok true) (eL yi (z8 (za 0) zb))) zb))) (zh (zq 4 (eL xJ (z8 (za 2) zb))) (zh (sIf (bOr (yh (zi (eUn (xO "str") (za 4)))) (bOr (zi (ze (eqR true) (za 4) (za 3))) (zi (ze (eqR true) (za 2) (za 1))))) (zp (eC (.bl false))) zm) (zh (sIf (bOr (yh (zi (eL (fun ds=>qi (yX ds)) (z8 (eL vA (z8 (za 3) zb)) (z8 (za 1) zb))))) (yh (zi (eL (fun ds=>qi (yX ds)) (z8 (eL vA (z8 (za 3) zb)) (z8 (za 1) zb)))))) (zp (eC (.bl false))) zm) (zh (sIf (yh (zi (eL (fun ds=>qi (yX ds)) (z8 (eL vA (z8 (eL xU (z8 (za 1) (z8 (eL zW (z8 (za 0) (z8 (eC (.int 8)) zb))) zb))) zb)) (z8 (za 1) zb))))) (zp (eC (.bl false))) zm) (zh (zq 5 (eL zW (z8 (za 0) (z8 (eC (.int 9)) zb)))) (zh (zq 6 (ze y0 (za 5) (ze zL (eL yE (z8 (za 1) zb)) (eC (.int 1))))) (zh (sIf (yh (zi (eL zU (z8 (eL xA (z8 (za 1) (z8 (ze yf (za 5) (eC (.int 300))) zb))) zb)))) (zp (eC (.bl false))) zm) (zh (zq 7 (eL (fun ds=>.ok (.lst ds)) (z8 (eL (fun ds=>.ok (.tup ds)) (z8 (eC (.str "head")) (z8 (eL (fun ds=>.ok (.tup ds)) zb) zb))) (z8 (eL (fun ds=>.ok (.tup ds)) (z8 (eC (.str "leaf")) (z8 (eL (fun ds=>.ok (.tup ds)) zb) zb))) (z8 (eL (fun ds=>.ok (.tup ds)) (z8 (eC (.str "text")) (z8 (eL (fun ds=>.ok (.tup ds)) zb) zb))) (z8 (eC .non) (z8 (eL (fun ds=>.ok (.tup ds)) (z8 (eC (.str "table")) (z8 (eL (fun ds=>.ok (.tup ds)) (z8 (eL (fun ds=>.ok (.tup ds)) zb) zb)) zb))) (z8 (eL (fun ds=>.ok (.tup ds)) (z8 (eC (.str "head")) (z8 (eL (fun ds=>.ok (.tup ds)) (z8 (eC (.str "a b")) zb)) zb))) zb)))))))) (zh (zq 8 (qm (ze ixD (za 7) (ze y0 (ze yf (za 5) (eC (.int 50))) (eC (.int 6)))))) (zh (sIf (yh (zi (eL zU (z8 (ze zL (ze zL (eSl (za 1) xD (yL (za 6))) (eL (fun ds=>.ok (.lst ds)) (z8 (za 8) zb))) (eSl (za 1) (yL (za 6)) xD)) zb)))) (zp (eC (.bl false))) zm) (zh (sIf (zi (ze (eqR false) (za 1) (eL (fun ds=>.ok (.lst ds)) zb))) (zp (eC (.bl true))) zm) (zh (zq 6 (ze y0 (za 6) (eL yE (z8 (za 1) zb)))) (zh (zq 8 (eL w6 (z8 (ze ixD (za 1) (za 6)) (z8 (ze yf (za 5) (eC (.int 300))) zb)))) (zp (eL zU (z8 (ze zL (ze zL (eSl (za 1) xD (yL (za 6))) (eL (fun ds=>.ok (.lst ds)) (z8 (za 8) zb))) (eSl (za 1) (yL (ze zL (za 6) (eC (.int 1)))) xD)) zb)))))))))))))))))))
def F_law:List D->R D:=zr 9 z2T
def sc_law:FnScope ["_law_script","_law_blocks_here","_law_handed","_law_text","_law_told","_law_number_here","_law_at","_law_odd","_law_bad"] ["_law_script"] (defScope (top 75)):=by constructor<;>first|rfl|decide +kernel
def z02 (B:Bl mg)(G:Gl0 K mg)(Cl:Cls K mg)(o0g:Own P w K mg base "_law_blocks" 5 ["_law_script","_law_first"] (spM K xH 2))(o0a:Own P w K mg base "written" 12 ["blocks"] (spM K xJ 1))(o9:Own P w K mg base "_law_number" 1 ["_law_script","_law_k"] (spM K zW 2))(o0h:Own P w K mg base "_law_spoilt" 3 ["_law_block_here","_law_number_here"] (spM K w6 2))(oo:Own P w K mg base "_law_refused" 13 ["_law_blocks_here"] (spM K zU 1))(oz:Own P w K mg base "_law_same" 1 ["_law_found","_law_blocks_here"] (spO K yX 2))(oh:Own P w K mg base "_law_text_of" 1 ["_law_block_here"] (spM K yi 1))(o2j:Own P w K mg base "read" 10 ["text"] (spM K vA 1))(o0c:Own P w K mg base "_law_too_many" 1 ["_law_blocks_here","_law_number_here"] (spM K xA 2))(o1e:Own P w K mg base "_law_loose" 4 ["_law_blocks_here","_law_number_here"] (spM K xU 2)):∀(f:Addr) (cdv:Value) (A:Around) (outer:List Env) (s:Shared) (H:Hp) (E:XK),Room 13 (A.deeper (envOfC "law" (defScope (top 75)) s.heap.objs.size f cdv))->MSs (vp (cxx P w) P w K mg base ["_law_script","_law_blocks_here","_law_handed","_law_text","_law_told","_law_number_here","_law_at","_law_odd","_law_bad"] "law" (defScope (top 75)) f cdv A outer s H E) E [] (qd 9 1) (defBody (top 75)) z2T [.shr,.dead,.dead,.dead,.dead,.dead,.dead,.dead,.dead]:=
 fun f cdv A outer s H E hr=>(zf (L2.st 1 sc_law.nd (zd (zw (o0g.mono (by decide)) hr (by exact rfl) zl (z9 (mn 0 .shr) (z9 zg zc))))) (zf (L2.st 2 sc_law.nd (zd (yN wZ jP jA (by exact rfl) B.list Boot.«list» (z9 (mn 1 .own) zc)))) (zf (L2.st 3 sc_law.nd (zd (xy jQx jQy jQz yM xR xT zk (z9 (xu (N':=["_law_block_here"]) (fr:=[none]) rfl (xn sc_law.nofree (by decide +kernel)) (yH (mn 1 .own)) (fun _ _ _ _=>(yA (pgn 0 (show List.Nodup (["_law_block_here"]:List Str) from by decide +kernel)))) (fun _ _ _ _=>yS) (fun _ _ _ _=>(zw (oh.mono (by decide)) hr (by exact rfl) yO (z9 (mn 0 .brw) zc))) (by decide) (by decide)) zc)))) (zf (L2.st 4 sc_law.nd (zd (zw (o0a.mono (by decide)) hr (by exact rfl) zl (z9 (mn 2 .own) zc)))) (zf (zP (MW.mt (vO (yR (xh (vg (T:="str") (by decide) rfl B.isinstance (xQ (v:=.ty "str") rfl B.str Boot.«str» rfl) (mn 4 .own)))) (vO (zD (vc hr.u12) xj xi (mn 4 .own) (mn 3 .own) (zA _)) (vk (zD (vc hr.u12) xj xi (mn 2 .own) (mn 1 .own) (zA _)))))) (zj (zu (zd wG))) zy) (zf (zP (MW.mt (vO (yR (xh (Yj (oz.mono (by decide)) hr (by exact rfl) zl (zw (o2j.mono (by decide)) hr (by exact rfl) zl (z9 (mn 3 .own) zc)) (z9 (mn 1 .shr) zc) (by decide)))) (vk (yR (xh (Yj (oz.mono (by decide)) hr (by exact rfl) zl (zw (o2j.mono (by decide)) hr (by exact rfl) zl (z9 (mn 3 .own) zc)) (z9 (mn 1 .shr) zc) (by decide))))))) (zj (zu (zd wG))) zy) (zf (zP (yR (xh (Yj (oz.mono (by decide)) hr (by exact rfl) zl (zw (o2j.mono (by decide)) hr (by exact rfl) zl (z9 (zw (o1e.mono (by decide)) hr (by exact rfl) zl (z9 (mn 1 .own) (z9 (zw (o9.mono (by decide)) hr (by exact rfl) zl (z9 (mn 0 .shr) (z9 zg zc))) zc))) zc)) (z9 (mn 1 .shr) zc) (by decide)))) (zj (zu (zd wG))) zy) (zf (L2.st 5 sc_law.nd (zd (zw (o9.mono (by decide)) hr (by exact rfl) zl (z9 (mn 0 .shr) (z9 zg zc))))) (zf (L2.st 6 sc_law.nd (zd (zo zJ ye zt (mn 5 .own) (zo zz zY zX (zB zE x9 yZ (by exact rfl) B.len PySem.boot_len (z9 (mn 1 .own) zc)) zg)))) (zf (zP (yR (xh (zw (oo.mono (by decide)) hr (by exact rfl) zl (z9 (zw (o0c.mono (by decide)) hr (by exact rfl) zl (z9 (mn 1 .own) (z9 (zo zH zV zt (mn 5 .own) zg) zc))) zc)))) (zj (zu (zd wG))) zy) (zf (L2.st 7 sc_law.nd (zd (yq (z9 (zF (z9 zk (z9 (zF zc) zc))) (z9 (zF (z9 zk (z9 (zF zc) zc))) (z9 (zF (z9 zk (z9 (zF zc) zc))) (z9 qB (z9 (zF (z9 zk (z9 (zF (z9 (zF zc) zc)) zc))) (z9 (zF (z9 zk (z9 (zF (z9 zk zc)) zc))) zc))))))))) (zf (L2.st 8 sc_law.nd (zd (vV (zG hr.u1 (mn 7 .own) (zo zJ ye zt (zo zH zV zt (mn 5 .own) zg) zg))))) (zf (zP (yR (xh (zw (oo.mono (by decide)) hr (by exact rfl) zl (z9 (zo zz zY zX (zo zz zY zX (qk (mn 1 .own) wa (xb (mn 6 .own))) (yq (z9 (mn 8 .own) zc))) (qk (mn 1 .own) (xb (mn 6 .own)) wa)) zc)))) (zj (zu (zd wG))) zy) (zf (zP (zD (zC hr.u12) xj xi (mn 1 .own) (yq zc) (zA _)) (zj (zu (zd wG))) zy) (zf (L2.st 6 sc_law.nd (zd (zo zJ ye zt (mn 6 .own) (zB zE x9 yZ (by exact rfl) B.len PySem.boot_len (z9 (mn 1 .own) zc))))) (zf (L2.st 8 sc_law.nd (zd (zw (o0h.mono (by decide)) hr (by exact rfl) zl (z9 (zG hr.u1 (mn 1 .own) (mn 6 .own)) (z9 (zo zH zV zt (mn 5 .own) zg) zc))))) (zj (zu (zd (zw (oo.mono (by decide)) hr (by exact rfl) zl (z9 (zo zz zY zX (zo zz zY zX (qk (mn 1 .own) wa (xb (mn 6 .own))) (yq (z9 (mn 8 .own) zc))) (qk (mn 1 .own) (xb (zo zz zY zX (mn 6 .own) zg)) wa)) zc)))))))))))))))))))))
end
def dvD (i j:Int)(h1:autoParam (0<j) L2.au1._auto_1)(h2:autoParam (j<1073741824) L2.au1._auto_1):yf (.int i) (.int j)=.ok (.int (i/j)):=vK h1 h2
def mdD (i j:Int)(h1:autoParam (0<j) L2.au1._auto_1):y0 (.int i) (.int j)=.ok (.int (i%j)):=wO h1
def ju (G:List D->R D):Tn->R Fl:=(zh (sIf (bOr (yh (zi (eUn (xO "tuple") (za 0)))) (yh (zi (w8 leD leD (za 1) (eL yE (z8 (za 0) zb)) (za 2))))) (zp (eC (.bl false))) zm) (zp (eL vP (z8 (xl [none,some 3] (zQ (za 0)) (.one 0) (fun _=>.ok true) (eL G (z8 (za 0) zb))) zb))))
def jZ:zx=zr 4 (ju yk):=rfl
def UJ:yr=zr 4 (ju wy):=rfl
def UL:yn=zr 4 (ju wC):=rfl
def V9:zM=zr 4 (ju xW):=rfl
def z0E:yo=zr 4 (ju xB):=rfl
def xv {α:Type}(g:α->D):∀Q:List α,Q.filterMap (fun q=>some (g q))=Q.map g
 | []=>rfl
 | q::Q=>by rw[rH,xv g Q];rfl
def Xa:∀bs:List Bool,vv (bs.map D.bl)=some bs
 | []=>rfl
 | b::bs=>by rw[tG];show (vv (bs.map D.bl)).map (b::·)=_;rw[Xa bs];rfl
def XG (G:List D->R D)(d lo hi:D)(h:xO "tuple" d=.ok (.bl false)):zr 4 (ju G) [d,lo,hi]=.ok (.bl false):=by
 simp only[ju,zI,yt,yw,ka,zm,zr,zh,zp,sIf,za,eC,eUn,eL,zb,z8,zi,bOr,yh,w8,zQ,asB,jYa,tG,tX,tF,tR,sA,tJ,tQ,tO,tD,tE,Nat.reduceAdd,Nat.reduceSub,tY,if_true,h,rP]
def UW {α:Type}(G:List D->R D)(en:α->D)(b:α->Bool)(xs:List α)(hG:∀x∈xs,G [en x]=.ok (.bl (b x)))(lo hi:Int)(hl:xs.length<=10000)(h1:lo<=(xs.length:Nat))(h2:((xs.length:Nat):Int)<=hi):zr 4 (ju G) [.tup (xs.map en),.int lo,.int hi]=.ok (.bl (xs.all b)):=by
 have e1:xO "tuple" (.tup (xs.map en))=.ok (.bl true):=rfl;have e2:yE [.tup (xs.map en)]=.ok (.int (xs.length:Nat)):=by
  show R.ok (D.int ((xs.map en).length:Nat))=_;rw[tU]
 have e3:decide (lo<=((xs.length:Nat):Int))=true:=decide_eq_true h1;have e4:decide (((xs.length:Nat):Int)<=hi)=true:=decide_eq_true h2;have k1:yQ (ya (Tgt.one 0).asg (fun _=>.ok true) (eL G (z8 (za 0) zb)) [none,none]) (xs.map en)=.ok (xs.filterMap fun x=>some (D.bl (b x))):=ym fun x hx=>by
  have hg:=hG x hx;unfold ya;simp only[za,eL,zb,z8,Tgt.asg,jYa,tD,tI,if_true,hg]
  rfl
 rw[xv]at k1;have i1:uz (xs.map fun x=>D.bl (b x))=.ok (.lst (xs.map fun x=>D.bl (b x))):=xt (by rw[tU];omega);have a1:vP [.lst (xs.map fun x=>D.bl (b x))]=.ok (.bl (xs.all b)):=by
  have e:(xs.map fun x=>D.bl (b x))=(xs.map b).map D.bl:=by rw[sR];rfl
  show (match vv (xs.map fun x=>D.bl (b x))with|some bs=>R.ok (D.bl (bs.all id))|none=>.bad)=_;rw[e,Xa];show R.ok (D.bl ((xs.map b).all id))=_;rw[hZ]
  rfl
 simp only[ju,zI,yt,yw,ka,Wh,zm,zr,zh,zp,sIf,za,eC,eUn,eL,zb,z8,zi,bOr,yh,w8,zQ,asB,xk,jYa,tG,tX,tF,tR,sA,tJ,tQ,tO,tD,tE,Nat.reduceAdd,Nat.reduceSub,tY,Yg,if_true,if_false,tK,e1,e2,e3,e4,k1,i1,a1,sT]
def isF:R D->Bool
 | .ok (.bl false)=>true
 | _=>false
def isT:R D->Bool
 | .ok (.bl true)=>true
 | _=>false
def vw:∀ {r:R D},isF r=true->r=.ok (.bl false)
 | .ok (.bl false),_=>rfl
 | .ok (.bl true),h=>by cases h
 | .ok .non,h=>by cases h
 | .ok (.int _),h=>by cases h
 | .ok (.str _),h=>by cases h
 | .ok (.tup _),h=>by cases h
 | .ok (.lst _),h=>by cases h
 | .ok (.dic _ _),h=>by cases h
 | .ok (.frl _),h=>by cases h
 | .err _,h=>by cases h
 | .bad,h=>by cases h
def z65 (k:Nat):Bool:=match zK [.int (k:Nat)]with
 | .ok d=>d.imm&&isF (yk [d])
 | _=>false
def kQ:(List.range 10).all z65=true:=by decide +kernel
def S (l:List Nat):Str:=⟨l.toArray⟩
def xC (l:List Nat):(S l).length=l.length:=sM
def uc (l:List Nat):(S l).cps.toList=l:=List.toList_toArray
def Qz (z:Str):z=S z.cps.toList:=by
 obtain⟨a⟩:=z;show (⟨a⟩:Str)=⟨a.toList.toArray⟩
 rw[Array.toArray_toList]
def Qh (a b:List Nat):S a++S b=S (a++b):=by
 rw[Qz (S a++S b),z2b,uc,uc]
def one (c:Nat):Str:=S [c]
def z5A {cs:List Nat}{i:Int}{c:Nat}(hl:cs.length<=1000)(h0:0<=i)(h:cs[i.toNat]?=some c):ixD (.str (S cs)) (.int i)=.ok (.str (one c)):=
 KG (by rw[xC,sizeLine_eq];omega) (Ku h0 (by rw[uc];exact h))
def z5i {i:Int}{p:Nat->Prop}(hz:z.length<=1000)(h0:0<=i)(h1:i<z.length)(hp:∀c∈z.cps.toList,p c):∃c,ixD (.str z) (.int i)=.ok (.str (one c))/\p c:=by
 have hl:z.cps.toList.length=z.length:=by simp[Str.length]
 have hi:i.toNat<z.cps.toList.length:=by omega
 refine⟨z.cps.toList[i.toNat],?_,hp _ (rF hi)⟩;have:=z5A (cs:=z.cps.toList) (i:=i) (by omega) h0 (rG hi);rw[<-Qz z]at this;exact this
abbrev Z2:Str:="abcdefghijklmnopqrstuvwxyzABCDEFGHIJKLMNOPQRSTUVWXYZ0123456789.,;:!?'\"()-/"
def okS (c:Nat):Prop:=c∈Z2.cps.toList
def z44:Z2.length=74:=by decide +kernel
def z5w:∀c∈Z2.cps.toList,okS c:=fun _ h=>h
def Qi (c:Nat)(z:Str):inS (one c) z=decide (c∈z.cps.toList):=StrLaws.found_one z c
def Vr (c:Nat):D:=.str (one c)
def Km (l:List Nat)(h:l.length<=1000):yE [.str (S l)]=.ok (.int (l.length:Nat)):=by rw[Q4 (by rw[xC,sizeLine_eq];omega),xC]
def Jx (A:Str)(c:Nat):zr 1 (zp (vT (eUn (xO "str") (za 0)) (vT (ze (eqR false) (eL yE (z8 (za 0) zb)) (eC (.int 1))) (ze VL (za 0) (eC (.str A)))))) [.str (one c)]=.ok (.bl (decide (c∈A.cps.toList))):=by
 have h1:xO "str" (.str (one c))=.ok (.bl true):=rfl;have h2:=Km [c] (by simp);have h2:yE [.str (one c)]=.ok (.int 1):=h2;have h3:VL (.str (one c)) (.str A)=.ok (.bl (decide (c∈A.cps.toList))):=by
  show R.ok (D.bl (inS (one c) A))=_;rw[Qi]
 have h4:eqR false (.int 1) (.int 1)=.ok (.bl true):=by rw[zZ];rfl
 simp only[zr,zp,za,eC,ze,eUn,eL,zb,z8,vT,asB,jYa,tG,tX,tF,tR,tJ,tQ,tO,tD,Nat.reduceSub,tY,if_true,h1,h2,h3,h4]
instance (c:Nat):Decidable (okS c):=by unfold okS;infer_instance
def z2c (c:Nat):uD [.str (one c)]=.ok (.bl (decide (okS c))):=Jx Z2 c
def UQ (cs:List Nat):L2.signs (S cs)=cs.map Vr:=by
 unfold L2.signs;rw[uc]
 rfl
def V1 (cs:List Nat)(h0:1<=cs.length)(h1:cs.length<=40):yk [.str (S cs)]=.ok (.bl (cs.all fun c=>decide (okS c))):=by
 have i1:xO "str" (.str (S cs))=.ok (.bl true):=rfl;have h2:=Km cs (by omega);have e1:decide ((1:Int)<=(cs.length:Nat))=true:=decide_eq_true (by omega);have e2:decide (((cs.length:Nat):Int)<=40)=true:=decide_eq_true (by omega);have hc:yQ (ya (Tgt.one 0).asg (fun _=>.ok true) (eL uD (z8 (za 0) zb)) [none]) (cs.map Vr)=.ok (cs.filterMap fun c=>some (D.bl (decide (okS c)))):=ym fun c _=>by
  have:=z2c c;unfold Vr;simp only[ya,yz,za,eL,zb,z8,Tgt.asg,jYa,tD,tI,if_true,this]
 have e3:(cs.filterMap fun c=>some (D.bl (decide (okS c))))=(cs.map fun c=>decide (okS c)).map D.bl:=by
  rw[sR];clear hc e2 e1 h2 i1 h1 h0;induction cs with
  | nil=>rfl
  | cons c cs ih=>rw[rH,tG,ih];rfl
 rw[e3]at hc;have hk:=xt (ys:=(cs.map fun c=>decide (okS c)).map D.bl) (by rw[tU,tU];omega);have ha:=Zh (bs:=cs.map fun c=>decide (okS c));have e4:((cs.map fun c=>decide (okS c)).all id)=cs.all fun c=>decide (okS c):=by rw[hZ];rfl
 rw[e4]at ha;have hs:=UQ cs;have hq:xk (.str (S cs))=.ok (cs.map Vr):=by show R.ok (L2.signs (S cs))=_;rw[hs]
 simp only[yk,uH,zI,yt,yw,zm,zr,zh,zp,sIf,za,eC,eUn,eL,zb,z8,zi,bOr,yh,w8,zQ,asB,xk,jYa,tG,tX,tF,tR,tJ,tQ,tO,tD,Nat.reduceSub,tY,Yg,if_true,if_false,tK,i1,h2,e1,e2,sT,hs,hc,hk,ha]
def z2K (cs:List Nat)(h:cs.length=0\/40<cs.length)(hl:cs.length<=1000):yk [.str (S cs)]=.ok (.bl false):=by
 have i1:xO "str" (.str (S cs))=.ok (.bl true):=rfl;have h2:=Km cs hl;rcases h with h|h
 ·have e1:decide ((1:Int)<=(cs.length:Nat))=false:=decide_eq_false (by omega);simp only[yk,uH,zI,yt,yw,zm,zr,zh,zp,sIf,za,eC,eUn,eL,zb,z8,zi,bOr,yh,w8,zQ,asB,jYa,tG,tX,tF,tR,tJ,tQ,tO,tD,Nat.reduceSub,tY,Yg,if_true,if_false,tK,i1,h2,e1,sT,rP]
 ·have e1:decide ((1:Int)<=(cs.length:Nat))=true:=decide_eq_true (by omega);have e2:decide (((cs.length:Nat):Int)<=40)=false:=decide_eq_false (by omega);simp only[yk,uH,zI,yt,yw,zm,zr,zh,zp,sIf,za,eC,eUn,eL,zb,z8,zi,bOr,yh,w8,zQ,asB,jYa,tG,tX,tF,tR,tJ,tQ,tO,tD,Nat.reduceSub,tY,Yg,if_true,if_false,tK,i1,h2,e1,e2,sT,rP]
def z4l (d:D)(h:xO "str" d=.ok (.bl false)):yk [d]=.ok (.bl false):=by
 simp only[yk,uH,zI,yt,yw,zm,zr,zh,zp,sIf,za,eC,eUn,eL,zb,z8,zi,bOr,yh,w8,zQ,asB,jYa,tG,tX,tF,tR,tJ,tQ,tO,tD,Nat.reduceSub,tY,if_true,h,rP]
def VR {b:Nat}(hb:b<=xs.length):j6 xs none (some (b:Int))=xs.take b:=by
 unfold j6;rw[HT.sIx_nat,HT.sIx_none,Nat.min_eq_left hb]
 rfl
def Zp {a:Nat}(ha:a<=xs.length):j6 xs (some (a:Int)) none=xs.drop a:=by
 unfold j6;rw[HT.sIx_nat,HT.sIx_none,Nat.min_eq_left ha];exact rS (by rw[rL];omega)
def z6X (h1:u τ=.ok ds)(h2:F ds=.err m)(h3:g m=some d):ZG F u g τ=.ok (.rt d):=by
 unfold ZG;simp only[h1,h2,h3]
def z6Y:ixD (.tup (a::b::ds)) (.int 1)=.ok b:=xp
def qE (xs:List D):yE [.tup xs]=.ok (.int (xs.length:Nat)):=rfl
def uA (G:List D->R D)(xs:List D)(hG:∀x∈xs,G [x]=.ok (.bl true))(lo hi:Int)(hl:xs.length<=10000)(h1:lo<=(xs.length:Nat))(h2:((xs.length:Nat):Int)<=hi):zr 4 (ju G) [.tup xs,.int lo,.int hi]=.ok (.bl true):=by
 have h:=UW G id (fun _=>true) xs hG lo hi hl h1 h2;rw[pG]at h;rw[h];have:xs.all (fun _=>true)=true:=by simp
 rw[this]
def jT (G:List D->R D)(xs:List D)(lo hi:Int)(h:((xs.length:Nat):Int)<lo\/hi<(xs.length:Nat)):zr 4 (ju G) [.tup xs,.int lo,.int hi]=.ok (.bl false):=by
 have e1:xO "tuple" (.tup xs)=.ok (.bl true):=rfl;have e2:=qE xs
 by_cases h1:lo<=((xs.length:Nat):Int)
 ·have e3:decide (lo<=((xs.length:Nat):Int))=true:=decide_eq_true h1;have e4:decide (((xs.length:Nat):Int)<=hi)=false:=decide_eq_false (by omega);simp only[ju,zI,yt,yw,ka,zm,zr,zh,zp,sIf,za,eC,eUn,eL,zb,z8,zi,bOr,yh,w8,zQ,asB,jYa,tG,tX,tF,tR,sA,tJ,tQ,tO,tD,tE,Nat.reduceAdd,Nat.reduceSub,tY,Yg,if_true,if_false,tK,e1,e2,e3,e4,sT,rP]
 ·have e3:decide (lo<=((xs.length:Nat):Int))=false:=decide_eq_false h1;simp only[ju,zI,yt,yw,ka,zm,zr,zh,zp,sIf,za,eC,eUn,eL,zb,z8,zi,bOr,yh,w8,zQ,asB,jYa,tG,tX,tF,tR,sA,tJ,tQ,tO,tD,tE,Nat.reduceAdd,Nat.reduceSub,tY,Yg,if_true,if_false,tK,e1,e2,e3,sT,rP]
def z6Z (r:R D):Bool:=isT r
def z5q {r:R D}(h:∃b,r=.ok (.bl b)):r=.ok (.bl (isT r)):=by
 obtain⟨b,rfl⟩:=h;cases b<;>rfl
def vL (G:List D->R D)(xs:List D)(hG:∀x∈xs,∃b,G [x]=.ok (.bl b))(hx:∃x∈xs,G [x]=.ok (.bl false))(lo hi:Int)(hl:xs.length<=10000):zr 4 (ju G) [.tup xs,.int lo,.int hi]=.ok (.bl false):=by
 by_cases h:((xs.length:Nat):Int)<lo\/hi<(xs.length:Nat)
 ·exact jT G xs lo hi h
 ·have h0:=UW G id (fun x=>isT (G [x])) xs (fun x hx=>z5q (hG x hx)) lo hi hl (by omega) (by omega);rw[pG]at h0;rw[h0];obtain⟨x,hx,e⟩:=hx;have:(xs.all fun x=>isT (G [x]))=false:=by
   rw[List.all_eq_false];exact⟨x,hx,by rw[e];decide⟩
  rw[this]
def Wd (d:D):Prop:=yk [d]=.ok (.bl true)/\∃cs,d=.str (S cs)/\1<=cs.length/\cs.length<=40/\∀c∈cs,okS c
def NW (d:D):Prop:=yk [d]=.ok (.bl false)/\d.imm=true
def Wd.imm (h:Wd d):d.imm=true:=by obtain⟨_,z,rfl,_⟩:=h;rfl
def yg:∀ {xs:List D},(∀x∈xs,x.imm=true)->D.imms xs=true
 | [],_=>rfl
 | x::xs,h=>by
  show (x.imm&&D.imms xs)=true;rw[h x tN,yg fun y hy=>h y (tS _ hy)]
  rfl
def Ws (lo hi:Nat)(d:D):Prop:=∃ws,d=.tup ws/\lo<=ws.length/\ws.length<=hi/\∀w∈ws,Wd w
def Ws.imm {lo hi:Nat}(h:Ws lo hi d):d.imm=true:=by
 obtain⟨ws,rfl,_,_,h⟩:=h;exact yg fun w hw=>(h w hw).imm
def Xn {lo hi:Nat}(h:Ws lo hi d)(hh:hi<=1000):zx [d,.int (lo:Nat),.int (hi:Nat)]=.ok (.bl true):=by
 obtain⟨ws,rfl,h1,h2,h⟩:=h;rw[jZ];exact uA _ ws (fun w hw=>(h w hw).1) _ _ (by omega) (by omega) (by omega)
def qt (xs:List D)(hl:xs.length<=10000)(h:∀x∈xs,Wd x\/NW x)(hx:∃x∈xs,NW x)(lo hi:Int):zx [.tup xs,.int lo,.int hi]=.ok (.bl false):=by
 rw[jZ];refine vL _ xs (fun x hx=>?_) ?_ _ _ hl
 ·rcases h x hx with h|h
  ·exact⟨_,h.1⟩
  ·exact⟨_,h.1⟩
 ·obtain⟨x,hx,h⟩:=hx;exact⟨x,hx,h.1⟩
def Z5 (d:D):wy [d]=zx [d,.int 1,.int 30]:=by
 generalize hr:zx [d,.int 1,.int 30]=r;unfold wy Xg;cases r<;>simp only[zr,zp,za,eC,eL,zb,z8,jYa,R.err_bind,R.bad_bind,tG,tX,tF,tR,tJ,tQ,tO,tD,Nat.reduceSub,tY,hr]
def Z8 (d:D):wC [d]=zx [d,.int 0,.int 12]:=by
 generalize hr:zx [d,.int 0,.int 12]=r;unfold wC YL;cases r<;>simp only[zr,zp,za,eC,eL,zb,z8,jYa,R.err_bind,R.bad_bind,tG,tX,tF,tR,tJ,tQ,tO,tD,Nat.reduceSub,tY,hr]
def U0 (d:D):xW [d]=yn [d,.int 1,.int 4]:=by
 generalize hr:yn [d,.int 1,.int 4]=r;unfold xW Vp;cases r<;>simp only[zr,zp,za,eC,eL,zb,z8,jYa,R.err_bind,R.bad_bind,tG,tX,tF,tR,tJ,tQ,tO,tD,Nat.reduceSub,tY,hr]
abbrev Nt (d:D):Prop:=Ws 1 30 d
abbrev Ce (d:D):Prop:=Ws 0 12 d
def Nt.yes (h:Nt d):wy [d]=.ok (.bl true):=by rw[Z5];exact Xn h (by decide)
def Ce.yes (h:Ce d):wC [d]=.ok (.bl true):=by rw[Z8];exact Xn h (by decide)
def NN (d:D):Prop:=wy [d]=.ok (.bl false)/\d.imm=true
def NC (d:D):Prop:=wC [d]=.ok (.bl false)/\d.imm=true
def kd:∀ {r:R D},isT r=true->r=.ok (.bl true)
 | .ok (.bl true),_=>rfl
 | .ok (.bl false),h=>by cases h
 | .ok .non,h=>by cases h
 | .ok (.int _),h=>by cases h
 | .ok (.str _),h=>by cases h
 | .ok (.tup _),h=>by cases h
 | .ok (.lst _),h=>by cases h
 | .ok (.dic _ _),h=>by cases h
 | .ok (.frl _),h=>by cases h
 | .err _,h=>by cases h
 | .bad,h=>by cases h
def z1S (d:D)(h:xO "tuple" d=.ok (.bl false)):xB [d]=.ok (.bl false):=by
 unfold xB qL;simp only[zm,zr,zh,zp,sIf,za,eC,ze,eUn,eL,zb,z8,zi,bOr,yh,vT,asB,jYa,tG,tX,tF,tR,tJ,tQ,tO,tD,Nat.reduceSub,tY,if_true,h,rP]
def WV (xs:List D)(h:xs.length≠2):xB [.tup xs]=.ok (.bl false):=by
 have e1:xO "tuple" (.tup xs)=.ok (.bl true):=rfl;have e2:=qE xs;have e3:eqR true (.int (xs.length:Nat)) (.int 2)=.ok (.bl true):=by
  rw[zZ,if_pos rfl];have:(((xs.length:Nat):Int)==2)=false:=beq_false_of_ne (by omega);rw[this];rfl
 unfold xB qL;simp only[zm,zr,zh,zp,sIf,za,eC,ze,eUn,eL,zb,z8,zi,bOr,yh,vT,asB,jYa,tG,tX,tF,tR,tJ,tQ,tO,tD,Nat.reduceSub,tY,if_true,if_false,tK,e1,e2,e3,sT]
def ZT (w x:D)(b c:Bool)(h1:yk [w]=.ok (.bl b))(h2:b=true->yr [x,.int 0,.int 3]=.ok (.bl c)):xB [.tup [w,x]]=.ok (.bl (b&&c)):=by
 have e1:xO "tuple" (.tup [w,x])=.ok (.bl true):=rfl;have e2:yE [.tup [w,x]]=.ok (.int 2):=rfl;have e3:eqR true (.int 2) (.int 2)=.ok (.bl false):=by rw[zZ];rfl
 unfold xB qL;cases b
 ·simp only[zm,zr,zh,zp,sIf,za,eC,ze,eUn,eL,zb,z8,zi,bOr,yh,vT,asB,jYa,tG,tX,tF,tR,tJ,tQ,tO,tD,Nat.reduceSub,tY,yV,xp,if_false,tK,e1,e2,e3,h1,sT,pJ]
 ·have h2:=h2 rfl;simp only[zm,zr,zh,zp,sIf,za,eC,ze,eUn,eL,zb,z8,zi,bOr,yh,vT,asB,jYa,tG,tX,tF,tR,tJ,tQ,tO,tD,Nat.reduceSub,tY,yV,xp,if_true,if_false,tK,e1,e2,e3,h1,h2,sT,Bool.true_and]
def Pr (d:D):Prop:=∃w ns,d=.tup [w,.tup ns]/\Wd w/\ns.length<=3/\∀n∈ns,Nt n
def NP (d:D):Prop:=xB [d]=.ok (.bl false)/\d.imm=true
def Pr.imm (h:Pr d):d.imm=true:=by
 obtain⟨w,ns,rfl,h1,_,h2⟩:=h;show (w.imm&&(D.imms ns&&true))=true;rw[h1.imm,yg fun n hn=>(h2 n hn).imm]
 rfl
def Pr.yes (h:Pr d):xB [d]=.ok (.bl true):=by
 obtain⟨w,ns,rfl,h1,hl,h2⟩:=h;refine ZT w (.tup ns) true true h1.1 fun _=>?_;rw[UJ];exact uA _ ns (fun n hn=>(h2 n hn).yes) _ _ (by omega) (by omega) (by omega)
def kG (xs:List D)(hl:xs.length<=10000)(h:∀x∈xs,Nt x\/NN x)(hx:∃x∈xs,NN x)(lo hi:Int):yr [.tup xs,.int lo,.int hi]=.ok (.bl false):=by
 rw[UJ];refine vL _ xs (fun x hx=>?_) ?_ _ _ hl
 ·rcases h x hx with h|h
  ·exact⟨_,h.yes⟩
  ·exact⟨_,h.1⟩
 ·obtain⟨x,hx,h⟩:=hx;exact⟨x,hx,h.1⟩
def WC (xs:List D)(hl:xs.length<=10000)(h:∀x∈xs,Pr x\/NP x)(hx:∃x∈xs,NP x)(lo hi:Int):yo [.tup xs,.int lo,.int hi]=.ok (.bl false):=by
 rw[z0E];refine vL _ xs (fun x hx=>?_) ?_ _ _ hl
 ·rcases h x hx with h|h
  ·exact⟨_,h.yes⟩
  ·exact⟨_,h.1⟩
 ·obtain⟨x,hx,h⟩:=hx;exact⟨x,hx,h.1⟩
def Rw (k:Nat)(d:D):Prop:=∃cs,d=.tup cs/\cs.length=k/\∀c∈cs,Ce c
def NR (d:D):Prop:=xW [d]=.ok (.bl false)/\d.imm=true
def Rw.imm {k:Nat}(h:Rw k d):d.imm=true:=by
 obtain⟨cs,rfl,_,h⟩:=h;exact yg fun c hc=>(h c hc).imm
def Rw.is {k:Nat}(h:Rw k d)(hk:k<=10):xW [d]=.ok (.bl (decide (1<=k/\k<=4))):=by
 obtain⟨cs,rfl,rfl,h⟩:=h;rw[U0,UL]
 by_cases hb:1<=cs.length/\cs.length<=4
 ·rw[decide_eq_true hb];exact uA _ cs (fun c hc=>(h c hc).yes) _ _ (by omega) (by omega) (by omega)
 ·rw[decide_eq_false hb];exact jT _ cs _ _ (by omega)
def Jm (xs:List D)(hl:xs.length<=10000)(h:∀x∈xs,Ce x\/NC x)(hx:∃x∈xs,NC x):xW [.tup xs]=.ok (.bl false):=by
 rw[U0,UL];refine vL _ xs (fun x hx=>?_) ?_ _ _ hl
 ·rcases h x hx with h|h
  ·exact⟨_,h.yes⟩
  ·exact⟨_,h.1⟩
 ·obtain⟨x,hx,h⟩:=hx;exact⟨x,hx,h.1⟩
def z3i (d:D)(h:xO "tuple" d=.ok (.bl false)):xW [d]=.ok (.bl false):=by
 rw[U0,UL];exact XG _ d _ _ h
def Xw (d:D)(h:xO "tuple" d=.ok (.bl false)):wy [d]=.ok (.bl false):=by
 rw[Z5,jZ];exact XG _ d _ _ h
def XQ (d:D)(h:xO "tuple" d=.ok (.bl false)):wC [d]=.ok (.bl false):=by
 rw[Z8,jZ];exact XG _ d _ _ h
def W0 (rs:D)(h1:zM [rs,.int 1,.int 20]=.ok (.bl false)):xg [rs]=.ok (.bl false):=by
 unfold xg j7;simp only[zI,yt,yw,ka,Wh,zr,zp,za,eC,eL,zb,z8,vT,zQ,asB,xk,jYa,tG,tX,tF,tR,tJ,tQ,tO,tD,Nat.reduceSub,tY,if_false,tK,h1]
def QM (r0:D)(l:List D)(ks:D->Nat)(h1:zM [.tup (r0::l),.int 1,.int 20]=.ok (.bl true))(hk:∀r∈r0::l,yE [r]=.ok (.int (ks r:Nat)))(hl:(r0::l).length<=1000):
  xg [.tup (r0::l)]=.ok (.bl ((r0::l).all fun r=>((ks r:Nat):Int)==(ks r0:Nat))):=by
 have hi:ixD (.tup (r0::l)) (.int 0)=.ok r0:=yV;have k0:=hk r0 tN;generalize r0::l=rs at *;have k1:yQ (ya (Tgt.one 0).asg (fun _=>.ok true) (ze (eqR false) (eL yE (z8 (za 0) zb)) (eL yE (z8 (ze ixD (za 1) (eC (.int 0))) zb))) [none,some (.tup rs)]) (rs.map id)=.ok (rs.filterMap fun r=>some (D.bl (((ks r:Nat):Int)==(ks r0:Nat)))):=ym fun r hr=>by
  have h:=hk r hr;have e:eqR false (.int (ks r:Nat)) (.int (ks r0:Nat))=.ok (.bl (((ks r:Nat):Int)==(ks r0:Nat))):=by rw[zZ,if_neg sJ]
  show ya _ _ _ _ r=_;unfold ya;generalize (((ks r:Nat):Int)==(ks r0:Nat))=bb at *;generalize ((ks r:Nat):Int)=a at *;generalize ((ks r0:Nat):Int)=c at *;generalize yE=ln at *;simp only[za,eC,ze,eL,zb,z8,Tgt.asg,jYa,tD,tE,tI,if_true,yz,hi,h,k0,e]
 rw[pG,xv]at k1;have i1:uz (rs.map fun r=>D.bl (((ks r:Nat):Int)==(ks r0:Nat)))=.ok (.lst (rs.map fun r=>D.bl (((ks r:Nat):Int)==(ks r0:Nat)))):=xt (by rw[tU];omega);have a1:vP [.lst (rs.map fun r=>D.bl (((ks r:Nat):Int)==(ks r0:Nat)))]=.ok (.bl (rs.all fun r=>((ks r:Nat):Int)==(ks r0:Nat))):=by
  have e:(rs.map fun r=>D.bl (((ks r:Nat):Int)==(ks r0:Nat)))=(rs.map fun r=>((ks r:Nat):Int)==(ks r0:Nat)).map D.bl:=by rw[sR];rfl
  rw[e,Zh,hZ]
  rfl
 generalize (rs.all fun r=>((ks r:Nat):Int)==(ks r0:Nat))=BB at *;generalize (rs.map fun r=>D.bl (((ks r:Nat):Int)==(ks r0:Nat)))=LL at *;unfold xg j7;generalize zM=G1 at *;generalize vP=al at *;have hq:xk (.tup rs)=.ok rs:=rfl;simp only[zI,yt,yw,ka,Wh,zr,zp,za,eC,eL,zb,z8,vT,zQ,asB,xk,jYa,tG,tX,tF,tR,tJ,tQ,tO,tD,Nat.reduceSub,tY,if_true,h1,k1,i1,a1]
def Tb (d:D):Prop:=∃k rs,d=.tup rs/\1<=k/\k<=4/\1<=rs.length/\rs.length<=20/\∀r∈rs,Rw k r
def Tb.imm (h:Tb d):d.imm=true:=by
 obtain⟨k,rs,rfl,_,_,_,_,h⟩:=h;exact yg fun r hr=>(h r hr).imm
def Rw.len {k:Nat}(h:Rw k d):yE [d]=.ok (.int (k:Nat)):=by
 obtain⟨cs,rfl,rfl,_⟩:=h
 rfl
def klen:D->Nat
 | .tup xs=>xs.length
 | _=>0
def Rw.klen {k:Nat}(h:Rw k d):klen d=k:=by
 obtain⟨cs,rfl,rfl,_⟩:=h
 rfl
def Tb.yes (h:Tb d):xg [d]=.ok (.bl true):=by
 obtain⟨k,rs,rfl,k1,k2,l1,l2,h⟩:=h;have hr:zM [.tup rs,.int 1,.int 20]=.ok (.bl true):=by
  rw[V9];exact uA _ rs (fun r hr=>by rw[(h r hr).is (by omega),decide_eq_true ⟨k1,k2⟩]) _ _ (by omega) (by omega) (by omega)
 cases rs with
 | nil=>cases l1
 | cons r0 l =>
  rw[QM r0 l klen hr (fun r hr=>by rw[(h r hr).klen];exact (h r hr).len) (by omega)];have:((r0::l).all fun r=>((klen r:Nat):Int)==(klen r0:Nat))=true:=by
   rw[rX];intro r hr;rw[(h r hr).klen,(h r0 tN).klen];exact beq_self_eq_true _
  rw[this]
def Xm (rs:List D)(k:Nat)(hk:k<=4)(hl:rs.length<=1000)(h:∀r∈rs,Rw k r\/NR r)(hx:∃r∈rs,NR r):xg [.tup rs]=.ok (.bl false):=by
 refine W0 _ ?_;rw[V9];refine vL _ rs (fun r hr=>?_) ?_ _ _ (by omega)
 ·rcases h r hr with h|h
  ·exact⟨_,h.is (by omega)⟩
  ·exact⟨_,h.1⟩
 ·obtain⟨x,hx,h⟩:=hx;exact⟨x,hx,h.1⟩
def XT (rs:List D)(hl:rs.length<=1000)(h:∀r∈rs,∃k,k<=10/\Rw k r)(a b:D)(ha:a∈rs)(hb:b∈rs)(hn:klen a≠klen b):xg [.tup rs]=.ok (.bl false):=by
 have hb2:∀r∈rs,∃b,xW [r]=.ok (.bl b):=fun r hr=>by
  obtain⟨k,hk,h⟩:=h r hr;exact⟨_,h.is hk⟩
 by_cases hx:∃r∈rs,xW [r]=.ok (.bl false)
 ·refine W0 _ ?_;rw[V9];exact vL _ rs hb2 hx _ _ (by omega)
 ·by_cases hz:((rs.length:Nat):Int)<1\/20<((rs.length:Nat):Int)
  ·refine W0 _ ?_;rw[V9];exact jT _ rs _ _ hz
  ·have hr:zM [.tup rs,.int 1,.int 20]=.ok (.bl true):=by
    rw[V9];refine uA _ rs (fun r hr=>?_) _ _ (by omega) (by omega) (by omega);obtain⟨b,e⟩:=hb2 r hr;cases b
    ·exact absurd ⟨r,hr,e⟩ hx
    ·exact e
   cases rs with
   | nil=>cases ha
   | cons r0 l =>
    rw[QM r0 l klen hr (fun r hr=>by obtain⟨k,_,h⟩:=h r hr;rw[h.klen];exact h.len) (by omega)];have:((r0::l).all fun r=>((klen r:Nat):Int)==(klen r0:Nat))=false:=by
     rw[List.all_eq_false]
     by_cases e:klen a=klen r0
     ·exact⟨b,hb,by rw[beq_iff_eq];omega⟩
     ·exact⟨a,ha,by rw[beq_iff_eq];omega⟩
    rw[this]
def nc:D->Nat
 | .tup [_,.tup ns]=>ns.length
 | _=>0
def ncs (ps:List D):Nat:=(ps.map nc).sum
inductive Bk:D->Nat->Prop
 | leaf:Bk (.tup [.str "leaf"]) 0
 | head {t:D} (h:Ws 1 12 t):Bk (.tup [.str "head",t]) 0
 | table {t:D} (h:Tb t):Bk (.tup [.str "table",t]) 0
 | text {ps:List D} (h1:1<=ps.length) (h2:ps.length<=200) (h:∀p∈ps,Pr p):Bk (.tup [.str "text",.tup ps]) (ncs ps)
def Bk.imm {n:Nat}(h:Bk d n):d.imm=true:=by
 cases h with
 | leaf=>rfl
 | head h=>show (true&&(_&&true))=true;rw[h.imm];rfl
 | table h=>show (true&&(_&&true))=true;rw[h.imm];rfl
 | text _ _ h=>show (true&&(D.imms _&&true))=true;rw[yg fun p hp=>(h p hp).imm];rfl
def z6J:inD true (.int 2) (.tup [.int 1,.int 2])=.ok (.bl false):=vw (by decide +kernel)
def z70:inD true (.int 1) (.tup [.int 1,.int 2])=.ok (.bl false):=vw (by decide +kernel)
def qK (z:Str)(x:D)(c:Bool)(h1:z="head"->zx [x,.int 1,.int 12]=.ok (.bl c))(h2:z="text"->yo [x,.int 1,.int 200]=.ok (.bl c))(h3:z="table"->xg [x]=.ok (.bl c))(hz:z="head"\/z="text"\/z="table"):zR [.tup [.str z,x]]=.ok (.bl c):=by
 have e1:xO "tuple" (.tup [.str z,x])=.ok (.bl true):=rfl;have e2:yE [.tup [.str z,x]]=.ok (.int 2):=rfl;have e3:=z6J;have e4:xO "str" (.str z)=.ok (.bl true):=rfl;have e5:eqR false (.int 2) (.int 1)=.ok (.bl false):=by rw[zZ];rfl
 unfold zR Ye;rcases hz with rfl|rfl|rfl
 ·have h1:=h1 rfl;have q1:eqR false (.str "head") (.str "head")=.ok (.bl true):=kd (by decide +kernel);simp only[zm,zr,zh,zp,sIf,za,eC,ze,eUn,eL,zb,z8,zi,bOr,yh,vT,asB,jYa,tG,tX,tF,tR,tJ,tQ,tO,tD,Nat.reduceSub,tY,vN,yV,xp,if_true,if_false,tK,e1,e2,e3,e4,e5,q1,h1,sT]
 ·have h1:=h2 rfl;have q1:eqR false (.str "text") (.str "head")=.ok (.bl false):=vw (by decide +kernel);have q2:eqR false (.str "text") (.str "text")=.ok (.bl true):=kd (by decide +kernel);simp only[zm,zr,zh,zp,sIf,za,eC,ze,eUn,eL,zb,z8,zi,bOr,yh,vT,asB,jYa,tG,tX,tF,tR,tJ,tQ,tO,tD,Nat.reduceSub,tY,vN,yV,xp,if_true,if_false,tK,e1,e2,e3,e4,e5,q1,q2,h1,sT]
 ·have h1:=h3 rfl;have q1:eqR false (.str "table") (.str "head")=.ok (.bl false):=vw (by decide +kernel);have q2:eqR false (.str "table") (.str "text")=.ok (.bl false):=vw (by decide +kernel);have q3:eqR false (.str "table") (.str "table")=.ok (.bl true):=kd (by decide +kernel);simp only[zm,zr,zh,zp,sIf,za,eC,ze,eUn,eL,zb,z8,zi,bOr,yh,vT,asB,jYa,tG,tX,tF,tR,tJ,tQ,tO,tD,Nat.reduceSub,tY,vN,yV,xp,if_true,if_false,tK,e1,e2,e3,e4,e5,q1,q2,q3,h1,sT]
def NB (d:D):Prop:=zR [d]=.ok (.bl false)/\d.imm=true
def z1M:zR [.tup [.str "leaf"]]=.ok (.bl true):=kd (by decide +kernel)
def Bk.yes {n:Nat}(h:Bk d n):zR [d]=.ok (.bl true):=by
 cases h with
 | leaf=>exact z1M
 | head h=>exact qK _ _ _ (fun _=>Xn h (by decide)) (fun h=>absurd h (by decide)) (fun h=>absurd h (by decide)) (.inl rfl)
 | table h=>exact qK _ _ _ (fun h=>absurd h (by decide)) (fun h=>absurd h (by decide)) (fun _=>h.yes) (.inr (.inr rfl))
 | text h1 h2 h =>
  refine qK _ _ _ (fun h=>absurd h (by decide)) (fun _=>?_) (fun h=>absurd h (by decide)) (.inr (.inl rfl));rw[z0E];exact uA _ _ (fun p hp=>(h p hp).yes) _ _ (by omega) (by omega) (by omega)
def bn:D->Nat
 | .tup [.str z,.tup ps]=>if z="text" then ncs ps else 0
 | _=>0
def Bk.bn {n:Nat}(h:Bk d n):bn d=n:=by
 cases h with
 | leaf=>rfl
 | @head t h=>obtain⟨ws,rfl,_⟩:=h;show (if ("head":Str)="text" then ncs ws else 0)=0;exact if_neg (by decide)
 | @table t h=>obtain⟨k,rs,rfl,_⟩:=h;show (if ("table":Str)="text" then ncs rs else 0)=0;exact if_neg (by decide)
 | @text ps _ _ _=>show (if ("text":Str)="text" then ncs ps else 0)=ncs ps;exact if_pos rfl
def VP (z:Str)(l:List D)(h:eqR true (.str z) (.str "text")=.ok (.bl true)):yJ [.tup (.str z::l)]=.ok (.int 0):=by
 simp only[yJ,uM,zI,yt,yw,zm,zr,zh,zp,sIf,za,eC,ze,eL,zb,z8,zi,zQ,asB,jYa,tG,tX,tF,tR,tJ,tQ,tO,tD,Nat.reduceSub,tY,yV,if_true,h]
def z3w (ps:List D)(hl:ps.length<=1000)(h:∀p∈ps,Pr p):yJ [.tup [.str "text",.tup ps]]=.ok (.int (ncs ps:Nat)):=by
 have q1:eqR true (.str "text") (.str "text")=.ok (.bl false):=vw (by decide +kernel);have k1:yQ (ya (Tgt.many [0,1]).asg (fun _=>.ok true) (eL yE (z8 (za 1) zb)) [none,none]) (ps.map id)=.ok (ps.filterMap fun p=>some (D.int (nc p:Nat))):=ym fun p hp=>by
  obtain⟨w,ns,rfl,_,_,_⟩:=h p hp;have e:=qE ns;have e2:nc (.tup [w,.tup ns])=ns.length:=rfl;rw[e2];show ya _ _ _ _ (.tup [w,.tup ns])=_;have ea:(Tgt.many [0,1]).asg (.tup [w,.tup ns]) [none,none]=.ok [some w,some (.tup ns)]:=rfl;unfold ya;simp only[ea,yz,za,eL,zb,z8,jYa,tD,tE,if_true,e]
 rw[pG,xv]at k1;have i1:uz (ps.map fun p=>D.int (nc p:Nat))=.ok (.lst (ps.map fun p=>D.int (nc p:Nat))):=xt (by rw[tU];omega);have s1:kY [.lst (ps.map fun p=>D.int (nc p:Nat))]=.ok (.int (ncs ps:Nat)):=by
  have e:(ps.map fun p=>D.int (nc p:Nat))=(ps.map fun p=>((nc p:Nat):Int)).map D.int:=by rw[sR];rfl
  rw[e,Uc];congr 2;unfold ncs;clear k1 i1 e h hl
  induction ps with
  | nil=>rfl
  | cons p ps ih=>rw[tG,tG,sX,sX,ih];omega
 unfold yJ uM;simp only[zI,yt,yw,zm,zr,zh,zp,sIf,za,eC,ze,eL,zb,z8,zi,zQ,asB,xk,jYa,tG,tX,tF,tR,tJ,tQ,tO,tD,Nat.reduceSub,tY,yV,xp,if_false,tK,q1,k1,i1,s1]
def Bk.many {n:Nat}(h:Bk d n):yJ [d]=.ok (.int (n:Nat)):=by
 cases h with
 | leaf=>exact VP "leaf" [] (kd (by decide +kernel))
 | head h=>exact VP "head" _ (kd (by decide +kernel))
 | table h=>exact VP "table" _ (kd (by decide +kernel))
 | text h1 h2 h=>exact z3w _ (by omega) h
def XJ (d:D)(h:xO "list" d=.ok (.bl false)):zS [d]=.ok (.bl false):=by
 unfold zS v3;simp only[zI,yt,yw,zm,zr,zh,zp,sIf,za,eC,ze,eUn,eL,zb,z8,zi,bOr,yh,zQ,asB,jYa,tG,tX,tF,tR,tJ,tQ,tO,tD,Nat.reduceSub,tY,if_true,h,rP]
def Vh (ds:List D)(h:40<ds.length):zS [.lst ds]=.ok (.bl false):=by
 have e1:xO "list" (.lst ds)=.ok (.bl true):=rfl;have e3:decide (((ds.length:Nat):Int)>40)=true:=decide_eq_true (by omega);unfold zS v3;have e2:yE [.lst ds]=.ok (.int (ds.length:Nat)):=rfl;simp only[zI,yt,yw,zm,zr,zh,zp,sIf,za,eC,ze,eUn,eL,zb,z8,zi,bOr,yh,zQ,asB,jYa,tG,tX,tF,tR,tJ,tQ,tO,tD,Nat.reduceSub,tY,vE,if_true,if_false,tK,e1,e2,e3,sT]
def Y4 (ds:List D)(hl:ds.length<=1000)(h:∀d∈ds,∃b,zR [d]=.ok (.bl b)):∃L,yQ (ya (Tgt.one 0).asg (fun _=>.ok true) (eL zR (z8 (za 0) zb)) [none]) ds=.ok L/\uz L=.ok (.lst L)/\vP [.lst L]=.ok (.bl (ds.all fun d=>isT (zR [d]))):=by
 have k1:yQ (ya (Tgt.one 0).asg (fun _=>.ok true) (eL zR (z8 (za 0) zb)) [none]) (ds.map id)=.ok (ds.filterMap fun d=>some (D.bl (isT (zR [d])))):=ym fun d hd=>by
  have h:=z5q (h d hd);show ya _ _ _ _ d=_;generalize isT (zR [d])=b at *;unfold ya;generalize zR=G1 at *;simp only[za,eL,zb,z8,Tgt.asg,jYa,tD,tI,if_true,yz,h]
 rw[pG,xv]at k1;refine⟨_,k1,xt (by rw[tU];omega),?_⟩;have e:(ds.map fun d=>D.bl (isT (zR [d])))=(ds.map fun d=>isT (zR [d])).map D.bl:=by rw[sR];rfl
 rw[e,Zh,hZ]
 rfl
def z28 (ds:List D)(hl:ds.length<=1000)(h:∀d∈ds,(∃n,Bk d n)\/NB d)(hx:∃d∈ds,NB d):zS [.lst ds]=.ok (.bl false):=by
 by_cases h40:40<ds.length
 ·exact Vh ds h40
 obtain⟨L,k1,i1,a1⟩:=Y4 ds hl fun d hd=>by
  rcases h d hd with⟨n,h⟩|h
  ·exact⟨_,h.yes⟩
  ·exact⟨_,h.1⟩
 have ef:(ds.all fun d=>isT (zR [d]))=false:=by
  rw[List.all_eq_false];obtain⟨d,hd,h⟩:=hx;exact⟨d,hd,by rw[h.1];decide⟩
 rw[ef]at a1;have e1:xO "list" (.lst ds)=.ok (.bl true):=rfl;have e3:decide (((ds.length:Nat):Int)>40)=false:=decide_eq_false (by omega);have e2:yE [.lst ds]=.ok (.int (ds.length:Nat)):=rfl;have hs:xk (.lst ds)=.ok ds:=rfl;unfold zS v3;simp only[zI,yt,yw,zm,zr,zh,zp,sIf,za,eC,ze,eUn,eL,zb,z8,zi,bOr,yh,zQ,asB,xk,jYa,tG,tX,tF,tR,tJ,tQ,tO,tD,Nat.reduceSub,tY,vE,if_true,if_false,tK,e1,e2,e3,k1,i1,a1,sT,rP]
def bns (ds:List D):Nat:=(ds.map bn).sum
def JS (ds:List D)(hl:ds.length<=40)(h:∀d∈ds,∃n,Bk d n)(hn:bns ds<=60):zS [.lst ds]=.ok (.bl true):=by
 obtain⟨L,k1,i1,a1⟩:=Y4 ds (by omega) fun d hd=>by
  obtain⟨n,h⟩:=h d hd;exact⟨_,h.yes⟩
 have ef:(ds.all fun d=>isT (zR [d]))=true:=by
  rw[rX];intro d hd;obtain⟨n,h⟩:=h d hd;rw[h.yes];rfl
 rw[ef]at a1;have k2:yQ (ya (Tgt.one 0).asg (fun _=>.ok true) (eL yJ (z8 (za 0) zb)) [none]) (ds.map id)=.ok (ds.filterMap fun d=>some (D.int (bn d:Nat))):=ym fun d hd=>by
  obtain⟨n,h⟩:=h d hd;have hm:=h.many;rw[h.bn];show ya _ _ _ _ d=_;unfold ya;simp only[za,eL,zb,z8,Tgt.asg,jYa,tD,tI,if_true,yz,hm]
 rw[pG,xv]at k2;have i2:uz (ds.map fun d=>D.int (bn d:Nat))=.ok (.lst (ds.map fun d=>D.int (bn d:Nat))):=xt (by rw[tU];omega);have s2:kY [.lst (ds.map fun d=>D.int (bn d:Nat))]=.ok (.int (bns ds:Nat)):=by
  have e:(ds.map fun d=>D.int (bn d:Nat))=(ds.map fun d=>((bn d:Nat):Int)).map D.int:=by rw[sR];rfl
  rw[e,Uc];congr 2;unfold bns;clear k1 k2 i1 i2 a1 ef e h hl hn
  induction ds with
  | nil=>rfl
  | cons p ps ih=>rw[tG,tG,sX,sX,ih];omega
 have e1:xO "list" (.lst ds)=.ok (.bl true):=rfl;have e3:decide (((ds.length:Nat):Int)>40)=false:=decide_eq_false (by omega);have e4:decide (((bns ds:Nat):Int)<=60)=true:=decide_eq_true (by omega);have e2:yE [.lst ds]=.ok (.int (ds.length:Nat)):=rfl;have hs:xk (.lst ds)=.ok ds:=rfl;unfold zS v3;simp only[zI,yt,yw,zm,zr,zh,zp,sIf,za,eC,ze,eUn,eL,zb,z8,zi,bOr,yh,zQ,asB,xk,jYa,tG,tX,tF,tR,tJ,tQ,tO,tD,Nat.reduceSub,tY,Yg,vE,if_false,tK,e1,e2,e3,e4,k1,i1,a1,k2,i2,s2,sT]
def z1q (d:D)(h:zS [d]=.ok (.bl true)):xF [d]=.ok (.bl true):=by
 simp only[xF,ui,zm,zr,zh,zp,sIf,za,eC,eL,zb,z8,zi,yh,asB,jYa,tG,tX,tF,tR,tJ,tQ,tO,tD,Nat.reduceSub,tY,if_false,tK,h,sT]
def Kb (d:D)(h:zS [d]=.ok (.bl false)):xF [d]=.err "BadBlocks":=by
 have e:∀τ,Ja "BadBlocks" (z8 (eC (.str "blocks are a list of at most 40 blocks with at most 60 notes in all")) zb) τ=.err "BadBlocks":=fun τ=>by
  unfold Ja;simp only[eC,zb,z8,jYa,tF,tR,tY];rw[if_pos (by rw[sizeLine_eq];decide)]
 simp only[xF,ui,zm,zr,zh,zp,sIf,za,eC,eL,zb,z8,zi,yh,asB,jYa,R.err_bind,tG,tX,tF,tR,tJ,tQ,tO,tD,Nat.reduceSub,tY,if_true,h,rP,e]
def XB (ns:List Int)(k:Int)(hk:0<=k)(hl:ns.length<=63):∃v,zW [.frl (ns.map .int),.int k]=.ok (.int v)/\0<=v/\v<2147483647:=by
 by_cases h:k<(ns.length:Int)
 ·have hm:k.toNat<ns.length:=by omega
  have hix:ixD (.frl (ns.map .int)) (.int k)=.ok (.int ns[k.toNat]):=z4f (Ku hk (by rw[sV,rG hm];rfl));have e1:decide (k<(ns.length:Int))=true:=decide_eq_true h;refine⟨(ns[k.toNat]+7919*k+17)*48271%2147483647,?_,hI _ (by decide),Int.emod_lt_of_pos _ (by decide)⟩;simp only[zW,uj,zm,zr,zh,zq,zp,sIf,za,eC,ze,eL,zb,z8,zi,asB,jYa,tG,tX,tF,tR,sA,tJ,tQ,tO,tD,tE,tI,tM,Nat.reduceAdd,Nat.reduceSub,tY,xN,vx,wO,UX,if_true,Int.reduceLT,Int.reduceNeg,tU,e1,hix,Ze,jQ]
 ·have e1:decide (k<(ns.length:Int))=false:=decide_eq_false h;refine⟨(0+7919*k+17)*48271%2147483647,?_,hI _ (by decide),Int.emod_lt_of_pos _ (by decide)⟩;simp only[zW,uj,zm,zr,zh,zq,zp,sIf,za,eC,ze,eL,zb,z8,zi,asB,jYa,tG,tX,tF,tR,sA,tJ,tQ,tO,tD,tE,tI,tM,Nat.reduceAdd,Nat.reduceSub,tY,xN,vx,wO,UX,if_false,tK,Int.reduceLT,Int.reduceNeg,tU,e1,Ze,jQ]
def next (n:Int):∃v,yj [.int n]=.ok (.int v)/\0<=v:=by
 refine⟨(n*69621+11)%2147483629,?_,hI _ (by decide)⟩;simp only[yj,kM,zr,zp,za,eC,ze,jYa,tG,tX,tF,tR,tJ,tQ,tO,tD,Nat.reduceSub,tY,xN,wO,Int.reduceLT,Int.reduceNeg,jQ]
def TW (B:Str):Tn->R Fl:=(zh (zq 1 (eC (.str B))) (zh (zq 2 (ze zL (eC (.int 1)) (ze y0 (za 0) (eC (.int 5))))) (zh IFW (zh (zq 3 (eC (.str ""))) (zh (yY (iL wY (z8 (za 2) zb)) (.one 4) bW) (zp (za 3)))))))
def tW:wj=zr 6 (TW Z2):=rfl
def z5F (B:Str)(hB:B.length=74)(pB:∀c∈B.cps.toList,okS c)(n j:Int)(j0:0<=j)(j1:j<100)(cs:List Nat)(hc:cs.length<=100)(x2 x5:Option D):∃c y5,okS c /\
  bW [some (.int n),some (.str B),x2,some (.str (S cs)),some (.int j),x5]=.ok (.nx [some (.int n),some (.str B),x2,some (.str (S (cs++[c]))),some (.int j),y5]):=by
 have d31:=dvD n 31;have m17:=mdD n 17;have q1:u9 (.int j) (.int j)=.ok (.int (j*j)):=jQ (by omega) (by omega);have q2:u9 (.int (j*j)) (.int (1+n%17))=.ok (.int (j*j*(1+n%17))):=jQ (by omega) (by omega);generalize hA:n/31+j*j*(1+n%17)+j=A;have m74:=mdD A 74;obtain⟨c,e,hc1⟩:=z5i (z:=B) (i:=A%74) (p:=fun c=>okS c) (by omega) (by omega) (by omega) pB;have ea:zL (.str (S cs)) (.str (one c))=.ok (.str (S (cs++[c]))):=by
  have:zL (.str (S cs)) (.str (one c))=.ok (.str (S cs++one c)):=if_pos (by
   show (S cs).length+1<=_;rw[xC,sizeLine_eq];omega)
  rw[this];exact congrArg (fun z=>R.ok (D.str z)) (Qh cs [c])
 refine⟨c,some (.int A),hc1,?_⟩;subst hA;simp only[bW,zh,zq,za,eC,ze,jYa,tD,tE,tI,tM,xN,d31,m17,q1,q2,m74,e,ea]
def word (n:Int):∃z,wj [.int n]=.ok (.str z)/\Wd (.str z):=by
 have d5:=dvD n 5;have d120:=dvD n 120;have m5:=mdD n 5;have m24:=mdD (n/5) 24;have m40:=mdD (n/120) 40;obtain⟨sz,hs,s0,s1⟩:∃sz:Int,(∀x1,IFW [some (.int n),x1,some (.int (1+n%5)),none,none,none]=.ok (.nx [some (.int n),x1,some (.int sz),none,none,none]))/\1<=sz/\sz<=40:=by
  by_cases hq:n/5%24=1
  ·have z:(n/5%24==1)=true:=beq_iff_eq.mpr hq;refine⟨1+n/120%40,fun x1=>?_,by omega,by omega⟩;simp only[IFW,zm,zq,sIf,za,eC,ze,zi,asB,jYa,tD,tI,tM,xN,zZ,if_true,if_false,tK,d5,m24,z,d120,m40]
  ·have z:(n/5%24==1)=false:=beq_false_of_ne hq;refine⟨1+n%5,fun x1=>?_,by omega,by omega⟩;simp only[IFW,zm,zq,sIf,za,eC,ze,zi,asB,jYa,tD,tI,tM,xN,wO,vK,zZ,if_false,tK,Int.reduceLT,d5,m24,z]
 have e1:wY [D.int sz]=.ok (rng 0 sz.toNat):=uI (by omega) (by omega);obtain⟨cs,y4,y5,g1,g2,h⟩:∃(cs:List Nat) (y4 y5:Option D),cs.length=sz.toNat/\(∀c∈cs,okS c)/\xK (Tgt.one 4).asg bW (rng 0 sz.toNat) [some (.int n),some (.str Z2),some (.int sz),some (.str ""),none,none]=.ok (.nx [some (.int n),some (.str Z2),some (.int sz),some (.str (S cs)),y4,y5]):=by
  obtain⟨τ',e2,cs,y4,y5,g1,g2,h⟩:=wV (asg:=(Tgt.one 4).asg) (body:=bW)
   (fun i τ=>∃(cs:List Nat) (y4 y5:Option D),cs.length=i/\(∀c∈cs,okS c)/\τ=[some (.int n),some (.str Z2),some (.int sz),some (.str (S cs)),y4,y5]) (rng 0 sz.toNat) 0
   [some (.int n),some (.str Z2),some (.int sz),some (.str ""),none,none] ⟨[],none,none,rfl,fun c hc=>(nomatch hc),rfl⟩ (fun i q τ hd ⟨cs,y4,y5,l1,l2,h⟩=>by
    obtain⟨hi,rfl⟩:=uK hd;subst h;obtain⟨c,z5,cl,hb⟩:=z5F Z2 z44 z5w n ((0:Int)+(i:Nat)) (by omega) (by omega) cs (by omega) (some (.int sz)) y5;refine⟨_,_,rfl,.inl hb,cs++[c],some (.int ((0:Int)+(i:Nat))),z5,by rw[tH,l1];rfl,fun x hx=>?_,rfl⟩;rcases sC.mp hx with z|z
    ·exact l2 x z
    ·rw[sG.mp z];exact cl)
  exact⟨cs,y4,y5,by rw[g1,uW];omega,g2,by rw[e2,h]⟩
 have eF:yY (iL wY (z8 (za 2) zb)) (.one 4) bW [some (.int n),some (.str Z2),some (.int sz),some (.str ""),none,none]=_:=vj (by simp only[za,zb,z8,iL,jYa,tD,tE,e1]) h;refine⟨S cs,?_,?_,cs,rfl,by omega,by omega,g2⟩
 ·rw[tW];unfold TW;generalize Z2=B at *;generalize yY (iL wY (z8 (za 2) zb)) (.one 4) bW=SF at *;generalize IFW=SI at *;generalize S cs=Z at *;have hs:=hs (some (.str B));generalize n%5=y at *;simp only[zr,zh,zq,zp,za,eC,ze,jYa,tG,tX,tF,tR,sA,tJ,tQ,tO,tD,tE,tI,tM,Nat.reduceSub,tY,xN,m5,hs,eF]
 ·rw[V1 cs (by omega) (by omega)];have:(cs.all fun c=>decide (okS c))=true:=by
   rw[rX];exact fun c hc=>decide_eq_true (g2 c hc)
  rw[this]
def tV:yp=zr 6 TV:=rfl
def z4O (n:Int)(L:List D)(hL:L.length<1000)(x1 x2 x3 x5:Option D):∃n' w,Wd w/\bV [some (.int n),x1,x2,x3,some (.lst L),x5]=.ok (.nx [some (.int n'),x1,x2,x3,some (.lst (L++[w])),x5]):=by
 obtain⟨v,hv,_⟩:=next n;have d3:=dvD v 3;obtain⟨z,hz,wz⟩:=word (v/3);refine⟨v,.str z,wz,?_⟩;have hL:L.length<16777216:=by omega
 unfold bV;simp only[xw,xx,wc,zh,zq,za,eC,ze,eL,zb,z8,jYa,tD,tE,tI,tM,hv,d3,hz,hL]
def words (n:Int)(lo hi:Nat)(h1:lo<=hi)(h2:hi<=100):∃t,yp [.int n,.int (lo:Nat),.int (hi:Nat)]=.ok t/\Ws lo hi t:=by
 have d3:=dvD n 3;have m3:=mdD n 3;have m20:=mdD (n/3) 20;obtain⟨sz,hs,s0⟩:∃sz:Int,IFV [some (.int n),some (.int (lo:Nat)),some (.int (hi:Nat)),some (.int ((lo:Nat)+n%3)),none,none]=.ok (.nx [some (.int n),some (.int (lo:Nat)),some (.int (hi:Nat)),some (.int sz),none,none])/\(lo:Int)<=sz:=by
  generalize hlo:((lo:Nat):Int)=LO at *;generalize hhi:((hi:Nat):Int)=HI at *
  by_cases hq:n/3%20=1
  ·have z:(n/3%20==1)=true:=beq_iff_eq.mpr hq;refine⟨HI,?_,by omega⟩;simp -implicitDefEqProofs only [IFV,zm,zq,sIf,za,eC,ze,zi,asB,jYa,tD,tE,tI,tM,zZ,if_true,if_false,tK,d3,m20,z]
  ·have z:(n/3%20==1)=false:=beq_false_of_ne hq;refine⟨LO+n%3,?_,by omega⟩;simp -implicitDefEqProofs only [IFV,zm,zq,sIf,za,eC,ze,zi,asB,jYa,tD,tE,tI,tM,zZ,if_false,tK,d3,m20,z]
 obtain⟨m,em,m1,m2⟩:∃m:Nat,kH [.int (hi:Nat),.int sz]=.ok (.int (m:Nat))/\lo<=m/\m<=hi:=by
  by_cases h:sz<(hi:Nat)
  ·refine⟨sz.toNat,?_,by omega,by omega⟩;show R.ok (D.int (if sz<(hi:Nat) then sz else (hi:Nat)))=_;rw[if_pos h,pA (by omega)]
  ·refine⟨hi,?_,by omega,by omega⟩;show R.ok (D.int (if sz<(hi:Nat) then sz else (hi:Nat)))=_;rw[if_neg h]
 have e1:wY [D.int (m:Nat)]=.ok (rng 0 m):=uI (by omega) (by omega);obtain⟨n',ws,y5,g1,g2,h⟩:∃(n':Int) (ws:List D) (y5:Option D),ws.length=m/\(∀w∈ws,Wd w)/\xK (Tgt.one 5).asg bV (rng 0 m) [some (.int n),some (.int (lo:Nat)),some (.int (hi:Nat)),some (.int sz),some (.lst []),none]=.ok (.nx [some (.int n'),some (.int (lo:Nat)),some (.int (hi:Nat)),some (.int sz),some (.lst ws),y5]):=by
  obtain⟨τ',e2,n',ws,y5,g1,g2,h⟩:=wV (asg:=(Tgt.one 5).asg) (body:=bV)
   (fun i τ=>∃(n':Int) (ws:List D) (y5:Option D),ws.length=i/\(∀w∈ws,Wd w)/\τ=[some (.int n'),some (.int (lo:Nat)),some (.int (hi:Nat)),some (.int sz),some (.lst ws),y5]) (rng 0 m) 0
   _ ⟨n,[],none,rfl,fun c hc=>(nomatch hc),rfl⟩ (fun i q τ hd ⟨n',ws,y5,l1,l2,h⟩=>by
    obtain⟨hi',rfl⟩:=uK hd;subst h;obtain⟨v,w,hw,hb⟩:=z4O n' ws (by omega) (some (.int (lo:Nat))) (some (.int (hi:Nat))) (some (.int sz)) (some (.int ((0:Int)+(i:Nat))));refine⟨_,_,rfl,.inl hb,v,ws++[w],_,by rw[tH,l1];rfl,fun x hx=>?_,rfl⟩;rcases sC.mp hx with z|z
    ·exact l2 x z
    ·rw[sG.mp z];exact hw)
  exact⟨n',ws,y5,by rw[g1,uW];omega,g2,by rw[e2,h]⟩
 refine⟨.tup ws,?_,ws,rfl,by omega,by omega,g2⟩;have im:yc [.lst ws]=.ok (.tup ws):=if_pos (yg fun w hw=>(g2 w hw).imm);generalize ((lo:Nat):Int)=LO at *;generalize ((hi:Nat):Int)=HI at *;have eF:yY (iL wY (z8 (eL kH (z8 (za 2) (z8 (za 3) zb))) zb)) (.one 5) bV [some (.int n),some (.int LO),some (.int HI),some (.int sz),some (.lst []),none]=_:=vj (by simp -implicitDefEqProofs only [za,eL,zb,z8,iL,jYa,tD,tE,em,e1]) h;rw[tV];unfold TV;generalize yY (iL wY (z8 (eL kH (z8 (za 2) (z8 (za 3) zb))) zb)) (.one 5) bV=SF at *;generalize IFV=SI at *;generalize n%3=y at *;simp -implicitDefEqProofs only [zr,zh,zq,zp,za,eC,ze,eL,zb,z8,jYa,tG,tX,tF,tR,sA,tJ,tQ,tO,tD,tE,tI,tM,Nat.reduceAdd,Nat.reduceSub,tY,xN,m3,hs,eF,im]
def tP:wB=zr 7 TP:=rfl
def z4Q (n m k:Int)(room:Nat)(hk:0<=k)(hk2:k<=10)(L:List D)(hL:L.length<1000)(hN:∀t∈L,Nt t)(x3 x4:Option D):∃(room':Nat) (L':List D),room'+L'.length=room+L.length/\L'.length<=L.length+1/\(∀t∈L',Nt t) /\
  bN [some (.int n),some (.int (room:Nat)),some (.int m),x3,x4,some (.lst L),some (.int k)]=.ok (.nx [some (.int n),some (.int (room':Nat)),some (.int m),x3,x4,some (.lst L'),some (.int k)]):=by
 have dk:yf (.int n) (.int (49+k))=.ok (.int (n/(49+k))):=vK (by omega) (by omega);obtain⟨t,ht,nt⟩:=words (n/(49+k)) 1 30 (by decide) (by decide);have ht:yp [.int (n/(49+k)),.int 1,.int 30]=.ok t:=ht;have hL:L.length<16777216:=by omega
 by_cases h1:0<room
 ·have e1:decide (((room:Nat):Int)>0)=true:=decide_eq_true (by omega)
  by_cases h2:m<200
  ·have e2:decide (m<200)=true:=decide_eq_true h2;refine⟨room-1,L++[t],by rw[tH];show _+(_+1)=_;omega,by rw[tH];exact sL _,fun x hx=>?_,?_⟩
   ·rcases sC.mp hx with z|z
    ·exact hN x z
    ·rw[sG.mp z];exact nt
   ·have er:((room:Nat):Int)-1=((room-1:Nat):Int):=by omega
    rw[<-er];unfold bN;simp only[xw,xx,wc,zm,zh,zq,sIf,za,eC,ze,eL,zb,z8,zi,wo,asB,jYa,tD,tE,tI,tM,xN,qz,vx,vE,if_true,e1,e2,dk,ht,hL]
  ·have e2:decide (m<200)=false:=decide_eq_false h2;refine⟨room,L,rfl,by omega,hN,?_⟩;unfold bN;simp only[xw,xx,zm,zh,zq,sIf,za,eC,ze,eL,zb,z8,zi,wo,asB,jYa,tD,tE,tI,tM,xN,qz,vx,vE,if_true,if_false,tK,e1,e2]
 ·have e1:decide (((room:Nat):Int)>0)=false:=decide_eq_false (by omega);refine⟨room,L,rfl,by omega,hN,?_⟩;unfold bN;simp only[xw,xx,zm,zh,zq,sIf,za,eC,ze,eL,zb,z8,zi,wo,asB,jYa,tD,tE,tI,tM,xN,qz,vx,vE,if_false,tK,e1]
def z5s (y:Int)(h0:0<=y)(h1:y<7):∃c:Nat,c<=3/\ixD (.lst [.int 0,.int 0,.int 0,.int 1,.int 1,.int 2,.int 3]) (.int y)=.ok (.int (c:Nat)):=by
 have:y=0\/y=1\/y=2\/y=3\/y=4\/y=5\/y=6:=by omega
 rcases this with rfl|rfl|rfl|rfl|rfl|rfl|rfl
 ·exact⟨0,by decide,rfl⟩
 ·exact⟨0,by decide,rfl⟩
 ·exact⟨0,by decide,rfl⟩
 ·exact⟨1,by decide,rfl⟩
 ·exact⟨1,by decide,rfl⟩
 ·exact⟨2,by decide,rfl⟩
 ·exact⟨3,by decide,rfl⟩
def z6g (n m:Int)(room:Nat)(x3 x4 x6:Option D):∃(room':Nat) (L:List D) (y6:Option D),room'+L.length=room/\L.length<=3/\(∀t∈L,Nt t) /\
  LN [some (.int n),some (.int (room:Nat)),some (.int m),x3,x4,some (.lst []),x6]=.ok (.nx [some (.int n),some (.int (room':Nat)),some (.int m),x3,x4,some (.lst L),y6]):=by
 have d7:=dvD n 7;have m7:=mdD (n/7) 7;obtain⟨c,hc,ec⟩:=z5s (n/7%7) (by omega) (by omega);have e1:wY [D.int (c:Nat)]=.ok (rng 0 c):=uI (by omega) (by omega);obtain⟨τ',e2,room',L,y6,g1,g2,g3,h⟩:=wV (asg:=(Tgt.one 6).asg) (body:=bN)
  (fun i τ=>∃(room':Nat) (L:List D) (y6:Option D),room'+L.length=room/\L.length<=i/\(∀t∈L,Nt t)/\τ=[some (.int n),some (.int (room':Nat)),some (.int m),x3,x4,some (.lst L),y6]) (rng 0 c) 0
  _ ⟨room,[],x6,rfl,sL _,fun c hc=>(nomatch hc),rfl⟩ (fun i q τ hd ⟨room',L,y6,l1,l2,l3,h⟩=>by
   obtain⟨hi',rfl⟩:=uK hd;subst h;obtain⟨r2,L2,a1,a2,a3,hb⟩:=z4Q n m ((0:Int)+(i:Nat)) room' (by omega) (by omega) L (by omega) l3 x3 x4;exact⟨_,_,rfl,.inl hb,r2,L2,_,by omega,by omega,a3,rfl⟩)
 rw[uW]at g2;refine⟨room',L,y6,g1,by omega,g3,?_⟩;rw[h]at e2;refine vj ?_ e2;generalize ((room:Nat):Int)=r at *;generalize n/7%7=y at *;generalize ((c:Nat):Int)=cc at *;generalize rng 0 c=rr at *;simp -implicitDefEqProofs only [za,eC,ze,eL,zb,z8,iL,jYa,tD,d7,m7,ec,e1]
def z6p (n m:Int)(hm0:0<=m)(hm:m<=200)(room:Nat)(L:List D)(hL:L.length<1000)(x4 x5 x6:Option D):∃(n':Int) (room':Nat) (p:D) (y5 y6:Option D),room'+nc p=room/\Pr p /\
  bP [some (.int n),some (.int (room:Nat)),some (.int m),some (.lst L),x4,x5,x6]=.ok (.nx [some (.int n'),some (.int (room':Nat)),some (.int m),some (.lst (L++[p])),x4,y5,y6]):=by
 obtain⟨v,hv,_⟩:=next n;obtain⟨room',ns,y6,g1,g2,g3,h⟩:=z6g v m room (some (.lst L)) x4 x6;have d5:=dvD v 5;have d2:=dvD m 200;have q1:u9 (.int 999000) (.int (m/200))=.ok (.int (999000*(m/200))):=Ze (by decide) (by decide);have mq:y0 (.int (v/5)) (.int (1000003-999000*(m/200)))=.ok (.int (v/5%(1000003-999000*(m/200)))):=wO (by omega);obtain⟨z,hz,wz⟩:=word (v/5%(1000003-999000*(m/200)));have im:yc [.lst ns]=.ok (.tup ns):=if_pos (yg fun w hw=>(g3 w hw).imm);refine⟨v,room',.tup [.str z,.tup ns],some (.lst ns),y6,g1,⟨.str z,ns,rfl,wz,g2,g3⟩,?_⟩;have hL:L.length<16777216:=by omega
 unfold bP;simp only[xw,xx,wc,zh,zq,za,eC,ze,eL,zb,z8,jYa,tD,tE,tI,tM,qz,hv,h,d5,d2,q1,mq,hz,im,hL]
def z1m (L:List D)(p:D):ncs (L++[p])=ncs L+nc p:=by
 unfold ncs;rw[rA,List.sum_append,tG,tX,sX,List.sum_nil]
 rfl
def z57 (n:Int)(room:Nat):∃ps,wB [.int n,.int (room:Nat)]=.ok (.tup ps)/\1<=ps.length/\ps.length<=200/\(∀p∈ps,Pr p)/\ncs ps<=room:=by
 have d6:=dvD n 6;have m6:=mdD n 6;have m60:=mdD (n/6) 60;obtain⟨sz,hs,s0,s1⟩:∃sz:Int,(IFP [some (.int n),some (.int (room:Nat)),some (.int (1+n%6)),none,none,none,none]=.ok (.nx [some (.int n),some (.int (room:Nat)),some (.int sz),none,none,none,none]))/\1<=sz/\sz<=200:=by
  generalize ((room:Nat):Int)=r at *
  by_cases hq:n/6%60=1
  ·have z:(n/6%60==1)=true:=beq_iff_eq.mpr hq;refine⟨200,?_,by omega,by omega⟩;simp only[IFP,zm,zq,sIf,za,eC,ze,zi,asB,jYa,tD,tI,tM,zZ,if_true,if_false,tK,d6,m60,z]
  ·have z:(n/6%60==1)=false:=beq_false_of_ne hq;refine⟨1+n%6,?_,by omega,by omega⟩;simp only[IFP,zm,zq,sIf,za,eC,ze,zi,asB,jYa,tD,tI,tM,zZ,if_false,tK,d6,m60,z]
 have e1:wY [D.int sz]=.ok (rng 0 sz.toNat):=uI (by omega) (by omega);obtain⟨τ',e2,n',room',ps,y4,y5,y6,g1,g2,g3,h⟩:=wV (asg:=(Tgt.one 4).asg) (body:=bP)
  (fun i τ=>∃(n':Int) (room':Nat) (ps:List D) (y4 y5 y6:Option D),room'+ncs ps=room/\ps.length=i/\(∀p∈ps,Pr p)/\τ=[some (.int n'),some (.int (room':Nat)),some (.int sz),some (.lst ps),y4,y5,y6]) (rng 0 sz.toNat) 0
  [some (.int n),some (.int (room:Nat)),some (.int sz),some (.lst []),none,none,none] ⟨n,room,[],none,none,none,rfl,rfl,fun c hc=>(nomatch hc),rfl⟩ (fun i q τ hd ⟨n',room',ps,y4,y5,y6,l1,l2,l3,h⟩=>by
   obtain⟨hi',rfl⟩:=uK hd;subst h;obtain⟨n2,r2,p,z5,z6,a1,a2,hb⟩:=z6p n' sz (by omega) (by omega) room' ps (by omega) (some (.int ((0:Int)+(i:Nat)))) y5 y6;refine⟨_,_,rfl,.inl hb,n2,r2,ps++[p],_,z5,z6,by rw[z1m];omega,by rw[tH,l2];rfl,fun x hx=>?_,rfl⟩;rcases sC.mp hx with z|z
   ·exact l3 x z
   ·rw[sG.mp z];exact a2)
 rw[uW]at g2;refine⟨ps,?_,by omega,by omega,g3,by omega⟩;have im:yc [.lst ps]=.ok (.tup ps):=if_pos (yg fun w hw=>(g3 w hw).imm);rw[h]at e2;generalize ((room:Nat):Int)=r at *;generalize ((room':Nat):Int)=r' at *;have eF:yY (iL wY (z8 (za 2) zb)) (.one 4) bP [some (.int n),some (.int r),some (.int sz),some (.lst []),none,none,none]=_:=vj (by simp only[za,zb,z8,iL,jYa,tD,tE,e1]) e2;rw[tP];unfold TP;generalize yY (iL wY (z8 (za 2) zb)) (.one 4) bP=SF at *;generalize IFP=SI at *;generalize n%6=y at *;simp only[zr,zh,zq,zp,za,eC,ze,eL,zb,z8,jYa,tG,tX,tF,tR,sA,tJ,tQ,tO,tD,tE,tI,tM,Nat.reduceAdd,Nat.reduceSub,tY,xN,m6,hs,eF,im]
def tT:wx=zr 7 TT:=rfl
def z5t (n:Int)(L:List D)(hL:L.length<1000)(x1 x2 x3 x4 x6:Option D):∃n' c,Ce c/\bC [some (.int n),x1,x2,x3,x4,some (.lst L),x6]=.ok (.nx [some (.int n'),x1,x2,x3,x4,some (.lst (L++[c])),x6]):=by
 obtain⟨v,hv,_⟩:=next n;have d3:=dvD v 3;obtain⟨t,ht,nt⟩:=words (v/3) 0 12 (by decide) (by decide);have ht:yp [.int (v/3),.int 0,.int 12]=.ok t:=ht;refine⟨v,t,nt,?_⟩;have hL:L.length<16777216:=by omega
 unfold bC;simp only[xw,xx,wc,zh,zq,za,eC,ze,eL,zb,z8,jYa,tD,tE,tI,tM,hv,d3,ht,hL]
def z4S (n:Int)(k:Nat)(hk:k<=4)(L:List D)(hL:L.length<1000)(x2 x4 x5 x6:Option D):∃n' r y5 y6,Rw k r/\bR [some (.int n),some (.int (k:Nat)),x2,some (.lst L),x4,x5,x6]=.ok (.nx [some (.int n'),some (.int (k:Nat)),x2,some (.lst (L++[r])),x4,y5,y6]):=by
 have e1:wY [D.int (k:Nat)]=.ok (rng 0 k):=uI (by omega) (by omega);obtain⟨τ',e2,n',cs,y6,g1,g2,h⟩:=wV (asg:=(Tgt.one 6).asg) (body:=bC)
  (fun i τ=>∃(n':Int) (cs:List D) (y6:Option D),cs.length=i/\(∀p∈cs,Ce p)/\τ=[some (.int n'),some (.int (k:Nat)),x2,some (.lst L),x4,some (.lst cs),y6]) (rng 0 k) 0
  [some (.int n),some (.int (k:Nat)),x2,some (.lst L),x4,some (.lst []),x6] ⟨n,[],x6,rfl,fun c hc=>(nomatch hc),rfl⟩ (fun i q τ hd ⟨n',cs,y6,l1,l2,h⟩=>by
   obtain⟨hi',rfl⟩:=uK hd;subst h;obtain⟨n2,c,a1,hb⟩:=z5t n' cs (by omega) (some (.int (k:Nat))) x2 (some (.lst L)) x4 (some (.int ((0:Int)+(i:Nat))));refine⟨_,_,rfl,.inl hb,n2,cs++[c],_,by rw[tH,l1];rfl,fun x hx=>?_,rfl⟩;rcases sC.mp hx with z|z
   ·exact l2 x z
   ·rw[sG.mp z];exact a1)
 rw[uW]at g1;have im:yc [.lst cs]=.ok (.tup cs):=if_pos (yg fun w hw=>(g2 w hw).imm);rw[h]at e2;refine⟨n',.tup cs,some (.lst cs),y6,⟨cs,rfl,by omega,g2⟩,?_⟩;generalize ((k:Nat):Int)=kk at *;have eF:yY (iL wY (z8 (za 1) zb)) (.one 6) bC [some (.int n),some (.int kk),x2,some (.lst L),x4,some (.lst []),x6]=_:=vj (by simp -implicitDefEqProofs only [za,zb,z8,iL,jYa,tD,tE,e1]) e2;have hL:L.length<16777216:=by omega
 unfold bR;generalize yY (iL wY (z8 (za 1) zb)) (.one 6) bC=SF at *;simp -implicitDefEqProofs only [xw,xx,wc,zh,zq,za,eL,zb,z8,jYa,tD,tE,tI,tM,eF,im,hL]
def table (n:Int):∃t,wx [.int n]=.ok t/\Tb t:=by
 have d4:=dvD n 4;have d12:=dvD n 12;have m4:=mdD n 4;have m3:=mdD (n/4) 3;have m16:=mdD (n/12) 16;obtain⟨k,ek,k1,k2⟩:∃k:Nat,1+n%4=((k:Nat):Int)/\1<=k/\k<=4:=⟨(1+n%4).toNat,by omega,by omega,by omega⟩
 obtain⟨sz,hs,s0,s1⟩:∃sz:Int,(IFT [some (.int n),some (.int (k:Nat)),some (.int (1+n/4%3)),none,none,none,none]=.ok (.nx [some (.int n),some (.int (k:Nat)),some (.int sz),none,none,none,none]))/\1<=sz/\sz<=20:=by
  generalize ((k:Nat):Int)=r at *
  by_cases hq:n/12%16=1
  ·have z:(n/12%16==1)=true:=beq_iff_eq.mpr hq;refine⟨20,?_,by omega,by omega⟩;simp only[IFT,zm,zq,sIf,za,eC,ze,zi,asB,jYa,tD,tI,tM,zZ,if_true,if_false,tK,d12,m16,z]
  ·have z:(n/12%16==1)=false:=beq_false_of_ne hq;refine⟨1+n/4%3,?_,by omega,by omega⟩;simp only[IFT,zm,zq,sIf,za,eC,ze,zi,asB,jYa,tD,tI,tM,zZ,if_false,tK,d12,m16,z]
 have e1:wY [D.int sz]=.ok (rng 0 sz.toNat):=uI (by omega) (by omega);obtain⟨τ',e2,n',rs,y4,y5,y6,g1,g2,h⟩:=wV (asg:=(Tgt.one 4).asg) (body:=bR)
  (fun i τ=>∃(n':Int) (rs:List D) (y4 y5 y6:Option D),rs.length=i/\(∀r∈rs,Rw k r)/\τ=[some (.int n'),some (.int (k:Nat)),some (.int sz),some (.lst rs),y4,y5,y6]) (rng 0 sz.toNat) 0
  [some (.int n),some (.int (k:Nat)),some (.int sz),some (.lst []),none,none,none] ⟨n,[],none,none,none,rfl,fun c hc=>(nomatch hc),rfl⟩ (fun i q τ hd ⟨n',rs,y4,y5,y6,l1,l2,h⟩=>by
   obtain⟨hi',rfl⟩:=uK hd;subst h;obtain⟨n2,r,z5,z6,a1,hb⟩:=z4S n' k k2 rs (by omega) (some (.int sz)) (some (.int ((0:Int)+(i:Nat)))) y5 y6;refine⟨_,_,rfl,.inl hb,n2,rs++[r],_,z5,z6,by rw[tH,l1];rfl,fun x hx=>?_,rfl⟩;rcases sC.mp hx with z|z
   ·exact l2 x z
   ·rw[sG.mp z];exact a1)
 rw[uW]at g1;have im:yc [.lst rs]=.ok (.tup rs):=if_pos (yg fun w hw=>(g2 w hw).imm);rw[h]at e2;refine⟨.tup rs,?_,k,rs,rfl,k1,k2,by omega,by omega,g2⟩;generalize ((k:Nat):Int)=kk at *;have eF:yY (iL wY (z8 (za 2) zb)) (.one 4) bR [some (.int n),some (.int kk),some (.int sz),some (.lst []),none,none,none]=_:=vj (by simp only[za,zb,z8,iL,jYa,tD,tE,e1]) e2;rw[tT];unfold TT;generalize yY (iL wY (z8 (za 2) zb)) (.one 4) bR=SF at *;generalize IFT=SI at *;generalize n/4%3=y3 at *;generalize n/4=y2 at *;generalize n%4=y at *;simp only[zr,zh,zq,zp,za,eC,ze,eL,zb,z8,jYa,tG,tX,tF,tR,sA,tJ,tQ,tO,tD,tE,tI,tM,Nat.reduceSub,tY,xN,m4,d4,m3,ek,hs,eF,im]
def KD (n:Int)(room:Nat):∃b m,v9 [.int n,.int (room:Nat)]=.ok b/\Bk b m/\m<=room:=by
 have m8:=mdD n 8;have d8:=dvD n 8;obtain⟨ws,hw,ww⟩:=words (n/8) 1 12 (by decide) (by decide);have hw:yp [.int (n/8),.int 1,.int 12]=.ok ws:=hw;obtain⟨t,ht,tt⟩:=table (n/8);obtain⟨ps,hp,p1,p2,p3,p4⟩:=z57 (n/8) room;have hy0:0<=n%8:=hI _ (by decide);unfold v9 jR;generalize yp=G1 at *;generalize wx=G2 at *;generalize wB=G3 at *;generalize hr:((room:Nat):Int)=r at *;generalize n%8=y at *;generalize n/8=q at *
 by_cases h0:y=0
 ·refine⟨_,0,?_,Bk.leaf,by omega⟩;have z:(y==0)=true:=beq_iff_eq.mpr h0;simp only[zm,zr,zh,zp,sIf,za,eC,ze,eL,zb,z8,zi,asB,jYa,tG,tX,tF,tR,tJ,tQ,tO,tD,Nat.reduceAdd,Nat.reduceSub,tY,zZ,if_true,if_false,tK,m8,z]
 ·have z:(y==0)=false:=beq_false_of_ne h0
  by_cases h1:y<3
  ·have e1:decide (y<3)=true:=decide_eq_true h1;refine⟨_,0,?_,Bk.head ww,by omega⟩;simp only[zm,zr,zh,zp,sIf,za,eC,ze,eL,zb,z8,zi,asB,jYa,tG,tX,tF,tR,tJ,tQ,tO,tD,Nat.reduceAdd,Nat.reduceSub,tY,vx,zZ,if_true,if_false,tK,m8,d8,z,e1,hw]
  ·have e1:decide (y<3)=false:=decide_eq_false h1
   by_cases h2:y<5
   ·have e2:decide (y<5)=true:=decide_eq_true h2;refine⟨_,0,?_,Bk.table tt,by omega⟩;simp only[zm,zr,zh,zp,sIf,za,eC,ze,eL,zb,z8,zi,asB,jYa,tG,tX,tF,tR,tJ,tQ,tO,tD,Nat.reduceAdd,Nat.reduceSub,tY,vx,zZ,if_true,if_false,tK,m8,d8,z,e1,e2,ht]
   ·have e2:decide (y<5)=false:=decide_eq_false h2;refine⟨_,ncs ps,?_,Bk.text p1 p2 p3,p4⟩;simp only[zm,zr,zh,zp,sIf,za,eC,ze,eL,zb,z8,zi,asB,jYa,tG,tX,tF,tR,tJ,tQ,tO,tD,tE,Nat.reduceAdd,Nat.reduceSub,tY,vx,zZ,if_false,tK,m8,d8,z,e1,e2,hp]
def bB:Tn->R Fl:=(zh B1 (zh B2 (zh B3 B4)))
def TB:Tn->R Fl:=(zh (zq 2 (eL zW (z8 (za 0) (z8 (za 1) zb)))) (zh (zq 3 (ze y0 (za 2) (eC (.int 5)))) (zh IFB (zh (zq 4 (eL (fun ds=>.ok (.lst ds)) zb)) (zh (zq 5 (eC (.int 60))) (zh (yY (iL wY (z8 (za 3) zb)) (.one 6) bB) (zp (za 4))))))))
def tB:xH=zr 7 TB:=rfl
def z6h (ns:List Int)(hl:ns.length<=63)(j:Int)(hj:0<=j)(x2 x3 x4 x5:Option D):∃v,B1 [some (.frl (ns.map .int)),some (.int 0),x2,x3,x4,x5,some (.int j)]=.ok (.nx [some (.frl (ns.map .int)),some (.int 0),some (.int v),x3,x4,x5,some (.int j)]):=by
 obtain⟨v,hv,_⟩:=XB ns (0+1+j%6) (by omega) hl;have m6:=mdD j 6;have d6:=dvD j 6;have q1:u9 (.int 101) (.int (j/6))=.ok (.int (101*(j/6))):=Ze (by decide) (by decide);refine⟨v+101*(j/6),?_⟩;have e1:(0:Int)+1=1:=rfl;rw[e1]at hv;unfold B1;simp only[zq,za,eC,ze,eL,zb,z8,jYa,tD,tE,tI,tM,xN,m6,d6,q1,e1,hv]
def z5b (v m:Int)(x0 x1 x4 x5 x6:Option D):∃v',B2 [x0,x1,some (.int v),some (.int m),x4,x5,x6]=.ok (.nx [x0,x1,some (.int v'),some (.int m),x4,x5,x6]):=by
 have m8:=mdD v 8;unfold B2;generalize v%8=y at *;cases h:(m==40)
 ·exact⟨v,by simp only[zm,zq,sIf,za,eC,ze,zi,wo,asB,jYa,tD,tE,tI,tM,qz,vE,wO,zZ,if_false,tK,Int.reduceLT,h]⟩
 ·cases h2:decide (y>4)
  ·exact⟨v,by simp only[zm,zq,sIf,za,eC,ze,zi,wo,asB,jYa,tD,tE,tI,tM,qz,vE,zZ,if_true,if_false,tK,h,m8,h2]⟩
  ·exact⟨v-5,by simp only[zm,zq,sIf,za,eC,ze,zi,wo,asB,jYa,tD,tE,tI,tM,qz,vE,zZ,if_true,if_false,tK,h,m8,h2]⟩
def z5g (v:Int)(room:Nat)(L:List D)(hL:L.length<1000)(x0 x1 x3 x6:Option D):∃b m,Bk b m/\m<=room/\B3 [x0,x1,some (.int v),x3,some (.lst L),some (.int (room:Nat)),x6]=.ok (.nx [x0,x1,some (.int v),x3,some (.lst (L++[b])),some (.int (room:Nat)),x6]):=by
 obtain⟨b,m,h,hb,hm⟩:=KD v room;refine⟨b,m,hb,hm,?_⟩;have hL:L.length<16777216:=by omega
 unfold B3;simp only[xw,xx,wc,za,eL,zb,z8,jYa,tD,tE,tI,tM,h,hL]
def ixm (L:List D)(b:D):ixD (.lst (L++[b])) (.int (-1))=.ok b:=Kw (WT L b)
def z04 (z:Str)(l:List D)(hz:eqR false (.str z) (.str "text")=.ok (.bl false))(L:List D)(x0 x1 x2 x3 x5 x6:Option D):B4 [x0,x1,x2,x3,some (.lst (L++[.tup (.str z::l)])),x5,x6]=.ok (.nx [x0,x1,x2,x3,some (.lst (L++[.tup (.str z::l)])),x5,x6]):=by
 have h:=ixm L (.tup (.str z::l));have h0:ixD (.tup (.str z::l)) (.int 0)=.ok (.str z):=yV;unfold B4;simp only[zI,yt,yw,zm,zq,sIf,za,eC,ze,eUn,eL,zb,z8,zi,zQ,asB,jYa,tD,tE,tI,tM,Ud,if_false,tK,Int.reduceNeg,h,h0,hz]
def z2e (ps:List D)(hp:∀p∈ps,Pr p)(h200:ps.length<=200)(L:List D)(x0 x1 x2 x3 x6:Option D)(room:Nat)(hr:ncs ps<=room):B4 [x0,x1,x2,x3,some (.lst (L++[.tup [.str "text",.tup ps]])),some (.int (room:Nat)),x6]=.ok (.nx [x0,x1,x2,x3,some (.lst (L++[.tup [.str "text",.tup ps]])),some (.int ((room-ncs ps:Nat))),x6]):=by
 have h:=ixm L (.tup [.str "text",.tup ps]);have h0:ixD (.tup [.str "text",.tup ps]) (.int 0)=.ok (.str "text"):=yV;have h1:ixD (.tup [.str "text",.tup ps]) (.int 1)=.ok (.tup ps):=xp;have hz:eqR false (.str "text") (.str "text")=.ok (.bl true):=kd (by decide +kernel);have k1:yQ (ya (Tgt.one 0).asg (fun _=>.ok true) (eL yE (z8 (ze ixD (za 0) (eC (.int 1))) zb)) [none]) (ps.map id)=.ok (ps.filterMap fun p=>some (D.int (nc p:Nat))):=ym fun p hp1=>by
  obtain⟨w,ns,rfl,_,_,_⟩:=hp p hp1;have e:=qE ns;have e2:nc (.tup [w,.tup ns])=ns.length:=rfl;have e3:ixD (.tup [w,.tup ns]) (.int 1)=.ok (.tup ns):=xp;rw[e2];show ya _ _ _ _ (.tup [w,.tup ns])=_;unfold ya;simp only[za,eC,ze,eL,zb,z8,Tgt.asg,jYa,tD,tI,if_true,yz,e3,e]
 rw[pG,xv]at k1;have i1:uz (ps.map fun p=>D.int (nc p:Nat))=.ok (.lst (ps.map fun p=>D.int (nc p:Nat))):=xt (by rw[tU];omega);have s1:kY [.lst (ps.map fun p=>D.int (nc p:Nat))]=.ok (.int (ncs ps:Nat)):=by
  have e:(ps.map fun p=>D.int (nc p:Nat))=(ps.map fun p=>((nc p:Nat):Int)).map D.int:=by rw[sR];rfl
  rw[e,Uc];congr 2;unfold ncs;clear k1 i1 e h h0 h1 hz hr hp h200
  induction ps with
  | nil=>rfl
  | cons p ps ih=>rw[tG,tG,sX,sX,ih];omega
 have er:((room-ncs ps:Nat):Int)=((room:Nat):Int)-(ncs ps:Nat):=by omega
 rw[er];unfold B4;simp only[zI,yt,yw,zm,zq,sIf,za,eC,ze,eUn,eL,zb,z8,zi,zQ,asB,xk,jYa,tD,tE,tI,tM,qz,Ud,if_true,Int.reduceNeg,h,h0,h1,hz,k1,i1,s1]
def z5T (b:D)(m:Nat)(hb:Bk b m)(room:Nat)(hm:m<=room)(L:List D)(x0 x1 x2 x3 x6:Option D):B4 [x0,x1,x2,x3,some (.lst (L++[b])),some (.int (room:Nat)),x6]=.ok (.nx [x0,x1,x2,x3,some (.lst (L++[b])),some (.int ((room-m:Nat))),x6]):=by
 cases hb with
 | leaf=>exact z04 "leaf" [] (vw (by decide +kernel)) L x0 x1 x2 x3 (some (.int (room:Nat))) x6
 | head h=>exact z04 "head" _ (vw (by decide +kernel)) L x0 x1 x2 x3 (some (.int (room:Nat))) x6
 | table h=>exact z04 "table" _ (vw (by decide +kernel)) L x0 x1 x2 x3 (some (.int (room:Nat))) x6
 | text h1 h2 h=>exact z2e _ h h2 L x0 x1 x2 x3 x6 room hm
def z4o (T1 T2 T3 T4:Tn->R Fl)(τ0 τ1 τ2 τ3 τ4:Tn)(h1:T1 τ0=.ok (.nx τ1))(h2:T2 τ1=.ok (.nx τ2))(h3:T3 τ2=.ok (.nx τ3))(h4:T4 τ3=.ok (.nx τ4)):zh T1 (zh T2 (zh T3 T4)) τ0=.ok (.nx τ4):=by
 simp only[zh,jYa,h1,h2,h3,h4]
def z5m (ns:List Int)(hl:ns.length<=63)(j m:Int)(hj:0<=j)(L:List D)(hL:L.length<1000)(room:Nat)(x2:Option D):∃(b:D) (k:Nat) (y2:Option D),Bk b k/\k<=room /\
  bB [some (.frl (ns.map .int)),some (.int 0),x2,some (.int m),some (.lst L),some (.int (room:Nat)),some (.int j)]=.ok (.nx [some (.frl (ns.map .int)),some (.int 0),y2,some (.int m),some (.lst (L++[b])),some (.int ((room-k:Nat))),some (.int j)]):=by
 obtain⟨v,h1⟩:=z6h ns hl j hj x2 (some (.int m)) (some (.lst L)) (some (.int (room:Nat)));obtain⟨v',h2⟩:=z5b v m (some (.frl (ns.map .int))) (some (.int 0)) (some (.lst L)) (some (.int (room:Nat))) (some (.int j));obtain⟨b,k,hb,hk,h3⟩:=z5g v' room L hL (some (.frl (ns.map .int))) (some (.int 0)) (some (.int m)) (some (.int j));exact⟨b,k,_,hb,hk,z4o B1 B2 B3 B4 _ _ _ _ _ h1 h2 h3 (z5T b k hb room hk L _ _ _ _ _)⟩
def Qw (L:List D)(p:D):bns (L++[p])=bns L+bn p:=by
 unfold bns;rw[rA,List.sum_append,tG,tX,sX,List.sum_nil]
 rfl
def Jd (bs:List D):Prop:=bs.length<=40/\(∀b∈bs,∃n,Bk b n)/\bns bs<=60
def z3D (ns:List Int)(hl:ns.length<=63):∃bs,xH [.frl (ns.map .int),.int 0]=.ok (.lst bs)/\Jd bs:=by
 obtain⟨n,hn,n0,_⟩:=XB ns 0 (by omega) hl;have d5:=dvD n 5;have m5:=mdD n 5;have m40:=mdD (n/5) 40;obtain⟨sz,hs,s0,s1⟩:∃sz:Int,(IFB [some (.frl (ns.map .int)),some (.int 0),some (.int n),some (.int (n%5)),none,none,none]=.ok (.nx [some (.frl (ns.map .int)),some (.int 0),some (.int n),some (.int sz),none,none,none]))/\0<=sz/\sz<=40:=by
  by_cases hq:n/5%40=1
  ·have z:(n/5%40==1)=true:=beq_iff_eq.mpr hq;refine⟨40,?_,by omega,by omega⟩;simp only[IFB,zm,zq,sIf,za,eC,ze,zi,asB,jYa,tD,tE,tI,tM,zZ,if_true,if_false,tK,d5,m40,z]
  ·have z:(n/5%40==1)=false:=beq_false_of_ne hq;refine⟨n%5,?_,by omega,by omega⟩;simp only[IFB,zm,zq,sIf,za,eC,ze,zi,asB,jYa,tD,tE,tI,tM,zZ,if_false,tK,d5,m40,z]
 have e1:wY [D.int sz]=.ok (rng 0 sz.toNat):=uI (by omega) (by omega);obtain⟨τ',e2,bs,room,y2,y6,g1,g2,g3,h⟩:=wV (asg:=(Tgt.one 6).asg) (body:=bB)
  (fun i τ=>∃(bs:List D) (room:Nat) (y2 y6:Option D),bs.length=i/\room+bns bs=60/\(∀b∈bs,∃n,Bk b n)/\τ=[some (.frl (ns.map .int)),some (.int 0),y2,some (.int sz),some (.lst bs),some (.int (room:Nat)),y6]) (rng 0 sz.toNat) 0
  [some (.frl (ns.map .int)),some (.int 0),some (.int n),some (.int sz),some (.lst []),some (.int 60),none] ⟨[],60,_,none,rfl,rfl,fun c hc=>(nomatch hc),rfl⟩ (fun i q τ hd ⟨bs,room,y2,y6,l1,l2,l3,h⟩=>by
   obtain⟨hi',rfl⟩:=uK hd;subst h;obtain⟨b,k,z2,hb,hk,he⟩:=z5m ns hl ((0:Int)+(i:Nat)) sz (by omega) bs (by omega) room y2;refine⟨_,_,rfl,.inl he,bs++[b],room-k,z2,_,by rw[tH,l1];rfl,by rw[Qw,hb.bn];omega,fun x hx=>?_,rfl⟩;rcases sC.mp hx with z|z
   ·exact l3 x z
   ·rw[sG.mp z];exact⟨k,hb⟩)
 rw[uW]at g1;rw[h]at e2;refine⟨bs,?_,by omega,g3,by omega⟩;have eF:yY (iL wY (z8 (za 3) zb)) (.one 6) bB [some (.frl (ns.map .int)),some (.int 0),some (.int n),some (.int sz),some (.lst []),some (.int 60),none]=_:=vj (by simp only[za,zb,z8,iL,jYa,tD,tE,e1]) e2;rw[tB];unfold TB;simp only[zr,zh,zq,zp,za,eC,ze,eL,zb,z8,jYa,tG,tX,tF,tR,sA,tJ,tQ,tO,tD,tE,tI,tM,Nat.reduceAdd,Nat.reduceSub,tY,hn,m5,hs,eF]
def ZX {f:D->D->Option Bool}:∀ {xs:List D},(∀x∈xs,f x x=some true)->xa f xs xs=some true
 | [],_=>rfl
 | x::xs,h=>by
  unfold xa;rw[ZX fun y hy=>h y (tS _ hy),h x tN]
  rfl
def vI {n:Nat}(h:∀x∈xs,eqF n x x=some true):eqF (n+1) (.tup xs) (.tup xs)=some true:=by
 show ((xa (eqF n) xs xs).map fun b=>b&&xs.length==xs.length)=_;rw[ZX h,Option.map_some,beq_self_eq_true]
 rfl
def Zi (n:Nat)(z:Str):eqF n (.str z) (.str z)=some true:=by
 have e:eqF n (.str z) (.str z)=some (z==z):=by cases n<;>rfl
 rw[e,beq_self_eq_true]
def Wd.eq (h:Wd d)(n:Nat):eqF n d d=some true:=by obtain⟨_,cs,rfl,_⟩:=h;exact Zi n _
def Ws.eq {lo hi:Nat}(h:Ws lo hi d)(n:Nat):eqF (n+1) d d=some true:=by
 obtain⟨ws,rfl,_,_,h⟩:=h;exact vI fun w hw=>(h w hw).eq n
def Pr.eq (h:Pr d)(n:Nat):eqF (n+3) d d=some true:=by
 obtain⟨w,ns,rfl,hw,_,hn⟩:=h;refine vI fun x hx=>?_;rcases sI.mp hx with rfl|hx
 ·exact hw.eq _
 ·rw[sG.mp hx];exact vI fun y hy=>(hn y hy).eq n
def Tb.eq (h:Tb d)(n:Nat):eqF (n+3) d d=some true:=by
 obtain⟨k,rs,rfl,_,_,_,_,h⟩:=h;refine vI fun r hr=>?_;obtain⟨cs,rfl,_,hc⟩:=h r hr;exact vI fun c hc'=>(hc c hc').eq n
def two {n:Nat}(h:eqF n t t=some true):eqF (n+1) (.tup [.str z,t]) (.tup [.str z,t])=some true:=by
 refine vI fun x hx=>?_;rcases sI.mp hx with rfl|hx
 ·exact Zi _ _
 ·rw[sG.mp hx];exact h
def Bk.eq {m:Nat}(h:Bk d m):eqF 11 d d=some true:=by
 cases h with
 | leaf=>exact vI fun x hx=>by rw[sG.mp hx];exact Zi _ _
 | head h=>exact two (h.eq 9)
 | table h=>exact two (h.eq 7)
 | text _ _ h=>exact two (vI fun p hp=>(h p hp).eq 6)
def z2f (bs:List D)(h:∀b∈bs,∃n,Bk b n):eqR true (.lst bs) (.lst bs)=.ok (.bl false):=by
 refine z1F (fun _ _ h=>by cases h) ?_;show (if bs.length=bs.length then xa (eqF 11) bs bs else some false)=_;rw[if_pos rfl];exact ZX fun b hb=>by obtain⟨n,h⟩:=h b hb;exact h.eq
def XE (n:Int):zK [.int n]=zK [.int (n%10)]:=by
 have m1:=mdD n 10;have m2:y0 (.int (n%10)) (.int 10)=.ok (.int (n%10)):=by
  have:=wO (i:=n%10) (j:=10) (by decide);rw[Int.emod_emod_of_dvd n (by decide:(10:Int) ∣ 10)]at this;exact this
 have hx:∀L,∃r,ixD L (.int (n%10))=r:=fun L=>⟨_,rfl⟩
 have e0:zK=zr 1 vB:=rfl;rw[e0];unfold vB;have mb:∃r,kB (.str "a") (.int 41)=r:=⟨_,rfl⟩
 obtain⟨rb,mb⟩:=mb;have fz:∃r,Vw [.str "a"]=r:=⟨_,rfl⟩
 obtain⟨rf,fz⟩:=fz;simp only[zr,zp,za,eC,ze,eL,zb,z8,jYa,tG,tX,tF,tR,tJ,tQ,tO,tD,Nat.reduceSub,tY,m1,m2,mb,fz]
def jE (n:Int):∃d,zK [.int n]=.ok d/\NW d:=by
 rw[XE n];obtain⟨k,hk,h10⟩:∃k:Nat,n%10=((k:Nat):Int)/\k<10:=⟨(n%10).toNat,by omega,by omega⟩
 rw[hk];have h:=kQ;rw[rX]at h;have h:=h k (hX.mpr h10);unfold z65 at h;generalize zK [.int (k:Nat)]=r at *;cases r with
 | ok d =>
  have h:(d.imm&&isF (yk [d]))=true:=h;rw[sY]at h;exact⟨d,rfl,vw h.2,h.1⟩
 | err _=>cases h
 | bad=>cases h
def uy (h:D.imms xs=true)(a:Nat):D.imms (xs.take a)=true:=by
 have e:=xP (xs.take a) (xs.drop a);rw[List.take_append_drop,h]at e;cases hb:D.imms (xs.take a)with
 | false=>rw[hb]at e;cases e
 | true=>rfl
def qM (h:D.imms xs=true)(a:Nat):D.imms (xs.drop a)=true:=by
 have e:=xP (xs.take a) (xs.drop a);rw[List.take_append_drop,h]at e;cases hb:D.imms (xs.drop a)with
 | false=>rw[hb,pQ]at e;cases e
 | true=>rfl
def z0n (h:D.imms xs=true)(a:Nat)(ha:a<=xs.length):slA (.tup xs) none (some (a:Int))=.ok (.tup (xs.take a)):=by
 have:slA (.tup xs) none (some (a:Int))=.ok (.tup (j6 xs none (some (a:Int)))):=if_pos h;rw[this,VR ha]
def ZO (h:D.imms xs=true)(a:Nat)(ha:a<=xs.length):slA (.tup xs) (some (a:Int)) none=.ok (.tup (xs.drop a)):=by
 have:slA (.tup xs) (some (a:Int)) none=.ok (.tup (j6 xs (some (a:Int)) none)):=if_pos h;rw[this,Zp ha]
def V2 (h1:D.imms xs=true)(h2:D.imms ys=true)(hl:xs.length+ys.length<=10000):ud (.tup xs) (.tup ys)=.ok (.tup (xs++ys)):=if_pos ⟨h1,h2,by rw[sizeLine_eq];omega⟩
def Vu (h:d.imm=true):D.imms [d]=true:=by show (d.imm&&true)=true;rw[h];rfl
def vX (h:D.imms xs=true)(hd:d.imm=true)(a b:Nat):D.imms (xs.take a++d::xs.drop b)=true:=by
 rw[xP,uy h];show (true&&(d.imm&&D.imms (xs.drop b)))=true;rw[hd,qM h]
 rfl
def z2z (h:D.imms xs=true)(hd:d.imm=true)(hl:xs.length<=1000)(a b:Nat):ud (.tup (xs.take a)) (.tup [d])=.ok (.tup (xs.take a++[d]))/\ud (.tup (xs.take a++[d])) (.tup (xs.drop b))=.ok (.tup (xs.take a++d::xs.drop b)):=by
 refine⟨V2 (uy h a) (Vu hd) (by rw[rR];show _+1<=_;omega),?_⟩;have e:xs.take a++d::xs.drop b=(xs.take a++[d])++xs.drop b:=by rw[sF];rfl
 rw[e];exact V2 (by rw[xP,uy h,Vu hd];rfl) (qM h b) (by rw[tH,rR,rL];show _+1+_<=_;omega)
def XX {tl th:Tn->R (Option Int)}:WN t tl th τ=(t τ).bind fun x=>(tl τ).bind fun l=>(th τ).bind fun h=>slA x l h:=rfl
def Yd (xs:List D)(a:Nat)(d:D)(h:D.imms xs=true)(hd:d.imm=true)(hl:xs.length<=1000)(ha:a<xs.length):yy [.tup xs,.int (a:Nat),d]=.ok (.tup (xs.take a++d::xs.drop (a+1))):=by
 have s1:=z0n h a (by omega);have s2:=ZO h (a+1) (by omega);obtain⟨a1,a2⟩:=z2z h hd hl a (a+1);have ec:((a+1:Nat):Int)=((a:Nat):Int)+1:=by omega
 rw[ec]at s2;unfold yy kN;simp only[zr,zp,za,eC,ze,eL,zb,z8,xD,yL,jYa,tG,tX,tF,tR,tJ,tQ,tO,tD,tE,Nat.reduceAdd,Nat.reduceSub,tY,xN,XX,s1,s2,a1,a2]
def vG {xs:List D}{d x:D}{a b:Nat}(h:x∈xs.take a++d::xs.drop b):x∈xs\/x=d:=by
 rcases sC.mp h with h|h
 ·exact .inl (List.mem_of_mem_take h)
 ·rcases sI.mp h with h|h
  ·exact .inr h
  ·exact .inl (List.mem_of_mem_drop h)
def vJ {xs:List D}{d:D}{a b:Nat}:d∈xs.take a++d::xs.drop b:=sD _ tN
def ug {xs:List D}{d:D}{a b:Nat}:(xs.take a++d::xs.drop b).length<=2*xs.length+1:=by
 rw[tH,tF,rR,rL];omega
def xq (n l:Int)(hl:0<l):∃a:Nat,y0 (.int n) (.int l)=.ok (.int (a:Nat))/\((a:Nat):Int)<l/\n%l=((a:Nat):Int):=by
 have h0:=hI n (b:=l) (by omega);refine⟨(n%l).toNat,?_,?_,?_⟩
 ·rw[pA h0];exact wO hl
 ·rw[pA h0];exact Int.emod_lt_of_pos _ hl
 ·rw[pA h0]
def WJ {a:Nat}(h:a<xs.length):ixD (.tup xs) (.int (a:Nat))=.ok xs[a]:=by
 have e:atI xs (a:Int)=some xs[a]:=uQ (rG h);show (match atI xs (a:Int)with|some d=>R.ok d|none=>R.bad)=_;rw[e]
def YV {a:Nat}(h:a<xs.length):ixD (.lst xs) (.int (a:Nat))=.ok xs[a]:=by
 have e:atI xs (a:Int)=some xs[a]:=uQ (rG h);show (match atI xs (a:Int)with|some d=>R.ok d|none=>R.bad)=_;rw[e]
def K8 (ws:List D)(h1:ws.length<=30)(h:∀w∈ws,Wd w)(a b:Nat)(d:D)(hd:NW d):NN (.tup (ws.take a++d::ws.drop b)):=by
 refine⟨?_,vX (yg fun w hw=>(h w hw).imm) hd.2 a b⟩;rw[Z5];refine qt _ (by have:=ug (xs:=ws) (d:=d) (a:=a) (b:=b);omega) (fun x hx=>?_) ⟨d,vJ,hd⟩ _ _;rcases vG hx with h'|rfl
 ·exact .inl (h x h')
 ·exact .inr hd
def z0r (ws:List D)(h1:ws.length<=12)(h:∀w∈ws,Wd w)(a b:Nat)(d:D)(hd:NW d):NC (.tup (ws.take a++d::ws.drop b)):=by
 refine⟨?_,vX (yg fun w hw=>(h w hw).imm) hd.2 a b⟩;rw[Z8];refine qt _ (by have:=ug (xs:=ws) (d:=d) (a:=a) (b:=b);omega) (fun x hx=>?_) ⟨d,vJ,hd⟩ _ _;rcases vG hx with h'|rfl
 ·exact .inl (h x h')
 ·exact .inr hd
def tBP:xY=zr 7 (zh (Yt (.many [2,3]) (za 0)) (zh (zq 4 (ze y0 (za 1) (eC (.int 6)))) (zh P1 (zh P2 (zh P3 (zh P4 (zh P5 (zh P6 P7)))))))):=rfl
def Y7 (c:Nat)(h:isT (yk [.str (S [c])])=true)(h2:okS c):Wd (.str (S [c])):=⟨kd h,[c],rfl,by simp,by simp,fun x hx=>by rw[sG.mp hx];exact h2⟩
def cde:Nt (.tup [.str "c",.str "d",.str "e"]):=⟨_,rfl,by decide,by decide,fun w hw=>by
 rcases sI.mp hw with rfl|hw
 ·exact Y7 99 (by decide +kernel) (by decide +kernel)
 ·rcases sI.mp hw with rfl|hw
  ·exact Y7 100 (by decide +kernel) (by decide +kernel)
  ·rw[sG.mp hw];exact Y7 101 (by decide +kernel) (by decide +kernel)⟩
def qG (h:d.imm=true):JW d=.ok d:=if_pos h
def Zc (h:D.imms xs=true):U4 (.lst xs)=.ok (.frl xs):=if_pos h
def Xo (h:D.imms xs=true):vC [.tup xs]=.ok (.lst xs):=if_pos h
def Ux {y:Int}{k:Int}(h:y≠k):(y==k)=false:=beq_false_of_ne h
def isb {y:Int}{k:Int}(h:y=k):(y==k)=true:=beq_iff_eq.mpr h
def Jg (a b c d:D)(p:D->Prop)(ha:p a)(hb:p b)(hc:p c)(hd:p d)(k:Nat)(hk:k<4):∃x,ixD (.lst [a,b,c,d]) (.int (k:Nat))=.ok x/\p x:=by
 refine⟨_,YV (xs:=[a,b,c,d]) hk,?_⟩;have:k=0\/k=1\/k=2\/k=3:=by omega
 rcases this with rfl|rfl|rfl|rfl<;>assumption
section
variable (w:D)(ns:List D)(hw:Wd w)(hl:ns.length<=3)(hn:∀n∈ns,Nt n)(n:Int)
include hw hl hn
theorem V7:D.imms ns=true:=yg fun t ht=>(hn t ht).imm
theorem z4Y:D.imms [w,.tup ns]=true:=by
 show (w.imm&&(D.imms ns&&true))=true;rw[hw.imm,V7 w ns hw hl hn];rfl
theorem z6e (y:Int)(hy:y≠0)(x0 x5 x6:Option D):P1 [x0,some (.int n),some w,some (.tup ns),some (.int y),x5,x6]=.ok (.nx [x0,some (.int n),some w,some (.tup ns),some (.int y),x5,x6]):=by
 have z:=Ux hy;unfold P1;simp only[wb,zm,zp,sIf,za,eC,ze,eL,zb,z8,zi,asB,jYa,tD,tE,vK,zZ,if_false,tK,Int.reduceLT,z]
theorem z30 (x0 x5 x6:Option D):∃d,NP d/\P1 [x0,some (.int n),some w,some (.tup ns),some (.int 0),x5,x6]=.ok (.rt d):=by
 have z:((0:Int)==0)=true:=rfl;have d6:=dvD n 6;obtain⟨b,hb,nb⟩:=jE (n/6);have im:(D.tup [b,.tup ns]).imm=true:=by
  show (b.imm&&(D.imms ns&&true))=true;rw[nb.2,V7 w ns hw hl hn];rfl
 refine⟨.tup [b,.tup ns],⟨ZT b _ false true nb.1 (fun h=>by cases h),im⟩,?_⟩;have im:=qG im;unfold P1;simp only[wb,zm,zp,sIf,za,eC,ze,eL,zb,z8,zi,asB,jYa,tD,tE,zZ,if_true,if_false,tK,z,d6,hb,im]
theorem z5h (y:Int)(hy:y≠1)(x0 x5 x6:Option D):P2 [x0,some (.int n),some w,some (.tup ns),some (.int y),x5,x6]=.ok (.nx [x0,some (.int n),some w,some (.tup ns),some (.int y),x5,x6]):=by
 have z:=Ux hy;unfold P2;simp only[wb,zm,zp,sIf,za,eC,ze,eUn,eL,zb,z8,zi,asB,jYa,tD,tE,wO,vK,zZ,if_false,tK,Int.reduceLT,z]
theorem z3h (x0 x5 x6:Option D):∃d,NP d/\P2 [x0,some (.int n),some w,some (.tup ns),some (.int 1),x5,x6]=.ok (.rt d):=by
 have z:((1:Int)==1)=true:=rfl;have d6:=dvD n 6;obtain⟨k,m4,hk,_⟩:=xq (n/6) 4 (by decide);have i1:=z4Y w ns hw hl hn;have i0:=V7 w ns hw hl hn;have f1:Vw [w,.tup ns]=.ok (.frl [w,.tup ns]):=if_pos i1;have l1:=Xo i0;have f2:=Zc i0;obtain⟨d,hd,nd⟩:=Jg (.frl [w,.tup ns]) (.tup [w]) (.tup [w,.frl ns]) (.tup [w,.tup ns,.tup []]) NP ⟨z1S _ rfl,rfl⟩ ⟨WV [w] (by show 1≠2;decide),Vu hw.imm⟩
  ⟨ZT w _ true false hw.1 (fun _=>by rw[UJ];exact XG _ _ _ _ rfl),by
   show (w.imm&&(true&&true))=true;rw[hw.imm];rfl⟩ ⟨WV [w,.tup ns,.tup []] (by show 3≠2;decide),by
   show (w.imm&&(D.imms ns&&(true&&true)))=true;rw[hw.imm,i0];rfl⟩ k (by omega)
 refine⟨d,nd,?_⟩;have im:=qG nd.2;unfold P2;simp only[wb,zm,zp,sIf,za,eC,ze,eUn,eL,zb,z8,zi,asB,jYa,tD,tE,zZ,if_true,if_false,tK,z,d6,m4,f1,l1,f2,hd,im]
theorem z5o (x0 x4 x5 x6:Option D):∃t,Nt t/\P3 [x0,some (.int n),some w,some (.tup ns),x4,x5,x6]=.ok (.nx [x0,some (.int n),some w,some (.tup ns),x4,some t,x6]):=by
 have d6:=dvD n 6;have i0:=V7 w ns hw hl hn;have a1:=V2 (xs:=ns) (ys:=[.tup [.str "c",.str "d",.str "e"]]) i0 rfl (by show _+1<=_;omega);have e2:=qE ns;obtain⟨k,mk,hk,_⟩:=xq (n/6) (((ns.length:Nat):Int)+1) (by omega);have hk2:k<(ns++[D.tup [.str "c",.str "d",.str "e"]]).length:=by rw[tH];show _<_+1;omega
 have hx:=WJ hk2;refine⟨(ns++[D.tup [.str "c",.str "d",.str "e"]])[k],?_,?_⟩
 ·rcases sC.mp (rF hk2)with h|h
  ·exact hn _ h
  ·rw[sG.mp h];exact cde
 ·generalize (ns++[D.tup [.str "c",.str "d",.str "e"]])[k]=t at *;unfold P3;simp only[zq,za,eC,ze,eL,zb,z8,jYa,tD,tE,tI,tM,xN,d6,a1,e2,mk,hx]
theorem z6b (t:D)(ht:Nt t)(x0 x2 x3 x4 x6:Option D):∃d,NN d/\P4 [x0,some (.int n),x2,x3,x4,some t,x6]=.ok (.nx [x0,some (.int n),x2,x3,x4,some t,some d]):=by
 obtain⟨ws,rfl,l1,l2,h⟩:=ht;have d60:=dvD n 60;have d600:=dvD n 600;have e2:=qE ws;obtain⟨k,mk,hk,_⟩:=xq (n/60) ((ws.length:Nat):Int) (by omega);obtain⟨b,hb,nb⟩:=jE (n/600);have hq:=Yd ws k b (yg fun w hw=>(h w hw).imm) nb.2 (by omega) (by omega);refine⟨_,K8 ws l2 h k (k+1) b nb,?_⟩;unfold P4;simp only[zq,za,eC,ze,eL,zb,z8,jYa,tD,tE,tI,tM,d60,d600,e2,mk,hb,hq]
theorem z4G (y:Int)(t d0:D)(ht:Nt t)(hd:NN d0)(x0 x2 x3:Option D):∃d,NN d/\P5 [x0,some (.int n),x2,x3,some (.int y),some t,some d0]=.ok (.nx [x0,some (.int n),x2,x3,some (.int y),some t,some d]):=by
 by_cases hy:y=2
 ·have z:=isb hy;have d60:=dvD n 60;obtain⟨ws,rfl,l1,l2,h⟩:=ht;have i0:D.imms ws=true:=yg fun w hw=>(h w hw).imm;have l1:=Xo i0;have f2:=Zc i0;obtain⟨k,m4,hk,_⟩:=xq (n/60) 4 (by decide);obtain⟨d,hd,nd⟩:=Jg (.frl ws) (.tup []) .non (.str "c") NN ⟨Xw _ rfl,rfl⟩ ⟨by rw[Z5,jZ];exact jT _ [] _ _ (.inl (by decide)),rfl⟩ ⟨Xw _ rfl,rfl⟩ ⟨Xw _ rfl,rfl⟩ k (by omega);refine⟨d,nd,?_⟩;unfold P5;simp only[zm,zq,sIf,za,eC,ze,eUn,eL,zb,z8,zi,asB,jYa,tD,tE,tI,tM,zZ,if_true,if_false,tK,z,d60,m4,l1,f2,hd]
 ·have z:=Ux hy;refine⟨d0,hd,?_⟩;unfold P5;simp only[zm,zq,sIf,za,eC,ze,eUn,eL,zb,z8,zi,asB,jYa,tD,tE,tI,tM,wO,vK,zZ,if_false,tK,Int.reduceLT,z]
theorem z45 (d0:D)(hd:NN d0)(x0 x4 x5:Option D):∃d,NP d/\zh P6 P7 [x0,some (.int n),some w,some (.tup ns),x4,x5,some d0]=.ok (.rt d):=by
 have e2:=qE ns;have i0:=V7 w ns hw hl hn
 by_cases h0:ns.length=0
 ·have z:(((ns.length:Nat):Int)==0)=true:=isb (by omega);have im:(D.tup [w,.tup [d0]]).imm=true:=by
   show (w.imm&&(((d0.imm&&true))&&true))=true;rw[hw.imm,hd.2];rfl
  refine⟨.tup [w,.tup [d0]],⟨ZT w _ true false hw.1 fun _=>kG [d0] (by show 1<=10000;decide) (fun x hx=>.inr (by rw[sG.mp hx];exact hd)) ⟨d0,tN,hd⟩ _ _,im⟩,?_⟩;have im:=qG im;unfold P6;simp only[wb,zm,zh,zp,sIf,za,eC,ze,eL,zb,z8,zi,asB,jYa,tD,tE,zZ,if_true,if_false,tK,e2,z,im]
 ·have z:(((ns.length:Nat):Int)==0)=false:=Ux (by omega);have d6:=dvD n 6;obtain⟨k,mk,hk,_⟩:=xq (n/6) ((ns.length:Nat):Int) (by omega);have hq:=Yd ns k d0 i0 hd.2 (by omega) (by omega);have im:(D.tup [w,.tup (ns.take k++d0::ns.drop (k+1))]).imm=true:=by
   show (w.imm&&(D.imms _&&true))=true;rw[hw.imm,vX i0 hd.2];rfl
  refine⟨_,⟨ZT w (.tup (ns.take k++d0::ns.drop (k+1))) true false hw.1 fun _=>kG _ (by have:=ug (xs:=ns) (d:=d0) (a:=k) (b:=k+1);omega) (fun x hx=>?_) ⟨d0,vJ,hd⟩ _ _,im⟩,?_⟩
  ·rcases vG hx with h'|rfl
   ·exact .inl (hn x h')
   ·exact .inr hd
  ·have im:=qG im;unfold P6 P7;simp only[wb,zm,zh,zp,sIf,za,eC,ze,eL,zb,z8,zi,asB,jYa,tD,tE,zZ,if_false,tK,e2,z,d6,mk,hq,im]
end
def z1X (T1 T2 T3 T4 T5 T67:Tn->R Fl)(p w N d:D)(n y:Int)(ha:(Tgt.many [2,3]).asg p [some p,some (.int n),none,none,none,none,none]=.ok [some p,some (.int n),some w,some N,none,none,none])(hm:y0 (.int n) (.int 6)=.ok (.int y))(h1:T1 [some p,some (.int n),some w,some N,some (.int y),none,none]=.ok (.rt d)):zr 7 (zh (Yt (.many [2,3]) (za 0)) (zh (zq 4 (ze y0 (za 1) (eC (.int 6)))) (zh T1 (zh T2 (zh T3 (zh T4 (zh T5 T67))))))) [p,.int n]=.ok d:=by
 simp only[zr,zh,zq,Yt,za,eC,ze,jYa,tG,tX,tF,tR,sA,tJ,tQ,tO,tD,tE,tI,tM,Nat.reduceAdd,Nat.reduceSub,tY,ha,hm,h1]
def z2a (T1 T2 T3 T4 T5 T67:Tn->R Fl)(p w N d:D)(n y:Int)(ha:(Tgt.many [2,3]).asg p [some p,some (.int n),none,none,none,none,none]=.ok [some p,some (.int n),some w,some N,none,none,none])(hm:y0 (.int n) (.int 6)=.ok (.int y))(τ:Tn)(h1:T1 [some p,some (.int n),some w,some N,some (.int y),none,none]=.ok (.nx τ))(h2:T2 τ=.ok (.rt d)):zr 7 (zh (Yt (.many [2,3]) (za 0)) (zh (zq 4 (ze y0 (za 1) (eC (.int 6)))) (zh T1 (zh T2 (zh T3 (zh T4 (zh T5 T67))))))) [p,.int n]=.ok d:=by
 simp only[zr,zh,zq,Yt,za,eC,ze,jYa,tG,tX,tF,tR,sA,tJ,tQ,tO,tD,tE,tI,tM,Nat.reduceAdd,Nat.reduceSub,tY,ha,hm,h1,h2]
def z1a (T1 T2 T3 T4 T5 T67:Tn->R Fl)(p w N d:D)(n y:Int)(ha:(Tgt.many [2,3]).asg p [some p,some (.int n),none,none,none,none,none]=.ok [some p,some (.int n),some w,some N,none,none,none])(hm:y0 (.int n) (.int 6)=.ok (.int y))(τ τ2 τ3 τ4 τ5:Tn)(h1:T1 [some p,some (.int n),some w,some N,some (.int y),none,none]=.ok (.nx τ))(h2:T2 τ=.ok (.nx τ2))(h3:T3 τ2=.ok (.nx τ3))(h4:T4 τ3=.ok (.nx τ4))(h5:T5 τ4=.ok (.nx τ5))(h6:T67 τ5=.ok (.rt d)):zr 7 (zh (Yt (.many [2,3]) (za 0)) (zh (zq 4 (ze y0 (za 1) (eC (.int 6)))) (zh T1 (zh T2 (zh T3 (zh T4 (zh T5 T67))))))) [p,.int n]=.ok d:=by
 simp only[zr,zh,zq,Yt,za,eC,ze,jYa,tG,tX,tF,tR,sA,tJ,tQ,tO,tD,tE,tI,tM,Nat.reduceAdd,Nat.reduceSub,tY,ha,hm,h1,h2,h3,h4,h5,h6]
def z0A (p:D)(hp:Pr p)(n:Int):∃d,xY [p,.int n]=.ok d/\NP d:=by
 obtain⟨w,ns,rfl,hw,hl,hn⟩:=hp;rw[tBP];have ha:(Tgt.many [2,3]).asg (.tup [w,.tup ns]) [some (.tup [w,.tup ns]),some (.int n),none,none,none,none,none]=.ok [some (.tup [w,.tup ns]),some (.int n),some w,some (.tup ns),none,none,none]:=rfl;have hm:=mdD n 6;generalize n%6=y at *
 by_cases h0:y=0
 ·subst h0;obtain⟨d,nd,h1⟩:=z30 w ns hw hl hn n (some (.tup [w,.tup ns])) none none;exact⟨d,z1X _ _ _ _ _ _ _ _ _ _ _ _ ha hm h1,nd⟩
 ·have h1:=z6e w ns hw hl hn n y h0 (some (.tup [w,.tup ns])) none none
  by_cases h01:y=1
  ·subst h01;obtain⟨d,nd,h2⟩:=z3h w ns hw hl hn n (some (.tup [w,.tup ns])) none none;exact⟨d,z2a _ _ _ _ _ _ _ _ _ _ _ _ ha hm _ h1 h2,nd⟩
  ·have h2:=z5h w ns hw hl hn n y h01 (some (.tup [w,.tup ns])) none none;obtain⟨t,ht,h3⟩:=z5o w ns hw hl hn n (some (.tup [w,.tup ns])) (some (.int y)) none none;obtain⟨d0,hd0,h4⟩:=z6b w ns hw hl hn n t ht (some (.tup [w,.tup ns])) (some w) (some (.tup ns)) (some (.int y)) none;obtain⟨d1,hd1,h5⟩:=z4G w ns hw hl hn n y t d0 ht hd0 (some (.tup [w,.tup ns])) (some w) (some (.tup ns));obtain⟨d,nd,h6⟩:=z45 w ns hw hl hn n d1 hd1 (some (.tup [w,.tup ns])) (some (.int y)) (some t);exact⟨d,z1a _ _ _ _ _ _ _ _ _ _ _ _ ha hm _ _ _ _ _ h1 h2 h3 h4 h5 h6,nd⟩
def tBR:wq=zr 6 (zh (zq 3 (ze y0 (za 1) (eC (.int 4)))) (zh R1 (zh R2 (zh R3 (zh R4 (zh R5 R6)))))):=rfl
def QR (k:Nat)(size:Int)(d:D):Prop:=NR d\/(1<size/\∃k',k'<=10/\k'≠k/\Rw k' d)
def z1W {k:Int}(h:D.imms xs=true/\-(2 ^ 63)<=k/\k<2 ^ 63/\xs.length*k.toNat<=sizeLine):qY (.tup xs) (.int k)=.ok (.tup (List.replicate k.toNat xs).flatten):=if_pos h
def Kj:Ce (.tup []):=⟨[],rfl,by decide,by decide,fun w hw=>nomatch hw⟩
def z3L (a b:D)(p:D->Prop)(ha:p a)(hb:p b)(k:Nat)(hk:k<2):∃x,ixD (.lst [a,b]) (.int (k:Nat))=.ok x/\p x:=by
 refine⟨_,YV (xs:=[a,b]) hk,?_⟩;have:k=0\/k=1:=by omega
 rcases this with rfl|rfl<;>assumption
section
variable (cs:List D)(h1:1<=cs.length)(h4:cs.length<=4)(hc:∀c∈cs,Ce c)(n sz:Int)
include h1 h4 hc
theorem WH:D.imms cs=true:=yg fun t ht=>(hc t ht).imm
theorem z51 (y:Int)(hy:¬(y=0/\1<sz))(x4 x5:Option D):R1 [some (.tup cs),some (.int n),some (.int sz),some (.int y),x4,x5]=.ok (.nx [some (.tup cs),some (.int n),some (.int sz),some (.int y),x4,x5]):=by
 unfold R1
 by_cases h:y=0
 ·have z:=isb h;have e:decide (sz>1)=false:=decide_eq_false (fun g=>hy ⟨h,g⟩);simp only[zm,zp,sIf,za,eC,ze,eL,zb,z8,zi,wo,asB,jYa,tD,tE,vE,wO,vK,zZ,if_true,if_false,tK,Int.reduceLT,z,e]
 ·have z:=Ux h;simp only[zm,zp,sIf,za,eC,ze,eL,zb,z8,zi,wo,asB,jYa,tD,tE,vE,wO,vK,zZ,if_false,tK,Int.reduceLT,z]
theorem z35 (hs:1<sz)(x4 x5:Option D):∃d,QR cs.length sz d/\d.imm=true/\R1 [some (.tup cs),some (.int n),some (.int sz),some (.int 0),x4,x5]=.ok (.rt d):=by
 have z:((0:Int)==0)=true:=rfl;have e:decide (sz>1)=true:=decide_eq_true hs;have d4:=dvD n 4;have i0:=WH cs h1 h4 hc;have s1:=ZO i0 1 h1;have s1:slA (.tup cs) (some 1) none=.ok (.tup (cs.drop 1)):=s1;have a1:=V2 (xs:=cs) (ys:=[.tup []]) i0 rfl (by show _+1<=_;omega);obtain⟨k,mk,hk,_⟩:=xq (n/4) 2 (by decide);obtain⟨d,hd,nd,im⟩:=z3L (.tup (cs.drop 1)) (.tup (cs++[.tup []])) (fun d=>QR cs.length sz d/\d.imm=true)
  ⟨.inr ⟨hs,cs.length-1,by omega,by omega,cs.drop 1,rfl,by rw[rL],fun c h=>hc c (List.mem_of_mem_drop h)⟩,qM i0 1⟩
  ⟨.inr ⟨hs,cs.length+1,by omega,by omega,_,rfl,by rw[tH];rfl,fun c h=>by
   rcases sC.mp h with h|h
   ·exact hc c h
   ·rw[sG.mp h];exact Kj⟩,by show D.imms _=true;rw[xP,i0];rfl⟩ k (by omega)
 refine⟨d,nd,im,?_⟩;unfold R1;simp only[zm,zp,sIf,za,eC,ze,eL,zb,z8,zi,wo,xD,yL,asB,jYa,tD,tE,vE,zZ,if_true,if_false,tK,XX,z,e,d4,s1,a1,mk,hd]
theorem z5O (y:Int)(hy:y≠1)(x2 x4 x5:Option D):R2 [some (.tup cs),some (.int n),x2,some (.int y),x4,x5]=.ok (.nx [some (.tup cs),some (.int n),x2,some (.int y),x4,x5]):=by
 have z:=Ux hy;unfold R2;simp only[zm,zp,sIf,za,eC,ze,eUn,eL,zb,z8,zi,asB,jYa,tD,tE,zZ,if_false,tK,z]
theorem z40 (x2 x4 x5:Option D):R2 [some (.tup cs),some (.int n),x2,some (.int 1),x4,x5]=.ok (.rt (.frl cs)):=by
 have z:((1:Int)==1)=true:=rfl;have i0:=WH cs h1 h4 hc;have l1:=Xo i0;have f2:=Zc i0;unfold R2;simp only[zm,zp,sIf,za,eC,ze,eUn,eL,zb,z8,zi,asB,jYa,tD,tE,zZ,if_true,if_false,tK,z,l1,f2]
theorem z50 (x2 x3 x4 x5:Option D):∃a:Nat,a<cs.length/\R3 [some (.tup cs),some (.int n),x2,x3,x4,x5]=.ok (.nx [some (.tup cs),some (.int n),x2,x3,some (.int (a:Nat)),x5]):=by
 have d4:=dvD n 4;have e2:=qE cs;obtain⟨k,mk,hk,_⟩:=xq (n/4) ((cs.length:Nat):Int) (by omega);refine⟨k,by omega,?_⟩;unfold R3;simp only[zq,za,eC,ze,eL,zb,z8,jYa,tD,tE,tI,tM,d4,e2,mk]
theorem UT (a:Nat)(d:D)(hd:NC d):NR (.tup (cs.take a++d::cs.drop (a+1))):=by
 refine⟨Jm _ (by have:=ug (xs:=cs) (d:=d) (a:=a) (b:=a+1);omega) (fun x hx=>?_) ⟨d,vJ,hd⟩,vX (WH cs h1 h4 hc) hd.2 _ _⟩;rcases vG hx with h'|rfl
 ·exact .inl (hc x h')
 ·exact .inr hd
theorem z5W (y:Int)(hy:y≠2)(x2 x4 x5:Option D):R4 [some (.tup cs),some (.int n),x2,some (.int y),x4,x5]=.ok (.nx [some (.tup cs),some (.int n),x2,some (.int y),x4,x5]):=by
 have z:=Ux hy;unfold R4;simp only[zm,zp,sIf,za,eC,ze,eUn,eL,zb,z8,zi,asB,jYa,tD,tE,wO,vK,zZ,if_false,tK,Int.reduceLT,z]
theorem z4F (a:Nat)(ha:a<cs.length)(x2 x5:Option D):∃d,NR d/\R4 [some (.tup cs),some (.int n),x2,some (.int 2),some (.int (a:Nat)),x5]=.ok (.rt d):=by
 have z:((2:Int)==2)=true:=rfl;have d20:=dvD n 20;obtain⟨k,mk,hk,_⟩:=xq (n/20) 4 (by decide);have hx:=WJ ha;obtain⟨ws,hw,_,l12,hws⟩:=hc _ (rF ha);rw[hw]at hx;have i0:D.imms ws=true:=yg fun w hw=>(hws w hw).imm;have l1:=Xo i0;have f2:=Zc i0;have mX:qY (.tup [.str "b"]) (.int 13)=.ok (.tup (List.replicate 13 [D.str "b"]).flatten):=z1W ⟨rfl,by decide,by decide,by rw[sizeLine_eq];decide⟩;have lX:((List.replicate 13 [D.str "b"]).flatten).length=13:=rfl;have iX:D.imms ((List.replicate 13 [D.str "b"]).flatten)=true:=rfl;generalize (List.replicate 13 [D.str "b"]).flatten=X at *;have aX:=V2 i0 iX (by omega);obtain⟨d,hd,nd⟩:=Jg (.frl ws) .non (.str "a") (.tup (ws++X)) NC ⟨XQ _ rfl,rfl⟩ ⟨XQ _ rfl,rfl⟩ ⟨XQ _ rfl,rfl⟩ ⟨by rw[Z8,jZ];exact jT _ _ _ _ (.inr (by rw[tH];omega)),by show D.imms _=true;rw[xP,i0,iX];rfl⟩ k (by omega);have hq:=Yd cs a d (WH cs h1 h4 hc) nd.2 (by omega) ha;refine⟨_,UT cs h1 h4 hc a d nd,?_⟩;generalize D.tup (cs.take a++d::cs.drop (a+1))=Y at *;generalize D.tup (ws++X)=A1 at *;generalize D.tup X=A0 at *;generalize D.frl ws=A2 at *;generalize D.lst ws=A3 at *;generalize ((k:Nat):Int)=kk at *;generalize ((a:Nat):Int)=aa at *;generalize n/20=q at *;unfold R4;generalize yy=G1 at *;simp only[zm,zp,sIf,za,eC,ze,eUn,eL,zb,z8,zi,asB,jYa,tD,tE,zZ,if_true,if_false,tK,z,d20,mk,hx,l1,f2,mX,aX,hd,hq]
theorem z3R (a:Nat)(ha:a<cs.length)(x2 x3 x5:Option D):∃d,NR d/\zh R5 R6 [some (.tup cs),some (.int n),x2,x3,some (.int (a:Nat)),x5]=.ok (.rt d):=by
 have d20:=dvD n 20;have d260:=dvD n 260;have hx:=WJ ha;obtain⟨ws,hw,_,l12,hws⟩:=hc _ (rF ha);rw[hw]at hx;have i0:D.imms ws=true:=yg fun w hw=>(hws w hw).imm;have e2:=qE ws;obtain⟨k,mk,hk,_⟩:=xq (n/20) (((ws.length:Nat):Int)+1) (by omega);obtain⟨b,hb,nb⟩:=jE (n/260);have s1:=z0n i0 k (by omega);have s2:=ZO i0 k (by omega);obtain⟨a1,a2⟩:=z2z i0 nb.2 (by omega) k k;have nd:=z0r ws l12 hws k k b nb;have hq:=Yd cs a _ (WH cs h1 h4 hc) nd.2 (by omega) ha;refine⟨_,UT cs h1 h4 hc a _ nd,?_⟩;unfold R5 R6;simp only[zh,zq,zp,za,eC,ze,eL,zb,z8,xD,yL,jYa,tD,tE,tI,tM,xN,XX,d20,d260,mk,hx,e2,hb,s1,s2,a1,a2,hq]
end
def z6z (T1 T2 T3 T4 T56:Tn->R Fl)(r s d:D)(n y:Int)(hm:y0 (.int n) (.int 4)=.ok (.int y))(h1:T1 [some r,some (.int n),some s,some (.int y),none,none]=.ok (.rt d)):zr 6 (zh (zq 3 (ze y0 (za 1) (eC (.int 4)))) (zh T1 (zh T2 (zh T3 (zh T4 T56))))) [r,.int n,s]=.ok d:=by
 simp only[zr,zh,zq,za,eC,ze,jYa,tG,tX,tF,tR,sA,tJ,tQ,tO,tD,tE,tI,tM,Nat.reduceAdd,Nat.reduceSub,tY,hm,h1]
def z6H (T1 T2 T3 T4 T56:Tn->R Fl)(r s d:D)(n y:Int)(hm:y0 (.int n) (.int 4)=.ok (.int y))(τ1:Tn)(h1:T1 [some r,some (.int n),some s,some (.int y),none,none]=.ok (.nx τ1))(h2:T2 τ1=.ok (.rt d)):zr 6 (zh (zq 3 (ze y0 (za 1) (eC (.int 4)))) (zh T1 (zh T2 (zh T3 (zh T4 T56))))) [r,.int n,s]=.ok d:=by
 simp only[zr,zh,zq,za,eC,ze,jYa,tG,tX,tF,tR,sA,tJ,tQ,tO,tD,tE,tI,tM,Nat.reduceAdd,Nat.reduceSub,tY,hm,h1,h2]
def z6N (T1 T2 T3 T4 T56:Tn->R Fl)(r s d:D)(n y:Int)(hm:y0 (.int n) (.int 4)=.ok (.int y))(τ1 τ2 τ3:Tn)(h1:T1 [some r,some (.int n),some s,some (.int y),none,none]=.ok (.nx τ1))(h2:T2 τ1=.ok (.nx τ2))(h3:T3 τ2=.ok (.nx τ3))(h4:T4 τ3=.ok (.rt d)):zr 6 (zh (zq 3 (ze y0 (za 1) (eC (.int 4)))) (zh T1 (zh T2 (zh T3 (zh T4 T56))))) [r,.int n,s]=.ok d:=by
 simp only[zr,zh,zq,za,eC,ze,jYa,tG,tX,tF,tR,sA,tJ,tQ,tO,tD,tE,tI,tM,Nat.reduceAdd,Nat.reduceSub,tY,hm,h1,h2,h3,h4]
def z6t (T1 T2 T3 T4 T56:Tn->R Fl)(r s d:D)(n y:Int)(hm:y0 (.int n) (.int 4)=.ok (.int y))(τ1 τ2 τ3 τ4:Tn)(h1:T1 [some r,some (.int n),some s,some (.int y),none,none]=.ok (.nx τ1))(h2:T2 τ1=.ok (.nx τ2))(h3:T3 τ2=.ok (.nx τ3))(h4:T4 τ3=.ok (.nx τ4))(h5:T56 τ4=.ok (.rt d)):zr 6 (zh (zq 3 (ze y0 (za 1) (eC (.int 4)))) (zh T1 (zh T2 (zh T3 (zh T4 T56))))) [r,.int n,s]=.ok d:=by
 simp only[zr,zh,zq,za,eC,ze,jYa,tG,tX,tF,tR,sA,tJ,tQ,tO,tD,tE,tI,tM,Nat.reduceAdd,Nat.reduceSub,tY,hm,h1,h2,h3,h4,h5]
def z1u (k:Nat)(k1:1<=k)(k4:k<=4)(r:D)(hr:Rw k r)(n sz:Int):∃d,wq [r,.int n,.int sz]=.ok d/\QR k sz d/\d.imm=true:=by
 obtain⟨cs,rfl,rfl,hc⟩:=hr;rw[tBR];have hm:=mdD n 4;generalize n%4=y at *
 by_cases h0:y=0/\1<sz
 ·obtain⟨rfl,hs⟩:=h0;obtain⟨d,q,im,h⟩:=z35 cs k1 k4 hc n sz hs none none;exact⟨d,z6z _ _ _ _ _ _ _ _ _ _ hm h,q,im⟩
 ·have e1:=z51 cs k1 k4 hc n sz y h0 none none
  by_cases h1:y=1
  ·subst h1;exact⟨_,z6H _ _ _ _ _ _ _ _ _ _ hm _ e1 (z40 cs k1 k4 hc n _ none none),.inl ⟨z3i _ rfl,rfl⟩,rfl⟩
  ·have e2:=z5O cs k1 k4 hc n y h1 (some (.int sz)) none none;obtain⟨a,ha,e3⟩:=z50 cs k1 k4 hc n (some (.int sz)) (some (.int y)) none none
   by_cases h2:y=2
   ·subst h2;obtain⟨d,nd,e4⟩:=z4F cs k1 k4 hc n a ha (some (.int sz)) none;exact⟨d,z6N _ _ _ _ _ _ _ _ _ _ hm _ _ _ e1 e2 e3 e4,.inl nd,nd.2⟩
   ·have e4:=z5W cs k1 k4 hc n y h2 (some (.int sz)) (some (.int (a:Nat))) none;obtain⟨d,nd,e5⟩:=z3R cs k1 k4 hc n a ha (some (.int sz)) (some (.int y)) none;exact⟨d,z6t _ _ _ _ _ _ _ _ _ _ hm _ _ _ _ e1 e2 e3 e4 e5,.inl nd,nd.2⟩
def tSP:w6=zr 4 (zh S1 (zh S2 (zh S3 (zh S4 (zh S5 S6))))):=rfl
def Ke (z:Str)(t:D)(n:Int)(x2 x3:Option D)(hz:eqR false (.str z) (.str "leaf")=.ok (.bl false)):S1 [some (.tup [.str z,t]),some (.int n),x2,x3]=.ok (.nx [some (.tup [.str z,t]),some (.int n),x2,x3]):=by
 unfold S1;simp only[zm,zp,sIf,za,eC,ze,eL,zb,z8,zi,asB,jYa,tD,tE,wO,yV,if_false,tK,Int.reduceLT,hz]
def z4b:NB (.tup [.str "leaf",.tup []]):=⟨vw (by decide +kernel),rfl⟩
def z3k:NB (.tup [.str "leaf",.non]):=⟨vw (by decide +kernel),rfl⟩
def z4a:NB (.frl [.str "leaf"]):=⟨vw (by decide +kernel),rfl⟩
def z3V (n:Int)(x2 x3:Option D):∃d,NB d/\S1 [some (.tup [.str "leaf"]),some (.int n),x2,x3]=.ok (.rt d):=by
 have hz:eqR false (.str "leaf") (.str "leaf")=.ok (.bl true):=kd (by decide +kernel);obtain⟨k,mk,hk,_⟩:=xq n 3 (by decide);have hk:k<3:=by omega
 have hx:=YV (xs:=[D.tup [.str "leaf",.tup []],.tup [.str "leaf",.non],.frl [.str "leaf"]]) hk;have f1:Vw [.str "leaf"]=.ok (.frl [.str "leaf"]):=rfl;refine⟨[D.tup [.str "leaf",.tup []],.tup [.str "leaf",.non],.frl [.str "leaf"]][k],?_,?_⟩
 ·have:k=0\/k=1\/k=2:=by omega
  rcases this with rfl|rfl|rfl
  ·exact z4b
  ·exact z3k
  ·exact z4a
 ·generalize [D.tup [.str "leaf",.tup []],.tup [.str "leaf",.non],.frl [.str "leaf"]][k]=d at *;unfold S1;simp only[zm,zp,sIf,za,eC,ze,eL,zb,z8,zi,asB,jYa,tD,tE,yV,if_true,hz,mk,f1,hx]
def JD (z:Str)(xs:List D)(h:1<=xs.length)(n:Int)(x2 x3:Option D):∃a:Nat,a<xs.length/\S2 [some (.tup [.str z,.tup xs]),some (.int n),x2,x3]=.ok (.nx [some (.tup [.str z,.tup xs]),some (.int n),some (.int (a:Nat)),x3]):=by
 have e2:=qE xs;obtain⟨k,mk,hk,_⟩:=xq n ((xs.length:Nat):Int) (by omega);refine⟨k,by omega,?_⟩;unfold S2;simp only[zq,za,eC,ze,eL,zb,z8,jYa,tD,tE,tI,tM,xp,e2,mk]
def KI (x0 x2 x3:Option D)(n:Int):S3 [x0,some (.int n),x2,x3]=.ok (.nx [x0,some (.int n),x2,some (.int (n/7))]):=by
 have d7:=dvD n 7;unfold S3;simp only[zq,za,eC,ze,jYa,tD,tE,tI,tM,d7]
def z2A (z:Str)(t:D)(x1 x2 x3:Option D)(hz:eqR false (.str z) (.str "head")=.ok (.bl false)):S4 [some (.tup [.str z,t]),x1,x2,x3]=.ok (.nx [some (.tup [.str z,t]),x1,x2,x3]):=by
 unfold S4;simp only[zm,zp,sIf,za,eC,ze,eL,zb,z8,zi,asB,jYa,tD,tE,yV,xp,if_false,tK,hz]
def z63 (z:Str)(t:D)(x1 x2 x3:Option D)(hz:eqR false (.str z) (.str "text")=.ok (.bl false)):S5 [some (.tup [.str z,t]),x1,x2,x3]=.ok (.nx [some (.tup [.str z,t]),x1,x2,x3]):=by
 unfold S5;simp only[zm,zp,sIf,za,eC,ze,eL,zb,z8,zi,asB,jYa,tD,tE,yV,xp,if_false,tK,hz]
def z3J (ws:List D)(h1:1<=ws.length)(h2:ws.length<=12)(h:∀w∈ws,Wd w)(a:Nat)(ha:a<ws.length)(m:Int)(x1:Option D):∃d,NB d/\S4 [some (.tup [.str "head",.tup ws]),x1,some (.int (a:Nat)),some (.int m)]=.ok (.rt d):=by
 have hz:eqR false (.str "head") (.str "head")=.ok (.bl true):=kd (by decide +kernel);obtain⟨b,hb,nb⟩:=jE m;have i0:D.imms ws=true:=yg fun w hw=>(h w hw).imm;have hq:=Yd ws a b i0 nb.2 (by omega) ha;refine⟨.tup [.str "head",.tup (ws.take a++b::ws.drop (a+1))],⟨qK _ _ _ (fun _=>qt _ (by have:=ug (xs:=ws) (d:=b) (a:=a) (b:=a+1);omega) (fun x hx=>?_) ⟨b,vJ,nb⟩ _ _) (fun h=>absurd h (by decide)) (fun h=>absurd h (by decide)) (.inl rfl),?_⟩,?_⟩
 ·rcases vG hx with h'|rfl
  ·exact .inl (h x h')
  ·exact .inr nb
 ·show (true&&(D.imms _&&true))=true;rw[vX i0 nb.2];rfl
 ·generalize D.tup (ws.take a++b::ws.drop (a+1))=X at *;unfold S4;simp only[zm,zp,sIf,za,eC,ze,eL,zb,z8,zi,asB,jYa,tD,tE,yV,xp,if_true,hz,hb,hq]
def z4d (ps:List D)(h1:1<=ps.length)(h2:ps.length<=200)(h:∀p∈ps,Pr p)(a:Nat)(ha:a<ps.length)(m:Int)(x1:Option D):∃d,NB d/\S5 [some (.tup [.str "text",.tup ps]),x1,some (.int (a:Nat)),some (.int m)]=.ok (.rt d):=by
 have hz:eqR false (.str "text") (.str "text")=.ok (.bl true):=kd (by decide +kernel);have hx:=WJ ha;obtain⟨b,hb,nb⟩:=z0A _ (h _ (rF ha)) m;have i0:D.imms ps=true:=yg fun w hw=>(h w hw).imm;have hq:=Yd ps a b i0 nb.2 (by omega) ha;refine⟨.tup [.str "text",.tup (ps.take a++b::ps.drop (a+1))],⟨qK _ _ _ (fun h=>absurd h (by decide)) (fun _=>WC _ (by have:=ug (xs:=ps) (d:=b) (a:=a) (b:=a+1);omega) (fun x hx=>?_) ⟨b,vJ,nb⟩ _ _) (fun h=>absurd h (by decide)) (.inr (.inl rfl)),?_⟩,?_⟩
 ·rcases vG hx with h'|rfl
  ·exact .inl (h x h')
  ·exact .inr nb
 ·show (true&&(D.imms _&&true))=true;rw[vX i0 nb.2];rfl
 ·generalize D.tup (ps.take a++b::ps.drop (a+1))=X at *;unfold S5;simp only[zm,zp,sIf,za,eC,ze,eL,zb,z8,zi,asB,jYa,tD,tE,yV,xp,if_true,hz,hx,hb,hq]
def QX (k:Nat)(k1:1<=k)(k4:k<=4)(rs:List D)(l1:1<=rs.length)(l2:rs.length<=20)(h:∀r∈rs,Rw k r)(a:Nat)(ha:a<rs.length)(b:D)(hb:QR k (rs.length:Nat) b):xg [.tup (rs.take a++b::rs.drop (a+1))]=.ok (.bl false):=by
 have hl:=ug (xs:=rs) (d:=b) (a:=a) (b:=a+1);rcases hb with nb|⟨hs,k',q1,q2,hk⟩
 ·refine Xm _ k k4 (by omega) (fun x hx=>?_) ⟨b,vJ,nb⟩;rcases vG hx with h'|rfl
  ·exact .inl (h x h')
  ·exact .inr nb
 ·have hx:∃c∈rs.take a++b::rs.drop (a+1),Rw k c:=by
   by_cases h0:a=0
   ·subst h0;have hd:0<(rs.drop 1).length:=by rw[rL];omega
    exact⟨(rs.drop 1)[0],sD _ (tS _ (rF hd)),h _ (List.mem_of_mem_drop (rF hd))⟩
   ·have hd:0<(rs.take a).length:=by rw[rR];omega
    exact⟨(rs.take a)[0],sE _ (rF hd),h _ (List.mem_of_mem_take (rF hd))⟩
  obtain⟨c,mc,hc⟩:=hx;refine XT _ (by omega) (fun x hx=>?_) b c vJ mc (by rw[hk.klen,hc.klen];exact q2);rcases vG hx with h'|rfl
  ·exact⟨k,by omega,h x h'⟩
  ·exact⟨k',q1,hk⟩
def z37 (k:Nat)(k1:1<=k)(k4:k<=4)(rs:List D)(l1:1<=rs.length)(l2:rs.length<=20)(h:∀r∈rs,Rw k r)(a:Nat)(ha:a<rs.length)(m:Int)(x1:Option D):∃d,NB d/\S6 [some (.tup [.str "table",.tup rs]),x1,some (.int (a:Nat)),some (.int m)]=.ok (.rt d):=by
 have hx:=WJ ha;have e2:=qE rs;obtain⟨b,hb,nb,im⟩:=z1u k k1 k4 _ (h _ (rF ha)) m ((rs.length:Nat):Int);have i0:D.imms rs=true:=yg fun w hw=>(h w hw).imm;have hq:=Yd rs a b i0 im (by omega) ha;refine⟨.tup [.str "table",.tup (rs.take a++b::rs.drop (a+1))],⟨qK _ _ _ (fun h=>absurd h (by decide)) (fun h=>absurd h (by decide)) (fun _=>QX k k1 k4 rs l1 l2 h a ha b nb) (.inr (.inr rfl)),?_⟩,?_⟩
 ·show (true&&(D.imms _&&true))=true;rw[vX i0 im];rfl
 ·generalize D.tup (rs.take a++b::rs.drop (a+1))=X at *;unfold S6;simp only[zp,za,eC,ze,eL,zb,z8,jYa,tD,tE,xp,hx,e2,hb,hq]
def z6K (T1 T2 T3 T4 T5 T6:Tn->R Fl)(b n d:D)(h1:T1 [some b,some n,none,none]=.ok (.rt d)):zr 4 (zh T1 (zh T2 (zh T3 (zh T4 (zh T5 T6))))) [b,n]=.ok d:=by
 simp only[zr,zh,jYa,tG,tX,tF,tR,sA,tJ,tQ,tO,Nat.reduceAdd,Nat.reduceSub,tY,h1]
def z6D (T1 T2 T3 T4 T5 T6:Tn->R Fl)(b n d:D)(τ1 τ2 τ3:Tn)(h1:T1 [some b,some n,none,none]=.ok (.nx τ1))(h2:T2 τ1=.ok (.nx τ2))(h3:T3 τ2=.ok (.nx τ3))(h4:T4 τ3=.ok (.rt d)):zr 4 (zh T1 (zh T2 (zh T3 (zh T4 (zh T5 T6))))) [b,n]=.ok d:=by
 simp only[zr,zh,jYa,tG,tX,tF,tR,sA,tJ,tQ,tO,Nat.reduceAdd,Nat.reduceSub,tY,h1,h2,h3,h4]
def z6O (T1 T2 T3 T4 T5 T6:Tn->R Fl)(b n d:D)(τ1 τ2 τ3 τ4:Tn)(h1:T1 [some b,some n,none,none]=.ok (.nx τ1))(h2:T2 τ1=.ok (.nx τ2))(h3:T3 τ2=.ok (.nx τ3))(h4:T4 τ3=.ok (.nx τ4))(h5:T5 τ4=.ok (.rt d)):zr 4 (zh T1 (zh T2 (zh T3 (zh T4 (zh T5 T6))))) [b,n]=.ok d:=by
 simp only[zr,zh,jYa,tG,tX,tF,tR,sA,tJ,tQ,tO,Nat.reduceAdd,Nat.reduceSub,tY,h1,h2,h3,h4,h5]
def z6E (T1 T2 T3 T4 T5 T6:Tn->R Fl)(b n d:D)(τ1 τ2 τ3 τ4 τ5:Tn)(h1:T1 [some b,some n,none,none]=.ok (.nx τ1))(h2:T2 τ1=.ok (.nx τ2))(h3:T3 τ2=.ok (.nx τ3))(h4:T4 τ3=.ok (.nx τ4))(h5:T5 τ4=.ok (.nx τ5))(h6:T6 τ5=.ok (.rt d)):zr 4 (zh T1 (zh T2 (zh T3 (zh T4 (zh T5 T6))))) [b,n]=.ok d:=by
 simp only[zr,zh,jYa,tG,tX,tF,tR,sA,tJ,tQ,tO,Nat.reduceAdd,Nat.reduceSub,tY,h1,h2,h3,h4,h5,h6]
def z4D (b:D)(m:Nat)(hb:Bk b m)(n:Int):∃d,w6 [b,.int n]=.ok d/\NB d:=by
 rw[tSP];cases hb with
 | leaf =>
  obtain⟨d,nd,h⟩:=z3V n none none;exact⟨d,z6K _ _ _ _ _ _ _ _ _ h,nd⟩
 | head h =>
  obtain⟨ws,rfl,l1,l2,h⟩:=h;have h1:=Ke "head" (.tup ws) n none none (vw (by decide +kernel));obtain⟨a,ha,h2⟩:=JD "head" ws l1 n none none;have h3:=KI (some (.tup [.str "head",.tup ws])) (some (.int (a:Nat))) none n;obtain⟨d,nd,h4⟩:=z3J ws l1 l2 h a ha (n/7) (some (.int n));exact⟨d,z6D _ _ _ _ _ _ _ _ _ _ _ _ h1 h2 h3 h4,nd⟩
 | @text ps l1 l2 h =>
  have h1:=Ke "text" (.tup ps) n none none (vw (by decide +kernel));obtain⟨a,ha,h2⟩:=JD "text" ps l1 n none none;have h3:=KI (some (.tup [.str "text",.tup ps])) (some (.int (a:Nat))) none n;have h4:=z2A "text" (.tup ps) (some (.int n)) (some (.int (a:Nat))) (some (.int (n/7))) (vw (by decide +kernel));obtain⟨d,nd,h5⟩:=z4d ps l1 l2 h a ha (n/7) (some (.int n));exact⟨d,z6O _ _ _ _ _ _ _ _ _ _ _ _ _ h1 h2 h3 h4 h5,nd⟩
 | table h =>
  obtain⟨k,rs,rfl,k1,k4,l1,l2,h⟩:=h;have h1:=Ke "table" (.tup rs) n none none (vw (by decide +kernel));obtain⟨a,ha,h2⟩:=JD "table" rs l1 n none none;have h3:=KI (some (.tup [.str "table",.tup rs])) (some (.int (a:Nat))) none n;have h4:=z2A "table" (.tup rs) (some (.int n)) (some (.int (a:Nat))) (some (.int (n/7))) (vw (by decide +kernel));have h5:=z63 "table" (.tup rs) (some (.int n)) (some (.int (a:Nat))) (some (.int (n/7))) (vw (by decide +kernel));obtain⟨d,nd,h6⟩:=z37 k k1 k4 rs l1 l2 h a ha (n/7) (some (.int n));exact⟨d,z6E _ _ _ _ _ _ _ _ _ _ _ _ _ _ h1 h2 h3 h4 h5 h6,nd⟩
def z01 {a b:List Nat}(h:S a=S b):a=b:=by
 have:=congrArg (fun z:Str=>z.cps.toList) h;rw[uc,uc]at this;exact this
def jn (c:List Nat):List (List Nat)->List Nat
 | []=>[]
 | [a]=>a
 | a::b::r=>a++c++jn c (b::r)
def uS (c a:List Nat){r:List (List Nat)}(h:r≠[]):jn c (a::r)=a++c++jn c r:=by
 cases r with
 | nil=>exact absurd rfl h
 | cons b r=>rfl
def Uu (c:List Nat):∀xs:List (List Nat),Str.join (S c) (xs.map S)=S (jn c xs)
 | []=>rfl
 | [a]=>rfl
 | a::b::r=>by
  show S a++S c++Str.join (S c) ((b::r).map S)=S (a++c++jn c (b::r));rw[Uu c (b::r),Qh,Qh]
def spl (c:Nat):List Nat->List (List Nat)
 | []=>[[]]
 | x::s=>if x=c then []::spl c s else match spl c s with
  | []=>[[x]]
  | p::r=>(x::p)::r
def wI (c:Nat):∀s,spl c s≠[]
 | []=>by intro h;cases h
 | x::s=>by
  unfold spl;split
  ·intro h;cases h
  ·split<;>(intro h;cases h)
def qT (c:Nat)(s:List Nat):spl c (c::s)=[]::spl c s:=by rw[spl,if_pos rfl]
def qZ {c x:Nat}(h:x≠c)(s:List Nat):∃p r,spl c s=p::r/\spl c (x::s)=(x::p)::r:=by
 cases hs:spl c s with
 | nil=>exact absurd hs (wI c s)
 | cons p r=>exact⟨p,r,rfl,by rw[spl,if_neg h,hs]⟩
def qC {c:Nat}:∀ {a:List Nat},c∉a->∀s,∃p r,spl c s=p::r/\spl c (a++s)=(a++p)::r
 | [],_,s=>by
  cases hs:spl c s with
  | nil=>exact absurd hs (wI c s)
  | cons p r=>exact⟨p,r,rfl,hs⟩
 | x::a,h,s=>by
  obtain⟨p,r,e1,e2⟩:=qC (fun z=>h (tS _ z)) s;obtain⟨p',r',e3,e4⟩:=qZ (c:=c) (x:=x) (fun z=>h (by rw[z];exact tN)) (a++s);rw[e2]at e3;cases e3;exact⟨p,r,e1,e4⟩
def wM {c:Nat}{a:List Nat}(h:c∉a):spl c a=[a]:=by
 obtain⟨p,r,e1,e2⟩:=qC h [];cases e1;rw[tZ]at e2;exact e2
def VM {c:Nat}{a:List Nat}(h:c∉a)(s:List Nat):spl c (a++c::s)=a::spl c s:=by
 obtain⟨p,r,e1,e2⟩:=qC h (c::s);rw[qT]at e1;cases e1;rw[e2,tZ]
def ZY {c:Nat}:∀ {A:List (List Nat)},A≠[]->(∀p∈A,c∉p)->spl c (jn [c] A)=A
 | [],h,_=>absurd rfl h
 | [a],_,h=>wM (h a tN)
 | a::b::r,_,h=>by
  show spl c (a++[c]++jn [c] (b::r))=_;rw[sF];show spl c (a++c::jn [c] (b::r))=_;rw[VM (h a tN),ZY (by intro z;cases z) fun p hp=>h p (tS _ hp)]
def uo (c:Nat):∀s,jn [c] (spl c s)=s
 | []=>rfl
 | x::s=>by
  by_cases hx:x=c
  ·subst hx;rw[qT,uS _ _ (wI x s),uo x s]
   rfl
  ·obtain⟨p,r,e1,e2⟩:=qZ hx s;have ih:=uo c s;rw[e1]at ih;rw[e2];cases r with
   | nil=>show x::p=_;exact congrArg (x::·) ih
   | cons q r=>show x::(p++[c]++jn [c] (q::r))=_;exact congrArg (x::·) ih
def VT (c:Nat):∀s,∀p∈spl c s,c∉p
 | [],p,hp=>by rw[sG.mp hp];intro h;cases h
 | x::s,p,hp=>by
  by_cases hx:x=c
  ·subst hx;rw[qT]at hp;rcases sI.mp hp with z|z
   ·rw[z];intro h;cases h
   ·exact VT x s p z
  ·obtain⟨q,r,e1,e2⟩:=qZ hx s;rw[e2]at hp;rcases sI.mp hp with z|z
   ·rw[z];intro h;rcases sI.mp h with y|y
    ·exact hx y.symm
    ·exact VT c s q (by rw[e1];exact tN) y
   ·exact VT c s p (by rw[e1];exact tS _ z)
def qQ (c:Nat):∀(a s:List Nat),spl c (a++c::s)=spl c a++spl c s
 | [],s=>qT c s
 | x::a,s=>by
  by_cases hx:x=c
  ·subst hx;show spl x (x::(a++x::s))=_;rw[qT,qT,qQ x a s]
   rfl
  ·obtain⟨p,r,e1,e2⟩:=qZ hx a;obtain⟨p',r',e3,e4⟩:=qZ hx (a++c::s);rw[qQ c a s,e1]at e3;cases e3;show spl c (x::(a++c::s))=_;rw[e4,e2]
   rfl
def QH (c:Nat)(s:List Nat):Txt.split (S s) (S [c])=(spl c s).map S:=by
 have h1:=StrLaws.join_split (S s) (S [c]);have h2:∀p∈Txt.split (S s) (S [c]),c∉p.cps.toList:=StrLaws.split_free (S s) c;have hne:Txt.split (S s) (S [c])≠[]:=by
  intro h;rw[h]at h1;have h1:S []=S s:=h1;have:s=[]:=(z01 h1).symm;subst this;have e:Txt.split (S []) (S [c])=[S []]:=if_pos (by
   have:decide ((S []).length<(S [c]).length)=true:=decide_eq_true (by rw[xC,xC];exact Nat.zero_lt_one);rw[this];rfl)
  rw[e]at h;cases h
 generalize Txt.split (S s) (S [c])=P at *;have e1:P=(P.map fun z=>z.cps.toList).map S:=by
  rw[sR];have:(S ∘ fun z:Str=>z.cps.toList)=id:=by funext z;exact (Qz z).symm
  rw[this,pG]
 rw[e1,Uu]at h1;have h1:=z01 h1;have h3:spl c (jn [c] (P.map fun z=>z.cps.toList))=(P.map fun z=>z.cps.toList):=ZY (by
  intro z;exact hne (rW.mp z)) (fun p hp=>by
  obtain⟨q,hq,rfl⟩:=rN.mp hp;exact h2 q hq)
 rw[h1]at h3;rw[h3];exact e1
def sp (k:Nat):List Nat:=List.replicate k 32
def zN (s:List Nat):List Nat:=((s.dropWhile (·==32)).reverse.dropWhile (·==32)).reverse
def Xv:∀(p:Nat->Bool) (s:List Nat),s.drop (s.takeWhile p).length=s.dropWhile p
 | p,[]=>rfl
 | p,x::s=>by
  rw[List.takeWhile_cons,List.dropWhile_cons];split
  ·rw[tF,List.drop_succ_cons,Xv p s]
  ·rfl
def z1I (s:List Nat):Txt.stripChars (S s) (S [32])=S (zN s):=by
 unfold Txt.stripChars;rw[stripBy_eq];have hg:((S [32]).cps.contains:Nat->Bool)=fun c=>c==32:=by
  funext c
  show (#[32]:Array Nat).contains c=_;simp[Array.contains]
  try (by_cases h:c=32<;>simp[h])
 rw[hg];rw[Qz (Builtin.Str.strSub _ _ _),StrLaws.strSub_toList];congr 1;unfold stripLo stripHi;simp only[if_true];rw[uc,xC];rw[Xv];have hl:(s.takeWhile (fun c=>c==32)).length+(s.dropWhile (fun c=>c==32)).length=s.length:=by
  rw[<-tH,List.takeWhile_append_dropWhile]
 unfold zN;generalize s.dropWhile (fun c=>c==32)=t at *;have e:s.length-(t.reverse.takeWhile (fun c=>c==32)).length-(s.takeWhile (fun c=>c==32)).length=t.length-(t.reverse.takeWhile (fun c=>c==32)).length:=by omega
 rw[e];have e2:=Xv (fun c=>c==32) t.reverse;rw[List.drop_reverse]at e2;have e3:=congrArg List.reverse e2;rw[List.reverse_reverse]at e3;exact e3
def ink (c:Nat):Prop:=c≠32/\c≠10
structure Nice (s:List Nat):Prop where
 fst:∃x r,s=x::r/\ink x
 lst:∃r y,s=r++[y]/\ink y
def jx (k:Nat):10∉sp k:=by
 intro h;have:=rK h;omega
def Y1 (a b:Nat):sp a++sp b=sp (a+b):=by unfold sp;rw[List.replicate_append_replicate]
def UO:∀(k:Nat) (s:List Nat),(sp k++s).dropWhile (·==32)=s.dropWhile (·==32)
 | 0,s=>rfl
 | k+1,s=>by
  show (32::(sp k++s)).dropWhile (·==32)=_;rw[List.dropWhile_cons];exact UO k s
def KP {x:Nat}{r:List Nat}(h:x≠32):(x::r).dropWhile (·==32)=x::r:=by
 rw[List.dropWhile_cons,if_neg (by simpa using h)]
def Kc (k:Nat):(sp k).reverse=sp k:=by unfold sp;rw[List.reverse_replicate]
def Xx (k:Nat):zN (sp k)=[]:=by
 unfold zN;have:=UO k [];rw[tZ]at this;rw[this]
 rfl
def wL {m:List Nat}(h1:∃x r,m=x::r/\x≠32)(h2:∃r y,m=r++[y]/\y≠32)(a b:Nat):zN (sp a++m++sp b)=m:=by
 unfold zN;obtain⟨x,r,rfl,hx⟩:=h1;obtain⟨r',y,e,hy⟩:=h2;rw[sF,UO];show (((x::(r++sp b)).dropWhile (·==32)).reverse.dropWhile (·==32)).reverse=_;rw[KP hx];show ((((x::r)++sp b)).reverse.dropWhile (·==32)).reverse=_;rw[List.reverse_append,Kc,UO,e,List.reverse_append];show ((y::r'.reverse).dropWhile (·==32)).reverse=_;rw[KP hy,hV,List.reverse_reverse]
def Nice.str {m:List Nat}(h:Nice m)(a b:Nat):zN (sp a++m++sp b)=m:=by
 obtain⟨x,r,e,hx⟩:=h.fst;obtain⟨r',y,e',hy⟩:=h.lst;exact wL ⟨x,r,e,hx.1⟩ ⟨r',y,e',hy.1⟩ a b
def Nice.str0 {m:List Nat}(h:Nice m):zN m=m:=by
 have:=h.str 0 0;rw[show sp 0=[] from rfl,tO,tZ]at this;exact this
def Nice.app {x y:List Nat}(hx:Nice x)(hy:Nice y)(m:List Nat):Nice (x++m++y):=by
 obtain⟨a,r,rfl,ha⟩:=hx.fst;obtain⟨r',b,rfl,hb⟩:=hy.lst;exact⟨⟨a,r++m++(r'++[b]),rfl,ha⟩,⟨a::r++m++r',b,by simp,hb⟩⟩
def nrm (s:List Nat):List Nat:=jn [32] ((spl 10 s).map zN)
def z4u (s:List Nat):Prop:=∀r∈spl 10 s,zN r≠[]
def Nice.ne {s:List Nat}(h:Nice s):s≠[]:=by obtain⟨x,r,rfl,_⟩:=h.fst;intro z;cases z
def VF (s:List Nat):∃A l,spl 10 s=A++[l]:=by
 have h:=wI 10 s;exact⟨(spl 10 s).dropLast,(spl 10 s).getLast h,(rO h).symm⟩
def vQ {c:Nat}:∀(s:List Nat) (A:List (List Nat)) (l:List Nat),spl c s=A++[l]->∀t,(∃p r,spl c t=p::r/\spl c (s++t)=A++(l++p)::r)
 | [],A,l,h,t=>by
  have h:[[]]=A++[l]:=h;cases A with
  | nil =>
   cases h;cases ht:spl c t with
   | nil=>exact absurd ht (wI c t)
   | cons p r=>exact⟨p,r,rfl,ht⟩
  | cons a A=>have:=congrArg List.length h;simp at this
 | x::s,A,l,h,t=>by
  by_cases hx:x=c
  ·subst hx;rw[qT]at h;cases A with
   | nil =>
    have:=congrArg List.length h;simp at this;exact absurd this (wI x s)
   | cons a A =>
    injection h with h1 h2;obtain⟨p,r,e1,e2⟩:=vQ s A l h2 t;refine⟨p,r,e1,?_⟩;show spl x (x::(s++t))=_;rw[qT,e2,<-h1]
    rfl
  ·obtain⟨p0,r0,e3,e4⟩:=qZ hx s;rw[e4]at h;cases A with
   | nil =>
    injection h with h1 h2;obtain⟨p,r,e1,e2⟩:=vQ s [] p0 (by rw[e3,h2];rfl) t;obtain⟨p',r',e5,e6⟩:=qZ hx (s++t);rw[e2]at e5;injection e5 with e7 e8;refine⟨p,r,e1,?_⟩;show spl c (x::(s++t))=_;rw[e6,<-e7,<-e8,<-h1]
    rfl
   | cons a A =>
    injection h with h1 h2;obtain⟨p,r,e1,e2⟩:=vQ s (p0::A) l (by rw[e3,h2];rfl) t;obtain⟨p',r',e5,e6⟩:=qZ hx (s++t);rw[e2]at e5;injection e5 with e7 e8;refine⟨p,r,e1,?_⟩;show spl c (x::(s++t))=_;rw[e6,<-e7,<-e8,<-h1]
    rfl
def jr:∀l:List Nat,∃i m,l=sp i++m/\(m=[]\/∃x r,m=x::r/\x≠32)
 | []=>⟨0,[],rfl,.inl rfl⟩
 | x::l=>by
  by_cases hx:x=32
  ·obtain⟨i,m,e,h⟩:=jr l;exact⟨i+1,m,by rw[hx,e];rfl,h⟩
  ·exact⟨0,x::l,rfl,.inr ⟨x,l,rfl,hx⟩⟩
def YH (l:List Nat):∃m j,l=m++sp j/\(m=[]\/∃r y,m=r++[y]/\y≠32):=by
 obtain⟨i,m,e,h⟩:=jr l.reverse;refine⟨m.reverse,i,?_,?_⟩
 ·have:=congrArg List.reverse e;rw[List.reverse_reverse,List.reverse_append,Kc]at this;exact this
 ·rcases h with h|⟨x,r,h,hx⟩
  ·exact .inl (by rw[h];rfl)
  ·exact .inr ⟨r.reverse,x,by rw[h,hV],hx⟩
def z2i {l:List Nat}(h:∃r y,l=r++[y]/\y≠32):∃i m,l=sp i++m/\(∃x r,m=x::r/\x≠32)/\(∃r y,m=r++[y]/\y≠32):=by
 obtain⟨i,m,e,hm⟩:=jr l;obtain⟨r,y,e2,hy⟩:=h;rcases hm with hm|hm
 ·exfalso;subst hm;rw[tZ]at e;have:y∈sp i:=by rw[<-e,e2];simp
  exact hy (rK this)
 ·refine⟨i,m,e,hm,?_⟩;obtain⟨x,q,e3,hx⟩:=hm;have hne:m≠[]:=by rw[e3];intro z;cases z
  refine⟨m.dropLast,y,?_,hy⟩;have hl:m.getLast hne=y:=by
   have h1:(sp i++m.dropLast)++[m.getLast hne]=r++[y]:=by rw[sF,rO,<-e,e2]
   have:=List.append_inj_right' h1 rfl;injection this
  rw[<-hl,rO]
def z2H {p:List Nat}(h:∃x r,p=x::r/\x≠32):∃m j,p=m++sp j/\(∃x r,m=x::r/\x≠32)/\(∃r y,m=r++[y]/\y≠32):=by
 obtain⟨m,j,e,hm⟩:=YH p;obtain⟨x,r,e2,hx⟩:=h;rcases hm with hm|hm
 ·exfalso;subst hm;have e:p=sp j:=e;cases j with
  | zero=>rw[e2]at e;cases e
  | succ j=>rw[e2]at e;injection e with e3 _;exact hx e3
 ·refine⟨m,j,e,?_,hm⟩;obtain⟨r',y,e3,hy⟩:=hm;cases m with
  | nil=>have:=congrArg List.length e3;simp at this
  | cons a m=>rw[e2]at e;injection e with e4 _;exact⟨a,m,rfl,by rw[<-e4];exact hx⟩
def z0F {m:List Nat}(h1:∃x r,m=x::r/\x≠32)(h2:∃r y,m=r++[y]/\y≠32)(i:Nat):zN (sp i++m)=m:=by
 have:=wL h1 h2 i 0;rw[show sp 0=[] from rfl,tZ]at this;exact this
def JU {m:List Nat}(h1:∃x r,m=x::r/\x≠32)(h2:∃r y,m=r++[y]/\y≠32)(j:Nat):zN (m++sp j)=m:=wL h1 h2 0 j
def K5 (c:List Nat):∀(A:List (List Nat)) (u w:List Nat) (r:List (List Nat)),jn c (A++(u++w)::r)=jn c (A++[u])++jn c (w::r)
 | [],u,w,[]=>rfl
 | [],u,w,b::r=>by
  show (u++w)++c++jn c (b::r)=u++(w++c++jn c (b::r))
  simp only[sF]
 | a::A,u,w,r=>by
  rw[tQ,tQ,uS _ _ (by simp),uS _ _ (by simp),K5 c A u w r];simp only[sF]
def K1 (c:List Nat):∀(A:List (List Nat)) (u w:List Nat) (r:List (List Nat)),jn c ((A++[u])++w::r)=jn c (A++[u])++c++jn c (w::r)
 | [],u,w,r=>rfl
 | a::A,u,w,r=>by
  rw[tQ,tQ,uS _ _ (by simp),uS _ _ (by simp),K1 c A u w r];simp only[sF]
def Zg (c:List Nat)(u w:List Nat)(r:List (List Nat)):jn c ((u++w)::r)=u++jn c (w::r):=by
 cases r with
 | nil=>rfl
 | cons b r=>show (u++w)++c++_=u++(w++c++_);simp only[sF]
def Nice.first {s:List Nat}(h:Nice s):∃p r,spl 10 s=p::r/\∃x q,p=x::q/\x≠32:=by
 obtain⟨x,t,rfl,hx⟩:=h.fst;obtain⟨p,r,_,e⟩:=qZ hx.2 t;exact⟨x::p,r,e,x,p,rfl,hx.1⟩
def Nice.last {s:List Nat}(h:Nice s):∃A l,spl 10 s=A++[l]/\∃q y,l=q++[y]/\y≠32:=by
 obtain⟨t,y,rfl,hy⟩:=h.lst;obtain⟨A,l,e⟩:=VF t;obtain⟨p,r,e1,e2⟩:=vQ t A l e [y];rw[wM (by intro z;exact hy.2 (sG.mp z).symm)]at e1;injection e1 with e3 e4;refine⟨A,l++[y],?_,l,y,rfl,hy.1⟩;rw[e2,<-e3,<-e4]
structure Gd (s n:List Nat):Prop where
 nice:Nice s
 rows:z4u s
 nrm:nrm s=n
def Gd.one {w:List Nat}(h:Nice w)(hn:10∉w):Gd w w:=by
 refine⟨h,fun r hr=>?_,?_⟩
 ·rw[wM hn]at hr;rw[sG.mp hr,h.str0];exact h.ne
 ·unfold K07.nrm;rw[wM hn];exact h.str0
def Qr {m:List Nat}(h:∃x r,m=x::r/\x≠32):m≠[]:=by obtain⟨x,r,rfl,_⟩:=h;intro z;cases z
def Gd.app {x y x' y':List Nat}(hx:Gd x x')(hy:Gd y y')(a:Nat):Gd (x++sp a++y) (x'++sp a++y'):=by
 obtain⟨A,l,e1,hl⟩:=hx.nice.last;obtain⟨p,r,e2,hp⟩:=hy.nice.first;obtain⟨i,m,rfl,m1,m2⟩:=z2i hl;obtain⟨m',j,rfl,m3,m4⟩:=z2H hp;have e3:spl 10 (sp a++y)=(sp a++(m'++sp j))::r:=by
  obtain⟨p,r',q1,q2⟩:=qC (jx a) y;rw[e2]at q1;cases q1;exact q2
 have e4:spl 10 (x++sp a++y)=A++(sp i++(m++sp a++m')++sp j)::r:=by
  obtain⟨p,r',q1,q2⟩:=vQ x A (sp i++m) e1 (sp a++y);rw[e3]at q1;cases q1;rw[sF,q2];simp only[sF]
 have hs:zN (sp i++(m++sp a++m')++sp j)=m++sp a++m':=by
  obtain⟨u,q,rfl,hu⟩:=m1;obtain⟨q',v,rfl,hv⟩:=m4;exact wL ⟨u,q++sp a++(q'++[v]),rfl,hu⟩ ⟨u::q++sp a++q',v,by simp,hv⟩ i j
 refine⟨hx.nice.app hy.nice _,fun q hq=>?_,?_⟩
 ·rw[e4]at hq;rcases sC.mp hq with z|z
  ·exact hx.rows q (by rw[e1];exact sE _ z)
  ·rcases sI.mp z with z|z
   ·rw[z,hs];intro z2;have:=congrArg List.length z2;have:=Qr m1;simp at z2;exact this z2.1
   ·exact hy.rows q (by rw[e2];exact tS _ z)
 ·have n1:=hx.nrm;have n2:=hy.nrm;unfold K07.nrm at *;rw[e1,rA,tG,tX,z0F m1 m2]at n1;rw[e2,tG,JU m3 m4]at n2;rw[e4,rA,tG,hs,<-n1,<-n2,sF,K5,Zg];simp only[sF]
def Gd.nl {x y x' y':List Nat}(hx:Gd x x')(hy:Gd y y')(a b:Nat):Gd (x++(sp a++10::sp b)++y) (x'++sp 1++y'):=by
 obtain⟨A,l,e1,hl⟩:=hx.nice.last;obtain⟨p,r,e2,hp⟩:=hy.nice.first;obtain⟨i,m,rfl,m1,m2⟩:=z2i hl;obtain⟨m',j,rfl,m3,m4⟩:=z2H hp;have e3:spl 10 (sp b++y)=(sp b++m'++sp j)::r:=by
  obtain⟨p,r',q1,q2⟩:=qC (jx b) y;rw[e2]at q1;cases q1;rw[q2,sF]
 have e5:spl 10 (x++sp a)=A++[sp i++m++sp a]:=by
  obtain⟨p,r',q1,q2⟩:=vQ x A (sp i++m) e1 (sp a);rw[wM (jx a)]at q1;cases q1;exact q2
 have e4:spl 10 (x++(sp a++10::sp b)++y)=(A++[sp i++m++sp a])++(sp b++m'++sp j)::r:=by
  have:x++(sp a++10::sp b)++y=(x++sp a)++10::(sp b++y):=by simp
  rw[this,qQ,e5,e3]
 refine⟨hx.nice.app hy.nice _,fun q hq=>?_,?_⟩
 ·rw[e4]at hq;rcases sC.mp hq with z|z
  ·rcases sC.mp z with z|z
   ·exact hx.rows q (by rw[e1];exact sE _ z)
   ·rw[sG.mp z,wL m1 m2];exact Qr m1
  ·rcases sI.mp z with z|z
   ·rw[z,wL m3 m4];exact Qr m3
   ·exact hy.rows q (by rw[e2];exact tS _ z)
 ·have n1:=hx.nrm;have n2:=hy.nrm;unfold K07.nrm at *;rw[e1,rA,tG,tX,z0F m1 m2]at n1;rw[e2,tG,JU m3 m4]at n2;rw[e4,rA,rA,tG,tG,tX,wL m1 m2,wL m3 m4,K1,n1,n2]
  rfl
def z1e {a b n:Nat}(hab:a<=b)(hb:b<=n):(Builtin.Str.strSliceIndices (some (a:Int)) (some (b:Int)) 1 n).length=b-a:=by
 rw[StrLaws.strSliceIndices_plain hab hb];simp
def z0x (a b n:Nat):Builtin.Str.strSliceIndices (some (a:Int)) (some (b:Int)) 1 n=Builtin.Str.strSliceIndices (some (a:Int)) (some ((min b n:Nat):Int)) 1 n:=by
 have h1:¬((a:Int)<0):=by omega
 have h2:¬((b:Int)<0):=by omega
 have h3:¬(((min b n:Nat):Int)<0):=by omega
 have e:max (0:Int) (min (b:Int) (n:Int))=max (0:Int) (min ((min b n:Nat):Int) (n:Int)):=by omega
 simp only[Builtin.Str.strSliceIndices,h1,h2,h3,if_false,e,show ((1:Int)>0)=True from by simp,if_true]
def jC (cs:List Nat)(b n:Nat)(hb:b<=cs.length):Txt.slice (S cs) (some (b:Int)) (some ((b:Int)+(n:Nat)))=S ((cs.drop b).take n):=by
 have e0:(b:Int)+(n:Nat)=((b+n:Nat):Int):=by omega
 have hle:b<=min (b+n) cs.length:=by omega
 have hle2:min (b+n) cs.length<=(S cs).length:=by rw[xC];omega
 have hp:=StrLaws.sliced_plain (S cs) hle hle2;have hl:=z1e hle hle2;rw[uc]at hp;have et:(cs.drop b).take (min (b+n) cs.length-b)=(cs.drop b).take n:=by
  by_cases h:b+n<=cs.length
  ·congr 1;omega
  ·rw[rS (by rw[rL];omega),rS (by rw[rL];omega)]
 rw[et]at hp;unfold Txt.slice;rw[e0,z0x,xC];rw[xC]at hp hl
 by_cases hw:(Builtin.Str.strSliceIndices (some (b:Int)) (some ((min (b+n) cs.length:Nat):Int)) 1 cs.length).length=cs.length
 ·rw[if_pos (by rw[hw];simp)];rw[hl]at hw;have hb0:b=0:=by omega
  subst hb0;rw[List.drop_zero,rS (by omega)]
 ·rw[if_neg (by simp[hw]),hp]
  rfl
def VG (b n:Nat):Builtin.Str.strSliceIndices none (some (b:Int)) 1 n=Builtin.Str.strSliceIndices (some ((0:Nat):Int)) (some (b:Int)) 1 n:=by
 have h1:¬(((0:Nat):Int)<0):=by omega
 have h2:¬((b:Int)<0):=by omega
 have e:max (0:Int) (min ((0:Nat):Int) (n:Int))=0:=by omega
 simp only[Builtin.Str.strSliceIndices,h1,h2,if_false,e,show ((1:Int)>0)=True from by simp,if_true]
def Wu (a n:Nat):Builtin.Str.strSliceIndices (some (a:Int)) none 1 n=Builtin.Str.strSliceIndices (some (a:Int)) (some (n:Int)) 1 n:=by
 have h1:¬((a:Int)<0):=by omega
 have h2:¬((n:Int)<0):=by omega
 have e:max (0:Int) (min (n:Int) (n:Int))=(n:Int):=by omega
 simp only[Builtin.Str.strSliceIndices,h1,h2,if_false,e,show ((1:Int)>0)=True from by simp,if_true]
def Ua (cs:List Nat)(b:Nat)(hb:b<=cs.length):Txt.slice (S cs) (some (b:Int)) none=S (cs.drop b):=by
 have h:=jC cs b (cs.length-b) hb;rw[rS (by rw[rL];omega),show (b:Int)+((cs.length-b:Nat):Int)=((cs.length:Nat):Int) by omega]at h;rw[<-h];unfold Txt.slice;rw[xC,Wu]
def z0h (cs:List Nat)(b:Nat):Txt.slice (S cs) none (some (b:Int))=S (cs.take b):=by
 have h:=jC cs 0 b (rZ _);rw[List.drop_zero,show ((0:Nat):Int)+(b:Int)=(b:Int) by omega]at h;rw[<-h];unfold Txt.slice;rw[xC,VG]
abbrev big (s:List Nat):Prop:=s.length<=16777216
def kF {s:List Nat}(h:big s):yE [.str (S s)]=.ok (.int (s.length:Nat)):=by rw[Q4 (by rw[xC,sizeLine_eq];exact h),xC]
def z22 {s:List Nat}(h:big s){i c:Nat}(hc:s[i]?=some c):ixD (.str (S s)) (.int (i:Nat))=.ok (.str (one c)):=
 KG (by rw[xC,sizeLine_eq];exact h) (uQ (by rw[uc];exact hc))
def z17 {s:List Nat}(h:big s)(lo hi:Option Int):slD (.str (S s)) lo hi=.ok (.str (Txt.slice (S s) lo hi)):=by
 show (if (S s).length<=sizeLine then _ else _)=_;rw[if_pos (by rw[xC,sizeLine_eq];exact h)]
def JH (a m b:List Nat)(h:big (a++m++b)):slD (.str (S (a++m++b))) (some (a.length:Int)) (some ((a.length+m.length:Nat):Int))=.ok (.str (S m)):=by
 have:=jC (a++m++b) a.length m.length (by rw[tH,tH];omega);rw[show ((a.length:Nat):Int)+((m.length:Nat):Int)=((a.length+m.length:Nat):Int) by omega]at this;rw[z17 h,this,sF,List.drop_left,List.take_left]
def z6V (x:Nat)(s:List Nat)(h:big (x::s)):slD (.str (S (x::s))) (some 1) none=.ok (.str (S s)):=by
 have:=Ua (x::s) 1 (by simp);rw[z17 h];have e:Txt.slice (S (x::s)) (some 1) none=S s:=this;rw[e]
def z4W (x y:Nat)(s:List Nat)(h:big (x::(s++[y]))):slD (.str (S (x::(s++[y])))) (some 1) (some (-1))=.ok (.str (S s)):=by
 have h1:=jC (x::(s++[y])) 1 s.length (by simp);rw[z17 h];have e:Txt.slice (S (x::(s++[y]))) (some 1) (some (-1))=Txt.slice (S (x::(s++[y]))) (some ((1:Nat):Int)) (some (((1:Nat):Int)+(s.length:Nat))):=by
  unfold Txt.slice;rw[StrLaws.sliceIdx_neg_hi (some 1) (S (x::(s++[y]))).length (by decide) (by rw[xC];simp;omega)];have e2:(-1:Int)+((S (x::(s++[y]))).length:Nat)=((1:Nat):Int)+(s.length:Nat):=by rw[xC];simp;omega
  rw[e2]
  rfl
 rw[e,h1];show R.ok (D.str (S ((s++[y]).take s.length)))=_;rw[List.take_left]
def wK {a b:List Nat}(h:big (a++b)):zL (.str (S a)) (.str (S b))=.ok (.str (S (a++b))):=by
 have h:a.length+b.length<=16777216:=by rw[<-tH];exact h
 rw[z1Y (by rw[xC,xC,sizeLine_eq];exact h),Qh]
def enW (s:List Nat):D:=.str (S s)
def JB (xs:List (List Nat)):((xs.map S).map (·.length)).sum=(xs.map List.length).sum:=by
 rw[sR];have:((fun z:Str=>z.length) ∘ S)=List.length:=by funext x;exact xC x
 rw[this]
def um (c:List Nat):∀xs:List (List Nat),(jn c xs).length<=(xs.map List.length).sum+xs.length*c.length
 | []=>by simp[jn]
 | [a]=>by simp[jn]
 | a::b::r=>by
  have:=um c (b::r);show (a++c++jn c (b::r)).length<=_;rw[tH,tH,tG,sX,tF (a:=a),pL];omega
def vD (c:List Nat)(xs:List (List Nat))(h:(xs.map List.length).sum+xs.length*c.length<=16777216):y9 (S c) [.lst (xs.map enW)]=.ok (.str (S (jn c xs))):=by
 have e:xs.map enW=(xs.map S).map D.str:=by rw[sR];rfl
 rw[e,z0m (by rw[JB,tU,xC];exact h),Uu]
def z3X (c:List Nat)(xs:List (List Nat))(h:(xs.map List.length).sum+xs.length*c.length<=16777216):y9 (S c) [.tup (xs.map enW)]=.ok (.str (S (jn c xs))):=vD c xs h
def XO {k:Tn->R Bool}(h:k τ=.ok false):xf k b τ=.ok (.nx τ):=YS (n:=1) (by rw[vZ,h];rfl) (by simp)
def Zb {k:Tn->R Bool}(h:k τ=.ok true)(hb:b τ=.ok (.nx τ2))(hw:xf k b τ2=.ok f):xf k b τ=.ok f:=by
 rcases ZL (k:=k) (body:=b) (τ:=τ2)with e|⟨n,e,_⟩
 ·rw[e]at hw;cases hw
 ·exact YS (n:=n+1) (by rw[vZ,h,jYa,if_pos rfl,hb,jYa];rw[hw]at e;exact e) (by simp)
def zO (s:List Nat):List (List Nat):=(spl 32 s).filter (fun p=>!decide (p=[]))
def Z6 (c:Nat):∀s,(spl c s).length<=s.length+1
 | []=>sL _
 | x::s=>by
  have ih:=Z6 c s
  by_cases hx:x=c
  ·subst hx;rw[qT,tF,tF];omega
  ·obtain⟨p,r,e1,e2⟩:=qZ hx s;rw[e1]at ih;rw[e2];simp at ih ⊢;omega
def jS (c:Nat){s:List Nat}(h:s.length<16777216):xM (S s) [.str (S [c])]=.ok (.lst ((spl c s).map enW)):=by
 have e:xM (S s) [.str (S [c])]=.ok (.lst ((Txt.split (S s) (S [c])).map D.str)):=if_pos ⟨rfl,by rw[xC,sizeLine_eq];omega,by rw[QH,tU,sizeLine_eq];have:=Z6 c s;omega⟩;rw[e,QH,sR]
 rfl
def KH (a b:List Nat):(S a==S b)=decide (a=b):=by
 by_cases h:a=b
 ·subst h;simp
 ·rw[decide_eq_false h];exact beq_false_of_ne fun z=>h (z01 z)
def qF (xs:List (List Nat)):D.imms (xs.map enW)=true:=vS (fun _=>rfl) xs
def ki (p:List Nat->Bool):∀xs:List (List Nat),xs.filterMap (fun x=>if p x=true then some (enW x) else none)=(xs.filter p).map enW
 | []=>rfl
 | x::xs=>by
  rw[rH,pI];cases p x
  ·exact ki p xs
  ·simp only[if_true];rw[ki p xs];rfl
def ZC {s:List Nat}(h:s.length<16777216):yK [.str (S s)]=.ok (.tup ((zO s).map enW)):=by
 have h1:=jS 32 h;have h1:xM (S s) [.str " "]=.ok (.lst ((spl 32 s).map enW)):=h1;have k1:yQ (ya (Tgt.one 0).asg (zi (ze (eqR true) (za 0) (eC (.str "")))) (za 0) [none]) ((spl 32 s).map enW)=.ok ((spl 32 s).filterMap fun p=>if (!decide (p=[]))=true then some (enW p) else none):=ym fun p _=>by
  have e:eqR true (enW p) (.str "")=.ok (.bl (!decide (p=[]))):=by
   show eqR true (.str (S p)) (.str (S []))=_;rw[vN,if_pos rfl,KH]
  generalize (!decide (p=[]))=b at *;generalize enW p=W at *;unfold ya;cases b
  ·simp only[za,eC,ze,zi,asB,Tgt.asg,jYa,tD,tI,if_false,tK,yz,e]
  ·simp only[za,eC,ze,zi,asB,Tgt.asg,jYa,tD,tI,if_true,yz,e]
 rw[ki]at k1;have i1:uz (((spl 32 s).filter fun p=>!decide (p=[])).map enW)=.ok (.lst (((spl 32 s).filter fun p=>!decide (p=[])).map enW)):=xt (by rw[tU];have:=List.length_filter_le (fun p:List Nat=>!decide (p=[])) (spl 32 s);have:=Z6 32 s;omega);have t1:yc [.lst (((spl 32 s).filter fun p=>!decide (p=[])).map enW)]=.ok (.tup (((spl 32 s).filter fun p=>!decide (p=[])).map enW)):=if_pos (qF _);unfold zO;generalize ((spl 32 s).filter fun p=>!decide (p=[])).map enW=WW at *;generalize (spl 32 s).map enW=SS at *;generalize S s=Z at *;unfold yK Y6;simp only[zI,yt,yw,zr,zp,za,eC,eL,zb,z8,zQ,xk,jYa,tG,tX,tF,tR,tJ,tQ,tO,tD,Nat.reduceSub,tY,yD,yC,h1,k1,i1,t1]
def X9 (k:Nat)(s:List Nat):zO (sp k++s)=zO s:=by
 induction k with
 | zero=>rfl
 | succ k ih =>
  show zO (32::(sp k++s))=_;unfold zO at *;rw[qT,pI,if_neg (by simp)];exact ih
def z3U {w:List Nat}(h:32∉w)(hw:w≠[]):zO w=[w]:=by
 unfold zO;rw[wM h,pI,if_pos (by simp[hw])]
 rfl
def z6B:zO []=[]:=rfl
def Qu {w:List Nat}(h:32∉w)(hw:w≠[])(s:List Nat):zO (w++32::s)=w::zO s:=by
 unfold zO;rw[VM h,pI,if_pos (by simp[hw])]
def z3l {w:List Nat}(h:32∉w)(hw:w≠[])(k:Nat):zO (w++sp k)=[w]:=by
 cases k with
 | zero=>rw[show sp 0=[] from rfl,tZ];exact z3U h hw
 | succ k =>
  show zO (w++32::sp k)=_;rw[Qu h hw];have:=X9 k [];rw[tZ]at this;rw[this]
  rfl
def z5u (a b:Option D)(m:Nat):kq 2 ub (eC (.int 1)) [a,b,some (.int (m:Nat))]=.ok (.nx [a,b,some (.int ((m+1:Nat):Int))]):=by
 have e:((m+1:Nat):Int)=((m:Nat):Int)+1:=by omega
 rw[e]
 rfl
def z3C {K:Tn->R Bool}{p:Nat->Bool}{s:List Nat}(h1:∀e c:Nat,s[e]?=some c->K [some (.str (S s)),x1,some (.int (e:Nat))]=.ok (p c))(h2:K [some (.str (S s)),x1,some (.int (s.length:Nat))]=.ok false)(r:List Nat)(hr:r=[]\/∃c q,r=c::q/\p c=false):
  ∀(m a:List Nat),s=a++m++r->(∀c∈m,p c=true)->xf K (kq 2 ub (eC (.int 1))) [some (.str (S s)),x1,some (.int (a.length:Nat))]=.ok (.nx [some (.str (S s)),x1,some (.int ((a.length+m.length:Nat):Int))])
 | [],a,e,_=>by
  rw[tZ]at e;refine XO ?_;rcases hr with hr|⟨c,q,hr,hc⟩
  ·rw[hr,tZ]at e;rw[<-e];exact h2
  ·have:s[a.length]?=some c:=by rw[e,hr];simp
   rw[h1 _ c this,hc]
 | c::m,a,e,hm=>by
  have hc:s[a.length]?=some c:=by rw[e];simp
  have ih:=z3C h1 h2 r hr m (a++[c]) (by rw[e];simp) fun x hx=>hm x (tS _ hx);have e1:(a++[c]).length=a.length+1:=by simp
  rw[e1]at ih;have e2:a.length+1+m.length=a.length+(c::m).length:=by simp;omega
  rw[e2]at ih;exact Zb (by rw[h1 _ c hc,hm c tN]) (z5u _ _ _) ih
def tWE:vm=zr 3 (zh (zq 2 (za 1)) (zh (xf KW (kq 2 ub (eC (.int 1)))) (zp (qm (za 2))))):=rfl
def tBE:wA=zr 3 (zh (zq 2 (za 1)) (zh (xf KB (kq 2 ub (eC (.int 1)))) (zp (qm (za 2))))):=rfl
def pW (c:Nat):Bool:=!decide (c∈[32,123])
def pB (c:Nat):Bool:=decide (c=32)
def uJ {s:List Nat}{e c:Nat}(h:s[e]?=some c):e<s.length:=(sN.mp h).1
def Zj (c d:Nat):eqR false (.str (one c)) (.str (one d))=.ok (.bl (decide (c=d))):=by
 rw[vN,if_neg sJ];show R.ok (D.bl (S [c]==S [d]))=_;rw[KH];congr 2;simp
def z58 {s:List Nat}(hb:big s)(x1:Option D)(e c:Nat)(h:s[e]?=some c):KW [some (.str (S s)),x1,some (.int (e:Nat))]=.ok (pW c):=by
 have h1:=kF hb;have h2:=z22 hb h;have h3:decide (((e:Nat):Int)<(s.length:Nat))=true:=decide_eq_true (by have:=uJ h;omega);have h4:YI (.str (one c)) (.str " {")=.ok (.bl (pW c)):=by
  show R.ok (D.bl (!inS (one c) " {"))=_;rw[Qi]
  rfl
 generalize pW c=b at *;generalize one c=C at *;generalize ((e:Nat):Int)=E at *;generalize ((s.length:Nat):Int)=l at *;generalize S s=Z at *;unfold KW;cases b<;>simp only[za,eC,ze,eL,zb,z8,zi,wo,asB,jYa,tD,tE,vx,if_true,h1,h2,h3,h4]
def z62 {s:List Nat}(hb:big s)(x1:Option D)(e c:Nat)(h:s[e]?=some c):KB [some (.str (S s)),x1,some (.int (e:Nat))]=.ok (pB c):=by
 have h1:=kF hb;have h2:=z22 hb h;have h3:decide (((e:Nat):Int)<(s.length:Nat))=true:=decide_eq_true (by have:=uJ h;omega);have h4:eqR false (.str (one c)) (.str " ")=.ok (.bl (pB c)):=Zj c 32;generalize pB c=b at *;generalize one c=C at *;generalize ((e:Nat):Int)=E at *;generalize ((s.length:Nat):Int)=l at *;generalize S s=Z at *;unfold KB;cases b<;>simp only[za,eC,ze,eL,zb,z8,zi,wo,asB,jYa,tD,tE,vx,if_true,h1,h2,h3,h4]
def z2h {s:List Nat}(hb:big s)(x1:Option D)(T:Tn->R Bool):wo (zi (ze ltD (za 2) (eL yE (z8 (za 0) zb)))) T [some (.str (S s)),x1,some (.int (s.length:Nat))]=.ok false:=by
 have h1:=kF hb;have h3:decide (((s.length:Nat):Int)<(s.length:Nat))=false:=decide_eq_false (by omega);simp only[za,ze,eL,zb,z8,zi,wo,asB,jYa,tD,tE,vx,if_false,tK,h1,h3]
def z4K (K:Tn->R Bool)(z:Str)(b e:Nat)(h:xf K (kq 2 ub (eC (.int 1))) [some (.str z),some (.int (b:Nat)),some (.int (b:Nat))]=.ok (.nx [some (.str z),some (.int (b:Nat)),some (.int (e:Nat))])):zr 3 (zh (zq 2 (za 1)) (zh (xf K (kq 2 ub (eC (.int 1)))) (zp (qm (za 2))))) [.str z,.int (b:Nat)]=.ok (.int (e:Nat)):=by
 simp only[wb,Zd,zr,zh,zq,zp,za,jYa,tG,tX,tF,tR,sA,tJ,tQ,tO,tD,tE,tI,tM,Nat.reduceAdd,Nat.reduceSub,tY,h]
def z0k (a m r:List Nat)(hb:big (a++m++r))(hm:∀c∈m,pW c=true)(hr:r=[]\/∃c q,r=c::q/\pW c=false):vm [.str (S (a++m++r)),.int (a.length:Nat)]=.ok (.int ((a.length+m.length:Nat):Int)):=by
 rw[tWE];exact z4K KW _ _ _ (z3C (K:=KW) (fun e c h=>z58 hb _ e c h) (z2h hb _ _) r hr m a rfl hm)
def UE (a m r:List Nat)(hb:big (a++m++r))(hm:∀c∈m,pB c=true)(hr:r=[]\/∃c q,r=c::q/\pB c=false):wA [.str (S (a++m++r)),.int (a.length:Nat)]=.ok (.int ((a.length+m.length:Nat):Int)):=by
 rw[tBE];exact z4K KB _ _ _ (z3C (K:=KB) (fun e c h=>z62 hb _ e c h) (z2h hb _ _) r hr m a rfl hm)
def Js (a m r:List Nat)(c:Nat)(hm:c∉m):jb (S (a++m++c::r)) [.str (S [c]),.int (a.length:Nat)]=.ok (.int ((a.length+m.length:Nat):Int)):=by
 show R.ok (D.int (Txt.find3 (S (a++m++c::r)) ⟨#[c]⟩ (a.length:Nat)))=_;have hf:fromIndex (S (a++m++c::r)).length ((a.length:Nat):Int)=a.length:=by
  unfold fromIndex;rw[if_neg (by omega)];omega
 have hat:∀k x:Nat,(a++m++c::r)[k]?=some x->(S (a++m++c::r)).cps.getD k 0=x:=fun k x h=>StrLaws.getD_of_getElem? (by rw[uc];exact h);have hc:(S (a++m++c::r)).cps.getD (a.length+m.length) 0=c:=hat _ _ (by
  rw[rM (by rw[tH];omega),tH];simp)
 have hlen:a.length+m.length<(S (a++m++c::r)).length:=by rw[xC,tH,tH,tF];omega
 have hno:∀v,a.length<=v->v<a.length+m.length->(S (a++m++c::r)).cps.getD v 0≠c:=by
  intro v h1 h2 e;have hv:v-a.length<m.length:=by omega
  have:(a++m++c::r)[v]?=some m[v-a.length]:=by
   rw[rE (by rw[tH];omega),rM h1,rG hv]
  rw[hat v _ this]at e;exact hm (by rw[<-e];exact rF hv)
 rcases StrLaws.find3_spec (S (a++m++c::r)) c ((a.length:Nat):Int)with⟨_,h⟩|⟨k,e,k1,k2,k3,k4⟩
 ·rw[hf]at h;exact absurd hc (h _ (by omega) hlen)
 ·rw[hf]at k1 k4;have h1:¬k<a.length+m.length:=fun h=>hno k k1 h k3;have h2:¬a.length+m.length<k:=fun h=>k4 _ (by omega) h hc;rw[e,show k=a.length+m.length by omega]
structure Wk (w:List Nat):Prop where
 ge:1<=w.length
 le:w.length<=40
 ok:∀c∈w,okS c
def okS.no {c:Nat}(h:okS c):c≠32/\c≠10/\c≠123/\c≠125/\c≠124/\c≠61/\c≠126:=by
 have:∀c∈Z2.cps.toList,c≠32/\c≠10/\c≠123/\c≠125/\c≠124/\c≠61/\c≠126:=by decide +kernel
 exact this c h
def Wk.ne {w:List Nat}(h:Wk w):w≠[]:=by have:=h.ge;intro e;rw[e]at this;simp at this
def Wk.nb {w:List Nat}(h:Wk w):32∉w:=fun z=>(h.ok _ z).no.1 rfl
def Wk.hd {w:List Nat}(h:Wk w):∃x r,w=x::r/\okS x:=by
 cases w with
 | nil=>exact absurd rfl h.ne
 | cons x r=>exact⟨x,r,rfl,h.ok x tN⟩
inductive LW:List (List Nat)->List Nat->Prop
 | one {u:List Nat}:LW [u] u
 | cons {u s:List Nat} {us:List (List Nat)} (k:Nat):LW us s->LW (u::us) (u++sp (k+1)++s)
def LW.words {us:List (List Nat)}{s:List Nat}(h:LW us s):(∀u∈us,Wk u)->∀b,zO (s++sp b)=us:=by
 induction h with
 | one=>exact fun hu b=>z3l (hu _ tN).nb (hu _ tN).ne b
 | @cons u s us k h ih =>
  intro hu b;have e:u++sp (k+1)++s++sp b=u++32::(sp k++(s++sp b)):=by
   show u++(32::sp k)++s++sp b=_;simp
  rw[e,Qu (hu _ tN).nb (hu _ tN).ne,X9,ih (fun v hv=>hu v (tS _ hv))]
def LW.mem {us:List (List Nat)}{s:List Nat}(h:LW us s):(∀u∈us,Wk u)->∀c∈s,okS c\/c=32:=by
 induction h with
 | one=>exact fun hu c hc=>.inl ((hu _ tN).ok c hc)
 | @cons u s us k h ih =>
  intro hu c hc;rcases sC.mp hc with z|z
  ·rcases sC.mp z with z|z
   ·exact .inl ((hu _ tN).ok c z)
   ·exact .inr (rK z)
  ·exact ih (fun v hv=>hu v (tS _ hv)) c z
inductive LNt:List (List (List Nat))->List Nat->Prop
 | nil:LNt [] []
 | cons {n:List (List Nat)} {ns:List (List (List Nat))} {s t:List Nat} (a b:Nat):LW n s->(∀u∈n,Wk u)->LNt ns t->LNt (n::ns) ((123::(sp a++s++sp b))++125::t)
abbrev Pm:Type:=List Nat×List (List (List Nat))
def enN (n:List (List Nat)):D:=.tup (n.map enW)
def enP (p:Pm):D:=.tup [enW p.1,.tup (p.2.map enN)]
inductive LL:List Pm->List Nat->Prop
 | one {w t:List Nat} {ns:List (List (List Nat))}:Wk w->LNt ns t->LL [(w,ns)] (w++t)
 | cons {w t s:List Nat} {ns:List (List (List Nat))} {ps:List Pm} (k:Nat):Wk w->LNt ns t->LL ps s->LL ((w,ns)::ps) (w++t++sp (k+1)++s)
def LNt.hd {ns:List (List (List Nat))}{t:List Nat}(h:LNt ns t):t=[]\/∃q,t=123::q:=by
 cases h with
 | nil=>exact .inl rfl
 | cons a b _ _ _=>exact .inr ⟨_,rfl⟩
def LL.hd {s:List Nat}(h:LL ps s):∃x r,s=x::r/\okS x:=by
 cases h with
 | one hw _=>obtain⟨x,r,rfl,hx⟩:=hw.hd;exact⟨x,_,rfl,hx⟩
 | cons k hw _ _=>obtain⟨x,r,rfl,hx⟩:=hw.hd;exact⟨x,_,rfl,hx⟩
def z2L {s:List Nat}(hb:big s)(e c:Nat)(h:s[e]?=some c)(x1 x2 x4 x5 x6:Option D):KN [some (.str (S s)),x1,x2,some (.int (e:Nat)),x4,x5,x6]=.ok (decide (c=123)):=by
 have h1:=kF hb;have h2:=z22 hb h;have h3:decide (((e:Nat):Int)<(s.length:Nat))=true:=decide_eq_true (by have:=uJ h;omega);have h4:eqR false (.str (one c)) (.str "{")=.ok (.bl (decide (c=123))):=Zj c 123;generalize decide (c=123)=b at *;generalize one c=C at *;generalize ((e:Nat):Int)=E at *;generalize ((s.length:Nat):Int)=l at *;generalize S s=Z at *;unfold KN;cases b<;>simp only[za,eC,ze,eL,zb,z8,zi,wo,asB,jYa,tD,tE,vx,if_true,h1,h2,h3,h4]
def z4E {s:List Nat}(hb:big s)(x1 x2 x4 x5 x6:Option D):KN [some (.str (S s)),x1,x2,some (.int (s.length:Nat)),x4,x5,x6]=.ok false:=by
 have h1:=kF hb;have h3:decide (((s.length:Nat):Int)<(s.length:Nat))=false:=decide_eq_false (by omega);unfold KN;simp only[za,eC,ze,eL,zb,z8,zi,wo,asB,jYa,tD,tE,vx,if_false,tK,h1,h3]
def z52 (a i t:List Nat)(hb:(a++(123::i)++125::t).length<16777216)(hi:125∉i)(n:List (List Nat))(hn:zO i=n)(x1 x2 x4 x6:Option D)(L:List D)(hL:L.length<1000):
  bK [some (.str (S (a++(123::i)++125::t))),x1,x2,some (.int (a.length:Nat)),x4,some (.lst L),x6]=.ok (.nx [some (.str (S (a++(123::i)++125::t))),x1,x2,some (.int ((a++(123::i)++[125]).length:Nat)),x4,some (.lst (L++[enN n])),some (.int ((a.length+(123::i).length:Nat):Int))]):=by
 have h1:=Js a (123::i) t 125 (by
  intro z;rcases sI.mp z with z|z
  ·omega
  ·exact hi z)
 have h1:jb (S (a++(123::i)++125::t)) [.str "}",.int (a.length:Nat)]=.ok (.int ((a.length+(123::i).length:Nat):Int)):=h1;have h2:decide (((a.length+(123::i).length:Nat):Int)<0)=false:=decide_eq_false (by omega);have h3:slD (.str (S (a++(123::i)++125::t))) (some ((a.length:Nat)+1)) (some ((a.length+(123::i).length:Nat):Int))=.ok (.str (S i)):=by
  have e:a++(123::i)++125::t=(a++[123])++i++125::t:=by simp
  have:=JH (a++[123]) i (125::t) (by rw[<-e];exact rJ hb);rw[<-e]at this;have e2:(((a++[123]).length:Nat):Int)=((a.length:Nat):Int)+1:=by simp
  have e3:((a++[123]).length+i.length:Nat)=(a.length+(123::i).length:Nat):=by simp;omega
  rw[e2,e3]at this;exact this
 have h4:=ZC (s:=i) (by
  rw[tH,tH,tF,tF]at hb;omega)
 rw[hn]at h4;have h4:yK [.str (S i)]=.ok (enN n):=h4;have hL:L.length<16777216:=by omega
 have e5:(((a++(123::i)++[125]).length:Nat):Int)=((a.length+(123::i).length:Nat):Int)+1:=by simp;omega
 rw[e5];unfold bK;simp only[xw,xx,wc,zm,zh,zq,zp,sIf,za,eC,ze,eL,zb,z8,zi,eSl,yL,asB,jYa,tD,tE,tI,tM,xN,vx,if_false,tK,yD,yC,h1,h2,h3,h4,hL]
def Ub {s r:List Nat}(hb:s.length<16777216)(hr:r=[]\/∃c q,r=c::q/\c≠123)(x1 x2 x4:Option D){ns:List (List (List Nat))}{t:List Nat}(h:LNt ns t):∀(a:List Nat) (L:List D) (x6:Option D),s=a++t++r->L.length+ns.length<1000 ->
  ∃y6,xf KN bK [some (.str (S s)),x1,x2,some (.int (a.length:Nat)),x4,some (.lst L),x6]=.ok (.nx [some (.str (S s)),x1,x2,some (.int ((a++t).length:Nat)),x4,some (.lst (L++ns.map enN)),y6]):=by
 induction h with
 | nil =>
  intro a L x6 e hl;refine⟨x6,?_⟩;rw[tZ]at e;rw[tZ,tX,tZ];refine XO ?_;rcases hr with hr|⟨c,q,hr,hc⟩
  ·rw[hr,tZ]at e;rw[<-e];exact z4E (rJ hb) _ _ _ _ _
  ·rw[z2L (rJ hb) a.length c (by rw[e,hr];simp),decide_eq_false hc]
 | @cons n ns si t p q hw hu hn ih =>
  intro a L x6 e hl;rw[tF]at hl;have e1:s=a++(123::(sp p++si++sp q))++125::(t++r):=by rw[e];simp
  have hi:125∉sp p++si++sp q:=by
   intro z;rcases sC.mp z with z|z
   ·rcases sC.mp z with z|z
    ·have:=rK z;omega
    ·rcases hw.mem hu _ z with y|y
     ·exact y.no.2.2.2.1 rfl
     ·omega
   ·have:=rK z;omega
  have hwd:zO (sp p++si++sp q)=n:=by rw[sF,X9,hw.words hu]
  have hk:=z52 a (sp p++si++sp q) (t++r) (by rw[<-e1];exact hb) hi n hwd x1 x2 x4 x6 L (by omega);rw[<-e1]at hk;obtain⟨y6,ih⟩:=ih (a++(123::(sp p++si++sp q))++[125]) (L++[enN n]) (some (.int ((a.length+(123::(sp p++si++sp q)).length:Nat):Int))) (by rw[e1];simp) (by rw[tH];show _+1+_<_;omega);refine⟨y6,Zb ?_ hk ?_⟩
  ·rw[z2L (rJ hb) a.length 123 (by rw[e1];simp)]
   rfl
  ·rw[ih];have e2:(a++(123::(sp p++si++sp q))++[125]++t)=a++((123::(sp p++si++sp q))++125::t):=by simp
   have e3:L++[enN n]++ns.map enN=L++(n::ns).map enN:=by rw[sF];rfl
   rw[e2,e3]
def tPO:wm=zr 7 (zh (zq 1 (eL (fun ds=>.ok (.lst ds)) zb)) (zh (zq 2 (eC (.int 0))) (zh (xf KO bQ) (zp (eL yc (z8 (za 1) zb)))))):=rfl
def JX {s:List Nat}(hb:big s)(e:Nat)(x1 x3 x4 x5 x6:Option D):KO [some (.str (S s)),x1,some (.int (e:Nat)),x3,x4,x5,x6]=.ok (decide (e<s.length)):=by
 have h1:=kF hb;have h3:decide (((e:Nat):Int)<(s.length:Nat))=decide (e<s.length):=by congr 1;simp
 rw[<-h3];unfold KO;simp only[za,ze,eL,zb,z8,zi,asB,jYa,tD,tE,vx,h1]
def z6q {c:Nat}(h:okS c):pW c=true:=by
 unfold pW;rw[decide_eq_false (by simp;exact⟨h.no.1,h.no.2.2.1⟩)]
 rfl
def z6G (n:List (List Nat)):(enN n).imm=true:=qF n
def JA (ns:List (List (List Nat))):D.imms (ns.map enN)=true:=vS z6G ns
def z4e (T1 T2 T3 T4 T5 T6 T7:Tn->R Fl)(τ0 τ1 τ2 τ3 τ4 τ5 τ6 τ7:Tn)(h1:T1 τ0=.ok (.nx τ1))(h2:T2 τ1=.ok (.nx τ2))(h3:T3 τ2=.ok (.nx τ3))(h4:T4 τ3=.ok (.nx τ4))(h5:T5 τ4=.ok (.nx τ5))(h6:T6 τ5=.ok (.nx τ6))(h7:T7 τ6=.ok (.nx τ7)):zh T1 (zh T2 (zh T3 (zh T4 (zh T5 (zh T6 T7))))) τ0=.ok (.nx τ7):=by
 simp only[zh,jYa,h1,h2,h3,h4,h5,h6,h7]
def z2u (a w t m r:List Nat)(ns:List (List (List Nat)))(hb:(a++w++t++m++r).length<16777216)(hw:Wk w)(ht:LNt ns t)(hm:(m=[]/\r=[])\/(∃k,m=sp (k+1))/\∃x q,r=x::q/\okS x)(hn:ns.length<900)(L:List D)(hL:L.length<1000)(x3 x4 x5 x6:Option D):
  ∃y3 y4 y5 y6,bQ [some (.str (S (a++w++t++m++r))),some (.lst L),some (.int (a.length:Nat)),x3,x4,x5,x6]=.ok (.nx [some (.str (S (a++w++t++m++r))),some (.lst (L++[enP (w,ns)])),some (.int ((a++w++t++m).length:Nat)),y3,y4,y5,y6]):=by
 have e1:a++w++t++m++r=a++w++(t++m++r):=by simp
 have e2:a++w++t++m++r=(a++w)++t++(m++r):=by simp
 have e3:a++w++t++m++r=(a++w++t)++m++r:=rfl;have hr1:t++m++r=[]\/∃c q,t++m++r=c::q/\pW c=false:=by
  rcases ht.hd with h|⟨q,h⟩
  ·rcases hm with⟨h2,h3⟩|⟨⟨k,h2⟩,_⟩
   ·exact .inl (by rw[h,h2,h3];rfl)
   ·exact .inr ⟨32,sp k++r,by rw[h,h2];rfl,rfl⟩
  ·exact .inr ⟨123,q++m++r,by rw[h];rfl,rfl⟩
 have hr2:m++r=[]\/∃c q,m++r=c::q/\c≠123:=by
  rcases hm with⟨h2,h3⟩|⟨⟨k,h2⟩,_⟩
  ·exact .inl (by rw[h2,h3];rfl)
  ·exact .inr ⟨32,sp k++r,by rw[h2];rfl,by decide⟩
 have h1:=z0k a w (t++m++r) (by rw[<-e1];exact rJ hb) (fun c hc=>z6q (hw.ok c hc)) hr1;have h2:=JH a w (t++m++r) (by rw[<-e1];exact rJ hb);have h7:=UE (a++w++t) m r (rJ hb) (fun c hc=>by
  rcases hm with⟨h2,h3⟩|⟨⟨k,h2⟩,_⟩
  ·rw[h2]at hc;cases hc
  ·rw[h2]at hc;exact decide_eq_true (rK hc)) (by
  rcases hm with⟨h2,h3⟩|⟨_,x,q,h3,hx⟩
  ·exact .inl h3
  ·exact .inr ⟨x,q,h3,decide_eq_false hx.no.1⟩)
 rw[<-e1]at h1 h2;generalize hs:a++w++t++m++r=s at *;obtain⟨y6,h4⟩:=Ub hb hr2 (some (.lst L)) (some (.int (a.length:Nat))) (some (enW w)) ht (a++w) [] x6 e2 (by simp;omega);rw[tO]at h4;refine⟨some (.int ((a++w++t).length:Nat)),some (enW w),some (.lst (ns.map enN)),y6,?_⟩;have ew:((a++w).length:Nat)=a.length+w.length:=tH;rw[ew]at h4;have em:((a++w++t++m).length:Nat)=(a++w++t).length+m.length:=tH;rw[em];have f1:Q1 [some (.str (S s)),some (.lst L),some (.int (a.length:Nat)),x3,x4,x5,x6]=.ok (.nx [some (.str (S s)),some (.lst L),some (.int (a.length:Nat)),some (.int ((a.length+w.length:Nat):Int)),x4,x5,x6]):=by
  unfold Q1;generalize vm=G at *;generalize ((a.length+w.length:Nat):Int)=p at *;generalize ((a.length:Nat):Int)=A at *;simp only[zq,za,eL,zb,z8,jYa,tD,tE,tI,tM,h1]
 have f2:Q2 [some (.str (S s)),some (.lst L),some (.int (a.length:Nat)),some (.int ((a.length+w.length:Nat):Int)),x4,x5,x6]=.ok (.nx [some (.str (S s)),some (.lst L),some (.int (a.length:Nat)),some (.int ((a.length+w.length:Nat):Int)),some (enW w),x5,x6]):=by
  unfold Q2 enW;generalize ((a.length+w.length:Nat):Int)=p at *;generalize ((a.length:Nat):Int)=A at *;simp only[zq,za,eSl,yL,jYa,tD,tE,tI,tM,h2]
 have f3:Q3 [some (.str (S s)),some (.lst L),some (.int (a.length:Nat)),some (.int ((a.length+w.length:Nat):Int)),some (enW w),x5,x6]=.ok (.nx [some (.str (S s)),some (.lst L),some (.int (a.length:Nat)),some (.int ((a.length+w.length:Nat):Int)),some (enW w),some (.lst []),x6]):=rfl;have f5:Q5 [some (.str (S s)),some (.lst L),some (.int (a.length:Nat)),some (.int ((a++w++t).length:Nat)),some (enW w),some (.lst (ns.map enN)),y6]=.ok (.nx [some (.str (S s)),some (.lst L),some (.int (a.length:Nat)),some (.int ((a++w++t).length:Nat)),some (enW w),some (.lst (ns.map enN)),y6]):=by
  have g1:=kF (rJ hb);rcases hm with⟨q1,q2⟩|⟨⟨k,q1⟩,_⟩
  ·have g2:decide ((((a++w++t).length:Nat):Int)<(s.length:Nat))=false:=decide_eq_false (by rw[<-hs,q1,q2];simp);generalize ((s.length:Nat):Int)=l at *;generalize (((a++w++t).length:Nat):Int)=p at *;generalize ((a.length:Nat):Int)=A at *;unfold Q5;simp only[zm,zp,sIf,za,eC,ze,eL,zb,z8,zi,wo,asB,jYa,tD,tE,vx,if_false,tK,g1,g2]
  ·have hc:s[(a++w++t).length]?=some 32:=by
    rw[<-hs,q1];show ((a++w++t)++(32::sp k)++r)[(a++w++t).length]?=_;simp
   have g2:decide ((((a++w++t).length:Nat):Int)<(s.length:Nat))=true:=decide_eq_true (by have:=uJ hc;omega);have g3:=z22 (rJ hb) hc;have g4:eqR true (.str (one 32)) (.str " ")=.ok (.bl false):=by
    rw[vN,if_pos rfl];show R.ok (D.bl (!(S [32]==S [32])))=_;rw[KH];rfl
   generalize ((s.length:Nat):Int)=l at *;generalize (((a++w++t).length:Nat):Int)=p at *;generalize ((a.length:Nat):Int)=A at *;unfold Q5;simp only[zm,zp,sIf,za,eC,ze,eL,zb,z8,zi,wo,asB,jYa,tD,tE,vx,if_true,if_false,tK,g1,g2,g3,g4]
 have f6:Q6 [some (.str (S s)),some (.lst L),some (.int (a.length:Nat)),some (.int ((a++w++t).length:Nat)),some (enW w),some (.lst (ns.map enN)),y6]=.ok (.nx [some (.str (S s)),some (.lst (L++[enP (w,ns)])),some (.int (a.length:Nat)),some (.int ((a++w++t).length:Nat)),some (enW w),some (.lst (ns.map enN)),y6]):=by
  have g1:yc [.lst (ns.map enN)]=.ok (.tup (ns.map enN)):=if_pos (JA ns);have g2:JW (.tup [enW w,.tup (ns.map enN)])=.ok (.tup [enW w,.tup (ns.map enN)]):=qG (by
   show (true&&(D.imms (ns.map enN)&&true))=true;rw[JA];rfl)
  have hL:L.length<16777216:=by omega
  show _=R.ok (Fl.nx [some (.str (S s)),some (.lst (L++[.tup [enW w,.tup (ns.map enN)]])),some (.int (a.length:Nat)),some (.int ((a++w++t).length:Nat)),some (enW w),some (.lst (ns.map enN)),y6]);generalize (((a++w++t).length:Nat):Int)=p at *;generalize ((a.length:Nat):Int)=A at *;generalize enW w=W at *;generalize ns.map enN=NN at *;unfold Q6;simp only[xw,xx,wc,wb,za,eL,zb,z8,jYa,tD,tE,tI,tM,g1,g2,hL]
 have f7:Q7 [some (.str (S s)),some (.lst (L++[enP (w,ns)])),some (.int (a.length:Nat)),some (.int ((a++w++t).length:Nat)),some (enW w),some (.lst (ns.map enN)),y6]=.ok (.nx [some (.str (S s)),some (.lst (L++[enP (w,ns)])),some (.int (((a++w++t).length+m.length:Nat):Int)),some (.int ((a++w++t).length:Nat)),some (enW w),some (.lst (ns.map enN)),y6]):=by
  unfold Q7;generalize wA=G at *;generalize (((a++w++t).length+m.length:Nat):Int)=p2 at *;generalize (((a++w++t).length:Nat):Int)=p at *;generalize ((a.length:Nat):Int)=A at *;generalize L++[enP (w,ns)]=LL1 at *;simp only[zq,za,eL,zb,z8,jYa,tD,tE,tI,tM,h7]
 exact z4e Q1 Q2 Q3 (xf KN bK) Q5 Q6 Q7 _ _ _ _ _ _ _ _ f1 f2 f3 h4 f5 f6 f7
def VO {s:List Nat}(hb:s.length<16777216){ps:List Pm}{u:List Nat}(h:LL ps u):(∀p∈ps,p.2.length<900)->∀(a:List Nat) (L:List D) (x3 x4 x5 x6:Option D),s=a++u->L.length+ps.length<1000 ->
  ∃e y3 y4 y5 y6,xf KO bQ [some (.str (S s)),some (.lst L),some (.int (a.length:Nat)),x3,x4,x5,x6]=.ok (.nx [some (.str (S s)),some (.lst (L++ps.map enP)),some (.int e),y3,y4,y5,y6]):=by
 induction h with
 | @one w t ns hw ht =>
  intro hp a L x3 x4 x5 x6 e hl;have e1:s=a++w++t++[]++[]:=by rw[e];simp
  obtain⟨y3,y4,y5,y6,h1⟩:=z2u a w t [] [] ns (by rw[<-e1];exact hb) hw ht (.inl ⟨rfl,rfl⟩) (hp _ tN) L (by omega) x3 x4 x5 x6;rw[<-e1]at h1;refine⟨((a++w++t++[]).length:Nat),y3,y4,y5,y6,Zb ?_ h1 (XO ?_)⟩
  ·rw[JX (rJ hb),decide_eq_true (by rw[e];have:=hw.ge;simp;omega)]
  ·rw[JX (rJ hb),decide_eq_false (by rw[e1];simp)]
 | @cons w t u ns ps k hw ht hu ih =>
  intro hp a L x3 x4 x5 x6 e hl;rw[tF]at hl;have e1:s=a++w++t++sp (k+1)++u:=by rw[e];simp
  obtain⟨y3,y4,y5,y6,h1⟩:=z2u a w t (sp (k+1)) u ns (by rw[<-e1];exact hb) hw ht (.inr ⟨⟨k,rfl⟩,hu.hd⟩) (hp _ tN) L (by omega) x3 x4 x5 x6;rw[<-e1]at h1;obtain⟨e',z3,z4,z5,z6,h2⟩:=ih (fun p hq=>hp p (tS _ hq)) (a++w++t++sp (k+1)) (L++[enP (w,ns)]) y3 y4 y5 y6 e1 (by rw[tH];show _+1+_<_;omega);refine⟨e',z3,z4,z5,z6,Zb ?_ h1 ?_⟩
  ·rw[JX (rJ hb),decide_eq_true (by rw[e];have:=hw.ge;simp;omega)]
  ·rw[h2];have e3:L++[enP (w,ns)]++ps.map enP=L++((w,ns)::ps).map enP:=by rw[sF];rfl
   rw[e3]
def z6R (p:Pm):(enP p).imm=true:=by
 show (true&&(D.imms (p.2.map enN)&&true))=true;rw[JA];rfl
def JN {s:List Nat}(h:LL ps s)(hb:s.length<16777216)(hp:∀p∈ps,p.2.length<900)(hl:ps.length<1000):wm [.str (S s)]=.ok (.tup (ps.map enP)):=by
 obtain⟨e,y3,y4,y5,y6,h1⟩:=VO hb h hp [] [] none none none none rfl (by simpa using hl);have h1:xf KO bQ [some (.str (S s)),some (.lst []),some (.int 0),none,none,none,none]=.ok (.nx [some (.str (S s)),some (.lst (ps.map enP)),some (.int e),y3,y4,y5,y6]):=h1;have t1:yc [.lst (ps.map enP)]=.ok (.tup (ps.map enP)):=if_pos (vS z6R ps);rw[tPO];simp only[zr,zh,zq,zp,za,eC,eL,zb,z8,jYa,tG,tX,tF,tR,sA,tJ,tQ,tO,tD,tE,tI,tM,Nat.reduceSub,tY,h1,t1]
inductive Bm
 | leaf
 | head (ws:List (List Nat))
 | text (ps:List Pm)
 | table (rs:List (List (List (List Nat))))
def enC (c:List (List Nat)):D:=.tup (c.map enW)
def enR (r:List (List (List Nat))):D:=.tup (r.map enC)
def enB:Bm->D
 | .leaf=>.tup [.str "leaf"]
 | .head ws=>.tup [.str "head",.tup (ws.map enW)]
 | .text ps=>.tup [.str "text",.tup (ps.map enP)]
 | .table rs=>.tup [.str "table",.tup (rs.map enR)]
def jy (r q:List Nat):Txt.startswith (S r) (S q)=(decide (q.length<=r.length)&&(r.take q.length==q)):=by
 unfold Txt.startswith;rw[StrLaws.subAt_eq,xC,xC,uc,uc,List.drop_zero,tY]
def z3N (r q:List Nat):Txt.endswith (S r) (S q)=(decide (q.length<=r.length)&&((r.drop (r.length-q.length)).take q.length==q)):=by
 unfold Txt.endswith;rw[StrLaws.subAt_eq,xC,xC,uc,uc,tY]
def itr (r:List Nat):Bool:=decide (((r.length:Nat):Int)>1)&&(Txt.startswith (S r) (S [124])&&Txt.endswith (S r) (S [124]))
def XU {r:List Nat}(hb:big r):yB [enW r]=.ok (.bl (itr r)):=by
 have h1:=kF hb;have h2:xE (S r) [.str "|"]=.ok (.bl (Txt.startswith (S r) (S [124]))):=rfl;have h3:vM (S r) [.str "|"]=.ok (.bl (Txt.endswith (S r) (S [124]))):=rfl;unfold itr enW;generalize Txt.startswith (S r) (S [124])=b at *;generalize Txt.endswith (S r) (S [124])=c at *;generalize ((r.length:Nat):Int)=l at *;generalize S r=Z at *;unfold yB qI;cases h4:decide (l>1)
 ·simp only[zr,zp,za,eC,ze,eL,zb,z8,vT,asB,jYa,tG,tX,tF,tR,tJ,tQ,tO,tD,Nat.reduceSub,tY,vE,if_false,tK,yD,yC,h1,h4,pJ]
 ·cases b
  ·simp only[zr,zp,za,eC,ze,eL,zb,z8,vT,asB,jYa,tG,tX,tF,tR,tJ,tQ,tO,tD,Nat.reduceSub,tY,vE,if_true,if_false,tK,yD,yC,h1,h2,h4,pJ,Bool.true_and]
  ·simp only[zr,zp,za,eC,ze,eL,zb,z8,vT,asB,jYa,tG,tX,tF,tR,tJ,tQ,tO,tD,Nat.reduceSub,tY,vE,if_true,yD,yC,h1,h2,h3,h4,Bool.true_and]
def Uv (rows:List (List Nat))(q:List Nat):eqR false (.lst (rows.map enW)) (.lst [enW q])=.ok (.bl (decide (rows=[q]))):=by
 show (match (if (rows.map enW).length=[enW q].length then xa (eqF 11) (rows.map enW) [enW q] else some false)with|some b=>R.ok (D.bl (if false=true then !b else b))|none=>.bad)=_;rcases rows with _|⟨r,_|⟨r2,rows⟩⟩
 ·rw[if_neg (by simp),decide_eq_false (by simp)];rfl
 ·rw[if_pos (show (List.map enW [r]).length=[enW q].length from rfl)];have e:eqF 11 (enW r) (enW q)=some (S r==S q):=rfl;have e2:xa (eqF 11) ([r].map enW) [enW q]=some (S r==S q):=by
   show xa (eqF 11) [enW r] [enW q]=_;unfold xa;rw[e];unfold xa;cases (S r==S q)<;>rfl
  rw[e2,KH];have:decide ([r]=[q])=decide (r=q):=by congr 1;simp
  rw[this]
  rfl
 ·rw[if_neg (by simp),decide_eq_false (by simp)];rfl
def Vy (rows:List (List Nat))(hl:rows.length<=1000000)(hb:∀r∈rows,big r):∃L,yQ (ya (Tgt.one 0).asg (fun _=>.ok true) (eL yB (z8 (za 0) zb)) [none]) (rows.map enW)=.ok L/\uz L=.ok (.lst L)/\vP [.lst L]=.ok (.bl (rows.all itr)):=by
 have k1:yQ (ya (Tgt.one 0).asg (fun _=>.ok true) (eL yB (z8 (za 0) zb)) [none]) (rows.map enW)=.ok (rows.filterMap fun r=>some (D.bl (itr r))):=ym fun r hr=>by
  have h:=XU (hb r hr);unfold ya;simp only[za,eL,zb,z8,Tgt.asg,jYa,tD,tI,if_true,yz,h]
 rw[xv]at k1;refine⟨_,k1,xt (by rw[tU];omega),?_⟩;have e:(rows.map fun r=>D.bl (itr r))=(rows.map itr).map D.bl:=by rw[sR];rfl
 rw[e,Zh,hZ]
 rfl
def VU:yb [.lst ([[126]].map enW)]=.ok (enB .leaf):=by
 have h:=Uv [[126]] [126];rw[decide_eq_true rfl]at h;have h:eqR false (.lst ([[126]].map enW)) (.lst [.str "~"])=.ok (.bl true):=h;unfold yb qc enB;generalize yK=G1 at *;generalize yB=G2 at *;generalize xG=G3 at *;generalize wm=G4 at *;generalize ([[126]]:List (List Nat)).map enW=RR at *;simp only[zI,yt,yw,zm,zr,zh,zp,sIf,za,eC,ze,eL,zb,z8,zi,wo,eSl,xD,yL,zQ,asB,jYa,tG,tX,tF,tR,tJ,tQ,tO,tD,Nat.reduceSub,tY,if_true,h]
def Uo (s:List Nat)(ws:List (List Nat))(hb:(61::32::s).length<16777216)(hw:zO (32::s)=ws):yb [.lst ([61::32::s].map enW)]=.ok (enB (.head ws)):=by
 have h:=Uv [61::32::s] [126];rw[decide_eq_false (by simp)]at h;have h:eqR false (.lst [enW (61::32::s)]) (.lst [.str "~"])=.ok (.bl false):=h;have h2:xE (S (61::32::s)) [.str "= "]=.ok (.bl true):=by
  show R.ok (D.bl (Txt.startswith (S (61::32::s)) (S [61,32])))=_;rw[jy,decide_eq_true (by simp)]
  rfl
 have h3:=z6V 61 (32::s) (rJ hb);have h4:=ZC (s:=32::s) (by rw[tF]at hb;omega);rw[hw]at h4;have h5:eqR false (.int 1) (.int 1)=.ok (.bl true):=by rw[zZ];rfl
 show yb [.lst [enW (61::32::s)]]=.ok (.tup [.str "head",.tup (ws.map enW)]);have hl:yE [.lst [enW (61::32::s)]]=.ok (.int 1):=rfl;have hx:ixD (.lst [enW (61::32::s)]) (.int 0)=.ok (.str (S (61::32::s))):=z0U;unfold yb qc;simp only[zI,yt,yw,zm,zr,zh,zp,sIf,za,eC,ze,eL,zb,z8,zi,wo,eSl,xD,yL,zQ,asB,jYa,tG,tX,tF,tR,tJ,tQ,tO,tD,Nat.reduceSub,tY,if_true,if_false,tK,yD,yC,h,hl,hx,h2,h3,h4,h5]
def WX (x:Nat)(r:List Nat)(rest:List (List Nat))(hx:x≠126/\x≠61)(hl:(x::r).length<=16777215)(d:D)(b:Bool)(L:List D)(k1:yQ (ya (Tgt.one 0).asg (fun _=>.ok true) (eL yB (z8 (za 0) zb)) [none]) (((x::r)::rest).map enW)=.ok L)(k2:uz L=.ok (.lst L))(k3:vP [.lst L]=.ok (.bl b))
  (ht:b=true->∃M,yQ (ya (Tgt.one 0).asg (fun _=>.ok true) (eL xG (z8 (za 0) zb)) [none]) (((x::r)::rest).map enW)=.ok M/\uz M=.ok (.lst M)/\yc [.lst M]=.ok d) (hp:b=false->∃z,y9 " " [.lst (((x::r)::rest).map enW)]=.ok (.str z)/\wm [.str z]=.ok d):
  yb [.lst (((x::r)::rest).map enW)]=.ok (.tup [.str (if b=true then "table" else "text"),d]):=by
 have h:=Uv ((x::r)::rest) [126];rw[decide_eq_false (by
  intro z;injection z with z1 z2;injection z1 with z3 z4;exact hx.1 z3)]at h
 have h:eqR false (.lst (((x::r)::rest).map enW)) (.lst [.str "~"])=.ok (.bl false):=h;have h2:xE (S (x::r)) [.str "= "]=.ok (.bl false):=by
  show R.ok (D.bl (Txt.startswith (S (x::r)) (S [61,32])))=_;rw[jy];have:(((x::r).take [61,32].length)==[61,32])=false:=beq_false_of_ne (by
   intro z;have z:x::r.take 1=[61,32]:=z;injection z with z1 z2;exact hx.2 z1)
  rw[this,pQ]
 have hlen:yE [.lst (((x::r)::rest).map enW)]=.ok (.int ((rest.length+1:Nat):Int)):=by
  show R.ok (D.int ((((x::r)::rest).map enW).length:Nat))=_;rw[tU,tF]
 have hix:ixD (.lst (((x::r)::rest).map enW)) (.int 0)=.ok (.str (S (x::r))):=z0U;have h5:eqR false (.int ((rest.length+1:Nat):Int)) (.int 1)=.ok (.bl (((rest.length+1:Nat):Int)==1)):=by rw[zZ,if_neg sJ]
 generalize (((rest.length+1:Nat):Int)==1)=q at *;generalize ((rest.length+1:Nat):Int)=l at *;generalize S (x::r)=Z at *;generalize ((x::r)::rest).map enW=RR at *;unfold yb qc;generalize yK=G1 at *;generalize yB=G2 at *;generalize xG=G3 at *;generalize wm=G4 at *;generalize vP=al at *;generalize yc=tu at *;cases b
 ·obtain⟨z,p1,p2⟩:=hp rfl;cases q<;>simp only[zI,yt,yw,zm,zr,zh,zp,sIf,za,eC,ze,eL,zb,z8,zi,wo,eSl,xD,yL,zQ,asB,xk,jYa,tG,tX,tF,tR,tJ,tQ,tO,tD,Nat.reduceSub,tY,if_true,if_false,tK,yD,yC,h,hlen,hix,h2,h5,k1,k2,k3,p1,p2]
 ·obtain⟨M,m1,m2,m3⟩:=ht rfl;cases q<;>simp only[zI,yt,yw,zm,zr,zh,zp,sIf,za,eC,ze,eL,zb,z8,zi,wo,eSl,xD,yL,zQ,asB,xk,jYa,tG,tX,tF,tR,tJ,tQ,tO,tD,Nat.reduceSub,tY,if_true,if_false,tK,yD,yC,h,hlen,hix,h2,h5,k1,k2,k3,m1,m2,m3]
def z25 {m:List Nat}:itr (124::(m++[124]))=true:=by
 unfold itr;rw[jy,z3N,decide_eq_true (by simp;omega),decide_eq_true (by simp)];have e1:((124::(m++[124])).take [124].length==[124])=true:=by simp
 have e2:(((124::(m++[124])).drop ((124::(m++[124])).length-[124].length)).take [124].length==[124])=true:=by
  have:(124::(m++[124])).length-[124].length=(124::m).length:=by simp
  rw[this];have:124::(m++[124])=(124::m)++[124]:=rfl;rw[this,List.drop_left];simp
 rw[e1,e2]
 rfl
def z2Z {x:Nat}{r:List Nat}(hx:x≠124):itr (x::r)=false:=by
 unfold itr;rw[jy];have:(((x::r).take [124].length)==[124])=false:=beq_false_of_ne (by
  intro z;have z:[x]=[124]:=z;injection z with z1 z2;exact hx z1)
 rw[this,pQ,pJ,pQ]
def Uw (ps:List Pm)(rows:List (List Nat))(hl:rows.length<=1000000)(hb:∀r∈rows,r.length<=16777215)(h1:∃x r rest,rows=(x::r)::rest/\okS x)(hj:(rows.map List.length).sum+rows.length<=16777215)(h:LL ps (jn [32] rows))(hp:∀p∈ps,p.2.length<900)(hps:ps.length<1000):yb [.lst (rows.map enW)]=.ok (enB (.text ps)):=by
 obtain⟨x,r,rest,rfl,hx⟩:=h1;obtain⟨L,k1,k2,k3⟩:=Vy ((x::r)::rest) hl (fun q hq=>by have:=hb q hq;show _<=_;omega);rw[pO,z2Z hx.no.2.2.2.2.1,pJ]at k3;have hjo:=vD [32] ((x::r)::rest) (by show _+_*1<=_;omega);have hjl:(jn [32] ((x::r)::rest)).length<16777216:=by
  have:=um [32] ((x::r)::rest);have e:[32].length=1:=rfl;rw[e]at this;omega
 exact WX x r rest ⟨hx.no.2.2.2.2.2.2,hx.no.2.2.2.2.2.1⟩ (hb _ tN) _ false L k1 k2 k3 (fun z=>by cases z) (fun _=>⟨_,hjo,JN h hjl hp hps⟩)
def V6 (c:List Nat):∀(xs:List (List Nat)),∀x∈xs,x.length<=(jn c xs).length
 | [],x,h=>by cases h
 | [a],x,h=>by rw[sG.mp h];exact sL _
 | a::b::r,x,h=>by
  show _<=(a++c++jn c (b::r)).length;rw[tH,tH];rcases sI.mp h with z|z
  ·rw[z];omega
  ·have:=V6 c (b::r) x z;omega
def z5P (c:List Nat)(hc:1<=c.length):∀(xs:List (List Nat)),xs.length<=(jn c xs).length+1
 | []=>by simp[jn]
 | [a]=>by simp
 | a::b::r=>by
  have:=z5P c hc (b::r);show _<=(a++c++jn c (b::r)).length+1;rw[tH,tH,tF];omega
def yu (cs:List (List Nat)):List Nat:=124::(jn [124] cs++[124])
def z6r (c:List (List Nat)):(enC c).imm=true:=qF c
def z0v (cs:List (List Nat))(hne:cs≠[])(hc:∀c∈cs,124∉c)(hb:(yu cs).length<16777216):xG [enW (yu cs)]=.ok (enR (cs.map zO)):=by
 have hj:(jn [124] cs).length<16777214:=by
  have:(yu cs).length=(jn [124] cs).length+2:=by unfold yu;simp
  omega
 have h1:=z4W 124 124 (jn [124] cs) (rJ hb);have h2:=jS 124 (s:=jn [124] cs) (by omega);rw[ZY hne hc]at h2;have h2:xM (S (jn [124] cs)) [.str "|"]=.ok (.lst (cs.map enW)):=h2;have k1:yQ (ya (Tgt.one 0).asg (fun _=>.ok true) (eL yK (z8 (za 0) zb)) [none]) (cs.map enW)=.ok (cs.filterMap fun c=>some (enC (zO c))):=ym fun c hcm=>by
  have h:=ZC (s:=c) (by have:=V6 [124] cs c hcm;omega);have h:yK [enW c]=.ok (enC (zO c)):=h;unfold ya;simp only[za,eL,zb,z8,Tgt.asg,jYa,tD,tI,if_true,yz,h]
 rw[xv]at k1;have hn:=z5P [124] (by decide) cs;have i1:uz (cs.map fun c=>enC (zO c))=.ok (.lst (cs.map fun c=>enC (zO c))):=xt (by rw[tU];omega);have t1:yc [.lst (cs.map fun c=>enC (zO c))]=.ok (.tup (cs.map fun c=>enC (zO c))):=if_pos (vS (fun c=>z6r (zO c)) cs);have e:enR (cs.map zO)=.tup (cs.map fun c=>enC (zO c)):=by unfold enR;rw[sR];rfl
 rw[e];show xG [.str (S (124::(jn [124] cs++[124])))]=_;unfold xG ZV;simp only[zI,yt,yw,zr,zp,za,eC,eUn,eL,zb,z8,eSl,yL,zQ,xk,jYa,tG,tX,tF,tR,tJ,tQ,tO,tD,Nat.reduceSub,tY,Ud,Int.reduceNeg,yD,yC,h1,h2,k1,i1,t1]
def z6y (r:List (List (List Nat))):(enR r).imm=true:=vS z6r r
def WM (rs:List (List (List Nat)))(hne:rs≠[])(hl:rs.length<=1000)(h:∀cs∈rs,cs≠[]/\(∀c∈cs,124∉c)/\(yu cs).length<16777215):yb [.lst ((rs.map yu).map enW)]=.ok (enB (.table (rs.map fun cs=>cs.map zO))):=by
 cases rs with
 | nil=>exact absurd rfl hne
 | cons c0 rest =>
  have hr:((c0::rest).map yu)=(124::(jn [124] c0++[124]))::rest.map yu:=rfl;obtain⟨L,k1,k2,k3⟩:=Vy ((c0::rest).map yu) (by rw[tU];omega) (fun q hq=>by
   obtain⟨cs,hcs,rfl⟩:=rN.mp hq;have:=(h cs hcs).2.2;show _<=_;omega)
  have ha:((c0::rest).map yu).all itr=true:=by
   rw[rX];intro q hq;obtain⟨cs,hcs,rfl⟩:=rN.mp hq;exact z25
  rw[ha]at k3;have m1:yQ (ya (Tgt.one 0).asg (fun _=>.ok true) (eL xG (z8 (za 0) zb)) [none]) ((c0::rest).map fun cs=>enW (yu cs))=.ok ((c0::rest).filterMap fun cs=>some (enR (cs.map zO))):=ym fun cs hcs=>by
   obtain⟨q1,q2,q3⟩:=h cs hcs;have h:=z0v cs q1 q2 (by omega);unfold ya;simp only[za,eL,zb,z8,Tgt.asg,jYa,tD,tI,if_true,yz,h]
  rw[xv]at m1;have e:((c0::rest).map yu).map enW=(c0::rest).map fun cs=>enW (yu cs):=by rw[sR];rfl
  have e2:enB (.table ((c0::rest).map fun cs=>cs.map zO))=.tup [.str "table",.tup ((c0::rest).map fun cs=>enR (cs.map zO))]:=by
   show D.tup [.str "table",.tup (((c0::rest).map fun cs=>cs.map zO).map enR)]=_;rw[sR]
   rfl
  rw[e2];rw[<-e]at m1;rw[hr]at k1 m1 ⊢;exact WX 124 _ _ ⟨by decide,by decide⟩ (by have:=(h c0 tN).2.2;unfold yu at this;omega) _ true L k1 k2 k3 (fun _=>⟨_,m1,xt (by rw[tU];omega),J0 (vS (f:=fun cs:List (List Nat)=>enR (cs.map zO)) (fun cs=>z6y (cs.map zO)) _)⟩) (fun z=>by cases z)
def wU (st:List (List (List Nat))×Bool)(row:List Nat):List (List (List Nat))×Bool:=
 if zN row=[] then (st.1,false) else if st.2=true then (st.1.dropLast++[(st.1.getLast?.getD [])++[zN row]],true) else (st.1++[[zN row]],true)
abbrev Rn:Type:=Int×List (List Nat)
def wJ (r:Rn):D:=.tup [.int r.1,.lst (r.2.map enW)]
def tRU:vq=zr 6 (zh (zq 1 (eL (fun ds=>.ok (.lst ds)) zb)) (zh (zq 2 (eC (.bl false))) (zh (yY (iL ZE (z8 (eSm xM (za 0) (z8 (eC (.str "\n")) zb)) zb)) (.many [3,4]) bRn) (zp (za 1))))):=rfl
def Ql {s:List Nat}(h:big s):qA (S s) [.str " "]=.ok (.str (S (zN s))):=by
 have e:qA (S s) [.str " "]=.ok (.str (Txt.stripChars (S s) (S [32]))):=if_pos (by rw[xC,sizeLine_eq];exact h);rw[e,z1I]
def z32 (s:List Nat):eqR true (.str (S s)) (.str "")=.ok (.bl (!decide (s=[]))):=by
 show eqR true (.str (S s)) (.str (S []))=_;rw[vN,if_pos rfl,KH]
def Y8 (z:Str)(A:List D)(n:D)(ws:List D)(h:ws.length<16777216):qr z (A++[.tup [n,.lst ws]])=some (A++[.tup [n,.lst (ws++[.str z])]]):=by
 induction A with
 | nil =>
  show (Zv z (.tup [n,.lst ws])).map (fun e=>[e])=_;have:Zv z (.tup [n,.lst ws])=some (.tup [n,.lst (ws++[.str z])]):=if_pos (by rw[sizeLine_eq];exact h);rw[this]
  rfl
 | cons a A ih =>
  cases A with
  | nil=>
   show (qr z ([]++[.tup [n,.lst ws]])).map (a::·)=_;rw[ih];rfl
  | cons b A =>
   show (qr z ((b::A)++[.tup [n,.lst ws]])).map (a::·)=_;rw[ih];rfl
def z3K (n:Int)(row:List Nat)(hb:big row)(G:List Rn)(w:Bool)(hw:w=true->G≠[])(hG:G.length<16777216)(hG2:∀g∈G,g.2.length<16777216)(x0 x5:Option D):∃G' w' y5,
  bRn [x0,some (.lst (G.map wJ)),some (.bl w),some (.int n),some (enW row),x5]=.ok (.nx [x0,some (.lst (G'.map wJ)),some (.bl w'),some (.int n),some (enW row),y5])/\(G'.map (·.2),w')=wU (G.map (·.2),w) row/\(w'=true->G'≠[])/\G'.length<=G.length+1/\(∀k,(∀g∈G,g.2.length<=k)->∀g∈G',g.2.length<=k+1):=by
 have h1:=Ql hb;have h2:=z32 (zN row)
 by_cases he:zN row=[]
 ·rw[decide_eq_true he]at h2;have h2:eqR true (.str (S (zN row))) (.str "")=.ok (.bl false):=h2;refine⟨G,false,some (.str (S (zN row))),?_,?_,(fun z=>by cases z),(by omega),fun k hk g hg=>Nat.le_succ_of_le (hk g hg)⟩
  ·unfold enW;generalize G.map wJ=GG at *;generalize S (zN row)=Y at *;generalize S row=Z at *;unfold bRn;simp only[xw,xx,wb,Zd,zm,zh,zq,sIf,za,eC,ze,eL,zb,z8,zi,wo,yh,asB,jYa,tD,tE,tI,tM,if_false,tK,yD,yC,h1,h2]
  ·unfold wU;rw[if_pos he]
 ·rw[decide_eq_false he]at h2;have h2:eqR true (.str (S (zN row))) (.str "")=.ok (.bl true):=h2;cases w with
  | false =>
   refine⟨G++[(n,[zN row])],true,some (.str (S (zN row))),?_,?_,(fun _ z=>by simp at z),(by simp),fun k hk g hg=>?_⟩
   ·have hl:(G.map wJ).length<16777216:=by rw[tU];exact hG
    have h3:=Y8 (S (zN row)) (G.map wJ) (.int n) [] (by decide);have e:(G++[(n,[zN row])]).map wJ=G.map wJ++[.tup [.int n,.lst ([]++[.str (S (zN row))])]]:=by rw[rA];rfl
    rw[e];generalize (G.map wJ++[D.tup [.int n,.lst ([]++[.str (S (zN row))])]])=G2 at *;unfold enW;have h4:∀x0 x3 x4,uX 1 5 [x0,some (.lst (G.map wJ++[.tup [.int n,.lst []]])),some (.bl true),x3,x4,some (.str (S (zN row)))]=.ok (.nx [x0,some (.lst G2),some (.bl true),x3,x4,some (.str (S (zN row)))]):=fun x0 x3 x4=>by
     unfold uX;show (match qr (S (zN row)) (G.map wJ++[D.tup [.int n,.lst []]])with|some es=>R.ok (Fl.nx (List.set [x0,some (D.lst (G.map wJ++[D.tup [.int n,.lst []]])),some (D.bl true),x3,x4,some (D.str (S (zN row)))] 1 (some (D.lst es))))|none=>R.bad)=_;rw[h3]
     rfl
    generalize G.map wJ=GG at *;generalize S (zN row)=Y at *;generalize S row=Z at *;unfold bRn;generalize uX 1 5=SA at *;simp only[xw,xx,wc,wb,Zd,zm,zh,zq,sIf,za,eC,ze,eL,zb,z8,zi,wo,yh,asB,jYa,tD,tE,tI,tM,if_true,yD,yC,h1,h2,hl,h4,rP]
   ·unfold wU;rw[if_neg he];simp
   ·rcases sC.mp hg with z|z
    ·exact Nat.le_succ_of_le (hk g z)
    ·rw[sG.mp z];show 1<=_;omega
  | true =>
   have hne:=hw rfl;obtain⟨A,g0,rfl⟩:∃A g0,G=A++[g0]:=⟨G.dropLast,G.getLast hne,(rO hne).symm⟩
   obtain⟨n0,rs0⟩:=g0;refine⟨A++[(n0,rs0++[zN row])],true,some (.str (S (zN row))),?_,?_,(fun _ z=>by simp at z),(by simp),fun k hk g hg=>?_⟩
   ·have h3:=Y8 (S (zN row)) (A.map wJ) (.int n0) (rs0.map enW) (by rw[tU];exact hG2 (n0,rs0) (by simp));have e:(A++[(n0,rs0++[zN row])]).map wJ=A.map wJ++[.tup [.int n0,.lst (rs0.map enW++[.str (S (zN row))])]]:=by
     rw[rA];show _++[D.tup [.int n0,.lst ((rs0++[zN row]).map enW)]]=_;rw[rA]
     rfl
    have e0:(A++[(n0,rs0)]).map wJ=A.map wJ++[.tup [.int n0,.lst (rs0.map enW)]]:=by rw[rA];rfl
    rw[e,e0];generalize A.map wJ++[D.tup [.int n0,.lst (rs0.map enW++[.str (S (zN row))])]]=G2 at *;unfold enW;have h4:∀x0 x3 x4,uX 1 5 [x0,some (.lst (A.map wJ++[.tup [.int n0,.lst (rs0.map enW)]])),some (.bl true),x3,x4,some (.str (S (zN row)))]=.ok (.nx [x0,some (.lst G2),some (.bl true),x3,x4,some (.str (S (zN row)))]):=fun x0 x3 x4=>by
     unfold uX;show (match qr (S (zN row)) (A.map wJ++[D.tup [.int n0,.lst (rs0.map enW)]])with|some es=>R.ok (Fl.nx (List.set [x0,some (D.lst (A.map wJ++[D.tup [.int n0,.lst (rs0.map enW)]])),some (D.bl true),x3,x4,some (D.str (S (zN row)))] 1 (some (D.lst es))))|none=>R.bad)=_;rw[h3]
     rfl
    unfold enW at h4;generalize A.map wJ++[D.tup [.int n0,.lst (rs0.map fun s=>D.str (S s))]]=GG at *;generalize S (zN row)=Y at *;generalize S row=Z at *;unfold bRn;generalize uX 1 5=SA at *;simp only[xw,xx,wb,Zd,zm,zh,zq,sIf,za,eC,ze,eL,zb,z8,zi,wo,yh,asB,jYa,tD,tE,tI,tM,if_true,if_false,tK,yD,yC,h1,h2,h4,sT]
   ·unfold wU;rw[if_neg he,if_pos rfl];simp
   ·rcases sC.mp hg with z|z
    ·exact Nat.le_succ_of_le (hk g (sE _ z))
    ·rw[sG.mp z];have:=hk (n0,rs0) (by simp);show (rs0++[zN row]).length<=_;rw[tH];exact Nat.succ_le_succ this
def YR (x0:Option D):∀(rows:List (List Nat)) (n:Nat) (G:List Rn) (w:Bool) (y3 y4 y5:Option D) (k:Nat),(∀r∈rows,big r)->(w=true->G≠[])->G.length+rows.length<16777216->(∀g∈G,g.2.length<=k)->k+rows.length<16777216 ->
  ∃(G':List Rn) (w':Bool) (z3 z4 z5:Option D),xK (Tgt.many [3,4]).asg bRn (v5 n (rows.map enW)) [x0,some (.lst (G.map wJ)),some (.bl w),y3,y4,y5]=.ok (.nx [x0,some (.lst (G'.map wJ)),some (.bl w'),z3,z4,z5])/\(G'.map (·.2),w')=rows.foldl wU (G.map (·.2),w)
 | [],n,G,w,y3,y4,y5,k,_,_,_,_,_=>⟨G,w,y3,y4,y5,rfl,rfl⟩
 | row::rows,n,G,w,y3,y4,y5,k,hb,hw,hG,hk,hk2=>by
  rw[tF]at hG hk2;obtain⟨G1,w1,z5,e1,e2,e3,e4,e5⟩:=z3K ((n:Nat):Int) row (hb row tN) G w hw (by omega) (fun g hg=>by have:=hk g hg;omega) x0 y5;obtain⟨G2,w2,u3,u4,u5,f1,f2⟩:=YR x0 rows (n+1) G1 w1 (some (.int ((n:Nat):Int))) (some (enW row)) z5 (k+1) (fun r hr=>hb r (tS _ hr)) e3 (by omega) (e5 k hk) (by omega);refine⟨G2,w2,u3,u4,u5,?_,?_⟩
  ·show xK (Tgt.many [3,4]).asg bRn (.tup [.int ((n:Nat):Int),enW row]::v5 (n+1) (rows.map enW)) _=_;have ha:(Tgt.many [3,4]).asg (.tup [.int ((n:Nat):Int),enW row]) [x0,some (.lst (G.map wJ)),some (.bl w),y3,y4,y5]=.ok [x0,some (.lst (G.map wJ)),some (.bl w),some (.int ((n:Nat):Int)),some (enW row),y5]:=rfl;rw[uT,ha,jYa,e1,jYa,j3];exact f1
  ·rw[pF,<-e2];exact f2
def z29 {s:List Nat}(hb:s.length<16777000):∃G:List Rn,vq [.str (S s)]=.ok (.lst (G.map wJ))/\G.map (·.2)=((spl 10 s).foldl wU ([],false)).1:=by
 have h1:=jS 10 (s:=s) (by omega);have h1:xM (S s) [.str "\n"]=.ok (.lst ((spl 10 s).map enW)):=h1;have hn:=Z6 10 s;have hj:=uo 10 s;obtain⟨G,w,z3,z4,z5,e1,e2⟩:=YR (some (.str (S s))) (spl 10 s) 0 [] false none none none 0 (fun r hr=>by
  have:=V6 [10] (spl 10 s) r hr;rw[hj]at this;show _<=_;omega) (fun z=>by cases z) (by simp;omega) (fun g hg=>by cases hg) (by omega)
 refine⟨G,?_,congrArg Prod.fst e2⟩;have e1:xK (Tgt.many [3,4]).asg bRn (v5 0 ((spl 10 s).map enW)) [some (.str (S s)),some (.lst []),some (.bl false),none,none,none]=.ok (.nx [some (.str (S s)),some (.lst (G.map wJ)),some (.bl w),z3,z4,z5]):=e1;have hen:ZE [.lst ((spl 10 s).map enW)]=.ok (v5 0 ((spl 10 s).map enW)):=KQ;have eF:yY (iL ZE (z8 (eSm xM (za 0) (z8 (eC (.str "\n")) zb)) zb)) (.many [3,4]) bRn [some (.str (S s)),some (.lst []),some (.bl false),none,none,none]=_:=vj (by simp only[za,eC,zb,z8,iL,jYa,tD,yD,yC,h1,hen]) e1;rw[tRU];simp only[zr,zh,zq,zp,za,eC,eL,zb,jYa,tG,tX,tF,tR,sA,tJ,tQ,tO,tD,tE,tI,tM,Nat.reduceSub,tY,eF]
def tRD:vA=zr 6 (zh (sIf (yh (zi (eUn (xO "str") (za 0)))) z00 zm) (zh (zq 1 (eL (fun ds=>.ok (.lst ds)) zb)) (zh (zq 2 (eC (.int 0))) (zh (yY (zQ (eL vq (z8 (za 0) zb))) (.many [3,4]) bRd) (zp (za 1)))))):=rfl
def z41 (rows:List (List Nat))(d:D)(n:Nat)(h:yb [.lst (rows.map enW)]=.ok d)(hb:Bk d n)(L:List D)(m:Nat)(hL:L.length<40)(hm:m+n<=60)(x0 x3 x5:Option D):
  bRd [x0,some (.lst L),some (.int (m:Nat)),x3,some (.lst (rows.map enW)),x5]=.ok (.nx [x0,some (.lst (L++[d])),some (.int ((m+n:Nat):Int)),x3,some (.lst (rows.map enW)),some d]):=by
 have h1:=hb.yes;have h2:=hb.many;have h3:eqR false (.int (L.length:Nat)) (.int 40)=.ok (.bl false):=by
  rw[zZ,if_neg sJ,beq_false_of_ne (by omega)]
 have h4:decide (((m:Nat):Int)+(n:Nat)>60)=false:=decide_eq_false (by omega);have h5:=qG hb.imm;have hl:yE [.lst L]=.ok (.int (L.length:Nat)):=rfl;have h6:ub (.int (m:Nat)) (.int (n:Nat))=.ok (.int ((m:Nat)+(n:Nat))):=rfl;have hL:L.length<16777216:=by omega
 have e:((m+n:Nat):Int)=((m:Nat):Int)+(n:Nat):=by omega
 rw[e];unfold bRd;simp only[xw,xx,wc,wb,zm,zh,zq,sIf,kq,za,eC,ze,eL,zb,z8,zi,bOr,yh,asB,jYa,tD,tE,tI,tM,vE,if_false,tK,h,h1,h2,hl,h3,h4,h5,h6,hL,sT]
def Xc (x0:Option D):∀(its:List (Rn×D)) (acc:List D) (y3 y4 y5:Option D),(∀it∈its,yb [.lst (it.1.2.map enW)]=.ok it.2/\∃n,Bk it.2 n)->(acc++its.map (·.2)).length<=40->bns (acc++its.map (·.2))<=60 ->
  ∃e z3 z4 z5,xK (Tgt.many [3,4]).asg bRd (its.map fun it=>wJ it.1) [x0,some (.lst acc),some (.int ((bns acc:Nat):Int)),y3,y4,y5]=.ok (.nx [x0,some (.lst (acc++its.map (·.2))),some (.int e),z3,z4,z5])
 | [],acc,y3,y4,y5,_,_,_=>⟨_,y3,y4,y5,by rw[tX,tX,tZ];rfl⟩
 | it::its,acc,y3,y4,y5,h,hl,hn=>by
  obtain⟨h1,n,h2⟩:=h it tN;have e:acc++(it::its).map (·.2)=(acc++[it.2])++its.map (·.2):=by rw[sF];rfl
  rw[e]at hl hn;have hb1:bns (acc++[it.2])=bns acc+n:=by rw[Qw,h2.bn]
  have hle:bns (acc++[it.2])<=bns ((acc++[it.2])++its.map (·.2)):=by
   unfold bns;rw[rA (l₁:=acc++[it.2]),List.sum_append];omega
  have hlen:acc.length<40:=by rw[tH,tH]at hl;simp at hl;omega
  have hk:=z41 it.1.2 it.2 n h1 h2 acc (bns acc) hlen (by omega) x0 (some (.int it.1.1)) y5;rw[<-hb1]at hk;obtain⟨e',z3,z4,z5,f⟩:=Xc x0 its (acc++[it.2]) (some (.int it.1.1)) (some (.lst (it.1.2.map enW))) (some it.2) (fun x hx=>h x (tS _ hx)) hl hn;refine⟨e',z3,z4,z5,?_⟩;rw[tG,e];have ha:(Tgt.many [3,4]).asg (wJ it.1) [x0,some (.lst acc),some (.int ((bns acc:Nat):Int)),y3,y4,y5]=.ok [x0,some (.lst acc),some (.int ((bns acc:Nat):Int)),some (.int it.1.1),some (.lst (it.1.2.map enW)),y5]:=rfl;rw[uT,ha,jYa,hk,jYa,j3];exact f
def Kl:∀(G:List Rn) (ps:List (List (List Nat)×D)),G.map (·.2)=ps.map (·.1)->∃its:List (Rn×D),its.map (·.1)=G/\its.map (·.2)=ps.map (·.2)/\∀it∈its,(it.1.2,it.2)∈ps
 | [],[],_=>⟨[],rfl,rfl,fun it h=>by cases h⟩
 | [],_::_,h=>by cases h
 | _::_,[],h=>by cases h
 | g::G,p::ps,h=>by
  injection h with h1 h2;have h1:g.2=p.1:=h1;obtain⟨its,e1,e2,e3⟩:=Kl G ps h2;refine⟨(g,p.2)::its,by rw[tG,e1],by rw[tG,e2];rfl,fun it hit=>?_⟩;rcases sI.mp hit with z|z
  ·subst z;show (g.2,p.2)∈_;rw[h1];exact tN
  ·exact tS _ (e3 it z)
def Qc {s:List Nat}(hb:s.length<16777000)(ps:List (List (List Nat)×D))(h1:((spl 10 s).foldl wU ([],false)).1=ps.map (·.1))(h2:∀p∈ps,yb [.lst (p.1.map enW)]=.ok p.2)(hg:Jd (ps.map (·.2))):vA [.str (S s)]=.ok (.lst (ps.map (·.2))):=by
 obtain⟨G,hG,hG2⟩:=z29 hb;rw[h1]at hG2;obtain⟨its,e1,e2,e3⟩:=Kl G ps hG2;obtain⟨e,z3,z4,z5,f⟩:=Xc (some (.str (S s))) its [] none none none (fun it hit=>⟨h2 _ (e3 it hit),hg.2.1 _ (by rw[<-e2];exact List.mem_map_of_mem hit)⟩) (by rw[tO,e2];exact hg.1) (by rw[tO,e2];exact hg.2.2);rw[tO,e2]at f;have em:(its.map fun it=>wJ it.1)=G.map wJ:=by rw[<-e1,sR];rfl
 rw[em]at f;have f:xK (Tgt.many [3,4]).asg bRd (G.map wJ) [some (.str (S s)),some (.lst []),some (.int 0),none,none,none]=.ok (.nx [some (.str (S s)),some (.lst (ps.map (·.2))),some (.int e),z3,z4,z5]):=f;have eF:yY (zQ (eL vq (z8 (za 0) zb))) (.many [3,4]) bRd [some (.str (S s)),some (.lst []),some (.int 0),none,none,none]=_:=vj (by
  simp only[za,eL,zb,z8,zQ,xk,jYa,tD,hG]) f
 have hi:xO "str" (.str (S s))=.ok (.bl true):=rfl;rw[tRD];simp only[zm,zr,zh,zq,zp,sIf,za,eC,eUn,eL,zb,zi,yh,asB,jYa,tG,tX,tF,tR,sA,tJ,tQ,tO,tD,tE,tI,tM,Nat.reduceSub,tY,if_false,tK,hi,eF,sT]
def jd {α:Type}{en:α->D}{P:α->Prop}:∀ {xs:List D},(∀x∈xs,∃a,x=en a/\P a)->∃as:List α,xs=as.map en/\∀a∈as,P a
 | [],_=>⟨[],rfl,fun a h=>by cases h⟩
 | x::xs,h=>by
  obtain⟨a,e,p⟩:=h x tN;obtain⟨as,e2,p2⟩:=jd fun y hy=>h y (tS _ hy);refine⟨a::as,by rw[tG,<-e,<-e2],fun b hb=>?_⟩;rcases sI.mp hb with z|z
  ·rw[z];exact p
  ·exact p2 b z
def Wd.un (h:Wd d):∃w,d=enW w/\Wk w:=by
 obtain⟨_,cs,rfl,h1,h2,h3⟩:=h;exact⟨cs,rfl,h1,h2,h3⟩
def Ws.un {lo hi:Nat}{d:D}(h:Ws lo hi d):∃us:List (List Nat),d=.tup (us.map enW)/\lo<=us.length/\us.length<=hi/\∀u∈us,Wk u:=by
 obtain⟨ws,rfl,h1,h2,h3⟩:=h;obtain⟨us,rfl,hu⟩:=jd fun x hx=>(h3 x hx).un;rw[tU]at h1 h2;exact⟨us,rfl,h1,h2,hu⟩
structure Nk (n:List (List Nat)):Prop where
 ge:1<=n.length
 le:n.length<=30
 ok:∀u∈n,Wk u
structure Pk (p:Pm):Prop where
 w:Wk p.1
 le:p.2.length<=3
 ok:∀n∈p.2,Nk n
structure Ck (c:List (List Nat)):Prop where
 le:c.length<=12
 ok:∀u∈c,Wk u
structure Rk (r:List (List (List Nat))):Prop where
 ge:1<=r.length
 le:r.length<=4
 ok:∀c∈r,Ck c
def Pr.un {d:D}(h:Pr d):∃p:Pm,d=enP p/\Pk p:=by
 obtain⟨w,ns,rfl,h1,h2,h3⟩:=h;obtain⟨w,rfl,hw⟩:=h1.un;obtain⟨nn,rfl,hn⟩:=jd (en:=enN) (P:=Nk) fun x hx=>by
  obtain⟨us,e,a,b,c⟩:=Ws.un (h3 x hx);exact⟨us,e,a,b,c⟩
 rw[tU]at h2;exact⟨(w,nn),rfl,hw,h2,hn⟩
def Rw.un {k:Nat}{d:D}(h:Rw k d)(k1:1<=k)(k4:k<=4):∃r,d=enR r/\Rk r:=by
 obtain⟨cs,rfl,h1,h2⟩:=h;obtain⟨r,rfl,hr⟩:=jd (en:=enC) (P:=Ck) fun x hx=>by
  obtain⟨us,e,a,b,c⟩:=Ws.un (h2 x hx);exact⟨us,e,b,c⟩
 rw[tU]at h1;exact⟨r,rfl,by omega,by omega,hr⟩
def nn (ps:List Pm):Nat:=(ps.map fun p=>p.2.length).sum
inductive okB:Bm->Prop
 | leaf:okB .leaf
 | head {ws:List (List Nat)} (h1:1<=ws.length) (h2:ws.length<=12) (h:∀w∈ws,Wk w):okB (.head ws)
 | text {ps:List Pm} (h1:1<=ps.length) (h2:ps.length<=200) (h:∀p∈ps,Pk p) (hn:nn ps<=60):okB (.text ps)
 | table {rs:List (List (List (List Nat)))} (h1:1<=rs.length) (h2:rs.length<=20) (h:∀r∈rs,Rk r):okB (.table rs)
def z36 (ps:List Pm):ncs (ps.map enP)=nn ps:=by
 unfold ncs nn;rw[sR];congr 1;apply pH;intro p _;show nc (.tup [enW p.1,.tup (p.2.map enN)])=_;show (p.2.map enN).length=_;rw[tU]
def Bk.un {d:D}{n:Nat}(h:Bk d n)(hn:n<=60):∃b,d=enB b/\okB b:=by
 cases h with
 | leaf=>exact⟨.leaf,rfl,.leaf⟩
 | head h =>
  obtain⟨us,rfl,a,b,c⟩:=h.un;exact⟨.head us,rfl,.head a b c⟩
 | table h =>
  obtain⟨k,rs,rfl,k1,k4,l1,l2,h⟩:=h;obtain⟨rr,rfl,hr⟩:=jd fun x hx=>(h x hx).un k1 k4;rw[tU]at l1 l2;exact⟨.table rr,rfl,.table l1 l2 hr⟩
 | @text ps h1 h2 h =>
  obtain⟨pp,rfl,hp⟩:=jd fun x hx=>(h x hx).un;rw[tU]at h1 h2;rw[z36]at hn;exact⟨.text pp,rfl,.text h1 h2 hp hn⟩
def nT (n:List (List Nat)):List Nat:=123::(jn [32] n++[125])
def pT (p:Pm):List Nat:=p.1++(p.2.map nT).flatten
def cT (c:List (List Nat)):List Nat:=32::(jn [32] c++[32])
def rT (r:List (List (List Nat))):List Nat:=yu (r.map cT)
def bT:Bm->List Nat
 | .leaf=>[126]
 | .head ws=>61::32::jn [32] ws
 | .text ps=>jn [32] (ps.map pT)
 | .table rs=>jn [10] (rs.map rT)
def j5 {α:Type}(f:α->Nat)(k:Nat):∀xs:List α,(∀x∈xs,f x<=k)->(xs.map f).sum<=xs.length*k
 | [],_=>by simp
 | x::xs,h=>by
  rw[tG,sX,tF,pL];have:=j5 f k xs fun y hy=>h y (tS _ hy);have:=h x tN;omega
def z59 (c:List Nat)(xs:List (List Nat))(k:Nat)(h:∀x∈xs,x.length<=k):(jn c xs).length<=xs.length*k+xs.length*c.length:=by
 have:=um c xs;have:=j5 List.length k xs h;omega
def YY {ws:List (List Nat)}(h:∀w∈ws,Wk w)(m:Nat)(hm:ws.length<=m):(ws.map List.length).sum+ws.length*1<=m*41/\(jn [32] ws).length<=m*41:=by
 have h1:=j5 List.length 40 ws fun w hw=>(h w hw).le;have h2:=um [32] ws;have e:[32].length=1:=rfl;rw[e]at h2;have:ws.length*41<=m*41:=rY _ hm;omega
def z2t {n:List (List Nat)}(h:Nk n):(nT n).length<=1300:=by
 have:=(YY h.ok 30 h.le).2;unfold nT;rw[tF,tH];show _+1+1<=_;omega
def Qb:∀(ns:List (List (List Nat))),(∀n∈ns,Nk n)->(ns.map nT).flatten.length<=ns.length*1300/\((ns.map nT).map List.length).sum<=ns.length*1300
 | [],_=>by simp
 | n::ns,h=>by
  have ih:=Qb ns fun x hx=>h x (tS _ hx);have:=z2t (h n tN);rw[tG,rV,tH,tF,pL,tG,sX];omega
def z66 (h:Pk p):(pT p).length<=40+p.2.length*1300:=by
 have:=(Qb p.2 h.ok).1;have:=h.w.le;unfold pT;rw[tH];omega
def UD:∀ps:List Pm,(∀p∈ps,Pk p)->((ps.map pT).map List.length).sum+ps.length<=ps.length*41+nn ps*1300
 | [],_=>by simp[nn]
 | p::ps,h=>by
  have ih:=UD ps fun x hx=>h x (tS _ hx);have:=z66 (h p tN);have e:nn (p::ps)=p.2.length+nn ps:=by unfold nn;rw[tG,sX]
  rw[e,tG,tG,sX,tF,Nat.add_mul,pL];omega
def z2r {c:List (List Nat)}(h:Ck c):(cT c).length<=500:=by
 have:=(YY h.ok 12 h.le).2;unfold cT;rw[tF,tH];show _+1+1<=_;omega
def V0 {r:List (List (List Nat))}(h:Rk r):(rT r).length<=2010/\((r.map cT).map List.length).sum+r.length<=2004:=by
 have h1:=j5 List.length 500 (r.map cT) fun x hx=>by
  obtain⟨c,hc,rfl⟩:=rN.mp hx;exact z2r (h.ok c hc)
 rw[tU]at h1;have h2:=um [124] (r.map cT);have e:[124].length=1:=rfl;rw[e,tU]at h2;have:=h.le;have:r.length*500<=4*500:=rY _ h.le;refine⟨?_,by omega⟩;unfold rT yu;rw[tF,tH];show _+1+1<=_;omega
def V3 (h:okB b):(bT b).length<=90000:=by
 cases h with
 | leaf=>decide
 | @head ws h1 h2 h =>
  have:=(YY h 12 h2).2;show (61::32::jn [32] ws).length<=_;rw[tF,tF];omega
 | @text ps h1 h2 h hn =>
  have h3:=UD ps h;have h4:=um [32] (ps.map pT);have e:[32].length=1:=rfl;rw[e,tU]at h4;show (jn [32] (ps.map pT)).length<=_;omega
 | @table rs h1 h2 h =>
  have h3:=z59 [10] (rs.map rT) 2010 fun x hx=>by
   obtain⟨r,hr,rfl⟩:=rN.mp hx;exact (V0 (h r hr)).1
  have e:[10].length=1:=rfl;rw[e,tU]at h3;have:rs.length*2010<=20*2010:=rY _ h2;show (jn [10] (rs.map rT)).length<=_;omega
def JG:∀xs:List (List Nat),jn [] xs=xs.flatten
 | []=>rfl
 | [a]=>by show a=a++[];rw[tZ]
 | a::b::r=>by
  show a++[]++jn [] (b::r)=a++(b::r).flatten;rw[tZ,JG (b::r)]
def vU {us:List (List Nat)}(h:∀u∈us,Wk u)(hl:us.length<=100):y9 " " [.tup (us.map enW)]=.ok (.str (S (jn [32] us))):=by
 have:=(YY h 100 hl).1;exact z3X [32] us (by show _+_*1<=_;omega)
def z2v {n:List (List Nat)}(h:Nk n):∃J,y9 " " [enN n]=.ok (.str J)/\∃K,zL (.str "{") (.str J)=.ok (.str K)/\zL (.str K) (.str "}")=.ok (enW (nT n)):=by
 have hl:=z2t h;unfold nT at hl;rw[tF,tH]at hl;refine⟨_,vU h.ok (by have:=h.le;omega),_,wK (a:=[123]) (b:=jn [32] n) (by show _<=_;rw[tH];show 1+_<=_;omega),?_⟩;have:=wK (a:=[123]++jn [32] n) (b:=[125]) (by show _<=_;rw[tH,tH];show 1+_+1<=_;omega);rw[sF]at this;exact this
def J6 {n:List (List Nat)}(h:Nk n):wX [enN n]=.ok (enW (nT n)):=by
 obtain⟨J,h1,K,h2,h3⟩:=z2v h;unfold wX kO;simp only[zr,zp,za,eC,ze,zb,z8,jYa,tG,tX,tF,tR,tJ,tQ,tO,tD,Nat.reduceSub,tY,yD,yC,h1,h2,h3]
def ZI {ns:List (List (List Nat))}(h:∀n∈ns,Nk n)(hl:ns.length<=3):y9 "" [.lst ((ns.map nT).map enW)]=.ok (.str (S (ns.map nT).flatten)):=by
 have:=(Qb ns h).2;have h1:=vD [] (ns.map nT) (by show _+_*0<=_;omega);rw[JG]at h1;exact h1
def Va (h:Pk p):zL (enW p.1) (.str (S (p.2.map nT).flatten))=.ok (enW (pT p)):=by
 have:=(Qb p.2 h.ok).1;have:=h.w.le;have:=h.le;exact wK (by show _<=_;rw[tH];omega)
def Jk (h:Pk p):wW [enW p.1,.tup (p.2.map enN)]=.ok (enW (pT p)):=by
 have k1:yQ (ya (Tgt.one 0).asg (fun _=>.ok true) (eL wX (z8 (za 0) zb)) [none]) (p.2.map enN)=.ok (p.2.filterMap fun n=>some (enW (nT n))):=ym fun n hn=>by
  have h:=J6 (h.ok n hn);unfold ya;simp only[za,eL,zb,z8,Tgt.asg,jYa,tD,tI,if_true,yz,h]
 rw[xv]at k1;have e:(p.2.map fun n=>enW (nT n))=(p.2.map nT).map enW:=by rw[sR];rfl
 rw[e]at k1;have i1:uz ((p.2.map nT).map enW)=.ok (.lst ((p.2.map nT).map enW)):=xt (by rw[tU,tU];have:=h.le;omega);have j1:=ZI h.ok h.le;have a1:=Va h;unfold wW kK;simp only[zI,yt,yw,zr,zp,za,eC,ze,zb,z8,zQ,xk,jYa,tG,tX,tF,tR,tJ,tQ,tO,tD,tE,Nat.reduceAdd,Nat.reduceSub,tY,yD,yC,k1,i1,j1,a1]
def z6n:∀cs:List (List Nat),cs≠[]->[124,32]++jn [32,124,32] cs++[32,124]=yu (cs.map fun c=>32::(c++[32]))
 | [],h=>absurd rfl h
 | [a],_=>by
  unfold yu;show[124,32]++a++[32,124]=124::((32::(a++[32]))++[124]);simp
 | a::b::r,_=>by
  have ih:=z6n (b::r) (by intro z;cases z);unfold yu at *;have e:jn [124] ((a::b::r).map fun c=>32::(c++[32]))=(32::(a++[32]))++[124]++jn [124] ((b::r).map fun c=>32::(c++[32])):=rfl;have e2:jn [32,124,32] (a::b::r)=a++[32,124,32]++jn [32,124,32] (b::r):=rfl;rw[e,e2];have ih2:32::(jn [32,124,32] (b::r)++[32,124])=jn [124] ((b::r).map fun c=>32::(c++[32]))++[124]:=by
   have:124::32::(jn [32,124,32] (b::r)++[32,124])=124::(jn [124] ((b::r).map fun c=>32::(c++[32]))++[124]):=ih;injection this
  have:[124,32]++(a++[32,124,32]++jn [32,124,32] (b::r))++[32,124]=124::32::(a++[32,124]++(32::(jn [32,124,32] (b::r)++[32,124]))):=by simp
  rw[this,ih2];simp
def z4j (r:List (List (List Nat))):rT r=yu ((r.map (jn [32])).map fun c=>32::(c++[32])):=by
 unfold rT;rw[sR]
 rfl
def Kh {r:List (List (List Nat))}(h:Rk r):wQ [enR r]=.ok (enW (rT r)):=by
 have k1:yQ (ya (Tgt.one 0).asg (fun _=>.ok true) (eSm y9 (eC (.str " ")) (z8 (za 0) zb)) [none]) (r.map enC)=.ok (r.filterMap fun c=>some (enW (jn [32] c))):=ym fun c hc=>by
  have h:=vU (h.ok c hc).ok (by have:=(h.ok c hc).le;omega);have h:y9 " " [enC c]=.ok (enW (jn [32] c)):=h;generalize enW (jn [32] c)=b at *;generalize enC c=W at *;unfold ya;simp only[za,eC,zb,z8,Tgt.asg,jYa,tD,tI,if_true,yD,yC,yz,h]
 rw[xv]at k1;have e:(r.map fun c=>enW (jn [32] c))=(r.map (jn [32])).map enW:=by rw[sR];rfl
 rw[e]at k1;have hle:=h.le;have i1:uz ((r.map (jn [32])).map enW)=.ok (.lst ((r.map (jn [32])).map enW)):=xt (by rw[tU,tU];omega);have s1:=j5 List.length 492 (r.map (jn [32])) fun x hx=>by
  obtain⟨c,hc,rfl⟩:=rN.mp hx;exact (YY (h.ok c hc).ok 12 (h.ok c hc).le).2
 rw[tU]at s1;have s2:r.length*492<=4*492:=rY _ h.le;have j1:=vD [32,124,32] (r.map (jn [32])) (by rw[tU];show _+_*3<=_;omega);have j1:y9 " | " [.lst ((r.map (jn [32])).map enW)]=.ok (.str (S (jn [32,124,32] (r.map (jn [32]))))):=j1;have l1:=um [32,124,32] (r.map (jn [32]));have e3:[32,124,32].length=3:=rfl;rw[e3,tU]at l1;have a1:=wK (a:=[124,32]) (b:=jn [32,124,32] (r.map (jn [32]))) (by show _<=_;rw[tH];show 2+_<=_;omega);have a1:zL (.str "| ") (.str (S (jn [32,124,32] (r.map (jn [32])))))=.ok (.str (S ([124,32]++jn [32,124,32] (r.map (jn [32]))))):=a1;have a2:=wK (a:=[124,32]++jn [32,124,32] (r.map (jn [32]))) (b:=[32,124]) (by show _<=_;rw[tH,tH];show 2+_+2<=_;omega);rw[z6n _ (by intro z;have:=h.ge;rw[rW.mp z]at this;simp at this),<-z4j]at a2;have a2:zL (.str (S ([124,32]++jn [32,124,32] (r.map (jn [32]))))) (.str " |")=.ok (enW (rT r)):=a2;show wQ [.tup (r.map enC)]=_;generalize enW (rT r)=O at *;generalize S ([124,32]++jn [32,124,32] (r.map (jn [32])))=Z2' at *;generalize S (jn [32,124,32] (r.map (jn [32])))=Z1' at *;generalize (r.map (jn [32])).map enW=RR at *;generalize r.map enC=CC at *;unfold wQ Zk;simp only[zI,yt,yw,zr,zp,za,eC,ze,zb,z8,zQ,xk,jYa,tG,tX,tF,tR,tJ,tQ,tO,tD,Nat.reduceSub,tY,yD,yC,k1,i1,j1,a1,a2]
def VH {rs:List (List (List (List Nat)))}(h2:rs.length<=20)(h:∀r∈rs,Rk r):((rs.map rT).map List.length).sum+(rs.map rT).length*1<=16777216:=by
 have s1:=j5 List.length 2010 (rs.map rT) fun x hx=>by
  obtain⟨r,hr,rfl⟩:=rN.mp hx;exact (V0 (h r hr)).1
 rw[tU]at s1 ⊢;have:rs.length*2010<=20*2010:=rY _ h2;omega
def YM (h2:ps.length<=200)(h:∀p∈ps,Pk p)(hn:nn ps<=60):((ps.map pT).map List.length).sum+(ps.map pT).length*1<=16777216:=by
 have:=UD ps h;rw[tU];omega
def eqs (a b:Str)(c:Bool)(h:(a==b)=c):eqR false (.str a) (.str b)=.ok (.bl c):=by rw[vN,if_neg sJ,h]
def Yw (h:okB b):yl [enB b]=.ok (enW (bT b)):=by
 have hle:=V3 h;cases h with
 | leaf =>
  have q1:=eqs "leaf" "head" false (by decide +kernel);have q2:=eqs "leaf" "text" false (by decide +kernel);have q3:=eqs "leaf" "table" false (by decide +kernel);show yl [.tup [.str "leaf"]]=.ok (.str "~");unfold yl v7;simp only[zm,zr,zh,zp,sIf,za,eC,ze,zi,asB,jYa,tG,tX,tF,tR,tJ,tQ,tO,tD,Nat.reduceSub,tY,yV,if_false,tK,q1,q2,q3]
 | @head ws h1 h2 h =>
  have q1:=eqs "head" "head" true (by decide +kernel);have j1:=vU h (by omega);have a1:=wK (a:=[61,32]) (b:=jn [32] ws) (by show _<=_;show (61::32::jn [32] ws).length<=_;exact rD hle (by decide));have a1:zL (.str "= ") (.str (S (jn [32] ws)))=.ok (enW (bT (.head ws))):=a1;show yl [.tup [.str "head",.tup (ws.map enW)]]=_;unfold yl v7;simp only[zI,yt,yw,zm,zr,zh,zp,sIf,za,eC,ze,zb,z8,zi,zQ,asB,jYa,tG,tX,tF,tR,tJ,tQ,tO,tD,Nat.reduceSub,tY,yV,xp,if_true,yD,yC,q1,j1,a1]
 | @text ps h1 h2 h hn =>
  have q1:=eqs "text" "head" false (by decide +kernel);have q2:=eqs "text" "text" true (by decide +kernel);have k1:yQ (ya (Tgt.many [0,1]).asg (fun _=>.ok true) (eL wW (z8 (za 0) (z8 (za 1) zb))) [none,none]) (ps.map enP)=.ok (ps.filterMap fun p=>some (enW (pT p))):=ym fun p hp=>by
   have h:=Jk (h p hp);have ea:(Tgt.many [0,1]).asg (enP p) [none,none]=.ok [some (enW p.1),some (.tup (p.2.map enN))]:=rfl;unfold ya;simp only[ea,yz,za,eL,zb,z8,jYa,tD,tE,if_true,h]
  rw[xv]at k1;have e:(ps.map fun p=>enW (pT p))=(ps.map pT).map enW:=by rw[sR];rfl
  rw[e]at k1;have i1:uz ((ps.map pT).map enW)=.ok (.lst ((ps.map pT).map enW)):=xt (by rw[tU,tU];omega);have j1:=vD [32] (ps.map pT) (YM h2 h hn);have j1:y9 " " [.lst ((ps.map pT).map enW)]=.ok (enW (bT (.text ps))):=j1;show yl [.tup [.str "text",.tup (ps.map enP)]]=_;unfold yl v7;simp only[zI,yt,yw,zm,zr,zh,zp,sIf,za,eC,ze,zb,z8,zi,zQ,asB,xk,jYa,tG,tX,tF,tR,tJ,tQ,tO,tD,Nat.reduceSub,tY,yV,xp,if_true,if_false,tK,yD,yC,q1,q2,k1,i1,j1]
 | @table rs h1 h2 h =>
  have q1:=eqs "table" "head" false (by decide +kernel);have q2:=eqs "table" "text" false (by decide +kernel);have q3:=eqs "table" "table" true (by decide +kernel);have k1:yQ (ya (Tgt.one 0).asg (fun _=>.ok true) (eL wQ (z8 (za 0) zb)) [none]) (rs.map enR)=.ok (rs.filterMap fun r=>some (enW (rT r))):=ym fun r hr=>by
   have h:=Kh (h r hr);unfold ya;simp only[za,eL,zb,z8,Tgt.asg,jYa,tD,tI,if_true,yz,h]
  rw[xv]at k1;have e:(rs.map fun r=>enW (rT r))=(rs.map rT).map enW:=by rw[sR];rfl
  rw[e]at k1;have i1:uz ((rs.map rT).map enW)=.ok (.lst ((rs.map rT).map enW)):=xt (by rw[tU,tU];omega);have j1:=vD [10] (rs.map rT) (VH h2 h);have j1:y9 "\n" [.lst ((rs.map rT).map enW)]=.ok (enW (bT (.table rs))):=j1;show yl [.tup [.str "table",.tup (rs.map enR)]]=_;unfold yl v7;simp only[zI,yt,yw,zm,zr,zh,zp,sIf,za,eC,ze,zb,z8,zi,zQ,asB,xk,jYa,tG,tX,tF,tR,tJ,tQ,tO,tD,Nat.reduceSub,tY,yV,xp,if_true,if_false,tK,yD,yC,q1,q2,q3,k1,i1,j1]
def tTO:yi=zr 5 (zh (sIf (zi (ze (eqR false) (ze ixD (za 0) (eC (.int 0))) (eC (.str "leaf")))) (zp (eC (.str "~"))) zm) (zh (sIf (zi (ze (eqR false) (ze ixD (za 0) (eC (.int 0))) (eC (.str "head")))) (zp (ze zL (eC (.str "= ")) (eSm y9 (eC (.str " ")) (z8 (ze ixD (za 0) (eC (.int 1))) zb)))) zm) (zh (zq 1 (eL (fun ds=>.ok (.lst ds)) zb)) (zh (sIf (zi (ze (eqR false) (ze ixD (za 0) (eC (.int 0))) (eC (.str "table")))) (zh (yY (zQ (ze ixD (za 0) (eC (.int 1)))) (.one 2) bTr) (zp (eSm y9 (eC (.str "\n")) (z8 (za 1) zb)))) zm) (zh (yY (zQ (ze ixD (za 0) (eC (.int 1)))) (.many [3,4]) bTp) (zp (eSm y9 (eC (.str " ")) (z8 (za 1) zb)))))))):=rfl
def z3Y {r:List (List (List Nat))}(h:Rk r)(L:List D)(hL:L.length<1000)(x0 x3 x4:Option D):bTr [x0,some (.lst L),some (enR r),x3,x4]=.ok (.nx [x0,some (.lst (L++[enW (rT r)])),some (enR r),x3,x4]):=by
 have k1:yQ (ya (Tgt.one 0).asg (fun _=>.ok true) (ze zL (ze zL (eC (.str " ")) (eSm y9 (eC (.str " ")) (z8 (za 0) zb))) (eC (.str " "))) [none]) (r.map enC)=.ok (r.filterMap fun c=>some (enW (cT c))):=ym fun c hc=>by
  have hl:=z2r (h.ok c hc);unfold cT at hl;rw[tF,tH]at hl;have h1:=vU (h.ok c hc).ok (by have:=(h.ok c hc).le;omega);have h1:y9 " " [enC c]=.ok (.str (S (jn [32] c))):=h1;have a1:=wK (a:=[32]) (b:=jn [32] c) (by show _<=_;rw[tH];show 1+_<=_;omega);have a1:zL (.str " ") (.str (S (jn [32] c)))=.ok (.str (S ([32]++jn [32] c))):=a1;have a2:=wK (a:=[32]++jn [32] c) (b:=[32]) (by show _<=_;rw[tH,tH];show 1+_+1<=_;omega);have a2:zL (.str (S ([32]++jn [32] c))) (.str " ")=.ok (enW (cT c)):=a2;unfold ya;simp only[za,eC,ze,zb,z8,Tgt.asg,jYa,tD,tI,if_true,yD,yC,yz,h1,a1,a2]
 rw[xv]at k1;have e:(r.map fun c=>enW (cT c))=(r.map cT).map enW:=by rw[sR];rfl
 rw[e]at k1;have hle:=h.le;have i1:uz ((r.map cT).map enW)=.ok (.lst ((r.map cT).map enW)):=xt (by rw[tU,tU];omega);obtain⟨s1,s2⟩:=V0 h;have j1:=vD [124] (r.map cT) (by rw[tU];show _+_*1<=_;omega);have j1:y9 "|" [.lst ((r.map cT).map enW)]=.ok (.str (S (jn [124] (r.map cT)))):=j1;have hl:(rT r).length=1+(jn [124] (r.map cT)).length+1:=by unfold rT yu;rw[tF,tH];show _+1+1=_;omega
 have a1:=wK (a:=[124]) (b:=jn [124] (r.map cT)) (by show _<=_;rw[tH];show 1+_<=_;omega);have a1:zL (.str "|") (.str (S (jn [124] (r.map cT))))=.ok (.str (S ([124]++jn [124] (r.map cT)))):=a1;have a2:=wK (a:=[124]++jn [124] (r.map cT)) (b:=[124]) (by show _<=_;rw[tH,tH];show 1+_+1<=_;omega);have a2:zL (.str (S ([124]++jn [124] (r.map cT)))) (.str "|")=.ok (enW (rT r)):=a2;have hL:L.length<16777216:=by omega
 have hq:enR r=.tup (r.map enC):=rfl;rw[hq];unfold bTr;simp only[xw,xx,wc,zI,yt,yw,za,eC,ze,zb,z8,zQ,xk,jYa,tD,tE,tI,tM,yD,yC,k1,i1,j1,a1,a2,hL]
def z0B (x0 x3 x4:Option D):∀(rs:List (List (List (List Nat)))) (L:List (List Nat)) (y2:Option D),(∀r∈rs,Rk r)->L.length+rs.length<1000->∃z2,xK (Tgt.one 2).asg bTr (rs.map enR) [x0,some (.lst (L.map enW)),y2,x3,x4]=.ok (.nx [x0,some (.lst ((L++rs.map rT).map enW)),z2,x3,x4])
 | [],L,y2,_,_=>⟨y2,by rw[tX,tX,tZ];rfl⟩
 | r::rs,L,y2,h,hl=>by
  rw[tF]at hl;obtain⟨z2,ih⟩:=z0B x0 x3 x4 rs (L++[rT r]) (some (enR r)) (fun x hx=>h x (tS _ hx)) (by rw[tH];show _+1+_<_;omega);refine⟨z2,?_⟩;have ha:(Tgt.one 2).asg (enR r) [x0,some (.lst (L.map enW)),y2,x3,x4]=.ok [x0,some (.lst (L.map enW)),some (enR r),x3,x4]:=rfl;have hk:=z3Y (h r tN) (L.map enW) (by rw[tU];omega) x0 x3 x4;have e1:L.map enW++[enW (rT r)]=(L++[rT r]).map enW:=by rw[rA];rfl
  have e2:L++[rT r]++rs.map rT=L++(r::rs).map rT:=by rw[sF];rfl
  rw[e1]at hk;rw[tG,uT,ha,jYa,hk,jYa,j3,<-e2];exact ih
def z4v (h:Pk p)(L:List D)(hL:L.length<1000)(x0 x2:Option D):bTp [x0,some (.lst L),x2,some (enW p.1),some (.tup (p.2.map enN))]=.ok (.nx [x0,some (.lst (L++[enW (pT p)])),x2,some (enW p.1),some (.tup (p.2.map enN))]):=by
 have k1:yQ (ya (Tgt.one 0).asg (fun _=>.ok true) (ze zL (ze zL (eC (.str "{")) (eSm y9 (eC (.str " ")) (z8 (za 0) zb))) (eC (.str "}"))) [none]) (p.2.map enN)=.ok (p.2.filterMap fun n=>some (enW (nT n))):=ym fun n hn=>by
  obtain⟨J,h1,K,h2,h3⟩:=z2v (h.ok n hn);unfold ya;simp only[za,eC,ze,zb,z8,Tgt.asg,jYa,tD,tI,if_true,yD,yC,yz,h1,h2,h3]
 rw[xv]at k1;have e:(p.2.map fun n=>enW (nT n))=(p.2.map nT).map enW:=by rw[sR];rfl
 rw[e]at k1;have i1:uz ((p.2.map nT).map enW)=.ok (.lst ((p.2.map nT).map enW)):=xt (by rw[tU,tU];have:=h.le;omega);have j1:=ZI h.ok h.le;have a1:=Va h;have hL:L.length<16777216:=by omega
 unfold bTp;simp only[xw,xx,wc,zI,yt,yw,za,eC,ze,zb,z8,zQ,xk,jYa,tD,tE,tI,tM,yD,yC,k1,i1,j1,a1,hL]
def Jz (x0 x2:Option D):∀(ps:List Pm) (L:List (List Nat)) (y3 y4:Option D),(∀p∈ps,Pk p)->L.length+ps.length<1000->∃z3 z4,xK (Tgt.many [3,4]).asg bTp (ps.map enP) [x0,some (.lst (L.map enW)),x2,y3,y4]=.ok (.nx [x0,some (.lst ((L++ps.map pT).map enW)),x2,z3,z4])
 | [],L,y3,y4,_,_=>⟨y3,y4,by rw[tX,tX,tZ];rfl⟩
 | p::ps,L,y3,y4,h,hl=>by
  rw[tF]at hl;obtain⟨z3,z4,ih⟩:=Jz x0 x2 ps (L++[pT p]) (some (enW p.1)) (some (.tup (p.2.map enN))) (fun x hx=>h x (tS _ hx)) (by rw[tH];show _+1+_<_;omega);refine⟨z3,z4,?_⟩;have ha:(Tgt.many [3,4]).asg (enP p) [x0,some (.lst (L.map enW)),x2,y3,y4]=.ok [x0,some (.lst (L.map enW)),x2,some (enW p.1),some (.tup (p.2.map enN))]:=rfl;have hk:=z4v (h p tN) (L.map enW) (by rw[tU];omega) x0 x2;have e1:L.map enW++[enW (pT p)]=(L++[pT p]).map enW:=by rw[rA];rfl
  have e2:L++[pT p]++ps.map pT=L++(p::ps).map pT:=by rw[sF];rfl
  rw[e1]at hk;rw[tG,uT,ha,jYa,hk,jYa,j3,<-e2];exact ih
def UZ (h:okB b):yi [enB b]=.ok (enW (bT b)):=by
 have hle:=V3 h;rw[tTO];cases h with
 | leaf =>
  have q1:=eqs "leaf" "leaf" true (by decide +kernel);show zr 5 _ [.tup [.str "leaf"]]=.ok (.str "~");generalize yY (zQ (ze ixD (za 0) (eC (.int 1)))) (.one 2) bTr=S1;generalize yY (zQ (ze ixD (za 0) (eC (.int 1)))) (.many [3,4]) bTp=S2;simp only[zm,zr,zh,zq,zp,sIf,za,eC,ze,eL,zb,zi,asB,jYa,tG,tX,tF,tR,sA,tJ,tQ,tO,tD,Nat.reduceSub,tY,yV,if_true,q1]
 | @head ws h1 h2 h =>
  have q0:=eqs "head" "leaf" false (by decide +kernel);have q1:=eqs "head" "head" true (by decide +kernel);have j1:=vU h (by omega);have a1:=wK (a:=[61,32]) (b:=jn [32] ws) (by show _<=_;show (61::32::jn [32] ws).length<=_;exact rD hle (by decide));have a1:zL (.str "= ") (.str (S (jn [32] ws)))=.ok (enW (bT (.head ws))):=a1;show zr 5 _ [.tup [.str "head",.tup (ws.map enW)]]=_;generalize yY (zQ (ze ixD (za 0) (eC (.int 1)))) (.one 2) bTr=S1;generalize yY (zQ (ze ixD (za 0) (eC (.int 1)))) (.many [3,4]) bTp=S2;simp only[zm,zr,zh,zq,zp,sIf,za,eC,ze,eL,zb,z8,zi,asB,jYa,tG,tX,tF,tR,sA,tJ,tQ,tO,tD,Nat.reduceSub,tY,yV,xp,if_true,if_false,tK,yD,yC,q0,q1,j1,a1]
 | @text ps h1 h2 h hn =>
  have q0:=eqs "text" "leaf" false (by decide +kernel);have q1:=eqs "text" "head" false (by decide +kernel);have q2:=eqs "text" "table" false (by decide +kernel);obtain⟨z3,z4,f⟩:=Jz (some (.tup [.str "text",.tup (ps.map enP)])) none ps [] none none h (by simp;omega);rw[tO]at f;have eF:yY (zQ (ze ixD (za 0) (eC (.int 1)))) (.many [3,4]) bTp [some (.tup [.str "text",.tup (ps.map enP)]),some (.lst []),none,none,none]=_:=vj (by simp only[za,eC,ze,zQ,xk,jYa,tD,xp]) f;have j1:=vD [32] (ps.map pT) (YM h2 h hn);have j1:y9 " " [.lst ((ps.map pT).map enW)]=.ok (enW (bT (.text ps))):=j1;show zr 5 _ [.tup [.str "text",.tup (ps.map enP)]]=_;generalize yY (zQ (ze ixD (za 0) (eC (.int 1)))) (.one 2) bTr=S1;simp only[zm,zr,zh,zq,zp,sIf,za,eC,ze,eL,zb,z8,zi,asB,jYa,tG,tX,tF,tR,sA,tJ,tQ,tO,tD,tE,tI,tM,Nat.reduceSub,tY,yV,xp,if_false,tK,yD,yC,q0,q1,q2,eF,j1]
 | @table rs h1 h2 h =>
  have q0:=eqs "table" "leaf" false (by decide +kernel);have q1:=eqs "table" "head" false (by decide +kernel);have q2:=eqs "table" "table" true (by decide +kernel);obtain⟨z2,f⟩:=z0B (some (.tup [.str "table",.tup (rs.map enR)])) none none rs [] none h (by simp;omega);rw[tO]at f;have eF:yY (zQ (ze ixD (za 0) (eC (.int 1)))) (.one 2) bTr [some (.tup [.str "table",.tup (rs.map enR)]),some (.lst []),none,none,none]=_:=vj (by simp only[za,eC,ze,zQ,xk,jYa,tD,xp]) f;have j1:=vD [10] (rs.map rT) (VH h2 h);have j1:y9 "\n" [.lst ((rs.map rT).map enW)]=.ok (enW (bT (.table rs))):=j1;show zr 5 _ [.tup [.str "table",.tup (rs.map enR)]]=_;generalize yY (zQ (ze ixD (za 0) (eC (.int 1)))) (.many [3,4]) bTp=S2;simp only[zm,zr,zh,zq,zp,sIf,za,eC,ze,eL,zb,z8,zi,asB,jYa,tG,tX,tF,tR,sA,tJ,tQ,tO,tD,tE,tI,tM,Nat.reduceSub,tY,yV,xp,if_true,if_false,tK,yD,yC,q0,q1,q2,eF,j1]
inductive Ex:Nat->List Nat->Prop
 | b1 (k:Nat):Ex 32 (sp (k+1))
 | b2 (a b:Nat):Ex 32 (sp a++10::sp b)
 | o1 (k:Nat):Ex 123 (123::sp k)
 | o2 (a b:Nat):Ex 123 (123::(sp a++10::sp b))
 | c1 (k:Nat):Ex 125 (sp k++[125])
 | c2 (a b:Nat):Ex 125 (sp a++10::sp b++[125])
 | pl {c:Nat}:c≠32->c≠123->c≠125->Ex c [c]
inductive Lo:List Nat->List Nat->Prop
 | nil:Lo [] []
 | cons {c:Nat} {e s t:List Nat}:Ex c e->e.length<=4->Lo s t->Lo (c::s) (e++t)
def Lo.refl:∀s,Lo s s
 | []=>.nil
 | c::s=>by
  have:Ex c [c]:=by
   by_cases h1:c=32
   ·subst h1;exact .b1 0
   ·by_cases h2:c=123
    ·subst h2;exact .o1 0
    ·by_cases h3:c=125
     ·subst h3;exact .c1 0
     ·exact .pl h1 h2 h3
  exact .cons this (by show 1<=4;decide) (Lo.refl s)
def Lo.len {s t:List Nat}(h:Lo s t):t.length<=4*s.length:=by
 induction h with
 | nil=>exact sL _
 | cons _ h _ ih=>rw[tH,tF];omega
def Lo.split:∀ {a b t:List Nat},Lo (a++b) t->∃t1 t2,t=t1++t2/\Lo a t1/\Lo b t2
 | [],b,t,h=>⟨[],t,rfl,.nil,h⟩
 | c::a,b,t,h=>by
  cases h with
  | cons h1 h2 h3 =>
   obtain⟨t1,t2,rfl,q1,q2⟩:=Lo.split h3;exact⟨_++t1,t2,by rw[sF],.cons h1 h2 q1,q2⟩
def Lo.one {c:Nat}{t:List Nat}(h:Lo [c] t):Ex c t:=by
 cases h with
 | cons h1 _ h3=>cases h3;rw[tZ];exact h1
def Lo.word:∀ {w t:List Nat},(∀c∈w,okS c)->Lo w t->t=w
 | [],t,_,h=>by cases h;rfl
 | c::w,t,hw,h=>by
  have hc:=(hw c tN).no;cases h with
  | cons h1 h2 h3 =>
   rw[Lo.word (fun x hx=>hw x (tS _ hx)) h3];cases h1 with
   | b1 k=>exact absurd rfl hc.1
   | b2 a b=>exact absurd rfl hc.1
   | o1 k=>exact absurd rfl hc.2.2.1
   | o2 a b=>exact absurd rfl hc.2.2.1
   | c1 k=>exact absurd rfl hc.2.2.2.1
   | c2 a b=>exact absurd rfl hc.2.2.2.1
   | pl _ _ _=>rfl
def Wk.nice {w:List Nat}(h:Wk w):Nice w:=by
 obtain⟨x,r,e,hx⟩:=h.hd;have hne:=h.ne;have hy:=h.ok _ (List.getLast_mem hne);exact⟨⟨x,r,e,hx.no.1,hx.no.2.1⟩,⟨w.dropLast,w.getLast hne,(rO hne).symm,hy.no.1,hy.no.2.1⟩⟩
def Wk.gd {w:List Nat}(h:Wk w):Gd w w:=.one h.nice fun z=>(h.ok _ z).no.2.1 rfl
def gap {x y x' y' g:List Nat}(hx:Gd x x')(hy:Gd y y')(h:Ex 32 g):∃k,Gd (x++g++y) (x'++sp (k+1)++y'):=by
 cases h with
 | b1 k=>exact⟨k,hx.app hy (k+1)⟩
 | b2 a b=>exact⟨0,hx.nl hy a b⟩
 | pl h _ _=>exact absurd rfl h
def ZW:∀ {us:List (List Nat)} {t:List Nat},us≠[]->(∀u∈us,Wk u)->Lo (jn [32] us) t->∃N,Gd t N/\LW us N
 | [],t,h,_,_=>absurd rfl h
 | [u],t,_,hu,h=>by
  have e:=Lo.word (hu u tN).ok h;rw[e];exact⟨u,(hu u tN).gd,.one⟩
 | u::v::us,t,_,hu,h=>by
  have h:Lo (u++[32]++jn [32] (v::us)) t:=h;rw[sF]at h;obtain⟨t1,t2,rfl,h1,h2⟩:=h.split;obtain⟨g,t3,rfl,h3,h4⟩:=h2.split;rw[Lo.word (hu u tN).ok h1];obtain⟨N,n1,n2⟩:=ZW (by intro z;cases z) (fun x hx=>hu x (tS _ hx)) h4;obtain⟨k,hk⟩:=gap (hu u tN).gd n1 h3.one;rw[sF]at hk;exact⟨_,hk,.cons k n2⟩
def z1j (c:Nat)(h1:c≠32)(h2:c≠10):Gd [c] [c]:=.one ⟨⟨c,[],rfl,h1,h2⟩,⟨[],c,rfl,h1,h2⟩⟩ (by simpa using fun z=>h2 z.symm)
def z11 {n:List (List Nat)}(hn:Nk n){t:List Nat}(h:Lo (nT n) t):∃a b s,Gd t (123::(sp a++s++sp b)++[125])/\LW n s:=by
 have h:Lo ([123]++(jn [32] n++[125])) t:=h;obtain⟨e1,t2,rfl,h1,h2⟩:=h.split;obtain⟨t1,e2,rfl,h3,h4⟩:=h2.split;obtain⟨N,n1,n2⟩:=ZW (by intro z;have:=hn.ge;rw[z]at this;simp at this) hn.ok h3;have g1:∃a,Gd (e1++t1) ([123]++sp a++N):=by
  have:=h1.one;cases this with
  | o1 k=>exact⟨k,(z1j 123 (by decide) (by decide)).app n1 k⟩
  | o2 a b=>exact⟨1,(z1j 123 (by decide) (by decide)).nl n1 a b⟩
  | pl _ h9 _=>exact absurd rfl h9
 obtain⟨a,g1⟩:=g1;have g2:∃b,Gd (e1++t1++e2) ([123]++sp a++N++sp b++[125]):=by
  have:=h4.one;cases this with
  | c1 k =>
   refine⟨k,?_⟩;have:=g1.app (z1j 125 (by decide) (by decide)) k;rw[sF (e1++t1)]at this;exact this
  | c2 p q =>
   refine⟨1,?_⟩;have:=g1.nl (z1j 125 (by decide) (by decide)) p q;rw[sF (e1++t1)]at this;exact this
  | pl _ _ h9=>exact absurd rfl h9
 obtain⟨b,g2⟩:=g2;refine⟨a,b,N,?_,n2⟩;rw[<-sF];have e:123::(sp a++N++sp b)++[125]=[123]++sp a++N++sp b++[125]:=by simp
 rw[e];exact g2
def WG:∀ {ns:List (List (List Nat))} {x x' t:List Nat},(∀n∈ns,Nk n)->Gd x x'->Lo (ns.map nT).flatten t->∃N,Gd (x++t) (x'++N)/\LNt ns N
 | [],x,x',t,_,hx,h=>by
  cases h;exact⟨[],by rw[tZ,tZ];exact hx,.nil⟩
 | n::ns,x,x',t,hn,hx,h=>by
  rw[tG,rV]at h;obtain⟨t1,t2,rfl,h1,h2⟩:=h.split;obtain⟨a,b,s,g,l⟩:=z11 (hn n tN) h1;have hx2:=hx.app g 0;rw[show sp 0=[] from rfl,tZ,tZ]at hx2;obtain⟨N,g2,l2⟩:=WG (fun y hy=>hn y (tS _ hy)) hx2 h2;refine⟨(123::(sp a++s++sp b))++125::N,?_,.cons a b l (hn n tN).ok l2⟩;have e1:x++(t1++t2)=x++t1++t2:=by simp
  have e2:x'++((123::(sp a++s++sp b))++125::N)=x'++(123::(sp a++s++sp b)++[125])++N:=by simp
  rw[e1,e2];exact g2
def Qo (hp:Pk p){t:List Nat}(h:Lo (pT p) t):∃N,Gd t (p.1++N)/\LNt p.2 N:=by
 unfold pT at h;obtain⟨t1,t2,rfl,h1,h2⟩:=h.split;rw[Lo.word hp.w.ok h1];exact WG hp.ok hp.w.gd h2
def Qt:∀ {ps:List Pm} {t:List Nat},ps≠[]->(∀p∈ps,Pk p)->Lo (jn [32] (ps.map pT)) t->∃N,Gd t N/\LL ps N
 | [],t,h,_,_=>absurd rfl h
 | [p],t,_,hp,h=>by
  obtain⟨N,g,l⟩:=Qo (hp p tN) h;exact⟨_,g,.one (hp p tN).w l⟩
 | p::q::ps,t,_,hp,h=>by
  have h:Lo (pT p++[32]++jn [32] ((q::ps).map pT)) t:=h;rw[sF]at h;obtain⟨t1,t2,rfl,h1,h2⟩:=h.split;obtain⟨g,t3,rfl,h3,h4⟩:=h2.split;obtain⟨N,g1,l1⟩:=Qo (hp p tN) h1;obtain⟨M,g2,l2⟩:=Qt (by intro z;cases z) (fun x hx=>hp x (tS _ hx)) h4;obtain⟨k,hk⟩:=gap g1 g2 h3.one;rw[sF]at hk;exact⟨_,hk,.cons k (hp p tN).w l1 l2⟩
def BTx (T:List Nat)(d:D):Prop:=(∀r∈spl 10 T,zN r≠[])/\yb [.lst (((spl 10 T).map zN).map enW)]=.ok d
def uG (c:Nat):∀A:List (List Nat),A≠[]->(jn [c] A).length+1=(A.map List.length).sum+A.length
 | [],h=>absurd rfl h
 | [a],_=>by simp[jn]
 | a::b::r,_=>by
  have ih:=uG c (b::r) (by intro z;cases z);show (a++[c]++jn [c] (b::r)).length+1=_;rw[tH,tH,tG,sX,tF (a:=a)];show _+1+_+1=_;omega
def Za (s:List Nat):(zN s).length<=s.length:=by
 unfold zN;rw[List.length_reverse];have h1:=(List.dropWhile_suffix (l:=(s.dropWhile (·==32)).reverse) (·==32)).length_le;rw[List.length_reverse]at h1;have h2:=(List.dropWhile_suffix (l:=s) (·==32)).length_le;omega
def WB:∀A:List (List Nat),((A.map zN).map List.length).sum<=(A.map List.length).sum
 | []=>sL _
 | a::A=>by
  have:=WB A;have:=Za a;rw[tG,tG,tG,sX,sX];omega
def Wx (h1:1<=ps.length)(h2:ps.length<=200)(h:∀p∈ps,Pk p){t:List Nat}(ht:t.length<=900000)(hl:Lo (bT (.text ps)) t):BTx t (enB (.text ps)):=by
 have hl:Lo (jn [32] (ps.map pT)) t:=hl;obtain⟨N,g,l⟩:=Qt (by intro z;rw[z]at h1;simp at h1) h hl;refine⟨g.rows,?_⟩;have hn:=g.nrm;unfold nrm at hn;have hx:=uG 10 (spl 10 t) (wI 10 t);rw[uo]at hx;have hs:=WB (spl 10 t);refine Uw ps _ (by rw[tU];omega) (fun r hr=>?_) ?_ (by rw[tU];omega) (by rw[hn];exact l) (fun p hp=>by have:=(h p hp).le;omega) (by omega)
 ·obtain⟨q,hq,rfl⟩:=rN.mp hr;have h3:=Za q;have h4:=V6 [10] (spl 10 t) q hq;rw[uo]at h4;omega
 ·obtain⟨x,r,e,hx⟩:=l.hd;cases hsp:spl 10 t with
  | nil=>exact absurd hsp (wI 10 t)
  | cons p rest =>
   have hp:zN p≠[]:=g.rows p (by rw[hsp];exact tN);rw[hsp]at hn;cases hq:zN p with
   | nil=>exact absurd hq hp
   | cons y q =>
    refine⟨y,q,rest.map zN,by rw[tG,hq],?_⟩;rw[tG,hq]at hn;have:∃z,jn [32] ((y::q)::rest.map zN)=y::z:=by
     cases rest.map zN with
     | nil=>exact⟨q,rfl⟩
     | cons b c=>exact⟨_,rfl⟩
    obtain⟨z,e2⟩:=this;rw[hn,e]at e2;injection e2 with e3 _;rw[<-e3];exact hx
def tLT:yI=zr 4 (zh (zq 2 (eC (.str ""))) (zh (yY (zQ (za 0)) (.one 3) bX) (zp (za 2)))):=rfl
def isE (c:Nat)(d:D):Prop:=∃e,d=enW e/\Ex c e/\e.length<=4
def z5v (n:Int)(F:List Nat)(hF:F.length+4<=16777216)(x0 x3:Option D):∃e,Ex 32 e/\e.length<=4/\X1 [x0,some (.int n),some (enW F),x3]=.ok (.nx [x0,some (.int n),some (enW (F++e)),x3]):=by
 have d7:=dvD n 7;obtain⟨k,m4,hk,_⟩:=xq (n/7) 4 (by decide);obtain⟨x,hx,e,rfl,he,hl⟩:=Jg (.str " ") (.str "  ") (.str "\n") (.str " \n  ") (isE 32) ⟨sp 1,rfl,.b1 0,by decide⟩ ⟨sp 2,rfl,.b1 1,by decide⟩ ⟨[10],rfl,.b2 0 0,by decide⟩ ⟨[32,10,32,32],rfl,.b2 1 2,by decide⟩ k (by omega);refine⟨e,he,hl,?_⟩;have a1:=wK (a:=F) (b:=e) (by show _<=_;rw[tH];omega);unfold enW at *;unfold X1;simp only[zq,za,eC,ze,eL,zb,z8,jYa,tD,tE,tI,tM,d7,m4,hx,a1]
def z5x (n:Int)(F:List Nat)(hF:F.length+4<=16777216)(x0 x3:Option D):∃e,Ex 123 e/\e.length<=4/\X2 [x0,some (.int n),some (enW F),x3]=.ok (.nx [x0,some (.int n),some (enW (F++e)),x3]):=by
 have d7:=dvD n 7;obtain⟨k,m4,hk,_⟩:=xq (n/7) 4 (by decide);obtain⟨x,hx,e,rfl,he,hl⟩:=Jg (.str "") (.str "") (.str " ") (.str "\n") (fun d=>∃e,d=enW e/\Ex 123 (123::e)/\e.length<=3) ⟨[],rfl,.o1 0,by decide⟩ ⟨[],rfl,.o1 0,by decide⟩ ⟨[32],rfl,.o1 1,by decide⟩ ⟨[10],rfl,.o2 0 0,by decide⟩ k (by omega);refine⟨123::e,he,by rw[tF];omega,?_⟩;have a1:=wK (a:=F) (b:=[123]) (by show _<=_;rw[tH];show _+1<=_;omega);have a1:zL (.str (S F)) (.str "{")=.ok (.str (S (F++[123]))):=a1;have a2:=wK (a:=F++[123]) (b:=e) (by show _<=_;rw[tH,tH];show _+1+_<=_;omega);have e1:F++123::e=F++[123]++e:=by simp
 rw[e1];unfold enW at *;unfold X2;simp only[zq,za,eC,ze,eL,zb,z8,jYa,tD,tE,tI,tM,d7,m4,hx,a1,a2]
def z4R (n:Int)(F:List Nat)(hF:F.length+4<=16777216)(x0 x3:Option D):∃e,Ex 125 e/\e.length<=4/\X3 [x0,some (.int n),some (enW F),x3]=.ok (.nx [x0,some (.int n),some (enW (F++e)),x3]):=by
 have d7:=dvD n 7;obtain⟨k,m4,hk,_⟩:=xq (n/7) 4 (by decide);obtain⟨x,hx,e,rfl,he,hl⟩:=Jg (.str "") (.str "") (.str "  ") (.str "\n ") (fun d=>∃e,d=enW e/\Ex 125 (e++[125])/\e.length<=3) ⟨[],rfl,.c1 0,by decide⟩ ⟨[],rfl,.c1 0,by decide⟩ ⟨[32,32],rfl,.c1 2,by decide⟩ ⟨[10,32],rfl,.c2 0 1,by decide⟩ k (by omega);refine⟨e++[125],he,by rw[tH];show _+1<=_;omega,?_⟩;have a1:=wK (a:=F) (b:=e) (by show _<=_;rw[tH];omega);have a2:=wK (a:=F++e) (b:=[125]) (by show _<=_;rw[tH,tH];show _+_+1<=_;omega);have a2:zL (.str (S (F++e))) (.str "}")=.ok (.str (S (F++e++[125]))):=a2;have e1:F++(e++[125])=F++e++[125]:=by simp
 rw[e1];unfold enW at *;unfold X3;simp only[zq,za,eC,ze,eL,zb,z8,jYa,tD,tE,tI,tM,d7,m4,hx,a1,a2]
def z5n (n:Int)(F:List Nat)(hF:F.length+4<=16777216)(c:Nat)(x0:Option D):∃n' e,Ex c e/\e.length<=4/\bX [x0,some (.int n),some (enW F),some (.str (one c))]=.ok (.nx [x0,some (.int n'),some (enW (F++e)),some (.str (one c))]):=by
 obtain⟨v,hv,_⟩:=next n;have q1:eqR false (.str (one c)) (.str " ")=.ok (.bl (decide (c=32))):=Zj c 32;have q2:eqR false (.str (one c)) (.str "{")=.ok (.bl (decide (c=123))):=Zj c 123;have q3:eqR false (.str (one c)) (.str "}")=.ok (.bl (decide (c=125))):=Zj c 125
 by_cases h1:c=32
 ·obtain⟨e,he,hl,hx⟩:=z5v v F hF x0 (some (.str (one c)));refine⟨v,e,h1▸he,hl,?_⟩;rw[decide_eq_true h1]at q1;unfold bX;simp only[zh,zq,sIf,za,eC,ze,eL,zb,z8,zi,asB,jYa,tD,tE,tI,tM,vN,if_true,if_false,tK,hv,q1,hx]
 ·rw[decide_eq_false h1]at q1
  by_cases h2:c=123
  ·obtain⟨e,he,hl,hx⟩:=z5x v F hF x0 (some (.str (one c)));refine⟨v,e,h2▸he,hl,?_⟩;rw[decide_eq_true h2]at q2;unfold bX;simp only[zh,zq,sIf,za,eC,ze,eL,zb,z8,zi,asB,jYa,tD,tE,tI,tM,vN,if_true,if_false,tK,hv,q1,q2,hx]
  ·rw[decide_eq_false h2]at q2
   by_cases h3:c=125
   ·obtain⟨e,he,hl,hx⟩:=z4R v F hF x0 (some (.str (one c)));refine⟨v,e,h3▸he,hl,?_⟩;rw[decide_eq_true h3]at q3;unfold bX;simp only[zh,zq,sIf,za,eC,ze,eL,zb,z8,zi,asB,jYa,tD,tE,tI,tM,if_true,if_false,tK,hv,q1,q2,q3,hx]
   ·rw[decide_eq_false h3]at q3;refine⟨v,[c],.pl h1 h2 h3,(by show 1<=4;decide),?_⟩;have a1:=wK (a:=F) (b:=[c]) (by show _<=_;rw[tH];show _+1<=_;omega);have a1:zL (enW F) (.str (one c))=.ok (enW (F++[c])):=a1;unfold bX;simp only[zh,zq,sIf,za,eC,ze,eL,zb,z8,zi,asB,jYa,tD,tE,tI,tM,if_false,tK,hv,q1,q2,q3,a1]
def z2k (x0:Option D):∀(s:List Nat) (n:Int) (F:List Nat) (y3:Option D),F.length+4*s.length<=16777216->∃n' t z3,Lo s t/\xK (Tgt.one 3).asg bX (s.map Vr) [x0,some (.int n),some (enW F),y3]=.ok (.nx [x0,some (.int n'),some (enW (F++t)),z3])
 | [],n,F,y3,_=>⟨n,[],y3,.nil,by rw[tZ];rfl⟩
 | c::s,n,F,y3,hF=>by
  rw[tF]at hF;obtain⟨n1,e,he,hl,h1⟩:=z5n n F (by omega) c x0;obtain⟨n2,t,z3,ht,h2⟩:=z2k x0 s n1 (F++e) (some (.str (one c))) (by rw[tH];omega);refine⟨n2,e++t,z3,.cons he hl ht,?_⟩;have ha:(Tgt.one 3).asg (Vr c) [x0,some (.int n),some (enW F),y3]=.ok [x0,some (.int n),some (enW F),some (.str (one c))]:=rfl;rw[tG,uT,ha,jYa,h1,jYa,j3,<-sF];exact h2
def Uk {s:List Nat}(hs:s.length<=1000000)(n:Int):∃t,Lo s t/\yI [.str (S s),.int n]=.ok (enW t):=by
 obtain⟨n',t,z3,ht,h⟩:=z2k (some (.str (S s))) s n [] none (by simp;omega);refine⟨t,ht,?_⟩;rw[tO]at h;have hq:xk (.str (S s))=.ok (s.map Vr):=by show R.ok (L2.signs (S s))=_;rw[UQ]
 have h:xK (Tgt.one 3).asg bX (s.map Vr) [some (.str (S s)),some (.int n),some (.str ""),none]=_:=h;have eF:yY (zQ (za 0)) (.one 3) bX [some (.str (S s)),some (.int n),some (.str ""),none]=_:=vj (by
  show (za 0 _).bind xk=_;exact hq) h
 rw[tLT];simp only[zr,zh,zq,zp,za,eC,jYa,tG,tX,tF,tR,sA,tJ,tQ,tO,tD,tE,tI,tM,Nat.reduceAdd,Nat.reduceSub,tY,eF]
def UU {i j:Nat}{m:List Nat}(hm:Nice m)(hn:10∉m)(h:yb [.lst ([m].map enW)]=.ok d):BTx (sp i++m++sp j) d:=by
 have hs:spl 10 (sp i++m++sp j)=[sp i++m++sp j]:=wM (by
  intro z;rcases sC.mp z with z|z
  ·rcases sC.mp z with z|z
   ·exact jx i z
   ·exact hn z
  ·exact jx j z)
 refine⟨fun r hr=>?_,?_⟩
 ·rw[hs]at hr;rw[sG.mp hr,hm.str];exact hm.ne
 ·rw[hs,tG,tX,hm.str];exact h
def VD (i j:Nat):BTx (sp i++[126]++sp j) (enB .leaf):=UU ⟨⟨126,[],rfl,by decide,by decide⟩,⟨[],126,rfl,by decide,by decide⟩⟩ (by decide) VU
def LW.refl:∀ {us:List (List Nat)},us≠[]->LW us (jn [32] us)
 | [],h=>absurd rfl h
 | [u],_=>.one
 | u::v::us,_=>.cons 0 (LW.refl (by intro z;cases z))
def XC {us:List (List Nat)}(hne:us≠[])(h:∀u∈us,Wk u):Nice (jn [32] us)/\10∉jn [32] us:=by
 obtain⟨N,g,_⟩:=ZW hne h (Lo.refl _);refine⟨g.nice,fun z=>?_⟩;rcases (LW.refl hne).mem h _ z with y|y
 ·exact y.no.2.1 rfl
 ·omega
def WR (i j k:Nat)(hk:k<=10){ws:List (List Nat)}(h1:1<=ws.length)(h2:ws.length<=12)(h:∀w∈ws,Wk w):BTx (sp i++(61::sp (k+1)++jn [32] ws)++sp j) (enB (.head ws)):=by
 have hne:ws≠[]:=by intro z;rw[z]at h1;simp at h1
 obtain⟨n1,n2⟩:=XC hne h;have hl:=(YY h 12 h2).2;have hw:zO (32::(sp k++jn [32] ws))=ws:=by
  have e:32::(sp k++jn [32] ws)=sp (k+1)++jn [32] ws:=rfl;rw[e,X9];have:=(LW.refl hne).words h 0;rw[show sp 0=[] from rfl,tZ]at this;exact this
 refine UU ?_ ?_ (Uo (sp k++jn [32] ws) ws (by
  rw[tF,tF,tH];have:(sp k).length=k:=sW;omega) hw)
 ·obtain⟨r,y,e,hy⟩:=n1.lst;exact⟨⟨61,sp (k+1)++jn [32] ws,rfl,by decide,by decide⟩,⟨61::sp (k+1)++r,y,by rw[e];simp,hy⟩⟩
 ·intro z;rcases sC.mp z with z|z
  ·rcases sI.mp z with z|z
   ·omega
   ·exact jx _ z
  ·exact n2 z
def Vg {c:List (List Nat)}(h:Ck c):zO (cT c)=c/\124∉cT c/\10∉cT c:=by
 have hm:∀x∈jn [32] c,okS x\/x=32:=by
  by_cases hc:c=[]
  ·subst hc;intro x hx;cases hx
  ·exact (LW.refl hc).mem h.ok
 have hall:∀x∈cT c,okS x\/x=32:=by
  intro x hx;unfold cT at hx;rcases sI.mp hx with z|z
  ·exact .inr z
  ·rcases sC.mp z with z|z
   ·exact hm x z
   ·exact .inr (sG.mp z)
 refine⟨?_,fun z=>?_,fun z=>?_⟩
 ·have e:cT c=sp 1++(jn [32] c++sp 1):=rfl;rw[e,X9]
  by_cases hc:c=[]
  ·subst hc;rfl
  ·exact (LW.refl hc).words h.ok 1
 ·rcases hall _ z with y|y
  ·exact y.no.2.2.2.2.1 rfl
  ·omega
 ·rcases hall _ z with y|y
  ·exact y.no.2.1 rfl
  ·omega
structure It where
 i:Nat
 j:Nat
 cs:List (List Nat)
def It.tr (t:It):List Nat:=sp t.i++yu t.cs++sp t.j
structure It.ok (t:It):Prop where
 ne:t.cs≠[]
 nb:∀c∈t.cs,124∉c/\10∉c
 le:(yu t.cs).length<=3000
def jH (cs:List (List Nat)):Nice (yu cs):=⟨⟨124,_,rfl,by decide,by decide⟩,⟨124::jn [124] cs,124,rfl,by decide,by decide⟩⟩
def JO (c:List Nat):∀ {xs:List (List Nat)} {x:Nat},x∈jn c xs->(∃a∈xs,x∈a)\/x∈c
 | [],x,h=>by cases h
 | [a],x,h=>.inl ⟨a,tN,h⟩
 | a::b::r,x,h=>by
  have h:x∈a++c++jn c (b::r):=h;rcases sC.mp h with z|z
  ·rcases sC.mp z with z|z
   ·exact .inl ⟨a,tN,z⟩
   ·exact .inr z
  ·rcases JO c z with⟨q,hq,y⟩|y
   ·exact .inl ⟨q,tS _ hq,y⟩
   ·exact .inr y
def It.ok.nl {t:It}(h:t.ok):10∉t.tr:=by
 intro z;unfold It.tr yu at z;rcases sC.mp z with z|z
 ·rcases sC.mp z with z|z
  ·exact jx _ z
  ·rcases sI.mp z with z|z
   ·omega
   ·rcases sC.mp z with z|z
    ·rcases JO [124] z with⟨q,hq,y⟩|y
     ·exact (h.nb q hq).2 y
     ·have:=sG.mp y;omega
    ·have:=sG.mp z;omega
 ·exact jx _ z
def YX (its:List It)(hne:its≠[])(hl:its.length<=20)(h:∀t∈its,t.ok):BTx (jn [10] (its.map It.tr)) (enB (.table (its.map fun t=>t.cs.map zO))):=by
 have hs:spl 10 (jn [10] (its.map It.tr))=its.map It.tr:=ZY (by intro z;exact hne (rW.mp z)) fun p hp=>by
  obtain⟨t,ht,rfl⟩:=rN.mp hp;exact (h t ht).nl
 have hst:(its.map It.tr).map zN=(its.map fun t=>t.cs).map yu:=by
  rw[sR,sR];apply pH;intro t _;exact (jH t.cs).str t.i t.j
 refine⟨fun r hr=>?_,?_⟩
 ·rw[hs]at hr;obtain⟨t,ht,rfl⟩:=rN.mp hr;have:zN t.tr=yu t.cs:=(jH t.cs).str t.i t.j;rw[this];exact (jH t.cs).ne
 ·rw[hs,hst,WM (its.map fun t=>t.cs) (by intro z;exact hne (rW.mp z)) (by rw[tU];omega) (fun cs hcs=>by
   obtain⟨t,ht,rfl⟩:=rN.mp hcs;exact⟨(h t ht).ne,fun c hc=>((h t ht).nb c hc).1,by have:=(h t ht).le;omega⟩),sR]
  rfl
def mkr (e:Nat)(x:List Nat):List Nat:=match spl 32 x with
 | []=>[]
 | w::ws=>jn [32] (w::sp e::ws)
inductive LR:List (List Nat)->List (List Nat)->Prop
 | nil:LR [] []
 | cons {x:List Nat} {xs ys:List (List Nat)} (i j e:Nat):i<=2->j<=2->e<=1->LR xs ys->LR (x::xs) ((sp i++zN (mkr e x)++sp j)::ys)
def tLB:yU=zr 8 (zh (zq 2 (eL yi (z8 (za 0) zb))) (zh (sIf (zi (ze (eqR false) (ze ixD (za 0) (eC (.int 0))) (eC (.str "text")))) (zp (eL yI (z8 (za 2) (z8 (za 1) zb)))) zm) (zh (zq 3 (eL (fun ds=>.ok (.lst ds)) zb)) (zh (yY (zQ (eSm xM (za 2) (z8 (eC (.str "\n")) zb))) (.one 4) bLr) (zp (eSm y9 (eC (.str "\n")) (z8 (za 3) zb))))))):=rfl
def z2R (k:Nat)(hk:k<=2):slD (.str "  ") none (some (k:Int))=.ok (.str (S (sp k))):=by
 have:=z17 (s:=[32,32]) (by show 2<=_;decide) none (some (k:Int));rw[z0h]at this;have e:([32,32]:List Nat).take k=sp k:=by
  have:k=0\/k=1\/k=2:=by omega
  rcases this with rfl|rfl|rfl<;>rfl
 rw[e]at this;exact this
def z43 (k:Nat)(hk:k<2):kB (.str " ") (.int (k:Nat))=.ok (.str (S (sp k))):=by
 have:k=0\/k=1:=by omega
 rcases this with rfl|rfl<;>rfl
def UY (h1:D.imms xs=true)(h2:D.imms ys=true)(h3:xs.length+ys.length<=sizeLine):zL (.lst xs) (.lst ys)=.ok (.lst (xs++ys)):=if_pos ⟨h1,h2,h3⟩
def jh (k:Nat):(sp k).length=k:=sW
def z3S (x:List Nat)(hx:x.length<=1000000)(n:Int)(L:List D)(hL:L.length<1000)(x0 x2 x5 x6 x7:Option D):∃(n':Int) (i j e:Nat) (y5 y6 y7:Option D),i<=2/\j<=2/\e<=1 /\
  bLr [x0,some (.int n),x2,some (.lst L),some (enW x),x5,x6,x7]=.ok (.nx [x0,some (.int n'),x2,some (.lst (L++[enW (sp i++zN (mkr e x)++sp j)])),some (enW x),y5,y6,y7]):=by
 obtain⟨v,hv,_⟩:=next n;have d15:=dvD v 15;have d5:=dvD v 5;have d30:=dvD v 30;obtain⟨e,m15,he,_⟩:=xq (v/15) 2 (by decide);obtain⟨i,m5,hi,_⟩:=xq (v/5) 3 (by decide);obtain⟨j,m30,hj,_⟩:=xq (v/30) 3 (by decide);have s1:=jS 32 (s:=x) (by omega);have s1:xM (S x) [.str " "]=.ok (.lst ((spl 32 x).map enW)):=s1;have hlen:=uG 32 (spl 32 x) (wI 32 x);rw[uo]at hlen;cases hsp:spl 32 x with
 | nil=>exact absurd hsp (wI 32 x)
 | cons w ws =>
  rw[hsp]at s1 hlen;have hmk:mkr e x=jn [32] (w::sp e::ws):=by unfold mkr;rw[hsp]
  rw[tG,sX,tF]at hlen;have c1:slD (.lst ((w::ws).map enW)) none (some 1)=.ok (.lst ([w].map enW)):=by
   rw[W3 (qF _)];have:=VR (xs:=(w::ws).map enW) (b:=1) (by simp);exact congrArg (fun z=>R.ok (D.lst z)) this
  have c2:slD (.lst ((w::ws).map enW)) (some 1) none=.ok (.lst (ws.map enW)):=by
   rw[W3 (qF _)];have:=Zp (xs:=(w::ws).map enW) (a:=1) (by simp);exact congrArg (fun z=>R.ok (D.lst z)) this
  have u1:=z43 e (by omega);have a1:zL (.lst ([w].map enW)) (.lst [.str (S (sp e))])=.ok (.lst ([w].map enW++[.str (S (sp e))])):=UY (qF [w]) rfl (by rw[sizeLine_eq];show 1+1<=_;decide);have a1:zL (.lst ([w].map enW)) (.lst [.str (S (sp e))])=.ok (.lst ([w,sp e].map enW)):=a1;have a2:zL (.lst ([w,sp e].map enW)) (.lst (ws.map enW))=.ok (.lst ((w::sp e::ws).map enW)):=UY (qF [w,sp e]) (qF ws) (by rw[tU,tU,sizeLine_eq];show 2+_<=_;omega);have hsum:((w::sp e::ws).map List.length).sum+(w::sp e::ws).length*1<=2000010:=by
   rw[tG,tG,sX,sX,tF,tF,jh];omega
  have j1:=vD [32] (w::sp e::ws) (by show _+_*1<=_;omega);have j1:y9 " " [.lst ((w::sp e::ws).map enW)]=.ok (.str (S (mkr e x))):=by rw[hmk];exact j1
  have hml:(mkr e x).length<=2000010:=by
   rw[hmk];have:=um [32] (w::sp e::ws);have e1:[32].length=1:=rfl;rw[e1]at this;omega
  have t1:=Ql (s:=mkr e x) (by show _<=_;omega);have hsl:=Za (mkr e x);have p1:=z2R i (by omega);have p2:=z2R j (by omega);have a3:=wK (a:=sp i) (b:=zN (mkr e x)) (by show _<=_;rw[tH,jh];omega);have a4:=wK (a:=sp i++zN (mkr e x)) (b:=sp j) (by show _<=_;rw[tH,tH,jh,jh];omega);refine⟨v,i,j,e,some (.lst ((w::ws).map enW)),some (.lst ((w::sp e::ws).map enW)),some (.str (S (sp i++zN (mkr e x)))),by omega,by omega,by omega,?_⟩;have hL:L.length<16777216:=by omega
  unfold enW at *;unfold bLr W1 W5 W6 W7 W8;simp only[xw,xx,wc,zh,zq,za,eC,ze,eL,zb,z8,eSl,xD,yL,jYa,tD,tE,tI,tM,yD,yC,hv,s1,d15,m15,c1,c2,u1,a1,a2,d5,m5,j1,t1,p1,a3,d30,m30,p2,a4,hL]
def Kn (x0 x2:Option D):∀(xs:List (List Nat)) (n:Int) (L:List (List Nat)) (y4 y5 y6 y7:Option D),(∀x∈xs,x.length<=1000000)->L.length+xs.length<1000->∃n' ys z4 z5 z6 z7,LR xs ys/\xK (Tgt.one 4).asg bLr (xs.map enW) [x0,some (.int n),x2,some (.lst (L.map enW)),y4,y5,y6,y7]=.ok (.nx [x0,some (.int n'),x2,some (.lst ((L++ys).map enW)),z4,z5,z6,z7])
 | [],n,L,y4,y5,y6,y7,_,_=>⟨n,[],y4,y5,y6,y7,.nil,by rw[tZ];rfl⟩
 | x::xs,n,L,y4,y5,y6,y7,hx,hl=>by
  rw[tF]at hl;obtain⟨n1,i,j,e,u5,u6,u7,hi,hj,he,h1⟩:=z3S x (hx x tN) n (L.map enW) (by rw[tU];omega) x0 x2 y5 y6 y7;obtain⟨n2,ys,z4,z5,z6,z7,hr,h2⟩:=Kn x0 x2 xs n1 (L++[sp i++zN (mkr e x)++sp j]) (some (enW x)) u5 u6 u7 (fun y hy=>hx y (tS _ hy)) (by rw[tH];show _+1+_<_;omega);refine⟨n2,_,z4,z5,z6,z7,.cons i j e hi hj he hr,?_⟩;have ha:(Tgt.one 4).asg (enW x) [x0,some (.int n),x2,some (.lst (L.map enW)),y4,y5,y6,y7]=.ok [x0,some (.int n),x2,some (.lst (L.map enW)),some (enW x),y5,y6,y7]:=rfl;have e1:L.map enW++[enW (sp i++zN (mkr e x)++sp j)]=(L++[sp i++zN (mkr e x)++sp j]).map enW:=by rw[rA];rfl
  have e2:L++(sp i++zN (mkr e x)++sp j)::ys=L++[sp i++zN (mkr e x)++sp j]++ys:=by simp
  rw[e1]at h1;rw[tG,uT,ha,jYa,h1,jYa,j3,e2];exact h2
def LR.len {xs ys:List (List Nat)}(h:LR xs ys):ys.length=xs.length:=by
 induction h with
 | nil=>rfl
 | cons _ _ _ _ _ _ _ ih=>rw[tF,tF,ih]
def jg (d:D)(z:Str)(l:List D)(hd:d=.tup (.str z::l))(hz:eqR false (.str z) (.str "text")=.ok (.bl false))(T:List Nat)(hT:yi [d]=.ok (enW T))(hl:T.length<=90000)(hn:(spl 10 T).length<=20)(n:Int)(hs:∀ys,LR (spl 10 T) ys->(ys.map List.length).sum+ys.length<=360000):∃ys,LR (spl 10 T) ys/\yU [d,.int n]=.ok (enW (jn [10] ys)):=by
 have s1:=jS 10 (s:=T) (by omega);have s1:xM (S T) [.str "\n"]=.ok (.lst ((spl 10 T).map enW)):=s1;obtain⟨n',ys,z4,z5,z6,z7,hr,f⟩:=Kn (some d) (some (enW T)) (spl 10 T) n [] none none none none (fun x hx=>by
  have:=V6 [10] (spl 10 T) x hx;rw[uo]at this;omega) (by simp;omega)
 refine⟨ys,hr,?_⟩;rw[tO]at f;have f:xK (Tgt.one 4).asg bLr ((spl 10 T).map enW) [some d,some (.int n),some (enW T),some (.lst []),none,none,none,none]=_:=f;have eF:yY (zQ (eSm xM (za 2) (z8 (eC (.str "\n")) zb))) (.one 4) bLr [some d,some (.int n),some (enW T),some (.lst []),none,none,none,none]=_:=vj (by
  unfold enW at *;simp only[za,eC,zb,z8,zQ,xk,jYa,tD,tE,yD,yC,s1]) f
 have hq:=hs ys hr;have j1:=vD [10] ys (by show _+_*1<=_;omega);have j1:y9 "\n" [.lst (ys.map enW)]=.ok (enW (jn [10] ys)):=j1;have hi:ixD d (.int 0)=.ok (.str z):=by rw[hd];exact yV
 rw[tLB];simp only[zm,zr,zh,zq,zp,sIf,za,eC,ze,eL,zb,z8,zi,asB,jYa,tG,tX,tF,tR,sA,tJ,tQ,tO,tD,tE,tI,tM,Nat.reduceAdd,Nat.reduceSub,tY,if_false,tK,yD,yC,hT,hi,hz,eF,j1]
def Qn {e:Nat}(he:e<=1)(x:List Nat):(mkr e x).length<=x.length+2:=by
 have h1:=uG 32 (spl 32 x) (wI 32 x);rw[uo]at h1;unfold mkr;cases hs:spl 32 x with
 | nil=>exact rZ _
 | cons w ws =>
  rw[hs]at h1;have h2:=uG 32 (w::sp e::ws) (by intro z;cases z);rw[tG,sX,tF]at h1;rw[tG,tG,sX,sX,tF,tF,jh]at h2;show (jn [32] (w::sp e::ws)).length<=_;omega
def LR.sum {xs ys:List (List Nat)}(h:LR xs ys):(ys.map List.length).sum<=(xs.map List.length).sum+6*xs.length:=by
 induction h with
 | nil=>exact rZ _
 | @cons x xs ys i j e hi hj he _ ih =>
  have h1:=Qn he x;have h2:=Za (mkr e x);rw[tG,tG,sX,sX,tF,tH,tH,jh,jh];omega
def LR.bound {T:List Nat}(hT:T.length<=90000)(hn:(spl 10 T).length<=20){ys:List (List Nat)}(h:LR (spl 10 T) ys):(ys.map List.length).sum+ys.length<=100000:=by
 have h1:=h.sum;have h2:=h.len;have h3:=uG 10 (spl 10 T) (wI 10 T);rw[uo]at h3;omega
def Kg (c e:Nat)(hc:c≠32)(r:List Nat):mkr e (c::32::r)=c::(sp (e+1)++32::r):=by
 have h:spl 32 (c::32::r)=[c]::spl 32 r:=by
  have:=VM (c:=32) (a:=[c]) (by simpa using fun z=>hc z.symm) r;exact this
 unfold mkr;rw[h];show jn [32] ([c]::sp e::spl 32 r)=_;rw[uS _ _ (by intro z;cases z),uS _ _ (wI 32 r),uo];show[c]++[32]++(sp e++[32]++r)=c::(32::sp e++32::r);simp
def z0w (e:Nat):mkr e [126]=[126]++sp (e+1):=by
 have h:spl 32 [126]=[[126]]:=wM (by decide);unfold mkr;rw[h]
 rfl
def LR.one {x:List Nat}{ys:List (List Nat)}(h:LR [x] ys):∃i j e,i<=2/\j<=2/\e<=1/\ys=[sp i++zN (mkr e x)++sp j]:=by
 cases h with
 | cons i j e hi hj he h =>
  cases h;exact⟨i,j,e,hi,hj,he,rfl⟩
def nice_126:Nice [126]:=⟨⟨126,[],rfl,by decide,by decide⟩,⟨[],126,rfl,by decide,by decide⟩⟩
def z3Z (e:Nat)(r:List Nat):sp (e+1)++32::r=sp (e+1+1)++r:=by
 have:sp (e+1)++32::r=sp (e+1)++sp 1++r:=by show _=sp (e+1)++[32]++r;simp
 rw[this,Y1]
def jw {r:List (List (List Nat))}(h:Rk r):It.ok ⟨0,0,r.map cT⟩/\(r.map cT).map zO=r:=by
 refine⟨⟨?_,?_,?_⟩,?_⟩
 ·intro z;have:=h.ge;rw[rW.mp z]at this;simp at this
 ·intro c hc;obtain⟨q,hq,rfl⟩:=rN.mp hc;exact (Vg (h.ok q hq)).2
 ·have:=(V0 h).1;exact rD this (by decide)
 ·rw[sR];have:r.map (zO ∘ cT)=r.map id:=pH fun c hc=>(Vg (h.ok c hc)).1;rw[this,pG]
def z5c {r:List (List (List Nat))}(h:Rk r):10∉rT r:=by
 have:=(jw h).1.nl;unfold It.tr at this;rw[show sp 0=[] from rfl,tO,tZ]at this;exact this
def z3O {r:List (List (List Nat))}(h:Rk r){e:Nat}(he:e<=1):∃cs,zN (mkr e (rT r))=yu cs/\cs≠[]/\(∀c∈cs,124∉c/\10∉c)/\(yu cs).length<=3000/\cs.map zO=r:=by
 obtain⟨⟨q1,q2,q3⟩,q4⟩:=jw h;cases r with
 | nil=>have:=h.ge;simp at this
 | cons c0 r' =>
  have e1:rT (c0::r')=124::32::(jn [124] ((jn [32] c0++[32])::r'.map cT)++[124]):=by
   unfold rT yu;have hc:(c0::r').map cT=([32]++(jn [32] c0++[32]))::r'.map cT:=rfl;have:jn [124] ((c0::r').map cT)=32::jn [124] ((jn [32] c0++[32])::r'.map cT):=by rw[hc,Zg];rfl
   rw[this]
   rfl
  have e2:mkr e (rT (c0::r'))=yu ((sp (e+1)++cT c0)::r'.map cT):=by
   rw[e1,Kg 124 e (by decide)];unfold yu;rw[Zg [124] (sp (e+1)) (cT c0)];have:jn [124] (cT c0::r'.map cT)=32::jn [124] ((jn [32] c0++[32])::r'.map cT):=Zg [124] [32] (jn [32] c0++[32]) (r'.map cT);rw[this];simp
  refine⟨(sp (e+1)++cT c0)::r'.map cT,?_,by (intro z;cases z),fun c hc=>?_,?_,?_⟩
  ·rw[e2];exact (jH _).str0
  ·rcases sI.mp hc with z|z
   ·rw[z];have:=q2 (cT c0) (by rw[tG];exact tN);refine⟨fun y=>?_,fun y=>?_⟩
    ·rcases sC.mp y with y|y
     ·have:=rK y;omega
     ·exact this.1 y
    ·rcases sC.mp y with y|y
     ·exact jx _ y
     ·exact this.2 y
   ·exact q2 c (by rw[tG];exact tS _ z)
  ·have h1:=Qn he (rT (c0::r'));rw[e2]at h1;have h2:=(V0 h).1;omega
  ·rw[tG,X9];exact q4
def Ww:∀ {rs:List (List (List (List Nat)))} {ys:List (List Nat)},(∀r∈rs,Rk r)->LR (rs.map rT) ys->∃its:List It,ys=its.map It.tr/\(∀t∈its,t.ok)/\(its.map fun t=>t.cs.map zO)=rs
 | [],ys,_,h=>by
  cases h;exact⟨[],rfl,fun t ht=>(by cases ht),rfl⟩
 | r::rs,ys,hr,h=>by
  rw[tG]at h;cases h with
  | cons i j e hi hj he h =>
   obtain⟨cs,a1,a2,a3,a4,a5⟩:=z3O (hr r tN) he;obtain⟨its,b1,b2,b3⟩:=Ww (fun x hx=>hr x (tS _ hx)) h;refine⟨⟨i,j,cs⟩::its,?_,fun t ht=>?_,?_⟩
   ·rw[a1,b1];rfl
   ·rcases sI.mp ht with z|z
    ·rw[z];exact⟨a2,a3,a4⟩
    ·exact b2 t z
   ·rw[tG,b3];show cs.map zO::rs=_;rw[a5]
def z1J {ws:List (List Nat)}(h1:1<=ws.length)(h:∀w∈ws,Wk w):10∉bT (.head ws):=by
 have hne:ws≠[]:=by intro z;rw[z]at h1;simp at h1
 obtain⟨_,n2⟩:=XC hne h;intro z;have z:10∈61::32::jn [32] ws:=z;rcases sI.mp z with z|z
 ·omega
 ·rcases sI.mp z with z|z
  ·omega
  ·exact n2 z
def WU (h:okB b)(n:Int):∃L,yU [enB b,.int n]=.ok (enW L)/\BTx L (enB b)/\L.length<=360000:=by
 have hT:=UZ h;have hle:=V3 h;have lenB:∀ys:List (List Nat),(spl 10 (bT b)).length<=20->LR (spl 10 (bT b)) ys->(jn [10] ys).length<=360000:=fun ys hn hr=>by
  have h1:=hr.bound hle hn;have h2:=um [10] ys;have e:[10].length=1:=rfl;rw[e]at h2;omega
 cases h with
 | leaf =>
  have hs:spl 10 (bT .leaf)=[[126]]:=wM (by decide);have hn:(spl 10 (bT .leaf)).length<=20:=by rw[hs];decide
  obtain⟨ys,hr,hf⟩:=jg (enB .leaf) "leaf" [] rfl (eqs _ _ _ (by decide +kernel)) _ hT hle hn n (fun ys hr=>rD (hr.bound hle hn) (by decide));refine⟨_,hf,?_,lenB ys hn hr⟩;rw[hs]at hr;obtain⟨i,j,e,_,_,_,rfl⟩:=hr.one;show BTx (sp i++zN (mkr e [126])++sp j) _;have:zN (mkr e [126])=[126]:=by
   rw[z0w];have:=nice_126.str 0 (e+1);exact this
  rw[this];exact VD i j
 | @head ws h1 h2 h =>
  have hs:spl 10 (bT (.head ws))=[bT (.head ws)]:=wM (z1J h1 h);have hn:(spl 10 (bT (.head ws))).length<=20:=by rw[hs];show 1<=20;decide
  obtain⟨ys,hr,hf⟩:=jg (enB (.head ws)) "head" _ rfl (eqs _ _ _ (by decide +kernel)) _ hT hle hn n (fun ys hr=>rD (hr.bound hle hn) (by decide));refine⟨_,hf,?_,lenB ys hn hr⟩;rw[hs]at hr;obtain⟨i,j,e,_,_,he,rfl⟩:=hr.one;have hne:ws≠[]:=by intro z;rw[z]at h1;simp at h1
  obtain⟨n1,_⟩:=XC hne h;have e1:mkr e (bT (.head ws))=61::sp (e+1+1)++jn [32] ws:=by
   show mkr e (61::32::jn [32] ws)=_;rw[Kg 61 e (by decide),z3Z]
   rfl
  have e2:zN (mkr e (bT (.head ws)))=61::sp (e+1+1)++jn [32] ws:=by
   rw[e1];obtain⟨r,y,e,hy⟩:=n1.lst;exact Nice.str0 ⟨⟨61,_,rfl,by decide,by decide⟩,⟨_,y,by rw[e,<-sF],hy⟩⟩
  show BTx (sp i++zN (mkr e (bT (.head ws)))++sp j) _;rw[e2];exact WR i j (e+1) (by omega) h1 h2 h
 | @table rs h1 h2 h =>
  have hs:spl 10 (bT (.table rs))=rs.map rT:=ZY (by intro z;rw[rW.mp z]at h1;simp at h1) (fun p hp=>by
   obtain⟨r,hr,rfl⟩:=rN.mp hp;exact z5c (h r hr))
  have hn:(spl 10 (bT (.table rs))).length<=20:=by rw[hs,tU];exact h2
  obtain⟨ys,hr,hf⟩:=jg (enB (.table rs)) "table" _ rfl (eqs _ _ _ (by decide +kernel)) _ hT hle hn n (fun ys hr=>rD (hr.bound hle hn) (by decide));refine⟨_,hf,?_,lenB ys hn hr⟩;rw[hs]at hr;obtain⟨its,rfl,b2,b3⟩:=Ww h hr;have hl:its.length=rs.length:=by rw[<-b3,tU]
  have:=YX its (by intro z;rw[z]at hl;simp at hl;omega) (by omega) b2;rw[b3]at this;exact this
 | @text ps h1 h2 h hn =>
  obtain⟨t,ht,hf⟩:=Uk (s:=bT (.text ps)) (by omega) n;have hl:=ht.len;refine⟨t,?_,Wx h1 h2 h (by omega) ht,by omega⟩;have q:=eqs "text" "text" true (by decide +kernel);have hi:ixD (enB (.text ps)) (.int 0)=.ok (.str "text"):=yV;rw[tLB];have hf:yI [enW (bT (.text ps)),.int n]=.ok (enW t):=hf;simp only[zm,zr,zh,zq,zp,sIf,za,eC,ze,eL,zb,z8,zi,asB,jYa,tG,tX,tF,tR,sA,tJ,tQ,tO,tD,tE,tI,tM,Nat.reduceAdd,Nat.reduceSub,tY,if_true,hT,hi,q,hf]
def jO (h:okB b):BTx (bT b) (enB b):=by
 have hle:=V3 h;cases h with
 | leaf=>exact VD 0 0
 | @head ws h1 h2 h =>
  have:=WR 0 0 0 (by decide) h1 h2 h;rw[show sp 0=[] from rfl,tO,tZ]at this;exact this
 | @text ps h1 h2 h hn=>exact Wx h1 h2 h (by omega) (Lo.refl _)
 | @table rs h1 h2 h =>
  have h3:=YX (rs.map fun r=>⟨0,0,r.map cT⟩) (by intro z;rw[rW.mp z]at h1;simp at h1) (by rw[tU];exact h2) (fun t ht=>by
   obtain⟨r,hr,rfl⟩:=rN.mp ht;exact (jw (h r hr)).1)
  rw[sR,sR]at h3;have e1:rs.map (It.tr ∘ fun r=>⟨0,0,r.map cT⟩)=rs.map rT:=pH fun r _=>by
   show sp 0++yu (r.map cT)++sp 0=_;rw[show sp 0=[] from rfl,tO,tZ]
   rfl
  have e2:rs.map ((fun t:It=>t.cs.map zO) ∘ fun r=>⟨0,0,r.map cT⟩)=rs.map id:=pH fun r hr=>(jw (h r hr)).2;rw[e1,e2,pG]at h3;exact h3
def Z7:∀(B:List (List Nat)) (G:List (List (List Nat))),(∀r∈B,zN r=[])->B.foldl wU (G,false)=(G,false)
 | [],G,_=>rfl
 | r::B,G,h=>by
  rw[pF];have:wU (G,false) r=(G,false):=by unfold wU;rw[if_pos (h r tN)]
  rw[this];exact Z7 B G fun x hx=>h x (tS _ hx)
def Kd (r:List Nat)(B:List (List Nat))(G:List (List (List Nat)))(w:Bool)(h:∀x∈r::B,zN x=[]):(r::B).foldl wU (G,w)=(G,false):=by
 rw[pF];have:wU (G,w) r=(G,false):=by unfold wU;rw[if_pos (h r tN)]
 rw[this];exact Z7 B G fun x hx=>h x (tS _ hx)
def z0G:∀(R:List (List Nat)) (G:List (List (List Nat))) (X:List (List Nat)),(∀r∈R,zN r≠[])->R.foldl wU (G++[X],true)=(G++[X++R.map zN],true)
 | [],G,X,_=>by rw[tX,tZ];rfl
 | r::R,G,X,h=>by
  rw[pF];have:wU (G++[X],true) r=(G++[X++[zN r]],true):=by
   unfold wU;rw[if_neg (h r tN),if_pos rfl];simp
  rw[this,z0G R G _ fun x hx=>h x (tS _ hx),tG,sF]
  rfl
def z2s (R:List (List Nat))(hne:R≠[])(G:List (List (List Nat)))(h:∀r∈R,zN r≠[]):R.foldl wU (G,false)=(G++[R.map zN],true):=by
 cases R with
 | nil=>exact absurd rfl hne
 | cons r R =>
  rw[pF];have:wU (G,false) r=(G++[[zN r]],true):=by
   unfold wU;rw[if_neg (h r tN)];simp
  rw[this,z0G R G _ fun x hx=>h x (tS _ hx)]
  rfl
abbrev Ps:Type:=List (List (List Nat)×D)
def TXr (s:List Nat)(ps:Ps):Prop:=(∀G,((spl 10 s).foldl wU (G,false)).1=G++ps.map (·.1))/\∀p∈ps,yb [.lst (p.1.map enW)]=.ok p.2
def Blk (B:List Nat):Prop:=∀r∈spl 10 B,zN r=[]
def K7 {B:List Nat}(h:Blk B):TXr B []:=⟨fun G=>by rw[Z7 _ G h,tX,tZ],fun p hp=>by cases hp⟩
def VJ {B s:List Nat}(h:Blk B)(hs:TXr s ps):TXr (B++10::s) ps:=by
 refine⟨fun G=>?_,hs.2⟩;rw[qQ,List.foldl_append,Z7 _ G h];exact hs.1 G
def z12 {T:List Nat}(h:BTx T d):TXr T [((spl 10 T).map zN,d)]:=by
 refine⟨fun G=>?_,fun p hp=>?_⟩
 ·rw[z2s _ (wI 10 T) G h.1]
  rfl
 ·rw[sG.mp hp];exact h.2
def Z9 {T B s:List Nat}(h:BTx T d)(hb:Blk B)(hs:TXr s ps):TXr (T++10::(B++10::s)) (((spl 10 T).map zN,d)::ps):=by
 refine⟨fun G=>?_,fun p hp=>?_⟩
 ·rw[qQ,qQ,List.foldl_append,List.foldl_append,z2s _ (wI 10 T) G h.1];cases hB:spl 10 B with
  | nil=>exact absurd hB (wI 10 B)
  | cons r B' =>
   unfold Blk at hb;rw[hB]at hb;rw[Kd r B' _ true hb,hs.1,tG,sF]
   rfl
 ·rcases sI.mp hp with z|z
  ·rw[z];exact h.2
  ·exact hs.2 p z
def X4 (l:List Nat):zN (l++[32])=zN l:=by
 obtain⟨i,m,rfl,hm⟩:=jr l;obtain⟨m',j,e,hm'⟩:=YH m;rcases hm' with hm'|hm'
 ·subst hm';rw[e];have e1:sp i++([]++sp j)++[32]=sp (i+j+1):=by
   show sp i++sp j++sp 1=_;rw[Y1,Y1]
  have e2:sp i++([]++sp j)=sp (i+j):=Y1 i j;rw[e1,e2,Xx,Xx]
 ·have h1:∃x r,m'=x::r/\x≠32:=by
   obtain⟨r,y,e3,hy⟩:=hm';cases m' with
   | nil=>have:=congrArg List.length e3;simp at this
   | cons a q =>
    rcases hm with hm|⟨x,r2,hm,hx⟩
    ·rw[hm]at e;cases e
    ·rw[hm]at e;injection e with e4 _;exact⟨a,q,rfl,by rw[<-e4];exact hx⟩
  rw[e];have e1:sp i++(m'++sp j)++[32]=sp i++m'++sp (j+1):=by
   have:sp (j+1)=sp j++[32]:=(Y1 j 1).symm;rw[this];simp
  have e2:sp i++(m'++sp j)=sp i++m'++sp j:=by simp
  rw[e1,e2,wL h1 hm',wL h1 hm']
def z4k {T:List Nat}(h:BTx T d):BTx (T++[32]) d:=by
 obtain⟨A,l,e⟩:=VF T;have e2:spl 10 (T++[32])=A++[l++[32]]:=by
  obtain⟨p,r,q1,q2⟩:=vQ T A l e [32];rw[wM (by decide)]at q1;cases q1;exact q2
 have e3:(spl 10 (T++[32])).map zN=(spl 10 T).map zN:=by
  rw[e,e2,rA,rA,tG,tG,X4]
 refine⟨fun r hr=>?_,by rw[e3];exact h.2⟩;rw[e2]at hr;rcases sC.mp hr with z|z
 ·exact h.1 r (by rw[e];exact sE _ z)
 ·rw[sG.mp z,X4];exact h.1 l (by rw[e];simp)
def Jl:Blk []:=fun r hr=>by rw[sG.mp (show r∈[[]] from hr)];rfl
def z2D:Blk [32]:=fun r hr=>by
 have:spl 10 [32]=[[32]]:=wM (by decide);rw[this]at hr;rw[sG.mp hr];exact Xx 1
def z4P:Blk [10]:=fun r hr=>by
 have:spl 10 [10]=[[],[]]:=rfl;rw[this]at hr;rcases sI.mp hr with z|z
 ·rw[z];rfl
 ·rw[sG.mp z];rfl
def Xb:∀(bms:List Bm),(∀b∈bms,okB b)->∃ps:Ps,TXr (jn [10,10] (bms.map bT)) ps/\ps.map (·.2)=bms.map enB
 | [],_=>⟨[],K7 Jl,rfl⟩
 | [b],h=>⟨_,z12 (jO (h b tN)),rfl⟩
 | b::c::r,h=>by
  obtain⟨ps,h1,h2⟩:=Xb (c::r) fun x hx=>h x (tS _ hx);have h3:=Z9 (jO (h b tN)) Jl h1;refine⟨((spl 10 (bT b)).map zN,enB b)::ps,?_,by rw[tG,h2];rfl⟩
  ·show TXr (bT b++[10,10]++jn [10,10] ((c::r).map bT)) _;have e:bT b++[10,10]++jn [10,10] ((c::r).map bT)=bT b++10::([]++10::jn [10,10] ((c::r).map bT)):=by simp
   rw[e];exact h3
def tLO:xU=zr 4 (zh (zq 2 (ze ixD (eL (fun ds=>.ok (.lst ds)) (z8 (eC (.str "")) (z8 (eC (.str "\n")) (z8 (eC (.str " \n\n")) zb)))) (ze y0 (za 1) (eC (.int 3))))) (zh (yY (zQ (za 0)) (.one 3) bLo) (zp (za 2)))):=rfl
def z2O (a b c:D)(p:D->Prop)(ha:p a)(hb:p b)(hc:p c)(k:Nat)(hk:k<3):∃x,ixD (.lst [a,b,c]) (.int (k:Nat))=.ok x/\p x:=by
 refine⟨_,YV (xs:=[a,b,c]) hk,?_⟩;have:k=0\/k=1\/k=2:=by omega
 rcases this with rfl|rfl|rfl<;>assumption
def z0H (q:List Nat):Prop:=q.length<=4/\∀(T:List Nat) (d:D),BTx T d->∃rows,∀(s:List Nat) (ps:Ps),TXr s ps->TXr (T++q++s) ((rows,d)::ps)
def z5r:z0H [10,10]:=⟨by decide,fun T d h=>⟨_,fun s ps hs=>by
 have:=Z9 h Jl hs;have e:T++[10,10]++s=T++10::([]++10::s):=by simp
 rw[e];exact this⟩⟩
def z5l:z0H [32,10,32,10]:=⟨by decide,fun T d h=>⟨_,fun s ps hs=>by
 have:=Z9 (z4k h) z2D hs;have e:T++[32,10,32,10]++s=T++[32]++10::([32]++10::s):=by simp
 rw[e];exact this⟩⟩
def z5R:z0H [10,10,10]:=⟨by decide,fun T d h=>⟨_,fun s ps hs=>by
 have:=Z9 h z4P hs;have e:T++[10,10,10]++s=T++10::([10]++10::s):=by simp
 rw[e];exact this⟩⟩
def z3v (h:okB b)(n:Int)(F:List Nat)(hF:F.length+360010<=16777216)(x0:Option D):∃n' L q,BTx L (enB b)/\z0H q/\(L++q).length<=360004/\bLo [x0,some (.int n),some (enW F),some (enB b)]=.ok (.nx [x0,some (.int n'),some (enW (F++(L++q))),some (enB b)]):=by
 obtain⟨v,hv,_⟩:=next n;obtain⟨L,hL,bL,lL⟩:=WU h v;have d5:=dvD v 5;obtain⟨k,m3,hk,_⟩:=xq (v/5) 3 (by decide);obtain⟨x,hx,q,rfl,hq⟩:=z2O (.str "\n\n") (.str " \n \n") (.str "\n\n\n") (fun d=>∃q,d=enW q/\z0H q) ⟨[10,10],rfl,z5r⟩ ⟨[32,10,32,10],rfl,z5l⟩ ⟨[10,10,10],rfl,z5R⟩ k (by omega);have hql:=hq.1;have a1:=wK (a:=F) (b:=L) (by show _<=_;rw[tH];omega);have a2:=wK (a:=F++L) (b:=q) (by show _<=_;rw[tH,tH];omega);rw[sF]at a2;refine⟨v,L,q,bL,hq,by rw[tH];omega,?_⟩;unfold enW at *;unfold bLo;simp only[zh,zq,za,eC,ze,eL,zb,z8,jYa,tD,tE,tI,tM,hv,hL,a1,d5,m3,hx,a2]
def z0b (x0:Option D):∀(bms:List Bm) (n:Int) (F:List Nat) (y3:Option D),(∀b∈bms,okB b)->F.length+bms.length*360004+360010<=16777216->∃n' t z3 ps,TXr t ps/\ps.map (·.2)=bms.map enB/\t.length<=bms.length*360004/\xK (Tgt.one 3).asg bLo (bms.map enB) [x0,some (.int n),some (enW F),y3]=.ok (.nx [x0,some (.int n'),some (enW (F++t)),z3])
 | [],n,F,y3,_,_=>⟨n,[],y3,[],K7 Jl,rfl,rZ _,by rw[tZ];rfl⟩
 | b::bms,n,F,y3,h,hF=>by
  rw[tF,pL]at hF;obtain⟨n1,L,q,bL,hq,lq,h1⟩:=z3v (h b tN) n F (by omega) x0;obtain⟨n2,t,z3,ps,t1,t2,t3,h2⟩:=z0b x0 bms n1 (F++(L++q)) (some (enB b)) (fun x hx=>h x (tS _ hx)) (by rw[tH];omega);obtain⟨rows,hrows⟩:=hq.2 L (enB b) bL;refine⟨n2,L++q++t,z3,(rows,enB b)::ps,hrows t ps t1,by rw[tG,t2];rfl,by rw[tH,tF,pL];omega,?_⟩;have ha:(Tgt.one 3).asg (enB b) [x0,some (.int n),some (enW F),y3]=.ok [x0,some (.int n),some (enW F),some (enB b)]:=rfl;have e:F++(L++q++t)=F++(L++q)++t:=by simp
  rw[tG,uT,ha,jYa,h1,jYa,j3,e];exact h2
def Pre (p:List Nat):Prop:=p.length<=3/\∀s ps,TXr s ps->TXr (p++s) ps
def z5E:Pre []:=⟨by decide,fun s ps h=>h⟩
def z5C:Pre [10]:=⟨by decide,fun s ps h=>VJ Jl h⟩
def z4T:Pre [32,10,10]:=⟨by decide,fun s ps h=>by
 have h1:=VJ Jl h;exact VJ z2D h1⟩
def loose (bms:List Bm)(h:∀b∈bms,okB b)(hl:bms.length<=40)(n:Int):∃s ps,TXr s ps/\ps.map (·.2)=bms.map enB/\s.length<16777000/\xU [.lst (bms.map enB),.int n]=.ok (enW s):=by
 obtain⟨k,m3,hk,_⟩:=xq n 3 (by decide);obtain⟨x,hx,p,rfl,hp⟩:=z2O (.str "") (.str "\n") (.str " \n\n") (fun d=>∃q,d=enW q/\Pre q) ⟨[],rfl,z5E⟩ ⟨[10],rfl,z5C⟩ ⟨[32,10,10],rfl,z4T⟩ k (by omega);have hpl:=hp.1;obtain⟨n',t,z3,ps,t1,t2,t3,f⟩:=z0b (some (.lst (bms.map enB))) bms n p none h (by omega);refine⟨p++t,ps,hp.2 t ps t1,t2,by rw[tH];omega,?_⟩;have eF:yY (zQ (za 0)) (.one 3) bLo [some (.lst (bms.map enB)),some (.int n),some (enW p),none]=_:=vj (by simp only[za,zQ,xk,jYa,tD]) f;rw[tLO];simp only[zr,zh,zq,zp,za,eC,ze,eL,zb,z8,jYa,tG,tX,tF,tR,sA,tJ,tQ,tO,tD,tE,tI,tM,Nat.reduceAdd,Nat.reduceSub,tY,m3,hx,eF]
def L1:Tn->R Fl:=(zq 1 (eL xH (z8 (za 0) (z8 (eC (.int 0)) zb))))
def L2:Tn->R Fl:=(zq 2 (eL vC (z8 (za 1) zb)))
def L3:Tn->R Fl:=(zq 3 (eSm y9 (eC (.str "\n\n")) (z8 (xl [none] (zQ (za 1)) (.one 0) (fun _=>.ok true) (eL yi (z8 (za 0) zb))) zb)))
def L4:Tn->R Fl:=(zq 4 (eL xJ (z8 (za 2) zb)))
def L5:Tn->R Fl:=(sIf (bOr (yh (zi (eUn (xO "str") (za 4)))) (bOr (zi (ze (eqR true) (za 4) (za 3))) (zi (ze (eqR true) (za 2) (za 1))))) (zp (eC (.bl false))) zm)
def L6:Tn->R Fl:=(sIf (bOr (yh (zi (eL (fun ds=>qi (yX ds)) (z8 (eL vA (z8 (za 3) zb)) (z8 (za 1) zb))))) (yh (zi (eL (fun ds=>qi (yX ds)) (z8 (eL vA (z8 (za 3) zb)) (z8 (za 1) zb)))))) (zp (eC (.bl false))) zm)
def L7:Tn->R Fl:=(sIf (yh (zi (eL (fun ds=>qi (yX ds)) (z8 (eL vA (z8 (eL xU (z8 (za 1) (z8 (eL zW (z8 (za 0) (z8 (eC (.int 8)) zb))) zb))) zb)) (z8 (za 1) zb))))) (zp (eC (.bl false))) zm)
def L8:Tn->R Fl:=(zq 5 (eL zW (z8 (za 0) (z8 (eC (.int 9)) zb))))
def L9:Tn->R Fl:=(zq 6 (ze y0 (za 5) (ze zL (eL yE (z8 (za 1) zb)) (eC (.int 1)))))
def L10:Tn->R Fl:=(sIf (yh (zi (eL zU (z8 (eL xA (z8 (za 1) (z8 (ze yf (za 5) (eC (.int 300))) zb))) zb)))) (zp (eC (.bl false))) zm)
def L11:Tn->R Fl:=(zq 7 (eL (fun ds=>.ok (.lst ds)) (z8 (eL (fun ds=>.ok (.tup ds)) (z8 (eC (.str "head")) (z8 (eL (fun ds=>.ok (.tup ds)) zb) zb))) (z8 (eL (fun ds=>.ok (.tup ds)) (z8 (eC (.str "leaf")) (z8 (eL (fun ds=>.ok (.tup ds)) zb) zb))) (z8 (eL (fun ds=>.ok (.tup ds)) (z8 (eC (.str "text")) (z8 (eL (fun ds=>.ok (.tup ds)) zb) zb))) (z8 (eC .non) (z8 (eL (fun ds=>.ok (.tup ds)) (z8 (eC (.str "table")) (z8 (eL (fun ds=>.ok (.tup ds)) (z8 (eL (fun ds=>.ok (.tup ds)) zb) zb)) zb))) (z8 (eL (fun ds=>.ok (.tup ds)) (z8 (eC (.str "head")) (z8 (eL (fun ds=>.ok (.tup ds)) (z8 (eC (.str "a b")) zb)) zb))) zb))))))))
def L12:Tn->R Fl:=(zq 8 (qm (ze ixD (za 7) (ze y0 (ze yf (za 5) (eC (.int 50))) (eC (.int 6))))))
def L13:Tn->R Fl:=(sIf (yh (zi (eL zU (z8 (ze zL (ze zL (eSl (za 1) xD (yL (za 6))) (eL (fun ds=>.ok (.lst ds)) (z8 (za 8) zb))) (eSl (za 1) (yL (za 6)) xD)) zb)))) (zp (eC (.bl false))) zm)
def L14:Tn->R Fl:=(sIf (zi (ze (eqR false) (za 1) (eL (fun ds=>.ok (.lst ds)) zb))) (zp (eC (.bl true))) zm)
def L15:Tn->R Fl:=(zq 6 (ze y0 (za 6) (eL yE (z8 (za 1) zb))))
def L16:Tn->R Fl:=(zq 8 (eL w6 (z8 (ze ixD (za 1) (za 6)) (z8 (ze yf (za 5) (eC (.int 300))) zb))))
def L17:Tn->R Fl:=(zp (eL zU (z8 (ze zL (ze zL (eSl (za 1) xD (yL (za 6))) (eL (fun ds=>.ok (.lst ds)) (z8 (za 8) zb))) (eSl (za 1) (yL (ze zL (za 6) (eC (.int 1)))) xD)) zb)))
def tL:F_law=zr 9 (zh L1 (zh L2 (zh L3 (zh L4 (zh L5 (zh L6 (zh L7 (zh L8 (zh L9 (zh L10 (zh L11 (zh L12 (zh L13 (zh L14 (zh L15 (zh L16 L17)))))))))))))))):=rfl
def z2C:∀ {bs:List D} {d:D},d∈bs->bn d<=bns bs
 | x::bs,d,h=>by
  unfold bns;rw[tG,sX];rcases sI.mp h with z|z
  ·rw[z];omega
  ·have:=z2C z;unfold bns at this;omega
def z1z (hg:Jd bs):∃bms:List Bm,bs=bms.map enB/\∀b∈bms,okB b:=jd fun d hd=>by
 obtain⟨n,h⟩:=hg.2.1 d hd;have h1:=z2C hd;rw[h.bn]at h1;exact h.un (rD h1 hg.2.2)
def Vm {bms:List Bm}(h:∀b∈bms,okB b)(hl:bms.length<=40):((bms.map bT).map List.length).sum+(bms.map bT).length*2<=4000000:=by
 have:=j5 List.length 90000 (bms.map bT) fun x hx=>by
  obtain⟨b,hb,rfl⟩:=rN.mp hx;exact V3 (h b hb)
 rw[tU]at this ⊢;have:bms.length*90000<=40*90000:=rY _ hl;omega
def whole (bms:List Bm):List Nat:=jn [10,10] (bms.map bT)
def Yl {bms:List Bm}(h:∀b∈bms,okB b)(hl:bms.length<=40):y9 "\n\n" [.lst ((bms.map bT).map enW)]=.ok (enW (whole bms)):=by
 have:=Vm h hl;exact vD [10,10] (bms.map bT) (by show _+_*2<=_;omega)
def QQ {bms:List Bm}(h:∀b∈bms,okB b)(hl:bms.length<=40):(whole bms).length<16777000:=by
 have h1:=Vm h hl;have h2:=um [10,10] (bms.map bT);have e:[10,10].length=2:=rfl;rw[e]at h2;unfold whole;omega
def KL (F:List D->R D)(bms:List Bm)(h:∀b∈bms,F [enB b]=.ok (enW (bT b)))(hl:bms.length<=40):yQ (ya (Tgt.one 0).asg (fun _=>.ok true) (eL F (z8 (za 0) zb)) [none]) (bms.map enB)=.ok ((bms.map bT).map enW)/\uz ((bms.map bT).map enW)=.ok (.lst ((bms.map bT).map enW)):=by
 have k1:yQ (ya (Tgt.one 0).asg (fun _=>.ok true) (eL F (z8 (za 0) zb)) [none]) (bms.map enB)=.ok (bms.filterMap fun b=>some (enW (bT b))):=ym fun b hb=>by
  have h:=h b hb;unfold ya;simp only[za,eL,zb,z8,Tgt.asg,jYa,tD,tI,if_true,yz,h]
 rw[xv]at k1;have e:(bms.map fun b=>enW (bT b))=(bms.map bT).map enW:=by rw[sR];rfl
 rw[e]at k1;exact⟨k1,xt (by rw[tU,tU];omega)⟩
def UB (h:∀b∈bms,okB b)(hg:Jd (bms.map enB)):xJ [.lst (bms.map enB)]=.ok (enW (whole bms)):=by
 have hl:bms.length<=40:=by have:=hg.1;rw[tU]at this;exact this
 have h1:=z1q _ (JS _ hg.1 hg.2.1 hg.2.2);obtain⟨k1,i1⟩:=KL yl bms (fun b hb=>Yw (h b hb)) hl;have j1:=Yl h hl;unfold xJ kh;simp only[zI,yt,yw,zr,zh,zp,Ve,za,eC,eL,zb,z8,zQ,xk,jYa,tG,tX,tF,tR,tJ,tQ,tO,tD,Nat.reduceSub,tY,yD,yC,h1,k1,i1,j1]
def WL (d:D)(h:zS [d]=.ok (.bl false)):xJ [d]=.err "BadBlocks":=by
 have h1:=Kb d h;unfold xJ kh;simp only[zr,zh,zp,Ve,za,eL,zb,z8,jYa,R.err_bind,tG,tX,tF,tR,tJ,tQ,tO,tD,Nat.reduceSub,tY,h1]
def z1H (TT:Tn->R Fl)(d:D)(h:TT [some d,none]=.ok (.rt (.bl true))):zr 2 (zh TT (zp (eC (.bl false)))) [d]=.ok (.bl true):=by
 simp only[zr,zh,zp,eC,jYa,tG,tX,tF,tR,sA,tJ,tQ,tO,Nat.reduceSub,tY,h]
def qf (d:D)(h:zS [d]=.ok (.bl false)):zU [d]=.ok (.bl true):=by
 have hT:zU=zr 2 (zh (ZG xJ (z8 (za 0) zb) vi) (zp (eC (.bl false)))):=rfl;rw[hT];refine z1H _ d (z6X (ds:=[d]) ?_ (WL d h) (if_pos rfl));simp only[za,zb,z8,jYa,tD]
def QC (bs:List D)(hl:bs.length<=40)(h:∀b∈bs,∃n,Bk b n):qi (yX [.lst bs,.lst bs])=.ok (.bl true):=by
 have h1:=z2f bs h;have h2:xO "list" (.lst bs)=.ok (.bl true):=rfl;have h3:yX [.lst bs,.lst bs]=.ok (.bl true):=by
  have hL:bs.length<16777216:=by omega
  unfold yX kP;simp only[xw,xx,wc,zm,zr,zh,zp,sIf,za,eC,ze,eUn,eL,zb,z8,zi,bOr,yh,asB,jYa,tG,tX,tF,tR,tJ,tQ,tO,tD,tE,tI,Nat.reduceAdd,Nat.reduceSub,tY,if_false,tK,h1,h2,hL,sT]
 rw[h3]
 rfl
def z07:D:=.tup [.str "text",.tup (List.replicate 20 [D.tup [.str "a",.tup [.tup [.str "b"],.tup [.str "c"],.tup [.str "d"]]]]).flatten]
def ntE:D:=.tup [.str "text",.tup [.tup [.str "e",.tup [.tup [.str "f"]]]]]
def z5f:zS [.lst [z07,ntE]]=.ok (.bl false):=vw (by decide +kernel)
def z0K {k:Int}(h:D.imms xs=true/\-(2 ^ 63)<=k/\k<2 ^ 63/\xs.length*k.toNat<=sizeLine):qY (.tup xs) (.int k)=.ok (.tup (List.replicate k.toNat xs).flatten):=if_pos h
def z15 {k:Int}(h:D.imms xs=true/\-(2 ^ 63)<=k/\k<2 ^ 63/\xs.length*k.toNat<=sizeLine):u9 (.lst xs) (.int k)=.ok (.lst (List.replicate k.toNat xs).flatten):=if_pos h
def six (a b c d e f:D)(p:D->Prop)(ha:p a)(hb:p b)(hc:p c)(hd:p d)(he:p e)(hf:p f)(k:Nat)(hk:k<6):∃x,ixD (.lst [a,b,c,d,e,f]) (.int (k:Nat))=.ok x/\p x:=by
 refine⟨_,YV (xs:=[a,b,c,d,e,f]) hk,?_⟩;have:k=0\/k=1\/k=2\/k=3\/k=4\/k=5:=by omega
 rcases this with rfl|rfl|rfl|rfl|rfl|rfl<;>assumption
def JF (bs:List D)(hi:D.imms bs=true)(n:Int):∃d,xA [.lst bs,.int n]=.ok d/\zU [d]=.ok (.bl true):=by
 obtain⟨k,m6,hk,_⟩:=xq n 6 (by decide);have u1:qY (.tup [.tup [.str "a",.tup [.tup [.str "b"],.tup [.str "c"],.tup [.str "d"]]]]) (.int 20)=.ok (.tup (List.replicate 20 [D.tup [.str "a",.tup [.tup [.str "b"],.tup [.str "c"],.tup [.str "d"]]]]).flatten):=z0K ⟨rfl,by decide,by decide,by rw[sizeLine_eq];decide⟩;have u2:u9 (.lst [.tup [.str "leaf"]]) (.int 41)=.ok (.lst (List.replicate 41 [D.tup [.str "leaf"]]).flatten):=z15 ⟨rfl,by decide,by decide,by rw[sizeLine_eq];decide⟩;have u3:JW z07=.ok z07:=qG (by decide +kernel);have u4:yc [.lst bs]=.ok (.tup bs):=if_pos hi;obtain⟨d,hd,hr⟩:=six (.lst (List.replicate 41 [D.tup [.str "leaf"]]).flatten) (.lst [z07,ntE]) (.tup bs) .non (.dic [] []) (.str "~") (fun d=>zU [d]=.ok (.bl true)) (qf _ (Vh _ (by decide))) (qf _ z5f) (qf _ (XJ _ rfl)) (qf _ (XJ _ rfl)) (qf _ (XJ _ rfl)) (qf _ (XJ _ rfl)) k (by omega);refine⟨d,?_,hr⟩;unfold z07 at *;generalize (List.replicate 20 [D.tup [.str "a",.tup [.tup [.str "b"],.tup [.str "c"],.tup [.str "d"]]]]).flatten=A20 at *;generalize (List.replicate 41 [D.tup [.str "leaf"]]).flatten=A41 at *;generalize ((k:Nat):Int)=kk at *;generalize D.tup bs=TB at *;unfold ntE at hd;unfold xA qj;simp only[wb,zr,zh,zq,zp,za,eC,ze,eL,zb,z8,jYa,tG,tX,tF,tR,sA,tJ,tQ,tO,tD,tE,tI,tM,Nat.reduceAdd,Nat.reduceSub,tY,u1,u2,u3,u4,m6,hd]
section
variable (bms:List Bm)(hok:∀b∈bms,okB b)(hg:Jd (bms.map enB))
include hok hg
theorem Ki:D.imms (bms.map enB)=true:=yg fun b hb=>by obtain⟨n,h⟩:=hg.2.1 b hb;exact h.imm
theorem QJ:bms.length<=40:=by have:=hg.1;rw[tU]at this;exact this
theorem WO:vA [enW (whole bms)]=.ok (.lst (bms.map enB)):=by
 obtain⟨ps,h1,h2⟩:=Xb bms hok;have:=Qc (QQ hok (QJ bms hok hg)) ps (by have:=h1.1 [];rw[tO]at this;exact this) h1.2 (by rw[h2];exact hg);rw[h2]at this;exact this
theorem Ur (n:Int):∃s,xU [.lst (bms.map enB),.int n]=.ok (enW s)/\vA [enW s]=.ok (.lst (bms.map enB)):=by
 obtain⟨s,ps,h1,h2,h3,h4⟩:=loose bms hok (QJ bms hok hg) n;refine⟨s,h4,?_⟩;have:=Qc h3 ps (by have:=h1.1 [];rw[tO]at this;exact this) h1.2 (by rw[h2];exact hg);rw[h2]at this;exact this
theorem z4H (x0 x2 x3 x4 x5 x6 x7 x8:Option D):L2 [x0,some (.lst (bms.map enB)),x2,x3,x4,x5,x6,x7,x8]=.ok (.nx [x0,some (.lst (bms.map enB)),some (.lst (bms.map enB)),x3,x4,x5,x6,x7,x8]):=by
 have h:vC [.lst (bms.map enB)]=.ok (.lst (bms.map enB)):=if_pos (Ki bms hok hg);unfold L2;simp only[zq,za,eL,zb,z8,jYa,tD,tE,tI,tM,h]
theorem z61 (x0 x2 x3 x4 x5 x6 x7 x8:Option D):L3 [x0,some (.lst (bms.map enB)),x2,x3,x4,x5,x6,x7,x8]=.ok (.nx [x0,some (.lst (bms.map enB)),x2,some (enW (whole bms)),x4,x5,x6,x7,x8]):=by
 obtain⟨k1,i1⟩:=KL yi bms (fun b hb=>UZ (hok b hb)) (QJ bms hok hg);have j1:=Yl hok (QJ bms hok hg);unfold L3;simp only[zI,yt,yw,zq,za,eC,zb,z8,zQ,xk,jYa,tD,tE,tI,tM,yD,yC,k1,i1,j1]
theorem z5j (x0 x1 x3 x4 x5 x6 x7 x8:Option D):L4 [x0,x1,some (.lst (bms.map enB)),x3,x4,x5,x6,x7,x8]=.ok (.nx [x0,x1,some (.lst (bms.map enB)),x3,some (enW (whole bms)),x5,x6,x7,x8]):=by
 have h:=UB hok hg;unfold L4;simp only[zq,za,eL,zb,z8,jYa,tD,tE,tI,tM,h]
theorem z55 (x0 x5 x6 x7 x8:Option D):L5 [x0,some (.lst (bms.map enB)),some (.lst (bms.map enB)),some (enW (whole bms)),some (enW (whole bms)),x5,x6,x7,x8]=.ok (.nx [x0,some (.lst (bms.map enB)),some (.lst (bms.map enB)),some (enW (whole bms)),some (enW (whole bms)),x5,x6,x7,x8]):=by
 have h1:=z2f (bms.map enB) hg.2.1;have h2:xO "str" (enW (whole bms))=.ok (.bl true):=rfl;have h3:eqR true (enW (whole bms)) (enW (whole bms))=.ok (.bl false):=by
  unfold enW;rw[vN,if_pos rfl,beq_self_eq_true]
  rfl
 unfold L5;simp only[zm,zp,sIf,za,eC,ze,eUn,zi,bOr,yh,asB,jYa,tD,tE,if_false,tK,h1,h2,h3,sT]
theorem z4N (x0 x2 x4 x5 x6 x7 x8:Option D):L6 [x0,some (.lst (bms.map enB)),x2,some (enW (whole bms)),x4,x5,x6,x7,x8]=.ok (.nx [x0,some (.lst (bms.map enB)),x2,some (enW (whole bms)),x4,x5,x6,x7,x8]):=by
 have h1:=WO bms hok hg;have h2:=QC (bms.map enB) hg.1 hg.2.1;unfold L6;simp only[zm,zp,sIf,za,eC,eL,zb,z8,zi,bOr,yh,asB,jYa,tD,tE,if_false,tK,h1,h2,sT]
theorem z5M (ns:List Int)(hl:ns.length<=63)(x2 x3 x4 x5 x6 x7 x8:Option D):L7 [some (.frl (ns.map .int)),some (.lst (bms.map enB)),x2,x3,x4,x5,x6,x7,x8]=.ok (.nx [some (.frl (ns.map .int)),some (.lst (bms.map enB)),x2,x3,x4,x5,x6,x7,x8]):=by
 obtain⟨v,hv,_⟩:=XB ns 8 (by decide) hl;obtain⟨s,h1,h2⟩:=Ur bms hok hg v;have h3:=QC (bms.map enB) hg.1 hg.2.1;unfold L7;simp only[zm,zp,sIf,za,eC,eL,zb,z8,zi,yh,asB,jYa,tD,tE,if_false,tK,hv,h1,h2,h3,sT]
theorem z6f (n:Int)(x0 x2 x3 x4 x6 x7 x8:Option D):∃a:Nat,a<=(bms.map enB).length/\L9 [x0,some (.lst (bms.map enB)),x2,x3,x4,some (.int n),x6,x7,x8]=.ok (.nx [x0,some (.lst (bms.map enB)),x2,x3,x4,some (.int n),some (.int (a:Nat)),x7,x8]):=by
 have e2:yE [.lst (bms.map enB)]=.ok (.int ((bms.map enB).length:Nat)):=rfl;generalize bms.map enB=bs at *;obtain⟨k,mk,hk,_⟩:=xq n (((bs.length:Nat):Int)+1) (by omega);refine⟨k,by omega,?_⟩;generalize ((bs.length:Nat):Int)=l at *;generalize ((k:Nat):Int)=kk at *;unfold L9;simp only[zq,za,eC,ze,eL,zb,z8,jYa,tD,tE,tI,tM,xN,e2,mk]
theorem z3g (n:Int)(x0 x2 x3 x4 x6 x7 x8:Option D):L10 [x0,some (.lst (bms.map enB)),x2,x3,x4,some (.int n),x6,x7,x8]=.ok (.nx [x0,some (.lst (bms.map enB)),x2,x3,x4,some (.int n),x6,x7,x8]):=by
 have d3:=dvD n 300;obtain⟨d,h1,h2⟩:=JF (bms.map enB) (Ki bms hok hg) (n/300);unfold L10;simp only[zm,zp,sIf,za,eC,ze,eL,zb,z8,zi,yh,asB,jYa,tD,tE,if_false,tK,d3,h1,h2,sT]
end
def qu:List D:=[.tup [.str "head",.tup []],.tup [.str "leaf",.tup []],.tup [.str "text",.tup []],.non,.tup [.str "table",.tup [.tup []]],.tup [.str "head",.tup [.str "a b"]]]
def z48 (x0 x1 x2 x3 x4 x5 x6 x7 x8:Option D):L11 [x0,x1,x2,x3,x4,x5,x6,x7,x8]=.ok (.nx [x0,x1,x2,x3,x4,x5,x6,some (.lst qu),x8]):=rfl
def nb1:NB (.tup [.str "head",.tup []]):=⟨vw (by decide +kernel),rfl⟩
def nb2:NB (.tup [.str "leaf",.tup []]):=⟨vw (by decide +kernel),rfl⟩
def nb3:NB (.tup [.str "text",.tup []]):=⟨vw (by decide +kernel),rfl⟩
def nb4:NB .non:=⟨vw (by decide +kernel),rfl⟩
def nb5:NB (.tup [.str "table",.tup [.tup []]]):=⟨vw (by decide +kernel),rfl⟩
def nb6:NB (.tup [.str "head",.tup [.str "a b"]]):=⟨vw (by decide +kernel),rfl⟩
def z38 (n:Int)(x0 x1 x2 x3 x4 x6 x8:Option D):∃d,NB d/\L12 [x0,x1,x2,x3,x4,some (.int n),x6,some (.lst qu),x8]=.ok (.nx [x0,x1,x2,x3,x4,some (.int n),x6,some (.lst qu),some d]):=by
 have d5:=dvD n 50;obtain⟨k,m6,hk,_⟩:=xq (n/50) 6 (by decide);obtain⟨d,hd,nd⟩:=six _ _ _ _ _ _ NB nb1 nb2 nb3 nb4 nb5 nb6 k (by omega);have hd:ixD (.lst qu) (.int (k:Nat))=.ok d:=hd;have im:=qG nd.2;refine⟨d,nd,?_⟩;unfold L12;simp only[wb,zq,za,eC,ze,jYa,tD,tE,tI,tM,d5,m6,hd,im]
section
variable (bs:List D)(hg:Jd bs)
include hg
theorem z4Z:D.imms bs=true:=yg fun b hb=>by obtain⟨n,h⟩:=hg.2.1 b hb;exact h.imm
theorem Q9 (d:D)(hd:NB d)(a b:Nat):zU [.lst (bs.take a++d::bs.drop b)]=.ok (.bl true):=by
 refine qf _ (z28 _ (by have:=ug (xs:=bs) (d:=d) (a:=a) (b:=b);have:=hg.1;omega) (fun x hx=>?_) ⟨d,vJ,hd⟩);rcases vG hx with h'|rfl
 ·exact .inl (hg.2.1 x h')
 ·exact .inr hd
theorem JM (d:D)(hd:NB d)(a b:Nat)(ha:a<=bs.length)(hb:b<=bs.length):slD (.lst bs) none (some (a:Int))=.ok (.lst (bs.take a))/\slD (.lst bs) (some (b:Int)) none=.ok (.lst (bs.drop b))/\zL (.lst (bs.take a)) (.lst [d])=.ok (.lst (bs.take a++[d]))/\zL (.lst (bs.take a++[d])) (.lst (bs.drop b))=.ok (.lst (bs.take a++d::bs.drop b)):=by
 have i0:=z4Z bs hg;have hl:=hg.1;refine⟨by rw[W3 i0,VR ha],by rw[W3 i0,Zp hb],UY (uy i0 a) (Vu hd.2) (by rw[rR,sizeLine_eq];show _+1<=_;omega),?_⟩;have e:bs.take a++d::bs.drop b=(bs.take a++[d])++bs.drop b:=by rw[sF];rfl
 rw[e];exact UY (by rw[xP,uy i0,Vu hd.2];rfl) (qM i0 b) (by rw[tH,rR,rL,sizeLine_eq];show _+1+_<=_;omega)
theorem z4i (d:D)(hd:NB d)(a:Nat)(ha:a<=bs.length)(x0 x2 x3 x4 x5 x7:Option D):L13 [x0,some (.lst bs),x2,x3,x4,x5,some (.int (a:Nat)),x7,some d]=.ok (.nx [x0,some (.lst bs),x2,x3,x4,x5,some (.int (a:Nat)),x7,some d]):=by
 obtain⟨s1,s2,a1,a2⟩:=JM bs hg d hd a a ha ha;have hr:=Q9 bs hg d hd a a;unfold L13;simp only[zm,zp,sIf,za,eC,ze,eL,zb,z8,zi,yh,eSl,xD,yL,asB,jYa,tD,tE,if_false,tK,s1,s2,a1,a2,hr,sT]
theorem z4p (hpos:0<bs.length)(a:Nat)(x0 x2 x3 x4 x5 x7 x8:Option D):∃k:Nat,k<bs.length/\L15 [x0,some (.lst bs),x2,x3,x4,x5,some (.int (a:Nat)),x7,x8]=.ok (.nx [x0,some (.lst bs),x2,x3,x4,x5,some (.int (k:Nat)),x7,x8]):=by
 obtain⟨k,mk,hk,_⟩:=xq ((a:Nat):Int) ((bs.length:Nat):Int) (by omega);have e2:yE [.lst bs]=.ok (.int (bs.length:Nat)):=rfl;refine⟨k,by omega,?_⟩;unfold L15;simp only[zq,za,ze,eL,zb,z8,jYa,tD,tE,tI,tM,e2,mk]
theorem z3j (k:Nat)(hk:k<bs.length)(n:Int)(x0 x2 x3 x4 x7 x8:Option D):∃d,NB d/\L16 [x0,some (.lst bs),x2,x3,x4,some (.int n),some (.int (k:Nat)),x7,x8]=.ok (.nx [x0,some (.lst bs),x2,x3,x4,some (.int n),some (.int (k:Nat)),x7,some d]):=by
 have d3:=dvD n 300;obtain⟨m,hb⟩:=hg.2.1 _ (rF hk);obtain⟨d,hd,nd⟩:=z4D _ m hb (n/300);have hx:=YV hk;refine⟨d,nd,?_⟩;unfold L16;simp only[zq,za,eC,ze,eL,zb,z8,jYa,tD,tE,tI,tM,hx,d3,hd]
theorem z3f (k:Nat)(hk:k<bs.length)(d:D)(nd:NB d)(x0 x2 x3 x4 x5 x7:Option D):L17 [x0,some (.lst bs),x2,x3,x4,x5,some (.int (k:Nat)),x7,some d]=.ok (.rt (.bl true)):=by
 obtain⟨s1,s2,a1,a2⟩:=JM bs hg d nd k (k+1) (by omega) (by omega);have hr:=Q9 bs hg d nd k (k+1);have ec:((k+1:Nat):Int)=((k:Nat):Int)+1:=by omega
 rw[ec]at s2;unfold L17;simp only[zp,za,eC,ze,eL,zb,z8,eSl,xD,yL,jYa,tD,tE,xN,s1,s2,a1,a2,hr]
end
def vF (h:A τ=.ok (.nx τ')):zh A B τ=B τ':=by unfold zh;rw[h];rfl
def z5p (h:A τ=.ok (.rt d)):zh A B τ=.ok (.rt d):=by unfold zh;rw[h];rfl
def z3x {n:Nat}(h:T (ds.map some++List.replicate (n-ds.length) none)=.ok (.rt d)):zr n T ds=.ok d:=by unfold zr;rw[h]
def law_true (ns:List Int)(h:ns.length<=63):F_law [.frl (ns.map D.int)]=.ok (.bl true):=by
 obtain⟨bs,hb,hg⟩:=z3D ns h;obtain⟨bms,rfl,hok⟩:=z1z hg;obtain⟨n,hn,_⟩:=XB ns 9 (by decide) h;have h1:L1 [some (.frl (ns.map D.int)),none,none,none,none,none,none,none,none]=.ok (.nx [some (.frl (ns.map D.int)),some (.lst (bms.map enB)),none,none,none,none,none,none,none]):=by
  unfold L1;generalize D.frl (ns.map .int)=S0 at *;generalize bms.map enB=BB at *;generalize xH=G1 at *;simp only[zq,za,eC,eL,zb,z8,jYa,tD,tI,tM,hb]
 have h8:∀x1 x2 x3 x4 x5 x6 x7 x8,L8 [some (.frl (ns.map D.int)),x1,x2,x3,x4,x5,x6,x7,x8]=.ok (.nx [some (.frl (ns.map D.int)),x1,x2,x3,x4,some (.int n),x6,x7,x8]):=fun x1 x2 x3 x4 x5 x6 x7 x8=>by
  unfold L8;generalize D.frl (ns.map .int)=S0 at *;generalize zW=G1 at *;simp only[zq,za,eC,eL,zb,z8,jYa,tD,tI,tM,hn]
 rw[tL];refine z3x ?_;show zh L1 _ [some (.frl (ns.map D.int)),none,none,none,none,none,none,none,none]=_;rw[vF h1,vF (z4H bms hok hg _ _ _ _ _ _ _ _),vF (z61 bms hok hg _ _ _ _ _ _ _ _),vF (z5j bms hok hg _ _ _ _ _ _ _ _),vF (z55 bms hok hg _ _ _ _ _),vF (z4N bms hok hg _ _ _ _ _ _ _),vF (z5M bms hok hg ns h _ _ _ _ _ _ _),vF (h8 _ _ _ _ _ _ _ _)];obtain⟨a,ha,h9⟩:=z6f bms hok hg n (some (.frl (ns.map D.int))) (some (.lst (bms.map enB))) (some (enW (whole bms))) (some (enW (whole bms))) none none none;rw[vF h9,vF (z3g bms hok hg n _ _ _ _ _ _ _),vF (z48 _ _ _ _ _ _ _ _ _)];obtain⟨d,nd,h12⟩:=z38 n (some (.frl (ns.map D.int))) (some (.lst (bms.map enB))) (some (.lst (bms.map enB))) (some (enW (whole bms))) (some (enW (whole bms))) (some (.int (a:Nat))) none;rw[vF h12];generalize bms.map enB=bs at *;rw[vF (z4i bs hg d nd a ha _ _ _ _ _ _)]
 by_cases h0:bs=[]
 ·subst h0;have e:eqR false (.lst []) (.lst [])=.ok (.bl true):=kd (by decide +kernel);refine z5p ?_;generalize D.frl (ns.map .int)=S0 at *;generalize ((a:Nat):Int)=aa at *;generalize enW (whole bms)=O at *;unfold L14;simp only[zm,zp,sIf,za,eC,ze,eL,zb,zi,asB,jYa,tD,tE,if_true,e]
 ·have hpos:0<bs.length:=List.length_pos_iff.mpr h0;have e:eqR false (.lst bs) (.lst [])=.ok (.bl false):=by
   show (match (if bs.length=([]:List D).length then xa (eqF 11) bs [] else some false)with|some b=>R.ok (D.bl (if false=true then !b else b))|none=>.bad)=_;rw[if_neg (by rw[tR];omega)]
   rfl
  have h14:∀x0 x2 x3 x4 x5 x6 x7 x8,L14 [x0,some (.lst bs),x2,x3,x4,x5,x6,x7,x8]=.ok (.nx [x0,some (.lst bs),x2,x3,x4,x5,x6,x7,x8]):=fun x0 x2 x3 x4 x5 x6 x7 x8=>by
   unfold L14;simp only[zm,zp,sIf,za,eC,ze,eL,zb,zi,asB,jYa,tD,tE,if_false,tK,e]
  rw[vF (h14 _ _ _ _ _ _ _ _)];obtain⟨k,hk,h15⟩:=z4p bs hg hpos a (some (.frl (ns.map D.int))) (some (.lst bs)) (some (enW (whole bms))) (some (enW (whole bms))) (some (.int n)) (some (.lst qu)) (some d);rw[vF h15];obtain⟨d2,nd2,h16⟩:=z3j bs hg k hk n (some (.frl (ns.map D.int))) (some (.lst bs)) (some (enW (whole bms))) (some (enW (whole bms))) (some (.lst qu)) (some d);rw[vF h16];exact z3f bs hg k hk d2 nd2 _ _ _ _ _ _
open PySem PySem.W PyProof.Rows
def e (P:Params)(k:Str)(t:Nat)(v:Value):DictEntry:={ hash:=PyData.keyHash P k,key:=.str k t,val:=v }
def dO (v:Array DictEntry)(n:Nat):Obj:={ cls:=.type "dict",data:=.dict v n }
def cO (n:Str)(t l a f r k:Nat):Obj:={ cls:=.type "code",data:=.fields #[.str n t,.str n (t+1),.str "/claim/cut.py" (t+2),.int l 0,.int a 0,.int 0 0,.int 0 0,.int f 0,.ref r,.bool true,.int 181 0,.ref (r+1),.none,.ref (r+2),.ref (r+3),.ref (r+4),.int k 0,.int l 0,.str "/claim/cut.py" (k+1)] }
def cN (n:Str)(t l a r:Nat):Obj:={ cls:=.type "code",data:=.fields #[.str n t,.str n (t+1),.str "/claim/cut.py" (t+2),.int l 0,.int a 0,.int 0 0,.int 0 0,.int 3 0,.ref r,.bool true,.int 181 0,.ref (r+1),.none,.none,.none,.ref (r+2),.int (t+3) 0,.int l 0,.str "/claim/cut.py" (t+4)] }
def fO (n:Str)(i c:Nat)(m:Str)(t:Nat):Obj:=⟨.type "function",none,.func (fnOf n n (L2.defArgs (top i)) (L2.defBody (top i)) (L2.defScope (top i)) .none .none .none (.str m t) none (.ref c) .none),#[]⟩
def kD (P:Params)(a b:Nat)(l:Int)(c d r e1:Nat):Obj:=dO #[e P "__module__" a (.str "quirehand.errors" 187),e P "__firstlineno__" b (.int l c),e P "__static_attributes__" d (.ref r),e P "__doc__" e1 .none] 2
def kC (n:Str)(a s r t u:Nat):Obj:={ cls:=.type "type",data:=.cls { name:=n,bases:=[.ref 24],mro:=[.ref a,.ref 24,.type "ValueError",.type "Exception",.type "BaseException",.type "object"],ns:=s,qualname:=n },slots:=#[some (.ref r),none,some (.str n t),some (.str n u),some (.builtin "ValueError.__new__"),some (.bool true)] }
def K0 (P:Params):Frag:=[
 (3,dO #[e P "__name__" 165 (.str "law_quirehand_k07_written_and_read" 598),e P "__doc__" 166 .none,e P "__package__" 167 .none,e P "__loader__" 168 (.builtin "__main__.__loader__#opaque"),e P "__spec__" 169 .none,e P "__annotations__" 170 (.ref 6),e P "__builtins__" 171 (.ref 4),e P "__file__" 173 (.str "/claim/cut.py" 172),e P "__cached__" 174 .none,e P "SetError" 206 (.ref 24),e P "BadFace" 222 (.ref 37),e P "BadRules" 238 (.ref 49),e P "BadBook" 254 (.ref 61),e P "BadWord" 270 (.ref 73),e P "BadBlocks" 286 (.ref 85),e P "BadText" 311 (.ref 104),e P "BadBreaks" 327 (.ref 116),e P "TooWide" 343 (.ref 128),e P "NoPlace" 359 (.ref 140),e P "NoNote" 375 (.ref 152),e P "SIGNS" 379 (.str "abcdefghijklmnopqrstuvwxyzABCDEFGHIJKLMNOPQRSTUVWXYZ0123456789.,;:!?'\"()-/" 378),e P "is_sign" 386 (.ref 161),e P "MOST_SIGNS" 390 (.int 40 389),e P "is_word" 396 (.ref 166),e P "MOST_HEAD_WORDS" 400 (.int 12 399),e P "MOST_PAIRS" 402 (.int 200 401),e P "MOST_WORD_NOTES" 404 (.int 3 403),e P "MOST_NOTE_WORDS" 406 (.int 30 405),e P "MOST_ROWS" 408 (.int 20 407),e P "MOST_CELLS" 410 (.int 4 409),e P "MOST_CELL_WORDS" 412 (.int 12 411),e P "MOST_BLOCKS" 414 (.int 40 413),e P "MOST_NOTES" 416 (.int 60 415),e P "is_tuple_of" 422 (.ref 171),e P "is_note" 429 (.ref 178),e P "is_pair" 436 (.ref 185),e P "is_cell" 443 (.ref 192),e P "is_row" 450 (.ref 199),e P "is_table" 456 (.ref 204),e P "is_block" 463 (.ref 211),e P "many_notes" 469 (.ref 216),e P "are_blocks" 475 (.ref 221),e P "need_blocks" 482 (.ref 228),e P "runs_of" 496 (.ref 235),e P "words_of" 502 (.ref 240),e P "is_table_row" 509 (.ref 247),e P "cells_of" 515 (.ref 252),e P "word_end" 524 (.ref 259),e P "blanks_end" 533 (.ref 266),e P "pairs_of" 546 (.ref 273),e P "block_of" 552 (.ref 278),e P "read" 564 (.ref 285),e P "note_text" 573 (.ref 292),e P "pair_text" 579 (.ref 297),e P "row_text" 585 (.ref 302),e P "block_text" 591 (.ref 307),e P "written" 597 (.ref 312),e P "_law_number" 608 (.ref 319),e P "_law_next" 615 (.ref 326),e P "_law_word" 627 (.ref 333),e P "_law_words" 639 (.ref 340),e P "_law_pairs" 652 (.ref 347),e P "_law_table" 665 (.ref 354),e P "_law_block" 673 (.ref 361),e P "_law_blocks" 679 (.ref 366),e P "_law_text_of" 685 (.ref 371),e P "_law_loose_text" 695 (.ref 378),e P "_law_loose_block" 709 (.ref 385),e P "_law_loose" 719 (.ref 392),e P "_law_bad_word" 726 (.ref 399),e P "_law_with" 735 (.ref 406),e P "_law_bad_pair" 748 (.ref 413),e P "_law_bad_row" 760 (.ref 420),e P "_law_spoilt" 770 (.ref 427),e P "_law_same" 778 (.ref 434),e P "_law_refused" 786 (.ref 441),e P "_law_too_many" 795 (.ref 448),e P "law" 801 (.ref 453)] 78),
 (23,dO #[e P "__module__" 196 (.str "quirehand.errors" 187),e P "__firstlineno__" 200 (.int 2 199),e P "__static_attributes__" 201 (.ref 22),e P "__weakref__" 203 (.ref 25),e P "__doc__" 204 .none] 3),
 (24,{ cls:=.type "type",data:=.cls { name:="SetError",bases:=[.type "ValueError"],mro:=[.ref 24,.type "ValueError",.type "Exception",.type "BaseException",.type "object"],ns:=23,qualname:="SetError",subclasses:=[.ref 37,.ref 49,.ref 61,.ref 73,.ref 85,.ref 104,.ref 116,.ref 128,.ref 140,.ref 152] },slots:=#[some (.ref 15),none,some (.str "SetError" 189),some (.str "SetError" 197),some (.builtin "ValueError.__new__"),some (.bool true)] }),
 (36,kD P 214 218 4 217 219 35 220),
 (37,kC "BadFace" 37 36 28 207 215),
 (48,kD P 230 234 6 233 235 47 236),
 (49,kC "BadRules" 49 48 40 223 231),
 (60,kD P 246 250 8 249 251 59 252),
 (61,kC "BadBook" 61 60 52 239 247),
 (72,kD P 262 266 10 265 267 71 268),
 (73,kC "BadWord" 73 72 64 255 263),
 (84,kD P 278 282 12 281 283 83 284),
 (85,kC "BadBlocks" 85 84 76 271 279),
 (103,dO #[e P "__module__" 294 (.str "quirehand.errors" 187),e P "__firstlineno__" 298 (.int 14 297),e P "__init__" 306 (.ref 101),e P "__static_attributes__" 308 (.ref 102),e P "__doc__" 309 .none] 2),
 (104,kC "BadText" 104 103 88 287 295),
 (115,kD P 319 323 19 322 324 114 325),
 (116,kC "BadBreaks" 116 115 107 312 320),
 (127,kD P 335 339 21 338 340 126 341),
 (128,kC "TooWide" 128 127 119 328 336),
 (139,kD P 351 355 23 354 356 138 357),
 (140,kC "NoPlace" 140 139 131 344 352),
 (151,kD P 367 371 25 370 372 150 373),
 (152,kC "NoNote" 152 151 143 360 368),
 (160,cO "is_sign" 380 29 1 3 155 384),
 (161,fO "is_sign" 14 160 "quirehand.faces" 376),
 (165,cN "is_word" 391 33 1 162),
 (166,fO "is_word" 17 165 "quirehand.parting" 387),
 (170,cN "is_tuple_of" 417 47 4 167),
 (171,fO "is_tuple_of" 28 170 "quirehand.blocks" 397),
 (177,cO "is_note" 423 51 1 3 172 427),
 (178,fO "is_note" 29 177 "quirehand.blocks" 397),
 (184,cO "is_pair" 430 53 1 3 179 434),
 (185,fO "is_pair" 30 184 "quirehand.blocks" 397),
 (191,cO "is_cell" 437 57 1 3 186 441),
 (192,fO "is_cell" 31 191 "quirehand.blocks" 397),
 (198,cO "is_row" 444 59 1 3 193 448),
 (199,fO "is_row" 32 198 "quirehand.blocks" 397),
 (203,cN "is_table" 451 61 1 200),
 (204,fO "is_table" 33 203 "quirehand.blocks" 397),
 (210,cO "is_block" 457 63 1 3 205 461),
 (211,fO "is_block" 34 210 "quirehand.blocks" 397),
 (215,cN "many_notes" 464 73 1 212),
 (216,fO "many_notes" 35 215 "quirehand.blocks" 397),
 (220,cN "are_blocks" 470 77 1 217),
 (221,fO "are_blocks" 36 220 "quirehand.blocks" 397),
 (227,cO "need_blocks" 476 83 1 3 222 480),
 (228,fO "need_blocks" 37 227 "quirehand.blocks" 397),
 (234,cO "runs_of" 485 88 1 3 229 494),
 (235,fO "runs_of" 39 234 "quirehand.reading" 483),
 (239,cN "words_of" 497 99 1 236),
 (240,fO "words_of" 40 239 "quirehand.reading" 483),
 (246,cO "is_table_row" 503 101 1 3 241 507),
 (247,fO "is_table_row" 41 246 "quirehand.reading" 483),
 (251,cN "cells_of" 510 103 1 248),
 (252,fO "cells_of" 42 251 "quirehand.reading" 483),
 (258,cO "word_end" 516 105 2 3 253 522),
 (259,fO "word_end" 43 258 "quirehand.reading" 483),
 (265,cO "blanks_end" 525 110 2 3 260 531),
 (266,fO "blanks_end" 44 265 "quirehand.reading" 483),
 (272,cO "pairs_of" 534 115 1 3 267 544),
 (273,fO "pairs_of" 45 272 "quirehand.reading" 483),
 (277,cN "block_of" 547 133 1 274),
 (278,fO "block_of" 46 277 "quirehand.reading" 483),
 (284,cO "read" 553 141 1 3 279 562),
 (285,fO "read" 47 284 "quirehand.reading" 483),
 (291,cO "note_text" 567 156 1 3 286 571),
 (292,fO "note_text" 49 291 "quirehand.writing" 565),
 (296,cN "pair_text" 574 158 2 293),
 (297,fO "pair_text" 50 296 "quirehand.writing" 565),
 (301,cN "row_text" 580 160 1 298),
 (302,fO "row_text" 51 301 "quirehand.writing" 565),
 (306,cN "block_text" 586 162 1 303),
 (307,fO "block_text" 52 306 "quirehand.writing" 565),
 (311,cN "written" 592 170 1 308),
 (312,fO "written" 53 311 "quirehand.writing" 565),
 (318,cO "_law_number" 600 174 2 3 313 606),
 (319,fO "_law_number" 55 318 "law_quirehand_k07_written_and_read" 598),
 (325,cO "_law_next" 609 179 1 3 320 613),
 (326,fO "_law_next" 56 325 "law_quirehand_k07_written_and_read" 598),
 (332,cO "_law_word" 616 181 1 3 327 625),
 (333,fO "_law_word" 57 332 "law_quirehand_k07_written_and_read" 598),
 (339,cO "_law_words" 628 191 3 3 334 637),
 (340,fO "_law_words" 58 339 "law_quirehand_k07_written_and_read" 598),
 (346,cO "_law_pairs" 640 200 2 3 341 650),
 (347,fO "_law_pairs" 59 346 "law_quirehand_k07_written_and_read" 598),
 (353,cO "_law_table" 653 214 1 3 348 663),
 (354,fO "_law_table" 60 353 "law_quirehand_k07_written_and_read" 598),
 (360,cO "_law_block" 666 227 2 3 355 671),
 (361,fO "_law_block" 61 360 "law_quirehand_k07_written_and_read" 598),
 (365,cN "_law_blocks" 674 235 2 362),
 (366,fO "_law_blocks" 62 365 "law_quirehand_k07_written_and_read" 598),
 (370,cN "_law_text_of" 680 250 1 367),
 (371,fO "_law_text_of" 63 370 "law_quirehand_k07_written_and_read" 598),
 (377,cO "_law_loose_text" 686 263 2 3 372 693),
 (378,fO "_law_loose_text" 64 377 "law_quirehand_k07_written_and_read" 598),
 (384,cO "_law_loose_block" 696 276 2 3 379 707),
 (385,fO "_law_loose_block" 65 384 "law_quirehand_k07_written_and_read" 598),
 (391,cO "_law_loose" 710 288 2 3 386 717),
 (392,fO "_law_loose" 66 391 "law_quirehand_k07_written_and_read" 598),
 (398,cO "_law_bad_word" 720 295 1 3 393 724),
 (399,fO "_law_bad_word" 67 398 "law_quirehand_k07_written_and_read" 598),
 (405,cO "_law_with" 727 297 3 3 400 733),
 (406,fO "_law_with" 68 405 "law_quirehand_k07_written_and_read" 598),
 (412,cO "_law_bad_pair" 736 299 2 3 407 746),
 (413,fO "_law_bad_pair" 69 412 "law_quirehand_k07_written_and_read" 598),
 (419,cO "_law_bad_row" 749 313 3 3 414 758),
 (420,fO "_law_bad_row" 70 419 "law_quirehand_k07_written_and_read" 598),
 (426,cO "_law_spoilt" 761 324 2 3 421 768),
 (427,fO "_law_spoilt" 71 426 "law_quirehand_k07_written_and_read" 598),
 (433,cO "_law_same" 771 334 2 3 428 776),
 (434,fO "_law_same" 72 433 "law_quirehand_k07_written_and_read" 598),
 (440,cO "_law_refused" 779 339 1 3 435 784),
 (441,fO "_law_refused" 73 440 "law_quirehand_k07_written_and_read" 598),
 (447,cO "_law_too_many" 787 349 2 3 442 793),
 (448,fO "_law_too_many" 74 447 "law_quirehand_k07_written_and_read" 598),
 (452,cN "law" 796 352 1 449),
 (453,fO "law" 75 452 "law_quirehand_k07_written_and_read" 598)]
abbrev pw:Program:=PySem.Challenge.pw_quirehand_k07_written_and_read
def as0:List Addr:=[3,23,24,36,37,48,49,60,61,72,73,84,85,103,104,115,116,127,128,139,140,151,152,160,161,165,166,170,171,177,178,184,185,191,192,198,199,203,204,210,211,215,216,220,221,227,228,234,235,239,240,246,247,251,252,258,259,265,266,272,273,277,278,284,285,291,292,296,297,301,302,306,307,311,312,318,319,325,326,332,333,339,340,346,347,353,354,360,361,365,366,370,371,377,378,384,385,391,392,398,399,405,406,412,413,419,420,426,427,433,434,440,441,447,448,452,453]
def as_eq:∀P,as0=(K0 P).map (·.1):=fun _=>rfl
def q0:=view pw [1,2,3,4,5,6,7,8,9,10,11,13,14,16,17,19,20,21,22,23,24,25,26,27,28,29,30,31,32,33,34,35,36,37,39,40,41,42,43,44,45,46,47,49,50,51,52,53,55,56,57,58,59,60,61,62,63,64,65,66,67,68,69,70,71,72,73,74,75]
def t0:(PySem.Challenge.pw_quirehand_k07_written_and_read.main.body.length==76)=true:=by k_qdec
set_option maxHeartbeats 0
abbrev X0 (s):=xlAt q0 [] s&&recOk [] s
abbrev Y0 (s:Shared):=as0.map s.heap.get?
abbrev A0 (w:World):=(K0 w.params).map fun p=>some p.2
def Pa:HW.Pa pw q0 [] X0 Y0 A0 3939:=by intro w os;unfold HW.runAll q0 pw;rw[Fast.te10058928727113265916];kernel_rfl
abbrev Pz {β:Type}:=@HW.Pz pw q0 [] X0 _ Y0 3939 β
def Pb:Pz (fun r=>(r.1,r.2.1)) (expectedOf q0,bltViewBooted):=by intro w os;unfold HW.runAll q0 pw;rw[Fast.te10058928727113265916];kernel_rfl
def Pc:Pz (·.2.2.1) true:=by intro w os;unfold HW.runAll q0 pw;rw[Fast.te10058928727113265916];kernel_rfl
def Pd:Pz (fun r=>(r.2.2.2.1,r.2.2.2.2.1)) (true,pinGoodD (drecsOf q0)):=by intro w os;unfold HW.runAll q0 pw;rw[Fast.te10058928727113265916];kernel_rfl
def Pe:Pz (·.2.2.2.2.2.1) (plainGoodE q0 (looseW q0 [])):=by intro w os;unfold HW.runAll q0 pw;rw[Fast.te10058928727113265916];kernel_rfl
def Pf:Pz (·.2.2.2.2.2.2) (plainGoodD q0 [],wideGood q0,clsGoodW q0 []):=by intro w os;unfold HW.runAll q0 pw;rw[Fast.te10058928727113265916];kernel_rfl
def left0:LeftO pw q0 [] X0 Y0 A0 7938:=HW.left_of (n1:=3939) (by kernel_rfl) rfl (fun _=>rfl) (fun _=>by kernel_rfl) rfl Pa Pb Pc Pd Pe Pf
open PySem PySem.Spec PySem.W PyProof.Rows L2
def facts (w:World)(mg:Str->Option Value)(fa:Addr)(h:Heap)(X:(K0 w.params).In h)(G:h.Ns mainGlobals mg)(hfa:mg "law"=some (.ref fa)):
  ∃fd:FuncData,(∀(s:Shared) (u:Value),BindsTo s fd ⟨[u],[]⟩ [("_law_script",u)])/\∀base:Heap,(K0 w.params).In base->base.Ns mainGlobals mg->FnOk pw w (K0 w.params) mg base (cxx pw w) 14 fa fd ["_law_script"] (spM (K0 w.params) F_law 1):=by
 have y0:=fun (n:Str) (h:jJg (K0 w.params) mainGlobals n=some none)=>PySem.W.mg_none_of X G h
 have y1:=fun (n:Str) (v:Value) (h:jJg (K0 w.params) mainGlobals n=some (some v))=>jJv X G h
 have y2:=fun (a:Addr) (v:Value) (b:Bool) (h:jJb (K0 w.params) (.ref a) v=some b)=>h
 have yd:=fun m t n i ps a c=>HW.dfn (n:=n) (st:=top i) (ps:=ps) (a:=a) (c:=c) (m:=m) (t:=t) X G
 have yl:=yd "law_quirehand_k07_written_and_read" 598
 have e:=hfa.symm.trans (y1 "law" (.ref 453) (by kernel_rfl));cases e;have B:Bl mg:=⟨y0 "isinstance" (by kernel_rfl),y0 "int" (by kernel_rfl),y0 "bool" (by kernel_rfl),y0 "str" (by kernel_rfl),y0 "dict" (by kernel_rfl),y0 "list" (by kernel_rfl),y0 "tuple" (by kernel_rfl),y0 "len" (by kernel_rfl),y0 "sum" (by kernel_rfl),y0 "max" (by kernel_rfl),y0 "min" (by kernel_rfl),y0 "all" (by kernel_rfl),y0 "range" (by kernel_rfl),y0 "enumerate" (by kernel_rfl),y0 "zip" (by kernel_rfl)⟩
 have Gv:Gl0 (K0 w.params) mg:=⟨⟨_,y1 "SIGNS" (.str "abcdefghijklmnopqrstuvwxyzABCDEFGHIJKLMNOPQRSTUVWXYZ0123456789.,;:!?'\"()-/" 378) (by kernel_rfl)⟩,⟨_,y1 "MOST_SIGNS" (.int 40 389) (by kernel_rfl)⟩,⟨_,y1 "MOST_HEAD_WORDS" (.int 12 399) (by kernel_rfl)⟩,⟨_,y1 "MOST_PAIRS" (.int 200 401) (by kernel_rfl)⟩,⟨_,y1 "MOST_WORD_NOTES" (.int 3 403) (by kernel_rfl)⟩,⟨_,y1 "MOST_NOTE_WORDS" (.int 30 405) (by kernel_rfl)⟩,⟨_,y1 "MOST_ROWS" (.int 20 407) (by kernel_rfl)⟩,⟨_,y1 "MOST_CELLS" (.int 4 409) (by kernel_rfl)⟩,⟨_,y1 "MOST_CELL_WORDS" (.int 12 411) (by kernel_rfl)⟩,⟨_,y1 "MOST_BLOCKS" (.int 40 413) (by kernel_rfl)⟩,⟨_,y1 "MOST_NOTES" (.int 60 415) (by kernel_rfl)⟩⟩
 have Cl:Cls (K0 w.params) mg:=⟨⟨85,(show jJg (K0 w.params) mainGlobals "BadBlocks"=some (some (.ref 85)) from by kernel_rfl),(show jJh (K0 w.params) 85 [.type "ValueError",.type "Exception",.type "BaseException",.type "object"] "ValueError.__new__"=true from by kernel_rfl)⟩,y0 "ValueError" (by kernel_rfl),24,85,61,116,37,49,104,73,152,140,128,y1 "SetError" (.ref 24) (by kernel_rfl),⟨(show jJg (K0 w.params) mainGlobals "BadBlocks"=some (some (.ref 85)) from by kernel_rfl),(show jJh (K0 w.params) 85 [.type "ValueError",.type "Exception",.type "BaseException",.type "object"] "ValueError.__new__"=true from by kernel_rfl)⟩,⟨(show jJd (K0 w.params) (.ref 85) "__getattribute__"=some (some (.builtin "BaseException.__getattribute__")) from by kernel_rfl),(show jJd (K0 w.params) (.ref 85) "__getattr__"=some none from by kernel_rfl),(show jJd (K0 w.params) (.ref 85) "__class__"=some (some (.builtin "object.__class__")) from by kernel_rfl),(show jJn (K0 w.params) (.builtin "object.__class__") "__get__"=some (some (.builtin "getset_descriptor.__get__")) from by kernel_rfl),(show jJr (K0 w.params) (.builtin "object.__class__")=some true from by kernel_rfl),(show jJi (K0 w.params) 85 (.type "object")=some true from by kernel_rfl),(show jJi (K0 w.params) 85 (.type "BaseException")=some true from by kernel_rfl),z5I (show jJh (K0 w.params) 85 [.type "ValueError",.type "Exception",.type "BaseException",.type "object"] "ValueError.__new__"=true from by kernel_rfl)⟩,y1 "BadBlocks" (.ref 85) (by kernel_rfl),(y2 85 (.type "ValueError") true (by kernel_rfl)),(show jJk (K0 w.params) (.ref 85) (.ref 24)=some true from by kernel_rfl),⟨y1 "BadBook" (.ref 61) (by kernel_rfl),(y2 85 (.ref 61) false (by kernel_rfl))⟩,⟨y1 "BadBreaks" (.ref 116) (by kernel_rfl),(y2 85 (.ref 116) false (by kernel_rfl))⟩,⟨y1 "BadFace" (.ref 37) (by kernel_rfl),(y2 85 (.ref 37) false (by kernel_rfl))⟩,⟨y1 "BadRules" (.ref 49) (by kernel_rfl),(y2 85 (.ref 49) false (by kernel_rfl))⟩,⟨y1 "BadText" (.ref 104) (by kernel_rfl),(y2 85 (.ref 104) false (by kernel_rfl))⟩,⟨y1 "BadWord" (.ref 73) (by kernel_rfl),(y2 85 (.ref 73) false (by kernel_rfl))⟩,⟨y1 "NoNote" (.ref 152) (by kernel_rfl),(y2 85 (.ref 152) false (by kernel_rfl))⟩,⟨y1 "NoPlace" (.ref 140) (by kernel_rfl),(y2 85 (.ref 140) false (by kernel_rfl))⟩,⟨y1 "TooWide" (.ref 128) (by kernel_rfl),(y2 85 (.ref 128) false (by kernel_rfl))⟩⟩
 refine⟨fnOf "law" "law" (defArgs (top 75)) (defBody (top 75)) (defScope (top 75)) .none .none .none (.str "law_quirehand_k07_written_and_read" 598) none (.ref 452) .none,fun s v=>.of_eq rfl,fun base _ _=>?_⟩;have o6g:=yd "quirehand.faces" 376 "is_sign" 14 ["thing"] 161 160 (bd1 fun _=>rfl) (by kernel_rfl);have o2h:=Ue (P:=pw) (w:=w) (base:=base) o6g B Gv Cl 
 have o6h:=yd "quirehand.parting" 387 "is_word" 17 ["thing"] 166 165 (bd1 fun _=>rfl) (by kernel_rfl);have ou:=Um o6h B Gv Cl o2h;have oq:=yd "quirehand.blocks" 397 "is_tuple_of" 28 ["thing","least","most","is_part"] 171 170 (bd4 fun _ _ _ _=>rfl) (by kernel_rfl);have o6i:=yd "quirehand.blocks" 397 "is_note" 29 ["thing"] 178 177 (bd1 fun _=>rfl) (by kernel_rfl);have o4:=ur oq B Gv Cl ou;have o1f:=VV o6i B Gv Cl o4;have o6j:=yd "quirehand.blocks" 397 "is_pair" 30 ["thing"] 185 184 (bd1 fun _=>rfl) (by kernel_rfl);have oi:=uv oq B Gv Cl o1f;have o1h:=VQ o6j B Gv Cl ou oi;have o7a:=yd "quirehand.blocks" 397 "is_cell" 31 ["thing"] 192 191 (bd1 fun _=>rfl) (by kernel_rfl);have o1g:=UH o7a B Gv Cl o4;have o7d:=yd "quirehand.blocks" 397 "is_row" 32 ["thing"] 199 198 (bd1 fun _=>rfl) (by kernel_rfl);have oj:=uu oq B Gv Cl o1g;have o2a:=QP o7d B Gv Cl oj;have o5i:=yd "quirehand.blocks" 397 "is_table" 33 ["thing"] 204 203 (bd1 fun _=>rfl) (by kernel_rfl);have om:=uZ oq B Gv Cl o2a;have o2b:=Vi o5i B Gv Cl om;have o5j:=yd "quirehand.blocks" 397 "is_block" 34 ["thing"] 211 210 (bd1 fun _=>rfl) (by kernel_rfl);have ol:=uC oq B Gv Cl o1h;have ox:=Vb o5j B Gv Cl o2b o4 ol;have o4d:=yd "quirehand.blocks" 397 "many_notes" 35 ["block"] 216 215 (bd1 fun _=>rfl) (by kernel_rfl);have on:=Yy (P:=pw) (w:=w) (base:=base) o4d B Gv Cl 
 have o4e:=yd "quirehand.blocks" 397 "are_blocks" 36 ["thing"] 221 220 (bd1 fun _=>rfl) (by kernel_rfl);have o0i:=YA o4e B Gv Cl ox on;have o3j:=yd "quirehand.blocks" 397 "need_blocks" 37 ["blocks"] 228 227 (bd1 fun _=>rfl) (by kernel_rfl);have o0f:=ZD o3j B Gv Cl o0i;have o7b:=yd "quirehand.reading" 483 "runs_of" 39 ["text"] 235 234 (bd1 fun _=>rfl) (by kernel_rfl);have o2i:=UI (P:=pw) (w:=w) (base:=base) o7b B Gv Cl 
 have o6a:=yd "quirehand.reading" 483 "words_of" 40 ["row"] 240 239 (bd1 fun _=>rfl) (by kernel_rfl);have og:=Vn (P:=pw) (w:=w) (base:=base) o6a B Gv Cl 
 have o3f:=yd "quirehand.reading" 483 "is_table_row" 41 ["row"] 247 246 (bd1 fun _=>rfl) (by kernel_rfl);have o0d:=Z0 (P:=pw) (w:=w) (base:=base) o3f B Gv Cl 
 have o6b:=yd "quirehand.reading" 483 "cells_of" 42 ["row"] 252 251 (bd1 fun _=>rfl) (by kernel_rfl);have o2e:=Wy o6b B Gv Cl og;have o6c:=yd "quirehand.reading" 483 "word_end" 43 ["line","begin"] 259 258 (bd2 fun _ _=>rfl) (by kernel_rfl);have o2c:=Vo (P:=pw) (w:=w) (base:=base) o6c B Gv Cl 
 have o4f:=yd "quirehand.reading" 483 "blanks_end" 44 ["line","begin"] 266 265 (bd2 fun _ _=>rfl) (by kernel_rfl);have o0j:=Ys (P:=pw) (w:=w) (base:=base) o4f B Gv Cl 
 have o6d:=yd "quirehand.reading" 483 "pairs_of" 45 ["line"] 273 272 (bd1 fun _=>rfl) (by kernel_rfl);have o2d:=Vk o6d B Gv Cl o2c o0j og;have o6e:=yd "quirehand.reading" 483 "block_of" 46 ["rows"] 278 277 (bd1 fun _=>rfl) (by kernel_rfl);have o2f:=WQ o6e B Gv Cl o2d og o0d o2e;have o7e:=yd "quirehand.reading" 483 "read" 47 ["text"] 285 284 (bd1 fun _=>rfl) (by kernel_rfl);have o2j:=z14 o7e B Gv Cl o2i o2f on ox;have o5c:=yd "quirehand.writing" 565 "note_text" 49 ["note"] 292 291 (bd1 fun _=>rfl) (by kernel_rfl);have o1i:=XS (P:=pw) (w:=w) (base:=base) o5c B Gv Cl 
 have o5d:=yd "quirehand.writing" 565 "pair_text" 50 ["word","notes"] 297 296 (bd2 fun _ _=>rfl) (by kernel_rfl);have o1j:=Wt o5d B Gv Cl o1i;have o6f:=yd "quirehand.writing" 565 "row_text" 51 ["row"] 302 301 (bd1 fun _=>rfl) (by kernel_rfl);have o2g:=Wv (P:=pw) (w:=w) (base:=base) o6f B Gv Cl 
 have o4g:=yd "quirehand.writing" 565 "block_text" 52 ["block"] 307 306 (bd1 fun _=>rfl) (by kernel_rfl);have o1a:=YC o4g B Gv Cl o1j o2g;have o7c:=yd "quirehand.writing" 565 "written" 53 ["blocks"] 312 311 (bd1 fun _=>rfl) (by kernel_rfl);have o0a:=VN o7c B Gv Cl o0f o1a;have o4a:=yl "_law_number" 55 ["_law_script","_law_k"] 319 318 (bd2 fun _ _=>rfl) (by kernel_rfl);have o9:=Zw (P:=pw) (w:=w) (base:=base) o4a B Gv Cl 
 have o5e:=yl "_law_next" 56 ["_law_number_here"] 326 325 (bd1 fun _=>rfl) (by kernel_rfl);have o5:=XW (P:=pw) (w:=w) (base:=base) o5e B Gv Cl 
 have o5f:=yl "_law_word" 57 ["_law_number_here"] 333 332 (bd1 fun _=>rfl) (by kernel_rfl);have ot:=Xp (P:=pw) (w:=w) (base:=base) o5f B Gv Cl 
 have o4h:=yl "_law_words" 58 ["_law_number_here","_law_least","_law_most"] 340 339 (bd3 fun _ _ _=>rfl) (by kernel_rfl);have o8:=Yr o4h B Gv Cl o5 ot;have o4i:=yl "_law_pairs" 59 ["_law_number_here","_law_room"] 347 346 (bd2 fun _ _=>rfl) (by kernel_rfl);have o1b:=YG o4i B Gv Cl o5 ot o8;have o4j:=yl "_law_table" 60 ["_law_number_here"] 354 353 (bd1 fun _=>rfl) (by kernel_rfl);have o1c:=Yv o4j B Gv Cl o5 o8;have o5a:=yl "_law_block" 61 ["_law_number_here","_law_room"] 361 360 (bd2 fun _ _=>rfl) (by kernel_rfl);have o1d:=Yu o5a B Gv Cl o1b o8 o1c;have o4b:=yl "_law_blocks" 62 ["_law_script","_law_first"] 366 365 (bd2 fun _ _=>rfl) (by kernel_rfl);have o0g:=Y3 o4b B Gv Cl o9 o1d;have o3g:=yl "_law_text_of" 63 ["_law_block_here"] 371 370 (bd1 fun _=>rfl) (by kernel_rfl);have oh:=kX (P:=pw) (w:=w) (base:=base) o3g B Gv Cl 
 have o3b:=yl "_law_loose_text" 64 ["_law_line","_law_number_here"] 378 377 (bd2 fun _ _=>rfl) (by kernel_rfl);have oy:=ji o3b B Gv Cl o5;have o3a:=yl "_law_loose_block" 65 ["_law_block_here","_law_number_here"] 385 384 (bd2 fun _ _=>rfl) (by kernel_rfl);have ow:=qR o3a B Gv Cl oh oy o5;have o5b:=yl "_law_loose" 66 ["_law_blocks_here","_law_number_here"] 392 391 (bd2 fun _ _=>rfl) (by kernel_rfl);have o1e:=YD o5b B Gv Cl o5 ow;have o3c:=yl "_law_bad_word" 67 ["_law_number_here"] 399 398 (bd1 fun _=>rfl) (by kernel_rfl);have o6:=kz (P:=pw) (w:=w) (base:=base) o3c B Gv Cl 
 have o5g:=yl "_law_with" 68 ["_law_row","_law_at","_law_thing"] 406 405 (bd3 fun _ _ _=>rfl) (by kernel_rfl);have o7:=Wq (P:=pw) (w:=w) (base:=base) o5g B Gv Cl 
 have o3d:=yl "_law_bad_pair" 69 ["_law_pair","_law_number_here"] 413 412 (bd2 fun _ _=>rfl) (by kernel_rfl);have o0b:=ke o3d B Gv Cl o7 o6;have o3h:=yl "_law_bad_row" 70 ["_law_row","_law_number_here","_law_size"] 420 419 (bd3 fun _ _ _=>rfl) (by kernel_rfl);have o0e:=kW o3h B Gv Cl o7 o6;have o4c:=yl "_law_spoilt" 71 ["_law_block_here","_law_number_here"] 427 426 (bd2 fun _ _=>rfl) (by kernel_rfl);have o0h:=Yi o4c B Gv Cl o7 o0e o6 o0b;have o5h:=yl "_law_same" 72 ["_law_found","_law_blocks_here"] 434 433 (bd2 fun _ _=>rfl) (by kernel_rfl);have oz:=Xs (P:=pw) (w:=w) (base:=base) o5h B Gv Cl 
 have o3i:=yl "_law_refused" 73 ["_law_blocks_here"] 441 440 (bd1 fun _=>rfl) (by kernel_rfl);have oo:=Z1 o3i B Gv Cl o0a;have o3e:=yl "_law_too_many" 74 ["_law_blocks_here","_law_number_here"] 448 447 (bd2 fun _ _=>rfl) (by kernel_rfl);have o0c:=kr (P:=pw) (w:=w) (base:=base) o3e B Gv Cl 
 exact z3b (show (K0 w.params).lookup 453=some (fO "law" 75 452 "law_quirehand_k07_written_and_read" 598) from by kernel_rfl) (show codeIn (K0 w.params) (.ref 452) "law"=true from by kernel_rfl) sc_law (by decide) (z02 B Gv Cl o0g o0a o9 o0h oo oz oh o2j o0c o1e)
end K07
end
open PySem PySem.W PyProof.Rows L2
set_option maxRecDepth 100000 in
set_option maxHeartbeats 0 in
theorem PySem.Challenge.cw_quirehand_k07_written_and_read_holds : PySem.Challenge.rw_quirehand_k07_written_and_read.Holds := by
 w_on;o_law
 refine PySem.W.holds_open (q:=K07.q0) (loose:=[]) (Xt:=fun s=>xlAt K07.q0 [] s&&recOk [] s) (XP:=XL K07.q0 []) (Yf:=fun s=>K07.as0.map s.heap.get?) (Ya:=fun w=>(K07.K0 w.params).map fun (p:Addr×Obj)=>some p.2) (YP:=InK K07.K0) (N:=7938) K07.left0 (InK.of K07.as_eq) InK.keeps (fun s e=>xl_of s (Bool.and_eq_true_iff.mp e).1) XL.keeps (by rfl) (by rfl) (by rfl) (fun s e=>recFacts_of (Bool.and_eq_true_iff.mp e).2) (by rfl) (by first|assumption|decide +kernel) (by decide +kernel) ⟨rfl,rfl,rfl,rfl,rfl,by decide +kernel⟩ ?hw ?hc
 case hw=>w_witness2
 case hc=>exact L2.law_walk (l:=PySem.Challenge.rw_quirehand_k07_written_and_read) (Fm:=K07.F_law) (k:=14) (x:="_law_script") K07.law_true ⟨rfl,by decide,by decide⟩ rfl rfl (fun w h Y=>Y) K07.facts
