import PyProof.Rows.All
import Wide.All
import OpenK.AllK
import Wide.FinOn
import Lean
import PyProof.EqAt
import PyProof.EqKinds
import PyProof.TupleCall
import PyProof.ZipIter
import PySem.Challenge.RW_quirehand_k05_whole_a_word_parted
set_option Elab.async false
set_option linter.all false
set_option maxRecDepth 100000
set_option maxHeartbeats 4000000
set_option bootstrap.genMatcherCode false
set_option genSizeOfSpec false
set_option maxRecDepth 100000
namespace L2
open PySem PySem.Spec PyProof.Rows
theorem au0 (h:True:=by first | exact .inl rfl | exact .inr rfl | assumption):True:=trivial
theorem au1 (h:True:=by decide):True:=trivial
theorem au2 (h:True:=by intro _; rfl):True:=trivial
theorem au3 (h:True:=by rfl):True:=trivial
theorem au4 (h:True:=by with_unfolding_all rfl):True:=trivial
theorem au5 (h:True:=by first | exact Or.inl rfl | exact Or.inr (Or.inl rfl) | exact Or.inr (Or.inr rfl)):True:=trivial
theorem au6 (h:True:=by exact fun _ _=>rfl):True:=trivial
theorem au7 (h:True:=by simp):True:=trivial
theorem au8 (h:True:=by first | exact Or.inl rfl | exact Or.inr rfl):True:=trivial
theorem au9 (h:True:=by size_fits):True:=trivial
theorem au10 (h:True:=by exact rfl):True:=trivial
inductive Key where
 | inl (i:Int) | inr (x:Str) | non
 deriving DecidableEq
noncomputable def Wy:Value->Bool
 | .none=>true
 | _=>false
noncomputable def kE:Key->Value->Bool
 | .inl k,v=>Value.isInt k v
 | .inr x,v=>Value.isStrOf x v
 | .non,v=>Wy v
noncomputable def z39 (w:World):Key->Int
 | .inl k=>hashInt k
 | .inr x=>hashStr w x
 | .non=>0xFCA86420
theorem kg {v:Value}(h:Wy v=true):v=.none:=by cases v<;>first | rfl | cases h
theorem yf:∀ {k:Key} {v:Value},kE k v=true->(∃ i t,k=Key.inl i/\v=Value.int i t)\/(∃ x t,k=Key.inr x/\v=Value.str x t)\/(k=Key.non/\v=Value.none)
 | .inl i,v,h=>by
  obtain ⟨t,e⟩:=Value.isInt_shape (k:=i) (v:=v) h
  exact .inl ⟨i,t,rfl,e⟩
 | .inr x,v,h=>by
  obtain ⟨t,e⟩:=Value.isStrOf_shape (x:=x) (v:=v) h
  exact .inr (.inl ⟨x,t,rfl,e⟩)
 | .non,v,h=>.inr (.inr ⟨rfl,kg h⟩)
theorem Vn (i:Int)(t:Tok):kE (.inl i) (.int i t)=true:=by simp [kE,Value.isInt]
theorem Vg (x:Str)(t:Tok):kE (.inr x) (.str x t)=true:=by simp [kE,Value.isStrOf]
theorem z0A (a b:Int):decide (Key.inl a=Key.inl b)=(a==b):=by
 by_cases e:a=b
 ·subst e; simp
 ·have h:¬ Key.inl a=Key.inl b:=fun q=>e (Key.inl.inj q)
  rw [decide_eq_false h]
  exact (beq_eq_false_iff_ne.mpr e).symm
theorem z0g (a b:Str):decide (Key.inr a=Key.inr b)=decide (a=b):=by
 by_cases e:a=b
 ·subst e; simp
 ·have h:¬ Key.inr a=Key.inr b:=fun q=>e (Key.inr.inj q)
  rw [decide_eq_false h,decide_eq_false e]
theorem slot_none_hash:Slot "NoneType" "__hash__" "NoneType.__hash__" :=
 .of (owner:="NoneType") (n:="__hash__") (by rw [typeLookup_type]; rw [builtinLookup_eq_fast]; kernel_rfl) (by decide +kernel) (by decide +kernel) (by decide +kernel)
  (by first | exact .inl (by decide +kernel) | exact .inr (by decide +kernel)) (by rw [isSubtype_type] ; kernel_rfl)
theorem qS:entryFor table "NoneType.__hash__"=some Builtin.«NoneType.__hash__»:=entryFor_of_fast (by kernel_rfl)
theorem jd (a:Value):argsOk "NoneType.__hash__" ⟨[a],[]⟩:=by unfold argsOk; kernel_rfl
theorem Vm {prog:Program}{w:World}{A:Around}{E:Value->Shared->Prop}{s:Shared}{Q:Int->Shared->Prop}(h:Q 0xFCA86420 { s with toks:=s.toks+1 }):wpAny (model prog w) A (pyHash .none) Q E s:=by
 have hT:s.TypeIs .none "NoneType":=rfl
 show wpAny _ _ (pyHashByItsType .none) Q E s
 unfold pyHashByItsType
 refine wpAny_bind ?_
 rw [cRoomFor,if_neg (by decide)]
 refine wpAny_pure (wpAny_bind (wpAny_specialOf hT slot_none_hash.lookup ?_))
 rw [if_neg (by decide)]
 refine wpAny_bind (wpAny_specialOf hT slot_none_hash.lookup ?_)
 rw [if_neg (by decide)]
 refine wpAny_bind (wpAny_callSpecialIfBoundUnlessNone?_slot hT slot_none_hash (wpAny_call_entry slot_none_hash hT qS ?_ (jd _)))
 show wpAny _ _ (do ret (<- mkInt 0xFCA86420)) _ _ s
 refine wpAny_ret_mkInt ?_
 show wpAny _ _ (pyHashByItsType.reduced 0xFCA86420) Q E _
 unfold pyHashByItsType.reduced
 rw [if_pos (by decide)]
 exact wpAny_pure h
noncomputable def y0 (prog:Program)(w:World):PySem.KeyKind prog w Key where
 is:=kE
 hash:=z39 w
 inj:=fun v a b ha hb=>by
  rcases yf ha with ⟨i,t,rfl,rfl⟩ | ⟨x,t,rfl,rfl⟩ | ⟨rfl,rfl⟩
  ·rcases yf hb with ⟨j,u,rfl,e⟩ | ⟨y,u,rfl,e⟩ | ⟨rfl,e⟩
   ·injection e with e1 _; rw [e1]
   ·exact nomatch e
   ·exact nomatch e
  ·rcases yf hb with ⟨j,u,rfl,e⟩ | ⟨y,u,rfl,e⟩ | ⟨rfl,e⟩
   ·exact nomatch e
   ·injection e with e1 _; rw [e1]
   ·exact nomatch e
  ·rcases yf hb with ⟨j,u,rfl,e⟩ | ⟨y,u,rfl,e⟩ | ⟨rfl,e⟩
   ·exact nomatch e
   ·exact nomatch e
   ·rfl
 byValue:=fun k v h=>by
  rcases yf h with ⟨i,t,rfl,rfl⟩ | ⟨x,t,rfl,rfl⟩ | ⟨rfl,rfl⟩<;>rfl
 pyHash:=fun hv h=>by
  rcases yf hv with ⟨i,t,rfl,rfl⟩ | ⟨x,t,rfl,rfl⟩ | ⟨rfl,rfl⟩
  ·exact wpAny_pyHash_int h
  ·exact wpAny_pyHash_str h
  ·exact Vm h
 eqBool:=fun hu hv h=>by
  rcases yf hu with ⟨i,t,rfl,rfl⟩ | ⟨x,t,rfl,rfl⟩ | ⟨rfl,rfl⟩
  ·rcases yf hv with ⟨j,u,rfl,rfl⟩ | ⟨y,u,rfl,rfl⟩ | ⟨rfl,rfl⟩
   ·rw [z0A] at h; exact wpAny_eqBool_int h
   ·rw [decide_eq_false (by intro q; cases q)] at h; exact SeqAt.EqAt.int_str i t y u _ _ _ _ h
   ·rw [decide_eq_false (by intro q; cases q)] at h; exact SeqAt.EqAt.int_none i t _ _ _ _ h
  ·rcases yf hv with ⟨j,u,rfl,rfl⟩ | ⟨y,u,rfl,rfl⟩ | ⟨rfl,rfl⟩
   ·rw [decide_eq_false (by intro q; cases q)] at h; exact SeqAt.EqAt.str_int x t j u _ _ _ _ h
   ·rw [z0g] at h; exact wpAny_eqBool_str h
   ·rw [decide_eq_false (by intro q; cases q)] at h; exact SeqAt.EqAt.str_none x t _ _ _ _ h
  ·rcases yf hv with ⟨j,u,rfl,rfl⟩ | ⟨y,u,rfl,rfl⟩ | ⟨rfl,rfl⟩
   ·rw [decide_eq_false (by intro q; cases q)] at h; exact SeqAt.EqAt.none_int j u _ _ _ _ h
   ·rw [decide_eq_false (by intro q; cases q)] at h; exact SeqAt.EqAt.none_str y u _ _ _ _ h
   ·rw [decide_eq_true rfl] at h; exact SeqAt.EqAt.same .none _ _ _ _ h
 «strs»:=fun k x t v h=>by
  rcases yf h with ⟨i,u,rfl,e⟩ | ⟨y,u,rfl,e⟩ | ⟨rfl,e⟩
  ·exact nomatch e
  ·injection e with e1 _
   subst e1
   cases v<;>rfl
  ·exact nomatch e
theorem Y6 (prog:Program)(w:World)(i:Int)(t:Tok):(y0 prog w).is (.inl i) (.int i t)=true:=Vn i t
theorem Ye (prog:Program)(w:World)(x:Str)(t:Tok):(y0 prog w).is (.inr x) (.str x t)=true:=Vg x t
theorem ZM (prog:Program)(w:World):(y0 prog w).is .non .none=true:=rfl
open PySem PySem.Spec PyProof.Rows
inductive V where
 | non | bl (b:Bool) | int (i:Int) | str (x:Str) | byt (b:Array UInt8) | flt (b:UInt64) | ref (a:Addr) | ty (n:String)
 deriving DecidableEq
noncomputable def RelV:V->Value->Prop
 | .non,u=>u=Value.none
 | .bl b,u=>u=Value.bool b
 | .int i,u=>∃ t,u=Value.int i t
 | .str x,u=>∃ t,u=Value.str x t
 | .byt b,u=>∃ t,u=Value.bytes b t
 | .flt b,u=>∃ t,u=Value.float b t
 | .ref a,u=>u=Value.ref a
 | .ty n,u=>u=Value.type n
noncomputable abbrev Vals:List V->List Value->Prop:=Paired RelV
theorem Vals.length {xs:List V}{us:List Value}(r:Vals xs us):xs.length=us.length:=Paired.length r
theorem Vals.get:∀ {xs:List V} {us:List Value} {i:Nat} {x:V},Vals xs us->xs[i]?=some x->∃ u,us[i]?=some u/\RelV x u
 | _,_,_,_,.nil,e=>by simp at e
 | _,_,0,_,.cons r _,e=>by simp at e; subst e; exact ⟨_,rfl,r⟩
 | _,_,i+1,x,.cons _ t,e=>by
  obtain ⟨u,h1,h2⟩:=Vals.get (i:=i) (x:=x) t (by simpa using e)
  exact ⟨u,by simpa using h1,h2⟩
theorem Vals.set {x:V}{u:Value}(r:RelV x u):∀ {xs:List V} {us:List Value} (i:Nat),Vals xs us->Vals (xs.set i x) (us.set i u)
 | _,_,_,.nil=>.nil
 | _,_,0,.cons _ t=>.cons r t
 | _,_,i+1,.cons q t=>.cons q (Vals.set r i t)
theorem Vals.append:∀ {xs ys:List V} {us ws:List Value},Vals xs us->Vals ys ws->Vals (xs++ys) (us++ws)
 | _,_,_,_,.nil,s=>s
 | _,_,_,_,.cons r t,s=>.cons r (Vals.append t s)
theorem Vals.take:∀ {xs:List V} {us:List Value} (n:Nat),Vals xs us->Vals (xs.take n) (us.take n)
 | _,_,0,_=>.nil
 | _,_,_+1,.nil=>.nil
 | _,_,n+1,.cons r t=>.cons r (Vals.take n t)
theorem Vals.drop:∀ {xs:List V} {us:List Value} (n:Nat),Vals xs us->Vals (xs.drop n) (us.drop n)
 | _,_,0,r=>r
 | _,_,_+1,.nil=>.nil
 | _,_,n+1,.cons _ t=>Vals.drop n t
noncomputable def RelO:Option V->Option Value->Prop
 | some v,some u=>RelV v u
 | none,none=>True
 | _,_=>False
noncomputable def KV {κ:Type}:List (κ×V)->List (κ×Value)->Prop:=Paired fun (p:κ×V) (q:κ×Value)=>p.1=q.1/\RelV p.2 q.2
noncomputable def kV:Key->V
 | .inl i=>.int i
 | .inr x=>.str x
 | .non=>.non
noncomputable def TupN (h:Heap)(a:Addr)(items:Array Value):Prop:=∃ o,h.get? a=some o/\o.cls=.type "tuple"/\(o.dict=none/\o.slots=#[])/\∃ n,o.data=.seq items n
theorem TupN.tup {h:Heap}{a:Addr}{items:Array Value}(x:TupN h a items):IsTup h a items:=let ⟨o,ho,hc,_,n,hd⟩:=x; ⟨o,ho,hc,n,hd⟩
theorem TupN.lt {h:Heap}{a:Addr}{items:Array Value}(x:TupN h a items):a<h.objs.size:=x.tup.lt
theorem TupN.new (h:Heap)(items:Array Value):TupN (h.push { cls:=.type "tuple",data:=.seq items }) h.objs.size items:=⟨_,Heap.get?_push_size _ rfl,rfl,⟨rfl,rfl⟩,_,rfl⟩
inductive HO where
  | lst (xs:List V)
  | tup (xs:List V)
  | dK (kvs:List (Key×V)) | dT (kvs:List (List Key×V))
  | set (S:Int->Bool) (n:Nat)
  | ins (C dx:Addr) (fs:List (Str×V))
  | own (x:Addr)
  | xd (fs:List (Str×V))
  | met (f x:Addr)
  | rng (lo hi:Int)
  | frz (o:Obj) (u:HO)
  | tbl (ps:Array Value)
  | ext (φ:Heap->Prop)
noncomputable abbrev Hp:=Addr->Option HO
noncomputable def upd (H:Hp)(a:Addr)(o:HO):Hp:=fun b=>if b=a then some o else H b
theorem zK {H:Hp}{a:Addr}{o:HO}:upd H a o a=some o:=by unfold upd; rw [if_pos rfl]
theorem y4 {H:Hp}{a b:Addr}{o:HO}(h:b≠a):upd H a o b=H b:=by unfold upd; rw [if_neg h]
theorem z1s {H:Hp}{a b:Addr}{o u:HO}(h:H a=some o)(h':H b=some u)(d:o≠u):a≠b:=by
 intro e; subst e; rw [h] at h'; exact d (Option.some.inj h')
theorem yV {H:Hp}{a b:Addr}{o:HO}(h:H a=some o)(h':H b=none):a≠b:=by
 intro e; subst e; rw [h] at h'; cases h'
section
variable (P:Program)(w:World)
noncomputable def ObjOk (H:Hp)(h:Heap)(a:Addr):HO->Prop
 | .lst xs=>xs.length<=sizeLine/\∃ (its:List Value) (n:Nat),Vals xs its/\h.get? a=some { cls:=.type "list",data:=.seq its.toArray n }
 | .tup xs=>xs.length<=sizeLine/\∃ its:List Value,Vals xs its/\TupN h a its.toArray
 | .dK kvs=>kvs.length<=sizeLine/\(a==sysModules)=false/\∃ vs,KV kvs vs/\h.DictOf (y0 P w) a vs
 | .dT kvs=>kvs.length<=sizeLine/\(a==sysModules)=false/\∃ xs:List (List Key×Addr×Value),
   Paired (fun (p:List Key×V) (q:List Key×Addr×Value)=>p.1=q.1/\H q.2.1=some (.tup (p.1.map kV))/\RelV p.2 q.2.2) kvs xs /\
   ∃ o es ep,h.get? a=some o/\o.ExactDict/\o.data=.dict es ep/\es.toList=xs.map (entryOfKey (tupleKind (y0 P w)))/\(xs.map (·.1)).Nodup
 | .set S n=>h.SetOf (intKind P w) a S n
 | .ins C dx fs=>H dx=some (.own a)/\fs.length<=1000/\dx≠a/\h.get? a=some (PySem.W.instObj C dx) /\
   ∃ mA,h.Ns1 dx mA/\(∀ f,RelO (fs.lookup f) (mA f))/\PySem.Within mA (fs.map (·.1))
 | .own _=>∃ o,h.get? a=some o
 | .xd fs=>∃ mA,h.Ns1 a mA/\∀ f,RelO (fs.lookup f) (mA f)
 | .rng lo hi=>∃ t u v,h.get? a=some { cls:=.type "range",data:=.fields #[.int lo t,.int hi u,.int 1 v] }
 | .frz o u=>h.get? a=some o/\ObjOk H h a u
 | .tbl ps=>h.get? a=some { cls:=.none,data:=.fields ps }
 | .met f x=>h.get? a=some (PySem.W.methodObj (.ref f) (.ref x))
 | .ext φ=>φ h/\(∃ o,h.get? a=some o)/\∀ h1 h2:Heap,φ h1->(∀ o,h1.get? a=some o->h2.get? a=some o)->φ h2
noncomputable def HOk (H:Hp)(h:Heap):Prop:=∀ a o,H a=some o->ObjOk P w H h a o
end
section
variable {P:Program}{w:World}{H H':Hp}{h h':Heap}{a:Addr}{o:HO}
theorem ObjOk.lt (x:ObjOk P w H h a o):a<h.objs.size:=by
 cases o with
 | lst xs=>obtain ⟨_,_,_,_,e⟩:=x; exact Heap.lt_size e
 | tup xs=>obtain ⟨_,_,_,p⟩:=x; exact p.lt
 | dK kvs=>obtain ⟨_,_,_,_,o,_,_,e,_⟩:=x; exact Heap.lt_size e
 | dT kvs=>obtain ⟨_,_,_,_,o,_,_,e,_⟩:=x; exact Heap.lt_size e
 | set S n=>obtain ⟨o,_,_,_,e,_⟩:=x; exact Heap.lt_size e
 | ins C dx fs=>obtain ⟨_,_,_,e,_⟩:=x; exact Heap.lt_size e
 | own y=>obtain ⟨_,e⟩:=x; exact Heap.lt_size e
 | xd fs=>obtain ⟨_,⟨_,_,_,e,_⟩,_⟩:=x; exact Heap.lt_size e
 | rng lo hi=>obtain ⟨_,_,_,e⟩:=x; exact Heap.lt_size e
 | frz ob u=>obtain ⟨e,_⟩:=x; exact Heap.lt_size e
 | tbl ps=>exact Heap.lt_size (show h.get? a=some _ from x)
 | met f y=>exact Heap.lt_size (show h.get? a=some _ from x)
 | ext φ=>obtain ⟨_,⟨_,e⟩,_⟩:=x; exact Heap.lt_size e
theorem Paired.mapP {α β:Type}{F G:α->β->Prop}:∀ {l₁:List α} {l₂:List β},Paired F l₁ l₂->(∀ a b,F a b->G a b)->Paired G l₁ l₂
 | _,_,.nil,_=>.nil
 | _,_,.cons r t,f=>.cons (f _ _ r) (Paired.mapP t f)
theorem ObjOk.stay (x:ObjOk P w H h a o)(k:∀ b u,(b=a\/H b=some (.own a))->h.get? b=some u->h'.get? b=some u)
  (ho:∀ b,H b=some (.own a)->H' b=some (.own a)) (ht:∀ b xs,H b=some (.tup xs)->H' b=some (.tup xs)):ObjOk P w H' h' a o:=by
 induction o with
 | lst xs=>obtain ⟨z,its,n,r,e⟩:=x; exact ⟨z,its,n,r,k _ _ (.inl rfl) e⟩
 | tup xs=>obtain ⟨z,its,r,ob,e,c⟩:=x; exact ⟨z,its,r,ob,k _ _ (.inl rfl) e,c⟩
 | dK kvs=>obtain ⟨z,y,vs,r,ob,es,ep,e,c⟩:=x; exact ⟨z,y,vs,r,ob,es,ep,k _ _ (.inl rfl) e,c⟩
 | dT kvs =>
  obtain ⟨z,y,xs,r,ob,es,ep,e,c⟩:=x
  exact ⟨z,y,xs,Paired.mapP r fun p q z=>⟨z.1,ht _ _ z.2.1,z.2.2⟩,ob,es,ep,k _ _ (.inl rfl) e,c⟩
 | set S n=>obtain ⟨ob,es,ep,t,e,c⟩:=x; exact ⟨ob,es,ep,t,k _ _ (.inl rfl) e,c⟩
 | ins C dx fs =>
  obtain ⟨d,z,ne,e,mA,⟨od,es,ep,e2,c⟩,r⟩:=x
  exact ⟨ho _ d,z,ne,k _ _ (.inl rfl) e,mA,⟨od,es,ep,k _ _ (.inr d) e2,c⟩,r⟩
 | own y=>obtain ⟨ob,e⟩:=x; exact ⟨ob,k _ _ (.inl rfl) e⟩
 | xd fs=>obtain ⟨mA,⟨od,es,ep,e,c⟩,r⟩:=x; exact ⟨mA,⟨od,es,ep,k _ _ (.inl rfl) e,c⟩,r⟩
 | rng lo hi=>obtain ⟨t,u,v,e⟩:=x; exact ⟨t,u,v,k _ _ (.inl rfl) e⟩
 | frz ob u ih=>obtain ⟨e,q⟩:=x; exact ⟨k _ _ (.inl rfl) e,ih q⟩
 | tbl ps =>
  have e:h.get? a=some { cls:=.none,data:=.fields ps }:=x
  show h'.get? a=some { cls:=.none,data:=.fields ps }
  exact k a _ (.inl rfl) e
 | met f y =>
  have e:h.get? a=some (PySem.W.methodObj (.ref f) (.ref y)):=x
  show h'.get? a=some (PySem.W.methodObj (.ref f) (.ref y))
  exact k a _ (.inl rfl) e
 | ext φ=>obtain ⟨p,⟨o,e⟩,st⟩:=x; exact ⟨st _ _ p fun o q=>k _ _ (.inl rfl) q,⟨o,k _ _ (.inl rfl) e⟩,st⟩
theorem HOk.lt (x:HOk P w H h)(e:H a=some o):a<h.objs.size:=(x a o e).lt
theorem HOk.fresh (x:HOk P w H h)(e:h.objs.size<=a):H a=none:=by
 cases q:H a with
 | none=>rfl
 | some u=>exact absurd (Nat.lt_of_lt_of_le (x.lt q) e) (Nat.lt_irrefl _)
theorem HOk.kept (x:HOk P w H h)(k:∀ b u,h.get? b=some u->h'.get? b=some u):HOk P w H h':=fun a o e =>
 (x a o e).stay (fun b u _ q=>k b u q) (fun _ q=>q) fun _ _ q=>q
theorem HOk.laid (x:HOk P w H h)(k:∀ b u,h.get? b=some u->h'.get? b=some u)(hp:h.objs.size<=a)(new:ObjOk P w (upd H a o) h' a o):HOk P w (upd H a o) h':=fun b u e=>by
 have hn:=x.fresh hp
 by_cases hb:b=a
 ·subst hb; rw [zK] at e; cases e; exact new
 ·rw [y4 hb] at e
  exact (x b u e).stay (fun c v _ q=>k c v q) (fun c q=>by rw [y4 (yV q hn)]; exact q) fun c xs q=>by rw [y4 (yV q hn)]; exact q
end
noncomputable def Rd (H:Hp)(a:Addr)(u:HO):Prop:=H a=some u\/∃ o,H a=some (.frz o u)
theorem Rd.of {H:Hp}{a:Addr}{u:HO}(h:H a=some u):Rd H a u:=.inl h
theorem Rd.ok {P:Program}{w:World}{H:Hp}{h:Heap}{a:Addr}{u:HO}(r:Rd H a u)(x:HOk P w H h):ObjOk P w H h a u:=by
 rcases r with r | ⟨o,r⟩
 ·exact x a u r
 ·obtain ⟨_,q⟩:=x a _ r
  exact q
noncomputable def Mut:Option HO->Prop
 | some (.lst _)=>True
 | some (.dK _)=>True
 | some (.dT _)=>True
 | some (.set _ _)=>True
 | some (.ins _ _ _)=>True
 | some (.ext _)=>True
 | _=>False
section
variable {P:Program}{w:World}{H:Hp}{h h':Heap}{x e:Addr}{o':HO}
theorem HOk.write (ok:HOk P w H h)(mu:Mut (H x))(he:e=x\/H e=some (.own x))(k:∀ b u,b≠e->h.get? b=some u->h'.get? b=some u)(heo:∃ u,h'.get? e=some u)
  (new:ObjOk P w (upd H x o') h' x o'):HOk P w (upd H x o') h':=fun b u q=>by
 have nown:∀ c y,H c=some (.own y)->c≠x:=fun c y r z=>by subst z; rw [r] at mu; exact mu
 have ntup:∀ c xs,H c=some (.tup xs)->c≠x:=fun c xs r z=>by subst z; rw [r] at mu; exact mu
 by_cases hb:b=x
 ·subst hb; rw [zK] at q; cases q; exact new
 ·rw [y4 hb] at q
  by_cases hbe:b=e
  ·have q':H b=some (.own x):=by
    rcases he with z | z
    ·exact absurd (hbe.trans z) hb
    ·rw [hbe]; exact z
   rw [q] at q'; cases q'
   obtain ⟨v,hv⟩:=heo
   exact ⟨v,by rw [hbe]; exact hv⟩
  ·refine (ok b u q).stay (fun c v hc r=>k c v ?_ r) (fun c r=>by rw [y4 (nown c b r)]; exact r) fun c xs r=>by rw [y4 (ntup c xs r)]; exact r
   rcases hc with rfl | hc
   ·exact hbe
   ·rintro rfl
    rcases he with z | z
    ·exact nown c b hc z
    ·rw [hc] at z; cases z; exact hb rfl
end
structure Un (fs ex:List Addr)(H H':Hp)(h h':Heap):Prop where
 keep:∀ b o,h.get? b=some o->H b=none->b∉fs->b∉ex->h'.get? b=some o
 slot:∀ b o,h.get? b=some o->H b=none->b∈fs->b∉ex->∃ sl,h'.get? b=some { o with slots:=sl }
 free:∀ b o,h.get? b=some o->H b=none->b∉ex->H' b=none
 there:∀ b o,h.get? b=some o->b∉ex->∃ o',h'.get? b=some o'
 tups:∀ b xs,H b=some (.tup xs)->H' b=some (.tup xs)
 frzs:∀ b o u,H b=some (.frz o u)->H' b=some (.frz o u)
 tbls:∀ b ps,H b=some (.tbl ps)->∃ more,H' b=some (.tbl (ps++more))
section
variable {fs fs' ex ex':List Addr}{H H1 H2:Hp}{h h1 h2 h':Heap}{a x e:Addr}{o:HO}
theorem Un.any (u:Un fs ex H H1 h h1){b:Addr}{ob:Obj}(q:h.get? b=some ob)(n:H b=none)(hx:b∉ex):∃ sl,h1.get? b=some { ob with slots:=sl }:=by
 by_cases hb:b∈fs
 ·exact u.slot b ob q n hb hx
 ·exact ⟨ob.slots,u.keep b ob q n hb hx⟩
theorem Un.trans (a:Un fs ex H H1 h h1)(b:Un fs ex H1 H2 h1 h2):Un fs ex H H2 h h2 where
 keep:=fun c ob q n hc hx=>b.keep c ob (a.keep c ob q n hc hx) (a.free c ob q n hx) hc hx
 slot:=fun c ob q n hc hx=>by
  obtain ⟨sl,e1⟩:=a.slot c ob q n hc hx
  obtain ⟨sl',e2⟩:=b.slot c _ e1 (a.free c ob q n hx) hc hx
  exact ⟨sl',e2⟩
 free:=fun c ob q n hx=>by
  obtain ⟨o',e1⟩:=a.there c ob q hx
  exact b.free c o' e1 (a.free c ob q n hx) hx
 there:=fun c ob q hx=>by
  obtain ⟨o',e1⟩:=a.there c ob q hx
  exact b.there c o' e1 hx
 tups:=fun c xs q=>b.tups c xs (a.tups c xs q)
 frzs:=fun c ob xs q=>b.frzs c ob xs (a.frzs c ob xs q)
 tbls:=fun c ps q=>by
  obtain ⟨m1,e1⟩:=a.tbls c ps q
  obtain ⟨m2,e2⟩:=b.tbls c _ e1
  exact ⟨m1++m2,by rw [e2,Array.append_assoc]⟩
theorem Un.kept (k:∀ b u,h.get? b=some u->h'.get? b=some u):Un fs ex H H h h' :=
 ⟨fun b ob q _ _ _=>k b ob q,fun b ob q _ _ _=>⟨ob.slots,k b ob q⟩,fun _ _ _ n _=>n,fun b ob q _=>⟨ob,k b ob q⟩,fun _ _ q=>q,fun _ _ _ q=>q,fun _ ps q=>⟨#[],by rw [q]; simp⟩⟩
theorem Un.refl:Un fs ex H H h h:=Un.kept fun _ _ q=>q
theorem Un.laid (k:∀ b u,h.get? b=some u->h'.get? b=some u)(hp:h.objs.size<=a)(hn:H a=none):Un fs ex H (upd H a o) h h' where
 keep:=fun b u q _ _ _=>k b u q
 slot:=fun b u q _ _ _=>⟨u.slots,k b u q⟩
 free:=fun b u q n _=>by rw [y4 (Nat.ne_of_lt (Nat.lt_of_lt_of_le (Heap.lt_size q) hp))]; exact n
 there:=fun b u q _=>⟨u,k b u q⟩
 tups:=fun b xs q=>by rw [y4 (yV q hn)]; exact q
 frzs:=fun b u xs q=>by rw [y4 (yV q hn)]; exact q
 tbls:=fun b ps q=>⟨#[],by rw [y4 (yV q hn),q]; simp⟩
theorem Un.write (mu:Mut (H x))(he:e=x\/H e=some (.own x))(k:∀ b u,b≠e->h.get? b=some u->h'.get? b=some u)(heo:∃ u,h'.get? e=some u):Un fs ex H (upd H x o) h h':=by
 have hx:∀ b,H b=none->b≠x:=fun b n z=>by subst z; rw [n] at mu; exact mu
 have hb:∀ b,H b=none->b≠e:=fun b n z=>by
  subst z
  rcases he with r | r
  ·exact hx b n r
  ·rw [n] at r; cases r
 have hm:∀ b u,H b=some u->¬ Mut (some u)->b≠x:=fun b u q nm z=>by subst z; rw [q] at mu; exact nm mu
 refine ⟨fun b u q n _ _=>k b u (hb b n) q,fun b u q n _ _=>⟨u.slots,k b u (hb b n) q⟩,fun b u q n _=>by rw [y4 (hx b n)]; exact n,fun b u q _=>?_,
  fun b xs q=>by rw [y4 (hm b _ q fun z=>z)]; exact q,fun b u xs q=>by rw [y4 (hm b _ q fun z=>z)]; exact q,fun b ps q=>⟨#[],by rw [y4 (hm b _ q fun z=>z),q]; simp⟩⟩
 by_cases hbe:b=e
 ·subst hbe; exact heo
 ·exact ⟨u,k b u hbe q⟩
theorem Un.mono (u:Un fs ex H H1 h h1)(hs:∀ b∈fs,b∈fs')(hx:∀ b∈ex,b∈ex'):Un fs' ex' H H1 h h1 :=
 ⟨fun b ob q n hb he=>u.keep b ob q n (fun z=>hb (hs b z)) fun z=>he (hx b z),fun _ _ q n _ he=>u.any q n fun z=>he (hx _ z),fun b ob q n he=>u.free b ob q n fun z=>he (hx b z),fun b ob q he=>u.there b ob q fun z=>he (hx b z),u.tups,u.frzs,u.tbls⟩
end
noncomputable def trk (h:Heap)(H:Hp):List Addr:=(List.range h.objs.size).filter fun a=>(H a).isSome
noncomputable def Z7 (h:Heap)(H:Hp):Heap:=PySem.W.hideAll h (trk h H)
theorem WI (h:Heap)(H:Hp):(Z7 h H).objs.size=h.objs.size:=PySem.W.hideAll_size _ _
theorem UT {h:Heap}{H:Hp}{b:Addr}{o:Obj}(e:h.get? b=some o)(n:H b=none):(Z7 h H).get? b=some o :=
 PySem.W.hideAll_get _ e fun hm=>by
  have q:(H b).isSome=true:=(List.mem_filter.mp hm).2
  rw [n] at q; simp at q
theorem Jg {h:Heap}{H:Hp}{b:Addr}{o:Obj}(e:(Z7 h H).get? b=some o):h.get? b=some o/\H b=none:=by
 have e':h.get? b=some o:=PySem.W.of_hideAll (trk h H) e
 refine ⟨e',?_⟩
 cases q:H b with
 | none=>rfl
 | some x =>
  have hm:b∈trk h H:=List.mem_filter.mpr ⟨List.mem_range.mpr (Heap.lt_size e'),by simp [q]⟩
  have z:(Z7 h H).get? b=none:=PySem.W.hideAll_none (trk h H) hm
  rw [z] at e; cases e
noncomputable def Qs (g h:Heap)(L:Addr):List (Addr×Obj):=(List.range h.objs.size).filterMap fun a=>if a=L\/(g.get? a).isSome=true then none else (h.get? a).map fun o=>(a,o)
noncomputable def rest (g h:Heap)(L d:Addr):List (Addr×Obj):=(Qs g h L).filter fun p=>decide (p.1≠d)
open PySem PySem.Spec PyProof.Rows
structure Mod (K:PySem.W.Frag)(mg:Str->Option Value)(base:Heap):Prop where
 kin:K.In base
 glob:base.Ns mainGlobals mg
 blt:∃ mb,base.Ns builtinsNs mb/\∀ x:Str,x≠"__name__"->mb x=bootBuiltins x
 nolimit:base.NoLimit
structure Cx where
 prog:Program
 w:World
 K:PySem.W.Frag
 mg:Str->Option Value
 base:Heap
 A:Around
 N:List Str
 s₀:Shared
 H₀:Hp
 env:Env
 outer:List Env
 stack:List Env
 ex:List Addr
 fn:Str->Bool
 calm:Bool
 pn:List (Addr×Obj)
 xe:Value->Shared->Prop
noncomputable def frs (l:List Env):List Addr:=l.filterMap (·.frame)
noncomputable abbrev Cx.fs (X:Cx):List Addr:=frs X.outer
noncomputable def Vis (sc:Scope)(x:Str):Prop:=sc.names.lookup x=some .local\/sc.names.lookup x=some .cell\/sc.names.lookup x=some .free
noncomputable def Loc (sc:Scope)(x:Str):Prop:=sc.names.lookup x=some .local\/sc.names.lookup x=some .cell
noncomputable def z11 (env:Env)(h:Heap)(m:Str->Option Value)(x:Str)(u:Value):Prop :=
 (env.kindOf x=some .local/\m x=some u)\/((env.kindOf x=some .cell\/env.kindOf x=some .free)/\∃ c,env.cells.lookup x=some c/\h.IsCell c (some u))
structure Cx.Ok (X:Cx):Prop where
 mod:Mod X.K X.mg X.base
 kind:X.env.scope.kind=.function
 glob:X.env.globals=mainGlobals
 blt:X.env.builtins=builtinsNs
 above:X.s₀.heap.objs.size<=X.env.locals
 inj:∀ x y c,X.env.cells.lookup x=some c->X.env.cells.lookup y=some c->x=y
 has:∀ x,(X.env.kindOf x=some .cell\/X.env.kindOf x=some .free)->∃ c,X.env.cells.lookup x=some c
 cab:∀ x c,X.fn x=true->X.env.cells.lookup x=some c->X.s₀.heap.objs.size<=c
 hd:X.calm=true->X.A.handled=none
 frames:X.A.frames=some X.stack
 stk:X.stack=X.outer\/(X.stack=X.env::X.outer/\X.env.frame=some X.env.locals)
 exf:∀ b∈X.ex,b≠X.env.locals/\∀ x c,X.env.cells.lookup x=some c->c≠b
 bs:∀ b o,X.base.get? b=some o->X.s₀.heap.get? b=some o/\X.H₀ b=none
 bsz:X.base.objs.size<=X.s₀.heap.objs.size
 noex:∀ b o,X.base.get? b=some o->b∉X.ex
 exfs:∀ b∈X.ex,b∉X.fs
 funs:X.s₀.heap.FunFrames X.base X.outer
 frf:∀ b∈X.fs,X.H₀ b=none
structure Inv (X:Cx)(pins:List (Addr×Obj))(σ:List (Option V))(H:Hp)(s:Shared):Prop where
 ok:X.Ok
 os:s.os=X.s₀.os
 bare:AllBare s.gens
 base:Un X.fs X.ex X.H₀ H X.s₀.heap s.heap
 loc:∃ m,s.heap.Ns X.env.locals m/\∀ (i:Nat) (x:Str) (v:V),X.N[i]?=some x->σ[i]?=some (some v)->Vis X.env.scope x->∃ u,RelV v u/\z11 X.env s.heap m x u
 cell:∀ x c,X.env.cells.lookup x=some c->∃ v,s.heap.IsCell c v
 free:H X.env.locals=none
 freeC:∀ x c,X.env.cells.lookup x=some c->H c=none
 pin:∀ p∈X.pn++pins,s.heap.get? p.1=some p.2/\H p.1=none/\p.1≠X.env.locals/\p.1∉X.fs/\∀ v,p.2.data≠.cell v
 hok:HOk X.prog X.w H s.heap
 len:σ.length=X.N.length
section
variable {X:Cx}{pins:List (Addr×Obj)}{σ:List (Option V)}{H H':Hp}{s:Shared}{h':Heap}
theorem Cx.Ok.nofr (ok:X.Ok){b:Addr}{o:Obj}(e:X.base.get? b=some o):b∉X.fs:=fun hb=>by
 have:=(ok.funs.mem hb).1
 rw [e] at this; cases this
theorem Inv.bs (I:Inv X pins σ H s):∀ b o,X.base.get? b=some o->s.heap.get? b=some o/\H b=none:=fun b o e =>
 ⟨I.base.keep b o (I.ok.bs b o e).1 (I.ok.bs b o e).2 (I.ok.nofr e) (I.ok.noex b o e),I.base.free b o (I.ok.bs b o e).1 (I.ok.bs b o e).2 (I.ok.noex b o e)⟩
theorem Inv.bk (I:Inv X pins σ H s):∀ b o,X.base.get? b=some o->s.heap.get? b=some o:=fun b o e=>(I.bs b o e).1
theorem Inv.mod (I:Inv X pins σ H s):Mod X.K X.mg X.base:=I.ok.mod
theorem Inv.kIn (I:Inv X pins σ H s):X.K.In s.heap:=I.ok.mod.kin.keeps I.bk
theorem Inv.nolimit (I:Inv X pins σ H s):s.heap.NoLimit:=I.ok.mod.nolimit.keeps I.bk
theorem Inv.fr (I:Inv X pins σ H s):∃ m,Fr X.base X.env.locals s.heap m :=
 let ⟨m,hn,_⟩:=I.loc
 ⟨m,hn,I.bk,Nat.le_trans I.ok.bsz I.ok.above⟩
theorem Inv.lt (I:Inv X pins σ H s):X.env.locals<s.heap.objs.size:=let ⟨_,hn,_⟩:=I.loc; hn.lt
theorem Inv.sz (I:Inv X pins σ H s):X.s₀.heap.objs.size<=s.heap.objs.size:=Nat.le_trans I.ok.above (Nat.le_of_lt I.lt)
theorem Inv.nofs (I:Inv X pins σ H s){a:Addr}(h:s.heap.objs.size<=a):a∉X.fs:=fun hb=>by
 obtain ⟨_,o,ho,_⟩:=I.ok.funs.mem hb
 exact absurd (Nat.lt_of_lt_of_le (Heap.lt_size ho) (Nat.le_trans I.sz h)) (Nat.lt_irrefl _)
theorem Inv.cne (I:Inv X pins σ H s):∀ x c,X.env.cells.lookup x=some c->c≠X.env.locals:=fun x c e z=>by
 obtain ⟨v,o,ho,hd⟩:=I.cell x c e
 obtain ⟨m,⟨o',es,ep,ho',hd',_⟩,_⟩:=I.loc
 rw [z,ho'] at ho; cases ho; rw [hd'] at hd; cases hd
theorem Inv.funs (I:Inv X pins σ H s):s.heap.FunFrames X.base X.outer:=by
 have all:∀ (l:List Env),(∀ b∈frs l,b∈X.fs)->X.s₀.heap.FunFrames X.base l->s.heap.FunFrames X.base l:=by
  intro l
  induction l with
  | nil=>intro _ _; trivial
  | cons env r ih =>
   intro hs hl
   obtain ⟨hk,⟨L,o,hf,hn,ho,hd⟩,hr⟩:=hl
   have hL:L∈X.fs:=hs L (by unfold frs; rw [List.filterMap_cons,hf]; exact List.mem_cons_self)
   obtain ⟨sl,e⟩:=I.base.slot L o ho (I.ok.frf L hL) hL fun z=>I.ok.exfs L z hL
   exact ⟨hk,⟨L,_,hf,hn,e,hd⟩,ih (fun b hb=>hs b (by unfold frs; rw [List.filterMap_cons,hf]; exact List.mem_cons_of_mem _ hb)) hr⟩
 exact all X.outer (fun _ hb=>hb) I.ok.funs
theorem Inv.stack (I:Inv X pins σ H s):s.heap.FunFrames X.base X.stack:=by
 rcases I.ok.stk with e | ⟨e,hf⟩
 ·rw [e]; exact I.funs
 ·rw [e]
  obtain ⟨m,hn,_⟩:=I.loc
  refine .cons (by rw [I.ok.kind]; decide) hf hn ?_ I.funs
  exact Heap.get?_none_of_le (Nat.le_trans I.ok.bsz I.ok.above)
theorem Inv.stkSub (I:Inv X pins σ H s):∀ b∈frs X.stack,b∈X.env.locals::X.fs:=fun b hb=>by
 rcases I.ok.stk with e | ⟨e,hf⟩
 ·rw [e] at hb; exact List.mem_cons_of_mem _ hb
 ·rw [e] at hb
  unfold frs at hb
  rw [List.filterMap_cons,hf] at hb
  exact hb
theorem Inv.stkFree (I:Inv X pins σ H s):∀ b∈frs X.stack,H b=none:=fun b hb=>by
 rcases List.mem_cons.mp (I.stkSub b hb) with e | hb
 ·rw [e]; exact I.free
 ·obtain ⟨_,o,ho,_⟩:=I.ok.funs.mem hb
  exact I.base.free b o ho (I.ok.frf b hb) fun z=>I.ok.exfs b z hb
theorem Inv.step {g':Array GenState}{t':Nat}{d':Drawn}{ch:List Addr}(I:Inv X pins σ H s)
  (hch:∀ b∈ch,(b∈X.ex\/X.s₀.heap.objs.size<=b)/\b≠X.env.locals/\(∀ x c,X.env.cells.lookup x=some c->c≠b)/\∀ p∈X.pn++pins,p.1≠b)
  (keep:∀ b o,b≠X.env.locals->b∉X.fs->b∉ch->s.heap.get? b=some o->H b=none->h'.get? b=some o)
  (slot:∀ b o,b≠X.env.locals->b∈X.fs->b∉ch->s.heap.get? b=some o->H b=none->∃ sl,h'.get? b=some { o with slots:=sl }) (free:∀ b o,b∉ch->s.heap.get? b=some o->H b=none->H' b=none)
  (there:∀ b o,b∉ch->s.heap.get? b=some o->∃ o',h'.get? b=some o')
  (tups:∀ b xs,H b=some (.tup xs)->H' b=some (.tup xs)) (frzs:∀ b o u,H b=some (.frz o u)->H' b=some (.frz o u)) (tbls:∀ b ps,H b=some (.tbl ps)->∃ more,H' b=some (.tbl (ps++more)))
  (ns:∀ m,s.heap.Ns X.env.locals m->h'.Ns X.env.locals m) (hok:HOk X.prog X.w H' h') (hg:AllBare g') :
  Inv X pins σ H' { s with heap:=h',gens:=g',drawn:=d',toks:=t' }:=by
 have neL:∀ b o,X.s₀.heap.get? b=some o->b≠X.env.locals:=fun b o e=>Nat.ne_of_lt (Nat.lt_of_lt_of_le (Heap.lt_size e) I.ok.above)
 have neC:∀ b o,X.s₀.heap.get? b=some o->b∉X.ex->b∉ch:=fun b o e hx hb=>by
  rcases (hch b hb).1 with z | z
  ·exact hx z
  ·exact absurd (Nat.lt_of_lt_of_le (Heap.lt_size e) z) (Nat.lt_irrefl _)
 have cellK:∀ x c,X.env.cells.lookup x=some c->∀ v,s.heap.IsCell c v->h'.IsCell c v:=fun x c e v ⟨o,ho,hd⟩=>by
  have nch:c∉ch:=fun z=>(hch c z).2.2.1 x c e rfl
  by_cases hc:c∈X.fs
  ·obtain ⟨sl,q⟩:=slot c o (I.cne x c e) hc nch ho (I.freeC x c e)
   exact ⟨_,q,hd⟩
  ·exact ⟨o,keep c o (I.cne x c e) hc nch ho (I.freeC x c e),hd⟩
 refine ⟨I.ok,I.os,hg,⟨fun b o e n hb hx=>?_,fun b o e n hb hx=>?_,fun b o e n hx=>?_,fun b o e hx=>?_,fun b xs e=>tups b xs (I.base.tups b xs e),fun b o xs e=>frzs b o xs (I.base.frzs b o xs e),fun b ps e=>?_⟩,?_,fun x c e=>?_,?_,fun x c e=>?_,fun p hp=>?_,hok,I.len⟩
 ·exact keep b o (neL b o e) hb (neC b o e hx) (I.base.keep b o e n hb hx) (I.base.free b o e n hx)
 ·obtain ⟨sl,e1⟩:=I.base.slot b o e n hb hx
  obtain ⟨sl',e2⟩:=slot b _ (neL b o e) hb (neC b o e hx) e1 (I.base.free b o e n hx)
  exact ⟨sl',e2⟩
 ·obtain ⟨o',e1⟩:=I.base.there b o e hx
  exact free b o' (neC b o e hx) e1 (I.base.free b o e n hx)
 ·obtain ⟨o',e1⟩:=I.base.there b o e hx
  exact there b o' (neC b o e hx) e1
 ·obtain ⟨m1,e1⟩:=I.base.tbls b ps e
  obtain ⟨m2,e2⟩:=tbls b _ e1
  exact ⟨m1++m2,by rw [e2,Array.append_assoc]⟩
 ·obtain ⟨m,hn,hl⟩:=I.loc
  refine ⟨m,ns m hn,fun i x v e1 e2 e3=>?_⟩
  obtain ⟨u,r,l⟩:=hl i x v e1 e2 e3
  refine ⟨u,r,?_⟩
  rcases l with l | ⟨k,c,e,z⟩
  ·exact .inl l
  ·exact .inr ⟨k,c,e,cellK x c e _ z⟩
 ·obtain ⟨v,z⟩:=I.cell x c e
  exact ⟨v,cellK x c e v z⟩
 ·obtain ⟨m,⟨o,_,_,ho,_⟩,_⟩:=I.loc
  exact free _ o (fun z=>(hch _ z).2.1 rfl) ho I.free
 ·obtain ⟨v,o,ho,hd⟩:=I.cell x c e
  exact free c o (fun z=>(hch c z).2.2.1 x c e rfl) ho (I.freeC x c e)
 ·obtain ⟨e,n,ne,nf,d⟩:=I.pin p hp
  have nch:p.1∉ch:=fun z=>(hch p.1 z).2.2.2 p hp rfl
  exact ⟨keep p.1 p.2 ne nf nch e n,free p.1 p.2 nch e n,ne,nf,d⟩
theorem Inv.un {t':Nat}(I:Inv X pins σ H s)(u:Un X.fs [] H H' s.heap h')(hok:HOk X.prog X.w H' h'):Inv X pins σ H' { s with heap:=h',toks:=t' }:=by
 obtain ⟨m,⟨o,es,ep,ho,r⟩,_⟩:=id I.loc
 obtain ⟨sl,hL⟩:=u.any ho I.free (by simp)
 exact I.step (g':=s.gens) (d':=s.drawn) (ch:=[]) (fun _ z=>nomatch z) (fun b o _ hb _ e n=>u.keep b o e n hb (by simp)) (fun b o _ hb _ e n=>u.slot b o e n hb (by simp)) (fun b o _ e n=>u.free b o e n (by simp)) (fun b o _ e=>u.there b o e (by simp)) u.tups u.frzs u.tbls (fun m' hm=>by
  obtain ⟨o',es',ep',ho',r'⟩:=hm
  rw [ho] at ho'; cases ho'
  exact ⟨_,es',ep',hL,r'⟩) hok I.bare
theorem Inv.call {g':Array GenState}{t':Nat}{d':Drawn}{ch:List Addr}(I:Inv X pins σ H s)(u:Un (frs X.stack) ch H H' s.heap h')(hok:HOk X.prog X.w H' h')(hg:AllBare g')
  (hch:∀ b∈ch,(b∈X.ex\/X.s₀.heap.objs.size<=b)/\b≠X.env.locals/\(∀ x c,X.env.cells.lookup x=some c->c≠b)/\∀ p∈X.pn++pins,p.1≠b) :
  Inv X pins σ H' { s with heap:=h',gens:=g',drawn:=d',toks:=t' }:=by
 obtain ⟨m,⟨o,es,ep,ho,r⟩,_⟩:=id I.loc
 obtain ⟨sl,hL⟩:=u.any ho I.free fun z=>(hch _ z).2.1 rfl
 exact I.step (ch:=ch) hch (fun b o hL hb hc e n=>u.keep b o e n (fun z=>(List.mem_cons.mp (I.stkSub b z)).elim hL hb) hc) (fun b o _ _ hc e n=>u.any e n hc) (fun b o hc e n=>u.free b o e n hc) (fun b o hc e=>u.there b o e hc) u.tups u.frzs u.tbls (fun m' hm=>by
  obtain ⟨o',es',ep',ho',r'⟩:=hm
  rw [ho] at ho'; cases ho'
  exact ⟨_,es',ep',hL,r'⟩) hok hg
theorem Inv.turned {t':Nat}{it:Addr}(I:Inv X pins σ H s)(k:∀ b o,b≠it->s.heap.get? b=some o->h'.get? b=some o)(hn:H it=none)(hL:it≠X.env.locals)
  (h1:it∈X.ex\/X.s₀.heap.objs.size<=it) (h2:∀ x c,X.env.cells.lookup x=some c->c≠it) (h3:∀ p∈X.pn++pins,p.1≠it):Inv X pins σ H { s with heap:=h',toks:=t' }:=by
 have nit:∀ b u,H b=some u->b≠it:=fun b u e z=>by rw [z,hn] at e; cases e
 refine I.step (g':=s.gens) (d':=s.drawn) (ch:=[it]) (fun b hb=>?_) (fun b o _ _ hc e _=>k b o (fun z=>hc (by simp [z])) e) (fun b o _ _ hc e _=>⟨o.slots,k b o (fun z=>hc (by simp [z])) e⟩) (fun _ _ _ _ n=>n)
  (fun b o hc e=>⟨o,k b o (fun z=>hc (by simp [z])) e⟩) (fun _ _ e=>e) (fun _ _ _ e=>e) (fun b ps e=>⟨#[],by rw [e]; simp⟩) (fun m hm=>?_) (fun b u e=>?_) I.bare
 ·have e:b=it:=by simpa using hb
  subst e
  exact ⟨h1,hL,h2,h3⟩
 ·obtain ⟨o,es,ep,ho,r⟩:=hm
  exact ⟨o,es,ep,k _ o (Ne.symm hL) ho,r⟩
 ·refine (I.hok b u e).stay (fun c v hc q=>k c v ?_ q) (fun _ q=>q) fun _ _ q=>q
  rcases hc with z | z
  ·rw [z]; exact nit b u e
  ·exact nit c _ z
theorem Inv.tok (I:Inv X pins σ H s)(t:Nat):Inv X pins σ H { s with toks:=t }:=I.un (h':=s.heap) (t':=t) Un.refl I.hok
theorem Inv.kept {t':Nat}(I:Inv X pins σ H s)(k:∀ b u,s.heap.get? b=some u->h'.get? b=some u):Inv X pins σ H { s with heap:=h',toks:=t' }:=I.un (Un.kept k) (I.hok.kept k)
theorem Inv.laid {a:Addr}{o:HO}{t':Nat}(I:Inv X pins σ H s)(k:∀ b u,s.heap.get? b=some u->h'.get? b=some u)(hp:s.heap.objs.size<=a)(new:ObjOk X.prog X.w (upd H a o) h' a o) :
  Inv X pins σ (upd H a o) { s with heap:=h',toks:=t' }:=I.un (Un.laid k hp (I.hok.fresh hp)) (I.hok.laid k hp new)
theorem Inv.write {x e:Addr}{o:HO}{t':Nat}(I:Inv X pins σ H s)(mu:Mut (H x))(he:e=x\/H e=some (.own x))(k:∀ b u,b≠e->s.heap.get? b=some u->h'.get? b=some u)(heo:∃ u,h'.get? e=some u)
  (new:ObjOk X.prog X.w (upd H x o) h' x o):Inv X pins σ (upd H x o) { s with heap:=h',toks:=t' }:=I.un (Un.write mu he k heo) (I.hok.write mu he k heo new)
theorem Inv.weak {σ':List (Option V)}(I:Inv X pins σ H s)(hl:σ'.length=σ.length)(w:∀ (i:Nat) v,σ'[i]?=some (some v)->σ[i]?=some (some v)):Inv X pins σ' H s :=
 ⟨I.ok,I.os,I.bare,I.base,let ⟨m,hn,hl'⟩:=I.loc; ⟨m,hn,fun i x v e1 e2 e3=>hl' i x v e1 (w i v e2) e3⟩,I.cell,I.free,I.freeC,I.pin,I.hok,hl.trans I.len⟩
theorem Inv.pins_of {pins':List (Addr×Obj)}(I:Inv X pins σ H s)(h:∀ p∈pins',s.heap.get? p.1=some p.2/\H p.1=none/\p.1≠X.env.locals/\p.1∉X.fs/\∀ v,p.2.data≠.cell v):Inv X pins' σ H s :=
 ⟨I.ok,I.os,I.bare,I.base,I.loc,I.cell,I.free,I.freeC,fun p hp=>(List.mem_append.mp hp).elim (fun z=>I.pin p (List.mem_append_left _ z)) (h p),I.hok,I.len⟩
theorem jN {N:List Str}(hN:N.Nodup){i j:Nat}{x:Str}(a:N[i]?=some x)(b:N[j]?=some x):i=j:=by
 obtain ⟨h1,e1⟩:=List.getElem?_eq_some_iff.mp a
 obtain ⟨h2,e2⟩:=List.getElem?_eq_some_iff.mp b
 exact (List.getElem_inj hN).mp (e1.trans e2.symm)
theorem qm {M:Model}{A:Around}{E:Value->Shared->Prop}{i:Nat}{x:Str}{v:V}{u:Value}{Q:Unit->Shared->Prop}(I:Inv X pins σ H s)(hN:X.N.Nodup)(hi:X.N[i]?=some x)(hx:Loc X.env.scope x)(r:RelV v u)
  (h:∀ s',Inv X pins (σ.set i (some v)) H s'->(∃ a,Heap.SameBut a s.heap s'.heap/\(a=X.env.locals\/X.env.cells.lookup x=some a))->Q () s') (hf:autoParam (X.fn x=true\/X.env.scope.names.lookup x=some .local) L2.au0._auto_1):wpAny M A (storeName X.env x u) Q E s:=by
 obtain ⟨m,hn,hl⟩:=id I.loc
 have hcls:(X.env.scope.kind==.class||(X.env.scope.kind==.module&&X.env.locals != X.env.globals))=false:=by rw [I.ok.kind]; rfl
 have hiσ:i<σ.length:=by rw [I.len]; exact (List.getElem?_eq_some_iff.mp hi).1
 have cne:=I.cne
 have tracked:∀ {a:Addr} {h':Heap},(∃ o,s.heap.get? a=some o/\H a=none)->Heap.SameBut a s.heap h'->HOk X.prog X.w H h':=fun {a h'} ha hs b ob e=>by
  obtain ⟨_,_,hfree⟩:=ha
  refine (I.hok b ob e).stay (fun c w' hc q=>(hs.2 c ?_).trans q) (fun _ q=>q) fun _ _ q=>q
  rintro rfl
  rcases hc with rfl | hc
  ·rw [hfree] at e; cases e
  ·rw [hfree] at hc; cases hc
 rcases hx with hk | hk
 ·refine wpAny_storeName_local hk hn (fun h' hn' hs=>?_) hcls
  obtain ⟨oL,_,_,hoL,_⟩:=id hn
  refine h _ ⟨I.ok,I.os,I.bare,⟨fun b o e n hb hx=>?_,fun b o e n hb hx=>?_,I.base.free,fun b o e hx=>?_,I.base.tups,I.base.frzs,I.base.tbls⟩,⟨_,hn',fun j y v' e1 e2 e3=>?_⟩,fun y c e=>?_,I.free,I.freeC,fun p hp=>?_,tracked ⟨oL,hoL,I.free⟩ hs,by simpa using I.len⟩ ⟨_,hs,.inl rfl⟩
  ·exact (hs.2 b (Nat.ne_of_lt (Nat.lt_of_lt_of_le (Heap.lt_size e) I.ok.above))).trans (I.base.keep b o e n hb hx)
  ·obtain ⟨sl,e1⟩:=I.base.slot b o e n hb hx
   exact ⟨sl,(hs.2 b (Nat.ne_of_lt (Nat.lt_of_lt_of_le (Heap.lt_size e) I.ok.above))).trans e1⟩
  ·obtain ⟨o',e1⟩:=I.base.there b o e hx
   exact ⟨o',(hs.2 b (Nat.ne_of_lt (Nat.lt_of_lt_of_le (Heap.lt_size e) I.ok.above))).trans e1⟩
  ·by_cases hj:j=i
   ·subst hj
    rw [hi] at e1; cases e1
    rw [List.getElem?_set_self hiσ] at e2
    cases e2
    exact ⟨u,r,.inl ⟨hk,by simp⟩⟩
   ·rw [List.getElem?_set_ne (Ne.symm hj)] at e2
    obtain ⟨u',r',q⟩:=hl j y v' e1 e2 e3
    refine ⟨u',r',?_⟩
    rcases q with ⟨k,e⟩ | ⟨k,c,e,z⟩
    ·refine .inl ⟨k,?_⟩
     have:y≠x:=fun e=>hj (jN hN e1 (e▸hi))
     simp [this,e]
    ·exact .inr ⟨k,c,e,z.sameBut hs (cne y c e)⟩
  ·obtain ⟨w',z⟩:=I.cell y c e
   exact ⟨w',z.sameBut hs (cne y c e)⟩
  ·obtain ⟨e,n,ne,nf,d⟩:=I.pin p hp
   exact ⟨(hs.2 p.1 ne).trans e,n,ne,nf,d⟩
 ·have hfn:X.fn x=true:=by
   rcases hf with z | z
   ·exact z
   ·rw [z] at hk; cases hk
  obtain ⟨c,hc⟩:=I.ok.has x (.inl hk)
  obtain ⟨w',z⟩:=I.cell x c hc
  refine wpAny_storeName_cell I.ok.kind hk hc z (fun h' hc' hs=>?_)
  obtain ⟨oc,hoc,hocd⟩:=id z
  refine h { s with heap:=h' } ⟨I.ok,I.os,I.bare,⟨fun b o e n hb hx=>?_,fun b o e n hb hx=>?_,I.base.free,fun b o e hx=>?_,I.base.tups,I.base.frzs,I.base.tbls⟩,⟨m,hn.sameBut hs (Ne.symm (cne x c hc)),fun j y v' e1 e2 e3=>?_⟩,fun y c' e=>?_,I.free,I.freeC,fun p hp=>?_,tracked ⟨oc,hoc,I.freeC x c hc⟩ hs,by simpa using I.len⟩ ⟨c,hs,.inr hc⟩
  ·exact (hs.2 b (Nat.ne_of_lt (Nat.lt_of_lt_of_le (Heap.lt_size e) (I.ok.cab x c hfn hc)))).trans (I.base.keep b o e n hb hx)
  ·obtain ⟨sl,e1⟩:=I.base.slot b o e n hb hx
   exact ⟨sl,(hs.2 b (Nat.ne_of_lt (Nat.lt_of_lt_of_le (Heap.lt_size e) (I.ok.cab x c hfn hc)))).trans e1⟩
  ·obtain ⟨o',e1⟩:=I.base.there b o e hx
   exact ⟨o',(hs.2 b (Nat.ne_of_lt (Nat.lt_of_lt_of_le (Heap.lt_size e) (I.ok.cab x c hfn hc)))).trans e1⟩
  ·by_cases hj:j=i
   ·subst hj
    rw [hi] at e1; cases e1
    rw [List.getElem?_set_self hiσ] at e2
    cases e2
    exact ⟨u,r,.inr ⟨.inl hk,c,hc,hc'⟩⟩
   ·rw [List.getElem?_set_ne (Ne.symm hj)] at e2
    obtain ⟨u',r',q⟩:=hl j y v' e1 e2 e3
    refine ⟨u',r',?_⟩
    rcases q with q | ⟨k,c',e,z'⟩
    ·exact .inl q
    ·refine .inr ⟨k,c',e,z'.sameBut hs ?_⟩
     rintro rfl
     exact hj (jN hN e1 (I.ok.inj _ _ _ e hc▸hi))
  ·by_cases hcc:c'=c
   ·subst hcc; exact ⟨_,hc'⟩
   ·obtain ⟨w2,z2⟩:=I.cell y c' e
    exact ⟨w2,z2.sameBut hs hcc⟩
  ·obtain ⟨e,n,ne,nf,d⟩:=I.pin p hp
   refine ⟨(hs.2 p.1 ?_).trans e,n,ne,nf,d⟩
   intro q
   rw [q,hoc] at e
   have q':oc=p.2:=Option.some.inj e
   exact d w' (by rw [<- q']; exact hocd)
theorem uJ {M:Model}{A:Around}{E:Value->Shared->Prop}{i:Nat}{x:Str}{v:V}{u:Value}{Q:Unit->Shared->Prop}(I:Inv X pins σ H s)(hN:X.N.Nodup)(hi:X.N[i]?=some x)(hx:Loc X.env.scope x)(r:RelV v u)
  (h:∀ s',Inv X pins (σ.set i (some v)) H s'->Q () s') (hf:autoParam (X.fn x=true\/X.env.scope.names.lookup x=some .local) L2.au0._auto_1):wpAny M A (storeName X.env x u) Q E s :=
 qm I hN hi hx r (fun s' I' _=>h s' I') hf
theorem Inv.call' {s':Shared}{ch:List Addr}(I:Inv X pins σ H s)(ho:s'.os=s.os)(u:Un (frs X.stack) ch H H' s.heap s'.heap)(hok:HOk X.prog X.w H' s'.heap)(hg:AllBare s'.gens)
  (hch:∀ b∈ch,(b∈X.ex\/X.s₀.heap.objs.size<=b)/\b≠X.env.locals/\(∀ x c,X.env.cells.lookup x=some c->c≠b)/\∀ p∈X.pn++pins,p.1≠b):Inv X pins σ H' s':=by
 obtain ⟨h',g',d',t',o'⟩:=s'
 have e:o'=s.os:=ho
 subst e
 exact I.call (g':=g') (t':=t') (d':=d') u hok hg hch
end
noncomputable abbrev XK:=Value->Option Addr->Hp->Prop
noncomputable abbrev St:=List (Option V)
noncomputable abbrev VK:=V->Hp->Prop
noncomputable abbrev TE:=St->Hp->VK->Prop
noncomputable abbrev TT:=St->Hp->(Bool->Hp->Prop)->Prop
noncomputable abbrev TA:=St->Hp->(List V->Hp->Prop)->Prop
structure Ends where
 nx:St->Hp->Prop
 rt:VK
 bk:St->Hp->Prop:=fun _ _=>False
 ct:St->Hp->Prop:=fun _ _=>False
noncomputable abbrev TS:=Ends->St->Hp->Prop
noncomputable def EP (X:Cx)(pins:List (Addr×Obj))(σ:St)(Q:VK)(u:Value)(s':Shared):Prop:=∃ v H',Inv X pins σ H' s'/\RelV v u/\Q v H'
noncomputable def TP (X:Cx)(pins:List (Addr×Obj))(σ:St)(Q:Bool->Hp->Prop)(b:Bool)(s':Shared):Prop:=∃ H',Inv X pins σ H' s'/\Q b H'
noncomputable def AP (X:Cx)(pins:List (Addr×Obj))(σ:St)(Q:List V->Hp->Prop)(us:List Value)(s':Shared):Prop:=∃ vs H',Inv X pins σ H' s'/\Vals vs us/\Q vs H'
noncomputable def SP (X:Cx)(pins:List (Addr×Obj))(D:Ends)(f:Flow)(s':Shared):Prop :=
 match f with
 | .next=>∃ σ' H',Inv X pins σ' H' s'/\D.nx σ' H'
 | .brk=>∃ σ' H',Inv X pins σ' H' s'/\D.bk σ' H'
 | .cont=>∃ σ' H',Inv X pins σ' H' s'/\D.ct σ' H'
 | .ret u=>∃ v σ' H',Inv X pins σ' H' s'/\RelV v u/\D.rt v H'
noncomputable def PE (X:Cx)(e:Expr)(t:TE):Prop :=
 ∀ (pins:List (Addr×Obj)) (s:Shared) (σ:St) (H:Hp) (Q:VK),Inv X pins σ H s->t σ H Q->wpAny (model X.prog X.w) X.A (eval e X.env) (EP X pins σ Q) X.xe s
noncomputable def PT (X:Cx)(e:Expr)(t:TT):Prop :=
 ∀ (pins:List (Addr×Obj)) (s:Shared) (σ:St) (H:Hp) (Q:Bool->Hp->Prop),Inv X pins σ H s->t σ H Q->wpAny (model X.prog X.w) X.A (isTrue e X.env (eval e X.env)) (TP X pins σ Q) X.xe s
noncomputable def PW (X:Cx)(e:Expr)(t:TT):Prop :=
 ∀ (whole:Sem Value) (pins:List (Addr×Obj)) (s:Shared) (σ:St) (H:Hp) (Q:Bool->Hp->Prop),Inv X pins σ H s->t σ H Q->wpAny (model X.prog X.w) X.A (isTrue e X.env whole) (TP X pins σ Q) X.xe s
theorem PW.pt {X:Cx}{e:Expr}{t:TT}(h:PW X e t):PT X e t:=h _
noncomputable def PA (X:Cx)(es:List Expr)(t:TA):Prop :=
 ∀ (pos:Pos) (pins:List (Addr×Obj)) (s:Shared) (σ:St) (H:Hp) (Q:List V->Hp->Prop),Inv X pins σ H s->t σ H Q->wpAny (model X.prog X.w) X.A (spliced (backTo pos (starEach es X.env))) (AP X pins σ Q) X.xe s
noncomputable def PS (X:Cx)(st:Stmt)(t:TS):Prop :=
 ∀ (pins:List (Addr×Obj)) (s:Shared) (σ:St) (H:Hp) (D:Ends),Inv X pins σ H s->t D σ H->wpAny (model X.prog X.w) X.A (exec st X.env) (SP X pins D) X.xe s
noncomputable def PSs (X:Cx)(st:List Stmt)(t:TS):Prop :=
 ∀ (pins:List (Addr×Obj)) (s:Shared) (σ:St) (H:Hp) (D:Ends),Inv X pins σ H s->t D σ H->wpAny (model X.prog X.w) X.A (execs st X.env) (SP X pins D) X.xe s
theorem thn {α:Type}{t:Sem α}{Q Q':α->Shared->Prop}{M:Model}{A:Around}{E:Value->Shared->Prop}{s:Shared}(h:wpAny M A t Q E s)(hQ:∀ a s,Q a s->Q' a s):wpAny M A t Q' E s:=wpAny_mono h hQ fun _ _ x=>x
open PySem PySem.Spec PyProof.Rows
section
variable {X:Cx}
noncomputable def Jz (i:Nat):TE:=fun σ H Q=>∃ v,σ[i]?=some (some v)/\Q v H
noncomputable def tC (v:V):TE:=fun _ H Q=>Q v H
theorem vC {i:Nat}{x:Str}{pos:Pos}(hN:X.N[i]?=some x)(hv:Vis X.env.scope x)(hd:autoParam ((x==("__debug__":Str))=false) L2.au1._auto_1)(hcd:autoParam ((x==("__classdict__":Str))=false) L2.au1._auto_1):PE X (.Name x pos) (Jz i):=by
 intro pins s σ H Q I h
 obtain ⟨v,e,h⟩:=h
 obtain ⟨m,hn,hl⟩:=I.loc
 obtain ⟨u,r,l⟩:=hl i x v hN e hv
 have fin:EP X pins σ Q u s:=⟨v,H,I,r,h⟩
 rcases l with ⟨hk,hm⟩ | ⟨hk,c,hc,hcell⟩
 ·exact wpAny_Name (wpAny_loadName_local I.ok.kind hk hn hm fin) hd
 ·rcases hk with hk | hk
  ·exact wpAny_Name (wpAny_loadName_cell I.ok.kind hk hc hcell fin) hd
  ·exact wpAny_Name (wpAny_loadName_free I.ok.kind hk hc hcell fin hcd) hd
theorem Q8 {i j pos}:PE X (.Constant (.int i) j pos) (tC (.int i)):=fun _ _ _ H _ I h=>wpAny_Constant_int ⟨.int i,H,I.tok _,⟨_,rfl⟩,h⟩
theorem VT {b j pos}:PE X (.Constant (.bool b) j pos) (tC (.bl b)):=fun _ _ _ H _ I h=>Constant_bool ⟨.bl b,H,I,rfl,h⟩
theorem KZ {j pos}:PE X (.Constant .none j pos) (tC .non):=fun _ _ _ H _ I h=>Constant_none ⟨.non,H,I,rfl,h⟩
theorem um {x j pos}:PE X (.Constant (.str x) j pos) (tC (.str x)):=fun _ _ _ H _ I h=>Calls.Constant_str ⟨.str x,H,I.tok _,⟨_,rfl⟩,h⟩
noncomputable def Gl (X:Cx)(x:Str):Prop:=X.env.kindOf x=some .globalImplicit
theorem u5 {E:Value->Shared->Prop}{pins:List (Addr×Obj)}{s:Shared}{σ:St}{H:Hp}{x:Str}{u:Value}{pos:Pos}{Q:Value->Shared->Prop}(I:Inv X pins σ H s)(hg:Gl X x)(hm:X.mg x=some u)(h:Q u s)
  (hd:autoParam ((x==("__debug__":Str))=false) L2.au1._auto_1):wpAny (model X.prog X.w) X.A (eval (.Name x pos) X.env) Q E s :=
 Calls.Name_function_global I.ok.kind hg (Calls.loadGlobal_global (by rw [I.ok.glob]; exact I.mod.glob.keeps I.bk) hm h) hd
theorem jH {E:Value->Shared->Prop}{pins:List (Addr×Obj)}{s:Shared}{σ:St}{H:Hp}{x:Str}{u:Value}{pos:Pos}{Q:Value->Shared->Prop}(I:Inv X pins σ H s)(hg:Gl X x)(hm:X.mg x=none)(hv:bootBuiltins x=some u)(h:Q u s)
  (hn:autoParam (x≠"__name__") L2.au1._auto_1) (hd:autoParam ((x==("__debug__":Str))=false) L2.au1._auto_1):wpAny (model X.prog X.w) X.A (eval (.Name x pos) X.env) Q E s:=by
 obtain ⟨mb,h1,h2⟩:=I.mod.blt
 exact Calls.Name_function_global I.ok.kind hg (Calls.loadGlobal_builtin (by rw [I.ok.glob]; exact I.mod.glob.keeps I.bk) hm (by rw [I.ok.blt]; exact h1.keeps I.bk) ((h2 x hn).trans hv) h) hd
theorem xv {x:Str}{v:V}{u:Value}{pos:Pos}(hg:Gl X x)(hm:X.mg x=some u)(r:RelV v u)(hd:autoParam ((x==("__debug__":Str))=false) L2.au1._auto_1):PE X (.Name x pos) (tC v) :=
 fun _ _ _ H _ I h=>u5 I hg hm ⟨v,H,I,r,h⟩ hd
theorem vz {x:Str}{v:V}{u:Value}{pos:Pos}(hg:Gl X x)(hm:X.mg x=none)(hv:bootBuiltins x=some u)(r:RelV v u)(hn:autoParam (x≠"__name__") L2.au1._auto_1)(hd:autoParam ((x==("__debug__":Str))=false) L2.au1._auto_1):PE X (.Name x pos) (tC v) :=
 fun _ _ _ H _ I h=>jH I hg hm hv ⟨v,H,I,r,h⟩ hn hd
variable {a b:Expr}{ta tb:TE}{pos:Pos}
noncomputable def tB (t:TE):TT:=fun σ H Q=>t σ H fun x H1=>∃ c,x=.bl c/\Q c H1
theorem Xb {e:Expr}{t:TE}(h:PE X e t)(he:autoParam (∀ whole,isTrue e X.env whole=(do let v <- whole; standAt e.pos; holding [v] (truthy v))) L2.au2._auto_1):PT X e (tB t):=by
 intro pins s σ H Q I hw
 refine isTrue_plain (thn (h pins s σ H _ I hw) fun v s1 ⟨x,H1,I1,r1,q1⟩=>?_) (he _)
 obtain ⟨d,rfl,q⟩:=q1
 cases r1
 exact wpAny_truthy_bool ⟨H1,I1,q⟩
variable {tA tB':TT}{rest:List Expr}
noncomputable def z20 (t u:TT):TT:=fun σ H Q=>t σ H fun c H1=>if c=true then u σ H1 Q else Q false H1
noncomputable def tOr (t u:TT):TT:=fun σ H Q=>t σ H fun c H1=>if c=true then Q true H1 else u σ H1 Q
noncomputable def z29 (t:TT):TT:=fun σ H Q=>t σ H fun c H1=>Q (!c) H1
theorem JX (ha:PT X a tA):PW X (.BoolOp .And [a] pos) tA:=by
 intro wh pins s σ H Q I h
 refine isTrue_and (thn (ha pins s σ H Q I h) fun c s1 e=>?_)
 cases c with
 | true=>exact isTrue_and_nil e
 | false=>exact e
theorem z0t (ha:PT X a tA):PW X (.BoolOp .Or [a] pos) tA:=by
 intro wh pins s σ H Q I h
 refine isTrue_or (thn (ha pins s σ H Q I h) fun c s1 e=>?_)
 cases c with
 | false=>exact isTrue_or_nil e
 | true=>exact e
theorem z01 (ha:PT X a tA)(hb:PW X (.BoolOp .And (b::rest) pos) tB'):PW X (.BoolOp .And (a::b::rest) pos) (z20 tA tB'):=by
 intro wh pins s σ H Q I h
 refine isTrue_and (thn (ha pins s σ H _ I h) fun c s1 ⟨H1,I1,q1⟩=>?_)
 cases c with
 | true=>exact hb wh pins s1 σ H1 Q I1 q1
 | false=>exact ⟨H1,I1,q1⟩
theorem z1i (ha:PT X a tA)(hb:PW X (.BoolOp .Or (b::rest) pos) tB'):PW X (.BoolOp .Or (a::b::rest) pos) (tOr tA tB'):=by
 intro wh pins s σ H Q I h
 refine isTrue_or (thn (ha pins s σ H _ I h) fun c s1 ⟨H1,I1,q1⟩=>?_)
 cases c with
 | true=>exact ⟨H1,I1,q1⟩
 | false=>exact hb wh pins s1 σ H1 Q I1 q1
theorem z13 (ha:PT X a tA):PT X (.UnaryOp .Not a pos) (z29 tA):=by
 intro pins s σ H Q I h
 exact isTrue_not (ha pins s σ H (fun c H1=>Q (!c) H1) I h)
noncomputable def KJ (ta tb:TE):TE:=fun σ H Q=>ta σ H fun x H1=>∃ c,x=.bl c/\if c=true then tb σ H1 Q else Q (.bl false) H1
theorem UB {op}{t:TE}(h:PE X a t):PE X (.BoolOp op [a] pos) t:=fun pins s σ H Q I hw=>BoolOp_one (h pins s σ H Q I hw)
theorem Uj (ha:PE X a ta)(hb:PE X (.BoolOp .And (b::rest) pos) tb):PE X (.BoolOp .And (a::b::rest) pos) (KJ ta tb):=by
 intro pins s σ H Q I h
 refine BoolOp_and (thn (ha pins s σ H _ I h) fun v s1 ⟨x,H1,I1,r1,q1⟩=>?_)
 obtain ⟨c,rfl,q1⟩:=q1
 cases r1
 refine wpAny_truthy_bool ?_
 cases c with
 | true=>exact hb pins s1 σ H1 Q I1 q1
 | false=>exact ⟨.bl false,H1,I1,rfl,q1⟩
end
open PySem PySem.Spec PyProof.Rows
noncomputable def SqL (K:PySem.W.Frag)(H:Hp)(a:Addr)(xs:List V):Prop :=
 Rd H a (.lst xs) \/
  ∃ (o:Obj) (its:Array Value) (n:Nat),K.lookup a=some o/\o.cls=.type "list"/\o.dict=none/\o.data=.seq its n/\its.size<=sizeLine/\Vals xs its.toList
noncomputable def SqT (K:PySem.W.Frag)(H:Hp)(a:Addr)(xs:List V):Prop :=
 Rd H a (.tup xs) \/
  ∃ (o:Obj) (its:Array Value) (n:Nat),K.lookup a=some o/\o.cls=.type "tuple"/\(o.dict=none/\o.slots=#[])/\o.data=.seq its n/\its.size<=sizeLine/\Vals xs its.toList
noncomputable def z34:Value->Option V
 | .none=>some .non
 | .bool b=>some (.bl b)
 | .int i _=>some (.int i)
 | .str x _=>some (.str x)
 | .bytes b _=>some (.byt b)
 | .float b _=>some (.flt b)
 | .ref a=>some (.ref a)
 | .type n=>some (.ty n)
 | _=>none
theorem RelV.abs {x:V}{u:Value}(r:RelV x u):z34 u=some x:=by
 cases x with
 | non=>cases r; rfl
 | bl _=>cases r; rfl
 | int _=>obtain ⟨t,rfl⟩:=r; rfl
 | str _=>obtain ⟨t,rfl⟩:=r; rfl
 | byt _=>obtain ⟨t,rfl⟩:=r; rfl
 | flt _=>obtain ⟨t,rfl⟩:=r; rfl
 | ref _=>cases r; rfl
 | ty _=>cases r; rfl
theorem RelV.inj {x y:V}{u:Value}(r:RelV x u)(q:RelV y u):x=y:=Option.some.inj (r.abs.symm.trans q.abs)
theorem Vals.inj:∀ {xs ys:List V} {us:List Value},Vals xs us->Vals ys us->xs=ys
 | _,_,_,.nil,.nil=>rfl
 | _,_,_,.cons r t,.cons r' t'=>by rw [r.inj r',Vals.inj t t']
section
variable {X:Cx}{pins:List (Addr×Obj)}{σ:St}{H:Hp}{s:Shared}{a:Addr}{xs ys:List V}
theorem SqL.of {K:PySem.W.Frag}(h:H a=some (.lst xs)):SqL K H a xs:=.inl (.inl h)
theorem SqT.of {K:PySem.W.Frag}(h:H a=some (.tup xs)):SqT K H a xs:=.inl (.inl h)
theorem Inv.list (I:Inv X pins σ H s)(h:SqL X.K H a xs):∃ its:List Value,Vals xs its/\PlainL s.heap a its.toArray/\xs.length<=sizeLine:=by
 rcases h with h | ⟨o,its,n,hk,hc,hd,hs,hz,r⟩
 ·obtain ⟨z,its,n,r,e⟩:=h.ok I.hok
  exact ⟨its,r,⟨_,n,e,rfl,rfl,rfl⟩,z⟩
 ·refine ⟨its.toList,r,⟨o,n,I.kIn a o hk,hc,hd,by simpa using hs⟩,?_⟩
  have e:=r.length
  simp only [Array.length_toList] at e
  omega
theorem Inv.tuple (I:Inv X pins σ H s)(h:SqT X.K H a xs):∃ its:List Value,Vals xs its/\IsTup s.heap a its.toArray/\xs.length<=sizeLine:=by
 rcases h with h | ⟨o,its,n,hk,hc,_,hs,hz,r⟩
 ·obtain ⟨z,its,r,p⟩:=h.ok I.hok
  exact ⟨its,r,p.tup,z⟩
 ·refine ⟨its.toList,r,⟨o,I.kIn a o hk,hc,n,by simpa using hs⟩,?_⟩
  have e:=r.length
  simp only [Array.length_toList] at e
  omega
theorem Inv.list_inj (I:Inv X pins σ H s)(h:SqL X.K H a xs)(h':SqL X.K H a ys):xs=ys:=by
 obtain ⟨its,r,⟨o,n,e,_,_,d⟩,_⟩:=I.list h
 obtain ⟨its',r',⟨o',n',e',_,_,d'⟩,_⟩:=I.list h'
 rw [e] at e'; cases e'
 rw [d] at d'
 injection d' with d1 _
 have:its=its':=by simpa using congrArg Array.toList d1
 subst this
 exact r.inj r'
theorem Inv.tuple_inj (I:Inv X pins σ H s)(h:SqT X.K H a xs)(h':SqT X.K H a ys):xs=ys:=by
 obtain ⟨its,r,⟨o,e,_,n,d⟩,_⟩:=I.tuple h
 obtain ⟨its',r',⟨o',e',_,n',d'⟩,_⟩:=I.tuple h'
 rw [e] at e'; cases e'
 rw [d] at d'
 injection d' with d1 _
 have:its=its':=by simpa using congrArg Array.toList d1
 subst this
 exact r.inj r'
end
noncomputable abbrev Cx.wish (X:Cx)(E:Value->Shared->Prop):Cx:={ X with xe:=E }
noncomputable abbrev Cx.nox (X:Cx):Cx:=X.wish fun _ _=>False
theorem Cx.Ok.wish {X:Cx}(ok:X.Ok)(E:Value->Shared->Prop):(X.wish E).Ok :=
 ⟨ok.mod,ok.kind,ok.glob,ok.blt,ok.above,ok.inj,ok.has,ok.cab,ok.hd,ok.frames,ok.stk,ok.exf,ok.bs,ok.bsz,ok.noex,ok.exfs,ok.funs,ok.frf⟩
theorem Cx.Ok.unwish {X:Cx}{E:Value->Shared->Prop}(ok:(X.wish E).Ok):X.Ok :=
 ⟨ok.mod,ok.kind,ok.glob,ok.blt,ok.above,ok.inj,ok.has,ok.cab,ok.hd,ok.frames,ok.stk,ok.exf,ok.bs,ok.bsz,ok.noex,ok.exfs,ok.funs,ok.frf⟩
section
variable {X:Cx}{pins:List (Addr×Obj)}{σ:St}{H:Hp}{s:Shared}{E:Value->Shared->Prop}
theorem Inv.wish (I:Inv X pins σ H s)(E:Value->Shared->Prop):Inv (X.wish E) pins σ H s:=⟨I.ok.wish E,I.os,I.bare,I.base,I.loc,I.cell,I.free,I.freeC,I.pin,I.hok,I.len⟩
theorem Inv.unwish (I:Inv (X.wish E) pins σ H s):Inv X pins σ H s:=⟨I.ok.unwish,I.os,I.bare,I.base,I.loc,I.cell,I.free,I.freeC,I.pin,I.hok,I.len⟩
theorem SP.unwish {D:Ends}{f:Flow}{s':Shared}(h:SP (X.wish E) pins D f s'):SP X pins D f s':=by
 cases f with
 | next=>obtain ⟨σ',H',I,q⟩:=h; exact ⟨σ',H',I.unwish,q⟩
 | brk=>obtain ⟨σ',H',I,q⟩:=h; exact ⟨σ',H',I.unwish,q⟩
 | cont=>obtain ⟨σ',H',I,q⟩:=h; exact ⟨σ',H',I.unwish,q⟩
 | ret u=>obtain ⟨v,σ',H',I,r,q⟩:=h; exact ⟨v,σ',H',I.unwish,r,q⟩
theorem PE.nox {e:Expr}{t:TE}(h:PE X.nox e t):PE X e t:=fun pins s σ H Q I hw =>
 wpAny_mono (h pins s σ H Q (I.wish _) hw) (fun _ _ ⟨v,H',I',r,q⟩=>⟨v,H',I'.unwish,r,q⟩) fun _ _ z=>False.elim z
theorem PT.nox {e:Expr}{t:TT}(h:PT X.nox e t):PT X e t:=fun pins s σ H Q I hw =>
 wpAny_mono (h pins s σ H Q (I.wish _) hw) (fun _ _ ⟨H',I',q⟩=>⟨H',I'.unwish,q⟩) fun _ _ z=>False.elim z
theorem PSs.nox {st:List Stmt}{t:TS}(h:PSs X.nox st t):PSs X st t:=fun pins s σ H D I hw =>
 wpAny_mono (h pins s σ H D (I.wish _) hw) (fun _ _ q=>q.unwish) fun _ _ z=>False.elim z
end
section
variable {X:Cx}{st:Stmt}{rest:List Stmt}{t u:TS}{e:Expr}{te:TE}{pos:Pos}
noncomputable def KI:TS:=fun D σ H=>D.nx σ H
noncomputable def z2n (t u:TS):TS:=fun D σ H=>t { D with nx:=u D } σ H
theorem j5:PSs X [] KI:=fun _ _ σ H _ I h=>wpAny_execs_nil ⟨σ,H,I,h⟩
theorem jL (h1:PS X st t)(h2:PSs X rest u):PSs X (st::rest) (z2n t u):=by
 intro pins s σ H D I h
 refine wpAny_execs_cons (thn (h1 pins s σ H { D with nx:=u D } I h) fun f s1 q=>?_)
 cases f with
 | next =>
  obtain ⟨σ',H',I',q⟩:=q
  exact h2 pins s1 σ' H' D I' q
 | ret v=>exact q
 | brk=>exact q
 | cont=>exact q
theorem vp (h1:PS X st t):PSs X [st] t:=by
 intro pins s σ H D I h
 refine wpAny_execs_cons (thn (h1 pins s σ H D I h) fun f s1 q=>?_)
 cases f with
 | next=>exact wpAny_execs_nil q
 | ret v=>exact q
 | brk=>exact q
 | cont=>exact q
theorem Inv.quiet {pins:List (Addr×Obj)}{σ:St}{H:Hp}{s:Shared}(I:Inv X pins σ H s):interactive X.env=false:=by simp [interactive,I.ok.kind]
noncomputable def K6 (te:TE):TS:=fun D σ H=>te σ H fun _ H1=>D.nx σ H1
theorem Zn (he:PE X e te)(hs:autoParam (swapsWith e none pos.line X.env=pure false) L2.au3._auto_1):PS X (.Expr e pos) (K6 te):=by
 intro pins s σ H D I h
 exact wpAny_Expr_any (thn (he pins s σ H _ I h) fun v s1 ⟨x,H1,I1,r1,q1⟩=>⟨σ,H1,I1,q1⟩) I.quiet hs
noncomputable def z0x (te:TE):TS:=fun D σ H=>te σ H D.rt
theorem jk (he:PE X e te):PS X (.Return (some e) pos) (z0x te):=by
 intro pins s σ H D I h
 exact wpAny_Return_some (thn (he pins s σ H _ I h) fun v s1 ⟨x,H1,I1,r1,q1⟩=>⟨x,σ,H1,I1,r1,q1⟩)
noncomputable def z1x (c:TT)(t u:TS):TS:=fun D σ H=>c σ H fun b H1=>if b=true then t D σ H1 else u D σ H1
theorem W3 {c:Expr}{a b:List Stmt}{tc:TT}(hc:PT X c tc)(ha:PSs X a t)(hb:PSs X b u):PS X (.If c a b pos) (z1x tc t u):=by
 intro pins s σ H D I h
 refine wpAny_If (thn (hc pins s σ H _ I h) fun d s1 ⟨H1,I1,q1⟩=>?_)
 cases d with
 | true=>exact ha pins s1 σ H1 D I1 q1
 | false=>exact hb pins s1 σ H1 D I1 q1
end
noncomputable abbrev TG:=V->St->Hp->(St->Hp->Prop)->Prop
noncomputable abbrev TGs:=List V->St->Hp->(St->Hp->Prop)->Prop
noncomputable def PG (X:Cx)(target:Expr)(t:TG):Prop :=
 ∀ (pins:List (Addr×Obj)) (s:Shared) (σ:St) (H:Hp) (v:V) (u:Value) (Q:St->Hp->Prop),Inv X pins σ H s->RelV v u->t v σ H Q ->
  wpAny (model X.prog X.w) X.A (assign target X.env u) (fun _ s'=>∃ σ' H',Inv X pins σ' H' s'/\Q σ' H') X.xe s
noncomputable def PGs (X:Cx)(ts:List Expr)(t:TGs):Prop :=
 ∀ (pins:List (Addr×Obj)) (s:Shared) (σ:St) (H:Hp) (vs:List V) (us:List Value) (Q:St->Hp->Prop),Inv X pins σ H s->Vals vs us->t vs σ H Q ->
  wpAny (model X.prog X.w) X.A (assignInOrder ((assignEach ts X.env).map (·.2)) us) (fun _ s'=>∃ σ' H',Inv X pins σ' H' s'/\Q σ' H') X.xe s
noncomputable abbrev z0p:=V->V->V->Hp->(Hp->Prop)->Prop
noncomputable def z1w (X:Cx)(t:z0p):Prop :=
 ∀ (pins:List (Addr×Obj)) (s:Shared) (σ:St) (H:Hp) (o i v:V) (ov iv u:Value) (Q:Hp->Prop),Inv X pins σ H s->RelV o ov->RelV i iv->RelV v u->t o i v H Q ->
  wpAny (model X.prog X.w) X.A (setItem ov iv u) (fun _ s'=>∃ H',Inv X pins σ H' s'/\Q H') X.xe s
noncomputable abbrev TIp:=V->V->Hp->VK->Prop
noncomputable def PIp (X:Cx)(op:Operator)(t:TIp):Prop :=
 ∀ (pins:List (Addr×Obj)) (s:Shared) (σ:St) (H:Hp) (x y:V) (v u:Value) (Q:VK),Inv X pins σ H s->RelV x v->RelV y u->t x y H Q ->
  wpAny (model X.prog X.w) X.A (inplaceOp op v u) (EP X pins σ Q) X.xe s
section
variable {X:Cx}{pos:Pos}
noncomputable def jS (i:Nat):TG:=fun v σ H Q=>Q (σ.set i (some v)) H
theorem QX {i:Nat}{x:Str}(hN:X.N.Nodup)(hi:X.N[i]?=some x)(hx:Loc X.env.scope x)(hf:autoParam (X.fn x=true\/X.env.scope.names.lookup x=some .local) L2.au0._auto_1):PG X (.Name x pos) (jS i):=by
 intro pins s σ H v u Q I r h
 exact wpAny_assign_Name (uJ I hN hi hx r (fun s' I'=>⟨_,H,I',h⟩) hf)
noncomputable def z1L:TGs:=fun vs σ H Q=>vs=[]/\Q σ H
noncomputable def z2h (t:TG)(u:TGs):TGs:=fun vs σ H Q=>∃ v r,vs=v::r/\t v σ H fun σ' H'=>u r σ' H' Q
theorem Qp:PGs X [] z1L:=by
 intro pins s σ H vs us Q I r h
 obtain ⟨e,h⟩:=h
 subst e
 cases r
 exact assignInOrder_nil ⟨σ,H,I,h⟩
theorem VA {e:Expr}{es:List Expr}{t:TG}{u:TGs}(h1:PG X e t)(h2:PGs X es u)
  (hs:autoParam ((assignEach (e::es) X.env).map (·.2)=assign e X.env::(assignEach es X.env).map (·.2)) L2.au3._auto_1):PGs X (e::es) (z2h t u):=by
 intro pins s σ H vs us Q I r h
 obtain ⟨v,vr,e1,h⟩:=h
 subst e1
 cases r with
 | cons r rr =>
  rw [hs]
  refine assignInOrder_cons (thn (h1 pins s σ H _ _ _ I r h) fun _ s1 ⟨σ1,H1,I1,q1⟩=>?_)
  exact h2 pins s1 σ1 H1 _ _ Q I1 rr q1
noncomputable def z1W (K:PySem.W.Frag)(n:Nat)(t:TGs):TG:=fun v σ H Q=>∃ a xs,v=.ref a/\SqT K H a xs/\xs.length=n/\t xs σ H Q
theorem z0L {es:List Expr}{k:Nat}{t:TGs}{n:Nat}(hc:X.calm=true)(h:PGs X es t)
  (hn:autoParam ((assignEach es X.env).length=n) L2.au3._auto_1) (hst:autoParam ((assignEach es X.env).findIdx? (·.1)=none) L2.au3._auto_1):PG X (.Tuple es k pos) (z1W X.K n t):=by
 intro pins s σ H v u Q I r hw
 obtain ⟨a,xs,e1,hq,hl,hw⟩:=hw
 subst e1
 cases r
 obtain ⟨its,rv,ht,hz⟩:=I.tuple hq
 refine assign_Tuple_tuple (I.ok.hd hc) ht (by simp [hn,<- hl,rv.length]) hst fun h' hx=>?_
 have I1:Inv X pins σ H { s with heap:=h' }:=I.kept (t':=s.toks) fun b o e=>hx b o (Nat.ne_of_lt (Heap.lt_size e)) e
 exact h pins _ σ H xs _ Q I1 (by simpa using rv) hw
noncomputable def z38 (to ti:TE)(t:z0p):TG:=fun v σ H Q=>to σ H fun o H1=>ti σ H1 fun i H2=>t o i v H2 fun H3=>Q σ H3
theorem z08 {o i:Expr}{to ti:TE}{t:z0p}(ho:PE X o to)(hi:PE X i ti)(hs:z1w X t)
  (ha:autoParam (∀ v,assign (.Subscript o i pos) X.env v=(do
   let ov <- holding [v] (eval o X.env)
   let iv <- holding [v,ov] (eval i X.env)
   standAt pos
   holding [v,ov,iv] (setItem ov iv v)
   release [v,ov,iv] [])) L2.au2._auto_1):PG X (.Subscript o i pos) (z38 to ti t):=by
 intro pins s σ H v u Q I r h
 rw [ha]
 refine wpAny_bind (wpAny_holding (thn (ho pins s σ H _ I h) fun ov s1 ⟨x,H1,I1,r1,q1⟩=>?_))
 refine wpAny_bind (wpAny_holding (thn (hi pins s1 σ H1 _ I1 q1) fun iv s2 ⟨y,H2,I2,r2,q2⟩=>?_))
 refine wpAny_bind (wpAny_standAt (wpAny_bind (wpAny_holding (thn (hs pins s2 σ H2 x y v ov iv u _ I2 r1 r2 r q2) fun _ s3 ⟨H3,I3,q3⟩=>?_))))
 exact wpAny_release ⟨σ,H3,I3,q3⟩
noncomputable def z07 (te:TE)(g:TG):TS:=fun D σ H=>te σ H fun x H1=>g x σ H1 D.nx
theorem z0D {tg e:Expr}{te:TE}{g:TG}(he:PE X e te)(hg:PG X tg g)(hs:autoParam (swapsWithSole [tg] e pos.line X.env=pure false) L2.au3._auto_1)(hw:autoParam (swappedStores [tg] e X.env=pure none) L2.au3._auto_1)
  (h1:autoParam ((assignEach [tg] X.env).map (·.2)=[assign tg X.env]) L2.au3._auto_1):PS X (.Assign [tg] e pos) (z07 te g):=by
 intro pins s σ H D I h
 refine wpAny_Assign_stores (thn (he pins s σ H _ I h) fun v s1 ⟨x,H1,I1,r1,q1⟩=>?_) hs hw
 rw [h1]
 exact thn (hg pins s1 σ H1 x v _ I1 r1 q1) fun _ s2 q=>q
theorem YM {i:Nat}{x:Str}{e:Expr}{te:TE}{pos':Pos}(hN:X.N.Nodup)(hi:X.N[i]?=some x)(hx:Loc X.env.scope x)(he:PE X e te)(hs:autoParam (swapsWith e (some (.Name x pos')) pos.line X.env=pure false) L2.au3._auto_1)(hf:autoParam (X.fn x=true\/X.env.scope.names.lookup x=some .local) L2.au0._auto_1) :
  PS X (.Assign [.Name x pos'] e pos) (z07 te (jS i)):=by
 intro pins s σ H D I h
 refine wpAny_Assign_Name (thn (he pins s σ H _ I h) fun v s1 ⟨y,H1,I1,r1,q1⟩=>?_) hs
 exact uJ I1 hN hi hx r1 (fun s2 I2=>⟨_,H1,I2,q1⟩) hf
noncomputable def z2Z (i:Nat)(te:TE)(ti:TIp):TS:=fun D σ H=>∃ x,σ[i]?=some (some x)/\te σ H fun y H1=>ti x y H1 fun z H2=>D.nx (σ.set i (some z)) H2
theorem z0s {i:Nat}{x:Str}{e:Expr}{te:TE}{op:Operator}{ti:TIp}{pos':Pos}(hN:X.N.Nodup)(hi:X.N[i]?=some x)(hx:Loc X.env.scope x)(he:PE X e te)(ho:PIp X op ti)(hf:autoParam (X.fn x=true\/X.env.scope.names.lookup x=some .local) L2.au0._auto_1) :
  PS X (.AugAssign (.Name x pos') op e pos) (z2Z i te ti):=by
 intro pins s σ H D I h
 obtain ⟨v,e1,h⟩:=h
 obtain ⟨m,hn,hl⟩:=I.loc
 have vis:Vis X.env.scope x:=by rcases hx with k | k; exact .inl k; exact .inr (.inl k)
 obtain ⟨u,r,l⟩:=hl i x v hi e1 vis
 refine wpAny_AugAssign_Name ?_
 have go:wpAny (model X.prog X.w) X.A (eval e X.env) (fun w s₂=>wpAny (model X.prog X.w) X.A (inplaceOp op u w) (fun r s₃=>wpAny (model X.prog X.w) X.A (storeName X.env x r) (fun _=>SP X pins D .next) X.xe s₃) X.xe s₂) X.xe s:=by
  refine thn (he pins s σ H _ I h) fun w s1 ⟨y,H1,I1,r1,q1⟩=>?_
  refine thn (ho pins s1 σ H1 v y u w _ I1 r r1 q1) fun z s2 ⟨zv,H2,I2,r2,q2⟩=>?_
  exact uJ I2 hN hi hx r2 (fun s3 I3=>⟨_,H2,I3,q2⟩) hf
 rcases l with ⟨hk,hm⟩ | ⟨hk,c,hc,hcell⟩
 ·exact wpAny_loadName_local I.ok.kind hk hn hm go
 ·rcases hk with hk | hk
  ·exact wpAny_loadName_cell I.ok.kind hk hc hcell go
  ·rcases hx with k | k
   ·have:X.env.scope.names.lookup x=some .free:=hk
    rw [k] at this; cases this
   ·have:X.env.scope.names.lookup x=some .free:=hk
    rw [k] at this; cases this
noncomputable def ipI (f:Int->Int->Int):TIp:=fun x y H Q=>∃ i j,x=.int i/\y=.int j/\Q (.int (f i j)) H
theorem z1a:PIp X .Add (ipI fun i j=>i+j):=by
 intro pins s σ H x y v u Q I r1 r2 h
 obtain ⟨i,j,e1,e2,q⟩:=h
 subst e1; subst e2
 obtain ⟨t,rfl⟩:=r1
 obtain ⟨t',rfl⟩:=r2
 exact iadd_int ⟨.int _,H,I.tok _,⟨_,rfl⟩,q⟩
end
section
variable {X:Cx}{pos:Pos}
noncomputable def KY (c:TT)(tb:TS):TS:=fun D σ H=>∃ W:Nat->St->Hp->Prop,(∃ m,W m σ H)/\∀ m σ H,W m σ H ->
 c σ H fun b H1=>if b=true then ∃ N:St->Hp->Prop,(∀ σ' H',N σ' H'->∃ m',m'<m/\W m' σ' H')/\tb { D with nx:=N,ct:=N,bk:=D.nx } σ H1 else D.nx σ H1
theorem U6 {c:Expr}{body:List Stmt}{tc:TT}{tb:TS}(hp:PassesOwn (model X.prog X.w) X.A X.env X.xe)(hc:PT X c tc)(hb:PSs X body tb):PS X (.While c body [] pos) (KY tc tb):=by
 intro pins s σ H D I h
 obtain ⟨W,⟨m0,w0⟩,turn⟩:=h
 refine wpAny_While (codeAny_whileLoop (fun n s'=>∃ σ' H',Inv X pins σ' H' s'/\W n σ' H') ?_ m0 ⟨σ,H,I,w0⟩)
 rintro n s1 ⟨σ1,H1,I1,w1⟩
 refine wpAny_passesOwn hp (thn (hc pins s1 σ1 H1 _ I1 (turn n σ1 H1 w1)) fun b s2 ⟨H2,I2,q2⟩=>?_)
 cases b with
 | true =>
  obtain ⟨N,hN,q2⟩:=q2
  rw [if_pos rfl]
  refine wpAny_passesOwn hp (thn (hb pins s2 σ1 H2 _ I2 q2) fun f s3 q3=>?_)
  cases f with
  | next =>
   obtain ⟨σ3,H3,I3,n3⟩:=q3
   obtain ⟨m',hm,w3⟩:=hN σ3 H3 n3
   exact ⟨m',hm,σ3,H3,I3,w3⟩
  | cont =>
   obtain ⟨σ3,H3,I3,n3⟩:=q3
   obtain ⟨m',hm,w3⟩:=hN σ3 H3 n3
   exact ⟨m',hm,σ3,H3,I3,w3⟩
  | brk=>exact q3
  | ret v=>exact q3
 | false =>
  rw [if_neg Bool.false_ne_true]
  exact wpAny_execs_nil ⟨σ1,H2,I2,q2⟩
end
structure It where
 go:Nat->Hp->Prop
 yld:Nat->Hp->V->Hp->Prop
 stop:Nat->Hp->Prop
noncomputable def qK (X:Cx)(pins:List (Addr×Obj))(H:Hp)(b:Addr):Prop :=
 H b=none/\b≠X.env.locals/\b∉X.fs/\(b∈X.ex\/X.s₀.heap.objs.size<=b)/\(∀ x c,X.env.cells.lookup x=some c->c≠b)/\∀ p∈X.pn++pins,p.1≠b
theorem Inv.fpOk {X:Cx}{pins:List (Addr×Obj)}{σ:St}{H H':Hp}{s:Shared}{b:Addr}(I:Inv X pins σ H s)(hb:s.heap.objs.size<=b)(hn:H' b=none):qK X pins H' b:=by
 refine ⟨hn,Nat.ne_of_gt (Nat.lt_of_lt_of_le I.lt hb),I.nofs hb,.inr (Nat.le_trans I.sz hb),fun x c e z=>?_,fun p hp z=>?_⟩
 ·obtain ⟨v,q⟩:=I.cell x c e
  exact absurd (Nat.lt_of_lt_of_le q.lt (by rw [z]; exact hb)) (Nat.lt_irrefl _)
 ·exact absurd (Nat.lt_of_lt_of_le (Heap.lt_size (I.pin p hp).1) (by rw [z]; exact hb)) (Nat.lt_irrefl _)
structure Turn (P:Program)(w:World)(K:PySem.W.Frag)(tg:Expr)(J:It)(fp:List Addr)(it:Addr)(tn:Nat->Heap->Prop):Prop where
 mem:it∈fp
 obj:∀ i h,tn i h->∀ b∈fp,∃ o,h.get? b=some o/\∀ v,o.data≠.cell v
 keep:∀ i h h',tn i h->(∀ b∈fp,∀ o,h.get? b=some o->h'.get? b=some o)->tn i h'
 item:∀ (X:Cx),X.prog=P->X.w=w->X.K=K->X.calm=true->∀ (i:Nat) (pins:List (Addr×Obj)) (s:Shared) (σ:St) (H:Hp) (E:Value->Shared->Prop),Inv X pins σ H s->(∀ b∈fp,qK X pins H b)->tn i s.heap->J.go i H ->
  wpAny (model P w) X.A (pyNext (.ref it)) (fun r s1=>∃ u,r=some u /\
   wpAny (model P w) X.A (letOwnedTupleGo tg (.ref it) u) (fun _ s2=>∃ x H',Inv X pins σ H' s2/\RelV x u/\J.yld i H x H'/\tn (i+1) s2.heap/\∀ b∈fp,H' b=none) E s1) E s
 done:∀ (X:Cx),X.prog=P->X.w=w->X.K=K->X.calm=true->∀ (i:Nat) (pins:List (Addr×Obj)) (s:Shared) (σ:St) (H:Hp) (E:Value->Shared->Prop),Inv X pins σ H s->(∀ b∈fp,qK X pins H b)->tn i s.heap->J.stop i H ->
  wpAny (model P w) X.A (pyNext (.ref it)) (fun r s1=>r=none/\Inv X pins σ H s1) E s
 self:∀ (A:Around) (i:Nat) (s:Shared) (Q:Value->Shared->Prop) (E:Value->Shared->Prop),tn i s.heap->Q (.ref it) s->wpAny (model P w) A (pyIter (.ref it)) Q E s
noncomputable abbrev TI:=St->Hp->(It->Hp->Prop)->Prop
noncomputable def PIE (X:Cx)(pins:List (Addr×Obj))(σ:St)(tg:Expr)(R:It->Hp->Prop)(itv:Value)(s2:Shared):Prop :=
 ∃ (it:Addr) (fp:List Addr) (tn:Nat->Heap->Prop) (J:It) (H':Hp),itv=.ref it/\Inv X pins σ H' s2/\Turn X.prog X.w X.K tg J fp it tn/\tn 0 s2.heap/\(∀ b∈fp,qK X pins H' b)/\R J H'
noncomputable def PI (X:Cx)(tg iter:Expr)(wi:TI):Prop :=
 ∀ (pins:List (Addr×Obj)) (s:Shared) (σ:St) (H:Hp) (R:It->Hp->Prop),Inv X pins σ H s->wi σ H R ->
  wpAny (model X.prog X.w) X.A (eval iter X.env) (fun v s1=>wpAny (model X.prog X.w) X.A (pyIter v) (PIE X pins σ tg R) X.xe s1) X.xe s
theorem Yl {M:Model}{A:Around}{E:Value->Shared->Prop}{s:Shared}{tg:Expr}{it:Addr}{u:Value}{o:Obj}{n:String}{vs:Array Value}{Q:Unit->Shared->Prop}(ho:s.heap.get? it=some o)(hc:o.cls=.type n)(hd:o.data=.fields vs)
  (hn:["enumerate","zip","dict_itemiterator","dict_reverseitemiterator","odict_iterator","itertools.zip_longest","itertools.pairwise"].contains n=false) (hQ:Q () s):wpAny M A (letOwnedTupleGo tg (.ref it) u) Q E s:=by
 unfold letOwnedTupleGo
 cases tg<;>first
  | exact wpAny_pure hQ
  | (cases u<;>first
    | exact wpAny_pure hQ
    | (refine wpAny_bind (wpAny_load ho ?_);rw [hc,hd];show wpAny M A (if (["enumerate","zip","dict_itemiterator","dict_reverseitemiterator","odict_iterator","itertools.zip_longest","itertools.pairwise"].contains n&&vs[0]?==some (rawInt _))=true then _ else _) Q E s;rw [if_neg (by intro h; rw [hn,Bool.false_and] at h; cases h)];exact wpAny_pure hQ))
noncomputable def Itl (K:PySem.W.Frag)(a:Addr):It :=
 ⟨fun i H=>∃ xs x,SqL K H a xs/\xs[i]?=some x,fun i H x H'=>H'=H/\∀ xs,SqL K H a xs->xs[i]?=some x,fun i H=>∃ xs,SqL K H a xs/\xs.length<=i⟩
noncomputable def Itt (K:PySem.W.Frag)(a:Addr):It :=
 ⟨fun i H=>∃ xs x,SqT K H a xs/\xs[i]?=some x,fun i H x H'=>H'=H/\∀ xs,SqT K H a xs->xs[i]?=some x,fun i H=>∃ xs,SqT K H a xs/\xs.length<=i⟩
noncomputable def Itr (lo:Int)(n:Nat):It:=⟨fun i _=>i<n,fun i H x H'=>H'=H/\x=.int (lo+i),fun i _=>n<=i⟩
theorem WV {P:Program}{w:World}{K:PySem.W.Frag}{tg:Expr}(a it:Addr):Turn P w K tg (Itl K a) [it] it (fun i h=>h.IsListIter it a i) where
 mem:=by simp
 obj:=fun i h st b hb=>by
  have e:b=it:=by simpa using hb
  subst e
  obtain ⟨o,e,c,d⟩:=st
  exact ⟨o,e,fun v z=>by rw [d] at z; cases z⟩
 keep:=fun i h h' st k=>st.at fun o e=>k it (by simp) o e
 item:=by
  intro X hP hw hK hc i pins s σ H E I hf st hg
  subst hP hw hK
  obtain ⟨xs,x,hq,hx⟩:=hg
  obtain ⟨its,rv,p,hz⟩:=I.list hq
  obtain ⟨u,hu,ru⟩:=rv.get hx
  obtain ⟨f0,f1,f2,f3,f4,f5⟩:=hf it (by simp)
  refine wpAny_pyNext_list_item st p.isList (x:=u) (by simpa using hu) fun h' st' sb=>?_
  have I1:Inv X pins σ H { s with heap:=h' }:=I.turned (t':=s.toks) (fun b o hb e=>(sb.2 b hb).trans e) f0 f1 f3 f4 f5
  obtain ⟨o,e,c,d⟩:=id st'
  exact ⟨u,rfl,Yl (s:={ s with heap:=h' }) e c d (by decide) ⟨x,H,I1,ru,⟨rfl,fun ys hy=>by rw [I.list_inj hy hq]; exact hx⟩,st',fun b hb=>(hf b hb).1⟩⟩
 done:=by
  intro X hP hw hK hc i pins s σ H E I hf st hg
  subst hP hw hK
  obtain ⟨xs,hq,hx⟩:=hg
  obtain ⟨its,rv,p,hz⟩:=I.list hq
  obtain ⟨f0,f1,f2,f3,f4,f5⟩:=hf it (by simp)
  have hl:=rv.length
  exact wpAny_pyNext_list_end (I.ok.hd hc) st p.isList (by simp; omega) fun h' eb=>⟨rfl,I.turned (t':=s.toks) (fun b o hb e=>eb b o hb e) f0 f1 f3 f4 f5⟩
 self:=fun _ _ _ _ _ st h=>wpAny_pyIter_listiter st h
theorem Xv {P:Program}{w:World}{K:PySem.W.Frag}{tg:Expr}(a it:Addr):Turn P w K tg (Itt K a) [it] it (fun i h=>h.IsTupleIter it a i) where
 mem:=by simp
 obj:=fun i h st b hb=>by
  have e:b=it:=by simpa using hb
  subst e
  obtain ⟨o,e,c,d⟩:=st
  exact ⟨o,e,fun v z=>by rw [d] at z; cases z⟩
 keep:=fun i h h' st k=>st.at fun o e=>k it (by simp) o e
 item:=by
  intro X hP hw hK hc i pins s σ H E I hf st hg
  subst hP hw hK
  obtain ⟨xs,x,hq,hx⟩:=hg
  obtain ⟨its,rv,p,hz⟩:=I.tuple hq
  obtain ⟨u,hu,ru⟩:=rv.get hx
  obtain ⟨f0,f1,f2,f3,f4,f5⟩:=hf it (by simp)
  refine wpAny_pyNext_tuple_item st (show s.heap.IsTuple a its.toArray from p) (x:=u) (by simpa using hu) fun h' st' sb=>?_
  have I1:Inv X pins σ H { s with heap:=h' }:=I.turned (t':=s.toks) (fun b o hb e=>(sb.2 b hb).trans e) f0 f1 f3 f4 f5
  obtain ⟨o,e,c,d⟩:=id st'
  exact ⟨u,rfl,Yl (s:={ s with heap:=h' }) e c d (by decide) ⟨x,H,I1,ru,⟨rfl,fun ys hy=>by rw [I.tuple_inj hy hq]; exact hx⟩,st',fun b hb=>(hf b hb).1⟩⟩
 done:=by
  intro X hP hw hK hc i pins s σ H E I hf st hg
  subst hP hw hK
  obtain ⟨xs,hq,hx⟩:=hg
  obtain ⟨its,rv,p,hz⟩:=I.tuple hq
  obtain ⟨f0,f1,f2,f3,f4,f5⟩:=hf it (by simp)
  have hl:=rv.length
  exact wpAny_pyNext_tuple_end (I.ok.hd hc) st (show s.heap.IsTuple a its.toArray from p) (by simp; omega) fun h' eb=>⟨rfl,I.turned (t':=s.toks) (fun b o hb e=>eb b o hb e) f0 f1 f3 f4 f5⟩
 self:=fun _ _ _ _ _ st h=>wpAny_pyIter_tupleiter st h
theorem X9 {P:Program}{w:World}{K:PySem.W.Frag}{tg:Expr}(it:Addr)(lo:Int)(n:Nat):Turn P w K tg (Itr lo n) [it] it (fun i h=>IsRangeIter h it (lo+(i:Nat)*1) ((n:Int)-(i:Nat)) 1) where
 mem:=by simp
 obj:=fun i h st b hb=>by
  have e:b=it:=by simpa using hb
  subst e
  exact ⟨_,st,fun v z=>by
   have z':Data.fields _=Data.cell v:=z
   cases z'⟩
 keep:=fun i h h' st k=>k it (by simp) _ st
 item:=by
  intro X hP hw hK hc i pins s σ H E I hf st hg
  subst hP hw hK
  obtain ⟨f0,f1,f2,f3,f4,f5⟩:=hf it (by simp)
  have W:=Walks.range (prog:=X.prog) (w:=X.w) (I.ok.hd hc) it lo 1 n
  refine W.item i s _ _ hg st fun v h' tk hv st' kk=>?_
  obtain ⟨t,rfl⟩:=hv
  have I1:Inv X pins σ H { s with heap:=h',toks:=tk }:=I.turned (fun b o hb e=>kk b o (by simpa using hb) e) f0 f1 f3 f4 f5
  refine ⟨_,rfl,Yl (s:={ s with heap:=h',toks:=tk }) (n:="range_iterator") st' rfl rfl (by decide) ⟨.int (lo+i),H,I1,⟨t,?_⟩,⟨rfl,rfl⟩,st',fun b hb=>(hf b hb).1⟩⟩
  rw [Int.mul_one]
 done:=by
  intro X hP hw hK hc i pins s σ H E I hf st hg
  subst hP hw hK
  obtain ⟨f0,f1,f2,f3,f4,f5⟩:=hf it (by simp)
  exact wpAny_pyNext_range_end (I.ok.hd hc) st (by have:n<=i:=hg; omega) fun h' eb=>⟨rfl,I.turned (t':=s.toks) (fun b o hb e=>eb b o hb e) f0 f1 f3 f4 f5⟩
 self:=fun _ _ _ _ _ st h=>wpAny_pyIter_rangeiter st h
open PySem PySem.Spec PyProof.Rows
section
variable {X:Cx}{tg:Expr}
noncomputable def Ki (K:PySem.W.Frag)(tl:TE):TI:=fun σ H R=>tl σ H fun x H1=>∃ a,x=.ref a/\(∃ xs,SqL K H1 a xs)/\R (Itl K a) H1
noncomputable def z2x (K:PySem.W.Frag)(tl:TE):TI:=fun σ H R=>tl σ H fun x H1=>∃ a,x=.ref a/\(∃ xs,SqT K H1 a xs)/\R (Itt K a) H1
theorem Jr {l:Expr}{tl:TE}(hl:PE X l tl):PI X tg l (Ki X.K tl):=by
 intro pins s σ H R I h
 refine thn (hl pins s σ H _ I h) fun v s1 ⟨x,H1,I1,r1,q1⟩=>?_
 obtain ⟨a,e,⟨xs,hq⟩,q⟩:=q1
 subst e
 cases r1
 obtain ⟨its,rv,p,hz⟩:=I1.list hq
 refine wpAny_pyIter_list p.isList ?_
 refine ⟨s1.heap.objs.size,[s1.heap.objs.size],_,_,H1,rfl,I1.kept (t':=s1.toks) fun b o e=>Heap.get?_push_of_some _ e,WV a _,⟨_,Heap.get?_push_size _ rfl,rfl,rfl⟩,fun b hb=>?_,q⟩
 have e:b=s1.heap.objs.size:=by simpa using hb
 subst e
 exact I1.fpOk (Nat.le_refl _) (I1.hok.fresh (Nat.le_refl _))
theorem z0F {l:Expr}{tl:TE}(hl:PE X l tl):PI X tg l (z2x X.K tl):=by
 intro pins s σ H R I h
 refine thn (hl pins s σ H _ I h) fun v s1 ⟨x,H1,I1,r1,q1⟩=>?_
 obtain ⟨a,e,⟨xs,hq⟩,q⟩:=q1
 subst e
 cases r1
 obtain ⟨its,rv,p,hz⟩:=I1.tuple hq
 refine wpAny_pyIter_tuple (show s1.heap.IsTuple a its.toArray from p) ?_
 refine ⟨s1.heap.objs.size,[s1.heap.objs.size],_,_,H1,rfl,I1.kept (t':=s1.toks) fun b o e=>Heap.get?_push_of_some _ e,Xv a _,⟨_,Heap.get?_push_size _ rfl,rfl,rfl⟩,fun b hb=>?_,q⟩
 have e:b=s1.heap.objs.size:=by simpa using hb
 subst e
 exact I1.fpOk (Nat.le_refl _) (I1.hok.fresh (Nat.le_refl _))
theorem YE {pins:List (Addr×Obj)}{σ:St}{H:Hp}{s:Shared}{R:It->Hp->Prop}{E:Value->Shared->Prop}{lo hi:Int}{t u v:Tok}{tk:Nat}(I:Inv X pins σ H s)(h1:-(2 ^ 62)<=lo)(h2:lo<2 ^ 62)(h3:-(2 ^ 62)<=hi)(h4:hi<2 ^ 62)
  (q:R (Itr lo (hi-lo).toNat) H):wpAny (model X.prog X.w) X.A (pyIter (.ref s.heap.objs.size)) (PIE X pins σ tg R) E { s with heap:=s.heap.push { cls:=.type "range",data:=.fields #[.int lo t,.int hi u,.int 1 v] },toks:=tk }:=by
 refine wpAny_pyIter_range (IsRange.new ..) (small_one h1 h2 h3 h4) ?_
 have I1:Inv X pins σ H { s with heap:=s.heap.push { cls:=.type "range",data:=.fields #[.int lo t,.int hi u,.int 1 v] },toks:=tk }:=I.kept fun b o e=>Heap.get?_push_of_some _ e
 refine ⟨(s.heap.push { cls:=.type "range",data:=.fields #[.int lo t,.int hi u,.int 1 v] }).objs.size,[(s.heap.push { cls:=.type "range",data:=.fields #[.int lo t,.int hi u,.int 1 v] }).objs.size],_,_,H,rfl,
  I1.kept (t':=tk) fun b o e=>Heap.get?_push_of_some _ e,X9 _ lo (hi-lo).toNat,?_,fun b hb=>?_,q⟩
 ·have e1:lo+((0:Nat):Int)*1=lo:=by simp
  have e2:(((hi-lo).toNat:Nat):Int)-((0:Nat):Int)=Builtin.Range.rangeSize lo hi 1:=by rw [rangeSize_one]; split<;>omega
  show IsRangeIter _ _ (lo+((0:Nat):Int)*1) ((((hi-lo).toNat:Nat):Int)-((0:Nat):Int)) 1
  rw [e1,e2]
  exact Heap.get?_push_size _ rfl
 ·have e:b=(s.heap.push { cls:=.type "range",data:=.fields #[.int lo t,.int hi u,.int 1 v] }).objs.size:=by simpa using hb
  subst e
  exact I1.fpOk (Nat.le_refl _) (I1.hok.fresh (Nat.le_refl _))
noncomputable def z2j (ta:TA):TI:=fun σ H R=>ta σ H fun vs H1=>∃ j:Int,vs=[.int j]/\-(2 ^ 62)<=j/\j<2 ^ 62/\R (Itr 0 j.toNat) H1
noncomputable def z2O (ta:TA):TI:=fun σ H R=>ta σ H fun vs H1=>∃ i j:Int,vs=[.int i,.int j]/\(-(2 ^ 62)<=i/\i<2 ^ 62/\-(2 ^ 62)<=j/\j<2 ^ 62)/\R (Itr i (j-i).toNat) H1
theorem WQ {a:Expr}{ta:TA}{p pos:Pos}(hg:Gl X "range")(hm:X.mg "range"=none)(ha:PA X [a] ta)(hs:autoParam (starEach [a] X.env=[(false,eval a X.env)]) L2.au3._auto_1):PI X tg (.Call (.Name "range" p) [a] [] pos) (z2j ta):=by
 intro pins s σ H R I h
 refine Call_ (jH I hg hm boot_range (PyProof.Rows.callWith_type1 (thn (ha pos pins s σ H _ I h) fun us s1 ⟨vs,H1,I1,r1,q1⟩=>?_) hs rfl))
 obtain ⟨j,e,q1,q2,q⟩:=q1
 subst e
 cases r1 with
 | cons r rr =>
  cases rr
  obtain ⟨t,rfl⟩:=r
  exact call_range_1 (YE I1 (by omega) (by omega) q1 q2 (by simpa using q))
theorem Ve {a b:Expr}{ta:TA}{p pos:Pos}(hg:Gl X "range")(hm:X.mg "range"=none)(ha:PA X [a,b] ta)(hs:autoParam (starEach [a,b] X.env=[(false,eval a X.env),(false,eval b X.env)]) L2.au3._auto_1)(hs2:autoParam (starEach [b] X.env=[(false,eval b X.env)]) L2.au3._auto_1) :
  PI X tg (.Call (.Name "range" p) [a,b] [] pos) (z2O ta):=by
 intro pins s σ H R I h
 refine Call_ (jH I hg hm boot_range (PyProof.Rows.callWith_type1 (thn (ha pos pins s σ H _ I h) fun us s1 ⟨vs,H1,I1,r1,q1⟩=>?_) (by rw [hs,hs2]) (by rw [hs2]; rfl)))
 obtain ⟨i,j,e,⟨q1,q2,q3,q4⟩,q⟩:=q1
 subst e
 cases r1 with
 | cons r rr =>
  cases rr with
  | cons r' rr =>
   cases rr
   obtain ⟨t,rfl⟩:=r
   obtain ⟨t',rfl⟩:=r'
   exact call_range_2 (YE I1 q1 q2 q3 q4 q)
noncomputable def z2P (wi:TI)(g:TG)(tb:TS):TS:=fun D σ H=>wi σ H fun J H1=>∃ W:Nat->Nat->St->Hp->Prop,(∃ m,W 0 m σ H1)/\∀ i m σ H,W i m σ H ->
 (J.stop i H/\D.nx σ H)\/(J.go i H/\∃ N:St->Hp->Prop,(∀ σ' H',N σ' H'->∃ m',m'<m/\W (i+1) m' σ' H')/\∀ x H',J.yld i H x H'->g x σ H' fun σ2 H2=>tb { D with nx:=N,ct:=N,bk:=D.nx } σ2 H2)
noncomputable def jP (fp:List Addr)(h:Heap):List (Addr×Obj):=fp.filterMap fun b=>(h.get? b).map fun o=>(b,o)
theorem vt {fp:List Addr}{h:Heap}{b:Addr}{o:Obj}(hb:b∈fp)(e:h.get? b=some o):(b,o)∈jP fp h:=List.mem_filterMap.mpr ⟨b,hb,by rw [e]; rfl⟩
theorem V0 {fp:List Addr}{h:Heap}{p:Addr×Obj}(hp:p∈jP fp h):p.1∈fp/\h.get? p.1=some p.2:=by
 obtain ⟨b,hb,e⟩:=List.mem_filterMap.mp hp
 cases q:h.get? b with
 | none=>rw [q] at e; cases e
 | some o =>
  rw [q] at e
  have e':(b,o)=p:=Option.some.inj e
  subst e'
  exact ⟨hb,q⟩
theorem Inv.pinned {pins:List (Addr×Obj)}{σ:St}{H:Hp}{s:Shared}{fp:List Addr}(I:Inv X pins σ H s)(hf:∀ b∈fp,qK X pins H b)(ho:∀ b∈fp,∃ o,s.heap.get? b=some o/\∀ v,o.data≠.cell v):Inv X (pins++jP fp s.heap) σ H s :=
 I.pins_of fun p hp=>(List.mem_append.mp hp).elim (fun z=>I.pin p (List.mem_append_right _ z)) fun z=>by
  obtain ⟨hb,e⟩:=V0 z
  obtain ⟨f0,f1,f2,_⟩:=hf p.1 hb
  obtain ⟨o,e',d⟩:=ho p.1 hb
  rw [e] at e'; cases e'
  exact ⟨e,f0,f1,f2,d⟩
theorem Inv.unpinned {pins pl:List (Addr×Obj)}{σ:St}{H:Hp}{s:Shared}(I:Inv X (pins++pl) σ H s):Inv X pins σ H s:=I.pins_of fun p hp=>I.pin p (List.mem_append_right _ (List.mem_append_left _ hp))
theorem Uk {iter:Expr}{body:List Stmt}{wi:TI}{g:TG}{tb:TS}{pos:Pos}(hp:PassesOwn (model X.prog X.w) X.A X.env X.xe)(hc:X.calm=true)(hi:PI X tg iter wi)(hg:PG X tg g)(hb:PSs X body tb)
  (hs:autoParam (∀ x,foldedSetIterable iter X.env x=pure x) L2.au2._auto_1):PS X (.For tg iter body [] pos) (z2P wi g tb):=by
 intro pins s σ H D I h
 refine wpAny_For (thn (hi pins s σ H _ I h) fun v s1 h1=>thn h1 fun itv s2 h2=>?_) hs
 obtain ⟨it,fp,tn,J,H2,e,I2,T,st2,f2,W,⟨m0,w0⟩,turn⟩:=h2
 subst e
 have stat:∀ {H':Hp},(∀ b∈fp,H' b=none)->∀ b∈fp,qK X pins H' b:=fun hn b hb=>⟨hn b hb,(f2 b hb).2⟩
 refine codeAny_forLoop_any (fun n s'=>∃ i σ' H',Inv X pins σ' H' s'/\tn i s'.heap/\(∀ b∈fp,H' b=none)/\W i n σ' H') ?_ m0 ⟨0,σ,H2,I2,st2,fun b hb=>(f2 b hb).1,w0⟩
 rintro n s3 ⟨i,σ3,H3,I3,st3,fr3,w3⟩
 rcases turn i n σ3 H3 w3 with ⟨stop,qn⟩ | ⟨go,N,hN,step⟩
 ·refine wpAny_passesOwn hp (thn (T.done X rfl rfl rfl hc i pins s3 σ3 H3 X.xe I3 (stat fr3) st3 stop) fun r s4 ⟨hr,I4⟩=>?_)
  subst hr
  exact wpAny_execs_nil ⟨σ3,H3,I4,qn⟩
 ·refine wpAny_passesOwn hp (thn (T.item X rfl rfl rfl hc i pins s3 σ3 H3 X.xe I3 (stat fr3) st3 go) fun r s4 ⟨u,hr,h4⟩=>?_)
  subst hr
  refine wpAny_passesOwn hp (thn h4 fun _ s5 ⟨x,H5,I5,r5,y5,st5,fr5⟩=>?_)
  have I5':=I5.pinned (stat fr5) (T.obj _ _ st5)
  refine wpAny_passesOwn hp (thn (hg _ s5 σ3 H5 x u _ I5' r5 (step x H5 y5)) fun _ s6 ⟨σ6,H6,I6,q6⟩=>?_)
  refine wpAny_passesOwn hp (thn (hb _ s6 σ6 H6 _ I6 q6) fun f s7 q7=>?_)
  have again:∀ {σ7:St} {H7:Hp},Inv X (pins++jP fp s5.heap) σ7 H7 s7->N σ7 H7->∃ m,m<n/\∃ i σ' H',Inv X pins σ' H' s7/\tn i s7.heap/\(∀ b∈fp,H' b=none)/\W i m σ' H':=fun {σ7 H7} I7 n7=>by
   obtain ⟨m',hm,w7⟩:=hN σ7 H7 n7
   refine ⟨m',hm,i+1,σ7,H7,I7.unpinned,T.keep _ _ _ st5 fun b hb o e=>(I7.pin (b,o) (List.mem_append_right _ (List.mem_append_right _ (vt hb e)))).1,fun b hb=>?_,w7⟩
   obtain ⟨o,e,d⟩:=T.obj _ _ st5 b hb
   exact (I7.pin (b,o) (List.mem_append_right _ (List.mem_append_right _ (vt hb e)))).2.1
  cases f with
  | next=>obtain ⟨σ7,H7,I7,n7⟩:=q7; exact again I7 n7
  | cont=>obtain ⟨σ7,H7,I7,n7⟩:=q7; exact again I7 n7
  | brk=>obtain ⟨σ7,H7,I7,q7⟩:=q7; exact ⟨σ7,H7,I7.unpinned,q7⟩
  | ret v=>obtain ⟨x7,σ7,H7,I7,r7,q7⟩:=q7; exact ⟨x7,σ7,H7,I7.unpinned,r7,q7⟩
end
open PySem PySem.Spec PyProof.Rows
noncomputable abbrev R2:=V->V->Hp->VK->Prop
noncomputable def OpR (X:Cx)(f:Value->Value->Sem Value)(r:R2):Prop :=
 ∀ (pins:List (Addr×Obj)) (s:Shared) (σ:St) (H:Hp) (x y:V) (v u:Value) (Q:VK),Inv X pins σ H s->RelV x v->RelV y u->r x y H Q ->
  wpAny (model X.prog X.w) X.A (f v u) (EP X pins σ Q) X.xe s
noncomputable def UnR (X:Cx)(f:Value->Sem Value)(r:V->Hp->VK->Prop):Prop :=
 ∀ (pins:List (Addr×Obj)) (s:Shared) (σ:St) (H:Hp) (x:V) (v:Value) (Q:VK),Inv X pins σ H s->RelV x v->r x H Q ->
  wpAny (model X.prog X.w) X.A (f v) (EP X pins σ Q) X.xe s
noncomputable def CallR (X:Cx)(f:Value)(r:List V->Hp->VK->Prop):Prop :=
 ∀ (pins:List (Addr×Obj)) (s:Shared) (σ:St) (H:Hp) (xs:List V) (us:List Value) (Q:VK),Inv X pins σ H s->Vals xs us->r xs H Q ->
  wpAny (model X.prog X.w) X.A (call f us) (EP X pins σ Q) X.xe s
noncomputable def tOp (r:R2)(ta tb:TE):TE:=fun σ H Q=>ta σ H fun x H1=>tb σ H1 fun y H2=>r x y H2 Q
noncomputable def tUn (r:V->Hp->VK->Prop)(ta:TE):TE:=fun σ H Q=>ta σ H fun x H1=>r x H1 Q
noncomputable def rI (C:Int->Int->Prop)(g:Int->Int->V):R2:=fun x y H Q=>∃ i j,x=.int i/\y=.int j/\C i j/\Q (g i j) H
noncomputable def rI0 (g:Int->Int->V):R2:=fun x y H Q=>∃ i j,x=.int i/\y=.int j/\Q (g i j) H
noncomputable def rU (g:Int->V):V->Hp->VK->Prop:=fun x H Q=>∃ i,x=.int i/\Q (g i) H
section
variable {X:Cx}{a b c:Expr}{ta tb tc:TE}{pos:Pos}
theorem z0O (ha:PE X a ta)(hb:PE X b tb){pins:List (Addr×Obj)}{s:Shared}{σ:St}{H:Hp}{R:V->V->Hp->Prop}(I:Inv X pins σ H s)
  (h:ta σ H fun x H1=>tb σ H1 fun y H2=>R x y H2) {Q:Value->Shared->Prop} {f:Value->Value->Sem Value}
  (hf:∀ v u s2 x y H2,Inv X pins σ H2 s2->RelV x v->RelV y u->R x y H2->wpAny (model X.prog X.w) X.A (f v u) Q X.xe s2) :
  wpAny (model X.prog X.w) X.A (eval a X.env) (fun v s₁=>wpAny (model X.prog X.w) X.A (eval b X.env) (fun u s₂=>wpAny (model X.prog X.w) X.A (f v u) Q X.xe s₂) X.xe s₁) X.xe s:=by
 refine thn (ha pins s σ H _ I h) fun v s1 ⟨x,H1,I1,r1,q1⟩=>?_
 refine thn (hb pins s1 σ H1 _ I1 q1) fun u s2 ⟨y,H2,I2,r2,q2⟩=>?_
 exact hf v u s2 x y H2 I2 r1 r2 q2
theorem Ky {op:Operator}{r:R2}(ho:OpR X (binaryOp op) r)(ha:PE X a ta)(hb:PE X b tb):PE X (.BinOp a op b pos) (tOp r ta tb):=by
 intro pins s σ H Q I h
 exact wpAny_BinOp (z0O ha hb I h fun v u s2 x y H2 I2 rx ry q=>ho pins s2 σ H2 x y v u Q I2 rx ry q)
theorem z2y {op:UnaryOp}{r:V->Hp->VK->Prop}(ho:UnR X (unaryOp op) r)(ha:PE X a ta):PE X (.UnaryOp op a pos) (tUn r ta):=by
 intro pins s σ H Q I h
 exact UnaryOp_ (thn (ha pins s σ H _ I h) fun v s1 ⟨x,H1,I1,r1,q1⟩=>ho pins s1 σ H1 x v Q I1 r1 q1)
theorem opI {f:Value->Value->Sem Value}{C:Int->Int->Prop}{g:Int->Int->Int}
  (rule:∀ (i j:Int) (t u:Tok) (s:Shared) (Q:Value->Shared->Prop) (E:Value->Shared->Prop),C i j->Q (.int (g i j) s.toks) { s with toks:=s.toks+1 }->wpAny (model X.prog X.w) X.A (f (.int i t) (.int j u)) Q E s) :
  OpR X f (rI C fun i j=>.int (g i j)):=by
 intro pins s σ H x y v u Q I rx ry h
 obtain ⟨i,j,rfl,rfl,hc,q⟩:=h
 obtain ⟨t,rfl⟩:=rx
 obtain ⟨t',rfl⟩:=ry
 exact rule i j t t' s _ _ hc ⟨.int (g i j),H,I.tok _,⟨_,rfl⟩,q⟩
theorem z1C {f:Value->Value->Sem Value}{g:Int->Int->Int}
  (rule:∀ (i j:Int) (t u:Tok) (s:Shared) (Q:Value->Shared->Prop) (E:Value->Shared->Prop),Q (.int (g i j) s.toks) { s with toks:=s.toks+1 }->wpAny (model X.prog X.w) X.A (f (.int i t) (.int j u)) Q E s) :
  OpR X f (rI0 fun i j=>.int (g i j)):=by
 intro pins s σ H x y v u Q I rx ry h
 obtain ⟨i,j,rfl,rfl,q⟩:=h
 obtain ⟨t,rfl⟩:=rx
 obtain ⟨t',rfl⟩:=ry
 exact rule i j t t' s _ _ ⟨.int (g i j),H,I.tok _,⟨_,rfl⟩,q⟩
theorem JA {f:Value->Value->Sem Value}{g:Int->Int->Bool}
  (rule:∀ (i j:Int) (t u:Tok) (s:Shared) (Q:Value->Shared->Prop) (E:Value->Shared->Prop),Q (.bool (g i j)) s->wpAny (model X.prog X.w) X.A (f (.int i t) (.int j u)) Q E s) :
  OpR X f (rI0 fun i j=>.bl (g i j)):=by
 intro pins s σ H x y v u Q I rx ry h
 obtain ⟨i,j,rfl,rfl,q⟩:=h
 obtain ⟨t,rfl⟩:=rx
 obtain ⟨t',rfl⟩:=ry
 exact rule i j t t' s _ _ ⟨.bl (g i j),H,I,rfl,q⟩
noncomputable def z2c (i j:Int):Prop:=0<j/\j<1073741824
noncomputable def CMul (i j:Int):Prop:=(-(2 ^ 64)<i/\i<2 ^ 64)\/(-(2 ^ 64)<j/\j<2 ^ 64)
theorem CMul.ok {i j:Int}(h:CMul i j):IntMulOk i j:=by
 rcases h with ⟨h1,h2⟩ | ⟨h1,h2⟩
 ·exact .of_left (intBits_le_64 h1 h2)
 ·exact .of_right (intBits_le_64 h1 h2)
theorem Q9:OpR X (binaryOp .Add) (rI0 fun i j=>.int (i+j)):=z1C fun _ _ _ _ _ _ _ q=>add_int q
theorem xx:OpR X (binaryOp .Sub) (rI0 fun i j=>.int (i-j)):=z1C fun _ _ _ _ _ _ _ q=>sub_int q
theorem z0q:OpR X (binaryOp .Mult) (rI CMul fun i j=>.int (i*j)):=opI fun _ _ _ _ _ _ _ hc q=>mul_int q hc.ok
theorem zS:OpR X (binaryOp .FloorDiv) (rI z2c fun i j=>.int (i/j)):=opI fun i j _ _ _ _ _ hc q=>by
 have h1:(0:Int)<j:=hc.1
 have h2:j<1073741824:=hc.2
 exact floordiv_int (by omega) (by rw [Int.fdiv_eq_ediv_of_nonneg i (by omega)]; exact q) (.inl (PyProof.noPylong_small (by omega)))
theorem zH:OpR X (binaryOp .Mod) (rI (fun _ j=>0<j) fun i j=>.int (i%j)):=opI fun i j _ _ _ _ _ hc q=>by
 have h1:(0:Int)<j:=hc
 exact mod_int' (by omega) (by rw [Int.fmod_eq_emod_of_nonneg i (by omega)]; exact q)
theorem unI {f:Value->Sem Value}{g:Int->Int}
  (rule:∀ (i:Int) (t:Tok) (s:Shared) (Q:Value->Shared->Prop) (E:Value->Shared->Prop),Q (.int (g i) s.toks) { s with toks:=s.toks+1 }->wpAny (model X.prog X.w) X.A (f (.int i t)) Q E s) :
  UnR X f (rU fun i=>.int (g i)):=by
 intro pins s σ H x v Q I rx h
 obtain ⟨i,rfl,q⟩:=h
 obtain ⟨t,rfl⟩:=rx
 exact rule i t s _ _ ⟨.int (g i),H,I.tok _,⟨_,rfl⟩,q⟩
theorem z0b:UnR X (unaryOp .USub) (rU fun i=>.int (-i)):=unI fun _ _ _ _ _ q=>neg_int q
end
section
variable {X:Cx}{a b c:Expr}{ta tb tc:TE}{pos:Pos}
theorem Z5 {pins:List (Addr×Obj)}{σ:St}{H:Hp}{s:Shared}{Q:VK}{k k':Bool}(I:Inv X pins σ H s)(q:Q (.bl k) H)(e:k=k'):EP X pins σ Q (.bool k') s:=by
 subst e
 exact ⟨.bl k,H,I,rfl,q⟩
theorem wX:OpR X (compareOp .Lt) (rI0 fun i j=>.bl (decide (i<j))):=JA fun _ _ _ _ _ _ _ q=>lt_int q
theorem Wq:OpR X (compareOp .LtE) (rI0 fun i j=>.bl (decide (i<=j))):=JA fun _ _ _ _ _ _ _ q=>le_int q
theorem Kk:OpR X (compareOp .Gt) (rI0 fun i j=>.bl (decide (j<i))):=JA fun _ _ _ _ _ _ _ q=>gt_int q
theorem Wn:OpR X (compareOp .GtE) (rI0 fun i j=>.bl (decide (j<=i))):=JA fun _ _ _ _ _ _ _ q=>ge_int q
theorem z1e:OpR X (compareOp .Is) (fun x y H Q=>y=.non/\Q (.bl (decide (x=.non))) H):=by
 intro pins s σ H x y v u Q I rx ry h
 obtain ⟨rfl,q⟩:=h
 cases ry
 refine is_none_gen (Z5 I q ?_)
 cases x<;>first
  | (cases rx; rfl)
  | (obtain ⟨t,rfl⟩:=rx; rfl)
theorem ZF:OpR X (compareOp .IsNot) (fun x y H Q=>y=.non/\Q (.bl (!decide (x=.non))) H):=by
 intro pins s σ H x y v u Q I rx ry h
 obtain ⟨rfl,q⟩:=h
 cases ry
 refine isnot_none_gen (Z5 I q ?_)
 cases x<;>first
  | (cases rx; rfl)
  | (obtain ⟨t,rfl⟩:=rx; rfl)
theorem OpR.or {f:Value->Value->Sem Value}{r r':R2}(h:OpR X f r)(h':OpR X f r'):OpR X f (fun x y H Q=>r x y H Q\/r' x y H Q):=by
 intro pins s σ H x y v u Q I rx ry q
 rcases q with q | q
 ·exact h pins s σ H x y v u Q I rx ry q
 ·exact h' pins s σ H x y v u Q I rx ry q
theorem zG (b:Expr){op:CmpOp}(h:autoParam (op≠.In) L2.au1._auto_1)(h2:autoParam (op≠.NotIn) L2.au1._auto_1):behindInMarks op b=false:=by
 have e1:(op==CmpOp.In)=false:=by cases op<;>first | rfl | exact absurd rfl h
 have e2:(op==CmpOp.NotIn)=false:=by cases op<;>first | rfl | exact absurd rfl h2
 cases b with
 | Set elts k _ =>
  show (k==0&&(op==.In||op==.NotIn)&&elts.all (constantsAlone 8))=false
  rw [e1,e2,Bool.or_self,Bool.and_false,Bool.false_and]
 | _=>rfl
theorem Jl {op:CmpOp}{r:R2}(ho:OpR X (compareOp op) r)(ha:PE X a ta)(hb:PE X b tb)(hm:behindInMarks op b=false):PE X (.Compare a [op] [b] pos) (tOp r ta tb):=by
 intro pins s σ H Q I h
 exact wpAny_Compare1 (z0O ha hb I h fun v u s2 x y H2 I2 rx ry q=>ho pins s2 σ H2 x y v u Q I2 rx ry q) hm
noncomputable def Kl (t:TE):TT:=fun σ H Q=>t σ H fun x H'=>∃ k,x=.bl k/\Q k H'
theorem Qr {op:CmpOp}{r:R2}(ho:OpR X (compareOp op) r)(ha:PE X a ta)(hb:PE X b tb)(hm:behindInMarks op b=false):PT X (.Compare a [op] [b] pos) (Kl (tOp r ta tb)):=by
 intro pins s σ H Q I h
 refine wpAny_isTrue_Compare1 (thn (ha pins s σ H _ I h) fun v s1 ⟨x,H1,I1,r1,q1⟩=>thn (hb pins s1 σ H1 _ I1 q1) fun u s2 ⟨y,H2,I2,r2,q2⟩ =>
  thn (ho pins s2 σ H2 x y v u _ I2 r1 r2 q2) fun c s3 ⟨z,H3,I3,r3,k,e,q3⟩=>?_) hm
 subst e
 cases r3
 exact wpAny_truthy_bool ⟨H3,I3,q3⟩
noncomputable def Xx (r r':R2)(ta tb tc:TE):TE:=fun σ H Q=>ta σ H fun x H1=>tb σ H1 fun y H2=>r x y H2 fun z H3=>∃ k,z=.bl k /\
 (if k=true then tc σ H3 fun w' H4=>r' y w' H4 Q else Q (.bl false) H3)
theorem VI {op op':CmpOp}{r r':R2}(ho:OpR X (compareOp op) r)(ho':OpR X (compareOp op') r')(ha:PE X a ta)(hb:PE X b tb)(hc:PE X c tc)
  (hm:autoParam (lastMarks [op,op'] [b,c]=false) L2.au4._auto_1):PE X (.Compare a [op,op'] [b,c] pos) (Xx r r' ta tb tc):=by
 intro pins s σ H Q I h
 refine Compare_chain (thn (ha pins s σ H _ I h) fun v s1 ⟨x,H1,I1,r1,q1⟩=>chain_link (thn (hb pins s1 σ H1 _ I1 q1) fun u s2 ⟨y,H2,I2,r2,q2⟩ =>
  thn (ho pins s2 σ H2 x y v u _ I2 r1 r2 q2) fun d s3 ⟨z,H3,I3,r3,k,e,q3⟩=>?_)) hm
 subst e
 cases r3
 refine wpAny_truthy_bool ?_
 cases k with
 | false=>exact ite_ff ⟨.bl false,H3,I3,rfl,q3⟩
 | true=>exact ite_tt (chain_last (thn (hc pins s3 σ H3 _ I3 q3) fun w' s4 ⟨z',H4,I4,r4,q4⟩=>ho' pins s4 σ H4 y z' u w' Q I4 r2 r4 q4))
theorem UJ {op op':CmpOp}{r r':R2}(ho:OpR X (compareOp op) r)(ho':OpR X (compareOp op') r')(ha:PE X a ta)(hb:PE X b tb)(hc:PE X c tc)
  (hm:autoParam (lastMarks [op,op'] [b,c]=false) L2.au4._auto_1):PT X (.Compare a [op,op'] [b,c] pos) (Kl (Xx r r' ta tb tc)):=by
 intro pins s σ H Q I h
 refine isTrue_chain (thn (ha pins s σ H _ I h) fun v s1 ⟨x,H1,I1,r1,q1⟩=>test_link (thn (hb pins s1 σ H1 _ I1 q1) fun u s2 ⟨y,H2,I2,r2,q2⟩ =>
  thn (ho pins s2 σ H2 x y v u _ I2 r1 r2 q2) fun d s3 ⟨z,H3,I3,r3,k,e,q3⟩=>?_)) hm
 subst e
 cases r3
 refine wpAny_truthy_bool ?_
 cases k with
 | false =>
  obtain ⟨k',e',q'⟩:=q3
  cases e'
  exact ite_ff ⟨H3,I3,q'⟩
 | true =>
  refine ite_tt (test_last (thn (hc pins s3 σ H3 _ I3 q3) fun w' s4 ⟨z',H4,I4,r4,q4⟩=>thn (ho' pins s4 σ H4 y z' u w' _ I4 r2 r4 q4) fun d' s5 ⟨z2,H5,I5,r5,k2,e2,q5⟩=>?_))
  subst e2
  cases r5
  exact wpAny_truthy_bool ⟨H5,I5,q5⟩
theorem qB:(sizeLine:Nat)<2 ^ 63:=by rw [sizeLine_eq]; decide
theorem Xh:OpR X (binaryOp .Add) (fun x y H Q=>∃ i j,x=.str i/\y=.str j/\i.length+j.length<=sizeLine/\Q (.str (i++j)) H):=by
 intro pins s σ H x y v u Q I rx ry h
 obtain ⟨i,j,rfl,rfl,hz,q⟩:=h
 obtain ⟨t,rfl⟩:=rx
 obtain ⟨t',rfl⟩:=ry
 exact add_str (fun t' tk=>⟨.str (i++j),H,I.tok _,⟨_,rfl⟩,q⟩) hz
theorem Yb:OpR X (inplaceOp .Add) (fun x y H Q=>∃ i j,x=.str i/\y=.str j/\i.length+j.length<=sizeLine/\Q (.str (i++j)) H):=by
 intro pins s σ H x y v u Q I rx ry h
 obtain ⟨i,j,rfl,rfl,hz,q⟩:=h
 obtain ⟨t,rfl⟩:=rx
 obtain ⟨t',rfl⟩:=ry
 exact iadd_str (fun t' tk=>⟨.str (i++j),H,I.tok _,⟨_,rfl⟩,q⟩) hz
theorem v9 {x:V}{us:List Value}(r:Vals [x] us):∃ u,us=[u]/\RelV x u:=by
 cases r with
 | cons r1 r2=>cases r2; exact ⟨_,rfl,r1⟩
theorem Wm {x y:V}{us:List Value}(r:Vals [x,y] us):∃ u w',us=[u,w']/\RelV x u/\RelV y w':=by
 cases r with
 | cons r1 r2 =>
  cases r2 with
  | cons r3 r4=>cases r4; exact ⟨_,_,rfl,r1,r3⟩
theorem Vl (hc:X.calm=true):CallR X (.builtin "max") (fun xs H Q=>∃ i j,xs=[.int i,.int j]/\Q (.int (if j>i then j else i)) H):=by
 intro pins s σ H xs us Q I r h
 obtain ⟨i,j,rfl,q⟩:=h
 obtain ⟨u,w',rfl,⟨t,rfl⟩,⟨t',rfl⟩⟩:=Wm r
 refine max_two_ints (I.ok.hd hc) fun h' tk k=>⟨_,H,I.kept k,?_,q⟩
 by_cases hj:j>i
 ·rw [if_pos hj,if_pos hj]; exact ⟨_,rfl⟩
 ·rw [if_neg hj,if_neg hj]; exact ⟨_,rfl⟩
theorem WU:CallR X (.type "int") (fun xs H Q=>(∃ i,xs=[.int i]/\Q (.int i) H)\/∃ k,xs=[.bl k]/\Q (.int (if k then 1 else 0)) H):=by
 intro pins s σ H xs us Q I r h
 rcases h with ⟨i,rfl,q⟩ | ⟨k,rfl,q⟩
 ·obtain ⟨u,rfl,t,rfl⟩:=v9 r
  exact call_int_int ⟨.int i,H,I,⟨_,rfl⟩,q⟩
 ·obtain ⟨u,rfl,r1⟩:=v9 r
  cases r1
  exact call_int_bool ⟨.int (if k then 1 else 0),H,I.tok _,⟨_,rfl⟩,q⟩
end
open PySem PySem.Spec PyProof.Rows
structure ObjM (h:Heap)(x dx C:Addr)(mA:Str->Option Value):Prop where
 obj:h.get? x=some (PySem.W.instObj C dx)
 ns:h.Ns1 dx mA
 ne:dx≠x
theorem V8 {h:Heap}{dx:Addr}{mA:Str->Option Value}(n:h.Ns1 dx mA):∃ od,h.get? dx=some od/\∀ name,PySem.W.lookIn name od=some (mA name):=by
 obtain ⟨o,es,ep,ho,hd,hk,_,hm⟩:=n
 refine ⟨o,ho,fun name=>?_⟩
 have e:=hm name
 unfold nsFind findBy at e
 rw [<- Array.find?_toList] at e
 unfold PySem.W.lookIn
 rw [hd]
 dsimp only
 split
 ·rename_i y q
  rw [q] at e
  exact congrArg some e
 ·rename_i q
  rw [q] at e
  have a:es.toList.any (·.refKey)=false:=by
   rw [List.any_eq_false]
   intro y hy
   obtain ⟨z,t,hkey⟩:=hk y (Array.mem_toList_iff.mp hy)
   simp [DictEntry.refKey,hkey]
  have a':¬ es.toList.any (·.refKey)=true:=by rw [a]; exact Bool.false_ne_true
  rw [if_neg a']
  exact congrArg some e
theorem ObjM.look {h:Heap}{x dx C:Addr}{mA:Str->Option Value}(I:ObjM h x dx C mA):∃ od,PySem.W.InstAt h x (PySem.W.instObj C dx) C (some od)/\∀ name,PySem.W.lookIn name od=some (mA name) :=
 let ⟨od,ho,hl⟩:=V8 I.ns
 ⟨od,⟨I.obj,rfl,rfl,ho⟩,hl⟩
section
variable {prog:Program}{w:World}{A:Around}{E:Value->Shared->Prop}{s:Shared}{K:PySem.W.Frag}{x dx C f:Addr}{mA:Str->Option Value}{name:Str}{v:Value}
end
theorem RelO.some_of {v:V}{o:Option Value}(r:RelO (some v) o):∃ u,o=some u/\RelV v u:=by
 cases o with
 | none=>exact (show False from r).elim
 | some u=>exact ⟨u,rfl,r⟩
section
variable {P:Program}{w:World}{H H':Hp}{h h':Heap}{a C dx:Addr}{fs fs':List (Str×V)}
theorem Jy (hok:HOk P w H h)(e:H a=some (.ins C dx fs)):∃ mA,ObjM h a dx C mA/\(∀ f,RelO (fs.lookup f) (mA f))/\PySem.Within mA (fs.map (·.1))/\fs.length<=1000/\H dx=some (.own a):=by
 obtain ⟨d,z,ne,ob,mA,n,r,q⟩:=(show ObjOk P w H h a (.ins C dx fs) from hok a _ e)
 exact ⟨mA,⟨ob,n,ne⟩,r,q,z,d⟩
end
structure Cls (K:PySem.W.Frag)(C:Addr):Prop where
 pg:PySem.W.plainGet K C Str.empty=true
 hd:PySem.W.hasDictIn K C=true
 po:PySem.W.plainOver K C=true
 sa:PySem.W.findIn K (.ref C) "__setattr__"=some (some (.builtin "object.__setattr__"))
theorem Cls.get {K:PySem.W.Frag}{C:Addr}(c:Cls K C)(f:Str):PySem.W.plainGet K C f=true:=c.pg
structure Con (K:PySem.W.Frag)(C:Addr)(f:Str)(v:V)(u:Value):Prop where
 at_:PySem.W.findIn K (.ref C) f=some (some u)
 rel:RelV v u
 get:PySem.W.specialIn K u "__get__"=some none
 cp:PySem.W.copiedNames.contains f=false
structure Meth (K:PySem.W.Frag)(C:Addr)(m:Str)(f:Addr):Prop where
 at_:PySem.W.findIn K (.ref C) m=some (some (.ref f))
 fn:PySem.W.isFn K (.ref f)=true
 kp:PySem.W.keepIn K (.ref f)=true
section
variable {X:Cx}{pins:List (Addr×Obj)}{σ:St}{H:Hp}{s:Shared}{a C dx:Addr}{fs:List (Str×V)}{f:Str}{v:V}{A:Around}{E:Value->Shared->Prop}
end
section
variable {X:Cx}{o e value:Expr}{f:Str}{pos pos' tpos:Pos}{ta tv:TE}
end
section
variable {X:Cx}{pins:List (Addr×Obj)}{σ:St}{H:Hp}{s:Shared}{A:Around}{E:Value->Shared->Prop}{Q:Value->Shared->Prop}{c:Value}{b:Bool}
inductive TyOf (K:PySem.W.Frag) (H:Hp):V->Value->Prop where
 | non:TyOf K H .non (.type "NoneType")
 | bl (x:Bool):TyOf K H (.bl x) (.type "bool")
 | int (i:Int):TyOf K H (.int i) (.type "int")
 | str (x:Str):TyOf K H (.str x) (.type "str")
 | flt (x:UInt64):TyOf K H (.flt x) (.type "float")
 | lst {a:Addr} {xs:List V} (e:H a=some (.lst xs)):TyOf K H (.ref a) (.type "list")
 | frz {a:Addr} {o:Obj} {xs:List V} (e:H a=some (.frz o (.lst xs))):TyOf K H (.ref a) (.type "list")
 | tup {a:Addr} {xs:List V} (e:H a=some (.tup xs)):TyOf K H (.ref a) (.type "tuple")
 | dK {a:Addr} {kvs:List (Key×V)} (e:H a=some (.dK kvs)):TyOf K H (.ref a) (.type "dict")
 | dT {a:Addr} {kvs:List (List Key×V)} (e:H a=some (.dT kvs)):TyOf K H (.ref a) (.type "dict")
 | ins {a C dx:Addr} {fs:List (Str×V)} (e:H a=some (.ins C dx fs)) (cl:Cls K C) (ha:PySem.W.findIn K (.ref C) "__class__"=some (some (.builtin "object.__class__")))
   (hn:PySem.W.specialIn K (.builtin "object.__class__") "__get__"=some (some (.builtin "getset_descriptor.__get__"))) (htk:PySem.W.takesIn K (.builtin "object.__class__")=some true)
   (hm:PySem.W.mroIn K C (.type "object")=some true):TyOf K H (.ref a) (.ref C)
theorem xT {x:V}{u t:Value}(I:Inv X pins σ H s)(rx:RelV x u)(ty:TyOf X.K H x t)(e:PySem.W.kitOne X.K t c=some b)(h:∀ tk,Q (.bool b) { s with toks:=tk }) :
  wpAny (model X.prog X.w) A (call (.builtin "isinstance") [u,c]) Q E s:=by
 cases ty with
 | non=>cases (show u=Value.none from rx); exact PySem.W.kia_one PySem.W.kitx_none I.kIn True.intro e (fun z=>nomatch z) h
 | bl y=>cases (show u=Value.bool y from rx); exact PySem.W.kia_one PySem.W.kitx_bool I.kIn True.intro e (fun z=>nomatch z) h
 | int i=>obtain ⟨t,q⟩:=(show ∃ t,u=Value.int i t from rx); cases q; exact PySem.W.kia_one PySem.W.kitx_int I.kIn True.intro e (fun z=>nomatch z) h
 | str y=>obtain ⟨t,q⟩:=(show ∃ t,u=Value.str y t from rx); cases q; exact PySem.W.kia_one PySem.W.kitx_str I.kIn True.intro e (fun z=>nomatch z) h
 | flt y=>obtain ⟨t,q⟩:=(show ∃ t,u=Value.float y t from rx); cases q; exact PySem.W.kia_one PySem.W.kitx_float I.kIn True.intro e (fun z=>nomatch z) h
 | @lst a xs ea =>
  cases (show u=Value.ref a from rx)
  obtain ⟨_,_,n,_,h1⟩:=(show ObjOk X.prog X.w H s.heap a (.lst xs) from I.hok a _ ea)
  exact PySem.W.kia_one PySem.W.kitx_list I.kIn ⟨_,h1,rfl⟩ e (fun z=>nomatch z) h
 | @frz a ob xs ea =>
  cases (show u=Value.ref a from rx)
  obtain ⟨_,_,_,n,_,h1⟩:=(show ObjOk X.prog X.w H s.heap a (.frz ob (.lst xs)) from I.hok a _ ea)
  exact PySem.W.kia_one PySem.W.kitx_list I.kIn ⟨_,h1,rfl⟩ e (fun z=>nomatch z) h
 | @tup a xs ea =>
  cases (show u=Value.ref a from rx)
  obtain ⟨_,_,_,p⟩:=(show ObjOk X.prog X.w H s.heap a (.tup xs) from I.hok a _ ea)
  obtain ⟨o,h1,h2,_⟩:=p
  exact PySem.W.kia_one PySem.W.kitx_tuple I.kIn ⟨o,h1,h2⟩ e (fun z=>nomatch z) h
 | @dK a kvs ea =>
  cases (show u=Value.ref a from rx)
  obtain ⟨_,_,vs,_,p⟩:=(show ObjOk X.prog X.w H s.heap a (.dK kvs) from I.hok a _ ea)
  obtain ⟨o,es,ep,h1,h2,_⟩:=p
  exact PySem.W.kia_one PySem.W.kitx_dict I.kIn ⟨o,h1,h2.1⟩ e (fun z=>nomatch z) h
 | @dT a kvs ea =>
  cases (show u=Value.ref a from rx)
  obtain ⟨_,_,xs,_,o,es,ep,h1,h2,_⟩:=(show ObjOk X.prog X.w H s.heap a (.dT kvs) from I.hok a _ ea)
  exact PySem.W.kia_one PySem.W.kitx_dict I.kIn ⟨o,h1,h2.1⟩ e (fun z=>nomatch z) h
 | @ins a C dx fs ea cl ha hn htk hm =>
  cases (show u=Value.ref a from rx)
  obtain ⟨mA,O,_⟩:=Jy I.hok ea
  obtain ⟨od,J,_⟩:=O.look
  exact PySem.W.kia_one (PySem.W.kitx_own (cl.get _) cl.hd ha hn htk hm) I.kIn J e (fun z=>nomatch z) h
end
open PySem PySem.Spec PyProof.Rows
structure Room (k:Nat)(A:Around):Prop where
 hd:A.handled=none
 dp:A.depth+3*k+5<recursionLimit
 un:A.units+16*k+200<cLine
theorem Room.mono {j k:Nat}{A:Around}(r:Room k A)(h:j<=k):Room j A:=⟨r.hd,by have:=r.dp; omega,by have:=r.un; omega⟩
theorem Room.deeper {k:Nat}{A:Around}(r:Room (k+1) A)(env:Env):Room k (A.deeper env) :=
 ⟨r.hd,by have:=r.dp; show A.depth+1+3*k+5<_; omega,by have:=r.un; show A.units+3+16*k+200<_; omega⟩
theorem Room.in1 {k:Nat}{A:Around}(r:Room (k+1) A):Room k A.in1 :=
 ⟨r.hd,by have:=r.dp; show A.depth+3*k+5<_; omega,by have:=r.un; show A.units+1+16*k+200<_; omega⟩
theorem Room.depth {k:Nat}{A:Around}(r:Room k A):A.depth<recursionLimit:=by have:=r.dp; omega
theorem Room.units {k:Nat}{A:Around}(r:Room k A):A.units+64<cLine:=by have:=r.un; omega
theorem Room.units0 {k:Nat}{A:Around}(r:Room k A):A.units<cLine:=by have:=r.un; omega
noncomputable def z0C:TA:=fun _ H Q=>Q [] H
noncomputable def UD (ta:TE)(tr:TA):TA:=fun σ H Q=>ta σ H fun x H1=>tr σ H1 fun xs H2=>Q (x::xs) H2
section
variable {X:Cx}{e:Expr}{es:List Expr}{te:TE}{t:TA}{pos:Pos}
theorem wj:PA X [] z0C:=fun _ _ _ _ H Q I h=>Calls.spliced_nil ⟨[],H,I,.nil,h⟩
theorem zX (ha:PE X e te)(hr:PA X es t)(hs:autoParam (starEach (e::es) X.env=(false,eval e X.env)::starEach es X.env) L2.au3._auto_1):PA X (e::es) (UD te t):=by
 intro pos pins s σ H Q I h
 rw [hs]
 show wpAny _ _ (spliced ((false,eval e X.env)::backTo pos (starEach es X.env))) _ _ s
 refine Calls.spliced_cons (thn (ha pins s σ H _ I h) fun u s1 ⟨x,H1,I1,r1,q1⟩=>?_)
 exact thn (hr pos pins s1 σ H1 _ I1 q1) fun us s2 ⟨xs,H2,I2,r2,q2⟩=>⟨x::xs,H2,I2,.cons r1 r2,q2⟩
noncomputable def z1u (t:TA):TE:=fun σ H Q=>t σ H fun xs H1=>xs.length<=sizeLine/\∀ p,H1 p=none->Q (.ref p) (upd H1 p (.tup xs))
noncomputable def z2Q (t:TA):TE:=fun σ H Q=>t σ H fun xs H1=>xs.length<=sizeLine/\∀ p,H1 p=none->Q (.ref p) (upd H1 p (.lst xs))
theorem YK {x1}(h:PA X es t):PE X (.Tuple es x1 pos) (z1u t):=by
 intro pins s σ H Q I hq
 refine wpAny_Tuple_spliced (thn (h pos pins s σ H _ I hq) fun us s1 ⟨xs,H1,I1,r,z,q⟩=>⟨by rw [<- r.length]; exact z,?_⟩)
 have hf:H1 s1.heap.objs.size=none:=I1.hok.fresh (Nat.le_refl _)
 refine ⟨.ref s1.heap.objs.size,upd H1 s1.heap.objs.size (.tup xs),I1.laid (t':=s1.toks) (fun b u e=>Heap.get?_push_of_some _ e) (Nat.le_refl _) ?_,rfl,q _ hf⟩
 exact ⟨z,us,r,TupN.new _ _⟩
theorem z0i (h:PA X es t):PE X (.List es pos) (z2Q t):=by
 intro pins s σ H Q I hq
 refine wpAny_List_spliced (thn (h pos pins s σ H _ I hq) fun us s1 ⟨xs,H1,I1,r,z,q⟩=>⟨by rw [<- r.length]; exact z,?_⟩)
 have hf:H1 s1.heap.objs.size=none:=I1.hok.fresh (Nat.le_refl _)
 refine ⟨.ref s1.heap.objs.size,upd H1 s1.heap.objs.size (.lst xs),I1.laid (t':=s1.toks) (fun b u e=>Heap.get?_push_of_some _ e) (Nat.le_refl _) ?_,rfl,q _ hf⟩
 exact ⟨z,us,0,r,Heap.get?_push_size _ rfl⟩
end
noncomputable abbrev Sp:=List V->Hp->VK->XK->Prop
noncomputable abbrev CXT:=List Env->Hp->Shared->XK->Value->Shared->Prop
structure Env0 (P:Program)(w:World)(K:PySem.W.Frag)(mg:Str->Option Value)(base:Heap)(A:Around)(outer:List Env)(s:Shared)(H:Hp):Prop where
 frames:A.frames=some outer
 mod:Mod K mg base
 bs:∀ b o,base.get? b=some o->s.heap.get? b=some o/\H b=none
 bsz:base.objs.size<=s.heap.objs.size
 funs:s.heap.FunFrames base outer
 frf:∀ b∈frs outer,H b=none
 hok:HOk P w H s.heap
 bare:AllBare s.gens
noncomputable def CE (outer:List Env)(P:Program)(w:World)(H:Hp)(s:Shared)(Q:VK)(u:Value)(s':Shared):Prop :=
 ∃ v H',s'.os=s.os/\AllBare s'.gens/\Un (frs outer) [] H H' s.heap s'.heap/\HOk P w H' s'.heap/\RelV v u/\Q v H'
noncomputable def CR (CX:CXT)(outer:List Env)(P:Program)(w:World)(H:Hp)(s:Shared)(Q:VK)(E:XK)(r:Result)(s':Shared):Prop :=
 match r with
 | .ok (.ret u)=>CE outer P w H s Q u s'
 | .ok _=>False
 | .error e=>CX outer H s E e s'
structure FnOk (P:Program)(w:World)(K:PySem.W.Frag)(mg:Str->Option Value)(base:Heap)(CX:CXT)(k:Nat)(f:Addr)(fd:FuncData)(ps:List Str)(sp:Sp):Prop where
 len:∀ vs H Q E,sp vs H Q E->vs.length=ps.length
 run:∀ (A:Around) (outer:List Env) (s:Shared) (H:Hp) (args:Args) (us:List Value) (vs:List V) (Q:VK) (E:XK),Room k A->Env0 P w K mg base A outer s H->BindsTo s fd args (ps.zip us)->Vals vs us->sp vs H Q E ->
  codeAny (model P w) A (.call (.ref f) args) (CR CX outer P w H s Q E) s
theorem FnOk.mono {P:Program}{w:World}{K:PySem.W.Frag}{mg:Str->Option Value}{base:Heap}{CX:CXT}{j k:Nat}{f:Addr}{fd:FuncData}{ps:List Str}{sp:Sp}(F:FnOk P w K mg base CX j f fd ps sp)(h:j<=k) :
  FnOk P w K mg base CX k f fd ps sp:=⟨F.len,fun A outer s H args us vs Q E hr=>F.run A outer s H args us vs Q E (hr.mono h)⟩
theorem Env0.in1 {P:Program}{w:World}{K:PySem.W.Frag}{mg:Str->Option Value}{base:Heap}{A:Around}{outer:List Env}{s:Shared}{H:Hp}(e:Env0 P w K mg base A outer s H) :
  Env0 P w K mg base A.in1 outer s H:=⟨e.frames,e.mod,e.bs,e.bsz,e.funs,e.frf,e.hok,e.bare⟩
section
variable {X:Cx}{pins:List (Addr×Obj)}{σ:St}{H:Hp}{s s':Shared}
theorem Inv.env0 (I:Inv X pins σ H s):Env0 X.prog X.w X.K X.mg X.base X.A X.stack s H :=
 ⟨I.ok.frames,I.ok.mod,I.bs,Nat.le_trans I.ok.bsz I.sz,I.stack,I.stkFree,I.hok,I.bare⟩
theorem Inv.after {Q:VK}{u:Value}(I:Inv X pins σ H s)(h:CE X.stack X.prog X.w H s Q u s'):EP X pins σ Q u s':=by
 obtain ⟨v,H',os,bare,un,hok,r,q⟩:=h
 obtain ⟨hh,g,d,t,os'⟩:=s'
 obtain rfl:os'=s.os:=os
 exact ⟨v,H',I.call (h':=hh) (g':=g) (d':=d) (t':=t) (ch:=[]) un hok bare (fun b z=>absurd z (by simp)),r,q⟩
end
noncomputable def Kq (sp:Sp)(dvs:List V)(E:XK)(t:TA):TE:=fun σ H Q=>t σ H fun vs H1=>sp (vs++dvs) H1 Q E
noncomputable def Binds (K:PySem.W.Frag)(fd:FuncData)(ps:List Str)(ds:List Value):Prop :=
 ∀ (s:Shared) (us:List Value),K.In s.heap->(us++ds).length=ps.length->BindsTo s fd ⟨us,[]⟩ (ps.zip (us++ds))
theorem Binds.all {K:PySem.W.Frag}{fd:FuncData}{ps:List Str}(h:∀ us:List Value,us.length=ps.length->bindArgs fd ⟨us,[]⟩=pure (ps.zip us)):Binds K fd ps []:=fun s us _ hl=>by
 rw [List.append_nil] at hl ⊢
 exact .of_eq (h us hl)
noncomputable def uo (CX:CXT)(X:Cx)(E:XK):Prop:=∀ (pins:List (Addr×Obj)) (σ:St) (H:Hp) (s:Shared) (e:Value) (s':Shared),Inv X pins σ H s->CX X.stack H s E e s'->X.xe e s'
section
variable {X:Cx}{CX:CXT}{k:Nat}{f C:Addr}{fd:FuncData}{ps:List Str}{sp:Sp}{dvs:List V}{ds:List Value}{E:XK}{x m:Str}{p pos apos:Pos}{e o:Expr}{es:List Expr}{ta:TE}{t:TA}
theorem z0w {pins:List (Addr×Obj)}{σ:St}{H:Hp}{s:Shared}{Q:VK}{us:List Value}{vs:List V}(F:FnOk X.prog X.w X.K X.mg X.base CX k f fd ps sp)(hr:Room k X.A)(hb:Binds X.K fd ps ds)(hd:Vals dvs ds)(hx:uo CX X E)
  (I:Inv X pins σ H s) (r:Vals vs us) (h:sp (vs++dvs) H Q E):wpAny (model X.prog X.w) X.A (call (.ref f) us) (EP X pins σ Q) X.xe s:=by
 have r2:Vals (vs++dvs) (us++ds):=r.append hd
 have hl:(us++ds).length=ps.length:=by rw [<- r2.length]; exact F.len _ _ _ _ h
 refine wpAny_call (codeAny_mono (F.run X.A X.stack s H ⟨us,[]⟩ (us++ds) (vs++dvs) Q E hr I.env0 (hb s us I.kIn hl) r2 h) fun r s' hq=>?_)
 cases r with
 | error e=>exact hx pins σ H s e s' I hq
 | ok fl =>
  cases fl with
  | ret u=>exact I.after hq
  | next=>exact False.elim hq
  | brk=>exact False.elim hq
  | cont=>exact False.elim hq
theorem JS (F:FnOk X.prog X.w X.K X.mg X.base CX k f fd ps sp)(hr:Room k X.A)(hg:Gl X x)(hm:X.mg x=some (.ref f))(hk:PySem.W.keepIn X.K (.ref f)=true)(hb:Binds X.K fd ps ds)(hd:Vals dvs ds)(hx:uo CX X E)
  (ha:PA X (e::es) t) (hdb:autoParam ((x==("__debug__":Str))=false) L2.au1._auto_1) (he:autoParam (starEach (e::es) X.env=(false,eval e X.env)::starEach es X.env) L2.au3._auto_1) (hpl:autoParam ((backTo pos (starEach es X.env)).any (·.1)=false) L2.au3._auto_1) :
  PE X (.Call (.Name x p) (e::es) [] pos) (Kq sp dvs E t):=by
 intro pins s σ H Q I h
 refine wpAny_Call_Name_kw (u5 I hg hm ?_ hdb)
 refine PySem.W.callWith_K (h₀:=X.base) I.ok.mod.kin hk (thn (ha pos pins s σ H _ I h) fun us s1 ⟨vs,H1,I1,r,q⟩=>⟨I1.kIn,?_⟩) he hpl
 exact z0w F hr hb hd hx I1 r q
structure Mk (K:PySem.W.Frag)(C f:Addr):Prop where
 makes:PySem.W.makesIn K C=true
 init:PySem.W.findIn K (.ref C) "__init__"=some (some (.ref f))
 fn:PySem.W.isFn K (.ref f)=true
 kp:PySem.W.keepIn K (.ref C)=true
end
section
variable {X:Cx}{CX:CXT}{k:Nat}{f C:Addr}{fd:FuncData}{ps ks:List Str}{sp:Sp}{E:XK}{x m:Str}{p pos apos kpos:Pos}{e o:Expr}{es:List Expr}{kws:List Keyword}{te ta:TE}{t tk:TA}{nm:Option Str}
structure KBinds (K:PySem.W.Frag)(fd:FuncData)(ps ks:List Str)(g:List Value->List Value->List Value)(gV:List V->List V->List V):Prop where
 to:∀ (s:Shared) (us ws:List Value),K.In s.heap->(g us ws).length=ps.length->BindsTo s fd ⟨us,ks.zip ws⟩ (ps.zip (g us ws))
 rel:∀ {vs:List V} {us:List Value} {zs:List V} {ws:List Value},Vals vs us->Vals zs ws->Vals (gV vs zs) (g us ws)
variable {g:List Value->List Value->List Value}{gV:List V->List V->List V}
end
structure FnScope (N P:List Str)(sc:Scope):Prop where
 kind:sc.kind=.function
 co:sc.isCoroutine=false
 gen:sc.isGenerator=false
 nd:N.Nodup
 pre:N.take P.length=P
 par:∀ x∈P,sc.names.lookup x=some .local\/sc.names.lookup x=some .cell
 nofree:∀ y∈sc.names,y.2≠.free
theorem kH {kindOf:Str->Option NameKind}{x:Str}:∀ {binds:List (Str×Value)} {m:Str->Option Value},(∀ v,(x,v)∉binds)->bindL kindOf binds m x=m x
 | [],_,_=>rfl
 | (n,v)::r,m,h=>by
  unfold bindL
  rw [kH fun w hw=>h w (List.mem_cons_of_mem _ hw)]
  split
  ·have:x≠n:=by rintro rfl; exact h v List.mem_cons_self
   simp [this]
  ·rfl
theorem kT {kindOf:Str->Option NameKind}{x:Str}:∀ {binds:List (Str×Value)} {m:Str->Option Value},(∀ v,(x,v)∉binds)->bindC kindOf binds m x=m x
 | [],_,_=>rfl
 | (n,v)::r,m,h=>by
  unfold bindC
  rw [kT fun w hw=>h w (List.mem_cons_of_mem _ hw)]
  split
  ·rfl
  ·have:x≠n:=by rintro rfl; exact h v List.mem_cons_self
   simp [this]
theorem qf {kindOf:Str->Option NameKind}{x:Str}{v:Value}:∀ {P:List Str} {vs:List Value} {i:Nat} {m:Str->Option Value},P.Nodup->P[i]?=some x->vs[i]?=some v->kindOf x=some .local ->
  bindL kindOf (P.zip vs) m x=some v
 | [],_,_,_,_,h,_,_=>by simp at h
 | _::_,[],_,_,_,_,h,_=>by simp at h
 | p::P,w::vs,0,m,nd,h1,h2,hk=>by
  simp at h1 h2; subst h1; subst h2
  show bindL kindOf ((p,w)::P.zip vs) m p=_
  unfold bindL
  rw [kH fun v hv=>(List.nodup_cons.mp nd).1 (List.of_mem_zip hv).1,if_pos hk]
  simp
 | p::P,w::vs,i+1,m,nd,h1,h2,hk=>by
  show bindL kindOf ((p,w)::P.zip vs) m x=_
  unfold bindL
  exact qf (i:=i) (List.nodup_cons.mp nd).2 (by simpa using h1) (by simpa using h2) hk
theorem qj {kindOf:Str->Option NameKind}{x:Str}{v:Value}:∀ {P:List Str} {vs:List Value} {i:Nat} {m:Str->Option Value},P.Nodup->P[i]?=some x->vs[i]?=some v->kindOf x≠some .local ->
  bindC kindOf (P.zip vs) m x=some v
 | [],_,_,_,_,h,_,_=>by simp at h
 | _::_,[],_,_,_,_,h,_=>by simp at h
 | p::P,w::vs,0,m,nd,h1,h2,hk=>by
  simp at h1 h2; subst h1; subst h2
  show bindC kindOf ((p,w)::P.zip vs) m p=_
  unfold bindC
  rw [kT fun v hv=>(List.nodup_cons.mp nd).1 (List.of_mem_zip hv).1,if_neg hk]
  simp
 | p::P,w::vs,i+1,m,nd,h1,h2,hk=>by
  show bindC kindOf ((p,w)::P.zip vs) m x=_
  unfold bindC
  exact qj (i:=i) (List.nodup_cons.mp nd).2 (by simpa using h1) (by simpa using h2) hk
noncomputable def start (N:List Str)(vs:List V):St:=vs.map some++List.replicate (N.length-vs.length) none
noncomputable def yX (CX:CXT)(P:Program)(w:World)(K:PySem.W.Frag)(mg:Str->Option Value)(base:Heap)(N:List Str)(qual:Str)(scope:Scope)(f:Addr)(cd:Value)(A:Around)(outer:List Env)(s:Shared)(H:Hp)(E:XK):Cx where
 prog:=P
 w:=w
 K:=K
 mg:=mg
 base:=base
 A:=A.deeper (envOfC qual scope s.heap.objs.size f cd)
 N:=N
 s₀:=s
 H₀:=H
 env:=envOfC qual scope s.heap.objs.size f cd
 outer:=outer
 stack:=envOfC qual scope s.heap.objs.size f cd::outer
 ex:=[]
 calm:=true
 fn:=fun _=>true
 pn:=[]
 xe:=fun e s'=>wpAny (model P w) (A.deeper (envOfC qual scope s.heap.objs.size f cd)) (leaving (envOfC qual scope s.heap.objs.size f cd) e) (fun _ s''=>CX outer H s E e s'') (fun e' s''=>CX outer H s E e' s'') s'
theorem vH {sc:Scope}{n:Nat}{x:Str}(h:sc.names.lookup x=some .cell):∃ c,(cellsFrom n sc.names []).lookup x=some c:=by
 have q:=PySem.W.cellsFrom_some sc.names n [] (.inl h)
 exact Option.isSome_iff_exists.mp q
theorem kB {CX:CXT}{P:Program}{w:World}{K:PySem.W.Frag}{mg:Str->Option Value}{base:Heap}{N ps:List Str}{qual:Str}{scope:Scope}{f:Addr}{cd:Value}{A:Around}{outer:List Env}{s s1:Shared}{H:Hp}{E:XK}{us:List Value}{vs:List V}
  (S:FnScope N ps scope) (hd:A.handled=none) (e0:Env0 P w K mg base A outer s H) (hl:vs.length=ps.length) (r:Vals vs us)
  (x:InCallC s s.heap.objs.size (bindL (envOfC qual scope s.heap.objs.size f cd).kindOf (ps.zip us) fun _=>none) (cellsFrom (s.heap.objs.size+1) scope.names []) (bindC (envOfC qual scope s.heap.objs.size f cd).kindOf (ps.zip us) fun _=>none) s1) :
  Inv (yX CX P w K mg base N qual scope f cd A outer s H E) [] (start N vs) H s1:=by
 have hpl:ps.length<=N.length:=by have:=congrArg List.length S.pre; rw [List.length_take] at this; omega
 obtain ⟨h1,tk,rfl,hk⟩:=x.done
 have noA:∀ b:Addr,b∉(yX CX P w K mg base N qual scope f cd A outer s H E).ex:=fun b z=>absurd (show b∈([]:List Addr) from z) (by simp)
 refine ⟨⟨e0.mod,S.kind,rfl,rfl,Nat.le_refl _,fun y z c h1 h2=>?_,fun y hy=>?_,fun y c _ h=>?_,fun _=>hd,Around.frames_deeper e0.frames,.inr ⟨rfl,rfl⟩,fun b z=>absurd z (noA b),e0.bs,e0.bsz,fun b _ _=>noA b,fun b z=>absurd z (noA b),e0.funs,e0.frf⟩,
  rfl,e0.bare,Un.kept hk,⟨_,x.toInCall.ns,fun i y v h1 h2 h3=>?_⟩,fun y c h=>⟨_,x.cell y c h⟩,e0.hok.fresh (Nat.le_refl _),fun y c h=>?_,fun p hp=>absurd (show p∈([]:List (Addr×Obj)) from hp) (by simp),e0.hok.kept hk,?_⟩
 ·exact name_of_addr x.apart (PySem.mem_of_lookup h1) (PySem.mem_of_lookup h2)
 ·have hy:scope.names.lookup y=some .cell\/scope.names.lookup y=some .free:=hy
  rcases hy with hy | hy
  ·exact vH hy
  ·exact absurd rfl (S.nofree _ (PySem.mem_of_lookup hy))
 ·exact Nat.le_of_lt (x.above y c (PySem.mem_of_lookup h))
 ·have hi:i<vs.length:=by
   unfold start at h2
   by_cases hi:i<vs.length
   ·exact hi
   ·rw [List.getElem?_append_right (by simpa using hi)] at h2
    rw [List.getElem?_replicate] at h2
    split at h2<;>cases h2
  have ha:vs[i]?=some v:=by
   unfold start at h2
   rw [List.getElem?_append_left (by simpa using hi),List.getElem?_map] at h2
   cases e:vs[i]? with
   | none=>rw [e] at h2; cases h2
   | some a=>rw [e] at h2; cases h2; rfl
  obtain ⟨u,hu,rv⟩:=r.get ha
  have hp:ps[i]?=some y:=by
   rw [<- S.pre,List.getElem?_take_of_lt (by omega)]; exact h1
  have ndP:ps.Nodup:=by rw [<- S.pre]; exact S.nd.sublist (List.take_sublist _ _)
  refine ⟨u,rv,?_⟩
  rcases S.par y (List.mem_of_getElem? hp) with k | k
  ·exact .inl ⟨k,qf ndP hp hu k⟩
  ·obtain ⟨c,e⟩:=vH (n:=s.heap.objs.size+1) k
   refine .inr ⟨.inl k,c,e,?_⟩
   have q:=x.cell y c e
   rw [qj ndP hp hu (by show scope.names.lookup y≠_; rw [k]; decide)] at q
   exact q
 ·exact e0.hok.fresh (Nat.le_of_lt (x.above y c (PySem.mem_of_lookup h)))
 ·unfold start
  show _=N.length
  rw [List.length_append,List.length_map,List.length_replicate]
  omega
theorem Ut {CX:CXT}{P:Program}{w:World}{K:PySem.W.Frag}{mg:Str->Option Value}{base:Heap}{k:Nat}{f:Addr}{name qual:Str}{params:Arguments}{body:List Stmt}{scope:Scope}{dV kV doc pm cdv ct oc:Value}{an od:Option Addr}
  {osl:Array (Option Value)} {N ps:List Str} {sp:Sp} (lk:K.lookup f=some ⟨oc,od,.func (PySem.W.fnOf name qual params body scope dV kV doc pm an cdv ct),osl⟩) (hcd:PySem.W.codeIn K cdv qual=true) (S:FnScope N ps scope)
  (len:∀ vs H Q E,sp vs H Q E->vs.length=ps.length)
  (hbody:∀ (A:Around) (outer:List Env) (s:Shared) (H:Hp) (vs:List V) (Q:VK) (E:XK),Room k (A.deeper (envOfC qual scope s.heap.objs.size f cdv))->sp vs H Q E ->
   ∃ t,PSs (yX CX P w K mg base N qual scope f cdv A outer s H E) body t/\t { nx:=fun _ H'=>Q .non H',rt:=Q } (start N vs) H) :
  FnOk P w K mg base CX (k+1) f (PySem.W.fnOf name qual params body scope dV kV doc pm an cdv ct) ps sp:=by
 refine ⟨len,fun A outer s H args us vs Q E hr e0 hb r hsp=>?_⟩
 have hl:=len _ _ _ _ hsp
 have KX:K.In s.heap:=e0.mod.kin.keeps fun b o e=>(e0.bs b o e).1
 have lim:s.heap.NoLimit:=e0.mod.nolimit.keeps fun b o e=>(e0.bs b o e).1
 have hkind:∀ y∈ps.zip us,scope.names.lookup y.1=some .local\/(scope.names.lookup y.1=some .cell/\((cellsFrom (s.heap.objs.size+1) scope.names []).lookup y.1).isSome=true):=fun ⟨n,v⟩ hy=>by
  rcases S.par n (List.of_mem_zip hy).1 with q | q
  ·exact .inl q
  ·exact .inr ⟨q,PySem.W.cellsFrom_some _ _ _ (.inl q)⟩
 refine codeAny_call_function hr.depth (KX _ _ lk) rfl S.co S.gen rfl (PySem.W.codeRec_of KX hcd) (hb _ _ _ _ ?_)
 refine wpAny_newFunctionEnv_cells S.kind hkind fun env he s1 x=>?_
 subst he
 refine ⟨lim.keeps x.toInCall.keep,codeAny_func ?_⟩
 obtain ⟨t,ht,hq⟩:=hbody A outer s H vs Q E (hr.deeper _) hsp
 have I:Inv (yX CX P w K mg base N qual scope f cdv A outer s H E) [] (start N vs) H s1:=kB S hr.hd e0 hl r x
 refine wpAny_mono (ht [] s1 (start N vs) H _ I hq) (fun fl s' hs=>?_) fun e s' hs=>hs
 have fin:∀ {σ':St} {H':Hp} {v:V} {u:Value},Inv (yX CX P w K mg base N qual scope f cdv A outer s H E) [] σ' H' s'->RelV v u->Q v H'->CE outer P w H s Q u s' :=
  fun {σ' H' v u} J rv q=>⟨v,H',J.os,J.bare,J.base,J.hok,rv,q⟩
 cases fl with
 | ret u =>
  obtain ⟨v,σ',H',J,rv,q⟩:=hs
  exact fin J rv q
 | next =>
  obtain ⟨σ',H',J,q⟩:=hs
  exact fin (v:=V.non) (u:=Value.none) J rfl q
 | brk =>
  obtain ⟨_,_,_,q⟩:=hs
  exact False.elim q
 | cont =>
  obtain ⟨_,_,_,q⟩:=hs
  exact False.elim q
open PySem PySem.Spec PyProof.Rows
section
variable {X:Cx}{x:Str}{p pos:Pos}{e:Expr}{es:List Expr}{t:TA}{id T:String}{r:List V->Hp->VK->Prop}
noncomputable def tCB (r:List V->Hp->VK->Prop)(t:TA):TE:=fun σ H Q=>t σ H fun vs H1=>r vs H1 Q
theorem vK (hc:CallR X (.builtin id) r)(hg:Gl X x)(hm:X.mg x=none)(hv:bootBuiltins x=some (.builtin id))(ha:PA X (e::es) t)(hn:autoParam (x≠"__name__") L2.au1._auto_1)(hdb:autoParam ((x==("__debug__":Str))=false) L2.au1._auto_1)
  (he:autoParam (starEach (e::es) X.env=(false,eval e X.env)::starEach es X.env) L2.au3._auto_1) (hpl:autoParam ((backTo pos (starEach es X.env)).any (·.1)=false) L2.au3._auto_1):PE X (.Call (.Name x p) (e::es) [] pos) (tCB r t):=by
 intro pins s σ H Q I h
 refine wpAny_Call_Name_kw (jH I hg hm hv ?_ hn hdb)
 exact PyProof.Rows.callWith_builtin1 (thn (ha pos pins s σ H _ I h) fun us s1 ⟨vs,H1,I1,r1,q1⟩=>hc pins s1 σ H1 vs us Q I1 r1 q1) he hpl
theorem ky (hc:CallR X (.type T) r)(hg:Gl X x)(hm:X.mg x=none)(hv:bootBuiltins x=some (.type T))(ha:PA X (e::es) t)(hn:autoParam (x≠"__name__") L2.au1._auto_1)(hdb:autoParam ((x==("__debug__":Str))=false) L2.au1._auto_1)
  (he:autoParam (starEach (e::es) X.env=(false,eval e X.env)::starEach es X.env) L2.au3._auto_1) (hpl:autoParam ((backTo pos (starEach es X.env)).any (·.1)=false) L2.au3._auto_1):PE X (.Call (.Name x p) (e::es) [] pos) (tCB r t):=by
 intro pins s σ H Q I h
 refine wpAny_Call_Name_kw (jH I hg hm hv ?_ hn hdb)
 exact PyProof.Rows.callWith_type1 (thn (ha pos pins s σ H _ I h) fun us s1 ⟨vs,H1,I1,r1,q1⟩=>hc pins s1 σ H1 vs us Q I1 r1 q1) he hpl
end
end L2
namespace HT
open PySem PyProof.Rows
section
open PySem.SeqAt
open PySem.AutoSeq1 (wpAny_loadPart')
open PySem.MeetsSeq PySem.MeetsSeq2 PySem.MeetsSeq3
end
section
variable {prog:Program}{w:World}{A:Around}{E:Value->Shared->Prop}{s:Shared}
theorem cat_tup {t b:Addr}{vs ws:List Value}{Q:Value->Shared->Prop}(ht:IsTup s.heap t vs.toArray)(hb:IsTup s.heap b ws.toArray)(hv:vs≠[])
  (h1:ws=[]->Q (.ref t) s) (h2:ws≠[]->Q (.ref s.heap.objs.size) { s with heap:=s.heap.push { cls:=.type "tuple",data:=.seq (vs++ws).toArray } })
  (hsz:vs.length+ws.length<=sizeLine):wpAny (model prog w) A (binaryOp .Add (.ref t) (.ref b)) Q E s:=by
 obtain ⟨⟨cls,dd,data,sl⟩,ho,hc,n,hd⟩:=id ht
 obtain ⟨⟨cls2,dd2,data2,sl2⟩,ho2,hc2,n2,hd2⟩:=id hb
 simp only at hc hd hc2 hd2
 subst hc hd hc2 hd2
 have e:vs.toArray++ws.toArray=(vs++ws).toArray:=by simp
 by_cases hw:ws=[]
 ·exact concat_meets ⟨_,ho,rfl⟩ ⟨_,ho2,rfl⟩ noFill_tuple_add seq_tuple_add PySem.F.slot_tuple_add PySem.F.entry_tuple_add (PySem.F.args_tuple_add_2 _ _)
   (tuple_addW1 t b vs.toArray ws.toArray n n2 dd dd2 sl sl2 (by simpa using hv) (by simp [hw])) ⟨ho,ho2,h1 hw⟩
 ·refine concat_meets ⟨_,ho,rfl⟩ ⟨_,ho2,rfl⟩ noFill_tuple_add seq_tuple_add PySem.F.slot_tuple_add PySem.F.entry_tuple_add (PySem.F.args_tuple_add_2 _ _)
   (tuple_addW2 t b vs.toArray ws.toArray n n2 dd dd2 sl sl2 (by simpa using hv) (by simpa using hw) (by rw [List.size_toArray,List.size_toArray]; exact hsz)) ⟨ho,ho2,?_⟩
  rw [e]
  exact h2 hw
noncomputable def sIx (n d:Nat):Option Int->Nat
 | none=>d
 | some v=>if v<0 then (v+(n:Int)).toNat else min v.toNat n
theorem sIx_none (n d:Nat):sIx n d none=d:=rfl
theorem sIx_nat (n d k:Nat):sIx n d (some (k:Int))=min k n:=by
 show (if (k:Int)<0 then ((k:Int)+(n:Int)).toNat else min (k:Int).toNat n)=min k n
 rw [if_neg (by omega),Int.toNat_natCast]
theorem KU (n d:Nat)(hd:d<=n)(o:Option Int):sIx n d o<=n:=by
 cases o with
 | none=>exact hd
 | some v =>
  show (if v<0 then (v+(n:Int)).toNat else min v.toNat n)<=n
  by_cases hv:v<0
  ·rw [if_pos hv]; omega
  ·rw [if_neg hv]; exact Nat.min_le_right _ _
theorem Ww (v:Int)(n d:Nat):(if v<0 then max (v+(n:Int)) 0 else min v (n:Int))=((sIx n d (some v):Nat):Int):=by
 show (if v<0 then max (v+(n:Int)) 0 else min v (n:Int))=(((if v<0 then (v+(n:Int)).toNat else min v.toNat n):Nat):Int)
 by_cases hv:v<0
 ·simp only [if_pos hv]; omega
 ·simp only [if_neg hv]; omega
theorem Xq (lo hi:Option Int)(n:Nat):Builtin.Slice.sliceAdjust lo hi 1 (n:Int)=(((sIx n 0 lo:Nat):Int),((sIx n n hi:Nat):Int)):=by
 have h1:¬ ((1:Int)<0):=by omega
 unfold Builtin.Slice.sliceAdjust
 simp only [h1,if_false]
 refine Prod.ext ?_ ?_
 ·cases lo with
  | none=>rfl
  | some v=>exact Ww v n 0
 ·cases hi with
  | none=>rfl
  | some v=>exact Ww v n n
theorem X7 (i j:Nat):Builtin.Slice.slicePlaces (i:Int) (j:Int) 1=j-i:=by
 unfold Builtin.Slice.slicePlaces
 have h1:(1:Int)>0:=by omega
 simp only [h1,if_true,Int.ediv_one]
 split<;>omega
theorem jw {v:Value}{o:Option Int}{Q:Option Int->Shared->Prop}(p:IsPart v o)(h:Q o s):wpAny (model prog w) A (Builtin.Slice.slicePartIndex v) Q E s:=by
 cases p with
 | none=>exact slicePart_none h
 | int i t=>exact slicePart_int h
theorem qq {sl:Addr}{vl vu:Value}{lo hi:Option Int}{n:Nat}{Q:Int×Int×Nat->Shared->Prop}(hs:s.heap.IsSliceOf sl vl vu .none)(pl:IsPart vl lo)(pu:IsPart vu hi)
  (h:Q (((sIx n 0 lo:Nat):Int),1,sIx n n hi-sIx n 0 lo) s):wpAny (model prog w) A (Builtin.Slice.sliceApplied (.ref sl) (pure (n:Int))) Q E s:=by
 obtain ⟨os,hos,hcs,hds⟩:=id hs
 unfold Builtin.Slice.sliceApplied Builtin.Slice.sliceFields
 refine wpAny_bind (wpAny_bind (wpAny_field hos hds (x:=vl) rfl (wpAny_bind (wpAny_field hos hds (x:=vu) rfl (wpAny_bind (wpAny_field hos hds (x:=.none) rfl (wpAny_pure ?_)))))))
 refine wpAny_bind (slicePart_none ?_)
 show wpAny _ _ (if ((1:Int)==0)=true then _ else _) _ _ s
 rw [if_neg (by decide)]
 refine wpAny_bind (jw pl (wpAny_bind (jw pu (wpAny_bind (wpAny_pure ?_)))))
 show wpAny _ _ (match Builtin.Slice.sliceAdjust lo hi 1 (n:Int) with | (lo,hi)=>pure (lo,(1:Int),Builtin.Slice.slicePlaces lo hi 1)) _ _ s
 rw [Xq lo hi n]
 show wpAny _ _ (pure (((sIx n 0 lo:Nat):Int),(1:Int),Builtin.Slice.slicePlaces ((sIx n 0 lo:Nat):Int) ((sIx n n hi:Nat):Int) 1)) _ _ s
 rw [X7]
 exact wpAny_pure h
theorem UE (xs:Array Value)(i k:Nat):((List.range k).filterMap fun (m:Nat)=>xs[((i:Int)+(m:Int)*1).toNat]?).toArray=((xs.toList.drop i).take k).toArray:=by
 have e:(fun (m:Nat)=>xs[((i:Int)+(m:Int)*1).toNat]?)=fun m=>xs[i+m]?:=by
  funext m
  have:((i:Int)+(m:Int)*1).toNat=i+m:=by omega
  rw [this]
 rw [e]
 have:=pick_run xs i k
 rw [List.filterMap_map] at this
 have e2:((fun x=>xs[x]?) ∘ fun x=>i+x)=fun m=>xs[i+m]?:=rfl
 rw [e2] at this
 rw [this]
theorem getItem_tuple_cut {t sl:Addr}{items:Array Value}{vl vu:Value}{lo hi:Option Int}{Q:Value->Shared->Prop}(ht:IsTup s.heap t items)(hs:s.heap.IsSliceOf sl vl vu .none)(pl:IsPart vl lo)(pu:IsPart vu hi)
  (hw:¬ (sIx items.size 0 lo=0/\sIx items.size items.size hi=items.size))
  (h:Q (.ref s.heap.objs.size) { s with heap:=s.heap.push { cls:=.type "tuple",data:=.seq ((items.toList.drop (sIx items.size 0 lo)).take (sIx items.size items.size hi-sIx items.size 0 lo)).toArray } })
  (hsz:items.size<=sizeLine):wpAny (model prog w) A (getItem (.ref t) (.ref sl)) Q E s:=by
 have htake:sizeOk (.seq ((items.toList.drop (sIx items.size 0 lo)).take (sIx items.size items.size hi-sIx items.size 0 lo)).toArray):=by
  show ((items.toList.drop (sIx items.size 0 lo)).take (sIx items.size items.size hi-sIx items.size 0 lo)).toArray.size<=sizeLine
  rw [List.size_toArray,List.length_take,List.length_drop,Array.length_toList]
  omega
 have hj:sIx items.size items.size hi<=items.size:=KU _ _ (Nat.le_refl _) hi
 obtain ⟨os,hos,hcs,hds⟩:=id hs
 have hTs:s.TypeIs (.ref sl) "slice":=⟨os,hos,hcs⟩
 unfold getItem
 try with_reducible refine wpAny_holding ?_
 first | refine wpAny_bind (wpAny_pure ?_) | skip
 refine wpAny_bind (wpAny_sequenceKey ht.typeIs (by decide) ?_)
 refine wpAny_bind (wpAny_callSpecial?_slot (name:=Str.ofString "__getitem__") ht.typeIs PyProof.Rows.slot_tuple_getitem
  (wpAny_call_entry PyProof.Rows.slot_tuple_getitem ht.typeIs entry_tuple_getitem ?_ (args_tuple_getitem _ _)))
 show wpAny _ _ (Builtin.Tuple.tupleItemsOf (.ref t) >>= _) _ _ s
 refine wpAny_bind (tupleItemsOf_ ht ?_)
 refine wpAny_bind (wpAny_typeOf hTs ?_)
 rw [if_pos (by decide)]
 refine wpAny_bind (qq hs pl pu ?_)
 have hno:¬ ((((sIx items.size 0 lo:Nat):Int)==0&&(1:Int)==1&&(sIx items.size items.size hi-sIx items.size 0 lo)==items.size)=true):=by
  intro q
  rw [Bool.and_eq_true,Bool.and_eq_true] at q
  have q1:((sIx items.size 0 lo:Nat):Int)=0:=eq_of_beq q.1.1
  have q2:sIx items.size items.size hi-sIx items.size 0 lo=items.size:=eq_of_beq q.2
  exact hw ⟨by omega,by omega⟩
 show wpAny _ _ (if (((sIx items.size 0 lo:Nat):Int)==0&&(1:Int)==1&&(sIx items.size items.size hi-sIx items.size 0 lo)==items.size)=true then _ else _) _ _ s
 rw [if_neg hno,UE]
 first
  | exact wpAny_bind (m:=Builtin.Tuple.tupleExact _) (wpAny_newObj_type (wpAny_pure ⟨_,rfl,wpAny_pure h⟩) htake)
  | exact wpAny_bind (m:=Builtin.Tuple.tupleExact _) (wpAny_newObj_type (wpAny_bind (wpAny_pure (wpAny_pure ⟨_,rfl,wpAny_pure h⟩))) htake)
  | exact wpAny_bind (wpAny_bind (m:=Builtin.Tuple.tupleExact _) (wpAny_newObj_type (wpAny_pure (wpAny_pure ⟨_,rfl,wpAny_pure h⟩)) htake))
  | exact wpAny_bind (wpAny_bind (m:=Builtin.Tuple.tupleExact _) (wpAny_newObj_type (wpAny_pure ⟨_,rfl,wpAny_pure h⟩) htake))
end
end HT
namespace L2
open PySem PySem.Spec PyProof.Rows
noncomputable abbrev TO:=St->Hp->(Option Int->Hp->Prop)->Prop
noncomputable def PO (X:Cx)(e:Option Expr)(t:TO):Prop :=
 ∀ (pins:List (Addr×Obj)) (s:Shared) (σ:St) (H:Hp) (Q:Option Int->Hp->Prop),Inv X pins σ H s->t σ H Q ->
  wpAny (model X.prog X.w) X.A (evalPart e X.env) (fun u s'=>∃ o H',Inv X pins σ H' s'/\IsPart u o/\Q o H') X.xe s
noncomputable def WB:TO:=fun _ H Q=>Q none H
noncomputable def KO (t:TE):TO:=fun σ H Q=>t σ H fun x H1=>∃ i,x=.int i/\Q (some i) H1
theorem jQ {ns:List Int}:∀ {us:List Value},Vals (ns.map V.int) us->IntsAre us ns:=by
 induction ns with
 | nil=>intro us r; rw [List.map_nil] at r; cases r; exact .nil
 | cons n ns ih =>
  intro us r
  rw [List.map_cons] at r
  cases r with
  | cons r1 r2 =>
   obtain ⟨t,e⟩:=r1
   subst e
   exact .cons n t (ih r2)
section
variable {X:Cx}{e:Expr}{te:TE}{lo hi:Option Expr}{tl th:TO}{pos p2:Pos}
theorem JP:PO X none WB:=by
 intro pins s σ H Q I h
 rw [evalPart_none]
 exact wpAny_pure ⟨none,H,I,.none,h⟩
theorem JU (h:PE X e te):PO X (some e) (KO te):=by
 intro pins s σ H Q I hw
 rw [evalPart_some]
 refine thn (h pins s σ H _ I hw) fun u s1 ⟨x,H1,I1,r1,q1⟩=>?_
 obtain ⟨i,rfl,q⟩:=q1
 obtain ⟨t,rfl⟩:=r1
 exact ⟨some i,H1,I1,.int i t,q⟩
noncomputable def SlR (X:Cx)(r:V->Option Int->Option Int->Hp->VK->Prop):Prop :=
 ∀ (pins:List (Addr×Obj)) (s:Shared) (σ:St) (H:Hp) (x:V) (v vl vu:Value) (lo hi:Option Int) (sl:Addr) (Q:VK),Inv X pins σ H s->RelV x v->s.heap.IsSliceOf sl vl vu .none->IsPart vl lo->IsPart vu hi->r x lo hi H Q ->
  ∃ T id,typeLookup (.type T) "__getitem__"=pure (some (.builtin id))/\s.TypeIs v T/\wpAny (model X.prog X.w) X.A (getItem v (.ref sl)) (EP X pins σ Q) X.xe s
theorem SlR.or {r r':V->Option Int->Option Int->Hp->VK->Prop}(h:SlR X r)(h':SlR X r'):SlR X (fun x lo hi H Q=>r x lo hi H Q\/r' x lo hi H Q):=by
 intro pins s σ H x v vl vu lo hi sl Q I rx hs pl pu q
 rcases q with q | q
 ·exact h pins s σ H x v vl vu lo hi sl Q I rx hs pl pu q
 ·exact h' pins s σ H x v vl vu lo hi sl Q I rx hs pl pu q
noncomputable def tSl (r:V->Option Int->Option Int->Hp->VK->Prop)(te:TE)(tl th:TO):TE:=fun σ H Q=>te σ H fun x H1=>tl σ H1 fun l H2=>th σ H2 fun u H3=>r x l u H3 Q
theorem UG {r:V->Option Int->Option Int->Hp->VK->Prop}(hr:SlR X r)(he:PE X e te)(hl:PO X lo tl)(hu:PO X hi th):PE X (.Subscript e (.Slice lo hi none p2) pos) (tSl r te tl th):=by
 intro pins s σ H Q I h
 refine Subscript_ (thn (he pins s σ H _ I h) fun v s1 ⟨x,H1,I1,r1,q1⟩=>?_)
 refine wpAny_Slice (thn (hl pins s1 σ H1 _ I1 q1) fun vl s2 ⟨l,H2,I2,pl,q2⟩=>thn (hu pins s2 σ H2 _ I2 q2) fun vu s3 ⟨u,H3,I3,pu,q3⟩=>?_)
 rw [evalPart_none]
 refine wpAny_pure ?_
 have I4:Inv X pins σ H3 { s3 with heap:=s3.heap.push { cls:=.type "slice",data:=.fields #[vl,vu,.none] } }:=I3.kept (t':=s3.toks) fun b ob q=>Heap.get?_push_of_some _ q
 obtain ⟨T,id,hT,ht,hg⟩:=hr pins { s3 with heap:=s3.heap.push { cls:=.type "slice",data:=.fields #[vl,vu,.none] } } σ H3 x v vl vu l u s3.heap.objs.size Q I4 r1 (Heap.IsSliceOf.new ..) pl pu q3
 show wpAny (model X.prog X.w) X.A (subscriptTail e (.Slice lo hi none p2) v (.ref s3.heap.objs.size)) (EP X pins σ Q) X.xe { s3 with heap:=s3.heap.push { cls:=.type "slice",data:=.fields #[vl,vu,.none] } }
 exact tail_any (ops:=[.ref s3.heap.objs.size,v]) ht hT hg (by with_unfolding_all rfl)
noncomputable def Yz (xs:List V)(lo hi:Option Int):List V:=(xs.drop (HT.sIx xs.length 0 lo)).take (HT.sIx xs.length xs.length hi-HT.sIx xs.length 0 lo)
theorem qF (xs:List V)(lo hi:Option Int):(Yz xs lo hi).length<=xs.length:=by
 unfold Yz
 rw [List.length_take,List.length_drop]
 omega
noncomputable def z35 (K:PySem.W.Frag):V->Option Int->Option Int->Hp->VK->Prop:=fun x lo hi H Q=>∃ a xs,x=.ref a/\SqT K H a xs /\
 ¬ (HT.sIx xs.length 0 lo=0/\HT.sIx xs.length xs.length hi=xs.length)/\∀ p,H p=none->Q (.ref p) (upd H p (.tup (Yz xs lo hi)))
theorem z0y:SlR X (z35 X.K):=by
 intro pins s σ H x v vl vu lo hi sl Q I rx hs pl pu h
 obtain ⟨a,xs,rfl,hx,hw,q⟩:=h
 cases rx
 obtain ⟨its,r,ht,hz⟩:=I.tuple hx
 have hlen:its.toArray.size=xs.length:=by rw [List.size_toArray]; exact r.length.symm
 refine ⟨"tuple",_,PyProof.Rows.slot_tuple_getitem.lookup,ht.typeIs,?_⟩
 refine HT.getItem_tuple_cut ht hs pl pu (by rw [hlen]; exact hw) ?_ (by rw [hlen]; exact hz)
 rw [hlen]
 refine ⟨.ref s.heap.objs.size,_,I.laid (t':=s.toks) (o:=.tup (Yz xs lo hi)) (fun b ob q=>Heap.get?_push_of_some _ q) (Nat.le_refl _) ?_,rfl,q _ (I.hok.fresh (Nat.le_refl _))⟩
 exact ⟨Nat.le_trans (qF xs lo hi) hz,_,(r.drop (HT.sIx xs.length 0 lo)).take (HT.sIx xs.length xs.length hi-HT.sIx xs.length 0 lo),TupN.new _ _⟩
noncomputable def Kz (K:PySem.W.Frag):R2:=fun x y H Q=>∃ a b xs ys,x=.ref a/\y=.ref b/\SqT K H a xs/\SqT K H b ys/\xs≠[]/\xs.length+ys.length<=sizeLine /\
 (ys=[]->Q (.ref a) H)/\(ys≠[]->∀ p,H p=none->Q (.ref p) (upd H p (.tup (xs++ys))))
theorem Vals.nil_iff {xs:List V}{us:List Value}(r:Vals xs us):us=[]↔xs=[]:=by
 cases r with
 | nil=>simp
 | cons _ _=>simp
theorem JK:OpR X (binaryOp .Add) (Kz X.K):=by
 intro pins s σ H x y v u Q I rx ry h
 obtain ⟨a,b,xs,ys,rfl,rfl,ha,hb,hx,hz,q1,q2⟩:=h
 cases rx
 cases ry
 obtain ⟨its,r1,p1,_⟩:=I.tuple ha
 obtain ⟨its2,r2,p2,_⟩:=I.tuple hb
 refine HT.cat_tup p1 p2 (fun z=>hx (r1.nil_iff.mp z)) (fun z=>⟨.ref a,H,I,rfl,q1 (r2.nil_iff.mp z)⟩) (fun z=>?_) (by rw [<- r1.length,<- r2.length]; exact hz)
 refine ⟨.ref s.heap.objs.size,_,I.laid (t':=s.toks) (o:=.tup (xs++ys)) (fun b ob q=>Heap.get?_push_of_some _ q) (Nat.le_refl _) ?_,rfl,q2 (fun w=>z (r2.nil_iff.mpr w)) _ (I.hok.fresh (Nat.le_refl _))⟩
 exact ⟨by rw [List.length_append]; exact hz,_,r1.append r2,TupN.new _ _⟩
end
open PySem PySem.Spec PyProof.Rows
noncomputable def ixN (n:Nat)(i:Int):Option Nat:=if 0<=i then (if i<n then some i.toNat else none) else if -(n:Int)<=i then some (i+n).toNat else none
noncomputable def atI {α:Type}(xs:List α)(i:Int):Option α:=(ixN xs.length i).bind fun j=>xs[j]?
theorem j6 {n:Nat}{i:Int}{j:Nat}(h:ixN n i=some j):seqIndex? i n=some j/\j<n/\-(n:Int)<=i/\i<n:=by
 unfold ixN at h
 by_cases h0:0<=i
 ·rw [if_pos h0] at h
  by_cases h1:i<n
  ·rw [if_pos h1] at h
   have e:i.toNat=j:=Option.some.inj h
   exact ⟨by rw [seqIndex_of h0 h1,e],by omega,by omega,h1⟩
  ·rw [if_neg h1] at h; cases h
 ·rw [if_neg h0] at h
  by_cases h1:-(n:Int)<=i
  ·rw [if_pos h1] at h
   have e:(i+n).toNat=j:=Option.some.inj h
   exact ⟨by rw [seqIndex_neg (by omega) h1,e],by omega,h1,by omega⟩
  ·rw [if_neg h1] at h; cases h
theorem Z6 {α:Type}{xs:List α}{i:Int}{v:α}(h:atI xs i=some v):∃ j,seqIndex? i xs.length=some j/\xs[j]?=some v/\j<xs.length/\-(xs.length:Int)<=i/\i<xs.length:=by
 unfold atI at h
 cases e:ixN xs.length i with
 | none=>rw [e] at h; cases h
 | some j =>
  rw [e] at h
  obtain ⟨h1,h2,h3,h4⟩:=j6 e
  exact ⟨j,h1,h,h2,h3,h4⟩
theorem vX {α:Type}{xs:List α}{j:Nat}{v:α}(h:xs[j]?=some v):atI xs (j:Int)=some v:=by
 have hj:j<xs.length:=(List.getElem?_eq_some_iff.mp h).1
 have e:ixN xs.length (j:Int)=some j:=by
  unfold ixN
  rw [if_pos (by omega),if_pos (by omega)]; simp
 unfold atI; rw [e]; exact h
noncomputable def Zv (b:Expr):Prop:=∀ o i,subscripted b false o i=operate [o,i] (getItem o i)
noncomputable def IxR (X:Cx)(r:R2):Prop :=
 ∀ (value slice:Expr) (pins:List (Addr×Obj)) (s:Shared) (σ:St) (H:Hp) (x y:V) (v u:Value) (Q:VK),Inv X pins σ H s->RelV x v->RelV y u->r x y H Q ->
  subscripted slice false v u=operate [v,u] (getItem v u)->wpAny (model X.prog X.w) X.A (subscriptTail value slice v u) (EP X pins σ Q) X.xe s
noncomputable def MtR (X:Cx)(id:String)(r:V->List V->Hp->VK->Prop):Prop :=
 ∀ (pins:List (Addr×Obj)) (s:Shared) (σ:St) (H:Hp) (x:V) (xs:List V) (v:Value) (us:List Value) (Q:VK),Inv X pins σ H s->RelV x v->Vals xs us->r x xs H Q ->
  wpAny (model X.prog X.w) X.A (call (.builtin id) (v::us)) (EP X pins σ Q) X.xe s
section
variable {X:Cx}{a b:Expr}{ta tb:TE}{pos:Pos}
theorem IxR.or {r r':R2}(h:IxR X r)(h':IxR X r'):IxR X (fun x y H Q=>r x y H Q\/r' x y H Q):=by
 intro value slice pins s σ H x y v u Q I rx ry q hs
 rcases q with q | q
 ·exact h value slice pins s σ H x y v u Q I rx ry q hs
 ·exact h' value slice pins s σ H x y v u Q I rx ry q hs
theorem MtR.or {id:String}{r r':V->List V->Hp->VK->Prop}(h:MtR X id r)(h':MtR X id r'):MtR X id (fun x xs H Q=>r x xs H Q\/r' x xs H Q):=by
 intro pins s σ H x xs v us Q I rx rs q
 rcases q with q | q
 ·exact h pins s σ H x xs v us Q I rx rs q
 ·exact h' pins s σ H x xs v us Q I rx rs q
theorem K9 {r:R2}(hr:IxR X r)(ha:PE X a ta)(hb:PE X b tb)(hs:Zv b):PE X (.Subscript a b pos) (tOp r ta tb):=by
 intro pins s σ H Q I h
 exact Subscript_ (z0O ha hb I h fun v u s2 x y H2 I2 rx ry q=>hr a b pins s2 σ H2 x y v u Q I2 rx ry q (hs _ _))
noncomputable def z1G (K:PySem.W.Frag):R2:=fun x y H Q=>∃ p xs i v,x=.ref p/\y=.int i/\SqL K H p xs/\atI xs i=some v/\Q v H
noncomputable def z2C (K:PySem.W.Frag):R2:=fun x y H Q=>∃ p xs i v,x=.ref p/\y=.int i/\SqT K H p xs/\atI xs i=some v/\Q v H
noncomputable def z2p:R2:=fun x y H Q=>∃ z i c,x=.str z/\y=.int i/\z.length<=sizeLine/\atI z.cps.toList i=some c/\Q (.str ⟨#[c]⟩) H
theorem ix_list:IxR X (z1G X.K):=by
 intro value slice pins s σ H x y v u Q I rx ry h hs
 obtain ⟨p,xs,i,z,rfl,rfl,hq,he,q⟩:=h
 cases rx
 obtain ⟨t,rfl⟩:=ry
 obtain ⟨its,r,pl,hz⟩:=I.list hq
 obtain ⟨j,h1,h2,h3,h4,h5⟩:=Z6 he
 obtain ⟨w,ew,rw'⟩:=r.get h2
 have hl:=r.length
 have hn:=qB
 have fin:EP X pins σ Q w s:=⟨z,H,I,rw',q⟩
 by_cases h0:0<=i
 ·have hj:i.toNat=j:=by
   rw [seqIndex_of h0 h5] at h1
   exact Option.some.inj h1
  exact item_listR pl.isList h0 (by omega) (by rw [hj]; simpa using ew) fin hs
 ·have hj:(i+(its.toArray.size:Int)).toNat=j:=by
   rw [seqIndex_neg (by omega) h4] at h1
   rw [List.size_toArray,<- hl]
   exact Option.some.inj h1
  exact subscriptTail_builtinR (x:=w) pl.isList.typeIs slot_list_getitem.lookup
   (wpAny_getItem_list_neg (Q:=fun r s'=>r=w/\EP X pins σ Q r s') pl.isList (by omega) (by rw [List.size_toArray]<;>omega) (by omega) (by rw [hj]; simpa using ew) ⟨rfl,fin⟩) hs
theorem ix_tup:IxR X (z2C X.K):=by
 intro value slice pins s σ H x y v u Q I rx ry h hs
 obtain ⟨p,xs,i,z,rfl,rfl,hq,he,q⟩:=h
 cases rx
 obtain ⟨t,rfl⟩:=ry
 obtain ⟨its,r,pl,hz⟩:=I.tuple hq
 obtain ⟨j,h1,h2,h3,h4,h5⟩:=Z6 he
 obtain ⟨w,ew,rw'⟩:=r.get h2
 have hl:=r.length
 have hn:=qB
 have fin:EP X pins σ Q w s:=⟨z,H,I,rw',q⟩
 exact subscriptTail_builtinR (x:=w) pl.typeIs slot_tuple_getitem.lookup
  (getItem_tuple (j:=j) (Q:=fun r s'=>r=w/\EP X pins σ Q r s') pl (by omega) (by omega) (by rw [List.size_toArray,<- hl]; exact h1) (by simpa using ew) ⟨rfl,fin⟩) hs
theorem z0W:IxR X z2p:=by
 intro value slice pins s σ H x y v u Q I rx ry h hs
 obtain ⟨z,i,c,rfl,rfl,hz,he,q⟩:=h
 obtain ⟨t,rfl⟩:=rx
 obtain ⟨t',rfl⟩:=ry
 obtain ⟨j,h1,h2,h3,h4,h5⟩:=Z6 he
 have hl:z.cps.toList.length=z.length:=by simp [Str.length]
 rw [hl] at h1 h4 h5
 have hn:=qB
 exact tail_any (typeIs_str s z t) slot_str_getitem.lookup (getItem_str (c:=c) (by
  have e1:decide (i < -(2 ^ 63:Int))=false:=decide_eq_false (by omega)
  have e2:decide (i>=2 ^ 63)=false:=decide_eq_false (by omega)
  rw [e1,e2,Bool.or_false]) (by rw [h1]; simpa using h2) ⟨.str ⟨#[c]⟩,H,I.tok _,⟨_,rfl⟩,q⟩) hs
noncomputable def rIx (K:PySem.W.Frag):R2:=fun x y H Q=>z1G K x y H Q\/z2C K x y H Q\/z2p x y H Q
theorem VF:IxR X (rIx X.K):=ix_list.or (ix_tup.or z0W)
theorem Xy (its:List Value)(n j:Nat)(u:Value):Obj.mapSeq (·.setIfInBounds j u) { cls:=.type "list",data:=.seq its.toArray n }={ cls:=.type "list",data:=.seq (its.set j u).toArray n }:=by
 simp [Obj.mapSeq]
theorem Inv.lst {pins:List (Addr×Obj)}{σ:St}{H:Hp}{s:Shared}{p:Addr}{xs:List V}(I:Inv X pins σ H s)(h:H p=some (.lst xs)) :
  ∃ (its:List Value) (n:Nat),Vals xs its/\s.heap.get? p=some { cls:=.type "list",data:=.seq its.toArray n }/\xs.length<=sizeLine:=by
 obtain ⟨z,its,n,r,e⟩:=I.hok p _ h
 exact ⟨its,n,r,e,z⟩
theorem Inv.lstUpd {pins:List (Addr×Obj)}{σ:St}{H:Hp}{s:Shared}{p:Addr}{xs ys:List V}{its its':List Value}{n n':Nat}{f:Obj->Obj}(I:Inv X pins σ H s)(h:H p=some (.lst xs))
  (ho:s.heap.get? p=some { cls:=.type "list",data:=.seq its.toArray n }) (hf:f { cls:=.type "list",data:=.seq its.toArray n }={ cls:=.type "list",data:=.seq its'.toArray n' }) (r:Vals ys its') (hz:ys.length<=sizeLine) (t:Nat) :
  Inv X pins σ (upd H p (.lst ys)) { s with heap:=s.heap.update p f,toks:=t }:=by
 have e:(s.heap.update p f).get? p=some { cls:=.type "list",data:=.seq its'.toArray n' }:=by
  rw [Heap.get?_update_self f ho (by rw [hf]<;>rfl),hf]
 refine I.write (x:=p) (e:=p) (by rw [h]; trivial) (.inl rfl) (fun b u hb q=>(Heap.get?_update_other _ _ (Ne.symm hb)).trans q) ⟨_,e⟩ ?_
 exact ⟨hz,its',n',r,e⟩
noncomputable def z1l:V->V->V->Hp->(Hp->Prop)->Prop:=fun o i v H Q=>∃ p xs k j,o=.ref p/\i=.int k/\H p=some (.lst xs)/\ixN xs.length k=some j/\Q (upd H p (.lst (xs.set j v)))
theorem Uw:z1w X z1l:=by
 intro pins s σ H o i v ov iv u Q I ro ri rv h
 obtain ⟨p,xs,k,j,rfl,rfl,hp,hj,q⟩:=h
 cases ro
 obtain ⟨t,rfl⟩:=ri
 obtain ⟨its,n,r,ho,hz⟩:=I.lst hp
 obtain ⟨h1,h2,h3,h4⟩:=j6 hj
 have hl:=r.length
 have hn:=qB
 have I':Inv X pins σ (upd H p (.lst (xs.set j v))) { s with heap:=s.heap.update p (Obj.mapSeq (·.setIfInBounds j u)) } :=
  I.lstUpd hp ho (Xy its n j u) (r.set rv j) (by rw [List.length_set]; exact hz) s.toks
 by_cases h0:0<=k
 ·have hk:k.toNat=j:=by
   rw [seqIndex_of h0 h4] at h1
   exact Option.some.inj h1
  exact PySem.W.ki_setAt ho h0 (by omega) (by rw [List.size_toArray,<- hl]; exact h4) (by rw [hk]; exact ⟨_,I',q⟩)
 ·have hk:(k+(its.toArray.size:Int)).toNat=j:=by
   rw [seqIndex_neg (by omega) h3] at h1
   rw [List.size_toArray,<- hl]
   exact Option.some.inj h1
  exact PySem.W.ki_setBack ho (by omega) (by rw [List.size_toArray,<- hl]; exact h3) (by omega) (by rw [hk]; exact ⟨_,I',q⟩)
theorem Z3 (lo hi:Option Int)(n:Nat):(sliceBounds lo hi none n).1=((HT.sIx n 0 lo:Nat):Int)/\(sliceBounds lo hi none n).2.1=((HT.sIx n n hi:Nat):Int)/\(sliceBounds lo hi none n).2.2=1:=by
 refine ⟨?_,?_,rfl⟩
 ·cases lo with
  | none=>simp [sliceBounds,HT.sIx]
  | some i =>
   simp only [sliceBounds,HT.sIx,Option.getD_none,show (1:Int)>0 by decide,if_true]
   by_cases h:i<0
   ·simp only [h,if_true]<;>omega
   ·simp only [h,if_false]<;>omega
 ·cases hi with
  | none=>simp [sliceBounds,HT.sIx]
  | some i =>
   simp only [sliceBounds,HT.sIx,Option.getD_none,show (1:Int)>0 by decide,if_true]
   by_cases h:i<0
   ·simp only [h,if_true]<;>omega
   ·simp only [h,if_false]<;>omega
theorem kj (its:List Value)(lo hi:Option Int):slicePick its.toArray lo hi none=((its.drop (HT.sIx its.length 0 lo)).take (HT.sIx its.length its.length hi-HT.sIx its.length 0 lo)).toArray:=by
 obtain ⟨h1,h2,h3⟩:=Z3 lo hi its.toArray.size
 unfold slicePick
 rw [h1,h2,h3]
 simp only [sliceRange_one,pick_run,List.size_toArray]<;>rfl
noncomputable def z3e (K:PySem.W.Frag):V->Option Int->Option Int->Hp->VK->Prop:=fun x lo hi H Q=>∃ a xs,x=.ref a/\SqL K H a xs/\∀ p,H p=none->Q (.ref p) (upd H p (.lst (Yz xs lo hi)))
theorem Qn:SlR X (z3e X.K):=by
 intro pins s σ H x v vl vu lo hi sl Q I rx hs pl pu h
 obtain ⟨a,xs,rfl,hx,q⟩:=h
 cases rx
 obtain ⟨its,r,ht,hz⟩:=I.list hx
 have hlen:=r.length
 refine ⟨"list",_,slot_list_getitem.lookup,ht.isList.typeIs,?_⟩
 refine wpAny_getItem_list_slice ht.isList hs pl pu .none (by simp) ?_ (by rw [List.size_toArray]<;>omega)
 rw [kj,<- hlen]
 refine ⟨.ref s.heap.objs.size,_,I.laid (t':=s.toks) (o:=.lst (Yz xs lo hi)) (fun b ob q=>Heap.get?_push_of_some _ q) (Nat.le_refl _) ?_,rfl,q _ (I.hok.fresh (Nat.le_refl _))⟩
 exact ⟨Nat.le_trans (qF xs lo hi) hz,_,0,(r.drop (HT.sIx xs.length 0 lo)).take (HT.sIx xs.length xs.length hi-HT.sIx xs.length 0 lo),Heap.get?_push_size _ rfl⟩
theorem kZ:CallR X (.builtin "len") (fun xs H Q=>∃ p ys,xs=[.ref p]/\(SqL X.K H p ys\/SqT X.K H p ys)/\Q (.int ys.length) H):=by
 intro pins s σ H xs us Q I r h
 obtain ⟨p,ys,rfl,hq,q⟩:=h
 obtain ⟨u,rfl,rx⟩:=v9 r
 cases rx
 have hn:=qB
 rcases hq with hq | hq
 ·obtain ⟨its,r',pl,hz⟩:=I.list hq
  have hlen:=r'.length
  exact Calls.call_len_list pl.isList (by simp only [List.size_toArray]<;>omega) ⟨.int ys.length,H,I.tok _,⟨s.toks+1,by rw [List.size_toArray,hlen]⟩,q⟩
 ·obtain ⟨its,r',pl,hz⟩:=I.tuple hq
  have hlen:=r'.length
  exact len_tuple pl (by simp only [List.size_toArray]<;>omega) ⟨.int ys.length,H,I.tok _,⟨s.toks+1,by rw [List.size_toArray,hlen]⟩,q⟩
theorem ZA:CallR X (.builtin "len") (fun xs H Q=>∃ z,xs=[.str z]/\z.length<=sizeLine/\Q (.int z.length) H):=by
 intro pins s σ H xs us Q I r h
 obtain ⟨z,rfl,hz,q⟩:=h
 obtain ⟨u,rfl,t,rfl⟩:=v9 r
 have hn:=qB
 exact len_str (by omega) ⟨.int z.length,H,I.tok _,⟨_,rfl⟩,q⟩
theorem CallR.or {f:Value}{r r':List V->Hp->VK->Prop}(h:CallR X f r)(h':CallR X f r'):CallR X f (fun xs H Q=>r xs H Q\/r' xs H Q):=by
 intro pins s σ H xs us Q I rs q
 rcases q with q | q
 ·exact h pins s σ H xs us Q I rs q
 ·exact h' pins s σ H xs us Q I rs q
theorem uP:CallR X (.type "list") (fun xs H Q=>∃ p ys,xs=[.ref p]/\(SqL X.K H p ys\/SqT X.K H p ys)/\∀ l,H l=none->Q (.ref l) (upd H l (.lst ys))):=by
 intro pins s σ H xs us Q I r h
 obtain ⟨p,ys,rfl,hq,q⟩:=h
 obtain ⟨u,rfl,rx⟩:=v9 r
 cases rx
 have fin:∀ (its:List Value),Vals ys its->ys.length<=sizeLine->∀ (h':Heap) (c':Nat),(∀ b o',s.heap.get? b=some o'->h'.get? b=some o') ->
   h'.get? s.heap.objs.size=some { cls:=.type "list",dict:=none,data:=.seq its.toArray c',slots:=#[] }->EP X pins σ Q (.ref s.heap.objs.size) { s with heap:=h' }:=fun its r' hz h' c' kp e =>
  ⟨.ref s.heap.objs.size,_,I.laid (t':=s.toks) kp (Nat.le_refl _) (show ObjOk X.prog X.w _ h' _ (.lst ys) from ⟨hz,its,c',r',e⟩),rfl,q _ (I.hok.fresh (Nat.le_refl _))⟩
 rcases hq with hq | hq
 ·obtain ⟨its,r',pl,hz⟩:=I.list hq
  have hlen:=r'.length
  obtain ⟨o,ho,hc,n,hd⟩:=pl.isList
  exact call_list_seq p (.inl rfl) ho hc hd (fun h' c' kp e=>fin its r' hz h' c' kp e) (by simp only [List.size_toArray]<;>omega)
 ·obtain ⟨its,r',pl,hz⟩:=I.tuple hq
  have hlen:=r'.length
  obtain ⟨o,ho,hc,n,hd⟩:=pl
  exact call_list_seq p (.inr rfl) ho hc hd (fun h' c' kp e=>fin its r' hz h' c' kp e) (by simp only [List.size_toArray]<;>omega)
noncomputable def tyV (K:PySem.W.Frag)(T:String)(x:V)(H:Hp):Prop:=match x with
 | .str _=>T="str"
 | .int _=>T="int"
 | .ref p=>(T="list"/\∃ xs,SqL K H p xs)\/(T="tuple"/\∃ o,K.lookup p=some o/\o.cls=.type "tuple"/\o.dict=none) \/
   (T="dict"/\((∃ kvs,H p=some (.dK kvs))\/∃ kvs,H p=some (.dT kvs)))\/(T="set"/\∃ S n,H p=some (.set S n))
 | _=>False
theorem U3 {pins:List (Addr×Obj)}{σ:St}{H:Hp}{s:Shared}{T:String}{x:V}{v:Value}(I:Inv X pins σ H s)(r:RelV x v)(ty:tyV X.K T x H) :
  s.TypeIs v T/\∀ a,v=.ref a->∃ ob,s.heap.get? a=some ob/\ob.dict=none:=by
 cases x with
 | str z =>
  obtain ⟨t,rfl⟩:=r
  cases (show T="str" from ty)
  exact ⟨typeIs_str s z t,fun _ e=>nomatch e⟩
 | int i =>
  obtain ⟨t,rfl⟩:=r
  cases (show T="int" from ty)
  exact ⟨typeIs_int s i t,fun _ e=>nomatch e⟩
 | ref p =>
  cases r
  rcases ty with ⟨rfl,xs,hq⟩ | ⟨rfl,o,hk,hc,hd⟩ | ⟨rfl,hk⟩ | ⟨rfl,S,n,hk⟩
  ·obtain ⟨its,_,pl,_⟩:=I.list hq
   refine ⟨pl.isList.typeIs,fun a e=>?_⟩
   cases e
   obtain ⟨o,n,e,c,hd,_⟩:=pl
   exact ⟨o,e,hd⟩
  ·refine ⟨⟨o,I.kIn p o hk,hc⟩,fun a e=>?_⟩
   cases e
   exact ⟨o,I.kIn _ o hk,hd⟩
  ·have z:∃ o,s.heap.get? p=some o/\o.ExactDict:=by
    rcases hk with ⟨kvs,hk⟩ | ⟨kvs,hk⟩
    ·obtain ⟨_,_,_,_,o,_,_,e,ex,_⟩:=I.hok p _ hk
     exact ⟨o,e,ex⟩
    ·obtain ⟨_,_,_,_,o,_,_,e,ex,_⟩:=I.hok p _ hk
     exact ⟨o,e,ex⟩
   obtain ⟨o,e,ex⟩:=z
   refine ⟨⟨o,e,ex.1⟩,fun a e2=>?_⟩
   cases e2
   exact ⟨o,e,ex.2.1⟩
  ·obtain ⟨o,_,_,_,e,ex,_⟩:=I.hok p _ hk
   refine ⟨⟨o,e,ex.1⟩,fun a e2=>?_⟩
   cases e2
   exact ⟨o,e,ex.2.1⟩
 | _=>exact False.elim ty
noncomputable def z36 (K:PySem.W.Frag)(T:String)(r:V->List V->Hp->VK->Prop)(to:TE):TE:=fun σ H Q=>to σ H fun x H1=>tyV K T x H1/\r x [] H1 Q
noncomputable def tBM (K:PySem.W.Frag)(T:String)(r:V->List V->Hp->VK->Prop)(to:TE)(t:TA):TE:=fun σ H Q=>to σ H fun x H1=>tyV K T x H1/\t σ H1 fun xs H2=>r x xs H2 Q
variable {o e:Expr}{es:List Expr}{to:TE}{t:TA}{name:Str}{apos cpos:Pos}{T id:String}{r:V->List V->Hp->VK->Prop}
theorem z0J (pa:PlainAttrs T)(slot:Slot T name id)(hty:typeOf (.builtin id)=pure (.type "method_descriptor"))(hm:MtR X id r)(ho:PE X o to)
  (hbase:autoParam (attributeBase o name X.env (eval o X.env)=eval o X.env) L2.au3._auto_1) (hline:autoParam ((apos.endLine==cpos.line)=true) L2.au3._auto_1):PE X (.Call (.Attribute o name apos) [] [] cpos) (z36 X.K T r to):=by
 intro pins s σ H Q I h
 refine wpAny_Call_method0_late hbase hline (thn (ho pins s σ H _ I h) fun v s1 ⟨x,H1,I1,r1,ty,q1⟩=>?_)
 obtain ⟨h1,h2⟩:=U3 I1 r1 ty
 exact ⟨T,id,pa,slot,hty,h1,h2,Calls.callWith_builtin rfl (PySem.evalArgs_none (hm pins s1 σ H1 x [] v [] Q I1 r1 .nil q1))⟩
theorem VU (pa:PlainAttrs T)(slot:Slot T name id)(hty:typeOf (.builtin id)=pure (.type "method_descriptor"))(hm:MtR X id r)(ho:PE X o to)(ha:PA X (e::es) t)
  (hbase:autoParam (attributeBase o name X.env (eval o X.env)=eval o X.env) L2.au3._auto_1)
  (hfew:autoParam (((backTo cpos (starEach (e::es) X.env)).all (fun x=>!x.1)&&(backToKw cpos (keywordEach [] X.env)).all (fun x=>x.1.isSome)
   && decide ((e::es).length+([]:List Keyword).length+(if ([]:List Keyword).isEmpty then 0 else 1)<30))=true) L2.au3._auto_1)
  (hline:autoParam ((apos.endLine==cpos.line)=true) L2.au3._auto_1) (hs:autoParam (starEach (e::es) X.env=(false,eval e X.env)::starEach es X.env) L2.au3._auto_1) (hplain:autoParam ((backTo cpos (starEach es X.env)).any (·.1)=false) L2.au3._auto_1) :
  PE X (.Call (.Attribute o name apos) (e::es) [] cpos) (tBM X.K T r to t):=by
 intro pins s σ H Q I h
 refine wpAny_Call_method_late hbase hfew hline rfl (thn (ho pins s σ H _ I h) fun v s1 ⟨x,H1,I1,r1,ty,q1⟩=>?_)
 obtain ⟨h1,h2⟩:=U3 I1 r1 ty
 refine ⟨T,id,pa,slot,hty,h1,h2,?_⟩
 have hA:=ha cpos pins s1 σ H1 _ I1 q1
 rw [hs] at hA ⊢
 refine Calls.callWith_builtin (by show (false||(backTo cpos (starEach es X.env)).any (·.1))=false; rw [hplain]<;>rfl) (Calls.evalArgs_plain ?_)
 exact thn hA fun us s2 ⟨vs,H2,I2,r2,q2⟩=>hm pins s2 σ H2 x vs v us Q I2 r1 r2 q2
end
open PySem PySem.Spec PyProof.Rows
noncomputable def MtM (X:Cx)(id:String)(r:V->List V->Hp->VK->Prop):Prop :=
 ∀ (pins:List (Addr×Obj)) (s:Shared) (σ:St) (H:Hp) (x:V) (xs:List V) (v:Value) (us:List Value) (Q:VK),Inv X pins σ H s->RelV x v->Vals xs us->r x xs H Q ->
  wpAny (model X.prog X.w) X.A (call (.builtin id) (v::us)) (EP X pins σ Q) X.xe s
theorem Vals.one:∀ {x:V} {us:List Value},Vals [x] us->∃ u,us=[u]/\RelV x u
 | _,_,.cons r .nil=>⟨_,rfl,r⟩
theorem Vals.zero:∀ {us:List Value},Vals [] us->us=[]
 | _,.nil=>rfl
theorem Vals.eraseIdx:∀ {xs:List V} {us:List Value} (i:Nat),Vals xs us->Vals (xs.eraseIdx i) (us.eraseIdx i)
 | _,_,_,.nil=>.nil
 | _,_,0,.cons _ t=>t
 | _,_,i+1,.cons r t=>.cons r (Vals.eraseIdx i t)
theorem Vals.rep {xs:List V}{us:List Value}(h:Vals xs us):∀ k:Nat,Vals (List.replicate k xs).flatten (List.replicate k us).flatten
 | 0=>.nil
 | k+1=>by
  rw [List.replicate_succ,List.replicate_succ,List.flatten_cons,List.flatten_cons]
  exact Vals.append h (Vals.rep h k)
theorem ku {α:Type}:∀ (l:List α) (i:Nat),(l.eraseIdx i).length<=l.length
 | [],_=>Nat.le_refl _
 | _::_,0=>Nat.le_succ _
 | _::r,i+1=>Nat.succ_le_succ (ku r i)
theorem kM (its:List Value):∀ (k:Nat) (acc:List Value),
  List.foldl (fun x1 x2=>x1++x2) acc.toArray (List.replicate k its.toArray)=(acc++(List.replicate k its).flatten).toArray
 | 0,acc=>by simp
 | k+1,acc=>by
  have e:acc.toArray++its.toArray=(acc++its).toArray:=by simp
  have e2:(acc++its)++(List.replicate k its).flatten=acc++(List.replicate (k+1) its).flatten:=by
   rw [List.replicate_succ,List.flatten_cons,List.append_assoc]
  rw [<- e2,<- kM its k (acc++its),<- e,List.replicate_succ,List.foldl_cons]
section
variable {X:Cx}{pins:List (Addr×Obj)}{σ:St}{H:Hp}{s:Shared}{l b:Addr}{xs ys zs:List V}
theorem Inv.lset {its its':List Value}{n:Nat}{f:Array Value->Array Value}{t':Nat}(I:Inv X pins σ H s)(hH:H l=some (.lst xs))
  (e:s.heap.get? l=some { cls:=.type "list",data:=.seq its.toArray n }) (hf:f its.toArray=its'.toArray) (hv:Vals ys its') (hz:ys.length<=sizeLine) :
  Inv X pins σ (upd H l (.lst ys)) { s with heap:=s.heap.update l (Obj.mapSeq f),toks:=t' }:=by
 have q:=PySem.IsL.update e f
 rw [hf] at q
 refine I.write (x:=l) (e:=l) (by rw [hH]; exact trivial) (.inl rfl) (fun b' u hb hu=>(Heap.get?_update_other s.heap (Obj.mapSeq f) (Ne.symm hb)).trans hu) ⟨_,q⟩ ?_
 exact ⟨hz,its',_,hv,q⟩
theorem Inv.lnew {its:List Value}{t':Nat}(I:Inv X pins σ H s)(hv:Vals ys its)(hz:ys.length<=sizeLine) :
  Inv X pins σ (upd H s.heap.objs.size (.lst ys)) { s with heap:=s.heap.push { cls:=.type "list",data:=.seq its.toArray },toks:=t' } :=
 I.laid (fun _ _ q=>Heap.get?_push_of_some _ q) (Nat.le_refl _) ⟨hz,its,0,hv,Heap.get?_push_size _ rfl⟩
theorem Inv.fresh (I:Inv X pins σ H s):H s.heap.objs.size=none:=I.hok.fresh (Nat.le_refl _)
theorem Inv.lstM (I:Inv X pins σ H s)(hH:H l=some (.lst xs)):xs.length<=sizeLine/\∃ (its:List Value) (n:Nat),Vals xs its/\xs.length=its.length/\s.heap.get? l=some { cls:=.type "list",data:=.seq its.toArray n }:=by
 obtain ⟨z,its,n,r,e⟩:=I.hok l _ hH
 exact ⟨z,its,n,r,r.length,e⟩
theorem Vy {n:Nat}(h:n<=sizeLine):Builtin.List.listTooLong n=false:=by
 unfold Builtin.List.listTooLong
 exact decide_eq_false (by omega)
end
section
variable {X:Cx}
noncomputable def Qo:V->List V->Hp->VK->Prop:=fun x vs H Q=>∃ l xs y,x=.ref l/\vs=[y]/\H l=some (.lst xs)/\xs.length<sizeLine/\Q .non (upd H l (.lst (xs++[y])))
theorem kP:MtM X "list.append" Qo:=by
 intro pins s σ H x vs v us Q I rx rv h
 obtain ⟨l,xs,y,rfl,rfl,hH,hz,q⟩:=h
 cases rx
 obtain ⟨u,rfl,ru⟩:=rv.one
 obtain ⟨z,its,n,r,hl,e⟩:=I.lstM hH
 refine call_meets F.slot_list_append ⟨_,e,rfl⟩ F.entry_list_append (F.args_list_append_2 _ _) (PySem.list_append l its.toArray n u (by rw [List.size_toArray]; omega)) ⟨e,?_⟩
 refine ⟨.non,_,I.lset (its':=its++[u]) hH e (by simp) (r.append (.cons ru .nil)) ?_,rfl,q⟩
 rw [List.length_append,List.length_singleton]
 omega
noncomputable def z0j:V->List V->Hp->VK->Prop:=fun x vs H Q=>∃ l xs i k y,x=.ref l/\vs=[.int i]/\H l=some (.lst xs)/\-(2 ^ 63)<=i/\i<2 ^ 63/\seqIndex? i xs.length=some k/\xs[k]?=some y/\Q y (upd H l (.lst (xs.eraseIdx k)))
theorem UQ:MtM X "list.pop" z0j:=by
 intro pins s σ H x vs v us Q I rx rv h
 obtain ⟨l,xs,i,k,y,rfl,rfl,hH,h1,h2,hk,hy,q⟩:=h
 cases rx
 obtain ⟨u,rfl,ru⟩:=rv.one
 obtain ⟨t,rfl⟩:=ru
 obtain ⟨z,its,n,r,hl,e⟩:=I.lstM hH
 obtain ⟨w,hw,rw'⟩:=r.get hy
 refine call_meets F.slot_list_pop ⟨_,e,rfl⟩ F.entry_list_pop (F.args_list_pop_2 _ _)
  (MeetsSeq.list_pop_at l its.toArray n i t k w (fitsIndex_both h1 h2) (by rw [List.size_toArray,<- hl]; exact hk) (by rw [<- Array.getElem?_toList]; exact hw) (by rw [List.size_toArray]; omega)) ⟨e,?_⟩
 refine ⟨y,_,I.lset (its':=its.eraseIdx k) hH e ?_ (r.eraseIdx k) ?_,rw',q⟩
 ·show its.toArray.eraseIdxIfInBounds k=(its.eraseIdx k).toArray
  rw [List.eraseIdxIfInBounds_toArray]
 ·have:=ku xs k
  omega
noncomputable def z1T:R2:=fun x y H Q=>∃ l b xs zs,x=.ref l/\y=.ref b/\H l=some (.lst xs)/\H b=some (.lst zs)/\xs.length+zs.length<=sizeLine/\∀ p,H p=none->Q (.ref p) (upd H p (.lst (xs++zs)))
theorem z03:OpR X (binaryOp .Add) z1T:=by
 intro pins s σ H x y v u Q I rx ry h
 obtain ⟨l,b,xs,zs,rfl,rfl,hH,hB,hz,q⟩:=h
 cases rx
 cases ry
 obtain ⟨z,its,n,r,hl,e⟩:=I.lstM hH
 obtain ⟨z2,its2,n2,r2,hl2,e2⟩:=I.lstM hB
 refine PySem.P.add_list e e2 ?_ (by rw [List.size_toArray,List.size_toArray]; omega)
 have ea:its.toArray++its2.toArray=(its++its2).toArray:=by simp
 rw [ea]
 exact ⟨.ref _,_,I.lnew (t':=s.toks) (r.append r2) (by rw [List.length_append]; omega),rfl,q _ I.fresh⟩
noncomputable def z05:R2:=fun x y H Q=>∃ l k xs,x=.ref l/\y=.int k/\H l=some (.lst xs)/\-(2 ^ 63)<=k/\k<2 ^ 63/\xs.length*k.toNat<=sizeLine /\
 ∀ p,H p=none->Q (.ref p) (upd H p (.lst (List.replicate k.toNat xs).flatten))
theorem Qm {α:Type}(xs:List α)(k:Nat):(List.replicate k xs).flatten.length=k*xs.length:=by
 induction k with
 | zero=>simp
 | succ k ih=>rw [List.replicate_succ,List.flatten_cons,List.length_append,ih,Nat.succ_mul,Nat.add_comm]
theorem z1c:OpR X (binaryOp .Mult) z05:=by
 intro pins s σ H x y v u Q I rx ry h
 obtain ⟨l,k,xs,rfl,rfl,hH,h1,h2,hz,q⟩:=h
 cases rx
 obtain ⟨t,rfl⟩:=ry
 obtain ⟨z,its,n,r,hl,e⟩:=I.lstM hH
 have hlen:its.toArray.size*k.toNat<=sizeLine:=by rw [List.size_toArray,<- hl]; exact hz
 have hcap:¬ its.toArray.size*k.toNat>(2 ^ 63-1)/8:=by
  have:(sizeLine:Nat)<=(2 ^ 63-1)/8:=by decide
  omega
 have hfit:¬ (!Builtin.List.listFitsIndex k)=true:=by
  rw [fitsIndex_both h1 h2]
  exact Bool.false_ne_true
 have hlong:¬ Builtin.List.listTooLong (its.toArray.size*k.toNat)=true:=by
  rw [Vy hlen]
  exact Bool.false_ne_true
 have hnew:List.foldl (fun x1 x2=>x1++x2) #[] (List.replicate (if its.toArray.isEmpty=true then 0 else k.toNat) its.toArray)=(List.replicate k.toNat its).flatten.toArray:=by
  have f0:∀ m:Nat,List.foldl (fun x1 x2=>x1++x2) #[] (List.replicate m its.toArray)=(List.replicate m its).flatten.toArray:=fun m=>by
   have:=kM its m []
   rw [List.nil_append] at this
   exact this
  rw [f0]
  cases its with
  | nil=>simp
  | cons a r'=>rw [if_neg (by simp)]
 refine wpAny_binaryOp_repeat_ref (T:="list") (U:="int") (by decide) ⟨_,e,rfl⟩ (fun s'=>typeIs_int s' k t) noFill_list_mul F.fills_int_mul F.slot_int_rmul repeat_list F.slot_int_index.lookup
  (call_meets F.slot_int_rmul (typeIs_int s k t) F.entry_int_rmul (F.args_int_rmul_2 _ _) (int___rmul___int_list k t l its.toArray n)
   ⟨e,rfl,⟨_,e,rfl⟩,call_meets F.slot_list_mul ⟨_,e,rfl⟩ F.entry_list_mul (F.args_list_mul_2 _ _) (AutoListH.list___mul___list_int_3 l its.toArray n k t hfit hcap hlong) ⟨e,?_⟩⟩)
 rw [hnew]
 exact ⟨.ref _,_,I.lnew (t':=s.toks) (r.rep k.toNat) (by rw [Qm,Nat.mul_comm]; exact hz),rfl,q _ I.fresh⟩
end
section
variable {prog:Program}{w:World}{A:Around}{E:Value->Shared->Prop}{s:Shared}
end
section
variable {X:Cx}
end
open PySem PySem.Spec PyProof.Rows
section
variable {κ:Type}[DecidableEq κ]
noncomputable def uO (kvs:List (κ×V))(k:κ):Option V:=(kvs.find? fun kv=>decide (kv.1=k)).map (·.2)
noncomputable def xQ (kvs:List (κ×V))(k:κ)(v:V):List (κ×V) :=
 if (kvs.any fun kv=>decide (kv.1=k))=true then kvs.map (fun kv=>if kv.1=k then (kv.1,v) else kv) else kvs++[(k,v)]
noncomputable def Kc (kvs:List (κ×V))(k:κ):List (κ×V):=kvs.filter fun kv=>decide (kv.1≠k)
theorem uG {p:κ×V}{r:List (κ×V)}{k:κ}(e:p.1=k):uO (p::r) k=some p.2:=by simp [uO,List.find?_cons,e]
theorem vP {p:κ×V}{r:List (κ×V)}{k:κ}(e:¬ p.1=k):uO (p::r) k=uO r k:=by simp [uO,List.find?_cons,e]
theorem Y9 (k:κ):∀ kvs:List (κ×V),(kvs.any fun kv=>decide (kv.1=k))=(uO kvs k).isSome
 | []=>rfl
 | p::r=>by
  rw [List.any_cons]
  by_cases e:p.1=k
  ·simp only [uG e,decide_eq_true e,Bool.true_or,Option.isSome_some]
  ·rw [vP e,decide_eq_false e,Bool.false_or]; exact Y9 k r
theorem vS (kvs:List (κ×V))(k:κ)(v:V):(xQ kvs k v).length<=kvs.length+1:=by
 unfold xQ
 split
 ·rw [List.length_map]; omega
 ·rw [List.length_append,List.length_cons,List.length_nil]; omega
theorem RelO.isSome_eq {o:Option V}{u:Option Value}(r:RelO o u):o.isSome=u.isSome:=by
 cases o with
 | none=>cases u with
  | none=>rfl
  | some _=>exact (show False from r).elim
 | some _=>cases u with
  | none=>exact (show False from r).elim
  | some _=>rfl
theorem RelO.getD {o:Option V}{u:Option Value}{d:V}{d':Value}(r:RelO o u)(rd:RelV d d'):RelV (o.getD d) (u.getD d'):=by
 cases o with
 | none=>cases u with
  | none=>exact rd
  | some _=>exact (show False from r).elim
 | some _=>cases u with
  | none=>exact (show False from r).elim
  | some _=>exact r
theorem KV.val {kvs:List (κ×V)}{vs:List (κ×Value)}(r:KV kvs vs)(k:κ):RelO (uO kvs k) (valueAt vs k):=by
 unfold KV at r
 induction r with
 | nil=>exact True.intro
 | @cons p q ps qs h t ih =>
  obtain ⟨h1,h2⟩:=h
  by_cases e:p.1=k
  ·have e':q.1=k:=h1.symm.trans e
   have b:valueAt (q::qs) k=some q.2:=by simp [valueAt,List.find?_cons,e']
   rw [uG e,b]; exact h2
  ·have e':¬ q.1=k:=fun z=>e (h1.trans z)
   have b:valueAt (q::qs) k=valueAt qs k:=by simp [valueAt,List.find?_cons,e']
   rw [vP e,b]; exact ih
theorem KV.any {kvs:List (κ×V)}{vs:List (κ×Value)}(r:KV kvs vs)(k:κ):(kvs.any fun kv=>decide (kv.1=k))=vs.any fun kv=>decide (kv.1=k):=by
 unfold KV at r
 induction r with
 | nil=>rfl
 | cons h t ih=>rw [List.any_cons,List.any_cons,ih,h.1]
theorem KV.repl {kvs:List (κ×V)}{vs:List (κ×Value)}(r:KV kvs vs)(k:κ){y:V}{u:Value}(ry:RelV y u) :
  KV (kvs.map fun kv=>if kv.1=k then (kv.1,y) else kv) (vs.map fun kv=>if kv.1=k then (kv.1,u) else kv):=by
 unfold KV at r ⊢
 induction r with
 | nil=>exact .nil
 | @cons p q ps qs h t ih =>
  rw [List.map_cons,List.map_cons]
  refine .cons ?_ ih
  obtain ⟨h1,h2⟩:=h
  by_cases e:p.1=k
  ·rw [if_pos e,if_pos (h1.symm.trans e)]; exact ⟨h1,ry⟩
  ·rw [if_neg e,if_neg (fun z=>e (h1.trans z))]; exact ⟨h1,h2⟩
theorem KV.put {kvs:List (κ×V)}{vs:List (κ×Value)}(r:KV kvs vs)(k:κ){y:V}{u:Value}(ry:RelV y u):KV (xQ kvs k y) (stored vs k u):=by
 unfold xQ stored
 rw [r.any k]
 by_cases e:(vs.any fun kv=>decide (kv.1=k))=true
 ·rw [if_pos e,if_pos e]; exact r.repl k ry
 ·rw [if_neg e,if_neg e]; exact Paired.snoc r ⟨rfl,ry⟩
theorem KV.drop {kvs:List (κ×V)}{vs:List (κ×Value)}(r:KV kvs vs)(k:κ):KV (Kc kvs k) (without vs k):=by
 unfold KV at r ⊢
 unfold Kc without
 induction r with
 | nil=>exact .nil
 | @cons p q ps qs h t ih =>
  obtain ⟨h1,h2⟩:=h
  rw [List.filter_cons,List.filter_cons]
  by_cases e:p.1=k
  ·have a:¬ decide (p.1≠k)=true:=by simp [e]
   have b:¬ decide (q.1≠k)=true:=by simp [h1.symm.trans e]
   rw [if_neg a,if_neg b]; exact ih
  ·have e':¬ q.1=k:=fun z=>e (h1.trans z)
   have a:decide (p.1≠k)=true:=by simp [e]
   have b:decide (q.1≠k)=true:=by simp [e']
   rw [if_pos a,if_pos b]; exact .cons ⟨h1,h2⟩ ih
theorem KV.keys {kvs:List (κ×V)}{vs:List (κ×Value)}(r:KV kvs vs):kvs.map (·.1)=vs.map (·.1):=by
 unfold KV at r
 induction r with
 | nil=>rfl
 | cons h t ih=>rw [List.map_cons,List.map_cons,ih,h.1]
theorem KV.length {kvs:List (κ×V)}{vs:List (κ×Value)}(r:KV kvs vs):kvs.length=vs.length:=Paired.length r
end
theorem Y0 {P:Program}{w:World}{k:Key}{u:Value}(r:RelV (kV k) u):(y0 P w).is k u=true:=by
 cases k with
 | inl i=>obtain ⟨t,e⟩:=(show ∃ t,u=Value.int i t from r); subst e; exact Y6 P w i t
 | inr x=>obtain ⟨t,e⟩:=(show ∃ t,u=Value.str x t from r); subst e; exact Ye P w x t
 | non=>cases (show u=Value.none from r); exact ZM P w
theorem kR {P:Program}{w:World}:∀ {ks:List Key} {us:List Value},Vals (ks.map kV) us->ItemsAre (y0 P w) ks us
 | [],_,r=>by rw [List.map_nil] at r; cases r; exact .nil
 | k::ks,_,r=>by
  rw [List.map_cons] at r
  cases r with
  | cons h t=>exact .cons (Y0 h) (kR t)
noncomputable abbrev KT (H:Hp):List (List Key×V)->List (List Key×Addr×Value)->Prop:=Paired fun p q=>p.1=q.1/\H q.2.1=some (.tup (p.1.map kV))/\RelV p.2 q.2.2
theorem KT.val {H:Hp}{kvs:List (List Key×V)}{xs:List (List Key×Addr×Value)}(r:KT H kvs xs)(k:List Key):RelO (uO kvs k) ((atKey xs k).map (·.2)):=by
 induction r with
 | nil=>exact True.intro
 | @cons p q ps qs h t ih =>
  obtain ⟨h1,_,h2⟩:=h
  by_cases e:p.1=k
  ·have e':q.1=k:=h1.symm.trans e
   have b:atKey (q::qs) k=some q.2:=by simp [atKey,List.find?_cons,e']
   rw [uG e,b]; exact h2
  ·have e':¬ q.1=k:=fun z=>e (h1.trans z)
   have b:atKey (q::qs) k=atKey qs k:=by simp [atKey,List.find?_cons,e']
   rw [vP e,b]; exact ih
theorem KT.repl {H:Hp}{kvs:List (List Key×V)}{xs:List (List Key×Addr×Value)}(r:KT H kvs xs)(k:List Key){y:V}{u:Value}(ry:RelV y u) :
  KT H (kvs.map fun kv=>if kv.1=k then (kv.1,y) else kv) (xs.map (putAt k u)):=by
 induction r with
 | nil=>exact .nil
 | @cons p q ps qs h t ih =>
  rw [List.map_cons,List.map_cons]
  refine .cons ?_ ih
  obtain ⟨h1,h2,h3⟩:=h
  unfold putAt
  by_cases e:p.1=k
  ·rw [if_pos e,if_pos (h1.symm.trans e)]; exact ⟨h1,h2,ry⟩
  ·rw [if_neg e,if_neg (fun z=>e (h1.trans z))]; exact ⟨h1,h2,h3⟩
theorem KT.put {H:Hp}{kvs:List (List Key×V)}{xs:List (List Key×Addr×Value)}(r:KT H kvs xs)(k:List Key){b:Addr}{y:V}{u:Value}(hb:H b=some (.tup (k.map kV)))(ry:RelV y u) :
  KT H (xQ kvs k y) (storedH xs k b u):=by
 have e:(kvs.any fun kv=>decide (kv.1=k))=(atKey xs k).isSome:=by
  rw [Y9,(r.val k).isSome_eq,Option.isSome_map]
 unfold xQ storedH
 rw [e]
 by_cases q:(atKey xs k).isSome=true
 ·rw [if_pos q,if_pos q]; exact r.repl k ry
 ·rw [if_neg q,if_neg q]; exact Paired.snoc r ⟨rfl,hb,ry⟩
theorem KT.keeps {H H':Hp}{kvs:List (List Key×V)}{xs:List (List Key×Addr×Value)}(r:KT H kvs xs)(ht:∀ b ys,H b=some (.tup ys)->H' b=some (.tup ys)):KT H' kvs xs :=
 Paired.mapP r fun _ _ z=>⟨z.1,ht _ _ z.2.1,z.2.2⟩
section
variable {P:Program}{w:World}{H:Hp}{h:Heap}{a:Addr}
theorem K5 {u:HO}(ok:HOk P w H h)(e:Rd H a u):ObjOk P w H h a u:=e.ok ok
theorem uR {kvs:List (Key×V)}(ok:HOk P w H h)(e:Rd H a (.dK kvs)):kvs.length<=sizeLine/\(a==sysModules)=false/\∃ vs,KV kvs vs/\h.DictOf (y0 P w) a vs :=
 show ObjOk P w H h a (.dK kvs) from K5 ok e
theorem Ks {kvs:List (Key×V)}(ok:HOk P w H h)(e:H a=some (.dK kvs)):kvs.length<=sizeLine/\(a==sysModules)=false/\∃ vs,KV kvs vs/\h.DictOf (y0 P w) a vs:=uR ok (.inl e)
theorem Xo {ks:List Key}(ok:HOk P w H h)(e:H a=some (.tup (ks.map kV))):(tupleKind (y0 P w)).is h ks a:=by
 obtain ⟨_,its,r,o,h1,h2,_,n,h3⟩:=(show ObjOk P w H h a (.tup (ks.map kV)) from ok a _ e)
 exact ⟨o,its.toArray,n,h1,h2,h3,by simpa using kR r⟩
theorem U5 {kvs:List (List Key×V)}(ok:HOk P w H h)(e:Rd H a (.dT kvs)):kvs.length<=sizeLine/\(a==sysModules)=false /\
  ∃ xs,KT H kvs xs/\h.DictOfH (tupleKind (y0 P w)) a xs:=by
 obtain ⟨z,y,xs,r,o,es,ep,h1,h2,h3,h4,h5⟩:=(show ObjOk P w H h a (.dT kvs) from K5 ok e)
 refine ⟨z,y,xs,r,o,es,ep,h1,h2,h3,h4,fun x hx=>?_,h5⟩
 have all:∀ {l:List (List Key×V)} {m:List (List Key×Addr×Value)},KT H l m->∀ x∈m,(tupleKind (y0 P w)).is h x.1 x.2.1:=by
  intro l m q
  induction q with
  | nil=>intro x hx; exact nomatch hx
  | @cons p q ps qs hq t ih =>
   intro x hx
   rcases List.mem_cons.mp hx with e | hx
   ·subst e
    exact Xo ok (by rw [<- hq.1]; exact hq.2.1)
   ·exact ih x hx
 exact all r x hx
theorem z2b {kvs:List (List Key×V)}(ok:HOk P w H h)(e:H a=some (.dT kvs)):kvs.length<=sizeLine/\(a==sysModules)=false /\
  ∃ xs,KT H kvs xs/\h.DictOfH (tupleKind (y0 P w)) a xs:=U5 ok (.inl e)
end
noncomputable def DGet (H:Hp)(a:Addr)(y:V)(r:Option V):Prop :=
 (∃ kvs k,Rd H a (.dK kvs)/\y=kV k/\r=uO kvs k)\/∃ kvs k b,Rd H a (.dT kvs)/\y=.ref b/\H b=some (.tup (k.map kV))/\r=uO kvs k
noncomputable def DPut (H:Hp)(a:Addr)(y v:V)(H':Hp):Prop :=
 (∃ kvs k,H a=some (.dK kvs)/\y=kV k/\kvs.length<sizeLine/\H'=upd H a (.dK (xQ kvs k v))) \/
 ∃ kvs k b,H a=some (.dT kvs)/\y=.ref b/\H b=some (.tup (k.map kV))/\kvs.length<sizeLine/\H'=upd H a (.dT (xQ kvs k v))
theorem DGet.k {H:Hp}{a:Addr}{kvs:List (Key×V)}{k:Key}(e:H a=some (.dK kvs)):DGet H a (kV k) (uO kvs k):=.inl ⟨kvs,k,.inl e,rfl,rfl⟩
theorem DGet.t {H:Hp}{a b:Addr}{kvs:List (List Key×V)}{k:List Key}(e:H a=some (.dT kvs))(eb:H b=some (.tup (k.map kV))):DGet H a (.ref b) (uO kvs k):=.inr ⟨kvs,k,b,.inl e,rfl,eb,rfl⟩
theorem DPut.k {H:Hp}{a:Addr}{kvs:List (Key×V)}{k:Key}{v:V}(e:H a=some (.dK kvs))(hl:kvs.length<sizeLine):DPut H a (kV k) v (upd H a (.dK (xQ kvs k v))):=.inl ⟨kvs,k,e,rfl,hl,rfl⟩
theorem DPut.t {H:Hp}{a b:Addr}{kvs:List (List Key×V)}{k:List Key}{v:V}(e:H a=some (.dT kvs))(eb:H b=some (.tup (k.map kV)))(hl:kvs.length<sizeLine) :
  DPut H a (.ref b) v (upd H a (.dT (xQ kvs k v))):=.inr ⟨kvs,k,b,e,rfl,eb,hl,rfl⟩
section
variable {X:Cx}{pins:List (Addr×Obj)}{σ:St}{H:Hp}{s:Shared}{a:Addr}{y v:V}{u r:Value}{o:Option V}{A:Around}{E:Value->Shared->Prop}
theorem Inv.big (I:Inv X pins σ H s):sysModules<s.heap.objs.size:=by
 have h:mainGlobals<s.heap.objs.size:=(I.mod.glob.keeps I.bk).lt
 exact Nat.lt_trans (by decide) h
theorem Vd {Q:Value->Shared->Prop}(hu:A.units+1<cLine)(I:Inv X pins σ H s)(g:DGet H a y (some v))(ry:RelV y u)(h:∀ w' s',Inv X pins σ H s'->RelV v w'->Q w' s') :
  wpAny (model X.prog X.w) A (getItem (.ref a) u) Q E s:=by
 rcases g with ⟨kvs,k,e,ey,l⟩ | ⟨kvs,k,b,e,ey,eb,l⟩
 ·subst ey
  obtain ⟨z,hd,vs,rel,dd⟩:=uR I.hok e
  obtain ⟨w',hw,rw'⟩:=RelO.some_of (v:=v) (o:=valueAt vs k) (by rw [l]; exact rel.val k)
  exact wpAny_getItem_of (Y0 ry) dd.mapOf hw (h w' _ (I.tok _) rw')
 ·subst ey
  cases (show u=Value.ref b from ry)
  obtain ⟨z,hd,xs,rel,dd⟩:=U5 I.hok e
  obtain ⟨w',hw,rw'⟩:=RelO.some_of (v:=v) (o:=(atKey xs k).map (·.2)) (by rw [l]; exact rel.val k)
  obtain ⟨p,hp,hp2⟩:=Option.map_eq_some_iff.mp hw
  refine wpAny_getItem_heap (tupleKind_room_in1 hu) (Xo I.hok eb) dd hp ?_
  rw [hp2]
  exact h w' _ (I.tok _) rw'
theorem Zb {h':Heap}{t':Nat}{ob:HO}(I:Inv X pins σ H s)(mu:Mut (H a))(hs:Heap.SameBut a s.heap h')(he:∃ q,h'.get? a=some q)(new:ObjOk X.prog X.w (upd H a ob) h' a ob) :
  Inv X pins σ (upd H a ob) { s with heap:=h',toks:=t' } :=
 I.write (x:=a) (e:=a) mu (.inl rfl) (fun b q hb z=>(hs.2 b hb).trans z) he new
theorem U4 {P:Program}{w:World}{H':Hp}{h':Heap}{kvs:List (Key×V)}{vs:List (Key×Value)}(z:kvs.length<=sizeLine)(hd:(a==sysModules)=false)(rel:KV kvs vs)(dd:h'.DictOf (y0 P w) a vs) :
  ObjOk P w H' h' a (.dK kvs):=⟨z,hd,vs,rel,dd⟩
theorem V1 {H':Hp}{Q:Unit->Shared->Prop}(hu:A.units+1<cLine)(I:Inv X pins σ H s)(g:DPut H a y v H')(ry:RelV y u)(rv:RelV v r)(h:∀ s',Inv X pins σ H' s'->Q () s') :
  wpAny (model X.prog X.w) A (setItem (.ref a) u r) Q E s:=by
 rcases g with ⟨kvs,k,e,ey,l,eH⟩ | ⟨kvs,k,b,e,ey,eb,l,eH⟩
 ·subst ey eH
  obtain ⟨z,hd,vs,rel,dd⟩:=Ks I.hok e
  have hz:vs.length<=sizeLine:=by rw [<- rel.length]; exact z
  have hl:(xQ kvs k v).length<=sizeLine:=by have:=vS kvs k v; omega
  refine wpAny_setItem_pairs (hsz:=hz) (Y0 ry) dd fun h' dd' hs=>h _ ?_
  have he:∃ q,h'.get? a=some q:=let ⟨q,_,_,hq,_⟩:=dd'; ⟨q,hq⟩
  exact Zb I (by rw [e]; exact True.intro) hs he (U4 hl hd (rel.put k rv) dd')
 ·subst ey eH
  cases (show u=Value.ref b from ry)
  obtain ⟨z,hd,xs,rel,dd⟩:=z2b I.hok e
  have hz:xs.length<=sizeLine:=by rw [<- Paired.length rel]; exact z
  have hl:(xQ kvs k v).length<=sizeLine:=by have:=vS kvs k v; omega
  refine wpAny_setItem_heap (hsz:=hz) (tupleKind_room_in1 hu) (Xo I.hok eb) dd fun h' dd' hs=>h _ ?_
  obtain ⟨q,es,ep,hq,h2,h3,h4,_,h5⟩:=dd'
  refine Zb I (by rw [e]; exact True.intro) hs ⟨q,hq⟩ ⟨hl,hd,_,(rel.put k eb rv).keeps fun c ys ec=>?_,q,es,ep,hq,h2,h3,h4,h5⟩
  rw [y4 (z1s ec e (fun z=>nomatch z))]
  exact ec
end
section
variable {X:Cx}{pins:List (Addr×Obj)}{σ:St}{H:Hp}{s:Shared}{a:Addr}{kvs:List (Key×V)}{k:Key}{u:Value}{A:Around}{E:Value->Shared->Prop}
theorem z1K {Q:Value->Shared->Prop}(I:Inv X pins σ H s)(e:Rd H a (.dK kvs))(h:∀ t s',Inv X pins σ H s'->Q (.int kvs.length t) s'):wpAny (model X.prog X.w) A (call (.builtin "len") [.ref a]) Q E s:=by
 obtain ⟨z,hd,vs,rel,dd⟩:=uR I.hok e
 refine call_len_dict hd dd (by rw [<- rel.length]; rw [sizeLine_eq] at z; omega) ?_
 rw [<- rel.length]
 exact h _ _ (I.tok _)
end
noncomputable def z26 (i:Expr):Prop:=∀ ov iv,subscripted i false ov iv=operate [ov,iv] (getItem ov iv)
theorem J9 {prog:Program}{w:World}{A:Around}{E:Value->Shared->Prop}{s:Shared}{env:Env}{value slice:Expr}{pos:Pos}{T id:String}{Q:Value->Shared->Prop}
  (hl:typeLookup (.type T) "__getitem__"=pure (some (.builtin id))) (hs:z26 slice)
  (h:wpAny (model prog w) A (eval value env) (fun o s₁=>wpAny (model prog w) A (eval slice env) (fun i s₂=>s₂.TypeIs o T/\wpAny (model prog w) A (getItem o i) Q E s₂) E s₁) E s) :
  wpAny (model prog w) A (eval (.Subscript value slice pos) env) Q E s:=by
 refine Subscript_ (wpAny_mono h (fun o s₁ h₁=>wpAny_mono h₁ (fun i s₂ h₂=>?_) fun _ _ x=>x) fun _ _ x=>x)
 obtain ⟨hT,h₂⟩:=h₂
 unfold subscriptTail
 refine wpAny_bind ?_
 rw [getitemInPython_of_ne hT.not_modules]
 refine wpAny_bind (wpAny_specialOf hT hl ?_)
 have fin:wpAny (model prog w) A (subscripted slice false o i) (fun r s₃=>wpAny (model prog w) A (letTemporaryGo value o r >>= fun _=>pure r) Q E s₃) E s₂:=by
  rw [hs o i]
  exact wpAny_operating (wpAny_mono h₂ (fun r s₃ h₃=>wpAny_bind (wpAny_letTemporaryGo (wpAny_pure h₃))) fun _ _ x=>x)
 first
  | exact wpAny_pure (wpAny_bind fin)
  | exact wpAny_bind (wpAny_pure (wpAny_bind fin))
  | exact wpAny_bind fin
theorem ZS {X:Cx}{pins:List (Addr×Obj)}{σ:St}{H:Hp}{s:Shared}{a:Addr}{y:V}{o:Option V}(I:Inv X pins σ H s)(g:DGet H a y o):s.TypeIs (.ref a) "dict":=by
 rcases g with ⟨kvs,k,e,_,_⟩ | ⟨kvs,k,b,e,_,_,_⟩
 ·obtain ⟨_,_,vs,_,dd⟩:=uR I.hok e
  exact dd.typeIs
 ·obtain ⟨_,_,xs,_,dd⟩:=U5 I.hok e
  exact dd.typeIs
noncomputable def Kx (td ty:TE):TE:=fun σ H Q=>td σ H fun x H1=>ty σ H1 fun y H2=>∃ a v,x=.ref a/\DGet H2 a y (some v)/\Q v H2
noncomputable def z1r (td ty tv:TE):TS:=fun D σ H=>tv σ H fun v H1=>td σ H1 fun x H2=>ty σ H2 fun y H3=>∃ a H4,x=.ref a/\DPut H3 a y v H4/\D.nx σ H4
section
variable {X:Cx}{o i e value:Expr}{pos pos' tpos:Pos}{td ty tv:TE}
theorem Qq (hu:X.A.units+1<cLine)(ho:PE X o td)(hi:PE X i ty)(hs:z26 i):PE X (.Subscript o i pos) (Kx td ty):=by
 intro pins s σ H Q I h
 refine J9 PySem.F.slot_dict_getitem.lookup hs (thn (ho pins s σ H _ I h) fun u s1 ⟨x,H1,I1,rx,q1⟩=>thn (hi pins s1 σ H1 _ I1 q1) fun iv s2 ⟨y,H2,I2,ry,a,v,ex,g,q2⟩=>?_)
 subst ex
 obtain rfl:u=Value.ref a:=rx
 exact ⟨ZS I2 g,Vd hu I2 g ry fun w' s3 I3 rw'=>⟨v,H2,I3,rw',q2⟩⟩
theorem JB (hu:X.A.units+1<cLine)(ho:PE X o td)(hi:PE X i ty)(hv:PE X value tv)(hs:swapsWith value (some (.Subscript o i pos')) pos.line X.env=pure false) :
  PS X (.Assign [.Subscript o i pos'] value pos) (z1r td ty tv):=by
 intro pins s σ H D I h
 refine wpAny_Assign_Subscript (thn (hv pins s σ H _ I h) fun r s1 ⟨v,H1,I1,rv,q1⟩=>thn (ho pins s1 σ H1 _ I1 q1) fun u s2 ⟨x,H2,I2,rx,q2⟩=>thn (hi pins s2 σ H2 _ I2 q2) fun iv s3 ⟨y,H3,I3,ry,a,H4,ex,g,q3⟩=>?_) hs
 subst ex
 obtain rfl:u=Value.ref a:=rx
 exact V1 hu I3 g ry rv fun s4 I4=>⟨σ,H4,I4,q3⟩
end
theorem Yr {P:Program}{w:World}{H:Hp}(h:Heap)(hb:sysModules<h.objs.size):ObjOk P w H (h.push { cls:=.type "dict",data:=.dict #[] }) h.objs.size (.dK []) :=
 ⟨Nat.zero_le _,beq_eq_false_iff_ne.mpr (Ne.symm (Nat.ne_of_lt hb)),[],.nil,Heap.DictOf.new h⟩
noncomputable def z0Z:TE:=fun _ H Q=>∀ p,H p=none->Q (.ref p) (upd H p (.dK []))
section
variable {X:Cx}{pos:Pos}
theorem UI:PE X (.Dict [] [] pos) z0Z:=fun pins s σ H Q I h =>
 wpAny_Dict_empty ⟨.ref s.heap.objs.size,_,I.laid (a:=s.heap.objs.size) (o:=.dK []) (t':=s.toks) (fun _ _ q=>Heap.get?_push_of_some _ q) (Nat.le_refl _) (Yr s.heap I.big),rfl,h _ (I.hok.fresh (Nat.le_refl _))⟩
end
noncomputable def Zh:List (TE×TE)->St->Hp->(List (V×V)->Hp->Prop)->Prop
 | [],_,H,Q=>Q [] H
 | (tk,tv)::r,σ,H,Q=>tk σ H fun x H1=>tv σ H1 fun y H2=>Zh r σ H2 fun ps H3=>Q ((x,y)::ps) H3
noncomputable abbrev VV:List (V×V)->List (Value×Value)->Prop:=Paired fun p q=>RelV p.1 q.1/\RelV p.2 q.2
noncomputable def PPs (X:Cx)(pos:Pos)(keys:List (Option Expr))(values:List Expr)(trs:List (TE×TE)):Prop :=
 ∀ (pins:List (Addr×Obj)) (s:Shared) (σ:St) (H:Hp) (Q:List (V×V)->Hp->Prop),Inv X pins σ H s->Zh trs σ H Q ->
  wpAny (model X.prog X.w) X.A (evalPairs (pairTrees keys values X.env pos)) (fun vs s'=>∃ ps H',Inv X pins σ H' s'/\VV ps vs/\Q ps H') X.xe s
theorem QM {X:Cx}{pos:Pos}:PPs X pos [] [] []:=fun pins s σ H Q I h=>pairTrees_nil_walk ⟨[],H,I,.nil,h⟩
theorem Uu {X:Cx}{pos:Pos}{k v:Expr}{ks:List (Option Expr)}{vs:List Expr}{tk tv:TE}{trs:List (TE×TE)}(hk:PE X k tk)(hv:PE X v tv)(hr:PPs X pos ks vs trs) :
  PPs X pos (some k::ks) (v::vs) ((tk,tv)::trs):=fun pins s σ H Q I h =>
 pairTrees_cons_walk (thn (hk pins s σ H _ I h) fun u s1 ⟨x,H1,I1,rx,q1⟩=>thn (hv pins s1 σ H1 _ I1 q1) fun w2 s2 ⟨y,H2,I2,ry,q2⟩ =>
  thn (hr pins s2 σ H2 _ I2 q2) fun ws s3 ⟨ps,H3,I3,rel,q3⟩=>⟨(x,y)::ps,H3,I3,.cons ⟨rx,ry⟩ rel,q3⟩)
noncomputable def xo (kvs more:List (Key×V)):List (Key×V):=more.foldl (fun acc kv=>xQ acc kv.1 kv.2) kvs
theorem KV.merge:∀ {more:List (Key×V)} {rs:List (Key×Value)} {kvs:List (Key×V)} {vs:List (Key×Value)},KV more rs->KV kvs vs->KV (xo kvs more) (merged vs rs):=by
 intro more rs kvs vs r
 unfold KV at r
 induction r generalizing kvs vs with
 | nil=>intro q; exact q
 | @cons p q ps qs h t ih =>
  intro r0
  have e:KV (xQ kvs p.1 p.2) (stored vs q.1 q.2):=by
   have:=r0.put p.1 h.2
   rw [<- h.1]; exact this
  exact ih e
theorem uh:∀ (more kvs:List (Key×V)),(xo kvs more).length<=kvs.length+more.length
 | [],kvs=>by show kvs.length<=kvs.length+0; omega
 | p::r,kvs=>by
  have h1:=uh r (xQ kvs p.1 p.2)
  have h2:=vS kvs p.1 p.2
  show (xo (xQ kvs p.1 p.2) r).length<=_
  rw [List.length_cons]; omega
theorem jJ {P:Program}{w:World}:∀ {kvs:List (Key×V)} {ws:List (Value×Value)},VV (kvs.map fun kv=>(kV kv.1,kv.2)) ws->∃ rs,Carries (y0 P w) ws rs/\KV kvs rs
 | [],_,r=>by rw [List.map_nil] at r; cases r; exact ⟨[],True.intro,.nil⟩
 | p::kvs,_,r=>by
  rw [List.map_cons] at r
  cases r with
  | @cons a b as bs h t =>
   obtain ⟨rs,c,q⟩:=jJ (P:=P) (w:=w) t
   obtain ⟨b1,b2⟩:=b
   exact ⟨(p.1,b2)::rs,⟨Y0 h.1,rfl,c⟩,.cons ⟨rfl,h.2⟩ q⟩
noncomputable def z2A (trs:List (TE×TE)):TE:=fun σ H Q=>∀ p,H p=none->Zh trs σ (upd H p (.dK [])) fun ps H2=>H2 p=some (.dK [])/\∃ kvs:List (Key×V),ps=kvs.map (fun kv=>(kV kv.1,kv.2))/\kvs.length<=15/\Q (.ref p) (upd H2 p (.dK (xo [] kvs)))
theorem QW {X:Cx}{pos:Pos}{keys:List (Option Expr)}{values:List Expr}{trs:List (TE×TE)}(h:PPs X pos keys values trs)(hall:keys.all (·.isSome)=true)(hl:keys.length=values.length)(h0:keys≠[])
  (h15:keys.length<=15):PE X (.Dict keys values pos) (z2A trs):=by
 intro pins s σ H Q I q
 have hn:=I.hok.fresh (Nat.le_refl s.heap.objs.size)
 have I1:=I.laid (a:=s.heap.objs.size) (o:=.dK []) (h':=s.heap.push { cls:=.type "dict",data:=.dict #[] }) (t':=s.toks) (fun _ _ q=>Heap.get?_push_of_some _ q) (Nat.le_refl _) (Yr s.heap I.big)
 refine wpAny_Dict_walk (knd:=y0 X.prog X.w) hall hl h0 h15 (thn (h pins _ σ _ _ I1 (q _ hn)) fun ws s2 ⟨ps,H2,I2,rel,e,kvs,ep,lk,q2⟩=>?_)
 subst ep
 obtain ⟨rs,c,rk⟩:=jJ (P:=X.prog) (w:=X.w) rel
 obtain ⟨z,hd,vs0,r0,dd⟩:=Ks I2.hok e
 cases r0
 refine ⟨rs,c,dd,fun h' dd' hs=>⟨.ref s.heap.objs.size,_,?_,rfl,q2⟩⟩
 have hz:(xo [] kvs).length<=sizeLine:=by
  have h1:=uh kvs []
  rw [List.length_nil] at h1
  rw [sizeLine_eq]; omega
 have he:∃ q,h'.get? s.heap.objs.size=some q:=let ⟨q,_,_,hq,_⟩:=dd'; ⟨q,hq⟩
 exact Zb I2 (by rw [e]; exact True.intro) hs he (U4 hz hd (rk.merge .nil) dd')
structure M1 (X:Cx)(o:Expr)(m:Str)(apos:Pos)(e:Expr)(cpos:Pos):Prop where
 base:attributeBase o m X.env (eval o X.env)=eval o X.env
 few:((backTo cpos (starEach [e] X.env)).all (fun x=>!x.1)&&(backToKw cpos (keywordEach [] X.env)).all (fun x=>x.1.isSome)
  && decide (([e]:List Expr).length+([]:List Keyword).length+(if ([]:List Keyword).isEmpty then 0 else 1)<30))=true
 line:(apos.endLine==cpos.line)=true
 trees:backTo cpos (starEach [e] X.env)=[(false,eval e X.env)]
structure M2 (X:Cx)(o:Expr)(m:Str)(apos:Pos)(e f:Expr)(cpos:Pos):Prop where
 base:attributeBase o m X.env (eval o X.env)=eval o X.env
 few:((backTo cpos (starEach [e,f] X.env)).all (fun x=>!x.1)&&(backToKw cpos (keywordEach [] X.env)).all (fun x=>x.1.isSome)
  && decide (([e,f]:List Expr).length+([]:List Keyword).length+(if ([]:List Keyword).isEmpty then 0 else 1)<30))=true
 line:(apos.endLine==cpos.line)=true
 trees:backTo cpos (starEach [e,f] X.env)=[(false,eval e X.env),(false,eval f X.env)]
section
variable {X:Cx}{pins:List (Addr×Obj)}{σ:St}{H:Hp}{s:Shared}{a:Addr}{y d:V}{u r:Value}{o:Option V}{A:Around}{E:Value->Shared->Prop}
end
section
variable {X:Cx}{o e f:Expr}{apos cpos:Pos}{td ty tx:TE}
end
section
variable {X:Cx}{pins:List (Addr×Obj)}{σ:St}{H:Hp}{s:Shared}{a:Addr}{kvs:List (Key×V)}{A:Around}{E:Value->Shared->Prop}
end
section
variable {X:Cx}{pins:List (Addr×Obj)}{σ:St}{H:Hp}{s:Shared}{a:Addr}{y:V}{u:Value}{A:Around}{E:Value->Shared->Prop}
end
end L2
namespace Att
open PySem PySem.W PySem.Calls PyProof.Rows
theorem qL {P:Params}{h:Heap}:∀ (ns:List Int) (vs:List Value),WellAll P h vs (ns.map WData.int)->IntsAre vs ns:=by
 intro ns
 induction ns with
 | nil =>
  intro vs w
  rw [List.map_nil] at w
  cases w
  exact .nil
 | cons n ns ih =>
  intro vs w
  rw [List.map_cons] at w
  cases w with
  | cons a b =>
   cases a
   exact .cons _ _ (ih _ b)
theorem WJ {l:OpenLaw}{n:Nat}(hn:l.most=some n){P:Params}{h:Heap}{args:List WData}{vals:List Value}
  (hpre:l.row.toRowW.claim.pre args=true) (hwl:WellAll P h vals args) :
  ∃ a vs ns,vals=[Value.ref a]/\args=[WData.list (ns.map WData.int)]/\h.get? a=some { cls:=.type "list",data:=.seq vs.toArray }/\IntsAre vs ns/\ns.length<=n:=by
 have hsh:WShape.hasAll [] args [.list .int]=true:=(pre_splitW hpre).1
 have hc:l.pre.holds [] { args:=args }=true:=(pre_splitW hpre).2
 obtain ⟨d,r,rfl,h1,h2⟩:=hasAllW_cons hsh
 obtain rfl:=hasAllW_nil h2
 obtain ⟨xs,rfl,h3⟩:=hasW_list h1
 obtain ⟨ns,rfl⟩:=items_int h3
 have hlen:ns.length<=n:=by
  unfold OpenLaw.pre at hc
  have h4:(WTm.not (.lt (.lit (.int (n:Int))) (.len (.arg 0)))).holds [] { args:=[.list (ns.map .int)] }=true:=by
   have h4:=(holds_andW hc).1
   rw [hn] at h4
   exact h4
  have h5:=condW_of h4 (w_not (w_lt w_lit (w_len_list (w_arg rfl))))
  rw [List.length_map] at h5
  refine Nat.le_of_not_lt fun q=>?_
  have q':(n:Int)<((ns.length:Nat):Int):=by omega
  first
   | (rw [decide_eq_true q'] at h5; exact absurd h5 (by decide))
   | (simp at h5; omega)
 cases hwl with
 | cons w1 w2 =>
  cases w2
  cases w1 with
  | list ho hall=>exact ⟨_,_,ns,rfl,rfl,ho,qL ns _ hall,hlen⟩
theorem Vb (l:OpenLaw)(args:List WData):l.row.toRowW.claim.post args (.bool true) args=true :=
 postW_of (r:=l.row.toRowW) (X:=(true==true))
  (show WShape.has [] (.bool true) .bool=true by first | rfl | decide | simp [WShape.has,WShape.arms,WShape.armsAll])
  (show (WTm.eq .res (.lit (.bool true))).value [] { args:=args,res:=some (.bool true),after:=args }=some (.bool (true==true)) from w_eq_bool (w_res rfl) w_lit) rfl
theorem attach_call {l:OpenLaw}{n:Nat}{q:Program}{loose:List Str}{XP:(Str->Option Value)->Heap->Prop}{YP:World->Heap->Prop}{d:DefRec}
  (hn:l.most=some n) (hdf:d.params.defaults=[])
  (call:∀ (w:World) (s₀ s₁:Shared) (mg mb:Str->Option Value) (fa:Addr) (o:Obj) (pm cd doc:Value) (a:Addr) (vs:List Value) (ns:List Int),
   Ground q loose [] XP w s₀ mg mb s₁.heap->YP w s₁.heap ->
   s₁.heap.get? fa=some o->o.data=.func (docDef d.name d.params d.body d.scope pm cd doc)->s₁.heap.CodeRec cd d.name->mg d.name=some (.ref fa) ->
   s₁.heap.get? a=some { cls:=.type "list",data:=.seq vs.toArray }->IntsAre vs ns->ns.length<=n->s₁.gens=#[] ->
   codeAny (model l.prog w) callerA (.call (.ref fa) ⟨[.ref a],[]⟩) (fun r s'=>r=.ok (.ret (.bool true))/\OldK s₁.heap s'.heap/\s'.os=s₁.os/\AllBare s'.gens) s₁) :
  WalkO q loose XP YP l.row.toRowW d [] (fun f vs=>PySem.call f vs):=by
 intro w s₀ s₁ mg mb G Y fa o pm cd doc dV kV ho hd hcd hD hmg hg args vals as hpre hlay hrd hwl hlo
 obtain rfl:dV=.none:=Dflts.none hD hdf
 obtain rfl:kV=.none:=Dflts.noKw hD
 obtain ⟨a,vs,ns,rfl,rfl,hobj,hints,hlen⟩:=WJ hn hpre hwl
 refine enter_call (codeAny_mono (call w s₀ s₁ mg mb fa o pm cd doc a vs ns G Y ho (fd_plain hd) hcd hmg hobj hints hlen hg) fun r s' hq=>?_)
 obtain ⟨rfl,h2,h3,h4⟩:=hq
 exact ⟨.inl ⟨.bool true,.bool true,[],rfl,fun _=>rfl,.bool true,Vb l _,fun _=>⟨List.Pairwise.nil,fun _ hm=>(nomatch hm)⟩⟩,h2,h3,h4⟩
section
variable {prog:Program}{w:World}{A:Around}{E:Value->Shared->Prop}{s:Shared}{K:Frag}
end
end Att
namespace L2
open PySem PySem.Spec PyProof.Rows
theorem kN:∀ {vs:List Value} {ns:List Int},IntsAre vs ns->Vals (ns.map V.int) vs
 | _,_,.nil=>.nil
 | _,_,.cons n t h=>.cons ⟨t,rfl⟩ (kN h)
noncomputable def QO (H:Hp):Prop:=∀ b,H b=none\/∃ o xs,H b=some (.frz o (.lst xs))
theorem UN {P:Program}{w:World}{K:PySem.W.Frag}{mg mb:Str->Option Value}{CX:CXT}{k:Nat}{fa a:Addr}{fd:FuncData}{x:Str}{sp:Sp}{s₁:Shared}{vs:List Value}{ns:List Int}
  (KX:K.In s₁.heap) (hns:s₁.heap.Ns mainGlobals mg) (hb:s₁.heap.Ns builtinsNs mb) (hbb:∀ x:Str,x≠"__name__"->mb x=bootBuiltins x) (hlim:s₁.heap.NoLimit) (hg:s₁.gens=#[])
  (ha:s₁.heap.get? a=some { cls:=.type "list",data:=.seq vs.toArray }) (hi:IntsAre vs ns) (hl:ns.length<=sizeLine) (hr:Room k callerA)
  (F:∀ base:Heap,K.In base->base.Ns mainGlobals mg->FnOk P w K mg base CX k fa fd [x] sp) (hbind:∀ (s:Shared) (u:Value),BindsTo s fd ⟨[u],[]⟩ [(x,u)])
  (hsp:∀ H:Hp,QO H->SqL K H a (ns.map V.int)->sp [.ref a] H (fun v _=>v=.bl true) fun _ _ _=>False)
  (hCX:∀ H e s',CX [] H s₁ (fun _ _ _=>False) e s'->False) :
  codeAny (model P w) callerA (.call (.ref fa) ⟨[.ref a],[]⟩) (fun r s'=>r=.ok (.ret (.bool true))/\OldK s₁.heap s'.heap/\s'.os=s₁.os/\AllBare s'.gens) s₁:=by
 have rv:=kN hi
 have lenV:=hi.length
 have core:∀ H:Hp,QO H->SqL K H a (ns.map V.int)->HOk P w H s₁.heap->(∀ b,H b≠none->b=a)->(H a≠none->K.lookup a=none) ->
   codeAny (model P w) callerA (.call (.ref fa) ⟨[.ref a],[]⟩) (fun r s'=>r=.ok (.ret (.bool true))/\OldK s₁.heap s'.heap/\s'.os=s₁.os/\AllBare s'.gens) s₁:=by
  intro H hO hS hok hA hK
  have base_of:∀ {b:Addr} {o:Obj},s₁.heap.get? b=some o->H b=none->(Z7 s₁.heap H).get? b=some o:=fun e n=>UT e n
  have noA:∀ {b:Addr} {o:Obj} {es:Array DictEntry} {ep:Nat},s₁.heap.get? b=some o->o.data=.dict es ep->H b=none:=fun {b o es ep} e d=>by
   cases q:H b with
   | none=>rfl
   | some u =>
    have e':b=a:=hA b (by rw [q]; simp)
    subst e'
    rw [ha] at e; cases e
    have d':Data.seq vs.toArray _=Data.dict es ep:=d
    cases d'
  have nsK:∀ {b:Addr} {m:Str->Option Value},s₁.heap.Ns b m->(Z7 s₁.heap H).Ns b m:=fun {b m} ⟨o,es,ep,e,d,r⟩=>⟨o,es,ep,base_of e (noA e d),d,r⟩
  have hKb:K.In (Z7 s₁.heap H):=fun b o e=>base_of (KX b o e) (by
   cases q:H b with
   | none=>rfl
   | some u =>
    have e':b=a:=hA b (by rw [q]; simp)
    subst e'
    rw [hK (by rw [q]; simp)] at e; cases e)
  have hM:Mod K mg (Z7 s₁.heap H):=⟨hKb,nsK hns,⟨mb,nsK hb,hbb⟩,let ⟨mc,h1,h2⟩:=hlim; ⟨mc,nsK h1,h2⟩⟩
  have e0:Env0 P w K mg (Z7 s₁.heap H) callerA [] s₁ H:=⟨rfl,hM,fun b o e=>Jg e,Nat.le_of_eq (WI _ _),trivial,fun b hb=>absurd (show b∈([]:List Addr) from hb) (by simp),hok,.of_eq hg⟩
  refine codeAny_mono ((F _ hKb (nsK hns)).run callerA [] s₁ H ⟨[.ref a],[]⟩ [.ref a] [.ref a] _ _ hr e0 (hbind s₁ (.ref a)) (.cons rfl .nil) (hsp H hO hS)) fun r s' h=>?_
  cases r with
  | error e=>exact (hCX H e s' h).elim
  | ok fl =>
   cases fl with
   | next=>exact False.elim h
   | brk=>exact False.elim h
   | cont=>exact False.elim h
   | ret u =>
    obtain ⟨v,H',os,bare,un,hok',r',q⟩:=h
    have q':v=.bl true:=q
    subst q'
    obtain rfl:u=Value.bool true:=r'
    refine ⟨rfl,OldK.of_keep fun b o e=>?_,os,bare⟩
    cases q:H b with
    | none=>exact un.keep b o e q (by intro z; exact absurd (show b∈([]:List Addr) from z) (by simp)) (by simp)
    | some u =>
     rcases hO b with z | ⟨ob,xs,z⟩
     ·rw [q] at z; cases z
     ·have z2:=un.frzs b ob _ z
      obtain ⟨e1,_⟩:=hok b _ z
      obtain ⟨e2,_⟩:=hok' b _ z2
      rw [e] at e1; cases e1
      exact e2
 cases hk:K.lookup a with
 | some o =>
  have e:=KX a o hk
  rw [ha] at e
  cases e
  refine core (fun _=>none) (fun _=>.inl rfl) (.inr ⟨_,vs.toArray,_,hk,rfl,rfl,rfl,by rw [List.size_toArray,lenV]; exact hl,by simpa using rv⟩) (fun b u z=>by have z':(none:Option HO)=some u:=z; cases z') (fun b z=>absurd rfl z) fun z=>absurd rfl z
 | none =>
  refine core (fun b=>if b=a then some (.frz { cls:=.type "list",data:=.seq vs.toArray } (.lst (ns.map V.int))) else none) (fun b=>?_) (.inl (.inr ⟨{ cls:=.type "list",data:=.seq vs.toArray },if_pos rfl⟩)) (fun b u z=>?_) (fun b z=>?_) fun _=>hk
  ·by_cases hb:b=a
   ·exact .inr ⟨_,_,if_pos hb⟩
   ·exact .inl (if_neg hb)
  ·by_cases hb:b=a
   ·have z':=(if_pos hb).symm.trans z
    cases z'
    subst hb
    exact ⟨ha,by rw [List.length_map]; exact hl,vs,_,rv,ha⟩
   ·have z':=(if_neg hb).symm.trans z
    cases z'
  ·by_cases hb:b=a
   ·exact hb
   ·exact absurd (if_neg hb) z
open PySem PySem.Spec PyProof.Rows
theorem walk_of {l:PySem.W.OpenLaw}{n k:Nat}{q:Program}{loose:List Str}{XP:(Str->Option Value)->Heap->Prop}{YP:World->Heap->Prop}{d:DefRec}{K:Params->PySem.W.Frag}{CX:World->CXT}{sp:World->Sp}{x:Str}
  (hn:l.most=some n) (hn2:n<=sizeLine) (hdf:d.params.defaults=[]) (hr:Room k callerA)
  (hY:∀ (w:World) (h:Heap),YP w h->(K w.params).In h)
  (F:∀ (w:World) (mg:Str->Option Value) (fa:Addr) (h:Heap),(K w.params).In h->h.Ns mainGlobals mg->mg d.name=some (.ref fa) ->
   ∃ fd:FuncData,(∀ (s:Shared) (u:Value),BindsTo s fd ⟨[u],[]⟩ [(x,u)]) /\
    ∀ base:Heap,(K w.params).In base->base.Ns mainGlobals mg->FnOk l.prog w (K w.params) mg base (CX w) k fa fd [x] (sp w))
  (hsp:∀ (w:World) (H:Hp) (a:Addr) (ns:List Int),ns.length<=n->QO H->SqL (K w.params) H a (ns.map V.int)->sp w [.ref a] H (fun v _=>v=.bl true) fun _ _ _=>False)
  (hCX:∀ (w:World) (H:Hp) (s:Shared) (e:Value) (s':Shared),CX w [] H s (fun _ _ _=>False) e s'->False) :
  PySem.W.WalkO q loose XP YP l.row.toRowW d [] (fun f vs=>PySem.call f vs):=by
 refine Att.attach_call hn hdf fun w s₀ s₁ mg mb fa o pm cd doc a vs ns G Y ho hd hcd hmg hobj hints hlen hg=>?_
 have KX:=hY w _ Y
 obtain ⟨fd,hb,hF⟩:=F w mg fa _ KX G.T.g hmg
 exact UN KX G.T.g G.T.b G.T.builtins G.T.nolimit hg hobj hints (Nat.le_trans hlen hn2) hr hF hb (fun H hO hS=>hsp w H a ns hlen hO hS) fun H e s'=>hCX w H s₁ e s'
open PySem PySem.Spec PyProof.Rows
noncomputable def defArgs (s:Stmt):Arguments:=match s with
 | .FunctionDef _ a _ _ _ _ _ _ _ _=>a
 | _=>{ posonlyargs:=[],args:=[],vararg:=none,kwonlyargs:=[],kw_defaults:=[],kwarg:=none,defaults:=[] }
noncomputable def defBody (s:Stmt):List Stmt:=match s with
 | .FunctionDef _ _ b _ _ _ _ _ _ _=>b
 | _=>[]
noncomputable def defScope (s:Stmt):Scope:=match s with
 | .FunctionDef _ _ _ _ _ _ sc _ _ _=>sc
 | _=>{ kind:=.function,names:=[],isGenerator:=false,isCoroutine:=false }
noncomputable abbrev CX0:CXT:=fun _ _ _ _ _ _=>False
structure Fun (K:PySem.W.Frag)(x qual:Str)(st:Stmt)(f:Addr)(fd:FuncData):Prop where
 ex:∃ (oc:Value) (od:Option Addr) (kV doc pm:Value) (an:Option Addr) (cdv ct:Value) (osl:Array (Option Value)),
  fd=PySem.W.fnOf x qual (defArgs st) (defBody st) (defScope st) .none kV doc pm an cdv ct/\K.lookup f=some ⟨oc,od,.func fd,osl⟩/\PySem.W.codeIn K cdv qual=true
 kp:PySem.W.keepIn K (.ref f)=true
section
variable {P:Program}{w:World}{K:PySem.W.Frag}{mg:Str->Option Value}{base:Heap}
theorem Fun.ok {x qual:Str}{st:Stmt}{f:Addr}{fd:FuncData}{N ps:List Str}{k:Nat}{sp:Sp}(F:Fun K x qual st f fd)(S:FnScope N ps (defScope st))(len:∀ vs H Q E,sp vs H Q E->vs.length=ps.length)
  (hbody:∀ (cdv:Value) (A:Around) (outer:List Env) (s:Shared) (H:Hp) (vs:List V) (Q:VK) (E:XK),Room k (A.deeper (envOfC qual (defScope st) s.heap.objs.size f cdv))->sp vs H Q E ->
   ∃ t,PSs (yX CX0 P w K mg base N qual (defScope st) f cdv A outer s H E).nox (defBody st) t/\t { nx:=fun _ H'=>Q .non H',rt:=Q } (start N vs) H):FnOk P w K mg base CX0 (k+1) f fd ps sp:=by
 obtain ⟨oc,od,kV,doc,pm,an,cdv,ct,osl,rfl,lk,hcd⟩:=F.ex
 refine Ut lk hcd S len fun A outer s H vs Q E hr hsp=>?_
 obtain ⟨t,h,q⟩:=hbody cdv A outer s H vs Q E hr hsp
 exact ⟨t,h.nox,q⟩
theorem Fun.binds {x qual:Str}{st:Stmt}{f:Addr}{fd:FuncData}{ps:List Str}(F:Fun K x qual st f fd)
  (h:∀ (kV doc pm:Value) (an:Option Addr) (cdv ct:Value) (us:List Value),us.length=ps.length->bindArgs (PySem.W.fnOf x qual (defArgs st) (defBody st) (defScope st) .none kV doc pm an cdv ct) ⟨us,[]⟩=pure (ps.zip us)):Binds K fd ps []:=by
 obtain ⟨oc,od,kV,doc,pm,an,cdv,ct,osl,rfl,lk,hcd⟩:=F.ex
 exact .all (h kV doc pm an cdv ct)
theorem Ud {x qual:Str}{st:Stmt}{f:Addr}{oc:Value}{od an:Option Addr}{osl:Array (Option Value)}{kV doc pm cdv ct:Value}(l:K.lookup f=some ⟨oc,od,.func (PySem.W.fnOf x qual (defArgs st) (defBody st) (defScope st) .none kV doc pm an cdv ct),osl⟩)
  (c:PySem.W.codeIn K cdv qual=true) (k:PySem.W.keepIn K (.ref f)=true):Fun K x qual st f (PySem.W.fnOf x qual (defArgs st) (defBody st) (defScope st) .none kV doc pm an cdv ct):=⟨⟨oc,od,kV,doc,pm,an,cdv,ct,osl,rfl,l,c⟩,k⟩
end
section
variable {X:Cx}
theorem pv (i:Nat){x:Str}{pos:Pos}(hN:autoParam (X.N[i]?=some x) L2.au3._auto_1)(hv:autoParam (Vis X.env.scope x) L2.au5._auto_1)(hd:autoParam ((x==("__debug__":Str))=false) L2.au1._auto_1)
  (hcd:autoParam ((x==("__classdict__":Str))=false) L2.au1._auto_1):PE X (.Name x pos) (Jz i):=vC hN hv hd hcd
theorem WR:CallR X (.builtin "len") (fun xs H Q=>∃ a kvs,xs=[V.ref a]/\H a=some (.dK kvs)/\Q (.int kvs.length) H):=by
 intro pins s σ H xs us Q I r h
 obtain ⟨a,kvs,rfl,ha,q⟩:=h
 obtain ⟨u,rfl,ru⟩:=v9 r
 cases ru
 exact z1K I (.inl ha) fun t s' I'=>⟨.int kvs.length,H,I',⟨t,rfl⟩,q⟩
end
theorem z0c {A B:Prop}(h:B):if false=true then A else B:=by
 rw [if_neg Bool.false_ne_true]
 exact h
theorem z1S {A B:Prop}(h:A):if true=true then A else B:=by
 rw [if_pos rfl]
 exact h
noncomputable def Same (H H':Hp):Prop:=∀ b o,H b=some o->H' b=some o
theorem Same.refl (H:Hp):Same H H:=fun _ _ h=>h
theorem Same.trans {H H1 H2:Hp}(a:Same H H1)(b:Same H1 H2):Same H H2:=fun c o h=>b c o (a c o h)
theorem Same.free {H H':Hp}(e:Same H H'){l:Addr}(h:H' l=Option.none):H l=Option.none:=by
 cases q:H l with
 | none=>rfl
 | some o =>
  rw [e l o q] at h
  cases h
theorem Same.seq {K:PySem.W.Frag}{H H':Hp}{a:Addr}{xs:List V}(e:Same H H')(h:SqL K H a xs):SqL K H' a xs:=by
 rcases h with (h | ⟨o,h⟩) | h
 ·exact .inl (.inl (e _ _ h))
 ·exact .inl (.inr ⟨o,e _ _ h⟩)
 ·exact .inr h
section
variable {κ:Type}[DecidableEq κ]
end
open PySem PySem.Spec PyProof.Rows
noncomputable def z2R (fr:List Env)(H:Hp)(old:Addr->Prop)(e:Addr)(cls:Value)(h:Heap):Prop :=
 ∃ (B:Heap) (a0:Value),Heap.FlyingW B fr e cls a0 h/\∀ b o,h.get? b=some o->b∉frs fr->(H b≠none\/old b)->B.get? b=some o
noncomputable def cxx (P:Program)(w:World):CXT:=fun outer H s E ev s'=>∃ (e:Addr) (cls:Value) (H':Hp),ev=.ref e/\s'.os=s.os/\AllBare s'.gens /\
 Un (frs outer) [] H H' s.heap s'.heap/\HOk P w H' s'.heap/\z2R outer H' (fun b=>∃ o,s.heap.get? b=some o) e cls s'.heap/\E cls none H'
theorem ObjOk.there {P:Program}{w:World}{H:Hp}{h:Heap}{a:Addr}{o:HO}(x:ObjOk P w H h a o):∃ ob,h.get? a=some ob:=by
 cases o with
 | lst xs=>obtain ⟨_,_,_,_,e⟩:=x; exact ⟨_,e⟩
 | tup xs=>obtain ⟨_,_,_,_,e,_⟩:=x; exact ⟨_,e⟩
 | dK kvs=>obtain ⟨_,_,_,_,o,_,_,e,_⟩:=x; exact ⟨_,e⟩
 | dT kvs=>obtain ⟨_,_,_,_,o,_,_,e,_⟩:=x; exact ⟨_,e⟩
 | set S n=>obtain ⟨o,_,_,_,e,_⟩:=x; exact ⟨_,e⟩
 | ins C dx fs=>obtain ⟨_,_,_,e,_⟩:=x; exact ⟨_,e⟩
 | own y=>obtain ⟨_,e⟩:=x; exact ⟨_,e⟩
 | xd fs=>obtain ⟨_,⟨_,_,_,e,_⟩,_⟩:=x; exact ⟨_,e⟩
 | rng lo hi=>obtain ⟨_,_,_,e⟩:=x; exact ⟨_,e⟩
 | frz ob u=>obtain ⟨e,_⟩:=x; exact ⟨_,e⟩
 | tbl ps=>exact ⟨_,(show h.get? a=some _ from x)⟩
 | met f y=>exact ⟨_,(show h.get? a=some _ from x)⟩
 | ext φ=>obtain ⟨_,⟨_,e⟩,_⟩:=x; exact ⟨_,e⟩
section
variable {X:Cx}{pins:List (Addr×Obj)}{σ:St}{H:Hp}{s:Shared}
theorem Inv.trkNo (I:Inv X pins σ H s){b:Addr}{u:HO}(q:H b=some u):b∉frs X.stack:=fun m=>by
 have z:=I.stkFree b m
 rw [q] at z; cases z
theorem Inv.oldNo (I:Inv X pins σ H s)(hst:X.stack=X.env::X.outer)(hf:X.env.frame=some X.env.locals){b:Addr}{o:Obj}(q:X.s₀.heap.get? b=some o)(n:b∉X.fs):b∉frs X.stack:=fun m=>by
 rcases List.mem_cons.mp (I.stkSub b m) with z | z
 ·exact absurd z (Nat.ne_of_lt (Nat.lt_of_lt_of_le (Heap.lt_size q) I.ok.above))
 ·exact n z
theorem XW {h' B:Heap}{e:Addr}{cls a0:Value}{E:XK}(I:Inv X pins σ H s)(hst:X.stack=X.env::X.outer)(hf:X.env.frame=some X.env.locals)(hex:X.ex=[])
  (fl:Heap.FlyingW B X.outer e cls a0 h') (cov:∀ b o,s.heap.get? b=some o->b∉frs X.stack->(H b≠none\/∃ o,X.s₀.heap.get? b=some o)->B.get? b=some o)
  (up:s.heap.UpToSlots h') (hE:E cls none H):cxx X.prog X.w X.outer X.H₀ X.s₀ E (.ref e) { s with heap:=h' }:=by
 have nex:∀ b:Addr,b∉X.ex:=fun b z=>by rw [hex] at z; cases z
 have trkd:∀ b u v,H b=some u->s.heap.get? b=some v->h'.get? b=some v:=fun b u v q r=>fl.1 b v (cov b v r (I.trkNo q) (.inl (by rw [q]; simp)))
 have oldd:∀ b o v,X.s₀.heap.get? b=some o->b∉X.fs->s.heap.get? b=some v->h'.get? b=some v:=fun b o v q n r=>fl.1 b v (cov b v r (I.oldNo hst hf q n) (.inr ⟨o,q⟩))
 have frms:∀ b o,b∈X.fs->s.heap.get? b=some o->∃ sl,h'.get? b=some { o with slots:=sl }:=fun b o hb q=>by
  obtain ⟨_,o2,ho2,nf⟩:=I.funs.mem hb
  rw [q] at ho2; cases ho2
  exact up b o q nf
 refine ⟨e,cls,H,rfl,I.os,I.bare,⟨fun b o q n hb hx=>?_,fun b o q n hb hx=>?_,fun b o q n hx=>I.base.free b o q n (nex b),fun b o q hx=>?_,I.base.tups,I.base.frzs,I.base.tbls⟩,fun b u q=>?_,⟨B,a0,fl,fun b o q n hor=>?_⟩,hE⟩
 ·exact oldd b o o q hb (I.base.keep b o q n hb (nex b))
 ·obtain ⟨sl,e1⟩:=I.base.slot b o q n hb (nex b)
  obtain ⟨sl',e2⟩:=frms b _ hb e1
  exact ⟨sl',e2⟩
 ·obtain ⟨o1,e1⟩:=I.base.there b o q (nex b)
  by_cases hb:b∈X.fs
  ·obtain ⟨sl,e2⟩:=frms b o1 hb e1
   exact ⟨_,e2⟩
  ·exact ⟨o1,oldd b o o1 q hb e1⟩
 ·refine (I.hok b u q).stay (fun c v hc r=>?_) (fun _ z=>z) fun _ _ z=>z
  rcases hc with z | z
  ·exact trkd c u v (by rw [z]; exact q) r
  ·exact trkd c _ v z r
 ·have q:h'.get? b=some o:=q
  rcases hor with hb | ⟨o0,e0⟩
  ·obtain ⟨u,hu⟩:=Option.ne_none_iff_exists'.mp hb
   obtain ⟨o1,e1⟩:=(I.hok b u hu).there
   have:=trkd b u o1 hu e1
   rw [q] at this; cases this
   exact cov b _ e1 (I.trkNo hu) (.inl hb)
  ·obtain ⟨o1,e1⟩:=I.base.there b o0 e0 (nex b)
   have:=oldd b o0 o1 e0 n e1
   rw [q] at this; cases this
   exact cov b _ e1 (I.oldNo hst hf e0 n) (.inr ⟨o0,e0⟩)
end
section
variable {P:Program}{w:World}{K:PySem.W.Frag}{mg:Str->Option Value}{base:Heap}{N:List Str}{qual:Str}{scope:Scope}{f:Addr}{cd:Value}{A:Around}{outer:List Env}{s:Shared}{H:Hp}{E:XK}
theorem zi:uo (cxx P w) (yX (cxx P w) P w K mg base N qual scope f cd A outer s H E) E:=by
 intro pins σ H1 s1 ev s' I hq
 obtain ⟨e,cls,H',rfl,os,bare,un,hok,⟨B,a0,fl,cov⟩,hE⟩:=hq
 have I':=I.call' (ch:=[]) os un hok bare (fun b z=>nomatch z)
 have hfr:(A.deeper (envOfC qual scope s.heap.objs.size f cd)).frames=some (envOfC qual scope s.heap.objs.size f cd::outer):=I.ok.frames
 refine wpAny_leaves_onW (L:=s.heap.objs.size) hfr rfl fl fun h' fl' up=>?_
 exact XW (E:=E) I' rfl rfl rfl fl' (fun b o e1 e2 e3=>cov b o e1 e2 (by
  rcases e3 with z | ⟨o0,z⟩
  ·exact .inl z
  ·exact .inr (I.base.there b o0 z (fun q=>nomatch q)))) up hE
theorem wZ {X:Cx}:uo (cxx P w) X (fun _ _ _=>False):=fun _ _ _ _ _ _ _ ⟨_,_,_,_,_,_,_,_,_,z⟩=>z.elim
theorem Vz {outer:List Env}{H:Hp}{s:Shared}{e:Value}{s':Shared}(h:cxx P w outer H s (fun _ _ _=>False) e s'):False:=let ⟨_,_,_,_,_,_,_,_,_,z⟩:=h; z
end
structure ErrCls (K:PySem.W.Frag)(mg:Str->Option Value)(x:Str)(C:Addr)(bm:List Value)(newId:String):Prop where
 gl:mg x=some (.ref C)
 own:∀ h:Heap,K.In h->h.Ns mainGlobals mg->OwnCls x C bm newId mg h
theorem ZX {mg mb:Str->Option Value}{h:Heap}(g:h.Ns mainGlobals mg)(b:h.Ns builtinsNs mb)(bb:∀ x:Str,x≠"__name__"->mb x=bootBuiltins x)(nl:h.NoLimit)(p:Program):∃ loose,PySem.W.TopRead p loose mg mb h:=by
 obtain ⟨o,es,ep,ho,hd,hk,hf⟩:=id g
 refine ⟨es.toList.filterMap fun e=>match e.key with | .str y _=>some y | _=>none,g,b,nl,bb,fun x _ hx _ _ _=>?_⟩
 rw [<- hf]
 unfold nsFind findBy
 rw [<- Array.find?_toList]
 cases q:es.toList.find? (fun e=>e.key.isStr x) with
 | none=>rfl
 | some en =>
  exfalso
  have hm:=List.mem_of_find?_eq_some q
  have hp:=List.find?_some q
  obtain ⟨y,t,hy⟩:=hk en (by simpa using hm)
  rw [hy] at hp
  have hxy:y=x:=by simpa [Value.isStr] using hp
  exact hx (List.mem_filterMap.mpr ⟨en,hm,by rw [hy,hxy]⟩)
open PySem PySem.Spec PyProof.Rows
structure ErrC (K:PySem.W.Frag)(x:Str)(C:Addr):Prop where
 ns:PySem.W.nsIn K mainGlobals x=some (some (.ref C))
 ex:PySem.W.excIn K C [.type "ValueError",.type "Exception",.type "BaseException",.type "object"] "ValueError.__new__"=true
theorem ErrC.mg {K:PySem.W.Frag}{x:Str}{C:Addr}{h:Heap}{mg:Str->Option Value}(e:ErrC K x C)(X:K.In h)(G:h.Ns mainGlobals mg):mg x=some (.ref C):=PySem.W.mg_of X G e.ns
section
variable {X:Cx}{pins:List (Addr×Obj)}{σ:St}{H:Hp}{s:Shared}
theorem Inv.ownCls {x:Str}{C:Addr}(I:Inv X pins σ H s)(e:ErrC X.K x C):OwnCls x C [.type "ValueError",.type "Exception",.type "BaseException",.type "object"] "ValueError.__new__" X.mg X.base:=by
 obtain ⟨mb,b1,b2⟩:=I.mod.blt
 obtain ⟨loose,T⟩:=ZX I.mod.glob b1 b2 I.mod.nolimit X.prog
 exact PySem.W.own_of_in I.mod.kin T e.ns e.ex
theorem UW {P:Program}{w:World}{K:PySem.W.Frag}{mg:Str->Option Value}{base:Heap}{N:List Str}{qual:Str}{scope:Scope}{f:Addr}{cd:Value}{A:Around}{outer:List Env}{s:Shared}{H:Hp}{E:XK}
  {pins:List (Addr×Obj)} {σ:St} {H1:Hp} {s1:Shared} {h':Heap} {e:Addr} {cls:Value} {vs:List Value} (I:Inv (yX (cxx P w) P w K mg base N qual scope f cd A outer s H E) pins σ H1 s1)
  (hx:Heap.MadeExcOf s1.heap h' e cls vs) (hE:E cls none H1):(yX (cxx P w) P w K mg base N qual scope f cd A outer s H E).xe (.ref e) { s1 with heap:=h' }:=by
 have hfr:(A.deeper (envOfC qual scope s.heap.objs.size f cd)).frames=some (envOfC qual scope s.heap.objs.size f cd::outer):=I.ok.frames
 have fs:=I.stack
 have hin:∀ env∈(envOfC qual scope s.heap.objs.size f cd::outer),∀ b,env.frame=some b->b∈frs (envOfC qual scope s.heap.objs.size f cd::outer):=fun env he b hb=>List.mem_filterMap.mpr ⟨env,he,hb⟩
 refine wpAny_leaves_madeW (L:=s.heap.objs.size) (base:=PySem.W.hideAll s1.heap (frs (envOfC qual scope s.heap.objs.size f cd::outer))) hfr rfl (fun b o q=>PySem.W.of_hideAll _ q) (PySem.W.funFrames_hide fs hin) hx fun h2 t fl tup nt up=>?_
 refine XW (E:=E) (h':=h2) I rfl rfl rfl fl (fun b o q n _=>PySem.W.hideAll_get _ q n) (fun b o q nf=>?_) hE
 exact up b o (hx.keeps b o q) nf
end
noncomputable def Uq (C:Addr)(E:XK)(ta:TA):TS:=fun _ σ H=>ta σ H fun vs H1=>vs.length<=sizeLine/\E (.ref C) none H1
theorem VJ {P:Program}{w:World}{K:PySem.W.Frag}{mg:Str->Option Value}{base:Heap}{N:List Str}{qual:Str}{scope:Scope}{f:Addr}{cd:Value}{A:Around}{outer:List Env}{s:Shared}{H:Hp}{E:XK}
  {x:Str} {C:Addr} {e₀:Expr} {rest:List Expr} {ta:TA} {np cpos pos:Pos} (hh:A.handled=none) (hc:ErrC K x C) (hg:Gl (yX (cxx P w) P w K mg base N qual scope f cd A outer s H E) x)
  (ha:PA (yX (cxx P w) P w K mg base N qual scope f cd A outer s H E) (e₀::rest) ta) (hd:autoParam ((x==("__debug__":Str))=false) L2.au1._auto_1)
  (he:autoParam (starEach (e₀::rest) (envOfC qual scope s.heap.objs.size f cd)=(false,eval e₀ (envOfC qual scope s.heap.objs.size f cd))::starEach rest (envOfC qual scope s.heap.objs.size f cd)) L2.au3._auto_1)
  (hp:autoParam ((backTo cpos (starEach rest (envOfC qual scope s.heap.objs.size f cd))).any (·.1)=false) L2.au3._auto_1) :
  PS (yX (cxx P w) P w K mg base N qual scope f cd A outer s H E) (.Raise (some (.Call (.Name x np) (e₀::rest) [] cpos)) none pos) (Uq C E ta):=by
 intro pins s1 σ H1 D I h
 obtain ⟨bm,NN,nm,q,bs,hdct,sn,sub,ab,col,dd,k0,k1,k2,k3,k5,mN,hC,hN,hni,T⟩:=(I.ownCls hc).obj
 have F:=PySem.F.excBase_ValueError
 refine wpAny_Raise_call_subT (C:=C) (nm:=nm) (q:=q) (N:=NN) (bs:=bs) (bm:=bm) (hdct:=hdct) (sn:=sn) (sub:=sub) (ab:=ab) (col:=col) (dd:=dd) (k0:=k0) (k1:=k1) (k2:=k2) (k3:=k3) (k5:=k5) F (mN:=mN)
  (T.hasType F.hasBase) hh (by show (backTo cpos (starEach (e₀::rest) (envOfC qual scope s.heap.objs.size f cd))).any (·.1)=false; rw [he]; exact hp) hni (u5 I hg (hc.mg I.mod.kin I.mod.glob) ⟨rfl,?_⟩ hd)
 have hw:=ha cpos pins s1 σ H1 _ I h
 have hw:wpAny (model P w) (A.deeper (envOfC qual scope s.heap.objs.size f cd)) (spliced (backTo cpos (starEach (e₀::rest) (envOfC qual scope s.heap.objs.size f cd)))) _ _ s1:=hw
 show wpAny _ _ (evalArgs (.ref C) true (backTo cpos (starEach (e₀::rest) (envOfC qual scope s.heap.objs.size f cd))) []) _ _ s1
 rw [he] at hw ⊢
 refine Calls.evalArgs_plain (thn hw fun us s2 ⟨vs,H2,I2,r,z,hE⟩=>?_)
 refine ⟨rfl,by rw [<- r.length]; exact z,I2.bk _ _ hC,hN.keeps I2.bk,T.keeps I2.bk,fun h' e hx=>UW I2 hx hE⟩
noncomputable abbrev Cx.within (X:Cx)(e:Addr)(oe:Obj):Cx:={ X with A:=X.A.mark (some (.ref e)),calm:=false,pn:=X.pn++[(e,oe)],xe:=fun _ _=>False }
section
variable {X:Cx}{pins:List (Addr×Obj)}{σ:St}{H:Hp}{s:Shared}{e:Addr}{oe:Obj}
theorem Cx.Ok.within (ok:X.Ok):(X.within e oe).Ok :=
 ⟨ok.mod,ok.kind,ok.glob,ok.blt,ok.above,ok.inj,ok.has,ok.cab,(fun z=>by cases z),ok.frames,ok.stk,ok.exf,ok.bs,ok.bsz,ok.noex,ok.exfs,ok.funs,ok.frf⟩
theorem Cx.Ok.without (ok:(X.within e oe).Ok)(hd:X.calm=true->X.A.handled=none):X.Ok :=
 ⟨ok.mod,ok.kind,ok.glob,ok.blt,ok.above,ok.inj,ok.has,ok.cab,hd,ok.frames,ok.stk,ok.exf,ok.bs,ok.bsz,ok.noex,ok.exfs,ok.funs,ok.frf⟩
theorem Inv.within (I:Inv X pins σ H s)(h1:s.heap.get? e=some oe)(h2:H e=none)(h3:e≠X.env.locals)(h4:e∉X.fs)(h5:∀ v,oe.data≠.cell v):Inv (X.within e oe) pins σ H s :=
 ⟨I.ok.within,I.os,I.bare,I.base,I.loc,I.cell,I.free,I.freeC,fun p hp=>by
  rcases List.mem_append.mp hp with z | z
  ·rcases List.mem_append.mp z with z | z
   ·exact I.pin p (List.mem_append_left _ z)
   ·obtain rfl:=List.mem_singleton.mp z
    exact ⟨h1,h2,h3,h4,h5⟩
  ·exact I.pin p (List.mem_append_right _ z),I.hok,I.len⟩
theorem Inv.without (I:Inv (X.within e oe) pins σ H s)(hd:X.calm=true->X.A.handled=none):Inv X pins σ H s :=
 ⟨I.ok.without hd,I.os,I.bare,I.base,I.loc,I.cell,I.free,I.freeC,fun p hp=>by
  rcases List.mem_append.mp hp with z | z
  ·exact I.pin p (List.mem_append_left _ (List.mem_append_left _ z))
  ·exact I.pin p (List.mem_append_right _ z),I.hok,I.len⟩
theorem SP.without {D:Ends}{f:Flow}(h:SP (X.within e oe) pins D f s)(hd:X.calm=true->X.A.handled=none):SP X pins D f s:=by
 cases f with
 | next=>obtain ⟨σ',H',I,q⟩:=h; exact ⟨σ',H',I.without hd,q⟩
 | brk=>obtain ⟨σ',H',I,q⟩:=h; exact ⟨σ',H',I.without hd,q⟩
 | cont=>obtain ⟨σ',H',I,q⟩:=h; exact ⟨σ',H',I.without hd,q⟩
 | ret u=>obtain ⟨v,σ',H',I,r,q⟩:=h; exact ⟨v,σ',H',I.without hd,r,q⟩
theorem Inv.reframe {h':Heap}{t':Nat}{m':Str->Option Value}{σ':St}(I:Inv X pins σ H s)(hn':h'.Ns X.env.locals m')(hs:Heap.SameBut X.env.locals s.heap h')(hl:σ'.length=σ.length)
  (hv:∀ m,s.heap.Ns X.env.locals m->(∀ (i:Nat) (x:Str) (v:V),X.N[i]?=some x->σ[i]?=some (some v)->Vis X.env.scope x->∃ u,RelV v u/\z11 X.env s.heap m x u) ->
   ∀ (i:Nat) (x:Str) (v:V),X.N[i]?=some x->σ'[i]?=some (some v)->Vis X.env.scope x->∃ u,RelV v u/\z11 X.env s.heap m' x u):Inv X pins σ' H { s with heap:=h',toks:=t' }:=by
 obtain ⟨m,hn,hr⟩:=id I.loc
 obtain ⟨oL,_,_,hoL,_⟩:=id hn
 have tracked:HOk X.prog X.w H h':=fun b ob q=>by
  refine (I.hok b ob q).stay (fun c v hc r=>(hs.2 c ?_).trans r) (fun _ z=>z) fun _ _ z=>z
  rintro rfl
  rcases hc with rfl | hc
  ·rw [I.free] at q; cases q
  ·rw [I.free] at hc; cases hc
 have below:∀ b o,X.s₀.heap.get? b=some o->b≠X.env.locals:=fun b o q=>Nat.ne_of_lt (Nat.lt_of_lt_of_le (Heap.lt_size q) I.ok.above)
 refine ⟨I.ok,I.os,I.bare,⟨fun b o q n hb hx=>(hs.2 b (below b o q)).trans (I.base.keep b o q n hb hx),fun b o q n hb hx=>?_,I.base.free,fun b o q hx=>?_,I.base.tups,I.base.frzs,I.base.tbls⟩,⟨m',hn',fun i x v e1 e2 e3=>?_⟩,fun y c q=>?_,I.free,I.freeC,fun p hp=>?_,tracked,hl.trans I.len⟩
 ·obtain ⟨sl,e1⟩:=I.base.slot b o q n hb hx
  exact ⟨sl,(hs.2 b (below b o q)).trans e1⟩
 ·obtain ⟨o',e1⟩:=I.base.there b o q hx
  exact ⟨o',(hs.2 b (below b o q)).trans e1⟩
 ·obtain ⟨u,r,l⟩:=hv m hn hr i x v e1 e2 e3
  refine ⟨u,r,?_⟩
  rcases l with l | ⟨k,c,e,z⟩
  ·exact .inl l
  ·exact .inr ⟨k,c,e,z.sameBut hs (I.cne x c e)⟩
 ·obtain ⟨w',z⟩:=I.cell y c q
  exact ⟨w',z.sameBut hs (I.cne y c q)⟩
 ·obtain ⟨q,n,ne,nf,d⟩:=I.pin p hp
  exact ⟨(hs.2 p.1 ne).trans q,n,ne,nf,d⟩
theorem uN {M:Model}{A:Around}{E:Value->Shared->Prop}{i:Nat}{n:Str}{pos:Pos}{Q:Unit->Shared->Prop}(I:Inv X pins σ H s)(hN:X.N.Nodup)(hi:X.N[i]?=some n)(hx:X.env.scope.names.lookup n=some .local)
  (h:∀ s',Inv X pins (σ.set i none) H s'->Q () s'):wpAny M A (do bindName X.env n .none; unbindBehindTheSuite X.env n pos) Q E s:=by
 have hcls:(X.env.scope.kind==.class||(X.env.scope.kind==.module&&X.env.locals != X.env.globals))=false:=by rw [I.ok.kind]; rfl
 have hl:X.env.kindOf n=some .local:=hx
 refine wpAny_bind (wpAny_bindName (uJ I hN hi (.inl hx) (v:=.non) (u:=.none) rfl (fun s1 I1=>?_) (.inr hx)))
 unfold unbindBehindTheSuite
 refine wpAny_onRaise ?_
 unfold unbindName
 refine wpAny_bind (wpAny_point (wpAny_bind ?_))
 unfold deleteName
 simp only [hl,hcls]
 rw [if_neg (by decide)]
 obtain ⟨m,hn,hl'⟩:=id I1.loc
 have hiσ:i<σ.length:=by rw [I.len]; exact (List.getElem?_eq_some_iff.mp hi).1
 have hmn:(m n).isSome=true:=by
  obtain ⟨u,r,l⟩:=hl' i n .non hi (by rw [List.getElem?_set_self hiσ]) (.inl hx)
  rcases l with ⟨_,z⟩ | ⟨k,_⟩
  ·rw [z]; rfl
  ·rcases k with k | k
   ·rw [hl] at k; cases k
   ·rw [hl] at k; cases k
 refine wpAny_bind (wpAny_nsDel_keeps hn fun h2 v hn2 hs2=>?_)
 rw [hmn]
 simp only [if_true,Bool.not_true,Bool.false_eq_true,if_false]
 refine wpAny_pure (wpAny_point (h _ ?_))
 have I2:Inv X pins (σ.set i none) H { s1 with heap:=h2,toks:=s1.toks }:=I1.reframe hn2 hs2 (by simp) (fun m0 hn0 hv0 j y v e1 e2 e3=>by
  have em:m0=m:=by
   funext z
   obtain ⟨o1,es1,ep1,a1,b1,_,c1⟩:=hn0
   obtain ⟨o2,es2,ep2,a2,b2,_,c2⟩:=hn
   rw [a1] at a2; cases a2
   rw [b1] at b2; cases b2
   rw [<- c1,<- c2]
  subst em
  have hj:j≠i:=by
   rintro rfl
   rw [List.getElem?_set_self hiσ] at e2; cases e2
  rw [List.getElem?_set_ne (Ne.symm hj)] at e2
  obtain ⟨u,r,l⟩:=hv0 j y v e1 (by rw [List.getElem?_set_ne (Ne.symm hj)]; exact e2) e3
  refine ⟨u,r,?_⟩
  have hy:y≠n:=fun z=>hj (jN hN e1 (z▸hi))
  rcases l with ⟨k,z⟩ | l
  ·exact .inl ⟨k,by show (if y=n then _ else m0 y)=some u; rw [if_neg hy]; exact z⟩
  ·exact .inr l)
 exact I2
end
open PySem PySem.Spec PyProof.Rows
structure ErrI (K:PySem.W.Frag)(C:Addr):Prop where
 ga:PySem.W.findIn K (.ref C) "__getattribute__"=some (some (.builtin "BaseException.__getattribute__"))
 gt:PySem.W.findIn K (.ref C) "__getattr__"=some none
 cl:PySem.W.findIn K (.ref C) "__class__"=some (some (.builtin "object.__class__"))
 sp:PySem.W.specialIn K (.builtin "object.__class__") "__get__"=some (some (.builtin "getset_descriptor.__get__"))
 tk:PySem.W.takesIn K (.builtin "object.__class__")=some true
 mo:PySem.W.mroIn K C (.type "object")=some true
 mb:PySem.W.mroIn K C (.type "BaseException")=some true
 it:(PySem.W.clsIn K C).isSome=true
section
open PySem.W Builtin Builtin.ObjectAttr Builtin.Getset_descriptor
variable {prog:Program}{w:World}{A:Around}{E:Value->Shared->Prop}{s:Shared}{K:Frag}{e C:Addr}
theorem V7 {Q:Option Value->Shared->Prop}(c:ErrI K C)(X:K.In s.heap)(LT:Looks (model prog w) s.heap (typeOf (.ref e)) (.ref C))(h:Q (some (.ref C)) { s with toks:=s.toks+1 }):wpAny (model prog w) A (getAttr? (.ref e) "__class__") Q E s:=by
 obtain ⟨hh,g,d,t,os⟩:=s
 have L1:=looks_findIn (M:=model prog w) X c.ga
 have L2':=looks_findIn (M:=model prog w) X c.gt
 have L3:=looks_findIn (M:=model prog w) X c.cl
 have L4:=looks_specialIn (M:=model prog w) X c.sp
 have L5:=looks_takesIn (M:=model prog w) X c.tk
 have L6:=looks_mroIn (M:=model prog w) X c.mo
 have L7:=looks_mroIn (M:=model prog w) X c.mb
 have hb:=PySem.F.attr_ValueError.ga.bind (.ref e)
 unfold getAttr? getAttrBy? getAttrBy
 refine wpAny_bind (wpAny_mkText (wpAny_bind (wpAny_attempt (wpAny_holding ?_))))
 repeat (first | with_reducible refine wpAny_attempt ?_ | with_reducible refine wpAny_call ?_ | lk)
 refine codeAny_call_builtin PySem.F.attr_ValueError.ga.plain F.entry_bexc_ga ?_
 have hk:builtinKind "BaseException.__getattribute__"=some .slot:=by decide +kernel
 have hsp:splitId "BaseException.__getattribute__"=some ("BaseException","__getattribute__"):=by decide +kernel
 have har:=F.args_bexc_ga (.ref e) (.str "__class__" t)
 simp only [checkBuiltinCall,hk,hsp]
 unfold isInstance
 repeat (first | with_reducible refine wpAny_attempt ?_ | with_reducible refine wpAny_call ?_ | lk)
 have z:codeAny (model prog w) A.in1 (.call (.builtin "getset_descriptor.__get__") ⟨[.builtin "object.__class__",.ref e,.ref C],[]⟩) (fun r s'=>r=.ok (.ret (.ref C))/\s'=⟨hh,g,d,t+1,os⟩) ⟨hh,g,d,t+1,os⟩:=by
  refine codeAny_call_builtin KF.slot_gs.plain KF.entry_gs ?_
  refine KF.slot_gs.check _ _ _ _ _ _ _ _ KF.type_class (KF.args_gs _ _ _) ?_
  unfold Builtin.«getset_descriptor.__get__»
  unfold descrGet
  rw [dga_obj]
  refine wpAny_bind (wpAny_pure ?_)
  unfold descrGetter descrCheckInstance
  unfold descrNameAndClass isInstance
  simp only [KF.owner_class]
  repeat lk
  refine ⟨Code.quiet_builtin _ (by decide +kernel),?_⟩
  refine codeAny_builtin KF.entry_class ?_
  unfold Builtin.«object.__class__»
  unfold shownTypeOf
  repeat lk
  exact ⟨rfl,rfl⟩
 refine codeAny_mono z fun r s' q=>?_
 obtain ⟨rfl,rfl⟩:=q
 repeat lk
 exact h
end
open PySem PySem.Spec PyProof.Rows
section
open PySem.W
variable {K:Frag}{e C:Addr}
theorem Yc (c:ErrI K C){M:Model}{h:Heap}(X:K.In h):Looks M h (isType (.ref C)) true:=by
 have z:=c.it
 unfold clsIn at z
 split at z
 ·rename_i a b cd sl ho
  intro A' Q' E' s' k q
  unfold isType
  unfold loadHead
  refine wpAny_bind (wpAny_loadPart (k _ _ (X _ _ ho)) ?_)
  exact wpAny_pure q
 ·cases z
theorem Yv (c:ErrI K C):KitX K (.ref e) (.ref C) (fun h=>∃ o,h.get? e=some o/\o.cls=.ref C) where
 ty:=fun M h _ p=>by
  obtain ⟨o,h1,h2⟩:=p
  exact h2▸(Looks.ld h1).andThen .now
 it:=fun _ _ X _=>Yc c X
 ne:=fun h tp dd its n sl X htp=>by
  refine Bool.eq_false_iff.mpr fun q=>?_
  have ee:C=tp:=Value.ref.inj (beq_iff_eq.mp q)
  subst ee
  have z:=c.it
  unfold clsIn at z
  split at z
  ·rename_i a b cd sl' ho
   rw [X _ _ ho] at htp
   cases htp
  ·cases z
 ca:=fun {prog w A E Q s} X p k=>by
  obtain ⟨o,h1,h2⟩:=p
  exact V7 c X (h2▸(Looks.ld h1).andThen .now) k
end
inductive IsTy (K:PySem.W.Frag) (pn:List (Addr×Obj)) (H:Hp):V->Value->Prop where
 | of {x:V} {t:Value} (h:TyOf K H x t):IsTy K pn H x t
 | frd {a:Addr} {o:Obj} {kvs:List (Key×V)} (e:H a=some (.frz o (.dK kvs))):IsTy K pn H (.ref a) (.type "dict")
 | exc {a C:Addr} {oe:Obj} (hm:(a,oe)∈pn) (hc:oe.cls=.ref C) (c:ErrI K C):IsTy K pn H (.ref a) (.ref C)
inductive ClV:V->Value->Prop where
 | ref (a:Addr):ClV (.ref a) (.ref a)
 | ty (n:String):ClV (.ty n) (.type n)
noncomputable def z27 (K:PySem.W.Frag)(pn:List (Addr×Obj)):List V->Hp->VK->Prop:=fun xs H Q=>∃ x c t u b,xs=[x,c]/\IsTy K pn H x t/\ClV c u/\PySem.W.kitOne K t u=some b/\Q (.bl b) H
theorem VO {X:Cx}:CallR X (.builtin "isinstance") (z27 X.K X.pn):=by
 intro pins s σ H xs us Q I r h
 obtain ⟨x,c,t,u,b,rfl,ht,hc,hk,q⟩:=h
 obtain ⟨u1,u2,rfl,rx,rc⟩:=Wm r
 have e2:u2=u:=by cases hc with
  | ref a=>exact rc
  | ty n=>exact rc
 subst e2
 cases ht with
 | of ht=>exact xT I rx ht hk fun tk=>⟨.bl b,H,I.tok tk,rfl,q⟩
 | @frd a o kvs e =>
  obtain rfl:u1=Value.ref a:=rx
  obtain ⟨_,_,_,vs,_,p⟩:=(show ObjOk X.prog X.w H s.heap a (.frz o (.dK kvs)) from I.hok a _ e)
  obtain ⟨o',es,ep,h1,h2,_⟩:=p
  exact PySem.W.kia_one PySem.W.kitx_dict I.kIn ⟨o',h1,h2.1⟩ hk (fun z=>by cases z) fun tk=>⟨.bl b,H,I.tok tk,rfl,q⟩
 | exc hm hcl ci =>
  obtain ⟨e1,_⟩:=I.pin _ (List.mem_append_left _ hm)
  obtain rfl:u1=Value.ref _:=rx
  exact PySem.W.kia_one (Yv ci) I.kIn ⟨_,e1,hcl⟩ hk (fun z=>by cases z) fun tk=>⟨.bl b,H,I.tok tk,rfl,q⟩
open PySem PySem.Spec PyProof.Rows
section
variable {X:Cx}{pins:List (Addr×Obj)}{σ:St}{H:Hp}{s:Shared}
theorem Inv.flown {h' B:Heap}{old:Addr->Prop}(I:Inv X pins σ H s)(hst:X.stack=X.env::X.outer)(hf:X.env.frame=some X.env.locals)(st:B.StaysIn h')(up:s.heap.UpToSlots h')
  (cov:∀ b o,s.heap.get? b=some o->b∉frs X.stack->(H b≠none\/old b)->B.get? b=some o) (o1:∀ b o,X.s₀.heap.get? b=some o->b∉X.ex->old b) (o3:∀ p∈X.pn++pins,old p.1) :
  Inv X pins σ H { s with heap:=h' }:=by
 have trkd:∀ b u v,H b=some u->s.heap.get? b=some v->h'.get? b=some v:=fun b u v q r=>st b v (cov b v r (I.trkNo q) (.inl (by rw [q]; simp)))
 have oldd:∀ b o v,X.s₀.heap.get? b=some o->b∉X.fs->b∉X.ex->s.heap.get? b=some v->h'.get? b=some v:=fun b o v q n x r=>st b v (cov b v r (I.oldNo hst hf q n) (.inr (o1 b o q x)))
 have frms:∀ b o,b∈X.fs->s.heap.get? b=some o->∃ sl,h'.get? b=some { o with slots:=sl }:=fun b o hb q=>by
  obtain ⟨_,o2,ho2,nf⟩:=I.funs.mem hb
  rw [q] at ho2; cases ho2
  exact up b o q nf
 have cellK:∀ c v,s.heap.IsCell c v->h'.IsCell c v:=fun c v ⟨o,ho,hd⟩=>by
  obtain ⟨sl,e⟩:=up c o ho (fun vs q=>by rw [hd] at q; cases q)
  exact ⟨_,e,hd⟩
 refine ⟨I.ok,I.os,I.bare,⟨fun b o q n hb hx=>oldd b o o q hb hx (I.base.keep b o q n hb hx),fun b o q n hb hx=>?_,I.base.free,fun b o q hx=>?_,I.base.tups,I.base.frzs,I.base.tbls⟩,?_,fun y c q=>?_,I.free,I.freeC,fun p hp=>?_,fun b u q=>?_,I.len⟩
 ·obtain ⟨sl,e1⟩:=I.base.slot b o q n hb hx
  obtain ⟨sl',e2⟩:=frms b _ hb e1
  exact ⟨sl',e2⟩
 ·obtain ⟨o1',e1⟩:=I.base.there b o q hx
  by_cases hb:b∈X.fs
  ·obtain ⟨sl,e2⟩:=frms b o1' hb e1
   exact ⟨_,e2⟩
  ·exact ⟨o1',oldd b o o1' q hb hx e1⟩
 ·obtain ⟨m,hn,hl⟩:=I.loc
  refine ⟨m,up.ns hn,fun i x v e1 e2 e3=>?_⟩
  obtain ⟨u,r,l⟩:=hl i x v e1 e2 e3
  refine ⟨u,r,?_⟩
  rcases l with l | ⟨k,c,e,z⟩
  ·exact .inl l
  ·exact .inr ⟨k,c,e,cellK c _ z⟩
 ·obtain ⟨v,z⟩:=I.cell y c q
  exact ⟨v,cellK c v z⟩
 ·obtain ⟨q,n,ne,nf,d⟩:=I.pin p hp
  have hns:p.1∉frs X.stack:=fun m=>by
   rcases List.mem_cons.mp (I.stkSub p.1 m) with z | z
   ·exact ne z
   ·exact nf z
  exact ⟨st _ _ (cov _ _ q hns (.inr (o3 p hp))),n,ne,nf,d⟩
 ·refine (I.hok b u q).stay (fun c v hc r=>?_) (fun _ z=>z) fun _ _ z=>z
  rcases hc with z | z
  ·exact trkd c u v (by rw [z]; exact q) r
  ·exact trkd c _ v z r
end
noncomputable def z1t (K:PySem.W.Frag)(CS:Addr)(i:Nat)(sp:Sp)(dvs:List V)(t:TA)(ts:Addr->Obj->TS):TS:=fun D σ H=>t σ H fun vs H1=>sp (vs++dvs) H1 (fun _ H2=>D.nx σ H2)
 (fun cls _ H2=>∃ C,cls=.ref C/\PySem.W.exmOne K (.ref C) (.ref CS)=some true/\∀ (e:Addr) (oe:Obj),oe.cls=.ref C->H2 e=none ->
  ts e oe { nx:=fun σ' H'=>D.nx (σ'.set i none) H',rt:=D.rt,bk:=fun σ' H'=>D.bk (σ'.set i none) H',ct:=fun σ' H'=>D.ct (σ'.set i none) H' } (σ.set i (some (.ref e))) H2)
theorem z0V {X:Cx}{k:Nat}{f CS:Addr}{fd:FuncData}{ps:List Str}{sp:Sp}{dvs:List V}{ds:List Value}{x xc n:Str}{p pos pos' pc hpos tpos:Pos}{e:Expr}{es:List Expr}{t:TA}{i:Nat}{b₀:Stmt}{suite:List Stmt}{ts:Addr->Obj->TS}
  (hst:X.stack=X.env::X.outer) (hf:X.env.frame=some X.env.locals) (hc:X.calm=true) (hN:X.N.Nodup)
  (F:FnOk X.prog X.w X.K X.mg X.base (cxx X.prog X.w) k f fd ps sp) (hr:Room k X.A) (hg:Gl X x) (hm:X.mg x=some (.ref f)) (hk:PySem.W.keepIn X.K (.ref f)=true) (hb:Binds X.K fd ps ds) (hd:Vals dvs ds)
  (ha:PA X.nox (e::es) t) (hgc:Gl X xc) (hmc:X.mg xc=some (.ref CS)) (hi:X.N[i]?=some n) (hx:X.env.scope.names.lookup n=some .local)
  (hsuite:∀ (e:Addr) (oe:Obj),PSs (X.within e oe) (b₀::suite) (ts e oe))
  (hdb:autoParam ((x==("__debug__":Str))=false) L2.au1._auto_1) (hdc:autoParam ((xc==("__debug__":Str))=false) L2.au1._auto_1)
  (he:autoParam (starEach (e::es) X.env=(false,eval e X.env)::starEach es X.env) L2.au3._auto_1) (hpl:autoParam ((backTo pos (starEach es X.env)).any (·.1)=false) L2.au3._auto_1)
  (hsw:autoParam (swapsWith (.Call (.Name x p) (e::es) [] pos) none pos'.line X.env=pure false) L2.au3._auto_1) :
  PS X (.Try [.Expr (.Call (.Name x p) (e::es) [] pos) pos'] [.ExceptHandler (some (.Name xc pc)) (some n) (b₀::suite) hpos] [] [] tpos) (z1t X.K CS i sp dvs t ts):=by
 intro pins s σ H D I h
 have hhd:X.calm=true->X.A.handled=none:=I.ok.hd
 refine wpAny_Try_except (wpAny_execs_cons (wpAny_Expr_any ?_ I.quiet hsw))
 refine wpAny_Call_Name_kw (u5 I hg hm ?_ hdb)
 refine PySem.W.callWith_K (h₀:=X.base) I.ok.mod.kin hk ?_ he hpl
 refine wpAny_mono (ha pos pins s σ H _ (I.wish _) h) (fun us s1 ⟨vs,H1,I1,r,q⟩=>⟨I1.kIn,?_⟩) fun _ _ z=>z.elim
 have I1:Inv X pins σ H1 s1:=I1.unwish
 have r2:Vals (vs++dvs) (us++ds):=r.append hd
 have hl:(us++ds).length=ps.length:=by rw [<- r2.length]; exact F.len _ _ _ _ q
 refine wpAny_call (codeAny_mono (F.run X.A X.stack s1 H1 ⟨us,[]⟩ (us++ds) (vs++dvs) _ _ hr I1.env0 (hb s1 us I1.kIn hl) r2 q) fun r s' hq=>?_)
 cases r with
 | ok fl =>
  cases fl with
  | ret u =>
   obtain ⟨v,H2,I2,rv,qn⟩:=I1.after hq
   exact wpAny_execs_nil (wpAny_execs_nil ⟨σ,H2,I2,qn⟩)
  | next=>exact False.elim hq
  | brk=>exact False.elim hq
  | cont=>exact False.elim hq
 | error ev =>
  obtain ⟨e1,cls,H2,rfl,os,bare,un,hok,⟨B,a0,fl,cov⟩,C,rfl,hex,hsu⟩:=hq
  have I2:Inv X pins σ H2 s':=I1.call' (ch:=[]) os un hok bare (fun b z=>nomatch z)
  have fl':Heap.FlyingW B (X.env::X.outer) e1 (.ref C) a0 s'.heap:=by rw [<- hst]; exact fl
  have hfr:X.A.frames=some (X.env::X.outer):=by rw [<- hst]; exact I.ok.frames
  have o1:∀ b o,X.s₀.heap.get? b=some o->b∉X.ex->∃ o,s1.heap.get? b=some o:=fun b o q x=>I1.base.there b o q x
  have o3:∀ p∈X.pn++pins,∃ o,s1.heap.get? p.1=some o:=fun p hp=>⟨_,(I1.pin p hp).1⟩
  have flown:∀ h':Heap,B.StaysIn h'->s'.heap.UpToSlots h'->Inv X pins σ H2 { s' with heap:=h' }:=fun h' st up=>I2.flown hst hf st up cov o1 o3
  have he2:H2 e1=none:=by
   cases q:H2 e1 with
   | none=>rfl
   | some u =>
    obtain ⟨o,ho⟩:=(I2.hok e1 u q).there
    have:=cov e1 o ho (I2.trkNo q) (.inl (by rw [q]; simp))
    rw [fl.2.1] at this; cases this
  have apart:∀ (h':Heap),Heap.FlyingW B (X.env::X.outer) e1 (.ref C) a0 h'->∃ oe,h'.get? e1=some oe/\oe.cls=.ref C/\(∃ vs,oe.data=.fields vs)/\e1≠X.env.locals/\e1∉X.fs:=fun h' z=>by
   obtain ⟨oe,vs,q1,q2,q3,_⟩:=z.first
   have nfr:e1∉frs (X.env::X.outer):=fun m=>by
    obtain ⟨_,o,ho,nf⟩:=z.2.2.1.mem m
    rw [q1] at ho; cases ho
    exact nf vs q3
   refine ⟨oe,q1,q2,⟨vs,q3⟩,fun q=>nfr ?_,fun m=>nfr ?_⟩
   ·rw [q]
    unfold frs
    rw [List.filterMap_cons,hf]
    exact List.mem_cons_self
   ·unfold frs
    rw [List.filterMap_cons,hf]
    exact List.mem_cons_of_mem _ m
  refine wpAny_looks_onW hfr hf fl' fun h4 hd4 up4=>?_
  refine wpAny_landsW hd4 fun h5 fl5 up5=>?_
  have up5':s'.heap.UpToSlots h5:=up4.trans up5
  have I5:=flown h5 fl5.1 up5'
  obtain ⟨oe5,g1,g2,⟨vs5,g3⟩,g4,g5⟩:=apart h5 fl5
  have I5w:Inv (X.within e1 oe5) pins σ H2 { s' with heap:=h5 }:=I5.within g1 he2 g4 g5 (fun v q=>by rw [g3] at q; cases q)
  refine wpAny_handleBy_cons (codeAny_handlers_test (u5 (X:=X.within e1 oe5) I5w hgc hmc ?_ hdc)) (by intro q; cases q)
  have LT:PySem.W.Looks (model X.prog X.w) h5 (typeOf (.ref e1)) (.ref C):=g2▸(PySem.W.Looks.ld g1).andThen .now
  refine (PySem.W.exm_one I5.kIn LT hex).here ?_
  refine codeAny_handlers_suite_as ?_
  refine lands_againW fl5 fun h6 fl6 up6=>?_
  have I6:=flown h6 fl6.1 (up5'.trans up6)
  obtain ⟨oe6,k1,k2,⟨vs6,k3⟩,k4,k5⟩:=apart h6 fl6
  refine qm I6 hN hi (.inl hx) (v:=.ref e1) (u:=.ref e1) rfl (fun s7 I7 sb=>?_) (.inr hx)
  obtain ⟨a7,sb7,ha7⟩:=sb
  have ne7:e1≠a7:=by
   rcases ha7 with z | z
   ·rw [z]; exact k4
   ·intro q
    obtain ⟨v,o,ho,hdd⟩:=I6.cell n a7 z
    rw [<- q] at ho
    have ho:h6.get? e1=some o:=ho
    rw [k1] at ho; cases ho
    rw [k3] at hdd; cases hdd
  have e7:s7.heap.get? e1=some oe6:=(sb7.2 e1 ne7).trans k1
  have I7w:Inv (X.within e1 oe6) pins (σ.set i (some (.ref e1))) H2 s7:=I7.within e7 he2 k4 k5 (fun v q=>by rw [k3] at q; cases q)
  refine wpAny_mono (hsuite e1 oe6 pins s7 _ H2 _ I7w (hsu e1 oe6 k2 he2)) (fun fl8 s8 q8=>?_) fun _ _ z=>z.elim
  have q8:=SP.without q8 hhd
  cases fl8 with
  | next =>
   obtain ⟨σ8,H8,I8,q⟩:=q8
   exact uN I8 hN hi hx fun s9 I9=>⟨_,H8,I9,q⟩
  | brk =>
   obtain ⟨σ8,H8,I8,q⟩:=q8
   exact uN I8 hN hi hx fun s9 I9=>⟨_,H8,I9,q⟩
  | cont =>
   obtain ⟨σ8,H8,I8,q⟩:=q8
   exact uN I8 hN hi hx fun s9 I9=>⟨_,H8,I9,q⟩
  | ret u =>
   obtain ⟨v8,σ8,H8,I8,r8,q⟩:=q8
   exact uN I8 hN hi hx fun s9 I9=>⟨v8,_,H8,I9,r8,q⟩
open PySem PySem.Spec PyProof.Rows
noncomputable def wI (cells:List (Str×Addr)):List (Str×NameKind)->List (Str×Addr)->List (Str×Addr)
 | [],acc=>acc
 | (n,k)::r,acc=>wI cells r (if (k==.free)=true then (n,(cells.lookup n).getD 0)::acc else acc)
theorem km {scope:Scope}{env:Env}(h:∀ y∈scope.names,y.2=.free->∃ c,env.cells.lookup y.1=some c):closureFor scope env=pure (wI env.cells scope.names []):=by
 have go:∀ (l:List (Str×NameKind)) (acc:List (Str×Addr)),(∀ y∈l,y.2=.free->∃ c,env.cells.lookup y.1=some c) ->
   (forIn l acc fun (x:Str×NameKind) (r:List (Str×Addr))=>(if (x.2==.free)=true then (do let a <- cellOf env x.1; pure (ForInStep.yield ((x.1,a)::r))) else pure (ForInStep.yield r):Sem (ForInStep (List (Str×Addr)))))=pure (wI env.cells l acc):=by
  intro l
  induction l with
  | nil=>intro acc _; rfl
  | cons x r ih =>
   intro acc hx
   obtain ⟨n,k⟩:=x
   rw [List.forIn_cons]
   have hr:=fun acc=>ih acc fun y hy=>hx y (List.mem_cons_of_mem _ hy)
   by_cases hk:(k==NameKind.free)=true
   ·obtain ⟨c,hc⟩:=hx (n,k) List.mem_cons_self (by simpa using hk)
    have hc':env.cells.lookup n=some c:=hc
    have e1:cellOf env n=pure c:=by unfold cellOf; rw [hc']
    simp only [hk,if_true,e1,pure_bind]
    unfold wI
    rw [if_pos hk,hc']
    exact hr _
   ·simp only [hk,Bool.false_eq_true,if_false,pure_bind]
    unfold wI
    rw [if_neg hk]
    exact hr _
 unfold closureFor
 have e:=go scope.names [] h
 simp only [bind_pure_comp,map_pure] at e ⊢
 first | exact e | (simp only [e,bind_pure]; done) | (rw [show (forIn scope.names ([]:List (Str×Addr)) _)=_ from e]; rfl)
theorem uH {cells:List (Str×Addr)}{x:Str}{c:Addr}:∀ {names:List (Str×NameKind)} {acc:List (Str×Addr)},(wI cells names acc).lookup x=some c->acc.lookup x=some c\/((x,NameKind.free)∈names/\c=(cells.lookup x).getD 0)
 | [],acc,h=>.inl h
 | (n,k)::r,acc,h=>by
  unfold wI at h
  rcases uH h with z | ⟨z,e⟩
  ·by_cases hk:(k==NameKind.free)=true
   ·rw [if_pos hk] at z
    by_cases hx:(x==n)=true
    ·rw [List.lookup_cons,hx] at z
     have e1:x=n:=by simpa using hx
     have e2:k=NameKind.free:=by simpa using hk
     subst e1 e2
     exact .inr ⟨List.mem_cons_self,(Option.some.inj z).symm⟩
    ·have hx':(x==n)=false:=by simpa using hx
     rw [List.lookup_cons,hx'] at z
     exact .inl z
   ·rw [if_neg hk] at z
    exact .inl z
  ·exact .inr ⟨List.mem_cons_of_mem _ z,e⟩
theorem qg {cells:List (Str×Addr)}{x:Str}:∀ {names:List (Str×NameKind)} {acc:List (Str×Addr)},((x,NameKind.free)∈names\/∃ c,acc.lookup x=some c)->∃ c,(wI cells names acc).lookup x=some c
 | [],acc,h=>by
  rcases h with h | h
  ·cases h
  ·exact h
 | (n,k)::r,acc,h=>by
  unfold wI
  refine qg ?_
  rcases h with h | ⟨c,h⟩
  ·rcases List.mem_cons.mp h with z | z
   ·cases z
    refine .inr ⟨(cells.lookup x).getD 0,?_⟩
    rw [if_pos (by decide),List.lookup_cons]
    simp only [beq_self_eq_true]
   ·exact .inl z
  ·by_cases hk:(k==NameKind.free)=true
   ·rw [if_pos hk]
    by_cases hx:(x==n)=true
    ·exact .inr ⟨_,by rw [List.lookup_cons,hx]⟩
    ·have hx':(x==n)=false:=by simpa using hx
     exact .inr ⟨c,by rw [List.lookup_cons,hx']; exact h⟩
   ·rw [if_neg hk]
    exact .inr ⟨c,h⟩
theorem xK {env:Env}{x:Str}{k:NameKind}:∀ {names:List (Str×NameKind)},(names.map fun (n,k)=>if (k==NameKind.free&&env.scope.kind==.function&&env.kindOf n==some .cell) then (n,NameKind.cell) else (n,k)).lookup x=some k ->
  ∃ k',names.lookup x=some k'/\(k=k'\/(k'=.free/\k=.cell))
 | [],h=>by cases h
 | (n,j)::r,h=>by
  rw [List.map_cons] at h
  by_cases hx:(x==n)=true
  ·refine ⟨j,by rw [List.lookup_cons,hx],?_⟩
   dsimp only at h
   by_cases hc:(j==NameKind.free&&env.scope.kind==.function&&env.kindOf n==some .cell)=true
   ·rw [if_pos hc,List.lookup_cons,hx] at h
    simp only [Bool.and_eq_true] at hc
    exact .inr ⟨by simpa using hc.1.1,(Option.some.inj h).symm⟩
   ·rw [if_neg hc,List.lookup_cons,hx] at h
    exact .inl (Option.some.inj h).symm
  ·have hx':(x==n)=false:=by simpa using hx
   have e:(r.map fun (n,k)=>if (k==NameKind.free&&env.scope.kind==.function&&env.kindOf n==some .cell) then (n,NameKind.cell) else (n,k)).lookup x=some k:=by
    dsimp only at h
    by_cases hc:(j==NameKind.free&&env.scope.kind==.function&&env.kindOf n==some .cell)=true
    ·rw [if_pos hc,List.lookup_cons,hx'] at h; exact h
    ·rw [if_neg hc,List.lookup_cons,hx'] at h; exact h
   obtain ⟨k',e1,e2⟩:=xK e
   exact ⟨k',by rw [List.lookup_cons,hx']; exact e1,e2⟩
structure CompScope (X:Cx)(N':List Str)(fr:List (Option Nat))(scope:Scope):Prop where
 kind:scope.kind=.function
 nocell:∀ y∈scope.names,y.2≠.cell
 loc:∀ y∈scope.names,y.2=.local->scope.names.lookup y.1=some .local
 free:∀ y∈scope.names,y.2=.free->∃ c,X.env.cells.lookup y.1=some c
 len:fr.length=N'.length
 fre:∀ (j i:Nat) (x:Str),fr[j]?=some (some i)->N'[j]?=some x->X.N[i]?=some x/\scope.names.lookup x=some .free/\(X.env.kindOf x=some .cell\/X.env.kindOf x=some .free)
noncomputable def wM (fr:List (Option Nat))(σ:St):St:=fr.map fun o=>o.bind fun i=>(σ[i]?).join
noncomputable def zT (X:Cx)(scope:Scope)(N':List Str)(s₃:Shared)(H₃:Hp)(fp:List Addr)(pins:List (Addr×Obj)):Cx :=
 { X with N:=N',s₀:=s₃,H₀:=H₃,env:=compEnvC scope (wI X.env.cells scope.names []) s₃.heap.objs.size X.env,outer:=X.stack,stack:=X.stack,ex:=fp,fn:=fun _=>false,pn:=X.pn++pins,xe:=fun _ _=>False }
section
variable {X:Cx}{pins:List (Addr×Obj)}{σ:St}{H:Hp}{s:Shared}{N':List Str}{fr:List (Option Nat)}{scope:Scope}{fp:List Addr}
theorem xB (S:CompScope X N' fr scope){x:Str}{c:Addr}(h:(wI X.env.cells scope.names []).lookup x=some c):X.env.cells.lookup x=some c:=by
 rcases uH h with z | ⟨z,e⟩
 ·cases z
 ·obtain ⟨c',hc⟩:=S.free _ z rfl
  have hc:X.env.cells.lookup x=some c':=hc
  rw [hc] at e
  rw [hc,e]; rfl
theorem j8 (I:Inv X pins σ H s)(S:CompScope X N' fr scope)(hf:∀ b∈fp,qK X pins H b)(hlt:∀ b∈fp,b<s.heap.objs.size):(zT X scope N' s H fp pins).Ok:=by
 refine ⟨I.ok.mod,S.kind,I.ok.glob,I.ok.blt,Nat.le_refl _,fun x y c h1 h2=>I.ok.inj x y c (xB S h1) (xB S h2),fun x hx=>?_,(fun x c z=>by cases z),I.ok.hd,I.ok.frames,.inl rfl,fun b hb=>⟨Nat.ne_of_lt (hlt b hb),fun x c h=>(hf b hb).2.2.2.2.1 x c (xB S h)⟩,
  I.bs,Nat.le_trans I.ok.bsz I.sz,fun b o e hb=>?_,fun b hb hm=>?_,I.stack,I.stkFree⟩
 ·have hx:(relabel scope X.env).names.lookup x=some .cell\/(relabel scope X.env).names.lookup x=some .free:=hx
  have key:scope.names.lookup x=some .free:=by
   rcases hx with h | h
   ·obtain ⟨k',e1,e2⟩:=xK h
    rcases e2 with z | ⟨z,_⟩
    ·exact absurd z.symm (S.nocell _ (PySem.mem_of_lookup e1))
    ·rw [e1,z]
   ·obtain ⟨k',e1,e2⟩:=xK h
    rcases e2 with z | ⟨_,z⟩
    ·rw [e1,<- z]
    ·cases z
  exact qg (.inl (PySem.mem_of_lookup key))
 ·rcases (hf b hb).2.2.2.1 with z | z
  ·exact I.ok.noex b o e z
  ·exact absurd (Nat.lt_of_lt_of_le (Heap.lt_size e) (Nat.le_trans I.ok.bsz z)) (Nat.lt_irrefl _)
 ·rcases List.mem_cons.mp (I.stkSub b hm) with z | z
  ·exact (hf b hb).2.1 z
  ·exact (hf b hb).2.2.1 z
theorem QK {h':Heap}{m:Str->Option Value}{tk:Nat}(I:Inv X pins σ H s)(S:CompScope X N' fr scope)(hf:∀ b∈fp,qK X pins H b)(hlt:∀ b∈fp,b<s.heap.objs.size)(hn:h'.Ns s.heap.objs.size m)
  (hk:∀ b o,s.heap.get? b=some o->h'.get? b=some o):Inv (zT X scope N' s H fp pins) [] (wM fr σ) H { s with heap:=h',toks:=tk }:=by
 refine ⟨j8 I S hf hlt,rfl,I.bare,Un.kept hk,⟨m,hn,fun j x v e1 e2 e3=>?_⟩,fun x c h=>?_,I.hok.fresh (Nat.le_refl _),fun x c h=>I.freeC x c (xB S h),fun p hp=>?_,I.hok.kept hk,by unfold wM; rw [List.length_map]; exact S.len⟩
 ·have e1:N'[j]?=some x:=e1
  unfold wM at e2
  rw [List.getElem?_map] at e2
  cases hj:fr[j]? with
  | none=>rw [hj] at e2; cases e2
  | some o =>
   rw [hj] at e2
   cases o with
   | none=>cases e2
   | some i =>
    have e2:(σ[i]?).join=some v:=Option.some.inj e2
    have e2':σ[i]?=some (some v):=by
     cases hq:σ[i]? with
     | none=>rw [hq] at e2; cases e2
     | some w=>rw [hq] at e2; rw [show w=some v from e2]
    obtain ⟨n1,n2,n3⟩:=S.fre j i x hj e1
    obtain ⟨m0,hn0,hl⟩:=I.loc
    have hvis:Vis X.env.scope x:=by
     rcases n3 with z | z
     ·exact .inr (.inl z)
     ·exact .inr (.inr z)
    obtain ⟨u,r,l⟩:=hl i x v n1 e2' hvis
    refine ⟨u,r,.inr ⟨?_,?_⟩⟩
    ·have hh:∀ {names:List (Str×NameKind)},names.lookup x=some .free->(names.map fun (n,k)=>if (k==NameKind.free&&X.env.scope.kind==.function&&X.env.kindOf n==some .cell) then (n,NameKind.cell) else (n,k)).lookup x=some .cell \/
       (names.map fun (n,k)=>if (k==NameKind.free&&X.env.scope.kind==.function&&X.env.kindOf n==some .cell) then (n,NameKind.cell) else (n,k)).lookup x=some .free:=by
      intro names
      induction names with
      | nil=>intro z; cases z
      | cons y r ih =>
       obtain ⟨n,k⟩:=y
       intro z
       rw [List.map_cons]
       dsimp only
       by_cases hx:(x==n)=true
       ·rw [List.lookup_cons,hx] at z
        by_cases hc:(k==NameKind.free&&X.env.scope.kind==.function&&X.env.kindOf n==some .cell)=true
        ·rw [if_pos hc]; exact .inl (by rw [List.lookup_cons,hx])
        ·rw [if_neg hc]; exact .inr (by rw [List.lookup_cons,hx]; exact z)
       ·have hx':(x==n)=false:=by simpa using hx
        rw [List.lookup_cons,hx'] at z
        have:=ih z
        by_cases hc:(k==NameKind.free&&X.env.scope.kind==.function&&X.env.kindOf n==some .cell)=true
        ·rw [if_pos hc,List.lookup_cons,hx']; exact this
        ·rw [if_neg hc,List.lookup_cons,hx']; exact this
     exact hh n2
    ·rcases l with ⟨k,_⟩ | ⟨k,c,e,z⟩
     ·rcases n3 with q | q
      ·rw [q] at k; cases k
      ·rw [q] at k; cases k
     ·obtain ⟨c',hc'⟩:=qg (cells:=X.env.cells) (x:=x) (names:=scope.names) (acc:=[]) (.inl (PySem.mem_of_lookup n2))
      have e':=xB S hc'
      rw [e] at e'; cases e'
      obtain ⟨o,ho,hd⟩:=z
      exact ⟨c,hc',o,hk _ _ ho,hd⟩
 ·obtain ⟨v,o,ho,hd⟩:=I.cell x c (xB S h)
  exact ⟨v,o,hk _ _ ho,hd⟩
 ·have hp:p∈(X.pn++pins)++[]:=hp
  rw [List.append_nil] at hp
  obtain ⟨q,n,ne,nf,d⟩:=I.pin p hp
  refine ⟨hk _ _ q,n,Nat.ne_of_lt (Heap.lt_size q),fun hm=>?_,d⟩
  rcases List.mem_cons.mp (I.stkSub p.1 hm) with z | z
  ·exact ne z
  ·exact nf z
end
open PySem PySem.Spec PyProof.Rows
section
variable {X:Cx}{pins:List (Addr×Obj)}{σ τ:St}{H H₃ H5:Hp}{s₃ s5:Shared}{N':List Str}{scope:Scope}{fp:List Addr}
theorem ZW {h':Heap}(I:Inv X pins σ H₃ s₃)(J:Inv (zT X scope N' s₃ H₃ fp pins) [] τ H5 s5)(hf:∀ b∈fp,qK X pins H₃ b)(hs:Heap.SameBut s₃.heap.objs.size s5.heap h'):Inv X pins σ H5 { s5 with heap:=h' }:=by
 have hb:∀ b o,s₃.heap.get? b=some o->b≠s₃.heap.objs.size:=fun b o q=>Nat.ne_of_lt (Heap.lt_size q)
 have u:Un (frs X.stack) fp H₃ H5 s₃.heap s5.heap:=J.base
 refine I.call' (s':={ s5 with heap:=h' }) (ch:=fp) J.os ⟨fun b o q n h1 h2=>(hs.2 b (hb b o q)).trans (u.keep b o q n h1 h2),fun b o q n h1 h2=>?_,u.free,fun b o q h2=>?_,u.tups,u.frzs,u.tbls⟩ (fun b ob q=>?_) J.bare (fun b m=>⟨(hf b m).2.2.2.1,(hf b m).2.1,(hf b m).2.2.2.2.1,(hf b m).2.2.2.2.2⟩)
 ·obtain ⟨sl,e⟩:=u.slot b o q n h1 h2
  exact ⟨sl,(hs.2 b (hb b o q)).trans e⟩
 ·obtain ⟨o',e⟩:=u.there b o q h2
  exact ⟨o',(hs.2 b (hb b o q)).trans e⟩
 ·have fr:H5 s₃.heap.objs.size=none:=J.free
  refine (J.hok b ob q).stay (fun c v hc r=>(hs.2 c ?_).trans r) (fun _ z=>z) fun _ _ z=>z
  rintro rfl
  rcases hc with rfl | hc
  ·rw [fr] at q; cases q
  ·rw [fr] at hc; cases hc
end
noncomputable def PTs (X:Cx)(ifs:List Expr)(t:TT):Prop :=
 ∀ (pins:List (Addr×Obj)) (s:Shared) (σ:St) (H:Hp) (Q:Bool->Hp->Prop),Inv X pins σ H s->t σ H Q ->
  wpAny (model X.prog X.w) X.A (forIn ifs true fun c r=>if r=true then do let ok <- isTrue c X.env (eval c X.env); pure (ForInStep.yield ok) else pure (ForInStep.yield r)) (TP X pins σ Q) X.xe s
noncomputable def z2L:TT:=fun _ H Q=>Q true H
theorem Qx {X:Cx}:PTs X [] z2L:=fun _ _ _ H _ I h=>wpAny_tests_nil ⟨H,I,h⟩
theorem Qu {X:Cx}{c:Expr}{t:TT}(h:PT X c t):PTs X [c] t:=fun pins s σ H Q I q=>wpAny_tests_one (h pins s σ H Q I q)
noncomputable def WA (fr:List (Option Nat))(wi:TI)(g:TG)(tc:TT)(te:TE):TE:=fun σ H Q=>wi σ H fun J H1=>∀ D,H1 D=none ->
 ∃ W:Nat->Nat->List V->St->Hp->Prop,(∃ m,W 0 m [] (wM fr σ) (upd H1 D (.lst [])))/\∀ i m ys τ H2,W i m ys τ H2->H2 D=some (.lst ys) /\
  ((J.stop i H2/\Q (.ref D) H2)\/(J.go i H2/\∀ x H3,J.yld i H2 x H3->g x τ H3 fun τ' H4=>tc τ' H4 fun b H5=>if b=true then te τ' H5 fun y H6=>H6 D=some (.lst ys)/\ys.length<sizeLine/\∃ m',m'<m/\W (i+1) m' (ys++[y]) τ' (upd H6 D (.lst (ys++[y])))
   else ∃ m',m'<m/\W (i+1) m' ys τ' H5))
theorem ZR {X:Cx}{N':List Str}{fr:List (Option Nat)}{scope:Scope}{tg iter elt:Expr}{ifs:List Expr}{wi:TI}{g:TG}{tc:TT}{te:TE}{pos cp:Pos}{use:Option (Value->Sem Unit)}{Qf:Value->Shared->Prop}(hc:X.calm=true)(S:CompScope X N' fr scope)(hi:PI X tg iter wi)
  (hg:∀ s₃ H₃ fp pins,PG (zT X scope N' s₃ H₃ fp pins) tg g) (ht:∀ s₃ H₃ fp pins,PTs (zT X scope N' s₃ H₃ fp pins) ifs tc) (he:∀ s₃ H₃ fp pins,PE (zT X scope N' s₃ H₃ fp pins) elt te)
  (hs:∀ x,foldedSetIterable iter X.env x=pure x) {pins:List (Addr×Obj)} {s:Shared} {σ:St} {H:Hp} {Q:VK} (I:Inv X pins σ H s) (h:WA fr wi g tc te σ H Q)
  (hfin:∀ (s₃:Shared) (H₃:Hp) (fp:List Addr) (D:Addr) (s6:Shared) (τ:St) (H5:Hp) (fl:Flow),Inv X pins σ H₃ s₃->(∀ b∈fp,qK X pins H₃ b)->Inv (zT X scope N' s₃ H₃ fp pins) [] τ H5 s6->Q (.ref D) H5 ->
   compPost (model X.prog X.w) X.A X.xe use Qf (.ref D) s₃.heap.objs.size (.ok fl) s6) :
  wpAny (model X.prog X.w) X.A (comprehension (.ListComp elt [⟨tg,iter,ifs,0⟩] scope pos) scope X.env cp (newList []) false (eval iter X.env) use) Qf X.xe s:=by
 refine wpAny_comprehension_free (use:=use) rfl hs (km S.free) S.kind S.loc ?_
 refine thn (hi pins s σ H _ I h) fun v s1 h1=>thn h1 fun itv s2 h2=>?_
 obtain ⟨it,fp,tn,J,H2,rfl,I2,T,st2,f2,hW⟩:=h2
 refine wpAny_newObj_type ?_ (by size_fits)
 have hD:H2 s2.heap.objs.size=none:=I2.hok.fresh (Nat.le_refl _)
 have I3:Inv X pins σ (upd H2 s2.heap.objs.size (.lst [])) { s2 with heap:=s2.heap.push { cls:=.type "list",data:=.seq ([]:List Value).toArray },toks:=s2.toks } :=
  I2.laid (fun b u e=>Heap.get?_push_of_some _ e) (Nat.le_refl _) ⟨Nat.zero_le _,[],0,.nil,Heap.get?_push_size _ rfl⟩
 generalize eD:s2.heap.objs.size=D at I3 hD ⊢
 generalize eH:upd H2 D (.lst [])=H3 at I3
 have f3:∀ b∈fp,qK X pins H3 b:=fun b hb=>by
  obtain ⟨g0,g1⟩:=f2 b hb
  refine ⟨?_,g1⟩
  obtain ⟨o,ho,_⟩:=T.obj 0 _ st2 b hb
  rw [<- eH,y4 (by rw [<- eD]; exact Nat.ne_of_lt (Heap.lt_size ho))]
  exact g0
 have lt3:∀ b∈fp,b<(s2.heap.push { cls:=.type "list",data:=.seq ([]:List Value).toArray }).objs.size:=fun b hb=>by
  obtain ⟨o,ho,_⟩:=T.obj 0 _ st2 b hb
  rw [Heap.size_push]
  exact Nat.lt_succ_of_lt (Heap.lt_size ho)
 have st3:tn 0 (s2.heap.push { cls:=.type "list",data:=.seq ([]:List Value).toArray }):=T.keep _ _ _ st2 fun b _ o e=>Heap.get?_push_of_some _ e
 obtain ⟨W,⟨m0,w0⟩,turn⟩:=hW D hD
 rw [eH] at w0
 generalize es3:({ s2 with heap:=s2.heap.push { cls:=.type "list",data:=.seq ([]:List Value).toArray },toks:=s2.toks }:Shared)=s3 at I3
 have lt3:∀ b∈fp,b<s3.heap.objs.size:=by rw [<- es3]; exact lt3
 have st3:tn 0 s3.heap:=by rw [<- es3]; exact st3
 refine wpAny_newFunctionEnv S.nocell (by intro y hy; cases hy) (fun h4 hn4 hsb4=>?_) S.kind
 have k4:∀ b o,s3.heap.get? b=some o->h4.get? b=some o:=fun b o e=>(hsb4.2 b (Nat.ne_of_lt (Heap.lt_size e))).trans (Heap.get?_push_of_some _ e)
 have I4:Inv (zT X scope N' s3 H3 fp pins) [] (wM fr σ) H3 { s3 with heap:=h4,toks:=s3.toks+([]:List (Str×Value)).length }:=QK I3 S f3 lt3 hn4 k4
 have st4:tn 0 h4:=T.keep _ _ _ st3 fun b _ o e=>k4 b o e
 have stat:∀ {H':Hp} {p':List (Addr×Obj)},p'=[]->(∀ b∈fp,H' b=none)->∀ b∈fp,qK (zT X scope N' s3 H3 fp pins) p' H' b:=fun {H' p'} hp hn b hb=>by
  subst hp
  obtain ⟨g0,g1,g2,g3,g4,g5⟩:=f3 b hb
  refine ⟨hn b hb,Nat.ne_of_lt (lt3 b hb),fun hm=>?_,.inl hb,fun x c h=>g4 x c (xB S h),fun p hp=>?_⟩
  ·rcases List.mem_cons.mp (I3.stkSub b hm) with z | z
   ·exact g1 z
   ·exact g2 z
  ·have hp:p∈(X.pn++pins)++[]:=hp
   rw [List.append_nil] at hp
   exact g5 p hp
 have loop:∀ s':Shared,s'={ s3 with heap:=h4,toks:=s3.toks+([]:List (Str×Value)).length }->codeAny (model X.prog X.w) X.A (.compLoop (.ListComp elt [⟨tg,iter,ifs,0⟩] scope pos) 0 (.ref it) (.ref D) (compEnvC scope (wI X.env.cells scope.names []) s3.heap.objs.size X.env))
   (compPost (model X.prog X.w) X.A X.xe use Qf (.ref D) s3.heap.objs.size) s':=by
  rintro s' rfl
  refine codeAny_loop rfl (fun n s'=>∃ i ys τ H',Inv (zT X scope N' s3 H3 fp pins) [] τ H' s'/\tn i s'.heap/\(∀ b∈fp,H' b=none)/\W i n ys τ H') ?_ m0 ⟨0,[],_,H3,I4,st4,fun b hb=>(f3 b hb).1,w0⟩
  rintro n s5 ⟨i,ys,τ,H5,I5,st5,fr5,w5⟩
  show wpAny _ X.A ((compTurn (.ListComp elt [⟨tg,iter,ifs,0⟩] scope pos) 0 (.ref it) (.ref D) (compEnvC scope (wI X.env.cells scope.names []) s3.heap.objs.size X.env)).onRaise (fun x=>do noteFrame x (compEnvC scope (wI X.env.cells scope.names []) s3.heap.objs.size X.env); theTreesLotGoes x)) _ _ s5
  refine wpAny_noted ?_
  rw [compTurn_list]
  obtain ⟨hDy,hor⟩:=turn i n ys τ H5 w5
  rcases hor with ⟨stop,q⟩ | ⟨go,step⟩
  ·refine wpAny_bind (wpAny_standAt (wpAny_bind (thn (T.done (zT X scope N' s3 H3 fp pins) rfl rfl rfl hc i [] s5 τ H5 _ I5 (stat rfl fr5) st5 stop) fun r s6 ⟨hr,I6⟩=>?_)))
   subst hr
   exact wpAny_pure (hfin s3 H3 fp D s6 τ H5 _ I3 f3 I6 q)
  ·refine wpAny_bind (wpAny_standAt (wpAny_bind (thn (T.item (zT X scope N' s3 H3 fp pins) rfl rfl rfl hc i [] s5 τ H5 _ I5 (stat rfl fr5) st5 go) fun r s6 ⟨u,hr,h6⟩=>?_)))
   subst hr
   refine wpAny_bind (thn h6 fun _ s7 ⟨x,H7,I7,r7,y7,st7,fr7⟩=>?_)
   have I7':=I7.pinned (stat rfl fr7) (T.obj _ _ st7)
   refine wpAny_bind (wpAny_mono (hg s3 H3 fp pins _ s7 τ H7 x u _ I7' r7 (step x H7 y7)) (fun _ s8 ⟨τ8,H8,I8,q8⟩=>?_) fun _ _ z=>False.elim z)
   refine wpAny_bind (wpAny_mono (ht s3 H3 fp pins _ s8 τ8 H8 _ I8 q8) (fun b s9 ⟨H9,I9,q9⟩=>?_) fun _ _ z=>False.elim z)
   have again:∀ {s':Shared} {H':Hp},Inv (zT X scope N' s3 H3 fp pins) ([]++jP fp s7.heap) τ8 H' s'->tn (i+1) s'.heap/\∀ b∈fp,H' b=none:=fun {s' H'} I'=>by
    refine ⟨T.keep _ _ _ st7 fun b hb o e=>(I'.pin (b,o) (List.mem_append_right _ (List.mem_append_right _ (vt hb e)))).1,fun b hb=>?_⟩
    obtain ⟨o,e,d⟩:=T.obj _ _ st7 b hb
    exact (I'.pin (b,o) (List.mem_append_right _ (List.mem_append_right _ (vt hb e)))).2.1
   cases b with
   | false =>
    rw [if_neg Bool.false_ne_true] at q9
    obtain ⟨m',hm,w9⟩:=q9
    obtain ⟨a1,a2⟩:=again I9
    refine wpAny_pure ⟨rfl,m',hm,i+1,ys,τ8,H9,I9.unpinned,a1,a2,w9⟩
   | true =>
    rw [if_pos rfl] at q9
    refine wpAny_bind (wpAny_bind (wpAny_mono (he s3 H3 fp pins _ s9 τ8 H9 _ I9 q9) (fun yv s10 ⟨y,H10,I10,r10,hD10,hz,m',hm,w10⟩=>?_) fun _ _ z=>False.elim z))
    refine wpAny_bind (wpAny_mono (kP (X:=zT X scope N' s3 H3 fp pins) _ s10 τ8 H10 (.ref D) [y] (.ref D) [yv] (fun _ H11=>H11=upd H10 D (.lst (ys++[y]))) I10 rfl (.cons r10 .nil) ⟨D,ys,y,rfl,rfl,hD10,hz,rfl⟩) (fun _ s11 ⟨_,H11,I11,_,q11⟩=>?_) fun _ _ z=>False.elim z)
    subst q11
    obtain ⟨a1,a2⟩:=again I11
    exact wpAny_pure (wpAny_pure ⟨rfl,m',hm,i+1,ys++[y],τ8,_,I11.unpinned,a1,a2,w10⟩)
 exact codeAny_compStart_list (loop _ rfl) (T.self _ 0 _ _ _ st4 (loop _ rfl))
theorem Ji {X:Cx}{N':List Str}{fr:List (Option Nat)}{scope:Scope}{tg iter elt:Expr}{ifs:List Expr}{wi:TI}{g:TG}{tc:TT}{te:TE}{pos:Pos}(hc:X.calm=true)(S:CompScope X N' fr scope)(hi:PI X tg iter wi)
  (hg:∀ s₃ H₃ fp pins,PG (zT X scope N' s₃ H₃ fp pins) tg g) (ht:∀ s₃ H₃ fp pins,PTs (zT X scope N' s₃ H₃ fp pins) ifs tc) (he:∀ s₃ H₃ fp pins,PE (zT X scope N' s₃ H₃ fp pins) elt te)
  (hs:autoParam (∀ x,foldedSetIterable iter X.env x=pure x) L2.au2._auto_1):PE X (.ListComp elt [⟨tg,iter,ifs,0⟩] scope pos) (WA fr wi g tc te):=by
 intro pins s σ H Q I h
 rw [eval_ListComp]
 refine ZR (use:=none) hc S hi hg ht he hs I h fun s3 H3 fp D s6 τ H5 fl I3 f3 I6 q=>?_
 obtain ⟨m6,hn6,_⟩:=I6.loc
 exact ⟨m6,hn6,fun h7 hs7=>⟨.ref D,H5,ZW I3 I6 f3 hs7,rfl,q⟩⟩
theorem Jo {X:Cx}{N':List Str}{fr:List (Option Nat)}{scope:Scope}{tg iter elt:Expr}{ifs:List Expr}{wi:TI}{g:TG}{tc:TT}{te:TE}{pos pos' cpos:Pos}{i:Nat}{x:Str}(hc:X.calm=true)(S:CompScope X N' fr scope)(hi:PI X tg iter wi)
  (hg:∀ s₃ H₃ fp pins,PG (zT X scope N' s₃ H₃ fp pins) tg g) (ht:∀ s₃ H₃ fp pins,PTs (zT X scope N' s₃ H₃ fp pins) ifs tc) (he:∀ s₃ H₃ fp pins,PE (zT X scope N' s₃ H₃ fp pins) elt te)
  (hN:X.N.Nodup) (hix:X.N[i]?=some x) (hx:Loc X.env.scope x) (hsw:swapsWith (.ListComp elt [⟨tg,iter,ifs,0⟩] scope cpos) (some (.Name x pos')) pos.line X.env=pure true)
  (hs:autoParam (∀ x,foldedSetIterable iter X.env x=pure x) L2.au2._auto_1) (hf:autoParam (X.fn x=true\/X.env.scope.names.lookup x=some .local) L2.au0._auto_1):PS X (.Assign [.Name x pos'] (.ListComp elt [⟨tg,iter,ifs,0⟩] scope cpos) pos) (z07 (WA fr wi g tc te) (jS i)):=by
 intro pins s σ H Z I h
 rw [exec_Assign_Name_used _ _ _ _ hsw]
 refine wpAny_bind (wpAny_standAt (wpAny_bind ?_))
 show wpAny _ _ (comprehension (.ListComp elt [⟨tg,iter,ifs,0⟩] scope cpos) scope X.env (firstIterPos [⟨tg,iter,ifs,0⟩] cpos) (newList []) false (eval iter X.env) (some (assign (.Name x pos') X.env)) >>= fun _=>pure ()) _ _ s
 refine wpAny_bind (ZR (use:=some (assign (.Name x pos') X.env)) hc S hi hg ht he hs I h fun s3 H3 fp D s6 τ H5 fl I3 f3 I6 q=>?_)
 obtain ⟨m6,hn6,_⟩:=id I6.loc
 have I7:Inv X pins σ H5 s6:=ZW (h':=s6.heap) I3 I6 f3 ⟨rfl,fun _ _=>rfl⟩
 have ltC:X.env.locals<s3.heap.objs.size:=I3.lt
 have cC:∀ y c,X.env.cells.lookup y=some c->c≠s3.heap.objs.size:=fun y c e z=>by
  obtain ⟨v,o,ho,_⟩:=I3.cell y c e
  exact absurd (Heap.lt_size ho) (by rw [z]; exact Nat.lt_irrefl _)
 show wpAny (model X.prog X.w) X.A (assign (.Name x pos') X.env (.ref D)) _ X.xe s6
 refine wpAny_assign_Name (qm I7 hN hix hx (v:=.ref D) (u:=.ref D) rfl (fun s8 I8 sb=>?_) hf)
 obtain ⟨a8,sb8,ha8⟩:=sb
 have neC:s3.heap.objs.size≠a8:=by
  rcases ha8 with z | z
  ·rw [z]; exact Nat.ne_of_gt ltC
  ·exact fun w=>cC x a8 z w.symm
 have hn8:s8.heap.Ns s3.heap.objs.size m6:=by
  obtain ⟨o,es,ep,ho,r⟩:=hn6
  exact ⟨o,es,ep,(sb8.2 _ neC).trans ho,r⟩
 refine ⟨m6,hn8,fun h9 hs9=>?_⟩
 have frC:H5 s3.heap.objs.size=none:=I6.free
 refine wpAny_pure (wpAny_pure ⟨_,H5,?_,q⟩)
 have:=I8.turned (h':=h9) (t':=s8.toks) (it:=s3.heap.objs.size) (fun b o hb e=>(hs9.2 b hb).trans e) frC (Nat.ne_of_gt ltC) (.inr (Nat.le_trans I3.ok.above (Nat.le_of_lt ltC))) cC (fun p hp z=>?_)
 ·exact this
 ·have:=Heap.lt_size (I3.pin p hp).1
  rw [z] at this
  exact Nat.lt_irrefl _ this
open PySem PySem.Spec PyProof.Rows
section
variable {X:Cx}
end
noncomputable def z0z (x:Str)(i:Nat)(v:V):Prop:=∃ c,x.cps[i]?=some c/\v=.str ⟨#[c]⟩
noncomputable def Its (x:Str):It:=⟨fun i _=>i<x.cps.size,fun i H v H'=>H'=H/\z0z x i v,fun i _=>x.cps.size<=i⟩
theorem YJ {P:Program}{w:World}{K:PySem.W.Frag}{tg:Expr}(x:Str)(t:Tok)(it:Addr):Turn P w K tg (Its x) [it] it (fun i h=>h.IsStrIter it "str_ascii_iterator" x t i) where
 mem:=by simp
 obj:=fun i h st b hb=>by
  have e:b=it:=by simpa using hb
  subst e
  obtain ⟨o,e,c,d⟩:=st
  exact ⟨o,e,fun v z=>by rw [d] at z; cases z⟩
 keep:=fun i h h' st k=>let ⟨o,ho,r⟩:=st; ⟨o,k it (by simp) o ho,r⟩
 item:=by
  intro X hP hw hK hc i pins s σ H E I hf st hg
  subst hP hw hK
  have hg:i<x.cps.size:=hg
  obtain ⟨f0,f1,f2,f3,f4,f5⟩:=hf it (by simp)
  refine wpAny_pyNext_ascii_item st (c:=x.cps[i]) (by simp [hg]) fun h' st' sb=>?_
  have I1:Inv X pins σ H { s with heap:=h',toks:=s.toks+1 }:=I.turned (fun b o hb e=>(sb.2 b hb).trans e) f0 f1 f3 f4 f5
  obtain ⟨o,e,c,d⟩:=id st'
  exact ⟨_,rfl,Yl (s:={ s with heap:=h',toks:=s.toks+1 }) e c d (by decide) ⟨.str ⟨#[x.cps[i]]⟩,H,I1,⟨_,rfl⟩,⟨rfl,_,by simp [hg],rfl⟩,st',fun b hb=>(hf b hb).1⟩⟩
 done:=by
  intro X hP hw hK hc i pins s σ H E I hf st hg
  subst hP hw hK
  have hg:x.cps.size<=i:=hg
  obtain ⟨f0,f1,f2,f3,f4,f5⟩:=hf it (by simp)
  exact wpAny_pyNext_ascii_end (I.ok.hd hc) st (by simp [hg]) fun h' eb=>⟨rfl,I.turned (t':=s.toks) (fun b o hb e=>eb b o hb e) f0 f1 f3 f4 f5⟩
 self:=fun _ _ _ _ _ st h=>wpAny_pyIter_striter_ascii st h
theorem WW {P:Program}{w:World}{K:PySem.W.Frag}{tg:Expr}(x:Str)(t:Tok)(it:Addr):Turn P w K tg (Its x) [it] it (fun i h=>h.IsStrIter it "str_iterator" x t i) where
 mem:=by simp
 obj:=fun i h st b hb=>by
  have e:b=it:=by simpa using hb
  subst e
  obtain ⟨o,e,c,d⟩:=st
  exact ⟨o,e,fun v z=>by rw [d] at z; cases z⟩
 keep:=fun i h h' st k=>let ⟨o,ho,r⟩:=st; ⟨o,k it (by simp) o ho,r⟩
 item:=by
  intro X hP hw hK hc i pins s σ H E I hf st hg
  subst hP hw hK
  have hg:i<x.cps.size:=hg
  obtain ⟨f0,f1,f2,f3,f4,f5⟩:=hf it (by simp)
  refine wpAny_pyNext_wide_item st (c:=x.cps[i]) (by simp [hg]) fun h' st' sb=>?_
  have I1:Inv X pins σ H { s with heap:=h',toks:=s.toks+1 }:=I.turned (fun b o hb e=>(sb.2 b hb).trans e) f0 f1 f3 f4 f5
  obtain ⟨o,e,c,d⟩:=id st'
  exact ⟨_,rfl,Yl (s:={ s with heap:=h',toks:=s.toks+1 }) e c d (by decide) ⟨.str ⟨#[x.cps[i]]⟩,H,I1,⟨_,rfl⟩,⟨rfl,_,by simp [hg],rfl⟩,st',fun b hb=>(hf b hb).1⟩⟩
 done:=by
  intro X hP hw hK hc i pins s σ H E I hf st hg
  subst hP hw hK
  have hg:x.cps.size<=i:=hg
  obtain ⟨f0,f1,f2,f3,f4,f5⟩:=hf it (by simp)
  exact wpAny_pyNext_wide_end (I.ok.hd hc) st (by simp [hg]) fun h' eb=>⟨rfl,I.turned (t':=s.toks) (fun b o hb e=>eb b o hb e) f0 f1 f3 f4 f5⟩
 self:=fun _ _ _ _ _ st h=>wpAny_pyIter_striter_wide st h
noncomputable def z1X (te:TE):TI:=fun σ H R=>te σ H fun v H1=>∃ x,v=.str x/\R (Its x) H1
theorem z1h {X:Cx}{tg e:Expr}{te:TE}(he:PE X e te):PI X tg e (z1X te):=by
 intro pins s σ H R I h
 refine thn (he pins s σ H _ I h) fun v s1 ⟨y,H1,I1,r1,q1⟩=>?_
 obtain ⟨x,rfl,q⟩:=q1
 obtain ⟨t,rfl⟩:=r1
 cases ha:x.cps.all (·<128)
 ·refine wpAny_pyIter_wide ha ?_
  refine ⟨s1.heap.objs.size,[s1.heap.objs.size],_,_,H1,rfl,I1.kept (t':=s1.toks) fun b o e=>Heap.get?_push_of_some _ e,WW x t _,⟨_,Heap.get?_push_size _ rfl,rfl,rfl⟩,fun b hb=>?_,q⟩
  have e:b=s1.heap.objs.size:=by simpa using hb
  subst e
  exact I1.fpOk (Nat.le_refl _) (I1.hok.fresh (Nat.le_refl _))
 ·refine wpAny_pyIter_ascii ha ?_
  refine ⟨s1.heap.objs.size,[s1.heap.objs.size],_,_,H1,rfl,I1.kept (t':=s1.toks) fun b o e=>Heap.get?_push_of_some _ e,YJ x t _,⟨_,Heap.get?_push_size _ rfl,rfl,rfl⟩,fun b hb=>?_,q⟩
  have e:b=s1.heap.objs.size:=by simpa using hb
  subst e
  exact I1.fpOk (Nat.le_refl _) (I1.hok.fresh (Nat.le_refl _))
open PySem PySem.Spec PyProof.Rows
section
variable {X:Cx}
noncomputable def z2W:V->Option Int->Option Int->Hp->VK->Prop:=fun x lo hi H Q=>∃ z,x=.str z/\z.length<=sizeLine/\Q (.str (Txt.slice z lo hi)) H
theorem z1f:SlR X z2W:=by
 intro pins s σ H x v vl vu lo hi sl Q I rx hs pl pu h
 obtain ⟨z,rfl,hz,q⟩:=h
 obtain ⟨t,rfl⟩:=rx
 refine ⟨"str",_,F.slot_str_getitem.lookup,typeIs_str _ _ _,?_⟩
 have fin:∀ (l u:Option (Int×Tok)),vl=partValue l->vu=partValue u->l.map (·.1)=lo->u.map (·.1)=hi->wpAny (model X.prog X.w) X.A (getItem (.str z t) (.ref sl)) (EP X pins σ Q) X.xe s:=by
  intro l u e1 e2 e3 e4
  subst e1 e2 e3 e4
  refine wpAny_getItem_str_slice (st:=none) hs rfl (post_val_or_str ⟨Nat.le_trans (Txt.slice_le z _ _) hz,fun t' k=>?_⟩)
  exact ⟨.str _,H,I.tok k,⟨t',rfl⟩,q⟩
 cases pl with
 | none =>
  cases pu with
  | none=>exact fin none none rfl rfl rfl rfl
  | int j tj=>exact fin none (some (j,tj)) rfl rfl rfl rfl
 | int i ti =>
  cases pu with
  | none=>exact fin (some (i,ti)) none rfl rfl rfl rfl
  | int j tj=>exact fin (some (i,ti)) (some (j,tj)) rfl rfl rfl rfl
end
open PySem PySem.Spec PyProof.Rows
section
variable {prog:Program}{w:World}{A:Around}{E:Value->Shared->Prop}{s:Shared}{K:Type}[DecidableEq K]{knd:KeyKind prog w K}{d:Addr}{kvs:List (K×Value)}{ep:Nat}
end
section
variable {X:Cx}
end
open PySem PySem.Spec PyProof.Rows
structure DefIn (K:PySem.W.Frag)(mg:Str->Option Value)(x:Str)(st:Stmt)(ps:List Str):Prop where
 ex:∃ f fd,Fun K x x st f fd/\mg x=some (.ref f)/\Binds K fd ps []
theorem Ug {K:PySem.W.Frag}{mg:Str->Option Value}{x:Str}{st:Stmt}{ps:List Str}{h:Heap}{f:Addr}{oc:Value}{od an:Option Addr}{osl:Array (Option Value)}{kV doc pm cdv ct:Value}(X:K.In h)(G:h.Ns mainGlobals mg)
  (hb:∀ (kV doc pm:Value) (an:Option Addr) (cdv ct:Value) (us:List Value),us.length=ps.length->bindArgs (PySem.W.fnOf x x (defArgs st) (defBody st) (defScope st) .none kV doc pm an cdv ct) ⟨us,[]⟩=pure (ps.zip us))
  (a:PySem.W.nsIn K mainGlobals x=some (some (.ref f))) (l:K.lookup f=some ⟨oc,od,.func (PySem.W.fnOf x x (defArgs st) (defBody st) (defScope st) .none kV doc pm an cdv ct),osl⟩)
  (c:PySem.W.codeIn K cdv x=true) (k:PySem.W.keepIn K (.ref f)=true):DefIn K mg x st ps :=
 ⟨f,_,Ud l c k,PySem.W.mg_of X G a,(Ud (st:=st) l c k).binds hb⟩
structure Own (P:Program)(w:World)(K:PySem.W.Frag)(mg:Str->Option Value)(base:Heap)(x:Str)(k:Nat)(ps:List Str)(sp:Sp):Prop where
 ex:∃ f fd,FnOk P w K mg base (cxx P w) k f fd ps sp/\mg x=some (.ref f)/\PySem.W.keepIn K (.ref f)=true/\Binds K fd ps []
section
variable {P:Program}{w:World}{K:PySem.W.Frag}{mg:Str->Option Value}{base:Heap}{x:Str}{st:Stmt}{N ps:List Str}{k:Nat}{sp:Sp}
theorem DefIn.own (D:DefIn K mg x st ps)(S:FnScope N ps (defScope st))(len:∀ vs H Q E,sp vs H Q E->vs.length=ps.length)
  (hbody:∀ (f:Addr) (cdv:Value) (A:Around) (outer:List Env) (s:Shared) (H:Hp) (vs:List V) (Q:VK) (E:XK),Room k (A.deeper (envOfC x (defScope st) s.heap.objs.size f cdv))->sp vs H Q E ->
   ∃ t,PSs (yX (cxx P w) P w K mg base N x (defScope st) f cdv A outer s H E) (defBody st) t/\t { nx:=fun _ H'=>Q .non H',rt:=Q } (start N vs) H):Own P w K mg base x (k+1) ps sp:=by
 obtain ⟨f,fd,F,hm,hb⟩:=D.ex
 obtain ⟨oc,od,kV,doc,pm,an,cdv,ct,osl,rfl,lk,hcd⟩:=F.ex
 exact ⟨f,_,Ut lk hcd S len fun A outer s H vs Q E hr hsp=>hbody f cdv A outer s H vs Q E hr hsp,hm,F.kp,hb⟩
theorem Own.mono {j:Nat}(O:Own P w K mg base x j ps sp)(h:j<=k):Own P w K mg base x k ps sp:=by
 obtain ⟨f,fd,F,a,b,c⟩:=O.ex
 exact ⟨f,fd,F.mono h,a,b,c⟩
end
section
variable {X:Cx}{x:Str}{k:Nat}{ps:List Str}{sp:Sp}{E:XK}{e:Expr}{es:List Expr}{t:TA}{p pos:Pos}
theorem VY (O:Own X.prog X.w X.K X.mg X.base x k ps sp)(hr:Room k X.A)(hg:Gl X x)(hx:uo (cxx X.prog X.w) X E)(ha:PA X (e::es) t)(hdb:autoParam ((x==("__debug__":Str))=false) L2.au1._auto_1)
  (he:autoParam (starEach (e::es) X.env=(false,eval e X.env)::starEach es X.env) L2.au3._auto_1) (hpl:autoParam ((backTo pos (starEach es X.env)).any (·.1)=false) L2.au3._auto_1):PE X (.Call (.Name x p) (e::es) [] pos) (Kq sp [] E t):=by
 obtain ⟨f,fd,F,hm,hk,hb⟩:=O.ex
 exact JS F hr hg hm hk hb .nil hx ha hdb he hpl
theorem Qg {CS:Addr}{xc n:Str}{pos' pc hpos tpos:Pos}{i:Nat}{b₀:Stmt}{suite:List Stmt}{ts:Addr->Obj->TS}(O:Own X.prog X.w X.K X.mg X.base x k ps sp)(hst:X.stack=X.env::X.outer)(hf:X.env.frame=some X.env.locals)(hc:X.calm=true)(hN:X.N.Nodup)(hr:Room k X.A)(hg:Gl X x)
  (ha:PA X.nox (e::es) t) (hgc:Gl X xc) (hmc:X.mg xc=some (.ref CS)) (hi:X.N[i]?=some n) (hx:X.env.scope.names.lookup n=some .local) (hsuite:∀ (e:Addr) (oe:Obj),PSs (X.within e oe) (b₀::suite) (ts e oe))
  (hdb:autoParam ((x==("__debug__":Str))=false) L2.au1._auto_1) (hdc:autoParam ((xc==("__debug__":Str))=false) L2.au1._auto_1)
  (he:autoParam (starEach (e::es) X.env=(false,eval e X.env)::starEach es X.env) L2.au3._auto_1) (hpl:autoParam ((backTo pos (starEach es X.env)).any (·.1)=false) L2.au3._auto_1)
  (hsw:autoParam (swapsWith (.Call (.Name x p) (e::es) [] pos) none pos'.line X.env=pure false) L2.au3._auto_1) :
  PS X (.Try [.Expr (.Call (.Name x p) (e::es) [] pos) pos'] [.ExceptHandler (some (.Name xc pc)) (some n) (b₀::suite) hpos] [] [] tpos) (z1t X.K CS i sp [] t ts):=by
 obtain ⟨f,fd,F,hm,hk,hb⟩:=O.ex
 exact z0V hst hf hc hN F hr hg hm hk hb .nil ha hgc hmc hi hx hsuite hdb hdc he hpl hsw
end
noncomputable def qI:List String:=["NoneType","bool","int","str","list","tuple","dict"]
section
variable {K:PySem.W.Frag}
theorem JG:∀ {T:String},T∈qI->PySem.W.kitOne K (.type T) (.type "int")=some (T=="int"||T=="bool"):=by
 intro T h
 simp only [qI,List.mem_cons,List.not_mem_nil,or_false] at h
 rcases h with rfl | rfl | rfl | rfl | rfl | rfl | rfl<;>kernel_rfl
theorem UK:∀ {T:String},T∈qI->PySem.W.kitOne K (.type T) (.type "bool")=some (T=="bool"):=by
 intro T h
 simp only [qI,List.mem_cons,List.not_mem_nil,or_false] at h
 rcases h with rfl | rfl | rfl | rfl | rfl | rfl | rfl<;>kernel_rfl
theorem Qa:∀ {T U:String},T∈qI->U∈(["str","list","tuple","dict"]:List String)->PySem.W.kitOne K (.type T) (.type U)=some (T==U):=by
 intro T U h g
 simp only [qI,List.mem_cons,List.not_mem_nil,or_false] at h g
 rcases g with rfl | rfl | rfl | rfl<;>rcases h with rfl | rfl | rfl | rfl | rfl | rfl | rfl<;>kernel_rfl
end
noncomputable def z3b (K:PySem.W.Frag)(pn:List (Addr×Obj))(u:V)(te:TE):TE:=fun σ H Q=>te σ H fun v H1=>z27 K pn [v,u] H1 Q
theorem Um {X:Cx}{u:V}{te:TE}{e c:Expr}{p pos:Pos}(hg:Gl X "isinstance")(hm:X.mg "isinstance"=none)(he:PE X e te)(hc:PE X c (tC u))(hs:autoParam (starEach [e,c] X.env=(false,eval e X.env)::starEach [c] X.env) L2.au3._auto_1)(hs2:autoParam (starEach [c] X.env=(false,eval c X.env)::starEach [] X.env) L2.au3._auto_1)
  (hpl:autoParam ((backTo pos (starEach [c] X.env)).any (·.1)=false) L2.au3._auto_1):PE X (.Call (.Name "isinstance" p) [e,c] [] pos) (z3b X.K X.pn u te):=by
 have key:=vK (X:=X) (x:="isinstance") (p:=p) (pos:=pos) VO hg hm Boot.«isinstance» (zX he (zX hc wj hs2) hs) (by decide) (by decide) hs hpl
 intro pins s σ H Q I h
 exact key pins s σ H Q I h
open PySem PySem.Spec PyProof.Rows
inductive D where
 | non | bl (b:Bool) | int (i:Int) | str (x:Str) | tup (xs:List D) | lst (xs:List D) | dic (ks:List Key) (xs:List D) | frl (xs:List D)
inductive R (α:Type) where
 | ok (a:α) | err (c:Str) | bad
noncomputable def R.bind {α β:Type}(r:R α)(f:α->R β):R β:=match r with
 | .ok a=>f a
 | .err c=>.err c
 | .bad=>.bad
theorem R.ok_bind {α β:Type}(a:α)(f:α->R β):(R.ok a).bind f=f a:=rfl
theorem R.err_bind {α β:Type}(c:Str)(f:α->R β):(R.err c:R α).bind f=.err c:=rfl
mutual
noncomputable def D.imm:D->Bool
 | .tup xs=>D.imms xs
 | .lst _=>false
 | .dic _ _=>false
 | _=>true
noncomputable def D.imms:List D->Bool
 | []=>true
 | d::ds=>D.imm d&&D.imms ds
end
noncomputable def SqF (K:PySem.W.Frag)(H:Hp)(a:Addr)(vs:List V):Prop:=(∃ o,H a=some (.frz o (.lst vs))) \/
 ∃ (o:Obj) (its:Array Value) (n:Nat),K.lookup a=some o/\o.cls=.type "list"/\o.dict=none/\o.data=.seq its n/\its.size<=sizeLine/\Vals vs its.toList
theorem SqF.sq {K:PySem.W.Frag}{H:Hp}{a:Addr}{vs:List V}(h:SqF K H a vs):SqL K H a vs:=by
 rcases h with ⟨o,h⟩ | h
 ·exact .inl (.inr ⟨o,h⟩)
 ·exact .inr h
mutual
noncomputable def Rep (K:PySem.W.Frag)(H:Hp):D->V->List Addr->Prop
 | .non,v,L=>v=.non/\L=[]
 | .bl b,v,L=>v=.bl b/\L=[]
 | .int i,v,L=>v=.int i/\L=[]
 | .str x,v,L=>v=.str x/\L=[]
 | .tup ds,v,L=>∃ a vs,v=.ref a/\SqT K H a vs/\Reps K H ds vs L
 | .lst ds,v,L=>∃ a vs L',v=.ref a/\H a=some (.lst vs)/\L=a::L'/\Reps K H ds vs L'
 | .dic ks ds,v,L=>∃ a kvs L',v=.ref a/\H a=some (.dK kvs)/\L=a::L'/\kvs.map (·.1)=ks/\ks.Nodup/\Reps K H ds (kvs.map (·.2)) L'
 | .frl ds,v,L=>∃ a vs,v=.ref a/\SqF K H a vs/\L=[]/\D.imms ds=true/\Reps K H ds vs []
noncomputable def Reps (K:PySem.W.Frag)(H:Hp):List D->List V->List Addr->Prop
 | [],vs,L=>vs=[]/\L=[]
 | d::ds,vs,L=>∃ v vs' L1 L2,vs=v::vs'/\L=L1++L2/\Rep K H d v L1/\Reps K H ds vs' L2
end
structure TF (H H':Hp):Prop where
 tup:∀ a xs,H a=some (.tup xs)->H' a=some (.tup xs)
 frz:∀ a o u,H a=some (.frz o u)->H' a=some (.frz o u)
theorem Same.tf {H H':Hp}(h:Same H H'):TF H H':=⟨fun a xs e=>h a _ e,fun a o u e=>h a _ e⟩
theorem Same.non {H H1:Hp}(s:Same H H1){a:Addr}(h:H1 a=none):H a=none:=by
 cases e:H a with
 | none=>rfl
 | some o=>rw [s a o e] at h; cases h
theorem Same.new {H:Hp}{p:Addr}{o:HO}(h:H p=none):Same H (upd H p o):=fun b u e=>by
 rw [y4 (yV e h)]; exact e
theorem SqF.tf {K:PySem.W.Frag}{H H':Hp}{a:Addr}{vs:List V}(h:SqF K H a vs)(s:TF H H'):SqF K H' a vs:=by
 rcases h with ⟨o,h⟩ | h
 ·exact .inl ⟨o,s.frz _ _ _ h⟩
 ·exact .inr h
theorem SqT.tf {K:PySem.W.Frag}{H H':Hp}{a:Addr}{vs:List V}(h:SqT K H a vs)(s:TF H H'):SqT K H' a vs:=by
 rcases h with h | h
 ·rcases h with h | ⟨o,h⟩
  ·exact .inl (.inl (s.tup _ _ h))
  ·exact .inl (.inr ⟨o,s.frz _ _ _ h⟩)
 ·exact .inr h
section
variable {K:PySem.W.Frag}{H H':Hp}
mutual
theorem Rep.keep (s:TF H H'):∀ (d:D) (v:V) (L:List Addr),Rep K H d v L->(∀ a∈L,H' a=H a)->Rep K H' d v L
 | .non,_,_,h,_=>h
 | .bl _,_,_,h,_=>h
 | .int _,_,_,h,_=>h
 | .str _,_,_,h,_=>h
 | .tup ds,_,L,hq3,k=>by
  obtain ⟨a,vs,e,h,r⟩:=hq3
  exact ⟨a,vs,e,h.tf s,Reps.keep s ds vs L r k⟩
 | .lst ds,_,L,hq3,k=>by
   obtain ⟨a,vs,L',e,h1,h2,h3⟩:=hq3
   subst h2
   exact ⟨a,vs,L',e,by rw [k a List.mem_cons_self]; exact h1,rfl,Reps.keep s ds vs L' h3 fun b hb=>k b (List.mem_cons_of_mem _ hb)⟩
 | .frl ds,_,L,hq3,k=>by
  obtain ⟨a,vs,e,h1,h2,h3,h4⟩:=hq3
  exact ⟨a,vs,e,h1.tf s,h2,h3,Reps.keep s ds vs [] h4 (fun _ hb=>nomatch hb)⟩
 | .dic ks ds,_,L,hq3,k=>by
   obtain ⟨a,kvs,L',e,h1,h2,h3,h4,h5⟩:=hq3
   subst h2
   exact ⟨a,kvs,L',e,by rw [k a List.mem_cons_self]; exact h1,rfl,h3,h4,Reps.keep s ds _ L' h5 fun b hb=>k b (List.mem_cons_of_mem _ hb)⟩
theorem Reps.keep (s:TF H H'):∀ (ds:List D) (vs:List V) (L:List Addr),Reps K H ds vs L->(∀ a∈L,H' a=H a)->Reps K H' ds vs L
 | [],_,_,h,_=>h
 | d::ds,_,_,hq3,k=>by
  obtain ⟨v,vs',L1,L2,e1,e2,h1,h2⟩:=hq3
  subst e2
  exact ⟨v,vs',L1,L2,e1,rfl,Rep.keep s d v L1 h1 fun a ha=>k a (List.mem_append_left _ ha),Reps.keep s ds vs' L2 h2 fun a ha=>k a (List.mem_append_right _ ha)⟩
end
mutual
theorem Rep.dom:∀ (d:D) (v:V) (L:List Addr),Rep K H d v L->∀ a∈L,(∃ vs,H a=some (.lst vs))\/∃ kvs,H a=some (.dK kvs)
 | .non,_,_,h,a,ha=>by rw [h.2] at ha; cases ha
 | .bl _,_,_,h,a,ha=>by rw [h.2] at ha; cases ha
 | .int _,_,_,h,a,ha=>by rw [h.2] at ha; cases ha
 | .str _,_,_,h,a,ha=>by rw [h.2] at ha; cases ha
 | .tup ds,_,L,hq3,b,hb=>by
  obtain ⟨a,vs,e,h,r⟩:=hq3
  exact Reps.dom ds vs L r b hb
 | .lst ds,_,L,hq3,b,hb=>by
   obtain ⟨a,vs,L',e,h1,h2,h3⟩:=hq3
   subst h2
   rcases List.mem_cons.mp hb with z | z
   ·subst z; exact .inl ⟨vs,h1⟩
   ·exact Reps.dom ds vs L' h3 b z
 | .frl ds,_,L,hq3,b,hb=>by
  obtain ⟨a,vs,e,h1,h2,h3,h4⟩:=hq3
  rw [h2] at hb; cases hb
 | .dic ks ds,_,L,hq3,b,hb=>by
   obtain ⟨a,kvs,L',e,h1,h2,h3,h4,h5⟩:=hq3
   subst h2
   rcases List.mem_cons.mp hb with z | z
   ·subst z; exact .inr ⟨kvs,h1⟩
   ·exact Reps.dom ds _ L' h5 b z
theorem Reps.dom:∀ (ds:List D) (vs:List V) (L:List Addr),Reps K H ds vs L->∀ a∈L,(∃ vs,H a=some (.lst vs))\/∃ kvs,H a=some (.dK kvs)
 | [],_,_,h,a,ha=>by rw [h.2] at ha; cases ha
 | d::ds,_,_,hq3,a,ha=>by
  obtain ⟨v,vs',L1,L2,e1,e2,h1,h2⟩:=hq3
  subst e2
  rcases List.mem_append.mp ha with z | z
  ·exact Rep.dom d v L1 h1 a z
  ·exact Reps.dom ds vs' L2 h2 a z
end
mutual
theorem Rep.imm:∀ (d:D) (v:V) (L:List Addr),Rep K H d v L->d.imm=true->L=[]
 | .non,_,_,h,_=>h.2
 | .bl _,_,_,h,_=>h.2
 | .int _,_,_,h,_=>h.2
 | .str _,_,_,h,_=>h.2
 | .tup ds,_,L,hq3,h=>by
  obtain ⟨_,vs,_,_,r⟩:=hq3
  exact Reps.imm ds vs L r h
 | .lst _,_,_,_,h=>nomatch h
 | .dic _ _,_,_,_,h=>nomatch h
 | .frl _,_,_,hq3,_=>by
  obtain ⟨_,_,_,_,h,_⟩:=hq3
  exact h
theorem Reps.imm:∀ (ds:List D) (vs:List V) (L:List Addr),Reps K H ds vs L->D.imms ds=true->L=[]
 | [],_,_,h,_=>h.2
 | d::ds,_,_,hq3,h=>by
  obtain ⟨v,vs',L1,L2,_,e2,h1,h2⟩:=hq3
  have h:(d.imm&&D.imms ds)=true:=h
  rw [Bool.and_eq_true] at h
  rw [e2,Rep.imm d v L1 h1 h.1,Reps.imm ds vs' L2 h2 h.2]; rfl
end
theorem Rep.there {d:D}{v:V}{L:List Addr}(h:Rep K H d v L){a:Addr}(ha:a∈L):H a≠none:=by
 rcases Rep.dom d v L h a ha with ⟨_,e⟩ | ⟨_,e⟩<;>rw [e]<;>simp
theorem Reps.there {d:List D}{v:List V}{L:List Addr}(h:Reps K H d v L){a:Addr}(ha:a∈L):H a≠none:=by
 rcases Reps.dom d v L h a ha with ⟨_,e⟩ | ⟨_,e⟩<;>rw [e]<;>simp
theorem Same.at {a:Addr}(s:Same H H')(h:H a≠none):H' a=H a:=by
 cases e:H a with
 | none=>exact absurd e h
 | some o=>exact s a o e
theorem Rep.same {d:D}{v:V}{L:List Addr}(h:Rep K H d v L)(s:Same H H'):Rep K H' d v L:=Rep.keep s.tf d v L h fun _ ha=>s.at (h.there ha)
theorem Reps.same {d:List D}{v:List V}{L:List Addr}(h:Reps K H d v L)(s:Same H H'):Reps K H' d v L:=Reps.keep s.tf d v L h fun _ ha=>s.at (h.there ha)
theorem Reps.length:∀ {ds:List D} {vs:List V} {L:List Addr},Reps K H ds vs L->vs.length=ds.length
 | [],_,_,hq3=>by
  obtain ⟨e,_⟩:=hq3
  rw [e]; rfl
 | d::ds,_,_,hq3=>by
  obtain ⟨v,vs',L1,L2,e1,e2,h1,h2⟩:=hq3
  rw [e1,List.length_cons,List.length_cons,Reps.length h2]
theorem Reps.nil:Reps K H [] [] []:=⟨rfl,rfl⟩
theorem Reps.cons {d:D}{v:V}{L1:List Addr}{ds:List D}{vs:List V}{L2:List Addr}(h:Rep K H d v L1)(t:Reps K H ds vs L2):Reps K H (d::ds) (v::vs) (L1++L2):=⟨v,vs,L1,L2,rfl,rfl,h,t⟩
theorem Reps.get:∀ {ds:List D} {vs:List V} {L:List Addr} {i:Nat} {d:D},Reps K H ds vs L->ds[i]?=some d->∃ v L1,vs[i]?=some v/\Rep K H d v L1/\List.Sublist L1 L
 | [],_,_,_,_,_,e=>by simp at e
 | d::ds,_,_,0,_,hq5,e=>by
  obtain ⟨v,vs',L1,L2,e1,e2,h1,h2⟩:=hq5
  subst e1 e2
  simp at e
  subst e
  exact ⟨v,L1,rfl,h1,List.sublist_append_left _ _⟩
 | d::ds,_,_,i+1,d',hq5,e=>by
  obtain ⟨v,vs',L1,L2,e1,e2,h1,h2⟩:=hq5
  subst e1 e2
  obtain ⟨v',L',a,b,c⟩:=Reps.get (i:=i) (d:=d') h2 (by simpa using e)
  exact ⟨v',L',by simpa using a,b,c.trans (List.sublist_append_right _ _)⟩
theorem Reps.append:∀ {ds ds':List D} {vs vs':List V} {L L':List Addr},Reps K H ds vs L->Reps K H ds' vs' L'->Reps K H (ds++ds') (vs++vs') (L++L')
 | [],_,_,_,_,_,hq6,h=>by
  obtain ⟨e1,e2⟩:=hq6
  subst e1 e2; exact h
 | d::ds,_,_,_,_,_,hq6,h=>by
  obtain ⟨v,vs',L1,L2,e1,e2,h1,h2⟩:=hq6
  subst e1 e2
  have:=Reps.cons h1 (Reps.append h2 h)
  rw [<- List.append_assoc] at this
  exact this
theorem Reps.take:∀ {ds:List D} {vs:List V} {L:List Addr} (n:Nat),Reps K H ds vs L->∃ L',Reps K H (ds.take n) (vs.take n) L'/\List.Sublist L' L
 | _,_,_,0,_=>⟨[],by simpa using Reps.nil,List.nil_sublist _⟩
 | [],_,_,n+1,hq4=>by
  obtain ⟨e1,e2⟩:=hq4
  subst e1 e2; exact ⟨[],by simpa using Reps.nil,List.nil_sublist _⟩
 | d::ds,_,_,n+1,hq4=>by
  obtain ⟨v,vs',L1,L2,e1,e2,h1,h2⟩:=hq4
  subst e1 e2
  obtain ⟨L',a,b⟩:=Reps.take n h2
  exact ⟨L1++L',by simpa using Reps.cons h1 a,List.Sublist.append (List.Sublist.refl _) b⟩
theorem Reps.drop:∀ {ds:List D} {vs:List V} {L:List Addr} (n:Nat),Reps K H ds vs L->∃ L',Reps K H (ds.drop n) (vs.drop n) L'/\List.Sublist L' L
 | _,_,L,0,h=>⟨L,by simpa using h,List.Sublist.refl _⟩
 | [],_,_,n+1,hq4=>by
  obtain ⟨e1,e2⟩:=hq4
  subst e1 e2; exact ⟨[],by simpa using Reps.nil,List.nil_sublist _⟩
 | d::ds,_,_,n+1,hq4=>by
  obtain ⟨v,vs',L1,L2,e1,e2,h1,h2⟩:=hq4
  subst e1 e2
  obtain ⟨L',a,b⟩:=Reps.drop n h2
  exact ⟨L',by simpa using a,b.trans (List.sublist_append_right _ _)⟩
end
open PySem PySem.Spec PyProof.Rows
noncomputable abbrev Tn:=List (Option D)
inductive Cl where
 | own | shr | brw | dead
 deriving DecidableEq
inductive Rc where
 | fresh | shr | bor
 deriving DecidableEq
structure EOk (K:PySem.W.Frag)(Γ:List Cl)(O:Addr->Prop)(H:Hp)(σ:St)(τ:Tn):Prop where
 dom:∀ a,O a->H a≠none
 slot:∀ (i:Nat) (c:Cl),Γ[i]?=some c->c≠.dead->∃ v d L,σ[i]?=some (some v)/\τ[i]?=some (some d)/\Rep K H d v L/\(c=.shr->∀ a∈L,¬ O a)
noncomputable def RcOk (c:Rc)(O:Addr->Prop)(H:Hp)(L:List Addr):Prop:=match c with
 | .fresh=>L.Nodup/\∀ a∈L,H a=none
 | .shr=>∀ a∈L,¬ O a
 | .bor=>True
noncomputable def post (K:PySem.W.Frag)(E:XK)(O:Addr->Prop)(c:Rc)(H:Hp)(Q:VK):R D->Prop
 | .ok d=>∀ v H' L,Same H H'->Rep K H' d v L->RcOk c O H L->Q v H'
 | .err n=>∀ C H',ErrC K n C->Same H H'->E (.ref C) none H'
 | .bad=>False
noncomputable def postL (K:PySem.W.Frag)(E:XK)(O:Addr->Prop)(c:Rc)(H:Hp)(Q:List V->Hp->Prop):R (List D)->Prop
 | .ok ds=>∀ vs H' L,Same H H'->Reps K H' ds vs L->RcOk c O H L->Q vs H'
 | .err n=>∀ C H',ErrC K n C->Same H H'->E (.ref C) none H'
 | .bad=>False
noncomputable def postB (K:PySem.W.Frag)(E:XK)(H:Hp)(Q:Bool->Hp->Prop):R Bool->Prop
 | .ok b=>∀ H',Same H H'->Q b H'
 | .err n=>∀ C H',ErrC K n C->Same H H'->E (.ref C) none H'
 | .bad=>False
section
variable {K:PySem.W.Frag}{Γ:List Cl}{O:Addr->Prop}{H H1:Hp}{σ:St}{τ:Tn}{E:XK}{c:Rc}{Q:VK}
theorem EOk.same (e:EOk K Γ O H σ τ)(s:Same H H1):EOk K Γ O H1 σ τ :=
 ⟨fun a h=>by rw [s.at (e.dom a h)]; exact e.dom a h,fun i c h1 h2=>by
  obtain ⟨v,d,L,a1,a2,a3,a4⟩:=e.slot i c h1 h2
  exact ⟨v,d,L,a1,a2,a3.same s,a4⟩⟩
theorem RcOk.same {L:List Addr}(h:RcOk c O H1 L)(s:Same H H1):RcOk c O H L:=by
 cases c with
 | fresh=>exact ⟨h.1,fun a ha=>s.non (h.2 a ha)⟩
 | shr=>exact h
 | bor=>exact h
theorem RcOk.shr {L:List Addr}(dom:∀ a,O a->H a≠none)(hc:c≠.bor)(h:RcOk c O H L):∀ a∈L,¬ O a:=by
 cases c with
 | fresh=>exact fun a ha ho=>dom a ho (h.2 a ha)
 | shr=>exact h
 | bor=>exact absurd rfl hc
theorem RcOk.nil:RcOk c O H []:=by
 cases c with
 | fresh=>exact ⟨List.nodup_nil,fun a ha=>by cases ha⟩
 | shr=>exact fun a ha=>by cases ha
 | bor=>trivial
theorem post.same {r:R D}(h:post K E O c H Q r)(s:Same H H1):post K E O c H1 Q r:=by
 cases r with
 | ok d=>exact fun v H' L s' r' c'=>h v H' L (s.trans s') r' (c'.same s)
 | err n=>exact fun C H' e s'=>h C H' e (s.trans s')
 | bad=>exact h
theorem postL.same {Q:List V->Hp->Prop}{r:R (List D)}(h:postL K E O c H Q r)(s:Same H H1):postL K E O c H1 Q r:=by
 cases r with
 | ok d=>exact fun v H' L s' r' c'=>h v H' L (s.trans s') r' (c'.same s)
 | err n=>exact fun C H' e s'=>h C H' e (s.trans s')
 | bad=>exact h
theorem postB.same {Q:Bool->Hp->Prop}{r:R Bool}(h:postB K E H Q r)(s:Same H H1):postB K E H1 Q r:=by
 cases r with
 | ok d=>exact fun H' s'=>h H' (s.trans s')
 | err n=>exact fun C H' e s'=>h C H' e (s.trans s')
 | bad=>exact h
end
noncomputable def ME (X:Cx)(E:XK)(Γ:List Cl)(e:Expr)(t:Tn->R D)(c:Rc):Prop :=
 ∃ te,PE X e te/\∀ O σ H τ Q,EOk X.K Γ O H σ τ->post X.K E O c H Q (t τ)->te σ H Q
noncomputable def MA (X:Cx)(E:XK)(Γ:List Cl)(es:List Expr)(t:Tn->R (List D))(c:Rc):Prop :=
 (∀ τ ds,t τ=.ok ds->ds.length=es.length)/\∃ ta,PA X es ta/\∀ O σ H τ Q,EOk X.K Γ O H σ τ->postL X.K E O c H Q (t τ)->ta σ H Q
noncomputable def MT (X:Cx)(E:XK)(Γ:List Cl)(e:Expr)(t:Tn->R Bool):Prop :=
 ∃ te,PT X e te/\∀ O σ H τ Q,EOk X.K Γ O H σ τ->postB X.K E H Q (t τ)->te σ H Q
noncomputable def MW (X:Cx)(E:XK)(Γ:List Cl)(e:Expr)(t:Tn->R Bool):Prop :=
 ∃ te,PW X e te/\∀ O σ H τ Q,EOk X.K Γ O H σ τ->postB X.K E H Q (t τ)->te σ H Q
theorem MW.mt {X:Cx}{E:XK}{Γ:List Cl}{e:Expr}{t:Tn->R Bool}(h:MW X E Γ e t):MT X E Γ e t:=by
 obtain ⟨te,p,q⟩:=h
 exact ⟨te,p.pt,q⟩
noncomputable def Rc.of:Cl->Rc
 | .shr=>.shr
 | _=>.bor
noncomputable def Rc.both:Rc->Rc->Rc
 | .fresh,.fresh=>.fresh
 | .bor,_=>.bor
 | _,.bor=>.bor
 | _,_=>.shr
noncomputable def z7 (i:Nat):Tn->R D:=fun τ=>match τ[i]? with
 | some (some d)=>.ok d
 | _=>.bad
noncomputable def eC (d:D):Tn->R D:=fun _=>.ok d
noncomputable def yE (t:Tn->R D):Tn->R D:=fun τ=>(t τ).bind fun d=>if d.imm=true then .ok d else .bad
noncomputable def z9 (g:D->D->R D)(a b:Tn->R D):Tn->R D:=fun τ=>(a τ).bind fun x=>(b τ).bind fun y=>g x y
noncomputable def eUn (g:D->R D)(a:Tn->R D):Tn->R D:=fun τ=>(a τ).bind g
noncomputable def zb:Tn->R (List D):=fun _=>.ok []
noncomputable def z8 (a:Tn->R D)(b:Tn->R (List D)):Tn->R (List D):=fun τ=>(a τ).bind fun x=>(b τ).bind fun xs=>.ok (x::xs)
noncomputable def eL (g:List D->R D)(a:Tn->R (List D)):Tn->R D:=fun τ=>(a τ).bind g
noncomputable def asB:D->R Bool
 | .bl b=>.ok b
 | _=>.bad
noncomputable def zf (a:Tn->R D):Tn->R Bool:=fun τ=>(a τ).bind asB
noncomputable def yu (a b:Tn->R Bool):Tn->R Bool:=fun τ=>(a τ).bind fun x=>if x=true then b τ else .ok false
noncomputable def bOr (a b:Tn->R Bool):Tn->R Bool:=fun τ=>(a τ).bind fun x=>if x=true then .ok true else b τ
noncomputable def xD (a:Tn->R Bool):Tn->R Bool:=fun τ=>(a τ).bind fun x=>.ok (!x)
noncomputable def xM (a b:Tn->R D):Tn->R D:=fun τ=>(a τ).bind fun x=>(asB x).bind fun k=>if k=true then b τ else .ok (.bl false)
noncomputable def yL (g g':D->D->R D)(a b c:Tn->R D):Tn->R D:=fun τ=>(a τ).bind fun x=>(b τ).bind fun y=>(g x y).bind fun z=>(asB z).bind fun k=>if k=true then (c τ).bind fun w=>g' y w else .ok (.bl false)
section
variable {X:Cx}{E:XK}{Γ:List Cl}{e a b:Expr}{t ta tb tc:Tn->R D}{c ca cb:Rc}{pos:Pos}
theorem QC {i:Nat}{x:Str}{k:Cl}(hN:X.N[i]?=some x)(hk:Γ[i]?=some k)(hd:k≠.dead)(hv:Vis X.env.scope x)(hb:autoParam ((x==("__debug__":Str))=false) L2.au1._auto_1)(hcd:autoParam ((x==("__classdict__":Str))=false) L2.au1._auto_1) :
  ME X E Γ (.Name x pos) (z7 i) (Rc.of k):=by
 refine ⟨Jz i,vC hN hv hb hcd,fun O σ H τ Q ok h=>?_⟩
 obtain ⟨v,d,L,e1,e2,e3,e4⟩:=ok.slot i k hk hd
 unfold z7 at h
 rw [e2] at h
 refine ⟨v,e1,h v H L (Same.refl H) e3 ?_⟩
 cases k with
 | shr=>exact e4 rfl
 | own=>trivial
 | brw=>trivial
 | dead=>trivial
theorem WG {d:D}{v:V}(hp:PE X e (tC v))(hr:∀ H,Rep X.K H d v []):ME X E Γ e (eC d) .fresh :=
 ⟨tC v,hp,fun O σ H τ Q ok h=>h v H [] (Same.refl H) (hr H) RcOk.nil⟩
theorem ze {i:Int}{j}:ME X E Γ (.Constant (.int i) j pos) (eC (.int i)) .fresh:=WG Q8 fun _=>⟨rfl,rfl⟩
theorem vh {i:Bool}{j}:ME X E Γ (.Constant (.bool i) j pos) (eC (.bl i)) .fresh:=WG VT fun _=>⟨rfl,rfl⟩
theorem uv {j}:ME X E Γ (.Constant .none j pos) (eC .non) .fresh:=WG KZ fun _=>⟨rfl,rfl⟩
theorem zC {x:Str}{j}:ME X E Γ (.Constant (.str x) j pos) (eC (.str x)) .fresh:=WG um fun _=>⟨rfl,rfl⟩
theorem yY (h:ME X E Γ e t c):ME X E Γ e (yE t) .fresh:=by
 obtain ⟨te,p,q⟩:=h
 refine ⟨te,p,fun O σ H τ Q ok h=>q O σ H τ Q ok ?_⟩
 unfold yE at h
 cases ht:t τ with
 | ok d =>
  rw [ht] at h
  refine fun v H' L s r k=>?_
  rw [R.ok_bind] at h
  by_cases hi:d.imm=true
  ·rw [if_pos hi] at h
   have:=Rep.imm d v L r hi
   subst this
   exact h v H' [] s r RcOk.nil
  ·rw [if_neg hi] at h; exact h.elim
 | err n=>rw [ht] at h; exact h
 | bad=>rw [ht] at h; exact h
theorem post.bind {K:PySem.W.Frag}{O:Addr->Prop}{H:Hp}{Q Q':VK}{r:R D}{f:D->R D}(h:post K E O c H Q (r.bind f))(hf:∀ d,r=.ok d->post K E O c H Q (f d)->∀ v H' L,Same H H'->Rep K H' d v L->RcOk ca O H L->Q' v H'):post K E O ca H Q' r:=by
 cases r with
 | ok d=>exact hf d rfl h
 | err n=>exact h
 | bad=>exact h
theorem zg:MA X E Γ [] zb .fresh:=⟨fun τ ds h=>by cases h; rfl,z0C,wj,fun O σ H τ Q ok h=>h [] H [] (Same.refl H) Reps.nil RcOk.nil⟩
theorem RcOk.append {K:PySem.W.Frag}{O:Addr->Prop}{H H1:Hp}{d:D}{v:V}{L1 L2:List Addr}(dom:∀ a,O a->H a≠none)(s:Same H H1)(r:Rep K H1 d v L1)(h1:RcOk ca O H L1)(h2:RcOk cb O H1 L2):RcOk (Rc.both ca cb) O H (L1++L2):=by
 have dom1:∀ a,O a->H1 a≠none:=fun a h=>by rw [s.at (dom a h)]; exact dom a h
 by_cases hf:ca=.fresh/\cb=.fresh
 ·obtain ⟨rfl,rfl⟩:=hf
  refine ⟨List.nodup_append.mpr ⟨h1.1,h2.1,fun a ha b hb z=>?_⟩,fun a ha=>?_⟩
  ·subst z
   exact r.there ha (h2.2 a hb)
  ·rcases List.mem_append.mp ha with z | z
   ·exact h1.2 a z
   ·exact s.non (h2.2 a z)
 ·have key:ca≠.bor->cb≠.bor->∀ a∈L1++L2,¬ O a:=fun n1 n2 a ha=>by
   rcases List.mem_append.mp ha with z | z
   ·exact h1.shr dom n1 a z
   ·exact h2.shr dom1 n2 a z
  cases ca<;>cases cb<;>first | exact absurd ⟨rfl,rfl⟩ hf | trivial | exact key (by simp) (by simp)
theorem za {es:List Expr}{u:Tn->R (List D)}(h:ME X E Γ e t ca)(r:MA X E Γ es u cb)(hs:autoParam (starEach (e::es) X.env=(false,eval e X.env)::starEach es X.env) L2.au3._auto_1):MA X E Γ (e::es) (z8 t u) (Rc.both ca cb):=by
 obtain ⟨te,p1,q1⟩:=h
 obtain ⟨hl,ta,p2,q2⟩:=r
 refine ⟨fun τ ds h=>?_,UD te ta,zX p1 p2 hs,fun O σ H τ Q ok h=>?_⟩
 ·unfold z8 at h
  cases h1:t τ with
  | ok d =>
   rw [h1,R.ok_bind] at h
   cases h2:u τ with
   | ok xs =>
    rw [h2,R.ok_bind] at h
    cases h
    rw [List.length_cons,List.length_cons,hl τ xs h2]
   | err n=>rw [h2] at h; cases h
   | bad=>rw [h2] at h; cases h
  | err n=>rw [h1] at h; cases h
  | bad=>rw [h1] at h; cases h
 ·unfold z8 at h
  refine q1 O σ H τ _ ok ?_
  cases h1:t τ with
  | ok d =>
   rw [h1,R.ok_bind] at h
   refine fun v H1 L1 s1 r1 k1=>q2 O σ H1 τ _ (ok.same s1) ?_
   cases h2:u τ with
   | ok xs =>
    rw [h2,R.ok_bind] at h
    exact fun vs H2 L2 s2 r2 k2=>h (v::vs) H2 (L1++L2) (s1.trans s2) (Reps.cons (r1.same s2) r2) (RcOk.append ok.dom s1 r1 k1 k2)
   | err n=>rw [h2] at h; exact fun C H' e s'=>h C H' e (s1.trans s')
   | bad=>rw [h2] at h; exact h
  | err n=>rw [h1] at h; exact h
  | bad=>rw [h1] at h; exact h
theorem wo {es:List Expr}{u:Tn->R (List D)}{x1}(h:MA X E Γ es u c)(hz:autoParam (es.length<=1000) L2.au1._auto_1):ME X E Γ (.Tuple es x1 pos) (eL (fun ds=>.ok (.tup ds)) u) c:=by
 obtain ⟨hl,ta,p,q⟩:=h
 refine ⟨z1u ta,YK p,fun O σ H τ Q ok h=>q O σ H τ _ ok ?_⟩
 unfold eL at h
 have hs:sizeLine=16777216:=sizeLine_eq
 cases hu:u τ with
 | ok ds =>
  rw [hu,R.ok_bind] at h
  refine fun vs H1 L s r k=>⟨by rw [r.length,hl τ ds hu]; lia,fun p hp=>?_⟩
  refine h _ _ L (s.trans (Same.new hp)) ⟨p,vs,rfl,SqT.of zK,r.same (Same.new hp)⟩ k
 | err n=>rw [hu] at h; exact h
 | bad=>rw [hu] at h; exact h
theorem xI {es:List Expr}{u:Tn->R (List D)}(h:MA X E Γ es u c)(hz:autoParam (es.length<=1000) L2.au1._auto_1):ME X E Γ (.List es pos) (eL (fun ds=>.ok (.lst ds)) u) c:=by
 obtain ⟨hl,ta,p,q⟩:=h
 refine ⟨z2Q ta,z0i p,fun O σ H τ Q ok h=>q O σ H τ _ ok ?_⟩
 unfold eL at h
 have hs:sizeLine=16777216:=sizeLine_eq
 cases hu:u τ with
 | ok ds =>
  rw [hu,R.ok_bind] at h
  refine fun vs H1 L s r k=>⟨by rw [r.length,hl τ ds hu]; lia,fun p hp=>?_⟩
  refine h _ _ (p::L) (s.trans (Same.new hp)) ⟨p,vs,L,rfl,zK,rfl,r.same (Same.new hp)⟩ ?_
  have np:H p=none:=s.non hp
  cases c with
  | fresh =>
   refine ⟨List.nodup_cons.mpr ⟨fun z=>r.there z hp,k.1⟩,fun a ha=>?_⟩
   rcases List.mem_cons.mp ha with z | z
   ·rw [z]; exact np
   ·exact k.2 a z
  | shr =>
   intro a ha
   rcases List.mem_cons.mp ha with z | z
   ·rw [z]; exact fun o=>ok.dom p o np
   ·exact k a z
  | bor=>trivial
 | err n=>rw [hu] at h; exact h
 | bad=>rw [hu] at h; exact h
theorem xp (h:ME X E Γ e t c)(he:autoParam (∀ whole,isTrue e X.env whole=(do let v <- whole; standAt e.pos; holding [v] (truthy v))) L2.au2._auto_1):MT X E Γ e (zf t):=by
 obtain ⟨te,p,q⟩:=h
 refine ⟨tB te,Xb p he,fun O σ H τ Q ok h=>q O σ H τ _ ok ?_⟩
 unfold zf at h
 cases ht:t τ with
 | ok d =>
  rw [ht,R.ok_bind] at h
  refine fun v H' L s r _=>?_
  cases d with
  | bl k=>exact ⟨k,r.1,h H' s⟩
  | _=>exact h.elim
 | err n=>rw [ht] at h; exact h
 | bad=>rw [ht] at h; exact h
variable {u v:Tn->R Bool}{rest:List Expr}
theorem wU (h:MT X E Γ a u):MT X E Γ (.UnaryOp .Not a pos) (xD u):=by
 obtain ⟨te,p,q⟩:=h
 refine ⟨z29 te,z13 p,fun O σ H τ Q ok h=>q O σ H τ _ ok ?_⟩
 unfold xD at h
 cases ht:u τ with
 | ok d=>rw [ht,R.ok_bind] at h; exact h
 | err n=>rw [ht] at h; exact h
 | bad=>rw [ht] at h; exact h
theorem vv (h:MT X E Γ a u):MW X E Γ (.BoolOp .And [a] pos) u:=by
 obtain ⟨te,p,q⟩:=h
 exact ⟨te,JX p,q⟩
theorem uu (h:MT X E Γ a u):MW X E Γ (.BoolOp .Or [a] pos) u:=by
 obtain ⟨te,p,q⟩:=h
 exact ⟨te,z0t p,q⟩
theorem wO (h:MT X E Γ a u)(r:MW X E Γ (.BoolOp .And (b::rest) pos) v):MW X E Γ (.BoolOp .And (a::b::rest) pos) (yu u v):=by
 obtain ⟨te,p,q⟩:=h
 obtain ⟨te',p',q'⟩:=r
 refine ⟨z20 te te',z01 p p',fun O σ H τ Q ok h=>q O σ H τ _ ok ?_⟩
 unfold yu at h
 cases ht:u τ with
 | ok d =>
  rw [ht,R.ok_bind] at h
  refine fun H1 s1=>?_
  cases d with
  | true=>rw [if_pos rfl] at h ⊢; exact q' O σ H1 τ Q (ok.same s1) (h.same s1)
  | false=>rw [if_neg Bool.false_ne_true] at h ⊢; exact h H1 s1
 | err n=>rw [ht] at h; exact h
 | bad=>rw [ht] at h; exact h
theorem ue (h:MT X E Γ a u)(r:MW X E Γ (.BoolOp .Or (b::rest) pos) v):MW X E Γ (.BoolOp .Or (a::b::rest) pos) (bOr u v):=by
 obtain ⟨te,p,q⟩:=h
 obtain ⟨te',p',q'⟩:=r
 refine ⟨tOr te te',z1i p p',fun O σ H τ Q ok h=>q O σ H τ _ ok ?_⟩
 unfold bOr at h
 cases ht:u τ with
 | ok d =>
  rw [ht,R.ok_bind] at h
  refine fun H1 s1=>?_
  cases d with
  | true=>rw [if_pos rfl] at h ⊢; exact h H1 s1
  | false=>rw [if_neg Bool.false_ne_true] at h ⊢; exact q' O σ H1 τ Q (ok.same s1) (h.same s1)
 | err n=>rw [ht] at h; exact h
 | bad=>rw [ht] at h; exact h
theorem uq {op}(h:ME X E Γ a t c):ME X E Γ (.BoolOp op [a] pos) t c:=by
 obtain ⟨te,p,q⟩:=h
 exact ⟨te,UB p,q⟩
theorem ZP {K:PySem.W.Frag}{O:Addr->Prop}{H:Hp}{Q:VK}{d:D}{f:Bool->R D}(h:post K E O c H Q ((asB d).bind f)){v:V}{H':Hp}{L:List Addr}(r:Rep K H' d v L):∃ k,v=.bl k/\d=.bl k/\post K E O c H Q (f k):=by
 cases d with
 | bl k=>exact ⟨k,r.1,rfl,h⟩
 | _=>exact h.elim
theorem vG (ha:ME X E Γ a ta ca)(hb:ME X E Γ (.BoolOp .And (b::rest) pos) tb c):ME X E Γ (.BoolOp .And (a::b::rest) pos) (xM ta tb) c:=by
 obtain ⟨te,p,q⟩:=ha
 obtain ⟨te',p',q'⟩:=hb
 refine ⟨KJ te te',Uj p p',fun O σ H τ Q ok h=>q O σ H τ _ ok (post.bind h fun d _ h v H1 L s r _=>?_)⟩
 obtain ⟨k,e1,e2,h⟩:=ZP h r
 refine ⟨k,e1,?_⟩
 cases k with
 | true=>rw [if_pos rfl] at h ⊢; exact q' O σ H1 τ Q (ok.same s) (h.same s)
 | false=>rw [if_neg Bool.false_ne_true] at h ⊢; exact h _ H1 [] s ⟨rfl,rfl⟩ RcOk.nil
noncomputable def OpB (K:PySem.W.Frag)(r:R2)(g:D->D->R D):Prop :=
 ∀ H x y dx dy Lx Ly (Q:VK),Rep K H dx x Lx->Rep K H dy y Ly->(∃ d,g dx dy=.ok d/\∀ v H' L,Same H H'->Rep K H' d v L->L.Nodup->(∀ a∈L,H a=none)->Q v H')->r x y H Q
noncomputable def xa (g:D->D->R D):Prop:=∀ x y n,g x y≠.err n
theorem Xw {r:R2}{g:D->D->R D}{te te':TE}(hB:OpB X.K r g)(hn:xa g)(q:∀ O σ H τ Q,EOk X.K Γ O H σ τ->post X.K E O ca H Q (ta τ)->te σ H Q)(q':∀ O σ H τ Q,EOk X.K Γ O H σ τ->post X.K E O cb H Q (tb τ)->te' σ H Q)
  {O:Addr->Prop} {σ:St} {H:Hp} {τ:Tn} {Q:VK} (ok:EOk X.K Γ O H σ τ) (h:post X.K E O .fresh H Q (z9 g ta tb τ)):tOp r te te' σ H Q:=by
 unfold z9 at h
 refine q O σ H τ _ ok (post.bind h fun dx _ h x H1 Lx s1 rx _=>q' O σ H1 τ _ (ok.same s1) (post.bind (h.same s1) fun dy _ h y H2 Ly s2 ry _=>?_))
 cases hg:g dx dy with
 | ok d =>
  rw [hg] at h
  exact hB H2 x y dx dy Lx Ly Q (rx.same s2) ry ⟨d,hg,fun v H' L s r n1 n2=>h v H' L (s2.trans s) r ⟨n1,fun a ha=>s2.non (n2 a ha)⟩⟩
 | err n=>exact absurd hg (hn _ _ _)
 | bad=>rw [hg] at h; exact h.elim
theorem zj {op:Operator}{r:R2}{g:D->D->R D}(ho:OpR X (binaryOp op) r)(hB:OpB X.K r g)(hn:xa g)(ha:ME X E Γ a ta ca)(hb:ME X E Γ b tb cb):ME X E Γ (.BinOp a op b pos) (z9 g ta tb) .fresh:=by
 obtain ⟨te,p,q⟩:=ha
 obtain ⟨te',p',q'⟩:=hb
 exact ⟨_,Ky ho p p',fun O σ H τ Q ok h=>Xw hB hn q q' ok h⟩
theorem wc {op:CmpOp}{r:R2}{g:D->D->R D}(ho:OpR X (compareOp op) r)(hB:OpB X.K r g)(hn:xa g)(ha:ME X E Γ a ta ca)(hb:ME X E Γ b tb cb)(hm:behindInMarks op b=false):ME X E Γ (.Compare a [op] [b] pos) (z9 g ta tb) .fresh:=by
 obtain ⟨te,p,q⟩:=ha
 obtain ⟨te',p',q'⟩:=hb
 exact ⟨_,Jl ho p p' hm,fun O σ H τ Q ok h=>Xw hB hn q q' ok h⟩
theorem kK {K:PySem.W.Frag}{O:Addr->Prop}{H:Hp}{Q:Bool->Hp->Prop}{r:R D}(h:postB K E H Q (r.bind asB)):post K E O c H (fun x H'=>∃ k,x=.bl k/\Q k H') r:=by
 cases r with
 | ok d =>
  refine fun v H' L s r _=>?_
  cases d with
  | bl k=>exact ⟨k,r.1,h H' s⟩
  | _=>exact h.elim
 | err n=>exact h
 | bad=>exact h
theorem zI {op:CmpOp}{r:R2}{g:D->D->R D}(ho:OpR X (compareOp op) r)(hB:OpB X.K r g)(hn:xa g)(ha:ME X E Γ a ta ca)(hb:ME X E Γ b tb cb)(hm:behindInMarks op b=false):MT X E Γ (.Compare a [op] [b] pos) (zf (z9 g ta tb)):=by
 obtain ⟨te,p,q⟩:=ha
 obtain ⟨te',p',q'⟩:=hb
 exact ⟨_,Qr ho p p' hm,fun O σ H τ Q ok h=>Xw (O:=O) hB hn q q' ok (kK h)⟩
theorem YA {c':Expr}{cc:Rc}{r r':R2}{g g':D->D->R D}{te te' te2:TE}(hB:OpB X.K r g)(hn:xa g)(hB':OpB X.K r' g')(hn':xa g')(q:∀ O σ H τ Q,EOk X.K Γ O H σ τ->post X.K E O ca H Q (ta τ)->te σ H Q)(q':∀ O σ H τ Q,EOk X.K Γ O H σ τ->post X.K E O cb H Q (tb τ)->te' σ H Q)
  (q2:∀ O σ H τ Q,EOk X.K Γ O H σ τ->post X.K E O cc H Q (tc τ)->te2 σ H Q) {O:Addr->Prop} {σ:St} {H:Hp} {τ:Tn} {Q:VK} (ok:EOk X.K Γ O H σ τ) (h:post X.K E O .fresh H Q (yL g g' ta tb tc τ)):Xx r r' te te' te2 σ H Q:=by
 unfold yL at h
 refine q O σ H τ _ ok (post.bind h fun dx _ h x H1 Lx s1 rx _=>q' O σ H1 τ _ (ok.same s1) (post.bind (h.same s1) fun dy _ h y H2 Ly s2 ry _=>?_))
 cases hg:g dx dy with
 | ok d =>
  rw [hg,R.ok_bind] at h
  refine hB H2 x y dx dy Lx Ly _ (rx.same s2) ry ⟨d,hg,fun z H3 L s3 r3 n1 n2=>?_⟩
  obtain ⟨k,e1,e2,h⟩:=ZP (h.same s2) r3
  refine ⟨k,e1,?_⟩
  cases k with
  | true =>
   rw [if_pos rfl] at h ⊢
   have ok3:=((ok.same s1).same s2).same s3
   refine q2 O σ H3 τ _ ok3 (post.bind (h.same s3) fun dw _ h w H4 Lw s4 rw4 _=>?_)
   cases hg':g' dy dw with
   | ok d' =>
    rw [hg'] at h
    exact hB' H4 y w dy dw Ly Lw Q ((ry.same s3).same s4) rw4 ⟨d',hg',fun v H' L s r n1 n2=>h v H' L (s4.trans s) r ⟨n1,fun a ha=>s4.non (n2 a ha)⟩⟩
   | err n=>exact absurd hg' (hn' _ _ _)
   | bad=>rw [hg'] at h; exact h.elim
  | false=>rw [if_neg Bool.false_ne_true] at h ⊢; exact h _ H3 [] s3 ⟨rfl,rfl⟩ RcOk.nil
 | err n=>exact absurd hg (hn _ _ _)
 | bad=>rw [hg] at h; exact h.elim
theorem VG {op op':CmpOp}{c':Expr}{cc:Rc}{r r':R2}{g g':D->D->R D}(ho:OpR X (compareOp op) r)(hB:OpB X.K r g)(hn:xa g)(ho':OpR X (compareOp op') r')(hB':OpB X.K r' g')(hn':xa g')
  (ha:ME X E Γ a ta ca) (hb:ME X E Γ b tb cb) (hc:ME X E Γ c' tc cc) (hm:autoParam (lastMarks [op,op'] [b,c']=false) L2.au4._auto_1):ME X E Γ (.Compare a [op,op'] [b,c'] pos) (yL g g' ta tb tc) .fresh:=by
 obtain ⟨te,p,q⟩:=ha
 obtain ⟨te',p',q'⟩:=hb
 obtain ⟨te2,p2,q2⟩:=hc
 exact ⟨_,VI ho ho' p p' p2 hm,fun O σ H τ Q ok h=>YA (c':=c') hB hn hB' hn' q q' q2 ok h⟩
theorem Yx {op op':CmpOp}{c':Expr}{cc:Rc}{r r':R2}{g g':D->D->R D}(ho:OpR X (compareOp op) r)(hB:OpB X.K r g)(hn:xa g)(ho':OpR X (compareOp op') r')(hB':OpB X.K r' g')(hn':xa g')
  (ha:ME X E Γ a ta ca) (hb:ME X E Γ b tb cb) (hc:ME X E Γ c' tc cc) (hm:autoParam (lastMarks [op,op'] [b,c']=false) L2.au4._auto_1):MT X E Γ (.Compare a [op,op'] [b,c'] pos) (zf (yL g g' ta tb tc)):=by
 obtain ⟨te,p,q⟩:=ha
 obtain ⟨te',p',q'⟩:=hb
 obtain ⟨te2,p2,q2⟩:=hc
 exact ⟨_,UJ ho ho' p p' p2 hm,fun O σ H τ Q ok h=>YA (c':=c') (O:=O) hB hn hB' hn' q q' q2 ok (kK h)⟩
noncomputable def ClB (K:PySem.W.Frag)(r:List V->Hp->VK->Prop)(g:List D->R D):Prop :=
 ∀ H xs ds L (Q:VK),Reps K H ds xs L->(∃ d,g ds=.ok d/\∀ v H' L',Same H H'->Rep K H' d v L'->L'.Nodup->(∀ a∈L',H a=none)->Q v H')->r xs H Q
noncomputable def xO (g:List D->R D):Prop:=∀ ds n,g ds≠.err n
variable {uL:Tn->R (List D)}{es:List Expr}
theorem KN {r:List V->Hp->VK->Prop}{g:List D->R D}{ta':TA}(hB:ClB X.K r g)(hn:xO g)(q:∀ O σ H τ Q,EOk X.K Γ O H σ τ->postL X.K E O ca H Q (uL τ)->ta' σ H Q)
  {O:Addr->Prop} {σ:St} {H:Hp} {τ:Tn} {Q:VK} (ok:EOk X.K Γ O H σ τ) (h:post X.K E O .fresh H Q (eL g uL τ)):tCB r ta' σ H Q:=by
 refine q O σ H τ _ ok ?_
 unfold eL at h
 cases hu:uL τ with
 | ok ds =>
  rw [hu,R.ok_bind] at h
  refine fun vs H1 L s1 r1 _=>?_
  cases hg:g ds with
  | ok d =>
   rw [hg] at h
   exact hB H1 vs ds L Q r1 ⟨d,hg,fun v H' L s r n1 n2=>h v H' L (s1.trans s) r ⟨n1,fun a ha=>s1.non (n2 a ha)⟩⟩
  | err n=>exact absurd hg (hn _ _)
  | bad=>rw [hg] at h; exact h.elim
 | err n=>rw [hu] at h; exact h
 | bad=>rw [hu] at h; exact h
variable {x:Str}{id T:String}{p:Pos}
theorem zF {r:List V->Hp->VK->Prop}{g:List D->R D}(hc:CallR X (.builtin id) r)(hB:ClB X.K r g)(hn:xO g)(hg:Gl X x)(hm:X.mg x=none)(hv:bootBuiltins x=some (.builtin id))(ha:MA X E Γ (e::es) uL ca)(hx:autoParam (x≠"__name__") L2.au1._auto_1)(hdb:autoParam ((x==("__debug__":Str))=false) L2.au1._auto_1)
  (he:autoParam (starEach (e::es) X.env=(false,eval e X.env)::starEach es X.env) L2.au3._auto_1) (hpl:autoParam ((backTo pos (starEach es X.env)).any (·.1)=false) L2.au3._auto_1):ME X E Γ (.Call (.Name x p) (e::es) [] pos) (eL g uL) .fresh:=by
 obtain ⟨_,ta',p',q⟩:=ha
 exact ⟨_,vK hc hg hm hv p' hx hdb he hpl,fun O σ H τ Q ok h=>KN hB hn q ok h⟩
theorem qo {r:List V->Hp->VK->Prop}{g:List D->R D}(hc:CallR X (.type T) r)(hB:ClB X.K r g)(hn:xO g)(hg:Gl X x)(hm:X.mg x=none)(hv:bootBuiltins x=some (.type T))(ha:MA X E Γ (e::es) uL ca)(hx:autoParam (x≠"__name__") L2.au1._auto_1)(hdb:autoParam ((x==("__debug__":Str))=false) L2.au1._auto_1)
  (he:autoParam (starEach (e::es) X.env=(false,eval e X.env)::starEach es X.env) L2.au3._auto_1) (hpl:autoParam ((backTo pos (starEach es X.env)).any (·.1)=false) L2.au3._auto_1):ME X E Γ (.Call (.Name x p) (e::es) [] pos) (eL g uL) .fresh:=by
 obtain ⟨_,ta',p',q⟩:=ha
 exact ⟨_,ky hc hg hm hv p' hx hdb he hpl,fun O σ H τ Q ok h=>KN hB hn q ok h⟩
end
open PySem PySem.Spec PyProof.Rows
noncomputable def wpE (K:PySem.W.Frag)(E:XK)(Γ:List Cl)(t:Tn->R D)(c:Rc):TE:=fun σ H Q=>∃ O τ,EOk K Γ O H σ τ/\post K E O c H Q (t τ)
noncomputable def wpT (K:PySem.W.Frag)(E:XK)(Γ:List Cl)(t:Tn->R Bool):TT:=fun σ H Q=>∃ O τ,EOk K Γ O H σ τ/\postB K E H Q (t τ)
theorem ME.pe {X:Cx}{E:XK}{Γ:List Cl}{e:Expr}{t:Tn->R D}{c:Rc}(h:ME X E Γ e t c):PE X e (wpE X.K E Γ t c):=by
 obtain ⟨te,p,q⟩:=h
 rintro pins s σ H Q I ⟨O,τ,ok,z⟩
 exact p pins s σ H Q I (q O σ H τ Q ok z)
theorem MT.pt {X:Cx}{E:XK}{Γ:List Cl}{e:Expr}{t:Tn->R Bool}(h:MT X E Γ e t):PT X e (wpT X.K E Γ t):=by
 obtain ⟨te,p,q⟩:=h
 rintro pins s σ H Q I ⟨O,τ,ok,z⟩
 exact p pins s σ H Q I (q O σ H τ Q ok z)
structure SOk (K:PySem.W.Frag)(Γ:List Cl)(B H:Hp)(σ:St)(τ:Tn)(T:List Addr):Prop where
 ext:Same B H
 lσ:σ.length=Γ.length
 lτ:τ.length=Γ.length
 ex:∃ Ls:Nat->List Addr,
  (∀ i c,Γ[i]?=some c->c≠.dead->∃ v d,σ[i]?=some (some v)/\τ[i]?=some (some d)/\Rep K H d v (Ls i)) /\
  (∀ i,Γ[i]?=some .own->(Ls i).Nodup/\∀ a∈Ls i,B a=none) /\
  (∀ i j c,i≠j->Γ[i]?=some .own->Γ[j]?=some c->c≠.dead->∀ a∈Ls i,a∉Ls j) /\
  T.Nodup/\(∀ a∈T,B a=none/\H a≠none)/\(∀ i c,Γ[i]?=some c->c≠.dead->∀ a∈Ls i,a∉T)
inductive Fl where
 | nx (τ:Tn) | rt (d:D) | bk (τ:Tn) | ct (τ:Tn)
noncomputable def z1U (K:PySem.W.Frag)(E:XK)(B:Hp)(Γ':List Cl)(σ:St)(τ:Tn)(T:List Addr)(H:Hp)(Q:VK):R D->Prop
 | .ok d=>∀ v H' L,Same H H'->Rep K H' d v L->SOk K Γ' B H' σ τ (L++T)->Q v H'
 | .err n=>∀ C H',ErrC K n C->Same B H'->E (.ref C) none H'
 | .bad=>False
noncomputable def wG (K:PySem.W.Frag)(E:XK)(B:Hp)(Γl Γ':List Cl)(Z:Ends):R Fl->Prop
 | .ok (.nx τ')=>∀ σ' H',SOk K Γ' B H' σ' τ' []->Z.nx σ' H'
 | .ok (.rt d)=>∀ v H' L,Same B H'->Rep K H' d v L->L.Nodup->(∀ a∈L,B a=none)->Z.rt v H'
 | .ok (.bk τ')=>∀ σ' H',SOk K Γl B H' σ' τ' []->Z.bk σ' H'
 | .ok (.ct τ')=>∀ σ' H',SOk K Γl B H' σ' τ' []->Z.ct σ' H'
 | .err n=>∀ C H',ErrC K n C->Same B H'->E (.ref C) none H'
 | .bad=>False
noncomputable def MV (X:Cx)(E:XK)(Γ:List Cl)(e:Expr)(t:Tn->R D)(Γ':List Cl):Prop :=
 ∃ te,PE X e te/\∀ B σ H τ T Q,SOk X.K Γ B H σ τ T->z1U X.K E B Γ' σ τ T H Q (t τ)->te σ H Q
noncomputable def MS (X:Cx)(E:XK)(Γl Γ:List Cl)(s:Stmt)(t:Tn->R Fl)(Γ':List Cl):Prop :=
 ∃ ts,PS X s ts/\∀ B σ H τ Z,SOk X.K Γ B H σ τ []->wG X.K E B Γl Γ' Z (t τ)->ts Z σ H
noncomputable def MSs (X:Cx)(E:XK)(Γl Γ:List Cl)(s:List Stmt)(t:Tn->R Fl)(Γ':List Cl):Prop :=
 ∃ ts,PSs X s ts/\∀ B σ H τ Z,SOk X.K Γ B H σ τ []->wG X.K E B Γl Γ' Z (t τ)->ts Z σ H
section
variable {K:PySem.W.Frag}{Γ Γ':List Cl}{B H H1:Hp}{σ:St}{τ:Tn}{T:List Addr}
theorem SOk.eok (h:SOk K Γ B H σ τ T):∃ O:Addr->Prop,EOk K Γ O H σ τ/\(∀ L:List Addr,(∀ a∈L,¬ O a)->∃ Ls:Nat->List Addr,
  (∀ i c,Γ[i]?=some c->c≠.dead->∃ v d,σ[i]?=some (some v)/\τ[i]?=some (some d)/\Rep K H d v (Ls i)) /\
  (∀ i,Γ[i]?=some .own->(Ls i).Nodup/\∀ a∈Ls i,B a=none) /\
  (∀ i j c,i≠j->Γ[i]?=some .own->Γ[j]?=some c->c≠.dead->∀ a∈Ls i,a∉Ls j) /\
  T.Nodup/\(∀ a∈T,B a=none/\H a≠none)/\(∀ i c,Γ[i]?=some c->c≠.dead->∀ a∈Ls i,a∉T)/\∀ i,Γ[i]?=some .own->∀ a∈Ls i,a∉L):=by
 obtain ⟨Ls,h1,h2,h3,h4,h5,h6⟩:=h.ex
 refine ⟨fun a=>∃ i,Γ[i]?=some .own/\a∈Ls i,⟨fun a ⟨i,e,ha⟩=>?_,fun i c e hc=>?_⟩,fun L hL=>⟨Ls,h1,h2,h3,h4,h5,h6,fun i e a ha hm=>hL a hm ⟨i,e,ha⟩⟩⟩
 ·obtain ⟨v,d,_,_,r⟩:=h1 i _ e (by simp)
  exact r.there ha
 ·obtain ⟨v,d,e1,e2,r⟩:=h1 i c e hc
  refine ⟨v,d,Ls i,e1,e2,r,fun z a ha ⟨j,ej,hj⟩=>?_⟩
  subst z
  have hij:j≠i:=fun z=>by subst z; rw [e] at ej; cases ej
  exact h3 j i _ hij ej e (by simp) a hj ha
theorem SOk.same (h:SOk K Γ B H σ τ T)(s:Same H H1):SOk K Γ B H1 σ τ T:=by
 obtain ⟨Ls,h1,h2,h3,h4,h5,h6⟩:=h.ex
 refine ⟨h.ext.trans s,h.lσ,h.lτ,Ls,fun i c e hc=>?_,h2,h3,h4,fun a ha=>⟨(h5 a ha).1,by rw [s.at (h5 a ha).2]; exact (h5 a ha).2⟩,h6⟩
 obtain ⟨v,d,e1,e2,r⟩:=h1 i c e hc
 exact ⟨v,d,e1,e2,r.same s⟩
theorem SOk.aside {L:List Addr}(h:SOk K Γ B H σ τ T)(s:Same H H1)(r:∀ a∈L,H1 a≠none)(n1:L.Nodup)(n2:∀ a∈L,H a=none):SOk K Γ B H1 σ τ (L++T):=by
 obtain ⟨Ls,h1,h2,h3,h4,h5,h6⟩:=h.ex
 refine ⟨h.ext.trans s,h.lσ,h.lτ,Ls,fun i c e hc=>?_,h2,h3,List.nodup_append.mpr ⟨n1,h4,fun a ha b hb z=>?_⟩,fun a ha=>?_,fun i c e hc a ha hm=>?_⟩
 ·obtain ⟨v,d,e1,e2,r⟩:=h1 i c e hc
  exact ⟨v,d,e1,e2,r.same s⟩
 ·subst z; exact (h5 a hb).2 (n2 a ha)
 ·rcases List.mem_append.mp ha with z | z
  ·exact ⟨h.ext.non (n2 a z),r a z⟩
  ·exact ⟨(h5 a z).1,by rw [s.at (h5 a z).2]; exact (h5 a z).2⟩
 ·obtain ⟨v,d,e1,e2,r'⟩:=h1 i c e hc
  rcases List.mem_append.mp hm with z | z
  ·exact r'.there ha (n2 a z)
  ·exact h6 i c e hc a ha z
noncomputable def wk1:Cl->Cl->Bool
 | _,.dead=>true
 | .own,.own=>true
 | .own,.shr=>true
 | .shr,.shr=>true
 | _,_=>false
noncomputable def wk:List Cl->List Cl->Bool
 | [],[]=>true
 | a::r,b::q=>wk1 a b&&wk r q
 | _,_=>false
theorem XH:∀ {Γ Γ':List Cl},wk Γ Γ'=true->Γ.length=Γ'.length
 | [],[],_=>rfl
 | a::r,b::q,h=>by
  have h:(wk1 a b&&wk r q)=true:=h
  rw [Bool.and_eq_true] at h
  rw [List.length_cons,List.length_cons,XH h.2]
theorem KC:∀ {Γ Γ':List Cl} {i:Nat} {c:Cl},wk Γ Γ'=true->Γ'[i]?=some c->∃ k,Γ[i]?=some k/\wk1 k c=true
 | [],[],_,_,_,e=>by simp at e
 | a::r,b::q,0,c,h,e=>by
  have h:(wk1 a b&&wk r q)=true:=h
  rw [Bool.and_eq_true] at h
  simp at e; subst e
  exact ⟨a,rfl,h.1⟩
 | a::r,b::q,i+1,c,h,e=>by
  have h:(wk1 a b&&wk r q)=true:=h
  rw [Bool.and_eq_true] at h
  obtain ⟨k,h1,h2⟩:=KC (i:=i) (c:=c) h.2 (by simpa using e)
  exact ⟨k,by simpa using h1,h2⟩
theorem SOk.weak (h:SOk K Γ B H σ τ T)(w:wk Γ Γ'=true):SOk K Γ' B H σ τ T:=by
 obtain ⟨Ls,h1,h2,h3,h4,h5,h6⟩:=h.ex
 have live:∀ (i:Nat) (c:Cl),Γ'[i]?=some c->c≠Cl.dead->∃ k,Γ[i]?=some k/\k≠Cl.dead/\(c=Cl.own->k=Cl.own):=fun i c e hc=>by
  obtain ⟨k,e',w'⟩:=KC w e
  refine ⟨k,e',fun z=>?_,fun z=>?_⟩
  ·subst z; cases c<;>first | exact absurd rfl hc | cases w'
  ·subst z; cases k<;>first | rfl | cases w'
 refine ⟨h.ext,by rw [<- XH w]; exact h.lσ,by rw [<- XH w]; exact h.lτ,Ls,fun i c e hc=>?_,fun i e=>?_,fun i j c hij ei ej hc=>?_,h4,h5,fun i c e hc=>?_⟩
 ·obtain ⟨k,e',n,_⟩:=live i c e hc
  exact h1 i k e' n
 ·obtain ⟨k,e',n,o⟩:=live i _ e (by simp)
  rw [o rfl] at e'
  exact h2 i e'
 ·obtain ⟨k,e',n,o⟩:=live i _ ei (by simp)
  obtain ⟨k2,e2,n2,_⟩:=live j c ej hc
  rw [o rfl] at e'
  exact h3 i j k2 hij e' e2 n2
 ·obtain ⟨k,e',n,_⟩:=live i c e hc
  exact h6 i k e' n
theorem SOk.out {i:Nat}(h:SOk K Γ B H σ τ T)(e:Γ[i]?=some .own):∃ v d L,σ[i]?=some (some v)/\τ[i]?=some (some d)/\Rep K H d v L/\SOk K (Γ.set i .dead) B H σ τ (L++T):=by
 obtain ⟨Ls,h1,h2,h3,h4,h5,h6⟩:=h.ex
 obtain ⟨v,d,e1,e2,r⟩:=h1 i _ e (by simp)
 have hi:i<Γ.length:=(List.getElem?_eq_some_iff.mp e).1
 have at':∀ (j:Nat) (c:Cl),(Γ.set i .dead)[j]?=some c->c≠.dead->j≠i/\Γ[j]?=some c:=fun j c ej hc=>by
  by_cases z:i=j
  ·subst z; rw [List.getElem?_set_self hi] at ej; exact absurd (Option.some.inj ej).symm hc
  ·rw [List.getElem?_set_ne z] at ej; exact ⟨Ne.symm z,ej⟩
 refine ⟨v,d,Ls i,e1,e2,r,⟨h.ext,by rw [List.length_set]; exact h.lσ,by rw [List.length_set]; exact h.lτ,Ls,fun j c ej hc=>h1 j c (at' j c ej hc).2 hc,fun j ej=>h2 j (at' j _ ej (by simp)).2,fun j k c hjk ej ek hc=>h3 j k c hjk (at' j _ ej (by simp)).2 (at' k c ek hc).2 hc,
  List.nodup_append.mpr ⟨(h2 i e).1,h4,fun a ha b hb z=>?_⟩,fun a ha=>?_,fun j c ej hc a ha hm=>?_⟩⟩
 ·subst z; exact h6 i _ e (by simp) a ha hb
 ·rcases List.mem_append.mp ha with z | z
  ·exact ⟨(h2 i e).2 a z,r.there z⟩
  ·exact h5 a z
 ·obtain ⟨n,ej'⟩:=at' j c ej hc
  rcases List.mem_append.mp hm with z | z
  ·exact h3 i j c (Ne.symm n) e ej' hc a z ha
  ·exact h6 j c ej' hc a ha z
noncomputable def Xj (Ls:Nat->List Addr)(i:Nat)(L:List Addr):Nat->List Addr:=fun j=>if j=i then L else Ls j
theorem yk {Ls:Nat->List Addr}{i:Nat}{L:List Addr}:Xj Ls i L i=L:=if_pos rfl
theorem Wb {Ls:Nat->List Addr}{i j:Nat}{L:List Addr}(h:j=i):Xj Ls i L j=L:=if_pos h
theorem yc {Ls:Nat->List Addr}{i j:Nat}{L:List Addr}(h:j≠i):Xj Ls i L j=Ls j:=if_neg h
theorem SOk.into {i:Nat}{d:D}{v:V}{L:List Addr}(h:SOk K Γ B H σ τ (L++T))(r:Rep K H d v L)(hi:i<Γ.length):SOk K (Γ.set i .own) B H (σ.set i (some v)) (τ.set i (some d)) T:=by
 obtain ⟨Ls,h1,h2,h3,h4,h5,h6⟩:=h.ex
 have hσ:i<σ.length:=by rw [h.lσ]; exact hi
 have hτ:i<τ.length:=by rw [h.lτ]; exact hi
 obtain ⟨n1,n2,n3⟩:=List.nodup_append.mp h4
 have at':∀ (j:Nat) (c:Cl),j≠i->(Γ.set i .own)[j]?=some c->Γ[j]?=some c:=fun j c hj e=>by rw [List.getElem?_set_ne (Ne.symm hj)] at e; exact e
 refine ⟨h.ext,by rw [List.length_set,List.length_set]; exact h.lσ,by rw [List.length_set,List.length_set]; exact h.lτ,Xj Ls i L,fun j c e hc=>?_,fun j e=>?_,fun j k c hjk ej ek hc a ha hm=>?_,n2,fun a ha=>h5 a (List.mem_append_right _ ha),fun j c e hc a ha hm=>?_⟩
 ·by_cases z:j=i
  ·subst z
   refine ⟨v,d,by rw [List.getElem?_set_self hσ],by rw [List.getElem?_set_self hτ],?_⟩
   rw [yk]; exact r
  ·obtain ⟨v',d',e1,e2,r'⟩:=h1 j c (at' j c z e) hc
   refine ⟨v',d',by rw [List.getElem?_set_ne (Ne.symm z)]; exact e1,by rw [List.getElem?_set_ne (Ne.symm z)]; exact e2,?_⟩
   rw [yc z]; exact r'
 ·by_cases z:j=i
  ·subst z; rw [yk]; exact ⟨n1,fun a ha=>(h5 a (List.mem_append_left _ ha)).1⟩
  ·rw [yc z]; exact h2 j (at' j _ z e)
 ·by_cases z:j=i
  ·subst z
   rw [yk] at ha
   rw [yc (Ne.symm hjk)] at hm
   exact h6 k c (at' k c (Ne.symm hjk) ek) hc a hm (List.mem_append_left _ ha)
  ·rw [yc z] at ha
   by_cases z2:k=i
   ·subst z2
    rw [yk] at hm
    exact h6 j _ (at' j _ z ej) (by simp) a ha (List.mem_append_left _ hm)
   ·rw [yc z2] at hm
    exact h3 j k c hjk (at' j _ z ej) (at' k c z2 ek) hc a ha hm
 ·by_cases z:j=i
  ·subst z; rw [yk] at ha; exact n3 a ha a hm rfl
  ·rw [yc z] at ha; exact h6 j c (at' j c z e) hc a ha (List.mem_append_right _ hm)
end
open PySem PySem.Spec PyProof.Rows
section
variable {K:PySem.W.Frag}{Γ Γ':List Cl}{B H H1:Hp}{σ:St}{τ:Tn}{T:List Addr}
theorem SOk.intoS {i:Nat}{d:D}{v:V}{L:List Addr}{Ls:Nat->List Addr}(e0:Same B H)(l1:σ.length=Γ.length)(l2:τ.length=Γ.length)
  (h1:∀ i c,Γ[i]?=some c->c≠.dead->∃ v d,σ[i]?=some (some v)/\τ[i]?=some (some d)/\Rep K H d v (Ls i)) (h2:∀ i,Γ[i]?=some .own->(Ls i).Nodup/\∀ a∈Ls i,B a=none)
  (h3:∀ i j c,i≠j->Γ[i]?=some .own->Γ[j]?=some c->c≠.dead->∀ a∈Ls i,a∉Ls j) (h7:∀ i,Γ[i]?=some .own->∀ a∈Ls i,a∉L) (r:Rep K H d v L) (hi:i<Γ.length) :
  SOk K (Γ.set i .shr) B H (σ.set i (some v)) (τ.set i (some d)) []:=by
 have hσ:i<σ.length:=by rw [l1]; exact hi
 have hτ:i<τ.length:=by rw [l2]; exact hi
 have at':∀ (j:Nat) (c:Cl),j≠i->(Γ.set i .shr)[j]?=some c->Γ[j]?=some c:=fun j c hj e=>by rw [List.getElem?_set_ne (Ne.symm hj)] at e; exact e
 have nown:∀ j:Nat,(Γ.set i .shr)[j]?=some .own->j≠i:=fun j e z=>by subst z; rw [List.getElem?_set_self hi] at e; cases e
 refine ⟨e0,by rw [List.length_set,List.length_set]; exact l1,by rw [List.length_set,List.length_set]; exact l2,Xj Ls i L,fun j c e hc=>?_,fun j e=>?_,fun j k c hjk ej ek hc a ha hm=>?_,List.nodup_nil,fun a ha=>(nomatch ha),fun j c e hc a ha hm=>(nomatch hm)⟩
 ·by_cases z:j=i
  ·subst z
   refine ⟨v,d,by rw [List.getElem?_set_self hσ],by rw [List.getElem?_set_self hτ],?_⟩
   rw [yk]; exact r
  ·obtain ⟨v',d',e1,e2,r'⟩:=h1 j c (at' j c z e) hc
   refine ⟨v',d',by rw [List.getElem?_set_ne (Ne.symm z)]; exact e1,by rw [List.getElem?_set_ne (Ne.symm z)]; exact e2,?_⟩
   rw [yc z]; exact r'
 ·have z:=nown j e
  rw [yc z]; exact h2 j (at' j _ z e)
 ·have z:=nown j ej
  rw [yc z] at ha
  by_cases z2:k=i
  ·rw [Wb z2] at hm; exact h7 j (at' j _ z ej) a ha hm
  ·rw [yc z2] at hm; exact h3 j k c hjk (at' j _ z ej) (at' k c z2 ek) hc a ha hm
end
section
variable {X:Cx}{E:XK}{Γ Γ1 Γ' Γl:List Cl}{e a b:Expr}{es:List Expr}{t:Tn->R D}{u:Tn->R (List D)}{c:Rc}{pos:Pos}
theorem zc (h:ME X E Γ e t .fresh):MV X E Γ e t Γ:=by
 obtain ⟨te,p,q⟩:=h
 refine ⟨te,p,fun B σ H τ T Q ok h=>?_⟩
 obtain ⟨O,eo,_⟩:=ok.eok
 refine q O σ H τ Q eo ?_
 cases ht:t τ with
 | ok d =>
  rw [ht] at h
  exact fun v H' L s r k=>h v H' L s r (ok.aside s (fun a ha=>r.there ha) k.1 k.2)
 | err n=>rw [ht] at h; exact fun C H' e s=>h C H' e (ok.ext.trans s)
 | bad=>rw [ht] at h; exact h
theorem Jc {i:Nat}{x:Str}(hN:X.N[i]?=some x)(hk:Γ[i]?=some .own)(hv:Vis X.env.scope x)(hb:autoParam ((x==("__debug__":Str))=false) L2.au1._auto_1)(hcd:autoParam ((x==("__classdict__":Str))=false) L2.au1._auto_1):MV X E Γ (.Name x pos) (z7 i) (Γ.set i .dead):=by
 refine ⟨Jz i,vC hN hv hb hcd,fun B σ H τ T Q ok h=>?_⟩
 obtain ⟨v,d,L,e1,e2,r,ok'⟩:=ok.out hk
 unfold z7 at h
 rw [e2] at h
 exact ⟨v,e1,h v H L (Same.refl H) r ok'⟩
noncomputable def zk:Tn->R Fl:=fun τ=>.ok (.nx τ)
noncomputable def zh (a b:Tn->R Fl):Tn->R Fl:=fun τ=>(a τ).bind fun f=>match f with
 | .nx τ'=>b τ'
 | f=>.ok f
noncomputable def kz (t:Tn->R D):Tn->R Fl:=fun τ=>(t τ).bind fun _=>.ok (.nx τ)
noncomputable def zo (t:Tn->R D):Tn->R Fl:=fun τ=>(t τ).bind fun d=>.ok (.rt d)
noncomputable def zl (i:Nat)(t:Tn->R D):Tn->R Fl:=fun τ=>(t τ).bind fun d=>.ok (.nx (τ.set i (some d)))
noncomputable def sIf (k:Tn->R Bool)(a b:Tn->R Fl):Tn->R Fl:=fun τ=>(k τ).bind fun x=>if x=true then a τ else b τ
theorem zN:MSs X E Γl Γ [] zk Γ:=⟨KI,j5,fun B σ H τ Z ok h=>h σ H ok⟩
theorem zm {s:Stmt}{t:Tn->R Fl}(h:MS X E Γl Γ s t Γ'):MSs X E Γl Γ [s] t Γ':=by
 obtain ⟨ts,p,q⟩:=h
 exact ⟨ts,vp p,q⟩
theorem zd {s:Stmt}{r:List Stmt}{t1 t2:Tn->R Fl}(h:MS X E Γl Γ s t1 Γ1)(k:MSs X E Γl Γ1 r t2 Γ'):MSs X E Γl Γ (s::r) (zh t1 t2) Γ':=by
 obtain ⟨ts,p,q⟩:=h
 obtain ⟨ts',p',q'⟩:=k
 refine ⟨z2n ts ts',jL p p',fun B σ H τ Z ok h=>q B σ H τ _ ok ?_⟩
 unfold zh at h
 cases ht:t1 τ with
 | ok f =>
  rw [ht,R.ok_bind] at h
  cases f with
  | nx τ'=>exact fun σ' H' ok'=>q' B σ' H' τ' Z ok' h
  | rt d=>exact h
  | bk τ'=>exact h
  | ct τ'=>exact h
 | err n=>rw [ht] at h; exact h
 | bad=>rw [ht] at h; exact h
theorem U9 {s:List Stmt}{t:Tn->R Fl}(h:MSs X E Γl Γ s t Γ1)(w:wk Γ1 Γ'=true):MSs X E Γl Γ s t Γ':=by
 obtain ⟨ts,p,q⟩:=h
 refine ⟨ts,p,fun B σ H τ Z ok h=>q B σ H τ Z ok ?_⟩
 cases ht:t τ with
 | ok f =>
  rw [ht] at h
  cases f with
  | nx τ'=>exact fun σ' H' ok'=>h σ' H' (ok'.weak w)
  | rt d=>exact h
  | bk τ'=>exact h
  | ct τ'=>exact h
 | err n=>rw [ht] at h; exact h
 | bad=>rw [ht] at h; exact h
theorem VM {s:Stmt}{t:Tn->R Fl}(h:MS X E Γl Γ1 s t Γ')(w:wk Γ Γ1=true):MS X E Γl Γ s t Γ':=by
 obtain ⟨ts,p,q⟩:=h
 exact ⟨ts,p,fun B σ H τ Z ok h=>q B σ H τ Z (ok.weak w) h⟩
theorem Ju (h:ME X E Γ e t c)(hs:autoParam (swapsWith e none pos.line X.env=pure false) L2.au3._auto_1):MS X E Γl Γ (.Expr e pos) (kz t) Γ:=by
 obtain ⟨te,p,q⟩:=h
 refine ⟨K6 te,Zn p hs,fun B σ H τ Z ok h=>?_⟩
 obtain ⟨O,eo,_⟩:=ok.eok
 refine q O σ H τ _ eo ?_
 unfold kz at h
 cases ht:t τ with
 | ok d=>rw [ht,R.ok_bind] at h; exact fun v H' L s r k=>h σ H' (ok.same s)
 | err n=>rw [ht] at h; exact fun C H' e s=>h C H' e (ok.ext.trans s)
 | bad=>rw [ht] at h; exact h
theorem zA (h:MV X E Γ e t Γ1):MS X E Γl Γ (.Return (some e) pos) (zo t) Γ':=by
 obtain ⟨te,p,q⟩:=h
 refine ⟨z0x te,jk p,fun B σ H τ Z ok h=>q B σ H τ [] _ ok ?_⟩
 unfold zo at h
 cases ht:t τ with
 | ok d =>
  rw [ht,R.ok_bind] at h
  refine fun v H' L s r ok'=>?_
  obtain ⟨Ls,_,_,_,h4,h5,_⟩:=ok'.ex
  rw [List.append_nil] at h4 h5
  exact h v H' L ok'.ext r h4 fun a ha=>(h5 a ha).1
 | err n=>rw [ht] at h; exact h
 | bad=>rw [ht] at h; exact h
theorem yK {k:Expr}{u:Tn->R Bool}{sa sb:List Stmt}{t1 t2:Tn->R Fl}(hk:MT X E Γ k u)(ha:MSs X E Γl Γ sa t1 Γ')(hb:MSs X E Γl Γ sb t2 Γ'):MS X E Γl Γ (.If k sa sb pos) (sIf u t1 t2) Γ':=by
 obtain ⟨te,p,q⟩:=hk
 obtain ⟨ts1,p1,q1⟩:=ha
 obtain ⟨ts2,p2,q2⟩:=hb
 refine ⟨z1x te ts1 ts2,W3 p p1 p2,fun B σ H τ Z ok h=>?_⟩
 obtain ⟨O,eo,_⟩:=ok.eok
 refine q O σ H τ _ eo ?_
 unfold sIf at h
 cases ht:u τ with
 | ok x =>
  rw [ht,R.ok_bind] at h
  refine fun H1 s1=>?_
  cases x with
  | true=>rw [if_pos rfl] at h ⊢; exact q1 B σ H1 τ Z (ok.same s1) h
  | false=>rw [if_neg Bool.false_ne_true] at h ⊢; exact q2 B σ H1 τ Z (ok.same s1) h
 | err n=>rw [ht] at h; exact fun C H' e s=>h C H' e (ok.ext.trans s)
 | bad=>rw [ht] at h; exact h
theorem z18 {i:Nat}{x:Str}{pos':Pos}(hN:X.N.Nodup)(hi:X.N[i]?=some x)(hl:i<Γ1.length)(h:MV X E Γ e t Γ1)(hx:Loc X.env.scope x)(hs:autoParam (swapsWith e (some (.Name x pos')) pos.line X.env=pure false) L2.au3._auto_1)(hf:autoParam (X.fn x=true\/X.env.scope.names.lookup x=some .local) L2.au0._auto_1) :
  MS X E Γl Γ (.Assign [.Name x pos'] e pos) (zl i t) (Γ1.set i .own):=by
 obtain ⟨te,p,q⟩:=h
 refine ⟨_,YM hN hi hx p hs hf,fun B σ H τ Z ok h=>q B σ H τ [] _ ok ?_⟩
 unfold zl at h
 cases ht:t τ with
 | ok d =>
  rw [ht,R.ok_bind] at h
  exact fun v H' L s r ok'=>h _ _ (ok'.into r hl)
 | err n=>rw [ht] at h; exact h
 | bad=>rw [ht] at h; exact h
theorem Qe {i:Nat}{x:Str}{pos':Pos}(hN:X.N.Nodup)(hi:X.N[i]?=some x)(hl:i<Γ.length)(h:ME X E Γ e t c)(hc:c≠.bor)(hx:Loc X.env.scope x)(hs:autoParam (swapsWith e (some (.Name x pos')) pos.line X.env=pure false) L2.au3._auto_1)(hf:autoParam (X.fn x=true\/X.env.scope.names.lookup x=some .local) L2.au0._auto_1) :
  MS X E Γl Γ (.Assign [.Name x pos'] e pos) (zl i t) (Γ.set i .shr):=by
 obtain ⟨te,p,q⟩:=h
 refine ⟨_,YM hN hi hx p hs hf,fun B σ H τ Z ok h=>?_⟩
 obtain ⟨O,eo,hL⟩:=ok.eok
 refine q O σ H τ _ eo ?_
 unfold zl at h
 cases ht:t τ with
 | ok d =>
  rw [ht,R.ok_bind] at h
  refine fun v H' L s r k=>h _ _ ?_
  obtain ⟨Ls,h1,h2,h3,_,_,_,h7⟩:=hL L (k.shr eo.dom hc)
  exact SOk.intoS (ok.ext.trans s) ok.lσ ok.lτ (fun j c e hc=>by obtain ⟨v',d',e1,e2,r'⟩:=h1 j c e hc; exact ⟨v',d',e1,e2,r'.same s⟩) h2 h3 h7 r hl
 | err n=>rw [ht] at h; exact fun C H' e s=>h C H' e (ok.ext.trans s)
 | bad=>rw [ht] at h; exact h
end
open PySem PySem.Spec PyProof.Rows
section
variable {K:PySem.W.Frag}{Γ Γ':List Cl}{B H H1:Hp}{σ:St}{τ:Tn}{T:List Addr}
theorem SOk.slot {i:Nat}(h:SOk K Γ B H σ τ T)(e:Γ[i]?=some .own):∃ v d L,σ[i]?=some (some v)/\τ[i]?=some (some d)/\Rep K H d v L/\L.Nodup/\(∀ a∈L,B a=none/\a∉T) /\
  ∀ (H2:Hp) (d2:D) (L2 Le T':List Addr),T=Le++T'->TF H H2->(∀ b,b∉L->H b≠none->H2 b=H b)->Rep K H2 d2 v L2->(∀ a∈L2,a∈L\/a∈Le)->L2.Nodup->SOk K Γ B H2 σ (τ.set i (some d2)) T':=by
 obtain ⟨Ls,h1,h2,h3,h4,h5,h6⟩:=h.ex
 obtain ⟨v,d,e1,e2,r⟩:=h1 i _ e (by simp)
 refine ⟨v,d,Ls i,e1,e2,r,(h2 i e).1,fun a ha=>⟨(h2 i e).2 a ha,h6 i _ e (by simp) a ha⟩,?_⟩
 rintro H2 d2 L2 Le T' rfl tf kp r2 sub nd
 obtain ⟨n1,n2,n3⟩:=List.nodup_append.mp h4
 have hτ:i<τ.length:=(List.getElem?_eq_some_iff.mp e2).1
 have notL:∀ b,B b≠none->b∉Ls i:=fun b hb hm=>hb ((h2 i e).2 b hm)
 refine ⟨fun b o q=>?_,h.lσ,by rw [List.length_set]; exact h.lτ,Xj Ls i L2,fun j c ej hc=>?_,fun j ej=>?_,fun j k c hjk ej ek hc a ha hm=>?_,n2,fun a ha=>⟨(h5 a (List.mem_append_right _ ha)).1,?_⟩,fun j c ej hc a ha hm=>?_⟩
 ·have hq:=h.ext b o q
  rw [kp b (notL b (by rw [q]; simp)) (by rw [hq]; simp)]; exact hq
 ·by_cases z:j=i
  ·subst z
   refine ⟨v,d2,e1,by rw [List.getElem?_set_self hτ],?_⟩
   rw [yk]; exact r2
  ·obtain ⟨v',d',q1,q2,r'⟩:=h1 j c ej hc
   refine ⟨v',d',q1,by rw [List.getElem?_set_ne (Ne.symm z)]; exact q2,?_⟩
   rw [yc z]
   exact Rep.keep tf d' v' _ r' fun a ha=>kp a (fun hm=>h3 i j c (Ne.symm z) e ej hc a hm ha) (r'.there ha)
 ·by_cases z:j=i
  ·subst z
   rw [yk]
   refine ⟨nd,fun a ha=>?_⟩
   rcases sub a ha with m | m
   ·exact (h2 _ e).2 a m
   ·exact (h5 a (List.mem_append_left _ m)).1
  ·rw [yc z]; exact h2 j ej
 ·by_cases z:j=i
  ·subst z
   rw [yk] at ha
   rw [yc (Ne.symm hjk)] at hm
   rcases sub a ha with m | m
   ·exact h3 _ k c hjk e ek hc a m hm
   ·exact h6 k c ek hc a hm (List.mem_append_left _ m)
  ·rw [yc z] at ha
   by_cases z2:k=i
   ·subst z2
    rw [yk] at hm
    rcases sub a hm with m | m
    ·exact h3 j _ _ hjk ej e (by simp) a ha m
    ·exact h6 j _ ej (by simp) a ha (List.mem_append_left _ m)
   ·rw [yc z2] at hm; exact h3 j k c hjk ej ek hc a ha hm
 ·have q:=(h5 a (List.mem_append_right _ ha)).2
  rw [kp a (fun hm=>h6 i _ e (by simp) a hm (List.mem_append_right _ ha)) q]; exact q
 ·by_cases z:j=i
  ·rw [Wb z] at ha
   rcases sub a ha with m | m
   ·exact h6 i _ e (by simp) a m (List.mem_append_right _ hm)
   ·exact n3 a m a hm rfl
  ·rw [yc z] at ha
   exact h6 j c ej hc a ha (List.mem_append_right _ hm)
theorem TF.upd {a:Addr}{o:HO}(h:(∃ vs,H a=some (.lst vs))\/∃ kvs,H a=some (.dK kvs)):TF H (upd H a o):=by
 refine ⟨fun b xs e=>?_,fun b p u e=>?_⟩
 ·rw [y4]
  ·exact e
  ·rintro rfl
   rcases h with ⟨_,h⟩ | ⟨_,h⟩<;>rw [h] at e<;>cases e
 ·rw [y4]
  ·exact e
  ·rintro rfl
   rcases h with ⟨_,h⟩ | ⟨_,h⟩<;>rw [h] at e<;>cases e
theorem Rep.upd {d:D}{v:V}{L:List Addr}{a:Addr}{o:HO}(r:Rep K H d v L)(h:(∃ vs,H a=some (.lst vs))\/∃ kvs,H a=some (.dK kvs))(n:a∉L):Rep K (L2.upd H a o) d v L :=
 Rep.keep (TF.upd h) d v L r fun b hb=>y4 fun z=>n (z▸hb)
theorem Reps.upd {d:List D}{v:List V}{L:List Addr}{a:Addr}{o:HO}(r:Reps K H d v L)(h:(∃ vs,H a=some (.lst vs))\/∃ kvs,H a=some (.dK kvs))(n:a∉L):Reps K (L2.upd H a o) d v L :=
 Reps.keep (TF.upd h) d v L r fun b hb=>y4 fun z=>n (z▸hb)
theorem Reps.set:∀ {ds:List D} {vs:List V} {L:List Addr} {d:D} {v:V} {Le:List Addr} (j:Nat),Reps K H ds vs L->Rep K H d v Le->j<ds.length->∃ L2,Reps K H (ds.set j d) (vs.set j v) L2/\(∀ a∈L2,a∈L\/a∈Le)/\((L++Le).Nodup->L2.Nodup)
 | [],_,_,_,_,_,_,_,_,h=>by simp at h
 | d::ds,_,_,d',v',Le,0,hq7,r,_=>by
  obtain ⟨v,vs',L1,L2,e1,e2,h1,h2⟩:=hq7
  subst e1 e2
  refine ⟨Le++L2,by simpa using Reps.cons r h2,fun a ha=>?_,fun n=>?_⟩
  ·rcases List.mem_append.mp ha with z | z
   ·exact .inr z
   ·exact .inl (List.mem_append_right _ z)
  ·obtain ⟨n1,n2,n3⟩:=List.nodup_append.mp n
   obtain ⟨m1,m2,m3⟩:=List.nodup_append.mp n1
   exact List.nodup_append.mpr ⟨n2,m2,fun a ha b hb z=>n3 b (List.mem_append_right _ hb) a ha z.symm⟩
 | d::ds,_,_,d',v',Le,j+1,hq7,r,hj=>by
  obtain ⟨v,vs',L1,L2,e1,e2,h1,h2⟩:=hq7
  subst e1 e2
  obtain ⟨L3,a1,a2,a3⟩:=Reps.set j h2 r (by simpa using hj)
  refine ⟨L1++L3,by simpa using Reps.cons h1 a1,fun a ha=>?_,fun n=>?_⟩
  ·rcases List.mem_append.mp ha with z | z
   ·exact .inl (List.mem_append_left _ z)
   ·rcases a2 a z with m | m
    ·exact .inl (List.mem_append_right _ m)
    ·exact .inr m
  ·rw [List.append_assoc] at n
   obtain ⟨n1,n2,n3⟩:=List.nodup_append.mp n
   refine List.nodup_append.mpr ⟨n1,a3 n2,fun a ha b hb z=>?_⟩
   rcases a2 b hb with m | m
   ·exact n3 a ha b (List.mem_append_left _ m) z
   ·exact n3 a ha b (List.mem_append_right _ m) z
end
section
variable {X:Cx}{E:XK}{Γ Γ1 Γ' Γl:List Cl}{e a b:Expr}{es:List Expr}{t t':Tn->R D}{u:Tn->R (List D)}{c:Rc}{pos:Pos}
noncomputable def vo (i:Nat)(t:Tn->R D):Tn->R Fl:=fun τ=>(z7 i τ).bind fun l=>match l with
 | .lst ds=>(t τ).bind fun d=>if ds.length<sizeLine then .ok (.nx (τ.set i (some (.lst (ds++[d]))))) else .bad
 | _=>.bad
theorem WN {i:Nat}{x:Str}{p0 p1 p2:Pos}(hN:X.N[i]?=some x)(h0:Γ[i]?=some .own)(h:MV X E Γ e t Γ1)(hk:Γ1[i]?=some .own)(hv:Vis X.env.scope x)(hb:autoParam ((x==("__debug__":Str))=false) L2.au1._auto_1)(hcd:autoParam ((x==("__classdict__":Str))=false) L2.au1._auto_1)
  (hbase:autoParam (attributeBase (.Name x p0) "append" X.env (eval (.Name x p0) X.env)=eval (.Name x p0) X.env) L2.au3._auto_1)
  (hfew:autoParam (((backTo p2 (starEach [e] X.env)).all (fun x=>!x.1)&&(backToKw p2 (keywordEach [] X.env)).all (fun x=>x.1.isSome)&&decide ([e].length+([]:List Keyword).length+(if ([]:List Keyword).isEmpty then 0 else 1)<30))=true) L2.au3._auto_1)
  (hline:autoParam ((p1.endLine==p2.line)=true) L2.au3._auto_1) (hs:autoParam (starEach [e] X.env=(false,eval e X.env)::starEach [] X.env) L2.au3._auto_1) (hplain:autoParam ((backTo p2 (starEach [] X.env)).any (·.1)=false) L2.au3._auto_1)
  (hsw:autoParam (swapsWith (.Call (.Attribute (.Name x p0) "append" p1) [e] [] p2) none pos.line X.env=pure false) L2.au3._auto_1) :
  MS X E Γl Γ (.Expr (.Call (.Attribute (.Name x p0) "append" p1) [e] [] p2) pos) (vo i t) Γ1:=by
 obtain ⟨te,p,q⟩:=h
 refine ⟨_,Zn (VU PySem.F.plainAttrs_list PySem.F.slot_list_append PySem.F.type_list_append kP (vC (pos:=p0) hN hv hb hcd) (zX p wj hs) hbase hfew hline hs hplain) hsw,fun B σ H τ Z ok h=>?_⟩
 obtain ⟨v,d,L,e1,e2,r,_⟩:=ok.slot h0
 refine ⟨v,e1,?_⟩
 unfold vo at h
 have ev:z7 i τ=.ok d:=by unfold z7; rw [e2]
 rw [ev,R.ok_bind] at h
 cases d with
 | lst ds =>
  obtain ⟨a,vs,L',rfl,ha,_,rs⟩:=r
  refine ⟨.inl ⟨rfl,vs,SqL.of ha⟩,q B σ H τ [] _ ok ?_⟩
  dsimp only at h
  cases ht:t τ with
  | ok d' =>
   rw [ht,R.ok_bind] at h
   refine fun y H1 Le s1 ry ok1=>?_
   obtain ⟨v1,d1,L1,q1,q2,r1,n1,n2,fin⟩:=ok1.slot hk
   rw [e1] at q1
   cases q1
   rw [e2] at q2
   cases q2
   obtain ⟨a1,vs1,L1',z1,ha1,z2,rs1⟩:=r1
   cases z1
   subst z2
   have hl:vs1.length=ds.length:=rs1.length
   by_cases hz:ds.length<sizeLine
   ·rw [if_pos hz] at h
    have mu:(∃ vs,H1 a=some (.lst vs))\/∃ kvs,H1 a=some (.dK kvs):=.inl ⟨_,ha1⟩
    have na:a∉Le:=fun m=>(n2 a List.mem_cons_self).2 (List.mem_append_left _ m)
    obtain ⟨m1,m2⟩:=List.nodup_cons.mp n1
    refine ⟨a,vs1,y,rfl,rfl,ha1,by lia,h _ _ (fin _ _ (a::(L1'++Le)) Le [] rfl (TF.upd mu) (fun b hb _=>y4 fun z=>hb (z▸List.mem_cons_self)) ?_ (fun b hb=>?_) ?_)⟩
    ·refine ⟨a,vs1++[y],L1'++Le,rfl,zK,rfl,Reps.append (rs1.upd mu m1) ?_⟩
     have:=Reps.cons (ry.upd (o:=.lst (vs1++[y])) mu na) (Reps.nil (K:=X.K) (H:=upd H1 a (.lst (vs1++[y]))))
     rw [List.append_nil] at this
     exact this
    ·rcases List.mem_cons.mp hb with z | z
     ·exact .inl (z▸List.mem_cons_self)
     ·rcases List.mem_append.mp z with z | z
      ·exact .inl (List.mem_cons_of_mem _ z)
      ·exact .inr z
    ·refine List.nodup_cons.mpr ⟨fun z=>?_,List.nodup_append.mpr ⟨m2,?_,fun b hb b' hb' z=>?_⟩⟩
     ·rcases List.mem_append.mp z with z | z
      ·exact m1 z
      ·exact na z
     ·obtain ⟨_,_,_,_,w4,_⟩:=ok1.ex
      rw [List.append_nil] at w4
      exact w4
     ·subst z
      exact (n2 b (List.mem_cons_of_mem _ hb)).2 (List.mem_append_left _ hb')
   ·rw [if_neg hz] at h; exact h.elim
  | err n=>rw [ht] at h; exact h
  | bad=>rw [ht] at h; exact h
 | _=>exact h.elim
noncomputable def JH (ds:List D)(k:Int)(d:D):R D:=match ixN ds.length k with
 | some j=>.ok (.lst (ds.set j d))
 | none=>.bad
noncomputable def Xk (i:Nat)(t ti:Tn->R D):Tn->R Fl:=fun τ=>(t τ).bind fun d=>(z7 i τ).bind fun l=>(ti τ).bind fun k=>match l,k with
 | .lst ds,.int k=>(JH ds k d).bind fun l'=>.ok (.nx (τ.set i (some l')))
 | _,_=>.bad
theorem z0e {i:Nat}{x:Str}{p0 p1:Pos}{ix:Expr}{ti:Tn->R D}(hN:X.N[i]?=some x)(h:MV X E Γ e t Γ1)(hi:ME X E Γ1 ix ti c)(hk:Γ1[i]?=some .own)(hv:Vis X.env.scope x)(hb:autoParam ((x==("__debug__":Str))=false) L2.au1._auto_1)(hcd:autoParam ((x==("__classdict__":Str))=false) L2.au1._auto_1)
  (ha:autoParam (∀ v,assign (.Subscript (.Name x p0) ix p1) X.env v=(do
   let ov <- holding [v] (eval (.Name x p0) X.env)
   let iv <- holding [v,ov] (eval ix X.env)
   standAt p1
   holding [v,ov,iv] (setItem ov iv v)
   release [v,ov,iv] [])) L2.au2._auto_1)
  (hs:autoParam (swapsWithSole [.Subscript (.Name x p0) ix p1] e pos.line X.env=pure false) L2.au3._auto_1) (hw:autoParam (swappedStores [.Subscript (.Name x p0) ix p1] e X.env=pure none) L2.au3._auto_1)
  (h1:autoParam ((assignEach [.Subscript (.Name x p0) ix p1] X.env).map (·.2)=[assign (.Subscript (.Name x p0) ix p1) X.env]) L2.au3._auto_1) :
  MS X E Γl Γ (.Assign [.Subscript (.Name x p0) ix p1] e pos) (Xk i t ti) Γ1:=by
 obtain ⟨te,p,q⟩:=h
 obtain ⟨te',p',q'⟩:=hi
 refine ⟨_,z0D p (z08 (vC (pos:=p0) hN hv hb hcd) p' Uw ha) hs hw h1,fun B σ H τ Z ok h=>q B σ H τ [] _ ok ?_⟩
 unfold Xk at h
 cases ht:t τ with
 | ok d' =>
  rw [ht,R.ok_bind] at h
  refine fun y H1 Le s1 ry ok1=>?_
  obtain ⟨v1,d1,L1,q1,q2,r1,n1,n2,_⟩:=ok1.slot hk
  refine ⟨v1,q1,?_⟩
  have ev:z7 i τ=.ok d1:=by unfold z7; rw [q2]
  rw [ev,R.ok_bind] at h
  obtain ⟨O,eo,_⟩:=ok1.eok
  refine q' O σ H1 τ _ eo ?_
  cases hk':ti τ with
  | ok dk =>
   rw [hk',R.ok_bind] at h
   refine fun kv H2 Lk s2 rk _=>?_
   have ok2:=ok1.same s2
   obtain ⟨v2,d2,L2,q3,q4,r2,m1,m2,fin⟩:=ok2.slot hk
   rw [q1] at q3
   cases q3
   rw [q2] at q4
   cases q4
   cases d1 with
   | lst ds =>
    cases dk with
    | int k =>
     obtain ⟨a,vs,L',rfl,ha2,z2,rs⟩:=r2
     subst z2
     dsimp only at h
     unfold JH at h
     cases hj:ixN ds.length k with
     | none=>rw [hj] at h; exact h.elim
     | some j =>
      rw [hj] at h
      have hjl:j<ds.length:=(j6 hj).2.1
      have mu:(∃ vs,H2 a=some (.lst vs))\/∃ kvs,H2 a=some (.dK kvs):=.inl ⟨_,ha2⟩
      have na:a∉Le:=fun m=>(m2 a List.mem_cons_self).2 (List.mem_append_left _ m)
      obtain ⟨w1,w2⟩:=List.nodup_cons.mp m1
      have nLe:Le.Nodup:=by
       obtain ⟨_,_,_,_,w4,_⟩:=ok1.ex
       rw [List.append_nil] at w4
       exact w4
      have r3:=(ry.same s2).upd (o:=.lst (vs.set j y)) mu na
      obtain ⟨L3,a1,a2,a3⟩:=Reps.set j (rs.upd (o:=.lst (vs.set j y)) mu w1) r3 hjl
      refine ⟨a,vs,k,j,rfl,rk.1,ha2,by rw [rs.length]; exact hj,h _ _ (fin _ _ (a::L3) Le [] rfl (TF.upd mu) (fun b hb _=>y4 fun z=>hb (z▸List.mem_cons_self)) ⟨a,_,L3,rfl,zK,rfl,a1⟩ (fun b hb=>?_) ?_)⟩
      ·rcases List.mem_cons.mp hb with z | z
       ·exact .inl (z▸List.mem_cons_self)
       ·rcases a2 b z with z | z
        ·exact .inl (List.mem_cons_of_mem _ z)
        ·exact .inr z
      ·refine List.nodup_cons.mpr ⟨fun z=>?_,a3 (List.nodup_append.mpr ⟨w2,nLe,fun b hb b' hb' z=>?_⟩)⟩
       ·rcases a2 a z with z | z
        ·exact w1 z
        ·exact na z
       ·subst z
        exact (m2 b (List.mem_cons_of_mem _ hb)).2 (List.mem_append_left _ hb')
    | _=>exact h.elim
   | _=>exact h.elim
  | err n=>rw [hk'] at h; exact fun C H' e s=>h C H' e (ok1.ext.trans s)
  | bad=>rw [hk'] at h; exact h
 | err n=>rw [ht] at h; exact h
 | bad=>rw [ht] at h; exact h
end
open PySem PySem.Spec PyProof.Rows
section
variable {K:PySem.W.Frag}{Γ Γ':List Cl}{B B' H H1:Hp}{σ:St}{τ:Tn}{T:List Addr}
theorem SOk.rebase (h:SOk K Γ B' H σ τ T)(s:Same B B'):SOk K Γ B H σ τ T:=by
 obtain ⟨Ls,h1,h2,h3,h4,h5,h6⟩:=h.ex
 exact ⟨s.trans h.ext,h.lσ,h.lτ,Ls,h1,fun i e=>⟨(h2 i e).1,fun a ha=>s.non ((h2 i e).2 a ha)⟩,h3,h4,fun a ha=>⟨s.non (h5 a ha).1,(h5 a ha).2⟩,h6⟩
open Classical in
theorem SOk.base (h:SOk K Γ B H σ τ []):∃ O:Addr->Prop,EOk K Γ O H σ τ/\(∀ a,O a->(∃ vs,H a=some (.lst vs))\/∃ kvs,H a=some (.dK kvs)) /\
  ∀ H1,Same H H1->∃ B1,Same B B1/\SOk K Γ B1 H1 σ τ []/\∀ a,¬ O a->B1 a=H1 a:=by
 obtain ⟨Ls,h1,h2,h3,h4,h5,h6⟩:=h.ex
 refine ⟨fun a=>∃ i,Γ[i]?=some .own/\a∈Ls i,⟨fun a ⟨i,e,ha⟩=>?_,fun i c e hc=>?_⟩,fun a ⟨i,e,ha⟩=>?_,fun H1 s1=>⟨fun a=>if (∃ i,Γ[i]?=some .own/\a∈Ls i) then none else H1 a,fun b o q=>?_,⟨fun b o q=>?_,h.lσ,h.lτ,Ls,fun i c e hc=>?_,fun i e=>⟨(h2 i e).1,fun a ha=>if_pos ⟨i,e,ha⟩⟩,h3,h4,fun a ha=>(nomatch ha),h6⟩,fun a n=>if_neg n⟩⟩
 ·obtain ⟨v,d,_,_,r⟩:=h1 i _ e (by simp)
  exact r.there ha
 ·obtain ⟨v,d,e1,e2,r⟩:=h1 i c e hc
  refine ⟨v,d,Ls i,e1,e2,r,fun z a ha ⟨j,ej,hj⟩=>?_⟩
  subst z
  have hij:j≠i:=fun z=>by subst z; rw [e] at ej; cases ej
  exact h3 j i _ hij ej e (by simp) a hj ha
 ·obtain ⟨v,d,_,_,r⟩:=h1 i _ e (by simp)
  exact Rep.dom d v _ r a ha
 ·show (if (∃ i,Γ[i]?=some .own/\b∈Ls i) then none else H1 b)=some o
  rw [if_neg]
  ·exact s1 b o (h.ext b o q)
  ·rintro ⟨i,e,hb⟩
   rw [(h2 i e).2 b hb] at q; cases q
 ·have q:(if (∃ i,Γ[i]?=some .own/\b∈Ls i) then none else H1 b)=some o:=q
  by_cases z:∃ i,Γ[i]?=some .own/\b∈Ls i
  ·rw [if_pos z] at q; cases q
  ·rw [if_neg z] at q; exact q
 ·obtain ⟨v,d,e1,e2,r⟩:=h1 i c e hc
  exact ⟨v,d,e1,e2,r.same s1⟩
theorem SOk.shrIn {i:Nat}{d:D}{v:V}{L:List Addr}(h:SOk K Γ B H σ τ [])(r:Rep K H d v L)(hL:∀ a∈L,B a≠none)(hi:i<Γ.length):SOk K (Γ.set i .shr) B H (σ.set i (some v)) (τ.set i (some d)) []:=by
 obtain ⟨Ls,h1,h2,h3,h4,h5,h6⟩:=h.ex
 exact SOk.intoS h.ext h.lσ h.lτ h1 h2 h3 (fun j e a ha hm=>hL a hm ((h2 j e).2 a ha)) r hi
end
noncomputable def xk {α:Type}:List (Option α)->List Nat->List α->List (Option α)
 | σ,i::is,v::vs=>xk (σ.set i (some v)) is vs
 | σ,_,_=>σ
noncomputable def shrAll:List Cl->List Nat->List Cl
 | Γ,[]=>Γ
 | Γ,i::is=>shrAll (Γ.set i .shr) is
theorem SOk.shrAll {K:PySem.W.Frag}{B H:Hp}{Γ:List Cl}{σ:St}{τ:Tn}{is:List Nat}{ds:List D}{vs:List V}{L:List Addr}(h:SOk K Γ B H σ τ [])(r:Reps K H ds vs L)(hL:∀ a∈L,B a≠none)(hl:ds.length=is.length)(hi:∀ i∈is,i<Γ.length) :
  SOk K (L2.shrAll Γ is) B H (xk σ is vs) (xk τ is ds) []:=by
 induction is generalizing Γ σ τ ds vs L with
 | nil =>
  cases ds with
  | nil=>cases r.1; exact h
  | cons=>cases hl
 | cons i is ih =>
  cases ds with
  | nil=>cases hl
  | cons d ds =>
   obtain ⟨v,vs',La,Lb,e1,e2,r1,r2⟩:=r
   subst e1 e2
   exact ih (h.shrIn r1 (fun a ha=>hL a (List.mem_append_left _ ha)) (hi i List.mem_cons_self)) r2 (fun a ha=>hL a (List.mem_append_right _ ha)) (Nat.succ.inj hl) (fun j hj=>by rw [List.length_set]; exact hi j (List.mem_cons_of_mem _ hj))
noncomputable def ItOk (K:PySem.W.Frag)(J:It)(ds:List D)(L:List Addr)(H:Hp):Prop:=(∀ a∈L,H a≠none)/\∀ H',TF H H'->(∀ a∈L,H' a=H a)->∀ i,
 (∀ d,ds[i]?=some d->J.go i H'/\∀ x H'',J.yld i H' x H''->Same H' H''/\∃ L',Rep K H'' d x L'/\∀ a∈L',a∈L)/\(ds.length<=i->J.stop i H')
noncomputable def KQ (K:PySem.W.Frag)(E:XK)(O:Addr->Prop)(c:Rc)(H:Hp)(Rr:It->Hp->Prop):R (List D)->Prop
 | .ok ds=>∀ J H' L,Same H H'->ItOk K J ds L H'->(c≠.bor->∀ a∈L,¬ O a)->Rr J H'
 | .err n=>∀ C H',ErrC K n C->Same H H'->E (.ref C) none H'
 | .bad=>False
noncomputable def MI (X:Cx)(E:XK)(Γ:List Cl)(tg iter:Expr)(t:Tn->R (List D))(c:Rc):Prop :=
 ∃ wi,PI X tg iter wi/\∀ O σ H τ Rr,EOk X.K Γ O H σ τ->KQ X.K E O c H Rr (t τ)->wi σ H Rr
inductive Tgt where
 | one (i:Nat) | many (is:List Nat)
noncomputable def Tgt.slots:Tgt->List Nat
 | .one i=>[i]
 | .many is=>is
noncomputable def Tgt.asg:Tgt->D->Tn->R Tn
 | .one i,d,τ=>.ok (τ.set i (some d))
 | .many is,.tup ds,τ=>if ds.length=is.length then .ok (xk τ is ds) else .bad
 | .many _,_,_=>.bad
noncomputable def MG (X:Cx)(tg:Expr):Tgt->Prop
 | .one i=>PG X tg (jS i)
 | .many is=>∃ g,PG X tg (z1W X.K is.length g)/\∀ (vs:List V) (σ:St) (H:Hp) (Q:St->Hp->Prop),vs.length=is.length->Q (xk σ is vs) H->g vs σ H Q
noncomputable def yO (asg:D->Tn->R Tn)(body:Tn->R Fl):List D->Tn->R Fl
 | [],τ=>.ok (.nx τ)
 | d::ds,τ=>(asg d τ).bind fun τ1=>(body τ1).bind fun f=>match f with
  | .nx τ2=>yO asg body ds τ2
  | .ct τ2=>yO asg body ds τ2
  | .bk τ2=>.ok (.nx τ2)
  | .rt r=>.ok (.rt r)
noncomputable def xR (it:Tn->R (List D))(tg:Tgt)(body:Tn->R Fl):Tn->R Fl:=fun τ=>(it τ).bind fun ds=>yO tg.asg body ds τ
section
variable {X:Cx}{E:XK}{Γ Γ1 Γ2 Γ' Γl:List Cl}{pos:Pos}
noncomputable def tgG (K:PySem.W.Frag)(g:Tgt):TG:=fun v σ H Q=>match g with
 | .one i=>Q (σ.set i (some v)) H
 | .many is=>∃ a vs,v=.ref a/\SqT K H a vs/\vs.length=is.length/\Q (xk σ is vs) H
theorem MG.pg {tg:Expr}{g:Tgt}(h:MG X tg g):PG X tg (tgG X.K g):=by
 cases g with
 | one i=>exact h
 | many is =>
  obtain ⟨G,p,q⟩:=h
  rintro pins s σ H v u Q I r ⟨a,vs,e,hs,hl,z⟩
  exact p pins s σ H v u Q I r ⟨a,vs,e,hs,hl,q vs σ H Q hl z⟩
theorem z0N {K:PySem.W.Frag}{B H:Hp}{σ:St}{τ τ1:Tn}{d:D}{v:V}{L:List Addr}{g:Tgt}(h:SOk K Γ B H σ τ [])(r:Rep K H d v L)(hL:∀ a∈L,B a≠none)(hi:∀ i∈g.slots,i<Γ.length)(ha:g.asg d τ=.ok τ1)
  {Q:St->Hp->Prop} (k:∀ σ1,SOk K (L2.shrAll Γ g.slots) B H σ1 τ1 []->Q σ1 H):tgG K g v σ H Q:=by
 cases g with
 | one i=>cases ha; exact k _ (h.shrIn r hL (hi i (by simp [Tgt.slots])))
 | many is =>
  cases d with
  | tup ds =>
   unfold Tgt.asg at ha
   dsimp only at ha
   by_cases hl:ds.length=is.length
   ·rw [if_pos hl] at ha
    cases ha
    obtain ⟨a,vs,rfl,hs,rs⟩:=r
    have hv:vs.length=is.length:=rs.length.trans hl
    exact ⟨a,vs,rfl,hs,hv,k _ (h.shrAll rs hL hl hi)⟩
   ·rw [if_neg hl] at ha; cases ha
  | _=>cases ha
theorem z2M {it:Tn->R (List D)}{g:Tgt}{tb:Tn->R Fl}{c:Rc}{wi:TI}{ts:TS}(hcl:c≠.bor)(hn:∀ i∈g.slots,i<Γ.length)(hw:wk Γ2 Γ=true)(q:∀ O σ H τ Rr,EOk X.K Γ O H σ τ->KQ X.K E O c H Rr (it τ)->wi σ H Rr)(q':∀ B σ H τ Z,SOk X.K (shrAll Γ g.slots) B H σ τ []->wG X.K E B Γ Γ2 Z (tb τ)->ts Z σ H)
  (B:Hp) (σ:St) (H:Hp) (τ:Tn) (Z:Ends) (ok:SOk X.K Γ B H σ τ []) (h:wG X.K E B Γl Γ Z (xR it g tb τ)):z2P wi (tgG X.K g) ts Z σ H:=by
 obtain ⟨O,eo,Od,hB⟩:=ok.base
 refine q O σ H τ _ eo ?_
 unfold xR at h
 cases ht:it τ with
 | ok ds =>
  rw [ht,R.ok_bind] at h
  refine fun J H1 L s1 hit hO=>?_
  have hO:=hO hcl
  obtain ⟨hLd,hit⟩:=hit
  obtain ⟨B1,sB,ok1,hB1⟩:=hB H1 s1
  have inL:∀ a∈L,B1 a=H1 a:=fun a ha=>hB1 a (hO a ha)
  have Od1:∀ a,O a->(∃ vs,H1 a=some (.lst vs))\/∃ kvs,H1 a=some (.dK kvs):=fun a o=>by
   rcases Od a o with ⟨vs,e⟩ | ⟨kvs,e⟩
   ·exact .inl ⟨vs,s1 _ _ e⟩
   ·exact .inr ⟨kvs,s1 _ _ e⟩
  have stay:∀ H2,Same B1 H2->TF H1 H2/\∀ a∈L,H2 a=H1 a:=fun H2 s2=>by
   refine ⟨⟨fun a xs e=>?_,fun a o u e=>?_⟩,fun a ha=>?_⟩
   ·refine s2 a _ ((hB1 a fun z=>?_).trans e)
    rcases Od1 a z with ⟨_,w⟩ | ⟨_,w⟩<;>rw [e] at w<;>cases w
   ·refine s2 a _ ((hB1 a fun z=>?_).trans e)
    rcases Od1 a z with ⟨_,w⟩ | ⟨_,w⟩<;>rw [e] at w<;>cases w
   ·rw [s2.at (by rw [inL a ha]; exact hLd a ha),inL a ha]
  refine ⟨fun i m σ2 H2=>m=ds.length-i/\i<=ds.length/\∃ τ2,SOk X.K Γ B1 H2 σ2 τ2 []/\wG X.K E B Γl Γ Z (yO g.asg tb (ds.drop i) τ2),⟨ds.length,by simp,Nat.zero_le _,τ,ok1,h⟩,?_⟩
  rintro i m σ2 H2 ⟨rfl,hile,τ2,ok2,h2⟩
  obtain ⟨tf,kp⟩:=stay H2 ok2.ext
  obtain ⟨go,stop⟩:=hit H2 tf kp i
  by_cases hlt:i<ds.length
  ·obtain ⟨hgo,hy⟩:=go ds[i] (by simp [hlt])
   rw [List.drop_eq_getElem_cons hlt] at h2
   refine .inr ⟨hgo,fun σ' H'=>i+1<=ds.length/\∃ τ',SOk X.K Γ B1 H' σ' τ' []/\wG X.K E B Γl Γ Z (yO g.asg tb (ds.drop (i+1)) τ'),fun σ' H' ⟨z,w⟩=>⟨ds.length-(i+1),by omega,rfl,z,w⟩,fun x H3 y=>?_⟩
   obtain ⟨s3,L',r',sub⟩:=hy x H3 y
   unfold yO at h2
   cases ha:g.asg ds[i] τ2 with
   | ok τ3 =>
    rw [ha,R.ok_bind] at h2
    refine z0N (ok2.same s3) r' (fun a ha=>by rw [inL a (sub a ha)]; exact hLd a (sub a ha)) hn ha fun σ3 ok3=>?_
    refine q' B1 σ3 H3 τ3 _ ok3 ?_
    cases hb:tb τ3 with
    | ok f =>
     rw [hb,R.ok_bind] at h2
     cases f with
     | nx τ4=>exact fun σ' H' ok4=>⟨hlt,τ4,ok4.weak hw,h2⟩
     | ct τ4=>exact fun σ' H' ok4=>⟨hlt,τ4,ok4,h2⟩
     | bk τ4=>exact fun σ' H' ok4=>h2 σ' H' (ok4.rebase sB)
     | rt d=>exact fun v H' L s r n1 n2=>h2 v H' L (sB.trans s) r n1 fun a ha=>sB.non (n2 a ha)
    | err n=>rw [hb] at h2; exact fun C H' e s=>h2 C H' e (sB.trans s)
    | bad=>rw [hb] at h2; exact h2
   | err n =>
    cases g with
    | one i=>cases ha
    | many is =>
     unfold Tgt.asg at ha
     split at ha
     ·cases ha
     ·split at ha<;>cases ha
     ·cases ha
   | bad=>rw [ha] at h2; exact h2.elim
  ·have e:i=ds.length:=by omega
   subst e
   rw [List.drop_length] at h2
   exact .inl ⟨stop (Nat.le_refl _),h2 σ2 H2 (ok2.rebase sB)⟩
 | err n=>rw [ht] at h; exact fun C H' e s=>h C H' e (ok.ext.trans s)
 | bad=>rw [ht] at h; exact h
theorem jl {tg iter:Expr}{body:List Stmt}{it:Tn->R (List D)}{g:Tgt}{tb:Tn->R Fl}{c:Rc}(hp:PassesOwn (model X.prog X.w) X.A X.env X.xe)(hc:X.calm=true)(hi:MI X E Γ tg iter it c)(hcl:c≠.bor)(hg:MG X tg g)
  (hn:∀ i∈g.slots,i<Γ.length) (hb:MSs X E Γ (shrAll Γ g.slots) body tb Γ2) (hw:wk Γ2 Γ=true) (hs:autoParam (∀ x,foldedSetIterable iter X.env x=pure x) L2.au2._auto_1):MS X E Γl Γ (.For tg iter body [] pos) (xR it g tb) Γ:=by
 obtain ⟨wi,p,q⟩:=hi
 obtain ⟨ts,p',q'⟩:=hb
 exact ⟨_,Uk hp hc p hg.pg p' hs,z2M hcl hn hw q q'⟩
noncomputable def wd (k:Tn->R Bool)(body:Tn->R Fl):Nat->Tn->R Fl
 | 0,_=>.bad
 | n+1,τ=>(k τ).bind fun x=>if x=true then (body τ).bind fun f=>match f with
  | .nx τ2=>wd k body n τ2
  | .ct τ2=>wd k body n τ2
  | .bk τ2=>.ok (.nx τ2)
  | .rt r=>.ok (.rt r)
  else .ok (.nx τ)
open Classical in
noncomputable def xU (k:Tn->R Bool)(body:Tn->R Fl):Tn->R Fl:=fun τ=>if h:∃ n,wd k body n τ≠.bad then wd k body (Classical.choose h) τ else .bad
theorem qz {k:Tn->R Bool}{body:Tn->R Fl}:∀ (n:Nat) (τ:Tn),wd k body n τ≠.bad->wd k body (n+1) τ=wd k body n τ
 | 0,τ,h=>absurd rfl h
 | n+1,τ,h=>by
  unfold wd at h
  rw [wd,wd]
  cases hk:k τ with
  | ok x =>
   rw [hk,R.ok_bind] at h
   rw [R.ok_bind,R.ok_bind]
   cases x with
   | true =>
    rw [if_pos rfl] at h
    rw [if_pos rfl,if_pos rfl]
    cases hb:body τ with
    | ok f =>
     rw [hb,R.ok_bind] at h
     rw [R.ok_bind,R.ok_bind]
     cases f with
     | nx τ2=>exact qz n τ2 h
     | ct τ2=>exact qz n τ2 h
     | bk τ2=>rfl
     | rt d=>rfl
    | err n=>rfl
    | bad=>rfl
   | false=>rfl
  | err n=>rfl
  | bad=>rfl
theorem Wh {k:Tn->R Bool}{body:Tn->R Fl}{n m:Nat}{τ:Tn}(h:wd k body n τ≠.bad)(hm:n<=m):wd k body m τ=wd k body n τ:=by
 obtain ⟨j,rfl⟩:=Nat.le.dest hm
 induction j with
 | zero=>rfl
 | succ j ih =>
  have:=ih (Nat.le_add_right _ _)
  rw [<- Nat.add_assoc,qz (n+j) τ (by rw [this]; exact h),this]
theorem V4 {k:Tn->R Bool}{body:Tn->R Fl}{n:Nat}{τ:Tn}{r:R Fl}(h:wd k body n τ=r)(hr:r≠.bad):xU k body τ=r:=by
 have hx:∃ n,wd k body n τ≠.bad:=⟨n,by rw [h]; exact hr⟩
 unfold xU
 rw [dif_pos hx]
 have h2:=Classical.choose_spec hx
 rcases Nat.le_total n (Classical.choose hx) with z | z
 ·rw [Wh (by rw [h]; exact hr) z,h]
 ·rw [<- Wh h2 z,h]
theorem Xl {k:Tn->R Bool}{body:Tn->R Fl}{τ:Tn}:xU k body τ=.bad\/∃ n,wd k body n τ=xU k body τ/\xU k body τ≠.bad:=by
 by_cases hx:∃ n,wd k body n τ≠.bad
 ·refine .inr ⟨Classical.choose hx,?_,?_⟩<;>unfold xU<;>rw [dif_pos hx]
  exact Classical.choose_spec hx
 ·refine .inl ?_
  unfold xU
  rw [dif_neg hx]
theorem ZU {k:Expr}{body:List Stmt}{u:Tn->R Bool}{tb:Tn->R Fl}(hp:PassesOwn (model X.prog X.w) X.A X.env X.xe)(hk:MT X E Γ k u)(hb:MSs X E Γ Γ body tb Γ2)(hw:wk Γ2 Γ=true):MS X E Γl Γ (.While k body [] pos) (xU u tb) Γ:=by
 obtain ⟨te,p,q⟩:=hk
 obtain ⟨ts,p',q'⟩:=hb
 refine ⟨_,U6 hp p p',fun B σ H τ Z ok h=>?_⟩
 rcases Xl (k:=u) (body:=tb) (τ:=τ) with z | ⟨n,hn,_⟩
 ·rw [z] at h; exact h.elim
 rw [<- hn] at h
 refine ⟨fun m σ2 H2=>∃ τ2,SOk X.K Γ B H2 σ2 τ2 []/\wG X.K E B Γl Γ Z (wd u tb m τ2),⟨n,τ,ok,h⟩,?_⟩
 rintro m σ2 H2 ⟨τ2,ok2,h2⟩
 cases m with
 | zero=>exact h2.elim
 | succ m =>
  obtain ⟨O,eo,_⟩:=ok2.eok
  refine q O σ2 H2 τ2 _ eo ?_
  unfold wd at h2
  cases ht:u τ2 with
  | ok x =>
   rw [ht,R.ok_bind] at h2
   refine fun H3 s3=>?_
   cases x with
   | true =>
    rw [if_pos rfl] at h2 ⊢
    refine ⟨fun σ' H'=>∃ τ',SOk X.K Γ B H' σ' τ' []/\wG X.K E B Γl Γ Z (wd u tb m τ'),fun σ' H' w=>⟨m,Nat.lt_succ_self _,w⟩,q' B σ2 H3 τ2 _ (ok2.same s3) ?_⟩
    cases hb:tb τ2 with
    | ok f =>
     rw [hb,R.ok_bind] at h2
     cases f with
     | nx τ4=>exact fun σ' H' ok4=>⟨τ4,ok4.weak hw,h2⟩
     | ct τ4=>exact fun σ' H' ok4=>⟨τ4,ok4,h2⟩
     | bk τ4=>exact fun σ' H' ok4=>h2 σ' H' ok4
     | rt d=>exact h2
    | err n=>rw [hb] at h2; exact h2
    | bad=>rw [hb] at h2; exact h2
   | false=>rw [if_neg Bool.false_ne_true] at h2 ⊢; exact h2 σ2 H3 (ok2.same s3)
  | err n=>rw [ht] at h2; exact fun C H' e s=>h2 C H' e (ok2.ext.trans s)
  | bad=>rw [ht] at h2; exact h2
end
open PySem PySem.Spec PyProof.Rows
noncomputable def signs (x:Str):List D:=x.cps.toList.map fun c=>.str ⟨#[c]⟩
noncomputable def vN:D->R (List D)
 | .lst ds=>.ok ds
 | .tup ds=>.ok ds
 | .str x=>.ok (signs x)
 | _=>.bad
noncomputable def yR (t:Tn->R D):Tn->R (List D):=fun τ=>(t τ).bind vN
noncomputable def rng (lo:Int)(n:Nat):List D:=(List.range n).map fun (i:Nat)=>.int (lo+i)
noncomputable def xP:List D->R (List D)
 | [.int j]=>if -(2 ^ 62)<=j/\j<2 ^ 62 then .ok (rng 0 j.toNat) else .bad
 | _=>.bad
noncomputable def jY:List D->R (List D)
 | [.int i,.int j]=>if -(2 ^ 62)<=i/\i<2 ^ 62/\-(2 ^ 62)<=j/\j<2 ^ 62 then .ok (rng i (j-i).toNat) else .bad
 | _=>.bad
noncomputable def iL (g:List D->R (List D))(u:Tn->R (List D)):Tn->R (List D):=fun τ=>(u τ).bind g
section
variable {X:Cx}{E:XK}{Γ:List Cl}{tg e:Expr}{t:Tn->R D}{u:Tn->R (List D)}{c:Rc}{p pos:Pos}
theorem ItOk.list {K:PySem.W.Frag}{H:Hp}{a:Addr}{vs:List V}{ds:List D}{L L':List Addr}(ha:H a=some (.lst vs))(e:L=a::L')(r:Reps K H ds vs L'):ItOk K (Itl K a) ds L H:=by
 subst e
 refine ⟨fun b hb=>?_,fun H' tf kp i=>⟨fun d hd=>?_,fun hl=>?_⟩⟩
 ·rcases List.mem_cons.mp hb with z | z
  ·rw [z,ha]; simp
  ·exact r.there z
 ·have ha':H' a=some (.lst vs):=(kp a List.mem_cons_self).trans ha
  obtain ⟨v,L1,e1,r1,sub⟩:=r.get hd
  refine ⟨⟨vs,v,SqL.of ha',e1⟩,fun x H'' ⟨e2,hy⟩=>?_⟩
  subst e2
  have:=hy vs (SqL.of ha')
  rw [e1] at this
  cases this
  exact ⟨Same.refl _,L1,Rep.keep tf d _ L1 r1 fun b hb=>kp b (List.mem_cons_of_mem _ (sub.subset hb)),fun b hb=>List.mem_cons_of_mem _ (sub.subset hb)⟩
 ·have ha':H' a=some (.lst vs):=(kp a List.mem_cons_self).trans ha
  exact ⟨vs,SqL.of ha',by rw [r.length]; exact hl⟩
theorem ItOk.tuple {K:PySem.W.Frag}{H:Hp}{a:Addr}{vs:List V}{ds:List D}{L:List Addr}(ha:SqT K H a vs)(hun:∀ H' xs,TF H H'->SqT K H' a xs->xs=vs)(r:Reps K H ds vs L):ItOk K (Itt K a) ds L H:=by
 refine ⟨fun b hb=>r.there hb,fun H' tf kp i=>⟨fun d hd=>?_,fun hl=>?_⟩⟩
 ·have ha':=ha.tf tf
  obtain ⟨v,L1,e1,r1,sub⟩:=r.get hd
  refine ⟨⟨vs,v,ha',e1⟩,fun x H'' ⟨e2,hy⟩=>?_⟩
  subst e2
  have:=hy vs ha'
  rw [e1] at this
  cases this
  exact ⟨Same.refl _,L1,Rep.keep tf d _ L1 r1 fun b hb=>kp b (sub.subset hb),fun b hb=>sub.subset hb⟩
 ·exact ⟨vs,ha.tf tf,by rw [r.length]; exact hl⟩
theorem ItOk.tup {K:PySem.W.Frag}{H:Hp}{a:Addr}{vs:List V}{ds:List D}{L:List Addr}(ha:SqT K H a vs)(r:Reps K H ds vs L):ItOk K (Itt K a) ds L H:=by
 refine ⟨fun b hb=>r.there hb,fun H' tf kp i=>⟨fun d hd=>?_,fun hl=>?_⟩⟩
 ·have ha':=ha.tf tf
  obtain ⟨v,L1,e1,r1,sub⟩:=r.get hd
  refine ⟨⟨vs,v,ha',e1⟩,fun x H'' ⟨e2,hy⟩=>?_⟩
  subst e2
  have:=hy vs ha'
  rw [e1] at this
  cases this
  exact ⟨Same.refl _,L1,Rep.keep tf d _ L1 r1 fun b hb=>kp b (sub.subset hb),fun b hb=>sub.subset hb⟩
 ·exact ⟨vs,ha.tf tf,by rw [r.length]; exact hl⟩
theorem ItOk.str {K:PySem.W.Frag}{H:Hp}{x:Str}:ItOk K (Its x) (signs x) [] H:=by
 refine ⟨fun b hb=>(nomatch hb),fun H' tf kp i=>⟨fun d hd=>?_,fun hl=>?_⟩⟩
 ·unfold signs at hd
  rw [List.getElem?_map] at hd
  cases hq:x.cps.toList[i]? with
  | none=>rw [hq] at hd; cases hd
  | some k =>
   rw [hq] at hd
   have hd:D.str ⟨#[k]⟩=d:=Option.some.inj hd
   subst hd
   have hi:i<x.cps.size:=by
    have:=(List.getElem?_eq_some_iff.mp hq).1
    simpa using this
   refine ⟨hi,fun y H'' ⟨e2,c',e3,e4⟩=>?_⟩
   subst e2 e4
   rw [<- Array.getElem?_toList,hq] at e3
   cases e3
   exact ⟨Same.refl _,[],⟨rfl,rfl⟩,fun b hb=>(nomatch hb)⟩
 ·have:(signs x).length=x.cps.size:=by simp [signs]
  show x.cps.size<=i
  lia
theorem ItOk.rng {K:PySem.W.Frag}{H:Hp}{lo:Int}{n:Nat}:ItOk K (Itr lo n) (L2.rng lo n) [] H:=by
 refine ⟨fun b hb=>(nomatch hb),fun H' tf kp i=>⟨fun d hd=>?_,fun hl=>?_⟩⟩
 ·unfold L2.rng at hd
  rw [List.getElem?_map] at hd
  by_cases hi:i<n
  ·rw [List.getElem?_range hi] at hd
   have hd:D.int (lo+(i:Int))=d:=Option.some.inj hd
   subst hd
   refine ⟨hi,fun y H'' ⟨e2,e3⟩=>?_⟩
   subst e2 e3
   exact ⟨Same.refl _,[],⟨rfl,rfl⟩,fun b hb=>(nomatch hb)⟩
  ·rw [List.getElem?_eq_none (by simp; lia)] at hd; cases hd
 ·have:(L2.rng lo n).length=n:=by simp [L2.rng]
  show n<=i
  lia
theorem wQ (h:ME X E Γ e t c):MI X E Γ tg e (yR t) c:=by
 obtain ⟨te,p,q⟩:=h
 refine ⟨fun σ H Rr=>Ki X.K te σ H Rr\/z2x X.K te σ H Rr\/z1X te σ H Rr,fun pins s σ H Rr I z=>?_,fun O σ H τ Rr ok h=>?_⟩
 ·rcases z with z | z | z
  ·exact Jr p pins s σ H Rr I z
  ·exact z0F p pins s σ H Rr I z
  ·exact z1h p pins s σ H Rr I z
 ·unfold yR at h
  cases ht:t τ with
  | ok d =>
   rw [ht,R.ok_bind] at h
   cases d with
   | lst ds =>
    refine .inl (q O σ H τ _ ok ?_)
    rw [ht]
    refine fun v H1 L s r k=>?_
    obtain ⟨a,vs,L',rfl,ha,e,rs⟩:=r
    exact ⟨a,rfl,⟨vs,SqL.of ha⟩,h _ H1 L s (ItOk.list ha e rs) fun n=>k.shr ok.dom n⟩
   | tup ds =>
    refine .inr (.inl (q O σ H τ _ ok ?_))
    rw [ht]
    refine fun v H1 L s r k=>?_
    obtain ⟨a,vs,rfl,ha,rs⟩:=r
    exact ⟨a,rfl,⟨vs,ha⟩,h _ H1 L s (ItOk.tup ha rs) fun n=>k.shr ok.dom n⟩
   | str x =>
    refine .inr (.inr (q O σ H τ _ ok ?_))
    rw [ht]
    refine fun v H1 L s r k=>?_
    exact ⟨x,r.1,h _ H1 [] s ItOk.str fun n a ha=>(nomatch ha)⟩
   | _=>exact h.elim
  | err n =>
   rw [ht] at h
   refine .inl (q O σ H τ _ ok ?_)
   rw [ht]; exact h
  | bad=>rw [ht] at h; exact h.elim
theorem xW {a:Expr}(hg:Gl X "range")(hm:X.mg "range"=none)(ha:MA X E Γ [a] u c)(hs:autoParam (starEach [a] X.env=[(false,eval a X.env)]) L2.au3._auto_1):MI X E Γ tg (.Call (.Name "range" p) [a] [] pos) (iL xP u) .fresh:=by
 obtain ⟨_,ta,p',q⟩:=ha
 refine ⟨_,WQ hg hm p' hs,fun O σ H τ Rr ok h=>q O σ H τ _ ok ?_⟩
 unfold iL at h
 cases ht:u τ with
 | ok ds =>
  rw [ht,R.ok_bind] at h
  refine fun vs H1 L s r k=>?_
  unfold xP at h
  split at h
  ·rename_i j
   obtain ⟨v,vs',L1,L2,e1,_,r1,r2⟩:=r
   obtain ⟨rfl,_⟩:=r1
   obtain ⟨rfl,_⟩:=r2
   by_cases hj:-(2 ^ 62)<=j/\j<2 ^ 62
   ·rw [if_pos hj] at h
    exact ⟨j,e1,hj.1,hj.2,h _ H1 [] s ItOk.rng fun n a ha=>(nomatch ha)⟩
   ·rw [if_neg hj] at h; exact h.elim
  ·exact h.elim
 | err n=>rw [ht] at h; exact h
 | bad=>rw [ht] at h; exact h
theorem kD {a b:Expr}(hg:Gl X "range")(hm:X.mg "range"=none)(ha:MA X E Γ [a,b] u c)(hs:autoParam (starEach [a,b] X.env=[(false,eval a X.env),(false,eval b X.env)]) L2.au3._auto_1)(hs2:autoParam (starEach [b] X.env=[(false,eval b X.env)]) L2.au3._auto_1):MI X E Γ tg (.Call (.Name "range" p) [a,b] [] pos) (iL jY u) .fresh:=by
 obtain ⟨_,ta,p',q⟩:=ha
 refine ⟨_,Ve hg hm p' hs hs2,fun O σ H τ Rr ok h=>q O σ H τ _ ok ?_⟩
 unfold iL at h
 cases ht:u τ with
 | ok ds =>
  rw [ht,R.ok_bind] at h
  refine fun vs H1 L s r k=>?_
  unfold jY at h
  split at h
  ·rename_i i j
   obtain ⟨v,vs',L1,L2,e1,_,r1,v2,vs2,L3,L4,e2,_,r2,r3⟩:=r
   obtain ⟨rfl,_⟩:=r1
   obtain ⟨rfl,_⟩:=r2
   obtain ⟨rfl,_⟩:=r3
   subst e2
   by_cases hj:-(2 ^ 62)<=i/\i<2 ^ 62/\-(2 ^ 62)<=j/\j<2 ^ 62
   ·rw [if_pos hj] at h
    exact ⟨i,j,e1,hj,h _ H1 [] s ItOk.rng fun n a ha=>(nomatch ha)⟩
   ·rw [if_neg hj] at h; exact h.elim
  ·exact h.elim
 | err n=>rw [ht] at h; exact h
 | bad=>rw [ht] at h; exact h
end
noncomputable def vc (fr:List (Option Nat))(τ:Tn):Tn:=fr.map fun o=>o.bind fun i=>(τ[i]?).join
noncomputable def yG (fr:List (Option Nat))(Γ:List Cl):List Cl:=fr.map fun o=>match o with
 | some i=>(match Γ[i]? with
  | some .shr=>.shr
  | some .own=>.brw
  | some .brw=>.brw
  | _=>.dead)
 | none=>.dead
noncomputable def yS (k:Cl):List Cl->List Nat->List Cl
 | Γ,[]=>Γ
 | Γ,i::is=>yS k (Γ.set i k) is
noncomputable def Cl.ofIt:Rc->Cl
 | .bor=>.brw
 | _=>.shr
noncomputable def yW (f:D->R (Option D)):List D->R (List D)
 | []=>.ok []
 | d::ds=>(f d).bind fun o=>(yW f ds).bind fun ys=>.ok (o.toList++ys)
noncomputable def vg {α:Type}:R α->R α
 | .err _=>.bad
 | r=>r
noncomputable def zP (asg:D->Tn->R Tn)(cnd:Tn->R Bool)(elt:Tn->R D)(τ:Tn)(d:D):R (Option D) :=
 vg ((asg d τ).bind fun τ1=>(cnd τ1).bind fun k=>if k=true then (elt τ1).bind fun y=>.ok (some y) else .ok none)
noncomputable def yi (fr:List (Option Nat))(it:Tn->R (List D))(g:Tgt)(cnd:Tn->R Bool)(elt:Tn->R D):Tn->R D:=fun τ=>(it τ).bind fun xs=>(yW (zP g.asg cnd elt (vc fr τ)) xs).bind fun ys=>if ys.length<=sizeLine then .ok (.lst ys) else .bad
noncomputable def MTs (X:Cx)(E:XK)(Γ:List Cl)(ifs:List Expr)(t:Tn->R Bool):Prop :=
 ∃ te,PTs X ifs te/\∀ O σ H τ Q,EOk X.K Γ O H σ τ->postB X.K E H Q (t τ)->te σ H Q
theorem vy {X:Cx}{E:XK}{Γ:List Cl}:MTs X E Γ [] (fun _=>.ok true):=⟨z2L,Qx,fun O σ H τ Q ok h=>h H (Same.refl H)⟩
theorem vV {X:Cx}{E:XK}{Γ:List Cl}{e:Expr}{t:Tn->R Bool}(h:MT X E Γ e t):MTs X E Γ [e] t:=by
 obtain ⟨te,p,q⟩:=h
 exact ⟨te,Qu p,q⟩
theorem MTs.pts {X:Cx}{E:XK}{Γ:List Cl}{e:List Expr}{t:Tn->R Bool}(h:MTs X E Γ e t):PTs X e (wpT X.K E Γ t):=by
 obtain ⟨te,p,q⟩:=h
 rintro pins s σ H Q I ⟨O,τ,ok,z⟩
 exact p pins s σ H Q I (q O σ H τ Q ok z)
theorem Same.upd_of {H H1 H2:Hp}{p:Addr}{o:HO}(h:H p=none)(s:Same H H2):Same H (upd H2 p o):=fun b u e=>by
 rw [y4 (yV e h)]; exact s b u e
section
variable {K:PySem.W.Frag}{Γ:List Cl}{O:Addr->Prop}{H:Hp}{σ:St}{τ:Tn}
theorem EOk.comp {fr:List (Option Nat)}(h:EOk K Γ O H σ τ):EOk K (yG fr Γ) O H (wM fr σ) (vc fr τ):=by
 refine ⟨h.dom,fun j c e hc=>?_⟩
 unfold yG at e
 rw [List.getElem?_map] at e
 cases ho:fr[j]? with
 | none=>rw [ho] at e; cases e
 | some o =>
  rw [ho] at e
  cases o with
  | none=>exact absurd (Option.some.inj e).symm hc
  | some i =>
   have e:(match Γ[i]? with | some .shr=>Cl.shr | some .own=>.brw | some .brw=>.brw | _=>.dead)=c:=Option.some.inj e
   have key:∃ k,Γ[i]?=some k/\k≠.dead/\(c=.shr->k=.shr):=by
    cases hk:Γ[i]? with
    | none=>rw [hk] at e; exact absurd e.symm hc
    | some k =>
     rw [hk] at e
     cases k with
     | own=>subst e; exact ⟨_,rfl,by simp,fun z=>by cases z⟩
     | shr=>exact ⟨_,rfl,by simp,fun _=>rfl⟩
     | brw=>subst e; exact ⟨_,rfl,by simp,fun z=>by cases z⟩
     | dead=>exact absurd e.symm hc
   obtain ⟨k,k1,k2,k3⟩:=key
   obtain ⟨v,d,L,e1,e2,r,hs⟩:=h.slot i k k1 k2
   refine ⟨v,d,L,?_,?_,r,fun z=>hs (k3 z)⟩
   ·unfold wM; rw [List.getElem?_map,ho]; show some ((σ[i]?).join)=_; rw [e1]; rfl
   ·unfold vc; rw [List.getElem?_map,ho]; show some ((τ[i]?).join)=_; rw [e2]; rfl
theorem EOk.put {i:Nat}{k:Cl}{d:D}{v:V}{L:List Addr}(h:EOk K Γ O H σ τ)(r:Rep K H d v L)(hk:k=.shr->∀ a∈L,¬ O a)(h1:σ.length=Γ.length)(h2:τ.length=Γ.length):EOk K (Γ.set i k) O H (σ.set i (some v)) (τ.set i (some d)):=by
 refine ⟨h.dom,fun j c e hc=>?_⟩
 by_cases z:i=j
 ·subst z
  have hi:i<Γ.length:=by
   have:=(List.getElem?_eq_some_iff.mp e).1
   simpa using this
  rw [List.getElem?_set_self hi] at e
  cases e
  exact ⟨v,d,L,by rw [List.getElem?_set_self (by lia)],by rw [List.getElem?_set_self (by lia)],r,hk⟩
 ·rw [List.getElem?_set_ne z] at e
  obtain ⟨v',d',L',a1,a2,a3,a4⟩:=h.slot j c e hc
  exact ⟨v',d',L',by rw [List.getElem?_set_ne z]; exact a1,by rw [List.getElem?_set_ne z]; exact a2,a3,a4⟩
end
theorem EOk.putAll {K:PySem.W.Frag}{O:Addr->Prop}{H:Hp}{k:Cl}{Γ:List Cl}{σ:St}{τ:Tn}{is:List Nat}{ds:List D}{vs:List V}{L:List Addr}(h:EOk K Γ O H σ τ)(r:Reps K H ds vs L)(hL:k=.shr->∀ a∈L,¬ O a)(hl:ds.length=is.length)(h1:σ.length=Γ.length)(h2:τ.length=Γ.length) :
  EOk K (yS k Γ is) O H (xk σ is vs) (xk τ is ds):=by
 induction is generalizing Γ σ τ ds vs L with
 | nil =>
  cases ds with
  | nil=>cases r.1; exact h
  | cons=>cases hl
 | cons i is ih =>
  cases ds with
  | nil=>cases hl
  | cons d ds =>
   obtain ⟨v,vs',L1,L2,e1,e2,r1,r2⟩:=r
   subst e1 e2
   exact ih (h.put r1 (fun z a ha=>hL z a (List.mem_append_left _ ha)) h1 h2) r2 (fun z a ha=>hL z a (List.mem_append_right _ ha)) (Nat.succ.inj hl) (by rw [List.length_set,List.length_set]; exact h1) (by rw [List.length_set,List.length_set]; exact h2)
theorem jR {α:Type}:∀ (is:List Nat) (σ:List (Option α)) (vs:List α),(xk σ is vs).length=σ.length
 | [],σ,vs=>by unfold xk; rfl
 | i::is,σ,[]=>by unfold xk; rfl
 | i::is,σ,v::vs=>by unfold xk; rw [jR is,List.length_set]
theorem kr {α:Type}{j:Nat}:∀ (is:List Nat) (σ:List (Option α)) (vs:List α),j∉is->(xk σ is vs)[j]?=σ[j]?
 | [],σ,vs,_=>by unfold xk; rfl
 | i::is,σ,[],_=>by unfold xk; rfl
 | i::is,σ,v::vs,h=>by
  unfold xk
  rw [kr is _ vs (fun z=>h (List.mem_cons_of_mem _ z)),List.getElem?_set_ne (fun (z:i=j)=>h (z▸List.mem_cons_self))]
theorem z14 {K:PySem.W.Frag}{Γ:List Cl}{O:Addr->Prop}{H:Hp}{σ:St}{τ τ1:Tn}{d:D}{v:V}{L:List Addr}{g:Tgt}{k:Cl}(h:EOk K Γ O H σ τ)(r:Rep K H d v L)(hL:k=.shr->∀ a∈L,¬ O a)(h1:σ.length=Γ.length)(h2:τ.length=Γ.length)(ha:g.asg d τ=.ok τ1)
  {Q:St->Hp->Prop} (kk:∀ σ1,EOk K (yS k Γ g.slots) O H σ1 τ1->σ1.length=σ.length->(∀ j,j∉g.slots->σ1[j]?=σ[j]?)->Q σ1 H):tgG K g v σ H Q:=by
 cases g with
 | one i =>
  cases ha
  exact kk _ (h.put r hL h1 h2) (by simp) fun j hj=>List.getElem?_set_ne fun z=>hj (by simp [Tgt.slots,z])
 | many is =>
  cases d with
  | tup ds =>
   unfold Tgt.asg at ha
   dsimp only at ha
   by_cases hl:ds.length=is.length
   ·rw [if_pos hl] at ha
    cases ha
    obtain ⟨a,vs,rfl,hs,rs⟩:=r
    have hv:vs.length=is.length:=rs.length.trans hl
    exact ⟨a,vs,rfl,hs,hv,kk _ (h.putAll rs hL hl h1 h2) (jR _ _ _) fun j hj=>kr is σ vs hj⟩
   ·rw [if_neg hl] at ha; cases ha
  | _=>cases ha
open PySem PySem.Spec PyProof.Rows
noncomputable abbrev noX:XK:=fun _ _ _=>False
theorem UZ {α:Type}{r:R α}{a:α}(h:vg r=.ok a):r=.ok a:=by
 cases r with
 | ok b=>exact h
 | err n=>cases h
 | bad=>cases h
theorem Va {α:Type}{r:R α}{n:Str}(h:vg r=.err n):False:=by cases r<;>cases h
theorem qH {f:D->R (Option D)}(hf:∀ d n,f d≠.err n):∀ (ds:List D) (n:Str),yW f ds≠.err n
 | [],n,h=>by cases h
 | d::ds,n,h=>by
  unfold yW at h
  cases h1:f d with
  | ok o =>
   rw [h1,R.ok_bind] at h
   cases h2:yW f ds with
   | ok ys=>rw [h2] at h; cases h
   | err m=>exact qH hf ds m h2
   | bad=>rw [h2] at h; cases h
  | err m=>exact hf d m h1
  | bad=>rw [h1] at h; cases h
theorem vw {α β:Type}{r:R α}{f:α->R β}{b:β}(h:r.bind f=.ok b):∃ a,r=.ok a/\f a=.ok b:=by
 cases r with
 | ok a=>exact ⟨a,rfl,h⟩
 | err n=>cases h
 | bad=>cases h
theorem YX {f:D->R (Option D)}{d:D}{ds ys:List D}(h:yW f (d::ds)=.ok ys):∃ o zs,f d=.ok o/\yW f ds=.ok zs/\ys=o.toList++zs:=by
 unfold yW at h
 obtain ⟨o,h1,h⟩:=vw h
 obtain ⟨zs,h2,h⟩:=vw h
 cases h
 exact ⟨o,zs,h1,h2,rfl⟩
theorem EOk.live {K:PySem.W.Frag}{Γ:List Cl}{O:Addr->Prop}{H:Hp}{σ σ':St}{τ:Tn}(h:EOk K Γ O H σ τ)(e:∀ (j:Nat) (c:Cl),Γ[j]?=some c->c≠Cl.dead->σ'[j]?=σ[j]?):EOk K Γ O H σ' τ :=
 ⟨h.dom,fun i c e1 hc=>by
  obtain ⟨v,d,L,a1,a2,a3,a4⟩:=h.slot i c e1 hc
  exact ⟨v,d,L,by rw [e i c e1 hc]; exact a1,a2,a3,a4⟩⟩
section
variable {X:Cx}{E:XK}{Γ:List Cl}{pos:Pos}
theorem ZZ {fr:List (Option Nat)}{tg iter:Expr}{it:Tn->R (List D)}{g:Tgt}{cnd:Tn->R Bool}{te:Tn->R D}{ci c:Rc}(hi:MI X E Γ tg iter it ci)(hcl:c≠.bor)(hd:∀ j∈g.slots,(yG fr Γ)[j]?=some .dead) :
  ∃ wi,PI X tg iter wi/\∀ O σ H τ Q,EOk X.K Γ O H σ τ->post X.K E O c H Q (yi fr it g cnd te τ)->WA fr wi (tgG X.K g) (wpT X.K noX (yS (Cl.ofIt ci) (yG fr Γ) g.slots) cnd) (wpE X.K noX (yS (Cl.ofIt ci) (yG fr Γ) g.slots) te c) σ H Q:=by
 have hT0:∀ σ H Q,(∃ O τ,EOk X.K (yS (Cl.ofIt ci) (yG fr Γ) g.slots) O H σ τ/\postB X.K noX H Q (cnd τ))->wpT X.K noX (yS (Cl.ofIt ci) (yG fr Γ) g.slots) cnd σ H Q:=fun _ _ _ h=>h
 have hE0:∀ σ H Q,(∃ O τ,EOk X.K (yS (Cl.ofIt ci) (yG fr Γ) g.slots) O H σ τ/\post X.K noX O c H Q (te τ))->wpE X.K noX (yS (Cl.ofIt ci) (yG fr Γ) g.slots) te c σ H Q:=fun _ _ _ h=>h
 generalize wpT X.K noX (yS (Cl.ofIt ci) (yG fr Γ) g.slots) cnd=TC at hT0 ⊢
 generalize wpE X.K noX (yS (Cl.ofIt ci) (yG fr Γ) g.slots) te c=TE0 at hE0 ⊢
 obtain ⟨wi,p,q⟩:=hi
 refine ⟨wi,p,fun O σ H τ Q ok h=>q O σ H τ _ ok ?_⟩
 unfold yi at h
 cases hit':it τ with
 | err n=>rw [hit'] at h; exact h
 | bad=>rw [hit'] at h; exact h
 | ok ds =>
  rw [hit',R.ok_bind] at h
  refine fun J H1 L s1 hJ hO dd hD=>?_
  obtain ⟨hLd,hit⟩:=hJ
  generalize hF:zP g.asg cnd te (vc fr τ)=F at h
  cases hcL:yW F ds with
  | err n=>exact absurd hcL (qH (fun d n z=>by rw [<- hF] at z; exact Va z) ds n)
  | bad=>rw [hcL] at h; exact h.elim
  | ok ys =>
   rw [hcL,R.ok_bind] at h
   by_cases hz:ys.length<=sizeLine
   ·rw [if_pos hz] at h
    have hD0:H dd=none:=s1.non hD
    have Xz:(wM fr σ).length=(yG fr Γ).length:=by simp [wM,yG]
    have lenT:(vc fr τ).length=(yG fr Γ).length:=by simp [vc,yG]
    obtain ⟨W,hW⟩:∃ W:Nat->Nat->List V->St->Hp->Prop,∀ i m ysv τ' H2,W i m ysv τ' H2↔(m=ds.length-i/\i<=ds.length/\H2 dd=some (.lst ysv)/\(∀ b,b≠dd->H1 b≠none->H2 b=H1 b)/\τ'.length=(yG fr Γ).length/\(∀ j,j∉g.slots->τ'[j]?=(wM fr σ)[j]?) /\
     ∃ dn rs Ly,ys=dn++rs/\yW F (ds.drop i)=.ok rs/\Reps X.K H2 dn ysv Ly/\dd∉Ly/\RcOk c O H1 Ly):=⟨_,fun _ _ _ _ _=>Iff.rfl⟩
    refine ⟨W,⟨ds.length,(hW _ _ _ _ _).mpr ⟨by simp,Nat.zero_le _,zK,fun b hb _=>y4 hb,Xz,fun _ _=>rfl,[],ys,[],rfl,by simpa using hcL,Reps.nil,by simp,RcOk.nil⟩⟩,?_⟩
    intro i m ysv τ' H2 hw0
    obtain ⟨rfl,hile,hDy,kp,hl',hj',dn,rs,Ly,eys,hrs,rdn,nD,kLy⟩:=(hW _ _ _ _ _).mp hw0
    refine ⟨hDy,?_⟩
    have sH:Same H H2:=fun b o e=>by
     have e1:=s1 b o e
     have nb:b≠dd:=yV e hD0
     rw [kp b nb (by rw [e1]; simp)]; exact e1
    have s12:∀ b o,H1 b=some o->H2 b=some o:=fun b o e=>by
     rw [kp b (yV e hD) (by rw [e]; simp)]; exact e
    have okO:EOk X.K Γ (fun a=>O a\/a=dd) H2 σ τ:=by
     refine ⟨fun a ha=>?_,fun j k e hk=>?_⟩
     ·rcases ha with ha | ha
      ·exact (ok.same sH).dom a ha
      ·rw [ha,hDy]; simp
     ·obtain ⟨v,d,L0,a1,a2,a3,a4⟩:=ok.slot j k e hk
      refine ⟨v,d,L0,a1,a2,a3.same sH,fun z a ha hm=>?_⟩
      rcases hm with hm | hm
      ·exact a4 z a ha hm
      ·exact a3.there ha (hm▸hD0)
    have okc:EOk X.K (yG fr Γ) (fun a=>O a\/a=dd) H2 τ' (vc fr τ):=(okO.comp (fr:=fr)).live fun j k e hk=>hj' j fun hm=>by
     rw [hd j hm] at e; exact hk (Option.some.inj e).symm
    obtain ⟨go,stop⟩:=hit H2 ⟨fun a xs e=>s12 a _ e,fun a o u e=>s12 a _ e⟩ (fun a ha=>kp a (fun z=>hLd a ha (z▸hD)) (hLd a ha)) i
    by_cases hlt:i<ds.length
    ·obtain ⟨hgo,hy⟩:=go ds[i] (by simp [hlt])
     refine .inr ⟨hgo,fun x H3 y=>?_⟩
     obtain ⟨s3,L',r',sub⟩:=hy x H3 y
     rw [List.drop_eq_getElem_cons hlt] at hrs
     obtain ⟨o,zs,ho,hzs,ers⟩:=YX hrs
     rw [<- hF] at ho
     have ho:=UZ ho
     obtain ⟨τ1,ha,ho⟩:=vw ho
     obtain ⟨k,hk,ho⟩:=vw ho
     refine z14 (k:=Cl.ofIt ci) (okc.same s3) r' (fun z a ha hm=>?_) hl' lenT ha fun σ1 ok1 hl1 hj1=>?_
     ·have hci:ci≠.bor:=fun w=>by subst w; cases z
      rcases hm with hm | hm
      ·exact hO hci a (sub a ha) hm
      ·exact hLd a (sub a ha) (hm▸hD)
     ·refine hT0 _ _ _ ⟨_,τ1,ok1,?_⟩
      rw [hk]
      refine fun H5 s5=>?_
      have s25:=s3.trans s5
      cases k with
      | true =>
       rw [if_pos rfl] at ho
       dsimp only
       rw [if_pos rfl]
       obtain ⟨yd,hyd,ho⟩:=vw ho
       cases ho
       refine hE0 _ _ _ ⟨_,τ1,ok1.same s5,?_⟩
       rw [hyd]
       refine fun yv H6 Lw s6 r6 k6=>?_
       have s26:=s25.trans s6
       have hD6:H6 dd=some (.lst ysv):=s26 dd _ hDy
       have hlen:ysv.length=dn.length:=rdn.length
       have nDw:dd∉Lw:=fun hm=>by
        cases c with
        | fresh=>have:=k6.2 dd hm; rw [s25 dd _ hDy] at this; cases this
        | shr=>exact k6 dd hm (.inr rfl)
        | bor=>exact hcl rfl
       have mu:(∃ vs,H6 dd=some (.lst vs))\/∃ kvs,H6 dd=some (.dK kvs):=.inl ⟨_,hD6⟩
       refine ⟨hD6,?_,ds.length-(i+1),by lia,(hW _ _ _ _ _).mpr ⟨rfl,hlt,zK,fun b hb hn=>?_,by rw [hl1]; exact hl',fun j hj=>(hj1 j hj).trans (hj' j hj),dn++[yd],zs,Ly++Lw,?_,hzs,?_,?_,?_⟩⟩
       ·rw [eys,ers,List.length_append,List.length_append] at hz
        simp only [Option.toList,List.length_singleton] at hz
        lia
       ·rw [y4 hb,<- kp b hb hn]
        exact s26.at (by rw [kp b hb hn]; exact hn)
       ·rw [eys,ers,List.append_assoc]; rfl
       ·have:=Reps.append ((rdn.same s26).upd (o:=.lst (ysv++[yv])) mu nD) (Reps.cons (r6.upd (o:=.lst (ysv++[yv])) mu nDw) Reps.nil)
        rw [List.append_nil] at this
        exact this
       ·intro hm
        rcases List.mem_append.mp hm with z | z
        ·exact nD z
        ·exact nDw z
       ·cases c with
        | fresh =>
         refine ⟨List.nodup_append.mpr ⟨kLy.1,k6.1,fun a ha b hb z=>?_⟩,fun a ha=>?_⟩
         ·subst z
          have h2:=rdn.there ha
          have h5:=k6.2 a hb
          exact h2 (s25.non h5)
         ·rcases List.mem_append.mp ha with z | z
          ·exact kLy.2 a z
          ·have h5:=k6.2 a z
           have h2:H2 a=none:=s25.non h5
           cases e1:H1 a with
           | none=>rfl
           | some o=>rw [s12 a o e1] at h2; cases h2
        | shr =>
         intro a ha
         rcases List.mem_append.mp ha with z | z
         ·exact kLy a z
         ·exact fun w=>k6 a z (.inl w)
        | bor=>exact absurd rfl hcl
      | false =>
       rw [if_neg Bool.false_ne_true] at ho
       dsimp only
       rw [if_neg Bool.false_ne_true]
       cases ho
       refine ⟨ds.length-(i+1),by lia,(hW _ _ _ _ _).mpr ⟨rfl,hlt,s25 dd _ hDy,fun b hb hn=>?_,by rw [hl1]; exact hl',fun j hj=>(hj1 j hj).trans (hj' j hj),dn,zs,Ly,?_,hzs,rdn.same s25,nD,kLy⟩⟩
       ·rw [<- kp b hb hn]
        exact s25.at (by rw [kp b hb hn]; exact hn)
       ·rw [eys,ers]; rfl
    ·have e:i=ds.length:=by lia
     subst e
     rw [List.drop_length] at hrs
     cases hrs
     rw [List.append_nil] at eys
     subst eys
     refine .inl ⟨stop (Nat.le_refl _),h (.ref dd) H2 (dd::Ly) sH ⟨dd,ysv,Ly,rfl,hDy,rfl,rdn⟩ ?_⟩
     cases c with
     | fresh =>
      refine ⟨List.nodup_cons.mpr ⟨nD,kLy.1⟩,fun a ha=>?_⟩
      rcases List.mem_cons.mp ha with z | z
      ·rw [z]; exact hD0
      ·exact s1.non (kLy.2 a z)
     | shr =>
      intro a ha
      rcases List.mem_cons.mp ha with z | z
      ·rw [z]; exact fun w=>ok.dom dd w hD0
      ·exact kLy a z
     | bor=>exact absurd rfl hcl
   ·rw [if_neg hz] at h; exact h.elim
theorem wD {N':List Str}{fr:List (Option Nat)}{scope:Scope}{tg iter elt:Expr}{ifs:List Expr}{it:Tn->R (List D)}{g:Tgt}{cnd:Tn->R Bool}{te:Tn->R D}{ci c:Rc}(hc:X.calm=true)(S:CompScope X N' fr scope)(hi:MI X E Γ tg iter it ci)
  (hg:∀ s₃ H₃ fp pins,MG (zT X scope N' s₃ H₃ fp pins) tg g) (ht:∀ s₃ H₃ fp pins,MTs (zT X scope N' s₃ H₃ fp pins) noX (yS (Cl.ofIt ci) (yG fr Γ) g.slots) ifs cnd)
  (he:∀ s₃ H₃ fp pins,ME (zT X scope N' s₃ H₃ fp pins) noX (yS (Cl.ofIt ci) (yG fr Γ) g.slots) elt te c) (hcl:c≠.bor) (hd:∀ j∈g.slots,(yG fr Γ)[j]?=some .dead)
  (hs:autoParam (∀ x,foldedSetIterable iter X.env x=pure x) L2.au2._auto_1):ME X E Γ (.ListComp elt [⟨tg,iter,ifs,0⟩] scope pos) (yi fr it g cnd te) c:=by
 obtain ⟨wi,p,q⟩:=ZZ (cnd:=cnd) (te:=te) hi hcl hd
 exact ⟨_,Ji hc S p (fun s₃ H₃ fp pins=>(hg s₃ H₃ fp pins).pg) (fun s₃ H₃ fp pins=>(ht s₃ H₃ fp pins).pts) (fun s₃ H₃ fp pins=>(he s₃ H₃ fp pins).pe) hs,q⟩
theorem Jx {Γl:List Cl}{N':List Str}{fr:List (Option Nat)}{scope:Scope}{tg iter elt:Expr}{ifs:List Expr}{it:Tn->R (List D)}{g:Tgt}{cnd:Tn->R Bool}{te:Tn->R D}{ci:Rc}{i:Nat}{x:Str}{pos' cpos:Pos}(hc:X.calm=true)(S:CompScope X N' fr scope)(hi:MI X E Γ tg iter it ci)
  (hg:∀ s₃ H₃ fp pins,MG (zT X scope N' s₃ H₃ fp pins) tg g) (ht:∀ s₃ H₃ fp pins,MTs (zT X scope N' s₃ H₃ fp pins) noX (yS (Cl.ofIt ci) (yG fr Γ) g.slots) ifs cnd)
  (he:∀ s₃ H₃ fp pins,ME (zT X scope N' s₃ H₃ fp pins) noX (yS (Cl.ofIt ci) (yG fr Γ) g.slots) elt te .fresh) (hd:∀ j∈g.slots,(yG fr Γ)[j]?=some .dead)
  (hN:X.N.Nodup) (hix:X.N[i]?=some x) (hl:i<Γ.length) (hx:Loc X.env.scope x) (hsw:swapsWith (.ListComp elt [⟨tg,iter,ifs,0⟩] scope cpos) (some (.Name x pos')) pos.line X.env=pure true)
  (hs:autoParam (∀ x,foldedSetIterable iter X.env x=pure x) L2.au2._auto_1) (hf:autoParam (X.fn x=true\/X.env.scope.names.lookup x=some .local) L2.au0._auto_1) :
  MS X E Γl Γ (.Assign [.Name x pos'] (.ListComp elt [⟨tg,iter,ifs,0⟩] scope cpos) pos) (zl i (yi fr it g cnd te)) (Γ.set i .own):=by
 obtain ⟨wi,p,q⟩:=ZZ (cnd:=cnd) (te:=te) (c:=.fresh) hi (by decide) hd
 refine ⟨_,Jo (g:=tgG X.K g) (tc:=wpT X.K noX (yS (Cl.ofIt ci) (yG fr Γ) g.slots) cnd) (te:=wpE X.K noX (yS (Cl.ofIt ci) (yG fr Γ) g.slots) te .fresh) hc S p (fun s₃ H₃ fp pins=>(hg s₃ H₃ fp pins).pg) (fun s₃ H₃ fp pins=>(ht s₃ H₃ fp pins).pts) (fun s₃ H₃ fp pins=>(he s₃ H₃ fp pins).pe) hN hix hx hsw hs hf,fun B σ H τ Z ok h=>?_⟩
 obtain ⟨O,eo,_⟩:=ok.eok
 refine q O σ H τ _ eo ?_
 unfold zl at h
 cases ht':yi fr it g cnd te τ with
 | ok d =>
  rw [ht',R.ok_bind] at h
  exact fun v H' L s r k=>h _ _ (SOk.into (T:=[]) (ok.aside s (fun a ha=>r.there ha) k.1 k.2) r hl)
 | err n=>rw [ht'] at h; exact fun C H' e s=>h C H' e (ok.ext.trans s)
 | bad=>rw [ht'] at h; exact h
end
noncomputable def spM (K:PySem.W.Frag)(F:List D->R D)(n:Nat):Sp:=fun vs H Q E=>vs.length=n/\∃ ds L,Reps K H ds vs L/\post K E (fun _=>False) .fresh H Q (F ds)
noncomputable def zw (n:Nat)(t:Tn->R Fl)(ds:List D):R D:=match t (ds.map some++List.replicate (n-ds.length) none) with
 | .ok (.rt d)=>.ok d
 | .ok (.nx _)=>.ok .non
 | .err c=>.err c
 | _=>.bad
noncomputable def vJ (n m:Nat):List Cl:=List.replicate m .shr++List.replicate (n-m) .dead
theorem Reps.slot {K:PySem.W.Frag}{H:Hp}{ds:List D}{vs:List V}{L:List Addr}(r:Reps K H ds vs L):∃ Ls:Nat->List Addr,∀ (i:Nat) (d:D),ds[i]?=some d->∃ v,vs[i]?=some v/\Rep K H d v (Ls i):=by
 have:∀ i:Nat,∃ L1:List Addr,∀ d,ds[i]?=some d->∃ v,vs[i]?=some v/\Rep K H d v L1:=fun i=>by
  cases h:ds[i]? with
  | none=>exact ⟨[],fun d z=>by cases z⟩
  | some d =>
   obtain ⟨v,L1,e1,r1,_⟩:=r.get h
   exact ⟨L1,fun d' z=>by cases z; exact ⟨v,e1,r1⟩⟩
 exact ⟨fun i=>Classical.choose (this i),fun i=>Classical.choose_spec (this i)⟩
theorem SOk.start {K:PySem.W.Frag}{H:Hp}{N:List Str}{ds:List D}{vs:List V}{L:List Addr}(r:Reps K H ds vs L)(hn:vs.length<=N.length):SOk K (vJ N.length vs.length) H H (L2.start N vs) (ds.map some++List.replicate (N.length-ds.length) none) []:=by
 have hl:=r.length
 have lp:(vJ N.length vs.length).length=N.length:=by unfold vJ; rw [List.length_append,List.length_replicate,List.length_replicate]; lia
 obtain ⟨Ls,hL⟩:=r.slot
 have cls:∀ i c,(vJ N.length vs.length)[i]?=some c->c≠.dead->i<vs.length/\c=.shr:=fun i c e hc=>by
  unfold vJ at e
  by_cases hi:i<vs.length
  ·rw [List.getElem?_append_left (by simpa using hi),List.getElem?_replicate,if_pos hi] at e
   exact ⟨hi,(Option.some.inj e).symm⟩
  ·rw [List.getElem?_append_right (by simp; lia),List.getElem?_replicate] at e
   split at e
   ·exact absurd (Option.some.inj e).symm hc
   ·cases e
 have no:∀ i:Nat,(vJ N.length vs.length)[i]?≠some Cl.own:=fun i e=>by
  have:=(cls i _ e (by simp)).2
  cases this
 refine ⟨Same.refl H,?_,?_,Ls,fun i c e hc=>?_,fun i e=>absurd e (no i),fun i j c _ e=>absurd e (no i),List.nodup_nil,fun a ha=>(nomatch ha),fun i c e hc a ha hm=>(nomatch hm)⟩
 ·unfold L2.start; rw [lp,List.length_append,List.length_map,List.length_replicate]; lia
 ·rw [lp,List.length_append,List.length_map,List.length_replicate]; lia
 ·obtain ⟨hi,_⟩:=cls i c e hc
  have hi':i<ds.length:=by lia
  obtain ⟨v,e1,r1⟩:=hL i ds[i] (by simp [hi'])
  refine ⟨v,ds[i],?_,?_,r1⟩
  ·unfold L2.start
   rw [List.getElem?_append_left (by simpa using hi),List.getElem?_map,e1]; rfl
  ·rw [List.getElem?_append_left (by simpa using hi'),List.getElem?_map]; simp [hi']
section
variable {P:Program}{w:World}{K:PySem.W.Frag}{mg:Str->Option Value}{base:Heap}{x:Str}{st:Stmt}{N ps:List Str}{k:Nat}{t:Tn->R Fl}{Γ':List Cl}
theorem DefIn.mir (Df:DefIn K mg x st ps)(S:FnScope N ps (defScope st))(hn:ps.length<=N.length)
  (hbody:∀ (f:Addr) (cdv:Value) (A:Around) (outer:List Env) (s:Shared) (H:Hp) (E:XK),Room k (A.deeper (envOfC x (defScope st) s.heap.objs.size f cdv)) ->
   MSs (yX (cxx P w) P w K mg base N x (defScope st) f cdv A outer s H E) E [] (vJ N.length ps.length) (defBody st) t Γ'):Own P w K mg base x (k+1) ps (spM K (zw N.length t) ps.length):=by
 refine Df.own S (fun vs H Q E h=>h.1) fun f cdv A outer s H vs Q E hr h=>?_
 obtain ⟨hl,ds,L,r,h⟩:=h
 obtain ⟨ts,p,q⟩:=hbody f cdv A outer s H E hr
 refine ⟨ts,p,q H (start N vs) H _ _ (hl▸SOk.start r (by lia)) ?_⟩
 unfold zw at h
 cases ht:t (ds.map some++List.replicate (N.length-ds.length) none) with
 | ok f =>
  rw [ht] at h
  cases f with
  | nx τ'=>exact fun σ' H' ok'=>h .non H' [] ok'.ext ⟨rfl,rfl⟩ RcOk.nil
  | rt d=>exact fun v H' L s r n1 n2=>h v H' L s r ⟨n1,n2⟩
  | bk τ'=>exact h.elim
  | ct τ'=>exact h.elim
 | err n=>rw [ht] at h; exact fun C H' e s=>h C H' e s
 | bad=>rw [ht] at h; exact h.elim
end
section
variable {X:Cx}{E:XK}{Γ Γ' Γl:List Cl}{x:Str}{k:Nat}{ps:List Str}{F:List D->R D}{e:Expr}{es:List Expr}{u:Tn->R (List D)}{c:Rc}{p pos:Pos}{n:Nat}
theorem zr (O:Own X.prog X.w X.K X.mg X.base x k ps (spM X.K F n))(hr:Room k X.A)(hg:Gl X x)(hx:uo (cxx X.prog X.w) X E)(ha:MA X E Γ (e::es) u c)(hl:autoParam ((e::es).length=n) L2.au3._auto_1)(hdb:autoParam ((x==("__debug__":Str))=false) L2.au1._auto_1)
  (he:autoParam (starEach (e::es) X.env=(false,eval e X.env)::starEach es X.env) L2.au3._auto_1) (hpl:autoParam ((backTo pos (starEach es X.env)).any (·.1)=false) L2.au3._auto_1):ME X E Γ (.Call (.Name x p) (e::es) [] pos) (eL F u) .fresh:=by
 obtain ⟨hlen,ta,pa,q⟩:=ha
 refine ⟨_,VY O hr hg hx pa hdb he hpl,fun O' σ H τ Q ok h=>q O' σ H τ _ ok ?_⟩
 unfold eL at h
 cases hu:u τ with
 | ok ds =>
  rw [hu,R.ok_bind] at h
  refine fun vs H1 L s1 r1 _=>?_
  have hv:(vs++[]).length=n:=by rw [List.append_nil,r1.length,hlen τ ds hu]; exact hl
  refine ⟨hv,ds,L,by rw [List.append_nil]; exact r1,?_⟩
  have h1:=h.same s1
  cases hF:F ds with
  | ok d=>rw [hF] at h1; exact h1
  | err n=>rw [hF] at h1; exact h1
  | bad=>rw [hF] at h1; exact h1
 | err n=>rw [hu] at h; exact h
 | bad=>rw [hu] at h; exact h
end
open PySem PySem.Spec PyProof.Rows
noncomputable def D.isS:D->Bool
 | .non=>true
 | .bl _=>true
 | .int _=>true
 | .str _=>true
 | _=>false
noncomputable def eqS:D->D->Bool
 | .non,.non=>true
 | .bl a,.bl b=>a==b
 | .bl a,.int b=>(if a then 1 else 0)==b
 | .int a,.bl b=>a==(if b then 1 else 0)
 | .int a,.int b=>a==b
 | .str a,.str b=>a==b
 | _,_=>false
noncomputable def yF (f:D->D->Option Bool):List D->List D->Option Bool
 | x::xs,y::ys=>match f x y,yF f xs ys with
  | some a,some b=>some (a&&b)
  | _,_=>none
 | _,_=>some true
theorem qw {b:Bool}(h:(none:Option Bool)=some b):False:=by cases h
noncomputable def eqF:Nat->D->D->Option Bool
 | 0,x,y=>if (x.isS&&y.isS)=true then some (eqS x y) else none
 | n+1,x,y=>match x,y with
  | .lst xs,.lst ys=>if xs.length=ys.length then yF (eqF n) xs ys else some false
  | .tup xs,.tup ys=>(yF (eqF n) xs ys).map fun b=>b&&xs.length==ys.length
  | .frl xs,.lst ys=>if xs.length=ys.length then yF (eqF n) xs ys else some false
  | .frl xs,.frl ys=>if xs.length=ys.length then yF (eqF n) xs ys else some false
  | .lst _,.tup _=>some false
  | .tup _,.lst _=>some false
  | .lst _,y=>if y.isS=true then some false else none
  | .tup _,y=>if y.isS=true then some false else none
  | x,.lst _=>if x.isS=true then some false else none
  | x,.tup _=>if x.isS=true then some false else none
  | x,y=>if (x.isS&&y.isS)=true then some (eqS x y) else none
theorem Ws {K:PySem.W.Frag}{H:Hp}{d:D}{v:V}{L:List Addr}{u:Value}(h:d.isS=true)(r:Rep K H d v L)(q:RelV v u) :
  (d=.non/\u=.none)\/(∃ b,d=.bl b/\u=.bool b)\/(∃ i t,d=.int i/\u=.int i t)\/∃ x t,d=.str x/\u=.str x t:=by
 cases d with
 | non=>obtain ⟨rfl,_⟩:=r; exact .inl ⟨rfl,q⟩
 | bl b=>obtain ⟨rfl,_⟩:=r; exact .inr (.inl ⟨b,rfl,q⟩)
 | int i=>obtain ⟨rfl,_⟩:=r; obtain ⟨t,e⟩:=q; exact .inr (.inr (.inl ⟨i,t,rfl,e⟩))
 | str x=>obtain ⟨rfl,_⟩:=r; obtain ⟨t,e⟩:=q; exact .inr (.inr (.inr ⟨x,t,rfl,e⟩))
 | _=>cases h
open SeqAt in
theorem Zu {A:Around}{s:Shared}{K:PySem.W.Frag}{H:Hp}{d1 d2:D}{v1 v2:V}{L1 L2:List Addr}{u1 u2:Value}(h1:d1.isS=true)(h2:d2.isS=true)(r1:Rep K H d1 v1 L1)(r2:Rep K H d2 v2 L2)(q1:RelV v1 u1)(q2:RelV v2 u2) :
  RcAt A s u1 u2 (eqS d1 d2)/\EqAt A s u1 u2 (eqS d1 d2)/\RcNeAt A s u1 u2 (!eqS d1 d2):=by
 rcases Ws h1 r1 q1 with ⟨rfl,rfl⟩ | ⟨a,rfl,rfl⟩ | ⟨a,t,rfl,rfl⟩ | ⟨a,t,rfl,rfl⟩ <;>
 rcases Ws h2 r2 q2 with ⟨rfl,rfl⟩ | ⟨b,rfl,rfl⟩ | ⟨b,t',rfl,rfl⟩ | ⟨b,t',rfl,rfl⟩
 ·exact ⟨RcAt.none_none,EqAt.same _,RcNeAt.none_none⟩
 ·exact ⟨RcAt.none_bool b,EqAt.none_bool b,RcNeAt.none_bool b⟩
 ·exact ⟨RcAt.none_int b _,EqAt.none_int b _,RcNeAt.none_int b _⟩
 ·exact ⟨RcAt.none_str b _,EqAt.none_str b _,RcNeAt.none_str b _⟩
 ·exact ⟨RcAt.bool_none a,EqAt.bool_none a,RcNeAt.bool_none a⟩
 ·exact ⟨RcAt.bool_bool a b,EqAt.bool_bool a b,RcNeAt.bool_bool a b⟩
 ·exact ⟨RcAt.bool_int a b _,EqAt.bool_int a b _,RcNeAt.bool_int a b _⟩
 ·exact ⟨RcAt.bool_str a b _,EqAt.bool_str a b _,RcNeAt.bool_str a b _⟩
 ·exact ⟨RcAt.int_none a _,EqAt.int_none a _,RcNeAt.int_none a _⟩
 ·exact ⟨RcAt.int_bool a _ b,EqAt.int_bool a _ b,RcNeAt.int_bool a _ b⟩
 ·exact ⟨RcAt.int_int a _ b _,EqAt.int_int a _ b _,RcNeAt.int_int a _ b _⟩
 ·exact ⟨RcAt.int_str a _ b _,EqAt.int_str a _ b _,RcNeAt.int_str a _ b _⟩
 ·exact ⟨RcAt.str_none a _,EqAt.str_none a _,RcNeAt.str_none a _⟩
 ·exact ⟨RcAt.str_bool a _ b,EqAt.str_bool a _ b,RcNeAt.str_bool a _ b⟩
 ·exact ⟨RcAt.str_int a _ b _,EqAt.str_int a _ b _,RcNeAt.str_int a _ b _⟩
 ·exact ⟨RcAt.str_str a _ b _,EqAt.str_str a _ b _,RcNeAt.str_str a _ b _⟩
open SeqAt in
theorem Yh {A:Around}{s:Shared}{K:PySem.W.Frag}{H:Hp}{d:D}{v:V}{L:List Addr}{u:Value}{l:Addr}{items:Array Value}(hd:d.isS=true)(r:Rep K H d v L)(q:RelV v u)(hl:s.heap.IsList l items)(hu:A.units<cLine) :
  (RcAt A s (.ref l) u false/\EqAt A s (.ref l) u false/\RcNeAt A s (.ref l) u true)/\RcAt A s u (.ref l) false/\EqAt A s u (.ref l) false/\RcNeAt A s u (.ref l) true:=by
 rcases Ws hd r q with ⟨rfl,rfl⟩ | ⟨b,rfl,rfl⟩ | ⟨b,t',rfl,rfl⟩ | ⟨b,t',rfl,rfl⟩
 ·exact ⟨⟨RcAt.list_none hl hu,EqAt.list_none hl hu,RcNeAt.list_none hl hu⟩,RcAt.none_list hl hu,EqAt.none_list hl hu,RcNeAt.none_list hl hu⟩
 ·exact ⟨⟨RcAt.list_bool b hl hu,EqAt.list_bool b hl hu,RcNeAt.list_bool b hl hu⟩,RcAt.bool_list b hl hu,EqAt.bool_list b hl hu,RcNeAt.bool_list b hl hu⟩
 ·exact ⟨⟨RcAt.list_int b _ hl hu,EqAt.list_int b _ hl hu,RcNeAt.list_int b _ hl hu⟩,RcAt.int_list b _ hl hu,EqAt.int_list b _ hl hu,RcNeAt.int_list b _ hl hu⟩
 ·exact ⟨⟨RcAt.list_str b _ hl hu,EqAt.list_str b _ hl hu,RcNeAt.list_str b _ hl hu⟩,RcAt.str_list b _ hl hu,EqAt.str_list b _ hl hu,RcNeAt.str_list b _ hl hu⟩
open SeqAt in
theorem ZT {A:Around}{s:Shared}{K:PySem.W.Frag}{H:Hp}{d:D}{v:V}{L:List Addr}{u:Value}{l:Addr}{items:Array Value}(hd:d.isS=true)(r:Rep K H d v L)(q:RelV v u)(hl:s.heap.IsTuple l items)(hu:A.units<cLine) :
  (RcAt A s (.ref l) u false/\EqAt A s (.ref l) u false/\RcNeAt A s (.ref l) u true)/\RcAt A s u (.ref l) false/\EqAt A s u (.ref l) false/\RcNeAt A s u (.ref l) true:=by
 rcases Ws hd r q with ⟨rfl,rfl⟩ | ⟨b,rfl,rfl⟩ | ⟨b,t',rfl,rfl⟩ | ⟨b,t',rfl,rfl⟩
 ·exact ⟨⟨RcAt.tuple_none hl hu,EqAt.tuple_none hl hu,RcNeAt.tuple_none hl hu⟩,RcAt.none_tuple hl hu,EqAt.none_tuple hl hu,RcNeAt.none_tuple hl hu⟩
 ·exact ⟨⟨RcAt.tuple_bool b hl hu,EqAt.tuple_bool b hl hu,RcNeAt.tuple_bool b hl hu⟩,RcAt.bool_tuple b hl hu,EqAt.bool_tuple b hl hu,RcNeAt.bool_tuple b hl hu⟩
 ·exact ⟨⟨RcAt.tuple_int b _ hl hu,EqAt.tuple_int b _ hl hu,RcNeAt.tuple_int b _ hl hu⟩,RcAt.int_tuple b _ hl hu,EqAt.int_tuple b _ hl hu,RcNeAt.int_tuple b _ hl hu⟩
 ·exact ⟨⟨RcAt.tuple_str b _ hl hu,EqAt.tuple_str b _ hl hu,RcNeAt.tuple_str b _ hl hu⟩,RcAt.str_tuple b _ hl hu,EqAt.str_tuple b _ hl hu,RcNeAt.str_tuple b _ hl hu⟩
noncomputable def vU (f:D->D->Option Bool)(xs ys:List D)(j:Nat):Bool:=match xs[j]?,ys[j]? with
 | some x,some y=>(f x y).getD false
 | _,_=>true
theorem qx {f:D->D->Option Bool}:∀ {xs ys:List D} {b:Bool},yF f xs ys=some b->b=(List.range (min xs.length ys.length)).all (vU f xs ys)/\∀ j x y,xs[j]?=some x->ys[j]?=some y->f x y=some (vU f xs ys j)
 | [],ys,b,h=>by
  unfold yF at h
  cases h
  exact ⟨by simp,fun j x y e=>by simp at e⟩
 | x::xs,[],b,h=>by
  unfold yF at h
  cases h
  exact ⟨by simp,fun j x y e e'=>by simp at e'⟩
 | x::xs,y::ys,b,h=>by
  unfold yF at h
  cases h1:f x y with
  | none=>rw [h1] at h; cases h
  | some a =>
   cases h2:yF f xs ys with
   | none=>rw [h1,h2] at h; cases h
   | some b' =>
    rw [h1,h2] at h
    cases h
    obtain ⟨e1,e2⟩:=qx h2
    have z0:vU f (x::xs) (y::ys) 0=a:=by simp [vU,h1]
    have zs:∀ j,vU f (x::xs) (y::ys) (j+1)=vU f xs ys j:=fun j=>by simp [vU]
    refine ⟨?_,fun j x' y' ex ey=>?_⟩
    ·have hm:min (x::xs).length (y::ys).length=min xs.length ys.length+1:=by simp [Nat.succ_min_succ]
     rw [hm,List.range_succ_eq_map,List.all_cons,List.all_map,z0,e1]
     congr 1
    ·cases j with
     | zero=>simp at ex ey; subst ex ey; rw [z0]; exact h1
     | succ j=>rw [zs]; exact e2 j x' y' (by simpa using ex) (by simpa using ey)
section
variable {X:Cx}{pins:List (Addr×Obj)}{σ:St}{H:Hp}{s:Shared}
noncomputable def D.ofV:V->D
 | .bl b=>.bl b
 | .int i=>.int i
 | .str x=>.str x
 | _=>.non
theorem Rep.ofV {K:PySem.W.Frag}{H:Hp}{d:D}{v:V}{L:List Addr}(h:∀ a,v≠.ref a)(r:Rep K H d v L):d=D.ofV v:=by
 cases d with
 | non=>rw [r.1]; rfl
 | bl=>rw [r.1]; rfl
 | int=>rw [r.1]; rfl
 | str=>rw [r.1]; rfl
 | tup=>obtain ⟨a,_,e,_⟩:=r; exact absurd e (h a)
 | lst=>obtain ⟨a,_,_,e,_⟩:=r; exact absurd e (h a)
 | dic=>obtain ⟨a,_,_,e,_⟩:=r; exact absurd e (h a)
 | frl=>obtain ⟨a,_,e,_⟩:=r; exact absurd e (h a)
theorem Rep.oneS {K:PySem.W.Frag}{H:Hp}{d d':D}{u v:V}{L L':List Addr}(e:v=u)(hs:∀ a,u≠.ref a)(r:Rep K H d v L)(r':Rep K H d' v L'):d=d':=by
 subst e
 exact (r.ofV hs).trans (r'.ofV hs).symm
theorem Rep.noS {K:PySem.W.Frag}{H:Hp}{d:D}{a:Addr}{L:List Addr}(r:Rep K H d (.ref a) L)(h:d.isS=true):False:=by
 cases d with
 | non=>cases r.1
 | bl=>cases r.1
 | int=>cases r.1
 | str=>cases r.1
 | _=>cases h
theorem We {a:Addr}{vs:List V}{o:HO}(I:Inv X pins σ H s)(h:SqT X.K H a vs)(h':H a=some o)(n1:∀ xs,o≠.tup xs)(n2:∀ p xs,o≠.frz p (.tup xs)):False:=by
 rcases h with (z | ⟨p,z⟩) | ⟨o',its,n,hk,hc,_⟩
 ·rw [z] at h'; exact n1 _ (Option.some.inj h').symm
 ·rw [z] at h'; exact n2 _ _ (Option.some.inj h').symm
 ·have:=(I.bs a o' (I.mod.kin a o' hk)).2
  rw [this] at h'; cases h'
theorem Wo {a:Addr}{vs:List V}{o:HO}(I:Inv X pins σ H s)(h:SqF X.K H a vs)(h':H a=some o)(n2:∀ p xs,o≠.frz p (.lst xs)):False:=by
 rcases h with ⟨p,z⟩ | ⟨o',its,n,hk,hc,_⟩
 ·rw [z] at h'; exact n2 _ _ (Option.some.inj h').symm
 ·have:=(I.bs a o' (I.mod.kin a o' hk)).2
  rw [this] at h'; cases h'
theorem KP {a:Addr}{vs ws:List V}(I:Inv X pins σ H s)(h':SqT X.K H a ws)(h:SqF X.K H a vs):False:=by
 obtain ⟨its,_,⟨o1,n1,e1,c1,_⟩,_⟩:=I.list h.sq
 obtain ⟨its2,_,⟨o2,e2,c2,_⟩,_⟩:=I.tuple h'
 rw [e1] at e2
 cases e2
 rw [c1] at c2
 exact absurd c2 (by simp)
theorem Kt {a:Addr}{xs:List V}{kvs:List (Key×V)}{H:Hp}(h:H a=some (.lst xs))(h':H a=some (.dK kvs)):False:=by
 rw [h] at h'; cases h'
mutual
theorem Rep.one (I:Inv X pins σ H s):∀ (d d':D) (v:V) (L L':List Addr),Rep X.K H d v L->Rep X.K H d' v L'->d=d'
 | .non,_,_,_,_,r,r'=>Rep.oneS r.1 (fun _ z=>V.noConfusion z) r r'
 | .bl _,_,_,_,_,r,r'=>Rep.oneS r.1 (fun _ z=>V.noConfusion z) r r'
 | .int _,_,_,_,_,r,r'=>Rep.oneS r.1 (fun _ z=>V.noConfusion z) r r'
 | .str _,_,_,_,_,r,r'=>Rep.oneS r.1 (fun _ z=>V.noConfusion z) r r'
 | .tup ds,d',_,L,L',hq5,r=>by
  obtain ⟨a,vs,e,h,rs⟩:=hq5
  subst e
  cases d' with
  | non=>exact (Rep.noS r rfl).elim
  | bl _=>exact (Rep.noS r rfl).elim
  | int _=>exact (Rep.noS r rfl).elim
  | str _=>exact (Rep.noS r rfl).elim
  | tup ds' =>
   obtain ⟨a',vs',e,h',rs'⟩:=r
   cases e
   cases I.tuple_inj h h'
   rw [Reps.one I ds ds' vs L L' rs rs']
  | lst _ =>
   obtain ⟨_,_,_,e,h',_⟩:=r
   cases e
   exact (We I h h' (fun _ z=>HO.noConfusion z) fun _ _ z=>HO.noConfusion z).elim
  | dic _ _ =>
   obtain ⟨_,_,_,e,h',_⟩:=r
   cases e
   exact (We I h h' (fun _ z=>HO.noConfusion z) fun _ _ z=>HO.noConfusion z).elim
  | frl _ =>
   obtain ⟨_,_,e,h',_⟩:=r
   cases e
   exact (KP I h h').elim
 | .lst ds,d',_,L,L',hq5,r=>by
  obtain ⟨a,vs,L1,e,h,_,rs⟩:=hq5
  subst e
  cases d' with
  | non=>exact (Rep.noS r rfl).elim
  | bl _=>exact (Rep.noS r rfl).elim
  | int _=>exact (Rep.noS r rfl).elim
  | str _=>exact (Rep.noS r rfl).elim
  | tup ds' =>
   obtain ⟨a',vs',e,h',rs'⟩:=r
   cases e
   exact (We I h' h (fun _ z=>HO.noConfusion z) fun _ _ z=>HO.noConfusion z).elim
  | lst ds' =>
   obtain ⟨_,_,_,e,h',_,rs'⟩:=r
   cases e
   rw [h] at h'
   cases h'
   rw [Reps.one I ds ds' vs _ _ rs rs']
  | dic _ _ =>
   obtain ⟨_,_,_,e,h',_⟩:=r
   cases e
   exact (Kt h h').elim
  | frl _ =>
   obtain ⟨_,_,e,h',_⟩:=r
   cases e
   exact (Wo I h' h fun _ _ z=>HO.noConfusion z).elim
 | .dic ks ds,d',_,L,L',hq5,r=>by
  obtain ⟨a,kvs,L1,e,h,_,hk,_,rs⟩:=hq5
  subst e
  cases d' with
  | non=>exact (Rep.noS r rfl).elim
  | bl _=>exact (Rep.noS r rfl).elim
  | int _=>exact (Rep.noS r rfl).elim
  | str _=>exact (Rep.noS r rfl).elim
  | tup ds' =>
   obtain ⟨a',vs',e,h',rs'⟩:=r
   cases e
   exact (We I h' h (fun _ z=>HO.noConfusion z) fun _ _ z=>HO.noConfusion z).elim
  | lst ds' =>
   obtain ⟨_,_,_,e,h',_,rs'⟩:=r
   cases e
   exact (Kt h' h).elim
  | dic ks' ds' =>
   obtain ⟨_,_,_,e,h',_,hk',_,rs'⟩:=r
   cases e
   rw [h] at h'
   cases h'
   rw [<- hk,<- hk',Reps.one I ds ds' _ _ _ rs rs']
  | frl _ =>
   obtain ⟨_,_,e,h',_⟩:=r
   cases e
   exact (Wo I h' h fun _ _ z=>HO.noConfusion z).elim
 | .frl ds,d',_,L,L',hq5,r=>by
  obtain ⟨a,vs,e,h,_,_,rs⟩:=hq5
  subst e
  cases d' with
  | non=>exact (Rep.noS r rfl).elim
  | bl _=>exact (Rep.noS r rfl).elim
  | int _=>exact (Rep.noS r rfl).elim
  | str _=>exact (Rep.noS r rfl).elim
  | tup ds' =>
   obtain ⟨a',vs',e,h',rs'⟩:=r
   cases e
   exact (KP I h' h).elim
  | lst ds' =>
   obtain ⟨_,_,_,e,h',_,rs'⟩:=r
   cases e
   exact (Wo I h h' fun _ _ z=>HO.noConfusion z).elim
  | dic ks' ds' =>
   obtain ⟨_,_,_,e,h',_,hk',_,rs'⟩:=r
   cases e
   exact (Wo I h h' fun _ _ z=>HO.noConfusion z).elim
  | frl ds' =>
   obtain ⟨_,_,e,h',_,_,rs'⟩:=r
   cases e
   have:=I.list_inj h.sq h'.sq
   subst this
   rw [Reps.one I ds ds' vs _ _ rs rs']
theorem Reps.one (I:Inv X pins σ H s):∀ (ds ds':List D) (vs:List V) (L L':List Addr),Reps X.K H ds vs L->Reps X.K H ds' vs L'->ds=ds'
 | [],ds',_,_,_,hq5,r=>by
  obtain ⟨e,_⟩:=hq5
  subst e
  cases ds' with
  | nil=>rfl
  | cons _ _=>obtain ⟨_,_,_,_,e,_⟩:=r; cases e
 | d::ds,ds',_,_,_,hq5,r=>by
  obtain ⟨v,vs',L1,L2,e1,_,h1,h2⟩:=hq5
  subst e1
  cases ds' with
  | nil=>obtain ⟨e,_⟩:=r; cases e
  | cons d' ds' =>
   obtain ⟨v',vs2,L3,L4,e,_,r1,r2⟩:=r
   cases e
   rw [Rep.one I d d' v _ _ h1 r1,Reps.one I ds ds' vs' _ _ h2 r2]
end
end
theorem Q7:∀ (d:D),d.isS=true->eqS d d=true
 | .non,_=>rfl
 | .bl b,_=>beq_self_eq_true b
 | .int b,_=>beq_self_eq_true b
 | .str b,_=>beq_self_eq_true b
 | .tup _,h=>nomatch h
 | .lst _,h=>nomatch h
 | .dic _ _,h=>nomatch h
 | .frl _,h=>nomatch h
theorem VC:∀ (n:Nat) (d:D) (b:Bool),eqF n d d=some b->b=true:=by
 intro n
 induction n with
 | zero =>
  intro d b h
  replace h:(if (d.isS&&d.isS)=true then some (eqS d d) else none)=some b:=h
  split at h
  ·rename_i hs
   simp only [Bool.and_self] at hs
   rw [Q7 d hs] at h
   exact (Option.some.inj h).symm
  ·cases h
 | succ n ih =>
  have zip:∀ (xs:List D) (b:Bool),yF (eqF n) xs xs=some b->b=true:=by
   intro xs
   induction xs with
   | nil=>intro b h; unfold yF at h; exact (Option.some.inj h).symm
   | cons x xs ihx =>
    intro b h
    unfold yF at h
    cases h1:eqF n x x with
    | none=>rw [h1] at h; cases h
    | some a =>
     cases h2:yF (eqF n) xs xs with
     | none=>rw [h1,h2] at h; cases h
     | some b' =>
      rw [h1,h2] at h
      cases h
      rw [ih x a h1,ihx b' h2]; rfl
  intro d b h
  cases d with
  | lst xs =>
   have h:(if xs.length=xs.length then yF (eqF n) xs xs else some false)=some b:=h
   rw [if_pos rfl] at h
   exact zip xs b h
  | tup xs =>
   have h:(yF (eqF n) xs xs).map (fun b=>b&&xs.length==xs.length)=some b:=h
   cases h1:yF (eqF n) xs xs with
   | none=>rw [h1] at h; cases h
   | some b'=>rw [h1] at h; rw [zip xs b' h1] at h; simp at h; exact h.symm▸rfl
  | non=>have h:some true=some b:=h; exact (Option.some.inj h).symm
  | bl x=>have h:some (x==x)=some b:=h; exact (Option.some.inj h).symm.trans (beq_self_eq_true x)
  | int x=>have h:some (x==x)=some b:=h; exact (Option.some.inj h).symm.trans (beq_self_eq_true x)
  | str x=>have h:some (x==x)=some b:=h; exact (Option.some.inj h).symm.trans (beq_self_eq_true x)
  | dic _ _=>cases h
  | frl xs =>
   have h:(if xs.length=xs.length then yF (eqF n) xs xs else some false)=some b:=h
   rw [if_pos rfl] at h
   exact zip xs b h
open SeqAt in
theorem jr {A:Around}{s:Shared}{a a':Addr}{b:Bool}(h:RcAt A s (.ref a) (.ref a') b)(hs:a=a'->b=true):EqAt A s (.ref a) (.ref a') b:=by
 by_cases z:a=a'
 ·subst z
  rw [hs rfl]
  exact EqAt.same _
 ·exact EqAt.of_refs z h
open SeqAt in
theorem jF {X:Cx}{pins:List (Addr×Obj)}{σ:St}{H:Hp}{s:Shared}(I:Inv X pins σ H s){n:Nat}{A:Around}(hu0:A.units<cLine)
  (ih:∀ (d1 d2:D) (v1 v2:V) (L1 L2:List Addr) (u1 u2:Value) (b:Bool),eqF n d1 d2=some b->Rep X.K H d1 v1 L1->Rep X.K H d2 v2 L2->RelV v1 u1->RelV v2 u2->EqAt A.in1 s u1 u2 b)
  {a a2:Addr} {vs vs2:List V} {xs ys:List D} {L L2:List Addr} {b:Bool} (ha:SqL X.K H a vs) (rs:Reps X.K H xs vs L) (ha2:SqL X.K H a2 vs2) (rs2:Reps X.K H ys vs2 L2)
  (h:(if xs.length=ys.length then yF (eqF n) xs ys else some false)=some b) (same:a=a2->b=true):RcAt A s (.ref a) (.ref a2) b/\EqAt A s (.ref a) (.ref a2) b/\RcNeAt A s (.ref a) (.ref a2) (!b):=by
 obtain ⟨its,rv,pl,_⟩:=I.list ha
 obtain ⟨its2,rv2,pl2,_⟩:=I.list ha2
 have l1:its.length=xs.length:=by rw [<- rv.length,rs.length]
 have l2:its2.length=ys.length:=by rw [<- rv2.length,rs2.length]
 by_cases hl:xs.length=ys.length
 ·rw [if_pos hl] at h
  obtain ⟨e1,e2⟩:=qx h
  have he:∀ j (h1:j<its.toArray.size) (h2:j<its2.toArray.size),EqAt A.in1 s its.toArray[j] its2.toArray[j] (vU (eqF n) xs ys j):=fun j h1 h2=>by
   have h1':j<xs.length:=by simpa [l1] using h1
   have h2':j<ys.length:=by simpa [l2] using h2
   obtain ⟨w1,L3,g1,g2,_⟩:=rs.get (i:=j) (d:=xs[j]) (by simp [h1'])
   obtain ⟨w2,L4,g3,g4,_⟩:=rs2.get (i:=j) (d:=ys[j]) (by simp [h2'])
   obtain ⟨z1,k1,k2⟩:=rv.get g1
   obtain ⟨z2,k3,k4⟩:=rv2.get g3
   have m1:its.toArray[j]=z1:=by
    have:=(List.getElem?_eq_some_iff.mp k1).2
    simpa using this
   have m2:its2.toArray[j]=z2:=by
    have:=(List.getElem?_eq_some_iff.mp k3).2
    simpa using this
   rw [m1,m2]
   exact ih _ _ w1 w2 L3 L4 z1 z2 _ (e2 j _ _ (by simp [h1']) (by simp [h2'])) g2 g4 k2 k4
  have hsz:its.toArray.size=its2.toArray.size:=by simp [l1,l2,hl]
  have eb:b=(List.range its.toArray.size).all (vU (eqF n) xs ys):=by
   rw [e1]
   congr 2
   simp [l1,hl]
  have rc:=RcAt.lists pl.isList pl2.isList hsz hu0 he
  have rn:=RcNeAt.lists pl.isList pl2.isList hsz hu0 he
  rw [<- eb] at rc rn
  exact ⟨rc,jr rc same,rn⟩
 ·rw [if_neg hl] at h
  cases h
  have hsz:(its.toArray.size != its2.toArray.size)=true:=by simp [l1,l2,hl]
  have rc:=RcAt.lists_lengths pl.isList pl2.isList hsz hu0
  exact ⟨rc,jr rc same,RcNeAt.lists_lengths pl.isList pl2.isList hsz hu0⟩
open SeqAt in
theorem Vw {X:Cx}{pins:List (Addr×Obj)}{σ:St}{H:Hp}{s:Shared}(I:Inv X pins σ H s):∀ (n:Nat) (A:Around) (d1 d2:D) (v1 v2:V) (L1 L2:List Addr) (u1 u2:Value) (b:Bool),A.units+n<cLine->eqF n d1 d2=some b ->
  Rep X.K H d1 v1 L1->Rep X.K H d2 v2 L2->RelV v1 u1->RelV v2 u2->RcAt A s u1 u2 b/\EqAt A s u1 u2 b/\RcNeAt A s u1 u2 (!b):=by
 intro n
 induction n with
 | zero =>
  intro A d1 d2 v1 v2 L1 L2 u1 u2 b hu h r1 r2 q1 q2
  have h:(if (d1.isS&&d2.isS)=true then some (eqS d1 d2) else none)=some b:=h
  split at h
  ·rename_i hs
   rw [Bool.and_eq_true] at hs
   cases h
   exact Zu hs.1 hs.2 r1 r2 q1 q2
  ·cases h
 | succ n ih =>
  intro A d1 d2 v1 v2 L1 L2 u1 u2 b hu h r1 r2 q1 q2
  have hu0:A.units<cLine:=by lia
  have hu1:A.in1.units+n<cLine:=by show A.units+1+n<cLine; lia
  have same:∀ a,v1=.ref a->v2=.ref a->b=true:=fun a e1 e2=>by
   subst e1 e2
   have:=Rep.one I d1 d2 _ _ _ r1 r2
   subst this
   exact VC (n+1) d1 b h
  by_cases s1:d1.isS=true
  ·by_cases s2:d2.isS=true
   ·have e:b=eqS d1 d2:=by
     cases d1<;>first | exact absurd s1 Bool.false_ne_true | (cases d2<;>first | exact absurd s2 Bool.false_ne_true | exact (Option.some.inj h).symm)
    subst e
    exact Zu s1 s2 r1 r2 q1 q2
   ·cases d2 with
    | lst ys =>
     have e:b=false:=by cases d1<;>first | exact absurd s1 Bool.false_ne_true | exact (Option.some.inj h).symm
     subst e
     obtain ⟨a,vs,L',e2,ha,_,rs⟩:=r2
     have q2:u2=Value.ref a:=by rw [e2] at q2; exact q2
     rw [q2]
     obtain ⟨its,rv,pl,_⟩:=I.list (SqL.of ha)
     exact (Yh s1 r1 q1 pl.isList hu0).2
    | tup ys =>
     have e:b=false:=by cases d1<;>first | exact absurd s1 Bool.false_ne_true | exact (Option.some.inj h).symm
     subst e
     obtain ⟨a,vs,e2,ha,rs⟩:=r2
     have q2:u2=Value.ref a:=by rw [e2] at q2; exact q2
     rw [q2]
     obtain ⟨its,rv,pl,_⟩:=I.tuple ha
     exact (ZT s1 r1 q1 pl hu0).2
    | dic _ _=>cases d1<;>first | exact absurd s1 Bool.false_ne_true | exact (qw (b:=b) h).elim
    | frl _=>cases d1<;>first | exact absurd s1 Bool.false_ne_true | exact (qw (b:=b) h).elim
    | _=>exact absurd rfl s2
  ·cases d1 with
   | lst xs =>
    obtain ⟨a,vs,L',e1,ha,_,rs⟩:=r1
    have q1:u1=Value.ref a:=by rw [e1] at q1; exact q1
    rw [q1]
    obtain ⟨its,rv,pl,_⟩:=I.list (SqL.of ha)
    cases d2 with
    | lst ys =>
     obtain ⟨a2,vs2,L2',e2,ha2,_,rs2⟩:=r2
     have q2:u2=Value.ref a2:=by rw [e2] at q2; exact q2
     rw [q2]
     exact jF I hu0 (fun d1 d2 v1 v2 L1 L2 u1 u2 b e r1 r2 q1 q2=>(ih A.in1 d1 d2 v1 v2 L1 L2 u1 u2 b hu1 e r1 r2 q1 q2).2.1) (SqL.of ha) rs (SqL.of ha2) rs2 h fun z=>same a e1 (by rw [z]; exact e2)
    | tup ys =>
     obtain ⟨a2,vs2,e2,ha2,rs2⟩:=r2
     have q2:u2=Value.ref a2:=by rw [e2] at q2; exact q2
     rw [q2]
     obtain ⟨its2,rv2,pl2,_⟩:=I.tuple ha2
     cases (Option.some.inj (show some false=some b from h))
     exact ⟨RcAt.list_tuple pl.isList pl2 hu0,EqAt.list_tuple pl.isList pl2 hu0,RcNeAt.list_tuple pl.isList pl2 hu0⟩
    | dic _ _=>exact (qw (b:=b) h).elim
    | frl _=>exact (qw (b:=b) h).elim
    | non=>cases (Option.some.inj (show some false=some b from h)); exact (Yh (d:=.non) rfl r2 q2 pl.isList hu0).1
    | bl x=>cases (Option.some.inj (show some false=some b from h)); exact (Yh (d:=.bl x) rfl r2 q2 pl.isList hu0).1
    | int x=>cases (Option.some.inj (show some false=some b from h)); exact (Yh (d:=.int x) rfl r2 q2 pl.isList hu0).1
    | str x=>cases (Option.some.inj (show some false=some b from h)); exact (Yh (d:=.str x) rfl r2 q2 pl.isList hu0).1
   | tup xs =>
    obtain ⟨a,vs,e1,ha,rs⟩:=r1
    have q1:u1=Value.ref a:=by rw [e1] at q1; exact q1
    rw [q1]
    obtain ⟨its,rv,pl,_⟩:=I.tuple ha
    cases d2 with
    | tup ys =>
     obtain ⟨a2,vs2,e2,ha2,rs2⟩:=r2
     have q2:u2=Value.ref a2:=by rw [e2] at q2; exact q2
     rw [q2]
     obtain ⟨its2,rv2,pl2,_⟩:=I.tuple ha2
     have h:(yF (eqF n) xs ys).map (fun b=>b&&xs.length==ys.length)=some b:=h
     have l1:its.length=xs.length:=by rw [<- rv.length,rs.length]
     have l2:its2.length=ys.length:=by rw [<- rv2.length,rs2.length]
     cases hz:yF (eqF n) xs ys with
     | none=>rw [hz] at h; cases h
     | some b' =>
      rw [hz] at h
      have h:(b'&&xs.length==ys.length)=b:=Option.some.inj h
      have e1':=e1
      have e2':=e2
      obtain ⟨e1,e2⟩:=qx hz
      have he:∀ j (h1:j<its.toArray.size) (h2:j<its2.toArray.size),EqAt A.in1 s its.toArray[j] its2.toArray[j] (vU (eqF n) xs ys j):=fun j h1 h2=>by
       have h1':j<xs.length:=by simpa [l1] using h1
       have h2':j<ys.length:=by simpa [l2] using h2
       obtain ⟨w1,L3,g1,g2,_⟩:=rs.get (i:=j) (d:=xs[j]) (by simp [h1'])
       obtain ⟨w2,L4,g3,g4,_⟩:=rs2.get (i:=j) (d:=ys[j]) (by simp [h2'])
       obtain ⟨z1,k1,k2⟩:=rv.get g1
       obtain ⟨z2,k3,k4⟩:=rv2.get g3
       have m1:its.toArray[j]=z1:=by
        have:=(List.getElem?_eq_some_iff.mp k1).2
        simpa using this
       have m2:its2.toArray[j]=z2:=by
        have:=(List.getElem?_eq_some_iff.mp k3).2
        simpa using this
       rw [m1,m2]
       exact (ih A.in1 _ _ w1 w2 L3 L4 z1 z2 _ hu1 (e2 j _ _ (by simp [h1']) (by simp [h2'])) g2 g4 k2 k4).2.1
      have eb:b=((List.range (min its.toArray.size its2.toArray.size)).all (vU (eqF n) xs ys)&&its.toArray.size==its2.toArray.size):=by
       rw [<- h,e1]
       simp [l1,l2]
      have rc:=RcAt.tuples pl pl2 hu0 he
      have rn:=RcNeAt.tuples pl pl2 hu0 he
      rw [<- eb] at rc rn
      exact ⟨rc,jr rc fun z=>same a e1' (by rw [z]; exact e2'),rn⟩
    | lst ys =>
     obtain ⟨a2,vs2,L2',e2,ha2,_,rs2⟩:=r2
     have q2:u2=Value.ref a2:=by rw [e2] at q2; exact q2
     rw [q2]
     obtain ⟨its2,rv2,pl2,_⟩:=I.list (SqL.of ha2)
     cases (Option.some.inj (show some false=some b from h))
     exact ⟨RcAt.tuple_list pl pl2.isList hu0,EqAt.tuple_list pl pl2.isList hu0,RcNeAt.tuple_list pl pl2.isList hu0⟩
    | dic _ _=>exact (qw (b:=b) h).elim
    | frl _=>exact (qw (b:=b) h).elim
    | non=>cases (Option.some.inj (show some false=some b from h)); exact (ZT (d:=.non) rfl r2 q2 pl hu0).1
    | bl x=>cases (Option.some.inj (show some false=some b from h)); exact (ZT (d:=.bl x) rfl r2 q2 pl hu0).1
    | int x=>cases (Option.some.inj (show some false=some b from h)); exact (ZT (d:=.int x) rfl r2 q2 pl hu0).1
    | str x=>cases (Option.some.inj (show some false=some b from h)); exact (ZT (d:=.str x) rfl r2 q2 pl hu0).1
   | dic _ _=>cases d2<;>exact (qw (b:=b) h).elim
   | frl xs =>
    cases d2 with
    | lst ys =>
     obtain ⟨a,vs,e1,ha,_,_,rs⟩:=r1
     have q1:u1=Value.ref a:=by rw [e1] at q1; exact q1
     rw [q1]
     obtain ⟨a2,vs2,L2',e2,ha2,_,rs2⟩:=r2
     have q2:u2=Value.ref a2:=by rw [e2] at q2; exact q2
     rw [q2]
     exact jF I hu0 (fun d1 d2 v1 v2 L1 L2 u1 u2 b e r1 r2 q1 q2=>(ih A.in1 d1 d2 v1 v2 L1 L2 u1 u2 b hu1 e r1 r2 q1 q2).2.1) ha.sq rs (SqL.of ha2) rs2 h fun z=>same a e1 (by rw [z]; exact e2)
    | tup ys=>exact (qw (b:=b) h).elim
    | dic _ _=>exact (qw (b:=b) h).elim
    | frl ys =>
     obtain ⟨a,vs,e1,ha,_,_,rs⟩:=r1
     have q1:u1=Value.ref a:=by rw [e1] at q1; exact q1
     rw [q1]
     obtain ⟨a2,vs2,e2,ha2,_,_,rs2⟩:=r2
     have q2:u2=Value.ref a2:=by rw [e2] at q2; exact q2
     rw [q2]
     exact jF I hu0 (fun d1 d2 v1 v2 L1 L2 u1 u2 b e r1 r2 q1 q2=>(ih A.in1 d1 d2 v1 v2 L1 L2 u1 u2 b hu1 e r1 r2 q1 q2).2.1) ha.sq rs ha2.sq rs2 h fun z=>same a e1 (by rw [z]; exact e2)
    | non=>exact (qw (b:=b) h).elim
    | bl x=>exact (qw (b:=b) h).elim
    | int x=>exact (qw (b:=b) h).elim
    | str x=>exact (qw (b:=b) h).elim
   | _=>exact absurd rfl s1
open PySem PySem.Spec PyProof.Rows
theorem xt {K:PySem.W.Frag}{H:Hp}{ds:List D}{vs:List V}{L:List Addr}(r:Reps K H ds vs L)(h:D.imms ds=true):Reps K H ds vs []:=by
 have:=Reps.imm ds vs L r h
 subst this
 exact r
theorem uT {K:PySem.W.Frag}{H:Hp}{ds:List D}{vs:List V}{p:Addr}{Q:VK}(r:Reps K H ds vs [])(hp:H p=none)(q:∀ v H' L,Same H H'->Rep K H' (.lst ds) v L->L.Nodup->(∀ a∈L,H a=none)->Q v H'):Q (.ref p) (upd H p (.lst vs)) :=
 q _ _ [p] (Same.new hp) ⟨p,vs,[],rfl,zK,rfl,r.same (Same.new hp)⟩ (by simp) (fun a ha=>by rw [List.mem_singleton.mp ha]; exact hp)
noncomputable def zB:D->D->R D
 | .int i,.int j=>.ok (.int (i+j))
 | .str x,.str y=>if x.length+y.length<=sizeLine then .ok (.str (x++y)) else .bad
 | .lst xs,.lst ys=>if D.imms xs=true/\D.imms ys=true/\xs.length+ys.length<=sizeLine then .ok (.lst (xs++ys)) else .bad
 | .tup xs,.tup ys=>if D.imms xs=true/\D.imms ys=true/\xs≠[]/\xs.length+ys.length<=sizeLine then .ok (.tup (xs++ys)) else .bad
 | _,_=>.bad
noncomputable def Kw (K:PySem.W.Frag):R2:=fun x y H Q=>(∃ i j,x=.int i/\y=.int j/\Q (.int (i+j)) H)\/(∃ i j,x=.str i/\y=.str j/\i.length+j.length<=sizeLine/\Q (.str (i++j)) H)\/z1T x y H Q\/Kz K x y H Q
theorem zz {X:Cx}:OpR X (binaryOp .Add) (Kw X.K):=(OpR.or Q9 (OpR.or Xh (OpR.or z03 JK)))
theorem zU {K:PySem.W.Frag}:OpB K (Kw K) zB:=by
 rintro H x y dx dy Lx Ly Q rx ry ⟨d,hg,q⟩
 unfold zB at hg
 split at hg
 ·cases hg
  exact .inl ⟨_,_,rx.1,ry.1,q _ H [] (Same.refl H) ⟨rfl,rfl⟩ (by simp) (fun a ha=>nomatch ha)⟩
 ·split at hg
  ·rename_i hz
   cases hg
   exact .inr (.inl ⟨_,_,rx.1,ry.1,hz,q _ H [] (Same.refl H) ⟨rfl,rfl⟩ (by simp) (fun a ha=>nomatch ha)⟩)
  ·cases hg
 ·rename_i xs ys
  split at hg
  ·rename_i hz
   cases hg
   obtain ⟨a,vs,L1,rfl,ha,_,rs⟩:=rx
   obtain ⟨b,ws,L2,rfl,hb,_,qs⟩:=ry
   refine .inr (.inr (.inl ⟨a,b,vs,ws,rfl,rfl,ha,hb,by rw [rs.length,qs.length]; exact hz.2.2,fun p hp=>uT (ds:=xs++ys) ?_ hp q⟩))
   exact Reps.append (xt rs hz.1) (xt qs hz.2.1)
  ·cases hg
 ·rename_i xs ys
  split at hg
  ·rename_i hz
   cases hg
   obtain ⟨a,vs,rfl,ha,rs⟩:=rx
   obtain ⟨b,ws,rfl,hb,qs⟩:=ry
   have hne:vs≠[]:=fun z=>hz.2.2.1 (by have:=rs.length; rw [z] at this; exact List.length_eq_zero_iff.mp this.symm)
   have rr:=Reps.append (xt rs hz.1) (xt qs hz.2.1)
   refine .inr (.inr (.inr ⟨a,b,vs,ws,rfl,rfl,ha,hb,hne,by rw [rs.length,qs.length]; exact hz.2.2.2,fun z=>?_,fun _ p hp=>?_⟩))
   ·subst z
    rw [List.append_nil] at rr
    exact q _ H [] (Same.refl H) ⟨a,vs,rfl,ha,rr⟩ (by simp) (fun a ha=>nomatch ha)
   ·exact q _ _ [] (Same.new hp) ⟨p,vs++ws,rfl,SqT.of zK,rr.same (Same.new hp)⟩ (by simp) (fun a ha=>nomatch ha)
  ·cases hg
 ·cases hg
theorem zY:xa zB:=fun x y n h=>by
 unfold zB at h
 split at h
 ·cases h
 ·split at h<;>cases h
 ·split at h<;>cases h
 ·split at h<;>cases h
 ·cases h
noncomputable def intD (C:Int->Int->Bool)(g:Int->Int->D):D->D->R D
 | .int i,.int j=>if C i j=true then .ok (g i j) else .bad
 | _,_=>.bad
theorem zp {C:Int->Int->Bool}{g:Int->Int->D}:xa (intD C g):=fun x y n h=>by
 unfold intD at h
 split at h
 ·split at h<;>cases h
 ·cases h
noncomputable def z0S:D->V
 | .int i=>.int i
 | .bl b=>.bl b
 | .str x=>.str x
 | _=>.non
theorem Yq {K:PySem.W.Frag}{H:Hp}:∀ {d:D},d.isS=true->Rep K H d (z0S d) []
 | .non,_=>⟨rfl,rfl⟩
 | .bl _,_=>⟨rfl,rfl⟩
 | .int _,_=>⟨rfl,rfl⟩
 | .str _,_=>⟨rfl,rfl⟩
 | .tup _,h=>nomatch h
 | .lst _,h=>nomatch h
 | .dic _ _,h=>nomatch h
 | .frl _,h=>nomatch h
theorem Kp {K:PySem.W.Frag}{C:Int->Int->Bool}{g:Int->Int->D}{P:Int->Int->Prop}{gv:Int->Int->V}(hP:∀ i j,C i j=true->P i j)(hs:∀ i j,(g i j).isS=true)(hv:∀ i j,z0S (g i j)=gv i j):OpB K (rI P gv) (intD C g):=by
 rintro H x y dx dy Lx Ly Q rx ry ⟨d,hg,q⟩
 unfold intD at hg
 split at hg
 ·split at hg
  ·rename_i i j hz
   cases hg
   refine ⟨i,j,rx.1,ry.1,hP i j hz,?_⟩
   rw [<- hv]
   exact q _ H [] (Same.refl H) (Yq (hs i j)) (by simp) (fun a ha=>nomatch ha)
  ·cases hg
 ·cases hg
theorem jb {K:PySem.W.Frag}{g:Int->Int->D}{gv:Int->Int->V}(hs:∀ i j,(g i j).isS=true)(hv:∀ i j,z0S (g i j)=gv i j):OpB K (rI0 gv) (intD (fun _ _=>true) g):=by
 rintro H x y dx dy Lx Ly Q rx ry ⟨d,hg,q⟩
 unfold intD at hg
 split at hg
 ·rw [if_pos rfl] at hg
  rename_i i j
  cases hg
  refine ⟨i,j,rx.1,ry.1,?_⟩
  rw [<- hv]
  exact q _ H [] (Same.refl H) (Yq (hs i j)) (by simp) (fun a ha=>nomatch ha)
 ·cases hg
noncomputable abbrev xH:D->D->R D:=intD (fun _ _=>true) fun i j=>.int (i-j)
noncomputable abbrev zt:D->D->R D:=intD (fun _ j=>decide (0<j)&&decide (j<1073741824)) fun i j=>.int (i/j)
noncomputable abbrev zu:D->D->R D:=intD (fun _ j=>decide (0<j)) fun i j=>.int (i%j)
noncomputable abbrev ltD:D->D->R D:=intD (fun _ _=>true) fun i j=>.bl (decide (i<j))
noncomputable abbrev leD:D->D->R D:=intD (fun _ _=>true) fun i j=>.bl (decide (i<=j))
noncomputable abbrev gtD:D->D->R D:=intD (fun _ _=>true) fun i j=>.bl (decide (j<i))
noncomputable abbrev geD:D->D->R D:=intD (fun _ _=>true) fun i j=>.bl (decide (j<=i))
theorem wx {K:PySem.W.Frag}:OpB K (rI0 fun i j=>.int (i-j)) xH:=jb (fun _ _=>rfl) fun _ _=>rfl
theorem ym {K:PySem.W.Frag}:OpB K (rI z2c fun i j=>.int (i/j)) zt:=Kp (fun i j h=>by simp only [Bool.and_eq_true,decide_eq_true_eq] at h; exact h) (fun _ _=>rfl) fun _ _=>rfl
theorem zZ {K:PySem.W.Frag}:OpB K (rI (fun _ j=>0<j) fun i j=>.int (i%j)) zu:=Kp (fun i j h=>by simpa using h) (fun _ _=>rfl) fun _ _=>rfl
theorem qt {K:PySem.W.Frag}:OpB K (rI0 fun i j=>.bl (decide (i<j))) ltD:=jb (fun _ _=>rfl) fun _ _=>rfl
theorem QT {K:PySem.W.Frag}:OpB K (rI0 fun i j=>.bl (decide (i<=j))) leD:=jb (fun _ _=>rfl) fun _ _=>rfl
theorem z2F {K:PySem.W.Frag}:OpB K (rI0 fun i j=>.bl (decide (j<i))) gtD:=jb (fun _ _=>rfl) fun _ _=>rfl
theorem K3 {K:PySem.W.Frag}:OpB K (rI0 fun i j=>.bl (decide (j<=i))) geD:=jb (fun _ _=>rfl) fun _ _=>rfl
noncomputable def wz:D->D->R D
 | .int i,.int j=>if ((decide (-(2 ^ 64)<i)&&decide (i<2 ^ 64))||(decide (-(2 ^ 64)<j)&&decide (j<2 ^ 64)))=true then .ok (.int (i*j)) else .bad
 | .lst xs,.int k=>if D.imms xs=true/\-(2 ^ 63)<=k/\k<2 ^ 63/\xs.length*k.toNat<=sizeLine then .ok (.lst (List.replicate k.toNat xs).flatten) else .bad
 | _,_=>.bad
theorem jg:xa wz:=fun x y n h=>by
 unfold wz at h
 split at h
 ·split at h<;>cases h
 ·split at h<;>cases h
 ·cases h
theorem vi {X:Cx}:OpR X (binaryOp .Mult) (fun x y H Q=>rI CMul (fun i j=>.int (i*j)) x y H Q\/z05 x y H Q):=OpR.or z0q z1c
theorem Reps.rep {K:PySem.W.Frag}{H:Hp}{ds:List D}{vs:List V}(r:Reps K H ds vs []):∀ k:Nat,Reps K H (List.replicate k ds).flatten (List.replicate k vs).flatten []
 | 0=>by simpa using Reps.nil
 | k+1=>by
  rw [List.replicate_succ,List.replicate_succ,List.flatten_cons,List.flatten_cons]
  exact Reps.append r (Reps.rep r k)
theorem jn {K:PySem.W.Frag}:OpB K (fun x y H Q=>rI CMul (fun i j=>.int (i*j)) x y H Q\/z05 x y H Q) wz:=by
 rintro H x y dx dy Lx Ly Q rx ry ⟨d,hg,q⟩
 unfold wz at hg
 split at hg
 ·split at hg
  ·rename_i i j hz
   cases hg
   refine .inl ⟨i,j,rx.1,ry.1,?_,q _ H [] (Same.refl H) ⟨rfl,rfl⟩ (by simp) (fun a ha=>nomatch ha)⟩
   simpa [CMul] using hz
  ·cases hg
 ·split at hg
  ·rename_i xs k hz
   cases hg
   obtain ⟨a,vs,L1,rfl,ha,_,rs⟩:=rx
   exact .inr ⟨a,k,vs,rfl,ry.1,ha,hz.2.1,hz.2.2.1,by rw [rs.length]; exact hz.2.2.2,fun p hp=>uT (Reps.rep (xt rs hz.1) _) hp q⟩
  ·cases hg
 ·cases hg
noncomputable def VD (K:PySem.W.Frag)(neg:Bool):R2:=fun x y H Q=>∃ dx dy Lx Ly b,Rep K H dx x Lx/\Rep K H dy y Ly/\eqF 12 dx dy=some b/\Q (.bl (if neg=true then !b else b)) H
theorem z1b {X:Cx}(hu:X.A.units+12<cLine):OpR X (compareOp .Eq) (VD X.K false):=by
 rintro pins s σ H x y v u Q I rx ry ⟨dx,dy,Lx,Ly,b,r1,r2,he,q⟩
 exact (Vw I 12 X.A dx dy x y Lx Ly v u b hu he r1 r2 rx ry).1 X.prog X.w X.xe _ ⟨.bl b,H,I,rfl,q⟩
theorem z0a {X:Cx}(hu:X.A.units+12<cLine):OpR X (compareOp .NotEq) (VD X.K true):=by
 rintro pins s σ H x y v u Q I rx ry ⟨dx,dy,Lx,Ly,b,r1,r2,he,q⟩
 exact (Vw I 12 X.A dx dy x y Lx Ly v u b hu he r1 r2 rx ry).2.2 X.prog X.w X.xe _ ⟨.bl (!b),H,I,rfl,q⟩
noncomputable def xG:List Key->List D->Key->Option D
 | k::ks,d::ds,j=>if k=j then some d else xG ks ds j
 | _,_,_=>none
noncomputable def hitsD (js:List Key)(ys:List D):List Key->List D->Option Bool
 | k::ks,x::xs=>match xG js ys k with
  | none=>some false
  | some y=>if (x.isS&&y.isS)=true then (hitsD js ys ks xs).map (eqS x y&&·) else none
 | _,_=>some true
theorem qi {K:PySem.W.Frag}{H:Hp}:∀ {kvs:List (Key×V)} {ds:List D} {L:List Addr} {k:Key} {d:D},Reps K H ds (kvs.map (·.2)) L->xG (kvs.map (·.1)) ds k=some d->∃ v L1,uO kvs k=some v/\Rep K H d v L1/\List.Sublist L1 L
 | [],ds,_,k,d,r,h=>by cases ds<;>cases h
 | p::kvs,[],_,k,d,r,h=>by obtain ⟨e,_⟩:=r; cases e
 | p::kvs,d0::ds,_,k,d,hq5,h=>by
  obtain ⟨v,vs',L1,L2,e1,e2,r1,r2⟩:=hq5
  subst e2
  rw [List.map_cons] at e1
  cases e1
  rw [List.map_cons] at h
  unfold xG at h
  by_cases hk:p.1=k
  ·rw [if_pos hk] at h
   cases h
   exact ⟨p.2,L1,uG hk,r1,List.sublist_append_left _ _⟩
  ·rw [if_neg hk] at h
   obtain ⟨v,L',a,b,c⟩:=qi r2 h
   exact ⟨v,L',by rw [vP hk]; exact a,b,c.trans (List.sublist_append_right _ _)⟩
theorem kq {K:PySem.W.Frag}{H:Hp}:∀ {kvs:List (Key×V)} {ds:List D} {L:List Addr} {k:Key},Reps K H ds (kvs.map (·.2)) L->xG (kvs.map (·.1)) ds k=none->uO kvs k=none
 | [],ds,_,k,r,h=>rfl
 | p::kvs,[],_,k,r,h=>by obtain ⟨e,_⟩:=r; cases e
 | p::kvs,d0::ds,_,k,hq4,h=>by
  obtain ⟨v,vs',L1,L2,e1,e2,r1,r2⟩:=hq4
  subst e2
  rw [List.map_cons] at e1
  cases e1
  rw [List.map_cons] at h
  unfold xG at h
  by_cases hk:p.1=k
  ·rw [if_pos hk] at h; cases h
  ·rw [if_neg hk] at h
   rw [vP hk]
   exact kq r2 h
theorem XX {K:PySem.W.Frag}{H:Hp}{A:Around}{s:Shared}{kvb:List (Key×V)}{vb:List (Key×Value)}{ys:List D}{Lb:List Addr}(rb:KV kvb vb)(qb:Reps K H ys (kvb.map (·.2)) Lb) :
  ∀ {kva:List (Key×V)} {va:List (Key×Value)} {xs:List D} {La:List Addr} {b:Bool},KV kva va->Reps K H xs (kva.map (·.2)) La->hitsD (kvb.map (·.1)) ys (kva.map (·.1)) xs=some b->PySem.W.KeqHits A s vb va b:=by
 intro kva va xs La b ra
 induction ra generalizing xs La b with
 | nil =>
  intro r h
  cases xs with
  | nil=>cases h; exact .nil
  | cons _ _=>obtain ⟨_,_,_,_,e,_⟩:=r; cases e
 | @cons p q l1 l2 h1 _ ih =>
  intro r h
  cases xs with
  | nil=>obtain ⟨e,_⟩:=r; cases e
  | cons x xs =>
   obtain ⟨v,vs',L1,L2,e1,e2,r1,r2⟩:=r
   rw [List.map_cons] at e1
   cases e1
   rw [List.map_cons] at h
   unfold hitsD at h
   have ek:q.1=p.1:=h1.1.symm
   have hv:=rb.val p.1
   cases hl:xG (kvb.map (·.1)) ys p.1 with
   | none =>
    rw [hl] at h
    cases h
    rw [kq qb hl] at hv
    have:valueAt vb q.1=none:=by
     rw [ek]
     cases hq:valueAt vb p.1 with
     | none=>rfl
     | some y=>rw [hq] at hv; exact hv.elim
    exact PySem.W.KeqHits.miss (k:=q.1) (v:=q.2) this
   | some y =>
    rw [hl] at h
    dsimp only at h
    split at h
    ·rename_i hs
     rw [Bool.and_eq_true] at hs
     cases hr:hitsD (kvb.map (·.1)) ys (l1.map (·.1)) xs with
     | none=>rw [hr] at h; cases h
     | some b' =>
      rw [hr] at h
      have h:(eqS x y&&b')=b:=Option.some.inj h
      obtain ⟨w,Lw,g1,g2,_⟩:=qi qb hl
      rw [g1] at hv
      obtain ⟨yv,hy,ry⟩:=RelO.some_of (v:=w) (o:=valueAt vb p.1) hv
      rw [<- h]
      exact PySem.W.KeqHits.hit (k:=q.1) (v:=q.2) (by rw [ek]; exact hy) (Zu (A:=A) (s:=s) hs.1 hs.2 r1 g2 h1.2 ry).2.1 (ih r2 hr)
    ·cases h
noncomputable def Yd (K:PySem.W.Frag)(neg:Bool):R2:=fun x y H Q=>∃ a b kva kvb xs ys La Lb r,x=.ref a/\y=.ref b/\Rd H a (.dK kva)/\Rd H b (.dK kvb)/\Reps K H xs (kva.map (·.2)) La/\Reps K H ys (kvb.map (·.2)) Lb /\
 (kva.length=kvb.length->hitsD (kvb.map (·.1)) ys (kva.map (·.1)) xs=some r)/\Q (.bl (if neg=true then !(kva.length==kvb.length&&r) else (kva.length==kvb.length&&r))) H
theorem Qt {X:Cx}(hu:X.A.units<cLine):OpR X (compareOp .Eq) (Yd X.K false):=by
 rintro pins s σ H x y v u Q I rx ry ⟨a,b,kva,kvb,xs,ys,La,Lb,r,e1,e2,ha,hb,qa,qb,hh,q⟩
 subst e1 e2
 obtain rfl:v=Value.ref a:=rx
 obtain rfl:u=Value.ref b:=ry
 obtain ⟨_,da,va,ra,oa⟩:=uR I.hok ha
 obtain ⟨_,db,vb,rb,ob⟩:=uR I.hok hb
 have l1:va.length=kva.length:=ra.length.symm
 have l2:vb.length=kvb.length:=rb.length.symm
 refine PySem.W.keq_eq (r:=r) da db oa ob hu (fun e=>XX rb qb ra qa (hh (by lia))) ?_
 rw [l1,l2]
 exact ⟨.bl _,H,I,rfl,q⟩
theorem Qj {X:Cx}(hu:X.A.units<cLine):OpR X (compareOp .NotEq) (Yd X.K true):=by
 rintro pins s σ H x y v u Q I rx ry ⟨a,b,kva,kvb,xs,ys,La,Lb,r,e1,e2,ha,hb,qa,qb,hh,q⟩
 subst e1 e2
 obtain rfl:v=Value.ref a:=rx
 obtain rfl:u=Value.ref b:=ry
 obtain ⟨_,da,va,ra,oa⟩:=uR I.hok ha
 obtain ⟨_,db,vb,rb,ob⟩:=uR I.hok hb
 have l1:va.length=kva.length:=ra.length.symm
 have l2:vb.length=kvb.length:=rb.length.symm
 refine PySem.W.keq_ne (r:=r) da db oa ob hu (fun e=>XX rb qb ra qa (hh (by lia))) ?_
 rw [l1,l2]
 exact ⟨.bl _,H,I,rfl,q⟩
noncomputable def Y8 (ks:List Key)(xs:List D)(js:List Key)(ys:List D):Option Bool:=if ks.length=js.length then hitsD js ys ks xs else some false
noncomputable def eqR (neg:Bool):D->D->R D
 | .dic ks xs,.dic js ys=>match Y8 ks xs js ys with
  | some b=>.ok (.bl (if neg=true then !b else b))
  | none=>.bad
 | x,y=>match eqF 12 x y with
  | some b=>.ok (.bl (if neg=true then !b else b))
  | none=>.bad
theorem uc {neg:Bool}:xa (eqR neg):=fun x y n h=>by
 unfold eqR at h
 split at h
 ·split at h<;>cases h
 ·split at h<;>cases h
theorem u9 {K:PySem.W.Frag}{neg:Bool}:OpB K (fun x y H Q=>VD K neg x y H Q\/Yd K neg x y H Q) (eqR neg):=by
 rintro H x y dx dy Lx Ly Q rx ry ⟨d,hg,q⟩
 unfold eqR at hg
 split at hg
 ·rename_i ks xs js ys
  obtain ⟨a,kva,L1,rfl,ha,_,hk,_,rs⟩:=rx
  obtain ⟨b,kvb,L2,rfl,hb,_,hj,_,qs⟩:=ry
  have l1:ks.length=kva.length:=by rw [<- hk,List.length_map]
  have l2:js.length=kvb.length:=by rw [<- hj,List.length_map]
  unfold Y8 at hg
  by_cases hl:ks.length=js.length
  ·rw [if_pos hl] at hg
   cases hr:hitsD js ys ks xs with
   | none=>rw [hr] at hg; cases hg
   | some r =>
    rw [hr] at hg
    cases hg
    refine .inr ⟨a,b,kva,kvb,xs,ys,_,_,r,rfl,rfl,.inl ha,.inl hb,rs,qs,fun _=>by rw [hk,hj]; exact hr,?_⟩
    have e:(kva.length==kvb.length&&r)=r:=by
     have:(kva.length==kvb.length)=true:=by simp; lia
     rw [this,Bool.true_and]
    rw [e]
    exact q _ H [] (Same.refl H) ⟨rfl,rfl⟩ (by simp) (fun a ha=>nomatch ha)
  ·rw [if_neg hl] at hg
   cases hg
   refine .inr ⟨a,b,kva,kvb,xs,ys,_,_,false,rfl,rfl,.inl ha,.inl hb,rs,qs,fun z=>absurd z (by lia),?_⟩
   rw [Bool.and_false]
   exact q _ H [] (Same.refl H) ⟨rfl,rfl⟩ (by simp) (fun a ha=>nomatch ha)
 ·split at hg
  ·rename_i b hb
   cases hg
   exact .inl ⟨dx,dy,Lx,Ly,b,rx,ry,hb,q _ H [] (Same.refl H) ⟨rfl,rfl⟩ (by simp) (fun a ha=>nomatch ha)⟩
  ·cases hg
theorem xf {X:Cx}(hu:X.A.units+12<cLine):OpR X (compareOp .Eq) (fun x y H Q=>VD X.K false x y H Q\/Yd X.K false x y H Q):=OpR.or (z1b hu) (Qt (by lia))
theorem vL {X:Cx}(hu:X.A.units+12<cLine):OpR X (compareOp .NotEq) (fun x y H Q=>VD X.K true x y H Q\/Yd X.K true x y H Q):=OpR.or (z0a hu) (Qj (by lia))
noncomputable def XI:D->Bool
 | .non=>true
 | _=>false
noncomputable def isN (neg:Bool):D->D->R D
 | x,.non=>.ok (.bl (if neg=true then !XI x else XI x))
 | _,_=>.bad
theorem W7 {neg:Bool}:xa (isN neg):=fun x y n h=>by
 unfold isN at h
 split at h<;>cases h
theorem W8 {K:PySem.W.Frag}{H:Hp}{d:D}{v:V}{L:List Addr}(r:Rep K H d v L):decide (v=V.non)=XI d:=by
 cases d with
 | non=>obtain ⟨rfl,_⟩:=r; rfl
 | bl b=>obtain ⟨rfl,_⟩:=r; rfl
 | int b=>obtain ⟨rfl,_⟩:=r; rfl
 | str b=>obtain ⟨rfl,_⟩:=r; rfl
 | tup _=>obtain ⟨_,_,rfl,_⟩:=r; rfl
 | lst _=>obtain ⟨_,_,_,rfl,_⟩:=r; rfl
 | dic _ _=>obtain ⟨_,_,_,rfl,_⟩:=r; rfl
 | frl _=>obtain ⟨_,_,rfl,_⟩:=r; rfl
theorem z2q {K:PySem.W.Frag}:OpB K (fun x y H Q=>y=.non/\Q (.bl (decide (x=.non))) H) (isN false):=by
 rintro H x y dx dy Lx Ly Q rx ry ⟨d,hg,q⟩
 unfold isN at hg
 split at hg
 ·cases hg
  refine ⟨ry.1,?_⟩
  rw [W8 rx]
  exact q _ H [] (Same.refl H) ⟨rfl,rfl⟩ (by simp) (fun a ha=>nomatch ha)
 ·cases hg
theorem Xe {K:PySem.W.Frag}:OpB K (fun x y H Q=>y=.non/\Q (.bl (!decide (x=.non))) H) (isN true):=by
 rintro H x y dx dy Lx Ly Q rx ry ⟨d,hg,q⟩
 unfold isN at hg
 split at hg
 ·cases hg
  refine ⟨ry.1,?_⟩
  rw [W8 rx]
  exact q _ H [] (Same.refl H) ⟨rfl,rfl⟩ (by simp) (fun a ha=>nomatch ha)
 ·cases hg
open PySem PySem.Spec PyProof.Rows
noncomputable def uF:D->Option Key
 | .int i=>some (.inl i)
 | .str x=>some (.inr x)
 | .non=>some .non
 | _=>none
noncomputable def ixD:D->D->R D
 | .lst ds,.int i=>match atI ds i with
  | some d=>.ok d
  | none=>.bad
 | .tup ds,.int i=>match atI ds i with
  | some d=>.ok d
  | none=>.bad
 | .frl ds,.int i=>match atI ds i with
  | some d=>.ok d
  | none=>.bad
 | .str x,.int i=>if x.length<=sizeLine then (match atI x.cps.toList i with
  | some c=>.ok (.str ⟨#[c]⟩)
  | none=>.bad) else .bad
 | .dic ks ds,k=>match uF k with
  | some k=>(match xG ks ds k with
   | some d=>.ok d
   | none=>.bad)
  | none=>.bad
 | _,_=>.bad
theorem z2K:xa ixD:=fun x y n h=>by
 unfold ixD at h
 split at h
 ·split at h<;>cases h
 ·split at h<;>cases h
 ·split at h<;>cases h
 ·split at h
  ·split at h<;>cases h
  ·cases h
 ·split at h
  ·split at h<;>cases h
  ·cases h
 ·cases h
theorem qu {K:PySem.W.Frag}{H:Hp}{d:D}{v:V}{L:List Addr}{k:Key}(h:uF d=some k)(r:Rep K H d v L):v=kV k:=by
 cases d with
 | non=>cases h; exact r.1
 | int i=>cases h; exact r.1
 | str x=>cases h; exact r.1
 | _=>cases h
theorem Reps.atI {K:PySem.W.Frag}{H:Hp}{ds:List D}{vs:List V}{L:List Addr}{i:Int}{d:D}(r:Reps K H ds vs L)(h:L2.atI ds i=some d):∃ v L1,L2.atI vs i=some v/\Rep K H d v L1/\List.Sublist L1 L:=by
 unfold L2.atI at h ⊢
 rw [r.length]
 cases e:ixN ds.length i with
 | none=>rw [e] at h; cases h
 | some j =>
  rw [e] at h
  obtain ⟨v,L1,a,b,c⟩:=r.get h
  exact ⟨v,L1,a,b,c⟩
section
variable {X:Cx}{E:XK}{Γ:List Cl}{e a b:Expr}{es:List Expr}{t ta tb:Tn->R D}{u:Tn->R (List D)}{c ca cb:Rc}{pos p p2:Pos}
theorem RcOk.sub {O:Addr->Prop}{H:Hp}{L L':List Addr}(h:RcOk c O H L)(s:List.Sublist L' L):RcOk c O H L':=by
 cases c with
 | fresh=>exact ⟨h.1.sublist s,fun a ha=>h.2 a (s.subset ha)⟩
 | shr=>exact fun a ha=>h a (s.subset ha)
 | bor=>trivial
theorem post.bind2 {K:PySem.W.Frag}{O:Addr->Prop}{H H1:Hp}{Q Q':VK}{r:R D}{f:D->R D}(h:post K E O c H Q (r.bind f))(s:Same H H1)(hf:∀ d,r=.ok d->post K E O c H Q (f d)->∀ v H' L,Same H1 H'->Rep K H' d v L->RcOk ca O H1 L->Q' v H'):post K E O ca H1 Q' r:=by
 cases r with
 | ok d=>exact hf d rfl h
 | err n=>exact fun C H' e s'=>h C H' e (s.trans s')
 | bad=>exact h
theorem kF {K:PySem.W.Frag}{H:Hp}{dx dy d:D}{x y:V}{Lx Ly:List Addr}{Q:VK}(hn:∀ ks ds,dx≠.dic ks ds)(h:ixD dx dy=.ok d)(rx:Rep K H dx x Lx)(ry:Rep K H dy y Ly)(q:∀ v L1,Rep K H d v L1->List.Sublist L1 Lx->Q v H):rIx K x y H Q:=by
 unfold ixD at h
 split at h
 ·split at h
  ·rename_i hd
   cases h
   obtain ⟨a,vs,L',rfl,ha,e,rs⟩:=rx
   subst e
   obtain ⟨v,L1,g1,g2,g3⟩:=rs.atI hd
   exact .inl ⟨a,vs,_,v,rfl,ry.1,SqL.of ha,g1,q v L1 g2 (g3.trans (List.sublist_cons_self _ _))⟩
  ·cases h
 ·split at h
  ·rename_i hd
   cases h
   obtain ⟨a,vs,rfl,ha,rs⟩:=rx
   obtain ⟨v,L1,g1,g2,g3⟩:=rs.atI hd
   exact .inr (.inl ⟨a,vs,_,v,rfl,ry.1,ha,g1,q v L1 g2 g3⟩)
  ·cases h
 ·split at h
  ·rename_i hd
   cases h
   obtain ⟨a,vs,rfl,ha,e,_,rs⟩:=rx
   subst e
   obtain ⟨v,L1,g1,g2,g3⟩:=rs.atI hd
   exact .inl ⟨a,vs,_,v,rfl,ry.1,ha.sq,g1,q v L1 g2 g3⟩
  ·cases h
 ·split at h
  ·rename_i hz
   split at h
   ·rename_i hd
    cases h
    exact .inr (.inr ⟨_,_,_,rx.1,ry.1,hz,hd,q _ [] ⟨rfl,rfl⟩ (List.nil_sublist _)⟩)
   ·cases h
  ·cases h
 ·rename_i ks ds
  exact absurd rfl (hn _ _)
 ·cases h
theorem yr (hu:X.A.units+1<cLine)(ha:ME X E Γ a ta ca)(hb:ME X E Γ b tb cb)(hs:autoParam (Zv b) L2.au6._auto_1):ME X E Γ (.Subscript a b pos) (z9 ixD ta tb) ca:=by
 obtain ⟨te,p,q⟩:=ha
 obtain ⟨te',p',q'⟩:=hb
 refine ⟨fun σ H Q=>tOp (rIx X.K) te te' σ H Q\/Kx te te' σ H Q,fun pins s σ H Q I z=>?_,fun O σ H τ Q ok h=>?_⟩
 ·rcases z with z | z
  ·exact K9 VF p p' hs pins s σ H Q I z
  ·exact Qq hu p p' hs pins s σ H Q I z
 ·unfold z9 at h
  by_cases hd:∃ ks ds,ta τ=.ok (.dic ks ds)
  ·obtain ⟨ks,ds,hd⟩:=hd
   refine .inr (q O σ H τ _ ok (post.bind h fun dx hx h x H1 Lx s1 rx kx=>?_))
   rw [hd] at hx
   cases hx
   refine q' O σ H1 τ _ (ok.same s1) (post.bind2 h s1 fun dy _ h y H2 Ly s2 ry _=>?_)
   have h:post X.K E O ca H Q (match uF dy with
    | some k=>(match xG ks ds k with
     | some d=>.ok d
     | none=>.bad)
    | none=>.bad):=h
   cases hk:uF dy with
   | none=>rw [hk] at h; exact h.elim
   | some k =>
    rw [hk] at h
    dsimp only at h
    cases hl:xG ks ds k with
    | none=>rw [hl] at h; exact h.elim
    | some d =>
     rw [hl] at h
     obtain ⟨ad,kvs,L',rfl,had,e2,hks,_,rs⟩:=rx
     subst e2
     rw [<- hks] at hl
     obtain ⟨v,L1,g1,g2,g3⟩:=qi rs hl
     refine ⟨ad,v,rfl,?_,h v H2 L1 (s1.trans s2) (g2.same s2) (kx.sub (g3.trans (List.sublist_cons_self _ _)))⟩
     rw [qu hk ry,<- g1]
     exact DGet.k (s2 _ _ had)
  ·refine .inl (q O σ H τ _ ok (post.bind h fun dx hx h x H1 Lx s1 rx kx=>q' O σ H1 τ _ (ok.same s1) (post.bind2 h s1 fun dy _ h y H2 Ly s2 ry _=>?_)))
   cases hg:ixD dx dy with
   | ok d =>
    rw [hg] at h
    exact kF (fun ks ds z=>hd ⟨ks,ds,by rw [hx,z]⟩) hg (rx.same s2) ry fun v L1 g1 g2=>h v H2 L1 (s1.trans s2) g1 (kx.sub g2)
   | err n=>exact absurd hg (z2K _ _ _)
   | bad=>rw [hg] at h; exact h.elim
noncomputable def JM:D->R D
 | .int i=>.ok (.int (-i))
 | _=>.bad
theorem z02 (ha:ME X E Γ a ta ca):ME X E Γ (.UnaryOp .USub a pos) (eUn JM ta) .fresh:=by
 obtain ⟨te,p,q⟩:=ha
 refine ⟨_,z2y z0b p,fun O σ H τ Q ok h=>q O σ H τ _ ok (post.bind h fun d _ h v H1 L s1 r1 _=>?_)⟩
 cases d with
 | int i=>exact ⟨i,r1.1,h _ H1 [] s1 ⟨rfl,rfl⟩ RcOk.nil⟩
 | _=>exact h.elim
noncomputable def jm {α:Type}(xs:List α)(lo hi:Option Int):List α:=(xs.drop (HT.sIx xs.length 0 lo)).take (HT.sIx xs.length xs.length hi-HT.sIx xs.length 0 lo)
noncomputable def slD (x:D)(lo hi:Option Int):R D:=match x with
 | .lst ds=>if D.imms ds=true then .ok (.lst (jm ds lo hi)) else .bad
 | .str z=>if z.length<=sizeLine then .ok (.str (Txt.slice z lo hi)) else .bad
 | .tup ds=>if D.imms ds=true/\¬ (HT.sIx ds.length 0 lo=0/\HT.sIx ds.length ds.length hi=ds.length) then .ok (.tup (jm ds lo hi)) else .bad
 | _=>.bad
noncomputable def eSl (t:Tn->R D)(tl th:Tn->R (Option Int)):Tn->R D:=fun τ=>(t τ).bind fun x=>(tl τ).bind fun l=>(th τ).bind fun h=>slD x l h
noncomputable def yN:Tn->R (Option Int):=fun _=>.ok none
noncomputable def zO (t:Tn->R D):Tn->R (Option Int):=fun τ=>(t τ).bind fun d=>match d with
 | .int i=>.ok (some i)
 | _=>.bad
noncomputable def z1Z (K:PySem.W.Frag)(E:XK)(H:Hp)(Q:Option Int->Hp->Prop):R (Option Int)->Prop
 | .ok o=>∀ H',Same H H'->Q o H'
 | .err n=>∀ C H',ErrC K n C->Same H H'->E (.ref C) none H'
 | .bad=>False
noncomputable def MO (X:Cx)(E:XK)(Γ:List Cl)(e:Option Expr)(t:Tn->R (Option Int)):Prop :=
 ∃ to,PO X e to/\∀ O σ H τ Q,EOk X.K Γ O H σ τ->z1Z X.K E H Q (t τ)->to σ H Q
theorem xY:MO X E Γ none yN:=⟨WB,JP,fun O σ H τ Q ok h=>h H (Same.refl H)⟩
theorem yH (h:ME X E Γ e t c):MO X E Γ (some e) (zO t):=by
 obtain ⟨te,p,q⟩:=h
 refine ⟨KO te,JU p,fun O σ H τ Q ok h=>q O σ H τ _ ok ?_⟩
 unfold zO at h
 cases ht:t τ with
 | ok d =>
  rw [ht,R.ok_bind] at h
  refine fun v H' L s r _=>?_
  cases d with
  | int i=>exact ⟨i,r.1,h H' s⟩
  | _=>exact h.elim
 | err n=>rw [ht] at h; exact h
 | bad=>rw [ht] at h; exact h
theorem Reps.cut {K:PySem.W.Frag}{H:Hp}{ds:List D}{vs:List V}{L:List Addr}(r:Reps K H ds vs L)(lo hi:Option Int):∃ L',Reps K H (jm ds lo hi) (Yz vs lo hi) L'/\List.Sublist L' L:=by
 obtain ⟨L1,a,b⟩:=r.drop (HT.sIx ds.length 0 lo)
 obtain ⟨L2,c,d⟩:=a.take (HT.sIx ds.length ds.length hi-HT.sIx ds.length 0 lo)
 refine ⟨L2,?_,d.trans b⟩
 unfold jm Yz
 rw [r.length]
 exact c
theorem wV {lo hi:Option Expr}{tl th:Tn->R (Option Int)}(he:ME X E Γ e t c)(hl:MO X E Γ lo tl)(hh:MO X E Γ hi th):ME X E Γ (.Subscript e (.Slice lo hi none p2) pos) (eSl t tl th) .fresh:=by
 obtain ⟨te,p,q⟩:=he
 obtain ⟨tl',pl,ql⟩:=hl
 obtain ⟨th',ph,qh⟩:=hh
 refine ⟨_,UG (SlR.or Qn (SlR.or z1f z0y)) p pl ph,fun O σ H τ Q ok h=>?_⟩
 unfold eSl at h
 refine q O σ H τ _ ok (post.bind h fun dx hx h x H1 Lx s1 rx kx=>ql O σ H1 τ _ (ok.same s1) ?_)
 cases h1:tl τ with
 | err n=>rw [h1] at h; exact fun C H' e s'=>h C H' e (s1.trans s')
 | bad=>rw [h1] at h; exact h
 | ok l =>
  rw [h1,R.ok_bind] at h
  refine fun H2 s2=>qh O σ H2 τ _ ((ok.same s1).same s2) ?_
  cases h2:th τ with
  | err n=>rw [h2] at h; exact fun C H' e s'=>h C H' e ((s1.trans s2).trans s')
  | bad=>rw [h2] at h; exact h
  | ok g =>
   rw [h2,R.ok_bind] at h
   refine fun H3 s3=>?_
   have s03:=(s1.trans s2).trans s3
   have rx:=(rx.same s2).same s3
   unfold slD at h
   cases dx with
   | lst ds =>
    dsimp only at h
    by_cases hz:D.imms ds=true
    ·rw [if_pos hz] at h
     obtain ⟨a,vs,L',rfl,ha,_,rs⟩:=rx
     obtain ⟨L2,rc,_⟩:=(xt rs hz).cut l g
     have e0:L2=[]:=List.sublist_nil.mp ‹_›
     subst e0
     refine .inl ⟨a,vs,rfl,SqL.of ha,fun p hp=>uT rc hp fun v H' L s r n1 n2=>h v H' L (s03.trans s) r ⟨n1,fun a ha=>s03.non (n2 a ha)⟩⟩
    ·rw [if_neg hz] at h; exact h.elim
   | str z =>
    dsimp only at h
    by_cases hz:z.length<=sizeLine
    ·rw [if_pos hz] at h
     exact .inr (.inl ⟨z,rx.1,hz,h _ H3 [] s03 ⟨rfl,rfl⟩ RcOk.nil⟩)
    ·rw [if_neg hz] at h; exact h.elim
   | tup ds =>
    dsimp only at h
    by_cases hz:D.imms ds=true/\¬ (HT.sIx ds.length 0 l=0/\HT.sIx ds.length ds.length g=ds.length)
    ·rw [if_pos hz] at h
     obtain ⟨a,vs,rfl,ha,rs⟩:=rx
     obtain ⟨L2,rc,_⟩:=(xt rs hz.1).cut l g
     have e0:L2=[]:=List.sublist_nil.mp ‹_›
     subst e0
     exact .inr (.inr ⟨a,vs,rfl,ha,by rw [rs.length]; exact hz.2,fun p hp=>h _ _ [] (s03.trans (Same.new hp)) ⟨p,_,rfl,SqT.of zK,rc.same (Same.new hp)⟩ RcOk.nil⟩)
    ·rw [if_neg hz] at h; exact h.elim
   | _=>exact h.elim
end
section
variable {X:Cx}
noncomputable def y1:List D->R D
 | [.lst ds]=>.ok (.int ds.length)
 | [.tup ds]=>.ok (.int ds.length)
 | [.frl ds]=>.ok (.int ds.length)
 | [.str x]=>if x.length<=sizeLine then .ok (.int x.length) else .bad
 | [.dic ks _]=>.ok (.int ks.length)
 | _=>.bad
theorem xg:xO y1:=fun ds n h=>by
 rcases ds with _ | ⟨d,_ | ⟨_,_⟩⟩
 ·cases h
 ·cases d with
  | str x =>
   replace h:(if x.length<=sizeLine then R.ok (D.int x.length) else .bad)=R.err n:=h
   split at h<;>cases h
  | _=>cases h
 ·cases d<;>cases h
theorem zE:CallR X (.builtin "len") (fun xs H Q=>(∃ p ys,xs=[.ref p]/\(SqL X.K H p ys\/SqT X.K H p ys)/\Q (.int ys.length) H)\/(∃ z,xs=[.str z]/\z.length<=sizeLine/\Q (.int z.length) H)\/∃ a kvs,xs=[V.ref a]/\H a=some (.dK kvs)/\Q (.int kvs.length) H) :=
 CallR.or kZ (CallR.or ZA WR)
theorem wF {K:PySem.W.Frag}{H:Hp}{d:D}{xs:List V}{L:List Addr}(r:Reps K H [d] xs L):∃ v,xs=[v]/\Rep K H d v L:=by
 obtain ⟨v,vs',L1,L2,e1,e2,r1,r2⟩:=r
 obtain ⟨rfl,rfl⟩:=r2
 rw [List.append_nil] at e2
 subst e2
 exact ⟨v,e1,r1⟩
theorem z2I {K:PySem.W.Frag}{H:Hp}{d d':D}{xs:List V}{L:List Addr}(r:Reps K H [d,d'] xs L):∃ v v' L1 L2,xs=[v,v']/\L=L1++L2/\Rep K H d v L1/\Rep K H d' v' L2:=by
 obtain ⟨v,vs',L1,L2,e1,e2,r1,r2⟩:=r
 obtain ⟨v',rfl,r3⟩:=wF r2
 exact ⟨v,v',L1,L2,e1,e2,r1,r3⟩
theorem xh {K:PySem.W.Frag}:ClB K (fun xs H Q=>(∃ p ys,xs=[.ref p]/\(SqL K H p ys\/SqT K H p ys)/\Q (.int ys.length) H)\/(∃ z,xs=[.str z]/\z.length<=sizeLine/\Q (.int z.length) H)\/∃ a kvs,xs=[V.ref a]/\H a=some (.dK kvs)/\Q (.int kvs.length) H) y1:=by
 rintro H xs ds L Q r ⟨d,hg,q⟩
 have fin:∀ n:Int,d=.int n->Q (.int n) H:=fun n e=>q _ H [] (Same.refl H) (e▸⟨rfl,rfl⟩) (by simp) (fun a ha=>nomatch ha)
 rcases ds with _ | ⟨e,_ | ⟨_,_⟩⟩
 ·cases hg
 ·cases e with
  | lst es =>
   cases hg
   obtain ⟨v,rfl,a,vs,L',rfl,ha,_,rs⟩:=wF r
   exact .inl ⟨a,vs,rfl,.inl (SqL.of ha),fin _ (by rw [rs.length])⟩
  | tup es =>
   cases hg
   obtain ⟨v,rfl,a,vs,rfl,ha,rs⟩:=wF r
   exact .inl ⟨a,vs,rfl,.inr ha,fin _ (by rw [rs.length])⟩
  | frl es =>
   cases hg
   obtain ⟨v,rfl,a,vs,rfl,ha,_,_,rs⟩:=wF r
   exact .inl ⟨a,vs,rfl,.inl ha.sq,fin _ (by rw [rs.length])⟩
  | str x =>
   replace hg:(if x.length<=sizeLine then R.ok (D.int x.length) else .bad)=R.ok d:=hg
   split at hg
   ·rename_i hz
    cases hg
    obtain ⟨v,rfl,rfl,_⟩:=wF r
    exact .inr (.inl ⟨_,rfl,hz,fin _ rfl⟩)
   ·cases hg
  | dic ks es =>
   cases hg
   obtain ⟨v,rfl,a,kvs,L',rfl,ha,_,hk,_⟩:=wF r
   exact .inr (.inr ⟨a,kvs,rfl,ha,fin _ (by rw [<- hk,List.length_map])⟩)
  | _=>cases hg
 ·cases e<;>cases hg
noncomputable def wR:List D->Option (List Int)
 | []=>some []
 | .int i::ds=>(wR ds).map (i::·)
 | _=>none
theorem wH {K:PySem.W.Frag}{H:Hp}:∀ {ds:List D} {vs:List V} {L:List Addr} {ns:List Int},Reps K H ds vs L->wR ds=some ns->vs=ns.map V.int
 | [],_,_,ns,hq4,h=>by
  obtain ⟨e,_⟩:=hq4
  subst e; cases h; rfl
 | .int i::ds,_,_,ns,hq4,h=>by
  obtain ⟨v,vs',L1,L2,e1,_,r1,r2⟩:=hq4
  subst e1
  have h:(wR ds).map (i::·)=some ns:=h
  cases hi:wR ds with
  | none=>rw [hi] at h; cases h
  | some ms =>
   rw [hi] at h
   cases h
   rw [r1.1,wH r2 hi]; rfl
 | .non::_,_,_,_,_,h=>by cases h
 | .bl _::_,_,_,_,_,h=>by cases h
 | .str _::_,_,_,_,_,h=>by cases h
 | .tup _::_,_,_,_,_,h=>by cases h
 | .lst _::_,_,_,_,_,h=>by cases h
 | .dic _ _::_,_,_,_,_,h=>by cases h
 | .frl _::_,_,_,_,_,h=>by cases h
theorem jC:∀ {ns:List Int} {us:List Value},Vals (ns.map V.int) us->∃ xs:List (Int×Tok),us=xs.map (fun p=>Value.int p.1 p.2)/\xs.map (·.1)=ns
 | [],us,r=>by cases r; exact ⟨[],rfl,rfl⟩
 | n::ns,_,r=>by
  rw [List.map_cons] at r
  cases r with
  | cons r1 r2 =>
   obtain ⟨t,rfl⟩:=r1
   obtain ⟨xs,rfl,e⟩:=jC r2
   exact ⟨(n,t)::xs,rfl,by simp [e]⟩
noncomputable def kS:List D->R D
 | [.int i,.int j]=>.ok (.int (if j>i then j else i))
 | _=>.bad
theorem z0T:xO kS:=fun ds n h=>by unfold kS at h; split at h<;>cases h
theorem z16 {K:PySem.W.Frag}:ClB K (fun xs H Q=>∃ i j,xs=[.int i,.int j]/\Q (.int (if j>i then j else i)) H) kS:=by
 rintro H xs ds L Q r ⟨d,hg,q⟩
 unfold kS at hg
 split at hg
 ·cases hg
  obtain ⟨v,v',L1,L2,rfl,_,⟨rfl,_⟩,⟨rfl,_⟩⟩:=z2I r
  exact ⟨_,_,rfl,q _ H [] (Same.refl H) ⟨rfl,rfl⟩ (by simp) (fun a ha=>nomatch ha)⟩
 ·cases hg
noncomputable def wa:List D->R D
 | [.lst ds]=>if D.imms ds=true then .ok (.lst ds) else .bad
 | [.tup ds]=>if D.imms ds=true then .ok (.lst ds) else .bad
 | _=>.bad
theorem Wz:xO wa:=fun ds n h=>by
 unfold wa at h
 split at h
 ·split at h<;>cases h
 ·split at h<;>cases h
 ·cases h
theorem W9 {K:PySem.W.Frag}:ClB K (fun xs H Q=>∃ p ys,xs=[.ref p]/\(SqL K H p ys\/SqT K H p ys)/\∀ l,H l=none->Q (.ref l) (upd H l (.lst ys))) wa:=by
 rintro H xs ds L Q r ⟨d,hg,q⟩
 unfold wa at hg
 split at hg
 ·split at hg
  ·rename_i hz
   cases hg
   obtain ⟨v,rfl,a,vs,L',rfl,ha,_,rs⟩:=wF r
   exact ⟨a,vs,rfl,.inl (SqL.of ha),fun l hl=>uT (xt rs hz) hl q⟩
  ·cases hg
 ·split at hg
  ·rename_i hz
   cases hg
   obtain ⟨v,rfl,a,vs,rfl,ha,rs⟩:=wF r
   exact ⟨a,vs,rfl,.inr ha,fun l hl=>uT (xt rs hz) hl q⟩
  ·cases hg
 ·cases hg
noncomputable def jE:D->String
 | .non=>"NoneType"
 | .bl _=>"bool"
 | .int _=>"int"
 | .str _=>"str"
 | .tup _=>"tuple"
 | .lst _=>"list"
 | .frl _=>"list"
 | .dic _ _=>"dict"
theorem WT (d:D):jE d∈qI:=by cases d<;>simp [jE,qI]
noncomputable def WD (d:D)(T:String):Bool:=jE d==T||(jE d=="bool"&&T=="int")
noncomputable def z2U (K:PySem.W.Frag):List V->Hp->VK->Prop:=fun xs H Q=>∃ x T d L,xs=[x,.ty T]/\Rep K H d x L/\T∈(["int","bool","str","list","tuple","dict"]:List String)/\Q (.bl (WD d T)) H
theorem QR {K:PySem.W.Frag}{d:D}{U:String}(hU:U∈(["int","bool","str","list","tuple","dict"]:List String)):PySem.W.kitOne K (.type (jE d)) (.type U)=some (WD d U):=by
 have hT:=WT d
 unfold WD
 simp only [List.mem_cons,List.not_mem_nil,or_false] at hU
 rcases hU with rfl | rfl | hU
 ·rw [JG hT]
  simp
 ·rw [UK hT]
  have:(jE d=="bool"&&("bool":String)=="int")=false:=by simp
  rw [this,Bool.or_false]
 ·rw [Qa hT (by simpa using hU)]
  have:(jE d=="bool"&&U=="int")=false:=by
   rcases hU with rfl | rfl | rfl | rfl<;>simp
  rw [this,Bool.or_false]
theorem VB:CallR X (.builtin "isinstance") (z2U X.K):=by
 intro pins s σ H xs us Q I r h
 obtain ⟨x,T,d,L,rfl,rd,hT,q⟩:=h
 obtain ⟨u,u2,rfl,rx,rT⟩:=Wm r
 obtain rfl:u2=Value.type T:=rT
 have hk:=QR (K:=X.K) (d:=d) hT
 have fin:∀ tk,EP X pins σ Q (.bool (WD d T)) { s with toks:=tk }:=fun tk=>⟨.bl _,H,I.tok tk,rfl,q⟩
 cases d with
 | non=>obtain ⟨rfl,_⟩:=rd; exact xT I rx .non hk fin
 | bl b=>obtain ⟨rfl,_⟩:=rd; exact xT I rx (.bl b) hk fin
 | int b=>obtain ⟨rfl,_⟩:=rd; exact xT I rx (.int b) hk fin
 | str b=>obtain ⟨rfl,_⟩:=rd; exact xT I rx (.str b) hk fin
 | lst _=>obtain ⟨a,_,_,rfl,e,_⟩:=rd; exact xT I rx (.lst e) hk fin
 | frl _ =>
  obtain ⟨a,vs,rfl,ha,_⟩:=rd
  obtain rfl:u=Value.ref a:=rx
  obtain ⟨its,_,⟨o,n,h1,h2,_⟩,_⟩:=I.list ha.sq
  exact PySem.W.kia_one PySem.W.kitx_list I.kIn ⟨o,h1,h2⟩ hk (fun z=>nomatch z) fin
 | dic _ _=>obtain ⟨a,_,_,rfl,e,_⟩:=rd; exact xT I rx (.dK e) hk fin
 | tup _ =>
  obtain ⟨a,vs,rfl,ha,_⟩:=rd
  obtain rfl:u=Value.ref a:=rx
  obtain ⟨its,_,⟨o,h1,h2,_⟩,_⟩:=I.tuple ha
  exact PySem.W.kia_one PySem.W.kitx_tuple I.kIn ⟨o,h1,h2⟩ hk (fun z=>nomatch z) fin
end
section
variable {X:Cx}{E:XK}{Γ:List Cl}{e c':Expr}{t:Tn->R D}{c:Rc}{pos p:Pos}
noncomputable def wL (T:String):D->R D:=fun d=>.ok (.bl (WD d T))
theorem uY {T:String}(hT:T∈(["int","bool","str","list","tuple","dict"]:List String))(hg:Gl X "isinstance")(hm:X.mg "isinstance"=none)(hc:PE X c' (tC (.ty T)))(he:ME X E Γ e t c)(hs:autoParam (starEach [e,c'] X.env=(false,eval e X.env)::starEach [c'] X.env) L2.au3._auto_1)(hs2:autoParam (starEach [c'] X.env=(false,eval c' X.env)::starEach [] X.env) L2.au3._auto_1)
  (hpl:autoParam ((backTo pos (starEach [c'] X.env)).any (·.1)=false) L2.au3._auto_1):ME X E Γ (.Call (.Name "isinstance" p) [e,c'] [] pos) (eUn (wL T) t) .fresh:=by
 obtain ⟨te,p',q⟩:=he
 refine ⟨_,vK (x:="isinstance") VB hg hm Boot.«isinstance» (zX p' (zX hc wj hs2) hs) (by decide) (by decide) hs hpl,fun O σ H τ Q ok h=>q O σ H τ _ ok (post.bind h fun d _ h v H1 L s1 r1 _=>?_)⟩
 exact ⟨v,T,d,L,rfl,r1,hT,h _ H1 [] s1 ⟨rfl,rfl⟩ RcOk.nil⟩
end
open PySem PySem.Spec PyProof.Rows
noncomputable def z24 (ks:List Key)(vs:List V):List (V×V):=(ks.zip vs).map fun kv=>(kV kv.1,kv.2)
theorem jv {kvs:List (Key×V)}{k:Key}{v:V}(h:k∉kvs.map (·.1)):xQ kvs k v=kvs++[(k,v)]:=by
 unfold xQ
 rw [if_neg]
 intro z
 rw [List.any_eq_true] at z
 obtain ⟨p,hp,e⟩:=z
 exact h (List.mem_map.mpr ⟨p,hp,by simpa using e⟩)
theorem jx:∀ (more kvs:List (Key×V)),((kvs++more).map (·.1)).Nodup->xo kvs more=kvs++more
 | [],kvs,_=>by simp [xo]
 | p::r,kvs,h=>by
  have hp:p.1∉kvs.map (·.1):=by
   rw [List.map_append,List.map_cons] at h
   obtain ⟨_,_,h3⟩:=List.nodup_append.mp h
   exact fun z=>h3 p.1 z p.1 List.mem_cons_self rfl
  show xo (xQ kvs p.1 p.2) r=_
  rw [jv hp,jx r _ (by rw [List.append_assoc]; exact h),List.append_assoc]
  rfl
theorem Zc:∀ (ks:List Key) (vs:List V),vs.length=ks.length->(ks.zip vs).map (·.1)=ks
 | [],_,_=>rfl
 | k::ks,[],h=>by cases h
 | k::ks,v::vs,h=>by rw [List.zip_cons_cons,List.map_cons,Zc ks vs (by simpa using h)]
theorem W4:∀ (ks:List Key) (vs:List V),vs.length=ks.length->(ks.zip vs).map (·.2)=vs
 | [],[],_=>rfl
 | [],_::_,h=>by cases h
 | k::ks,[],h=>by cases h
 | k::ks,v::vs,h=>by rw [List.zip_cons_cons,List.map_cons,W4 ks vs (by simpa using h)]
section
variable {X:Cx}{E:XK}{Γ:List Cl}{e k v:Expr}{t:Tn->R D}{u:Tn->R (List D)}{c ca cb:Rc}{pos p:Pos}{ks:List Key}{keys:List (Option Expr)}{values:List Expr}
noncomputable def MPs (X:Cx)(E:XK)(Γ:List Cl)(pos:Pos)(keys:List (Option Expr))(values:List Expr)(ks:List Key)(t:Tn->R (List D))(c:Rc):Prop :=
 (∀ τ ds,t τ=.ok ds->ds.length=ks.length)/\∃ trs,PPs X pos keys values trs/\∀ O σ H τ (Q:List (V×V)->Hp->Prop),EOk X.K Γ O H σ τ->postL X.K E O c H (fun vs H'=>Q (z24 ks vs) H') (t τ)->Zh trs σ H Q
theorem QS:MPs X E Γ pos [] [] [] zb .fresh:=⟨fun τ ds h=>by cases h; rfl,[],QM,fun O σ H τ Q ok h=>h [] H [] (Same.refl H) Reps.nil RcOk.nil⟩
theorem wW {key:Key}(hk:PE X k (tC (kV key)))(h:ME X E Γ v t ca)(r:MPs X E Γ pos keys values ks u cb):MPs X E Γ pos (some k::keys) (v::values) (key::ks) (z8 t u) (Rc.both ca cb):=by
 obtain ⟨te,p1,q1⟩:=h
 obtain ⟨hl,trs,p2,q2⟩:=r
 refine ⟨fun τ ds h=>?_,_,Uu hk p1 p2,fun O σ H τ Q ok h=>?_⟩
 ·unfold z8 at h
  obtain ⟨d,h1,h⟩:=vw h
  obtain ⟨xs,h2,h⟩:=vw h
  cases h
  rw [List.length_cons,List.length_cons,hl τ xs h2]
 ·unfold z8 at h
  refine q1 O σ H τ _ ok ?_
  cases h1:t τ with
  | ok d =>
   rw [h1,R.ok_bind] at h
   refine fun v H1 L1 s1 r1 k1=>q2 O σ H1 τ _ (ok.same s1) ?_
   cases h2:u τ with
   | ok xs =>
    rw [h2,R.ok_bind] at h
    exact fun vs H2 L2 s2 r2 k2=>h (v::vs) H2 (L1++L2) (s1.trans s2) (Reps.cons (r1.same s2) r2) (RcOk.append ok.dom s1 r1 k1 k2)
   | err n=>rw [h2] at h; exact fun C H' e s'=>h C H' e (s1.trans s')
   | bad=>rw [h2] at h; exact h
  | err n=>rw [h1] at h; exact h
  | bad=>rw [h1] at h; exact h
theorem QE (h:MPs X E Γ pos keys values ks u c)(hc:c≠.bor)(hnd:autoParam (ks.Nodup) L2.au1._auto_1)(hlk:autoParam (ks.length<=15) L2.au1._auto_1)(hall:autoParam (keys.all (·.isSome)=true) L2.au3._auto_1)(hl:autoParam (keys.length=values.length) L2.au3._auto_1)(h0:autoParam (keys≠[]) L2.au7._auto_1)(h15:autoParam (keys.length<=15) L2.au1._auto_1) :
  ME X E Γ (.Dict keys values pos) (eL (fun ds=>.ok (.dic ks ds)) u) c:=by
 obtain ⟨hlen,trs,p,q⟩:=h
 refine ⟨_,QW p hall hl h0 h15,fun O σ H τ Q ok h dd hd=>?_⟩
 have s0:Same H (upd H dd (.dK [])):=Same.new hd
 have okO:EOk X.K Γ (fun a=>O a\/a=dd) (upd H dd (.dK [])) σ τ:=by
  refine ⟨fun a ha=>?_,fun j k e hk=>?_⟩
  ·rcases ha with ha | ha
   ·exact (ok.same s0).dom a ha
   ·rw [ha,zK]; simp
  ·obtain ⟨v,d,L0,a1,a2,a3,a4⟩:=ok.slot j k e hk
   refine ⟨v,d,L0,a1,a2,a3.same s0,fun z a ha hm=>?_⟩
   rcases hm with hm | hm
   ·exact a4 z a ha hm
   ·exact a3.there ha (hm▸hd)
 refine q _ σ _ τ _ okO ?_
 unfold eL at h
 cases hu:u τ with
 | err n=>rw [hu] at h; exact fun C H' e s'=>h C H' e (s0.trans s')
 | bad=>rw [hu] at h; exact h
 | ok ds =>
  rw [hu,R.ok_bind] at h
  refine fun vs H2 L s2 r k2=>?_
  have hD2:H2 dd=some (.dK []):=s2 _ _ zK
  have hv:vs.length=ks.length:=by rw [r.length,hlen τ ds hu]
  have nD:dd∉L:=fun hm=>by
   cases c with
   | fresh=>have:=k2.2 dd hm; rw [zK] at this; cases this
   | shr=>exact k2 dd hm (.inr rfl)
   | bor=>exact hc rfl
  refine ⟨hD2,ks.zip vs,rfl,by rw [List.length_zip]; lia,?_⟩
  have em:xo [] (ks.zip vs)=ks.zip vs:=by
   have:=jx (ks.zip vs) [] (by rw [List.nil_append,Zc ks vs hv]; exact hnd)
   rw [this]; rfl
  rw [em]
  have mu:(∃ vs,H2 dd=some (.lst vs))\/∃ kvs,H2 dd=some (.dK kvs):=.inr ⟨_,hD2⟩
  refine h (.ref dd) _ (dd::L) ?_ ⟨dd,ks.zip vs,L,rfl,zK,rfl,Zc ks vs hv,hnd,?_⟩ ?_
  ·exact Same.upd_of (H1:=H) hd (s0.trans s2)
  ·rw [W4 ks vs hv]
   exact r.upd mu nD
  ·cases c with
   | fresh =>
    refine ⟨List.nodup_cons.mpr ⟨nD,k2.1⟩,fun a ha=>?_⟩
    rcases List.mem_cons.mp ha with z | z
    ·rw [z]; exact hd
    ·exact s0.non (k2.2 a z)
   | shr =>
    intro a ha
    rcases List.mem_cons.mp ha with z | z
    ·rw [z]; exact fun w=>ok.dom dd w hd
    ·exact fun w=>k2 a z (.inl w)
   | bor=>exact absurd rfl hc
noncomputable def U7:List D->R D
 | [.dic ks ds]=>if D.imms ds=true then .ok (.dic ks ds) else .bad
 | _=>.bad
noncomputable def Zj:List V->Hp->VK->Prop:=fun xs H Q=>∃ a kvs,xs=[.ref a]/\Rd H a (.dK kvs)/\∀ l,H l=none->Q (.ref l) (upd H l (.dK kvs))
theorem Xg:CallR X (.type "dict") Zj:=by
 intro pins s σ H xs us Q I r h
 obtain ⟨a,kvs,rfl,hr,q⟩:=h
 obtain ⟨u,rfl,ru⟩:=v9 r
 obtain rfl:u=Value.ref a:=ru
 obtain ⟨z,hd,vs,rel,dd⟩:=uR I.hok hr
 refine kt_call_dict hd dd (by rw [<- rel.length]; exact z) fun h' hm hs=>?_
 have hk:∀ b o,s.heap.get? b=some o->h'.get? b=some o:=fun b o e=>(hs.2 b (Nat.ne_of_lt (Heap.lt_size e))).trans (Heap.get?_push_of_some _ e)
 have hsz:s.heap.objs.size<=s.heap.objs.size:=Nat.le_refl _
 refine ⟨.ref s.heap.objs.size,_,I.laid (o:=.dK kvs) (t':=s.toks) hk hsz ?_,rfl,q _ (I.hok.fresh hsz)⟩
 refine ⟨z,?_,vs,rel,hm⟩
 exact beq_eq_false_iff_ne.mpr (Ne.symm (Nat.ne_of_lt I.big))
theorem JW {K:PySem.W.Frag}:ClB K Zj U7:=by
 rintro H xs ds L Q r ⟨d,hg,q⟩
 unfold U7 at hg
 split at hg
 ·split at hg
  ·rename_i hz
   cases hg
   obtain ⟨v,rfl,a,kvs,L',rfl,ha,_,hk,hn,rs⟩:=wF r
   refine ⟨a,kvs,rfl,.inl ha,fun l hl=>q _ _ [l] (Same.new hl) ⟨l,kvs,[],rfl,zK,rfl,hk,hn,(xt rs hz).same (Same.new hl)⟩ (by simp) (fun b hb=>by rw [List.mem_singleton.mp hb]; exact hl)⟩
  ·cases hg
 ·cases hg
end
open PySem PySem.Spec PyProof.Rows
theorem Room.u12 {k:Nat}{A:Around}(r:Room k A):A.units+12<cLine:=by have:=r.un; lia
theorem Room.u1 {k:Nat}{A:Around}(r:Room k A):A.units+1<cLine:=by have:=r.un; lia
noncomputable def Zp (outer:Scope)(N N':List Str)(fr:List (Option Nat))(scope:Scope):Bool :=
 decide (scope.kind=.function)&&scope.names.all (fun y=>decide (y.2≠.cell))&&scope.names.all (fun y=>decide (y.2≠.local)||decide (scope.names.lookup y.1=some .local)) &&
 scope.names.all (fun y=>decide (y.2≠.free)||decide (outer.names.lookup y.1=some .cell)||decide (outer.names.lookup y.1=some .free))&&decide (fr.length=N'.length) &&
 (List.range fr.length).all fun j=>match fr[j]?,N'[j]? with
  | some (some i),some x=>decide (N[i]?=some x)&&decide (scope.names.lookup x=some .free)&&(decide (outer.names.lookup x=some .cell)||decide (outer.names.lookup x=some .free))
  | _,_=>true
theorem Xu {X:Cx}{N':List Str}{fr:List (Option Nat)}{scope:Scope}(hc:∀ x,(X.env.scope.names.lookup x=some .cell\/X.env.scope.names.lookup x=some .free)->∃ c,X.env.cells.lookup x=some c)(h:Zp X.env.scope X.N N' fr scope=true):CompScope X N' fr scope:=by
 unfold Zp at h
 simp only [Bool.and_eq_true,decide_eq_true_eq,List.all_eq_true,Bool.or_eq_true] at h
 obtain ⟨⟨⟨⟨⟨h1,h2⟩,h3⟩,h4⟩,h5⟩,h6⟩:=h
 refine ⟨h1,h2,fun y hy e=>?_,fun y hy e=>?_,h5,fun j i x e1 e2=>?_⟩
 ·rcases h3 y hy with z | z
  ·exact absurd e z
  ·exact z
 ·rcases h4 y hy with (z | z) | z
  ·exact absurd e z
  ·exact hc y.1 (.inl z)
  ·exact hc y.1 (.inr z)
 ·have hj:j<fr.length:=(List.getElem?_eq_some_iff.mp e1).1
  have:=h6 j (List.mem_range.mpr hj)
  rw [e1,e2] at this
  simp only [Bool.and_eq_true,decide_eq_true_eq,Bool.or_eq_true] at this
  exact ⟨this.1.1,this.1.2,this.2⟩
theorem xV {CX:CXT}{P:Program}{w:World}{K:PySem.W.Frag}{mg:Str->Option Value}{base:Heap}{N:List Str}{qual:Str}{sc:Scope}{f:Addr}{cd:Value}{A:Around}{outer:List Env}{s:Shared}{H:Hp}{E:XK}{N':List Str}{fr:List (Option Nat)}{scope:Scope}
  (nf:∀ y∈sc.names,y.2≠.free) (h:Zp sc N N' fr scope=true):CompScope (yX CX P w K mg base N qual sc f cd A outer s H E) N' fr scope :=
 Xu (X:=yX CX P w K mg base N qual sc f cd A outer s H E) (fun x hx=>by
  rcases hx with hx | hx
  ·exact vH hx
  ·exact absurd rfl (nf _ (PySem.mem_of_lookup hx))) h
section
variable {X:Cx}{E:XK}{Γ Γ1 Γ' Γl:List Cl}{e:Expr}{t:Tn->R D}{c:Rc}{pos pos':Pos}
noncomputable def MGs (X:Cx)(es:List Expr)(is:List Nat):Prop:=∃ g,PGs X es g/\∀ (vs:List V) (σ:St) (H:Hp) (Q:St->Hp->Prop),vs.length=is.length->Q (xk σ is vs) H->g vs σ H Q
theorem j9:MGs X [] []:=⟨z1L,Qp,fun vs σ H Q hl q=>by
 have:vs=[]:=List.length_eq_zero_iff.mp hl
 subst this
 exact ⟨rfl,q⟩⟩
theorem w6 {x:Expr}{es:List Expr}{i:Nat}{is:List Nat}(h:PG X x (jS i))(r:MGs X es is)(hs:autoParam ((assignEach (x::es) X.env).map (·.2)=assign x X.env::(assignEach es X.env).map (·.2)) L2.au3._auto_1):MGs X (x::es) (i::is):=by
 obtain ⟨g,p,q⟩:=r
 refine ⟨_,VA h p hs,fun vs σ H Q hl k=>?_⟩
 cases vs with
 | nil=>cases hl
 | cons v vs=>exact ⟨v,vs,rfl,q vs _ H Q (by simpa using hl) k⟩
theorem qZ {es:List Expr}{k:Nat}{is:List Nat}(hc:X.calm=true)(h:MGs X es is)(hn:autoParam ((assignEach es X.env).length=is.length) L2.au3._auto_1)(hst:autoParam ((assignEach es X.env).findIdx? (·.1)=none) L2.au3._auto_1):MG X (.Tuple es k pos) (.many is):=by
 obtain ⟨g,p,q⟩:=h
 exact ⟨g,z0L hc p hn hst,q⟩
theorem xA {i:Nat}{x:Expr}(h:PG X x (jS i)):MG X x (.one i):=h
noncomputable def jh (i:Nat)(g:D->D->R D)(t:Tn->R D):Tn->R Fl:=fun τ=>(z7 i τ).bind fun x=>(t τ).bind fun y=>(g x y).bind fun z=>.ok (.nx (τ.set i (some z)))
theorem z0H {i:Nat}{x:Str}{op:Operator}{r:R2}{g:D->D->R D}{k:Cl}(hN:X.N.Nodup)(hi:X.N[i]?=some x)(hk:Γ[i]?=some k)(hkd:k≠.dead)(hB:OpB X.K r g)(hn:xa g)(ho:PIp X op r)(h:ME X E Γ e t c)(hx:Loc X.env.scope x)
  (hf:autoParam (X.fn x=true\/X.env.scope.names.lookup x=some .local) L2.au0._auto_1):MS X E Γl Γ (.AugAssign (.Name x pos') op e pos) (jh i g t) (Γ.set i .own):=by
 obtain ⟨te,p,q⟩:=h
 refine ⟨_,z0s hN hi hx p ho hf,fun B σ H τ Z ok h=>?_⟩
 obtain ⟨O,eo,_⟩:=ok.eok
 obtain ⟨v,d,L,e1,e2,e3,_⟩:=eo.slot i k hk hkd
 refine ⟨v,e1,q O σ H τ _ eo ?_⟩
 unfold jh at h
 have ev:z7 i τ=.ok d:=by unfold z7; rw [e2]
 rw [ev,R.ok_bind] at h
 have hl:i<Γ.length:=(List.getElem?_eq_some_iff.mp hk).1
 cases ht:t τ with
 | ok dy =>
  rw [ht,R.ok_bind] at h
  refine fun y H1 Ly s1 ry _=>?_
  cases hg:g d dy with
  | ok dz =>
   rw [hg,R.ok_bind] at h
   refine hB H1 v y d dy L Ly _ (e3.same s1) ry ⟨dz,hg,fun z H2 L2 s2 rz n1 n2=>h _ _ ?_⟩
   have ok2:=(ok.same s1).aside s2 (fun a ha=>rz.there ha) n1 n2
   exact SOk.into (T:=[]) ok2 rz hl
  | err n=>exact absurd hg (hn _ _ _)
  | bad=>rw [hg] at h; exact h.elim
 | err n=>rw [ht] at h; exact fun C H' e s=>h C H' e (ok.ext.trans s)
 | bad=>rw [ht] at h; exact h
theorem PIp.or {op:Operator}{r r':R2}(h:PIp X op r)(h':PIp X op r'):PIp X op (fun x y H Q=>r x y H Q\/r' x y H Q):=by
 intro pins s σ H x y v u Q I r1 r2 z
 rcases z with z | z
 ·exact h pins s σ H x y v u Q I r1 r2 z
 ·exact h' pins s σ H x y v u Q I r1 r2 z
noncomputable def vA:D->D->R D
 | .int i,.int j=>.ok (.int (i+j))
 | .str x,.str y=>if x.length+y.length<=sizeLine then .ok (.str (x++y)) else .bad
 | _,_=>.bad
theorem XS:xa vA:=fun x y n h=>by
 unfold vA at h
 split at h
 ·cases h
 ·split at h<;>cases h
 ·cases h
theorem Y7:PIp X .Add (fun x y H Q=>ipI (fun i j=>i+j) x y H Q\/∃ i j,x=.str i/\y=.str j/\i.length+j.length<=sizeLine/\Q (.str (i++j)) H):=PIp.or z1a fun pins s σ H x y v u Q I r1 r2 z=>Yb pins s σ H x y v u Q I r1 r2 z
theorem Wt {K:PySem.W.Frag}:OpB K (fun x y H Q=>ipI (fun i j=>i+j) x y H Q\/∃ i j,x=.str i/\y=.str j/\i.length+j.length<=sizeLine/\Q (.str (i++j)) H) vA:=by
 rintro H x y dx dy Lx Ly Q rx ry ⟨d,hg,q⟩
 unfold vA at hg
 split at hg
 ·cases hg
  exact .inl ⟨_,_,rx.1,ry.1,q _ H [] (Same.refl H) ⟨rfl,rfl⟩ (by simp) (fun a ha=>nomatch ha)⟩
 ·split at hg
  ·rename_i hz
   cases hg
   exact .inr ⟨_,_,rx.1,ry.1,hz,q _ H [] (Same.refl H) ⟨rfl,rfl⟩ (by simp) (fun a ha=>nomatch ha)⟩
  ·cases hg
 ·cases hg
structure Bl (mg:Str->Option Value):Prop where
 isinstance:mg "isinstance"=none
 int:mg "int"=none
 bool:mg "bool"=none
 str:mg "str"=none
 dict:mg "dict"=none
 list:mg "list"=none
 tuple:mg "tuple"=none
 len:mg "len"=none
 sum:mg "sum"=none
 max:mg "max"=none
 min:mg "min"=none
 all:mg "all"=none
 range:mg "range"=none
 enumerate:mg "enumerate"=none
 zip:mg "zip"=none
end
open PySem PySem.Spec PyProof.Rows
section
variable {X:Cx}{E:XK}{Γ Γ1 Γ' Γl:List Cl}{e:Expr}{t:Tn->R D}{c:Rc}{pos pos':Pos}
theorem mn (i:Nat)(k:Cl){x:Str}(hN:autoParam (X.N[i]?=some x) L2.au3._auto_1)(hk:autoParam (Γ[i]?=some k) L2.au3._auto_1)(hd:autoParam (k≠.dead) L2.au1._auto_1)(hv:autoParam (Vis X.env.scope x) L2.au5._auto_1)(hb:autoParam ((x==("__debug__":Str))=false) L2.au1._auto_1)(hcd:autoParam ((x==("__classdict__":Str))=false) L2.au1._auto_1) :
  ME X E Γ (.Name x pos) (z7 i) (Rc.of k):=QC hN hk hd hv hb hcd
theorem mvn (i:Nat){x:Str}(hN:autoParam (X.N[i]?=some x) L2.au3._auto_1)(hk:autoParam (Γ[i]?=some .own) L2.au3._auto_1)(hv:autoParam (Vis X.env.scope x) L2.au5._auto_1)(hb:autoParam ((x==("__debug__":Str))=false) L2.au1._auto_1)(hcd:autoParam ((x==("__classdict__":Str))=false) L2.au1._auto_1) :
  MV X E Γ (.Name x pos) (z7 i) (Γ.set i .dead):=Jc hN hk hv hb hcd
theorem st (i:Nat){x:Str}(nd:X.N.Nodup)(h:MV X E Γ e t Γ1)(hi:autoParam (X.N[i]?=some x) L2.au3._auto_1)(hl:autoParam (i<Γ1.length) L2.au1._auto_1)(hx:autoParam (Loc X.env.scope x) L2.au8._auto_1)(hs:autoParam (swapsWith e (some (.Name x pos')) pos.line X.env=pure false) L2.au3._auto_1)(hf:autoParam (X.fn x=true\/X.env.scope.names.lookup x=some .local) L2.au0._auto_1) :
  MS X E Γl Γ (.Assign [.Name x pos'] e pos) (zl i t) (Γ1.set i .own):=z18 nd hi hl h hx hs hf
theorem stS (i:Nat){x:Str}(nd:X.N.Nodup)(h:ME X E Γ e t c)(hc:autoParam (c≠.bor) L2.au1._auto_1)(hi:autoParam (X.N[i]?=some x) L2.au3._auto_1)(hl:autoParam (i<Γ.length) L2.au1._auto_1)(hx:autoParam (Loc X.env.scope x) L2.au8._auto_1)(hs:autoParam (swapsWith e (some (.Name x pos')) pos.line X.env=pure false) L2.au3._auto_1)(hf:autoParam (X.fn x=true\/X.env.scope.names.lookup x=some .local) L2.au0._auto_1) :
  MS X E Γl Γ (.Assign [.Name x pos'] e pos) (zl i t) (Γ.set i .shr):=Qe nd hi hl h hc hx hs hf
theorem pgn (i:Nat){x:Str}(nd:X.N.Nodup)(hi:autoParam (X.N[i]?=some x) L2.au3._auto_1)(hx:autoParam (Loc X.env.scope x) L2.au8._auto_1)(hf:autoParam (X.fn x=true\/X.env.scope.names.lookup x=some .local) L2.au0._auto_1):PG X (.Name x pos) (jS i):=QX nd hi hx hf
theorem app (i:Nat){x:Str}{p0 p1 p2:Pos}(h:MV X E Γ e t Γ1)(hN:autoParam (X.N[i]?=some x) L2.au3._auto_1)(h0:autoParam (Γ[i]?=some .own) L2.au3._auto_1)(hk:autoParam (Γ1[i]?=some .own) L2.au3._auto_1)(hv:autoParam (Vis X.env.scope x) L2.au5._auto_1)(hb:autoParam ((x==("__debug__":Str))=false) L2.au1._auto_1)(hcd:autoParam ((x==("__classdict__":Str))=false) L2.au1._auto_1)
  (hbase:autoParam (attributeBase (.Name x p0) "append" X.env (eval (.Name x p0) X.env)=eval (.Name x p0) X.env) L2.au3._auto_1)
  (hfew:autoParam (((backTo p2 (starEach [e] X.env)).all (fun x=>!x.1)&&(backToKw p2 (keywordEach [] X.env)).all (fun x=>x.1.isSome)&&decide ([e].length+([]:List Keyword).length+(if ([]:List Keyword).isEmpty then 0 else 1)<30))=true) L2.au3._auto_1)
  (hline:autoParam ((p1.endLine==p2.line)=true) L2.au3._auto_1) (hs:autoParam (starEach [e] X.env=(false,eval e X.env)::starEach [] X.env) L2.au3._auto_1) (hplain:autoParam ((backTo p2 (starEach [] X.env)).any (·.1)=false) L2.au3._auto_1)
  (hsw:autoParam (swapsWith (.Call (.Attribute (.Name x p0) "append" p1) [e] [] p2) none pos.line X.env=pure false) L2.au3._auto_1) :
  MS X E Γl Γ (.Expr (.Call (.Attribute (.Name x p0) "append" p1) [e] [] p2) pos) (vo i t) Γ1:=WN hN h0 h hk hv hb hcd hbase hfew hline hs hplain hsw
theorem put (i:Nat){x:Str}{p0 p1:Pos}{ix:Expr}{ti:Tn->R D}(h:MV X E Γ e t Γ1)(hi:ME X E Γ1 ix ti c)(hN:autoParam (X.N[i]?=some x) L2.au3._auto_1)(hk:autoParam (Γ1[i]?=some .own) L2.au3._auto_1)(hv:autoParam (Vis X.env.scope x) L2.au5._auto_1)(hb:autoParam ((x==("__debug__":Str))=false) L2.au1._auto_1)(hcd:autoParam ((x==("__classdict__":Str))=false) L2.au1._auto_1)
  (ha:autoParam (∀ v,assign (.Subscript (.Name x p0) ix p1) X.env v=(do
   let ov <- holding [v] (eval (.Name x p0) X.env)
   let iv <- holding [v,ov] (eval ix X.env)
   standAt p1
   holding [v,ov,iv] (setItem ov iv v)
   release [v,ov,iv] [])) L2.au2._auto_1)
  (hs:autoParam (swapsWithSole [.Subscript (.Name x p0) ix p1] e pos.line X.env=pure false) L2.au3._auto_1) (hw:autoParam (swappedStores [.Subscript (.Name x p0) ix p1] e X.env=pure none) L2.au3._auto_1)
  (h1:autoParam ((assignEach [.Subscript (.Name x p0) ix p1] X.env).map (·.2)=[assign (.Subscript (.Name x p0) ix p1) X.env]) L2.au3._auto_1) :
  MS X E Γl Γ (.Assign [.Subscript (.Name x p0) ix p1] e pos) (Xk i t ti) Γ1:=z0e hN h hi hk hv hb hcd ha hs hw h1
theorem aug (i:Nat)(k:Cl){x:Str}{op:Operator}{r:R2}{g:D->D->R D}(nd:X.N.Nodup)(hB:OpB X.K r g)(hn:xa g)(ho:PIp X op r)(h:ME X E Γ e t c)(hi:autoParam (X.N[i]?=some x) L2.au3._auto_1)(hk:autoParam (Γ[i]?=some k) L2.au3._auto_1)(hkd:autoParam (k≠.dead) L2.au1._auto_1)(hx:autoParam (Loc X.env.scope x) L2.au8._auto_1)
  (hf:autoParam (X.fn x=true\/X.env.scope.names.lookup x=some .local) L2.au0._auto_1):MS X E Γl Γ (.AugAssign (.Name x pos') op e pos) (jh i g t) (Γ.set i .own):=z0H nd hi hk hkd hB hn ho h hx hf
theorem stC (i:Nat){x:Str}{N':List Str}{fr:List (Option Nat)}{scope:Scope}{tg iter elt:Expr}{ifs:List Expr}{it:Tn->R (List D)}{g:Tgt}{cnd:Tn->R Bool}{te:Tn->R D}{ci:Rc}{cpos:Pos}(nd:X.N.Nodup)(hc:X.calm=true)(S:CompScope X N' fr scope)(hi:MI X E Γ tg iter it ci)
  (hg:∀ s₃ H₃ fp pins,MG (zT X scope N' s₃ H₃ fp pins) tg g) (ht:∀ s₃ H₃ fp pins,MTs (zT X scope N' s₃ H₃ fp pins) noX (yS (Cl.ofIt ci) (yG fr Γ) g.slots) ifs cnd)
  (he:∀ s₃ H₃ fp pins,ME (zT X scope N' s₃ H₃ fp pins) noX (yS (Cl.ofIt ci) (yG fr Γ) g.slots) elt te .fresh) (hd:∀ j∈g.slots,(yG fr Γ)[j]?=some .dead)
  (hix:autoParam (X.N[i]?=some x) L2.au3._auto_1) (hl:autoParam (i<Γ.length) L2.au1._auto_1) (hx:autoParam (Loc X.env.scope x) L2.au8._auto_1) (hsw:autoParam (swapsWith (.ListComp elt [⟨tg,iter,ifs,0⟩] scope cpos) (some (.Name x pos')) pos.line X.env=pure true) L2.au3._auto_1)
  (hs:autoParam (∀ x,foldedSetIterable iter X.env x=pure x) L2.au2._auto_1) (hf:autoParam (X.fn x=true\/X.env.scope.names.lookup x=some .local) L2.au0._auto_1) :
  MS X E Γl Γ (.Assign [.Name x pos'] (.ListComp elt [⟨tg,iter,ifs,0⟩] scope cpos) pos) (zl i (yi fr it g cnd te)) (Γ.set i .own):=Jx hc S hi hg ht he hd nd hix hl hx hsw hs hf
end
open PySem PySem.Spec PyProof.Rows
section
variable {P:Program}{w:World}{K:PySem.W.Frag}{mg:Str->Option Value}{base:Heap}{x:Str}{st:Stmt}{N ps:List Str}{k:Nat}{t:Tn->R Fl}{Γ':List Cl}
theorem z0Y {f:Addr}{oc:Value}{od an:Option Addr}{osl:Array (Option Value)}{kV doc pm cdv ct:Value}(lk:K.lookup f=some ⟨oc,od,.func (PySem.W.fnOf x x (defArgs st) (defBody st) (defScope st) .none kV doc pm an cdv ct),osl⟩)(hcd:PySem.W.codeIn K cdv x=true)
  (S:FnScope N ps (defScope st)) (hn:ps.length<=N.length)
  (hbody:∀ (f:Addr) (cdv:Value) (A:Around) (outer:List Env) (s:Shared) (H:Hp) (E:XK),Room k (A.deeper (envOfC x (defScope st) s.heap.objs.size f cdv)) ->
   MSs (yX (cxx P w) P w K mg base N x (defScope st) f cdv A outer s H E) E [] (vJ N.length ps.length) (defBody st) t Γ') :
  FnOk P w K mg base (cxx P w) (k+1) f (PySem.W.fnOf x x (defArgs st) (defBody st) (defScope st) .none kV doc pm an cdv ct) ps (spM K (zw N.length t) ps.length):=by
 refine Ut lk hcd S (fun vs H Q E h=>h.1) fun A outer s H vs Q E hr h=>?_
 obtain ⟨hl,ds,L,r,h⟩:=h
 obtain ⟨ts,p,q⟩:=hbody f cdv A outer s H E hr
 refine ⟨ts,p,q H (start N vs) H _ _ (hl▸SOk.start r (by lia)) ?_⟩
 unfold zw at h
 cases ht:t (ds.map some++List.replicate (N.length-ds.length) none) with
 | ok f =>
  rw [ht] at h
  cases f with
  | nx τ'=>exact fun σ' H' ok'=>h .non H' [] ok'.ext ⟨rfl,rfl⟩ RcOk.nil
  | rt d=>exact fun v H' L s r n1 n2=>h v H' L s r ⟨n1,n2⟩
  | bk τ'=>exact h.elim
  | ct τ'=>exact h.elim
 | err n=>rw [ht] at h; exact fun C H' e s=>h C H' e s
 | bad=>rw [ht] at h; exact h.elim
end
theorem vd:∀ ns:List Int,D.imms (ns.map D.int)=true
 | []=>rfl
 | n::ns=>by rw [List.map_cons]; show (true&&D.imms (ns.map D.int))=true; rw [vd ns]; rfl
theorem kO {K:PySem.W.Frag}{H:Hp}:∀ ns:List Int,Reps K H (ns.map D.int) (ns.map V.int) []
 | []=>Reps.nil
 | n::ns=>Reps.cons (L1:=[]) ⟨rfl,rfl⟩ (kO ns)
theorem QQ {K:PySem.W.Frag}{H:Hp}{a:Addr}{ns:List Int}{F:List D->R D}(hO:QO H)(hS:SqL K H a (ns.map V.int))(hF:F [.frl (ns.map D.int)]=.ok (.bl true)):spM K F 1 [.ref a] H (fun v _=>v=.bl true) fun _ _ _=>False:=by
 have hs:SqF K H a (ns.map V.int):=by
  rcases hS with (z | z) | z
  ·rcases hO a with w | ⟨o,xs,w⟩
   ·rw [w] at z; cases z
   ·rw [w] at z; cases z
  ·exact .inl z
  ·exact .inr z
 refine ⟨rfl,[.frl (ns.map D.int)],[],Reps.cons (L1:=[]) ⟨a,ns.map V.int,rfl,hs,rfl,vd ns,kO ns⟩ Reps.nil,?_⟩
 rw [hF]
 exact fun v H' L s r _=>r.1
theorem law_walk {Fm:List D->R D}{k:Nat}{x:Str}{l:PySem.W.OpenLaw}{q:Program}{loose:List Str}{XP:(Str->Option Value)->Heap->Prop}{YP:World->Heap->Prop}{d:DefRec}{K:Params->PySem.W.Frag}(hF:∀ ns:List Int,ns.length<=63->Fm [.frl (ns.map D.int)]=.ok (.bl true))(hr:Room k callerA)(hn:l.most=some 63)(hdf:d.params.defaults=[])
  (hY:∀ (w:World) (h:Heap),YP w h->(K w.params).In h)
  (F:∀ (w:World) (mg:Str->Option Value) (fa:Addr) (h:Heap),(K w.params).In h->h.Ns mainGlobals mg->mg d.name=some (.ref fa) ->
   ∃ fd:FuncData,(∀ (s:Shared) (u:Value),BindsTo s fd ⟨[u],[]⟩ [(x,u)])/\∀ base:Heap,(K w.params).In base->base.Ns mainGlobals mg->FnOk l.prog w (K w.params) mg base (cxx l.prog w) k fa fd [x] (spM (K w.params) Fm 1)) :
  PySem.W.WalkO q loose XP YP l.row.toRowW d [] (fun f vs=>PySem.call f vs) :=
 L2.walk_of (n:=63) (k:=k) (x:=x) (CX:=fun w=>cxx l.prog w) (sp:=fun w=>spM (K w.params) Fm 1) hn (by decide) hdf hr hY F (fun w H a ns hl hO hS=>QQ hO hS (hF ns hl)) fun w H s e s' z=>Vz z
open PySem PySem.Spec PyProof.Rows
section
variable {i j:Int}{C:Int->Int->Bool}{g:Int->Int->D}
theorem ya:zB (.int i) (.int j)=.ok (.int (i+j)):=rfl
theorem VX:L2.intD C g (.int i) (.int j)=if C i j=true then .ok (g i j) else .bad:=rfl
theorem Qv (h1:-(2 ^ 64)<j)(h2:j<2 ^ 64):wz (.int i) (.int j)=.ok (.int (i*j)):=by
 have:((decide (-(2 ^ 64)<i)&&decide (i<2 ^ 64))||(decide (-(2 ^ 64)<j)&&decide (j<2 ^ 64)))=true:=by rw [decide_eq_true h1,decide_eq_true h2]; simp
 exact if_pos this
theorem QA (h1:-(2 ^ 64)<i)(h2:i<2 ^ 64):wz (.int i) (.int j)=.ok (.int (i*j)):=by
 have:((decide (-(2 ^ 64)<i)&&decide (i<2 ^ 64))||(decide (-(2 ^ 64)<j)&&decide (j<2 ^ 64)))=true:=by rw [decide_eq_true h1,decide_eq_true h2]; simp
 exact if_pos this
theorem u3 (h1:-18446744073709551616<j)(h2:j<18446744073709551616):wz (.int i) (.int j)=.ok (.int (i*j)):=Qv (by lia) (by lia)
theorem j4 (h1:-18446744073709551616<i)(h2:i<18446744073709551616):wz (.int i) (.int j)=.ok (.int (i*j)):=QA (by lia) (by lia)
theorem zJ (h1:0<j)(h2:j<1073741824):zt (.int i) (.int j)=.ok (.int (i/j)):=by
 simp [zt,VX,h1,h2]
theorem zD (h1:0<j):zu (.int i) (.int j)=.ok (.int (i%j)):=by
 simp [zu,VX,h1]
theorem xJ {neg:Bool}:eqR neg (.int i) (.int j)=.ok (.bl (if neg=true then !(i==j) else i==j)):=by
 cases neg<;>rfl
theorem jG {neg:Bool}{x y:Str}:eqR neg (.str x) (.str y)=.ok (.bl (if neg=true then !(x==y) else x==y)):=by
 cases neg<;>rfl
end
theorem Zr {α:Type}{xs:List α}{i:Int}{x:α}(h0:0<=i)(h:xs[i.toNat]?=some x):atI xs i=some x:=by
 have hj:i.toNat<xs.length:=(List.getElem?_eq_some_iff.mp h).1
 have:=vX h
 rw [Int.toNat_of_nonneg h0] at this
 exact this
theorem jI {ds:List D}{i:Int}{d:D}(h:atI ds i=some d):ixD (.lst ds) (.int i)=.ok d:=by show (match atI ds i with | some d=>R.ok d | none=>R.bad)=_; rw [h]
theorem z0G {ds:List D}{i:Int}{d:D}(h:atI ds i=some d):ixD (.frl ds) (.int i)=.ok d:=by show (match atI ds i with | some d=>R.ok d | none=>R.bad)=_; rw [h]
theorem z0B {x:Str}{i:Int}{c:Nat}(hz:x.length<=sizeLine)(h:atI x.cps.toList i=some c):ixD (.str x) (.int i)=.ok (.str ⟨#[c]⟩):=by show (if x.length<=sizeLine then (match atI x.cps.toList i with | some c=>R.ok (D.str ⟨#[c]⟩) | none=>R.bad) else R.bad)=_; rw [if_pos hz,h]
theorem z06 {a:D}{ds:List D}:ixD (.tup (a::ds)) (.int 0)=.ok a:=by
 have:atI (a::ds) 0=some a:=vX (j:=0) rfl
 show (match atI (a::ds) 0 with | some d=>R.ok d | none=>R.bad)=_; rw [this]
theorem z17 {a b:D}{ds:List D}:ixD (.tup (a::b::ds)) (.int 1)=.ok b:=by
 have:atI (a::b::ds) 1=some b:=vX (j:=1) rfl
 show (match atI (a::b::ds) 1 with | some d=>R.ok d | none=>R.bad)=_; rw [this]
theorem QP {ds:List D}:y1 [.lst ds]=.ok (.int ds.length):=rfl
theorem XU {ds:List D}:y1 [.frl ds]=.ok (.int ds.length):=rfl
theorem kY {x:Str}(h:x.length<=sizeLine):y1 [.str x]=.ok (.int x.length):=if_pos h
theorem jo:∀ ns:List Int,wR (ns.map D.int)=some ns
 | []=>rfl
 | n::ns=>by rw [List.map_cons]; show (wR (ns.map D.int)).map (n::·)=_; rw [jo ns]; rfl
theorem vF {α:Type}{f:α->D}(h:∀ a,(f a).imm=true):∀ xs:List α,D.imms (xs.map f)=true
 | []=>rfl
 | x::xs=>by rw [List.map_cons]; show ((f x).imm&&D.imms (xs.map f))=true; rw [h,vF h xs]; rfl
theorem vY {asg:D->Tn->R Tn}{body:Tn->R Fl}(Iv:Nat->Tn->Prop):∀ (ds:List D) (k:Nat) (τ:Tn),Iv k τ ->
  (∀ i d τ,ds[i]?=some d->Iv (k+i) τ->∃ τ1 τ2,asg d τ=.ok τ1/\(body τ1=.ok (.nx τ2)\/body τ1=.ok (.ct τ2))/\Iv (k+i+1) τ2)->∃ τ',yO asg body ds τ=.ok (.nx τ')/\Iv (k+ds.length) τ'
 | [],k,τ,h0,_=>⟨τ,rfl,h0⟩
 | d::ds,k,τ,h0,hs=>by
  obtain ⟨τ1,τ2,e1,e2,h2⟩:=hs 0 d τ rfl h0
  obtain ⟨τ',e3,h3⟩:=vY Iv ds (k+1) τ2 (by simpa using h2) fun i d' τ' hd hi=>by
   obtain ⟨τ3,τ4,a,b,c⟩:=hs (i+1) d' τ' (by simpa using hd) (by rw [<- Nat.add_assoc,Nat.add_right_comm]; exact hi)
   have e:k+1+i+1=k+(i+1)+1:=by lia
   exact ⟨τ3,τ4,a,b,e▸c⟩
  refine ⟨τ',?_,by rw [List.length_cons,Nat.add_comm ds.length 1,<- Nat.add_assoc]; exact h3⟩
  unfold yO
  rw [e1,R.ok_bind]
  rcases e2 with e2 | e2<;>rw [e2,R.ok_bind]<;>exact e3
theorem xn {α:Type}{enc:α->D}{f:D->R (Option D)}{o:α->Option D}:∀ {xs:List α},(∀ x∈xs,f (enc x)=.ok (o x))->yW f (xs.map enc)=.ok (xs.filterMap o)
 | [],_=>rfl
 | x::xs,h=>by
  rw [List.map_cons]
  unfold yW
  rw [h x List.mem_cons_self,R.ok_bind,xn fun y hy=>h y (List.mem_cons_of_mem _ hy),R.ok_bind]
  cases ho:o x with
  | none=>simp [List.filterMap_cons,ho]
  | some d=>simp [List.filterMap_cons,ho]
theorem v7 {f:D->R (Option D)}{o:Nat->Option D}{lo:Int}{n:Nat}(h:∀ i,i<n->f (.int (lo+i))=.ok (o i)):yW f (rng lo n)=.ok ((List.range n).filterMap o) :=
 xn (enc:=fun (i:Nat)=>.int (lo+i)) fun i hi=>h i (List.mem_range.mp hi)
theorem Z0 {lo:Int}{n i:Nat}{d:D}(h:(rng lo n)[i]?=some d):i<n/\d=.int (lo+i):=by
 unfold rng at h
 rw [List.getElem?_map] at h
 by_cases hi:i<n
 ·rw [List.getElem?_range hi] at h
  exact ⟨hi,(Option.some.inj h).symm⟩
 ·rw [List.getElem?_eq_none (by simp; lia)] at h; cases h
theorem j7 {lo:Int}{n:Nat}:(rng lo n).length=n:=by simp [rng]
theorem vn {j:Int}(h1:-(2 ^ 62)<=j)(h2:j<2 ^ 62):xP [.int j]=.ok (rng 0 j.toNat):=if_pos ⟨h1,h2⟩
theorem Wl {i j:Int}(h1:-(2 ^ 62)<=i)(h2:i<2 ^ 62)(h3:-(2 ^ 62)<=j)(h4:j<2 ^ 62):jY [.int i,.int j]=.ok (rng i (j-i).toNat):=if_pos ⟨h1,h2,h3,h4⟩
theorem zM {α:Type}(a:α):vg (R.ok a)=.ok a:=rfl
open PySem PySem.Spec PyProof.Rows
theorem uC {x y:Str}(h:x.length+y.length<=sizeLine):zB (.str x) (.str y)=.ok (.str (x++y)):=if_pos h
theorem yA {i j:Int}:xH (.int i) (.int j)=.ok (.int (i-j)):=rfl
theorem yy {i j:Int}:ltD (.int i) (.int j)=.ok (.bl (decide (i<j))):=rfl
theorem uf {i j:Int}:leD (.int i) (.int j)=.ok (.bl (decide (i<=j))):=rfl
theorem ZK {i j:Int}:gtD (.int i) (.int j)=.ok (.bl (decide (j<i))):=rfl
theorem kA {i j:Int}:geD (.int i) (.int j)=.ok (.bl (decide (j<=i))):=rfl
theorem z0K {i:Int}:JM (.int i)=.ok (.int (-i)):=rfl
theorem Xi {ds:List D}{lo hi:Option Int}(h:D.imms ds=true):slD (.lst ds) lo hi=.ok (.lst (jm ds lo hi)):=if_pos h
theorem ZL {ds:List D}(h:D.imms ds=true):wa [.lst ds]=.ok (.lst ds):=if_pos h
theorem Qy {α β:Type}(f:α->β)(xs:List α):xs.filterMap (fun x=>some (f x))=xs.map f:=by
 induction xs with
 | nil=>rfl
 | cons x xs ih=>simp
theorem ur {f:D->D->Option Bool}:∀ {ds:List D},(∀ d∈ds,f d d=some true)->yF f ds ds=some true
 | [],_=>rfl
 | d::ds,h=>by
  unfold yF
  rw [h d List.mem_cons_self,ur fun x hx=>h x (List.mem_cons_of_mem _ hx)]
  rfl
theorem QU (n:Nat)(i j:Int):eqF n (.int i) (.int j)=some (i==j):=by cases n<;>rfl
theorem W6 (n:Nat)(i j:Str):eqF n (.str i) (.str j)=some (i==j):=by cases n<;>rfl
theorem JN (n:Nat){xs:List D}(h:∀ d∈xs,eqF n d d=some true):eqF (n+1) (.tup xs) (.tup xs)=some true:=by
 show (yF (eqF n) xs xs).map _=_
 rw [ur h]
 simp
theorem Qh (n:Nat){xs:List D}(h:∀ d∈xs,eqF n d d=some true):eqF (n+1) (.lst xs) (.lst xs)=some true:=by
 show (if xs.length=xs.length then yF (eqF n) xs xs else some false)=_
 rw [if_pos rfl,ur h]
theorem WK {d:D}(hd:∀ ks xs,d≠.dic ks xs)(h:eqF 12 d d=some true):eqR false d d=.ok (.bl true):=by
 cases d with
 | dic ks xs=>exact absurd rfl (hd ks xs)
 | _=>simp only [eqR,h]<;>rfl
open PySem PySem.Spec PyProof.Rows
noncomputable def JT (i:Nat)(τ:Tn)(ds:List D)(d:D):R Fl:=if ds.length<sizeLine then .ok (.nx (τ.set i (some (.lst (ds++[d]))))) else .bad
noncomputable def z0r (i:Nat)(t:Tn->R D)(τ:Tn):D->R Fl
 | .lst ds=>(t τ).bind fun d=>JT i τ ds d
 | _=>.bad
theorem wC {i:Nat}{t:Tn->R D}{τ:Tn}:vo i t τ=(z7 i τ).bind (z0r i t τ):=by
 unfold vo z0r JT
 rfl
theorem vq {i:Nat}{t:Tn->R D}{τ:Tn}{ds:List D}:z0r i t τ (.lst ds)=(t τ).bind fun d=>JT i τ ds d:=rfl
theorem vx {i:Nat}{τ:Tn}{ds:List D}{d:D}(h:ds.length<16777216):JT i τ ds d=.ok (.nx (τ.set i (some (.lst (ds++[d]))))):=if_pos (by rw [sizeLine_eq]; exact h)
noncomputable def z1p (ys:List D):R D:=if ys.length<=sizeLine then .ok (.lst ys) else .bad
theorem yZ {ys:List D}(h:ys.length<=16777216):z1p ys=.ok (.lst ys):=if_pos (by rw [sizeLine_eq]; exact h)
theorem yx {fr:List (Option Nat)}{it:Tn->R (List D)}{g:Tgt}{c:Tn->R Bool}{e:Tn->R D}{τ:Tn}:yi fr it g c e τ=(it τ).bind fun xs=>(yW (zP g.asg c e (vc fr τ)) xs).bind z1p:=rfl
theorem xC {τ:Tn}:vc [] τ=[]:=rfl
theorem xw {fr:List (Option Nat)}{τ:Tn}:vc (none::fr) τ=none::vc fr τ:=rfl
theorem wg {i:Nat}{fr:List (Option Nat)}{τ:Tn}:vc (some i::fr) τ=(τ[i]?).join::vc fr τ:=rfl
theorem xZ {a:Option D}:(some a).join=a:=rfl
noncomputable def ZC (d:D):R D:=if d.imm=true then .ok d else .bad
theorem yj {t:Tn->R D}{τ:Tn}:yE t τ=(t τ).bind ZC:=rfl
theorem j3 {i:Int}:ZC (.int i)=.ok (.int i):=rfl
theorem u4 {s:Str}:ZC (.str s)=.ok (.str s):=rfl
noncomputable def goF (asg:D->Tn->R Tn)(body:Tn->R Fl)(ds:List D):Fl->R Fl
 | .nx τ2=>yO asg body ds τ2
 | .ct τ2=>yO asg body ds τ2
 | .bk τ2=>.ok (.nx τ2)
 | .rt r=>.ok (.rt r)
theorem Z9 {asg:D->Tn->R Tn}{body:Tn->R Fl}{d:D}{ds:List D}{τ:Tn}:yO asg body (d::ds) τ=(asg d τ).bind fun τ1=>(body τ1).bind (goF asg body ds):=rfl
theorem X8 {asg:D->Tn->R Tn}{body:Tn->R Fl}{ds:List D}{τ:Tn}:goF asg body ds (.nx τ)=yO asg body ds τ:=rfl
theorem KR {a:D}{ds:List D}:ixD (.lst (a::ds)) (.int 0)=.ok a:=jI (vX (j:=0) rfl)
theorem qd {it:Tn->R (List D)}{g:Tgt}{B:Tn->R Fl}{τ:Tn}{ds:List D}{f:R Fl}(h1:it τ=.ok ds)(h2:yO g.asg B ds τ=f):xR it g B τ=f:=by
 unfold xR
 rw [h1]
 exact h2
open PySem PySem.Spec PyProof.Rows
section
variable {X:Cx}{E:XK}{Γ:List Cl}{e:Expr}{t:Tn->R D}{c:Rc}{pos p2:Pos}
end
open PySem PySem.Spec PyProof.Rows
noncomputable def wJ (lt:Int->Int->Bool)(f:Nat->Int):Nat->Int
 | 0=>f 0
 | k+1=>if lt (f (k+1)) (wJ lt f k)=true then f (k+1) else wJ lt f k
theorem Yj (lt:Int->Int->Bool)(f:Nat->Int):∀ k,f (argBest (fun i j=>lt (f i) (f j)) k)=wJ lt f k
 | 0=>rfl
 | k+1=>by
  have ih:=Yj lt f k
  unfold argBest wJ
  rw [<- ih]
  by_cases h:lt (f (k+1)) (f (argBest (fun i j=>lt (f i) (f j)) k))=true
  ·rw [if_pos h,if_pos h]
  ·rw [if_neg h,if_neg h]
noncomputable def V3 (ns:List Int):Int:=wJ (fun i j=>decide (i<j)) (fun i=>ns.getD i 0) (ns.length-1)
theorem Xp (ys:List (Int×Tok))(i:Nat):numAt ys.toArray i=(ys.map (·.1)).getD i 0:=by
 unfold numAt
 simp [List.getD]
noncomputable def Kb (K:PySem.W.Frag):List V->Hp->VK->Prop:=fun xs H Q=>∃ (p:Addr) (ns:List Int),xs=[.ref p]/\SqL K H p (ns.map V.int)/\0<ns.length/\Q (.int (V3 ns)) H
section
variable {X:Cx}
theorem Ui {ys:List (Int×Tok)}{k:Nat}{v:Value}(h:(intItems ys.toArray)[k]?=some v):∃ t,v=.int (numAt ys.toArray k) t:=by
 have:=intItems_at h
 simpa using this
theorem kU (hc:X.calm=true):CallR X (.builtin "min") (Kb X.K):=by
 intro pins s σ H xs us Q I r h
 obtain ⟨p,ns,rfl,hs,hn,q⟩:=h
 obtain ⟨u,rfl,ru⟩:=v9 r
 obtain rfl:u=Value.ref p:=ru
 obtain ⟨its,rv,pl,hz⟩:=I.list hs
 obtain ⟨ys,rfl,e⟩:=jC rv
 have hl:s.heap.IsList p (intItems ys.toArray):=by
  have:=pl.isList
  simpa [intItems] using this
 subst e
 refine min_intList (I.ok.hd hc) hl (by simpa using hn) fun v h' tk hv hk=>?_
 obtain ⟨t,rfl⟩:=Ui hv
 refine ⟨.int (V3 (ys.map (·.1))),H,I.kept hk,⟨t,?_⟩,q⟩
 have e1:=Yj (fun i j=>decide (i<j)) (numAt ys.toArray) (ys.toArray.size-1)
 rw [e1]
 unfold V3
 have e2:numAt ys.toArray=fun i=>(ys.map (·.1)).getD i 0:=funext fun i=>Xp ys i
 rw [e2]
 simp
end
noncomputable def XT (g:List Int->Int):List D->R D
 | [.lst ds]=>match wR ds with
  | some (n::ns)=>.ok (.int (g (n::ns)))
  | _=>.bad
 | _=>.bad
noncomputable def vQ:List D->R D:=XT V3
theorem z04 {g:List Int->Int}:xO (XT g):=fun ds n h=>by
 unfold XT at h
 split at h
 ·split at h<;>cases h
 ·cases h
theorem US:xO vQ:=z04
theorem VN {K:PySem.W.Frag}:ClB K (Kb K) vQ:=by
 rintro H xs ds L Q r ⟨d,hg,q⟩
 unfold vQ XT at hg
 split at hg
 ·split at hg
  ·rename_i ds n ns hn
   cases hg
   obtain ⟨v,rfl,a,vs,L',rfl,ha,_,rs⟩:=wF r
   exact ⟨a,n::ns,rfl,by rw [<- wH rs hn]; exact SqL.of ha,by simp,q _ H [] (Same.refl H) ⟨rfl,rfl⟩ (by simp) (fun a ha=>nomatch ha)⟩
  ·cases hg
 ·cases hg
open PySem PySem.Spec PyProof.Rows
section
variable {X:Cx}{tg:Expr}
end
section
variable {X:Cx}{E:XK}{Γ:List Cl}{tg:Expr}{u:Tn->R (List D)}{c:Rc}{p pos:Pos}
end
open PySem PySem.Spec PyProof.Rows
open PySem PySem.Spec PyProof.Rows
open PySem PySem.Spec PyProof.Rows
theorem jt:∀ {bs:List Bool} {us:List Value},Vals (bs.map V.bl) us->us=bs.map Value.bool
 | [],us,r=>by cases r; rfl
 | b::bs,_,r=>by
  rw [List.map_cons] at r
  cases r with
  | cons r1 r2 =>
   obtain rfl:_=Value.bool b:=r1
   rw [List.map_cons,jt r2]
theorem UM (bs:List Bool):((List.range bs.length).all fun i=>(bs[i]?).getD true)=bs.all id:=by
 rw [Bool.eq_iff_iff,List.all_eq_true,List.all_eq_true]
 constructor
 ·intro h b hb
  obtain ⟨i,hi,e⟩:=List.getElem_of_mem hb
  have:=h i (List.mem_range.mpr hi)
  rw [List.getElem?_eq_getElem hi,e] at this
  exact this
 ·intro h i hi
  have hi:=List.mem_range.mp hi
  rw [List.getElem?_eq_getElem hi]
  exact h _ (List.getElem_mem hi)
noncomputable def Kj (K:PySem.W.Frag):List V->Hp->VK->Prop:=fun xs H Q=>∃ (p:Addr) (bs:List Bool),xs=[.ref p]/\SqL K H p (bs.map V.bl)/\Q (.bl (bs.all id)) H
section
variable {X:Cx}
theorem V6 (hc:X.calm=true):CallR X (.builtin "all") (Kj X.K):=by
 intro pins s σ H xs us Q I r h
 obtain ⟨p,bs,rfl,hs,q⟩:=h
 obtain ⟨u,rfl,ru⟩:=v9 r
 obtain rfl:u=Value.ref p:=ru
 obtain ⟨its,rv,pl,hz⟩:=I.list hs
 have e:=jt rv
 subst e
 have hl:s.heap.IsList p (bs.map Value.bool).toArray:=pl.isList
 have hlt:p<s.heap.objs.size:=by obtain ⟨_,e,_⟩:=hl; exact Heap.lt_size e
 refine call_all_walk (wpAny_pyIter_list hl ?_)
 refine ⟨_,_,_,_,_,_,fun i=>(bs[i]?).getD true,rfl,Walks.list (A:=X.A.in1) (I.ok.hd hc) _ p (Nat.ne_of_lt hlt) (bs.map Value.bool).toArray,⟨⟨_,Heap.get?_push_size _ rfl,rfl,rfl⟩,hl.push _⟩,fun i v s' Q' E' hP hQ=>?_,fun h' tk hk=>?_⟩
 ·have hP:(bs.map Value.bool)[i]?=some v:=by simpa using hP
  rw [List.getElem?_map] at hP
  cases hb:bs[i]? with
  | none=>rw [hb] at hP; cases hP
  | some b =>
   rw [hb] at hP
   cases hP
   simp only [hb,Option.getD_some] at hQ
   exact wpAny_truthy_bool hQ
 ·have e:((List.range (bs.map Value.bool).toArray.size).all fun i=>(bs[i]?).getD true)=bs.all id:=by
   rw [List.size_toArray,List.length_map]
   exact UM bs
  rw [e]
  refine ⟨.bl (bs.all id),H,I.kept fun b o eb=>hk b o (fun hm=>?_) (Heap.get?_push_of_some _ eb),rfl,q⟩
  rw [List.mem_singleton.mp hm] at eb
  exact Nat.lt_irrefl _ (Heap.lt_size eb)
end
noncomputable def vk:List D->Option (List Bool)
 | []=>some []
 | .bl b::ds=>(vk ds).map (b::·)
 | _=>none
theorem uI {K:PySem.W.Frag}{H:Hp}:∀ {ds:List D} {bs:List Bool} {vs:List V} {L:List Addr},Reps K H ds vs L->vk ds=some bs->vs=bs.map V.bl
 | [],bs,_,_,hq4,h=>by
  obtain ⟨e,_⟩:=hq4
  cases h; exact e
 | .bl b::ds,bs,_,_,hq4,h=>by
  obtain ⟨v,vs',L1,L2,e1,e2,r1,r2⟩:=hq4
  unfold vk at h
  cases hb:vk ds with
  | none=>rw [hb] at h; cases h
  | some cs =>
   rw [hb] at h
   cases h
   rw [e1,r1.1,uI r2 hb]
   rfl
 | .non::_,_,_,_,_,h=>by cases h
 | .int _::_,_,_,_,_,h=>by cases h
 | .str _::_,_,_,_,_,h=>by cases h
 | .tup _::_,_,_,_,_,h=>by cases h
 | .lst _::_,_,_,_,_,h=>by cases h
 | .dic _ _::_,_,_,_,_,h=>by cases h
 | .frl _::_,_,_,_,_,h=>by cases h
noncomputable def XF:List D->R D
 | [.lst ds]=>match vk ds with
  | some bs=>.ok (.bl (bs.all id))
  | none=>.bad
 | _=>.bad
theorem z1M:xO XF:=fun ds n h=>by
 unfold XF at h
 split at h
 ·split at h<;>cases h
 ·cases h
theorem z1z {K:PySem.W.Frag}:ClB K (Kj K) XF:=by
 rintro H xs ds L Q r ⟨d,hg,q⟩
 unfold XF at hg
 split at hg
 ·split at hg
  ·rename_i ds bs hn
   cases hg
   obtain ⟨v,rfl,a,vs,L',rfl,ha,_,rs⟩:=wF r
   exact ⟨a,bs,rfl,by rw [<- uI rs hn]; exact SqL.of ha,q _ H [] (Same.refl H) ⟨rfl,rfl⟩ (by simp) (fun a ha=>nomatch ha)⟩
  ·cases hg
 ·cases hg
open PySem PySem.Spec PyProof.Rows
noncomputable def eSm (g:Str->List D->R D)(t:Tn->R D)(u:Tn->R (List D)):Tn->R D:=fun τ=>(t τ).bind fun d=>match d with
 | .str z=>(u τ).bind fun ds=>g z ds
 | _=>.bad
noncomputable def SmB (K:PySem.W.Frag)(r:V->List V->Hp->VK->Prop)(g:Str->List D->R D):Prop :=
 ∀ H z xs ds L (Q:VK),Reps K H ds xs L->(∃ d,g z ds=.ok d/\∀ v H' L',Same H H'->Rep K H' d v L'->L'.Nodup->(∀ a∈L',H a=none)->Q v H')->r (.str z) xs H Q
section
variable {X:Cx}{E:XK}{Γ:List Cl}{o e:Expr}{es:List Expr}{t:Tn->R D}{u:Tn->R (List D)}{c ca:Rc}{name:Str}{apos cpos:Pos}{id:String}
theorem kI {r:V->List V->Hp->VK->Prop}{g:Str->List D->R D}(pa:PlainAttrs "str")(slot:Slot "str" name id)(hty:typeOf (.builtin id)=pure (.type "method_descriptor"))(hm:MtR X id r)(hB:SmB X.K r g)(hn:∀ z,xO (g z))(ho:ME X E Γ o t c)(ha:MA X E Γ (e::es) u ca)
  (hbase:autoParam (attributeBase o name X.env (eval o X.env)=eval o X.env) L2.au3._auto_1)
  (hfew:autoParam (((backTo cpos (starEach (e::es) X.env)).all (fun x=>!x.1)&&(backToKw cpos (keywordEach [] X.env)).all (fun x=>x.1.isSome)
   && decide ((e::es).length+([]:List Keyword).length+(if ([]:List Keyword).isEmpty then 0 else 1)<30))=true) L2.au3._auto_1)
  (hline:autoParam ((apos.endLine==cpos.line)=true) L2.au3._auto_1) (hs:autoParam (starEach (e::es) X.env=(false,eval e X.env)::starEach es X.env) L2.au3._auto_1) (hplain:autoParam ((backTo cpos (starEach es X.env)).any (·.1)=false) L2.au3._auto_1) :
  ME X E Γ (.Call (.Attribute o name apos) (e::es) [] cpos) (eSm g t u) .fresh:=by
 obtain ⟨te,p,q⟩:=ho
 obtain ⟨_,ta',p',q'⟩:=ha
 refine ⟨_,VU pa slot hty hm p p' hbase hfew hline hs hplain,fun O σ H τ Q ok h=>?_⟩
 unfold eSm at h
 refine q O σ H τ _ ok (post.bind h fun d hd h x H1 L1 s1 r1 _=>?_)
 cases d with
 | str z =>
  obtain ⟨rfl,_⟩:=r1
  refine ⟨rfl,q' O σ H1 τ _ (ok.same s1) ?_⟩
  dsimp only at h
  cases hu:u τ with
  | ok ds =>
   rw [hu,R.ok_bind] at h
   refine fun vs H2 L s2 r2 _=>?_
   cases hg:g z ds with
   | ok d =>
    rw [hg] at h
    exact hB H2 z vs ds L Q r2 ⟨d,hg,fun v H' L s r n1 n2=>h v H' L ((s1.trans s2).trans s) r ⟨n1,fun a ha=>(s1.trans s2).non (n2 a ha)⟩⟩
   | err n=>exact absurd hg (hn _ _ _)
   | bad=>rw [hg] at h; exact h.elim
  | err n=>rw [hu] at h; exact fun C H' e s'=>h C H' e (s1.trans s')
  | bad=>rw [hu] at h; exact h
 | _=>exact h.elim
end
noncomputable def vD:List D->Option (List Str)
 | []=>some []
 | .str b::ds=>(vD ds).map (b::·)
 | _=>none
theorem vE {K:PySem.W.Frag}{H:Hp}:∀ {ds:List D} {bs:List Str} {vs:List V} {L:List Addr},Reps K H ds vs L->vD ds=some bs->vs=bs.map V.str
 | [],bs,_,_,hq4,h=>by
  obtain ⟨e,_⟩:=hq4
  cases h; exact e
 | .str b::ds,bs,_,_,hq4,h=>by
  obtain ⟨v,vs',L1,L2,e1,e2,r1,r2⟩:=hq4
  unfold vD at h
  cases hb:vD ds with
  | none=>rw [hb] at h; cases h
  | some cs =>
   rw [hb] at h
   cases h
   rw [e1,r1.1,vE r2 hb]
   rfl
 | .non::_,_,_,_,_,h=>by cases h
 | .int _::_,_,_,_,_,h=>by cases h
 | .bl _::_,_,_,_,_,h=>by cases h
 | .tup _::_,_,_,_,_,h=>by cases h
 | .lst _::_,_,_,_,_,h=>by cases h
 | .dic _ _::_,_,_,_,_,h=>by cases h
 | .frl _::_,_,_,_,_,h=>by cases h
theorem qc:∀ {ys:List Str} {us:List Value},Vals (ys.map V.str) us->StrsAre us ys
 | [],us,r=>by cases r; exact .nil
 | y::ys,_,r=>by
  rw [List.map_cons] at r
  cases r with
  | cons r1 r2 =>
   obtain ⟨t,rfl⟩:=r1
   exact .cons y t (qc r2)
noncomputable def Ku (K:PySem.W.Frag):V->List V->Hp->VK->Prop:=fun x xs H Q=>∃ z p ys,x=.str z/\xs=[.ref p]/\(SqL K H p (ys.map V.str)\/SqT K H p (ys.map V.str))/\(ys.map (·.length)).sum+ys.length*z.length<=16777216/\Q (.str (Txt.join z ys)) H
theorem jy {X:Cx}:MtR X "str.join" (Ku X.K):=by
 intro pins s σ H x xs v us Q I rx rs h
 obtain ⟨z,p,ys,rfl,rfl,hq,hz,q⟩:=h
 obtain ⟨t,rfl⟩:=rx
 obtain ⟨u,rfl,ru⟩:=v9 rs
 obtain rfl:u=Value.ref p:=ru
 rcases hq with hq | hq
 ·obtain ⟨its,r,pl,_⟩:=I.list hq
  exact join_list pl.isList (by simpa using qc r) hz fun t' k=>⟨.str (Txt.join z ys),H,I.tok _,⟨t',rfl⟩,q⟩
 ·obtain ⟨its,r,pl,_⟩:=I.tuple hq
  exact join_tuple pl (by simpa using qc r) hz fun t' k=>⟨.str (Txt.join z ys),H,I.tok _,⟨t',rfl⟩,q⟩
noncomputable def wm (z:Str):List D->R D
 | [.lst ds]=>match vD ds with
  | some ys=>if (ys.map (·.length)).sum+ys.length*z.length<=16777216 then .ok (.str (Txt.join z ys)) else .bad
  | none=>.bad
 | [.tup ds]=>match vD ds with
  | some ys=>if (ys.map (·.length)).sum+ys.length*z.length<=16777216 then .ok (.str (Txt.join z ys)) else .bad
  | none=>.bad
 | _=>.bad
theorem XD (z:Str):xO (wm z):=fun ds n h=>by
 unfold wm at h
 split at h
 ·split at h
  ·split at h<;>cases h
  ·cases h
 ·split at h
  ·split at h<;>cases h
  ·cases h
 ·cases h
theorem XA {K:PySem.W.Frag}:SmB K (Ku K) wm:=by
 rintro H z xs ds L Q r ⟨d,hg,q⟩
 unfold wm at hg
 split at hg
 ·split at hg
  ·rename_i ds ys hn
   split at hg
   ·rename_i hz
    cases hg
    obtain ⟨v,rfl,a,vs,L',rfl,ha,_,rs⟩:=wF r
    exact ⟨z,a,ys,rfl,rfl,.inl (by rw [<- vE rs hn]; exact SqL.of ha),hz,q _ H [] (Same.refl H) ⟨rfl,rfl⟩ (by simp) (fun a ha=>nomatch ha)⟩
   ·cases hg
  ·cases hg
 ·split at hg
  ·rename_i ds ys hn
   split at hg
   ·rename_i hz
    cases hg
    obtain ⟨v,rfl,a,vs,rfl,ha,rs⟩:=wF r
    exact ⟨z,a,ys,rfl,rfl,.inr (by rw [<- vE rs hn]; exact ha),hz,q _ H [] (Same.refl H) ⟨rfl,rfl⟩ (by simp) (fun a ha=>nomatch ha)⟩
   ·cases hg
  ·cases hg
 ·cases hg
open PySem PySem.Spec PyProof.Rows
theorem TupN.push {h:Heap}{a:Addr}{items:Array Value}(x:TupN h a items)(o:Obj):TupN (h.push o) a items:=let ⟨o',ho,r⟩:=x; ⟨o',Heap.get?_push_of_some o ho,r⟩
theorem TupN.at {h h':Heap}{a:Addr}{items:Array Value}(x:TupN h a items)(k:∀ b o,h.get? b=some o->h'.get? b=some o):TupN h' a items:=let ⟨o',ho,r⟩:=x; ⟨o',k _ _ ho,r⟩
theorem TupN.isTuple {h:Heap}{a:Addr}{items:Array Value}(x:TupN h a items):h.IsTuple a items:=x.tup
theorem ui {h h':Heap}{a:Addr}{items:Array Value}(x:h.IsTuple a items)(k:∀ b o,h.get? b=some o->h'.get? b=some o):h'.IsTuple a items:=let ⟨o',ho,r⟩:=x; ⟨o',k _ _ ho,r⟩
theorem Inv.tupN {X:Cx}{pins:List (Addr×Obj)}{σ:St}{H:Hp}{s:Shared}{a:Addr}{xs:List V}(I:Inv X pins σ H s)(h:SqT X.K H a xs):∃ its:List Value,Vals xs its/\TupN s.heap a its.toArray/\xs.length<=sizeLine:=by
 rcases h with h | ⟨o,its,n,hk,hc,hn,hs,hz,r⟩
 ·obtain ⟨z,its,r,p⟩:=h.ok I.hok
  exact ⟨its,r,p,z⟩
 ·refine ⟨its.toList,r,⟨o,I.kIn a o hk,hc,hn,n,by simpa using hs⟩,?_⟩
  have e:=r.length
  simp only [Array.length_toList] at e
  omega
theorem qM:typeLookup (.type "tuple") "keys"=pure none:=by rw [typeLookup_type,builtinLookup_eq_fast]; kernel_rfl
set_option maxRecDepth 8000 in
theorem ua {prog:Program}{w:World}{A:Around}{E:Value->Shared->Prop}{s:Shared}{a:Addr}{o:Obj}{xs:Array Value}{k:Nat}{name:Str}{Q:Option Value->Shared->Prop}
  (hx:s.heap.get? a=some o) (hc:o.cls=.type "tuple") (hdat:o.data=.seq xs k) (hd:o.dict=none) (hmiss:typeLookup (.type "tuple") name=pure none) (hname:(["__module__","__name__","__qualname__","__doc__","__annotations__"]:List Str).contains name=false) (hA:A.handled=none)
  (h:∀ h' tk,(∀ b o,s.heap.get? b=some o->h'.get? b=some o)->Q none { s with heap:=h',toks:=tk }) (hsz:autoParam (name.length+100<=sizeLine) L2.au9._auto_1) :
  wpAny (model prog w) A (getAttr? (.ref a) name) Q E s:=by
 obtain ⟨c,dct,dat,sl⟩:=o
 simp only at hc hdat hd
 subst hc hdat hd
 obtain ⟨hp,g,d,tk,os⟩:=s
 have hT:∀ tk',(⟨hp,g,d,tk',os⟩:Shared).TypeIs (.ref a) "tuple":=fun _=>⟨_,hx,rfl⟩
 have f1:=sub_AttributeError
 have f3:=PySem.F.slot_tuple_getattribute.lookup
 have f4:=PySem.F.slot_tuple_getattribute.bind (.ref a)
 have f5:=am_tuple_getattr_none
 unfold getAttr? getAttrBy? getAttrBy
 repeat (any_goals (first | assumption | exact hT _ | ((with_reducible show wpAny _ _ (call (Value.builtin "tuple.__getattribute__") _ _) _ _ _); refine call_meets PySem.F.slot_tuple_getattribute (hT _) am_entry_tuple_getattribute (PySem.F.args_tuple_getattribute_2 _ _) (meets_getattribute_miss_tuple a xs k sl name _ hmiss hname hsz) ⟨hx,hA,fun h' tk' e hx'=>?_⟩) | wp_step))
 obtain ⟨t',u',he⟩:=hx'.there
 have hkeep:=hx'.of.keeps
 show wpAny _ _ (getattributeRaised _ _ _ _ _ _ _) _ _ _
 unfold getattributeRaised
 repeat (any_goals (first | assumption | wp_step))
 all_goals exact h _ _ hkeep
theorem xN:entryFor table "dict.update.loop"=some Builtin.«dict.update.loop»:=entryFor_of_tree (by kernel_rfl)
theorem yl:plainId "dict.update.loop"=true:=by decide +kernel
noncomputable def PairsAt (P:Program)(w:World)(h:Heap):List Value->List (Key×Value)->Prop:=Paired fun (v:Value) (p:Key×Value)=>∃ b key,v=.ref b/\h.IsTuple b #[key,p.2]/\(y0 P w).is p.1 key=true
theorem PairsAt.get {P:Program}{w:World}{h:Heap}:∀ {its:List Value} {ps:List (Key×Value)} {i:Nat},PairsAt P w h its ps->i<its.length->∃ b key p,its[i]?=some (.ref b)/\ps[i]?=some p/\h.IsTuple b #[key,p.2]/\(y0 P w).is p.1 key=true
 | _,_,i,.nil,hi=>by simp at hi
 | _,_,0,.cons (a:=v) (b:=p) r t,_=>by
  obtain ⟨b,key,e,x,y⟩:=r
  exact ⟨b,key,p,by rw [e]; rfl,rfl,x,y⟩
 | _,_,i+1,.cons r t,hi=>by
  obtain ⟨b,key,p,e,e2,x,y⟩:=PairsAt.get (i:=i) t (by simpa using hi)
  exact ⟨b,key,p,by simpa using e,by simpa using e2,x,y⟩
section
variable {prog:Program}{w:World}{A:Around}{R:Result->Shared->Prop}
theorem qQ {h0:Heap}{d I t:Addr}{items:List Value}{ps:List (Key×Value)}(hh:A.in1.handled=none)(hd0:h0.get? d=none)(hI0:h0.get? I=none)(hdI:d≠I)(ht0:h0.IsTuple t items.toArray)(hp:PairsAt prog w h0 items ps)(hz:ps.length<=sizeLine) :
  ∀ (k i:Nat) (j:Int) (tk:Tok) (s:Shared),items.length-i=k->i<=items.length->s.heap.IsTupleIter I t i->s.heap.DictOf (y0 prog w) d (merged [] (ps.take i))->(∀ b o,h0.get? b=some o->s.heap.get? b=some o) ->
   (∀ h' tk',h'.DictOf (y0 prog w) d (merged [] ps)->(∀ b o,h0.get? b=some o->h'.get? b=some o)->R (.ok (.ret .none)) { s with heap:=h',toks:=tk' }) ->
   codeAny (model prog w) A (.builtin "dict.update.loop" ⟨[.ref d,.ref I,.int j tk,.none],[]⟩) R s:=by
 have hlen:items.length=ps.length:=Paired.length hp
 have hne:∀ {b o},h0.get? b=some o->b≠d/\b≠I:=fun {b o} e=>⟨(fun z=>by rw [z,hd0] at e; cases e),(fun z=>by rw [z,hI0] at e; cases e)⟩
 intro k
 induction k with
 | zero =>
  intro i j tk s hk hi hit hD hkeep hR
  have hin:i=items.length:=by omega
  subst hin
  refine codeAny_builtin xN ?_
  rw [Around.under_plainId yl _]
  show wpAny _ A.in1 (pyNext (.ref I) >>= _) _ _ s
  refine wpAny_bind (wpAny_pyNext_tuple_end hh hit (ui ht0 hkeep) (by simp) fun h' eb=>?_)
  show wpAny _ A.in1 (Builtin.Dict.addKeywords d [] >>= _) _ _ _
  refine wpAny_bind (wpAny_pure (wpAny_pure (hR h' s.toks ?_ fun b o e=>eb b o (hne e).2 (hkeep b o e))))
  obtain ⟨o,es,ep,ho,rest⟩:=hD
  rw [hlen,List.take_length] at rest
  exact ⟨o,es,ep,eb d o hdI ho,rest⟩
 | succ k ih =>
  intro i j tk s hk hi hit hD hkeep hR
  have hlt:i<items.length:=by omega
  obtain ⟨b,key,p,e1,e2,x,y⟩:=hp.get hlt
  refine codeAny_builtin xN ?_
  rw [Around.under_plainId yl _]
  show wpAny _ A.in1 (pyNext (.ref I) >>= _) _ _ s
  refine wpAny_bind (wpAny_pyNext_tuple_item hit (ui ht0 hkeep) (x:=.ref b) (by simpa using e1) fun h1 hit1 sb1=>?_)
  have hkeep1:∀ b o,h0.get? b=some o->h1.get? b=some o:=fun b o e=>(sb1.2 b (hne e).2).trans (hkeep b o e)
  have hD1:h1.DictOf (y0 prog w) d (merged [] (ps.take i)):=by
   obtain ⟨o,es,ep,ho,rest⟩:=hD
   exact ⟨o,es,ep,(sb1.2 d hdI).trans ho,rest⟩
  have x1:=ui x hkeep1
  show wpAny _ A.in1 (holding [Value.ref b] _ >>= _) _ _ _
  refine wpAny_bind (wpAny_holding ?_)
  refine wpAny_bind (wpAny_tryCatch ?_)
  obtain ⟨ob,hob,hcb,nb,hdb⟩:=x1
  unfold Builtin.Dict.pairItems
  refine wpAny_bind (wpAny_typeOf ⟨ob,hob,hcb⟩ ?_)
  rw [if_pos (by decide)]
  refine wpAny_bind (wpAny_seqItems hob hdb ?_)
  refine wpAny_pure ?_
  show wpAny _ A.in1 (holding [key,p.2] (dictSet d key p.2)) _ _ _
  have hz1:(merged [] (ps.take i)).length<=sizeLine:=by
   have:=merged_length_le [] (ps.take i)
   rw [List.length_take] at this
   simp only [List.length_nil] at this
   omega
  refine wpAny_holding (wpAny_dictSet_pairs (hsz:=hz1) y hD1 fun h2 hD2 sb2=>?_)
  rw [<- merged_take_succ [] ps i p e2] at hD2
  refine wpAny_pure ⟨plainId_quiet yl _,ih (i+1) _ _ _ (by omega) hlt ?_ hD2 (fun b o e=>(sb2.2 b (hne e).1).trans (hkeep1 b o e)) ?_⟩
  ·obtain ⟨oi,hoi,r⟩:=hit1
   exact ⟨oi,(sb2.2 I (Ne.symm hdI)).trans hoi,r⟩
  ·exact hR
end
section
variable {prog:Program}{w:World}{A:Around}{E:Value->Shared->Prop}{s:Shared}
theorem qU {t:Addr}{items:List Value}{ps:List (Key×Value)}{Q:Value->Shared->Prop}(hh:A.handled=none)(ht:TupN s.heap t items.toArray)(hp:PairsAt prog w s.heap items ps)(hz:ps.length<=sizeLine)
  (h:∀ h' tk,h'.DictOf (y0 prog w) s.heap.objs.size (merged [] ps)->(∀ b o,s.heap.get? b=some o->h'.get? b=some o)->Q (.ref s.heap.objs.size) { s with heap:=h',toks:=tk }) :
  wpAny (model prog w) A (call (.type "dict") [.ref t]) Q E s:=by
 refine callType_codes (Q₁:=fun obj s₁=>obj=.ref s.heap.objs.size/\s₁={ s with heap:=s.heap.push { cls:=.type "dict",data:=.dict #[] } }) PySem.F.kt_called_dict (PySem.F.kt_typeCall_dict_1 _) PySem.F.entry_dict_init (kt_code_dict_new _ ⟨rfl,rfl⟩) ?_
 rintro obj s₁ ⟨rfl,rfl⟩
 have hnew:(s.heap.push { cls:=.type "dict",data:=.dict #[] }).DictOf (y0 prog w) s.heap.objs.size []:=Heap.DictOf.new s.heap
 have ht':=ht.push { cls:=.type "dict",data:=.dict #[] }
 refine ⟨hnew.typeIs,PySem.F.args_dict_init_2 _ _,?_⟩
 unfold Builtin.«dict.__init__»
 refine wpAny_bind ?_
 unfold Builtin.Dict.selfAndRest
 refine wpAny_bind (wpAny_notOrdered_dict hnew.typeIs ?_)
 show wpAny _ _ (pure (s.heap.objs.size,[Value.ref t])) _ _ _
 refine wpAny_pure ?_
 show wpAny _ _ (Builtin.Dict.updateFrom "dict.__init__" s.heap.objs.size (.ref t) [] .none) _ _ _
 unfold Builtin.Dict.updateFrom
 obtain ⟨ot,ht1,ht2,⟨ht3,_⟩,nt,ht4⟩:=ht'
 refine wpAny_bind (wpAny_typeOf ⟨ot,ht1,ht2⟩ ?_)
 rw [if_pos (by decide)]
 refine wpAny_bind (ua ht1 ht2 ht4 ht3 qM (by decide) hh (fun h1 tk1 k1=>?_) (by size_fits))
 rw [if_pos (show (none:Option Value).isNone=true from rfl)]
 refine wpAny_bind (wpAny_rule ?_)
 have hlt:s.heap.objs.size<h1.objs.size:=by
  have:h1.get? s.heap.objs.size=some _:=k1 _ _ (Heap.get?_push_size s.heap (o:={ cls:=.type "dict",data:=.dict #[] }) rfl)
  exact Heap.lt_size this
 have hk01:∀ b o,s.heap.get? b=some o->h1.get? b=some o:=fun b o e=>k1 b o (Heap.get?_push_of_some _ e)
 refine wpAny_bind (wpAny_pyIter_tuple (ht.at hk01).isTuple ?_)
 have hfr:∀ b,s.heap.objs.size<=b->s.heap.get? b=none:=fun b hb=>by
  cases e:s.heap.get? b with
  | none=>rfl
  | some o=>exact absurd (Heap.lt_size e) (Nat.not_lt.mpr hb)
 refine wpAny_pure ⟨plainId_quiet yl _,qQ (A:=A.in1) (h0:=s.heap) (d:=s.heap.objs.size) (I:=h1.objs.size) (t:=t) (items:=items) (ps:=ps) hh (hfr _ (Nat.le_refl _)) (hfr _ (Nat.le_of_lt hlt)) (Nat.ne_of_lt hlt) ht.isTuple hp hz (items.length-0) 0 0 0 _ rfl (Nat.zero_le _) ⟨_,Heap.get?_push_size _ rfl,rfl,rfl⟩ ?_ (fun b o e=>Heap.get?_push_of_some _ (hk01 b o e)) ?_⟩
 ·obtain ⟨o,es,ep,ho,rest⟩:=hnew
  exact ⟨o,es,ep,Heap.get?_push_of_some _ (k1 _ _ ho),rest⟩
 ·exact fun h' tk' hD hk=>⟨rfl,h h' tk' hD hk⟩
end
open PySem PySem.Spec PyProof.Rows
noncomputable def uV {β:Type}:List Key->List β->Key->β->List β
 | k'::ks,x::xs,k,y=>(if k'=k then y else x)::uV ks xs k y
 | _,_,_,_=>[]
noncomputable def wb (ks:List Key)(ds:List D)(k:Key)(d:D):List Key×List D:=if k∈ks then (ks,uV ks ds k d) else (ks++[k],ds++[d])
noncomputable def vj:List Key->List D->List (Key×D)->List Key×List D
 | ks,ds,[]=>(ks,ds)
 | ks,ds,(k,d)::r=>vj (wb ks ds k d).1 (wb ks ds k d).2 r
section
variable {K:PySem.W.Frag}{H:Hp}
theorem QB:∀ {kvs:List (Key×V)} {k:Key} {v:V},k∈kvs.map (·.1)->xQ kvs k v=kvs.map (fun kv=>if kv.1=k then (kv.1,v) else kv):=by
 intro kvs k v h
 unfold xQ
 rw [if_pos]
 rw [List.any_eq_true]
 obtain ⟨p,hp,e⟩:=List.mem_map.mp h
 exact ⟨p,hp,by simpa using e⟩
theorem YC:∀ (kvs:List (Key×V)) (k:Key) (v:V),(kvs.map (fun kv=>if kv.1=k then (kv.1,v) else kv)).map (·.1)=kvs.map (·.1)
 | [],_,_=>rfl
 | p::r,k,v=>by
  rw [List.map_cons,List.map_cons,List.map_cons,YC r k v]
  congr 1
  split<;>rfl
theorem Yo:∀ (kvs:List (Key×V)) (k:Key) (v:V),(kvs.map (fun kv=>if kv.1=k then (kv.1,v) else kv)).map (·.2)=uV (kvs.map (·.1)) (kvs.map (·.2)) k v
 | [],_,_=>rfl
 | p::r,k,v=>by
  rw [List.map_cons,List.map_cons,List.map_cons,List.map_cons,Yo r k v]
  show _=(if p.1=k then v else p.2)::_
  congr 1
  split<;>rfl
theorem Reps.repl {k:Key}{d:D}{v:V}(rd:Rep K H d v []):∀ {ks:List Key} {ds:List D} {vs:List V} {L:List Addr},Reps K H ds vs L->ks.length=ds.length->∃ L2,Reps K H (uV ks ds k d) (uV ks vs k v) L2/\List.Sublist L2 L
 | [],[],_,_,hq4,_=>by
  obtain ⟨e1,e2⟩:=hq4
  exact ⟨[],by subst e1; exact Reps.nil,List.nil_sublist _⟩
 | [],_::_,_,_,_,h=>by cases h
 | _::_,[],_,_,_,h=>by cases h
 | k'::ks,d'::ds,_,_,hq4,h=>by
  obtain ⟨v',vs',L1,L2,e1,e2,h1,h2⟩:=hq4
  subst e1 e2
  obtain ⟨L3,a,b⟩:=Reps.repl (ks:=ks) rd h2 (by simpa using h)
  by_cases e:k'=k
  ·refine ⟨[]++L3,?_,?_⟩
   ·show Reps K H ((if k'=k then d else d')::uV ks ds k d) ((if k'=k then v else v')::uV ks vs' k v) _
    rw [if_pos e,if_pos e]
    exact Reps.cons rd a
   ·exact b.trans (List.sublist_append_right _ _)
  ·refine ⟨L1++L3,?_,List.Sublist.append (List.Sublist.refl _) b⟩
   show Reps K H ((if k'=k then d else d')::uV ks ds k d) ((if k'=k then v else v')::uV ks vs' k v) _
   rw [if_neg e,if_neg e]
   exact Reps.cons h1 a
theorem Wv {kvs:List (Key×V)}{ds:List D}{L:List Addr}{k:Key}{d:D}{v:V}(rs:Reps K H ds (kvs.map (·.2)) L)(nd:(kvs.map (·.1)).Nodup)(rd:Rep K H d v []) :
  (xQ kvs k v).map (·.1)=(wb (kvs.map (·.1)) ds k d).1/\(wb (kvs.map (·.1)) ds k d).1.Nodup/\∃ L2,Reps K H (wb (kvs.map (·.1)) ds k d).2 ((xQ kvs k v).map (·.2)) L2/\List.Sublist L2 L:=by
 unfold wb
 by_cases h:k∈kvs.map (·.1)
 ·rw [if_pos h,QB h,YC,Yo]
  refine ⟨rfl,nd,Reps.repl rd rs ?_⟩
  rw [<- rs.length,List.length_map,List.length_map]
 ·rw [if_neg h,jv h]
  refine ⟨by rw [List.map_append]; rfl,?_,L,?_,List.Sublist.refl _⟩
  ·refine List.nodup_append.mpr ⟨nd,by simp,fun a ha b hb z=>?_⟩
   rw [List.mem_singleton] at hb
   subst hb z
   exact h ha
  ·rw [List.map_append]
   have:=Reps.append rs (Reps.cons rd (Reps.nil (K:=K) (H:=H)))
   rw [List.append_nil,List.append_nil] at this
   exact this
theorem kW:∀ (ps:List (Key×D)) (qs:List (Key×V)) (kvs:List (Key×V)) (ds:List D),Paired (fun (p:Key×D) (q:Key×V)=>p.1=q.1/\Rep K H p.2 q.2 []) ps qs->Reps K H ds (kvs.map (·.2)) []->(kvs.map (·.1)).Nodup ->
  (xo kvs qs).map (·.1)=(vj (kvs.map (·.1)) ds ps).1/\(vj (kvs.map (·.1)) ds ps).1.Nodup/\Reps K H (vj (kvs.map (·.1)) ds ps).2 ((xo kvs qs).map (·.2)) []
 | [],_,kvs,ds,h,rs,nd=>by
  cases h
  exact ⟨rfl,nd,rs⟩
 | p::ps,_,kvs,ds,h,rs,nd=>by
  cases h with
  | @cons _ q _ qs e t =>
   obtain ⟨e1,e2⟩:=e
   obtain ⟨a1,a2,L2,a3,a4⟩:=Wv (k:=p.1) rs nd e2
   have z:L2=[]:=by simpa using a4
   subst z
   obtain ⟨b1,b2,b3⟩:=kW ps qs (xQ kvs p.1 q.2) _ t a3 (a1▸a2)
   show (xo (xQ kvs q.1 q.2) qs).map (·.1)=(vj (wb (kvs.map (·.1)) ds p.1 p.2).1 (wb (kvs.map (·.1)) ds p.1 p.2).2 ps).1/\_
   rw [<- e1,<- a1]
   refine ⟨b1,?_,?_⟩
   ·show (vj (wb (kvs.map (·.1)) ds p.1 p.2).1 (wb (kvs.map (·.1)) ds p.1 p.2).2 ps).1.Nodup
    rw [<- a1]; exact b2
   ·show Reps K H (vj (wb (kvs.map (·.1)) ds p.1 p.2).1 (wb (kvs.map (·.1)) ds p.1 p.2).2 ps).2 ((xo (xQ kvs q.1 q.2) qs).map (·.2)) []
    rw [<- a1,<- e1]; exact b3
noncomputable def uK:List D->Option (List (Key×D))
 | []=>some []
 | .tup [k,d]::ps=>match uF k with
  | some k'=>if d.imm=true then (uK ps).map ((k',d)::·) else none
  | none=>none
 | _=>none
theorem ju:∀ {ps:List D} {kds:List (Key×D)} {vs:List V} {L:List Addr},Reps K H ps vs L->uK ps=some kds ->
  ∃ qs:List (Key×V),Paired (fun (v:V) (q:Key×V)=>∃ b,v=.ref b/\SqT K H b [kV q.1,q.2]) vs qs/\Paired (fun (p:Key×D) (q:Key×V)=>p.1=q.1/\Rep K H p.2 q.2 []) kds qs
 | [],kds,_,_,hq4,h=>by
  obtain ⟨e,_⟩:=hq4
  cases h; subst e
  exact ⟨[],.nil,.nil⟩
 | d::ps,kds,_,_,hq4,h=>by
  obtain ⟨v,vs',L1,L2,e1,e2,r1,r2⟩:=hq4
  subst e1
  unfold uK at h
  split at h
  ·rename_i e; cases e
  ·rename_i k d' ps' e
   injection e with e3 e4
   subst e3 e4
   split at h
   ·rename_i k' hk
    split at h
    ·rename_i hi
     cases hp:uK ps with
     | none=>rw [hp] at h; cases h
     | some r =>
      rw [hp] at h
      cases h
      obtain ⟨qs,a,b⟩:=ju r2 hp
      obtain ⟨bb,ws,ev,hs,⟨v1,ws',M1,M2,f1,f2,g1,v2,ws'',M3,M4,f3,f4,g2,g3,_⟩⟩:=r1
      subst f1 f3 g3
      have hM:=Rep.imm _ _ _ g2 hi
      subst hM
      refine ⟨(k',v2)::qs,.cons ⟨bb,ev,?_⟩ a,.cons ⟨rfl,g2⟩ b⟩
      rw [<- qu hk g1]
      exact hs
    ·cases h
   ·cases h
  ·cases h
end
noncomputable def w8 (i:Nat)(t ti:Tn->R D):Tn->R Fl:=fun τ=>(t τ).bind fun d=>(z7 i τ).bind fun l=>(ti τ).bind fun k=>match l,uF k with
 | .dic ks ds,some k=>if d.imm=true/\ks.length<sizeLine then .ok (.nx (τ.set i (some (.dic (wb ks ds k d).1 (wb ks ds k d).2)))) else .bad
 | _,_=>.bad
section
variable {X:Cx}{E:XK}{Γ Γ1 Γ' Γl:List Cl}{e a b o f:Expr}{es:List Expr}{t t' u v:Tn->R D}{c ca cb:Rc}{pos:Pos}
theorem Vc (i:Nat){x:Str}{p0 p1:Pos}{ix:Expr}{ti:Tn->R D}(hu:X.A.units+1<cLine)(h:MV X E Γ e t Γ1)(hi:ME X E Γ1 ix ti c)(hN:autoParam (X.N[i]?=some x) L2.au3._auto_1)(hk:autoParam (Γ1[i]?=some .own) L2.au3._auto_1)(hv:autoParam (Vis X.env.scope x) L2.au5._auto_1)(hb:autoParam ((x==("__debug__":Str))=false) L2.au1._auto_1)(hcd:autoParam ((x==("__classdict__":Str))=false) L2.au1._auto_1)
  (hs:autoParam (swapsWith e (some (.Subscript (.Name x p0) ix p1)) pos.line X.env=pure false) L2.au3._auto_1) :
  MS X E Γl Γ (.Assign [.Subscript (.Name x p0) ix p1] e pos) (w8 i t ti) Γ1:=by
 obtain ⟨te,p,q⟩:=h
 obtain ⟨te',p',q'⟩:=hi
 refine ⟨_,JB hu (vC (pos:=p0) hN hv hb hcd) p' p hs,fun B σ H τ Z ok h=>q B σ H τ [] _ ok ?_⟩
 unfold w8 at h
 cases ht:t τ with
 | ok d' =>
  rw [ht,R.ok_bind] at h
  refine fun y H1 Le s1 ry ok1=>?_
  obtain ⟨v1,d1,L1,q1,q2,r1,n1,n2,_⟩:=ok1.slot hk
  refine ⟨v1,q1,?_⟩
  have ev:z7 i τ=.ok d1:=by unfold z7; rw [q2]
  rw [ev,R.ok_bind] at h
  obtain ⟨O,eo,_⟩:=ok1.eok
  refine q' O σ H1 τ _ eo ?_
  cases hk':ti τ with
  | ok dk =>
   rw [hk',R.ok_bind] at h
   refine fun kv H2 Lk s2 rk _=>?_
   have ok2:=ok1.same s2
   obtain ⟨v2,d2,L2,q3,q4,r2,m1,m2,fin⟩:=ok2.slot hk
   rw [q1] at q3
   cases q3
   rw [q2] at q4
   cases q4
   cases d1 with
   | dic ks ds =>
    cases hko:uF dk with
    | none=>rw [hko] at h; exact h.elim
    | some k =>
     rw [hko] at h
     dsimp only at h
     by_cases hz:d'.imm=true/\ks.length<sizeLine
     ·rw [if_pos hz] at h
      obtain ⟨a,kvs,L',rfl,ha2,z2,hks,hnd,rs⟩:=r2
      subst z2
      have mu:(∃ vs,H2 a=some (.lst vs))\/∃ kvs,H2 a=some (.dK kvs):=.inr ⟨_,ha2⟩
      have zL:=Rep.imm _ _ _ ry hz.1
      subst zL
      obtain ⟨w1,w2⟩:=List.nodup_cons.mp m1
      have r3:=(ry.same s2).upd (o:=.dK (xQ kvs k y)) mu (by simp)
      have rs3:=rs.upd (o:=.dK (xQ kvs k y)) mu w1
      subst hks
      obtain ⟨a1,a2,L3,a3,a4⟩:=Wv (k:=k) rs3 hnd r3
      refine ⟨a,_,rfl,?_,h _ _ (fin _ _ (a::L3) [] [] rfl (TF.upd mu) (fun b hb _=>y4 fun z=>hb (z▸List.mem_cons_self)) ⟨a,_,L3,rfl,zK,rfl,a1,a2,a3⟩ (fun b hb=>?_) ?_)⟩
      ·rw [qu hko rk]
       exact DPut.k ha2 (by have:=hz.2; rw [List.length_map] at this; exact this)
      ·rcases List.mem_cons.mp hb with z | z
       ·exact .inl (z▸List.mem_cons_self)
       ·exact .inl (List.mem_cons_of_mem _ (a4.subset z))
      ·exact List.nodup_cons.mpr ⟨fun z=>w1 (a4.subset z),w2.sublist a4⟩
     ·rw [if_neg hz] at h; exact h.elim
   | _=>exact h.elim
  | err n=>rw [hk'] at h; exact fun C H' e s=>h C H' e (ok1.ext.trans s)
  | bad=>rw [hk'] at h; exact h
 | err n=>rw [ht] at h; exact h
 | bad=>rw [ht] at h; exact h
end
open PySem PySem.Spec PyProof.Rows
noncomputable def XO (K:PySem.W.Frag):List V->Hp->VK->Prop:=fun xs H Q=>∃ a vs,∃ qs:List (Key×V),xs=[.ref a]/\SqT K H a vs/\Paired (fun (v:V) (q:Key×V)=>∃ b,v=.ref b/\SqT K H b [kV q.1,q.2]) vs qs/\∀ l,H l=none->Q (.ref l) (upd H l (.dK (xo [] qs)))
section
variable {X:Cx}
theorem Yt {pins:List (Addr×Obj)}{σ:St}{H:Hp}{s:Shared}(I:Inv X pins σ H s):∀ {vs:List V} {qs:List (Key×V)} {its:List Value},Paired (fun (v:V) (q:Key×V)=>∃ b,v=.ref b/\SqT X.K H b [kV q.1,q.2]) vs qs->Vals vs its ->
  ∃ ps:List (Key×Value),PairsAt X.prog X.w s.heap its ps/\KV qs ps
 | _,_,_,.nil,.nil=>⟨[],.nil,.nil⟩
 | _,_,_,.cons (b:=q) h t,.cons r t2=>by
  obtain ⟨b,rfl,hs⟩:=h
  obtain ⟨ps,a1,a2⟩:=Yt I t t2
  obtain ⟨its2,r2,pl,_⟩:=I.tuple hs
  cases r
  cases r2 with
  | cons rk r3 =>
   cases r3 with
   | cons rv r4 =>
    cases r4
    rename_i key u
    exact ⟨(q.1,u)::ps,.cons ⟨b,key,rfl,pl,Y0 rk⟩ a1,.cons ⟨rfl,rv⟩ a2⟩
theorem XB (hc:X.calm=true):CallR X (.type "dict") (XO X.K):=by
 intro pins s σ H xs us Q I r h
 obtain ⟨a,vs,qs,rfl,ha,hp,q⟩:=h
 obtain ⟨u,rfl,ru⟩:=v9 r
 obtain rfl:u=Value.ref a:=ru
 obtain ⟨its,rv,tn,hz⟩:=I.tupN ha
 obtain ⟨ps,hps,kv⟩:=Yt I hp rv
 have hl1:vs.length=qs.length:=Paired.length hp
 have hl2:=kv.length
 refine qU (I.ok.hd hc) tn hps (by omega) fun h' tk hD hk=>?_
 refine ⟨.ref s.heap.objs.size,_,I.laid (o:=.dK (xo [] qs)) (t':=tk) hk (Nat.le_refl _) ?_,rfl,q _ (I.hok.fresh (Nat.le_refl _))⟩
 have hm:KV (xo [] qs) (merged [] ps):=KV.merge kv .nil
 refine ⟨?_,beq_eq_false_iff_ne.mpr (Ne.symm (Nat.ne_of_lt I.big)),_,hm,hD⟩
 have e1:=hm.length
 have e2:=merged_length_le [] ps
 simp only [List.length_nil] at e2
 omega
theorem Xr (hc:X.calm=true):CallR X (.type "dict") (fun xs H Q=>Zj xs H Q\/XO X.K xs H Q):=CallR.or Xg (XB hc)
end
noncomputable def vB:List D->R D
 | [.dic ks ds]=>if D.imms ds=true then .ok (.dic ks ds) else .bad
 | [.tup ps]=>match uK ps with
  | some kds=>.ok (.dic (vj [] [] kds).1 (vj [] [] kds).2)
  | none=>.bad
 | _=>.bad
theorem QG:xO vB:=fun ds n h=>by
 unfold vB at h
 split at h
 ·split at h<;>cases h
 ·split at h<;>cases h
 ·cases h
theorem JR {K:PySem.W.Frag}:ClB K (fun xs H Q=>Zj xs H Q\/XO K xs H Q) vB:=by
 rintro H xs ds L Q r ⟨d,hg,q⟩
 unfold vB at hg
 split at hg
 ·rename_i ks ds
  refine .inl (JW H xs _ L Q r ⟨d,hg,q⟩)
 ·rename_i ps
  split at hg
  ·rename_i kds hp
   cases hg
   obtain ⟨v,rfl,a,vs,rfl,ha,rs⟩:=wF r
   obtain ⟨qs,h1,h2⟩:=ju rs hp
   refine .inr ⟨a,vs,qs,rfl,ha,h1,fun l hl=>?_⟩
   obtain ⟨b1,b2,b3⟩:=kW kds qs [] [] h2 Reps.nil List.nodup_nil
   exact q _ _ [l] (Same.new hl) ⟨l,_,[],rfl,zK,rfl,b1,b2,b3.same (Same.new hl)⟩ (by simp) (fun b hb=>by rw [List.mem_singleton.mp hb]; exact hl)
  ·cases hg
 ·cases hg
section
variable {X:Cx}{E:XK}{Γ:List Cl}{u:Tn->R (List D)}{c:Rc}{p pos:Pos}
end
open PySem PySem.Spec PyProof.Rows
noncomputable def Vs (i:Nat)(τ:Tn)(d:D):D->D->R Fl
 | .dic ks ds,k=>(match uF k with
  | some k=>if d.imm=true/\ks.length<sizeLine then .ok (.nx (τ.set i (some (.dic (wb ks ds k d).1 (wb ks ds k d).2)))) else .bad
  | none=>.bad)
 | _,_=>.bad
theorem Uv {i:Nat}{t ti:Tn->R D}{τ:Tn}:w8 i t ti τ=(t τ).bind fun d=>(z7 i τ).bind fun l=>(ti τ).bind fun k=>Vs i τ d l k:=by
 unfold w8
 congr 1; funext d; congr 1; funext l; congr 1; funext k
 cases l with
 | dic ks ds =>
  cases h:uF k<;>simp only [Vs,h]
 | _=>rfl
theorem Je {i:Nat}{τ:Tn}{d:D}{ks:List Key}{ds:List D}{x:Str}(hd:d.imm=true)(hl:ks.length<16777216):Vs i τ d (.dic ks ds) (.str x)=.ok (.nx (τ.set i (some (.dic (wb ks ds (.inr x) d).1 (wb ks ds (.inr x) d).2)))):=if_pos ⟨hd,by rw [sizeLine_eq]; exact hl⟩
noncomputable def smD (g:Str->List D->R D)(u:Tn->R (List D))(τ:Tn):D->R D
 | .str z=>(u τ).bind fun ds=>g z ds
 | _=>.bad
theorem XG {g:Str->List D->R D}{t:Tn->R D}{u:Tn->R (List D)}{τ:Tn}:eSm g t u τ=(t τ).bind (smD g u τ):=by
 unfold eSm
 congr 1
theorem YY {g:Str->List D->R D}{u:Tn->R (List D)}{τ:Tn}{z:Str}:smD g u τ (.str z)=(u τ).bind fun ds=>g z ds:=rfl
theorem jK:∀ ys:List Str,vD (ys.map D.str)=some ys
 | []=>rfl
 | y::ys=>by rw [List.map_cons]; show (vD (ys.map D.str)).map (y::·)=_; rw [jK ys]; rfl
theorem Qb {z:Str}{ys:List Str}(h:(ys.map (·.length)).sum+ys.length*z.length<=16777216):wm z [.lst (ys.map D.str)]=.ok (.str (Str.join z ys)):=by
 have e:Txt.join z ys=Str.join z ys:=eq_of_beq (join_plain_closes z ys)
 simp only [wm,jK,if_pos h,e]
theorem Wu (x y:Str):(x++y).cps.toList=x.cps.toList++y.cps.toList:=by
 show (x.cps++y.cps).toList=_
 simp
theorem Wj {d:D}(hd:∀ ks xs,d≠.dic ks xs)(h:eqF 12 d d=some true):eqR true d d=.ok (.bl false):=by
 cases d with
 | dic ks xs=>exact absurd rfl (hd ks xs)
 | _=>simp only [eqR,h]<;>rfl
open PySem PySem.Spec PyProof.Rows
section
variable {prog:Program}{w:World}{A:Around}{R:Result->Shared->Prop}
end
section
variable {prog:Program}{w:World}{A:Around}{E:Value->Shared->Prop}{s:Shared}
end
section
variable {X:Cx}{E:XK}{Γ:List Cl}{e f:Expr}{t u:Tn->R D}{ca cb:Rc}{p pos kp:Pos}{te tf:TE}
end
open PySem PySem.Spec PyProof.Rows
theorem kX {k:Tn->R Bool}{body:Tn->R Fl}(Iv:Tn->Prop)(μ:Tn->Nat)(hs:∀ τ,Iv τ->k τ=.ok false\/(k τ=.ok true/\∃ τ2,body τ=.ok (.nx τ2)/\Iv τ2/\μ τ2<μ τ))(τ:Tn)(h0:Iv τ) :
  ∃ τ',xU k body τ=.ok (.nx τ')/\Iv τ'/\k τ'=.ok false:=by
 have go:∀ (m:Nat) (τ:Tn),μ τ<=m->Iv τ->∃ n τ',wd k body n τ=.ok (.nx τ')/\Iv τ'/\k τ'=.ok false:=by
  intro m
  induction m with
  | zero =>
   intro τ hm h
   rcases hs τ h with e | ⟨e,τ2,_,_,hlt⟩
   ·exact ⟨1,τ,by rw [wd,e]; rfl,h,e⟩
   ·lia
  | succ m ih =>
   intro τ hm h
   rcases hs τ h with e | ⟨e,τ2,e2,h2,hlt⟩
   ·exact ⟨1,τ,by rw [wd,e]; rfl,h,e⟩
   ·obtain ⟨n,τ',a,b,c⟩:=ih τ2 (by lia) h2
    exact ⟨n+1,τ',by rw [wd,e,R.ok_bind,if_pos rfl,e2,R.ok_bind]; exact a,b,c⟩
 obtain ⟨n,τ',a,b,c⟩:=go (μ τ) τ (Nat.le_refl _) h0
 exact ⟨τ',V4 a (by simp),b,c⟩
theorem qJ:∀ bs:List Bool,vk (bs.map D.bl)=some bs
 | []=>rfl
 | b::bs=>by rw [List.map_cons]; show (vk (bs.map D.bl)).map (b::·)=_; rw [qJ bs]; rfl
theorem Qi {bs:List Bool}:XF [.lst (bs.map D.bl)]=.ok (.bl (bs.all id)):=by
 simp only [XF,qJ]
open PySem PySem.Spec PyProof.Rows
theorem Uc (A:Around)(s:Shared)(a:Int)(t:Tok)(c:Int)(u:Tok)(prog:Program)(w:World)(E:Value->Shared->Prop)(Q:Value->Shared->Prop)(h:Q (.bool (decide (a>c))) s) :
  wpAny (model prog w) A (richCompare .Gt (.int a t) (.int c u)) Q E s :=
 CmpOf.ints_gt (P:=fun k v=>∃ t,v=.int (if k=0 then a else c) t) (fun k=>if k=0 then a else c) (fun _ _ h=>h) 0 1 (.int a t) (.int c u) _ _ _ ⟨t,rfl⟩ ⟨u,rfl⟩ h
noncomputable def qO:List Int->List Int->Bool
 | [],_=>false
 | _::_,[]=>true
 | a::as,b::bs=>if a=b then qO as bs else decide (a>b)
section
open PySem.SeqAt PySem.MeetsSeq3
open PySem.AutoSeq1 (wpAny_loadPart')
end
open PySem PySem.Spec PyProof.Rows
section
variable {X:Cx}{E:XK}{Γ Γ1 Γ' Γl:List Cl}{e:Expr}{t:Tn->R D}{pos:Pos}
end
open PySem PySem.Spec PyProof.Rows
section
open PySem.SeqAt PySem.MeetsSeq3
open PySem.AutoSeq1 (wpAny_loadPart')
end
section
variable {X:Cx}{pins:List (Addr×Obj)}{σ:St}{H:Hp}{s:Shared}
end
open PySem PySem.Spec PyProof.Rows
structure Src (P:Program)(w:World)(i l:Addr)(xs:Array Value)(st:Nat->Heap->Prop):Prop where
 keep:∀ k h h',st k h->(∀ b,b=i\/b=l->∀ o,h.get? b=some o->h'.get? b=some o)->st k h'
 obj:∀ k h,st k h->∃ o vs,h.get? i=some o/\o.data=.fields vs
 item:∀ (A:Around) (k:Nat) (s:Shared) (Q:Value->Shared->Prop) (E:Value->Shared->Prop) (x:Value),st k s.heap->xs[k]?=some x->(∀ h',st (k+1) h'->Heap.SameBut i s.heap h'->Q x { s with heap:=h' })->wpAny (model P w) A (Builtin.SmallTypes.nextOf (.ref i)) Q E s
 stop:∀ (A:Around) (k:Nat) (s:Shared) (Q:Value->Shared->Prop) (E:Value->Shared->Prop),A.handled=none->st k s.heap->xs[k]?=none->(∀ h' e,Heap.ExtBut i s.heap h'->(∃ o,h'.get? e=some o/\o.cls=.type "StopIteration")->E (.ref e) { s with heap:=h' })->wpAny (model P w) A (Builtin.SmallTypes.nextOf (.ref i)) Q E s
section
variable {prog:Program}{w:World}{A:Around}{E:Value->Shared->Prop}{s:Shared}
end
section
variable {prog:Program}{w:World}{A:Around}{E:Value->Shared->Prop}{s:Shared}
variable {z TI TO i1 i2 l1 l2:Addr}{k:Nat}{xs ys:Array Value}{st1 st2:Nat->Heap->Prop}{a b:Value}
structure ZSt (z TI TO i1 i2:Addr)(st1 st2:Nat->Heap->Prop)(f0:Value)(k1 k2:Nat)(h:Heap):Prop where
 z:IsZip h z TI TO f0
 ti:IsPair h TI (.ref i1) (.ref i2)
 to':∃ a b,IsPair h TO a b
 s1:st1 k1 h
 s2:st2 k2 h
theorem ZSt.keep {f0:Value}{k1 k2:Nat}{h h':Heap}(D:ZipApart z TI TO i1 i2 l1 l2)(S1:Src prog w i1 l1 xs st1)(S2:Src prog w i2 l2 ys st2)(S:ZSt z TI TO i1 i2 st1 st2 f0 k1 k2 h)(e:∀ c o,h.get? c=some o->h'.get? c=some o):ZSt z TI TO i1 i2 st1 st2 f0 k1 k2 h' :=
 ⟨e _ _ S.z,e _ _ S.ti,let ⟨a,b,q⟩:=S.to'; ⟨a,b,e _ _ q⟩,S1.keep _ _ _ S.s1 fun c _ o=>e c o,S2.keep _ _ _ S.s2 fun c _ o=>e c o⟩
end
open PySem PySem.Spec PyProof.Rows
noncomputable def IIt:Bool->Heap->Addr->Addr->Nat->Prop
 | true,h,i,l,k=>h.IsTupleIter i l k
 | false,h,i,l,k=>h.IsListIter i l k
noncomputable def ISq:Bool->Heap->Addr->Array Value->Prop
 | true,h,l,xs=>h.IsTuple l xs
 | false,h,l,xs=>h.IsList l xs
theorem IIt.at {t:Bool}{h h':Heap}{i l:Addr}{k:Nat}(x:IIt t h i l k)(e:∀ o,h.get? i=some o->h'.get? i=some o):IIt t h' i l k:=by
 cases t
 ·exact Heap.IsListIter.at (h:=h) x e
 ·exact Heap.IsTupleIter.at (h:=h) x e
theorem IIt.obj {t:Bool}{h:Heap}{i l:Addr}{k:Nat}(x:IIt t h i l k):∃ o vs,h.get? i=some o/\o.data=.fields vs:=by
 cases t
 ·obtain ⟨o,a,_,b⟩:=(show h.IsListIter i l k from x); exact ⟨o,_,a,b⟩
 ·obtain ⟨o,a,_,b⟩:=(show h.IsTupleIter i l k from x); exact ⟨o,_,a,b⟩
noncomputable def Sq (t:Bool)(K:PySem.W.Frag)(H:Hp)(a:Addr)(xs:List V):Prop:=if t=true then SqT K H a xs else SqL K H a xs
section
variable {X:Cx}{pins:List (Addr×Obj)}{σ:St}{H:Hp}{s:Shared}{a:Addr}{xs ys:List V}{h':Heap}
theorem Inv.sq {t:Bool}(I:Inv X pins σ H s)(h:Sq t X.K H a xs):∃ its:List Value,Vals xs its/\ISq t s.heap a its.toArray/\xs.length<=sizeLine:=by
 cases t
 ·obtain ⟨its,r,p,z⟩:=I.list (show SqL X.K H a xs from h)
  exact ⟨its,r,p.isList,z⟩
 ·obtain ⟨its,r,p,z⟩:=I.tuple (show SqT X.K H a xs from h)
  exact ⟨its,r,p,z⟩
end
noncomputable def Itz (K:PySem.W.Frag)(t1 t2:Bool)(a b:Addr):It :=
 ⟨fun i H=>∃ xs ys x y,Sq t1 K H a xs/\Sq t2 K H b ys/\xs[i]?=some x/\ys[i]?=some y,
   fun i H v H'=>∃ p x y,H p=none/\v=.ref p/\H'=upd H p (.tup [x,y])/\∀ xs ys,Sq t1 K H a xs->Sq t2 K H b ys->xs[i]?=some x/\ys[i]?=some y,
   fun i H=>∃ xs ys,Sq t1 K H a xs/\Sq t2 K H b ys/\(xs.length<=i\/ys.length<=i)⟩
open PySem PySem.Spec PyProof.Rows
section
variable {prog:Program}{w:World}{A:Around}{E:Value->Shared->Prop}{s:Shared}
end
section
variable {X:Cx}
end
noncomputable def Yn (ds es:List D):List D:=(ds.zip es).map fun p=>.tup [p.1,p.2]
theorem WE {ds es:List D}{i:Nat}{d:D}(h:(Yn ds es)[i]?=some d):∃ x y,ds[i]?=some x/\es[i]?=some y/\d=.tup [x,y]:=by
 unfold Yn at h
 rw [List.getElem?_map] at h
 cases hz:(ds.zip es)[i]? with
 | none=>rw [hz] at h; cases h
 | some p =>
  rw [hz] at h
  obtain ⟨h1,h2⟩:=List.getElem?_zip_eq_some.mp hz
  exact ⟨p.1,p.2,h1,h2,(Option.some.inj h).symm⟩
theorem Vh (ds es:List D):(Yn ds es).length=min ds.length es.length:=by unfold Yn; rw [List.length_map,List.length_zip]
theorem ItOk.zip {K:PySem.W.Frag}{H:Hp}{t:Bool}{a b:Addr}{vs ws:List V}{ds es:List D}{L1 L1' L2 L2':List Addr}(ha:∀ H',TF H H'->(∀ c∈L1,H' c=H c)->Sq t K H' a vs)(h1:Reps K H ds vs L1')(s1:∀ c∈L1',c∈L1)(d1:∀ c∈L1,H c≠none)(hb:H b=some (.lst ws))(e2:L2=b::L2')(h2:Reps K H es ws L2') :
  ItOk K (Itz K t false a b) (Yn ds es) (L1++L2) H:=by
 subst e2
 refine ⟨fun c hc=>?_,fun H' tf kp i=>⟨fun d hd=>?_,fun hl=>?_⟩⟩
 ·rcases List.mem_append.mp hc with z | z
  ·exact d1 c z
  ·rcases List.mem_cons.mp z with z | z
   ·rw [z,hb]; simp
   ·exact h2.there z
 ·have ha':=ha H' tf fun c hc=>kp c (List.mem_append_left _ hc)
  have hb':H' b=some (.lst ws):=(kp b (List.mem_append_right _ List.mem_cons_self)).trans hb
  obtain ⟨x,y,hx,hy,rfl⟩:=WE hd
  obtain ⟨v,M1,e1,r1,u1⟩:=h1.get hx
  obtain ⟨w,M2,e2,r2,u2⟩:=h2.get hy
  refine ⟨⟨vs,ws,v,w,ha',SqL.of hb',e1,e2⟩,fun z H'' ⟨p,x',y',hp,z1,z2,hq⟩=>?_⟩
  subst z1 z2
  obtain ⟨q1,q2⟩:=hq vs ws ha' (SqL.of hb')
  rw [e1] at q1
  cases q1
  rw [e2] at q2
  cases q2
  have r1':Rep K H' x v M1:=Rep.keep tf x _ M1 r1 fun c hc=>kp c (List.mem_append_left _ (s1 c (u1.subset hc)))
  have r2':Rep K H' y w M2:=Rep.keep tf y _ M2 r2 fun c hc=>kp c (List.mem_append_right _ (List.mem_cons_of_mem _ (u2.subset hc)))
  refine ⟨Same.new hp,M1++(M2++[]),⟨p,_,rfl,SqT.of zK,?_⟩,fun c hc=>?_⟩
  ·exact Reps.cons (r1'.same (Same.new hp)) (Reps.cons (r2'.same (Same.new hp)) Reps.nil)
  ·rw [List.append_nil] at hc
   rcases List.mem_append.mp hc with z | z
   ·exact List.mem_append_left _ (s1 c (u1.subset z))
   ·exact List.mem_append_right _ (List.mem_cons_of_mem _ (u2.subset z))
 ·have ha':=ha H' tf fun c hc=>kp c (List.mem_append_left _ hc)
  have hb':H' b=some (.lst ws):=(kp b (List.mem_append_right _ List.mem_cons_self)).trans hb
  rw [Vh] at hl
  have k1:=h1.length
  have k2:=h2.length
  refine ⟨vs,ws,ha',SqL.of hb',?_⟩
  by_cases hc:vs.length<=i
  ·exact .inl hc
  ·exact .inr (by omega)
section
variable {X:Cx}{E:XK}{Γ:List Cl}{u:Tn->R (List D)}{c:Rc}{p pos:Pos}
end
open PySem PySem.Spec PyProof.Rows
section
variable {prog:Program}{w:World}{A:Around}{E:Value->Shared->Prop}{s:Shared}
end
section
variable {X:Cx}{E:XK}{Γ:List Cl}{e:Expr}{t:Tn->R D}{c:Rc}{p2 pos:Pos}
end
section
variable {X:Cx}{E:XK}{Γ Γl:List Cl}{pos:Pos}
end
open PySem PySem.Spec PyProof.Rows
open PySem PySem.Spec PyProof.Rows
noncomputable def Vo (x:Str)(u:Tn->R (List D)):Tn->R Fl:=fun τ=>(u τ).bind fun ds=>if ds.length<=sizeLine then .err x else .bad
theorem VQ {P:Program}{w:World}{K:PySem.W.Frag}{mg:Str->Option Value}{base:Heap}{N:List Str}{qual:Str}{scope:Scope}{f:Addr}{cd:Value}{A:Around}{outer:List Env}{s:Shared}{H:Hp}{E:XK}{Γ Γl Γ':List Cl}
  {x:Str} {C:Addr} {e₀:Expr} {u:Tn->R (List D)} {c:Rc} {np cpos pos:Pos} (hc:ErrC K x C) (hg:Gl (yX (cxx P w) P w K mg base N qual scope f cd A outer s H E) x)
  (ha:MA (yX (cxx P w) P w K mg base N qual scope f cd A outer s H E) E Γ [e₀] u c) (hd:autoParam ((x==("__debug__":Str))=false) L2.au1._auto_1)
  (he:autoParam (starEach [e₀] (envOfC qual scope s.heap.objs.size f cd)=(false,eval e₀ (envOfC qual scope s.heap.objs.size f cd))::starEach [] (envOfC qual scope s.heap.objs.size f cd)) L2.au3._auto_1) :
  MS (yX (cxx P w) P w K mg base N qual scope f cd A outer s H E) E Γl Γ (.Raise (some (.Call (.Name x np) [e₀] [] cpos)) none pos) (Vo x u) Γ':=by
 obtain ⟨_,ta,pa,q⟩:=ha
 refine ⟨Uq C E ta,fun pins s1 σ H1 D I h=>VJ (A:=A) (show A.handled=none from I.ok.hd rfl) hc hg pa hd he rfl pins s1 σ H1 D I h,fun B σ H1 τ Z ok h=>?_⟩
 obtain ⟨O,eok,_⟩:=ok.eok
 refine q O σ H1 τ _ eok ?_
 unfold Vo at h
 cases hu:u τ with
 | ok ds =>
  rw [hu,R.ok_bind] at h
  refine fun vs H' L s r _=>?_
  by_cases hz:ds.length<=sizeLine
  ·rw [if_pos hz] at h
   exact ⟨by rw [r.length]; exact hz,h C H' hc (ok.ext.trans s)⟩
  ·rw [if_neg hz] at h; exact h.elim
 | err n=>rw [hu] at h; exact fun C' H' e s=>h C' H' e (ok.ext.trans s)
 | bad=>rw [hu] at h; exact h.elim
noncomputable def Suite (X:Cx)(CS:Addr)(i:Nat)(sts:List Stmt)(g:Str->Option D):Prop:=∀ (m:Str) (d:D),g m=some d->∀ C,ErrC X.K m C->PySem.W.exmOne X.K (.ref C) (.ref CS)=some true /\
 ∃ ts:Addr->Obj->TS,(∀ e oe,PSs (X.within e oe) sts (ts e oe))/\∀ e oe (Z:Ends) (σ:St) (H:Hp),σ.length=X.N.length->oe.cls=.ref C->H e=none->σ[i]?=some (some (.ref e))->(∀ v H',Same H H'->Rep X.K H' d v []->Z.rt v H')->ts e oe Z σ H
noncomputable def Suite.ts {X:Cx}{CS:Addr}{i:Nat}{sts:List Stmt}{g:Str->Option D}(hs:Suite X CS i sts g)(e:Addr)(oe:Obj):TS:=fun Z σ H=>∃ (m:Str) (d:L2.D) (hg:g m=some d) (C:Addr) (hC:ErrC X.K m C),Classical.choose (hs m d hg C hC).2 e oe Z σ H
theorem Suite.pss {X:Cx}{CS:Addr}{i:Nat}{sts:List Stmt}{g:Str->Option D}(hs:Suite X CS i sts g)(e:Addr)(oe:Obj):PSs (X.within e oe) sts (hs.ts e oe):=by
 intro pins s σ H Z I h
 obtain ⟨m,d,hg,C,hC,z⟩:=h
 exact (Classical.choose_spec (hs m d hg C hC).2).1 e oe pins s σ H Z I z
section
variable {X:Cx}{E:XK}{Γ Γl Γ':List Cl}{k:Nat}{CS:Addr}{ps:List Str}{F:List D->R D}{nA:Nat}{x xc n:Str}{p pos pos' pc hpos tpos:Pos}{e:Expr}{es:List Expr}{u:Tn->R (List D)}{c:Rc}{i:Nat}{b₀:Stmt}{suite:List Stmt}{g:Str->Option D}
end
open PySem PySem.Spec PyProof.Rows
inductive ClVs:List V->List Value->Prop where
 | nil:ClVs [] []
 | cons {c:V} {u:Value} {cs:List V} {us:List Value} (h:ClV c u) (t:ClVs cs us):ClVs (c::cs) (u::us)
theorem ClVs.vals:∀ {cs:List V} {us its:List Value},ClVs cs us->Vals cs its->its=us
 | _,_,_,.nil,.nil=>rfl
 | _,_,_,.cons h t,.cons r rs=>by
  rw [ClVs.vals t rs]
  congr 1
  cases h with
  | ref a=>exact r
  | ty n=>exact r
noncomputable def z1o (K:PySem.W.Frag)(pn:List (Addr×Obj)):List V->Hp->VK->Prop:=fun xs H Q=>∃ a oe C tp cs us b,xs=[.ref a,.ref tp]/\(a,oe)∈pn/\oe.cls=.ref C/\ErrI K C/\SqT K H tp cs/\ClVs cs us/\PySem.W.kitAny K (.ref C) us=some b/\Q (.bl b) H
theorem ko {X:Cx}:CallR X (.builtin "isinstance") (z1o X.K X.pn):=by
 intro pins s σ H xs us Q I r h
 obtain ⟨a,oe,C,tp,cs,cus,b,rfl,hm,hc,ci,ht,hcl,hk,q⟩:=h
 obtain ⟨u1,u2,rfl,rx,rc⟩:=Wm r
 obtain rfl:u1=Value.ref a:=rx
 obtain rfl:u2=Value.ref tp:=rc
 obtain ⟨e1,_⟩:=I.pin _ (List.mem_append_left _ hm)
 obtain ⟨its,rv,⟨o,ho,hcls,n,hd⟩,_⟩:=I.tuple ht
 have e2:=hcl.vals rv
 subst e2
 obtain ⟨cls,dd,data,sl⟩:=o
 have hcls:cls=.type "tuple":=hcls
 have hd:data=.seq its.toArray n:=hd
 subst hcls hd
 exact PySem.W.kia_tup (Yv ci) I.kIn ⟨_,e1,hc⟩ ho hk (fun z=>by cases z) fun tk=>⟨.bl b,H,I.tok tk,rfl,q⟩
section
variable {X:Cx}{E:XK}{Γ Γl:List Cl}{pos:Pos}
end
open PySem PySem.Spec PyProof.Rows
theorem Vk {P:Program}{w:World}{K:PySem.W.Frag}{mg:Str->Option Value}{base:Heap}{N:List Str}{qual:Str}{scope:Scope}{f:Addr}{cd:Value}{A:Around}{outer:List Env}{s:Shared}{H:Hp}{E:XK}{Γ Γl Γ':List Cl}
  {x:Str} {e₀:Expr} {u:Tn->R (List D)} {c:Rc} {np cpos pos:Pos} (hc:∃ C,ErrC K x C) (hg:Gl (yX (cxx P w) P w K mg base N qual scope f cd A outer s H E) x)
  (ha:MA (yX (cxx P w) P w K mg base N qual scope f cd A outer s H E) E Γ [e₀] u c) (hd:autoParam ((x==("__debug__":Str))=false) L2.au1._auto_1)
  (he:autoParam (starEach [e₀] (envOfC qual scope s.heap.objs.size f cd)=(false,eval e₀ (envOfC qual scope s.heap.objs.size f cd))::starEach [] (envOfC qual scope s.heap.objs.size f cd)) L2.au3._auto_1) :
  MS (yX (cxx P w) P w K mg base N qual scope f cd A outer s H E) E Γl Γ (.Raise (some (.Call (.Name x np) [e₀] [] cpos)) none pos) (Vo x u) Γ':=by
 obtain ⟨C,hc⟩:=hc
 exact VQ hc hg ha hd he
section
variable {X:Cx}{E:XK}{Γ Γl Γ':List Cl}{k:Nat}{ps:List Str}{F:List D->R D}{nA:Nat}{x xc n:Str}{p pos pos' pc hpos tpos:Pos}{e:Expr}{es:List Expr}{u:Tn->R (List D)}{c:Rc}{i:Nat}{b₀:Stmt}{suite:List Stmt}{g:Str->Option D}
end
open PySem PySem.Spec PyProof.Rows
structure CompScopeC (X:Cx)(xc:Str)(N':List Str)(fr:List (Option Nat))(scope:Scope):Prop where
 kind:scope.kind=.function
 one:∃ pre post,scope.names=pre++(xc,NameKind.cell)::post/\∀ y∈pre++post,y.2≠.cell
 nox:∀ y∈scope.names,y.1=xc->y.2=.cell
 loc:∀ y∈scope.names,y.2=.local->scope.names.lookup y.1=some .local
 free:∀ y∈scope.names,y.2=.free->∃ c,X.env.cells.lookup y.1=some c
 len:fr.length=N'.length
 fre:∀ (j i:Nat) (x:Str),fr[j]?=some (some i)->N'[j]?=some x->X.N[i]?=some x/\scope.names.lookup x=some .free/\(X.env.kindOf x=some .cell\/X.env.kindOf x=some .free)
section
variable {X:Cx}{pins:List (Addr×Obj)}{σ:St}{H:Hp}{s:Shared}{xc:Str}{N':List Str}{fr:List (Option Nat)}{scope:Scope}{fp:List Addr}
end
section
variable {X:Cx}{pins:List (Addr×Obj)}{σ τ:St}{H H₃ H5:Hp}{s₃ s5:Shared}{xc:Str}{N':List Str}{scope:Scope}{fp:List Addr}
end
open PySem PySem.Spec PyProof.Rows
section
variable {X:Cx}{E:XK}{Γ:List Cl}{pos:Pos}
end
theorem Xz {α:Type}{us:List α}{n:Nat}(h:us.length=n+1):∃ a t,us=a::t/\t.length=n:=by
 cases us with
 | nil=>cases h
 | cons a t=>exact ⟨a,t,rfl,Nat.succ.inj h⟩
theorem z2Y {α:Type}{us:List α}(h:us.length=0):us=[]:=List.length_eq_zero_iff.mp h
theorem bd1 {α:Type}{P:List α->Prop}(h:∀ a,P [a]):∀ us:List α,us.length=1->P us:=fun us hl=>by
 obtain ⟨a,t,rfl,h1⟩:=Xz hl
 cases z2Y h1
 exact h a
theorem bd2 {α:Type}{P:List α->Prop}(h:∀ a b,P [a,b]):∀ us:List α,us.length=2->P us:=fun us hl=>by
 obtain ⟨a,t,rfl,h1⟩:=Xz hl
 exact bd1 (P:=fun t=>P (a::t)) (h a) t h1
theorem bd3 {α:Type}{P:List α->Prop}(h:∀ a b c,P [a,b,c]):∀ us:List α,us.length=3->P us:=fun us hl=>by
 obtain ⟨a,t,rfl,h1⟩:=Xz hl
 exact bd2 (P:=fun t=>P (a::t)) (h a) t h1
theorem bd4 {α:Type}{P:List α->Prop}(h:∀ a b c d,P [a,b,c,d]):∀ us:List α,us.length=4->P us:=fun us hl=>by
 obtain ⟨a,t,rfl,h1⟩:=Xz hl
 exact bd3 (P:=fun t=>P (a::t)) (h a) t h1
theorem bd5 {α:Type}{P:List α->Prop}(h:∀ a b c d e,P [a,b,c,d,e]):∀ us:List α,us.length=5->P us:=fun us hl=>by
 obtain ⟨a,t,rfl,h1⟩:=Xz hl
 exact bd4 (P:=fun t=>P (a::t)) (h a) t h1
open PySem PySem.Spec PyProof.Rows
theorem SOk.deadPut {K:PySem.W.Frag}{Γ:List Cl}{B H:Hp}{σ:St}{τ:Tn}{T:List Addr}{i:Nat}{w:Option V}(h:SOk K Γ B H σ τ T)(e:Γ[i]?=some .dead):SOk K Γ B H (σ.set i w) τ T:=by
 obtain ⟨Ls,h1,h2⟩:=h.ex
 refine ⟨h.ext,by rw [List.length_set]; exact h.lσ,h.lτ,Ls,fun j c ej hc=>?_,h2⟩
 obtain ⟨v,d,a1,a2,a3⟩:=h1 j c ej hc
 refine ⟨v,d,?_,a2,a3⟩
 by_cases hij:i=j
 ·subst hij
  rw [e] at ej
  exact absurd (Option.some.inj ej).symm hc
 ·rw [List.getElem?_set_ne hij]
  exact a1
open PySem PySem.Spec PyProof.Rows
section
variable {X:Cx}{E:XK}{Γ Γl:List Cl}{x1 x2 xr d nm:Str}{F1 F2:List D->R D}{es:List Expr}{u:Tn->R (List D)}{c:Rc}{i k n:Nat}{f1 f2:Addr}{ps:List Str}{p1 p2 p3 p4 p5 p6 p7 p8 p9 p10 p11 p12:Pos}{ct:Nat}{jj:_}
end
theorem UY {X:Cx}{E:XK}{Γ:List Cl}{pos:Pos}:ME X E Γ (.Dict [] [] pos) (eC (.dic [] [])) .fresh :=
 ⟨_,UI,fun O σ H τ Q ok h p hp=>h (.ref p) _ [p] (Same.new hp) ⟨p,[],[],rfl,zK,rfl,rfl,List.nodup_nil,rfl,rfl⟩ ⟨List.nodup_cons.mpr ⟨List.not_mem_nil,List.nodup_nil⟩,fun a ha=>by rw [List.mem_singleton.mp ha]; exact hp⟩⟩
open PySem PySem.Spec PyProof.Rows
section
variable {K:PySem.W.Frag}{Γ:List Cl}{B H:Hp}{σ:St}{τ:Tn}{T T':List Addr}
theorem SOk.subT (h:SOk K Γ B H σ τ T)(nd:T'.Nodup)(hs:∀ a∈T',a∈T):SOk K Γ B H σ τ T':=by
 obtain ⟨Ls,h1,h2,h3,h4,h5,h6⟩:=h.ex
 exact ⟨h.ext,h.lσ,h.lτ,Ls,h1,h2,h3,nd,fun a ha=>h5 a (hs a ha),fun i c e hc a ha hm=>h6 i c e hc a ha (hs a hm)⟩
theorem SOk.nodT (h:SOk K Γ B H σ τ T):T.Nodup:=by
 obtain ⟨Ls,h1,h2,h3,h4,h5,h6⟩:=h.ex
 exact h4
end
open PySem PySem.Spec PyProof.Rows
noncomputable def Xa (H:Hp)(L:List Addr):Hp:=fun a=>if a∈L then none else H a
theorem W2 {H:Hp}{L:List Addr}{a:Addr}(h:a∈L):Xa H L a=none:=if_pos h
theorem Za {H:Hp}{L:List Addr}{a:Addr}(h:a∉L):Xa H L a=H a:=if_neg h
theorem QI {H:Hp}{L:List Addr}{a:Addr}(h:Xa H L a=none):a∈L\/H a=none:=by
 by_cases z:a∈L
 ·exact .inl z
 ·rw [Za z] at h; exact .inr h
noncomputable def spO (K:PySem.W.Frag)(F:List D->R D)(n:Nat):Sp:=fun vs H Q _=>vs.length=n/\∃ v0 vs' d0 ds L0 L1,vs=v0::vs'/\Rep K H d0 v0 L0/\L0.Nodup/\Reps K H ds vs' L1/\(∀ a∈L0,a∉L1) /\
 match F (d0::ds) with
 | .ok d=>∀ v H' L,Same (Xa H L0) H'->Rep K H' d v L->L.Nodup->(∀ a∈L,Xa H L0 a=none)->Q v H'
 | _=>False
theorem SOk.startO {K:PySem.W.Frag}{H:Hp}{N:List Str}{d0:D}{v0:V}{ds:List D}{vs:List V}{L0 L1:List Addr}(r0:Rep K H d0 v0 L0)(nd:L0.Nodup)(r:Reps K H ds vs L1)(dj:∀ a∈L0,a∉L1)(hn:(v0::vs).length<=N.length) :
  SOk K ((vJ N.length (v0::vs).length).set 0 .own) (Xa H L0) H (L2.start N (v0::vs)) ((d0::ds).map some++List.replicate (N.length-(d0::ds).length) none) []:=by
 have hl:=r.length
 have lp:(vJ N.length (v0::vs).length).length=N.length:=by unfold vJ; rw [List.length_append,List.length_replicate,List.length_replicate]; omega
 have hN:0<N.length:=by rw [List.length_cons] at hn; omega
 have:∀ i:Nat,∃ Li:List Addr,∀ d,ds[i]?=some d->∃ v,vs[i]?=some v/\Rep K H d v Li/\∀ a∈Li,a∈L1:=fun i=>by
  cases h:ds[i]? with
  | none=>exact ⟨[],fun d z=>by cases z⟩
  | some d =>
   obtain ⟨v,L1',e1,r1,sb⟩:=r.get h
   exact ⟨L1',fun d' z=>by cases z; exact ⟨v,e1,r1,fun a ha=>sb.mem ha⟩⟩
 obtain ⟨Ls,hL⟩:∃ Ls:Nat->List Addr,∀ (i:Nat) (d:D),ds[i]?=some d->∃ v,vs[i]?=some v/\Rep K H d v (Ls i)/\∀ a∈Ls i,a∈L1:=⟨fun i=>Classical.choose (this i),fun i=>Classical.choose_spec (this i)⟩
 have cls:∀ i c,((vJ N.length (v0::vs).length).set 0 .own)[i]?=some c->c≠.dead->i=0\/(i≠0/\i<(v0::vs).length/\c=.shr):=fun i c e hc=>by
  by_cases z:i=0
  ·exact .inl z
  ·rw [List.getElem?_set_ne (Ne.symm z)] at e
   unfold vJ at e
   by_cases hi:i<(v0::vs).length
   ·rw [List.getElem?_append_left (by simpa using hi),List.getElem?_replicate,if_pos hi] at e
    exact .inr ⟨z,hi,(Option.some.inj e).symm⟩
   ·rw [List.getElem?_append_right (by simp at hi ⊢; omega),List.getElem?_replicate] at e
    split at e
    ·exact absurd (Option.some.inj e).symm hc
    ·cases e
 have own0:∀ i,((vJ N.length (v0::vs).length).set 0 .own)[i]?=some Cl.own->i=0:=fun i e=>by
  rcases cls i _ e (by simp) with z | ⟨_,_,z⟩
  ·exact z
  ·cases z
 let LL:Nat->List Addr:=fun i=>if i=0 then L0 else Ls (i-1)
 have sub:∀ j,j≠0->j<(v0::vs).length->∀ a∈LL j,a∈L1:=fun j hj hlt a ha=>by
  have ha:a∈Ls (j-1):=by
   have:LL j=Ls (j-1):=if_neg hj
   rw [this] at ha; exact ha
  have hd:j-1<ds.length:=by rw [List.length_cons] at hlt; omega
  obtain ⟨v,_,_,sb⟩:=hL (j-1) ds[j-1] (by simp [hd])
  exact sb a ha
 refine ⟨fun b o q=>?_,?_,?_,LL,fun i c e hc=>?_,fun i e=>?_,fun i j c hij e ej hc a ha hm=>?_,List.nodup_nil,fun a ha=>(nomatch ha),fun i c e hc a ha hm=>(nomatch hm)⟩
 ·by_cases z:b∈L0
  ·rw [W2 z] at q; cases q
  ·rw [Za z] at q; exact q
 ·unfold L2.start; rw [List.length_set,lp,List.length_append,List.length_map,List.length_replicate]; omega
 ·rw [List.length_set,lp,List.length_append,List.length_map,List.length_replicate]; rw [List.length_cons] at hn ⊢; omega
 ·rcases cls i c e hc with z | ⟨z,hi,_⟩
  ·subst z
   exact ⟨v0,d0,rfl,rfl,r0⟩
  ·obtain ⟨j,rfl⟩:∃ j,i=j+1:=⟨i-1,by omega⟩
   have hj:j<ds.length:=by rw [List.length_cons] at hi; omega
   obtain ⟨v,e1,r1,_⟩:=hL j ds[j] (by simp [hj])
   refine ⟨v,ds[j],?_,?_,r1⟩
   ·unfold L2.start
    rw [List.getElem?_append_left (by simpa using hi),List.getElem?_map,List.getElem?_cons_succ,e1]; rfl
   ·rw [List.getElem?_append_left (by simp; exact hj),List.getElem?_map]; simp [hj]
 ·cases own0 i e
  exact ⟨nd,fun a ha=>W2 ha⟩
 ·cases own0 i e
  rcases cls j c ej hc with z | ⟨z,hj,_⟩
  ·exact hij z.symm
  ·exact dj a ha (sub j z hj a hm)
section
variable {P:Program}{w:World}{K:PySem.W.Frag}{mg:Str->Option Value}{base:Heap}{x:Str}{st:Stmt}{N ps:List Str}{k:Nat}{t:Tn->R Fl}{Γ':List Cl}
theorem DefIn.mirO (Df:DefIn K mg x st ps)(S:FnScope N ps (defScope st))(hn:ps.length<=N.length)
  (hbody:∀ (f:Addr) (cdv:Value) (A:Around) (outer:List Env) (s:Shared) (H:Hp) (E:XK),Room k (A.deeper (envOfC x (defScope st) s.heap.objs.size f cdv)) ->
   MSs (yX (cxx P w) P w K mg base N x (defScope st) f cdv A outer s H E) E [] ((vJ N.length ps.length).set 0 .own) (defBody st) t Γ'):Own P w K mg base x (k+1) ps (spO K (zw N.length t) ps.length):=by
 refine Df.own S (fun vs H Q E h=>h.1) fun f cdv A outer s H vs Q E hr h=>?_
 obtain ⟨hl,v0,vs',d0,ds,L0,L1,rfl,r0,nd,r,dj,h⟩:=h
 obtain ⟨ts,p,q⟩:=hbody f cdv A outer s H E hr
 refine ⟨ts,p,q (Xa H L0) (start N (v0::vs')) H _ _ (hl▸SOk.startO r0 nd r dj (by omega)) ?_⟩
 unfold zw at h
 cases ht:t ((d0::ds).map some++List.replicate (N.length-(d0::ds).length) none) with
 | ok f =>
  rw [ht] at h
  cases f with
  | nx τ'=>exact fun σ' H' ok'=>h .non H' [] ok'.ext ⟨rfl,rfl⟩ List.nodup_nil fun a ha=>nomatch ha
  | rt d=>exact fun v H' L s r n1 n2=>h v H' L s r n1 n2
  | bk _=>exact h.elim
  | ct _=>exact h.elim
 | err n=>rw [ht] at h; exact h.elim
 | bad=>rw [ht] at h; exact h.elim
end
noncomputable def isB (neg:Bool):D->D->R D
 | .bl c,.bl d=>.ok (.bl (if neg=true then c != d else c==d))
 | _,_=>.bad
theorem KG {neg:Bool}:xa (isB neg):=fun x y n h=>by
 unfold isB at h
 split at h<;>cases h
theorem z0U {X:Cx}:OpR X (compareOp .Is) (fun x y H Q=>∃ c d,x=.bl c/\y=.bl d/\Q (.bl (c==d)) H):=by
 intro pins s σ H x y v u Q I rx ry h
 obtain ⟨c,d,rfl,rfl,q⟩:=h
 cases rx
 cases ry
 exact is_bool (Z5 I q rfl)
theorem JL {X:Cx}:OpR X (compareOp .IsNot) (fun x y H Q=>∃ c d,x=.bl c/\y=.bl d/\Q (.bl (c != d)) H):=by
 intro pins s σ H x y v u Q I rx ry h
 obtain ⟨c,d,rfl,rfl,q⟩:=h
 cases rx
 cases ry
 exact isnot_bool (Z5 I q rfl)
theorem z2H {K:PySem.W.Frag}:OpB K (fun x y H Q=>∃ c d,x=.bl c/\y=.bl d/\Q (.bl (c==d)) H) (isB false):=by
 rintro H x y dx dy Lx Ly Q rx ry ⟨d,hg,q⟩
 unfold isB at hg
 split at hg
 ·cases hg
  exact ⟨_,_,rx.1,ry.1,q _ H [] (Same.refl H) ⟨rfl,rfl⟩ (by simp) (fun a ha=>nomatch ha)⟩
 ·cases hg
theorem z0I {K:PySem.W.Frag}:OpB K (fun x y H Q=>∃ c d,x=.bl c/\y=.bl d/\Q (.bl (c != d)) H) (isB true):=by
 rintro H x y dx dy Lx Ly Q rx ry ⟨d,hg,q⟩
 unfold isB at hg
 split at hg
 ·cases hg
  exact ⟨_,_,rx.1,ry.1,q _ H [] (Same.refl H) ⟨rfl,rfl⟩ (by simp) (fun a ha=>nomatch ha)⟩
 ·cases hg
section
variable {K:PySem.W.Frag}{pn:List (Addr×Obj)}{σ:St}{H:Hp}{Q:VK}{e:Addr}{oe:Obj}{C:Addr}
end
open PySem PySem.Spec PyProof.Rows
section
variable {X:Cx}{E:XK}{Γ Γ1 Γ2 Γa Γb Γl Γ':List Cl}{pos:Pos}
end
theorem Ke {K:PySem.W.Frag}{H:Hp}{d:D}:∀ {ds:List D} {vs:List V} {L:List Addr} {k:Nat},Reps K H ds vs L->ds[k]?=some d->L.Nodup->∃ v Ld,vs[k]?=some v/\Rep K H d v Ld/\Ld.Nodup/\(∀ a∈Ld,a∈L) /\
  ∀ (H2:Hp) (d2:D) (L2:List Addr),TF H H2->(∀ b,b∉Ld->H b≠none->H2 b=H b)->Rep K H2 d2 v L2->(∀ a∈L2,a∈Ld)->L2.Nodup->∃ L',Reps K H2 (ds.set k d2) vs L'/\(∀ a∈L',a∈L)/\L'.Nodup
 | [],_,_,k,_,h,_=>by cases k<;>cases h
 | e::ds,_,_,0,hq,h,nd=>by
  obtain ⟨v,vs',L1,L2,e1,e2,r1,r2⟩:=hq
  subst e1 e2
  cases h
  obtain ⟨n1,n2,n3⟩:=List.nodup_append.mp nd
  refine ⟨v,L1,rfl,r1,n1,fun a ha=>List.mem_append_left _ ha,fun H2 d2 L3 tf kp r3 sb nd3=>⟨L3++L2,?_,fun a ha=>?_,?_⟩⟩
  ·exact ⟨v,vs',L3,L2,rfl,rfl,r3,Reps.keep tf ds vs' L2 r2 fun a ha=>kp a (fun z=>n3 a z a ha rfl) (r2.there ha)⟩
  ·rcases List.mem_append.mp ha with z | z
   ·exact List.mem_append_left _ (sb a z)
   ·exact List.mem_append_right _ z
  ·exact List.nodup_append.mpr ⟨nd3,n2,fun a ha b hb z=>n3 a (sb a ha) b hb z⟩
 | e::ds,_,_,k+1,hq,h,nd=>by
  obtain ⟨v,vs',L1,L2,e1,e2,r1,r2⟩:=hq
  subst e1 e2
  obtain ⟨n1,n2,n3⟩:=List.nodup_append.mp nd
  obtain ⟨w,Ld,g1,g2,g3,g4,g5⟩:=Ke (k:=k) r2 (by simpa using h) n2
  refine ⟨w,Ld,by simpa using g1,g2,g3,fun a ha=>List.mem_append_right _ (g4 a ha),fun H2 d2 L3 tf kp r3 sb nd3=>?_⟩
  obtain ⟨L',q1,q2,q3⟩:=g5 H2 d2 L3 tf kp r3 sb nd3
  refine ⟨L1++L',?_,fun a ha=>?_,?_⟩
  ·exact ⟨v,vs',L1,L',rfl,rfl,Rep.keep tf e v L1 r1 fun a ha=>kp a (fun z=>n3 a ha a (g4 a z) rfl) (r1.there ha),q1⟩
  ·rcases List.mem_append.mp ha with z | z
   ·exact List.mem_append_left _ z
   ·exact List.mem_append_right _ (q2 a z)
  ·exact List.nodup_append.mpr ⟨n1,q3,fun a ha b hb z=>n3 a ha b (q2 b hb) z⟩
theorem SOk.at {K:PySem.W.Frag}{Γ:List Cl}{B H:Hp}{σ:St}{τ:Tn}{i k:Nat}{ds:List D}{d:D}(h:SOk K Γ B H σ τ [])(e:Γ[i]?=some .own)(hτ:τ[i]?=some (some (.lst ds)))(hk:ds[k]?=some d) :
  ∃ a vs v Ld,σ[i]?=some (some (.ref a))/\H a=some (.lst vs)/\vs[k]?=some v/\Rep K H d v Ld/\Ld.Nodup/\∀ (H2:Hp) (d2:D) (L2:List Addr),TF H H2->(∀ b,b∉Ld->H b≠none->H2 b=H b)->Rep K H2 d2 v L2->(∀ a∈L2,a∈Ld)->L2.Nodup->SOk K Γ B H2 σ (τ.set i (some (.lst (ds.set k d2)))) []:=by
 obtain ⟨v0,d0,L,e1,e2,r,nd,n2,fin⟩:=h.slot e
 rw [hτ] at e2
 cases e2
 obtain ⟨a,vs,L',rfl,ha,rfl,rs⟩:=r
 obtain ⟨m1,m2⟩:=List.nodup_cons.mp nd
 obtain ⟨v,Ld,g1,g2,g3,g4,g5⟩:=Ke rs hk m2
 refine ⟨a,vs,v,Ld,e1,ha,g1,g2,g3,fun H2 d2 L2 tf kp r2 sb nd2=>?_⟩
 obtain ⟨L3,q1,q2,q3⟩:=g5 H2 d2 L2 tf kp r2 sb nd2
 have hal:a∉Ld:=fun z=>m1 (g4 a z)
 have ha2:H2 a=some (.lst vs):=by rw [kp a hal (by rw [ha]; simp)]; exact ha
 refine fin H2 _ (a::L3) [] [] rfl tf (fun b hb hn=>kp b (fun z=>hb (List.mem_cons_of_mem _ (g4 b z))) hn) ⟨a,vs,L3,rfl,ha2,rfl,q1⟩ (fun b hb=>.inl ?_) (List.nodup_cons.mpr ⟨fun z=>m1 (q2 a z),q3⟩)
 rcases List.mem_cons.mp hb with z | z
 ·rw [z]; exact List.mem_cons_self
 ·exact List.mem_cons_of_mem _ (q2 b z)
section
variable {X:Cx}{E:XK}{Γ Γl:List Cl}{pos:Pos}{e:Expr}{t:Tn->R D}{c:Rc}
end
open PySem PySem.Spec PyProof.Rows
section
open PySem.SeqAt PySem.MeetsSeq3
open PySem.AutoSeq1 (wpAny_loadPart')
end
open PySem PySem.Spec PyProof.Rows
section
variable {X:Cx}{E:XK}{Γ Γl:List Cl}{pos:Pos}{e:Expr}{t:Tn->R D}{c:Rc}
end
open PySem PySem.Spec PyProof.Rows
noncomputable def qP (g:Str->R D)(t:Tn->R D):Tn->R D:=fun τ=>(t τ).bind fun d=>match d with
 | .str z=>g z
 | _=>.bad
section
variable {X:Cx}{E:XK}{Γ:List Cl}{o:Expr}{t:Tn->R D}{c:Rc}{apos cpos:Pos}
end
open PySem PySem.Spec PyProof.Rows
section
variable {X:Cx}{E:XK}{Γ:List Cl}{e:Expr}{t:Tn->R D}{c:Rc}
end
open PySem PySem.Spec PyProof.Rows
section
variable {X:Cx}{E:XK}{Γ:List Cl}{e:Expr}{t:Tn->R D}{c:Rc}{p2 p3 p4 pos:Pos}{j:Nat}
end
open PySem PySem.Spec PyProof.Rows
theorem TF.trans {H H1 H2:Hp}(a:TF H H1)(b:TF H1 H2):TF H H2:=⟨fun x xs e=>b.tup x xs (a.tup x xs e),fun x o u e=>b.frz x o u (a.frz x o u e)⟩
theorem SOk.slotF {K:PySem.W.Frag}{Γ:List Cl}{B H:Hp}{σ:St}{τ:Tn}{i:Nat}(h:SOk K Γ B H σ τ [])(e:Γ[i]?=some .own):∃ v d L,σ[i]?=some (some v)/\τ[i]?=some (some d)/\Rep K H d v L/\L.Nodup/\(∀ a∈L,B a=none) /\
  ∀ (H2:Hp) (d2:D) (L2:List Addr),TF H H2->(∀ b,b∉L->H b≠none->H2 b=H b)->Rep K H2 d2 v L2->(∀ a∈L2,a∈L\/H a=none)->L2.Nodup->SOk K Γ B H2 σ (τ.set i (some d2)) []:=by
 obtain ⟨Ls,h1,h2,h3,h4,h5,h6⟩:=h.ex
 obtain ⟨v,d,e1,e2,r⟩:=h1 i _ e (by simp)
 refine ⟨v,d,Ls i,e1,e2,r,(h2 i e).1,(h2 i e).2,?_⟩
 intro H2 d2 L2 tf kp r2 sub nd
 have hτ:i<τ.length:=(List.getElem?_eq_some_iff.mp e2).1
 have notL:∀ b,B b≠none->b∉Ls i:=fun b hb hm=>hb ((h2 i e).2 b hm)
 refine ⟨fun b o q=>?_,h.lσ,by rw [List.length_set]; exact h.lτ,Xj Ls i L2,fun j c ej hc=>?_,fun j ej=>?_,fun j k c hjk ej ek hc a ha hm=>?_,List.nodup_nil,fun a ha=>(nomatch ha),fun j c ej hc a ha hm=>(nomatch hm)⟩
 ·have hq:=h.ext b o q
  rw [kp b (notL b (by rw [q]; simp)) (by rw [hq]; simp)]; exact hq
 ·by_cases z:j=i
  ·subst z
   refine ⟨v,d2,e1,by rw [List.getElem?_set_self hτ],?_⟩
   rw [yk]; exact r2
  ·obtain ⟨v',d',q1,q2,r'⟩:=h1 j c ej hc
   refine ⟨v',d',q1,by rw [List.getElem?_set_ne (Ne.symm z)]; exact q2,?_⟩
   rw [yc z]
   exact Rep.keep tf d' v' _ r' fun a ha=>kp a (fun hm=>h3 i j c (Ne.symm z) e ej hc a hm ha) (r'.there ha)
 ·by_cases z:j=i
  ·subst z
   rw [yk]
   refine ⟨nd,fun a ha=>?_⟩
   rcases sub a ha with m | m
   ·exact (h2 _ e).2 a m
   ·exact h.ext.non m
  ·rw [yc z]; exact h2 j ej
 ·by_cases z:j=i
  ·subst z
   rw [yk] at ha
   rw [yc (Ne.symm hjk)] at hm
   rcases sub a ha with m | m
   ·exact h3 _ k c hjk e ek hc a m hm
   ·obtain ⟨v',d',q1,q2,r'⟩:=h1 k c ek hc
    exact r'.there hm m
  ·rw [yc z] at ha
   by_cases z2:k=i
   ·subst z2
    rw [yk] at hm
    rcases sub a hm with m | m
    ·exact h3 j _ _ hjk ej e (by simp) a ha m
    ·obtain ⟨v',d',q1,q2,r'⟩:=h1 j _ ej (by simp)
     exact r'.there ha m
   ·rw [yc z2] at hm; exact h3 j k c hjk ej ek hc a ha hm
section
variable {X:Cx}{E:XK}{Γ Γl:List Cl}{pos:Pos}{e:Expr}{t:Tn->R D}{c:Rc}
end
open PySem PySem.Spec PyProof.Rows
section
variable {X:Cx}{E:XK}{Γ Γl:List Cl}{pos:Pos}{e:Expr}{t:Tn->R D}{c:Rc}
end
open PySem PySem.Spec PyProof.Rows PySem.Builtin.Str
noncomputable def Kd:V->List V->Hp->VK->Prop:=fun x xs H Q=>∃ z y,x=.str z/\xs=[.str y]/\Q (.int (Txt.find z y)) H
theorem Yk {X:Cx}:MtR X "str.find" Kd:=by
 intro pins s σ H x xs v us Q I rx rs h
 obtain ⟨z,y,rfl,rfl,q⟩:=h
 obtain ⟨t,rfl⟩:=rx
 obtain ⟨u,rfl,ru⟩:=v9 rs
 obtain ⟨t2,rfl⟩:=ru
 exact SC.find ⟨.int (Txt.find z y),H,I.tok _,⟨_,rfl⟩,q⟩
noncomputable def qG (z:Str):List D->R D
 | [.str y]=>.ok (.int (Txt.find z y))
 | _=>.bad
theorem Wf {K:PySem.W.Frag}{H:Hp}{y:Str}{vs:List V}{L:List Addr}(r:Reps K H [.str y] vs L):vs=[.str y]:=by
 obtain ⟨v,vs',L1,L2,e1,_,r1,r2⟩:=r
 rw [e1,r1.1,r2.1]
theorem UO (z:Str):xO (qG z):=fun ds n h=>by
 unfold qG at h
 split at h<;>cases h
theorem Ux {K:PySem.W.Frag}:SmB K Kd qG:=by
 rintro H z xs ds L Q rs ⟨d,hg,q⟩
 unfold qG at hg
 split at hg
 ·rename_i y
  cases hg
  exact ⟨z,y,rfl,Wf rs,q _ H [] (Same.refl H) ⟨rfl,rfl⟩ (by simp) (fun a ha=>nomatch ha)⟩
 ·cases hg
noncomputable def U8:V->List V->Hp->VK->Prop:=fun x xs H Q=>∃ z y i rest,x=.str z/\xs=[.str y]/\occurrences z y 0 z.length 1=i::rest/\Q (.int (i:Nat)) H
theorem WS {X:Cx}:MtR X "str.index" U8:=by
 intro pins s σ H x xs v us Q I rx rs h
 obtain ⟨z,y,i,rest,rfl,rfl,ho,q⟩:=h
 obtain ⟨t,rfl⟩:=rx
 obtain ⟨u,rfl,ru⟩:=v9 rs
 obtain ⟨t2,rfl⟩:=ru
 exact SC.index ho ⟨.int (i:Nat),H,I.tok _,⟨_,rfl⟩,q⟩
noncomputable def jB (z:Str):List D->R D
 | [.str y]=>match occurrences z y 0 z.length 1 with
  | i::_=>.ok (.int (i:Nat))
  | []=>.bad
 | _=>.bad
theorem Jv (z:Str):xO (jB z):=fun ds n h=>by
 unfold jB at h
 split at h
 ·split at h<;>cases h
 ·cases h
theorem JC {K:PySem.W.Frag}:SmB K U8 jB:=by
 rintro H z xs ds L Q rs ⟨d,hg,q⟩
 unfold jB at hg
 split at hg
 ·rename_i y
  split at hg
  ·rename_i i rest ho
   cases hg
   exact ⟨z,y,i,rest,rfl,Wf rs,ho,q _ H [] (Same.refl H) ⟨rfl,rfl⟩ (by simp) (fun a ha=>nomatch ha)⟩
  ·cases hg
 ·cases hg
noncomputable def qC (z:Str):R D:=if z.length<=5592405 then .ok (.str (Txt.lower z)) else .bad
noncomputable def z3c:V->List V->Hp->VK->Prop:=fun x xs H Q=>∃ z,x=.str z/\xs=[]/\z.length<=5592405/\Q (.str (Txt.lower z)) H
theorem z0M {X:Cx}:MtR X "str.lower" z3c:=by
 intro pins s σ H x xs v us Q I rx rs h
 obtain ⟨z,rfl,rfl,hz,q⟩:=h
 obtain ⟨t,rfl⟩:=rx
 cases rs
 exact SC.lower (fit_lower hz) ⟨.str (Txt.lower z),H,I.tok _,⟨_,rfl⟩,q⟩
section
variable {X:Cx}{E:XK}{Γ:List Cl}{o:Expr}{t:Tn->R D}{c:Rc}{apos cpos:Pos}
theorem je (ho:ME X E Γ o t c)(hbase:autoParam (attributeBase o "lower" X.env (eval o X.env)=eval o X.env) L2.au3._auto_1)(hline:autoParam ((apos.endLine==cpos.line)=true) L2.au3._auto_1) :
  ME X E Γ (.Call (.Attribute o "lower" apos) [] [] cpos) (qP qC t) .fresh:=by
 obtain ⟨te,p,q⟩:=ho
 refine ⟨_,z0J PySem.F.plainAttrs_str PySem.F.slot_str_lower PySem.F.type_str_lower z0M p hbase hline,fun O σ H τ Q ok h=>?_⟩
 unfold qP at h
 refine q O σ H τ _ ok (post.bind h fun d hd h x H1 L1 s1 r1 _=>?_)
 cases d with
 | str z =>
  obtain ⟨rfl,_⟩:=r1
  dsimp only at h
  unfold qC at h
  by_cases hz:z.length<=5592405
  ·rw [if_pos hz] at h
   exact ⟨rfl,z,rfl,rfl,hz,h _ H1 [] s1 ⟨rfl,rfl⟩ ⟨by simp,fun a ha=>nomatch ha⟩⟩
  ·rw [if_neg hz] at h; exact h.elim
 | _=>exact h.elim
end
noncomputable def inS (a b:Str):Bool:=!(occurrences b a 0 b.length 1).isEmpty
noncomputable def z25:R2:=fun x y H Q=>∃ a b,x=.str a/\y=.str b/\Q (.bl (inS a b)) H
theorem vm {X:Cx}:OpR X (compareOp .In) z25:=by
 intro pins s σ H x y v u Q I rx ry h
 obtain ⟨a,b,rfl,rfl,q⟩:=h
 obtain ⟨t,rfl⟩:=rx
 obtain ⟨t',rfl⟩:=ry
 exact in_str ⟨.bl (inS a b),H,I,rfl,q⟩
noncomputable def xX:D->D->R D
 | .str a,.str b=>.ok (.bl (inS a b))
 | _,_=>.bad
theorem uB:xa xX:=fun x y n h=>by
 unfold xX at h
 split at h<;>cases h
theorem uy {K:PySem.W.Frag}:OpB K z25 xX:=by
 rintro H x y dx dy Lx Ly Q rx ry ⟨d,hg,q⟩
 unfold xX at hg
 split at hg
 ·cases hg
  exact ⟨_,_,rx.1,ry.1,q _ H [] (Same.refl H) ⟨rfl,rfl⟩ (by simp) (fun a ha=>nomatch ha)⟩
 ·cases hg
open PySem PySem.Spec PyProof.Rows
noncomputable def Yi {α:Type}(t:Sem α):Prop:=∀ (M:Model) (Γ:PySem.Ctx) (Q:α->Pos->Shared->Prop) (E:Value->Pos->Shared->Prop) (p:Pos) (s:Shared),Sem.wp M Γ t Q E p s->Sem.wp M Γ t (fun a p' s'=>0<s'.toks/\Q a p' s') E p s
theorem wt {α β:Type}{m:Sem α}{f:α->Sem β}(h:Yi m):Yi (m >>= f):=fun M Γ Q E p s hw=>by
 rw [Sem.wp_bind'] at hw ⊢
 refine Sem.wp_mono M Γ m (fun a p' s' h'=>?_) (fun _ _ _ h=>h) p s (h M Γ _ E p s hw)
 exact Sem.wp_mono M Γ (f a) (fun _ _ _ h=>h) (fun _ _ _ h=>h.2) p' s' (Sem.wp_toks M Γ 1 (f a) Q E p' s' h'.1 h'.2)
theorem uj {α β:Type}{m:Sem α}{f:α->Sem β}(h:∀ a,Yi (f a)):Yi (m >>= f):=fun M Γ Q E p s hw=>by
 rw [Sem.wp_bind'] at hw ⊢
 exact Sem.wp_mono M Γ m (fun a p' s' h'=>h a M Γ Q E p' s' h') (fun _ _ _ h=>h) p s hw
theorem YN:Yi PySem.fresh:=fun M Γ Q E p s hw=>⟨Nat.succ_pos _,hw⟩
theorem Xm {a:Addr}{x:Str}{v:Value}:Yi (nsSet a x v):=uj fun _=>wt (wt YN)
theorem Xn {env:Env}{x:Str}{v:Value}(hk:env.scope.kind=.function)(hl:env.kindOf x=some .local):Yi (storeName env x v):=by
 have e:storeName env x v=nsSet env.locals x v:=by
  unfold storeName
  rw [hl,hk]
  rfl
 rw [e]
 exact Xm
theorem Vr {scope:Scope}{globals:Addr}{binds:List (Str×Value)}{qual:Str}{func:Option Addr}{code:Value}{builtins:Addr}(hk:scope.kind=.function)(hx:∃ x v r,binds=(x,v)::r/\scope.names.lookup x=some .local) :
  Yi (newFunctionEnv scope globals [] binds qual func code none builtins):=by
 obtain ⟨x,v,r,rfl,hx⟩:=hx
 simp only [newFunctionEnv,Option.isSome_none,Bool.false_eq_true,if_false]
 refine uj fun L=>uj fun cells=>wt ?_
 rw [List.forIn_cons]
 exact wt (wt (Xn hk hx))
theorem Jp {scope:Scope}{globals:Addr}{binds:List (Str×Value)}{qual:Str}{func:Option Addr}{code:Value}{builtins:Addr}{M:Model}{A:Around}{E:Value->Shared->Prop}{s:Shared}{Q:Env->Shared->Prop}(hk:scope.kind=.function)(hx:∃ x v r,binds=(x,v)::r/\scope.names.lookup x=some .local)
  (h:wpAny M A (newFunctionEnv scope globals [] binds qual func code none builtins) (fun env s'=>0<s'.toks->Q env s') E s):wpAny M A (newFunctionEnv scope globals [] binds qual func code none builtins) Q E s:=fun Γ p hΓ =>
 Sem.wp_mono M Γ _ (fun a p' s' h=>h.2 h.1) (fun _ _ _ h=>h) p s (Vr hk hx M Γ _ _ p s (h Γ p hΓ))
noncomputable def z1j (X:Cx)(st:List Stmt)(t:TS):Prop :=
 ∀ (pins:List (Addr×Obj)) (s:Shared) (σ:St) (H:Hp) (D:Ends),0<s.toks->Inv X pins σ H s->t D σ H->wpAny (model X.prog X.w) X.A (execs st X.env) (SP X pins D) X.xe s
noncomputable def PEp (X:Cx)(e:Expr)(t:TE):Prop :=
 ∀ (pins:List (Addr×Obj)) (s:Shared) (σ:St) (H:Hp) (Q:VK),0<s.toks->Inv X pins σ H s->t σ H Q->wpAny (model X.prog X.w) X.A (eval e X.env) (EP X pins σ Q) X.xe s
theorem PE.p {X:Cx}{e:Expr}{t:TE}(h:PE X e t):PEp X e t:=fun pins s σ H Q _ I=>h pins s σ H Q I
theorem PEp.up {X:Cx}{e:Expr}{t:TE}(h:PEp X e t){pins:List (Addr×Obj)}{s:Shared}{σ:St}{H:Hp}{Q:VK}(hs:0<s.toks)(I:Inv X pins σ H s)(ht:t σ H Q):wpAny (model X.prog X.w) X.A (eval e X.env) (fun v s'=>0<s'.toks/\EP X pins σ Q v s') X.xe s :=
 wpAny_mono (wpAny_toks_of (n:=1) hs (h pins s σ H Q hs I ht)) (fun _ _ h=>h) fun _ _ h=>h.2
section
variable {X:Cx}{o:Expr}{to:TE}{a b:Str}{j1 j2:Nat}{p1 p2 apos cpos:Pos}
theorem VW (ho:PEp X o to)(hab:(a==b)=false)(hb:b.length<=14)
  (hbase:autoParam (attributeBase o "replace" X.env (eval o X.env)=eval o X.env) L2.au3._auto_1)
  (hfew:autoParam (((backTo cpos (starEach [.Constant (.str a) j1 p1,.Constant (.str b) j2 p2] X.env)).all (fun x=>!x.1)&&(backToKw cpos (keywordEach [] X.env)).all (fun x=>x.1.isSome)
   && decide ([Expr.Constant (.str a) j1 p1,.Constant (.str b) j2 p2].length+([]:List Keyword).length+(if ([]:List Keyword).isEmpty then 0 else 1)<30))=true) L2.au3._auto_1)
  (hline:autoParam ((apos.endLine==cpos.line)=true) L2.au3._auto_1) (hs:autoParam (starEach [.Constant (.str a) j1 p1,.Constant (.str b) j2 p2] X.env=[(false,eval (.Constant (.str a) j1 p1) X.env),(false,eval (.Constant (.str b) j2 p2) X.env)]) L2.au3._auto_1) :
  PEp X (.Call (.Attribute o "replace" apos) [.Constant (.str a) j1 p1,.Constant (.str b) j2 p2] [] cpos) (fun σ H Q=>to σ H fun x H1=>∃ z,x=.str z/\z.length<=1048576/\Q (.str (Txt.replace z a b)) H1):=by
 intro pins s σ H Q htk I h
 refine wpAny_Call_method_late hbase hfew hline rfl (thn (ho.up htk I h) fun v s1 h1=>?_)
 obtain ⟨tk1,x,H1,I1,r1,z,rfl,hz,q1⟩:=h1
 obtain ⟨t,rfl⟩:=r1
 refine ⟨"str","str.replace",PySem.F.plainAttrs_str,PySem.F.slot_str_replace,PySem.F.type_str_replace,typeIs_str _ _ _,?_,?_⟩
 ·exact fun y e=>by cases e
 rw [hs]
 refine Calls.callWith_builtin rfl (Calls.evalArgs_plain ?_)
 show wpAny _ _ (spliced [(false,eval (.Constant (.str a) j1 p1) X.env),(false,eval (.Constant (.str b) j2 p2) X.env)]) _ _ _
 refine Calls.spliced_cons (Calls.Constant_str (k:=j1) (pos:=p1) (Calls.spliced_cons (Calls.Constant_str (k:=j2) (pos:=p2) (Calls.spliced_nil ?_))))
 exact SC.replaceW (by show s1.toks≠0; omega) (by show s1.toks+1≠0; omega) (by show s1.toks≠s1.toks+1; omega) hab hz hb fun t' k=>⟨.str (Txt.replace z a b),H1,I1.tok _,⟨t',rfl⟩,q1⟩
end
section
theorem z12 {CX:CXT}{P:Program}{w:World}{K:PySem.W.Frag}{mg:Str->Option Value}{base:Heap}{k:Nat}{f:Addr}{name qual:Str}{params:Arguments}{body:List Stmt}{scope:Scope}{dV kV doc pm cdv ct oc:Value}{an od:Option Addr}
  {osl:Array (Option Value)} {N ps:List Str} {sp:Sp} (lk:K.lookup f=some ⟨oc,od,.func (PySem.W.fnOf name qual params body scope dV kV doc pm an cdv ct),osl⟩) (hcd:PySem.W.codeIn K cdv qual=true) (S:FnScope N ps scope)
  (hloc:∃ x r,ps=x::r/\scope.names.lookup x=some .local) (len:∀ vs H Q E,sp vs H Q E->vs.length=ps.length)
  (hbody:∀ (A:Around) (outer:List Env) (s:Shared) (H:Hp) (vs:List V) (Q:VK) (E:XK),Room k (A.deeper (envOfC qual scope s.heap.objs.size f cdv))->sp vs H Q E ->
   ∃ t,z1j (yX CX P w K mg base N qual scope f cdv A outer s H E) body t/\t { nx:=fun _ H'=>Q .non H',rt:=Q } (start N vs) H) :
  FnOk P w K mg base CX (k+1) f (PySem.W.fnOf name qual params body scope dV kV doc pm an cdv ct) ps sp:=by
 refine ⟨len,fun A outer s H args us vs Q E hr e0 hb r hsp=>?_⟩
 have hl:=len _ _ _ _ hsp
 have KX:K.In s.heap:=e0.mod.kin.keeps fun b o e=>(e0.bs b o e).1
 have lim:s.heap.NoLimit:=e0.mod.nolimit.keeps fun b o e=>(e0.bs b o e).1
 have hkind:∀ y∈ps.zip us,scope.names.lookup y.1=some .local\/(scope.names.lookup y.1=some .cell/\((cellsFrom (s.heap.objs.size+1) scope.names []).lookup y.1).isSome=true):=fun ⟨n,v⟩ hy=>by
  rcases S.par n (List.of_mem_zip hy).1 with q | q
  ·exact .inl q
  ·exact .inr ⟨q,PySem.W.cellsFrom_some _ _ _ (.inl q)⟩
 refine codeAny_call_function hr.depth (KX _ _ lk) rfl S.co S.gen rfl (PySem.W.codeRec_of KX hcd) (hb _ _ _ _ ?_)
 have hlu:us.length=ps.length:=by rw [<- r.length,hl]
 refine Jp S.kind (by
  obtain ⟨y,q,rfl,hy⟩:=hloc
  cases us with
  | nil=>cases hlu
  | cons u us=>exact ⟨y,u,_,rfl,hy⟩) (wpAny_newFunctionEnv_cells S.kind hkind fun env he s1 x htk=>?_)
 subst he
 refine ⟨lim.keeps x.toInCall.keep,codeAny_func ?_⟩
 obtain ⟨t,ht,hq⟩:=hbody A outer s H vs Q E (hr.deeper _) hsp
 have I:Inv (yX CX P w K mg base N qual scope f cdv A outer s H E) [] (start N vs) H s1:=kB S hr.hd e0 hl r x
 refine wpAny_mono (ht [] s1 (start N vs) H _ htk I hq) (fun fl s' hs=>?_) fun e s' hs=>hs
 have fin:∀ {σ':St} {H':Hp} {v:V} {u:Value},Inv (yX CX P w K mg base N qual scope f cdv A outer s H E) [] σ' H' s'->RelV v u->Q v H'->CE outer P w H s Q u s' :=
  fun {σ' H' v u} J rv q=>⟨v,H',J.os,J.bare,J.base,J.hok,rv,q⟩
 cases fl with
 | ret u =>
  obtain ⟨v,σ',H',J,rv,q⟩:=hs
  exact fin J rv q
 | next =>
  obtain ⟨σ',H',J,q⟩:=hs
  exact fin (v:=V.non) (u:=Value.none) J rfl q
 | brk =>
  obtain ⟨_,_,_,q⟩:=hs
  exact False.elim q
 | cont =>
  obtain ⟨_,_,_,q⟩:=hs
  exact False.elim q
end
open PySem PySem.Spec PyProof.Rows
noncomputable def MEp (X:Cx)(E:XK)(Γ:List Cl)(e:Expr)(t:Tn->R D)(c:Rc):Prop :=
 ∃ te,PEp X e te/\∀ O σ H τ Q,EOk X.K Γ O H σ τ->post X.K E O c H Q (t τ)->te σ H Q
noncomputable def z2a (X:Cx)(E:XK)(Γl Γ:List Cl)(s:List Stmt)(t:Tn->R Fl)(Γ':List Cl):Prop :=
 ∃ ts,z1j X s ts/\∀ B σ H τ Z,SOk X.K Γ B H σ τ []->wG X.K E B Γl Γ' Z (t τ)->ts Z σ H
noncomputable def XY (a b:Str):D->R D
 | .str z=>if z.length<=1048576 then .ok (.str (Txt.replace z a b)) else .bad
 | _=>.bad
section
variable {X:Cx}{E:XK}{Γ Γ' Γl:List Cl}{e o:Expr}{t:Tn->R D}{c:Rc}{a b:Str}{j1 j2:Nat}{p1 p2 apos cpos pos:Pos}
theorem ME.p (h:ME X E Γ e t c):MEp X E Γ e t c:=by
 obtain ⟨te,p,q⟩:=h
 exact ⟨te,p.p,q⟩
theorem Ys (ho:MEp X E Γ o t c)(hab:(a==b)=false)(hb:b.length<=14)
  (hbase:autoParam (attributeBase o "replace" X.env (eval o X.env)=eval o X.env) L2.au3._auto_1)
  (hfew:autoParam (((backTo cpos (starEach [.Constant (.str a) j1 p1,.Constant (.str b) j2 p2] X.env)).all (fun x=>!x.1)&&(backToKw cpos (keywordEach [] X.env)).all (fun x=>x.1.isSome)
   && decide ([Expr.Constant (.str a) j1 p1,.Constant (.str b) j2 p2].length+([]:List Keyword).length+(if ([]:List Keyword).isEmpty then 0 else 1)<30))=true) L2.au3._auto_1)
  (hline:autoParam ((apos.endLine==cpos.line)=true) L2.au3._auto_1) (hs:autoParam (starEach [.Constant (.str a) j1 p1,.Constant (.str b) j2 p2] X.env=[(false,eval (.Constant (.str a) j1 p1) X.env),(false,eval (.Constant (.str b) j2 p2) X.env)]) L2.au3._auto_1) :
  MEp X E Γ (.Call (.Attribute o "replace" apos) [.Constant (.str a) j1 p1,.Constant (.str b) j2 p2] [] cpos) (eUn (XY a b) t) .fresh:=by
 obtain ⟨te,p,q⟩:=ho
 refine ⟨_,VW p hab hb hbase hfew hline hs,fun O σ H τ Q ok h=>?_⟩
 unfold eUn at h
 refine q O σ H τ _ ok (post.bind h fun d hd h x H1 L1 s1 r1 _=>?_)
 cases d with
 | str z =>
  obtain ⟨rfl,_⟩:=r1
  have h:post X.K E O .fresh H Q (if z.length<=1048576 then .ok (.str (Txt.replace z a b)) else .bad):=h
  by_cases hz:z.length<=1048576
  ·rw [if_pos hz] at h
   exact ⟨z,rfl,hz,h _ H1 [] s1 ⟨rfl,rfl⟩ ⟨by simp,fun a ha=>nomatch ha⟩⟩
  ·rw [if_neg hz] at h; exact h.elim
 | _=>exact h.elim
theorem Jf (h:MEp X E Γ e t .fresh):z2a X E Γl Γ [.Return (some e) pos] (zo t) Γ':=by
 obtain ⟨te,p,q⟩:=h
 refine ⟨z0x te,fun pins s σ H D htk I h=>?_,fun B σ H τ Z ok h=>?_⟩
 ·refine wpAny_execs_cons (wpAny_Return_some (thn (p pins s σ H _ htk I h) fun v s1 h1=>?_))
  obtain ⟨x,H1,I1,r1,q1⟩:=h1
  exact ⟨x,σ,H1,I1,r1,q1⟩
 ·obtain ⟨O,eo,_⟩:=ok.eok
  refine q O σ H τ _ eo ?_
  unfold zo at h
  cases ht:t τ with
  | ok d =>
   rw [ht,R.ok_bind] at h
   exact fun v H' L s r k=>h v H' L (ok.ext.trans s) r k.1 fun a ha=>ok.ext.non (k.2 a ha)
  | err n=>rw [ht] at h; exact fun C H' e s=>h C H' e (ok.ext.trans s)
  | bad=>rw [ht] at h; exact h
end
section
variable {P:Program}{w:World}{K:PySem.W.Frag}{mg:Str->Option Value}{base:Heap}{x:Str}{st:Stmt}{N ps:List Str}{k:Nat}{t:Tn->R Fl}{Γ':List Cl}
theorem DefIn.mirT (Df:DefIn K mg x st ps)(S:FnScope N ps (defScope st))(hn:ps.length<=N.length)(hloc:∃ x r,ps=x::r/\(defScope st).names.lookup x=some .local)
  (hbody:∀ (f:Addr) (cdv:Value) (A:Around) (outer:List Env) (s:Shared) (H:Hp) (E:XK),Room k (A.deeper (envOfC x (defScope st) s.heap.objs.size f cdv)) ->
   z2a (yX (cxx P w) P w K mg base N x (defScope st) f cdv A outer s H E) E [] (vJ N.length ps.length) (defBody st) t Γ'):Own P w K mg base x (k+1) ps (spM K (zw N.length t) ps.length):=by
 obtain ⟨f,fd,F,hm,hb⟩:=Df.ex
 obtain ⟨oc,od,kV,doc,pm,an,cdv,ct,osl,rfl,lk,hcd⟩:=F.ex
 refine ⟨f,_,z12 lk hcd S hloc (fun vs H Q E h=>h.1) fun A outer s H vs Q E hr h=>?_,hm,F.kp,hb⟩
 obtain ⟨hl,ds,L,r,h⟩:=h
 obtain ⟨ts,p,q⟩:=hbody f cdv A outer s H E hr
 refine ⟨ts,p,q H (start N vs) H _ _ (hl▸SOk.start r (by lia)) ?_⟩
 unfold zw at h
 cases ht:t (ds.map some++List.replicate (N.length-ds.length) none) with
 | ok f =>
  rw [ht] at h
  cases f with
  | nx τ'=>exact fun σ' H' ok'=>h .non H' [] ok'.ext ⟨rfl,rfl⟩ RcOk.nil
  | rt d=>exact fun v H' L s r n1 n2=>h v H' L s r ⟨n1,n2⟩
  | bk τ'=>exact h.elim
  | ct τ'=>exact h.elim
 | err n=>rw [ht] at h; exact fun C H' e s=>h C H' e s
 | bad=>rw [ht] at h; exact h.elim
end
open PySem PySem.Spec PyProof.Rows
section
open PySem.SeqAt PySem.MeetsSeq3
open PySem.AutoSeq1 (wpAny_loadPart')
theorem ki (l b:Addr)(items items2:Array Value)(n n2:Nat)(dd dd2:Option Addr)(sl sl2:Array (Option Value))(ns ms:List Int)(hi:IntsAre items.toList ns)(hj:IntsAre items2.toList ms)(hsz:ns.length=ms.length) :
  Meets (Builtin.«tuple.__gt__» ⟨[.ref l,.ref b],[]⟩)
   (fun A R s=>(s.heap.get? l=some { cls:=.type "tuple",dict:=dd,data:=.seq items n,slots:=sl }/\s.heap.get? b=some { cls:=.type "tuple",dict:=dd2,data:=.seq items2 n2,slots:=sl2 }) /\
    R (.ok (.ret (.bool (qO ns ms)))) s) :=
 .of_wp fun prog w A R s h=>by
  have z1:items.size=ns.length:=by have:=hi.length; simpa using this
  have z2:items2.size=ms.length:=by have:=hj.length; simpa using this
  have at1:∀ j,(hlt:j<ns.length)->∃ t,items[j]?=some (.int ns[j] t):=fun j hlt=>by
   have h0:j<items.toList.length:=by simp; lia
   obtain ⟨t,e⟩:=PyProof.Rows.IntsAre.int_at hi j _ (List.getElem?_eq_getElem h0)
   refine ⟨t,?_⟩
   rw [<- Array.getElem?_toList,List.getElem?_eq_getElem h0,e,List.getD_eq_getElem?_getD,List.getElem?_eq_getElem hlt]
   rfl
  have at2:∀ j,(hlt:j<ms.length)->∃ t,items2[j]?=some (.int ms[j] t):=fun j hlt=>by
   have h0:j<items2.toList.length:=by simp; lia
   obtain ⟨t,e⟩:=PyProof.Rows.IntsAre.int_at hj j _ (List.getElem?_eq_getElem h0)
   refine ⟨t,?_⟩
   rw [<- Array.getElem?_toList,List.getElem?_eq_getElem h0,e,List.getD_eq_getElem?_getD,List.getElem?_eq_getElem hlt]
   rfl
  obtain ⟨hp,g,d,tk,os⟩:=s; obtain ⟨⟨hl,hb⟩,h⟩:=h
  have f2:=AutoSeq1.sub_tuple_tuple
  have hZ:(items.toList.zip items2.toList).length=ns.length:=by simp; lia
  wp_walk using wpAny_loadPart' hl,wpAny_loadPart' hb,wpAny_forIn_list _ (fun rest b s'=>b.1=none/\s'=⟨hp,g,d,tk,os⟩/\∃ i,rest=(items.toList.zip items2.toList).drop i/\R (.ok (.ret (.bool (qO (ns.drop i) (ms.drop i))))) ⟨hp,g,d,tk,os⟩) _
  case turn =>
   rintro ⟨x,y⟩ rest b' s' ⟨hb',rfl,i,hz,hR⟩
   have hlt:i<ns.length:=by
    rcases Nat.lt_or_ge i (items.toList.zip items2.toList).length with h' | h'
    ·lia
    ·rw [List.drop_of_length_le h'] at hz; cases hz
   have h2:i<ms.length:=by lia
   rw [List.drop_eq_getElem_cons (by lia)] at hz
   obtain ⟨t,a1⟩:=at1 i hlt
   obtain ⟨u,a2⟩:=at2 i h2
   have e0:(x,y)=(items.toList.zip items2.toList)[i]'(by lia):=(List.cons.inj hz).1
   have hrest:=(List.cons.inj hz).2
   rw [List.getElem_zip] at e0
   have ex:x=.int ns[i] t:=by
    have:=congrArg Prod.fst e0
    rw [show x=items.toList[i]'(by simp; lia) from this]
    have a1':items.toList[i]?=some (.int ns[i] t):=by simpa using a1
    rw [List.getElem?_eq_getElem (by simp; lia)] at a1'
    exact Option.some.inj a1'
   have ey:y=.int ms[i] u:=by
    have:=congrArg Prod.snd e0
    rw [show y=items2.toList[i]'(by simp; lia) from this]
    have a2':items2.toList[i]?=some (.int ms[i] u):=by simpa using a2
    rw [List.getElem?_eq_getElem (by simp; lia)] at a2'
    exact Option.some.inj a2'
   subst ex ey
   have d1:ns.drop i=ns[i]::ns.drop (i+1):=List.drop_eq_getElem_cons hlt
   have d2:ms.drop i=ms[i]::ms.drop (i+1):=List.drop_eq_getElem_cons h2
   rw [d1,d2] at hR
   refine wpAny_bind ((SeqAt.EqAt.int_int (A:=A.in1) (s:=⟨hp,g,d,tk,os⟩) ns[i] t ms[i] u) prog w _ _ ?_)
   by_cases he:ns[i]=ms[i]
   ·have hb2:(ns[i]==ms[i])=true:=by simpa using he
    rw [hb2]
    have hx:qO (ns[i]::ns.drop (i+1)) (ms[i]::ms.drop (i+1))=qO (ns.drop (i+1)) (ms.drop (i+1)):=if_pos he
    rw [hx] at hR
    wp_walk
    exact ⟨rfl,rfl,i+1,hrest,hR⟩
   ·have hb2:(ns[i]==ms[i])=false:=by simpa using he
    rw [hb2]
    have hx:qO (ns[i]::ns.drop (i+1)) (ms[i]::ms.drop (i+1))=decide (ns[i]>ms[i]):=if_neg he
    rw [hx] at hR
    have hri:=Uc A.in1 ⟨hp,g,d,tk,os⟩ ns[i] t ms[i] u prog w
    wp_walk using hri
    exact ⟨_,rfl,hR⟩
  case fin =>
   rintro ⟨b1,b2⟩ s' ⟨hb',rfl,i,hz,hR⟩
   simp only at hb'
   subst hb'
   have hge:ns.length<=i:=by
    rcases Nat.lt_or_ge i (items.toList.zip items2.toList).length with h' | h'
    ·rw [List.drop_eq_getElem_cons h'] at hz; cases hz
    ·lia
   rw [List.drop_of_length_le hge] at hR
   have hR:R (.ok (.ret (.bool false))) ⟨hp,g,d,tk,os⟩:=hR
   wp_walk
   exact ⟨_,rfl,by
    have e:decide (items.size>items2.size)=false:=decide_eq_false (by lia)
    simpa [Builtin.Tuple.tupleCompareSizes,e,z1,z2,hsz] using hR⟩
  case h =>
   exact ⟨rfl,rfl,0,rfl,h⟩
end
noncomputable def z1Y (K:PySem.W.Frag):R2:=fun x y H Q=>∃ a b ns ms,x=.ref a/\y=.ref b/\SqT K H a (ns.map V.int)/\SqT K H b (ms.map V.int)/\ns.length=ms.length/\Q (.bl (qO ns ms)) H
theorem z0Q {X:Cx}(hu:X.A.units<cLine):OpR X (compareOp .Gt) (z1Y X.K):=by
 intro pins s σ H x y v u Q I rx ry h
 obtain ⟨a,b,ns,ms,rfl,rfl,ha,hb,hsz,q⟩:=h
 cases rx
 cases ry
 obtain ⟨its,r1,p1,_⟩:=I.tuple ha
 obtain ⟨its2,r2,p2,_⟩:=I.tuple hb
 have i1:IntsAre its.toArray.toList ns:=jQ r1
 have i2:IntsAre its2.toArray.toList ms:=jQ r2
 obtain ⟨⟨cls,dd,data,sl⟩,ho,hc,n,hd⟩:=p1
 obtain ⟨⟨cls2,dd2,data2,sl2⟩,ho2,hc2,n2,hd2⟩:=p2
 simp only at hc hd hc2 hd2
 subst hc hd hc2 hd2
 exact richCompare_meets_room (op:=.Gt) ⟨_,ho,rfl⟩ ⟨_,ho2,rfl⟩ PySem.F.slot_tuple_gt PySem.F.entry_tuple_gt (PySem.F.args_tuple_gt_2 _ _) (ki a b _ _ n n2 dd dd2 sl sl2 ns ms i1 i2 hsz)
  ⟨⟨ho,ho2⟩,show Value.bool (qO ns ms)≠Value.notImplemented/\EP X pins σ Q (.bool (qO ns ms)) s from ⟨(fun x=>nomatch x),.bl (qO ns ms),H,I,rfl,q⟩⟩ hu
noncomputable def gtT:D->D->R D
 | .tup ds,.tup es=>(match wR ds,wR es with
  | some ns,some ms=>if ns.length=ms.length then .ok (.bl (qO ns ms)) else .bad
  | _,_=>.bad)
 | _,_=>.bad
theorem z2v:xa gtT:=fun x y n h=>by
 unfold gtT at h
 split at h
 ·split at h
  ·split at h<;>cases h
  ·cases h
 ·cases h
theorem z2l {K:PySem.W.Frag}:OpB K (z1Y K) gtT:=by
 rintro H x y dx dy Lx Ly Q rx ry ⟨d,hg,q⟩
 unfold gtT at hg
 split at hg
 ·split at hg
  ·rename_i ns ms h1 h2
   split at hg
   ·rename_i hsz
    cases hg
    obtain ⟨a,vs,rfl,ha,rs⟩:=rx
    obtain ⟨b,vs2,rfl,hb,rs2⟩:=ry
    refine ⟨a,b,ns,ms,rfl,rfl,?_,?_,hsz,q _ H [] (Same.refl H) ⟨rfl,rfl⟩ (by simp) (fun a ha=>nomatch ha)⟩
    ·rw [<- wH rs h1]; exact ha
    ·rw [<- wH rs2 h2]; exact hb
   ·cases hg
  ·cases hg
 ·cases hg
open PySem PySem.Spec PyProof.Rows
section
open PySem.SeqAt PySem.MeetsSeq PySem.MeetsSeq3
open PySem.AutoSeq1 (wpAny_loadPart')
theorem UU (l:Addr)(its:Array Value)(n:Nat)(dd:Option Addr)(sl:Array (Option Value))(x:Value)(e:Nat->Bool)(k:Nat):∀ i:Nat,its.size-i=k ->
  Meets (Builtin.«list.__contains__.loop» ⟨[.ref l,x,rawInt i],[]⟩) (fun A R s=>s.heap.get? l=some ⟨.type "list",dd,.seq its n,sl⟩/\(∀ j (h:j<its.size),EqAt A.in1 s its[j] x (e j))/\R (.ok (.ret (.bool (((List.range its.size).drop i).any e)))) s):=by
 induction k with
 | zero =>
  intro i hk prog w A R s h
  obtain ⟨hp,g,d,tk,os⟩:=s
  obtain ⟨hl,_,h⟩:=h
  wp_walk using wpAny_loadPart' hl
  have hn:its[((i:Nat):Int).toNat]?=none:=by simp; omega
  have hd:(List.range its.size).drop i=[]:=by simp; omega
  rw [hd] at h
  rw [hn]
  wp_walk
  exact h
 | succ k ih =>
  intro i hk prog w A R s h
  obtain ⟨hp,g,d,tk,os⟩:=s
  obtain ⟨hl,he,h⟩:=h
  wp_walk using wpAny_loadPart' hl
  have hlt:i<its.size:=by omega
  have hs:its[((i:Nat):Int).toNat]?=some its[i]:=by simp [hlt]
  have hd:(List.range its.size).drop i=i::(List.range its.size).drop (i+1):=by
   rw [List.drop_eq_getElem_cons (by simpa using hlt)]
   simp
  rw [hd,List.any_cons] at h
  rw [hs]
  refine wpAny_bind (he i hlt prog w _ _ ?_)
  cases hb:e i with
  | true =>
   rw [hb] at h
   wp_walk
   exact h
  | false =>
   rw [hb] at h
   have hc:((i:Int)+1)=((i+1:Nat):Int):=by push_cast; rfl
   wp_walk
   rw [hc]
   exact ⟨plainId_quiet plain_contains_loop _,codeAny_builtin entry_contains_loop (by
    rw [Around.under_plainId plain_contains_loop _]
    exact ih (i+1) (by omega) prog w A R _ ⟨hl,he,h⟩)⟩
theorem VE (l:Addr)(its:Array Value)(n:Nat)(dd:Option Addr)(sl:Array (Option Value))(x:Value)(e:Nat->Bool) :
  Meets (Builtin.«list.__contains__» ⟨[.ref l,x],[]⟩) (fun A R s=>s.heap.get? l=some ⟨.type "list",dd,.seq its n,sl⟩/\(∀ j (h:j<its.size),EqAt A.in1 s its[j] x (e j))/\R (.ok (.ret (.bool ((List.range its.size).any e)))) s):=by
 intro prog w A R s h
 obtain ⟨hp,g,d,tk,os⟩:=s
 obtain ⟨hl,he,h⟩:=h
 wp_walk using wpAny_loadPart' hl
 exact ⟨plainId_quiet plain_contains_loop _,codeAny_builtin entry_contains_loop (by
  rw [Around.under_plainId plain_contains_loop _]
  exact UU l its n dd sl x e _ 0 rfl prog w A R _ ⟨hl,he,h⟩)⟩
end
noncomputable def Zm (x:D):List D->Option Bool
 | []=>some false
 | d::ds=>match eqF 11 d x,Zm x ds with
  | some a,some b=>some (a||b)
  | _,_=>none
theorem XR {x:D}:∀ {ds:List D} {b:Bool},Zm x ds=some b->∃ e:Nat->Bool,(∀ j d,ds[j]?=some d->eqF 11 d x=some (e j))/\(List.range ds.length).any e=b
 | [],b,h=>⟨fun _=>false,fun j d z=>(nomatch z),by cases h; rfl⟩
 | d::ds,b,h=>by
  unfold Zm at h
  cases h1:eqF 11 d x with
  | none=>rw [h1] at h; cases h
  | some a =>
   rw [h1] at h
   cases h2:Zm x ds with
   | none=>rw [h2] at h; cases h
   | some c =>
    rw [h2] at h
    obtain ⟨e,g1,g2⟩:=XR h2
    refine ⟨fun j=>match j with | 0=>a | j+1=>e j,fun j d' z=>?_,?_⟩
    ·cases j with
     | zero=>cases z; exact h1
     | succ j=>exact g1 j d' (by simpa using z)
    ·rw [List.length_cons,List.range_succ_eq_map,List.any_cons,List.any_map]
     have:(List.range ds.length).any ((fun j=>match j with | 0=>a | j+1=>e j) ∘ Nat.succ)=c:=g2
     rw [this]
     exact Option.some.inj h
noncomputable def z2o (K:PySem.W.Frag)(neg:Bool):R2:=fun x y H Q=>∃ a vs ds L dx Lx b,y=.ref a/\SqL K H a vs/\Reps K H ds vs L/\Rep K H dx x Lx/\Zm dx ds=some b/\Q (.bl (if neg=true then !b else b)) H
theorem WH {X:Cx}{pins:List (Addr×Obj)}{σ:St}{H:Hp}{s:Shared}{vs:List V}{ds:List D}{L Lx:List Addr}{x:V}{v:Value}{dx:D}{its:List Value}{e:Nat->Bool}(I:Inv X pins σ H s)(hu:X.A.units+12<cLine)(rs:Reps X.K H ds vs L)(rv:Vals vs its)(rd:Rep X.K H dx x Lx)(rx:RelV x v)(he:∀ j d,ds[j]?=some d->eqF 11 d dx=some (e j)) :
  ∀ j (h:j<its.toArray.size),PySem.SeqAt.EqAt X.A.in1 s its.toArray[j] v (e j):=fun j h=>by
 have hj:j<its.length:=by simpa using h
 have l1:=rv.length
 have l2:=rs.length
 obtain ⟨w,L1,e1,r1,_⟩:=rs.get (List.getElem?_eq_getElem (show j<ds.length by lia))
 obtain ⟨u,e2,ru⟩:=rv.get e1
 have e3:its.toArray[j]=u:=by
  rw [List.getElem?_eq_getElem hj] at e2
  have:=Option.some.inj e2
  simpa using this
 rw [e3]
 exact (Vw I 11 X.A.in1 _ dx w x L1 Lx u v (e j) (by show X.A.units+1+11<cLine; lia) (he j _ (List.getElem?_eq_getElem (show j<ds.length by lia))) r1 rd ru rx).2.1
theorem WL {X:Cx}(hu:X.A.units+12<cLine):OpR X (compareOp .NotIn) (z2o X.K true):=by
 intro pins s σ H x y v u Q I rx ry h
 obtain ⟨a,vs,ds,L,dx,Lx,b,rfl,ha,rs,rd,hb,q⟩:=h
 cases ry
 obtain ⟨its,rv,pl,_⟩:=I.list ha
 obtain ⟨e,g1,g2⟩:=XR hb
 obtain ⟨⟨cls,dd,data,sl⟩,ho,hc,n,hd⟩:=pl.isList
 simp only at hc hd
 subst hc hd
 have hz:its.toArray.size=ds.length:=by have:=rv.length; have:=rs.length; simp; lia
 refine PySem.SeqRoads2.notIn_meets ⟨_,ho,rfl⟩ PySem.F.slot_list_contains PySem.F.entry_list_contains (PySem.F.args_list_contains_2 _ _) (VE a its.toArray n dd sl v e) ⟨ho,WH I hu rs rv rd rx g1,_,rfl,?_⟩
 rw [hz,g2]
 exact ⟨.bl (!b),H,I,rfl,q⟩
noncomputable def Ym (neg:Bool)(x y:D):R D:=match y with
 | .lst ds=>(match Zm x ds with
  | some b=>.ok (.bl (if neg=true then !b else b))
  | none=>.bad)
 | _=>.bad
theorem z2e {neg:Bool}:xa (Ym neg):=fun x y n h=>by
 unfold Ym at h
 split at h
 ·split at h<;>cases h
 ·cases h
theorem z2f {K:PySem.W.Frag}{neg:Bool}:OpB K (z2o K neg) (Ym neg):=by
 rintro H x y dx dy Lx Ly Q rx ry ⟨d,hg,q⟩
 unfold Ym at hg
 split at hg
 ·rename_i ds
  split at hg
  ·rename_i b hb
   cases hg
   obtain ⟨a,vs,L',rfl,ha,_,rs⟩:=ry
   exact ⟨a,vs,ds,L',dx,Lx,b,rfl,SqL.of ha,rs,rx,hb,q _ H [] (Same.refl H) ⟨rfl,rfl⟩ (by simp) (fun a ha=>nomatch ha)⟩
  ·cases hg
 ·cases hg
open PySem PySem.Spec PyProof.Rows
section
variable {X:Cx}{E:XK}{Γ Γs Γl:List Cl}{x:Str}{k:Nat}{ps:List Str}{F:List D->R D}{e:Expr}{es:List Expr}{t:Tn->R D}{u:Tn->R (List D)}{c:Rc}{p pos:Pos}{n:Nat}
noncomputable def VR:List Cl->List Cl
 | []=>[]
 | .own::r=>.shr::VR r
 | c::r=>c::VR r
theorem uz:∀ {Γ:List Cl} {i:Nat} {c:Cl},(VR Γ)[i]?=some c->∃ c',Γ[i]?=some c'/\(c'=.dead->c=.dead)
 | [],_,_,h=>by cases h
 | .own::r,0,c,h=>⟨.own,rfl,fun z=>nomatch z⟩
 | .shr::r,0,c,h=>⟨.shr,rfl,fun z=>nomatch z⟩
 | .brw::r,0,c,h=>⟨.brw,rfl,fun z=>nomatch z⟩
 | .dead::r,0,c,h=>⟨.dead,rfl,fun _=>by cases h; rfl⟩
 | .own::r,i+1,c,h=>uz (Γ:=r) (i:=i) h
 | .shr::r,i+1,c,h=>uz (Γ:=r) (i:=i) h
 | .brw::r,i+1,c,h=>uz (Γ:=r) (i:=i) h
 | .dead::r,i+1,c,h=>uz (Γ:=r) (i:=i) h
theorem YF (O:Own X.prog X.w X.K X.mg X.base x k ps (spO X.K F n))(hr:Room k X.A)(hg:Gl X x)(hx:uo (cxx X.prog X.w) X E)(h0:ME X E Γ e t .fresh)(ha:MA X E (VR Γ) es u c)(hc:c≠.bor)(hl:autoParam ((e::es).length=n) L2.au3._auto_1)(hdb:autoParam ((x==("__debug__":Str))=false) L2.au1._auto_1)
  (he:autoParam (starEach (e::es) X.env=(false,eval e X.env)::starEach es X.env) L2.au3._auto_1) (hpl:autoParam ((backTo pos (starEach es X.env)).any (·.1)=false) L2.au3._auto_1):ME X E Γ (.Call (.Name x p) (e::es) [] pos) (eL (fun ds=>vg (F ds)) (z8 t u)) .fresh:=by
 obtain ⟨te,pe,qe⟩:=h0
 obtain ⟨hlen,ta,pa,q⟩:=ha
 refine ⟨_,VY O hr hg hx (zX pe pa he) hdb he hpl,fun O' σ H τ Q ok h=>?_⟩
 refine qe O' σ H τ _ ok ?_
 unfold eL z8 at h
 cases ht:t τ with
 | err m=>rw [ht] at h; exact h
 | bad=>rw [ht] at h; exact h
 | ok d0 =>
  rw [ht,R.ok_bind] at h
  refine fun v0 H1 L0 s1 r0 ⟨nd0,fr0⟩=>?_
  have ok1:EOk X.K (VR Γ) (fun a=>a∈L0) H1 σ τ:=⟨fun a ha=>r0.there ha,fun i c hi hcd=>by
   obtain ⟨c',e1,e2⟩:=uz hi
   obtain ⟨v,d,L,a1,a2,a3,_⟩:=ok.slot i c' e1 (fun z=>hcd (e2 z))
   exact ⟨v,d,L,a1,a2,a3.same s1,fun _ a ha hm=>a3.there ha (fr0 a hm)⟩⟩
  refine q _ σ H1 τ _ ok1 ?_
  cases hu:u τ with
  | err m=>rw [hu] at h; exact fun C H' e s=>h C H' e (s1.trans s)
  | bad=>rw [hu] at h; exact h
  | ok ds =>
   rw [hu,R.ok_bind,R.ok_bind] at h
   refine fun vs H2 L1 s2 rs rc=>?_
   have dj:∀ a∈L0,a∉L1:=fun a ha hm=>RcOk.shr (fun a ha=>ok1.dom a ha) hc rc a hm ha
   have hv:((v0::vs)++[]).length=n:=by rw [List.append_nil,List.length_cons,rs.length,hlen τ ds hu]; exact hl
   refine ⟨hv,v0,vs,d0,ds,L0,L1,by rw [List.append_nil],r0.same s2,nd0,rs,dj,?_⟩
   cases hF:F (d0::ds) with
   | err m=>rw [hF] at h; exact h.elim
   | bad=>rw [hF] at h; exact h.elim
   | ok d =>
    rw [hF] at h
    refine fun v H' L s' r' nd fr=>h v H' L (fun b o z=>?_) r' ⟨nd,fun a ha=>?_⟩
    ·have hb:b∉L0:=fun hm=>by rw [fr0 b hm] at z; cases z
     exact s' b o (by rw [Za hb]; exact s2 _ _ (s1 _ _ z))
    ·rcases QI (fr a ha) with z | z
     ·exact fr0 a z
     ·exact s1.non (s2.non z)
end
open PySem PySem.Spec PyProof.Rows
section
variable {X:Cx}{E:XK}{Γ Γl:List Cl}{pos:Pos}
noncomputable def kC (i:Nat):Tn->R Fl:=fun τ=>match τ[i]? with
 | some (some (.lst (_::ds)))=>.ok (.nx (τ.set i (some (.lst ds))))
 | _=>.bad
theorem z2X {n:Nat}:seqIndex? (0:Int) (n+1)=some 0:=by
 have:ixN (n+1) (0:Int)=some 0:=by
  unfold ixN
  rw [if_pos (Int.le_refl 0),if_pos (by omega)]
  rfl
 exact (j6 this).1
theorem z2S (i:Nat){x:Str}{j:Nat}{p0 p1 p2 p3:Pos}(hN:autoParam (X.N[i]?=some x) L2.au3._auto_1)(h0:autoParam (Γ[i]?=some .own) L2.au3._auto_1)(hv:autoParam (Vis X.env.scope x) L2.au5._auto_1)(hb:autoParam ((x==("__debug__":Str))=false) L2.au1._auto_1)(hcd:autoParam ((x==("__classdict__":Str))=false) L2.au1._auto_1)
  (hbase:autoParam (attributeBase (.Name x p0) "pop" X.env (eval (.Name x p0) X.env)=eval (.Name x p0) X.env) L2.au3._auto_1)
  (hfew:autoParam (((backTo p2 (starEach [.Constant (.int 0) j p3] X.env)).all (fun x=>!x.1)&&(backToKw p2 (keywordEach [] X.env)).all (fun x=>x.1.isSome)&&decide ([Expr.Constant (.int 0) j p3].length+([]:List Keyword).length+(if ([]:List Keyword).isEmpty then 0 else 1)<30))=true) L2.au3._auto_1)
  (hline:autoParam ((p1.endLine==p2.line)=true) L2.au3._auto_1) (hs:autoParam (starEach [.Constant (.int 0) j p3] X.env=(false,eval (.Constant (.int 0) j p3) X.env)::starEach [] X.env) L2.au3._auto_1) (hplain:autoParam ((backTo p2 (starEach [] X.env)).any (·.1)=false) L2.au3._auto_1)
  (hsw:autoParam (swapsWith (.Call (.Attribute (.Name x p0) "pop" p1) [.Constant (.int 0) j p3] [] p2) none pos.line X.env=pure false) L2.au3._auto_1) :
  MS X E Γl Γ (.Expr (.Call (.Attribute (.Name x p0) "pop" p1) [.Constant (.int 0) j p3] [] p2) pos) (kC i) Γ:=by
 refine ⟨_,Zn (VU PySem.F.plainAttrs_list PySem.F.slot_list_pop PySem.F.type_list_pop UQ (vC (pos:=p0) hN hv hb hcd) (zX Q8 wj hs) hbase hfew hline hs hplain) hsw,fun B σ H τ Z ok h=>?_⟩
 obtain ⟨v,d,L,e1,e2,r,nd,n2,fin⟩:=ok.slotF h0
 unfold kC at h
 rw [e2] at h
 cases d with
 | lst ds =>
  cases ds with
  | nil=>exact h.elim
  | cons d0 ds =>
   obtain ⟨a,vs,L',rfl,ha,rfl,rs⟩:=r
   obtain ⟨w,vs',L1,L2,rfl,rfl,r1,r2⟩:=rs
   obtain ⟨m1,m2⟩:=List.nodup_cons.mp nd
   obtain ⟨k1,k2,k3⟩:=List.nodup_append.mp m2
   have mu:(∃ vs,H a=some (.lst vs))\/∃ kvs,H a=some (.dK kvs):=.inl ⟨_,ha⟩
   have na:a∉L2:=fun z=>m1 (List.mem_append_right _ z)
   refine ⟨_,e1,.inl ⟨rfl,_,SqL.of ha⟩,a,_,0,0,w,rfl,rfl,ha,by decide,by decide,z2X,rfl,?_⟩
   exact h _ _ (fin _ _ (a::L2) (TF.upd mu) (fun c hc _=>y4 fun z=>hc (z▸List.mem_cons_self)) ⟨a,vs',L2,rfl,zK,rfl,r2.upd mu na⟩ (fun c hc=>.inl (by
    rcases List.mem_cons.mp hc with z | z
    ·exact z▸List.mem_cons_self
    ·exact List.mem_cons_of_mem _ (List.mem_append_right _ z))) (List.nodup_cons.mpr ⟨na,k2⟩))
 | _=>exact h.elim
end
noncomputable def yM (z:Str)(n:Int):Str:=if n<1 then Str.empty else if (n==1||z.length==0)=true then z else ⟨(List.replicate n.toNat z.cps).foldl (·++·) #[]⟩
theorem jO (c:Array Nat):∀ (k:Nat) (acc:Array Nat),((List.replicate k c).foldl (·++·) acc).size=acc.size+k*c.size
 | 0,acc=>by simp
 | k+1,acc=>by
  rw [List.replicate_succ,List.foldl_cons,jO c k,Array.size_append,Nat.succ_mul]
  lia
theorem X6 (z:Str)(n:Int):(yM z n).length<=n.toNat*z.length:=by
 unfold yM
 split
 ·exact Nat.zero_le _
 ·split
  ·rename_i h1 h2
   rw [Bool.or_eq_true] at h2
   rcases h2 with e | e
   ·have:n=1:=by simpa using e
    subst this; show z.length<=1*z.length; lia
   ·have:z.length=0:=by simpa using e
    lia
  ·show ((List.replicate n.toNat z.cps).foldl (·++·) #[]).size<=_
   rw [jO]
   show 0+n.toNat*z.length<=_
   lia
noncomputable def Ko:R2:=fun x y H Q=>∃ z n,x=.str z/\y=.int n/\-1000000<=n/\n.toNat*z.length<=1000000/\n<=1000000/\Q (.str (yM z n)) H
theorem Wg {X:Cx}:OpR X (binaryOp .Mult) Ko:=by
 intro pins s σ H x y v u Q I rx ry h
 obtain ⟨z,n,rfl,rfl,h0,h1,h2,q⟩:=h
 obtain ⟨t,rfl⟩:=rx
 obtain ⟨t',rfl⟩:=ry
 have hfit:(yM z n).length<=sizeLine:=by have:=X6 z n; rw [sizeLine_eq]; lia
 refine PySem.P.mul_str (by
  have e1:decide (n < -(2 ^ 63:Int))=false:=decide_eq_false (by lia)
  have e2:decide (n>=2 ^ 63)=false:=decide_eq_false (by lia)
  rw [e1,e2]; rfl) (fun a b hg=>?_) (fun a b=>?_) ?_
 ·have hn:1<=n:=by lia
  have:(z.length:Int)<=(2 ^ 63-1)/n:=by
   rw [Int.le_ediv_iff_mul_le (by lia)]
   have e:(z.length:Int)*n=((n.toNat*z.length:Nat):Int):=by
    rw [Int.natCast_mul,Int.toNat_of_nonneg (by lia),Int.mul_comm]
   rw [e]
   lia
  lia
 ·unfold PySem.Builtin.Str.tooLong
  rw [sizeLine_eq]
  exact decide_eq_false (by rw [Nat.mul_comm]; lia)
 ·have done:∀ t',EP X pins σ Q (.str (yM z n) t') s:=fun t'=>⟨.str (yM z n),H,I,⟨t',rfl⟩,q⟩
  have done':∀ t' k,EP X pins σ Q (.str (yM z n) t') { s with toks:=k }:=fun t' k=>⟨.str (yM z n),H,I.tok k,⟨t',rfl⟩,q⟩
  unfold yM at hfit done done'
  split
  ·rename_i hn
   rw [if_pos hn] at hfit done'
   exact ⟨hfit,done' _ _⟩
  ·rename_i hn
   rw [if_neg hn] at hfit done done'
   split
   ·rename_i h5
    rw [if_pos h5] at done
    exact done _
   ·rename_i h5
    rw [if_neg h5] at hfit done'
    exact ⟨hfit,done' _ _⟩
noncomputable def uX:D->D->R D
 | .str z,.int n=>if -1000000<=n/\n.toNat*z.length<=1000000/\n<=1000000 then .ok (.str (yM z n)) else .bad
 | _,_=>.bad
theorem UH:xa uX:=fun x y n h=>by
 unfold uX at h
 split at h
 ·split at h<;>cases h
 ·cases h
theorem Vq {K:PySem.W.Frag}:OpB K Ko uX:=by
 rintro H x y dx dy Lx Ly Q rx ry ⟨d,hg,q⟩
 unfold uX at hg
 split at hg
 ·rename_i z n
  split at hg
  ·rename_i hz
   cases hg
   exact ⟨z,n,rx.1,ry.1,hz.1,hz.2.1,hz.2.2,q _ H [] (Same.refl H) ⟨rfl,rfl⟩ (by simp) (fun a ha=>nomatch ha)⟩
  ·cases hg
 ·cases hg
open PySem PySem.Spec PyProof.Rows
noncomputable abbrev Cx.errd (X:Cx)(e:Addr)(oe:Obj):Cx:={ X with calm:=false,pn:=[(e,oe)] }
theorem z0f {e:Addr}{oe:Obj}{s:Shared}{H:Hp}{outer:List Env}{h1:Heap}(hk:∀ b o,s.heap.get? b=some o->h1.get? b=some o)(h:s.heap.get? e=some oe/\H e=none/\e∉frs outer/\∀ v,oe.data≠.cell v) :
  ∀ p∈[(e,oe)]++([]:List (Addr×Obj)),h1.get? p.1=some p.2/\H p.1=none/\p.1≠s.heap.objs.size/\p.1∉frs outer/\∀ v,p.2.data≠.cell v:=fun p hp=>by
 rw [List.append_nil] at hp
 rw [List.mem_singleton.mp hp]
 exact ⟨hk _ _ h.1,h.2.1,Nat.ne_of_lt (Heap.lt_size h.1),h.2.2.1,h.2.2.2⟩
section
theorem YQ {e:Addr}{oe:Obj}{CX:CXT}{P:Program}{w:World}{K:PySem.W.Frag}{mg:Str->Option Value}{base:Heap}{N ps:List Str}{qual:Str}{scope:Scope}{f:Addr}{cd:Value}{A:Around}{outer:List Env}{s s1:Shared}{H:Hp}{E:XK}{us:List Value}{vs:List V}
  (S:FnScope N ps scope) (hpn:s.heap.get? e=some oe/\H e=none/\e∉frs outer/\∀ v,oe.data≠.cell v) (e0:Env0 P w K mg base A outer s H) (hl:vs.length=ps.length) (r:Vals vs us)
  (x:InCallC s s.heap.objs.size (bindL (envOfC qual scope s.heap.objs.size f cd).kindOf (ps.zip us) fun _=>none) (cellsFrom (s.heap.objs.size+1) scope.names []) (bindC (envOfC qual scope s.heap.objs.size f cd).kindOf (ps.zip us) fun _=>none) s1) :
  Inv ((yX CX P w K mg base N qual scope f cd A outer s H E).errd e oe) [] (start N vs) H s1:=by
 have hpl:ps.length<=N.length:=by have:=congrArg List.length S.pre; rw [List.length_take] at this; omega
 obtain ⟨h1,tk,rfl,hk⟩:=x.done
 have noA:∀ b:Addr,b∉(yX CX P w K mg base N qual scope f cd A outer s H E).ex:=fun b z=>absurd (show b∈([]:List Addr) from z) (by simp)
 refine ⟨⟨e0.mod,S.kind,rfl,rfl,Nat.le_refl _,fun y z c h1 h2=>?_,fun y hy=>?_,fun y c _ h=>?_,fun z=>Bool.noConfusion z,Around.frames_deeper e0.frames,.inr ⟨rfl,rfl⟩,fun b z=>absurd z (noA b),e0.bs,e0.bsz,fun b _ _=>noA b,fun b z=>absurd z (noA b),e0.funs,e0.frf⟩,
  rfl,e0.bare,Un.kept hk,⟨_,x.toInCall.ns,fun i y v h1 h2 h3=>?_⟩,fun y c h=>⟨_,x.cell y c h⟩,e0.hok.fresh (Nat.le_refl _),fun y c h=>?_,z0f hk hpn,e0.hok.kept hk,?_⟩
 ·exact name_of_addr x.apart (PySem.mem_of_lookup h1) (PySem.mem_of_lookup h2)
 ·have hy:scope.names.lookup y=some .cell\/scope.names.lookup y=some .free:=hy
  rcases hy with hy | hy
  ·exact vH hy
  ·exact absurd rfl (S.nofree _ (PySem.mem_of_lookup hy))
 ·exact Nat.le_of_lt (x.above y c (PySem.mem_of_lookup h))
 ·have hi:i<vs.length:=by
   unfold start at h2
   by_cases hi:i<vs.length
   ·exact hi
   ·rw [List.getElem?_append_right (by simpa using hi)] at h2
    rw [List.getElem?_replicate] at h2
    split at h2<;>cases h2
  have ha:vs[i]?=some v:=by
   unfold start at h2
   rw [List.getElem?_append_left (by simpa using hi),List.getElem?_map] at h2
   cases e:vs[i]? with
   | none=>rw [e] at h2; cases h2
   | some a=>rw [e] at h2; cases h2; rfl
  obtain ⟨u,hu,rv⟩:=r.get ha
  have hp:ps[i]?=some y:=by
   rw [<- S.pre,List.getElem?_take_of_lt (by omega)]; exact h1
  have ndP:ps.Nodup:=by rw [<- S.pre]; exact S.nd.sublist (List.take_sublist _ _)
  refine ⟨u,rv,?_⟩
  rcases S.par y (List.mem_of_getElem? hp) with k | k
  ·exact .inl ⟨k,qf ndP hp hu k⟩
  ·obtain ⟨c,e⟩:=vH (n:=s.heap.objs.size+1) k
   refine .inr ⟨.inl k,c,e,?_⟩
   have q:=x.cell y c e
   rw [qj ndP hp hu (by show scope.names.lookup y≠_; rw [k]; decide)] at q
   exact q
 ·exact e0.hok.fresh (Nat.le_of_lt (x.above y c (PySem.mem_of_lookup h)))
 ·unfold start
  show _=N.length
  rw [List.length_append,List.length_map,List.length_replicate]
  omega
theorem z0d {e:Addr}{oe:Obj}{CX:CXT}{P:Program}{w:World}{K:PySem.W.Frag}{mg:Str->Option Value}{base:Heap}{f:Addr}{name qual:Str}{params:Arguments}{body:List Stmt}{scope:Scope}{dV kV doc pm cdv ct oc:Value}{an od:Option Addr}
  {osl:Array (Option Value)} {N ps:List Str} {sp:Sp} (lk:K.lookup f=some ⟨oc,od,.func (PySem.W.fnOf name qual params body scope dV kV doc pm an cdv ct),osl⟩) (hcd:PySem.W.codeIn K cdv qual=true) (S:FnScope N ps scope)
  (len:∀ vs H Q E,sp vs H Q E->vs.length=ps.length)
  (hbody:∀ (A:Around) (outer:List Env) (s:Shared) (H:Hp) (vs:List V) (Q:VK) (E:XK),sp vs H Q E ->
   ∃ t,PSs ((yX CX P w K mg base N qual scope f cdv A outer s H E).errd e oe) body t/\t { nx:=fun _ H'=>Q .non H',rt:=Q } (start N vs) H) :
  ∀ (A:Around) (outer:List Env) (s:Shared) (H:Hp) (args:Args) (us:List Value) (vs:List V) (Q:VK) (E:XK),A.depth<recursionLimit->Env0 P w K mg base A outer s H->(s.heap.get? e=some oe/\H e=none/\e∉frs outer/\∀ v,oe.data≠.cell v) ->
   BindsTo s (PySem.W.fnOf name qual params body scope dV kV doc pm an cdv ct) args (ps.zip us)->Vals vs us->sp vs H Q E->codeAny (model P w) A (.call (.ref f) args) (CR CX outer P w H s Q E) s:=by
 intro A outer s H args us vs Q E hdep e0 hpn hb r hsp
 have hl:=len _ _ _ _ hsp
 have KX:K.In s.heap:=e0.mod.kin.keeps fun b o e=>(e0.bs b o e).1
 have lim:s.heap.NoLimit:=e0.mod.nolimit.keeps fun b o e=>(e0.bs b o e).1
 have hkind:∀ y∈ps.zip us,scope.names.lookup y.1=some .local\/(scope.names.lookup y.1=some .cell/\((cellsFrom (s.heap.objs.size+1) scope.names []).lookup y.1).isSome=true):=fun ⟨n,v⟩ hy=>by
  rcases S.par n (List.of_mem_zip hy).1 with q | q
  ·exact .inl q
  ·exact .inr ⟨q,PySem.W.cellsFrom_some _ _ _ (.inl q)⟩
 refine codeAny_call_function hdep (KX _ _ lk) rfl S.co S.gen rfl (PySem.W.codeRec_of KX hcd) (hb _ _ _ _ ?_)
 refine wpAny_newFunctionEnv_cells S.kind hkind fun env he s1 x=>?_
 subst he
 refine ⟨lim.keeps x.toInCall.keep,codeAny_func ?_⟩
 obtain ⟨t,ht,hq⟩:=hbody A outer s H vs Q E hsp
 have I:Inv ((yX CX P w K mg base N qual scope f cdv A outer s H E).errd e oe) [] (start N vs) H s1:=YQ S hpn e0 hl r x
 refine wpAny_mono (ht [] s1 (start N vs) H _ I hq) (fun fl s' hs=>?_) fun e s' hs=>hs
 have fin:∀ {σ':St} {H':Hp} {v:V} {u:Value},Inv ((yX CX P w K mg base N qual scope f cdv A outer s H E).errd e oe) [] σ' H' s'->RelV v u->Q v H'->CE outer P w H s Q u s' :=
  fun {σ' H' v u} J rv q=>⟨v,H',J.os,J.bare,J.base,J.hok,rv,q⟩
 cases fl with
 | ret u =>
  obtain ⟨v,σ',H',J,rv,q⟩:=hs
  exact fin J rv q
 | next =>
  obtain ⟨σ',H',J,q⟩:=hs
  exact fin (v:=V.non) (u:=Value.none) J rfl q
 | brk =>
  obtain ⟨_,_,_,q⟩:=hs
  exact False.elim q
 | cont =>
  obtain ⟨_,_,_,q⟩:=hs
  exact False.elim q
end
theorem YW {X:Cx}{x q:Str}{st:Stmt}{N:List Str}{e:Addr}{oe:Obj}{a:Expr}{ta:TE}{p pos:Pos}{b:Bool}(Df:DefIn X.K X.mg x st [q])(S:FnScope N [q] (defScope st))(hg:Gl X x)(hdep:X.A.depth<recursionLimit)(hm0:(e,oe)∈X.pn)(hloc:∀ b∈frs X.stack,b=X.env.locals\/b∈X.fs)
  (hbody:∀ (f:Addr) (cdv:Value) (A:Around) (outer:List Env) (s:Shared) (H:Hp) (Q:VK),(∀ H',Same H H'->Q (.bl b) H') ->
   ∃ t,PSs ((yX (cxx X.prog X.w) X.prog X.w X.K X.mg X.base N x (defScope st) f cdv A outer s H (fun _ _ _=>False)).errd e oe) (defBody st) t/\t { nx:=fun _ H'=>Q .non H',rt:=Q } (start N [.ref e]) H)
  (ha:PE X a ta) (hdb:autoParam ((x==("__debug__":Str))=false) L2.au1._auto_1) (hs:autoParam (starEach [a] X.env=(false,eval a X.env)::starEach [] X.env) L2.au3._auto_1) (hpl:autoParam ((backTo pos (starEach [] X.env)).any (·.1)=false) L2.au3._auto_1) :
  PE X (.Call (.Name x p) [a] [] pos) (fun σ H Q=>UD ta z0C σ H fun vs H1=>vs=[.ref e]/\∀ H2,Same H1 H2->Q (.bl b) H2):=by
 intro pins s σ H Q I h
 obtain ⟨f,fd,F,hm,hb⟩:=Df.ex
 obtain ⟨oc,od,kV,doc,pm,an,cdv,ct,osl,rfl,lk,hcd⟩:=F.ex
 refine wpAny_Call_Name_kw (u5 I hg hm ?_ hdb)
 refine PySem.W.callWith_K (h₀:=X.base) I.ok.mod.kin F.kp (thn ((zX ha wj hs) pos pins s σ H (fun vs H1=>vs=[.ref e]/\∀ H2,Same H1 H2->Q (.bl b) H2) I ?_) fun us s1 h1=>?_) hs hpl
 ·exact h
 ·obtain ⟨vs,H1,I1,r,rfl,q⟩:=h1
  refine ⟨I1.kIn,?_⟩
  obtain ⟨g1,g2,g3,g4,g5⟩:=I1.pin _ (List.mem_append_left _ hm0)
  have nf:e∉frs X.stack:=fun z=>by
   rcases hloc e z with w | w
   ·exact g3 w
   ·exact g4 w
  refine wpAny_call (codeAny_mono (z0d (e:=e) (oe:=oe) (sp:=fun vs H Q E=>vs=[.ref e]/\E=(fun _ _ _=>False)/\∀ H',Same H H'->Q (.bl b) H') (CX:=cxx X.prog X.w) lk hcd S (fun vs H Q E h=>by rw [h.1]; rfl) (fun A outer s H vs Q E h=>?_) X.A X.stack s1 H1 ⟨us,[]⟩ us [.ref e] Q (fun _ _ _=>False) hdep I1.env0 ⟨g1,g2,nf,g5⟩ (by have:=hb s1 us I1.kIn (by rw [List.append_nil,<- r.length]; rfl); rw [List.append_nil] at this; exact this) r ⟨rfl,rfl,q⟩) fun rr s' hq=>?_)
  ·obtain ⟨rfl,rfl,h⟩:=h
   exact hbody f cdv A outer s H Q h
  ·cases rr with
   | error ev=>exact (Vz hq).elim
   | ok fl =>
    cases fl with
    | ret u=>exact I1.after hq
    | next=>exact False.elim hq
    | brk=>exact False.elim hq
    | cont=>exact False.elim hq
open PySem PySem.Spec PyProof.Rows
noncomputable def uU (F:List D->R D)(u:Tn->R (List D))(j:Nat)(g:Str->Option Int):Tn->R Fl:=fun τ=>match u τ with
 | .ok ds=>(match F ds with
  | .ok _=>.ok (.nx τ)
  | .err m=>(match g m with
   | some k=>(match τ[j]? with
    | some (some (.int i))=>.ok (.nx (τ.set j (some (.int (i+k)))))
    | _=>.bad)
   | none=>.bad)
  | .bad=>.bad)
 | _=>.bad
noncomputable def SuiteA (X:Cx)(CS:Addr)(i j:Nat)(sts:List Stmt)(g:Str->Option Int):Prop:=∀ (m:Str) (k:Int),g m=some k->∀ C,ErrC X.K m C->PySem.W.exmOne X.K (.ref C) (.ref CS)=some true /\
 ∃ ts:Addr->Obj->TS,(∀ e oe,PSs (X.within e oe) sts (ts e oe))/\∀ e oe (Z:Ends) (σ:St) (H:Hp) (n:Int),σ.length=X.N.length->oe.cls=.ref C->H e=none->σ[i]?=some (some (.ref e))->σ[j]?=some (some (.int n))->(∀ H',Same H H'->Z.nx (σ.set j (some (.int (n+k)))) H')->ts e oe Z σ H
noncomputable def SuiteA.ts {X:Cx}{CS:Addr}{i j:Nat}{sts:List Stmt}{g:Str->Option Int}(hs:SuiteA X CS i j sts g)(e:Addr)(oe:Obj):TS:=fun Z σ H=>∃ (m:Str) (k:Int) (hg:g m=some k) (C:Addr) (hC:ErrC X.K m C),Classical.choose (hs m k hg C hC).2 e oe Z σ H
theorem SuiteA.pss {X:Cx}{CS:Addr}{i j:Nat}{sts:List Stmt}{g:Str->Option Int}(hs:SuiteA X CS i j sts g)(e:Addr)(oe:Obj):PSs (X.within e oe) sts (hs.ts e oe):=by
 intro pins s σ H Z I h
 obtain ⟨m,k,hg,C,hC,z⟩:=h
 exact (Classical.choose_spec (hs m k hg C hC).2).1 e oe pins s σ H Z I z
theorem Qc {Γ:List Cl}{j:Nat}(h:Γ[j]?=some .own):Γ.set j .own=Γ:=by
 apply List.ext_getElem?
 intro q
 rw [List.getElem?_set]
 by_cases hq:j=q
 ·subst hq
  rw [if_pos rfl,if_pos (List.getElem?_eq_some_iff.mp h).1,h]
 ·rw [if_neg hq]
section
variable {X:Cx}{E:XK}{Γ Γl Γ':List Cl}{k:Nat}{CS:Addr}{ps:List Str}{F:List D->R D}{nA:Nat}{x xc n:Str}{p pos pos' pc hpos tpos:Pos}{e:Expr}{es:List Expr}{u:Tn->R (List D)}{c:Rc}{i j:Nat}{b₀:Stmt}{suite:List Stmt}{g:Str->Option Int}
theorem JJ (O:Own X.prog X.w X.K X.mg X.base x k ps (spM X.K F nA))(hN:X.N.Nodup)(hr:Room k X.A)(hg:Gl X x)(ha:MA X.nox (fun _ _ _=>False) Γ (e::es) u c)(hgc:Gl X xc)(hmc:X.mg xc=some (.ref CS))(hi:X.N[i]?=some n)(hx:X.env.scope.names.lookup n=some .local)(hil:i<X.N.length)(hΓ:Γ.length=X.N.length)(hij:i≠j)(hdi:Γ[i]?=some .dead)(hoj:Γ[j]?=some .own)(hs:SuiteA X CS i j (b₀::suite) g)
  (hst:autoParam (X.stack=X.env::X.outer) L2.au3._auto_1) (hf:autoParam (X.env.frame=some X.env.locals) L2.au3._auto_1) (hc:autoParam (X.calm=true) L2.au3._auto_1) (hl:autoParam ((e::es).length=nA) L2.au3._auto_1)
  (hdb:autoParam ((x==("__debug__":Str))=false) L2.au1._auto_1) (hdc:autoParam ((xc==("__debug__":Str))=false) L2.au1._auto_1)
  (he:autoParam (starEach (e::es) X.env=(false,eval e X.env)::starEach es X.env) L2.au3._auto_1) (hpl:autoParam ((backTo pos (starEach es X.env)).any (·.1)=false) L2.au3._auto_1)
  (hsw:autoParam (swapsWith (.Call (.Name x p) (e::es) [] pos) none pos'.line X.env=pure false) L2.au3._auto_1) :
  MS X E Γl Γ (.Try [.Expr (.Call (.Name x p) (e::es) [] pos) pos'] [.ExceptHandler (some (.Name xc pc)) (some n) (b₀::suite) hpos] [] [] tpos) (uU F u j g) Γ:=by
 obtain ⟨hlen,ta,pa,q⟩:=ha
 refine ⟨_,Qg O hst hf hc hN hr hg pa hgc hmc hi hx hs.pss hdb hdc he hpl hsw,fun B σ H τ Z ok h=>?_⟩
 obtain ⟨O',eok,_⟩:=ok.eok
 refine q O' σ H τ _ eok ?_
 unfold uU at h
 cases hu:u τ with
 | ok ds =>
  rw [hu] at h
  dsimp only at h
  refine fun vs H1 L s r _=>?_
  have hv:(vs++[]).length=nA:=by rw [List.append_nil,r.length,hlen τ ds hu]; exact hl
  refine ⟨hv,ds,L,by rw [List.append_nil]; exact r,?_⟩
  cases hF:F ds with
  | ok d =>
   rw [hF] at h
   exact fun v H' L' s' r' k'=>h σ H' (ok.same (s.trans s'))
  | err m =>
   rw [hF] at h
   dsimp only at h
   cases hgm:g m with
   | some kk =>
    rw [hgm] at h
    dsimp only at h
    obtain ⟨v,d,Lj,e1,e2,rj,_⟩:=ok.slot hoj
    rw [e2] at h
    cases d with
    | int nn =>
     dsimp only at h
     obtain ⟨rfl,_⟩:=rj
     intro C H' hC s'
     refine ⟨C,rfl,(hs m kk hgm C hC).1,fun e1' oe hcls hn=>⟨m,kk,hgm,C,hC,?_⟩⟩
     refine (Classical.choose_spec (hs m kk hgm C hC).2).2 e1' oe _ _ H' nn (by rw [List.length_set,ok.lσ,hΓ]) hcls hn (by rw [List.getElem?_set_self (by rw [ok.lσ,hΓ]; exact hil)]) (by rw [List.getElem?_set_ne hij]; exact e1) fun H2 s2=>?_
     have hjl:j<Γ.length:=(List.getElem?_eq_some_iff.mp hoj).1
     have okA:SOk X.K Γ B H2 σ τ ([]++[]):=ok.same ((s.trans s').trans s2)
     have okB:=okA.into (i:=j) (d:=.int (nn+kk)) (v:=.int (nn+kk)) (L:=[]) ⟨rfl,rfl⟩ hjl
     rw [Qc hoj] at okB
     have okC:=okB.deadPut (w:=none) hdi
     have es:((σ.set i (some (.ref e1'))).set j (some (.int (nn+kk)))).set i none=(σ.set j (some (.int (nn+kk)))).set i none:=by
      rw [List.set_comm _ _ hij,List.set_set]
     show Z.nx (((σ.set i (some (.ref e1'))).set j (some (.int (nn+kk)))).set i none) H2
     rw [es]
     exact h _ _ okC
    | _=>exact h.elim
   | none=>rw [hgm] at h; exact h.elim
  | bad=>rw [hF] at h; exact h.elim
 | err m=>rw [hu] at h; exact h.elim
 | bad=>rw [hu] at h; exact h.elim
end
open PySem PySem.Spec PyProof.Rows
section
variable {X:Cx}{E:XK}{Γ:List Cl}{pos:Pos}{x:Str}
theorem ZQ {z:Str}(h:∃ t,X.mg x=some (.str z t))(hg:autoParam (Gl X x) L2.au10._auto_1)(hd:autoParam ((x==("__debug__":Str))=false) L2.au1._auto_1):ME X E Γ (.Name x pos) (eC (.str z)) .fresh:=by
 obtain ⟨t,ht⟩:=h
 exact WG (xv (v:=.str z) hg ht ⟨t,rfl⟩ hd) fun _=>⟨rfl,rfl⟩
theorem VP {i:Int}(h:∃ t,X.mg x=some (.int i t))(hg:autoParam (Gl X x) L2.au10._auto_1)(hd:autoParam ((x==("__debug__":Str))=false) L2.au1._auto_1):ME X E Γ (.Name x pos) (eC (.int i)) .fresh:=by
 obtain ⟨t,ht⟩:=h
 exact WG (xv (v:=.int i) hg ht ⟨t,rfl⟩ hd) fun _=>⟨rfl,rfl⟩
end
noncomputable def ixL (x k:D):R D:=match x with
 | .lst ds=>ixD (.lst ds) k
 | _=>.bad
section
variable {X:Cx}{E:XK}{Γ Γl:List Cl}{pos p0:Pos}{ix:Expr}{ti:Tn->R D}{c:Rc}
theorem z0E (i:Nat){x:Str}(hi:ME X E Γ ix ti c)(hpl:Zv ix)(hN:autoParam (X.N[i]?=some x) L2.au3._auto_1)(h0:autoParam (Γ[i]?=some .own) L2.au3._auto_1)(hv:autoParam (Vis X.env.scope x) L2.au5._auto_1)(hb:autoParam ((x==("__debug__":Str))=false) L2.au1._auto_1)(hcd:autoParam ((x==("__classdict__":Str))=false) L2.au1._auto_1) :
  MV X E Γ (.Subscript (.Name x p0) ix pos) (z9 ixL (z7 i) ti) (Γ.set i .dead):=by
 obtain ⟨te,p,q⟩:=hi
 refine ⟨_,K9 VF (vC (pos:=p0) hN hv hb hcd) p hpl,fun B σ H τ T Q ok h=>?_⟩
 obtain ⟨v,d,L,e1,e2,r,ok1⟩:=ok.out h0
 refine ⟨v,e1,?_⟩
 obtain ⟨O,eo,_⟩:=ok.eok
 refine q O σ H τ _ eo ?_
 have ev:z7 i τ=.ok d:=by unfold z7; rw [e2]
 unfold z9 at h
 rw [ev,R.ok_bind] at h
 cases ht:ti τ with
 | err m=>rw [ht] at h; exact fun C H' e s=>h C H' e (ok.ext.trans s)
 | bad=>rw [ht] at h; exact h
 | ok dk =>
  rw [ht,R.ok_bind] at h
  refine fun y H1 Ly s1 ry _=>?_
  cases d with
  | lst ds =>
   cases hg:ixD (.lst ds) dk with
   | err m=>exact absurd hg (z2K _ _ _)
   | bad=>rw [show ixL (.lst ds) dk=ixD (.lst ds) dk from rfl,hg] at h; exact h.elim
   | ok d2 =>
    rw [show ixL (.lst ds) dk=ixD (.lst ds) dk from rfl,hg] at h
    refine kF (by intro ks ds z; cases z) hg (r.same s1) ry fun w L1 g1 g2=>?_
    have okT:=ok1.same s1
    have nd:=okT.nodT
    obtain ⟨n1,n2,n3⟩:=List.nodup_append.mp nd
    refine h w H1 L1 s1 g1 (okT.subT (List.nodup_append.mpr ⟨n1.sublist g2,n2,fun a ha b hb' z=>n3 a (g2.subset ha) b hb' z⟩) fun a ha=>?_)
    rcases List.mem_append.mp ha with z | z
    ·exact List.mem_append_left _ (g2.subset z)
    ·exact List.mem_append_right _ z
  | _=>exact h.elim
end
section
variable {X:Cx}{E:XK}{Γ Γl Γ':List Cl}{k:Nat}{ps:List Str}{F:List D->R D}{nA:Nat}{x xc n:Str}{p pos pos' pc hpos tpos:Pos}{e:Expr}{es:List Expr}{u:Tn->R (List D)}{c:Rc}{i j:Nat}{b₀:Stmt}{suite:List Stmt}{g:Str->Option Int}
theorem Y4 (O:Own X.prog X.w X.K X.mg X.base x k ps (spM X.K F nA))(hN:X.N.Nodup)(hr:Room k X.A)(hg:Gl X x)(ha:MA X.nox (fun _ _ _=>False) Γ (e::es) u c)(hgc:Gl X xc)(hi:X.N[i]?=some n)(hx:X.env.scope.names.lookup n=some .local)(hil:i<X.N.length)(hΓ:Γ.length=X.N.length)(hij:i≠j)(hdi:Γ[i]?=some .dead)(hoj:Γ[j]?=some .own)(hs:∃ CS,X.mg xc=some (.ref CS)/\SuiteA X CS i j (b₀::suite) g)
  (hst:autoParam (X.stack=X.env::X.outer) L2.au3._auto_1) (hf:autoParam (X.env.frame=some X.env.locals) L2.au3._auto_1) (hc:autoParam (X.calm=true) L2.au3._auto_1) (hl:autoParam ((e::es).length=nA) L2.au3._auto_1)
  (hdb:autoParam ((x==("__debug__":Str))=false) L2.au1._auto_1) (hdc:autoParam ((xc==("__debug__":Str))=false) L2.au1._auto_1)
  (he:autoParam (starEach (e::es) X.env=(false,eval e X.env)::starEach es X.env) L2.au3._auto_1) (hpl:autoParam ((backTo pos (starEach es X.env)).any (·.1)=false) L2.au3._auto_1)
  (hsw:autoParam (swapsWith (.Call (.Name x p) (e::es) [] pos) none pos'.line X.env=pure false) L2.au3._auto_1) :
  MS X E Γl Γ (.Try [.Expr (.Call (.Name x p) (e::es) [] pos) pos'] [.ExceptHandler (some (.Name xc pc)) (some n) (b₀::suite) hpos] [] [] tpos) (uU F u j g) Γ:=by
 obtain ⟨CS,h1,h2⟩:=hs
 exact JJ O hN hr hg ha hgc h1 hi hx hil hΓ hij hdi hoj h2 hst hf hc hl hdb hdc he hpl hsw
end
open PySem PySem.Spec PyProof.Rows
theorem SOk.deadPut2 {K:PySem.W.Frag}{Γ:List Cl}{B H:Hp}{σ:St}{τ:Tn}{T:List Addr}{i:Nat}{w:Option V}{d:Option D}(h:SOk K Γ B H σ τ T)(e:Γ[i]?=some .dead):SOk K Γ B H (σ.set i w) (τ.set i d) T:=by
 obtain ⟨Ls,h1,h2⟩:=h.ex
 refine ⟨h.ext,by rw [List.length_set]; exact h.lσ,by rw [List.length_set]; exact h.lτ,Ls,fun j c ej hc=>?_,h2⟩
 obtain ⟨v,d',a1,a2,a3⟩:=h1 j c ej hc
 by_cases hij:i=j
 ·subst hij
  rw [e] at ej
  exact absurd (Option.some.inj ej).symm hc
 ·exact ⟨v,d',by rw [List.getElem?_set_ne hij]; exact a1,by rw [List.getElem?_set_ne hij]; exact a2,a3⟩
section
variable {X:Cx}{E:XK}{Γ Γl:List Cl}{pos:Pos}
theorem QD (j:Nat){tg iter cd er:Expr}{p1 p2:Pos}{it:Tn->R (List D)}{kt:Tn->R Bool}{d0:D}{c c2:Rc}(hp:PassesOwn (model X.prog X.w) X.A X.env X.xe)(hc:X.calm=true)(hi:MI X E Γ tg iter it c)(hg:MG X tg (.one j))(hd:Γ[j]?=some .dead)(hk:MT X E (Γ.set j .brw) cd kt)(he:ME X E (Γ.set j .brw) er (eC d0) c2)(him:autoParam (d0.imm=true) L2.au3._auto_1)
  (hs:autoParam (∀ x,foldedSetIterable iter X.env x=pure x) L2.au2._auto_1):MS X E Γl Γ (.For tg iter [.If cd [.Return (some er) p1] [] p2] [] pos) (xR it (.one j) (sIf kt (zo (eC d0)) zk)) Γ:=by
 obtain ⟨wi,p,q⟩:=hi
 obtain ⟨tk,pk,qk⟩:=hk
 obtain ⟨tr,pr,qr⟩:=he
 refine ⟨_,Uk hp hc p hg.pg (vp (W3 pk (vp (jk pr)) j5)) hs,fun B σ H τ Z ok h=>?_⟩
 obtain ⟨O,eo,_⟩:=ok.eok
 refine q O σ H τ _ eo ?_
 unfold xR at h
 cases ht:it τ with
 | ok ds =>
  rw [ht,R.ok_bind] at h
  refine fun J H1 L s1 hit hO=>?_
  obtain ⟨hLd,hit⟩:=hit
  have ok1:=ok.same s1
  have hjl:j<Γ.length:=(List.getElem?_eq_some_iff.mp hd).1
  refine ⟨fun i m σ2 H2=>m=ds.length-i/\i<=ds.length/\Same H1 H2/\(σ2=σ\/∃ w,σ2=σ.set j (some w))/\∃ τ2,(τ2=τ\/∃ w,τ2=τ.set j (some w))/\wG X.K E B Γl Γ Z (yO (Tgt.one j).asg (sIf kt (zo (eC d0)) zk) (ds.drop i) τ2),⟨ds.length,by simp,Nat.zero_le _,Same.refl H1,.inl rfl,τ,.inl rfl,h⟩,?_⟩
  rintro i m σ2 H2 ⟨rfl,hile,s2,hσ,τ2,hτ,h2⟩
  obtain ⟨go,stop⟩:=hit H2 s2.tf (fun a ha=>s2.at (hLd a ha)) i
  by_cases hlt:i<ds.length
  ·obtain ⟨hgo,hy⟩:=go ds[i] (by simp [hlt])
   rw [List.drop_eq_getElem_cons hlt] at h2
   refine .inr ⟨hgo,fun σ' H'=>i+1<=ds.length/\Same H1 H'/\(σ'=σ\/∃ w,σ'=σ.set j (some w))/\∃ τ',(τ'=τ\/∃ w,τ'=τ.set j (some w))/\wG X.K E B Γl Γ Z (yO (Tgt.one j).asg (sIf kt (zo (eC d0)) zk) (ds.drop (i+1)) τ'),fun σ' H' ⟨z,w⟩=>⟨ds.length-(i+1),by omega,rfl,z,w⟩,fun x H3 y=>?_⟩
   obtain ⟨s3,L',r',sub⟩:=hy x H3 y
   unfold yO at h2
   have hset:(Tgt.one j).asg ds[i] τ2=.ok (τ.set j (some ds[i])):=by
    unfold Tgt.asg
    rcases hτ with rfl | ⟨w,rfl⟩
    ·rfl
    ·exact congrArg R.ok (List.set_set ..)
   rw [hset,R.ok_bind] at h2
   have hσs:σ2.set j (some x)=σ.set j (some x):=by
    rcases hσ with rfl | ⟨w,rfl⟩
    ·rfl
    ·rw [List.set_set]
   show tgG X.K (.one j) x σ2 H3 _
   unfold tgG
   dsimp only
   rw [hσs]
   have eo3:EOk X.K (Γ.set j .brw) O H3 (σ.set j (some x)) (τ.set j (some ds[i])):=(eo.same ((s1.trans s2).trans s3)).put r' (fun z=>by cases z) ok.lσ ok.lτ
   refine qk O _ H3 _ _ eo3 ?_
   unfold sIf at h2
   cases hk:kt (τ.set j (some ds[i])) with
   | ok b =>
    rw [hk,R.ok_bind] at h2
    intro H4 s4
    cases b with
    | true =>
     rw [if_pos rfl] at h2
     refine z1S ?_
     refine qr O _ H4 _ _ (eo3.same s4) ?_
     intro v H5 L5 s5 r5 _
     have zL:=Rep.imm _ _ _ r5 him
     subst zL
     have h2:wG X.K E B Γl Γ Z (.ok (.rt d0)):=h2
     exact h2 v H5 [] (ok.ext.trans ((((s1.trans s2).trans s3).trans s4).trans s5)) r5 List.nodup_nil (fun a ha=>absurd ha (by simp))
    | false =>
     rw [if_neg (by decide)] at h2
     refine z0c ?_
     have h2:wG X.K E B Γl Γ Z (yO (Tgt.one j).asg (sIf kt (zo (eC d0)) zk) (ds.drop (i+1)) (τ.set j (some ds[i]))):=h2
     exact ⟨hlt,(s2.trans s3).trans s4,.inr ⟨_,rfl⟩,_,.inr ⟨_,rfl⟩,h2⟩
   | err n =>
    rw [hk] at h2
    exact fun C H' e s=>h2 C H' e (ok.ext.trans (((s1.trans s2).trans s3).trans s))
   | bad=>rw [hk] at h2; exact h2.elim
  ·have e:i=ds.length:=by omega
   subst e
   rw [List.drop_length] at h2
   have h2:wG X.K E B Γl Γ Z (.ok (.nx τ2)):=h2
   refine .inl ⟨stop (Nat.le_refl _),h2 σ2 H2 ?_⟩
   have ok2:=ok1.same s2
   rcases hσ with rfl | ⟨w,rfl⟩<;>rcases hτ with rfl | ⟨w',rfl⟩
   ·exact ok2
   ·have:=ok2.deadPut2 (w:=σ2[j]'(by rw [ok.lσ]; exact hjl)) (d:=some w') hd
    rw [List.set_getElem_self] at this
    exact this
   ·exact ok2.deadPut hd
   ·exact ok2.deadPut2 hd
 | err n=>rw [ht] at h; exact fun C H' e s=>h C H' e (ok.ext.trans s)
 | bad=>rw [ht] at h; exact h
end
end L2
set_option maxRecDepth 100000
set_option maxHeartbeats 4000000
namespace HW
open PySem PySem.W
noncomputable def ug {α:Type}:List α->List α
 | a::_::r=>a::ug r
 | l=>l
noncomputable def kh {α:Type}:List α->List α
 | _::b::r=>b::kh r
 | _=>[]
theorem kL {α:Type}:∀ (l:List α) (k:Nat),(ug l)[k]?=l[2*k]?
 | [],k=>by simp [ug]
 | [a],k=>by cases k<;>simp [ug]
 | a::b::r,0=>by simp [ug]
 | a::b::r,k+1=>by
  have ih:=kL r k
  show (a::ug r)[k+1]?=_
  rw [List.getElem?_cons_succ,ih,show 2*(k+1)=2*k+1+1 by omega,List.getElem?_cons_succ,List.getElem?_cons_succ]
theorem Y2 {α:Type}:∀ (l:List α) (k:Nat),(kh l)[k]?=l[2*k+1]?
 | [],k=>by simp [kh]
 | [a],k=>by simp [kh]
 | a::b::r,0=>by simp [kh]
 | a::b::r,k+1=>by
  have ih:=Y2 r k
  show (b::kh r)[k+1]?=_
  rw [List.getElem?_cons_succ,ih,show 2*(k+1)+1=2*k+1+1+1 by omega,List.getElem?_cons_succ,List.getElem?_cons_succ]
theorem kJ {α:Type}:∀ l:List α,(ug l).length<=l.length
 | []=>Nat.le_refl _
 | [_]=>Nat.le_refl _
 | a::b::r=>by show (ug r).length+1<=r.length+1+1; have:=kJ r; omega
theorem YG {α:Type}:∀ l:List α,(kh l).length<=l.length
 | []=>Nat.le_refl _
 | [_]=>Nat.zero_le _
 | a::b::r=>by show (kh r).length+1<=r.length+1+1; have:=YG r; omega
noncomputable def tr:Nat->List Obj->BT
 | n+1,o::l=>.node o (tr n (ug l)) (tr n (kh l))
 | _,_=>.nil
theorem YT:∀ (n:Nat) (l:List Obj),l.length<=n->∀ i,(tr n l).get i=l[i]?
 | 0,[],_,i=>by simp [tr,BT.get]
 | 0,_::_,h,_=>by cases h
 | n+1,[],_,i=>by simp [tr,BT.get]
 | n+1,o::l,h,i=>by
  have hl:l.length<=n:=by simpa using h
  show (BT.node o (tr n (ug l)) (tr n (kh l))).get i=_
  rw [BT.get_node]
  by_cases h0:i=0
  ·subst h0; rfl
  ·rw [if_neg h0]
   by_cases h1:i%2=1
   ·rw [if_pos h1,YT n _ (Nat.le_trans (kJ l) hl),kL]
    obtain ⟨k,rfl⟩:∃ k,i=2*k+1:=⟨i/2,by omega⟩
    rw [show (2*k+1)/2=k by omega,List.getElem?_cons_succ]
   ·rw [if_neg h1,YT n _ (Nat.le_trans (YG l) hl),Y2]
    obtain ⟨k,rfl⟩:∃ k,i=2*k+1+1:=⟨i/2-1,by omega⟩
    rw [show (2*k+1+1)/2-1=k by omega,List.getElem?_cons_succ]
theorem Js (l:List Obj):(tr l.length l).list l.length=l:=by
 unfold BT.list
 refine List.ext_getElem? fun i=>?_
 rw [List.getElem?_map]
 by_cases h:i<l.length
 ·rw [List.getElem?_range h,Option.map_some,YT _ _ (Nat.le_refl _),List.getElem?_eq_getElem h]; rfl
 ·rw [List.getElem?_eq_none (by rw [List.length_range]; omega),List.getElem?_eq_none (by omega)]; rfl
noncomputable def asT (s:Shared):SharedT:=⟨tr s.heap.objs.toList.length s.heap.objs.toList,s.heap.objs.toList.length,s.heap.life,s.gens,s.drawn,s.toks,s.os⟩
theorem Ql (s:Shared):(asT s).abs=s:=by
 obtain ⟨⟨⟨l⟩,life⟩,gens,drawn,toks,os⟩:=s
 show (⟨⟨((tr l.length l).list l.length).toArray,life⟩,gens,drawn,toks,os⟩:Shared)=_
 rw [Js]
noncomputable def env0 (p:Program):Env:={ scope:=p.main.scope,locals:=mainNs,globals:=mainNs,cells:=[],code:=.ref 13,frame:=some 14 }
noncomputable def p0:Pos:=⟨0,0,0,0⟩
noncomputable def body0 (p:Program):Code:=.body (behindTheImports p) (env0 p)
noncomputable def runAll (p q:Program)(loose:List Str)(Xt:Shared->Bool){α:Type}(Yf:Shared->α)(n1:Nat)(w:World)(os:OsState) :=
 (topGo treeTable p w 11 (some (.ref 6)) 12 ⟨boot_heap w.params,Array.mk [],boot_drawn,boot_toks,os⟩ (topStub p)).bind fun a =>
 (segRun treeTable p w 11 (some (.ref 6)) 1 1 a.1 (blockOf (behindTheImports p) (env0 p) (body0 p) p0 [topFrame p0])).bind fun b =>
 (segRunT treeTable p w 11 (some (.ref 6)) 1 n1 (asT b.2.1) (piecesOf (behindTheImports p) (env0 p) (body0 p) b.2.2.2 [topFrame p0])).bind fun c =>
 (topRun treeTable p w 11 (some (.ref 6)) 2 c.2.1.abs ⟨doneF .next,body0 p,c.2.2.2,[topFrame p0]⟩).map fun s =>
  (a.2,(b.1,b.2.2.1),(c.1,c.2.2.1),(staticsOk (importedModules p.main.body) (boot_heap w.params) s.heap&&namesBound p s.heap&&gensDone s&&laidKept (boot_heap w.params) s.heap),openSeen q loose (importedModules p.main.body) Xt true s,Yf s)
theorem left_of {p q:Program}{loose:List Str}{Xt:Shared->Bool}{α:Type}{Yf:Shared->α}{Ya:World->α}{n1 N:Nat}
  (e:opening p=plainProg p.main.scope.names) (hN:Nat.ble 600 N=true) (f:∀ s,fenceModules? p s=some s)
  (size:∀ w:World,((boot_heap w.params).isNs mainGlobals&&(Array.mk []:Array GenState).size==0,(boot_heap w.params).objs.size,(boot_heap w.params).nsMap mainGlobals "__annotations__")=(true,11,some (.ref 6)))
  (le:Nat.ble (12+(1+(n1+2))) N=true)
  (all:∀ w os,runAll p q loose Xt Yf n1 w os=some (⟨denote treeTable (body0 p),body0 p,p0,[topFrame p0]⟩,(.next,body0 p),(.next,body0 p),true,openGood q loose,Ya w)):LeftO p q loose Xt Yf Ya N:=fun w=>by
 obtain ⟨⟨hp,gn,dr,tk,os⟩,op,same⟩:=Option.map_eq_some_iff.mp (boot_open e hN f w)
 simp only [Prod.mk.injEq] at same
 obtain ⟨rfl,rfl,rfl,rfl⟩:=same
 have sz:=size w
 simp only [Prod.mk.injEq] at sz
 have hr:=all w os
 unfold runAll at hr
 obtain ⟨⟨sa,ta⟩,ha,hr⟩:=Option.bind_eq_some_iff.mp hr
 obtain ⟨⟨fb,sb,cb,pb⟩,hb,hr⟩:=Option.bind_eq_some_iff.mp hr
 obtain ⟨⟨fc,sc,cc,pc⟩,hc,hr⟩:=Option.bind_eq_some_iff.mp hr
 obtain ⟨s1,hd,hr⟩:=Option.map_eq_some_iff.mp hr
 simp only [Prod.mk.injEq] at hr
 obtain ⟨rfl,⟨rfl,rfl⟩,⟨rfl,rfl⟩,Jm,seen,told⟩:=hr
 dsimp only at hb hc hd
 have hc2:=segRun_of hc
 rw [Ql] at hc2
 have whole:=piece_app (rest:=[]) hc2 (piece_nil hd)
 rw [List.append_nil] at whole
 have run:=topRun_mono (N-(12+(1+(n1+2)))) _ _ _ _ (go_top ha (piece_block hb whole))
 have eN:12+(1+(n1+2))+(N-(12+(1+(n1+2))))=N:=by have z:=Nat.le_of_ble_eq_true le; omega
 rw [eN] at run
 have ends:topFrom treeTable p w N ⟨boot_heap w.params,Array.mk [],boot_drawn,boot_toks,os⟩=some s1:=by
  show (match (boot_heap w.params).isNs mainGlobals&&(Array.mk []:Array GenState).size==0 with | true=>_ | false=>_)=_
  rw [sz.1,sz.2.1,sz.2.2]
  show Option.bind (topRun treeTable p w 11 (some (.ref 6)) N _ _) _=_
  rw [run]
  show (match (_:Bool) with | true=>some s1 | false=>none)=_
  rw [Jm]
 have both:openEnds treeTable p w N=some s1:=by unfold openEnds; rw [op]; exact ends
 rw [both,Option.map_some,seen,told]
open PySem.Spec PyProof.Rows L2 in
theorem dfn {K:Frag}{mg:Str->Option Value}{h:Heap}{n:Str}{st:Stmt}{ps:List Str}{a c:Addr}{m:Str}{t:Nat}(X:K.In h)(G:h.Ns mainGlobals mg)
  (hl:∀ (kV dc pm:Value) (an:Option Addr) (cd ct:Value) (us:List Value),us.length=ps.length->bindArgs (fnOf n n (defArgs st) (defBody st) (defScope st) .none kV dc pm an cd ct) { pos:=us }=pure (ps.zip us))
  (e:(nsIn K mainGlobals n,K.lookup a,codeIn K (.ref c) n,keepIn K (.ref a))=(some (some (.ref a)),some ⟨.type "function",none,.func (fnOf n n (defArgs st) (defBody st) (defScope st) .none .none .none (.str m t) none (.ref c) .none),#[]⟩,true,true)):DefIn K mg n st ps:=by
 simp only [Prod.mk.injEq] at e
 exact Ug X G hl e.1 e.2.1 e.2.2.1 e.2.2.2
end HW
set_option maxRecDepth 100000
set_option maxHeartbeats 4000000
namespace K05
open PySem PySem.Spec PyProof.Rows L2
noncomputable def top (i:Nat):Stmt:=PySem.Challenge.pw_quirehand_k05_whole_a_word_parted.main.body.getD i (.Pass ⟨0,0,0,0⟩)
section
variable {P:Program}{w:World}{K:PySem.W.Frag}{mg:Str->Option Value}{base:Heap}
structure Gl0 (K:PySem.W.Frag)(mg:Str->Option Value):Prop where
 SIGNS:∃ t,mg "SIGNS"=some (.str "abcdefghijklmnopqrstuvwxyzABCDEFGHIJKLMNOPQRSTUVWXYZ0123456789.,;:!?'\"()-/" t)
 SMALL:∃ t,mg "SMALL"=some (.str "abcdefghijklmnopqrstuvwxyz" t)
 MOST_SIGNS:∃ t,mg "MOST_SIGNS"=some (.int 40 t)
theorem z1m {C:Addr}{bm:List Value}{n:String}(h:PySem.W.excIn K C bm n=true):(PySem.W.clsIn K C).isSome=true:=by
 unfold PySem.W.excIn at h
 split at h
 ·rename_i hl
  unfold PySem.W.clsIn
  rw [hl]
  rfl
 ·cases h
structure Cls (K:PySem.W.Frag)(mg:Str->Option Value):Prop where
 e_BadWord:∃ C,ErrC K "BadWord" C
 ve:mg "ValueError"=none
 ex:∃ CS CT c1 c2 c3 c4 c5 c6 c7 c8 c9:Addr,mg "SetError"=some (.ref CS)/\ErrC K "BadWord" CT/\ErrI K CT/\mg "BadWord"=some (.ref CT)/\PySem.W.kitOne K (.ref CT) (.type "ValueError")=some true/\PySem.W.exmOne K (.ref CT) (.ref CS)=some true/\(mg "BadBlocks"=some (.ref c1)/\PySem.W.kitOne K (.ref CT) (.ref c1)=some false)/\(mg "BadBook"=some (.ref c2)/\PySem.W.kitOne K (.ref CT) (.ref c2)=some false)/\(mg "BadBreaks"=some (.ref c3)/\PySem.W.kitOne K (.ref CT) (.ref c3)=some false)/\(mg "BadFace"=some (.ref c4)/\PySem.W.kitOne K (.ref CT) (.ref c4)=some false)/\(mg "BadRules"=some (.ref c5)/\PySem.W.kitOne K (.ref CT) (.ref c5)=some false)/\(mg "BadText"=some (.ref c6)/\PySem.W.kitOne K (.ref CT) (.ref c6)=some false)/\(mg "NoNote"=some (.ref c7)/\PySem.W.kitOne K (.ref CT) (.ref c7)=some false)/\(mg "NoPlace"=some (.ref c8)/\PySem.W.kitOne K (.ref CT) (.ref c8)=some false)/\(mg "TooWide"=some (.ref c9)/\PySem.W.kitOne K (.ref CT) (.ref c9)=some false)
noncomputable def Vj:Tn->R Fl:=(zo (xM (eUn (wL "str") (z7 0)) (xM (z9 (eqR false) (eL y1 (z8 (z7 0) zb)) (eC (.int 1))) (z9 xX (z7 0) (eC (.str "abcdefghijklmnopqrstuvwxyzABCDEFGHIJKLMNOPQRSTUVWXYZ0123456789.,;:!?'\"()-/"))))))
noncomputable def vf:List D->R D:=zw 1 Vj
theorem XM:FnScope ["thing"] ["thing"] (defScope (top 14)):=⟨rfl,rfl,rfl,by decide +kernel,rfl,by decide +kernel,by decide +kernel⟩
theorem XC (Df:DefIn K mg "is_sign" (top 14) ["thing"])(B:Bl mg)(G:Gl0 K mg)(Cl:Cls K mg) :Own P w K mg base "is_sign" 1 ["thing"] (spM K vf 1) :=
 Df.mir (k:=0) (Γ':=[.shr]) XM (by decide) fun f cdv A outer s H E hr=>(zm (zA (zc (vG (uY (T:="str") (by decide) rfl B.isinstance (vz (v:=.ty "str") rfl B.str Boot.«str» rfl) (mn 0 .shr)) (vG (wc (xf hr.u12) u9 uc (zF zE xh xg (by exact rfl) B.len PySem.boot_len (za (mn 0 .shr) zg)) ze (zG _)) (uq (wc vm uy uB (mn 0 .shr) (ZQ G.SIGNS) (by exact rfl))))))))
noncomputable def kG:Tn->R Fl:=(zo (eL kS (z8 (eSm qG (z7 0) (z8 (eC (.str "-")) zb)) (z8 (eSm qG (z7 0) (z8 (eC (.str "=")) zb)) zb))))
noncomputable def xE:List D->R D:=zw 1 kG
theorem XJ:FnScope ["joint"] ["joint"] (defScope (top 17)):=⟨rfl,rfl,rfl,by decide +kernel,rfl,by decide +kernel,by decide +kernel⟩
theorem YS (Df:DefIn K mg "mark_at" (top 17) ["joint"])(B:Bl mg)(G:Gl0 K mg)(Cl:Cls K mg) :Own P w K mg base "mark_at" 1 ["joint"] (spM K xE 1) :=
 Df.mir (k:=0) (Γ':=[.shr]) XJ (by decide) fun f cdv A outer s H E hr=>(zm (zA (zc (zF (Vl (by exact rfl)) z16 z0T (by exact rfl) B.max PyProof.Rows.boot_max (za (kI PySem.F.plainAttrs_str PySem.F.slot_str_find PySem.F.type_str_find Yk Ux UO (mn 0 .shr) (za zC zg)) (za (kI PySem.F.plainAttrs_str PySem.F.slot_str_find PySem.F.type_str_find Yk Ux UO (mn 0 .shr) (za zC zg)) zg))))))
noncomputable def uD:Tn->R Fl:=(zo (eUn (XY "=" "") (eUn (XY "-" "") (z7 0))))
noncomputable def yn:List D->R D:=zw 1 uD
theorem ke:FnScope ["joint"] ["joint"] (defScope (top 18)):=⟨rfl,rfl,rfl,by decide +kernel,rfl,by decide +kernel,by decide +kernel⟩
theorem kl (Df:DefIn K mg "letters_of" (top 18) ["joint"])(B:Bl mg)(G:Gl0 K mg)(Cl:Cls K mg) :Own P w K mg base "letters_of" 1 ["joint"] (spM K yn 1) :=
 Df.mirT (k:=0) (Γ':=[.shr]) ke (by decide) ⟨_,_,rfl,rfl⟩ fun f cdv A outer s H E hr=>(Jf (Ys (Ys (ME.p (mn 0 .shr)) (by decide) (by decide)) (by decide) (by decide)))
noncomputable def YR:Tn->R Fl:=(zh (zl 3 (eL yn (z8 (z7 0) zb))) (zh (zl 4 (z9 xH (z7 2) (eL xE (z8 (z7 0) zb)))) (zo (xM (z9 geD (z7 4) (eC (.int 0))) (z9 (eqR false) (qP qC (eSl (z7 1) (zO (z7 4)) (zO (z9 zB (z7 4) (eL y1 (z8 (z7 3) zb)))))) (z7 3))))))
noncomputable def vM:List D->R D:=zw 5 YR
theorem sc_fits:FnScope ["joint","word","place","letters","begin"] ["joint","word","place"] (defScope (top 19)):=⟨rfl,rfl,rfl,by decide +kernel,rfl,by decide +kernel,by decide +kernel⟩
theorem QL (Df:DefIn K mg "fits" (top 19) ["joint","word","place"])(B:Bl mg)(G:Gl0 K mg)(Cl:Cls K mg)(O_letters_of:Own P w K mg base "letters_of" 1 ["joint"] (spM K yn 1))(O_mark_at:Own P w K mg base "mark_at" 1 ["joint"] (spM K xE 1)):Own P w K mg base "fits" 2 ["joint","word","place"] (spM K vM 3) :=
 Df.mir (k:=1) (Γ':=[.shr,.shr,.shr,.dead,.dead]) sc_fits (by decide) fun f cdv A outer s H E hr=>(zd (L2.st 3 sc_fits.nd (zc (zr (O_letters_of.mono (by decide)) hr (by exact rfl) zi (za (mn 0 .shr) zg)))) (zd (L2.st 4 sc_fits.nd (zc (zj xx wx zp (mn 2 .shr) (zr (O_mark_at.mono (by decide)) hr (by exact rfl) zi (za (mn 0 .shr) zg))))) (zm (zA (zc (vG (wc Wn K3 zp (mn 4 .own) ze (zG _)) (uq (wc (xf hr.u12) u9 uc (je (wV (mn 1 .shr) (yH (mn 4 .own)) (yH (zj zz zU zY (mn 4 .own) (zF zE xh xg (by exact rfl) B.len PySem.boot_len (za (mn 3 .own) zg)))))) (mn 3 .own) (zG _)))))))))
noncomputable def Ul:Tn->R Fl:=(zo (eL (fun ds=>.ok (.tup ds)) (z8 (eL y1 (z8 (z7 0) zb)) (z8 (eL xE (z8 (z7 0) zb)) zb))))
noncomputable def vI:List D->R D:=zw 1 Ul
theorem QY:FnScope ["joint"] ["joint"] (defScope (top 20)):=⟨rfl,rfl,rfl,by decide +kernel,rfl,by decide +kernel,by decide +kernel⟩
theorem QF (Df:DefIn K mg "rank" (top 20) ["joint"])(B:Bl mg)(G:Gl0 K mg)(Cl:Cls K mg)(O_mark_at:Own P w K mg base "mark_at" 1 ["joint"] (spM K xE 1)):Own P w K mg base "rank" 2 ["joint"] (spM K vI 1) :=
 Df.mir (k:=1) (Γ':=[.shr]) QY (by decide) fun f cdv A outer s H E hr=>(zm (zA (zc (wo (za (zF zE xh xg (by exact rfl) B.len PySem.boot_len (za (mn 0 .shr) zg)) (za (zr (O_mark_at.mono (by decide)) hr (by exact rfl) zi (za (mn 0 .shr) zg)) zg))))))
noncomputable def Vi:Tn->R Fl:=(zh (zl 3 (eC .non)) (zh (xR (yR (z7 0)) (.one 4) (sIf (yu (zf (eL vM (z8 (z7 4) (z8 (z7 1) (z8 (z7 2) zb))))) (bOr (zf (z9 (isN false) (z7 3) (eC .non))) (zf (z9 gtT (eL vI (z8 (z7 4) zb)) (eL vI (z8 (z7 3) zb)))))) (zl 3 (z7 4)) zk)) (zo (yE (z7 3)))))
noncomputable def xl:List D->R D:=zw 5 Vi
theorem sc_telling:FnScope ["book","word","place","best","joint"] ["book","word","place"] (defScope (top 21)):=⟨rfl,rfl,rfl,by decide +kernel,rfl,by decide +kernel,by decide +kernel⟩
theorem XN (Df:DefIn K mg "telling" (top 21) ["book","word","place"])(B:Bl mg)(G:Gl0 K mg)(Cl:Cls K mg)(O_fits:Own P w K mg base "fits" 2 ["joint","word","place"] (spM K vM 3))(O_rank:Own P w K mg base "rank" 2 ["joint"] (spM K vI 1)):Own P w K mg base "telling" 3 ["book","word","place"] (spM K xl 3) :=
 Df.mir (k:=2) (Γ':=[.shr,.shr,.shr,.dead,.dead]) sc_telling (by decide) fun f cdv A outer s H E hr=>(zd (L2.st 3 sc_telling.nd (zc uv)) (zd (VM (Γ1:=[.shr,.shr,.shr,.shr,.dead]) (jl (Γ2:=[.shr,.shr,.shr,.shr,.shr]) PassesOwn.leaving rfl (wQ (mn 0 .shr)) (by decide) (xA (pgn 4 sc_telling.nd)) (by decide) (zm (yK (MW.mt (wO (xp (zr (O_fits.mono (by decide)) hr (by exact rfl) zi (za (mn 4 .shr) (za (mn 1 .shr) (za (mn 2 .shr) zg))))) (vv (MW.mt (ue (zI z1e z2q W7 (mn 3 .shr) uv (zG _)) (uu (zI (z0Q hr.units0) z2l z2v (zr (O_rank.mono (by decide)) hr (by exact rfl) zi (za (mn 4 .shr) zg)) (zr (O_rank.mono (by decide)) hr (by exact rfl) zi (za (mn 3 .shr) zg)) (zG _)))))))) (zm (stS 3 sc_telling.nd (mn 4 .shr))) zN)) rfl) rfl) (zm (zA (zc (yY (mn 3 .shr)))))))
noncomputable def v5:Tn->R Fl:=(zh (sIf (bOr (xD (zf (eUn (wL "str") (z7 0)))) (xD (zf (yL leD leD (eC (.int 1)) (eL y1 (z8 (z7 0) zb)) (eC (.int 40)))))) (zo (eC (.bl false))) zk) (zo (eL XF (z8 (yi [none] (yR (z7 0)) (.one 0) (fun _=>.ok true) (eL vf (z8 (z7 0) zb))) zb))))
noncomputable def zx:List D->R D:=zw 1 v5
theorem sc_is_word:FnScope ["thing"] ["thing"] (defScope (top 24)):=⟨rfl,rfl,rfl,by decide +kernel,rfl,by decide +kernel,by decide +kernel⟩
theorem X0 (Df:DefIn K mg "is_word" (top 24) ["thing"])(B:Bl mg)(G:Gl0 K mg)(Cl:Cls K mg)(O_is_sign:Own P w K mg base "is_sign" 1 ["thing"] (spM K vf 1)):Own P w K mg base "is_word" 2 ["thing"] (spM K zx 1) :=
 Df.mir (k:=1) (Γ':=[.shr]) sc_is_word (by decide) fun f cdv A outer s H E hr=>(zd (yK (MW.mt (ue (wU (xp (uY (T:="str") (by decide) rfl B.isinstance (vz (v:=.ty "str") rfl B.str Boot.«str» rfl) (mn 0 .shr)))) (uu (wU (Yx Wq QT zp Wq QT zp ze (zF zE xh xg (by exact rfl) B.len PySem.boot_len (za (mn 0 .shr) zg)) (VP G.MOST_SIGNS)))))) (zm (zA (zc vh))) zN) (zm (zA (zc (zF (V6 (by exact rfl)) z1z z1M (by exact rfl) B.all Boot.«all» (za (wD (N':=["sign"]) (fr:=[none]) rfl (xV sc_is_word.nofree (by decide +kernel)) (wQ (mn 0 .shr)) (fun _ _ _ _=>(xA (pgn 0 (show List.Nodup (["sign"]:List Str) from by decide +kernel)))) (fun _ _ _ _=>vy) (fun _ _ _ _=>(zr (O_is_sign.mono (by decide)) hr (by exact rfl) wZ (za (mn 0 .shr) zg))) (by decide) (by decide)) zg))))))
noncomputable def vR:Tn->R Fl:=(zh (sIf (xD (zf (eL zx (z8 (z7 0) zb)))) (Vo "BadWord" (z8 (eC (.str "a word is a text of 1 to 40 signs of words")) zb)) zk) (zo (eC (.bl true))))
noncomputable def yP:List D->R D:=zw 1 vR
theorem Zz:FnScope ["thing"] ["thing"] (defScope (top 25)):=⟨rfl,rfl,rfl,by decide +kernel,rfl,by decide +kernel,by decide +kernel⟩
theorem ZD (Df:DefIn K mg "need_word" (top 25) ["thing"])(B:Bl mg)(G:Gl0 K mg)(Cl:Cls K mg)(O_is_word:Own P w K mg base "is_word" 2 ["thing"] (spM K zx 1)):Own P w K mg base "need_word" 3 ["thing"] (spM K yP 1) :=
 Df.mir (k:=2) (Γ':=[.shr]) Zz (by decide) fun f cdv A outer s H E hr=>(zd (yK (wU (xp (zr (O_is_word.mono (by decide)) hr (by exact rfl) zi (za (mn 0 .shr) zg)))) (zm (Vk Cl.e_BadWord rfl (za zC zg))) zN) (zm (zA (zc vh))))
noncomputable def ZV:Tn->R Fl:=(zo (z9 xX (qP qC (z7 0)) (eC (.str "abcdefghijklmnopqrstuvwxyz"))))
noncomputable def ye:List D->R D:=zw 1 ZV
theorem Ze:FnScope ["sign"] ["sign"] (defScope (top 26)):=⟨rfl,rfl,rfl,by decide +kernel,rfl,by decide +kernel,by decide +kernel⟩
theorem Zs (Df:DefIn K mg "is_letter" (top 26) ["sign"])(B:Bl mg)(G:Gl0 K mg)(Cl:Cls K mg) :Own P w K mg base "is_letter" 1 ["sign"] (spM K ye 1) :=
 Df.mir (k:=0) (Γ':=[.shr]) Ze (by decide) fun f cdv A outer s H E hr=>(zm (zA (zc (wc vm uy uB (je (mn 0 .shr)) (ZQ G.SMALL) (by exact rfl)))))
noncomputable def qW:Tn->R Fl:=(zh (zl 2 (eC (.int 0))) (zh (xU (yu (zf (z9 ltD (z7 2) (z7 1))) (zf (eL ye (z8 (z9 ixD (z7 0) (z9 xH (z9 xH (z7 1) (z7 2)) (eC (.int 1)))) zb)))) (jh 2 vA (eC (.int 1)))) (zo (z7 2))))
noncomputable def yD:List D->R D:=zw 3 qW
theorem sc_letters_ahead:FnScope ["word","place","many"] ["word","place"] (defScope (top 27)):=⟨rfl,rfl,rfl,by decide +kernel,rfl,by decide +kernel,by decide +kernel⟩
theorem qp (Df:DefIn K mg "letters_ahead" (top 27) ["word","place"])(B:Bl mg)(G:Gl0 K mg)(Cl:Cls K mg)(O_is_letter:Own P w K mg base "is_letter" 1 ["sign"] (spM K ye 1)):Own P w K mg base "letters_ahead" 2 ["word","place"] (spM K yD 2) :=
 Df.mir (k:=1) (Γ':=[.shr,.shr,.dead]) sc_letters_ahead (by decide) fun f cdv A outer s H E hr=>(zd (L2.st 2 sc_letters_ahead.nd (zc ze)) (zd (ZU (Γ2:=[.shr,.shr,.own]) PassesOwn.leaving (MW.mt (wO (zI wX qt zp (mn 2 .own) (mn 1 .shr) (zG _)) (vv (xp (zr (O_is_letter.mono (by decide)) hr (by exact rfl) zi (za (yr hr.u1 (mn 0 .shr) (zj xx wx zp (zj xx wx zp (mn 1 .shr) (mn 2 .own)) ze)) zg)))))) (zm (aug 2 .own sc_letters_ahead.nd Wt XS Y7 ze)) rfl) (zm (zA (mvn 2)))))
noncomputable def qD:Tn->R Fl:=(zh (zl 2 (eC (.int 0))) (zh (xU (yu (zf (z9 ltD (z9 zB (z7 1) (z7 2)) (eL y1 (z8 (z7 0) zb)))) (zf (eL ye (z8 (z9 ixD (z7 0) (z9 zB (z7 1) (z7 2))) zb)))) (jh 2 vA (eC (.int 1)))) (zo (z7 2))))
noncomputable def yo:List D->R D:=zw 3 qD
theorem sc_letters_behind:FnScope ["word","place","many"] ["word","place"] (defScope (top 28)):=⟨rfl,rfl,rfl,by decide +kernel,rfl,by decide +kernel,by decide +kernel⟩
theorem uQ (Df:DefIn K mg "letters_behind" (top 28) ["word","place"])(B:Bl mg)(G:Gl0 K mg)(Cl:Cls K mg)(O_is_letter:Own P w K mg base "is_letter" 1 ["sign"] (spM K ye 1)):Own P w K mg base "letters_behind" 2 ["word","place"] (spM K yo 2) :=
 Df.mir (k:=1) (Γ':=[.shr,.shr,.dead]) sc_letters_behind (by decide) fun f cdv A outer s H E hr=>(zd (L2.st 2 sc_letters_behind.nd (zc ze)) (zd (ZU (Γ2:=[.shr,.shr,.own]) PassesOwn.leaving (MW.mt (wO (zI wX qt zp (zj zz zU zY (mn 1 .shr) (mn 2 .own)) (zF zE xh xg (by exact rfl) B.len PySem.boot_len (za (mn 0 .shr) zg)) (zG _)) (vv (xp (zr (O_is_letter.mono (by decide)) hr (by exact rfl) zi (za (yr hr.u1 (mn 0 .shr) (zj zz zU zY (mn 1 .shr) (mn 2 .own))) zg)))))) (zm (aug 2 .own sc_letters_behind.nd Wt XS Y7 ze)) rfl) (zm (zA (mvn 2)))))
noncomputable def wy:Tn->R Fl:=(zh (sIf (bOr (zf (z9 ltD (eL yD (z8 (z7 2) (z8 (z7 3) zb))) (z9 ixD (z7 1) (eC (.str "ahead"))))) (zf (z9 ltD (eL yo (z8 (z7 2) (z8 (z7 3) zb))) (z9 ixD (z7 1) (eC (.str "behind")))))) (zo (eC (.bl false))) zk) (zh (zl 4 (eL xl (z8 (z7 0) (z8 (z7 2) (z8 (z7 3) zb))))) (zo (xM (z9 (isN true) (z7 4) (eC .non)) (z9 xX (eC (.str "-")) (z7 4))))))
noncomputable def yT:List D->R D:=zw 5 wy
theorem sc_may_part:FnScope ["book","rules","word","place","joint"] ["book","rules","word","place"] (defScope (top 29)):=⟨rfl,rfl,rfl,by decide +kernel,rfl,by decide +kernel,by decide +kernel⟩
theorem Yg (Df:DefIn K mg "may_part" (top 29) ["book","rules","word","place"])(B:Bl mg)(G:Gl0 K mg)(Cl:Cls K mg)(O_telling:Own P w K mg base "telling" 3 ["book","word","place"] (spM K xl 3))(O_letters_ahead:Own P w K mg base "letters_ahead" 2 ["word","place"] (spM K yD 2))(O_letters_behind:Own P w K mg base "letters_behind" 2 ["word","place"] (spM K yo 2)):Own P w K mg base "may_part" 4 ["book","rules","word","place"] (spM K yT 4) :=
 Df.mir (k:=3) (Γ':=[.shr,.shr,.shr,.shr,.dead]) sc_may_part (by decide) fun f cdv A outer s H E hr=>(zd (yK (MW.mt (ue (zI wX qt zp (zr (O_letters_ahead.mono (by decide)) hr (by exact rfl) zi (za (mn 2 .shr) (za (mn 3 .shr) zg))) (yr hr.u1 (mn 1 .shr) zC) (zG _)) (uu (zI wX qt zp (zr (O_letters_behind.mono (by decide)) hr (by exact rfl) zi (za (mn 2 .shr) (za (mn 3 .shr) zg))) (yr hr.u1 (mn 1 .shr) zC) (zG _))))) (zm (zA (zc vh))) zN) (zd (L2.st 4 sc_may_part.nd (zc (zr (O_telling.mono (by decide)) hr (by exact rfl) zi (za (mn 0 .shr) (za (mn 2 .shr) (za (mn 3 .shr) zg)))))) (zm (zA (zc (vG (wc ZF Xe W7 (mn 4 .own) uv (zG _)) (uq (wc vm uy uB zC (mn 4 .own) (by exact rfl)))))))))
noncomputable def v3:Tn->R Fl:=(zh (sIf (bOr (zf (z9 ltD (z7 1) (eC (.int 2)))) (zf (z9 (eqR true) (z9 ixD (z7 0) (z9 xH (z7 1) (eC (.int 1)))) (eC (.str "-"))))) (zo (eC (.bl false))) zk) (zo (xM (eL ye (z8 (z9 ixD (z7 0) (z9 xH (z7 1) (eC (.int 2)))) zb)) (eL ye (z8 (z9 ixD (z7 0) (z7 1)) zb)))))
noncomputable def xm:List D->R D:=zw 2 v3
theorem YZ:FnScope ["word","place"] ["word","place"] (defScope (top 30)):=⟨rfl,rfl,rfl,by decide +kernel,rfl,by decide +kernel,by decide +kernel⟩
theorem Xf (Df:DefIn K mg "is_soft" (top 30) ["word","place"])(B:Bl mg)(G:Gl0 K mg)(Cl:Cls K mg)(O_is_letter:Own P w K mg base "is_letter" 1 ["sign"] (spM K ye 1)):Own P w K mg base "is_soft" 2 ["word","place"] (spM K xm 2) :=
 Df.mir (k:=1) (Γ':=[.shr,.shr]) YZ (by decide) fun f cdv A outer s H E hr=>(zd (yK (MW.mt (ue (zI wX qt zp (mn 1 .shr) ze (zG _)) (uu (zI (vL hr.u12) u9 uc (yr hr.u1 (mn 0 .shr) (zj xx wx zp (mn 1 .shr) ze)) zC (zG _))))) (zm (zA (zc vh))) zN) (zm (zA (zc (vG (zr (O_is_letter.mono (by decide)) hr (by exact rfl) zi (za (yr hr.u1 (mn 0 .shr) (zj xx wx zp (mn 1 .shr) ze)) zg)) (uq (zr (O_is_letter.mono (by decide)) hr (by exact rfl) zi (za (yr hr.u1 (mn 0 .shr) (mn 1 .shr)) zg))))))))
noncomputable def vZ:Tn->R Fl:=(zh (sIf (zf (eL yT (z8 (z7 0) (z8 (z7 1) (z8 (z7 2) (z8 (z7 3) zb)))))) (zo (eC (.str "part"))) zk) (zh (sIf (zf (eL xm (z8 (z7 2) (z8 (z7 3) zb)))) (zo (eC (.str "soft"))) zk) (zo (eC .non))))
noncomputable def yI:List D->R D:=zw 4 vZ
theorem YL:FnScope ["book","rules","word","place"] ["book","rules","word","place"] (defScope (top 31)):=⟨rfl,rfl,rfl,by decide +kernel,rfl,by decide +kernel,by decide +kernel⟩
theorem XQ (Df:DefIn K mg "join_at" (top 31) ["book","rules","word","place"])(B:Bl mg)(G:Gl0 K mg)(Cl:Cls K mg)(O_may_part:Own P w K mg base "may_part" 4 ["book","rules","word","place"] (spM K yT 4))(O_is_soft:Own P w K mg base "is_soft" 2 ["word","place"] (spM K xm 2)):Own P w K mg base "join_at" 5 ["book","rules","word","place"] (spM K yI 4) :=
 Df.mir (k:=4) (Γ':=[.shr,.shr,.shr,.shr]) YL (by decide) fun f cdv A outer s H E hr=>(zd (yK (xp (zr (O_may_part.mono (by decide)) hr (by exact rfl) zi (za (mn 0 .shr) (za (mn 1 .shr) (za (mn 2 .shr) (za (mn 3 .shr) zg)))))) (zm (zA (zc zC))) zN) (zd (yK (xp (zr (O_is_soft.mono (by decide)) hr (by exact rfl) zi (za (mn 2 .shr) (za (mn 3 .shr) zg)))) (zm (zA (zc zC))) zN) (zm (zA (zc uv)))))
noncomputable def qV:Tn->R Fl:=(zh (zl 2 (qP qC (z7 1))) (zo (yi [none,some 2] (yR (z7 0)) (.one 0) (zf (z9 xX (eL yn (z8 (z7 0) zb)) (z7 1))) (yE (z7 0)))))
noncomputable def yC:List D->R D:=zw 3 qV
theorem sc_joints_within:FnScope ["book","word","small"] ["book","word"] (defScope (top 32)):=⟨rfl,rfl,rfl,by decide +kernel,rfl,by decide +kernel,by decide +kernel⟩
theorem qv (Df:DefIn K mg "joints_within" (top 32) ["book","word"])(B:Bl mg)(G:Gl0 K mg)(Cl:Cls K mg)(O_letters_of:Own P w K mg base "letters_of" 1 ["joint"] (spM K yn 1)):Own P w K mg base "joints_within" 2 ["book","word"] (spM K yC 2) :=
 Df.mir (k:=1) (Γ':=[.shr,.shr,.dead]) sc_joints_within (by decide) fun f cdv A outer s H E hr=>(zd (L2.st 2 sc_joints_within.nd (zc (je (mn 1 .shr)))) (zm (zA (zc (wD (N':=["joint","small"]) (fr:=[none,some 2]) rfl (xV sc_joints_within.nofree (by decide +kernel)) (wQ (mn 0 .shr)) (fun _ _ _ _=>(xA (pgn 0 (show List.Nodup (["joint","small"]:List Str) from by decide +kernel)))) (fun _ _ _ _=>(vV (zI vm uy uB (zr (O_letters_of.mono (by decide)) hr (by exact rfl) wZ (za (mn 0 .shr) zg)) (mn 1 .brw) (by exact rfl)))) (fun _ _ _ _=>(yY (mn 0 .shr))) (by decide) (by decide))))))
noncomputable def Ur:Tn->R Fl:=(zh (kz (eL yP (z8 (z7 2) zb))) (zh (zl 3 (eL yC (z8 (z7 0) (z8 (z7 2) zb)))) (zh (zl 4 (yi [none,some 3,some 1,some 2] (iL jY (z8 (eC (.int 1)) (z8 (eL y1 (z8 (z7 2) zb)) zb))) (.one 0) (fun _=>.ok true) (yE (eL (fun ds=>.ok (.tup ds)) (z8 (z7 0) (z8 (eL yI (z8 (z7 1) (z8 (z7 2) (z8 (z7 3) (z8 (z7 0) zb))))) zb)))))) (zo (yi [none,none] (yR (z7 4)) (.many [0,1]) (zf (z9 (isN true) (z7 1) (eC .non))) (yE (eL (fun ds=>.ok (.tup ds)) (z8 (z7 0) (z8 (z7 1) zb)))))))))
noncomputable def zV:List D->R D:=zw 5 Ur
theorem sc_places:FnScope ["book","rules","word","own","joins"] ["book","rules","word"] (defScope (top 33)):=⟨rfl,rfl,rfl,by decide +kernel,rfl,by decide +kernel,by decide +kernel⟩
theorem WY (Df:DefIn K mg "places" (top 33) ["book","rules","word"])(B:Bl mg)(G:Gl0 K mg)(Cl:Cls K mg)(O_need_word:Own P w K mg base "need_word" 3 ["thing"] (spM K yP 1))(O_joints_within:Own P w K mg base "joints_within" 2 ["book","word"] (spM K yC 2))(O_join_at:Own P w K mg base "join_at" 5 ["book","rules","word","place"] (spM K yI 4)):Own P w K mg base "places" 6 ["book","rules","word"] (spM K zV 3) :=
 Df.mir (k:=5) (Γ':=[.shr,.shr,.shr,.dead,.dead]) sc_places (by decide) fun f cdv A outer s H E hr=>(zd (Ju (zr (O_need_word.mono (by decide)) hr (by exact rfl) zi (za (mn 2 .shr) zg))) (zd (L2.st 3 sc_places.nd (zc (zr (O_joints_within.mono (by decide)) hr (by exact rfl) zi (za (mn 0 .shr) (za (mn 2 .shr) zg))))) (zd (stC 4 (N':=["place","own","rules","word"]) (fr:=[none,some 3,some 1,some 2]) sc_places.nd rfl (xV sc_places.nofree (by decide +kernel)) (kD rfl B.range (za ze (za (zF zE xh xg (by exact rfl) B.len PySem.boot_len (za (mn 2 .shr) zg)) zg))) (fun _ _ _ _=>(xA (pgn 0 (show List.Nodup (["place","own","rules","word"]:List Str) from by decide +kernel)))) (fun _ _ _ _=>vy) (fun _ _ _ _=>(yY (wo (za (mn 0 .shr) (za (zr (O_join_at.mono (by decide)) hr (by exact rfl) wZ (za (mn 1 .brw) (za (mn 2 .shr) (za (mn 3 .shr) (za (mn 0 .shr) zg))))) zg))))) (by decide)) (zm (zA (zc (wD (N':=["place","join"]) (fr:=[none,none]) rfl (xV sc_places.nofree (by decide +kernel)) (wQ (mn 4 .own)) (fun _ _ _ _=>(qZ rfl (w6 (pgn 0 (show List.Nodup (["place","join"]:List Str) from by decide +kernel)) (w6 (pgn 1 (show List.Nodup (["place","join"]:List Str) from by decide +kernel)) j9)))) (fun _ _ _ _=>(vV (zI ZF Xe W7 (mn 1 .brw) uv (zG _)))) (fun _ _ _ _=>(yY (wo (za (mn 0 .brw) (za (mn 1 .brw) zg))))) (by decide) (by decide))))))))
noncomputable def VL:Tn->R Fl:=(zh (zl 3 (eL (fun ds=>.ok (.lst ds)) zb)) (zh (zl 4 (eC (.int 0))) (zh (xR (yR (eL zV (z8 (z7 0) (z8 (z7 1) (z8 (z7 2) zb))))) (.many [5,6]) (zh (vo 3 (yE (eL (fun ds=>.ok (.tup ds)) (z8 (eSl (z7 2) (zO (z7 4)) (zO (z7 5))) (z8 (z7 6) zb))))) (zl 4 (z7 5)))) (zh (vo 3 (eL (fun ds=>.ok (.tup ds)) (z8 (eSl (z7 2) (zO (z7 4)) yN) (z8 (eC (.str "blank")) zb)))) (zo (z7 3))))))
noncomputable def xq:List D->R D:=zw 7 VL
theorem sc_parted:FnScope ["book","rules","word","texts","begin","place","join"] ["book","rules","word"] (defScope (top 34)):=⟨rfl,rfl,rfl,by decide +kernel,rfl,by decide +kernel,by decide +kernel⟩
theorem WC (Df:DefIn K mg "parted" (top 34) ["book","rules","word"])(B:Bl mg)(G:Gl0 K mg)(Cl:Cls K mg)(O_places:Own P w K mg base "places" 6 ["book","rules","word"] (spM K zV 3)):Own P w K mg base "parted" 7 ["book","rules","word"] (spM K xq 3) :=
 Df.mir (k:=6) (Γ':=[.shr,.shr,.shr,.dead,.dead,.dead,.dead]) sc_parted (by decide) fun f cdv A outer s H E hr=>(zd (L2.st 3 sc_parted.nd (zc (xI zg))) (zd (L2.st 4 sc_parted.nd (zc ze)) (zd (VM (Γ1:=[.shr,.shr,.shr,.own,.shr,.dead,.dead]) (jl (Γ2:=[.shr,.shr,.shr,.own,.shr,.shr,.shr]) PassesOwn.leaving rfl (wQ (zr (O_places.mono (by decide)) hr (by exact rfl) zi (za (mn 0 .shr) (za (mn 1 .shr) (za (mn 2 .shr) zg))))) (by decide) (qZ rfl (w6 (pgn 5 sc_parted.nd) (w6 (pgn 6 sc_parted.nd) j9))) (by decide) (zd (app 3 (zc (yY (wo (za (wV (mn 2 .shr) (yH (mn 4 .shr)) (yH (mn 5 .shr))) (za (mn 6 .shr) zg)))))) (zm (stS 4 sc_parted.nd (mn 5 .shr)))) rfl) rfl) (zd (app 3 (zc (wo (za (wV (mn 2 .shr) (yH (mn 4 .shr)) xY) (za zC zg))))) (zm (zA (mvn 3)))))))
noncomputable def wN:Tn->R Fl:=(zh (zl 2 (eC (.int 0))) (zh (sIf (zf (z9 ltD (z7 1) (eL y1 (z8 (z7 0) zb)))) (zl 2 (z9 ixD (z7 0) (z7 1))) zk) (zo (z9 zu (z9 wz (z9 zB (z9 zB (z7 2) (z9 wz (eC (.int 7919)) (z7 1))) (eC (.int 17))) (eC (.int 48271))) (eC (.int 2147483647))))))
noncomputable def zq:List D->R D:=zw 3 wN
theorem sc__law_number:FnScope ["_law_script","_law_k","_law_base"] ["_law_script","_law_k"] (defScope (top 36)):=⟨rfl,rfl,rfl,by decide +kernel,rfl,by decide +kernel,by decide +kernel⟩
theorem jM (Df:DefIn K mg "_law_number" (top 36) ["_law_script","_law_k"])(B:Bl mg)(G:Gl0 K mg)(Cl:Cls K mg) :Own P w K mg base "_law_number" 1 ["_law_script","_law_k"] (spM K zq 2) :=
 Df.mir (k:=0) (Γ':=[.shr,.shr,.dead]) sc__law_number (by decide) fun f cdv A outer s H E hr=>(zd (L2.st 2 sc__law_number.nd (zc ze)) (zd (yK (zI wX qt zp (mn 1 .shr) (zF zE xh xg (by exact rfl) B.len PySem.boot_len (za (mn 0 .shr) zg)) (zG _)) (zm (stS 2 sc__law_number.nd (yr hr.u1 (mn 0 .shr) (mn 1 .shr)))) (U9 (Γ':=[.shr,.shr,.shr]) zN rfl)) (zm (zA (zc (zj zH zZ zp (zj vi jn jg (zj zz zU zY (zj zz zU zY (mn 2 .shr) (zj vi jn jg ze (mn 1 .shr))) ze) ze) ze))))))
noncomputable def ZJ:Tn->R Fl:=(zh (zl 1 (eC (.str "abcdefghijklmnopqrstuvwxyzABCDEFGHIJKLMNOPQRSTUVWXYZ0123456789.,;:!?'\"()-/"))) (zh (sIf (zf (z9 ltD (z9 zu (z7 0) (eC (.int 16))) (eC (.int 10)))) (zo (z9 ixD (eC (.str "aabbcABBAb")) (z9 zu (z7 0) (eC (.int 16))))) zk) (zh (sIf (zf (z9 ltD (z9 zu (z7 0) (eC (.int 16))) (eC (.int 13)))) (zo (eC (.str "-"))) zk) (zo (yE (z9 ixD (z7 1) (z9 zu (z9 zt (z7 0) (eC (.int 16))) (eC (.int 74)))))))))
noncomputable def xF:List D->R D:=zw 2 ZJ
theorem sc__law_sign:FnScope ["_law_number_here","_law_signs"] ["_law_number_here"] (defScope (top 37)):=⟨rfl,rfl,rfl,by decide +kernel,rfl,by decide +kernel,by decide +kernel⟩
theorem Zq (Df:DefIn K mg "_law_sign" (top 37) ["_law_number_here"])(B:Bl mg)(G:Gl0 K mg)(Cl:Cls K mg) :Own P w K mg base "_law_sign" 1 ["_law_number_here"] (spM K xF 1) :=
 Df.mir (k:=0) (Γ':=[.shr,.dead]) sc__law_sign (by decide) fun f cdv A outer s H E hr=>(zd (L2.st 1 sc__law_sign.nd (zc zC)) (zd (yK (zI wX qt zp (zj zH zZ zp (mn 0 .shr) ze) ze (zG _)) (zm (zA (zc (yr hr.u1 zC (zj zH zZ zp (mn 0 .shr) ze))))) zN) (zd (yK (zI wX qt zp (zj zH zZ zp (mn 0 .shr) ze) ze (zG _)) (zm (zA (zc zC))) zN) (zm (zA (zc (yY (yr hr.u1 (mn 1 .own) (zj zH zZ zp (zj zS ym zp (mn 0 .shr) ze) ze)))))))))
noncomputable def YH:Tn->R Fl:=(zh (zl 2 (eL zq (z8 (z7 0) (z8 (z7 1) zb)))) (zh (zl 3 (z9 zB (eC (.int 1)) (z9 zu (z7 2) (eC (.int 12))))) (zh (sIf (zf (z9 (eqR false) (z9 zu (z9 zt (z7 2) (eC (.int 12))) (eC (.int 6))) (eC (.int 1)))) (zl 3 (z9 zB (eC (.int 1)) (z9 zu (z9 zt (z7 2) (eC (.int 72))) (eC (.int 40))))) zk) (zh (zl 4 (eL (fun ds=>.ok (.lst ds)) zb)) (zh (xR (iL xP (z8 (z7 3) zb)) (.one 5) (zh (zl 2 (z9 zB (eL zq (z8 (z7 0) (z8 (z9 zB (z9 zB (z7 1) (eC (.int 1))) (z9 zu (z7 5) (eC (.int 8)))) zb))) (z9 wz (z9 wz (eC (.int 611)) (z7 5)) (z7 5)))) (vo 4 (eL xF (z8 (z9 zt (z7 2) (eC (.int 5))) zb))))) (zo (eSm wm (eC (.str "")) (z8 (z7 4) zb))))))))
noncomputable def xi:List D->R D:=zw 6 YH
theorem sc__law_word:FnScope ["_law_script","_law_k","_law_number_here","_law_size","_law_signs","_law_j"] ["_law_script","_law_k"] (defScope (top 38)):=⟨rfl,rfl,rfl,by decide +kernel,rfl,by decide +kernel,by decide +kernel⟩
theorem Zx (Df:DefIn K mg "_law_word" (top 38) ["_law_script","_law_k"])(B:Bl mg)(G:Gl0 K mg)(Cl:Cls K mg)(O__law_number:Own P w K mg base "_law_number" 1 ["_law_script","_law_k"] (spM K zq 2))(O__law_sign:Own P w K mg base "_law_sign" 1 ["_law_number_here"] (spM K xF 1)):Own P w K mg base "_law_word" 2 ["_law_script","_law_k"] (spM K xi 2) :=
 Df.mir (k:=1) (Γ':=[.shr,.shr,.dead,.dead,.dead,.dead]) sc__law_word (by decide) fun f cdv A outer s H E hr=>(zd (L2.st 2 sc__law_word.nd (zc (zr (O__law_number.mono (by decide)) hr (by exact rfl) zi (za (mn 0 .shr) (za (mn 1 .shr) zg))))) (zd (L2.st 3 sc__law_word.nd (zc (zj zz zU zY ze (zj zH zZ zp (mn 2 .own) ze)))) (zd (yK (zI (xf hr.u12) u9 uc (zj zH zZ zp (zj zS ym zp (mn 2 .own) ze) ze) ze (zG _)) (zm (L2.st 3 sc__law_word.nd (zc (zj zz zU zY ze (zj zH zZ zp (zj zS ym zp (mn 2 .own) ze) ze))))) zN) (zd (L2.st 4 sc__law_word.nd (zc (xI zg))) (zd (jl (Γ2:=[.shr,.shr,.own,.own,.own,.shr]) PassesOwn.leaving rfl (xW rfl B.range (za (mn 3 .own) zg)) (by decide) (xA (pgn 5 sc__law_word.nd)) (by decide) (zd (L2.st 2 sc__law_word.nd (zc (zj zz zU zY (zr (O__law_number.mono (by decide)) hr (by exact rfl) zi (za (mn 0 .shr) (za (zj zz zU zY (zj zz zU zY (mn 1 .shr) ze) (zj zH zZ zp (mn 5 .shr) ze)) zg))) (zj vi jn jg (zj vi jn jg ze (mn 5 .shr)) (mn 5 .shr))))) (zm (app 4 (zc (zr (O__law_sign.mono (by decide)) hr (by exact rfl) zi (za (zj zS ym zp (mn 2 .own) ze) zg)))))) rfl) (zm (zA (zc (kI PySem.F.plainAttrs_str PySem.F.slot_str_join PySem.F.type_str_join jy XA XD zC (za (mn 4 .own) zg))))))))))
noncomputable def Zd:Tn->R Fl:=(zh (zl 1 (eC (.str "ABCDEFGHIJKLMNOPQRSTUVWXYZ"))) (zh (sIf (zf (z9 xX (z7 0) (z7 1))) (zo (z9 ixD (eC (.str "abcdefghijklmnopqrstuvwxyz")) (eSm jB (z7 1) (z8 (z7 0) zb)))) zk) (zo (yE (z7 0)))))
noncomputable def zW:List D->R D:=zw 2 Zd
theorem sc__law_small:FnScope ["_law_sign_here","_law_great"] ["_law_sign_here"] (defScope (top 39)):=⟨rfl,rfl,rfl,by decide +kernel,rfl,by decide +kernel,by decide +kernel⟩
theorem jX (Df:DefIn K mg "_law_small" (top 39) ["_law_sign_here"])(B:Bl mg)(G:Gl0 K mg)(Cl:Cls K mg) :Own P w K mg base "_law_small" 1 ["_law_sign_here"] (spM K zW 1) :=
 Df.mir (k:=0) (Γ':=[.shr,.dead]) sc__law_small (by decide) fun f cdv A outer s H E hr=>(zd (L2.st 1 sc__law_small.nd (zc zC)) (zd (yK (zI vm uy uB (mn 0 .shr) (mn 1 .own) (by exact rfl)) (zm (zA (zc (yr hr.u1 zC (kI PySem.F.plainAttrs_str PySem.F.slot_str_index PySem.F.type_str_index WS JC Jv (mn 1 .own) (za (mn 0 .shr) zg)))))) zN) (zm (zA (zc (yY (mn 0 .shr)))))))
noncomputable def qy:Tn->R Fl:=(zh (sIf (yu (zf (yL leD ltD (eC (.int 0)) (z7 2) (eL y1 (z8 (z7 1) zb)))) (zf (z9 xX (eL zW (z8 (z9 ixD (z7 1) (z7 2)) zb)) (eC (.str "abcdefghijklmnopqrstuvwxyz"))))) (zo (eL zW (z8 (z9 ixD (z7 1) (z7 2)) zb))) zk) (zo (z9 ixD (eC (.str "abc")) (z9 zu (z9 zt (z7 0) (z9 zB (eC (.int 1)) (z9 wz (z7 2) (z7 2)))) (eC (.int 3))))))
noncomputable def yq:List D->R D:=zw 3 qy
theorem uA:FnScope ["_law_number_here","_law_word_here","_law_spot"] ["_law_number_here","_law_word_here","_law_spot"] (defScope (top 40)):=⟨rfl,rfl,rfl,by decide +kernel,rfl,by decide +kernel,by decide +kernel⟩
theorem uM (Df:DefIn K mg "_law_letter_by" (top 40) ["_law_number_here","_law_word_here","_law_spot"])(B:Bl mg)(G:Gl0 K mg)(Cl:Cls K mg)(O__law_small:Own P w K mg base "_law_small" 1 ["_law_sign_here"] (spM K zW 1)):Own P w K mg base "_law_letter_by" 2 ["_law_number_here","_law_word_here","_law_spot"] (spM K yq 3) :=
 Df.mir (k:=1) (Γ':=[.shr,.shr,.shr]) uA (by decide) fun f cdv A outer s H E hr=>(zd (yK (MW.mt (wO (Yx Wq QT zp wX qt zp ze (mn 2 .shr) (zF zE xh xg (by exact rfl) B.len PySem.boot_len (za (mn 1 .shr) zg))) (vv (zI vm uy uB (zr (O__law_small.mono (by decide)) hr (by exact rfl) zi (za (yr hr.u1 (mn 1 .shr) (mn 2 .shr)) zg)) zC (by exact rfl))))) (zm (zA (zc (zr (O__law_small.mono (by decide)) hr (by exact rfl) zi (za (yr hr.u1 (mn 1 .shr) (mn 2 .shr)) zg))))) zN) (zm (zA (zc (yr hr.u1 zC (zj zH zZ zp (zj zS ym zp (mn 0 .shr) (zj zz zU zY ze (zj vi jn jg (mn 2 .shr) (mn 2 .shr)))) ze))))))
noncomputable def Zw:Tn->R Fl:=(zh (zl 2 (z9 zB (eC (.int 2)) (z9 zu (z7 0) (eC (.int 3))))) (zh (sIf (zf (z9 (eqR false) (z9 zu (z9 zt (z7 0) (eC (.int 3))) (eC (.int 5))) (eC (.int 1)))) (zl 2 (z9 zB (eC (.int 2)) (z9 zu (z9 zt (z7 0) (eC (.int 15))) (eC (.int 7))))) zk) (zh (zl 3 (z9 zB (eC (.int 1)) (z9 zu (z9 zt (z7 0) (eC (.int 105))) (z9 xH (z7 2) (eC (.int 1)))))) (zh (zl 4 (z9 zu (z9 zt (z7 0) (eC (.int 21))) (z9 zB (eL y1 (z8 (z7 1) zb)) (eC (.int 1))))) (zh (zl 5 (yi [none,some 0,some 1,some 4,some 3] (iL xP (z8 (z7 2) zb)) (.one 0) (fun _=>.ok true) (eL yq (z8 (z7 1) (z8 (z7 2) (z8 (z9 zB (z9 xH (z7 3) (z7 4)) (z7 0)) zb)))))) (zh (sIf (zf (z9 (eqR false) (z9 zu (z9 zt (z7 0) (eC (.int 29))) (eC (.int 5))) (eC (.int 1)))) (zl 5 (yi [none,some 0] (iL xP (z8 (z7 2) zb)) (.one 0) (fun _=>.ok true) (z9 ixD (eC (.str "ab")) (z9 zu (z9 zt (z7 1) (z9 wz (eC (.int 31)) (z9 zB (eC (.int 1)) (z7 0)))) (eC (.int 2)))))) zk) (zh (sIf (zf (z9 (eqR false) (z9 zu (z9 zt (z7 0) (eC (.int 29))) (eC (.int 5))) (eC (.int 2)))) (Xk 5 (z9 ixD (eC (.str "abcz")) (z9 zu (z9 zt (z7 0) (eC (.int 1160))) (eC (.int 4)))) (z9 zu (z9 zt (z7 0) (eC (.int 145))) (z7 2))) zk) (zh (zl 6 (z9 ixD (eC (.str "-=")) (z9 zt (z9 zu (z9 zt (z7 0) (eC (.int 37))) (eC (.int 5))) (eC (.int 3))))) (zo (z9 zB (z9 zB (eSm wm (eC (.str "")) (z8 (eSl (z7 5) yN (zO (z7 3))) zb)) (z7 6)) (eSm wm (eC (.str "")) (z8 (eSl (z7 5) (zO (z7 3)) yN) zb))))))))))))
noncomputable def yQ:List D->R D:=zw 7 Zw
theorem sc__law_joint:FnScope ["_law_number_here","_law_word_here","_law_size","_law_at","_law_place","_law_letters","_law_mark_here"] ["_law_number_here","_law_word_here"] (defScope (top 41)):=⟨rfl,rfl,rfl,by decide +kernel,rfl,by decide +kernel,by decide +kernel⟩
theorem ka (Df:DefIn K mg "_law_joint" (top 41) ["_law_number_here","_law_word_here"])(B:Bl mg)(G:Gl0 K mg)(Cl:Cls K mg)(O__law_letter_by:Own P w K mg base "_law_letter_by" 2 ["_law_number_here","_law_word_here","_law_spot"] (spM K yq 3)):Own P w K mg base "_law_joint" 3 ["_law_number_here","_law_word_here"] (spM K yQ 2) :=
 Df.mir (k:=2) (Γ':=[.shr,.shr,.dead,.dead,.dead,.dead,.dead]) sc__law_joint (by decide) fun f cdv A outer s H E hr=>(zd (L2.st 2 sc__law_joint.nd (zc (zj zz zU zY ze (zj zH zZ zp (mn 0 .shr) ze)))) (zd (yK (zI (xf hr.u12) u9 uc (zj zH zZ zp (zj zS ym zp (mn 0 .shr) ze) ze) ze (zG _)) (zm (L2.st 2 sc__law_joint.nd (zc (zj zz zU zY ze (zj zH zZ zp (zj zS ym zp (mn 0 .shr) ze) ze))))) zN) (zd (L2.st 3 sc__law_joint.nd (zc (zj zz zU zY ze (zj zH zZ zp (zj zS ym zp (mn 0 .shr) ze) (zj xx wx zp (mn 2 .own) ze))))) (zd (L2.st 4 sc__law_joint.nd (zc (zj zH zZ zp (zj zS ym zp (mn 0 .shr) ze) (zj zz zU zY (zF zE xh xg (by exact rfl) B.len PySem.boot_len (za (mn 1 .shr) zg)) ze)))) (zd (stC 5 (N':=["_law_j","_law_number_here","_law_word_here","_law_place","_law_at"]) (fr:=[none,some 0,some 1,some 4,some 3]) sc__law_joint.nd rfl (xV sc__law_joint.nofree (by decide +kernel)) (xW rfl B.range (za (mn 2 .own) zg)) (fun _ _ _ _=>(xA (pgn 0 (show List.Nodup (["_law_j","_law_number_here","_law_word_here","_law_place","_law_at"]:List Str) from by decide +kernel)))) (fun _ _ _ _=>vy) (fun _ _ _ _=>(zr (O__law_letter_by.mono (by decide)) hr (by exact rfl) wZ (za (mn 1 .shr) (za (mn 2 .shr) (za (zj zz zU zY (zj xx wx zp (mn 3 .brw) (mn 4 .brw)) (mn 0 .shr)) zg))))) (by decide)) (zd (yK (zI (xf hr.u12) u9 uc (zj zH zZ zp (zj zS ym zp (mn 0 .shr) ze) ze) ze (zG _)) (zm (stC 5 (N':=["_law_j","_law_number_here"]) (fr:=[none,some 0]) sc__law_joint.nd rfl (xV sc__law_joint.nofree (by decide +kernel)) (xW rfl B.range (za (mn 2 .own) zg)) (fun _ _ _ _=>(xA (pgn 0 (show List.Nodup (["_law_j","_law_number_here"]:List Str) from by decide +kernel)))) (fun _ _ _ _=>vy) (fun _ _ _ _=>(yr hr.u1 zC (zj zH zZ zp (zj zS ym zp (mn 1 .shr) (zj vi jn jg ze (zj zz zU zY ze (mn 0 .shr)))) ze))) (by decide))) zN) (zd (yK (zI (xf hr.u12) u9 uc (zj zH zZ zp (zj zS ym zp (mn 0 .shr) ze) ze) ze (zG _)) (zm (put 5 (zc (yr hr.u1 zC (zj zH zZ zp (zj zS ym zp (mn 0 .shr) ze) ze))) (zj zH zZ zp (zj zS ym zp (mn 0 .shr) ze) (mn 2 .own)))) zN) (zd (L2.st 6 sc__law_joint.nd (zc (yr hr.u1 zC (zj zS ym zp (zj zH zZ zp (zj zS ym zp (mn 0 .shr) ze) ze) ze)))) (zm (zA (zc (zj zz zU zY (zj zz zU zY (kI PySem.F.plainAttrs_str PySem.F.slot_str_join PySem.F.type_str_join jy XA XD zC (za (wV (mn 5 .own) xY (yH (mn 3 .own))) zg)) (mn 6 .own)) (kI PySem.F.plainAttrs_str PySem.F.slot_str_join PySem.F.type_str_join jy XA XD zC (za (wV (mn 5 .own) (yH (mn 3 .own)) xY) zg))))))))))))))
noncomputable def Yu:Tn->R Fl:=(zo (yE (z9 ixD (yi [none,some 0] (iL xP (z8 (eL y1 (z8 (z7 0) zb)) zb)) (.one 0) (zf (z9 xX (z9 ixD (z7 1) (z7 0)) (eC (.str "-=")))) (z7 0)) (eC (.int 0)))))
noncomputable def xb:List D->R D:=zw 1 Yu
theorem sc__law_mark:FnScope ["_law_joint_here"] ["_law_joint_here"] (defScope (top 42)):=⟨rfl,rfl,rfl,by decide +kernel,rfl,by decide +kernel,by decide +kernel⟩
theorem Z8 (Df:DefIn K mg "_law_mark" (top 42) ["_law_joint_here"])(B:Bl mg)(G:Gl0 K mg)(Cl:Cls K mg) :Own P w K mg base "_law_mark" 1 ["_law_joint_here"] (spM K xb 1) :=
 Df.mir (k:=0) (Γ':=[.shr]) sc__law_mark (by decide) fun f cdv A outer s H E hr=>(zm (zA (zc (yY (yr hr.u1 (wD (N':=["_law_k","_law_joint_here"]) (fr:=[none,some 0]) rfl (xV sc__law_mark.nofree (by decide +kernel)) (xW rfl B.range (za (zF zE xh xg (by exact rfl) B.len PySem.boot_len (za (mn 0 .shr) zg)) zg)) (fun _ _ _ _=>(xA (pgn 0 (show List.Nodup (["_law_k","_law_joint_here"]:List Str) from by decide +kernel)))) (fun _ _ _ _=>(vV (zI vm uy uB (yr hr.u1 (mn 1 .shr) (mn 0 .shr)) zC (by exact rfl)))) (fun _ _ _ _=>(mn 0 .shr)) (by decide) (by decide)) ze)))))
noncomputable def YD:Tn->R Fl:=(zh (zl 3 (eL zq (z8 (z7 0) (z8 (z7 1) zb)))) (zh (zl 4 (z9 zu (z7 3) (eC (.int 9)))) (zh (sIf (yu (zf (z9 (eqR false) (z9 zu (z9 zt (z7 3) (eC (.int 9))) (eC (.int 16))) (eC (.int 1)))) (zf (z9 ltD (eL y1 (z8 (z7 2) zb)) (eC (.int 13))))) (zl 4 (z9 zB (eC (.int 20)) (z9 zu (z9 zt (z7 3) (eC (.int 144))) (eC (.int 60))))) zk) (zh (zl 5 (eL (fun ds=>.ok (.lst ds)) zb)) (zh (zl 6 (eL (fun ds=>.ok (.lst ds)) zb)) (zh (xR (iL xP (z8 (z7 4) zb)) (.one 7) (zh (zl 3 (z9 zB (eL zq (z8 (z7 0) (z8 (z9 zB (z9 zB (z7 1) (eC (.int 1))) (z9 zu (z7 7) (eC (.int 6)))) zb))) (z9 wz (eC (.int 48271)) (z9 zt (z7 7) (eC (.int 6)))))) (zh (zl 8 (eL yQ (z8 (z9 zu (z7 3) (eC (.int 2147483647))) (z8 (z7 2) zb)))) (zh (zl 9 (eL xb (z8 (z7 8) zb))) (sIf (zf (z9 (Ym true) (eL (fun ds=>.ok (.tup ds)) (z8 (eSl (z7 8) yN (zO (z7 9))) (z8 (eSl (z7 8) (zO (z9 zB (z7 9) (eC (.int 1)))) yN) zb))) (z7 6))) (zh (vo 6 (eL (fun ds=>.ok (.tup ds)) (z8 (eSl (z7 8) yN (zO (z7 9))) (z8 (eSl (z7 8) (zO (z9 zB (z7 9) (eC (.int 1)))) yN) zb)))) (vo 5 (yE (z7 8)))) zk))))) (zo (z7 5))))))))
noncomputable def xj:List D->R D:=zw 10 YD
theorem sc__law_book:FnScope ["_law_script","_law_k","_law_word_here","_law_number_here","_law_many","_law_book_here","_law_told","_law_j","_law_joint_here","_law_at"] ["_law_script","_law_k","_law_word_here"] (defScope (top 43)):=⟨rfl,rfl,rfl,by decide +kernel,rfl,by decide +kernel,by decide +kernel⟩
theorem Zg (Df:DefIn K mg "_law_book" (top 43) ["_law_script","_law_k","_law_word_here"])(B:Bl mg)(G:Gl0 K mg)(Cl:Cls K mg)(O__law_number:Own P w K mg base "_law_number" 1 ["_law_script","_law_k"] (spM K zq 2))(O__law_joint:Own P w K mg base "_law_joint" 3 ["_law_number_here","_law_word_here"] (spM K yQ 2))(O__law_mark:Own P w K mg base "_law_mark" 1 ["_law_joint_here"] (spM K xb 1)):Own P w K mg base "_law_book" 4 ["_law_script","_law_k","_law_word_here"] (spM K xj 3) :=
 Df.mir (k:=3) (Γ':=[.shr,.shr,.shr,.dead,.dead,.dead,.dead,.dead,.dead,.dead]) sc__law_book (by decide) fun f cdv A outer s H E hr=>(zd (L2.st 3 sc__law_book.nd (zc (zr (O__law_number.mono (by decide)) hr (by exact rfl) zi (za (mn 0 .shr) (za (mn 1 .shr) zg))))) (zd (L2.st 4 sc__law_book.nd (zc (zj zH zZ zp (mn 3 .own) ze))) (zd (yK (MW.mt (wO (zI (xf hr.u12) u9 uc (zj zH zZ zp (zj zS ym zp (mn 3 .own) ze) ze) ze (zG _)) (vv (zI wX qt zp (zF zE xh xg (by exact rfl) B.len PySem.boot_len (za (mn 2 .shr) zg)) ze (zG _))))) (zm (L2.st 4 sc__law_book.nd (zc (zj zz zU zY ze (zj zH zZ zp (zj zS ym zp (mn 3 .own) ze) ze))))) zN) (zd (L2.st 5 sc__law_book.nd (zc (xI zg))) (zd (L2.st 6 sc__law_book.nd (zc (xI zg))) (zd (jl (Γ2:=[.shr,.shr,.shr,.own,.own,.own,.own,.shr,.own,.own]) PassesOwn.leaving rfl (xW rfl B.range (za (mn 4 .own) zg)) (by decide) (xA (pgn 7 sc__law_book.nd)) (by decide) (zd (L2.st 3 sc__law_book.nd (zc (zj zz zU zY (zr (O__law_number.mono (by decide)) hr (by exact rfl) zi (za (mn 0 .shr) (za (zj zz zU zY (zj zz zU zY (mn 1 .shr) ze) (zj zH zZ zp (mn 7 .shr) ze)) zg))) (zj vi jn jg ze (zj zS ym zp (mn 7 .shr) ze))))) (zd (L2.st 8 sc__law_book.nd (zc (zr (O__law_joint.mono (by decide)) hr (by exact rfl) zi (za (zj zH zZ zp (mn 3 .own) ze) (za (mn 2 .shr) zg))))) (zd (L2.st 9 sc__law_book.nd (zc (zr (O__law_mark.mono (by decide)) hr (by exact rfl) zi (za (mn 8 .own) zg)))) (zm (yK (zI (WL hr.u12) z2f z2e (wo (za (wV (mn 8 .own) xY (yH (mn 9 .own))) (za (wV (mn 8 .own) (yH (zj zz zU zY (mn 9 .own) ze)) xY) zg))) (mn 6 .own) (by exact rfl)) (zd (app 6 (zc (wo (za (wV (mn 8 .own) xY (yH (mn 9 .own))) (za (wV (mn 8 .own) (yH (zj zz zU zY (mn 9 .own) ze)) xY) zg))))) (zm (app 5 (zc (yY (mn 8 .own)))))) zN))))) rfl) (zm (zA (mvn 5)))))))))
noncomputable def Z4:Tn->R Fl:=(zh (zl 2 (eL zq (z8 (z7 0) (z8 (z7 1) zb)))) (zh (zl 3 (eL (fun ds=>.ok (.dic [.inr "width",.inr "height",.inr "part",.inr "twin",.inr "over",.inr "lone"] ds)) (z8 (z9 zB (eC (.int 4)) (z9 zu (z7 2) (eC (.int 90)))) (z8 (z9 zB (eC (.int 2)) (z9 zu (z7 2) (eC (.int 50)))) (z8 (z9 zu (z7 2) (eC (.int 70))) (z8 (eC (.int 5)) (z8 (eC (.int 9)) (z8 (eC (.int 0)) zb)))))))) (zh (w8 3 (z9 zu (z7 2) (eC (.int 3))) (eC (.str "late"))) (zh (w8 3 (z9 zu (z7 2) (eC (.int 6))) (eC (.str "gap"))) (zh (w8 3 (z9 ixD (eL (fun ds=>.ok (.lst ds)) (z8 (eC (.int 1)) (z8 (eC (.int 1)) (z8 (eC (.int 2)) (z8 (eC (.int 3)) (z8 (z9 zB (eC (.int 1)) (z9 zu (z9 zt (z7 2) (eC (.int 16))) (eC (.int 6)))) zb)))))) (z9 zu (z9 zt (z7 2) (eC (.int 2))) (eC (.int 5)))) (eC (.str "ahead"))) (zh (w8 3 (z9 ixD (eL (fun ds=>.ok (.lst ds)) (z8 (eC (.int 1)) (z8 (eC (.int 2)) (z8 (eC (.int 2)) (z8 (eC (.int 3)) (z8 (z9 zB (eC (.int 1)) (z9 zu (z9 zt (z7 2) (eC (.int 96))) (eC (.int 6)))) zb)))))) (z9 zu (z9 zt (z7 2) (eC (.int 10))) (eC (.int 5)))) (eC (.str "behind"))) (zo (z7 3))))))))
noncomputable def yU:List D->R D:=zw 4 Z4
theorem sc__law_rules:FnScope ["_law_script","_law_k","_law_number_here","_law_rules_here"] ["_law_script","_law_k"] (defScope (top 44)):=⟨rfl,rfl,rfl,by decide +kernel,rfl,by decide +kernel,by decide +kernel⟩
theorem kf (Df:DefIn K mg "_law_rules" (top 44) ["_law_script","_law_k"])(B:Bl mg)(G:Gl0 K mg)(Cl:Cls K mg)(O__law_number:Own P w K mg base "_law_number" 1 ["_law_script","_law_k"] (spM K zq 2)):Own P w K mg base "_law_rules" 2 ["_law_script","_law_k"] (spM K yU 2) :=
 Df.mir (k:=1) (Γ':=[.shr,.shr,.dead,.dead]) sc__law_rules (by decide) fun f cdv A outer s H E hr=>(zd (L2.st 2 sc__law_rules.nd (zc (zr (O__law_number.mono (by decide)) hr (by exact rfl) zi (za (mn 0 .shr) (za (mn 1 .shr) zg))))) (zd (L2.st 3 sc__law_rules.nd (zc (QE (wW (key:=.inr "width") um (zj zz zU zY ze (zj zH zZ zp (mn 2 .own) ze)) (wW (key:=.inr "height") um (zj zz zU zY ze (zj zH zZ zp (mn 2 .own) ze)) (wW (key:=.inr "part") um (zj zH zZ zp (mn 2 .own) ze) (wW (key:=.inr "twin") um ze (wW (key:=.inr "over") um ze (wW (key:=.inr "lone") um ze QS)))))) (by decide)))) (zd (Vc 3 hr.u1 (zc (zj zH zZ zp (mn 2 .own) ze)) zC) (zd (Vc 3 hr.u1 (zc (zj zH zZ zp (mn 2 .own) ze)) zC) (zd (Vc 3 hr.u1 (zc (yr hr.u1 (xI (za ze (za ze (za ze (za ze (za (zj zz zU zY ze (zj zH zZ zp (zj zS ym zp (mn 2 .own) ze) ze)) zg)))))) (zj zH zZ zp (zj zS ym zp (mn 2 .own) ze) ze))) zC) (zd (Vc 3 hr.u1 (zc (yr hr.u1 (xI (za ze (za ze (za ze (za ze (za (zj zz zU zY ze (zj zH zZ zp (zj zS ym zp (mn 2 .own) ze) ze)) zg)))))) (zj zH zZ zp (zj zS ym zp (mn 2 .own) ze) ze))) zC) (zm (zA (mvn 3)))))))))
noncomputable def uZ:Tn->R Fl:=(zo (xM (yL leD ltD (eC (.int 0)) (z7 1) (eL y1 (z8 (z7 0) zb))) (z9 xX (eL zW (z8 (z9 ixD (z7 0) (z7 1)) zb)) (eC (.str "abcdefghijklmnopqrstuvwxyz")))))
noncomputable def yb:List D->R D:=zw 2 uZ
theorem ux:FnScope ["_law_word_here","_law_spot"] ["_law_word_here","_law_spot"] (defScope (top 45)):=⟨rfl,rfl,rfl,by decide +kernel,rfl,by decide +kernel,by decide +kernel⟩
theorem uw (Df:DefIn K mg "_law_is_letter" (top 45) ["_law_word_here","_law_spot"])(B:Bl mg)(G:Gl0 K mg)(Cl:Cls K mg)(O__law_small:Own P w K mg base "_law_small" 1 ["_law_sign_here"] (spM K zW 1)):Own P w K mg base "_law_is_letter" 2 ["_law_word_here","_law_spot"] (spM K yb 2) :=
 Df.mir (k:=1) (Γ':=[.shr,.shr]) ux (by decide) fun f cdv A outer s H E hr=>(zm (zA (zc (vG (VG Wq QT zp wX qt zp ze (mn 1 .shr) (zF zE xh xg (by exact rfl) B.len PySem.boot_len (za (mn 0 .shr) zg))) (uq (wc vm uy uB (zr (O__law_small.mono (by decide)) hr (by exact rfl) zi (za (yr hr.u1 (mn 0 .shr) (mn 1 .shr)) zg)) zC (by exact rfl)))))))
noncomputable def ZY:Tn->R Fl:=(zh (zl 4 (yi [none,some 2] (iL xP (z8 (eL y1 (z8 (z7 2) zb)) zb)) (.one 0) (xD (zf (eL yb (z8 (z7 1) (z8 (z7 0) zb))))) (yE (z7 0)))) (zh (zl 5 (eL vQ (z8 (z9 zB (eL (fun ds=>.ok (.lst ds)) (z8 (z7 3) zb)) (yi [none,some 3] (yR (z7 4)) (.one 0) (zf (z9 ltD (z7 0) (z7 1))) (z9 xH (z9 xH (z7 1) (eC (.int 1))) (z7 0)))) zb))) (zh (zl 6 (eL vQ (z8 (z9 zB (eL (fun ds=>.ok (.lst ds)) (z8 (z9 xH (eL y1 (z8 (z7 2) zb)) (z7 3)) zb)) (yi [none,some 3] (yR (z7 4)) (.one 0) (zf (z9 geD (z7 0) (z7 1))) (z9 xH (z7 0) (z7 1)))) zb))) (zh (zl 7 (eL xl (z8 (z7 0) (z8 (z7 2) (z8 (z7 3) zb))))) (zh (sIf (yu (zf (z9 (isN true) (z7 7) (eC .non))) (yu (zf (z9 xX (eC (.str "-")) (z7 7))) (yu (zf (z9 geD (z7 5) (z9 ixD (z7 1) (eC (.str "ahead"))))) (zf (z9 geD (z7 6) (z9 ixD (z7 1) (eC (.str "behind")))))))) (zo (eC (.str "part"))) zk) (zh (sIf (yu (zf (z9 (eqR false) (z9 ixD (z7 2) (z9 xH (z7 3) (eC (.int 1)))) (eC (.str "-")))) (yu (zf (eL yb (z8 (z7 2) (z8 (z9 xH (z7 3) (eC (.int 2))) zb)))) (zf (z9 gtD (z7 6) (eC (.int 0)))))) (zo (eC (.str "soft"))) zk) (zo (eC (.str "")))))))))
noncomputable def yg:List D->R D:=zw 8 ZY
theorem sc__law_join:FnScope ["_law_book_here","_law_rules_here","_law_word_here","_law_place","_law_spots","_law_ahead","_law_behind","_law_joint_here"] ["_law_book_here","_law_rules_here","_law_word_here","_law_place"] (defScope (top 46)):=⟨rfl,rfl,rfl,by decide +kernel,rfl,by decide +kernel,by decide +kernel⟩
theorem Zy (Df:DefIn K mg "_law_join" (top 46) ["_law_book_here","_law_rules_here","_law_word_here","_law_place"])(B:Bl mg)(G:Gl0 K mg)(Cl:Cls K mg)(O_telling:Own P w K mg base "telling" 3 ["book","word","place"] (spM K xl 3))(O__law_is_letter:Own P w K mg base "_law_is_letter" 2 ["_law_word_here","_law_spot"] (spM K yb 2)):Own P w K mg base "_law_join" 4 ["_law_book_here","_law_rules_here","_law_word_here","_law_place"] (spM K yg 4) :=
 Df.mir (k:=3) (Γ':=[.shr,.shr,.shr,.shr,.dead,.dead,.dead,.dead]) sc__law_join (by decide) fun f cdv A outer s H E hr=>(zd (stC 4 (N':=["_law_k","_law_word_here"]) (fr:=[none,some 2]) sc__law_join.nd rfl (xV sc__law_join.nofree (by decide +kernel)) (xW rfl B.range (za (zF zE xh xg (by exact rfl) B.len PySem.boot_len (za (mn 2 .shr) zg)) zg)) (fun _ _ _ _=>(xA (pgn 0 (show List.Nodup (["_law_k","_law_word_here"]:List Str) from by decide +kernel)))) (fun _ _ _ _=>(vV (wU (xp (zr (O__law_is_letter.mono (by decide)) hr (by exact rfl) wZ (za (mn 1 .shr) (za (mn 0 .shr) zg))))))) (fun _ _ _ _=>(yY (mn 0 .shr))) (by decide)) (zd (L2.st 5 sc__law_join.nd (zc (zF (kU (by exact rfl)) VN US (by exact rfl) B.min PyProof.Rows.boot_min (za (zj zz zU zY (xI (za (mn 3 .shr) zg)) (wD (N':=["_law_k","_law_place"]) (fr:=[none,some 3]) rfl (xV sc__law_join.nofree (by decide +kernel)) (wQ (mn 4 .own)) (fun _ _ _ _=>(xA (pgn 0 (show List.Nodup (["_law_k","_law_place"]:List Str) from by decide +kernel)))) (fun _ _ _ _=>(vV (zI wX qt zp (mn 0 .brw) (mn 1 .shr) (zG _)))) (fun _ _ _ _=>(zj xx wx zp (zj xx wx zp (mn 1 .shr) ze) (mn 0 .brw))) (by decide) (by decide))) zg)))) (zd (L2.st 6 sc__law_join.nd (zc (zF (kU (by exact rfl)) VN US (by exact rfl) B.min PyProof.Rows.boot_min (za (zj zz zU zY (xI (za (zj xx wx zp (zF zE xh xg (by exact rfl) B.len PySem.boot_len (za (mn 2 .shr) zg)) (mn 3 .shr)) zg)) (wD (N':=["_law_k","_law_place"]) (fr:=[none,some 3]) rfl (xV sc__law_join.nofree (by decide +kernel)) (wQ (mn 4 .own)) (fun _ _ _ _=>(xA (pgn 0 (show List.Nodup (["_law_k","_law_place"]:List Str) from by decide +kernel)))) (fun _ _ _ _=>(vV (zI Wn K3 zp (mn 0 .brw) (mn 1 .shr) (zG _)))) (fun _ _ _ _=>(zj xx wx zp (mn 0 .brw) (mn 1 .shr))) (by decide) (by decide))) zg)))) (zd (L2.st 7 sc__law_join.nd (zc (zr (O_telling.mono (by decide)) hr (by exact rfl) zi (za (mn 0 .shr) (za (mn 2 .shr) (za (mn 3 .shr) zg)))))) (zd (yK (MW.mt (wO (zI ZF Xe W7 (mn 7 .own) uv (zG _)) (wO (zI vm uy uB zC (mn 7 .own) (by exact rfl)) (wO (zI Wn K3 zp (mn 5 .own) (yr hr.u1 (mn 1 .shr) zC) (zG _)) (vv (zI Wn K3 zp (mn 6 .own) (yr hr.u1 (mn 1 .shr) zC) (zG _))))))) (zm (zA (zc zC))) zN) (zd (yK (MW.mt (wO (zI (xf hr.u12) u9 uc (yr hr.u1 (mn 2 .shr) (zj xx wx zp (mn 3 .shr) ze)) zC (zG _)) (wO (xp (zr (O__law_is_letter.mono (by decide)) hr (by exact rfl) zi (za (mn 2 .shr) (za (zj xx wx zp (mn 3 .shr) ze) zg)))) (vv (zI Kk z2F zp (mn 6 .own) ze (zG _)))))) (zm (zA (zc zC))) zN) (zm (zA (zc zC)))))))))
noncomputable def Zf:Tn->R Fl:=(zh (sIf (bOr (xD (zf (eUn (wL "list") (z7 0)))) (zf (z9 (eqR true) (z7 0) (z7 1)))) (zo (eC (.bl false))) zk) (zh (xR (yR (z7 0)) (.one 3) (sIf (bOr (xD (zf (eUn (wL "tuple") (z7 3)))) (bOr (zf (eUn (wL "bool") (z9 ixD (z7 3) (eC (.int 0))))) (xD (zf (eUn (wL "str") (z9 ixD (z7 3) (eC (.int 1)))))))) (zo (eC (.bl false))) zk)) (zh (vo 0 (eL (fun ds=>.ok (.tup ds)) (z8 (eC (.str "")) (z8 (eC (.str "")) zb)))) (zo (z9 (eqR false) (eL y1 (z8 (z7 1) zb)) (z7 2))))))
noncomputable def zR:List D->R D:=zw 4 Zf
theorem sc__law_pairs:FnScope ["_law_found","_law_due","_law_size","_law_pair"] ["_law_found","_law_due","_law_size"] (defScope (top 47)):=⟨rfl,rfl,rfl,by decide +kernel,rfl,by decide +kernel,by decide +kernel⟩
theorem kb (Df:DefIn K mg "_law_pairs" (top 47) ["_law_found","_law_due","_law_size"])(B:Bl mg)(G:Gl0 K mg)(Cl:Cls K mg) :Own P w K mg base "_law_pairs" 1 ["_law_found","_law_due","_law_size"] (spO K zR 3) :=
 Df.mirO (k:=0) (Γ':=[.own,.shr,.shr,.dead]) sc__law_pairs (by decide) fun f cdv A outer s H E hr=>(zd (yK (MW.mt (ue (wU (xp (uY (T:="list") (by decide) rfl B.isinstance (vz (v:=.ty "list") rfl B.list Boot.«list» rfl) (mn 0 .own)))) (uu (zI (vL hr.u12) u9 uc (mn 0 .own) (mn 1 .shr) (zG _))))) (zm (zA (zc vh))) zN) (zd (QD 3 PassesOwn.leaving rfl (wQ (mn 0 .own)) (xA (pgn 3 sc__law_pairs.nd)) rfl (MW.mt (ue (wU (xp (uY (T:="tuple") (by decide) rfl B.isinstance (vz (v:=.ty "tuple") rfl B.tuple Boot.«tuple» rfl) (mn 3 .brw)))) (ue (xp (uY (T:="bool") (by decide) rfl B.isinstance (vz (v:=.ty "bool") rfl B.bool Boot.«bool» rfl) (yr hr.u1 (mn 3 .brw) ze))) (uu (wU (xp (uY (T:="str") (by decide) rfl B.isinstance (vz (v:=.ty "str") rfl B.str Boot.«str» rfl) (yr hr.u1 (mn 3 .brw) ze)))))))) vh) (zd (app 0 (zc (wo (za zC (za zC zg))))) (zm (zA (zc (wc (xf hr.u12) u9 uc (zF zE xh xg (by exact rfl) B.len PySem.boot_len (za (mn 1 .shr) zg)) (mn 2 .shr) (zG _))))))))
noncomputable def ZH:Tn->R Fl:=(zh (zl 3 (eL (fun ds=>.ok (.lst ds)) zb)) (zh (xR (iL jY (z8 (eC (.int 1)) (z8 (eL y1 (z8 (z7 2) zb)) zb))) (.one 4) (zh (zl 5 (eL yg (z8 (eL wa (z8 (z7 0) zb)) (z8 (z7 1) (z8 (z7 2) (z8 (z7 4) zb)))))) (sIf (zf (z9 (eqR true) (z7 5) (eC (.str "")))) (vo 3 (yE (eL (fun ds=>.ok (.tup ds)) (z8 (z7 4) (z8 (z7 5) zb))))) zk))) (zh (sIf (xD (zf (eL (fun ds=>vg (zR ds)) (z8 (eL zV (z8 (z7 0) (z8 (z7 1) (z8 (z7 2) zb)))) (z8 (z7 3) (z8 (eL y1 (z8 (z7 3) zb)) zb)))))) (zo (eC (.bl false))) zk) (zh (zl 6 (z9 zB (yi [none,none] (yR (z7 3)) (.many [0,1]) (fun _=>.ok true) (yE (z7 0))) (eL (fun ds=>.ok (.lst ds)) (z8 (eL y1 (z8 (z7 2) zb)) zb)))) (zh (zl 7 (z9 zB (eL (fun ds=>.ok (.lst ds)) (z8 (eC (.int 0)) zb)) (eSl (z7 6) yN (zO (eUn JM (eC (.int 1))))))) (zh (zl 8 (z9 zB (yi [none,none] (yR (z7 3)) (.many [0,1]) (fun _=>.ok true) (yE (z7 1))) (eL (fun ds=>.ok (.lst ds)) (z8 (eC (.str "blank")) zb)))) (zh (zl 9 (yi [none,some 2,some 8,some 7,some 6] (iL xP (z8 (eL y1 (z8 (z7 6) zb)) zb)) (.one 0) (fun _=>.ok true) (yE (eL (fun ds=>.ok (.tup ds)) (z8 (eSl (z7 1) (zO (z9 ixD (z7 3) (z7 0))) (zO (z9 ixD (z7 4) (z7 0)))) (z8 (z9 ixD (z7 2) (z7 0)) zb)))))) (zo (xM (eL (fun ds=>vg (zR ds)) (z8 (eL xq (z8 (z7 0) (z8 (z7 1) (z8 (z7 2) zb)))) (z8 (z7 9) (z8 (z9 zB (eL y1 (z8 (z7 3) zb)) (eC (.int 1))) zb)))) (z9 (eqR false) (eL zV (z8 (z7 0) (z8 (z7 1) (z8 (z7 2) zb)))) (z7 3)))))))))))
noncomputable def yh:List D->R D:=zw 10 ZH
theorem sc__law_good:FnScope ["_law_book_here","_law_rules_here","_law_word_here","_law_due","_law_place","_law_join_here","_law_ends","_law_begins","_law_joins","_law_texts"] ["_law_book_here","_law_rules_here","_law_word_here"] (defScope (top 48)):=⟨rfl,rfl,rfl,by decide +kernel,rfl,by decide +kernel,by decide +kernel⟩
theorem ZG (Df:DefIn K mg "_law_good" (top 48) ["_law_book_here","_law_rules_here","_law_word_here"])(B:Bl mg)(G:Gl0 K mg)(Cl:Cls K mg)(O__law_join:Own P w K mg base "_law_join" 4 ["_law_book_here","_law_rules_here","_law_word_here","_law_place"] (spM K yg 4))(O__law_pairs:Own P w K mg base "_law_pairs" 1 ["_law_found","_law_due","_law_size"] (spO K zR 3))(O_places:Own P w K mg base "places" 6 ["book","rules","word"] (spM K zV 3))(O_parted:Own P w K mg base "parted" 7 ["book","rules","word"] (spM K xq 3)):Own P w K mg base "_law_good" 8 ["_law_book_here","_law_rules_here","_law_word_here"] (spM K yh 3) :=
 Df.mir (k:=7) (Γ':=[.shr,.shr,.shr,.dead,.dead,.dead,.dead,.dead,.dead,.dead]) sc__law_good (by decide) fun f cdv A outer s H E hr=>(zd (L2.st 3 sc__law_good.nd (zc (xI zg))) (zd (jl (Γ2:=[.shr,.shr,.shr,.own,.shr,.own,.dead,.dead,.dead,.dead]) PassesOwn.leaving rfl (kD rfl B.range (za ze (za (zF zE xh xg (by exact rfl) B.len PySem.boot_len (za (mn 2 .shr) zg)) zg))) (by decide) (xA (pgn 4 sc__law_good.nd)) (by decide) (zd (L2.st 5 sc__law_good.nd (zc (zr (O__law_join.mono (by decide)) hr (by exact rfl) zi (za (qo uP W9 Wz (by exact rfl) B.list Boot.«list» (za (mn 0 .shr) zg)) (za (mn 1 .shr) (za (mn 2 .shr) (za (mn 4 .shr) zg))))))) (zm (yK (zI (vL hr.u12) u9 uc (mn 5 .own) zC (zG _)) (zm (app 3 (zc (yY (wo (za (mn 4 .shr) (za (mn 5 .own) zg))))))) zN))) rfl) (zd (yK (wU (xp (YF (O__law_pairs.mono (by decide)) hr (by exact rfl) zi (zr (O_places.mono (by decide)) hr (by exact rfl) zi (za (mn 0 .shr) (za (mn 1 .shr) (za (mn 2 .shr) zg)))) (za (mn 3 .shr) (za (zF zE xh xg (by exact rfl) B.len PySem.boot_len (za (mn 3 .shr) zg)) zg)) (by decide)))) (zm (zA (zc vh))) zN) (zd (L2.st 6 sc__law_good.nd (zc (zj zz zU zY (wD (N':=["_law_place","_law_join_here"]) (fr:=[none,none]) rfl (xV sc__law_good.nofree (by decide +kernel)) (wQ (mn 3 .own)) (fun _ _ _ _=>(qZ rfl (w6 (pgn 0 (show List.Nodup (["_law_place","_law_join_here"]:List Str) from by decide +kernel)) (w6 (pgn 1 (show List.Nodup (["_law_place","_law_join_here"]:List Str) from by decide +kernel)) j9)))) (fun _ _ _ _=>vy) (fun _ _ _ _=>(yY (mn 0 .brw))) (by decide) (by decide)) (xI (za (zF zE xh xg (by exact rfl) B.len PySem.boot_len (za (mn 2 .shr) zg)) zg))))) (zd (L2.st 7 sc__law_good.nd (zc (zj zz zU zY (xI (za ze zg)) (wV (mn 6 .own) xY (yH (z02 ze)))))) (zd (L2.st 8 sc__law_good.nd (zc (zj zz zU zY (wD (N':=["_law_place","_law_join_here"]) (fr:=[none,none]) rfl (xV sc__law_good.nofree (by decide +kernel)) (wQ (mn 3 .own)) (fun _ _ _ _=>(qZ rfl (w6 (pgn 0 (show List.Nodup (["_law_place","_law_join_here"]:List Str) from by decide +kernel)) (w6 (pgn 1 (show List.Nodup (["_law_place","_law_join_here"]:List Str) from by decide +kernel)) j9)))) (fun _ _ _ _=>vy) (fun _ _ _ _=>(yY (mn 1 .brw))) (by decide) (by decide)) (xI (za zC zg))))) (zd (stC 9 (N':=["_law_k","_law_word_here","_law_joins","_law_begins","_law_ends"]) (fr:=[none,some 2,some 8,some 7,some 6]) sc__law_good.nd rfl (xV sc__law_good.nofree (by decide +kernel)) (xW rfl B.range (za (zF zE xh xg (by exact rfl) B.len PySem.boot_len (za (mn 6 .own) zg)) zg)) (fun _ _ _ _=>(xA (pgn 0 (show List.Nodup (["_law_k","_law_word_here","_law_joins","_law_begins","_law_ends"]:List Str) from by decide +kernel)))) (fun _ _ _ _=>vy) (fun _ _ _ _=>(yY (wo (za (wV (mn 1 .shr) (yH (yr hr.u1 (mn 3 .brw) (mn 0 .shr))) (yH (yr hr.u1 (mn 4 .brw) (mn 0 .shr)))) (za (yr hr.u1 (mn 2 .brw) (mn 0 .shr)) zg))))) (by decide)) (zm (zA (zc (vG (YF (O__law_pairs.mono (by decide)) hr (by exact rfl) zi (zr (O_parted.mono (by decide)) hr (by exact rfl) zi (za (mn 0 .shr) (za (mn 1 .shr) (za (mn 2 .shr) zg)))) (za (mn 9 .shr) (za (zj zz zU zY (zF zE xh xg (by exact rfl) B.len PySem.boot_len (za (mn 3 .shr) zg)) ze) zg)) (by decide)) (uq (wc (xf hr.u12) u9 uc (zr (O_places.mono (by decide)) hr (by exact rfl) zi (za (mn 0 .shr) (za (mn 1 .shr) (za (mn 2 .shr) zg)))) (mn 3 .own) (zG _))))))))))))))
theorem qX:(["_law_book_here","_law_rules_here","_law_thing","_law_told","_law_error"]:List Str).Nodup:=by decide +kernel
theorem jZ:FnScope ["_law_error"] ["_law_error"] (defScope (top 49)):=⟨rfl,rfl,rfl,by decide +kernel,rfl,by decide +kernel,by decide +kernel⟩
noncomputable def zQ:Str->Option Int:=fun m=>if m="BadWord" then some 1 else none
noncomputable def wB:List Stmt:=match defBody (top 50) with
 | [_,.Try _ [.ExceptHandler _ _ b _] _ _ _,_,_]=>b
 | _=>[]
noncomputable def wK:List Stmt:=match defBody (top 50) with
 | [_,_,.Try _ [.ExceptHandler _ _ b _] _ _ _,_]=>b
 | _=>[]
noncomputable abbrev cxR (P:Program)(w:World)(K:PySem.W.Frag)(mg:Str->Option Value)(base:Heap)(f:Addr)(cdv:Value)(A:Around)(outer:List Env)(s:Shared)(H:Hp)(E:XK):Cx:=yX (cxx P w) P w K mg base ["_law_book_here","_law_rules_here","_law_thing","_law_told","_law_error"] "_law_refused" (defScope (top 50)) f cdv A outer s H E
theorem qN (Cl:Cls K mg)(B:Bl mg){e:Addr}{oe:Obj}{C:Addr}(hC:ErrC K "BadWord" C)(hcls:oe.cls=.ref C)(f:Addr)(cdv:Value)(A:Around)(outer:List Env)(s:Shared)(H:Hp)(Q:VK)(h:∀ H',Same H H'->Q (.bl true) H') :
  ∃ t,PSs ((yX (cxx P w) P w K mg base ["_law_error"] "_law_class" (defScope (top 49)) f cdv A outer s H (fun _ _ _=>False)).errd e oe) (defBody (top 49)) t/\t { nx:=fun _ H'=>Q .non H',rt:=Q } (start ["_law_error"] [.ref e]) H:=by
 obtain ⟨CS,CT,c1,c2,c3,c4,c5,c6,c7,c8,c9,hS,eT,iT,mT,kV,xS,⟨m1,k1⟩,⟨m2,k2⟩,⟨m3,k3⟩,⟨m4,k4⟩,⟨m5,k5⟩,⟨m6,k6⟩,⟨m7,k7⟩,⟨m8,k8⟩,⟨m9,k9⟩⟩:=Cl.ex
 have hCT:C=CT:=by
  have h1:PySem.W.nsIn K mainGlobals "BadWord"=some (some (.ref C)):=hC.ns
  rw [eT.ns] at h1
  cases h1
  rfl
 subst hCT
 refine ⟨_,jL (W3 (Xb (vK (x:="isinstance") ko rfl B.isinstance Boot.«isinstance» (zX (pv 0) (zX (YK (zX (xv (v:=.ref c1) rfl m1 rfl) (zX (xv (v:=.ref c2) rfl m2 rfl) (zX (xv (v:=.ref c3) rfl m3 rfl) (zX (xv (v:=.ref c4) rfl m4 rfl) (zX (xv (v:=.ref c5) rfl m5 rfl) (zX (xv (v:=.ref c6) rfl m6 rfl) wj))))))) wj)))) (vp (jk VT)) j5)
  (jL (W3 (Xb (vK (x:="isinstance") ko rfl B.isinstance Boot.«isinstance» (zX (pv 0) (zX (YK (zX (xv (v:=.ref c7) rfl m7 rfl) (zX (xv (v:=.ref c8) rfl m8 rfl) (zX (xv (v:=.ref c9) rfl m9 rfl) wj)))) wj)))) (vp (jk VT)) j5)
  (vp (jk (Uj (Um rfl B.isinstance (pv 0) (xv (v:=.ref C) rfl mT rfl)) (UB (Um rfl B.isinstance (pv 0) (vz (v:=.ty "ValueError") rfl Cl.ve Boot.«ValueError» rfl))))))),?_⟩
 have q1:PySem.W.kitAny K (.ref C) [.ref c1,.ref c2,.ref c3,.ref c4,.ref c5,.ref c6]=some false:=by simp only [PySem.W.kitAny,k1,k2,k3,k4,k5,k6]
 have q2:PySem.W.kitAny K (.ref C) [.ref c7,.ref c8,.ref c9]=some false:=by simp only [PySem.W.kitAny,k7,k8,k9]
 have q3:PySem.W.kitOne K (.ref C) (.ref C)=some true:=by unfold PySem.W.kitOne; rw [if_pos (by simp)]
 have mem:(e,oe)∈((yX (cxx P w) P w K mg base ["_law_error"] "_law_class" (defScope (top 49)) f cdv A outer s H (fun _ _ _=>False)).errd e oe).pn:=List.mem_singleton.mpr rfl
 refine ⟨_,rfl,by show 6<=sizeLine; decide,fun p hp=>⟨e,oe,C,p,_,_,false,rfl,mem,hcls,iT,SqT.of zK,.cons (.ref _) (.cons (.ref _) (.cons (.ref _) (.cons (.ref _) (.cons (.ref _) (.cons (.ref _) .nil))))),q1,?_⟩⟩
 refine ⟨_,rfl,z0c ⟨_,rfl,by show 3<=sizeLine; decide,fun p2 hp2=>⟨e,oe,C,p2,_,_,false,rfl,mem,hcls,iT,SqT.of zK,.cons (.ref _) (.cons (.ref _) (.cons (.ref _) .nil)),q2,?_⟩⟩⟩
 refine ⟨_,rfl,z0c ⟨_,rfl,_,_,_,_,_,rfl,.exc mem hcls iT,.ref _,q3,true,rfl,z1S ⟨_,rfl,_,_,_,_,_,rfl,.exc mem hcls iT,.ty _,kV,?_⟩⟩⟩
 exact h _ ((Same.new hp).trans (Same.new hp2))
theorem Jq:∃ p1 p2 p3 p4 p5 p6 p7 p8 p9,wB=[.Assign [.Name "_law_told" p1] (.BinOp (.Name "_law_told" p2) .Add (.Call (.Name "int" p3) [.Call (.Name "_law_class" p4) [.Name "_law_error" p5] [] p6] [] p7) p8) p9]:=⟨_,_,_,_,_,_,_,_,_,rfl⟩
theorem JO:∃ p1 p2 p3 p4 p5 p6 p7 p8 p9,wK=[.Assign [.Name "_law_told" p1] (.BinOp (.Name "_law_told" p2) .Add (.Call (.Name "int" p3) [.Call (.Name "_law_class" p4) [.Name "_law_error" p5] [] p6] [] p7) p8) p9]:=⟨_,_,_,_,_,_,_,_,_,rfl⟩
theorem z1d {X:Cx}{CS:Addr}{i j:Nat}{sts:List Stmt}{g:Str->Option Int}(hx:∀ (m:Str) (k:Int),g m=some k->∀ C,ErrC X.K m C->PySem.W.exmOne X.K (.ref C) (.ref CS)=some true)
  (h:∀ (m:Str) (k:Int),g m=some k->∀ C,ErrC X.K m C->∀ e oe (Z:Ends) (σ:L2.St) (H:Hp) (n:Int),σ.length=X.N.length->oe.cls=.ref C->H e=none->σ[i]?=some (some (.ref e))->σ[j]?=some (some (.int n))->(∀ H',Same H H'->Z.nx (σ.set j (some (.int (n+k)))) H')->∃ T,PSs (X.within e oe) sts T/\T Z σ H):SuiteA X CS i j sts g:=by
 intro m k hg C hC
 refine ⟨hx m k hg C hC,fun e oe Z σ H=>∃ T,PSs (X.within e oe) sts T/\T Z σ H,fun e oe pins s σ H Z I z=>?_,fun e oe Z σ H n h1 h2 h3 h4 h5 h6=>h m k hg C hC e oe Z σ H n h1 h2 h3 h4 h5 h6⟩
 obtain ⟨T,hT,z⟩:=z
 exact hT pins s σ H Z I z
theorem VZ (Cl:Cls K mg)(B:Bl mg)(Dc:DefIn K mg "_law_class" (top 49) ["_law_error"])(f:Addr)(cdv:Value)(A:Around)(outer:List Env)(s:Shared)(H:Hp)(E:XK)(hr:Room 7 (A.deeper (envOfC "_law_refused" (defScope (top 50)) s.heap.objs.size f cdv))){sts:List Stmt}
  (hsts:∃ p1 p2 p3 p4 p5 p6 p7 p8 p9,sts=[.Assign [.Name "_law_told" p1] (.BinOp (.Name "_law_told" p2) .Add (.Call (.Name "int" p3) [.Call (.Name "_law_class" p4) [.Name "_law_error" p5] [] p6] [] p7) p8) p9]) :
  ∃ CS,(cxR P w K mg base f cdv A outer s H E).mg "SetError"=some (.ref CS)/\SuiteA (cxR P w K mg base f cdv A outer s H E) CS 4 3 sts zQ:=by
 obtain ⟨CS,CT,c1,c2,c3,c4,c5,c6,c7,c8,c9,hS,eT,iT,mT,kV,xS,z⟩:=Cl.ex
 clear z
 obtain ⟨p1,p2,p3,p4,p5,p6,p7,p8,p9,rfl⟩:=hsts
 refine ⟨CS,hS,?_⟩
 have hm:∀ (m:Str) (k:Int),zQ m=some k->m="BadWord"/\k=1:=by
  intro m k hg
  unfold zQ at hg
  split at hg
  ·exact ⟨by assumption,(Option.some.inj hg).symm⟩
  ·cases hg
 have hCT:∀ C,ErrC K "BadWord" C->C=CT:=by
  intro C hC
  have h1:PySem.W.nsIn K mainGlobals "BadWord"=some (some (.ref C)):=hC.ns
  rw [eT.ns] at h1
  cases h1
  rfl
 refine z1d (fun m k hg C hC=>?_) fun m k hg C hC e oe Z σ H1 n hl hcls hn h4 h3 hz=>?_
 ·obtain ⟨rfl,rfl⟩:=hm m k hg
  rw [hCT C hC]
  exact xS
 obtain ⟨rfl,rfl⟩:=hm m k hg
 have mem:(e,oe)∈((cxR P w K mg base f cdv A outer s H E).within e oe).pn:=List.mem_append_right _ (List.mem_singleton.mpr rfl)
 have hloc:∀ b∈frs ((cxR P w K mg base f cdv A outer s H E).within e oe).stack,b=((cxR P w K mg base f cdv A outer s H E).within e oe).env.locals\/b∈((cxR P w K mg base f cdv A outer s H E).within e oe).fs:=by
  intro b hb
  have hb:b∈frs ((cxR P w K mg base f cdv A outer s H E).env::outer):=hb
  unfold frs at hb
  rw [List.filterMap_cons] at hb
  rcases List.mem_cons.mp hb with q | q
  ·exact .inl q
  ·exact .inr q
 refine ⟨_,vp (YM (i:=3) qX rfl (Or.inl rfl) (Ky Q9 (pv 3) (ky (x:="int") WU rfl B.int Boot.«int» (zX (YW (X:=(cxR P w K mg base f cdv A outer s H E).within e oe) (b:=true) Dc jZ rfl hr.depth mem hloc (fun f2 cd2 A2 o2 s2 H2 Q2 h2=>qN Cl B hC hcls f2 cd2 A2 o2 s2 H2 Q2 h2) (pv 4)) wj)))),?_⟩
 have hl5:σ.length=5:=hl
 clear hl
 revert h4 h3 hz
 revert hl5
 revert σ
 refine bd5 (fun s0 s1 s2 s3 s4 h4 h3 hz=>?_)
 have e4:s4=some (.ref e):=Option.some.inj h4
 have e3:s3=some (.int n):=Option.some.inj h3
 subst e4
 subst e3
 refine ⟨_,rfl,_,rfl,rfl,fun H2 hs2=>.inr ⟨true,rfl,_,_,rfl,rfl,?_⟩⟩
 exact hz _ hs2
theorem u7 (Cl:Cls K mg)(B:Bl mg)(Dc:DefIn K mg "_law_class" (top 49) ["_law_error"])(f:Addr)(cdv:Value)(A:Around)(outer:List Env)(s:Shared)(H:Hp)(E:XK)(hr:Room 7 (A.deeper (envOfC "_law_refused" (defScope (top 50)) s.heap.objs.size f cdv))) :
  ∃ CS,(cxR P w K mg base f cdv A outer s H E).mg "SetError"=some (.ref CS)/\SuiteA (cxR P w K mg base f cdv A outer s H E) CS 4 3 wB zQ:=VZ Cl B Dc f cdv A outer s H E hr Jq
theorem ub (Cl:Cls K mg)(B:Bl mg)(Dc:DefIn K mg "_law_class" (top 49) ["_law_error"])(f:Addr)(cdv:Value)(A:Around)(outer:List Env)(s:Shared)(H:Hp)(E:XK)(hr:Room 7 (A.deeper (envOfC "_law_refused" (defScope (top 50)) s.heap.objs.size f cdv))) :
  ∃ CS,(cxR P w K mg base f cdv A outer s H E).mg "SetError"=some (.ref CS)/\SuiteA (cxR P w K mg base f cdv A outer s H E) CS 4 3 wK zQ:=VZ Cl B Dc f cdv A outer s H E hr JO
noncomputable def wq:Tn->R Fl:=(zh (zl 3 (eC (.int 0))) (zh (uU zV (z8 (z7 0) (z8 (z7 1) (z8 (z7 2) zb))) 3 zQ) (zh (uU xq (z8 (z7 0) (z8 (z7 1) (z8 (z7 2) zb))) 3 zQ) (zo (xM (z9 (eqR false) (z7 3) (eC (.int 2))) (z9 (isB false) (eL zx (z8 (z7 2) zb)) (eC (.bl false))))))))
noncomputable def yJ:List D->R D:=zw 5 wq
theorem sc__law_refused:FnScope ["_law_book_here","_law_rules_here","_law_thing","_law_told","_law_error"] ["_law_book_here","_law_rules_here","_law_thing"] (defScope (top 50)):=⟨rfl,rfl,rfl,by decide +kernel,rfl,by decide +kernel,by decide +kernel⟩
theorem qT (Df:DefIn K mg "_law_refused" (top 50) ["_law_book_here","_law_rules_here","_law_thing"])(B:Bl mg)(G:Gl0 K mg)(Cl:Cls K mg)(O_places:Own P w K mg base "places" 6 ["book","rules","word"] (spM K zV 3))(O_parted:Own P w K mg base "parted" 7 ["book","rules","word"] (spM K xq 3))(O_is_word:Own P w K mg base "is_word" 2 ["thing"] (spM K zx 1))(Dc__law_class:DefIn K mg "_law_class" (top 49) ["_law_error"]):Own P w K mg base "_law_refused" 8 ["_law_book_here","_law_rules_here","_law_thing"] (spM K yJ 3) :=
 Df.mir (k:=7) (Γ':=[.shr,.shr,.shr,.dead,.dead]) sc__law_refused (by decide) fun f cdv A outer s H E hr=>(zd (L2.st 3 sc__law_refused.nd (zc ze)) (zd (Y4 (i:=4) (j:=3) (O_places.mono (by decide)) sc__law_refused.nd hr rfl (za (mn 0 .shr) (za (mn 1 .shr) (za (mn 2 .shr) zg))) rfl rfl rfl (show 4<5 by decide) rfl (by decide) rfl rfl (u7 Cl B Dc__law_class f cdv A outer s H E hr)) (zd (Y4 (i:=4) (j:=3) (O_parted.mono (by decide)) sc__law_refused.nd hr rfl (za (mn 0 .shr) (za (mn 1 .shr) (za (mn 2 .shr) zg))) rfl rfl rfl (show 4<5 by decide) rfl (by decide) rfl rfl (ub Cl B Dc__law_class f cdv A outer s H E hr)) (zm (zA (zc (vG (wc (xf hr.u12) u9 uc (mn 3 .own) ze (zG _)) (uq (wc z0U z2H KG (zr (O_is_word.mono (by decide)) hr (by exact rfl) zi (za (mn 2 .shr) zg)) vh (zG _))))))))))
noncomputable def jA:Tn->R Fl:=(zh (zl 2 (eL (fun ds=>.ok (.lst ds)) (z8 (eC (.str "")) (z8 (eC .non) (z8 (eC (.int 5)) (z8 (eC (.bl true)) (z8 (eC (.bl false)) (z8 (eL (fun ds=>.ok (.lst ds)) (z8 (yE (z7 0)) zb)) (z8 (eL (fun ds=>.ok (.tup ds)) (z8 (yE (z7 0)) zb)) (z8 (z9 zB (z7 0) (z9 uX (eC (.str "a")) (z9 xH (eC (.int 41)) (eL y1 (z8 (yE (z7 0)) zb))))) (z8 (eC (.dic [] [])) (z8 (z9 uX (eC (.str "a")) (eC (.int 41))) zb)))))))))))) (zh (zl 3 (z9 zu (z9 zt (z7 1) (eC (.int 22))) (z9 zB (eL y1 (z8 (yE (z7 0)) zb)) (eC (.int 1))))) (zh (sIf (zf (z9 ltD (z9 zu (z7 1) (eC (.int 22))) (eC (.int 10)))) (zo (z9 ixL (z7 2) (z9 zu (z7 1) (eC (.int 22))))) zk) (zo (z9 zB (z9 zB (eSl (z7 0) yN (zO (z7 3))) (z9 ixD (eC (.str " \n	{}|=~_+*#")) (z9 xH (z9 zu (z7 1) (eC (.int 22))) (eC (.int 10))))) (eSl (z7 0) (zO (z7 3)) yN))))))
noncomputable def yw:List D->R D:=zw 4 jA
theorem sc__law_no_word:FnScope ["_law_word_here","_law_number_here","_law_odd","_law_at"] ["_law_word_here","_law_number_here"] (defScope (top 51)):=⟨rfl,rfl,rfl,by decide +kernel,rfl,by decide +kernel,by decide +kernel⟩
theorem qY (Df:DefIn K mg "_law_no_word" (top 51) ["_law_word_here","_law_number_here"])(B:Bl mg)(G:Gl0 K mg)(Cl:Cls K mg) :Own P w K mg base "_law_no_word" 1 ["_law_word_here","_law_number_here"] (spM K yw 2) :=
 Df.mir (k:=0) (Γ':=[.shr,.shr,.dead,.dead]) sc__law_no_word (by decide) fun f cdv A outer s H E hr=>(zd (L2.st 2 sc__law_no_word.nd (zc (xI (za zC (za uv (za ze (za vh (za vh (za (xI (za (yY (mn 0 .shr)) zg)) (za (wo (za (yY (mn 0 .shr)) zg)) (za (zj zz zU zY (mn 0 .shr) (zj Wg Vq UH zC (zj xx wx zp ze (zF zE xh xg (by exact rfl) B.len PySem.boot_len (za (yY (mn 0 .shr)) zg))))) (za UY (za (zj Wg Vq UH zC ze) zg))))))))))))) (zd (L2.st 3 sc__law_no_word.nd (zc (zj zH zZ zp (zj zS ym zp (mn 1 .shr) ze) (zj zz zU zY (zF zE xh xg (by exact rfl) B.len PySem.boot_len (za (yY (mn 0 .shr)) zg)) ze)))) (zd (yK (zI wX qt zp (zj zH zZ zp (mn 1 .shr) ze) ze (zG _)) (zm (zA (z0E 2 (zj zH zZ zp (mn 1 .shr) ze) (fun _ _=>rfl)))) zN) (zm (zA (zc (zj zz zU zY (zj zz zU zY (wV (mn 0 .shr) xY (yH (mn 3 .own))) (yr hr.u1 zC (zj xx wx zp (zj zH zZ zp (mn 1 .shr) ze) ze))) (wV (mn 0 .shr) (yH (mn 3 .own)) xY))))))))
noncomputable def KH:Tn->R Fl:=(zh (zl 1 (eL xi (z8 (z7 0) (z8 (eC (.int 0)) zb)))) (zh (zl 2 (eL xj (z8 (z7 0) (z8 (eC (.int 9)) (z8 (z7 1) zb))))) (zh (zl 3 (eL yU (z8 (z7 0) (z8 (eC (.int 17)) zb)))) (zh (zl 4 (eL wa (z8 (z7 2) zb))) (zh (zl 5 (eL vB (z8 (z7 3) zb))) (zh (sIf (bOr (zf (z9 (isB true) (eL zx (z8 (z7 1) zb)) (eC (.bl true)))) (bOr (xD (zf (eL yh (z8 (z7 4) (z8 (z7 5) (z8 (z7 1) zb)))))) (bOr (zf (z9 (eqR true) (z7 4) (z7 2))) (zf (z9 (eqR true) (z7 5) (z7 3)))))) (zo (eC (.bl false))) zk) (zh (sIf (zf (z9 gtD (eL y1 (z8 (z7 4) zb)) (eC (.int 0)))) (kC 4) zk) (zh (w8 5 (eC (.int 1)) (eC (.str "ahead"))) (zh (w8 5 (eC (.int 1)) (eC (.str "behind"))) (zh (sIf (xD (zf (eL yh (z8 (z7 4) (z8 (z7 5) (z8 (z7 1) zb)))))) (zo (eC (.bl false))) zk) (zo (eL yJ (z8 (z7 4) (z8 (z7 5) (z8 (eL yw (z8 (z7 1) (z8 (eL zq (z8 (z7 0) (z8 (eC (.int 18)) zb))) zb))) zb)))))))))))))))
noncomputable def F_law:List D->R D:=zw 6 KH
theorem sc_law:FnScope ["_law_script","_law_word_here","_law_book_here","_law_rules_here","_law_handed","_law_given"] ["_law_script"] (defScope (top 52)):=⟨rfl,rfl,rfl,by decide +kernel,rfl,by decide +kernel,by decide +kernel⟩
theorem VS (B:Bl mg)(G:Gl0 K mg)(Cl:Cls K mg)(O__law_word:Own P w K mg base "_law_word" 2 ["_law_script","_law_k"] (spM K xi 2))(O__law_book:Own P w K mg base "_law_book" 4 ["_law_script","_law_k","_law_word_here"] (spM K xj 3))(O__law_rules:Own P w K mg base "_law_rules" 2 ["_law_script","_law_k"] (spM K yU 2))(O__law_refused:Own P w K mg base "_law_refused" 8 ["_law_book_here","_law_rules_here","_law_thing"] (spM K yJ 3))(O__law_good:Own P w K mg base "_law_good" 8 ["_law_book_here","_law_rules_here","_law_word_here"] (spM K yh 3))(O__law_no_word:Own P w K mg base "_law_no_word" 1 ["_law_word_here","_law_number_here"] (spM K yw 2))(O_is_word:Own P w K mg base "is_word" 2 ["thing"] (spM K zx 1))(O__law_number:Own P w K mg base "_law_number" 1 ["_law_script","_law_k"] (spM K zq 2)):∀ (f:Addr) (cdv:Value) (A:Around) (outer:List Env) (s:Shared) (H:Hp) (E:XK),Room 8 (A.deeper (envOfC "law" (defScope (top 52)) s.heap.objs.size f cdv))->MSs (yX (cxx P w) P w K mg base ["_law_script","_law_word_here","_law_book_here","_law_rules_here","_law_handed","_law_given"] "law" (defScope (top 52)) f cdv A outer s H E) E [] (vJ 6 1) (defBody (top 52)) KH [.shr,.dead,.dead,.dead,.dead,.dead] :=
 fun f cdv A outer s H E hr=>(zd (L2.st 1 sc_law.nd (zc (zr (O__law_word.mono (by decide)) hr (by exact rfl) zi (za (mn 0 .shr) (za ze zg))))) (zd (L2.st 2 sc_law.nd (zc (zr (O__law_book.mono (by decide)) hr (by exact rfl) zi (za (mn 0 .shr) (za ze (za (mn 1 .own) zg)))))) (zd (L2.st 3 sc_law.nd (zc (zr (O__law_rules.mono (by decide)) hr (by exact rfl) zi (za (mn 0 .shr) (za ze zg))))) (zd (L2.st 4 sc_law.nd (zc (qo uP W9 Wz (by exact rfl) B.list Boot.«list» (za (mn 2 .own) zg)))) (zd (L2.st 5 sc_law.nd (zc (qo (Xr (by exact rfl)) JR QG (by exact rfl) B.dict Boot.«dict» (za (mn 3 .own) zg)))) (zd (yK (MW.mt (ue (zI JL z0I KG (zr (O_is_word.mono (by decide)) hr (by exact rfl) zi (za (mn 1 .own) zg)) vh (zG _)) (ue (wU (xp (zr (O__law_good.mono (by decide)) hr (by exact rfl) zi (za (mn 4 .own) (za (mn 5 .own) (za (mn 1 .own) zg)))))) (ue (zI (vL hr.u12) u9 uc (mn 4 .own) (mn 2 .own) (zG _)) (uu (zI (vL hr.u12) u9 uc (mn 5 .own) (mn 3 .own) (zG _))))))) (zm (zA (zc vh))) zN) (zd (yK (zI Kk z2F zp (zF zE xh xg (by exact rfl) B.len PySem.boot_len (za (mn 4 .own) zg)) ze (zG _)) (zm (z2S 4)) zN) (zd (Vc 5 hr.u1 (zc ze) zC) (zd (Vc 5 hr.u1 (zc ze) zC) (zd (yK (wU (xp (zr (O__law_good.mono (by decide)) hr (by exact rfl) zi (za (mn 4 .own) (za (mn 5 .own) (za (mn 1 .own) zg)))))) (zm (zA (zc vh))) zN) (zm (zA (zc (zr (O__law_refused.mono (by decide)) hr (by exact rfl) zi (za (mn 4 .own) (za (mn 5 .own) (za (zr (O__law_no_word.mono (by decide)) hr (by exact rfl) zi (za (mn 1 .own) (za (zr (O__law_number.mono (by decide)) hr (by exact rfl) zi (za (mn 0 .shr) (za ze zg))) zg))) zg)))))))))))))))))
end
end K05
set_option maxRecDepth 100000
set_option maxHeartbeats 4000000
namespace K05
open PySem PyProof.Rows L2
noncomputable def bW:Tn->R Fl:=(zh (zl 2 (z9 zB (eL zq (z8 (z7 0) (z8 (z9 zB (z9 zB (z7 1) (eC (.int 1))) (z9 zu (z7 5) (eC (.int 8)))) zb))) (z9 wz (z9 wz (eC (.int 611)) (z7 5)) (z7 5)))) (vo 4 (eL xF (z8 (z9 zt (z7 2) (eC (.int 5))) zb))))
noncomputable def IFW:Tn->R Fl:=(sIf (zf (z9 (eqR false) (z9 zu (z9 zt (z7 2) (eC (.int 12))) (eC (.int 6))) (eC (.int 1)))) (zl 3 (z9 zB (eC (.int 1)) (z9 zu (z9 zt (z7 2) (eC (.int 72))) (eC (.int 40))))) zk)
noncomputable def TW:Tn->R Fl:=(zh (zl 2 (eL zq (z8 (z7 0) (z8 (z7 1) zb)))) (zh (zl 3 (z9 zB (eC (.int 1)) (z9 zu (z7 2) (eC (.int 12))))) (zh IFW (zh (zl 4 (eL (fun ds=>.ok (.lst ds)) zb)) (zh (xR (iL xP (z8 (z7 3) zb)) (.one 5) bW) (zo (eSm wm (eC (.str "")) (z8 (z7 4) zb))))))))
theorem tW:xi=zw 6 TW:=rfl
noncomputable def S (l:List Nat):Str:=⟨l.toArray⟩
theorem yz (l:List Nat):(S l).length=l.length:=List.size_toArray
theorem uE (l:List Nat):(S l).cps.toList=l:=List.toList_toArray
theorem Wr (z:Str):z=S z.cps.toList:=by
 obtain ⟨a⟩:=z
 show (⟨a⟩:Str)=⟨a.toList.toArray⟩
 rw [Array.toArray_toList]
theorem Y3 (a b:List Nat):S a++S b=S (a++b):=by
 rw [Wr (S a++S b),Wu,uE,uE]
theorem z1R {a b:List Nat}(h:S a=S b):a=b:=by
 have:=congrArg (fun z:Str=>z.cps.toList) h
 rw [uE,uE] at this
 exact this
theorem z2d (a b:List Nat):(S a==S b)=decide (a=b):=by
 by_cases h:a=b
 ·subst h; simp
 ·rw [decide_eq_false h]
  exact beq_false_of_ne fun z=>h (z1R z)
theorem Vf (x:Str):∀ ys:List Str,Str.join "" (x::ys)=x++Str.join "" ys
 | []=>(Str.append_empty x).symm
 | y::ys=>by
  show x++""++Str.join "" (y::ys)=x++Str.join "" (y::ys)
  have:(x++("":Str))=x:=Str.append_empty x
  rw [this]
noncomputable def one (c:Nat):Str:=S [c]
theorem YI:∀ cs:List Nat,Str.join "" (cs.map one)=S cs
 | []=>rfl
 | c::cs=>by
  rw [List.map_cons,Vf,YI cs]
  exact Y3 [c] cs
theorem QJ (cs:List Nat):((cs.map one).map (·.length)).sum=cs.length:=by
 induction cs with
 | nil=>rfl
 | cons c cs ih=>rw [List.map_cons,List.map_cons,List.sum_cons,ih,List.length_cons]; show 1+_=_; omega
theorem Zt (cs:List Nat)(h:cs.length<=1000):wm "" [.lst (cs.map fun c=>D.str (one c))]=.ok (.str (S cs)):=by
 have e:(cs.map fun c=>D.str (one c))=(cs.map one).map D.str:=by rw [List.map_map]; rfl
 have e0:Str.length ""=0:=by decide
 rw [e,Qb (by rw [QJ,e0,List.length_map]; omega),YI]
theorem ud {cs:List Nat}{i:Int}{c:Nat}(hl:cs.length<=1000)(h0:0<=i)(h:cs[i.toNat]?=some c):ixD (.str (S cs)) (.int i)=.ok (.str (one c)) :=
 z0B (by rw [yz,sizeLine_eq]; omega) (Zr h0 (by rw [uE]; exact h))
theorem jV {z:Str}{i:Int}{p:Nat->Prop}(hz:z.length<=1000)(h0:0<=i)(h1:i<z.length)(hp:∀ c∈z.cps.toList,p c):∃ c,ixD (.str z) (.int i)=.ok (.str (one c))/\p c:=by
 have hl:z.cps.toList.length=z.length:=by simp [Str.length]
 have hi:i.toNat<z.cps.toList.length:=by omega
 refine ⟨z.cps.toList[i.toNat],?_,hp _ (List.getElem_mem hi)⟩
 have:=ud (cs:=z.cps.toList) (i:=i) (by omega) h0 (List.getElem?_eq_getElem hi)
 rw [<- Wr z] at this
 exact this
theorem qA (ns:List Int)(k:Int)(hk:0<=k)(hl:ns.length<=63):∃ v,zq [.frl (ns.map .int),.int k]=.ok (.int v):=by
 by_cases h:k<(ns.length:Int)
 ·have hm:k.toNat<ns.length:=by omega
  have hix:ixD (.frl (ns.map .int)) (.int k)=.ok (.int ns[k.toNat]):=z0G (Zr hk (by rw [List.getElem?_map,List.getElem?_eq_getElem hm]; rfl))
  have e1:decide (k<(ns.length:Int))=true:=decide_eq_true h
  refine ⟨(ns[k.toNat]+7919*k+17)*48271%2147483647,?_⟩
  generalize ns[k.toNat]=v at *
  simp only [zq,wN,zk,zw,zh,zl,zo,sIf,z7,eC,z9,eL,zb,z8,zf,asB,R.ok_bind,List.map_cons,List.map_nil,List.length_cons,List.length_nil,List.replicate_succ,List.replicate_zero,List.cons_append,List.nil_append,List.getElem?_cons_zero,List.getElem?_cons_succ,List.set_cons_zero,List.set_cons_succ,Nat.reduceAdd,Nat.reduceSub,Nat.zero_add,ya,yy,zD,XU,if_true,Int.reduceLT,Int.reduceNeg,List.length_map,e1,hix,j4,u3]
 ·have e1:decide (k<(ns.length:Int))=false:=decide_eq_false h
  refine ⟨(0+7919*k+17)*48271%2147483647,?_⟩
  simp only [zq,wN,zk,zw,zh,zl,zo,sIf,z7,eC,z9,eL,zb,z8,zf,asB,R.ok_bind,List.map_cons,List.map_nil,List.length_cons,List.length_nil,List.replicate_succ,List.replicate_zero,List.cons_append,List.nil_append,List.getElem?_cons_zero,List.getElem?_cons_succ,List.set_cons_zero,List.set_cons_succ,Nat.reduceAdd,Nat.reduceSub,Nat.zero_add,ya,yy,zD,XU,if_false,Bool.false_eq_true,Int.reduceLT,Int.reduceNeg,List.length_map,e1,j4,u3]
noncomputable abbrev Z1:Str:="aabbcABBAb"
noncomputable abbrev Z2:Str:="abcdefghijklmnopqrstuvwxyzABCDEFGHIJKLMNOPQRSTUVWXYZ0123456789.,;:!?'\"()-/"
noncomputable def okS (c:Nat):Prop:=c∈Z2.cps.toList
theorem z0h:Z1.length=10:=by decide +kernel
theorem z0k:Z2.length=74:=by decide +kernel
theorem z2w:∀ c∈Z1.cps.toList,okS c:=by unfold okS; decide +kernel
theorem okS.lt {c:Nat}(h:okS c):c<128:=by
 have:∀ c∈Z2.cps.toList,c<128:=by decide +kernel
 exact this c h
theorem z2k:∀ c∈Z2.cps.toList,okS c:=fun _ h=>h
theorem z0v (A B:Str)(hA:A.length=10)(hB:B.length=74)(pA:∀ c∈A.cps.toList,okS c)(pB:∀ c∈B.cps.toList,okS c)(n:Int):∃ c,zw 2 (zh (zl 1 (eC (.str B))) (zh (sIf (zf (z9 ltD (z9 zu (z7 0) (eC (.int 16))) (eC (.int 10)))) (zo (z9 ixD (eC (.str A)) (z9 zu (z7 0) (eC (.int 16))))) zk) (zh (sIf (zf (z9 ltD (z9 zu (z7 0) (eC (.int 16))) (eC (.int 13)))) (zo (eC (.str "-"))) zk) (zo (yE (z9 ixD (z7 1) (z9 zu (z9 zt (z7 0) (eC (.int 16))) (eC (.int 74))))))))) [.int n]=.ok (.str (one c))/\okS c:=by
 have m16:zu (.int n) (.int 16)=.ok (.int (n%16)):=zD (by decide)
 by_cases h:n%16<10
 ·obtain ⟨c,e,hc⟩:=jV (z:=A) (i:=n%16) (p:=fun c=>okS c) (by omega) (by omega) (by omega) pA
  have e1:decide (n%16<10)=true:=decide_eq_true h
  refine ⟨c,?_,hc⟩
  generalize n%16=y at *
  simp only [yj,zk,zw,zh,zl,zo,sIf,z7,eC,z9,zf,asB,R.ok_bind,List.map_cons,List.map_nil,List.length_cons,List.length_nil,List.replicate_succ,List.replicate_zero,List.cons_append,List.nil_append,List.getElem?_cons_zero,List.set_cons_zero,List.set_cons_succ,Nat.reduceSub,Nat.zero_add,yy,if_true,m16,e1,e]
 ·have e1:decide (n%16<10)=false:=decide_eq_false h
  by_cases h2:n%16<13
  ·have e2:decide (n%16<13)=true:=decide_eq_true h2
   refine ⟨45,?_,by unfold okS; decide +kernel⟩
   show _=R.ok (D.str "-")
   generalize n%16=y at *
   simp only [yj,zk,zw,zh,zl,zo,sIf,z7,eC,z9,zf,asB,R.ok_bind,List.map_cons,List.map_nil,List.length_cons,List.length_nil,List.replicate_succ,List.replicate_zero,List.cons_append,List.nil_append,List.getElem?_cons_zero,List.set_cons_zero,List.set_cons_succ,Nat.reduceSub,Nat.zero_add,yy,if_true,if_false,Bool.false_eq_true,m16,e1,e2]
  ·have e2:decide (n%16<13)=false:=decide_eq_false h2
   have d16:zt (.int n) (.int 16)=.ok (.int (n/16)):=zJ (by decide) (by decide)
   have m74:zu (.int (n/16)) (.int 74)=.ok (.int (n/16%74)):=zD (by decide)
   obtain ⟨c,e,hc⟩:=jV (z:=B) (i:=n/16%74) (p:=fun c=>okS c) (by omega) (by omega) (by omega) pB
   refine ⟨c,?_,hc⟩
   generalize n%16=y at *
   generalize n/16%74=y2 at *
   simp only [yj,u4,zk,zw,zh,zl,zo,sIf,z7,eC,z9,zf,asB,R.ok_bind,List.map_cons,List.map_nil,List.length_cons,List.length_nil,List.replicate_succ,List.replicate_zero,List.cons_append,List.nil_append,List.getElem?_cons_zero,List.getElem?_cons_succ,List.set_cons_zero,List.set_cons_succ,Nat.reduceSub,Nat.zero_add,yy,if_false,Bool.false_eq_true,m16,e1,e2,d16,m74,e]
theorem z3a (n:Int):∃ c,xF [.int n]=.ok (.str (one c))/\okS c:=z0v Z1 Z2 z0h z0k z2w z2k n
theorem z1H (S0:D)(v j:Int)(L:List D)(x2 x3:Option D)(c:D)(h1:zq [S0,.int (0+1+j%8)]=.ok (.int v))(h2:xF [.int ((v+611*j*j)/5)]=.ok c)(hL:L.length<16777216)(j0:0<=j)(j1:j<100) :
  bW [some S0,some (.int 0),x2,x3,some (.lst L),some (.int j)]=.ok (.nx [some S0,some (.int 0),some (.int (v+611*j*j)),x3,some (.lst (L++[c])),some (.int j)]):=by
 have b0:-18446744073709551616<j:=by omega
 have b1:j<18446744073709551616:=by omega
 have d5:zt (.int (v+611*j*j)) (.int 5)=.ok (.int ((v+611*j*j)/5)):=zJ (by decide) (by decide)
 have m8:zu (.int j) (.int 8)=.ok (.int (j%8)):=zD (by decide)
 have e1:(0:Int)+1=1:=rfl
 rw [e1] at h1
 simp only [bW,wC,vq,vx,zh,zl,z7,eC,z9,eL,zb,z8,R.ok_bind,List.getElem?_cons_zero,List.getElem?_cons_succ,List.set_cons_zero,List.set_cons_succ,ya,m8,e1,h1,u3 b0 b1,d5,h2,hL]
theorem z2g (ns:List Int)(hl:ns.length<=63)(m:Nat)(hm:m<=40)(x2 x3 x5:Option D):∃ (cs:List Nat) (y2 y5:Option D),cs.length=m/\(∀ c∈cs,okS c) /\
  yO (Tgt.one 5).asg bW (rng 0 m) [some (.frl (ns.map .int)),some (.int 0),x2,x3,some (.lst []),x5]=.ok (.nx [some (.frl (ns.map .int)),some (.int 0),y2,x3,some (.lst (cs.map fun c=>D.str (one c))),y5]):=by
 obtain ⟨τ',e2,cs,y2,y5,g1,g2,h⟩:=vY (asg:=(Tgt.one 5).asg) (body:=bW)
  (fun i τ=>∃ (cs:List Nat) (y2 y5:Option D),cs.length=i/\(∀ c∈cs,okS c)/\τ=[some (.frl (ns.map .int)),some (.int 0),y2,x3,some (.lst (cs.map fun c=>D.str (one c))),y5]) (rng 0 m) 0
  [some (.frl (ns.map .int)),some (.int 0),x2,x3,some (.lst []),x5] ⟨[],x2,x5,rfl,fun c hc=>(nomatch hc),rfl⟩ (fun i q τ hd ⟨cs,y2,y5,l1,l2,h⟩=>by
   obtain ⟨hi,rfl⟩:=Z0 hd
   subst h
   obtain ⟨v,hv⟩:=qA ns (0+1+((0:Int)+(i:Nat))%8) (by omega) hl
   obtain ⟨c,hc,cl⟩:=z3a ((v+611*((0:Int)+(i:Nat))*((0:Int)+(i:Nat)))/5)
   have hb:=z1H (.frl (ns.map .int)) v ((0:Int)+(i:Nat)) (cs.map fun c=>D.str (one c)) y2 x3 (.str (one c)) hv hc (by rw [List.length_map]; omega) (by omega) (by omega)
   refine ⟨_,_,rfl,.inl hb,cs++[c],some (.int (v+611*((0:Int)+(i:Nat))*((0:Int)+(i:Nat)))),some (.int ((0:Int)+(i:Nat))),by rw [List.length_append,l1]; rfl,fun x hx=>?_,by rw [List.map_append]; rfl⟩
   rcases List.mem_append.mp hx with z | z
   ·exact l2 x z
   ·rw [List.mem_singleton.mp z]; exact cl)
 exact ⟨cs,y2,y5,by rw [g1,j7]; omega,g2,by rw [e2,h]⟩
theorem z32 (ns:List Int)(hl:ns.length<=63):∃ cs:List Nat,xi [.frl (ns.map .int),.int 0]=.ok (.str (S cs))/\(∀ c∈cs,okS c)/\1<=cs.length/\cs.length<=40:=by
 obtain ⟨v,hv⟩:=qA ns 0 (by decide) hl
 have d12:zt (.int v) (.int 12)=.ok (.int (v/12)):=zJ (by decide) (by decide)
 have d72:zt (.int v) (.int 72)=.ok (.int (v/72)):=zJ (by decide) (by decide)
 have m12:zu (.int v) (.int 12)=.ok (.int (v%12)):=zD (by decide)
 have m6:zu (.int (v/12)) (.int 6)=.ok (.int (v/12%6)):=zD (by decide)
 have m40:zu (.int (v/72)) (.int 40)=.ok (.int (v/72%40)):=zD (by decide)
 obtain ⟨sz,hs,s0,s1⟩:∃ sz:Int,IFW [some (.frl (ns.map .int)),some (.int 0),some (.int v),some (.int (1+v%12)),none,none]=.ok (.nx [some (.frl (ns.map .int)),some (.int 0),some (.int v),some (.int sz),none,none])/\1<=sz/\sz<=40:=by
  generalize D.frl (ns.map .int)=S0 at *
  by_cases hq:v/12%6=1
  ·have z:(v/12%6==1)=true:=beq_iff_eq.mpr hq
   refine ⟨1+v/72%40,?_,by omega,by omega⟩
   simp only [IFW,zk,zl,sIf,z7,eC,z9,zf,asB,R.ok_bind,List.getElem?_cons_zero,List.getElem?_cons_succ,List.set_cons_zero,List.set_cons_succ,ya,xJ,if_true,if_false,Bool.false_eq_true,d12,m6,z,d72,m40]
  ·have z:(v/12%6==1)=false:=beq_false_of_ne hq
   refine ⟨1+v%12,?_,by omega,by omega⟩
   simp only [IFW,zk,zl,sIf,z7,eC,z9,zf,asB,R.ok_bind,List.getElem?_cons_zero,List.getElem?_cons_succ,List.set_cons_zero,List.set_cons_succ,ya,zD,zJ,xJ,if_false,Bool.false_eq_true,Int.reduceLT,d12,m6,z]
 have e1:xP [D.int sz]=.ok (rng 0 sz.toNat):=vn (by omega) (by omega)
 obtain ⟨cs,y2,y5,g1,g2,h⟩:=z2g ns hl sz.toNat (by omega) (some (.int v)) (some (.int sz)) none
 have hj:=Zt cs (by omega)
 refine ⟨cs,?_,g2,by omega,by omega⟩
 rw [tW]
 generalize (cs.map fun c=>D.str (one c))=W at *
 generalize D.frl (ns.map .int)=S0 at *
 generalize sz.toNat=m at *
 have eF:xR (iL xP (z8 (z7 3) zb)) (.one 5) bW [some S0,some (.int 0),some (.int v),some (.int sz),some (.lst []),none]=_:=qd (by simp only [z7,zb,z8,iL,R.ok_bind,List.getElem?_cons_zero,List.getElem?_cons_succ,e1]) h
 simp only [TW,zw,zh,zl,zo,z7,eC,z9,eL,zb,z8,R.ok_bind,List.map_cons,List.map_nil,List.length_cons,List.length_nil,List.replicate_succ,List.replicate_zero,List.cons_append,List.nil_append,List.getElem?_cons_zero,List.getElem?_cons_succ,List.set_cons_zero,List.set_cons_succ,Nat.reduceAdd,Nat.reduceSub,Nat.zero_add,ya,XG,YY,hv,m12,hs,eF,hj]
end K05
set_option maxRecDepth 100000
set_option maxHeartbeats 4000000
namespace K05
open PySem PyProof.Rows L2
noncomputable def chk (c:Nat):Bool:=match zW [.str (one c)] with
 | .ok (.str s)=>s==one (lo1 c)
 | _=>false
theorem JI:∀ c,c<128->chk c=true:=by decide +kernel
theorem Kf (c:Nat)(h:c<128):zW [.str (one c)]=.ok (.str (one (lo1 c))):=by
 have:=JI c h
 unfold chk at this
 split at this
 ·rename_i s e
  rw [e,eq_of_beq this]
 ·cases this
noncomputable abbrev AZ:Str:="abcdefghijklmnopqrstuvwxyz"
theorem u6 (c:Nat)(z:Str):inS (one c) z=decide (c∈z.cps.toList):=StrLaws.found_one z c
theorem z2i:∀ c∈AZ.cps.toList,c≠45/\c≠61:=by decide +kernel
noncomputable abbrev ABC:Str:="abc"
theorem z0n:∀ c∈ABC.cps.toList,c≠45/\c≠61:=by decide +kernel
theorem Jw:ABC.length=3:=by decide +kernel
theorem Uz (Z A:Str)(hZ:∀ c∈Z.cps.toList,c≠45/\c≠61)(hA:∀ c∈A.cps.toList,c≠45/\c≠61)(lA:A.length=3)(n p:Int)(cs:List Nat)(hc:∀ c∈cs,c<128)(hl:cs.length<=40)(p0:-100<=p)(p1:p<=100):∃ c,zw 3 (zh (sIf (yu (zf (yL leD ltD (eC (.int 0)) (z7 2) (eL y1 (z8 (z7 1) zb)))) (zf (z9 xX (eL zW (z8 (z9 ixD (z7 1) (z7 2)) zb)) (eC (.str Z))))) (zo (eL zW (z8 (z9 ixD (z7 1) (z7 2)) zb))) zk) (zo (z9 ixD (eC (.str A)) (z9 zu (z9 zt (z7 0) (z9 zB (eC (.int 1)) (z9 wz (z7 2) (z7 2)))) (eC (.int 3)))))) [.int n,.str (S cs),.int p]=.ok (.str (one c))/\c≠45/\c≠61:=by
 have hlen:y1 [.str (S cs)]=.ok (.int (cs.length:Nat)):=by rw [kY (by rw [yz,sizeLine_eq]; omega),yz]
 have q0:0<=p*p:=by
  rcases Int.le_total 0 p with h | h
  ·exact Int.mul_nonneg h h
  ·exact Int.mul_nonneg_of_nonpos_of_nonpos h h
 have q1:p*p<=10000:=by
  have:p*p<=100*100:=by
   rcases Int.le_total 0 p with h | h
   ·exact Int.mul_le_mul p1 p1 h (by omega)
   ·have e:p*p=(-p)*(-p):=by rw [Int.neg_mul_neg]
    rw [e]
    exact Int.mul_le_mul (by omega) (by omega) (by omega) (by omega)
  omega
 have b0:-18446744073709551616<p:=by omega
 have b1:p<18446744073709551616:=by omega
 have fd:zt (.int n) (.int (1+p*p))=.ok (.int (n/(1+p*p))):=zJ (by omega) (by omega)
 have m3:zu (.int (n/(1+p*p))) (.int 3)=.ok (.int (n/(1+p*p)%3)):=zD (by decide)
 obtain ⟨d,hd,dk⟩:=jV (z:=A) (i:=n/(1+p*p)%3) (p:=fun c=>c≠45/\c≠61) (by omega) (by omega) (by omega) hA
 by_cases h0:0<=p
 ·have e0:decide (0<=p)=true:=decide_eq_true h0
  by_cases h1:p<(cs.length:Nat)
  ·have e1:decide (p<((cs.length:Nat):Int))=true:=decide_eq_true h1
   have hi:p.toNat<cs.length:=by omega
   have hx:=ud (cs:=cs) (i:=p) (by omega) h0 (List.getElem?_eq_getElem hi)
   have hs:=Kf _ (hc _ (List.getElem_mem hi))
   generalize cs[p.toNat]=c at *
   have hin:xX (.str (one (lo1 c))) (.str Z)=.ok (.bl (inS (one (lo1 c)) Z)):=rfl
   generalize ((cs.length:Nat):Int)=l at *
   by_cases h2:lo1 c∈Z.cps.toList
   ·rw [u6,decide_eq_true h2] at hin
    refine ⟨lo1 c,?_,hZ _ h2⟩
    simp only [zk,zw,zh,zo,sIf,z7,eC,z9,eL,zb,z8,zf,yu,yL,asB,R.ok_bind,List.map_cons,List.map_nil,List.length_cons,List.length_nil,List.replicate_zero,List.cons_append,List.nil_append,List.getElem?_cons_zero,List.getElem?_cons_succ,Nat.reduceAdd,Nat.reduceSub,Nat.zero_add,yy,uf,if_true,hlen,e0,e1,hx,hs,hin]
   ·rw [u6,decide_eq_false h2] at hin
    refine ⟨d,?_,dk⟩
    simp only [zk,zw,zh,zo,sIf,z7,eC,z9,eL,zb,z8,zf,yu,yL,asB,R.ok_bind,List.map_cons,List.map_nil,List.length_cons,List.length_nil,List.replicate_zero,List.cons_append,List.nil_append,List.getElem?_cons_zero,List.getElem?_cons_succ,Nat.reduceAdd,Nat.reduceSub,Nat.zero_add,ya,yy,uf,if_true,if_false,Bool.false_eq_true,hlen,e0,e1,hx,hs,hin,u3 b0 b1,fd,m3,hd]
  ·have e1:decide (p<((cs.length:Nat):Int))=false:=decide_eq_false h1
   refine ⟨d,?_,dk⟩
   generalize ((cs.length:Nat):Int)=l at *
   simp only [zk,zw,zh,zo,sIf,z7,eC,z9,eL,zb,z8,zf,yu,yL,asB,R.ok_bind,List.map_cons,List.map_nil,List.length_cons,List.length_nil,List.replicate_zero,List.cons_append,List.nil_append,List.getElem?_cons_zero,List.getElem?_cons_succ,Nat.reduceAdd,Nat.reduceSub,Nat.zero_add,ya,yy,uf,if_true,if_false,Bool.false_eq_true,hlen,e0,e1,u3 b0 b1,fd,m3,hd]
 ·have e0:decide (0<=p)=false:=decide_eq_false h0
  refine ⟨d,?_,dk⟩
  generalize ((cs.length:Nat):Int)=l at *
  simp only [zk,zw,zh,zo,sIf,z7,eC,z9,eL,zb,z8,zf,yu,yL,asB,R.ok_bind,List.map_cons,List.map_nil,List.length_cons,List.length_nil,List.replicate_zero,List.cons_append,List.nil_append,List.getElem?_cons_zero,List.getElem?_cons_succ,Nat.reduceAdd,Nat.reduceSub,Nat.zero_add,ya,yy,uf,if_false,Bool.false_eq_true,hlen,e0,u3 b0 b1,fd,m3,hd]
theorem WZ (n p:Int)(cs:List Nat)(hc:∀ c∈cs,c<128)(hl:cs.length<=40)(p0:-100<=p)(p1:p<=100):∃ c,yq [.int n,.str (S cs),.int p]=.ok (.str (one c))/\c≠45/\c≠61:=Uz AZ ABC z2i z0n Jw n p cs hc hl p0 p1
theorem Zi (cs:List Nat)(c i:Nat):StrLaws.At (S cs) (one c) (S cs).length i↔cs[i]?=some c:=by
 unfold StrLaws.At
 have h1:(one c).length=1:=rfl
 rw [h1,yz]
 unfold Builtin.Str.subAt
 have h2:(one c).cps=#[c]:=rfl
 have h3:(S cs).cps=cs.toArray:=rfl
 rw [h1,h2,h3]
 constructor
 ·rintro ⟨a,b⟩
  have b:=eq_of_beq b
  have:=congrArg (fun z:Array Nat=>z[0]?) b
  simp at this
  exact this
 ·intro h
  have hi:i<cs.length:=(List.getElem?_eq_some_iff.mp h).1
  refine ⟨by omega,?_⟩
  rw [beq_iff_eq]
  apply Array.ext'
  simp
  rw [List.getElem?_eq_getElem hi] at h
  cases h
  rw [List.drop_eq_getElem_cons hi]
  rfl
theorem Wc (A B:List Nat)(m:Nat)(h:m∉A):Txt.find (S (A++m::B)) (one m)=(A.length:Nat):=by
 unfold Txt.find
 rcases StrLaws.occ_head (S (A++m::B)) (one m) 1 (Nat.le_refl _) with ⟨e,hn⟩ | ⟨i,r,e,ha,hn⟩
 ·exact absurd ((Zi _ _ A.length).mpr (by simp)) (hn A.length)
 ·rw [e]
  have h1:=(Zi _ _ _).mp ha
  have h2:¬ A.length<i:=fun z=>hn A.length z ((Zi _ _ _).mpr (by simp))
  have h3:¬ i<A.length:=fun z=>by
   rw [List.getElem?_append_left z] at h1
   exact h (List.mem_of_getElem? h1)
  have:i=A.length:=by omega
  rw [this]
theorem Wi (l:List Nat)(c:Nat)(h:c∉l):Txt.find (S l) (one c)=-1:=by
 unfold Txt.find
 rcases StrLaws.occ_head (S l) (one c) 1 (Nat.le_refl _) with ⟨e,hn⟩ | ⟨i,r,e,ha,hn⟩
 ·rw [e]
 ·exact absurd (List.mem_of_getElem? ((Zi _ _ _).mp ha)) h
theorem z0u (l:List Nat)(c:Nat):Txt.replace (S l) (one c) ⟨#[]⟩=S (l.filter (· != c)):=by
 rw [Wr (Txt.replace (S l) (one c) ⟨#[]⟩)]
 have:=replace_strikes (S l) c
 rw [uE] at this
 have e:(⟨#[c]⟩:Str)=one c:=rfl
 rw [e] at this
 rw [this]
theorem we {A:List Nat}{m:Nat}(h:m∉A):A.filter (· != m)=A:=by
 rw [List.filter_eq_self]
 intro a ha
 have:a≠m:=fun z=>h (z▸ha)
 simpa using this
structure Jt (A B:List Nat)(m:Nat):Prop where
 mm:m=45\/m=61
 a1:∀ c∈A,c≠45/\c≠61
 b1:∀ c∈B,c≠45/\c≠61
 l1:A.length+B.length<=8
theorem XZ (A B:List Nat)(m:Nat)(j:Jt A B m):xE [.str (S (A++m::B))]=.ok (.int (A.length:Nat)):=by
 have c1:(one 45)=("-":Str):=rfl
 have c2:(one 61)=("=":Str):=rfl
 have nA:∀ c,(c=45\/c=61)->c∉A:=fun c hc h=>by have:=j.a1 c h; rcases hc with e | e<;>subst e<;>simp at this
 have nB:∀ c,(c=45\/c=61)->c∉B:=fun c hc h=>by have:=j.b1 c h; rcases hc with e | e<;>subst e<;>simp at this
 have key:∃ u v:Int,qG (S (A++m::B)) [.str "-"]=.ok (.int u)/\qG (S (A++m::B)) [.str "="]=.ok (.int v)/\kS [.int u,.int v]=.ok (.int (A.length:Nat)):=by
  rcases j.mm with rfl | rfl
  ·refine ⟨(A.length:Nat),-1,?_,?_,?_⟩
   ·show R.ok (D.int (Txt.find (S (A++45::B)) (one 45)))=_
    rw [Wc A B 45 (nA 45 (.inl rfl))]
   ·show R.ok (D.int (Txt.find (S (A++45::B)) (one 61)))=_
    rw [Wi _ _ (by simp [nA 61 (.inr rfl),nB 61 (.inr rfl)])]
   ·show R.ok (D.int (if ((A.length:Nat):Int) < -1 then _ else _))=_
    rw [if_neg (by omega)]
  ·refine ⟨-1,(A.length:Nat),?_,?_,?_⟩
   ·show R.ok (D.int (Txt.find (S (A++61::B)) (one 45)))=_
    rw [Wi _ _ (by simp [nA 45 (.inl rfl),nB 45 (.inl rfl)])]
   ·show R.ok (D.int (Txt.find (S (A++61::B)) (one 61)))=_
    rw [Wc A B 61 (nA 61 (.inr rfl))]
   ·show R.ok (D.int (if (-1:Int)<((A.length:Nat):Int) then _ else _))=_
    rw [if_pos (by omega)]
 obtain ⟨u,v,h1,h2,h3⟩:=key
 generalize ((A.length:Nat):Int)=l at *
 generalize S (A++m::B)=J at *
 simp only [xE,kG,zw,zo,z7,eC,eL,zb,z8,R.ok_bind,List.map_cons,List.map_nil,List.length_cons,List.length_nil,List.replicate_zero,List.cons_append,List.nil_append,List.getElem?_cons_zero,Nat.reduceSub,Nat.zero_add,XG,YY,h1,h2,h3]
theorem jW (A B:List Nat)(m:Nat)(j:Jt A B m):yn [.str (S (A++m::B))]=.ok (.str (S (A++B))):=by
 have nA:∀ c,(c=45\/c=61)->c∉A:=fun c hc h=>by have:=j.a1 c h; rcases hc with e | e<;>subst e<;>simp at this
 have nB:∀ c,(c=45\/c=61)->c∉B:=fun c hc h=>by have:=j.b1 c h; rcases hc with e | e<;>subst e<;>simp at this
 have r0:∀ (l:List Nat) (c:Nat),l.length<=100->XY (one c) "" (.str (S l))=.ok (.str (S (l.filter (· != c)))):=fun l c h=>by
  show (if (S l).length<=1048576 then R.ok (D.str (Txt.replace (S l) (one c) ⟨#[]⟩)) else R.bad)=_
  rw [if_pos (by rw [yz]; omega),z0u]
 have hl:(A++m::B).length<=100:=by have:=j.l1; simp; omega
 have r1:=r0 (A++m::B) 45 hl
 have r2:=r0 ((A++m::B).filter (· != 45)) 61 (Nat.le_trans (List.length_filter_le _ _) hl)
 have ef:((A++m::B).filter (· != 45)).filter (· != 61)=A++B:=by
  rw [List.filter_append,List.filter_append,we (nA 45 (.inl rfl)),we (nA 61 (.inr rfl))]
  rcases j.mm with rfl | rfl
  ·rw [List.filter_cons_of_neg (by simp),we (nB 45 (.inl rfl)),we (nB 61 (.inr rfl))]
  ·rw [List.filter_cons_of_pos (by simp),we (nB 45 (.inl rfl)),List.filter_cons_of_neg (by simp),we (nB 61 (.inr rfl))]
 rw [ef] at r2
 have c1:(one 45)=("-":Str):=rfl
 have c2:(one 61)=("=":Str):=rfl
 rw [c1] at r1
 rw [c2] at r2
 generalize S (A++m::B)=J at *
 generalize S ((A++m::B).filter (· != 45))=J2 at *
 simp only [yn,uD,zw,zo,z7,eUn,R.ok_bind,List.map_cons,List.map_nil,List.length_cons,List.length_nil,List.replicate_zero,List.cons_append,List.nil_append,List.getElem?_cons_zero,Nat.reduceSub,Nat.zero_add,r1,r2]
end K05
set_option maxRecDepth 100000
set_option maxHeartbeats 4000000
namespace K05
open PySem PyProof.Rows L2
noncomputable def J0:Tn->R Fl:=(zl 2 (z9 zB (eC (.int 2)) (z9 zu (z7 0) (eC (.int 3)))))
noncomputable def J1:Tn->R Fl:=(sIf (zf (z9 (eqR false) (z9 zu (z9 zt (z7 0) (eC (.int 3))) (eC (.int 5))) (eC (.int 1)))) (zl 2 (z9 zB (eC (.int 2)) (z9 zu (z9 zt (z7 0) (eC (.int 15))) (eC (.int 7))))) zk)
noncomputable def J2:Tn->R Fl:=(zl 3 (z9 zB (eC (.int 1)) (z9 zu (z9 zt (z7 0) (eC (.int 105))) (z9 xH (z7 2) (eC (.int 1))))))
noncomputable def J3:Tn->R Fl:=(zl 4 (z9 zu (z9 zt (z7 0) (eC (.int 21))) (z9 zB (eL y1 (z8 (z7 1) zb)) (eC (.int 1)))))
noncomputable def J4:Tn->R Fl:=(zl 5 (yi [none,some 0,some 1,some 4,some 3] (iL xP (z8 (z7 2) zb)) (.one 0) (fun _=>.ok true) (eL yq (z8 (z7 1) (z8 (z7 2) (z8 (z9 zB (z9 xH (z7 3) (z7 4)) (z7 0)) zb))))))
noncomputable def J5:Tn->R Fl:=(sIf (zf (z9 (eqR false) (z9 zu (z9 zt (z7 0) (eC (.int 29))) (eC (.int 5))) (eC (.int 1)))) (zl 5 (yi [none,some 0] (iL xP (z8 (z7 2) zb)) (.one 0) (fun _=>.ok true) (z9 ixD (eC (.str "ab")) (z9 zu (z9 zt (z7 1) (z9 wz (eC (.int 31)) (z9 zB (eC (.int 1)) (z7 0)))) (eC (.int 2)))))) zk)
noncomputable def J6:Tn->R Fl:=(sIf (zf (z9 (eqR false) (z9 zu (z9 zt (z7 0) (eC (.int 29))) (eC (.int 5))) (eC (.int 2)))) (Xk 5 (z9 ixD (eC (.str "abcz")) (z9 zu (z9 zt (z7 0) (eC (.int 1160))) (eC (.int 4)))) (z9 zu (z9 zt (z7 0) (eC (.int 145))) (z7 2))) zk)
noncomputable def J7:Tn->R Fl:=(zl 6 (z9 ixD (eC (.str "-=")) (z9 zt (z9 zu (z9 zt (z7 0) (eC (.int 37))) (eC (.int 5))) (eC (.int 3)))))
noncomputable def J8:Tn->R Fl:=(zo (z9 zB (z9 zB (eSm wm (eC (.str "")) (z8 (eSl (z7 5) yN (zO (z7 3))) zb)) (z7 6)) (eSm wm (eC (.str "")) (z8 (eSl (z7 5) (zO (z7 3)) yN) zb))))
noncomputable def TJ:Tn->R Fl:=(zh J0 (zh J1 (zh J2 (zh J3 (zh J4 (zh J5 (zh J6 (zh J7 J8))))))))
theorem tJ:yQ=zw 7 TJ:=rfl
noncomputable def JE:Tn->R D:=(eL yq (z8 (z7 1) (z8 (z7 2) (z8 (z9 zB (z9 xH (z7 3) (z7 4)) (z7 0)) zb))))
noncomputable def JF:Tn->R D:=(z9 ixD (eC (.str "ab")) (z9 zu (z9 zt (z7 1) (z9 wz (eC (.int 31)) (z9 zB (eC (.int 1)) (z7 0)))) (eC (.int 2))))
noncomputable def okL (c:Nat):Prop:=c≠45/\c≠61
noncomputable def yB (c:Nat):D:=.str (one c)
theorem z0m {α:Type}{xs:List α}{b:Nat}(hb:b<=xs.length):jm xs none (some (b:Int))=xs.take b:=by
 unfold jm
 rw [HT.sIx_nat,HT.sIx_none,Nat.min_eq_left hb]
 rfl
theorem Vt {α:Type}{xs:List α}{a:Nat}(ha:a<=xs.length):jm xs (some (a:Int)) none=xs.drop a:=by
 unfold jm
 rw [HT.sIx_nat,HT.sIx_none,Nat.min_eq_left ha]
 exact List.take_of_length_le (by rw [List.length_drop]; omega)
theorem z1V (n:Int)(cs:List Nat)(hc:∀ c∈cs,c<128)(hl:cs.length<=40)(pl at_:Int)(p0:0<=pl)(p1:pl<=40)(a0:0<=at_)(a1:at_<=8)(i:Nat)(hi:i<8) :
  ∃ c,zP (Tgt.one 0).asg (fun _=>.ok true) JE [none,some (.int n),some (.str (S cs)),some (.int pl),some (.int at_)] (.int ((0:Int)+(i:Nat)))=.ok (some (yB c))/\okL c:=by
 obtain ⟨c,e,hk⟩:=WZ n (pl-at_+((0:Int)+(i:Nat))) cs hc hl (by omega) (by omega)
 refine ⟨c,?_,hk⟩
 show _=R.ok (some (D.str (one c)))
 generalize (0:Int)+((i:Nat):Int)=I at *
 simp only [zP,zM,JE,z7,z9,eL,zb,z8,Tgt.asg,R.ok_bind,List.getElem?_cons_zero,List.getElem?_cons_succ,List.set_cons_zero,ya,yA,if_true,e]
noncomputable abbrev AB2:Str:="ab"
theorem z1g:AB2.length=2:=by decide +kernel
theorem z28:∀ c∈AB2.cps.toList,okL c:=by unfold okL; decide +kernel
theorem z3d (A:Str)(lA:A.length=2)(hA:∀ c∈A.cps.toList,okL c)(n:Int)(i:Nat)(hi:i<8) :
  ∃ c,zP (Tgt.one 0).asg (fun _=>.ok true) (z9 ixD (eC (.str A)) (z9 zu (z9 zt (z7 1) (z9 wz (eC (.int 31)) (z9 zB (eC (.int 1)) (z7 0)))) (eC (.int 2)))) [none,some (.int n)] (.int ((0:Int)+(i:Nat)))=.ok (some (yB c))/\okL c:=by
 have h0:0<=(0:Int)+(i:Nat)/\(0:Int)+(i:Nat)<8:=by omega
 generalize (0:Int)+((i:Nat):Int)=I at *
 have fd:zt (.int n) (.int (31*(1+I)))=.ok (.int (n/(31*(1+I)))):=zJ (by omega) (by omega)
 have m2:zu (.int (n/(31*(1+I)))) (.int 2)=.ok (.int (n/(31*(1+I))%2)):=zD (by decide)
 obtain ⟨c,e,hk⟩:=jV (z:=A) (i:=n/(31*(1+I))%2) (p:=okL) (by omega) (by omega) (by omega) hA
 refine ⟨c,?_,hk⟩
 show _=R.ok (some (D.str (one c)))
 simp only [zP,zM,z7,eC,z9,Tgt.asg,R.ok_bind,List.getElem?_cons_zero,List.getElem?_cons_succ,List.set_cons_zero,ya,if_true,Int.reduceLT,Int.reduceNeg,j4,fd,m2,e]
theorem z2t (n:Int)(i:Nat)(hi:i<8):∃ c,zP (Tgt.one 0).asg (fun _=>.ok true) JF [none,some (.int n)] (.int ((0:Int)+(i:Nat)))=.ok (some (yB c))/\okL c:=z3d AB2 z1g z28 n i hi
theorem j8 {f:D->R (Option D)}(h:∀ i:Nat,i<8->∃ c,f (.int ((0:Int)+(i:Nat)))=.ok (some (yB c))/\okL c)(m:Nat)(hm:m<=8):∃ ls:List Nat,yW f (rng 0 m)=.ok (ls.map yB)/\ls.length=m/\∀ c∈ls,okL c:=by
 have ch:∀ i:Nat,∃ c,i<8->(f (.int ((0:Int)+(i:Nat)))=.ok (some (yB c))/\okL c):=fun i=>by
  by_cases hi:i<8
  ·obtain ⟨c,hc⟩:=h i hi; exact ⟨c,fun _=>hc⟩
  ·exact ⟨0,fun z=>absurd z hi⟩
 have hc:=v7 (f:=f) (lo:=0) (n:=m) (o:=fun i=>some (yB (Classical.choose (ch i)))) fun i hi=>(Classical.choose_spec (ch i) (by omega)).1
 rw [Qy] at hc
 refine ⟨(List.range m).map fun i=>Classical.choose (ch i),by rw [hc,List.map_map]; rfl,by simp,fun c hcm=>?_⟩
 obtain ⟨i,hi,rfl⟩:=List.mem_map.mp hcm
 exact (Classical.choose_spec (ch i) (by have:=List.mem_range.mp hi; omega)).2
theorem Yp (ls:List Nat):D.imms (ls.map yB)=true:=vF (fun _=>rfl) ls
noncomputable abbrev ABCZ:Str:="abcz"
theorem UL:ABCZ.length=4:=by decide +kernel
theorem Qw:∀ c∈ABCZ.cps.toList,okL c:=by unfold okL; decide +kernel
noncomputable abbrev MKS:Str:="-="
theorem JY:MKS.length=2:=by decide +kernel
theorem z0X:∀ c∈MKS.cps.toList,c=45\/c=61:=by decide +kernel
theorem g01 (n:Int)(w:D):∃ sz:Int,2<=sz/\sz<=8/\(zh J0 J1) [some (.int n),some w,none,none,none,none,none]=.ok (.nx [some (.int n),some w,some (.int sz),none,none,none,none]):=by
 have d3:zt (.int n) (.int 3)=.ok (.int (n/3)):=zJ (by decide) (by decide)
 have d15:zt (.int n) (.int 15)=.ok (.int (n/15)):=zJ (by decide) (by decide)
 have m3:zu (.int n) (.int 3)=.ok (.int (n%3)):=zD (by decide)
 have m5:zu (.int (n/3)) (.int 5)=.ok (.int (n/3%5)):=zD (by decide)
 have m7:zu (.int (n/15)) (.int 7)=.ok (.int (n/15%7)):=zD (by decide)
 by_cases hq:n/3%5=1
 ·have z:(n/3%5==1)=true:=beq_iff_eq.mpr hq
  refine ⟨2+n/15%7,by omega,by omega,?_⟩
  simp only [J0,J1,zk,zh,zl,sIf,z7,eC,z9,zf,asB,R.ok_bind,List.getElem?_cons_zero,List.set_cons_zero,List.set_cons_succ,ya,xJ,if_true,if_false,Bool.false_eq_true,d3,d15,m3,m5,m7,z]
 ·have z:(n/3%5==1)=false:=beq_false_of_ne hq
  refine ⟨2+n%3,by omega,by omega,?_⟩
  simp only [J0,J1,zk,zh,zl,sIf,z7,eC,z9,zf,asB,R.ok_bind,List.getElem?_cons_zero,List.set_cons_zero,List.set_cons_succ,ya,zD,zJ,xJ,if_false,Bool.false_eq_true,Int.reduceLT,d3,m3,m5,z]
theorem g23 (n sz:Int)(cs:List Nat)(hl:cs.length<=40)(s0:2<=sz)(s1:sz<=8):∃ at_ pl:Int,1<=at_/\at_<sz/\0<=pl/\pl<=40/\(zh J2 J3) [some (.int n),some (.str (S cs)),some (.int sz),none,none,none,none]=.ok (.nx [some (.int n),some (.str (S cs)),some (.int sz),some (.int at_),some (.int pl),none,none]):=by
 have hlen:y1 [.str (S cs)]=.ok (.int (cs.length:Nat)):=by rw [kY (by rw [yz,sizeLine_eq]; omega),yz]
 have d1:zt (.int n) (.int 105)=.ok (.int (n/105)):=zJ (by decide) (by decide)
 have d2:zt (.int n) (.int 21)=.ok (.int (n/21)):=zJ (by decide) (by decide)
 have m1:zu (.int (n/105)) (.int (sz-1))=.ok (.int (n/105%(sz-1))):=zD (by omega)
 have m2:zu (.int (n/21)) (.int ((cs.length:Nat)+1))=.ok (.int (n/21%((cs.length:Nat)+1))):=zD (by omega)
 have b1:=Int.emod_nonneg (n/105) (b:=sz-1) (by omega)
 have b2:=Int.emod_lt_of_pos (n/105) (b:=sz-1) (by omega)
 have b3:=Int.emod_nonneg (n/21) (b:=(cs.length:Nat)+1) (by omega)
 have b4:=Int.emod_lt_of_pos (n/21) (b:=(cs.length:Nat)+1) (by omega)
 refine ⟨1+n/105%(sz-1),n/21%((cs.length:Nat)+1),by omega,by omega,b3,by omega,?_⟩
 generalize ((cs.length:Nat):Int)=l at *
 generalize S cs=w at *
 simp only [J2,J3,zh,zl,z7,eC,z9,eL,zb,z8,R.ok_bind,List.getElem?_cons_zero,List.getElem?_cons_succ,List.set_cons_zero,List.set_cons_succ,ya,yA,hlen,d1,d2,m1,m2]
theorem g4 (n sz at_ pl:Int)(cs:List Nat)(hc:∀ c∈cs,c<128)(hl:cs.length<=40)(s0:2<=sz)(s1:sz<=8)(a0:1<=at_)(a1:at_<sz)(p0:0<=pl)(p1:pl<=40):∃ ls:List Nat,(ls.length:Int)=sz/\(∀ c∈ls,okL c)/\J4 [some (.int n),some (.str (S cs)),some (.int sz),some (.int at_),some (.int pl),none,none]=.ok (.nx [some (.int n),some (.str (S cs)),some (.int sz),some (.int at_),some (.int pl),some (.lst (ls.map yB)),none]):=by
 obtain ⟨ls,h1,h2,h3⟩:=j8 (f:=zP (Tgt.one 0).asg (fun _=>.ok true) JE [none,some (.int n),some (.str (S cs)),some (.int pl),some (.int at_)]) (fun i hi=>z1V n cs hc hl pl at_ p0 p1 (by omega) (by omega) i hi) sz.toNat (by omega)
 have e1:xP [D.int sz]=.ok (rng 0 sz.toNat):=vn (by omega) (by omega)
 have hk:=yZ (ys:=ls.map yB) (by rw [List.length_map]; omega)
 refine ⟨ls,by omega,h3,?_⟩
 have eJ:J4=zl 5 (yi [none,some 0,some 1,some 4,some 3] (iL xP (z8 (z7 2) zb)) (.one 0) (fun _=>.ok true) JE):=rfl
 rw [eJ]
 generalize ls.map yB=L at *
 generalize sz.toNat=m at *
 generalize S cs=w at *
 simp only [yx,xC,xw,wg,xZ,zl,z7,zb,z8,iL,R.ok_bind,List.getElem?_cons_zero,List.getElem?_cons_succ,List.set_cons_zero,List.set_cons_succ,e1,h1,hk]
theorem g5 (n sz:Int)(w a b:Option D)(ls:List Nat)(hls:(ls.length:Int)=sz)(ho:∀ c∈ls,okL c)(s0:2<=sz)(s1:sz<=8):∃ ls':List Nat,(ls'.length:Int)=sz/\(∀ c∈ls',okL c)/\J5 [some (.int n),w,some (.int sz),a,b,some (.lst (ls.map yB)),none]=.ok (.nx [some (.int n),w,some (.int sz),a,b,some (.lst (ls'.map yB)),none]):=by
 have d1:zt (.int n) (.int 29)=.ok (.int (n/29)):=zJ (by decide) (by decide)
 have m1:zu (.int (n/29)) (.int 5)=.ok (.int (n/29%5)):=zD (by decide)
 have eJ:J5=sIf (zf (z9 (eqR false) (z9 zu (z9 zt (z7 0) (eC (.int 29))) (eC (.int 5))) (eC (.int 1)))) (zl 5 (yi [none,some 0] (iL xP (z8 (z7 2) zb)) (.one 0) (fun _=>.ok true) JF)) zk:=rfl
 rw [eJ]
 by_cases hq:n/29%5=1
 ·have z:(n/29%5==1)=true:=beq_iff_eq.mpr hq
  obtain ⟨ls',h1,h2,h3⟩:=j8 (f:=zP (Tgt.one 0).asg (fun _=>.ok true) JF [none,some (.int n)]) (fun i hi=>z2t n i hi) sz.toNat (by omega)
  have e1:xP [D.int sz]=.ok (rng 0 sz.toNat):=vn (by omega) (by omega)
  have hk:=yZ (ys:=ls'.map yB) (by rw [List.length_map]; omega)
  refine ⟨ls',by omega,h3,?_⟩
  generalize ls'.map yB=L at *
  generalize ls.map yB=L0 at *
  generalize sz.toNat=m at *
  simp only [yx,xC,xw,wg,xZ,zk,zl,sIf,z7,eC,z9,zb,z8,zf,iL,asB,R.ok_bind,List.getElem?_cons_zero,List.getElem?_cons_succ,List.set_cons_zero,List.set_cons_succ,xJ,if_true,if_false,Bool.false_eq_true,d1,m1,z,e1,h1,hk]
 ·have z:(n/29%5==1)=false:=beq_false_of_ne hq
  refine ⟨ls,hls,ho,?_⟩
  generalize ls.map yB=L0 at *
  simp only [yx,xC,xw,wg,xZ,zk,zl,sIf,z7,eC,z9,zb,z8,zf,iL,asB,R.ok_bind,List.getElem?_cons_zero,List.getElem?_cons_succ,List.set_cons_zero,List.set_cons_succ,xJ,if_false,Bool.false_eq_true,d1,m1,z]
theorem z33 (A:Str)(lA:A.length=4)(hA:∀ c∈A.cps.toList,okL c)(n sz:Int)(w a b:Option D)(ls:List Nat)(hls:(ls.length:Int)=sz)(ho:∀ c∈ls,okL c)(s0:2<=sz)(s1:sz<=8):∃ ls':List Nat,(ls'.length:Int)=sz/\(∀ c∈ls',okL c)/\(sIf (zf (z9 (eqR false) (z9 zu (z9 zt (z7 0) (eC (.int 29))) (eC (.int 5))) (eC (.int 2)))) (Xk 5 (z9 ixD (eC (.str A)) (z9 zu (z9 zt (z7 0) (eC (.int 1160))) (eC (.int 4)))) (z9 zu (z9 zt (z7 0) (eC (.int 145))) (z7 2))) zk) [some (.int n),w,some (.int sz),a,b,some (.lst (ls.map yB)),none]=.ok (.nx [some (.int n),w,some (.int sz),a,b,some (.lst (ls'.map yB)),none]):=by
 have d1:zt (.int n) (.int 29)=.ok (.int (n/29)):=zJ (by decide) (by decide)
 have m1:zu (.int (n/29)) (.int 5)=.ok (.int (n/29%5)):=zD (by decide)
 by_cases hq:n/29%5=2
 ·have z:(n/29%5==2)=true:=beq_iff_eq.mpr hq
  have d2:zt (.int n) (.int 1160)=.ok (.int (n/1160)):=zJ (by decide) (by decide)
  have d3:zt (.int n) (.int 145)=.ok (.int (n/145)):=zJ (by decide) (by decide)
  have m2:zu (.int (n/1160)) (.int 4)=.ok (.int (n/1160%4)):=zD (by decide)
  have m3:zu (.int (n/145)) (.int sz)=.ok (.int (n/145%sz)):=zD (by omega)
  have b1:=Int.emod_nonneg (n/145) (b:=sz) (by omega)
  have b2:=Int.emod_lt_of_pos (n/145) (b:=sz) (by omega)
  obtain ⟨c,e,hk⟩:=jV (z:=A) (i:=n/1160%4) (p:=okL) (by omega) (by omega) (by omega) hA
  refine ⟨ls.set (n/145%sz).toNat c,by rw [List.length_set]; exact hls,fun x hx=>?_,?_⟩
  ·rcases List.mem_or_eq_of_mem_set hx with z | z
   ·exact ho x z
   ·rw [z]; exact hk
  ·have hset:JH (ls.map yB) (n/145%sz) (.str (one c))=.ok (.lst ((ls.set (n/145%sz).toNat c).map yB)):=by
    have hx:ixN (ls.map yB).length (n/145%sz)=some (n/145%sz).toNat:=by
     unfold ixN
     rw [if_pos b1,if_pos (by rw [List.length_map]; omega)]
    unfold JH
    rw [hx]
    show R.ok (D.lst ((ls.map yB).set _ (yB c)))=_
    rw [List.map_set]
   generalize ls.map yB=L0 at *
   generalize (ls.set (n/145%sz).toNat c).map yB=L1 at *
   generalize n/145%sz=k at *
   generalize n/1160%4=k2 at *
   simp only [zk,sIf,z7,eC,z9,zf,asB,R.ok_bind,List.getElem?_cons_zero,List.getElem?_cons_succ,List.set_cons_zero,List.set_cons_succ,xJ,if_true,if_false,Bool.false_eq_true,d1,m1,z,Xk,d2,d3,m2,m3,e,hset]
 ·have z:(n/29%5==2)=false:=beq_false_of_ne hq
  refine ⟨ls,hls,ho,?_⟩
  generalize ls.map yB=L0 at *
  simp only [zk,sIf,z7,eC,z9,zf,asB,R.ok_bind,List.getElem?_cons_zero,xJ,if_false,Bool.false_eq_true,d1,m1,z]
theorem g6 (n sz:Int)(w a b:Option D)(ls:List Nat)(hls:(ls.length:Int)=sz)(ho:∀ c∈ls,okL c)(s0:2<=sz)(s1:sz<=8):∃ ls':List Nat,(ls'.length:Int)=sz/\(∀ c∈ls',okL c)/\J6 [some (.int n),w,some (.int sz),a,b,some (.lst (ls.map yB)),none]=.ok (.nx [some (.int n),w,some (.int sz),a,b,some (.lst (ls'.map yB)),none]):=z33 ABCZ UL Qw n sz w a b ls hls ho s0 s1
theorem z2V (A:Str)(lA:A.length=2)(hA:∀ c∈A.cps.toList,c=45\/c=61)(n:Int)(w a b c d:Option D):∃ m:Nat,(m=45\/m=61)/\(zl 6 (z9 ixD (eC (.str A)) (z9 zt (z9 zu (z9 zt (z7 0) (eC (.int 37))) (eC (.int 5))) (eC (.int 3))))) [some (.int n),w,a,b,c,d,none]=.ok (.nx [some (.int n),w,a,b,c,d,some (.str (one m))]):=by
 have d1:zt (.int n) (.int 37)=.ok (.int (n/37)):=zJ (by decide) (by decide)
 have m1:zu (.int (n/37)) (.int 5)=.ok (.int (n/37%5)):=zD (by decide)
 have d3:zt (.int (n/37%5)) (.int 3)=.ok (.int (n/37%5/3)):=zJ (by decide) (by decide)
 obtain ⟨m,e,hk⟩:=jV (z:=A) (i:=n/37%5/3) (p:=fun c=>c=45\/c=61) (by omega) (by omega) (by omega) hA
 refine ⟨m,hk,?_⟩
 generalize n/37%5/3=y at *
 simp only [zl,z7,eC,z9,R.ok_bind,List.getElem?_cons_zero,List.set_cons_zero,List.set_cons_succ,d1,m1,d3,e]
theorem g7 (n:Int)(w a b c d:Option D):∃ m:Nat,(m=45\/m=61)/\J7 [some (.int n),w,a,b,c,d,none]=.ok (.nx [some (.int n),w,a,b,c,d,some (.str (one m))]):=z2V MKS JY z0X n w a b c d
theorem g8 (at_:Int)(ls:List Nat)(m:Nat)(n w a c:Option D)(a0:1<=at_)(a1:at_<(ls.length:Nat))(hl:ls.length<=8):J8 [n,w,a,some (.int at_),c,some (.lst (ls.map yB)),some (.str (one m))]=.ok (.rt (.str (S (ls.take at_.toNat++m::ls.drop at_.toNat)))):=by
 have ea:at_=((at_.toNat:Nat):Int):=by omega
 have hta:at_.toNat<=ls.length:=by omega
 have c1:slD (.lst (ls.map yB)) none (some at_)=.ok (.lst ((ls.take at_.toNat).map yB)):=by
  rw [Xi (Yp ls),ea,z0m (by rw [List.length_map]; omega),List.map_take]
  rfl
 have c2:slD (.lst (ls.map yB)) (some at_) none=.ok (.lst ((ls.drop at_.toNat).map yB)):=by
  rw [Xi (Yp ls),ea,Vt (by rw [List.length_map]; omega),List.map_drop]
  rfl
 have l1:(ls.take at_.toNat).length<=8:=by rw [List.length_take]; omega
 have l2:(ls.drop at_.toNat).length<=8:=by rw [List.length_drop]; omega
 have j1:wm "" [.lst ((ls.take at_.toNat).map yB)]=.ok (.str (S (ls.take at_.toNat))):=Zt _ (by omega)
 have j2:wm "" [.lst ((ls.drop at_.toNat).map yB)]=.ok (.str (S (ls.drop at_.toNat))):=Zt _ (by omega)
 have p1:zB (.str (S (ls.take at_.toNat))) (.str (one m))=.ok (.str (S (ls.take at_.toNat++[m]))):=by
  rw [uC (by rw [yz,sizeLine_eq]; show _+1<=_; omega)]
  show R.ok (D.str (S _++S [m]))=_
  rw [Y3]
 have p2:zB (.str (S (ls.take at_.toNat++[m]))) (.str (S (ls.drop at_.toNat)))=.ok (.str (S (ls.take at_.toNat++m::ls.drop at_.toNat))):=by
  rw [uC (by rw [yz,yz,sizeLine_eq,List.length_append]; show _+1+_<=_; omega),Y3,List.append_assoc]
  rfl
 generalize (ls.take at_.toNat).map yB=L1 at *
 generalize (ls.drop at_.toNat).map yB=L2 at *
 generalize ls.map yB=L0 at *
 generalize S (ls.take at_.toNat)=X1 at *
 generalize S (ls.take at_.toNat++[m])=X2 at *
 generalize S (ls.drop at_.toNat)=X3 at *
 generalize S (ls.take at_.toNat++m::ls.drop at_.toNat)=X4 at *
 simp only [J8,zo,z7,eC,z9,zb,z8,eSl,yN,zO,R.ok_bind,List.getElem?_cons_zero,List.getElem?_cons_succ,XG,YY,c1,c2,j1,j2,p1,p2]
theorem Ja (n:D)(w:D)(r:D)(τ1 τ2 τ3 τ4 τ5 τ6:Tn)(h1:(zh J0 J1) [some n,some w,none,none,none,none,none]=.ok (.nx τ1))(h2:(zh J2 J3) τ1=.ok (.nx τ2))(h3:J4 τ2=.ok (.nx τ3))(h4:J5 τ3=.ok (.nx τ4))(h5:J6 τ4=.ok (.nx τ5))(h6:J7 τ5=.ok (.nx τ6))(h7:J8 τ6=.ok (.rt r)):zw 7 TJ [n,w]=.ok r:=by
 have k1:∃ τ0,J0 [some n,some w,none,none,none,none,none]=.ok (.nx τ0)/\J1 τ0=.ok (.nx τ1):=by
  unfold zh at h1
  cases e:J0 [some n,some w,none,none,none,none,none] with
  | ok f=>rw [e,R.ok_bind] at h1; cases f with
   | nx τ=>exact ⟨τ,rfl,h1⟩
   | _=>cases h1
  | err m=>rw [e] at h1; cases h1
  | bad=>rw [e] at h1; cases h1
 have k2:∃ τ0,J2 τ1=.ok (.nx τ0)/\J3 τ0=.ok (.nx τ2):=by
  unfold zh at h2
  cases e:J2 τ1 with
  | ok f=>rw [e,R.ok_bind] at h2; cases f with
   | nx τ=>exact ⟨τ,rfl,h2⟩
   | _=>cases h2
  | err m=>rw [e] at h2; cases h2
  | bad=>rw [e] at h2; cases h2
 obtain ⟨u0,a1,a2⟩:=k1
 obtain ⟨u1,a3,a4⟩:=k2
 simp only [TJ,zw,zh,R.ok_bind,List.map_cons,List.map_nil,List.length_cons,List.length_nil,List.replicate_succ,List.replicate_zero,List.cons_append,List.nil_append,Nat.reduceAdd,Nat.reduceSub,Nat.zero_add,a1,a2,a3,a4,h3,h4,h5,h6,h7]
theorem z1O (n:Int)(cs:List Nat)(hc:∀ c∈cs,c<128)(hl:cs.length<=40):∃ (A B:List Nat) (m:Nat),yQ [.int n,.str (S cs)]=.ok (.str (S (A++m::B)))/\Jt A B m:=by
 obtain ⟨sz,s0,s1,h1⟩:=g01 n (.str (S cs))
 obtain ⟨at_,pl,a0,a1,p0,p1,h2⟩:=g23 n sz cs hl s0 s1
 obtain ⟨ls1,l1,o1,h3⟩:=g4 n sz at_ pl cs hc hl s0 s1 a0 a1 p0 p1
 obtain ⟨ls2,l2,o2,h4⟩:=g5 n sz (some (.str (S cs))) (some (.int at_)) (some (.int pl)) ls1 l1 o1 s0 s1
 obtain ⟨ls3,l3,o3,h5⟩:=g6 n sz (some (.str (S cs))) (some (.int at_)) (some (.int pl)) ls2 l2 o2 s0 s1
 obtain ⟨m,hm,h6⟩:=g7 n (some (.str (S cs))) (some (.int sz)) (some (.int at_)) (some (.int pl)) (some (.lst (ls3.map yB)))
 have h7:=g8 at_ ls3 m (some (.int n)) (some (.str (S cs))) (some (.int sz)) (some (.int pl)) a0 (by omega) (by omega)
 refine ⟨ls3.take at_.toNat,ls3.drop at_.toNat,m,?_,hm,fun c h=>o3 c (List.mem_of_mem_take h),fun c h=>o3 c (List.mem_of_mem_drop h),by rw [List.length_take,List.length_drop]; omega⟩
 rw [tJ]
 exact Ja _ _ _ _ _ _ _ _ _ h1 h2 h3 h4 h5 h6 h7
end K05
set_option maxRecDepth 100000
set_option maxHeartbeats 4000000
namespace K05
open PySem PyProof.Rows L2
noncomputable def MC:Tn->R Bool:=(zf (z9 xX (z9 ixD (z7 1) (z7 0)) (eC (.str "-="))))
noncomputable def TMK:Tn->R Fl:=(zo (yE (z9 ixD (yi [none,some 0] (iL xP (z8 (eL y1 (z8 (z7 0) zb)) zb)) (.one 0) MC (z7 0)) (eC (.int 0)))))
theorem tMK:xb=zw 1 TMK:=rfl
theorem QV {a b n:Nat}(hab:a<=b)(hb:b<=n):(Builtin.Str.strSliceIndices (some (a:Int)) (some (b:Int)) 1 n).length=b-a:=by
 rw [StrLaws.strSliceIndices_plain hab hb]; simp
theorem Vx (a b n:Nat):Builtin.Str.strSliceIndices (some (a:Int)) (some (b:Int)) 1 n=Builtin.Str.strSliceIndices (some (a:Int)) (some ((min b n:Nat):Int)) 1 n:=by
 have h1:¬ ((a:Int)<0):=by omega
 have h2:¬ ((b:Int)<0):=by omega
 have h3:¬ (((min b n:Nat):Int)<0):=by omega
 have e:max (0:Int) (min (b:Int) (n:Int))=max (0:Int) (min ((min b n:Nat):Int) (n:Int)):=by omega
 simp only [Builtin.Str.strSliceIndices,h1,h2,h3,if_false,e,show ((1:Int)>0)=True from by simp,if_true]
theorem uS (cs:List Nat)(b n:Nat)(hb:b<=cs.length):Txt.slice (S cs) (some (b:Int)) (some ((b:Int)+(n:Nat)))=S ((cs.drop b).take n):=by
 have e0:(b:Int)+(n:Nat)=((b+n:Nat):Int):=by omega
 have hle:b<=min (b+n) cs.length:=by omega
 have hle2:min (b+n) cs.length<=(S cs).length:=by rw [yz]; omega
 have hp:=StrLaws.sliced_plain (S cs) hle hle2
 have hl:=QV hle hle2
 rw [uE] at hp
 have et:(cs.drop b).take (min (b+n) cs.length-b)=(cs.drop b).take n:=by
  by_cases h:b+n<=cs.length
  ·congr 1; omega
  ·rw [List.take_of_length_le (by rw [List.length_drop]; omega),List.take_of_length_le (by rw [List.length_drop]; omega)]
 rw [et] at hp
 unfold Txt.slice
 rw [e0,Vx,yz]
 rw [yz] at hp hl
 by_cases hw:(Builtin.Str.strSliceIndices (some (b:Int)) (some ((min (b+n) cs.length:Nat):Int)) 1 cs.length).length=cs.length
 ·rw [if_pos (by rw [hw]; simp)]
  rw [hl] at hw
  have hb0:b=0:=by omega
  subst hb0
  rw [List.drop_zero,List.take_of_length_le (by omega)]
 ·rw [if_neg (by simp [hw]),hp]
  rfl
theorem jz (l:List Nat)(h:∀ c∈l,c<128):Txt.lower (S l)=S (l.map lo1):=by
 rw [lower_ascii (x:=S l) (by rw [uE]; exact h)]
 show (⟨l.toArray.map lo1⟩:Str)=⟨(l.map lo1).toArray⟩
 rw [List.map_toArray]
noncomputable def JQ (L:List Nat)(a:Nat)(cs:List Nat)(p:Nat):Bool:=decide (a<=p)&&decide (((cs.drop (p-a)).take L.length).map lo1=L)
theorem wu (l:List Nat)(h:l.length<=1000):y1 [.str (S l)]=.ok (.int (l.length:Nat)):=by rw [kY (by rw [yz,sizeLine_eq]; omega),yz]
theorem sm0 {g:Str->R D}{t:Tn->R D}{τ:Tn}{z:Str}(h:t τ=.ok (.str z)):qP g t τ=g z:=by unfold qP; rw [h,R.ok_bind]
theorem z37 (A B:List Nat)(m:Nat)(j:Jt A B m)(cs:List Nat)(hc:∀ c∈cs,c<128)(hl:cs.length<=40)(p:Nat)(hp:p<=cs.length):vM [.str (S (A++m::B)),.str (S cs),.int (p:Nat)]=.ok (.bl (JQ (A++B) A.length cs p)):=by
 have h1:=jW A B m j
 have h2:=XZ A B m j
 have hL:(A++B).length<=8:=by rw [List.length_append]; exact j.l1
 have h3:=wu (A++B) (by omega)
 have hAB:A.length<=(A++B).length:=by rw [List.length_append]; omega
 unfold JQ
 generalize A++B=L at *
 by_cases hq:A.length<=p
 ·have e1:decide ((0:Int)<=((p:Nat):Int)-(A.length:Nat))=true:=decide_eq_true (by omega)
  have eb:((p:Nat):Int)-(A.length:Nat)=((p-A.length:Nat):Int):=by omega
  have hs:slD (.str (S cs)) (some (((p:Nat):Int)-(A.length:Nat))) (some (((p:Nat):Int)-(A.length:Nat)+(L.length:Nat)))=.ok (.str (S ((cs.drop (p-A.length)).take L.length))):=by
   rw [eb]
   show (if (S cs).length<=sizeLine then _ else _)=_
   rw [if_pos (by rw [yz,sizeLine_eq]; omega),uS cs _ _ (by omega)]
  have hw:qC (S ((cs.drop (p-A.length)).take L.length))=.ok (.str (S (((cs.drop (p-A.length)).take L.length).map lo1))):=by
   show (if _<=5592405 then _ else _)=_
   rw [if_pos (by rw [yz,List.length_take]; omega),jz _ fun c h=>hc c (List.mem_of_mem_drop (List.mem_of_mem_take h))]
  have he:eqR false (.str (S (((cs.drop (p-A.length)).take L.length).map lo1))) (.str (S L))=.ok (.bl (decide (((cs.drop (p-A.length)).take L.length).map lo1=L))):=by
   rw [jG,z2d]; rfl
  rw [decide_eq_true hq,Bool.true_and]
  generalize (decide (((cs.drop (p-A.length)).take L.length).map lo1=L))=r at *
  generalize S (((cs.drop (p-A.length)).take L.length).map lo1)=X3 at *
  generalize S ((cs.drop (p-A.length)).take L.length)=X2 at *
  generalize ((L.length:Nat):Int)=n at *
  generalize ((A.length:Nat):Int)=a at *
  generalize ((p:Nat):Int)=P at *
  generalize S (A++m::B)=J at *
  generalize S cs=W at *
  generalize S L=LL at *
  have e5:∀ x0,qP qC (eSl (z7 1) (zO (z7 4)) (zO (z9 zB (z7 4) (eL y1 (z8 (z7 3) zb))))) [x0,some (.str W),some (.int P),some (.str LL),some (.int (P-a))]=.ok (.str X3):=fun x0=>by
   rw [sm0 (z:=X2) (by simp only [z7,z9,eL,zb,z8,eSl,zO,R.ok_bind,List.getElem?_cons_zero,List.getElem?_cons_succ,ya,h3,hs]),hw]
  simp only [vM,YR,zw,zh,zl,zo,z7,eC,z9,eL,zb,z8,xM,asB,R.ok_bind,List.map_cons,List.map_nil,List.length_cons,List.length_nil,List.replicate_succ,List.replicate_zero,List.cons_append,List.nil_append,List.getElem?_cons_zero,List.getElem?_cons_succ,List.set_cons_zero,List.set_cons_succ,Nat.reduceAdd,Nat.reduceSub,Nat.zero_add,yA,kA,if_true,h1,h2,e1,e5,he]
 ·have e1:decide ((0:Int)<=((p:Nat):Int)-(A.length:Nat))=false:=decide_eq_false (by omega)
  rw [decide_eq_false hq,Bool.false_and]
  generalize ((L.length:Nat):Int)=n at *
  generalize ((A.length:Nat):Int)=a at *
  generalize ((p:Nat):Int)=P at *
  generalize S (A++m::B)=J at *
  generalize S cs=W at *
  generalize S L=LL at *
  simp only [vM,YR,zw,zh,zl,zo,z7,eC,z9,eL,zb,z8,xM,asB,R.ok_bind,List.map_cons,List.map_nil,List.length_cons,List.length_nil,List.replicate_succ,List.replicate_zero,List.cons_append,List.nil_append,List.getElem?_cons_zero,List.getElem?_cons_succ,List.set_cons_zero,List.set_cons_succ,Nat.reduceAdd,Nat.reduceSub,Nat.zero_add,yA,kA,if_false,Bool.false_eq_true,h1,h2,e1]
theorem U1 {β:Type}(f:Nat->β)(a:Nat):∀ n,(List.range n).filterMap (fun i=>if i=a then some (f i) else none)=if a<n then [f a] else []
 | 0=>rfl
 | n+1=>by
  rw [List.range_succ,List.filterMap_append,U1 f a n]
  by_cases h:a<n
  ·rw [if_pos h,if_pos (by omega)]
   simp [show ¬ n=a by omega]
  ·by_cases h2:n=a
   ·subst h2; simp
   ·rw [if_neg h,if_neg (by omega)]
    simp [h2]
theorem z2s (c:Nat):xX (.str (one c)) (.str "-=")=.ok (.bl (decide (c=45\/c=61))):=by
 show R.ok (D.bl (inS (one c) ("-=":Str)))=_
 rw [u6]
 have:(("-=":Str)).cps.toList=[45,61]:=by decide
 rw [this]
 congr 2
 simp
theorem z2u (A B:List Nat)(m:Nat)(j:Jt A B m)(i:Nat)(hi:i<(A++m::B).length):∃ c,(A++m::B)[i]?=some c/\((c=45\/c=61)↔i=A.length):=by
 refine ⟨_,List.getElem?_eq_getElem hi,?_⟩
 by_cases h1:i<A.length
 ·rw [List.getElem_append_left h1]
  have:=j.a1 _ (List.getElem_mem h1)
  constructor
  ·rintro (e | e)<;>simp [e] at this
  ·intro e; omega
 ·by_cases h2:i=A.length
  ·subst h2
   simp [j.mm]
  ·have e1:i-A.length=(i-A.length-1)+1:=by omega
   have hb:i-A.length-1<B.length:=by simp at hi; omega
   have e2:(A++m::B)[i]=B[i-A.length-1]:=by
    rw [List.getElem_append_right (by omega)]
    rw [List.getElem_cons]
    rw [dif_neg (by omega)]
   rw [e2]
   have:=j.b1 _ (List.getElem_mem hb)
   constructor
   ·rintro (e | e)<;>simp [e] at this
   ·intro e; omega
theorem Ue (A B:List Nat)(m:Nat)(j:Jt A B m):xb [.str (S (A++m::B))]=.ok (.int (A.length:Nat)):=by
 have hl:(A++m::B).length<=9:=by have:=j.l1; simp; omega
 have hA:A.length<(A++m::B).length:=by simp
 have h1:=wu (A++m::B) (by omega)
 have e1:xP [D.int ((A++m::B).length:Nat)]=.ok (rng 0 (((A++m::B).length:Nat):Int).toNat):=vn (by omega) (by omega)
 rw [Int.toNat_natCast] at e1
 have hc:=v7 (f:=zP (Tgt.one 0).asg MC (z7 0) [none,some (.str (S (A++m::B)))]) (lo:=0) (n:=(A++m::B).length) (o:=fun i=>if i=A.length then some (D.int ((0:Int)+(i:Nat))) else none) fun i hi=>by
  obtain ⟨c,hx,hk⟩:=z2u A B m j i hi
  have hx:=ud (cs:=A++m::B) (i:=(0:Int)+(i:Nat)) (c:=c) (by omega) (by omega) (by rw [Int.zero_add,Int.toNat_natCast]; exact hx)
  have hin:=z2s c
  by_cases h:i=A.length
  ·rw [if_pos h]
   rw [decide_eq_true (hk.mpr h)] at hin
   generalize (0:Int)+((i:Nat):Int)=I at *
   generalize S (A++m::B)=J at *
   simp -implicitDefEqProofs only [zP,zM,MC,z7,eC,z9,zf,asB,Tgt.asg,R.ok_bind,List.getElem?_cons_zero,List.getElem?_cons_succ,List.set_cons_zero,if_true,hx,hin]
  ·rw [if_neg h]
   rw [decide_eq_false (fun z=>h (hk.mp z))] at hin
   generalize (0:Int)+((i:Nat):Int)=I at *
   generalize S (A++m::B)=J at *
   simp -implicitDefEqProofs only [zP,zM,MC,z7,eC,z9,zf,asB,Tgt.asg,R.ok_bind,List.getElem?_cons_zero,List.getElem?_cons_succ,List.set_cons_zero,if_false,Bool.false_eq_true,hx,hin]
 rw [U1 (fun i=>D.int ((0:Int)+(i:Nat))) A.length,if_pos hA,Int.zero_add] at hc
 have hk:=yZ (ys:=[D.int ((A.length:Nat):Int)]) (by simp)
 rw [tMK]
 generalize ((A.length:Nat):Int)=a at *
 generalize (A++m::B).length=N at *
 generalize ((N:Nat):Int)=NN at *
 generalize S (A++m::B)=J at *
 simp -implicitDefEqProofs only [TMK,yx,yZ,xC,xw,wg,xZ,yj,j3,KR,Nat.reduceLeDiff,zw,zo,z7,eC,z9,eL,zb,z8,iL,R.ok_bind,List.map_cons,List.map_nil,List.length_cons,List.length_nil,List.replicate_zero,List.cons_append,List.nil_append,List.getElem?_cons_zero,Nat.reduceSub,Nat.zero_add,h1,e1,hc]
end K05
set_option maxRecDepth 100000
set_option maxHeartbeats 4000000
namespace K05
open PySem PyProof.Rows L2
theorem WX (A:Str)(c:Nat):zw 1 (zo (xM (eUn (wL "str") (z7 0)) (xM (z9 (eqR false) (eL y1 (z8 (z7 0) zb)) (eC (.int 1))) (z9 xX (z7 0) (eC (.str A)))))) [.str (one c)]=.ok (.bl (decide (c∈A.cps.toList))):=by
 have h1:wL "str" (.str (one c))=.ok (.bl true):=rfl
 have h2:=wu [c] (by simp)
 have h2:y1 [.str (one c)]=.ok (.int 1):=h2
 have h3:xX (.str (one c)) (.str A)=.ok (.bl (decide (c∈A.cps.toList))):=by
  show R.ok (D.bl (inS (one c) A))=_
  rw [u6]
 have h4:eqR false (.int 1) (.int 1)=.ok (.bl true):=by rw [xJ]; rfl
 generalize one c=z at *
 generalize decide (c∈A.cps.toList)=b at *
 simp only [zw,zo,z7,eC,z9,eUn,eL,zb,z8,xM,asB,R.ok_bind,List.map_cons,List.map_nil,List.length_cons,List.length_nil,List.replicate_zero,List.cons_append,List.nil_append,List.getElem?_cons_zero,Nat.reduceSub,Nat.zero_add,if_true,h1,h2,h3,h4]
noncomputable instance (c:Nat):Decidable (okS c):=by unfold okS; infer_instance
theorem Jh (c:Nat):vf [.str (one c)]=.ok (.bl (decide (okS c))):=WX Z2 c
theorem JZ (cs:List Nat):L2.signs (S cs)=cs.map yB:=by
 unfold L2.signs
 rw [uE]
 rfl
theorem vO (cs:List Nat)(h0:1<=cs.length)(h1:cs.length<=40):zx [.str (S cs)]=.ok (.bl (cs.all fun c=>decide (okS c))):=by
 have i1:wL "str" (.str (S cs))=.ok (.bl true):=rfl
 have h2:=wu cs (by omega)
 have e1:decide ((1:Int)<=(cs.length:Nat))=true:=decide_eq_true (by omega)
 have e2:decide (((cs.length:Nat):Int)<=40)=true:=decide_eq_true (by omega)
 have hc:yW (zP (Tgt.one 0).asg (fun _=>.ok true) (eL vf (z8 (z7 0) zb)) [none]) (cs.map yB)=.ok (cs.filterMap fun c=>some (D.bl (decide (okS c)))):=xn fun c _=>by
  have:=Jh c
  unfold yB
  generalize one c=z at *
  simp only [zP,zM,z7,eL,zb,z8,Tgt.asg,R.ok_bind,List.getElem?_cons_zero,List.set_cons_zero,if_true,this]
 have e3:(cs.filterMap fun c=>some (D.bl (decide (okS c))))=(cs.map fun c=>decide (okS c)).map D.bl:=by
  rw [List.map_map]; clear hc e2 e1 h2 i1 h1 h0; induction cs with
  | nil=>rfl
  | cons c cs ih=>rw [List.filterMap_cons,List.map_cons,ih]; rfl
 rw [e3] at hc
 have hk:=yZ (ys:=(cs.map fun c=>decide (okS c)).map D.bl) (by rw [List.length_map,List.length_map]; omega)
 have ha:=Qi (bs:=cs.map fun c=>decide (okS c))
 have e4:((cs.map fun c=>decide (okS c)).all id)=cs.all fun c=>decide (okS c):=by rw [List.all_map]; rfl
 rw [e4] at ha
 have hs:=JZ cs
 have hq:vN (.str (S cs))=.ok (cs.map yB):=by show R.ok (L2.signs (S cs))=_; rw [hs]
 generalize (cs.map fun c=>decide (okS c)).map D.bl=BL at *
 generalize (cs.all fun c=>decide (okS c))=r at *
 generalize cs.map yB=L at *
 generalize ((cs.length:Nat):Int)=l at *
 generalize S cs=W at *
 simp only [zx,v5,yx,xC,xw,zk,zw,zh,zo,sIf,z7,eC,eUn,eL,zb,z8,zf,bOr,xD,yL,yR,asB,vN,R.ok_bind,List.map_cons,List.map_nil,List.length_cons,List.length_nil,List.replicate_zero,List.cons_append,List.nil_append,List.getElem?_cons_zero,Nat.reduceSub,Nat.zero_add,uf,if_true,if_false,Bool.false_eq_true,i1,h2,e1,e2,Bool.not_true,hs,hc,hk,ha]
theorem vT (cs:List Nat)(h:cs.length=0\/40<cs.length)(hl:cs.length<=1000):zx [.str (S cs)]=.ok (.bl false):=by
 have i1:wL "str" (.str (S cs))=.ok (.bl true):=rfl
 have h2:=wu cs hl
 rcases h with h | h
 ·have e1:decide ((1:Int)<=(cs.length:Nat))=false:=decide_eq_false (by omega)
  generalize ((cs.length:Nat):Int)=l at *
  generalize S cs=W at *
  simp only [zx,v5,yx,xC,xw,zk,zw,zh,zo,sIf,z7,eC,eUn,eL,zb,z8,zf,bOr,xD,yL,yR,asB,R.ok_bind,List.map_cons,List.map_nil,List.length_cons,List.length_nil,List.replicate_zero,List.cons_append,List.nil_append,List.getElem?_cons_zero,Nat.reduceSub,Nat.zero_add,uf,if_true,if_false,Bool.false_eq_true,i1,h2,e1,Bool.not_true,Bool.not_false]
 ·have e1:decide ((1:Int)<=(cs.length:Nat))=true:=decide_eq_true (by omega)
  have e2:decide (((cs.length:Nat):Int)<=40)=false:=decide_eq_false (by omega)
  generalize ((cs.length:Nat):Int)=l at *
  generalize S cs=W at *
  simp only [zx,v5,yx,xC,xw,zk,zw,zh,zo,sIf,z7,eC,eUn,eL,zb,z8,zf,bOr,xD,yL,yR,asB,R.ok_bind,List.map_cons,List.map_nil,List.length_cons,List.length_nil,List.replicate_zero,List.cons_append,List.nil_append,List.getElem?_cons_zero,Nat.reduceSub,Nat.zero_add,uf,if_true,if_false,Bool.false_eq_true,i1,h2,e1,e2,Bool.not_true,Bool.not_false]
theorem xy (d:D)(h:wL "str" d=.ok (.bl false)):zx [d]=.ok (.bl false):=by
 simp only [zx,v5,yx,xC,xw,zk,zw,zh,zo,sIf,z7,eC,eUn,eL,zb,z8,zf,bOr,xD,yL,yR,asB,R.ok_bind,List.map_cons,List.map_nil,List.length_cons,List.length_nil,List.replicate_zero,List.cons_append,List.nil_append,List.getElem?_cons_zero,Nat.reduceSub,Nat.zero_add,if_true,h,Bool.not_false]
theorem Qk (d:D)(h:zx [d]=.ok (.bl true)):yP [d]=.ok (.bl true):=by
 simp only [yP,vR,zk,zw,zh,zo,sIf,z7,eC,eL,zb,z8,zf,xD,asB,R.ok_bind,List.map_cons,List.map_nil,List.length_cons,List.length_nil,List.replicate_zero,List.cons_append,List.nil_append,List.getElem?_cons_zero,Nat.reduceSub,Nat.zero_add,if_false,Bool.false_eq_true,h,Bool.not_true]
theorem UX (d:D)(h:zx [d]=.ok (.bl false)):yP [d]=.err "BadWord":=by
 have e:∀ τ,Vo "BadWord" (z8 (eC (.str "a word is a text of 1 to 40 signs of words")) zb) τ=.err "BadWord":=fun τ=>by
  unfold Vo
  simp only [eC,zb,z8,R.ok_bind,List.length_cons,List.length_nil,Nat.zero_add]
  rw [if_pos (by rw [sizeLine_eq]; decide)]
 simp only [yP,vR,zk,zw,zh,zo,sIf,z7,eC,eL,zb,z8,zf,xD,asB,R.ok_bind,R.err_bind,List.map_cons,List.map_nil,List.length_cons,List.length_nil,List.replicate_zero,List.cons_append,List.nil_append,List.getElem?_cons_zero,Nat.reduceSub,Nat.zero_add,if_true,h,Bool.not_false,e]
noncomputable def isL (c:Nat):Bool:=decide (lo1 c∈AZ.cps.toList)
noncomputable def yt (cs:List Nat)(i:Nat):Bool:=match cs[i]? with
 | some c=>isL c
 | none=>false
theorem uW {cs:List Nat}{i c:Nat}(h:cs[i]?=some c):yt cs i=isL c:=by unfold yt; rw [h]
theorem Yw (A:Str)(c:Nat)(h:c<128):zw 1 (zo (z9 xX (qP qC (z7 0)) (eC (.str A)))) [.str (one c)]=.ok (.bl (decide (lo1 c∈A.cps.toList))):=by
 have hw:qC (one c)=.ok (.str (one (lo1 c))):=by
  show (if _<=5592405 then _ else _)=_
  have:=jz [c] (fun x hx=>by rw [List.mem_singleton.mp hx]; exact h)
  rw [if_pos (by show 1<=5592405; decide)]
  exact congrArg (fun z=>R.ok (D.str z)) this
 have h3:xX (.str (one (lo1 c))) (.str A)=.ok (.bl (decide (lo1 c∈A.cps.toList))):=by
  show R.ok (D.bl (inS (one (lo1 c)) A))=_
  rw [u6]
 have h5:qP qC (z7 0) [some (.str (one c))]=.ok (.str (one (lo1 c))):=by rw [sm0 (z:=one c) rfl,hw]
 generalize decide (lo1 c∈A.cps.toList)=b at *
 generalize one (lo1 c)=z2 at *
 generalize one c=z at *
 simp only [zw,zo,eC,z9,R.ok_bind,List.map_cons,List.map_nil,List.length_cons,List.length_nil,List.replicate_zero,List.cons_append,List.nil_append,Nat.reduceSub,Nat.zero_add,h5,h3]
theorem vW (c:Nat)(h:c<128):ye [.str (one c)]=.ok (.bl (isL c)):=Yw AZ c h
theorem ZE (A:Str)(cs:List Nat)(hc:∀ c∈cs,c<128)(hl:cs.length<=40)(i:Int):zw 2 (zo (xM (yL leD ltD (eC (.int 0)) (z7 1) (eL y1 (z8 (z7 0) zb))) (z9 xX (eL zW (z8 (z9 ixD (z7 0) (z7 1)) zb)) (eC (.str A))))) [.str (S cs),.int i]=.ok (.bl (decide (0<=i)&&match cs[i.toNat]? with | some c=>decide (lo1 c∈A.cps.toList) | none=>false)):=by
 have h2:=wu cs (by omega)
 by_cases h0:0<=i
 ·have e0:decide (0<=i)=true:=decide_eq_true h0
  rw [e0,Bool.true_and]
  by_cases h1:i<(cs.length:Nat)
  ·have e1:decide (i<((cs.length:Nat):Int))=true:=decide_eq_true h1
   have hi:i.toNat<cs.length:=by omega
   have hg:cs[i.toNat]?=some cs[i.toNat]:=List.getElem?_eq_getElem hi
   have hx:=ud (cs:=cs) (i:=i) (by omega) h0 hg
   have hs:=Kf cs[i.toNat] (hc _ (List.getElem_mem hi))
   have h3:xX (.str (one (lo1 cs[i.toNat]))) (.str A)=.ok (.bl (decide (lo1 cs[i.toNat]∈A.cps.toList))):=by
    show R.ok (D.bl (inS (one (lo1 cs[i.toNat])) A))=_
    rw [u6]
   rw [hg]
   dsimp only
   generalize decide (lo1 cs[i.toNat]∈A.cps.toList)=b at *
   generalize one (lo1 cs[i.toNat])=z2 at *
   generalize one cs[i.toNat]=z at *
   generalize ((cs.length:Nat):Int)=l at *
   generalize S cs=W at *
   simp only [zw,zo,z7,eC,z9,eL,zb,z8,xM,yL,asB,R.ok_bind,List.map_cons,List.map_nil,List.length_cons,List.length_nil,List.replicate_zero,List.cons_append,List.nil_append,List.getElem?_cons_zero,List.getElem?_cons_succ,Nat.reduceAdd,Nat.reduceSub,Nat.zero_add,yy,uf,if_true,h2,e0,e1,hx,hs,h3]
  ·have e1:decide (i<((cs.length:Nat):Int))=false:=decide_eq_false h1
   have hg:cs[i.toNat]?=none:=List.getElem?_eq_none_iff.mpr (by omega)
   rw [hg]
   dsimp only
   generalize ((cs.length:Nat):Int)=l at *
   generalize S cs=W at *
   simp only [zw,zo,z7,eC,z9,eL,zb,z8,xM,yL,asB,R.ok_bind,List.map_cons,List.map_nil,List.length_cons,List.length_nil,List.replicate_zero,List.cons_append,List.nil_append,List.getElem?_cons_zero,List.getElem?_cons_succ,Nat.reduceAdd,Nat.reduceSub,Nat.zero_add,yy,uf,if_true,if_false,Bool.false_eq_true,h2,e0,e1]
 ·have e0:decide (0<=i)=false:=decide_eq_false h0
  rw [e0,Bool.false_and]
  generalize ((cs.length:Nat):Int)=l at *
  generalize S cs=W at *
  simp only [zw,zo,z7,eC,z9,eL,zb,z8,xM,yL,asB,R.ok_bind,List.map_cons,List.map_nil,List.length_cons,List.length_nil,List.replicate_zero,List.cons_append,List.nil_append,List.getElem?_cons_zero,List.getElem?_cons_succ,Nat.reduceAdd,Nat.reduceSub,Nat.zero_add,yy,uf,if_false,Bool.false_eq_true,h2,e0]
theorem jD (cs:List Nat)(hc:∀ c∈cs,c<128)(hl:cs.length<=40)(i:Int):yb [.str (S cs),.int i]=.ok (.bl (decide (0<=i)&&yt cs i.toNat)):=ZE AZ cs hc hl i
end K05
set_option maxRecDepth 100000
set_option maxHeartbeats 4000000
namespace K05
open PySem PyProof.Rows L2
noncomputable def KA:Tn->R Bool:=(yu (zf (z9 ltD (z7 2) (z7 1))) (zf (eL ye (z8 (z9 ixD (z7 0) (z9 xH (z9 xH (z7 1) (z7 2)) (eC (.int 1)))) zb))))
noncomputable def TA:Tn->R Fl:=(zh (zl 2 (eC (.int 0))) (zh (xU KA (jh 2 vA (eC (.int 1)))) (zo (z7 2))))
theorem tA:yD=zw 3 TA:=rfl
noncomputable def KB:Tn->R Bool:=(yu (zf (z9 ltD (z9 zB (z7 1) (z7 2)) (eL y1 (z8 (z7 0) zb)))) (zf (eL ye (z8 (z9 ixD (z7 0) (z9 zB (z7 1) (z7 2))) zb))))
noncomputable def TB:Tn->R Fl:=(zh (zl 2 (eC (.int 0))) (zh (xU KB (jh 2 vA (eC (.int 1)))) (zo (z7 2))))
theorem tB:yo=zw 3 TB:=rfl
theorem ais (i j:Int):vA (.int i) (.int j)=.ok (.int (i+j)):=rfl
theorem Yy (f:Nat->Int):∀ n,(∀ j,j<=n->wJ (fun i j=>decide (i<j)) f n<=f j)/\∃ i,i<=n/\wJ (fun i j=>decide (i<j)) f n=f i
 | 0=>⟨fun j hj=>by obtain rfl:j=0:=Nat.le_zero.mp hj; exact Int.le_refl _,0,Nat.le_refl _,rfl⟩
 | k+1=>by
  obtain ⟨a,i,hi,e⟩:=Yy f k
  show (∀ j,j<=k+1->(if decide (f (k+1)<wJ (fun i j=>decide (i<j)) f k)=true then f (k+1) else wJ (fun i j=>decide (i<j)) f k)<=f j)/\∃ i,i<=k+1/\(if decide (f (k+1)<wJ (fun i j=>decide (i<j)) f k)=true then f (k+1) else wJ (fun i j=>decide (i<j)) f k)=f i
  by_cases h:decide (f (k+1)<wJ (fun i j=>decide (i<j)) f k)=true
  ·rw [if_pos h]
   have h':=of_decide_eq_true h
   refine ⟨fun j hj=>?_,k+1,Nat.le_refl _,rfl⟩
   by_cases hj2:j=k+1
   ·subst hj2; omega
   ·have:=a j (by omega); omega
  ·rw [if_neg h]
   have h':¬ (f (k+1)<wJ (fun i j=>decide (i<j)) f k):=fun z=>h (decide_eq_true z)
   refine ⟨fun j hj=>?_,i,by omega,e⟩
   by_cases hj2:j=k+1
   ·subst hj2; omega
   ·exact a j (by omega)
theorem W0 (n:Int)(ns:List Int):∃ k,vQ [.lst ((n::ns).map D.int)]=.ok (.int k)/\(∀ x∈n::ns,k<=x)/\k∈n::ns:=by
 have e:vQ [.lst ((n::ns).map D.int)]=.ok (.int (V3 (n::ns))):=by
  show (match wR ((n::ns).map D.int) with
   | some (n::ns)=>R.ok (D.int (V3 (n::ns)))
   | _=>.bad)=_
  rw [jo]
 obtain ⟨a,i,hi,ei⟩:=Yy (fun i=>(n::ns).getD i 0) ((n::ns).length-1)
 refine ⟨_,e,fun x hx=>?_,?_⟩
 ·obtain ⟨j,hj,rfl⟩:=List.getElem_of_mem hx
  have:=a j (by simp at hj ⊢; omega)
  rw [List.getD_eq_getElem?_getD,List.getElem?_eq_getElem hj] at this
  exact this
 ·show wJ _ _ _∈_
  rw [ei]
  have hl:i<(n::ns).length:=by simp at hi ⊢; omega
  rw [List.getD_eq_getElem?_getD,List.getElem?_eq_getElem hl]
  exact List.getElem_mem hl
structure AheadIs (cs:List Nat)(p m:Nat):Prop where
 le:m<=p
 all:∀ i,i<m->yt cs (p-1-i)=true
 fin:m=p\/yt cs (p-1-m)=false
structure BehindIs (cs:List Nat)(p m:Nat):Prop where
 le:p+m<=cs.length
 all:∀ i,i<m->yt cs (p+i)=true
 fin:p+m=cs.length\/yt cs (p+m)=false
theorem Kg (cs:List Nat)(hc:∀ c∈cs,c<128)(hl:cs.length<=40)(p m:Nat)(hp:p<=cs.length):KA [some (.str (S cs)),some (.int (p:Nat)),some (.int (m:Nat))]=.ok (decide (m<p)&&yt cs (p-1-m)):=by
 by_cases h:m<p
 ·have e1:decide (((m:Nat):Int)<(p:Nat))=true:=decide_eq_true (by omega)
  have hi:p-1-m<cs.length:=by omega
  have hg:cs[p-1-m]?=some cs[p-1-m]:=List.getElem?_eq_getElem hi
  have ei:((p:Nat):Int)-(m:Nat)-1=((p-1-m:Nat):Int):=by omega
  have hx:=ud (cs:=cs) (i:=((p:Nat):Int)-(m:Nat)-1) (by omega) (by omega) (by rw [ei,Int.toNat_natCast]; exact hg)
  have hs:=vW cs[p-1-m] (hc _ (List.getElem_mem hi))
  rw [decide_eq_true h,Bool.true_and,uW hg]
  generalize isL cs[p-1-m]=b at *
  generalize one cs[p-1-m]=z at *
  generalize ((p:Nat):Int)=P at *
  generalize ((m:Nat):Int)=M at *
  generalize S cs=W at *
  simp only [KA,z7,eC,z9,eL,zb,z8,zf,yu,asB,R.ok_bind,List.getElem?_cons_zero,List.getElem?_cons_succ,yA,yy,if_true,e1,hx,hs]
 ·have e1:decide (((m:Nat):Int)<(p:Nat))=false:=decide_eq_false (by omega)
  rw [decide_eq_false h,Bool.false_and]
  generalize ((p:Nat):Int)=P at *
  generalize ((m:Nat):Int)=M at *
  generalize S cs=W at *
  simp only [KA,z7,eC,z9,eL,zb,z8,zf,yu,asB,R.ok_bind,List.getElem?_cons_zero,List.getElem?_cons_succ,yA,yy,if_false,Bool.false_eq_true,e1]
theorem K4 (cs:List Nat)(hc:∀ c∈cs,c<128)(hl:cs.length<=40)(p m:Nat):KB [some (.str (S cs)),some (.int (p:Nat)),some (.int (m:Nat))]=.ok (decide (p+m<cs.length)&&yt cs (p+m)):=by
 have h2:=wu cs (by omega)
 by_cases h:p+m<cs.length
 ·have e1:decide (((p:Nat):Int)+(m:Nat)<(cs.length:Nat))=true:=decide_eq_true (by omega)
  have hg:cs[p+m]?=some cs[p+m]:=List.getElem?_eq_getElem h
  have ei:((p:Nat):Int)+(m:Nat)=((p+m:Nat):Int):=by omega
  have hx:=ud (cs:=cs) (i:=((p:Nat):Int)+(m:Nat)) (by omega) (by omega) (by rw [ei,Int.toNat_natCast]; exact hg)
  have hs:=vW cs[p+m] (hc _ (List.getElem_mem h))
  rw [decide_eq_true h,Bool.true_and,uW hg]
  generalize isL cs[p+m]=b at *
  generalize one cs[p+m]=z at *
  generalize ((p:Nat):Int)=P at *
  generalize ((m:Nat):Int)=M at *
  generalize ((cs.length:Nat):Int)=l at *
  generalize S cs=W at *
  simp only [KB,z7,z9,eL,zb,z8,zf,yu,asB,R.ok_bind,List.getElem?_cons_zero,List.getElem?_cons_succ,ya,yy,if_true,h2,e1,hx,hs]
 ·have e1:decide (((p:Nat):Int)+(m:Nat)<(cs.length:Nat))=false:=decide_eq_false (by omega)
  rw [decide_eq_false h,Bool.false_and]
  generalize ((p:Nat):Int)=P at *
  generalize ((m:Nat):Int)=M at *
  generalize ((cs.length:Nat):Int)=l at *
  generalize S cs=W at *
  simp only [KB,z7,z9,eL,zb,z8,zf,yu,asB,R.ok_bind,List.getElem?_cons_zero,List.getElem?_cons_succ,ya,yy,if_false,Bool.false_eq_true,h2,e1]
theorem Ka (a b:Option D)(m:Nat):jh 2 vA (eC (.int 1)) [a,b,some (.int (m:Nat))]=.ok (.nx [a,b,some (.int ((m+1:Nat):Int))]):=by
 have e:((m:Nat):Int)+1=((m+1:Nat):Int):=by omega
 rw [<- e]
 generalize ((m:Nat):Int)=M at *
 simp only [jh,z7,eC,R.ok_bind,List.getElem?_cons_zero,List.getElem?_cons_succ,List.set_cons_zero,List.set_cons_succ,ais]
noncomputable def mu3 (n:Nat):Tn->Nat
 | [_,_,some (.int m)]=>n-m.toNat
 | _=>0
theorem kd (cs:List Nat)(hc:∀ c∈cs,c<128)(hl:cs.length<=40)(p:Nat)(hp:p<=cs.length):∃ m:Nat,yD [.str (S cs),.int (p:Nat)]=.ok (.int (m:Nat))/\AheadIs cs p m:=by
 obtain ⟨τ',h1,⟨m,rfl,g1,g2⟩,h3⟩:=kX (k:=KA) (body:=jh 2 vA (eC (.int 1))) (fun τ=>∃ m:Nat,τ=[some (.str (S cs)),some (.int (p:Nat)),some (.int (m:Nat))]/\m<=p/\∀ i,i<m->yt cs (p-1-i)=true) (mu3 p) (by
  rintro τ ⟨m,rfl,g1,g2⟩
  have hk:=Kg cs hc hl p m hp
  by_cases h:m<p
  ·rw [decide_eq_true h,Bool.true_and] at hk
   cases hb:yt cs (p-1-m) with
   | false=>rw [hb] at hk; exact .inl hk
   | true =>
    rw [hb] at hk
    refine .inr ⟨hk,_,Ka _ _ m,⟨m+1,rfl,h,fun i hi=>?_⟩,?_⟩
    ·by_cases hi2:i=m
     ·rw [hi2]; exact hb
     ·exact g2 i (by omega)
    ·show p-(((m+1:Nat):Int)).toNat<p-(((m:Nat):Int)).toNat
     omega
  ·rw [decide_eq_false h,Bool.false_and] at hk
   exact .inl hk) [some (.str (S cs)),some (.int (p:Nat)),some (.int ((0:Nat):Int))] ⟨0,rfl,Nat.zero_le _,fun i hi=>absurd hi (by omega)⟩
 rw [Kg cs hc hl p m hp] at h3
 have h3:(decide (m<p)&&yt cs (p-1-m))=false:=R.ok.inj h3
 refine ⟨m,?_,g1,g2,?_⟩
 ·have e0:((0:Nat):Int)=0:=rfl
  rw [e0] at h1
  rw [tA]
  generalize ((p:Nat):Int)=P at *
  generalize ((m:Nat):Int)=M at *
  generalize S cs=W at *
  simp only [TA,zw,zh,zl,zo,z7,eC,R.ok_bind,List.map_cons,List.map_nil,List.length_cons,List.length_nil,List.replicate_succ,List.replicate_zero,List.cons_append,List.nil_append,List.getElem?_cons_zero,List.getElem?_cons_succ,List.set_cons_zero,List.set_cons_succ,Nat.reduceAdd,Nat.reduceSub,Nat.zero_add,h1]
 ·by_cases h:m=p
  ·exact .inl h
  ·rw [decide_eq_true (by omega),Bool.true_and] at h3
   exact .inr h3
theorem jq (cs:List Nat)(hc:∀ c∈cs,c<128)(hl:cs.length<=40)(p:Nat)(hp:p<=cs.length):∃ m:Nat,yo [.str (S cs),.int (p:Nat)]=.ok (.int (m:Nat))/\BehindIs cs p m:=by
 obtain ⟨τ',h1,⟨m,rfl,g1,g2⟩,h3⟩:=kX (k:=KB) (body:=jh 2 vA (eC (.int 1))) (fun τ=>∃ m:Nat,τ=[some (.str (S cs)),some (.int (p:Nat)),some (.int (m:Nat))]/\p+m<=cs.length/\∀ i,i<m->yt cs (p+i)=true) (mu3 cs.length) (by
  rintro τ ⟨m,rfl,g1,g2⟩
  have hk:=K4 cs hc hl p m
  by_cases h:p+m<cs.length
  ·rw [decide_eq_true h,Bool.true_and] at hk
   cases hb:yt cs (p+m) with
   | false=>rw [hb] at hk; exact .inl hk
   | true =>
    rw [hb] at hk
    refine .inr ⟨hk,_,Ka _ _ m,⟨m+1,rfl,by omega,fun i hi=>?_⟩,?_⟩
    ·by_cases hi2:i=m
     ·rw [hi2]; exact hb
     ·exact g2 i (by omega)
    ·show cs.length-(((m+1:Nat):Int)).toNat<cs.length-(((m:Nat):Int)).toNat
     omega
  ·rw [decide_eq_false h,Bool.false_and] at hk
   exact .inl hk) [some (.str (S cs)),some (.int (p:Nat)),some (.int ((0:Nat):Int))] ⟨0,rfl,hp,fun i hi=>absurd hi (by omega)⟩
 rw [K4 cs hc hl p m] at h3
 have h3:(decide (p+m<cs.length)&&yt cs (p+m))=false:=R.ok.inj h3
 refine ⟨m,?_,g1,g2,?_⟩
 ·have e0:((0:Nat):Int)=0:=rfl
  rw [e0] at h1
  rw [tB]
  generalize ((p:Nat):Int)=P at *
  generalize ((m:Nat):Int)=M at *
  generalize S cs=W at *
  simp only [TB,zw,zh,zl,zo,z7,eC,R.ok_bind,List.map_cons,List.map_nil,List.length_cons,List.length_nil,List.replicate_succ,List.replicate_zero,List.cons_append,List.nil_append,List.getElem?_cons_zero,List.getElem?_cons_succ,List.set_cons_zero,List.set_cons_succ,Nat.reduceAdd,Nat.reduceSub,Nat.zero_add,h1]
 ·by_cases h:p+m=cs.length
  ·exact .inl h
  ·rw [decide_eq_true (by omega),Bool.true_and] at h3
   exact .inr h3
end K05
set_option maxRecDepth 100000
set_option maxHeartbeats 4000000
namespace K05
open PySem PyProof.Rows L2
noncomputable def bT:Tn->R Fl:=(sIf (yu (zf (eL vM (z8 (z7 4) (z8 (z7 1) (z8 (z7 2) zb))))) (bOr (zf (z9 (isN false) (z7 3) (eC .non))) (zf (z9 gtT (eL vI (z8 (z7 4) zb)) (eL vI (z8 (z7 3) zb)))))) (zl 3 (z7 4)) zk)
noncomputable def TT_:Tn->R Fl:=(zh (zl 3 (eC .non)) (zh (xR (yR (z7 0)) (.one 4) bT) (zo (yE (z7 3)))))
theorem tT:xl=zw 5 TT_:=rfl
noncomputable def KW:Tn->R Bool:=(zf (z9 xX (eL yn (z8 (z7 0) zb)) (z7 1)))
noncomputable def TJW:Tn->R Fl:=(zh (zl 2 (qP qC (z7 1))) (zo (yi [none,some 2] (yR (z7 0)) (.one 0) KW (yE (z7 0)))))
theorem tJW:yC=zw 3 TJW:=rfl
noncomputable abbrev Jn:=List Nat×Nat×List Nat
noncomputable def jtx (j:Jn):List Nat:=j.1++j.2.1::j.2.2
noncomputable def Jk (j:Jn):Prop:=Jt j.1 j.2.2 j.2.1
noncomputable def zy (j:Jn):D:=.str (S (jtx j))
noncomputable def wY:Option Jn->D
 | none=>.non
 | some j=>zy j
noncomputable def WM (cs:List Nat)(p:Nat)(j:Jn):Bool:=JQ (j.1++j.2.2) j.1.length cs p
noncomputable def rkJ (j:Jn):List Int:=[((jtx j).length:Int),(j.1.length:Int)]
noncomputable def V2 (j:Jn):Option Jn->Bool
 | none=>true
 | some b=>qO (rkJ j) (rkJ b)
noncomputable def qE (cs:List Nat)(p:Nat)(b:Option Jn)(j:Jn):Option Jn:=if (WM cs p j&&V2 j b)=true then some j else b
noncomputable def uk (cs:List Nat)(p:Nat)(l:List Jn):Option Jn:=l.foldl (qE cs p) none
theorem Jk.len {j:Jn}(h:Jk j):(jtx j).length<=9:=by
 have:=h.l1
 unfold jtx
 simp
 omega
theorem z1D (j:Jn)(h:Jk j):vI [zy j]=.ok (.tup [.int ((jtx j).length:Nat),.int (j.1.length:Nat)]):=by
 have h1:=XZ j.1 j.2.2 j.2.1 h
 have h2:=wu (jtx j) (by have:=h.len; omega)
 have h1:xE [.str (S (jtx j))]=.ok (.int (j.1.length:Nat)):=h1
 unfold zy
 generalize (((jtx j).length:Nat):Int)=l at *
 generalize ((j.1.length:Nat):Int)=a at *
 generalize S (jtx j)=Z at *
 simp only [vI,Ul,zw,zo,z7,eL,zb,z8,R.ok_bind,List.map_cons,List.map_nil,List.length_cons,List.length_nil,List.replicate_zero,List.cons_append,List.nil_append,List.getElem?_cons_zero,Nat.reduceSub,Nat.zero_add,h1,h2]
theorem z1v (j b:Jn):gtT (.tup [.int ((jtx j).length:Nat),.int (j.1.length:Nat)]) (.tup [.int ((jtx b).length:Nat),.int (b.1.length:Nat)])=.ok (.bl (V2 j (some b))):=by
 unfold V2 rkJ
 rfl
theorem z2D (cs:List Nat)(hc:∀ c∈cs,c<128)(hl:cs.length<=40)(p:Nat)(hp:p<=cs.length)(j:Jn)(h:Jk j):vM [zy j,.str (S cs),.int (p:Nat)]=.ok (.bl (WM cs p j)):=z37 j.1 j.2.2 j.2.1 h cs hc hl p hp
theorem z2r (cs:List Nat)(hc:∀ c∈cs,c<128)(hl:cs.length<=40)(p:Nat)(hp:p<=cs.length)(j:Jn)(h:Jk j)(b:Option Jn)(hb:∀ k,b=some k->Jk k)(B:D) :
  bT [some B,some (.str (S cs)),some (.int (p:Nat)),some (wY b),some (zy j)]=.ok (.nx [some B,some (.str (S cs)),some (.int (p:Nat)),some (wY (qE cs p b j)),some (zy j)]):=by
 have hf:=z2D cs hc hl p hp j h
 have hr:=z1D j h
 unfold qE
 cases hq:WM cs p j with
 | false =>
  rw [hq] at hf
  rw [Bool.false_and,if_neg (by decide)]
  generalize wY b=X at *
  generalize zy j=Z at *
  generalize S cs=W at *
  generalize ((p:Nat):Int)=P at *
  simp only [bT,zk,zl,sIf,z7,eC,z9,eL,zb,z8,zf,yu,bOr,asB,R.ok_bind,List.getElem?_cons_zero,List.getElem?_cons_succ,List.set_cons_zero,List.set_cons_succ,if_false,Bool.false_eq_true,hf]
 | true =>
  rw [hq] at hf
  rw [Bool.true_and]
  cases b with
  | none =>
   rw [show V2 j none=true from rfl,if_pos rfl]
   have e1:isN false D.non D.non=.ok (.bl true):=rfl
   show bT [some B,some (.str (S cs)),some (.int (p:Nat)),some D.non,some (zy j)]=.ok (.nx [some B,some (.str (S cs)),some (.int (p:Nat)),some (zy j),some (zy j)])
   generalize zy j=Z at *
   generalize S cs=W at *
   generalize ((p:Nat):Int)=P at *
   simp only [bT,zk,zl,sIf,z7,eC,z9,eL,zb,z8,zf,yu,bOr,asB,R.ok_bind,List.getElem?_cons_zero,List.getElem?_cons_succ,List.set_cons_zero,List.set_cons_succ,if_true,hf,e1]
  | some k =>
   have hk:=z1D k (hb k rfl)
   have hg:=z1v j k
   have e1:isN false (zy k) D.non=.ok (.bl false):=rfl
   show bT [some B,some (.str (S cs)),some (.int (p:Nat)),some (zy k),some (zy j)]=.ok (.nx [some B,some (.str (S cs)),some (.int (p:Nat)),some (wY (if V2 j (some k)=true then some j else some k)),some (zy j)])
   cases hbt:V2 j (some k) with
   | true =>
    rw [hbt] at hg
    rw [if_pos rfl]
    show _=R.ok (Fl.nx [some B,some (.str (S cs)),some (.int (p:Nat)),some (zy j),some (zy j)])
    generalize D.tup [.int ((jtx j).length:Nat),.int (j.1.length:Nat)]=R1 at *
    generalize D.tup [.int ((jtx k).length:Nat),.int (k.1.length:Nat)]=R2 at *
    generalize zy j=Z at *
    generalize zy k=Y at *
    generalize S cs=W at *
    generalize ((p:Nat):Int)=P at *
    simp only [bT,zk,zl,sIf,z7,eC,z9,eL,zb,z8,zf,yu,bOr,asB,R.ok_bind,List.getElem?_cons_zero,List.getElem?_cons_succ,List.set_cons_zero,List.set_cons_succ,if_true,if_false,Bool.false_eq_true,hf,e1,hr,hk,hg]
   | false =>
    rw [hbt] at hg
    rw [if_neg (by decide)]
    show _=R.ok (Fl.nx [some B,some (.str (S cs)),some (.int (p:Nat)),some (zy k),some (zy j)])
    generalize D.tup [.int ((jtx j).length:Nat),.int (j.1.length:Nat)]=R1 at *
    generalize D.tup [.int ((jtx k).length:Nat),.int (k.1.length:Nat)]=R2 at *
    generalize zy j=Z at *
    generalize zy k=Y at *
    generalize S cs=W at *
    generalize ((p:Nat):Int)=P at *
    simp only [bT,zk,zl,sIf,z7,eC,z9,eL,zb,z8,zf,yu,bOr,asB,R.ok_bind,List.getElem?_cons_zero,List.getElem?_cons_succ,List.set_cons_zero,List.set_cons_succ,if_true,if_false,Bool.false_eq_true,hf,e1,hr,hk,hg]
theorem Jd (cs:List Nat)(p:Nat)(j:Jn)(h:Jk j)(b:Option Jn)(hb:∀ k,b=some k->Jk k):∀ k,qE cs p b j=some k->Jk k:=by
 intro k hk
 unfold qE at hk
 split at hk
 ·cases hk; exact h
 ·exact hb k hk
theorem Kr (cs:List Nat)(hc:∀ c∈cs,c<128)(hl:cs.length<=40)(p:Nat)(hp:p<=cs.length)(B:D):∀ (l:List Jn) (_:∀ j∈l,Jk j) (b:Option Jn) (_:∀ k,b=some k->Jk k) (y:Option D),
  ∃ y',yO (Tgt.one 4).asg bT (l.map zy) [some B,some (.str (S cs)),some (.int (p:Nat)),some (wY b),y]=.ok (.nx [some B,some (.str (S cs)),some (.int (p:Nat)),some (wY (l.foldl (qE cs p) b)),y'])
 | [],_,b,_,y=>⟨y,rfl⟩
 | j::l,hJ,b,hb,y=>by
  obtain ⟨y',e⟩:=Kr cs hc hl p hp B l (fun k hk=>hJ k (List.mem_cons_of_mem _ hk)) (qE cs p b j) (Jd cs p j (hJ j List.mem_cons_self) b hb) (some (zy j))
  refine ⟨y',?_⟩
  rw [List.map_cons,Z9]
  show (bT [some B,some (.str (S cs)),some (.int (p:Nat)),some (wY b),some (zy j)]).bind _=_
  rw [z2r cs hc hl p hp j (hJ j List.mem_cons_self) b hb B,R.ok_bind,X8,e]
  rfl
theorem z1B (b:Option Jn):ZC (wY b)=.ok (wY b):=by cases b<;>rfl
theorem Wa (cs:List Nat)(hc:∀ c∈cs,c<128)(hl:cs.length<=40)(p:Nat)(hp:p<=cs.length)(l:List Jn)(hJ:∀ j∈l,Jk j):xl [.lst (l.map zy),.str (S cs),.int (p:Nat)]=.ok (wY (uk cs p l)):=by
 obtain ⟨y',e⟩:=Kr cs hc hl p hp (.lst (l.map zy)) l hJ none (fun k h=>by cases h) none
 have e:yO (Tgt.one 4).asg bT (l.map zy) [some (.lst (l.map zy)),some (.str (S cs)),some (.int (p:Nat)),some .non,none]=.ok (.nx [some (.lst (l.map zy)),some (.str (S cs)),some (.int (p:Nat)),some (wY (uk cs p l)),y']):=e
 have hi:=z1B (uk cs p l)
 rw [tT]
 generalize wY (uk cs p l)=Q at *
 generalize l.map zy=BK at *
 generalize S cs=W at *
 generalize ((p:Nat):Int)=P at *
 have eF:xR (yR (z7 0)) (.one 4) bT [some (.lst BK),some (.str W),some (.int P),some .non,none]=_:=qd (by simp only [z7,yR,vN,R.ok_bind,List.getElem?_cons_zero]) e
 simp only [TT_,yj,zw,zh,zl,zo,z7,eC,R.ok_bind,List.map_cons,List.map_nil,List.length_cons,List.length_nil,List.replicate_succ,List.replicate_zero,List.cons_append,List.nil_append,List.getElem?_cons_zero,List.getElem?_cons_succ,List.set_cons_zero,List.set_cons_succ,Nat.reduceAdd,Nat.reduceSub,Nat.zero_add,eF,hi]
noncomputable def wA (cs:List Nat)(j:Jn):Bool:=inS (S (j.1++j.2.2)) (S (cs.map lo1))
theorem Ub (cs:List Nat)(p:Nat)(hp:p<=cs.length)(j:Jn)(h:WM cs p j=true):wA cs j=true:=by
 unfold WM JQ at h
 rw [Bool.and_eq_true] at h
 have h1:=of_decide_eq_true h.1
 have h2:=of_decide_eq_true h.2
 unfold wA inS
 refine (StrLaws.found_iff _ _).mpr ⟨p-j.1.length,?_,?_⟩
 ·have:=congrArg List.length h2
  rw [List.length_map,List.length_take,List.length_drop] at this
  rw [yz,yz,List.length_map]
  omega
 ·unfold Builtin.Str.subAt
  rw [beq_iff_eq]
  apply Array.ext'
  have e1:(S (cs.map lo1)).cps=(cs.map lo1).toArray:=rfl
  have e2:(S (j.1++j.2.2)).cps=(j.1++j.2.2).toArray:=rfl
  rw [e1,e2,yz]
  simp only [List.extract_toArray,List.extract_eq_drop_take]
  have e3:p-j.1.length+(j.1++j.2.2).length-(p-j.1.length)=(j.1++j.2.2).length:=by omega
  rw [e3,<- List.map_drop,<- List.map_take]
  exact h2
theorem VH (cs:List Nat)(p:Nat)(hp:p<=cs.length)(l:List Jn):uk cs p (l.filter (wA cs))=uk cs p l:=by
 unfold uk
 rw [List.foldl_filter]
 congr 1
 funext b j
 cases h:wA cs j with
 | true=>rfl
 | false =>
  rw [if_neg (by decide)]
  unfold qE
  cases hf:WM cs p j with
  | true=>rw [Ub cs p hp j hf] at h; cases h
  | false=>rw [Bool.false_and,if_neg (by decide)]
theorem kn (cs:List Nat)(hc:∀ c∈cs,c<128)(hl:cs.length<=40)(l:List Jn)(hJ:∀ j∈l,Jk j)(hn:l.length<=1000):yC [.lst (l.map zy),.str (S cs)]=.ok (.lst ((l.filter (wA cs)).map zy)):=by
 have hw:qC (S cs)=.ok (.str (S (cs.map lo1))):=by
  show (if _<=5592405 then _ else _)=_
  rw [if_pos (by rw [yz]; omega),jz _ hc]
 have h5:∀ x,qP qC (z7 1) [x,some (.str (S cs)),none]=.ok (.str (S (cs.map lo1))):=fun x=>by rw [sm0 (z:=S cs) rfl,hw]
 have hcp:yW (zP (Tgt.one 0).asg KW (yE (z7 0)) [none,some (.str (S (cs.map lo1)))]) (l.map zy)=.ok (l.filterMap fun j=>if wA cs j=true then some (zy j) else none):=xn fun j hj=>by
  have h1:yn [zy j]=.ok (.str (S (j.1++j.2.2))):=jW j.1 j.2.2 j.2.1 (hJ j hj)
  have h2:xX (.str (S (j.1++j.2.2))) (.str (S (cs.map lo1)))=.ok (.bl (wA cs j)):=rfl
  have hi:ZC (zy j)=.ok (zy j):=rfl
  generalize S (j.1++j.2.2)=L at *
  generalize S (cs.map lo1)=W at *
  generalize zy j=Z at *
  cases hb:wA cs j with
  | true=>rw [hb] at h2; simp only [zP,zM,KW,yj,z7,z9,eL,zb,z8,zf,asB,Tgt.asg,R.ok_bind,List.getElem?_cons_zero,List.getElem?_cons_succ,List.set_cons_zero,if_true,h1,h2,hi]
  | false=>rw [hb] at h2; simp only [zP,zM,KW,yj,z7,z9,eL,zb,z8,zf,asB,Tgt.asg,R.ok_bind,List.getElem?_cons_zero,List.getElem?_cons_succ,List.set_cons_zero,if_false,Bool.false_eq_true,h1,h2]
 have e3:(l.filterMap fun j=>if wA cs j=true then some (zy j) else none)=(l.filter (wA cs)).map zy:=by
  clear hcp h5 hw hn hJ
  induction l with
  | nil=>rfl
  | cons j l ih =>
   rw [List.filterMap_cons,List.filter_cons]
   cases wA cs j with
   | true=>rw [if_pos rfl,if_pos rfl,List.map_cons]; dsimp only; rw [ih]
   | false=>rw [if_neg (by decide),if_neg (by decide)]; dsimp only; rw [ih]
 rw [e3] at hcp
 have hk:=yZ (ys:=(l.filter (wA cs)).map zy) (by rw [List.length_map]; have:=List.length_filter_le (wA cs) l; omega)
 rw [tJW]
 generalize (l.filter (wA cs)).map zy=Q at *
 generalize l.map zy=BK at *
 generalize S (cs.map lo1)=V at *
 generalize S cs=W at *
 simp only [TJW,yx,xC,xw,wg,xZ,zw,zh,zl,zo,z7,yR,vN,R.ok_bind,List.map_cons,List.map_nil,List.length_cons,List.length_nil,List.replicate_succ,List.replicate_zero,List.cons_append,List.nil_append,List.getElem?_cons_zero,List.getElem?_cons_succ,List.set_cons_zero,List.set_cons_succ,Nat.reduceAdd,Nat.reduceSub,Nat.zero_add,h5,hcp,hk]
end K05
set_option maxRecDepth 100000
set_option maxHeartbeats 4000000
namespace K05
open PySem PyProof.Rows L2
noncomputable def KS:Tn->R Bool:=(xD (zf (eL yb (z8 (z7 1) (z8 (z7 0) zb)))))
noncomputable def Q0:Tn->R Fl:=(zl 4 (yi [none,some 2] (iL xP (z8 (eL y1 (z8 (z7 2) zb)) zb)) (.one 0) KS (yE (z7 0))))
noncomputable def KQ1:Tn->R Bool:=(zf (z9 ltD (z7 0) (z7 1)))
noncomputable def EQ1:Tn->R D:=(z9 xH (z9 xH (z7 1) (eC (.int 1))) (z7 0))
noncomputable def Q1:Tn->R Fl:=(zl 5 (eL vQ (z8 (z9 zB (eL (fun ds=>.ok (.lst ds)) (z8 (z7 3) zb)) (yi [none,some 3] (yR (z7 4)) (.one 0) KQ1 EQ1)) zb)))
noncomputable def KQ2:Tn->R Bool:=(zf (z9 geD (z7 0) (z7 1)))
noncomputable def EQ2:Tn->R D:=(z9 xH (z7 0) (z7 1))
noncomputable def Q2:Tn->R Fl:=(zl 6 (eL vQ (z8 (z9 zB (eL (fun ds=>.ok (.lst ds)) (z8 (z9 xH (eL y1 (z8 (z7 2) zb)) (z7 3)) zb)) (yi [none,some 3] (yR (z7 4)) (.one 0) KQ2 EQ2)) zb)))
noncomputable def Q3:Tn->R Fl:=(zl 7 (eL xl (z8 (z7 0) (z8 (z7 2) (z8 (z7 3) zb)))))
noncomputable def Q4:Tn->R Fl:=(sIf (yu (zf (z9 (isN true) (z7 7) (eC .non))) (yu (zf (z9 xX (eC (.str "-")) (z7 7))) (yu (zf (z9 geD (z7 5) (z9 ixD (z7 1) (eC (.str "ahead"))))) (zf (z9 geD (z7 6) (z9 ixD (z7 1) (eC (.str "behind")))))))) (zo (eC (.str "part"))) zk)
noncomputable def Q5:Tn->R Fl:=(sIf (yu (zf (z9 (eqR false) (z9 ixD (z7 2) (z9 xH (z7 3) (eC (.int 1)))) (eC (.str "-")))) (yu (zf (eL yb (z8 (z7 2) (z8 (z9 xH (z7 3) (eC (.int 2))) zb)))) (zf (z9 gtD (z7 6) (eC (.int 0)))))) (zo (eC (.str "soft"))) zk)
noncomputable def Q6:Tn->R Fl:=(zo (eC (.str "")))
noncomputable def TLJ:Tn->R Fl:=(zh Q0 (zh Q1 (zh Q2 (zh Q3 (zh Q4 (zh Q5 Q6))))))
theorem tLJ:yg=zw 8 TLJ:=rfl
noncomputable def V5:Option Jn->Bool
 | none=>false
 | some j=>inS "-" (S (jtx j))
noncomputable def jc (cs:List Nat)(p:Nat):Bool:=decide (2<=p)&&(decide (cs[p-1]?=some 45)&&(yt cs (p-2)&&yt cs p))
noncomputable def kc (cs:List Nat)(p:Nat)(l:List Jn)(a b:Int)(m1 m2:Nat):Bool:=(decide (a<=(m1:Int))&&decide (b<=(m2:Int)))&&V5 (uk cs p l)
noncomputable def ja (m s:Bool)(d:D):D:=if m=true then .str "part" else if s=true then .str "soft" else d
theorem jT (x y:Int):decide (x<y)=!decide (y<=x):=by
 by_cases h:x<y
 ·rw [decide_eq_true h,decide_eq_false (by omega)]; rfl
 ·rw [decide_eq_false h,decide_eq_true (by omega)]; rfl
theorem Wx (b:Option Jn):isN true (wY b) .non=.ok (.bl b.isSome):=by cases b<;>rfl
theorem z1A (j:Jn):xX (.str "-") (zy j)=.ok (.bl (V5 (some j))):=rfl
theorem Vu (RR:D)(a b:Int)(ha:ixD RR (.str "ahead")=.ok (.int a))(hb:ixD RR (.str "behind")=.ok (.int b))(cs:List Nat)(hc:∀ c∈cs,c<128)(hl:cs.length<=40)(p:Nat)(hp:p<=cs.length)(l:List Jn)(hJ:∀ j∈l,Jk j)(m1 m2:Nat)
  (h1:yD [.str (S cs),.int (p:Nat)]=.ok (.int (m1:Nat))) (h2:yo [.str (S cs),.int (p:Nat)]=.ok (.int (m2:Nat))) :
  yT [.lst (l.map zy),RR,.str (S cs),.int (p:Nat)]=.ok (.bl (kc cs p l a b m1 m2)):=by
 have ht:=Wa cs hc hl p hp l hJ
 unfold kc
 have e1:=jT (m1:Int) a
 have e2:=jT (m2:Int) b
 generalize decide (a<=(m1:Int))=d1 at *
 generalize decide (b<=(m2:Int))=d2 at *
 generalize l.map zy=BK at *
 generalize S cs=W at *
 generalize ((p:Nat):Int)=P at *
 generalize ((m1:Nat):Int)=M1 at *
 generalize ((m2:Nat):Int)=M2 at *
 cases d1 with
 | false=>simp only [yT,wy,zk,zw,zh,zl,zo,sIf,z7,eC,z9,eL,zb,z8,zf,bOr,xM,asB,R.ok_bind,List.map_cons,List.map_nil,List.length_cons,List.length_nil,List.replicate_succ,List.replicate_zero,List.cons_append,List.nil_append,List.getElem?_cons_zero,List.getElem?_cons_succ,Nat.reduceAdd,Nat.reduceSub,Nat.zero_add,yy,if_true,h1,ha,e1,Bool.not_false,Bool.false_and]
 | true =>
  cases d2 with
  | false=>simp only [yT,wy,zk,zw,zh,zl,zo,sIf,z7,eC,z9,eL,zb,z8,zf,bOr,xM,asB,R.ok_bind,List.map_cons,List.map_nil,List.length_cons,List.length_nil,List.replicate_succ,List.replicate_zero,List.cons_append,List.nil_append,List.getElem?_cons_zero,List.getElem?_cons_succ,Nat.reduceAdd,Nat.reduceSub,Nat.zero_add,yy,if_true,if_false,Bool.false_eq_true,h1,ha,e1,h2,hb,e2,Bool.not_false,Bool.not_true,Bool.false_and,Bool.and_false]
  | true =>
   cases hk:uk cs p l with
   | none =>
    rw [hk] at ht
    have hn:=Wx none
    have eh:V5 none=false:=rfl
    generalize wY none=X at *
    simp only [yT,wy,zk,zw,zh,zl,zo,sIf,z7,eC,z9,eL,zb,z8,zf,bOr,xM,asB,R.ok_bind,List.map_cons,List.map_nil,List.length_cons,List.length_nil,List.replicate_succ,List.replicate_zero,List.cons_append,List.nil_append,List.getElem?_cons_zero,List.getElem?_cons_succ,List.set_cons_zero,List.set_cons_succ,Nat.reduceAdd,Nat.reduceSub,Nat.zero_add,yy,if_false,Bool.false_eq_true,h1,ha,e1,h2,hb,e2,Bool.not_true,ht,hn,Option.isSome_none,eh,Bool.and_false]
   | some j =>
    rw [hk] at ht
    have hn:=Wx (some j)
    have hi:=z1A j
    have hn:isN true (zy j) .non=.ok (.bl true):=hn
    have ht:xl [.lst BK,.str W,.int P]=.ok (zy j):=ht
    generalize zy j=X at *
    generalize V5 (some j)=r at *
    simp only [yT,wy,zk,zw,zh,zl,zo,sIf,z7,eC,z9,eL,zb,z8,zf,bOr,xM,asB,R.ok_bind,List.map_cons,List.map_nil,List.length_cons,List.length_nil,List.replicate_succ,List.replicate_zero,List.cons_append,List.nil_append,List.getElem?_cons_zero,List.getElem?_cons_succ,List.set_cons_zero,List.set_cons_succ,Nat.reduceAdd,Nat.reduceSub,Nat.zero_add,yy,if_true,if_false,Bool.false_eq_true,h1,ha,e1,h2,hb,e2,Bool.not_true,ht,hn,hi,Bool.true_and]
theorem z2G (cs:List Nat)(i:Nat)(c:Nat)(hg:cs[i]?=some c):(one c==("-":Str))=decide (cs[i]?=some 45):=by
 have c1:(one 45)=("-":Str):=rfl
 rw [<- c1,hg]
 show (S [c]==S [45])=_
 rw [z2d]
 congr 1
 simp
theorem Jj (cs:List Nat)(hc:∀ c∈cs,c<128)(hl:cs.length<=40)(p:Nat)(h0:1<=p)(hp:p<cs.length):xm [.str (S cs),.int (p:Nat)]=.ok (.bl (jc cs p)):=by
 unfold jc
 by_cases h2:2<=p
 ·have e1:decide (((p:Nat):Int)<2)=false:=decide_eq_false (by omega)
  have g1:cs[p-1]?=some cs[p-1]:=List.getElem?_eq_getElem (by omega)
  have g2:cs[p-2]?=some cs[p-2]:=List.getElem?_eq_getElem (by omega)
  have g3:cs[p]?=some cs[p]:=List.getElem?_eq_getElem hp
  have i1:((p:Nat):Int)-1=((p-1:Nat):Int):=by omega
  have i2:((p:Nat):Int)-2=((p-2:Nat):Int):=by omega
  have x1:=ud (cs:=cs) (i:=((p:Nat):Int)-1) (by omega) (by omega) (by rw [i1,Int.toNat_natCast]; exact g1)
  have x2:=ud (cs:=cs) (i:=((p:Nat):Int)-2) (by omega) (by omega) (by rw [i2,Int.toNat_natCast]; exact g2)
  have x3:=ud (cs:=cs) (i:=((p:Nat):Int)) (by omega) (by omega) (by rw [Int.toNat_natCast]; exact g3)
  have l2:=vW cs[p-2] (hc _ (List.getElem_mem _))
  have l3:=vW cs[p] (hc _ (List.getElem_mem _))
  have q1:eqR true (.str (one cs[p-1])) (.str "-")=.ok (.bl (!decide (cs[p-1]?=some 45))):=by rw [jG,if_pos rfl,z2G cs (p-1) _ g1]
  rw [decide_eq_true h2,Bool.true_and,uW g2,uW g3]
  generalize decide (cs[p-1]?=some 45)=d at *
  generalize isL cs[p-2]=b2 at *
  generalize isL cs[p]=b3 at *
  generalize one cs[p-1]=z1 at *
  generalize one cs[p-2]=z2 at *
  generalize one cs[p]=z3 at *
  generalize ((p:Nat):Int)=P at *
  generalize S cs=W at *
  cases d with
  | false=>simp only [xm,v3,zk,zw,zh,zo,sIf,z7,eC,z9,eL,zb,z8,zf,bOr,xM,asB,R.ok_bind,List.map_cons,List.map_nil,List.length_cons,List.length_nil,List.replicate_zero,List.cons_append,List.nil_append,List.getElem?_cons_zero,List.getElem?_cons_succ,Nat.reduceAdd,Nat.reduceSub,Nat.zero_add,yA,yy,if_true,if_false,Bool.false_eq_true,e1,x1,q1,Bool.not_false,Bool.false_and]
  | true =>
   cases b2 with
   | false=>simp only [xm,v3,zk,zw,zh,zo,sIf,z7,eC,z9,eL,zb,z8,zf,bOr,xM,asB,R.ok_bind,List.map_cons,List.map_nil,List.length_cons,List.length_nil,List.replicate_zero,List.cons_append,List.nil_append,List.getElem?_cons_zero,List.getElem?_cons_succ,Nat.reduceAdd,Nat.reduceSub,Nat.zero_add,yA,yy,if_false,Bool.false_eq_true,e1,x1,q1,Bool.not_true,x2,l2,Bool.false_and,Bool.true_and]
   | true=>simp only [xm,v3,zk,zw,zh,zo,sIf,z7,eC,z9,eL,zb,z8,zf,bOr,xM,asB,R.ok_bind,List.map_cons,List.map_nil,List.length_cons,List.length_nil,List.replicate_zero,List.cons_append,List.nil_append,List.getElem?_cons_zero,List.getElem?_cons_succ,Nat.reduceAdd,Nat.reduceSub,Nat.zero_add,yA,yy,if_true,if_false,Bool.false_eq_true,e1,x1,q1,Bool.not_true,x2,l2,x3,l3,Bool.true_and]
 ·have e1:decide (((p:Nat):Int)<2)=true:=decide_eq_true (by omega)
  rw [decide_eq_false h2,Bool.false_and]
  generalize ((p:Nat):Int)=P at *
  generalize S cs=W at *
  simp only [xm,v3,zk,zw,zh,zo,sIf,z7,eC,z9,eL,zb,z8,zf,bOr,xM,asB,R.ok_bind,List.map_cons,List.map_nil,List.length_cons,List.length_nil,List.replicate_zero,List.cons_append,List.nil_append,List.getElem?_cons_zero,List.getElem?_cons_succ,Nat.reduceAdd,Nat.reduceSub,Nat.zero_add,yA,yy,if_true,e1]
theorem Qz (BK RR W P:D)(m s:Bool)(h1:yT [BK,RR,W,P]=.ok (.bl m))(h2:xm [W,P]=.ok (.bl s)):yI [BK,RR,W,P]=.ok (ja m s .non):=by
 unfold ja
 cases m with
 | true=>simp only [yI,vZ,zk,zw,zh,zo,sIf,z7,eC,eL,zb,z8,zf,asB,R.ok_bind,List.map_cons,List.map_nil,List.length_cons,List.length_nil,List.replicate_zero,List.cons_append,List.nil_append,List.getElem?_cons_zero,List.getElem?_cons_succ,Nat.reduceAdd,Nat.reduceSub,Nat.zero_add,if_true,h1]
 | false =>
  cases s with
  | true=>simp only [yI,vZ,zk,zw,zh,zo,sIf,z7,eC,eL,zb,z8,zf,asB,R.ok_bind,List.map_cons,List.map_nil,List.length_cons,List.length_nil,List.replicate_zero,List.cons_append,List.nil_append,List.getElem?_cons_zero,List.getElem?_cons_succ,Nat.reduceAdd,Nat.reduceSub,Nat.zero_add,if_true,if_false,Bool.false_eq_true,h1,h2]
  | false=>simp only [yI,vZ,zk,zw,zh,zo,sIf,z7,eC,eL,zb,z8,zf,asB,R.ok_bind,List.map_cons,List.map_nil,List.length_cons,List.length_nil,List.replicate_zero,List.cons_append,List.nil_append,List.getElem?_cons_zero,List.getElem?_cons_succ,Nat.reduceAdd,Nat.reduceSub,Nat.zero_add,if_false,Bool.false_eq_true,h1,h2]
noncomputable def SP (cs:List Nat):List Nat:=(List.range cs.length).filter fun i=>!yt cs i
noncomputable def yp (i:Nat):D:=.int (i:Nat)
theorem Zo (cs:List Nat)(k:Nat):k∈SP cs↔k<cs.length/\yt cs k=false:=by
 unfold SP
 rw [List.mem_filter,List.mem_range]
 cases yt cs k<;>simp
theorem XE (cs:List Nat)(hl:cs.length<=40):(SP cs).length<=40:=by
 have:=List.length_filter_le (fun i=>!yt cs i) (List.range cs.length)
 rw [List.length_range] at this
 unfold SP
 omega
theorem z1q (cs:List Nat)(hc:∀ c∈cs,c<128)(hl:cs.length<=40)(B RR P:D):Q0 [some B,some RR,some (.str (S cs)),some P,none,none,none,none]=.ok (.nx [some B,some RR,some (.str (S cs)),some P,some (.lst ((SP cs).map yp)),none,none,none]):=by
 have h1:=wu cs (by omega)
 have e1:xP [D.int (cs.length:Nat)]=.ok (rng 0 (((cs.length:Nat):Int)).toNat):=vn (by omega) (by omega)
 rw [Int.toNat_natCast] at e1
 have hcp:=v7 (f:=zP (Tgt.one 0).asg KS (yE (z7 0)) [none,some (.str (S cs))]) (lo:=0) (n:=cs.length) (o:=fun i=>if (!yt cs i)=true then some (yp i) else none) fun i hi=>by
  have ei:(0:Int)+(i:Nat)=((i:Nat):Int):=Int.zero_add _
  rw [ei]
  have hh:=jD cs hc hl (i:Nat)
  rw [decide_eq_true (by omega),Bool.true_and,Int.toNat_natCast] at hh
  unfold yp
  generalize ((i:Nat):Int)=I at *
  generalize S cs=W at *
  cases hb:yt cs i with
  | true=>rw [hb] at hh; simp -implicitDefEqProofs only [zP,zM,KS,yj,j3,z7,eL,zb,z8,zf,xD,asB,Tgt.asg,R.ok_bind,List.getElem?_cons_zero,List.getElem?_cons_succ,List.set_cons_zero,if_false,Bool.false_eq_true,hh,Bool.not_true]
  | false=>rw [hb] at hh; simp -implicitDefEqProofs only [zP,zM,KS,yj,j3,z7,eL,zb,z8,zf,xD,asB,Tgt.asg,R.ok_bind,List.getElem?_cons_zero,List.getElem?_cons_succ,List.set_cons_zero,if_true,hh,Bool.not_false]
 have e3:((List.range cs.length).filterMap fun i=>if (!yt cs i)=true then some (yp i) else none)=(SP cs).map yp:=by
  unfold SP
  generalize List.range cs.length=xs
  induction xs with
  | nil=>rfl
  | cons x xs ih =>
   rw [List.filterMap_cons,List.filter_cons]
   cases (!yt cs x) with
   | true=>rw [if_pos rfl,if_pos rfl,List.map_cons]; dsimp only; rw [ih]
   | false=>rw [if_neg (by decide),if_neg (by decide)]; dsimp only; rw [ih]
 rw [e3] at hcp
 have hk:=yZ (ys:=(SP cs).map yp) (by rw [List.length_map]; have:=XE cs hl; omega)
 generalize (SP cs).map yp=Q at *
 generalize rng 0 cs.length=RG at *
 generalize ((cs.length:Nat):Int)=l at *
 generalize S cs=W at *
 simp -implicitDefEqProofs only [Q0,yx,xC,xw,wg,xZ,zl,z7,eL,zb,z8,iL,R.ok_bind,List.getElem?_cons_zero,List.getElem?_cons_succ,List.set_cons_zero,List.set_cons_succ,h1,e1,hcp,hk]
noncomputable def ahs (cs:List Nat)(p:Nat):List Int:=(SP cs).filterMap fun k=>if k<p then some ((p:Int)-1-(k:Int)) else none
noncomputable def bhs (cs:List Nat)(p:Nat):List Int:=(SP cs).filterMap fun k=>if p<=k then some ((k:Int)-(p:Int)) else none
theorem V9 (cs:List Nat)(p m:Nat)(hp:p<=cs.length)(h:AheadIs cs p m):vQ [.lst (((p:Int)::ahs cs p).map D.int)]=.ok (.int (m:Nat)):=by
 obtain ⟨k,e,g1,g2⟩:=W0 (p:Int) (ahs cs p)
 have:k=(m:Nat):=by
  have hm:(m:Int)∈(p:Int)::ahs cs p:=by
   rcases h.fin with z | z
   ·rw [z]; exact List.mem_cons_self
   ·by_cases hz:m=p
    ·rw [hz]; exact List.mem_cons_self
    ·have:=h.le
     refine List.mem_cons_of_mem _ (List.mem_filterMap.mpr ⟨p-1-m,(Zo _ _).mpr ⟨by omega,z⟩,?_⟩)
     rw [if_pos (by omega)]
     congr 1
     omega
  have h1:=g1 _ hm
  have h2:(m:Int)<=k:=by
   rcases List.mem_cons.mp g2 with z | z
   ·rw [z]; have:=h.le; omega
   ·obtain ⟨q,hq,e⟩:=List.mem_filterMap.mp z
    obtain ⟨q1,q2⟩:=(Zo _ _).mp hq
    by_cases hqp:q<p
    ·rw [if_pos hqp] at e
     have e:=Option.some.inj e
     have:¬ p-1-q<m:=fun w=>by
      have a:=h.all _ w
      rw [show p-1-(p-1-q)=q by omega,q2] at a
      cases a
     omega
    ·rw [if_neg hqp] at e; cases e
  omega
 rw [e,this]
theorem Xs (cs:List Nat)(p m:Nat)(hp:p<=cs.length)(h:BehindIs cs p m):vQ [.lst (((((cs.length:Nat):Int)-(p:Int))::bhs cs p).map D.int)]=.ok (.int (m:Nat)):=by
 obtain ⟨k,e,g1,g2⟩:=W0 (((cs.length:Nat):Int)-(p:Int)) (bhs cs p)
 have:k=(m:Nat):=by
  have hm:(m:Int)∈(((cs.length:Nat):Int)-(p:Int))::bhs cs p:=by
   rcases h.fin with z | z
   ·rw [<- z]; rw [show (((p+m:Nat):Int)-(p:Int))=(m:Int) by omega]; exact List.mem_cons_self
   ·by_cases hz:p+m=cs.length
    ·rw [<- hz]; rw [show (((p+m:Nat):Int)-(p:Int))=(m:Int) by omega]; exact List.mem_cons_self
    ·have:=h.le
     refine List.mem_cons_of_mem _ (List.mem_filterMap.mpr ⟨p+m,(Zo _ _).mpr ⟨by omega,z⟩,?_⟩)
     rw [if_pos (by omega)]
     congr 1
     omega
  have h1:=g1 _ hm
  have h2:(m:Int)<=k:=by
   rcases List.mem_cons.mp g2 with z | z
   ·rw [z]; have:=h.le; omega
   ·obtain ⟨q,hq,e⟩:=List.mem_filterMap.mp z
    obtain ⟨q1,q2⟩:=(Zo _ _).mp hq
    by_cases hqp:p<=q
    ·rw [if_pos hqp] at e
     have e:=Option.some.inj e
     have:¬ q-p<m:=fun w=>by
      have a:=h.all _ w
      rw [show p+(q-p)=q by omega,q2] at a
      cases a
     omega
    ·rw [if_neg hqp] at e; cases e
  omega
 rw [e,this]
theorem UP {α:Type}(xs:List Nat)(c:Nat->Bool)(f:Nat->Int):(xs.filterMap fun k=>if c k=true then some (D.int (f k)) else none)=(xs.filterMap fun k=>if c k=true then some (f k) else none).map D.int:=by
 induction xs with
 | nil=>rfl
 | cons x xs ih =>
  rw [List.filterMap_cons,List.filterMap_cons]
  cases c x with
  | true=>rw [if_pos rfl,if_pos rfl]; dsimp only; rw [List.map_cons,ih]
  | false=>rw [if_neg (by decide),if_neg (by decide)]; dsimp only; exact ih
theorem z1E (cs:List Nat)(hl:cs.length<=40)(p m:Nat)(hp:p<=cs.length)(h:AheadIs cs p m)(B RR W:D):Q1 [some B,some RR,some W,some (.int (p:Nat)),some (.lst ((SP cs).map yp)),none,none,none]=.ok (.nx [some B,some RR,some W,some (.int (p:Nat)),some (.lst ((SP cs).map yp)),some (.int (m:Nat)),none,none]):=by
 have hm:=V9 cs p m hp h
 have hcp:yW (zP (Tgt.one 0).asg KQ1 EQ1 [none,some (.int (p:Nat))]) ((SP cs).map yp)=.ok ((SP cs).filterMap fun k=>if decide (k<p)=true then some (D.int ((p:Int)-1-(k:Int))) else none):=xn fun k _=>by
  unfold yp
  by_cases hk:k<p
  ·have e1:decide (((k:Nat):Int)<(p:Nat))=true:=decide_eq_true (by omega)
   rw [if_pos (decide_eq_true hk)]
   generalize ((k:Nat):Int)=I at *
   generalize ((p:Nat):Int)=P at *
   simp only [zP,zM,KQ1,EQ1,z7,eC,z9,zf,asB,Tgt.asg,R.ok_bind,List.getElem?_cons_zero,List.getElem?_cons_succ,List.set_cons_zero,yA,yy,if_true,e1]
  ·have e1:decide (((k:Nat):Int)<(p:Nat))=false:=decide_eq_false (by omega)
   rw [if_neg (by simpa using hk)]
   generalize ((k:Nat):Int)=I at *
   generalize ((p:Nat):Int)=P at *
   simp only [zP,zM,KQ1,EQ1,z7,eC,z9,zf,asB,Tgt.asg,R.ok_bind,List.getElem?_cons_zero,List.getElem?_cons_succ,List.set_cons_zero,yA,yy,if_false,Bool.false_eq_true,e1]
 rw [UP (α:=Nat)] at hcp
 have e3:((SP cs).filterMap fun k=>if decide (k<p)=true then some ((p:Int)-1-(k:Int)) else none)=ahs cs p:=by
  unfold ahs
  congr 1
  funext k
  by_cases hk:k<p
  ·rw [if_pos hk,if_pos (decide_eq_true hk)]
  ·rw [if_neg hk,if_neg (by simpa using hk)]
 rw [e3] at hcp
 have hln:(ahs cs p).length<=40:=by
  have:=List.length_filterMap_le (fun k=>if k<p then some ((p:Int)-1-(k:Int)) else none) (SP cs)
  have h2:=XE cs hl
  unfold ahs
  omega
 have hk:=yZ (ys:=(ahs cs p).map D.int) (by rw [List.length_map]; omega)
 have ha:zB (.lst [.int (p:Nat)]) (.lst ((ahs cs p).map D.int))=.ok (.lst (((p:Int)::ahs cs p).map D.int)):=by
  show (if _/\_/\_ then _ else _)=_
  rw [if_pos ⟨rfl,vd _,by rw [List.length_map,sizeLine_eq]; simp; omega⟩]
  rfl
 generalize ((p:Int)::ahs cs p).map D.int=Q2 at *
 generalize (ahs cs p).map D.int=Q at *
 generalize (SP cs).map yp=SS at *
 generalize ((p:Nat):Int)=P at *
 generalize ((m:Nat):Int)=M at *
 simp only [Q1,yx,xC,xw,wg,xZ,zl,z7,z9,eL,zb,z8,yR,vN,R.ok_bind,List.getElem?_cons_zero,List.getElem?_cons_succ,List.set_cons_zero,List.set_cons_succ,hcp,hk,ha,hm]
theorem z23 (cs:List Nat)(hl:cs.length<=40)(p m m1:Nat)(hp:p<=cs.length)(h:BehindIs cs p m)(B RR:D):Q2 [some B,some RR,some (.str (S cs)),some (.int (p:Nat)),some (.lst ((SP cs).map yp)),some (.int (m1:Nat)),none,none]=.ok (.nx [some B,some RR,some (.str (S cs)),some (.int (p:Nat)),some (.lst ((SP cs).map yp)),some (.int (m1:Nat)),some (.int (m:Nat)),none]):=by
 have hm:=Xs cs p m hp h
 have h1:=wu cs (by omega)
 have hcp:yW (zP (Tgt.one 0).asg KQ2 EQ2 [none,some (.int (p:Nat))]) ((SP cs).map yp)=.ok ((SP cs).filterMap fun k=>if decide (p<=k)=true then some (D.int ((k:Int)-(p:Int))) else none):=xn fun k _=>by
  unfold yp
  by_cases hk:p<=k
  ·have e1:decide (((p:Nat):Int)<=(k:Nat))=true:=decide_eq_true (by omega)
   rw [if_pos (decide_eq_true hk)]
   generalize ((k:Nat):Int)=I at *
   generalize ((p:Nat):Int)=P at *
   simp only [zP,zM,KQ2,EQ2,z7,z9,zf,asB,Tgt.asg,R.ok_bind,List.getElem?_cons_zero,List.getElem?_cons_succ,List.set_cons_zero,yA,kA,if_true,e1]
  ·have e1:decide (((p:Nat):Int)<=(k:Nat))=false:=decide_eq_false (by omega)
   rw [if_neg (by simpa using hk)]
   generalize ((k:Nat):Int)=I at *
   generalize ((p:Nat):Int)=P at *
   simp only [zP,zM,KQ2,EQ2,z7,z9,zf,asB,Tgt.asg,R.ok_bind,List.getElem?_cons_zero,List.getElem?_cons_succ,List.set_cons_zero,yA,kA,if_false,Bool.false_eq_true,e1]
 rw [UP (α:=Nat)] at hcp
 have e3:((SP cs).filterMap fun k=>if decide (p<=k)=true then some ((k:Int)-(p:Int)) else none)=bhs cs p:=by
  unfold bhs
  congr 1
  funext k
  by_cases hk:p<=k
  ·rw [if_pos hk,if_pos (decide_eq_true hk)]
  ·rw [if_neg hk,if_neg (by simpa using hk)]
 rw [e3] at hcp
 have hln:(bhs cs p).length<=40:=by
  have:=List.length_filterMap_le (fun k=>if p<=k then some ((k:Int)-(p:Int)) else none) (SP cs)
  have h2:=XE cs hl
  unfold bhs
  omega
 have hk:=yZ (ys:=(bhs cs p).map D.int) (by rw [List.length_map]; omega)
 have ha:zB (.lst [.int (((cs.length:Nat):Int)-(p:Int))]) (.lst ((bhs cs p).map D.int))=.ok (.lst (((((cs.length:Nat):Int)-(p:Int))::bhs cs p).map D.int)):=by
  show (if _/\_/\_ then _ else _)=_
  rw [if_pos ⟨rfl,vd _,by rw [List.length_map,sizeLine_eq]; simp; omega⟩]
  rfl
 generalize ((((cs.length:Nat):Int)-(p:Int))::bhs cs p).map D.int=Q3 at *
 generalize (bhs cs p).map D.int=Q at *
 generalize (SP cs).map yp=SS at *
 generalize ((cs.length:Nat):Int)=l at *
 generalize ((p:Nat):Int)=P at *
 generalize ((m:Nat):Int)=M at *
 generalize S cs=W at *
 simp only [Q2,yx,xC,xw,wg,xZ,zl,z7,z9,eL,zb,z8,yR,vN,R.ok_bind,List.getElem?_cons_zero,List.getElem?_cons_succ,List.set_cons_zero,List.set_cons_succ,yA,h1,hcp,hk,ha,hm]
end K05
set_option maxRecDepth 100000
set_option maxHeartbeats 4000000
namespace K05
open PySem PyProof.Rows L2
theorem z2B (RR:D)(a b:Int)(ha:ixD RR (.str "ahead")=.ok (.int a))(hb:ixD RR (.str "behind")=.ok (.int b))(cs:List Nat)(p:Nat)(l:List Jn)(m1 m2:Nat)(B W P SS:D) :
  Q4 [some B,some RR,some W,some P,some SS,some (.int (m1:Nat)),some (.int (m2:Nat)),some (wY (uk cs p l))]=if kc cs p l a b m1 m2=true then .ok (.rt (.str "part")) else .ok (.nx [some B,some RR,some W,some P,some SS,some (.int (m1:Nat)),some (.int (m2:Nat)),some (wY (uk cs p l))]):=by
 unfold kc
 cases hk:uk cs p l with
 | none =>
  have hn:=Wx none
  have eh:V5 none=false:=rfl
  generalize wY none=X at *
  generalize ((m1:Nat):Int)=M1 at *
  generalize ((m2:Nat):Int)=M2 at *
  simp only [Q4,zk,zo,sIf,z7,eC,z9,zf,yu,asB,R.ok_bind,List.getElem?_cons_zero,List.getElem?_cons_succ,if_false,Bool.false_eq_true,hn,Option.isSome_none,eh,Bool.and_false]
 | some j =>
  have hn:=Wx (some j)
  have hi:=z1A j
  have hn:isN true (zy j) .non=.ok (.bl true):=hn
  show Q4 [some B,some RR,some W,some P,some SS,some (.int (m1:Nat)),some (.int (m2:Nat)),some (zy j)]=if _ then _ else .ok (.nx [some B,some RR,some W,some P,some SS,some (.int (m1:Nat)),some (.int (m2:Nat)),some (zy j)])
  generalize zy j=X at *
  generalize V5 (some j)=r at *
  generalize ((m1:Nat):Int)=M1 at *
  generalize ((m2:Nat):Int)=M2 at *
  have g1:geD (.int M1) (.int a)=.ok (.bl (decide (a<=M1))):=kA
  have g2:geD (.int M2) (.int b)=.ok (.bl (decide (b<=M2))):=kA
  generalize decide (a<=M1)=d1 at *
  generalize decide (b<=M2)=d2 at *
  cases r with
  | false=>simp only [Q4,zk,zo,sIf,z7,eC,z9,zf,yu,asB,R.ok_bind,List.getElem?_cons_zero,List.getElem?_cons_succ,if_true,if_false,Bool.false_eq_true,hn,hi,Bool.and_false]
  | true =>
   cases d1 with
   | false=>simp only [Q4,zk,zo,sIf,z7,eC,z9,zf,yu,asB,R.ok_bind,List.getElem?_cons_zero,List.getElem?_cons_succ,if_true,if_false,Bool.false_eq_true,hn,hi,ha,g1,Bool.false_and]
   | true =>
    cases d2 with
    | false=>simp only [Q4,zk,zo,sIf,z7,eC,z9,zf,yu,asB,R.ok_bind,List.getElem?_cons_zero,List.getElem?_cons_succ,if_true,if_false,Bool.false_eq_true,hn,hi,ha,g1,hb,g2,Bool.false_and,Bool.and_false]
    | true=>simp only [Q4,zk,zo,sIf,z7,eC,z9,zf,yu,asB,R.ok_bind,List.getElem?_cons_zero,List.getElem?_cons_succ,if_true,hn,hi,ha,g1,hb,g2,Bool.and_true]
theorem z1I (cs:List Nat)(hc:∀ c∈cs,c<128)(hl:cs.length<=40)(p:Nat)(h0:1<=p)(hp:p<cs.length)(m1 m2:Nat)(h:BehindIs cs p m2)(B RR SS T:D) :
  Q5 [some B,some RR,some (.str (S cs)),some (.int (p:Nat)),some SS,some (.int (m1:Nat)),some (.int (m2:Nat)),some T]=if jc cs p=true then .ok (.rt (.str "soft")) else .ok (.nx [some B,some RR,some (.str (S cs)),some (.int (p:Nat)),some SS,some (.int (m1:Nat)),some (.int (m2:Nat)),some T]):=by
 have g1:cs[p-1]?=some cs[p-1]:=List.getElem?_eq_getElem (by omega)
 have i1:((p:Nat):Int)-1=((p-1:Nat):Int):=by omega
 have x1:=ud (cs:=cs) (i:=((p:Nat):Int)-1) (by omega) (by omega) (by rw [i1,Int.toNat_natCast]; exact g1)
 have q1:eqR false (.str (one cs[p-1])) (.str "-")=.ok (.bl (decide (cs[p-1]?=some 45))):=by rw [jG,if_neg (by decide),z2G cs (p-1) _ g1]
 have hL:=jD cs hc hl (((p:Nat):Int)-2)
 have e2:(decide ((0:Int)<=((p:Nat):Int)-2)&&yt cs (((p:Nat):Int)-2).toNat)=(decide (2<=p)&&yt cs (p-2)):=by
  rw [show (((p:Nat):Int)-2).toNat=p-2 by omega]
  congr 1
  rw [decide_eq_decide]
  omega
 rw [e2] at hL
 have e3:decide ((0:Int)<(m2:Nat))=yt cs p:=by
  by_cases hm:m2=0
  ·subst hm
   rcases h.fin with z | z
   ·omega
   ·rw [Nat.add_zero] at z
    rw [z]; rfl
  ·have:=h.all 0 (by omega)
   rw [Nat.add_zero] at this
   rw [this]
   exact decide_eq_true (by omega)
 have g3:gtD (.int (m2:Nat)) (.int 0)=.ok (.bl (yt cs p)):=by rw [ZK,e3]
 unfold jc
 generalize decide (cs[p-1]?=some 45)=d at *
 generalize decide (2<=p)=d2 at *
 generalize yt cs (p-2)=b2 at *
 generalize yt cs p=b3 at *
 generalize one cs[p-1]=z1 at *
 generalize ((p:Nat):Int)=P at *
 generalize ((m1:Nat):Int)=M1 at *
 generalize ((m2:Nat):Int)=M2 at *
 generalize S cs=W at *
 cases d with
 | false=>simp only [Q5,zk,zo,sIf,z7,eC,z9,eL,zb,z8,zf,yu,asB,R.ok_bind,List.getElem?_cons_zero,List.getElem?_cons_succ,yA,ZK,if_false,Bool.false_eq_true,x1,q1,Bool.false_and,Bool.and_false]
 | true =>
  cases d2 with
  | false=>simp only [Q5,zk,zo,sIf,z7,eC,z9,eL,zb,z8,zf,yu,asB,R.ok_bind,List.getElem?_cons_zero,List.getElem?_cons_succ,yA,ZK,if_true,if_false,Bool.false_eq_true,x1,q1,hL,Bool.false_and,Bool.true_and]
  | true =>
   cases b2 with
   | false=>simp only [Q5,zk,zo,sIf,z7,eC,z9,eL,zb,z8,zf,yu,asB,R.ok_bind,List.getElem?_cons_zero,List.getElem?_cons_succ,yA,ZK,if_true,if_false,Bool.false_eq_true,x1,q1,hL,Bool.false_and,Bool.true_and]
   | true =>
    cases b3 with
    | false=>simp only [Q5,zk,zo,sIf,z7,eC,z9,eL,zb,z8,zf,yu,asB,R.ok_bind,List.getElem?_cons_zero,List.getElem?_cons_succ,if_true,if_false,Bool.false_eq_true,yA,x1,q1,hL,g3,Bool.true_and]
    | true=>simp only [Q5,zk,zo,sIf,z7,eC,z9,eL,zb,z8,zf,yu,asB,R.ok_bind,List.getElem?_cons_zero,List.getElem?_cons_succ,if_true,yA,x1,q1,hL,g3,Bool.true_and]
theorem YV {τ0 τ1 τ2 τ3 τ4:Tn}(m s:Bool)(h0:Q0 τ0=.ok (.nx τ1))(h1:Q1 τ1=.ok (.nx τ2))(h2:Q2 τ2=.ok (.nx τ3))(h3:Q3 τ3=.ok (.nx τ4))(h4:Q4 τ4=if m=true then .ok (.rt (.str "part")) else .ok (.nx τ4))(h5:Q5 τ4=if s=true then .ok (.rt (.str "soft")) else .ok (.nx τ4)) :
  TLJ τ0=.ok (.rt (ja m s (.str ""))):=by
 unfold ja
 cases m with
 | true=>rw [if_pos rfl] at h4; simp only [TLJ,zh,R.ok_bind,h0,h1,h2,h3,h4,if_true]
 | false =>
  rw [if_neg (by decide)] at h4
  cases s with
  | true=>rw [if_pos rfl] at h5; simp only [TLJ,zh,R.ok_bind,h0,h1,h2,h3,h4,h5,if_true,if_false,Bool.false_eq_true]
  | false=>rw [if_neg (by decide)] at h5; simp only [TLJ,Q6,zo,eC,zh,R.ok_bind,h0,h1,h2,h3,h4,h5,if_false,Bool.false_eq_true]
theorem U0 (RR:D)(a b:Int)(ha:ixD RR (.str "ahead")=.ok (.int a))(hb:ixD RR (.str "behind")=.ok (.int b))(cs:List Nat)(hc:∀ c∈cs,c<128)(hl:cs.length<=40)(p:Nat)(h0:1<=p)(hp:p<cs.length)(l:List Jn)(hJ:∀ j∈l,Jk j)(m1 m2:Nat)
  (h1:AheadIs cs p m1) (h2:BehindIs cs p m2):yg [.lst (l.map zy),RR,.str (S cs),.int (p:Nat)]=.ok (ja (kc cs p l a b m1 m2) (jc cs p) (.str "")):=by
 have q0:=z1q cs hc hl (.lst (l.map zy)) RR (.int (p:Nat))
 have q1:=z1E cs hl p m1 (by omega) h1 (.lst (l.map zy)) RR (.str (S cs))
 have q2:=z23 cs hl p m2 m1 (by omega) h2 (.lst (l.map zy)) RR
 have ht:=Wa cs hc hl p (by omega) l hJ
 have q3:Q3 [some (.lst (l.map zy)),some RR,some (.str (S cs)),some (.int (p:Nat)),some (.lst ((SP cs).map yp)),some (.int (m1:Nat)),some (.int (m2:Nat)),none]=.ok (.nx [some (.lst (l.map zy)),some RR,some (.str (S cs)),some (.int (p:Nat)),some (.lst ((SP cs).map yp)),some (.int (m1:Nat)),some (.int (m2:Nat)),some (wY (uk cs p l))]):=by
  generalize wY (uk cs p l)=Q at *
  generalize l.map zy=BK at *
  generalize S cs=W at *
  generalize ((p:Nat):Int)=P at *
  generalize ((m1:Nat):Int)=M1 at *
  generalize ((m2:Nat):Int)=M2 at *
  simp only [Q3,zl,z7,eL,zb,z8,R.ok_bind,List.getElem?_cons_zero,List.getElem?_cons_succ,List.set_cons_zero,List.set_cons_succ,ht]
 have q4:=z2B RR a b ha hb cs p l m1 m2 (.lst (l.map zy)) (.str (S cs)) (.int (p:Nat)) (.lst ((SP cs).map yp))
 have q5:=z1I cs hc hl p h0 hp m1 m2 h2 (.lst (l.map zy)) RR (.lst ((SP cs).map yp)) (wY (uk cs p l))
 have h:=YV _ _ q0 q1 q2 q3 q4 q5
 rw [tLJ]
 generalize ja (kc cs p l a b m1 m2) (jc cs p) (.str "")=Q at *
 generalize l.map zy=BK at *
 generalize S cs=W at *
 generalize ((p:Nat):Int)=P at *
 show (match TLJ [some (.lst BK),some RR,some (.str W),some (.int P),none,none,none,none] with
  | .ok (.rt d)=>R.ok d
  | .ok (.nx _)=>.ok .non
  | .err c=>.err c
  | _=>.bad)=_
 rw [h]
noncomputable def qR:Option Str->D
 | none=>.non
 | some z=>.str z
theorem WO (RR:D)(a b:Int)(ha:ixD RR (.str "ahead")=.ok (.int a))(hb:ixD RR (.str "behind")=.ok (.int b))(cs:List Nat)(hc:∀ c∈cs,c<128)(hl:cs.length<=40)(l:List Jn)(hJ:∀ j∈l,Jk j) :
  ∃ jf:Nat->Option Str,∀ p,1<=p->p<cs.length->yI [.lst ((l.filter (wA cs)).map zy),RR,.str (S cs),.int (p:Nat)]=.ok (qR (jf p))/\yg [.lst (l.map zy),RR,.str (S cs),.int (p:Nat)]=.ok (.str ((jf p).getD ""))/\((jf p).getD ""==("":Str))=(jf p).isNone:=by
 have all:∀ p,∃ o:Option Str,1<=p->p<cs.length->yI [.lst ((l.filter (wA cs)).map zy),RR,.str (S cs),.int (p:Nat)]=.ok (qR o)/\yg [.lst (l.map zy),RR,.str (S cs),.int (p:Nat)]=.ok (.str (o.getD ""))/\(o.getD ""==("":Str))=o.isNone:=by
  intro p
  by_cases hp:1<=p/\p<cs.length
  ·obtain ⟨m1,e1,h1⟩:=kd cs hc hl p (by omega)
   obtain ⟨m2,e2,h2⟩:=jq cs hc hl p (by omega)
   have hm:=Vu RR a b ha hb cs hc hl p (by omega) (l.filter (wA cs)) (fun j hj=>hJ j (List.mem_filter.mp hj).1) m1 m2 e1 e2
   have em:kc cs p (l.filter (wA cs)) a b m1 m2=kc cs p l a b m1 m2:=by
    unfold kc
    rw [VH cs p (by omega) l]
   rw [em] at hm
   have hj:=Qz _ _ _ _ _ _ hm (Jj cs hc hl p hp.1 hp.2)
   have hk:=U0 RR a b ha hb cs hc hl p hp.1 hp.2 l hJ m1 m2 h1 h2
   unfold ja at hj hk
   by_cases c1:kc cs p l a b m1 m2=true
   ·rw [if_pos c1] at hj hk
    exact ⟨some "part",fun _ _=>⟨hj,hk,by decide⟩⟩
   ·rw [if_neg c1] at hj hk
    by_cases c2:jc cs p=true
    ·rw [if_pos c2] at hj hk
     exact ⟨some "soft",fun _ _=>⟨hj,hk,by decide⟩⟩
    ·rw [if_neg c2] at hj hk
     exact ⟨none,fun _ _=>⟨hj,hk,by decide⟩⟩
  ·exact ⟨none,fun a b=>absurd ⟨a,b⟩ hp⟩
 obtain ⟨jf,h⟩:=Classical.axiomOfChoice all
 exact ⟨jf,h⟩
end K05
set_option maxRecDepth 100000
set_option maxHeartbeats 4000000
namespace K05
open PySem PyProof.Rows L2
noncomputable def EP1:Tn->R D:=(yE (eL (fun ds=>.ok (.tup ds)) (z8 (z7 0) (z8 (eL yI (z8 (z7 1) (z8 (z7 2) (z8 (z7 3) (z8 (z7 0) zb))))) zb))))
noncomputable def KP2:Tn->R Bool:=(zf (z9 (isN true) (z7 1) (eC .non)))
noncomputable def EP2:Tn->R D:=(yE (eL (fun ds=>.ok (.tup ds)) (z8 (z7 0) (z8 (z7 1) zb))))
noncomputable def TPL:Tn->R Fl:=(zh (kz (eL yP (z8 (z7 2) zb))) (zh (zl 3 (eL yC (z8 (z7 0) (z8 (z7 2) zb)))) (zh (zl 4 (yi [none,some 3,some 1,some 2] (iL jY (z8 (eC (.int 1)) (z8 (eL y1 (z8 (z7 2) zb)) zb))) (.one 0) (fun _=>.ok true) EP1)) (zo (yi [none,none] (yR (z7 4)) (.many [0,1]) KP2 EP2)))))
theorem tPL:zV=zw 5 TPL:=rfl
theorem YB (a n:Nat):Builtin.Str.strSliceIndices (some (a:Int)) none 1 n=Builtin.Str.strSliceIndices (some (a:Int)) (some (n:Int)) 1 n:=by
 have h1:¬ ((a:Int)<0):=by omega
 have h2:¬ ((n:Int)<0):=by omega
 have e:max (0:Int) (min (n:Int) (n:Int))=(n:Int):=by omega
 simp only [Builtin.Str.strSliceIndices,h1,h2,if_false,e,show ((1:Int)>0)=True from by simp,if_true]
theorem ZN (b n:Nat):Builtin.Str.strSliceIndices none (some (b:Int)) 1 n=Builtin.Str.strSliceIndices (some ((0:Nat):Int)) (some (b:Int)) 1 n:=by
 have h1:¬ (((0:Nat):Int)<0):=by omega
 have h2:¬ ((b:Int)<0):=by omega
 have e:max (0:Int) (min ((0:Nat):Int) (n:Int))=0:=by omega
 simp only [Builtin.Str.strSliceIndices,h1,h2,if_false,e,show ((1:Int)>0)=True from by simp,if_true]
theorem Xd (cs:List Nat)(b:Nat)(hb:b<=cs.length):Txt.slice (S cs) (some (b:Int)) none=S (cs.drop b):=by
 have h:=uS cs b (cs.length-b) hb
 rw [List.take_of_length_le (by rw [List.length_drop]; omega),show (b:Int)+((cs.length-b:Nat):Int)=((cs.length:Nat):Int) by omega] at h
 rw [<- h]
 unfold Txt.slice
 rw [yz,YB]
theorem Us (cs:List Nat)(b:Nat):Txt.slice (S cs) none (some (b:Int))=S (cs.take b):=by
 have h:=uS cs 0 b (Nat.zero_le _)
 rw [List.drop_zero,show ((0:Nat):Int)+(b:Int)=(b:Int) by omega] at h
 rw [<- h]
 unfold Txt.slice
 rw [yz,ZN]
theorem z09 (cs:List Nat)(hl:cs.length<=1000)(lo hi:Option Int):slD (.str (S cs)) lo hi=.ok (.str (Txt.slice (S cs) lo hi)):=by
 show (if (S cs).length<=sizeLine then _ else _)=_
 rw [if_pos (by rw [yz,sizeLine_eq]; omega)]
noncomputable def mid (cs:List Nat)(b p:Nat):List Nat:=(cs.drop b).take (p-b)
theorem U2 (cs:List Nat)(hl:cs.length<=1000)(b p:Nat)(h1:b<=p)(h2:p<=cs.length):slD (.str (S cs)) (some (b:Int)) (some (p:Int))=.ok (.str (S (mid cs b p))):=by
 have:=uS cs b (p-b) (by omega)
 rw [show (b:Int)+((p-b:Nat):Int)=(p:Int) by omega] at this
 rw [z09 cs hl,this]
 rfl
theorem Zk (cs:List Nat)(hl:cs.length<=1000)(b:Nat)(h1:b<=cs.length):slD (.str (S cs)) (some (b:Int)) none=.ok (.str (S (cs.drop b))):=by
 rw [z09 cs hl,Xd cs b h1]
theorem Kh (cs:List Nat)(hl:cs.length<=1000)(b:Nat):slD (.str (S cs)) none (some (b:Int))=.ok (.str (S (cs.take b))):=by
 rw [z09 cs hl,Us cs b]
theorem Uy {α:Type}(xs:List α)(y:α):jm (xs++[y]) none (some (-1))=xs:=by
 unfold jm
 have e1:HT.sIx (xs++[y]).length 0 none=0:=rfl
 have e2:HT.sIx (xs++[y]).length (xs++[y]).length (some (-1))=xs.length:=by
  rw [List.length_append]
  unfold HT.sIx
  simp
  omega
 rw [e1,e2,List.drop_zero,Nat.sub_zero,List.take_append_of_le_length (Nat.le_refl _),List.take_length]
noncomputable def PL (jf:Nat->Option Str)(n:Nat):List (Nat×Str):=(List.range n).filterMap fun i=>(jf (1+i)).map fun z=>(1+i,z)
noncomputable def xu (p:Nat×Str):D:=.tup [.int (p.1:Nat),.str p.2]
theorem Xc (jf:Nat->Option Str)(n:Nat):(PL jf n).length<=n:=by
 have:=List.length_filterMap_le (fun i=>(jf (1+i)).map fun z=>(1+i,z)) (List.range n)
 rw [List.length_range] at this
 exact this
theorem Y5 (i:Int)(o:Option Str):ZC (.tup [.int i,qR o])=.ok (.tup [.int i,qR o]):=by cases o<;>rfl
theorem z0R (RR:D)(cs:List Nat)(ho:∀ c∈cs,okS c)(h1:1<=cs.length)(hl:cs.length<=40)(l:List Jn)(hJ:∀ j∈l,Jk j)(hn:l.length<=1000)(jf:Nat->Option Str)
  (hj:∀ p,1<=p->p<cs.length->yI [.lst ((l.filter (wA cs)).map zy),RR,.str (S cs),.int (p:Nat)]=.ok (qR (jf p))) :
  zV [.lst (l.map zy),RR,.str (S cs)]=.ok (.lst ((PL jf (cs.length-1)).map xu)):=by
 have hc:∀ c∈cs,c<128:=fun c h=>(ho c h).lt
 have hw:zx [.str (S cs)]=.ok (.bl true):=by
  rw [vO cs h1 hl]
  have:(cs.all fun c=>decide (okS c))=true:=List.all_eq_true.mpr fun c h=>decide_eq_true (ho c h)
  rw [this]
 have hne:=Qk _ hw
 have hjw:=kn cs hc hl l hJ hn
 have hlen:=wu cs (by omega)
 have e1:jY [D.int 1,.int (cs.length:Nat)]=.ok (rng 1 (((cs.length:Nat):Int)-1).toNat):=Wl (by omega) (by omega) (by omega) (by omega)
 rw [show (((cs.length:Nat):Int)-1).toNat=cs.length-1 by omega] at e1
 have hc1:=v7 (f:=zP (Tgt.one 0).asg (fun _=>.ok true) EP1 [none,some (.lst ((l.filter (wA cs)).map zy)),some RR,some (.str (S cs))]) (lo:=1) (n:=cs.length-1) (o:=fun i=>some (D.tup [.int ((1:Int)+(i:Nat)),qR (jf (1+i))])) fun i hi=>by
  have h:=hj (1+i) (by omega) (by omega)
  rw [show (((1+i:Nat):Int))=(1:Int)+(i:Nat) by omega] at h
  have hi2:=Y5 ((1:Int)+(i:Nat)) (jf (1+i))
  generalize qR (jf (1+i))=X at *
  generalize (1:Int)+((i:Nat):Int)=I at *
  generalize S cs=W at *
  generalize (l.filter (wA cs)).map zy=BK at *
  simp -implicitDefEqProofs only [zP,zM,EP1,z7,eL,zb,z8,Tgt.asg,R.ok_bind,List.getElem?_cons_zero,List.getElem?_cons_succ,List.set_cons_zero,if_true,yj,h,hi2]
 have e2:((List.range (cs.length-1)).filterMap fun i=>some (D.tup [.int ((1:Int)+(i:Nat)),qR (jf (1+i))]))=(List.range (cs.length-1)).map fun i=>D.tup [.int ((1:Int)+(i:Nat)),qR (jf (1+i))]:=by
  rw [List.filterMap_eq_map']
 rw [e2] at hc1
 have hc2:yW (zP (Tgt.many [0,1]).asg KP2 EP2 [none,none]) ((List.range (cs.length-1)).map fun i=>D.tup [.int ((1:Int)+(i:Nat)),qR (jf (1+i))])=.ok ((List.range (cs.length-1)).filterMap fun i=>((jf (1+i)).map fun z=>(1+i,z)).map xu):=xn fun i _=>by
  have ei:(((1+i:Nat):Int))=(1:Int)+(i:Nat):=by omega
  unfold xu
  cases jf (1+i) with
  | none =>
   have e1:isN true D.non D.non=.ok (.bl false):=rfl
   show zP (Tgt.many [0,1]).asg KP2 EP2 [none,none] (D.tup [.int ((1:Int)+(i:Nat)),.non])=.ok none
   generalize (1:Int)+((i:Nat):Int)=I at *
   unfold zP
   have ea:(Tgt.many [0,1]).asg (D.tup [.int I,.non]) [none,none]=.ok [some (.int I),some .non]:=rfl
   simp -implicitDefEqProofs only [zM,KP2,ea,z7,eC,z9,zf,asB,R.ok_bind,List.getElem?_cons_zero,List.getElem?_cons_succ,if_false,Bool.false_eq_true,e1]
  | some z =>
   have e1:isN true (D.str z) D.non=.ok (.bl true):=rfl
   show zP (Tgt.many [0,1]).asg KP2 EP2 [none,none] (D.tup [.int ((1:Int)+(i:Nat)),.str z])=.ok (some (.tup [.int ((1+i:Nat):Int),.str z]))
   rw [ei]
   have hi2:=Y5 ((1:Int)+(i:Nat)) (some z)
   have hi2:ZC (.tup [.int ((1:Int)+(i:Nat)),.str z])=.ok (.tup [.int ((1:Int)+(i:Nat)),.str z]):=hi2
   generalize (1:Int)+((i:Nat):Int)=I at *
   unfold zP
   have ea:(Tgt.many [0,1]).asg (D.tup [.int I,.str z]) [none,none]=.ok [some (.int I),some (.str z)]:=rfl
   simp -implicitDefEqProofs only [zM,KP2,EP2,ea,z7,eC,z9,eL,zb,z8,zf,asB,R.ok_bind,List.getElem?_cons_zero,List.getElem?_cons_succ,if_true,e1,yj,hi2]
 have e3:((List.range (cs.length-1)).filterMap fun i=>((jf (1+i)).map fun z=>(1+i,z)).map xu)=(PL jf (cs.length-1)).map xu:=by
  unfold PL
  rw [List.map_filterMap]
 rw [e3] at hc2
 have hk1:=yZ (ys:=(List.range (cs.length-1)).map fun i=>D.tup [.int ((1:Int)+(i:Nat)),qR (jf (1+i))]) (by rw [List.length_map,List.length_range]; omega)
 have hk2:=yZ (ys:=(PL jf (cs.length-1)).map xu) (by rw [List.length_map]; have:=Xc jf (cs.length-1); omega)
 rw [tPL]
 generalize (PL jf (cs.length-1)).map xu=Z at *
 generalize ((List.range (cs.length-1)).map fun i=>D.tup [.int ((1:Int)+(i:Nat)),qR (jf (1+i))])=Y at *
 generalize (l.filter (wA cs)).map zy=OW at *
 generalize l.map zy=BK at *
 generalize rng 1 (cs.length-1)=RG at *
 generalize ((cs.length:Nat):Int)=L at *
 generalize S cs=W at *
 simp -implicitDefEqProofs only [TPL,yx,xC,xw,wg,xZ,zw,zh,zl,zo,kz,z7,eC,eL,zb,z8,yR,iL,vN,R.ok_bind,List.map_cons,List.map_nil,List.length_cons,List.length_nil,List.replicate_succ,List.replicate_zero,List.cons_append,List.nil_append,List.getElem?_cons_zero,List.getElem?_cons_succ,List.set_cons_zero,List.set_cons_succ,Nat.reduceAdd,Nat.reduceSub,Nat.zero_add,hne,hjw,hlen,e1,hc1,hk1,hc2,hk2]
theorem jU (B RR d:D)(h:zx [d]=.ok (.bl false)):zV [B,RR,d]=.err "BadWord":=by
 have hne:=UX _ h
 rw [tPL]
 simp only [TPL,yx,xC,xw,wg,zw,zh,zl,zo,kz,z7,eC,eL,zb,z8,yR,iL,R.ok_bind,R.err_bind,List.map_cons,List.map_nil,List.length_cons,List.length_nil,List.replicate_succ,List.replicate_zero,List.cons_append,List.nil_append,List.getElem?_cons_zero,List.getElem?_cons_succ,Nat.reduceAdd,Nat.reduceSub,Nat.zero_add,hne]
end K05
set_option maxRecDepth 100000
set_option maxHeartbeats 4000000
namespace K05
open PySem PyProof.Rows L2
noncomputable def bPt:Tn->R Fl:=(zh (vo 3 (yE (eL (fun ds=>.ok (.tup ds)) (z8 (eSl (z7 2) (zO (z7 4)) (zO (z7 5))) (z8 (z7 6) zb))))) (zl 4 (z7 5)))
noncomputable def TPD:Tn->R Fl:=(zh (zl 3 (eL (fun ds=>.ok (.lst ds)) zb)) (zh (zl 4 (eC (.int 0))) (zh (xR (yR (eL zV (z8 (z7 0) (z8 (z7 1) (z8 (z7 2) zb))))) (.many [5,6]) bPt) (zh (vo 3 (eL (fun ds=>.ok (.tup ds)) (z8 (eSl (z7 2) (zO (z7 4)) yN) (z8 (eC (.str "blank")) zb)))) (zo (z7 3))))))
theorem tPD:xq=zw 7 TPD:=rfl
noncomputable def bPr:Tn->R Fl:=(sIf (bOr (xD (zf (eUn (wL "tuple") (z7 3)))) (bOr (zf (eUn (wL "bool") (z9 ixD (z7 3) (eC (.int 0))))) (xD (zf (eUn (wL "str") (z9 ixD (z7 3) (eC (.int 1)))))))) (zo (eC (.bl false))) zk)
noncomputable def TPR:Tn->R Fl:=(zh (sIf (bOr (xD (zf (eUn (wL "list") (z7 0)))) (zf (z9 (eqR true) (z7 0) (z7 1)))) (zo (eC (.bl false))) zk) (zh (xR (yR (z7 0)) (.one 3) bPr) (zh (vo 0 (eL (fun ds=>.ok (.tup ds)) (z8 (eC (.str "")) (z8 (eC (.str "")) zb)))) (zo (z9 (eqR false) (eL y1 (z8 (z7 1) zb)) (z7 2))))))
theorem tPR:zR=zw 4 TPR:=rfl
noncomputable def tx (s:List Nat)(z:Str):D:=.tup [.str (S s),.str z]
noncomputable def Up (n:Nat):Nat->List (Nat×Str)->Prop
 | b,[]=>b<=n
 | b,q::r=>b<=q.1/\q.1<=n/\Up n q.1 r
noncomputable def TXh (cs:List Nat):Nat->List (Nat×Str)->List D
 | _,[]=>[]
 | b,q::r=>tx (mid cs b q.1) q.2::TXh cs q.1 r
noncomputable def lastP:Nat->List (Nat×Str)->Nat
 | b,[]=>b
 | _,q::r=>lastP q.1 r
theorem Up.last {n:Nat}:∀ {P:List (Nat×Str)} {b:Nat},Up n b P->lastP b P<=n
 | [],_,h=>h
 | q::r,_,h=>(Up.last (P:=r) (b:=q.1) h.2.2:lastP q.1 r<=n)
theorem Up.le {n:Nat}:∀ {P:List (Nat×Str)} {b:Nat},Up n b P->b<=n
 | [],_,h=>h
 | _::_,_,h=>Nat.le_trans h.1 h.2.1
theorem Zl (cs:List Nat):∀ (P:List (Nat×Str)) (b:Nat),(TXh cs b P).length=P.length
 | [],_=>rfl
 | q::r,b=>by unfold TXh; rw [List.length_cons,List.length_cons,Zl cs r]
theorem UA (s:List Nat)(z:Str):ZC (tx s z)=.ok (tx s z):=rfl
theorem z15 (B RR:D)(cs:List Nat)(hl:cs.length<=40)(b p:Nat)(z:Str)(h1:b<=p)(h2:p<=cs.length)(L:List D)(hL:L.length<1000) :
  bPt [some B,some RR,some (.str (S cs)),some (.lst L),some (.int (b:Nat)),some (.int (p:Nat)),some (.str z)]=.ok (.nx [some B,some RR,some (.str (S cs)),some (.lst (L++[tx (mid cs b p) z])),some (.int (p:Nat)),some (.int (p:Nat)),some (.str z)]):=by
 have hs:=U2 cs (by omega) b p h1 h2
 have hi:=UA (mid cs b p) z
 have ha:L.length<16777216:=by omega
 unfold tx at *
 generalize S (mid cs b p)=M at *
 generalize S cs=W at *
 generalize ((p:Nat):Int)=P at *
 generalize ((b:Nat):Int)=Bb at *
 simp only [bPt,wC,vq,vx,yj,zh,zl,z7,eL,zb,z8,eSl,zO,R.ok_bind,List.getElem?_cons_zero,List.getElem?_cons_succ,List.set_cons_zero,List.set_cons_succ,hs,hi,ha]
theorem Uh (B RR:D)(cs:List Nat)(hl:cs.length<=40):∀ (P:List (Nat×Str)) (b:Nat) (L:List D) (y5 y6:Option D),Up cs.length b P->L.length+P.length<=900 ->
  ∃ z5 z6,yO (Tgt.many [5,6]).asg bPt (P.map xu) [some B,some RR,some (.str (S cs)),some (.lst L),some (.int (b:Nat)),y5,y6]=.ok (.nx [some B,some RR,some (.str (S cs)),some (.lst (L++TXh cs b P)),some (.int (lastP b P:Nat)),z5,z6])
 | [],b,L,y5,y6,_,_=>⟨y5,y6,by
  show R.ok _=_
  unfold TXh lastP
  rw [List.append_nil]⟩
 | q::r,b,L,y5,y6,hU,hL=>by
  obtain ⟨z5,z6,e⟩:=Uh B RR cs hl r q.1 (L++[tx (mid cs b q.1) q.2]) (some (.int (q.1:Nat))) (some (.str q.2)) hU.2.2 (by rw [List.length_append]; rw [List.length_cons] at hL; simp; omega)
  refine ⟨z5,z6,?_⟩
  rw [List.length_cons] at hL
  rw [List.map_cons,Z9]
  show (bPt [some B,some RR,some (.str (S cs)),some (.lst L),some (.int (b:Nat)),some (.int (q.1:Nat)),some (.str q.2)]).bind _=_
  rw [z15 B RR cs hl b q.1 q.2 hU.1 hU.2.1 L (by omega),R.ok_bind,X8,e,List.append_assoc]
  rfl
noncomputable def TXT (cs:List Nat)(P:List (Nat×Str)):List D:=TXh cs 0 P++[tx (cs.drop (lastP 0 P)) "blank"]
theorem z00 (RR:D)(cs:List Nat)(hl:cs.length<=40)(BK:D)(P:List (Nat×Str))(hU:Up cs.length 0 P)(hP:P.length<=40)(hp:zV [BK,RR,.str (S cs)]=.ok (.lst (P.map xu))) :
  xq [BK,RR,.str (S cs)]=.ok (.lst (TXT cs P)):=by
 obtain ⟨z5,z6,e⟩:=Uh BK RR cs hl P 0 [] none none hU (by simp; omega)
 have hs:=Zk cs (by omega) (lastP 0 P) hU.last
 have ha:(TXh cs 0 P).length<16777216:=by rw [Zl]; omega
 rw [List.nil_append] at e
 rw [tPD]
 unfold TXT tx
 generalize TXh cs 0 P=TL at *
 generalize S (cs.drop (lastP 0 P))=V at *
 generalize ((lastP 0 P:Nat):Int)=LP at *
 generalize P.map xu=PP at *
 generalize S cs=W at *
 have e:yO (Tgt.many [5,6]).asg bPt PP [some BK,some RR,some (.str W),some (.lst []),some (.int 0),none,none]=.ok (.nx [some BK,some RR,some (.str W),some (.lst TL),some (.int LP),z5,z6]):=e
 have eF:xR (yR (eL zV (z8 (z7 0) (z8 (z7 1) (z8 (z7 2) zb))))) (.many [5,6]) bPt [some BK,some RR,some (.str W),some (.lst []),some (.int 0),none,none]=_:=qd (by simp only [z7,eL,zb,z8,yR,vN,R.ok_bind,List.getElem?_cons_zero,List.getElem?_cons_succ,hp]) e
 simp only [TPD,wC,vq,vx,zw,zh,zl,zo,z7,eC,eL,zb,z8,eSl,yN,zO,R.ok_bind,List.map_cons,List.map_nil,List.length_cons,List.length_nil,List.replicate_succ,List.replicate_zero,List.cons_append,List.nil_append,List.getElem?_cons_zero,List.getElem?_cons_succ,List.set_cons_zero,List.set_cons_succ,Nat.reduceAdd,Nat.reduceSub,Nat.zero_add,eF,hs,ha]
theorem YO (B RR d:D)(h:zx [d]=.ok (.bl false)):xq [B,RR,d]=.err "BadWord":=by
 have hp:=jU B RR d h
 rw [tPD]
 have eF:∀ x y,xR (yR (eL zV (z8 (z7 0) (z8 (z7 1) (z8 (z7 2) zb))))) (.many [5,6]) bPt [some B,some RR,some d,x,y,none,none]=.err "BadWord":=fun x y=>by
  unfold xR
  simp only [z7,eL,zb,z8,yR,R.ok_bind,R.err_bind,List.getElem?_cons_zero,List.getElem?_cons_succ,hp]
 simp only [TPD,wC,zw,zh,zl,zo,z7,eC,eL,zb,R.ok_bind,R.err_bind,List.map_cons,List.map_nil,List.length_cons,List.length_nil,List.replicate_succ,List.replicate_zero,List.cons_append,List.nil_append,List.set_cons_zero,List.set_cons_succ,Nat.reduceAdd,Nat.reduceSub,Nat.zero_add,eF]
theorem Vv (jf:Nat->Option Str)(n:Nat):∀ (xs:List Nat) (b:Nat),xs.Pairwise (·<·)->(∀ x∈xs,b<=1+x/\1+x<=n)->b<=n->Up n b (xs.filterMap fun i=>(jf (1+i)).map fun z=>(1+i,z))
 | [],b,_,_,hb=>hb
 | x::xs,b,hp,hx,hb=>by
  obtain ⟨p1,p2⟩:=List.pairwise_cons.mp hp
  obtain ⟨q1,q2⟩:=hx x List.mem_cons_self
  rw [List.filterMap_cons]
  cases jf (1+x) with
  | none=>exact Vv jf n xs b p2 (fun y hy=>hx y (List.mem_cons_of_mem _ hy)) hb
  | some z =>
   exact ⟨q1,q2,Vv jf n xs (1+x) p2 (fun y hy=>⟨by have:=p1 y hy; omega,(hx y (List.mem_cons_of_mem _ hy)).2⟩) q2⟩
structure Pr (d:D):Prop where
 ex:∃ y z,d=.tup [y,.str z]/\WD y "bool"=false/\eqF 10 y y=some true
theorem z2m (q:Nat×Str):Pr (xu q):=⟨_,_,rfl,rfl,by rw [QU]; simp⟩
theorem K7 (s:List Nat)(z:Str):Pr (tx s z):=⟨_,_,rfl,rfl,by rw [W6]; simp⟩
theorem Km {xs:List D}(h:∀ d∈xs,Pr d):eqF 12 (.lst xs) (.lst xs)=some true:=by
 refine Qh 11 fun d hd=>?_
 obtain ⟨y,z,rfl,_,e⟩:=(h d hd).ex
 refine JN 10 fun x hx=>?_
 simp at hx
 rcases hx with rfl | rfl
 ·exact e
 ·rw [W6]; simp
theorem z10 (a b c d:D)(h:Pr d):bPr [some a,some b,some c,some d]=.ok (.nx [some a,some b,some c,some d]):=by
 obtain ⟨y,z,rfl,h1,_⟩:=h.ex
 have i1:wL "tuple" (.tup [y,.str z])=.ok (.bl true):=rfl
 have i2:wL "bool" y=.ok (.bl false):=by unfold wL; rw [h1]
 have i3:wL "str" (.str z)=.ok (.bl true):=rfl
 simp only [bPr,zk,zo,sIf,z7,eC,z9,eUn,zf,bOr,xD,asB,R.ok_bind,List.getElem?_cons_zero,List.getElem?_cons_succ,z06,z17,if_false,Bool.false_eq_true,i1,i2,i3,Bool.not_true]
theorem UR (a b c:D):∀ (xs:List D) (_:∀ d∈xs,Pr d) (y:Option D),∃ y',yO (Tgt.one 3).asg bPr xs [some a,some b,some c,y]=.ok (.nx [some a,some b,some c,y'])
 | [],_,y=>⟨y,rfl⟩
 | d::xs,h,y=>by
  obtain ⟨y',e⟩:=UR a b c xs (fun x hx=>h x (List.mem_cons_of_mem _ hx)) (some d)
  refine ⟨y',?_⟩
  rw [Z9]
  show (bPr [some a,some b,some c,some d]).bind _=_
  rw [z10 a b c d (h d List.mem_cons_self),R.ok_bind,X8,e]
theorem KD (xs:List D)(h:∀ d∈xs,Pr d)(hl:xs.length<=1000)(n:Int)(hn:n=(xs.length:Nat)):zR [.lst xs,.lst xs,.int n]=.ok (.bl true):=by
 have i1:wL "list" (.lst xs)=.ok (.bl true):=rfl
 have e1:eqR true (.lst xs) (.lst xs)=.ok (.bl false):=Wj (fun _ _ z=>by cases z) (Km h)
 obtain ⟨y',e⟩:=UR (.lst xs) (.lst xs) (.int n) xs h none
 have ha:xs.length<16777216:=by omega
 have e2:eqR false (.int ((xs.length:Nat):Int)) (.int n)=.ok (.bl true):=by rw [xJ,hn]; simp
 rw [tPR]
 have eF:xR (yR (z7 0)) (.one 3) bPr [some (.lst xs),some (.lst xs),some (.int n),none]=_:=qd (by simp only [z7,yR,vN,R.ok_bind,List.getElem?_cons_zero]) e
 simp only [TPR,wC,vq,vx,zk,zw,zh,zo,sIf,z7,eC,z9,eUn,eL,zb,z8,zf,bOr,xD,asB,R.ok_bind,List.length_cons,List.length_nil,List.map_cons,List.map_nil,Nat.reduceAdd,Nat.reduceSub,List.replicate_succ,List.replicate_zero,List.cons_append,List.nil_append,List.getElem?_cons_zero,List.getElem?_cons_succ,List.set_cons_zero,if_false,Bool.false_eq_true,Bool.not_true,i1,e1,eF,ha,QP,e2]
theorem ZI (cs:List Nat):∀ (P:List (Nat×Str)) (b:Nat),(List.range (P.length+1)).map (fun k=>tx (mid cs ((b::P.map Prod.fst).getD k 0) ((P.map Prod.fst++[cs.length]).getD k 0)) ((P.map Prod.snd++[("blank":Str)]).getD k ("":Str)))=TXh cs b P++[tx (cs.drop (lastP b P)) "blank"]
 | [],b=>by
  show [tx (mid cs b cs.length) "blank"]=[tx (cs.drop b) "blank"]
  unfold mid
  rw [List.take_of_length_le (by rw [List.length_drop]; omega)]
 | q::r,b=>by
  have ih:=ZI cs r q.1
  rw [List.length_cons,List.range_succ_eq_map,List.map_cons,List.map_map]
  exact congrArg (tx (mid cs b q.1) q.2::·) ih
theorem Ua {n:Nat}:∀ {P:List (Nat×Str)} {b:Nat} (_:Up n b P) (k:Nat),k<=P.length->(b::P.map Prod.fst).getD k 0<=(P.map Prod.fst++[n]).getD k 0/\(P.map Prod.fst++[n]).getD k 0<=n
 | [],b,h,k,hk=>by
  have:k=0:=by simpa using hk
  subst this
  exact ⟨h,Nat.le_refl _⟩
 | q::r,b,h,0,_=>⟨h.1,h.2.1⟩
 | q::r,b,h,k+1,hk=>Ua h.2.2 k (by simpa using hk)
end K05
set_option maxRecDepth 100000
set_option maxHeartbeats 4000000
namespace K05
open PySem PyProof.Rows L2
noncomputable def bD:Tn->R Fl:=(zh (zl 5 (eL yg (z8 (eL wa (z8 (z7 0) zb)) (z8 (z7 1) (z8 (z7 2) (z8 (z7 4) zb)))))) (sIf (zf (z9 (eqR true) (z7 5) (eC (.str "")))) (vo 3 (yE (eL (fun ds=>.ok (.tup ds)) (z8 (z7 4) (z8 (z7 5) zb))))) zk))
noncomputable def E9:Tn->R D:=(yE (eL (fun ds=>.ok (.tup ds)) (z8 (eSl (z7 1) (zO (z9 ixD (z7 3) (z7 0))) (zO (z9 ixD (z7 4) (z7 0)))) (z8 (z9 ixD (z7 2) (z7 0)) zb))))
noncomputable def G2:Tn->R Fl:=(sIf (xD (zf (eL (fun ds=>vg (zR ds)) (z8 (eL zV (z8 (z7 0) (z8 (z7 1) (z8 (z7 2) zb)))) (z8 (z7 3) (z8 (eL y1 (z8 (z7 3) zb)) zb)))))) (zo (eC (.bl false))) zk)
noncomputable def G7:Tn->R Fl:=(zo (xM (eL (fun ds=>vg (zR ds)) (z8 (eL xq (z8 (z7 0) (z8 (z7 1) (z8 (z7 2) zb)))) (z8 (z7 9) (z8 (z9 zB (eL y1 (z8 (z7 3) zb)) (eC (.int 1))) zb)))) (z9 (eqR false) (eL zV (z8 (z7 0) (z8 (z7 1) (z8 (z7 2) zb)))) (z7 3))))
noncomputable def TGD:Tn->R Fl:=(zh (zl 3 (eL (fun ds=>.ok (.lst ds)) zb)) (zh (xR (iL jY (z8 (eC (.int 1)) (z8 (eL y1 (z8 (z7 2) zb)) zb))) (.one 4) bD) (zh G2 (zh (zl 6 (z9 zB (yi [none,none] (yR (z7 3)) (.many [0,1]) (fun _=>.ok true) (yE (z7 0))) (eL (fun ds=>.ok (.lst ds)) (z8 (eL y1 (z8 (z7 2) zb)) zb)))) (zh (zl 7 (z9 zB (eL (fun ds=>.ok (.lst ds)) (z8 (eC (.int 0)) zb)) (eSl (z7 6) yN (zO (eUn JM (eC (.int 1))))))) (zh (zl 8 (z9 zB (yi [none,none] (yR (z7 3)) (.many [0,1]) (fun _=>.ok true) (yE (z7 1))) (eL (fun ds=>.ok (.lst ds)) (z8 (eC (.str "blank")) zb)))) (zh (zl 9 (yi [none,some 2,some 8,some 7,some 6] (iL xP (z8 (eL y1 (z8 (z7 6) zb)) zb)) (.one 0) (fun _=>.ok true) E9)) G7)))))))
theorem tGD:yh=zw 10 TGD:=rfl
theorem Qd (jf:Nat->Option Str)(i:Nat):PL jf (i+1)=PL jf i++((jf (1+i)).map fun z=>(1+i,z)).toList:=by
 unfold PL
 rw [List.range_succ,List.filterMap_append,List.filterMap_cons,List.filterMap_nil]
 cases jf (1+i)<;>rfl
theorem UC (l:List Jn):D.imms (l.map zy)=true:=vF (fun _=>rfl) l
theorem z1F (BK RR W x4:D)(p:Nat)(o:Option Str)(L:List D)(y5 y6 y7 y8 y9:Option D)(hb:wa [BK]=.ok BK)(hj:yg [BK,RR,W,.int (p:Nat)]=.ok (.str (o.getD "")))(he:(o.getD ""==("":Str))=o.isNone)(hL:L.length<1000) :
  bD [some BK,some RR,some W,some (.lst L),some (.int (p:Nat)),y5,y6,y7,y8,y9]=.ok (.nx [some BK,some RR,some W,some (.lst (L++((o.map fun z=>(p,z)).toList.map xu))),some (.int (p:Nat)),some (.str (o.getD "")),y6,y7,y8,y9]):=by
 have ha:L.length<16777216:=by omega
 cases o with
 | none =>
  have e1:eqR true (.str ((none:Option Str).getD "")) (.str "")=.ok (.bl false):=by rw [jG,if_pos rfl,he]; rfl
  show _=R.ok (Fl.nx [some BK,some RR,some W,some (.lst (L++[])),some (.int (p:Nat)),some (.str ((none:Option Str).getD "")),y6,y7,y8,y9])
  rw [List.append_nil]
  generalize (none:Option Str).getD ""=Z at *
  generalize ((p:Nat):Int)=P at *
  simp only [bD,zk,zh,zl,sIf,z7,eC,z9,eL,zb,z8,zf,asB,R.ok_bind,List.getElem?_cons_zero,List.getElem?_cons_succ,List.set_cons_zero,List.set_cons_succ,if_false,Bool.false_eq_true,hb,hj,e1]
 | some z =>
  have e1:eqR true (.str ((some z).getD "")) (.str "")=.ok (.bl true):=by rw [jG,if_pos rfl,he]; rfl
  have hj:yg [BK,RR,W,.int (p:Nat)]=.ok (.str z):=hj
  have e1:eqR true (.str z) (.str "")=.ok (.bl true):=e1
  have hi:ZC (.tup [.int ((p:Nat):Int),.str z])=.ok (.tup [.int ((p:Nat):Int),.str z]):=rfl
  show _=R.ok (Fl.nx [some BK,some RR,some W,some (.lst (L++[.tup [.int ((p:Nat):Int),.str z]])),some (.int (p:Nat)),some (.str z),y6,y7,y8,y9])
  generalize ((p:Nat):Int)=P at *
  simp only [bD,wC,vq,vx,yj,zk,zh,zl,sIf,z7,eC,z9,eL,zb,z8,zf,asB,R.ok_bind,List.getElem?_cons_zero,List.getElem?_cons_succ,List.set_cons_zero,List.set_cons_succ,if_true,hb,hj,e1,hi,ha]
theorem z1k (BK RR W:D)(n:Nat)(hn:n<=40)(jf:Nat->Option Str)(hb:wa [BK]=.ok BK)(hj:∀ p,1<=p->p<n+1->yg [BK,RR,W,.int (p:Nat)]=.ok (.str ((jf p).getD ""))/\((jf p).getD ""==("":Str))=(jf p).isNone) :
  ∃ z4 z5,yO (Tgt.one 4).asg bD (rng 1 n) [some BK,some RR,some W,some (.lst []),none,none,none,none,none,none]=.ok (.nx [some BK,some RR,some W,some (.lst ((PL jf n).map xu)),z4,z5,none,none,none,none]):=by
 obtain ⟨τ',e2,z4,z5,h⟩:=vY (asg:=(Tgt.one 4).asg) (body:=bD)
  (fun i τ=>∃ (z4 z5:Option D),τ=[some BK,some RR,some W,some (.lst ((PL jf i).map xu)),z4,z5,none,none,none,none]) (rng 1 n) 0
  [some BK,some RR,some W,some (.lst []),none,none,none,none,none,none] ⟨none,none,rfl⟩ (fun i q τ hd ⟨z4,z5,h⟩=>by
   obtain ⟨hi,rfl⟩:=Z0 hd
   rw [Nat.zero_add] at h ⊢
   subst h
   obtain ⟨g1,g2⟩:=hj (1+i) (by omega) (by omega)
   have hk:=z1F BK RR W .non (1+i) (jf (1+i)) ((PL jf i).map xu) z5 none none none none hb g1 g2 (by rw [List.length_map]; have:=Xc jf i; omega)
   rw [<- List.map_append,<- Qd] at hk
   rw [show (((1+i:Nat):Int))=(1:Int)+(i:Nat) by omega] at hk
   exact ⟨_,_,rfl,.inl hk,_,_,rfl⟩)
 rw [j7,Nat.zero_add] at h
 exact ⟨z4,z5,by rw [e2,h]⟩
theorem noP {ds:List D}{d:D}(h:zR ds=.ok d):(fun ds=>vg (zR ds)) ds=.ok d:=by
 show vg _=_
 rw [h]
 rfl
theorem JD (P:List (Nat×Str)):yW (zP (Tgt.many [0,1]).asg (fun _=>.ok true) (yE (z7 0)) [none,none]) (P.map xu)=.ok ((P.map Prod.fst).map yp):=by
 have h:yW (zP (Tgt.many [0,1]).asg (fun _=>.ok true) (yE (z7 0)) [none,none]) (P.map xu)=.ok (P.filterMap fun q=>some (yp q.1)):=xn fun q _=>by
  unfold zP xu yp
  have ea:(Tgt.many [0,1]).asg (D.tup [.int (q.1:Nat),.str q.2]) [none,none]=.ok [some (.int (q.1:Nat)),some (.str q.2)]:=rfl
  generalize ((q.1:Nat):Int)=I at *
  simp only [zM,ea,yj,j3,z7,R.ok_bind,List.getElem?_cons_zero,if_true]
 rw [h,List.filterMap_eq_map',List.map_map]
 rfl
theorem QN (P:List (Nat×Str)):yW (zP (Tgt.many [0,1]).asg (fun _=>.ok true) (yE (z7 1)) [none,none]) (P.map xu)=.ok ((P.map Prod.snd).map D.str):=by
 have h:yW (zP (Tgt.many [0,1]).asg (fun _=>.ok true) (yE (z7 1)) [none,none]) (P.map xu)=.ok (P.filterMap fun q=>some (D.str q.2)):=xn fun q _=>by
  unfold zP xu
  have ea:(Tgt.many [0,1]).asg (D.tup [.int (q.1:Nat),.str q.2]) [none,none]=.ok [some (.int (q.1:Nat)),some (.str q.2)]:=rfl
  generalize ((q.1:Nat):Int)=I at *
  simp only [zM,ea,yj,u4,z7,R.ok_bind,List.getElem?_cons_zero,List.getElem?_cons_succ,if_true]
 rw [h,List.filterMap_eq_map',List.map_map]
 rfl
theorem YU (l:List Nat):D.imms (l.map yp)=true:=vF (fun _=>rfl) l
theorem Vp (l:List Str):D.imms (l.map D.str)=true:=vF (fun _=>rfl) l
theorem K8 (xs ys:List Nat)(h:xs.length+ys.length<=1000):zB (.lst (xs.map yp)) (.lst (ys.map yp))=.ok (.lst ((xs++ys).map yp)):=by
 show (if _/\_/\_ then _ else _)=_
 rw [if_pos ⟨YU _,YU _,by rw [List.length_map,List.length_map,sizeLine_eq]; omega⟩,List.map_append]
theorem z21 (xs ys:List Str)(h:xs.length+ys.length<=1000):zB (.lst (xs.map D.str)) (.lst (ys.map D.str))=.ok (.lst ((xs++ys).map D.str)):=by
 show (if _/\_/\_ then _ else _)=_
 rw [if_pos ⟨Vp _,Vp _,by rw [List.length_map,List.length_map,sizeLine_eq]; omega⟩,List.map_append]
theorem z1y (xs:List Nat)(k:Nat)(h:k<xs.length):ixD (.lst (xs.map yp)) (.int (k:Nat))=.ok (.int (xs.getD k 0:Nat)):=by
 refine jI (vX (j:=k) ?_)
 rw [List.getElem?_map,List.getElem?_eq_getElem h,List.getD_eq_getElem?_getD,List.getElem?_eq_getElem h]
 rfl
theorem z3g (xs:List Str)(k:Nat)(h:k<xs.length):ixD (.lst (xs.map D.str)) (.int (k:Nat))=.ok (.str (xs.getD k "")):=by
 refine jI (vX (j:=k) ?_)
 rw [List.getElem?_map,List.getElem?_eq_getElem h,List.getD_eq_getElem?_getD,List.getElem?_eq_getElem h]
 rfl
theorem z0P (RR:D)(cs:List Nat)(hl:cs.length<=40)(h1:1<=cs.length)(BK:D)(P:List (Nat×Str))(hU:Up cs.length 0 P)(hP:P.length<=40)(hp:zV [BK,RR,.str (S cs)]=.ok (.lst (P.map xu)))(z4 z5:Option D)
  (hD:yO (Tgt.one 4).asg bD (rng 1 (cs.length-1)) [some BK,some RR,some (.str (S cs)),some (.lst []),none,none,none,none,none,none]=.ok (.nx [some BK,some RR,some (.str (S cs)),some (.lst (P.map xu)),z4,z5,none,none,none,none])) :
  yh [BK,RR,.str (S cs)]=.ok (.bl true):=by
 have hlen:=wu cs (by omega)
 have e1:jY [D.int 1,.int (cs.length:Nat)]=.ok (rng 1 (((cs.length:Nat):Int)-1).toNat):=Wl (by omega) (by omega) (by omega) (by omega)
 rw [show (((cs.length:Nat):Int)-1).toNat=cs.length-1 by omega] at e1
 have hpt:=z00 RR cs hl BK P hU hP hp
 have p1:=KD (P.map xu) (fun d hd=>by obtain ⟨q,_,rfl⟩:=List.mem_map.mp hd; exact z2m q) (by rw [List.length_map]; omega) ((P.map xu).length:Nat) rfl
 have tl:(TXT cs P).length=P.length+1:=by unfold TXT; rw [List.length_append,Zl]; rfl
 have prT:∀ d∈TXT cs P,Pr d:=by
  have aux:∀ (P:List (Nat×Str)) (b:Nat),∀ d∈TXh cs b P,Pr d:=by
   intro P
   induction P with
   | nil=>intro b d hd; cases hd
   | cons q r ih =>
    intro b d hd
    rcases List.mem_cons.mp hd with z | z
    ·rw [z]; exact K7 _ _
    ·exact ih _ d z
  intro d hd
  rcases List.mem_append.mp hd with z | z
  ·exact aux P 0 d z
  ·rw [List.mem_singleton.mp z]; exact K7 _ _
 have p2:=KD (TXT cs P) prT (by omega) (((P.map xu).length:Nat)+1) (by rw [tl,List.length_map]; omega)
 have eqP:eqR false (.lst (P.map xu)) (.lst (P.map xu))=.ok (.bl true):=WK (fun _ _ z=>by cases z) (Km fun d hd=>by obtain ⟨q,_,rfl⟩:=List.mem_map.mp hd; exact z2m q)
 have p1:=noP p1
 have p2:=noP p2
 have c1:=JD P
 have c2:=QN P
 have k1:=yZ (ys:=(P.map Prod.fst).map yp) (by rw [List.length_map,List.length_map]; omega)
 have k2:=yZ (ys:=(P.map Prod.snd).map D.str) (by rw [List.length_map,List.length_map]; omega)
 have a1:=K8 (P.map Prod.fst) [cs.length] (by rw [List.length_map]; simp; omega)
 have a1:zB (.lst ((P.map Prod.fst).map yp)) (.lst [.int (cs.length:Nat)])=_:=a1
 have a2:=K8 [0] (P.map Prod.fst) (by rw [List.length_map]; simp; omega)
 have a2:zB (.lst [.int 0]) (.lst ((P.map Prod.fst).map yp))=.ok (.lst ((0::P.map Prod.fst).map yp)):=a2
 have a3:=z21 (P.map Prod.snd) ["blank"] (by rw [List.length_map]; simp; omega)
 have a3:zB (.lst ((P.map Prod.snd).map D.str)) (.lst [.str "blank"])=_:=a3
 have s1:slD (.lst ((P.map Prod.fst++[cs.length]).map yp)) none (some (-1))=.ok (.lst ((P.map Prod.fst).map yp)):=by
  rw [Xi (YU _),List.map_append]
  exact congrArg (fun z=>R.ok (D.lst z)) (Uy _ _)
 have r1:xP [D.int (((P.map Prod.fst++[cs.length]).map yp).length:Nat)]=.ok (rng 0 (P.length+1)):=by
  rw [vn (by omega) (by simp; omega),Int.toNat_natCast,List.length_map,List.length_append,List.length_map]
  rfl
 have c3:=v7 (f:=zP (Tgt.one 0).asg (fun _=>.ok true) E9 [none,some (.str (S cs)),some (.lst ((P.map Prod.snd++[("blank":Str)]).map D.str)),some (.lst ((0::P.map Prod.fst).map yp)),some (.lst ((P.map Prod.fst++[cs.length]).map yp))]) (lo:=0) (n:=P.length+1) (o:=fun k=>some (tx (mid cs ((0::P.map Prod.fst).getD k 0) ((P.map Prod.fst++[cs.length]).getD k 0)) ((P.map Prod.snd++[("blank":Str)]).getD k ("":Str)))) fun k hk=>by
  rw [Int.zero_add]
  obtain ⟨u1,u2⟩:=Ua hU k (by omega)
  have x1:=z1y (0::P.map Prod.fst) k (by simp; omega)
  have x2:=z1y (P.map Prod.fst++[cs.length]) k (by simp; omega)
  have x3:=z3g (P.map Prod.snd++[("blank":Str)]) k (by simp; omega)
  have hs:=U2 cs (by omega) _ _ u1 u2
  have hi:=UA (mid cs ((0::P.map Prod.fst).getD k 0) ((P.map Prod.fst++[cs.length]).getD k 0)) ((P.map Prod.snd++[("blank":Str)]).getD k ("":Str))
  unfold tx at *
  generalize S (mid cs ((0::P.map Prod.fst).getD k 0) ((P.map Prod.fst++[cs.length]).getD k 0))=M at *
  generalize ((P.map Prod.snd++[("blank":Str)]).getD k ("":Str))=Z at *
  generalize (((0::P.map Prod.fst).getD k 0:Nat):Int)=B1 at *
  generalize (((P.map Prod.fst++[cs.length]).getD k 0:Nat):Int)=B2 at *
  generalize ((k:Nat):Int)=I at *
  generalize (P.map Prod.snd++[("blank":Str)]).map D.str=L1 at *
  generalize (0::P.map Prod.fst).map yp=L2 at *
  generalize (P.map Prod.fst++[cs.length]).map yp=L3 at *
  generalize S cs=W at *
  simp -implicitDefEqProofs only [zP,zM,E9,yj,eSl,zO,z7,z9,eL,zb,z8,Tgt.asg,R.ok_bind,List.getElem?_cons_zero,List.getElem?_cons_succ,List.set_cons_zero,if_true,x1,x2,x3,hs,hi]
 rw [List.filterMap_eq_map',ZI cs P 0] at c3
 have c3:yW (zP (Tgt.one 0).asg (fun _=>.ok true) E9 [none,some (.str (S cs)),some (.lst ((P.map Prod.snd++[("blank":Str)]).map D.str)),some (.lst ((0::P.map Prod.fst).map yp)),some (.lst ((P.map Prod.fst++[cs.length]).map yp))]) (rng 0 (P.length+1))=.ok (TXT cs P):=c3
 have k3:=yZ (ys:=TXT cs P) (by omega)
 have lP:y1 [.lst (P.map xu)]=.ok (.int ((P.map xu).length:Nat)):=rfl
 have lE:y1 [.lst ((P.map Prod.fst++[cs.length]).map yp)]=.ok (.int (((P.map Prod.fst++[cs.length]).map yp).length:Nat)):=rfl
 rw [tGD]
 generalize (((P.map Prod.fst++[cs.length]).map yp).length:Int)=lE0 at *
 generalize (((P.map xu).length:Nat):Int)=lP0 at *
 generalize rng 0 (P.length+1)=RG2 at *
 generalize rng 1 (cs.length-1)=RG at *
 generalize (P.map Prod.snd++[("blank":Str)]).map D.str=L1 at *
 generalize (0::P.map Prod.fst).map yp=L2 at *
 generalize (P.map Prod.fst++[cs.length]).map yp=L3 at *
 generalize (P.map Prod.fst).map yp=L4 at *
 generalize (P.map Prod.snd).map D.str=L5 at *
 generalize P.map xu=PP at *
 generalize TXT cs P=TT at *
 generalize ((cs.length:Nat):Int)=L at *
 generalize S cs=W at *
 have eF:xR (iL jY (z8 (eC (.int 1)) (z8 (eL y1 (z8 (z7 2) zb)) zb))) (.one 4) bD [some BK,some RR,some (.str W),some (.lst []),none,none,none,none,none,none]=_:=qd (by simp -implicitDefEqProofs only [z7,eC,eL,zb,z8,iL,R.ok_bind,List.getElem?_cons_zero,List.getElem?_cons_succ,hlen,e1]) hD
 have g2:G2 [some BK,some RR,some (.str W),some (.lst PP),z4,z5,none,none,none,none]=.ok (.nx [some BK,some RR,some (.str W),some (.lst PP),z4,z5,none,none,none,none]):=by
  have p1:vg (zR [.lst PP,.lst PP,.int lP0])=.ok (.bl true):=p1
  simp -implicitDefEqProofs only [G2,zk,sIf,zo,xD,zf,asB,eL,z7,zb,z8,R.ok_bind,List.getElem?_cons_zero,List.getElem?_cons_succ,if_false,Bool.false_eq_true,Bool.not_true,hp,lP,p1]
 have g7:G7 [some BK,some RR,some (.str W),some (.lst PP),z4,z5,some (.lst L3),some (.lst L2),some (.lst L1),some (.lst TT)]=.ok (.rt (.bl true)):=by
  have p2:vg (zR [.lst TT,.lst TT,.int (lP0+1)])=.ok (.bl true):=p2
  simp -implicitDefEqProofs only [G7,zo,xM,asB,eL,z7,eC,z9,zb,z8,R.ok_bind,List.getElem?_cons_zero,List.getElem?_cons_succ,if_true,hp,hpt,lP,ya,p2,eqP]
 simp -implicitDefEqProofs only [TGD,zw,zh,zl,eL,z9,eUn,eC,z7,zb,z8,yx,yR,vN,xC,xw,wg,xZ,eSl,yN,zO,iL,z0K,R.ok_bind,List.length_cons,List.length_nil,List.map_cons,List.map_nil,Nat.reduceAdd,Nat.reduceSub,List.replicate_succ,List.replicate_zero,List.cons_append,List.nil_append,List.getElem?_cons_zero,List.getElem?_cons_succ,List.set_cons_zero,List.set_cons_succ,eF,g2,c1,k1,hlen,a1,s1,a2,c2,k2,a3,lE,r1,c3,k3,g7]
theorem Jm (RR:D)(a b:Int)(ha:ixD RR (.str "ahead")=.ok (.int a))(hb:ixD RR (.str "behind")=.ok (.int b))(cs:List Nat)(ho:∀ c∈cs,okS c)(h1:1<=cs.length)(hl:cs.length<=40)(l:List Jn)(hJ:∀ j∈l,Jk j)(hn:l.length<=1000) :
  yh [.lst (l.map zy),RR,.str (S cs)]=.ok (.bl true):=by
 have hc:∀ c∈cs,c<128:=fun c h=>(ho c h).lt
 obtain ⟨jf,hj⟩:=WO RR a b ha hb cs hc hl l hJ
 have hp:=z0R RR cs ho h1 hl l hJ hn jf fun p a b=>(hj p a b).1
 obtain ⟨z4,z5,hD⟩:=z1k (.lst (l.map zy)) RR (.str (S cs)) (cs.length-1) (by omega) jf (ZL (UC l)) fun p a b=>(hj p a (by omega)).2
 refine z0P RR cs hl h1 _ (PL jf (cs.length-1)) ?_ (by have:=Xc jf (cs.length-1); omega) hp z4 z5 hD
 exact Vv jf cs.length (List.range (cs.length-1)) 0 List.pairwise_lt_range (fun x hx=>by have:=List.mem_range.mp hx; omega) (Nat.zero_le _)
end K05
set_option maxRecDepth 100000
set_option maxHeartbeats 4000000
namespace K05
open PySem PyProof.Rows L2
noncomputable def bB:Tn->R Fl:=(zh (zl 3 (z9 zB (eL zq (z8 (z7 0) (z8 (z9 zB (z9 zB (z7 1) (eC (.int 1))) (z9 zu (z7 7) (eC (.int 6)))) zb))) (z9 wz (eC (.int 48271)) (z9 zt (z7 7) (eC (.int 6)))))) (zh (zl 8 (eL yQ (z8 (z9 zu (z7 3) (eC (.int 2147483647))) (z8 (z7 2) zb)))) (zh (zl 9 (eL xb (z8 (z7 8) zb))) (sIf (zf (z9 (Ym true) (eL (fun ds=>.ok (.tup ds)) (z8 (eSl (z7 8) yN (zO (z7 9))) (z8 (eSl (z7 8) (zO (z9 zB (z7 9) (eC (.int 1)))) yN) zb))) (z7 6))) (zh (vo 6 (eL (fun ds=>.ok (.tup ds)) (z8 (eSl (z7 8) yN (zO (z7 9))) (z8 (eSl (z7 8) (zO (z9 zB (z7 9) (eC (.int 1)))) yN) zb)))) (vo 5 (yE (z7 8)))) zk))))
noncomputable def BIF:Tn->R Fl:=(sIf (yu (zf (z9 (eqR false) (z9 zu (z9 zt (z7 3) (eC (.int 9))) (eC (.int 16))) (eC (.int 1)))) (zf (z9 ltD (eL y1 (z8 (z7 2) zb)) (eC (.int 13))))) (zl 4 (z9 zB (eC (.int 20)) (z9 zu (z9 zt (z7 3) (eC (.int 144))) (eC (.int 60))))) zk)
noncomputable def TBK:Tn->R Fl:=(zh (zl 3 (eL zq (z8 (z7 0) (z8 (z7 1) zb)))) (zh (zl 4 (z9 zu (z7 3) (eC (.int 9)))) (zh BIF (zh (zl 5 (eL (fun ds=>.ok (.lst ds)) zb)) (zh (zl 6 (eL (fun ds=>.ok (.lst ds)) zb)) (zh (xR (iL xP (z8 (z7 4) zb)) (.one 7) bB) (zo (z7 5))))))))
theorem tBK:xj=zw 10 TBK:=rfl
noncomputable def RA:Tn->R D:=(z9 ixD (eL (fun ds=>.ok (.lst ds)) (z8 (eC (.int 1)) (z8 (eC (.int 1)) (z8 (eC (.int 2)) (z8 (eC (.int 3)) (z8 (z9 zB (eC (.int 1)) (z9 zu (z9 zt (z7 2) (eC (.int 16))) (eC (.int 6)))) zb)))))) (z9 zu (z9 zt (z7 2) (eC (.int 2))) (eC (.int 5))))
noncomputable def RB:Tn->R D:=(z9 ixD (eL (fun ds=>.ok (.lst ds)) (z8 (eC (.int 1)) (z8 (eC (.int 2)) (z8 (eC (.int 2)) (z8 (eC (.int 3)) (z8 (z9 zB (eC (.int 1)) (z9 zu (z9 zt (z7 2) (eC (.int 96))) (eC (.int 6)))) zb)))))) (z9 zu (z9 zt (z7 2) (eC (.int 10))) (eC (.int 5))))
noncomputable def TRU:Tn->R Fl:=(zh (zl 2 (eL zq (z8 (z7 0) (z8 (z7 1) zb)))) (zh (zl 3 (eL (fun ds=>.ok (.dic [.inr "width",.inr "height",.inr "part",.inr "twin",.inr "over",.inr "lone"] ds)) (z8 (z9 zB (eC (.int 4)) (z9 zu (z7 2) (eC (.int 90)))) (z8 (z9 zB (eC (.int 2)) (z9 zu (z7 2) (eC (.int 50)))) (z8 (z9 zu (z7 2) (eC (.int 70))) (z8 (eC (.int 5)) (z8 (eC (.int 9)) (z8 (eC (.int 0)) zb)))))))) (zh (w8 3 (z9 zu (z7 2) (eC (.int 3))) (eC (.str "late"))) (zh (w8 3 (z9 zu (z7 2) (eC (.int 6))) (eC (.str "gap"))) (zh (w8 3 RA (eC (.str "ahead"))) (zh (w8 3 RB (eC (.str "behind"))) (zo (z7 3))))))))
theorem tRU:yU=zw 4 TRU:=rfl
noncomputable def ji (p:Str×Str):D:=.tup [.str p.1,.str p.2]
theorem eqT (p q:Str×Str):eqF 11 (ji p) (ji q)=some ((p.1==q.1&&(p.2==q.2&&true))&&true):=rfl
theorem KL (q:Str×Str):∀ T:List (Str×Str),∃ b,Zm (ji q) (T.map ji)=some b
 | []=>⟨false,rfl⟩
 | p::T=>by
  obtain ⟨b,hb⟩:=KL q T
  refine ⟨((p.1==q.1&&(p.2==q.2&&true))&&true)||b,?_⟩
  rw [List.map_cons]
  unfold Zm
  rw [eqT,hb]
theorem z31 (q:Str×Str)(T:List (Str×Str)):∃ b,Ym true (.tup [.str q.1,.str q.2]) (.lst (T.map ji))=.ok (.bl b):=by
 obtain ⟨b,hb⟩:=KL q T
 refine ⟨!b,?_⟩
 show (match Zm (ji q) (T.map ji) with
  | some b=>R.ok (D.bl (if true=true then !b else b))
  | none=>.bad)=_
 rw [hb]
 rfl
theorem z1P (S0 W:D)(v j a:Int)(J X1 X2:Str)(L T:List D)(b:Bool)(x3 x4 x8 x9:Option D)(h1:zq [S0,.int (9+1+j%6)]=.ok (.int v))(hj:yQ [.int ((v+48271*(j/6))%2147483647),W]=.ok (.str J))(hm:xb [.str J]=.ok (.int a))
  (s1:slD (.str J) none (some a)=.ok (.str X1)) (s2:slD (.str J) (some (a+1)) none=.ok (.str X2)) (hi:Ym true (.tup [.str X1,.str X2]) (.lst T)=.ok (.bl b)) (hL:L.length<16777216) (hT:T.length<16777216) :
  bB [some S0,some (.int 9),some W,x3,x4,some (.lst L),some (.lst T),some (.int j),x8,x9]=.ok (.nx [some S0,some (.int 9),some W,some (.int (v+48271*(j/6))),x4,some (.lst (if b=true then L++[.str J] else L)),some (.lst (if b=true then T++[.tup [.str X1,.str X2]] else T)),some (.int j),some (.str J),some (.int a)]):=by
 have m6:zu (.int j) (.int 6)=.ok (.int (j%6)):=zD (by decide)
 have d6:zt (.int j) (.int 6)=.ok (.int (j/6)):=zJ (by decide) (by decide)
 have mp:zu (.int (v+48271*(j/6))) (.int 2147483647)=.ok (.int ((v+48271*(j/6))%2147483647)):=zD (by decide)
 have mu:wz (.int 48271) (.int (j/6))=.ok (.int (48271*(j/6))):=j4 (by decide) (by decide)
 have e1:(9:Int)+1=10:=rfl
 rw [e1] at h1
 generalize (v+48271*(j/6))%2147483647=n2 at *
 generalize 48271*(j/6)=n1 at *
 cases b with
 | true=>simp only [bB,wC,vq,vx,yj,u4,zk,zh,zl,sIf,z7,eC,z9,eL,zb,z8,zf,eSl,yN,zO,asB,R.ok_bind,List.getElem?_cons_zero,List.getElem?_cons_succ,List.set_cons_zero,List.set_cons_succ,ya,if_true,m6,d6,mp,mu,e1,h1,hj,hm,s1,s2,hi,hL,hT]
 | false=>simp only [bB,wC,vq,vx,yj,u4,zk,zh,zl,sIf,z7,eC,z9,eL,zb,z8,zf,eSl,yN,zO,asB,R.ok_bind,List.getElem?_cons_zero,List.getElem?_cons_succ,List.set_cons_zero,List.set_cons_succ,ya,if_false,Bool.false_eq_true,m6,d6,mp,mu,e1,h1,hj,hm,s1,s2,hi,hL,hT]
theorem z1Q (ns:List Int)(hn:ns.length<=63)(cs:List Nat)(hc:∀ c∈cs,c<128)(hl:cs.length<=40)(m:Nat)(hm:m<=79)(x3 x4 x7 x8 x9:Option D):∃ (l:List Jn) (T:List (Str×Str)) (y3 y7 y8 y9:Option D),(∀ j∈l,Jk j)/\l.length<=m/\T.length<=m /\
  yO (Tgt.one 7).asg bB (rng 0 m) [some (.frl (ns.map .int)),some (.int 9),some (.str (S cs)),x3,x4,some (.lst []),some (.lst []),x7,x8,x9]=.ok (.nx [some (.frl (ns.map .int)),some (.int 9),some (.str (S cs)),y3,x4,some (.lst (l.map zy)),some (.lst (T.map ji)),y7,y8,y9]):=by
 obtain ⟨τ',e2,l,T,y3,y7,y8,y9,g1,g2,g3,h⟩:=vY (asg:=(Tgt.one 7).asg) (body:=bB)
  (fun i τ=>∃ (l:List Jn) (T:List (Str×Str)) (y3 y7 y8 y9:Option D),(∀ j∈l,Jk j)/\l.length<=i/\T.length<=i/\τ=[some (.frl (ns.map .int)),some (.int 9),some (.str (S cs)),y3,x4,some (.lst (l.map zy)),some (.lst (T.map ji)),y7,y8,y9]) (rng 0 m) 0
  [some (.frl (ns.map .int)),some (.int 9),some (.str (S cs)),x3,x4,some (.lst []),some (.lst []),x7,x8,x9] ⟨[],[],x3,x7,x8,x9,fun c hc=>(nomatch hc),Nat.le_refl _,Nat.le_refl _,rfl⟩ (fun i q τ hd ⟨l,T,y3,y7,y8,y9,l1,l2,l3,h⟩=>by
   obtain ⟨hi,rfl⟩:=Z0 hd
   subst h
   obtain ⟨v,hv⟩:=qA ns (9+1+((0:Int)+(i:Nat))%6) (by omega) hn
   obtain ⟨A,B,k,hj,hJ⟩:=z1O ((v+48271*(((0:Int)+(i:Nat))/6))%2147483647) cs hc hl
   have hk:=Ue A B k hJ
   have hlen:(A++k::B).length<=9:=Jk.len (j:=(A,k,B)) hJ
   have s1:=Kh (A++k::B) (by omega) A.length
   have s2:=Zk (A++k::B) (by omega) (A.length+1) (by rw [List.length_append,List.length_cons]; omega)
   have s2:slD (.str (S (A++k::B))) (some (((A.length:Nat):Int)+1)) none=.ok (.str (S ((A++k::B).drop (A.length+1)))):=s2
   obtain ⟨b,hb⟩:=z31 (S ((A++k::B).take A.length),S ((A++k::B).drop (A.length+1))) T
   have hB:=z1P (.frl (ns.map .int)) (.str (S cs)) v ((0:Int)+(i:Nat)) (A.length:Nat) _ _ _ (l.map zy) (T.map ji) b y3 x4 y8 y9 hv hj hk s1 s2 hb (by rw [List.length_map]; omega) (by rw [List.length_map]; omega)
   cases b with
   | false=>exact ⟨_,_,rfl,.inl hB,l,T,_,_,_,_,l1,by omega,by omega,rfl⟩
   | true =>
    refine ⟨_,_,rfl,.inl hB,l++[(A,k,B)],T++[(S ((A++k::B).take A.length),S ((A++k::B).drop (A.length+1)))],some (.int (v+48271*(((0:Int)+(i:Nat))/6))),some (.int ((0:Int)+(i:Nat))),some (.str (S (A++k::B))),some (.int (A.length:Nat)),fun x hx=>?_,by rw [List.length_append]; show _+1<=_; omega,by rw [List.length_append]; show _+1<=_; omega,?_⟩
    ·rcases List.mem_append.mp hx with z | z
     ·exact l1 x z
     ·rw [List.mem_singleton.mp z]; exact hJ
    ·rw [List.map_append,List.map_append,if_pos rfl,if_pos rfl]; rfl)
 exact ⟨l,T,y3,y7,y8,y9,g1,by rw [j7] at g2; omega,by rw [j7] at g3; omega,by rw [e2,h]⟩
theorem z0l (S0:D)(v:Int)(cs:List Nat)(hl:cs.length<=40)(x5 x6 x7 x8 x9:Option D):∃ m:Int,0<=m/\m<=79/\BIF [some S0,some (.int 9),some (.str (S cs)),some (.int v),some (.int (v%9)),x5,x6,x7,x8,x9]=.ok (.nx [some S0,some (.int 9),some (.str (S cs)),some (.int v),some (.int m),x5,x6,x7,x8,x9]):=by
 have h2:=wu cs (by omega)
 have d9:zt (.int v) (.int 9)=.ok (.int (v/9)):=zJ (by decide) (by decide)
 have m16:zu (.int (v/9)) (.int 16)=.ok (.int (v/9%16)):=zD (by decide)
 have d144:zt (.int v) (.int 144)=.ok (.int (v/144)):=zJ (by decide) (by decide)
 have m60:zu (.int (v/144)) (.int 60)=.ok (.int (v/144%60)):=zD (by decide)
 generalize ((cs.length:Nat):Int)=l at *
 generalize S cs=W at *
 cases z1:(v/9%16==1) with
 | false =>
  refine ⟨v%9,by omega,by omega,?_⟩
  simp only [BIF,zk,zl,sIf,z7,eC,z9,eL,zb,z8,zf,yu,asB,R.ok_bind,List.getElem?_cons_zero,List.getElem?_cons_succ,List.set_cons_zero,List.set_cons_succ,ya,zD,zJ,xJ,if_false,Bool.false_eq_true,Int.reduceLT,d9,m16,z1]
 | true =>
  cases z2:decide (l<13) with
  | false =>
   refine ⟨v%9,by omega,by omega,?_⟩
   simp only [BIF,zk,zl,sIf,z7,eC,z9,eL,zb,z8,zf,yu,asB,R.ok_bind,List.getElem?_cons_zero,List.getElem?_cons_succ,List.set_cons_zero,List.set_cons_succ,ya,yy,zD,zJ,xJ,if_true,if_false,Bool.false_eq_true,Int.reduceLT,d9,m16,z1,h2,z2]
  | true =>
   refine ⟨20+v/144%60,by omega,by omega,?_⟩
   simp only [BIF,zk,zl,sIf,z7,eC,z9,eL,zb,z8,zf,yu,asB,R.ok_bind,List.getElem?_cons_zero,List.getElem?_cons_succ,List.set_cons_zero,List.set_cons_succ,ya,yy,xJ,if_true,if_false,Bool.false_eq_true,d9,m16,z1,h2,z2,d144,m60]
theorem z2T (ns:List Int)(hn:ns.length<=63)(cs:List Nat)(hc:∀ c∈cs,c<128)(hl:cs.length<=40):∃ l:List Jn,xj [.frl (ns.map .int),.int 9,.str (S cs)]=.ok (.lst (l.map zy))/\(∀ j∈l,Jk j)/\l.length<=79:=by
 obtain ⟨v,hv⟩:=qA ns 9 (by decide) hn
 have m9:zu (.int v) (.int 9)=.ok (.int (v%9)):=zD (by decide)
 obtain ⟨m,m0,m1,hB⟩:=z0l (.frl (ns.map .int)) v cs hl none none none none none
 have e1:xP [D.int m]=.ok (rng 0 m.toNat):=vn (by omega) (by omega)
 obtain ⟨l,T,y3,y7,y8,y9,g1,g2,g3,h⟩:=z1Q ns hn cs hc hl m.toNat (by omega) (some (.int v)) (some (.int m)) none none none
 refine ⟨l,?_,g1,by omega⟩
 rw [tBK]
 generalize l.map zy=LL at *
 generalize T.map ji=TT at *
 generalize D.frl (ns.map .int)=S0 at *
 generalize S cs=W at *
 generalize m.toNat=mm at *
 have eF:xR (iL xP (z8 (z7 4) zb)) (.one 7) bB [some S0,some (.int 9),some (.str W),some (.int v),some (.int m),some (.lst []),some (.lst []),none,none,none]=_:=qd (by simp only [z7,zb,z8,iL,R.ok_bind,List.getElem?_cons_zero,List.getElem?_cons_succ,e1]) h
 simp only [TBK,zw,zh,zl,zo,z7,eC,z9,eL,zb,z8,R.ok_bind,List.map_cons,List.map_nil,List.length_cons,List.length_nil,List.replicate_succ,List.replicate_zero,List.cons_append,List.nil_append,List.getElem?_cons_zero,List.getElem?_cons_succ,List.set_cons_zero,List.set_cons_succ,Nat.reduceAdd,Nat.reduceSub,Nat.zero_add,hv,m9,hB,eF]
noncomputable abbrev K10:List Key:=[.inr "width",.inr "height",.inr "part",.inr "twin",.inr "over",.inr "lone",.inr "late",.inr "gap",.inr "ahead",.inr "behind"]
noncomputable def dR (a0 a1 a2 a3 a4 a5 a6 a7 a8 a9:Int):D:=.dic K10 [.int a0,.int a1,.int a2,.int a3,.int a4,.int a5,.int a6,.int a7,.int a8,.int a9]
theorem kp (i:Nat)(τ:Tn)(ks ks':List Key)(ds ds':List D)(x:Str)(n:Int)(t ti:Tn->R D)(h1:t τ=.ok (.int n))(h2:z7 i τ=.ok (.dic ks ds))(h3:ti τ=.ok (.str x))(hl:ks.length<16777216)(hp:wb ks ds (.inr x) (.int n)=(ks',ds')):w8 i t ti τ=.ok (.nx (τ.set i (some (.dic ks' ds')))):=by
 rw [Uv,h1,R.ok_bind,h2,R.ok_bind,h3,R.ok_bind,Je rfl hl,hp]
theorem p6 (a b c d e f g:D):wb [.inr "width",.inr "height",.inr "part",.inr "twin",.inr "over",.inr "lone"] [a,b,c,d,e,f] (.inr "late") g=([.inr "width",.inr "height",.inr "part",.inr "twin",.inr "over",.inr "lone",.inr "late"],[a,b,c,d,e,f,g]):=rfl
theorem p7 (a b c d e f g h:D):wb [.inr "width",.inr "height",.inr "part",.inr "twin",.inr "over",.inr "lone",.inr "late"] [a,b,c,d,e,f,g] (.inr "gap") h=([.inr "width",.inr "height",.inr "part",.inr "twin",.inr "over",.inr "lone",.inr "late",.inr "gap"],[a,b,c,d,e,f,g,h]):=rfl
theorem p8 (a b c d e f g h i:D):wb [.inr "width",.inr "height",.inr "part",.inr "twin",.inr "over",.inr "lone",.inr "late",.inr "gap"] [a,b,c,d,e,f,g,h] (.inr "ahead") i=([.inr "width",.inr "height",.inr "part",.inr "twin",.inr "over",.inr "lone",.inr "late",.inr "gap",.inr "ahead"],[a,b,c,d,e,f,g,h,i]):=rfl
theorem p9 (a b c d e f g h i j:D):wb [.inr "width",.inr "height",.inr "part",.inr "twin",.inr "over",.inr "lone",.inr "late",.inr "gap",.inr "ahead"] [a,b,c,d,e,f,g,h,i] (.inr "behind") j=(K10,[a,b,c,d,e,f,g,h,i,j]):=rfl
theorem q8 (a b c d e f g h i j x:D):wb K10 [a,b,c,d,e,f,g,h,i,j] (.inr "ahead") x=(K10,[a,b,c,d,e,f,g,h,x,j]):=rfl
theorem q9 (a b c d e f g h i j x:D):wb K10 [a,b,c,d,e,f,g,h,i,j] (.inr "behind") x=(K10,[a,b,c,d,e,f,g,h,i,x]):=rfl
theorem Wd (xs:List Int)(hx:xs.length=5)(n:Int):∃ v,ixD (.lst (xs.map D.int)) (.int (n%5))=.ok (.int v):=by
 have hi:(n%5).toNat<xs.length:=by omega
 exact ⟨xs[(n%5).toNat],jI (Zr (by omega) (by rw [List.getElem?_map,List.getElem?_eq_getElem hi]; rfl))⟩
theorem z1n (ns:List Int)(hn:ns.length<=63):∃ a0 a1 a2 a3 a4 a5 a6 a7 a8 a9,yU [.frl (ns.map .int),.int 17]=.ok (dR a0 a1 a2 a3 a4 a5 a6 a7 a8 a9):=by
 obtain ⟨v,hv⟩:=qA ns 17 (by decide) hn
 obtain ⟨a,ha⟩:=Wd [1,1,2,3,1+v/16%6] rfl (v/2)
 obtain ⟨b,hb⟩:=Wd [1,2,2,3,1+v/96%6] rfl (v/10)
 refine ⟨4+v%90,2+v%50,v%70,5,9,0,v%3,v%6,a,b,?_⟩
 have ha:ixD (.lst [.int 1,.int 1,.int 2,.int 3,.int (1+v/16%6)]) (.int (v/2%5))=.ok (.int a):=ha
 have hb:ixD (.lst [.int 1,.int 2,.int 2,.int 3,.int (1+v/96%6)]) (.int (v/10%5))=.ok (.int b):=hb
 have m90:zu (.int v) (.int 90)=.ok (.int (v%90)):=zD (by decide)
 have m50:zu (.int v) (.int 50)=.ok (.int (v%50)):=zD (by decide)
 have m70:zu (.int v) (.int 70)=.ok (.int (v%70)):=zD (by decide)
 have m3:zu (.int v) (.int 3)=.ok (.int (v%3)):=zD (by decide)
 have m6:zu (.int v) (.int 6)=.ok (.int (v%6)):=zD (by decide)
 have d16:zt (.int v) (.int 16)=.ok (.int (v/16)):=zJ (by decide) (by decide)
 have d96:zt (.int v) (.int 96)=.ok (.int (v/96)):=zJ (by decide) (by decide)
 have d2:zt (.int v) (.int 2)=.ok (.int (v/2)):=zJ (by decide) (by decide)
 have d10:zt (.int v) (.int 10)=.ok (.int (v/10)):=zJ (by decide) (by decide)
 have m16:zu (.int (v/16)) (.int 6)=.ok (.int (v/16%6)):=zD (by decide)
 have m96:zu (.int (v/96)) (.int 6)=.ok (.int (v/96%6)):=zD (by decide)
 have m25:zu (.int (v/2)) (.int 5)=.ok (.int (v/2%5)):=zD (by decide)
 have m105:zu (.int (v/10)) (.int 5)=.ok (.int (v/10%5)):=zD (by decide)
 generalize D.frl (ns.map .int)=S0 at *
 generalize v%90=c0 at *
 generalize v%50=c1 at *
 generalize v%70=c2 at *
 generalize v%3=c3 at *
 generalize v%6=c4 at *
 generalize v/16%6=c5 at *
 generalize v/96%6=c6 at *
 generalize v/2%5=c7 at *
 generalize v/10%5=c8 at *
 have k1:=kp 3 [some S0,some (.int 17),some (.int v),some (.dic [.inr "width",.inr "height",.inr "part",.inr "twin",.inr "over",.inr "lone"] [.int (4+c0),.int (2+c1),.int c2,.int 5,.int 9,.int 0])] _ _ _ _ "late" c3 (z9 zu (z7 2) (eC (.int 3))) (eC (.str "late")) (by simp only [z7,eC,z9,R.ok_bind,List.getElem?_cons_zero,List.getElem?_cons_succ,m3]) rfl rfl (by decide) (p6 _ _ _ _ _ _ _)
 have k2:=kp 3 [some S0,some (.int 17),some (.int v),some (.dic [.inr "width",.inr "height",.inr "part",.inr "twin",.inr "over",.inr "lone",.inr "late"] [.int (4+c0),.int (2+c1),.int c2,.int 5,.int 9,.int 0,.int c3])] _ _ _ _ "gap" c4 (z9 zu (z7 2) (eC (.int 6))) (eC (.str "gap")) (by simp only [z7,eC,z9,R.ok_bind,List.getElem?_cons_zero,List.getElem?_cons_succ,m6]) rfl rfl (by decide) (p7 _ _ _ _ _ _ _ _)
 have k3:=kp 3 [some S0,some (.int 17),some (.int v),some (.dic [.inr "width",.inr "height",.inr "part",.inr "twin",.inr "over",.inr "lone",.inr "late",.inr "gap"] [.int (4+c0),.int (2+c1),.int c2,.int 5,.int 9,.int 0,.int c3,.int c4])] _ _ _ _ "ahead" a RA (eC (.str "ahead")) (by simp only [RA,z7,eC,z9,eL,zb,z8,R.ok_bind,List.getElem?_cons_zero,List.getElem?_cons_succ,ya,d16,m16,d2,m25,ha]) rfl rfl (by decide) (p8 _ _ _ _ _ _ _ _ _)
 have k4:=kp 3 [some S0,some (.int 17),some (.int v),some (.dic [.inr "width",.inr "height",.inr "part",.inr "twin",.inr "over",.inr "lone",.inr "late",.inr "gap",.inr "ahead"] [.int (4+c0),.int (2+c1),.int c2,.int 5,.int 9,.int 0,.int c3,.int c4,.int a])] _ _ _ _ "behind" b RB (eC (.str "behind")) (by simp only [RB,z7,eC,z9,eL,zb,z8,R.ok_bind,List.getElem?_cons_zero,List.getElem?_cons_succ,ya,d96,m96,d10,m105,hb]) rfl rfl (by decide) (p9 _ _ _ _ _ _ _ _ _ _)
 rw [tRU]
 unfold dR
 simp only [TRU,zw,zh,zl,zo,z7,eC,z9,eL,zb,z8,R.ok_bind,List.map_cons,List.map_nil,List.length_cons,List.length_nil,List.replicate_succ,List.replicate_zero,List.cons_append,List.nil_append,List.getElem?_cons_zero,List.getElem?_cons_succ,List.set_cons_zero,List.set_cons_succ,Nat.reduceAdd,Nat.reduceSub,Nat.zero_add,ya,hv,m90,m50,m70,k1,k2,k3,k4]
theorem ZO (a0 a1 a2 a3 a4 a5 a6 a7 a8 a9:Int):ixD (dR a0 a1 a2 a3 a4 a5 a6 a7 a8 a9) (.str "ahead")=.ok (.int a8):=rfl
theorem kQ (a0 a1 a2 a3 a4 a5 a6 a7 a8 a9:Int):ixD (dR a0 a1 a2 a3 a4 a5 a6 a7 a8 a9) (.str "behind")=.ok (.int a9):=rfl
theorem QZ (a0 a1 a2 a3 a4 a5 a6 a7 a8 a9:Int):vB [dR a0 a1 a2 a3 a4 a5 a6 a7 a8 a9]=.ok (dR a0 a1 a2 a3 a4 a5 a6 a7 a8 a9):=by
 show (if D.imms [.int a0,.int a1,.int a2,.int a3,.int a4,.int a5,.int a6,.int a7,.int a8,.int a9]=true then R.ok (dR a0 a1 a2 a3 a4 a5 a6 a7 a8 a9) else R.bad)=_
 exact if_pos (vd [a0,a1,a2,a3,a4,a5,a6,a7,a8,a9])
theorem JV (a0 a1 a2 a3 a4 a5 a6 a7 a8 a9:Int)(A:List Key)(B:List D)(k0:xG A B (.inr "width")=some (.int a0))(k1:xG A B (.inr "height")=some (.int a1))(k2:xG A B (.inr "part")=some (.int a2))(k3:xG A B (.inr "twin")=some (.int a3))(k4:xG A B (.inr "over")=some (.int a4))(k5:xG A B (.inr "lone")=some (.int a5))(k6:xG A B (.inr "late")=some (.int a6))(k7:xG A B (.inr "gap")=some (.int a7))(k8:xG A B (.inr "ahead")=some (.int a8))(k9:xG A B (.inr "behind")=some (.int a9)):L2.hitsD A B K10 [.int a0,.int a1,.int a2,.int a3,.int a4,.int a5,.int a6,.int a7,.int a8,.int a9]=some true:=by
 simp only [L2.hitsD,k0,k1,k2,k3,k4,k5,k6,k7,k8,k9,D.isS,eqS,Bool.and_self,if_true,Option.map_some,beq_self_eq_true]
theorem z2E (a0 a1 a2 a3 a4 a5 a6 a7 a8 a9:Int):eqR true (dR a0 a1 a2 a3 a4 a5 a6 a7 a8 a9) (dR a0 a1 a2 a3 a4 a5 a6 a7 a8 a9)=.ok (.bl false):=by
 have h:Y8 K10 [.int a0,.int a1,.int a2,.int a3,.int a4,.int a5,.int a6,.int a7,.int a8,.int a9] K10 [.int a0,.int a1,.int a2,.int a3,.int a4,.int a5,.int a6,.int a7,.int a8,.int a9]=some true:=by
  unfold Y8
  rw [if_pos rfl]
  exact JV _ _ _ _ _ _ _ _ _ _ _ _ rfl rfl rfl rfl rfl rfl rfl rfl rfl rfl
 show (match Y8 K10 [.int a0,.int a1,.int a2,.int a3,.int a4,.int a5,.int a6,.int a7,.int a8,.int a9] K10 [.int a0,.int a1,.int a2,.int a3,.int a4,.int a5,.int a6,.int a7,.int a8,.int a9] with
  | some b=>R.ok (D.bl (if true=true then !b else b))
  | none=>.bad)=_
 rw [h]
 rfl
end K05
set_option maxRecDepth 100000
set_option maxHeartbeats 4000000
namespace K05
open PySem PyProof.Rows L2
noncomputable def N0:Tn->R Fl:=(zl 2 (eL (fun ds=>.ok (.lst ds)) (z8 (eC (.str "")) (z8 (eC .non) (z8 (eC (.int 5)) (z8 (eC (.bl true)) (z8 (eC (.bl false)) (z8 (eL (fun ds=>.ok (.lst ds)) (z8 (yE (z7 0)) zb)) (z8 (eL (fun ds=>.ok (.tup ds)) (z8 (yE (z7 0)) zb)) (z8 (z9 zB (z7 0) (z9 uX (eC (.str "a")) (z9 xH (eC (.int 41)) (eL y1 (z8 (yE (z7 0)) zb))))) (z8 (eC (.dic [] [])) (z8 (z9 uX (eC (.str "a")) (eC (.int 41))) zb))))))))))))
noncomputable def N1:Tn->R Fl:=(zl 3 (z9 zu (z9 zt (z7 1) (eC (.int 22))) (z9 zB (eL y1 (z8 (yE (z7 0)) zb)) (eC (.int 1)))))
noncomputable def N2:Tn->R Fl:=(sIf (zf (z9 ltD (z9 zu (z7 1) (eC (.int 22))) (eC (.int 10)))) (zo (z9 ixL (z7 2) (z9 zu (z7 1) (eC (.int 22))))) zk)
noncomputable def N3 (A:Str):Tn->R Fl:=(zo (z9 zB (z9 zB (eSl (z7 0) yN (zO (z7 3))) (z9 ixD (eC (.str A)) (z9 xH (z9 zu (z7 1) (eC (.int 22))) (eC (.int 10))))) (eSl (z7 0) (zO (z7 3)) yN)))
noncomputable abbrev NZ:Str:=" \n	{}|=~_+*#"
theorem tNW:yw=zw 4 (zh N0 (zh N1 (zh N2 (N3 NZ)))):=rfl
noncomputable def TLW (SP K1 K2:Tn->R Fl):Tn->R Fl:=(zh (zl 1 (eL xi (z8 (z7 0) (z8 (eC (.int 0)) zb)))) (zh (zl 2 (eL xj (z8 (z7 0) (z8 (eC (.int 9)) (z8 (z7 1) zb))))) (zh (zl 3 (eL yU (z8 (z7 0) (z8 (eC (.int 17)) zb)))) (zh (zl 4 (eL wa (z8 (z7 2) zb))) (zh (zl 5 (eL vB (z8 (z7 3) zb))) (zh (sIf (bOr (zf (z9 (isB true) (eL zx (z8 (z7 1) zb)) (eC (.bl true)))) (bOr (xD (zf (eL yh (z8 (z7 4) (z8 (z7 5) (z8 (z7 1) zb)))))) (bOr (zf (z9 (eqR true) (z7 4) (z7 2))) (zf (z9 (eqR true) (z7 5) (z7 3)))))) (zo (eC (.bl false))) zk) (zh SP (zh K1 (zh K2 (zh (sIf (xD (zf (eL yh (z8 (z7 4) (z8 (z7 5) (z8 (z7 1) zb)))))) (zo (eC (.bl false))) zk) (zo (eL yJ (z8 (z7 4) (z8 (z7 5) (z8 (eL yw (z8 (z7 1) (z8 (eL zq (z8 (z7 0) (z8 (eC (.int 18)) zb))) zb))) zb)))))))))))))))
theorem tLW:F_law=zw 6 (TLW (sIf (zf (z9 gtD (eL y1 (z8 (z7 4) zb)) (eC (.int 0)))) (kC 4) zk) (w8 5 (eC (.int 1)) (eC (.str "ahead"))) (w8 5 (eC (.int 1)) (eC (.str "behind")))):=rfl
theorem Kv (n:Int)(h1:1<=n):(yM "a" n).length=n.toNat:=by
 unfold yM
 rw [if_neg (by omega)]
 by_cases e:n=1
 ·subst e; rfl
 ·rw [if_neg (by
   have e1:(n==1)=false:=beq_false_of_ne e
   have e2:((("a":Str).length==0)=false):=by decide
   rw [e1,e2]; decide)]
  show ((List.replicate n.toNat (("a":Str)).cps).foldl (·++·) #[]).size=_
  rw [jO]
  show 0+n.toNat*1=_
  omega
theorem Uo (n:Int)(h1:1<=n)(h2:n<=41):uX (.str "a") (.int n)=.ok (.str (yM "a" n)):=by
 have e:("a":Str).length=1:=by decide
 exact if_pos ⟨by omega,by rw [e]; omega,by omega⟩
theorem Wk (z:Str)(h1:40<z.length)(h2:z.length<=1000):zx [.str z]=.ok (.bl false):=by
 rw [Wr z]
 have e:z.cps.toList.length=z.length:=by simp [Str.length]
 exact vT _ (.inr (by omega)) (by omega)
theorem W5 (x y:Str):(x++y).length=x.length+y.length:=by
 have e:(x++y).cps.toList.length=_:=congrArg List.length (Wu x y)
 rw [List.length_append] at e
 simpa [Str.length] using e
theorem z2J (A:Str)(hA:A.length=12)(pA:∀ c∈A.cps.toList,¬ okS c)(n:Int)(cs:List Nat)(hl:cs.length<=40)(p:Nat)(hp:p<=cs.length)(x2:Option D)(h10:¬ n%22<10):∃ d,N3 A [some (.str (S cs)),some (.int n),x2,some (.int (p:Nat))]=.ok (.rt d)/\zx [d]=.ok (.bl false):=by
 have m22:zu (.int n) (.int 22)=.ok (.int (n%22)):=zD (by decide)
 obtain ⟨c,e,hc⟩:=jV (z:=A) (i:=n%22-10) (p:=fun c=>¬ okS c) (by omega) (by omega) (by omega) pA
 have s1:=Kh cs (by omega) p
 have s2:=Zk cs (by omega) p hp
 have lt:(cs.take p).length=p:=by rw [List.length_take]; omega
 have ld:(cs.drop p).length=cs.length-p:=List.length_drop
 have p1:zB (.str (S (cs.take p))) (.str (one c))=.ok (.str (S (cs.take p++[c]))):=by
  rw [uC (by rw [yz,sizeLine_eq]; show _+1<=_; omega)]
  show R.ok (D.str (S _++S [c]))=_
  rw [Y3]
 have p2:zB (.str (S (cs.take p++[c]))) (.str (S (cs.drop p)))=.ok (.str (S (cs.take p++c::cs.drop p))):=by
  rw [uC (by rw [yz,yz,sizeLine_eq,List.length_append]; show _+1+_<=_; omega),Y3,List.append_assoc]
  rfl
 have hlen:(cs.take p++c::cs.drop p).length=cs.length+1:=by rw [List.length_append,List.length_cons]; omega
 refine ⟨.str (S (cs.take p++c::cs.drop p)),?_,?_⟩
 ·generalize S (cs.take p++c::cs.drop p)=X3 at *
  generalize S (cs.take p++[c])=X2 at *
  generalize S (cs.take p)=X1 at *
  generalize S (cs.drop p)=X4 at *
  generalize one c=X5 at *
  generalize S cs=W at *
  generalize ((p:Nat):Int)=P at *
  generalize n%22=k at *
  simp only [N3,zo,z7,eC,z9,eSl,yN,zO,R.ok_bind,List.getElem?_cons_zero,List.getElem?_cons_succ,yA,m22,e,s1,s2,p1,p2]
 ·by_cases h:cs.length=40
  ·exact vT _ (.inr (by omega)) (by omega)
  ·rw [vO _ (by omega) (by omega)]
   have:((cs.take p++c::cs.drop p).all fun c=>decide (okS c))=false:=by
    rw [List.all_eq_false]
    exact ⟨c,List.mem_append_right _ (List.mem_cons_self ..),by rw [decide_eq_false hc]; decide⟩
   rw [this]
theorem z19:NZ.length=12:=by decide +kernel
theorem z2z:∀ c∈NZ.cps.toList,¬ okS c:=by unfold okS; decide +kernel
noncomputable def odd (W Y Z:Str):List D:=[.str "",.non,.int 5,.bl true,.bl false,.lst [.str W],.tup [.str W],.str Y,.dic [] [],.str Z]
theorem z0o (W Y Z:Str)(hY:zx [.str Y]=.ok (.bl false))(hZ:zx [.str Z]=.ok (.bl false)):∀ d∈odd W Y Z,zx [d]=.ok (.bl false):=by
 intro d hd
 unfold odd at hd
 simp only [List.mem_cons,List.not_mem_nil,or_false] at hd
 rcases hd with rfl | rfl | rfl | rfl | rfl | rfl | rfl | rfl | rfl | rfl
 ·exact vT [] (.inl rfl) (by decide)
 ·exact xy _ rfl
 ·exact xy _ rfl
 ·exact xy _ rfl
 ·exact xy _ rfl
 ·exact xy _ rfl
 ·exact xy _ rfl
 ·exact hY
 ·exact xy _ rfl
 ·exact hZ
theorem z1J (cs:List Nat)(h1:1<=cs.length)(hl:cs.length<=40)(x1 x3:Option D):∃ Y Z:Str,N0 [some (.str (S cs)),x1,none,x3]=.ok (.nx [some (.str (S cs)),x1,some (.lst (odd (S cs) Y Z)),x3])/\zx [.str Y]=.ok (.bl false)/\zx [.str Z]=.ok (.bl false):=by
 have h2:=wu cs (by omega)
 have ma:=Uo (41-(cs.length:Nat)) (by omega) (by omega)
 have mb:=Uo 41 (by decide) (by decide)
 have la:=Kv (41-(cs.length:Nat)) (by omega)
 have lb:=Kv 41 (by decide)
 have ad:zB (.str (S cs)) (.str (yM "a" (41-(cs.length:Nat))))=.ok (.str (S cs++yM "a" (41-(cs.length:Nat)))):=uC (by rw [la,yz,sizeLine_eq]; omega)
 refine ⟨S cs++yM "a" (41-(cs.length:Nat)),yM "a" 41,?_,Wk _ ?_ ?_,Wk _ ?_ ?_⟩
 ·clear la lb
  unfold odd
  generalize S cs++yM "a" (41-(cs.length:Nat))=Y at *
  generalize yM "a" (41-(cs.length:Nat))=Y1 at *
  generalize yM "a" 41=Z at *
  generalize S cs=W at *
  generalize ((cs.length:Nat):Int)=l at *
  simp only [N0,yj,u4,zl,z7,eC,z9,eL,zb,z8,R.ok_bind,List.getElem?_cons_zero,List.set_cons_zero,List.set_cons_succ,yA,h2,ma,mb,ad]
 ·rw [W5,la,yz]; omega
 ·rw [W5,la,yz]; omega
 ·rw [lb]; decide
 ·rw [lb]; decide
theorem Jb (cs:List Nat)(h1:1<=cs.length)(hl:cs.length<=40)(n:Int):∃ d,yw [.str (S cs),.int n]=.ok d/\zx [d]=.ok (.bl false):=by
 obtain ⟨Y,Z,h0,hY,hZ⟩:=z1J cs h1 hl (some (.int n)) none
 have h2:=wu cs (by omega)
 have m22:zu (.int n) (.int 22)=.ok (.int (n%22)):=zD (by decide)
 have d22:zt (.int n) (.int 22)=.ok (.int (n/22)):=zJ (by decide) (by decide)
 have ml:zu (.int (n/22)) (.int ((cs.length:Nat)+1))=.ok (.int (n/22%((cs.length:Nat)+1))):=zD (by omega)
 have q0:0<=n/22%(((cs.length:Nat):Int)+1):=Int.emod_nonneg _ (by omega)
 have q1:n/22%(((cs.length:Nat):Int)+1)<((cs.length:Nat):Int)+1:=Int.emod_lt_of_pos _ (by omega)
 have e1:∀ x,N1 [some (.str (S cs)),some (.int n),x,none]=.ok (.nx [some (.str (S cs)),some (.int n),x,some (.int (n/22%(((cs.length:Nat):Int)+1)))]):=fun x=>by
  clear h0 hY hZ q0 q1
  generalize n/22%(((cs.length:Nat):Int)+1)=q at *
  generalize ((cs.length:Nat):Int)=l at *
  generalize S cs=W at *
  simp only [N1,yj,u4,zl,z7,eC,z9,eL,zb,z8,R.ok_bind,List.getElem?_cons_zero,List.getElem?_cons_succ,List.set_cons_zero,List.set_cons_succ,ya,h2,d22,ml]
 rw [tNW]
 by_cases h10:n%22<10
 ·have e2:decide (n%22<10)=true:=decide_eq_true h10
  have hi:(n%22).toNat<(odd (S cs) Y Z).length:=by show _<10; omega
  have hx:ixL (.lst (odd (S cs) Y Z)) (.int (n%22))=.ok (odd (S cs) Y Z)[(n%22).toNat]:=jI (Zr (by omega) (List.getElem?_eq_getElem hi))
  have hw:=z0o (S cs) Y Z hY hZ _ (List.getElem_mem hi)
  refine ⟨_,?_,hw⟩
  clear hw hY hZ q0 q1 ml
  generalize (odd (S cs) Y Z)[(n%22).toNat]=d at *
  generalize odd (S cs) Y Z=OD at *
  generalize n/22%(((cs.length:Nat):Int)+1)=q at *
  generalize S cs=W at *
  generalize n%22=k at *
  simp only [zk,zw,zh,zo,sIf,z7,eC,z9,zf,asB,R.ok_bind,List.map_cons,List.map_nil,List.length_cons,List.length_nil,List.replicate_succ,List.replicate_zero,List.cons_append,List.nil_append,List.getElem?_cons_zero,List.getElem?_cons_succ,Nat.reduceAdd,Nat.reduceSub,Nat.zero_add,yy,if_true,h0,e1,N2,m22,e2,hx]
 ·have e2:decide (n%22<10)=false:=decide_eq_false h10
  generalize n/22%(((cs.length:Nat):Int)+1)=q at *
  have eq:q=((q.toNat:Nat):Int):=by omega
  obtain ⟨d,h3,hw⟩:=z2J NZ z19 z2z n cs hl q.toNat (by omega) (some (.lst (odd (S cs) Y Z))) h10
  rw [<- eq] at h3
  refine ⟨d,?_,hw⟩
  clear hw hY hZ q0 q1 ml
  generalize odd (S cs) Y Z=OD at *
  generalize N3 NZ=NN at *
  generalize S cs=W at *
  generalize n%22=k at *
  simp only [zk,zw,zh,zo,sIf,z7,eC,z9,zf,asB,R.ok_bind,List.map_cons,List.map_nil,List.length_cons,List.length_nil,List.replicate_succ,List.replicate_zero,List.cons_append,List.nil_append,List.getElem?_cons_zero,List.getElem?_cons_succ,Nat.reduceAdd,Nat.reduceSub,Nat.zero_add,yy,if_false,Bool.false_eq_true,h0,e1,N2,m22,e2,h3]
theorem z22 {F:List D->R D}{u:Tn->R (List D)}{j:Nat}{g:Str->Option Int}{τ:Tn}{ds:List D}{m:Str}{i k r:Int}(h1:u τ=.ok ds)(h2:F ds=.err m)(h3:g m=some k)(h4:τ[j]?=some (some (.int i)))(h5:i+k=r):uU F u j g τ=.ok (.nx (τ.set j (some (.int r)))):=by
 unfold uU
 simp only [h1,h2,h3,h4,h5]
theorem QH (BK RR d:D)(h:zx [d]=.ok (.bl false)):yJ [BK,RR,d]=.ok (.bl true):=by
 have hp:=jU BK RR d h
 have hq:=YO BK RR d h
 have g1:zQ "BadWord"=some 1:=if_pos rfl
 have i1:isB false (.bl false) (.bl false)=.ok (.bl true):=rfl
 have t1:uU zV (z8 (z7 0) (z8 (z7 1) (z8 (z7 2) zb))) 3 zQ [some BK,some RR,some d,some (.int 0),none]=.ok (.nx [some BK,some RR,some d,some (.int 1),none]):=z22 (ds:=[BK,RR,d]) (by simp only [z7,zb,z8,R.ok_bind,List.getElem?_cons_zero,List.getElem?_cons_succ]) hp g1 rfl (by decide)
 have t2:uU xq (z8 (z7 0) (z8 (z7 1) (z8 (z7 2) zb))) 3 zQ [some BK,some RR,some d,some (.int 1),none]=.ok (.nx [some BK,some RR,some d,some (.int 2),none]):=z22 (ds:=[BK,RR,d]) (by simp only [z7,zb,z8,R.ok_bind,List.getElem?_cons_zero,List.getElem?_cons_succ]) hq g1 rfl (by decide)
 have e2:eqR false (.int 2) (.int 2)=.ok (.bl true):=by rw [xJ]; rfl
 show zw 5 wq [BK,RR,d]=_
 unfold wq
 simp only [zw,zh,zl,zo,z7,eC,z9,eL,zb,z8,xM,asB,R.ok_bind,List.map_cons,List.map_nil,List.length_cons,List.length_nil,List.replicate_succ,List.replicate_zero,List.cons_append,List.nil_append,List.getElem?_cons_zero,List.getElem?_cons_succ,List.set_cons_zero,List.set_cons_succ,Nat.reduceAdd,Nat.reduceSub,Nat.zero_add,if_true,t1,t2,e2,h,i1]
theorem Kn (n:Nat):∀ l:List Jn,yF (eqF n) (l.map zy) (l.map zy)=some true
 | []=>rfl
 | j::l=>by
  rw [List.map_cons]
  unfold yF
  rw [Kn n l]
  have:eqF n (zy j) (zy j)=some true:=by
   have e:eqF n (zy j) (zy j)=some (S (jtx j)==S (jtx j)):=by cases n<;>rfl
   rw [e,beq_self_eq_true]
  rw [this]
  rfl
theorem z30 (l:List Jn):eqR true (.lst (l.map zy)) (.lst (l.map zy))=.ok (.bl false):=by
 refine Wj (fun _ _ h=>by cases h) ?_
 show (if (l.map zy).length=(l.map zy).length then yF (eqF 11) (l.map zy) (l.map zy) else some false)=_
 rw [if_pos rfl]
 exact Kn 11 l
theorem z2N (l:List Jn)(s0 s1 s2 s3 s5:Option D):∃ l':List Jn,(∀ j∈l',j∈l)/\l'.length<=l.length/\(sIf (zf (z9 gtD (eL y1 (z8 (z7 4) zb)) (eC (.int 0)))) (kC 4) zk) [s0,s1,s2,s3,some (.lst (l.map zy)),s5]=.ok (.nx [s0,s1,s2,s3,some (.lst (l'.map zy)),s5]):=by
 cases l with
 | nil =>
  refine ⟨[],fun j h=>h,Nat.le_refl _,?_⟩
  have e:y1 [.lst ([]:List D)]=.ok (.int 0):=rfl
  have e2:gtD (.int 0) (.int 0)=.ok (.bl false):=rfl
  show _=R.ok (Fl.nx [s0,s1,s2,s3,some (.lst []),s5])
  rw [List.map_nil]
  simp only [zk,sIf,z7,eC,z9,eL,zb,z8,zf,asB,R.ok_bind,List.getElem?_cons_zero,List.getElem?_cons_succ,if_false,Bool.false_eq_true,e,e2]
 | cons j l =>
  refine ⟨l,fun x h=>List.mem_cons_of_mem _ h,Nat.le_succ _,?_⟩
  have e:y1 [.lst ((j::l).map zy)]=.ok (.int (((j::l).map zy).length:Nat)):=rfl
  have e2:gtD (.int (((j::l).map zy).length:Nat)) (.int 0)=.ok (.bl true):=by
   rw [ZK,decide_eq_true (by rw [List.length_map,List.length_cons]; omega)]
  have e3:kC 4 [s0,s1,s2,s3,some (.lst ((j::l).map zy)),s5]=.ok (.nx [s0,s1,s2,s3,some (.lst (l.map zy)),s5]):=rfl
  generalize ((((j::l).map zy).length:Nat):Int)=n at *
  generalize (j::l).map zy=L at *
  generalize l.map zy=L' at *
  simp only [zk,sIf,z7,eC,z9,eL,zb,z8,zf,asB,R.ok_bind,List.getElem?_cons_zero,List.getElem?_cons_succ,if_true,e,e2,e3]
theorem z1N (SP K1 K2:Tn->R Fl)(S0 W BK RR BK2 R1 R2 d:D)(n:Int)(hw:xi [S0,.int 0]=.ok W)(hb:xj [S0,.int 9,W]=.ok BK)(hr:yU [S0,.int 17]=.ok RR)(h1:wa [BK]=.ok BK)(h2:vB [RR]=.ok RR)(h3:zx [W]=.ok (.bl true))(h4:yh [BK,RR,W]=.ok (.bl true))(h5:eqR true BK BK=.ok (.bl false))(h6:eqR true RR RR=.ok (.bl false))
  (h7:SP [some S0,some W,some BK,some RR,some BK,some RR]=.ok (.nx [some S0,some W,some BK,some RR,some BK2,some RR])) (h8:K1 [some S0,some W,some BK,some RR,some BK2,some RR]=.ok (.nx [some S0,some W,some BK,some RR,some BK2,some R1])) (h9:K2 [some S0,some W,some BK,some RR,some BK2,some R1]=.ok (.nx [some S0,some W,some BK,some RR,some BK2,some R2]))
  (h10:yh [BK2,R2,W]=.ok (.bl true)) (h11:zq [S0,.int 18]=.ok (.int n)) (h12:yw [W,.int n]=.ok d) (h13:yJ [BK2,R2,d]=.ok (.bl true)):zw 6 (TLW SP K1 K2) [S0]=.ok (.bl true):=by
 have i1:isB true (.bl true) (.bl true)=.ok (.bl false):=rfl
 unfold TLW
 simp only [zk,zw,zh,zl,zo,sIf,z7,eC,z9,eL,zb,z8,zf,bOr,xD,asB,R.ok_bind,List.map_cons,List.map_nil,List.length_cons,List.length_nil,List.replicate_succ,List.replicate_zero,List.cons_append,List.nil_append,List.getElem?_cons_zero,List.getElem?_cons_succ,List.set_cons_zero,List.set_cons_succ,Nat.reduceSub,Nat.zero_add,if_false,Bool.false_eq_true,hw,hb,hr,h1,h2,h3,h4,h5,h6,i1,h7,h8,h9,h10,h11,h12,h13,Bool.not_true]
theorem law_true (ns:List Int)(h:ns.length<=63):F_law [.frl (ns.map D.int)]=.ok (.bl true):=by
 obtain ⟨cs,hw,ho,l1,l2⟩:=z32 ns h
 have hc:∀ c∈cs,c<128:=fun c h=>(ho c h).lt
 obtain ⟨l,hb,hJ,hn⟩:=z2T ns h cs hc l2
 obtain ⟨a0,a1,a2,a3,a4,a5,a6,a7,a8,a9,hr⟩:=z1n ns h
 have h3:zx [.str (S cs)]=.ok (.bl true):=by
  rw [vO cs l1 l2]
  have:(cs.all fun c=>decide (okS c))=true:=List.all_eq_true.mpr fun c h=>decide_eq_true (ho c h)
  rw [this]
 have h4:=Jm _ _ _ (ZO a0 a1 a2 a3 a4 a5 a6 a7 a8 a9) (kQ a0 a1 a2 a3 a4 a5 a6 a7 a8 a9) cs ho l1 l2 l hJ (by omega)
 obtain ⟨l',hm,hk,h7⟩:=z2N l (some (.frl (ns.map .int))) (some (.str (S cs))) (some (.lst (l.map zy))) (some (dR a0 a1 a2 a3 a4 a5 a6 a7 a8 a9)) (some (dR a0 a1 a2 a3 a4 a5 a6 a7 a8 a9))
 have h10:=Jm _ _ _ (ZO a0 a1 a2 a3 a4 a5 a6 a7 1 1) (kQ a0 a1 a2 a3 a4 a5 a6 a7 1 1) cs ho l1 l2 l' (fun j q=>hJ j (hm j q)) (by omega)
 obtain ⟨n,h11⟩:=qA ns 18 (by decide) h
 obtain ⟨d,h12,hd⟩:=Jb cs l1 l2 n
 have h8:=kp 5 [some (.frl (ns.map .int)),some (.str (S cs)),some (.lst (l.map zy)),some (dR a0 a1 a2 a3 a4 a5 a6 a7 a8 a9),some (.lst (l'.map zy)),some (dR a0 a1 a2 a3 a4 a5 a6 a7 a8 a9)] _ _ _ _ "ahead" 1 (eC (.int 1)) (eC (.str "ahead")) rfl rfl rfl (by decide) (q8 _ _ _ _ _ _ _ _ _ _ _)
 have h9:=kp 5 [some (.frl (ns.map .int)),some (.str (S cs)),some (.lst (l.map zy)),some (dR a0 a1 a2 a3 a4 a5 a6 a7 a8 a9),some (.lst (l'.map zy)),some (dR a0 a1 a2 a3 a4 a5 a6 a7 1 a9)] _ _ _ _ "behind" 1 (eC (.int 1)) (eC (.str "behind")) rfl rfl rfl (by decide) (q9 _ _ _ _ _ _ _ _ _ _ _)
 rw [tLW]
 exact z1N _ _ _ _ _ _ _ _ _ _ d n hw hb hr (ZL (UC l)) (QZ a0 a1 a2 a3 a4 a5 a6 a7 a8 a9) h3 h4 (z30 l) (z2E a0 a1 a2 a3 a4 a5 a6 a7 a8 a9) h7 h8 h9 h10 h11 h12 (QH _ _ d hd)
end K05
set_option maxRecDepth 100000
set_option maxHeartbeats 4000000
namespace K05
open PySem PySem.W PyProof.Rows
noncomputable def e (P:Params)(k:Str)(t:Nat)(v:Value):DictEntry:={ hash:=PyData.keyHash P k,key:=.str k t,val:=v }
noncomputable def dO (v:Array DictEntry)(n:Nat):Obj:={ cls:=.type "dict",data:=.dict v n }
noncomputable def cO (n:Str)(t l a f r k:Nat):Obj:={ cls:=.type "code",data:=.fields #[.str n t,.str n (t+1),.str "/claim/cut.py" (t+2),.int l 0,.int a 0,.int 0 0,.int 0 0,.int f 0,.ref r,.bool true,.int 181 0,.ref (r+1),.none,.ref (r+2),.ref (r+3),.ref (r+4),.int k 0,.int l 0,.str "/claim/cut.py" (k+1)] }
noncomputable def cN (n:Str)(t l a r:Nat):Obj:={ cls:=.type "code",data:=.fields #[.str n t,.str n (t+1),.str "/claim/cut.py" (t+2),.int l 0,.int a 0,.int 0 0,.int 0 0,.int 3 0,.ref r,.bool true,.int 181 0,.ref (r+1),.none,.none,.none,.ref (r+2),.int (t+3) 0,.int l 0,.str "/claim/cut.py" (t+4)] }
noncomputable def fO (n:Str)(i c:Nat)(m:Str)(t:Nat):Obj:=⟨.type "function",none,.func (fnOf n n (L2.defArgs (top i)) (L2.defBody (top i)) (L2.defScope (top i)) .none .none .none (.str m t) none (.ref c) .none),#[]⟩
noncomputable def K0 (P:Params):Frag:=[
 (3,dO #[e P "__name__" 165 (.str "law_quirehand_k05_whole_a_word_parted" 530),e P "__doc__" 166 .none,e P "__package__" 167 .none,e P "__loader__" 168 (.builtin "__main__.__loader__#opaque"),e P "__spec__" 169 .none,e P "__annotations__" 170 (.ref 6),e P "__builtins__" 171 (.ref 4),e P "__file__" 173 (.str "/claim/cut.py" 172),e P "__cached__" 174 .none,e P "SetError" 206 (.ref 24),e P "BadFace" 222 (.ref 37),e P "BadRules" 238 (.ref 49),e P "BadBook" 254 (.ref 61),e P "BadWord" 270 (.ref 73),e P "BadBlocks" 286 (.ref 85),e P "BadText" 311 (.ref 104),e P "BadBreaks" 327 (.ref 116),e P "TooWide" 343 (.ref 128),e P "NoPlace" 359 (.ref 140),e P "NoNote" 375 (.ref 152),e P "SIGNS" 379 (.str "abcdefghijklmnopqrstuvwxyzABCDEFGHIJKLMNOPQRSTUVWXYZ0123456789.,;:!?'\"()-/" 378),e P "is_sign" 386 (.ref 161),e P "SMALL" 390 (.str "abcdefghijklmnopqrstuvwxyz" 389),e P "mark_at" 397 (.ref 168),e P "letters_of" 404 (.ref 175),e P "fits" 415 (.ref 182),e P "rank" 422 (.ref 189),e P "telling" 433 (.ref 196),e P "MOST_SIGNS" 437 (.int 40 436),e P "is_word" 443 (.ref 201),e P "need_word" 450 (.ref 208),e P "is_letter" 457 (.ref 215),e P "letters_ahead" 466 (.ref 222),e P "letters_behind" 475 (.ref 229),e P "may_part" 486 (.ref 236),e P "is_soft" 494 (.ref 243),e P "join_at" 504 (.ref 250),e P "joints_within" 510 (.ref 255),e P "places" 516 (.ref 260),e P "parted" 529 (.ref 267),e P "_law_number" 540 (.ref 274),e P "_law_sign" 548 (.ref 281),e P "_law_word" 560 (.ref 288),e P "_law_small" 568 (.ref 295),e P "_law_letter_by" 577 (.ref 302),e P "_law_joint" 583 (.ref 307),e P "_law_mark" 589 (.ref 312),e P "_law_book" 605 (.ref 319),e P "_law_rules" 615 (.ref 326),e P "_law_is_letter" 623 (.ref 333),e P "_law_join" 629 (.ref 338),e P "_law_pairs" 639 (.ref 345),e P "_law_good" 645 (.ref 350),e P "_law_class" 652 (.ref 357),e P "_law_refused" 663 (.ref 364),e P "_law_no_word" 673 (.ref 371),e P "law" 685 (.ref 378)] 57),
 (23,dO #[e P "__module__" 196 (.str "quirehand.errors" 187),e P "__firstlineno__" 200 (.int 2 199),e P "__static_attributes__" 201 (.ref 22),e P "__weakref__" 203 (.ref 25),e P "__doc__" 204 .none] 3),
 (24,{ cls:=.type "type",data:=.cls { name:="SetError",bases:=[.type "ValueError"],mro:=[.ref 24,.type "ValueError",.type "Exception",.type "BaseException",.type "object"],ns:=23,qualname:="SetError",subclasses:=[.ref 37,.ref 49,.ref 61,.ref 73,.ref 85,.ref 104,.ref 116,.ref 128,.ref 140,.ref 152] },slots:=#[some (.ref 15),none,some (.str "SetError" 189),some (.str "SetError" 197),some (.builtin "ValueError.__new__"),some (.bool true)] }),
 (36,dO #[e P "__module__" 214 (.str "quirehand.errors" 187),e P "__firstlineno__" 218 (.int 4 217),e P "__static_attributes__" 219 (.ref 35),e P "__doc__" 220 .none] 2),
 (37,{ cls:=.type "type",data:=.cls { name:="BadFace",bases:=[.ref 24],mro:=[.ref 37,.ref 24,.type "ValueError",.type "Exception",.type "BaseException",.type "object"],ns:=36,qualname:="BadFace" },slots:=#[some (.ref 28),none,some (.str "BadFace" 207),some (.str "BadFace" 215),some (.builtin "ValueError.__new__"),some (.bool true)] }),
 (48,dO #[e P "__module__" 230 (.str "quirehand.errors" 187),e P "__firstlineno__" 234 (.int 6 233),e P "__static_attributes__" 235 (.ref 47),e P "__doc__" 236 .none] 2),
 (49,{ cls:=.type "type",data:=.cls { name:="BadRules",bases:=[.ref 24],mro:=[.ref 49,.ref 24,.type "ValueError",.type "Exception",.type "BaseException",.type "object"],ns:=48,qualname:="BadRules" },slots:=#[some (.ref 40),none,some (.str "BadRules" 223),some (.str "BadRules" 231),some (.builtin "ValueError.__new__"),some (.bool true)] }),
 (60,dO #[e P "__module__" 246 (.str "quirehand.errors" 187),e P "__firstlineno__" 250 (.int 8 249),e P "__static_attributes__" 251 (.ref 59),e P "__doc__" 252 .none] 2),
 (61,{ cls:=.type "type",data:=.cls { name:="BadBook",bases:=[.ref 24],mro:=[.ref 61,.ref 24,.type "ValueError",.type "Exception",.type "BaseException",.type "object"],ns:=60,qualname:="BadBook" },slots:=#[some (.ref 52),none,some (.str "BadBook" 239),some (.str "BadBook" 247),some (.builtin "ValueError.__new__"),some (.bool true)] }),
 (72,dO #[e P "__module__" 262 (.str "quirehand.errors" 187),e P "__firstlineno__" 266 (.int 10 265),e P "__static_attributes__" 267 (.ref 71),e P "__doc__" 268 .none] 2),
 (73,{ cls:=.type "type",data:=.cls { name:="BadWord",bases:=[.ref 24],mro:=[.ref 73,.ref 24,.type "ValueError",.type "Exception",.type "BaseException",.type "object"],ns:=72,qualname:="BadWord" },slots:=#[some (.ref 64),none,some (.str "BadWord" 255),some (.str "BadWord" 263),some (.builtin "ValueError.__new__"),some (.bool true)] }),
 (84,dO #[e P "__module__" 278 (.str "quirehand.errors" 187),e P "__firstlineno__" 282 (.int 12 281),e P "__static_attributes__" 283 (.ref 83),e P "__doc__" 284 .none] 2),
 (85,{ cls:=.type "type",data:=.cls { name:="BadBlocks",bases:=[.ref 24],mro:=[.ref 85,.ref 24,.type "ValueError",.type "Exception",.type "BaseException",.type "object"],ns:=84,qualname:="BadBlocks" },slots:=#[some (.ref 76),none,some (.str "BadBlocks" 271),some (.str "BadBlocks" 279),some (.builtin "ValueError.__new__"),some (.bool true)] }),
 (103,dO #[e P "__module__" 294 (.str "quirehand.errors" 187),e P "__firstlineno__" 298 (.int 14 297),e P "__init__" 306 (.ref 101),e P "__static_attributes__" 308 (.ref 102),e P "__doc__" 309 .none] 2),
 (104,{ cls:=.type "type",data:=.cls { name:="BadText",bases:=[.ref 24],mro:=[.ref 104,.ref 24,.type "ValueError",.type "Exception",.type "BaseException",.type "object"],ns:=103,qualname:="BadText" },slots:=#[some (.ref 88),none,some (.str "BadText" 287),some (.str "BadText" 295),some (.builtin "ValueError.__new__"),some (.bool true)] }),
 (115,dO #[e P "__module__" 319 (.str "quirehand.errors" 187),e P "__firstlineno__" 323 (.int 19 322),e P "__static_attributes__" 324 (.ref 114),e P "__doc__" 325 .none] 2),
 (116,{ cls:=.type "type",data:=.cls { name:="BadBreaks",bases:=[.ref 24],mro:=[.ref 116,.ref 24,.type "ValueError",.type "Exception",.type "BaseException",.type "object"],ns:=115,qualname:="BadBreaks" },slots:=#[some (.ref 107),none,some (.str "BadBreaks" 312),some (.str "BadBreaks" 320),some (.builtin "ValueError.__new__"),some (.bool true)] }),
 (127,dO #[e P "__module__" 335 (.str "quirehand.errors" 187),e P "__firstlineno__" 339 (.int 21 338),e P "__static_attributes__" 340 (.ref 126),e P "__doc__" 341 .none] 2),
 (128,{ cls:=.type "type",data:=.cls { name:="TooWide",bases:=[.ref 24],mro:=[.ref 128,.ref 24,.type "ValueError",.type "Exception",.type "BaseException",.type "object"],ns:=127,qualname:="TooWide" },slots:=#[some (.ref 119),none,some (.str "TooWide" 328),some (.str "TooWide" 336),some (.builtin "ValueError.__new__"),some (.bool true)] }),
 (139,dO #[e P "__module__" 351 (.str "quirehand.errors" 187),e P "__firstlineno__" 355 (.int 23 354),e P "__static_attributes__" 356 (.ref 138),e P "__doc__" 357 .none] 2),
 (140,{ cls:=.type "type",data:=.cls { name:="NoPlace",bases:=[.ref 24],mro:=[.ref 140,.ref 24,.type "ValueError",.type "Exception",.type "BaseException",.type "object"],ns:=139,qualname:="NoPlace" },slots:=#[some (.ref 131),none,some (.str "NoPlace" 344),some (.str "NoPlace" 352),some (.builtin "ValueError.__new__"),some (.bool true)] }),
 (151,dO #[e P "__module__" 367 (.str "quirehand.errors" 187),e P "__firstlineno__" 371 (.int 25 370),e P "__static_attributes__" 372 (.ref 150),e P "__doc__" 373 .none] 2),
 (152,{ cls:=.type "type",data:=.cls { name:="NoNote",bases:=[.ref 24],mro:=[.ref 152,.ref 24,.type "ValueError",.type "Exception",.type "BaseException",.type "object"],ns:=151,qualname:="NoNote" },slots:=#[some (.ref 143),none,some (.str "NoNote" 360),some (.str "NoNote" 368),some (.builtin "ValueError.__new__"),some (.bool true)] }),
 (160,cO "is_sign" 380 29 1 3 155 384),
 (161,fO "is_sign" 14 160 "quirehand.faces" 376),
 (167,cO "mark_at" 391 33 1 3 162 395),
 (168,fO "mark_at" 17 167 "quirehand.joints" 387),
 (174,cO "letters_of" 398 35 1 3 169 402),
 (175,fO "letters_of" 18 174 "quirehand.joints" 387),
 (181,cO "fits" 405 37 3 3 176 413),
 (182,fO "fits" 19 181 "quirehand.joints" 387),
 (188,cO "rank" 416 41 1 3 183 420),
 (189,fO "rank" 20 188 "quirehand.joints" 387),
 (195,cO "telling" 423 43 3 3 190 431),
 (196,fO "telling" 21 195 "quirehand.joints" 387),
 (200,cN "is_word" 438 51 1 197),
 (201,fO "is_word" 24 200 "quirehand.parting" 434),
 (207,cO "need_word" 444 55 1 3 202 448),
 (208,fO "need_word" 25 207 "quirehand.parting" 434),
 (214,cO "is_letter" 451 59 1 3 209 455),
 (215,fO "is_letter" 26 214 "quirehand.parting" 434),
 (221,cO "letters_ahead" 458 61 2 3 216 464),
 (222,fO "letters_ahead" 27 221 "quirehand.parting" 434),
 (228,cO "letters_behind" 467 66 2 3 223 473),
 (229,fO "letters_behind" 28 228 "quirehand.parting" 434),
 (235,cO "may_part" 476 71 4 3 230 484),
 (236,fO "may_part" 29 235 "quirehand.parting" 434),
 (242,cO "is_soft" 487 76 2 3 237 492),
 (243,fO "is_soft" 30 242 "quirehand.parting" 434),
 (249,cO "join_at" 495 80 4 3 244 502),
 (250,fO "join_at" 31 249 "quirehand.parting" 434),
 (254,cN "joints_within" 505 86 2 251),
 (255,fO "joints_within" 32 254 "quirehand.parting" 434),
 (259,cN "places" 511 89 3 256),
 (260,fO "places" 33 259 "quirehand.parting" 434),
 (266,cO "parted" 517 94 3 3 261 527),
 (267,fO "parted" 34 266 "quirehand.parting" 434),
 (273,cO "_law_number" 532 103 2 3 268 538),
 (274,fO "_law_number" 36 273 "law_quirehand_k05_whole_a_word_parted" 530),
 (280,cO "_law_sign" 541 108 1 3 275 546),
 (281,fO "_law_sign" 37 280 "law_quirehand_k05_whole_a_word_parted" 530),
 (287,cO "_law_word" 549 115 2 3 282 558),
 (288,fO "_law_word" 38 287 "law_quirehand_k05_whole_a_word_parted" 530),
 (294,cO "_law_small" 561 125 1 3 289 566),
 (295,fO "_law_small" 39 294 "law_quirehand_k05_whole_a_word_parted" 530),
 (301,cO "_law_letter_by" 569 130 3 3 296 575),
 (302,fO "_law_letter_by" 40 301 "law_quirehand_k05_whole_a_word_parted" 530),
 (306,cN "_law_joint" 578 134 2 303),
 (307,fO "_law_joint" 41 306 "law_quirehand_k05_whole_a_word_parted" 530),
 (311,cN "_law_mark" 584 147 1 308),
 (312,fO "_law_mark" 42 311 "law_quirehand_k05_whole_a_word_parted" 530),
 (318,cO "_law_book" 590 149 3 3 313 603),
 (319,fO "_law_book" 43 318 "law_quirehand_k05_whole_a_word_parted" 530),
 (325,cO "_law_rules" 606 164 2 3 320 613),
 (326,fO "_law_rules" 44 325 "law_quirehand_k05_whole_a_word_parted" 530),
 (332,cO "_law_is_letter" 616 172 2 3 327 621),
 (333,fO "_law_is_letter" 45 332 "law_quirehand_k05_whole_a_word_parted" 530),
 (337,cN "_law_join" 624 174 4 334),
 (338,fO "_law_join" 46 337 "law_quirehand_k05_whole_a_word_parted" 530),
 (344,cO "_law_pairs" 630 184 3 3 339 637),
 (345,fO "_law_pairs" 47 344 "law_quirehand_k05_whole_a_word_parted" 530),
 (349,cN "_law_good" 640 192 3 346),
 (350,fO "_law_good" 48 349 "law_quirehand_k05_whole_a_word_parted" 530),
 (356,cO "_law_class" 646 205 1 3 351 650),
 (357,fO "_law_class" 49 356 "law_quirehand_k05_whole_a_word_parted" 530),
 (363,cO "_law_refused" 653 211 3 3 358 661),
 (364,fO "_law_refused" 50 363 "law_quirehand_k05_whole_a_word_parted" 530),
 (370,cO "_law_no_word" 664 222 2 3 365 671),
 (371,fO "_law_no_word" 51 370 "law_quirehand_k05_whole_a_word_parted" 530),
 (377,cO "law" 674 228 1 3 372 683),
 (378,fO "law" 52 377 "law_quirehand_k05_whole_a_word_parted" 530)]
noncomputable abbrev pw:Program:=PySem.Challenge.pw_quirehand_k05_whole_a_word_parted
noncomputable def as0:List Addr:=[3,23,24,36,37,48,49,60,61,72,73,84,85,103,104,115,116,127,128,139,140,151,152,160,161,167,168,174,175,181,182,188,189,195,196,200,201,207,208,214,215,221,222,228,229,235,236,242,243,249,250,254,255,259,260,266,267,273,274,280,281,287,288,294,295,301,302,306,307,311,312,318,319,325,326,332,333,337,338,344,345,349,350,356,357,363,364,370,371,377,378]
theorem as_eq:∀ P,as0=(K0 P).map (·.1):=fun _=>rfl
noncomputable def q0:Program:=view PySem.Challenge.pw_quirehand_k05_whole_a_word_parted [1,2,3,4,5,6,7,8,9,10,11,13,14,16,17,18,19,20,21,23,24,25,26,27,28,29,30,31,32,33,34,36,37,38,39,40,41,42,43,44,45,46,47,48,49,50,51,52]
theorem t0:(PySem.Challenge.pw_quirehand_k05_whole_a_word_parted.main.body.length==53)=true:=by k_qdec
set_option maxHeartbeats 0 in
theorem z3f:∀ w os,HW.runAll PySem.Challenge.pw_quirehand_k05_whole_a_word_parted (view PySem.Challenge.pw_quirehand_k05_whole_a_word_parted [1,2,3,4,5,6,7,8,9,10,11,13,14,16,17,18,19,20,21,23,24,25,26,27,28,29,30,31,32,33,34,36,37,38,39,40,41,42,43,44,45,46,47,48,49,50,51,52]) [] (fun s=>xlAt (view PySem.Challenge.pw_quirehand_k05_whole_a_word_parted [1,2,3,4,5,6,7,8,9,10,11,13,14,16,17,18,19,20,21,23,24,25,26,27,28,29,30,31,32,33,34,36,37,38,39,40,41,42,43,44,45,46,47,48,49,50,51,52]) [] s&&recOk [] s) (fun s=>as0.map s.heap.get?) 3483 w os=some (⟨denote treeTable (HW.body0 PySem.Challenge.pw_quirehand_k05_whole_a_word_parted),HW.body0 PySem.Challenge.pw_quirehand_k05_whole_a_word_parted,HW.p0,[topFrame HW.p0]⟩,(.next,HW.body0 PySem.Challenge.pw_quirehand_k05_whole_a_word_parted),(.next,HW.body0 PySem.Challenge.pw_quirehand_k05_whole_a_word_parted),true,openGood (view PySem.Challenge.pw_quirehand_k05_whole_a_word_parted [1,2,3,4,5,6,7,8,9,10,11,13,14,16,17,18,19,20,21,23,24,25,26,27,28,29,30,31,32,33,34,36,37,38,39,40,41,42,43,44,45,46,47,48,49,50,51,52]) [],(K0 w.params).map fun p=>some p.2):=by
 intro w os
 unfold HW.runAll HW.body0 HW.env0
 rw [Fast.te15667345088766844465,Fast.te14364793385576792824,Fast.te14374325043358763698,Fast.te10110043849684766642,Fast.te5923862056798008813,Fast.te4187177175401517315,Fast.te14082659384304107361,Fast.te11892475500146522536,Fast.te4776181980208348668]
 kernel_rfl
theorem left0:LeftO PySem.Challenge.pw_quirehand_k05_whole_a_word_parted q0 [] (fun s=>xlAt q0 [] s&&recOk [] s) (fun s=>as0.map s.heap.get?) (fun w=>(K0 w.params).map fun p=>some p.2) 7026 :=
 HW.left_of (n1:=3483) (by kernel_rfl) rfl (fun _=>rfl) (fun _=>by kernel_rfl) rfl z3f
end K05
set_option maxRecDepth 100000
set_option maxHeartbeats 4000000
namespace K05
open PySem PySem.Spec PySem.W PyProof.Rows L2
theorem facts (w:World)(mg:Str->Option Value)(fa:Addr)(h:Heap)(X:(K0 w.params).In h)(G:h.Ns mainGlobals mg)(hfa:mg "law"=some (.ref fa)) :
  ∃ fd:FuncData,(∀ (s:Shared) (u:Value),BindsTo s fd ⟨[u],[]⟩ [("_law_script",u)])/\∀ base:Heap,(K0 w.params).In base->base.Ns mainGlobals mg->FnOk pw w (K0 w.params) mg base (cxx pw w) 9 fa fd ["_law_script"] (spM (K0 w.params) F_law 1):=by
 have e:=hfa.symm.trans (PySem.W.mg_of X G (show nsIn (K0 w.params) mainGlobals "law"=some (some (.ref 378)) from by kernel_rfl))
 cases e
 have B:Bl mg:=⟨PySem.W.mg_none_of X G (show nsIn (K0 w.params) mainGlobals "isinstance"=some none from by kernel_rfl),PySem.W.mg_none_of X G (show nsIn (K0 w.params) mainGlobals "int"=some none from by kernel_rfl),PySem.W.mg_none_of X G (show nsIn (K0 w.params) mainGlobals "bool"=some none from by kernel_rfl),PySem.W.mg_none_of X G (show nsIn (K0 w.params) mainGlobals "str"=some none from by kernel_rfl),PySem.W.mg_none_of X G (show nsIn (K0 w.params) mainGlobals "dict"=some none from by kernel_rfl),PySem.W.mg_none_of X G (show nsIn (K0 w.params) mainGlobals "list"=some none from by kernel_rfl),PySem.W.mg_none_of X G (show nsIn (K0 w.params) mainGlobals "tuple"=some none from by kernel_rfl),PySem.W.mg_none_of X G (show nsIn (K0 w.params) mainGlobals "len"=some none from by kernel_rfl),PySem.W.mg_none_of X G (show nsIn (K0 w.params) mainGlobals "sum"=some none from by kernel_rfl),PySem.W.mg_none_of X G (show nsIn (K0 w.params) mainGlobals "max"=some none from by kernel_rfl),PySem.W.mg_none_of X G (show nsIn (K0 w.params) mainGlobals "min"=some none from by kernel_rfl),PySem.W.mg_none_of X G (show nsIn (K0 w.params) mainGlobals "all"=some none from by kernel_rfl),PySem.W.mg_none_of X G (show nsIn (K0 w.params) mainGlobals "range"=some none from by kernel_rfl),PySem.W.mg_none_of X G (show nsIn (K0 w.params) mainGlobals "enumerate"=some none from by kernel_rfl),PySem.W.mg_none_of X G (show nsIn (K0 w.params) mainGlobals "zip"=some none from by kernel_rfl)⟩
 have Gv:Gl0 (K0 w.params) mg:=⟨⟨_,PySem.W.mg_of X G (show nsIn (K0 w.params) mainGlobals "SIGNS"=some (some (.str "abcdefghijklmnopqrstuvwxyzABCDEFGHIJKLMNOPQRSTUVWXYZ0123456789.,;:!?'\"()-/" 378)) from by kernel_rfl)⟩,⟨_,PySem.W.mg_of X G (show nsIn (K0 w.params) mainGlobals "SMALL"=some (some (.str "abcdefghijklmnopqrstuvwxyz" 389)) from by kernel_rfl)⟩,⟨_,PySem.W.mg_of X G (show nsIn (K0 w.params) mainGlobals "MOST_SIGNS"=some (some (.int 40 436)) from by kernel_rfl)⟩⟩
 have Cl:Cls (K0 w.params) mg:=⟨⟨73,(show PySem.W.nsIn (K0 w.params) mainGlobals "BadWord"=some (some (.ref 73)) from by kernel_rfl),(show PySem.W.excIn (K0 w.params) 73 [.type "ValueError",.type "Exception",.type "BaseException",.type "object"] "ValueError.__new__"=true from by kernel_rfl)⟩,PySem.W.mg_none_of X G (show PySem.W.nsIn (K0 w.params) mainGlobals "ValueError"=some none from by kernel_rfl),24,73,85,61,116,37,49,104,152,140,128,PySem.W.mg_of X G (show PySem.W.nsIn (K0 w.params) mainGlobals "SetError"=some (some (.ref 24)) from by kernel_rfl),⟨(show PySem.W.nsIn (K0 w.params) mainGlobals "BadWord"=some (some (.ref 73)) from by kernel_rfl),(show PySem.W.excIn (K0 w.params) 73 [.type "ValueError",.type "Exception",.type "BaseException",.type "object"] "ValueError.__new__"=true from by kernel_rfl)⟩,⟨(show PySem.W.findIn (K0 w.params) (.ref 73) "__getattribute__"=some (some (.builtin "BaseException.__getattribute__")) from by kernel_rfl),(show PySem.W.findIn (K0 w.params) (.ref 73) "__getattr__"=some none from by kernel_rfl),(show PySem.W.findIn (K0 w.params) (.ref 73) "__class__"=some (some (.builtin "object.__class__")) from by kernel_rfl),(show PySem.W.specialIn (K0 w.params) (.builtin "object.__class__") "__get__"=some (some (.builtin "getset_descriptor.__get__")) from by kernel_rfl),(show PySem.W.takesIn (K0 w.params) (.builtin "object.__class__")=some true from by kernel_rfl),(show PySem.W.mroIn (K0 w.params) 73 (.type "object")=some true from by kernel_rfl),(show PySem.W.mroIn (K0 w.params) 73 (.type "BaseException")=some true from by kernel_rfl),z1m (show PySem.W.excIn (K0 w.params) 73 [.type "ValueError",.type "Exception",.type "BaseException",.type "object"] "ValueError.__new__"=true from by kernel_rfl)⟩,PySem.W.mg_of X G (show PySem.W.nsIn (K0 w.params) mainGlobals "BadWord"=some (some (.ref 73)) from by kernel_rfl),(show PySem.W.kitOne (K0 w.params) (.ref 73) (.type "ValueError")=some true from by kernel_rfl),(show PySem.W.exmOne (K0 w.params) (.ref 73) (.ref 24)=some true from by kernel_rfl),⟨PySem.W.mg_of X G (show PySem.W.nsIn (K0 w.params) mainGlobals "BadBlocks"=some (some (.ref 85)) from by kernel_rfl),(show PySem.W.kitOne (K0 w.params) (.ref 73) (.ref 85)=some false from by kernel_rfl)⟩,⟨PySem.W.mg_of X G (show PySem.W.nsIn (K0 w.params) mainGlobals "BadBook"=some (some (.ref 61)) from by kernel_rfl),(show PySem.W.kitOne (K0 w.params) (.ref 73) (.ref 61)=some false from by kernel_rfl)⟩,⟨PySem.W.mg_of X G (show PySem.W.nsIn (K0 w.params) mainGlobals "BadBreaks"=some (some (.ref 116)) from by kernel_rfl),(show PySem.W.kitOne (K0 w.params) (.ref 73) (.ref 116)=some false from by kernel_rfl)⟩,⟨PySem.W.mg_of X G (show PySem.W.nsIn (K0 w.params) mainGlobals "BadFace"=some (some (.ref 37)) from by kernel_rfl),(show PySem.W.kitOne (K0 w.params) (.ref 73) (.ref 37)=some false from by kernel_rfl)⟩,⟨PySem.W.mg_of X G (show PySem.W.nsIn (K0 w.params) mainGlobals "BadRules"=some (some (.ref 49)) from by kernel_rfl),(show PySem.W.kitOne (K0 w.params) (.ref 73) (.ref 49)=some false from by kernel_rfl)⟩,⟨PySem.W.mg_of X G (show PySem.W.nsIn (K0 w.params) mainGlobals "BadText"=some (some (.ref 104)) from by kernel_rfl),(show PySem.W.kitOne (K0 w.params) (.ref 73) (.ref 104)=some false from by kernel_rfl)⟩,⟨PySem.W.mg_of X G (show PySem.W.nsIn (K0 w.params) mainGlobals "NoNote"=some (some (.ref 152)) from by kernel_rfl),(show PySem.W.kitOne (K0 w.params) (.ref 73) (.ref 152)=some false from by kernel_rfl)⟩,⟨PySem.W.mg_of X G (show PySem.W.nsIn (K0 w.params) mainGlobals "NoPlace"=some (some (.ref 140)) from by kernel_rfl),(show PySem.W.kitOne (K0 w.params) (.ref 73) (.ref 140)=some false from by kernel_rfl)⟩,⟨PySem.W.mg_of X G (show PySem.W.nsIn (K0 w.params) mainGlobals "TooWide"=some (some (.ref 128)) from by kernel_rfl),(show PySem.W.kitOne (K0 w.params) (.ref 73) (.ref 128)=some false from by kernel_rfl)⟩⟩
 refine ⟨fnOf "law" "law" (defArgs (top 52)) (defBody (top 52)) (defScope (top 52)) .none .none .none (.str "law_quirehand_k05_whole_a_word_parted" 530) none (.ref 377) .none,fun s v=>.of_eq rfl,fun base _ _=>?_⟩
 have D_is_sign:=HW.dfn (n:="is_sign") (st:=top 14) (ps:=["thing"]) (a:=161) (c:=160) (m:="quirehand.faces") (t:=376) X G (fun _ _ _ _ _ _=>bd1 fun _=>rfl) (by kernel_rfl)
 have O_is_sign:=XC (P:=pw) (w:=w) (base:=base) D_is_sign B Gv Cl 
 have D_mark_at:=HW.dfn (n:="mark_at") (st:=top 17) (ps:=["joint"]) (a:=168) (c:=167) (m:="quirehand.joints") (t:=387) X G (fun _ _ _ _ _ _=>bd1 fun _=>rfl) (by kernel_rfl)
 have O_mark_at:=YS (P:=pw) (w:=w) (base:=base) D_mark_at B Gv Cl 
 have D_letters_of:=HW.dfn (n:="letters_of") (st:=top 18) (ps:=["joint"]) (a:=175) (c:=174) (m:="quirehand.joints") (t:=387) X G (fun _ _ _ _ _ _=>bd1 fun _=>rfl) (by kernel_rfl)
 have O_letters_of:=kl (P:=pw) (w:=w) (base:=base) D_letters_of B Gv Cl 
 have D_fits:=HW.dfn (n:="fits") (st:=top 19) (ps:=["joint","word","place"]) (a:=182) (c:=181) (m:="quirehand.joints") (t:=387) X G (fun _ _ _ _ _ _=>bd3 fun _ _ _=>rfl) (by kernel_rfl)
 have O_fits:=QL (P:=pw) (w:=w) (base:=base) D_fits B Gv Cl O_letters_of O_mark_at
 have D_rank:=HW.dfn (n:="rank") (st:=top 20) (ps:=["joint"]) (a:=189) (c:=188) (m:="quirehand.joints") (t:=387) X G (fun _ _ _ _ _ _=>bd1 fun _=>rfl) (by kernel_rfl)
 have O_rank:=QF (P:=pw) (w:=w) (base:=base) D_rank B Gv Cl O_mark_at
 have D_telling:=HW.dfn (n:="telling") (st:=top 21) (ps:=["book","word","place"]) (a:=196) (c:=195) (m:="quirehand.joints") (t:=387) X G (fun _ _ _ _ _ _=>bd3 fun _ _ _=>rfl) (by kernel_rfl)
 have O_telling:=XN (P:=pw) (w:=w) (base:=base) D_telling B Gv Cl O_fits O_rank
 have D_is_word:=HW.dfn (n:="is_word") (st:=top 24) (ps:=["thing"]) (a:=201) (c:=200) (m:="quirehand.parting") (t:=434) X G (fun _ _ _ _ _ _=>bd1 fun _=>rfl) (by kernel_rfl)
 have O_is_word:=X0 (P:=pw) (w:=w) (base:=base) D_is_word B Gv Cl O_is_sign
 have D_need_word:=HW.dfn (n:="need_word") (st:=top 25) (ps:=["thing"]) (a:=208) (c:=207) (m:="quirehand.parting") (t:=434) X G (fun _ _ _ _ _ _=>bd1 fun _=>rfl) (by kernel_rfl)
 have O_need_word:=ZD (P:=pw) (w:=w) (base:=base) D_need_word B Gv Cl O_is_word
 have D_is_letter:=HW.dfn (n:="is_letter") (st:=top 26) (ps:=["sign"]) (a:=215) (c:=214) (m:="quirehand.parting") (t:=434) X G (fun _ _ _ _ _ _=>bd1 fun _=>rfl) (by kernel_rfl)
 have O_is_letter:=Zs (P:=pw) (w:=w) (base:=base) D_is_letter B Gv Cl 
 have D_letters_ahead:=HW.dfn (n:="letters_ahead") (st:=top 27) (ps:=["word","place"]) (a:=222) (c:=221) (m:="quirehand.parting") (t:=434) X G (fun _ _ _ _ _ _=>bd2 fun _ _=>rfl) (by kernel_rfl)
 have O_letters_ahead:=qp (P:=pw) (w:=w) (base:=base) D_letters_ahead B Gv Cl O_is_letter
 have D_letters_behind:=HW.dfn (n:="letters_behind") (st:=top 28) (ps:=["word","place"]) (a:=229) (c:=228) (m:="quirehand.parting") (t:=434) X G (fun _ _ _ _ _ _=>bd2 fun _ _=>rfl) (by kernel_rfl)
 have O_letters_behind:=uQ (P:=pw) (w:=w) (base:=base) D_letters_behind B Gv Cl O_is_letter
 have D_may_part:=HW.dfn (n:="may_part") (st:=top 29) (ps:=["book","rules","word","place"]) (a:=236) (c:=235) (m:="quirehand.parting") (t:=434) X G (fun _ _ _ _ _ _=>bd4 fun _ _ _ _=>rfl) (by kernel_rfl)
 have O_may_part:=Yg (P:=pw) (w:=w) (base:=base) D_may_part B Gv Cl O_telling O_letters_ahead O_letters_behind
 have D_is_soft:=HW.dfn (n:="is_soft") (st:=top 30) (ps:=["word","place"]) (a:=243) (c:=242) (m:="quirehand.parting") (t:=434) X G (fun _ _ _ _ _ _=>bd2 fun _ _=>rfl) (by kernel_rfl)
 have O_is_soft:=Xf (P:=pw) (w:=w) (base:=base) D_is_soft B Gv Cl O_is_letter
 have D_join_at:=HW.dfn (n:="join_at") (st:=top 31) (ps:=["book","rules","word","place"]) (a:=250) (c:=249) (m:="quirehand.parting") (t:=434) X G (fun _ _ _ _ _ _=>bd4 fun _ _ _ _=>rfl) (by kernel_rfl)
 have O_join_at:=XQ (P:=pw) (w:=w) (base:=base) D_join_at B Gv Cl O_may_part O_is_soft
 have D_joints_within:=HW.dfn (n:="joints_within") (st:=top 32) (ps:=["book","word"]) (a:=255) (c:=254) (m:="quirehand.parting") (t:=434) X G (fun _ _ _ _ _ _=>bd2 fun _ _=>rfl) (by kernel_rfl)
 have O_joints_within:=qv (P:=pw) (w:=w) (base:=base) D_joints_within B Gv Cl O_letters_of
 have D_places:=HW.dfn (n:="places") (st:=top 33) (ps:=["book","rules","word"]) (a:=260) (c:=259) (m:="quirehand.parting") (t:=434) X G (fun _ _ _ _ _ _=>bd3 fun _ _ _=>rfl) (by kernel_rfl)
 have O_places:=WY (P:=pw) (w:=w) (base:=base) D_places B Gv Cl O_need_word O_joints_within O_join_at
 have D_parted:=HW.dfn (n:="parted") (st:=top 34) (ps:=["book","rules","word"]) (a:=267) (c:=266) (m:="quirehand.parting") (t:=434) X G (fun _ _ _ _ _ _=>bd3 fun _ _ _=>rfl) (by kernel_rfl)
 have O_parted:=WC (P:=pw) (w:=w) (base:=base) D_parted B Gv Cl O_places
 have D__law_number:=HW.dfn (n:="_law_number") (st:=top 36) (ps:=["_law_script","_law_k"]) (a:=274) (c:=273) (m:="law_quirehand_k05_whole_a_word_parted") (t:=530) X G (fun _ _ _ _ _ _=>bd2 fun _ _=>rfl) (by kernel_rfl)
 have O__law_number:=jM (P:=pw) (w:=w) (base:=base) D__law_number B Gv Cl 
 have D__law_sign:=HW.dfn (n:="_law_sign") (st:=top 37) (ps:=["_law_number_here"]) (a:=281) (c:=280) (m:="law_quirehand_k05_whole_a_word_parted") (t:=530) X G (fun _ _ _ _ _ _=>bd1 fun _=>rfl) (by kernel_rfl)
 have O__law_sign:=Zq (P:=pw) (w:=w) (base:=base) D__law_sign B Gv Cl 
 have D__law_word:=HW.dfn (n:="_law_word") (st:=top 38) (ps:=["_law_script","_law_k"]) (a:=288) (c:=287) (m:="law_quirehand_k05_whole_a_word_parted") (t:=530) X G (fun _ _ _ _ _ _=>bd2 fun _ _=>rfl) (by kernel_rfl)
 have O__law_word:=Zx (P:=pw) (w:=w) (base:=base) D__law_word B Gv Cl O__law_number O__law_sign
 have D__law_small:=HW.dfn (n:="_law_small") (st:=top 39) (ps:=["_law_sign_here"]) (a:=295) (c:=294) (m:="law_quirehand_k05_whole_a_word_parted") (t:=530) X G (fun _ _ _ _ _ _=>bd1 fun _=>rfl) (by kernel_rfl)
 have O__law_small:=jX (P:=pw) (w:=w) (base:=base) D__law_small B Gv Cl 
 have D__law_letter_by:=HW.dfn (n:="_law_letter_by") (st:=top 40) (ps:=["_law_number_here","_law_word_here","_law_spot"]) (a:=302) (c:=301) (m:="law_quirehand_k05_whole_a_word_parted") (t:=530) X G (fun _ _ _ _ _ _=>bd3 fun _ _ _=>rfl) (by kernel_rfl)
 have O__law_letter_by:=uM (P:=pw) (w:=w) (base:=base) D__law_letter_by B Gv Cl O__law_small
 have D__law_joint:=HW.dfn (n:="_law_joint") (st:=top 41) (ps:=["_law_number_here","_law_word_here"]) (a:=307) (c:=306) (m:="law_quirehand_k05_whole_a_word_parted") (t:=530) X G (fun _ _ _ _ _ _=>bd2 fun _ _=>rfl) (by kernel_rfl)
 have O__law_joint:=ka (P:=pw) (w:=w) (base:=base) D__law_joint B Gv Cl O__law_letter_by
 have D__law_mark:=HW.dfn (n:="_law_mark") (st:=top 42) (ps:=["_law_joint_here"]) (a:=312) (c:=311) (m:="law_quirehand_k05_whole_a_word_parted") (t:=530) X G (fun _ _ _ _ _ _=>bd1 fun _=>rfl) (by kernel_rfl)
 have O__law_mark:=Z8 (P:=pw) (w:=w) (base:=base) D__law_mark B Gv Cl 
 have D__law_book:=HW.dfn (n:="_law_book") (st:=top 43) (ps:=["_law_script","_law_k","_law_word_here"]) (a:=319) (c:=318) (m:="law_quirehand_k05_whole_a_word_parted") (t:=530) X G (fun _ _ _ _ _ _=>bd3 fun _ _ _=>rfl) (by kernel_rfl)
 have O__law_book:=Zg (P:=pw) (w:=w) (base:=base) D__law_book B Gv Cl O__law_number O__law_joint O__law_mark
 have D__law_rules:=HW.dfn (n:="_law_rules") (st:=top 44) (ps:=["_law_script","_law_k"]) (a:=326) (c:=325) (m:="law_quirehand_k05_whole_a_word_parted") (t:=530) X G (fun _ _ _ _ _ _=>bd2 fun _ _=>rfl) (by kernel_rfl)
 have O__law_rules:=kf (P:=pw) (w:=w) (base:=base) D__law_rules B Gv Cl O__law_number
 have D__law_is_letter:=HW.dfn (n:="_law_is_letter") (st:=top 45) (ps:=["_law_word_here","_law_spot"]) (a:=333) (c:=332) (m:="law_quirehand_k05_whole_a_word_parted") (t:=530) X G (fun _ _ _ _ _ _=>bd2 fun _ _=>rfl) (by kernel_rfl)
 have O__law_is_letter:=uw (P:=pw) (w:=w) (base:=base) D__law_is_letter B Gv Cl O__law_small
 have D__law_join:=HW.dfn (n:="_law_join") (st:=top 46) (ps:=["_law_book_here","_law_rules_here","_law_word_here","_law_place"]) (a:=338) (c:=337) (m:="law_quirehand_k05_whole_a_word_parted") (t:=530) X G (fun _ _ _ _ _ _=>bd4 fun _ _ _ _=>rfl) (by kernel_rfl)
 have O__law_join:=Zy (P:=pw) (w:=w) (base:=base) D__law_join B Gv Cl O_telling O__law_is_letter
 have D__law_pairs:=HW.dfn (n:="_law_pairs") (st:=top 47) (ps:=["_law_found","_law_due","_law_size"]) (a:=345) (c:=344) (m:="law_quirehand_k05_whole_a_word_parted") (t:=530) X G (fun _ _ _ _ _ _=>bd3 fun _ _ _=>rfl) (by kernel_rfl)
 have O__law_pairs:=kb (P:=pw) (w:=w) (base:=base) D__law_pairs B Gv Cl 
 have D__law_good:=HW.dfn (n:="_law_good") (st:=top 48) (ps:=["_law_book_here","_law_rules_here","_law_word_here"]) (a:=350) (c:=349) (m:="law_quirehand_k05_whole_a_word_parted") (t:=530) X G (fun _ _ _ _ _ _=>bd3 fun _ _ _=>rfl) (by kernel_rfl)
 have O__law_good:=ZG (P:=pw) (w:=w) (base:=base) D__law_good B Gv Cl O__law_join O__law_pairs O_places O_parted
 have D__law_class:=HW.dfn (n:="_law_class") (st:=top 49) (ps:=["_law_error"]) (a:=357) (c:=356) (m:="law_quirehand_k05_whole_a_word_parted") (t:=530) X G (fun _ _ _ _ _ _=>bd1 fun _=>rfl) (by kernel_rfl)
 have D__law_refused:=HW.dfn (n:="_law_refused") (st:=top 50) (ps:=["_law_book_here","_law_rules_here","_law_thing"]) (a:=364) (c:=363) (m:="law_quirehand_k05_whole_a_word_parted") (t:=530) X G (fun _ _ _ _ _ _=>bd3 fun _ _ _=>rfl) (by kernel_rfl)
 have O__law_refused:=qT (P:=pw) (w:=w) (base:=base) D__law_refused B Gv Cl O_places O_parted O_is_word D__law_class
 have D__law_no_word:=HW.dfn (n:="_law_no_word") (st:=top 51) (ps:=["_law_word_here","_law_number_here"]) (a:=371) (c:=370) (m:="law_quirehand_k05_whole_a_word_parted") (t:=530) X G (fun _ _ _ _ _ _=>bd2 fun _ _=>rfl) (by kernel_rfl)
 have O__law_no_word:=qY (P:=pw) (w:=w) (base:=base) D__law_no_word B Gv Cl 
 exact z0Y (show (K0 w.params).lookup 378=some (fO "law" 52 377 "law_quirehand_k05_whole_a_word_parted" 530) from by kernel_rfl) (show codeIn (K0 w.params) (.ref 377) "law"=true from by kernel_rfl) sc_law (by decide) (VS B Gv Cl O__law_word O__law_book O__law_rules O__law_refused O__law_good O__law_no_word O_is_word O__law_number)
end K05
open PySem PySem.W PyProof.Rows L2
set_option maxRecDepth 100000 in
set_option maxHeartbeats 0 in
theorem PySem.Challenge.cw_quirehand_k05_whole_a_word_parted_holds : PySem.Challenge.rw_quirehand_k05_whole_a_word_parted.Holds := by
 w_on; o_law
 refine PySem.W.holds_open (q:=K05.q0) (loose:=[]) (Xt:=fun s=>xlAt K05.q0 [] s&&recOk [] s) (XP:=XL K05.q0 []) (Yf:=fun s=>K05.as0.map s.heap.get?) (Ya:=fun w=>(K05.K0 w.params).map fun (p:Addr×Obj)=>some p.2) (YP:=InK K05.K0) (N:=7026) K05.left0 (InK.of K05.as_eq) InK.keeps (fun s e=>xl_of s (Bool.and_eq_true_iff.mp e).1) XL.keeps (by rfl) (by rfl) (by rfl) (fun s e=>recFacts_of (Bool.and_eq_true_iff.mp e).2) (by rfl) (by first | assumption | decide +kernel) (by decide +kernel) ⟨rfl,rfl,rfl,rfl,rfl,by decide +kernel⟩ ?hw ?hc
 case hw=>w_witness2
 case hc=>exact L2.law_walk (l:=PySem.Challenge.rw_quirehand_k05_whole_a_word_parted) (Fm:=K05.F_law) (k:=9) (x:="_law_script") K05.law_true ⟨rfl,by decide,by decide⟩ rfl rfl (fun w h Y=>Y) K05.facts
#print axioms PySem.Challenge.cw_quirehand_k05_whole_a_word_parted_holds
