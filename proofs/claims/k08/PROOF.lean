import PyProof.Rows.All
import Wide.All
import OpenK.AllK
import Wide.FinOn
import Lean
import PyProof.EqAt
import PyProof.EqKinds
import PyProof.TupleCall
import PyProof.ZipIter
import KE.KDictSum
import PyProof.Rows.SortStr
import PyProof.Rows.TupAdd
import PyProof.TupleOfGen
import PySem.Challenge.RW_quirehand_k08_whole_texts_read_or_refuse
set_option Elab.async false
set_option linter.all false
set_option maxRecDepth 100000
set_option maxHeartbeats 4000000
set_option bootstrap.genMatcherCode false
set_option genSizeOfSpec false
set_option compiler.extract_closed false
noncomputable section
open PySem.Heap renaming get?_push_of_some->jYb,lt_size->jYc,get?_push_size->jYd
open Option.some renaming inj->jYe
open PySem renaming wpAny_Call_Name_kw->jYf,foldedSetIterable->jYg,wpAny_newObj_type->jYh,wpAny_truthy_bool->jYi,wpAny_call_entry->jYj,wpAny_execs_cons->jYk,wpAny_execs_nil->jKa,wpAny_loadPart'->jKb,wpAny_passesOwn->jKc,attributeBase->jKd,wpAny_holding->jKe,wpAny_standAt->jKf,bootBuiltins->jKg,keywordEach->jKh,mainGlobals->jKi,sizeLine_eq->jKj,wpAny_field->jKk,assignEach->jMa,wpAny_bind->jMb,wpAny_mono->jMc,wpAny_pure->jMd,compareOp->jMe,swapsWith->jMf,PassesOwn->jMg,backToKw->jMh,sizeLine->jMi,starEach->jMj,Keyword->jMk,Program->jNa,Around->jNb,Shared->jNc,backTo->jNd,wpAny->jNe
open PySem.W renaming Frag->jJa,kitOne->jJb,kia_one->jJc,fnOf->jJd,findIn->jJe,keepIn->jJf,codeIn->jJg,nsIn->jJh,callWith_K->jJi,kitAny->jJj,hideAll->jJk,instObj->jJm,methodObj->jJn,lookIn->jJo,specialIn->jJp,mroIn->jJq,kitx_list->jJr,kitx_dict->jJs,cellsFrom_some->jJt,exmOne->jJu,Looks->jJv,hideAll_get->jJw,of_hideAll->jJx,hideAll_none->jJy,kitx_tuple->jJ1,codeRec_of->jJ2
open PySem.F renaming plainAttrs_str->jQ1,slot_str_join->jQ2,type_str_join->jQ3,slot_str_split->jQ4,type_str_split->jQ5,plainAttrs_list->jQ6,slot_list_append->jQ7,type_list_append->jQ8,slot_str_strip->jQ9,type_str_strip->jXa,slot_str_find->jXb,type_str_find->jXc,slot_tuple_add->jXd,entry_tuple_add->jXe,args_tuple_add_2->jXf,excBase_ValueError->jXg,slot_str_startswith->jXh,type_str_startswith->jXi,slot_str_count->jXj,type_str_count->jXk
open List renaming length_append -> tD, length_cons -> tE, mem_cons_self -> tG, mem_cons_of_mem -> tH, append_nil -> tI, length_map -> tJ, map_cons -> tK, mem_append_right -> tL, getElem?_eq_some_iff -> tN, append_assoc -> tQ, length_nil -> tR, mem_cons -> tS, getElem?_cons_zero -> tU, mem_append_left -> tW, mem_append -> tX, size_toArray -> tY, nil_append -> tZ, getElem?_set_self -> sA, getElem?_cons_succ -> sC, all_eq_true -> sD, getElem?_set_ne -> sE, mem_singleton -> sG, map_map -> sI, cons_append -> sJ, getElem?_map -> sL, nodup_append -> sN, getElem?_eq_getElem -> sO, nodup_cons -> sP, length_set -> sQ, replicate_zero -> sS, takeWhile_append_dropWhile -> sT, lookup_cons -> sU, drop_eq_getElem_cons -> sW, replicate_succ -> sX, length_take -> sZ, dropLast_concat_getLast -> rD, length_drop -> rE, filterMap_cons -> rF, sum_cons -> rG, length_replicate -> rJ, map_nil -> rK, take_of_length_le -> rL, mem_map -> rM, map_append -> rO, all_cons -> rP, getElem?_append_right -> rR, mem_of_getElem? -> rX, filter_cons -> rY, mem_map_of_mem -> rZ, getElem?_append_left -> pA, head?_dropWhile_not -> pC, length_eq_zero_iff -> pD, all_map -> pE, flatten_cons -> pF, length_pos_iff -> pG, dropWhile_cons_of_pos -> pH, filter_append -> pJ, take_append_drop -> pK, sublist_append_right -> pL, eq_of_mem_replicate -> pM, getElem?_replicate -> pO, getElem_mem -> pP, set_cons_zero -> pR, getElem?_drop -> pS, length_singleton -> pU, find?_cons -> pV, dropWhile_cons_of_neg -> pX, nodup_nil -> pZ, not_mem_nil -> hV, drop_length -> hZ, getLast_mem -> gA, drop_zero -> gC, drop_left -> gD, nil_sublist -> gF
open Bool renaming and_eq_true_iff -> tM, false_ne_true -> tO, and_eq_true -> sR, false_eq_true -> sY, true_and -> rQ, false_and -> rS, not_true -> rW, not_false -> pQ
open Nat renaming le_refl -> tP, lt_of_lt_of_le -> sF, ne_of_lt -> sV, zero_add -> rA, zero_le -> rC, le_trans -> rH, lt_succ_self -> rN, lt_irrefl -> pI, mul_le_mul_right -> pY, le_of_lt -> gB, succ_mul -> gE
open Option renaming map_eq_some_iff -> tV, bind_eq_some_iff -> sM, map_some -> gG
open Int renaming toNat_natCast -> rV
theorem jNg {c:Prop}{h:Decidable c}(x:c){α:Sort u}{a b:α}:ite c a b=a:=if_pos x
theorem jNh {c:Prop}{h:Decidable c}(x:¬c){α:Sort u}{a b:α}:ite c a b=b:=if_neg x
namespace L2
open PySem PySem.Spec PyProof.Rows
def au0 (h:True:=by first|exact .inl rfl|exact .inr rfl|assumption):True:=trivial
def au1 (h:True:=by decide):True:=trivial
def au2 (h:True:=by intro _;rfl):True:=trivial
def au3 (h:True:=by rfl):True:=trivial
def au4 (h:True:=by with_unfolding_all rfl):True:=trivial
def au5 (h:True:=by first|exact Or.inl rfl|exact Or.inr (Or.inl rfl)|exact Or.inr (Or.inr rfl)):True:=trivial
def au6 (h:True:=by exact fun _ _=>rfl):True:=trivial
def au7 (h:True:=by first|exact Or.inl rfl|exact Or.inr rfl):True:=trivial
def au8 (h:True:=by exact rfl):True:=trivial
def au9 (h:True:=by nofun):True:=trivial
def au10 (h:True:=by omega):True:=trivial
def au11 (h:True:=by constructor<;>first|rfl|decide +kernel):True:=trivial
def au12 (h:True:=by first|exact xk|exact vc):True:=trivial
def au13 (h:True:=by decide +kernel):True:=trivial
def au14 (h:True:=by exact zw _):True:=trivial
def au15 (h:True:=by simp only[tE,tR];omega):True:=trivial
def au16 (h:True:=by intro _ _ _ _ _ _ us hl;rcases us with _|⟨_,_|⟨_,_|⟨_,_|⟨_,_|⟨_,_|⟨_,_|⟨_,us⟩⟩⟩⟩⟩⟩⟩<;>first|rfl|cases hl):True:=trivial
def au17 (h:True:=by kernel_rfl):True:=trivial
def defArgs (s:Stmt):Arguments:=match s with
 | .FunctionDef _ a _ _ _ _ _ _ _ _=>a
 | _=>{ posonlyargs:=[],args:=[],vararg:=none,kwonlyargs:=[],kw_defaults:=[],kwarg:=none,defaults:=[] }
def defBody (s:Stmt):List Stmt:=match s with
 | .FunctionDef _ _ b _ _ _ _ _ _ _=>b
 | _=>[]
def defScope (s:Stmt):Scope:=match s with
 | .FunctionDef _ _ _ _ _ _ sc _ _ _=>sc
 | _=>{ kind:=.function,names:=[],isGenerator:=false,isCoroutine:=false }
end L2
namespace HW
open PySem PySem.W
def qR {α:Type}:List α->List α
 | a::_::r=>a::qR r
 | l=>l
def YT {α:Type}:List α->List α
 | _::b::r=>b::YT r
 | _=>[]
theorem Xb {α:Type}:∀(l:List α) (k:Nat),(qR l)[k]?=l[2*k]?
 | [],k=>by simp[qR]
 | [a],k=>by cases k<;>simp[qR]
 | a::b::r,0=>by simp[qR]
 | a::b::r,k+1=>by
  have ih:=Xb r k;show (a::qR r)[k+1]?=_;rw[sC,ih,show 2*(k+1)=2*k+1+1 by omega,sC,sC]
theorem Vw {α:Type}:∀(l:List α) (k:Nat),(YT l)[k]?=l[2*k+1]?
 | [],k=>by simp[YT]
 | [a],k=>by simp[YT]
 | a::b::r,0=>by simp[YT]
 | a::b::r,k+1=>by
  have ih:=Vw r k;show (b::YT r)[k+1]?=_;rw[sC,ih,show 2*(k+1)+1=2*k+1+1+1 by omega,sC,sC]
theorem XJ {α:Type}:∀l:List α,(qR l).length<=l.length
 | []=>tP _
 | [_]=>tP _
 | a::b::r=>by show (qR r).length+1<=r.length+1+1;have:=XJ r;omega
theorem VL {α:Type}:∀l:List α,(YT l).length<=l.length
 | []=>tP _
 | [_]=>rC _
 | a::b::r=>by show (YT r).length+1<=r.length+1+1;have:=VL r;omega
def tr:Nat->List Obj->BT
 | n+1,o::l=>.node o (tr n (qR l)) (tr n (YT l))
 | _,_=>.nil
theorem UB:∀(n:Nat) (l:List Obj),l.length<=n->∀i,(tr n l).get i=l[i]?
 | 0,[],_,i=>by simp[tr,BT.get]
 | 0,_::_,h,_=>by cases h
 | n+1,[],_,i=>by simp[tr,BT.get]
 | n+1,o::l,h,i=>by
  have hl:l.length<=n:=by simpa using h
  show (BT.node o (tr n (qR l)) (tr n (YT l))).get i=_;rw[BT.get_node]
  by_cases h0:i=0
  ·subst h0;rfl
  ·rw[jNh h0]
   by_cases h1:i%2=1
   ·rw[jNg h1,UB n _ (rH (XJ l) hl),Xb];obtain⟨k,rfl⟩:∃k,i=2*k+1:=⟨i/2,by omega⟩
    rw[show (2*k+1)/2=k by omega,sC]
   ·rw[jNh h1,UB n _ (rH (VL l) hl),Vw];obtain⟨k,rfl⟩:∃k,i=2*k+1+1:=⟨i/2-1,by omega⟩
    rw[show (2*k+1+1)/2-1=k by omega,sC]
def z31 (l:List Obj):(tr l.length l).list l.length=l:=by
 unfold BT.list;refine List.ext_getElem? fun i=>?_;rw[sL]
 by_cases h:i<l.length
 ·rw[List.getElem?_range h,gG,UB _ _ (tP _),sO h];rfl
 ·rw[List.getElem?_eq_none (by rw[List.length_range];omega),List.getElem?_eq_none (by omega)];rfl
def asT (s:jNc):SharedT:=⟨tr s.heap.objs.toList.length s.heap.objs.toList,s.heap.objs.toList.length,s.heap.life,s.gens,s.drawn,s.toks,s.os⟩
def z2J (s:jNc):(asT s).abs=s:=by
 obtain⟨⟨⟨l⟩,life⟩,gens,drawn,toks,os⟩:=s;show (⟨⟨((tr l.length l).list l.length).toArray,life⟩,gens,drawn,toks,os⟩:jNc)=_;rw[z31]
def env0 (p:jNa):Env:={ scope:=p.main.scope,locals:=mainNs,globals:=mainNs,cells:=[],code:=.ref 13,frame:=some 14 }
def p0:Pos:=⟨0,0,0,0⟩
def YM (p:jNa):Code:=.body (behindTheImports p) (env0 p)
def runAll (p q:jNa)(loose:List Str)(Xt:jNc->Bool){α:Type}(Yf:jNc->α)(n1:Nat)(w:World)(os:OsState):=
 (Fast.tw15667345088766844465 Fast.tw14364793385576792824 p w 11 (some (.ref 6)) 12 ⟨boot_heap w.params,Array.mk [],boot_drawn,boot_toks,os⟩ (topStub p)).bind fun a =>
 (Fast.tw14374325043358763698 Fast.tw14364793385576792824 p w 11 (some (.ref 6)) 1 1 a.1 (blockOf (behindTheImports p) (env0 p) (YM p) p0 [topFrame p0])).bind fun b =>
 (Fast.tw10110043849684766642 Fast.tw14364793385576792824 p w 11 (some (.ref 6)) 1 n1 (asT b.2.1) (piecesOf (behindTheImports p) (env0 p) (YM p) b.2.2.2 [topFrame p0])).bind fun c =>
 (Fast.tw14082659384304107361 Fast.tw14364793385576792824 p w 11 (some (.ref 6)) 2 c.2.1.abs ⟨doneF .next,YM p,c.2.2.2,[topFrame p0]⟩).map fun s =>
  (a.2,(b.1,b.2.2.1),(c.1,c.2.2.1),(staticsOk (Fast.tw5923862056798008813 p.main.body) (boot_heap w.params) s.heap&&namesBound p s.heap&&gensDone s&&laidKept (boot_heap w.params) s.heap),Fast.tw4187177175401517315 q loose (Fast.tw5923862056798008813 p.main.body) Xt true s,Yf s)
section
variable (p q:jNa)(loose:List Str)(Xt:jNc->Bool){α:Type}(Yf:jNc->α)(Ya:World->α)(n1:Nat)
def Pa:Prop:=∀w os,(runAll p q loose Xt Yf n1 w os).map (fun r=>(r.1,r.2.1,r.2.2.1,r.2.2.2.1,r.2.2.2.2.2))=some (⟨Fast.tw11892475500146522536 Fast.tw14364793385576792824 (YM p),YM p,p0,[topFrame p0]⟩,(.next,YM p),(.next,YM p),true,Ya w)
def Pb:Prop:=∀w os,(runAll p q loose Xt Yf n1 w os).map (fun r=>(r.2.2.2.2.1.1,r.2.2.2.2.1.2.1))=some (PyProof.Rows.expectedOf q,bltViewBooted)
def Pc:Prop:=∀w os,(runAll p q loose Xt Yf n1 w os).map (fun r=>r.2.2.2.2.1.2.2.1)=some true
def Pd:Prop:=∀w os,(runAll p q loose Xt Yf n1 w os).map (fun r=>(r.2.2.2.2.1.2.2.2.1,r.2.2.2.2.1.2.2.2.2.1))=some (true,pinGoodD (PyProof.Rows.drecsOf q))
def Pe:Prop:=∀w os,(runAll p q loose Xt Yf n1 w os).map (fun r=>r.2.2.2.2.1.2.2.2.2.2.1)=some (PyProof.Rows.plainGoodE q (looseW q loose))
def Pf:Prop:=∀w os,(runAll p q loose Xt Yf n1 w os).map (fun r=>r.2.2.2.2.1.2.2.2.2.2.2)=some (PyProof.Rows.plainGoodD q loose,wideGood q,clsGoodW q loose)
end
def left_of {Xt:jNc->Bool}{n1 N:Nat}
  (e:opening p=plainProg p.main.scope.names) (hN:Nat.ble 600 N=true) (f:∀s,fenceModules? p s=some s)
  (size:∀w:World,((boot_heap w.params).isNs jKi&&(Array.mk []:Array GenState).size==0,(boot_heap w.params).objs.size,(boot_heap w.params).nsMap jKi "__annotations__")=(true,11,some (.ref 6)))
  (le:Nat.ble (12+(1+(n1+2))) N=true)
  (ha:Pa p q loose Xt Yf Ya n1) (hb:Pb p q loose Xt Yf n1) (hc:Pc p q loose Xt Yf n1) (hd:Pd p q loose Xt Yf n1) (he:Pe p q loose Xt Yf n1) (hf:Pf p q loose Xt Yf n1):LeftO p q loose Xt Yf Ya N:=fun w=>by
 obtain⟨⟨hp,gn,dr,tk,os⟩,op,same⟩:=tV.mp (boot_open e hN f w);simp only[Prod.mk.injEq]at same;obtain⟨rfl,rfl,rfl,rfl⟩:=same;have sz:=size w;simp only[Prod.mk.injEq]at sz;obtain⟨⟨r1,r2,r3,r4,⟨s1,s2,s3,s4,s5,s6,s7⟩,r6⟩,hr,e1⟩:=tV.mp (ha w os);have e2:=hb w os;have e3:=hc w os;have e4:=hd w os;have e5:=he w os;have e6:=hf w os;rw[hr]at e2 e3 e4 e5 e6;simp only[gG,Option.some.injEq,Prod.mk.injEq]at e1 e2 e3 e4 e5 e6;obtain⟨rfl,rfl,rfl,rfl,rfl⟩:=e1;obtain⟨rfl,rfl⟩:=e2;obtain rfl:=e3;obtain⟨rfl,rfl⟩:=e4;obtain rfl:=e5;subst e6;unfold runAll at hr;rw[<-Fast.te15667345088766844465,<-Fast.te14364793385576792824,<-Fast.te14374325043358763698,<-Fast.te10110043849684766642,<-Fast.te5923862056798008813,<-Fast.te4187177175401517315,<-Fast.te14082659384304107361,<-Fast.te11892475500146522536]at hr;obtain⟨⟨sa,ta⟩,ha,hr⟩:=sM.mp hr;obtain⟨⟨fb,sb,cb,pb⟩,hb,hr⟩:=sM.mp hr;obtain⟨⟨fc,sc,cc,pc⟩,hc,hr⟩:=sM.mp hr;obtain⟨s1,hd,hr⟩:=tV.mp hr;simp only[Prod.mk.injEq]at hr;obtain⟨rfl,⟨rfl,rfl⟩,⟨rfl,rfl⟩,good,seen,told⟩:=hr;dsimp only at hb hc hd;have hc2:=segRun_of hc;rw[z2J]at hc2;have whole:=piece_app (rest:=[]) hc2 (piece_nil hd);rw[tI]at whole;have run:=topRun_mono (N-(12+(1+(n1+2)))) _ _ _ _ (go_top ha (piece_block hb whole));have eN:12+(1+(n1+2))+(N-(12+(1+(n1+2))))=N:=by have z:=Nat.le_of_ble_eq_true le;omega
 rw[eN]at run;have ends:topFrom treeTable p w N ⟨boot_heap w.params,Array.mk [],boot_drawn,boot_toks,os⟩=some s1:=by
  show (match (boot_heap w.params).isNs jKi&&(Array.mk []:Array GenState).size==0 with|true=>_|false=>_)=_;rw[sz.1,sz.2.1,sz.2.2];show Option.bind (topRun treeTable p w 11 (some (.ref 6)) N _ _) _=_;rw[run];show (match (_:Bool)with|true=>some s1|false=>none)=_;rw[good]
 have both:openEnds treeTable p w N=some s1:=by unfold openEnds;rw[op];exact ends
 rw[both,gG,seen,told];rfl
end HW
namespace K08
open PySem PySem.Spec PyProof.Rows
def top (i:Nat):Stmt:=PySem.Challenge.pw_quirehand_k08_whole_texts_read_or_refuse.main.body.getD i (.Pass ⟨0,0,0,0⟩)
def mth (i j:Nat):Stmt:=match top i with
 | .ClassDef _ _ _ b _ _ _ _ _ _ _=>b.getD j (.Pass ⟨0,0,0,0⟩)
 | s=>s
open PySem PySem.W PyProof.Rows
def eQ (P:Params)(k:Str)(t:Nat)(v:Value):DictEntry:={ hash:=PyData.keyHash P k,key:=.str k t,val:=v }
def dO (v:Array DictEntry)(n:Nat):Obj:={ cls:=.type "dict",data:=.dict v n }
def cO (n:Str)(t l a f r k:Nat):Obj:={ cls:=.type "code",data:=.fields #[.str n t,.str n (t+1),.str "/claim/cut.py" (t+2),.int l 0,.int a 0,.int 0 0,.int 0 0,.int f 0,.ref r,.bool true,.int 181 0,.ref (r+1),.none,.ref (r+2),.ref (r+3),.ref (r+4),.int k 0,.int l 0,.str "/claim/cut.py" (k+1)] }
def cN (n:Str)(t l a r:Nat):Obj:={ cls:=.type "code",data:=.fields #[.str n t,.str n (t+1),.str "/claim/cut.py" (t+2),.int l 0,.int a 0,.int 0 0,.int 0 0,.int 3 0,.ref r,.bool true,.int 181 0,.ref (r+1),.none,.none,.none,.ref (r+2),.int (t+3) 0,.int l 0,.str "/claim/cut.py" (t+4)] }
abbrev lm8:Str:="law_quirehand_k08_whole_texts_read_or_refuse"
def fO (n:Str)(i c:Nat)(m:Str)(t:Nat):Obj:=⟨.type "function",none,.func (fnOf n n (L2.defArgs (top i)) (L2.defBody (top i)) (L2.defScope (top i)) .none .none .none (.str m t) none (.ref c) .none),#[]⟩
def iO (c:Nat)(m:Str)(t:Nat):Obj:=⟨.type "function",none,.func (fnOf "__init__" "BadText.__init__" (L2.defArgs (mth 7 0)) (L2.defBody (mth 7 0)) (L2.defScope (mth 7 0)) .none .none .none (.str m t) none (.ref c) .none),#[]⟩
def K0 (P:Params):Frag:=[
 (2,{ cls:=.none,data:=.dict #[] }),
 (3,dO #[eQ P "__name__" 165 (.str lm8 598),eQ P "__doc__" 166 .none,eQ P "__package__" 167 .none,eQ P "__loader__" 168 (.builtin "__main__.__loader__#opaque"),eQ P "__spec__" 169 .none,eQ P "__annotations__" 170 (.ref 6),eQ P "__builtins__" 171 (.ref 4),eQ P "__file__" 173 (.str "/claim/cut.py" 172),eQ P "__cached__" 174 .none,eQ P "SetError" 206 (.ref 24),eQ P "BadFace" 222 (.ref 37),eQ P "BadRules" 238 (.ref 49),eQ P "BadBook" 254 (.ref 61),eQ P "BadWord" 270 (.ref 73),eQ P "BadBlocks" 286 (.ref 85),eQ P "BadText" 311 (.ref 104),eQ P "BadBreaks" 327 (.ref 116),eQ P "TooWide" 343 (.ref 128),eQ P "NoPlace" 359 (.ref 140),eQ P "NoNote" 375 (.ref 152),eQ P "SIGNS" 379 (.str "abcdefghijklmnopqrstuvwxyzABCDEFGHIJKLMNOPQRSTUVWXYZ0123456789.,;:!?'\"()-/" 378),eQ P "is_sign" 386 (.ref 161),eQ P "MOST_SIGNS" 390 (.int 40 389),eQ P "is_word" 396 (.ref 166),eQ P "MOST_HEAD_WORDS" 400 (.int 12 399),eQ P "MOST_PAIRS" 402 (.int 200 401),eQ P "MOST_WORD_NOTES" 404 (.int 3 403),eQ P "MOST_NOTE_WORDS" 406 (.int 30 405),eQ P "MOST_ROWS" 408 (.int 20 407),eQ P "MOST_CELLS" 410 (.int 4 409),eQ P "MOST_CELL_WORDS" 412 (.int 12 411),eQ P "MOST_BLOCKS" 414 (.int 40 413),eQ P "MOST_NOTES" 416 (.int 60 415),eQ P "is_tuple_of" 422 (.ref 171),eQ P "is_note" 429 (.ref 178),eQ P "is_pair" 436 (.ref 185),eQ P "is_cell" 443 (.ref 192),eQ P "is_row" 450 (.ref 199),eQ P "is_table" 456 (.ref 204),eQ P "is_block" 463 (.ref 211),eQ P "many_notes" 469 (.ref 216),eQ P "are_blocks" 475 (.ref 221),eQ P "need_blocks" 482 (.ref 228),eQ P "runs_of" 496 (.ref 235),eQ P "words_of" 502 (.ref 240),eQ P "is_table_row" 509 (.ref 247),eQ P "cells_of" 515 (.ref 252),eQ P "word_end" 524 (.ref 259),eQ P "blanks_end" 533 (.ref 266),eQ P "pairs_of" 546 (.ref 273),eQ P "block_of" 552 (.ref 278),eQ P "read" 564 (.ref 285),eQ P "note_text" 573 (.ref 292),eQ P "pair_text" 579 (.ref 297),eQ P "row_text" 585 (.ref 302),eQ P "block_text" 591 (.ref 307),eQ P "written" 597 (.ref 312),eQ P "_law_number" 608 (.ref 319),eQ P "_law_next" 615 (.ref 326),eQ P "_law_word" 627 (.ref 333),eQ P "_law_words" 639 (.ref 340),eQ P "_law_pairs" 652 (.ref 347),eQ P "_law_table" 665 (.ref 354),eQ P "_law_block" 673 (.ref 361),eQ P "_law_blocks" 679 (.ref 366),eQ P "_law_text_of" 685 (.ref 371),eQ P "_law_sign" 694 (.ref 378),eQ P "_law_changed" 707 (.ref 385),eQ P "_law_bound" 715 (.ref 392),eQ P "_law_drawn" 729 (.ref 399),eQ P "_law_are_words" 742 (.ref 406),eQ P "_law_are_notes" 751 (.ref 413),eQ P "_law_word_ends" 761 (.ref 420),eQ P "_law_notes_of_text" 775 (.ref 427),eQ P "_law_is_table" 781 (.ref 432),eQ P "_law_barred" 787 (.ref 437),eQ P "_law_notes" 794 (.ref 444),eQ P "_law_runs" 800 (.ref 449),eQ P "_law_first_wrong" 810 (.ref 456),eQ P "_law_line_put" 816 (.ref 461),eQ P "_law_row_put" 822 (.ref 466),eQ P "_law_put" 828 (.ref 471),eQ P "_law_row" 836 (.ref 478),eQ P "law" 842 (.ref 483)] 84),
 (23,dO #[eQ P "__module__" 196 (.str "quirehand.errors" 187),eQ P "__firstlineno__" 200 (.int 2 199),eQ P "__static_attributes__" 201 (.ref 22),eQ P "__weakref__" 203 (.ref 25),eQ P "__doc__" 204 .none] 3),
 (24,{ cls:=.type "type",data:=.cls { name:="SetError",bases:=[.type "ValueError"],mro:=[.ref 24,.type "ValueError",.type "Exception",.type "BaseException",.type "object"],ns:=23,qualname:="SetError",subclasses:=[.ref 37,.ref 49,.ref 61,.ref 73,.ref 85,.ref 104,.ref 116,.ref 128,.ref 140,.ref 152] },slots:=#[some (.ref 15),none,some (.str "SetError" 189),some (.str "SetError" 197),some (.builtin "ValueError.__new__"),some (.bool true)] }),
 (36,dO #[eQ P "__module__" 214 (.str "quirehand.errors" 187),eQ P "__firstlineno__" 218 (.int 4 217),eQ P "__static_attributes__" 219 (.ref 35),eQ P "__doc__" 220 .none] 2),
 (37,{ cls:=.type "type",data:=.cls { name:="BadFace",bases:=[.ref 24],mro:=[.ref 37,.ref 24,.type "ValueError",.type "Exception",.type "BaseException",.type "object"],ns:=36,qualname:="BadFace" },slots:=#[some (.ref 28),none,some (.str "BadFace" 207),some (.str "BadFace" 215),some (.builtin "ValueError.__new__"),some (.bool true)] }),
 (48,dO #[eQ P "__module__" 230 (.str "quirehand.errors" 187),eQ P "__firstlineno__" 234 (.int 6 233),eQ P "__static_attributes__" 235 (.ref 47),eQ P "__doc__" 236 .none] 2),
 (49,{ cls:=.type "type",data:=.cls { name:="BadRules",bases:=[.ref 24],mro:=[.ref 49,.ref 24,.type "ValueError",.type "Exception",.type "BaseException",.type "object"],ns:=48,qualname:="BadRules" },slots:=#[some (.ref 40),none,some (.str "BadRules" 223),some (.str "BadRules" 231),some (.builtin "ValueError.__new__"),some (.bool true)] }),
 (60,dO #[eQ P "__module__" 246 (.str "quirehand.errors" 187),eQ P "__firstlineno__" 250 (.int 8 249),eQ P "__static_attributes__" 251 (.ref 59),eQ P "__doc__" 252 .none] 2),
 (61,{ cls:=.type "type",data:=.cls { name:="BadBook",bases:=[.ref 24],mro:=[.ref 61,.ref 24,.type "ValueError",.type "Exception",.type "BaseException",.type "object"],ns:=60,qualname:="BadBook" },slots:=#[some (.ref 52),none,some (.str "BadBook" 239),some (.str "BadBook" 247),some (.builtin "ValueError.__new__"),some (.bool true)] }),
 (72,dO #[eQ P "__module__" 262 (.str "quirehand.errors" 187),eQ P "__firstlineno__" 266 (.int 10 265),eQ P "__static_attributes__" 267 (.ref 71),eQ P "__doc__" 268 .none] 2),
 (73,{ cls:=.type "type",data:=.cls { name:="BadWord",bases:=[.ref 24],mro:=[.ref 73,.ref 24,.type "ValueError",.type "Exception",.type "BaseException",.type "object"],ns:=72,qualname:="BadWord" },slots:=#[some (.ref 64),none,some (.str "BadWord" 255),some (.str "BadWord" 263),some (.builtin "ValueError.__new__"),some (.bool true)] }),
 (84,dO #[eQ P "__module__" 278 (.str "quirehand.errors" 187),eQ P "__firstlineno__" 282 (.int 12 281),eQ P "__static_attributes__" 283 (.ref 83),eQ P "__doc__" 284 .none] 2),
 (85,{ cls:=.type "type",data:=.cls { name:="BadBlocks",bases:=[.ref 24],mro:=[.ref 85,.ref 24,.type "ValueError",.type "Exception",.type "BaseException",.type "object"],ns:=84,qualname:="BadBlocks" },slots:=#[some (.ref 76),none,some (.str "BadBlocks" 271),some (.str "BadBlocks" 279),some (.builtin "ValueError.__new__"),some (.bool true)] }),
 (100,{ cls:=.type "code",data:=.fields #[.str "__init__" 299,.str "BadText.__init__" 300,.str "/claim/cut.py" 301,.int 16 0,.int 2 0,.int 0 0,.int 0 0,.int 3 0,.ref 95,.bool true,.int 181 0,.ref 96,.none,.ref 97,.ref 98,.ref 99,.int 304 0,.int 16 0,.str "/claim/cut.py" 305] }),
 (101,iO 100 "quirehand.errors" 187),
 (103,dO #[eQ P "__module__" 294 (.str "quirehand.errors" 187),eQ P "__firstlineno__" 298 (.int 14 297),eQ P "__init__" 306 (.ref 101),eQ P "__static_attributes__" 308 (.ref 102),eQ P "__doc__" 309 .none] 2),
 (104,{ cls:=.type "type",data:=.cls { name:="BadText",bases:=[.ref 24],mro:=[.ref 104,.ref 24,.type "ValueError",.type "Exception",.type "BaseException",.type "object"],ns:=103,qualname:="BadText" },slots:=#[some (.ref 88),none,some (.str "BadText" 287),some (.str "BadText" 295),some (.builtin "ValueError.__new__"),some (.bool true)] }),
 (115,dO #[eQ P "__module__" 319 (.str "quirehand.errors" 187),eQ P "__firstlineno__" 323 (.int 19 322),eQ P "__static_attributes__" 324 (.ref 114),eQ P "__doc__" 325 .none] 2),
 (116,{ cls:=.type "type",data:=.cls { name:="BadBreaks",bases:=[.ref 24],mro:=[.ref 116,.ref 24,.type "ValueError",.type "Exception",.type "BaseException",.type "object"],ns:=115,qualname:="BadBreaks" },slots:=#[some (.ref 107),none,some (.str "BadBreaks" 312),some (.str "BadBreaks" 320),some (.builtin "ValueError.__new__"),some (.bool true)] }),
 (127,dO #[eQ P "__module__" 335 (.str "quirehand.errors" 187),eQ P "__firstlineno__" 339 (.int 21 338),eQ P "__static_attributes__" 340 (.ref 126),eQ P "__doc__" 341 .none] 2),
 (128,{ cls:=.type "type",data:=.cls { name:="TooWide",bases:=[.ref 24],mro:=[.ref 128,.ref 24,.type "ValueError",.type "Exception",.type "BaseException",.type "object"],ns:=127,qualname:="TooWide" },slots:=#[some (.ref 119),none,some (.str "TooWide" 328),some (.str "TooWide" 336),some (.builtin "ValueError.__new__"),some (.bool true)] }),
 (139,dO #[eQ P "__module__" 351 (.str "quirehand.errors" 187),eQ P "__firstlineno__" 355 (.int 23 354),eQ P "__static_attributes__" 356 (.ref 138),eQ P "__doc__" 357 .none] 2),
 (140,{ cls:=.type "type",data:=.cls { name:="NoPlace",bases:=[.ref 24],mro:=[.ref 140,.ref 24,.type "ValueError",.type "Exception",.type "BaseException",.type "object"],ns:=139,qualname:="NoPlace" },slots:=#[some (.ref 131),none,some (.str "NoPlace" 344),some (.str "NoPlace" 352),some (.builtin "ValueError.__new__"),some (.bool true)] }),
 (151,dO #[eQ P "__module__" 367 (.str "quirehand.errors" 187),eQ P "__firstlineno__" 371 (.int 25 370),eQ P "__static_attributes__" 372 (.ref 150),eQ P "__doc__" 373 .none] 2),
 (152,{ cls:=.type "type",data:=.cls { name:="NoNote",bases:=[.ref 24],mro:=[.ref 152,.ref 24,.type "ValueError",.type "Exception",.type "BaseException",.type "object"],ns:=151,qualname:="NoNote" },slots:=#[some (.ref 143),none,some (.str "NoNote" 360),some (.str "NoNote" 368),some (.builtin "ValueError.__new__"),some (.bool true)] }),
 (160,cO "is_sign" 380 29 1 3 155 384),
 (161,fO "is_sign" 14 160 "quirehand.faces" 376),
 (165,cN "is_word" 391 33 1 162),
 (166,fO "is_word" 17 165 "quirehand.parting" 387),
 (170,cN "is_tuple_of" 417 47 4 167),
 (171,fO "is_tuple_of" 28 170 "quirehand.blocks" 397),
 (177,cO "is_note" 423 51 1 3 172 427),
 (178,fO "is_note" 29 177 "quirehand.blocks" 397),
 (184,cO "is_pair" 430 53 1 3 179 434),
 (185,fO "is_pair" 30 184 "quirehand.blocks" 397),
 (191,cO "is_cell" 437 57 1 3 186 441),
 (192,fO "is_cell" 31 191 "quirehand.blocks" 397),
 (198,cO "is_row" 444 59 1 3 193 448),
 (199,fO "is_row" 32 198 "quirehand.blocks" 397),
 (203,cN "is_table" 451 61 1 200),
 (204,fO "is_table" 33 203 "quirehand.blocks" 397),
 (210,cO "is_block" 457 63 1 3 205 461),
 (211,fO "is_block" 34 210 "quirehand.blocks" 397),
 (215,cN "many_notes" 464 73 1 212),
 (216,fO "many_notes" 35 215 "quirehand.blocks" 397),
 (220,cN "are_blocks" 470 77 1 217),
 (221,fO "are_blocks" 36 220 "quirehand.blocks" 397),
 (227,cO "need_blocks" 476 83 1 3 222 480),
 (228,fO "need_blocks" 37 227 "quirehand.blocks" 397),
 (234,cO "runs_of" 485 88 1 3 229 494),
 (235,fO "runs_of" 39 234 "quirehand.reading" 483),
 (239,cN "words_of" 497 99 1 236),
 (240,fO "words_of" 40 239 "quirehand.reading" 483),
 (246,cO "is_table_row" 503 101 1 3 241 507),
 (247,fO "is_table_row" 41 246 "quirehand.reading" 483),
 (251,cN "cells_of" 510 103 1 248),
 (252,fO "cells_of" 42 251 "quirehand.reading" 483),
 (258,cO "word_end" 516 105 2 3 253 522),
 (259,fO "word_end" 43 258 "quirehand.reading" 483),
 (265,cO "blanks_end" 525 110 2 3 260 531),
 (266,fO "blanks_end" 44 265 "quirehand.reading" 483),
 (272,cO "pairs_of" 534 115 1 3 267 544),
 (273,fO "pairs_of" 45 272 "quirehand.reading" 483),
 (277,cN "block_of" 547 133 1 274),
 (278,fO "block_of" 46 277 "quirehand.reading" 483),
 (284,cO "read" 553 141 1 3 279 562),
 (285,fO "read" 47 284 "quirehand.reading" 483),
 (291,cO "note_text" 567 156 1 3 286 571),
 (292,fO "note_text" 49 291 "quirehand.writing" 565),
 (296,cN "pair_text" 574 158 2 293),
 (297,fO "pair_text" 50 296 "quirehand.writing" 565),
 (301,cN "row_text" 580 160 1 298),
 (302,fO "row_text" 51 301 "quirehand.writing" 565),
 (306,cN "block_text" 586 162 1 303),
 (307,fO "block_text" 52 306 "quirehand.writing" 565),
 (311,cN "written" 592 170 1 308),
 (312,fO "written" 53 311 "quirehand.writing" 565),
 (318,cO "_law_number" 600 174 2 3 313 606),
 (319,fO "_law_number" 55 318 lm8 598),
 (325,cO "_law_next" 609 179 1 3 320 613),
 (326,fO "_law_next" 56 325 lm8 598),
 (332,cO "_law_word" 616 181 1 3 327 625),
 (333,fO "_law_word" 57 332 lm8 598),
 (339,cO "_law_words" 628 191 3 3 334 637),
 (340,fO "_law_words" 58 339 lm8 598),
 (346,cO "_law_pairs" 640 200 2 3 341 650),
 (347,fO "_law_pairs" 59 346 lm8 598),
 (353,cO "_law_table" 653 214 1 3 348 663),
 (354,fO "_law_table" 60 353 lm8 598),
 (360,cO "_law_block" 666 227 2 3 355 671),
 (361,fO "_law_block" 61 360 lm8 598),
 (365,cN "_law_blocks" 674 235 2 362),
 (366,fO "_law_blocks" 62 365 lm8 598),
 (370,cN "_law_text_of" 680 250 1 367),
 (371,fO "_law_text_of" 63 370 lm8 598),
 (377,cO "_law_sign" 686 263 1 3 372 692),
 (378,fO "_law_sign" 64 377 lm8 598),
 (384,cO "_law_changed" 695 269 2 3 379 705),
 (385,fO "_law_changed" 65 384 lm8 598),
 (391,cO "_law_bound" 708 287 2 3 386 713),
 (392,fO "_law_bound" 66 391 lm8 598),
 (398,cO "_law_drawn" 716 303 1 3 393 727),
 (399,fO "_law_drawn" 67 398 lm8 598),
 (405,cO "_law_are_words" 730 325 3 3 400 740),
 (406,fO "_law_are_words" 68 405 lm8 598),
 (412,cO "_law_are_notes" 743 338 1 3 407 749),
 (413,fO "_law_are_notes" 69 412 lm8 598),
 (419,cO "_law_word_ends" 752 347 1 3 414 759),
 (420,fO "_law_word_ends" 70 419 lm8 598),
 (426,cO "_law_notes_of_text" 762 355 1 3 421 773),
 (427,fO "_law_notes_of_text" 71 426 lm8 598),
 (431,cN "_law_is_table" 776 372 1 428),
 (432,fO "_law_is_table" 72 431 lm8 598),
 (436,cN "_law_barred" 782 379 1 433),
 (437,fO "_law_barred" 73 436 lm8 598),
 (443,cO "_law_notes" 788 381 1 3 438 792),
 (444,fO "_law_notes" 74 443 lm8 598),
 (448,cN "_law_runs" 795 389 1 445),
 (449,fO "_law_runs" 75 448 lm8 598),
 (455,cO "_law_first_wrong" 801 399 1 3 450 808),
 (456,fO "_law_first_wrong" 76 455 lm8 598),
 (460,cN "_law_line_put" 811 407 1 457),
 (461,fO "_law_line_put" 77 460 lm8 598),
 (465,cN "_law_row_put" 817 409 1 462),
 (466,fO "_law_row_put" 78 465 lm8 598),
 (470,cN "_law_put" 823 412 1 467),
 (471,fO "_law_put" 79 470 lm8 598),
 (477,cO "_law_row" 829 418 1 3 472 834),
 (478,fO "_law_row" 80 477 lm8 598),
 (482,cN "law" 837 430 1 479),
 (483,fO "law" 81 482 lm8 598)]
abbrev pw:Program:=PySem.Challenge.pw_quirehand_k08_whole_texts_read_or_refuse
def as0:List Addr:=[2,3,23,24,36,37,48,49,60,61,72,73,84,85,100,101,103,104,115,116,127,128,139,140,151,152,160,161,165,166,170,171,177,178,184,185,191,192,198,199,203,204,210,211,215,216,220,221,227,228,234,235,239,240,246,247,251,252,258,259,265,266,272,273,277,278,284,285,291,292,296,297,301,302,306,307,311,312,318,319,325,326,332,333,339,340,346,347,353,354,360,361,365,366,370,371,377,378,384,385,391,392,398,399,405,406,412,413,419,420,426,427,431,432,436,437,443,444,448,449,455,456,460,461,465,466,470,471,477,478,482,483]
def as_eq:∀P,as0=(K0 P).map (·.1):=fun _=>rfl
def q0:Program:=view pw [1,2,3,4,5,6,7,8,9,10,11,13,14,16,17,19,20,21,22,23,24,25,26,27,28,29,30,31,32,33,34,35,36,37,39,40,41,42,43,44,45,46,47,49,50,51,52,53,55,56,57,58,59,60,61,62,63,64,65,66,67,68,69,70,71,72,73,74,75,76,77,78,79,80,81]
def X0 (s:jNc):Bool:=xlAt q0 [] s&&recOk [] s
def xl1 (s:jNc)(e:X0 s=true):xlAt q0 [] s=true/\recOk [] s=true:=(tM).mp e
def Y0 (s:jNc):List (Option Obj):=as0.map s.heap.get?
def A0 (w:World):List (Option Obj):=(K0 w.params).map fun p=>some p.2
def t0:(PySem.Challenge.pw_quirehand_k08_whole_texts_read_or_refuse.main.body.length==82)=true:=by k_qdec
section
set_option maxHeartbeats 0
theorem Pa:HW.Pa pw q0 [] X0 Y0 A0 4100:=by intro w os;unfold HW.runAll q0 pw;rw[Fast.te1956404815551172506];kernel_rfl
theorem Pb:HW.Pb pw q0 [] X0 Y0 4100:=by intro w os;unfold HW.runAll q0 pw;rw[Fast.te1956404815551172506];kernel_rfl
theorem Pc:HW.Pc pw q0 [] X0 Y0 4100:=by intro w os;unfold HW.runAll q0 pw;rw[Fast.te1956404815551172506];kernel_rfl
theorem Pd:HW.Pd pw q0 [] X0 Y0 4100:=by intro w os;unfold HW.runAll q0 pw;rw[Fast.te1956404815551172506];kernel_rfl
theorem Pe:HW.Pe pw q0 [] X0 Y0 4100:=by intro w os;unfold HW.runAll q0 pw;rw[Fast.te1956404815551172506];kernel_rfl
theorem Pf:HW.Pf pw q0 [] X0 Y0 4100:=by intro w os;unfold HW.runAll q0 pw;rw[Fast.te1956404815551172506];kernel_rfl
def left0:LeftO pw q0 [] X0 Y0 A0 8260:=HW.left_of (n1:=4100) (by kernel_rfl) rfl (fun _=>rfl) (fun _=>by kernel_rfl) rfl Pa Pb Pc Pd Pe Pf
end
end K08
namespace L2
open PySem PySem.Spec PyProof.Rows
abbrev nDb (x:Str):Prop:=(x==("__debug__":Str))=false
inductive Key where
 | inl (i:Int) | inr (x:Str) | non
 deriving DecidableEq
def QK:Value->Bool
 | .none=>true
 | _=>false
def Xv:Key->Value->Bool
 | .inl k,v=>Value.isInt k v
 | .inr x,v=>Value.isStrOf x v
 | .non,v=>QK v
def z8W (w:World):Key->Int
 | .inl k=>hashInt k
 | .inr x=>hashStr w x
 | .non=>0xFCA86420
def YY {v:Value}(h:QK v=true):v=.none:=by cases v<;>first|rfl|cases h
def yk:∀ {k:Key} {v:Value},Xv k v=true->(∃i t,k=Key.inl i/\v=Value.int i t)\/(∃x t,k=Key.inr x/\v=Value.str x t)\/(k=Key.non/\v=Value.none)
 | .inl i,v,h=>by
  obtain⟨t,e⟩:=Value.isInt_shape (k:=i) (v:=v) h;exact .inl ⟨i,t,rfl,e⟩
 | .inr x,v,h=>by
  obtain⟨t,e⟩:=Value.isStrOf_shape (x:=x) (v:=v) h;exact .inr (.inl ⟨x,t,rfl,e⟩)
 | .non,v,h=>.inr (.inr ⟨rfl,YY h⟩)
def JE (i:Int)(t:Tok):Xv (.inl i) (.int i t)=true:=by simp[Xv,Value.isInt]
def Jt (x:Str)(t:Tok):Xv (.inr x) (.str x t)=true:=by simp[Xv,Value.isStrOf]
def z5z (a b:Int):decide (Key.inl a=Key.inl b)=(a==b):=by
 by_cases e:a=b
 ·subst e;simp
 ·have h:¬Key.inl a=Key.inl b:=fun q=>e (Key.inl.inj q);rw[decide_eq_false h];exact (beq_eq_false_iff_ne.mpr e).symm
def z5V (a b:Str):decide (Key.inr a=Key.inr b)=decide (a=b):=by
 by_cases e:a=b
 ·subst e;simp
 ·have h:¬Key.inr a=Key.inr b:=fun q=>e (Key.inr.inj q);rw[decide_eq_false h,decide_eq_false e]
def slot_none_hash:Slot "NoneType" "__hash__" "NoneType.__hash__" :=
 .of (owner:="NoneType") (n:="__hash__") (by rw[typeLookup_type];rw[builtinLookup_eq_fast];kernel_rfl) (by decide +kernel) (by decide +kernel) (by decide +kernel)
  (by first|exact .inl (by decide +kernel)|exact .inr (by decide +kernel)) (by rw[isSubtype_type] ;kernel_rfl)
def Zo:entryFor table "NoneType.__hash__"=some Builtin.«NoneType.__hash__»:=entryFor_of_fast (by kernel_rfl)
def YC (a:Value):argsOk "NoneType.__hash__" ⟨[a],[]⟩:=by unfold argsOk;kernel_rfl
def K1 {prog:jNa}{w:World}{A:jNb}{E:Value->jNc->Prop}{s:jNc}{Q:Int->jNc->Prop}(h:Q 0xFCA86420 { s with toks:=s.toks+1 }):jNe (model prog w) A (pyHash .none) Q E s:=by
 have hT:s.TypeIs .none "NoneType":=rfl;show jNe _ _ (pyHashByItsType .none) Q E s;unfold pyHashByItsType;refine jMb ?_;rw[cRoomFor,jNh (by decide)];refine jMd (jMb (wpAny_specialOf hT slot_none_hash.lookup ?_));rw[jNh (by decide)];refine jMb (wpAny_specialOf hT slot_none_hash.lookup ?_);rw[jNh (by decide)];refine jMb (wpAny_callSpecialIfBoundUnlessNone?_slot hT slot_none_hash (jYj slot_none_hash hT Zo ?_ (YC _)));show jNe _ _ (do ret (<-mkInt 0xFCA86420)) _ _ s;refine wpAny_ret_mkInt ?_;show jNe _ _ (pyHashByItsType.reduced 0xFCA86420) Q E _;unfold pyHashByItsType.reduced;rw[jNg (by decide)];exact jMd h
def xR (prog:jNa)(w:World):PySem.KeyKind prog w Key where
 is:=Xv
 hash:=z8W w
 inj:=fun v a b ha hb=>by
  rcases yk ha with⟨i,t,rfl,rfl⟩|⟨x,t,rfl,rfl⟩|⟨rfl,rfl⟩
  ·rcases yk hb with⟨j,u,rfl,e⟩|⟨y,u,rfl,e⟩|⟨rfl,e⟩
   ·injection e with e1 _;rw[e1]
   ·exact nomatch e
   ·exact nomatch e
  ·rcases yk hb with⟨j,u,rfl,e⟩|⟨y,u,rfl,e⟩|⟨rfl,e⟩
   ·exact nomatch e
   ·injection e with e1 _;rw[e1]
   ·exact nomatch e
  ·rcases yk hb with⟨j,u,rfl,e⟩|⟨y,u,rfl,e⟩|⟨rfl,e⟩
   ·exact nomatch e
   ·exact nomatch e
   ·rfl
 byValue:=fun k v h=>by
  rcases yk h with⟨i,t,rfl,rfl⟩|⟨x,t,rfl,rfl⟩|⟨rfl,rfl⟩<;>rfl
 pyHash:=fun hv h=>by
  rcases yk hv with⟨i,t,rfl,rfl⟩|⟨x,t,rfl,rfl⟩|⟨rfl,rfl⟩
  ·exact wpAny_pyHash_int h
  ·exact wpAny_pyHash_str h
  ·exact K1 h
 eqBool:=fun hu hv h=>by
  rcases yk hu with⟨i,t,rfl,rfl⟩|⟨x,t,rfl,rfl⟩|⟨rfl,rfl⟩
  ·rcases yk hv with⟨j,u,rfl,rfl⟩|⟨y,u,rfl,rfl⟩|⟨rfl,rfl⟩
   ·rw[z5z]at h;exact wpAny_eqBool_int h
   ·rw[decide_eq_false (by intro q;cases q)]at h;exact SeqAt.EqAt.int_str i t y u _ _ _ _ h
   ·rw[decide_eq_false (by intro q;cases q)]at h;exact SeqAt.EqAt.int_none i t _ _ _ _ h
  ·rcases yk hv with⟨j,u,rfl,rfl⟩|⟨y,u,rfl,rfl⟩|⟨rfl,rfl⟩
   ·rw[decide_eq_false (by intro q;cases q)]at h;exact SeqAt.EqAt.str_int x t j u _ _ _ _ h
   ·rw[z5V]at h;exact wpAny_eqBool_str h
   ·rw[decide_eq_false (by intro q;cases q)]at h;exact SeqAt.EqAt.str_none x t _ _ _ _ h
  ·rcases yk hv with⟨j,u,rfl,rfl⟩|⟨y,u,rfl,rfl⟩|⟨rfl,rfl⟩
   ·rw[decide_eq_false (by intro q;cases q)]at h;exact SeqAt.EqAt.none_int j u _ _ _ _ h
   ·rw[decide_eq_false (by intro q;cases q)]at h;exact SeqAt.EqAt.none_str y u _ _ _ _ h
   ·rw[decide_eq_true rfl]at h;exact SeqAt.EqAt.same .none _ _ _ _ h
 «strs»:=fun k x t v h=>by
  rcases yk h with⟨i,u,rfl,e⟩|⟨y,u,rfl,e⟩|⟨rfl,e⟩
  ·exact nomatch e
  ·injection e with e1 _;subst e1;cases v<;>rfl
  ·exact nomatch e
def Vv (prog:jNa)(w:World)(i:Int)(t:Tok):(xR prog w).is (.inl i) (.int i t)=true:=JE i t
def U9 (prog:jNa)(w:World)(x:Str)(t:Tok):(xR prog w).is (.inr x) (.str x t)=true:=Jt x t
def U4 (prog:jNa)(w:World):(xR prog w).is .non .none=true:=rfl
inductive V where
 | non | bl (b:Bool) | int (i:Int) | str (x:Str) | byt (b:Array UInt8) | flt (b:UInt64) | ref (a:Addr) | ty (n:String)
 deriving DecidableEq
def RelV:V->Value->Prop
 | .non,u=>u=Value.none
 | .bl b,u=>u=Value.bool b
 | .int i,u=>∃t,u=Value.int i t
 | .str x,u=>∃t,u=Value.str x t
 | .byt b,u=>∃t,u=Value.bytes b t
 | .flt b,u=>∃t,u=Value.float b t
 | .ref a,u=>u=Value.ref a
 | .ty n,u=>u=Value.type n
abbrev Vals:List V->List Value->Prop:=Paired RelV
theorem Vals.length {xs:List V}{us:List Value}(r:Vals xs us):xs.length=us.length:=Paired.length r
theorem Vals.get:∀ {xs:List V} {us:List Value} {i:Nat} {x:V},Vals xs us->xs[i]?=some x->∃u,us[i]?=some u/\RelV x u
 | _,_,_,_,.nil,e=>by simp at e
 | _,_,0,_,.cons r _,e=>by simp at e;subst e;exact⟨_,rfl,r⟩
 | _,_,i+1,x,.cons _ t,e=>by
  obtain⟨u,h1,h2⟩:=Vals.get (i:=i) (x:=x) t (by simpa using e);exact⟨u,by simpa using h1,h2⟩
theorem Vals.set {x:V}{u:Value}(r:RelV x u):∀ {xs:List V} {us:List Value} (i:Nat),Vals xs us->Vals (xs.set i x) (us.set i u)
 | _,_,_,.nil=>.nil
 | _,_,0,.cons _ t=>.cons r t
 | _,_,i+1,.cons q t=>.cons q (Vals.set r i t)
theorem Vals.append:∀ {xs ys:List V} {us ws:List Value},Vals xs us->Vals ys ws->Vals (xs++ys) (us++ws)
 | _,_,_,_,.nil,s=>s
 | _,_,_,_,.cons r t,s=>.cons r (Vals.append t s)
theorem Vals.take:∀ {xs:List V} {us:List Value} (n:Nat),Vals xs us->Vals (xs.take n) (us.take n)
 | _,_,0,_=>.nil
 | _,_,_+1,.nil=>.nil
 | _,_,n+1,.cons r t=>.cons r (Vals.take n t)
theorem Vals.drop:∀ {xs:List V} {us:List Value} (n:Nat),Vals xs us->Vals (xs.drop n) (us.drop n)
 | _,_,0,r=>r
 | _,_,_+1,.nil=>.nil
 | _,_,n+1,.cons _ t=>Vals.drop n t
def RelO:Option V->Option Value->Prop
 | some v,some u=>RelV v u
 | none,none=>True
 | _,_=>False
def KV {κ:Type}:List (κ×V)->List (κ×Value)->Prop:=Paired fun (p:κ×V) (q:κ×Value)=>p.1=q.1/\RelV p.2 q.2
def kV:Key->V
 | .inl i=>.int i
 | .inr x=>.str x
 | .non=>.non
def TupN (h:Heap)(a:Addr)(items:Array Value):Prop:=∃o,h.get? a=some o/\o.cls=.type "tuple"/\(o.dict=none/\o.slots=#[])/\∃n,o.data=.seq items n
theorem TupN.tup {h:Heap}{a:Addr}{items:Array Value}(x:TupN h a items):IsTup h a items:=let ⟨o,ho,hc,_,n,hd⟩:=x;⟨o,ho,hc,n,hd⟩
theorem TupN.lt {h:Heap}{a:Addr}{items:Array Value}(x:TupN h a items):a<h.objs.size:=x.tup.lt
theorem TupN.new (h:Heap)(items:Array Value):TupN (h.push { cls:=.type "tuple",data:=.seq items }) h.objs.size items:=⟨_,jYd _ rfl,rfl,⟨rfl,rfl⟩,_,rfl⟩
inductive HO where
  | lst (xs:List V)
  | tup (xs:List V)
  | dK (kvs:List (Key×V)) | dT (kvs:List (List Key×V))
  | set (S:Int->Bool) (n:Nat)
  | ins (C dx:Addr) (fs:List (Str×V))
  | own (x:Addr)
  | xd (fs:List (Str×V))
  | met (f x:Addr)
  | rng (lo hi:Int)
  | frz (o:Obj) (u:HO)
  | tbl (ps:Array Value)
  | ext (φ:Heap->Prop)
abbrev Hp:=Addr->Option HO
def upd (H:Hp)(a:Addr)(o:HO):Hp:=fun b=>if b=a then some o else H b
def zz {H:Hp}{a:Addr}{o:HO}:upd H a o a=some o:=by unfold upd;rw[jNg rfl]
def zt {H:Hp}{a b:Addr}{o:HO}(h:b≠a):upd H a o b=H b:=by unfold upd;rw[jNh h]
def z2U {H:Hp}{a:Addr}{o u:HO}:upd (upd H a o) a u=upd H a u:=by
 funext b;unfold upd;split<;>rfl
def zH {H:Hp}{a b:Addr}{o:HO}(h:H a=some o)(h':H b=none):a≠b:=by
 intro e;subst e;rw[h]at h';cases h'
section
variable (P:jNa)(w:World)
def ObjOk (H:Hp)(h:Heap)(a:Addr):HO->Prop
 | .lst xs=>xs.length<=jMi/\∃(its:List Value) (n:Nat),Vals xs its/\h.get? a=some { cls:=.type "list",data:=.seq its.toArray n }
 | .tup xs=>xs.length<=jMi/\∃its:List Value,Vals xs its/\TupN h a its.toArray
 | .dK kvs=>kvs.length<=jMi/\(a==sysModules)=false/\∃vs,KV kvs vs/\h.DictOf (xR P w) a vs
 | .dT kvs=>kvs.length<=jMi/\(a==sysModules)=false/\∃xs:List (List Key×Addr×Value),
   Paired (fun (p:List Key×V) (q:List Key×Addr×Value)=>p.1=q.1/\H q.2.1=some (.tup (p.1.map kV))/\RelV p.2 q.2.2) kvs xs /\
   ∃o es ep,h.get? a=some o/\o.ExactDict/\o.data=.dict es ep/\es.toList=xs.map (entryOfKey (tupleKind (xR P w)))/\(xs.map (·.1)).Nodup
 | .set S n=>h.SetOf (intKind P w) a S n
 | .ins C dx fs=>H dx=some (.own a)/\fs.length<=1000/\dx≠a/\h.get? a=some (jJm C dx) /\
   ∃mA,h.Ns1 dx mA/\(∀f,RelO (fs.lookup f) (mA f))/\PySem.Within mA (fs.map (·.1))
 | .own _=>∃o,h.get? a=some o
 | .xd fs=>∃mA,h.Ns1 a mA/\∀f,RelO (fs.lookup f) (mA f)
 | .rng lo hi=>∃t u v,h.get? a=some { cls:=.type "range",data:=.fields #[.int lo t,.int hi u,.int 1 v] }
 | .frz o u=>h.get? a=some o/\ObjOk H h a u
 | .tbl ps=>∃qs,h.get? a=some { cls:=.none,data:=.fields qs }/\(qs=#[]\/∃l k q t0 c',ps[0]?=some l/\ps[1]?=some k/\ps[2]?=some (.str q t0)/\qs=#[l,k,.ref c']/\H c'=some (.own a)/\h.CodeRec (.ref c') q)
 | .met f x=>h.get? a=some (jJn (.ref f) (.ref x))
 | .ext φ=>φ h/\(∃o,h.get? a=some o)/\∀h1 h2:Heap,φ h1->(∀o,h1.get? a=some o->h2.get? a=some o)->φ h2
def HOk (H:Hp)(h:Heap):Prop:=∀a o,H a=some o->ObjOk P w H h a o
end
section
variable {P:jNa}{w:World}{H H':Hp}{h h':Heap}{a:Addr}{o:HO}
theorem ObjOk.lt (x:ObjOk P w H h a o):a<h.objs.size:=by
 cases o with
 | lst xs=>obtain⟨_,_,_,_,e⟩:=x;exact jYc e
 | tup xs=>obtain⟨_,_,_,p⟩:=x;exact p.lt
 | dK kvs=>obtain⟨_,_,_,_,o,_,_,e,_⟩:=x;exact jYc e
 | dT kvs=>obtain⟨_,_,_,_,o,_,_,e,_⟩:=x;exact jYc e
 | set S n=>obtain⟨o,_,_,_,e,_⟩:=x;exact jYc e
 | ins C dx fs=>obtain⟨_,_,_,e,_⟩:=x;exact jYc e
 | own y=>obtain⟨_,e⟩:=x;exact jYc e
 | xd fs=>obtain⟨_,⟨_,_,_,e,_⟩,_⟩:=x;exact jYc e
 | rng lo hi=>obtain⟨_,_,_,e⟩:=x;exact jYc e
 | frz ob u=>obtain⟨e,_⟩:=x;exact jYc e
 | tbl ps=>obtain⟨_,e,_⟩:=x;exact jYc e
 | met f y=>exact jYc (show h.get? a=some _ from x)
 | ext φ=>obtain⟨_,⟨_,e⟩,_⟩:=x;exact jYc e
theorem Paired.mapP {α β:Type}{F G:α->β->Prop}:∀ {l₁:List α} {l₂:List β},Paired F l₁ l₂->(∀a b,F a b->G a b)->Paired G l₁ l₂
 | _,_,.nil,_=>.nil
 | _,_,.cons r t,f=>.cons (f _ _ r) (Paired.mapP t f)
theorem ObjOk.stay (x:ObjOk P w H h a o)(k:∀b u,(b=a\/H b=some (.own a))->h.get? b=some u->h'.get? b=some u)
  (ho:∀b,H b=some (.own a)->H' b=some (.own a)) (ht:∀b xs,H b=some (.tup xs)->H' b=some (.tup xs)):ObjOk P w H' h' a o:=by
 induction o with
 | lst xs=>obtain⟨z,its,n,r,e⟩:=x;exact⟨z,its,n,r,k _ _ (.inl rfl) e⟩
 | tup xs=>obtain⟨z,its,r,ob,e,c⟩:=x;exact⟨z,its,r,ob,k _ _ (.inl rfl) e,c⟩
 | dK kvs=>obtain⟨z,y,vs,r,ob,es,ep,e,c⟩:=x;exact⟨z,y,vs,r,ob,es,ep,k _ _ (.inl rfl) e,c⟩
 | dT kvs =>
  obtain⟨z,y,xs,r,ob,es,ep,e,c⟩:=x;exact⟨z,y,xs,Paired.mapP r fun p q z=>⟨z.1,ht _ _ z.2.1,z.2.2⟩,ob,es,ep,k _ _ (.inl rfl) e,c⟩
 | set S n=>obtain⟨ob,es,ep,t,e,c⟩:=x;exact⟨ob,es,ep,t,k _ _ (.inl rfl) e,c⟩
 | ins C dx fs =>
  obtain⟨d,z,ne,e,mA,⟨od,es,ep,e2,c⟩,r⟩:=x;exact⟨ho _ d,z,ne,k _ _ (.inl rfl) e,mA,⟨od,es,ep,k _ _ (.inr d) e2,c⟩,r⟩
 | own y=>obtain⟨ob,e⟩:=x;exact⟨ob,k _ _ (.inl rfl) e⟩
 | xd fs=>obtain⟨mA,⟨od,es,ep,e,c⟩,r⟩:=x;exact⟨mA,⟨od,es,ep,k _ _ (.inl rfl) e,c⟩,r⟩
 | rng lo hi=>obtain⟨t,u,v,e⟩:=x;exact⟨t,u,v,k _ _ (.inl rfl) e⟩
 | frz ob u ih=>obtain⟨e,q⟩:=x;exact⟨k _ _ (.inl rfl) e,ih q⟩
 | tbl ps =>
  obtain⟨qs,e,z⟩:=x;refine⟨qs,k a _ (.inl rfl) e,?_⟩;rcases z with z|⟨l,m,q,t0,c',z1,z2,z3,z4,z5,c,ob,vs,t,z6,z7,z8⟩
  ·exact .inl z
  ·cases z6;exact .inr ⟨l,m,q,t0,c',z1,z2,z3,z4,ho _ z5,c',ob,vs,t,rfl,k _ _ (.inr z5) z7,z8⟩
 | met f y =>
  have e:h.get? a=some (jJn (.ref f) (.ref y)):=x;show h'.get? a=some (jJn (.ref f) (.ref y));exact k a _ (.inl rfl) e
 | ext φ=>obtain⟨p,⟨o,e⟩,st⟩:=x;exact⟨st _ _ p fun o q=>k _ _ (.inl rfl) q,⟨o,k _ _ (.inl rfl) e⟩,st⟩
theorem HOk.lt (x:HOk P w H h)(e:H a=some o):a<h.objs.size:=(x a o e).lt
def HOk.fresh (x:HOk P w H h)(e:h.objs.size<=a):H a=none:=by
 cases q:H a with
 | none=>rfl
 | some u=>exact absurd (sF (x.lt q) e) (pI _)
theorem HOk.kept (x:HOk P w H h)(k:∀b u,h.get? b=some u->h'.get? b=some u):HOk P w H h':=fun a o e =>
 (x a o e).stay (fun b u _ q=>k b u q) (fun _ q=>q) fun _ _ q=>q
theorem HOk.laid (x:HOk P w H h)(k:∀b u,h.get? b=some u->h'.get? b=some u)(hp:h.objs.size<=a)(new:ObjOk P w (upd H a o) h' a o):HOk P w (upd H a o) h':=fun b u e=>by
 have hn:=x.fresh hp
 by_cases hb:b=a
 ·subst hb;rw[zz]at e;cases e;exact new
 ·rw[zt hb]at e;exact (x b u e).stay (fun c v _ q=>k c v q) (fun c q=>by rw[zt (zH q hn)];exact q) fun c xs q=>by rw[zt (zH q hn)];exact q
end
def Rd (H:Hp)(a:Addr)(u:HO):Prop:=H a=some u\/∃o,H a=some (.frz o u)
theorem Rd.ok {P:jNa}{w:World}{H:Hp}{h:Heap}{a:Addr}{u:HO}(r:Rd H a u)(x:HOk P w H h):ObjOk P w H h a u:=by
 rcases r with r|⟨o,r⟩
 ·exact x a u r
 ·obtain⟨_,q⟩:=x a _ r;exact q
def Mut:Option HO->Prop
 | some (.lst _)=>True
 | some (.dK _)=>True
 | some (.dT _)=>True
 | some (.set _ _)=>True
 | some (.ins _ _ _)=>True
 | some (.ext _)=>True
 | _=>False
section
variable {P:jNa}{w:World}{H:Hp}{h h':Heap}{x e:Addr}{o':HO}
def HOk.write (ok:HOk P w H h)(mu:Mut (H x))(he:e=x\/H e=some (.own x))(k:∀b u,b≠e->h.get? b=some u->h'.get? b=some u)(heo:∃u,h'.get? e=some u)
  (new:ObjOk P w (upd H x o') h' x o'):HOk P w (upd H x o') h':=fun b u q=>by
 have nown:∀c y,H c=some (.own y)->c≠x:=fun c y r z=>by subst z;rw[r]at mu;exact mu
 have ntup:∀c xs,H c=some (.tup xs)->c≠x:=fun c xs r z=>by subst z;rw[r]at mu;exact mu
 by_cases hb:b=x
 ·subst hb;rw[zz]at q;cases q;exact new
 ·rw[zt hb]at q
  by_cases hbe:b=e
  ·have q':H b=some (.own x):=by
    rcases he with z|z
    ·exact absurd (hbe.trans z) hb
    ·rw[hbe];exact z
   rw[q]at q';cases q';obtain⟨v,hv⟩:=heo;exact⟨v,by rw[hbe];exact hv⟩
  ·refine (ok b u q).stay (fun c v hc r=>k c v ?_ r) (fun c r=>by rw[zt (nown c b r)];exact r) fun c xs r=>by rw[zt (ntup c xs r)];exact r
   rcases hc with rfl|hc
   ·exact hbe
   ·rintro rfl;rcases he with z|z
    ·exact nown c b hc z
    ·rw[hc]at z;cases z;exact hb rfl
end
structure Un (fs ex:List Addr)(H H':Hp)(h h':Heap):Prop where
 keep:∀b o,h.get? b=some o->H b=none->b∉fs->b∉ex->h'.get? b=some o
 slot:∀b o,h.get? b=some o->H b=none->b∈fs->b∉ex->∃sl,h'.get? b=some { o with slots:=sl }
 free:∀b o,h.get? b=some o->H b=none->b∉ex->H' b=none
 there:∀b o,h.get? b=some o->b∉ex->∃o',h'.get? b=some o'
 tups:∀b xs,H b=some (.tup xs)->H' b=some (.tup xs)
 frzs:∀b o u,H b=some (.frz o u)->H' b=some (.frz o u)
 tbls:∀b ps,H b=some (.tbl ps)->∃more,H' b=some (.tbl (ps++more))
section
variable {fs fs' ex ex':List Addr}{H H1 H2:Hp}{h h1 h2 h':Heap}{a x e:Addr}{o:HO}
theorem Un.any (u:Un fs ex H H1 h h1){b:Addr}{ob:Obj}(q:h.get? b=some ob)(n:H b=none)(hx:b∉ex):∃sl,h1.get? b=some { ob with slots:=sl }:=by
 by_cases hb:b∈fs
 ·exact u.slot b ob q n hb hx
 ·exact⟨ob.slots,u.keep b ob q n hb hx⟩
def Un.kept (k:∀b u,h.get? b=some u->h'.get? b=some u):Un fs ex H H h h' :=
 ⟨fun b ob q _ _ _=>k b ob q,fun b ob q _ _ _=>⟨ob.slots,k b ob q⟩,fun _ _ _ n _=>n,fun b ob q _=>⟨ob,k b ob q⟩,fun _ _ q=>q,fun _ _ _ q=>q,fun _ ps q=>⟨#[],by rw[q];simp⟩⟩
def Un.refl:Un fs ex H H h h:=Un.kept fun _ _ q=>q
def Un.laid (k:∀b u,h.get? b=some u->h'.get? b=some u)(hp:h.objs.size<=a)(hn:H a=none):Un fs ex H (upd H a o) h h' where
 keep:=fun b u q _ _ _=>k b u q
 slot:=fun b u q _ _ _=>⟨u.slots,k b u q⟩
 free:=fun b u q n _=>by rw[zt (sV (sF (jYc q) hp))];exact n
 there:=fun b u q _=>⟨u,k b u q⟩
 tups:=fun b xs q=>by rw[zt (zH q hn)];exact q
 frzs:=fun b u xs q=>by rw[zt (zH q hn)];exact q
 tbls:=fun b ps q=>⟨#[],by rw[zt (zH q hn),q];simp⟩
def Un.write (mu:Mut (H x))(he:e=x\/H e=some (.own x))(k:∀b u,b≠e->h.get? b=some u->h'.get? b=some u)(heo:∃u,h'.get? e=some u):Un fs ex H (upd H x o) h h':=by
 have hx:∀b,H b=none->b≠x:=fun b n z=>by subst z;rw[n]at mu;exact mu
 have hb:∀b,H b=none->b≠e:=fun b n z=>by
  subst z;rcases he with r|r
  ·exact hx b n r
  ·rw[n]at r;cases r
 have hm:∀b u,H b=some u->¬Mut (some u)->b≠x:=fun b u q nm z=>by subst z;rw[q]at mu;exact nm mu
 refine⟨fun b u q n _ _=>k b u (hb b n) q,fun b u q n _ _=>⟨u.slots,k b u (hb b n) q⟩,fun b u q n _=>by rw[zt (hx b n)];exact n,fun b u q _=>?_,
  fun b xs q=>by rw[zt (hm b _ q fun z=>z)];exact q,fun b u xs q=>by rw[zt (hm b _ q fun z=>z)];exact q,fun b ps q=>⟨#[],by rw[zt (hm b _ q fun z=>z),q];simp⟩⟩
 by_cases hbe:b=e
 ·subst hbe;exact heo
 ·exact⟨u,k b u hbe q⟩
end
def trk (h:Heap)(H:Hp):List Addr:=(List.range h.objs.size).filter fun a=>(H a).isSome
def Ws (h:Heap)(H:Hp):Heap:=jJk h (trk h H)
def JV (h:Heap)(H:Hp):(Ws h H).objs.size=h.objs.size:=PySem.W.hideAll_size _ _
def z1n {h:Heap}{H:Hp}{b:Addr}{o:Obj}(e:h.get? b=some o)(n:H b=none):(Ws h H).get? b=some o:=
 jJw _ e fun hm=>by
  have q:(H b).isSome=true:=(List.mem_filter.mp hm).2;rw[n]at q;simp at q
def z2i {h:Heap}{H:Hp}{b:Addr}{o:Obj}(e:(Ws h H).get? b=some o):h.get? b=some o/\H b=none:=by
 have e':h.get? b=some o:=jJx (trk h H) e;refine⟨e',?_⟩;cases q:H b with
 | none=>rfl
 | some x =>
  have hm:b∈trk h H:=List.mem_filter.mpr ⟨List.mem_range.mpr (jYc e'),by simp[q]⟩;have z:(Ws h H).get? b=none:=jJy (trk h H) hm;rw[z]at e;cases e
def z27 (g h:Heap)(L:Addr):List (Addr×Obj):=(List.range h.objs.size).filterMap fun a=>if a=L\/(g.get? a).isSome=true then none else (h.get? a).map fun o=>(a,o)
def rest (g h:Heap)(L d:Addr):List (Addr×Obj):=(z27 g h L).filter fun p=>decide (p.1≠d)
structure Mod (K:jJa)(mg:Str->Option Value)(base:Heap):Prop where
 kin:K.In base
 glob:base.Ns jKi mg
 blt:∃mb,base.Ns builtinsNs mb/\∀x:Str,x≠"__name__"->mb x=jKg x
 nolimit:base.NoLimit
structure Cx where
 prog:jNa
 w:World
 K:jJa
 mg:Str->Option Value
 base:Heap
 A:jNb
 N:List Str
 s₀:jNc
 H₀:Hp
 env:Env
 outer:List Env
 stack:List Env
 ex:List Addr
 fn:Str->Bool
 calm:Bool
 pn:List (Addr×Obj)
 xe:Value->jNc->Prop
def frs (l:List Env):List Addr:=l.filterMap (·.frame)
abbrev Cx.fs (X:Cx):List Addr:=frs X.outer
def Vis (sc:Scope)(x:Str):Prop:=sc.names.lookup x=some .local\/sc.names.lookup x=some .cell\/sc.names.lookup x=some .free
def Loc (sc:Scope)(x:Str):Prop:=sc.names.lookup x=some .local\/sc.names.lookup x=some .cell
def z5d (env:Env)(h:Heap)(m:Str->Option Value)(x:Str)(u:Value):Prop:=
 (env.kindOf x=some .local/\m x=some u)\/((env.kindOf x=some .cell\/env.kindOf x=some .free)/\∃c,env.cells.lookup x=some c/\h.IsCell c (some u))
structure Cx.Ok (X:Cx):Prop where
 mod:Mod X.K X.mg X.base
 kind:X.env.scope.kind=.function
 glob:X.env.globals=jKi
 blt:X.env.builtins=builtinsNs
 above:X.s₀.heap.objs.size<=X.env.locals
 inj:∀x y c,X.env.cells.lookup x=some c->X.env.cells.lookup y=some c->x=y
 has:∀x,(X.env.kindOf x=some .cell\/X.env.kindOf x=some .free)->∃c,X.env.cells.lookup x=some c
 cab:∀x c,X.fn x=true->X.env.cells.lookup x=some c->X.s₀.heap.objs.size<=c
 hd:X.calm=true->X.A.handled=none
 frames:X.A.frames=some X.stack
 stk:X.stack=X.outer\/(X.stack=X.env::X.outer/\X.env.frame=some X.env.locals)
 exf:∀b∈X.ex,b≠X.env.locals/\∀x c,X.env.cells.lookup x=some c->c≠b
 bs:∀b o,X.base.get? b=some o->X.s₀.heap.get? b=some o/\X.H₀ b=none
 bsz:X.base.objs.size<=X.s₀.heap.objs.size
 noex:∀b o,X.base.get? b=some o->b∉X.ex
 exfs:∀b∈X.ex,b∉X.fs
 funs:X.s₀.heap.FunFrames X.base X.outer
 frf:∀b∈X.fs,X.H₀ b=none
structure Inv (X:Cx)(jNf:List (Addr×Obj))(σ:List (Option V))(H:Hp)(s:jNc):Prop where
 ok:X.Ok
 os:s.os=X.s₀.os
 bare:AllBare s.gens
 base:Un X.fs X.ex X.H₀ H X.s₀.heap s.heap
 loc:∃m,s.heap.Ns X.env.locals m/\∀(i:Nat) (x:Str) (v:V),X.N[i]?=some x->σ[i]?=some (some v)->Vis X.env.scope x->∃u,RelV v u/\z5d X.env s.heap m x u
 cell:∀x c,X.env.cells.lookup x=some c->∃v,s.heap.IsCell c v
 free:H X.env.locals=none
 freeC:∀x c,X.env.cells.lookup x=some c->H c=none
 pin:∀p∈X.pn++jNf,s.heap.get? p.1=some p.2/\H p.1=none/\p.1≠X.env.locals/\p.1∉X.fs/\∀v,p.2.data≠.cell v
 hok:HOk X.prog X.w H s.heap
 len:σ.length=X.N.length
section
variable {X:Cx}{jNf:List (Addr×Obj)}{σ:List (Option V)}{H H':Hp}{s:jNc}{h':Heap}
theorem Cx.Ok.nofr (ok:X.Ok){b:Addr}{o:Obj}(e:X.base.get? b=some o):b∉X.fs:=fun hb=>by
 have:=(ok.funs.mem hb).1;rw[e]at this;cases this
theorem Inv.bs (I:Inv X jNf σ H s):∀b o,X.base.get? b=some o->s.heap.get? b=some o/\H b=none:=fun b o e =>
 ⟨I.base.keep b o (I.ok.bs b o e).1 (I.ok.bs b o e).2 (I.ok.nofr e) (I.ok.noex b o e),I.base.free b o (I.ok.bs b o e).1 (I.ok.bs b o e).2 (I.ok.noex b o e)⟩
theorem Inv.bk (I:Inv X jNf σ H s):∀b o,X.base.get? b=some o->s.heap.get? b=some o:=fun b o e=>(I.bs b o e).1
theorem Inv.mod (I:Inv X jNf σ H s):Mod X.K X.mg X.base:=I.ok.mod
theorem Inv.kIn (I:Inv X jNf σ H s):X.K.In s.heap:=I.ok.mod.kin.keeps I.bk
theorem Inv.lt (I:Inv X jNf σ H s):X.env.locals<s.heap.objs.size:=let ⟨_,hn,_⟩:=I.loc;hn.lt
theorem Inv.sz (I:Inv X jNf σ H s):X.s₀.heap.objs.size<=s.heap.objs.size:=rH I.ok.above (gB I.lt)
theorem Inv.nofs (I:Inv X jNf σ H s){a:Addr}(h:s.heap.objs.size<=a):a∉X.fs:=fun hb=>by
 obtain⟨_,o,ho,_⟩:=I.ok.funs.mem hb;exact absurd (sF (jYc ho) (rH I.sz h)) (pI _)
theorem Inv.cne (I:Inv X jNf σ H s):∀x c,X.env.cells.lookup x=some c->c≠X.env.locals:=fun x c e z=>by
 obtain⟨v,o,ho,hd⟩:=I.cell x c e;obtain⟨m,⟨o',es,ep,ho',hd',_⟩,_⟩:=I.loc;rw[z,ho']at ho;cases ho;rw[hd']at hd;cases hd
theorem Inv.funs (I:Inv X jNf σ H s):s.heap.FunFrames X.base X.outer:=by
 have all:∀(l:List Env),(∀b∈frs l,b∈X.fs)->X.s₀.heap.FunFrames X.base l->s.heap.FunFrames X.base l:=by
  intro l
  induction l with
  | nil=>intro _ _;trivial
  | cons env r ih =>
   intro hs hl;obtain⟨hk,⟨L,o,hf,hn,ho,hd⟩,hr⟩:=hl;have hL:L∈X.fs:=hs L (by unfold frs;rw[rF,hf];exact tG);obtain⟨sl,e⟩:=I.base.slot L o ho (I.ok.frf L hL) hL fun z=>I.ok.exfs L z hL;exact⟨hk,⟨L,_,hf,hn,e,hd⟩,ih (fun b hb=>hs b (by unfold frs;rw[rF,hf];exact tH _ hb)) hr⟩
 exact all X.outer (fun _ hb=>hb) I.ok.funs
theorem Inv.stack (I:Inv X jNf σ H s):s.heap.FunFrames X.base X.stack:=by
 rcases I.ok.stk with e|⟨e,hf⟩
 ·rw[e];exact I.funs
 ·rw[e];obtain⟨m,hn,_⟩:=I.loc;refine .cons (by rw[I.ok.kind];decide) hf hn ?_ I.funs;exact Heap.get?_none_of_le (rH I.ok.bsz I.ok.above)
def Inv.stkSub (I:Inv X jNf σ H s):∀b∈frs X.stack,b∈X.env.locals::X.fs:=fun b hb=>by
 rcases I.ok.stk with e|⟨e,hf⟩
 ·rw[e]at hb;exact tH _ hb
 ·rw[e]at hb;unfold frs at hb;rw[rF,hf]at hb;exact hb
def Inv.stkFree (I:Inv X jNf σ H s):∀b∈frs X.stack,H b=none:=fun b hb=>by
 rcases tS.mp (I.stkSub b hb)with e|hb
 ·rw[e];exact I.free
 ·obtain⟨_,o,ho,_⟩:=I.ok.funs.mem hb;exact I.base.free b o ho (I.ok.frf b hb) fun z=>I.ok.exfs b z hb
theorem Inv.step {g':Array GenState}{t':Nat}{d':Drawn}{ch:List Addr}(I:Inv X jNf σ H s)
  (hch:∀b∈ch,(b∈X.ex\/X.s₀.heap.objs.size<=b)/\b≠X.env.locals/\(∀x c,X.env.cells.lookup x=some c->c≠b)/\∀p∈X.pn++jNf,p.1≠b)
  (keep:∀b o,b≠X.env.locals->b∉X.fs->b∉ch->s.heap.get? b=some o->H b=none->h'.get? b=some o)
  (slot:∀b o,b≠X.env.locals->b∈X.fs->b∉ch->s.heap.get? b=some o->H b=none->∃sl,h'.get? b=some { o with slots:=sl }) (free:∀b o,b∉ch->s.heap.get? b=some o->H b=none->H' b=none)
  (there:∀b o,b∉ch->s.heap.get? b=some o->∃o',h'.get? b=some o')
  (tups:∀b xs,H b=some (.tup xs)->H' b=some (.tup xs)) (frzs:∀b o u,H b=some (.frz o u)->H' b=some (.frz o u)) (tbls:∀b ps,H b=some (.tbl ps)->∃more,H' b=some (.tbl (ps++more)))
  (ns:∀m,s.heap.Ns X.env.locals m->h'.Ns X.env.locals m) (hok:HOk X.prog X.w H' h') (hg:AllBare g'):
  Inv X jNf σ H' { s with heap:=h',gens:=g',drawn:=d',toks:=t' }:=by
 have neL:∀b o,X.s₀.heap.get? b=some o->b≠X.env.locals:=fun b o e=>sV (sF (jYc e) I.ok.above);have neC:∀b o,X.s₀.heap.get? b=some o->b∉X.ex->b∉ch:=fun b o e hx hb=>by
  rcases (hch b hb).1 with z|z
  ·exact hx z
  ·exact absurd (sF (jYc e) z) (pI _)
 have cellK:∀x c,X.env.cells.lookup x=some c->∀v,s.heap.IsCell c v->h'.IsCell c v:=fun x c e v ⟨o,ho,hd⟩=>by
  have nch:c∉ch:=fun z=>(hch c z).2.2.1 x c e rfl
  by_cases hc:c∈X.fs
  ·obtain⟨sl,q⟩:=slot c o (I.cne x c e) hc nch ho (I.freeC x c e);exact⟨_,q,hd⟩
  ·exact⟨o,keep c o (I.cne x c e) hc nch ho (I.freeC x c e),hd⟩
 refine⟨I.ok,I.os,hg,⟨fun b o e n hb hx=>?_,fun b o e n hb hx=>?_,fun b o e n hx=>?_,fun b o e hx=>?_,fun b xs e=>tups b xs (I.base.tups b xs e),fun b o xs e=>frzs b o xs (I.base.frzs b o xs e),fun b ps e=>?_⟩,?_,fun x c e=>?_,?_,fun x c e=>?_,fun p hp=>?_,hok,I.len⟩
 ·exact keep b o (neL b o e) hb (neC b o e hx) (I.base.keep b o e n hb hx) (I.base.free b o e n hx)
 ·obtain⟨sl,e1⟩:=I.base.slot b o e n hb hx;obtain⟨sl',e2⟩:=slot b _ (neL b o e) hb (neC b o e hx) e1 (I.base.free b o e n hx);exact⟨sl',e2⟩
 ·obtain⟨o',e1⟩:=I.base.there b o e hx;exact free b o' (neC b o e hx) e1 (I.base.free b o e n hx)
 ·obtain⟨o',e1⟩:=I.base.there b o e hx;exact there b o' (neC b o e hx) e1
 ·obtain⟨m1,e1⟩:=I.base.tbls b ps e;obtain⟨m2,e2⟩:=tbls b _ e1;exact⟨m1++m2,by rw[e2,Array.append_assoc]⟩
 ·obtain⟨m,hn,hl⟩:=I.loc;refine⟨m,ns m hn,fun i x v e1 e2 e3=>?_⟩;obtain⟨u,r,l⟩:=hl i x v e1 e2 e3;refine⟨u,r,?_⟩;rcases l with l|⟨k,c,e,z⟩
  ·exact .inl l
  ·exact .inr ⟨k,c,e,cellK x c e _ z⟩
 ·obtain⟨v,z⟩:=I.cell x c e;exact⟨v,cellK x c e v z⟩
 ·obtain⟨m,⟨o,_,_,ho,_⟩,_⟩:=I.loc;exact free _ o (fun z=>(hch _ z).2.1 rfl) ho I.free
 ·obtain⟨v,o,ho,hd⟩:=I.cell x c e;exact free c o (fun z=>(hch c z).2.2.1 x c e rfl) ho (I.freeC x c e)
 ·obtain⟨e,n,ne,nf,d⟩:=I.pin p hp;have nch:p.1∉ch:=fun z=>(hch p.1 z).2.2.2 p hp rfl;exact⟨keep p.1 p.2 ne nf nch e n,free p.1 p.2 nch e n,ne,nf,d⟩
theorem Inv.un {t':Nat}(I:Inv X jNf σ H s)(u:Un X.fs [] H H' s.heap h')(hok:HOk X.prog X.w H' h'):Inv X jNf σ H' { s with heap:=h',toks:=t' }:=by
 obtain⟨m,⟨o,es,ep,ho,r⟩,_⟩:=id I.loc;obtain⟨sl,hL⟩:=u.any ho I.free (by simp);exact I.step (g':=s.gens) (d':=s.drawn) (ch:=[]) (fun _ z=>nomatch z) (fun b o _ hb _ e n=>u.keep b o e n hb (by simp)) (fun b o _ hb _ e n=>u.slot b o e n hb (by simp)) (fun b o _ e n=>u.free b o e n (by simp)) (fun b o _ e=>u.there b o e (by simp)) u.tups u.frzs u.tbls (fun m' hm=>by
  obtain⟨o',es',ep',ho',r'⟩:=hm;rw[ho]at ho';cases ho';exact⟨_,es',ep',hL,r'⟩) hok I.bare
theorem Inv.call {g':Array GenState}{t':Nat}{d':Drawn}{ch:List Addr}(I:Inv X jNf σ H s)(u:Un (frs X.stack) ch H H' s.heap h')(hok:HOk X.prog X.w H' h')(hg:AllBare g')
  (hch:∀b∈ch,(b∈X.ex\/X.s₀.heap.objs.size<=b)/\b≠X.env.locals/\(∀x c,X.env.cells.lookup x=some c->c≠b)/\∀p∈X.pn++jNf,p.1≠b):
  Inv X jNf σ H' { s with heap:=h',gens:=g',drawn:=d',toks:=t' }:=by
 obtain⟨m,⟨o,es,ep,ho,r⟩,_⟩:=id I.loc;obtain⟨sl,hL⟩:=u.any ho I.free fun z=>(hch _ z).2.1 rfl;exact I.step (ch:=ch) hch (fun b o hL hb hc e n=>u.keep b o e n (fun z=>(tS.mp (I.stkSub b z)).elim hL hb) hc) (fun b o _ _ hc e n=>u.any e n hc) (fun b o hc e n=>u.free b o e n hc) (fun b o hc e=>u.there b o e hc) u.tups u.frzs u.tbls (fun m' hm=>by
  obtain⟨o',es',ep',ho',r'⟩:=hm;rw[ho]at ho';cases ho';exact⟨_,es',ep',hL,r'⟩) hok hg
def Inv.turned {t':Nat}{it:Addr}(I:Inv X jNf σ H s)(k:∀b o,b≠it->s.heap.get? b=some o->h'.get? b=some o)(hn:H it=none)(hL:it≠X.env.locals)
  (h1:it∈X.ex\/X.s₀.heap.objs.size<=it) (h2:∀x c,X.env.cells.lookup x=some c->c≠it) (h3:∀p∈X.pn++jNf,p.1≠it):Inv X jNf σ H { s with heap:=h',toks:=t' }:=by
 have nit:∀b u,H b=some u->b≠it:=fun b u e z=>by rw[z,hn]at e;cases e
 refine I.step (g':=s.gens) (d':=s.drawn) (ch:=[it]) (fun b hb=>?_) (fun b o _ _ hc e _=>k b o (fun z=>hc (by simp[z])) e) (fun b o _ _ hc e _=>⟨o.slots,k b o (fun z=>hc (by simp[z])) e⟩) (fun _ _ _ _ n=>n)
  (fun b o hc e=>⟨o,k b o (fun z=>hc (by simp[z])) e⟩) (fun _ _ e=>e) (fun _ _ _ e=>e) (fun b ps e=>⟨#[],by rw[e];simp⟩) (fun m hm=>?_) (fun b u e=>?_) I.bare
 ·have e:b=it:=by simpa using hb
  subst e;exact⟨h1,hL,h2,h3⟩
 ·obtain⟨o,es,ep,ho,r⟩:=hm;exact⟨o,es,ep,k _ o (Ne.symm hL) ho,r⟩
 ·refine (I.hok b u e).stay (fun c v hc q=>k c v ?_ q) (fun _ q=>q) fun _ _ q=>q;rcases hc with z|z
  ·rw[z];exact nit b u e
  ·exact nit c _ z
theorem Inv.tok (I:Inv X jNf σ H s)(t:Nat):Inv X jNf σ H { s with toks:=t }:=I.un (h':=s.heap) (t':=t) Un.refl I.hok
theorem Inv.kept {t':Nat}(I:Inv X jNf σ H s)(k:∀b u,s.heap.get? b=some u->h'.get? b=some u):Inv X jNf σ H { s with heap:=h',toks:=t' }:=I.un (Un.kept k) (I.hok.kept k)
theorem Inv.laid {a:Addr}{o:HO}{t':Nat}(I:Inv X jNf σ H s)(k:∀b u,s.heap.get? b=some u->h'.get? b=some u)(hp:s.heap.objs.size<=a)(new:ObjOk X.prog X.w (upd H a o) h' a o):
  Inv X jNf σ (upd H a o) { s with heap:=h',toks:=t' }:=I.un (Un.laid k hp (I.hok.fresh hp)) (I.hok.laid k hp new)
theorem Inv.write {x e:Addr}{o:HO}{t':Nat}(I:Inv X jNf σ H s)(mu:Mut (H x))(he:e=x\/H e=some (.own x))(k:∀b u,b≠e->s.heap.get? b=some u->h'.get? b=some u)(heo:∃u,h'.get? e=some u)
  (new:ObjOk X.prog X.w (upd H x o) h' x o):Inv X jNf σ (upd H x o) { s with heap:=h',toks:=t' }:=I.un (Un.write mu he k heo) (I.hok.write mu he k heo new)
def Inv.pins_of {pins':List (Addr×Obj)}(I:Inv X jNf σ H s)(h:∀p∈pins',s.heap.get? p.1=some p.2/\H p.1=none/\p.1≠X.env.locals/\p.1∉X.fs/\∀v,p.2.data≠.cell v):Inv X pins' σ H s:=
 ⟨I.ok,I.os,I.bare,I.base,I.loc,I.cell,I.free,I.freeC,fun p hp=>(tX.mp hp).elim (fun z=>I.pin p (tW _ z)) (h p),I.hok,I.len⟩
def ZF {N:List Str}(hN:N.Nodup){i j:Nat}{x:Str}(a:N[i]?=some x)(b:N[j]?=some x):i=j:=by
 obtain⟨h1,e1⟩:=tN.mp a;obtain⟨h2,e2⟩:=tN.mp b;exact (List.getElem_inj hN).mp (e1.trans e2.symm)
def kq {M:Model}{A:jNb}{E:Value->jNc->Prop}{i:Nat}{x:Str}{v:V}{u:Value}{Q:Unit->jNc->Prop}(I:Inv X jNf σ H s)(hN:X.N.Nodup)(hi:X.N[i]?=some x)(hx:Loc X.env.scope x)(r:RelV v u)
  (h:∀s',Inv X jNf (σ.set i (some v)) H s'->(∃a,Heap.SameBut a s.heap s'.heap/\(a=X.env.locals\/X.env.cells.lookup x=some a))->Q () s') (hf:autoParam (X.fn x=true\/X.env.scope.names.lookup x=some .local) au0._auto_1):jNe M A (storeName X.env x u) Q E s:=by
 obtain⟨m,hn,hl⟩:=id I.loc;have hcls:(X.env.scope.kind==.class||(X.env.scope.kind==.module&&X.env.locals != X.env.globals))=false:=by rw[I.ok.kind];rfl
 have hiσ:i<σ.length:=by rw[I.len];exact (tN.mp hi).1
 have cne:=I.cne;have tracked:∀ {a:Addr} {h':Heap},(∃o,s.heap.get? a=some o/\H a=none)->Heap.SameBut a s.heap h'->HOk X.prog X.w H h':=fun {a h'} ha hs b ob e=>by
  obtain⟨_,_,hfree⟩:=ha;refine (I.hok b ob e).stay (fun c w' hc q=>(hs.2 c ?_).trans q) (fun _ q=>q) fun _ _ q=>q;rintro rfl;rcases hc with rfl|hc
  ·rw[hfree]at e;cases e
  ·rw[hfree]at hc;cases hc
 rcases hx with hk|hk
 ·refine wpAny_storeName_local hk hn (fun h' hn' hs=>?_) hcls;obtain⟨oL,_,_,hoL,_⟩:=id hn;refine h _ ⟨I.ok,I.os,I.bare,⟨fun b o e n hb hx=>?_,fun b o e n hb hx=>?_,I.base.free,fun b o e hx=>?_,I.base.tups,I.base.frzs,I.base.tbls⟩,⟨_,hn',fun j y v' e1 e2 e3=>?_⟩,fun y c e=>?_,I.free,I.freeC,fun p hp=>?_,tracked ⟨oL,hoL,I.free⟩ hs,by simpa using I.len⟩ ⟨_,hs,.inl rfl⟩
  ·exact (hs.2 b (sV (sF (jYc e) I.ok.above))).trans (I.base.keep b o e n hb hx)
  ·obtain⟨sl,e1⟩:=I.base.slot b o e n hb hx;exact⟨sl,(hs.2 b (sV (sF (jYc e) I.ok.above))).trans e1⟩
  ·obtain⟨o',e1⟩:=I.base.there b o e hx;exact⟨o',(hs.2 b (sV (sF (jYc e) I.ok.above))).trans e1⟩
  ·by_cases hj:j=i
   ·subst hj;rw[hi]at e1;cases e1;rw[sA hiσ]at e2;cases e2;exact⟨u,r,.inl ⟨hk,by simp⟩⟩
   ·rw[sE (Ne.symm hj)]at e2;obtain⟨u',r',q⟩:=hl j y v' e1 e2 e3;refine⟨u',r',?_⟩;rcases q with⟨k,e⟩|⟨k,c,e,z⟩
    ·refine .inl ⟨k,?_⟩;have:y≠x:=fun e=>hj (ZF hN e1 (e▸hi));simp[this,e]
    ·exact .inr ⟨k,c,e,z.sameBut hs (cne y c e)⟩
  ·obtain⟨w',z⟩:=I.cell y c e;exact⟨w',z.sameBut hs (cne y c e)⟩
  ·obtain⟨e,n,ne,nf,d⟩:=I.pin p hp;exact⟨(hs.2 p.1 ne).trans e,n,ne,nf,d⟩
 ·have hfn:X.fn x=true:=by
   rcases hf with z|z
   ·exact z
   ·rw[z]at hk;cases hk
  obtain⟨c,hc⟩:=I.ok.has x (.inl hk);obtain⟨w',z⟩:=I.cell x c hc;refine wpAny_storeName_cell I.ok.kind hk hc z (fun h' hc' hs=>?_);obtain⟨oc,hoc,hocd⟩:=id z;refine h { s with heap:=h' } ⟨I.ok,I.os,I.bare,⟨fun b o e n hb hx=>?_,fun b o e n hb hx=>?_,I.base.free,fun b o e hx=>?_,I.base.tups,I.base.frzs,I.base.tbls⟩,⟨m,hn.sameBut hs (Ne.symm (cne x c hc)),fun j y v' e1 e2 e3=>?_⟩,fun y c' e=>?_,I.free,I.freeC,fun p hp=>?_,tracked ⟨oc,hoc,I.freeC x c hc⟩ hs,by simpa using I.len⟩ ⟨c,hs,.inr hc⟩
  ·exact (hs.2 b (sV (sF (jYc e) (I.ok.cab x c hfn hc)))).trans (I.base.keep b o e n hb hx)
  ·obtain⟨sl,e1⟩:=I.base.slot b o e n hb hx;exact⟨sl,(hs.2 b (sV (sF (jYc e) (I.ok.cab x c hfn hc)))).trans e1⟩
  ·obtain⟨o',e1⟩:=I.base.there b o e hx;exact⟨o',(hs.2 b (sV (sF (jYc e) (I.ok.cab x c hfn hc)))).trans e1⟩
  ·by_cases hj:j=i
   ·subst hj;rw[hi]at e1;cases e1;rw[sA hiσ]at e2;cases e2;exact⟨u,r,.inr ⟨.inl hk,c,hc,hc'⟩⟩
   ·rw[sE (Ne.symm hj)]at e2;obtain⟨u',r',q⟩:=hl j y v' e1 e2 e3;refine⟨u',r',?_⟩;rcases q with q|⟨k,c',e,z'⟩
    ·exact .inl q
    ·refine .inr ⟨k,c',e,z'.sameBut hs ?_⟩;rintro rfl;exact hj (ZF hN e1 (I.ok.inj _ _ _ e hc▸hi))
  ·by_cases hcc:c'=c
   ·subst hcc;exact⟨_,hc'⟩
   ·obtain⟨w2,z2⟩:=I.cell y c' e;exact⟨w2,z2.sameBut hs hcc⟩
  ·obtain⟨e,n,ne,nf,d⟩:=I.pin p hp;refine⟨(hs.2 p.1 ?_).trans e,n,ne,nf,d⟩;intro q;rw[q,hoc]at e;have q':oc=p.2:=jYe e;exact d w' (by rw[<-q'];exact hocd)
def jv {M:Model}{A:jNb}{E:Value->jNc->Prop}{i:Nat}{x:Str}{v:V}{u:Value}{Q:Unit->jNc->Prop}(I:Inv X jNf σ H s)(hN:X.N.Nodup)(hi:X.N[i]?=some x)(hx:Loc X.env.scope x)(r:RelV v u)
  (h:∀s',Inv X jNf (σ.set i (some v)) H s'->Q () s') (hf:autoParam (X.fn x=true\/X.env.scope.names.lookup x=some .local) au0._auto_1):jNe M A (storeName X.env x u) Q E s:=
 kq I hN hi hx r (fun s' I' _=>h s' I') hf
def Inv.call' {s':jNc}{ch:List Addr}(I:Inv X jNf σ H s)(ho:s'.os=s.os)(u:Un (frs X.stack) ch H H' s.heap s'.heap)(hok:HOk X.prog X.w H' s'.heap)(hg:AllBare s'.gens)
  (hch:∀b∈ch,(b∈X.ex\/X.s₀.heap.objs.size<=b)/\b≠X.env.locals/\(∀x c,X.env.cells.lookup x=some c->c≠b)/\∀p∈X.pn++jNf,p.1≠b):Inv X jNf σ H' s':=by
 obtain⟨h',g',d',t',o'⟩:=s';have e:o'=s.os:=ho;subst e;exact I.call (g':=g') (t':=t') (d':=d') u hok hg hch
end
abbrev XK:=Value->Option Addr->Hp->Prop
abbrev St:=List (Option V)
abbrev VK:=V->Hp->Prop
abbrev TE:=St->Hp->VK->Prop
abbrev TT:=St->Hp->(Bool->Hp->Prop)->Prop
abbrev TA:=St->Hp->(List V->Hp->Prop)->Prop
structure Ends where
 nx:St->Hp->Prop
 rt:VK
 bk:St->Hp->Prop:=fun _ _=>False
 ct:St->Hp->Prop:=fun _ _=>False
abbrev TS:=Ends->St->Hp->Prop
def EP (X:Cx)(jNf:List (Addr×Obj))(σ:St)(Q:VK)(u:Value)(s':jNc):Prop:=∃v H',Inv X jNf σ H' s'/\RelV v u/\Q v H'
def TP (X:Cx)(jNf:List (Addr×Obj))(σ:St)(Q:Bool->Hp->Prop)(b:Bool)(s':jNc):Prop:=∃H',Inv X jNf σ H' s'/\Q b H'
def AP (X:Cx)(jNf:List (Addr×Obj))(σ:St)(Q:List V->Hp->Prop)(us:List Value)(s':jNc):Prop:=∃vs H',Inv X jNf σ H' s'/\Vals vs us/\Q vs H'
def SP (X:Cx)(jNf:List (Addr×Obj))(D:Ends)(f:Flow)(s':jNc):Prop:=
 match f with
 | .next=>∃σ' H',Inv X jNf σ' H' s'/\D.nx σ' H'
 | .brk=>∃σ' H',Inv X jNf σ' H' s'/\D.bk σ' H'
 | .cont=>∃σ' H',Inv X jNf σ' H' s'/\D.ct σ' H'
 | .ret u=>∃v σ' H',Inv X jNf σ' H' s'/\RelV v u/\D.rt v H'
def PE (X:Cx)(e:Expr)(t:TE):Prop:=
 ∀(jNf:List (Addr×Obj)) (s:jNc) (σ:St) (H:Hp) (Q:VK),Inv X jNf σ H s->t σ H Q->jNe (model X.prog X.w) X.A (eval e X.env) (EP X jNf σ Q) X.xe s
def PT (X:Cx)(e:Expr)(t:TT):Prop:=
 ∀(jNf:List (Addr×Obj)) (s:jNc) (σ:St) (H:Hp) (Q:Bool->Hp->Prop),Inv X jNf σ H s->t σ H Q->jNe (model X.prog X.w) X.A (isTrue e X.env (eval e X.env)) (TP X jNf σ Q) X.xe s
def PW (X:Cx)(e:Expr)(t:TT):Prop:=
 ∀(whole:Sem Value) (jNf:List (Addr×Obj)) (s:jNc) (σ:St) (H:Hp) (Q:Bool->Hp->Prop),Inv X jNf σ H s->t σ H Q->jNe (model X.prog X.w) X.A (isTrue e X.env whole) (TP X jNf σ Q) X.xe s
theorem PW.pt {X:Cx}{e:Expr}{t:TT}(h:PW X e t):PT X e t:=h _
def PA (X:Cx)(es:List Expr)(t:TA):Prop:=
 ∀(pos:Pos) (jNf:List (Addr×Obj)) (s:jNc) (σ:St) (H:Hp) (Q:List V->Hp->Prop),Inv X jNf σ H s->t σ H Q->jNe (model X.prog X.w) X.A (spliced (jNd pos (jMj es X.env))) (AP X jNf σ Q) X.xe s
def PS (X:Cx)(st:Stmt)(t:TS):Prop:=
 ∀(jNf:List (Addr×Obj)) (s:jNc) (σ:St) (H:Hp) (D:Ends),Inv X jNf σ H s->t D σ H->jNe (model X.prog X.w) X.A (exec st X.env) (SP X jNf D) X.xe s
def PSs (X:Cx)(st:List Stmt)(t:TS):Prop:=
 ∀(jNf:List (Addr×Obj)) (s:jNc) (σ:St) (H:Hp) (D:Ends),Inv X jNf σ H s->t D σ H->jNe (model X.prog X.w) X.A (execs st X.env) (SP X jNf D) X.xe s
def thn {α:Type}{t:Sem α}{Q Q':α->jNc->Prop}{M:Model}{A:jNb}{E:Value->jNc->Prop}{s:jNc}(h:jNe M A t Q E s)(hQ:∀a s,Q a s->Q' a s):jNe M A t Q' E s:=jMc h hQ fun _ _ x=>x
section
variable {X:Cx}
def jz (i:Nat):TE:=fun σ H Q=>∃v,σ[i]?=some (some v)/\Q v H
def tC (v:V):TE:=fun _ H Q=>Q v H
def vN {i:Nat}{x:Str}{pos:Pos}(hN:X.N[i]?=some x)(hv:Vis X.env.scope x)(hd:autoParam (nDb x) au1._auto_1)(hcd:autoParam ((x==("__classdict__":Str))=false) au1._auto_1):PE X (.Name x pos) (jz i):=by
 intro jNf s σ H Q I h;obtain⟨v,e,h⟩:=h;obtain⟨m,hn,hl⟩:=I.loc;obtain⟨u,r,l⟩:=hl i x v hN e hv;have fin:EP X jNf σ Q u s:=⟨v,H,I,r,h⟩
 rcases l with⟨hk,hm⟩|⟨hk,c,hc,hcell⟩
 ·exact wpAny_Name (wpAny_loadName_local I.ok.kind hk hn hm fin) hd
 ·rcases hk with hk|hk
  ·exact wpAny_Name (wpAny_loadName_cell I.ok.kind hk hc hcell fin) hd
  ·exact wpAny_Name (wpAny_loadName_free I.ok.kind hk hc hcell fin hcd) hd
def ue {i j pos}:PE X (.Constant (.int i) j pos) (tC (.int i)):=fun _ _ _ H _ I h=>wpAny_Constant_int ⟨.int i,H,I.tok _,⟨_,rfl⟩,h⟩
def z6r {b j pos}:PE X (.Constant (.bool b) j pos) (tC (.bl b)):=fun _ _ _ H _ I h=>Constant_bool ⟨.bl b,H,I,rfl,h⟩
def Wh {j pos}:PE X (.Constant .none j pos) (tC .non):=fun _ _ _ H _ I h=>Constant_none ⟨.non,H,I,rfl,h⟩
def z04 {x j pos}:PE X (.Constant (.str x) j pos) (tC (.str x)):=fun _ _ _ H _ I h=>Calls.Constant_str ⟨.str x,H,I.tok _,⟨_,rfl⟩,h⟩
def Gl (X:Cx)(x:Str):Prop:=X.env.kindOf x=some .globalImplicit
def uv {E:Value->jNc->Prop}{jNf:List (Addr×Obj)}{s:jNc}{σ:St}{H:Hp}{x:Str}{u:Value}{pos:Pos}{Q:Value->jNc->Prop}(I:Inv X jNf σ H s)(hg:Gl X x)(hm:X.mg x=some u)(h:Q u s)
  (hd:autoParam (nDb x) au1._auto_1):jNe (model X.prog X.w) X.A (eval (.Name x pos) X.env) Q E s:=
 Calls.Name_function_global I.ok.kind hg (Calls.loadGlobal_global (by rw[I.ok.glob];exact I.mod.glob.keeps I.bk) hm h) hd
def Yh {E:Value->jNc->Prop}{jNf:List (Addr×Obj)}{s:jNc}{σ:St}{H:Hp}{x:Str}{u:Value}{pos:Pos}{Q:Value->jNc->Prop}(I:Inv X jNf σ H s)(hg:Gl X x)(hm:X.mg x=none)(hv:jKg x=some u)(h:Q u s)
  (hn:autoParam (x≠"__name__") au1._auto_1) (hd:autoParam (nDb x) au1._auto_1):jNe (model X.prog X.w) X.A (eval (.Name x pos) X.env) Q E s:=by
 obtain⟨mb,h1,h2⟩:=I.mod.blt;exact Calls.Name_function_global I.ok.kind hg (Calls.loadGlobal_builtin (by rw[I.ok.glob];exact I.mod.glob.keeps I.bk) hm (by rw[I.ok.blt];exact h1.keeps I.bk) ((h2 x hn).trans hv) h) hd
def xt {x:Str}{v:V}{u:Value}{pos:Pos}(hg:Gl X x)(hm:X.mg x=some u)(r:RelV v u)(hd:autoParam (nDb x) au1._auto_1):PE X (.Name x pos) (tC v):=
 fun _ _ _ H _ I h=>uv I hg hm ⟨v,H,I,r,h⟩ hd
def yR {x:Str}{v:V}{u:Value}{pos:Pos}(hg:Gl X x)(hm:X.mg x=none)(hv:jKg x=some u)(r:RelV v u)(hn:autoParam (x≠"__name__") au1._auto_1)(hd:autoParam (nDb x) au1._auto_1):PE X (.Name x pos) (tC v):=
 fun _ _ _ H _ I h=>Yh I hg hm hv ⟨v,H,I,r,h⟩ hn hd
variable {a b:Expr}{ta tb:TE}{pos:Pos}
def tB (t:TE):TT:=fun σ H Q=>t σ H fun x H1=>∃c,x=.bl c/\Q c H1
def qZ {e:Expr}{t:TE}(h:PE X e t)(he:autoParam (∀whole,isTrue e X.env whole=(do let v <-whole;standAt e.pos;holding [v] (truthy v))) au2._auto_1):PT X e (tB t):=by
 intro jNf s σ H Q I hw;refine isTrue_plain (thn (h jNf s σ H _ I hw) fun v s1 ⟨x,H1,I1,r1,q1⟩=>?_) (he _);obtain⟨d,rfl,q⟩:=q1;cases r1;exact jYi ⟨H1,I1,q⟩
variable {tA tB':TT}{rest:List Expr}
def z6b (t u:TT):TT:=fun σ H Q=>t σ H fun c H1=>if c=true then u σ H1 Q else Q false H1
def tOr (t u:TT):TT:=fun σ H Q=>t σ H fun c H1=>if c=true then Q true H1 else u σ H1 Q
def z67 (t:TT):TT:=fun σ H Q=>t σ H fun c H1=>Q (!c) H1
def z30 (ha:PT X a tA):PW X (.BoolOp .And [a] pos) tA:=by
 intro wh jNf s σ H Q I h;refine isTrue_and (thn (ha jNf s σ H Q I h) fun c s1 e=>?_);cases c with
 | true=>exact isTrue_and_nil e
 | false=>exact e
def Ul (ha:PT X a tA):PW X (.BoolOp .Or [a] pos) tA:=by
 intro wh jNf s σ H Q I h;refine isTrue_or (thn (ha jNf s σ H Q I h) fun c s1 e=>?_);cases c with
 | false=>exact isTrue_or_nil e
 | true=>exact e
def z5f (ha:PT X a tA)(hb:PW X (.BoolOp .And (b::rest) pos) tB'):PW X (.BoolOp .And (a::b::rest) pos) (z6b tA tB'):=by
 intro wh jNf s σ H Q I h;refine isTrue_and (thn (ha jNf s σ H _ I h) fun c s1 ⟨H1,I1,q1⟩=>?_);cases c with
 | true=>exact hb wh jNf s1 σ H1 Q I1 q1
 | false=>exact⟨H1,I1,q1⟩
def Qm (ha:PT X a tA)(hb:PW X (.BoolOp .Or (b::rest) pos) tB'):PW X (.BoolOp .Or (a::b::rest) pos) (tOr tA tB'):=by
 intro wh jNf s σ H Q I h;refine isTrue_or (thn (ha jNf s σ H _ I h) fun c s1 ⟨H1,I1,q1⟩=>?_);cases c with
 | true=>exact⟨H1,I1,q1⟩
 | false=>exact hb wh jNf s1 σ H1 Q I1 q1
def XZ (ha:PT X a tA):PT X (.UnaryOp .Not a pos) (z67 tA):=by
 intro jNf s σ H Q I h;exact isTrue_not (ha jNf s σ H (fun c H1=>Q (!c) H1) I h)
def z3Q (ta tb:TE):TE:=fun σ H Q=>ta σ H fun x H1=>∃c,x=.bl c/\if c=true then tb σ H1 Q else Q (.bl false) H1
def z4Y {op}{t:TE}(h:PE X a t):PE X (.BoolOp op [a] pos) t:=fun jNf s σ H Q I hw=>BoolOp_one (h jNf s σ H Q I hw)
def z5S (ha:PE X a ta)(hb:PE X (.BoolOp .And (b::rest) pos) tb):PE X (.BoolOp .And (a::b::rest) pos) (z3Q ta tb):=by
 intro jNf s σ H Q I h;refine BoolOp_and (thn (ha jNf s σ H _ I h) fun v s1 ⟨x,H1,I1,r1,q1⟩=>?_);obtain⟨c,rfl,q1⟩:=q1;cases r1;refine jYi ?_;cases c with
 | true=>exact hb jNf s1 σ H1 Q I1 q1
 | false=>exact⟨.bl false,H1,I1,rfl,q1⟩
end
def SqL (K:jJa)(H:Hp)(a:Addr)(xs:List V):Prop:=
 Rd H a (.lst xs) \/
  ∃(o:Obj) (its:Array Value) (n:Nat),K.lookup a=some o/\o.cls=.type "list"/\o.dict=none/\o.data=.seq its n/\its.size<=jMi/\Vals xs its.toList
def SqT (K:jJa)(H:Hp)(a:Addr)(xs:List V):Prop:=
 Rd H a (.tup xs) \/
  ∃(o:Obj) (its:Array Value) (n:Nat),K.lookup a=some o/\o.cls=.type "tuple"/\(o.dict=none/\o.slots=#[])/\o.data=.seq its n/\its.size<=jMi/\Vals xs its.toList
def z8x:Value->Option V
 | .none=>some .non
 | .bool b=>some (.bl b)
 | .int i _=>some (.int i)
 | .str x _=>some (.str x)
 | .bytes b _=>some (.byt b)
 | .float b _=>some (.flt b)
 | .ref a=>some (.ref a)
 | .type n=>some (.ty n)
 | _=>none
theorem RelV.abs {x:V}{u:Value}(r:RelV x u):z8x u=some x:=by
 cases x with
 | non=>cases r;rfl
 | bl _=>cases r;rfl
 | int _=>obtain⟨t,rfl⟩:=r;rfl
 | str _=>obtain⟨t,rfl⟩:=r;rfl
 | byt _=>obtain⟨t,rfl⟩:=r;rfl
 | flt _=>obtain⟨t,rfl⟩:=r;rfl
 | ref _=>cases r;rfl
 | ty _=>cases r;rfl
theorem RelV.inj {x y:V}{u:Value}(r:RelV x u)(q:RelV y u):x=y:=jYe (r.abs.symm.trans q.abs)
theorem Vals.inj:∀ {xs ys:List V} {us:List Value},Vals xs us->Vals ys us->xs=ys
 | _,_,_,.nil,.nil=>rfl
 | _,_,_,.cons r t,.cons r' t'=>by rw[r.inj r',Vals.inj t t']
section
variable {X:Cx}{jNf:List (Addr×Obj)}{σ:St}{H:Hp}{s:jNc}{a:Addr}{xs ys:List V}
theorem SqL.of {K:jJa}(h:H a=some (.lst xs)):SqL K H a xs:=.inl (.inl h)
theorem SqT.of {K:jJa}(h:H a=some (.tup xs)):SqT K H a xs:=.inl (.inl h)
theorem Inv.list (I:Inv X jNf σ H s)(h:SqL X.K H a xs):∃its:List Value,Vals xs its/\PlainL s.heap a its.toArray/\xs.length<=sizeLine:=by
 rcases h with h|⟨o,its,n,hk,hc,hd,hs,hz,r⟩
 ·obtain⟨z,its,n,r,e⟩:=h.ok I.hok;exact⟨its,r,⟨_,n,e,rfl,rfl,rfl⟩,z⟩
 ·refine⟨its.toList,r,⟨o,n,I.kIn a o hk,hc,hd,by simpa using hs⟩,?_⟩;have e:=r.length;simp only[Array.length_toList]at e;omega
def Inv.tuple (I:Inv X jNf σ H s)(h:SqT X.K H a xs):∃its:List Value,Vals xs its/\IsTup s.heap a its.toArray/\xs.length<=sizeLine:=by
 rcases h with h|⟨o,its,n,hk,hc,_,hs,hz,r⟩
 ·obtain⟨z,its,r,p⟩:=h.ok I.hok;exact⟨its,r,p.tup,z⟩
 ·refine⟨its.toList,r,⟨o,I.kIn a o hk,hc,n,by simpa using hs⟩,?_⟩;have e:=r.length;simp only[Array.length_toList]at e;omega
def Inv.list_inj (I:Inv X jNf σ H s)(h:SqL X.K H a xs)(h':SqL X.K H a ys):xs=ys:=by
 obtain⟨its,r,⟨o,n,e,_,_,d⟩,_⟩:=I.list h;obtain⟨its',r',⟨o',n',e',_,_,d'⟩,_⟩:=I.list h';rw[e]at e';cases e';rw[d]at d';injection d' with d1 _;have:its=its':=by simpa using congrArg Array.toList d1
 subst this;exact r.inj r'
def Inv.tuple_inj (I:Inv X jNf σ H s)(h:SqT X.K H a xs)(h':SqT X.K H a ys):xs=ys:=by
 obtain⟨its,r,⟨o,e,_,n,d⟩,_⟩:=I.tuple h;obtain⟨its',r',⟨o',e',_,n',d'⟩,_⟩:=I.tuple h';rw[e]at e';cases e';rw[d]at d';injection d' with d1 _;have:its=its':=by simpa using congrArg Array.toList d1
 subst this;exact r.inj r'
end
abbrev Cx.wish (X:Cx)(E:Value->jNc->Prop):Cx:={ X with xe:=E }
abbrev Cx.nox (X:Cx):Cx:=X.wish fun _ _=>False
theorem Cx.Ok.wish {X:Cx}(ok:X.Ok)(E:Value->jNc->Prop):(X.wish E).Ok:=
 ⟨ok.mod,ok.kind,ok.glob,ok.blt,ok.above,ok.inj,ok.has,ok.cab,ok.hd,ok.frames,ok.stk,ok.exf,ok.bs,ok.bsz,ok.noex,ok.exfs,ok.funs,ok.frf⟩
theorem Cx.Ok.unwish {X:Cx}{E:Value->jNc->Prop}(ok:(X.wish E).Ok):X.Ok:=
 ⟨ok.mod,ok.kind,ok.glob,ok.blt,ok.above,ok.inj,ok.has,ok.cab,ok.hd,ok.frames,ok.stk,ok.exf,ok.bs,ok.bsz,ok.noex,ok.exfs,ok.funs,ok.frf⟩
section
variable {X:Cx}{jNf:List (Addr×Obj)}{σ:St}{H:Hp}{s:jNc}{E:Value->jNc->Prop}
theorem Inv.wish (I:Inv X jNf σ H s)(E:Value->jNc->Prop):Inv (X.wish E) jNf σ H s:=⟨I.ok.wish E,I.os,I.bare,I.base,I.loc,I.cell,I.free,I.freeC,I.pin,I.hok,I.len⟩
theorem Inv.unwish (I:Inv (X.wish E) jNf σ H s):Inv X jNf σ H s:=⟨I.ok.unwish,I.os,I.bare,I.base,I.loc,I.cell,I.free,I.freeC,I.pin,I.hok,I.len⟩
theorem SP.unwish {D:Ends}{f:Flow}{s':jNc}(h:SP (X.wish E) jNf D f s'):SP X jNf D f s':=by
 cases f with
 | next=>obtain⟨σ',H',I,q⟩:=h;exact⟨σ',H',I.unwish,q⟩
 | brk=>obtain⟨σ',H',I,q⟩:=h;exact⟨σ',H',I.unwish,q⟩
 | cont=>obtain⟨σ',H',I,q⟩:=h;exact⟨σ',H',I.unwish,q⟩
 | ret u=>obtain⟨v,σ',H',I,r,q⟩:=h;exact⟨v,σ',H',I.unwish,r,q⟩
theorem PE.nox {e:Expr}{t:TE}(h:PE X.nox e t):PE X e t:=fun jNf s σ H Q I hw =>
 jMc (h jNf s σ H Q (I.wish _) hw) (fun _ _ ⟨v,H',I',r,q⟩=>⟨v,H',I'.unwish,r,q⟩) fun _ _ z=>False.elim z
theorem PT.nox {e:Expr}{t:TT}(h:PT X.nox e t):PT X e t:=fun jNf s σ H Q I hw =>
 jMc (h jNf s σ H Q (I.wish _) hw) (fun _ _ ⟨H',I',q⟩=>⟨H',I'.unwish,q⟩) fun _ _ z=>False.elim z
theorem PSs.nox {st:List Stmt}{t:TS}(h:PSs X.nox st t):PSs X st t:=fun jNf s σ H D I hw =>
 jMc (h jNf s σ H D (I.wish _) hw) (fun _ _ q=>q.unwish) fun _ _ z=>False.elim z
end
section
variable {X:Cx}{st:Stmt}{rest:List Stmt}{t u:TS}{e:Expr}{te:TE}{pos:Pos}
def KJ:TS:=fun D σ H=>D.nx σ H
def Q7 (t u:TS):TS:=fun D σ H=>t { D with nx:=u D } σ H
def jc:PSs X [] KJ:=fun _ _ σ H _ I h=>jKa ⟨σ,H,I,h⟩
def ua (h1:PS X st t)(h2:PSs X rest u):PSs X (st::rest) (Q7 t u):=by
 intro jNf s σ H D I h;refine jYk (thn (h1 jNf s σ H { D with nx:=u D } I h) fun f s1 q=>?_);cases f with
 | next =>
  obtain⟨σ',H',I',q⟩:=q;exact h2 jNf s1 σ' H' D I' q
 | ret v=>exact q
 | brk=>exact q
 | cont=>exact q
def uw (h1:PS X st t):PSs X [st] t:=by
 intro jNf s σ H D I h;refine jYk (thn (h1 jNf s σ H D I h) fun f s1 q=>?_);cases f with
 | next=>exact jKa q
 | ret v=>exact q
 | brk=>exact q
 | cont=>exact q
def Inv.quiet {jNf:List (Addr×Obj)}{σ:St}{H:Hp}{s:jNc}(I:Inv X jNf σ H s):interactive X.env=false:=by simp[interactive,I.ok.kind]
def z3F (te:TE):TS:=fun D σ H=>te σ H fun _ H1=>D.nx σ H1
def Zs (he:PE X e te)(hs:autoParam (jMf e none pos.line X.env=pure false) au3._auto_1):PS X (.Expr e pos) (z3F te):=by
 intro jNf s σ H D I h;exact wpAny_Expr_any (thn (he jNf s σ H _ I h) fun v s1 ⟨x,H1,I1,r1,q1⟩=>⟨σ,H1,I1,q1⟩) I.quiet hs
def z34 (te:TE):TS:=fun D σ H=>te σ H D.rt
def jb (he:PE X e te):PS X (.Return (some e) pos) (z34 te):=by
 intro jNf s σ H D I h;exact wpAny_Return_some (thn (he jNf s σ H _ I h) fun v s1 ⟨x,H1,I1,r1,q1⟩=>⟨x,σ,H1,I1,r1,q1⟩)
def z5C (c:TT)(t u:TS):TS:=fun D σ H=>c σ H fun b H1=>if b=true then t D σ H1 else u D σ H1
def U0 {c:Expr}{a b:List Stmt}{tc:TT}(hc:PT X c tc)(ha:PSs X a t)(hb:PSs X b u):PS X (.If c a b pos) (z5C tc t u):=by
 intro jNf s σ H D I h;refine wpAny_If (thn (hc jNf s σ H _ I h) fun d s1 ⟨H1,I1,q1⟩=>?_);cases d with
 | true=>exact ha jNf s1 σ H1 D I1 q1
 | false=>exact hb jNf s1 σ H1 D I1 q1
def z0o:TS:=fun _ _ _=>False
def Kp:PS X st z0o:=fun _ _ _ _ _ _ h=>h.elim
end
abbrev TG:=V->St->Hp->(St->Hp->Prop)->Prop
abbrev TGs:=List V->St->Hp->(St->Hp->Prop)->Prop
def PG (X:Cx)(target:Expr)(t:TG):Prop:=
 ∀(jNf:List (Addr×Obj)) (s:jNc) (σ:St) (H:Hp) (v:V) (u:Value) (Q:St->Hp->Prop),Inv X jNf σ H s->RelV v u->t v σ H Q ->
  jNe (model X.prog X.w) X.A (assign target X.env u) (fun _ s'=>∃σ' H',Inv X jNf σ' H' s'/\Q σ' H') X.xe s
def PGs (X:Cx)(ts:List Expr)(t:TGs):Prop:=
 ∀(jNf:List (Addr×Obj)) (s:jNc) (σ:St) (H:Hp) (vs:List V) (us:List Value) (Q:St->Hp->Prop),Inv X jNf σ H s->Vals vs us->t vs σ H Q ->
  jNe (model X.prog X.w) X.A (assignInOrder ((jMa ts X.env).map (·.2)) us) (fun _ s'=>∃σ' H',Inv X jNf σ' H' s'/\Q σ' H') X.xe s
abbrev z4r:=V->V->V->Hp->(Hp->Prop)->Prop
def z7d (X:Cx)(t:z4r):Prop:=
 ∀(jNf:List (Addr×Obj)) (s:jNc) (σ:St) (H:Hp) (o i v:V) (ov iv u:Value) (Q:Hp->Prop),Inv X jNf σ H s->RelV o ov->RelV i iv->RelV v u->t o i v H Q ->
  jNe (model X.prog X.w) X.A (setItem ov iv u) (fun _ s'=>∃H',Inv X jNf σ H' s'/\Q H') X.xe s
abbrev TIp:=V->V->Hp->VK->Prop
def PIp (X:Cx)(op:Operator)(t:TIp):Prop:=
 ∀(jNf:List (Addr×Obj)) (s:jNc) (σ:St) (H:Hp) (x y:V) (v u:Value) (Q:VK),Inv X jNf σ H s->RelV x v->RelV y u->t x y H Q ->
  jNe (model X.prog X.w) X.A (inplaceOp op v u) (EP X jNf σ Q) X.xe s
section
variable {X:Cx}{pos:Pos}
def Za (i:Nat):TG:=fun v σ H Q=>Q (σ.set i (some v)) H
def z28 {i:Nat}{x:Str}(hN:X.N.Nodup)(hi:X.N[i]?=some x)(hx:Loc X.env.scope x)(hf:autoParam (X.fn x=true\/X.env.scope.names.lookup x=some .local) au0._auto_1):PG X (.Name x pos) (Za i):=by
 intro jNf s σ H v u Q I r h;exact wpAny_assign_Name (jv I hN hi hx r (fun s' I'=>⟨_,H,I',h⟩) hf)
def z7z:TGs:=fun vs σ H Q=>vs=[]/\Q σ H
def z6L (t:TG)(u:TGs):TGs:=fun vs σ H Q=>∃v r,vs=v::r/\t v σ H fun σ' H'=>u r σ' H' Q
def z1R:PGs X [] z7z:=by
 intro jNf s σ H vs us Q I r h;obtain⟨e,h⟩:=h;subst e;cases r;exact assignInOrder_nil ⟨σ,H,I,h⟩
def z0k {e:Expr}{es:List Expr}{t:TG}{u:TGs}(h1:PG X e t)(h2:PGs X es u)
  (hs:autoParam ((jMa (e::es) X.env).map (·.2)=assign e X.env::(jMa es X.env).map (·.2)) au3._auto_1):PGs X (e::es) (z6L t u):=by
 intro jNf s σ H vs us Q I r h;obtain⟨v,vr,e1,h⟩:=h;subst e1;cases r with
 | cons r rr =>
  rw[hs];refine assignInOrder_cons (thn (h1 jNf s σ H _ _ _ I r h) fun _ s1 ⟨σ1,H1,I1,q1⟩=>?_);exact h2 jNf s1 σ1 H1 _ _ Q I1 rr q1
def z71 (K:jJa)(n:Nat)(t:TGs):TG:=fun v σ H Q=>∃a xs,v=.ref a/\SqT K H a xs/\xs.length=n/\t xs σ H Q
def z5h {es:List Expr}{k:Nat}{t:TGs}{n:Nat}(hc:X.calm=true)(h:PGs X es t)
  (hn:autoParam ((jMa es X.env).length=n) au3._auto_1) (hst:autoParam ((jMa es X.env).findIdx? (·.1)=none) au3._auto_1):PG X (.Tuple es k pos) (z71 X.K n t):=by
 intro jNf s σ H v u Q I r hw;obtain⟨a,xs,e1,hq,hl,hw⟩:=hw;subst e1;cases r;obtain⟨its,rv,ht,hz⟩:=I.tuple hq;refine assign_Tuple_tuple (I.ok.hd hc) ht (by simp[hn,<-hl,rv.length]) hst fun h' hx=>?_;have I1:Inv X jNf σ H { s with heap:=h' }:=I.kept (t':=s.toks) fun b o e=>hx b o (sV (jYc e)) e;exact h jNf _ σ H xs _ Q I1 (by simpa using rv) hw
def z8l (to ti:TE)(t:z4r):TG:=fun v σ H Q=>to σ H fun o H1=>ti σ H1 fun i H2=>t o i v H2 fun H3=>Q σ H3
def z03 {o i:Expr}{to ti:TE}{t:z4r}(ho:PE X o to)(hi:PE X i ti)(hs:z7d X t)
  (ha:autoParam (∀v,assign (.Subscript o i pos) X.env v=(do
   let ov <-holding [v] (eval o X.env)
   let iv <-holding [v,ov] (eval i X.env)
   standAt pos
   holding [v,ov,iv] (setItem ov iv v)
   release [v,ov,iv] [])) au2._auto_1):PG X (.Subscript o i pos) (z8l to ti t):=by
 intro jNf s σ H v u Q I r h;rw[ha];refine jMb (jKe (thn (ho jNf s σ H _ I h) fun ov s1 ⟨x,H1,I1,r1,q1⟩=>?_));refine jMb (jKe (thn (hi jNf s1 σ H1 _ I1 q1) fun iv s2 ⟨y,H2,I2,r2,q2⟩=>?_));refine jMb (jKf (jMb (jKe (thn (hs jNf s2 σ H2 x y v ov iv u _ I2 r1 r2 r q2) fun _ s3 ⟨H3,I3,q3⟩=>?_))));exact wpAny_release ⟨σ,H3,I3,q3⟩
def z5R (te:TE)(g:TG):TS:=fun D σ H=>te σ H fun x H1=>g x σ H1 D.nx
def z0B {tg e:Expr}{te:TE}{g:TG}(he:PE X e te)(hg:PG X tg g)(hs:autoParam (swapsWithSole [tg] e pos.line X.env=pure false) au3._auto_1)(hw:autoParam (swappedStores [tg] e X.env=pure none) au3._auto_1)
  (h1:autoParam ((jMa [tg] X.env).map (·.2)=[assign tg X.env]) au3._auto_1):PS X (.Assign [tg] e pos) (z5R te g):=by
 intro jNf s σ H D I h;refine wpAny_Assign_stores (thn (he jNf s σ H _ I h) fun v s1 ⟨x,H1,I1,r1,q1⟩=>?_) hs hw;rw[h1];exact thn (hg jNf s1 σ H1 x v _ I1 r1 q1) fun _ s2 q=>q
def z0O {i:Nat}{x:Str}{e:Expr}{te:TE}{pos':Pos}(hN:X.N.Nodup)(hi:X.N[i]?=some x)(hx:Loc X.env.scope x)(he:PE X e te)(hs:autoParam (jMf e (some (.Name x pos')) pos.line X.env=pure false) au3._auto_1)(hf:autoParam (X.fn x=true\/X.env.scope.names.lookup x=some .local) au0._auto_1):
  PS X (.Assign [.Name x pos'] e pos) (z5R te (Za i)):=by
 intro jNf s σ H D I h;refine wpAny_Assign_Name (thn (he jNf s σ H _ I h) fun v s1 ⟨y,H1,I1,r1,q1⟩=>?_) hs;exact jv I1 hN hi hx r1 (fun s2 I2=>⟨_,H1,I2,q1⟩) hf
def z8A (i:Nat)(te:TE)(ti:TIp):TS:=fun D σ H=>∃x,σ[i]?=some (some x)/\te σ H fun y H1=>ti x y H1 fun z H2=>D.nx (σ.set i (some z)) H2
def z4e {i:Nat}{x:Str}{e:Expr}{te:TE}{op:Operator}{ti:TIp}{pos':Pos}(hN:X.N.Nodup)(hi:X.N[i]?=some x)(hx:Loc X.env.scope x)(he:PE X e te)(ho:PIp X op ti)(hf:autoParam (X.fn x=true\/X.env.scope.names.lookup x=some .local) au0._auto_1):
  PS X (.AugAssign (.Name x pos') op e pos) (z8A i te ti):=by
 intro jNf s σ H D I h;obtain⟨v,e1,h⟩:=h;obtain⟨m,hn,hl⟩:=I.loc;have vis:Vis X.env.scope x:=by rcases hx with k|k;exact .inl k;exact .inr (.inl k)
 obtain⟨u,r,l⟩:=hl i x v hi e1 vis;refine wpAny_AugAssign_Name ?_;have go:jNe (model X.prog X.w) X.A (eval e X.env) (fun w s₂=>jNe (model X.prog X.w) X.A (inplaceOp op u w) (fun r s₃=>jNe (model X.prog X.w) X.A (storeName X.env x r) (fun _=>SP X jNf D .next) X.xe s₃) X.xe s₂) X.xe s:=by
  refine thn (he jNf s σ H _ I h) fun w s1 ⟨y,H1,I1,r1,q1⟩=>?_;refine thn (ho jNf s1 σ H1 v y u w _ I1 r r1 q1) fun z s2 ⟨zv,H2,I2,r2,q2⟩=>?_;exact jv I2 hN hi hx r2 (fun s3 I3=>⟨_,H2,I3,q2⟩) hf
 rcases l with⟨hk,hm⟩|⟨hk,c,hc,hcell⟩
 ·exact wpAny_loadName_local I.ok.kind hk hn hm go
 ·rcases hk with hk|hk
  ·exact wpAny_loadName_cell I.ok.kind hk hc hcell go
  ·rcases hx with k|k
   ·have:X.env.scope.names.lookup x=some .free:=hk;rw[k]at this;cases this
   ·have:X.env.scope.names.lookup x=some .free:=hk;rw[k]at this;cases this
def ipI (f:Int->Int->Int):TIp:=fun x y H Q=>∃i j,x=.int i/\y=.int j/\Q (.int (f i j)) H
def z5G:PIp X .Add (ipI fun i j=>i+j):=by
 intro jNf s σ H x y v u Q I r1 r2 h;obtain⟨i,j,e1,e2,q⟩:=h;subst e1;subst e2;obtain⟨t,rfl⟩:=r1;obtain⟨t',rfl⟩:=r2;exact iadd_int ⟨.int _,H,I.tok _,⟨_,rfl⟩,q⟩
end
section
variable {X:Cx}{pos:Pos}
def z5B (c:TT)(tb:TS):TS:=fun D σ H=>∃W:Nat->St->Hp->Prop,(∃m,W m σ H)/\∀m σ H,W m σ H ->
 c σ H fun b H1=>if b=true then ∃N:St->Hp->Prop,(∀σ' H',N σ' H'->∃m',m'<m/\W m' σ' H')/\tb { D with nx:=N,ct:=N,bk:=D.nx } σ H1 else D.nx σ H1
def KZ {c:Expr}{body:List Stmt}{tc:TT}{tb:TS}(hp:jMg (model X.prog X.w) X.A X.env X.xe)(hc:PT X c tc)(hb:PSs X body tb):PS X (.While c body [] pos) (z5B tc tb):=by
 intro jNf s σ H D I h;obtain⟨W,⟨m0,w0⟩,turn⟩:=h;refine wpAny_While (codeAny_whileLoop (fun n s'=>∃σ' H',Inv X jNf σ' H' s'/\W n σ' H') ?_ m0 ⟨σ,H,I,w0⟩);rintro n s1 ⟨σ1,H1,I1,w1⟩;refine jKc hp (thn (hc jNf s1 σ1 H1 _ I1 (turn n σ1 H1 w1)) fun b s2 ⟨H2,I2,q2⟩=>?_);cases b with
 | true =>
  obtain⟨N,hN,q2⟩:=q2;rw[jNg rfl];refine jKc hp (thn (hb jNf s2 σ1 H2 _ I2 q2) fun f s3 q3=>?_);cases f with
  | next =>
   obtain⟨σ3,H3,I3,n3⟩:=q3;obtain⟨m',hm,w3⟩:=hN σ3 H3 n3;exact⟨m',hm,σ3,H3,I3,w3⟩
  | cont =>
   obtain⟨σ3,H3,I3,n3⟩:=q3;obtain⟨m',hm,w3⟩:=hN σ3 H3 n3;exact⟨m',hm,σ3,H3,I3,w3⟩
  | brk=>exact q3
  | ret v=>exact q3
 | false =>
  rw[jNh tO];exact jKa ⟨σ1,H2,I2,q2⟩
end
structure It where
 go:Nat->Hp->Prop
 yld:Nat->Hp->V->Hp->Prop
 stop:Nat->Hp->Prop
def Zj (X:Cx)(jNf:List (Addr×Obj))(H:Hp)(b:Addr):Prop:=
 H b=none/\b≠X.env.locals/\b∉X.fs/\(b∈X.ex\/X.s₀.heap.objs.size<=b)/\(∀x c,X.env.cells.lookup x=some c->c≠b)/\∀p∈X.pn++jNf,p.1≠b
theorem Inv.fpOk {X:Cx}{jNf:List (Addr×Obj)}{σ:St}{H H':Hp}{s:jNc}{b:Addr}(I:Inv X jNf σ H s)(hb:s.heap.objs.size<=b)(hn:H' b=none):Zj X jNf H' b:=by
 refine⟨hn,Nat.ne_of_gt (sF I.lt hb),I.nofs hb,.inr (rH I.sz hb),fun x c e z=>?_,fun p hp z=>?_⟩
 ·obtain⟨v,q⟩:=I.cell x c e;exact absurd (sF q.lt (by rw[z];exact hb)) (pI _)
 ·exact absurd (sF (jYc (I.pin p hp).1) (by rw[z];exact hb)) (pI _)
structure Turn (P:jNa)(w:World)(K:jJa)(tg:Expr)(J:It)(fp:List Addr)(it:Addr)(tn:Nat->Heap->Prop):Prop where
 mem:it∈fp
 obj:∀i h,tn i h->∀b∈fp,∃o,h.get? b=some o/\∀v,o.data≠.cell v
 keep:∀i h h',tn i h->(∀b∈fp,∀o,h.get? b=some o->h'.get? b=some o)->tn i h'
 item:∀(X:Cx),X.prog=P->X.w=w->X.K=K->X.calm=true->∀(i:Nat) (jNf:List (Addr×Obj)) (s:jNc) (σ:St) (H:Hp) (E:Value->jNc->Prop),Inv X jNf σ H s->(∀b∈fp,Zj X jNf H b)->tn i s.heap->J.go i H ->
  jNe (model P w) X.A (pyNext (.ref it)) (fun r s1=>∃u,r=some u /\
   jNe (model P w) X.A (letOwnedTupleGo tg (.ref it) u) (fun _ s2=>∃x H',Inv X jNf σ H' s2/\RelV x u/\J.yld i H x H'/\tn (i+1) s2.heap/\∀b∈fp,H' b=none) E s1) E s
 done:∀(X:Cx),X.prog=P->X.w=w->X.K=K->X.calm=true->∀(i:Nat) (jNf:List (Addr×Obj)) (s:jNc) (σ:St) (H:Hp) (E:Value->jNc->Prop),Inv X jNf σ H s->(∀b∈fp,Zj X jNf H b)->tn i s.heap->J.stop i H ->
  jNe (model P w) X.A (pyNext (.ref it)) (fun r s1=>r=none/\Inv X jNf σ H s1) E s
 self:∀(A:jNb) (i:Nat) (s:jNc) (Q:Value->jNc->Prop) (E:Value->jNc->Prop),tn i s.heap->Q (.ref it) s->jNe (model P w) A (pyIter (.ref it)) Q E s
abbrev TI:=St->Hp->(It->Hp->Prop)->Prop
def PIE (X:Cx)(jNf:List (Addr×Obj))(σ:St)(tg:Expr)(R:It->Hp->Prop)(itv:Value)(s2:jNc):Prop:=
 ∃(it:Addr) (fp:List Addr) (tn:Nat->Heap->Prop) (J:It) (H':Hp),itv=.ref it/\Inv X jNf σ H' s2/\Turn X.prog X.w X.K tg J fp it tn/\tn 0 s2.heap/\(∀b∈fp,Zj X jNf H' b)/\R J H'
def PI (X:Cx)(tg iter:Expr)(wi:TI):Prop:=
 ∀(jNf:List (Addr×Obj)) (s:jNc) (σ:St) (H:Hp) (R:It->Hp->Prop),Inv X jNf σ H s->wi σ H R ->
  jNe (model X.prog X.w) X.A (eval iter X.env) (fun v s1=>jNe (model X.prog X.w) X.A (pyIter v) (PIE X jNf σ tg R) X.xe s1) X.xe s
def Vc {M:Model}{A:jNb}{E:Value->jNc->Prop}{s:jNc}{tg:Expr}{it:Addr}{u:Value}{o:Obj}{n:String}{vs:Array Value}{Q:Unit->jNc->Prop}(ho:s.heap.get? it=some o)(hc:o.cls=.type n)(hd:o.data=.fields vs)
  (hn:["enumerate","zip","dict_itemiterator","dict_reverseitemiterator","odict_iterator","itertools.zip_longest","itertools.pairwise"].contains n=false) (hQ:Q () s):jNe M A (letOwnedTupleGo tg (.ref it) u) Q E s:=by
 unfold letOwnedTupleGo;cases tg<;>first
  | exact jMd hQ
  | (cases u<;>first
    | exact jMd hQ
    | (refine jMb (wpAny_load ho ?_);rw[hc,hd];show jNe M A (if (["enumerate","zip","dict_itemiterator","dict_reverseitemiterator","odict_iterator","itertools.zip_longest","itertools.pairwise"].contains n&&vs[0]?==some (rawInt _))=true then _ else _) Q E s;rw[jNh (by intro h;rw[hn,rS]at h;cases h)];exact jMd hQ))
def Itl (K:jJa)(a:Addr):It:=
 ⟨fun i H=>∃xs x,SqL K H a xs/\xs[i]?=some x,fun i H x H'=>H'=H/\∀xs,SqL K H a xs->xs[i]?=some x,fun i H=>∃xs,SqL K H a xs/\xs.length<=i⟩
def Itt (K:jJa)(a:Addr):It:=
 ⟨fun i H=>∃xs x,SqT K H a xs/\xs[i]?=some x,fun i H x H'=>H'=H/\∀xs,SqT K H a xs->xs[i]?=some x,fun i H=>∃xs,SqT K H a xs/\xs.length<=i⟩
def Itr (lo:Int)(n:Nat):It:=⟨fun i _=>i<n,fun i H x H'=>H'=H/\x=.int (lo+i),fun i _=>n<=i⟩
def JT {P:jNa}{w:World}{K:jJa}{tg:Expr}(a it:Addr):Turn P w K tg (Itl K a) [it] it (fun i h=>h.IsListIter it a i) where
 mem:=by simp
 obj:=fun i h st b hb=>by
  have e:b=it:=by simpa using hb
  subst e;obtain⟨o,e,c,d⟩:=st;exact⟨o,e,fun v z=>by rw[d]at z;cases z⟩
 keep:=fun i h h' st k=>st.at fun o e=>k it (by simp) o e
 item:=by
  intro X hP hw hK hc i jNf s σ H E I hf st hg;subst hP hw hK;obtain⟨xs,x,hq,hx⟩:=hg;obtain⟨its,rv,p,hz⟩:=I.list hq;obtain⟨u,hu,ru⟩:=rv.get hx;obtain⟨f0,f1,f2,f3,f4,f5⟩:=hf it (by simp);refine wpAny_pyNext_list_item st p.isList (x:=u) (by simpa using hu) fun h' st' sb=>?_;have I1:Inv X jNf σ H { s with heap:=h' }:=I.turned (t':=s.toks) (fun b o hb e=>(sb.2 b hb).trans e) f0 f1 f3 f4 f5;obtain⟨o,e,c,d⟩:=id st';exact⟨u,rfl,Vc (s:={ s with heap:=h' }) e c d (by decide) ⟨x,H,I1,ru,⟨rfl,fun ys hy=>by rw[I.list_inj hy hq];exact hx⟩,st',fun b hb=>(hf b hb).1⟩⟩
 done:=by
  intro X hP hw hK hc i jNf s σ H E I hf st hg;subst hP hw hK;obtain⟨xs,hq,hx⟩:=hg;obtain⟨its,rv,p,hz⟩:=I.list hq;obtain⟨f0,f1,f2,f3,f4,f5⟩:=hf it (by simp);have hl:=rv.length;exact wpAny_pyNext_list_end (I.ok.hd hc) st p.isList (by simp;omega) fun h' eb=>⟨rfl,I.turned (t':=s.toks) (fun b o hb e=>eb b o hb e) f0 f1 f3 f4 f5⟩
 self:=fun _ _ _ _ _ st h=>wpAny_pyIter_listiter st h
def UN {P:jNa}{w:World}{K:jJa}{tg:Expr}(a it:Addr):Turn P w K tg (Itt K a) [it] it (fun i h=>h.IsTupleIter it a i) where
 mem:=by simp
 obj:=fun i h st b hb=>by
  have e:b=it:=by simpa using hb
  subst e;obtain⟨o,e,c,d⟩:=st;exact⟨o,e,fun v z=>by rw[d]at z;cases z⟩
 keep:=fun i h h' st k=>st.at fun o e=>k it (by simp) o e
 item:=by
  intro X hP hw hK hc i jNf s σ H E I hf st hg;subst hP hw hK;obtain⟨xs,x,hq,hx⟩:=hg;obtain⟨its,rv,p,hz⟩:=I.tuple hq;obtain⟨u,hu,ru⟩:=rv.get hx;obtain⟨f0,f1,f2,f3,f4,f5⟩:=hf it (by simp);refine wpAny_pyNext_tuple_item st (show s.heap.IsTuple a its.toArray from p) (x:=u) (by simpa using hu) fun h' st' sb=>?_;have I1:Inv X jNf σ H { s with heap:=h' }:=I.turned (t':=s.toks) (fun b o hb e=>(sb.2 b hb).trans e) f0 f1 f3 f4 f5;obtain⟨o,e,c,d⟩:=id st';exact⟨u,rfl,Vc (s:={ s with heap:=h' }) e c d (by decide) ⟨x,H,I1,ru,⟨rfl,fun ys hy=>by rw[I.tuple_inj hy hq];exact hx⟩,st',fun b hb=>(hf b hb).1⟩⟩
 done:=by
  intro X hP hw hK hc i jNf s σ H E I hf st hg;subst hP hw hK;obtain⟨xs,hq,hx⟩:=hg;obtain⟨its,rv,p,hz⟩:=I.tuple hq;obtain⟨f0,f1,f2,f3,f4,f5⟩:=hf it (by simp);have hl:=rv.length;exact wpAny_pyNext_tuple_end (I.ok.hd hc) st (show s.heap.IsTuple a its.toArray from p) (by simp;omega) fun h' eb=>⟨rfl,I.turned (t':=s.toks) (fun b o hb e=>eb b o hb e) f0 f1 f3 f4 f5⟩
 self:=fun _ _ _ _ _ st h=>wpAny_pyIter_tupleiter st h
def Qc {P:jNa}{w:World}{K:jJa}{tg:Expr}(it:Addr)(lo:Int)(n:Nat):Turn P w K tg (Itr lo n) [it] it (fun i h=>IsRangeIter h it (lo+(i:Nat)*1) ((n:Int)-(i:Nat)) 1) where
 mem:=by simp
 obj:=fun i h st b hb=>by
  have e:b=it:=by simpa using hb
  subst e;exact⟨_,st,fun v z=>by
   have z':Data.fields _=Data.cell v:=z;cases z'⟩
 keep:=fun i h h' st k=>k it (by simp) _ st
 item:=by
  intro X hP hw hK hc i jNf s σ H E I hf st hg;subst hP hw hK;obtain⟨f0,f1,f2,f3,f4,f5⟩:=hf it (by simp);have W:=Walks.range (prog:=X.prog) (w:=X.w) (I.ok.hd hc) it lo 1 n;refine W.item i s _ _ hg st fun v h' tk hv st' kk=>?_;obtain⟨t,rfl⟩:=hv;have I1:Inv X jNf σ H { s with heap:=h',toks:=tk }:=I.turned (fun b o hb e=>kk b o (by simpa using hb) e) f0 f1 f3 f4 f5;refine⟨_,rfl,Vc (s:={ s with heap:=h',toks:=tk }) (n:="range_iterator") st' rfl rfl (by decide) ⟨.int (lo+i),H,I1,⟨t,?_⟩,⟨rfl,rfl⟩,st',fun b hb=>(hf b hb).1⟩⟩;rw[Int.mul_one]
 done:=by
  intro X hP hw hK hc i jNf s σ H E I hf st hg;subst hP hw hK;obtain⟨f0,f1,f2,f3,f4,f5⟩:=hf it (by simp);exact wpAny_pyNext_range_end (I.ok.hd hc) st (by have:n<=i:=hg;omega) fun h' eb=>⟨rfl,I.turned (t':=s.toks) (fun b o hb e=>eb b o hb e) f0 f1 f3 f4 f5⟩
 self:=fun _ _ _ _ _ st h=>wpAny_pyIter_rangeiter st h
section
variable {X:Cx}{tg:Expr}
def z06 (K:jJa)(tl:TE):TI:=fun σ H R=>tl σ H fun x H1=>∃a,x=.ref a/\(∃xs,SqL K H1 a xs)/\R (Itl K a) H1
def z8b (K:jJa)(tl:TE):TI:=fun σ H R=>tl σ H fun x H1=>∃a,x=.ref a/\(∃xs,SqT K H1 a xs)/\R (Itt K a) H1
def J0 {l:Expr}{tl:TE}(hl:PE X l tl):PI X tg l (z06 X.K tl):=by
 intro jNf s σ H R I h;refine thn (hl jNf s σ H _ I h) fun v s1 ⟨x,H1,I1,r1,q1⟩=>?_;obtain⟨a,e,⟨xs,hq⟩,q⟩:=q1;subst e;cases r1;obtain⟨its,rv,p,hz⟩:=I1.list hq;refine wpAny_pyIter_list p.isList ?_;refine⟨s1.heap.objs.size,[s1.heap.objs.size],_,_,H1,rfl,I1.kept (t':=s1.toks) fun b o e=>jYb _ e,JT a _,⟨_,jYd _ rfl,rfl,rfl⟩,fun b hb=>?_,q⟩;have e:b=s1.heap.objs.size:=by simpa using hb
 subst e;exact I1.fpOk (tP _) (I1.hok.fresh (tP _))
def z5I {l:Expr}{tl:TE}(hl:PE X l tl):PI X tg l (z8b X.K tl):=by
 intro jNf s σ H R I h;refine thn (hl jNf s σ H _ I h) fun v s1 ⟨x,H1,I1,r1,q1⟩=>?_;obtain⟨a,e,⟨xs,hq⟩,q⟩:=q1;subst e;cases r1;obtain⟨its,rv,p,hz⟩:=I1.tuple hq;refine wpAny_pyIter_tuple (show s1.heap.IsTuple a its.toArray from p) ?_;refine⟨s1.heap.objs.size,[s1.heap.objs.size],_,_,H1,rfl,I1.kept (t':=s1.toks) fun b o e=>jYb _ e,UN a _,⟨_,jYd _ rfl,rfl,rfl⟩,fun b hb=>?_,q⟩;have e:b=s1.heap.objs.size:=by simpa using hb
 subst e;exact I1.fpOk (tP _) (I1.hok.fresh (tP _))
def Kb {jNf:List (Addr×Obj)}{σ:St}{H:Hp}{s:jNc}{R:It->Hp->Prop}{E:Value->jNc->Prop}{lo hi:Int}{t u v:Tok}{tk:Nat}(I:Inv X jNf σ H s)(h1:-(2 ^ 62)<=lo)(h2:lo<2 ^ 62)(h3:-(2 ^ 62)<=hi)(h4:hi<2 ^ 62)
  (q:R (Itr lo (hi-lo).toNat) H):jNe (model X.prog X.w) X.A (pyIter (.ref s.heap.objs.size)) (PIE X jNf σ tg R) E { s with heap:=s.heap.push { cls:=.type "range",data:=.fields #[.int lo t,.int hi u,.int 1 v] },toks:=tk }:=by
 refine wpAny_pyIter_range (IsRange.new ..) (small_one h1 h2 h3 h4) ?_;have I1:Inv X jNf σ H { s with heap:=s.heap.push { cls:=.type "range",data:=.fields #[.int lo t,.int hi u,.int 1 v] },toks:=tk }:=I.kept fun b o e=>jYb _ e;refine⟨(s.heap.push { cls:=.type "range",data:=.fields #[.int lo t,.int hi u,.int 1 v] }).objs.size,[(s.heap.push { cls:=.type "range",data:=.fields #[.int lo t,.int hi u,.int 1 v] }).objs.size],_,_,H,rfl,
  I1.kept (t':=tk) fun b o e=>jYb _ e,Qc _ lo (hi-lo).toNat,?_,fun b hb=>?_,q⟩
 ·have e1:lo+((0:Nat):Int)*1=lo:=by simp
  have e2:(((hi-lo).toNat:Nat):Int)-((0:Nat):Int)=Builtin.Range.rangeSize lo hi 1:=by rw[rangeSize_one];split<;>omega
  show IsRangeIter _ _ (lo+((0:Nat):Int)*1) ((((hi-lo).toNat:Nat):Int)-((0:Nat):Int)) 1;rw[e1,e2];exact jYd _ rfl
 ·have e:b=(s.heap.push { cls:=.type "range",data:=.fields #[.int lo t,.int hi u,.int 1 v] }).objs.size:=by simpa using hb
  subst e;exact I1.fpOk (tP _) (I1.hok.fresh (tP _))
def z6H (ta:TA):TI:=fun σ H R=>ta σ H fun vs H1=>∃j:Int,vs=[.int j]/\-(2 ^ 62)<=j/\j<2 ^ 62/\R (Itr 0 j.toNat) H1
def K2 {a:Expr}{ta:TA}{p pos:Pos}(hg:Gl X "range")(hm:X.mg "range"=none)(ha:PA X [a] ta)(hs:autoParam (jMj [a] X.env=[(false,eval a X.env)]) au3._auto_1):PI X tg (.Call (.Name "range" p) [a] [] pos) (z6H ta):=by
 intro jNf s σ H R I h;refine Call_ (Yh I hg hm boot_range (PyProof.Rows.callWith_type1 (thn (ha pos jNf s σ H _ I h) fun us s1 ⟨vs,H1,I1,r1,q1⟩=>?_) hs rfl));obtain⟨j,e,q1,q2,q⟩:=q1;subst e;cases r1 with
 | cons r rr =>
  cases rr;obtain⟨t,rfl⟩:=r;exact call_range_1 (Kb I1 (by omega) (by omega) q1 q2 (by simpa using q))
def z7k (wi:TI)(g:TG)(tb:TS):TS:=fun D σ H=>wi σ H fun J H1=>∃W:Nat->Nat->St->Hp->Prop,(∃m,W 0 m σ H1)/\∀i m σ H,W i m σ H ->
 (J.stop i H/\D.nx σ H)\/(J.go i H/\∃N:St->Hp->Prop,(∀σ' H',N σ' H'->∃m',m'<m/\W (i+1) m' σ' H')/\∀x H',J.yld i H x H'->g x σ H' fun σ2 H2=>tb { D with nx:=N,ct:=N,bk:=D.nx } σ2 H2)
def YB (fp:List Addr)(h:Heap):List (Addr×Obj):=fp.filterMap fun b=>(h.get? b).map fun o=>(b,o)
def ug {fp:List Addr}{h:Heap}{b:Addr}{o:Obj}(hb:b∈fp)(e:h.get? b=some o):(b,o)∈YB fp h:=List.mem_filterMap.mpr ⟨b,hb,by rw[e];rfl⟩
def JH {fp:List Addr}{h:Heap}{p:Addr×Obj}(hp:p∈YB fp h):p.1∈fp/\h.get? p.1=some p.2:=by
 obtain⟨b,hb,e⟩:=List.mem_filterMap.mp hp;cases q:h.get? b with
 | none=>rw[q]at e;cases e
 | some o =>
  rw[q]at e;have e':(b,o)=p:=jYe e;subst e';exact⟨hb,q⟩
def Inv.pinned {jNf:List (Addr×Obj)}{σ:St}{H:Hp}{s:jNc}{fp:List Addr}(I:Inv X jNf σ H s)(hf:∀b∈fp,Zj X jNf H b)(ho:∀b∈fp,∃o,s.heap.get? b=some o/\∀v,o.data≠.cell v):Inv X (jNf++YB fp s.heap) σ H s:=
 I.pins_of fun p hp=>(tX.mp hp).elim (fun z=>I.pin p (tL _ z)) fun z=>by
  obtain⟨hb,e⟩:=JH z;obtain⟨f0,f1,f2,_⟩:=hf p.1 hb;obtain⟨o,e',d⟩:=ho p.1 hb;rw[e]at e';cases e';exact⟨e,f0,f1,f2,d⟩
def Inv.unpinned {jNf pl:List (Addr×Obj)}{σ:St}{H:Hp}{s:jNc}(I:Inv X (jNf++pl) σ H s):Inv X jNf σ H s:=I.pins_of fun p hp=>I.pin p (tL _ (tW _ hp))
def z4F {iter:Expr}{body:List Stmt}{wi:TI}{g:TG}{tb:TS}{pos:Pos}(hp:jMg (model X.prog X.w) X.A X.env X.xe)(hc:X.calm=true)(hi:PI X tg iter wi)(hg:PG X tg g)(hb:PSs X body tb)
  (hs:autoParam (∀x,jYg iter X.env x=pure x) au2._auto_1):PS X (.For tg iter body [] pos) (z7k wi g tb):=by
 intro jNf s σ H D I h;refine wpAny_For (thn (hi jNf s σ H _ I h) fun v s1 h1=>thn h1 fun itv s2 h2=>?_) hs;obtain⟨it,fp,tn,J,H2,e,I2,T,st2,f2,W,⟨m0,w0⟩,turn⟩:=h2;subst e;have stat:∀ {H':Hp},(∀b∈fp,H' b=none)->∀b∈fp,Zj X jNf H' b:=fun hn b hb=>⟨hn b hb,(f2 b hb).2⟩
 refine codeAny_forLoop_any (fun n s'=>∃i σ' H',Inv X jNf σ' H' s'/\tn i s'.heap/\(∀b∈fp,H' b=none)/\W i n σ' H') ?_ m0 ⟨0,σ,H2,I2,st2,fun b hb=>(f2 b hb).1,w0⟩;rintro n s3 ⟨i,σ3,H3,I3,st3,fr3,w3⟩;rcases turn i n σ3 H3 w3 with⟨stop,qn⟩|⟨go,N,hN,step⟩
 ·refine jKc hp (thn (T.done X rfl rfl rfl hc i jNf s3 σ3 H3 X.xe I3 (stat fr3) st3 stop) fun r s4 ⟨hr,I4⟩=>?_);subst hr;exact jKa ⟨σ3,H3,I4,qn⟩
 ·refine jKc hp (thn (T.item X rfl rfl rfl hc i jNf s3 σ3 H3 X.xe I3 (stat fr3) st3 go) fun r s4 ⟨u,hr,h4⟩=>?_);subst hr;refine jKc hp (thn h4 fun _ s5 ⟨x,H5,I5,r5,y5,st5,fr5⟩=>?_);have I5':=I5.pinned (stat fr5) (T.obj _ _ st5);refine jKc hp (thn (hg _ s5 σ3 H5 x u _ I5' r5 (step x H5 y5)) fun _ s6 ⟨σ6,H6,I6,q6⟩=>?_);refine jKc hp (thn (hb _ s6 σ6 H6 _ I6 q6) fun f s7 q7=>?_);have again:∀ {σ7:St} {H7:Hp},Inv X (jNf++YB fp s5.heap) σ7 H7 s7->N σ7 H7->∃m,m<n/\∃i σ' H',Inv X jNf σ' H' s7/\tn i s7.heap/\(∀b∈fp,H' b=none)/\W i m σ' H':=fun {σ7 H7} I7 n7=>by
   obtain⟨m',hm,w7⟩:=hN σ7 H7 n7;refine⟨m',hm,i+1,σ7,H7,I7.unpinned,T.keep _ _ _ st5 fun b hb o e=>(I7.pin (b,o) (tL _ (tL _ (ug hb e)))).1,fun b hb=>?_,w7⟩;obtain⟨o,e,d⟩:=T.obj _ _ st5 b hb;exact (I7.pin (b,o) (tL _ (tL _ (ug hb e)))).2.1
  cases f with
  | next=>obtain⟨σ7,H7,I7,n7⟩:=q7;exact again I7 n7
  | cont=>obtain⟨σ7,H7,I7,n7⟩:=q7;exact again I7 n7
  | brk=>obtain⟨σ7,H7,I7,q7⟩:=q7;exact⟨σ7,H7,I7.unpinned,q7⟩
  | ret v=>obtain⟨x7,σ7,H7,I7,r7,q7⟩:=q7;exact⟨x7,σ7,H7,I7.unpinned,r7,q7⟩
end
abbrev R2:=V->V->Hp->VK->Prop
def OpR (X:Cx)(f:Value->Value->Sem Value)(r:R2):Prop:=
 ∀(jNf:List (Addr×Obj)) (s:jNc) (σ:St) (H:Hp) (x y:V) (v u:Value) (Q:VK),Inv X jNf σ H s->RelV x v->RelV y u->r x y H Q ->
  jNe (model X.prog X.w) X.A (f v u) (EP X jNf σ Q) X.xe s
def UnR (X:Cx)(f:Value->Sem Value)(r:V->Hp->VK->Prop):Prop:=
 ∀(jNf:List (Addr×Obj)) (s:jNc) (σ:St) (H:Hp) (x:V) (v:Value) (Q:VK),Inv X jNf σ H s->RelV x v->r x H Q ->
  jNe (model X.prog X.w) X.A (f v) (EP X jNf σ Q) X.xe s
def CallR (X:Cx)(f:Value)(r:List V->Hp->VK->Prop):Prop:=
 ∀(jNf:List (Addr×Obj)) (s:jNc) (σ:St) (H:Hp) (xs:List V) (us:List Value) (Q:VK),Inv X jNf σ H s->Vals xs us->r xs H Q ->
  jNe (model X.prog X.w) X.A (call f us) (EP X jNf σ Q) X.xe s
def tOp (r:R2)(ta tb:TE):TE:=fun σ H Q=>ta σ H fun x H1=>tb σ H1 fun y H2=>r x y H2 Q
def tUn (r:V->Hp->VK->Prop)(ta:TE):TE:=fun σ H Q=>ta σ H fun x H1=>r x H1 Q
def rI (C:Int->Int->Prop)(g:Int->Int->V):R2:=fun x y H Q=>∃i j,x=.int i/\y=.int j/\C i j/\Q (g i j) H
def rI0 (g:Int->Int->V):R2:=fun x y H Q=>∃i j,x=.int i/\y=.int j/\Q (g i j) H
def rU (g:Int->V):V->Hp->VK->Prop:=fun x H Q=>∃i,x=.int i/\Q (g i) H
section
variable {X:Cx}{a b c:Expr}{ta tb tc:TE}{pos:Pos}
def z4i (ha:PE X a ta)(hb:PE X b tb){jNf:List (Addr×Obj)}{s:jNc}{σ:St}{H:Hp}{R:V->V->Hp->Prop}(I:Inv X jNf σ H s)
  (h:ta σ H fun x H1=>tb σ H1 fun y H2=>R x y H2) {Q:Value->jNc->Prop} {f:Value->Value->Sem Value}
  (hf:∀v u s2 x y H2,Inv X jNf σ H2 s2->RelV x v->RelV y u->R x y H2->jNe (model X.prog X.w) X.A (f v u) Q X.xe s2):
  jNe (model X.prog X.w) X.A (eval a X.env) (fun v s₁=>jNe (model X.prog X.w) X.A (eval b X.env) (fun u s₂=>jNe (model X.prog X.w) X.A (f v u) Q X.xe s₂) X.xe s₁) X.xe s:=by
 refine thn (ha jNf s σ H _ I h) fun v s1 ⟨x,H1,I1,r1,q1⟩=>?_;refine thn (hb jNf s1 σ H1 _ I1 q1) fun u s2 ⟨y,H2,I2,r2,q2⟩=>?_;exact hf v u s2 x y H2 I2 r1 r2 q2
def z6g {op:Operator}{r:R2}(ho:OpR X (binaryOp op) r)(ha:PE X a ta)(hb:PE X b tb):PE X (.BinOp a op b pos) (tOp r ta tb):=by
 intro jNf s σ H Q I h;exact wpAny_BinOp (z4i ha hb I h fun v u s2 x y H2 I2 rx ry q=>ho jNf s2 σ H2 x y v u Q I2 rx ry q)
def Jn {op:UnaryOp}{r:V->Hp->VK->Prop}(ho:UnR X (unaryOp op) r)(ha:PE X a ta):PE X (.UnaryOp op a pos) (tUn r ta):=by
 intro jNf s σ H Q I h;exact UnaryOp_ (thn (ha jNf s σ H _ I h) fun v s1 ⟨x,H1,I1,r1,q1⟩=>ho jNf s1 σ H1 x v Q I1 r1 q1)
def opI {f:Value->Value->Sem Value}{C:Int->Int->Prop}{g:Int->Int->Int}
  (rule:∀(i j:Int) (t u:Tok) (s:jNc) (Q:Value->jNc->Prop) (E:Value->jNc->Prop),C i j->Q (.int (g i j) s.toks) { s with toks:=s.toks+1 }->jNe (model X.prog X.w) X.A (f (.int i t) (.int j u)) Q E s):
  OpR X f (rI C fun i j=>.int (g i j)):=by
 intro jNf s σ H x y v u Q I rx ry h;obtain⟨i,j,rfl,rfl,hc,q⟩:=h;obtain⟨t,rfl⟩:=rx;obtain⟨t',rfl⟩:=ry;exact rule i j t t' s _ _ hc ⟨.int (g i j),H,I.tok _,⟨_,rfl⟩,q⟩
def z6j {f:Value->Value->Sem Value}{g:Int->Int->Int}
  (rule:∀(i j:Int) (t u:Tok) (s:jNc) (Q:Value->jNc->Prop) (E:Value->jNc->Prop),Q (.int (g i j) s.toks) { s with toks:=s.toks+1 }->jNe (model X.prog X.w) X.A (f (.int i t) (.int j u)) Q E s):
  OpR X f (rI0 fun i j=>.int (g i j)):=by
 intro jNf s σ H x y v u Q I rx ry h;obtain⟨i,j,rfl,rfl,q⟩:=h;obtain⟨t,rfl⟩:=rx;obtain⟨t',rfl⟩:=ry;exact rule i j t t' s _ _ ⟨.int (g i j),H,I.tok _,⟨_,rfl⟩,q⟩
def z2A {f:Value->Value->Sem Value}{g:Int->Int->Bool}
  (rule:∀(i j:Int) (t u:Tok) (s:jNc) (Q:Value->jNc->Prop) (E:Value->jNc->Prop),Q (.bool (g i j)) s->jNe (model X.prog X.w) X.A (f (.int i t) (.int j u)) Q E s):
  OpR X f (rI0 fun i j=>.bl (g i j)):=by
 intro jNf s σ H x y v u Q I rx ry h;obtain⟨i,j,rfl,rfl,q⟩:=h;obtain⟨t,rfl⟩:=rx;obtain⟨t',rfl⟩:=ry;exact rule i j t t' s _ _ ⟨.bl (g i j),H,I,rfl,q⟩
def z6R (i j:Int):Prop:=0<j/\j<1073741824
def CMul (i j:Int):Prop:=(-(2 ^ 64)<i/\i<2 ^ 64)\/(-(2 ^ 64)<j/\j<2 ^ 64)
theorem CMul.ok {i j:Int}(h:CMul i j):IntMulOk i j:=by
 rcases h with⟨h1,h2⟩|⟨h1,h2⟩
 ·exact .of_left (intBits_le_64 h1 h2)
 ·exact .of_right (intBits_le_64 h1 h2)
def z4d:OpR X (binaryOp .Add) (rI0 fun i j=>.int (i+j)):=z6j fun _ _ _ _ _ _ _ q=>add_int q
def z4K:OpR X (binaryOp .Sub) (rI0 fun i j=>.int (i-j)):=z6j fun _ _ _ _ _ _ _ q=>sub_int q
def z5u:OpR X (binaryOp .Mult) (rI CMul fun i j=>.int (i*j)):=opI fun _ _ _ _ _ _ _ hc q=>mul_int q hc.ok
def z2h:OpR X (binaryOp .FloorDiv) (rI z6R fun i j=>.int (i/j)):=opI fun i j _ _ _ _ _ hc q=>by
 have h1:(0:Int)<j:=hc.1;have h2:j<1073741824:=hc.2;exact floordiv_int (by omega) (by rw[Int.fdiv_eq_ediv_of_nonneg i (by omega)];exact q) (.inl (PyProof.noPylong_small (by omega)))
def z4E:OpR X (binaryOp .Mod) (rI (fun _ j=>0<j) fun i j=>.int (i%j)):=opI fun i j _ _ _ _ _ hc q=>by
 have h1:(0:Int)<j:=hc;exact mod_int' (by omega) (by rw[Int.fmod_eq_emod_of_nonneg i (by omega)];exact q)
def unI {f:Value->Sem Value}{g:Int->Int}
  (rule:∀(i:Int) (t:Tok) (s:jNc) (Q:Value->jNc->Prop) (E:Value->jNc->Prop),Q (.int (g i) s.toks) { s with toks:=s.toks+1 }->jNe (model X.prog X.w) X.A (f (.int i t)) Q E s):
  UnR X f (rU fun i=>.int (g i)):=by
 intro jNf s σ H x v Q I rx h;obtain⟨i,rfl,q⟩:=h;obtain⟨t,rfl⟩:=rx;exact rule i t s _ _ ⟨.int (g i),H,I.tok _,⟨_,rfl⟩,q⟩
def WT:UnR X (unaryOp .USub) (rU fun i=>.int (-i)):=unI fun _ _ _ _ _ q=>neg_int q
end
section
variable {X:Cx}{a b c:Expr}{ta tb tc:TE}{pos:Pos}
def z5r {jNf:List (Addr×Obj)}{σ:St}{H:Hp}{s:jNc}{Q:VK}{k k':Bool}(I:Inv X jNf σ H s)(q:Q (.bl k) H)(e:k=k'):EP X jNf σ Q (.bool k') s:=by
 subst e;exact⟨.bl k,H,I,rfl,q⟩
def wQ:OpR X (jMe .Lt) (rI0 fun i j=>.bl (decide (i<j))):=z2A fun _ _ _ _ _ _ _ q=>lt_int q
def xw:OpR X (jMe .LtE) (rI0 fun i j=>.bl (decide (i<=j))):=z2A fun _ _ _ _ _ _ _ q=>le_int q
def Zd:OpR X (jMe .Gt) (rI0 fun i j=>.bl (decide (j<i))):=z2A fun _ _ _ _ _ _ _ q=>gt_int q
def z3H:OpR X (jMe .GtE) (rI0 fun i j=>.bl (decide (j<=i))):=z2A fun _ _ _ _ _ _ _ q=>ge_int q
theorem OpR.or {f:Value->Value->Sem Value}{r r':R2}(h:OpR X f r)(h':OpR X f r'):OpR X f (fun x y H Q=>r x y H Q\/r' x y H Q):=by
 intro jNf s σ H x y v u Q I rx ry q;rcases q with q|q
 ·exact h jNf s σ H x y v u Q I rx ry q
 ·exact h' jNf s σ H x y v u Q I rx ry q
def zw (b:Expr){op:CmpOp}(h:autoParam (op≠.In) au1._auto_1)(h2:autoParam (op≠.NotIn) au1._auto_1):behindInMarks op b=false:=by
 have e1:(op==CmpOp.In)=false:=by cases op<;>first|rfl|exact absurd rfl h
 have e2:(op==CmpOp.NotIn)=false:=by cases op<;>first|rfl|exact absurd rfl h2
 cases b with
 | Set elts k _ =>
  show (k==0&&(op==.In||op==.NotIn)&&elts.all (constantsAlone 8))=false;rw[e1,e2,Bool.or_self,Bool.and_false,rS]
 | _=>rfl
def z38 {op:CmpOp}{r:R2}(ho:OpR X (jMe op) r)(ha:PE X a ta)(hb:PE X b tb)(hm:behindInMarks op b=false):PE X (.Compare a [op] [b] pos) (tOp r ta tb):=by
 intro jNf s σ H Q I h;exact wpAny_Compare1 (z4i ha hb I h fun v u s2 x y H2 I2 rx ry q=>ho jNf s2 σ H2 x y v u Q I2 rx ry q) hm
def z0W (t:TE):TT:=fun σ H Q=>t σ H fun x H'=>∃k,x=.bl k/\Q k H'
def J7 {op:CmpOp}{r:R2}(ho:OpR X (jMe op) r)(ha:PE X a ta)(hb:PE X b tb)(hm:behindInMarks op b=false):PT X (.Compare a [op] [b] pos) (z0W (tOp r ta tb)):=by
 intro jNf s σ H Q I h;refine wpAny_isTrue_Compare1 (thn (ha jNf s σ H _ I h) fun v s1 ⟨x,H1,I1,r1,q1⟩=>thn (hb jNf s1 σ H1 _ I1 q1) fun u s2 ⟨y,H2,I2,r2,q2⟩ =>
  thn (ho jNf s2 σ H2 x y v u _ I2 r1 r2 q2) fun c s3 ⟨z,H3,I3,r3,k,e,q3⟩=>?_) hm
 subst e;cases r3;exact jYi ⟨H3,I3,q3⟩
def Qg (r r':R2)(ta tb tc:TE):TE:=fun σ H Q=>ta σ H fun x H1=>tb σ H1 fun y H2=>r x y H2 fun z H3=>∃k,z=.bl k /\
 (if k=true then tc σ H3 fun w' H4=>r' y w' H4 Q else Q (.bl false) H3)
def KU {op op':CmpOp}{r r':R2}(ho:OpR X (jMe op) r)(ho':OpR X (jMe op') r')(ha:PE X a ta)(hb:PE X b tb)(hc:PE X c tc)
  (hm:autoParam (lastMarks [op,op'] [b,c]=false) au4._auto_1):PE X (.Compare a [op,op'] [b,c] pos) (Qg r r' ta tb tc):=by
 intro jNf s σ H Q I h;refine Compare_chain (thn (ha jNf s σ H _ I h) fun v s1 ⟨x,H1,I1,r1,q1⟩=>chain_link (thn (hb jNf s1 σ H1 _ I1 q1) fun u s2 ⟨y,H2,I2,r2,q2⟩ =>
  thn (ho jNf s2 σ H2 x y v u _ I2 r1 r2 q2) fun d s3 ⟨z,H3,I3,r3,k,e,q3⟩=>?_)) hm
 subst e;cases r3;refine jYi ?_;cases k with
 | false=>exact ite_ff ⟨.bl false,H3,I3,rfl,q3⟩
 | true=>exact ite_tt (chain_last (thn (hc jNf s3 σ H3 _ I3 q3) fun w' s4 ⟨z',H4,I4,r4,q4⟩=>ho' jNf s4 σ H4 y z' u w' Q I4 r2 r4 q4))
def z0b {op op':CmpOp}{r r':R2}(ho:OpR X (jMe op) r)(ho':OpR X (jMe op') r')(ha:PE X a ta)(hb:PE X b tb)(hc:PE X c tc)
  (hm:autoParam (lastMarks [op,op'] [b,c]=false) au4._auto_1):PT X (.Compare a [op,op'] [b,c] pos) (z0W (Qg r r' ta tb tc)):=by
 intro jNf s σ H Q I h;refine isTrue_chain (thn (ha jNf s σ H _ I h) fun v s1 ⟨x,H1,I1,r1,q1⟩=>test_link (thn (hb jNf s1 σ H1 _ I1 q1) fun u s2 ⟨y,H2,I2,r2,q2⟩ =>
  thn (ho jNf s2 σ H2 x y v u _ I2 r1 r2 q2) fun d s3 ⟨z,H3,I3,r3,k,e,q3⟩=>?_)) hm
 subst e;cases r3;refine jYi ?_;cases k with
 | false =>
  obtain⟨k',e',q'⟩:=q3;cases e';exact ite_ff ⟨H3,I3,q'⟩
 | true =>
  refine ite_tt (test_last (thn (hc jNf s3 σ H3 _ I3 q3) fun w' s4 ⟨z',H4,I4,r4,q4⟩=>thn (ho' jNf s4 σ H4 y z' u w' _ I4 r2 r4 q4) fun d' s5 ⟨z2,H5,I5,r5,k2,e2,q5⟩=>?_));subst e2;cases r5;exact jYi ⟨H5,I5,q5⟩
def ke:(sizeLine:Nat)<2 ^ 63:=by rw[jKj];decide
def Q6:OpR X (binaryOp .Add) (fun x y H Q=>∃i j,x=.str i/\y=.str j/\i.length+j.length<=jMi/\Q (.str (i++j)) H):=by
 intro jNf s σ H x y v u Q I rx ry h;obtain⟨i,j,rfl,rfl,hz,q⟩:=h;obtain⟨t,rfl⟩:=rx;obtain⟨t',rfl⟩:=ry;exact add_str (fun t' tk=>⟨.str (i++j),H,I.tok _,⟨_,rfl⟩,q⟩) hz
def Vq:OpR X (inplaceOp .Add) (fun x y H Q=>∃i j,x=.str i/\y=.str j/\i.length+j.length<=jMi/\Q (.str (i++j)) H):=by
 intro jNf s σ H x y v u Q I rx ry h;obtain⟨i,j,rfl,rfl,hz,q⟩:=h;obtain⟨t,rfl⟩:=rx;obtain⟨t',rfl⟩:=ry;exact iadd_str (fun t' tk=>⟨.str (i++j),H,I.tok _,⟨_,rfl⟩,q⟩) hz
def wO {x:V}{us:List Value}(r:Vals [x] us):∃u,us=[u]/\RelV x u:=by
 cases r with
 | cons r1 r2=>cases r2;exact⟨_,rfl,r1⟩
def Ve {x y:V}{us:List Value}(r:Vals [x,y] us):∃u w',us=[u,w']/\RelV x u/\RelV y w':=by
 cases r with
 | cons r1 r2 =>
  cases r2 with
  | cons r3 r4=>cases r4;exact⟨_,_,rfl,r1,r3⟩
def JJ (hc:X.calm=true):CallR X (.builtin "min") (fun xs H Q=>∃i j,xs=[.int i,.int j]/\Q (.int (if j<i then j else i)) H):=by
 intro jNf s σ H xs us Q I r h;obtain⟨i,j,rfl,q⟩:=h;obtain⟨u,w',rfl,⟨t,rfl⟩,⟨t',rfl⟩⟩:=Ve r;refine min_two_ints (I.ok.hd hc) fun h' tk k=>⟨_,H,I.kept k,?_,q⟩
 by_cases hj:j<i
 ·rw[jNg hj,jNg hj];exact⟨_,rfl⟩
 ·rw[jNh hj,jNh hj];exact⟨_,rfl⟩
def vV:CallR X (.type "int") (fun xs H Q=>(∃i,xs=[.int i]/\Q (.int i) H)\/∃k,xs=[.bl k]/\Q (.int (if k then 1 else 0)) H):=by
 intro jNf s σ H xs us Q I r h;rcases h with⟨i,rfl,q⟩|⟨k,rfl,q⟩
 ·obtain⟨u,rfl,t,rfl⟩:=wO r;exact call_int_int ⟨.int i,H,I,⟨_,rfl⟩,q⟩
 ·obtain⟨u,rfl,r1⟩:=wO r;cases r1;exact call_int_bool ⟨.int (if k then 1 else 0),H,I.tok _,⟨_,rfl⟩,q⟩
end
structure ObjM (h:Heap)(x dx C:Addr)(mA:Str->Option Value):Prop where
 obj:h.get? x=some (jJm C dx)
 ns:h.Ns1 dx mA
 ne:dx≠x
def JF {h:Heap}{dx:Addr}{mA:Str->Option Value}(n:h.Ns1 dx mA):∃od,h.get? dx=some od/\∀name,jJo name od=some (mA name):=by
 obtain⟨o,es,ep,ho,hd,hk,_,hm⟩:=n;refine⟨o,ho,fun name=>?_⟩;have e:=hm name;unfold nsFind findBy at e;rw[<-Array.find?_toList]at e;unfold jJo;rw[hd];dsimp only;split
 ·rename_i y q;rw[q]at e;exact congrArg some e
 ·rename_i q;rw[q]at e;have a:es.toList.any (·.refKey)=false:=by
   rw[List.any_eq_false];intro y hy;obtain⟨z,t,hkey⟩:=hk y (Array.mem_toList_iff.mp hy);simp[DictEntry.refKey,hkey]
  have a':¬es.toList.any (·.refKey)=true:=by rw[a];exact tO
  rw[jNh a'];exact congrArg some e
theorem ObjM.look {h:Heap}{x dx C:Addr}{mA:Str->Option Value}(I:ObjM h x dx C mA):∃od,PySem.W.InstAt h x (jJm C dx) C (some od)/\∀name,jJo name od=some (mA name):=
 let ⟨od,ho,hl⟩:=JF I.ns
 ⟨od,⟨I.obj,rfl,rfl,ho⟩,hl⟩
def RelO.some_of {v:V}{o:Option Value}(r:RelO (some v) o):∃u,o=some u/\RelV v u:=by
 cases o with
 | none=>exact (show False from r).elim
 | some u=>exact⟨u,rfl,r⟩
section
variable {P:jNa}{w:World}{H H':Hp}{h h':Heap}{a C dx:Addr}{fs fs':List (Str×V)}
def z1z (hok:HOk P w H h)(e:H a=some (.ins C dx fs)):∃mA,ObjM h a dx C mA/\(∀f,RelO (fs.lookup f) (mA f))/\PySem.Within mA (fs.map (·.1))/\fs.length<=1000/\H dx=some (.own a):=by
 obtain⟨d,z,ne,ob,mA,n,r,q⟩:=(show ObjOk P w H h a (.ins C dx fs) from hok a _ e)
 exact⟨mA,⟨ob,n,ne⟩,r,q,z,d⟩
end
structure Cls (K:jJa)(C:Addr):Prop where
 pg:PySem.W.plainGet K C Str.empty=true
 hd:PySem.W.hasDictIn K C=true
 po:PySem.W.plainOver K C=true
 sa:jJe K (.ref C) "__setattr__"=some (some (.builtin "object.__setattr__"))
theorem Cls.get {K:jJa}{C:Addr}(c:Cls K C)(f:Str):PySem.W.plainGet K C f=true:=c.pg
section
variable {X:Cx}{jNf:List (Addr×Obj)}{σ:St}{H:Hp}{s:jNc}{a C dx:Addr}{fs:List (Str×V)}{f:Str}{v:V}{A:jNb}{E:Value->jNc->Prop}
def QB {prog:jNa}{w:World}{env:Env}{e:Expr}{f:Str}{pos:Pos}{s:jNc}{Q:Value->jNc->Prop}(hb:jKd e f env (eval e env)=eval e env)
  (h:jNe (model prog w) A (eval e env) (fun o s₁=>jNe (model prog w) A (getAttr o f true) Q E s₁) E s):jNe (model prog w) A (eval (.Attribute e f pos) env) Q E s:=
 Attribute_any_ h (by rw[arm_eval_Attribute,hb])
end
section
variable {X:Cx}{jNf:List (Addr×Obj)}{σ:St}{H:Hp}{s:jNc}{A:jNb}{E:Value->jNc->Prop}{Q:Value->jNc->Prop}{c:Value}{b:Bool}
inductive TyOf (K:jJa) (H:Hp):V->Value->Prop where
 | non:TyOf K H .non (.type "NoneType")
 | bl (x:Bool):TyOf K H (.bl x) (.type "bool")
 | int (i:Int):TyOf K H (.int i) (.type "int")
 | str (x:Str):TyOf K H (.str x) (.type "str")
 | flt (x:UInt64):TyOf K H (.flt x) (.type "float")
 | lst {a:Addr} {xs:List V} (e:H a=some (.lst xs)):TyOf K H (.ref a) (.type "list")
 | frz {a:Addr} {o:Obj} {xs:List V} (e:H a=some (.frz o (.lst xs))):TyOf K H (.ref a) (.type "list")
 | tup {a:Addr} {xs:List V} (e:H a=some (.tup xs)):TyOf K H (.ref a) (.type "tuple")
 | dK {a:Addr} {kvs:List (Key×V)} (e:H a=some (.dK kvs)):TyOf K H (.ref a) (.type "dict")
 | dT {a:Addr} {kvs:List (List Key×V)} (e:H a=some (.dT kvs)):TyOf K H (.ref a) (.type "dict")
 | ins {a C dx:Addr} {fs:List (Str×V)} (e:H a=some (.ins C dx fs)) (cl:Cls K C) (ha:jJe K (.ref C) "__class__"=some (some (.builtin "object.__class__")))
   (hn:jJp K (.builtin "object.__class__") "__get__"=some (some (.builtin "getset_descriptor.__get__"))) (htk:PySem.W.takesIn K (.builtin "object.__class__")=some true)
   (hm:jJq K C (.type "object")=some true):TyOf K H (.ref a) (.ref C)
def wA {x:V}{u t:Value}(I:Inv X jNf σ H s)(rx:RelV x u)(ty:TyOf X.K H x t)(e:jJb X.K t c=some b)(h:∀tk,Q (.bool b) { s with toks:=tk }):
  jNe (model X.prog X.w) A (call (.builtin "isinstance") [u,c]) Q E s:=by
 cases ty with
 | non=>cases (show u=Value.none from rx);exact jJc PySem.W.kitx_none I.kIn True.intro e (fun z=>nomatch z) h
 | bl y=>cases (show u=Value.bool y from rx);exact jJc PySem.W.kitx_bool I.kIn True.intro e (fun z=>nomatch z) h
 | int i=>obtain⟨t,q⟩:=(show ∃t,u=Value.int i t from rx);cases q;exact jJc PySem.W.kitx_int I.kIn True.intro e (fun z=>nomatch z) h
 | str y=>obtain⟨t,q⟩:=(show ∃t,u=Value.str y t from rx);cases q;exact jJc PySem.W.kitx_str I.kIn True.intro e (fun z=>nomatch z) h
 | flt y=>obtain⟨t,q⟩:=(show ∃t,u=Value.float y t from rx);cases q;exact jJc PySem.W.kitx_float I.kIn True.intro e (fun z=>nomatch z) h
 | @lst a xs ea =>
  cases (show u=Value.ref a from rx);obtain⟨_,_,n,_,h1⟩:=(show ObjOk X.prog X.w H s.heap a (.lst xs) from I.hok a _ ea)
  exact jJc jJr I.kIn ⟨_,h1,rfl⟩ e (fun z=>nomatch z) h
 | @frz a ob xs ea =>
  cases (show u=Value.ref a from rx);obtain⟨_,_,_,n,_,h1⟩:=(show ObjOk X.prog X.w H s.heap a (.frz ob (.lst xs)) from I.hok a _ ea)
  exact jJc jJr I.kIn ⟨_,h1,rfl⟩ e (fun z=>nomatch z) h
 | @tup a xs ea =>
  cases (show u=Value.ref a from rx);obtain⟨_,_,_,p⟩:=(show ObjOk X.prog X.w H s.heap a (.tup xs) from I.hok a _ ea)
  obtain⟨o,h1,h2,_⟩:=p;exact jJc jJ1 I.kIn ⟨o,h1,h2⟩ e (fun z=>nomatch z) h
 | @dK a kvs ea =>
  cases (show u=Value.ref a from rx);obtain⟨_,_,vs,_,p⟩:=(show ObjOk X.prog X.w H s.heap a (.dK kvs) from I.hok a _ ea)
  obtain⟨o,es,ep,h1,h2,_⟩:=p;exact jJc jJs I.kIn ⟨o,h1,h2.1⟩ e (fun z=>nomatch z) h
 | @dT a kvs ea =>
  cases (show u=Value.ref a from rx);obtain⟨_,_,xs,_,o,es,ep,h1,h2,_⟩:=(show ObjOk X.prog X.w H s.heap a (.dT kvs) from I.hok a _ ea)
  exact jJc jJs I.kIn ⟨o,h1,h2.1⟩ e (fun z=>nomatch z) h
 | @ins a C dx fs ea cl ha hn htk hm =>
  cases (show u=Value.ref a from rx);obtain⟨mA,O,_⟩:=z1z I.hok ea;obtain⟨od,J,_⟩:=O.look;exact jJc (PySem.W.kitx_own (cl.get _) cl.hd ha hn htk hm) I.kIn J e (fun z=>nomatch z) h
end
structure Room (k:Nat)(A:jNb):Prop where
 hd:A.handled=none
 dp:A.depth+3*k+5<recursionLimit
 un:A.units+16*k+200<cLine
theorem Room.mono {j k:Nat}{A:jNb}(r:Room k A)(h:j<=k):Room j A:=⟨r.hd,by have:=r.dp;omega,by have:=r.un;omega⟩
theorem Room.deeper {k:Nat}{A:jNb}(r:Room (k+1) A)(env:Env):Room k (A.deeper env):=
 ⟨r.hd,by have:=r.dp;show A.depth+1+3*k+5<_;omega,by have:=r.un;show A.units+3+16*k+200<_;omega⟩
def UX {A:jNb}{C:Addr}{us:List Value}{kw:List (Str×Value)}:(A.under (.builtin "type.__call__" ⟨.ref C::us,kw⟩)).depth=A.depth+1:=by
 first|rfl|simp[Around.under,Code.weight,Code.isCreation,Code.isGuard,Code.isCaller,Code.frames,Code.isFrame,guardIds]
def Qa {A:jNb}{C:Addr}{us:List Value}{kw:List (Str×Value)}:(A.under (.builtin "type.__call__" ⟨.ref C::us,kw⟩)).units=A.units+1:=by
 first|rfl|simp[Around.under,Code.cUnits,Code.frames,Code.isFrame]
theorem Room.make {k:Nat}{A:jNb}(r:Room (k+1) A)(C:Addr)(us:List Value)(kw:List (Str×Value)):Room k (A.under (.builtin "type.__call__" ⟨.ref C::us,kw⟩)):=
 ⟨r.hd,by have:=r.dp;rw[UX];omega,by have:=r.un;rw[Qa];omega⟩
theorem Room.depth {k:Nat}{A:jNb}(r:Room k A):A.depth<recursionLimit:=by have:=r.dp;omega
def z1F:TA:=fun _ H Q=>Q [] H
def ZY (ta:TE)(tr:TA):TA:=fun σ H Q=>ta σ H fun x H1=>tr σ H1 fun xs H2=>Q (x::xs) H2
section
variable {X:Cx}{e:Expr}{es:List Expr}{te:TE}{t:TA}{pos:Pos}
def wF:PA X [] z1F:=fun _ _ _ _ H Q I h=>Calls.spliced_nil ⟨[],H,I,.nil,h⟩
def zR (ha:PE X e te)(hr:PA X es t)(hs:autoParam (jMj (e::es) X.env=(false,eval e X.env)::jMj es X.env) au3._auto_1):PA X (e::es) (ZY te t):=by
 intro pos jNf s σ H Q I h;rw[hs];show jNe _ _ (spliced ((false,eval e X.env)::jNd pos (jMj es X.env))) _ _ s;refine Calls.spliced_cons (thn (ha jNf s σ H _ I h) fun u s1 ⟨x,H1,I1,r1,q1⟩=>?_);exact thn (hr pos jNf s1 σ H1 _ I1 q1) fun us s2 ⟨xs,H2,I2,r2,q2⟩=>⟨x::xs,H2,I2,.cons r1 r2,q2⟩
def z74 (t:TA):TE:=fun σ H Q=>t σ H fun xs H1=>xs.length<=jMi/\∀p,H1 p=none->Q (.ref p) (upd H1 p (.tup xs))
def z7Q (t:TA):TE:=fun σ H Q=>t σ H fun xs H1=>xs.length<=jMi/\∀p,H1 p=none->Q (.ref p) (upd H1 p (.lst xs))
def UO {x1}(h:PA X es t):PE X (.Tuple es x1 pos) (z74 t):=by
 intro jNf s σ H Q I hq;refine wpAny_Tuple_spliced (thn (h pos jNf s σ H _ I hq) fun us s1 ⟨xs,H1,I1,r,z,q⟩=>⟨by rw[<-r.length];exact z,?_⟩);have hf:H1 s1.heap.objs.size=none:=I1.hok.fresh (tP _);refine⟨.ref s1.heap.objs.size,upd H1 s1.heap.objs.size (.tup xs),I1.laid (t':=s1.toks) (fun b u e=>jYb _ e) (tP _) ?_,rfl,q _ hf⟩;exact⟨z,us,r,TupN.new _ _⟩
def z5J (h:PA X es t):PE X (.List es pos) (z7Q t):=by
 intro jNf s σ H Q I hq;refine wpAny_List_spliced (thn (h pos jNf s σ H _ I hq) fun us s1 ⟨xs,H1,I1,r,z,q⟩=>⟨by rw[<-r.length];exact z,?_⟩);have hf:H1 s1.heap.objs.size=none:=I1.hok.fresh (tP _);refine⟨.ref s1.heap.objs.size,upd H1 s1.heap.objs.size (.lst xs),I1.laid (t':=s1.toks) (fun b u e=>jYb _ e) (tP _) ?_,rfl,q _ hf⟩;exact⟨z,us,0,r,jYd _ rfl⟩
end
abbrev Sp:=List V->Hp->VK->XK->Prop
abbrev CXT:=List Env->Hp->jNc->XK->Value->jNc->Prop
structure Env0 (P:jNa)(w:World)(K:jJa)(mg:Str->Option Value)(base:Heap)(A:jNb)(outer:List Env)(s:jNc)(H:Hp):Prop where
 frames:A.frames=some outer
 mod:Mod K mg base
 bs:∀b o,base.get? b=some o->s.heap.get? b=some o/\H b=none
 bsz:base.objs.size<=s.heap.objs.size
 funs:s.heap.FunFrames base outer
 frf:∀b∈frs outer,H b=none
 hok:HOk P w H s.heap
 bare:AllBare s.gens
def CE (outer:List Env)(P:jNa)(w:World)(H:Hp)(s:jNc)(Q:VK)(u:Value)(s':jNc):Prop:=
 ∃v H',s'.os=s.os/\AllBare s'.gens/\Un (frs outer) [] H H' s.heap s'.heap/\HOk P w H' s'.heap/\RelV v u/\Q v H'
def CR (CX:CXT)(outer:List Env)(P:jNa)(w:World)(H:Hp)(s:jNc)(Q:VK)(E:XK)(r:Result)(s':jNc):Prop:=
 match r with
 | .ok (.ret u)=>CE outer P w H s Q u s'
 | .ok _=>False
 | .error e=>CX outer H s E e s'
structure FnOk (P:jNa)(w:World)(K:jJa)(mg:Str->Option Value)(base:Heap)(CX:CXT)(k:Nat)(f:Addr)(fd:FuncData)(ps:List Str)(sp:Sp):Prop where
 len:∀vs H Q E,sp vs H Q E->vs.length=ps.length
 run:∀(A:jNb) (outer:List Env) (s:jNc) (H:Hp) (args:Args) (us:List Value) (vs:List V) (Q:VK) (E:XK),Room k A->Env0 P w K mg base A outer s H->BindsTo s fd args (ps.zip us)->Vals vs us->sp vs H Q E ->
  codeAny (model P w) A (.call (.ref f) args) (CR CX outer P w H s Q E) s
theorem FnOk.mono {P:jNa}{w:World}{K:jJa}{mg:Str->Option Value}{base:Heap}{CX:CXT}{j k:Nat}{f:Addr}{fd:FuncData}{ps:List Str}{sp:Sp}(F:FnOk P w K mg base CX j f fd ps sp)(h:j<=k):
  FnOk P w K mg base CX k f fd ps sp:=⟨F.len,fun A outer s H args us vs Q E hr=>F.run A outer s H args us vs Q E (hr.mono h)⟩
theorem FnOk.imp {P:jNa}{w:World}{K:jJa}{mg:Str->Option Value}{base:Heap}{CX:CXT}{k:Nat}{f:Addr}{fd:FuncData}{ps:List Str}{sp sp':Sp}(F:FnOk P w K mg base CX k f fd ps sp)
  (h:∀vs H Q E,sp' vs H Q E->sp vs H Q E):FnOk P w K mg base CX k f fd ps sp' :=
 ⟨fun vs H Q E q=>F.len vs H Q E (h _ _ _ _ q),fun A outer s H args us vs Q E hr he hb hv hs=>F.run A outer s H args us vs Q E hr he hb hv (h _ _ _ _ hs)⟩
theorem Env0.make {P:jNa}{w:World}{K:jJa}{mg:Str->Option Value}{base:Heap}{A:jNb}{outer:List Env}{s:jNc}{H:Hp}(e:Env0 P w K mg base A outer s H)(C:Addr)(us:List Value)(kw:List (Str×Value)):
  Env0 P w K mg base (A.under (.builtin "type.__call__" ⟨.ref C::us,kw⟩)) outer s H:=⟨by first|exact e.frames|(simpa [Around.under,Code.envs,Code.isFrame,pushEnvs] using e.frames),e.mod,e.bs,e.bsz,e.funs,e.frf,e.hok,e.bare⟩
section
variable {X:Cx}{jNf:List (Addr×Obj)}{σ:St}{H:Hp}{s s':jNc}
theorem Inv.env0 (I:Inv X jNf σ H s):Env0 X.prog X.w X.K X.mg X.base X.A X.stack s H:=
 ⟨I.ok.frames,I.ok.mod,I.bs,rH I.ok.bsz I.sz,I.stack,I.stkFree,I.hok,I.bare⟩
def Inv.after {Q:VK}{u:Value}(I:Inv X jNf σ H s)(h:CE X.stack X.prog X.w H s Q u s'):EP X jNf σ Q u s':=by
 obtain⟨v,H',os,bare,un,hok,r,q⟩:=h;obtain⟨hh,g,d,t,os'⟩:=s';obtain rfl:os'=s.os:=os;exact⟨v,H',I.call (h':=hh) (g':=g) (d':=d) (t':=t) (ch:=[]) un hok bare (fun b z=>absurd z (by simp)),r,q⟩
end
def KD (sp:Sp)(dvs:List V)(E:XK)(t:TA):TE:=fun σ H Q=>t σ H fun vs H1=>sp (vs++dvs) H1 Q E
def Binds (K:jJa)(fd:FuncData)(ps:List Str)(ds:List Value):Prop:=
 ∀(s:jNc) (us:List Value),K.In s.heap->(us++ds).length=ps.length->BindsTo s fd ⟨us,[]⟩ (ps.zip (us++ds))
theorem Binds.all {K:jJa}{fd:FuncData}{ps:List Str}(h:∀us:List Value,us.length=ps.length->bindArgs fd ⟨us,[]⟩=pure (ps.zip us)):Binds K fd ps []:=fun s us _ hl=>by
 rw[tI]at hl ⊢;exact .of_eq (h us hl)
def vj (CX:CXT)(X:Cx)(E:XK):Prop:=∀(jNf:List (Addr×Obj)) (σ:St) (H:Hp) (s:jNc) (e:Value) (s':jNc),Inv X jNf σ H s->CX X.stack H s E e s'->X.xe e s'
section
variable {X:Cx}{CX:CXT}{k:Nat}{f C:Addr}{fd:FuncData}{ps:List Str}{sp:Sp}{dvs:List V}{ds:List Value}{E:XK}{x m:Str}{p pos apos:Pos}{e o:Expr}{es:List Expr}{ta:TE}{t:TA}
def KG {jNf:List (Addr×Obj)}{σ:St}{H:Hp}{s:jNc}{Q:VK}{us:List Value}{vs:List V}(F:FnOk X.prog X.w X.K X.mg X.base CX k f fd ps sp)(hr:Room k X.A)(hb:Binds X.K fd ps ds)(hd:Vals dvs ds)(hx:vj CX X E)
  (I:Inv X jNf σ H s) (r:Vals vs us) (h:sp (vs++dvs) H Q E):jNe (model X.prog X.w) X.A (call (.ref f) us) (EP X jNf σ Q) X.xe s:=by
 have r2:Vals (vs++dvs) (us++ds):=r.append hd;have hl:(us++ds).length=ps.length:=by rw[<-r2.length];exact F.len _ _ _ _ h
 refine wpAny_call (codeAny_mono (F.run X.A X.stack s H ⟨us,[]⟩ (us++ds) (vs++dvs) Q E hr I.env0 (hb s us I.kIn hl) r2 h) fun r s' hq=>?_);cases r with
 | error e=>exact hx jNf σ H s e s' I hq
 | ok fl =>
  cases fl with
  | ret u=>exact I.after hq
  | next=>exact False.elim hq
  | brk=>exact False.elim hq
  | cont=>exact False.elim hq
def z1A (F:FnOk X.prog X.w X.K X.mg X.base CX k f fd ps sp)(hr:Room k X.A)(hg:Gl X x)(hm:X.mg x=some (.ref f))(hk:jJf X.K (.ref f)=true)(hb:Binds X.K fd ps ds)(hd:Vals dvs ds)(hx:vj CX X E)
  (ha:PA X (e::es) t) (hdb:autoParam (nDb x) au1._auto_1) (he:autoParam (jMj (e::es) X.env=(false,eval e X.env)::jMj es X.env) au3._auto_1) (hpl:autoParam ((jNd pos (jMj es X.env)).any (·.1)=false) au3._auto_1):
  PE X (.Call (.Name x p) (e::es) [] pos) (KD sp dvs E t):=by
 intro jNf s σ H Q I h;refine jYf (uv I hg hm ?_ hdb);refine jJi (h₀:=X.base) I.ok.mod.kin hk (thn (ha pos jNf s σ H _ I h) fun us s1 ⟨vs,H1,I1,r,q⟩=>⟨I1.kIn,?_⟩) he hpl;exact KG F hr hb hd hx I1 r q
end
structure FnScope (N P:List Str)(sc:Scope):Prop where
 kind:sc.kind=.function
 co:sc.isCoroutine=false
 gen:sc.isGenerator=false
 nd:N.Nodup
 pre:N.take P.length=P
 par:∀x∈P,sc.names.lookup x=some .local\/sc.names.lookup x=some .cell
 nofree:∀y∈sc.names,y.2≠.free
theorem XA {kindOf:Str->Option NameKind}{x:Str}:∀ {binds:List (Str×Value)} {m:Str->Option Value},(∀v,(x,v)∉binds)->bindL kindOf binds m x=m x
 | [],_,_=>rfl
 | (n,v)::r,m,h=>by
  unfold bindL;rw[XA fun w hw=>h w (tH _ hw)];split
  ·have:x≠n:=by rintro rfl;exact h v tG
   simp[this]
  ·rfl
theorem Xf {kindOf:Str->Option NameKind}{x:Str}:∀ {binds:List (Str×Value)} {m:Str->Option Value},(∀v,(x,v)∉binds)->bindC kindOf binds m x=m x
 | [],_,_=>rfl
 | (n,v)::r,m,h=>by
  unfold bindC;rw[Xf fun w hw=>h w (tH _ hw)];split
  ·rfl
  ·have:x≠n:=by rintro rfl;exact h v tG
   simp[this]
theorem Xc {kindOf:Str->Option NameKind}{x:Str}{v:Value}:∀ {P:List Str} {vs:List Value} {i:Nat} {m:Str->Option Value},P.Nodup->P[i]?=some x->vs[i]?=some v->kindOf x=some .local ->
  bindL kindOf (P.zip vs) m x=some v
 | [],_,_,_,_,h,_,_=>by simp at h
 | _::_,[],_,_,_,_,h,_=>by simp at h
 | p::P,w::vs,0,m,nd,h1,h2,hk=>by
  simp at h1 h2;subst h1;subst h2;show bindL kindOf ((p,w)::P.zip vs) m p=_;unfold bindL;rw[XA fun v hv=>(sP.mp nd).1 (List.of_mem_zip hv).1,jNg hk];simp
 | p::P,w::vs,i+1,m,nd,h1,h2,hk=>by
  show bindL kindOf ((p,w)::P.zip vs) m x=_;unfold bindL;exact Xc (i:=i) (sP.mp nd).2 (by simpa using h1) (by simpa using h2) hk
theorem Xg {kindOf:Str->Option NameKind}{x:Str}{v:Value}:∀ {P:List Str} {vs:List Value} {i:Nat} {m:Str->Option Value},P.Nodup->P[i]?=some x->vs[i]?=some v->kindOf x≠some .local ->
  bindC kindOf (P.zip vs) m x=some v
 | [],_,_,_,_,h,_,_=>by simp at h
 | _::_,[],_,_,_,_,h,_=>by simp at h
 | p::P,w::vs,0,m,nd,h1,h2,hk=>by
  simp at h1 h2;subst h1;subst h2;show bindC kindOf ((p,w)::P.zip vs) m p=_;unfold bindC;rw[Xf fun v hv=>(sP.mp nd).1 (List.of_mem_zip hv).1,jNh hk];simp
 | p::P,w::vs,i+1,m,nd,h1,h2,hk=>by
  show bindC kindOf ((p,w)::P.zip vs) m x=_;unfold bindC;exact Xg (i:=i) (sP.mp nd).2 (by simpa using h1) (by simpa using h2) hk
def start (N:List Str)(vs:List V):St:=vs.map some++List.replicate (N.length-vs.length) none
def yZ (CX:CXT)(P:jNa)(w:World)(K:jJa)(mg:Str->Option Value)(base:Heap)(N:List Str)(qual:Str)(scope:Scope)(f:Addr)(cd:Value)(A:jNb)(outer:List Env)(s:jNc)(H:Hp)(E:XK):Cx where
 prog:=P
 w:=w
 K:=K
 mg:=mg
 base:=base
 A:=A.deeper (envOfC qual scope s.heap.objs.size f cd)
 N:=N
 s₀:=s
 H₀:=H
 env:=envOfC qual scope s.heap.objs.size f cd
 outer:=outer
 stack:=envOfC qual scope s.heap.objs.size f cd::outer
 ex:=[]
 calm:=true
 fn:=fun _=>true
 pn:=[]
 xe:=fun e s'=>jNe (model P w) (A.deeper (envOfC qual scope s.heap.objs.size f cd)) (leaving (envOfC qual scope s.heap.objs.size f cd) e) (fun _ s''=>CX outer H s E e s'') (fun e' s''=>CX outer H s E e' s'') s'
def Ym {sc:Scope}{n:Nat}{x:Str}(h:sc.names.lookup x=some .cell):∃c,(cellsFrom n sc.names []).lookup x=some c:=by
 have q:=jJt sc.names n [] (.inl h);exact Option.isSome_iff_exists.mp q
def XR {CX:CXT}{P:jNa}{w:World}{K:jJa}{mg:Str->Option Value}{base:Heap}{N ps:List Str}{qual:Str}{scope:Scope}{f:Addr}{cd:Value}{A:jNb}{outer:List Env}{s s1:jNc}{H:Hp}{E:XK}{us:List Value}{vs:List V}
  (S:FnScope N ps scope) (hd:A.handled=none) (e0:Env0 P w K mg base A outer s H) (hl:vs.length=ps.length) (r:Vals vs us)
  (x:InCallC s s.heap.objs.size (bindL (envOfC qual scope s.heap.objs.size f cd).kindOf (ps.zip us) fun _=>none) (cellsFrom (s.heap.objs.size+1) scope.names []) (bindC (envOfC qual scope s.heap.objs.size f cd).kindOf (ps.zip us) fun _=>none) s1):
  Inv (yZ CX P w K mg base N qual scope f cd A outer s H E) [] (start N vs) H s1:=by
 have hpl:ps.length<=N.length:=by have:=congrArg List.length S.pre;rw[sZ]at this;omega
 obtain⟨h1,tk,rfl,hk⟩:=x.done;have noA:∀b:Addr,b∉(yZ CX P w K mg base N qual scope f cd A outer s H E).ex:=fun b z=>absurd (show b∈([]:List Addr) from z) (by simp);refine⟨⟨e0.mod,S.kind,rfl,rfl,tP _,fun y z c h1 h2=>?_,fun y hy=>?_,fun y c _ h=>?_,fun _=>hd,Around.frames_deeper e0.frames,.inr ⟨rfl,rfl⟩,fun b z=>absurd z (noA b),e0.bs,e0.bsz,fun b _ _=>noA b,fun b z=>absurd z (noA b),e0.funs,e0.frf⟩,
  rfl,e0.bare,Un.kept hk,⟨_,x.toInCall.ns,fun i y v h1 h2 h3=>?_⟩,fun y c h=>⟨_,x.cell y c h⟩,e0.hok.fresh (tP _),fun y c h=>?_,fun p hp=>absurd (show p∈([]:List (Addr×Obj)) from hp) (by simp),e0.hok.kept hk,?_⟩
 ·exact name_of_addr x.apart (PySem.mem_of_lookup h1) (PySem.mem_of_lookup h2)
 ·have hy:scope.names.lookup y=some .cell\/scope.names.lookup y=some .free:=hy;rcases hy with hy|hy
  ·exact Ym hy
  ·exact absurd rfl (S.nofree _ (PySem.mem_of_lookup hy))
 ·exact gB (x.above y c (PySem.mem_of_lookup h))
 ·have hi:i<vs.length:=by
   unfold start at h2
   by_cases hi:i<vs.length
   ·exact hi
   ·rw[rR (by simpa using hi)]at h2;rw[pO]at h2;split at h2<;>cases h2
  have ha:vs[i]?=some v:=by
   unfold start at h2;rw[pA (by simpa using hi),sL]at h2;cases e:vs[i]? with
   | none=>rw[e]at h2;cases h2
   | some a=>rw[e]at h2;cases h2;rfl
  obtain⟨u,hu,rv⟩:=r.get ha;have hp:ps[i]?=some y:=by
   rw[<-S.pre,List.getElem?_take_of_lt (by omega)];exact h1
  have ndP:ps.Nodup:=by rw[<-S.pre];exact S.nd.sublist (List.take_sublist _ _)
  refine⟨u,rv,?_⟩;rcases S.par y (rX hp)with k|k
  ·exact .inl ⟨k,Xc ndP hp hu k⟩
  ·obtain⟨c,e⟩:=Ym (n:=s.heap.objs.size+1) k;refine .inr ⟨.inl k,c,e,?_⟩;have q:=x.cell y c e;rw[Xg ndP hp hu (by show scope.names.lookup y≠_;rw[k];decide)]at q;exact q
 ·exact e0.hok.fresh (gB (x.above y c (PySem.mem_of_lookup h)))
 ·unfold start;show _=N.length;rw[tD,tJ,rJ];omega
def QU {CX:CXT}{P:jNa}{w:World}{K:jJa}{mg:Str->Option Value}{base:Heap}{k:Nat}{f:Addr}{name qual:Str}{params:Arguments}{body:List Stmt}{scope:Scope}{dV kV doc pm cdv ct oc:Value}{an od:Option Addr}
  {osl:Array (Option Value)} {N ps:List Str} {sp:Sp} (lk:K.lookup f=some ⟨oc,od,.func (jJd name qual params body scope dV kV doc pm an cdv ct),osl⟩) (hcd:jJg K cdv qual=true) (S:FnScope N ps scope)
  (len:∀vs H Q E,sp vs H Q E->vs.length=ps.length)
  (hbody:∀(A:jNb) (outer:List Env) (s:jNc) (H:Hp) (vs:List V) (Q:VK) (E:XK),Room k (A.deeper (envOfC qual scope s.heap.objs.size f cdv))->sp vs H Q E ->
   ∃t,PSs (yZ CX P w K mg base N qual scope f cdv A outer s H E) body t/\t { nx:=fun _ H'=>Q .non H',rt:=Q } (start N vs) H):
  FnOk P w K mg base CX (k+1) f (jJd name qual params body scope dV kV doc pm an cdv ct) ps sp:=by
 refine⟨len,fun A outer s H args us vs Q E hr e0 hb r hsp=>?_⟩;have hl:=len _ _ _ _ hsp;have KX:K.In s.heap:=e0.mod.kin.keeps fun b o e=>(e0.bs b o e).1;have lim:s.heap.NoLimit:=e0.mod.nolimit.keeps fun b o e=>(e0.bs b o e).1;have hkind:∀y∈ps.zip us,scope.names.lookup y.1=some .local\/(scope.names.lookup y.1=some .cell/\((cellsFrom (s.heap.objs.size+1) scope.names []).lookup y.1).isSome=true):=fun⟨n,v⟩ hy=>by
  rcases S.par n (List.of_mem_zip hy).1 with q|q
  ·exact .inl q
  ·exact .inr ⟨q,jJt _ _ _ (.inl q)⟩
 refine codeAny_call_function hr.depth (KX _ _ lk) rfl S.co S.gen rfl (jJ2 KX hcd) (hb _ _ _ _ ?_);refine wpAny_newFunctionEnv_cells S.kind hkind fun env he s1 x=>?_;subst he;refine⟨lim.keeps x.toInCall.keep,codeAny_func ?_⟩;obtain⟨t,ht,hq⟩:=hbody A outer s H vs Q E (hr.deeper _) hsp;have I:Inv (yZ CX P w K mg base N qual scope f cdv A outer s H E) [] (start N vs) H s1:=XR S hr.hd e0 hl r x;refine jMc (ht [] s1 (start N vs) H _ I hq) (fun fl s' hs=>?_) fun e s' hs=>hs;have fin:∀ {σ':St} {H':Hp} {v:V} {u:Value},Inv (yZ CX P w K mg base N qual scope f cdv A outer s H E) [] σ' H' s'->RelV v u->Q v H'->CE outer P w H s Q u s' :=
  fun {σ' H' v u} J rv q=>⟨v,H',J.os,J.bare,J.base,J.hok,rv,q⟩
 cases fl with
 | ret u =>
  obtain⟨v,σ',H',J,rv,q⟩:=hs;exact fin J rv q
 | next =>
  obtain⟨σ',H',J,q⟩:=hs;exact fin (v:=V.non) (u:=Value.none) J rfl q
 | brk =>
  obtain⟨_,_,_,q⟩:=hs;exact False.elim q
 | cont =>
  obtain⟨_,_,_,q⟩:=hs;exact False.elim q
section
variable {X:Cx}{x:Str}{p pos:Pos}{e:Expr}{es:List Expr}{t:TA}{id T:String}{r:List V->Hp->VK->Prop}
def tCB (r:List V->Hp->VK->Prop)(t:TA):TE:=fun σ H Q=>t σ H fun vs H1=>r vs H1 Q
def vP (hc:CallR X (.builtin id) r)(hg:Gl X x)(hm:X.mg x=none)(hv:jKg x=some (.builtin id))(ha:PA X (e::es) t)(hn:autoParam (x≠"__name__") au1._auto_1)(hdb:autoParam (nDb x) au1._auto_1)
  (he:autoParam (jMj (e::es) X.env=(false,eval e X.env)::jMj es X.env) au3._auto_1) (hpl:autoParam ((jNd pos (jMj es X.env)).any (·.1)=false) au3._auto_1):PE X (.Call (.Name x p) (e::es) [] pos) (tCB r t):=by
 intro jNf s σ H Q I h;refine jYf (Yh I hg hm hv ?_ hn hdb);exact PyProof.Rows.callWith_builtin1 (thn (ha pos jNf s σ H _ I h) fun us s1 ⟨vs,H1,I1,r1,q1⟩=>hc jNf s1 σ H1 vs us Q I1 r1 q1) he hpl
def K4 (hc:CallR X (.type T) r)(hg:Gl X x)(hm:X.mg x=none)(hv:jKg x=some (.type T))(ha:PA X (e::es) t)(hn:autoParam (x≠"__name__") au1._auto_1)(hdb:autoParam (nDb x) au1._auto_1)
  (he:autoParam (jMj (e::es) X.env=(false,eval e X.env)::jMj es X.env) au3._auto_1) (hpl:autoParam ((jNd pos (jMj es X.env)).any (·.1)=false) au3._auto_1):PE X (.Call (.Name x p) (e::es) [] pos) (tCB r t):=by
 intro jNf s σ H Q I h;refine jYf (Yh I hg hm hv ?_ hn hdb);exact PyProof.Rows.callWith_type1 (thn (ha pos jNf s σ H _ I h) fun us s1 ⟨vs,H1,I1,r1,q1⟩=>hc jNf s1 σ H1 vs us Q I1 r1 q1) he hpl
end
end L2
namespace HT
open PySem PyProof.Rows
section
variable {prog:jNa}{w:World}{A:jNb}{E:Value->jNc->Prop}{s:jNc}
def cat_tup {t b:Addr}{vs ws:List Value}{Q:Value->jNc->Prop}(ht:IsTup s.heap t vs.toArray)(hb:IsTup s.heap b ws.toArray)(hv:vs≠[])
  (h1:ws=[]->Q (.ref t) s) (h2:ws≠[]->Q (.ref s.heap.objs.size) { s with heap:=s.heap.push { cls:=.type "tuple",data:=.seq (vs++ws).toArray } })
  (hsz:vs.length+ws.length<=jMi):jNe (model prog w) A (binaryOp .Add (.ref t) (.ref b)) Q E s:=by
 obtain⟨⟨cls,dd,data,sl⟩,ho,hc,n,hd⟩:=id ht;obtain⟨⟨cls2,dd2,data2,sl2⟩,ho2,hc2,n2,hd2⟩:=id hb;simp only at hc hd hc2 hd2;subst hc hd hc2 hd2;have e:vs.toArray++ws.toArray=(vs++ws).toArray:=by simp
 by_cases hw:ws=[]
 ·exact concat_meets ⟨_,ho,rfl⟩ ⟨_,ho2,rfl⟩ noFill_tuple_add seq_tuple_add jXd jXe (jXf _ _)
   (tuple_addW1 t b vs.toArray ws.toArray n n2 dd dd2 sl sl2 (by simpa using hv) (by simp[hw])) ⟨ho,ho2,h1 hw⟩
 ·refine concat_meets ⟨_,ho,rfl⟩ ⟨_,ho2,rfl⟩ noFill_tuple_add seq_tuple_add jXd jXe (jXf _ _)
   (tuple_addW2 t b vs.toArray ws.toArray n n2 dd dd2 sl sl2 (by simpa using hv) (by simpa using hw) (by rw[tY,tY];exact hsz)) ⟨ho,ho2,?_⟩
  rw[e];exact h2 hw
def sIx (n d:Nat):Option Int->Nat
 | none=>d
 | some v=>if v<0 then (v+(n:Int)).toNat else min v.toNat n
def sIx_none (n d:Nat):sIx n d none=d:=rfl
def sIx_nat (n d k:Nat):sIx n d (some (k:Int))=min k n:=by
 show (if (k:Int)<0 then ((k:Int)+(n:Int)).toNat else min (k:Int).toNat n)=min k n;rw[jNh (by omega),rV]
def z4M (n d:Nat)(hd:d<=n)(o:Option Int):sIx n d o<=n:=by
 cases o with
 | none=>exact hd
 | some v =>
  show (if v<0 then (v+(n:Int)).toNat else min v.toNat n)<=n
  by_cases hv:v<0
  ·rw[jNg hv];omega
  ·rw[jNh hv];exact Nat.min_le_right _ _
def QI (v:Int)(n d:Nat):(if v<0 then max (v+(n:Int)) 0 else min v (n:Int))=((sIx n d (some v):Nat):Int):=by
 show (if v<0 then max (v+(n:Int)) 0 else min v (n:Int))=(((if v<0 then (v+(n:Int)).toNat else min v.toNat n):Nat):Int)
 by_cases hv:v<0
 ·simp only[jNg hv];omega
 ·simp only[jNh hv];omega
def UU (lo hi:Option Int)(n:Nat):Builtin.Slice.sliceAdjust lo hi 1 (n:Int)=(((sIx n 0 lo:Nat):Int),((sIx n n hi:Nat):Int)):=by
 have h1:¬((1:Int)<0):=by omega
 unfold Builtin.Slice.sliceAdjust;simp only[h1,if_false];refine Prod.ext ?_ ?_
 ·cases lo with
  | none=>rfl
  | some v=>exact QI v n 0
 ·cases hi with
  | none=>rfl
  | some v=>exact QI v n n
def Uy (i j:Nat):Builtin.Slice.slicePlaces (i:Int) (j:Int) 1=j-i:=by
 unfold Builtin.Slice.slicePlaces;have h1:(1:Int)>0:=by omega
 simp only[h1,if_true,Int.ediv_one];split<;>omega
def Y4 {v:Value}{o:Option Int}{Q:Option Int->jNc->Prop}(p:IsPart v o)(h:Q o s):jNe (model prog w) A (Builtin.Slice.slicePartIndex v) Q E s:=by
 cases p with
 | none=>exact slicePart_none h
 | int i t=>exact slicePart_int h
def km {sl:Addr}{vl vu:Value}{lo hi:Option Int}{n:Nat}{Q:Int×Int×Nat->jNc->Prop}(hs:s.heap.IsSliceOf sl vl vu .none)(pl:IsPart vl lo)(pu:IsPart vu hi)
  (h:Q (((sIx n 0 lo:Nat):Int),1,sIx n n hi-sIx n 0 lo) s):jNe (model prog w) A (Builtin.Slice.sliceApplied (.ref sl) (pure (n:Int))) Q E s:=by
 obtain⟨os,hos,hcs,hds⟩:=id hs;unfold Builtin.Slice.sliceApplied Builtin.Slice.sliceFields;refine jMb (jMb (jKk hos hds (x:=vl) rfl (jMb (jKk hos hds (x:=vu) rfl (jMb (jKk hos hds (x:=.none) rfl (jMd ?_)))))));refine jMb (slicePart_none ?_);show jNe _ _ (if ((1:Int)==0)=true then _ else _) _ _ s;rw[jNh (by decide)];refine jMb (Y4 pl (jMb (Y4 pu (jMb (jMd ?_)))));show jNe _ _ (match Builtin.Slice.sliceAdjust lo hi 1 (n:Int)with|(lo,hi)=>pure (lo,(1:Int),Builtin.Slice.slicePlaces lo hi 1)) _ _ s;rw[UU lo hi n];show jNe _ _ (pure (((sIx n 0 lo:Nat):Int),(1:Int),Builtin.Slice.slicePlaces ((sIx n 0 lo:Nat):Int) ((sIx n n hi:Nat):Int) 1)) _ _ s;rw[Uy];exact jMd h
def Kk (xs:Array Value)(i k:Nat):((List.range k).filterMap fun (m:Nat)=>xs[((i:Int)+(m:Int)*1).toNat]?).toArray=((xs.toList.drop i).take k).toArray:=by
 have e:(fun (m:Nat)=>xs[((i:Int)+(m:Int)*1).toNat]?)=fun m=>xs[i+m]?:=by
  funext m
  have:((i:Int)+(m:Int)*1).toNat=i+m:=by omega
  rw[this]
 rw[e];have:=pick_run xs i k;rw[List.filterMap_map]at this;have e2:((fun x=>xs[x]?) ∘ fun x=>i+x)=fun m=>xs[i+m]?:=rfl;rw[e2]at this;rw[this]
def getItem_tuple_cut {t sl:Addr}{items:Array Value}{vl vu:Value}{lo hi:Option Int}{Q:Value->jNc->Prop}(ht:IsTup s.heap t items)(hs:s.heap.IsSliceOf sl vl vu .none)(pl:IsPart vl lo)(pu:IsPart vu hi)
  (hw:¬(sIx items.size 0 lo=0/\sIx items.size items.size hi=items.size))
  (h:Q (.ref s.heap.objs.size) { s with heap:=s.heap.push { cls:=.type "tuple",data:=.seq ((items.toList.drop (sIx items.size 0 lo)).take (sIx items.size items.size hi-sIx items.size 0 lo)).toArray } })
  (hsz:items.size<=jMi):jNe (model prog w) A (getItem (.ref t) (.ref sl)) Q E s:=by
 have htake:sizeOk (.seq ((items.toList.drop (sIx items.size 0 lo)).take (sIx items.size items.size hi-sIx items.size 0 lo)).toArray):=by
  show ((items.toList.drop (sIx items.size 0 lo)).take (sIx items.size items.size hi-sIx items.size 0 lo)).toArray.size<=jMi;rw[tY,sZ,rE,Array.length_toList];omega
 have hj:sIx items.size items.size hi<=items.size:=z4M _ _ (tP _) hi;obtain⟨os,hos,hcs,hds⟩:=id hs;have hTs:s.TypeIs (.ref sl) "slice":=⟨os,hos,hcs⟩
 unfold getItem
 try with_reducible refine jKe ?_
 first|refine jMb (jMd ?_)|skip
 refine jMb (wpAny_sequenceKey ht.typeIs (by decide) ?_);refine jMb (wpAny_callSpecial?_slot (name:=Str.ofString "__getitem__") ht.typeIs PyProof.Rows.slot_tuple_getitem
  (jYj PyProof.Rows.slot_tuple_getitem ht.typeIs entry_tuple_getitem ?_ (args_tuple_getitem _ _)))
 show jNe _ _ (Builtin.Tuple.tupleItemsOf (.ref t) >>= _) _ _ s;refine jMb (tupleItemsOf_ ht ?_);refine jMb (wpAny_typeOf hTs ?_);rw[jNg (by decide)];refine jMb (km hs pl pu ?_);have hno:¬((((sIx items.size 0 lo:Nat):Int)==0&&(1:Int)==1&&(sIx items.size items.size hi-sIx items.size 0 lo)==items.size)=true):=by
  intro q;rw[sR,sR]at q;have q1:((sIx items.size 0 lo:Nat):Int)=0:=eq_of_beq q.1.1;have q2:sIx items.size items.size hi-sIx items.size 0 lo=items.size:=eq_of_beq q.2;exact hw ⟨by omega,by omega⟩
 show jNe _ _ (if (((sIx items.size 0 lo:Nat):Int)==0&&(1:Int)==1&&(sIx items.size items.size hi-sIx items.size 0 lo)==items.size)=true then _ else _) _ _ s;rw[jNh hno,Kk]
 first
  | exact jMb (m:=Builtin.Tuple.tupleExact _) (jYh (jMd ⟨_,rfl,jMd h⟩) htake)
  | exact jMb (m:=Builtin.Tuple.tupleExact _) (jYh (jMb (jMd (jMd ⟨_,rfl,jMd h⟩))) htake)
  | exact jMb (jMb (m:=Builtin.Tuple.tupleExact _) (jYh (jMd (jMd ⟨_,rfl,jMd h⟩)) htake))
  | exact jMb (jMb (m:=Builtin.Tuple.tupleExact _) (jYh (jMd ⟨_,rfl,jMd h⟩) htake))
end
end HT
namespace L2
open PySem PySem.Spec PyProof.Rows
abbrev TO:=St->Hp->(Option Int->Hp->Prop)->Prop
def PO (X:Cx)(e:Option Expr)(t:TO):Prop:=
 ∀(jNf:List (Addr×Obj)) (s:jNc) (σ:St) (H:Hp) (Q:Option Int->Hp->Prop),Inv X jNf σ H s->t σ H Q ->
  jNe (model X.prog X.w) X.A (evalPart e X.env) (fun u s'=>∃o H',Inv X jNf σ H' s'/\IsPart u o/\Q o H') X.xe s
def J6:TO:=fun _ H Q=>Q none H
def z3s (t:TE):TO:=fun σ H Q=>t σ H fun x H1=>∃i,x=.int i/\Q (some i) H1
section
variable {X:Cx}{e:Expr}{te:TE}{lo hi:Option Expr}{tl th:TO}{pos p2:Pos}
def z3i:PO X none J6:=by
 intro jNf s σ H Q I h;rw[evalPart_none];exact jMd ⟨none,H,I,.none,h⟩
def z1J (h:PE X e te):PO X (some e) (z3s te):=by
 intro jNf s σ H Q I hw;rw[evalPart_some];refine thn (h jNf s σ H _ I hw) fun u s1 ⟨x,H1,I1,r1,q1⟩=>?_;obtain⟨i,rfl,q⟩:=q1;obtain⟨t,rfl⟩:=r1;exact⟨some i,H1,I1,.int i t,q⟩
def SlR (X:Cx)(r:V->Option Int->Option Int->Hp->VK->Prop):Prop:=
 ∀(jNf:List (Addr×Obj)) (s:jNc) (σ:St) (H:Hp) (x:V) (v vl vu:Value) (lo hi:Option Int) (sl:Addr) (Q:VK),Inv X jNf σ H s->RelV x v->s.heap.IsSliceOf sl vl vu .none->IsPart vl lo->IsPart vu hi->r x lo hi H Q ->
  ∃T id,typeLookup (.type T) "__getitem__"=pure (some (.builtin id))/\s.TypeIs v T/\jNe (model X.prog X.w) X.A (getItem v (.ref sl)) (EP X jNf σ Q) X.xe s
theorem SlR.or {r r':V->Option Int->Option Int->Hp->VK->Prop}(h:SlR X r)(h':SlR X r'):SlR X (fun x lo hi H Q=>r x lo hi H Q\/r' x lo hi H Q):=by
 intro jNf s σ H x v vl vu lo hi sl Q I rx hs pl pu q;rcases q with q|q
 ·exact h jNf s σ H x v vl vu lo hi sl Q I rx hs pl pu q
 ·exact h' jNf s σ H x v vl vu lo hi sl Q I rx hs pl pu q
def tSl (r:V->Option Int->Option Int->Hp->VK->Prop)(te:TE)(tl th:TO):TE:=fun σ H Q=>te σ H fun x H1=>tl σ H1 fun l H2=>th σ H2 fun u H3=>r x l u H3 Q
def Ku {r:V->Option Int->Option Int->Hp->VK->Prop}(hr:SlR X r)(he:PE X e te)(hl:PO X lo tl)(hu:PO X hi th):PE X (.Subscript e (.Slice lo hi none p2) pos) (tSl r te tl th):=by
 intro jNf s σ H Q I h;refine Subscript_ (thn (he jNf s σ H _ I h) fun v s1 ⟨x,H1,I1,r1,q1⟩=>?_);refine wpAny_Slice (thn (hl jNf s1 σ H1 _ I1 q1) fun vl s2 ⟨l,H2,I2,pl,q2⟩=>thn (hu jNf s2 σ H2 _ I2 q2) fun vu s3 ⟨u,H3,I3,pu,q3⟩=>?_);rw[evalPart_none];refine jMd ?_;have I4:Inv X jNf σ H3 { s3 with heap:=s3.heap.push { cls:=.type "slice",data:=.fields #[vl,vu,.none] } }:=I3.kept (t':=s3.toks) fun b ob q=>jYb _ q;obtain⟨T,id,hT,ht,hg⟩:=hr jNf { s3 with heap:=s3.heap.push { cls:=.type "slice",data:=.fields #[vl,vu,.none] } } σ H3 x v vl vu l u s3.heap.objs.size Q I4 r1 (Heap.IsSliceOf.new ..) pl pu q3;show jNe (model X.prog X.w) X.A (subscriptTail e (.Slice lo hi none p2) v (.ref s3.heap.objs.size)) (EP X jNf σ Q) X.xe { s3 with heap:=s3.heap.push { cls:=.type "slice",data:=.fields #[vl,vu,.none] } };exact tail_any (ops:=[.ref s3.heap.objs.size,v]) ht hT hg (by with_unfolding_all rfl)
def Ug (xs:List V)(lo hi:Option Int):List V:=(xs.drop (HT.sIx xs.length 0 lo)).take (HT.sIx xs.length xs.length hi-HT.sIx xs.length 0 lo)
def Zc (xs:List V)(lo hi:Option Int):(Ug xs lo hi).length<=xs.length:=by
 unfold Ug;rw[sZ,rE];omega
def z8G (K:jJa):V->Option Int->Option Int->Hp->VK->Prop:=fun x lo hi H Q=>∃a xs,x=.ref a/\SqT K H a xs /\
 ¬(HT.sIx xs.length 0 lo=0/\HT.sIx xs.length xs.length hi=xs.length)/\∀p,H p=none->Q (.ref p) (upd H p (.tup (Ug xs lo hi)))
def z5t:SlR X (z8G X.K):=by
 intro jNf s σ H x v vl vu lo hi sl Q I rx hs pl pu h;obtain⟨a,xs,rfl,hx,hw,q⟩:=h;cases rx;obtain⟨its,r,ht,hz⟩:=I.tuple hx;have hlen:its.toArray.size=xs.length:=by rw[tY];exact r.length.symm
 refine⟨"tuple",_,PyProof.Rows.slot_tuple_getitem.lookup,ht.typeIs,?_⟩;refine HT.getItem_tuple_cut ht hs pl pu (by rw[hlen];exact hw) ?_ (by rw[hlen];exact hz);rw[hlen];refine⟨.ref s.heap.objs.size,_,I.laid (t':=s.toks) (o:=.tup (Ug xs lo hi)) (fun b ob q=>jYb _ q) (tP _) ?_,rfl,q _ (I.hok.fresh (tP _))⟩;exact⟨rH (Zc xs lo hi) hz,_,(r.drop (HT.sIx xs.length 0 lo)).take (HT.sIx xs.length xs.length hi-HT.sIx xs.length 0 lo),TupN.new _ _⟩
def z3M (K:jJa):R2:=fun x y H Q=>∃a b xs ys,x=.ref a/\y=.ref b/\SqT K H a xs/\SqT K H b ys/\xs≠[]/\xs.length+ys.length<=jMi /\
 (ys=[]->Q (.ref a) H)/\(ys≠[]->∀p,H p=none->Q (.ref p) (upd H p (.tup (xs++ys))))
def Vals.nil_iff {xs:List V}{us:List Value}(r:Vals xs us):us=[]↔xs=[]:=by
 cases r with
 | nil=>simp
 | cons _ _=>simp
def z3d:OpR X (binaryOp .Add) (z3M X.K):=by
 intro jNf s σ H x y v u Q I rx ry h;obtain⟨a,b,xs,ys,rfl,rfl,ha,hb,hx,hz,q1,q2⟩:=h;cases rx;cases ry;obtain⟨its,r1,p1,_⟩:=I.tuple ha;obtain⟨its2,r2,p2,_⟩:=I.tuple hb;refine HT.cat_tup p1 p2 (fun z=>hx (r1.nil_iff.mp z)) (fun z=>⟨.ref a,H,I,rfl,q1 (r2.nil_iff.mp z)⟩) (fun z=>?_) (by rw[<-r1.length,<-r2.length];exact hz);refine⟨.ref s.heap.objs.size,_,I.laid (t':=s.toks) (o:=.tup (xs++ys)) (fun b ob q=>jYb _ q) (tP _) ?_,rfl,q2 (fun w=>z (r2.nil_iff.mpr w)) _ (I.hok.fresh (tP _))⟩;exact⟨by rw[tD];exact hz,_,r1.append r2,TupN.new _ _⟩
end
def ixN (n:Nat)(i:Int):Option Nat:=if 0<=i then (if i<n then some i.toNat else none) else if -(n:Int)<=i then some (i+n).toNat else none
def atI {α:Type}(xs:List α)(i:Int):Option α:=(ixN xs.length i).bind fun j=>xs[j]?
def XY {n:Nat}{i:Int}{j:Nat}(h:ixN n i=some j):seqIndex? i n=some j/\j<n/\-(n:Int)<=i/\i<n:=by
 unfold ixN at h
 by_cases h0:0<=i
 ·rw[jNg h0]at h
  by_cases h1:i<n
  ·rw[jNg h1]at h;have e:i.toNat=j:=jYe h;exact⟨by rw[seqIndex_of h0 h1,e],by omega,by omega,h1⟩
  ·rw[jNh h1]at h;cases h
 ·rw[jNh h0]at h
  by_cases h1:-(n:Int)<=i
  ·rw[jNg h1]at h;have e:(i+n).toNat=j:=jYe h;exact⟨by rw[seqIndex_neg (by omega) h1,e],by omega,h1,by omega⟩
  ·rw[jNh h1]at h;cases h
def V8 {α:Type}{xs:List α}{i:Int}{v:α}(h:atI xs i=some v):∃j,seqIndex? i xs.length=some j/\xs[j]?=some v/\j<xs.length/\-(xs.length:Int)<=i/\i<xs.length:=by
 unfold atI at h;cases e:ixN xs.length i with
 | none=>rw[e]at h;cases h
 | some j =>
  rw[e]at h;obtain⟨h1,h2,h3,h4⟩:=XY e;exact⟨j,h1,h,h2,h3,h4⟩
def uh {α:Type}{xs:List α}{j:Nat}{v:α}(h:xs[j]?=some v):atI xs (j:Int)=some v:=by
 have hj:j<xs.length:=(tN.mp h).1;have e:ixN xs.length (j:Int)=some j:=by
  unfold ixN;rw[jNg (by omega),jNg (by omega)];simp
 unfold atI;rw[e];exact h
def jx {α:Type}(xs:List α)(v:α):atI (xs++[v]) (-1)=some v:=by
 have hl:(xs++[v]).length=xs.length+1:=by simp
 have e:ixN (xs++[v]).length (-1)=some xs.length:=by
  unfold ixN;rw[hl,jNh (by decide),jNg (by omega)];congr 1;omega
 unfold atI;rw[e];show (xs++[v])[xs.length]?=some v;simp
def Wg (b:Expr):Prop:=∀o i,subscripted b false o i=operate [o,i] (getItem o i)
def IxR (X:Cx)(r:R2):Prop:=
 ∀(value slice:Expr) (jNf:List (Addr×Obj)) (s:jNc) (σ:St) (H:Hp) (x y:V) (v u:Value) (Q:VK),Inv X jNf σ H s->RelV x v->RelV y u->r x y H Q ->
  subscripted slice false v u=operate [v,u] (getItem v u)->jNe (model X.prog X.w) X.A (subscriptTail value slice v u) (EP X jNf σ Q) X.xe s
def MtR (X:Cx)(id:String)(r:V->List V->Hp->VK->Prop):Prop:=
 ∀(jNf:List (Addr×Obj)) (s:jNc) (σ:St) (H:Hp) (x:V) (xs:List V) (v:Value) (us:List Value) (Q:VK),Inv X jNf σ H s->RelV x v->Vals xs us->r x xs H Q ->
  jNe (model X.prog X.w) X.A (call (.builtin id) (v::us)) (EP X jNf σ Q) X.xe s
section
variable {X:Cx}{a b:Expr}{ta tb:TE}{pos:Pos}
theorem IxR.or {r r':R2}(h:IxR X r)(h':IxR X r'):IxR X (fun x y H Q=>r x y H Q\/r' x y H Q):=by
 intro value slice jNf s σ H x y v u Q I rx ry q hs;rcases q with q|q
 ·exact h value slice jNf s σ H x y v u Q I rx ry q hs
 ·exact h' value slice jNf s σ H x y v u Q I rx ry q hs
def ZZ {r:R2}(hr:IxR X r)(ha:PE X a ta)(hb:PE X b tb)(hs:Wg b):PE X (.Subscript a b pos) (tOp r ta tb):=by
 intro jNf s σ H Q I h;exact Subscript_ (z4i ha hb I h fun v u s2 x y H2 I2 rx ry q=>hr a b jNf s2 σ H2 x y v u Q I2 rx ry q (hs _ _))
def z6G (K:jJa):R2:=fun x y H Q=>∃p xs i v,x=.ref p/\y=.int i/\SqL K H p xs/\atI xs i=some v/\Q v H
def z6Z (K:jJa):R2:=fun x y H Q=>∃p xs i v,x=.ref p/\y=.int i/\SqT K H p xs/\atI xs i=some v/\Q v H
def z7l:R2:=fun x y H Q=>∃z i c,x=.str z/\y=.int i/\z.length<=jMi/\atI z.cps.toList i=some c/\Q (.str ⟨#[c]⟩) H
def ix_list:IxR X (z6G X.K):=by
 intro value slice jNf s σ H x y v u Q I rx ry h hs;obtain⟨p,xs,i,z,rfl,rfl,hq,he,q⟩:=h;cases rx;obtain⟨t,rfl⟩:=ry;obtain⟨its,r,pl,hz⟩:=I.list hq;obtain⟨j,h1,h2,h3,h4,h5⟩:=V8 he;obtain⟨w,ew,rw'⟩:=r.get h2;have hl:=r.length;have hn:=ke;have fin:EP X jNf σ Q w s:=⟨z,H,I,rw',q⟩
 by_cases h0:0<=i
 ·have hj:i.toNat=j:=by
   rw[seqIndex_of h0 h5]at h1;exact jYe h1
  exact item_listR pl.isList h0 (by omega) (by rw[hj];simpa using ew) fin hs
 ·have hj:(i+(its.toArray.size:Int)).toNat=j:=by
   rw[seqIndex_neg (by omega) h4]at h1;rw[tY,<-hl];exact jYe h1
  exact subscriptTail_builtinR (x:=w) pl.isList.typeIs slot_list_getitem.lookup
   (wpAny_getItem_list_neg (Q:=fun r s'=>r=w/\EP X jNf σ Q r s') pl.isList (by omega) (by rw[tY]<;>omega) (by omega) (by rw[hj];simpa using ew) ⟨rfl,fin⟩) hs
def ix_tup:IxR X (z6Z X.K):=by
 intro value slice jNf s σ H x y v u Q I rx ry h hs;obtain⟨p,xs,i,z,rfl,rfl,hq,he,q⟩:=h;cases rx;obtain⟨t,rfl⟩:=ry;obtain⟨its,r,pl,hz⟩:=I.tuple hq;obtain⟨j,h1,h2,h3,h4,h5⟩:=V8 he;obtain⟨w,ew,rw'⟩:=r.get h2;have hl:=r.length;have hn:=ke;have fin:EP X jNf σ Q w s:=⟨z,H,I,rw',q⟩
 exact subscriptTail_builtinR (x:=w) pl.typeIs slot_tuple_getitem.lookup
  (getItem_tuple (j:=j) (Q:=fun r s'=>r=w/\EP X jNf σ Q r s') pl (by omega) (by omega) (by rw[tY,<-hl];exact h1) (by simpa using ew) ⟨rfl,fin⟩) hs
def z5s:IxR X z7l:=by
 intro value slice jNf s σ H x y v u Q I rx ry h hs;obtain⟨z,i,c,rfl,rfl,hz,he,q⟩:=h;obtain⟨t,rfl⟩:=rx;obtain⟨t',rfl⟩:=ry;obtain⟨j,h1,h2,h3,h4,h5⟩:=V8 he;have hl:z.cps.toList.length=z.length:=by simp[Str.length]
 rw[hl]at h1 h4 h5;have hn:=ke;exact tail_any (typeIs_str s z t) slot_str_getitem.lookup (getItem_str (c:=c) (by
  have e1:decide (i < -(2 ^ 63:Int))=false:=decide_eq_false (by omega);have e2:decide (i>=2 ^ 63)=false:=decide_eq_false (by omega);rw[e1,e2,Bool.or_false]) (by rw[h1];simpa using h2) ⟨.str ⟨#[c]⟩,H,I.tok _,⟨_,rfl⟩,q⟩) hs
def rIx (K:jJa):R2:=fun x y H Q=>z6G K x y H Q\/z6Z K x y H Q\/z7l x y H Q
def j7:IxR X (rIx X.K):=ix_list.or (ix_tup.or z5s)
def UJ (its:List Value)(n j:Nat)(u:Value):Obj.mapSeq (·.setIfInBounds j u) { cls:=.type "list",data:=.seq its.toArray n }={ cls:=.type "list",data:=.seq (its.set j u).toArray n }:=by
 simp[Obj.mapSeq]
theorem Inv.lst {jNf:List (Addr×Obj)}{σ:St}{H:Hp}{s:jNc}{p:Addr}{xs:List V}(I:Inv X jNf σ H s)(h:H p=some (.lst xs)):
  ∃(its:List Value) (n:Nat),Vals xs its/\s.heap.get? p=some { cls:=.type "list",data:=.seq its.toArray n }/\xs.length<=sizeLine:=by
 obtain⟨z,its,n,r,e⟩:=I.hok p _ h;exact⟨its,n,r,e,z⟩
def Inv.lstUpd {jNf:List (Addr×Obj)}{σ:St}{H:Hp}{s:jNc}{p:Addr}{xs ys:List V}{its its':List Value}{n n':Nat}{f:Obj->Obj}(I:Inv X jNf σ H s)(h:H p=some (.lst xs))
  (ho:s.heap.get? p=some { cls:=.type "list",data:=.seq its.toArray n }) (hf:f { cls:=.type "list",data:=.seq its.toArray n }={ cls:=.type "list",data:=.seq its'.toArray n' }) (r:Vals ys its') (hz:ys.length<=jMi) (t:Nat):
  Inv X jNf σ (upd H p (.lst ys)) { s with heap:=s.heap.update p f,toks:=t }:=by
 have e:(s.heap.update p f).get? p=some { cls:=.type "list",data:=.seq its'.toArray n' }:=by
  rw[Heap.get?_update_self f ho (by rw[hf]<;>rfl),hf]
 refine I.write (x:=p) (e:=p) (by rw[h];trivial) (.inl rfl) (fun b u hb q=>(Heap.get?_update_other _ _ (Ne.symm hb)).trans q) ⟨_,e⟩ ?_;exact⟨hz,its',n',r,e⟩
def z70:V->V->V->Hp->(Hp->Prop)->Prop:=fun o i v H Q=>∃p xs k j,o=.ref p/\i=.int k/\H p=some (.lst xs)/\ixN xs.length k=some j/\Q (upd H p (.lst (xs.set j v)))
def VX:z7d X z70:=by
 intro jNf s σ H o i v ov iv u Q I ro ri rv h;obtain⟨p,xs,k,j,rfl,rfl,hp,hj,q⟩:=h;cases ro;obtain⟨t,rfl⟩:=ri;obtain⟨its,n,r,ho,hz⟩:=I.lst hp;obtain⟨h1,h2,h3,h4⟩:=XY hj;have hl:=r.length;have hn:=ke;have I':Inv X jNf σ (upd H p (.lst (xs.set j v))) { s with heap:=s.heap.update p (Obj.mapSeq (·.setIfInBounds j u)) }:=
  I.lstUpd hp ho (UJ its n j u) (r.set rv j) (by rw[sQ];exact hz) s.toks
 by_cases h0:0<=k
 ·have hk:k.toNat=j:=by
   rw[seqIndex_of h0 h4]at h1;exact jYe h1
  exact PySem.W.ki_setAt ho h0 (by omega) (by rw[tY,<-hl];exact h4) (by rw[hk];exact⟨_,I',q⟩)
 ·have hk:(k+(its.toArray.size:Int)).toNat=j:=by
   rw[seqIndex_neg (by omega) h3]at h1;rw[tY,<-hl];exact jYe h1
  exact PySem.W.ki_setBack ho (by omega) (by rw[tY,<-hl];exact h3) (by omega) (by rw[hk];exact⟨_,I',q⟩)
def W6 (lo hi:Option Int)(n:Nat):(sliceBounds lo hi none n).1=((HT.sIx n 0 lo:Nat):Int)/\(sliceBounds lo hi none n).2.1=((HT.sIx n n hi:Nat):Int)/\(sliceBounds lo hi none n).2.2=1:=by
 refine⟨?_,?_,rfl⟩
 ·cases lo with
  | none=>simp[sliceBounds,HT.sIx]
  | some i =>
   simp only[sliceBounds,HT.sIx,Option.getD_none,show (1:Int)>0 by decide,if_true]
   by_cases h:i<0
   ·simp only[h,if_true]<;>omega
   ·simp only[h,if_false]<;>omega
 ·cases hi with
  | none=>simp[sliceBounds,HT.sIx]
  | some i =>
   simp only[sliceBounds,HT.sIx,Option.getD_none,show (1:Int)>0 by decide,if_true]
   by_cases h:i<0
   ·simp only[h,if_true]<;>omega
   ·simp only[h,if_false]<;>omega
def YV (its:List Value)(lo hi:Option Int):slicePick its.toArray lo hi none=((its.drop (HT.sIx its.length 0 lo)).take (HT.sIx its.length its.length hi-HT.sIx its.length 0 lo)).toArray:=by
 obtain⟨h1,h2,h3⟩:=W6 lo hi its.toArray.size;unfold slicePick;rw[h1,h2,h3];simp only[sliceRange_one,pick_run,tY]<;>rfl
def z8R (K:jJa):V->Option Int->Option Int->Hp->VK->Prop:=fun x lo hi H Q=>∃a xs,x=.ref a/\SqL K H a xs/\∀p,H p=none->Q (.ref p) (upd H p (.lst (Ug xs lo hi)))
def z2M:SlR X (z8R X.K):=by
 intro jNf s σ H x v vl vu lo hi sl Q I rx hs pl pu h;obtain⟨a,xs,rfl,hx,q⟩:=h;cases rx;obtain⟨its,r,ht,hz⟩:=I.list hx;have hlen:=r.length;refine⟨"list",_,slot_list_getitem.lookup,ht.isList.typeIs,?_⟩;refine wpAny_getItem_list_slice ht.isList hs pl pu .none (by simp) ?_ (by rw[tY]<;>omega);rw[YV,<-hlen];refine⟨.ref s.heap.objs.size,_,I.laid (t':=s.toks) (o:=.lst (Ug xs lo hi)) (fun b ob q=>jYb _ q) (tP _) ?_,rfl,q _ (I.hok.fresh (tP _))⟩;exact⟨rH (Zc xs lo hi) hz,_,0,(r.drop (HT.sIx xs.length 0 lo)).take (HT.sIx xs.length xs.length hi-HT.sIx xs.length 0 lo),jYd _ rfl⟩
def qM:V->Bool
 | .non=>true
 | .bl _=>true
 | .int _=>true
 | .str _=>true
 | _=>false
def eqV:V->V->Bool
 | .non,.non=>true
 | .bl a,.bl b=>a==b
 | .bl a,.int b=>(if a then 1 else 0)==b
 | .int a,.bl b=>a==(if b then 1 else 0)
 | .int a,.int b=>a==b
 | .str a,.str b=>a==b
 | _,_=>false
def z59 {A:jNb}{s:jNc}{y x:V}{u v:Value}(ry:RelV y u)(rx:RelV x v)(fy:qM y=true)(fx:qM x=true):SeqAt.EqAt A s u v (eqV y x):=by
 cases y with
 | non =>
  cases ry;cases x with
  | non=>cases rx;exact SeqAt.EqAt.same _
  | bl b=>cases rx;exact SeqAt.EqAt.none_bool b
  | int b=>obtain⟨t,rfl⟩:=rx;exact SeqAt.EqAt.none_int b t
  | str b=>obtain⟨t,rfl⟩:=rx;exact SeqAt.EqAt.none_str b t
  | _=>exact absurd (show false=true from fx) tO
 | bl a =>
  cases ry;cases x with
  | non=>cases rx;exact SeqAt.EqAt.bool_none a
  | bl b=>cases rx;exact SeqAt.EqAt.bool_bool a b
  | int b=>obtain⟨t,rfl⟩:=rx;exact SeqAt.EqAt.bool_int a b t
  | str b=>obtain⟨t,rfl⟩:=rx;exact SeqAt.EqAt.bool_str a b t
  | _=>exact absurd (show false=true from fx) tO
 | int a =>
  obtain⟨t',rfl⟩:=ry;cases x with
  | non=>cases rx;exact SeqAt.EqAt.int_none a t'
  | bl b=>cases rx;exact SeqAt.EqAt.int_bool a t' b
  | int b=>obtain⟨t,rfl⟩:=rx;exact SeqAt.EqAt.int_int a t' b t
  | str b=>obtain⟨t,rfl⟩:=rx;exact SeqAt.EqAt.int_str a t' b t
  | _=>exact absurd (show false=true from fx) tO
 | str a =>
  obtain⟨t',rfl⟩:=ry;cases x with
  | non=>cases rx;exact SeqAt.EqAt.str_none a t'
  | bl b=>cases rx;exact SeqAt.EqAt.str_bool a t' b
  | int b=>obtain⟨t,rfl⟩:=rx;exact SeqAt.EqAt.str_int a t' b t
  | str b=>obtain⟨t,rfl⟩:=rx;exact SeqAt.EqAt.str_str a t' b t
  | _=>exact absurd (show false=true from fx) tO
 | _=>exact absurd (show false=true from fy) tO
def eqU (x:V)(u:Value):Bool:=match u with
 | .none=>eqV .non x
 | .bool b=>eqV (.bl b) x
 | .int i _=>eqV (.int i) x
 | .str z _=>eqV (.str z) x
 | _=>false
def K9 {x y:V}{u:Value}(r:RelV y u)(f:qM y=true):eqU x u=eqV y x:=by
 cases y with
 | non=>cases r;rfl
 | bl b=>cases r;rfl
 | int i=>obtain⟨t,rfl⟩:=r;rfl
 | str z=>obtain⟨t,rfl⟩:=r;rfl
 | _=>exact absurd (show false=true from f) tO
theorem WO {x:V}:∀ {xs:List V} {us:List Value},Vals xs us->xs.all qM=true->us.any (eqU x)=xs.any fun y=>eqV y x
 | _,_,.nil,_=>rfl
 | y::xs,u::us,.cons r t,f=>by
  rw[rP,sR]at f;rw[List.any_cons,List.any_cons,K9 r f.1,WO t f.2]
theorem ZK {A:jNb}{s:jNc}{x:V}{v:Value}(rx:RelV x v)(fx:qM x=true):∀ {xs:List V} {us:List Value},Vals xs us->xs.all qM=true->∀u∈us,SeqAt.EqAt A s u v (eqU x u)
 | _,_,.nil,_=>fun u hu=>by cases hu
 | y::xs,u::us,.cons r t,f=>fun u' hu=>by
  rw[rP,sR]at f;rcases tS.mp hu with rfl|hu
  ·rw[K9 r f.1];exact z59 r rx f.1 fx
  ·exact ZK rx fx t f.2 u' hu
def inV (x:V)(xs:List V):Bool:=xs.any fun y=>eqV y x
def rIn (K:jJa)(neg:Bool):R2:=fun x y H Q=>∃p xs,y=.ref p/\(SqL K H p xs\/SqT K H p xs)/\qM x=true/\xs.all qM=true/\Q (.bl (if neg then !inV x xs else inV x xs)) H
def V7:OpR X (jMe .NotIn) (rIn X.K true):=by
 intro jNf s σ H x y v u Q I rx ry h;obtain⟨p,xs,rfl,hq,fx,fs,q⟩:=h;cases ry;rcases hq with hq|hq
 ·obtain⟨its,r,pl,hz⟩:=I.list hq;refine SeqAt.notIn_listAt (eqU x) pl.isList (fun w hw=>ZK rx fx r fs w (by simpa using hw)) ⟨.bl _,H,I,rfl,?_⟩;rw[show its.toArray.any (eqU x)=its.any (eqU x) by simp,WO r fs];exact q
 ·obtain⟨its,r,pl,hz⟩:=I.tuple hq;refine SeqAt.notIn_tupleAt (eqU x) pl (fun w hw=>ZK rx fx r fs w (by simpa using hw)) ⟨.bl _,H,I,rfl,?_⟩;rw[show its.toArray.any (eqU x)=its.any (eqU x) by simp,WO r fs];exact q
def W4:OpR X (jMe .NotIn) (fun x y H Q=>∃i j,x=.str i/\y=.str j/\Q (.bl (!(!(Builtin.Str.occurrences j i 0 j.length 1).isEmpty))) H):=by
 intro jNf s σ H x y v u Q I rx ry h;obtain⟨i,j,rfl,rfl,q⟩:=h;obtain⟨t,rfl⟩:=rx;obtain⟨t',rfl⟩:=ry;exact notIn_str ⟨.bl _,H,I,rfl,q⟩
def Wu:CallR X (.builtin "len") (fun xs H Q=>∃p ys,xs=[.ref p]/\(SqL X.K H p ys\/SqT X.K H p ys)/\Q (.int ys.length) H):=by
 intro jNf s σ H xs us Q I r h;obtain⟨p,ys,rfl,hq,q⟩:=h;obtain⟨u,rfl,rx⟩:=wO r;cases rx;have hn:=ke;rcases hq with hq|hq
 ·obtain⟨its,r',pl,hz⟩:=I.list hq;have hlen:=r'.length;exact Calls.call_len_list pl.isList (by simp only[tY]<;>omega) ⟨.int ys.length,H,I.tok _,⟨s.toks+1,by rw[tY,hlen]⟩,q⟩
 ·obtain⟨its,r',pl,hz⟩:=I.tuple hq;have hlen:=r'.length;exact len_tuple pl (by simp only[tY]<;>omega) ⟨.int ys.length,H,I.tok _,⟨s.toks+1,by rw[tY,hlen]⟩,q⟩
def WY:CallR X (.builtin "len") (fun xs H Q=>∃z,xs=[.str z]/\z.length<=jMi/\Q (.int z.length) H):=by
 intro jNf s σ H xs us Q I r h;obtain⟨z,rfl,hz,q⟩:=h;obtain⟨u,rfl,t,rfl⟩:=wO r;have hn:=ke;exact len_str (by omega) ⟨.int z.length,H,I.tok _,⟨_,rfl⟩,q⟩
theorem CallR.or {f:Value}{r r':List V->Hp->VK->Prop}(h:CallR X f r)(h':CallR X f r'):CallR X f (fun xs H Q=>r xs H Q\/r' xs H Q):=by
 intro jNf s σ H xs us Q I rs q;rcases q with q|q
 ·exact h jNf s σ H xs us Q I rs q
 ·exact h' jNf s σ H xs us Q I rs q
def jK:CallR X (.type "list") (fun xs H Q=>∃p ys,xs=[.ref p]/\(SqL X.K H p ys\/SqT X.K H p ys)/\∀l,H l=none->Q (.ref l) (upd H l (.lst ys))):=by
 intro jNf s σ H xs us Q I r h;obtain⟨p,ys,rfl,hq,q⟩:=h;obtain⟨u,rfl,rx⟩:=wO r;cases rx;have fin:∀(its:List Value),Vals ys its->ys.length<=jMi->∀(h':Heap) (c':Nat),(∀b o',s.heap.get? b=some o'->h'.get? b=some o') ->
   h'.get? s.heap.objs.size=some { cls:=.type "list",dict:=none,data:=.seq its.toArray c',slots:=#[] }->EP X jNf σ Q (.ref s.heap.objs.size) { s with heap:=h' }:=fun its r' hz h' c' kp e =>
  ⟨.ref s.heap.objs.size,_,I.laid (t':=s.toks) kp (tP _) (show ObjOk X.prog X.w _ h' _ (.lst ys) from⟨hz,its,c',r',e⟩),rfl,q _ (I.hok.fresh (tP _))⟩
 rcases hq with hq|hq
 ·obtain⟨its,r',pl,hz⟩:=I.list hq;have hlen:=r'.length;obtain⟨o,ho,hc,n,hd⟩:=pl.isList;exact call_list_seq p (.inl rfl) ho hc hd (fun h' c' kp e=>fin its r' hz h' c' kp e) (by simp only[tY]<;>omega)
 ·obtain⟨its,r',pl,hz⟩:=I.tuple hq;have hlen:=r'.length;obtain⟨o,ho,hc,n,hd⟩:=pl;exact call_list_seq p (.inr rfl) ho hc hd (fun h' c' kp e=>fin its r' hz h' c' kp e) (by simp only[tY]<;>omega)
def zZ:CallR X (.type "tuple") (fun xs H Q=>∃p ys,xs=[.ref p]/\((SqL X.K H p ys/\∀l,H l=none->Q (.ref l) (upd H l (.tup ys)))\/(SqT X.K H p ys/\Q (.ref p) H))):=by
 intro jNf s σ H xs us Q I r h;obtain⟨p,ys,rfl,h⟩:=h;obtain⟨u,rfl,rx⟩:=wO r;cases rx;rcases h with⟨hq,q⟩|⟨hq,q⟩
 ·obtain⟨its,r',pl,hz⟩:=I.list hq;have hlen:=r'.length;refine call_tuple_list pl.isList (fun h' kp=>?_) (by simp only[tY]<;>omega);have I1:Inv X jNf σ H { s with heap:=h' }:=I.kept (t':=s.toks) kp;have I2:Inv X jNf σ (upd H h'.objs.size (.tup ys)) { s with heap:=h'.push { cls:=.type "tuple",data:=.seq its.toArray } }:=
   I1.laid (t':=s.toks) (fun b o e=>jYb _ e) (tP _) (show ObjOk X.prog X.w _ _ _ (.tup ys) from⟨hz,its,r',TupN.new _ _⟩)
  exact⟨.ref h'.objs.size,_,I2,rfl,q _ (I1.hok.fresh (tP _))⟩
 ·obtain⟨its,r',pl,hz⟩:=I.tuple hq;exact call_tuple_same pl ⟨.ref p,H,I,rfl,q⟩
def tyV (K:jJa)(T:String)(x:V)(H:Hp):Prop:=match x with
 | .str _=>T="str"
 | .int _=>T="int"
 | .ref p=>(T="list"/\∃xs,SqL K H p xs)\/(T="tuple"/\∃o,K.lookup p=some o/\o.cls=.type "tuple"/\o.dict=none) \/
   (T="dict"/\((∃kvs,H p=some (.dK kvs))\/∃kvs,H p=some (.dT kvs)))\/(T="set"/\∃S n,H p=some (.set S n))
 | _=>False
def z4A {jNf:List (Addr×Obj)}{σ:St}{H:Hp}{s:jNc}{T:String}{x:V}{v:Value}(I:Inv X jNf σ H s)(r:RelV x v)(ty:tyV X.K T x H):
  s.TypeIs v T/\∀a,v=.ref a->∃ob,s.heap.get? a=some ob/\ob.dict=none:=by
 cases x with
 | str z =>
  obtain⟨t,rfl⟩:=r;cases (show T="str" from ty);exact⟨typeIs_str s z t,fun _ e=>nomatch e⟩
 | int i =>
  obtain⟨t,rfl⟩:=r;cases (show T="int" from ty);exact⟨typeIs_int s i t,fun _ e=>nomatch e⟩
 | ref p =>
  cases r;rcases ty with⟨rfl,xs,hq⟩|⟨rfl,o,hk,hc,hd⟩|⟨rfl,hk⟩|⟨rfl,S,n,hk⟩
  ·obtain⟨its,_,pl,_⟩:=I.list hq;refine⟨pl.isList.typeIs,fun a e=>?_⟩;cases e;obtain⟨o,n,e,c,hd,_⟩:=pl;exact⟨o,e,hd⟩
  ·refine⟨⟨o,I.kIn p o hk,hc⟩,fun a e=>?_⟩;cases e;exact⟨o,I.kIn _ o hk,hd⟩
  ·have z:∃o,s.heap.get? p=some o/\o.ExactDict:=by
    rcases hk with⟨kvs,hk⟩|⟨kvs,hk⟩
    ·obtain⟨_,_,_,_,o,_,_,e,ex,_⟩:=I.hok p _ hk;exact⟨o,e,ex⟩
    ·obtain⟨_,_,_,_,o,_,_,e,ex,_⟩:=I.hok p _ hk;exact⟨o,e,ex⟩
   obtain⟨o,e,ex⟩:=z;refine⟨⟨o,e,ex.1⟩,fun a e2=>?_⟩;cases e2;exact⟨o,e,ex.2.1⟩
  ·obtain⟨o,_,_,_,e,ex,_⟩:=I.hok p _ hk;refine⟨⟨o,e,ex.1⟩,fun a e2=>?_⟩;cases e2;exact⟨o,e,ex.2.1⟩
 | _=>exact False.elim ty
def tBM (K:jJa)(T:String)(r:V->List V->Hp->VK->Prop)(to:TE)(t:TA):TE:=fun σ H Q=>to σ H fun x H1=>tyV K T x H1/\t σ H1 fun xs H2=>r x xs H2 Q
variable {o e:Expr}{es:List Expr}{to:TE}{t:TA}{name:Str}{apos cpos:Pos}{T id:String}{r:V->List V->Hp->VK->Prop}
def Qk (pa:PlainAttrs T)(slot:Slot T name id)(hty:typeOf (.builtin id)=pure (.type "method_descriptor"))(hm:MtR X id r)(ho:PE X o to)(ha:PA X (e::es) t)
  (hbase:autoParam (jKd o name X.env (eval o X.env)=eval o X.env) au3._auto_1)
  (hfew:autoParam (((jNd cpos (jMj (e::es) X.env)).all (fun x=>!x.1)&&(jMh cpos (jKh [] X.env)).all (fun x=>x.1.isSome)
   && decide ((e::es).length+([]:List jMk).length+(if ([]:List jMk).isEmpty then 0 else 1)<30))=true) au3._auto_1)
  (hline:autoParam ((apos.endLine==cpos.line)=true) au3._auto_1) (hs:autoParam (jMj (e::es) X.env=(false,eval e X.env)::jMj es X.env) au3._auto_1) (hplain:autoParam ((jNd cpos (jMj es X.env)).any (·.1)=false) au3._auto_1):
  PE X (.Call (.Attribute o name apos) (e::es) [] cpos) (tBM X.K T r to t):=by
 intro jNf s σ H Q I h;refine wpAny_Call_method_late hbase hfew hline rfl (thn (ho jNf s σ H _ I h) fun v s1 ⟨x,H1,I1,r1,ty,q1⟩=>?_);obtain⟨h1,h2⟩:=z4A I1 r1 ty;refine⟨T,id,pa,slot,hty,h1,h2,?_⟩;have hA:=ha cpos jNf s1 σ H1 _ I1 q1;rw[hs]at hA ⊢;refine Calls.callWith_builtin (by show (false||(jNd cpos (jMj es X.env)).any (·.1))=false;rw[hplain]<;>rfl) (Calls.evalArgs_plain ?_);exact thn hA fun us s2 ⟨vs,H2,I2,r2,q2⟩=>hm jNf s2 σ H2 x vs v us Q I2 r1 r2 q2
end
def MtM (X:Cx)(id:String)(r:V->List V->Hp->VK->Prop):Prop:=
 ∀(jNf:List (Addr×Obj)) (s:jNc) (σ:St) (H:Hp) (x:V) (xs:List V) (v:Value) (us:List Value) (Q:VK),Inv X jNf σ H s->RelV x v->Vals xs us->r x xs H Q ->
  jNe (model X.prog X.w) X.A (call (.builtin id) (v::us)) (EP X jNf σ Q) X.xe s
theorem Vals.one:∀ {x:V} {us:List Value},Vals [x] us->∃u,us=[u]/\RelV x u
 | _,_,.cons r .nil=>⟨_,rfl,r⟩
theorem Vals.rep {xs:List V}{us:List Value}(h:Vals xs us):∀k:Nat,Vals (List.replicate k xs).flatten (List.replicate k us).flatten
 | 0=>.nil
 | k+1=>by
  rw[sX,sX,pF,pF];exact Vals.append h (Vals.rep h k)
theorem XG (its:List Value):∀(k:Nat) (acc:List Value),
  List.foldl (fun x1 x2=>x1++x2) acc.toArray (List.replicate k its.toArray)=(acc++(List.replicate k its).flatten).toArray
 | 0,acc=>by simp
 | k+1,acc=>by
  have e:acc.toArray++its.toArray=(acc++its).toArray:=by simp
  have e2:(acc++its)++(List.replicate k its).flatten=acc++(List.replicate (k+1) its).flatten:=by
   rw[sX,pF,tQ]
  rw[<-e2,<-XG its k (acc++its),<-e,sX,List.foldl_cons]
section
variable {X:Cx}{jNf:List (Addr×Obj)}{σ:St}{H:Hp}{s:jNc}{l b:Addr}{xs ys zs:List V}
theorem Inv.lset {its its':List Value}{n:Nat}{f:Array Value->Array Value}{t':Nat}(I:Inv X jNf σ H s)(hH:H l=some (.lst xs))
  (e:s.heap.get? l=some { cls:=.type "list",data:=.seq its.toArray n }) (hf:f its.toArray=its'.toArray) (hv:Vals ys its') (hz:ys.length<=jMi):
  Inv X jNf σ (upd H l (.lst ys)) { s with heap:=s.heap.update l (Obj.mapSeq f),toks:=t' }:=by
 have q:=PySem.IsL.update e f;rw[hf]at q;refine I.write (x:=l) (e:=l) (by rw[hH];exact trivial) (.inl rfl) (fun b' u hb hu=>(Heap.get?_update_other s.heap (Obj.mapSeq f) (Ne.symm hb)).trans hu) ⟨_,q⟩ ?_;exact⟨hz,its',_,hv,q⟩
theorem Inv.lnew {its:List Value}{t':Nat}(I:Inv X jNf σ H s)(hv:Vals ys its)(hz:ys.length<=jMi):
  Inv X jNf σ (upd H s.heap.objs.size (.lst ys)) { s with heap:=s.heap.push { cls:=.type "list",data:=.seq its.toArray },toks:=t' }:=
 I.laid (fun _ _ q=>jYb _ q) (tP _) ⟨hz,its,0,hv,jYd _ rfl⟩
theorem Inv.fresh (I:Inv X jNf σ H s):H s.heap.objs.size=none:=I.hok.fresh (tP _)
theorem Inv.lstM (I:Inv X jNf σ H s)(hH:H l=some (.lst xs)):xs.length<=jMi/\∃(its:List Value) (n:Nat),Vals xs its/\xs.length=its.length/\s.heap.get? l=some { cls:=.type "list",data:=.seq its.toArray n }:=by
 obtain⟨z,its,n,r,e⟩:=I.hok l _ hH;exact⟨z,its,n,r,r.length,e⟩
def z0V {n:Nat}(h:n<=jMi):Builtin.List.listTooLong n=false:=by
 unfold Builtin.List.listTooLong;exact decide_eq_false (by omega)
end
section
variable {X:Cx}
def z1X:V->List V->Hp->VK->Prop:=fun x vs H Q=>∃l xs y,x=.ref l/\vs=[y]/\H l=some (.lst xs)/\xs.length<jMi/\Q .non (upd H l (.lst (xs++[y])))
def qE:MtM X "list.append" z1X:=by
 intro jNf s σ H x vs v us Q I rx rv h;obtain⟨l,xs,y,rfl,rfl,hH,hz,q⟩:=h;cases rx;obtain⟨u,rfl,ru⟩:=rv.one;obtain⟨z,its,n,r,hl,e⟩:=I.lstM hH;refine call_meets F.slot_list_append ⟨_,e,rfl⟩ F.entry_list_append (F.args_list_append_2 _ _) (PySem.list_append l its.toArray n u (by rw[tY];omega)) ⟨e,?_⟩;refine⟨.non,_,I.lset (its':=its++[u]) hH e (by simp) (r.append (.cons ru .nil)) ?_,rfl,q⟩;rw[tD,pU];omega
def z6X:R2:=fun x y H Q=>∃l b xs zs,x=.ref l/\y=.ref b/\H l=some (.lst xs)/\H b=some (.lst zs)/\xs.length+zs.length<=jMi/\∀p,H p=none->Q (.ref p) (upd H p (.lst (xs++zs)))
def z52:OpR X (binaryOp .Add) z6X:=by
 intro jNf s σ H x y v u Q I rx ry h;obtain⟨l,b,xs,zs,rfl,rfl,hH,hB,hz,q⟩:=h;cases rx;cases ry;obtain⟨z,its,n,r,hl,e⟩:=I.lstM hH;obtain⟨z2,its2,n2,r2,hl2,e2⟩:=I.lstM hB;refine PySem.P.add_list e e2 ?_ (by rw[tY,tY];omega);have ea:its.toArray++its2.toArray=(its++its2).toArray:=by simp
 rw[ea];exact⟨.ref _,_,I.lnew (t':=s.toks) (r.append r2) (by rw[tD];omega),rfl,q _ I.fresh⟩
def z5L:R2:=fun x y H Q=>∃l k xs,x=.ref l/\y=.int k/\H l=some (.lst xs)/\-(2 ^ 63)<=k/\k<2 ^ 63/\xs.length*k.toNat<=jMi /\
 ∀p,H p=none->Q (.ref p) (upd H p (.lst (List.replicate k.toNat xs).flatten))
def z2W {α:Type}(xs:List α)(k:Nat):(List.replicate k xs).flatten.length=k*xs.length:=by
 induction k with
 | zero=>simp
 | succ k ih=>rw[sX,pF,tD,ih,gE,Nat.add_comm]
def z4C:OpR X (binaryOp .Mult) z5L:=by
 intro jNf s σ H x y v u Q I rx ry h;obtain⟨l,k,xs,rfl,rfl,hH,h1,h2,hz,q⟩:=h;cases rx;obtain⟨t,rfl⟩:=ry;obtain⟨z,its,n,r,hl,e⟩:=I.lstM hH;have hlen:its.toArray.size*k.toNat<=sizeLine:=by rw[tY,<-hl];exact hz
 have hcap:¬its.toArray.size*k.toNat>(2 ^ 63-1)/8:=by
  have:(sizeLine:Nat)<=(2 ^ 63-1)/8:=by decide
  omega
 have hfit:¬(!Builtin.List.listFitsIndex k)=true:=by
  rw[fitsIndex_both h1 h2];exact tO
 have hlong:¬Builtin.List.listTooLong (its.toArray.size*k.toNat)=true:=by
  rw[z0V hlen];exact tO
 have hnew:List.foldl (fun x1 x2=>x1++x2) #[] (List.replicate (if its.toArray.isEmpty=true then 0 else k.toNat) its.toArray)=(List.replicate k.toNat its).flatten.toArray:=by
  have f0:∀m:Nat,List.foldl (fun x1 x2=>x1++x2) #[] (List.replicate m its.toArray)=(List.replicate m its).flatten.toArray:=fun m=>by
   have:=XG its m [];rw[tZ]at this;exact this
  rw[f0];cases its with
  | nil=>simp
  | cons a r'=>rw[jNh (by simp)]
 refine wpAny_binaryOp_repeat_ref (T:="list") (U:="int") (by decide) ⟨_,e,rfl⟩ (fun s'=>typeIs_int s' k t) noFill_list_mul F.fills_int_mul F.slot_int_rmul repeat_list F.slot_int_index.lookup
  (call_meets F.slot_int_rmul (typeIs_int s k t) F.entry_int_rmul (F.args_int_rmul_2 _ _) (int___rmul___int_list k t l its.toArray n)
   ⟨e,rfl,⟨_,e,rfl⟩,call_meets F.slot_list_mul ⟨_,e,rfl⟩ F.entry_list_mul (F.args_list_mul_2 _ _) (AutoListH.list___mul___list_int_3 l its.toArray n k t hfit hcap hlong) ⟨e,?_⟩⟩)
 rw[hnew];exact⟨.ref _,_,I.lnew (t':=s.toks) (r.rep k.toNat) (by rw[z2W,Nat.mul_comm];exact hz),rfl,q _ I.fresh⟩
end
section
variable {κ:Type}[DecidableEq κ]
def Zi (kvs:List (κ×V))(k:κ):Option V:=(kvs.find? fun kv=>decide (kv.1=k)).map (·.2)
def Yq {p:κ×V}{r:List (κ×V)}{k:κ}(e:p.1=k):Zi (p::r) k=some p.2:=by simp[Zi,pV,e]
def je {p:κ×V}{r:List (κ×V)}{k:κ}(e:¬p.1=k):Zi (p::r) k=Zi r k:=by simp[Zi,pV,e]
theorem KV.val {kvs:List (κ×V)}{vs:List (κ×Value)}(r:KV kvs vs)(k:κ):RelO (Zi kvs k) (valueAt vs k):=by
 unfold KV at r
 induction r with
 | nil=>exact True.intro
 | @cons p q ps qs h t ih =>
  obtain⟨h1,h2⟩:=h
  by_cases e:p.1=k
  ·have e':q.1=k:=h1.symm.trans e;have b:valueAt (q::qs) k=some q.2:=by simp[valueAt,pV,e']
   rw[Yq e,b];exact h2
  ·have e':¬q.1=k:=fun z=>e (h1.trans z);have b:valueAt (q::qs) k=valueAt qs k:=by simp[valueAt,pV,e']
   rw[je e,b];exact ih
theorem KV.length (r:KV kvs vs):kvs.length=vs.length:=Paired.length r
end
def z3E (r:RelV (kV k) u):(xR P w).is k u=true:=by
 cases k with
 | inl i=>obtain⟨t,e⟩:=(show ∃t,u=Value.int i t from r);subst e;exact Vv P w i t
 | inr x=>obtain⟨t,e⟩:=(show ∃t,u=Value.str x t from r);subst e;exact U9 P w x t
 | non=>cases (show u=Value.none from r);exact U4 P w
theorem Xi:∀ {ks:List Key} {us:List Value},Vals (ks.map kV) us->ItemsAre (xR P w) ks us
 | [],_,r=>by rw[rK]at r;cases r;exact .nil
 | k::ks,_,r=>by
  rw[tK]at r;cases r with
  | cons h t=>exact .cons (z3E h) (Xi t)
abbrev KT (H:Hp):List (List Key×V)->List (List Key×Addr×Value)->Prop:=Paired fun p q=>p.1=q.1/\H q.2.1=some (.tup (p.1.map kV))/\RelV p.2 q.2.2
theorem KT.val {H:Hp}{kvs:List (List Key×V)}{xs:List (List Key×Addr×Value)}(r:KT H kvs xs)(k:List Key):RelO (Zi kvs k) ((atKey xs k).map (·.2)):=by
 induction r with
 | nil=>exact True.intro
 | @cons p q ps qs h t ih =>
  obtain⟨h1,_,h2⟩:=h
  by_cases e:p.1=k
  ·have e':q.1=k:=h1.symm.trans e;have b:atKey (q::qs) k=some q.2:=by simp[atKey,pV,e']
   rw[Yq e,b];exact h2
  ·have e':¬q.1=k:=fun z=>e (h1.trans z);have b:atKey (q::qs) k=atKey qs k:=by simp[atKey,pV,e']
   rw[je e,b];exact ih
section
def z49 (ok:HOk P w H h)(e:Rd H a u):ObjOk P w H h a u:=e.ok ok
def YH (ok:HOk P w H h)(e:Rd H a (.dK kvs)):kvs.length<=jMi/\(a==sysModules)=false/\∃vs,KV kvs vs/\h.DictOf (xR P w) a vs:=
 show ObjOk P w H h a (.dK kvs) from z49 ok e
def KY (ok:HOk P w H h)(e:H a=some (.tup (ks.map kV))):(tupleKind (xR P w)).is h ks a:=by
 obtain⟨_,its,r,o,h1,h2,_,n,h3⟩:=(show ObjOk P w H h a (.tup (ks.map kV)) from ok a _ e)
 exact⟨o,its.toArray,n,h1,h2,h3,by simpa using Xi r⟩
def z41 (ok:HOk P w H h)(e:Rd H a (.dT kvs)):kvs.length<=jMi/\(a==sysModules)=false /\
  ∃xs,KT H kvs xs/\h.DictOfH (tupleKind (xR P w)) a xs:=by
 obtain⟨z,y,xs,r,o,es,ep,h1,h2,h3,h4,h5⟩:=(show ObjOk P w H h a (.dT kvs) from z49 ok e)
 refine⟨z,y,xs,r,o,es,ep,h1,h2,h3,h4,fun x hx=>?_,h5⟩;have all:∀ {l:List (List Key×V)} {m:List (List Key×Addr×Value)},KT H l m->∀x∈m,(tupleKind (xR P w)).is h x.1 x.2.1:=by
  intro l m q
  induction q with
  | nil=>intro x hx;exact nomatch hx
  | @cons p q ps qs hq t ih =>
   intro x hx;rcases tS.mp hx with e|hx
   ·subst e;exact KY ok (by rw[<-hq.1];exact hq.2.1)
   ·exact ih x hx
 exact all r x hx
end
def DGet (H:Hp)(a:Addr)(y:V)(r:Option V):Prop:=
 (∃kvs k,Rd H a (.dK kvs)/\y=kV k/\r=Zi kvs k)\/∃kvs k b,Rd H a (.dT kvs)/\y=.ref b/\H b=some (.tup (k.map kV))/\r=Zi kvs k
theorem DGet.k {H:Hp}{a:Addr}{kvs:List (Key×V)}{k:Key}(e:H a=some (.dK kvs)):DGet H a (kV k) (Zi kvs k):=.inl ⟨kvs,k,.inl e,rfl,rfl⟩
section
theorem Inv.big (I:Inv X jNf σ H s):sysModules<s.heap.objs.size:=by
 have h:jKi<s.heap.objs.size:=(I.mod.glob.keeps I.bk).lt;exact Nat.lt_trans (by decide) h
def Js (hu:A.units+1<cLine)(I:Inv X jNf σ H s)(g:DGet H a y (some v))(ry:RelV y u)(h:∀w' s',Inv X jNf σ H s'->RelV v w'->Q w' s'):
  jNe (model X.prog X.w) A (getItem (.ref a) u) Q E s:=by
 rcases g with⟨kvs,k,e,ey,l⟩|⟨kvs,k,b,e,ey,eb,l⟩
 ·subst ey;obtain⟨z,hd,vs,rel,dd⟩:=YH I.hok e;obtain⟨w',hw,rw'⟩:=RelO.some_of (v:=v) (o:=valueAt vs k) (by rw[l];exact rel.val k);exact wpAny_getItem_of (z3E ry) dd.mapOf hw (h w' _ (I.tok _) rw')
 ·subst ey;cases (show u=Value.ref b from ry);obtain⟨z,hd,xs,rel,dd⟩:=z41 I.hok e;obtain⟨w',hw,rw'⟩:=RelO.some_of (v:=v) (o:=(atKey xs k).map (·.2)) (by rw[l];exact rel.val k);obtain⟨p,hp,hp2⟩:=tV.mp hw;refine wpAny_getItem_heap (tupleKind_room_in1 hu) (KY I.hok eb) dd hp ?_;rw[hp2];exact h w' _ (I.tok _) rw'
end
section
variable {X:Cx}{jNf:List (Addr×Obj)}{σ:St}{H:Hp}{s:jNc}{a:Addr}{kvs:List (Key×V)}{k:Key}{u:Value}{A:jNb}{E:Value->jNc->Prop}
def z6S (I:Inv X jNf σ H s)(e:Rd H a (.dK kvs))(h:∀t s',Inv X jNf σ H s'->Q (.int kvs.length t) s'):jNe (model X.prog X.w) A (call (.builtin "len") [.ref a]) Q E s:=by
 obtain⟨z,hd,vs,rel,dd⟩:=YH I.hok e;refine call_len_dict hd dd (by rw[<-rel.length];rw[jKj]at z;omega) ?_;rw[<-rel.length];exact h _ _ (I.tok _)
end
def z7M (i:Expr):Prop:=∀ov iv,subscripted i false ov iv=operate [ov,iv] (getItem ov iv)
def z3n {prog:jNa}{w:World}{A:jNb}{E:Value->jNc->Prop}{s:jNc}{env:Env}{value slice:Expr}{pos:Pos}{T id:String}{Q:Value->jNc->Prop}
  (hl:typeLookup (.type T) "__getitem__"=pure (some (.builtin id))) (hs:z7M slice)
  (h:jNe (model prog w) A (eval value env) (fun o s₁=>jNe (model prog w) A (eval slice env) (fun i s₂=>s₂.TypeIs o T/\jNe (model prog w) A (getItem o i) Q E s₂) E s₁) E s):
  jNe (model prog w) A (eval (.Subscript value slice pos) env) Q E s:=by
 refine Subscript_ (jMc h (fun o s₁ h₁=>jMc h₁ (fun i s₂ h₂=>?_) fun _ _ x=>x) fun _ _ x=>x);obtain⟨hT,h₂⟩:=h₂;unfold subscriptTail;refine jMb ?_;rw[getitemInPython_of_ne hT.not_modules];refine jMb (wpAny_specialOf hT hl ?_);have fin:jNe (model prog w) A (subscripted slice false o i) (fun r s₃=>jNe (model prog w) A (letTemporaryGo value o r >>= fun _=>pure r) Q E s₃) E s₂:=by
  rw[hs o i];exact wpAny_operating (jMc h₂ (fun r s₃ h₃=>jMb (wpAny_letTemporaryGo (jMd h₃))) fun _ _ x=>x)
 first
  | exact jMd (jMb fin)
  | exact jMb (jMd (jMb fin))
  | exact jMb fin
def VF (I:Inv X jNf σ H s)(g:DGet H a y o):s.TypeIs (.ref a) "dict":=by
 rcases g with⟨kvs,k,e,_,_⟩|⟨kvs,k,b,e,_,_,_⟩
 ·obtain⟨_,_,vs,_,dd⟩:=YH I.hok e;exact dd.typeIs
 ·obtain⟨_,_,xs,_,dd⟩:=z41 I.hok e;exact dd.typeIs
def z3R (td ty:TE):TE:=fun σ H Q=>td σ H fun x H1=>ty σ H1 fun y H2=>∃a v,x=.ref a/\DGet H2 a y (some v)/\Q v H2
section
def z3o (hu:X.A.units+1<cLine)(ho:PE X o td)(hi:PE X i ty)(hs:z7M i):PE X (.Subscript o i pos) (z3R td ty):=by
 intro jNf s σ H Q I h;refine z3n PySem.F.slot_dict_getitem.lookup hs (thn (ho jNf s σ H _ I h) fun u s1 ⟨x,H1,I1,rx,q1⟩=>thn (hi jNf s1 σ H1 _ I1 q1) fun iv s2 ⟨y,H2,I2,ry,a,v,ex,g,q2⟩=>?_);subst ex;obtain rfl:u=Value.ref a:=rx;exact⟨VF I2 g,Js hu I2 g ry fun w' s3 I3 rw'=>⟨v,H2,I3,rw',q2⟩⟩
end
def Ks (h:Heap)(hb:sysModules<h.objs.size):ObjOk P w H (h.push { cls:=.type "dict",data:=.dict #[] }) h.objs.size (.dK []):=
 ⟨rC _,beq_eq_false_iff_ne.mpr (Ne.symm (sV hb)),[],.nil,Heap.DictOf.new h⟩
def z4k:TE:=fun _ H Q=>∀p,H p=none->Q (.ref p) (upd H p (.dK []))
section
def KL:PE X (.Dict [] [] pos) z4k:=fun jNf s σ H Q I h =>
 wpAny_Dict_empty ⟨.ref s.heap.objs.size,_,I.laid (a:=s.heap.objs.size) (o:=.dK []) (t':=s.toks) (fun _ _ q=>jYb _ q) (tP _) (Ks s.heap I.big),rfl,h _ (I.hok.fresh (tP _))⟩
end
structure M1 (X:Cx)(o:Expr)(m:Str)(apos:Pos)(e:Expr)(cpos:Pos):Prop where
 base:jKd o m X.env (eval o X.env)=eval o X.env
 few:((jNd cpos (jMj [e] X.env)).all (fun x=>!x.1)&&(jMh cpos (jKh [] X.env)).all (fun x=>x.1.isSome)
  && decide (([e]:List Expr).length+([]:List jMk).length+(if ([]:List jMk).isEmpty then 0 else 1)<30))=true
 line:(apos.endLine==cpos.line)=true
 trees:jNd cpos (jMj [e] X.env)=[(false,eval e X.env)]
end L2
namespace Att
open PySem PySem.W PySem.Calls PyProof.Rows
def Zh:∀(ns:List Int) (vs:List Value),WellAll P h vs (ns.map WData.int)->IntsAre vs ns:=by
 intro ns
 induction ns with
 | nil =>
  intro vs w;rw[rK]at w;cases w;exact .nil
 | cons n ns ih =>
  intro vs w;rw[tK]at w;cases w with
  | cons a b =>
   cases a;exact .cons _ _ (ih _ b)
def Jv {l:OpenLaw}{n:Nat}(hn:l.most=some n){P:Params}{h:Heap}{args:List WData}{vals:List Value}
  (hpre:l.row.toRowW.claim.pre args=true) (hwl:WellAll P h vals args):
  ∃a vs ns,vals=[Value.ref a]/\args=[WData.list (ns.map WData.int)]/\h.get? a=some { cls:=.type "list",data:=.seq vs.toArray }/\IntsAre vs ns/\ns.length<=n:=by
 have hsh:WShape.hasAll [] args [.list .int]=true:=(pre_splitW hpre).1;have hc:l.pre.holds [] { args:=args }=true:=(pre_splitW hpre).2;obtain⟨d,r,rfl,h1,h2⟩:=hasAllW_cons hsh;obtain rfl:=hasAllW_nil h2;obtain⟨xs,rfl,h3⟩:=hasW_list h1;obtain⟨ns,rfl⟩:=items_int h3;have hlen:ns.length<=n:=by
  unfold OpenLaw.pre at hc;have h4:(WTm.not (.lt (.lit (.int (n:Int))) (.len (.arg 0)))).holds [] { args:=[.list (ns.map .int)] }=true:=by
   have h4:=(holds_andW hc).1;rw[hn]at h4;exact h4
  have h5:=condW_of h4 (w_not (w_lt w_lit (w_len_list (w_arg rfl))));rw[tJ]at h5;refine Nat.le_of_not_lt fun q=>?_;have q':(n:Int)<((ns.length:Nat):Int):=by omega
  first
   | (rw[decide_eq_true q']at h5;exact absurd h5 (by decide))
   | (simp at h5;omega)
 cases hwl with
 | cons w1 w2 =>
  cases w2;cases w1 with
  | list ho hall=>exact⟨_,_,ns,rfl,rfl,ho,Zh ns _ hall,hlen⟩
def K6 (l:OpenLaw)(args:List WData):l.row.toRowW.claim.post args (.bool true) args=true:=
 postW_of (r:=l.row.toRowW) (X:=(true==true))
  (show WShape.has [] (.bool true) .bool=true by first|rfl|decide|simp[WShape.has,WShape.arms,WShape.armsAll])
  (show (WTm.eq .res (.lit (.bool true))).value [] { args:=args,res:=some (.bool true),after:=args }=some (.bool (true==true)) from w_eq_bool (w_res rfl) w_lit) rfl
def attach_call {l:OpenLaw}{n:Nat}{q:jNa}{loose:List Str}{XP:(Str->Option Value)->Heap->Prop}{YP:World->Heap->Prop}{d:DefRec}
  (hn:l.most=some n) (hdf:d.params.defaults=[])
  (call:∀(w:World) (s₀ s₁:jNc) (mg mb:Str->Option Value) (fa:Addr) (o:Obj) (pm cd doc:Value) (a:Addr) (vs:List Value) (ns:List Int),
   Ground q loose [] XP w s₀ mg mb s₁.heap->YP w s₁.heap ->
   s₁.heap.get? fa=some o->o.data=.func (docDef d.name d.params d.body d.scope pm cd doc)->s₁.heap.CodeRec cd d.name->mg d.name=some (.ref fa) ->
   s₁.heap.get? a=some { cls:=.type "list",data:=.seq vs.toArray }->IntsAre vs ns->ns.length<=n->s₁.gens=#[] ->
   codeAny (model l.prog w) callerA (.call (.ref fa) ⟨[.ref a],[]⟩) (fun r s'=>r=.ok (.ret (.bool true))/\OldK s₁.heap s'.heap/\s'.os=s₁.os/\AllBare s'.gens) s₁):
  WalkO q loose XP YP l.row.toRowW d [] (fun f vs=>PySem.call f vs):=by
 intro w s₀ s₁ mg mb G Y fa o pm cd doc dV kV ho hd hcd hD hmg hg args vals as hpre hlay hrd hwl hlo;obtain rfl:dV=.none:=Dflts.none hD hdf;obtain rfl:kV=.none:=Dflts.noKw hD;obtain⟨a,vs,ns,rfl,rfl,hobj,hints,hlen⟩:=Jv hn hpre hwl;refine enter_call (codeAny_mono (call w s₀ s₁ mg mb fa o pm cd doc a vs ns G Y ho (fd_plain hd) hcd hmg hobj hints hlen hg) fun r s' hq=>?_);obtain⟨rfl,h2,h3,h4⟩:=hq;exact⟨.inl ⟨.bool true,.bool true,[],rfl,fun _=>rfl,.bool true,K6 l _,fun _=>⟨List.Pairwise.nil,fun _ hm=>(nomatch hm)⟩⟩,h2,h3,h4⟩
end Att
namespace L2
open PySem PySem.Spec PyProof.Rows
theorem Xu:∀ {vs:List Value} {ns:List Int},IntsAre vs ns->Vals (ns.map V.int) vs
 | _,_,.nil=>.nil
 | _,_,.cons n t h=>.cons ⟨t,rfl⟩ (Xu h)
def z2l (H:Hp):Prop:=∀b,H b=none\/∃o xs,H b=some (.frz o (.lst xs))
def z0I {P:jNa}{w:World}{K:jJa}{mg mb:Str->Option Value}{CX:CXT}{k:Nat}{fa a:Addr}{fd:FuncData}{x:Str}{sp:Sp}{s₁:jNc}{vs:List Value}{ns:List Int}
  (KX:K.In s₁.heap) (hns:s₁.heap.Ns jKi mg) (hb:s₁.heap.Ns builtinsNs mb) (hbb:∀x:Str,x≠"__name__"->mb x=jKg x) (hlim:s₁.heap.NoLimit) (hg:s₁.gens=#[])
  (ha:s₁.heap.get? a=some { cls:=.type "list",data:=.seq vs.toArray }) (hi:IntsAre vs ns) (hl:ns.length<=jMi) (hr:Room k callerA)
  (F:∀base:Heap,K.In base->base.Ns jKi mg->FnOk P w K mg base CX k fa fd [x] sp) (hbind:∀(s:jNc) (u:Value),BindsTo s fd ⟨[u],[]⟩ [(x,u)])
  (hsp:∀H:Hp,z2l H->SqL K H a (ns.map V.int)->sp [.ref a] H (fun v _=>v=.bl true) fun _ _ _=>False)
  (hCX:∀H e s',CX [] H s₁ (fun _ _ _=>False) e s'->False):
  codeAny (model P w) callerA (.call (.ref fa) ⟨[.ref a],[]⟩) (fun r s'=>r=.ok (.ret (.bool true))/\OldK s₁.heap s'.heap/\s'.os=s₁.os/\AllBare s'.gens) s₁:=by
 have rv:=Xu hi;have lenV:=hi.length;have core:∀H:Hp,z2l H->SqL K H a (ns.map V.int)->HOk P w H s₁.heap->(∀b,H b≠none->b=a)->(H a≠none->K.lookup a=none) ->
   codeAny (model P w) callerA (.call (.ref fa) ⟨[.ref a],[]⟩) (fun r s'=>r=.ok (.ret (.bool true))/\OldK s₁.heap s'.heap/\s'.os=s₁.os/\AllBare s'.gens) s₁:=by
  intro H hO hS hok hA hK;have base_of:∀ {b:Addr} {o:Obj},s₁.heap.get? b=some o->H b=none->(Ws s₁.heap H).get? b=some o:=fun e n=>z1n e n;have noA:∀ {b:Addr} {o:Obj} {es:Array DictEntry} {ep:Nat},s₁.heap.get? b=some o->o.data=.dict es ep->H b=none:=fun {b o es ep} e d=>by
   cases q:H b with
   | none=>rfl
   | some u =>
    have e':b=a:=hA b (by rw[q];simp);subst e';rw[ha]at e;cases e;have d':Data.seq vs.toArray _=Data.dict es ep:=d;cases d'
  have nsK:∀ {b:Addr} {m:Str->Option Value},s₁.heap.Ns b m->(Ws s₁.heap H).Ns b m:=fun {b m} ⟨o,es,ep,e,d,r⟩=>⟨o,es,ep,base_of e (noA e d),d,r⟩
  have hKb:K.In (Ws s₁.heap H):=fun b o e=>base_of (KX b o e) (by
   cases q:H b with
   | none=>rfl
   | some u =>
    have e':b=a:=hA b (by rw[q];simp);subst e';rw[hK (by rw[q];simp)]at e;cases e)
  have hM:Mod K mg (Ws s₁.heap H):=⟨hKb,nsK hns,⟨mb,nsK hb,hbb⟩,let ⟨mc,h1,h2⟩:=hlim;⟨mc,nsK h1,h2⟩⟩
  have e0:Env0 P w K mg (Ws s₁.heap H) callerA [] s₁ H:=⟨rfl,hM,fun b o e=>z2i e,Nat.le_of_eq (JV _ _),trivial,fun b hb=>absurd (show b∈([]:List Addr) from hb) (by simp),hok,.of_eq hg⟩
  refine codeAny_mono ((F _ hKb (nsK hns)).run callerA [] s₁ H ⟨[.ref a],[]⟩ [.ref a] [.ref a] _ _ hr e0 (hbind s₁ (.ref a)) (.cons rfl .nil) (hsp H hO hS)) fun r s' h=>?_;cases r with
  | error e=>exact (hCX H e s' h).elim
  | ok fl =>
   cases fl with
   | next=>exact False.elim h
   | brk=>exact False.elim h
   | cont=>exact False.elim h
   | ret u =>
    obtain⟨v,H',os,bare,un,hok',r',q⟩:=h;have q':v=.bl true:=q;subst q';obtain rfl:u=Value.bool true:=r';refine⟨rfl,OldK.of_keep fun b o e=>?_,os,bare⟩;cases q:H b with
    | none=>exact un.keep b o e q (by intro z;exact absurd (show b∈([]:List Addr) from z) (by simp)) (by simp)
    | some u =>
     rcases hO b with z|⟨ob,xs,z⟩
     ·rw[q]at z;cases z
     ·have z2:=un.frzs b ob _ z;obtain⟨e1,_⟩:=hok b _ z;obtain⟨e2,_⟩:=hok' b _ z2;rw[e]at e1;cases e1;exact e2
 cases hk:K.lookup a with
 | some o =>
  have e:=KX a o hk;rw[ha]at e;cases e;refine core (fun _=>none) (fun _=>.inl rfl) (.inr ⟨_,vs.toArray,_,hk,rfl,rfl,rfl,by rw[tY,lenV];exact hl,by simpa using rv⟩) (fun b u z=>by have z':(none:Option HO)=some u:=z;cases z') (fun b z=>absurd rfl z) fun z=>absurd rfl z
 | none =>
  refine core (fun b=>if b=a then some (.frz { cls:=.type "list",data:=.seq vs.toArray } (.lst (ns.map V.int))) else none) (fun b=>?_) (.inl (.inr ⟨{ cls:=.type "list",data:=.seq vs.toArray },jNg rfl⟩)) (fun b u z=>?_) (fun b z=>?_) fun _=>hk
  ·by_cases hb:b=a
   ·exact .inr ⟨_,_,jNg hb⟩
   ·exact .inl (jNh hb)
  ·by_cases hb:b=a
   ·have z':=(jNg hb).symm.trans z;cases z';subst hb;exact⟨ha,by rw[tJ];exact hl,vs,_,rv,ha⟩
   ·have z':=(jNh hb).symm.trans z;cases z'
  ·by_cases hb:b=a
   ·exact hb
   ·exact absurd (jNh hb) z
def walk_of {l:PySem.W.OpenLaw}{n k:Nat}{q:jNa}{loose:List Str}{XP:(Str->Option Value)->Heap->Prop}{YP:World->Heap->Prop}{d:DefRec}{K:Params->jJa}{CX:World->CXT}{sp:World->Sp}{x:Str}
  (hn:l.most=some n) (hn2:n<=jMi) (hdf:d.params.defaults=[]) (hr:Room k callerA)
  (hY:∀(w:World) (h:Heap),YP w h->(K w.params).In h)
  (F:∀(w:World) (mg:Str->Option Value) (fa:Addr) (h:Heap),(K w.params).In h->h.Ns jKi mg->mg d.name=some (.ref fa) ->
   ∃fd:FuncData,(∀(s:jNc) (u:Value),BindsTo s fd ⟨[u],[]⟩ [(x,u)]) /\
    ∀base:Heap,(K w.params).In base->base.Ns jKi mg->FnOk l.prog w (K w.params) mg base (CX w) k fa fd [x] (sp w))
  (hsp:∀(w:World) (H:Hp) (a:Addr) (ns:List Int),ns.length<=n->z2l H->SqL (K w.params) H a (ns.map V.int)->sp w [.ref a] H (fun v _=>v=.bl true) fun _ _ _=>False)
  (hCX:∀(w:World) (H:Hp) (s:jNc) (e:Value) (s':jNc),CX w [] H s (fun _ _ _=>False) e s'->False):
  PySem.W.WalkO q loose XP YP l.row.toRowW d [] (fun f vs=>PySem.call f vs):=by
 refine Att.attach_call hn hdf fun w s₀ s₁ mg mb fa o pm cd doc a vs ns G Y ho hd hcd hmg hobj hints hlen hg=>?_;have KX:=hY w _ Y;obtain⟨fd,hb,hF⟩:=F w mg fa _ KX G.T.g hmg;exact z0I KX G.T.g G.T.b G.T.builtins G.T.nolimit hg hobj hints (rH hlen hn2) hr hF hb (fun H hO hS=>hsp w H a ns hlen hO hS) fun H e s'=>hCX w H s₁ e s'
abbrev CX0:CXT:=fun _ _ _ _ _ _=>False
structure Fun (K:jJa)(x qual:Str)(st:Stmt)(f:Addr)(fd:FuncData):Prop where
 ex:∃(oc:Value) (od:Option Addr) (kV doc pm:Value) (an:Option Addr) (cdv ct:Value) (osl:Array (Option Value)),
  fd=jJd x qual (defArgs st) (defBody st) (defScope st) .none kV doc pm an cdv ct/\K.lookup f=some ⟨oc,od,.func fd,osl⟩/\jJg K cdv qual=true
 kp:jJf K (.ref f)=true
section
variable {P:jNa}{w:World}{K:jJa}{mg:Str->Option Value}{base:Heap}
theorem Fun.ok {x qual:Str}{st:Stmt}{f:Addr}{fd:FuncData}{N ps:List Str}{k:Nat}{sp:Sp}(F:Fun K x qual st f fd)(S:FnScope N ps (defScope st))(len:∀vs H Q E,sp vs H Q E->vs.length=ps.length)
  (hbody:∀(cdv:Value) (A:jNb) (outer:List Env) (s:jNc) (H:Hp) (vs:List V) (Q:VK) (E:XK),Room k (A.deeper (envOfC qual (defScope st) s.heap.objs.size f cdv))->sp vs H Q E ->
   ∃t,PSs (yZ CX0 P w K mg base N qual (defScope st) f cdv A outer s H E).nox (defBody st) t/\t { nx:=fun _ H'=>Q .non H',rt:=Q } (start N vs) H):FnOk P w K mg base CX0 (k+1) f fd ps sp:=by
 obtain⟨oc,od,kV,doc,pm,an,cdv,ct,osl,rfl,lk,hcd⟩:=F.ex;refine QU lk hcd S len fun A outer s H vs Q E hr hsp=>?_;obtain⟨t,h,q⟩:=hbody cdv A outer s H vs Q E hr hsp;exact⟨t,h.nox,q⟩
def Fun.binds {x qual:Str}{st:Stmt}{f:Addr}{fd:FuncData}{ps:List Str}(F:Fun K x qual st f fd)
  (h:∀(kV doc pm:Value) (an:Option Addr) (cdv ct:Value) (us:List Value),us.length=ps.length->bindArgs (jJd x qual (defArgs st) (defBody st) (defScope st) .none kV doc pm an cdv ct) ⟨us,[]⟩=pure (ps.zip us)):Binds K fd ps []:=by
 obtain⟨oc,od,kV,doc,pm,an,cdv,ct,osl,rfl,lk,hcd⟩:=F.ex;exact .all (h kV doc pm an cdv ct)
def Kd {x qual:Str}{st:Stmt}{f:Addr}{oc:Value}{od an:Option Addr}{osl:Array (Option Value)}{kV doc pm cdv ct:Value}(l:K.lookup f=some ⟨oc,od,.func (jJd x qual (defArgs st) (defBody st) (defScope st) .none kV doc pm an cdv ct),osl⟩)
  (c:jJg K cdv qual=true) (k:jJf K (.ref f)=true):Fun K x qual st f (jJd x qual (defArgs st) (defBody st) (defScope st) .none kV doc pm an cdv ct):=⟨⟨oc,od,kV,doc,pm,an,cdv,ct,osl,rfl,l,c⟩,k⟩
end
section
def pv (i:Nat){x:Str}{pos:Pos}(hN:autoParam (X.N[i]?=some x) au3._auto_1)(hv:autoParam (Vis X.env.scope x) au5._auto_1)(hd:autoParam (nDb x) au1._auto_1)
  (hcd:autoParam ((x==("__classdict__":Str))=false) au1._auto_1):PE X (.Name x pos) (jz i):=vN hN hv hd hcd
def JM:CallR X (.builtin "len") (fun xs H Q=>∃a kvs,xs=[V.ref a]/\H a=some (.dK kvs)/\Q (.int kvs.length) H):=by
 intro jNf s σ H xs us Q I r h;obtain⟨a,kvs,rfl,ha,q⟩:=h;obtain⟨u,rfl,ru⟩:=wO r;cases ru;exact z6S I (.inl ha) fun t s' I'=>⟨.int kvs.length,H,I',⟨t,rfl⟩,q⟩
end
def K5 {A B:Prop}(h:B):if false=true then A else B:=by
 rw[jNh tO];exact h
def Same (H H':Hp):Prop:=∀b o,H b=some o->H' b=some o
theorem Same.refl (H:Hp):Same H H:=fun _ _ h=>h
theorem Same.trans (a:Same H H1)(b:Same H1 H2):Same H H2:=fun c o h=>b c o (a c o h)
def DK (h h':Heap):Prop:=∀(a:Addr) (o:Obj),h.objs[a]?=some o->∃o',h'.objs[a]?=some o'/\o'.dict=o.dict
def DK.refl (h:Heap):DK h h:=fun _ o e=>⟨o,e,rfl⟩
theorem DK.trans {a b c:Heap}(x:DK a b)(y:DK b c):DK a c:=fun i o e=>by
 obtain⟨o1,e1,d1⟩:=x i o e;obtain⟨o2,e2,d2⟩:=y i o1 e1;exact⟨o2,e2,d2.trans d1⟩
theorem DK.upd {h:Heap}{a:Addr}{f:Obj->Obj}(d:∀o,(f o).dict=o.dict):DK h (h.update a f):=fun i o e=>by
 cases h with
 | mk objs l =>
 show ∃o',(objs.modify a f)[i]?=some o'/\_;rw[Array.getElem?_modify];have e:objs[i]?=some o:=e;rw[e]
 by_cases q:a=i
 ·rw[jNg q];exact⟨_,rfl,d o⟩
 ·rw[jNh q];exact⟨o,rfl,rfl⟩
theorem DK.push {h:Heap}(o:Obj):DK h (h.push o):=fun i ob e=>by
 cases h with
 | mk objs l =>
 have e:objs[i]?=some ob:=e;refine⟨ob,?_,rfl⟩;show (objs.push o)[i]?=some ob;rw[Array.getElem?_push,jNh (sV (Array.getElem?_eq_some_iff.mp e).1)];exact e
inductive Tame {α:Type}:Sem α->Prop where
 | pure (a:α):Tame (.pure a)
 | raise (e:Value):Tame (.raise e)
 | uns (w:String):Tame (.unsupported w)
 | rule (t:String) {k:Unit->Sem α} (h:∀x,Tame (k x)):Tame (.rule t k)
 | «at» (t:Pos) {k:Unit->Sem α} (h:∀x,Tame (k x)):Tame (.at t k)
 | load (a:Addr) (p:Option Value) {k:Obj->Sem α} (h:∀x,Tame (k x)):Tame (.load a p k)
 | upd (a:Addr) (p:Option Value) {f:Obj->Obj} {k:Unit->Sem α} (d:∀o,(f o).dict=o.dict) (h:∀x,Tame (k x)):Tame (.update a p f k)
 | alloc (o:Obj) {k:Addr->Sem α} (h:∀x,Tame (k x)):Tame (.alloc o k)
 | alive (a:Addr) {k:Option Obj->Sem α} (h:∀x,Tame (k x)):Tame (.loadIfAlive a k)
 | point (l:List Value) {k:Unit->Sem α} (h:∀x,Tame (k x)):Tame (.point l k)
 | fresh {k:Tok->Sem α} (h:∀x,Tame (k x)):Tame (.fresh k)
 | ask {k:Setting->Sem α} (h:∀x,Tame (k x)):Tame (.ask k)
 | stack {k:List (Code×Pos)->Sem α} (h:∀x,Tame (k x)):Tame (.stack k)
theorem Tame.bind {α β:Type}{m:Sem α}{f:α->Sem β}(t:Tame m)(g:∀a,Tame (f a)):Tame (m >>= f):=by
 show Tame (Sem.bind m f)
 induction t with
 | pure a=>exact g a
 | raise e=>exact .raise e
 | uns w=>exact .uns w
 | rule t _ ih=>exact .rule t ih
 | «at» t _ ih=>exact .at t ih
 | load a p _ ih=>exact .load a p ih
 | upd a p d _ ih=>exact .upd a p d ih
 | alloc o _ ih=>exact .alloc o ih
 | alive a _ ih=>exact .alive a ih
 | point l _ ih=>exact .point l ih
 | fresh _ ih=>exact .fresh ih
 | ask _ ih=>exact .ask ih
 | stack _ ih=>exact .stack ih
theorem Tame.dk {α:Type}{M:Model}{Γ:PySem.Ctx}{m:Sem α}{Q:α->Pos->jNc->Prop}{E:Value->Pos->jNc->Prop}(t:Tame m):
  ∀ {p:Pos} {s:jNc},Sem.wp M Γ m Q E p s->Sem.wp M Γ m (fun a p' s'=>Q a p' s'/\DK s.heap s'.heap) E p s:=by
 induction t with
 | pure a=>intro p s h;exact⟨h,.refl _⟩
 | raise e=>intro p s h;exact h
 | uns w=>intro p s h;exact h
 | rule t _ ih=>intro p s h;exact ih () h
 | «at» t _ ih=>intro p s h;exact ih () h
 | load a p _ ih=>intro p s h;obtain⟨o,e,h⟩:=h;exact⟨o,e,ih o h⟩
 | upd a p d _ ih =>
  intro p s h;obtain⟨o,h⟩:=h;refine⟨o,Sem.wp_mono _ _ _ (fun a p' s' z=>⟨z.1,DK.trans (DK.upd d) z.2⟩) (fun _ _ _ z=>z) _ _ (ih () h)⟩
 | alloc o _ ih =>
  intro p s h;exact Sem.wp_mono _ _ _ (fun a p' s' z=>⟨z.1,DK.trans (DK.push o) z.2⟩) (fun _ _ _ z=>z) _ _ (ih _ h)
 | alive a _ ih=>intro p s h;exact ih _ h
 | point l _ ih=>intro p s h;exact ih _ h
 | fresh _ ih=>intro p s h;exact ih _ h
 | ask _ ih=>intro p s h;exact ih _ h
 | stack _ ih=>intro p s h;exact ih _ h
theorem Tame.field (v:Value)(i:Nat):Tame (field v i):=by
 unfold PySem.field fieldsOf;refine .bind ?_ fun a=>?_
 ·split
  ·refine .bind (.load _ _ fun _=>.pure _) fun o=>?_;split
   ·exact .pure _
   ·exact .uns _
  ·exact .uns _
 ·split
  ·exact .pure _
  ·exact .uns _
def Y2 (f:Array Value->Array Value)(o:Obj):(Obj.mapFields f o).dict=o.dict:=by
 rcases o with⟨c,d,x,s⟩;cases x<;>rfl
theorem Tame.setField (v:Value)(i:Nat)(x:Value):Tame (setField v i x):=by
 unfold PySem.setField updateField;split
 ·refine .bind (.load _ _ fun _=>.pure _) fun o=>?_;split
  ·split
   ·exact .upd _ _ (Y2 _) fun _=>.pure _
   ·exact .uns _
  ·exact .uns _
 ·exact .uns _
theorem Tame.setFlight (e:Value)(f:Option Addr):Tame (setFlight e f):=by
 unfold PySem.setFlight;refine .bind (.field _ _) fun a=>?_;split
 ·exact .setField _ _ _
 ·exact .pure _
theorem Tame.entryPlaceOf (f:Addr)(b:Bool):Tame (entryPlaceOf f b):=by
 unfold PySem.entryPlaceOf;refine .bind (.stack fun _=>.pure _) fun a=>?_;split
 ·exact .pure _
 ·exact .pure _
theorem Tame.newEntry (a b c d e:Value)(l:List Value):Tame (EntryCells.newEntry a b c d e l):=by
 unfold EntryCells.newEntry newFields newObj;have z:∀d:Data,Tame (newObjAsIs (.type "traceback") d):=fun d=>by
  unfold newObjAsIs;exact .bind (.alloc _ fun _=>.pure _) fun _=>.pure _
 generalize ([a,b,c,d,e]++if l.isEmpty then List.replicate 6 .none else l).toArray=L;dsimp only;split
 ·exact .bind (.uns _) fun _=>z _
 ·exact z _
theorem Tame.readyFrames:∀l:List Env,Tame (readyFrames l)
 | []=>.pure _
 | env::outer=>by
  unfold PySem.readyFrames;split
  ·refine .bind (.load _ _ fun _=>.pure _) fun o=>?_;split
   ·exact .pure _
   ·refine .bind ?_ fun b=>.bind ?_ fun c=>.bind (.upd _ _ (fun _=>rfl) fun _=>.pure _) fun _=>Tame.readyFrames outer
    ·unfold behindIsImport;split
     ·exact .pure _
     ·split
      ·exact .pure _
      ·exact .bind (.field _ _) fun _=>.pure _
    ·unfold keptBack;split
     ·split
      ·exact .pure _
      ·refine .bind ?_ fun _=>.pure _;exact .bind (.stack fun _=>.pure _) fun _=>.pure _
     ·exact .pure _
  ·exact .uns _
theorem Tame.frameOf (env:Env):Tame (frameOf env):=by
 unfold PySem.frameOf;refine .bind (.bind (.stack fun _=>.pure _) fun _=>.pure _) fun l=>?_;refine .bind ?_ fun r=>?_
 ·unfold frameObject;split
  ·exact .pure _
  ·exact .bind (.readyFrames _) fun _=>.pure _
 ·split
  ·exact .pure _
  ·exact .uns _
theorem Tame.noteFrame (e:Value)(env:Env):Tame (noteFrame e env):=by
 unfold PySem.noteFrame;split
 ·refine .bind (.field _ _) fun hd=>?_;have z:∀(head:Value) (f:Addr),Tame (do
   PySem.setField e 1 (<-EntryCells.newEntry head (<-PySem.frameOf env) .none (rawInt f) .none (<-PySem.entryPlaceOf f (head != .none)))):=fun head f =>
   .bind (.frameOf _) fun _=>.bind (.entryPlaceOf _ _) fun _=>.bind (.newEntry _ _ _ _ _ _) fun _=>.setField _ _ _
  dsimp only;split
  ·refine .bind (.field _ _) fun x=>?_;split
   ·exact .pure _
   ·exact .bind (.setField _ _ _) fun _=>z _ _
  ·exact z _ _
 ·exact .uns _
theorem Tame.leaving (e:Value)(env:Env):Tame (leaving env e):=.bind (.noteFrame _ _) fun _=>.setFlight _ _
def Vz {α:Type}{M:Model}{A:jNb}{m:Sem α}{Q:α->jNc->Prop}{E:Value->jNc->Prop}{s:jNc}(t:Tame m)(h:jNe M A m Q E s):
  jNe M A m (fun a s'=>Q a s'/\DK s.heap s'.heap) E s:=fun Γ p hΓ=>t.dk (h Γ p hΓ)
theorem DK.at {h h':Heap}{e:Addr}{o ob:Obj}(k:DK h h')(a:h.get? e=some o)(b:h'.get? e=some ob):ob.dict=o.dict:=by
 obtain⟨o',e1,e2⟩:=k e o (Heap.get?_some_iff.mp a).1;have:=(Heap.get?_some_iff.mp b).1;rw[e1]at this;cases this;exact e2
def Zv {M:Model}{A:jNb}{E:Value->jNc->Prop}{s:jNc}{m:Sem Unit}{R:Heap->Prop}{Q:Unit->jNc->Prop}(t:Tame m)
  (w:∀Q:Unit->jNc->Prop,(∀h',R h'->Q () { s with heap:=h' })->jNe M A m Q E s) (hQ:∀h',R h'->DK s.heap h'->Q () { s with heap:=h' }):jNe M A m Q E s:=
 jMc (Vz t (w (fun _ s2=>∃h',s2={ s with heap:=h' }/\R h') fun h' r=>⟨h',rfl,r⟩)) (fun _ s2 ⟨⟨h',e,r⟩,dk⟩=>by subst e;exact hQ h' r dk) fun _ _ z=>z
def z7u (fr:List Env)(H:Hp)(old:Addr->Prop)(e:Addr)(cls:Value)(h:Heap):Prop:=
 ∃(B:Heap) (a0:Value),Heap.FlyingW B fr e cls a0 h/\∀b o,h.get? b=some o->b∉frs fr->(H b≠none\/old b)->B.get? b=some o
def cxx (P:jNa)(w:World):CXT:=fun outer H s E ev s'=>∃(e:Addr) (cls:Value) (H':Hp),ev=.ref e/\s'.os=s.os/\AllBare s'.gens /\
 Un (frs outer) [] H H' s.heap s'.heap/\HOk P w H' s'.heap/\z7u outer H' (fun b=>∃o,s.heap.get? b=some o) e cls s'.heap/\∃od,(∃oe,s'.heap.get? e=some oe/\oe.dict=od)/\E cls od H'
theorem ObjOk.there (x:ObjOk P w H h a o):∃ob,h.get? a=some ob:=by
 cases o with
 | lst xs=>obtain⟨_,_,_,_,e⟩:=x;exact⟨_,e⟩
 | tup xs=>obtain⟨_,_,_,_,e,_⟩:=x;exact⟨_,e⟩
 | dK kvs=>obtain⟨_,_,_,_,o,_,_,e,_⟩:=x;exact⟨_,e⟩
 | dT kvs=>obtain⟨_,_,_,_,o,_,_,e,_⟩:=x;exact⟨_,e⟩
 | set S n=>obtain⟨o,_,_,_,e,_⟩:=x;exact⟨_,e⟩
 | ins C dx fs=>obtain⟨_,_,_,e,_⟩:=x;exact⟨_,e⟩
 | own y=>obtain⟨_,e⟩:=x;exact⟨_,e⟩
 | xd fs=>obtain⟨_,⟨_,_,_,e,_⟩,_⟩:=x;exact⟨_,e⟩
 | rng lo hi=>obtain⟨_,_,_,e⟩:=x;exact⟨_,e⟩
 | frz ob u=>obtain⟨e,_⟩:=x;exact⟨_,e⟩
 | tbl ps=>obtain⟨_,e,_⟩:=x;exact⟨_,e⟩
 | met f y=>exact⟨_,(show h.get? a=some _ from x)⟩
 | ext φ=>obtain⟨_,⟨_,e⟩,_⟩:=x;exact⟨_,e⟩
section
def Inv.trkNo (I:Inv X jNf σ H s){b:Addr}{u:HO}(q:H b=some u):b∉frs X.stack:=fun m=>by
 have z:=I.stkFree b m;rw[q]at z;cases z
def Inv.oldNo (I:Inv X jNf σ H s)(hst:X.stack=X.env::X.outer)(hf:X.env.frame=some X.env.locals){b:Addr}{o:Obj}(q:X.s₀.heap.get? b=some o)(n:b∉X.fs):b∉frs X.stack:=fun m=>by
 rcases tS.mp (I.stkSub b m)with z|z
 ·exact absurd z (sV (sF (jYc q) I.ok.above))
 ·exact n z
def Jf (I:Inv X jNf σ H s)(hst:X.stack=X.env::X.outer)(hf:X.env.frame=some X.env.locals)(hex:X.ex=[])
  (fl:Heap.FlyingW B X.outer e cls a0 h') (cov:∀b o,s.heap.get? b=some o->b∉frs X.stack->(H b≠none\/∃o,X.s₀.heap.get? b=some o)->B.get? b=some o)
  (up:s.heap.UpToSlots h') (hod:∃oe,h'.get? e=some oe/\oe.dict=od) (hE:E cls od H):cxx X.prog X.w X.outer X.H₀ X.s₀ E (.ref e) { s with heap:=h' }:=by
 have nex:∀b:Addr,b∉X.ex:=fun b z=>by rw[hex]at z;cases z
 have trkd:∀b u v,H b=some u->s.heap.get? b=some v->h'.get? b=some v:=fun b u v q r=>fl.1 b v (cov b v r (I.trkNo q) (.inl (by rw[q];simp)));have oldd:∀b o v,X.s₀.heap.get? b=some o->b∉X.fs->s.heap.get? b=some v->h'.get? b=some v:=fun b o v q n r=>fl.1 b v (cov b v r (I.oldNo hst hf q n) (.inr ⟨o,q⟩));have frms:∀b o,b∈X.fs->s.heap.get? b=some o->∃sl,h'.get? b=some { o with slots:=sl }:=fun b o hb q=>by
  obtain⟨_,o2,ho2,nf⟩:=I.funs.mem hb;rw[q]at ho2;cases ho2;exact up b o q nf
 refine⟨e,cls,H,rfl,I.os,I.bare,⟨fun b o q n hb hx=>?_,fun b o q n hb hx=>?_,fun b o q n hx=>I.base.free b o q n (nex b),fun b o q hx=>?_,I.base.tups,I.base.frzs,I.base.tbls⟩,fun b u q=>?_,⟨B,a0,fl,fun b o q n hor=>?_⟩,od,hod,hE⟩
 ·exact oldd b o o q hb (I.base.keep b o q n hb (nex b))
 ·obtain⟨sl,e1⟩:=I.base.slot b o q n hb (nex b);obtain⟨sl',e2⟩:=frms b _ hb e1;exact⟨sl',e2⟩
 ·obtain⟨o1,e1⟩:=I.base.there b o q (nex b)
  by_cases hb:b∈X.fs
  ·obtain⟨sl,e2⟩:=frms b o1 hb e1;exact⟨_,e2⟩
  ·exact⟨o1,oldd b o o1 q hb e1⟩
 ·refine (I.hok b u q).stay (fun c v hc r=>?_) (fun _ z=>z) fun _ _ z=>z;rcases hc with z|z
  ·exact trkd c u v (by rw[z];exact q) r
  ·exact trkd c _ v z r
 ·have q:h'.get? b=some o:=q;rcases hor with hb|⟨o0,e0⟩
  ·obtain⟨u,hu⟩:=Option.ne_none_iff_exists'.mp hb;obtain⟨o1,e1⟩:=(I.hok b u hu).there;have:=trkd b u o1 hu e1;rw[q]at this;cases this;exact cov b _ e1 (I.trkNo hu) (.inl hb)
  ·obtain⟨o1,e1⟩:=I.base.there b o0 e0 (nex b);have:=oldd b o0 o1 e0 n e1;rw[q]at this;cases this;exact cov b _ e1 (I.oldNo hst hf e0 n) (.inr ⟨o0,e0⟩)
end
section
variable {P:jNa}{w:World}{K:jJa}{mg:Str->Option Value}{base:Heap}{N:List Str}{qual:Str}{scope:Scope}{f:Addr}{cd:Value}{A:jNb}{outer:List Env}{s:jNc}{H:Hp}{E:XK}
def xk:vj (cxx P w) (yZ (cxx P w) P w K mg base N qual scope f cd A outer s H E) E:=by
 intro jNf σ H1 s1 ev s' I hq;obtain⟨e,cls,H',rfl,os,bare,un,hok,⟨B,a0,fl,cov⟩,od,⟨oe,ho1,ho2⟩,hE⟩:=hq;have I':=I.call' (ch:=[]) os un hok bare (fun b z=>nomatch z);have hfr:(A.deeper (envOfC qual scope s.heap.objs.size f cd)).frames=some (envOfC qual scope s.heap.objs.size f cd::outer):=I.ok.frames;refine jMc (Vz (.leaving _ _) (wpAny_leaves_onW (L:=s.heap.objs.size) (Q:=fun _ s2=>∃h',s2={ s' with heap:=h' }/\Heap.FlyingW B outer e cls a0 h'/\s'.heap.UpToSlots h') hfr rfl fl fun h' fl' up=>⟨h',rfl,fl',up⟩)) (fun _ s2 ⟨⟨h',e2,fl',up⟩,dk⟩=>?_) fun _ _ z=>z;subst e2;obtain⟨ob,e3,_⟩:=fl'.there;exact Jf (E:=E) I' rfl rfl rfl fl' (fun b o e1 e2 e3=>cov b o e1 e2 (by
  rcases e3 with z|⟨o0,z⟩
  ·exact .inl z
  ·exact .inr (I.base.there b o0 z (fun q=>nomatch q)))) up ⟨ob,e3,(dk.at ho1 e3).trans ho2⟩ hE
def vc:vj (cxx P w) X (fun _ _ _=>False):=fun _ _ _ _ _ _ _ ⟨_,_,_,_,_,_,_,_,_,_,_,z⟩=>z.elim
def KS (h:cxx P w outer H s (fun _ _ _=>False) e s'):False:=let ⟨_,_,_,_,_,_,_,_,_,_,_,z⟩:=h;z
end
def eRw (n:Str):Option Int:=match n.cps.back? with
 | some c=>if 1114112<=c then some ((c-1114112:Nat):Int) else none
 | none=>none
def eNm (n:Str):Str:=match n.cps.back? with
 | some c=>if 1114112<=c then ⟨n.cps.pop⟩ else n
 | none=>n
def wg (x:Str)(r:Nat):Str:=⟨x.cps.push (1114112+r)⟩
def Ja (x:Str)(r:Nat):eRw (wg x r)=some (r:Int):=by
 unfold eRw wg;rw[Array.back?_push];show (if 1114112<=1114112+r then some ((1114112+r-1114112:Nat):Int) else none)=_;rw[jNg (Nat.le_add_right _ _),Nat.add_sub_cancel_left]
def J2 (x:Str)(r:Nat):eNm (wg x r)=x:=by
 unfold eNm wg;rw[Array.back?_push];show (if 1114112<=1114112+r then (⟨(x.cps.push (1114112+r)).pop⟩:Str) else _)=_;rw[jNg (Nat.le_add_right _ _),Array.pop_push]
structure ErrO (K:jJa)(n:Str)(H:Hp)(c:Addr×Option Addr):Prop where
 ns:jJh K jKi (eNm n)=some (some (.ref c.1))
 rw:match eRw n with|none=>c.2=none|some r=>∃dx,c.2=some dx/\H dx=some (.xd [("row",.int r)])
abbrev Cx.within (X:Cx)(e:Addr)(oe:Obj):Cx:={ X with A:=X.A.mark (some (.ref e)),calm:=false,pn:=X.pn++[(e,oe)],xe:=fun _ _=>False }
section
variable {X:Cx}{jNf:List (Addr×Obj)}{σ:St}{H:Hp}{s:jNc}{e:Addr}{oe:Obj}
theorem Cx.Ok.within (ok:X.Ok):(X.within e oe).Ok:=
 ⟨ok.mod,ok.kind,ok.glob,ok.blt,ok.above,ok.inj,ok.has,ok.cab,(fun z=>by cases z),ok.frames,ok.stk,ok.exf,ok.bs,ok.bsz,ok.noex,ok.exfs,ok.funs,ok.frf⟩
def Cx.Ok.without (ok:(X.within e oe).Ok)(hd:X.calm=true->X.A.handled=none):X.Ok:=
 ⟨ok.mod,ok.kind,ok.glob,ok.blt,ok.above,ok.inj,ok.has,ok.cab,hd,ok.frames,ok.stk,ok.exf,ok.bs,ok.bsz,ok.noex,ok.exfs,ok.funs,ok.frf⟩
theorem Inv.within (I:Inv X jNf σ H s)(h1:s.heap.get? e=some oe)(h2:H e=none)(h3:e≠X.env.locals)(h4:e∉X.fs)(h5:∀v,oe.data≠.cell v):Inv (X.within e oe) jNf σ H s:=
 ⟨I.ok.within,I.os,I.bare,I.base,I.loc,I.cell,I.free,I.freeC,fun p hp=>by
  rcases tX.mp hp with z|z
  ·rcases tX.mp z with z|z
   ·exact I.pin p (tW _ z)
   ·obtain rfl:=sG.mp z;exact⟨h1,h2,h3,h4,h5⟩
  ·exact I.pin p (tL _ z),I.hok,I.len⟩
theorem Inv.without (I:Inv (X.within e oe) jNf σ H s)(hd:X.calm=true->X.A.handled=none):Inv X jNf σ H s:=
 ⟨I.ok.without hd,I.os,I.bare,I.base,I.loc,I.cell,I.free,I.freeC,fun p hp=>by
  rcases tX.mp hp with z|z
  ·exact I.pin p (tW _ (tW _ z))
  ·exact I.pin p (tL _ z),I.hok,I.len⟩
theorem SP.without (h:SP (X.within e oe) jNf D f s)(hd:X.calm=true->X.A.handled=none):SP X jNf D f s:=by
 cases f with
 | next=>obtain⟨σ',H',I,q⟩:=h;exact⟨σ',H',I.without hd,q⟩
 | brk=>obtain⟨σ',H',I,q⟩:=h;exact⟨σ',H',I.without hd,q⟩
 | cont=>obtain⟨σ',H',I,q⟩:=h;exact⟨σ',H',I.without hd,q⟩
 | ret u=>obtain⟨v,σ',H',I,r,q⟩:=h;exact⟨v,σ',H',I.without hd,r,q⟩
def Inv.reframe (I:Inv X jNf σ H s)(hn':h'.Ns X.env.locals m')(hs:Heap.SameBut X.env.locals s.heap h')(hl:σ'.length=σ.length)
  (hv:∀m,s.heap.Ns X.env.locals m->(∀(i:Nat) (x:Str) (v:V),X.N[i]?=some x->σ[i]?=some (some v)->Vis X.env.scope x->∃u,RelV v u/\z5d X.env s.heap m x u) ->
   ∀(i:Nat) (x:Str) (v:V),X.N[i]?=some x->σ'[i]?=some (some v)->Vis X.env.scope x->∃u,RelV v u/\z5d X.env s.heap m' x u):Inv X jNf σ' H { s with heap:=h',toks:=t' }:=by
 obtain⟨m,hn,hr⟩:=id I.loc;obtain⟨oL,_,_,hoL,_⟩:=id hn;have tracked:HOk X.prog X.w H h':=fun b ob q=>by
  refine (I.hok b ob q).stay (fun c v hc r=>(hs.2 c ?_).trans r) (fun _ z=>z) fun _ _ z=>z;rintro rfl;rcases hc with rfl|hc
  ·rw[I.free]at q;cases q
  ·rw[I.free]at hc;cases hc
 have below:∀b o,X.s₀.heap.get? b=some o->b≠X.env.locals:=fun b o q=>sV (sF (jYc q) I.ok.above);refine⟨I.ok,I.os,I.bare,⟨fun b o q n hb hx=>(hs.2 b (below b o q)).trans (I.base.keep b o q n hb hx),fun b o q n hb hx=>?_,I.base.free,fun b o q hx=>?_,I.base.tups,I.base.frzs,I.base.tbls⟩,⟨m',hn',fun i x v e1 e2 e3=>?_⟩,fun y c q=>?_,I.free,I.freeC,fun p hp=>?_,tracked,hl.trans I.len⟩
 ·obtain⟨sl,e1⟩:=I.base.slot b o q n hb hx;exact⟨sl,(hs.2 b (below b o q)).trans e1⟩
 ·obtain⟨o',e1⟩:=I.base.there b o q hx;exact⟨o',(hs.2 b (below b o q)).trans e1⟩
 ·obtain⟨u,r,l⟩:=hv m hn hr i x v e1 e2 e3;refine⟨u,r,?_⟩;rcases l with l|⟨k,c,e,z⟩
  ·exact .inl l
  ·exact .inr ⟨k,c,e,z.sameBut hs (I.cne x c e)⟩
 ·obtain⟨w',z⟩:=I.cell y c q;exact⟨w',z.sameBut hs (I.cne y c q)⟩
 ·obtain⟨q,n,ne,nf,d⟩:=I.pin p hp;exact⟨(hs.2 p.1 ne).trans q,n,ne,nf,d⟩
def jA (I:Inv X jNf σ H s)(hN:X.N.Nodup)(hi:X.N[i]?=some n)(hx:X.env.scope.names.lookup n=some .local)
  (h:∀s',Inv X jNf (σ.set i none) H s'->Q () s'):jNe M A (do bindName X.env n .none;unbindBehindTheSuite X.env n pos) Q E s:=by
 have hcls:(X.env.scope.kind==.class||(X.env.scope.kind==.module&&X.env.locals != X.env.globals))=false:=by rw[I.ok.kind];rfl
 have hl:X.env.kindOf n=some .local:=hx;refine jMb (wpAny_bindName (jv I hN hi (.inl hx) (v:=.non) (u:=.none) rfl (fun s1 I1=>?_) (.inr hx)));unfold unbindBehindTheSuite;refine wpAny_onRaise ?_;unfold unbindName;refine jMb (wpAny_point (jMb ?_));unfold deleteName;simp only[hl,hcls];rw[jNh (by decide)];obtain⟨m,hn,hl'⟩:=id I1.loc;have hiσ:i<σ.length:=by rw[I.len];exact (tN.mp hi).1
 have hmn:(m n).isSome=true:=by
  obtain⟨u,r,l⟩:=hl' i n .non hi (by rw[sA hiσ]) (.inl hx);rcases l with⟨_,z⟩|⟨k,_⟩
  ·rw[z];rfl
  ·rcases k with k|k
   ·rw[hl]at k;cases k
   ·rw[hl]at k;cases k
 refine jMb (wpAny_nsDel_keeps hn fun h2 v hn2 hs2=>?_);rw[hmn];simp only[if_true,rW,sY,if_false];refine jMd (wpAny_point (h _ ?_));have I2:Inv X jNf (σ.set i none) H { s1 with heap:=h2,toks:=s1.toks }:=I1.reframe hn2 hs2 (by simp) (fun m0 hn0 hv0 j y v e1 e2 e3=>by
  have em:m0=m:=by
   funext z
   obtain⟨o1,es1,ep1,a1,b1,_,c1⟩:=hn0;obtain⟨o2,es2,ep2,a2,b2,_,c2⟩:=hn;rw[a1]at a2;cases a2;rw[b1]at b2;cases b2;rw[<-c1,<-c2]
  subst em;have hj:j≠i:=by
   rintro rfl;rw[sA hiσ]at e2;cases e2
  rw[sE (Ne.symm hj)]at e2;obtain⟨u,r,l⟩:=hv0 j y v e1 (by rw[sE (Ne.symm hj)];exact e2) e3;refine⟨u,r,?_⟩;have hy:y≠n:=fun z=>hj (ZF hN e1 (z▸hi));rcases l with⟨k,z⟩|l
  ·exact .inl ⟨k,by show (if y=n then _ else m0 y)=some u;rw[jNh hy];exact z⟩
  ·exact .inr l)
 exact I2
end
structure ErrI (K:jJa)(C:Addr):Prop where
 ga:jJe K (.ref C) "__getattribute__"=some (some (.builtin "BaseException.__getattribute__"))
 gt:jJe K (.ref C) "__getattr__"=some none
 cl:jJe K (.ref C) "__class__"=some (some (.builtin "object.__class__"))
 sp:jJp K (.builtin "object.__class__") "__get__"=some (some (.builtin "getset_descriptor.__get__"))
 tk:PySem.W.takesIn K (.builtin "object.__class__")=some true
 mo:jJq K C (.type "object")=some true
 mb:jJq K C (.type "BaseException")=some true
 it:(PySem.W.clsIn K C).isSome=true
section
open PySem.W Builtin Builtin.ObjectAttr Builtin.Getset_descriptor
variable {prog:jNa}{w:World}{A:jNb}{E:Value->jNc->Prop}{s:jNc}{K:Frag}{e C:Addr}
def JG {Q:Option Value->jNc->Prop}(c:ErrI K C)(X:K.In s.heap)(LT:Looks (model prog w) s.heap (typeOf (.ref e)) (.ref C))(h:Q (some (.ref C)) { s with toks:=s.toks+1 }):jNe (model prog w) A (getAttr? (.ref e) "__class__") Q E s:=by
 obtain⟨hh,g,d,t,os⟩:=s;have L1:=looks_findIn (M:=model prog w) X c.ga;have L2':=looks_findIn (M:=model prog w) X c.gt;have L3:=looks_findIn (M:=model prog w) X c.cl;have L4:=looks_specialIn (M:=model prog w) X c.sp;have L5:=looks_takesIn (M:=model prog w) X c.tk;have L6:=looks_mroIn (M:=model prog w) X c.mo;have L7:=looks_mroIn (M:=model prog w) X c.mb;have hb:=PySem.F.attr_ValueError.ga.bind (.ref e);unfold getAttr? getAttrBy? getAttrBy;refine jMb (wpAny_mkText (jMb (wpAny_attempt (jKe ?_))))
 repeat (first|with_reducible refine wpAny_attempt ?_|with_reducible refine wpAny_call ?_|lk)
 refine codeAny_call_builtin PySem.F.attr_ValueError.ga.plain F.entry_bexc_ga ?_;have hk:builtinKind "BaseException.__getattribute__"=some .slot:=by decide +kernel
 have hsp:splitId "BaseException.__getattribute__"=some ("BaseException","__getattribute__"):=by decide +kernel
 have har:=F.args_bexc_ga (.ref e) (.str "__class__" t);simp only[checkBuiltinCall,hk,hsp];unfold isInstance
 repeat (first|with_reducible refine wpAny_attempt ?_|with_reducible refine wpAny_call ?_|lk)
 have z:codeAny (model prog w) A.in1 (.call (.builtin "getset_descriptor.__get__") ⟨[.builtin "object.__class__",.ref e,.ref C],[]⟩) (fun r s'=>r=.ok (.ret (.ref C))/\s'=⟨hh,g,d,t+1,os⟩) ⟨hh,g,d,t+1,os⟩:=by
  refine codeAny_call_builtin KF.slot_gs.plain KF.entry_gs ?_;refine KF.slot_gs.check _ _ _ _ _ _ _ _ KF.type_class (KF.args_gs _ _ _) ?_;unfold Builtin.«getset_descriptor.__get__»;unfold descrGet;rw[dga_obj];refine jMb (jMd ?_);unfold descrGetter descrCheckInstance;unfold descrNameAndClass isInstance;simp only[KF.owner_class]
  repeat lk
  refine⟨Code.quiet_builtin _ (by decide +kernel),?_⟩;refine codeAny_builtin KF.entry_class ?_;unfold Builtin.«object.__class__»;unfold shownTypeOf
  repeat lk
  exact⟨rfl,rfl⟩
 refine codeAny_mono z fun r s' q=>?_;obtain⟨rfl,rfl⟩:=q
 repeat lk
 exact h
end
section
open PySem.W
variable {K:Frag}{e C:Addr}
def VR (c:ErrI K C){M:Model}{h:Heap}(X:K.In h):Looks M h (isType (.ref C)) true:=by
 have z:=c.it;unfold clsIn at z;split at z
 ·rename_i a b cd sl ho;intro A' Q' E' s' k q;unfold isType;unfold loadHead;refine jMb (wpAny_loadPart (k _ _ (X _ _ ho)) ?_);exact jMd q
 ·cases z
def Vx (c:ErrI K C):KitX K (.ref e) (.ref C) (fun h=>∃o,h.get? e=some o/\o.cls=.ref C) where
 ty:=fun M h _ p=>by
  obtain⟨o,h1,h2⟩:=p;exact h2▸(Looks.ld h1).andThen .now
 it:=fun _ _ X _=>VR c X
 ne:=fun h tp dd its n sl X htp=>by
  refine Bool.eq_false_iff.mpr fun q=>?_;have ee:C=tp:=Value.ref.inj (beq_iff_eq.mp q);subst ee;have z:=c.it;unfold clsIn at z;split at z
  ·rename_i a b cd sl' ho;rw[X _ _ ho]at htp;cases htp
  ·cases z
 ca:=fun {prog w A E Q s} X p k=>by
  obtain⟨o,h1,h2⟩:=p;exact JG c X (h2▸(Looks.ld h1).andThen .now) k
end
inductive IsTy (K:jJa) (pn:List (Addr×Obj)) (H:Hp):V->Value->Prop where
 | of {x:V} {t:Value} (h:TyOf K H x t):IsTy K pn H x t
 | frd {a:Addr} {o:Obj} {kvs:List (Key×V)} (e:H a=some (.frz o (.dK kvs))):IsTy K pn H (.ref a) (.type "dict")
 | exc {a C:Addr} {oe:Obj} (hm:(a,oe)∈pn) (hc:oe.cls=.ref C) (c:ErrI K C):IsTy K pn H (.ref a) (.ref C)
inductive ClV:V->Value->Prop where
 | ref (a:Addr):ClV (.ref a) (.ref a)
 | ty (n:String):ClV (.ty n) (.type n)
def z7G (K:jJa)(pn:List (Addr×Obj)):List V->Hp->VK->Prop:=fun xs H Q=>∃x c t u b,xs=[x,c]/\IsTy K pn H x t/\ClV c u/\jJb K t u=some b/\Q (.bl b) H
def z0A:CallR X (.builtin "isinstance") (z7G X.K X.pn):=by
 intro jNf s σ H xs us Q I r h;obtain⟨x,c,t,u,b,rfl,ht,hc,hk,q⟩:=h;obtain⟨u1,u2,rfl,rx,rc⟩:=Ve r;have e2:u2=u:=by cases hc with
  | ref a=>exact rc
  | ty n=>exact rc
 subst e2;cases ht with
 | of ht=>exact wA I rx ht hk fun tk=>⟨.bl b,H,I.tok tk,rfl,q⟩
 | @frd a o kvs e =>
  obtain rfl:u1=Value.ref a:=rx;obtain⟨_,_,_,vs,_,p⟩:=(show ObjOk X.prog X.w H s.heap a (.frz o (.dK kvs)) from I.hok a _ e)
  obtain⟨o',es,ep,h1,h2,_⟩:=p;exact jJc jJs I.kIn ⟨o',h1,h2.1⟩ hk (fun z=>by cases z) fun tk=>⟨.bl b,H,I.tok tk,rfl,q⟩
 | exc hm hcl ci =>
  obtain⟨e1,_⟩:=I.pin _ (tW _ hm);obtain rfl:u1=Value.ref _:=rx;exact jJc (Vx ci) I.kIn ⟨_,e1,hcl⟩ hk (fun z=>by cases z) fun tk=>⟨.bl b,H,I.tok tk,rfl,q⟩
section
variable {X:Cx}{jNf:List (Addr×Obj)}{σ:St}{H:Hp}{s:jNc}
def Inv.flown {h' B:Heap}{old:Addr->Prop}(I:Inv X jNf σ H s)(hst:X.stack=X.env::X.outer)(hf:X.env.frame=some X.env.locals)(st:B.StaysIn h')(up:s.heap.UpToSlots h')
  (cov:∀b o,s.heap.get? b=some o->b∉frs X.stack->(H b≠none\/old b)->B.get? b=some o) (o1:∀b o,X.s₀.heap.get? b=some o->b∉X.ex->old b) (o3:∀p∈X.pn++jNf,old p.1):
  Inv X jNf σ H { s with heap:=h' }:=by
 have trkd:∀b u v,H b=some u->s.heap.get? b=some v->h'.get? b=some v:=fun b u v q r=>st b v (cov b v r (I.trkNo q) (.inl (by rw[q];simp)));have oldd:∀b o v,X.s₀.heap.get? b=some o->b∉X.fs->b∉X.ex->s.heap.get? b=some v->h'.get? b=some v:=fun b o v q n x r=>st b v (cov b v r (I.oldNo hst hf q n) (.inr (o1 b o q x)));have frms:∀b o,b∈X.fs->s.heap.get? b=some o->∃sl,h'.get? b=some { o with slots:=sl }:=fun b o hb q=>by
  obtain⟨_,o2,ho2,nf⟩:=I.funs.mem hb;rw[q]at ho2;cases ho2;exact up b o q nf
 have cellK:∀c v,s.heap.IsCell c v->h'.IsCell c v:=fun c v ⟨o,ho,hd⟩=>by
  obtain⟨sl,e⟩:=up c o ho (fun vs q=>by rw[hd]at q;cases q);exact⟨_,e,hd⟩
 refine⟨I.ok,I.os,I.bare,⟨fun b o q n hb hx=>oldd b o o q hb hx (I.base.keep b o q n hb hx),fun b o q n hb hx=>?_,I.base.free,fun b o q hx=>?_,I.base.tups,I.base.frzs,I.base.tbls⟩,?_,fun y c q=>?_,I.free,I.freeC,fun p hp=>?_,fun b u q=>?_,I.len⟩
 ·obtain⟨sl,e1⟩:=I.base.slot b o q n hb hx;obtain⟨sl',e2⟩:=frms b _ hb e1;exact⟨sl',e2⟩
 ·obtain⟨o1',e1⟩:=I.base.there b o q hx
  by_cases hb:b∈X.fs
  ·obtain⟨sl,e2⟩:=frms b o1' hb e1;exact⟨_,e2⟩
  ·exact⟨o1',oldd b o o1' q hb hx e1⟩
 ·obtain⟨m,hn,hl⟩:=I.loc;refine⟨m,up.ns hn,fun i x v e1 e2 e3=>?_⟩;obtain⟨u,r,l⟩:=hl i x v e1 e2 e3;refine⟨u,r,?_⟩;rcases l with l|⟨k,c,e,z⟩
  ·exact .inl l
  ·exact .inr ⟨k,c,e,cellK c _ z⟩
 ·obtain⟨v,z⟩:=I.cell y c q;exact⟨v,cellK c v z⟩
 ·obtain⟨q,n,ne,nf,d⟩:=I.pin p hp;have hns:p.1∉frs X.stack:=fun m=>by
   rcases tS.mp (I.stkSub p.1 m)with z|z
   ·exact ne z
   ·exact nf z
  exact⟨st _ _ (cov _ _ q hns (.inr (o3 p hp))),n,ne,nf,d⟩
 ·refine (I.hok b u q).stay (fun c v hc r=>?_) (fun _ z=>z) fun _ _ z=>z;rcases hc with z|z
  ·exact trkd c u v (by rw[z];exact q) r
  ·exact trkd c _ v z r
end
def z6n (K:jJa)(CS:Addr)(i:Nat)(sp:Sp)(dvs:List V)(t:TA)(ts:Addr->Obj->TS):TS:=fun D σ H=>t σ H fun vs H1=>sp (vs++dvs) H1 (fun _ H2=>D.nx σ H2)
 (fun cls od H2=>∃C,cls=.ref C/\jJu K (.ref C) (.ref CS)=some true/\∀(e:Addr) (oe:Obj),oe.cls=.ref C->(oe.dict=od/\∃vs,oe.data=.fields vs)->H2 e=none ->
  ts e oe { nx:=fun σ' H'=>D.nx (σ'.set i none) H',rt:=D.rt,bk:=fun σ' H'=>D.bk (σ'.set i none) H',ct:=fun σ' H'=>D.ct (σ'.set i none) H' } (σ.set i (some (.ref e))) H2)
def z5F {p pos pos' pc hpos tpos:Pos}
  (hst:X.stack=X.env::X.outer) (hf:X.env.frame=some X.env.locals) (hc:X.calm=true) (hN:X.N.Nodup)
  (F:FnOk X.prog X.w X.K X.mg X.base (cxx X.prog X.w) k f fd ps sp) (hr:Room k X.A) (hg:Gl X x) (hm:X.mg x=some (.ref f)) (hk:jJf X.K (.ref f)=true) (hb:Binds X.K fd ps ds) (hd:Vals dvs ds)
  (ha:PA X.nox (e::es) t) (hgc:Gl X xc) (hmc:X.mg xc=some (.ref CS)) (hi:X.N[i]?=some n) (hx:X.env.scope.names.lookup n=some .local)
  (hsuite:∀(e:Addr) (oe:Obj),PSs (X.within e oe) (b₀::suite) (ts e oe))
  (hdb:autoParam (nDb x) au1._auto_1) (hdc:autoParam (nDb xc) au1._auto_1)
  (he:autoParam (jMj (e::es) X.env=(false,eval e X.env)::jMj es X.env) au3._auto_1) (hpl:autoParam ((jNd pos (jMj es X.env)).any (·.1)=false) au3._auto_1)
  (hsw:autoParam (jMf (.Call (.Name x p) (e::es) [] pos) none pos'.line X.env=pure false) au3._auto_1):
  PS X (.Try [.Expr (.Call (.Name x p) (e::es) [] pos) pos'] [.ExceptHandler (some (.Name xc pc)) (some n) (b₀::suite) hpos] [] [] tpos) (z6n X.K CS i sp dvs t ts):=by
 intro jNf s σ H D I h;have hhd:X.calm=true->X.A.handled=none:=I.ok.hd;refine wpAny_Try_except (jYk (wpAny_Expr_any ?_ I.quiet hsw));refine jYf (uv I hg hm ?_ hdb);refine jJi (h₀:=X.base) I.ok.mod.kin hk ?_ he hpl;refine jMc (ha pos jNf s σ H _ (I.wish _) h) (fun us s1 ⟨vs,H1,I1,r,q⟩=>⟨I1.kIn,?_⟩) fun _ _ z=>z.elim;have I1:Inv X jNf σ H1 s1:=I1.unwish;have r2:Vals (vs++dvs) (us++ds):=r.append hd;have hl:(us++ds).length=ps.length:=by rw[<-r2.length];exact F.len _ _ _ _ q
 refine wpAny_call (codeAny_mono (F.run X.A X.stack s1 H1 ⟨us,[]⟩ (us++ds) (vs++dvs) _ _ hr I1.env0 (hb s1 us I1.kIn hl) r2 q) fun r s' hq=>?_);cases r with
 | ok fl =>
  cases fl with
  | ret u =>
   obtain⟨v,H2,I2,rv,qn⟩:=I1.after hq;exact jKa (jKa ⟨σ,H2,I2,qn⟩)
  | next=>exact False.elim hq
  | brk=>exact False.elim hq
  | cont=>exact False.elim hq
 | error ev =>
  obtain⟨e1,cls,H2,rfl,os,bare,un,hok,⟨B,a0,fl,cov⟩,od,⟨oe0,ho1,ho2⟩,C,rfl,hex,hsu⟩:=hq;have I2:Inv X jNf σ H2 s':=I1.call' (ch:=[]) os un hok bare (fun b z=>nomatch z);have fl':Heap.FlyingW B (X.env::X.outer) e1 (.ref C) a0 s'.heap:=by rw[<-hst];exact fl
  have hfr:X.A.frames=some (X.env::X.outer):=by rw[<-hst];exact I.ok.frames
  have o1:∀b o,X.s₀.heap.get? b=some o->b∉X.ex->∃o,s1.heap.get? b=some o:=fun b o q x=>I1.base.there b o q x;have o3:∀p∈X.pn++jNf,∃o,s1.heap.get? p.1=some o:=fun p hp=>⟨_,(I1.pin p hp).1⟩
  have flown:∀h':Heap,B.StaysIn h'->s'.heap.UpToSlots h'->Inv X jNf σ H2 { s' with heap:=h' }:=fun h' st up=>I2.flown hst hf st up cov o1 o3;have he2:H2 e1=none:=by
   cases q:H2 e1 with
   | none=>rfl
   | some u =>
    obtain⟨o,ho⟩:=(I2.hok e1 u q).there;have:=cov e1 o ho (I2.trkNo q) (.inl (by rw[q];simp));rw[fl.2.1]at this;cases this
  have apart:∀(h':Heap),Heap.FlyingW B (X.env::X.outer) e1 (.ref C) a0 h'->∃oe,h'.get? e1=some oe/\oe.cls=.ref C/\(∃vs,oe.data=.fields vs)/\e1≠X.env.locals/\e1∉X.fs:=fun h' z=>by
   obtain⟨oe,vs,q1,q2,q3,_⟩:=z.first;have nfr:e1∉frs (X.env::X.outer):=fun m=>by
    obtain⟨_,o,ho,nf⟩:=z.2.2.1.mem m;rw[q1]at ho;cases ho;exact nf vs q3
   refine⟨oe,q1,q2,⟨vs,q3⟩,fun q=>nfr ?_,fun m=>nfr ?_⟩
   ·rw[q];unfold frs;rw[rF,hf];exact tG
   ·unfold frs;rw[rF,hf];exact tH _ m
  refine Zv (R:=fun h4=>Heap.HeldW B (X.env::X.outer) e1 (.ref C) a0 X.env.locals h4/\s'.heap.UpToSlots h4) (.noteFrame _ _) (fun Q q=>wpAny_looks_onW hfr hf fl' fun h4 a b=>q h4 ⟨a,b⟩) fun h4 ⟨hd4,up4⟩ dk4=>?_;refine Zv (s:={ s' with heap:=h4 }) (R:=fun h5=>Heap.FlyingW B (X.env::X.outer) e1 (.ref C) a0 h5/\h4.UpToSlots h5) (.setFlight _ _) (fun Q q=>wpAny_landsW hd4 fun h5 a b=>q h5 ⟨a,b⟩) fun h5 ⟨fl5,up5⟩ dk5=>?_;have up5':s'.heap.UpToSlots h5:=up4.trans up5;have I5:=flown h5 fl5.1 up5';obtain⟨oe5,g1,g2,⟨vs5,g3⟩,g4,g5⟩:=apart h5 fl5;have I5w:Inv (X.within e1 oe5) jNf σ H2 { s' with heap:=h5 }:=I5.within g1 he2 g4 g5 (fun v q=>by rw[g3]at q;cases q);refine wpAny_handleBy_cons (codeAny_handlers_test (uv (X:=X.within e1 oe5) I5w hgc hmc ?_ hdc)) (by intro q;cases q);have LT:jJv (model X.prog X.w) h5 (typeOf (.ref e1)) (.ref C):=g2▸(PySem.W.Looks.ld g1).andThen .now;refine (PySem.W.exm_one I5.kIn LT hex).here ?_;refine codeAny_handlers_suite_as ?_;refine Zv (s:={ s' with heap:=h5 }) (R:=fun h6=>Heap.FlyingW B (X.env::X.outer) e1 (.ref C) a0 h6/\h5.UpToSlots h6) (.setFlight _ _) (fun Q q=>lands_againW fl5 fun h6 a b=>q h6 ⟨a,b⟩) fun h6 ⟨fl6,up6⟩ dk6=>?_;have I6:=flown h6 fl6.1 (up5'.trans up6);obtain⟨oe6,k1,k2,⟨vs6,k3⟩,k4,k5⟩:=apart h6 fl6;refine kq I6 hN hi (.inl hx) (v:=.ref e1) (u:=.ref e1) rfl (fun s7 I7 sb=>?_) (.inr hx);obtain⟨a7,sb7,ha7⟩:=sb;have ne7:e1≠a7:=by
   rcases ha7 with z|z
   ·rw[z];exact k4
   ·intro q;obtain⟨v,o,ho,hdd⟩:=I6.cell n a7 z;rw[<-q]at ho;have ho:h6.get? e1=some o:=ho;rw[k1]at ho;cases ho;rw[k3]at hdd;cases hdd
  have e7:s7.heap.get? e1=some oe6:=(sb7.2 e1 ne7).trans k1;have I7w:Inv (X.within e1 oe6) jNf (σ.set i (some (.ref e1))) H2 s7:=I7.within e7 he2 k4 k5 (fun v q=>by rw[k3]at q;cases q);refine jMc (hsuite e1 oe6 jNf s7 _ H2 _ I7w (hsu e1 oe6 k2 ⟨((dk4.trans (dk5.trans dk6)).at ho1 k1).trans ho2,vs6,k3⟩ he2)) (fun fl8 s8 q8=>?_) fun _ _ z=>z.elim;have q8:=SP.without q8 hhd;cases fl8 with
  | next =>
   obtain⟨σ8,H8,I8,q⟩:=q8;exact jA I8 hN hi hx fun s9 I9=>⟨_,H8,I9,q⟩
  | brk =>
   obtain⟨σ8,H8,I8,q⟩:=q8;exact jA I8 hN hi hx fun s9 I9=>⟨_,H8,I9,q⟩
  | cont =>
   obtain⟨σ8,H8,I8,q⟩:=q8;exact jA I8 hN hi hx fun s9 I9=>⟨_,H8,I9,q⟩
  | ret u =>
   obtain⟨v8,σ8,H8,I8,r8,q⟩:=q8;exact jA I8 hN hi hx fun s9 I9=>⟨v8,_,H8,I9,r8,q⟩
def vG (cells:List (Str×Addr)):List (Str×NameKind)->List (Str×Addr)->List (Str×Addr)
 | [],acc=>acc
 | (n,k)::r,acc=>vG cells r (if (k==.free)=true then (n,(cells.lookup n).getD 0)::acc else acc)
def X3 (h:∀y∈scope.names,y.2=.free->∃c,env.cells.lookup y.1=some c):closureFor scope env=pure (vG env.cells scope.names []):=by
 have go:∀(l:List (Str×NameKind)) (acc:List (Str×Addr)),(∀y∈l,y.2=.free->∃c,env.cells.lookup y.1=some c) ->
   (forIn l acc fun (x:Str×NameKind) (r:List (Str×Addr))=>(if (x.2==.free)=true then (do let a <-cellOf env x.1;pure (ForInStep.yield ((x.1,a)::r))) else pure (ForInStep.yield r):Sem (ForInStep (List (Str×Addr)))))=pure (vG env.cells l acc):=by
  intro l
  induction l with
  | nil=>intro acc _;rfl
  | cons x r ih =>
   intro acc hx;obtain⟨n,k⟩:=x;rw[List.forIn_cons];have hr:=fun acc=>ih acc fun y hy=>hx y (tH _ hy)
   by_cases hk:(k==NameKind.free)=true
   ·obtain⟨c,hc⟩:=hx (n,k) tG (by simpa using hk);have hc':env.cells.lookup n=some c:=hc;have e1:cellOf env n=pure c:=by unfold cellOf;rw[hc']
    simp only[hk,if_true,e1,pure_bind];unfold vG;rw[jNg hk,hc'];exact hr _
   ·simp only[hk,sY,if_false,pure_bind];unfold vG;rw[jNh hk];exact hr _
 unfold closureFor;have e:=go scope.names [] h;simp only[bind_pure_comp,map_pure]at e ⊢
 first|exact e|(simp only[e,bind_pure];done)|(rw[show (forIn scope.names ([]:List (Str×Addr)) _)=_ from e];rfl)
theorem jo:∀ {names:List (Str×NameKind)} {acc:List (Str×Addr)},(vG cells names acc).lookup x=some c->acc.lookup x=some c\/((x,NameKind.free)∈names/\c=(cells.lookup x).getD 0)
 | [],acc,h=>.inl h
 | (n,k)::r,acc,h=>by
  unfold vG at h;rcases jo h with z|⟨z,e⟩
  ·by_cases hk:(k==NameKind.free)=true
   ·rw[jNg hk]at z
    by_cases hx:(x==n)=true
    ·rw[sU,hx]at z;have e1:x=n:=by simpa using hx
     have e2:k=NameKind.free:=by simpa using hk
     subst e1 e2;exact .inr ⟨tG,(jYe z).symm⟩
    ·have hx':(x==n)=false:=by simpa using hx
     rw[sU,hx']at z;exact .inl z
   ·rw[jNh hk]at z;exact .inl z
  ·exact .inr ⟨tH _ z,e⟩
theorem jT:∀ {names:List (Str×NameKind)} {acc:List (Str×Addr)},((x,NameKind.free)∈names\/∃c,acc.lookup x=some c)->∃c,(vG cells names acc).lookup x=some c
 | [],acc,h=>by
  rcases h with h|h
  ·cases h
  ·exact h
 | (n,k)::r,acc,h=>by
  unfold vG;refine jT ?_;rcases h with h|⟨c,h⟩
  ·rcases tS.mp h with z|z
   ·cases z;refine .inr ⟨(cells.lookup x).getD 0,?_⟩;rw[jNg (by decide),sU];simp only[beq_self_eq_true]
   ·exact .inl z
  ·by_cases hk:(k==NameKind.free)=true
   ·rw[jNg hk]
    by_cases hx:(x==n)=true
    ·exact .inr ⟨_,by rw[sU,hx]⟩
    ·have hx':(x==n)=false:=by simpa using hx
     exact .inr ⟨c,by rw[sU,hx'];exact h⟩
   ·rw[jNh hk];exact .inr ⟨c,h⟩
theorem wm {env:Env}{x:Str}{k:NameKind}:∀ {names:List (Str×NameKind)},(names.map fun (n,k)=>if (k==NameKind.free&&env.scope.kind==.function&&env.kindOf n==some .cell) then (n,NameKind.cell) else (n,k)).lookup x=some k ->
  ∃k',names.lookup x=some k'/\(k=k'\/(k'=.free/\k=.cell))
 | [],h=>by cases h
 | (n,j)::r,h=>by
  rw[tK]at h
  by_cases hx:(x==n)=true
  ·refine⟨j,by rw[sU,hx],?_⟩;dsimp only at h
   by_cases hc:(j==NameKind.free&&env.scope.kind==.function&&env.kindOf n==some .cell)=true
   ·rw[jNg hc,sU,hx]at h;simp only[sR]at hc;exact .inr ⟨by simpa using hc.1.1,(jYe h).symm⟩
   ·rw[jNh hc,sU,hx]at h;exact .inl (jYe h).symm
  ·have hx':(x==n)=false:=by simpa using hx
   have e:(r.map fun (n,k)=>if (k==NameKind.free&&env.scope.kind==.function&&env.kindOf n==some .cell) then (n,NameKind.cell) else (n,k)).lookup x=some k:=by
    dsimp only at h
    by_cases hc:(j==NameKind.free&&env.scope.kind==.function&&env.kindOf n==some .cell)=true
    ·rw[jNg hc,sU,hx']at h;exact h
    ·rw[jNh hc,sU,hx']at h;exact h
   obtain⟨k',e1,e2⟩:=wm e;exact⟨k',by rw[sU,hx'];exact e1,e2⟩
structure CompScope (X:Cx)(N':List Str)(fr:List (Option Nat))(scope:Scope):Prop where
 kind:scope.kind=.function
 nocell:∀y∈scope.names,y.2≠.cell
 loc:∀y∈scope.names,y.2=.local->scope.names.lookup y.1=some .local
 free:∀y∈scope.names,y.2=.free->∃c,X.env.cells.lookup y.1=some c
 len:fr.length=N'.length
 fre:∀(j i:Nat) (x:Str),fr[j]?=some (some i)->N'[j]?=some x->X.N[i]?=some x/\scope.names.lookup x=some .free/\(X.env.kindOf x=some .cell\/X.env.kindOf x=some .free)
def xN (fr:List (Option Nat))(σ:St):St:=fr.map fun o=>o.bind fun i=>(σ[i]?).join
def zP (X:Cx)(scope:Scope)(N':List Str)(s₃:jNc)(H₃:Hp)(fp:List Addr)(jNf:List (Addr×Obj)):Cx:=
 { X with N:=N',s₀:=s₃,H₀:=H₃,env:=compEnvC scope (vG X.env.cells scope.names []) s₃.heap.objs.size X.env,outer:=X.stack,stack:=X.stack,ex:=fp,fn:=fun _=>false,pn:=X.pn++jNf,xe:=fun _ _=>False }
section
variable {X:Cx}{jNf:List (Addr×Obj)}{σ:St}{H:Hp}{s:jNc}{N':List Str}{fr:List (Option Nat)}{scope:Scope}{fp:List Addr}
def xM (S:CompScope X N' fr scope){x:Str}{c:Addr}(h:(vG X.env.cells scope.names []).lookup x=some c):X.env.cells.lookup x=some c:=by
 rcases jo h with z|⟨z,e⟩
 ·cases z
 ·obtain⟨c',hc⟩:=S.free _ z rfl;have hc:X.env.cells.lookup x=some c':=hc;rw[hc]at e;rw[hc,e];rfl
def z2w (I:Inv X jNf σ H s)(S:CompScope X N' fr scope)(hf:∀b∈fp,Zj X jNf H b)(hlt:∀b∈fp,b<s.heap.objs.size):(zP X scope N' s H fp jNf).Ok:=by
 refine⟨I.ok.mod,S.kind,I.ok.glob,I.ok.blt,tP _,fun x y c h1 h2=>I.ok.inj x y c (xM S h1) (xM S h2),fun x hx=>?_,(fun x c z=>by cases z),I.ok.hd,I.ok.frames,.inl rfl,fun b hb=>⟨sV (hlt b hb),fun x c h=>(hf b hb).2.2.2.2.1 x c (xM S h)⟩,
  I.bs,rH I.ok.bsz I.sz,fun b o e hb=>?_,fun b hb hm=>?_,I.stack,I.stkFree⟩
 ·have hx:(relabel scope X.env).names.lookup x=some .cell\/(relabel scope X.env).names.lookup x=some .free:=hx;have key:scope.names.lookup x=some .free:=by
   rcases hx with h|h
   ·obtain⟨k',e1,e2⟩:=wm h;rcases e2 with z|⟨z,_⟩
    ·exact absurd z.symm (S.nocell _ (PySem.mem_of_lookup e1))
    ·rw[e1,z]
   ·obtain⟨k',e1,e2⟩:=wm h;rcases e2 with z|⟨_,z⟩
    ·rw[e1,<-z]
    ·cases z
  exact jT (.inl (PySem.mem_of_lookup key))
 ·rcases (hf b hb).2.2.2.1 with z|z
  ·exact I.ok.noex b o e z
  ·exact absurd (sF (jYc e) (rH I.ok.bsz z)) (pI _)
 ·rcases tS.mp (I.stkSub b hm)with z|z
  ·exact (hf b hb).2.1 z
  ·exact (hf b hb).2.2.1 z
def z2K {tk:Nat}(I:Inv X jNf σ H s)(S:CompScope X N' fr scope)(hf:∀b∈fp,Zj X jNf H b)(hlt:∀b∈fp,b<s.heap.objs.size)(hn:h'.Ns s.heap.objs.size m)
  (hk:∀b o,s.heap.get? b=some o->h'.get? b=some o):Inv (zP X scope N' s H fp jNf) [] (xN fr σ) H { s with heap:=h',toks:=tk }:=by
 refine⟨z2w I S hf hlt,rfl,I.bare,Un.kept hk,⟨m,hn,fun j x v e1 e2 e3=>?_⟩,fun x c h=>?_,I.hok.fresh (tP _),fun x c h=>I.freeC x c (xM S h),fun p hp=>?_,I.hok.kept hk,by unfold xN;rw[tJ];exact S.len⟩
 ·have e1:N'[j]?=some x:=e1;unfold xN at e2;rw[sL]at e2;cases hj:fr[j]? with
  | none=>rw[hj]at e2;cases e2
  | some o =>
   rw[hj]at e2;cases o with
   | none=>cases e2
   | some i =>
    have e2:(σ[i]?).join=some v:=jYe e2;have e2':σ[i]?=some (some v):=by
     cases hq:σ[i]? with
     | none=>rw[hq]at e2;cases e2
     | some w=>rw[hq]at e2;rw[show w=some v from e2]
    obtain⟨n1,n2,n3⟩:=S.fre j i x hj e1;obtain⟨m0,hn0,hl⟩:=I.loc;have hvis:Vis X.env.scope x:=by
     rcases n3 with z|z
     ·exact .inr (.inl z)
     ·exact .inr (.inr z)
    obtain⟨u,r,l⟩:=hl i x v n1 e2' hvis;refine⟨u,r,.inr ⟨?_,?_⟩⟩
    ·have hh:∀ {names:List (Str×NameKind)},names.lookup x=some .free->(names.map fun (n,k)=>if (k==NameKind.free&&X.env.scope.kind==.function&&X.env.kindOf n==some .cell) then (n,NameKind.cell) else (n,k)).lookup x=some .cell \/
       (names.map fun (n,k)=>if (k==NameKind.free&&X.env.scope.kind==.function&&X.env.kindOf n==some .cell) then (n,NameKind.cell) else (n,k)).lookup x=some .free:=by
      intro names
      induction names with
      | nil=>intro z;cases z
      | cons y r ih =>
       obtain⟨n,k⟩:=y;intro z;rw[tK];dsimp only
       by_cases hx:(x==n)=true
       ·rw[sU,hx]at z
        by_cases hc:(k==NameKind.free&&X.env.scope.kind==.function&&X.env.kindOf n==some .cell)=true
        ·rw[jNg hc];exact .inl (by rw[sU,hx])
        ·rw[jNh hc];exact .inr (by rw[sU,hx];exact z)
       ·have hx':(x==n)=false:=by simpa using hx
        rw[sU,hx']at z;have:=ih z
        by_cases hc:(k==NameKind.free&&X.env.scope.kind==.function&&X.env.kindOf n==some .cell)=true
        ·rw[jNg hc,sU,hx'];exact this
        ·rw[jNh hc,sU,hx'];exact this
     exact hh n2
    ·rcases l with⟨k,_⟩|⟨k,c,e,z⟩
     ·rcases n3 with q|q
      ·rw[q]at k;cases k
      ·rw[q]at k;cases k
     ·obtain⟨c',hc'⟩:=jT (cells:=X.env.cells) (x:=x) (names:=scope.names) (acc:=[]) (.inl (PySem.mem_of_lookup n2));have e':=xM S hc';rw[e]at e';cases e';obtain⟨o,ho,hd⟩:=z;exact⟨c,hc',o,hk _ _ ho,hd⟩
 ·obtain⟨v,o,ho,hd⟩:=I.cell x c (xM S h);exact⟨v,o,hk _ _ ho,hd⟩
 ·have hp:p∈(X.pn++jNf)++[]:=hp;rw[tI]at hp;obtain⟨q,n,ne,nf,d⟩:=I.pin p hp;refine⟨hk _ _ q,n,sV (jYc q),fun hm=>?_,d⟩;rcases tS.mp (I.stkSub p.1 hm)with z|z
  ·exact ne z
  ·exact nf z
end
section
variable {X:Cx}{jNf:List (Addr×Obj)}{σ τ:St}{H H₃ H5:Hp}{s₃ s5:jNc}{N':List Str}{scope:Scope}{fp:List Addr}
def U5 (I:Inv X jNf σ H₃ s₃)(J:Inv (zP X scope N' s₃ H₃ fp jNf) [] τ H5 s5)(hf:∀b∈fp,Zj X jNf H₃ b)(hs:Heap.SameBut s₃.heap.objs.size s5.heap h'):Inv X jNf σ H5 { s5 with heap:=h' }:=by
 have hb:∀b o,s₃.heap.get? b=some o->b≠s₃.heap.objs.size:=fun b o q=>sV (jYc q);have u:Un (frs X.stack) fp H₃ H5 s₃.heap s5.heap:=J.base;refine I.call' (s':={ s5 with heap:=h' }) (ch:=fp) J.os ⟨fun b o q n h1 h2=>(hs.2 b (hb b o q)).trans (u.keep b o q n h1 h2),fun b o q n h1 h2=>?_,u.free,fun b o q h2=>?_,u.tups,u.frzs,u.tbls⟩ (fun b ob q=>?_) J.bare (fun b m=>⟨(hf b m).2.2.2.1,(hf b m).2.1,(hf b m).2.2.2.2.1,(hf b m).2.2.2.2.2⟩)
 ·obtain⟨sl,e⟩:=u.slot b o q n h1 h2;exact⟨sl,(hs.2 b (hb b o q)).trans e⟩
 ·obtain⟨o',e⟩:=u.there b o q h2;exact⟨o',(hs.2 b (hb b o q)).trans e⟩
 ·have fr:H5 s₃.heap.objs.size=none:=J.free;refine (J.hok b ob q).stay (fun c v hc r=>(hs.2 c ?_).trans r) (fun _ z=>z) fun _ _ z=>z;rintro rfl;rcases hc with rfl|hc
  ·rw[fr]at q;cases q
  ·rw[fr]at hc;cases hc
end
def PTs (X:Cx)(ifs:List Expr)(t:TT):Prop:=
 ∀(jNf:List (Addr×Obj)) (s:jNc) (σ:St) (H:Hp) (Q:Bool->Hp->Prop),Inv X jNf σ H s->t σ H Q ->
  jNe (model X.prog X.w) X.A (forIn ifs true fun c r=>if r=true then do let ok <-isTrue c X.env (eval c X.env);pure (ForInStep.yield ok) else pure (ForInStep.yield r)) (TP X jNf σ Q) X.xe s
def z89:TT:=fun _ H Q=>Q true H
def z2S:PTs X [] z89:=fun _ _ _ H _ I h=>wpAny_tests_nil ⟨H,I,h⟩
def Qw (h:PT X c t):PTs X [c] t:=fun jNf s σ H Q I q=>wpAny_tests_one (h jNf s σ H Q I q)
def Xo (fr:List (Option Nat))(wi:TI)(g:TG)(tc:TT)(te:TE):TE:=fun σ H Q=>wi σ H fun J H1=>∀D,H1 D=none ->
 ∃W:Nat->Nat->List V->St->Hp->Prop,(∃m,W 0 m [] (xN fr σ) (upd H1 D (.lst [])))/\∀i m ys τ H2,W i m ys τ H2->H2 D=some (.lst ys) /\
  ((J.stop i H2/\Q (.ref D) H2)\/(J.go i H2/\∀x H3,J.yld i H2 x H3->g x τ H3 fun τ' H4=>tc τ' H4 fun b H5=>if b=true then te τ' H5 fun y H6=>H6 D=some (.lst ys)/\ys.length<jMi/\∃m',m'<m/\W (i+1) m' (ys++[y]) τ' (upd H6 D (.lst (ys++[y])))
   else ∃m',m'<m/\W (i+1) m' ys τ' H5))
def VJ {fr:List (Option Nat)}(hc:X.calm=true)(S:CompScope X N' fr scope)(hi:PI X tg iter wi)
  (hg:∀s₃ H₃ fp jNf,PG (zP X scope N' s₃ H₃ fp jNf) tg g) (ht:∀s₃ H₃ fp jNf,PTs (zP X scope N' s₃ H₃ fp jNf) ifs tc) (he:∀s₃ H₃ fp jNf,PE (zP X scope N' s₃ H₃ fp jNf) elt te)
  (hs:∀x,jYg iter X.env x=pure x) {jNf:List (Addr×Obj)} {s:jNc} {σ:St} {H:Hp} {Q:VK} (I:Inv X jNf σ H s) (h:Xo fr wi g tc te σ H Q)
  (hfin:∀(s₃:jNc) (H₃:Hp) (fp:List Addr) (D:Addr) (s6:jNc) (τ:St) (H5:Hp) (fl:Flow),Inv X jNf σ H₃ s₃->(∀b∈fp,Zj X jNf H₃ b)->Inv (zP X scope N' s₃ H₃ fp jNf) [] τ H5 s6->Q (.ref D) H5 ->
   compPost (model X.prog X.w) X.A X.xe use Qf (.ref D) s₃.heap.objs.size (.ok fl) s6):
  jNe (model X.prog X.w) X.A (comprehension (.ListComp elt [⟨tg,iter,ifs,0⟩] scope pos) scope X.env cp (newList []) false (eval iter X.env) use) Qf X.xe s:=by
 refine wpAny_comprehension_free (use:=use) rfl hs (X3 S.free) S.kind S.loc ?_;refine thn (hi jNf s σ H _ I h) fun v s1 h1=>thn h1 fun itv s2 h2=>?_;obtain⟨it,fp,tn,J,H2,rfl,I2,T,st2,f2,hW⟩:=h2;refine jYh ?_ (by size_fits);have hD:H2 s2.heap.objs.size=none:=I2.hok.fresh (tP _);have I3:Inv X jNf σ (upd H2 s2.heap.objs.size (.lst [])) { s2 with heap:=s2.heap.push { cls:=.type "list",data:=.seq ([]:List Value).toArray },toks:=s2.toks }:=
  I2.laid (fun b u e=>jYb _ e) (tP _) ⟨rC _,[],0,.nil,jYd _ rfl⟩
 generalize eD:s2.heap.objs.size=D at I3 hD ⊢;generalize eH:upd H2 D (.lst [])=H3 at I3;have f3:∀b∈fp,Zj X jNf H3 b:=fun b hb=>by
  obtain⟨g0,g1⟩:=f2 b hb;refine⟨?_,g1⟩;obtain⟨o,ho,_⟩:=T.obj 0 _ st2 b hb;rw[<-eH,zt (by rw[<-eD];exact sV (jYc ho))];exact g0
 have lt3:∀b∈fp,b<(s2.heap.push { cls:=.type "list",data:=.seq ([]:List Value).toArray }).objs.size:=fun b hb=>by
  obtain⟨o,ho,_⟩:=T.obj 0 _ st2 b hb;rw[Heap.size_push];exact Nat.lt_succ_of_lt (jYc ho)
 have st3:tn 0 (s2.heap.push { cls:=.type "list",data:=.seq ([]:List Value).toArray }):=T.keep _ _ _ st2 fun b _ o e=>jYb _ e;obtain⟨W,⟨m0,w0⟩,turn⟩:=hW D hD;rw[eH]at w0;generalize es3:({ s2 with heap:=s2.heap.push { cls:=.type "list",data:=.seq ([]:List Value).toArray },toks:=s2.toks }:jNc)=s3 at I3;have lt3:∀b∈fp,b<s3.heap.objs.size:=by rw[<-es3];exact lt3
 have st3:tn 0 s3.heap:=by rw[<-es3];exact st3
 refine wpAny_newFunctionEnv S.nocell (by intro y hy;cases hy) (fun h4 hn4 hsb4=>?_) S.kind;have k4:∀b o,s3.heap.get? b=some o->h4.get? b=some o:=fun b o e=>(hsb4.2 b (sV (jYc e))).trans (jYb _ e);have I4:Inv (zP X scope N' s3 H3 fp jNf) [] (xN fr σ) H3 { s3 with heap:=h4,toks:=s3.toks+([]:List (Str×Value)).length }:=z2K I3 S f3 lt3 hn4 k4;have st4:tn 0 h4:=T.keep _ _ _ st3 fun b _ o e=>k4 b o e;have stat:∀ {H':Hp} {p':List (Addr×Obj)},p'=[]->(∀b∈fp,H' b=none)->∀b∈fp,Zj (zP X scope N' s3 H3 fp jNf) p' H' b:=fun {H' p'} hp hn b hb=>by
  subst hp;obtain⟨g0,g1,g2,g3,g4,g5⟩:=f3 b hb;refine⟨hn b hb,sV (lt3 b hb),fun hm=>?_,.inl hb,fun x c h=>g4 x c (xM S h),fun p hp=>?_⟩
  ·rcases tS.mp (I3.stkSub b hm)with z|z
   ·exact g1 z
   ·exact g2 z
  ·have hp:p∈(X.pn++jNf)++[]:=hp;rw[tI]at hp;exact g5 p hp
 have loop:∀s':jNc,s'={ s3 with heap:=h4,toks:=s3.toks+([]:List (Str×Value)).length }->codeAny (model X.prog X.w) X.A (.compLoop (.ListComp elt [⟨tg,iter,ifs,0⟩] scope pos) 0 (.ref it) (.ref D) (compEnvC scope (vG X.env.cells scope.names []) s3.heap.objs.size X.env))
   (compPost (model X.prog X.w) X.A X.xe use Qf (.ref D) s3.heap.objs.size) s':=by
  rintro s' rfl;refine codeAny_loop rfl (fun n s'=>∃i ys τ H',Inv (zP X scope N' s3 H3 fp jNf) [] τ H' s'/\tn i s'.heap/\(∀b∈fp,H' b=none)/\W i n ys τ H') ?_ m0 ⟨0,[],_,H3,I4,st4,fun b hb=>(f3 b hb).1,w0⟩;rintro n s5 ⟨i,ys,τ,H5,I5,st5,fr5,w5⟩;show jNe _ X.A ((compTurn (.ListComp elt [⟨tg,iter,ifs,0⟩] scope pos) 0 (.ref it) (.ref D) (compEnvC scope (vG X.env.cells scope.names []) s3.heap.objs.size X.env)).onRaise (fun x=>do noteFrame x (compEnvC scope (vG X.env.cells scope.names []) s3.heap.objs.size X.env);theTreesLotGoes x)) _ _ s5;refine wpAny_noted ?_;rw[compTurn_list];obtain⟨hDy,hor⟩:=turn i n ys τ H5 w5;rcases hor with⟨stop,q⟩|⟨go,step⟩
  ·refine jMb (jKf (jMb (thn (T.done (zP X scope N' s3 H3 fp jNf) rfl rfl rfl hc i [] s5 τ H5 _ I5 (stat rfl fr5) st5 stop) fun r s6 ⟨hr,I6⟩=>?_)));subst hr;exact jMd (hfin s3 H3 fp D s6 τ H5 _ I3 f3 I6 q)
  ·refine jMb (jKf (jMb (thn (T.item (zP X scope N' s3 H3 fp jNf) rfl rfl rfl hc i [] s5 τ H5 _ I5 (stat rfl fr5) st5 go) fun r s6 ⟨u,hr,h6⟩=>?_)));subst hr;refine jMb (thn h6 fun _ s7 ⟨x,H7,I7,r7,y7,st7,fr7⟩=>?_);have I7':=I7.pinned (stat rfl fr7) (T.obj _ _ st7);refine jMb (jMc (hg s3 H3 fp jNf _ s7 τ H7 x u _ I7' r7 (step x H7 y7)) (fun _ s8 ⟨τ8,H8,I8,q8⟩=>?_) fun _ _ z=>False.elim z);refine jMb (jMc (ht s3 H3 fp jNf _ s8 τ8 H8 _ I8 q8) (fun b s9 ⟨H9,I9,q9⟩=>?_) fun _ _ z=>False.elim z);have again:∀ {s':jNc} {H':Hp},Inv (zP X scope N' s3 H3 fp jNf) ([]++YB fp s7.heap) τ8 H' s'->tn (i+1) s'.heap/\∀b∈fp,H' b=none:=fun {s' H'} I'=>by
    refine⟨T.keep _ _ _ st7 fun b hb o e=>(I'.pin (b,o) (tL _ (tL _ (ug hb e)))).1,fun b hb=>?_⟩;obtain⟨o,e,d⟩:=T.obj _ _ st7 b hb;exact (I'.pin (b,o) (tL _ (tL _ (ug hb e)))).2.1
   cases b with
   | false =>
    rw[jNh tO]at q9;obtain⟨m',hm,w9⟩:=q9;obtain⟨a1,a2⟩:=again I9;refine jMd ⟨rfl,m',hm,i+1,ys,τ8,H9,I9.unpinned,a1,a2,w9⟩
   | true =>
    rw[jNg rfl]at q9;refine jMb (jMb (jMc (he s3 H3 fp jNf _ s9 τ8 H9 _ I9 q9) (fun yv s10 ⟨y,H10,I10,r10,hD10,hz,m',hm,w10⟩=>?_) fun _ _ z=>False.elim z));refine jMb (jMc (qE (X:=zP X scope N' s3 H3 fp jNf) _ s10 τ8 H10 (.ref D) [y] (.ref D) [yv] (fun _ H11=>H11=upd H10 D (.lst (ys++[y]))) I10 rfl (.cons r10 .nil) ⟨D,ys,y,rfl,rfl,hD10,hz,rfl⟩) (fun _ s11 ⟨_,H11,I11,_,q11⟩=>?_) fun _ _ z=>False.elim z);subst q11;obtain⟨a1,a2⟩:=again I11;exact jMd (jMd ⟨rfl,m',hm,i+1,ys++[y],τ8,_,I11.unpinned,a1,a2,w10⟩)
 exact codeAny_compStart_list (loop _ rfl) (T.self _ 0 _ _ _ st4 (loop _ rfl))
def WU {fr:List (Option Nat)}{pos:Pos}(hc:X.calm=true)(S:CompScope X N' fr scope)(hi:PI X tg iter wi)
  (hg:∀s₃ H₃ fp jNf,PG (zP X scope N' s₃ H₃ fp jNf) tg g) (ht:∀s₃ H₃ fp jNf,PTs (zP X scope N' s₃ H₃ fp jNf) ifs tc) (he:∀s₃ H₃ fp jNf,PE (zP X scope N' s₃ H₃ fp jNf) elt te)
  (hs:autoParam (∀x,jYg iter X.env x=pure x) au2._auto_1):PE X (.ListComp elt [⟨tg,iter,ifs,0⟩] scope pos) (Xo fr wi g tc te):=by
 intro jNf s σ H Q I h;rw[eval_ListComp];refine VJ (use:=none) hc S hi hg ht he hs I h fun s3 H3 fp D s6 τ H5 fl I3 f3 I6 q=>?_;obtain⟨m6,hn6,_⟩:=I6.loc;exact⟨m6,hn6,fun h7 hs7=>⟨.ref D,H5,U5 I3 I6 f3 hs7,rfl,q⟩⟩
def z1O {fr:List (Option Nat)}{i:Nat}(hc:X.calm=true)(S:CompScope X N' fr scope)(hi:PI X tg iter wi)
  (hg:∀s₃ H₃ fp jNf,PG (zP X scope N' s₃ H₃ fp jNf) tg g) (ht:∀s₃ H₃ fp jNf,PTs (zP X scope N' s₃ H₃ fp jNf) ifs tc) (he:∀s₃ H₃ fp jNf,PE (zP X scope N' s₃ H₃ fp jNf) elt te)
  (hN:X.N.Nodup) (hix:X.N[i]?=some x) (hx:Loc X.env.scope x) (hsw:jMf (.ListComp elt [⟨tg,iter,ifs,0⟩] scope cpos) (some (.Name x pos')) pos.line X.env=pure true)
  (hs:autoParam (∀x,jYg iter X.env x=pure x) au2._auto_1) (hf:autoParam (X.fn x=true\/X.env.scope.names.lookup x=some .local) au0._auto_1):PS X (.Assign [.Name x pos'] (.ListComp elt [⟨tg,iter,ifs,0⟩] scope cpos) pos) (z5R (Xo fr wi g tc te) (Za i)):=by
 intro jNf s σ H Z I h;rw[exec_Assign_Name_used _ _ _ _ hsw];refine jMb (jKf (jMb ?_));show jNe _ _ (comprehension (.ListComp elt [⟨tg,iter,ifs,0⟩] scope cpos) scope X.env (firstIterPos [⟨tg,iter,ifs,0⟩] cpos) (newList []) false (eval iter X.env) (some (assign (.Name x pos') X.env)) >>= fun _=>pure ()) _ _ s;refine jMb (VJ (use:=some (assign (.Name x pos') X.env)) hc S hi hg ht he hs I h fun s3 H3 fp D s6 τ H5 fl I3 f3 I6 q=>?_);obtain⟨m6,hn6,_⟩:=id I6.loc;have I7:Inv X jNf σ H5 s6:=U5 (h':=s6.heap) I3 I6 f3 ⟨rfl,fun _ _=>rfl⟩;have ltC:X.env.locals<s3.heap.objs.size:=I3.lt;have cC:∀y c,X.env.cells.lookup y=some c->c≠s3.heap.objs.size:=fun y c e z=>by
  obtain⟨v,o,ho,_⟩:=I3.cell y c e;exact absurd (jYc ho) (by rw[z];exact pI _)
 show jNe (model X.prog X.w) X.A (assign (.Name x pos') X.env (.ref D)) _ X.xe s6;refine wpAny_assign_Name (kq I7 hN hix hx (v:=.ref D) (u:=.ref D) rfl (fun s8 I8 sb=>?_) hf);obtain⟨a8,sb8,ha8⟩:=sb;have neC:s3.heap.objs.size≠a8:=by
  rcases ha8 with z|z
  ·rw[z];exact Nat.ne_of_gt ltC
  ·exact fun w=>cC x a8 z w.symm
 have hn8:s8.heap.Ns s3.heap.objs.size m6:=by
  obtain⟨o,es,ep,ho,r⟩:=hn6;exact⟨o,es,ep,(sb8.2 _ neC).trans ho,r⟩
 refine⟨m6,hn8,fun h9 hs9=>?_⟩;have frC:H5 s3.heap.objs.size=none:=I6.free;refine jMd (jMd ⟨_,H5,?_,q⟩);have:=I8.turned (h':=h9) (t':=s8.toks) (it:=s3.heap.objs.size) (fun b o hb e=>(hs9.2 b hb).trans e) frC (Nat.ne_of_gt ltC) (.inr (rH I3.ok.above (gB ltC))) cC (fun p hp z=>?_)
 ·exact this
 ·have:=jYc (I3.pin p hp).1;rw[z]at this;exact pI _ this
def Ite (K:jJa)(a:Addr):It:=
 ⟨fun i H=>∃xs x,SqL K H a xs/\xs[i]?=some x,fun i H x H'=>∃p y,H p=none/\x=.ref p/\H'=upd H p (.tup [.int i,y])/\∀xs,SqL K H a xs->xs[i]?=some y,fun i H=>∃xs,SqL K H a xs/\xs.length<=i⟩
def JB {P:jNa}{w:World}{K:jJa}{elts:List Expr}{x1:Nat}{tpos:Pos}(a e it:Addr)(hne:e≠it):Turn P w K (.Tuple elts x1 tpos) (Ite K a) [e,it] e (fun i h=>(∃old,IsEnum h e it i old)/\h.IsListIter it a i) where
 mem:=by simp
 obj:=fun i h st b hb=>by
  obtain⟨⟨old,s1⟩,o,e1,c,d⟩:=st;have hb:b=e\/b=it:=by simpa using hb
  rcases hb with rfl|rfl
  ·exact⟨_,s1,fun v z=>by cases z⟩
  ·exact⟨o,e1,fun v z=>by rw[d]at z;cases z⟩
 keep:=fun i h h' st k=>by
  obtain⟨⟨old,s1⟩,s2⟩:=st;exact⟨⟨old,k e (by simp) _ s1⟩,s2.at fun o q=>k it (by simp) o q⟩
 item:=by
  intro X hP hw hK hc i jNf s σ H E I hf st hg;subst hP hw hK;obtain⟨⟨old,s1⟩,s2⟩:=st;obtain⟨xs,x,hq,hx⟩:=hg;obtain⟨its,rv,p,hz⟩:=I.list hq;obtain⟨u,hu,ru⟩:=rv.get hx;obtain⟨f0,f1,f2,f3,f4,f5⟩:=hf e (by simp);obtain⟨g0,g1,g2,g3,g4,g5⟩:=hf it (by simp);refine wpAny_pyNext_enum_item s1 s2 p.isList (x:=u) (by simpa using hu) hne fun h1 out it1 tup sz kp=>?_;refine⟨_,rfl,wpAny_letOwnedTupleGo_enum out fun h2 en2 sb2=>?_⟩;have sb2:Heap.SameBut e h1 h2:=sb2;have eT:e≠s.heap.objs.size:=sV (jYc s1);have iT:it≠s.heap.objs.size:=by
   obtain⟨o,q,_⟩:=s2;exact sV (jYc q)
  have hfresh:H s.heap.objs.size=none:=I.hok.fresh (tP _);have keep2:∀b o,b≠e->b≠it->s.heap.get? b=some o->h2.get? b=some o:=fun b o n1 n2 q=>(sb2.2 b n1).trans (kp b o n1 n2 q);have nE:∀b u,H b=some u->b≠e:=fun b u q z=>by rw[z,f0]at q;cases q
  have nI:∀b u,H b=some u->b≠it:=fun b u q z=>by rw[z,g0]at q;cases q
  have htup:h2.get? s.heap.objs.size=some { cls:=.type "tuple",data:=.seq #[.int i s.toks,u] }:=(sb2.2 _ (Ne.symm eT)).trans tup;have hok2:HOk X.prog X.w (upd H s.heap.objs.size (.tup [.int i,x])) h2:=fun b ob q=>by
   by_cases hb:b=s.heap.objs.size
   ·subst hb;rw[zz]at q;cases q;exact⟨by show 2<=jMi;decide,[.int i s.toks,u],.cons ⟨_,rfl⟩ (.cons ru .nil),⟨_,htup,rfl,⟨rfl,rfl⟩,_,rfl⟩⟩
   ·rw[zt hb]at q;refine (I.hok b ob q).stay (fun c v hc r=>keep2 c v ?_ ?_ r) (fun c z=>?_) fun c ys z=>?_
    ·rcases hc with rfl|hc
     ·exact nE c _ q
     ·exact nE c _ hc
    ·rcases hc with rfl|hc
     ·exact nI c _ q
     ·exact nI c _ hc
    ·rw[zt (zH z hfresh)];exact z
    ·rw[zt (zH z hfresh)];exact z
  have I2:Inv X jNf σ (upd H s.heap.objs.size (.tup [.int i,x])) { s with heap:=h2,gens:=s.gens,drawn:=s.drawn,toks:=s.toks+1 }:=by
   refine I.step (ch:=[e,it]) (fun b hb=>?_) (fun b o _ _ hc q _=>keep2 b o (fun z=>hc (by simp[z])) (fun z=>hc (by simp[z])) q) (fun b o _ _ hc q _=>⟨o.slots,keep2 b o (fun z=>hc (by simp[z])) (fun z=>hc (by simp[z])) q⟩) (fun b o hc q n=>?_)
    (fun b o hc q=>⟨o,keep2 b o (fun z=>hc (by simp[z])) (fun z=>hc (by simp[z])) q⟩) (fun b ys z=>by rw[zt (zH z hfresh)];exact z) (fun b o v z=>by rw[zt (zH z hfresh)];exact z)
    (fun b ps z=>⟨#[],by rw[zt (zH z hfresh),z];simp⟩) (fun m hm=>?_) hok2 I.bare
   ·have hb:b=e\/b=it:=by simpa using hb
    rcases hb with rfl|rfl
    ·exact⟨f3,f1,f4,f5⟩
    ·exact⟨g3,g1,g4,g5⟩
   ·rw[zt (sV (jYc q))];exact n
   ·obtain⟨o,es,ep,ho,r⟩:=hm;exact⟨o,es,ep,keep2 _ o (Ne.symm f1) (Ne.symm g1) ho,r⟩
  refine⟨.ref s.heap.objs.size,_,I2,rfl,⟨s.heap.objs.size,x,hfresh,rfl,rfl,fun ys hy=>by rw[I.list_inj hy hq];exact hx⟩,⟨⟨u,?_⟩,?_⟩,fun b hb=>?_⟩
  ·exact_mod_cast en2
  ·exact it1.at fun o q=>(sb2.2 it (Ne.symm hne)).trans q
  ·have hb:b=e\/b=it:=by simpa using hb
   rcases hb with rfl|rfl
   ·rw[zt eT];exact f0
   ·rw[zt iT];exact g0
 done:=by
  intro X hP hw hK hc i jNf s σ H E I hf st hg;subst hP hw hK;obtain⟨⟨old,s1⟩,s2⟩:=st;obtain⟨xs,hq,hx⟩:=hg;obtain⟨its,rv,p,hz⟩:=I.list hq;obtain⟨g0,g1,g2,g3,g4,g5⟩:=hf it (by simp);have hl:=rv.length;exact wpAny_pyNext_enum_end (I.ok.hd hc) s1 s2 p.isList (by simp;omega) fun h' eb=>⟨rfl,I.turned (t':=s.toks) (fun b o hb q=>eb b o hb q) g0 g1 g3 g4 g5⟩
 self:=fun A i s Q E st h=>by
  obtain⟨⟨old,s1⟩,s2⟩:=st;exact wpAny_pyIter_enum s1 h
def z6F (K:jJa)(ta:TA):TI:=fun σ H R=>ta σ H fun vs H1=>∃a,vs=[.ref a]/\(∃xs,SqL K H1 a xs)/\R (Ite K a) H1
section
def z2m {a:Expr}{ta:TA}{p pos tpos:Pos}{elts:List Expr}{x1:Nat}(hg:Gl X "enumerate")(hm:X.mg "enumerate"=none)(ha:PA X [a] ta)(hb:autoParam (jKg "enumerate"=some (.type "enumerate")) au3._auto_1)(hs:autoParam (jMj [a] X.env=[(false,eval a X.env)]) au3._auto_1):
  PI X (.Tuple elts x1 tpos) (.Call (.Name "enumerate" p) [a] [] pos) (z6F X.K ta):=by
 intro jNf s σ H R I h;refine Call_ (Yh I hg hm hb (PyProof.Rows.callWith_type1 (thn (ha pos jNf s σ H _ I h) fun us s1 ⟨vs,H1,I1,r1,q1⟩=>?_) hs rfl));obtain⟨a,e,⟨xs,hq⟩,q⟩:=q1;subst e;obtain⟨u,rfl,ru⟩:=r1.one;cases ru;obtain⟨its,rv,pl,hz⟩:=I1.list hq;refine call_enumerate_list pl.isList fun h' en it sz kp=>?_;refine wpAny_pyIter_enum en ?_;have I2:Inv X jNf σ H1 { s1 with heap:=h',toks:=s1.toks }:=I1.kept kp;refine⟨s1.heap.objs.size+1,[s1.heap.objs.size+1,s1.heap.objs.size],_,_,H1,rfl,I2,JB a _ _ (Nat.succ_ne_self _),⟨⟨.none,en⟩,it⟩,fun b hb=>?_,q⟩;have hb:b=s1.heap.objs.size+1\/b=s1.heap.objs.size:=by simpa using hb
 rcases hb with rfl|rfl
 ·exact I1.fpOk (Nat.le_succ _) (I1.hok.fresh (Nat.le_succ _))
 ·exact I1.fpOk (tP _) (I1.hok.fresh (tP _))
end
def z5k (x:Str)(i:Nat)(v:V):Prop:=∃c,x.cps[i]?=some c/\v=.str ⟨#[c]⟩
def Its (x:Str):It:=⟨fun i _=>i<x.cps.size,fun i H v H'=>H'=H/\z5k x i v,fun i _=>x.cps.size<=i⟩
def Q3 {P:jNa}{w:World}{K:jJa}{tg:Expr}(x:Str)(t:Tok)(it:Addr):Turn P w K tg (Its x) [it] it (fun i h=>h.IsStrIter it "str_ascii_iterator" x t i) where
 mem:=by simp
 obj:=fun i h st b hb=>by
  have e:b=it:=by simpa using hb
  subst e;obtain⟨o,e,c,d⟩:=st;exact⟨o,e,fun v z=>by rw[d]at z;cases z⟩
 keep:=fun i h h' st k=>let ⟨o,ho,r⟩:=st;⟨o,k it (by simp) o ho,r⟩
 item:=by
  intro X hP hw hK hc i jNf s σ H E I hf st hg;subst hP hw hK;have hg:i<x.cps.size:=hg;obtain⟨f0,f1,f2,f3,f4,f5⟩:=hf it (by simp);refine wpAny_pyNext_ascii_item st (c:=x.cps[i]) (by simp[hg]) fun h' st' sb=>?_;have I1:Inv X jNf σ H { s with heap:=h',toks:=s.toks+1 }:=I.turned (fun b o hb e=>(sb.2 b hb).trans e) f0 f1 f3 f4 f5;obtain⟨o,e,c,d⟩:=id st';exact⟨_,rfl,Vc (s:={ s with heap:=h',toks:=s.toks+1 }) e c d (by decide) ⟨.str ⟨#[x.cps[i]]⟩,H,I1,⟨_,rfl⟩,⟨rfl,_,by simp[hg],rfl⟩,st',fun b hb=>(hf b hb).1⟩⟩
 done:=by
  intro X hP hw hK hc i jNf s σ H E I hf st hg;subst hP hw hK;have hg:x.cps.size<=i:=hg;obtain⟨f0,f1,f2,f3,f4,f5⟩:=hf it (by simp);exact wpAny_pyNext_ascii_end (I.ok.hd hc) st (by simp[hg]) fun h' eb=>⟨rfl,I.turned (t':=s.toks) (fun b o hb e=>eb b o hb e) f0 f1 f3 f4 f5⟩
 self:=fun _ _ _ _ _ st h=>wpAny_pyIter_striter_ascii st h
def JD {P:jNa}{w:World}{K:jJa}{tg:Expr}(x:Str)(t:Tok)(it:Addr):Turn P w K tg (Its x) [it] it (fun i h=>h.IsStrIter it "str_iterator" x t i) where
 mem:=by simp
 obj:=fun i h st b hb=>by
  have e:b=it:=by simpa using hb
  subst e;obtain⟨o,e,c,d⟩:=st;exact⟨o,e,fun v z=>by rw[d]at z;cases z⟩
 keep:=fun i h h' st k=>let ⟨o,ho,r⟩:=st;⟨o,k it (by simp) o ho,r⟩
 item:=by
  intro X hP hw hK hc i jNf s σ H E I hf st hg;subst hP hw hK;have hg:i<x.cps.size:=hg;obtain⟨f0,f1,f2,f3,f4,f5⟩:=hf it (by simp);refine wpAny_pyNext_wide_item st (c:=x.cps[i]) (by simp[hg]) fun h' st' sb=>?_;have I1:Inv X jNf σ H { s with heap:=h',toks:=s.toks+1 }:=I.turned (fun b o hb e=>(sb.2 b hb).trans e) f0 f1 f3 f4 f5;obtain⟨o,e,c,d⟩:=id st';exact⟨_,rfl,Vc (s:={ s with heap:=h',toks:=s.toks+1 }) e c d (by decide) ⟨.str ⟨#[x.cps[i]]⟩,H,I1,⟨_,rfl⟩,⟨rfl,_,by simp[hg],rfl⟩,st',fun b hb=>(hf b hb).1⟩⟩
 done:=by
  intro X hP hw hK hc i jNf s σ H E I hf st hg;subst hP hw hK;have hg:x.cps.size<=i:=hg;obtain⟨f0,f1,f2,f3,f4,f5⟩:=hf it (by simp);exact wpAny_pyNext_wide_end (I.ok.hd hc) st (by simp[hg]) fun h' eb=>⟨rfl,I.turned (t':=s.toks) (fun b o hb e=>eb b o hb e) f0 f1 f3 f4 f5⟩
 self:=fun _ _ _ _ _ st h=>wpAny_pyIter_striter_wide st h
def z81 (te:TE):TI:=fun σ H R=>te σ H fun v H1=>∃x,v=.str x/\R (Its x) H1
def z57 {X:Cx}{tg e:Expr}{te:TE}(he:PE X e te):PI X tg e (z81 te):=by
 intro jNf s σ H R I h;refine thn (he jNf s σ H _ I h) fun v s1 ⟨y,H1,I1,r1,q1⟩=>?_;obtain⟨x,rfl,q⟩:=q1;obtain⟨t,rfl⟩:=r1;cases ha:x.cps.all (·<128)
 ·refine wpAny_pyIter_wide ha ?_;refine⟨s1.heap.objs.size,[s1.heap.objs.size],_,_,H1,rfl,I1.kept (t':=s1.toks) fun b o e=>jYb _ e,JD x t _,⟨_,jYd _ rfl,rfl,rfl⟩,fun b hb=>?_,q⟩;have e:b=s1.heap.objs.size:=by simpa using hb
  subst e;exact I1.fpOk (tP _) (I1.hok.fresh (tP _))
 ·refine wpAny_pyIter_ascii ha ?_;refine⟨s1.heap.objs.size,[s1.heap.objs.size],_,_,H1,rfl,I1.kept (t':=s1.toks) fun b o e=>jYb _ e,Q3 x t _,⟨_,jYd _ rfl,rfl,rfl⟩,fun b hb=>?_,q⟩;have e:b=s1.heap.objs.size:=by simpa using hb
  subst e;exact I1.fpOk (tP _) (I1.hok.fresh (tP _))
section
variable {X:Cx}
def z8d:V->Option Int->Option Int->Hp->VK->Prop:=fun x lo hi H Q=>∃z,x=.str z/\z.length<=jMi/\Q (.str (Txt.slice z lo hi)) H
def z5T:SlR X z8d:=by
 intro jNf s σ H x v vl vu lo hi sl Q I rx hs pl pu h;obtain⟨z,rfl,hz,q⟩:=h;obtain⟨t,rfl⟩:=rx;refine⟨"str",_,F.slot_str_getitem.lookup,typeIs_str _ _ _,?_⟩;have fin:∀(l u:Option (Int×Tok)),vl=partValue l->vu=partValue u->l.map (·.1)=lo->u.map (·.1)=hi->jNe (model X.prog X.w) X.A (getItem (.str z t) (.ref sl)) (EP X jNf σ Q) X.xe s:=by
  intro l u e1 e2 e3 e4;subst e1 e2 e3 e4;refine wpAny_getItem_str_slice (st:=none) hs rfl (post_val_or_str ⟨rH (Txt.slice_le z _ _) hz,fun t' k=>?_⟩);exact⟨.str _,H,I.tok k,⟨t',rfl⟩,q⟩
 cases pl with
 | none =>
  cases pu with
  | none=>exact fin none none rfl rfl rfl rfl
  | int j tj=>exact fin none (some (j,tj)) rfl rfl rfl rfl
 | int i ti =>
  cases pu with
  | none=>exact fin (some (i,ti)) none rfl rfl rfl rfl
  | int j tj=>exact fin (some (i,ti)) (some (j,tj)) rfl rfl rfl rfl
end
structure DefIn (K:jJa)(mg:Str->Option Value)(x:Str)(st:Stmt)(ps:List Str):Prop where
 ex:∃f fd,Fun K x x st f fd/\mg x=some (.ref f)/\Binds K fd ps []
def z1g {K:jJa}{mg:Str->Option Value}{x:Str}{st:Stmt}{ps:List Str}{h:Heap}{f:Addr}{oc:Value}{od an:Option Addr}{osl:Array (Option Value)}{kV doc pm cdv ct:Value}(X:K.In h)(G:h.Ns jKi mg)
  (hb:∀(kV doc pm:Value) (an:Option Addr) (cdv ct:Value) (us:List Value),us.length=ps.length->bindArgs (jJd x x (defArgs st) (defBody st) (defScope st) .none kV doc pm an cdv ct) ⟨us,[]⟩=pure (ps.zip us))
  (a:jJh K jKi x=some (some (.ref f))) (l:K.lookup f=some ⟨oc,od,.func (jJd x x (defArgs st) (defBody st) (defScope st) .none kV doc pm an cdv ct),osl⟩)
  (c:jJg K cdv x=true) (k:jJf K (.ref f)=true):DefIn K mg x st ps:=
 ⟨f,_,Kd l c k,PySem.W.mg_of X G a,(Kd (st:=st) l c k).binds hb⟩
structure Own (P:jNa)(w:World)(K:jJa)(mg:Str->Option Value)(base:Heap)(x:Str)(k:Nat)(ps:List Str)(sp:Sp):Prop where
 ex:∃f fd,FnOk P w K mg base (cxx P w) k f fd ps sp/\mg x=some (.ref f)/\jJf K (.ref f)=true/\Binds K fd ps []
section
variable {P:jNa}{w:World}{K:jJa}{mg:Str->Option Value}{base:Heap}{x:Str}{st:Stmt}{N ps:List Str}{k:Nat}{sp:Sp}
theorem DefIn.own (D:DefIn K mg x st ps)(S:FnScope N ps (defScope st))(len:∀vs H Q E,sp vs H Q E->vs.length=ps.length)
  (hbody:∀(f:Addr) (cdv:Value) (A:jNb) (outer:List Env) (s:jNc) (H:Hp) (vs:List V) (Q:VK) (E:XK),Room k (A.deeper (envOfC x (defScope st) s.heap.objs.size f cdv))->sp vs H Q E ->
   ∃t,PSs (yZ (cxx P w) P w K mg base N x (defScope st) f cdv A outer s H E) (defBody st) t/\t { nx:=fun _ H'=>Q .non H',rt:=Q } (start N vs) H):Own P w K mg base x (k+1) ps sp:=by
 obtain⟨f,fd,F,hm,hb⟩:=D.ex;obtain⟨oc,od,kV,doc,pm,an,cdv,ct,osl,rfl,lk,hcd⟩:=F.ex;exact⟨f,_,QU lk hcd S len fun A outer s H vs Q E hr hsp=>hbody f cdv A outer s H vs Q E hr hsp,hm,F.kp,hb⟩
theorem Own.mono {j:Nat}(O:Own P w K mg base x j ps sp)(h:j<=k):Own P w K mg base x k ps sp:=by
 obtain⟨f,fd,F,a,b,c⟩:=O.ex;exact⟨f,fd,F.mono h,a,b,c⟩
end
section
variable {k:Nat}
def Kr (O:Own X.prog X.w X.K X.mg X.base x k ps sp)(hr:Room k X.A)(hg:Gl X x)(hx:vj (cxx X.prog X.w) X E)(ha:PA X (e::es) t)(hdb:autoParam (nDb x) au1._auto_1)
  (he:autoParam (jMj (e::es) X.env=(false,eval e X.env)::jMj es X.env) au3._auto_1) (hpl:autoParam ((jNd pos (jMj es X.env)).any (·.1)=false) au3._auto_1):PE X (.Call (.Name x p) (e::es) [] pos) (KD sp [] E t):=by
 obtain⟨f,fd,F,hm,hk,hb⟩:=O.ex;exact z1A F hr hg hm hk hb .nil hx ha hdb he hpl
def z29 {pos' pc hpos tpos:Pos}{i:Nat}(O:Own X.prog X.w X.K X.mg X.base x k ps sp)(hst:X.stack=X.env::X.outer)(hf:X.env.frame=some X.env.locals)(hc:X.calm=true)(hN:X.N.Nodup)(hr:Room k X.A)(hg:Gl X x)
  (ha:PA X.nox (e::es) t) (hgc:Gl X xc) (hmc:X.mg xc=some (.ref CS)) (hi:X.N[i]?=some n) (hx:X.env.scope.names.lookup n=some .local) (hsuite:∀(e:Addr) (oe:Obj),PSs (X.within e oe) (b₀::suite) (ts e oe))
  (hdb:autoParam (nDb x) au1._auto_1) (hdc:autoParam (nDb xc) au1._auto_1)
  (he:autoParam (jMj (e::es) X.env=(false,eval e X.env)::jMj es X.env) au3._auto_1) (hpl:autoParam ((jNd pos (jMj es X.env)).any (·.1)=false) au3._auto_1)
  (hsw:autoParam (jMf (.Call (.Name x p) (e::es) [] pos) none pos'.line X.env=pure false) au3._auto_1):
  PS X (.Try [.Expr (.Call (.Name x p) (e::es) [] pos) pos'] [.ExceptHandler (some (.Name xc pc)) (some n) (b₀::suite) hpos] [] [] tpos) (z6n X.K CS i sp [] t ts):=by
 obtain⟨f,fd,F,hm,hk,hb⟩:=O.ex;exact z5F hst hf hc hN F hr hg hm hk hb .nil ha hgc hmc hi hx hsuite hdb hdc he hpl hsw
end
def Zb:List String:=["NoneType","bool","int","str","list","tuple","dict"]
section
variable {K:jJa}
def Jk:∀ {T:String},T∈Zb->jJb K (.type T) (.type "int")=some (T=="int"||T=="bool"):=by
 intro T h;simp only[Zb,tS,hV,or_false]at h;rcases h with rfl|rfl|rfl|rfl|rfl|rfl|rfl<;>kernel_rfl
def VT:∀ {T:String},T∈Zb->jJb K (.type T) (.type "bool")=some (T=="bool"):=by
 intro T h;simp only[Zb,tS,hV,or_false]at h;rcases h with rfl|rfl|rfl|rfl|rfl|rfl|rfl<;>kernel_rfl
def z0S:∀ {T U:String},T∈Zb->U∈(["str","list","tuple","dict"]:List String)->jJb K (.type T) (.type U)=some (T==U):=by
 intro T U h g;simp only[Zb,tS,hV,or_false]at h g;rcases g with rfl|rfl|rfl|rfl<;>rcases h with rfl|rfl|rfl|rfl|rfl|rfl|rfl<;>kernel_rfl
end
def z8i (K:jJa)(pn:List (Addr×Obj))(u:V)(te:TE):TE:=fun σ H Q=>te σ H fun v H1=>z7G K pn [v,u] H1 Q
def Wd {p pos:Pos}(hg:Gl X "isinstance")(hm:X.mg "isinstance"=none)(he:PE X e te)(hc:PE X c (tC u))(hs:autoParam (jMj [e,c] X.env=(false,eval e X.env)::jMj [c] X.env) au3._auto_1)(hs2:autoParam (jMj [c] X.env=(false,eval c X.env)::jMj [] X.env) au3._auto_1)
  (hpl:autoParam ((jNd pos (jMj [c] X.env)).any (·.1)=false) au3._auto_1):PE X (.Call (.Name "isinstance" p) [e,c] [] pos) (z8i X.K X.pn u te):=by
 have key:=vP (X:=X) (x:="isinstance") (p:=p) (pos:=pos) z0A hg hm Boot.«isinstance» (zR he (zR hc wF hs2) hs) (by decide) (by decide) hs hpl;intro jNf s σ H Q I h;exact key jNf s σ H Q I h
inductive D where
 | non | bl (b:Bool) | int (i:Int) | str (x:Str) | tup (xs:List D) | lst (xs:List D) | dic (ks:List Key) (xs:List D) | frl (xs:List D) | obj (C:Addr) (ns:List Str) (xs:List D)
inductive R (α:Type) where
 | ok (a:α) | err (c:Str) | bad
def R.bind {α β:Type}(r:R α)(f:α->R β):R β:=match r with
 | .ok a=>f a
 | .err c=>.err c
 | .bad=>.bad
def jYa {α β:Type}(a:α)(f:α->R β):(R.ok a).bind f=f a:=rfl
mutual
def D.imm:D->Bool
 | .tup xs=>D.imms xs
 | .lst _=>false
 | .dic _ _=>false
 | .obj _ _ _=>false
 | _=>true
def D.imms:List D->Bool
 | []=>true
 | d::ds=>D.imm d&&D.imms ds
end
def SqF (K:jJa)(H:Hp)(a:Addr)(vs:List V):Prop:=(∃o,H a=some (.frz o (.lst vs))) \/
 ∃(o:Obj) (its:Array Value) (n:Nat),K.lookup a=some o/\o.cls=.type "list"/\o.dict=none/\o.data=.seq its n/\its.size<=jMi/\Vals vs its.toList
theorem SqF.sq {K:jJa}{H:Hp}{a:Addr}{vs:List V}(h:SqF K H a vs):SqL K H a vs:=by
 rcases h with⟨o,h⟩|h
 ·exact .inl (.inr ⟨o,h⟩)
 ·exact .inr h
mutual
def Rep (K:jJa)(H:Hp):D->V->List Addr->Prop
 | .non,v,L=>v=.non/\L=[]
 | .bl b,v,L=>v=.bl b/\L=[]
 | .int i,v,L=>v=.int i/\L=[]
 | .str x,v,L=>v=.str x/\L=[]
 | .tup ds,v,L=>∃a vs,v=.ref a/\SqT K H a vs/\Reps K H ds vs L
 | .lst ds,v,L=>∃a vs L',v=.ref a/\H a=some (.lst vs)/\L=a::L'/\Reps K H ds vs L'
 | .dic ks ds,v,L=>∃a kvs L',v=.ref a/\H a=some (.dK kvs)/\L=a::L'/\kvs.map (·.1)=ks/\ks.Nodup/\Reps K H ds (kvs.map (·.2)) L'
 | .frl ds,v,L=>∃a vs,v=.ref a/\SqF K H a vs/\L=[]/\D.imms ds=true/\Reps K H ds vs []
 | .obj C ns ds,v,L=>∃a dx fs,v=.ref a/\H a=some (.ins C dx fs)/\fs.map (·.1)=ns/\Reps K H ds (fs.map (·.2)) L
def Reps (K:jJa)(H:Hp):List D->List V->List Addr->Prop
 | [],vs,L=>vs=[]/\L=[]
 | d::ds,vs,L=>∃v vs' L1 L2,vs=v::vs'/\L=L1++L2/\Rep K H d v L1/\Reps K H ds vs' L2
end
structure TF (H H':Hp):Prop where
 tup:∀a xs,H a=some (.tup xs)->H' a=some (.tup xs)
 frz:∀a o u,H a=some (.frz o u)->H' a=some (.frz o u)
 ins:∀a C dx fs,H a=some (.ins C dx fs)->H' a=some (.ins C dx fs)
theorem Same.tf (h:Same H H'):TF H H':=⟨fun a xs e=>h a _ e,fun a o u e=>h a _ e,fun a C dx fs e=>h a _ e⟩
theorem Same.non (s:Same H H1){a:Addr}(h:H1 a=none):H a=none:=by
 cases e:H a with
 | none=>rfl
 | some o=>rw[s a o e]at h;cases h
theorem Same.new (h:H p=none):Same H (upd H p o):=fun b u e=>by
 rw[zt (zH e h)];exact e
theorem SqF.tf {K:jJa}{H H':Hp}{a:Addr}{vs:List V}(h:SqF K H a vs)(s:TF H H'):SqF K H' a vs:=by
 rcases h with⟨o,h⟩|h
 ·exact .inl ⟨o,s.frz _ _ _ h⟩
 ·exact .inr h
theorem SqT.tf {K:jJa}{H H':Hp}{a:Addr}{vs:List V}(h:SqT K H a vs)(s:TF H H'):SqT K H' a vs:=by
 rcases h with h|h
 ·rcases h with h|⟨o,h⟩
  ·exact .inl (.inl (s.tup _ _ h))
  ·exact .inl (.inr ⟨o,s.frz _ _ _ h⟩)
 ·exact .inr h
section
variable {K:jJa}{H H':Hp}
mutual
theorem Rep.keep (s:TF H H'):∀(d:D) (v:V) (L:List Addr),Rep K H d v L->(∀a∈L,H' a=H a)->Rep K H' d v L
 | .non,_,_,h,_=>h
 | .bl _,_,_,h,_=>h
 | .int _,_,_,h,_=>h
 | .str _,_,_,h,_=>h
 | .tup ds,_,L,hq3,k=>by
  obtain⟨a,vs,e,h,r⟩:=hq3;exact⟨a,vs,e,h.tf s,Reps.keep s ds vs L r k⟩
 | .obj C ns ds,_,L,hq3,k=>by
  obtain⟨a,dx,fs,e,h,hn,r⟩:=hq3;exact⟨a,dx,fs,e,s.ins _ _ _ _ h,hn,Reps.keep s ds _ L r k⟩
 | .lst ds,_,L,hq3,k=>by
   obtain⟨a,vs,L',e,h1,h2,h3⟩:=hq3;subst h2;exact⟨a,vs,L',e,by rw[k a tG];exact h1,rfl,Reps.keep s ds vs L' h3 fun b hb=>k b (tH _ hb)⟩
 | .frl ds,_,L,hq3,k=>by
  obtain⟨a,vs,e,h1,h2,h3,h4⟩:=hq3;exact⟨a,vs,e,h1.tf s,h2,h3,Reps.keep s ds vs [] h4 (fun _ hb=>nomatch hb)⟩
 | .dic ks ds,_,L,hq3,k=>by
   obtain⟨a,kvs,L',e,h1,h2,h3,h4,h5⟩:=hq3;subst h2;exact⟨a,kvs,L',e,by rw[k a tG];exact h1,rfl,h3,h4,Reps.keep s ds _ L' h5 fun b hb=>k b (tH _ hb)⟩
theorem Reps.keep (s:TF H H'):∀(ds:List D) (vs:List V) (L:List Addr),Reps K H ds vs L->(∀a∈L,H' a=H a)->Reps K H' ds vs L
 | [],_,_,h,_=>h
 | d::ds,_,_,hq3,k=>by
  obtain⟨v,vs',L1,L2,e1,e2,h1,h2⟩:=hq3;subst e2;exact⟨v,vs',L1,L2,e1,rfl,Rep.keep s d v L1 h1 fun a ha=>k a (tW _ ha),Reps.keep s ds vs' L2 h2 fun a ha=>k a (tL _ ha)⟩
end
mutual
theorem Rep.dom:∀(d:D) (v:V) (L:List Addr),Rep K H d v L->∀a∈L,(∃vs,H a=some (.lst vs))\/∃kvs,H a=some (.dK kvs)
 | .non,_,_,h,a,ha=>by rw[h.2]at ha;cases ha
 | .bl _,_,_,h,a,ha=>by rw[h.2]at ha;cases ha
 | .int _,_,_,h,a,ha=>by rw[h.2]at ha;cases ha
 | .str _,_,_,h,a,ha=>by rw[h.2]at ha;cases ha
 | .tup ds,_,L,hq3,b,hb=>by
  obtain⟨a,vs,e,h,r⟩:=hq3;exact Reps.dom ds vs L r b hb
 | .obj C ns ds,_,L,hq3,b,hb=>by
  obtain⟨a,dx,fs,e,h,hn,r⟩:=hq3;exact Reps.dom ds _ L r b hb
 | .lst ds,_,L,hq3,b,hb=>by
   obtain⟨a,vs,L',e,h1,h2,h3⟩:=hq3;subst h2;rcases tS.mp hb with z|z
   ·subst z;exact .inl ⟨vs,h1⟩
   ·exact Reps.dom ds vs L' h3 b z
 | .frl ds,_,L,hq3,b,hb=>by
  obtain⟨a,vs,e,h1,h2,h3,h4⟩:=hq3;rw[h2]at hb;cases hb
 | .dic ks ds,_,L,hq3,b,hb=>by
   obtain⟨a,kvs,L',e,h1,h2,h3,h4,h5⟩:=hq3;subst h2;rcases tS.mp hb with z|z
   ·subst z;exact .inr ⟨kvs,h1⟩
   ·exact Reps.dom ds _ L' h5 b z
theorem Reps.dom:∀(ds:List D) (vs:List V) (L:List Addr),Reps K H ds vs L->∀a∈L,(∃vs,H a=some (.lst vs))\/∃kvs,H a=some (.dK kvs)
 | [],_,_,h,a,ha=>by rw[h.2]at ha;cases ha
 | d::ds,_,_,hq3,a,ha=>by
  obtain⟨v,vs',L1,L2,e1,e2,h1,h2⟩:=hq3;subst e2;rcases tX.mp ha with z|z
  ·exact Rep.dom d v L1 h1 a z
  ·exact Reps.dom ds vs' L2 h2 a z
end
mutual
theorem Rep.imm:∀(d:D) (v:V) (L:List Addr),Rep K H d v L->d.imm=true->L=[]
 | .non,_,_,h,_=>h.2
 | .bl _,_,_,h,_=>h.2
 | .int _,_,_,h,_=>h.2
 | .str _,_,_,h,_=>h.2
 | .tup ds,_,L,hq3,h=>by
  obtain⟨_,vs,_,_,r⟩:=hq3;exact Reps.imm ds vs L r h
 | .lst _,_,_,_,h=>nomatch h
 | .dic _ _,_,_,_,h=>nomatch h
 | .obj _ _ _,_,_,_,h=>nomatch h
 | .frl _,_,_,hq3,_=>by
  obtain⟨_,_,_,_,h,_⟩:=hq3;exact h
theorem Reps.imm:∀(ds:List D) (vs:List V) (L:List Addr),Reps K H ds vs L->D.imms ds=true->L=[]
 | [],_,_,h,_=>h.2
 | d::ds,_,_,hq3,h=>by
  obtain⟨v,vs',L1,L2,_,e2,h1,h2⟩:=hq3;have h:(d.imm&&D.imms ds)=true:=h;rw[sR]at h;rw[e2,Rep.imm d v L1 h1 h.1,Reps.imm ds vs' L2 h2 h.2];rfl
end
def Rep.there {d:D}{v:V}{L:List Addr}(h:Rep K H d v L){a:Addr}(ha:a∈L):H a≠none:=by
 rcases Rep.dom d v L h a ha with⟨_,e⟩|⟨_,e⟩<;>rw[e]<;>simp
theorem Reps.there {d:List D}{v:List V}{L:List Addr}(h:Reps K H d v L){a:Addr}(ha:a∈L):H a≠none:=by
 rcases Reps.dom d v L h a ha with⟨_,e⟩|⟨_,e⟩<;>rw[e]<;>simp
theorem Same.at (s:Same H H')(h:H a≠none):H' a=H a:=by
 cases e:H a with
 | none=>exact absurd e h
 | some o=>exact s a o e
theorem Rep.same {d:D}{v:V}{L:List Addr}(h:Rep K H d v L)(s:Same H H'):Rep K H' d v L:=Rep.keep s.tf d v L h fun _ ha=>s.at (h.there ha)
theorem Reps.same {d:List D}{v:List V}{L:List Addr}(h:Reps K H d v L)(s:Same H H'):Reps K H' d v L:=Reps.keep s.tf d v L h fun _ ha=>s.at (h.there ha)
theorem Reps.length:∀ {ds:List D} {vs:List V} {L:List Addr},Reps K H ds vs L->vs.length=ds.length
 | [],_,_,hq3=>by
  obtain⟨e,_⟩:=hq3;rw[e];rfl
 | d::ds,_,_,hq3=>by
  obtain⟨v,vs',L1,L2,e1,e2,h1,h2⟩:=hq3;rw[e1,tE,tE,Reps.length h2]
theorem Reps.nil:Reps K H [] [] []:=⟨rfl,rfl⟩
theorem Reps.cons {d:D}{v:V}{L1:List Addr}{ds:List D}{vs:List V}{L2:List Addr}(h:Rep K H d v L1)(t:Reps K H ds vs L2):Reps K H (d::ds) (v::vs) (L1++L2):=⟨v,vs,L1,L2,rfl,rfl,h,t⟩
theorem Reps.get:∀ {ds:List D} {vs:List V} {L:List Addr} {i:Nat} {d:D},Reps K H ds vs L->ds[i]?=some d->∃v L1,vs[i]?=some v/\Rep K H d v L1/\List.Sublist L1 L
 | [],_,_,_,_,_,e=>by simp at e
 | d::ds,_,_,0,_,hq5,e=>by
  obtain⟨v,vs',L1,L2,e1,e2,h1,h2⟩:=hq5;subst e1 e2;simp at e;subst e;exact⟨v,L1,rfl,h1,List.sublist_append_left _ _⟩
 | d::ds,_,_,i+1,d',hq5,e=>by
  obtain⟨v,vs',L1,L2,e1,e2,h1,h2⟩:=hq5;subst e1 e2;obtain⟨v',L',a,b,c⟩:=Reps.get (i:=i) (d:=d') h2 (by simpa using e);exact⟨v',L',by simpa using a,b,c.trans (pL _ _)⟩
theorem Reps.append:∀ {ds ds':List D} {vs vs':List V} {L L':List Addr},Reps K H ds vs L->Reps K H ds' vs' L'->Reps K H (ds++ds') (vs++vs') (L++L')
 | [],_,_,_,_,_,hq6,h=>by
  obtain⟨e1,e2⟩:=hq6;subst e1 e2;exact h
 | d::ds,_,_,_,_,_,hq6,h=>by
  obtain⟨v,vs',L1,L2,e1,e2,h1,h2⟩:=hq6;subst e1 e2;have:=Reps.cons h1 (Reps.append h2 h);rw[<-tQ]at this;exact this
theorem Reps.take:∀ {ds:List D} {vs:List V} {L:List Addr} (n:Nat),Reps K H ds vs L->∃L',Reps K H (ds.take n) (vs.take n) L'/\List.Sublist L' L
 | _,_,_,0,_=>⟨[],by simpa using Reps.nil,gF _⟩
 | [],_,_,n+1,hq4=>by
  obtain⟨e1,e2⟩:=hq4;subst e1 e2;exact⟨[],by simpa using Reps.nil,gF _⟩
 | d::ds,_,_,n+1,hq4=>by
  obtain⟨v,vs',L1,L2,e1,e2,h1,h2⟩:=hq4;subst e1 e2;obtain⟨L',a,b⟩:=Reps.take n h2;exact⟨L1++L',by simpa using Reps.cons h1 a,List.Sublist.append (List.Sublist.refl _) b⟩
theorem Reps.drop:∀ {ds:List D} {vs:List V} {L:List Addr} (n:Nat),Reps K H ds vs L->∃L',Reps K H (ds.drop n) (vs.drop n) L'/\List.Sublist L' L
 | _,_,L,0,h=>⟨L,by simpa using h,List.Sublist.refl _⟩
 | [],_,_,n+1,hq4=>by
  obtain⟨e1,e2⟩:=hq4;subst e1 e2;exact⟨[],by simpa using Reps.nil,gF _⟩
 | d::ds,_,_,n+1,hq4=>by
  obtain⟨v,vs',L1,L2,e1,e2,h1,h2⟩:=hq4;subst e1 e2;obtain⟨L',a,b⟩:=Reps.drop n h2;exact⟨L',by simpa using a,b.trans (pL _ _)⟩
end
abbrev Tn:=List (Option D)
inductive Cl where
 | own | shr | brw | dead
 deriving DecidableEq
inductive Rc where
 | fresh | shr | bor
 deriving DecidableEq
structure EOk (K:jJa)(Γ:List Cl)(O:Addr->Prop)(H:Hp)(σ:St)(τ:Tn):Prop where
 dom:∀a,O a->H a≠none
 slot:∀(i:Nat) (c:Cl),Γ[i]?=some c->c≠.dead->∃v d L,σ[i]?=some (some v)/\τ[i]?=some (some d)/\Rep K H d v L/\(c=.shr->∀a∈L,¬O a)
def RcOk (c:Rc)(O:Addr->Prop)(H:Hp)(L:List Addr):Prop:=match c with
 | .fresh=>L.Nodup/\∀a∈L,H a=none
 | .shr=>∀a∈L,¬O a
 | .bor=>True
def post (K:jJa)(E:XK)(O:Addr->Prop)(c:Rc)(H:Hp)(Q:VK):R D->Prop
 | .ok d=>∀v H' L,Same H H'->Rep K H' d v L->RcOk c O H L->Q v H'
 | .err n=>∀C H',ErrO K n H' C->Same H H'->E (.ref C.1) C.2 H'
 | .bad=>False
def z0P (K:jJa)(E:XK)(O:Addr->Prop)(c:Rc)(H:Hp)(Q:List V->Hp->Prop):R (List D)->Prop
 | .ok ds=>∀vs H' L,Same H H'->Reps K H' ds vs L->RcOk c O H L->Q vs H'
 | .err n=>∀C H',ErrO K n H' C->Same H H'->E (.ref C.1) C.2 H'
 | .bad=>False
def postB (K:jJa)(E:XK)(H:Hp)(Q:Bool->Hp->Prop):R Bool->Prop
 | .ok b=>∀H',Same H H'->Q b H'
 | .err n=>∀C H',ErrO K n H' C->Same H H'->E (.ref C.1) C.2 H'
 | .bad=>False
section
variable {K:jJa}{Γ:List Cl}{O:Addr->Prop}{H H1:Hp}{σ:St}{τ:Tn}{E:XK}{c:Rc}{Q:VK}
theorem EOk.same (e:EOk K Γ O H σ τ)(s:Same H H1):EOk K Γ O H1 σ τ:=
 ⟨fun a h=>by rw[s.at (e.dom a h)];exact e.dom a h,fun i c h1 h2=>by
  obtain⟨v,d,L,a1,a2,a3,a4⟩:=e.slot i c h1 h2;exact⟨v,d,L,a1,a2,a3.same s,a4⟩⟩
theorem RcOk.same (h:RcOk c O H1 L)(s:Same H H1):RcOk c O H L:=by
 cases c with
 | fresh=>exact⟨h.1,fun a ha=>s.non (h.2 a ha)⟩
 | shr=>exact h
 | bor=>exact h
theorem RcOk.shr (dom:∀a,O a->H a≠none)(hc:c≠.bor)(h:RcOk c O H L):∀a∈L,¬O a:=by
 cases c with
 | fresh=>exact fun a ha ho=>dom a ho (h.2 a ha)
 | shr=>exact h
 | bor=>exact absurd rfl hc
theorem RcOk.nil:RcOk c O H []:=by
 cases c with
 | fresh=>exact⟨pZ,fun a ha=>by cases ha⟩
 | shr=>exact fun a ha=>by cases ha
 | bor=>trivial
theorem post.same {r:R D}(h:post K E O c H Q r)(s:Same H H1):post K E O c H1 Q r:=by
 cases r with
 | ok d=>exact fun v H' L s' r' c'=>h v H' L (s.trans s') r' (c'.same s)
 | err n=>exact fun C H' e s'=>h C H' e (s.trans s')
 | bad=>exact h
theorem postB.same {Q:Bool->Hp->Prop}{r:R Bool}(h:postB K E H Q r)(s:Same H H1):postB K E H1 Q r:=by
 cases r with
 | ok d=>exact fun H' s'=>h H' (s.trans s')
 | err n=>exact fun C H' e s'=>h C H' e (s.trans s')
 | bad=>exact h
end
def ME (X:Cx)(E:XK)(Γ:List Cl)(e:Expr)(t:Tn->R D)(c:Rc):Prop:=
 ∃te,PE X e te/\∀O σ H τ Q,EOk X.K Γ O H σ τ->post X.K E O c H Q (t τ)->te σ H Q
def MA (X:Cx)(E:XK)(Γ:List Cl)(es:List Expr)(t:Tn->R (List D))(c:Rc):Prop:=
 (∀τ ds,t τ=.ok ds->ds.length=es.length)/\∃ta,PA X es ta/\∀O σ H τ Q,EOk X.K Γ O H σ τ->z0P X.K E O c H Q (t τ)->ta σ H Q
def MT (X:Cx)(E:XK)(Γ:List Cl)(e:Expr)(t:Tn->R Bool):Prop:=
 ∃te,PT X e te/\∀O σ H τ Q,EOk X.K Γ O H σ τ->postB X.K E H Q (t τ)->te σ H Q
def MW (X:Cx)(E:XK)(Γ:List Cl)(e:Expr)(t:Tn->R Bool):Prop:=
 ∃te,PW X e te/\∀O σ H τ Q,EOk X.K Γ O H σ τ->postB X.K E H Q (t τ)->te σ H Q
theorem MW.mt (h:MW X E Γ e t):MT X E Γ e t:=by
 obtain⟨te,p,q⟩:=h;exact⟨te,p.pt,q⟩
def Rc.of:Cl->Rc
 | .shr=>.shr
 | _=>.bor
def Rc.both:Rc->Rc->Rc
 | .fresh,.fresh=>.fresh
 | .bor,_=>.bor
 | _,.bor=>.bor
 | _,_=>.shr
def za (i:Nat):Tn->R D:=fun τ=>match τ[i]? with
 | some (some d)=>.ok d
 | _=>.bad
def eC (d:D):Tn->R D:=fun _=>.ok d
def uT (t:Tn->R D):Tn->R D:=fun τ=>(t τ).bind fun d=>if d.imm=true then .ok d else .bad
def zc (g:D->D->R D)(a b:Tn->R D):Tn->R D:=fun τ=>(a τ).bind fun x=>(b τ).bind fun y=>g x y
def eUn (g:D->R D)(a:Tn->R D):Tn->R D:=fun τ=>(a τ).bind g
def ze:Tn->R (List D):=fun _=>.ok []
def zb (a:Tn->R D)(b:Tn->R (List D)):Tn->R (List D):=fun τ=>(a τ).bind fun x=>(b τ).bind fun xs=>.ok (x::xs)
def eL (g:List D->R D)(a:Tn->R (List D)):Tn->R D:=fun τ=>(a τ).bind g
def asB:D->R Bool
 | .bl b=>.ok b
 | _=>.bad
def zh (a:Tn->R D):Tn->R Bool:=fun τ=>(a τ).bind asB
def u5 (a b:Tn->R Bool):Tn->R Bool:=fun τ=>(a τ).bind fun x=>if x=true then b τ else .ok false
def bOr (a b:Tn->R Bool):Tn->R Bool:=fun τ=>(a τ).bind fun x=>if x=true then .ok true else b τ
def yJ (a:Tn->R Bool):Tn->R Bool:=fun τ=>(a τ).bind fun x=>.ok (!x)
def uq (a b:Tn->R D):Tn->R D:=fun τ=>(a τ).bind fun x=>(asB x).bind fun k=>if k=true then b τ else .ok (.bl false)
def eIf (c:Tn->R Bool)(a b:Tn->R D):Tn->R D:=fun τ=>(c τ).bind fun k=>if k=true then a τ else b τ
def yx (g g':D->D->R D)(a b c:Tn->R D):Tn->R D:=fun τ=>(a τ).bind fun x=>(b τ).bind fun y=>(g x y).bind fun z=>(asB z).bind fun k=>if k=true then (c τ).bind fun w=>g' y w else .ok (.bl false)
section
variable {X:Cx}{E:XK}{Γ:List Cl}{e a b:Expr}{t ta tb tc:Tn->R D}{c ca cb:Rc}{pos:Pos}
def z2Q (hN:X.N[i]?=some x)(hk:Γ[i]?=some k)(hd:k≠.dead)(hv:Vis X.env.scope x)(hb:autoParam (nDb x) au1._auto_1)(hcd:autoParam ((x==("__classdict__":Str))=false) au1._auto_1):
  ME X E Γ (.Name x pos) (za i) (Rc.of k):=by
 refine⟨jz i,vN hN hv hb hcd,fun O σ H τ Q ok h=>?_⟩;obtain⟨v,d,L,e1,e2,e3,e4⟩:=ok.slot i k hk hd;unfold za at h;rw[e2]at h;refine⟨v,e1,h v H L (Same.refl H) e3 ?_⟩;cases k with
 | shr=>exact e4 rfl
 | own=>trivial
 | brw=>trivial
 | dead=>trivial
def K7 (hp:PE X e (tC v))(hr:∀H,Rep X.K H d v []):ME X E Γ e (eC d) .fresh:=
 ⟨tC v,hp,fun O σ H τ Q ok h=>h v H [] (Same.refl H) (hr H) RcOk.nil⟩
def z9 {j}:ME X E Γ (.Constant (.int i) j pos) (eC (.int i)) .fresh:=K7 ue fun _=>⟨rfl,rfl⟩
def xH {j}:ME X E Γ (.Constant (.bool i) j pos) (eC (.bl i)) .fresh:=K7 z6r fun _=>⟨rfl,rfl⟩
def UL {j}:ME X E Γ (.Constant .none j pos) (eC .non) .fresh:=K7 Wh fun _=>⟨rfl,rfl⟩
def zg {j}:ME X E Γ (.Constant (.str x) j pos) (eC (.str x)) .fresh:=K7 z04 fun _=>⟨rfl,rfl⟩
def uA (h:ME X E Γ e t c):ME X E Γ e (uT t) .fresh:=by
 obtain⟨te,p,q⟩:=h;refine⟨te,p,fun O σ H τ Q ok h=>q O σ H τ Q ok ?_⟩;unfold uT at h;cases ht:t τ with
 | ok d =>
  rw[ht]at h;refine fun v H' L s r k=>?_;rw[jYa]at h
  by_cases hi:d.imm=true
  ·rw[jNg hi]at h;have:=Rep.imm d v L r hi;subst this;exact h v H' [] s r RcOk.nil
  ·rw[jNh hi]at h;exact h.elim
 | err n=>rw[ht]at h;exact h
 | bad=>rw[ht]at h;exact h
theorem post.bind {K:jJa}{O:Addr->Prop}{H:Hp}{Q Q':VK}{r:R D}{f:D->R D}(h:post K E O c H Q (r.bind f))(hf:∀d,r=.ok d->post K E O c H Q (f d)->∀v H' L,Same H H'->Rep K H' d v L->RcOk ca O H L->Q' v H'):post K E O ca H Q' r:=by
 cases r with
 | ok d=>exact hf d rfl h
 | err n=>exact h
 | bad=>exact h
def xo:MA X E Γ [] ze .fresh:=⟨fun τ ds h=>by cases h;rfl,z1F,wF,fun O σ H τ Q ok h=>h [] H [] (Same.refl H) Reps.nil RcOk.nil⟩
def RcOk.append {K:jJa}{O:Addr->Prop}{H H1:Hp}{d:D}{v:V}{L1 L2:List Addr}(dom:∀a,O a->H a≠none)(s:Same H H1)(r:Rep K H1 d v L1)(h1:RcOk ca O H L1)(h2:RcOk cb O H1 L2):RcOk (Rc.both ca cb) O H (L1++L2):=by
 have dom1:∀a,O a->H1 a≠none:=fun a h=>by rw[s.at (dom a h)];exact dom a h
 by_cases hf:ca=.fresh/\cb=.fresh
 ·obtain⟨rfl,rfl⟩:=hf;refine⟨sN.mpr ⟨h1.1,h2.1,fun a ha b hb z=>?_⟩,fun a ha=>?_⟩
  ·subst z;exact r.there ha (h2.2 a hb)
  ·rcases tX.mp ha with z|z
   ·exact h1.2 a z
   ·exact s.non (h2.2 a z)
 ·have key:ca≠.bor->cb≠.bor->∀a∈L1++L2,¬O a:=fun n1 n2 a ha=>by
   rcases tX.mp ha with z|z
   ·exact h1.shr dom n1 a z
   ·exact h2.shr dom1 n2 a z
  cases ca<;>cases cb<;>first|exact absurd ⟨rfl,rfl⟩ hf|trivial|exact key (by simp) (by simp)
def zl (h:ME X E Γ e t ca)(r:MA X E Γ es u cb)(hs:autoParam (jMj (e::es) X.env=(false,eval e X.env)::jMj es X.env) au3._auto_1):MA X E Γ (e::es) (zb t u) (Rc.both ca cb):=by
 obtain⟨te,p1,q1⟩:=h;obtain⟨hl,ta,p2,q2⟩:=r;refine⟨fun τ ds h=>?_,ZY te ta,zR p1 p2 hs,fun O σ H τ Q ok h=>?_⟩
 ·unfold zb at h;cases h1:t τ with
  | ok d =>
   rw[h1,jYa]at h;cases h2:u τ with
   | ok xs =>
    rw[h2,jYa]at h;cases h;rw[tE,tE,hl τ xs h2]
   | err n=>rw[h2]at h;cases h
   | bad=>rw[h2]at h;cases h
  | err n=>rw[h1]at h;cases h
  | bad=>rw[h1]at h;cases h
 ·unfold zb at h;refine q1 O σ H τ _ ok ?_;cases h1:t τ with
  | ok d =>
   rw[h1,jYa]at h;refine fun v H1 L1 s1 r1 k1=>q2 O σ H1 τ _ (ok.same s1) ?_;cases h2:u τ with
   | ok xs =>
    rw[h2,jYa]at h;exact fun vs H2 L2 s2 r2 k2=>h (v::vs) H2 (L1++L2) (s1.trans s2) (Reps.cons (r1.same s2) r2) (RcOk.append ok.dom s1 r1 k1 k2)
   | err n=>rw[h2]at h;exact fun C H' e s'=>h C H' e (s1.trans s')
   | bad=>rw[h2]at h;exact h
  | err n=>rw[h1]at h;exact h
  | bad=>rw[h1]at h;exact h
def w8 {x1}(h:MA X E Γ es u c)(hz:autoParam (es.length<=1000) au1._auto_1):ME X E Γ (.Tuple es x1 pos) (eL (fun ds=>.ok (.tup ds)) u) c:=by
 obtain⟨hl,ta,p,q⟩:=h;refine⟨z74 ta,UO p,fun O σ H τ Q ok h=>q O σ H τ _ ok ?_⟩;unfold eL at h;have hs:jMi=16777216:=jKj;cases hu:u τ with
 | ok ds =>
  rw[hu,jYa]at h;refine fun vs H1 L s r k=>⟨by rw[r.length,hl τ ds hu];lia,fun p hp=>?_⟩
  refine h _ _ L (s.trans (Same.new hp)) ⟨p,vs,rfl,SqT.of zz,r.same (Same.new hp)⟩ k
 | err n=>rw[hu]at h;exact h
 | bad=>rw[hu]at h;exact h
def zM (h:MA X E Γ es u c)(hz:autoParam (es.length<=1000) au1._auto_1):ME X E Γ (.List es pos) (eL (fun ds=>.ok (.lst ds)) u) c:=by
 obtain⟨hl,ta,p,q⟩:=h;refine⟨z7Q ta,z5J p,fun O σ H τ Q ok h=>q O σ H τ _ ok ?_⟩;unfold eL at h;have hs:jMi=16777216:=jKj;cases hu:u τ with
 | ok ds =>
  rw[hu,jYa]at h;refine fun vs H1 L s r k=>⟨by rw[r.length,hl τ ds hu];lia,fun p hp=>?_⟩
  refine h _ _ (p::L) (s.trans (Same.new hp)) ⟨p,vs,L,rfl,zz,rfl,r.same (Same.new hp)⟩ ?_;have np:H p=none:=s.non hp;cases c with
  | fresh =>
   refine⟨sP.mpr ⟨fun z=>r.there z hp,k.1⟩,fun a ha=>?_⟩;rcases tS.mp ha with z|z
   ·rw[z];exact np
   ·exact k.2 a z
  | shr =>
   intro a ha;rcases tS.mp ha with z|z
   ·rw[z];exact fun o=>ok.dom p o np
   ·exact k a z
  | bor=>trivial
 | err n=>rw[hu]at h;exact h
 | bad=>rw[hu]at h;exact h
def yy (h:ME X E Γ e t c)(he:autoParam (∀whole,isTrue e X.env whole=(do let v <-whole;standAt e.pos;holding [v] (truthy v))) au2._auto_1):MT X E Γ e (zh t):=by
 obtain⟨te,p,q⟩:=h;refine⟨tB te,qZ p he,fun O σ H τ Q ok h=>q O σ H τ _ ok ?_⟩;unfold zh at h;cases ht:t τ with
 | ok d =>
  rw[ht,jYa]at h;refine fun v H' L s r _=>?_;cases d with
  | bl k=>exact⟨k,r.1,h H' s⟩
  | _=>exact h.elim
 | err n=>rw[ht]at h;exact h
 | bad=>rw[ht]at h;exact h
variable {u v:Tn->R Bool}{rest:List Expr}
def yg (h:MT X E Γ a u):MT X E Γ (.UnaryOp .Not a pos) (yJ u):=by
 obtain⟨te,p,q⟩:=h;refine⟨z67 te,XZ p,fun O σ H τ Q ok h=>q O σ H τ _ ok ?_⟩;unfold yJ at h;cases ht:u τ with
 | ok d=>rw[ht,jYa]at h;exact h
 | err n=>rw[ht]at h;exact h
 | bad=>rw[ht]at h;exact h
def wo (h:MT X E Γ a u):MW X E Γ (.BoolOp .And [a] pos) u:=by
 obtain⟨te,p,q⟩:=h;exact⟨te,z30 p,q⟩
def yY (h:MT X E Γ a u):MW X E Γ (.BoolOp .Or [a] pos) u:=by
 obtain⟨te,p,q⟩:=h;exact⟨te,Ul p,q⟩
def vt (h:MT X E Γ a u)(r:MW X E Γ (.BoolOp .And (b::rest) pos) v):MW X E Γ (.BoolOp .And (a::b::rest) pos) (u5 u v):=by
 obtain⟨te,p,q⟩:=h;obtain⟨te',p',q'⟩:=r;refine⟨z6b te te',z5f p p',fun O σ H τ Q ok h=>q O σ H τ _ ok ?_⟩;unfold u5 at h;cases ht:u τ with
 | ok d =>
  rw[ht,jYa]at h;refine fun H1 s1=>?_;cases d with
  | true=>rw[jNg rfl]at h ⊢;exact q' O σ H1 τ Q (ok.same s1) (h.same s1)
  | false=>rw[jNh tO]at h ⊢;exact h H1 s1
 | err n=>rw[ht]at h;exact h
 | bad=>rw[ht]at h;exact h
def x9 (h:MT X E Γ a u)(r:MW X E Γ (.BoolOp .Or (b::rest) pos) v):MW X E Γ (.BoolOp .Or (a::b::rest) pos) (bOr u v):=by
 obtain⟨te,p,q⟩:=h;obtain⟨te',p',q'⟩:=r;refine⟨tOr te te',Qm p p',fun O σ H τ Q ok h=>q O σ H τ _ ok ?_⟩;unfold bOr at h;cases ht:u τ with
 | ok d =>
  rw[ht,jYa]at h;refine fun H1 s1=>?_;cases d with
  | true=>rw[jNg rfl]at h ⊢;exact h H1 s1
  | false=>rw[jNh tO]at h ⊢;exact q' O σ H1 τ Q (ok.same s1) (h.same s1)
 | err n=>rw[ht]at h;exact h
 | bad=>rw[ht]at h;exact h
def kj {op}(h:ME X E Γ a t c):ME X E Γ (.BoolOp op [a] pos) t c:=by
 obtain⟨te,p,q⟩:=h;exact⟨te,z4Y p,q⟩
def VB {K:jJa}{O:Addr->Prop}{H:Hp}{Q:VK}{d:D}{f:Bool->R D}(h:post K E O c H Q ((asB d).bind f)){v:V}{H':Hp}{L:List Addr}(r:Rep K H' d v L):∃k,v=.bl k/\d=.bl k/\post K E O c H Q (f k):=by
 cases d with
 | bl k=>exact⟨k,r.1,rfl,h⟩
 | _=>exact h.elim
def uW (ha:ME X E Γ a ta ca)(hb:ME X E Γ (.BoolOp .And (b::rest) pos) tb c):ME X E Γ (.BoolOp .And (a::b::rest) pos) (uq ta tb) c:=by
 obtain⟨te,p,q⟩:=ha;obtain⟨te',p',q'⟩:=hb;refine⟨z3Q te te',z5S p p',fun O σ H τ Q ok h=>q O σ H τ _ ok (post.bind h fun d _ h v H1 L s r _=>?_)⟩;obtain⟨k,e1,e2,h⟩:=VB h r;refine⟨k,e1,?_⟩;cases k with
 | true=>rw[jNg rfl]at h ⊢;exact q' O σ H1 τ Q (ok.same s) (h.same s)
 | false=>rw[jNh tO]at h ⊢;exact h _ H1 [] s ⟨rfl,rfl⟩ RcOk.nil
def OpB (K:jJa)(r:R2)(g:D->D->R D):Prop:=
 ∀H x y dx dy Lx Ly (Q:VK),Rep K H dx x Lx->Rep K H dy y Ly->(∃d,g dx dy=.ok d/\∀v H' L,Same H H'->Rep K H' d v L->L.Nodup->(∀a∈L,H a=none)->Q v H')->r x y H Q
def x8 (g:D->D->R D):Prop:=∀x y n,g x y≠.err n
def Up {r:R2}{g:D->D->R D}{te te':TE}(hB:OpB X.K r g)(hn:x8 g)(q:∀O σ H τ Q,EOk X.K Γ O H σ τ->post X.K E O ca H Q (ta τ)->te σ H Q)(q':∀O σ H τ Q,EOk X.K Γ O H σ τ->post X.K E O cb H Q (tb τ)->te' σ H Q)
  {O:Addr->Prop} {σ:St} {H:Hp} {τ:Tn} {Q:VK} (ok:EOk X.K Γ O H σ τ) (h:post X.K E O .fresh H Q (zc g ta tb τ)):tOp r te te' σ H Q:=by
 unfold zc at h;refine q O σ H τ _ ok (post.bind h fun dx _ h x H1 Lx s1 rx _=>q' O σ H1 τ _ (ok.same s1) (post.bind (h.same s1) fun dy _ h y H2 Ly s2 ry _=>?_));cases hg:g dx dy with
 | ok d =>
  rw[hg]at h;exact hB H2 x y dx dy Lx Ly Q (rx.same s2) ry ⟨d,hg,fun v H' L s r n1 n2=>h v H' L (s2.trans s) r ⟨n1,fun a ha=>s2.non (n2 a ha)⟩⟩
 | err n=>exact absurd hg (hn _ _ _)
 | bad=>rw[hg]at h;exact h.elim
def uI {op:Operator}{r:R2}{g:D->D->R D}(ho:OpR X (binaryOp op) r)(hB:OpB X.K r g)(hn:x8 g)(ha:ME X E Γ a ta ca)(hb:ME X E Γ b tb cb):ME X E Γ (.BinOp a op b pos) (zc g ta tb) .fresh:=by
 obtain⟨te,p,q⟩:=ha;obtain⟨te',p',q'⟩:=hb;exact⟨_,z6g ho p p',fun O σ H τ Q ok h=>Up hB hn q q' ok h⟩
def xX {op:CmpOp}{r:R2}{g:D->D->R D}(ho:OpR X (jMe op) r)(hB:OpB X.K r g)(hn:x8 g)(ha:ME X E Γ a ta ca)(hb:ME X E Γ b tb cb)(hm:behindInMarks op b=false):ME X E Γ (.Compare a [op] [b] pos) (zc g ta tb) .fresh:=by
 obtain⟨te,p,q⟩:=ha;obtain⟨te',p',q'⟩:=hb;exact⟨_,z38 ho p p' hm,fun O σ H τ Q ok h=>Up hB hn q q' ok h⟩
def Xk {K:jJa}{O:Addr->Prop}{H:Hp}{Q:Bool->Hp->Prop}{r:R D}(h:postB K E H Q (r.bind asB)):post K E O c H (fun x H'=>∃k,x=.bl k/\Q k H') r:=by
 cases r with
 | ok d =>
  refine fun v H' L s r _=>?_;cases d with
  | bl k=>exact⟨k,r.1,h H' s⟩
  | _=>exact h.elim
 | err n=>exact h
 | bad=>exact h
def zD {op:CmpOp}{r:R2}{g:D->D->R D}(ho:OpR X (jMe op) r)(hB:OpB X.K r g)(hn:x8 g)(ha:ME X E Γ a ta ca)(hb:ME X E Γ b tb cb)(hm:behindInMarks op b=false):MT X E Γ (.Compare a [op] [b] pos) (zh (zc g ta tb)):=by
 obtain⟨te,p,q⟩:=ha;obtain⟨te',p',q'⟩:=hb;exact⟨_,J7 ho p p' hm,fun O σ H τ Q ok h=>Up (O:=O) hB hn q q' ok (Xk h)⟩
def Vp {c':Expr}{cc:Rc}{r r':R2}{g g':D->D->R D}{te te' te2:TE}(hB:OpB X.K r g)(hn:x8 g)(hB':OpB X.K r' g')(hn':x8 g')(q:∀O σ H τ Q,EOk X.K Γ O H σ τ->post X.K E O ca H Q (ta τ)->te σ H Q)(q':∀O σ H τ Q,EOk X.K Γ O H σ τ->post X.K E O cb H Q (tb τ)->te' σ H Q)
  (q2:∀O σ H τ Q,EOk X.K Γ O H σ τ->post X.K E O cc H Q (tc τ)->te2 σ H Q) {O:Addr->Prop} {σ:St} {H:Hp} {τ:Tn} {Q:VK} (ok:EOk X.K Γ O H σ τ) (h:post X.K E O .fresh H Q (yx g g' ta tb tc τ)):Qg r r' te te' te2 σ H Q:=by
 unfold yx at h;refine q O σ H τ _ ok (post.bind h fun dx _ h x H1 Lx s1 rx _=>q' O σ H1 τ _ (ok.same s1) (post.bind (h.same s1) fun dy _ h y H2 Ly s2 ry _=>?_));cases hg:g dx dy with
 | ok d =>
  rw[hg,jYa]at h;refine hB H2 x y dx dy Lx Ly _ (rx.same s2) ry ⟨d,hg,fun z H3 L s3 r3 n1 n2=>?_⟩;obtain⟨k,e1,e2,h⟩:=VB (h.same s2) r3;refine⟨k,e1,?_⟩;cases k with
  | true =>
   rw[jNg rfl]at h ⊢;have ok3:=((ok.same s1).same s2).same s3;refine q2 O σ H3 τ _ ok3 (post.bind (h.same s3) fun dw _ h w H4 Lw s4 rw4 _=>?_);cases hg':g' dy dw with
   | ok d' =>
    rw[hg']at h;exact hB' H4 y w dy dw Ly Lw Q ((ry.same s3).same s4) rw4 ⟨d',hg',fun v H' L s r n1 n2=>h v H' L (s4.trans s) r ⟨n1,fun a ha=>s4.non (n2 a ha)⟩⟩
   | err n=>exact absurd hg' (hn' _ _ _)
   | bad=>rw[hg']at h;exact h.elim
  | false=>rw[jNh tO]at h ⊢;exact h _ H3 [] s3 ⟨rfl,rfl⟩ RcOk.nil
 | err n=>exact absurd hg (hn _ _ _)
 | bad=>rw[hg]at h;exact h.elim
def Vf {op op':CmpOp}{c':Expr}{cc:Rc}{r r':R2}{g g':D->D->R D}(ho:OpR X (jMe op) r)(hB:OpB X.K r g)(hn:x8 g)(ho':OpR X (jMe op') r')(hB':OpB X.K r' g')(hn':x8 g')
  (ha:ME X E Γ a ta ca) (hb:ME X E Γ b tb cb) (hc:ME X E Γ c' tc cc) (hm:autoParam (lastMarks [op,op'] [b,c']=false) au4._auto_1):ME X E Γ (.Compare a [op,op'] [b,c'] pos) (yx g g' ta tb tc) .fresh:=by
 obtain⟨te,p,q⟩:=ha;obtain⟨te',p',q'⟩:=hb;obtain⟨te2,p2,q2⟩:=hc;exact⟨_,KU ho ho' p p' p2 hm,fun O σ H τ Q ok h=>Vp (c':=c') hB hn hB' hn' q q' q2 ok h⟩
def wV {op op':CmpOp}{c':Expr}{cc:Rc}{r r':R2}{g g':D->D->R D}(ho:OpR X (jMe op) r)(hB:OpB X.K r g)(hn:x8 g)(ho':OpR X (jMe op') r')(hB':OpB X.K r' g')(hn':x8 g')
  (ha:ME X E Γ a ta ca) (hb:ME X E Γ b tb cb) (hc:ME X E Γ c' tc cc) (hm:autoParam (lastMarks [op,op'] [b,c']=false) au4._auto_1):MT X E Γ (.Compare a [op,op'] [b,c'] pos) (zh (yx g g' ta tb tc)):=by
 obtain⟨te,p,q⟩:=ha;obtain⟨te',p',q'⟩:=hb;obtain⟨te2,p2,q2⟩:=hc;exact⟨_,z0b ho ho' p p' p2 hm,fun O σ H τ Q ok h=>Vp (c':=c') (O:=O) hB hn hB' hn' q q' q2 ok (Xk h)⟩
def ClB (K:jJa)(r:List V->Hp->VK->Prop)(g:List D->R D):Prop:=
 ∀H xs ds L (Q:VK),Reps K H ds xs L->(∃d,g ds=.ok d/\∀v H' L',Same H H'->Rep K H' d v L'->L'.Nodup->(∀a∈L',H a=none)->Q v H')->r xs H Q
def yQ (g:List D->R D):Prop:=∀ds n,g ds≠.err n
variable {uL:Tn->R (List D)}{es:List Expr}
def z3I {r:List V->Hp->VK->Prop}{g:List D->R D}{ta':TA}(hB:ClB X.K r g)(hn:yQ g)(q:∀O σ H τ Q,EOk X.K Γ O H σ τ->z0P X.K E O ca H Q (uL τ)->ta' σ H Q)
  {O:Addr->Prop} {σ:St} {H:Hp} {τ:Tn} {Q:VK} (ok:EOk X.K Γ O H σ τ) (h:post X.K E O .fresh H Q (eL g uL τ)):tCB r ta' σ H Q:=by
 refine q O σ H τ _ ok ?_;unfold eL at h;cases hu:uL τ with
 | ok ds =>
  rw[hu,jYa]at h;refine fun vs H1 L s1 r1 _=>?_;cases hg:g ds with
  | ok d =>
   rw[hg]at h;exact hB H1 vs ds L Q r1 ⟨d,hg,fun v H' L s r n1 n2=>h v H' L (s1.trans s) r ⟨n1,fun a ha=>s1.non (n2 a ha)⟩⟩
  | err n=>exact absurd hg (hn _ _)
  | bad=>rw[hg]at h;exact h.elim
 | err n=>rw[hu]at h;exact h
 | bad=>rw[hu]at h;exact h
variable {x:Str}{id T:String}{p:Pos}
def xD {r:List V->Hp->VK->Prop}{g:List D->R D}(hc:CallR X (.builtin id) r)(hB:ClB X.K r g)(hn:yQ g)(hg:Gl X x)(hm:X.mg x=none)(hv:jKg x=some (.builtin id))(ha:MA X E Γ (e::es) uL ca)(hx:autoParam (x≠"__name__") au1._auto_1)(hdb:autoParam (nDb x) au1._auto_1)
  (he:autoParam (jMj (e::es) X.env=(false,eval e X.env)::jMj es X.env) au3._auto_1) (hpl:autoParam ((jNd pos (jMj es X.env)).any (·.1)=false) au3._auto_1):ME X E Γ (.Call (.Name x p) (e::es) [] pos) (eL g uL) .fresh:=by
 obtain⟨_,ta',p',q⟩:=ha;exact⟨_,vP hc hg hm hv p' hx hdb he hpl,fun O σ H τ Q ok h=>z3I hB hn q ok h⟩
def zU {r:List V->Hp->VK->Prop}{g:List D->R D}(hc:CallR X (.type T) r)(hB:ClB X.K r g)(hn:yQ g)(hg:Gl X x)(hm:X.mg x=none)(hv:jKg x=some (.type T))(ha:MA X E Γ (e::es) uL ca)(hx:autoParam (x≠"__name__") au1._auto_1)(hdb:autoParam (nDb x) au1._auto_1)
  (he:autoParam (jMj (e::es) X.env=(false,eval e X.env)::jMj es X.env) au3._auto_1) (hpl:autoParam ((jNd pos (jMj es X.env)).any (·.1)=false) au3._auto_1):ME X E Γ (.Call (.Name x p) (e::es) [] pos) (eL g uL) .fresh:=by
 obtain⟨_,ta',p',q⟩:=ha;exact⟨_,K4 hc hg hm hv p' hx hdb he hpl,fun O σ H τ Q ok h=>z3I hB hn q ok h⟩
end
def wpE (K:jJa)(E:XK)(Γ:List Cl)(t:Tn->R D)(c:Rc):TE:=fun σ H Q=>∃O τ,EOk K Γ O H σ τ/\post K E O c H Q (t τ)
def wpT (K:jJa)(E:XK)(Γ:List Cl)(t:Tn->R Bool):TT:=fun σ H Q=>∃O τ,EOk K Γ O H σ τ/\postB K E H Q (t τ)
theorem ME.pe (h:ME X E Γ e t c):PE X e (wpE X.K E Γ t c):=by
 obtain⟨te,p,q⟩:=h;rintro jNf s σ H Q I ⟨O,τ,ok,z⟩;exact p jNf s σ H Q I (q O σ H τ Q ok z)
structure SOk (K:jJa)(Γ:List Cl)(B H:Hp)(σ:St)(τ:Tn)(T:List Addr):Prop where
 ext:Same B H
 lσ:σ.length=Γ.length
 lτ:τ.length=Γ.length
 ex:∃Ls:Nat->List Addr,
  (∀i c,Γ[i]?=some c->c≠.dead->∃v d,σ[i]?=some (some v)/\τ[i]?=some (some d)/\Rep K H d v (Ls i)) /\
  (∀i,Γ[i]?=some .own->(Ls i).Nodup/\∀a∈Ls i,B a=none) /\
  (∀i j c,i≠j->Γ[i]?=some .own->Γ[j]?=some c->c≠.dead->∀a∈Ls i,a∉Ls j) /\
  T.Nodup/\(∀a∈T,B a=none/\H a≠none)/\(∀i c,Γ[i]?=some c->c≠.dead->∀a∈Ls i,a∉T)
inductive Fl where
 | nx (τ:Tn) | rt (d:D) | bk (τ:Tn) | ct (τ:Tn)
def z7O (K:jJa)(E:XK)(B:Hp)(Γ':List Cl)(σ:St)(τ:Tn)(T:List Addr)(H:Hp)(Q:VK):R D->Prop
 | .ok d=>∀v H' L,Same H H'->Rep K H' d v L->SOk K Γ' B H' σ τ (L++T)->Q v H'
 | .err n=>∀C H',ErrO K n H' C->Same B H'->E (.ref C.1) C.2 H'
 | .bad=>False
def qm (K:jJa)(E:XK)(B:Hp)(Γl Γ':List Cl)(Z:Ends):R Fl->Prop
 | .ok (.nx τ')=>∀σ' H',SOk K Γ' B H' σ' τ' []->Z.nx σ' H'
 | .ok (.rt d)=>∀v H' L,Same B H'->Rep K H' d v L->L.Nodup->(∀a∈L,B a=none)->Z.rt v H'
 | .ok (.bk τ')=>∀σ' H',SOk K Γl B H' σ' τ' []->Z.bk σ' H'
 | .ok (.ct τ')=>∀σ' H',SOk K Γl B H' σ' τ' []->Z.ct σ' H'
 | .err n=>∀C H',ErrO K n H' C->Same B H'->E (.ref C.1) C.2 H'
 | .bad=>False
def MV (X:Cx)(E:XK)(Γ:List Cl)(e:Expr)(t:Tn->R D)(Γ':List Cl):Prop:=
 ∃te,PE X e te/\∀B σ H τ T Q,SOk X.K Γ B H σ τ T->z7O X.K E B Γ' σ τ T H Q (t τ)->te σ H Q
def MS (X:Cx)(E:XK)(Γl Γ:List Cl)(s:Stmt)(t:Tn->R Fl)(Γ':List Cl):Prop:=
 ∃ts,PS X s ts/\∀B σ H τ Z,SOk X.K Γ B H σ τ []->qm X.K E B Γl Γ' Z (t τ)->ts Z σ H
def MSs (X:Cx)(E:XK)(Γl Γ:List Cl)(s:List Stmt)(t:Tn->R Fl)(Γ':List Cl):Prop:=
 ∃ts,PSs X s ts/\∀B σ H τ Z,SOk X.K Γ B H σ τ []->qm X.K E B Γl Γ' Z (t τ)->ts Z σ H
section
variable {K:jJa}{Γ Γ':List Cl}{B H H1:Hp}{σ:St}{τ:Tn}{T:List Addr}
theorem SOk.eok (h:SOk K Γ B H σ τ T):∃O:Addr->Prop,EOk K Γ O H σ τ/\(∀L:List Addr,(∀a∈L,¬O a)->∃Ls:Nat->List Addr,
  (∀i c,Γ[i]?=some c->c≠.dead->∃v d,σ[i]?=some (some v)/\τ[i]?=some (some d)/\Rep K H d v (Ls i)) /\
  (∀i,Γ[i]?=some .own->(Ls i).Nodup/\∀a∈Ls i,B a=none) /\
  (∀i j c,i≠j->Γ[i]?=some .own->Γ[j]?=some c->c≠.dead->∀a∈Ls i,a∉Ls j) /\
  T.Nodup/\(∀a∈T,B a=none/\H a≠none)/\(∀i c,Γ[i]?=some c->c≠.dead->∀a∈Ls i,a∉T)/\∀i,Γ[i]?=some .own->∀a∈Ls i,a∉L):=by
 obtain⟨Ls,h1,h2,h3,h4,h5,h6⟩:=h.ex;refine⟨fun a=>∃i,Γ[i]?=some .own/\a∈Ls i,⟨fun a ⟨i,e,ha⟩=>?_,fun i c e hc=>?_⟩,fun L hL=>⟨Ls,h1,h2,h3,h4,h5,h6,fun i e a ha hm=>hL a hm ⟨i,e,ha⟩⟩⟩
 ·obtain⟨v,d,_,_,r⟩:=h1 i _ e (by simp);exact r.there ha
 ·obtain⟨v,d,e1,e2,r⟩:=h1 i c e hc;refine⟨v,d,Ls i,e1,e2,r,fun z a ha ⟨j,ej,hj⟩=>?_⟩;subst z;have hij:j≠i:=fun z=>by subst z;rw[e]at ej;cases ej
  exact h3 j i _ hij ej e (by simp) a hj ha
theorem SOk.same (h:SOk K Γ B H σ τ T)(s:Same H H1):SOk K Γ B H1 σ τ T:=by
 obtain⟨Ls,h1,h2,h3,h4,h5,h6⟩:=h.ex;refine⟨h.ext.trans s,h.lσ,h.lτ,Ls,fun i c e hc=>?_,h2,h3,h4,fun a ha=>⟨(h5 a ha).1,by rw[s.at (h5 a ha).2];exact (h5 a ha).2⟩,h6⟩;obtain⟨v,d,e1,e2,r⟩:=h1 i c e hc;exact⟨v,d,e1,e2,r.same s⟩
def SOk.aside {L:List Addr}(h:SOk K Γ B H σ τ T)(s:Same H H1)(r:∀a∈L,H1 a≠none)(n1:L.Nodup)(n2:∀a∈L,H a=none):SOk K Γ B H1 σ τ (L++T):=by
 obtain⟨Ls,h1,h2,h3,h4,h5,h6⟩:=h.ex;refine⟨h.ext.trans s,h.lσ,h.lτ,Ls,fun i c e hc=>?_,h2,h3,sN.mpr ⟨n1,h4,fun a ha b hb z=>?_⟩,fun a ha=>?_,fun i c e hc a ha hm=>?_⟩
 ·obtain⟨v,d,e1,e2,r⟩:=h1 i c e hc;exact⟨v,d,e1,e2,r.same s⟩
 ·subst z;exact (h5 a hb).2 (n2 a ha)
 ·rcases tX.mp ha with z|z
  ·exact⟨h.ext.non (n2 a z),r a z⟩
  ·exact⟨(h5 a z).1,by rw[s.at (h5 a z).2];exact (h5 a z).2⟩
 ·obtain⟨v,d,e1,e2,r'⟩:=h1 i c e hc;rcases tX.mp hm with z|z
  ·exact r'.there ha (n2 a z)
  ·exact h6 i c e hc a ha z
def wk1:Cl->Cl->Bool
 | _,.dead=>true
 | .own,.own=>true
 | .own,.shr=>true
 | .shr,.shr=>true
 | _,_=>false
def wk:List Cl->List Cl->Bool
 | [],[]=>true
 | a::r,b::q=>wk1 a b&&wk r q
 | _,_=>false
theorem UA:∀ {Γ Γ':List Cl},wk Γ Γ'=true->Γ.length=Γ'.length
 | [],[],_=>rfl
 | a::r,b::q,h=>by
  have h:(wk1 a b&&wk r q)=true:=h;rw[sR]at h;rw[tE,tE,UA h.2]
theorem z3L:∀ {Γ Γ':List Cl} {i:Nat} {c:Cl},wk Γ Γ'=true->Γ'[i]?=some c->∃k,Γ[i]?=some k/\wk1 k c=true
 | [],[],_,_,_,e=>by simp at e
 | a::r,b::q,0,c,h,e=>by
  have h:(wk1 a b&&wk r q)=true:=h;rw[sR]at h;simp at e;subst e;exact⟨a,rfl,h.1⟩
 | a::r,b::q,i+1,c,h,e=>by
  have h:(wk1 a b&&wk r q)=true:=h;rw[sR]at h;obtain⟨k,h1,h2⟩:=z3L (i:=i) (c:=c) h.2 (by simpa using e);exact⟨k,by simpa using h1,h2⟩
theorem SOk.weak (h:SOk K Γ B H σ τ T)(w:wk Γ Γ'=true):SOk K Γ' B H σ τ T:=by
 obtain⟨Ls,h1,h2,h3,h4,h5,h6⟩:=h.ex;have live:∀(i:Nat) (c:Cl),Γ'[i]?=some c->c≠Cl.dead->∃k,Γ[i]?=some k/\k≠Cl.dead/\(c=Cl.own->k=Cl.own):=fun i c e hc=>by
  obtain⟨k,e',w'⟩:=z3L w e;refine⟨k,e',fun z=>?_,fun z=>?_⟩
  ·subst z;cases c<;>first|exact absurd rfl hc|cases w'
  ·subst z;cases k<;>first|rfl|cases w'
 refine⟨h.ext,by rw[<-UA w];exact h.lσ,by rw[<-UA w];exact h.lτ,Ls,fun i c e hc=>?_,fun i e=>?_,fun i j c hij ei ej hc=>?_,h4,h5,fun i c e hc=>?_⟩
 ·obtain⟨k,e',n,_⟩:=live i c e hc;exact h1 i k e' n
 ·obtain⟨k,e',n,o⟩:=live i _ e (by simp);rw[o rfl]at e';exact h2 i e'
 ·obtain⟨k,e',n,o⟩:=live i _ ei (by simp);obtain⟨k2,e2,n2,_⟩:=live j c ej hc;rw[o rfl]at e';exact h3 i j k2 hij e' e2 n2
 ·obtain⟨k,e',n,_⟩:=live i c e hc;exact h6 i k e' n
theorem SOk.out {i:Nat}(h:SOk K Γ B H σ τ T)(e:Γ[i]?=some .own):∃v d L,σ[i]?=some (some v)/\τ[i]?=some (some d)/\Rep K H d v L/\SOk K (Γ.set i .dead) B H σ τ (L++T):=by
 obtain⟨Ls,h1,h2,h3,h4,h5,h6⟩:=h.ex;obtain⟨v,d,e1,e2,r⟩:=h1 i _ e (by simp);have hi:i<Γ.length:=(tN.mp e).1;have at':∀(j:Nat) (c:Cl),(Γ.set i .dead)[j]?=some c->c≠.dead->j≠i/\Γ[j]?=some c:=fun j c ej hc=>by
  by_cases z:i=j
  ·subst z;rw[sA hi]at ej;exact absurd (jYe ej).symm hc
  ·rw[sE z]at ej;exact⟨Ne.symm z,ej⟩
 refine⟨v,d,Ls i,e1,e2,r,⟨h.ext,by rw[sQ];exact h.lσ,by rw[sQ];exact h.lτ,Ls,fun j c ej hc=>h1 j c (at' j c ej hc).2 hc,fun j ej=>h2 j (at' j _ ej (by simp)).2,fun j k c hjk ej ek hc=>h3 j k c hjk (at' j _ ej (by simp)).2 (at' k c ek hc).2 hc,
  sN.mpr ⟨(h2 i e).1,h4,fun a ha b hb z=>?_⟩,fun a ha=>?_,fun j c ej hc a ha hm=>?_⟩⟩
 ·subst z;exact h6 i _ e (by simp) a ha hb
 ·rcases tX.mp ha with z|z
  ·exact⟨(h2 i e).2 a z,r.there z⟩
  ·exact h5 a z
 ·obtain⟨n,ej'⟩:=at' j c ej hc;rcases tX.mp hm with z|z
  ·exact h3 i j c (Ne.symm n) e ej' hc a z ha
  ·exact h6 j c ej' hc a ha z
def Ju (Ls:Nat->List Addr)(i:Nat)(L:List Addr):Nat->List Addr:=fun j=>if j=i then L else Ls j
def yV:Ju Ls i L i=L:=jNg rfl
def QL (h:j=i):Ju Ls i L j=L:=jNg h
def yL (h:j≠i):Ju Ls i L j=Ls j:=jNh h
theorem SOk.into {i:Nat}{d:D}{v:V}{L:List Addr}(h:SOk K Γ B H σ τ (L++T))(r:Rep K H d v L)(hi:i<Γ.length):SOk K (Γ.set i .own) B H (σ.set i (some v)) (τ.set i (some d)) T:=by
 obtain⟨Ls,h1,h2,h3,h4,h5,h6⟩:=h.ex;have hσ:i<σ.length:=by rw[h.lσ];exact hi
 have hτ:i<τ.length:=by rw[h.lτ];exact hi
 obtain⟨n1,n2,n3⟩:=sN.mp h4;have at':∀(j:Nat) (c:Cl),j≠i->(Γ.set i .own)[j]?=some c->Γ[j]?=some c:=fun j c hj e=>by rw[sE (Ne.symm hj)]at e;exact e
 refine⟨h.ext,by rw[sQ,sQ];exact h.lσ,by rw[sQ,sQ];exact h.lτ,Ju Ls i L,fun j c e hc=>?_,fun j e=>?_,fun j k c hjk ej ek hc a ha hm=>?_,n2,fun a ha=>h5 a (tL _ ha),fun j c e hc a ha hm=>?_⟩
 ·by_cases z:j=i
  ·subst z;refine⟨v,d,by rw[sA hσ],by rw[sA hτ],?_⟩;rw[yV];exact r
  ·obtain⟨v',d',e1,e2,r'⟩:=h1 j c (at' j c z e) hc;refine⟨v',d',by rw[sE (Ne.symm z)];exact e1,by rw[sE (Ne.symm z)];exact e2,?_⟩;rw[yL z];exact r'
 ·by_cases z:j=i
  ·subst z;rw[yV];exact⟨n1,fun a ha=>(h5 a (tW _ ha)).1⟩
  ·rw[yL z];exact h2 j (at' j _ z e)
 ·by_cases z:j=i
  ·subst z;rw[yV]at ha;rw[yL (Ne.symm hjk)]at hm;exact h6 k c (at' k c (Ne.symm hjk) ek) hc a hm (tW _ ha)
  ·rw[yL z]at ha
   by_cases z2:k=i
   ·subst z2;rw[yV]at hm;exact h6 j _ (at' j _ z ej) (by simp) a ha (tW _ hm)
   ·rw[yL z2]at hm;exact h3 j k c hjk (at' j _ z ej) (at' k c z2 ek) hc a ha hm
 ·by_cases z:j=i
  ·subst z;rw[yV]at ha;exact n3 a ha a hm rfl
  ·rw[yL z]at ha;exact h6 j c (at' j c z e) hc a ha (tL _ hm)
end
section
variable {K:jJa}{Γ Γ':List Cl}{B H H1:Hp}{σ:St}{τ:Tn}{T:List Addr}
def SOk.intoS {i:Nat}{d:D}{v:V}{L:List Addr}{Ls:Nat->List Addr}(e0:Same B H)(l1:σ.length=Γ.length)(l2:τ.length=Γ.length)
  (h1:∀i c,Γ[i]?=some c->c≠.dead->∃v d,σ[i]?=some (some v)/\τ[i]?=some (some d)/\Rep K H d v (Ls i)) (h2:∀i,Γ[i]?=some .own->(Ls i).Nodup/\∀a∈Ls i,B a=none)
  (h3:∀i j c,i≠j->Γ[i]?=some .own->Γ[j]?=some c->c≠.dead->∀a∈Ls i,a∉Ls j) (h7:∀i,Γ[i]?=some .own->∀a∈Ls i,a∉L) (r:Rep K H d v L) (hi:i<Γ.length):
  SOk K (Γ.set i .shr) B H (σ.set i (some v)) (τ.set i (some d)) []:=by
 have hσ:i<σ.length:=by rw[l1];exact hi
 have hτ:i<τ.length:=by rw[l2];exact hi
 have at':∀(j:Nat) (c:Cl),j≠i->(Γ.set i .shr)[j]?=some c->Γ[j]?=some c:=fun j c hj e=>by rw[sE (Ne.symm hj)]at e;exact e
 have nown:∀j:Nat,(Γ.set i .shr)[j]?=some .own->j≠i:=fun j e z=>by subst z;rw[sA hi]at e;cases e
 refine⟨e0,by rw[sQ,sQ];exact l1,by rw[sQ,sQ];exact l2,Ju Ls i L,fun j c e hc=>?_,fun j e=>?_,fun j k c hjk ej ek hc a ha hm=>?_,pZ,fun a ha=>(nomatch ha),fun j c e hc a ha hm=>(nomatch hm)⟩
 ·by_cases z:j=i
  ·subst z;refine⟨v,d,by rw[sA hσ],by rw[sA hτ],?_⟩;rw[yV];exact r
  ·obtain⟨v',d',e1,e2,r'⟩:=h1 j c (at' j c z e) hc;refine⟨v',d',by rw[sE (Ne.symm z)];exact e1,by rw[sE (Ne.symm z)];exact e2,?_⟩;rw[yL z];exact r'
 ·have z:=nown j e;rw[yL z];exact h2 j (at' j _ z e)
 ·have z:=nown j ej;rw[yL z]at ha
  by_cases z2:k=i
  ·rw[QL z2]at hm;exact h7 j (at' j _ z ej) a ha hm
  ·rw[yL z2]at hm;exact h3 j k c hjk (at' j _ z ej) (at' k c z2 ek) hc a ha hm
end
section
def zA (h:ME X E Γ e t .fresh):MV X E Γ e t Γ:=by
 obtain⟨te,p,q⟩:=h;refine⟨te,p,fun B σ H τ T Q ok h=>?_⟩;obtain⟨O,eo,_⟩:=ok.eok;refine q O σ H τ Q eo ?_;cases ht:t τ with
 | ok d =>
  rw[ht]at h;exact fun v H' L s r k=>h v H' L s r (ok.aside s (fun a ha=>r.there ha) k.1 k.2)
 | err n=>rw[ht]at h;exact fun C H' e s=>h C H' e (ok.ext.trans s)
 | bad=>rw[ht]at h;exact h
def z2p {i:Nat}(hN:X.N[i]?=some x)(hk:Γ[i]?=some .own)(hv:Vis X.env.scope x)(hb:autoParam (nDb x) au1._auto_1)(hcd:autoParam ((x==("__classdict__":Str))=false) au1._auto_1):MV X E Γ (.Name x pos) (za i) (Γ.set i .dead):=by
 refine⟨jz i,vN hN hv hb hcd,fun B σ H τ T Q ok h=>?_⟩;obtain⟨v,d,L,e1,e2,r,ok'⟩:=ok.out hk;unfold za at h;rw[e2]at h;exact⟨v,e1,h v H L (Same.refl H) r ok'⟩
def zo:Tn->R Fl:=fun τ=>.ok (.nx τ)
def z60:Tn->R Fl:=fun _=>.bad
def zi (a b:Tn->R Fl):Tn->R Fl:=fun τ=>(a τ).bind fun f=>match f with
 | .nx τ'=>b τ'
 | f=>.ok f
def Jh (t:Tn->R D):Tn->R Fl:=fun τ=>(t τ).bind fun _=>.ok (.nx τ)
def zm (t:Tn->R D):Tn->R Fl:=fun τ=>(t τ).bind fun d=>.ok (.rt d)
def zu (i:Nat)(t:Tn->R D):Tn->R Fl:=fun τ=>(t τ).bind fun d=>.ok (.nx (τ.set i (some d)))
def sIf (k:Tn->R Bool)(a b:Tn->R Fl):Tn->R Fl:=fun τ=>(k τ).bind fun x=>if x=true then a τ else b τ
def z4W:MS X E Γl Γ s z60 Γ':=⟨z0o,Kp,fun _ _ _ _ _ _ h=>h.elim⟩
def zk:MSs X E Γl Γ [] zo Γ:=⟨KJ,jc,fun B σ H τ Z ok h=>h σ H ok⟩
def zp (h:MS X E Γl Γ s t Γ'):MSs X E Γl Γ [s] t Γ':=by
 obtain⟨ts,p,q⟩:=h;exact⟨ts,uw p,q⟩
def zf (h:MS X E Γl Γ s t1 Γ1)(k:MSs X E Γl Γ1 r t2 Γ'):MSs X E Γl Γ (s::r) (zi t1 t2) Γ':=by
 obtain⟨ts,p,q⟩:=h;obtain⟨ts',p',q'⟩:=k;refine⟨Q7 ts ts',ua p p',fun B σ H τ Z ok h=>q B σ H τ _ ok ?_⟩;unfold zi at h;cases ht:t1 τ with
 | ok f =>
  rw[ht,jYa]at h;cases f with
  | nx τ'=>exact fun σ' H' ok'=>q' B σ' H' τ' Z ok' h
  | rt d=>exact h
  | bk τ'=>exact h
  | ct τ'=>exact h
 | err n=>rw[ht]at h;exact h
 | bad=>rw[ht]at h;exact h
def jS (h:MSs X E Γl Γ s t Γ1)(w:wk Γ1 Γ'=true):MSs X E Γl Γ s t Γ':=by
 obtain⟨ts,p,q⟩:=h;refine⟨ts,p,fun B σ H τ Z ok h=>q B σ H τ Z ok ?_⟩;cases ht:t τ with
 | ok f =>
  rw[ht]at h;cases f with
  | nx τ'=>exact fun σ' H' ok'=>h σ' H' (ok'.weak w)
  | rt d=>exact h
  | bk τ'=>exact h
  | ct τ'=>exact h
 | err n=>rw[ht]at h;exact h
 | bad=>rw[ht]at h;exact h
def z55 (h:MS X E Γl Γ1 s t Γ')(w:wk Γ Γ1=true):MS X E Γl Γ s t Γ':=by
 obtain⟨ts,p,q⟩:=h;exact⟨ts,p,fun B σ H τ Z ok h=>q B σ H τ Z (ok.weak w) h⟩
def z2q (h:ME X E Γ e t c)(hs:autoParam (jMf e none pos.line X.env=pure false) au3._auto_1):MS X E Γl Γ (.Expr e pos) (Jh t) Γ:=by
 obtain⟨te,p,q⟩:=h;refine⟨z3F te,Zs p hs,fun B σ H τ Z ok h=>?_⟩;obtain⟨O,eo,_⟩:=ok.eok;refine q O σ H τ _ eo ?_;unfold Jh at h;cases ht:t τ with
 | ok d=>rw[ht,jYa]at h;exact fun v H' L s r k=>h σ H' (ok.same s)
 | err n=>rw[ht]at h;exact fun C H' e s=>h C H' e (ok.ext.trans s)
 | bad=>rw[ht]at h;exact h
def ui (h:MV X E Γ e t Γ1):MS X E Γl Γ (.Return (some e) pos) (zm t) Γ':=by
 obtain⟨te,p,q⟩:=h;refine⟨z34 te,jb p,fun B σ H τ Z ok h=>q B σ H τ [] _ ok ?_⟩;unfold zm at h;cases ht:t τ with
 | ok d =>
  rw[ht,jYa]at h;refine fun v H' L s r ok'=>?_;obtain⟨Ls,_,_,_,h4,h5,_⟩:=ok'.ex;rw[tI]at h4 h5;exact h v H' L ok'.ext r h4 fun a ha=>(h5 a ha).1
 | err n=>rw[ht]at h;exact h
 | bad=>rw[ht]at h;exact h
def zx {u:Tn->R Bool}(hk:MT X E Γ k u)(ha:MSs X E Γl Γ sa t1 Γ')(hb:MSs X E Γl Γ sb t2 Γ'):MS X E Γl Γ (.If k sa sb pos) (sIf u t1 t2) Γ':=by
 obtain⟨te,p,q⟩:=hk;obtain⟨ts1,p1,q1⟩:=ha;obtain⟨ts2,p2,q2⟩:=hb;refine⟨z5C te ts1 ts2,U0 p p1 p2,fun B σ H τ Z ok h=>?_⟩;obtain⟨O,eo,_⟩:=ok.eok;refine q O σ H τ _ eo ?_;unfold sIf at h;cases ht:u τ with
 | ok x =>
  rw[ht,jYa]at h;refine fun H1 s1=>?_;cases x with
  | true=>rw[jNg rfl]at h ⊢;exact q1 B σ H1 τ Z (ok.same s1) h
  | false=>rw[jNh tO]at h ⊢;exact q2 B σ H1 τ Z (ok.same s1) h
 | err n=>rw[ht]at h;exact fun C H' e s=>h C H' e (ok.ext.trans s)
 | bad=>rw[ht]at h;exact h
def z5v {i:Nat}(hN:X.N.Nodup)(hi:X.N[i]?=some x)(hl:i<Γ1.length)(h:MV X E Γ e t Γ1)(hx:Loc X.env.scope x)(hs:autoParam (jMf e (some (.Name x pos')) pos.line X.env=pure false) au3._auto_1)(hf:autoParam (X.fn x=true\/X.env.scope.names.lookup x=some .local) au0._auto_1):
  MS X E Γl Γ (.Assign [.Name x pos'] e pos) (zu i t) (Γ1.set i .own):=by
 obtain⟨te,p,q⟩:=h;refine⟨_,z0O hN hi hx p hs hf,fun B σ H τ Z ok h=>q B σ H τ [] _ ok ?_⟩;unfold zu at h;cases ht:t τ with
 | ok d =>
  rw[ht,jYa]at h;exact fun v H' L s r ok'=>h _ _ (ok'.into r hl)
 | err n=>rw[ht]at h;exact h
 | bad=>rw[ht]at h;exact h
def z1B {i:Nat}{x:Str}{pos':Pos}(hN:X.N.Nodup)(hi:X.N[i]?=some x)(hl:i<Γ.length)(h:ME X E Γ e t c)(hc:c≠.bor)(hx:Loc X.env.scope x)(hs:autoParam (jMf e (some (.Name x pos')) pos.line X.env=pure false) au3._auto_1)(hf:autoParam (X.fn x=true\/X.env.scope.names.lookup x=some .local) au0._auto_1):
  MS X E Γl Γ (.Assign [.Name x pos'] e pos) (zu i t) (Γ.set i .shr):=by
 obtain⟨te,p,q⟩:=h;refine⟨_,z0O hN hi hx p hs hf,fun B σ H τ Z ok h=>?_⟩;obtain⟨O,eo,hL⟩:=ok.eok;refine q O σ H τ _ eo ?_;unfold zu at h;cases ht:t τ with
 | ok d =>
  rw[ht,jYa]at h;refine fun v H' L s r k=>h _ _ ?_;obtain⟨Ls,h1,h2,h3,_,_,_,h7⟩:=hL L (k.shr eo.dom hc);exact SOk.intoS (ok.ext.trans s) ok.lσ ok.lτ (fun j c e hc=>by obtain⟨v',d',e1,e2,r'⟩:=h1 j c e hc;exact⟨v',d',e1,e2,r'.same s⟩) h2 h3 h7 r hl
 | err n=>rw[ht]at h;exact fun C H' e s=>h C H' e (ok.ext.trans s)
 | bad=>rw[ht]at h;exact h
end
section
variable {K:jJa}{Γ Γ':List Cl}{B H H1:Hp}{σ:St}{τ:Tn}{T:List Addr}
theorem SOk.slot {i:Nat}(h:SOk K Γ B H σ τ T)(e:Γ[i]?=some .own):∃v d L,σ[i]?=some (some v)/\τ[i]?=some (some d)/\Rep K H d v L/\L.Nodup/\(∀a∈L,B a=none/\a∉T) /\
  ∀(H2:Hp) (d2:D) (L2 Le T':List Addr),T=Le++T'->TF H H2->(∀b,b∉L->H b≠none->H2 b=H b)->Rep K H2 d2 v L2->(∀a∈L2,a∈L\/a∈Le)->L2.Nodup->SOk K Γ B H2 σ (τ.set i (some d2)) T':=by
 obtain⟨Ls,h1,h2,h3,h4,h5,h6⟩:=h.ex;obtain⟨v,d,e1,e2,r⟩:=h1 i _ e (by simp);refine⟨v,d,Ls i,e1,e2,r,(h2 i e).1,fun a ha=>⟨(h2 i e).2 a ha,h6 i _ e (by simp) a ha⟩,?_⟩;rintro H2 d2 L2 Le T' rfl tf kp r2 sub nd;obtain⟨n1,n2,n3⟩:=sN.mp h4;have hτ:i<τ.length:=(tN.mp e2).1;have notL:∀b,B b≠none->b∉Ls i:=fun b hb hm=>hb ((h2 i e).2 b hm);refine⟨fun b o q=>?_,h.lσ,by rw[sQ];exact h.lτ,Ju Ls i L2,fun j c ej hc=>?_,fun j ej=>?_,fun j k c hjk ej ek hc a ha hm=>?_,n2,fun a ha=>⟨(h5 a (tL _ ha)).1,?_⟩,fun j c ej hc a ha hm=>?_⟩
 ·have hq:=h.ext b o q;rw[kp b (notL b (by rw[q];simp)) (by rw[hq];simp)];exact hq
 ·by_cases z:j=i
  ·subst z;refine⟨v,d2,e1,by rw[sA hτ],?_⟩;rw[yV];exact r2
  ·obtain⟨v',d',q1,q2,r'⟩:=h1 j c ej hc;refine⟨v',d',q1,by rw[sE (Ne.symm z)];exact q2,?_⟩;rw[yL z];exact Rep.keep tf d' v' _ r' fun a ha=>kp a (fun hm=>h3 i j c (Ne.symm z) e ej hc a hm ha) (r'.there ha)
 ·by_cases z:j=i
  ·subst z;rw[yV];refine⟨nd,fun a ha=>?_⟩;rcases sub a ha with m|m
   ·exact (h2 _ e).2 a m
   ·exact (h5 a (tW _ m)).1
  ·rw[yL z];exact h2 j ej
 ·by_cases z:j=i
  ·subst z;rw[yV]at ha;rw[yL (Ne.symm hjk)]at hm;rcases sub a ha with m|m
   ·exact h3 _ k c hjk e ek hc a m hm
   ·exact h6 k c ek hc a hm (tW _ m)
  ·rw[yL z]at ha
   by_cases z2:k=i
   ·subst z2;rw[yV]at hm;rcases sub a hm with m|m
    ·exact h3 j _ _ hjk ej e (by simp) a ha m
    ·exact h6 j _ ej (by simp) a ha (tW _ m)
   ·rw[yL z2]at hm;exact h3 j k c hjk ej ek hc a ha hm
 ·have q:=(h5 a (tL _ ha)).2;rw[kp a (fun hm=>h6 i _ e (by simp) a hm (tL _ ha)) q];exact q
 ·by_cases z:j=i
  ·rw[QL z]at ha;rcases sub a ha with m|m
   ·exact h6 i _ e (by simp) a m (tL _ hm)
   ·exact n3 a m a hm rfl
  ·rw[yL z]at ha;exact h6 j c ej hc a ha (tL _ hm)
theorem TF.upd (h:(∃vs,H a=some (.lst vs))\/∃kvs,H a=some (.dK kvs)):TF H (upd H a o):=by
 refine⟨fun b xs e=>?_,fun b p u e=>?_,fun b C dx fs e=>?_⟩<;>(rw[zt];exact e;rintro rfl;rcases h with⟨_,h⟩|⟨_,h⟩<;>rw[h]at e<;>cases e)
theorem Rep.upd {d:D}{v:V}{L:List Addr}{a:Addr}{o:HO}(r:Rep K H d v L)(h:(∃vs,H a=some (.lst vs))\/∃kvs,H a=some (.dK kvs))(n:a∉L):Rep K (L2.upd H a o) d v L:=
 Rep.keep (TF.upd h) d v L r fun b hb=>zt fun z=>n (z▸hb)
theorem Reps.upd {d:List D}{v:List V}{L:List Addr}{a:Addr}{o:HO}(r:Reps K H d v L)(h:(∃vs,H a=some (.lst vs))\/∃kvs,H a=some (.dK kvs))(n:a∉L):Reps K (L2.upd H a o) d v L:=
 Reps.keep (TF.upd h) d v L r fun b hb=>zt fun z=>n (z▸hb)
theorem Reps.set:∀ {ds:List D} {vs:List V} {L:List Addr} {d:D} {v:V} {Le:List Addr} (j:Nat),Reps K H ds vs L->Rep K H d v Le->j<ds.length->∃L2,Reps K H (ds.set j d) (vs.set j v) L2/\(∀a∈L2,a∈L\/a∈Le)/\((L++Le).Nodup->L2.Nodup)
 | [],_,_,_,_,_,_,_,_,h=>by simp at h
 | d::ds,_,_,d',v',Le,0,hq7,r,_=>by
  obtain⟨v,vs',L1,L2,e1,e2,h1,h2⟩:=hq7;subst e1 e2;refine⟨Le++L2,by simpa using Reps.cons r h2,fun a ha=>?_,fun n=>?_⟩
  ·rcases tX.mp ha with z|z
   ·exact .inr z
   ·exact .inl (tL _ z)
  ·obtain⟨n1,n2,n3⟩:=sN.mp n;obtain⟨m1,m2,m3⟩:=sN.mp n1;exact sN.mpr ⟨n2,m2,fun a ha b hb z=>n3 b (tL _ hb) a ha z.symm⟩
 | d::ds,_,_,d',v',Le,j+1,hq7,r,hj=>by
  obtain⟨v,vs',L1,L2,e1,e2,h1,h2⟩:=hq7;subst e1 e2;obtain⟨L3,a1,a2,a3⟩:=Reps.set j h2 r (by simpa using hj);refine⟨L1++L3,by simpa using Reps.cons h1 a1,fun a ha=>?_,fun n=>?_⟩
  ·rcases tX.mp ha with z|z
   ·exact .inl (tW _ z)
   ·rcases a2 a z with m|m
    ·exact .inl (tL _ m)
    ·exact .inr m
  ·rw[tQ]at n;obtain⟨n1,n2,n3⟩:=sN.mp n;refine sN.mpr ⟨n1,a3 n2,fun a ha b hb z=>?_⟩;rcases a2 b hb with m|m
   ·exact n3 a ha b (tW _ m) z
   ·exact n3 a ha b (tL _ m) z
end
section
variable {X:Cx}{E:XK}{Γ Γ1 Γ' Γl:List Cl}{e a b:Expr}{es:List Expr}{t t':Tn->R D}{u:Tn->R (List D)}{c:Rc}{pos:Pos}
def vq (i:Nat)(t:Tn->R D):Tn->R Fl:=fun τ=>(za i τ).bind fun l=>match l with
 | .lst ds=>(t τ).bind fun d=>if ds.length<jMi then .ok (.nx (τ.set i (some (.lst (ds++[d]))))) else .bad
 | _=>.bad
def JC {i:Nat}{x:Str}{p0 p1 p2:Pos}(hN:X.N[i]?=some x)(h0:Γ[i]?=some .own)(h:MV X E Γ e t Γ1)(hk:Γ1[i]?=some .own)(hv:Vis X.env.scope x)(hb:autoParam (nDb x) au1._auto_1)(hcd:autoParam ((x==("__classdict__":Str))=false) au1._auto_1)
  (hbase:autoParam (jKd (.Name x p0) "append" X.env (eval (.Name x p0) X.env)=eval (.Name x p0) X.env) au3._auto_1)
  (hfew:autoParam (((jNd p2 (jMj [e] X.env)).all (fun x=>!x.1)&&(jMh p2 (jKh [] X.env)).all (fun x=>x.1.isSome)&&decide ([e].length+([]:List jMk).length+(if ([]:List jMk).isEmpty then 0 else 1)<30))=true) au3._auto_1)
  (hline:autoParam ((p1.endLine==p2.line)=true) au3._auto_1) (hs:autoParam (jMj [e] X.env=(false,eval e X.env)::jMj [] X.env) au3._auto_1) (hplain:autoParam ((jNd p2 (jMj [] X.env)).any (·.1)=false) au3._auto_1)
  (hsw:autoParam (jMf (.Call (.Attribute (.Name x p0) "append" p1) [e] [] p2) none pos.line X.env=pure false) au3._auto_1):
  MS X E Γl Γ (.Expr (.Call (.Attribute (.Name x p0) "append" p1) [e] [] p2) pos) (vq i t) Γ1:=by
 obtain⟨te,p,q⟩:=h;refine⟨_,Zs (Qk jQ6 jQ7 jQ8 qE (vN (pos:=p0) hN hv hb hcd) (zR p wF hs) hbase hfew hline hs hplain) hsw,fun B σ H τ Z ok h=>?_⟩;obtain⟨v,d,L,e1,e2,r,_⟩:=ok.slot h0;refine⟨v,e1,?_⟩;unfold vq at h;have ev:za i τ=.ok d:=by unfold za;rw[e2]
 rw[ev,jYa]at h;cases d with
 | lst ds =>
  obtain⟨a,vs,L',rfl,ha,_,rs⟩:=r;refine⟨.inl ⟨rfl,vs,SqL.of ha⟩,q B σ H τ [] _ ok ?_⟩;dsimp only at h;cases ht:t τ with
  | ok d' =>
   rw[ht,jYa]at h;refine fun y H1 Le s1 ry ok1=>?_;obtain⟨v1,d1,L1,q1,q2,r1,n1,n2,fin⟩:=ok1.slot hk;rw[e1]at q1;cases q1;rw[e2]at q2;cases q2;obtain⟨a1,vs1,L1',z1,ha1,z2,rs1⟩:=r1;cases z1;subst z2;have hl:vs1.length=ds.length:=rs1.length
   by_cases hz:ds.length<jMi
   ·rw[jNg hz]at h;have mu:(∃vs,H1 a=some (.lst vs))\/∃kvs,H1 a=some (.dK kvs):=.inl ⟨_,ha1⟩;have na:a∉Le:=fun m=>(n2 a tG).2 (tW _ m);obtain⟨m1,m2⟩:=sP.mp n1;refine⟨a,vs1,y,rfl,rfl,ha1,by lia,h _ _ (fin _ _ (a::(L1'++Le)) Le [] rfl (TF.upd mu) (fun b hb _=>zt fun z=>hb (z▸tG)) ?_ (fun b hb=>?_) ?_)⟩
    ·refine⟨a,vs1++[y],L1'++Le,rfl,zz,rfl,Reps.append (rs1.upd mu m1) ?_⟩;have:=Reps.cons (ry.upd (o:=.lst (vs1++[y])) mu na) (Reps.nil (K:=X.K) (H:=upd H1 a (.lst (vs1++[y]))));rw[tI]at this;exact this
    ·rcases tS.mp hb with z|z
     ·exact .inl (z▸tG)
     ·rcases tX.mp z with z|z
      ·exact .inl (tH _ z)
      ·exact .inr z
    ·refine sP.mpr ⟨fun z=>?_,sN.mpr ⟨m2,?_,fun b hb b' hb' z=>?_⟩⟩
     ·rcases tX.mp z with z|z
      ·exact m1 z
      ·exact na z
     ·obtain⟨_,_,_,_,w4,_⟩:=ok1.ex;rw[tI]at w4;exact w4
     ·subst z;exact (n2 b (tH _ hb)).2 (tW _ hb')
   ·rw[jNh hz]at h;exact h.elim
  | err n=>rw[ht]at h;exact h
  | bad=>rw[ht]at h;exact h
 | _=>exact h.elim
def z2O (ds:List D)(k:Int)(d:D):R D:=match ixN ds.length k with
 | some j=>.ok (.lst (ds.set j d))
 | none=>.bad
def JI (i:Nat)(t ti:Tn->R D):Tn->R Fl:=fun τ=>(t τ).bind fun d=>(za i τ).bind fun l=>(ti τ).bind fun k=>match l,k with
 | .lst ds,.int k=>(z2O ds k d).bind fun l'=>.ok (.nx (τ.set i (some l')))
 | _,_=>.bad
def z4t {i:Nat}{x:Str}{p0 p1:Pos}{ix:Expr}{ti:Tn->R D}(hN:X.N[i]?=some x)(h:MV X E Γ e t Γ1)(hi:ME X E Γ1 ix ti c)(hk:Γ1[i]?=some .own)(hv:Vis X.env.scope x)(hb:autoParam (nDb x) au1._auto_1)(hcd:autoParam ((x==("__classdict__":Str))=false) au1._auto_1)
  (ha:autoParam (∀v,assign (.Subscript (.Name x p0) ix p1) X.env v=(do
   let ov <-holding [v] (eval (.Name x p0) X.env)
   let iv <-holding [v,ov] (eval ix X.env)
   standAt p1
   holding [v,ov,iv] (setItem ov iv v)
   release [v,ov,iv] [])) au2._auto_1)
  (hs:autoParam (swapsWithSole [.Subscript (.Name x p0) ix p1] e pos.line X.env=pure false) au3._auto_1) (hw:autoParam (swappedStores [.Subscript (.Name x p0) ix p1] e X.env=pure none) au3._auto_1)
  (h1:autoParam ((jMa [.Subscript (.Name x p0) ix p1] X.env).map (·.2)=[assign (.Subscript (.Name x p0) ix p1) X.env]) au3._auto_1):
  MS X E Γl Γ (.Assign [.Subscript (.Name x p0) ix p1] e pos) (JI i t ti) Γ1:=by
 obtain⟨te,p,q⟩:=h;obtain⟨te',p',q'⟩:=hi;refine⟨_,z0B p (z03 (vN (pos:=p0) hN hv hb hcd) p' VX ha) hs hw h1,fun B σ H τ Z ok h=>q B σ H τ [] _ ok ?_⟩;unfold JI at h;cases ht:t τ with
 | ok d' =>
  rw[ht,jYa]at h;refine fun y H1 Le s1 ry ok1=>?_;obtain⟨v1,d1,L1,q1,q2,r1,n1,n2,_⟩:=ok1.slot hk;refine⟨v1,q1,?_⟩;have ev:za i τ=.ok d1:=by unfold za;rw[q2]
  rw[ev,jYa]at h;obtain⟨O,eo,_⟩:=ok1.eok;refine q' O σ H1 τ _ eo ?_;cases hk':ti τ with
  | ok dk =>
   rw[hk',jYa]at h;refine fun kv H2 Lk s2 rk _=>?_;have ok2:=ok1.same s2;obtain⟨v2,d2,L2,q3,q4,r2,m1,m2,fin⟩:=ok2.slot hk;rw[q1]at q3;cases q3;rw[q2]at q4;cases q4;cases d1 with
   | lst ds =>
    cases dk with
    | int k =>
     obtain⟨a,vs,L',rfl,ha2,z2,rs⟩:=r2;subst z2;dsimp only at h;unfold z2O at h;cases hj:ixN ds.length k with
     | none=>rw[hj]at h;exact h.elim
     | some j =>
      rw[hj]at h;have hjl:j<ds.length:=(XY hj).2.1;have mu:(∃vs,H2 a=some (.lst vs))\/∃kvs,H2 a=some (.dK kvs):=.inl ⟨_,ha2⟩;have na:a∉Le:=fun m=>(m2 a tG).2 (tW _ m);obtain⟨w1,w2⟩:=sP.mp m1;have nLe:Le.Nodup:=by
       obtain⟨_,_,_,_,w4,_⟩:=ok1.ex;rw[tI]at w4;exact w4
      have r3:=(ry.same s2).upd (o:=.lst (vs.set j y)) mu na;obtain⟨L3,a1,a2,a3⟩:=Reps.set j (rs.upd (o:=.lst (vs.set j y)) mu w1) r3 hjl;refine⟨a,vs,k,j,rfl,rk.1,ha2,by rw[rs.length];exact hj,h _ _ (fin _ _ (a::L3) Le [] rfl (TF.upd mu) (fun b hb _=>zt fun z=>hb (z▸tG)) ⟨a,_,L3,rfl,zz,rfl,a1⟩ (fun b hb=>?_) ?_)⟩
      ·rcases tS.mp hb with z|z
       ·exact .inl (z▸tG)
       ·rcases a2 b z with z|z
        ·exact .inl (tH _ z)
        ·exact .inr z
      ·refine sP.mpr ⟨fun z=>?_,a3 (sN.mpr ⟨w2,nLe,fun b hb b' hb' z=>?_⟩)⟩
       ·rcases a2 a z with z|z
        ·exact w1 z
        ·exact na z
       ·subst z;exact (m2 b (tH _ hb)).2 (tW _ hb')
    | _=>exact h.elim
   | _=>exact h.elim
  | err n=>rw[hk']at h;exact fun C H' e s=>h C H' e (ok1.ext.trans s)
  | bad=>rw[hk']at h;exact h
 | err n=>rw[ht]at h;exact h
 | bad=>rw[ht]at h;exact h
end
section
variable {K:jJa}{Γ Γ':List Cl}{B B' H H1:Hp}{σ:St}{τ:Tn}{T:List Addr}
def SOk.rebase (h:SOk K Γ B' H σ τ T)(s:Same B B'):SOk K Γ B H σ τ T:=by
 obtain⟨Ls,h1,h2,h3,h4,h5,h6⟩:=h.ex;exact⟨s.trans h.ext,h.lσ,h.lτ,Ls,h1,fun i e=>⟨(h2 i e).1,fun a ha=>s.non ((h2 i e).2 a ha)⟩,h3,h4,fun a ha=>⟨s.non (h5 a ha).1,(h5 a ha).2⟩,h6⟩
open Classical in
theorem SOk.base (h:SOk K Γ B H σ τ []):∃O:Addr->Prop,EOk K Γ O H σ τ/\(∀a,O a->(∃vs,H a=some (.lst vs))\/∃kvs,H a=some (.dK kvs)) /\
  ∀H1,Same H H1->∃B1,Same B B1/\SOk K Γ B1 H1 σ τ []/\∀a,¬O a->B1 a=H1 a:=by
 obtain⟨Ls,h1,h2,h3,h4,h5,h6⟩:=h.ex;refine⟨fun a=>∃i,Γ[i]?=some .own/\a∈Ls i,⟨fun a ⟨i,e,ha⟩=>?_,fun i c e hc=>?_⟩,fun a ⟨i,e,ha⟩=>?_,fun H1 s1=>⟨fun a=>if (∃i,Γ[i]?=some .own/\a∈Ls i) then none else H1 a,fun b o q=>?_,⟨fun b o q=>?_,h.lσ,h.lτ,Ls,fun i c e hc=>?_,fun i e=>⟨(h2 i e).1,fun a ha=>jNg ⟨i,e,ha⟩⟩,h3,h4,fun a ha=>(nomatch ha),h6⟩,fun a n=>jNh n⟩⟩
 ·obtain⟨v,d,_,_,r⟩:=h1 i _ e (by simp);exact r.there ha
 ·obtain⟨v,d,e1,e2,r⟩:=h1 i c e hc;refine⟨v,d,Ls i,e1,e2,r,fun z a ha ⟨j,ej,hj⟩=>?_⟩;subst z;have hij:j≠i:=fun z=>by subst z;rw[e]at ej;cases ej
  exact h3 j i _ hij ej e (by simp) a hj ha
 ·obtain⟨v,d,_,_,r⟩:=h1 i _ e (by simp);exact Rep.dom d v _ r a ha
 ·show (if (∃i,Γ[i]?=some .own/\b∈Ls i) then none else H1 b)=some o;rw[jNh]
  ·exact s1 b o (h.ext b o q)
  ·rintro⟨i,e,hb⟩;rw[(h2 i e).2 b hb]at q;cases q
 ·have q:(if (∃i,Γ[i]?=some .own/\b∈Ls i) then none else H1 b)=some o:=q
  by_cases z:∃i,Γ[i]?=some .own/\b∈Ls i
  ·rw[jNg z]at q;cases q
  ·rw[jNh z]at q;exact q
 ·obtain⟨v,d,e1,e2,r⟩:=h1 i c e hc;exact⟨v,d,e1,e2,r.same s1⟩
def SOk.shrIn {i:Nat}{d:D}{v:V}{L:List Addr}(h:SOk K Γ B H σ τ [])(r:Rep K H d v L)(hL:∀a∈L,B a≠none)(hi:i<Γ.length):SOk K (Γ.set i .shr) B H (σ.set i (some v)) (τ.set i (some d)) []:=by
 obtain⟨Ls,h1,h2,h3,h4,h5,h6⟩:=h.ex;exact SOk.intoS h.ext h.lσ h.lτ h1 h2 h3 (fun j e a ha hm=>hL a hm ((h2 j e).2 a ha)) r hi
end
def xb {α:Type}:List (Option α)->List Nat->List α->List (Option α)
 | σ,i::is,v::vs=>xb (σ.set i (some v)) is vs
 | σ,_,_=>σ
def shrAll:List Cl->List Nat->List Cl
 | Γ,[]=>Γ
 | Γ,i::is=>shrAll (Γ.set i .shr) is
theorem SOk.shrAll {K:jJa}{B H:Hp}{Γ:List Cl}{σ:St}{τ:Tn}{is:List Nat}{ds:List D}{vs:List V}{L:List Addr}(h:SOk K Γ B H σ τ [])(r:Reps K H ds vs L)(hL:∀a∈L,B a≠none)(hl:ds.length=is.length)(hi:∀i∈is,i<Γ.length):
  SOk K (L2.shrAll Γ is) B H (xb σ is vs) (xb τ is ds) []:=by
 induction is generalizing Γ σ τ ds vs L with
 | nil =>
  cases ds with
  | nil=>cases r.1;exact h
  | cons=>cases hl
 | cons i is ih =>
  cases ds with
  | nil=>cases hl
  | cons d ds =>
   obtain⟨v,vs',La,Lb,e1,e2,r1,r2⟩:=r;subst e1 e2;exact ih (h.shrIn r1 (fun a ha=>hL a (tW _ ha)) (hi i tG)) r2 (fun a ha=>hL a (tL _ ha)) (Nat.succ.inj hl) (fun j hj=>by rw[sQ];exact hi j (tH _ hj))
def ItOk (K:jJa)(J:It)(ds:List D)(L:List Addr)(H:Hp):Prop:=(∀a∈L,H a≠none)/\∀H',TF H H'->(∀a∈L,H' a=H a)->∀i,
 (∀d,ds[i]?=some d->J.go i H'/\∀x H'',J.yld i H' x H''->Same H' H''/\∃L',Rep K H'' d x L'/\∀a∈L',a∈L)/\(ds.length<=i->J.stop i H')
def z3C (K:jJa)(E:XK)(O:Addr->Prop)(c:Rc)(H:Hp)(Rr:It->Hp->Prop):R (List D)->Prop
 | .ok ds=>∀J H' L,Same H H'->ItOk K J ds L H'->(c≠.bor->∀a∈L,¬O a)->Rr J H'
 | .err n=>∀C H',ErrO K n H' C->Same H H'->E (.ref C.1) C.2 H'
 | .bad=>False
def MI (X:Cx)(E:XK)(Γ:List Cl)(tg iter:Expr)(t:Tn->R (List D))(c:Rc):Prop:=
 ∃wi,PI X tg iter wi/\∀O σ H τ Rr,EOk X.K Γ O H σ τ->z3C X.K E O c H Rr (t τ)->wi σ H Rr
inductive Tgt where
 | one (i:Nat) | many (is:List Nat)
def Tgt.slots:Tgt->List Nat
 | .one i=>[i]
 | .many is=>is
def Tgt.asg:Tgt->D->Tn->R Tn
 | .one i,d,τ=>.ok (τ.set i (some d))
 | .many is,.tup ds,τ=>if ds.length=is.length then .ok (xb τ is ds) else .bad
 | .many _,_,_=>.bad
def MG (X:Cx)(tg:Expr):Tgt->Prop
 | .one i=>PG X tg (Za i)
 | .many is=>∃g,PG X tg (z71 X.K is.length g)/\∀(vs:List V) (σ:St) (H:Hp) (Q:St->Hp->Prop),vs.length=is.length->Q (xb σ is vs) H->g vs σ H Q
def xx (asg:D->Tn->R Tn)(body:Tn->R Fl):List D->Tn->R Fl
 | [],τ=>.ok (.nx τ)
 | d::ds,τ=>(asg d τ).bind fun τ1=>(body τ1).bind fun f=>match f with
  | .nx τ2=>xx asg body ds τ2
  | .ct τ2=>xx asg body ds τ2
  | .bk τ2=>.ok (.nx τ2)
  | .rt r=>.ok (.rt r)
def wG (it:Tn->R (List D))(tg:Tgt)(body:Tn->R Fl):Tn->R Fl:=fun τ=>(it τ).bind fun ds=>xx tg.asg body ds τ
section
variable {X:Cx}{E:XK}{Γ Γ1 Γ2 Γ' Γl:List Cl}{pos:Pos}
def tgG (K:jJa)(g:Tgt):TG:=fun v σ H Q=>match g with
 | .one i=>Q (σ.set i (some v)) H
 | .many is=>∃a vs,v=.ref a/\SqT K H a vs/\vs.length=is.length/\Q (xb σ is vs) H
theorem MG.pg (h:MG X tg g):PG X tg (tgG X.K g):=by
 cases g with
 | one i=>exact h
 | many is =>
  obtain⟨G,p,q⟩:=h;rintro jNf s σ H v u Q I r ⟨a,vs,e,hs,hl,z⟩;exact p jNf s σ H v u Q I r ⟨a,vs,e,hs,hl,q vs σ H Q hl z⟩
def z5A {K:jJa}{B H:Hp}{σ:St}{τ τ1:Tn}{d:D}{v:V}{L:List Addr}{g:Tgt}(h:SOk K Γ B H σ τ [])(r:Rep K H d v L)(hL:∀a∈L,B a≠none)(hi:∀i∈g.slots,i<Γ.length)(ha:g.asg d τ=.ok τ1)
  {Q:St->Hp->Prop} (k:∀σ1,SOk K (L2.shrAll Γ g.slots) B H σ1 τ1 []->Q σ1 H):tgG K g v σ H Q:=by
 cases g with
 | one i=>cases ha;exact k _ (h.shrIn r hL (hi i (by simp[Tgt.slots])))
 | many is =>
  cases d with
  | tup ds =>
   unfold Tgt.asg at ha;dsimp only at ha
   by_cases hl:ds.length=is.length
   ·rw[jNg hl]at ha;cases ha;obtain⟨a,vs,rfl,hs,rs⟩:=r;have hv:vs.length=is.length:=rs.length.trans hl;exact⟨a,vs,rfl,hs,hv,k _ (h.shrAll rs hL hl hi)⟩
   ·rw[jNh hl]at ha;cases ha
  | _=>cases ha
def z6f {it:Tn->R (List D)}{g:Tgt}{tb:Tn->R Fl}{c:Rc}{wi:TI}{ts:TS}(hcl:c≠.bor)(hn:∀i∈g.slots,i<Γ.length)(hw:wk Γ2 Γ=true)(q:∀O σ H τ Rr,EOk X.K Γ O H σ τ->z3C X.K E O c H Rr (it τ)->wi σ H Rr)(q':∀B σ H τ Z,SOk X.K (shrAll Γ g.slots) B H σ τ []->qm X.K E B Γ Γ2 Z (tb τ)->ts Z σ H)
  (B:Hp) (σ:St) (H:Hp) (τ:Tn) (Z:Ends) (ok:SOk X.K Γ B H σ τ []) (h:qm X.K E B Γl Γ Z (wG it g tb τ)):z7k wi (tgG X.K g) ts Z σ H:=by
 obtain⟨O,eo,Od,hB⟩:=ok.base;refine q O σ H τ _ eo ?_;unfold wG at h;cases ht:it τ with
 | ok ds =>
  rw[ht,jYa]at h;refine fun J H1 L s1 hit hO=>?_;have hO:=hO hcl;obtain⟨hLd,hit⟩:=hit;obtain⟨B1,sB,ok1,hB1⟩:=hB H1 s1;have inL:∀a∈L,B1 a=H1 a:=fun a ha=>hB1 a (hO a ha);have Od1:∀a,O a->(∃vs,H1 a=some (.lst vs))\/∃kvs,H1 a=some (.dK kvs):=fun a o=>by
   rcases Od a o with⟨vs,e⟩|⟨kvs,e⟩
   ·exact .inl ⟨vs,s1 _ _ e⟩
   ·exact .inr ⟨kvs,s1 _ _ e⟩
  have stay:∀H2,Same B1 H2->TF H1 H2/\∀a∈L,H2 a=H1 a:=fun H2 s2=>by
   refine⟨⟨fun a xs e=>?_,fun a o u e=>?_,fun a C dx fs e=>?_⟩,fun a ha=>?_⟩
   ·refine s2 a _ ((hB1 a fun z=>?_).trans e);rcases Od1 a z with⟨_,w⟩|⟨_,w⟩<;>rw[e]at w<;>cases w
   ·refine s2 a _ ((hB1 a fun z=>?_).trans e);rcases Od1 a z with⟨_,w⟩|⟨_,w⟩<;>rw[e]at w<;>cases w
   ·refine s2 a _ ((hB1 a fun z=>?_).trans e);rcases Od1 a z with⟨_,w⟩|⟨_,w⟩<;>rw[e]at w<;>cases w
   ·rw[s2.at (by rw[inL a ha];exact hLd a ha),inL a ha]
  refine⟨fun i m σ2 H2=>m=ds.length-i/\i<=ds.length/\∃τ2,SOk X.K Γ B1 H2 σ2 τ2 []/\qm X.K E B Γl Γ Z (xx g.asg tb (ds.drop i) τ2),⟨ds.length,by simp,rC _,τ,ok1,h⟩,?_⟩;rintro i m σ2 H2 ⟨rfl,hile,τ2,ok2,h2⟩;obtain⟨tf,kp⟩:=stay H2 ok2.ext;obtain⟨go,stop⟩:=hit H2 tf kp i
  by_cases hlt:i<ds.length
  ·obtain⟨hgo,hy⟩:=go ds[i] (by simp[hlt]);rw[sW hlt]at h2;refine .inr ⟨hgo,fun σ' H'=>i+1<=ds.length/\∃τ',SOk X.K Γ B1 H' σ' τ' []/\qm X.K E B Γl Γ Z (xx g.asg tb (ds.drop (i+1)) τ'),fun σ' H' ⟨z,w⟩=>⟨ds.length-(i+1),by omega,rfl,z,w⟩,fun x H3 y=>?_⟩;obtain⟨s3,L',r',sub⟩:=hy x H3 y;unfold xx at h2;cases ha:g.asg ds[i] τ2 with
   | ok τ3 =>
    rw[ha,jYa]at h2;refine z5A (ok2.same s3) r' (fun a ha=>by rw[inL a (sub a ha)];exact hLd a (sub a ha)) hn ha fun σ3 ok3=>?_;refine q' B1 σ3 H3 τ3 _ ok3 ?_;cases hb:tb τ3 with
    | ok f =>
     rw[hb,jYa]at h2;cases f with
     | nx τ4=>exact fun σ' H' ok4=>⟨hlt,τ4,ok4.weak hw,h2⟩
     | ct τ4=>exact fun σ' H' ok4=>⟨hlt,τ4,ok4,h2⟩
     | bk τ4=>exact fun σ' H' ok4=>h2 σ' H' (ok4.rebase sB)
     | rt d=>exact fun v H' L s r n1 n2=>h2 v H' L (sB.trans s) r n1 fun a ha=>sB.non (n2 a ha)
    | err n=>rw[hb]at h2;exact fun C H' e s=>h2 C H' e (sB.trans s)
    | bad=>rw[hb]at h2;exact h2
   | err n =>
    cases g with
    | one i=>cases ha
    | many is =>
     unfold Tgt.asg at ha;split at ha
     ·cases ha
     ·split at ha<;>cases ha
     ·cases ha
   | bad=>rw[ha]at h2;exact h2.elim
  ·have e:i=ds.length:=by omega
   subst e;rw[hZ]at h2;exact .inl ⟨stop (tP _),h2 σ2 H2 (ok2.rebase sB)⟩
 | err n=>rw[ht]at h;exact fun C H' e s=>h C H' e (ok.ext.trans s)
 | bad=>rw[ht]at h;exact h
def yN (hp:jMg (model X.prog X.w) X.A X.env X.xe)(hc:X.calm=true)(hi:MI X E Γ tg iter it c)(hcl:c≠.bor)(hg:MG X tg g)
  (hn:∀i∈g.slots,i<Γ.length) (hb:MSs X E Γ (shrAll Γ g.slots) body tb Γ2) (hw:wk Γ2 Γ=true) (hs:autoParam (∀x,jYg iter X.env x=pure x) au2._auto_1):MS X E Γl Γ (.For tg iter body [] pos) (wG it g tb) Γ:=by
 obtain⟨wi,p,q⟩:=hi;obtain⟨ts,p',q'⟩:=hb;exact⟨_,z4F hp hc p hg.pg p' hs,z6f hcl hn hw q q'⟩
def vB (k:Tn->R Bool)(body:Tn->R Fl):Nat->Tn->R Fl
 | 0,_=>.bad
 | n+1,τ=>(k τ).bind fun x=>if x=true then (body τ).bind fun f=>match f with
  | .nx τ2=>vB k body n τ2
  | .ct τ2=>vB k body n τ2
  | .bk τ2=>.ok (.nx τ2)
  | .rt r=>.ok (.rt r)
  else .ok (.nx τ)
open Classical in
def yi (k:Tn->R Bool)(body:Tn->R Fl):Tn->R Fl:=fun τ=>if h:∃n,vB k body n τ≠.bad then vB k body (Classical.choose h) τ else .bad
theorem jU:∀(n:Nat) (τ:Tn),vB k body n τ≠.bad->vB k body (n+1) τ=vB k body n τ
 | 0,τ,h=>absurd rfl h
 | n+1,τ,h=>by
  unfold vB at h;rw[vB,vB];cases hk:k τ with
  | ok x =>
   rw[hk,jYa]at h;rw[jYa,jYa];cases x with
   | true =>
    rw[jNg rfl]at h;rw[jNg rfl,jNg rfl];cases hb:body τ with
    | ok f =>
     rw[hb,jYa]at h;rw[jYa,jYa];cases f with
     | nx τ2=>exact jU n τ2 h
     | ct τ2=>exact jU n τ2 h
     | bk τ2=>rfl
     | rt d=>rfl
    | err n=>rfl
    | bad=>rfl
   | false=>rfl
  | err n=>rfl
  | bad=>rfl
def QD (h:vB k body n τ≠.bad)(hm:n<=m):vB k body m τ=vB k body n τ:=by
 obtain⟨j,rfl⟩:=Nat.le.dest hm
 induction j with
 | zero=>rfl
 | succ j ih =>
  have:=ih (Nat.le_add_right _ _);rw[<-Nat.add_assoc,jU (n+j) τ (by rw[this];exact h),this]
def kz (h:vB k body n τ=r)(hr:r≠.bad):yi k body τ=r:=by
 have hx:∃n,vB k body n τ≠.bad:=⟨n,by rw[h];exact hr⟩
 unfold yi;rw[dif_pos hx];have h2:=Classical.choose_spec hx;rcases Nat.le_total n (Classical.choose hx)with z|z
 ·rw[QD (by rw[h];exact hr) z,h]
 ·rw[<-QD h2 z,h]
def Yj:yi k body τ=.bad\/∃n,vB k body n τ=yi k body τ/\yi k body τ≠.bad:=by
 by_cases hx:∃n,vB k body n τ≠.bad
 ·refine .inr ⟨Classical.choose hx,?_,?_⟩<;>unfold yi<;>rw[dif_pos hx];exact Classical.choose_spec hx
 ·refine .inl ?_;unfold yi;rw[dif_neg hx]
def qw (hp:jMg (model X.prog X.w) X.A X.env X.xe)(hk:MT X E Γ k u)(hb:MSs X E Γ Γ body tb Γ2)(hw:wk Γ2 Γ=true):MS X E Γl Γ (.While k body [] pos) (yi u tb) Γ:=by
 obtain⟨te,p,q⟩:=hk;obtain⟨ts,p',q'⟩:=hb;refine⟨_,KZ hp p p',fun B σ H τ Z ok h=>?_⟩;rcases Yj (k:=u) (body:=tb) (τ:=τ)with z|⟨n,hn,_⟩
 ·rw[z]at h;exact h.elim
 rw[<-hn]at h;refine⟨fun m σ2 H2=>∃τ2,SOk X.K Γ B H2 σ2 τ2 []/\qm X.K E B Γl Γ Z (vB u tb m τ2),⟨n,τ,ok,h⟩,?_⟩;rintro m σ2 H2 ⟨τ2,ok2,h2⟩;cases m with
 | zero=>exact h2.elim
 | succ m =>
  obtain⟨O,eo,_⟩:=ok2.eok;refine q O σ2 H2 τ2 _ eo ?_;unfold vB at h2;cases ht:u τ2 with
  | ok x =>
   rw[ht,jYa]at h2;refine fun H3 s3=>?_;cases x with
   | true =>
    rw[jNg rfl]at h2 ⊢;refine⟨fun σ' H'=>∃τ',SOk X.K Γ B H' σ' τ' []/\qm X.K E B Γl Γ Z (vB u tb m τ'),fun σ' H' w=>⟨m,rN _,w⟩,q' B σ2 H3 τ2 _ (ok2.same s3) ?_⟩;cases hb:tb τ2 with
    | ok f =>
     rw[hb,jYa]at h2;cases f with
     | nx τ4=>exact fun σ' H' ok4=>⟨τ4,ok4.weak hw,h2⟩
     | ct τ4=>exact fun σ' H' ok4=>⟨τ4,ok4,h2⟩
     | bk τ4=>exact fun σ' H' ok4=>h2 σ' H' ok4
     | rt d=>exact h2
    | err n=>rw[hb]at h2;exact h2
    | bad=>rw[hb]at h2;exact h2
   | false=>rw[jNh tO]at h2 ⊢;exact h2 σ2 H3 (ok2.same s3)
  | err n=>rw[ht]at h2;exact fun C H' e s=>h2 C H' e (ok2.ext.trans s)
  | bad=>rw[ht]at h2;exact h2
end
def signs (x:Str):List D:=x.cps.toList.map fun c=>.str ⟨#[c]⟩
def jg:D->R (List D)
 | .lst ds=>.ok ds
 | .tup ds=>.ok ds
 | .str x=>.ok (signs x)
 | _=>.bad
def yo (t:Tn->R D):Tn->R (List D):=fun τ=>(t τ).bind jg
def rng (lo:Int)(n:Nat):List D:=(List.range n).map fun (i:Nat)=>.int (lo+i)
def j5:List D->R (List D)
 | [.int j]=>if -(2 ^ 62)<=j/\j<2 ^ 62 then .ok (rng 0 j.toNat) else .bad
 | _=>.bad
def z5X:List D->R (List D)
 | [.int i,.int j]=>if -(2 ^ 62)<=i/\i<2 ^ 62/\-(2 ^ 62)<=j/\j<2 ^ 62 then .ok (rng i (j-i).toNat) else .bad
 | _=>.bad
def xK:Nat->List D->List D
 | _,[]=>[]
 | n,d::ds=>.tup [.int n,d]::xK (n+1) ds
def Yn:List D->R (List D)
 | [.lst ds]=>.ok (xK 0 ds)
 | _=>.bad
def iL (g:List D->R (List D))(u:Tn->R (List D)):Tn->R (List D):=fun τ=>(u τ).bind g
theorem ZE:∀(n:Nat) (ds:List D),(xK n ds).length=ds.length
 | _,[]=>rfl
 | n,d::ds=>by unfold xK;rw[tE,tE,ZE (n+1) ds]
theorem Y7:∀(n:Nat) (ds:List D) (i:Nat) (d:D),(xK n ds)[i]?=some d->∃d',ds[i]?=some d'/\d=.tup [.int ((n+i:Nat):Int),d']
 | _,[],_,_,h=>by simp[xK]at h
 | n,d::ds,0,e,h=>by
  unfold xK at h;simp at h;exact⟨d,rfl,h.symm⟩
 | n,d::ds,i+1,e,h=>by
  unfold xK at h;obtain⟨d',h1,h2⟩:=Y7 (n+1) ds i e (by simpa using h);exact⟨d',by simpa using h1,by rw[h2,Nat.add_assoc,Nat.add_comm 1 i]⟩
section
theorem ItOk.list {K:jJa}{H:Hp}{a:Addr}{vs:List V}{ds:List D}{L L':List Addr}(ha:H a=some (.lst vs))(e:L=a::L')(r:Reps K H ds vs L'):ItOk K (Itl K a) ds L H:=by
 subst e;refine⟨fun b hb=>?_,fun H' tf kp i=>⟨fun d hd=>?_,fun hl=>?_⟩⟩
 ·rcases tS.mp hb with z|z
  ·rw[z,ha];simp
  ·exact r.there z
 ·have ha':H' a=some (.lst vs):=(kp a tG).trans ha;obtain⟨v,L1,e1,r1,sub⟩:=r.get hd;refine⟨⟨vs,v,SqL.of ha',e1⟩,fun x H'' ⟨e2,hy⟩=>?_⟩;subst e2;have:=hy vs (SqL.of ha');rw[e1]at this;cases this;exact⟨Same.refl _,L1,Rep.keep tf d _ L1 r1 fun b hb=>kp b (tH _ (sub.subset hb)),fun b hb=>tH _ (sub.subset hb)⟩
 ·have ha':H' a=some (.lst vs):=(kp a tG).trans ha;exact⟨vs,SqL.of ha',by rw[r.length];exact hl⟩
theorem ItOk.tup {K:jJa}{H:Hp}{a:Addr}{vs:List V}{ds:List D}{L:List Addr}(ha:SqT K H a vs)(r:Reps K H ds vs L):ItOk K (Itt K a) ds L H:=by
 refine⟨fun b hb=>r.there hb,fun H' tf kp i=>⟨fun d hd=>?_,fun hl=>?_⟩⟩
 ·have ha':=ha.tf tf;obtain⟨v,L1,e1,r1,sub⟩:=r.get hd;refine⟨⟨vs,v,ha',e1⟩,fun x H'' ⟨e2,hy⟩=>?_⟩;subst e2;have:=hy vs ha';rw[e1]at this;cases this;exact⟨Same.refl _,L1,Rep.keep tf d _ L1 r1 fun b hb=>kp b (sub.subset hb),fun b hb=>sub.subset hb⟩
 ·exact⟨vs,ha.tf tf,by rw[r.length];exact hl⟩
theorem ItOk.str {K:jJa}{H:Hp}{x:Str}:ItOk K (Its x) (signs x) [] H:=by
 refine⟨fun b hb=>(nomatch hb),fun H' tf kp i=>⟨fun d hd=>?_,fun hl=>?_⟩⟩
 ·unfold signs at hd;rw[sL]at hd;cases hq:x.cps.toList[i]? with
  | none=>rw[hq]at hd;cases hd
  | some k =>
   rw[hq]at hd;have hd:D.str ⟨#[k]⟩=d:=jYe hd;subst hd;have hi:i<x.cps.size:=by
    have:=(tN.mp hq).1
    simpa using this
   refine⟨hi,fun y H'' ⟨e2,c',e3,e4⟩=>?_⟩;subst e2 e4;rw[<-Array.getElem?_toList,hq]at e3;cases e3;exact⟨Same.refl _,[],⟨rfl,rfl⟩,fun b hb=>(nomatch hb)⟩
 ·have:(signs x).length=x.cps.size:=by simp[signs]
  show x.cps.size<=i;lia
theorem ItOk.rng {K:jJa}{H:Hp}{lo:Int}{n:Nat}:ItOk K (Itr lo n) (L2.rng lo n) [] H:=by
 refine⟨fun b hb=>(nomatch hb),fun H' tf kp i=>⟨fun d hd=>?_,fun hl=>?_⟩⟩
 ·unfold L2.rng at hd;rw[sL]at hd
  by_cases hi:i<n
  ·rw[List.getElem?_range hi]at hd;have hd:D.int (lo+(i:Int))=d:=jYe hd;subst hd;refine⟨hi,fun y H'' ⟨e2,e3⟩=>?_⟩;subst e2 e3;exact⟨Same.refl _,[],⟨rfl,rfl⟩,fun b hb=>(nomatch hb)⟩
  ·rw[List.getElem?_eq_none (by simp;lia)]at hd;cases hd
 ·have:(L2.rng lo n).length=n:=by simp[L2.rng]
  show n<=i;lia
theorem ItOk.enum {K:jJa}{H:Hp}{a:Addr}{vs:List V}{ds:List D}{L L':List Addr}(ha:H a=some (.lst vs))(e:L=a::L')(r:Reps K H ds vs L'):ItOk K (Ite K a) (xK 0 ds) L H:=by
 subst e;refine⟨fun b hb=>?_,fun H' tf kp i=>⟨fun d hd=>?_,fun hl=>?_⟩⟩
 ·rcases tS.mp hb with z|z
  ·rw[z,ha];simp
  ·exact r.there z
 ·have ha':H' a=some (.lst vs):=(kp a tG).trans ha;obtain⟨d',hd',rfl⟩:=Y7 0 ds i d hd;obtain⟨v,L1,e1,r1,sub⟩:=r.get hd';refine⟨⟨vs,v,SqL.of ha',e1⟩,fun x H'' ⟨p,y,hp,e2,e3,hy⟩=>?_⟩;subst e2 e3;have:=hy vs (SqL.of ha');rw[e1]at this;cases this;refine⟨Same.new hp,L1,⟨p,_,rfl,SqT.of zz,?_⟩,fun b hb=>tH _ (sub.subset hb)⟩;have r2:Rep K H' d' v L1:=Rep.keep tf d' _ L1 r1 fun b hb=>kp b (tH _ (sub.subset hb));have:=Reps.cons (K:=K) (H:=upd H' p (.tup [.int (i:Int),v])) (d:=.int ((0+i:Nat):Int)) (v:=.int (i:Int)) (L1:=[]) ⟨by simp,rfl⟩ (Reps.cons (r2.same (Same.new hp)) Reps.nil)
  simpa using this
 ·have ha':H' a=some (.lst vs):=(kp a tG).trans ha;rw[ZE]at hl;exact⟨vs,SqL.of ha',by rw[r.length];exact hl⟩
def zN (h:ME X E Γ e t c):MI X E Γ tg e (yo t) c:=by
 obtain⟨te,p,q⟩:=h;refine⟨fun σ H Rr=>z06 X.K te σ H Rr\/z8b X.K te σ H Rr\/z81 te σ H Rr,fun jNf s σ H Rr I z=>?_,fun O σ H τ Rr ok h=>?_⟩
 ·rcases z with z|z|z
  ·exact J0 p jNf s σ H Rr I z
  ·exact z5I p jNf s σ H Rr I z
  ·exact z57 p jNf s σ H Rr I z
 ·unfold yo at h;cases ht:t τ with
  | ok d =>
   rw[ht,jYa]at h;cases d with
   | lst ds =>
    refine .inl (q O σ H τ _ ok ?_);rw[ht];refine fun v H1 L s r k=>?_;obtain⟨a,vs,L',rfl,ha,e,rs⟩:=r;exact⟨a,rfl,⟨vs,SqL.of ha⟩,h _ H1 L s (ItOk.list ha e rs) fun n=>k.shr ok.dom n⟩
   | tup ds =>
    refine .inr (.inl (q O σ H τ _ ok ?_));rw[ht];refine fun v H1 L s r k=>?_;obtain⟨a,vs,rfl,ha,rs⟩:=r;exact⟨a,rfl,⟨vs,ha⟩,h _ H1 L s (ItOk.tup ha rs) fun n=>k.shr ok.dom n⟩
   | str x =>
    refine .inr (.inr (q O σ H τ _ ok ?_));rw[ht];refine fun v H1 L s r k=>?_;exact⟨x,r.1,h _ H1 [] s ItOk.str fun n a ha=>(nomatch ha)⟩
   | _=>exact h.elim
  | err n =>
   rw[ht]at h;refine .inl (q O σ H τ _ ok ?_);rw[ht];exact h
  | bad=>rw[ht]at h;exact h.elim
def yP (hg:Gl X "range")(hm:X.mg "range"=none)(ha:MA X E Γ [a] u c)(hs:autoParam (jMj [a] X.env=[(false,eval a X.env)]) au3._auto_1):MI X E Γ tg (.Call (.Name "range" p) [a] [] pos) (iL j5 u) .fresh:=by
 obtain⟨_,ta,p',q⟩:=ha;refine⟨_,K2 hg hm p' hs,fun O σ H τ Rr ok h=>q O σ H τ _ ok ?_⟩;unfold iL at h;cases ht:u τ with
 | ok ds =>
  rw[ht,jYa]at h;refine fun vs H1 L s r k=>?_;unfold j5 at h;split at h
  ·rename_i j;obtain⟨v,vs',L1,L2,e1,_,r1,r2⟩:=r;obtain⟨rfl,_⟩:=r1;obtain⟨rfl,_⟩:=r2
   by_cases hj:-(2 ^ 62)<=j/\j<2 ^ 62
   ·rw[jNg hj]at h;exact⟨j,e1,hj.1,hj.2,h _ H1 [] s ItOk.rng fun n a ha=>(nomatch ha)⟩
   ·rw[jNh hj]at h;exact h.elim
  ·exact h.elim
 | err n=>rw[ht]at h;exact h
 | bad=>rw[ht]at h;exact h
def V3 {elts:List Expr}{x1:Nat}{tpos:Pos}(hg:Gl X "enumerate")(hm:X.mg "enumerate"=none)(ha:MA X E Γ [a] u c)(hb:autoParam (jKg "enumerate"=some (.type "enumerate")) au3._auto_1)(hs:autoParam (jMj [a] X.env=[(false,eval a X.env)]) au3._auto_1):
  MI X E Γ (.Tuple elts x1 tpos) (.Call (.Name "enumerate" p) [a] [] pos) (iL Yn u) c:=by
 obtain⟨_,ta,p',q⟩:=ha;refine⟨_,z2m hg hm p' hb hs,fun O σ H τ Rr ok h=>q O σ H τ _ ok ?_⟩;unfold iL at h;cases ht:u τ with
 | ok ds =>
  rw[ht,jYa]at h;refine fun vs H1 L s r k=>?_;unfold Yn at h;split at h
  ·rename_i ds;obtain⟨v,vs',L1,L2,e1,e2,r1,r2⟩:=r;obtain⟨rfl,rfl⟩:=r2;rw[tI]at e2;subst e2;obtain⟨a',vs2,L',rfl,ha,e,rs⟩:=r1;exact⟨a',e1,⟨vs2,SqL.of ha⟩,h _ H1 _ s (ItOk.enum ha e rs) fun n=>k.shr ok.dom n⟩
  ·exact h.elim
 | err n=>rw[ht]at h;exact h
 | bad=>rw[ht]at h;exact h
end
def wu (fr:List (Option Nat))(τ:Tn):Tn:=fr.map fun o=>o.bind fun i=>(τ[i]?).join
def zK (fr:List (Option Nat))(Γ:List Cl):List Cl:=fr.map fun o=>match o with
 | some i=>(match Γ[i]? with
  | some .shr=>.shr
  | some .own=>.brw
  | some .brw=>.brw
  | _=>.dead)
 | none=>.dead
def zW (k:Cl):List Cl->List Nat->List Cl
 | Γ,[]=>Γ
 | Γ,i::is=>zW k (Γ.set i k) is
def Cl.ofIt:Rc->Cl
 | .bor=>.brw
 | _=>.shr
def xE (f:D->R (Option D)):List D->R (List D)
 | []=>.ok []
 | d::ds=>(f d).bind fun o=>(xE f ds).bind fun ys=>.ok (o.toList++ys)
def Jl {α:Type}:R α->R α
 | .err _=>.bad
 | r=>r
def vw (asg:D->Tn->R Tn)(cnd:Tn->R Bool)(elt:Tn->R D)(τ:Tn)(d:D):R (Option D):=
 Jl ((asg d τ).bind fun τ1=>(cnd τ1).bind fun k=>if k=true then (elt τ1).bind fun y=>.ok (some y) else .ok none)
def zS (fr:List (Option Nat))(it:Tn->R (List D))(g:Tgt)(cnd:Tn->R Bool)(elt:Tn->R D):Tn->R D:=fun τ=>(it τ).bind fun xs=>(xE (vw g.asg cnd elt (wu fr τ)) xs).bind fun ys=>if ys.length<=jMi then .ok (.lst ys) else .bad
def MTs (X:Cx)(E:XK)(Γ:List Cl)(ifs:List Expr)(t:Tn->R Bool):Prop:=
 ∃te,PTs X ifs te/\∀O σ H τ Q,EOk X.K Γ O H σ τ->postB X.K E H Q (t τ)->te σ H Q
def v9:MTs X E Γ [] (fun _=>.ok true):=⟨z89,z2S,fun O σ H τ Q ok h=>h H (Same.refl H)⟩
def Wx {t:Tn->R Bool}(h:MT X E Γ e t):MTs X E Γ [e] t:=by
 obtain⟨te,p,q⟩:=h;exact⟨te,Qw p,q⟩
theorem MTs.pts {t:Tn->R Bool}(h:MTs X E Γ e t):PTs X e (wpT X.K E Γ t):=by
 obtain⟨te,p,q⟩:=h;rintro jNf s σ H Q I ⟨O,τ,ok,z⟩;exact p jNf s σ H Q I (q O σ H τ Q ok z)
section
variable {K:jJa}{Γ:List Cl}{O:Addr->Prop}{H:Hp}{σ:St}{τ:Tn}
theorem EOk.comp {fr:List (Option Nat)}(h:EOk K Γ O H σ τ):EOk K (zK fr Γ) O H (xN fr σ) (wu fr τ):=by
 refine⟨h.dom,fun j c e hc=>?_⟩;unfold zK at e;rw[sL]at e;cases ho:fr[j]? with
 | none=>rw[ho]at e;cases e
 | some o =>
  rw[ho]at e;cases o with
  | none=>exact absurd (jYe e).symm hc
  | some i =>
   have e:(match Γ[i]? with|some .shr=>Cl.shr|some .own=>.brw|some .brw=>.brw|_=>.dead)=c:=jYe e;have key:∃k,Γ[i]?=some k/\k≠.dead/\(c=.shr->k=.shr):=by
    cases hk:Γ[i]? with
    | none=>rw[hk]at e;exact absurd e.symm hc
    | some k =>
     rw[hk]at e;cases k with
     | own=>subst e;exact⟨_,rfl,by simp,fun z=>by cases z⟩
     | shr=>exact⟨_,rfl,by simp,fun _=>rfl⟩
     | brw=>subst e;exact⟨_,rfl,by simp,fun z=>by cases z⟩
     | dead=>exact absurd e.symm hc
   obtain⟨k,k1,k2,k3⟩:=key;obtain⟨v,d,L,e1,e2,r,hs⟩:=h.slot i k k1 k2;refine⟨v,d,L,?_,?_,r,fun z=>hs (k3 z)⟩
   ·unfold xN;rw[sL,ho];show some ((σ[i]?).join)=_;rw[e1];rfl
   ·unfold wu;rw[sL,ho];show some ((τ[i]?).join)=_;rw[e2];rfl
theorem EOk.put {i:Nat}{k:Cl}{d:D}{v:V}{L:List Addr}(h:EOk K Γ O H σ τ)(r:Rep K H d v L)(hk:k=.shr->∀a∈L,¬O a)(h1:σ.length=Γ.length)(h2:τ.length=Γ.length):EOk K (Γ.set i k) O H (σ.set i (some v)) (τ.set i (some d)):=by
 refine⟨h.dom,fun j c e hc=>?_⟩
 by_cases z:i=j
 ·subst z;have hi:i<Γ.length:=by
   have:=(tN.mp e).1
   simpa using this
  rw[sA hi]at e;cases e;exact⟨v,d,L,by rw[sA (by lia)],by rw[sA (by lia)],r,hk⟩
 ·rw[sE z]at e;obtain⟨v',d',L',a1,a2,a3,a4⟩:=h.slot j c e hc;exact⟨v',d',L',by rw[sE z];exact a1,by rw[sE z];exact a2,a3,a4⟩
end
def EOk.putAll {K:jJa}{O:Addr->Prop}{H:Hp}{k:Cl}{Γ:List Cl}{σ:St}{τ:Tn}{is:List Nat}{ds:List D}{vs:List V}{L:List Addr}(h:EOk K Γ O H σ τ)(r:Reps K H ds vs L)(hL:k=.shr->∀a∈L,¬O a)(hl:ds.length=is.length)(h1:σ.length=Γ.length)(h2:τ.length=Γ.length):
  EOk K (zW k Γ is) O H (xb σ is vs) (xb τ is ds):=by
 induction is generalizing Γ σ τ ds vs L with
 | nil =>
  cases ds with
  | nil=>cases r.1;exact h
  | cons=>cases hl
 | cons i is ih =>
  cases ds with
  | nil=>cases hl
  | cons d ds =>
   obtain⟨v,vs',L1,L2,e1,e2,r1,r2⟩:=r;subst e1 e2;exact ih (h.put r1 (fun z a ha=>hL z a (tW _ ha)) h1 h2) r2 (fun z a ha=>hL z a (tL _ ha)) (Nat.succ.inj hl) (by rw[sQ,sQ];exact h1) (by rw[sQ,sQ];exact h2)
theorem YA {α:Type}:∀(is:List Nat) (σ:List (Option α)) (vs:List α),(xb σ is vs).length=σ.length
 | [],σ,vs=>by unfold xb;rfl
 | i::is,σ,[]=>by unfold xb;rfl
 | i::is,σ,v::vs=>by unfold xb;rw[YA is,sQ]
theorem Xj {α:Type}{j:Nat}:∀(is:List Nat) (σ:List (Option α)) (vs:List α),j∉is->(xb σ is vs)[j]?=σ[j]?
 | [],σ,vs,_=>by unfold xb;rfl
 | i::is,σ,[],_=>by unfold xb;rfl
 | i::is,σ,v::vs,h=>by
  unfold xb;rw[Xj is _ vs (fun z=>h (tH _ z)),sE (fun (z:i=j)=>h (z▸tG))]
def z0p {K:jJa}{Γ:List Cl}{O:Addr->Prop}{H:Hp}{σ:St}{τ τ1:Tn}{d:D}{v:V}{L:List Addr}{g:Tgt}{k:Cl}(h:EOk K Γ O H σ τ)(r:Rep K H d v L)(hL:k=.shr->∀a∈L,¬O a)(h1:σ.length=Γ.length)(h2:τ.length=Γ.length)(ha:g.asg d τ=.ok τ1)
  {Q:St->Hp->Prop} (kk:∀σ1,EOk K (zW k Γ g.slots) O H σ1 τ1->σ1.length=σ.length->(∀j,j∉g.slots->σ1[j]?=σ[j]?)->Q σ1 H):tgG K g v σ H Q:=by
 cases g with
 | one i =>
  cases ha;exact kk _ (h.put r hL h1 h2) (by simp) fun j hj=>sE fun z=>hj (by simp[Tgt.slots,z])
 | many is =>
  cases d with
  | tup ds =>
   unfold Tgt.asg at ha;dsimp only at ha
   by_cases hl:ds.length=is.length
   ·rw[jNg hl]at ha;cases ha;obtain⟨a,vs,rfl,hs,rs⟩:=r;have hv:vs.length=is.length:=rs.length.trans hl;exact⟨a,vs,rfl,hs,hv,kk _ (h.putAll rs hL hl h1 h2) (YA _ _ _) fun j hj=>Xj is σ vs hj⟩
   ·rw[jNh hl]at ha;cases ha
  | _=>cases ha
abbrev noX:XK:=fun _ _ _=>False
def U6 {α:Type}{r:R α}{a:α}(h:Jl r=.ok a):r=.ok a:=by
 cases r with
 | ok b=>exact h
 | err n=>cases h
 | bad=>cases h
def XI {α:Type}{r:R α}{n:Str}(h:Jl r=.err n):False:=by cases r<;>cases h
theorem qt {f:D->R (Option D)}(hf:∀d n,f d≠.err n):∀(ds:List D) (n:Str),xE f ds≠.err n
 | [],n,h=>by cases h
 | d::ds,n,h=>by
  unfold xE at h;cases h1:f d with
  | ok o =>
   rw[h1,jYa]at h;cases h2:xE f ds with
   | ok ys=>rw[h2]at h;cases h
   | err m=>exact qt hf ds m h2
   | bad=>rw[h2]at h;cases h
  | err m=>exact hf d m h1
  | bad=>rw[h1]at h;cases h
def vK {α β:Type}{r:R α}{f:α->R β}{b:β}(h:r.bind f=.ok b):∃a,r=.ok a/\f a=.ok b:=by
 cases r with
 | ok a=>exact⟨a,rfl,h⟩
 | err n=>cases h
 | bad=>cases h
def ZM {f:D->R (Option D)}{d:D}{ds ys:List D}(h:xE f (d::ds)=.ok ys):∃o zs,f d=.ok o/\xE f ds=.ok zs/\ys=o.toList++zs:=by
 unfold xE at h;obtain⟨o,h1,h⟩:=vK h;obtain⟨zs,h2,h⟩:=vK h;cases h;exact⟨o,zs,h1,h2,rfl⟩
theorem EOk.live {K:jJa}{Γ:List Cl}{O:Addr->Prop}{H:Hp}{σ σ':St}{τ:Tn}(h:EOk K Γ O H σ τ)(e:∀(j:Nat) (c:Cl),Γ[j]?=some c->c≠Cl.dead->σ'[j]?=σ[j]?):EOk K Γ O H σ' τ:=
 ⟨h.dom,fun i c e1 hc=>by
  obtain⟨v,d,L,a1,a2,a3,a4⟩:=h.slot i c e1 hc;exact⟨v,d,L,by rw[e i c e1 hc];exact a1,a2,a3,a4⟩⟩
section
variable {X:Cx}{E:XK}{Γ:List Cl}{pos:Pos}
def U3 {fr:List (Option Nat)}{tg iter:Expr}{it:Tn->R (List D)}{g:Tgt}{cnd:Tn->R Bool}{te:Tn->R D}{ci c:Rc}(hi:MI X E Γ tg iter it ci)(hcl:c≠.bor)(hd:∀j∈g.slots,(zK fr Γ)[j]?=some .dead):
  ∃wi,PI X tg iter wi/\∀O σ H τ Q,EOk X.K Γ O H σ τ->post X.K E O c H Q (zS fr it g cnd te τ)->Xo fr wi (tgG X.K g) (wpT X.K noX (zW (Cl.ofIt ci) (zK fr Γ) g.slots) cnd) (wpE X.K noX (zW (Cl.ofIt ci) (zK fr Γ) g.slots) te c) σ H Q:=by
 have hT0:∀σ H Q,(∃O τ,EOk X.K (zW (Cl.ofIt ci) (zK fr Γ) g.slots) O H σ τ/\postB X.K noX H Q (cnd τ))->wpT X.K noX (zW (Cl.ofIt ci) (zK fr Γ) g.slots) cnd σ H Q:=fun _ _ _ h=>h;have hE0:∀σ H Q,(∃O τ,EOk X.K (zW (Cl.ofIt ci) (zK fr Γ) g.slots) O H σ τ/\post X.K noX O c H Q (te τ))->wpE X.K noX (zW (Cl.ofIt ci) (zK fr Γ) g.slots) te c σ H Q:=fun _ _ _ h=>h;generalize wpT X.K noX (zW (Cl.ofIt ci) (zK fr Γ) g.slots) cnd=TC at hT0 ⊢;generalize wpE X.K noX (zW (Cl.ofIt ci) (zK fr Γ) g.slots) te c=TE0 at hE0 ⊢;obtain⟨wi,p,q⟩:=hi;refine⟨wi,p,fun O σ H τ Q ok h=>q O σ H τ _ ok ?_⟩;unfold zS at h;cases hit':it τ with
 | err n=>rw[hit']at h;exact h
 | bad=>rw[hit']at h;exact h
 | ok ds =>
  rw[hit',jYa]at h;refine fun J H1 L s1 hJ hO dd hD=>?_;obtain⟨hLd,hit⟩:=hJ;generalize hF:vw g.asg cnd te (wu fr τ)=F at h;cases hcL:xE F ds with
  | err n=>exact absurd hcL (qt (fun d n z=>by rw[<-hF]at z;exact XI z) ds n)
  | bad=>rw[hcL]at h;exact h.elim
  | ok ys =>
   rw[hcL,jYa]at h
   by_cases hz:ys.length<=jMi
   ·rw[jNg hz]at h;have hD0:H dd=none:=s1.non hD;have z3k:(xN fr σ).length=(zK fr Γ).length:=by simp[xN,zK]
    have lenT:(wu fr τ).length=(zK fr Γ).length:=by simp[wu,zK]
    obtain⟨W,hW⟩:∃W:Nat->Nat->List V->St->Hp->Prop,∀i m ysv τ' H2,W i m ysv τ' H2↔(m=ds.length-i/\i<=ds.length/\H2 dd=some (.lst ysv)/\(∀b,b≠dd->H1 b≠none->H2 b=H1 b)/\τ'.length=(zK fr Γ).length/\(∀j,j∉g.slots->τ'[j]?=(xN fr σ)[j]?) /\
     ∃dn rs Ly,ys=dn++rs/\xE F (ds.drop i)=.ok rs/\Reps X.K H2 dn ysv Ly/\dd∉Ly/\RcOk c O H1 Ly):=⟨_,fun _ _ _ _ _=>Iff.rfl⟩
    refine⟨W,⟨ds.length,(hW _ _ _ _ _).mpr ⟨by simp,rC _,zz,fun b hb _=>zt hb,z3k,fun _ _=>rfl,[],ys,[],rfl,by simpa using hcL,Reps.nil,by simp,RcOk.nil⟩⟩,?_⟩;intro i m ysv τ' H2 hw0;obtain⟨rfl,hile,hDy,kp,hl',hj',dn,rs,Ly,eys,hrs,rdn,nD,kLy⟩:=(hW _ _ _ _ _).mp hw0;refine⟨hDy,?_⟩;have sH:Same H H2:=fun b o e=>by
     have e1:=s1 b o e;have nb:b≠dd:=zH e hD0;rw[kp b nb (by rw[e1];simp)];exact e1
    have s12:∀b o,H1 b=some o->H2 b=some o:=fun b o e=>by
     rw[kp b (zH e hD) (by rw[e];simp)];exact e
    have okO:EOk X.K Γ (fun a=>O a\/a=dd) H2 σ τ:=by
     refine⟨fun a ha=>?_,fun j k e hk=>?_⟩
     ·rcases ha with ha|ha
      ·exact (ok.same sH).dom a ha
      ·rw[ha,hDy];simp
     ·obtain⟨v,d,L0,a1,a2,a3,a4⟩:=ok.slot j k e hk;refine⟨v,d,L0,a1,a2,a3.same sH,fun z a ha hm=>?_⟩;rcases hm with hm|hm
      ·exact a4 z a ha hm
      ·exact a3.there ha (hm▸hD0)
    have okc:EOk X.K (zK fr Γ) (fun a=>O a\/a=dd) H2 τ' (wu fr τ):=(okO.comp (fr:=fr)).live fun j k e hk=>hj' j fun hm=>by
     rw[hd j hm]at e;exact hk (jYe e).symm
    obtain⟨go,stop⟩:=hit H2 ⟨fun a xs e=>s12 a _ e,fun a o u e=>s12 a _ e,fun a C dx fs e=>s12 a _ e⟩ (fun a ha=>kp a (fun z=>hLd a ha (z▸hD)) (hLd a ha)) i
    by_cases hlt:i<ds.length
    ·obtain⟨hgo,hy⟩:=go ds[i] (by simp[hlt]);refine .inr ⟨hgo,fun x H3 y=>?_⟩;obtain⟨s3,L',r',sub⟩:=hy x H3 y;rw[sW hlt]at hrs;obtain⟨o,zs,ho,hzs,ers⟩:=ZM hrs;rw[<-hF]at ho;have ho:=U6 ho;obtain⟨τ1,ha,ho⟩:=vK ho;obtain⟨k,hk,ho⟩:=vK ho;refine z0p (k:=Cl.ofIt ci) (okc.same s3) r' (fun z a ha hm=>?_) hl' lenT ha fun σ1 ok1 hl1 hj1=>?_
     ·have hci:ci≠.bor:=fun w=>by subst w;cases z
      rcases hm with hm|hm
      ·exact hO hci a (sub a ha) hm
      ·exact hLd a (sub a ha) (hm▸hD)
     ·refine hT0 _ _ _ ⟨_,τ1,ok1,?_⟩;rw[hk];refine fun H5 s5=>?_;have s25:=s3.trans s5;cases k with
      | true =>
       rw[jNg rfl]at ho;dsimp only;rw[jNg rfl];obtain⟨yd,hyd,ho⟩:=vK ho;cases ho;refine hE0 _ _ _ ⟨_,τ1,ok1.same s5,?_⟩;rw[hyd];refine fun yv H6 Lw s6 r6 k6=>?_;have s26:=s25.trans s6;have hD6:H6 dd=some (.lst ysv):=s26 dd _ hDy;have hlen:ysv.length=dn.length:=rdn.length;have nDw:dd∉Lw:=fun hm=>by
        cases c with
        | fresh=>have:=k6.2 dd hm;rw[s25 dd _ hDy]at this;cases this
        | shr=>exact k6 dd hm (.inr rfl)
        | bor=>exact hcl rfl
       have mu:(∃vs,H6 dd=some (.lst vs))\/∃kvs,H6 dd=some (.dK kvs):=.inl ⟨_,hD6⟩;refine⟨hD6,?_,ds.length-(i+1),by lia,(hW _ _ _ _ _).mpr ⟨rfl,hlt,zz,fun b hb hn=>?_,by rw[hl1];exact hl',fun j hj=>(hj1 j hj).trans (hj' j hj),dn++[yd],zs,Ly++Lw,?_,hzs,?_,?_,?_⟩⟩
       ·rw[eys,ers,tD,tD]at hz;simp only[Option.toList,pU]at hz;lia
       ·rw[zt hb,<-kp b hb hn];exact s26.at (by rw[kp b hb hn];exact hn)
       ·rw[eys,ers,tQ];rfl
       ·have:=Reps.append ((rdn.same s26).upd (o:=.lst (ysv++[yv])) mu nD) (Reps.cons (r6.upd (o:=.lst (ysv++[yv])) mu nDw) Reps.nil);rw[tI]at this;exact this
       ·intro hm;rcases tX.mp hm with z|z
        ·exact nD z
        ·exact nDw z
       ·cases c with
        | fresh =>
         refine⟨sN.mpr ⟨kLy.1,k6.1,fun a ha b hb z=>?_⟩,fun a ha=>?_⟩
         ·subst z;have h2:=rdn.there ha;have h5:=k6.2 a hb;exact h2 (s25.non h5)
         ·rcases tX.mp ha with z|z
          ·exact kLy.2 a z
          ·have h5:=k6.2 a z;have h2:H2 a=none:=s25.non h5;cases e1:H1 a with
           | none=>rfl
           | some o=>rw[s12 a o e1]at h2;cases h2
        | shr =>
         intro a ha;rcases tX.mp ha with z|z
         ·exact kLy a z
         ·exact fun w=>k6 a z (.inl w)
        | bor=>exact absurd rfl hcl
      | false =>
       rw[jNh tO]at ho;dsimp only;rw[jNh tO];cases ho;refine⟨ds.length-(i+1),by lia,(hW _ _ _ _ _).mpr ⟨rfl,hlt,s25 dd _ hDy,fun b hb hn=>?_,by rw[hl1];exact hl',fun j hj=>(hj1 j hj).trans (hj' j hj),dn,zs,Ly,?_,hzs,rdn.same s25,nD,kLy⟩⟩
       ·rw[<-kp b hb hn];exact s25.at (by rw[kp b hb hn];exact hn)
       ·rw[eys,ers];rfl
    ·have e:i=ds.length:=by lia
     subst e;rw[hZ]at hrs;cases hrs;rw[tI]at eys;subst eys;refine .inl ⟨stop (tP _),h (.ref dd) H2 (dd::Ly) sH ⟨dd,ysv,Ly,rfl,hDy,rfl,rdn⟩ ?_⟩;cases c with
     | fresh =>
      refine⟨sP.mpr ⟨nD,kLy.1⟩,fun a ha=>?_⟩;rcases tS.mp ha with z|z
      ·rw[z];exact hD0
      ·exact s1.non (kLy.2 a z)
     | shr =>
      intro a ha;rcases tS.mp ha with z|z
      ·rw[z];exact fun w=>ok.dom dd w hD0
      ·exact kLy a z
     | bor=>exact absurd rfl hcl
   ·rw[jNh hz]at h;exact h.elim
def qG {N':List Str}{fr:List (Option Nat)}{scope:Scope}{tg iter elt:Expr}{ifs:List Expr}{it:Tn->R (List D)}{g:Tgt}{cnd:Tn->R Bool}{te:Tn->R D}{ci c:Rc}(hc:X.calm=true)(S:CompScope X N' fr scope)(hi:MI X E Γ tg iter it ci)
  (hg:∀s₃ H₃ fp jNf,MG (zP X scope N' s₃ H₃ fp jNf) tg g) (ht:∀s₃ H₃ fp jNf,MTs (zP X scope N' s₃ H₃ fp jNf) noX (zW (Cl.ofIt ci) (zK fr Γ) g.slots) ifs cnd)
  (he:∀s₃ H₃ fp jNf,ME (zP X scope N' s₃ H₃ fp jNf) noX (zW (Cl.ofIt ci) (zK fr Γ) g.slots) elt te c) (hcl:c≠.bor) (hd:∀j∈g.slots,(zK fr Γ)[j]?=some .dead)
  (hs:autoParam (∀x,jYg iter X.env x=pure x) au2._auto_1):ME X E Γ (.ListComp elt [⟨tg,iter,ifs,0⟩] scope pos) (zS fr it g cnd te) c:=by
 obtain⟨wi,p,q⟩:=U3 (cnd:=cnd) (te:=te) hi hcl hd;exact⟨_,WU hc S p (fun s₃ H₃ fp jNf=>(hg s₃ H₃ fp jNf).pg) (fun s₃ H₃ fp jNf=>(ht s₃ H₃ fp jNf).pts) (fun s₃ H₃ fp jNf=>(he s₃ H₃ fp jNf).pe) hs,q⟩
def z3r {Γl:List Cl}{N':List Str}{fr:List (Option Nat)}{scope:Scope}{tg iter elt:Expr}{ifs:List Expr}{it:Tn->R (List D)}{g:Tgt}{cnd:Tn->R Bool}{te:Tn->R D}{ci:Rc}{i:Nat}{x:Str}{pos' cpos:Pos}(hc:X.calm=true)(S:CompScope X N' fr scope)(hi:MI X E Γ tg iter it ci)
  (hg:∀s₃ H₃ fp jNf,MG (zP X scope N' s₃ H₃ fp jNf) tg g) (ht:∀s₃ H₃ fp jNf,MTs (zP X scope N' s₃ H₃ fp jNf) noX (zW (Cl.ofIt ci) (zK fr Γ) g.slots) ifs cnd)
  (he:∀s₃ H₃ fp jNf,ME (zP X scope N' s₃ H₃ fp jNf) noX (zW (Cl.ofIt ci) (zK fr Γ) g.slots) elt te .fresh) (hd:∀j∈g.slots,(zK fr Γ)[j]?=some .dead)
  (hN:X.N.Nodup) (hix:X.N[i]?=some x) (hl:i<Γ.length) (hx:Loc X.env.scope x) (hsw:jMf (.ListComp elt [⟨tg,iter,ifs,0⟩] scope cpos) (some (.Name x pos')) pos.line X.env=pure true)
  (hs:autoParam (∀x,jYg iter X.env x=pure x) au2._auto_1) (hf:autoParam (X.fn x=true\/X.env.scope.names.lookup x=some .local) au0._auto_1):
  MS X E Γl Γ (.Assign [.Name x pos'] (.ListComp elt [⟨tg,iter,ifs,0⟩] scope cpos) pos) (zu i (zS fr it g cnd te)) (Γ.set i .own):=by
 obtain⟨wi,p,q⟩:=U3 (cnd:=cnd) (te:=te) (c:=.fresh) hi (by decide) hd;refine⟨_,z1O (g:=tgG X.K g) (tc:=wpT X.K noX (zW (Cl.ofIt ci) (zK fr Γ) g.slots) cnd) (te:=wpE X.K noX (zW (Cl.ofIt ci) (zK fr Γ) g.slots) te .fresh) hc S p (fun s₃ H₃ fp jNf=>(hg s₃ H₃ fp jNf).pg) (fun s₃ H₃ fp jNf=>(ht s₃ H₃ fp jNf).pts) (fun s₃ H₃ fp jNf=>(he s₃ H₃ fp jNf).pe) hN hix hx hsw hs hf,fun B σ H τ Z ok h=>?_⟩;obtain⟨O,eo,_⟩:=ok.eok;refine q O σ H τ _ eo ?_;unfold zu at h;cases ht':zS fr it g cnd te τ with
 | ok d =>
  rw[ht',jYa]at h;exact fun v H' L s r k=>h _ _ (SOk.into (T:=[]) (ok.aside s (fun a ha=>r.there ha) k.1 k.2) r hl)
 | err n=>rw[ht']at h;exact fun C H' e s=>h C H' e (ok.ext.trans s)
 | bad=>rw[ht']at h;exact h
end
def spM (K:jJa)(F:List D->R D)(n:Nat):Sp:=fun vs H Q E=>vs.length=n/\∃ds L,Reps K H ds vs L/\post K E (fun _=>False) .fresh H Q (F ds)
def zC (n:Nat)(t:Tn->R Fl)(ds:List D):R D:=match t (ds.map some++List.replicate (n-ds.length) none)with
 | .ok (.rt d)=>.ok d
 | .ok (.nx _)=>.ok .non
 | .err c=>.err c
 | _=>.bad
def j6 (n m:Nat):List Cl:=List.replicate m .shr++List.replicate (n-m) .dead
theorem Reps.slot {K:jJa}{H:Hp}{ds:List D}{vs:List V}{L:List Addr}(r:Reps K H ds vs L):∃Ls:Nat->List Addr,∀(i:Nat) (d:D),ds[i]?=some d->∃v,vs[i]?=some v/\Rep K H d v (Ls i):=by
 have:∀i:Nat,∃L1:List Addr,∀d,ds[i]?=some d->∃v,vs[i]?=some v/\Rep K H d v L1:=fun i=>by
  cases h:ds[i]? with
  | none=>exact⟨[],fun d z=>by cases z⟩
  | some d =>
   obtain⟨v,L1,e1,r1,_⟩:=r.get h;exact⟨L1,fun d' z=>by cases z;exact⟨v,e1,r1⟩⟩
 exact⟨fun i=>Classical.choose (this i),fun i=>Classical.choose_spec (this i)⟩
theorem SOk.start {K:jJa}{H:Hp}{N:List Str}{ds:List D}{vs:List V}{L:List Addr}(r:Reps K H ds vs L)(hn:vs.length<=N.length):SOk K (j6 N.length vs.length) H H (L2.start N vs) (ds.map some++List.replicate (N.length-ds.length) none) []:=by
 have hl:=r.length;have lp:(j6 N.length vs.length).length=N.length:=by unfold j6;rw[tD,rJ,rJ];lia
 obtain⟨Ls,hL⟩:=r.slot;have cls:∀i c,(j6 N.length vs.length)[i]?=some c->c≠.dead->i<vs.length/\c=.shr:=fun i c e hc=>by
  unfold j6 at e
  by_cases hi:i<vs.length
  ·rw[pA (by simpa using hi),pO,jNg hi]at e;exact⟨hi,(jYe e).symm⟩
  ·rw[rR (by simp;lia),pO]at e;split at e
   ·exact absurd (jYe e).symm hc
   ·cases e
 have no:∀i:Nat,(j6 N.length vs.length)[i]?≠some Cl.own:=fun i e=>by
  have:=(cls i _ e (by simp)).2;cases this
 refine⟨Same.refl H,?_,?_,Ls,fun i c e hc=>?_,fun i e=>absurd e (no i),fun i j c _ e=>absurd e (no i),pZ,fun a ha=>(nomatch ha),fun i c e hc a ha hm=>(nomatch hm)⟩
 ·unfold L2.start;rw[lp,tD,tJ,rJ];lia
 ·rw[lp,tD,tJ,rJ];lia
 ·obtain⟨hi,_⟩:=cls i c e hc;have hi':i<ds.length:=by lia
  obtain⟨v,e1,r1⟩:=hL i ds[i] (by simp[hi']);refine⟨v,ds[i],?_,?_,r1⟩
  ·unfold L2.start;rw[pA (by simpa using hi),sL,e1];rfl
  ·rw[pA (by simpa using hi'),sL];simp[hi']
section
variable {P:jNa}{w:World}{K:jJa}{mg:Str->Option Value}{base:Heap}{x:Str}{st:Stmt}{N ps:List Str}{k:Nat}{t:Tn->R Fl}{Γ':List Cl}
theorem DefIn.mir (Df:DefIn K mg x st ps)(S:FnScope N ps (defScope st))(hn:ps.length<=N.length)
  (hbody:∀(f:Addr) (cdv:Value) (A:jNb) (outer:List Env) (s:jNc) (H:Hp) (E:XK),Room k (A.deeper (envOfC x (defScope st) s.heap.objs.size f cdv)) ->
   MSs (yZ (cxx P w) P w K mg base N x (defScope st) f cdv A outer s H E) E [] (j6 N.length ps.length) (defBody st) t Γ'):Own P w K mg base x (k+1) ps (spM K (zC N.length t) ps.length):=by
 refine Df.own S (fun vs H Q E h=>h.1) fun f cdv A outer s H vs Q E hr h=>?_;obtain⟨hl,ds,L,r,h⟩:=h;obtain⟨ts,p,q⟩:=hbody f cdv A outer s H E hr;refine⟨ts,p,q H (start N vs) H _ _ (hl▸SOk.start r (by lia)) ?_⟩;unfold zC at h;cases ht:t (ds.map some++List.replicate (N.length-ds.length) none)with
 | ok f =>
  rw[ht]at h;cases f with
  | nx τ'=>exact fun σ' H' ok'=>h .non H' [] ok'.ext ⟨rfl,rfl⟩ RcOk.nil
  | rt d=>exact fun v H' L s r n1 n2=>h v H' L s r ⟨n1,n2⟩
  | bk τ'=>exact h.elim
  | ct τ'=>exact h.elim
 | err n=>rw[ht]at h;exact fun C H' e s=>h C H' e s
 | bad=>rw[ht]at h;exact h.elim
end
section
variable {X:Cx}{E:XK}{Γ Γ' Γl:List Cl}{x:Str}{k:Nat}{ps:List Str}{F:List D->R D}{e:Expr}{es:List Expr}{u:Tn->R (List D)}{c:Rc}{p pos:Pos}{n:Nat}
def z35 (O:Own X.prog X.w X.K X.mg X.base x k ps (spM X.K F n))(hr:Room k X.A)(hg:Gl X x)(hx:vj (cxx X.prog X.w) X E)(ha:MA X E Γ (e::es) u c)(hl:autoParam ((e::es).length=n) au3._auto_1)(hdb:autoParam (nDb x) au1._auto_1)
  (he:autoParam (jMj (e::es) X.env=(false,eval e X.env)::jMj es X.env) au3._auto_1) (hpl:autoParam ((jNd pos (jMj es X.env)).any (·.1)=false) au3._auto_1):ME X E Γ (.Call (.Name x p) (e::es) [] pos) (eL F u) .fresh:=by
 obtain⟨hlen,ta,pa,q⟩:=ha;refine⟨_,Kr O hr hg hx pa hdb he hpl,fun O' σ H τ Q ok h=>q O' σ H τ _ ok ?_⟩;unfold eL at h;cases hu:u τ with
 | ok ds =>
  rw[hu,jYa]at h;refine fun vs H1 L s1 r1 _=>?_;have hv:(vs++[]).length=n:=by rw[tI,r1.length,hlen τ ds hu];exact hl
  refine⟨hv,ds,L,by rw[tI];exact r1,?_⟩;have h1:=h.same s1;cases hF:F ds with
  | ok d=>rw[hF]at h1;exact h1
  | err n=>rw[hF]at h1;exact h1
  | bad=>rw[hF]at h1;exact h1
 | err n=>rw[hu]at h;exact h
 | bad=>rw[hu]at h;exact h
end
def D.isS:D->Bool
 | .non=>true
 | .bl _=>true
 | .int _=>true
 | .str _=>true
 | _=>false
def eqS:D->D->Bool
 | .non,.non=>true
 | .bl a,.bl b=>a==b
 | .bl a,.int b=>(if a then 1 else 0)==b
 | .int a,.bl b=>a==(if b then 1 else 0)
 | .int a,.int b=>a==b
 | .str a,.str b=>a==b
 | _,_=>false
def yn (f:D->D->Option Bool):List D->List D->Option Bool
 | x::xs,y::ys=>match f x y,yn f xs ys with
  | some a,some b=>some (a&&b)
  | _,_=>none
 | _,_=>some true
def uM {b:Bool}(h:(none:Option Bool)=some b):False:=by cases h
def eqF:Nat->D->D->Option Bool
 | 0,x,y=>if (x.isS&&y.isS)=true then some (eqS x y) else none
 | n+1,x,y=>match x,y with
  | .lst xs,.lst ys=>if xs.length=ys.length then yn (eqF n) xs ys else some false
  | .tup xs,.tup ys=>(yn (eqF n) xs ys).map fun b=>b&&xs.length==ys.length
  | .frl xs,.lst ys=>if xs.length=ys.length then yn (eqF n) xs ys else some false
  | .frl xs,.frl ys=>if xs.length=ys.length then yn (eqF n) xs ys else some false
  | .lst _,.tup _=>some false
  | .tup _,.lst _=>some false
  | .lst _,y=>if y.isS=true then some false else none
  | .tup _,y=>if y.isS=true then some false else none
  | x,.lst _=>if x.isS=true then some false else none
  | x,.tup _=>if x.isS=true then some false else none
  | x,y=>if (x.isS&&y.isS)=true then some (eqS x y) else none
def J1 {K:jJa}{H:Hp}{d:D}{v:V}{L:List Addr}{u:Value}(h:d.isS=true)(r:Rep K H d v L)(q:RelV v u):
  (d=.non/\u=.none)\/(∃b,d=.bl b/\u=.bool b)\/(∃i t,d=.int i/\u=.int i t)\/∃x t,d=.str x/\u=.str x t:=by
 cases d with
 | non=>obtain⟨rfl,_⟩:=r;exact .inl ⟨rfl,q⟩
 | bl b=>obtain⟨rfl,_⟩:=r;exact .inr (.inl ⟨b,rfl,q⟩)
 | int i=>obtain⟨rfl,_⟩:=r;obtain⟨t,e⟩:=q;exact .inr (.inr (.inl ⟨i,t,rfl,e⟩))
 | str x=>obtain⟨rfl,_⟩:=r;obtain⟨t,e⟩:=q;exact .inr (.inr (.inr ⟨x,t,rfl,e⟩))
 | _=>cases h
open SeqAt in
def Wo {A:jNb}{s:jNc}{K:jJa}{H:Hp}{d1 d2:D}{v1 v2:V}{L1 L2:List Addr}{u1 u2:Value}(h1:d1.isS=true)(h2:d2.isS=true)(r1:Rep K H d1 v1 L1)(r2:Rep K H d2 v2 L2)(q1:RelV v1 u1)(q2:RelV v2 u2):
  RcAt A s u1 u2 (eqS d1 d2)/\EqAt A s u1 u2 (eqS d1 d2)/\RcNeAt A s u1 u2 (!eqS d1 d2):=by
 rcases J1 h1 r1 q1 with⟨rfl,rfl⟩|⟨a,rfl,rfl⟩|⟨a,t,rfl,rfl⟩|⟨a,t,rfl,rfl⟩ <;>
 rcases J1 h2 r2 q2 with⟨rfl,rfl⟩|⟨b,rfl,rfl⟩|⟨b,t',rfl,rfl⟩|⟨b,t',rfl,rfl⟩
 ·exact⟨RcAt.none_none,EqAt.same _,RcNeAt.none_none⟩
 ·exact⟨RcAt.none_bool b,EqAt.none_bool b,RcNeAt.none_bool b⟩
 ·exact⟨RcAt.none_int b _,EqAt.none_int b _,RcNeAt.none_int b _⟩
 ·exact⟨RcAt.none_str b _,EqAt.none_str b _,RcNeAt.none_str b _⟩
 ·exact⟨RcAt.bool_none a,EqAt.bool_none a,RcNeAt.bool_none a⟩
 ·exact⟨RcAt.bool_bool a b,EqAt.bool_bool a b,RcNeAt.bool_bool a b⟩
 ·exact⟨RcAt.bool_int a b _,EqAt.bool_int a b _,RcNeAt.bool_int a b _⟩
 ·exact⟨RcAt.bool_str a b _,EqAt.bool_str a b _,RcNeAt.bool_str a b _⟩
 ·exact⟨RcAt.int_none a _,EqAt.int_none a _,RcNeAt.int_none a _⟩
 ·exact⟨RcAt.int_bool a _ b,EqAt.int_bool a _ b,RcNeAt.int_bool a _ b⟩
 ·exact⟨RcAt.int_int a _ b _,EqAt.int_int a _ b _,RcNeAt.int_int a _ b _⟩
 ·exact⟨RcAt.int_str a _ b _,EqAt.int_str a _ b _,RcNeAt.int_str a _ b _⟩
 ·exact⟨RcAt.str_none a _,EqAt.str_none a _,RcNeAt.str_none a _⟩
 ·exact⟨RcAt.str_bool a _ b,EqAt.str_bool a _ b,RcNeAt.str_bool a _ b⟩
 ·exact⟨RcAt.str_int a _ b _,EqAt.str_int a _ b _,RcNeAt.str_int a _ b _⟩
 ·exact⟨RcAt.str_str a _ b _,EqAt.str_str a _ b _,RcNeAt.str_str a _ b _⟩
open SeqAt in
def Vl {A:jNb}{s:jNc}{K:jJa}{H:Hp}{d:D}{v:V}{L:List Addr}{u:Value}{l:Addr}{items:Array Value}(hd:d.isS=true)(r:Rep K H d v L)(q:RelV v u)(hl:s.heap.IsList l items)(hu:A.units<cLine):
  (RcAt A s (.ref l) u false/\EqAt A s (.ref l) u false/\RcNeAt A s (.ref l) u true)/\RcAt A s u (.ref l) false/\EqAt A s u (.ref l) false/\RcNeAt A s u (.ref l) true:=by
 rcases J1 hd r q with⟨rfl,rfl⟩|⟨b,rfl,rfl⟩|⟨b,t',rfl,rfl⟩|⟨b,t',rfl,rfl⟩
 ·exact⟨⟨RcAt.list_none hl hu,EqAt.list_none hl hu,RcNeAt.list_none hl hu⟩,RcAt.none_list hl hu,EqAt.none_list hl hu,RcNeAt.none_list hl hu⟩
 ·exact⟨⟨RcAt.list_bool b hl hu,EqAt.list_bool b hl hu,RcNeAt.list_bool b hl hu⟩,RcAt.bool_list b hl hu,EqAt.bool_list b hl hu,RcNeAt.bool_list b hl hu⟩
 ·exact⟨⟨RcAt.list_int b _ hl hu,EqAt.list_int b _ hl hu,RcNeAt.list_int b _ hl hu⟩,RcAt.int_list b _ hl hu,EqAt.int_list b _ hl hu,RcNeAt.int_list b _ hl hu⟩
 ·exact⟨⟨RcAt.list_str b _ hl hu,EqAt.list_str b _ hl hu,RcNeAt.list_str b _ hl hu⟩,RcAt.str_list b _ hl hu,EqAt.str_list b _ hl hu,RcNeAt.str_list b _ hl hu⟩
open SeqAt in
def Vt {A:jNb}{s:jNc}{K:jJa}{H:Hp}{d:D}{v:V}{L:List Addr}{u:Value}{l:Addr}{items:Array Value}(hd:d.isS=true)(r:Rep K H d v L)(q:RelV v u)(hl:s.heap.IsTuple l items)(hu:A.units<cLine):
  (RcAt A s (.ref l) u false/\EqAt A s (.ref l) u false/\RcNeAt A s (.ref l) u true)/\RcAt A s u (.ref l) false/\EqAt A s u (.ref l) false/\RcNeAt A s u (.ref l) true:=by
 rcases J1 hd r q with⟨rfl,rfl⟩|⟨b,rfl,rfl⟩|⟨b,t',rfl,rfl⟩|⟨b,t',rfl,rfl⟩
 ·exact⟨⟨RcAt.tuple_none hl hu,EqAt.tuple_none hl hu,RcNeAt.tuple_none hl hu⟩,RcAt.none_tuple hl hu,EqAt.none_tuple hl hu,RcNeAt.none_tuple hl hu⟩
 ·exact⟨⟨RcAt.tuple_bool b hl hu,EqAt.tuple_bool b hl hu,RcNeAt.tuple_bool b hl hu⟩,RcAt.bool_tuple b hl hu,EqAt.bool_tuple b hl hu,RcNeAt.bool_tuple b hl hu⟩
 ·exact⟨⟨RcAt.tuple_int b _ hl hu,EqAt.tuple_int b _ hl hu,RcNeAt.tuple_int b _ hl hu⟩,RcAt.int_tuple b _ hl hu,EqAt.int_tuple b _ hl hu,RcNeAt.int_tuple b _ hl hu⟩
 ·exact⟨⟨RcAt.tuple_str b _ hl hu,EqAt.tuple_str b _ hl hu,RcNeAt.tuple_str b _ hl hu⟩,RcAt.str_tuple b _ hl hu,EqAt.str_tuple b _ hl hu,RcNeAt.str_tuple b _ hl hu⟩
def qk (f:D->D->Option Bool)(xs ys:List D)(j:Nat):Bool:=match xs[j]?,ys[j]? with
 | some x,some y=>(f x y).getD false
 | _,_=>true
theorem ka {f:D->D->Option Bool}:∀ {xs ys:List D} {b:Bool},yn f xs ys=some b->b=(List.range (min xs.length ys.length)).all (qk f xs ys)/\∀j x y,xs[j]?=some x->ys[j]?=some y->f x y=some (qk f xs ys j)
 | [],ys,b,h=>by
  unfold yn at h;cases h;exact⟨by simp,fun j x y e=>by simp at e⟩
 | x::xs,[],b,h=>by
  unfold yn at h;cases h;exact⟨by simp,fun j x y e e'=>by simp at e'⟩
 | x::xs,y::ys,b,h=>by
  unfold yn at h;cases h1:f x y with
  | none=>rw[h1]at h;cases h
  | some a =>
   cases h2:yn f xs ys with
   | none=>rw[h1,h2]at h;cases h
   | some b' =>
    rw[h1,h2]at h;cases h;obtain⟨e1,e2⟩:=ka h2;have z0:qk f (x::xs) (y::ys) 0=a:=by simp[qk,h1]
    have zs:∀j,qk f (x::xs) (y::ys) (j+1)=qk f xs ys j:=fun j=>by simp[qk]
    refine⟨?_,fun j x' y' ex ey=>?_⟩
    ·have hm:min (x::xs).length (y::ys).length=min xs.length ys.length+1:=by simp[Nat.succ_min_succ]
     rw[hm,List.range_succ_eq_map,rP,pE,z0,e1];congr 1
    ·cases j with
     | zero=>simp at ex ey;subst ex ey;rw[z0];exact h1
     | succ j=>rw[zs];exact e2 j x' y' (by simpa using ex) (by simpa using ey)
section
variable {X:Cx}{jNf:List (Addr×Obj)}{σ:St}{H:Hp}{s:jNc}
def D.ofV:V->D
 | .bl b=>.bl b
 | .int i=>.int i
 | .str x=>.str x
 | _=>.non
theorem Rep.ofV {K:jJa}{H:Hp}{d:D}{v:V}{L:List Addr}(h:∀a,v≠.ref a)(r:Rep K H d v L):d=D.ofV v:=by
 cases d with
 | non=>rw[r.1];rfl
 | bl=>rw[r.1];rfl
 | int=>rw[r.1];rfl
 | str=>rw[r.1];rfl
 | tup=>obtain⟨a,_,e,_⟩:=r;exact absurd e (h a)
 | lst=>obtain⟨a,_,_,e,_⟩:=r;exact absurd e (h a)
 | dic=>obtain⟨a,_,_,e,_⟩:=r;exact absurd e (h a)
 | frl=>obtain⟨a,_,e,_⟩:=r;exact absurd e (h a)
 | obj=>obtain⟨a,_,_,e,_⟩:=r;exact absurd e (h a)
theorem Rep.oneS {K:jJa}{H:Hp}{d d':D}{u v:V}{L L':List Addr}(e:v=u)(hs:∀a,u≠.ref a)(r:Rep K H d v L)(r':Rep K H d' v L'):d=d':=by
 subst e;exact (r.ofV hs).trans (r'.ofV hs).symm
theorem Rep.noS {K:jJa}{H:Hp}{d:D}{a:Addr}{L:List Addr}(r:Rep K H d (.ref a) L)(h:d.isS=true):False:=by
 cases d with
 | non=>cases r.1
 | bl=>cases r.1
 | int=>cases r.1
 | str=>cases r.1
 | _=>cases h
def Xx (I:Inv X jNf σ H s)(h:SqT X.K H a vs)(h':H a=some o)(n1:∀xs,o≠.tup xs)(n2:∀p xs,o≠.frz p (.tup xs)):False:=by
 rcases h with (z|⟨p,z⟩)|⟨o',its,n,hk,hc,_⟩
 ·rw[z]at h';exact n1 _ (jYe h').symm
 ·rw[z]at h';exact n2 _ _ (jYe h').symm
 ·have:=(I.bs a o' (I.mod.kin a o' hk)).2;rw[this]at h';cases h'
def Xs (I:Inv X jNf σ H s)(h:SqF X.K H a vs)(h':H a=some o)(n2:∀p xs,o≠.frz p (.lst xs)):False:=by
 rcases h with⟨p,z⟩|⟨o',its,n,hk,hc,_⟩
 ·rw[z]at h';exact n2 _ _ (jYe h').symm
 ·have:=(I.bs a o' (I.mod.kin a o' hk)).2;rw[this]at h';cases h'
def z3w (I:Inv X jNf σ H s)(h':SqT X.K H a ws)(h:SqF X.K H a vs):False:=by
 obtain⟨its,_,⟨o1,n1,e1,c1,_⟩,_⟩:=I.list h.sq;obtain⟨its2,_,⟨o2,e2,c2,_⟩,_⟩:=I.tuple h';rw[e1]at e2;cases e2;rw[c1]at c2;exact absurd c2 (by simp)
def z3V {a:Addr}{xs:List V}{kvs:List (Key×V)}{H:Hp}(h:H a=some (.lst xs))(h':H a=some (.dK kvs)):False:=by
 rw[h]at h';cases h'
mutual
theorem Rep.one (I:Inv X jNf σ H s):∀(d d':D) (v:V) (L L':List Addr),Rep X.K H d v L->Rep X.K H d' v L'->d=d'
 | .non,_,_,_,_,r,r'=>Rep.oneS r.1 (fun _ z=>V.noConfusion z) r r'
 | .bl _,_,_,_,_,r,r'=>Rep.oneS r.1 (fun _ z=>V.noConfusion z) r r'
 | .int _,_,_,_,_,r,r'=>Rep.oneS r.1 (fun _ z=>V.noConfusion z) r r'
 | .str _,_,_,_,_,r,r'=>Rep.oneS r.1 (fun _ z=>V.noConfusion z) r r'
 | .tup ds,d',_,L,L',hq5,r=>by
  obtain⟨a,vs,e,h,rs⟩:=hq5;subst e;cases d' with
  | non=>exact (Rep.noS r rfl).elim
  | bl _=>exact (Rep.noS r rfl).elim
  | int _=>exact (Rep.noS r rfl).elim
  | str _=>exact (Rep.noS r rfl).elim
  | tup ds' =>
   obtain⟨a',vs',e,h',rs'⟩:=r;cases e;cases I.tuple_inj h h';rw[Reps.one I ds ds' vs L L' rs rs']
  | lst _ =>
   obtain⟨_,_,_,e,h',_⟩:=r;cases e;exact (Xx I h h' (fun _ z=>HO.noConfusion z) fun _ _ z=>HO.noConfusion z).elim
  | dic _ _ =>
   obtain⟨_,_,_,e,h',_⟩:=r;cases e;exact (Xx I h h' (fun _ z=>HO.noConfusion z) fun _ _ z=>HO.noConfusion z).elim
  | frl _ =>
   obtain⟨_,_,e,h',_⟩:=r;cases e;exact (z3w I h h').elim
  | obj _ _ _ =>
   obtain⟨_,_,_,e,h',_⟩:=r;cases e;exact (Xx I h h' (fun _ z=>HO.noConfusion z) fun _ _ z=>HO.noConfusion z).elim
 | .lst ds,d',_,L,L',hq5,r=>by
  obtain⟨a,vs,L1,e,h,_,rs⟩:=hq5;subst e;cases d' with
  | non=>exact (Rep.noS r rfl).elim
  | bl _=>exact (Rep.noS r rfl).elim
  | int _=>exact (Rep.noS r rfl).elim
  | str _=>exact (Rep.noS r rfl).elim
  | tup ds' =>
   obtain⟨a',vs',e,h',rs'⟩:=r;cases e;exact (Xx I h' h (fun _ z=>HO.noConfusion z) fun _ _ z=>HO.noConfusion z).elim
  | lst ds' =>
   obtain⟨_,_,_,e,h',_,rs'⟩:=r;cases e;rw[h]at h';cases h';rw[Reps.one I ds ds' vs _ _ rs rs']
  | dic _ _ =>
   obtain⟨_,_,_,e,h',_⟩:=r;cases e;exact (z3V h h').elim
  | frl _ =>
   obtain⟨_,_,e,h',_⟩:=r;cases e;exact (Xs I h' h fun _ _ z=>HO.noConfusion z).elim
  | obj _ _ _ =>
   obtain⟨_,_,_,e,h',_⟩:=r;cases e;rw[h]at h';cases h'
 | .dic ks ds,d',_,L,L',hq5,r=>by
  obtain⟨a,kvs,L1,e,h,_,hk,_,rs⟩:=hq5;subst e;cases d' with
  | non=>exact (Rep.noS r rfl).elim
  | bl _=>exact (Rep.noS r rfl).elim
  | int _=>exact (Rep.noS r rfl).elim
  | str _=>exact (Rep.noS r rfl).elim
  | tup ds' =>
   obtain⟨a',vs',e,h',rs'⟩:=r;cases e;exact (Xx I h' h (fun _ z=>HO.noConfusion z) fun _ _ z=>HO.noConfusion z).elim
  | lst ds' =>
   obtain⟨_,_,_,e,h',_,rs'⟩:=r;cases e;exact (z3V h' h).elim
  | dic ks' ds' =>
   obtain⟨_,_,_,e,h',_,hk',_,rs'⟩:=r;cases e;rw[h]at h';cases h';rw[<-hk,<-hk',Reps.one I ds ds' _ _ _ rs rs']
  | frl _ =>
   obtain⟨_,_,e,h',_⟩:=r;cases e;exact (Xs I h' h fun _ _ z=>HO.noConfusion z).elim
  | obj _ _ _ =>
   obtain⟨_,_,_,e,h',_⟩:=r;cases e;rw[h]at h';cases h'
 | .frl ds,d',_,L,L',hq5,r=>by
  obtain⟨a,vs,e,h,_,_,rs⟩:=hq5;subst e;cases d' with
  | non=>exact (Rep.noS r rfl).elim
  | bl _=>exact (Rep.noS r rfl).elim
  | int _=>exact (Rep.noS r rfl).elim
  | str _=>exact (Rep.noS r rfl).elim
  | tup ds' =>
   obtain⟨a',vs',e,h',rs'⟩:=r;cases e;exact (z3w I h' h).elim
  | lst ds' =>
   obtain⟨_,_,_,e,h',_,rs'⟩:=r;cases e;exact (Xs I h h' fun _ _ z=>HO.noConfusion z).elim
  | dic ks' ds' =>
   obtain⟨_,_,_,e,h',_,hk',_,rs'⟩:=r;cases e;exact (Xs I h h' fun _ _ z=>HO.noConfusion z).elim
  | frl ds' =>
   obtain⟨_,_,e,h',_,_,rs'⟩:=r;cases e;have:=I.list_inj h.sq h'.sq;subst this;rw[Reps.one I ds ds' vs _ _ rs rs']
  | obj _ _ _ =>
   obtain⟨_,_,_,e,h',_⟩:=r;cases e;exact (Xs I h h' fun _ _ z=>HO.noConfusion z).elim
 | .obj C ns ds,d',_,L,L',hq5,r=>by
  obtain⟨a,dx,fs,e,h,hk,rs⟩:=hq5;subst e;cases d' with
  | non=>exact (Rep.noS r rfl).elim
  | bl _=>exact (Rep.noS r rfl).elim
  | int _=>exact (Rep.noS r rfl).elim
  | str _=>exact (Rep.noS r rfl).elim
  | tup ds' =>
   obtain⟨a',vs',e,h',rs'⟩:=r;cases e;exact (Xx I h' h (fun _ z=>HO.noConfusion z) fun _ _ z=>HO.noConfusion z).elim
  | lst ds' =>
   obtain⟨_,_,_,e,h',_,rs'⟩:=r;cases e;rw[h]at h';cases h'
  | dic ks' ds' =>
   obtain⟨_,_,_,e,h',_,hk',_,rs'⟩:=r;cases e;rw[h]at h';cases h'
  | frl ds' =>
   obtain⟨_,_,e,h',_,_,rs'⟩:=r;cases e;exact (Xs I h' h fun _ _ z=>HO.noConfusion z).elim
  | obj C' ns' ds' =>
   obtain⟨_,_,_,e,h',hk',rs'⟩:=r;cases e;rw[h]at h';cases h';rw[<-hk,<-hk',Reps.one I ds ds' _ _ _ rs rs']
theorem Reps.one (I:Inv X jNf σ H s):∀(ds ds':List D) (vs:List V) (L L':List Addr),Reps X.K H ds vs L->Reps X.K H ds' vs L'->ds=ds'
 | [],ds',_,_,_,hq5,r=>by
  obtain⟨e,_⟩:=hq5;subst e;cases ds' with
  | nil=>rfl
  | cons _ _=>obtain⟨_,_,_,_,e,_⟩:=r;cases e
 | d::ds,ds',_,_,_,hq5,r=>by
  obtain⟨v,vs',L1,L2,e1,_,h1,h2⟩:=hq5;subst e1;cases ds' with
  | nil=>obtain⟨e,_⟩:=r;cases e
  | cons d' ds' =>
   obtain⟨v',vs2,L3,L4,e,_,r1,r2⟩:=r;cases e;rw[Rep.one I d d' v _ _ h1 r1,Reps.one I ds ds' vs' _ _ h2 r2]
end
end
def z05:∀(d:D),d.isS=true->eqS d d=true
 | .non,_=>rfl
 | .bl b,_=>beq_self_eq_true b
 | .int b,_=>beq_self_eq_true b
 | .str b,_=>beq_self_eq_true b
 | .tup _,h=>nomatch h
 | .lst _,h=>nomatch h
 | .dic _ _,h=>nomatch h
 | .frl _,h=>nomatch h
 | .obj _ _ _,h=>nomatch h
def z0K:∀(n:Nat) (d:D) (b:Bool),eqF n d d=some b->b=true:=by
 intro n
 induction n with
 | zero =>
  intro d b h
  replace h:(if (d.isS&&d.isS)=true then some (eqS d d) else none)=some b:=h
  split at h
  ·rename_i hs;simp only[Bool.and_self]at hs;rw[z05 d hs]at h;exact (jYe h).symm
  ·cases h
 | succ n ih =>
  have zip:∀(xs:List D) (b:Bool),yn (eqF n) xs xs=some b->b=true:=by
   intro xs
   induction xs with
   | nil=>intro b h;unfold yn at h;exact (jYe h).symm
   | cons x xs ihx =>
    intro b h;unfold yn at h;cases h1:eqF n x x with
    | none=>rw[h1]at h;cases h
    | some a =>
     cases h2:yn (eqF n) xs xs with
     | none=>rw[h1,h2]at h;cases h
     | some b' =>
      rw[h1,h2]at h;cases h;rw[ih x a h1,ihx b' h2];rfl
  intro d b h;cases d with
  | lst xs =>
   have h:(if xs.length=xs.length then yn (eqF n) xs xs else some false)=some b:=h;rw[jNg rfl]at h;exact zip xs b h
  | tup xs =>
   have h:(yn (eqF n) xs xs).map (fun b=>b&&xs.length==xs.length)=some b:=h;cases h1:yn (eqF n) xs xs with
   | none=>rw[h1]at h;cases h
   | some b'=>rw[h1]at h;rw[zip xs b' h1]at h;simp at h;exact h.symm▸rfl
  | non=>have h:some true=some b:=h;exact (jYe h).symm
  | bl x=>have h:some (x==x)=some b:=h;exact (jYe h).symm.trans (beq_self_eq_true x)
  | int x=>have h:some (x==x)=some b:=h;exact (jYe h).symm.trans (beq_self_eq_true x)
  | str x=>have h:some (x==x)=some b:=h;exact (jYe h).symm.trans (beq_self_eq_true x)
  | dic _ _=>cases h
  | obj _ _ _=>cases h
  | frl xs =>
   have h:(if xs.length=xs.length then yn (eqF n) xs xs else some false)=some b:=h;rw[jNg rfl]at h;exact zip xs b h
open SeqAt in
def YQ {b:Bool}(h:RcAt A s (.ref a) (.ref a') b)(hs:a=a'->b=true):EqAt A s (.ref a) (.ref a') b:=by
 by_cases z:a=a'
 ·subst z;rw[hs rfl];exact EqAt.same _
 ·exact EqAt.of_refs z h
open SeqAt in
def ZI (I:Inv X jNf σ H s){n:Nat}{A:jNb}(hu0:A.units<cLine)
  (ih:∀(d1 d2:D) (v1 v2:V) (L1 L2:List Addr) (u1 u2:Value) (b:Bool),eqF n d1 d2=some b->Rep X.K H d1 v1 L1->Rep X.K H d2 v2 L2->RelV v1 u1->RelV v2 u2->EqAt A.in1 s u1 u2 b)
  {a a2:Addr} {vs vs2:List V} {xs ys:List D} {L L2:List Addr} {b:Bool} (ha:SqL X.K H a vs) (rs:Reps X.K H xs vs L) (ha2:SqL X.K H a2 vs2) (rs2:Reps X.K H ys vs2 L2)
  (h:(if xs.length=ys.length then yn (eqF n) xs ys else some false)=some b) (same:a=a2->b=true):RcAt A s (.ref a) (.ref a2) b/\EqAt A s (.ref a) (.ref a2) b/\RcNeAt A s (.ref a) (.ref a2) (!b):=by
 obtain⟨its,rv,pl,_⟩:=I.list ha;obtain⟨its2,rv2,pl2,_⟩:=I.list ha2;have l1:its.length=xs.length:=by rw[<-rv.length,rs.length]
 have l2:its2.length=ys.length:=by rw[<-rv2.length,rs2.length]
 by_cases hl:xs.length=ys.length
 ·rw[jNg hl]at h;obtain⟨e1,e2⟩:=ka h;have he:∀j (h1:j<its.toArray.size) (h2:j<its2.toArray.size),EqAt A.in1 s its.toArray[j] its2.toArray[j] (qk (eqF n) xs ys j):=fun j h1 h2=>by
   have h1':j<xs.length:=by simpa [l1] using h1
   have h2':j<ys.length:=by simpa [l2] using h2
   obtain⟨w1,L3,g1,g2,_⟩:=rs.get (i:=j) (d:=xs[j]) (by simp[h1']);obtain⟨w2,L4,g3,g4,_⟩:=rs2.get (i:=j) (d:=ys[j]) (by simp[h2']);obtain⟨z1,k1,k2⟩:=rv.get g1;obtain⟨z2,k3,k4⟩:=rv2.get g3;have m1:its.toArray[j]=z1:=by
    have:=(tN.mp k1).2
    simpa using this
   have m2:its2.toArray[j]=z2:=by
    have:=(tN.mp k3).2
    simpa using this
   rw[m1,m2];exact ih _ _ w1 w2 L3 L4 z1 z2 _ (e2 j _ _ (by simp[h1']) (by simp[h2'])) g2 g4 k2 k4
  have hsz:its.toArray.size=its2.toArray.size:=by simp[l1,l2,hl]
  have eb:b=(List.range its.toArray.size).all (qk (eqF n) xs ys):=by
   rw[e1];congr 2;simp[l1,hl]
  have rc:=RcAt.lists pl.isList pl2.isList hsz hu0 he;have rn:=RcNeAt.lists pl.isList pl2.isList hsz hu0 he;rw[<-eb]at rc rn;exact⟨rc,YQ rc same,rn⟩
 ·rw[jNh hl]at h;cases h;have hsz:(its.toArray.size != its2.toArray.size)=true:=by simp[l1,l2,hl]
  have rc:=RcAt.lists_lengths pl.isList pl2.isList hsz hu0;exact⟨rc,YQ rc same,RcNeAt.lists_lengths pl.isList pl2.isList hsz hu0⟩
open SeqAt in
def z44 {X:Cx}{jNf:List (Addr×Obj)}{σ:St}{H:Hp}{s:jNc}(I:Inv X jNf σ H s):∀(n:Nat) (A:jNb) (d1 d2:D) (v1 v2:V) (L1 L2:List Addr) (u1 u2:Value) (b:Bool),A.units+n<cLine->eqF n d1 d2=some b ->
  Rep X.K H d1 v1 L1->Rep X.K H d2 v2 L2->RelV v1 u1->RelV v2 u2->RcAt A s u1 u2 b/\EqAt A s u1 u2 b/\RcNeAt A s u1 u2 (!b):=by
 intro n
 induction n with
 | zero =>
  intro A d1 d2 v1 v2 L1 L2 u1 u2 b hu h r1 r2 q1 q2;have h:(if (d1.isS&&d2.isS)=true then some (eqS d1 d2) else none)=some b:=h;split at h
  ·rename_i hs;rw[sR]at hs;cases h;exact Wo hs.1 hs.2 r1 r2 q1 q2
  ·cases h
 | succ n ih =>
  intro A d1 d2 v1 v2 L1 L2 u1 u2 b hu h r1 r2 q1 q2;have hu0:A.units<cLine:=by lia
  have hu1:A.in1.units+n<cLine:=by show A.units+1+n<cLine;lia
  have same:∀a,v1=.ref a->v2=.ref a->b=true:=fun a e1 e2=>by
   subst e1 e2;have:=Rep.one I d1 d2 _ _ _ r1 r2;subst this;exact z0K (n+1) d1 b h
  by_cases s1:d1.isS=true
  ·by_cases s2:d2.isS=true
   ·have e:b=eqS d1 d2:=by
     cases d1<;>first|exact absurd s1 tO|(cases d2<;>first|exact absurd s2 tO|exact (jYe h).symm)
    subst e;exact Wo s1 s2 r1 r2 q1 q2
   ·cases d2 with
    | lst ys =>
     have e:b=false:=by cases d1<;>first|exact absurd s1 tO|exact (jYe h).symm
     subst e;obtain⟨a,vs,L',e2,ha,_,rs⟩:=r2;have q2:u2=Value.ref a:=by rw[e2]at q2;exact q2
     rw[q2];obtain⟨its,rv,pl,_⟩:=I.list (SqL.of ha);exact (Vl s1 r1 q1 pl.isList hu0).2
    | tup ys =>
     have e:b=false:=by cases d1<;>first|exact absurd s1 tO|exact (jYe h).symm
     subst e;obtain⟨a,vs,e2,ha,rs⟩:=r2;have q2:u2=Value.ref a:=by rw[e2]at q2;exact q2
     rw[q2];obtain⟨its,rv,pl,_⟩:=I.tuple ha;exact (Vt s1 r1 q1 pl hu0).2
    | dic _ _=>cases d1<;>first | exact absurd s1 tO | exact (uM (b:=b) h).elim
    | frl _=>cases d1<;>first | exact absurd s1 tO | exact (uM (b:=b) h).elim
    | obj _ _ _=>cases d1<;>first | exact absurd s1 tO | exact (uM (b:=b) h).elim
    | _=>exact absurd rfl s2
  ·cases d1 with
   | lst xs =>
    obtain⟨a,vs,L',e1,ha,_,rs⟩:=r1;have q1:u1=Value.ref a:=by rw[e1]at q1;exact q1
    rw[q1];obtain⟨its,rv,pl,_⟩:=I.list (SqL.of ha);cases d2 with
    | lst ys =>
     obtain⟨a2,vs2,L2',e2,ha2,_,rs2⟩:=r2;have q2:u2=Value.ref a2:=by rw[e2]at q2;exact q2
     rw[q2];exact ZI I hu0 (fun d1 d2 v1 v2 L1 L2 u1 u2 b e r1 r2 q1 q2=>(ih A.in1 d1 d2 v1 v2 L1 L2 u1 u2 b hu1 e r1 r2 q1 q2).2.1) (SqL.of ha) rs (SqL.of ha2) rs2 h fun z=>same a e1 (by rw[z];exact e2)
    | tup ys =>
     obtain⟨a2,vs2,e2,ha2,rs2⟩:=r2;have q2:u2=Value.ref a2:=by rw[e2]at q2;exact q2
     rw[q2];obtain⟨its2,rv2,pl2,_⟩:=I.tuple ha2;cases (jYe (show some false=some b from h));exact⟨RcAt.list_tuple pl.isList pl2 hu0,EqAt.list_tuple pl.isList pl2 hu0,RcNeAt.list_tuple pl.isList pl2 hu0⟩
    | dic _ _=>exact (uM (b:=b) h).elim
    | frl _=>exact (uM (b:=b) h).elim
    | obj _ _ _=>exact (uM (b:=b) h).elim
    | non=>cases (jYe (show some false=some b from h));exact (Vl (d:=.non) rfl r2 q2 pl.isList hu0).1
    | bl x=>cases (jYe (show some false=some b from h));exact (Vl (d:=.bl x) rfl r2 q2 pl.isList hu0).1
    | int x=>cases (jYe (show some false=some b from h));exact (Vl (d:=.int x) rfl r2 q2 pl.isList hu0).1
    | str x=>cases (jYe (show some false=some b from h));exact (Vl (d:=.str x) rfl r2 q2 pl.isList hu0).1
   | tup xs =>
    obtain⟨a,vs,e1,ha,rs⟩:=r1;have q1:u1=Value.ref a:=by rw[e1]at q1;exact q1
    rw[q1];obtain⟨its,rv,pl,_⟩:=I.tuple ha;cases d2 with
    | tup ys =>
     obtain⟨a2,vs2,e2,ha2,rs2⟩:=r2;have q2:u2=Value.ref a2:=by rw[e2]at q2;exact q2
     rw[q2];obtain⟨its2,rv2,pl2,_⟩:=I.tuple ha2;have h:(yn (eqF n) xs ys).map (fun b=>b&&xs.length==ys.length)=some b:=h;have l1:its.length=xs.length:=by rw[<-rv.length,rs.length]
     have l2:its2.length=ys.length:=by rw[<-rv2.length,rs2.length]
     cases hz:yn (eqF n) xs ys with
     | none=>rw[hz]at h;cases h
     | some b' =>
      rw[hz]at h;have h:(b'&&xs.length==ys.length)=b:=jYe h;have e1':=e1;have e2':=e2;obtain⟨e1,e2⟩:=ka hz;have he:∀j (h1:j<its.toArray.size) (h2:j<its2.toArray.size),EqAt A.in1 s its.toArray[j] its2.toArray[j] (qk (eqF n) xs ys j):=fun j h1 h2=>by
       have h1':j<xs.length:=by simpa [l1] using h1
       have h2':j<ys.length:=by simpa [l2] using h2
       obtain⟨w1,L3,g1,g2,_⟩:=rs.get (i:=j) (d:=xs[j]) (by simp[h1']);obtain⟨w2,L4,g3,g4,_⟩:=rs2.get (i:=j) (d:=ys[j]) (by simp[h2']);obtain⟨z1,k1,k2⟩:=rv.get g1;obtain⟨z2,k3,k4⟩:=rv2.get g3;have m1:its.toArray[j]=z1:=by
        have:=(tN.mp k1).2
        simpa using this
       have m2:its2.toArray[j]=z2:=by
        have:=(tN.mp k3).2
        simpa using this
       rw[m1,m2];exact (ih A.in1 _ _ w1 w2 L3 L4 z1 z2 _ hu1 (e2 j _ _ (by simp[h1']) (by simp[h2'])) g2 g4 k2 k4).2.1
      have eb:b=((List.range (min its.toArray.size its2.toArray.size)).all (qk (eqF n) xs ys)&&its.toArray.size==its2.toArray.size):=by
       rw[<-h,e1];simp[l1,l2]
      have rc:=RcAt.tuples pl pl2 hu0 he;have rn:=RcNeAt.tuples pl pl2 hu0 he;rw[<-eb]at rc rn;exact⟨rc,YQ rc fun z=>same a e1' (by rw[z];exact e2'),rn⟩
    | lst ys =>
     obtain⟨a2,vs2,L2',e2,ha2,_,rs2⟩:=r2;have q2:u2=Value.ref a2:=by rw[e2]at q2;exact q2
     rw[q2];obtain⟨its2,rv2,pl2,_⟩:=I.list (SqL.of ha2);cases (jYe (show some false=some b from h));exact⟨RcAt.tuple_list pl pl2.isList hu0,EqAt.tuple_list pl pl2.isList hu0,RcNeAt.tuple_list pl pl2.isList hu0⟩
    | dic _ _=>exact (uM (b:=b) h).elim
    | frl _=>exact (uM (b:=b) h).elim
    | obj _ _ _=>exact (uM (b:=b) h).elim
    | non=>cases (jYe (show some false=some b from h));exact (Vt (d:=.non) rfl r2 q2 pl hu0).1
    | bl x=>cases (jYe (show some false=some b from h));exact (Vt (d:=.bl x) rfl r2 q2 pl hu0).1
    | int x=>cases (jYe (show some false=some b from h));exact (Vt (d:=.int x) rfl r2 q2 pl hu0).1
    | str x=>cases (jYe (show some false=some b from h));exact (Vt (d:=.str x) rfl r2 q2 pl hu0).1
   | dic _ _=>cases d2<;>exact (uM (b:=b) h).elim
   | obj _ _ _=>cases d2<;>exact (uM (b:=b) h).elim
   | frl xs =>
    cases d2 with
    | lst ys =>
     obtain⟨a,vs,e1,ha,_,_,rs⟩:=r1;have q1:u1=Value.ref a:=by rw[e1]at q1;exact q1
     rw[q1];obtain⟨a2,vs2,L2',e2,ha2,_,rs2⟩:=r2;have q2:u2=Value.ref a2:=by rw[e2]at q2;exact q2
     rw[q2];exact ZI I hu0 (fun d1 d2 v1 v2 L1 L2 u1 u2 b e r1 r2 q1 q2=>(ih A.in1 d1 d2 v1 v2 L1 L2 u1 u2 b hu1 e r1 r2 q1 q2).2.1) ha.sq rs (SqL.of ha2) rs2 h fun z=>same a e1 (by rw[z];exact e2)
    | tup ys=>exact (uM (b:=b) h).elim
    | dic _ _=>exact (uM (b:=b) h).elim
    | obj _ _ _=>exact (uM (b:=b) h).elim
    | frl ys =>
     obtain⟨a,vs,e1,ha,_,_,rs⟩:=r1;have q1:u1=Value.ref a:=by rw[e1]at q1;exact q1
     rw[q1];obtain⟨a2,vs2,e2,ha2,_,_,rs2⟩:=r2;have q2:u2=Value.ref a2:=by rw[e2]at q2;exact q2
     rw[q2];exact ZI I hu0 (fun d1 d2 v1 v2 L1 L2 u1 u2 b e r1 r2 q1 q2=>(ih A.in1 d1 d2 v1 v2 L1 L2 u1 u2 b hu1 e r1 r2 q1 q2).2.1) ha.sq rs ha2.sq rs2 h fun z=>same a e1 (by rw[z];exact e2)
    | non=>exact (uM (b:=b) h).elim
    | bl x=>exact (uM (b:=b) h).elim
    | int x=>exact (uM (b:=b) h).elim
    | str x=>exact (uM (b:=b) h).elim
   | _=>exact absurd rfl s1
def xh {K:jJa}{H:Hp}{ds:List D}{vs:List V}{L:List Addr}(r:Reps K H ds vs L)(h:D.imms ds=true):Reps K H ds vs []:=by
 have:=Reps.imm ds vs L r h;subst this;exact r
def ji {K:jJa}{H:Hp}{ds:List D}{vs:List V}{p:Addr}{Q:VK}(r:Reps K H ds vs [])(hp:H p=none)(q:∀v H' L,Same H H'->Rep K H' (.lst ds) v L->L.Nodup->(∀a∈L,H a=none)->Q v H'):Q (.ref p) (upd H p (.lst vs)):=
 q _ _ [p] (Same.new hp) ⟨p,vs,[],rfl,zz,rfl,r.same (Same.new hp)⟩ (by simp) (fun a ha=>by rw[sG.mp ha];exact hp)
def zB:D->D->R D
 | .int i,.int j=>.ok (.int (i+j))
 | .str x,.str y=>if x.length+y.length<=jMi then .ok (.str (x++y)) else .bad
 | .lst xs,.lst ys=>if D.imms xs=true/\D.imms ys=true/\xs.length+ys.length<=jMi then .ok (.lst (xs++ys)) else .bad
 | .tup xs,.tup ys=>if D.imms xs=true/\D.imms ys=true/\xs≠[]/\xs.length+ys.length<=jMi then .ok (.tup (xs++ys)) else .bad
 | _,_=>.bad
def z3B (K:jJa):R2:=fun x y H Q=>(∃i j,x=.int i/\y=.int j/\Q (.int (i+j)) H)\/(∃i j,x=.str i/\y=.str j/\i.length+j.length<=jMi/\Q (.str (i++j)) H)\/z6X x y H Q\/z3M K x y H Q
def z1K:OpR X (binaryOp .Add) (z3B X.K):=(OpR.or z4d (OpR.or Q6 (OpR.or z52 z3d)))
def z7X {K:jJa}:OpB K (z3B K) zB:=by
 rintro H x y dx dy Lx Ly Q rx ry ⟨d,hg,q⟩;unfold zB at hg;split at hg
 ·cases hg;exact .inl ⟨_,_,rx.1,ry.1,q _ H [] (Same.refl H) ⟨rfl,rfl⟩ (by simp) (fun a ha=>nomatch ha)⟩
 ·split at hg
  ·rename_i hz;cases hg;exact .inr (.inl ⟨_,_,rx.1,ry.1,hz,q _ H [] (Same.refl H) ⟨rfl,rfl⟩ (by simp) (fun a ha=>nomatch ha)⟩)
  ·cases hg
 ·rename_i xs ys;split at hg
  ·rename_i hz;cases hg;obtain⟨a,vs,L1,rfl,ha,_,rs⟩:=rx;obtain⟨b,ws,L2,rfl,hb,_,qs⟩:=ry;refine .inr (.inr (.inl ⟨a,b,vs,ws,rfl,rfl,ha,hb,by rw[rs.length,qs.length];exact hz.2.2,fun p hp=>ji (ds:=xs++ys) ?_ hp q⟩));exact Reps.append (xh rs hz.1) (xh qs hz.2.1)
  ·cases hg
 ·rename_i xs ys;split at hg
  ·rename_i hz;cases hg;obtain⟨a,vs,rfl,ha,rs⟩:=rx;obtain⟨b,ws,rfl,hb,qs⟩:=ry;have hne:vs≠[]:=fun z=>hz.2.2.1 (by have:=rs.length;rw[z]at this;exact pD.mp this.symm);have rr:=Reps.append (xh rs hz.1) (xh qs hz.2.1);refine .inr (.inr (.inr ⟨a,b,vs,ws,rfl,rfl,ha,hb,hne,by rw[rs.length,qs.length];exact hz.2.2.2,fun z=>?_,fun _ p hp=>?_⟩))
   ·subst z;rw[tI]at rr;exact q _ H [] (Same.refl H) ⟨a,vs,rfl,ha,rr⟩ (by simp) (fun a ha=>nomatch ha)
   ·exact q _ _ [] (Same.new hp) ⟨p,vs++ws,rfl,SqT.of zz,rr.same (Same.new hp)⟩ (by simp) (fun a ha=>nomatch ha)
  ·cases hg
 ·cases hg
def z6d:x8 zB:=fun x y n h=>by
 unfold zB at h;split at h
 ·cases h
 ·split at h<;>cases h
 ·split at h<;>cases h
 ·split at h<;>cases h
 ·cases h
def intD (C:Int->Int->Bool)(g:Int->Int->D):D->D->R D
 | .int i,.int j=>if C i j=true then .ok (g i j) else .bad
 | _,_=>.bad
def zI {C:Int->Int->Bool}{g:Int->Int->D}:x8 (intD C g):=fun x y n h=>by
 unfold intD at h;split at h
 ·split at h<;>cases h
 ·cases h
def z5U:D->V
 | .int i=>.int i
 | .bl b=>.bl b
 | .str x=>.str x
 | _=>.non
def VD {K:jJa}{H:Hp}:∀ {d:D},d.isS=true->Rep K H d (z5U d) []
 | .non,_=>⟨rfl,rfl⟩
 | .bl _,_=>⟨rfl,rfl⟩
 | .int _,_=>⟨rfl,rfl⟩
 | .str _,_=>⟨rfl,rfl⟩
 | .tup _,h=>nomatch h
 | .lst _,h=>nomatch h
 | .dic _ _,h=>nomatch h
 | .frl _,h=>nomatch h
 | .obj _ _ _,h=>nomatch h
def z3N {K:jJa}{C:Int->Int->Bool}{g:Int->Int->D}{P:Int->Int->Prop}{gv:Int->Int->V}(hP:∀i j,C i j=true->P i j)(hs:∀i j,(g i j).isS=true)(hv:∀i j,z5U (g i j)=gv i j):OpB K (rI P gv) (intD C g):=by
 rintro H x y dx dy Lx Ly Q rx ry ⟨d,hg,q⟩;unfold intD at hg;split at hg
 ·split at hg
  ·rename_i i j hz;cases hg;refine⟨i,j,rx.1,ry.1,hP i j hz,?_⟩;rw[<-hv];exact q _ H [] (Same.refl H) (VD (hs i j)) (by simp) (fun a ha=>nomatch ha)
  ·cases hg
 ·cases hg
def ZH {K:jJa}{g:Int->Int->D}{gv:Int->Int->V}(hs:∀i j,(g i j).isS=true)(hv:∀i j,z5U (g i j)=gv i j):OpB K (rI0 gv) (intD (fun _ _=>true) g):=by
 rintro H x y dx dy Lx Ly Q rx ry ⟨d,hg,q⟩;unfold intD at hg;split at hg
 ·rw[jNg rfl]at hg;rename_i i j;cases hg;refine⟨i,j,rx.1,ry.1,?_⟩;rw[<-hv];exact q _ H [] (Same.refl H) (VD (hs i j)) (by simp) (fun a ha=>nomatch ha)
 ·cases hg
abbrev Zn:D->D->R D:=intD (fun _ _=>true) fun i j=>.int (i-j)
abbrev y9:D->D->R D:=intD (fun _ j=>decide (0<j)&&decide (j<1073741824)) fun i j=>.int (i/j)
abbrev yj:D->D->R D:=intD (fun _ j=>decide (0<j)) fun i j=>.int (i%j)
abbrev ltD:D->D->R D:=intD (fun _ _=>true) fun i j=>.bl (decide (i<j))
abbrev leD:D->D->R D:=intD (fun _ _=>true) fun i j=>.bl (decide (i<=j))
abbrev gtD:D->D->R D:=intD (fun _ _=>true) fun i j=>.bl (decide (j<i))
abbrev geD:D->D->R D:=intD (fun _ _=>true) fun i j=>.bl (decide (j<=i))
def z7B {K:jJa}:OpB K (rI0 fun i j=>.int (i-j)) Zn:=ZH (fun _ _=>rfl) fun _ _=>rfl
def z4D {K:jJa}:OpB K (rI z6R fun i j=>.int (i/j)) y9:=z3N (fun i j h=>by simp only[sR,decide_eq_true_eq]at h;exact h) (fun _ _=>rfl) fun _ _=>rfl
def z6q {K:jJa}:OpB K (rI (fun _ j=>0<j) fun i j=>.int (i%j)) yj:=z3N (fun i j h=>by simpa using h) (fun _ _=>rfl) fun _ _=>rfl
def uS {K:jJa}:OpB K (rI0 fun i j=>.bl (decide (i<j))) ltD:=ZH (fun _ _=>rfl) fun _ _=>rfl
def vD {K:jJa}:OpB K (rI0 fun i j=>.bl (decide (i<=j))) leD:=ZH (fun _ _=>rfl) fun _ _=>rfl
def Vk {K:jJa}:OpB K (rI0 fun i j=>.bl (decide (j<i))) gtD:=ZH (fun _ _=>rfl) fun _ _=>rfl
def z8g {K:jJa}:OpB K (rI0 fun i j=>.bl (decide (j<=i))) geD:=ZH (fun _ _=>rfl) fun _ _=>rfl
def vC:D->D->R D
 | .int i,.int j=>if ((decide (-(2 ^ 64)<i)&&decide (i<2 ^ 64))||(decide (-(2 ^ 64)<j)&&decide (j<2 ^ 64)))=true then .ok (.int (i*j)) else .bad
 | .lst xs,.int k=>if D.imms xs=true/\-(2 ^ 63)<=k/\k<2 ^ 63/\xs.length*k.toNat<=jMi then .ok (.lst (List.replicate k.toNat xs).flatten) else .bad
 | _,_=>.bad
def z6p:x8 vC:=fun x y n h=>by
 unfold vC at h;split at h
 ·split at h<;>cases h
 ·split at h<;>cases h
 ·cases h
def z2x:OpR X (binaryOp .Mult) (fun x y H Q=>rI CMul (fun i j=>.int (i*j)) x y H Q\/z5L x y H Q):=OpR.or z5u z4C
theorem Reps.rep {K:jJa}{H:Hp}{ds:List D}{vs:List V}(r:Reps K H ds vs []):∀k:Nat,Reps K H (List.replicate k ds).flatten (List.replicate k vs).flatten []
 | 0=>by simpa using Reps.nil
 | k+1=>by
  rw[sX,sX,pF,pF];exact Reps.append r (Reps.rep r k)
def z7f {K:jJa}:OpB K (fun x y H Q=>rI CMul (fun i j=>.int (i*j)) x y H Q\/z5L x y H Q) vC:=by
 rintro H x y dx dy Lx Ly Q rx ry ⟨d,hg,q⟩;unfold vC at hg;split at hg
 ·split at hg
  ·rename_i i j hz;cases hg;refine .inl ⟨i,j,rx.1,ry.1,?_,q _ H [] (Same.refl H) ⟨rfl,rfl⟩ (by simp) (fun a ha=>nomatch ha)⟩
   simpa [CMul] using hz
  ·cases hg
 ·split at hg
  ·rename_i xs k hz;cases hg;obtain⟨a,vs,L1,rfl,ha,_,rs⟩:=rx;exact .inr ⟨a,k,vs,rfl,ry.1,ha,hz.2.1,hz.2.2.1,by rw[rs.length];exact hz.2.2.2,fun p hp=>ji (Reps.rep (xh rs hz.1) _) hp q⟩
  ·cases hg
 ·cases hg
def Km (K:jJa)(neg:Bool):R2:=fun x y H Q=>∃dx dy Lx Ly b,Rep K H dx x Lx/\Rep K H dy y Ly/\eqF 12 dx dy=some b/\Q (.bl (if neg=true then !b else b)) H
def z51 (hu:X.A.units+12<cLine):OpR X (jMe .Eq) (Km X.K false):=by
 rintro jNf s σ H x y v u Q I rx ry ⟨dx,dy,Lx,Ly,b,r1,r2,he,q⟩;exact (z44 I 12 X.A dx dy x y Lx Ly v u b hu he r1 r2 rx ry).1 X.prog X.w X.xe _ ⟨.bl b,H,I,rfl,q⟩
def z5D (hu:X.A.units+12<cLine):OpR X (jMe .NotEq) (Km X.K true):=by
 rintro jNf s σ H x y v u Q I rx ry ⟨dx,dy,Lx,Ly,b,r1,r2,he,q⟩;exact (z44 I 12 X.A dx dy x y Lx Ly v u b hu he r1 r2 rx ry).2.2 X.prog X.w X.xe _ ⟨.bl (!b),H,I,rfl,q⟩
def vH:List Key->List D->Key->Option D
 | k::ks,d::ds,j=>if k=j then some d else vH ks ds j
 | _,_,_=>none
def ZP (js:List Key)(ys:List D):List Key->List D->Option Bool
 | k::ks,x::xs=>match vH js ys k with
  | none=>some false
  | some y=>if (x.isS&&y.isS)=true then (ZP js ys ks xs).map (eqS x y&&·) else none
 | _,_=>some true
theorem kg {K:jJa}{H:Hp}:∀ {kvs:List (Key×V)} {ds:List D} {L:List Addr} {k:Key} {d:D},Reps K H ds (kvs.map (·.2)) L->vH (kvs.map (·.1)) ds k=some d->∃v L1,Zi kvs k=some v/\Rep K H d v L1/\List.Sublist L1 L
 | [],ds,_,k,d,r,h=>by cases ds<;>cases h
 | p::kvs,[],_,k,d,r,h=>by obtain⟨e,_⟩:=r;cases e
 | p::kvs,d0::ds,_,k,d,hq5,h=>by
  obtain⟨v,vs',L1,L2,e1,e2,r1,r2⟩:=hq5;subst e2;rw[tK]at e1;cases e1;rw[tK]at h;unfold vH at h
  by_cases hk:p.1=k
  ·rw[jNg hk]at h;cases h;exact⟨p.2,L1,Yq hk,r1,List.sublist_append_left _ _⟩
  ·rw[jNh hk]at h;obtain⟨v,L',a,b,c⟩:=kg r2 h;exact⟨v,L',by rw[je hk];exact a,b,c.trans (pL _ _)⟩
theorem Xl {K:jJa}{H:Hp}:∀ {kvs:List (Key×V)} {ds:List D} {L:List Addr} {k:Key},Reps K H ds (kvs.map (·.2)) L->vH (kvs.map (·.1)) ds k=none->Zi kvs k=none
 | [],ds,_,k,r,h=>rfl
 | p::kvs,[],_,k,r,h=>by obtain⟨e,_⟩:=r;cases e
 | p::kvs,d0::ds,_,k,hq4,h=>by
  obtain⟨v,vs',L1,L2,e1,e2,r1,r2⟩:=hq4;subst e2;rw[tK]at e1;cases e1;rw[tK]at h;unfold vH at h
  by_cases hk:p.1=k
  ·rw[jNg hk]at h;cases h
  ·rw[jNh hk]at h;rw[je hk];exact Xl r2 h
def QF {K:jJa}{H:Hp}{A:jNb}{s:jNc}{kvb:List (Key×V)}{vb:List (Key×Value)}{ys:List D}{Lb:List Addr}(rb:KV kvb vb)(qb:Reps K H ys (kvb.map (·.2)) Lb):
  ∀ {kva:List (Key×V)} {va:List (Key×Value)} {xs:List D} {La:List Addr} {b:Bool},KV kva va->Reps K H xs (kva.map (·.2)) La->ZP (kvb.map (·.1)) ys (kva.map (·.1)) xs=some b->PySem.W.KeqHits A s vb va b:=by
 intro kva va xs La b ra
 induction ra generalizing xs La b with
 | nil =>
  intro r h;cases xs with
  | nil=>cases h;exact .nil
  | cons _ _=>obtain⟨_,_,_,_,e,_⟩:=r;cases e
 | @cons p q l1 l2 h1 _ ih =>
  intro r h;cases xs with
  | nil=>obtain⟨e,_⟩:=r;cases e
  | cons x xs =>
   obtain⟨v,vs',L1,L2,e1,e2,r1,r2⟩:=r;rw[tK]at e1;cases e1;rw[tK]at h;unfold ZP at h;have ek:q.1=p.1:=h1.1.symm;have hv:=rb.val p.1;cases hl:vH (kvb.map (·.1)) ys p.1 with
   | none =>
    rw[hl]at h;cases h;rw[Xl qb hl]at hv;have:valueAt vb q.1=none:=by
     rw[ek];cases hq:valueAt vb p.1 with
     | none=>rfl
     | some y=>rw[hq]at hv;exact hv.elim
    exact PySem.W.KeqHits.miss (k:=q.1) (v:=q.2) this
   | some y =>
    rw[hl]at h;dsimp only at h;split at h
    ·rename_i hs;rw[sR]at hs;cases hr:ZP (kvb.map (·.1)) ys (l1.map (·.1)) xs with
     | none=>rw[hr]at h;cases h
     | some b' =>
      rw[hr]at h;have h:(eqS x y&&b')=b:=jYe h;obtain⟨w,Lw,g1,g2,_⟩:=kg qb hl;rw[g1]at hv;obtain⟨yv,hy,ry⟩:=RelO.some_of (v:=w) (o:=valueAt vb p.1) hv;rw[<-h];exact PySem.W.KeqHits.hit (k:=q.1) (v:=q.2) (by rw[ek];exact hy) (Wo (A:=A) (s:=s) hs.1 hs.2 r1 g2 h1.2 ry).2.1 (ih r2 hr)
    ·cases h
def U1 (K:jJa)(neg:Bool):R2:=fun x y H Q=>∃a b kva kvb xs ys La Lb r,x=.ref a/\y=.ref b/\Rd H a (.dK kva)/\Rd H b (.dK kvb)/\Reps K H xs (kva.map (·.2)) La/\Reps K H ys (kvb.map (·.2)) Lb /\
 (kva.length=kvb.length->ZP (kvb.map (·.1)) ys (kva.map (·.1)) xs=some r)/\Q (.bl (if neg=true then !(kva.length==kvb.length&&r) else (kva.length==kvb.length&&r))) H
def z2o {X:Cx}(hu:X.A.units<cLine):OpR X (jMe .Eq) (U1 X.K false):=by
 rintro jNf s σ H x y v u Q I rx ry ⟨a,b,kva,kvb,xs,ys,La,Lb,r,e1,e2,ha,hb,qa,qb,hh,q⟩;subst e1 e2;obtain rfl:v=Value.ref a:=rx;obtain rfl:u=Value.ref b:=ry;obtain⟨_,da,va,ra,oa⟩:=YH I.hok ha;obtain⟨_,db,vb,rb,ob⟩:=YH I.hok hb;have l1:va.length=kva.length:=ra.length.symm;have l2:vb.length=kvb.length:=rb.length.symm;refine PySem.W.keq_eq (r:=r) da db oa ob hu (fun e=>QF rb qb ra qa (hh (by lia))) ?_;rw[l1,l2];exact⟨.bl _,H,I,rfl,q⟩
def z2j {X:Cx}(hu:X.A.units<cLine):OpR X (jMe .NotEq) (U1 X.K true):=by
 rintro jNf s σ H x y v u Q I rx ry ⟨a,b,kva,kvb,xs,ys,La,Lb,r,e1,e2,ha,hb,qa,qb,hh,q⟩;subst e1 e2;obtain rfl:v=Value.ref a:=rx;obtain rfl:u=Value.ref b:=ry;obtain⟨_,da,va,ra,oa⟩:=YH I.hok ha;obtain⟨_,db,vb,rb,ob⟩:=YH I.hok hb;have l1:va.length=kva.length:=ra.length.symm;have l2:vb.length=kvb.length:=rb.length.symm;refine PySem.W.keq_ne (r:=r) da db oa ob hu (fun e=>QF rb qb ra qa (hh (by lia))) ?_;rw[l1,l2];exact⟨.bl _,H,I,rfl,q⟩
def z46 (ks:List Key)(xs:List D)(js:List Key)(ys:List D):Option Bool:=if ks.length=js.length then ZP js ys ks xs else some false
def eqR (neg:Bool):D->D->R D
 | .dic ks xs,.dic js ys=>match z46 ks xs js ys with
  | some b=>.ok (.bl (if neg=true then !b else b))
  | none=>.bad
 | x,y=>match eqF 12 x y with
  | some b=>.ok (.bl (if neg=true then !b else b))
  | none=>.bad
def we {neg:Bool}:x8 (eqR neg):=fun x y n h=>by
 unfold eqR at h;split at h
 ·split at h<;>cases h
 ·split at h<;>cases h
def xV {K:jJa}{neg:Bool}:OpB K (fun x y H Q=>Km K neg x y H Q\/U1 K neg x y H Q) (eqR neg):=by
 rintro H x y dx dy Lx Ly Q rx ry ⟨d,hg,q⟩;unfold eqR at hg;split at hg
 ·rename_i ks xs js ys;obtain⟨a,kva,L1,rfl,ha,_,hk,_,rs⟩:=rx;obtain⟨b,kvb,L2,rfl,hb,_,hj,_,qs⟩:=ry;have l1:ks.length=kva.length:=by rw[<-hk,tJ]
  have l2:js.length=kvb.length:=by rw[<-hj,tJ]
  unfold z46 at hg
  by_cases hl:ks.length=js.length
  ·rw[jNg hl]at hg;cases hr:ZP js ys ks xs with
   | none=>rw[hr]at hg;cases hg
   | some r =>
    rw[hr]at hg;cases hg;refine .inr ⟨a,b,kva,kvb,xs,ys,_,_,r,rfl,rfl,.inl ha,.inl hb,rs,qs,fun _=>by rw[hk,hj];exact hr,?_⟩;have e:(kva.length==kvb.length&&r)=r:=by
     have:(kva.length==kvb.length)=true:=by simp;lia
     rw[this,rQ]
    rw[e];exact q _ H [] (Same.refl H) ⟨rfl,rfl⟩ (by simp) (fun a ha=>nomatch ha)
  ·rw[jNh hl]at hg;cases hg;refine .inr ⟨a,b,kva,kvb,xs,ys,_,_,false,rfl,rfl,.inl ha,.inl hb,rs,qs,fun z=>absurd z (by lia),?_⟩;rw[Bool.and_false];exact q _ H [] (Same.refl H) ⟨rfl,rfl⟩ (by simp) (fun a ha=>nomatch ha)
 ·split at hg
  ·rename_i b hb;cases hg;exact .inl ⟨dx,dy,Lx,Ly,b,rx,ry,hb,q _ H [] (Same.refl H) ⟨rfl,rfl⟩ (by simp) (fun a ha=>nomatch ha)⟩
  ·cases hg
def xG (hu:X.A.units+12<cLine):OpR X (jMe .Eq) (fun x y H Q=>Km X.K false x y H Q\/U1 X.K false x y H Q):=OpR.or (z51 hu) (z2o (by lia))
def y8 (hu:X.A.units+12<cLine):OpR X (jMe .NotEq) (fun x y H Q=>Km X.K true x y H Q\/U1 X.K true x y H Q):=OpR.or (z5D hu) (z2j (by lia))
def z16:D->Bool
 | .non=>true
 | _=>false
def isN (neg:Bool):D->D->R D
 | x,.non=>.ok (.bl (if neg=true then !z16 x else z16 x))
 | _,_=>.bad
def kS:D->Option Key
 | .int i=>some (.inl i)
 | .str x=>some (.inr x)
 | .non=>some .non
 | _=>none
def ixD:D->D->R D
 | .lst ds,.int i=>match atI ds i with
  | some d=>.ok d
  | none=>.bad
 | .tup ds,.int i=>match atI ds i with
  | some d=>.ok d
  | none=>.bad
 | .frl ds,.int i=>match atI ds i with
  | some d=>.ok d
  | none=>.bad
 | .str x,.int i=>if x.length<=jMi then (match atI x.cps.toList i with
  | some c=>.ok (.str ⟨#[c]⟩)
  | none=>.bad) else .bad
 | .dic ks ds,k=>match kS k with
  | some k=>(match vH ks ds k with
   | some d=>.ok d
   | none=>.bad)
  | none=>.bad
 | _,_=>.bad
def z8F:x8 ixD:=fun x y n h=>by
 unfold ixD at h;split at h
 ·split at h<;>cases h
 ·split at h<;>cases h
 ·split at h<;>cases h
 ·split at h
  ·split at h<;>cases h
  ·cases h
 ·split at h
  ·split at h<;>cases h
  ·cases h
 ·cases h
def JA {K:jJa}{H:Hp}{d:D}{v:V}{L:List Addr}{k:Key}(h:kS d=some k)(r:Rep K H d v L):v=kV k:=by
 cases d with
 | non=>cases h;exact r.1
 | int i=>cases h;exact r.1
 | str x=>cases h;exact r.1
 | _=>cases h
theorem Reps.atI {K:jJa}{H:Hp}{ds:List D}{vs:List V}{L:List Addr}{i:Int}{d:D}(r:Reps K H ds vs L)(h:L2.atI ds i=some d):∃v L1,L2.atI vs i=some v/\Rep K H d v L1/\List.Sublist L1 L:=by
 unfold L2.atI at h ⊢;rw[r.length];cases e:ixN ds.length i with
 | none=>rw[e]at h;cases h
 | some j =>
  rw[e]at h;obtain⟨v,L1,a,b,c⟩:=r.get h;exact⟨v,L1,a,b,c⟩
section
variable {X:Cx}{E:XK}{Γ:List Cl}{e a b:Expr}{es:List Expr}{t ta tb:Tn->R D}{u:Tn->R (List D)}{c ca cb:Rc}{pos p p2:Pos}
theorem RcOk.sub (h:RcOk c O H L)(s:List.Sublist L' L):RcOk c O H L':=by
 cases c with
 | fresh=>exact⟨h.1.sublist s,fun a ha=>h.2 a (s.subset ha)⟩
 | shr=>exact fun a ha=>h a (s.subset ha)
 | bor=>trivial
theorem post.bind2 {K:jJa}{O:Addr->Prop}{H H1:Hp}{Q Q':VK}{r:R D}{f:D->R D}(h:post K E O c H Q (r.bind f))(s:Same H H1)(hf:∀d,r=.ok d->post K E O c H Q (f d)->∀v H' L,Same H1 H'->Rep K H' d v L->RcOk ca O H1 L->Q' v H'):post K E O ca H1 Q' r:=by
 cases r with
 | ok d=>exact hf d rfl h
 | err n=>exact fun C H' e s'=>h C H' e (s.trans s')
 | bad=>exact h
def JU {K:jJa}{H:Hp}{dx dy d:D}{x y:V}{Lx Ly:List Addr}{Q:VK}(hn:∀ks ds,dx≠.dic ks ds)(h:ixD dx dy=.ok d)(rx:Rep K H dx x Lx)(ry:Rep K H dy y Ly)(q:∀v L1,Rep K H d v L1->List.Sublist L1 Lx->Q v H):rIx K x y H Q:=by
 unfold ixD at h;split at h
 ·split at h
  ·rename_i hd;cases h;obtain⟨a,vs,L',rfl,ha,e,rs⟩:=rx;subst e;obtain⟨v,L1,g1,g2,g3⟩:=rs.atI hd;exact .inl ⟨a,vs,_,v,rfl,ry.1,SqL.of ha,g1,q v L1 g2 (g3.trans (List.sublist_cons_self _ _))⟩
  ·cases h
 ·split at h
  ·rename_i hd;cases h;obtain⟨a,vs,rfl,ha,rs⟩:=rx;obtain⟨v,L1,g1,g2,g3⟩:=rs.atI hd;exact .inr (.inl ⟨a,vs,_,v,rfl,ry.1,ha,g1,q v L1 g2 g3⟩)
  ·cases h
 ·split at h
  ·rename_i hd;cases h;obtain⟨a,vs,rfl,ha,e,_,rs⟩:=rx;subst e;obtain⟨v,L1,g1,g2,g3⟩:=rs.atI hd;exact .inl ⟨a,vs,_,v,rfl,ry.1,ha.sq,g1,q v L1 g2 g3⟩
  ·cases h
 ·split at h
  ·rename_i hz;split at h
   ·rename_i hd;cases h;exact .inr (.inr ⟨_,_,_,rx.1,ry.1,hz,hd,q _ [] ⟨rfl,rfl⟩ (gF _)⟩)
   ·cases h
  ·cases h
 ·rename_i ks ds;exact absurd rfl (hn _ _)
 ·cases h
def z7K (hu:X.A.units+1<cLine)(ha:ME X E Γ a ta ca)(hb:ME X E Γ b tb cb)(hs:autoParam (Wg b) au6._auto_1):ME X E Γ (.Subscript a b pos) (zc ixD ta tb) ca:=by
 obtain⟨te,p,q⟩:=ha;obtain⟨te',p',q'⟩:=hb;refine⟨fun σ H Q=>tOp (rIx X.K) te te' σ H Q\/z3R te te' σ H Q,fun jNf s σ H Q I z=>?_,fun O σ H τ Q ok h=>?_⟩
 ·rcases z with z|z
  ·exact ZZ j7 p p' hs jNf s σ H Q I z
  ·exact z3o hu p p' hs jNf s σ H Q I z
 ·unfold zc at h
  by_cases hd:∃ks ds,ta τ=.ok (.dic ks ds)
  ·obtain⟨ks,ds,hd⟩:=hd;refine .inr (q O σ H τ _ ok (post.bind h fun dx hx h x H1 Lx s1 rx kx=>?_));rw[hd]at hx;cases hx;refine q' O σ H1 τ _ (ok.same s1) (post.bind2 h s1 fun dy _ h y H2 Ly s2 ry _=>?_);have h:post X.K E O ca H Q (match kS dy with
    | some k=>(match vH ks ds k with
     | some d=>.ok d
     | none=>.bad)
    | none=>.bad):=h
   cases hk:kS dy with
   | none=>rw[hk]at h;exact h.elim
   | some k =>
    rw[hk]at h;dsimp only at h;cases hl:vH ks ds k with
    | none=>rw[hl]at h;exact h.elim
    | some d =>
     rw[hl]at h;obtain⟨ad,kvs,L',rfl,had,e2,hks,_,rs⟩:=rx;subst e2;rw[<-hks]at hl;obtain⟨v,L1,g1,g2,g3⟩:=kg rs hl;refine⟨ad,v,rfl,?_,h v H2 L1 (s1.trans s2) (g2.same s2) (kx.sub (g3.trans (List.sublist_cons_self _ _)))⟩;rw[JA hk ry,<-g1];exact DGet.k (s2 _ _ had)
  ·refine .inl (q O σ H τ _ ok (post.bind h fun dx hx h x H1 Lx s1 rx kx=>q' O σ H1 τ _ (ok.same s1) (post.bind2 h s1 fun dy _ h y H2 Ly s2 ry _=>?_)));cases hg:ixD dx dy with
   | ok d =>
    rw[hg]at h;exact JU (fun ks ds z=>hd ⟨ks,ds,by rw[hx,z]⟩) hg (rx.same s2) ry fun v L1 g1 g2=>h v H2 L1 (s1.trans s2) g1 (kx.sub g2)
   | err n=>exact absurd hg (z8F _ _ _)
   | bad=>rw[hg]at h;exact h.elim
def uJ:D->R D
 | .int i=>.ok (.int (-i))
 | _=>.bad
def xT (ha:ME X E Γ a ta ca):ME X E Γ (.UnaryOp .USub a pos) (eUn uJ ta) .fresh:=by
 obtain⟨te,p,q⟩:=ha;refine⟨_,Jn WT p,fun O σ H τ Q ok h=>q O σ H τ _ ok (post.bind h fun d _ h v H1 L s1 r1 _=>?_)⟩;cases d with
 | int i=>exact⟨i,r1.1,h _ H1 [] s1 ⟨rfl,rfl⟩ RcOk.nil⟩
 | _=>exact h.elim
def jd {α:Type}(xs:List α)(lo hi:Option Int):List α:=(xs.drop (HT.sIx xs.length 0 lo)).take (HT.sIx xs.length xs.length hi-HT.sIx xs.length 0 lo)
def slD (x:D)(lo hi:Option Int):R D:=match x with
 | .lst ds=>if D.imms ds=true then .ok (.lst (jd ds lo hi)) else .bad
 | .str z=>if z.length<=jMi then .ok (.str (Txt.slice z lo hi)) else .bad
 | .tup ds=>if D.imms ds=true/\¬(HT.sIx ds.length 0 lo=0/\HT.sIx ds.length ds.length hi=ds.length) then .ok (.tup (jd ds lo hi)) else .bad
 | _=>.bad
def eSl (t:Tn->R D)(tl th:Tn->R (Option Int)):Tn->R D:=fun τ=>(t τ).bind fun x=>(tl τ).bind fun l=>(th τ).bind fun h=>slD x l h
def xm:Tn->R (Option Int):=fun _=>.ok none
def zX (t:Tn->R D):Tn->R (Option Int):=fun τ=>(t τ).bind fun d=>match d with
 | .int i=>.ok (some i)
 | _=>.bad
def z6K (K:jJa)(E:XK)(H:Hp)(Q:Option Int->Hp->Prop):R (Option Int)->Prop
 | .ok o=>∀H',Same H H'->Q o H'
 | .err n=>∀C H',ErrO K n H' C->Same H H'->E (.ref C.1) C.2 H'
 | .bad=>False
def MO (X:Cx)(E:XK)(Γ:List Cl)(e:Option Expr)(t:Tn->R (Option Int)):Prop:=
 ∃to,PO X e to/\∀O σ H τ Q,EOk X.K Γ O H σ τ->z6K X.K E H Q (t τ)->to σ H Q
def ye:MO X E Γ none xm:=⟨J6,z3i,fun O σ H τ Q ok h=>h H (Same.refl H)⟩
def zE (h:ME X E Γ e t c):MO X E Γ (some e) (zX t):=by
 obtain⟨te,p,q⟩:=h;refine⟨z3s te,z1J p,fun O σ H τ Q ok h=>q O σ H τ _ ok ?_⟩;unfold zX at h;cases ht:t τ with
 | ok d =>
  rw[ht,jYa]at h;refine fun v H' L s r _=>?_;cases d with
  | int i=>exact⟨i,r.1,h H' s⟩
  | _=>exact h.elim
 | err n=>rw[ht]at h;exact h
 | bad=>rw[ht]at h;exact h
theorem Reps.cut {K:jJa}{H:Hp}{ds:List D}{vs:List V}{L:List Addr}(r:Reps K H ds vs L)(lo hi:Option Int):∃L',Reps K H (jd ds lo hi) (Ug vs lo hi) L'/\List.Sublist L' L:=by
 obtain⟨L1,a,b⟩:=r.drop (HT.sIx ds.length 0 lo);obtain⟨L2,c,d⟩:=a.take (HT.sIx ds.length ds.length hi-HT.sIx ds.length 0 lo);refine⟨L2,?_,d.trans b⟩;unfold jd Ug;rw[r.length];exact c
def yK {lo hi:Option Expr}{tl th:Tn->R (Option Int)}(he:ME X E Γ e t c)(hl:MO X E Γ lo tl)(hh:MO X E Γ hi th):ME X E Γ (.Subscript e (.Slice lo hi none p2) pos) (eSl t tl th) .fresh:=by
 obtain⟨te,p,q⟩:=he;obtain⟨tl',pl,ql⟩:=hl;obtain⟨th',ph,qh⟩:=hh;refine⟨_,Ku (SlR.or z2M (SlR.or z5T z5t)) p pl ph,fun O σ H τ Q ok h=>?_⟩;unfold eSl at h;refine q O σ H τ _ ok (post.bind h fun dx hx h x H1 Lx s1 rx kx=>ql O σ H1 τ _ (ok.same s1) ?_);cases h1:tl τ with
 | err n=>rw[h1]at h;exact fun C H' e s'=>h C H' e (s1.trans s')
 | bad=>rw[h1]at h;exact h
 | ok l =>
  rw[h1,jYa]at h;refine fun H2 s2=>qh O σ H2 τ _ ((ok.same s1).same s2) ?_;cases h2:th τ with
  | err n=>rw[h2]at h;exact fun C H' e s'=>h C H' e ((s1.trans s2).trans s')
  | bad=>rw[h2]at h;exact h
  | ok g =>
   rw[h2,jYa]at h;refine fun H3 s3=>?_;have s03:=(s1.trans s2).trans s3;have rx:=(rx.same s2).same s3;unfold slD at h;cases dx with
   | lst ds =>
    dsimp only at h
    by_cases hz:D.imms ds=true
    ·rw[jNg hz]at h;obtain⟨a,vs,L',rfl,ha,_,rs⟩:=rx;obtain⟨L2,rc,_⟩:=(xh rs hz).cut l g;have e0:L2=[]:=List.sublist_nil.mp ‹_›;subst e0;refine .inl ⟨a,vs,rfl,SqL.of ha,fun p hp=>ji rc hp fun v H' L s r n1 n2=>h v H' L (s03.trans s) r ⟨n1,fun a ha=>s03.non (n2 a ha)⟩⟩
    ·rw[jNh hz]at h;exact h.elim
   | str z =>
    dsimp only at h
    by_cases hz:z.length<=jMi
    ·rw[jNg hz]at h;exact .inr (.inl ⟨z,rx.1,hz,h _ H3 [] s03 ⟨rfl,rfl⟩ RcOk.nil⟩)
    ·rw[jNh hz]at h;exact h.elim
   | tup ds =>
    dsimp only at h
    by_cases hz:D.imms ds=true/\¬(HT.sIx ds.length 0 l=0/\HT.sIx ds.length ds.length g=ds.length)
    ·rw[jNg hz]at h;obtain⟨a,vs,rfl,ha,rs⟩:=rx;obtain⟨L2,rc,_⟩:=(xh rs hz.1).cut l g;have e0:L2=[]:=List.sublist_nil.mp ‹_›;subst e0;exact .inr (.inr ⟨a,vs,rfl,ha,by rw[rs.length];exact hz.2,fun p hp=>h _ _ [] (s03.trans (Same.new hp)) ⟨p,_,rfl,SqT.of zz,rc.same (Same.new hp)⟩ RcOk.nil⟩)
    ·rw[jNh hz]at h;exact h.elim
   | _=>exact h.elim
end
section
variable {X:Cx}
def ya:List D->R D
 | [.lst ds]=>.ok (.int ds.length)
 | [.tup ds]=>.ok (.int ds.length)
 | [.frl ds]=>.ok (.int ds.length)
 | [.str x]=>if x.length<=jMi then .ok (.int x.length) else .bad
 | [.dic ks _]=>.ok (.int ks.length)
 | _=>.bad
def z7S:yQ ya:=fun ds n h=>by
 rcases ds with _|⟨d,_|⟨_,_⟩⟩
 ·cases h
 ·cases d with
  | str x =>
   replace h:(if x.length<=jMi then R.ok (D.int x.length) else .bad)=R.err n:=h
   split at h<;>cases h
  | _=>cases h
 ·cases d<;>cases h
def Jy:CallR X (.builtin "len") (fun xs H Q=>(∃p ys,xs=[.ref p]/\(SqL X.K H p ys\/SqT X.K H p ys)/\Q (.int ys.length) H)\/(∃z,xs=[.str z]/\z.length<=jMi/\Q (.int z.length) H)\/∃a kvs,xs=[V.ref a]/\H a=some (.dK kvs)/\Q (.int kvs.length) H):=
 CallR.or Wu (CallR.or WY JM)
def wZ {K:jJa}{H:Hp}{d:D}{xs:List V}{L:List Addr}(r:Reps K H [d] xs L):∃v,xs=[v]/\Rep K H d v L:=by
 obtain⟨v,vs',L1,L2,e1,e2,r1,r2⟩:=r;obtain⟨rfl,rfl⟩:=r2;rw[tI]at e2;subst e2;exact⟨v,e1,r1⟩
def z78 {K:jJa}{H:Hp}{d d':D}{xs:List V}{L:List Addr}(r:Reps K H [d,d'] xs L):∃v v' L1 L2,xs=[v,v']/\L=L1++L2/\Rep K H d v L1/\Rep K H d' v' L2:=by
 obtain⟨v,vs',L1,L2,e1,e2,r1,r2⟩:=r;obtain⟨v',rfl,r3⟩:=wZ r2;exact⟨v,v',L1,L2,e1,e2,r1,r3⟩
def z6w {K:jJa}:ClB K (fun xs H Q=>(∃p ys,xs=[.ref p]/\(SqL K H p ys\/SqT K H p ys)/\Q (.int ys.length) H)\/(∃z,xs=[.str z]/\z.length<=jMi/\Q (.int z.length) H)\/∃a kvs,xs=[V.ref a]/\H a=some (.dK kvs)/\Q (.int kvs.length) H) ya:=by
 rintro H xs ds L Q r ⟨d,hg,q⟩;have fin:∀n:Int,d=.int n->Q (.int n) H:=fun n e=>q _ H [] (Same.refl H) (e▸⟨rfl,rfl⟩) (by simp) (fun a ha=>nomatch ha);rcases ds with _|⟨e,_|⟨_,_⟩⟩
 ·cases hg
 ·cases e with
  | lst es =>
   cases hg;obtain⟨v,rfl,a,vs,L',rfl,ha,_,rs⟩:=wZ r;exact .inl ⟨a,vs,rfl,.inl (SqL.of ha),fin _ (by rw[rs.length])⟩
  | tup es =>
   cases hg;obtain⟨v,rfl,a,vs,rfl,ha,rs⟩:=wZ r;exact .inl ⟨a,vs,rfl,.inr ha,fin _ (by rw[rs.length])⟩
  | frl es =>
   cases hg;obtain⟨v,rfl,a,vs,rfl,ha,_,_,rs⟩:=wZ r;exact .inl ⟨a,vs,rfl,.inl ha.sq,fin _ (by rw[rs.length])⟩
  | str x =>
   replace hg:(if x.length<=jMi then R.ok (D.int x.length) else .bad)=R.ok d:=hg
   split at hg
   ·rename_i hz;cases hg;obtain⟨v,rfl,rfl,_⟩:=wZ r;exact .inr (.inl ⟨_,rfl,hz,fin _ rfl⟩)
   ·cases hg
  | dic ks es =>
   cases hg;obtain⟨v,rfl,a,kvs,L',rfl,ha,_,hk,_⟩:=wZ r;exact .inr (.inr ⟨a,kvs,rfl,ha,fin _ (by rw[<-hk,tJ])⟩)
  | _=>cases hg
 ·cases e<;>cases hg
def ja:List D->Option (List Int)
 | []=>some []
 | .int i::ds=>(ja ds).map (i::·)
 | _=>none
theorem Z5 {K:jJa}{H:Hp}:∀ {ds:List D} {vs:List V} {L:List Addr} {ns:List Int},Reps K H ds vs L->ja ds=some ns->vs=ns.map V.int
 | [],_,_,ns,hq4,h=>by
  obtain⟨e,_⟩:=hq4;subst e;cases h;rfl
 | .int i::ds,_,_,ns,hq4,h=>by
  obtain⟨v,vs',L1,L2,e1,_,r1,r2⟩:=hq4;subst e1;have h:(ja ds).map (i::·)=some ns:=h;cases hi:ja ds with
  | none=>rw[hi]at h;cases h
  | some ms =>
   rw[hi]at h;cases h;rw[r1.1,Z5 r2 hi];rfl
 | .non::_,_,_,_,_,h=>by cases h
 | .bl _::_,_,_,_,_,h=>by cases h
 | .str _::_,_,_,_,_,h=>by cases h
 | .tup _::_,_,_,_,_,h=>by cases h
 | .lst _::_,_,_,_,_,h=>by cases h
 | .dic _ _::_,_,_,_,_,h=>by cases h
 | .frl _::_,_,_,_,_,h=>by cases h
 | .obj _ _ _::_,_,_,_,_,h=>by cases h
theorem Yz:∀ {ns:List Int} {us:List Value},Vals (ns.map V.int) us->∃xs:List (Int×Tok),us=xs.map (fun p=>Value.int p.1 p.2)/\xs.map (·.1)=ns
 | [],us,r=>by cases r;exact⟨[],rfl,rfl⟩
 | n::ns,_,r=>by
  rw[tK]at r;cases r with
  | cons r1 r2 =>
   obtain⟨t,rfl⟩:=r1;obtain⟨xs,rfl,e⟩:=Yz r2;exact⟨(n,t)::xs,rfl,by simp[e]⟩
def YG:List D->R D
 | [.lst ds]=>match ja ds with
  | some ns=>.ok (.int ns.sum)
  | none=>.bad
 | _=>.bad
def KR:yQ YG:=fun ds n h=>by
 unfold YG at h;split at h
 ·split at h<;>cases h
 ·cases h
def z47 (K:jJa):List V->Hp->VK->Prop:=fun xs H Q=>∃(p:Addr) (ns:List Int),xs=[.ref p]/\SqL K H p (ns.map V.int)/\Q (.int ns.sum) H
def W3 (xs:List (Int×Tok)):preSum (numAt xs.toArray) xs.toArray.size=(xs.map (·.1)).sum:=by
 rw[preSum_eq,rL (by simp)]
def kr (hc:X.calm=true):CallR X (.builtin "sum") (z47 X.K):=by
 intro jNf s σ H xs us Q I r h;obtain⟨p,ns,rfl,hs,q⟩:=h;obtain⟨u,rfl,ru⟩:=wO r;obtain rfl:u=Value.ref p:=ru;obtain⟨its,rv,pl,hz⟩:=I.list hs;obtain⟨ys,rfl,e⟩:=Yz rv;have hl:s.heap.IsList p (intItems ys.toArray):=by
  have:=pl.isList
  simpa [intItems] using this
 refine sum_intListG (I.ok.hd hc) hl fun h' tk t' hk=>⟨.int ns.sum,H,I.kept hk,⟨t',?_⟩,q⟩
 rw[W3,e]
def Kv {K:jJa}:ClB K (z47 K) YG:=by
 rintro H xs ds L Q r ⟨d,hg,q⟩;unfold YG at hg;split at hg
 ·split at hg
  ·rename_i ds ns hn;cases hg;obtain⟨v,rfl,a,vs,L',rfl,ha,_,rs⟩:=wZ r;exact⟨a,ns,rfl,by rw[<-Z5 rs hn];exact SqL.of ha,q _ H [] (Same.refl H) ⟨rfl,rfl⟩ (by simp) (fun a ha=>nomatch ha)⟩
  ·cases hg
 ·cases hg
def jG:List D->R D
 | [.int i]=>.ok (.int i)
 | [.bl k]=>.ok (.int (if k then 1 else 0))
 | _=>.bad
def Yy:yQ jG:=fun ds n h=>by
 rcases ds with _|⟨d,_|⟨_,_⟩⟩
 ·cases h
 ·cases d<;>cases h
 ·cases d<;>cases h
def ZN {K:jJa}:ClB K (fun xs H Q=>(∃i,xs=[.int i]/\Q (.int i) H)\/∃k,xs=[.bl k]/\Q (.int (if k then 1 else 0)) H) jG:=by
 rintro H xs ds L Q r ⟨d,hg,q⟩;rcases ds with _|⟨e,_|⟨_,_⟩⟩
 ·cases hg
 ·cases e with
  | int i =>
   cases hg;obtain⟨v,rfl,rfl,_⟩:=wZ r;exact .inl ⟨_,rfl,q _ H [] (Same.refl H) ⟨rfl,rfl⟩ (by simp) (fun a ha=>nomatch ha)⟩
  | bl k =>
   cases hg;obtain⟨v,rfl,rfl,_⟩:=wZ r;exact .inr ⟨_,rfl,q _ H [] (Same.refl H) ⟨rfl,rfl⟩ (by simp) (fun a ha=>nomatch ha)⟩
  | _=>cases hg
 ·cases e<;>cases hg
def z69:List D->R D
 | [.int i,.int j]=>.ok (.int (if j>i then j else i))
 | _=>.bad
def qY:List D->R D
 | [.lst ds]=>if D.imms ds=true then .ok (.lst ds) else .bad
 | [.tup ds]=>if D.imms ds=true then .ok (.lst ds) else .bad
 | _=>.bad
def J3:yQ qY:=fun ds n h=>by
 unfold qY at h;split at h
 ·split at h<;>cases h
 ·split at h<;>cases h
 ·cases h
def QX {K:jJa}:ClB K (fun xs H Q=>∃p ys,xs=[.ref p]/\(SqL K H p ys\/SqT K H p ys)/\∀l,H l=none->Q (.ref l) (upd H l (.lst ys))) qY:=by
 rintro H xs ds L Q r ⟨d,hg,q⟩;unfold qY at hg;split at hg
 ·split at hg
  ·rename_i hz;cases hg;obtain⟨v,rfl,a,vs,L',rfl,ha,_,rs⟩:=wZ r;exact⟨a,vs,rfl,.inl (SqL.of ha),fun l hl=>ji (xh rs hz) hl q⟩
  ·cases hg
 ·split at hg
  ·rename_i hz;cases hg;obtain⟨v,rfl,a,vs,rfl,ha,rs⟩:=wZ r;exact⟨a,vs,rfl,.inr ha,fun l hl=>ji (xh rs hz) hl q⟩
  ·cases hg
 ·cases hg
def ZG:D->String
 | .non=>"NoneType"
 | .bl _=>"bool"
 | .int _=>"int"
 | .str _=>"str"
 | .tup _=>"tuple"
 | .lst _=>"list"
 | .frl _=>"list"
 | .dic _ _=>"dict"
 | .obj _ _ _=>"NoneType"
def D.isO:D->Bool
 | .obj _ _ _=>true
 | _=>false
def JL (d:D):ZG d∈Zb:=by cases d<;>simp[ZG,Zb]
def z0e (d:D)(T:String):Bool:=ZG d==T||(ZG d=="bool"&&T=="int")
def z8M (K:jJa):List V->Hp->VK->Prop:=fun xs H Q=>∃x T d L,xs=[x,.ty T]/\Rep K H d x L/\d.isO=false/\T∈(["int","bool","str","list","tuple","dict"]:List String)/\Q (.bl (z0e d T)) H
def z2C {K:jJa}{d:D}{U:String}(hU:U∈(["int","bool","str","list","tuple","dict"]:List String)):jJb K (.type (ZG d)) (.type U)=some (z0e d U):=by
 have hT:=JL d;unfold z0e;simp only[tS,hV,or_false]at hU;rcases hU with rfl|rfl|hU
 ·rw[Jk hT];simp
 ·rw[VT hT];have:(ZG d=="bool"&&("bool":String)=="int")=false:=by simp
  rw[this,Bool.or_false]
 ·rw[z0S hT (by simpa using hU)];have:(ZG d=="bool"&&U=="int")=false:=by
   rcases hU with rfl|rfl|rfl|rfl<;>simp
  rw[this,Bool.or_false]
def Kh:CallR X (.builtin "isinstance") (z8M X.K):=by
 intro jNf s σ H xs us Q I r h;obtain⟨x,T,d,L,rfl,rd,hO,hT,q⟩:=h;obtain⟨u,u2,rfl,rx,rT⟩:=Ve r;obtain rfl:u2=Value.type T:=rT;have hk:=z2C (K:=X.K) (d:=d) hT;have fin:∀tk,EP X jNf σ Q (.bool (z0e d T)) { s with toks:=tk }:=fun tk=>⟨.bl _,H,I.tok tk,rfl,q⟩
 cases d with
 | non=>obtain⟨rfl,_⟩:=rd;exact wA I rx .non hk fin
 | bl b=>obtain⟨rfl,_⟩:=rd;exact wA I rx (.bl b) hk fin
 | int b=>obtain⟨rfl,_⟩:=rd;exact wA I rx (.int b) hk fin
 | str b=>obtain⟨rfl,_⟩:=rd;exact wA I rx (.str b) hk fin
 | lst _=>obtain⟨a,_,_,rfl,e,_⟩:=rd;exact wA I rx (.lst e) hk fin
 | frl _ =>
  obtain⟨a,vs,rfl,ha,_⟩:=rd;obtain rfl:u=Value.ref a:=rx;obtain⟨its,_,⟨o,n,h1,h2,_⟩,_⟩:=I.list ha.sq;exact jJc jJr I.kIn ⟨o,h1,h2⟩ hk (fun z=>nomatch z) fin
 | dic _ _=>obtain⟨a,_,_,rfl,e,_⟩:=rd;exact wA I rx (.dK e) hk fin
 | tup _ =>
  obtain⟨a,vs,rfl,ha,_⟩:=rd;obtain rfl:u=Value.ref a:=rx;obtain⟨its,_,⟨o,h1,h2,_⟩,_⟩:=I.tuple ha;exact jJc jJ1 I.kIn ⟨o,h1,h2⟩ hk (fun z=>nomatch z) fin
 | obj _ _ _=>cases hO
end
section
def wq (T:String):D->R D
 | .obj _ _ _=>.bad
 | d=>.ok (.bl (z0e d T))
def wX (hT:T∈(["int","bool","str","list","tuple","dict"]:List String))(hg:Gl X "isinstance")(hm:X.mg "isinstance"=none)(hc:PE X c' (tC (.ty T)))(he:ME X E Γ e t c)(hs:autoParam (jMj [e,c'] X.env=(false,eval e X.env)::jMj [c'] X.env) au3._auto_1)(hs2:autoParam (jMj [c'] X.env=(false,eval c' X.env)::jMj [] X.env) au3._auto_1)
  (hpl:autoParam ((jNd pos (jMj [c'] X.env)).any (·.1)=false) au3._auto_1):ME X E Γ (.Call (.Name "isinstance" p) [e,c'] [] pos) (eUn (wq T) t) .fresh:=by
 obtain⟨te,p',q⟩:=he;refine⟨_,vP (x:="isinstance") Kh hg hm Boot.«isinstance» (zR p' (zR hc wF hs2) hs) (by decide) (by decide) hs hpl,fun O σ H τ Q ok h=>q O σ H τ _ ok (post.bind h fun d _ h v H1 L s1 r1 _=>?_)⟩;cases d<;>first|exact h.elim|exact⟨v,T,_,L,rfl,r1,rfl,hT,h _ H1 [] s1 ⟨rfl,rfl⟩ RcOk.nil⟩
end
theorem Room.u12 {k:Nat}(r:Room k A):A.units+12<cLine:=by have:=r.un;lia
theorem Room.u1 {k:Nat}(r:Room k A):A.units+1<cLine:=by have:=r.un;lia
def ZC (outer:Scope)(N N':List Str)(fr:List (Option Nat))(scope:Scope):Bool:=
 decide (scope.kind=.function)&&scope.names.all (fun y=>decide (y.2≠.cell))&&scope.names.all (fun y=>decide (y.2≠.local)||decide (scope.names.lookup y.1=some .local)) &&
 scope.names.all (fun y=>decide (y.2≠.free)||decide (outer.names.lookup y.1=some .cell)||decide (outer.names.lookup y.1=some .free))&&decide (fr.length=N'.length) &&
 (List.range fr.length).all fun j=>match fr[j]?,N'[j]? with
  | some (some i),some x=>decide (N[i]?=some x)&&decide (scope.names.lookup x=some .free)&&(decide (outer.names.lookup x=some .cell)||decide (outer.names.lookup x=some .free))
  | _,_=>true
def Uj {fr:List (Option Nat)}(hc:∀x,(X.env.scope.names.lookup x=some .cell\/X.env.scope.names.lookup x=some .free)->∃c,X.env.cells.lookup x=some c)(h:ZC X.env.scope X.N N' fr scope=true):CompScope X N' fr scope:=by
 unfold ZC at h;simp only[sR,decide_eq_true_eq,sD,Bool.or_eq_true]at h;obtain⟨⟨⟨⟨⟨h1,h2⟩,h3⟩,h4⟩,h5⟩,h6⟩:=h;refine⟨h1,h2,fun y hy e=>?_,fun y hy e=>?_,h5,fun j i x e1 e2=>?_⟩
 ·rcases h3 y hy with z|z
  ·exact absurd e z
  ·exact z
 ·rcases h4 y hy with (z|z)|z
  ·exact absurd e z
  ·exact hc y.1 (.inl z)
  ·exact hc y.1 (.inr z)
 ·have hj:j<fr.length:=(tN.mp e1).1;have:=h6 j (List.mem_range.mpr hj);rw[e1,e2]at this;simp only[sR,decide_eq_true_eq,Bool.or_eq_true]at this;exact⟨this.1.1,this.1.2,this.2⟩
def wz {CX:CXT}{P:jNa}{w:World}{K:jJa}{mg:Str->Option Value}{base:Heap}{N:List Str}{qual:Str}{sc:Scope}{f:Addr}{cd:Value}{A:jNb}{outer:List Env}{s:jNc}{H:Hp}{E:XK}{N':List Str}{fr:List (Option Nat)}{scope:Scope}
  (nf:∀y∈sc.names,y.2≠.free) (h:ZC sc N N' fr scope=true):CompScope (yZ CX P w K mg base N qual sc f cd A outer s H E) N' fr scope:=
 Uj (X:=yZ CX P w K mg base N qual sc f cd A outer s H E) (fun x hx=>by
  rcases hx with hx|hx
  ·exact Ym hx
  ·exact absurd rfl (nf _ (PySem.mem_of_lookup hx))) h
section
def MGs (X:Cx)(es:List Expr)(is:List Nat):Prop:=∃g,PGs X es g/\∀(vs:List V) (σ:St) (H:Hp) (Q:St->Hp->Prop),vs.length=is.length->Q (xb σ is vs) H->g vs σ H Q
def uD:MGs X [] []:=⟨z7z,z1R,fun vs σ H Q hl q=>by
 have:vs=[]:=pD.mp hl;subst this;exact⟨rfl,q⟩⟩
def yC {i:Nat}{is:List Nat}(h:PG X x (Za i))(r:MGs X es is)(hs:autoParam ((jMa (x::es) X.env).map (·.2)=assign x X.env::(jMa es X.env).map (·.2)) au3._auto_1):MGs X (x::es) (i::is):=by
 obtain⟨g,p,q⟩:=r;refine⟨_,z0k h p hs,fun vs σ H Q hl k=>?_⟩;cases vs with
 | nil=>cases hl
 | cons v vs=>exact⟨v,vs,rfl,q vs _ H Q (by simpa using hl) k⟩
def ub {k:Nat}{is:List Nat}(hc:X.calm=true)(h:MGs X es is)(hn:autoParam ((jMa es X.env).length=is.length) au3._auto_1)(hst:autoParam ((jMa es X.env).findIdx? (·.1)=none) au3._auto_1):MG X (.Tuple es k pos) (.many is):=by
 obtain⟨g,p,q⟩:=h;exact⟨g,z5h hc p hn hst,q⟩
def ym {i:Nat}(h:PG X x (Za i)):MG X x (.one i):=h
def z8N (g:Tgt)(t:Tn->R D):Tn->R Fl:=fun τ=>(t τ).bind fun d=>(g.asg d τ).bind fun τ1=>.ok (.nx τ1)
def qV (i:Nat)(g:D->D->R D)(t:Tn->R D):Tn->R Fl:=fun τ=>(za i τ).bind fun x=>(t τ).bind fun y=>(g x y).bind fun z=>.ok (.nx (τ.set i (some z)))
def z5l {i:Nat}(hN:X.N.Nodup)(hi:X.N[i]?=some x)(hk:Γ[i]?=some k)(hkd:k≠.dead)(hB:OpB X.K r g)(hn:x8 g)(ho:PIp X op r)(h:ME X E Γ e t c)(hx:Loc X.env.scope x)
  (hf:autoParam (X.fn x=true\/X.env.scope.names.lookup x=some .local) au0._auto_1):MS X E Γl Γ (.AugAssign (.Name x pos') op e pos) (qV i g t) (Γ.set i .own):=by
 obtain⟨te,p,q⟩:=h;refine⟨_,z4e hN hi hx p ho hf,fun B σ H τ Z ok h=>?_⟩;obtain⟨O,eo,_⟩:=ok.eok;obtain⟨v,d,L,e1,e2,e3,_⟩:=eo.slot i k hk hkd;refine⟨v,e1,q O σ H τ _ eo ?_⟩;unfold qV at h;have ev:za i τ=.ok d:=by unfold za;rw[e2]
 rw[ev,jYa]at h;have hl:i<Γ.length:=(tN.mp hk).1;cases ht:t τ with
 | ok dy =>
  rw[ht,jYa]at h;refine fun y H1 Ly s1 ry _=>?_;cases hg:g d dy with
  | ok dz =>
   rw[hg,jYa]at h;refine hB H1 v y d dy L Ly _ (e3.same s1) ry ⟨dz,hg,fun z H2 L2 s2 rz n1 n2=>h _ _ ?_⟩;have ok2:=(ok.same s1).aside s2 (fun a ha=>rz.there ha) n1 n2;exact SOk.into (T:=[]) ok2 rz hl
  | err n=>exact absurd hg (hn _ _ _)
  | bad=>rw[hg]at h;exact h.elim
 | err n=>rw[ht]at h;exact fun C H' e s=>h C H' e (ok.ext.trans s)
 | bad=>rw[ht]at h;exact h
theorem PIp.or (h:PIp X op r)(h':PIp X op r'):PIp X op (fun x y H Q=>r x y H Q\/r' x y H Q):=by
 intro jNf s σ H x y v u Q I r1 r2 z;rcases z with z|z
 ·exact h jNf s σ H x y v u Q I r1 r2 z
 ·exact h' jNf s σ H x y v u Q I r1 r2 z
def v5:D->D->R D
 | .int i,.int j=>.ok (.int (i+j))
 | .str x,.str y=>if x.length+y.length<=jMi then .ok (.str (x++y)) else .bad
 | _,_=>.bad
def V1:x8 v5:=fun x y n h=>by
 unfold v5 at h;split at h
 ·cases h
 ·split at h<;>cases h
 ·cases h
def Y8:PIp X .Add (fun x y H Q=>ipI (fun i j=>i+j) x y H Q\/∃i j,x=.str i/\y=.str j/\i.length+j.length<=jMi/\Q (.str (i++j)) H):=PIp.or z5G fun jNf s σ H x y v u Q I r1 r2 z=>Vq jNf s σ H x y v u Q I r1 r2 z
def Wr {K:jJa}:OpB K (fun x y H Q=>ipI (fun i j=>i+j) x y H Q\/∃i j,x=.str i/\y=.str j/\i.length+j.length<=jMi/\Q (.str (i++j)) H) v5:=by
 rintro H x y dx dy Lx Ly Q rx ry ⟨d,hg,q⟩;unfold v5 at hg;split at hg
 ·cases hg;exact .inl ⟨_,_,rx.1,ry.1,q _ H [] (Same.refl H) ⟨rfl,rfl⟩ (by simp) (fun a ha=>nomatch ha)⟩
 ·split at hg
  ·rename_i hz;cases hg;exact .inr ⟨_,_,rx.1,ry.1,hz,q _ H [] (Same.refl H) ⟨rfl,rfl⟩ (by simp) (fun a ha=>nomatch ha)⟩
  ·cases hg
 ·cases hg
structure Bl (mg:Str->Option Value):Prop where
 isinstance:mg "isinstance"=none
 int:mg "int"=none
 bool:mg "bool"=none
 str:mg "str"=none
 dict:mg "dict"=none
 list:mg "list"=none
 tuple:mg "tuple"=none
 len:mg "len"=none
 sum:mg "sum"=none
 max:mg "max"=none
 min:mg "min"=none
 all:mg "all"=none
 range:mg "range"=none
 enumerate:mg "enumerate"=none
 zip:mg "zip"=none
end
section
def mn (i:Nat)(k:Cl){x:Str}(hN:autoParam (X.N[i]?=some x) au3._auto_1)(hk:autoParam (Γ[i]?=some k) au3._auto_1)(hd:autoParam (k≠.dead) au1._auto_1)(hv:autoParam (Vis X.env.scope x) au5._auto_1)(hb:autoParam (nDb x) au1._auto_1)(hcd:autoParam ((x==("__classdict__":Str))=false) au1._auto_1):
  ME X E Γ (.Name x pos) (za i) (Rc.of k):=z2Q hN hk hd hv hb hcd
def mvn (i:Nat){x:Str}(hN:autoParam (X.N[i]?=some x) au3._auto_1)(hk:autoParam (Γ[i]?=some .own) au3._auto_1)(hv:autoParam (Vis X.env.scope x) au5._auto_1)(hb:autoParam (nDb x) au1._auto_1)(hcd:autoParam ((x==("__classdict__":Str))=false) au1._auto_1):
  MV X E Γ (.Name x pos) (za i) (Γ.set i .dead):=z2p hN hk hv hb hcd
def st (i:Nat){x:Str}(nd:X.N.Nodup)(h:MV X E Γ e t Γ1)(hi:autoParam (X.N[i]?=some x) au3._auto_1)(hl:autoParam (i<Γ1.length) au1._auto_1)(hx:autoParam (Loc X.env.scope x) au7._auto_1)(hs:autoParam (jMf e (some (.Name x pos')) pos.line X.env=pure false) au3._auto_1)(hf:autoParam (X.fn x=true\/X.env.scope.names.lookup x=some .local) au0._auto_1):
  MS X E Γl Γ (.Assign [.Name x pos'] e pos) (zu i t) (Γ1.set i .own):=z5v nd hi hl h hx hs hf
def stS (i:Nat){x:Str}(nd:X.N.Nodup)(h:ME X E Γ e t c)(hc:autoParam (c≠.bor) au1._auto_1)(hi:autoParam (X.N[i]?=some x) au3._auto_1)(hl:autoParam (i<Γ.length) au1._auto_1)(hx:autoParam (Loc X.env.scope x) au7._auto_1)(hs:autoParam (jMf e (some (.Name x pos')) pos.line X.env=pure false) au3._auto_1)(hf:autoParam (X.fn x=true\/X.env.scope.names.lookup x=some .local) au0._auto_1):
  MS X E Γl Γ (.Assign [.Name x pos'] e pos) (zu i t) (Γ.set i .shr):=z1B nd hi hl h hc hx hs hf
def pgn (i:Nat){x:Str}(nd:X.N.Nodup)(hi:autoParam (X.N[i]?=some x) au3._auto_1)(hx:autoParam (Loc X.env.scope x) au7._auto_1)(hf:autoParam (X.fn x=true\/X.env.scope.names.lookup x=some .local) au0._auto_1):PG X (.Name x pos) (Za i):=z28 nd hi hx hf
def app (i:Nat){x:Str}{p0 p1 p2:Pos}(h:MV X E Γ e t Γ1)(hN:autoParam (X.N[i]?=some x) au3._auto_1)(h0:autoParam (Γ[i]?=some .own) au3._auto_1)(hk:autoParam (Γ1[i]?=some .own) au3._auto_1)(hv:autoParam (Vis X.env.scope x) au5._auto_1)(hb:autoParam (nDb x) au1._auto_1)(hcd:autoParam ((x==("__classdict__":Str))=false) au1._auto_1)
  (hbase:autoParam (jKd (.Name x p0) "append" X.env (eval (.Name x p0) X.env)=eval (.Name x p0) X.env) au3._auto_1)
  (hfew:autoParam (((jNd p2 (jMj [e] X.env)).all (fun x=>!x.1)&&(jMh p2 (jKh [] X.env)).all (fun x=>x.1.isSome)&&decide ([e].length+([]:List jMk).length+(if ([]:List jMk).isEmpty then 0 else 1)<30))=true) au3._auto_1)
  (hline:autoParam ((p1.endLine==p2.line)=true) au3._auto_1) (hs:autoParam (jMj [e] X.env=(false,eval e X.env)::jMj [] X.env) au3._auto_1) (hplain:autoParam ((jNd p2 (jMj [] X.env)).any (·.1)=false) au3._auto_1)
  (hsw:autoParam (jMf (.Call (.Attribute (.Name x p0) "append" p1) [e] [] p2) none pos.line X.env=pure false) au3._auto_1):
  MS X E Γl Γ (.Expr (.Call (.Attribute (.Name x p0) "append" p1) [e] [] p2) pos) (vq i t) Γ1:=JC hN h0 h hk hv hb hcd hbase hfew hline hs hplain hsw
def put (i:Nat){x:Str}{p0 p1:Pos}{ix:Expr}{ti:Tn->R D}(h:MV X E Γ e t Γ1)(hi:ME X E Γ1 ix ti c)(hN:autoParam (X.N[i]?=some x) au3._auto_1)(hk:autoParam (Γ1[i]?=some .own) au3._auto_1)(hv:autoParam (Vis X.env.scope x) au5._auto_1)(hb:autoParam (nDb x) au1._auto_1)(hcd:autoParam ((x==("__classdict__":Str))=false) au1._auto_1)
  (ha:autoParam (∀v,assign (.Subscript (.Name x p0) ix p1) X.env v=(do
   let ov <-holding [v] (eval (.Name x p0) X.env)
   let iv <-holding [v,ov] (eval ix X.env)
   standAt p1
   holding [v,ov,iv] (setItem ov iv v)
   release [v,ov,iv] [])) au2._auto_1)
  (hs:autoParam (swapsWithSole [.Subscript (.Name x p0) ix p1] e pos.line X.env=pure false) au3._auto_1) (hw:autoParam (swappedStores [.Subscript (.Name x p0) ix p1] e X.env=pure none) au3._auto_1)
  (h1:autoParam ((jMa [.Subscript (.Name x p0) ix p1] X.env).map (·.2)=[assign (.Subscript (.Name x p0) ix p1) X.env]) au3._auto_1):
  MS X E Γl Γ (.Assign [.Subscript (.Name x p0) ix p1] e pos) (JI i t ti) Γ1:=z4t hN h hi hk hv hb hcd ha hs hw h1
def aug (i:Nat)(k:Cl){x:Str}{op:Operator}{r:R2}{g:D->D->R D}(nd:X.N.Nodup)(hB:OpB X.K r g)(hn:x8 g)(ho:PIp X op r)(h:ME X E Γ e t c)(hi:autoParam (X.N[i]?=some x) au3._auto_1)(hk:autoParam (Γ[i]?=some k) au3._auto_1)(hkd:autoParam (k≠.dead) au1._auto_1)(hx:autoParam (Loc X.env.scope x) au7._auto_1)
  (hf:autoParam (X.fn x=true\/X.env.scope.names.lookup x=some .local) au0._auto_1):MS X E Γl Γ (.AugAssign (.Name x pos') op e pos) (qV i g t) (Γ.set i .own):=z5l nd hi hk hkd hB hn ho h hx hf
def stC (i:Nat){x:Str}{N':List Str}{fr:List (Option Nat)}{scope:Scope}{tg iter elt:Expr}{ifs:List Expr}{it:Tn->R (List D)}{g:Tgt}{cnd:Tn->R Bool}{te:Tn->R D}{ci:Rc}{cpos:Pos}(nd:X.N.Nodup)(hc:X.calm=true)(S:CompScope X N' fr scope)(hi:MI X E Γ tg iter it ci)
  (hg:∀s₃ H₃ fp jNf,MG (zP X scope N' s₃ H₃ fp jNf) tg g) (ht:∀s₃ H₃ fp jNf,MTs (zP X scope N' s₃ H₃ fp jNf) noX (zW (Cl.ofIt ci) (zK fr Γ) g.slots) ifs cnd)
  (he:∀s₃ H₃ fp jNf,ME (zP X scope N' s₃ H₃ fp jNf) noX (zW (Cl.ofIt ci) (zK fr Γ) g.slots) elt te .fresh) (hd:∀j∈g.slots,(zK fr Γ)[j]?=some .dead)
  (hix:autoParam (X.N[i]?=some x) au3._auto_1) (hl:autoParam (i<Γ.length) au1._auto_1) (hx:autoParam (Loc X.env.scope x) au7._auto_1) (hsw:autoParam (jMf (.ListComp elt [⟨tg,iter,ifs,0⟩] scope cpos) (some (.Name x pos')) pos.line X.env=pure true) au3._auto_1)
  (hs:autoParam (∀x,jYg iter X.env x=pure x) au2._auto_1) (hf:autoParam (X.fn x=true\/X.env.scope.names.lookup x=some .local) au0._auto_1):
  MS X E Γl Γ (.Assign [.Name x pos'] (.ListComp elt [⟨tg,iter,ifs,0⟩] scope cpos) pos) (zu i (zS fr it g cnd te)) (Γ.set i .own):=z3r hc S hi hg ht he hd nd hix hl hx hsw hs hf
end
section
variable {P:jNa}{w:World}{K:jJa}{mg:Str->Option Value}{base:Heap}{x:Str}{st:Stmt}{N ps:List Str}{k:Nat}{t:Tn->R Fl}{Γ':List Cl}
def z56 {f:Addr}{oc:Value}{od an:Option Addr}{osl:Array (Option Value)}{kV doc pm cdv ct:Value}(lk:K.lookup f=some ⟨oc,od,.func (jJd x x (defArgs st) (defBody st) (defScope st) .none kV doc pm an cdv ct),osl⟩)(hcd:jJg K cdv x=true)
  (S:FnScope N ps (defScope st)) (hn:ps.length<=N.length)
  (hbody:∀(f:Addr) (cdv:Value) (A:jNb) (outer:List Env) (s:jNc) (H:Hp) (E:XK),Room k (A.deeper (envOfC x (defScope st) s.heap.objs.size f cdv)) ->
   MSs (yZ (cxx P w) P w K mg base N x (defScope st) f cdv A outer s H E) E [] (j6 N.length ps.length) (defBody st) t Γ'):
  FnOk P w K mg base (cxx P w) (k+1) f (jJd x x (defArgs st) (defBody st) (defScope st) .none kV doc pm an cdv ct) ps (spM K (zC N.length t) ps.length):=by
 refine QU lk hcd S (fun vs H Q E h=>h.1) fun A outer s H vs Q E hr h=>?_;obtain⟨hl,ds,L,r,h⟩:=h;obtain⟨ts,p,q⟩:=hbody f cdv A outer s H E hr;refine⟨ts,p,q H (start N vs) H _ _ (hl▸SOk.start r (by lia)) ?_⟩;unfold zC at h;cases ht:t (ds.map some++List.replicate (N.length-ds.length) none)with
 | ok f =>
  rw[ht]at h;cases f with
  | nx τ'=>exact fun σ' H' ok'=>h .non H' [] ok'.ext ⟨rfl,rfl⟩ RcOk.nil
  | rt d=>exact fun v H' L s r n1 n2=>h v H' L s r ⟨n1,n2⟩
  | bk τ'=>exact h.elim
  | ct τ'=>exact h.elim
 | err n=>rw[ht]at h;exact fun C H' e s=>h C H' e s
 | bad=>rw[ht]at h;exact h.elim
end
theorem Xm:∀ns:List Int,D.imms (ns.map D.int)=true
 | []=>rfl
 | n::ns=>by rw[tK];show (true&&D.imms (ns.map D.int))=true;rw[Xm ns];rfl
theorem XC {K:jJa}{H:Hp}:∀ns:List Int,Reps K H (ns.map D.int) (ns.map V.int) []
 | []=>Reps.nil
 | n::ns=>Reps.cons (L1:=[]) ⟨rfl,rfl⟩ (XC ns)
def z1U {K:jJa}{H:Hp}{a:Addr}{ns:List Int}{F:List D->R D}(hO:z2l H)(hS:SqL K H a (ns.map V.int))(hF:F [.frl (ns.map D.int)]=.ok (.bl true)):spM K F 1 [.ref a] H (fun v _=>v=.bl true) fun _ _ _=>False:=by
 have hs:SqF K H a (ns.map V.int):=by
  rcases hS with (z|z)|z
  ·rcases hO a with w|⟨o,xs,w⟩
   ·rw[w]at z;cases z
   ·rw[w]at z;cases z
  ·exact .inl z
  ·exact .inr z
 refine⟨rfl,[.frl (ns.map D.int)],[],Reps.cons (L1:=[]) ⟨a,ns.map V.int,rfl,hs,rfl,Xm ns,XC ns⟩ Reps.nil,?_⟩;rw[hF];exact fun v H' L s r _=>r.1
def law_walk {Fm:List D->R D}{k:Nat}{x:Str}{l:PySem.W.OpenLaw}{q:jNa}{loose:List Str}{XP:(Str->Option Value)->Heap->Prop}{YP:World->Heap->Prop}{d:DefRec}{K:Params->jJa}(hF:∀ns:List Int,ns.length<=63->Fm [.frl (ns.map D.int)]=.ok (.bl true))(hr:Room k callerA)(hn:l.most=some 63)(hdf:d.params.defaults=[])
  (hY:∀(w:World) (h:Heap),YP w h->(K w.params).In h)
  (F:∀(w:World) (mg:Str->Option Value) (fa:Addr) (h:Heap),(K w.params).In h->h.Ns jKi mg->mg d.name=some (.ref fa) ->
   ∃fd:FuncData,(∀(s:jNc) (u:Value),BindsTo s fd ⟨[u],[]⟩ [(x,u)])/\∀base:Heap,(K w.params).In base->base.Ns jKi mg->FnOk l.prog w (K w.params) mg base (cxx l.prog w) k fa fd [x] (spM (K w.params) Fm 1)):
  PySem.W.WalkO q loose XP YP l.row.toRowW d [] (fun f vs=>PySem.call f vs):=
 L2.walk_of (n:=63) (k:=k) (x:=x) (CX:=fun w=>cxx l.prog w) (sp:=fun w=>spM (K w.params) Fm 1) hn (by decide) hdf hr hY F (fun w H a ns hl hO hS=>z1U hO hS (hF ns hl)) fun w H s e s' z=>KS z
section
variable {i j:Int}{C:Int->Int->Bool}{g:Int->Int->D}
def z4y:zB (.int i) (.int j)=.ok (.int (i+j)):=rfl
def z1i:L2.intD C g (.int i) (.int j)=if C i j=true then .ok (g i j) else .bad:=rfl
def z2k (h1:-(2 ^ 64)<j)(h2:j<2 ^ 64):vC (.int i) (.int j)=.ok (.int (i*j)):=by
 have:((decide (-(2 ^ 64)<i)&&decide (i<2 ^ 64))||(decide (-(2 ^ 64)<j)&&decide (j<2 ^ 64)))=true:=by rw[decide_eq_true h1,decide_eq_true h2];simp
 exact jNg this
def z2s (h1:-(2 ^ 64)<i)(h2:i<2 ^ 64):vC (.int i) (.int j)=.ok (.int (i*j)):=by
 have:((decide (-(2 ^ 64)<i)&&decide (i<2 ^ 64))||(decide (-(2 ^ 64)<j)&&decide (j<2 ^ 64)))=true:=by rw[decide_eq_true h1,decide_eq_true h2];simp
 exact jNg this
def z2e (h1:-18446744073709551616<j)(h2:j<18446744073709551616):vC (.int i) (.int j)=.ok (.int (i*j)):=z2k (by lia) (by lia)
def z3f (h1:-18446744073709551616<i)(h2:i<18446744073709551616):vC (.int i) (.int j)=.ok (.int (i*j)):=z2s (by lia) (by lia)
def z1I (h1:0<j)(h2:j<1073741824):y9 (.int i) (.int j)=.ok (.int (i/j)):=by
 simp[y9,z1i,h1,h2]
def z4j (h1:0<j):yj (.int i) (.int j)=.ok (.int (i%j)):=by
 simp[yj,z1i,h1]
def Wy {neg:Bool}:eqR neg (.int i) (.int j)=.ok (.bl (if neg=true then !(i==j) else i==j)):=by
 cases neg<;>rfl
def uY {neg:Bool}:eqR neg (.str x) (.str y)=.ok (.bl (if neg=true then !(x==y) else x==y)):=by
 cases neg<;>rfl
end
def xA {i:Int}(h0:0<=i)(h:xs[i.toNat]?=some x):atI xs i=some x:=by
 have hj:i.toNat<xs.length:=(tN.mp h).1;have:=uh h;rw[Int.toNat_of_nonneg h0]at this;exact this
def xf {i:Int}(h:atI ds i=some d):ixD (.lst ds) (.int i)=.ok d:=by show (match atI ds i with|some d=>R.ok d|none=>R.bad)=_;rw[h]
def z4V {i:Int}(h:atI ds i=some d):ixD (.frl ds) (.int i)=.ok d:=by show (match atI ds i with|some d=>R.ok d|none=>R.bad)=_;rw[h]
def US {i:Int}{c:Nat}(hz:x.length<=jMi)(h:atI x.cps.toList i=some c):ixD (.str x) (.int i)=.ok (.str ⟨#[c]⟩):=by show (if x.length<=jMi then (match atI x.cps.toList i with|some c=>R.ok (D.str ⟨#[c]⟩)|none=>R.bad) else R.bad)=_;rw[jNg hz,h]
def yE:ixD (.tup (a::ds)) (.int 0)=.ok a:=by
 have:atI (a::ds) 0=some a:=uh (j:=0) rfl;show (match atI (a::ds) 0 with|some d=>R.ok d|none=>R.bad)=_;rw[this]
def Yk:ixD (.tup (a::b::ds)) (.int 1)=.ok b:=by
 have:atI (a::b::ds) 1=some b:=uh (j:=1) rfl;show (match atI (a::b::ds) 1 with|some d=>R.ok d|none=>R.bad)=_;rw[this]
def z4s:ixD (.tup (a::b::c::ds)) (.int 2)=.ok c:=by
 have:atI (a::b::c::ds) 2=some c:=uh (j:=2) rfl;show (match atI (a::b::c::ds) 2 with|some d=>R.ok d|none=>R.bad)=_;rw[this]
def Qz:ya [.lst ds]=.ok (.int ds.length):=rfl
def z1E:ya [.frl ds]=.ok (.int ds.length):=rfl
def V5 (h:x.length<=jMi):ya [.str x]=.ok (.int x.length):=jNg h
theorem ZU:∀ns:List Int,ja (ns.map D.int)=some ns
 | []=>rfl
 | n::ns=>by rw[tK];show (ja (ns.map D.int)).map (n::·)=_;rw[ZU ns];rfl
def z4x {ns:List Int}:YG [.lst (ns.map D.int)]=.ok (.int ns.sum):=by
 simp only[YG,ZU]
theorem xj {α:Type}{f:α->D}(h:∀a,(f a).imm=true):∀xs:List α,D.imms (xs.map f)=true
 | []=>rfl
 | x::xs=>by rw[tK];show ((f x).imm&&D.imms (xs.map f))=true;rw[h,xj h xs];rfl
theorem vd {α:Type}{enc:α->D}{f:D->R (Option D)}{o:α->Option D}:∀ {xs:List α},(∀x∈xs,f (enc x)=.ok (o x))->xE f (xs.map enc)=.ok (xs.filterMap o)
 | [],_=>rfl
 | x::xs,h=>by
  rw[tK];unfold xE;rw[h x tG,jYa,vd fun y hy=>h y (tH _ hy),jYa];cases ho:o x with
  | none=>simp[rF,ho]
  | some d=>simp[rF,ho]
def rng_len {lo:Int}{n:Nat}:(rng lo n).length=n:=by simp[rng]
def z33 {j:Int}(h1:-(2 ^ 62)<=j)(h2:j<2 ^ 62):j5 [.int j]=.ok (rng 0 j.toNat):=jNg ⟨h1,h2⟩
def z2d {i j:Int}(h1:-(2 ^ 62)<=i)(h2:i<2 ^ 62)(h3:-(2 ^ 62)<=j)(h4:j<2 ^ 62):z5X [.int i,.int j]=.ok (rng i (j-i).toNat):=jNg ⟨h1,h2,h3,h4⟩
def kf {α:Type}(a:α):Jl (R.ok a)=.ok a:=rfl
def z53 {a b:Nat}(hb:b<=xs.length)(hab:a<=b):jd xs (some (a:Int)) (some (b:Int))=(xs.drop a).take (b-a):=by
 unfold jd;rw[HT.sIx_nat,HT.sIx_nat];congr 1
 ·lia
 ·congr 1;lia
def z1W (h:x.length+y.length<=jMi):zB (.str x) (.str y)=.ok (.str (x++y)):=jNg h
def z5c {i j:Int}:Zn (.int i) (.int j)=.ok (.int (i-j)):=rfl
def Qp {i j:Int}:ltD (.int i) (.int j)=.ok (.bl (decide (i<j))):=rfl
def ZX {i j:Int}:leD (.int i) (.int j)=.ok (.bl (decide (i<=j))):=rfl
def Ji {i j:Int}:gtD (.int i) (.int j)=.ok (.bl (decide (j<i))):=rfl
def z7b {i j:Int}:geD (.int i) (.int j)=.ok (.bl (decide (j<=i))):=rfl
def z4J {i:Int}:uJ (.int i)=.ok (.int (-i)):=rfl
def Wt {b:Bool}:jG [.bl b]=.ok (.int (if b then 1 else 0)):=rfl
def UH {lo hi:Option Int}(h:D.imms ds=true):slD (.lst ds) lo hi=.ok (.lst (jd ds lo hi)):=jNg h
def Wl {α β:Type}(f:α->β)(xs:List α)(lo hi:Option Int):jd (xs.map f) lo hi=(jd xs lo hi).map f:=by
 unfold jd;rw[tJ,List.map_drop.symm,List.map_take]
def Zq {α β:Type}(f:α->β)(xs:List α):xs.filterMap (fun x=>some (f x))=xs.map f:=by
 induction xs with
 | nil=>rfl
 | cons x xs ih=>simp
def z7C {α β:Type}(p:α->Bool)(f:α->β)(xs:List α):xs.filterMap (fun x=>if p x=true then some (f x) else none)=(xs.filter p).map f:=by
 induction xs with
 | nil=>rfl
 | cons x xs ih =>
  by_cases h:p x=true
  ·simp[rF,h,ih]
  ·simp[rF,h,ih]
theorem Y1 {f:D->D->Option Bool}:∀ {ds:List D},(∀d∈ds,f d d=some true)->yn f ds ds=some true
 | [],_=>rfl
 | d::ds,h=>by
  unfold yn;rw[h d tG,Y1 fun x hx=>h x (tH _ hx)]
  rfl
def ud (n:Nat)(i j:Str):eqF n (.str i) (.str j)=some (i==j):=by cases n<;>rfl
def Zx (n:Nat){xs:List D}(h:∀d∈xs,eqF n d d=some true):eqF (n+1) (.tup xs) (.tup xs)=some true:=by
 show (yn (eqF n) xs xs).map _=_;rw[Y1 h];simp
def z22 (ys:List D):R D:=if ys.length<=jMi then .ok (.lst ys) else .bad
def WM (h:ys.length<=16777216):z22 ys=.ok (.lst ys):=jNg (by rw[jKj];exact h)
def wN {fr:List (Option Nat)}{c:Tn->R Bool}:zS fr it g c e τ=(it τ).bind fun xs=>(xE (vw g.asg c e (wu fr τ)) xs).bind z22:=rfl
def qg:wu [] τ=[]:=rfl
def qr {fr:List (Option Nat)}:wu (none::fr) τ=none::wu fr τ:=rfl
def V2 {i:Nat}{fr:List (Option Nat)}:wu (some i::fr) τ=(τ[i]?).join::wu fr τ:=rfl
def z2n:(some a).join=a:=rfl
def z86 (d:D):R D:=if d.imm=true then .ok d else .bad
def z24:uT t τ=(t τ).bind z86:=rfl
def z1G {i:Int}:z86 (.int i)=.ok (.int i):=rfl
def goF (asg:D->Tn->R Tn)(body:Tn->R Fl)(ds:List D):Fl->R Fl
 | .nx τ2=>xx asg body ds τ2
 | .ct τ2=>xx asg body ds τ2
 | .bk τ2=>.ok (.nx τ2)
 | .rt r=>.ok (.rt r)
def Zu:xx asg body (d::ds) τ=(asg d τ).bind fun τ1=>(body τ1).bind (goF asg body ds):=rfl
def Xp:List D->R D
 | [.int i,.int j]=>.ok (.int (if j<i then j else i))
 | _=>.bad
def z50:yQ Xp:=fun ds n h=>by unfold Xp at h;split at h<;>cases h
def z5q {K:jJa}:ClB K (fun xs H Q=>∃i j,xs=[.int i,.int j]/\Q (.int (if j<i then j else i)) H) Xp:=by
 rintro H xs ds L Q r ⟨d,hg,q⟩;unfold Xp at hg;split at hg
 ·cases hg;obtain⟨v,v',L1,L2,rfl,_,⟨rfl,_⟩,⟨rfl,_⟩⟩:=z78 r;exact⟨_,_,rfl,q _ H [] (Same.refl H) ⟨rfl,rfl⟩ (by simp) (fun a ha=>nomatch ha)⟩
 ·cases hg
def vOf:D->V
 | .non=>.non
 | .bl b=>.bl b
 | .int i=>.int i
 | .str s=>.str s
 | _=>.non
def vU {K:jJa}{H:Hp}{d:D}{v:V}{L:List Addr}(r:Rep K H d v L)(h:d.isS=true):v=vOf d/\qM v=true:=by
 cases d with
 | non=>exact⟨r.1,by rw[r.1];rfl⟩
 | bl b=>exact⟨r.1,by rw[r.1];rfl⟩
 | int i=>exact⟨r.1,by rw[r.1];rfl⟩
 | str s=>exact⟨r.1,by rw[r.1];rfl⟩
 | _=>exact absurd h (by simp[D.isS])
def z2X (ha:a.isS=true)(hb:b.isS=true):eqV (vOf a) (vOf b)=eqS a b:=by
 cases a<;>cases b<;>first|rfl|(simp[D.isS]at ha;done)|(simp[D.isS]at hb;done)
theorem ko {K:jJa}{H:Hp}:∀ {ds:List D} {vs:List V} {L:List Addr},Reps K H ds vs L->ds.all D.isS=true->vs=ds.map vOf/\vs.all qM=true
 | [],_,_,hq3,_=>by
  obtain⟨e,_⟩:=hq3;subst e;exact⟨rfl,rfl⟩
 | d::ds,_,_,hq3,h=>by
  obtain⟨v,vs',L1,L2,e1,e2,r1,r2⟩:=hq3;subst e1;rw[rP,sR]at h;obtain⟨a,b⟩:=vU r1 h.1;obtain⟨c,d⟩:=ko r2 h.2;refine⟨by rw[tK,<-a,<-c],by rw[rP,b,d];rfl⟩
theorem WB (hx:x.isS=true):∀ {ds:List D},ds.all D.isS=true->inV (vOf x) (ds.map vOf)=ds.any fun d=>eqS d x
 | [],_=>rfl
 | d::ds,h=>by
  rw[rP,sR]at h;have ih:=WB hx (ds:=ds) h.2;unfold inV at *;rw[tK,List.any_cons,List.any_cons,ih,z2X h.1 hx]
def inD (neg:Bool)(x y:D):R D:=match y with
 | .lst ds=>if (x.isS&&ds.all D.isS)=true then .ok (.bl (if neg=true then !(ds.any fun d=>eqS d x) else ds.any fun d=>eqS d x)) else .bad
 | .tup ds=>if (x.isS&&ds.all D.isS)=true then .ok (.bl (if neg=true then !(ds.any fun d=>eqS d x) else ds.any fun d=>eqS d x)) else .bad
 | _=>.bad
def z8Y {neg:Bool}:x8 (inD neg):=fun x y n h=>by
 unfold inD at h;split at h
 ·split at h<;>cases h
 ·split at h<;>cases h
 ·cases h
def z8U {K:jJa}{neg:Bool}:OpB K (rIn K neg) (inD neg):=by
 rintro H x y dx dy Lx Ly Q rx ry ⟨d,hg,q⟩;unfold inD at hg;split at hg
 ·rename_i ds;split at hg
  ·rename_i hz;cases hg;rw[sR]at hz;obtain⟨a,vs,L',rfl,ha,_,rs⟩:=ry;obtain⟨e1,f1⟩:=vU rx hz.1;obtain⟨e2,f2⟩:=ko rs hz.2;refine⟨a,vs,rfl,.inl (SqL.of ha),f1,f2,?_⟩;rw[e1,e2,WB hz.1 hz.2];exact q _ H [] (Same.refl H) ⟨rfl,rfl⟩ (by simp) (fun a ha=>nomatch ha)
  ·cases hg
 ·rename_i ds;split at hg
  ·rename_i hz;cases hg;rw[sR]at hz;obtain⟨a,vs,rfl,ha,rs⟩:=ry;obtain⟨e1,f1⟩:=vU rx hz.1;obtain⟨e2,f2⟩:=ko rs hz.2;refine⟨a,vs,rfl,.inr ha,f1,f2,?_⟩;rw[e1,e2,WB hz.1 hz.2];exact q _ H [] (Same.refl H) ⟨rfl,rfl⟩ (by simp) (fun a ha=>nomatch ha)
  ·cases hg
 ·cases hg
def zV:List D->R D
 | [.lst ds]=>if D.imms ds=true then .ok (.tup ds) else .bad
 | [.tup ds]=>if D.imms ds=true then .ok (.tup ds) else .bad
 | _=>.bad
def xF:yQ zV:=fun ds n h=>by
 unfold zV at h;split at h
 ·split at h<;>cases h
 ·split at h<;>cases h
 ·cases h
def xB {K:jJa}:ClB K (fun xs H Q=>∃p ys,xs=[.ref p]/\((SqL K H p ys/\∀l,H l=none->Q (.ref l) (upd H l (.tup ys)))\/(SqT K H p ys/\Q (.ref p) H))) zV:=by
 rintro H xs ds L Q r ⟨d,hg,q⟩;unfold zV at hg;split at hg
 ·split at hg
  ·rename_i ds hz;cases hg;obtain⟨v,rfl,a,vs,L',rfl,ha,_,rs⟩:=wZ r;have rs0:=xh rs hz;refine⟨a,vs,rfl,.inl ⟨SqL.of ha,fun l hl=>q _ _ [] (Same.new hl) ⟨l,vs,rfl,SqT.of zz,rs0.same (Same.new hl)⟩ (by simp) (fun a ha=>nomatch ha)⟩⟩
  ·cases hg
 ·split at hg
  ·rename_i ds hz;cases hg;obtain⟨v,rfl,a,vs,rfl,ha,rs⟩:=wZ r;have rs0:=xh rs hz;exact⟨a,vs,rfl,.inr ⟨ha,q _ H [] (Same.refl H) ⟨a,vs,rfl,ha,rs0⟩ (by simp) (fun a ha=>nomatch ha)⟩⟩
  ·cases hg
 ·cases hg
theorem YJ:∀ {bs:List Bool} {us:List Value},Vals (bs.map V.bl) us->us=bs.map Value.bool
 | [],us,r=>by cases r;rfl
 | b::bs,_,r=>by
  rw[tK]at r;cases r with
  | cons r1 r2 =>
   obtain rfl:_=Value.bool b:=r1;rw[tK,YJ r2]
def z0c (bs:List Bool):((List.range bs.length).all fun i=>(bs[i]?).getD true)=bs.all id:=by
 rw[Bool.eq_iff_iff,sD,sD];constructor
 ·intro h b hb;obtain⟨i,hi,e⟩:=List.getElem_of_mem hb;have:=h i (List.mem_range.mpr hi);rw[sO hi,e]at this;exact this
 ·intro h i hi;have hi:=List.mem_range.mp hi;rw[sO hi];exact h _ (pP hi)
def z3J (K:jJa):List V->Hp->VK->Prop:=fun xs H Q=>∃(p:Addr) (bs:List Bool),xs=[.ref p]/\SqL K H p (bs.map V.bl)/\Q (.bl (bs.all id)) H
section
def yU (hc:X.calm=true):CallR X (.builtin "all") (z3J X.K):=by
 intro jNf s σ H xs us Q I r h;obtain⟨p,bs,rfl,hs,q⟩:=h;obtain⟨u,rfl,ru⟩:=wO r;obtain rfl:u=Value.ref p:=ru;obtain⟨its,rv,pl,hz⟩:=I.list hs;have e:=YJ rv;subst e;have hl:s.heap.IsList p (bs.map Value.bool).toArray:=pl.isList;have hlt:p<s.heap.objs.size:=by obtain⟨_,e,_⟩:=hl;exact jYc e
 refine call_all_walk (wpAny_pyIter_list hl ?_);refine⟨_,_,_,_,_,_,fun i=>(bs[i]?).getD true,rfl,Walks.list (A:=X.A.in1) (I.ok.hd hc) _ p (sV hlt) (bs.map Value.bool).toArray,⟨⟨_,jYd _ rfl,rfl,rfl⟩,hl.push _⟩,fun i v s' Q' E' hP hQ=>?_,fun h' tk hk=>?_⟩
 ·have hP:(bs.map Value.bool)[i]?=some v:=by simpa using hP
  rw[sL]at hP;cases hb:bs[i]? with
  | none=>rw[hb]at hP;cases hP
  | some b =>
   rw[hb]at hP;cases hP;simp only[hb,Option.getD_some]at hQ;exact jYi hQ
 ·have e:((List.range (bs.map Value.bool).toArray.size).all fun i=>(bs[i]?).getD true)=bs.all id:=by
   rw[tY,tJ];exact z0c bs
  rw[e];refine⟨.bl (bs.all id),H,I.kept fun b o eb=>hk b o (fun hm=>?_) (jYb _ eb),rfl,q⟩;rw[sG.mp hm]at eb;exact pI _ (jYc eb)
end
def wJ:List D->Option (List Bool)
 | []=>some []
 | .bl b::ds=>(wJ ds).map (b::·)
 | _=>none
theorem jM {K:jJa}{H:Hp}:∀ {ds:List D} {bs:List Bool} {vs:List V} {L:List Addr},Reps K H ds vs L->wJ ds=some bs->vs=bs.map V.bl
 | [],bs,_,_,hq4,h=>by
  obtain⟨e,_⟩:=hq4;cases h;exact e
 | .bl b::ds,bs,_,_,hq4,h=>by
  obtain⟨v,vs',L1,L2,e1,e2,r1,r2⟩:=hq4;unfold wJ at h;cases hb:wJ ds with
  | none=>rw[hb]at h;cases h
  | some cs =>
   rw[hb]at h;cases h;rw[e1,r1.1,jM r2 hb]
   rfl
 | .non::_,_,_,_,_,h=>by cases h
 | .int _::_,_,_,_,_,h=>by cases h
 | .str _::_,_,_,_,_,h=>by cases h
 | .tup _::_,_,_,_,_,h=>by cases h
 | .lst _::_,_,_,_,_,h=>by cases h
 | .dic _ _::_,_,_,_,_,h=>by cases h
 | .frl _::_,_,_,_,_,h=>by cases h
 | .obj _ _ _::_,_,_,_,_,h=>by cases h
def uE:List D->R D
 | [.lst ds]=>match wJ ds with
  | some bs=>.ok (.bl (bs.all id))
  | none=>.bad
 | _=>.bad
def qL:yQ uE:=fun ds n h=>by
 unfold uE at h;split at h
 ·split at h<;>cases h
 ·cases h
def qO {K:jJa}:ClB K (z3J K) uE:=by
 rintro H xs ds L Q r ⟨d,hg,q⟩;unfold uE at hg;split at hg
 ·split at hg
  ·rename_i ds bs hn;cases hg;obtain⟨v,rfl,a,vs,L',rfl,ha,_,rs⟩:=wZ r;exact⟨a,bs,rfl,by rw[<-jM rs hn];exact SqL.of ha,q _ H [] (Same.refl H) ⟨rfl,rfl⟩ (by simp) (fun a ha=>nomatch ha)⟩
  ·cases hg
 ·cases hg
def eSm (g:Str->List D->R D)(t:Tn->R D)(u:Tn->R (List D)):Tn->R D:=fun τ=>(t τ).bind fun d=>match d with
 | .str z=>(u τ).bind fun ds=>g z ds
 | _=>.bad
def SmB (K:jJa)(r:V->List V->Hp->VK->Prop)(g:Str->List D->R D):Prop:=
 ∀H z xs ds L (Q:VK),Reps K H ds xs L->(∃d,g z ds=.ok d/\∀v H' L',Same H H'->Rep K H' d v L'->L'.Nodup->(∀a∈L',H a=none)->Q v H')->r (.str z) xs H Q
section
variable {X:Cx}{E:XK}{Γ:List Cl}{o e:Expr}{es:List Expr}{t:Tn->R D}{u:Tn->R (List D)}{c ca:Rc}{name:Str}{apos cpos:Pos}{id:String}
def zL {r:V->List V->Hp->VK->Prop}{g:Str->List D->R D}(pa:PlainAttrs "str")(slot:Slot "str" name id)(hty:typeOf (.builtin id)=pure (.type "method_descriptor"))(hm:MtR X id r)(hB:SmB X.K r g)(hn:∀z,yQ (g z))(ho:ME X E Γ o t c)(ha:MA X E Γ (e::es) u ca)
  (hbase:autoParam (jKd o name X.env (eval o X.env)=eval o X.env) au3._auto_1)
  (hfew:autoParam (((jNd cpos (jMj (e::es) X.env)).all (fun x=>!x.1)&&(jMh cpos (jKh [] X.env)).all (fun x=>x.1.isSome)
   && decide ((e::es).length+([]:List jMk).length+(if ([]:List jMk).isEmpty then 0 else 1)<30))=true) au3._auto_1)
  (hline:autoParam ((apos.endLine==cpos.line)=true) au3._auto_1) (hs:autoParam (jMj (e::es) X.env=(false,eval e X.env)::jMj es X.env) au3._auto_1) (hplain:autoParam ((jNd cpos (jMj es X.env)).any (·.1)=false) au3._auto_1):
  ME X E Γ (.Call (.Attribute o name apos) (e::es) [] cpos) (eSm g t u) .fresh:=by
 obtain⟨te,p,q⟩:=ho;obtain⟨_,ta',p',q'⟩:=ha;refine⟨_,Qk pa slot hty hm p p' hbase hfew hline hs hplain,fun O σ H τ Q ok h=>?_⟩;unfold eSm at h;refine q O σ H τ _ ok (post.bind h fun d hd h x H1 L1 s1 r1 _=>?_);cases d with
 | str z =>
  obtain⟨rfl,_⟩:=r1;refine⟨rfl,q' O σ H1 τ _ (ok.same s1) ?_⟩;dsimp only at h;cases hu:u τ with
  | ok ds =>
   rw[hu,jYa]at h;refine fun vs H2 L s2 r2 _=>?_;cases hg:g z ds with
   | ok d =>
    rw[hg]at h;exact hB H2 z vs ds L Q r2 ⟨d,hg,fun v H' L s r n1 n2=>h v H' L ((s1.trans s2).trans s) r ⟨n1,fun a ha=>(s1.trans s2).non (n2 a ha)⟩⟩
   | err n=>exact absurd hg (hn _ _ _)
   | bad=>rw[hg]at h;exact h.elim
  | err n=>rw[hu]at h;exact fun C H' e s'=>h C H' e (s1.trans s')
  | bad=>rw[hu]at h;exact h
 | _=>exact h.elim
end
def uX:List D->Option (List Str)
 | []=>some []
 | .str b::ds=>(uX ds).map (b::·)
 | _=>none
theorem qu {K:jJa}{H:Hp}:∀ {ds:List D} {bs:List Str} {vs:List V} {L:List Addr},Reps K H ds vs L->uX ds=some bs->vs=bs.map V.str
 | [],bs,_,_,hq4,h=>by
  obtain⟨e,_⟩:=hq4;cases h;exact e
 | .str b::ds,bs,_,_,hq4,h=>by
  obtain⟨v,vs',L1,L2,e1,e2,r1,r2⟩:=hq4;unfold uX at h;cases hb:uX ds with
  | none=>rw[hb]at h;cases h
  | some cs =>
   rw[hb]at h;cases h;rw[e1,r1.1,qu r2 hb]
   rfl
 | .non::_,_,_,_,_,h=>by cases h
 | .int _::_,_,_,_,_,h=>by cases h
 | .bl _::_,_,_,_,_,h=>by cases h
 | .tup _::_,_,_,_,_,h=>by cases h
 | .lst _::_,_,_,_,_,h=>by cases h
 | .dic _ _::_,_,_,_,_,h=>by cases h
 | .frl _::_,_,_,_,_,h=>by cases h
 | .obj _ _ _::_,_,_,_,_,h=>by cases h
theorem ky:∀ {ys:List Str} {us:List Value},Vals (ys.map V.str) us->StrsAre us ys
 | [],us,r=>by cases r;exact .nil
 | y::ys,_,r=>by
  rw[tK]at r;cases r with
  | cons r1 r2 =>
   obtain⟨t,rfl⟩:=r1;exact .cons y t (ky r2)
def z3X (K:jJa):V->List V->Hp->VK->Prop:=fun x xs H Q=>∃z p ys,x=.str z/\xs=[.ref p]/\(SqL K H p (ys.map V.str)\/SqT K H p (ys.map V.str))/\(ys.map (·.length)).sum+ys.length*z.length<=16777216/\Q (.str (Txt.join z ys)) H
def zF:MtR X "str.join" (z3X X.K):=by
 intro jNf s σ H x xs v us Q I rx rs h;obtain⟨z,p,ys,rfl,rfl,hq,hz,q⟩:=h;obtain⟨t,rfl⟩:=rx;obtain⟨u,rfl,ru⟩:=wO rs;obtain rfl:u=Value.ref p:=ru;rcases hq with hq|hq
 ·obtain⟨its,r,pl,_⟩:=I.list hq;exact join_list pl.isList (by simpa using ky r) hz fun t' k=>⟨.str (Txt.join z ys),H,I.tok _,⟨t',rfl⟩,q⟩
 ·obtain⟨its,r,pl,_⟩:=I.tuple hq;exact join_tuple pl (by simpa using ky r) hz fun t' k=>⟨.str (Txt.join z ys),H,I.tok _,⟨t',rfl⟩,q⟩
def yb (z:Str):List D->R D
 | [.lst ds]=>match uX ds with
  | some ys=>if (ys.map (·.length)).sum+ys.length*z.length<=16777216 then .ok (.str (Txt.join z ys)) else .bad
  | none=>.bad
 | [.tup ds]=>match uX ds with
  | some ys=>if (ys.map (·.length)).sum+ys.length*z.length<=16777216 then .ok (.str (Txt.join z ys)) else .bad
  | none=>.bad
 | _=>.bad
def y0 (z:Str):yQ (yb z):=fun ds n h=>by
 unfold yb at h;split at h
 ·split at h
  ·split at h<;>cases h
  ·cases h
 ·split at h
  ·split at h<;>cases h
  ·cases h
 ·cases h
def y6 {K:jJa}:SmB K (z3X K) yb:=by
 rintro H z xs ds L Q r ⟨d,hg,q⟩;unfold yb at hg;split at hg
 ·split at hg
  ·rename_i ds ys hn;split at hg
   ·rename_i hz;cases hg;obtain⟨v,rfl,a,vs,L',rfl,ha,_,rs⟩:=wZ r;exact⟨z,a,ys,rfl,rfl,.inl (by rw[<-qu rs hn];exact SqL.of ha),hz,q _ H [] (Same.refl H) ⟨rfl,rfl⟩ (by simp) (fun a ha=>nomatch ha)⟩
   ·cases hg
  ·cases hg
 ·split at hg
  ·rename_i ds ys hn;split at hg
   ·rename_i hz;cases hg;obtain⟨v,rfl,a,vs,rfl,ha,rs⟩:=wZ r;exact⟨z,a,ys,rfl,rfl,.inr (by rw[<-qu rs hn];exact ha),hz,q _ H [] (Same.refl H) ⟨rfl,rfl⟩ (by simp) (fun a ha=>nomatch ha)⟩
   ·cases hg
  ·cases hg
 ·cases hg
def z3S {β:Type}:List Key->List β->Key->β->List β
 | k'::ks,x::xs,k,y=>(if k'=k then y else x)::z3S ks xs k y
 | _,_,_,_=>[]
def Vr (ks:List Key)(ds:List D)(k:Key)(d:D):List Key×List D:=if k∈ks then (ks,z3S ks ds k d) else (ks++[k],ds++[d])
def z02 (i:Nat)(t ti:Tn->R D):Tn->R Fl:=fun τ=>(t τ).bind fun d=>(za i τ).bind fun l=>(ti τ).bind fun k=>match l,kS k with
 | .dic ks ds,some k=>if d.imm=true/\ks.length<jMi then .ok (.nx (τ.set i (some (.dic (Vr ks ds k d).1 (Vr ks ds k d).2)))) else .bad
 | _,_=>.bad
section
variable {X:Cx}{E:XK}{Γ Γ1 Γ' Γl:List Cl}{e a b o f:Expr}{es:List Expr}{t t' u v:Tn->R D}{c ca cb:Rc}{pos:Pos}
def z7j (ks:List Key)(ds:List D)(k z:D):R D:=match kS k with
 | some k=>if ((vH ks ds k).getD z).imm=true then .ok ((vH ks ds k).getD z) else .bad
 | none=>.bad
def z8J (t u v:Tn->R D):Tn->R D:=fun τ=>(t τ).bind fun d=>match d with
 | .dic ks ds=>(u τ).bind fun k=>(v τ).bind fun z=>z7j ks ds k z
 | _=>.bad
end
def K8 (i:Nat)(τ:Tn)(d:D):D->D->R Fl
 | .dic ks ds,k=>(match kS k with
  | some k=>if d.imm=true/\ks.length<jMi then .ok (.nx (τ.set i (some (.dic (Vr ks ds k d).1 (Vr ks ds k d).2)))) else .bad
  | none=>.bad)
 | _,_=>.bad
def z19 {i:Nat}:z02 i t ti τ=(t τ).bind fun d=>(za i τ).bind fun l=>(ti τ).bind fun k=>K8 i τ d l k:=by
 unfold z02;congr 1;funext d;congr 1;funext l;congr 1;funext k;cases l with
 | dic ks ds =>
  cases h:kS k<;>simp only[K8,h]
 | _=>rfl
def z1w {i:Nat}(hd:d.imm=true)(hl:ks.length<16777216):K8 i τ d (.dic ks ds) (.str x)=.ok (.nx (τ.set i (some (.dic (Vr ks ds (.inr x) d).1 (Vr ks ds (.inr x) d).2)))):=jNg ⟨hd,by rw[jKj];exact hl⟩
def smD (g:Str->List D->R D)(u:Tn->R (List D))(τ:Tn):D->R D
 | .str z=>(u τ).bind fun ds=>g z ds
 | _=>.bad
def Wz:eSm g t u τ=(t τ).bind (smD g u τ):=by
 unfold eSm;congr 1
def WZ:smD g u τ (.str z)=(u τ).bind fun ds=>g z ds:=rfl
theorem YD:∀ys:List Str,uX (ys.map D.str)=some ys
 | []=>rfl
 | y::ys=>by rw[tK];show (uX (ys.map D.str)).map (y::·)=_;rw[YD ys];rfl
def z1q (h:(ys.map (·.length)).sum+ys.length*z.length<=16777216):yb z [.lst (ys.map D.str)]=.ok (.str (Str.join z ys)):=by
 have e:Txt.join z ys=Str.join z ys:=eq_of_beq (join_plain_closes z ys);simp only[yb,YD,jNg h,e]
def z2P (x y:Str):(x++y).cps.toList=x.cps.toList++y.cps.toList:=by
 show (x.cps++y.cps).toList=_;simp
def QA:ya [.tup ds]=.ok (.int ds.length):=rfl
def XN (h:D.imms ds=true):zV [.lst ds]=.ok (.tup ds):=jNg h
theorem Ze:∀bs:List Bool,wJ (bs.map D.bl)=some bs
 | []=>rfl
 | b::bs=>by rw[tK];show (wJ (bs.map D.bl)).map (b::·)=_;rw[Ze bs];rfl
def Qv {bs:List Bool}:uE [.lst (bs.map D.bl)]=.ok (.bl (bs.all id)):=by
 simp only[uE,Ze]
def slA (x:D)(lo hi:Option Int):R D:=match x with
 | .lst ds=>if D.imms ds=true then .ok (.lst (jd ds lo hi)) else .bad
 | .str z=>if z.length<=jMi then .ok (.str (Txt.slice z lo hi)) else .bad
 | .tup ds=>if D.imms ds=true then .ok (.tup (jd ds lo hi)) else .bad
 | _=>.bad
def z8j (t:Tn->R D)(tl th:Tn->R (Option Int)):Tn->R D:=fun τ=>(t τ).bind fun x=>(tl τ).bind fun l=>(th τ).bind fun h=>slA x l h
def Z8 (F:List D->R D)(u:Tn->R (List D))(g:Str->Option D):Tn->R Fl:=fun τ=>match u τ with
 | .ok ds=>(match F ds with
  | .ok d=>.ok (.nx τ)
  | .err m=>(match g m with | some d=>.ok (.rt d) | none=>.bad)
  | .bad=>.bad)
 | _=>.bad
def Suite (X:Cx)(CS:Addr)(i:Nat)(sts:List Stmt)(g:Str->Option D):Prop:=∀(m:Str) (d:D),g m=some d->∀c Hx,ErrO X.K m Hx c->jJu X.K (.ref c.1) (.ref CS)=some true /\
 ∃ts:Addr->Obj->TS,(∀e oe,PSs (X.within e oe) sts (ts e oe))/\∀e oe (Z:Ends) (σ:St) (H:Hp),σ.length=X.N.length->oe.cls=.ref c.1->(oe.dict=c.2/\∃vs,oe.data=.fields vs)->ErrO X.K m H c->H e=none->σ[i]?=some (some (.ref e))->(∀v H',Same H H'->Rep X.K H' d v []->Z.rt v H')->ts e oe Z σ H
def Suite.ts {X:Cx}{CS:Addr}{i:Nat}{sts:List Stmt}{g:Str->Option D}(hs:Suite X CS i sts g)(e:Addr)(oe:Obj):TS:=fun Z σ H=>∃(m:Str) (d:L2.D) (hg:g m=some d) (c:Addr×Option Addr) (Hx:Hp) (hC:ErrO X.K m Hx c),Classical.choose (hs m d hg c Hx hC).2 e oe Z σ H
theorem Suite.pss (hs:Suite X CS i sts g)(e:Addr)(oe:Obj):PSs (X.within e oe) sts (hs.ts e oe):=by
 intro jNf s σ H Z I h;obtain⟨m,d,hg,c,Hx,hC,z⟩:=h;exact (Classical.choose_spec (hs m d hg c Hx hC).2).1 e oe jNf s σ H Z I z
section
variable {k:Nat}{nA:Nat}{i:Nat}
def z2g (O:Own X.prog X.w X.K X.mg X.base x k ps (spM X.K F nA))(hN:X.N.Nodup)(hr:Room k X.A)(hg:Gl X x)(ha:MA X.nox (fun _ _ _=>False) Γ (e::es) u c)(hgc:Gl X xc)(hmc:X.mg xc=some (.ref CS))(hi:X.N[i]?=some n)(hx:X.env.scope.names.lookup n=some .local)(hil:i<X.N.length)(hΓ:Γ.length=X.N.length)(hs:Suite X CS i (b₀::suite) g)
  (hst:autoParam (X.stack=X.env::X.outer) au3._auto_1) (hf:autoParam (X.env.frame=some X.env.locals) au3._auto_1) (hc:autoParam (X.calm=true) au3._auto_1) (hl:autoParam ((e::es).length=nA) au3._auto_1)
  (hdb:autoParam (nDb x) au1._auto_1) (hdc:autoParam (nDb xc) au1._auto_1)
  (he:autoParam (jMj (e::es) X.env=(false,eval e X.env)::jMj es X.env) au3._auto_1) (hpl:autoParam ((jNd pos (jMj es X.env)).any (·.1)=false) au3._auto_1)
  (hsw:autoParam (jMf (.Call (.Name x p) (e::es) [] pos) none pos'.line X.env=pure false) au3._auto_1):
  MS X E Γl Γ (.Try [.Expr (.Call (.Name x p) (e::es) [] pos) pos'] [.ExceptHandler (some (.Name xc pc)) (some n) (b₀::suite) hpos] [] [] tpos) (Z8 F u g) Γ:=by
 obtain⟨hlen,ta,pa,q⟩:=ha;refine⟨_,z29 O hst hf hc hN hr hg pa hgc hmc hi hx hs.pss hdb hdc he hpl hsw,fun B σ H τ Z ok h=>?_⟩;obtain⟨O',eok,_⟩:=ok.eok;refine q O' σ H τ _ eok ?_;unfold Z8 at h;cases hu:u τ with
 | ok ds =>
  rw[hu]at h;dsimp only at h;refine fun vs H1 L s r _=>?_;have hv:(vs++[]).length=nA:=by rw[tI,r.length,hlen τ ds hu];exact hl
  refine⟨hv,ds,L,by rw[tI];exact r,?_⟩;have sB:Same B H1:=ok.ext.trans s;cases hF:F ds with
  | ok d =>
   rw[hF]at h;exact fun v H' L' s' r' k'=>h σ H' (ok.same (s.trans s'))
  | err m =>
   rw[hF]at h;dsimp only at h;cases hgm:g m with
   | some d =>
    rw[hgm]at h;dsimp only at h;intro C H' hC s';refine⟨C.1,rfl,(hs m d hgm C H' hC).1,fun e1 oe hcls hdi hn=>⟨m,d,hgm,C,H',hC,?_⟩⟩;refine (Classical.choose_spec (hs m d hgm C H' hC).2).2 e1 oe _ _ H' (by rw[sQ,ok.lσ,hΓ]) hcls hdi hC hn ?_ fun v H2 s2 r2=>h v H2 [] ((sB.trans s').trans s2) r2 pZ fun a ha=>nomatch ha;rw[sA (by rw[ok.lσ,hΓ];exact hil)]
   | none=>rw[hgm]at h;exact h.elim
  | bad=>rw[hF]at h;exact h.elim
 | err m=>rw[hu]at h;exact h.elim
 | bad=>rw[hu]at h;exact h.elim
end
inductive ClVs:List V->List Value->Prop where
 | nil:ClVs [] []
 | cons {c:V} {u:Value} {cs:List V} {us:List Value} (h:ClV c u) (t:ClVs cs us):ClVs (c::cs) (u::us)
theorem ClVs.vals:∀ {cs:List V} {us its:List Value},ClVs cs us->Vals cs its->its=us
 | _,_,_,.nil,.nil=>rfl
 | _,_,_,.cons h t,.cons r rs=>by
  rw[ClVs.vals t rs];congr 1;cases h with
  | ref a=>exact r
  | ty n=>exact r
def z6k (K:jJa)(pn:List (Addr×Obj)):List V->Hp->VK->Prop:=fun xs H Q=>∃a oe C tp cs us b,xs=[.ref a,.ref tp]/\(a,oe)∈pn/\oe.cls=.ref C/\ErrI K C/\SqT K H tp cs/\ClVs cs us/\jJj K (.ref C) us=some b/\Q (.bl b) H
def Xh:CallR X (.builtin "isinstance") (z6k X.K X.pn):=by
 intro jNf s σ H xs us Q I r h;obtain⟨a,oe,C,tp,cs,cus,b,rfl,hm,hc,ci,ht,hcl,hk,q⟩:=h;obtain⟨u1,u2,rfl,rx,rc⟩:=Ve r;obtain rfl:u1=Value.ref a:=rx;obtain rfl:u2=Value.ref tp:=rc;obtain⟨e1,_⟩:=I.pin _ (tW _ hm);obtain⟨its,rv,⟨o,ho,hcls,n,hd⟩,_⟩:=I.tuple ht;have e2:=hcl.vals rv;subst e2;obtain⟨cls,dd,data,sl⟩:=o;have hcls:cls=.type "tuple":=hcls;have hd:data=.seq its.toArray n:=hd;subst hcls hd;exact PySem.W.kia_tup (Vx ci) I.kIn ⟨_,e1,hc⟩ ho hk (fun z=>by cases z) fun tk=>⟨.bl b,H,I.tok tk,rfl,q⟩
section
variable {k:Nat}{nA:Nat}{i:Nat}
def z1v (O:Own X.prog X.w X.K X.mg X.base x k ps (spM X.K F nA))(hN:X.N.Nodup)(hr:Room k X.A)(hg:Gl X x)(ha:MA X.nox (fun _ _ _=>False) Γ (e::es) u c)(hgc:Gl X xc)(hi:X.N[i]?=some n)(hx:X.env.scope.names.lookup n=some .local)(hil:i<X.N.length)(hΓ:Γ.length=X.N.length)(hs:∃CS,X.mg xc=some (.ref CS)/\Suite X CS i (b₀::suite) g)
  (hst:autoParam (X.stack=X.env::X.outer) au3._auto_1) (hf:autoParam (X.env.frame=some X.env.locals) au3._auto_1) (hc:autoParam (X.calm=true) au3._auto_1) (hl:autoParam ((e::es).length=nA) au3._auto_1)
  (hdb:autoParam (nDb x) au1._auto_1) (hdc:autoParam (nDb xc) au1._auto_1)
  (he:autoParam (jMj (e::es) X.env=(false,eval e X.env)::jMj es X.env) au3._auto_1) (hpl:autoParam ((jNd pos (jMj es X.env)).any (·.1)=false) au3._auto_1)
  (hsw:autoParam (jMf (.Call (.Name x p) (e::es) [] pos) none pos'.line X.env=pure false) au3._auto_1):
  MS X E Γl Γ (.Try [.Expr (.Call (.Name x p) (e::es) [] pos) pos'] [.ExceptHandler (some (.Name xc pc)) (some n) (b₀::suite) hpos] [] [] tpos) (Z8 F u g) Γ:=by
 obtain⟨CS,h1,h2⟩:=hs;exact z2g O hN hr hg ha hgc h1 hi hx hil hΓ h2 hst hf hc hl hdb hdc he hpl hsw
end
def isC (y:Str×NameKind):Bool:=decide (y.2=.cell)
def z3k {α:Type}{us:List α}{n:Nat}(h:us.length=n+1):∃a t,us=a::t/\t.length=n:=by
 cases us with
 | nil=>cases h
 | cons a t=>exact⟨a,t,rfl,Nat.succ.inj h⟩
def z5O {X:Cx}{E:Value->jNc->Prop}{jNf:List (Addr×Obj)}{s:jNc}{σ:St}{H:Hp}{i:Nat}{x:Str}{v:V}{pos:Pos}{Q:Value->jNc->Prop}(I:Inv X jNf σ H s)(hN:X.N[i]?=some x)(hv:Vis X.env.scope x)(e:σ[i]?=some (some v))(h:∀u,RelV v u->Q u s)
  (hd:autoParam (nDb x) au1._auto_1) (hcd:autoParam ((x==("__classdict__":Str))=false) au1._auto_1):jNe (model X.prog X.w) X.A (eval (.Name x pos) X.env) Q E s:=by
 obtain⟨m,hn,hl⟩:=I.loc;obtain⟨u,r,l⟩:=hl i x v hN e hv;rcases l with⟨hk,hm⟩|⟨hk,c,hc,hcell⟩
 ·exact wpAny_Name (wpAny_loadName_local I.ok.kind hk hn hm (h u r)) hd
 ·rcases hk with hk|hk
  ·exact wpAny_Name (wpAny_loadName_cell I.ok.kind hk hc hcell (h u r)) hd
  ·exact wpAny_Name (wpAny_loadName_free I.ok.kind hk hc hcell (h u r) hcd) hd
def SOk.deadPut {K:jJa}{Γ:List Cl}{B H:Hp}{σ:St}{τ:Tn}{T:List Addr}{i:Nat}{w:Option V}(h:SOk K Γ B H σ τ T)(e:Γ[i]?=some .dead):SOk K Γ B H (σ.set i w) τ T:=by
 obtain⟨Ls,h1,h2⟩:=h.ex;refine⟨h.ext,by rw[sQ];exact h.lσ,h.lτ,Ls,fun j c ej hc=>?_,h2⟩;obtain⟨v,d,a1,a2,a3⟩:=h1 j c ej hc;refine⟨v,d,?_,a2,a3⟩
 by_cases hij:i=j
 ·subst hij;rw[e]at ej;exact absurd (jYe ej).symm hc
 ·rw[sE hij];exact a1
theorem Own.mgx {P:jNa}{w:World}{K:jJa}{mg:Str->Option Value}{base:Heap}{x:Str}{k:Nat}{ps:List Str}{sp:Sp}(O:Own P w K mg base x k ps sp):∃f,mg x=some (.ref f):=by
 obtain⟨f,_,_,h,_⟩:=O.ex;exact⟨f,h⟩
def KP:ME X E Γ (.Dict [] [] pos) (eC (.dic [] [])) .fresh:=
 ⟨_,KL,fun O σ H τ Q ok h p hp=>h (.ref p) _ [p] (Same.new hp) ⟨p,[],[],rfl,zz,rfl,rfl,pZ,rfl,rfl⟩ ⟨sP.mpr ⟨hV,pZ⟩,fun a ha=>by rw[sG.mp ha];exact hp⟩⟩
def isB (neg:Bool):D->D->R D
 | .bl c,.bl d=>.ok (.bl (if neg=true then c != d else c==d))
 | _,_=>.bad
def z76 {neg:Bool}:x8 (isB neg):=fun x y n h=>by
 unfold isB at h;split at h<;>cases h
def z2a:OpR X (jMe .IsNot) (fun x y H Q=>∃c d,x=.bl c/\y=.bl d/\Q (.bl (c != d)) H):=by
 intro jNf s σ H x y v u Q I rx ry h;obtain⟨c,d,rfl,rfl,q⟩:=h;cases rx;cases ry;exact isnot_bool (z5r I q rfl)
def z4w {K:jJa}:OpB K (fun x y H Q=>∃c d,x=.bl c/\y=.bl d/\Q (.bl (c != d)) H) (isB true):=by
 rintro H x y dx dy Lx Ly Q rx ry ⟨d,hg,q⟩;unfold isB at hg;split at hg
 ·cases hg;exact⟨_,_,rx.1,ry.1,q _ H [] (Same.refl H) ⟨rfl,rfl⟩ (by simp) (fun a ha=>nomatch ha)⟩
 ·cases hg
def z8D (g:Str->R D)(t:Tn->R D):Tn->R D:=fun τ=>(t τ).bind fun d=>match d with
 | .str z=>g z
 | _=>.bad
def f3D (a b:Str):D->R D
 | .int i=>if i.natAbs.log2<1920/\a.length<=jMi/\(a++(toString i:Str)).length<=jMi/\(a++(toString i:Str)++b).length<=jMi then .ok (.str (a++(toString i:Str)++b)) else .bad
 | _=>.bad
def eF3 (a b:Str)(t:Tn->R D):Tn->R D:=fun τ=>(t τ).bind (f3D a b)
def z7p (z:Str):Str:=⟨((slicePicked z none none (some (-1,0))).filterMap (z.cps[·]?)).toArray⟩
def z87:D->R D
 | .str z=>if (z7p z).length<=jMi then .ok (.str (z7p z)) else .bad
 | _=>.bad
def z8Z (t:Tn->R D):Tn->R D:=fun τ=>(t τ).bind z87
open PySem PySem.Spec PyProof.Rows PySem.Builtin.Str
def z3T:V->List V->Hp->VK->Prop:=fun x xs H Q=>∃z y,x=.str z/\xs=[.str y]/\Q (.int (Txt.find z y)) H
def VE:MtR X "str.find" z3T:=by
 intro jNf s σ H x xs v us Q I rx rs h;obtain⟨z,y,rfl,rfl,q⟩:=h;obtain⟨t,rfl⟩:=rx;obtain⟨u,rfl,ru⟩:=wO rs;obtain⟨t2,rfl⟩:=ru;exact SC.find ⟨.int (Txt.find z y),H,I.tok _,⟨_,rfl⟩,q⟩
def jF (z:Str):List D->R D
 | [.str y]=>.ok (.int (Txt.find z y))
 | _=>.bad
def qC {K:jJa}{H:Hp}{y:Str}{vs:List V}{L:List Addr}(r:Reps K H [.str y] vs L):vs=[.str y]:=by
 obtain⟨v,vs',L1,L2,e1,_,r1,r2⟩:=r;rw[e1,r1.1,r2.1]
def Kj (z:Str):yQ (jF z):=fun ds n h=>by
 unfold jF at h;split at h<;>cases h
def z17 {K:jJa}:SmB K z3T jF:=by
 rintro H z xs ds L Q rs ⟨d,hg,q⟩;unfold jF at hg;split at hg
 ·rename_i y;cases hg;exact⟨z,y,rfl,qC rs,q _ H [] (Same.refl H) ⟨rfl,rfl⟩ (by simp) (fun a ha=>nomatch ha)⟩
 ·cases hg
def z8S (z:Str):R D:=if z.length<=5592405 then .ok (.str (Txt.lower z)) else .bad
def inS (a b:Str):Bool:=!(occurrences b a 0 b.length 1).isEmpty
def z7c:R2:=fun x y H Q=>∃a b,x=.str a/\y=.str b/\Q (.bl (inS a b)) H
def z0h:OpR X (jMe .In) z7c:=by
 intro jNf s σ H x y v u Q I rx ry h;obtain⟨a,b,rfl,rfl,q⟩:=h;obtain⟨t,rfl⟩:=rx;obtain⟨t',rfl⟩:=ry;exact in_str ⟨.bl (inS a b),H,I,rfl,q⟩
def Wk:D->D->R D
 | .str a,.str b=>.ok (.bl (inS a b))
 | _,_=>.bad
def z3U:x8 Wk:=fun x y n h=>by
 unfold Wk at h;split at h<;>cases h
def z3Z {K:jJa}:OpB K z7c Wk:=by
 rintro H x y dx dy Lx Ly Q rx ry ⟨d,hg,q⟩;unfold Wk at hg;split at hg
 ·cases hg;exact⟨_,_,rx.1,ry.1,q _ H [] (Same.refl H) ⟨rfl,rfl⟩ (by simp) (fun a ha=>nomatch ha)⟩
 ·cases hg
def VH {α:Type}(t:Sem α):Prop:=∀(M:Model) (Γ:PySem.Ctx) (Q:α->Pos->jNc->Prop) (E:Value->Pos->jNc->Prop) (p:Pos) (s:jNc),Sem.wp M Γ t Q E p s->Sem.wp M Γ t (fun a p' s'=>0<s'.toks/\Q a p' s') E p s
def vm {α β:Type}{m:Sem α}{f:α->Sem β}(h:VH m):VH (m >>= f):=fun M Γ Q E p s hw=>by
 rw[Sem.wp_bind']at hw ⊢;refine Sem.wp_mono M Γ m (fun a p' s' h'=>?_) (fun _ _ _ h=>h) p s (h M Γ _ E p s hw);exact Sem.wp_mono M Γ (f a) (fun _ _ _ h=>h) (fun _ _ _ h=>h.2) p' s' (Sem.wp_toks M Γ 1 (f a) Q E p' s' h'.1 h'.2)
def j9 {α β:Type}{m:Sem α}{f:α->Sem β}(h:∀a,VH (f a)):VH (m >>= f):=fun M Γ Q E p s hw=>by
 rw[Sem.wp_bind']at hw ⊢;exact Sem.wp_mono M Γ m (fun a p' s' h'=>h a M Γ Q E p' s' h') (fun _ _ _ h=>h) p s hw
def Ux:VH PySem.fresh:=fun M Γ Q E p s hw=>⟨Nat.succ_pos _,hw⟩
def Q2 {a:Addr}{x:Str}{v:Value}:VH (nsSet a x v):=j9 fun _=>vm (vm Ux)
def UG {env:Env}{x:Str}{v:Value}(hk:env.scope.kind=.function)(hl:env.kindOf x=some .local):VH (storeName env x v):=by
 have e:storeName env x v=nsSet env.locals x v:=by
  unfold storeName;rw[hl,hk]
  rfl
 rw[e];exact Q2
def z0x {scope:Scope}{globals:Addr}{binds:List (Str×Value)}{qual:Str}{func:Option Addr}{code:Value}{builtins:Addr}(hk:scope.kind=.function)(hx:∃x v r,binds=(x,v)::r/\scope.names.lookup x=some .local):
  VH (newFunctionEnv scope globals [] binds qual func code none builtins):=by
 obtain⟨x,v,r,rfl,hx⟩:=hx;simp only[newFunctionEnv,Option.isSome_none,sY,if_false];refine j9 fun L=>j9 fun cells=>vm ?_;rw[List.forIn_cons];exact vm (vm (UG hk hx))
def z39 {scope:Scope}{globals:Addr}{binds:List (Str×Value)}{qual:Str}{func:Option Addr}{code:Value}{builtins:Addr}{M:Model}{A:jNb}{E:Value->jNc->Prop}{s:jNc}{Q:Env->jNc->Prop}(hk:scope.kind=.function)(hx:∃x v r,binds=(x,v)::r/\scope.names.lookup x=some .local)
  (h:jNe M A (newFunctionEnv scope globals [] binds qual func code none builtins) (fun env s'=>0<s'.toks->Q env s') E s):jNe M A (newFunctionEnv scope globals [] binds qual func code none builtins) Q E s:=fun Γ p hΓ =>
 Sem.wp_mono M Γ _ (fun a p' s' h=>h.2 h.1) (fun _ _ _ h=>h) p s (z0x hk hx M Γ _ _ p s (h Γ p hΓ))
def z1N (X:Cx)(st:List Stmt)(t:TS):Prop:=
 ∀(jNf:List (Addr×Obj)) (s:jNc) (σ:St) (H:Hp) (D:Ends),0<s.toks->Inv X jNf σ H s->t D σ H->jNe (model X.prog X.w) X.A (execs st X.env) (SP X jNf D) X.xe s
def PEp (X:Cx)(e:Expr)(t:TE):Prop:=
 ∀(jNf:List (Addr×Obj)) (s:jNc) (σ:St) (H:Hp) (Q:VK),0<s.toks->Inv X jNf σ H s->t σ H Q->jNe (model X.prog X.w) X.A (eval e X.env) (EP X jNf σ Q) X.xe s
theorem PE.p {X:Cx}{e:Expr}{t:TE}(h:PE X e t):PEp X e t:=fun jNf s σ H Q _ I=>h jNf s σ H Q I
theorem PEp.up {X:Cx}{e:Expr}{t:TE}(h:PEp X e t){jNf:List (Addr×Obj)}{s:jNc}{σ:St}{H:Hp}{Q:VK}(hs:0<s.toks)(I:Inv X jNf σ H s)(ht:t σ H Q):jNe (model X.prog X.w) X.A (eval e X.env) (fun v s'=>0<s'.toks/\EP X jNf σ Q v s') X.xe s:=
 jMc (wpAny_toks_of (n:=1) hs (h jNf s σ H Q hs I ht)) (fun _ _ h=>h) fun _ _ h=>h.2
section
variable {X:Cx}{o:Expr}{to:TE}{a b:Str}{j1 j2:Nat}{p1 p2 apos cpos:Pos}
def Ko (ho:PEp X o to)(hab:(a==b)=false)(hb:b.length<=14)
  (hbase:autoParam (jKd o "replace" X.env (eval o X.env)=eval o X.env) au3._auto_1)
  (hfew:autoParam (((jNd cpos (jMj [.Constant (.str a) j1 p1,.Constant (.str b) j2 p2] X.env)).all (fun x=>!x.1)&&(jMh cpos (jKh [] X.env)).all (fun x=>x.1.isSome)
   && decide ([Expr.Constant (.str a) j1 p1,.Constant (.str b) j2 p2].length+([]:List jMk).length+(if ([]:List jMk).isEmpty then 0 else 1)<30))=true) au3._auto_1)
  (hline:autoParam ((apos.endLine==cpos.line)=true) au3._auto_1) (hs:autoParam (jMj [.Constant (.str a) j1 p1,.Constant (.str b) j2 p2] X.env=[(false,eval (.Constant (.str a) j1 p1) X.env),(false,eval (.Constant (.str b) j2 p2) X.env)]) au3._auto_1):
  PEp X (.Call (.Attribute o "replace" apos) [.Constant (.str a) j1 p1,.Constant (.str b) j2 p2] [] cpos) (fun σ H Q=>to σ H fun x H1=>∃z,x=.str z/\z.length<=1048576/\Q (.str (Txt.replace z a b)) H1):=by
 intro jNf s σ H Q htk I h;refine wpAny_Call_method_late hbase hfew hline rfl (thn (ho.up htk I h) fun v s1 h1=>?_);obtain⟨tk1,x,H1,I1,r1,z,rfl,hz,q1⟩:=h1;obtain⟨t,rfl⟩:=r1;refine⟨"str","str.replace",jQ1,PySem.F.slot_str_replace,PySem.F.type_str_replace,typeIs_str _ _ _,?_,?_⟩
 ·exact fun y e=>by cases e
 rw[hs];refine Calls.callWith_builtin rfl (Calls.evalArgs_plain ?_);show jNe _ _ (spliced [(false,eval (.Constant (.str a) j1 p1) X.env),(false,eval (.Constant (.str b) j2 p2) X.env)]) _ _ _;refine Calls.spliced_cons (Calls.Constant_str (k:=j1) (pos:=p1) (Calls.spliced_cons (Calls.Constant_str (k:=j2) (pos:=p2) (Calls.spliced_nil ?_))));exact SC.replaceW (by show s1.toks≠0;omega) (by show s1.toks+1≠0;omega) (by show s1.toks≠s1.toks+1;omega) hab hz hb fun t' k=>⟨.str (Txt.replace z a b),H1,I1.tok _,⟨t',rfl⟩,q1⟩
end
section
def z5w {CX:CXT}{P:jNa}{w:World}{K:jJa}{mg:Str->Option Value}{base:Heap}{k:Nat}{f:Addr}{name qual:Str}{params:Arguments}{body:List Stmt}{scope:Scope}{dV kV doc pm cdv ct oc:Value}{an od:Option Addr}
  {osl:Array (Option Value)} {N ps:List Str} {sp:Sp} (lk:K.lookup f=some ⟨oc,od,.func (jJd name qual params body scope dV kV doc pm an cdv ct),osl⟩) (hcd:jJg K cdv qual=true) (S:FnScope N ps scope)
  (hloc:∃x r,ps=x::r/\scope.names.lookup x=some .local) (len:∀vs H Q E,sp vs H Q E->vs.length=ps.length)
  (hbody:∀(A:jNb) (outer:List Env) (s:jNc) (H:Hp) (vs:List V) (Q:VK) (E:XK),Room k (A.deeper (envOfC qual scope s.heap.objs.size f cdv))->sp vs H Q E ->
   ∃t,z1N (yZ CX P w K mg base N qual scope f cdv A outer s H E) body t/\t { nx:=fun _ H'=>Q .non H',rt:=Q } (start N vs) H):
  FnOk P w K mg base CX (k+1) f (jJd name qual params body scope dV kV doc pm an cdv ct) ps sp:=by
 refine⟨len,fun A outer s H args us vs Q E hr e0 hb r hsp=>?_⟩;have hl:=len _ _ _ _ hsp;have KX:K.In s.heap:=e0.mod.kin.keeps fun b o e=>(e0.bs b o e).1;have lim:s.heap.NoLimit:=e0.mod.nolimit.keeps fun b o e=>(e0.bs b o e).1;have hkind:∀y∈ps.zip us,scope.names.lookup y.1=some .local\/(scope.names.lookup y.1=some .cell/\((cellsFrom (s.heap.objs.size+1) scope.names []).lookup y.1).isSome=true):=fun⟨n,v⟩ hy=>by
  rcases S.par n (List.of_mem_zip hy).1 with q|q
  ·exact .inl q
  ·exact .inr ⟨q,jJt _ _ _ (.inl q)⟩
 refine codeAny_call_function hr.depth (KX _ _ lk) rfl S.co S.gen rfl (jJ2 KX hcd) (hb _ _ _ _ ?_);have hlu:us.length=ps.length:=by rw[<-r.length,hl]
 refine z39 S.kind (by
  obtain⟨y,q,rfl,hy⟩:=hloc;cases us with
  | nil=>cases hlu
  | cons u us=>exact⟨y,u,_,rfl,hy⟩) (wpAny_newFunctionEnv_cells S.kind hkind fun env he s1 x htk=>?_)
 subst he;refine⟨lim.keeps x.toInCall.keep,codeAny_func ?_⟩;obtain⟨t,ht,hq⟩:=hbody A outer s H vs Q E (hr.deeper _) hsp;have I:Inv (yZ CX P w K mg base N qual scope f cdv A outer s H E) [] (start N vs) H s1:=XR S hr.hd e0 hl r x;refine jMc (ht [] s1 (start N vs) H _ htk I hq) (fun fl s' hs=>?_) fun e s' hs=>hs;have fin:∀ {σ':St} {H':Hp} {v:V} {u:Value},Inv (yZ CX P w K mg base N qual scope f cdv A outer s H E) [] σ' H' s'->RelV v u->Q v H'->CE outer P w H s Q u s' :=
  fun {σ' H' v u} J rv q=>⟨v,H',J.os,J.bare,J.base,J.hok,rv,q⟩
 cases fl with
 | ret u =>
  obtain⟨v,σ',H',J,rv,q⟩:=hs;exact fin J rv q
 | next =>
  obtain⟨σ',H',J,q⟩:=hs;exact fin (v:=V.non) (u:=Value.none) J rfl q
 | brk =>
  obtain⟨_,_,_,q⟩:=hs;exact False.elim q
 | cont =>
  obtain⟨_,_,_,q⟩:=hs;exact False.elim q
end
def MEp (X:Cx)(E:XK)(Γ:List Cl)(e:Expr)(t:Tn->R D)(c:Rc):Prop:=
 ∃te,PEp X e te/\∀O σ H τ Q,EOk X.K Γ O H σ τ->post X.K E O c H Q (t τ)->te σ H Q
def z2f (X:Cx)(E:XK)(Γl Γ:List Cl)(s:List Stmt)(t:Tn->R Fl)(Γ':List Cl):Prop:=
 ∃ts,z1N X s ts/\∀B σ H τ Z,SOk X.K Γ B H σ τ []->qm X.K E B Γl Γ' Z (t τ)->ts Z σ H
def Z7 (a b:Str):D->R D
 | .str z=>if z.length<=1048576 then .ok (.str (Txt.replace z a b)) else .bad
 | _=>.bad
section
variable {j1 j2:Nat}
theorem ME.p (h:ME X E Γ e t c):MEp X E Γ e t c:=by
 obtain⟨te,p,q⟩:=h;exact⟨te,p.p,q⟩
def Vn (ho:MEp X E Γ o t c)(hab:(a==b)=false)(hb:b.length<=14)
  (hbase:autoParam (jKd o "replace" X.env (eval o X.env)=eval o X.env) au3._auto_1)
  (hfew:autoParam (((jNd cpos (jMj [.Constant (.str a) j1 p1,.Constant (.str b) j2 p2] X.env)).all (fun x=>!x.1)&&(jMh cpos (jKh [] X.env)).all (fun x=>x.1.isSome)
   && decide ([Expr.Constant (.str a) j1 p1,.Constant (.str b) j2 p2].length+([]:List jMk).length+(if ([]:List jMk).isEmpty then 0 else 1)<30))=true) au3._auto_1)
  (hline:autoParam ((apos.endLine==cpos.line)=true) au3._auto_1) (hs:autoParam (jMj [.Constant (.str a) j1 p1,.Constant (.str b) j2 p2] X.env=[(false,eval (.Constant (.str a) j1 p1) X.env),(false,eval (.Constant (.str b) j2 p2) X.env)]) au3._auto_1):
  MEp X E Γ (.Call (.Attribute o "replace" apos) [.Constant (.str a) j1 p1,.Constant (.str b) j2 p2] [] cpos) (eUn (Z7 a b) t) .fresh:=by
 obtain⟨te,p,q⟩:=ho;refine⟨_,Ko p hab hb hbase hfew hline hs,fun O σ H τ Q ok h=>?_⟩;unfold eUn at h;refine q O σ H τ _ ok (post.bind h fun d hd h x H1 L1 s1 r1 _=>?_);cases d with
 | str z =>
  obtain⟨rfl,_⟩:=r1;have h:post X.K E O .fresh H Q (if z.length<=1048576 then .ok (.str (Txt.replace z a b)) else .bad):=h
  by_cases hz:z.length<=1048576
  ·rw[jNg hz]at h;exact⟨z,rfl,hz,h _ H1 [] s1 ⟨rfl,rfl⟩ ⟨by simp,fun a ha=>nomatch ha⟩⟩
  ·rw[jNh hz]at h;exact h.elim
 | _=>exact h.elim
def z1M (h:MEp X E Γ e t .fresh):z2f X E Γl Γ [.Return (some e) pos] (zm t) Γ':=by
 obtain⟨te,p,q⟩:=h;refine⟨z34 te,fun jNf s σ H D htk I h=>?_,fun B σ H τ Z ok h=>?_⟩
 ·refine jYk (wpAny_Return_some (thn (p jNf s σ H _ htk I h) fun v s1 h1=>?_));obtain⟨x,H1,I1,r1,q1⟩:=h1;exact⟨x,σ,H1,I1,r1,q1⟩
 ·obtain⟨O,eo,_⟩:=ok.eok;refine q O σ H τ _ eo ?_;unfold zm at h;cases ht:t τ with
  | ok d =>
   rw[ht,jYa]at h;exact fun v H' L s r k=>h v H' L (ok.ext.trans s) r k.1 fun a ha=>ok.ext.non (k.2 a ha)
  | err n=>rw[ht]at h;exact fun C H' e s=>h C H' e (ok.ext.trans s)
  | bad=>rw[ht]at h;exact h
end
section
variable {P:jNa}{w:World}{K:jJa}{mg:Str->Option Value}{base:Heap}{x:Str}{st:Stmt}{N ps:List Str}{k:Nat}{t:Tn->R Fl}{Γ':List Cl}
theorem DefIn.mirT (Df:DefIn K mg x st ps)(S:FnScope N ps (defScope st))(hn:ps.length<=N.length)(hloc:∃x r,ps=x::r/\(defScope st).names.lookup x=some .local)
  (hbody:∀(f:Addr) (cdv:Value) (A:jNb) (outer:List Env) (s:jNc) (H:Hp) (E:XK),Room k (A.deeper (envOfC x (defScope st) s.heap.objs.size f cdv)) ->
   z2f (yZ (cxx P w) P w K mg base N x (defScope st) f cdv A outer s H E) E [] (j6 N.length ps.length) (defBody st) t Γ'):Own P w K mg base x (k+1) ps (spM K (zC N.length t) ps.length):=by
 obtain⟨f,fd,F,hm,hb⟩:=Df.ex;obtain⟨oc,od,kV,doc,pm,an,cdv,ct,osl,rfl,lk,hcd⟩:=F.ex;refine⟨f,_,z5w lk hcd S hloc (fun vs H Q E h=>h.1) fun A outer s H vs Q E hr h=>?_,hm,F.kp,hb⟩;obtain⟨hl,ds,L,r,h⟩:=h;obtain⟨ts,p,q⟩:=hbody f cdv A outer s H E hr;refine⟨ts,p,q H (start N vs) H _ _ (hl▸SOk.start r (by lia)) ?_⟩;unfold zC at h;cases ht:t (ds.map some++List.replicate (N.length-ds.length) none)with
 | ok f =>
  rw[ht]at h;cases f with
  | nx τ'=>exact fun σ' H' ok'=>h .non H' [] ok'.ext ⟨rfl,rfl⟩ RcOk.nil
  | rt d=>exact fun v H' L s r n1 n2=>h v H' L s r ⟨n1,n2⟩
  | bk τ'=>exact h.elim
  | ct τ'=>exact h.elim
 | err n=>rw[ht]at h;exact fun C H' e s=>h C H' e s
 | bad=>rw[ht]at h;exact h.elim
end
def vO (z:Str)(n:Int):Str:=if n<1 then Str.empty else if (n==1||z.length==0)=true then z else ⟨(List.replicate n.toNat z.cps).foldl (·++·) #[]⟩
theorem Vo (c:Array Nat):∀(k:Nat) (acc:Array Nat),((List.replicate k c).foldl (·++·) acc).size=acc.size+k*c.size
 | 0,acc=>by simp
 | k+1,acc=>by
  rw[sX,List.foldl_cons,Vo c k,Array.size_append,gE];lia
def Uz (z:Str)(n:Int):(vO z n).length<=n.toNat*z.length:=by
 unfold vO;split
 ·exact rC _
 ·split
  ·rename_i h1 h2;rw[Bool.or_eq_true]at h2;rcases h2 with e|e
   ·have:n=1:=by simpa using e
    subst this;show z.length<=1*z.length;lia
   ·have:z.length=0:=by simpa using e
    lia
  ·show ((List.replicate n.toNat z.cps).foldl (·++·) #[]).size<=_;rw[Vo];show 0+n.toNat*z.length<=_;lia
def z3u:R2:=fun x y H Q=>∃z n,x=.str z/\y=.int n/\-1000000<=n/\n.toNat*z.length<=1000000/\n<=1000000/\Q (.str (vO z n)) H
def uo:OpR X (binaryOp .Mult) z3u:=by
 intro jNf s σ H x y v u Q I rx ry h;obtain⟨z,n,rfl,rfl,h0,h1,h2,q⟩:=h;obtain⟨t,rfl⟩:=rx;obtain⟨t',rfl⟩:=ry;have hfit:(vO z n).length<=sizeLine:=by have:=Uz z n;rw[jKj];lia
 refine PySem.P.mul_str (by
  have e1:decide (n < -(2 ^ 63:Int))=false:=decide_eq_false (by lia);have e2:decide (n>=2 ^ 63)=false:=decide_eq_false (by lia);rw[e1,e2];rfl) (fun a b hg=>?_) (fun a b=>?_) ?_
 ·have hn:1<=n:=by lia
  have:(z.length:Int)<=(2 ^ 63-1)/n:=by
   rw[Int.le_ediv_iff_mul_le (by lia)];have e:(z.length:Int)*n=((n.toNat*z.length:Nat):Int):=by
    rw[Int.natCast_mul,Int.toNat_of_nonneg (by lia),Int.mul_comm]
   rw[e];lia
  lia
 ·unfold PySem.Builtin.Str.tooLong;rw[jKj];exact decide_eq_false (by rw[Nat.mul_comm];lia)
 ·have done:∀t',EP X jNf σ Q (.str (vO z n) t') s:=fun t'=>⟨.str (vO z n),H,I,⟨t',rfl⟩,q⟩
  have done':∀t' k,EP X jNf σ Q (.str (vO z n) t') { s with toks:=k }:=fun t' k=>⟨.str (vO z n),H,I.tok k,⟨t',rfl⟩,q⟩
  unfold vO at hfit done done';split
  ·rename_i hn;rw[jNg hn]at hfit done';exact⟨hfit,done' _ _⟩
  ·rename_i hn;rw[jNh hn]at hfit done done';split
   ·rename_i h5;rw[jNg h5]at done;exact done _
   ·rename_i h5;rw[jNh h5]at hfit done';exact⟨hfit,done' _ _⟩
def uP:D->D->R D
 | .str z,.int n=>if -1000000<=n/\n.toNat*z.length<=1000000/\n<=1000000 then .ok (.str (vO z n)) else .bad
 | _,_=>.bad
def j3:x8 uP:=fun x y n h=>by
 unfold uP at h;split at h
 ·split at h<;>cases h
 ·cases h
def qW {K:jJa}:OpB K z3u uP:=by
 rintro H x y dx dy Lx Ly Q rx ry ⟨d,hg,q⟩;unfold uP at hg;split at hg
 ·rename_i z n;split at hg
  ·rename_i hz;cases hg;exact⟨z,n,rx.1,ry.1,hz.1,hz.2.1,hz.2.2,q _ H [] (Same.refl H) ⟨rfl,rfl⟩ (by simp) (fun a ha=>nomatch ha)⟩
  ·cases hg
 ·cases hg
section
def z0F (h:∃t,X.mg x=some (.str z t))(hg:autoParam (Gl X x) au8._auto_1)(hd:autoParam (nDb x) au1._auto_1):ME X E Γ (.Name x pos) (eC (.str z)) .fresh:=by
 obtain⟨t,ht⟩:=h;exact K7 (xt (v:=.str z) hg ht ⟨t,rfl⟩ hd) fun _=>⟨rfl,rfl⟩
def yS (h:∃t,X.mg x=some (.int i t))(hg:autoParam (Gl X x) au8._auto_1)(hd:autoParam (nDb x) au1._auto_1):ME X E Γ (.Name x pos) (eC (.int i)) .fresh:=by
 obtain⟨t,ht⟩:=h;exact K7 (xt (v:=.int i) hg ht ⟨t,rfl⟩ hd) fun _=>⟨rfl,rfl⟩
end
def upT {α:Type}{M:Model}{A:jNb}{t:Sem α}{Q:α->jNc->Prop}{E:Value->jNc->Prop}{s:jNc}(hs:0<s.toks)(h:jNe M A t Q E s):jNe M A t (fun v s'=>0<s'.toks/\Q v s') E s:=
 jMc (wpAny_toks_of (n:=1) hs h) (fun _ _ h=>h) fun _ _ h=>h.2
def PST (X:Cx)(st:Stmt)(t:TS):Prop:=
 ∀(jNf:List (Addr×Obj)) (s:jNc) (σ:St) (H:Hp) (D:Ends),0<s.toks->Inv X jNf σ H s->t D σ H->jNe (model X.prog X.w) X.A (exec st X.env) (SP X jNf D) X.xe s
theorem PS.tt {X:Cx}{st:Stmt}{t:TS}(h:PS X st t):PST X st t:=fun jNf s σ H D _ I=>h jNf s σ H D I
section
variable {X:Cx}{st:Stmt}{rest:List Stmt}{t u:TS}
def z14 (h1:PST X st t)(h2:z1N X rest u):z1N X (st::rest) (Q7 t u):=by
 intro jNf s σ H D htk I h;refine jYk (thn (upT htk (h1 jNf s σ H { D with nx:=u D } htk I h)) fun f s1 ⟨tk1,q⟩=>?_);cases f with
 | next =>
  obtain⟨σ',H',I',q⟩:=q;exact h2 jNf s1 σ' H' D tk1 I' q
 | ret v=>exact q
 | brk=>exact q
 | cont=>exact q
end
def MST (X:Cx)(E:XK)(Γl Γ:List Cl)(s:Stmt)(t:Tn->R Fl)(Γ':List Cl):Prop:=
 ∃ts,PST X s ts/\∀B σ H τ Z,SOk X.K Γ B H σ τ []->qm X.K E B Γl Γ' Z (t τ)->ts Z σ H
section
variable {X:Cx}{E:XK}{Γ Γ1 Γ2 Γ' Γl:List Cl}{pos:Pos}{e:Expr}{t:Tn->R D}{c:Rc}
theorem MS.tt {s:Stmt}{t:Tn->R Fl}(h:MS X E Γl Γ s t Γ'):MST X E Γl Γ s t Γ':=by
 obtain⟨ts,p,q⟩:=h;exact⟨ts,p.tt,q⟩
def Vg {s:Stmt}{r:List Stmt}{t1 t2:Tn->R Fl}(h:MST X E Γl Γ s t1 Γ1)(k:z2f X E Γl Γ1 r t2 Γ'):z2f X E Γl Γ (s::r) (zi t1 t2) Γ':=by
 obtain⟨ts,p,q⟩:=h;obtain⟨ts',p',q'⟩:=k;refine⟨Q7 ts ts',z14 p p',fun B σ H τ Z ok h=>q B σ H τ _ ok ?_⟩;unfold zi at h;cases ht:t1 τ with
 | ok f =>
  rw[ht,jYa]at h;cases f with
  | nx τ'=>exact fun σ' H' ok'=>q' B σ' H' τ' Z ok' h
  | rt d=>exact h
  | bk τ'=>exact h
  | ct τ'=>exact h
 | err n=>rw[ht]at h;exact h
 | bad=>rw[ht]at h;exact h
end
theorem Y5 {K:jJa}{H:Hp}:∀ss:List Str,Reps K H (ss.map D.str) (ss.map V.str) []
 | []=>Reps.nil
 | z::ss=>⟨_,_,[],[],rfl,rfl,⟨rfl,rfl⟩,Y5 ss⟩
open PySem PySem.Spec PyProof.Rows PySem.W
def atF (j:Nat)(v:V)(t:TE):TE:=fun σ H Q=>σ[j]?=some (some v)/\t σ H Q
def Ka {p pos:Pos}
  (F:FnOk X.prog X.w X.K X.mg X.base (cxx X.prog X.w) k f fd ps sp) (hr:Room k X.A) (hj:X.N[j]?=some x) (hv:Vis X.env.scope x) (hk:jJf X.K (.ref f)=true) (hb:Binds X.K fd ps ds) (hd:Vals dvs ds) (hx:vj (cxx X.prog X.w) X E)
  (ha:PA X (e::es) t) (hdb:autoParam (nDb x) au1._auto_1) (hcb:autoParam ((x==("__classdict__":Str))=false) au1._auto_1) (he:autoParam (jMj (e::es) X.env=(false,eval e X.env)::jMj es X.env) au3._auto_1) (hpl:autoParam ((jNd pos (jMj es X.env)).any (·.1)=false) au3._auto_1):
  PE X (.Call (.Name x p) (e::es) [] pos) (atF j (.ref f) (KD sp dvs E t)):=by
 intro jNf s σ H Q I h0;obtain⟨hσ,h⟩:=h0;refine jYf (z5O I hj hv hσ ?_ hdb hcb);intro u0 ru0;obtain rfl:u0=Value.ref f:=ru0;refine jJi (h₀:=X.base) I.ok.mod.kin hk (thn (ha pos jNf s σ H _ I h) fun us s1 ⟨vs,H1,I1,r,q⟩=>⟨I1.kIn,?_⟩) he hpl;exact KG F hr hb hd hx I1 r q
section
def JS (hi:MI X E Γ tg iter it ci)(hcl:c≠.bor)(hd:∀j∈g.slots,(zK fr Γ)[j]?=some .dead){jf:Nat}{vf:V}(hjf:jf∉g.slots):
  ∃wi,PI X tg iter wi/\∀O σ H τ Q,(xN fr σ)[jf]?=some (some vf)->EOk X.K Γ O H σ τ->post X.K E O c H Q (zS fr it g cnd te τ)->Xo fr wi (tgG X.K g) (wpT X.K noX (zW (Cl.ofIt ci) (zK fr Γ) g.slots) cnd) (atF jf vf (wpE X.K noX (zW (Cl.ofIt ci) (zK fr Γ) g.slots) te c)) σ H Q:=by
 have hT0:∀σ H Q,(∃O τ,EOk X.K (zW (Cl.ofIt ci) (zK fr Γ) g.slots) O H σ τ/\postB X.K noX H Q (cnd τ))->wpT X.K noX (zW (Cl.ofIt ci) (zK fr Γ) g.slots) cnd σ H Q:=fun _ _ _ h=>h;have hE0:∀(σ:St) H Q,σ[jf]?=some (some vf)->(∃O τ,EOk X.K (zW (Cl.ofIt ci) (zK fr Γ) g.slots) O H σ τ/\post X.K noX O c H Q (te τ))->atF jf vf (wpE X.K noX (zW (Cl.ofIt ci) (zK fr Γ) g.slots) te c) σ H Q:=fun _ _ _ a h=>⟨a,h⟩
 generalize wpT X.K noX (zW (Cl.ofIt ci) (zK fr Γ) g.slots) cnd=TC at hT0 ⊢;generalize atF jf vf (wpE X.K noX (zW (Cl.ofIt ci) (zK fr Γ) g.slots) te c)=TE0 at hE0 ⊢;obtain⟨wi,p,q⟩:=hi;refine⟨wi,p,fun O σ H τ Q hσ ok h=>q O σ H τ _ ok ?_⟩;unfold zS at h;cases hit':it τ with
 | err n=>rw[hit']at h;exact h
 | bad=>rw[hit']at h;exact h
 | ok ds =>
  rw[hit',jYa]at h;refine fun J H1 L s1 hJ hO dd hD=>?_;obtain⟨hLd,hit⟩:=hJ;generalize hF:vw g.asg cnd te (wu fr τ)=F at h;cases hcL:xE F ds with
  | err n=>exact absurd hcL (qt (fun d n z=>by rw[<-hF]at z;exact XI z) ds n)
  | bad=>rw[hcL]at h;exact h.elim
  | ok ys =>
   rw[hcL,jYa]at h
   by_cases hz:ys.length<=jMi
   ·rw[jNg hz]at h;have hD0:H dd=none:=s1.non hD;have z3k:(xN fr σ).length=(zK fr Γ).length:=by simp[xN,zK]
    have lenT:(wu fr τ).length=(zK fr Γ).length:=by simp[wu,zK]
    obtain⟨W,hW⟩:∃W:Nat->Nat->List V->St->Hp->Prop,∀i m ysv τ' H2,W i m ysv τ' H2↔(m=ds.length-i/\i<=ds.length/\H2 dd=some (.lst ysv)/\(∀b,b≠dd->H1 b≠none->H2 b=H1 b)/\τ'.length=(zK fr Γ).length/\(∀j,j∉g.slots->τ'[j]?=(xN fr σ)[j]?) /\
     ∃dn rs Ly,ys=dn++rs/\xE F (ds.drop i)=.ok rs/\Reps X.K H2 dn ysv Ly/\dd∉Ly/\RcOk c O H1 Ly):=⟨_,fun _ _ _ _ _=>Iff.rfl⟩
    refine⟨W,⟨ds.length,(hW _ _ _ _ _).mpr ⟨by simp,rC _,zz,fun b hb _=>zt hb,z3k,fun _ _=>rfl,[],ys,[],rfl,by simpa using hcL,Reps.nil,by simp,RcOk.nil⟩⟩,?_⟩;intro i m ysv τ' H2 hw0;obtain⟨rfl,hile,hDy,kp,hl',hj',dn,rs,Ly,eys,hrs,rdn,nD,kLy⟩:=(hW _ _ _ _ _).mp hw0;refine⟨hDy,?_⟩;have sH:Same H H2:=fun b o e=>by
     have e1:=s1 b o e;have nb:b≠dd:=zH e hD0;rw[kp b nb (by rw[e1];simp)];exact e1
    have s12:∀b o,H1 b=some o->H2 b=some o:=fun b o e=>by
     rw[kp b (zH e hD) (by rw[e];simp)];exact e
    have okO:EOk X.K Γ (fun a=>O a\/a=dd) H2 σ τ:=by
     refine⟨fun a ha=>?_,fun j k e hk=>?_⟩
     ·rcases ha with ha|ha
      ·exact (ok.same sH).dom a ha
      ·rw[ha,hDy];simp
     ·obtain⟨v,d,L0,a1,a2,a3,a4⟩:=ok.slot j k e hk;refine⟨v,d,L0,a1,a2,a3.same sH,fun z a ha hm=>?_⟩;rcases hm with hm|hm
      ·exact a4 z a ha hm
      ·exact a3.there ha (hm▸hD0)
    have okc:EOk X.K (zK fr Γ) (fun a=>O a\/a=dd) H2 τ' (wu fr τ):=(okO.comp (fr:=fr)).live fun j k e hk=>hj' j fun hm=>by
     rw[hd j hm]at e;exact hk (jYe e).symm
    obtain⟨go,stop⟩:=hit H2 ⟨fun a xs e=>s12 a _ e,fun a o u e=>s12 a _ e,fun a C dx fs e=>s12 a _ e⟩ (fun a ha=>kp a (fun z=>hLd a ha (z▸hD)) (hLd a ha)) i
    by_cases hlt:i<ds.length
    ·obtain⟨hgo,hy⟩:=go ds[i] (by simp[hlt]);refine .inr ⟨hgo,fun x H3 y=>?_⟩;obtain⟨s3,L',r',sub⟩:=hy x H3 y;rw[sW hlt]at hrs;obtain⟨o,zs,ho,hzs,ers⟩:=ZM hrs;rw[<-hF]at ho;have ho:=U6 ho;obtain⟨τ1,ha,ho⟩:=vK ho;obtain⟨k,hk,ho⟩:=vK ho;refine z0p (k:=Cl.ofIt ci) (okc.same s3) r' (fun z a ha hm=>?_) hl' lenT ha fun σ1 ok1 hl1 hj1=>?_
     ·have hci:ci≠.bor:=fun w=>by subst w;cases z
      rcases hm with hm|hm
      ·exact hO hci a (sub a ha) hm
      ·exact hLd a (sub a ha) (hm▸hD)
     ·refine hT0 _ _ _ ⟨_,τ1,ok1,?_⟩;rw[hk];refine fun H5 s5=>?_;have s25:=s3.trans s5;cases k with
      | true =>
       rw[jNg rfl]at ho;dsimp only;rw[jNg rfl];obtain⟨yd,hyd,ho⟩:=vK ho;cases ho;refine hE0 _ _ _ (((hj1 jf hjf).trans (hj' jf hjf)).trans hσ) ⟨_,τ1,ok1.same s5,?_⟩;rw[hyd];refine fun yv H6 Lw s6 r6 k6=>?_;have s26:=s25.trans s6;have hD6:H6 dd=some (.lst ysv):=s26 dd _ hDy;have hlen:ysv.length=dn.length:=rdn.length;have nDw:dd∉Lw:=fun hm=>by
        cases c with
        | fresh=>have:=k6.2 dd hm;rw[s25 dd _ hDy]at this;cases this
        | shr=>exact k6 dd hm (.inr rfl)
        | bor=>exact hcl rfl
       have mu:(∃vs,H6 dd=some (.lst vs))\/∃kvs,H6 dd=some (.dK kvs):=.inl ⟨_,hD6⟩;refine⟨hD6,?_,ds.length-(i+1),by lia,(hW _ _ _ _ _).mpr ⟨rfl,hlt,zz,fun b hb hn=>?_,by rw[hl1];exact hl',fun j hj=>(hj1 j hj).trans (hj' j hj),dn++[yd],zs,Ly++Lw,?_,hzs,?_,?_,?_⟩⟩
       ·rw[eys,ers,tD,tD]at hz;simp only[Option.toList,pU]at hz;lia
       ·rw[zt hb,<-kp b hb hn];exact s26.at (by rw[kp b hb hn];exact hn)
       ·rw[eys,ers,tQ];rfl
       ·have:=Reps.append ((rdn.same s26).upd (o:=.lst (ysv++[yv])) mu nD) (Reps.cons (r6.upd (o:=.lst (ysv++[yv])) mu nDw) Reps.nil);rw[tI]at this;exact this
       ·intro hm;rcases tX.mp hm with z|z
        ·exact nD z
        ·exact nDw z
       ·cases c with
        | fresh =>
         refine⟨sN.mpr ⟨kLy.1,k6.1,fun a ha b hb z=>?_⟩,fun a ha=>?_⟩
         ·subst z;have h2:=rdn.there ha;have h5:=k6.2 a hb;exact h2 (s25.non h5)
         ·rcases tX.mp ha with z|z
          ·exact kLy.2 a z
          ·have h5:=k6.2 a z;have h2:H2 a=none:=s25.non h5;cases e1:H1 a with
           | none=>rfl
           | some o=>rw[s12 a o e1]at h2;cases h2
        | shr =>
         intro a ha;rcases tX.mp ha with z|z
         ·exact kLy a z
         ·exact fun w=>k6 a z (.inl w)
        | bor=>exact absurd rfl hcl
      | false =>
       rw[jNh tO]at ho;dsimp only;rw[jNh tO];cases ho;refine⟨ds.length-(i+1),by lia,(hW _ _ _ _ _).mpr ⟨rfl,hlt,s25 dd _ hDy,fun b hb hn=>?_,by rw[hl1];exact hl',fun j hj=>(hj1 j hj).trans (hj' j hj),dn,zs,Ly,?_,hzs,rdn.same s25,nD,kLy⟩⟩
       ·rw[<-kp b hb hn];exact s25.at (by rw[kp b hb hn];exact hn)
       ·rw[eys,ers];rfl
    ·have e:i=ds.length:=by lia
     subst e;rw[hZ]at hrs;cases hrs;rw[tI]at eys;subst eys;refine .inl ⟨stop (tP _),h (.ref dd) H2 (dd::Ly) sH ⟨dd,ysv,Ly,rfl,hDy,rfl,rdn⟩ ?_⟩;cases c with
     | fresh =>
      refine⟨sP.mpr ⟨nD,kLy.1⟩,fun a ha=>?_⟩;rcases tS.mp ha with z|z
      ·rw[z];exact hD0
      ·exact s1.non (kLy.2 a z)
     | shr =>
      intro a ha;rcases tS.mp ha with z|z
      ·rw[z];exact fun w=>ok.dom dd w hD0
      ·exact kLy a z
     | bor=>exact absurd rfl hcl
   ·rw[jNh hz]at h;exact h.elim
def MEF (X:Cx)(E:XK)(Γ:List Cl)(j:Nat)(v:V)(e:Expr)(t:Tn->R D)(c:Rc):Prop:=
 ∃te,PE X e te/\∀O σ H τ Q,σ[j]?=some (some v)->EOk X.K Γ O H σ τ->post X.K E O c H Q (t τ)->te σ H Q
theorem MEF.pe (h:MEF X E Γ j v e t c):PE X e (atF j v (wpE X.K E Γ t c)):=by
 obtain⟨te,p,q⟩:=h;rintro jNf s σ H Q I ⟨hσ,O,τ,ok,z⟩;exact p jNf s σ H Q I (q O σ H τ Q hσ ok z)
def vQ {p:Pos}(O:Own X.prog X.w X.K X.mg X.base g k ps (spM X.K F n))(hf:X.mg g=some (.ref f))(hr:Room k X.A)(hj:X.N[j]?=some x)(hv:Vis X.env.scope x)(hx:vj (cxx X.prog X.w) X E)(ha:MA X E Γ (e::es) u c)(hl:autoParam ((e::es).length=n) au3._auto_1)
  (hdb:autoParam (nDb x) au1._auto_1) (hcb:autoParam ((x==("__classdict__":Str))=false) au1._auto_1) (he:autoParam (jMj (e::es) X.env=(false,eval e X.env)::jMj es X.env) au3._auto_1) (hpl:autoParam ((jNd pos (jMj es X.env)).any (·.1)=false) au3._auto_1):MEF X E Γ j (.ref f) (.Call (.Name x p) (e::es) [] pos) (eL F u) .fresh:=by
 obtain⟨hlen,ta,pa,q⟩:=ha;obtain⟨f',fd,Fn,hm,hk,hb⟩:=O.ex;rw[hf]at hm;cases hm;refine⟨_,Ka Fn hr hj hv hk hb .nil hx pa hdb hcb he hpl,fun O' σ H τ Q hσ ok h=>⟨hσ,q O' σ H τ _ ok ?_⟩⟩;unfold eL at h;cases hu:u τ with
 | ok ds =>
  rw[hu,jYa]at h;refine fun vs H1 L s1 r1 _=>?_;have hv:(vs++[]).length=n:=by rw[tI,r1.length,hlen τ ds hu];exact hl
  refine⟨hv,ds,L,by rw[tI];exact r1,?_⟩;have h1:=h.same s1;cases hF:F ds with
  | ok d=>rw[hF]at h1;exact h1
  | err n=>rw[hF]at h1;exact h1
  | bad=>rw[hF]at h1;exact h1
 | err n=>rw[hu]at h;exact h
 | bad=>rw[hu]at h;exact h
def qi (hc:X.calm=true)(S:CompScope X N' fr scope)(hi:MI X E Γ tg iter it ci)
  (hg:∀s₃ H₃ fp jNf,MG (zP X scope N' s₃ H₃ fp jNf) tg g) (ht:∀s₃ H₃ fp jNf,MTs (zP X scope N' s₃ H₃ fp jNf) noX (zW (Cl.ofIt ci) (zK fr Γ) g.slots) ifs cnd)
  (he:∀s₃ H₃ fp jNf,MEF (zP X scope N' s₃ H₃ fp jNf) noX (zW (Cl.ofIt ci) (zK fr Γ) g.slots) jf vf elt te c) (hcl:c≠.bor) (hd:∀j∈g.slots,(zK fr Γ)[j]?=some .dead) (hjf:jf∉g.slots) (hfr:fr[jf]?=some (some j))
  (hs:autoParam (∀x,jYg iter X.env x=pure x) au2._auto_1):MEF X E Γ j vf (.ListComp elt [⟨tg,iter,ifs,0⟩] scope pos) (zS fr it g cnd te) c:=by
 obtain⟨wi,p,q⟩:=JS (cnd:=cnd) (te:=te) (vf:=vf) hi hcl hd hjf;refine⟨_,WU hc S p (fun s₃ H₃ fp jNf=>(hg s₃ H₃ fp jNf).pg) (fun s₃ H₃ fp jNf=>(ht s₃ H₃ fp jNf).pts) (fun s₃ H₃ fp jNf=>(he s₃ H₃ fp jNf).pe) hs,fun O σ H τ Q hσ ok h=>q O σ H τ Q ?_ ok h⟩;unfold xN;rw[sL,hfr];show some ((σ[j]?).join)=_;rw[hσ]
 rfl
def vi {id:String}{x:Str}{r:List V->Hp->VK->Prop}{g:List D->R D}{j:Nat}{v:V}{e:Expr}{t:Tn->R D}{ca:Rc}{p:Pos}(hc:CallR X (.builtin id) r)(hB:ClB X.K r g)(hn:yQ g)(hg:Gl X x)(hm:X.mg x=none)(hv:jKg x=some (.builtin id))(ha:MEF X E Γ j v e t ca)(hx:autoParam (x≠"__name__") au1._auto_1)(hdb:autoParam (nDb x) au1._auto_1)
  (he:autoParam (jMj [e] X.env=(false,eval e X.env)::jMj [] X.env) au3._auto_1) (hpl:autoParam ((jNd pos (jMj [] X.env)).any (·.1)=false) au3._auto_1):MEF X E Γ j v (.Call (.Name x p) [e] [] pos) (eL g (zb t ze)) .fresh:=by
 obtain⟨te,p',q⟩:=ha;refine⟨_,vP hc hg hm hv (zR p' wF he) hx hdb he hpl,fun O σ H τ Q hσ ok h=>q O σ H τ _ hσ ok ?_⟩;unfold eL zb ze at h;cases ht:t τ with
 | ok d =>
  rw[ht,jYa,jYa,jYa]at h;refine fun w H1 L s1 r1 _=>?_;cases hg:g [d]with
  | ok d' =>
   rw[hg]at h;exact hB H1 [w] [d] L Q (by have:=Reps.cons r1 Reps.nil;rwa [tI]at this) ⟨d',hg,fun v H' L s r n1 n2=>h v H' L (s1.trans s) r ⟨n1,fun a ha=>s1.non (n2 a ha)⟩⟩
  | err n=>exact absurd hg (hn _ _)
  | bad=>rw[hg]at h;exact h.elim
 | err n=>rw[ht]at h;exact h
 | bad=>rw[ht]at h;exact h
def z20 (X:Cx)(E:XK)(Γl Γ:List Cl)(j:Nat)(v:V)(s:List Stmt)(t:Tn->R Fl)(Γ':List Cl):Prop:=
 ∃ts,PSs X s ts/\∀B σ H τ Z,σ[j]?=some (some v)->SOk X.K Γ B H σ τ []->qm X.K E B Γl Γ' Z (t τ)->ts Z σ H
def jO (h:MEF X E Γ j v e t .fresh):z20 X E Γl Γ j v [.Return (some e) pos] (zm t) Γ':=by
 obtain⟨te,p,q⟩:=h;refine⟨z34 te,uw (jb p),fun B σ H τ Z hσ ok h=>?_⟩;obtain⟨O,eo,_⟩:=ok.eok;refine q O σ H τ _ hσ eo ?_;unfold zm at h;cases ht:t τ with
 | ok d =>
  rw[ht,jYa]at h;exact fun v H' L s r k=>h v H' L (ok.ext.trans s) r k.1 fun a ha=>ok.ext.non (k.2 a ha)
 | err n=>rw[ht]at h;exact fun C H' e s=>h C H' e (ok.ext.trans s)
 | bad=>rw[ht]at h;exact h
def YF {Γl Γ':List Cl}{j:Nat}{v:V}{k:Expr}{u:Tn->R Bool}{sa rest:List Stmt}{d:D}{t2:Tn->R Fl}(hk:MT X E Γ k u)(ha:MSs X E Γl Γ sa (zm (eC d)) Γ')(hr:z20 X E Γl Γ j v rest t2 Γ'):z20 X E Γl Γ j v (.If k sa [] pos::rest) (zi (sIf u (zm (eC d)) zo) t2) Γ':=by
 obtain⟨te,p,q⟩:=hk;obtain⟨ts1,p1,q1⟩:=ha;obtain⟨ts2,p2,q2⟩:=hr;refine⟨Q7 (z5C te ts1 KJ) ts2,ua (U0 p p1 jc) p2,fun B σ H τ Z hσ ok h=>?_⟩;obtain⟨O,eo,_⟩:=ok.eok;refine q O σ H τ _ eo ?_;unfold zi sIf at h;cases ht:u τ with
 | ok x =>
  rw[ht,jYa]at h;refine fun H1 s1=>?_;cases x with
  | true =>
   rw[jNg rfl]at h ⊢;exact q1 B σ H1 τ _ (ok.same s1) h
  | false =>
   rw[jNh tO]at h ⊢;exact q2 B σ H1 τ Z hσ (ok.same s1) h
 | err n=>rw[ht]at h;exact fun C H' e s=>h C H' e (ok.ext.trans s)
 | bad=>rw[ht]at h;exact h
end
def spF (K:jJa)(F:List D->R D)(n:Nat)(v:V):Sp:=fun vs H Q E=>∃ws,vs=ws++[v]/\ws.length=n/\∃ds L,Reps K H ds ws L/\post K E (fun _=>False) .fresh H Q (F ds)
def Um (h:ws.length<N.length):start N (ws++[v])=(start N ws).set ws.length (some v):=by
 unfold start;obtain⟨m,hm⟩:∃m,N.length-ws.length=m+1:=⟨N.length-ws.length-1,by lia⟩
 have e:N.length-(ws++[v]).length=m:=by rw[tD,pU];lia
 rw[hm,e,rO,sX,tQ];have l:(ws.map some).length=ws.length:=tJ some;rw[List.set_append_right _ _ (by rw[l];exact tP _),l,Nat.sub_self]
 rfl
section
variable {P:jNa}{w:World}{K:jJa}{mg:Str->Option Value}{base:Heap}{N:List Str}{x:Str}{st:Stmt}{ps:List Str}{t:Tn->R Fl}{k n:Nat}{v:V}{Γ':List Cl}
theorem DefIn.mirF (Df:DefIn K mg x st ps)(S:FnScope N ps (defScope st))(hn:ps.length<=N.length)(hps:n+1=ps.length)
  (hbody:∀(f:Addr) (cdv:Value) (A:jNb) (outer:List Env) (s:jNc) (H:Hp) (E:XK),Room k (A.deeper (envOfC x (defScope st) s.heap.objs.size f cdv)) ->
   z20 (yZ (cxx P w) P w K mg base N x (defScope st) f cdv A outer s H E) E [] (j6 N.length n) n v (defBody st) t Γ'):Own P w K mg base x (k+1) ps (spF K (zC N.length t) n v):=by
 refine Df.own S (fun vs H Q E h=>?_) fun f cdv A outer s H vs Q E hr h=>?_
 ·obtain⟨ws,rfl,hl,_⟩:=h;rw[tD,hl];exact hps
 obtain⟨ws,rfl,hl,ds,L,r,h⟩:=h;obtain⟨ts,p,q⟩:=hbody f cdv A outer s H E hr;have hlt:ws.length<N.length:=by lia
 have ok:=SOk.start (N:=N) r (by lia);rw[hl]at ok;have hdead:(j6 N.length n)[n]?=some .dead:=by
  unfold j6;rw[rR (by rw[rJ];exact tP _),rJ,Nat.sub_self,pO,jNg (by lia)]
 refine⟨ts,p,?_⟩;rw[Um hlt,hl];refine q H _ H _ _ ?_ (ok.deadPut hdead) ?_
 ·rw[sA (by unfold start;rw[tD,tJ,rJ];lia)]
 unfold zC at h;cases ht:t (ds.map some++List.replicate (N.length-ds.length) none)with
 | ok f =>
  rw[ht]at h;cases f with
  | nx τ'=>exact fun σ' H' ok'=>h .non H' [] ok'.ext ⟨rfl,rfl⟩ RcOk.nil
  | rt d=>exact fun v H' L s r n1 n2=>h v H' L s r ⟨n1,n2⟩
  | bk τ'=>exact h.elim
  | ct τ'=>exact h.elim
 | err n=>rw[ht]at h;exact fun C H' e s=>h C H' e s
 | bad=>rw[ht]at h;exact h.elim
end
section
variable {X:Cx}{E:XK}{Γ:List Cl}{pos p:Pos}{e:Expr}{es:List Expr}{t:Tn->R D}{u:Tn->R (List D)}{ca cb c:Rc}{v:V}
def MAG (X:Cx)(E:XK)(Γ:List Cl)(v:V)(es:List Expr)(t:Tn->R (List D))(c:Rc):Prop:=
 (∀τ ds,t τ=.ok ds->ds.length+1=es.length)/\∃ta,PA X es ta/\∀O σ H τ Q,EOk X.K Γ O H σ τ->z0P X.K E O c H (fun ws H'=>Q (ws++[v]) H') (t τ)->ta σ H Q
def z11 (hg:Gl X g)(hm:X.mg g=some (.ref f))(hd:autoParam (nDb g) au1._auto_1)(hs:autoParam (jMj [.Name g p] X.env=(false,eval (.Name g p) X.env)::jMj [] X.env) au3._auto_1):MAG X E Γ (.ref f) [.Name g p] ze .fresh:=
 ⟨fun τ ds h=>by cases h;rfl,_,zR (xt (v:=.ref f) hg hm rfl hd) wF hs,fun O σ H τ Q ok h=>h [] H [] (Same.refl H) Reps.nil RcOk.nil⟩
def ZS (h:ME X E Γ e t ca)(r:MAG X E Γ v es u cb)(hs:autoParam (jMj (e::es) X.env=(false,eval e X.env)::jMj es X.env) au3._auto_1):MAG X E Γ v (e::es) (zb t u) (Rc.both ca cb):=by
 obtain⟨te,p1,q1⟩:=h;obtain⟨hl,ta,p2,q2⟩:=r;refine⟨fun τ ds h=>?_,ZY te ta,zR p1 p2 hs,fun O σ H τ Q ok h=>?_⟩
 ·unfold zb at h;cases h1:t τ with
  | ok d =>
   rw[h1,jYa]at h;cases h2:u τ with
   | ok xs =>
    rw[h2,jYa]at h;cases h;rw[tE,tE,hl τ xs h2]
   | err n=>rw[h2]at h;cases h
   | bad=>rw[h2]at h;cases h
  | err n=>rw[h1]at h;cases h
  | bad=>rw[h1]at h;cases h
 ·unfold zb at h;refine q1 O σ H τ _ ok ?_;cases h1:t τ with
  | ok d =>
   rw[h1,jYa]at h;refine fun v H1 L1 s1 r1 k1=>q2 O σ H1 τ _ (ok.same s1) ?_;cases h2:u τ with
   | ok xs =>
    rw[h2,jYa]at h;exact fun vs H2 L2 s2 r2 k2=>h (v::vs) H2 (L1++L2) (s1.trans s2) (Reps.cons (r1.same s2) r2) (RcOk.append ok.dom s1 r1 k1 k2)
   | err n=>rw[h2]at h;exact fun C H' e s'=>h C H' e (s1.trans s')
   | bad=>rw[h2]at h;exact h
  | err n=>rw[h1]at h;exact h
  | bad=>rw[h1]at h;exact h
def z0s {k n:Nat}(O:Own X.prog X.w X.K X.mg X.base x k ps (spF X.K F n v))(hr:Room k X.A)(hg:Gl X x)(hx:vj (cxx X.prog X.w) X E)(ha:MAG X E Γ v (e::es) u c)(hl:autoParam ((e::es).length=n+1) au3._auto_1)(hdb:autoParam (nDb x) au1._auto_1)
  (he:autoParam (jMj (e::es) X.env=(false,eval e X.env)::jMj es X.env) au3._auto_1) (hpl:autoParam ((jNd pos (jMj es X.env)).any (·.1)=false) au3._auto_1):ME X E Γ (.Call (.Name x p) (e::es) [] pos) (eL F u) .fresh:=by
 obtain⟨hlen,ta,pa,q⟩:=ha;refine⟨_,Kr O hr hg hx pa hdb he hpl,fun O' σ H τ Q ok h=>q O' σ H τ _ ok ?_⟩;unfold eL at h;cases hu:u τ with
 | ok ds =>
  rw[hu,jYa]at h;refine fun vs H1 L s1 r1 _=>?_;have hv:vs.length=n:=by have:=hlen τ ds hu;rw[r1.length];lia
  refine⟨vs,tI _,hv,ds,L,r1,?_⟩;have h1:=h.same s1;cases hF:F ds with
  | ok d=>rw[hF]at h1;exact h1
  | err n=>rw[hF]at h1;exact h1
  | bad=>rw[hF]at h1;exact h1
 | err n=>rw[hu]at h;exact h
 | bad=>rw[hu]at h;exact h
end
def OwnF (P:jNa)(w:World)(K:jJa)(mg:Str->Option Value)(base:Heap)(x:Str)(k:Nat)(ps:List Str)(F:List D->R D)(n:Nat)(g:Str):Prop:=∃f,mg g=some (.ref f)/\Own P w K mg base x k ps (spF K F n (.ref f))
theorem OwnF.mono {P:jNa}{w:World}{K:jJa}{mg:Str->Option Value}{base:Heap}{x:Str}{j k:Nat}{ps:List Str}{F:List D->R D}{n:Nat}{g:Str}(O:OwnF P w K mg base x j ps F n g)(h:j<=k):OwnF P w K mg base x k ps F n g:=by
 obtain⟨f,a,b⟩:=O;exact⟨f,a,b.mono h⟩
def wD {k:Nat}{p pg pos:Pos}(O:OwnF X.prog X.w X.K X.mg X.base x k ps F 3 g)(hr:Room k X.A)(hg:Gl X x)(hgg:Gl X g)(hx:vj (cxx X.prog X.w) X E)(h1:ME X E Γ e1 t1 c1)(h2:ME X E Γ e2 t2 c2)(h3:ME X E Γ e3 t3 c3)
  (hdb:autoParam (nDb x) au1._auto_1) (hdg:autoParam (nDb g) au1._auto_1) (s1:autoParam (jMj [e1,e2,e3,.Name g pg] X.env=(false,eval e1 X.env)::jMj [e2,e3,.Name g pg] X.env) au3._auto_1) (s2:autoParam (jMj [e2,e3,.Name g pg] X.env=(false,eval e2 X.env)::jMj [e3,.Name g pg] X.env) au3._auto_1) (s3:autoParam (jMj [e3,.Name g pg] X.env=(false,eval e3 X.env)::jMj [.Name g pg] X.env) au3._auto_1)
  (hpl:autoParam ((jNd pos (jMj [e2,e3,.Name g pg] X.env)).any (·.1)=false) au3._auto_1):ME X E Γ (.Call (.Name x p) [e1,e2,e3,.Name g pg] [] pos) (eL F (zb t1 (zb t2 (zb t3 ze)))) .fresh:=by
 obtain⟨f,a,b⟩:=O;exact z0s b hr hg hx (ZS h1 (ZS h2 (ZS h3 (z11 hgg a hdg rfl) s3) s2) s1) rfl hdb s1 hpl
open PySem PySem.Spec PyProof.Rows PySem.Builtin.Str
def z7g:V->List V->Hp->VK->Prop:=fun x xs H Q=>∃z y,x=.str z/\xs=[.str y]/\Q (.bl (Txt.startswith z y)) H
def uQ:MtR X "str.startswith" z7g:=by
 intro jNf s σ H x xs v us Q I rx rs h;obtain⟨z,y,rfl,rfl,q⟩:=h;obtain⟨t,rfl⟩:=rx;obtain⟨u,rfl,ru⟩:=wO rs;obtain⟨t2,rfl⟩:=ru;exact SC.startswith ⟨.bl (Txt.startswith z y),H,I,rfl,q⟩
def yD (z:Str):List D->R D
 | [.str y]=>.ok (.bl (Txt.startswith z y))
 | _=>.bad
def jD (z:Str):yQ (yD z):=fun ds n h=>by
 unfold yD at h;split at h<;>cases h
def jl {K:jJa}:SmB K z7g yD:=by
 rintro H z xs ds L Q rs ⟨d,hg,q⟩;unfold yD at hg;split at hg
 ·rename_i y;cases hg;exact⟨z,y,rfl,qC rs,q _ H [] (Same.refl H) ⟨rfl,rfl⟩ (by simp) (fun a ha=>nomatch ha)⟩
 ·cases hg
def z62:V->List V->Hp->VK->Prop:=fun x xs H Q=>∃z y,x=.str z/\xs=[.str y]/\Q (.bl (Txt.endswith z y)) H
def XU:MtR X "str.endswith" z62:=by
 intro jNf s σ H x xs v us Q I rx rs h;obtain⟨z,y,rfl,rfl,q⟩:=h;obtain⟨t,rfl⟩:=rx;obtain⟨u,rfl,ru⟩:=wO rs;obtain⟨t2,rfl⟩:=ru;exact SC.endswith ⟨.bl (Txt.endswith z y),H,I,rfl,q⟩
def vg (z:Str):List D->R D
 | [.str y]=>.ok (.bl (Txt.endswith z y))
 | _=>.bad
def Us (z:Str):yQ (vg z):=fun ds n h=>by
 unfold vg at h;split at h<;>cases h
def Q1 {K:jJa}:SmB K z62 vg:=by
 rintro H z xs ds L Q rs ⟨d,hg,q⟩;unfold vg at hg;split at hg
 ·rename_i y;cases hg;exact⟨z,y,rfl,qC rs,q _ H [] (Same.refl H) ⟨rfl,rfl⟩ (by simp) (fun a ha=>nomatch ha)⟩
 ·cases hg
def z1m:V->List V->Hp->VK->Prop:=fun x xs H Q=>∃z y,x=.str z/\xs=[.str y]/\z.length<=jMi/\Q (.str (Txt.stripChars z y)) H
def jY:MtR X "str.strip" z1m:=by
 intro jNf s σ H x xs v us Q I rx rs h;obtain⟨z,y,rfl,rfl,hz,q⟩:=h;obtain⟨t,rfl⟩:=rx;obtain⟨u,rfl,ru⟩:=wO rs;obtain⟨t2,rfl⟩:=ru;exact SC.stripChars (fun t' k=>⟨.str (Txt.stripChars z y),H,I.tok _,⟨t',rfl⟩,q⟩) hz
def uj (z:Str):List D->R D
 | [.str y]=>if z.length<=jMi then .ok (.str (Txt.stripChars z y)) else .bad
 | _=>.bad
def W7 (z:Str):yQ (uj z):=fun ds n h=>by
 unfold uj at h;split at h
 ·split at h<;>cases h
 ·cases h
def WR {K:jJa}:SmB K z1m uj:=by
 rintro H z xs ds L Q rs ⟨d,hg,q⟩;unfold uj at hg;split at hg
 ·rename_i y;split at hg
  ·rename_i hz;cases hg;exact⟨z,y,rfl,qC rs,hz,q _ H [] (Same.refl H) ⟨rfl,rfl⟩ (by simp) (fun a ha=>nomatch ha)⟩
  ·cases hg
 ·cases hg
def z1a:V->List V->Hp->VK->Prop:=fun x xs H Q=>∃z y i,x=.str z/\xs=[.str y,.int i]/\Q (.int (Txt.find3 z y i)) H
def z0L:MtR X "str.find" z1a:=by
 intro jNf s σ H x xs v us Q I rx rs h;obtain⟨z,y,i,rfl,rfl,q⟩:=h;obtain⟨t,rfl⟩:=rx;cases rs with
 | cons r1 r2 =>
  obtain⟨t1,rfl⟩:=r1;obtain⟨u,rfl,ru⟩:=wO r2;obtain⟨t2,rfl⟩:=ru;exact SC.find3 ⟨.int (Txt.find3 z y i),H,I.tok _,⟨_,rfl⟩,q⟩
def qe (z:Str):List D->R D
 | [.str y,.int i]=>.ok (.int (Txt.find3 z y i))
 | _=>.bad
def z37 (z:Str):yQ (qe z):=fun ds n h=>by
 unfold qe at h;split at h<;>cases h
def z2r {K:jJa}:SmB K z1a qe:=by
 rintro H z xs ds L Q rs ⟨d,hg,q⟩;unfold qe at hg;split at hg
 ·rename_i y i;cases hg;have e:xs=[.str y,.int i]:=by
   obtain⟨v,vs',L1,L2,e1,_,r1,v2,vs2,L3,L4,e2,_,r2,r3⟩:=rs;rw[e1,r1.1,e2,r2.1,r3.1]
  exact⟨z,y,i,rfl,e,q _ H [] (Same.refl H) ⟨rfl,rfl⟩ (by simp) (fun a ha=>nomatch ha)⟩
 ·cases hg
theorem J4:∀l:List (Str×Tok),Vals ((l.map (·.1)).map V.str) (strValues l)
 | []=>.nil
 | p::l=>.cons ⟨p.2,rfl⟩ (J4 l)
def Kc:V->List V->Hp->VK->Prop:=fun x xs H Q=>∃z y,x=.str z/\xs=[.str y]/\(y.length==0)=false/\z.length<=jMi/\(Txt.split z y).length<=jMi/\∀p,H p=none->Q (.ref p) (upd H p (.lst ((Txt.split z y).map V.str)))
def xQ:MtR X "str.split" Kc:=by
 intro jNf s σ H x xs v us Q I rx rs h;obtain⟨z,y,rfl,rfl,hy,hz,hn,q⟩:=h;obtain⟨t,rfl⟩:=rx;obtain⟨w,rfl,ru⟩:=wO rs;obtain⟨u,rfl⟩:=ru;have key:∀(l:List (Str×Tok)) (k m:Nat),l.map (·.1)=Txt.split z y->∃v H1,Inv X jNf σ H1 { s with heap:=s.heap.push { cls:=.type "list",data:=.seq (strValues l).toArray m },toks:=k }/\RelV v (.ref s.heap.objs.size)/\Q v H1:=fun l k m e=>by
  refine⟨.ref s.heap.objs.size,upd H s.heap.objs.size (.lst ((Txt.split z y).map V.str)),I.laid (fun b ob q=>jYb _ q) (tP _) ?_,rfl,q _ (I.hok.fresh (tP _))⟩;refine⟨by rw[tJ];exact hn,strValues l,m,?_,jYd _ rfl⟩;rw[<-e];exact J4 l
 cases h1:(decide (z.length<y.length)||decide (strKind z<strKind y))with
 | true=>exact call_meets F.slot_str_split (typeIs_str _ _ _) F.entry_str_split (F.args_str_split_2 _ _) (meets_str_split_cannot_occur z y t u h1) (key [(z,t)] _ _ (jNg h1).symm)
 | false =>
  cases hf:(occurrences z y 0 z.length (z.length+1)).isEmpty with
  | true=>exact call_meets F.slot_str_split (typeIs_str _ _ _) F.entry_str_split (F.args_str_split_2 _ _) (meets_str_split_not_found z y t u h1 hy hf) (key [(z,t)] _ _ ((jNh (ne_true_of_eq_false h1)).trans (jNg hf)).symm)
  | false =>
   have e:Txt.split z y=partsBetween z (occurrences z y 0 z.length (z.length+1)) y.length:=(jNh (ne_true_of_eq_false h1)).trans (jNh (ne_true_of_eq_false hf));rw[e]at hn;refine call_meets F.slot_str_split (typeIs_str _ _ _) F.entry_str_split (F.args_str_split_2 _ _) (meets_str_split_sep z y t u h1 hy hf hz hn) ?_;rw[strsFrom_eq];exact key (numbered s.toks _) _ _ ((numbered_texts _ _).trans e.symm)
def xO (z:Str):List D->R D
 | [.str y]=>if (y.length==0)=false/\z.length<=jMi/\(Txt.split z y).length<=jMi then .ok (.lst ((Txt.split z y).map D.str)) else .bad
 | _=>.bad
def vL (z:Str):yQ (xO z):=fun ds n h=>by
 unfold xO at h;split at h
 ·split at h<;>cases h
 ·cases h
def vJ {K:jJa}:SmB K Kc xO:=by
 rintro H z xs ds L Q rs ⟨d,hg,q⟩;unfold xO at hg;split at hg
 ·rename_i y;split at hg
  ·rename_i hz;cases hg;refine⟨z,y,rfl,qC rs,hz.1,hz.2.1,hz.2.2,fun p hp=>?_⟩;exact q (.ref p) _ [p] (Same.new hp) ⟨p,(Txt.split z y).map V.str,[],rfl,zz,rfl,Y5 _⟩ (by simp) (fun a ha=>by rw[sG.mp ha];exact hp)
  ·cases hg
 ·cases hg
def Yr (z:Str):D->Option D
 | .tup [n,.lst ws]=>if ws.length<jMi then some (.tup [n,.lst (ws++[.str z])]) else none
 | _=>none
def qP (z:Str):List D->Option (List D)
 | []=>none
 | [d]=>(Yr z d).map fun e=>[e]
 | d::e::r=>(qP z (e::r)).map (d::·)
def z1C {K:jJa}{H:Hp}{z:Str}{d e:D}{v:V}{L:List Addr}(r:Rep K H d v L)(h:Yr z d=some e)(nd:L.Nodup):∃t n0 b ws,v=.ref t/\SqT K H t [n0,.ref b]/\H b=some (.lst ws)/\ws.length<jMi/\b∈L/\Rep K (upd H b (.lst (ws++[.str z]))) e v L:=by
 unfold Yr at h;split at h
 ·rename_i n fs;split at h
  ·rename_i hz;cases h;obtain⟨t,vs,rfl,ht,rs⟩:=r;obtain⟨v0,vs',L1,L2,e1,e2,r1,v1,vs2,L3,L4,e3,e4,r2,r3⟩:=rs;obtain⟨e5,e6⟩:=r3;obtain⟨b,ws,L',e7,hb,e8,qs⟩:=r2;subst e1 e2 e3 e4 e5 e6 e7 e8;have hl:ws.length=fs.length:=qs.length;have mu:(∃vs,H b=some (.lst vs))\/∃kvs,H b=some (.dK kvs):=.inl ⟨_,hb⟩;obtain⟨n1,n2,n3⟩:=sN.mp nd;obtain⟨n4,n5,n6⟩:=sN.mp n2;obtain⟨m1,m2⟩:=sP.mp n4;have hbm:b∈(b::L')++[]:=tW _ tG;have rr:=Reps.append (qs.upd (o:=.lst (ws++[.str z])) mu m1) (Reps.cons (d:=.str z) (v:=.str z) (L1:=[]) ⟨rfl,rfl⟩ (Reps.nil (K:=K) (H:=upd H b (.lst (ws++[.str z])))));rw[tI,tI]at rr;exact⟨t,v0,b,ws,rfl,ht,hb,by omega,tL _ hbm,t,_,rfl,ht.tf (TF.upd mu),Reps.cons (r1.upd mu fun z=>n3 b z b hbm rfl) (Reps.cons ⟨b,_,L',rfl,zz,rfl,rr⟩ Reps.nil)⟩
  ·cases h
 ·cases h
theorem Jr {K:jJa}{H:Hp}{z:Str}:∀ {ds es:List D} {vs:List V} {L:List Addr},Reps K H ds vs L->qP z ds=some es->L.Nodup->∃pre t n0 b ws,vs=pre++[.ref t]/\SqT K H t [n0,.ref b]/\H b=some (.lst ws)/\ws.length<jMi/\b∈L/\Reps K (upd H b (.lst (ws++[.str z]))) es vs L
 | [],_,_,_,_,h,_=>by cases h
 | [d],es,_,_,hq5,h,nd=>by
  obtain⟨v0,vs',L1,L2,e1,e2,r1,r2⟩:=hq5;subst e1 e2;obtain⟨e5,e6⟩:=r2;subst e5 e6;have h:(Yr z d).map (fun e=>[e])=some es:=h;cases hq:Yr z d with
  | none=>rw[hq]at h;cases h
  | some e =>
   rw[hq]at h;cases h;rw[tI]at nd;obtain⟨t,n0,b,ws,rfl,a1,a2,a3,a4,a5⟩:=z1C r1 hq nd;exact⟨[],t,n0,b,ws,rfl,a1,a2,a3,tW _ a4,Reps.cons a5 Reps.nil⟩
 | d::d2::ds,es,_,_,hq5,h,nd=>by
  obtain⟨v0,vs',L1,L2,e1,e2,r1,r2⟩:=hq5;subst e1 e2;have h:(qP z (d2::ds)).map (d::·)=some es:=h;cases hq:qP z (d2::ds)with
  | none=>rw[hq]at h;cases h
  | some fs =>
   rw[hq]at h;cases h;obtain⟨n1,n2,n3⟩:=sN.mp nd;obtain⟨pre,t,n0,b,ws,rfl,a1,a2,a3,a4,a5⟩:=Jr r2 hq n2;have mu:(∃vs,H b=some (.lst vs))\/∃kvs,H b=some (.dK kvs):=.inl ⟨_,a2⟩;exact⟨v0::pre,t,n0,b,ws,rfl,a1,a2,a3,tL _ a4,Reps.cons (r1.upd mu fun z=>n3 b z b a4 rfl) a5⟩
def ZL (i j:Nat):Tn->R Fl:=fun τ=>match τ[i]?,τ[j]? with
 | some (some (.lst ds)),some (some (.str z))=>(match qP z ds with
  | some es=>.ok (.nx (τ.set i (some (.lst es))))
  | none=>.bad)
 | _,_=>.bad
section
variable {X:Cx}{E:XK}{Γ Γl:List Cl}{pos:Pos}
def z63 (i j:Nat){x y:Str}{c0 c1:Nat}{p0 p1 p2 p3 p4 p5 p6 p7 p8:Pos}(hN:autoParam (X.N[i]?=some x) au3._auto_1)(hM:autoParam (X.N[j]?=some y) au3._auto_1)(h0:autoParam (Γ[i]?=some .own) au3._auto_1){cj:Cl}(h1:autoParam (Γ[j]?=some cj) au3._auto_1)(hcj:autoParam (cj≠.dead) au9._auto_1)(hv:autoParam (Vis X.env.scope x) au5._auto_1)(hb:autoParam (nDb x) au1._auto_1)(hcd:autoParam ((x==("__classdict__":Str))=false) au1._auto_1)
  (hv2:autoParam (Vis X.env.scope y) au5._auto_1) (hb2:autoParam (nDb y) au1._auto_1) (hcd2:autoParam ((y==("__classdict__":Str))=false) au1._auto_1)
  (hbase:autoParam (jKd (.Subscript (.Subscript (.Name x p0) (.UnaryOp .USub (.Constant (.int 1) c0 p3) p5) p4) (.Constant (.int 1) c1 p6) p7) "append" X.env (eval (.Subscript (.Subscript (.Name x p0) (.UnaryOp .USub (.Constant (.int 1) c0 p3) p5) p4) (.Constant (.int 1) c1 p6) p7) X.env)=eval (.Subscript (.Subscript (.Name x p0) (.UnaryOp .USub (.Constant (.int 1) c0 p3) p5) p4) (.Constant (.int 1) c1 p6) p7) X.env) au3._auto_1)
  (hfew:autoParam (((jNd p2 (jMj [.Name y p8] X.env)).all (fun x=>!x.1)&&(jMh p2 (jKh [] X.env)).all (fun x=>x.1.isSome)&&decide ([Expr.Name y p8].length+([]:List jMk).length+(if ([]:List jMk).isEmpty then 0 else 1)<30))=true) au3._auto_1)
  (hline:autoParam ((p1.endLine==p2.line)=true) au3._auto_1) (hs:autoParam (jMj [.Name y p8] X.env=(false,eval (.Name y p8) X.env)::jMj [] X.env) au3._auto_1) (hplain:autoParam ((jNd p2 (jMj [] X.env)).any (·.1)=false) au3._auto_1)
  (hsw:autoParam (jMf (.Call (.Attribute (.Subscript (.Subscript (.Name x p0) (.UnaryOp .USub (.Constant (.int 1) c0 p3) p5) p4) (.Constant (.int 1) c1 p6) p7) "append" p1) [.Name y p8] [] p2) none pos.line X.env=pure false) au3._auto_1):
  MS X E Γl Γ (.Expr (.Call (.Attribute (.Subscript (.Subscript (.Name x p0) (.UnaryOp .USub (.Constant (.int 1) c0 p3) p5) p4) (.Constant (.int 1) c1 p6) p7) "append" p1) [.Name y p8] [] p2) pos) (ZL i j) Γ:=by
 refine⟨_,Zs (Qk jQ6 jQ7 jQ8 qE (ZZ j7 (ZZ j7 (vN (pos:=p0) hN hv hb hcd) (Jn WT ue) (fun _ _=>rfl)) ue (fun _ _=>rfl)) (zR (vN (pos:=p8) hM hv2 hb2 hcd2) wF hs) hbase hfew hline hs hplain) hsw,fun B σ H τ Z ok h=>?_⟩;obtain⟨Ls,g1,_⟩:=ok.ex;obtain⟨vy,dy,y1,y2,ry⟩:=g1 j _ h1 hcj;obtain⟨v0,d0,L,e1,e2,r,nd,n2,fin⟩:=ok.slot h0;unfold ZL at h;rw[e2,y2]at h;cases d0 with
 | lst ds =>
  cases dy with
  | str z =>
   dsimp only at h;cases hq:qP z ds with
   | none=>rw[hq]at h;exact h.elim
   | some es =>
    rw[hq]at h;obtain⟨a,vs,L1,rfl,ha,e,rs⟩:=r;subst e;obtain⟨rfl,_⟩:=ry;obtain⟨m1,m2⟩:=sP.mp nd;obtain⟨pre,t,n0,b,ws,rfl,c1,c2,cz,c3,c4⟩:=Jr rs hq m2;have mu:(∃vs,H b=some (.lst vs))\/∃kvs,H b=some (.dK kvs):=.inl ⟨_,c2⟩;have hab:a≠b:=fun z=>m1 (z▸c3);refine⟨_,e1,1,rfl,.inl ⟨a,pre++[.ref t],-1,.ref t,rfl,rfl,SqL.of ha,jx _ _,.inr (.inl ⟨t,[n0,.ref b],1,.ref b,rfl,rfl,c1,rfl,.inl ⟨rfl,ws,SqL.of c2⟩,_,y1,b,ws,.str z,rfl,rfl,c2,cz,?_⟩)⟩⟩;exact h _ _ (fin _ _ (a::L1) [] [] rfl (TF.upd mu) (fun c hc _=>zt fun z=>hc (z▸tH _ c3)) ⟨a,_,L1,rfl,by rw[zt hab];exact ha,rfl,c4⟩ (fun c hc=>.inl hc) nd)
  | _=>exact h.elim
 | _=>cases dy<;>exact h.elim
end
open PySem PySem.Spec PyProof.Rows PySem.Builtin.Str
def z4a:R2:=fun x y H Q=>∃a b,x=.str a/\y=.str b/\Q (.bl (!inS a b)) H
def Jj:OpR X (jMe .NotIn) z4a:=fun jNf s σ H x y v u Q I rx ry h=>W4 jNf s σ H x y v u Q I rx ry h
def Z4:D->D->R D
 | .str a,.str b=>.ok (.bl (!inS a b))
 | _,_=>.bad
def z1s:x8 Z4:=fun x y n h=>by
 unfold Z4 at h;split at h<;>cases h
def z1o {K:jJa}:OpB K z4a Z4:=by
 rintro H x y dx dy Lx Ly Q rx ry ⟨d,hg,q⟩;unfold Z4 at hg;split at hg
 ·rename_i a b;cases hg;exact⟨a,b,rx.1,ry.1,q _ H [] (Same.refl H) ⟨rfl,rfl⟩ (by simp) (fun a ha=>nomatch ha)⟩
 ·cases hg
def z0:D:=.lst [.int 0]
def z0R (xc:Str)(F:List D->R D)(u:Tn->R (List D)):Tn->R Fl:=fun τ=>match u τ with
 | .ok ds=>(match F ds with
  | .ok d=>.ok (.rt d)
  | .err m=>if m=xc then .ok (.rt .non) else .bad
  | .bad=>.bad)
 | _=>.bad
def z3O (d:D)(kn:Int):R D:=match d with
 | .tup ds=>ixD (.tup ds) (.int kn)
 | _=>.bad
def z0j (xc:Str)(j:Nat)(kn:Int)(F:List D->R D)(u:Tn->R (List D)):Tn->R Fl:=fun τ=>match u τ with
 | .ok ds=>(match F ds with
  | .ok d=>(match z3O d kn with
   | .ok x=>.ok (.nx (τ.set j (some x)))
   | _=>.bad)
  | .err m=>if m=xc then .ok (.rt .non) else .bad
  | .bad=>.bad)
 | _=>.bad
def f2D (b:Str):D->R D
 | .int i=>if i.natAbs.log2<1920/\(toString i:Str).length<=jMi/\((toString i:Str)++b).length<=jMi then .ok (.str ((toString i:Str)++b)) else .bad
 | _=>.bad
def eF2 (b:Str)(t:Tn->R D):Tn->R D:=fun τ=>(t τ).bind (f2D b)
def z5Z (x k:D):R D:=match x with
 | .tup ds=>ixD (.tup ds) k
 | _=>.bad
def z77 (i j:Nat)(t:Tn->R D):Tn->R Fl:=fun τ=>(t τ).bind fun d=>match d with
 | .tup [a,b]=>if a.imm=true then .ok (.nx ((τ.set i (some a)).set j (some b))) else .bad
 | _=>.bad
def Y {α:Type}(r:R α)(Q:α->Prop):Prop:=∃a,r=.ok a/\Q a
section
variable {α β:Type}
def Y.imp (h:Y r P)(k:∀a,P a->Q a):Y r Q:=h.elim fun a h=>⟨a,h.1,k a h.2⟩
def xa (h:Q a):Y (.ok a) Q:=⟨a,rfl,h⟩
def zd (e:r=.ok a)(h:Q a):Y r Q:=⟨a,e,h⟩
def zr (h:Y r fun a=>Y (f a) Q):Y (r.bind f) Q:=by
 obtain⟨a,rfl,b,e,q⟩:=h;exact⟨b,e,q⟩
def yA [Decidable p]{a b:R α}(h:p->Y a Q)(k:¬p->Y b Q):Y (if decide p=true then a else b) Q:=by
 by_cases x:p
 ·rw[jNg (decide_eq_true x)];exact h x
 ·rw[jNh (by simpa using x)];exact k x
def z8p [Decidable p]{a b:R α}(x:p)(h:Y a Q):Y (if decide p=true then a else b) Q:=yA (fun _=>h) fun k=>(k x).elim
def z8w [Decidable p]{a b:R α}(x:¬p)(h:Y b Q):Y (if decide p=true then a else b) Q:=yA (fun k=>(x k).elim) fun _=>h
def z8m (h:Y b Q):Y (if (!true)=true then a else b) Q:=h
def z8P (h:Y a Q):Y (if (!false)=true then a else b) Q:=h
def z8L (h:Y a Q):Y (if true=true then a else b) Q:=h
def z8t (h:Y b Q):Y (if false=true then a else b) Q:=h
end
def szL (Q:D->Prop)(ys:List D):Prop:=ys.length<=16777216/\Q (.lst ys)
abbrev kL {α β:Type}(g:α->R β)(Q:β->Prop):α->Prop:=fun x=>Y (g x) Q
abbrev k2 (g:D->D->R D)(x:D)(Q:D->Prop):D->Prop:=fun y=>Y (g x y) Q
abbrev k1 (b:Tn->R D)(g:D->D->R D)(τ:Tn)(Q:D->Prop):D->Prop:=fun x=>Y (b τ) (k2 g x Q)
abbrev k4 (x:D)(l:List D->Prop):List D->Prop:=fun y=>l (x::y)
abbrev k3 (u:Tn->R (List D))(τ:Tn)(l:List D->Prop):D->Prop:=fun x=>Y (u τ) (k4 x l)
abbrev kA (k:Tn->R Bool)(τ:Tn)(q:Bool->Prop):Bool->Prop:=fun x=>Y (if x=true then k τ else .ok false) q
abbrev kO (k:Tn->R Bool)(τ:Tn)(q:Bool->Prop):Bool->Prop:=fun x=>Y (if x=true then .ok true else k τ) q
abbrev kN (q:Bool->Prop):Bool->Prop:=fun x=>q (!x)
abbrev kI {α:Type}(a b:Tn->R α)(τ:Tn)(Q:α->Prop):Bool->Prop:=fun x=>Y (if x=true then a τ else b τ) Q
abbrev kE (b:Tn->R D)(τ:Tn)(Q:D->Prop):Bool->Prop:=fun x=>Y (if x=true then b τ else .ok (.bl false)) Q
abbrev kE1 (b:Tn->R D)(τ:Tn)(Q:D->Prop):D->Prop:=fun x=>Y (asB x) (kE b τ Q)
abbrev kM (Q:D->Prop):D->Prop:=fun x=>x.imm=true/\Q x
abbrev kS3 (f:D->Option Int->Option Int->R D)(x:D)(y:Option Int)(Q:D->Prop):Option Int->Prop:=fun z=>Y (f x y z) Q
abbrev kS2 (f:D->Option Int->Option Int->R D)(x:D)(o:Tn->R (Option Int))(τ:Tn)(Q:D->Prop):Option Int->Prop:=fun y=>Y (o τ) (kS3 f x y Q)
abbrev kS1 (f:D->Option Int->Option Int->R D)(o o':Tn->R (Option Int))(τ:Tn)(Q:D->Prop):D->Prop:=fun x=>Y (o τ) (kS2 f x o' τ Q)
abbrev kT (o:Option Int->Prop):D->Prop:=fun x=>∃i,x=.int i/\o (some i)
abbrev kG (G:Str->List D->R D)(u:Tn->R (List D))(τ:Tn)(Q:D->Prop):D->Prop:=fun x=>∃z,x=.str z/\Y (u τ) (kL (G z) Q)
abbrev kH (G:Str->R D)(Q:D->Prop):D->Prop:=fun x=>∃z,x=.str z/\Y (G z) Q
abbrev kVs (τ:Tn)(i:Nat)(Q:Fl->Prop):D->Prop:=fun d=>Q (.nx (τ.set i (some d)))
abbrev kR (Q:Fl->Prop):D->Prop:=fun d=>Q (.rt d)
abbrev kW (τ:Tn)(Q:Fl->Prop):D->Prop:=fun _=>Q (.nx τ)
abbrev kU2 (g:D->D->R D)(x:D)(i:Nat)(τ:Tn)(Q:Fl->Prop):D->Prop:=fun y=>Y (g x y) (kVs τ i Q)
abbrev kU (t:Tn->R D)(g:D->D->R D)(i:Nat)(τ:Tn)(Q:Fl->Prop):D->Prop:=fun x=>Y (t τ) (kU2 g x i τ Q)
abbrev kP (ds:List D)(i:Nat)(τ:Tn)(Q:Fl->Prop):D->Prop:=fun d=>ds.length<16777216/\Q (.nx (τ.set i (some (.lst (ds++[d])))))
abbrev kQ {α:Type}(enc:α->D)(xs:List α)(i:Nat)(τ:Tn)(Q:Fl->Prop):D->Prop:=fun d=>∃x,d=enc x/\xs.length<16777216/\Q (.nx (τ.set i (some (.lst ((xs++[x]).map enc)))))
abbrev kPu {α:Type}(enc:α->D)(xs:List α)(i:Nat)(ti:Tn->R D)(τ:Tn)(Q:Fl->Prop):D->Prop:=fun d=>∃x,d=enc x/\Y (ti τ) fun k=>∃j,k=.int j/\(0<=j/\j<xs.length)/\Q (.nx (τ.set i (some (.lst ((xs.set j.toNat x).map enc)))))
abbrev kPl {α:Type}(enc:α->D)(ys:List α)(i:Nat)(ti:Tn->R D)(τ:Tn)(Q:Fl->Prop):D->Prop:=fun d=>∃x,d=enc x/\Y (ti τ) fun k=>k=.int (-1)/\Q (.nx (τ.set i (some (.lst ((ys++[x]).map enc)))))
abbrev kKp (ks:List Key)(ds:List D)(i:Nat)(ti:Tn->R D)(τ:Tn)(Q:Fl->Prop):D->Prop:=fun d=>d.imm=true/\ks.length<16777216/\Y (ti τ) fun k=>∃x,k=.str x/\Q (.nx (τ.set i (some (.dic (Vr ks ds (.inr x) d).1 (Vr ks ds (.inr x) d).2))))
abbrev kGt (u v:Tn->R D)(τ:Tn)(Q:D->Prop):D->Prop:=fun d=>∃p:List Key×List D,d=.dic p.1 p.2/\Y (u τ) fun k=>Y (v τ) fun z=>Y (z7j p.1 p.2 k z) Q
abbrev kY (Q:Fl->Prop):Tn->Prop:=fun τ=>Q (.nx τ)
abbrev kX (tg:Tgt)(τ:Tn)(Q:Fl->Prop):D->Prop:=fun d=>Y (tg.asg d τ) (kY Q)
abbrev kF (tg:Tgt)(B:Tn->R Fl)(τ:Tn)(Q:Fl->Prop):List D->Prop:=fun ds=>Y (xx tg.asg B ds τ) Q
abbrev kC (fr:List (Option Nat))(tg:Tgt)(c:Tn->R Bool)(a:Tn->R D)(τ:Tn)(Q:D->Prop):List D->Prop:=fun ds=>Y (xE (vw tg.asg c a (wu fr τ)) ds) (szL Q)
section
variable {q:Bool->Prop}{c k:Tn->R Bool}{i:Nat}
def Vi (e:τ[i]?=some (some d))(h:Q d):Y (za i τ) Q:=⟨d,by unfold za;rw[e],h⟩
def y_C (h:Q d):Y (eC d τ) Q:=⟨d,rfl,h⟩
def z7U (h:Y (a τ) (k1 b g τ Q)):Y (zc g a b τ) Q:=zr (h.imp fun _ k=>zr k)
def z8I (h:Y (a τ) (kL g Q)):Y (eUn g a τ) Q:=zr h
def y_L (h:Y (u τ) (kL F Q)):Y (eL F u τ) Q:=zr h
def z5n (h:Y (a τ) (k3 u τ l)):Y (zb a u τ) l:=zr (h.imp fun _ k=>zr (k.imp fun _ k=>xa k))
def z7e (h:l []):Y (ze τ) l:=xa h
def z5x (h:Y (a τ) (kL asB q)):Y (zh a τ) q:=zr h
def z6x {x:Bool}(h:q x):Y (asB (.bl x)) q:=xa h
def z75 (h:Y (c τ) (kA k τ q)):Y (u5 c k τ) q:=zr h
def z8o (h:Y (c τ) (kO k τ q)):Y (bOr c k τ) q:=zr h
def z6h (h:Y (c τ) (kN q)):Y (yJ c τ) q:=zr (h.imp fun _ k=>xa k)
def z6A (h:Y (c τ) (kI a b τ Q)):Y (eIf c a b τ) Q:=zr h
def z5b (h:Y (a τ) (kE1 b τ Q)):Y (uq a b τ) Q:=zr (h.imp fun _ k=>zr k)
def z82 (h:Y (a τ) (kM Q)):Y (uT a τ) Q:=zr (h.imp fun _ k=>⟨_,jNg k.1,k.2⟩)
def z8u {o o':Tn->R (Option Int)}(h:Y (a τ) (kS1 slD o o' τ Q)):Y (eSl a o o' τ) Q:=zr (h.imp fun _ k=>zr (k.imp fun _ k=>zr k))
def z6T {o o':Tn->R (Option Int)}(h:Y (a τ) (kS1 slA o o' τ Q)):Y (z8j a o o' τ) Q:=zr (h.imp fun _ k=>zr (k.imp fun _ k=>zr k))
def z8T {o:Option Int->Prop}(h:Y (a τ) (kT o)):Y (zX a τ) o:=zr (h.imp fun _ k=>by obtain⟨i,rfl,k⟩:=k;exact xa k)
def z8r {o:Option Int->Prop}(h:o none):Y (xm τ) o:=xa h
def z7o (h:Y (a τ) (kGt b v τ Q)):Y (z8J a b v τ) Q:=zr (h.imp fun _ k=>by obtain⟨p,rfl,k⟩:=k;exact zr (k.imp fun _=>zr))
def z2b (h:Y (a τ) fun x=>Y (b τ) fun y=>Y (g x y) fun z=>Y (asB z) fun k=>Y (if k=true then zc g' (eC y) e τ else .ok (.bl false)) Q):Y (yx g g' a b e τ) Q:=zr (h.imp fun _ k=>zr (k.imp fun _ k=>zr (k.imp fun _ k=>zr k)))
def z5P (h:Y (a τ) (kL jg l)):Y (yo a τ) l:=zr h
def z8C (h:Y (u τ) (kL G l)):Y (iL G u τ) l:=zr h
def z90 (h:Y (a τ) (kG G u τ Q)):Y (eSm G a u τ) Q:=zr (h.imp fun _ k=>by obtain⟨i,rfl,k⟩:=k;exact zr k)
def z7h (h:Y (a τ) (kH G Q)):Y (z8D G a τ) Q:=zr (h.imp fun _ k=>by obtain⟨i,rfl,k⟩:=k;exact k)
def z4l {fr:List (Option Nat)}(h:Y (u τ) (kC fr tg c a τ Q)):Y (zS fr u tg c a τ) Q:=
 zr (h.imp fun _ k=>zr (k.imp fun _ k=>⟨_,jNg (by rw[jKj];exact k.1),k.2⟩))
def uz {α:Type}{enc:α->D}{tg:Tgt}{xs:List α}(f:α->D)(h:∀x∈xs,Y (tg.asg (enc x) τ) (kL a fun v=>v=f x))(k:Q (.lst (xs.map f)))(hl:autoParam (xs.length<=16777216) au10._auto_1):Y (xE (vw tg.asg (fun _=>.ok true) a τ) (xs.map enc)) (szL Q):=by
 refine⟨xs.map f,?_,by rw[tJ];exact hl,k⟩;rw[vd (o:=fun x=>some (f x)) fun x hx=>?_,Zq];obtain⟨τ1,e1,_,e2,rfl⟩:=h x hx;rw[vw,e1,jYa,jYa,jNg rfl,e2];rfl
def z6U {α:Type}{enc:α->D}{tg:Tgt}{xs:List α}(g:α->Bool)(f:α->D)(h:∀x∈xs,Y (tg.asg (enc x) τ) fun τ=>Y (c τ) fun y=>y=g x/\Y (a τ) fun v=>v=f x)(k:Q (.lst ((xs.filter g).map f)))(hl:autoParam (xs.length<=16777216) au10._auto_1):Y (xE (vw tg.asg c a τ) (xs.map enc)) (szL Q):=by
 refine⟨(xs.filter g).map f,?_,by rw[tJ];exact rH (List.length_filter_le _ _) hl,k⟩;rw[vd (o:=fun x=>if g x=true then some (f x) else none) fun x hx=>?_,z7C];obtain⟨τ1,e1,_,e2,rfl,_,e3,rfl⟩:=h x hx;rw[vw,e1,jYa,e2,jYa,e3];cases g x<;>rfl
end
section
variable {τ:Tn}{a b B:Tn->R Fl}{t:Tn->R D}{c:Tn->R Bool}{Q:Fl->Prop}{i:Nat}{d:D}{tg:Tgt}{u:Tn->R (List D)}
def sq (b:Tn->R Fl)(Q:Fl->Prop):Fl->Prop
 | .nx τ=>Y (b τ) Q
 | f=>Q f
def z3x (h:Y (a τ) (sq b Q)):Y (zi a b τ) Q:=zr (h.imp fun f k=>by cases f with|nx τ=>exact k|rt d=>exact xa k|bk τ=>exact xa k|ct τ=>exact xa k)
def z7A (h:Y (b τ) Q):sq b Q (.nx τ):=h
def z7J (h:Q (.rt d)):sq b Q (.rt d):=h
def z80 (h:Q (.bk τ)):sq b Q (.bk τ):=h
def rb (Q:D->Prop):Fl->Prop
 | .nx _=>Q .non
 | .rt d=>Q d
 | _=>False
def z7i {Q:D->Prop}(h:Q d):rb Q (.rt d):=h
def z7H {Q:D->Prop}(h:Q .non):rb Q (.nx τ):=h
def zQ {n:Nat}{ds:List D}{Q:D->Prop}(h:Y (a (ds.map some++List.replicate (n-ds.length) none)) (rb Q)):Y (zC n a ds) Q:=by
 obtain⟨f,e,h⟩:=h;cases f with
 | nx τ=>exact⟨_,by rw[zC,e],h⟩
 | rt d=>exact⟨_,by rw[zC,e],h⟩
 | bk τ=>exact h.elim
 | ct τ=>exact h.elim
def z72 (h:Y (t τ) (kVs τ i Q)):Y (zu i t τ) Q:=zr (h.imp fun _ k=>xa k)
def z7a (h:Y (t τ) (kR Q)):Y (zm t τ) Q:=zr (h.imp fun _ k=>xa k)
def z4v (h:Q (.nx τ)):Y (zo τ) Q:=xa h
def z5N (h:Y (t τ) (kW τ Q)):Y (Jh t τ) Q:=zr (h.imp fun _ k=>xa k)
def z3y (h:Y (c τ) (kI a b τ Q)):Y (sIf c a b τ) Q:=zr h
def z7P (h:Y (za i τ) (kU t g i τ Q)):Y (qV i g t τ) Q:=zr (h.imp fun _ k=>zr (k.imp fun _ k=>zr (k.imp fun _ k=>xa k)))
def z3t (e:τ[i]?=some (some (.lst ds)))(h:Y (t τ) (kP ds i τ Q)):Y (vq i t τ) Q:=
 zr (Vi e (zr (h.imp fun _ k=>⟨_,jNg (by rw[jKj];exact k.1),k.2⟩)))
def z7y (e:τ[i]?=some (some (.lst (xs.map enc))))(h:Y (t τ) (kQ enc xs i τ Q)):Y (vq i t τ) Q:=
 z3t e (h.imp fun _ k=>by obtain⟨x,rfl,k1,k2⟩:=k;rw[rO]at k2;exact⟨by rw[tJ];exact k1,k2⟩)
def z6W (e:τ[i]?=some (some (.lst (xs.map enc))))(h:Y (t τ) (kPu enc xs i ti τ Q)):Y (JI i t ti τ) Q:=
 zr (h.imp fun _ k=>by
  obtain⟨x,rfl,_,e2,j,rfl,⟨h0,h1⟩,q⟩:=k;refine zr (Vi e (zr (zd e2 (zr ⟨.lst ((xs.map enc).set j.toNat (enc x)),?_,xa (by rw[<-List.map_set];exact q)⟩))));have:ixN (xs.map enc).length j=some j.toNat:=by
   unfold ixN;rw[jNg h0,jNg (by rw[tJ];exact h1)]
  unfold z2O;rw[this])
def Jo (n:Nat):ixN (n+1) (-1)=some n:=by
 unfold ixN;rw[jNh (by decide),jNg (by omega)];exact congrArg some (by omega)
def z7r (e:τ[i]?=some (some (.lst ((ys++[z]).map enc))))(h:Y (t τ) (kPl enc ys i ti τ Q)):Y (JI i t ti τ) Q:=
 zr (h.imp fun _ k=>by
  obtain⟨x,rfl,_,e2,rfl,q⟩:=k;refine zr (Vi e (zr (zd e2 (zr ⟨.lst ((ys++[x]).map enc),?_,xa q⟩))));unfold z2O;rw[tJ,tD,show ys.length+[z].length=ys.length+1 from rfl,Jo];simp)
def z84 {α:Type}{enc:α->D}{ys:List α}{z:α}{Q:D->Prop}(h:Q (enc z)):Y (ixD (.lst ((ys++[z]).map enc)) (.int (-1))) Q:=
 zd (xf (by unfold atI;rw[tJ,tD,show ys.length+[z].length=ys.length+1 from rfl,Jo];simp)) h
theorem U2:∀ {ds:List D} {n k:Nat} {d:D},(xK n ds)[k]?=some d->∃e,ds[k]?=some e/\d=.tup [.int (n+k:Nat),e]
 | d::ds,n,0,e,h=>⟨d,rfl,(jYe h).symm⟩
 | d::ds,n,k+1,e,h=>by
  obtain⟨x,h1,h2⟩:=U2 (ds:=ds) (n:=n+1) (k:=k) h;exact⟨x,h1,by rw[h2,show n+1+k=n+(k+1) by omega]⟩
theorem Vm:∀ {ds:List D} {n:Nat},(xK n ds).length=ds.length
 | [],_=>rfl
 | d::ds,n=>congrArg (·+1) Vm
def z91 (e:τ[i]?=some (some (.dic ks ds)))(h:Y (t τ) (kKp ks ds i ti τ Q)):Y (z02 i t ti τ) Q:=by
 rw[z19];exact zr (h.imp fun _ k=>by
  obtain⟨h1,h2,_,e2,x,rfl,q⟩:=k;exact zr (Vi e (zr (zd e2 (zd (z1w h1 h2) q)))))
def z6l (h:Y (t τ) (kX tg τ Q)):Y (z8N tg t τ) Q:=zr (h.imp fun _ k=>zr (k.imp fun _ k=>xa k))
def z6z (h:q (τ.set i (some d))):Y (Tgt.asg (.one i) d τ) q:=xa h
def z7m {j:Nat}(h:q ((τ.set i (some d)).set j (some e))):Y (Tgt.asg (.many [i,j]) (.tup [d,e]) τ) q:=xa h
def z6a (h:Y (u τ) (kF tg B τ Q)):Y (wG u tg B τ) Q:=zr h
def lp (I:Tn->Prop)(Q:Fl->Prop):Fl->Prop
 | .nx τ=>I τ
 | .ct τ=>I τ
 | .bk τ=>Q (.nx τ)
 | .rt d=>Q (.rt d)
def z5Y (h:I τ):lp I Q (.nx τ):=h
def z7V (h:Q (.nx τ)):lp I Q (.bk τ):=h
def z7L (h:Q (.rt d)):lp I Q (.rt d):=h
def jm {ds:List D}(I:Nat->Tn->Prop)(h0:I 0 τ)(hs:∀k d τ,ds[k]?=some d->I k τ->Y (tg.asg d τ) (kL B (lp (I (k+1)) Q)))(hq:∀τ,I ds.length τ->Q (.nx τ)):Y (xx tg.asg B ds τ) Q:=by
 induction ds generalizing I τ with
 | nil=>exact xa (hq _ h0)
 | cons d ds ih =>
  obtain⟨τ1,e1,f,e2,h⟩:=hs 0 d τ rfl h0;have hn:∀τ2,I 1 τ2->Y (xx tg.asg B ds τ2) Q:=fun τ2 h2=>ih (fun k=>I (k+1)) h2 (fun k=>hs (k+1)) hq;have e:xx tg.asg B (d::ds) τ=(R.ok f).bind (goF tg.asg B ds):=by rw[Zu,e1,jYa,e2]
  rw[e,jYa];cases f with
  | nx τ2=>exact hn τ2 h
  | ct τ2=>exact hn τ2 h
  | bk τ2=>exact xa h
  | rt r=>exact xa h
def z6Y {α:Type}{enc:α->D}{xs:List α}(I:List α->Tn->Prop)(h0:I [] τ)(hs:∀pre x τ,x∈xs->pre.length<xs.length->I pre τ->Y (tg.asg (enc x) τ) (kL B (lp (I (pre++[x])) Q)))(hq:∀τ,I xs τ->Q (.nx τ)):Y (xx tg.asg B (xs.map enc) τ) Q:=by
 refine jm (fun k=>I (xs.take k)) (by simpa using h0) (fun k d τ hd h=>?_) fun τ h=>hq τ (by simpa using h);rw[sL]at hd;obtain⟨x,hx,rfl⟩:=tV.1 hd;have hk:=(tN.1 hx).1;have e:xs.take (k+1)=xs.take k++[x]:=by rw[List.take_add_one,hx];rfl
 rw[e];exact hs _ x τ (rX hx) (by rw[sZ];omega) h
def z8V {α:Type}{enc:α->D}{xs:List α}(I:Nat->Tn->Prop)(h0:I 0 τ)(hs:∀k x τ,x∈xs->k<xs.length->I k τ->Y (tg.asg (.tup [.int (k:Nat),enc x]) τ) (kL B (lp (I (k+1)) Q)))(hq:∀τ,I xs.length τ->Q (.nx τ)):Y (Yn [.lst (xs.map enc)]) (kF tg B τ Q):=
 xa (jm I h0 (fun k d τ hd h=>by
  obtain⟨e,h1,rfl⟩:=U2 hd;rw[sL]at h1;obtain⟨x,hx,rfl⟩:=tV.1 h1;rw[rA];exact hs k x τ (rX hx) (tN.1 hx).1 h) fun τ h=>hq τ (by rw[Vm,tJ]at h;exact h))
def z5o {α:Type}{enc:α->D}{xs:List α}(I:List α->Tn->Prop)(h0:I xs τ)(hs:∀x r τ,I (x::r) τ->Y (tg.asg (enc x) τ) (kL B (lp (I r) Q)))(hq:∀τ,I [] τ->Q (.nx τ)):Y (xx tg.asg B (xs.map enc) τ) Q:=by
 induction xs generalizing τ with
 | nil=>exact xa (hq _ h0)
 | cons x xs ih =>
  obtain⟨τ1,e1,f,e2,h⟩:=hs x xs τ h0;have e:xx tg.asg B ((x::xs).map enc) τ=(R.ok f).bind (goF tg.asg B (xs.map enc)):=by rw[tK,Zu,e1,jYa,e2]
  rw[e,jYa];cases f with
  | nx τ2=>exact ih h
  | ct τ2=>exact ih h
  | bk τ2=>exact xa h
  | rt r=>exact xa h
def iAt (τ:Tn)(i:Nat):Int:=match τ[i]? with|some (some (D.int q))=>q|_=>0
end
section
variable {i j:Int}
def z6i (h:-18446744073709551616<i/\i<18446744073709551616\/-18446744073709551616<j/\j<18446744073709551616)(k:Q (.int (i*j))):Y (vC (.int i) (.int j)) Q:=h.elim (fun h=>zd (z3f h.1 h.2) k) fun h=>zd (z2e h.1 h.2) k
def z6m (h:Q (.bl (decide (i=j)))):Y (eqR false (.int i) (.int j)) Q:=zd Wy (by simpa [BEq.beq] using h)
def z7N (h:Q (.bl (decide (x=y)))):Y (eqR false (.str x) (.str y)) Q:=zd uY (by
 have e:(x==y)=decide (x=y):=by
  by_cases k:x=y
  ·subst k;simp
  ·rw[decide_eq_false k];exact beq_eq_false_iff_ne.2 k
 rw[e];exact h)
def z6C (h:x.length<=16777216)(k:Q (.int x.length)):Y (ya [.str x]) Q:=zd (V5 (by rw[jKj];exact h)) k
def Qb (h:-4611686018427387904<=j/\j<4611686018427387904)(k:l (rng 0 j.toNat)):Y (j5 [.int j]) l:=zd (z33 (by omega) (by omega)) k
def z5i (h:-4611686018427387904<=i/\i<4611686018427387904/\-4611686018427387904<=j/\j<4611686018427387904)(k:l (rng i (j-i).toNat)):Y (z5X [.int i,.int j]) l:=zd (z2d (by omega) (by omega) (by omega) (by omega)) k
def z3A (h0:0<=i)(h:ds[i.toNat]?=some d)(k:Q d):Y (ixD (.lst ds) (.int i)) Q:=zd (xf (xA h0 h)) k
def z6D (h:0<j/\j<1073741824)(k:Q (.int (i/j))):Y (y9 (.int i) (.int j)) Q:=zd (z1I h.1 h.2) k
def z7s (h:0<j)(k:Q (.int (i%j))):Y (yj (.int i) (.int j)) Q:=zd (z4j h) k
def z6t (k:l ds):Y (jg (.lst ds)) l:=xa k
def z7D (k:l ds):Y (jg (.tup ds)) l:=xa k
def z6c (k:l (signs x)):Y (jg (.str x)) l:=xa k
def Qn {ns:List Int}(k:Q (.int ns.sum)):Y (YG [.lst (ns.map D.int)]) Q:=zd z4x k
end
def Z {α:Type}(x:Str)(r:R α)(Q:α->Prop):Prop:=Y r Q\/r=.err x
def zq (x:Str)(b:Tn->R Fl)(Q:Fl->Prop):Fl->Prop
 | .nx τ=>Z x (b τ) Q
 | f=>Q f
def z6y (h:Z x (b τ) Q):zq x b Q (.nx τ):=h
def z8a (h:Q (.rt d)):zq x b Q (.rt d):=h
def z4m (h:Y (u τ) fun ds=>(∃d,F ds=.ok d/\Q (.rt d))\/(F ds=.err x/\Q (.rt .non))):Y (z0R x F u τ) Q:=by
 obtain⟨ds,e,⟨d,e1,h⟩|⟨e1,h⟩⟩:=h
 ·exact⟨_,by unfold z0R;rw[e];dsimp only;rw[e1],h⟩
 ·exact⟨_,by unfold z0R;rw[e];dsimp only;rw[e1];exact jNg rfl,h⟩
def z4f {j:Nat}{k:Int}(h:Y (u τ) fun ds=>(∃d v,F ds=.ok d/\z3O d k=.ok v/\Q (.nx (τ.set j (some v))))\/(F ds=.err x/\Q (.rt .non))):Y (z0j x j k F u τ) Q:=by
 obtain⟨ds,e,⟨d,v,e1,e2,h⟩|⟨e1,h⟩⟩:=h
 ·exact⟨_,by unfold z0j;rw[e];dsimp only;rw[e1];dsimp only;rw[e2],h⟩
 ·exact⟨_,by unfold z0j;rw[e];dsimp only;rw[e1];exact jNg rfl,h⟩
def z4c {i j:Nat}(h:Y (t τ) fun d=>∃p:D×D,d=.tup [p.1,p.2]/\p.1.imm=true/\Q (.nx ((τ.set i (some p.1)).set j (some p.2)))):Y (z77 i j t τ) Q:=
 zr (h.imp fun _ k=>by obtain⟨p,rfl,h1,h2⟩:=k;exact⟨_,jNg h1,h2⟩)
def z7t (h:vH ks ds (.inr x)=some d)(k:Q d):Y (ixD (.dic ks ds) (.str x)) Q:=by
 refine zd (a:=d) ?_ k;show (match vH ks ds (.inr x)with|some d=>R.ok d|none=>R.bad)=_;rw[h]
def z1p:v5 (.int i) (.int j)=.ok (.int (i+j)):=rfl
def z7n:isN true (.int i) .non=.ok (.bl true):=rfl
def z6e:isN true .non .non=.ok (.bl false):=rfl
def z7W:isN true (.str x) .non=.ok (.bl true):=rfl
def z6o:isN false .non .non=.ok (.bl true):=rfl
def z7I:isN false (.str x) .non=.ok (.bl false):=rfl
def z6u:isN false (.lst x) .non=.ok (.bl false):=rfl
def z2I {α:Type}{f:α->D}{xs:List α}:ya [.lst (xs.map f)]=.ok (.int xs.length):=by rw[Qz,tJ]
def z1D {α:Type}{f:α->D}{xs:List α}:ya [.tup (xs.map f)]=.ok (.int xs.length):=by rw[QA,tJ]
def z1L:z69 [.int i,.int j]=.ok (.int (if j>i then j else i)):=rfl
def z23:Xp [.int i,.int j]=.ok (.int (if j<i then j else i)):=rfl
def z8B (h:Y (t τ) (kL (f3D a b) Q)):Y (eF3 a b t τ) Q:=zr h
def z8z (h:Y (t τ) (kL (f2D b) Q)):Y (eF2 b t τ) Q:=zr h
def z6Q (h:Y (t τ) (kL z87 Q)):Y (z8Z t τ) Q:=zr h
def z4n:Wk (.str a) (.str b)=.ok (.bl (inS a b)):=rfl
def z3e:jF a [.str b]=.ok (.int (Txt.find a b)):=rfl
def z4X:wq "str" (.str a)=.ok (.bl true):=rfl
def z4o:eqR true (.str x) (.str y)=.ok (.bl (decide (x≠y))):=by
 rw[uY,jNg rfl]
 by_cases h:x=y
 ·subst h;simp
 ·rw[decide_eq_true h,beq_eq_false_iff_ne.2 h];rfl
def z5m:z5Z (.tup [a,b]) (.int 1)=.ok b:=by unfold z5Z;exact Yk
def z7T (h:z.length<=16777216)(k:Q (.str (Txt.slice z a b))):Y (slD (.str z) a b) Q:=⟨_,jNg (by rw[jKj];exact h),k⟩
def z6N (h:z.length<=5592405)(k:Q (.str (Txt.lower z))):Y (z8S z) Q:=⟨_,jNg h,k⟩
def z4g (h:z.length<=1048576)(k:Q (.str (Txt.replace z a b))):Y (Z7 a b (.str z)) Q:=⟨_,jNg h,k⟩
def Qs (hz:z.length<=16777216)(h0:0<=i)(h1:i<z.length)(k:∀c∈z.cps.toList,Q (.str ⟨#[c]⟩)):Y (ixD (.str z) (.int i)) Q:=by
 have hl:z.cps.toList.length=z.length:=by simp[Str.length]
 have hi:i.toNat<z.cps.toList.length:=by omega
 exact zd (US (by rw[jKj];exact hz) (xA h0 (sO hi))) (k _ (pP hi))
structure Hid (q:Prop):Prop where
 x:q
def go {p q:Prop}(k:q)(h:Hid q->p:=by intro h;(repeat (first|(with_reducible first|apply z7U|apply y_C|apply y_L|apply z5n|apply z7e|apply xa|apply z3x|apply z7A|apply z72|apply z7a|apply z5x|apply z6x|apply zd z4y|apply zd z5c|apply zd Qp|apply zd ZX|apply zd Ji|apply zd z7b|apply zd z4J|apply z6m|apply z7N|apply zd z2I|apply zd z1D|apply zd Qz|apply zd QA|apply zd yE|apply zd Yk|apply zd z4s|apply z7J|apply z7i|apply z7H|apply z3y|apply z4v|apply z6A|apply z8I|apply z75|apply z8o|apply z6h|apply z5b|apply z82|apply z8u|apply z6T|apply z8T|apply z8r|apply z5P|apply z8C|apply z90|apply z7h|apply z4l|apply z6a|apply z7P|apply z6l|apply z5N|apply z6z|apply z7m|apply z8L|apply z8t|apply z5Y|apply z7V|apply z7L|apply z80|apply Qn|apply z84|apply z6t|apply z8B|apply z8z|apply z6Q|apply z4m|apply z4f|apply z4c|apply z8m|apply z8P|apply z2b|apply zd z4n|apply zd z3e|apply zd z4X|apply zd z4o|apply zd z5m|apply z7T (by omega)|apply z6N (by omega)|apply z4g (by omega)|apply z6C (by omega)|apply z7o|apply z6y|apply z8a|apply z7D|apply z6c|apply zd z1p|apply zd z7n|apply zd z6e|apply zd z7W|apply zd z6o|apply zd z7I|apply zd z6u|apply zd z1L|apply zd z23|apply z8p (by decide)|apply z8w (by decide)|apply z6D (by omega)|apply z7s (by omega)|apply z6i (by omega)|apply Qb (by omega)|apply z5i (by omega))|((with_reducible apply Vi);exact rfl)|((with_reducible apply z7y);exact rfl)|((with_reducible apply z3t);exact rfl)|((with_reducible apply z91);exact rfl)|((with_reducible apply z7r);exact rfl)|((with_reducible apply z6W);exact rfl)|((with_reducible apply z7t);exact rfl)|(with_reducible refine⟨_,rfl,?_⟩)|((with_reducible refine And.intro ?_ ?_);focus first|rfl|omega|assumption)));exact h.x):p:=h ⟨k⟩
section
variable {prog:jNa}{w:World}{A:jNb}{E:Value->jNc->Prop}{h:Heap}{g:Array GenState}{d:Drawn}{t:Nat}{os:OsState}
variable {nm q:Str}{C N:Addr}{bs bm bmB:List Value}{hdct:Bool}{sn:List Str}{sub:List Value}{ab:Bool}{col:Option Bool}{dd:Option Addr}{k0 k1 k2 k3 k5:Option Value}{B newId initId:String}
def JZ (F:ExcBaseFacts B newId initId bmB)(T:OwnTail h bmB bm){u:Value}{fI:Addr}{oI:Obj}{Q:Fin->jNc->Prop}
  (hC:h.get? C=some (excClassObj nm q C N bs bm hdct sn sub ab col dd k0 k1 k2 k3 k5 newId))
  (LI:jJv (model prog w) h (typeLookup (.ref C) "__init__") (some (.ref fI)))
  (hfI:h.get? fI=some oI) (hfc:oI.cls=.type "function")
  (hq:∀h' e,h.objs.size<=e->Heap.MadeExcOf h h' e (.ref C) [u] ->
   jNe (model prog w) A (call (.ref fI) [.ref e,u]) (fun r s'=>r=.none/\Q (.done (.ret (.ref e))) s') E ⟨h',g,d,t,os⟩):
  jNe (model prog w) A (Builtin.«type.__call__» ⟨[.ref C,u],[]⟩) Q E ⟨h,g,d,t,os⟩:=by
 repeat (first|with_reducible refine wpAny_loadPart_at hC ?_|with_reducible refine wpAny_madeBy_exc hC ?_|wp_step)
 refine codeAny_call_builtin_code (Code.quiet_builtin _ F.quiet) (wpAny_check_new_subT F T hC ?_);refine codeAny_exc_new_subT F T hC ?_ (by size_fits);show jNe _ _ _ _ _ _;generalize ho1:({ cls:=.type "tuple",data:=.seq [u].toArray }:Obj)=o1;have hk:∀o2 b o,h.get? b=some o->((h.push o1).push o2).get? b=some o:=fun o2 b o e=>jYb _ (jYb _ e);have hget:((h.push o1).push
   { cls:=.ref C,data:=.fields #[.ref h.objs.size,.none,.none,.none,.bool false,.none] }).get? (h.objs.size+1)=some
   { cls:=.ref C,data:=.fields #[.ref h.objs.size,.none,.none,.none,.bool false,.none] }:=by heap_get
 have htup:((h.push o1).push
   { cls:=.ref C,data:=.fields #[.ref h.objs.size,.none,.none,.none,.bool false,.none] }).get? h.objs.size=some o1:=by subst ho1;exact jYb _ (Heap.get?_push_at rfl rfl)
 have hcC:(Value.ref C::bm).contains (.ref C)=true:=by simp
 unfold isInstance;have hC₁:=hk { cls:=.ref C,data:=.fields #[.ref h.objs.size,.none,.none,.none,.bool false,.none] } _ _ hC
 repeat (first|with_reducible refine wpAny_loadPart_at hget ?_|(with_reducible refine wpAny_isSubtype_exc hC₁ ?_;rw[hcC])|wp_step)
 show jNe _ _ (typeLookup (.ref C) _) _ _ _;refine LI _ _ _ _ (hk _) ?_;refine jKe (jMb ?_);unfold bindSpecial;refine jMb (wpAny_typeOf (T:="function") ⟨_,hk _ _ _ hfI,hfc⟩ ?_);rw[jNg (by decide)];refine jMd (jMb (jMc (hq _ (h.objs.size+1) (Nat.le_succ _) ⟨hk _,Heap.get?_none_of_le (Nat.le_succ _),h.objs.size,hget,Heap.get?_none_of_le (tP _),?_⟩) (fun r s' hr=>?_) fun _ _ x=>x))
 ·rw[htup,<-ho1]
 ·obtain⟨rfl,hQ⟩:=hr
  wp_walk
  exact hQ
def z0u (F:ExcBaseFacts B newId initId bmB)(T:OwnTail h bmB bm){u:Value}{fI:Addr}{oI:Obj}{Q:Value->jNc->Prop}
  (hC:h.get? C=some (excClassObj nm q C N bs bm hdct sn sub ab col dd k0 k1 k2 k3 k5 newId))
  (LI:jJv (model prog w) h (typeLookup (.ref C) "__init__") (some (.ref fI)))
  (hfI:h.get? fI=some oI) (hfc:oI.cls=.type "function")
  (hq:∀h' e,h.objs.size<=e->Heap.MadeExcOf h h' e (.ref C) [u] ->
   jNe (model prog w) (A.under (.builtin "type.__call__" ⟨[.ref C,u],[]⟩)) (call (.ref fI) [.ref e,u]) (fun r s'=>r=.none/\Q (.ref e) s') E ⟨h',g,d,t,os⟩):
  jNe (model prog w) A (call (.ref C) [u]) Q E ⟨h,g,d,t,os⟩:=by
 have f1:=tc_lookup;have f2:=tc_bind (.ref C);have hT:(⟨h,g,d,t,os⟩:jNc).TypeIs (.ref C) "type":=⟨_,hC,rfl⟩
 refine wpAny_call (codeAny_of_tree ?_);show jNe _ _ (callAny (.ref C) _) _ _ _
 repeat (any_goals (first|assumption|with_reducible refine wpAny_loadPart_at hC ?_|wp_step))
 refine⟨rfl,?_⟩;exact codeAny_call_builtin_at (Code.quiet_builtin _ (by decide +kernel)) entry_typeCall (wpAny_check_type_call_sub hC (JZ F T hC LI hfI hfc hq))
end
structure RowC (K:jJa)(C CS fI:Addr):Prop where
 ob:∃nm q N bs hdct sn sub ab col dd k0 k1 k2 k3 k5,K.lookup C=some (excClassObj nm q C N bs [.ref CS,.type "ValueError",.type "Exception",.type "BaseException",.type "object"] hdct sn sub ab col dd k0 k1 k2 k3 k5 "ValueError.__new__")
 tl:PySem.W.tailIn K [.type "ValueError",.type "Exception",.type "BaseException",.type "object"] [.ref CS,.type "ValueError",.type "Exception",.type "BaseException",.type "object"]=true
 fi:jJe K (.ref C) "__init__"=some (some (.ref fI))
 fn:PySem.W.typeIn K (.ref fI)=some (.type "function")
 fs:jJe K (.ref C) "__setattr__"=some (some (.builtin "object.__setattr__"))
 fr:jJe K (.ref C) "row"=some none
 hd:(PySem.W.clsIn K C).any (·.hasDict)=true
 cs:PySem.W.readsIn K CS (.type "type")=true
 ci:PySem.W.findCls K (.ref CS) (.type "type") "__init__"=some (.val (.builtin "ValueError.__init__"))
 cg:jJp K (.ref CS) "__getattribute__"=some (some (.builtin "type.__getattribute__"))
section
open PySem.W Builtin Builtin.ObjectAttr
variable {prog:jNa}{w:World}{A:jNb}{E:Value->jNc->Prop}{h:Heap}{g:Array GenState}{d:Drawn}{t:Nat}{os:OsState}{K:Frag}{C CS fI x:Addr}{o:Obj}
def z1H {v:Value}{Q:Unit->jNc->Prop}(R:RowC K C CS fI)(X:K.In h)(hx:h.get? x=some o)(hc:o.cls=.ref C)(hno:notCls o=true)(hdn:o.dict=none)
  (hq:∀h' tk' dx,h.objs.size<=dx->h'.get? x=some { o with dict:=some dx }->h'.Ns1 dx (fun y=>if y=("row":Str) then some v else none)->(∀b ob,b≠x->h.get? b=some ob->h'.get? b=some ob)->Q () ⟨h',g,d,tk',os⟩):
  jNe (model prog w) A (setAttr (.ref x) "row" v) Q E ⟨h,g,d,t,os⟩:=by
 have SF:=PySem.F.store_object;have I:InstAt h x o C none:=⟨hx,hc,hno,by rw[hdn];trivial⟩
 refine set_plain X I R.fs ?_;obtain⟨nm,q,N,bs,hdct,sn,sub,ab,col,dd,k0,k1,k2,k3,k5,ob⟩:=R.ob;have hcl:clsIn K C=some { name:=nm,bases:=bs,mro:=[.ref C,.ref CS,.type "ValueError",.type "Exception",.type "BaseException",.type "object"],ns:=N,qualname:=q,hasDict:=hdct,slotNames:=sn,subclasses:=sub,abstract:=ab,collection:=col,hasDel:=false }:=by
  unfold clsIn;rw[ob]
 have hdct:hdct=true:=by have z:=R.hd;rw[hcl]at z;exact z
 subst hdct;have sb:Looks (model prog w) h (isInstance (.ref x) (.type "object")) true:=I.type.andThen (looks_mroIn X (by unfold mroIn;rw[hcl];rfl));refine codeAny_call_builtin SF.slot.plain SF.entry (@check_slot (model prog w) _ _ _ "object.__setattr__" "object" "__setattr__" (.ref x) [.str "row" t,v] [] _ SF.kind SF.split sb (SF.args (.ref x) (.str "row" t) v) ?_);have hm:Looks (model prog w) h (mroOf (.ref C)) _:=(looks_clsIn X hcl).andThen .now;rw[osa_eq,refuse_eq];refine jMb (jMb (I.type.here (jMb (hm.here ?_))));rw[refuseLoop_ref,refuseLoop_ref,PySem.F.store_ValueError.passes];refine jMd (jMb (I.type.here (jMb ((looks_findIn X R.fr).here (jMb (jMd ?_))))));have hC:h.get? C=some _:=X _ _ ob;show jNe _ _ (storeInOwnDict (.ref x) (.ref C) (.str "row" t) "row" v false) _ _ _;unfold storeInOwnDict
 repeat (first|(with_reducible refine wpAny_loadPart_at hx ?_;rw[hc])|with_reducible refine wpAny_loadPart_at hC ?_|wp_step)
 rw[hdn,jNh (by simp[typeHasDict])];split
 ·rename_i hcd;cases hcd
 split
 ·rename_i c hcd;unfold notCls at hno;rw[hcd]at hno;cases hno
 have hx1:(h.push { cls:=.type "dict",data:=.dict #[] }).get? x=some o:=jYb _ hx;have hxs:x≠h.objs.size:=sV (jYc hx);refine jMb (wpAny_alloc' ?_);refine jMb (wpAny_update' hx1 ?_);refine jMd ?_;generalize hf:(fun o:Obj=>({ cls:=o.cls,dict:=some h.objs.size,data:=o.data,slots:=o.slots }:Obj))=f;have gd:((h.push { cls:=.type "dict",data:=.dict #[] }).update x f).get? h.objs.size=some { cls:=.type "dict",data:=.dict #[] }:=
  (Heap.get?_update_ne _ _ _ _ hxs.symm).trans (Heap.get?_push_at rfl rfl)
 have nd:((h.push { cls:=.type "dict",data:=.dict #[] }).update x f).Ns h.objs.size (fun _=>none):=⟨_,#[],_,gd,rfl,fun e he=>absurd he (by simp),fun _=>rfl⟩
 show jNe _ _ (storeInDict h.objs.size (.str "row" t) "row" v) _ _ _;unfold storeInDict newKeyGuard;refine jMb (jMd (jMb (wpAny_nsSet1 (Heap.Ns1.of_empty nd) fun h' hn' hs=>?_)));obtain⟨oD,esD,epD,hoD,hdD,hcD⟩:=hn'.count (Within.cons "row" v Within.nil);refine jMb (wpAny_lookBehind hoD (by rw[hdD];exact pastItsLine_dict (rH hcD (by rw[tE,tR,jKj];omega))) ?_)
 wp_walk
 refine hq h' _ h.objs.size (tP _) ?_ hn' fun b ob hb e=>(hs.2 b (sV (jYc e))).trans ((Heap.get?_update_ne _ _ _ _ hb).trans (jYb _ e));refine (hs.2 x hxs).trans ?_;subst hf;refine Heap.get?_update_self _ hx1 ?_;have fr:=(Heap.get?_some_iff.mp hx).2;obtain⟨oc,od,odt,osl⟩:=o;cases odt<;>first|rfl|exact fr
end
section
open PySem.W Builtin Builtin.ObjectAttr
variable {prog:jNa}{w:World}{A:jNb}{E:Value->jNc->Prop}{h:Heap}{g:Array GenState}{d:Drawn}{t:Nat}{os:OsState}{K:Frag}{C CS fI x dx:Addr}{o:Obj}
def QM {v:Value}{m:Str->Option Value}{ex:Bool}{Q:Value->jNc->Prop}(R:RowC K C CS fI)(c:ErrI K C)(X:K.In h)(hx:h.get? x=some o)(hc:o.cls=.ref C)(hdx:o.dict=some dx){vs:Array Value}(hdt:o.data=.fields vs)(hn:h.Ns1 dx m)(hm:m "row"=some v)
  (hh:handedIn v=true) (hq:∀tk,Q v ⟨h,g,d,tk,os⟩):
  jNe (model prog w) A (getAttr (.ref x) "row" ex) Q E ⟨h,g,d,t,os⟩:=by
 have LT:Looks (model prog w) h (typeOf (.ref x)) (.ref C):=hc▸(Looks.ld hx).andThen .now;have L1:=looks_findIn (M:=model prog w) X c.ga;have L2':=looks_findIn (M:=model prog w) X c.gt;have L3:=looks_findIn (M:=model prog w) X R.fr;have L7:=looks_mroIn (M:=model prog w) X c.mb;have hb:=PySem.F.attr_ValueError.ga.bind (.ref x);unfold getAttr getAttrBy;refine jMb (wpAny_mkText (jKe ?_))
 repeat (first|with_reducible refine wpAny_attempt ?_|with_reducible refine wpAny_call ?_|lk)
 rw[show (ex&&onTheHeap (Value.builtin "BaseException.__getattribute__"))=false from by cases ex<;>rfl,jNh (by decide)];unfold boundAndCalled
 repeat (first|with_reducible refine wpAny_attempt ?_|with_reducible refine wpAny_call ?_|lk)
 refine codeAny_call_builtin PySem.F.attr_ValueError.ga.plain F.entry_bexc_ga ?_;have hk:builtinKind "BaseException.__getattribute__"=some .slot:=by decide +kernel
 have hsp:splitId "BaseException.__getattribute__"=some ("BaseException","__getattribute__"):=by decide +kernel
 have har:=F.args_bexc_ga (.ref x) (.str "row" t);simp only[checkBuiltinCall,hk,hsp];unfold isInstance
 repeat (first|with_reducible refine wpAny_attempt ?_|with_reducible refine wpAny_call ?_|lk)
 rw[hdt];dsimp only;obtain⟨cd,hcl,hhd⟩:=any_some R.hd;have L8:=looks_clsIn (M:=model prog w) X hcl;have L9:Looks (model prog w) h (nsGet dx "row") (some v):=fun A' Q' E' s' k q=>wpAny_nsGet (hn.ns.keeps k) (by rw[hm];exact q);have L10:Looks (model prog w) h (instanceDict x false) (some dx):=by
  obtain⟨oc,od,oda,osl⟩:=o;dsimp only at hc hdx;subst hc hdx;intro A' Q' E' s' k q;unfold instanceDict;refine jMb (wpAny_loadPart (k _ _ hx) ?_);refine jMb (L8 _ _ _ _ k ?_);rw[hhd];exact jMd q
 have L11:Looks (model prog w) h (inDict "row" (some dx)) (some v):=L9
 repeat lk
 show jNe _ _ (handedOut v) _ _ _;exact handed_on hh (hq _)
def z2N {m:Value}{ta:Addr}{Q:Value->jNc->Prop}(R:RowC K C CS fI)(X:K.In h)(hx:h.get? x=some { cls:=.ref C,data:=.fields #[.ref ta,.none,.none,.none,.bool false,.none] })
  (hq:∀h' tb,h'.get? x=some { cls:=.ref C,data:=.fields #[.ref tb,.none,.none,.none,.bool false,.none] }->(∀b ob,b≠x->h.get? b=some ob->h'.get? b=some ob)->Q .none ⟨h',g,d,t,os⟩):
  jNe (model prog w) A (call (.builtin "ValueError.__init__") [.ref x,m]) Q E ⟨h,g,d,t,os⟩:=by
 have F:=jXg;obtain⟨nm,q,N,bs,hdct,sn,sub,ab,col,dd,k0,k1,k2,k3,k5,ob⟩:=R.ob;have hC:h.get? C=some _:=X _ _ ob;have T:=tail_of_in X R.tl;refine wpAny_call (codeAny_call_builtin F.init.plain F.initEntry (wpAny_check_init_subT F T hC hx rfl ?_))
 wp_walk
 have ne:x≠h.objs.size:=sV (jYc hx);refine hq _ h.objs.size ?_ fun b ob' hb e=>?_
 ·exact Heap.get?_update_self _ (jYb _ hx) rfl
 ·rw[Heap.get?_update_other _ _ (Ne.symm hb)];exact jYb _ e
end
def exV (C x:Addr)(od:Option Addr):HO:=.ext fun h=>∃t,h.get? x=some { cls:=.ref C,dict:=od,data:=.fields #[.ref t,.none,.none,.none,.bool false,.none] }
def Qj (e:h.get? x=some { cls:=.ref C,dict:=od,data:=.fields #[.ref t,.none,.none,.none,.bool false,.none] }):ObjOk P w H h x (exV C x od):=
 ⟨⟨t,e⟩,⟨_,e⟩,fun _ _ ⟨t',e'⟩ k=>⟨t',k _ e'⟩⟩
def WA (C:Addr)(ta:TA):TS:=fun D σ H=>ta σ H fun vs H1=>∃x m,vs=[.ref x,m]/\H1 x=some (exV C x none)/\D.nx σ H1
def tRow (C:Addr)(ta tv:TE):TS:=fun D σ H=>tv σ H fun y H1=>ta σ H1 fun x H2=>∃a,x=.ref a/\H2 a=some (exV C a none)/\∀dx,H2 dx=none->dx≠a->D.nx σ (upd (upd H2 a (exV C a (some dx))) dx (.xd [("row",y)]))
section
def JR {pl:Sem Bool}{p apos pos pos':Pos}(R:RowC X.K C CS fI)(hg:Gl X xs)(hm:X.mg xs=some (.ref CS))(ha:PA X (e::es) ta)
  (hdb:autoParam (nDb xs) au1._auto_1) (hst:autoParam (jMj (e::es) X.env=(false,eval e X.env)::jMj es X.env) au3._auto_1) (hpl:autoParam ((jNd pos (jMj es X.env)).any (·.1)=false) au3._auto_1)
  (hsw:autoParam (jMf (.Call (.Attribute (.Name xs p) "__init__" apos) (e::es) [] pos) none pos'.line X.env=pure false) au3._auto_1)
  (ht:autoParam (eval (.Call (.Attribute (.Name xs p) "__init__" apos) (e::es) [] pos) X.env=(do
   let ov <-eval (.Name xs p) X.env
   standAt apos.atName
   let (f,first) <-holding [ov] (getMethod ov "__init__" pl)
   callWith pos f first (jNd pos (jMj (e::es) X.env)) (jMh pos (jKh [] X.env)))) au3._auto_1):
  PS X (.Expr (.Call (.Attribute (.Name xs p) "__init__" apos) (e::es) [] pos) pos') (WA C ta):=by
 intro jNf s σ H D I h;refine wpAny_Expr_any ?_ I.quiet hsw;refine PySem.W.methodCall_KW (pl:=pl) (uv I hg hm ?_ hdb) ht;refine PySem.W.method_cls I.kIn R.cg (PySem.W.cls_value I.kIn R.cs R.ci (by decide +kernel) ?_);have hA:=ha pos jNf _ σ H _ (I.tok (s.toks+1)) h;rw[hst]at hA ⊢;refine Calls.callWith_builtin (by show (false||(jNd pos (jMj es X.env)).any (·.1))=false;rw[hpl]<;>rfl) (Calls.evalArgs_plain ?_);refine thn hA fun us s2 ⟨vs,H2,I2,r2,x,m,ev,ex,q⟩=>?_;subst ev;obtain⟨u1,u2,rfl,r1,r3⟩:=Ve r2;obtain rfl:u1=Value.ref x:=r1;obtain⟨⟨t,e1⟩,_⟩:=(show ObjOk X.prog X.w H2 s2.heap x (exV C x none) from I2.hok x _ ex)
 obtain⟨hh,g,d,tk,os⟩:=s2;refine z2N R I2.kIn e1 fun h' tb e2 k=>⟨σ,H2,?_,q⟩
 have z:=I2.write (x:=x) (e:=x) (o:=exV C x none) (t':=tk) (h':=h') (by rw[ex];exact True.intro) (.inl rfl) k ⟨_,e2⟩ (Qj e2);have ee:upd H2 x (exV C x none)=H2:=by
  funext b
  by_cases q:b=x
  ·rw[q,zz,ex]
  ·rw[zt q]
 rw[ee]at z;exact z
def z4T (R:RowC X.K C CS fI)(ha:PE X o ta)(hv:PE X value tv)(hs:autoParam (jMf value (some (.Attribute o "row" pos')) pos.line X.env=pure false) au3._auto_1):
  PS X (.Assign [.Attribute o "row" pos'] value pos) (tRow C ta tv):=by
 intro jNf s σ H D I h;refine plainObj_wpAny_Assign_Attribute (thn (hv jNf s σ H _ I h) fun u s1 ⟨y,H1,I1,ry,q⟩=>thn (ha jNf s1 σ H1 _ I1 q) fun ov s2 ⟨x,H2,I2,rx,a,ex,ea,q2⟩=>?_) hs;subst ex;obtain rfl:ov=Value.ref a:=rx;obtain⟨⟨t,e1⟩,_⟩:=(show ObjOk X.prog X.w H2 s2.heap a (exV C a none) from I2.hok a _ ea)
 obtain⟨hh,g,d,tk,os⟩:=s2;refine z1H R I2.kIn e1 rfl rfl rfl fun h' tk' dx hdx e2 hn k=>⟨σ,_,?_,q2 dx (I2.hok.fresh hdx) (Nat.ne_of_gt (sF (jYc e1) hdx))⟩
 have hda:dx≠a:=Nat.ne_of_gt (sF (jYc e1) hdx);have hH:H2 dx=none:=I2.hok.fresh hdx;have old:∀b u,H2 b=some u->b≠a->upd (upd H2 a (exV C a (some dx))) dx (.xd [("row",y)]) b=some u:=fun b u q n=>by
  rw[zt (fun z=>by rw[z,hH]at q;cases q),zt n];exact q
 have na:∀ {b:Addr} {u:HO},H2 b=some u->(∀φ,u≠.ext φ)->b≠a:=fun q z e=>by
  rw[e,ea]at q;cases q;exact z _ rfl
 refine I2.un (H':=upd (upd H2 a (exV C a (some dx))) dx (.xd [("row",y)])) (h':=h') (t':=tk') ⟨fun b o q n _ _=>k b o (fun z=>by rw[z,ea]at n;cases n) q,fun b o q n _ _=>⟨_,k b o (fun z=>by rw[z,ea]at n;cases n) q⟩,fun b o q n _=>?_,fun b o q _=>?_,
  fun b xs q=>old b _ q (na q fun _=>nofun),fun b o u q=>old b _ q (na q fun _=>nofun),fun b ps q=>⟨#[],by rw[old b _ q (na q fun _=>nofun),Array.append_empty]⟩⟩ fun b u q=>?_
 ·rw[zt (sV (sF (jYc q) hdx)),zt (fun z=>by rw[z,ea]at n;cases n)];exact n
 ·by_cases z:b=a
  ·rw[z];exact⟨_,e2⟩
  ·exact⟨_,k b o z q⟩
 ·by_cases z:b=dx
  ·subst z;rw[zz]at q;cases q;refine⟨_,hn,fun f=>?_⟩
   by_cases q:f=("row":Str)
   ·rw[jNg q];subst q;exact ry
   ·rw[jNh q];show RelO (List.lookup f [("row",y)]) none;rw[sU,show (f==("row":Str))=false from beq_eq_false_iff_ne.mpr q];exact True.intro
  ·rw[zt z]at q
   by_cases y':b=a
   ·subst y';rw[zz]at q;cases q;exact Qj e2
   ·rw[zt y']at q;refine (I2.hok b u q).stay (fun c v hc r=>k c v (fun e=>?_) r) (fun c q'=>old c _ q' (na q' fun _=>nofun)) fun c xs q'=>old c _ q' (na q' fun _=>nofun);rcases hc with hc|hc
    ·exact y' (hc.symm.trans e)
    ·rw[e,ea]at hc;cases hc
end
def z79 (he:PE X e te):PE X (.JoinedStr [.Constant (.str a) j1 p1,.FormattedValue e (-1) none p2] pos)
  (fun σ H Q=>a.length<=jMi/\te σ H fun v H1=>∃i,v=.int i/\i.natAbs.log2<1920/\(a++(toString i:Str)).length<=jMi/\Q (.str (a++(toString i:Str))) H1):=by
 intro jNf s σ H Q I h;obtain⟨ha,h⟩:=h;refine JoinedStr_many (joinParts_cons (thn (z04 (x:=a) (j:=j1) (pos:=p1) jNf s σ H (fun v H1=>v=.str a/\H1=H) I ⟨rfl,rfl⟩) fun v s1 h1=>?_));obtain⟨v1,H1,I1,r1,rfl,rfl⟩:=h1;obtain⟨t1,rfl⟩:=r1;dsimp only;rw[Str.empty_append];refine⟨ha,joinParts_cons (FormattedValue_plain (thn (he jNf s1 σ H1 _ I1 h) fun v s2 h2=>?_))⟩;obtain⟨v2,H2,I2,r2,i,rfl,hi,h3,q⟩:=h2;obtain⟨t2,rfl⟩:=r2;exact formatField_int_small hi ⟨h3,joinParts_nil ⟨.str _,H2,(I2.tok _).tok _,⟨_,rfl⟩,q⟩ h3⟩
def X7 (a:Str)(n:Int):Prop:=a.length<=jMi/\n.natAbs.log2<1920/\(a++(toString n:Str)).length<=jMi
instance (a:Str) (n:Int):Decidable (X7 a n):=by unfold X7;infer_instance
def Kx (C:Addr)(a:Str):Sp:=fun vs H Q _=>∃e n,vs=[.ref e,.int n]/\H e=some (exV C e none)/\X7 a n/\∀dx,H dx=none->dx≠e->Q .non (upd (upd H e (exV C e (some dx))) dx (.xd [("row",.int n)]))
section
variable {P:jNa}{w:World}{K:jJa}{mg:Str->Option Value}{base:Heap}{qual xs:Str}{st:Stmt}{k:Nat}{C CS fI:Addr}{a:Str}
def z6M (a:Str):TE:=fun σ H Q=>a.length<=jMi/\jz 1 σ H fun v H1=>∃i,v=.int i/\i.natAbs.log2<1920/\(a++(toString i:Str)).length<=jMi/\Q (.str (a++(toString i:Str))) H1
def z5g {oc:Value}{od an:Option Addr}{osl:Array (Option Value)}{kV doc pm cdv ct:Value}(R:RowC K C CS fI)(lk:K.lookup fI=some ⟨oc,od,.func (jJd "__init__" qual (defArgs st) (defBody st) (defScope st) .none kV doc pm an cdv ct),osl⟩)(hcd:jJg K cdv qual=true)
  (S:FnScope ["self","row"] ["self","row"] (defScope st))
  (hb:∀(A:jNb) (outer:List Env) (s:jNc) (H:Hp) (E:XK),PSs (yZ (cxx P w) P w K mg base ["self","row"] qual (defScope st) fI cdv A outer s H E) (defBody st) (Q7 (WA C (ZY (jz 0) (ZY (z6M a) z1F))) (tRow C (jz 0) (jz 1)))):
  FnOk P w K mg base (cxx P w) (k+1) fI (jJd "__init__" qual (defArgs st) (defBody st) (defScope st) .none kV doc pm an cdv ct) ["self","row"] (Kx C a):=by
 refine QU lk hcd S (fun vs H Q E ⟨_,_,e,_⟩=>by rw[e];rfl) fun A outer s H vs Q E hr h=>?_;obtain⟨e,n,rfl,he,⟨g1,g2,g3⟩,hQ⟩:=h;exact⟨_,hb A outer s H E,.ref e,rfl,g1,.int n,rfl,n,rfl,g2,g3,e,_,rfl,he,.int n,rfl,.ref e,rfl,e,rfl,he,fun dx h1 h2=>hQ dx h1 h2⟩
end
def del (H:Hp)(e:Addr):Hp:=fun b=>if b=e then none else H b
section
variable {k:Nat}
def Inv.forget (I:Inv X jNf σ H s)(he:H e=some (.ext φ)):Inv X jNf σ (del H e) s:=by
 have na:∀ {b:Addr} {u:HO},H b=some u->(∀φ,u≠.ext φ)->del H e b=some u:=fun {b u} q z=>by
  unfold del;rw[jNh]
  ·exact q
  ·rintro rfl;rw[he]at q;cases q;exact z _ rfl
 refine I.un (h':=s.heap) (t':=s.toks) ⟨fun b o q _ _ _=>q,fun b o q _ _ _=>⟨_,q⟩,fun b o q n _=>?_,fun b o q _=>⟨_,q⟩,fun b xs q=>na q fun _=>nofun,fun b o u q=>na q fun _=>nofun,fun b ps q=>⟨#[],by rw[na q fun _=>nofun,Array.append_empty]⟩⟩ fun b u q=>?_
 ·unfold del;split
  ·rfl
  ·exact n
 ·have hb:H b=some u:=by
   unfold del at q;split at q
   ·cases q
   ·exact q
  exact (I.hok b u hb).stay (fun _ _ _ z=>z) (fun c z=>na z fun _=>nofun) fun c xs z=>na z fun _=>nofun
def QQ (R:RowC X.K C CS fI)(F:FnOk X.prog X.w X.K X.mg X.base (cxx X.prog X.w) k fI fd ["self","row"] (Kx C a))(hr:Room (k+1) X.A)(hb:Binds X.K fd ["self","row"] [])
  (I:Inv X jNf σ H s) (r:RelV (.int n) u) (g:X7 a n)
  (h:∀e dx t s',s.heap.objs.size<=e->s'.heap.get? e=some { cls:=.ref C,dict:=some dx,data:=.fields #[.ref t,.none,.none,.none,.bool false,.none] }->H dx=none->dx≠e->H e=none->Inv X jNf σ (upd H dx (.xd [("row",.int n)])) s'->Q (.ref e) s'):
  jNe (model X.prog X.w) X.A (call (.ref C) [u]) Q X.xe s:=by
 obtain⟨nm,q,N,bs,hdct,sn,sub,ab,col,dd,k0,k1,k2,k3,k5,ob⟩:=R.ob;obtain⟨oI,lI,cI⟩:=tV.mp R.fn;obtain⟨hh,gg,d,tk,os⟩:=s;refine z0u jXg (PySem.W.tail_of_in I.kIn R.tl) (I.kIn _ _ ob) (PySem.W.looks_findIn I.kIn R.fi) (I.kIn _ _ lI) cI fun h' e hle hx=>?_;obtain⟨t0,e0,_⟩:=hx.there;have I2:=I.laid (a:=e) (o:=exV C e none) (h':=h') (t':=tk) hx.keeps hle (Qj e0);have hHe:H e=none:=I.hok.fresh hle;have r2:Vals ([V.ref e,.int n]++[]) ([Value.ref e,u]++[]):=.cons rfl (.cons r .nil);refine wpAny_call (codeAny_mono (F.run _ X.stack _ _ ⟨[Value.ref e,u],[]⟩ ([Value.ref e,u]++[]) _ (fun v H3=>v=.non/\∃dx,H dx=none/\dx≠e/\H3=upd (upd (upd H e (exV C e none)) e (exV C e (some dx))) dx (.xd [("row",.int n)])) (fun _ _ _=>False) (hr.make C [u] [])
  (I2.env0.make C [u] []) (hb _ [Value.ref e,u] I2.kIn rfl) r2 ⟨e,n,rfl,zz,g,fun dx h1 h2=>⟨rfl,dx,by rw[zt h2]at h1;exact h1,h2,rfl⟩⟩) fun r s' hq=>?_)
 cases r with
 | error e=>exact (KS hq).elim
 | ok fl =>
  cases fl with
  | next=>exact False.elim hq
  | brk=>exact False.elim hq
  | cont=>exact False.elim hq
  | ret u =>
   obtain⟨v,H3,I3,rv,rfl,dx,hd1,hd2,rfl⟩:=I2.after hq;have he3:upd (upd (upd H e (exV C e none)) e (exV C e (some dx))) dx (.xd [("row",.int n)]) e=some (exV C e (some dx)):=by rw[zt (Ne.symm hd2),zz]
   obtain⟨⟨t,e1⟩,_⟩:=(show ObjOk X.prog X.w _ s'.heap e (exV C e (some dx)) from I3.hok e _ he3)
   refine⟨rv,h e dx t s' hle e1 hd1 hd2 hHe ?_⟩;have I4:=I3.forget he3;have ee:del (upd (upd (upd H e (exV C e none)) e (exV C e (some dx))) dx (.xd [("row",.int n)])) e=upd H dx (.xd [("row",.int n)]):=by
    funext b
    unfold del
    by_cases q:b=e
    ·rw[jNg q,q,zt (Ne.symm hd2),hHe]
    ·rw[jNh q]
     by_cases q2:b=dx
     ·rw[q2,zz,zz]
     ·rw[zt q2,zt q,zt q,zt q2]
   rw[ee]at I4;exact I4
end
section
variable {P:jNa}{w:World}{K:jJa}{mg:Str->Option Value}{base:Heap}{N:List Str}{qual:Str}{scope:Scope}{f:Addr}{cd:Value}{A:jNb}{outer:List Env}{s:jNc}{H:Hp}{E:XK}
def z3c {jNf:List (Addr×Obj)}{σ:St}{H1:Hp}{s1:jNc}{e t:Addr}{cls:Value}{od:Option Addr}(I:Inv (yZ (cxx P w) P w K mg base N qual scope f cd A outer s H E) jNf σ H1 s1)
  (he:s1.heap.get? e=some { cls:=cls,dict:=od,data:=.fields #[.ref t,.none,.none,.none,.bool false,.none] }) (hn:H1 e=none) (ho:s.heap.objs.size<=e) (hE:E cls od H1):
  (yZ (cxx P w) P w K mg base N qual scope f cd A outer s H E).xe (.ref e) s1:=by
 have hfr:(A.deeper (envOfC qual scope s.heap.objs.size f cd)).frames=some (envOfC qual scope s.heap.objs.size f cd::outer):=I.ok.frames;have fs:=I.stack;generalize hl:e::frs (envOfC qual scope s.heap.objs.size f cd::outer)=l;have hin:∀env∈(envOfC qual scope s.heap.objs.size f cd::outer),∀b,env.frame=some b->b∈l:=fun env he b hb=>hl▸tH _ (List.mem_filterMap.mpr ⟨env,he,hb⟩);have hen:(jJk s1.heap l).get? e=none:=jJy l (hl▸tG);refine Zv (R:=fun h2=>Heap.FlyingW (jJk s1.heap l) outer e cls (.ref t) h2/\s1.heap.UpToSlots h2) (.leaving _ _) (fun Q q=>wpAny_leaving_firstW (a0:=.ref t) (L:=s.heap.objs.size) (base:=jJk s1.heap l) hfr (PySem.W.funFrames_hide fs hin) rfl he (fun b o q=>jJx _ q) hen rfl rfl rfl fun h2 hL=>?_) fun h2 ⟨fl,up⟩ dk=>?_
 ·obtain⟨k1,⟨_,_,k2⟩,k3,k4⟩:=hL;exact q h2 ⟨⟨k1,hen,k2,k3⟩,k4⟩
 obtain⟨ob,e3,_⟩:=fl.there;refine Jf (E:=E) (h':=h2) I rfl rfl rfl fl (fun b o q n hor=>jJw _ q fun hm=>?_) up ⟨ob,e3,dk.at he e3⟩ hE;rw[<-hl]at hm;rcases tS.mp hm with z|z
 ·subst z;rcases hor with hor|⟨o0,hor⟩
  ·exact hor hn
  ·exact absurd (jYc hor) (Nat.not_lt.mpr ho)
 ·exact n z
structure RowI (P:jNa)(w:World)(K:jJa)(mg:Str->Option Value)(base:Heap)(x:Str)(C:Addr)(k:Nat)(a:Str):Prop where
 ex:∃CS f fd,RowC K C CS f/\FnOk P w K mg base (cxx P w) k f fd ["self","row"] (Kx C a)/\Binds K fd ["self","row"] []
 ei:ErrI K C
 ns:jJh K jKi x=some (some (.ref C))
 mg:mg x=some (.ref C)
 kp:jJf K (.ref C)=true
theorem RowI.mono {x:Str}{C:Addr}{j k:Nat}{a:Str}(O:RowI P w K mg base x C j a)(h:j<=k):RowI P w K mg base x C k a:=by
 obtain⟨CS,f,fd,R,F,b⟩:=O.ex;exact⟨⟨CS,f,fd,R,F.mono h,b⟩,O.ei,O.ns,O.mg,O.kp⟩
end
section
open PySem.W
variable {prog:jNa}{w:World}{A:jNb}{E:Value->jNc->Prop}{K:Frag}{C:Addr}{env:Env}
def Uo {s:jNc}{x:Sem Value}{Q:Flow->jNc->Prop}{CS fI:Addr}(R:RowC K C CS fI)(c:ErrI K C)(hh:A.handled=none)
  (h:jNe (model prog w) A x (fun v s1=>∃e t od,v=.ref e/\K.In s1.heap/\s1.heap.get? e=some { cls:=.ref C,dict:=od,data:=.fields #[.ref t,.none,.none,.none,.bool false,.none] }/\E (.ref e) s1) E s):
  jNe (model prog w) A (raiseStmt env (some x) none) Q E s:=by
 unfold raiseStmt;refine jMb (jMc h (fun v s1 h1=>?_) fun _ _ x=>x);obtain⟨e,t,od,rfl,X,he,hE⟩:=h1;obtain⟨hp,g,d,tk,os⟩:=s1;obtain⟨nm,q,N,bs,hdct,sn,sub,ab,col,dd,k0,k1,k2,k3,k5,ob⟩:=R.ob;have hC:hp.get? C=some _:=X _ _ ob;have L7:=looks_mroIn (M:=model prog w) X c.mb
 repeat (first|with_reducible refine wpAny_loadPart_at he ?_|with_reducible refine L7.here ?_|with_reducible refine wpAny_loadPart_at hC ?_|wp_step)
 exact wpAny_raiseNew_none hh hE
end
section
variable {P:jNa}{w:World}{K:jJa}{mg:Str->Option Value}{base:Heap}{N:List Str}{qual:Str}{scope:Scope}{f:Addr}{cd:Value}{A:jNb}{outer:List Env}{s:jNc}{H:Hp}{E:XK}
def Xy (C:Addr)(a:Str)(E:XK)(ta:TA):TS:=fun _ σ H=>ta σ H fun vs H1=>∃n,vs=[.int n]/\X7 a n/\∀dx,H1 dx=none->E (.ref C) (some dx) (upd H1 dx (.xd [("row",.int n)]))
def VZ {x:Str}{C:Addr}{k:Nat}{a:Str}{e₀:Expr}{ta:TA}{np cpos pos:Pos}(O:RowI P w K mg base x C k a)(hr:Room (k+1) (A.deeper (envOfC qual scope s.heap.objs.size f cd)))(hh:A.handled=none)(hg:Gl (yZ (cxx P w) P w K mg base N qual scope f cd A outer s H E) x)
  (ha:PA (yZ (cxx P w) P w K mg base N qual scope f cd A outer s H E) [e₀] ta) (hd:autoParam (nDb x) au1._auto_1)
  (hs:autoParam (jMj [e₀] (envOfC qual scope s.heap.objs.size f cd)=(false,eval e₀ (envOfC qual scope s.heap.objs.size f cd))::jMj [] (envOfC qual scope s.heap.objs.size f cd)) au3._auto_1):
  PS (yZ (cxx P w) P w K mg base N qual scope f cd A outer s H E) (.Raise (some (.Call (.Name x np) [e₀] [] cpos)) none pos) (Xy C a E ta):=by
 intro jNf s1 σ H1 D I h;obtain⟨CS,fI,fd,R,F,hb⟩:=O.ex;show jNe _ _ (exec _ _) _ _ _;rw[arm_exec_Raise];simp only[evalOpt,Option.map];refine jMb (jKf (Uo R O.ei hh (jMb (jMc ?_ (fun v s3 h3=>jMb (jKf (jMd h3))) fun _ _ z=>z))));refine jYf (uv I hg O.mg ?_ hd);refine jJi (h₀:=base) I.ok.mod.kin O.kp (thn (ha cpos jNf s1 σ H1 _ I h) fun us s2 ⟨vs,H2,I2,r,n,ev,g,q⟩=>⟨I2.kIn,?_⟩) hs;subst ev;cases r with
 | cons r1 r2 =>
 cases r2;refine QQ R F hr hb I2 r1 g fun e dx t s' hle e1 h1 h2 h3 I3=>⟨e,t,some dx,rfl,I3.kIn,e1,?_⟩
 refine z3c I3 e1 (by rw[zt (Ne.symm h2)];exact h3) (rH ?_ hle) (q dx h1);exact I2.sz
end
def Kt:V->List V->Hp->VK->Prop:=fun x xs H Q=>∃z y,x=.str z/\xs=[.str y]/\Q (.int (Txt.count z y)) H
def XF:MtR X "str.count" Kt:=by
 intro jNf s σ H x xs v us Q I rx rs h;obtain⟨z,y,rfl,rfl,q⟩:=h;obtain⟨t,rfl⟩:=rx;obtain⟨u,rfl,ru⟩:=wO rs;obtain⟨t2,rfl⟩:=ru;exact SC.count ⟨.int (Txt.count z y),H,I.tok _,⟨_,rfl⟩,q⟩
def j8 (z:Str):List D->R D
 | [.str y]=>.ok (.int (Txt.count z y))
 | _=>.bad
def Qr (z:Str):yQ (j8 z):=fun ds n h=>by
 unfold j8 at h;split at h<;>cases h
def Qu {K:jJa}:SmB K Kt j8:=by
 rintro H z xs ds L Q rs ⟨d,hg,q⟩;unfold j8 at hg;split at hg
 ·rename_i y;cases hg;exact⟨z,y,rfl,qC rs,q _ H [] (Same.refl H) ⟨rfl,rfl⟩ (by simp) (fun a ha=>nomatch ha)⟩
 ·cases hg
def v7 (x a:Str)(u:Tn->R (List D)):Tn->R Fl:=fun τ=>(u τ).bind fun ds=>match ds with
 | [.int n]=>if 0<=n/\X7 a n then .err (wg x n.toNat) else .bad
 | _=>.bad
def Jg {K:jJa}{H:Hp}{n:Int}{vs:List V}{L:List Addr}(r:Reps K H [.int n] vs L):vs=[.int n]:=by
 obtain⟨v0,vs',L1,L2,e1,e2,r1,e3,e4⟩:=r;subst e1 e3;rw[r1.1]
def uU {P:jNa}{w:World}{K:jJa}{mg:Str->Option Value}{base:Heap}{N:List Str}{qual:Str}{scope:Scope}{f:Addr}{cd:Value}{A:jNb}{outer:List Env}{s:jNc}{H:Hp}{E:XK}{Γ Γl Γ':List Cl}
  {x:Str} {C:Addr} {k:Nat} {a:Str} {e₀:Expr} {u:Tn->R (List D)} {c:Rc} {np cpos pos:Pos} (O:RowI P w K mg base x C k a) (hr:Room (k+1) (A.deeper (envOfC qual scope s.heap.objs.size f cd))) (hg:Gl (yZ (cxx P w) P w K mg base N qual scope f cd A outer s H E) x)
  (ha:MA (yZ (cxx P w) P w K mg base N qual scope f cd A outer s H E) E Γ [e₀] u c) (hd:autoParam (nDb x) au1._auto_1)
  (hs:autoParam (jMj [e₀] (envOfC qual scope s.heap.objs.size f cd)=(false,eval e₀ (envOfC qual scope s.heap.objs.size f cd))::jMj [] (envOfC qual scope s.heap.objs.size f cd)) au3._auto_1):
  MS (yZ (cxx P w) P w K mg base N qual scope f cd A outer s H E) E Γl Γ (.Raise (some (.Call (.Name x np) [e₀] [] cpos)) none pos) (v7 x a u) Γ':=by
 obtain⟨_,ta,pa,q⟩:=ha;refine⟨Xy C a E ta,fun jNf s1 σ H1 D I h=>VZ (A:=A) O hr (show A.handled=none from I.ok.hd rfl) hg pa hd hs jNf s1 σ H1 D I h,fun B σ H1 τ Z ok h=>?_⟩;obtain⟨Ow,eok,_⟩:=ok.eok;refine q Ow σ H1 τ _ eok ?_;unfold v7 at h;cases hu:u τ with
 | ok ds =>
  rw[hu,jYa]at h;refine fun vs H' L s r _=>?_;split at h
  ·rename_i n;split at h
   ·rename_i hz;refine⟨n,Jg r,hz.2,fun dx hdx=>h (C,some dx) _ ⟨?_,?_⟩ ((ok.ext.trans s).trans (Same.new hdx))⟩
    ·rw[J2];exact O.ns
    ·rw[Ja];exact⟨dx,rfl,by rw[zz,Int.toNat_of_nonneg hz.1]⟩
   ·exact h.elim
  ·exact h.elim
 | err n=>rw[hu]at h;exact fun C' H' e s=>h C' H' e (ok.ext.trans s)
 | bad=>rw[hu]at h;exact h.elim
def Y3 (a:Str)(u:Tn->R (List D)):Tn->R D:=fun τ=>(u τ).bind fun ds=>match ds with
 | [.int n]=>if X7 a n then .ok (.int n) else .bad
 | _=>.bad
def z1j (o:ObjOk P w H h dx (.xd [("row",.int n)])):∃m t,h.Ns1 dx m/\m "row"=some (.int n t):=by
 obtain⟨m,hn,r⟩:=o;have z:=r "row";have e:List.lookup ("row":Str) [(("row":Str),V.int n)]=some (V.int n):=by rw[sU,beq_self_eq_true]
 rw[e]at z;cases hm:m "row" with
 | none=>rw[hm]at z;exact z.elim
 | some u =>
  rw[hm]at z;obtain⟨t,rfl⟩:=z;exact⟨m,t,hn,hm⟩
section
variable {k:Nat}
def z0i (O:RowI X.prog X.w X.K X.mg X.base x C k a)(hr:Room (k+1) X.A)(hg:Gl X x)(ha:PA X [e₀] ta)(hd:autoParam (nDb x) au1._auto_1)
  (hb:autoParam (jKd (.Call (.Name x p) [e₀] [] pos) "row" X.env (eval (.Call (.Name x p) [e₀] [] pos) X.env)=eval (.Call (.Name x p) [e₀] [] pos) X.env) au3._auto_1)
  (hs:autoParam (jMj [e₀] X.env=(false,eval e₀ X.env)::jMj [] X.env) au3._auto_1):
  PE X (.Attribute (.Call (.Name x p) [e₀] [] pos) "row" pos') (fun σ H Q=>ta σ H fun vs H1=>∃n,vs=[.int n]/\X7 a n/\∀dx,H1 dx=none->Q (.int n) (upd H1 dx (.xd [("row",.int n)]))):=by
 intro jNf s σ H Q I h;obtain⟨CS,fI,fd,R,F,hbi⟩:=O.ex;refine QB hb (jYf (uv I hg O.mg ?_ hd));refine jJi (h₀:=X.base) I.ok.mod.kin O.kp (thn (ha pos jNf s σ H _ I h) fun us s2 ⟨vs,H2,I2,r,n,ev,g,q⟩=>⟨I2.kIn,?_⟩) hs;subst ev;cases r with
 | cons r1 r2 =>
 cases r2;refine QQ R F hr hbi I2 r1 g fun e dx t s' hle e1 h1 h2 h3 I3=>?_;obtain⟨m,t2,hn,hm⟩:=z1j (show ObjOk X.prog X.w _ s'.heap dx (.xd [("row",.int n)]) from I3.hok dx _ zz);obtain⟨hh,gg,d,tk,os⟩:=s';exact QM R O.ei I3.kIn e1 rfl rfl rfl hn hm rfl fun tk'=>⟨.int n,_,I3.tok tk',⟨t2,rfl⟩,q dx h1⟩
def z0C {u:Tn->R (List D)}(O:RowI X.prog X.w X.K X.mg X.base x C k a)(hr:Room (k+1) X.A)(hg:Gl X x)(ha:MA X E Γ [e₀] u c)(hd:autoParam (nDb x) au1._auto_1)
  (hb:autoParam (jKd (.Call (.Name x p) [e₀] [] pos) "row" X.env (eval (.Call (.Name x p) [e₀] [] pos) X.env)=eval (.Call (.Name x p) [e₀] [] pos) X.env) au3._auto_1)
  (hs:autoParam (jMj [e₀] X.env=(false,eval e₀ X.env)::jMj [] X.env) au3._auto_1):
  ME X E Γ (.Attribute (.Call (.Name x p) [e₀] [] pos) "row" pos') (Y3 a u) .fresh:=by
 obtain⟨_,ta,pa,q⟩:=ha;refine⟨_,z0i O hr hg pa hd hb hs,fun Ow σ H τ Q ok h=>?_⟩;refine q Ow σ H τ _ ok ?_;unfold Y3 at h;cases hu:u τ with
 | ok ds =>
  rw[hu,jYa]at h;refine fun vs H' L s r _=>?_;split at h
  ·rename_i n;split at h
   ·rename_i hz;exact⟨n,Jg r,hz,fun dx hdx=>h _ _ [] (s.trans (Same.new hdx)) ⟨rfl,rfl⟩ (by simp[RcOk])⟩
   ·exact h.elim
  ·exact h.elim
 | err n=>rw[hu]at h;exact h
 | bad=>rw[hu]at h;exact h.elim
end
def z3m (C:Addr)(i:Nat)(e:Addr)(oe:Obj):TE:=fun σ H Q=>σ[i]?=some (some (.ref e))/\oe.cls=.ref C/\(∃vs,oe.data=.fields vs)/\∃dx r,oe.dict=some dx/\H dx=some (.xd [("row",.int r)])/\Q (.int r) H
def ki {X:Cx}{C CS fI e:Addr}{oe:Obj}(i:Nat){n:Str}{p pos:Pos}(R:RowC X.K C CS fI)(ei:ErrI X.K C)(hN:autoParam (X.N[i]?=some n) au3._auto_1)(hv:autoParam (Vis X.env.scope n) au5._auto_1)
  (hb:autoParam (nDb n) au1._auto_1) (hcd:autoParam ((n==("__classdict__":Str))=false) au1._auto_1)
  (hab:autoParam (jKd (.Name n p) "row" (X.within e oe).env (eval (.Name n p) (X.within e oe).env)=eval (.Name n p) (X.within e oe).env) au3._auto_1):
  PE (X.within e oe) (.Attribute (.Name n p) "row" pos) (z3m C i e oe):=by
 intro jNf s σ H Q I h;obtain⟨hσ,hc,⟨vs,hd⟩,dx,r,hdx,hH,q⟩:=h;refine QB hab (thn (vN (X:=X.within e oe) (pos:=p) hN hv hb hcd jNf s σ H (fun v H1=>v=.ref e/\H1=H) I ⟨_,hσ,rfl,rfl⟩) fun u s1 ⟨x,H1,I1,rx,ex,eH⟩=>?_);subst ex eH;obtain rfl:u=Value.ref e:=rx;have hp:=(I1.pin (e,oe) (tW _ (tL _ (sG.mpr rfl)))).1;obtain⟨m,t2,hn,hm⟩:=z1j (show ObjOk X.prog X.w H1 s1.heap dx (.xd [("row",.int r)]) from I1.hok dx _ hH);obtain⟨hh,gg,d,tk,os⟩:=s1;exact QM R ei I1.kIn hp hc hdx hd hn hm rfl fun tk'=>⟨.int r,H1,I1.tok tk',⟨t2,rfl⟩,q⟩
def z08:D->Option (D×List D)
 | .lst [n,.lst ws]=>some (n,ws)
 | _=>none
def Z1:List D->Option (List D×D×List D)
 | []=>none
 | [d]=>(z08 d).map fun p=>([],p.1,p.2)
 | d::e::r=>(Z1 (e::r)).map fun p=>(d::p.1,p.2.1,p.2.2)
def kD (i:Nat)(t:Tn->R D):Tn->R Fl:=fun τ=>match τ[i]? with
 | some (some (.lst ds))=>(match Z1 ds with
  | some (a,n,ws)=>(t τ).bind fun v=>(match v with
   | .str z=>if ws.length<jMi then .ok (.nx (τ.set i (some (.lst (a++[.lst [n,.lst (ws++[.str z])]]))))) else .bad
   | _=>.bad)
  | none=>.bad)
 | _=>.bad
def ku (i:Nat)(t:Tn->R D):Tn->R Fl:=fun τ=>(t τ).bind fun v=>match v,τ[i]? with
 | .int k,some (some (.lst ds))=>(match Z1 ds with
  | some (a,.int _,ws)=>.ok (.nx (τ.set i (some (.lst (a++[.lst [.int k,.lst ws]])))))
  | _=>.bad)
 | _,_=>.bad
def qQ:D->Option Int
 | .lst [.int n,.lst _]=>some n
 | _=>none
def Z9:List D->Option (List D)
 | []=>some []
 | d::r=>(qQ d).bind fun n=>(Z9 r).map fun es=>(if 0<=n then [d] else [])++es
def VM (i:Nat):Tn->R Fl:=fun τ=>match τ[i]? with
 | some (some (.lst ds))=>if ds.length<=jMi then (match Z9 ds with
  | some es=>.ok (.rt (.lst es))
  | none=>.bad) else .bad
 | _=>.bad
theorem ZR:∀ {ds a:List D} {n:D} {ws:List D},Z1 ds=some (a,n,ws)->ds=a++[.lst [n,.lst ws]]
 | [],_,_,_,h=>by cases h
 | [d],a,n,ws,h=>by
  obtain⟨p,e1,e2⟩:=tV.mp (show (z08 d).map (fun p=>(([]:List D),p.1,p.2))=some (a,n,ws) from h);unfold z08 at e1;split at e1
  ·cases e1;cases e2;rfl
  ·cases e1
 | d::f::r,a,n,ws,h=>by
  obtain⟨p,e1,e2⟩:=tV.mp (show (Z1 (f::r)).map (fun p=>(d::p.1,p.2.1,p.2.2))=some (a,n,ws) from h);obtain⟨a',n',ws'⟩:=p;cases e2;rw[ZR e1];rfl
theorem qB {K:jJa}{H:Hp}{d:D}:∀ {ds:List D} {vs:List V} {L:List Addr},Reps K H (ds++[d]) vs L->∃vs0 v L0 Ld,vs=vs0++[v]/\L=L0++Ld/\Reps K H ds vs0 L0/\Rep K H d v Ld
 | [],vs,L,r=>by
  obtain⟨v0,vs',L1,L2,e1,e2,r1,e3,e4⟩:=r;subst e1 e2 e3 e4;exact⟨[],v0,[],L1,rfl,by rw[tI];rfl,Reps.nil,r1⟩
 | e::ds,vs,L,r=>by
  obtain⟨v0,vs',L1,L2,e1,e2,r1,r2⟩:=r;obtain⟨vs0,v,L0,Ld,h1,h2,h3,h4⟩:=qB r2;subst e1 e2 h1 h2;exact⟨v0::vs0,v,L1++L0,Ld,rfl,by rw[tQ],Reps.cons r1 h3,h4⟩
def qx {K:jJa}{H:Hp}{n:D}{ws:List D}{v:V}{L:List Addr}(r:Rep K H (.lst [n,.lst ws]) v L):∃t v0 b qs L0 L1,v=.ref t/\H t=some (.lst [v0,.ref b])/\H b=some (.lst qs)/\L=t::(L0++(b::L1))/\Rep K H n v0 L0/\Reps K H ws qs L1:=by
 obtain⟨t,vs,L',rfl,ht,e,rs⟩:=r;obtain⟨v0,vs',L1,L2,e1,e2,r1,v1,vs2,L3,L4,e3,e4,r2,e5,e6⟩:=rs;obtain⟨b,qs,L5,e7,hb,e8,r3⟩:=r2;subst e1 e2 e3 e4 e5 e6 e7 e8 e;exact⟨t,v0,b,qs,L1,L5,rfl,ht,hb,by rw[tI],r1,r3⟩
section
variable {X:Cx}{E:XK}{Γ Γl:List Cl}{pos:Pos}
def z7x (i:Nat){x:Str}{ex:Expr}{t:Tn->R D}{c:Rc}{c0 c1:Nat}{p0 p1 p2 p3 p4 p5 p6 p7:Pos}(he:ME X E Γ ex t c)(hN:autoParam (X.N[i]?=some x) au3._auto_1)(h0:autoParam (Γ[i]?=some .own) au3._auto_1)(hv:autoParam (Vis X.env.scope x) au5._auto_1)(hb:autoParam (nDb x) au1._auto_1)(hcd:autoParam ((x==("__classdict__":Str))=false) au1._auto_1)
  (hbase:autoParam (jKd (.Subscript (.Subscript (.Name x p0) (.UnaryOp .USub (.Constant (.int 1) c0 p3) p5) p4) (.Constant (.int 1) c1 p6) p7) "append" X.env (eval (.Subscript (.Subscript (.Name x p0) (.UnaryOp .USub (.Constant (.int 1) c0 p3) p5) p4) (.Constant (.int 1) c1 p6) p7) X.env)=eval (.Subscript (.Subscript (.Name x p0) (.UnaryOp .USub (.Constant (.int 1) c0 p3) p5) p4) (.Constant (.int 1) c1 p6) p7) X.env) au3._auto_1)
  (hfew:autoParam (((jNd p2 (jMj [ex] X.env)).all (fun x=>!x.1)&&(jMh p2 (jKh [] X.env)).all (fun x=>x.1.isSome)&&decide ([ex].length+([]:List jMk).length+(if ([]:List jMk).isEmpty then 0 else 1)<30))=true) au3._auto_1)
  (hline:autoParam ((p1.endLine==p2.line)=true) au3._auto_1) (hs:autoParam (jMj [ex] X.env=(false,eval ex X.env)::jMj [] X.env) au3._auto_1) (hplain:autoParam ((jNd p2 (jMj [] X.env)).any (·.1)=false) au3._auto_1)
  (hsw:autoParam (jMf (.Call (.Attribute (.Subscript (.Subscript (.Name x p0) (.UnaryOp .USub (.Constant (.int 1) c0 p3) p5) p4) (.Constant (.int 1) c1 p6) p7) "append" p1) [ex] [] p2) none pos.line X.env=pure false) au3._auto_1):
  MS X E Γl Γ (.Expr (.Call (.Attribute (.Subscript (.Subscript (.Name x p0) (.UnaryOp .USub (.Constant (.int 1) c0 p3) p5) p4) (.Constant (.int 1) c1 p6) p7) "append" p1) [ex] [] p2) pos) (kD i t) Γ:=by
 obtain⟨te,pe,q⟩:=he;refine⟨_,Zs (Qk jQ6 jQ7 jQ8 qE (ZZ j7 (ZZ j7 (vN (pos:=p0) hN hv hb hcd) (Jn WT ue) (fun _ _=>rfl)) ue (fun _ _=>rfl)) (zR pe wF hs) hbase hfew hline hs hplain) hsw,fun B σ H τ Z ok h=>?_⟩;obtain⟨v0,d0,L,e1,e2,r,nd,n2,_⟩:=ok.slot h0;obtain⟨Ow,eok,_⟩:=ok.eok;unfold kD at h;rw[e2]at h;cases d0 with
 | lst ds =>
  dsimp only at h;cases hl:Z1 ds with
  | none=>rw[hl]at h;exact h.elim
  | some p =>
   obtain⟨da,n,ws⟩:=p;rw[hl]at h;dsimp only at h;have hds:=ZR hl;subst hds;obtain⟨a,vs,L1,rfl,ha,e,rs⟩:=r;obtain⟨vs0,v,La,Ld,rfl,rfl,ra,rd⟩:=qB rs;obtain⟨tt,w0,b,qs,M0,M1,rfl,ht,hbb,rfl,rn,rw⟩:=qx rd;refine⟨_,e1,1,rfl,.inl ⟨a,vs0++[.ref tt],-1,.ref tt,rfl,rfl,SqL.of ha,jx _ _,.inl ⟨tt,[w0,.ref b],1,.ref b,rfl,rfl,SqL.of ht,rfl,.inl ⟨rfl,qs,SqL.of hbb⟩,?_⟩⟩⟩;refine q Ow σ H τ _ eok ?_;cases hu:t τ with
   | err m=>rw[hu]at h;exact fun C' H' e s=>h C' H' e (ok.ext.trans s)
   | bad=>rw[hu]at h;exact h.elim
   | ok dv =>
    rw[hu,jYa]at h;refine fun y H1 Le s1 ry _=>?_;split at h
    ·rename_i z;split at h
     ·rename_i hz;have ok1:=ok.same s1;obtain⟨u1,d1,L2,q1,q2,r1,nd1,n3,fin⟩:=ok1.slot h0;rw[e1]at q1;cases q1;rw[e2]at q2;cases q2;obtain⟨a2,vs2,L3,e5,ha2,e6,rs2⟩:=r1;cases e5;have hv2:=(s1 a _ ha).symm.trans ha2;cases hv2;obtain⟨vs3,v3,La3,Ld3,e7,e8,ra3,rd3⟩:=qB rs2;obtain⟨e9,e10⟩:=List.append_inj' e7 rfl;cases e10;subst e9 e8 e6;obtain⟨t3,w3,b3,qs3,N0,N1,e11,ht3,hb3,e12,rn3,rw3⟩:=qx rd3;cases e11;have hv3:=(s1 tt _ ht).symm.trans ht3;cases hv3;have hv4:=(s1 b _ hbb).symm.trans hb3;cases hv4;subst e12;have mu:(∃vs,H1 b=some (.lst vs))\/∃kvs,H1 b=some (.dK kvs):=.inl ⟨_,hb3⟩;obtain⟨rfl,_⟩:=ry;obtain⟨m1,m2⟩:=sP.mp nd1;obtain⟨m3,m4,m5⟩:=sN.mp m2;obtain⟨m6,m7⟩:=sP.mp m4;obtain⟨m8,m9,m10⟩:=sN.mp m7;obtain⟨m11,m12⟩:=sP.mp m9;have bIn:b∈La3++tt::(N0++b::N1):=tL _ (tH _ (tL _ tG));have hab:a≠b:=fun z=>m1 (z▸bIn);have htb:tt≠b:=fun z=>m6 (z▸tL _ tG);have rr:=Reps.append (rw3.upd (o:=.lst (qs++[.str z])) mu m11) (Reps.cons (d:=.str z) (v:=.str z) (L1:=[]) ⟨rfl,rfl⟩ (Reps.nil (K:=X.K) (H:=upd H1 b (.lst (qs++[.str z])))));rw[tI,tI]at rr;refine⟨b,qs,.str z,rfl,rfl,hb3,by rw[rw3.length];exact hz,h _ _ (fin _ _ (a::(La3++tt::(N0++b::N1))) [] [] rfl (TF.upd mu) (fun c hc _=>zt fun z=>hc (by rw[z];exact tH _ bIn)) ⟨a,_,_,rfl,by rw[zt hab];exact ha2,rfl,?_⟩ (fun c hc=>.inl hc) nd1)⟩;refine Reps.append (ra3.upd mu fun z=>m5 b z b (tH _ (tL _ tG)) rfl) ?_;have r7:Rep X.K (upd H1 b (.lst (qs++[.str z]))) (.lst [n,.lst (ws++[.str z])]) (.ref tt) (tt::(N0++b::N1)):=by
       refine⟨tt,_,_,rfl,by rw[zt htb];exact ht3,rfl,?_⟩;have:=Reps.cons (rn3.upd (o:=.lst (qs++[.str z])) mu fun z=>m10 b z b tG rfl) (Reps.cons (d:=.lst (ws++[.str z])) (v:=.ref b) (L1:=b::N1) ⟨b,_,N1,rfl,zz,rfl,rr⟩ Reps.nil);rw[tI]at this;exact this
      have:=Reps.cons r7 (Reps.nil (K:=X.K) (H:=upd H1 b (.lst (qs++[.str z]))));rw[tI]at this;exact this
     ·exact h.elim
    ·exact h.elim
 | _=>exact h.elim
def z6v (i:Nat){x:Str}{ex:Expr}{t:Tn->R D}{c:Rc}{c0 c1:Nat}{p0 p3 p4 p5 p6 p7:Pos}(he:ME X E Γ ex t c)(hN:autoParam (X.N[i]?=some x) au3._auto_1)(h0:autoParam (Γ[i]?=some .own) au3._auto_1)(hv:autoParam (Vis X.env.scope x) au5._auto_1)(hb:autoParam (nDb x) au1._auto_1)(hcd:autoParam ((x==("__classdict__":Str))=false) au1._auto_1)
  (ha:autoParam (∀v,assign (.Subscript (.Subscript (.Name x p0) (.UnaryOp .USub (.Constant (.int 1) c0 p3) p5) p4) (.Constant (.int 0) c1 p6) p7) X.env v=(do
   let ov <-holding [v] (eval (.Subscript (.Name x p0) (.UnaryOp .USub (.Constant (.int 1) c0 p3) p5) p4) X.env)
   let iv <-holding [v,ov] (eval (.Constant (.int 0) c1 p6) X.env)
   standAt p7
   holding [v,ov,iv] (setItem ov iv v)
   release [v,ov,iv] [])) au2._auto_1)
  (hs:autoParam (swapsWithSole [.Subscript (.Subscript (.Name x p0) (.UnaryOp .USub (.Constant (.int 1) c0 p3) p5) p4) (.Constant (.int 0) c1 p6) p7] ex pos.line X.env=pure false) au3._auto_1) (hw:autoParam (swappedStores [.Subscript (.Subscript (.Name x p0) (.UnaryOp .USub (.Constant (.int 1) c0 p3) p5) p4) (.Constant (.int 0) c1 p6) p7] ex X.env=pure none) au3._auto_1)
  (h1:autoParam ((jMa [.Subscript (.Subscript (.Name x p0) (.UnaryOp .USub (.Constant (.int 1) c0 p3) p5) p4) (.Constant (.int 0) c1 p6) p7] X.env).map (·.2)=[assign (.Subscript (.Subscript (.Name x p0) (.UnaryOp .USub (.Constant (.int 1) c0 p3) p5) p4) (.Constant (.int 0) c1 p6) p7) X.env]) au3._auto_1):
  MS X E Γl Γ (.Assign [.Subscript (.Subscript (.Name x p0) (.UnaryOp .USub (.Constant (.int 1) c0 p3) p5) p4) (.Constant (.int 0) c1 p6) p7] ex pos) (ku i t) Γ:=by
 obtain⟨te,pe,q⟩:=he;refine⟨_,z0B pe (z03 (ZZ j7 (vN (pos:=p0) hN hv hb hcd) (Jn WT ue) (fun _ _=>rfl)) ue VX ha) hs hw h1,fun B σ H τ Z ok h=>?_⟩;obtain⟨Ow,eok,_⟩:=ok.eok;refine q Ow σ H τ _ eok ?_;unfold ku at h;cases hu:t τ with
 | err m=>rw[hu]at h;exact fun C' H' e s=>h C' H' e (ok.ext.trans s)
 | bad=>rw[hu]at h;exact h.elim
 | ok dv =>
  rw[hu,jYa]at h;refine fun y H1 Le s1 ry _=>?_;have ok1:=ok.same s1;obtain⟨u1,d1,L2,q1,q2,r1,nd1,n3,fin⟩:=ok1.slot h0;rw[q2]at h;split at h
  ·rename_i k ds e;cases e;split at h
   ·rename_i da n0 ws hl;have hds:=ZR hl;subst hds;obtain⟨rfl,_⟩:=ry;obtain⟨a,vs,L3,rfl,ha2,rfl,rs2⟩:=r1;obtain⟨vs0,v3,La3,Ld3,rfl,rfl,ra3,rd3⟩:=qB rs2;obtain⟨tt,w0,b,qs,N0,N1,rfl,ht3,hb3,rfl,⟨rfl,rfl⟩,rw3⟩:=qx rd3;rw[tZ]at *;have mu:(∃vs,H1 tt=some (.lst vs))\/∃kvs,H1 tt=some (.dK kvs):=.inl ⟨_,ht3⟩;obtain⟨m1,m2⟩:=sP.mp nd1;obtain⟨m3,m4,m5⟩:=sN.mp m2;obtain⟨m6,m7⟩:=sP.mp m4;obtain⟨m11,m12⟩:=sP.mp m7;have tIn:tt∈La3++tt::b::N1:=tL _ tG;have hat:a≠tt:=fun z=>m1 (z▸tIn);have hbt:b≠tt:=fun z=>m6 (z▸tG);refine⟨_,q1,1,rfl,.inl ⟨a,vs0++[.ref tt],-1,.ref tt,rfl,rfl,SqL.of ha2,jx _ _,tt,[.int n0,.ref b],0,0,rfl,rfl,ht3,rfl,h _ _ (fin _ _ (a::(La3++tt::b::N1)) [] [] rfl (TF.upd mu) (fun c hc _=>zt fun z=>hc (by rw[z];exact tH _ tIn)) ⟨a,_,_,rfl,by rw[zt hat];exact ha2,rfl,?_⟩ (fun c hc=>.inl hc) nd1)⟩⟩;refine Reps.append (ra3.upd mu fun z=>m5 tt z tt tG rfl) ?_;have r7:Rep X.K (upd H1 tt (.lst [.int k,.ref b])) (.lst [.int k,.lst ws]) (.ref tt) (tt::b::N1):=by
     refine⟨tt,_,_,rfl,zz,rfl,?_⟩;have:=Reps.cons (d:=.int k) (v:=.int k) (L1:=[]) ⟨rfl,rfl⟩ (Reps.cons (K:=X.K) (H:=upd H1 tt (.lst [.int k,.ref b])) (d:=.lst ws) (v:=.ref b) (L1:=b::N1) ⟨b,_,N1,rfl,by rw[zt hbt];exact hb3,rfl,rw3.upd mu fun z=>m6 (tH _ z)⟩ Reps.nil);rw[tI]at this;exact this
    have:=Reps.cons r7 (Reps.nil (K:=X.K) (H:=upd H1 tt (.lst [.int k,.ref b])));rw[tI]at this;exact this
   ·exact h.elim
  ·exact h.elim
end
def fv:List D->List V->List V
 | d::ds,v::vs=>(if 0<=(qQ d).getD (-1) then [v] else [])++fv ds vs
 | _,_=>[]
theorem Qt:∀ {ds:List D} {vs:List V},vs.length=ds.length->fv (ds++[d]) (vs++[v])=fv ds vs++if 0<=(qQ d).getD (-1) then [v] else []
 | [],[],_=>by show _++[]=[]++_;rw[tI,tZ]
 | e::ds,u::vs,h=>by
  have ih:=Qt (d:=d) (v:=v) (ds:=ds) (vs:=vs) (by simpa using h);show _++fv (ds++[d]) (vs++[v])=_++fv ds vs++_;rw[ih,tQ]
theorem z0y:∀ {ds:List D} {vs:List V},(fv ds vs).length<=vs.length
 | [],vs=>rC _
 | d::ds,[]=>tP _
 | d::ds,v::vs=>by
  have ih:=z0y (ds:=ds) (vs:=vs);show ((if 0<=(qQ d).getD (-1) then [v] else [])++fv ds vs).length<=_;split<;>simp only[tD,tE,tR]<;>omega
def z1b (h:qQ d=some n):∃ws,d=.lst [.int n,.lst ws]:=by
 unfold qQ at h;split at h
 ·cases h;exact⟨_,rfl⟩
 ·cases h
theorem Xd {K:jJa}{H:Hp}:∀ {ds es:List D} {vs:List V} {L:List Addr},Reps K H ds vs L->Z9 ds=some es->∃L',Reps K H es (fv ds vs) L'/\L'.Sublist L
 | [],es,vs,L,r,h=>by
  cases h;obtain⟨rfl,rfl⟩:=r;exact⟨[],Reps.nil,List.Sublist.refl _⟩
 | d::ds,es,vs,L,r,h=>by
  obtain⟨v0,vs',L1,L2,e1,e2,r1,r2⟩:=r;subst e1 e2;obtain⟨n,hn,h⟩:=sM.mp (show (qQ d).bind _=some es from h);obtain⟨fs,e3,e4⟩:=tV.mp h;obtain⟨L',a1,a2⟩:=Xd r2 e3;subst e4;show ∃L',Reps K H _ ((if 0<=(qQ d).getD (-1) then [v0] else [])++fv ds vs') L'/\_;rw[hn];show ∃L',Reps K H _ ((if 0<=n then [v0] else [])++fv ds vs') L'/\_
  by_cases hn:0<=n
  ·rw[jNg hn,jNg hn];exact⟨_,Reps.cons r1 a1,List.Sublist.append (List.Sublist.refl _) a2⟩
  ·rw[jNh hn,jNh hn];exact⟨L',a1,a2.trans (pL _ _)⟩
theorem VY {K:jJa}{H:Hp}:∀ {ds es:List D} {vs:List V} {L:List Addr} {k:Nat} {v:V},Reps K H ds vs L->Z9 ds=some es->vs[k]?=some v->∃n ws t b,ds[k]?=some (.lst [.int n,.lst ws])/\v=.ref t/\H t=some (.lst [.int n,.ref b])
 | [],es,vs,L,k,v,r,h,hv=>by
  obtain⟨rfl,rfl⟩:=r;cases hv
 | d::ds,es,vs,L,k,v,r,h,hv=>by
  obtain⟨v0,vs',L1,L2,e1,e2,r1,r2⟩:=r;subst e1 e2;obtain⟨n,hn,h⟩:=sM.mp (show (qQ d).bind _=some es from h);obtain⟨fs,e3,e4⟩:=tV.mp h;cases k with
  | zero =>
   cases hv;obtain⟨ws,rfl⟩:=z1b hn;obtain⟨tt,w0,b,qs,N0,N1,rfl,ht,_,_,⟨rfl,rfl⟩,_⟩:=qx r1;exact⟨n,ws,tt,b,rfl,rfl,ht⟩
  | succ k =>
   obtain⟨n',ws,t,b,q1,q2,q3⟩:=VY (k:=k) (v:=v) r2 e3 (by simpa using hv);exact⟨n',ws,t,b,by simpa using q1,q2,q3⟩
section
variable {X:Cx}{E:XK}{Γ Γl Γ':List Cl}{pos:Pos}
def z8Q (i:Nat){lc:Expr}(hC:PE X lc (Xo [none] (z06 X.K (jz i)) (Za 0) (z0W (tOp (rI0 fun i j=>.bl (decide (j<=i))) (tOp (rIx X.K) (jz 0) (tC (.int 0))) (tC (.int 0)))) (jz 0)))(h0:autoParam (Γ[i]?=some .own) au3._auto_1):
  MS X E Γl Γ (.Return (some lc) pos) (VM i) Γ':=by
 refine⟨_,jb hC,fun B σ H τ Z ok h=>?_⟩;obtain⟨v0,d0,L,e1,e2,r,nd,n2,_⟩:=ok.slot h0;unfold VM at h;rw[e2]at h;cases d0 with
 | lst ds =>
  dsimp only at h
  by_cases hz:ds.length<=jMi
  ·rw[jNg hz]at h;cases hf:Z9 ds with
   | none=>rw[hf]at h;exact h.elim
   | some es =>
    rw[hf]at h;obtain⟨a,vs,L1,rfl,ha,rfl,rs⟩:=r;obtain⟨m1,m2⟩:=sP.mp nd;have hl:=rs.length;refine⟨_,e1,a,rfl,⟨vs,SqL.of ha⟩,fun D hD=>?_⟩;have had:a≠D:=zH ha hD;refine⟨fun k m ys τ' H2=>m=vs.length-k/\k<=vs.length/\ys=fv (ds.take k) (vs.take k)/\H2=upd H D (.lst ys)/\τ'.length=1,⟨vs.length,rfl,rC _,rfl,rfl,rfl⟩,?_⟩;rintro k m ys τ' H2 ⟨rfl,hk,rfl,rfl,hτ⟩;refine⟨zz,?_⟩;have ha2:upd H D (.lst (fv (ds.take k) (vs.take k))) a=some (.lst vs):=by rw[zt had];exact ha
    by_cases hlt:k<vs.length
    ·refine .inr ⟨⟨vs,vs[k],SqL.of ha2,by simp[hlt]⟩,fun x H3 hy=>?_⟩;obtain⟨rfl,hx⟩:=hy;have hx:=hx vs (SqL.of ha2);obtain⟨n,ws,t,b,hd,rfl,ht⟩:=VY rs hf hx;have htd:t≠D:=zH ht hD;have hs:fv (ds.take (k+1)) (vs.take (k+1))=fv (ds.take k) (vs.take k)++if 0<=n then [V.ref t] else []:=by
      rw[List.take_add_one,List.take_add_one,hd,hx];exact Qt (by rw[sZ,sZ,hl])
     have h0':(τ'.set 0 (some (V.ref t)))[0]?=some (some (V.ref t)):=sA (by omega);refine⟨_,h0',.inl ⟨t,[.int n,.ref b],0,.int n,rfl,rfl,SqL.of (by rw[zt htd];exact ht),rfl,n,0,rfl,rfl,_,rfl,?_⟩⟩;dsimp only
     by_cases hn:0<=n
     ·rw[jNg (decide_eq_true hn)];rw[jNg hn]at hs;refine⟨_,h0',zz,?_,vs.length-(k+1),by omega,rfl,hlt,hs.symm,by rw[z2U],by rw[sQ];exact hτ⟩;have:=z0y (ds:=ds.take k) (vs:=vs.take k);rw[sZ]at this;omega
     ·rw[jNh (by simpa using hn)];rw[jNh hn,tI]at hs;exact⟨vs.length-(k+1),by omega,rfl,hlt,hs.symm,rfl,by rw[sQ];exact hτ⟩
    ·have e:k=vs.length:=by omega
     subst e;refine .inl ⟨⟨vs,SqL.of ha2,tP _⟩,?_⟩;obtain⟨L',a1,a2⟩:=Xd rs hf;rw[rL (by omega),List.take_length];refine h (.ref D) _ (D::L') (ok.ext.trans (Same.new hD)) ⟨D,_,L',rfl,zz,rfl,a1.same (Same.new hD)⟩ (sP.mpr ⟨fun z=>a1.there z hD,m2.sublist a2⟩) fun c hc=>?_;rcases tS.mp hc with z|z
     ·rw[z];exact ok.ext.non hD
     ·exact (n2 c (tH _ (a2.mem z))).1
  ·rw[jNh hz]at h;exact h.elim
 | _=>exact h.elim
end
section
variable {P:jNa}{w:World}{K:jJa}{mg:Str->Option Value}{base:Heap}{x:Str}{st:Stmt}{ps:List Str}{k:Nat}{t:Tn->R Fl}
def miD (N:List Str) (Df:DefIn K mg x st ps) (hbody:FnScope N ps (defScope st)->∀(f:Addr) (cdv:Value) (A:jNb) (outer:List Env) (s:jNc) (H:Hp) (E:XK),Room k (A.deeper (envOfC x (defScope st) s.heap.objs.size f cdv)) ->
   MSs (yZ (cxx P w) P w K mg base N x (defScope st) f cdv A outer s H E) E [] (j6 N.length ps.length) (defBody st) t (j6 N.length ps.length)) (S:autoParam (FnScope N ps (defScope st)) au11._auto_1) (hn:autoParam (ps.length<=N.length) au1._auto_1):Own P w K mg base x (k+1) ps (spM K (zC N.length t) ps.length):=
 Df.mir S hn (hbody S)
end
section
variable {k k':Nat}{n:Nat}
def cl (O:Own X.prog X.w X.K X.mg X.base x k ps (spM X.K F n))(hr:Room k' X.A)(ha:MA X E Γ (e::es) u c)(hk:autoParam (k<=k') au1._auto_1)(hg:autoParam (Gl X x) au8._auto_1)(hx:autoParam (vj (cxx X.prog X.w) X E) au12._auto_1)(hl:autoParam ((e::es).length=n) au3._auto_1)(hdb:autoParam (nDb x) au1._auto_1)
  (he:autoParam (jMj (e::es) X.env=(false,eval e X.env)::jMj es X.env) au3._auto_1) (hpl:autoParam ((jNd pos (jMj es X.env)).any (·.1)=false) au3._auto_1):ME X E Γ (.Call (.Name x p) (e::es) [] pos) (eL F u) .fresh:=
 z35 (O.mono hk) hr hg hx ha hl hdb he hpl
def ln (B:Bl X.mg)(ha:MA X E Γ (e::es) u c)(hg:autoParam (Gl X "len") au8._auto_1)(he:autoParam (jMj (e::es) X.env=(false,eval e X.env)::jMj es X.env) au3._auto_1)(hpl:autoParam ((jNd pos (jMj es X.env)).any (·.1)=false) au3._auto_1):ME X E Γ (.Call (.Name "len" p) (e::es) [] pos) (eL ya u) .fresh:=
 xD Jy z6w z7S hg B.len PySem.boot_len ha (by decide) (by decide) he hpl
def vs (i:Nat){x:Str}(hN:autoParam (X.N[i]?=some x) au3._auto_1)(hk:autoParam (Γ[i]?=some .shr) au3._auto_1)(hv:autoParam (Vis X.env.scope x) au5._auto_1)(hb:autoParam (nDb x) au1._auto_1)(hcd:autoParam ((x==("__classdict__":Str))=false) au1._auto_1):ME X E Γ (.Name x pos) (za i) (Rc.of .shr):=
 mn i .shr hN hk (by decide) hv hb hcd
def vo (i:Nat){x:Str}(hN:autoParam (X.N[i]?=some x) au3._auto_1)(hk:autoParam (Γ[i]?=some .own) au3._auto_1)(hv:autoParam (Vis X.env.scope x) au5._auto_1)(hb:autoParam (nDb x) au1._auto_1)(hcd:autoParam ((x==("__classdict__":Str))=false) au1._auto_1):ME X E Γ (.Name x pos) (za i) (Rc.of .own):=
 mn i .own hN hk (by decide) hv hb hcd
end
section
variable {CX:CXT}{P:jNa}{w:World}{K:jJa}{mg:Str->Option Value}{base:Heap}{N:List Str}{qual:Str}{sc:Scope}{f:Addr}{cd:Value}{A:jNb}{outer:List Env}{s:jNc}{H:Hp}{E' E:XK}{Γ:List Cl}{fr:List (Option Nat)}{scope:Scope}{y:Str}{p pos:Pos}{iter elt:Expr}{ifs:List Expr}{it:Tn->R (List D)}{cnd:Tn->R Bool}{te:Tn->R D}{ci c:Rc}
def cm1 (N':List Str)(nf:∀y∈sc.names,y.2≠.free)(hi:MI (yZ CX P w K mg base N qual sc f cd A outer s H E') E Γ (.Name y p) iter it ci)
  (he:∀s₃ H₃ fp jNf,ME (zP (yZ CX P w K mg base N qual sc f cd A outer s H E') scope N' s₃ H₃ fp jNf) noX (zW (Cl.ofIt ci) (zK fr Γ) [0]) elt te c) (hc:autoParam ((yZ CX P w K mg base N qual sc f cd A outer s H E').calm=true) au3._auto_1) (h:autoParam (ZC sc N N' fr scope=true) au13._auto_1) (nd:autoParam (N'.Nodup) au13._auto_1)
  (hg:N'.Nodup->∀s₃ H₃ fp jNf,MG (zP (yZ CX P w K mg base N qual sc f cd A outer s H E') scope N' s₃ H₃ fp jNf) (.Name y p) (.one 0):=by exact fun h _ _ _ _=>ym (pgn 0 h)) (hcl:autoParam (c≠.bor) au1._auto_1) (hd:autoParam (∀j∈[0],(zK fr Γ)[j]?=some .dead) au1._auto_1)
  (hs:autoParam (∀x,jYg iter (yZ CX P w K mg base N qual sc f cd A outer s H E').env x=pure x) au2._auto_1):ME (yZ CX P w K mg base N qual sc f cd A outer s H E') E Γ (.ListComp elt [⟨.Name y p,iter,[],0⟩] scope pos) (zS fr it (.one 0) (fun _=>.ok true) te) c:=
 qG hc (wz nf h) hi (hg nd) (fun _ _ _ _=>v9) he hcl hd hs
end
section
variable {k:Nat}
def ad (ha:ME X E Γ a ta ca)(hb:ME X E Γ b tb cb):ME X E Γ (.BinOp a .Add b pos) (zc zB ta tb) .fresh:=uI z1K z7X z6d ha hb
def fd (ha:ME X E Γ a ta ca)(hb:ME X E Γ b tb cb):ME X E Γ (.BinOp a .FloorDiv b pos) (zc y9 ta tb) .fresh:=uI z2h z4D zI ha hb
def md (ha:ME X E Γ a ta ca)(hb:ME X E Γ b tb cb):ME X E Γ (.BinOp a .Mod b pos) (zc yj ta tb) .fresh:=uI z4E z6q zI ha hb
def ml (ha:ME X E Γ a ta ca)(hb:ME X E Γ b tb cb):ME X E Γ (.BinOp a .Mult b pos) (zc vC ta tb) .fresh:=uI z2x z7f z6p ha hb
def sb (ha:ME X E Γ a ta ca)(hb:ME X E Γ b tb cb):ME X E Γ (.BinOp a .Sub b pos) (zc Zn ta tb) .fresh:=uI z4K z7B zI ha hb
def a1 (h:ME X E Γ e t ca)(hs:autoParam (jMj [e] X.env=(false,eval e X.env)::jMj [] X.env) au3._auto_1):MA X E Γ [e] (zb t ze) (Rc.both ca .fresh):=zl h xo hs
def rt (h:ME X E Γ e t .fresh):MSs X E Γl Γ [.Return (some e) pos] (zm t) Γ':=zp (ui (zA h))
def ix (hr:Room k X.A)(ha:ME X E Γ a ta ca)(hb:ME X E Γ b tb cb)(hs:autoParam (Wg b) au6._auto_1):ME X E Γ (.Subscript a b pos) (zc ixD ta tb) ca:=z7K hr.u1 ha hb hs
def te (hr:Room k X.A)(ha:ME X E Γ a ta ca)(hb:ME X E Γ b tb cb)(hm:autoParam (behindInMarks .Eq b=false) au14._auto_1):MT X E Γ (.Compare a [.Eq] [b] pos) (zh (zc (eqR false) ta tb)):=zD (xG hr.u12) xV we ha hb hm
def sa (i:Nat)(nd:X.N.Nodup)(h:ME X E Γ e t .fresh)(k:MSs X E Γl (Γ.set i .own) r t2 Γ')(hi:autoParam (X.N[i]?=some x) au3._auto_1)(hl:autoParam (i<Γ.length) au1._auto_1)(hx:autoParam (Loc X.env.scope x) au7._auto_1)(hs:autoParam (jMf e (some (.Name x pos')) pos.line X.env=pure false) au3._auto_1)(hf:autoParam (X.fn x=true\/X.env.scope.names.lookup x=some .local) au0._auto_1):MSs X E Γl Γ (.Assign [.Name x pos'] e pos::r) (zi (zu i t) t2) Γ':=zf (L2.st i nd (zA h) hi hl hx hs hf) k
end
end L2
namespace HW
open PySem PySem.W
open PySem.Spec PyProof.Rows L2 in
def dfn {K:Frag}{mg:Str->Option Value}{h:Heap}{n:Str}{st:Stmt}{ps:List Str}{a c:Addr}{m:Str}{t:Nat}(X:K.In h)(G:h.Ns jKi mg)
  (hl:∀ {kV dc pm:Value} {an:Option Addr} {cd ct:Value} (us:List Value),us.length=ps.length->bindArgs (fnOf n n (defArgs st) (defBody st) (defScope st) .none kV dc pm an cd ct) { pos:=us }=pure (ps.zip us))
  (e:(nsIn K jKi n,K.lookup a,codeIn K (.ref c) n,keepIn K (.ref a))=(some (some (.ref a)),some ⟨.type "function",none,.func (fnOf n n (defArgs st) (defBody st) (defScope st) .none .none .none (.str m t) none (.ref c) .none),#[]⟩,true,true)):DefIn K mg n st ps:=by
 simp only[Prod.mk.injEq]at e;exact z1g X G (fun _ _ _ _ _ _=>hl) e.1 e.2.1 e.2.2.1 e.2.2.2
end HW
namespace K08
open PySem PySem.Spec PyProof.Rows L2
section
variable {P:jNa}{w:World}{K:jJa}{mg:Str->Option Value}{base:Heap}
structure Gl0 (K:jJa)(mg:Str->Option Value):Prop where
 SIGNS:∃t,mg "SIGNS"=some (.str "abcdefghijklmnopqrstuvwxyzABCDEFGHIJKLMNOPQRSTUVWXYZ0123456789.,;:!?'\"()-/" t)
 MOST_SIGNS:∃t,mg "MOST_SIGNS"=some (.int 40 t)
 MOST_HEAD_WORDS:∃t,mg "MOST_HEAD_WORDS"=some (.int 12 t)
 MOST_PAIRS:∃t,mg "MOST_PAIRS"=some (.int 200 t)
 MOST_WORD_NOTES:∃t,mg "MOST_WORD_NOTES"=some (.int 3 t)
 MOST_NOTE_WORDS:∃t,mg "MOST_NOTE_WORDS"=some (.int 30 t)
 MOST_ROWS:∃t,mg "MOST_ROWS"=some (.int 20 t)
 MOST_CELLS:∃t,mg "MOST_CELLS"=some (.int 4 t)
 MOST_CELL_WORDS:∃t,mg "MOST_CELL_WORDS"=some (.int 12 t)
 MOST_BLOCKS:∃t,mg "MOST_BLOCKS"=some (.int 40 t)
 MOST_NOTES:∃t,mg "MOST_NOTES"=some (.int 60 t)
structure Cls (K:jJa)(mg:Str->Option Value):Prop where
 ve:mg "ValueError"=none
 ex:∃CS CT fI c1 c2 c3 c4 c5 c6 c7 c8 c9:Addr,mg "SetError"=some (.ref CS)/\RowC K CT CS fI/\ErrI K CT/\jJh K jKi "BadText"=some (some (.ref CT))/\mg "BadText"=some (.ref CT)/\jJb K (.ref CT) (.type "ValueError")=some true/\jJu K (.ref CT) (.ref CS)=some true/\(mg "BadBlocks"=some (.ref c1)/\jJb K (.ref CT) (.ref c1)=some false)/\(mg "BadBook"=some (.ref c2)/\jJb K (.ref CT) (.ref c2)=some false)/\(mg "BadBreaks"=some (.ref c3)/\jJb K (.ref CT) (.ref c3)=some false)/\(mg "BadFace"=some (.ref c4)/\jJb K (.ref CT) (.ref c4)=some false)/\(mg "BadRules"=some (.ref c5)/\jJb K (.ref CT) (.ref c5)=some false)/\(mg "BadWord"=some (.ref c6)/\jJb K (.ref CT) (.ref c6)=some false)/\(mg "NoNote"=some (.ref c7)/\jJb K (.ref CT) (.ref c7)=some false)/\(mg "NoPlace"=some (.ref c8)/\jJb K (.ref CT) (.ref c8)=some false)/\(mg "TooWide"=some (.ref c9)/\jJb K (.ref CT) (.ref c9)=some false)
structure En (K:jJa)(mg:Str->Option Value):Prop where
 b:Bl mg
 g:Gl0 K mg
 c:Cls K mg
def Jx:Tn->R Fl:=(zm (uq (eUn (wq "str") (za 0)) (uq (zc (eqR false) (eL ya (zb (za 0) ze)) (eC (.int 1))) (zc Wk (za 0) (eC (.str "abcdefghijklmnopqrstuvwxyzABCDEFGHIJKLMNOPQRSTUVWXYZ0123456789.,;:!?'\"()-/"))))))
def vY:List D->R D:=zC 1 Jx
def UW (Df:DefIn K mg "is_sign" (top 14) ["thing"])(V:En K mg) :Own P w K mg base "is_sign" 1 ["thing"] (spM K vY 1):=
 miD ["thing"] Df fun S _ _ _ _ _ _ _ hr=>(rt (uW (wX (T:="str") (by decide) rfl V.b.isinstance (yR (v:=.ty "str") rfl V.b.str Boot.«str» rfl) (vs 0)) (uW (xX (xG hr.u12) xV we (ln V.b (a1 (vs 0))) z9 (zw _)) (kj (xX z0h z3Z z3U (vs 0) (z0F V.g.SIGNS) (by exact rfl))))))
def qD:Tn->R Fl:=(zi (sIf (bOr (yJ (zh (eUn (wq "str") (za 0)))) (yJ (zh (yx leD leD (eC (.int 1)) (eL ya (zb (za 0) ze)) (eC (.int 40)))))) (zm (eC (.bl false))) zo) (zm (eL uE (zb (zS [none] (yo (za 0)) (.one 0) (fun _=>.ok true) (eL vY (zb (za 0) ze))) ze))))
def yc:List D->R D:=zC 1 qD
def Uw (Df:DefIn K mg "is_word" (top 17) ["thing"])(V:En K mg)(o3e:Own P w K mg base "is_sign" 1 ["thing"] (spM K vY 1)):Own P w K mg base "is_word" 2 ["thing"] (spM K yc 1):=
 miD ["thing"] Df fun S _ _ _ _ _ _ _ hr=>(zf (zx (MW.mt (x9 (yg (yy (wX (T:="str") (by decide) rfl V.b.isinstance (yR (v:=.ty "str") rfl V.b.str Boot.«str» rfl) (vs 0)))) (yY (yg (wV xw vD zI xw vD zI z9 (ln V.b (a1 (vs 0))) (yS V.g.MOST_SIGNS)))))) (rt xH) zk) (rt (xD (yU (by exact rfl)) qO qL (by exact rfl) V.b.all Boot.«all» (a1 (cm1 ["sign"] S.nofree (zN (vs 0)) (fun _ _ _ _=>(cl o3e hr (a1 (vs 0)))))))))
def sc_is_tuple_of:FnScope ["thing","least","most","is_part"] ["thing","least","most","is_part"] (defScope (top 28)):=by constructor<;>first|rfl|decide +kernel
def ux:Tn->R Fl:=(zi (sIf (bOr (yJ (zh (eUn (wq "tuple") (za 0)))) (yJ (zh (yx leD leD (za 1) (eL ya (zb (za 0) ze)) (za 2))))) (zm (eC (.bl false))) zo) (zm (eL uE (zb (zS [none,some 3] (yo (za 0)) (.one 0) (fun _=>.ok true) (eL yc (zb (za 0) ze))) ze))))
def zy:List D->R D:=zC 4 ux
def u3 (Df:DefIn K mg "is_tuple_of" (top 28) ["thing","least","most","is_part"])(V:En K mg)(ow:Own P w K mg base "is_word" 2 ["thing"] (spM K yc 1)):OwnF P w K mg base "is_tuple_of" 3 ["thing","least","most","is_part"] zy 3 "is_word":=by
 obtain⟨fg,hfg⟩:=ow.mgx;exact⟨fg,hfg,Df.mirF (k:=2) (v:=.ref fg) (n:=3) (Γ':=[.shr,.shr,.shr,.dead]) sc_is_tuple_of (by decide) rfl fun f cdv A outer s H E hr=>YF (MW.mt (x9 (yg (yy (wX (T:="tuple") (by decide) rfl V.b.isinstance (yR (v:=.ty "tuple") rfl V.b.tuple Boot.«tuple» rfl) (vs 0)))) (yY (yg (wV xw vD zI xw vD zI (vs 1) (ln V.b (a1 (vs 0))) (vs 2)))))) (rt xH) (jO (vi (yU (by exact rfl)) qO qL (by exact rfl) V.b.all Boot.«all» (qi (N':=["part","is_part"]) (fr:=[none,some 3]) (jf:=1) rfl (wz sc_is_tuple_of.nofree (by decide +kernel)) (zN (vs 0)) (fun _ _ _ _=>(ym (pgn 0 (show List.Nodup (["part","is_part"]:List Str) from by decide +kernel)))) (fun _ _ _ _=>v9) (fun _ _ _ _=>vQ (ow.mono (by decide)) hfg hr rfl (by first|exact Or.inl rfl|exact Or.inr (Or.inl rfl)|exact Or.inr (Or.inr rfl)) vc (a1 (vs 0))) (by decide) (by decide) (by decide) rfl)))⟩
def XB:Tn->R Fl:=(zm (eL zy (zb (za 0) (zb (eC (.int 1)) (zb (eC (.int 30)) ze)))))
def wB:List D->R D:=zC 1 XB
def Q8 (Df:DefIn K mg "is_note" (top 29) ["thing"])(V:En K mg)(o4:OwnF P w K mg base "is_tuple_of" 3 ["thing","least","most","is_part"] zy 3 "is_word"):Own P w K mg base "is_note" 4 ["thing"] (spM K wB 1):=
 miD ["thing"] Df fun S _ _ _ _ _ _ _ hr=>(rt (wD (o4.mono (by decide)) hr (by exact rfl) (by exact rfl) xk (vs 0) z9 (yS V.g.MOST_NOTE_WORDS)))
def uu:Tn->R Fl:=(zi (sIf (bOr (yJ (zh (eUn (wq "tuple") (za 0)))) (yJ (zh (yx leD leD (za 1) (eL ya (zb (za 0) ze)) (za 2))))) (zm (eC (.bl false))) zo) (zm (eL uE (zb (zS [none,some 3] (yo (za 0)) (.one 0) (fun _=>.ok true) (eL wB (zb (za 0) ze))) ze))))
def yp:List D->R D:=zC 4 uu
def vT (Df:DefIn K mg "is_tuple_of" (top 28) ["thing","least","most","is_part"])(V:En K mg)(o1i:Own P w K mg base "is_note" 4 ["thing"] (spM K wB 1)):OwnF P w K mg base "is_tuple_of" 5 ["thing","least","most","is_part"] yp 3 "is_note":=by
 obtain⟨fg,hfg⟩:=o1i.mgx;exact⟨fg,hfg,Df.mirF (k:=4) (v:=.ref fg) (n:=3) (Γ':=[.shr,.shr,.shr,.dead]) sc_is_tuple_of (by decide) rfl fun f cdv A outer s H E hr=>YF (MW.mt (x9 (yg (yy (wX (T:="tuple") (by decide) rfl V.b.isinstance (yR (v:=.ty "tuple") rfl V.b.tuple Boot.«tuple» rfl) (vs 0)))) (yY (yg (wV xw vD zI xw vD zI (vs 1) (ln V.b (a1 (vs 0))) (vs 2)))))) (rt xH) (jO (vi (yU (by exact rfl)) qO qL (by exact rfl) V.b.all Boot.«all» (qi (N':=["part","is_part"]) (fr:=[none,some 3]) (jf:=1) rfl (wz sc_is_tuple_of.nofree (by decide +kernel)) (zN (vs 0)) (fun _ _ _ _=>(ym (pgn 0 (show List.Nodup (["part","is_part"]:List Str) from by decide +kernel)))) (fun _ _ _ _=>v9) (fun _ _ _ _=>vQ (o1i.mono (by decide)) hfg hr rfl (by first|exact Or.inl rfl|exact Or.inr (Or.inl rfl)|exact Or.inr (Or.inr rfl)) vc (a1 (vs 0))) (by decide) (by decide) (by decide) rfl)))⟩
def XQ:Tn->R Fl:=(zi (sIf (bOr (yJ (zh (eUn (wq "tuple") (za 0)))) (zh (zc (eqR true) (eL ya (zb (za 0) ze)) (eC (.int 2))))) (zm (eC (.bl false))) zo) (zm (uq (eL yc (zb (zc ixD (za 0) (eC (.int 0))) ze)) (eL yp (zb (zc ixD (za 0) (eC (.int 1))) (zb (eC (.int 0)) (zb (eC (.int 3)) ze)))))))
def wH:List D->R D:=zC 1 XQ
def Q5 (Df:DefIn K mg "is_pair" (top 30) ["thing"])(V:En K mg)(ow:Own P w K mg base "is_word" 2 ["thing"] (spM K yc 1))(oj:OwnF P w K mg base "is_tuple_of" 5 ["thing","least","most","is_part"] yp 3 "is_note"):Own P w K mg base "is_pair" 6 ["thing"] (spM K wH 1):=
 miD ["thing"] Df fun S _ _ _ _ _ _ _ hr=>(zf (zx (MW.mt (x9 (yg (yy (wX (T:="tuple") (by decide) rfl V.b.isinstance (yR (v:=.ty "tuple") rfl V.b.tuple Boot.«tuple» rfl) (vs 0)))) (yY (zD (y8 hr.u12) xV we (ln V.b (a1 (vs 0))) z9 (zw _))))) (rt xH) zk) (rt (uW (cl ow hr (a1 (ix hr (vs 0) z9))) (kj (wD (oj.mono (by decide)) hr (by exact rfl) (by exact rfl) xk (ix hr (vs 0) z9) z9 (yS V.g.MOST_WORD_NOTES))))))
def Xw:Tn->R Fl:=(zm (eL zy (zb (za 0) (zb (eC (.int 0)) (zb (eC (.int 12)) ze)))))
def wy:List D->R D:=zC 1 Xw
def UI (Df:DefIn K mg "is_cell" (top 31) ["thing"])(V:En K mg)(o4:OwnF P w K mg base "is_tuple_of" 3 ["thing","least","most","is_part"] zy 3 "is_word"):Own P w K mg base "is_cell" 4 ["thing"] (spM K wy 1):=
 miD ["thing"] Df fun S _ _ _ _ _ _ _ hr=>(rt (wD (o4.mono (by decide)) hr (by exact rfl) (by exact rfl) xk (vs 0) z9 (yS V.g.MOST_CELL_WORDS)))
def ur:Tn->R Fl:=(zi (sIf (bOr (yJ (zh (eUn (wq "tuple") (za 0)))) (yJ (zh (yx leD leD (za 1) (eL ya (zb (za 0) ze)) (za 2))))) (zm (eC (.bl false))) zo) (zm (eL uE (zb (zS [none,some 3] (yo (za 0)) (.one 0) (fun _=>.ok true) (eL wy (zb (za 0) ze))) ze))))
def yr:List D->R D:=zC 4 ur
def u4 (Df:DefIn K mg "is_tuple_of" (top 28) ["thing","least","most","is_part"])(V:En K mg)(o1j:Own P w K mg base "is_cell" 4 ["thing"] (spM K wy 1)):OwnF P w K mg base "is_tuple_of" 5 ["thing","least","most","is_part"] yr 3 "is_cell":=by
 obtain⟨fg,hfg⟩:=o1j.mgx;exact⟨fg,hfg,Df.mirF (k:=4) (v:=.ref fg) (n:=3) (Γ':=[.shr,.shr,.shr,.dead]) sc_is_tuple_of (by decide) rfl fun f cdv A outer s H E hr=>YF (MW.mt (x9 (yg (yy (wX (T:="tuple") (by decide) rfl V.b.isinstance (yR (v:=.ty "tuple") rfl V.b.tuple Boot.«tuple» rfl) (vs 0)))) (yY (yg (wV xw vD zI xw vD zI (vs 1) (ln V.b (a1 (vs 0))) (vs 2)))))) (rt xH) (jO (vi (yU (by exact rfl)) qO qL (by exact rfl) V.b.all Boot.«all» (qi (N':=["part","is_part"]) (fr:=[none,some 3]) (jf:=1) rfl (wz sc_is_tuple_of.nofree (by decide +kernel)) (zN (vs 0)) (fun _ _ _ _=>(ym (pgn 0 (show List.Nodup (["part","is_part"]:List Str) from by decide +kernel)))) (fun _ _ _ _=>v9) (fun _ _ _ _=>vQ (o1j.mono (by decide)) hfg hr rfl (by first|exact Or.inl rfl|exact Or.inr (Or.inl rfl)|exact Or.inr (Or.inr rfl)) vc (a1 (vs 0))) (by decide) (by decide) (by decide) rfl)))⟩
def VS:Tn->R Fl:=(zm (eL yr (zb (za 0) (zb (eC (.int 1)) (zb (eC (.int 4)) ze)))))
def vp:List D->R D:=zC 1 VS
def JQ (Df:DefIn K mg "is_row" (top 32) ["thing"])(V:En K mg)(ol:OwnF P w K mg base "is_tuple_of" 5 ["thing","least","most","is_part"] yr 3 "is_cell"):Own P w K mg base "is_row" 6 ["thing"] (spM K vp 1):=
 miD ["thing"] Df fun S _ _ _ _ _ _ _ hr=>(rt (wD (ol.mono (by decide)) hr (by exact rfl) (by exact rfl) xk (vs 0) z9 (yS V.g.MOST_CELLS)))
def uN:Tn->R Fl:=(zi (sIf (bOr (yJ (zh (eUn (wq "tuple") (za 0)))) (yJ (zh (yx leD leD (za 1) (eL ya (zb (za 0) ze)) (za 2))))) (zm (eC (.bl false))) zo) (zm (eL uE (zb (zS [none,some 3] (yo (za 0)) (.one 0) (fun _=>.ok true) (eL vp (zb (za 0) ze))) ze))))
def yz:List D->R D:=zC 4 uN
def um (Df:DefIn K mg "is_tuple_of" (top 28) ["thing","least","most","is_part"])(V:En K mg)(o2f:Own P w K mg base "is_row" 6 ["thing"] (spM K vp 1)):OwnF P w K mg base "is_tuple_of" 7 ["thing","least","most","is_part"] yz 3 "is_row":=by
 obtain⟨fg,hfg⟩:=o2f.mgx;exact⟨fg,hfg,Df.mirF (k:=6) (v:=.ref fg) (n:=3) (Γ':=[.shr,.shr,.shr,.dead]) sc_is_tuple_of (by decide) rfl fun f cdv A outer s H E hr=>YF (MW.mt (x9 (yg (yy (wX (T:="tuple") (by decide) rfl V.b.isinstance (yR (v:=.ty "tuple") rfl V.b.tuple Boot.«tuple» rfl) (vs 0)))) (yY (yg (wV xw vD zI xw vD zI (vs 1) (ln V.b (a1 (vs 0))) (vs 2)))))) (rt xH) (jO (vi (yU (by exact rfl)) qO qL (by exact rfl) V.b.all Boot.«all» (qi (N':=["part","is_part"]) (fr:=[none,some 3]) (jf:=1) rfl (wz sc_is_tuple_of.nofree (by decide +kernel)) (zN (vs 0)) (fun _ _ _ _=>(ym (pgn 0 (show List.Nodup (["part","is_part"]:List Str) from by decide +kernel)))) (fun _ _ _ _=>v9) (fun _ _ _ _=>vQ (o2f.mono (by decide)) hfg hr rfl (by first|exact Or.inl rfl|exact Or.inr (Or.inl rfl)|exact Or.inr (Or.inr rfl)) vc (a1 (vs 0))) (by decide) (by decide) (by decide) rfl)))⟩
def YN:Tn->R Fl:=(zm (uq (eL yz (zb (za 0) (zb (eC (.int 1)) (zb (eC (.int 20)) ze)))) (eL uE (zb (zS [none,some 0] (yo (za 0)) (.one 0) (fun _=>.ok true) (zc (eqR false) (eL ya (zb (za 0) ze)) (eL ya (zb (zc ixD (za 1) (eC (.int 0))) ze)))) ze))))
def xJ:List D->R D:=zC 1 YN
def VW (Df:DefIn K mg "is_table" (top 33) ["thing"])(V:En K mg)(on:OwnF P w K mg base "is_tuple_of" 7 ["thing","least","most","is_part"] yz 3 "is_row"):Own P w K mg base "is_table" 8 ["thing"] (spM K xJ 1):=
 miD ["thing"] Df fun S _ _ _ _ _ _ _ hr=>(rt (uW (wD (on.mono (by decide)) hr (by exact rfl) (by exact rfl) xk (vs 0) z9 (yS V.g.MOST_ROWS)) (kj (xD (yU (by exact rfl)) qO qL (by exact rfl) V.b.all Boot.«all» (a1 (cm1 ["row","thing"] S.nofree (zN (vs 0)) (fun _ _ _ _=>(xX (xG hr.u12) xV we (ln V.b (a1 (vs 0))) (ln V.b (a1 (ix hr (vs 1) z9))) (zw _)))))))))
def uf:Tn->R Fl:=(zi (sIf (bOr (yJ (zh (eUn (wq "tuple") (za 0)))) (yJ (zh (yx leD leD (za 1) (eL ya (zb (za 0) ze)) (za 2))))) (zm (eC (.bl false))) zo) (zm (eL uE (zb (zS [none,some 3] (yo (za 0)) (.one 0) (fun _=>.ok true) (eL wH (zb (za 0) ze))) ze))))
def zO:List D->R D:=zC 4 uf
def vW (Df:DefIn K mg "is_tuple_of" (top 28) ["thing","least","most","is_part"])(V:En K mg)(o2a:Own P w K mg base "is_pair" 6 ["thing"] (spM K wH 1)):OwnF P w K mg base "is_tuple_of" 7 ["thing","least","most","is_part"] zO 3 "is_pair":=by
 obtain⟨fg,hfg⟩:=o2a.mgx;exact⟨fg,hfg,Df.mirF (k:=6) (v:=.ref fg) (n:=3) (Γ':=[.shr,.shr,.shr,.dead]) sc_is_tuple_of (by decide) rfl fun f cdv A outer s H E hr=>YF (MW.mt (x9 (yg (yy (wX (T:="tuple") (by decide) rfl V.b.isinstance (yR (v:=.ty "tuple") rfl V.b.tuple Boot.«tuple» rfl) (vs 0)))) (yY (yg (wV xw vD zI xw vD zI (vs 1) (ln V.b (a1 (vs 0))) (vs 2)))))) (rt xH) (jO (vi (yU (by exact rfl)) qO qL (by exact rfl) V.b.all Boot.«all» (qi (N':=["part","is_part"]) (fr:=[none,some 3]) (jf:=1) rfl (wz sc_is_tuple_of.nofree (by decide +kernel)) (zN (vs 0)) (fun _ _ _ _=>(ym (pgn 0 (show List.Nodup (["part","is_part"]:List Str) from by decide +kernel)))) (fun _ _ _ _=>v9) (fun _ _ _ _=>vQ (o2a.mono (by decide)) hfg hr rfl (by first|exact Or.inl rfl|exact Or.inr (Or.inl rfl)|exact Or.inr (Or.inr rfl)) vc (a1 (vs 0))) (by decide) (by decide) (by decide) rfl)))⟩
def Y9:Tn->R Fl:=(zi (sIf (bOr (yJ (zh (eUn (wq "tuple") (za 0)))) (bOr (zh (zc (inD true) (eL ya (zb (za 0) ze)) (eL (fun ds=>.ok (.tup ds)) (zb (eC (.int 1)) (zb (eC (.int 2)) ze))))) (yJ (zh (eUn (wq "str") (zc ixD (za 0) (eC (.int 0)))))))) (zm (eC (.bl false))) zo) (zi (sIf (zh (zc (eqR false) (eL ya (zb (za 0) ze)) (eC (.int 1)))) (zm (zc (eqR false) (zc ixD (za 0) (eC (.int 0))) (eC (.str "leaf")))) zo) (zi (sIf (zh (zc (eqR false) (zc ixD (za 0) (eC (.int 0))) (eC (.str "head")))) (zm (eL zy (zb (zc ixD (za 0) (eC (.int 1))) (zb (eC (.int 1)) (zb (eC (.int 12)) ze))))) zo) (zi (sIf (zh (zc (eqR false) (zc ixD (za 0) (eC (.int 0))) (eC (.str "text")))) (zm (eL zO (zb (zc ixD (za 0) (eC (.int 1))) (zb (eC (.int 1)) (zb (eC (.int 200)) ze))))) zo) (zm (uq (zc (eqR false) (zc ixD (za 0) (eC (.int 0))) (eC (.str "table"))) (eL xJ (zb (zc ixD (za 0) (eC (.int 1))) ze))))))))
def zT:List D->R D:=zC 1 Y9
def Vb (Df:DefIn K mg "is_block" (top 34) ["thing"])(V:En K mg)(o2g:Own P w K mg base "is_table" 8 ["thing"] (spM K xJ 1))(o4:OwnF P w K mg base "is_tuple_of" 3 ["thing","least","most","is_part"] zy 3 "is_word")(om:OwnF P w K mg base "is_tuple_of" 7 ["thing","least","most","is_part"] zO 3 "is_pair"):Own P w K mg base "is_block" 9 ["thing"] (spM K zT 1):=
 miD ["thing"] Df fun S _ _ _ _ _ _ _ hr=>(zf (zx (MW.mt (x9 (yg (yy (wX (T:="tuple") (by decide) rfl V.b.isinstance (yR (v:=.ty "tuple") rfl V.b.tuple Boot.«tuple» rfl) (vs 0)))) (x9 (zD V7 z8U z8Y (ln V.b (a1 (vs 0))) (w8 (zl z9 (a1 z9))) (by exact rfl)) (yY (yg (yy (wX (T:="str") (by decide) rfl V.b.isinstance (yR (v:=.ty "str") rfl V.b.str Boot.«str» rfl) (ix hr (vs 0) z9)))))))) (rt xH) zk) (zf (zx (te hr (ln V.b (a1 (vs 0))) z9) (rt (xX (xG hr.u12) xV we (ix hr (vs 0) z9) zg (zw _))) zk) (zf (zx (te hr (ix hr (vs 0) z9) zg) (rt (wD (o4.mono (by decide)) hr (by exact rfl) (by exact rfl) xk (ix hr (vs 0) z9) z9 (yS V.g.MOST_HEAD_WORDS))) zk) (zf (zx (te hr (ix hr (vs 0) z9) zg) (rt (wD (om.mono (by decide)) hr (by exact rfl) (by exact rfl) xk (ix hr (vs 0) z9) z9 (yS V.g.MOST_PAIRS))) zk) (rt (uW (xX (xG hr.u12) xV we (ix hr (vs 0) z9) zg (zw _)) (kj (cl o2g hr (a1 (ix hr (vs 0) z9))))))))))
def jB:Tn->R Fl:=(zi (sIf (zh (zc (eqR true) (zc ixD (za 0) (eC (.int 0))) (eC (.str "text")))) (zm (eC (.int 0))) zo) (zm (eL YG (zb (zS [none,none] (yo (zc ixD (za 0) (eC (.int 1)))) (.many [0,1]) (fun _=>.ok true) (eL ya (zb (za 1) ze))) ze))))
def yB:List D->R D:=zC 1 jB
def X9 (Df:DefIn K mg "many_notes" (top 35) ["block"])(V:En K mg) :Own P w K mg base "many_notes" 1 ["block"] (spM K yB 1):=
 miD ["block"] Df fun S _ _ _ _ _ _ _ hr=>(zf (zx (zD (y8 hr.u12) xV we (ix hr (vs 0) z9) zg (zw _)) (rt z9) zk) (rt (xD (kr rfl) Kv KR (by exact rfl) V.b.sum PyProof.Rows.boot_sum (a1 (qG (N':=["word","notes"]) (fr:=[none,none]) rfl (wz S.nofree (by decide +kernel)) (zN (ix hr (vs 0) z9)) (fun _ _ _ _=>(ub rfl (yC (pgn 0 (show List.Nodup (["word","notes"]:List Str) from by decide +kernel)) (yC (pgn 1 (show List.Nodup (["word","notes"]:List Str) from by decide +kernel)) uD)))) (fun _ _ _ _=>v9) (fun _ _ _ _=>(ln V.b (a1 (vs 1)))) (by decide) (by decide))))))
def jE:Tn->R Fl:=(zi (sIf (bOr (yJ (zh (eUn (wq "list") (za 0)))) (zh (zc gtD (eL ya (zb (za 0) ze)) (eC (.int 40))))) (zm (eC (.bl false))) zo) (zi (sIf (yJ (zh (eL uE (zb (zS [none] (yo (za 0)) (.one 0) (fun _=>.ok true) (eL zT (zb (za 0) ze))) ze)))) (zm (eC (.bl false))) zo) (zm (zc leD (eL YG (zb (zS [none] (yo (za 0)) (.one 0) (fun _=>.ok true) (eL yB (zb (za 0) ze))) ze)) (eC (.int 60))))))
def w6:List D->R D:=zC 1 jE
def X8 (Df:DefIn K mg "are_blocks" (top 36) ["thing"])(V:En K mg)(oy:Own P w K mg base "is_block" 9 ["thing"] (spM K zT 1))(oo:Own P w K mg base "many_notes" 1 ["block"] (spM K yB 1)):Own P w K mg base "are_blocks" 10 ["thing"] (spM K w6 1):=
 miD ["thing"] Df fun S _ _ _ _ _ _ _ hr=>(zf (zx (MW.mt (x9 (yg (yy (wX (T:="list") (by decide) rfl V.b.isinstance (yR (v:=.ty "list") rfl V.b.list Boot.«list» rfl) (vs 0)))) (yY (zD Zd Vk zI (ln V.b (a1 (vs 0))) (yS V.g.MOST_BLOCKS) (zw _))))) (rt xH) zk) (zf (zx (yg (yy (xD (yU (by exact rfl)) qO qL (by exact rfl) V.b.all Boot.«all» (a1 (cm1 ["part"] S.nofree (zN (vs 0)) (fun _ _ _ _=>(cl oy hr (a1 (vs 0))))))))) (rt xH) zk) (rt (xX xw vD zI (xD (kr rfl) Kv KR (by exact rfl) V.b.sum PyProof.Rows.boot_sum (a1 (cm1 ["block"] S.nofree (zN (vs 0)) (fun _ _ _ _=>(cl oo hr (a1 (vs 0))))))) (yS V.g.MOST_NOTES) (zw _)))))
def qN:Tn->R Fl:=(zi (sIf (yJ (zh (eL w6 (zb (za 0) ze)))) z60 zo) (zm (eC (.bl true))))
def yI:List D->R D:=zC 1 qN
def ZJ (Df:DefIn K mg "need_blocks" (top 37) ["blocks"])(V:En K mg)(o0i:Own P w K mg base "are_blocks" 10 ["thing"] (spM K w6 1)):Own P w K mg base "need_blocks" 11 ["blocks"] (spM K yI 1):=
 miD ["blocks"] Df fun S _ _ _ _ _ _ _ hr=>(zf (zx (yg (yy (cl o0i hr (a1 (vs 0))))) (zp z4W) zk) (rt xH))
def XO:Tn->R Fl:=(zi (zu 1 (eL (fun ds=>.ok (.lst ds)) ze)) (zi (zu 2 (eC (.bl false))) (zi (wG (iL Yn (zb (eSm xO (za 0) (zb (eC (.str "\n")) ze)) ze)) (.many [3,4]) (zi (zu 5 (eSm uj (za 4) (zb (eC (.str " ")) ze))) (zi (sIf (u5 (zh (zc (eqR true) (za 5) (eC (.str "")))) (yJ (zh (za 2)))) (vq 1 (eL (fun ds=>.ok (.tup ds)) (zb (uT (za 3)) (zb (eL (fun ds=>.ok (.lst ds)) ze) ze)))) zo) (zi (zu 2 (zc (eqR true) (za 5) (eC (.str "")))) (sIf (zh (za 2)) (ZL 1 5) zo))))) (zm (za 1)))))
def xP:List D->R D:=zC 6 XO
def UQ (Df:DefIn K mg "runs_of" (top 39) ["text"])(V:En K mg) :Own P w K mg base "runs_of" 1 ["text"] (spM K xP 1):=
 miD ["text","runs","within","number","row","bare"] Df fun S _ _ _ _ _ _ _ hr=>(sa 1 S.nd (zM xo) (sa 2 S.nd xH (zf (yN (Γ2:=[.shr,.own,.own,.shr,.shr,.own]) PassesOwn.leaving rfl (V3 rfl V.b.enumerate (a1 (zL jQ1 jQ4 jQ5 xQ vJ vL (vs 0) (a1 zg)))) (by decide) (ub rfl (yC (pgn 3 S.nd) (yC (pgn 4 S.nd) uD))) (by decide) (sa 5 S.nd (zL jQ1 jQ9 jXa jY WR W7 (vs 4) (a1 zg)) (zf (zx (MW.mt (vt (zD (y8 hr.u12) xV we (vo 5) zg (zw _)) (wo (yg (yy (vo 2)))))) (zp (app 1 (zA (w8 (zl (uA (vs 3)) (a1 (zM xo))))))) zk) (sa 2 S.nd (xX (y8 hr.u12) xV we (vo 5) zg (zw _)) (zp (zx (yy (vo 2)) (zp (z63 1 5)) zk))))) rfl) (zp (ui (mvn 1))))))
def Yw:Tn->R Fl:=(zm (eL zV (zb (zS [none] (yo (eSm xO (za 0) (zb (eC (.str " ")) ze))) (.one 0) (zh (zc (eqR true) (za 0) (eC (.str "")))) (za 0)) ze)))
def yG:List D->R D:=zC 1 Yw
def U8 (Df:DefIn K mg "words_of" (top 40) ["row"])(V:En K mg) :Own P w K mg base "words_of" 1 ["row"] (spM K yG 1):=
 miD ["row"] Df fun S _ _ _ _ _ _ _ hr=>(rt (zU zZ xB xF (by exact rfl) V.b.tuple Boot.«tuple» (a1 (qG (N':=["word"]) (fr:=[none]) rfl (wz S.nofree (by decide +kernel)) (zN (zL jQ1 jQ4 jQ5 xQ vJ vL (vs 0) (a1 zg))) (fun _ _ _ _=>(ym (pgn 0 (show List.Nodup (["word"]:List Str) from by decide +kernel)))) (fun _ _ _ _=>(Wx (zD (y8 hr.u12) xV we (vs 0) zg (zw _)))) (fun _ _ _ _=>(vs 0)) (by decide) (by decide)))))
def qj:Tn->R Fl:=(zm (uq (zc gtD (eL ya (zb (za 0) ze)) (eC (.int 1))) (uq (eSm yD (za 0) (zb (eC (.str "|")) ze)) (eSm vg (za 0) (zb (eC (.str "|")) ze)))))
def xi:List D->R D:=zC 1 qj
def Zm (Df:DefIn K mg "is_table_row" (top 41) ["row"])(V:En K mg) :Own P w K mg base "is_table_row" 1 ["row"] (spM K xi 1):=
 miD ["row"] Df fun S _ _ _ _ _ _ _ hr=>(rt (uW (xX Zd Vk zI (ln V.b (a1 (vs 0))) z9 (zw _)) (uW (zL jQ1 jXh jXi uQ jl jD (vs 0) (a1 zg)) (kj (zL jQ1 PySem.F.slot_str_endswith PySem.F.type_str_endswith XU Q1 Us (vs 0) (a1 zg))))))
def Yt:Tn->R Fl:=(zm (eL zV (zb (zS [none] (yo (eSm xO (eSl (za 0) (zX (eC (.int 1))) (zX (eUn uJ (eC (.int 1))))) (zb (eC (.str "|")) ze))) (.one 0) (fun _=>.ok true) (eL yG (zb (za 0) ze))) ze)))
def vv:List D->R D:=zC 1 Yt
def Ub (Df:DefIn K mg "cells_of" (top 42) ["row"])(V:En K mg)(og:Own P w K mg base "words_of" 1 ["row"] (spM K yG 1)):Own P w K mg base "cells_of" 2 ["row"] (spM K vv 1):=
 miD ["row"] Df fun S _ _ _ _ _ _ _ hr=>(rt (zU zZ xB xF (by exact rfl) V.b.tuple Boot.«tuple» (a1 (cm1 ["cell"] S.nofree (zN (zL jQ1 jQ4 jQ5 xQ vJ vL (yK (vs 0) (zE z9) (zE (xT z9))) (a1 zg))) (fun _ _ _ _=>(cl og hr (a1 (vs 0))))))))
def KW:Tn->R Bool:=(u5 (zh (zc ltD (za 2) (eL ya (zb (za 0) ze)))) (zh (zc Z4 (zc ixD (za 0) (za 2)) (eC (.str " {")))))
def Qd:Tn->R Fl:=(zi (zu 2 (za 1)) (zi (yi KW (qV 2 v5 (eC (.int 1)))) (zm (uT (za 2)))))
def vh:List D->R D:=zC 3 Qd
def VC (Df:DefIn K mg "word_end" (top 43) ["line","begin"])(V:En K mg) :Own P w K mg base "word_end" 1 ["line","begin"] (spM K vh 2):=
 miD ["line","begin","end"] Df fun S _ _ _ _ _ _ _ hr=>(zf (stS 2 S.nd (vs 1)) (zf (qw (Γ2:=[.shr,.shr,.own]) PassesOwn.leaving (MW.mt (vt (zD wQ uS zI (vs 2) (ln V.b (a1 (vs 0))) (zw _)) (wo (zD Jj z1o z1s (ix hr (vs 0) (vs 2)) zg (by exact rfl))))) (zp (aug 2 .shr S.nd Wr V1 Y8 z9)) rfl) (rt (uA (vs 2)))))
def KB:Tn->R Bool:=(u5 (zh (zc ltD (za 2) (eL ya (zb (za 0) ze)))) (zh (zc (eqR false) (zc ixD (za 0) (za 2)) (eC (.str " ")))))
def WX:Tn->R Fl:=(zi (zu 2 (za 1)) (zi (yi KB (qV 2 v5 (eC (.int 1)))) (zm (uT (za 2)))))
def wd:List D->R D:=zC 3 WX
def Xa (Df:DefIn K mg "blanks_end" (top 44) ["line","begin"])(V:En K mg) :Own P w K mg base "blanks_end" 1 ["line","begin"] (spM K wd 2):=
 miD ["line","begin","end"] Df fun S _ _ _ _ _ _ _ hr=>(zf (stS 2 S.nd (vs 1)) (zf (qw (Γ2:=[.shr,.shr,.own]) PassesOwn.leaving (MW.mt (vt (zD wQ uS zI (vs 2) (ln V.b (a1 (vs 0))) (zw _)) (wo (te hr (ix hr (vs 0) (vs 2)) zg)))) (zp (aug 2 .shr S.nd Wr V1 Y8 z9)) rfl) (rt (uA (vs 2)))))
def YE:Tn->R Fl:=(zi (zu 1 (eL (fun ds=>.ok (.lst ds)) ze)) (zi (zu 2 (eC (.int 0))) (zi (yi (zh (zc ltD (za 2) (eL ya (zb (za 0) ze)))) (zi (zu 3 (eL vh (zb (za 0) (zb (za 2) ze)))) (zi (zu 4 (eSl (za 0) (zX (za 2)) (zX (za 3)))) (zi (zu 5 (eL (fun ds=>.ok (.lst ds)) ze)) (zi (yi (u5 (zh (zc ltD (za 3) (eL ya (zb (za 0) ze)))) (zh (zc (eqR false) (zc ixD (za 0) (za 3)) (eC (.str "{"))))) (zi (zu 6 (eSm qe (za 0) (zb (eC (.str "}")) (zb (za 3) ze)))) (zi (sIf (zh (zc ltD (za 6) (eC (.int 0)))) (zm (eC .non)) zo) (zi (vq 5 (eL yG (zb (eSl (za 0) (zX (zc zB (za 3) (eC (.int 1)))) (zX (za 6))) ze))) (zu 3 (zc zB (za 6) (eC (.int 1)))))))) (zi (sIf (u5 (zh (zc ltD (za 3) (eL ya (zb (za 0) ze)))) (zh (zc (eqR true) (zc ixD (za 0) (za 3)) (eC (.str " "))))) (zm (eC .non)) zo) (zi (vq 1 (uT (eL (fun ds=>.ok (.tup ds)) (zb (za 4) (zb (eL zV (zb (za 5) ze)) ze))))) (zu 2 (eL wd (zb (za 0) (zb (za 3) ze))))))))))) (zm (eL zV (zb (za 1) ze))))))
def vk:List D->R D:=zC 7 YE
def VQ (Df:DefIn K mg "pairs_of" (top 45) ["line"])(V:En K mg)(o2h:Own P w K mg base "word_end" 1 ["line","begin"] (spM K vh 2))(o0j:Own P w K mg base "blanks_end" 1 ["line","begin"] (spM K wd 2))(og:Own P w K mg base "words_of" 1 ["row"] (spM K yG 1)):Own P w K mg base "pairs_of" 2 ["line"] (spM K vk 1):=
 miD ["line","pairs","begin","end","word","notes","close"] Df fun S _ _ _ _ _ _ _ hr=>(sa 1 S.nd (zM xo) (sa 2 S.nd z9 (zf (qw (Γ2:=[.shr,.own,.own,.own,.own,.own,.dead]) PassesOwn.leaving (zD wQ uS zI (vo 2) (ln V.b (a1 (vs 0))) (zw _)) (sa 3 S.nd (cl o2h hr (zl (vs 0) (a1 (vo 2)))) (sa 4 S.nd (yK (vs 0) (zE (vo 2)) (zE (vo 3))) (sa 5 S.nd (zM xo) (zf (qw (Γ2:=[.shr,.own,.own,.own,.own,.own,.own]) PassesOwn.leaving (MW.mt (vt (zD wQ uS zI (vo 3) (ln V.b (a1 (vs 0))) (zw _)) (wo (te hr (ix hr (vs 0) (vo 3)) zg)))) (sa 6 S.nd (zL jQ1 jXb jXc z0L z2r z37 (vs 0) (zl zg (a1 (vo 3)))) (zf (zx (zD wQ uS zI (vo 6) z9 (zw _)) (rt UL) zk) (zf (app 5 (zA (cl og hr (a1 (yK (vs 0) (zE (ad (vo 3) z9)) (zE (vo 6))))))) (zp (L2.st 3 S.nd (zA (ad (vo 6) z9))))))) rfl) (zf (zx (MW.mt (vt (zD wQ uS zI (vo 3) (ln V.b (a1 (vs 0))) (zw _)) (wo (zD (y8 hr.u12) xV we (ix hr (vs 0) (vo 3)) zg (zw _))))) (rt UL) zk) (zf (app 1 (zA (uA (w8 (zl (vo 4) (a1 (zU zZ xB xF (by exact rfl) V.b.tuple Boot.«tuple» (a1 (vo 5))))))))) (zp (L2.st 2 S.nd (zA (cl o0j hr (zl (vs 0) (a1 (vo 3))))))))))))) rfl) (rt (zU zZ xB xF (by exact rfl) V.b.tuple Boot.«tuple» (a1 (vo 1)))))))
def Yi:Tn->R Fl:=(zi (sIf (zh (zc (eqR false) (za 0) (eL (fun ds=>.ok (.lst ds)) (zb (eC (.str "~")) ze)))) (zm (eL (fun ds=>.ok (.tup ds)) (zb (eC (.str "leaf")) ze))) zo) (zi (sIf (u5 (zh (zc (eqR false) (eL ya (zb (za 0) ze)) (eC (.int 1)))) (zh (eSm yD (zc ixD (za 0) (eC (.int 0))) (zb (eC (.str "= ")) ze)))) (zm (eL (fun ds=>.ok (.tup ds)) (zb (eC (.str "head")) (zb (eL yG (zb (eSl (zc ixD (za 0) (eC (.int 0))) (zX (eC (.int 1))) xm) ze)) ze)))) zo) (zi (sIf (zh (eL uE (zb (zS [none] (yo (za 0)) (.one 0) (fun _=>.ok true) (eL xi (zb (za 0) ze))) ze))) (zm (eL (fun ds=>.ok (.tup ds)) (zb (eC (.str "table")) (zb (eL zV (zb (zS [none] (yo (za 0)) (.one 0) (fun _=>.ok true) (eL vv (zb (za 0) ze))) ze)) ze)))) zo) (zm (eL (fun ds=>.ok (.tup ds)) (zb (eC (.str "text")) (zb (eL vk (zb (eSm yb (eC (.str " ")) (zb (za 0) ze)) ze)) ze)))))))
def wI:List D->R D:=zC 1 Yi
def Uc (Df:DefIn K mg "block_of" (top 46) ["rows"])(V:En K mg)(o2i:Own P w K mg base "pairs_of" 2 ["line"] (spM K vk 1))(og:Own P w K mg base "words_of" 1 ["row"] (spM K yG 1))(o0c:Own P w K mg base "is_table_row" 1 ["row"] (spM K xi 1))(o2j:Own P w K mg base "cells_of" 2 ["row"] (spM K vv 1)):Own P w K mg base "block_of" 3 ["rows"] (spM K wI 1):=
 miD ["rows"] Df fun S _ _ _ _ _ _ _ hr=>(zf (zx (te hr (vs 0) (zM (a1 zg))) (rt (w8 (a1 zg))) zk) (zf (zx (MW.mt (vt (te hr (ln V.b (a1 (vs 0))) z9) (wo (yy (zL jQ1 jXh jXi uQ jl jD (ix hr (vs 0) z9) (a1 zg)))))) (rt (w8 (zl zg (a1 (cl og hr (a1 (yK (ix hr (vs 0) z9) (zE z9) ye))))))) zk) (zf (zx (yy (xD (yU (by exact rfl)) qO qL (by exact rfl) V.b.all Boot.«all» (a1 (cm1 ["row"] S.nofree (zN (vs 0)) (fun _ _ _ _=>(cl o0c hr (a1 (vs 0)))))))) (rt (w8 (zl zg (a1 (zU zZ xB xF (by exact rfl) V.b.tuple Boot.«tuple» (a1 (cm1 ["row"] S.nofree (zN (vs 0)) (fun _ _ _ _=>(cl o2j hr (a1 (vs 0))))))))))) zk) (rt (w8 (zl zg (a1 (cl o2i hr (a1 (zL jQ1 jQ2 jQ3 zF y6 y0 zg (a1 (vs 0))))))))))))
def z0l:Tn->R Fl:=(zi (sIf (yJ (zh (eUn (wq "str") (za 0)))) (v7 "BadText" "no block that can be read begins at row " (zb (eC (.int 0)) ze)) zo) (zi (zu 1 (eL (fun ds=>.ok (.lst ds)) ze)) (zi (zu 2 (eC (.int 0))) (zi (wG (yo (eL xP (zb (za 0) ze))) (.many [3,4]) (zi (zu 5 (eL wI (zb (za 4) ze))) (zi (sIf (bOr (yJ (zh (eL zT (zb (za 5) ze)))) (zh (zc (eqR false) (eL ya (zb (za 1) ze)) (eC (.int 40))))) (v7 "BadText" "no block that can be read begins at row " (zb (za 3) ze)) zo) (zi (qV 2 v5 (eL yB (zb (za 5) ze))) (zi (sIf (zh (zc gtD (za 2) (eC (.int 60)))) (v7 "BadText" "no block that can be read begins at row " (zb (za 3) ze)) zo) (vq 1 (uT (za 5)))))))) (zm (za 1))))))
def wc:List D->R D:=zC 6 z0l
def z26 (Df:DefIn K mg "read" (top 47) ["text"])(V:En K mg)(Rw:RowI P w K mg base "BadText" CB 1 "no block that can be read begins at row ")(o3f:Own P w K mg base "runs_of" 1 ["text"] (spM K xP 1))(o3a:Own P w K mg base "block_of" 3 ["rows"] (spM K wI 1))(oo:Own P w K mg base "many_notes" 1 ["block"] (spM K yB 1))(oy:Own P w K mg base "is_block" 9 ["thing"] (spM K zT 1)):Own P w K mg base "read" 10 ["text"] (spM K wc 1):=
 miD ["text","blocks","notes","number","rows","block"] Df fun S _ _ _ _ _ _ _ hr=>(zf (zx (yg (yy (wX (T:="str") (by decide) rfl V.b.isinstance (yR (v:=.ty "str") rfl V.b.str Boot.«str» rfl) (vs 0)))) (zp (uU (Rw.mono (by decide)) hr rfl (a1 z9))) zk) (sa 1 S.nd (zM xo) (sa 2 S.nd z9 (zf (yN (Γ2:=[.shr,.own,.own,.shr,.shr,.own]) PassesOwn.leaving rfl (zN (cl o3f hr (a1 (vs 0)))) (by decide) (ub rfl (yC (pgn 3 S.nd) (yC (pgn 4 S.nd) uD))) (by decide) (sa 5 S.nd (cl o3a hr (a1 (vs 4))) (zf (zx (MW.mt (x9 (yg (yy (cl oy hr (a1 (vo 5))))) (yY (te hr (ln V.b (a1 (vo 1))) (yS V.g.MOST_BLOCKS))))) (zp (uU (Rw.mono (by decide)) hr rfl (a1 (vs 3)))) zk) (zf (aug 2 .own S.nd Wr V1 Y8 (cl oo hr (a1 (vo 5)))) (zf (zx (zD Zd Vk zI (vo 2) (yS V.g.MOST_NOTES) (zw _)) (zp (uU (Rw.mono (by decide)) hr rfl (a1 (vs 3)))) zk) (zp (app 1 (zA (uA (vo 5))))))))) rfl) (zp (ui (mvn 1)))))))
def kK:Tn->R Fl:=(zm (zc zB (zc zB (eC (.str "{")) (eSm yb (eC (.str " ")) (zb (za 0) ze))) (eC (.str "}"))))
def wK:List D->R D:=zC 1 kK
def Wv (Df:DefIn K mg "note_text" (top 49) ["note"])(V:En K mg) :Own P w K mg base "note_text" 1 ["note"] (spM K wK 1):=
 miD ["note"] Df fun S _ _ _ _ _ _ _ hr=>(rt (ad (ad zg (zL jQ1 jQ2 jQ3 zF y6 y0 zg (a1 (vs 0)))) zg))
def Z6:Tn->R Fl:=(zm (zc zB (za 0) (eSm yb (eC (.str "")) (zb (zS [none] (yo (za 1)) (.one 0) (fun _=>.ok true) (eL wK (zb (za 0) ze))) ze))))
def wM:List D->R D:=zC 2 Z6
def V4 (Df:DefIn K mg "pair_text" (top 50) ["word","notes"])(V:En K mg)(o2b:Own P w K mg base "note_text" 1 ["note"] (spM K wK 1)):Own P w K mg base "pair_text" 2 ["word","notes"] (spM K wM 2):=
 miD ["word","notes"] Df fun S _ _ _ _ _ _ _ hr=>(rt (ad (vs 0) (zL jQ1 jQ2 jQ3 zF y6 y0 zg (a1 (cm1 ["note"] S.nofree (zN (vs 1)) (fun _ _ _ _=>(cl o2b hr (a1 (vs 0)))))))))
def ZO:Tn->R Fl:=(zm (zc zB (zc zB (eC (.str "| ")) (eSm yb (eC (.str " | ")) (zb (zS [none] (yo (za 0)) (.one 0) (fun _=>.ok true) (eSm yb (eC (.str " ")) (zb (za 0) ze))) ze))) (eC (.str " |"))))
def vz:List D->R D:=zC 1 ZO
def VU (Df:DefIn K mg "row_text" (top 51) ["row"])(V:En K mg) :Own P w K mg base "row_text" 1 ["row"] (spM K vz 1):=
 miD ["row"] Df fun S _ _ _ _ _ _ _ hr=>(rt (ad (ad zg (zL jQ1 jQ2 jQ3 zF y6 y0 zg (a1 (cm1 ["cell"] S.nofree (zN (vs 0)) (fun _ _ _ _=>(zL jQ1 jQ2 jQ3 zF y6 y0 zg (a1 (vs 0)))))))) zg))
def jw:Tn->R Fl:=(zi (sIf (zh (zc (eqR false) (zc ixD (za 0) (eC (.int 0))) (eC (.str "head")))) (zm (zc zB (eC (.str "= ")) (eSm yb (eC (.str " ")) (zb (zc ixD (za 0) (eC (.int 1))) ze)))) zo) (zi (sIf (zh (zc (eqR false) (zc ixD (za 0) (eC (.int 0))) (eC (.str "text")))) (zm (eSm yb (eC (.str " ")) (zb (zS [none,none] (yo (zc ixD (za 0) (eC (.int 1)))) (.many [0,1]) (fun _=>.ok true) (eL wM (zb (za 0) (zb (za 1) ze)))) ze))) zo) (zi (sIf (zh (zc (eqR false) (zc ixD (za 0) (eC (.int 0))) (eC (.str "table")))) (zm (eSm yb (eC (.str "\n")) (zb (zS [none] (yo (zc ixD (za 0) (eC (.int 1)))) (.one 0) (fun _=>.ok true) (eL vz (zb (za 0) ze))) ze))) zo) (zm (eC (.str "~"))))))
def wa:List D->R D:=zC 1 jw
def YU (Df:DefIn K mg "block_text" (top 52) ["block"])(V:En K mg)(o2c:Own P w K mg base "pair_text" 2 ["word","notes"] (spM K wM 2))(o3b:Own P w K mg base "row_text" 1 ["row"] (spM K vz 1)):Own P w K mg base "block_text" 3 ["block"] (spM K wa 1):=
 miD ["block"] Df fun S _ _ _ _ _ _ _ hr=>(zf (zx (te hr (ix hr (vs 0) z9) zg) (rt (ad zg (zL jQ1 jQ2 jQ3 zF y6 y0 zg (a1 (ix hr (vs 0) z9))))) zk) (zf (zx (te hr (ix hr (vs 0) z9) zg) (rt (zL jQ1 jQ2 jQ3 zF y6 y0 zg (a1 (qG (N':=["word","notes"]) (fr:=[none,none]) rfl (wz S.nofree (by decide +kernel)) (zN (ix hr (vs 0) z9)) (fun _ _ _ _=>(ub rfl (yC (pgn 0 (show List.Nodup (["word","notes"]:List Str) from by decide +kernel)) (yC (pgn 1 (show List.Nodup (["word","notes"]:List Str) from by decide +kernel)) uD)))) (fun _ _ _ _=>v9) (fun _ _ _ _=>(cl o2c hr (zl (vs 0) (a1 (vs 1))))) (by decide) (by decide))))) zk) (zf (zx (te hr (ix hr (vs 0) z9) zg) (rt (zL jQ1 jQ2 jQ3 zF y6 y0 zg (a1 (cm1 ["row"] S.nofree (zN (ix hr (vs 0) z9)) (fun _ _ _ _=>(cl o3b hr (a1 (vs 0)))))))) zk) (rt zg))))
def Xq:Tn->R Fl:=(zi (Jh (eL yI (zb (za 0) ze))) (zm (eSm yb (eC (.str "\n\n")) (zb (zS [none] (yo (za 0)) (.one 0) (fun _=>.ok true) (eL wa (zb (za 0) ze))) ze))))
def u6:List D->R D:=zC 1 Xq
def UP (Df:DefIn K mg "written" (top 53) ["blocks"])(V:En K mg)(oh:Own P w K mg base "need_blocks" 11 ["blocks"] (spM K yI 1))(o1a:Own P w K mg base "block_text" 3 ["block"] (spM K wa 1)):Own P w K mg base "written" 12 ["blocks"] (spM K u6 1):=
 miD ["blocks"] Df fun S _ _ _ _ _ _ _ hr=>(zf (z2q (cl oh hr (a1 (vs 0)))) (rt (zL jQ1 jQ2 jQ3 zF y6 y0 zg (a1 (cm1 ["block"] S.nofree (zN (vs 0)) (fun _ _ _ _=>(cl o1a hr (a1 (vs 0)))))))))
def qJ:Tn->R Fl:=(zi (zu 2 (eC (.int 0))) (zi (sIf (zh (zc ltD (za 1) (eL ya (zb (za 0) ze)))) (zu 2 (zc ixD (za 0) (za 1))) zo) (zm (zc yj (zc vC (zc zB (zc zB (za 2) (zc vC (eC (.int 7919)) (za 1))) (eC (.int 17))) (eC (.int 48271))) (eC (.int 2147483647))))))
def zJ:List D->R D:=zC 3 qJ
def Yx (Df:DefIn K mg "_law_number" (top 55) ["_law_script","_law_k"])(V:En K mg) :Own P w K mg base "_law_number" 1 ["_law_script","_law_k"] (spM K zJ 2):=
 miD ["_law_script","_law_k","_law_base"] Df fun S _ _ _ _ _ _ _ hr=>(sa 2 S.nd z9 (zf (zx (zD wQ uS zI (vs 1) (ln V.b (a1 (vs 0))) (zw _)) (zp (stS 2 S.nd (ix hr (vs 0) (vs 1)))) (jS (Γ':=[.shr,.shr,.shr]) zk rfl)) (rt (md (ml (ad (ad (vs 2) (ml z9 (vs 1))) z9) z9) z9))))
def Z3:Tn->R Fl:=(zm (zc yj (zc zB (zc vC (za 0) (eC (.int 69621))) (eC (.int 11))) (eC (.int 2147483629))))
def yh:List D->R D:=zC 1 Z3
def WS (Df:DefIn K mg "_law_next" (top 56) ["_law_number_here"])(V:En K mg) :Own P w K mg base "_law_next" 1 ["_law_number_here"] (spM K yh 1):=
 miD ["_law_number_here"] Df fun S _ _ _ _ _ _ _ hr=>(rt (md (ad (ml (vs 0) z9) z9) z9))
def Zg:Tn->R Fl:=(zi (zu 1 (eC (.str "abcdefghijklmnopqrstuvwxyzABCDEFGHIJKLMNOPQRSTUVWXYZ0123456789.,;:!?'\"()-/"))) (zi (zu 2 (zc zB (eC (.int 1)) (zc yj (za 0) (eC (.int 5))))) (zi (sIf (zh (zc (eqR false) (zc yj (zc y9 (za 0) (eC (.int 5))) (eC (.int 24))) (eC (.int 1)))) (zu 2 (zc zB (eC (.int 1)) (zc yj (zc y9 (za 0) (eC (.int 120))) (eC (.int 40))))) zo) (zi (zu 3 (eC (.str ""))) (zi (wG (iL j5 (zb (za 2) ze)) (.one 4) (zi (zu 5 (zc zB (zc zB (zc y9 (za 0) (eC (.int 31))) (zc vC (zc vC (za 4) (za 4)) (zc zB (eC (.int 1)) (zc yj (za 0) (eC (.int 17)))))) (za 4))) (zu 3 (zc zB (za 3) (zc ixD (za 1) (zc yj (za 5) (eC (.int 74)))))))) (zm (za 3)))))))
def xq:List D->R D:=zC 6 Zg
def Wn (Df:DefIn K mg "_law_word" (top 57) ["_law_number_here"])(V:En K mg) :Own P w K mg base "_law_word" 1 ["_law_number_here"] (spM K xq 1):=
 miD ["_law_number_here","_law_signs","_law_size","_law_found","_law_j","_law_at"] Df fun S _ _ _ _ _ _ _ hr=>(sa 1 S.nd zg (sa 2 S.nd (ad z9 (md (vs 0) z9)) (zf (zx (te hr (md (fd (vs 0) z9) z9) z9) (zp (L2.st 2 S.nd (zA (ad z9 (md (fd (vs 0) z9) z9))))) zk) (sa 3 S.nd zg (zf (yN (Γ2:=[.shr,.own,.own,.own,.shr,.own]) PassesOwn.leaving rfl (yP rfl V.b.range (a1 (vo 2))) (by decide) (ym (pgn 4 S.nd)) (by decide) (sa 5 S.nd (ad (ad (fd (vs 0) z9) (ml (ml (vs 4) (vs 4)) (ad z9 (md (vs 0) z9)))) (vs 4)) (zp (L2.st 3 S.nd (zA (ad (vo 3) (ix hr (vo 1) (md (vo 5) z9))))))) rfl) (zp (ui (mvn 3))))))))
def jk:Tn->R Fl:=(zi (zu 3 (zc zB (za 1) (zc yj (za 0) (eC (.int 3))))) (zi (sIf (zh (zc (eqR false) (zc yj (zc y9 (za 0) (eC (.int 3))) (eC (.int 20))) (eC (.int 1)))) (zu 3 (za 2)) zo) (zi (zu 4 (eL (fun ds=>.ok (.lst ds)) ze)) (zi (wG (iL j5 (zb (eL Xp (zb (za 2) (zb (za 3) ze))) ze)) (.one 5) (zi (zu 0 (eL yh (zb (za 0) ze))) (vq 4 (eL xq (zb (zc y9 (za 0) (eC (.int 3))) ze))))) (zm (eL zV (zb (za 4) ze)))))))
def yq:List D->R D:=zC 6 jk
def X5 (Df:DefIn K mg "_law_words" (top 58) ["_law_number_here","_law_least","_law_most"])(V:En K mg)(o7:Own P w K mg base "_law_next" 1 ["_law_number_here"] (spM K yh 1))(ou:Own P w K mg base "_law_word" 1 ["_law_number_here"] (spM K xq 1)):Own P w K mg base "_law_words" 2 ["_law_number_here","_law_least","_law_most"] (spM K yq 3):=
 miD ["_law_number_here","_law_least","_law_most","_law_many","_law_words_here","_law_j"] Df fun S _ _ _ _ _ _ _ hr=>(sa 3 S.nd (ad (vs 1) (md (vs 0) z9)) (zf (zx (te hr (md (fd (vs 0) z9) z9) z9) (zp (stS 3 S.nd (vs 2))) (jS (Γ':=[.shr,.shr,.shr,.shr,.dead,.dead]) zk rfl)) (sa 4 S.nd (zM xo) (zf (yN (Γ2:=[.own,.shr,.shr,.shr,.own,.shr]) PassesOwn.leaving rfl (yP rfl V.b.range (a1 (xD (JJ (by exact rfl)) z5q z50 (by exact rfl) V.b.min PyProof.Rows.boot_min (zl (vs 2) (a1 (vs 3)))))) (by decide) (ym (pgn 5 S.nd)) (by decide) (sa 0 S.nd (cl o7 hr (a1 (vs 0))) (zp (app 4 (zA (cl ou hr (a1 (fd (vo 0) z9))))))) rfl) (rt (zU zZ xB xF (by exact rfl) V.b.tuple Boot.«tuple» (a1 (vo 4))))))))
def ju:Tn->R Fl:=(zi (zu 2 (zc zB (eC (.int 1)) (zc yj (za 0) (eC (.int 6))))) (zi (sIf (zh (zc (eqR false) (zc yj (zc y9 (za 0) (eC (.int 6))) (eC (.int 60))) (eC (.int 1)))) (zu 2 (eC (.int 200))) zo) (zi (zu 3 (eL (fun ds=>.ok (.lst ds)) ze)) (zi (wG (iL j5 (zb (za 2) ze)) (.one 4) (zi (zu 0 (eL yh (zb (za 0) ze))) (zi (zu 5 (eL (fun ds=>.ok (.lst ds)) ze)) (zi (wG (iL j5 (zb (zc ixD (eL (fun ds=>.ok (.lst ds)) (zb (eC (.int 0)) (zb (eC (.int 0)) (zb (eC (.int 0)) (zb (eC (.int 1)) (zb (eC (.int 1)) (zb (eC (.int 2)) (zb (eC (.int 3)) ze)))))))) (zc yj (zc y9 (za 0) (eC (.int 7))) (eC (.int 7)))) ze)) (.one 6) (sIf (u5 (zh (zc gtD (za 1) (eC (.int 0)))) (zh (zc ltD (za 2) (eC (.int 200))))) (zi (zu 1 (zc Zn (za 1) (eC (.int 1)))) (vq 5 (eL yq (zb (zc y9 (za 0) (zc zB (eC (.int 49)) (za 6))) (zb (eC (.int 1)) (zb (eC (.int 30)) ze)))))) zo)) (vq 3 (eL (fun ds=>.ok (.tup ds)) (zb (eL xq (zb (zc yj (zc y9 (za 0) (eC (.int 5))) (zc Zn (eC (.int 1000003)) (zc vC (eC (.int 999000)) (zc y9 (za 2) (eC (.int 200)))))) ze)) (zb (eL zV (zb (za 5) ze)) ze)))))))) (zm (eL zV (zb (za 3) ze)))))))
def xW:List D->R D:=zC 7 ju
def X1 (Df:DefIn K mg "_law_pairs" (top 59) ["_law_number_here","_law_room"])(V:En K mg)(o7:Own P w K mg base "_law_next" 1 ["_law_number_here"] (spM K yh 1))(ou:Own P w K mg base "_law_word" 1 ["_law_number_here"] (spM K xq 1))(o8:Own P w K mg base "_law_words" 2 ["_law_number_here","_law_least","_law_most"] (spM K yq 3)):Own P w K mg base "_law_pairs" 3 ["_law_number_here","_law_room"] (spM K xW 2):=
 miD ["_law_number_here","_law_room","_law_many","_law_pairs_here","_law_j","_law_notes_here","_law_k"] Df fun S _ _ _ _ _ _ _ hr=>(sa 2 S.nd (ad z9 (md (vs 0) z9)) (zf (zx (te hr (md (fd (vs 0) z9) z9) z9) (zp (L2.st 2 S.nd (zA z9))) zk) (sa 3 S.nd (zM xo) (zf (yN (Γ2:=[.own,.shr,.own,.own,.shr,.own,.dead]) PassesOwn.leaving rfl (yP rfl V.b.range (a1 (vo 2))) (by decide) (ym (pgn 4 S.nd)) (by decide) (sa 0 S.nd (cl o7 hr (a1 (vs 0))) (sa 5 S.nd (zM xo) (zf (yN (Γ2:=[.own,.shr,.own,.own,.shr,.own,.shr]) PassesOwn.leaving rfl (yP rfl V.b.range (a1 (ix hr (zM (zl z9 (zl z9 (zl z9 (zl z9 (zl z9 (zl z9 (a1 z9)))))))) (md (fd (vo 0) z9) z9)))) (by decide) (ym (pgn 6 S.nd)) (by decide) (zp (zx (MW.mt (vt (zD Zd Vk zI (vs 1) z9 (zw _)) (wo (zD wQ uS zI (vo 2) z9 (zw _))))) (jS (Γ':=[.own,.shr,.own,.own,.shr,.own,.shr]) (sa 1 S.nd (sb (vs 1) z9) (zp (app 5 (zA (cl o8 hr (zl (fd (vo 0) (ad z9 (vs 6))) (zl z9 (a1 z9)))))))) rfl) zk)) rfl) (zp (app 3 (zA (w8 (zl (cl ou hr (a1 (md (fd (vo 0) z9) (sb z9 (ml z9 (fd (vo 2) z9)))))) (a1 (zU zZ xB xF (by exact rfl) V.b.tuple Boot.«tuple» (a1 (vo 5)))))))))))) rfl) (rt (zU zZ xB xF (by exact rfl) V.b.tuple Boot.«tuple» (a1 (vo 3))))))))
def jN:Tn->R Fl:=(zi (zu 1 (zc zB (eC (.int 1)) (zc yj (za 0) (eC (.int 4))))) (zi (zu 2 (zc zB (eC (.int 1)) (zc yj (zc y9 (za 0) (eC (.int 4))) (eC (.int 3))))) (zi (sIf (zh (zc (eqR false) (zc yj (zc y9 (za 0) (eC (.int 12))) (eC (.int 16))) (eC (.int 1)))) (zu 2 (eC (.int 20))) zo) (zi (zu 3 (eL (fun ds=>.ok (.lst ds)) ze)) (zi (wG (iL j5 (zb (za 2) ze)) (.one 4) (zi (zu 5 (eL (fun ds=>.ok (.lst ds)) ze)) (zi (wG (iL j5 (zb (za 1) ze)) (.one 6) (zi (zu 0 (eL yh (zb (za 0) ze))) (vq 5 (eL yq (zb (zc y9 (za 0) (eC (.int 3))) (zb (eC (.int 0)) (zb (eC (.int 12)) ze))))))) (vq 3 (eL zV (zb (za 5) ze)))))) (zm (eL zV (zb (za 3) ze))))))))
def wb:List D->R D:=zC 7 jN
def YZ (Df:DefIn K mg "_law_table" (top 60) ["_law_number_here"])(V:En K mg)(o7:Own P w K mg base "_law_next" 1 ["_law_number_here"] (spM K yh 1))(o8:Own P w K mg base "_law_words" 2 ["_law_number_here","_law_least","_law_most"] (spM K yq 3)):Own P w K mg base "_law_table" 3 ["_law_number_here"] (spM K wb 1):=
 miD ["_law_number_here","_law_many","_law_rows","_law_found","_law_j","_law_row_here","_law_k"] Df fun S _ _ _ _ _ _ _ hr=>(sa 1 S.nd (ad z9 (md (vs 0) z9)) (sa 2 S.nd (ad z9 (md (fd (vs 0) z9) z9)) (zf (zx (te hr (md (fd (vs 0) z9) z9) z9) (zp (L2.st 2 S.nd (zA z9))) zk) (sa 3 S.nd (zM xo) (zf (yN (Γ2:=[.shr,.own,.own,.own,.shr,.own,.dead]) PassesOwn.leaving rfl (yP rfl V.b.range (a1 (vo 2))) (by decide) (ym (pgn 4 S.nd)) (by decide) (sa 5 S.nd (zM xo) (zf (yN (Γ2:=[.own,.own,.own,.own,.shr,.own,.shr]) PassesOwn.leaving rfl (yP rfl V.b.range (a1 (vo 1))) (by decide) (ym (pgn 6 S.nd)) (by decide) (sa 0 S.nd (cl o7 hr (a1 (vs 0))) (zp (app 5 (zA (cl o8 hr (zl (fd (vo 0) z9) (zl z9 (a1 z9)))))))) rfl) (zp (app 3 (zA (zU zZ xB xF (by exact rfl) V.b.tuple Boot.«tuple» (a1 (vo 5)))))))) rfl) (rt (zU zZ xB xF (by exact rfl) V.b.tuple Boot.«tuple» (a1 (vo 3)))))))))
def jQ:Tn->R Fl:=(zi (sIf (zh (zc (eqR false) (zc yj (za 0) (eC (.int 8))) (eC (.int 0)))) (zm (eL (fun ds=>.ok (.tup ds)) (zb (eC (.str "leaf")) ze))) zo) (zi (sIf (zh (zc ltD (zc yj (za 0) (eC (.int 8))) (eC (.int 3)))) (zm (eL (fun ds=>.ok (.tup ds)) (zb (eC (.str "head")) (zb (eL yq (zb (zc y9 (za 0) (eC (.int 8))) (zb (eC (.int 1)) (zb (eC (.int 12)) ze)))) ze)))) zo) (zi (sIf (zh (zc ltD (zc yj (za 0) (eC (.int 8))) (eC (.int 5)))) (zm (eL (fun ds=>.ok (.tup ds)) (zb (eC (.str "table")) (zb (eL wb (zb (zc y9 (za 0) (eC (.int 8))) ze)) ze)))) zo) (zm (eL (fun ds=>.ok (.tup ds)) (zb (eC (.str "text")) (zb (eL xW (zb (zc y9 (za 0) (eC (.int 8))) (zb (za 1) ze))) ze)))))))
def xv:List D->R D:=zC 2 jQ
def X4 (Df:DefIn K mg "_law_block" (top 61) ["_law_number_here","_law_room"])(V:En K mg)(o1b:Own P w K mg base "_law_pairs" 3 ["_law_number_here","_law_room"] (spM K xW 2))(o8:Own P w K mg base "_law_words" 2 ["_law_number_here","_law_least","_law_most"] (spM K yq 3))(o1c:Own P w K mg base "_law_table" 3 ["_law_number_here"] (spM K wb 1)):Own P w K mg base "_law_block" 4 ["_law_number_here","_law_room"] (spM K xv 2):=
 miD ["_law_number_here","_law_room"] Df fun S _ _ _ _ _ _ _ hr=>(zf (zx (te hr (md (vs 0) z9) z9) (rt (w8 (a1 zg))) zk) (zf (zx (zD wQ uS zI (md (vs 0) z9) z9 (zw _)) (rt (w8 (zl zg (a1 (cl o8 hr (zl (fd (vs 0) z9) (zl z9 (a1 z9)))))))) zk) (zf (zx (zD wQ uS zI (md (vs 0) z9) z9 (zw _)) (rt (w8 (zl zg (a1 (cl o1c hr (a1 (fd (vs 0) z9))))))) zk) (rt (w8 (zl zg (a1 (cl o1b hr (zl (fd (vs 0) z9) (a1 (vs 1)))))))))))
def qK:Tn->R Fl:=(zi (zu 2 (eL zJ (zb (za 0) (zb (za 1) ze)))) (zi (zu 3 (zc yj (za 2) (eC (.int 5)))) (zi (sIf (zh (zc (eqR false) (zc yj (zc y9 (za 2) (eC (.int 5))) (eC (.int 40))) (eC (.int 1)))) (zu 3 (eC (.int 40))) zo) (zi (zu 4 (eL (fun ds=>.ok (.lst ds)) ze)) (zi (zu 5 (eC (.int 60))) (zi (wG (iL j5 (zb (za 3) ze)) (.one 6) (zi (zu 2 (zc zB (eL zJ (zb (za 0) (zb (zc zB (zc zB (za 1) (eC (.int 1))) (zc yj (za 6) (eC (.int 6)))) ze))) (zc vC (eC (.int 101)) (zc y9 (za 6) (eC (.int 6)))))) (zi (sIf (u5 (zh (zc (eqR false) (za 3) (eC (.int 40)))) (zh (zc gtD (zc yj (za 2) (eC (.int 8))) (eC (.int 4))))) (zu 2 (zc Zn (za 2) (eC (.int 5)))) zo) (zi (vq 4 (eL xv (zb (za 2) (zb (za 5) ze)))) (sIf (zh (zc (eqR false) (zc ixD (zc ixD (za 4) (eUn uJ (eC (.int 1)))) (eC (.int 0))) (eC (.str "text")))) (zu 5 (zc Zn (za 5) (eL YG (zb (zS [none] (yo (zc ixD (zc ixD (za 4) (eUn uJ (eC (.int 1)))) (eC (.int 1)))) (.one 0) (fun _=>.ok true) (eL ya (zb (zc ixD (za 0) (eC (.int 1))) ze))) ze)))) zo))))) (zm (za 4))))))))
def xC:List D->R D:=zC 7 qK
def Ys (Df:DefIn K mg "_law_blocks" (top 62) ["_law_script","_law_first"])(V:En K mg)(o6:Own P w K mg base "_law_number" 1 ["_law_script","_law_k"] (spM K zJ 2))(o1d:Own P w K mg base "_law_block" 4 ["_law_number_here","_law_room"] (spM K xv 2)):Own P w K mg base "_law_blocks" 5 ["_law_script","_law_first"] (spM K xC 2):=
 miD ["_law_script","_law_first","_law_number_here","_law_many","_law_blocks_here","_law_room","_law_j"] Df fun S _ _ _ _ _ _ _ hr=>(sa 2 S.nd (cl o6 hr (zl (vs 0) (a1 (vs 1)))) (sa 3 S.nd (md (vo 2) z9) (zf (zx (te hr (md (fd (vo 2) z9) z9) z9) (zp (L2.st 3 S.nd (zA z9))) zk) (sa 4 S.nd (zM xo) (sa 5 S.nd z9 (zf (yN (Γ2:=[.shr,.shr,.own,.own,.own,.own,.shr]) PassesOwn.leaving rfl (yP rfl V.b.range (a1 (vo 3))) (by decide) (ym (pgn 6 S.nd)) (by decide) (sa 2 S.nd (ad (cl o6 hr (zl (vs 0) (a1 (ad (ad (vs 1) z9) (md (vs 6) z9))))) (ml z9 (fd (vs 6) z9))) (zf (zx (MW.mt (vt (te hr (vo 3) z9) (wo (zD Zd Vk zI (md (vo 2) z9) z9 (zw _))))) (zp (L2.st 2 S.nd (zA (sb (vo 2) z9)))) zk) (zf (app 4 (zA (cl o1d hr (zl (vo 2) (a1 (vo 5)))))) (zp (zx (te hr (ix hr (ix hr (vo 4) (xT z9)) z9) zg) (zp (L2.st 5 S.nd (zA (sb (vo 5) (xD (kr rfl) Kv KR (by exact rfl) V.b.sum PyProof.Rows.boot_sum (a1 (cm1 ["_law_pair"] S.nofree (zN (ix hr (ix hr (vo 4) (xT z9)) z9)) (fun _ _ _ _=>(ln V.b (a1 (ix hr (mn 0 .brw) z9))))))))))) zk))))) rfl) (zp (ui (mvn 4)))))))))
def qq:Tn->R Fl:=(zi (sIf (zh (zc (eqR false) (zc ixD (za 0) (eC (.int 0))) (eC (.str "leaf")))) (zm (eC (.str "~"))) zo) (zi (sIf (zh (zc (eqR false) (zc ixD (za 0) (eC (.int 0))) (eC (.str "head")))) (zm (zc zB (eC (.str "= ")) (eSm yb (eC (.str " ")) (zb (zc ixD (za 0) (eC (.int 1))) ze)))) zo) (zi (zu 1 (eL (fun ds=>.ok (.lst ds)) ze)) (zi (sIf (zh (zc (eqR false) (zc ixD (za 0) (eC (.int 0))) (eC (.str "table")))) (zi (wG (yo (zc ixD (za 0) (eC (.int 1)))) (.one 2) (vq 1 (zc zB (zc zB (eC (.str "|")) (eSm yb (eC (.str "|")) (zb (zS [none] (yo (za 2)) (.one 0) (fun _=>.ok true) (zc zB (zc zB (eC (.str " ")) (eSm yb (eC (.str " ")) (zb (za 0) ze))) (eC (.str " ")))) ze))) (eC (.str "|"))))) (zm (eSm yb (eC (.str "\n")) (zb (za 1) ze)))) zo) (zi (wG (yo (zc ixD (za 0) (eC (.int 1)))) (.many [3,4]) (vq 1 (zc zB (za 3) (eSm yb (eC (.str "")) (zb (zS [none] (yo (za 4)) (.one 0) (fun _=>.ok true) (zc zB (zc zB (eC (.str "{")) (eSm yb (eC (.str " ")) (zb (za 0) ze))) (eC (.str "}")))) ze))))) (zm (eSm yb (eC (.str " ")) (zb (za 1) ze))))))))
def xl:List D->R D:=zC 5 qq
def Zk (Df:DefIn K mg "_law_text_of" (top 63) ["_law_block_here"])(V:En K mg) :Own P w K mg base "_law_text_of" 1 ["_law_block_here"] (spM K xl 1):=
 miD ["_law_block_here","_law_rows","_law_row_here","_law_word_here","_law_notes_here"] Df fun S _ _ _ _ _ _ _ hr=>(zf (zx (te hr (ix hr (vs 0) z9) zg) (rt zg) zk) (zf (zx (te hr (ix hr (vs 0) z9) zg) (rt (ad zg (zL jQ1 jQ2 jQ3 zF y6 y0 zg (a1 (ix hr (vs 0) z9))))) zk) (sa 1 S.nd (zM xo) (zf (zx (te hr (ix hr (vs 0) z9) zg) (zf (yN (Γ2:=[.shr,.own,.shr,.dead,.dead]) PassesOwn.leaving rfl (zN (ix hr (vs 0) z9)) (by decide) (ym (pgn 2 S.nd)) (by decide) (zp (app 1 (zA (ad (ad zg (zL jQ1 jQ2 jQ3 zF y6 y0 zg (a1 (cm1 ["_law_cell"] S.nofree (zN (vs 2)) (fun _ _ _ _=>(ad (ad zg (zL jQ1 jQ2 jQ3 zF y6 y0 zg (a1 (vs 0)))) zg)))))) zg)))) rfl) (rt (zL jQ1 jQ2 jQ3 zF y6 y0 zg (a1 (vo 1))))) zk) (zf (yN (Γ2:=[.shr,.own,.dead,.shr,.shr]) PassesOwn.leaving rfl (zN (ix hr (vs 0) z9)) (by decide) (ub rfl (yC (pgn 3 S.nd) (yC (pgn 4 S.nd) uD))) (by decide) (zp (app 1 (zA (ad (vs 3) (zL jQ1 jQ2 jQ3 zF y6 y0 zg (a1 (cm1 ["_law_note"] S.nofree (zN (vs 4)) (fun _ _ _ _=>(ad (ad zg (zL jQ1 jQ2 jQ3 zF y6 y0 zg (a1 (vs 0)))) zg))))))))) rfl) (rt (zL jQ1 jQ2 jQ3 zF y6 y0 zg (a1 (vo 1)))))))))
def kZ:Tn->R Fl:=(zi (zu 1 (eC (.str "{}{}||=~ \n \nab-"))) (zi (sIf (zh (zc gtD (zc yj (za 0) (eC (.int 4))) (eC (.int 0)))) (zm (uT (zc ixD (za 1) (zc yj (zc y9 (za 0) (eC (.int 4))) (eC (.int 15)))))) zo) (zi (zu 2 (eC (.str " !\"#$&'()*+,-./0123456789:;<=>?@ABCDEFGHIJKLMNOPQRSTUVWXYZ[\\]^_`abcdefghijklmnopqrstuvwxyz{|}~"))) (zm (uT (zc ixD (za 2) (zc yj (zc y9 (za 0) (eC (.int 4))) (eC (.int 94)))))))))
def wL:List D->R D:=zC 3 kZ
def WN (Df:DefIn K mg "_law_sign" (top 64) ["_law_number_here"])(V:En K mg) :Own P w K mg base "_law_sign" 1 ["_law_number_here"] (spM K wL 1):=
 miD ["_law_number_here","_law_some","_law_most"] Df fun S _ _ _ _ _ _ _ hr=>(sa 1 S.nd zg (zf (zx (zD Zd Vk zI (md (vs 0) z9) z9 (zw _)) (rt (uA (ix hr (vo 1) (md (fd (vs 0) z9) z9)))) zk) (sa 2 S.nd zg (rt (uA (ix hr (vo 2) (md (fd (vs 0) z9) z9)))))))
def qf:Tn->R Fl:=(zi (zu 2 (zc yj (za 1) (eC (.int 9)))) (zi (zu 3 (zc yj (zc y9 (za 1) (eC (.int 9))) (zc zB (eL ya (zb (za 0) ze)) (eC (.int 1))))) (zi (zu 4 (eL wL (zb (eL yh (zb (za 1) ze)) ze))) (zi (sIf (zh (zc ltD (za 2) (eC (.int 2)))) (zm (zc zB (zc zB (eSl (za 0) xm (zX (za 3))) (za 4)) (eSl (za 0) (zX (za 3)) xm))) zo) (zi (sIf (zh (zc ltD (za 2) (eC (.int 4)))) (zm (zc zB (eSl (za 0) xm (zX (za 3))) (eSl (za 0) (zX (zc zB (za 3) (eC (.int 1)))) xm))) zo) (zi (sIf (zh (zc ltD (za 2) (eC (.int 5)))) (zm (zc zB (zc zB (eSl (za 0) xm (zX (za 3))) (za 4)) (eSl (za 0) (zX (zc zB (za 3) (eC (.int 1)))) xm))) zo) (zi (zu 5 (eSm xO (za 0) (zb (eC (.str "\n")) ze))) (zi (zu 6 (zc yj (zc y9 (za 1) (eC (.int 9))) (eL ya (zb (za 5) ze)))) (zi (sIf (zh (zc (eqR false) (za 2) (eC (.int 5)))) (zm (eSm yb (eC (.str "\n")) (zb (zc zB (zc zB (eSl (za 5) xm (zX (za 6))) (eL (fun ds=>.ok (.lst ds)) (zb (zc ixD (za 5) (za 6)) ze))) (eSl (za 5) (zX (za 6)) xm)) ze))) zo) (zi (sIf (zh (zc (eqR false) (za 2) (eC (.int 6)))) (zm (eSm yb (eC (.str "\n")) (zb (zc zB (zc zB (eSl (za 5) (zX (za 6)) (zX (zc zB (za 6) (eC (.int 1))))) (eSl (za 5) xm (zX (za 6)))) (eSl (za 5) (zX (zc zB (za 6) (eC (.int 1)))) xm)) ze))) zo) (zi (JI 5 (zc ixD (eL (fun ds=>.ok (.lst ds)) (zb (eSl (zc ixD (za 5) (za 6)) xm (zX (eUn uJ (eC (.int 1))))) (zb (eSl (zc ixD (za 5) (za 6)) (zX (eC (.int 1))) xm) ze))) (zc Zn (za 2) (eC (.int 7)))) (za 6)) (zm (eSm yb (eC (.str "\n")) (zb (za 5) ze))))))))))))))
def xg:List D->R D:=zC 7 qf
def Zl (Df:DefIn K mg "_law_changed" (top 65) ["_law_text","_law_number_here"])(V:En K mg)(o2d:Own P w K mg base "_law_sign" 1 ["_law_number_here"] (spM K wL 1))(o7:Own P w K mg base "_law_next" 1 ["_law_number_here"] (spM K yh 1)):Own P w K mg base "_law_changed" 2 ["_law_text","_law_number_here"] (spM K xg 2):=
 miD ["_law_text","_law_number_here","_law_way","_law_at","_law_sign_here","_law_rows","_law_place"] Df fun S _ _ _ _ _ _ _ hr=>(sa 2 S.nd (md (vs 1) z9) (sa 3 S.nd (md (fd (vs 1) z9) (ad (ln V.b (a1 (vs 0))) z9)) (sa 4 S.nd (cl o2d hr (a1 (cl o7 hr (a1 (vs 1))))) (zf (zx (zD wQ uS zI (vo 2) z9 (zw _)) (rt (ad (ad (yK (vs 0) ye (zE (vo 3))) (vo 4)) (yK (vs 0) (zE (vo 3)) ye))) zk) (zf (zx (zD wQ uS zI (vo 2) z9 (zw _)) (rt (ad (yK (vs 0) ye (zE (vo 3))) (yK (vs 0) (zE (ad (vo 3) z9)) ye))) zk) (zf (zx (zD wQ uS zI (vo 2) z9 (zw _)) (rt (ad (ad (yK (vs 0) ye (zE (vo 3))) (vo 4)) (yK (vs 0) (zE (ad (vo 3) z9)) ye))) zk) (sa 5 S.nd (zL jQ1 jQ4 jQ5 xQ vJ vL (vs 0) (a1 zg)) (sa 6 S.nd (md (fd (vs 1) z9) (ln V.b (a1 (vo 5)))) (zf (zx (te hr (vo 2) z9) (rt (zL jQ1 jQ2 jQ3 zF y6 y0 zg (a1 (ad (ad (yK (vo 5) ye (zE (vo 6))) (zM (a1 (ix hr (vo 5) (vo 6))))) (yK (vo 5) (zE (vo 6)) ye))))) zk) (zf (zx (te hr (vo 2) z9) (rt (zL jQ1 jQ2 jQ3 zF y6 y0 zg (a1 (ad (ad (yK (vo 5) (zE (vo 6)) (zE (ad (vo 6) z9))) (yK (vo 5) ye (zE (vo 6)))) (yK (vo 5) (zE (ad (vo 6) z9)) ye))))) zk) (zf (put 5 (zA (ix hr (zM (zl (yK (ix hr (vo 5) (vo 6)) ye (zE (xT z9))) (a1 (yK (ix hr (vo 5) (vo 6)) (zE z9) ye)))) (sb (vo 2) z9))) (vo 6)) (rt (zL jQ1 jQ2 jQ3 zF y6 y0 zg (a1 (vo 5)))))))))))))))
def W0:Tn->R Fl:=(zi (sIf (zh (zc (eqR false) (za 0) (eC (.int 0)))) (zm (zc zB (eC (.str "a")) (zc uP (eC (.str "{b}")) (zc zB (eC (.int 3)) (za 1))))) zo) (zi (sIf (zh (zc (eqR false) (za 0) (eC (.int 1)))) (zm (zc zB (zc zB (eC (.str "a{")) (zc uP (eC (.str "b ")) (zc zB (eC (.int 30)) (za 1)))) (eC (.str "}")))) zo) (zi (sIf (zh (zc (eqR false) (za 0) (eC (.int 2)))) (zm (zc zB (eC (.str "=")) (zc uP (eC (.str " a")) (zc zB (eC (.int 12)) (za 1))))) zo) (zi (sIf (zh (zc (eqR false) (za 0) (eC (.int 3)))) (zm (zc zB (zc zB (eC (.str "|")) (zc uP (eC (.str " a")) (zc zB (eC (.int 12)) (za 1)))) (eC (.str "|")))) zo) (zi (sIf (zh (zc (eqR false) (za 0) (eC (.int 4)))) (zm (zc uP (eC (.str "a ")) (zc zB (eC (.int 200)) (za 1)))) zo) (zi (sIf (zh (zc (eqR false) (za 0) (eC (.int 5)))) (zm (zc zB (eC (.str "|")) (zc uP (eC (.str " a |")) (zc zB (eC (.int 4)) (za 1))))) zo) (zi (sIf (zh (zc (eqR false) (za 0) (eC (.int 6)))) (zm (eSm yb (eC (.str "\n")) (zb (zc vC (eL (fun ds=>.ok (.lst ds)) (zb (eC (.str "| a |")) ze)) (zc zB (eC (.int 20)) (za 1))) ze))) zo) (zm (zc uP (eC (.str "a")) (zc zB (eC (.int 40)) (za 1)))))))))))
def xY:List D->R D:=zC 2 W0
def X2 (Df:DefIn K mg "_law_bound" (top 66) ["_law_way","_law_more"])(V:En K mg) :Own P w K mg base "_law_bound" 1 ["_law_way","_law_more"] (spM K xY 2):=
 miD ["_law_way","_law_more"] Df fun S _ _ _ _ _ _ _ hr=>(zf (zx (te hr (vs 0) z9) (rt (ad zg (uI uo qW j3 zg (ad z9 (vs 1))))) zk) (zf (zx (te hr (vs 0) z9) (rt (ad (ad zg (uI uo qW j3 zg (ad z9 (vs 1)))) zg)) zk) (zf (zx (te hr (vs 0) z9) (rt (ad zg (uI uo qW j3 zg (ad z9 (vs 1))))) zk) (zf (zx (te hr (vs 0) z9) (rt (ad (ad zg (uI uo qW j3 zg (ad z9 (vs 1)))) zg)) zk) (zf (zx (te hr (vs 0) z9) (rt (uI uo qW j3 zg (ad z9 (vs 1)))) zk) (zf (zx (te hr (vs 0) z9) (rt (ad zg (uI uo qW j3 zg (ad z9 (vs 1))))) zk) (zf (zx (te hr (vs 0) z9) (rt (zL jQ1 jQ2 jQ3 zF y6 y0 zg (a1 (ml (zM (a1 zg)) (ad z9 (vs 1)))))) zk) (rt (uI uo qW j3 zg (ad z9 (vs 1)))))))))))
def jI:Tn->R Fl:=(zi (zu 1 (eL zJ (zb (za 0) (zb (eC (.int 8)) ze)))) (zi (sIf (zh (zc (eqR false) (zc yj (za 1) (eC (.int 9))) (eC (.int 1)))) (zi (zu 2 (eC (.str ""))) (zi (wG (iL j5 (zb (zc yj (zc y9 (za 1) (eC (.int 9))) (eC (.int 61))) ze)) (.one 3) (zu 2 (zc zB (za 2) (zc ixD (eC (.str "a|{} \n=~B")) (zc yj (zc y9 (eL zJ (zb (za 0) (zb (zc zB (eC (.int 10)) (zc yj (za 3) (eC (.int 20)))) ze))) (zc zB (eC (.int 1)) (za 3))) (eC (.int 9))))))) (zm (za 2)))) zo) (zi (sIf (zh (zc (eqR false) (zc yj (za 1) (eC (.int 9))) (eC (.int 2)))) (zi (zu 4 (zc vC (eL (fun ds=>.ok (.lst ds)) (zb (eC (.str "a{b}")) ze)) (zc zB (eC (.int 58)) (zc yj (zc y9 (za 1) (eC (.int 9))) (eC (.int 5)))))) (zi (zu 5 (zc zB (eC (.int 1)) (zc yj (zc y9 (za 1) (eC (.int 45))) (eC (.int 57))))) (zm (zc zB (zc zB (eSm yb (eC (.str " ")) (zb (eSl (za 4) xm (zX (za 5))) ze)) (eC (.str "\n\n"))) (eSm yb (eC (.str " ")) (zb (eSl (za 4) (zX (za 5)) xm) ze)))))) zo) (zi (sIf (zh (zc (eqR false) (zc yj (za 1) (eC (.int 27))) (eC (.int 3)))) (zm (eSm yb (eC (.str "\n \n")) (zb (zc vC (eL (fun ds=>.ok (.lst ds)) (zb (eC (.str "~")) ze)) (zc zB (eC (.int 38)) (zc yj (zc y9 (za 1) (eC (.int 27))) (eC (.int 5))))) ze))) zo) (zi (sIf (zh (zc (eqR false) (zc yj (za 1) (eC (.int 9))) (eC (.int 4)))) (zm (zc zB (zc zB (eC (.str "~\n\n")) (eL xY (zb (zc yj (zc y9 (za 1) (eC (.int 9))) (eC (.int 8))) (zb (zc yj (zc y9 (za 1) (eC (.int 72))) (eC (.int 2))) ze)))) (zc ixD (eL (fun ds=>.ok (.lst ds)) (zb (eC (.str "")) (zb (eC (.str "\n\nb")) (zb (eC (.str "\n\n= ")) ze)))) (zc yj (zc y9 (za 1) (eC (.int 144))) (eC (.int 3)))))) zo) (zi (zu 6 (eL xC (zb (za 0) (zb (eC (.int 0)) ze)))) (zi (zu 2 (zc ixD (eL (fun ds=>.ok (.lst ds)) (zb (eC (.str "")) (zb (eC (.str "\n")) (zb (eC (.str " \n\n")) ze)))) (zc yj (zc y9 (za 1) (eC (.int 9))) (eC (.int 3))))) (zi (wG (iL Yn (zb (za 6) ze)) (.many [3,7]) (zu 2 (zc zB (zc zB (za 2) (eL xl (zb (za 7) ze))) (zc ixD (eL (fun ds=>.ok (.lst ds)) (zb (eC (.str "\n\n")) (zb (eC (.str "\n \n")) (zb (eC (.str "\n\n\n")) ze)))) (zc yj (zc zB (zc y9 (za 1) (eC (.int 27))) (za 3)) (eC (.int 3))))))) (zi (wG (iL j5 (zb (zc ixD (eL (fun ds=>.ok (.lst ds)) (zb (eC (.int 0)) (zb (eC (.int 1)) (zb (eC (.int 1)) (zb (eC (.int 2)) (zb (eC (.int 3)) ze)))))) (zc yj (zc y9 (za 1) (eC (.int 81))) (eC (.int 5)))) ze)) (.one 3) (zu 2 (eL xg (zb (za 2) (zb (eL zJ (zb (za 0) (zb (zc zB (eC (.int 9)) (za 3)) ze))) ze))))) (zm (za 2)))))))))))
def xr:List D->R D:=zC 8 jI
def YR (Df:DefIn K mg "_law_drawn" (top 67) ["_law_script"])(V:En K mg)(o6:Own P w K mg base "_law_number" 1 ["_law_script","_law_k"] (spM K zJ 2))(o0g:Own P w K mg base "_law_blocks" 5 ["_law_script","_law_first"] (spM K xC 2))(o0d:Own P w K mg base "_law_changed" 2 ["_law_text","_law_number_here"] (spM K xg 2))(o1e:Own P w K mg base "_law_bound" 1 ["_law_way","_law_more"] (spM K xY 2))(o0e:Own P w K mg base "_law_text_of" 1 ["_law_block_here"] (spM K xl 1)):Own P w K mg base "_law_drawn" 6 ["_law_script"] (spM K xr 1):=
 miD ["_law_script","_law_number_here","_law_text","_law_k","_law_words_here","_law_cut","_law_blocks_here","_law_block_here"] Df fun S _ _ _ _ _ _ _ hr=>(sa 1 S.nd (cl o6 hr (zl (vs 0) (a1 z9))) (zf (zx (te hr (md (vo 1) z9) z9) (sa 2 S.nd zg (zf (yN (Γ2:=[.shr,.own,.own,.shr,.dead,.dead,.dead,.dead]) PassesOwn.leaving rfl (yP rfl V.b.range (a1 (md (fd (vo 1) z9) z9))) (by decide) (ym (pgn 3 S.nd)) (by decide) (zp (L2.st 2 S.nd (zA (ad (vo 2) (ix hr zg (md (fd (cl o6 hr (zl (vs 0) (a1 (ad z9 (md (vs 3) z9))))) (ad z9 (vs 3))) z9)))))) rfl) (zp (ui (mvn 2))))) zk) (zf (zx (te hr (md (vo 1) z9) z9) (sa 4 S.nd (ml (zM (a1 zg)) (ad z9 (md (fd (vo 1) z9) z9))) (sa 5 S.nd (ad z9 (md (fd (vo 1) z9) z9)) (rt (ad (ad (zL jQ1 jQ2 jQ3 zF y6 y0 zg (a1 (yK (vo 4) ye (zE (vo 5))))) zg) (zL jQ1 jQ2 jQ3 zF y6 y0 zg (a1 (yK (vo 4) (zE (vo 5)) ye))))))) zk) (zf (zx (te hr (md (vo 1) z9) z9) (rt (zL jQ1 jQ2 jQ3 zF y6 y0 zg (a1 (ml (zM (a1 zg)) (ad z9 (md (fd (vo 1) z9) z9)))))) zk) (zf (zx (te hr (md (vo 1) z9) z9) (rt (ad (ad zg (cl o1e hr (zl (md (fd (vo 1) z9) z9) (a1 (md (fd (vo 1) z9) z9))))) (ix hr (zM (zl zg (zl zg (a1 zg)))) (md (fd (vo 1) z9) z9)))) zk) (sa 6 S.nd (cl o0g hr (zl (vs 0) (a1 z9))) (sa 2 S.nd (ix hr (zM (zl zg (zl zg (a1 zg)))) (md (fd (vo 1) z9) z9)) (zf (z55 (Γ1:=[.shr,.own,.own,.dead,.dead,.dead,.shr,.dead]) (yN (Γ2:=[.shr,.own,.own,.shr,.dead,.dead,.shr,.shr]) PassesOwn.leaving rfl (V3 rfl V.b.enumerate (a1 (vs 6))) (by decide) (ub rfl (yC (pgn 3 S.nd) (yC (pgn 7 S.nd) uD))) (by decide) (zp (L2.st 2 S.nd (zA (ad (ad (vo 2) (cl o0e hr (a1 (vs 7)))) (ix hr (zM (zl zg (zl zg (a1 zg)))) (md (ad (fd (vo 1) z9) (vs 3)) z9)))))) rfl) rfl) (zf (yN (Γ2:=[.shr,.own,.own,.shr,.dead,.dead,.shr,.dead]) PassesOwn.leaving rfl (yP rfl V.b.range (a1 (ix hr (zM (zl z9 (zl z9 (zl z9 (zl z9 (a1 z9)))))) (md (fd (vo 1) z9) z9)))) (by decide) (ym (pgn 3 S.nd)) (by decide) (zp (L2.st 2 S.nd (zA (cl o0d hr (zl (vo 2) (a1 (cl o6 hr (zl (vs 0) (a1 (ad z9 (vs 3))))))))))) rfl) (zp (ui (mvn 2))))))))))))
def u9:Tn->R Fl:=(zi (zu 3 (eC (.str "abcdefghijklmnopqrstuvwxyzABCDEFGHIJKLMNOPQRSTUVWXYZ0123456789.,;:!?'\"()-/"))) (zi (zu 4 (eC (.int 0))) (zi (zu 5 (eC (.int 0))) (zi (wG (yo (za 0)) (.one 6) (zi (sIf (zh (zc (eqR false) (za 6) (eC (.str " ")))) (zu 5 (eC (.int 0))) (zi (zu 4 (zc zB (za 4) (eL jG (zb (zc (eqR false) (za 5) (eC (.int 0))) ze)))) (zu 5 (zc zB (za 5) (eC (.int 1)))))) (sIf (bOr (zh (zc gtD (za 5) (eC (.int 40)))) (u5 (zh (zc (eqR true) (za 6) (eC (.str " ")))) (zh (zc Z4 (za 6) (za 3))))) (zm (eC (.bl false))) zo))) (zm (yx leD leD (za 1) (za 4) (za 2)))))))
def zG:List D->R D:=zC 7 u9
def jP (Df:DefIn K mg "_law_are_words" (top 68) ["_law_line","_law_least","_law_most"])(V:En K mg) :Own P w K mg base "_law_are_words" 1 ["_law_line","_law_least","_law_most"] (spM K zG 3):=
 miD ["_law_line","_law_least","_law_most","_law_signs","_law_many","_law_size","_law_sign_here"] Df fun S _ _ _ _ _ _ _ hr=>(sa 3 S.nd zg (sa 4 S.nd z9 (sa 5 S.nd z9 (zf (yN (Γ2:=[.shr,.shr,.shr,.own,.own,.own,.shr]) PassesOwn.leaving rfl (zN (vs 0)) (by decide) (ym (pgn 6 S.nd)) (by decide) (zf (zx (te hr (vs 6) zg) (zp (L2.st 5 S.nd (zA z9))) (sa 4 S.nd (ad (vo 4) (zU vV ZN Yy (by exact rfl) V.b.int Boot.«int» (a1 (xX (xG hr.u12) xV we (vo 5) z9 (zw _))))) (zp (L2.st 5 S.nd (zA (ad (vo 5) z9)))))) (zp (zx (MW.mt (x9 (zD Zd Vk zI (vo 5) z9 (zw _)) (yY (MW.mt (vt (zD (y8 hr.u12) xV we (vs 6) zg (zw _)) (wo (zD Jj z1o z1s (vs 6) (vo 3) (by exact rfl)))))))) (rt xH) zk))) rfl) (rt (Vf xw vD zI xw vD zI (vs 1) (vo 4) (vs 2)))))))
def vS:Tn->R Fl:=(zi (zu 1 (eC (.int 0))) (zi (yi (zh (zc (eqR true) (za 0) (eC (.str "")))) (zi (zu 2 (eSm jF (za 0) (zb (eC (.str "}")) ze))) (zi (sIf (bOr (zh (zc (eqR true) (zc ixD (za 0) (eC (.int 0))) (eC (.str "{")))) (bOr (zh (zc ltD (za 2) (eC (.int 0)))) (yJ (zh (eL zG (zb (eSl (za 0) (zX (eC (.int 1))) (zX (za 2))) (zb (eC (.int 1)) (zb (eC (.int 30)) ze)))))))) (zm (eUn uJ (eC (.int 1)))) zo) (zi (zu 1 (zc zB (za 1) (eC (.int 1)))) (zu 0 (eSl (za 0) (zX (zc zB (za 2) (eC (.int 1)))) xm)))))) (zm (za 1))))
def yM:List D->R D:=zC 3 vS
def jt (Df:DefIn K mg "_law_are_notes" (top 69) ["_law_line"])(V:En K mg)(o5:Own P w K mg base "_law_are_words" 1 ["_law_line","_law_least","_law_most"] (spM K zG 3)):Own P w K mg base "_law_are_notes" 2 ["_law_line"] (spM K yM 1):=
 miD ["_law_line","_law_many","_law_end"] Df fun S _ _ _ _ _ _ _ hr=>(sa 1 S.nd z9 (zf (qw (Γ2:=[.own,.own,.own]) PassesOwn.leaving (zD (y8 hr.u12) xV we (vs 0) zg (zw _)) (sa 2 S.nd (zL jQ1 jXb jXc VE z17 Kj (vs 0) (a1 zg)) (zf (zx (MW.mt (x9 (zD (y8 hr.u12) xV we (ix hr (vs 0) z9) zg (zw _)) (x9 (zD wQ uS zI (vo 2) z9 (zw _)) (yY (yg (yy (cl o5 hr (zl (yK (vs 0) (zE z9) (zE (vo 2))) (zl z9 (a1 z9)))))))))) (rt (xT z9)) zk) (sa 1 S.nd (ad (vo 1) z9) (zp (L2.st 0 S.nd (zA (yK (vs 0) (zE (ad (vo 2) z9)) ye))))))) rfl) (zp (ui (mvn 1)))))
def u7:Tn->R Fl:=(zi (zu 1 (eL (fun ds=>.ok (.lst ds)) ze)) (zi (zu 2 (eC (.int 0))) (zi (wG (iL j5 (zb (eL ya (zb (za 0) ze)) ze)) (.one 3) (zi (zu 2 (zc Zn (zc zB (za 2) (eL jG (zb (zc (eqR false) (zc ixD (za 0) (za 3)) (eC (.str "{"))) ze))) (eL jG (zb (zc (eqR false) (zc ixD (za 0) (za 3)) (eC (.str "}"))) ze)))) (sIf (u5 (zh (zc (eqR false) (zc ixD (za 0) (za 3)) (eC (.str " ")))) (zh (zc (eqR false) (za 2) (eC (.int 0))))) (vq 1 (uT (za 3))) zo))) (zm (zc zB (za 1) (eL (fun ds=>.ok (.lst ds)) (zb (eL ya (zb (za 0) ze)) ze)))))))
def yO:List D->R D:=zC 4 u7
def jy (Df:DefIn K mg "_law_word_ends" (top 70) ["_law_line"])(V:En K mg) :Own P w K mg base "_law_word_ends" 1 ["_law_line"] (spM K yO 1):=
 miD ["_law_line","_law_found","_law_depth","_law_k"] Df fun S _ _ _ _ _ _ _ hr=>(sa 1 S.nd (zM xo) (sa 2 S.nd z9 (zf (yN (Γ2:=[.shr,.own,.own,.shr]) PassesOwn.leaving rfl (yP rfl V.b.range (a1 (ln V.b (a1 (vs 0))))) (by decide) (ym (pgn 3 S.nd)) (by decide) (sa 2 S.nd (sb (ad (vo 2) (zU vV ZN Yy (by exact rfl) V.b.int Boot.«int» (a1 (xX (xG hr.u12) xV we (ix hr (vs 0) (vs 3)) zg (zw _))))) (zU vV ZN Yy (by exact rfl) V.b.int Boot.«int» (a1 (xX (xG hr.u12) xV we (ix hr (vs 0) (vs 3)) zg (zw _))))) (zp (zx (MW.mt (vt (te hr (ix hr (vs 0) (vs 3)) zg) (wo (te hr (vo 2) z9)))) (zp (app 1 (zA (uA (vs 3))))) zk))) rfl) (rt (ad (vo 1) (zM (a1 (ln V.b (a1 (vs 0))))))))))
def wR:Tn->R Fl:=(zi (zu 1 (eC (.int 0))) (zi (zu 2 (eC (.int 0))) (zi (zu 3 (eC (.int 0))) (zi (wG (yo (eL yO (zb (za 0) ze))) (.one 4) (zi (zu 5 (eSl (za 0) (zX (za 3)) (zX (za 4)))) (zi (zu 3 (zc zB (za 4) (eC (.int 1)))) (sIf (zh (zc (eqR true) (za 5) (eC (.str "")))) (zi (zu 6 (eSm jF (zc zB (za 5) (eC (.str "{"))) (zb (eC (.str "{")) ze))) (zi (zu 7 (eL yM (zb (eSl (za 5) (zX (za 6)) xm) ze))) (zi (zu 2 (zc zB (za 2) (eC (.int 1)))) (zi (sIf (bOr (yJ (zh (eL zG (zb (eSl (za 5) xm (zX (za 6))) (zb (eC (.int 1)) (zb (eC (.int 1)) ze)))))) (bOr (yJ (zh (yx leD leD (eC (.int 0)) (za 7) (eC (.int 3))))) (zh (zc Wk (eC (.str " ")) (eSl (za 5) xm (zX (za 6))))))) (zm (eUn uJ (eC (.int 1)))) zo) (zu 1 (zc zB (za 1) (za 7))))))) zo)))) (zi (sIf (yJ (zh (yx leD leD (eC (.int 1)) (za 2) (eC (.int 200))))) (zm (eUn uJ (eC (.int 1)))) zo) (zm (za 1)))))))
def yf:List D->R D:=zC 8 wR
def uK (Df:DefIn K mg "_law_notes_of_text" (top 71) ["_law_line"])(V:En K mg)(oz:Own P w K mg base "_law_word_ends" 1 ["_law_line"] (spM K yO 1))(o0a:Own P w K mg base "_law_are_notes" 2 ["_law_line"] (spM K yM 1))(o5:Own P w K mg base "_law_are_words" 1 ["_law_line","_law_least","_law_most"] (spM K zG 3)):Own P w K mg base "_law_notes_of_text" 3 ["_law_line"] (spM K yf 1):=
 miD ["_law_line","_law_many","_law_words_here","_law_begin","_law_end","_law_part","_law_at","_law_notes_here"] Df fun S _ _ _ _ _ _ _ hr=>(sa 1 S.nd z9 (sa 2 S.nd z9 (sa 3 S.nd z9 (zf (yN (Γ2:=[.shr,.own,.own,.own,.shr,.own,.dead,.dead]) PassesOwn.leaving rfl (zN (cl oz hr (a1 (vs 0)))) (by decide) (ym (pgn 4 S.nd)) (by decide) (sa 5 S.nd (yK (vs 0) (zE (vo 3)) (zE (vs 4))) (sa 3 S.nd (ad (vs 4) z9) (zp (zx (zD (y8 hr.u12) xV we (vo 5) zg (zw _)) (jS (Γ':=[.shr,.own,.own,.own,.shr,.own,.dead,.dead]) (sa 6 S.nd (zL jQ1 jXb jXc VE z17 Kj (ad (vo 5) zg) (a1 zg)) (sa 7 S.nd (cl o0a hr (a1 (yK (vo 5) (zE (vo 6)) ye))) (sa 2 S.nd (ad (vo 2) z9) (zf (zx (MW.mt (x9 (yg (yy (cl o5 hr (zl (yK (vo 5) ye (zE (vo 6))) (zl z9 (a1 z9)))))) (x9 (yg (wV xw vD zI xw vD zI z9 (vo 7) z9)) (yY (zD z0h z3Z z3U zg (yK (vo 5) ye (zE (vo 6))) (by exact rfl)))))) (rt (xT z9)) zk) (zp (L2.st 1 S.nd (zA (ad (vo 1) (vo 7))))))))) rfl) zk)))) rfl) (zf (zx (yg (wV xw vD zI xw vD zI z9 (vo 2) z9)) (rt (xT z9)) zk) (zp (ui (mvn 1))))))))
def uH:Tn->R Fl:=(zi (zu 1 (eSm j8 (zc ixD (za 0) (eC (.int 0))) (zb (eC (.str "|")) ze))) (zi (wG (yo (za 0)) (.one 2) (zi (zu 3 (eSm xO (za 2) (zb (eC (.str "|")) ze))) (sIf (bOr (zh (zc (eqR true) (eSm j8 (za 2) (zb (eC (.str "|")) ze)) (za 1))) (yJ (zh (eL uE (zb (zS [none] (yo (za 3)) (.one 0) (fun _=>.ok true) (eL zG (zb (za 0) (zb (eC (.int 0)) (zb (eC (.int 12)) ze))))) ze))))) (zm (eC (.bl false))) zo))) (zm (uq (yx leD leD (eC (.int 2)) (za 1) (eC (.int 5))) (zc leD (eL ya (zb (za 0) ze)) (eC (.int 20)))))))
def yT:List D->R D:=zC 4 uH
def kh (Df:DefIn K mg "_law_is_table" (top 72) ["_law_rows"])(V:En K mg)(o5:Own P w K mg base "_law_are_words" 1 ["_law_line","_law_least","_law_most"] (spM K zG 3)):Own P w K mg base "_law_is_table" 2 ["_law_rows"] (spM K yT 1):=
 miD ["_law_rows","_law_many","_law_row_here","_law_cells"] Df fun S _ _ _ _ _ _ _ hr=>(sa 1 S.nd (zL jQ1 jXj jXk XF Qu Qr (ix hr (vs 0) z9) (a1 zg)) (zf (yN (Γ2:=[.shr,.own,.shr,.own]) PassesOwn.leaving rfl (zN (vs 0)) (by decide) (ym (pgn 2 S.nd)) (by decide) (sa 3 S.nd (zL jQ1 jQ4 jQ5 xQ vJ vL (vs 2) (a1 zg)) (zp (zx (MW.mt (x9 (zD (y8 hr.u12) xV we (zL jQ1 jXj jXk XF Qu Qr (vs 2) (a1 zg)) (vo 1) (zw _)) (yY (yg (yy (xD (yU (by exact rfl)) qO qL (by exact rfl) V.b.all Boot.«all» (a1 (cm1 ["_law_cell"] S.nofree (zN (vo 3)) (fun _ _ _ _=>(cl o5 hr (zl (mn 0 .brw) (zl z9 (a1 z9))))))))))))) (rt xH) zk))) rfl) (rt (uW (Vf xw vD zI xw vD zI z9 (vo 1) z9) (kj (xX xw vD zI (ln V.b (a1 (vs 0))) z9 (zw _)))))))
def qS:Tn->R Fl:=(zm (zc (eqR false) (zS [none] (yo (za 0)) (.one 0) (bOr (zh (zc ltD (eL ya (zb (za 0) ze)) (eC (.int 2)))) (bOr (zh (zc (eqR true) (zc ixD (za 0) (eC (.int 0))) (eC (.str "|")))) (zh (zc (eqR true) (zc ixD (za 0) (eUn uJ (eC (.int 1)))) (eC (.str "|")))))) (za 0)) (eL (fun ds=>.ok (.lst ds)) ze)))
def yH:List D->R D:=zC 1 qS
def YK (Df:DefIn K mg "_law_barred" (top 73) ["_law_rows"])(V:En K mg) :Own P w K mg base "_law_barred" 1 ["_law_rows"] (spM K yH 1):=
 miD ["_law_rows"] Df fun S _ _ _ _ _ _ _ hr=>(rt (xX (xG hr.u12) xV we (qG (N':=["_law_row_here"]) (fr:=[none]) rfl (wz S.nofree (by decide +kernel)) (zN (vs 0)) (fun _ _ _ _=>(ym (pgn 0 (show List.Nodup (["_law_row_here"]:List Str) from by decide +kernel)))) (fun _ _ _ _=>(Wx (MW.mt (x9 (zD wQ uS zI (ln V.b (a1 (vs 0))) z9 (zw _)) (x9 (zD (y8 hr.u12) xV we (ix hr (vs 0) z9) zg (zw _)) (yY (zD (y8 hr.u12) xV we (ix hr (vs 0) (xT z9)) zg (zw _)))))))) (fun _ _ _ _=>(vs 0)) (by decide) (by decide)) (zM xo) (zw _)))
def jH:Tn->R Fl:=(zi (sIf (zh (zc (eqR false) (za 0) (eL (fun ds=>.ok (.lst ds)) (zb (eC (.str "~")) ze)))) (zm (eC (.int 0))) zo) (zi (sIf (u5 (zh (zc (eqR false) (eL ya (zb (za 0) ze)) (eC (.int 1)))) (zh (zc (eqR false) (eSl (zc ixD (za 0) (eC (.int 0))) xm (zX (eC (.int 2)))) (eC (.str "= "))))) (zm (zc Zn (eL jG (zb (eL zG (zb (eSl (zc ixD (za 0) (eC (.int 0))) (zX (eC (.int 2))) xm) (zb (eC (.int 1)) (zb (eC (.int 12)) ze)))) ze)) (eC (.int 1)))) zo) (zi (sIf (zh (eL yH (zb (za 0) ze))) (zm (zc Zn (eL jG (zb (eL yT (zb (za 0) ze)) ze)) (eC (.int 1)))) zo) (zm (eL yf (zb (eSm yb (eC (.str " ")) (zb (za 0) ze)) ze))))))
def wj:List D->R D:=zC 1 jH
def X6 (Df:DefIn K mg "_law_notes" (top 74) ["_law_rows"])(V:En K mg)(oi:Own P w K mg base "_law_barred" 1 ["_law_rows"] (spM K yH 1))(oq:Own P w K mg base "_law_notes_of_text" 3 ["_law_line"] (spM K yf 1))(o5:Own P w K mg base "_law_are_words" 1 ["_law_line","_law_least","_law_most"] (spM K zG 3))(o0b:Own P w K mg base "_law_is_table" 2 ["_law_rows"] (spM K yT 1)):Own P w K mg base "_law_notes" 4 ["_law_rows"] (spM K wj 1):=
 miD ["_law_rows"] Df fun S _ _ _ _ _ _ _ hr=>(zf (zx (te hr (vs 0) (zM (a1 zg))) (rt z9) zk) (zf (zx (MW.mt (vt (te hr (ln V.b (a1 (vs 0))) z9) (wo (te hr (yK (ix hr (vs 0) z9) ye (zE z9)) zg)))) (rt (sb (zU vV ZN Yy (by exact rfl) V.b.int Boot.«int» (a1 (cl o5 hr (zl (yK (ix hr (vs 0) z9) (zE z9) ye) (zl z9 (a1 z9)))))) z9)) zk) (zf (zx (yy (cl oi hr (a1 (vs 0)))) (rt (sb (zU vV ZN Yy (by exact rfl) V.b.int Boot.«int» (a1 (cl o0b hr (a1 (vs 0))))) z9)) zk) (rt (cl oq hr (a1 (zL jQ1 jQ2 jQ3 zF y6 y0 zg (a1 (vs 0)))))))))
def Z0:Tn->R Fl:=(zi (zu 1 (eL (fun ds=>.ok (.lst ds)) (zb (eL (fun ds=>.ok (.lst ds)) (zb (eUn uJ (eC (.int 1))) (zb (eL (fun ds=>.ok (.lst ds)) ze) ze))) ze))) (zi (wG (iL Yn (zb (eSm xO (za 0) (zb (eC (.str "\n")) ze)) ze)) (.many [2,3]) (sIf (zh (zc (eqR false) (eSm uj (za 3) (zb (eC (.str " ")) ze)) (eC (.str "")))) (vq 1 (eL (fun ds=>.ok (.lst ds)) (zb (eUn uJ (eC (.int 1))) (zb (eL (fun ds=>.ok (.lst ds)) ze) ze)))) (zi (kD 1 (eSm uj (za 3) (zb (eC (.str " ")) ze))) (sIf (zh (zc ltD (zc ixD (zc ixD (za 1) (eUn uJ (eC (.int 1)))) (eC (.int 0))) (eC (.int 0)))) (ku 1 (za 2)) zo)))) (VM 1)))
def wU:List D->R D:=zC 4 Z0
def Wj (Df:DefIn K mg "_law_runs" (top 75) ["_law_text"])(V:En K mg) :Own P w K mg base "_law_runs" 1 ["_law_text"] (spM K wU 1):=
 miD ["_law_text","_law_runs_here","_law_number_here","_law_row_here"] Df fun S _ _ _ _ _ _ _ hr=>(sa 1 S.nd (zM (a1 (zM (zl (xT z9) (a1 (zM xo)))))) (zf (yN (Γ2:=[.shr,.own,.shr,.shr]) PassesOwn.leaving rfl (V3 rfl V.b.enumerate (a1 (zL jQ1 jQ4 jQ5 xQ vJ vL (vs 0) (a1 zg)))) (by decide) (ub rfl (yC (pgn 2 S.nd) (yC (pgn 3 S.nd) uD))) (by decide) (zp (zx (te hr (zL jQ1 jQ9 jXa jY WR W7 (vs 3) (a1 zg)) zg) (zp (app 1 (zA (zM (zl (xT z9) (a1 (zM xo))))))) (zf (z7x 1 (zL jQ1 jQ9 jXa jY WR W7 (vs 3) (a1 zg))) (zp (zx (zD wQ uS zI (ix hr (ix hr (vo 1) (xT z9)) z9) z9 (zw _)) (zp (z6v 1 (vs 2))) zk))))) rfl) (zp (z8Q 1 (WU (N':=["_law_run"]) (fr:=[none]) rfl (wz S.nofree (by decide +kernel)) (J0 (pv 1)) (fun _ _ _ _=>pgn 0 (show List.Nodup (["_law_run"]:List Str) from by decide +kernel)) (fun _ _ _ _=>Qw (J7 z3H (ZZ j7 (pv 0) ue (fun _ _=>rfl)) ue (zw _))) (fun _ _ _ _=>(pv 0)))))))
def vn:Tn->R Fl:=(zi (zu 1 (eC (.int 0))) (zi (wG (iL j5 (zb (eL ya (zb (za 0) ze)) ze)) (.one 2) (zi (zu 3 (eL wj (zb (zc ixD (zc ixD (za 0) (za 2)) (eC (.int 1))) ze))) (zi (zu 1 (zc zB (za 1) (za 3))) (sIf (bOr (zh (zc ltD (za 3) (eC (.int 0)))) (bOr (zh (zc gtD (za 1) (eC (.int 60)))) (zh (zc (eqR false) (za 2) (eC (.int 40)))))) (zm (uT (zc ixD (zc ixD (za 0) (za 2)) (eC (.int 0))))) zo)))) (zm (eUn uJ (eC (.int 1))))))
def yw:List D->R D:=zC 4 vn
def qI (Df:DefIn K mg "_law_first_wrong" (top 76) ["_law_runs_here"])(V:En K mg)(o1f:Own P w K mg base "_law_notes" 4 ["_law_rows"] (spM K wj 1)):Own P w K mg base "_law_first_wrong" 5 ["_law_runs_here"] (spM K yw 1):=
 miD ["_law_runs_here","_law_many","_law_k","_law_notes_here"] Df fun S _ _ _ _ _ _ _ hr=>(sa 1 S.nd z9 (zf (yN (Γ2:=[.shr,.own,.shr,.own]) PassesOwn.leaving rfl (yP rfl V.b.range (a1 (ln V.b (a1 (vs 0))))) (by decide) (ym (pgn 2 S.nd)) (by decide) (sa 3 S.nd (cl o1f hr (a1 (ix hr (ix hr (vs 0) (vs 2)) z9))) (sa 1 S.nd (ad (vo 1) (vo 3)) (zp (zx (MW.mt (x9 (zD wQ uS zI (vo 3) z9 (zw _)) (x9 (zD Zd Vk zI (vo 1) z9 (zw _)) (yY (te hr (vs 2) z9))))) (rt (uA (ix hr (ix hr (vs 0) (vs 2)) z9))) zk)))) rfl) (rt (xT z9))))
def uG:Tn->R Fl:=(zm (eSm yb (eC (.str " ")) (zb (zS [none] (yo (eSm xO (za 0) (zb (eC (.str " ")) ze))) (.one 0) (zh (zc (eqR true) (za 0) (eC (.str "")))) (za 0)) ze)))
def yl:List D->R D:=zC 1 uG
def jX (Df:DefIn K mg "_law_line_put" (top 77) ["_law_line"])(V:En K mg) :Own P w K mg base "_law_line_put" 1 ["_law_line"] (spM K yl 1):=
 miD ["_law_line"] Df fun S _ _ _ _ _ _ _ hr=>(rt (zL jQ1 jQ2 jQ3 zF y6 y0 zg (a1 (qG (N':=["_law_word_here"]) (fr:=[none]) rfl (wz S.nofree (by decide +kernel)) (zN (zL jQ1 jQ4 jQ5 xQ vJ vL (vs 0) (a1 zg))) (fun _ _ _ _=>(ym (pgn 0 (show List.Nodup (["_law_word_here"]:List Str) from by decide +kernel)))) (fun _ _ _ _=>(Wx (zD (y8 hr.u12) xV we (vs 0) zg (zw _)))) (fun _ _ _ _=>(vs 0)) (by decide) (by decide)))))
def qo:Tn->R Fl:=(zi (zu 1 (zS [none] (yo (eSm xO (eSl (za 0) (zX (eC (.int 1))) (zX (eUn uJ (eC (.int 1))))) (zb (eC (.str "|")) ze))) (.one 0) (fun _=>.ok true) (zc zB (zc zB (eC (.str " ")) (eL yl (zb (za 0) ze))) (eC (.str " "))))) (zm (zc zB (zc zB (eC (.str "|")) (eSm yb (eC (.str "|")) (zb (za 1) ze))) (eC (.str "|")))))
def xn:List D->R D:=zC 2 qo
def Zp (Df:DefIn K mg "_law_row_put" (top 78) ["_law_row_here"])(V:En K mg)(o9:Own P w K mg base "_law_line_put" 1 ["_law_line"] (spM K yl 1)):Own P w K mg base "_law_row_put" 2 ["_law_row_here"] (spM K xn 1):=
 miD ["_law_row_here","_law_cells"] Df fun S _ _ _ _ _ _ _ hr=>(zf (stC 1 (N':=["_law_cell"]) (fr:=[none]) S.nd rfl (wz S.nofree (by decide +kernel)) (zN (zL jQ1 jQ4 jQ5 xQ vJ vL (yK (vs 0) (zE z9) (zE (xT z9))) (a1 zg))) (fun _ _ _ _=>(ym (pgn 0 (show List.Nodup (["_law_cell"]:List Str) from by decide +kernel)))) (fun _ _ _ _=>v9) (fun _ _ _ _=>(ad (ad zg (cl o9 hr (a1 (vs 0)))) zg)) (by decide)) (rt (ad (ad zg (zL jQ1 jQ2 jQ3 zF y6 y0 zg (a1 (vo 1)))) zg)))
def ZQ:Tn->R Fl:=(zi (sIf (zh (zc (eqR false) (za 0) (eL (fun ds=>.ok (.lst ds)) (zb (eC (.str "~")) ze)))) (zm (eC (.str "~"))) zo) (zi (sIf (zh (eL yH (zb (za 0) ze))) (zm (eSm yb (eC (.str "\n")) (zb (zS [none] (yo (za 0)) (.one 0) (fun _=>.ok true) (eL xn (zb (za 0) ze))) ze))) zo) (zm (eUn (Z7 " }" "}") (eUn (Z7 "{ " "{") (eL yl (zb (eSm yb (eC (.str " ")) (zb (za 0) ze)) ze)))))))
def wC:List D->R D:=zC 1 ZQ
def sc__law_put:FnScope ["_law_rows"] ["_law_rows"] (defScope (top 79)):=by constructor<;>first|rfl|decide +kernel
def Va (Df:DefIn K mg "_law_put" (top 79) ["_law_rows"])(V:En K mg)(oi:Own P w K mg base "_law_barred" 1 ["_law_rows"] (spM K yH 1))(o0f:Own P w K mg base "_law_row_put" 2 ["_law_row_here"] (spM K xn 1))(o9:Own P w K mg base "_law_line_put" 1 ["_law_line"] (spM K yl 1)):Own P w K mg base "_law_put" 3 ["_law_rows"] (spM K wC 1):=
 Df.mirT (k:=2) (Γ':=[.shr]) sc__law_put (by decide) ⟨_,_,rfl,rfl⟩ fun f cdv A outer s H E hr=>(Vg (MS.tt (zx (te hr (vs 0) (zM (a1 zg))) (rt zg) zk)) (Vg (MS.tt (zx (yy (cl oi hr (a1 (vs 0)))) (rt (zL jQ1 jQ2 jQ3 zF y6 y0 zg (a1 (cm1 ["_law_row_here"] sc__law_put.nofree (zN (vs 0)) (fun _ _ _ _=>(cl o0f hr (a1 (vs 0)))))))) zk)) (z1M (Vn (Vn (ME.p (cl o9 hr (a1 (zL jQ1 jQ2 jQ3 zF y6 y0 zg (a1 (vs 0)))))) (by decide) (by decide)) (by decide) (by decide)))))
def z3q:FnScope ["self","row"] ["self","row"] (defScope (mth 7 0)):=by constructor<;>first|rfl|decide +kernel
def z4u {C CS fI f:Addr}{cdv:Value}{A:jNb}{outer:List Env}{s:jNc}{H:Hp}{E:XK}(R:RowC K C CS fI)(hm:mg "SetError"=some (.ref CS)):
  PSs (yZ (cxx P w) P w K mg base ["self","row"] "BadText.__init__" (defScope (mth 7 0)) f cdv A outer s H E) (defBody (mth 7 0)) (Q7 (WA C (ZY (jz 0) (ZY (z6M "no block that can be read begins at row ") z1F))) (tRow C (jz 0) (jz 1))):=
 ua (JR R rfl hm (zR (pv 0) (zR (z79 (pv 1)) wF))) (uw (z4T R (pv 0) (pv 1)))
def vx:Str->Option D:=fun m=>if eNm m="BadText" then (eRw m).map D.int else none
def Wa:List Stmt:=match defBody (top 80)with
 | .Try _ [.ExceptHandler _ _ b _] _ _ _::_=>b
 | _=>[]
abbrev cxR (P:jNa)(w:World)(K:jJa)(mg:Str->Option Value)(base:Heap)(f:Addr)(cdv:Value)(A:jNb)(outer:List Env)(s:jNc)(H:Hp)(E:XK):Cx:=yZ (cxx P w) P w K mg base ["_law_text","error"] "_law_row" (defScope (top 80)) f cdv A outer s H E
def YO (V:En K mg)(f:Addr)(cdv:Value)(A:jNb)(outer:List Env)(s:jNc)(H:Hp)(E:XK):
  ∃CS,(cxR P w K mg base f cdv A outer s H E).mg "SetError"=some (.ref CS)/\Suite (cxR P w K mg base f cdv A outer s H E) CS 1 Wa vx:=by
 obtain⟨CS,CT,fI,c1,c2,c3,c4,c5,c6,c7,c8,c9,hS,R,iT,nT,mT,kV,xS,⟨m1,k1⟩,⟨m2,k2⟩,⟨m3,k3⟩,⟨m4,k4⟩,⟨m5,k5⟩,⟨m6,k6⟩,⟨m7,k7⟩,⟨m8,k8⟩,⟨m9,k9⟩⟩:=V.c.ex;refine⟨CS,hS,fun m d hg c Hx hC=>?_⟩;have hm:eNm m="BadText"/\∃r,eRw m=some r/\d=.int r:=by
  unfold vx at hg;split at hg
  ·obtain⟨r,e1,e2⟩:=tV.mp hg;exact⟨by assumption,r,e1,e2.symm⟩
  ·cases hg
 obtain⟨hn,r,hr,rfl⟩:=hm;obtain⟨C,od⟩:=c;have hCT:C=CT:=by
  have h1:jJh K jKi (eNm m)=some (some (.ref C)):=hC.ns;rw[hn,nT]at h1;cases h1
  rfl
 subst hCT;refine⟨xS,_,fun e oe =>
  ua (U0 (qZ (vP (x:="isinstance") Xh rfl V.b.isinstance Boot.«isinstance» (zR (pv 1) (zR (UO (zR (xt (v:=.ref c1) rfl m1 rfl) (zR (xt (v:=.ref c2) rfl m2 rfl) (zR (xt (v:=.ref c3) rfl m3 rfl) (zR (xt (v:=.ref c4) rfl m4 rfl) (zR (xt (v:=.ref c5) rfl m5 rfl) (zR (xt (v:=.ref c6) rfl m6 rfl) wF))))))) wF)))) (uw (jb Wh)) jc)
  (ua (U0 (PW.pt (Qm (qZ (vP (x:="isinstance") Xh rfl V.b.isinstance Boot.«isinstance» (zR (pv 1) (zR (UO (zR (xt (v:=.ref c7) rfl m7 rfl) (zR (xt (v:=.ref c8) rfl m8 rfl) (zR (xt (v:=.ref c9) rfl m9 rfl) wF)))) wF)))) (Ul (XZ (qZ (Wd rfl V.b.isinstance (pv 1) (xt (v:=.ref C) rfl mT rfl))))))) (uw (jb Wh)) jc)
  (ua (U0 (PW.pt (Qm (qZ (Wd rfl V.b.isinstance (ki (X:=cxR P w K mg base f cdv A outer s H E) 1 R iT) (yR (v:=.ty "bool") rfl V.b.bool Boot.«bool» rfl))) (Qm (XZ (qZ (Wd rfl V.b.isinstance (ki (X:=cxR P w K mg base f cdv A outer s H E) 1 R iT) (yR (v:=.ty "int") rfl V.b.int Boot.«int» rfl)))) (Ul (XZ (qZ (Wd rfl V.b.isinstance (pv 1) (yR (v:=.ty "ValueError") rfl V.c.ve Boot.«ValueError» rfl)))))))) (uw (jb Wh)) jc)
  (uw (jb (ki (X:=cxR P w K mg base f cdv A outer s H E) 1 R iT))))),fun e oe Z σ H1 hl hcls hdi hE hn' hσ hQ=>?_⟩
 have q1:jJj K (.ref C) [.ref c1,.ref c2,.ref c3,.ref c4,.ref c5,.ref c6]=some false:=by simp only[jJj,k1,k2,k3,k4,k5,k6]
 have q2:jJj K (.ref C) [.ref c7,.ref c8,.ref c9]=some false:=by simp only[jJj,k7,k8,k9]
 have q3:jJb K (.ref C) (.ref C)=some true:=by unfold jJb;rw[jNg (by simp)]
 have mem:(e,oe)∈((cxR P w K mg base f cdv A outer s H E).within e oe).pn:=tL _ (sG.mpr rfl);have hrw:=hE.rw;rw[hr]at hrw;obtain⟨dx,e5,e6⟩:=hrw;have e6:H1 dx=some (.xd [("row",.int r)]):=e6;have e5:od=some dx:=e5;subst e5;refine⟨_,hσ,by show 6<=jMi;decide,fun p hp=>⟨e,oe,C,p,_,_,false,rfl,mem,hcls,iT,SqT.of zz,.cons (.ref _) (.cons (.ref _) (.cons (.ref _) (.cons (.ref _) (.cons (.ref _) (.cons (.ref _) .nil))))),q1,?_⟩⟩;refine⟨_,rfl,K5 ⟨_,hσ,by show 3<=jMi;decide,fun p2 hp2=>⟨e,oe,C,p2,_,_,false,rfl,mem,hcls,iT,SqT.of zz,.cons (.ref _) (.cons (.ref _) (.cons (.ref _) .nil)),q2,?_⟩⟩⟩;have n1:dx≠p:=zH e6 hp;have n2:dx≠p2:=zH (show upd H1 p _ dx=some (.xd [("row",.int r)]) by rw[zt n1];exact e6) hp2;have e7:∀o1 o2,upd (upd H1 p o1) p2 o2 dx=some (.xd [("row",.int r)]):=fun o1 o2=>by rw[zt n2,zt n1];exact e6
 refine⟨_,rfl,K5 ⟨_,hσ,_,_,_,_,_,rfl,.exc mem hcls iT,.ref _,q3,_,rfl,K5 ?_⟩⟩;refine⟨hσ,hcls,hdi.2,dx,r,hdi.1,e7 _ _,_,_,_,_,_,rfl,.of (.int r),.ty _,VT (T:="int") (by decide),_,rfl,K5 ?_⟩;refine⟨hσ,hcls,hdi.2,dx,r,hdi.1,e7 _ _,_,_,_,_,_,rfl,.of (.int r),.ty _,Jk (T:="int") (by decide),_,rfl,K5 ?_⟩;refine⟨_,hσ,_,_,_,_,_,rfl,.exc mem hcls iT,.ty _,kV,_,rfl,K5 ?_⟩;refine⟨hσ,hcls,hdi.2,dx,r,hdi.1,e7 _ _,?_⟩;exact hQ _ _ ((Same.new hp).trans (Same.new hp2)) ⟨rfl,rfl⟩
def j0:Tn->R Fl:=(zi (Z8 wc (zb (za 0) ze) vx) (zm (eUn uJ (eC (.int 1)))))
def yF:List D->R D:=zC 2 j0
def Ua (Df:DefIn K mg "_law_row" (top 80) ["_law_text"])(V:En K mg)(o1g:Own P w K mg base "read" 10 ["text"] (spM K wc 1)):Own P w K mg base "_law_row" 11 ["_law_text"] (spM K yF 1):=
 miD ["_law_text","error"] Df fun S f cdv A outer s H E hr=>(zf (z1v (o1g.mono (by decide)) S.nd hr rfl (a1 (vs 0)) rfl rfl rfl (show 1<2 by decide) rfl (YO V f cdv A outer s H E)) (rt (xT z9)))
def z00:Tn->R Fl:=(zi (zu 1 (eL xr (zb (za 0) ze))) (zi (zu 2 (eL wU (zb (za 1) ze))) (zi (zu 3 (eL yw (zb (za 2) ze))) (zi (sIf (zh (zc (eqR true) (eL yF (zb (za 1) ze)) (za 3))) (zm (eC (.bl false))) zo) (zi (zu 4 (eL zJ (zb (za 0) (zb (eC (.int 7)) ze)))) (zi (sIf (bOr (zh (zc (eqR true) (eL yF (zb (zc ixD (eL (fun ds=>.ok (.lst ds)) (zb (eC .non) (zb (eC (.int 5)) (zb (eL (fun ds=>.ok (.lst ds)) (zb (za 1) ze)) (zb (eL (fun ds=>.ok (.tup ds)) (zb (za 1) ze)) (zb (eC (.bl true)) (zb (eC (.dic [] [])) ze))))))) (zc yj (za 4) (eC (.int 6)))) ze)) (eC (.int 0)))) (zh (zc (eqR true) (Y3 "no block that can be read begins at row " (zb (zc yj (za 4) (eC (.int 1000))) ze)) (zc yj (za 4) (eC (.int 1000)))))) (zm (eC (.bl false))) zo) (zi (sIf (zh (zc geD (za 3) (eC (.int 0)))) (zm (eC (.bl true))) zo) (zi (zu 5 (eL wc (zb (za 1) ze))) (zi (sIf (bOr (zh (zc (isB true) (eL yI (zb (za 5) ze)) (eC (.bl true)))) (zh (zc (eqR true) (eL ya (zb (za 5) ze)) (eL ya (zb (za 2) ze))))) (zm (eC (.bl false))) zo) (zi (zu 6 (eSm yb (eC (.str "\n\n")) (zb (zS [none] (yo (za 2)) (.one 0) (fun _=>.ok true) (eL wC (zb (zc ixD (za 0) (eC (.int 1))) ze))) ze))) (zi (sIf (zh (zc (eqR true) (eL u6 (zb (eL qY (zb (za 5) ze)) ze)) (za 6))) (zm (eC (.bl false))) zo) (zi (zu 7 (eL qY (zb (za 5) ze))) (zi (vq 5 (eL (fun ds=>.ok (.tup ds)) (zb (eC (.str "leaf")) ze))) (zm (zc (eqR false) (eL wc (zb (za 1) ze)) (za 7))))))))))))))))
def F_law:List D->R D:=zC 8 z00
def sc_law:FnScope ["_law_script","_law_text","_law_runs_here","_law_due","_law_number_here","_law_found","_law_put_here","_law_kept"] ["_law_script"] (defScope (top 81)):=by constructor<;>first|rfl|decide +kernel
def z18 (V:En K mg)(Rw:RowI P w K mg base "BadText" CB 1 "no block that can be read begins at row ")(o1h:Own P w K mg base "_law_drawn" 6 ["_law_script"] (spM K xr 1))(o2e:Own P w K mg base "_law_runs" 1 ["_law_text"] (spM K wU 1))(ox:Own P w K mg base "_law_first_wrong" 5 ["_law_runs_here"] (spM K yw 1))(o6:Own P w K mg base "_law_number" 1 ["_law_script","_law_k"] (spM K zJ 2))(o1g:Own P w K mg base "read" 10 ["text"] (spM K wc 1))(o0h:Own P w K mg base "_law_row" 11 ["_law_text"] (spM K yF 1))(o3g:Own P w K mg base "written" 12 ["blocks"] (spM K u6 1))(oh:Own P w K mg base "need_blocks" 11 ["blocks"] (spM K yI 1))(o3c:Own P w K mg base "_law_put" 3 ["_law_rows"] (spM K wC 1)):∀(f:Addr) (cdv:Value) (A:jNb) (outer:List Env) (s:jNc) (H:Hp) (E:XK),Room 12 (A.deeper (envOfC "law" (defScope (top 81)) s.heap.objs.size f cdv))->MSs (yZ (cxx P w) P w K mg base ["_law_script","_law_text","_law_runs_here","_law_due","_law_number_here","_law_found","_law_put_here","_law_kept"] "law" (defScope (top 81)) f cdv A outer s H E) E [] (j6 8 1) (defBody (top 81)) z00 [.shr,.dead,.dead,.dead,.dead,.dead,.dead,.dead]:=
 fun f cdv A outer s H E hr=>(sa 1 sc_law.nd (cl o1h hr (a1 (vs 0))) (sa 2 sc_law.nd (cl o2e hr (a1 (vo 1))) (sa 3 sc_law.nd (cl ox hr (a1 (vo 2))) (zf (zx (zD (y8 hr.u12) xV we (cl o0h hr (a1 (vo 1))) (vo 3) (zw _)) (rt xH) zk) (sa 4 sc_law.nd (cl o6 hr (zl (vs 0) (a1 z9))) (zf (zx (MW.mt (x9 (zD (y8 hr.u12) xV we (cl o0h hr (a1 (ix hr (zM (zl UL (zl z9 (zl (zM (a1 (vo 1))) (zl (w8 (a1 (vo 1))) (zl xH (a1 KP))))))) (md (vo 4) z9)))) z9 (zw _)) (yY (zD (y8 hr.u12) xV we (z0C (Rw.mono (by decide)) hr rfl (a1 (md (vo 4) z9))) (md (vo 4) z9) (zw _))))) (rt xH) zk) (zf (zx (zD z3H z8g zI (vo 3) z9 (zw _)) (rt xH) zk) (sa 5 sc_law.nd (cl o1g hr (a1 (vo 1))) (zf (zx (MW.mt (x9 (zD z2a z4w z76 (cl oh hr (a1 (vo 5))) xH (zw _)) (yY (zD (y8 hr.u12) xV we (ln V.b (a1 (vo 5))) (ln V.b (a1 (vo 2))) (zw _))))) (rt xH) zk) (sa 6 sc_law.nd (zL jQ1 jQ2 jQ3 zF y6 y0 zg (a1 (cm1 ["_law_run"] sc_law.nofree (zN (vo 2)) (fun _ _ _ _=>(cl o3c hr (a1 (ix hr (mn 0 .brw) z9))))))) (zf (zx (zD (y8 hr.u12) xV we (cl o3g hr (a1 (zU jK QX J3 (by exact rfl) V.b.list Boot.«list» (a1 (vo 5))))) (vo 6) (zw _)) (rt xH) zk) (sa 7 sc_law.nd (zU jK QX J3 (by exact rfl) V.b.list Boot.«list» (a1 (vo 5))) (zf (app 5 (zA (w8 (a1 zg)))) (rt (xX (xG hr.u12) xV we (cl o1g hr (a1 (vo 1))) (vo 7) (zw _))))))))))))))))
end
def kc (G:List D->R D):Tn->R Fl:=(zi (sIf (bOr (yJ (zh (eUn (wq "tuple") (za 0)))) (yJ (zh (yx leD leD (za 1) (eL ya (zb (za 0) ze)) (za 2))))) (zm (eC (.bl false))) zo) (zm (eL uE (zb (zS [none,some 3] (yo (za 0)) (.one 0) (fun _=>.ok true) (eL G (zb (za 0) ze))) ze))))
def z8v:zy=zC 4 (kc yc):=rfl
def z8h:yp=zC 4 (kc wB):=rfl
def z8H:yr=zC 4 (kc wy):=rfl
def z92:yz=zC 4 (kc vp):=rfl
def z8c:zO=zC 4 (kc wH):=rfl
theorem Zq {α:Type}(g:α->D):∀Q:List α,Q.filterMap (fun q=>some (g q))=Q.map g
 | []=>rfl
 | q::Q=>by rw[rF,Zq g Q];rfl
theorem XE:∀bs:List Bool,wJ (bs.map D.bl)=some bs
 | []=>rfl
 | b::bs=>by rw[tK];show (wJ (bs.map D.bl)).map (b::·)=_;rw[XE bs];rfl
def z4R (G:List D->R D)(d lo hi:D)(h:wq "tuple" d=.ok (.bl false)):zC 4 (kc G) [d,lo,hi]=.ok (.bl false):=by
 simp -implicitDefEqProofs only [kc,wN,qg,qr,V2,zo,zC,zi,zm,sIf,za,eC,eUn,eL,ze,zb,zh,bOr,yJ,yx,yo,asB,jYa,tK,rK,tE,tR,sX,sS,sJ,tZ,tU,sC,Nat.reduceAdd,Nat.reduceSub,rA,if_true,h,pQ]
def z2L {α:Type}(G:List D->R D)(en:α->D)(b:α->Bool)(xs:List α)(hG:∀x∈xs,G [en x]=.ok (.bl (b x)))(lo hi:Int)(hl:xs.length<=10000)(h1:lo<=(xs.length:Nat))(h2:((xs.length:Nat):Int)<=hi):zC 4 (kc G) [.tup (xs.map en),.int lo,.int hi]=.ok (.bl (xs.all b)):=by
 have e1:wq "tuple" (.tup (xs.map en))=.ok (.bl true):=rfl;have e2:ya [.tup (xs.map en)]=.ok (.int (xs.length:Nat)):=by
  show R.ok (D.int ((xs.map en).length:Nat))=_;rw[tJ]
 have e3:decide (lo<=((xs.length:Nat):Int))=true:=decide_eq_true h1;have e4:decide (((xs.length:Nat):Int)<=hi)=true:=decide_eq_true h2;have k1:xE (vw (Tgt.one 0).asg (fun _=>.ok true) (eL G (zb (za 0) ze)) [none,none]) (xs.map en)=.ok (xs.filterMap fun x=>some (D.bl (b x))):=vd fun x hx=>by
  have hg:=hG x hx;unfold vw;simp -implicitDefEqProofs only [za,eL,ze,zb,Tgt.asg,jYa,tU,pR,if_true,hg]
  rfl
 rw[Zq]at k1;have i1:z22 (xs.map fun x=>D.bl (b x))=.ok (.lst (xs.map fun x=>D.bl (b x))):=WM (by rw[tJ];omega);have a1:uE [.lst (xs.map fun x=>D.bl (b x))]=.ok (.bl (xs.all b)):=by
  have e:(xs.map fun x=>D.bl (b x))=(xs.map b).map D.bl:=by rw[sI];rfl
  show (match wJ (xs.map fun x=>D.bl (b x))with|some bs=>R.ok (D.bl (bs.all id))|none=>.bad)=_;rw[e,XE];show R.ok (D.bl ((xs.map b).all id))=_;rw[pE]
  rfl
 generalize (xs.map fun x=>D.bl (b x))=BB at *;generalize xs.map en=XX at *;generalize ((xs.length:Nat):Int)=l at *;generalize xs.all b=r at *;simp -implicitDefEqProofs only [kc,wN,qg,qr,V2,z2n,zo,zC,zi,zm,sIf,za,eC,eUn,eL,ze,zb,zh,bOr,yJ,yx,yo,asB,jg,jYa,tK,rK,tE,tR,sX,sS,sJ,tZ,tU,sC,Nat.reduceAdd,Nat.reduceSub,rA,ZX,if_true,if_false,sY,e1,e2,e3,e4,k1,i1,a1,rW]
def S (l:List Nat):Str:=⟨l.toArray⟩
def zY (l:List Nat):(S l).length=l.length:=tY
def xy (l:List Nat):(S l).cps.toList=l:=List.toList_toArray
def Zf (z:Str):z=S z.cps.toList:=by
 obtain⟨a⟩:=z;show (⟨a⟩:Str)=⟨a.toList.toArray⟩
 rw[Array.toArray_toList]
def Ud (a b:List Nat):S a++S b=S (a++b):=by
 rw[Zf (S a++S b),z2P,xy,xy]
def one (c:Nat):Str:=S [c]
abbrev Z2:Str:="abcdefghijklmnopqrstuvwxyzABCDEFGHIJKLMNOPQRSTUVWXYZ0123456789.,;:!?'\"()-/"
def okS (c:Nat):Prop:=c∈Z2.cps.toList
def z0g:Z2.length=74:=by decide +kernel
def Zt (c:Nat)(z:Str):inS (one c) z=decide (c∈z.cps.toList):=StrLaws.found_one z c
def YX (c:Nat):D:=.str (one c)
def z3z (l:List Nat)(h:l.length<=1000):ya [.str (S l)]=.ok (.int (l.length:Nat)):=by rw[V5 (by rw[zY,jKj];omega),zY]
def JY (A:Str)(c:Nat):zC 1 (zm (uq (eUn (wq "str") (za 0)) (uq (zc (eqR false) (eL ya (zb (za 0) ze)) (eC (.int 1))) (zc Wk (za 0) (eC (.str A)))))) [.str (one c)]=.ok (.bl (decide (c∈A.cps.toList))):=by
 have h1:wq "str" (.str (one c))=.ok (.bl true):=rfl;have h2:=z3z [c] (by simp);have h2:ya [.str (one c)]=.ok (.int 1):=h2;have h3:Wk (.str (one c)) (.str A)=.ok (.bl (decide (c∈A.cps.toList))):=by
  show R.ok (D.bl (inS (one c) A))=_;rw[Zt]
 have h4:eqR false (.int 1) (.int 1)=.ok (.bl true):=by rw[Wy];rfl
 generalize one c=z at *;generalize decide (c∈A.cps.toList)=b at *;simp -implicitDefEqProofs only [zC,zm,za,eC,zc,eUn,eL,ze,zb,uq,asB,jYa,tK,rK,tE,tR,sS,sJ,tZ,tU,Nat.reduceSub,rA,if_true,h1,h2,h3,h4]
instance (c:Nat):Decidable (okS c):=by unfold okS;infer_instance
def z1T (c:Nat):vY [.str (one c)]=.ok (.bl (decide (okS c))):=JY Z2 c
def Jm (cs:List Nat):L2.signs (S cs)=cs.map YX:=by
 unfold L2.signs;rw[xy]
 rfl
def Vh (cs:List Nat)(h0:1<=cs.length)(h1:cs.length<=40):yc [.str (S cs)]=.ok (.bl (cs.all fun c=>decide (okS c))):=by
 have i1:wq "str" (.str (S cs))=.ok (.bl true):=rfl;have h2:=z3z cs (by omega);have e1:decide ((1:Int)<=(cs.length:Nat))=true:=decide_eq_true (by omega);have e2:decide (((cs.length:Nat):Int)<=40)=true:=decide_eq_true (by omega);have hc:xE (vw (Tgt.one 0).asg (fun _=>.ok true) (eL vY (zb (za 0) ze)) [none]) (cs.map YX)=.ok (cs.filterMap fun c=>some (D.bl (decide (okS c)))):=vd fun c _=>by
  have:=z1T c;unfold YX;generalize one c=z at *;simp -implicitDefEqProofs only [vw,kf,za,eL,ze,zb,Tgt.asg,jYa,tU,pR,if_true,this]
 have e3:(cs.filterMap fun c=>some (D.bl (decide (okS c))))=(cs.map fun c=>decide (okS c)).map D.bl:=by
  rw[sI];clear hc e2 e1 h2 i1 h1 h0;induction cs with
  | nil=>rfl
  | cons c cs ih=>rw[rF,tK,ih];rfl
 rw[e3]at hc;have hk:=WM (ys:=(cs.map fun c=>decide (okS c)).map D.bl) (by rw[tJ,tJ];omega);have ha:=Qv (bs:=cs.map fun c=>decide (okS c));have e4:((cs.map fun c=>decide (okS c)).all id)=cs.all fun c=>decide (okS c):=by rw[pE];rfl
 rw[e4]at ha;have hs:=Jm cs;have hq:jg (.str (S cs))=.ok (cs.map YX):=by show R.ok (L2.signs (S cs))=_;rw[hs]
 generalize (cs.map fun c=>decide (okS c)).map D.bl=BL at *;generalize (cs.all fun c=>decide (okS c))=r at *;generalize cs.map YX=L at *;generalize ((cs.length:Nat):Int)=l at *;generalize S cs=W at *;simp -implicitDefEqProofs only [yc,qD,wN,qg,qr,zo,zC,zi,zm,sIf,za,eC,eUn,eL,ze,zb,zh,bOr,yJ,yx,yo,asB,jg,jYa,tK,rK,tE,tR,sS,sJ,tZ,tU,Nat.reduceSub,rA,ZX,if_true,if_false,sY,i1,h2,e1,e2,rW,hs,hc,hk,ha]
def z6B (xs:List D):ya [.tup xs]=.ok (.int (xs.length:Nat)):=rfl
def z32 (G:List D->R D)(xs:List D)(lo hi:Int)(h:((xs.length:Nat):Int)<lo\/hi<(xs.length:Nat)):zC 4 (kc G) [.tup xs,.int lo,.int hi]=.ok (.bl false):=by
 have e1:wq "tuple" (.tup xs)=.ok (.bl true):=rfl;have e2:=z6B xs
 by_cases h1:lo<=((xs.length:Nat):Int)
 ·have e3:decide (lo<=((xs.length:Nat):Int))=true:=decide_eq_true h1;have e4:decide (((xs.length:Nat):Int)<=hi)=false:=decide_eq_false (by omega);generalize ((xs.length:Nat):Int)=l at *;simp -implicitDefEqProofs only [kc,wN,qg,qr,V2,zo,zC,zi,zm,sIf,za,eC,eUn,eL,ze,zb,zh,bOr,yJ,yx,yo,asB,jYa,tK,rK,tE,tR,sX,sS,sJ,tZ,tU,sC,Nat.reduceAdd,Nat.reduceSub,rA,ZX,if_true,if_false,sY,e1,e2,e3,e4,rW,pQ]
 ·have e3:decide (lo<=((xs.length:Nat):Int))=false:=decide_eq_false h1;generalize ((xs.length:Nat):Int)=l at *;simp -implicitDefEqProofs only [kc,wN,qg,qr,V2,zo,zC,zi,zm,sIf,za,eC,eUn,eL,ze,zb,zh,bOr,yJ,yx,yo,asB,jYa,tK,rK,tE,tR,sX,sS,sJ,tZ,tU,sC,Nat.reduceAdd,Nat.reduceSub,rA,ZX,if_true,if_false,sY,e1,e2,e3,rW,pQ]
def jj (h:S a=S b):a=b:=by
 have:=congrArg (fun z:Str=>z.cps.toList) h;rw[xy,xy]at this;exact this
def jn (c:List Nat):List (List Nat)->List Nat
 | []=>[]
 | [a]=>a
 | a::b::r=>a++c++jn c (b::r)
def xu (c a:List Nat){r:List (List Nat)}(h:r≠[]):jn c (a::r)=a++c++jn c r:=by
 cases r with
 | nil=>exact absurd rfl h
 | cons b r=>rfl
theorem UY (c:List Nat):∀xs:List (List Nat),Str.join (S c) (xs.map S)=S (jn c xs)
 | []=>rfl
 | [a]=>rfl
 | a::b::r=>by
  show S a++S c++Str.join (S c) ((b::r).map S)=S (a++c++jn c (b::r));rw[UY c (b::r),Ud,Ud]
def spl (c:Nat):List Nat->List (List Nat)
 | []=>[[]]
 | x::s=>if x=c then []::spl c s else match spl c s with
  | []=>[[x]]
  | p::r=>(x::p)::r
def uB (c:Nat):∀s,spl c s≠[]
 | []=>by intro h;cases h
 | x::s=>by
  unfold spl;split
  ·intro h;cases h
  ·split<;>(intro h;cases h)
def vI (c:Nat)(s:List Nat):spl c (c::s)=[]::spl c s:=by rw[spl,jNg rfl]
def vR (h:x≠c)(s:List Nat):∃p r,spl c s=p::r/\spl c (x::s)=(x::p)::r:=by
 cases hs:spl c s with
 | nil=>exact absurd hs (uB c s)
 | cons p r=>exact⟨p,r,rfl,by rw[spl,jNh h,hs]⟩
theorem jq:∀ {a:List Nat},c∉a->∀s,∃p r,spl c s=p::r/\spl c (a++s)=(a++p)::r
 | [],_,s=>by
  cases hs:spl c s with
  | nil=>exact absurd hs (uB c s)
  | cons p r=>exact⟨p,r,rfl,hs⟩
 | x::a,h,s=>by
  obtain⟨p,r,e1,e2⟩:=jq (fun z=>h (tH _ z)) s;obtain⟨p',r',e3,e4⟩:=vR (c:=c) (x:=x) (fun z=>h (by rw[z];exact tG)) (a++s);rw[e2]at e3;cases e3;exact⟨p,r,e1,e4⟩
def WK (h:c∉a):spl c a=[a]:=by
 obtain⟨p,r,e1,e2⟩:=jq h [];cases e1;rw[tI]at e2;exact e2
def z4N (h:c∉a)(s:List Nat):spl c (a++c::s)=a::spl c s:=by
 obtain⟨p,r,e1,e2⟩:=jq h (c::s);rw[vI]at e1;cases e1;rw[e2,tI]
theorem z0D:∀ {A:List (List Nat)},A≠[]->(∀p∈A,c∉p)->spl c (jn [c] A)=A
 | [],h,_=>absurd rfl h
 | [a],_,h=>WK (h a tG)
 | a::b::r,_,h=>by
  show spl c (a++[c]++jn [c] (b::r))=_;rw[tQ];show spl c (a++c::jn [c] (b::r))=_;rw[z4N (h a tG),z0D (by intro z;cases z) fun p hp=>h p (tH _ hp)]
theorem UE (c:Nat):∀s,jn [c] (spl c s)=s
 | []=>rfl
 | x::s=>by
  by_cases hx:x=c
  ·subst hx;rw[vI,xu _ _ (uB x s),UE x s]
   rfl
  ·obtain⟨p,r,e1,e2⟩:=vR hx s;have ih:=UE c s;rw[e1]at ih;rw[e2];cases r with
   | nil=>show x::p=_;exact congrArg (x::·) ih
   | cons q r=>show x::(p++[c]++jn [c] (q::r))=_;exact congrArg (x::·) ih
theorem Wq (c:Nat):∀s,∀p∈spl c s,c∉p
 | [],p,hp=>by rw[sG.mp hp];intro h;cases h
 | x::s,p,hp=>by
  by_cases hx:x=c
  ·subst hx;rw[vI]at hp;rcases tS.mp hp with z|z
   ·rw[z];intro h;cases h
   ·exact Wq x s p z
  ·obtain⟨q,r,e1,e2⟩:=vR hx s;rw[e2]at hp;rcases tS.mp hp with z|z
   ·rw[z];intro h;rcases tS.mp h with y|y
    ·exact hx y.symm
    ·exact Wq c s q (by rw[e1];exact tG) y
   ·exact Wq c s p (by rw[e1];exact tH _ z)
theorem ZA (c:Nat):∀(a s:List Nat),spl c (a++c::s)=spl c a++spl c s
 | [],s=>vI c s
 | x::a,s=>by
  by_cases hx:x=c
  ·subst hx;show spl x (x::(a++x::s))=_;rw[vI,vI,ZA x a s]
   rfl
  ·obtain⟨p,r,e1,e2⟩:=vR hx a;obtain⟨p',r',e3,e4⟩:=vR hx (a++c::s);rw[ZA c a s,e1]at e3;cases e3;show spl c (x::(a++c::s))=_;rw[e4,e2]
   rfl
def J5 (c:Nat)(s:List Nat):Txt.split (S s) (S [c])=(spl c s).map S:=by
 have h1:=StrLaws.join_split (S s) (S [c]);have h2:∀p∈Txt.split (S s) (S [c]),c∉p.cps.toList:=StrLaws.split_free (S s) c;have hne:Txt.split (S s) (S [c])≠[]:=by
  intro h;rw[h]at h1;have h1:S []=S s:=h1;have:s=[]:=(jj h1).symm;subst this;have e:Txt.split (S []) (S [c])=[S []]:=jNg (by
   have:decide ((S []).length<(S [c]).length)=true:=decide_eq_true (by rw[zY,zY];exact Nat.zero_lt_one);rw[this];rfl)
  rw[e]at h;cases h
 generalize Txt.split (S s) (S [c])=P at *;have e1:P=(P.map fun z=>z.cps.toList).map S:=by
  rw[sI];have:(S ∘ fun z:Str=>z.cps.toList)=id:=by funext z;exact (Zf z).symm
  rw[this,List.map_id]
 rw[e1,UY]at h1;have h1:=jj h1;have h3:spl c (jn [c] (P.map fun z=>z.cps.toList))=(P.map fun z=>z.cps.toList):=z0D (by
  intro z;exact hne (List.map_eq_nil_iff.mp z)) (fun p hp=>by
  obtain⟨q,hq,rfl⟩:=rM.mp hp;exact h2 q hq)
 rw[h1]at h3;rw[h3];exact e1
def sp (k:Nat):List Nat:=List.replicate k 32
def uy (s:List Nat):List Nat:=((s.dropWhile (·==32)).reverse.dropWhile (·==32)).reverse
theorem V6:∀(p:Nat->Bool) (s:List Nat),s.drop (s.takeWhile p).length=s.dropWhile p
 | p,[]=>rfl
 | p,x::s=>by
  rw[List.takeWhile_cons,List.dropWhile_cons];split
  ·rw[tE,List.drop_succ_cons,V6 p s]
  ·rfl
def z2E (s:List Nat):Txt.stripChars (S s) (S [32])=S (uy s):=by
 unfold Txt.stripChars;rw[stripBy_eq];have hg:((S [32]).cps.contains:Nat->Bool)=fun c=>c==32:=by
  funext c
  show (#[32]:Array Nat).contains c=_;simp[Array.contains]
  try (by_cases h:c=32<;>simp[h])
 rw[hg];rw[Zf (Builtin.Str.strSub _ _ _),StrLaws.strSub_toList];congr 1;unfold stripLo stripHi;simp only[if_true];rw[xy,zY];rw[V6];have hl:(s.takeWhile (fun c=>c==32)).length+(s.dropWhile (fun c=>c==32)).length=s.length:=by
  rw[<-tD,sT]
 unfold uy;generalize s.dropWhile (fun c=>c==32)=t at *;have e:s.length-(t.reverse.takeWhile (fun c=>c==32)).length-(s.takeWhile (fun c=>c==32)).length=t.length-(t.reverse.takeWhile (fun c=>c==32)).length:=by omega
 rw[e];have e2:=V6 (fun c=>c==32) t.reverse;rw[List.drop_reverse]at e2;have e3:=congrArg List.reverse e2;rw[List.reverse_reverse]at e3;exact e3
def z3b {a b n:Nat}(hab:a<=b)(hb:b<=n):(Builtin.Str.strSliceIndices (some (a:Int)) (some (b:Int)) 1 n).length=b-a:=by
 rw[StrLaws.strSliceIndices_plain hab hb];simp
def z0n (a b n:Nat):Builtin.Str.strSliceIndices (some (a:Int)) (some (b:Int)) 1 n=Builtin.Str.strSliceIndices (some (a:Int)) (some ((min b n:Nat):Int)) 1 n:=by
 have h1:¬((a:Int)<0):=by omega
 have h2:¬((b:Int)<0):=by omega
 have h3:¬(((min b n:Nat):Int)<0):=by omega
 have e:max (0:Int) (min (b:Int) (n:Int))=max (0:Int) (min ((min b n:Nat):Int) (n:Int)):=by omega
 simp only[Builtin.Str.strSliceIndices,h1,h2,h3,if_false,e,show ((1:Int)>0)=True from by simp,if_true]
def qp (cs:List Nat)(b n:Nat)(hb:b<=cs.length):Txt.slice (S cs) (some (b:Int)) (some ((b:Int)+(n:Nat)))=S ((cs.drop b).take n):=by
 have e0:(b:Int)+(n:Nat)=((b+n:Nat):Int):=by omega
 have hle:b<=min (b+n) cs.length:=by omega
 have hle2:min (b+n) cs.length<=(S cs).length:=by rw[zY];omega
 have hp:=StrLaws.sliced_plain (S cs) hle hle2;have hl:=z3b hle hle2;rw[xy]at hp;have et:(cs.drop b).take (min (b+n) cs.length-b)=(cs.drop b).take n:=by
  by_cases h:b+n<=cs.length
  ·congr 1;omega
  ·rw[rL (by rw[rE];omega),rL (by rw[rE];omega)]
 rw[et]at hp;unfold Txt.slice;rw[e0,z0n,zY];rw[zY]at hp hl
 by_cases hw:(Builtin.Str.strSliceIndices (some (b:Int)) (some ((min (b+n) cs.length:Nat):Int)) 1 cs.length).length=cs.length
 ·rw[jNg (by rw[hw];simp)];rw[hl]at hw;have hb0:b=0:=by omega
  subst hb0;rw[gC,rL (by omega)]
 ·rw[jNh (by simp[hw]),hp]
  rfl
def Ue (b n:Nat):Builtin.Str.strSliceIndices none (some (b:Int)) 1 n=Builtin.Str.strSliceIndices (some ((0:Nat):Int)) (some (b:Int)) 1 n:=by
 have h1:¬(((0:Nat):Int)<0):=by omega
 have h2:¬((b:Int)<0):=by omega
 have e:max (0:Int) (min ((0:Nat):Int) (n:Int))=0:=by omega
 simp only[Builtin.Str.strSliceIndices,h1,h2,if_false,e,show ((1:Int)>0)=True from by simp,if_true]
def Vj (a n:Nat):Builtin.Str.strSliceIndices (some (a:Int)) none 1 n=Builtin.Str.strSliceIndices (some (a:Int)) (some (n:Int)) 1 n:=by
 have h1:¬((a:Int)<0):=by omega
 have h2:¬((n:Int)<0):=by omega
 have e:max (0:Int) (min (n:Int) (n:Int))=(n:Int):=by omega
 simp only[Builtin.Str.strSliceIndices,h1,h2,if_false,e,show ((1:Int)>0)=True from by simp,if_true]
def wx (cs:List Nat)(b:Nat)(hb:b<=cs.length):Txt.slice (S cs) (some (b:Int)) none=S (cs.drop b):=by
 have h:=qp cs b (cs.length-b) hb;rw[rL (by rw[rE];omega),show (b:Int)+((cs.length-b:Nat):Int)=((cs.length:Nat):Int) by omega]at h;rw[<-h];unfold Txt.slice;rw[zY,Vj]
def Yd (cs:List Nat)(b:Nat):Txt.slice (S cs) none (some (b:Int))=S (cs.take b):=by
 have h:=qp cs 0 b (rC _);rw[gC,show ((0:Nat):Int)+(b:Int)=(b:Int) by omega]at h;rw[<-h];unfold Txt.slice;rw[zY,Ue]
abbrev big (s:List Nat):Prop:=s.length<=16777216
def uF (h:big s):ya [.str (S s)]=.ok (.int (s.length:Nat)):=by rw[V5 (by rw[zY,jKj];exact h),zY]
def W5 (h:big s){i c:Nat}(hc:s[i]?=some c):ixD (.str (S s)) (.int (i:Nat))=.ok (.str (one c)):=
 US (by rw[zY,jKj];exact h) (uh (by rw[xy];exact hc))
def jZ (h:big s)(lo hi:Option Int):slD (.str (S s)) lo hi=.ok (.str (Txt.slice (S s) lo hi)):=by
 show (if (S s).length<=jMi then _ else _)=_;rw[jNg (by rw[zY,jKj];exact h)]
def UC (a m b:List Nat)(h:big (a++m++b)):slD (.str (S (a++m++b))) (some (a.length:Int)) (some ((a.length+m.length:Nat):Int))=.ok (.str (S m)):=by
 have:=qp (a++m++b) a.length m.length (by rw[tD,tD];omega);rw[show ((a.length:Nat):Int)+((m.length:Nat):Int)=((a.length+m.length:Nat):Int) by omega]at this;rw[jZ h,this,tQ,gD,List.take_left]
def z8X (x:Nat)(s:List Nat)(h:big (x::s)):slD (.str (S (x::s))) (some 1) none=.ok (.str (S s)):=by
 have:=wx (x::s) 1 (by simp);rw[jZ h];have e:Txt.slice (S (x::s)) (some 1) none=S s:=this;rw[e]
def z3Y (x y:Nat)(s:List Nat)(h:big (x::(s++[y]))):slD (.str (S (x::(s++[y])))) (some 1) (some (-1))=.ok (.str (S s)):=by
 have h1:=qp (x::(s++[y])) 1 s.length (by simp);rw[jZ h];have e:Txt.slice (S (x::(s++[y]))) (some 1) (some (-1))=Txt.slice (S (x::(s++[y]))) (some ((1:Nat):Int)) (some (((1:Nat):Int)+(s.length:Nat))):=by
  unfold Txt.slice;rw[StrLaws.sliceIdx_neg_hi (some 1) (S (x::(s++[y]))).length (by decide) (by rw[zY];simp;omega)];have e2:(-1:Int)+((S (x::(s++[y]))).length:Nat)=((1:Nat):Int)+(s.length:Nat):=by rw[zY];simp;omega
  rw[e2]
  rfl
 rw[e,h1];show R.ok (D.str (S ((s++[y]).take s.length)))=_;rw[List.take_left]
def yu (h:big (a++b)):zB (.str (S a)) (.str (S b))=.ok (.str (S (a++b))):=by
 have h:a.length+b.length<=16777216:=by rw[<-tD];exact h
 rw[z1W (by rw[zY,zY,jKj];exact h),Ud]
abbrev enW (s:List Nat):D:=.str (S s)
def z12 (xs:List (List Nat)):((xs.map S).map (·.length)).sum=(xs.map List.length).sum:=by
 rw[sI];have:((fun z:Str=>z.length) ∘ S)=List.length:=by funext x;exact zY x
 rw[this]
theorem uR (c:List Nat):∀xs:List (List Nat),(jn c xs).length<=(xs.map List.length).sum+xs.length*c.length
 | []=>by simp[jn]
 | [a]=>by simp[jn]
 | a::b::r=>by
  have:=uR c (b::r);show (a++c++jn c (b::r)).length<=_;rw[tD,tD,tK,rG,tE (a:=a),gE];omega
def yt (c:List Nat)(xs:List (List Nat))(h:(xs.map List.length).sum+xs.length*c.length<=16777216):yb (S c) [.lst (xs.map enW)]=.ok (.str (S (jn c xs))):=by
 have e:xs.map enW=(xs.map S).map D.str:=by rw[sI];rfl
 rw[e,z1q (by rw[z12,tJ,zY];exact h),UY]
def kB (c:List Nat)(xs:List (List Nat))(h:(xs.map List.length).sum+xs.length*c.length<=16777216):yb (S c) [.tup (xs.map enW)]=.ok (.str (S (jn c xs))):=yt c xs h
def QJ (h:k τ=.ok false):yi k b τ=.ok (.nx τ):=kz (n:=1) (by rw[vB,h];rfl) (by simp)
def QP (h:k τ=.ok true)(hb:b τ=.ok (.nx τ2))(hw:yi k b τ2=.ok f):yi k b τ=.ok f:=by
 rcases Yj (k:=k) (body:=b) (τ:=τ2)with e|⟨n,e,_⟩
 ·rw[e]at hw;cases hw
 ·exact kz (n:=n+1) (by rw[vB,h,jYa,jNg rfl,hb,jYa];rw[hw]at e;exact e) (by simp)
def zj (s:List Nat):List (List Nat):=(spl 32 s).filter (fun p=>!decide (p=[]))
theorem xI (c:Nat):∀s,(spl c s).length<=s.length+1
 | []=>tP _
 | x::s=>by
  have ih:=xI c s
  by_cases hx:x=c
  ·subst hx;rw[vI,tE,tE];omega
  ·obtain⟨p,r,e1,e2⟩:=vR hx s;rw[e1]at ih;rw[e2];simp at ih ⊢;omega
def vE (c:Nat){s:List Nat}(h:s.length<16777216):xO (S s) [.str (S [c])]=.ok (.lst ((spl c s).map enW)):=by
 have e:xO (S s) [.str (S [c])]=.ok (.lst ((Txt.split (S s) (S [c])).map D.str)):=jNg ⟨rfl,by rw[zY,jKj];omega,by rw[J5,tJ,jKj];have:=xI c s;omega⟩;rw[e,J5,sI]
 rfl
def z1Z (a b:List Nat):(S a==S b)=decide (a=b):=by
 by_cases h:a=b
 ·subst h;simp
 ·rw[decide_eq_false h];exact beq_false_of_ne fun z=>h (jj z)
def wY (xs:List (List Nat)):D.imms (xs.map enW)=true:=xj (fun _=>rfl) xs
theorem kb (p:List Nat->Bool):∀xs:List (List Nat),xs.filterMap (fun x=>if p x=true then some (enW x) else none)=(xs.filter p).map enW
 | []=>rfl
 | x::xs=>by
  rw[rF,rY];cases p x
  ·exact kb p xs
  ·simp only[if_true];rw[kb p xs];rfl
def Yu (h:s.length<16777216):yG [.str (S s)]=.ok (.tup ((zj s).map enW)):=by
 have h1:=vE 32 h;have h1:xO (S s) [.str " "]=.ok (.lst ((spl 32 s).map enW)):=h1;have k1:xE (vw (Tgt.one 0).asg (zh (zc (eqR true) (za 0) (eC (.str "")))) (za 0) [none]) ((spl 32 s).map enW)=.ok ((spl 32 s).filterMap fun p=>if (!decide (p=[]))=true then some (enW p) else none):=vd fun p _=>by
  have e:eqR true (enW p) (.str "")=.ok (.bl (!decide (p=[]))):=by
   show eqR true (.str (S p)) (.str (S []))=_;rw[uY,jNg rfl,z1Z]
  generalize (!decide (p=[]))=b at *;generalize enW p=W at *;unfold vw;cases b
  ·simp -implicitDefEqProofs only [za,eC,zc,zh,asB,Tgt.asg,jYa,tU,pR,if_false,sY,kf,e]
  ·simp -implicitDefEqProofs only [za,eC,zc,zh,asB,Tgt.asg,jYa,tU,pR,if_true,kf,e]
 rw[kb]at k1;have i1:z22 (((spl 32 s).filter fun p=>!decide (p=[])).map enW)=.ok (.lst (((spl 32 s).filter fun p=>!decide (p=[])).map enW)):=WM (by rw[tJ];have:=List.length_filter_le (fun p:List Nat=>!decide (p=[])) (spl 32 s);have:=xI 32 s;omega);have t1:zV [.lst (((spl 32 s).filter fun p=>!decide (p=[])).map enW)]=.ok (.tup (((spl 32 s).filter fun p=>!decide (p=[])).map enW)):=jNg (wY _);unfold zj;generalize ((spl 32 s).filter fun p=>!decide (p=[])).map enW=WW at *;generalize (spl 32 s).map enW=SS at *;generalize S s=Z at *;unfold yG Yw;simp -implicitDefEqProofs only [wN,qg,qr,zC,zm,za,eC,eL,ze,zb,yo,jg,jYa,tK,rK,tE,tR,sS,sJ,tZ,tU,Nat.reduceSub,rA,Wz,WZ,h1,k1,i1,t1]
def XH (k:Nat)(s:List Nat):zj (sp k++s)=zj s:=by
 induction k with
 | zero=>rfl
 | succ k ih =>
  show zj (32::(sp k++s))=_;unfold zj at *;rw[vI,rY,jNh (by simp)];exact ih
def Y6 (h:32∉w)(hw:w≠[]):zj w=[w]:=by
 unfold zj;rw[WK h,rY,jNg (by simp[hw])]
 rfl
def z8q:zj []=[]:=rfl
def z73 (a b:Option D)(m:Nat):qV 2 v5 (eC (.int 1)) [a,b,some (.int (m:Nat))]=.ok (.nx [a,b,some (.int ((m+1:Nat):Int))]):=by
 have e:((m+1:Nat):Int)=((m:Nat):Int)+1:=by omega
 rw[e]
 rfl
theorem z5M {K:Tn->R Bool}{p:Nat->Bool}{s:List Nat}{x1:Option D}(h1:∀e c:Nat,s[e]?=some c->K [some (.str (S s)),x1,some (.int (e:Nat))]=.ok (p c))(h2:K [some (.str (S s)),x1,some (.int (s.length:Nat))]=.ok false)(r:List Nat)(hr:r=[]\/∃c q,r=c::q/\p c=false):
  ∀(m a:List Nat),s=a++m++r->(∀c∈m,p c=true)->yi K (qV 2 v5 (eC (.int 1))) [some (.str (S s)),x1,some (.int (a.length:Nat))]=.ok (.nx [some (.str (S s)),x1,some (.int ((a.length+m.length:Nat):Int))])
 | [],a,e,_=>by
  rw[tI]at e;refine QJ ?_;rcases hr with hr|⟨c,q,hr,hc⟩
  ·rw[hr,tI]at e;rw[<-e];exact h2
  ·have:s[a.length]?=some c:=by rw[e,hr];simp
   rw[h1 _ c this,hc]
 | c::m,a,e,hm=>by
  have hc:s[a.length]?=some c:=by rw[e];simp
  have ih:=z5M h1 h2 r hr m (a++[c]) (by rw[e];simp) fun x hx=>hm x (tH _ hx);have e1:(a++[c]).length=a.length+1:=by simp
  rw[e1]at ih;have e2:a.length+1+m.length=a.length+(c::m).length:=by simp;omega
  rw[e2]at ih;exact QP (by rw[h1 _ c hc,hm c tG]) (z73 _ _ _) ih
def tWE:vh=zC 3 (zi (zu 2 (za 1)) (zi (yi KW (qV 2 v5 (eC (.int 1)))) (zm (uT (za 2))))):=rfl
def tBE:wd=zC 3 (zi (zu 2 (za 1)) (zi (yi KB (qV 2 v5 (eC (.int 1)))) (zm (uT (za 2))))):=rfl
def pW (c:Nat):Bool:=!decide (c∈[32,123])
def pB (c:Nat):Bool:=decide (c=32)
def Yp {s:List Nat}{e c:Nat}(h:s[e]?=some c):e<s.length:=(tN.mp h).1
def Kw (c d:Nat):eqR false (.str (one c)) (.str (one d))=.ok (.bl (decide (c=d))):=by
 rw[uY,jNh tO];show R.ok (D.bl (S [c]==S [d]))=_;rw[z1Z];congr 2;simp
def z66 {s:List Nat}(hb:big s)(x1:Option D)(e c:Nat)(h:s[e]?=some c):KW [some (.str (S s)),x1,some (.int (e:Nat))]=.ok (pW c):=by
 have h1:=uF hb;have h2:=W5 hb h;have h3:decide (((e:Nat):Int)<(s.length:Nat))=true:=decide_eq_true (by have:=Yp h;omega);have h4:Z4 (.str (one c)) (.str " {")=.ok (.bl (pW c)):=by
  show R.ok (D.bl (!inS (one c) " {"))=_;rw[Zt]
  rfl
 generalize pW c=b at *;generalize one c=C at *;generalize ((e:Nat):Int)=E at *;generalize ((s.length:Nat):Int)=l at *;generalize S s=Z at *;unfold KW;cases b<;>simp -implicitDefEqProofs only [za,eC,zc,eL,ze,zb,zh,u5,asB,jYa,tU,sC,Qp,if_true,h1,h2,h3,h4]
def z7F {s:List Nat}(hb:big s)(x1:Option D)(e c:Nat)(h:s[e]?=some c):KB [some (.str (S s)),x1,some (.int (e:Nat))]=.ok (pB c):=by
 have h1:=uF hb;have h2:=W5 hb h;have h3:decide (((e:Nat):Int)<(s.length:Nat))=true:=decide_eq_true (by have:=Yp h;omega);have h4:eqR false (.str (one c)) (.str " ")=.ok (.bl (pB c)):=Kw c 32;generalize pB c=b at *;generalize one c=C at *;generalize ((e:Nat):Int)=E at *;generalize ((s.length:Nat):Int)=l at *;generalize S s=Z at *;unfold KB;cases b<;>simp -implicitDefEqProofs only [za,eC,zc,eL,ze,zb,zh,u5,asB,jYa,tU,sC,Qp,if_true,h1,h2,h3,h4]
def z3D (hb:big s)(x1:Option D)(T:Tn->R Bool):u5 (zh (zc ltD (za 2) (eL ya (zb (za 0) ze)))) T [some (.str (S s)),x1,some (.int (s.length:Nat))]=.ok false:=by
 have h1:=uF hb;have h3:decide (((s.length:Nat):Int)<(s.length:Nat))=false:=decide_eq_false (by omega);generalize ((s.length:Nat):Int)=l at *;generalize S s=Z at *;simp -implicitDefEqProofs only [za,zc,eL,ze,zb,zh,u5,asB,jYa,tU,sC,Qp,if_false,sY,h1,h3]
def z6P (K:Tn->R Bool)(z:Str)(b e:Nat)(h:yi K (qV 2 v5 (eC (.int 1))) [some (.str z),some (.int (b:Nat)),some (.int (b:Nat))]=.ok (.nx [some (.str z),some (.int (b:Nat)),some (.int (e:Nat))])):zC 3 (zi (zu 2 (za 1)) (zi (yi K (qV 2 v5 (eC (.int 1)))) (zm (uT (za 2))))) [.str z,.int (b:Nat)]=.ok (.int (e:Nat)):=by
 generalize yi K (qV 2 v5 (eC (.int 1)))=W at *;generalize ((b:Nat):Int)=B at *;generalize ((e:Nat):Int)=E at *;simp -implicitDefEqProofs only [z24,z1G,zC,zi,zu,zm,za,jYa,tK,rK,tE,tR,sX,sS,sJ,tZ,tU,sC,pR,List.set_cons_succ,Nat.reduceAdd,Nat.reduceSub,rA,h]
def z0q (a m r:List Nat)(hb:big (a++m++r))(hm:∀c∈m,pW c=true)(hr:r=[]\/∃c q,r=c::q/\pW c=false):vh [.str (S (a++m++r)),.int (a.length:Nat)]=.ok (.int ((a.length+m.length:Nat):Int)):=by
 rw[tWE];exact z6P KW _ _ _ (z5M (K:=KW) (fun e c h=>z66 hb _ e c h) (z3D hb _ _) r hr m a rfl hm)
def Uv (a m r:List Nat)(hb:big (a++m++r))(hm:∀c∈m,pB c=true)(hr:r=[]\/∃c q,r=c::q/\pB c=false):wd [.str (S (a++m++r)),.int (a.length:Nat)]=.ok (.int ((a.length+m.length:Nat):Int)):=by
 rw[tBE];exact z6P KB _ _ _ (z5M (K:=KB) (fun e c h=>z7F hb _ e c h) (z3D hb _ _) r hr m a rfl hm)
def XM (a m r:List Nat)(c:Nat)(hm:c∉m):qe (S (a++m++c::r)) [.str (S [c]),.int (a.length:Nat)]=.ok (.int ((a.length+m.length:Nat):Int)):=by
 show R.ok (D.int (Txt.find3 (S (a++m++c::r)) ⟨#[c]⟩ (a.length:Nat)))=_;have hf:fromIndex (S (a++m++c::r)).length ((a.length:Nat):Int)=a.length:=by
  unfold fromIndex;rw[jNh (by omega)];omega
 have hat:∀k x:Nat,(a++m++c::r)[k]?=some x->(S (a++m++c::r)).cps.getD k 0=x:=fun k x h=>StrLaws.getD_of_getElem? (by rw[xy];exact h);have hc:(S (a++m++c::r)).cps.getD (a.length+m.length) 0=c:=hat _ _ (by
  rw[rR (by rw[tD];omega),tD];simp)
 have hlen:a.length+m.length<(S (a++m++c::r)).length:=by rw[zY,tD,tD,tE];omega
 have hno:∀v,a.length<=v->v<a.length+m.length->(S (a++m++c::r)).cps.getD v 0≠c:=by
  intro v h1 h2 e;have hv:v-a.length<m.length:=by omega
  have:(a++m++c::r)[v]?=some m[v-a.length]:=by
   rw[pA (by rw[tD];omega),rR h1,sO hv]
  rw[hat v _ this]at e;exact hm (by rw[<-e];exact pP hv)
 rcases StrLaws.find3_spec (S (a++m++c::r)) c ((a.length:Nat):Int)with⟨_,h⟩|⟨k,e,k1,k2,k3,k4⟩
 ·rw[hf]at h;exact absurd hc (h _ (by omega) hlen)
 ·rw[hf]at k1 k4;have h1:¬k<a.length+m.length:=fun h=>hno k k1 h k3;have h2:¬a.length+m.length<k:=fun h=>k4 _ (by omega) h hc;rw[e,show k=a.length+m.length by omega]
def xp (h:Y r fun v=>v=d):r=.ok d:=by obtain⟨_,e,rfl⟩:=h;exact e
def isW (w:List Nat):Bool:=decide (1<=w.length/\w.length<=40)&&w.all fun c=>decide (okS c)
def Zw (h:big w):yc [enW w]=.ok (.bl (isW w)):=by
 unfold isW
 by_cases hl:1<=w.length/\w.length<=40
 ·rw[show enW w=.str (S w) from rfl,Vh w hl.1 hl.2,decide_eq_true hl,rQ]
 ·have i1:wq "str" (.str (S w))=.ok (.bl true):=rfl;have h2:=uF h;rw[decide_eq_false hl,rS];show yc [.str (S w)]=_;rcases Nat.lt_or_ge w.length 1 with h|h
  ·have e1:decide ((1:Int)<=(w.length:Nat))=false:=decide_eq_false (by omega);generalize ((w.length:Nat):Int)=l at *;generalize S w=W at *;simp -implicitDefEqProofs only [yc,qD,wN,qg,qr,zo,zC,zi,zm,sIf,za,eC,eUn,eL,ze,zb,zh,bOr,yJ,yx,yo,asB,jYa,tK,rK,tE,tR,sS,sJ,tZ,tU,Nat.reduceSub,rA,ZX,if_true,if_false,sY,i1,h2,e1,rW,pQ]
  ·have e1:decide ((1:Int)<=(w.length:Nat))=true:=decide_eq_true (by omega);have e2:decide (((w.length:Nat):Int)<=40)=false:=decide_eq_false (by omega);generalize ((w.length:Nat):Int)=l at *;generalize S w=W at *;simp -implicitDefEqProofs only [yc,qD,wN,qg,qr,zo,zC,zi,zm,sIf,za,eC,eUn,eL,ze,zb,zh,bOr,yJ,yx,yo,asB,jYa,tK,rK,tE,tR,sS,sJ,tZ,tU,Nat.reduceSub,rA,ZX,if_true,if_false,sY,i1,h2,e1,e2,rW,pQ]
def qX {α:Type}{G:List D->R D}{en:α->D}{b:α->Bool}{xs:List α}(hG:∀x∈xs,G [en x]=.ok (.bl (b x))){lo hi:Int}(hh:hi<=10000):zC 4 (kc G) [.tup (xs.map en),.int lo,.int hi]=.ok (.bl (decide (lo<=(xs.length:Nat)/\((xs.length:Nat):Int)<=hi)&&xs.all b)):=by
 by_cases h:lo<=(xs.length:Nat)/\((xs.length:Nat):Int)<=hi
 ·rw[decide_eq_true h,rQ];exact z2L G en b xs hG lo hi (by omega) h.1 h.2
 ·rw[decide_eq_false h,rS];exact z32 G (xs.map en) lo hi (by rw[tJ];omega)
abbrev Nt:=List (List Nat)
abbrev Pm:=List Nat×List Nt
abbrev enN (n:Nt):D:=.tup (n.map enW)
abbrev enP (p:Pm):D:=.tup [enW p.1,.tup (p.2.map enN)]
def isN (n:Nt):Bool:=decide ((1:Int)<=(n.length:Nat)/\((n.length:Nat):Int)<=30)&&n.all isW
def JX (p:Pm):Bool:=isW p.1&&(decide ((0:Int)<=(p.2.length:Nat)/\((p.2.length:Nat):Int)<=3)&&p.2.all isN)
def z2D {n:Nt}(h:∀w∈n,big w):wB [enN n]=.ok (.bl (isN n)):=by
 refine xp ?_
 delta wB XB
 refine zQ (go ?_);exact zd (qX (G:=yc) (fun w hw=>Zw (h w hw)) (by decide)) (go rfl)
def z2z {p:Pm}(h:big p.1)(k:∀n∈p.2,∀w∈n,big w):wH [enP p]=.ok (.bl (JX p)):=by
 refine xp ?_
 delta wH XQ
 refine zQ (go ?_);refine zd (a:=.bl true) rfl (go ?_);refine zd (a:=.bl false) rfl (go ?_);refine zd (Zw h) (go ?_);unfold JX;cases isW p.1 with
 | false=>exact go rfl
 | true =>
  refine go ?_;exact zd (qX (G:=wB) (fun n hn=>z2D (k n hn)) (by decide)) (go rfl)
def isC (c:Nt):Bool:=decide ((0:Int)<=(c.length:Nat)/\((c.length:Nat):Int)<=12)&&c.all isW
def isR (r:List Nt):Bool:=decide ((1:Int)<=(r.length:Nat)/\((r.length:Nat):Int)<=4)&&r.all isC
def isT (t:List (List Nt)):Bool:=(decide ((1:Int)<=(t.length:Nat)/\((t.length:Nat):Int)<=20)&&t.all isR)&&t.all fun r=>decide (r.length=(t.headD []).length)
abbrev enR (r:List Nt):D:=.tup (r.map enN)
abbrev enT (t:List (List Nt)):D:=.tup (t.map enR)
def z2Y {n:Nt}(h:∀w∈n,big w):wy [enN n]=.ok (.bl (isC n)):=by
 refine xp ?_
 delta wy Xw
 refine zQ (go ?_);exact zd (qX (G:=yc) (fun w hw=>Zw (h w hw)) (by decide)) (go rfl)
def z4H {r:List Nt}(h:∀n∈r,∀w∈n,big w):vp [enR r]=.ok (.bl (isR r)):=by
 refine xp ?_
 delta vp VS
 refine zQ (go ?_);exact zd (qX (G:=wy) (fun w hw=>z2Y (h w hw)) (by decide)) (go rfl)
def all_map {α:Type}{b:α->Bool}{xs:List α}:uE [.lst (xs.map fun x=>D.bl (b x))]=.ok (.bl (xs.all b)):=by
 have:=Qv (bs:=xs.map b);rw[sI]at this;rw[show (xs.map fun x=>D.bl (b x))=xs.map (D.bl ∘ b) from rfl,this,pE];rfl
def z0r {t:List (List Nt)}(h:∀r∈t,∀n∈r,∀w∈n,big w):xJ [enT t]=.ok (.bl (isT t)):=by
 refine xp ?_
 delta xJ YN
 refine zQ (go ?_);refine zd (qX (G:=vp) (fun w hw=>z4H (h w hw)) (by decide)) (go ?_);unfold isT;generalize hb:(decide ((1:Int)<=(t.length:Nat)/\((t.length:Nat):Int)<=20)&&t.all isR)=b;cases b with
 | false=>exact go rfl
 | true =>
  have hl:1<=t.length/\t.length<=20:=by
   have:=(tM.mp hb).1;simp only[decide_eq_true_eq]at this;omega
  cases t with
  | nil=>exact absurd hl.1 (by decide)
  | cons r0 t =>
  refine go ?_;refine uz (fun r=>D.bl (decide (r.length=r0.length))) (fun r hr=>go ?_) (go ?_) ?_
  ·refine zd yE (go ?_);exact congrArg D.bl (decide_eq_decide.mpr (by omega))
  ·exact zd all_map (go rfl)
  ·omega
inductive Blk where
 | leaf | head (ws:Nt) | text (ps:List Pm) | table (t:List (List Nt))
abbrev enB:Blk->D
 | .leaf=>.tup [.str "leaf"]
 | .head ws=>.tup [.str "head",enN ws]
 | .text ps=>.tup [.str "text",.tup (ps.map enP)]
 | .table t=>.tup [.str "table",enT t]
def isH (ws:Nt):Bool:=decide ((1:Int)<=(ws.length:Nat)/\((ws.length:Nat):Int)<=12)&&ws.all isW
def isX (ps:List Pm):Bool:=decide ((1:Int)<=(ps.length:Nat)/\((ps.length:Nat):Int)<=200)&&ps.all JX
def qH:Blk->Bool
 | .leaf=>true
 | .head ws=>isH ws
 | .text ps=>isX ps
 | .table t=>isT t
def KC:Blk->Prop
 | .leaf=>True
 | .head ws=>∀w∈ws,big w
 | .text ps=>∀p∈ps,big p.1/\∀n∈p.2,∀w∈n,big w
 | .table t=>∀r∈t,∀n∈r,∀w∈n,big w
def cnt:Blk->Nat
 | .text ps=>(ps.map fun p=>p.2.length).sum
 | _=>0
def tT:R D->Bool
 | .ok (.bl b)=>b
 | _=>false
def tF:R D->Bool
 | .ok (.bl b)=>!b
 | _=>false
def z1P:∀ {r:R D},tT r=true->r=.ok (.bl true)
 | .ok (.bl true),_=>rfl
def z25:∀ {r:R D},tF r=true->r=.ok (.bl false)
 | .ok (.bl false),_=>rfl
def z8E:inD true (.int 2) (.tup [.int 1,.int 2])=.ok (.bl false):=z25 (by decide +kernel)
def Zr (z:Str)(x:D)(c:Bool)(h1:z="head"->zy [x,.int 1,.int 12]=.ok (.bl c))(h2:z="text"->zO [x,.int 1,.int 200]=.ok (.bl c))(h3:z="table"->xJ [x]=.ok (.bl c))(hz:z="head"\/z="text"\/z="table"):zT [.tup [.str z,x]]=.ok (.bl c):=by
 have e1:wq "tuple" (.tup [.str z,x])=.ok (.bl true):=rfl;have e2:ya [.tup [.str z,x]]=.ok (.int 2):=rfl;have e3:=z8E;have e4:wq "str" (.str z)=.ok (.bl true):=rfl;have e5:eqR false (.int 2) (.int 1)=.ok (.bl false):=by rw[Wy];rfl
 unfold zT Y9;generalize zy=G1 at *;generalize zO=G2 at *;generalize xJ=G3 at *;rcases hz with rfl|rfl|rfl
 ·have h1:=h1 rfl;have q1:eqR false (.str "head") (.str "head")=.ok (.bl true):=z1P (by decide +kernel);simp -implicitDefEqProofs only [zo,zC,zi,zm,sIf,za,eC,zc,eUn,eL,ze,zb,zh,bOr,yJ,uq,asB,jYa,tK,rK,tE,tR,sS,sJ,tZ,tU,Nat.reduceSub,rA,uY,yE,Yk,if_true,if_false,sY,e1,e2,e3,e4,e5,q1,h1,rW]
 ·have h1:=h2 rfl;have q1:eqR false (.str "text") (.str "head")=.ok (.bl false):=z25 (by decide +kernel);have q2:eqR false (.str "text") (.str "text")=.ok (.bl true):=z1P (by decide +kernel);simp -implicitDefEqProofs only [zo,zC,zi,zm,sIf,za,eC,zc,eUn,eL,ze,zb,zh,bOr,yJ,uq,asB,jYa,tK,rK,tE,tR,sS,sJ,tZ,tU,Nat.reduceSub,rA,uY,yE,Yk,if_true,if_false,sY,e1,e2,e3,e4,e5,q1,q2,h1,rW]
 ·have h1:=h3 rfl;have q1:eqR false (.str "table") (.str "head")=.ok (.bl false):=z25 (by decide +kernel);have q2:eqR false (.str "table") (.str "text")=.ok (.bl false):=z25 (by decide +kernel);have q3:eqR false (.str "table") (.str "table")=.ok (.bl true):=z1P (by decide +kernel);simp -implicitDefEqProofs only [zo,zC,zi,zm,sIf,za,eC,zc,eUn,eL,ze,zb,zh,bOr,yJ,uq,asB,jYa,tK,rK,tE,tR,sS,sJ,tZ,tU,Nat.reduceSub,rA,uY,yE,Yk,if_true,if_false,sY,e1,e2,e3,e4,e5,q1,q2,q3,h1,rW]
def z2Z:zT [.tup [.str "leaf"]]=.ok (.bl true):=z1P (by decide +kernel)
def VV {b:Blk}(h:KC b):zT [enB b]=.ok (.bl (qH b)):=by
 cases b with
 | leaf=>exact z2Z
 | head ws=>exact Zr _ _ _ (fun _=>qX (G:=yc) (fun w hw=>Zw (h w hw)) (by decide)) (fun z=>absurd z (by decide +kernel)) (fun z=>absurd z (by decide +kernel)) (.inl rfl)
 | text ps=>exact Zr _ _ _ (fun z=>absurd z (by decide +kernel)) (fun _=>qX (G:=wH) (fun p hp=>z2z (h p hp).1 (h p hp).2) (by decide)) (fun z=>absurd z (by decide +kernel)) (.inr (.inl rfl))
 | table t=>exact Zr _ _ _ (fun z=>absurd z (by decide +kernel)) (fun z=>absurd z (by decide +kernel)) (fun _=>z0r h) (.inr (.inr rfl))
def z2t:zT [.tup [.str "text",.non]]=.ok (.bl false):=Zr _ _ _ (fun z=>absurd z (by decide +kernel)) (fun _=>z4R _ _ _ _ rfl) (fun z=>absurd z (by decide +kernel)) (.inr (.inl rfl))
def aw:List Nat->Nat->Nat->Option Nat
 | [],m,_=>some m
 | c::r,m,s=>if c=32 then aw r m 0 else if 40<s+1\/¬okS c then none else aw r (if s=0 then m+1 else m) (s+1)
def awB (l:List Nat)(a b:Int):Bool:=match aw l 0 0 with
 | some m=>decide (a<=(m:Nat)/\((m:Nat):Int)<=b)
 | none=>false
def z54 (c d:Nat):eqR false (YX c) (enW [d])=.ok (.bl (decide (c=d))):=Kw c d
def z13 (c d:Nat):eqR true (YX c) (enW [d])=.ok (.bl (!decide (c=d))):=by
 rw[show YX c=.str (S [c]) from rfl,uY,jNg rfl,z1Z];congr 3;exact decide_eq_decide.mpr (by simp)
def QG (c:Nat)(r:List Nat)(m s:Nat):aw (c::r) m s=if c=32 then aw r m 0 else if 40<s+1\/¬okS c then none else aw r (if s=0 then m+1 else m) (s+1):=rfl
def z7R (c:Nat):Z4 (YX c) (.str Z2)=.ok (.bl (!decide (okS c))):=by
 show R.ok (D.bl (!inS (one c) Z2))=_;rw[Zt];rfl
def qy (h:big l)(a b:Int):zG [enW l,.int a,.int b]=.ok (.bl (awB l a b)):=by
 refine xp ?_
 delta zG u9
 refine zQ (go ?_);rw[Jm];refine z5o (enc:=YX) (fun r τ=>∃(m s:Nat) (x:Option D),τ=[some (enW l),some (.int a),some (.int b),some (.str Z2),some (.int (m:Nat)),some (.int (s:Nat)),x]/\aw l 0 0=aw r m s) ⟨0,0,none,rfl,rfl⟩ ?_ ?_
 ·rintro c r _ ⟨m,s,x,rfl,e⟩;refine go ?_;refine zd (z54 c 32) (go ?_);rw[QG]at e
  by_cases hc:c=32
  ·rw[decide_eq_true hc];rw[jNg hc]at e;refine go ?_;refine zd (z13 c 32) (go ?_);rw[decide_eq_true hc];refine go ?_;exact⟨m,0,_,rfl,e⟩
  ·rw[decide_eq_false hc];rw[jNh hc]at e;refine go ?_;refine zd Wt (go ?_);have hm:(m:Int)+(if decide ((s:Int)=0)=true then 1 else 0)=((if s=0 then m+1 else m:Nat):Int):=by
    by_cases z:s=0
    ·rw[jNg z,jNg (by simp[z])];rfl
    ·rw[jNh z,jNh (by simpa using z),Int.add_zero]
   rw[hm];refine yA (fun h1=>go ?_) fun h1=>go ?_
   ·rw[jNg (.inl (by omega))]at e;unfold awB;rw[e]
   ·refine zd (z13 c 32) (go ?_);rw[decide_eq_false hc];refine go ?_;refine zd (z7R c) (go ?_)
    by_cases ho:okS c
    ·rw[decide_eq_true ho];rw[jNh (by rintro (z|z);omega;exact z ho)]at e;refine go ?_;exact⟨_,s+1,_,rfl,e⟩
    ·rw[decide_eq_false ho];rw[jNg (.inr ho)]at e;refine go ?_;unfold awB;rw[e]
 ·rintro _ ⟨m,s,x,rfl,e⟩;refine go ?_;have e:aw l 0 0=some m:=e;unfold awB;rw[e];refine yA (fun h1=>go ?_) fun h1=>go ?_
  ·exact congrArg D.bl (decide_eq_decide.mpr ⟨fun z=>⟨h1,z⟩,fun z=>z.2⟩)
  ·exact congrArg D.bl (decide_eq_false fun z=>h1 z.1).symm
def QV:zj []=[]:=rfl
def Ye (a b:List Nat):zj (a++32::b)=zj a++zj b:=by unfold zj;rw[ZA,pJ]
theorem Yb:∀(l u:List Nat) (m:Nat),32∉u->(∀c∈u,okS c)->u.length<=40 ->
  aw l m u.length=if (zj (u++l)).all isW then some (m+(zj (u++l)).length-if u=[] then 0 else 1) else none
 | [],u,m,h1,h2,h3=>by
  rw[tI]
  by_cases hu:u=[]
  ·subst hu;rw[jNg rfl];rfl
  ·have hw:isW u=true:=by
    unfold isW;have:1<=u.length:=Nat.pos_of_ne_zero fun z=>hu (pD.mp z);rw[decide_eq_true ⟨this,h3⟩,rQ,sD];exact fun c hc=>decide_eq_true (h2 c hc)
   rw[Y6 h1 hu,jNg (by simp[hw]),jNh hu]
   rfl
 | c::r,u,m,h1,h2,h3=>by
  rw[QG]
  by_cases hc:c=32
  ·subst hc;have ih:=Yb r [] m (by simp) (by simp) (by simp);rw[jNg rfl,Ye];have ih:aw r m 0=_:=ih;rw[ih,jNg rfl,tZ]
   by_cases hu:u=[]
   ·subst hu;rw[jNg rfl];rfl
   ·have hw:isW u=true:=by
     unfold isW;have:1<=u.length:=Nat.pos_of_ne_zero fun z=>hu (pD.mp z);rw[decide_eq_true ⟨this,h3⟩,rQ,sD];exact fun c hc=>decide_eq_true (h2 c hc)
    rw[Y6 h1 hu,jNh hu];show _=if (u::zj r).all isW=true then some (m+(zj r).length.succ-1) else none;rw[rP,hw,rQ]
    rfl
  ·rw[jNh hc]
   by_cases hx:40<u.length+1\/¬okS c
   ·rw[jNg hx,jNh];obtain⟨p,q,e1,e2⟩:=jq (c:=32) (a:=u++[c]) (by simp[h1];exact fun z=>hc z.symm) r;rw[tQ]at e2;have e2:spl 32 (u++c::r)=(u++[c]++p)::q:=e2;have e3:zj (u++c::r)=(u++[c]++p)::q.filter (fun p=>!decide (p=[])):=by
     unfold zj;rw[e2,rY,jNg (by simp)]
    rw[e3,rP];intro z;have z:=(tM.mp z).1;unfold isW at z;obtain⟨z1,z2⟩:=tM.mp z;rw[decide_eq_true_eq]at z1;rw[sD]at z2;rcases hx with hx|hx
    ·simp at z1;omega
    ·exact hx (of_decide_eq_true (z2 c (by simp)))
   ·rw[jNh hx];have ih:=Yb r (u++[c]) (if u.length=0 then m+1 else m) (by simp[h1];exact fun z=>hc z.symm) (by
     intro d hd;rcases tX.mp hd with z|z
     ·exact h2 d z
     ·rw[sG.mp z];exact Classical.not_not.mp fun z=>hx (.inr z)) (by rw[tD];simp;omega)
    rw[tD,tQ]at ih;have ih:aw r (if u.length=0 then m+1 else m) (u.length+1)=_:=ih;rw[ih];have e1:u++([c]++r)=u++c::r:=rfl;rw[e1,jNh (show u++[c]≠[] by simp)]
    by_cases hu:u=[]
    ·subst hu;rw[jNg rfl,jNg (show ([]:List Nat).length=0 from rfl),show m+1+(zj ([]++c::r)).length-1=m+(zj ([]++c::r)).length-0 by omega]
    ·rw[jNh hu,jNh fun z=>hu (pD.mp z)]
def qU (l:List Nat)(a b:Int):awB l a b=((zj l).all isW&&decide (a<=((zj l).length:Nat)/\(((zj l).length:Nat):Int)<=b)):=by
 unfold awB;have h:aw l 0 0=_:=Yb l [] 0 (by simp) (by simp) (by simp);rw[h,tZ,jNg rfl];cases (zj l).all isW with
 | false=>rfl
 | true=>rw[jNg rfl,rA,rQ];rfl
def Xn (a m:List Nat)(c:Nat)(hm:c∉m):qe (S (a++m)) [.str (S [c]),.int (a.length:Nat)]=.ok (.int (-1)):=by
 show R.ok (D.int (Txt.find3 (S (a++m)) ⟨#[c]⟩ (a.length:Nat)))=_;have hf:fromIndex (S (a++m)).length ((a.length:Nat):Int)=a.length:=by
  unfold fromIndex;rw[jNh (by omega)];omega
 rcases StrLaws.find3_spec (S (a++m)) c ((a.length:Nat):Int)with⟨e,_⟩|⟨k,e,k1,k2,k3,k4⟩
 ·rw[e]
 ·exfalso;rw[hf]at k1;rw[zY,tD]at k2;have hv:k-a.length<m.length:=by omega
  have hg:(a++m)[k]?=some m[k-a.length]:=by rw[rR k1,sO hv]
  have:(S (a++m)).cps.getD k 0=m[k-a.length]:=StrLaws.getD_of_getElem? (by rw[xy];exact hg);rw[this]at k3;exact hm (k3▸pP hv)
def z4h (h:k τ=.ok true)(hb:b τ=.ok (.rt d)):yi k b τ=.ok (.rt d):=kz (n:=1) (by rw[vB,h,jYa,jNg rfl,hb];rfl) (by simp)
def z5K (I:Tn->Prop)(μ:Tn->Nat)(hs:∀τ,I τ->Y (k τ) fun x=>if x=true then Y (b τ) fun f=>(∃τ2,f=.nx τ2/\I τ2/\μ τ2<μ τ)\/∃d,f=.rt d/\Q (.rt d) else Q (.nx τ)):∀ {τ:Tn},I τ->Y (yi k b τ) Q:=by
 have key:∀n τ,μ τ<n->I τ->Y (yi k b τ) Q:=by
  intro n
  induction n with
  | zero=>intro τ h;omega
  | succ n ih =>
   intro τ hn hI;obtain⟨x,e,h⟩:=hs τ hI;cases x with
   | false=>exact⟨_,QJ e,h⟩
   | true =>
    obtain⟨f,e2,h⟩:=h;rcases h with⟨τ2,rfl,h1,h2⟩|⟨d,rfl,h1⟩
    ·obtain⟨f,e3,h3⟩:=ih τ2 (by omega) h1;exact⟨f,QP e e2 e3,h3⟩
    ·exact⟨_,z4h e e2,h1⟩
 exact fun {τ} h=>key _ τ (rN _) h
def wt:List Nat->Option (List Nat×List Nat)
 | []=>none
 | c::r=>if c=125 then some ([],r) else (wt r).map fun p=>(c::p.1,p.2)
theorem yW:∀ {r x t:List Nat},wt r=some (x,t)->r=x++125::t/\125∉x
 | [],_,_,h=>by cases h
 | c::r,x,t,h=>by
  unfold wt at h;split at h
  ·rename_i hc;cases h;exact⟨by rw[hc];rfl,by simp⟩
  ·rename_i hc;obtain⟨p,e1,e2⟩:=tV.mp h;obtain⟨x',t'⟩:=p;obtain⟨h1,h2⟩:=yW e1;cases e2;exact⟨by rw[h1];rfl,by simp[h2];exact fun z=>hc z.symm⟩
theorem kJ:∀ {r:List Nat},wt r=none->125∉r
 | [],_=>by simp
 | c::r,h=>by
  unfold wt at h;split at h
  ·cases h
  ·rename_i hc;have:=kJ (Option.map_eq_none_iff.mp h);simp[this];exact fun z=>hc z.symm
def NF:Nat->List Nat->Option (List (List Nat)×List Nat)
 | n+1,123::r=>(wt r).bind fun p=>(NF n p.2).map fun q=>(p.1::q.1,q.2)
 | _,l=>some ([],l)
def Yl (h:∀r,l≠123::r):NF n l=some ([],l):=by
 cases n with
 | zero=>cases l<;>rfl
 | succ n =>
  unfold NF;split
  ·rename_i r _;exact absurd rfl (h r)
  ·rfl
def z1S:∀ {n m:Nat} {l:List Nat},l.length<n->l.length<m->NF n l=NF m l:=by
 intro n
 induction n with
 | zero=>intro m l h;omega
 | succ n ih =>
  intro m l h1 h2;cases m with
  | zero=>omega
  | succ m =>
   by_cases hl:∃r,l=123::r
   ·obtain⟨r,rfl⟩:=hl;show (wt r).bind _=(wt r).bind _;cases hc:wt r with
    | none=>rfl
    | some p =>
     obtain⟨x,t⟩:=p;have:=congrArg List.length (yW hc).1;rw[tD,tE]at this;rw[tE]at h1 h2;show (NF n t).map _=(NF m t).map _;rw[ih (m:=m) (by omega) (by omega)]
   ·have:∀r,l≠123::r:=fun r z=>hl ⟨r,z⟩;rw[Yl this,Yl this]
def NL (l:List Nat):Option (List (List Nat)×List Nat):=NF (l.length+1) l
def uO (h:∀r,l≠123::r):NL l=some ([],l):=Yl h
def WI (h:wt r=none):NL (123::r)=none:=by
 show (wt r).bind _=none;rw[h];rfl
def Zy (h:wt r=some (x,t)):NL (123::r)=(NL t).map fun q=>(x::q.1,q.2):=by
 have:=congrArg List.length (yW h).1;rw[tD,tE]at this;show (wt r).bind _=_;rw[h];show (NF (r.length+1) t).map _=_;rw[z1S (m:=t.length+1) (by omega) (by omega)]
 rfl
def z4I:∀ {n:Nat} {l:List Nat} {xs:List (List Nat)} {t:List Nat},l.length<n->NL l=some (xs,t)->t.length<=l.length/\(∀r,t≠123::r):=by
 intro n
 induction n with
 | zero=>intro l xs t h;omega
 | succ n ih =>
  intro l xs t h e
  by_cases hl:∃r,l=123::r
  ·obtain⟨r,rfl⟩:=hl;cases hc:wt r with
   | none=>rw[WI hc]at e;cases e
   | some p =>
    obtain⟨x,t'⟩:=p;rw[Zy hc]at e;obtain⟨q,e1,e2⟩:=tV.mp e;have:=congrArg List.length (yW hc).1;rw[tD,tE]at this;rw[tE]at h ⊢;cases e2;obtain⟨h1,h2⟩:=ih (by omega) e1;exact⟨by omega,h2⟩
  ·have hl:∀r,l≠123::r:=fun r z=>hl ⟨r,z⟩;rw[uO hl]at e;cases e;exact⟨tP _,hl⟩
abbrev Rw:=List Nat×List (List Nat)
def okT:List Nat->Bool
 | []=>true
 | c::_=>decide (c=32)
def PF:Nat->List Nat->Option (List Rw)
 | n+1,c::u=>(NL ((c::u).dropWhile pW)).bind fun p=>if okT p.2=true then (PF n (p.2.dropWhile pB)).map fun r=>((c::u).takeWhile pW,p.1)::r else none
 | _,_=>some []
def Ui (p:Nat->Bool)(l:List Nat):(l.dropWhile p).length<=l.length:=(List.dropWhile_sublist p).length_le
def vZ (hl:l≠[])(h:NL (l.dropWhile pW)=some (xs,t))(ho:okT t=true):(t.dropWhile pB).length<l.length:=by
 have h1:=(z4I (rN _) h).1;have h2:=Ui pW l;cases t with
 | nil =>
  have:0<l.length:=pG.mpr hl
  simpa using this
 | cons c q =>
  have hc:c=32:=of_decide_eq_true ho;subst hc;have h3:=Ui pB q;rw[tE]at h1;rw[pH (by decide)];omega
def z2v:∀ {n m:Nat} {l:List Nat},l.length<n->l.length<m->PF n l=PF m l:=by
 intro n
 induction n with
 | zero=>intro m l h;omega
 | succ n ih =>
  intro m l h1 h2;cases m with
  | zero=>omega
  | succ m =>
   cases l with
   | nil=>rfl
   | cons c u =>
    show (NL _).bind _=(NL _).bind _;cases hn:NL ((c::u).dropWhile pW)with
    | none=>rfl
    | some p =>
     obtain⟨xs,t⟩:=p;show (if okT t=true then (PF n (t.dropWhile pB)).map _ else none)=if okT t=true then (PF m (t.dropWhile pB)).map _ else none
     by_cases ho:okT t=true
     ·rw[jNg ho,jNg ho];have:=vZ (by simp) hn ho;rw[ih (m:=m) (by omega) (by omega)]
     ·rw[jNh ho,jNh ho]
def PL (l:List Nat):Option (List Rw):=PF (l.length+1) l
def z0N:PL []=some []:=rfl
def uk (hl:l≠[]):PL l=(NL (l.dropWhile pW)).bind fun p=>if okT p.2=true then (PL (p.2.dropWhile pB)).map fun r=>(l.takeWhile pW,p.1)::r else none:=by
 cases l with
 | nil=>exact absurd rfl hl
 | cons c u =>
  show (NL _).bind _=_;cases hn:NL ((c::u).dropWhile pW)with
  | none=>rfl
  | some p =>
   obtain⟨xs,t⟩:=p;show (if okT t=true then (PF (c::u).length (t.dropWhile pB)).map _ else none)=if okT t=true then (PL (t.dropWhile pB)).map _ else none
   by_cases ho:okT t=true
   ·rw[jNg ho,jNg ho];have:=vZ (by simp) hn ho;unfold PL;rw[z2v (m:=(t.dropWhile pB).length+1) this (rN _)]
   ·rw[jNh ho,jNh ho]
abbrev enQ (r:Rw):D:=enP (r.1,r.2.map zj)
def z8e:Option (List Rw)->D
 | some rs=>.tup (rs.map enQ)
 | none=>.non
def Q9 (c d:Nat):decide (one c=S [d])=decide (c=d):=decide_eq_decide.mpr ⟨fun h=>by have:=jj h;simpa using this,fun h=>by rw[h];rfl⟩
abbrev KN:Tn->R Bool:=u5 (zh (zc ltD (za 3) (eL ya (zb (za 0) ze)))) (zh (zc (eqR false) (zc ixD (za 0) (za 3)) (eC (.str "{"))))
abbrev BN:Tn->R Fl:=zi (zu 6 (eSm qe (za 0) (zb (eC (.str "}")) (zb (za 3) ze)))) (zi (sIf (zh (zc ltD (za 6) (eC (.int 0)))) (zm (eC .non)) zo) (zi (vq 5 (eL yG (zb (eSl (za 0) (zX (zc zB (za 3) (eC (.int 1)))) (zX (za 6))) ze))) (zu 3 (zc zB (za 6) (eC (.int 1))))))
abbrev enX (x:List Nat):D:=enN (zj x)
def Ur (el:l=a++r)(hb:l.length<16777216){x1 x2 x4 x6:Option D}:Y (yi KN BN [some (enW l),x1,x2,some (.int (a.length:Nat)),x4,some (.lst []),x6]) fun f=>match NL r with
  | none=>f=.rt .non
  | some p=>∃a' x6',l=a'++p.2/\f=.nx [some (enW l),x1,x2,some (.int (a'.length:Nat)),x4,some (.lst (p.1.map enX)),x6']:=by
 have hbig:big l:=gB hb;refine z5K (fun τ=>∃(a' t:List Nat) (ys:List (List Nat)) (x6':Option D),l=a'++t/\τ=[some (enW l),x1,x2,some (.int (a'.length:Nat)),x4,some (.lst (ys.map enX)),x6']/\(NL r=(NL t).map fun p=>(ys++p.1,p.2))/\ys.length<=a'.length) (fun τ=>l.length-(iAt τ 3).toNat) ?_ ⟨a,r,[],x6,el,rfl,by cases NL r<;>rfl,rC _⟩;rintro _ ⟨a',t,ys,x6',el',rfl,en,hys⟩;have hlen:=congrArg List.length el';rw[tD]at hlen;refine go ?_;refine zd (uF hbig) (go ?_);cases t with
 | nil =>
  rw[decide_eq_false (by simp at hlen;omega)];refine go ?_;rw[uO (l:=[]) (by intro _ z;cases z)]at en;rw[jNh tO,en];exact⟨a',x6',el',by dsimp only;rw[tI]⟩
 | cons c t =>
  rw[decide_eq_true (by simp at hlen;omega)];refine go ?_;refine zd (W5 hbig (i:=a'.length) (c:=c) (by rw[el'];simp)) (go ?_);rw[show decide (one c=("{":Str))=decide (c=123) from Q9 c 123]
  by_cases hc:c=123
  ·subst hc;rw[decide_eq_true rfl,jNg rfl];refine go ?_;cases hcut:wt t with
   | none =>
    have hf:=Xn a' (123::t) 125 (by simp[kJ hcut]);rw[<-el']at hf;refine zd hf (go ?_);rw[WI hcut]at en;rw[en];exact .inr ⟨_,rfl,rfl⟩
   | some p =>
    obtain⟨x,t'⟩:=p;obtain⟨e1,hx⟩:=yW hcut;have el2:l=a'++(123::x)++125::t':=by rw[el',e1];simp
    have hf:=XM a' (123::x) t' 125 (by simp[hx]);rw[<-el2]at hf;refine zd hf (go ?_);rw[show decide ((((a'.length+(123::x).length:Nat):Int))<0)=false from decide_eq_false (by omega)];refine go ?_;have hs:slD (.str (S l)) (some ((a'.length:Int)+1)) (some ((a'.length+(123::x).length:Nat):Int))=.ok (.str (S x)):=by
     have h:=UC (a'++[123]) x (125::t') (by rw[show a'++[123]++x++125::t'=l by rw[el2];simp];exact hbig);rw[show a'++[123]++x++125::t'=l by rw[el2];simp]at h;rw[<-h];congr 3<;>simp<;>omega
    refine zd hs (go ?_);have hx2:=congrArg List.length el2;simp only[tD,tE]at hx2;refine zd (Yu (by omega)) (go ?_);have hi:((a'.length+(123::x).length:Nat):Int)+1=((a'++123::x++[125]).length:Nat):=by simp;omega
    rw[hi];refine .inl ⟨_,rfl,⟨a'++123::x++[125],t',ys++[x],_,by rw[el2];simp,rfl,?_,by simp;omega⟩,?_⟩
    ·rw[en,Zy hcut];cases NL t' with
     | none=>rfl
     | some q=>show some (ys++(x::q.1),q.2)=some (ys++[x]++q.1,q.2);rw[tQ];rfl
    ·show l.length-(((a'++123::x++[125]).length:Nat):Int).toNat<l.length-((a'.length:Nat):Int).toNat;simp only[tD,tE,tR,rV];omega
  ·rw[decide_eq_false hc,jNh tO];rw[uO (l:=c::t) (by intro r z;cases z;exact hc rfl)]at en;rw[en];exact⟨a',x6',el',by dsimp only;rw[tI]⟩
theorem Wb (p:Nat->Bool):∀ {l:List Nat} {c:Nat},c∈l.takeWhile p->p c=true
 | x::l,c,h=>by
  rw[List.takeWhile_cons]at h;split at h
  ·rename_i hx;rcases tS.mp h with z|z
   ·rw[z];exact hx
   ·exact Wb p z
  ·cases h
def imQ (r:Rw):(enQ r).imm=true:=by
 show (true&&(D.imms ((r.2.map zj).map enN)&&true))=true;rw[xj (f:=enN) fun n=>wY n];rfl
def Ki (hb:l.length<16777216):vk [enW l]=.ok (z8e (PL l)):=by
 refine xp ?_
 delta vk YE
 refine zQ (go ?_);have hbig:big l:=gB hb;refine z5K (fun τ=>∃(a u:List Nat) (dn:List Rw) (x3 x4 x5 x6:Option D),l=a++u/\τ=[some (enW l),some (.lst (dn.map enQ)),some (.int (a.length:Nat)),x3,x4,x5,x6]/\PL l=(PL u).map (dn++·)/\dn.length<=a.length) (fun τ=>l.length-(iAt τ 2).toNat) ?_ ⟨[],l,[],none,none,none,none,rfl,rfl,?_,rC _⟩
 ·rintro _ ⟨a,u,dn,x3,x4,x5,x6,el,rfl,ep,hdn⟩;have hlen:=congrArg List.length el;rw[tD]at hlen;refine go ?_;refine zd (uF hbig) (go ?_)
  by_cases hu:u=[]
  ·subst hu;rw[decide_eq_false (by simp at hlen;omega),jNh tO];rw[z0N]at ep;refine go ?_;refine zd (XN (xj imQ dn)) (go ?_);rw[ep];show _=D.tup ((dn++[]).map enQ);rw[tI]
  ·have hu0:0<u.length:=pG.mpr hu;rw[decide_eq_true (by omega),jNg rfl];refine go ?_;have em:u.takeWhile pW++u.dropWhile pW=u:=sT;rw[uk hu]at ep;generalize hm:u.takeWhile pW=m at em ep;generalize hr:u.dropWhile pW=r at em ep;have el2:l=a++m++r:=by rw[el,<-em,tQ]
   have hw:=z0q a m r (by rw[<-el2];exact hbig) (by rw[<-hm];exact fun c hc=>Wb pW hc) (by
    rw[<-hr];cases h:u.dropWhile pW with
    | nil=>exact .inl rfl
    | cons c q=>exact .inr ⟨c,q,rfl,by have:=pC pW u;rw[h]at this;simpa using this⟩)
   rw[<-el2]at hw;refine zd hw (go ?_);have hs:=UC a m r (by rw[<-el2];exact hbig);rw[<-el2]at hs;refine zd hs (go ?_);rw[show a.length+m.length=(a++m).length from tD.symm];refine (Ur (a:=a++m) (r:=r) el2 hb).imp ?_;cases hn:NL r with
   | none =>
    rintro _ rfl;rw[hn]at ep;refine go ?_;exact .inr ⟨_,rfl,by rw[ep];rfl⟩
   | some p =>
    obtain⟨xs,t⟩:=p;rintro _ ⟨a',x6',el3,rfl⟩;rw[hn]at ep;have ep:PL l=Option.map (fun x=>dn++x) (if okT t=true then Option.map (fun r=>(m,xs)::r) (PL (List.dropWhile pB t)) else none):=ep;have hlen3:=congrArg List.length el3;have el3:l=a'++t:=el3;have hlen3:l.length=(a'++t).length:=hlen3;rw[tD]at hlen3;have hcond:Y (u5 (zh (zc ltD (za 3) (eL ya (zb (za 0) ze)))) (zh (zc (eqR true) (zc ixD (za 0) (za 3)) (eC (.str " ")))) [some (enW l),some (.lst (dn.map enQ)),some (.int (a.length:Nat)),some (.int (a'.length:Nat)),some (.str (S m)),some (.lst (xs.map enX)),x6']) fun c=>c=!okT t:=by
     refine go ?_;refine zd (uF hbig) (go ?_);cases t with
     | nil =>
      rw[decide_eq_false (by simp at hlen3;omega)];exact go rfl
     | cons c q =>
      rw[decide_eq_true (by simp at hlen3;omega)];refine go ?_;refine zd (W5 hbig (i:=a'.length) (c:=c) (by rw[el3];simp)) (go ?_);show decide (¬(one c=S [32]))=!decide (c=32);rw[decide_not,Q9]
    refine z3x (z3y (hcond.imp ?_));rintro _ rfl;cases ho:okT t with
    | false =>
     rw[ho,jNh tO]at ep;refine go ?_;exact .inr ⟨_,rfl,by rw[ep];rfl⟩
    | true =>
     rw[jNg ho]at ep;refine go ?_;refine zd (XN (xj (f:=enX) (fun x=>wY (zj x)) xs)) (go ?_);have hq:D.tup [D.str (S m),D.tup (List.map enX xs)]=enQ (m,xs):=by
      show _=D.tup [D.str (S m),D.tup ((xs.map zj).map enN)];rw[sI];rfl
     refine⟨by rw[hq];exact imQ _,(m,xs),hq,by omega,go ?_⟩;have et:t.takeWhile pB++t.dropWhile pB=t:=sT;have hst:=vZ hu (by rw[hr];exact hn) ho;generalize hk:t.takeWhile pB=k at et;generalize hv:t.dropWhile pB=v at et ep hst;have el4:l=a'++k++v:=by rw[el3,<-et,tQ]
     have hb2:=Uv a' k v (by rw[<-el4];exact hbig) (by rw[<-hk];exact fun c hc=>Wb pB hc) (by
      rw[<-hv];cases h:t.dropWhile pB with
      | nil=>exact .inl rfl
      | cons c q=>exact .inr ⟨c,q,rfl,by have:=pC pB t;rw[h]at this;simpa using this⟩)
     rw[<-el4]at hb2;refine zd hb2 (go ?_);have h4:=congrArg List.length el4;simp only[tD]at h4;rw[show a'.length+k.length=(a'++k).length from tD.symm];refine .inl ⟨_,rfl,⟨a'++k,v,dn++[(m,xs)],_,_,_,_,el4,rfl,?_,by simp;omega⟩,?_⟩
     ·rw[ep];cases PL v with
      | none=>rfl
      | some q=>show some (dn++(m,xs)::q)=some (dn++[(m,xs)]++q);rw[tQ];rfl
     ·show l.length-(((a'++k).length:Nat):Int).toNat<l.length-((a.length:Nat):Int).toNat;simp only[tD,rV];omega
 ·cases PL l<;>rfl
def z0Q (x y:Str):Txt.find x y=Txt.find3 x y 0:=by
 unfold Txt.find Txt.find3
 rfl
def Jd (m r:List Nat)(c:Nat)(hm:c∉m):jF (S (m++c::r)) [.str (S [c])]=.ok (.int (m.length:Nat)):=by
 show R.ok (D.int (Txt.find _ _))=_;rw[z0Q];have:=XM [] m r c hm;rw[tZ,tR,rA]at this;exact this
def z1x (m:List Nat)(c:Nat)(hm:c∉m):jF (S m) [.str (S [c])]=.ok (.int (-1)):=by
 show R.ok (D.int (Txt.find _ _))=_;rw[z0Q];exact Xn [] m c hm
def ANF:Nat->List Nat->Option Nat
 | _,[]=>some 0
 | 0,_::_=>none
 | n+1,c::r=>if c=123 then (wt r).bind fun p=>if awB p.1 1 30=true then (ANF n p.2).map (·+1) else none else none
def KI:∀ {n m:Nat} {l:List Nat},l.length<n->l.length<m->ANF n l=ANF m l:=by
 intro n
 induction n with
 | zero=>intro m l h;omega
 | succ n ih =>
  intro m l h1 h2;cases m with
  | zero=>omega
  | succ m =>
   cases l with
   | nil=>rfl
   | cons c r =>
    rw[tE]at h1 h2;show (if c=123 then (wt r).bind _ else none)=if c=123 then (wt r).bind _ else none;cases hc:wt r with
    | none=>rfl
    | some p =>
     obtain⟨x,t⟩:=p;have:=congrArg List.length (yW hc).1;rw[tD,tE]at this;show (if c=123 then if awB x 1 30=true then (ANF n t).map _ else none else none)=if c=123 then if awB x 1 30=true then (ANF m t).map _ else none else none;rw[ih (m:=m) (by omega) (by omega)]
def AN (l:List Nat):Option Nat:=ANF (l.length+1) l
def z4G:AN []=some 0:=rfl
def U7 (h:c≠123):AN (c::r)=none:=jNh h
def Qo (h:wt r=none):AN (123::r)=none:=by
 show (if (123:Nat)=123 then (wt r).bind _ else none)=_;rw[jNg rfl,h];rfl
def W9 (h:wt r=some (x,t)):AN (123::r)=if awB x 1 30=true then (AN t).map (·+1) else none:=by
 have:=congrArg List.length (yW h).1;rw[tD,tE]at this;show (if (123:Nat)=123 then (wt r).bind _ else none)=_;rw[jNg rfl,h];show (if awB x 1 30=true then (ANF (r.length+1) t).map _ else none)=_;rw[KI (m:=t.length+1) (by omega) (by omega)]
 rfl
def sAt (τ:Tn)(i:Nat):Nat:=match τ[i]? with|some (some (D.str z))=>z.length|_=>0
def opI:Option Nat->Int
 | some n=>n
 | none=>-1
def JP (hb:l.length<16777216):yM [enW l]=.ok (.int (opI (AN l))):=by
 refine xp ?_
 delta yM vS
 refine zQ (go ?_);refine z5K (fun τ=>∃(t:List Nat) (m:Nat) (x2:Option D),τ=[some (enW t),some (.int (m:Nat)),x2]/\AN l=(AN t).map (m+·)/\t.length<=l.length) (fun τ=>sAt τ 0) ?_ ⟨l,0,none,rfl,by cases AN l<;>simp,tP _⟩;rintro _ ⟨t,m,x2,rfl,ea,ht⟩;have hbig:big t:=by show t.length<=16777216;omega
 refine go ?_;rw[show decide (S t≠("":Str))=!decide (t=[]) from by
  show decide (¬(S t=S []))=_;rw[decide_not];exact congrArg (! ·) (decide_eq_decide.mpr ⟨fun h=>jj h,fun h=>by rw[h]⟩)]
 cases t with
 | nil =>
  rw[z4G]at ea;rw[decide_eq_true rfl,rW,jNh tO];refine go ?_;rw[ea]
  rfl
 | cons c r =>
  rw[decide_eq_false (by simp),pQ,jNg rfl];refine go ?_;generalize hF:Txt.find (S (c::r)) ("}":Str)=F;refine zd (show ixD (enW (c::r)) (.int 0)=.ok (.str (one c)) from W5 hbig (i:=0) rfl) (go ?_);rw[show decide (one c≠("{":Str))=!decide (c=123) from by
   show decide (¬(one c=S [123]))=_;rw[decide_not,Q9]]
  by_cases hc:c=123
  ·subst hc;rw[decide_eq_true rfl,rW];refine go ?_;cases hcut:wt r with
   | none =>
    have hf:=z1x (123::r) 125 (by simp[kJ hcut]);have hf:Txt.find (S (123::r)) ("}":Str)=-1:=D.int.inj (R.ok.inj hf);rw[hf]at hF;subst hF;rw[Qo hcut]at ea;refine go ?_;rw[ea];exact .inr ⟨_,rfl,rfl⟩
   | some p =>
    obtain⟨x,t'⟩:=p;obtain⟨e1,hx⟩:=yW hcut;have hf:=Jd (123::x) t' 125 (by simp[hx]);rw[show (123::x)++125::t'=123::r by rw[e1];rfl]at hf;have hf:Txt.find (S (123::r)) ("}":Str)=((123::x).length:Nat):=D.int.inj (R.ok.inj hf);rw[hf]at hF;subst hF;rw[W9 hcut]at ea;have hl:=congrArg List.length e1;simp only[tD,tE]at hl ht;have hs:slD (.str (S (123::r))) (some 1) (some (((123::x).length:Nat):Int))=.ok (.str (S x)):=by
     have h:=UC [123] x (125::t') (by rw[show[123]++x++125::t'=123::r by rw[e1];rfl];exact hbig);rw[show[123]++x++125::t'=123::r by rw[e1];rfl]at h;rw[<-h];congr 3;simp;omega
    have hs2:slD (.str (S (123::r))) (some ((((123::x).length:Nat):Int)+1)) none=.ok (.str (S t')):=by
     rw[jZ hbig,show (((123::x).length:Nat):Int)+1=((x.length+2:Nat):Int) by simp;omega,wx _ _ (by simp;omega)];congr 3;rw[e1,show 123::(x++125::t')=(123::x++[125])++t' by simp];rw[show x.length+2=(123::x++[125]).length by simp,gD]
    rw[show decide ((((123::x).length:Nat):Int)<0)=false from decide_eq_false (by omega)];refine go ?_;refine zd hs (go ?_);refine zd (qy (by show x.length<=16777216;omega) 1 30) (go ?_);cases hw:awB x 1 30 with
    | false =>
     rw[hw,jNh tO]at ea;refine go ?_;rw[ea];exact .inr ⟨_,rfl,rfl⟩
    | true =>
     rw[hw,jNg rfl]at ea;refine go ?_;refine zd hs2 (go ?_);refine .inl ⟨_,rfl,⟨t',m+1,_,rfl,?_,by omega⟩,?_⟩
     ·rw[ea];cases AN t' with
      | none=>rfl
      | some q=>show some (m+(q+1))=some (m+1+q);congr 1;omega
     ·show (S t').length<(S (123::r)).length;rw[zY,zY,tE];omega
  ·rw[decide_eq_false hc,pQ];rw[U7 hc]at ea;refine go ?_;rw[ea];exact .inr ⟨_,rfl,rfl⟩
def dpt (d:Int)(c:Nat):Int:=d+(if c=123 then 1 else 0)-(if c=125 then 1 else 0)
def WE:Int->Nat->List Nat->List Nat
 | _,_,[]=>[]
 | d,k,c::r=>if c=32/\dpt d c=0 then k::WE (dpt d c) (k+1) r else WE (dpt d c) (k+1) r
abbrev enI (n:Nat):D:=.int (n:Nat)
def wW (h:(L2.rng 0 n)[k]?=some d):k<n/\d=.int (k:Nat):=by
 unfold L2.rng at h;rw[sL]at h;obtain⟨i,e1,e2⟩:=tV.mp h;obtain⟨h1,h2⟩:=tN.mp e1;rw[List.getElem_range]at h2;rw[List.length_range]at h1;subst h2;exact⟨h1,by rw[<-e2,Int.zero_add]⟩
def rng_len (n:Nat):(L2.rng 0 n).length=n:=by unfold L2.rng;rw[tJ,List.length_range]
def z3v (p:Prop)[Decidable p]:(if decide p=true then (1:Int) else 0)=if p then 1 else 0:=by
 by_cases h:p
 ·rw[jNg h,jNg (decide_eq_true h)]
 ·rw[jNh h,jNh (by simpa using h)]
def Ww (d:Int)(k c:Nat)(r:List Nat):WE d k (c::r)=if c=32/\dpt d c=0 then k::WE (dpt d c) (k+1) r else WE (dpt d c) (k+1) r:=rfl
def JN (hb:l.length<16777216):yO [enW l]=.ok (.lst ((WE 0 0 l++[l.length]).map enI)):=by
 have hbig:big l:=gB hb;refine xp ?_
 delta yO u7
 refine zQ (go ?_);refine zd (uF hbig) (go ?_);refine jm (fun k τ=>∃(dn:List Nat) (d:Int) (x3:Option D),τ=[some (enW l),some (.lst (dn.map enI)),some (.int d),x3]/\WE 0 0 l=dn++WE d k (l.drop k)/\dn.length<=k/\k<=l.length) ⟨[],0,none,rfl,rfl,tP _,rC _⟩ ?_ ?_
 ·rintro k d0 _ hd ⟨dn,d,x3,rfl,ew,hdn,hk⟩;obtain⟨hk2,rfl⟩:=wW hd;rw[rV]at hk2;have hc:l[k]?=some l[k]:=sO hk2;generalize l[k]=c at hc;have hdr:l.drop k=c::l.drop (k+1):=by
   rw[sW hk2];rw[sO hk2]at hc;rw[jYe hc]
  rw[hdr,Ww]at ew;refine go ?_;refine zd (W5 hbig hc) (go ?_);rw[show decide (one c=("{":Str))=decide (c=123) from Q9 c 123];refine zd Wt (go ?_);refine zd (W5 hbig hc) (go ?_);rw[show decide (one c=("}":Str))=decide (c=125) from Q9 c 125];refine zd Wt (go ?_);rw[z3v,z3v];refine zd (W5 hbig hc) (go ?_);rw[show decide (one c=(" ":Str))=decide (c=32) from Q9 c 32];have ed:(d+if c=123 then 1 else 0)-(if c=125 then 1 else 0)=dpt d c:=rfl;rw[ed]
  by_cases hs:c=32
  ·rw[decide_eq_true hs];refine go ?_
   by_cases h0:dpt d c=0
   ·rw[jNg ⟨hs,h0⟩]at ew;rw[decide_eq_true h0];refine go ?_;exact⟨dn++[k],_,_,rfl,by rw[ew,tQ];rfl,by simp;omega,hk2⟩
   ·rw[jNh fun z=>h0 z.2]at ew;rw[decide_eq_false h0];refine go ?_;exact⟨dn,_,_,rfl,ew,by omega,hk2⟩
  ·rw[decide_eq_false hs];rw[jNh fun z=>hs z.1]at ew;refine go ?_;exact⟨dn,_,_,rfl,ew,by omega,hk2⟩
 ·rintro _ ⟨dn,d,x3,rfl,ew,hdn,hk⟩;rw[rng_len,rV,hZ]at ew;have ew:WE 0 0 l=dn++[]:=ew;refine go ?_;refine zd (uF hbig) (go ?_);rw[rng_len,rV]at hdn;refine zd (a:=.lst (dn.map enI++[enI l.length])) ?_ (go ?_)
  ·exact jNg ⟨xj (fun _=>rfl) dn,rfl,by rw[jKj,tJ];simp only[tE,tR];omega⟩
  ·rw[ew,tI,rO];rfl
def slc (l:List Nat):Nat->List Nat->List (List Nat)
 | _,[]=>[]
 | b,e::es=>((l.drop b).take (e-b))::slc l (e+1) es
def CU:Int->List Nat->List (List Nat)
 | _,[]=>[[]]
 | d,c::r=>if c=32/\dpt d c=0 then []::CU (dpt d c) r else match CU (dpt d c) r with
  | p::q=>(c::p)::q
  | []=>[[c]]
theorem KQ:∀(d:Int) (l:List Nat),∃p q,CU d l=p::q
 | _,[]=>⟨[],[],rfl⟩
 | d,c::r=>by
  obtain⟨p,q,e⟩:=KQ (dpt d c) r;unfold CU;split
  ·exact⟨_,_,rfl⟩
  ·rw[e];exact⟨_,_,rfl⟩
def W2 (h:c=32/\dpt d c=0):CU d (c::r)=[]::CU (dpt d c) r:=jNg h
def VO (h:¬(c=32/\dpt d c=0))(e:CU (dpt d c) r=p::q):CU d (c::r)=(c::p)::q:=by
 unfold CU;rw[jNh h,e]
def srt (n:Nat):Nat->List Nat->Prop
 | _,[]=>True
 | b,e::es=>b<=e/\e<=n/\srt n (e+1) es
theorem UT (l:List Nat):∀(r a pre:List Nat) (d:Int),l=a++pre++r->srt l.length a.length (WE d (a++pre).length r++[l.length])/\∃p q,CU d r=p::q/\slc l a.length (WE d (a++pre).length r++[l.length])=(pre++p)::q
 | [],a,pre,d,el=>by
  rw[tI]at el;have hl:l.length=a.length+pre.length:=by rw[el,tD]
  refine⟨⟨by omega,tP _,trivial⟩,[],[],rfl,?_⟩;show[(l.drop a.length).take (l.length-a.length)]=[pre++[]]
  rw[tI,el,gD,rL (by rw[tD];omega)]
 | c::r,a,pre,d,el=>by
  by_cases h:c=32/\dpt d c=0
  ·have el2:l=(a++pre++[c])++[]++r:=by rw[el];simp
   obtain⟨h1,p,q,h2,h3⟩:=UT l r (a++pre++[c]) [] (dpt d c) el2;rw[tI]at h1 h3;have e1:(a++pre++[c]).length=(a++pre).length+1:=by simp;omega
   have hl:=congrArg List.length el;simp only[tD,tE]at hl;rw[Ww,jNg h,W2 h];rw[e1]at h1 h3;refine⟨⟨by rw[tD];omega,by rw[tD];omega,h1⟩,[],p::q,by rw[h2],?_⟩;show (l.drop a.length).take ((a++pre).length-a.length)::slc l ((a++pre).length+1) (WE (dpt d c) ((a++pre).length+1) r++[l.length])=(pre++[])::p::q;rw[h3,tI,tZ];congr 1;rw[el,tQ,gD,tD,Nat.add_sub_cancel_left,List.take_left]
  ·have el2:l=a++(pre++[c])++r:=by rw[el];simp
   obtain⟨h1,p,q,h2,h3⟩:=UT l r a (pre++[c]) (dpt d c) el2;have e1:(a++(pre++[c])).length=(a++pre).length+1:=by simp;omega
   rw[e1]at h1 h3;rw[Ww,jNh h];refine⟨h1,c::p,q,VO h h2,?_⟩;rw[h3,tQ]
   rfl
def Kz (l:List Nat):srt l.length 0 (WE 0 0 l++[l.length])/\slc l 0 (WE 0 0 l++[l.length])=CU 0 l:=by
 obtain⟨h1,p,q,h2,h3⟩:=UT l l [] [] 0 rfl;exact⟨h1,by rw[h2];exact h3⟩
def pN (c:Nat):Bool:=!decide (c=123)
def pOk (p:List Nat):Option Nat:=if awB (p.takeWhile pN) 1 1=true/\32∉p.takeWhile pN then (AN (p.dropWhile pN)).bind fun n=>if n<=3 then some n else none else none
def NTF:List (List Nat)->Nat->Nat->Option (Nat×Nat)
 | [],m,k=>some (m,k)
 | p::ps,m,k=>if p=[] then NTF ps m k else (pOk p).bind fun n=>NTF ps (m+n) (k+1)
def NT (l:List Nat):Option Nat:=(NTF (CU 0 l) 0 0).bind fun q=>if 1<=q.2/\q.2<=200 then some q.1 else none
def YS (hb:l.length<16777215):yf [enW l]=.ok (.int (opI (NT l))):=by
 have hbig:big l:=by show l.length<=16777216;omega
 refine xp ?_
 delta yf wR
 refine zQ (go ?_);refine zd (JN (by omega)) (go ?_);obtain⟨hsrt,hslc⟩:=Kz l;unfold NT;rw[<-hslc];generalize WE 0 0 l++[l.length]=E at hsrt hslc;refine z5o (enc:=enI) (fun es τ=>∃(b m k:Nat) (x4 x5 x6 x7:Option D),τ=[some (enW l),some (.int (m:Nat)),some (.int (k:Nat)),some (.int (b:Nat)),x4,x5,x6,x7]/\NTF (slc l 0 E) 0 0=NTF (slc l b es) m k/\srt l.length b es) ⟨0,0,0,none,none,none,none,rfl,rfl,hsrt⟩ ?_ ?_
 ·rintro e es _ ⟨b,m,k,x4,x5,x6,x7,rfl,en,h1,h2,h3⟩;have hs:slD (.str (S l)) (some (b:Nat)) (some (e:Nat))=.ok (.str (S ((l.drop b).take (e-b)))):=by
   rw[jZ hbig,show ((e:Nat):Int)=(b:Int)+((e-b:Nat):Int) by omega,qp _ _ _ (by omega)]
  have hpl:((l.drop b).take (e-b)).length<16777215:=by simp;omega
  have en:NTF (slc l 0 E) 0 0=if (l.drop b).take (e-b)=[] then NTF (slc l (e+1) es) m k else (pOk ((l.drop b).take (e-b))).bind fun n=>NTF (slc l (e+1) es) (m+n) (k+1):=en;generalize (l.drop b).take (e-b)=p at hs hpl en;refine go ?_;refine zd hs (go ?_);rw[show decide (S p≠("":Str))=!decide (p=[]) from by
   show decide (¬(S p=S []))=_;rw[decide_not];exact congrArg (! ·) (decide_eq_decide.mpr ⟨fun h=>jj h,fun h=>by rw[h]⟩)]
  by_cases hp:p=[]
  ·rw[jNg hp]at en;rw[decide_eq_true hp];refine go ?_;exact⟨e+1,m,k,_,_,_,_,rfl,en,h3⟩
  ·rw[jNh hp]at en;rw[decide_eq_false hp];refine go ?_;have ep:p.takeWhile pN++p.dropWhile pN=p:=sT;have hw:123∉p.takeWhile pN:=fun z=>by have:=Wb pN z;exact absurd this (by decide)
   have hr:∃X,p++[123]=p.takeWhile pN++123::X:=by
    cases h:p.dropWhile pN with
    | nil=>rw[h,tI]at ep;exact⟨[],by rw[ep]⟩
    | cons c q =>
     have hc:c=123:=by have:=pC pN p;rw[h]at this;simpa [pN] using this
     subst hc;rw[h]at ep;exact⟨q++[123],(congrArg (·++[123]) ep).symm.trans (by simp)⟩
   unfold pOk at en;generalize p.takeWhile pN=w at ep hw hr en;generalize p.dropWhile pN=r at ep en;obtain⟨X,hr⟩:=hr;have hl:=congrArg List.length ep;rw[tD]at hl;have hf:=Jd w X 123 hw;rw[<-hr]at hf;have hpb:big p:=by show p.length<=16777216;omega
   refine zd (yu (b:=[123]) (by show (p++[123]).length<=16777216;rw[tD];simp;omega)) (go ?_);rw[show Txt.find (S (p++[123])) ("{":Str)=(w.length:Nat) from D.int.inj (R.ok.inj hf)];have hs1:slD (.str (S p)) (some (w.length:Nat)) none=.ok (.str (S r)):=by
    rw[jZ hpb,wx _ _ (by omega),<-ep,gD]
   have hs2:slD (.str (S p)) none (some (w.length:Nat))=.ok (.str (S w)):=by
    rw[jZ hpb,Yd,<-ep,List.take_left]
   refine zd hs1 (go ?_);refine zd (JP (by omega)) (go ?_);refine zd hs2 (go ?_);refine zd (qy (by show w.length<=16777216;omega) 1 1) (go ?_);cases ha:awB w 1 1 with
   | false =>
    rw[ha,jNh (by simp)]at en;refine go ?_;rw[en]
    rfl
   | true =>
    rw[ha]at en;refine go ?_;cases hA:AN r with
    | none =>
     rw[hA]at en;have en:NTF (slc l 0 E) 0 0=none:=by rw[en];split<;>rfl
     rw[show decide ((0:Int)<=opI none)=false from rfl];refine go ?_;rw[en]
     rfl
    | some n =>
     rw[hA]at en;rw[show decide ((0:Int)<=opI (some n))=true from decide_eq_true (show (0:Int)<=(n:Nat) by omega)];refine go ?_;rw[show decide (opI (some n)<=3)=decide (n<=3) from decide_eq_decide.mpr (show ((n:Nat):Int)<=3↔n<=3 by omega)]
     by_cases hn:n<=3
     ·rw[decide_eq_true hn];refine go ?_;refine zd hs2 (go ?_);rw[show inS (" ":Str) (S w)=decide (32∈w) from by
       show inS (one 32) (S w)=_;rw[Zt,xy]]
      by_cases hsp:32∈w
      ·rw[jNh fun z=>z.2 hsp]at en;rw[decide_eq_true hsp];refine go ?_;rw[en]
       rfl
      ·rw[jNg ⟨rfl,hsp⟩]at en;have en:NTF (slc l 0 E) 0 0=NTF (slc l (e+1) es) (m+n) (k+1):=by
        rw[en];show ((if n<=3 then some n else none).bind _)=_;rw[jNg hn];rfl
       rw[decide_eq_false hsp];refine go ?_;exact⟨e+1,m+n,k+1,_,_,_,_,rfl,en,h3⟩
     ·have en:NTF (slc l 0 E) 0 0=none:=by
       rw[en];split
       ·show ((if n<=3 then some n else none).bind _)=none;rw[jNh hn];rfl
       ·rfl
      rw[decide_eq_false hn];refine go ?_;rw[en]
      rfl
 ·rintro _ ⟨b,m,k,x4,x5,x6,x7,rfl,en,_⟩;have en:NTF (slc l 0 E) 0 0=some (m,k):=en;rw[en];refine go ?_;show Y _ (kL asB (kN (kI _ _ _ (sq _ (rb fun v=>v=.int (opI (if 1<=k/\k<=200 then some m else none)))))));refine yA (fun h1=>go ?_) fun h1=>go ?_
  ·by_cases h2:k<=200
   ·rw[jNg ⟨by omega,h2⟩,decide_eq_true (by omega)];exact go rfl
   ·rw[jNh (by omega),decide_eq_false (by omega)];exact go rfl
  ·rw[jNh (by omega)]
   rfl
theorem okS.no (h:okS c):c≠32/\c≠10/\c≠123/\c≠125/\c≠124/\c≠61/\c≠126:=by
 have:∀c∈Z2.cps.toList,c≠32/\c≠10/\c≠123/\c≠125/\c≠124/\c≠61/\c≠126:=by decide +kernel
 exact this c h
theorem WQ:∀ {x:List Nat},c∈x->c≠32->∃p∈spl 32 x,c∈p
 | d::x,h,hc=>by
  by_cases hd:d=32
  ·subst hd;rcases tS.mp h with z|z
   ·exact absurd z hc
   ·obtain⟨p,h1,h2⟩:=WQ z hc;exact⟨p,by rw[vI];exact tH _ h1,h2⟩
  ·obtain⟨p,r,e1,e2⟩:=vR (c:=32) (x:=d) hd x;rw[e2];rcases tS.mp h with z|z
   ·exact⟨d::p,tG,by rw[z];exact tG⟩
   ·obtain⟨p',h1,h2⟩:=WQ z hc;rw[e1]at h1;rcases tS.mp h1 with z|z
    ·exact⟨d::p,tG,tH _ (z▸h2)⟩
    ·exact⟨p',tH _ z,h2⟩
def uc (h:isW w=true):w≠[]/\w.length<=40/\∀c∈w,okS c:=by
 unfold isW at h;obtain⟨h1,h2⟩:=tM.mp h;have h1:=of_decide_eq_true h1;rw[sD]at h2;exact⟨fun z=>by rw[z]at h1;exact absurd h1.1 (by decide),h1.2,fun c hc=>of_decide_eq_true (h2 c hc)⟩
def z0E (h:(zj x).all isW=true):∀c∈x,c=32\/okS c:=by
 intro c hc
 by_cases h32:c=32
 ·exact .inl h32
 ·obtain⟨p,h1,h2⟩:=WQ hc h32;have hp:p∈zj x:=by
   unfold zj;exact List.mem_filter.mpr ⟨h1,by simp;rintro rfl;cases h2⟩
  exact .inr ((uc (sD.mp h p hp)).2.2 c h2)
def enc (xs:List (List Nat)):List Nat:=xs.flatMap fun x=>123::(x++[125])
def xZ (x:List Nat)(xs:List (List Nat)):enc (x::xs)=123::(x++125::enc xs):=by
 show (123::(x++[125]))++enc xs=_;simp
def gd (r:Rw):Bool:=JX (r.1,r.2.map zj)
def z2B (x:List Nat):isN (zj x)=awB x 1 30:=by rw[qU,Bool.and_comm];rfl
def Jb (h:32∉w):awB w 1 1=isW w:=by
 rw[qU]
 by_cases hw:w=[]
 ·subst hw;rfl
 ·rw[Y6 h hw];simp
def Xe (r:Rw):gd r=true↔isW r.1=true/\r.2.length<=3/\∀x∈r.2,awB x 1 30=true:=by
 unfold gd JX;simp only[sR,decide_eq_true_eq,tJ,pE,sD,Function.comp_apply,z2B];constructor
 ·rintro⟨h1,⟨_,h2⟩,h3⟩;exact⟨h1,by omega,h3⟩
 ·rintro⟨h1,h2,h3⟩;exact⟨h1,⟨by omega,by omega⟩,h3⟩
def QN (h:awB x 1 30=true):123∉x/\125∉x:=by
 rw[qU]at h;have h:=z0E (tM.mp h).1;refine⟨fun z=>?_,fun z=>?_⟩
 ·rcases h _ z with e|e
  ·exact absurd e (by decide)
  ·exact e.no.2.2.1 rfl
 ·rcases h _ z with e|e
  ·exact absurd e (by decide)
  ·exact e.no.2.2.2.1 rfl
theorem WC:∀ {x t:List Nat},125∉x->wt (x++125::t)=some (x,t)
 | [],t,_=>by show (if (125:Nat)=125 then _ else _)=_;rw[jNg rfl]
 | c::x,t,h=>by
  show (if c=125 then _ else (wt (x++125::t)).map _)=_;rw[jNh (fun z:c=125=>h (by rw[z];exact tG)),WC fun z=>h (tH _ z)];rfl
theorem z0H:∀ {xs:List (List Nat)} {t:List Nat},(∀x∈xs,125∉x)->(∀r,t≠123::r)->NL (enc xs++t)=some (xs,t)
 | [],t,_,h=>uO h
 | x::xs,t,h1,h2=>by
  rw[xZ,show 123::(x++125::enc xs)++t=123::(x++125::(enc xs++t)) by simp];rw[Zy (WC (h1 x tG)),z0H (fun y hy=>h1 y (tH _ hy)) h2]
  rfl
def XW:∀ {n:Nat} {l:List Nat} {xs:List (List Nat)} {t:List Nat},l.length<n->NL l=some (xs,t)->l=enc xs++t:=by
 intro n
 induction n with
 | zero=>intro l xs t h;omega
 | succ n ih =>
  intro l xs t h e
  by_cases hl:∃r,l=123::r
  ·obtain⟨r,rfl⟩:=hl;cases hc:wt r with
   | none=>rw[WI hc]at e;cases e
   | some p =>
    obtain⟨x,t'⟩:=p;rw[Zy hc]at e;obtain⟨q,e1,e2⟩:=tV.mp e;have hr:=(yW hc).1;have:=congrArg List.length hr;rw[tD,tE]at this;rw[tE]at h;cases e2;have:=ih (by omega) e1;rw[xZ,hr,this];simp
  ·have hl:∀r,l≠123::r:=fun r z=>hl ⟨r,z⟩;rw[uO hl]at e;cases e
   rfl
theorem z01:∀ {xs:List (List Nat)},(∀x∈xs,awB x 1 30=true)->AN (enc xs)=some xs.length
 | [],_=>rfl
 | x::xs,h=>by
  rw[xZ,W9 (WC (QN (h x tG)).2),jNg (h x tG),z01 fun y hy=>h y (tH _ hy)]
  rfl
def z4b:∀ {n:Nat} {l:List Nat} {k:Nat},l.length<n->AN l=some k->∃xs,l=enc xs/\k=xs.length/\∀x∈xs,awB x 1 30=true:=by
 intro n
 induction n with
 | zero=>intro l k h;omega
 | succ n ih =>
  intro l k h e;cases l with
  | nil=>cases e;exact⟨[],rfl,rfl,by simp⟩
  | cons c r =>
   by_cases hc:c=123
   ·subst hc;cases hcut:wt r with
    | none=>rw[Qo hcut]at e;cases e
    | some p =>
     obtain⟨x,t⟩:=p;rw[W9 hcut]at e;have hr:=(yW hcut).1;have:=congrArg List.length hr;rw[tD,tE]at this;rw[tE]at h;split at e
     ·rename_i hx;obtain⟨q,e1,e2⟩:=tV.mp e;obtain⟨xs,h1,h2,h3⟩:=ih (by omega) e1;refine⟨x::xs,by rw[xZ,hr,h1],by rw[<-e2,h2];rfl,fun y hy=>?_⟩;rcases tS.mp hy with z|z
      ·rw[z];exact hx
      ·exact h3 y z
     ·cases e
   ·rw[U7 hc]at e;cases e
def K3 (h1:c≠123)(h2:c≠125):dpt d c=d:=by unfold dpt;rw[jNh h1,jNh h2];omega
theorem Qi:∀ {u:List Nat} {s:List Nat} {p:List Nat} {q:List (List Nat)},(∀c∈u,c≠123/\c≠125/\(c=32->d≠0))->CU d s=p::q->CU d (u++s)=(u++p)::q
 | [],s,p,q,_,h=>h
 | c::u,s,p,q,h,e=>by
  obtain⟨h1,h2,h3⟩:=h c tG;have ih:=Qi (u:=u) (fun c hc=>h c (tH _ hc)) e;have hd:=K3 (d:=d) h1 h2;exact VO (fun z=>by rw[hd]at z;exact h3 z.1 z.2) (by rw[hd];exact ih)
theorem Kn:∀ {xs:List (List Nat)} {s p:List Nat} {q:List (List Nat)},(∀x∈xs,123∉x/\125∉x)->CU 0 s=p::q->CU 0 (enc xs++s)=(enc xs++p)::q
 | [],s,p,q,_,h=>h
 | x::xs,s,p,q,h,e=>by
  have ih:=Kn (xs:=xs) (fun y hy=>h y (tH _ hy)) e;obtain⟨h1,h2⟩:=h x tG;rw[xZ,show 123::(x++125::enc xs)++s=123::(x++125::(enc xs++s)) by simp,show 123::(x++125::enc xs)++p=123::(x++125::(enc xs++p)) by simp];have hd1:dpt 0 123=1:=by decide
  have hd2:dpt 1 125=0:=by decide
  refine VO (fun z=>absurd z.1 (by decide)) ?_;rw[hd1];refine Qi (fun c hc=>⟨fun z=>h1 (z▸hc),fun z=>h2 (z▸hc),fun _=>by decide⟩) ?_;refine VO (fun z=>absurd z.1 (by decide)) ?_;rw[hd2];exact ih
def QY (h:gd r=true):(∀c∈r.1,okS c)/\∀x∈r.2,123∉x/\125∉x:=by
 obtain⟨h1,_,h3⟩:=(Xe r).mp h;exact⟨(uc h1).2.2,fun x hx=>QN (h3 x hx)⟩
def QS (h:gd r=true){s p:List Nat}{q:List (List Nat)}(e:CU 0 s=p::q):CU 0 (r.1++(enc r.2++s))=(r.1++(enc r.2++p))::q:=by
 obtain⟨h1,h2⟩:=QY h;exact Qi (fun c hc=>⟨(h1 c hc).no.2.2.1,(h1 c hc).no.2.2.2.1,fun z=>absurd z (h1 c hc).no.1⟩) (Kn h2 e)
theorem We:∀ {d:Int} {l p:List Nat} {q:List (List Nat)},CU d l=p::q->(q=[]/\l=p)\/∃l',l=p++32::l'/\q=CU 0 l'
 | d,[],p,q,h=>by cases h;exact .inl ⟨rfl,rfl⟩
 | d,c::r,p,q,h=>by
  by_cases hc:c=32/\dpt d c=0
  ·rw[W2 hc,hc.2]at h;cases h;exact .inr ⟨r,by rw[hc.1];rfl,rfl⟩
  ·obtain⟨p',q',e⟩:=KQ (dpt d c) r;rw[VO hc e]at h;cases h;rcases We e with⟨h1,h2⟩|⟨l',h1,h2⟩
   ·exact .inl ⟨h1,by rw[h2]⟩
   ·exact .inr ⟨l',by rw[h1];rfl,h2⟩
theorem YI:∀ {a b:List Nat},(∀c∈a,p c=true)->(b=[]\/∃c q,b=c::q/\p c=false)->(a++b).takeWhile p=a/\(a++b).dropWhile p=b
 | [],b,_,h=>by
  rcases h with rfl|⟨c,q,rfl,hc⟩
  ·exact⟨rfl,rfl⟩
  ·simp[hc]
 | c::a,b,h1,h2=>by
  obtain⟨e1,e2⟩:=YI (fun c hc=>h1 c (tH _ hc)) h2;simp[h1 c tG,e1,e2]
def Kq (xs:List (List Nat)):enc xs=[]\/∃q,enc xs=123::q:=by
 cases xs with
 | nil=>exact .inl rfl
 | cons x xs=>exact .inr ⟨_,xZ x xs⟩
def z2c (h:gd r=true):pOk (r.1++enc r.2)=some r.2.length:=by
 obtain⟨h1,h2,h3⟩:=(Xe r).mp h;have h4:=(QY h).1;obtain⟨e1,e2⟩:=YI (p:=pN) (a:=r.1) (b:=enc r.2) (fun c hc=>by unfold pN;rw[decide_eq_false (h4 c hc).no.2.2.1];rfl) (by
  rcases Kq r.2 with z|⟨q,z⟩
  ·exact .inl z
  ·exact .inr ⟨123,q,z,by decide⟩)
 unfold pOk;have hs:32∉r.1:=fun z=>(h4 _ z).no.1 rfl;rw[e1,e2,jNg ⟨by rw[Jb hs];exact h1,hs⟩,z01 h3];show (if r.2.length<=3 then some r.2.length else none)=_;rw[jNg h2]
def z2F (h:pOk p=some n):∃r:Rw,gd r=true/\p=r.1++enc r.2/\n=r.2.length:=by
 unfold pOk at h;split at h
 ·rename_i hc;obtain⟨k,e1,e2⟩:=sM.mp h;split at e2
  ·rename_i hk;cases e2;obtain⟨xs,h1,h2,h3⟩:=z4b (rN _) e1;refine⟨(p.takeWhile pN,xs),(Xe _).mpr ⟨by rw[<-Jb hc.2];exact hc.1,by show xs.length<=3;omega,h3⟩,?_,h2⟩;show p=p.takeWhile pN++enc xs;rw[<-h1,sT]
  ·cases e2
 ·cases h
theorem VI:∀(l:List Nat) (m k:Nat),NTF (CU 0 l) m k=NTF (CU 0 (l.dropWhile pB)) m k
 | [],_,_=>rfl
 | c::l,m,k=>by
  by_cases hc:c=32
  ·subst hc;have:dpt 0 32=0:=by decide
   rw[W2 ⟨rfl,this⟩,this,pH (by decide)];show (if ([]:List Nat)=[] then NTF (CU 0 l) m k else _)=_;rw[jNg rfl,VI l m k]
  ·rw[pX (by simp[pB,hc])]
def JK:∀(n:Nat) (l:List Nat) (m k:Nat),l.length<n->(∀q,l≠32::q)->NTF (CU 0 l) m k=(PL l).bind fun rs=>if rs.all gd=true then some (m+(rs.map fun r=>r.2.length).sum,k+rs.length) else none:=by
 intro n
 induction n with
 | zero=>intro l m k h;omega
 | succ n ih =>
  intro l m k hn h32
  by_cases hl:l=[]
  ·subst hl;rfl
  have hl0:0<l.length:=pG.mpr hl;obtain⟨p,q,hcu⟩:=KQ 0 l;have hp:p≠[]:=by
   rintro rfl;rcases We hcu with⟨_,z⟩|⟨l',z,_⟩
   ·exact hl z
   ·exact h32 l' z
  rw[hcu];show (if p=[] then _ else (pOk p).bind fun n=>NTF q (m+n) (k+1))=_;rw[jNh hp];cases hok:pOk p with
  | some c =>
   obtain⟨r,hg,hpe,rfl⟩:=z2F hok;have hstep:∀t,l=r.1++(enc r.2++t)->okT t=true->(∀z,t≠123::z)->PL l=(PL (t.dropWhile pB)).map (r::·):=by
    intro t el ho ht;have h4:=(QY hg).1;obtain⟨e1,e2⟩:=YI (p:=pW) (a:=r.1) (b:=enc r.2++t) (fun c hc=>by
     have:=(h4 c hc).no;unfold pW;rw[decide_eq_false (by simp;exact⟨this.1,this.2.2.1⟩)];rfl) (by
     rcases Kq r.2 with z|⟨q,z⟩
     ·rw[z,tZ];cases t with
      | nil=>exact .inl rfl
      | cons c q=>exact .inr ⟨c,q,rfl,by have:c=32:=of_decide_eq_true ho;rw[this];decide⟩
     ·exact .inr ⟨123,q++t,by rw[z];rfl,by decide⟩)
    rw[uk hl,el,e1,e2,z0H (fun x hx=>((QY hg).2 x hx).2) ht];show (if okT t=true then _ else none)=_;rw[jNg ho]
   show NTF q (m+r.2.length) (k+1)=_;rcases We hcu with⟨hq,hlp⟩|⟨l',hlp,hq⟩
   ·rw[hq,hstep [] (by rw[hlp,hpe];simp) rfl (by simp)];show some (m+r.2.length,k+1)=if [r].all gd=true then some (m+([r].map fun r=>r.2.length).sum,k+1) else none;rw[jNg (by simp[hg])];simp
   ·rw[hq,hstep (32::l') (by rw[hlp,hpe];simp) rfl (by intro z h;cases h),VI,pH (by decide)];have hlen:=congrArg List.length hlp;rw[tD,tE]at hlen;have:=Ui pB l';rw[ih (l'.dropWhile pB) _ _ (by omega) (fun z h=>by have:=pC pB l';rw[h]at this;exact absurd (show pB 32=false from this) (by decide))];cases PL (l'.dropWhile pB)with
    | none=>rfl
    | some rs =>
     show (if rs.all gd=true then some (m+r.2.length+(rs.map fun r=>r.2.length).sum,k+1+rs.length) else none)=if (r::rs).all gd=true then some (m+((r::rs).map fun r=>r.2.length).sum,k+(r::rs).length) else none;rw[rP,hg,rQ,tK,rG,tE];split
     ·congr 2<;>omega
     ·rfl
  | none =>
   show none=_;cases hpl:PL l with
   | none=>rfl
   | some rs =>
    show none=if rs.all gd=true then _ else none;rw[jNh];intro hall;rw[uk hl]at hpl;obtain⟨pr,e1,e2⟩:=sM.mp hpl;obtain⟨xs,t⟩:=pr;split at e2
    ·rename_i ho;obtain⟨rs',e3,e4⟩:=tV.mp e2;subst e4;rw[rP]at hall;have hg:gd (l.takeWhile pW,xs)=true:=(tM.mp hall).1;have el:l=l.takeWhile pW++(enc xs++t):=by
      rw[<-XW (rN _) e1,sT]
     have ho:okT t=true:=ho;have hcu2:∃q',CU 0 l=(l.takeWhile pW++enc xs)::q':=by
      generalize l.takeWhile pW=w at hg el;rw[el];cases t with
      | nil =>
       have:=QS hg (s:=[]) (p:=[]) (q:=[]) rfl;exact⟨_,by rw[this,tI]⟩
      | cons c t' =>
       have hc:c=32:=of_decide_eq_true ho;subst hc;have hd:dpt 0 32=0:=by decide
       have:=QS hg (s:=32::t') (W2 ⟨rfl,hd⟩);exact⟨_,by rw[this,tI]⟩
     obtain⟨q',hcu2⟩:=hcu2;rw[hcu]at hcu2;cases hcu2;have:=z2c hg;rw[this]at hok;cases hok
    ·cases e2
def rep (a b:Nat)(z:List Nat):List Nat->List Nat
 | c::d::r=>if c=a/\d=b then z++rep a b z r else c::rep a b z (d::r)
 | l=>l
section
variable {a b:Nat}{z:List Nat}
def W8 (h:¬(c=a/\d=b)):rep a b z (c::d::r)=c::rep a b z (d::r):=by rw[rep,jNh h]
theorem jL:∀ {u:List Nat},(∀k,¬(u[k]?=some a/\u[k+1]?=some b))->rep a b z u=u
 | [],_=>rfl
 | [c],_=>rfl
 | c::d::r,h=>by
  rw[W8 fun e=>h 0 ⟨by rw[e.1];rfl,by rw[e.2];rfl⟩,jL fun k=>h (k+1)]
theorem Qh:∀ {u r:List Nat},(∀k,k<u.length->¬((u++a::b::r)[k]?=some a/\(u++a::b::r)[k+1]?=some b))->rep a b z (u++a::b::r)=u++(z++rep a b z r)
 | [],r,_=>by show rep a b z (a::b::r)=_;rw[rep,jNg ⟨rfl,rfl⟩];rfl
 | [c],r,h=>by
  show rep a b z (c::a::b::r)=_;rw[W8 fun e=>h 0 (by simp) ⟨by rw[e.1];rfl,by simp[e.2]⟩];have:=Qh (u:=[]) (r:=r) (fun k hk=>absurd hk (by simp));rw[tZ]at this;rw[this];rfl
 | c::d::u,r,h=>by
  show rep a b z (c::d::(u++a::b::r))=_;rw[W8 fun e=>h 0 (by simp) ⟨by simp[e.1],by simp[e.2]⟩];have:=Qh (u:=d::u) (r:=r) (fun k hk=>by
   have:=h (k+1) (by simp at hk ⊢;omega)
   simpa using this)
  show c::rep a b z ((d::u)++a::b::r)=_;rw[this];rfl
def at2 (l:List Nat)(k:Nat):StrLaws.At (S l) (S [a,b]) (S l).length k↔l[k]?=some a/\l[k+1]?=some b:=by
 unfold StrLaws.At;rw[StrLaws.subAt_eq,xy,xy,zY,zY];show k+2<=l.length/\((l.drop k).take 2==[a,b])=true↔_;rw[beq_iff_eq];constructor
 ·rintro⟨h1,h2⟩;have e1:(l.drop k)[0]?=some a:=by
   have:=congrArg (fun l:List Nat=>l[0]?) h2
   simpa [List.getElem?_take] using this
  have e2:(l.drop k)[1]?=some b:=by
   have:=congrArg (fun l:List Nat=>l[1]?) h2
   simpa [List.getElem?_take] using this
  rw[pS]at e1 e2;exact⟨e1,e2⟩
 ·rintro⟨h1,h2⟩;obtain⟨g1,g2⟩:=tN.mp h2;obtain⟨g3,g4⟩:=tN.mp h1;refine⟨by omega,?_⟩;rw[sW g3,sW g1,g4,g2]
  rfl
theorem Xz (l:List Nat):∀(cuts:List Nat) (lo f:Nat),StrLaws.ChainG (S l) (S [a,b]) (S l).length lo cuts f->lo<=l.length->(∀k,f<=k->¬StrLaws.At (S l) (S [a,b]) (S l).length k)->Str.join (S z) (StrLaws.partsFrom (S l) 2 lo cuts)=S (rep a b z (l.drop lo))
 | [],lo,f,h,hlo,hn=>by
  have h:f=lo:=h;subst h;have hr:rep a b z (l.drop f)=l.drop f:=jL fun k hk=>by
   rw[pS,pS]at hk;exact hn (f+k) (by omega) ((at2 l _).mpr hk)
  rw[hr];show Builtin.Str.strSub (S l) f (S l).length=S (l.drop f);rw[Zf (Builtin.Str.strSub (S l) f (S l).length),StrLaws.strSub_toList,xy,zY,rL (by rw[rE];exact tP _)]
 | c::cuts,lo,f,h,hlo,hn=>by
  obtain⟨h1,h2,h3,h4⟩:=h;have h2:=(at2 l c).mp h2;obtain⟨g1,g2⟩:=tN.mp h2.2;obtain⟨g3,g4⟩:=tN.mp h2.1;have ih:=Xz l cuts (c+2) f h4 (by omega) hn;have el:l.drop lo=(l.drop lo).take (c-lo)++a::b::l.drop (c+2):=by
   have e1:l.drop c=a::b::l.drop (c+2):=by
    rw[sW g3,sW g1,g4,g2]
   have e2:(l.drop lo).drop (c-lo)=l.drop c:=by rw[List.drop_drop];congr 1;omega
   rw[<-e1,<-e2,pK]
  have hlen:((l.drop lo).take (c-lo)).length=c-lo:=by rw[sZ,rE];omega
  have hr:rep a b z (l.drop lo)=(l.drop lo).take (c-lo)++(z++rep a b z (l.drop (c+2))):=by
   conv=>lhs;rw[el]
   refine Qh fun k hk=>?_;rw[<-el,pS,pS];rw[hlen]at hk;exact fun e=>h3 (lo+k) (by omega) (by omega) ((at2 l _).mpr e)
  rw[hr];obtain⟨p,q,hp⟩:∃p q,StrLaws.partsFrom (S l) 2 (c+2) cuts=p::q:=by
   cases cuts with
   | nil=>exact⟨_,_,rfl⟩
   | cons d r=>exact⟨_,_,rfl⟩
  show Str.join (S z) (Builtin.Str.strSub (S l) lo c::StrLaws.partsFrom (S l) 2 (c+2) cuts)=_;rw[hp]at ih ⊢;show Builtin.Str.strSub (S l) lo c++S z++Str.join (S z) (p::q)=_;rw[ih,Zf (Builtin.Str.strSub (S l) lo c),StrLaws.strSub_toList,xy,Ud,Ud,tQ]
def Xr (l:List Nat):Txt.replace (S l) (S [a,b]) (S z)=S (rep a b z l):=by
 obtain⟨f,h1,h2⟩:=StrLaws.occ_tight (S l) (S [a,b]) (by rw[zY];exact Nat.succ_pos _);have h:=Xz (z:=z) l _ 0 f h1 (rC _) h2;unfold Txt.replace;generalize Builtin.Str.occurrences (S l) (S [a,b]) 0 (S l).length ((S l).length+1)=oc at h1 h;rw[show ((S [a,b]).length==0)=false from rfl,rS,Bool.or_false];rw[gC]at h;cases oc with
 | nil =>
  rw[jNg (show ([]:List Nat).isEmpty=true from rfl)];rw[<-h];show S l=Builtin.Str.strSub (S l) 0 (S l).length;rw[Zf (Builtin.Str.strSub (S l) 0 (S l).length),StrLaws.strSub_toList,xy,zY,gC,Nat.sub_zero,List.take_length]
 | cons c r =>
  rw[jNh (by simp),StrLaws.glued_eq_join,StrLaws.partsBetween_eq];exact h
end
def z5e (k:Nat):(sp k).reverse=sp k:=by unfold sp;rw[List.reverse_replicate]
theorem uV:∀(s:List Nat) (A:List (List Nat)) (l:List Nat),spl c s=A++[l]->∀t,(∃p r,spl c t=p::r/\spl c (s++t)=A++(l++p)::r)
 | [],A,l,h,t=>by
  have h:[[]]=A++[l]:=h;cases A with
  | nil =>
   cases h;cases ht:spl c t with
   | nil=>exact absurd ht (uB c t)
   | cons p r=>exact⟨p,r,rfl,ht⟩
  | cons a A=>have:=congrArg List.length h;simp at this
 | x::s,A,l,h,t=>by
  by_cases hx:x=c
  ·subst hx;rw[vI]at h;cases A with
   | nil =>
    have:=congrArg List.length h;simp at this;exact absurd this (uB x s)
   | cons a A =>
    injection h with h1 h2;obtain⟨p,r,e1,e2⟩:=uV s A l h2 t;refine⟨p,r,e1,?_⟩;show spl x (x::(s++t))=_;rw[vI,e2,<-h1]
    rfl
  ·obtain⟨p0,r0,e3,e4⟩:=vR hx s;rw[e4]at h;cases A with
   | nil =>
    injection h with h1 h2;obtain⟨p,r,e1,e2⟩:=uV s [] p0 (by rw[e3,h2];rfl) t;obtain⟨p',r',e5,e6⟩:=vR hx (s++t);rw[e2]at e5;injection e5 with e7 e8;refine⟨p,r,e1,?_⟩;show spl c (x::(s++t))=_;rw[e6,<-e7,<-e8,<-h1]
    rfl
   | cons a A =>
    injection h with h1 h2;obtain⟨p,r,e1,e2⟩:=uV s (p0::A) l (by rw[e3,h2];rfl) t;obtain⟨p',r',e5,e6⟩:=vR hx (s++t);rw[e2]at e5;injection e5 with e7 e8;refine⟨p,r,e1,?_⟩;show spl c (x::(s++t))=_;rw[e6,<-e7,<-e8,<-h1]
    rfl
theorem qd:∀l:List Nat,∃i m,l=sp i++m/\(m=[]\/∃x r,m=x::r/\x≠32)
 | []=>⟨0,[],rfl,.inl rfl⟩
 | x::l=>by
  by_cases hx:x=32
  ·obtain⟨i,m,e,h⟩:=qd l;exact⟨i+1,m,by rw[hx,e];rfl,h⟩
  ·exact⟨0,x::l,rfl,.inr ⟨x,l,rfl,hx⟩⟩
def Jz (l:List Nat):∃m j,l=m++sp j/\(m=[]\/∃r y,m=r++[y]/\y≠32):=by
 obtain⟨i,m,e,h⟩:=qd l.reverse;refine⟨m.reverse,i,?_,?_⟩
 ·have:=congrArg List.reverse e;rw[List.reverse_reverse,List.reverse_append,z5e]at this;exact this
 ·rcases h with h|⟨x,r,h,hx⟩
  ·exact .inl (by rw[h];rfl)
  ·exact .inr ⟨r.reverse,x,by rw[h,List.reverse_cons],hx⟩
theorem Kf (c:List Nat):∀(A:List (List Nat)) (u w:List Nat) (r:List (List Nat)),jn c (A++(u++w)::r)=jn c (A++[u])++jn c (w::r)
 | [],u,w,[]=>rfl
 | [],u,w,b::r=>by
  show (u++w)++c++jn c (b::r)=u++(w++c++jn c (b::r))
  simp only[tQ]
 | a::A,u,w,r=>by
  rw[sJ,sJ,xu _ _ (by simp),xu _ _ (by simp),Kf c A u w r];simp only[tQ]
theorem z0d (c:List Nat):∀(A:List (List Nat)) (u w:List Nat) (r:List (List Nat)),jn c ((A++[u])++w::r)=jn c (A++[u])++c++jn c (w::r)
 | [],u,w,r=>rfl
 | a::A,u,w,r=>by
  rw[sJ,sJ,xu _ _ (by simp),xu _ _ (by simp),z0d c A u w r];simp only[tQ]
theorem qz:∀ {A B:List Nat},(A.getLast?≠some a\/B.head?≠some b)->rep a b z (A++B)=rep a b z A++rep a b z B
 | [],B,_=>rfl
 | [c],[],_=>rfl
 | [c],d::B,h=>by
  show rep a b z (c::d::B)=[c]++rep a b z (d::B);rw[W8 fun e=>by rcases h with h|h;exact h (by rw[e.1];rfl);exact h (by rw[e.2];rfl)];rfl
 | c::d::A,B,h=>by
  have hl:(c::d::A).getLast?=(d::A).getLast?:=rfl;show rep a b z (c::d::(A++B))=rep a b z (c::d::A)++_;rw[rep,rep]
  by_cases e:c=a/\d=b
  ·rw[jNg e,jNg e,tQ];cases A with
   | nil=>rfl
   | cons f A=>rw[qz (A:=f::A) (B:=B) (by rw[hl]at h;exact h)]
  ·rw[jNh e,jNh e];have:=qz (z:=z) (A:=d::A) (B:=B) (by rw[hl]at h;exact h);rw[show d::(A++B)=(d::A)++B from rfl,this];rfl
def QZ (h:a∉u):rep a b z u=u:=jL fun k e=>h (rX e.1)
def z15 (h:b∉u):rep a b z u=u:=jL fun k e=>h (rX e.2)
def Fst (A:List Nat):Prop:=∃x r,A=x::r/\x≠32
def Lst (A:List Nat):Prop:=∃r y,A=r++[y]/\y≠32
def nw (l:List Nat):List Nat:=jn [32] (zj l)
theorem Lst.ws (h:Lst A):∃P l,spl 32 A=P++[l]/\l≠[]:=by
 obtain⟨r,y,rfl,hy⟩:=h;have hne:=uB 32 r;obtain⟨P,l,e⟩:∃P l,spl 32 r=P++[l]:=⟨_,_,(rD hne).symm⟩
 obtain⟨p,q,e1,e2⟩:=uV (c:=32) r P l e [y];rw[WK (by simp;exact fun z=>hy z.symm)]at e1;cases e1;exact⟨P,l++[y],e2,by simp⟩
theorem Fst.ws (h:Fst B):∃f Q,spl 32 B=f::Q/\f≠[]:=by
 obtain⟨x,r,rfl,hx⟩:=h;obtain⟨p,q,_,e2⟩:=vR (c:=32) hx r;exact⟨x::p,q,e2,by simp⟩
def Yg (h:l≠[])(Q:List (List Nat)):(l::Q).filter (fun p=>!decide (p=[]))=l::Q.filter (fun p=>!decide (p=[])):=by rw[rY,jNg (by simp[h])]
def z6J (hA:Lst A)(hB:Fst B):nw (A++B)=nw A++nw B:=by
 obtain⟨P,l,e1,h1⟩:=hA.ws;obtain⟨f,Q,e2,h2⟩:=hB.ws;obtain⟨p,r,e3,e4⟩:=uV (c:=32) A P l e1 B;rw[e2]at e3;cases e3;unfold nw zj;rw[e4,e1,e2,pJ,pJ,Yg (by simp[h1]),Yg h1,Yg h2];exact Kf _ _ _ _ _
def z5y (hA:Lst A)(hB:Fst B)(k:Nat):nw (A++(sp (k+1)++B))=nw A++32::nw B:=by
 obtain⟨P,l,e1,h1⟩:=hA.ws;obtain⟨f,Q,e2,h2⟩:=hB.ws;unfold nw;rw[show A++(sp (k+1)++B)=A++32::(sp k++B) from rfl,Ye,XH];unfold zj;rw[e1,e2,pJ,Yg h1,Yg h2];rw[show (List.filter (fun p=>!decide (p=[])) ([]:List (List Nat)))=[] from rfl,z0d,tQ]
 rfl
def s1:Nat->List Nat
 | 0=>[]
 | _+1=>[32]
def z45 (hA:Lst A)(hB:Fst B)(k:Nat):nw (A++(sp k++B))=nw A++(s1 k++nw B):=by
 cases k with
 | zero=>exact z6J hA hB
 | succ k=>exact z5y hA hB k
def z7E (h:zj x≠[]):∃a y b,x=sp a++(y++sp b)/\Fst y/\Lst y/\nw x=nw y:=by
 obtain⟨a,m,e1,h1⟩:=qd x;obtain⟨y,b,e2,h2⟩:=Jz m;have hm:m≠[]:=by
  rintro rfl;rw[e1]at h;have:=XH a [];exact h this
 rcases h1 with h1|⟨c,r,h1,hc⟩
 ·exact absurd h1 hm
 rcases h2 with h2|⟨r',d,h2,hd⟩
 ·exfalso;rw[h2,tZ]at e2;rw[e2]at h1;cases b with
  | zero=>cases h1
  | succ b=>cases h1;exact hc rfl
 ·refine⟨a,y,b,by rw[e1,e2],?_,⟨r',d,h2,hd⟩,?_⟩
  ·cases y with
   | nil=>cases r'<;>cases h2
   | cons c' y' =>
    rw[e2]at h1;cases h1;exact⟨_,_,rfl,hc⟩
  ·unfold nw;rw[e1,e2,XH];cases b with
   | zero=>rw[show sp 0=[] from rfl,tI]
   | succ b =>
    rw[show y++sp (b+1)=y++32::sp b from rfl,Ye];have:=XH b [];rw[tI]at this;rw[this,QV,tI]
def z8y (hu:Lst u)(hv:Fst v)(hx:zj x≠[]):∃i j,nw (u++(x++v))=nw u++(s1 i++(nw x++(s1 j++nw v))):=by
 obtain⟨i,y,j,e,hf,hl,en⟩:=z7E hx;refine⟨i,j,?_⟩;rw[en,e,show u++(sp i++(y++sp j)++v)=u++(sp i++(y++(sp j++v))) by simp];have hf2:Fst (y++(sp j++v)):=by obtain⟨c,r,rfl,hc⟩:=hf;exact⟨c,_,rfl,hc⟩
 rw[z45 hu hf2,z45 hl hv]
def V0 (h:32∉w)(hw:w≠[]):nw w=w:=by unfold nw;rw[Y6 h hw];rfl
inductive NE:List (List Nat)->List Nat->Prop where
 | nil:NE [] []
 | cons (x:List Nat) (i j:Nat) {xs:List (List Nat)} {e:List Nat} (h:NE xs e):NE (x::xs) (123::(s1 i++(nw x++(s1 j++125::e))))
def Vs (u:List Nat){c:Nat}(h:c≠32):Lst (u++[c]):=⟨u,c,rfl,h⟩
theorem Ut:∀ {xs:List (List Nat)} {u:List Nat},Lst u->(∀x∈xs,zj x≠[])->∃e,NE xs e/\nw (u++enc xs)=nw u++e
 | [],u,hu,_=>⟨[],.nil,by rw[show enc []=[] from rfl,tI,tI]⟩
 | x::xs,u,hu,h=>by
  obtain⟨e,h1,h2⟩:=Ut (xs:=xs) (u:=[125]) (Vs [] (by decide)) fun y hy=>h y (tH _ hy);rw[xZ,show u++123::(x++125::enc xs)=(u++[123])++(x++([125]++enc xs)) by simp];obtain⟨i,j,h3⟩:=z8y (u:=u++[123]) (v:=[125]++enc xs) (Vs u (by decide)) ⟨125,enc xs,rfl,by decide⟩ (h x tG);refine⟨_,.cons x i j h1,?_⟩;rw[h3,h2,z6J hu ⟨123,[],rfl,by decide⟩,V0 (w:=[123]) (by decide) (by decide),V0 (w:=[125]) (by decide) (by decide),tQ]
  rfl
def eJ (xs:List (List Nat)):List Nat:=xs.flatMap fun x=>123::(nw x++[125])
def z3l (x:List Nat)(xs:List (List Nat)):eJ (x::xs)=123::(nw x++125::eJ xs):=by
 show (123::(nw x++[125]))++eJ xs=_;simp
abbrev d1:=rep 123 32 [123]
abbrev d2:=rep 32 125 [125]
inductive NF1:List (List Nat)->List Nat->Prop where
 | nil:NF1 [] []
 | cons (x:List Nat) (j:Nat) {xs:List (List Nat)} {e:List Nat} (h:NF1 xs e):NF1 (x::xs) (123::(nw x++(s1 j++125::e)))
def KO (h:(zj x).all isW=true)(hx:zj x≠[]):(∀c∈nw x,c=32\/okS c)/\Fst (nw x)/\Lst (nw x):=by
 unfold nw;have key:∀ws:List (List Nat),ws≠[]->ws.all isW=true->(∀c∈jn [32] ws,c=32\/okS c)/\Fst (jn [32] ws)/\Lst (jn [32] ws):=by
  intro ws
  induction ws with
  | nil=>intro h;exact absurd rfl h
  | cons w ws ih =>
   intro _ hall;rw[rP]at hall;obtain⟨hw,hs⟩:=tM.mp hall;obtain⟨h1,_,h3⟩:=uc hw;have f1:Fst w:=by
    cases w with
    | nil=>exact absurd rfl h1
    | cons c r=>exact⟨c,r,rfl,(h3 c tG).no.1⟩
   have l1:Lst w:=⟨_,_,(rD h1).symm,(h3 _ (gA h1)).no.1⟩
   cases ws with
   | nil=>exact⟨fun c hc=>.inr (h3 c hc),f1,l1⟩
   | cons v vs =>
    obtain⟨g1,g2,g3⟩:=ih (by simp) hs;refine⟨fun c hc=>?_,?_,?_⟩
    ·have hc:c∈w++[32]++jn [32] (v::vs):=hc;rw[tQ,tX]at hc;rcases hc with z|z
     ·exact .inr (h3 c z)
     ·rcases tS.mp z with z|z
      ·exact .inl z
      ·exact g1 c z
    ·obtain⟨c,r,e,hc⟩:=f1;exact⟨c,r++[32]++jn [32] (v::vs),by show w++[32]++_=_;rw[e];simp,hc⟩
    ·obtain⟨r,y,e,hy⟩:=g3;exact⟨w++[32]++r,y,by show w++[32]++_=_;rw[e];simp,hy⟩
 exact key _ hx h
def Zz (h:awB x 1 30=true):(zj x).all isW=true/\zj x≠[]:=by
 rw[qU]at h;obtain⟨h1,h2⟩:=tM.mp h;have h2:=of_decide_eq_true h2;exact⟨h1,fun z=>by rw[z]at h2;exact absurd h2.1 (by decide)⟩
def ZV {c:Nat}{u:List Nat}(h:∀d∈u,d=32\/okS d)(hc:c=123\/c=125):c∉u:=fun z=>by
 rcases h c z with e|e
 ·rcases hc with q|q<;>rw[q]at e<;>exact absurd e (by decide)
 ·rcases hc with q|q
  ·exact e.no.2.2.1 q
  ·exact e.no.2.2.2.1 q
def jJ {u:List Nat}{c:Nat}(hl:Lst u)(h:∀d∈u,d=32\/okS d)(hc:c=32\/c=123):u.getLast?≠some c:=by
 obtain⟨r,y,rfl,hy⟩:=hl;rw[List.getLast?_append];show some y≠some c;intro e;cases e;rcases hc with q|q
 ·exact hy q
 ·exact ZV h (.inl q) (by simp)
def WH (h:A.getLast?≠some 123\/B.head?≠some 32):d1 (A++B)=d1 A++d1 B:=qz h
def Wf (h:A.getLast?≠some 32\/B.head?≠some 125):d2 (A++B)=d2 A++d2 B:=qz h
def UM (h:123∉u):d1 u=u:=QZ h
def z5E (h:32∉u):d2 u=u:=QZ h
def Ql (h:125∉u):d2 u=u:=z15 h
def z4B:d1 (123::32::s)=123::d1 s:=by
 show rep 123 32 [123] (123::32::s)=_;rw[rep,jNg ⟨rfl,rfl⟩];rfl
def z5j:d2 (32::125::s)=125::d2 s:=by
 show rep 32 125 [125] (32::125::s)=_;rw[rep,jNg ⟨rfl,rfl⟩];rfl
def WJ (h:c≠123):d1 (c::s)=c::d1 s:=by
 have:=qz (a:=123) (b:=32) (z:=[123]) (A:=[c]) (B:=s) (.inl (by simp;exact h));exact this
def z0w (h:c≠32):d2 (c::s)=c::d2 s:=by
 have:=qz (a:=32) (b:=125) (z:=[125]) (A:=[c]) (B:=s) (.inl (by simp;exact h));exact this
def z68 {xs:List (List Nat)}{e:List Nat}(h:NE xs e):(∀x∈xs,awB x 1 30=true)->NF1 xs (d1 e):=by
 induction h with
 | nil=>intro _;exact .nil
 | cons x i j h ih =>
  rename_i xs e0;intro hx;have ih:=ih fun y hy=>hx y (tH _ hy);obtain⟨g1,g2⟩:=Zz (hx x tG);obtain⟨q1,q2,q3⟩:=KO g1 g2;have k1:d1 (s1 j++125::e0)=s1 j++125::d1 e0:=by
   cases j with
   | zero=>exact WJ (by decide)
   | succ j=>show d1 (32::125::e0)=32::125::d1 e0;rw[WJ (by decide),WJ (by decide)]
  have k2:d1 (nw x++(s1 j++125::e0))=nw x++(s1 j++125::d1 e0):=by
   rw[WH (.inl (jJ q3 q1 (.inr rfl))),UM (ZV q1 (.inl rfl)),k1]
  have k3:d1 (123::(s1 i++(nw x++(s1 j++125::e0))))=123::(nw x++(s1 j++125::d1 e0)):=by
   cases i with
   | zero =>
    have:=WH (A:=[123]) (B:=nw x++(s1 j++125::e0)) (.inr (by
     obtain⟨c,r,e,hc⟩:=q2;rw[e];simp;exact hc))
    show d1 ([123]++(nw x++(s1 j++125::e0)))=_;rw[this,k2];rfl
   | succ i =>
    show d1 (123::32::(nw x++(s1 j++125::e0)))=_;rw[z4B,k2]
  rw[k3];exact .cons x j ih
def z7Z {xs:List (List Nat)}{e:List Nat}(h:NF1 xs e):(∀x∈xs,awB x 1 30=true)->d2 e=eJ xs:=by
 induction h with
 | nil=>intro _;rfl
 | cons x j h ih =>
  rename_i xs e0;intro hx;have ih:=ih fun y hy=>hx y (tH _ hy);obtain⟨g1,g2⟩:=Zz (hx x tG);obtain⟨q1,q2,q3⟩:=KO g1 g2;have k1:d2 (s1 j++125::e0)=125::d2 e0:=by
   cases j with
   | zero=>exact z0w (by decide)
   | succ j=>show d2 (32::125::e0)=_;exact z5j
  rw[z0w (by decide),Wf (.inl (jJ q3 q1 (.inl rfl))),Ql (ZV q1 (.inr rfl)),k1,ih,z3l]
def z2y (h:NE xs e):e=[]\/∃q,e=q++[125]:=by
 induction h with
 | nil=>exact .inl rfl
 | cons x i j h ih =>
  rename_i xs e0
  right
  rcases ih with rfl|⟨q,rfl⟩
  ·exact⟨123::(s1 i++(nw x++s1 j)),by simp⟩
  ·exact⟨123::(s1 i++(nw x++(s1 j++125::q))),by simp⟩
def z3h (h:NF1 xs e):e=[]\/∃q,e=q++[125]:=by
 induction h with
 | nil=>exact .inl rfl
 | cons x j h ih =>
  rename_i xs e0
  right
  rcases ih with rfl|⟨q,rfl⟩
  ·exact⟨123::(nw x++s1 j),by simp⟩
  ·exact⟨123::(nw x++(s1 j++125::q)),by simp⟩
def ptx (r:Rw):List Nat:=r.1++eJ r.2
def z1r {r:Rw}(h:gd r=true):∃e1 e2,nw (r.1++enc r.2)=r.1++e1/\(e1=[]\/∃q,e1=q++[125])/\d1 (r.1++e1)=r.1++e2/\(e2=[]\/∃q,e2=q++[125])/\d2 (r.1++e2)=ptx r:=by
 obtain⟨h1,h2,h3⟩:=(Xe r).mp h;obtain⟨hw1,_,hw3⟩:=uc h1;have l1:Lst r.1:=⟨_,_,(rD hw1).symm,(hw3 _ (gA hw1)).no.1⟩
 have ok:∀d∈r.1,d=32\/okS d:=fun d hd=>.inr (hw3 d hd);have n32:32∉r.1:=fun z=>(hw3 _ z).no.1 rfl;obtain⟨e,he,hn⟩:=Ut (xs:=r.2) l1 fun x hx=>(Zz (h3 x hx)).2;rw[V0 n32 hw1]at hn;have hf:=z68 he h3;refine⟨e,d1 e,hn,z2y he,?_,z3h hf,?_⟩
 ·rw[WH (.inl (jJ l1 ok (.inr rfl))),UM (ZV ok (.inl rfl))]
 ·rw[Wf (.inl (jJ l1 ok (.inl rfl))),z5E n32,z7Z hf h3];rfl
def Ky (hw:w≠[])(ok:∀d∈w,okS d)(he:e=[]\/∃q,e=q++[125])(hc:c=32\/c=123):(w++e).getLast?≠some c:=by
 rcases he with rfl|⟨q,rfl⟩
 ·rw[tI];exact jJ ⟨_,_,(rD hw).symm,(ok _ (gA hw)).no.1⟩ (fun d hd=>.inr (ok d hd)) hc
 ·rw[<-tQ,List.getLast?_append];show some 125≠some c;intro z;cases z;rcases hc with q|q<;>exact absurd q (by decide)
theorem V9 (h:Lst w):∀xs:List (List Nat),Lst (w++enc xs)
 | []=>by rw[show enc []=[] from rfl,tI];exact h
 | x::xs=>by
  rw[xZ,show w++123::(x++125::enc xs)=(w++123::(x++[125]))++enc xs by simp];exact V9 ⟨w++123::x,125,by simp,by decide⟩ xs
def Ke (k:Nat):nw (A++sp k)=nw A:=by
 cases k with
 | zero=>rw[show sp 0=[] from rfl,tI]
 | succ k =>
  unfold nw;rw[show A++sp (k+1)=A++32::sp k from rfl,Ye];have:=XH k [];rw[tI]at this;rw[this,QV,tI]
def z0Z:∀(n:Nat) (l:List Nat) (rs:List Rw),l.length<n->(∀q,l≠32::q)->l≠[]->PL l=some rs->rs.all gd=true->(∃c q,d1 (nw l)=c::q/\c≠125)/\d2 (d1 (nw l))=jn [32] (rs.map ptx):=by
 intro n
 induction n with
 | zero=>intro l rs h;omega
 | succ n ih =>
  intro l rs hn h32 hl hpl hall;have hpl0:=hpl;rw[uk hl]at hpl;obtain⟨⟨xs,t⟩,e1,e2⟩:=sM.mp hpl;have e2:(if okT t=true then (PL (t.dropWhile pB)).map fun r=>(l.takeWhile pW,xs)::r else none)=some rs:=e2
  by_cases ho:okT t=true
  ·rw[jNg ho]at e2;obtain⟨rs',e3,e4⟩:=tV.mp e2;subst e4;rw[rP]at hall;obtain⟨hg,hall⟩:=tM.mp hall;have el:l=l.takeWhile pW++(enc xs++t):=by
    rw[<-XW (rN _) e1,sT]
   have hlen:=vZ hl e1 ho;generalize l.takeWhile pW=w at hg el;obtain⟨h1,h2,h3⟩:=(Xe (w,xs)).mp hg;obtain⟨hw1,_,hw3⟩:=uc h1;have l1:Lst w:=⟨_,_,(rD hw1).symm,(hw3 _ (gA hw1)).no.1⟩
   obtain⟨p1,p2,q1,q2,q3,q4,q5⟩:=z1r hg;have hfst:∀s:List Nat,∃c q,w++s=c::q/\c≠125:=by
    intro s;cases w with
    | nil=>exact absurd rfl hw1
    | cons c w=>exact⟨c,w++s,rfl,(hw3 c tG).no.2.2.2.1⟩
   obtain⟨a,m,et,hm⟩:=qd t;have hdm:t.dropWhile pB=m:=by
    rw[et];refine (YI (p:=pB) (fun c hc=>?_) ?_).2
    ·have:c=32:=pM hc;rw[this];decide
    ·rcases hm with h|⟨c,r,h,hc⟩
     ·exact .inl h
     ·exact .inr ⟨c,r,h,by simp[pB,hc]⟩
   rw[hdm]at e3 hlen;rcases hm with h|⟨c,r,h,hc⟩
   ·subst h;rw[z0N]at e3;cases e3;have:nw l=w++p1:=by
     rw[el,et,tI,<-tQ,Ke];exact q1
    have q3:d1 (w++p1)=w++p2:=q3;rw[this,q3];exact⟨hfst _,q5⟩
   ·have hmne:m≠[]:=by rw[h];simp
    have ha:a≠0:=by
     rintro rfl;rw[show sp 0++m=m from rfl,h]at et;rw[et]at ho;exact hc (of_decide_eq_true ho)
    obtain⟨a,rfl⟩:=Nat.exists_eq_succ_of_ne_zero ha;obtain⟨⟨c',q',i1,i2⟩,i3⟩:=ih m rs' (by omega) (fun q z=>by rw[h]at z;cases z;exact hc rfl) hmne e3 hall;have hnw:nw l=(w++p1)++32::nw m:=by
     rw[el,et,<-tQ,z5y (V9 l1 xs) ⟨c,r,h,hc⟩];exact congrArg (·++32::nw m) q1
    have q3:d1 (w++p1)=w++p2:=q3;have hd1:d1 (nw l)=(w++p2)++32::d1 (nw m):=by
     rw[hnw,WH (.inl (Ky hw1 hw3 q2 (.inr rfl))),q3,WJ (by decide)]
    have q5:d2 (w++p2)=ptx (w,xs):=q5;have hd2:d2 (32::d1 (nw m))=32::d2 (d1 (nw m)):=by
     have:=Wf (A:=[32]) (B:=d1 (nw m)) (.inr (by rw[i1];simp;exact i2));exact this
    have hrs:rs'≠[]:=by
     rintro rfl;rw[uk hmne]at e3;obtain⟨⟨xs,t⟩,_,e2⟩:=sM.mp e3;have e2:(if okT t=true then _ else none)=some []:=e2;split at e2
     ·obtain⟨_,_,z⟩:=tV.mp e2;cases z
     ·cases e2
    refine⟨?_,?_⟩
    ·rw[hd1,tQ];exact hfst _
    ·rw[hd1,Wf (.inl (Ky hw1 hw3 q4 (.inl rfl))),q5,hd2,i3];cases rs' with
     | nil=>exact absurd rfl hrs
     | cons r' rs' =>
      show _=ptx (w,xs)++[32]++jn [32] (ptx r'::rs'.map ptx);simp
  ·rw[jNh ho]at e2;cases e2
theorem qF (c:Nat):∀s,((spl c s).map List.length).sum+(spl c s).length=s.length+1
 | []=>rfl
 | x::s=>by
  have ih:=qF c s
  by_cases h:x=c
  ·subst h;rw[vI];simp only[tK,rG,tE,tR];omega
  ·obtain⟨p,r,e1,e2⟩:=vR h s;rw[e1]at ih;rw[e2];simp only[tK,rG,tE]at *;omega
theorem z0t (p:List Nat->Bool):∀xs:List (List Nat),((xs.filter p).map List.length).sum+(xs.filter p).length<=(xs.map List.length).sum+xs.length
 | []=>tP _
 | x::xs=>by
  have:=z0t p xs;rw[rY];split
  ·simp only[tK,rG,tE];omega
  ·simp only[tK,rG,tE];omega
def z0U (s:List Nat):((zj s).map List.length).sum+(zj s).length<=s.length+1:=by
 have:=z0t (fun p=>!decide (p=[])) (spl 32 s);rw[qF]at this;exact this
def Uk (s:List Nat):(nw s).length<=s.length:=by
 have h1:=z0U s;unfold nw;have key:∀ws:List (List Nat),(jn [32] ws).length+1<=(ws.map List.length).sum+ws.length\/ws=[]:=by
  intro ws
  induction ws with
  | nil=>exact .inr rfl
  | cons w ws ih =>
   left
   cases ws with
   | nil=>show w.length+1<=_;simp
   | cons v vs =>
    rcases ih with ih|ih
    ·rw[xu _ _ (by simp)];simp only[tD,tK,rG,tE,tR]at *;omega
    ·cases ih
 rcases key (zj s)with h|h
 ·omega
 ·rw[h];exact rC _
def z0f (p:List Nat):decide (S p≠("":Str))=!decide (p=[]):=by
 show decide (¬(S p=S []))=_;rw[decide_not];exact congrArg (! ·) (decide_eq_decide.mpr ⟨fun h=>jj h,fun h=>by rw[h]⟩)
def Yo (h:s.length<16777216):yl [enW s]=.ok (enW (nw s)):=by
 have hl:=xI 32 s;refine xp ?_
 delta yl uG
 refine zQ (go ?_);refine zd (vE 32 h) (go ?_);refine z6U (enc:=enW) (fun p=>!decide (p=[])) enW (fun p _=>go ?_) (go ?_) ?_
 ·refine⟨z0f p,go rfl⟩
 ·refine zd (yt [32] (zj s) (by have:=z0U s;simp;omega)) (go rfl)
 ·omega
def Jp (c:Nat)(l:List Nat):j8 (S l) [enW [c]]=.ok (.int (((spl c l).length-1:Nat):Int)):=by
 have e:Txt.count (S l) (S [c])=(((spl c l).length-1:Nat):Int):=by
  rw[show S [c]=(⟨#[c]⟩:Str) from rfl,count_is,xy,countIn_signs_sum]
  induction l with
  | nil=>rfl
  | cons x l ih =>
   have hp:0<(spl c l).length:=pG.mpr (uB c l)
   by_cases h:x=c
   ·subst h;rw[vI];simp only[tK,rG,tE]at *;rw[ih];simp;omega
   ·obtain⟨p,r,e1,e2⟩:=vR h l;rw[e2];rw[e1]at ih;simp only[tK,rG,tE]at *;rw[ih];simp[h]
 show R.ok (D.int (Txt.count (S l) (S [c])))=_;rw[e]
def bar (r:List Nat):Bool:=decide (2<=r.length)&&(decide (r.head?=some 124)&&decide (r.getLast?=some 124))
def inn (r:List Nat):List Nat:=r.tail.dropLast
def Wc (h:bar r=true):r=124::(inn r++[124]):=by
 unfold bar at h;simp only[sR,decide_eq_true_eq]at h;obtain⟨h1,h2,h3⟩:=h;cases r with
 | nil=>cases h2
 | cons c q =>
  cases h2;have hq:q≠[]:=by rintro rfl;simp at h1
  have:(124::q).getLast?=q.getLast?:=by cases q with|nil=>exact absurd rfl hq|cons _ _=>rfl
  rw[this,List.getLast?_eq_some_getLast hq]at h3;have h3:=jYe h3;show 124::q=124::(q.dropLast++[124]);rw[<-h3,rD]
def Wi (r:List Nat):(inn r).length<=r.length:=by unfold inn;simp;omega
def ZT (r q:List Nat):Txt.startswith (S r) (S q)=(decide (q.length<=r.length)&&(r.take q.length==q)):=by
 unfold Txt.startswith;rw[StrLaws.subAt_eq,zY,zY,xy,xy,gC,rA]
def z5a (r q:List Nat):Txt.endswith (S r) (S q)=(decide (q.length<=r.length)&&((r.drop (r.length-q.length)).take q.length==q)):=by
 unfold Txt.endswith;rw[StrLaws.subAt_eq,zY,zY,xy,xy,rA]
theorem XD:∀(q:List Nat) (c:Nat),(c::q).drop ((c::q).length-1)=[(c::q).getLast (by simp)]
 | [],c=>rfl
 | d::q,c=>by
  have:=XD q d;rw[List.getLast_cons (by simp)];exact this
theorem qA:∀ {xs:List Nat} {x:Nat},x∈xs->x<=xs.sum
 | y::xs,x,h=>by
  rw[rG];rcases tS.mp h with z|z
  ·omega
  ·have:=qA z;omega
def itr (r:List Nat):Bool:=decide (((r.length:Nat):Int)>1)&&(Txt.startswith (S r) (S [124])&&Txt.endswith (S r) (S [124]))
def z5Q (r:List Nat):itr r=bar r:=by
 unfold itr bar;congr 1
 ·exact decide_eq_decide.mpr (by omega)
 ·rw[ZT,z5a];cases r with
  | nil=>rfl
  | cons c q =>
   rw[show ([124]:List Nat).length=1 from rfl,XD,List.getLast?_eq_some_getLast (by simp:c::q≠[])];simp
   rfl
def WV (hb:big r):xi [enW r]=.ok (.bl (bar r)):=by
 rw[<-z5Q];have h1:=uF hb;have h2:yD (S r) [.str "|"]=.ok (.bl (Txt.startswith (S r) (S [124]))):=rfl;have h3:vg (S r) [.str "|"]=.ok (.bl (Txt.endswith (S r) (S [124]))):=rfl;unfold itr enW;generalize Txt.startswith (S r) (S [124])=b at *;generalize Txt.endswith (S r) (S [124])=c at *;generalize ((r.length:Nat):Int)=l at *;generalize S r=Z at *;unfold xi qj;cases h4:decide (l>1)
 ·simp -implicitDefEqProofs only [zC,zm,za,eC,zc,eL,ze,zb,uq,asB,jYa,tK,rK,tE,tR,sS,sJ,tZ,tU,Nat.reduceSub,rA,Ji,if_false,sY,Wz,WZ,h1,h4,rS]
 ·cases b
  ·simp -implicitDefEqProofs only [zC,zm,za,eC,zc,eL,ze,zb,uq,asB,jYa,tK,rK,tE,tR,sS,sJ,tZ,tU,Nat.reduceSub,rA,Ji,if_true,if_false,sY,Wz,WZ,h1,h2,h4,rS,rQ]
  ·simp -implicitDefEqProofs only [zC,zm,za,eC,zc,eL,ze,zb,uq,asB,jYa,tK,rK,tE,tR,sS,sJ,tZ,tU,Nat.reduceSub,rA,Ji,if_true,Wz,WZ,h1,h2,h3,h4,rQ]
def uC (c:Nat){s p:List Nat}(h:p∈spl c s):p.length<=s.length:=by
 have h1:=qF c s;have h2:p.length<=((spl c s).map List.length).sum:=qA (rZ h);have h3:0<(spl c s).length:=pG.mpr (uB c s);omega
def kl (xs:List Nt):D.imms (xs.map enN)=true:=xj (f:=enN) (fun n=>wY n) xs
def z1k (h:m.length<16777214):vv [enW (124::(m++[124]))]=.ok (enR ((spl 124 m).map zj)):=by
 have hl:=xI 124 m;refine xp ?_
 delta vv Yt
 refine zQ (go ?_);refine zd (z3Y 124 124 m (by simp;omega)) (go ?_);refine zd (vE 124 (by omega)) (go ?_);refine uz (enc:=enW) (fun p=>enN (zj p)) (fun p hp=>go ?_) (go ?_) ?_
 ·have:=uC 124 hp;refine zd (Yu (by omega)) (go rfl)
 ·refine zd (show zV [.lst ((spl 124 m).map fun p=>enN (zj p))]=.ok (enR ((spl 124 m).map zj)) from ?_) (go rfl);rw[show ((spl 124 m).map fun p=>enN (zj p))=((spl 124 m).map zj).map enN by rw[sI];rfl];exact jNg (kl _)
 ·omega
def z2T (h:m.length<5000000):xn [enW (124::(m++[124]))]=.ok (enW (124::(jn [124] ((spl 124 m).map fun p=>32::(nw p++[32]))++[124]))):=by
 have hl:=xI 124 m;have hs:=qF 124 m;refine xp ?_
 delta xn qo
 refine zQ (go ?_);refine zd (z3Y 124 124 m (by simp;omega)) (go ?_);refine zd (vE 124 (by omega)) (go ?_);refine uz (enc:=enW) (fun p=>enW (32::(nw p++[32]))) (fun p hp=>go ?_) (go ?_) ?_
 ·have h1:=uC 124 hp;have h2:=Uk p;refine zd (Yo (by omega)) (go ?_);refine zd (yu (a:=[32]) (b:=nw p) (by simp;omega)) (go ?_);refine zd (yu (a:=32::nw p) (b:=[32]) (by simp;omega)) (go ?_)
  rfl
 ·rw[show ((spl 124 m).map fun p=>enW (32::(nw p++[32])))=((spl 124 m).map fun p=>32::(nw p++[32])).map enW by rw[sI];rfl];have hj:(((spl 124 m).map fun p=>32::(nw p++[32])).map List.length).sum+((spl 124 m).map fun p=>32::(nw p++[32])).length*1<=3*(m.length+1):=by
   rw[<-hs];generalize spl 124 m=P;clear hs hl
   induction P with
   | nil=>exact tP _
   | cons p P ih =>
    have:=Uk p;simp only[tK,rG,tE,tD,tR]at *;omega
  have hj2:=uR [124] ((spl 124 m).map fun p=>32::(nw p++[32]));refine zd (yt [124] _ (by have:([124]:List Nat).length=1:=rfl;rw[this];omega)) (go ?_);generalize jn [124] ((spl 124 m).map fun p=>32::(nw p++[32]))=J at *;have hj3:J.length<=3*(m.length+1):=by have:([124]:List Nat).length=1:=rfl;rw[this]at hj2;omega
  refine zd (yu (a:=[124]) (b:=J) (by simp;omega)) (go ?_);refine zd (yu (a:=124::J) (b:=[124]) (by simp;omega)) (go ?_)
  rfl
 ·omega
end K08
set_option maxHeartbeats 4900000
namespace K08
open PySem PySem.Spec PyProof.Rows L2
abbrev Rs:=List (List Nat)
def bR (rows:Rs):Prop:=(rows.map List.length).sum+rows.length<=4900000
theorem bR.one (h:bR rows){r:List Nat}(hr:r∈rows):r.length<=4900000:=by
 have:=qA (rZ (f:=List.length) hr);unfold bR at h;omega
theorem bR.len (h:bR rows):rows.length<=4900000:=by unfold bR at h;omega
def Uu (rows:List (List Nat))(q:List Nat):eqR false (.lst (rows.map enW)) (.lst [enW q])=.ok (.bl (decide (rows=[q]))):=by
 show (match (if (rows.map enW).length=[enW q].length then yn (eqF 11) (rows.map enW) [enW q] else some false)with|some b=>R.ok (D.bl (if false=true then !b else b))|none=>.bad)=_;rcases rows with _|⟨r,_|⟨r2,rows⟩⟩
 ·rw[jNh (by simp),decide_eq_false (by simp)];rfl
 ·rw[jNg (show (List.map enW [r]).length=[enW q].length from rfl)];have e:eqF 11 (enW r) (enW q)=some (S r==S q):=rfl;have e2:yn (eqF 11) ([r].map enW) [enW q]=some (S r==S q):=by
   show yn (eqF 11) [enW r] [enW q]=_;unfold yn;rw[e];unfold yn;cases (S r==S q)<;>rfl
  rw[e2,z1Z];have:decide ([r]=[q])=decide (r=q):=by congr 1;simp
  rw[this]
  rfl
 ·rw[jNh (by simp),decide_eq_false (by simp)];rfl
def z5p (rows:List (List Nat)):eqR false (.lst (rows.map enW)) (.lst [])=.ok (.bl (decide (rows=[]))):=by
 cases rows with
 | nil=>rfl
 | cons r rows=>rfl
def z1y (h:big (r++[c])):ixD (.str (S (r++[c]))) (.int (-1))=.ok (.str (one c)):=
 US (by rw[zY,jKj];exact h) (by rw[xy];exact jx r c)
def z10 (c d:Nat):decide (one c≠S [d])=!decide (c=d):=by
 rw[show decide (one c≠S [d])=!decide (one c=S [d]) from decide_not,Q9]
def Wm (h:bR rows):yH [.lst (rows.map enW)]=.ok (.bl (rows.all bar)):=by
 refine xp ?_
 delta yH qS
 refine zQ (go ?_);refine z6U (enc:=enW) (fun r=>!bar r) enW (fun r hr=>go ?_) (go ?_) ?_
 ·have hb:=h.one hr;have hbig:big r:=by show r.length<=16777216;omega
  refine zd (uF hbig) (go ?_)
  by_cases h2:2<=r.length
  ·rw[decide_eq_false (by omega)];refine go ?_;obtain⟨c,m,d,rfl⟩:∃c m d,r=c::(m++[d]):=by
    rcases r with _|⟨c,_|⟨c2,q⟩⟩
    ·simp at h2
    ·simp at h2
    ·exact⟨c,_,_,congrArg (c::·) (rD (by simp:c2::q≠[])).symm⟩
   have hbar:bar (c::(m++[d]))=(decide (c=124)&&decide (d=124)):=by
    unfold bar;rw[decide_eq_true h2,show (c::(m++[d])).getLast?=some d from by rw[show c::(m++[d])=(c::m)++[d] from rfl,List.getLast?_append];rfl];simp
   rw[hbar];refine zd (W5 (i:=0) hbig rfl) (go ?_);rw[show decide (one c≠("|":Str))=!decide (c=124) from z10 c 124];cases hc:decide (c=124)
   ·exact go rfl
   ·refine go ?_;refine zd (z1y (r:=c::m) (c:=d) hbig) (go ?_);rw[show decide (one d≠("|":Str))=!decide (d=124) from z10 d 124];exact⟨rfl,go rfl⟩
  ·rw[decide_eq_true (by omega)];refine go ?_;refine⟨?_,go rfl⟩;unfold bar;rw[decide_eq_false h2];rfl
 ·refine zd (z5p _) (go ?_);congr 1
  induction rows with
  | nil=>rfl
  | cons r rows ih =>
   rw[rY,rP];cases hb:bar r
   ·rfl
   ·exact ih (by unfold bR at *;simp at *;omega)
 ·have:=h.len;omega
def z1Y (i j:Int):eqR true (.int i) (.int j)=.ok (.bl (!decide (i=j))):=by
 rw[Wy,jNg rfl];rfl
def z6s (i j:Nat):eqR true (.int (i:Nat)) (.int (j:Nat))=.ok (.bl (!decide (i=j))):=by
 rw[z1Y];exact congrArg (fun b=>R.ok (D.bl (!b))) (decide_eq_decide.mpr (by omega))
def WL (n:Nat)(rows:Rs):Bool:=rows.all fun r=>decide ((spl 124 r).length-1=n)&&(spl 124 r).all fun p=>awB p 0 12
def JO (h:bR (r0::rs)):yT [.lst ((r0::rs).map enW)]=.ok (.bl (WL ((spl 124 r0).length-1) (r0::rs)&&(decide (2<=(spl 124 r0).length-1/\(spl 124 r0).length-1<=5)&&decide ((r0::rs).length<=20)))):=by
 refine xp ?_
 delta yT uH
 refine zQ (go ?_);refine zd (show ixD (.lst ((r0::rs).map enW)) (.int 0)=.ok (enW r0) from xf (xA (by decide) rfl)) (go ?_);refine zd (Jp 124 r0) (go ?_);generalize (spl 124 r0).length-1=n;have hlen:=h.len;have hone:∀r∈r0::rs,r.length<=4900000:=fun r hr=>h.one hr;generalize r0::rs=rows at hlen hone;refine z5o (enc:=enW) (fun es τ=>∃(x2 x3:Option D),τ=[some (.lst (rows.map enW)),some (.int (n:Nat)),x2,x3]/\WL n rows=WL n es/\∀r∈es,r.length<=4900000) ⟨none,none,rfl,rfl,hone⟩ ?_ ?_
 ·rintro r es _ ⟨x2,x3,rfl,en,hb⟩;have hr:=hb r tG;have hs:=xI 124 r;have en:WL n rows=((decide ((spl 124 r).length-1=n)&&(spl 124 r).all fun p=>awB p 0 12)&&WL n es):=en;refine go ?_;refine zd (vE 124 (by omega)) (go ?_);refine zd (Jp 124 r) (go ?_);refine zd (z6s _ _) (go ?_)
  by_cases hn:(spl 124 r).length-1=n
  ·rw[decide_eq_true hn,rQ]at en;rw[decide_eq_true hn];refine go ?_;refine uz (enc:=enW) (fun p=>D.bl (awB p 0 12)) (fun p hp=>go ?_) (go ?_) ?_
   ·have:=uC 124 hp;refine zd (qy (by show p.length<=16777216;omega) 0 12) (go rfl)
   ·refine zd all_map (go ?_);cases ha:(spl 124 r).all fun p=>awB p 0 12
    ·rw[ha,rS]at en;refine go ?_;rw[en];rfl
    ·rw[ha,rQ]at en;refine go ?_;exact⟨_,_,rfl,en,fun r' h'=>hb r' (tH _ h')⟩
   ·omega
  ·rw[decide_eq_false hn,rS,rS]at en;rw[decide_eq_false hn];refine go ?_;rw[en];rfl
 ·rintro _ ⟨x2,x3,rfl,en,_⟩;rw[en,show WL n []=true from rfl,rQ];refine go ?_;have hle:(n:Int)<=5↔n<=5:=by omega
  refine yA (fun h1=>go ?_) fun h1=>go ?_
  ·by_cases h2:n<=5
   ·rw[decide_eq_true (show 2<=n/\n<=5 by omega),rQ,decide_eq_true (hle.mpr h2)];refine go ?_;exact congrArg D.bl (decide_eq_decide.mpr (by omega))
   ·rw[decide_eq_false (show ¬(2<=n/\n<=5) by omega),rS,decide_eq_false (fun z=>h2 (hle.mp z))];exact go rfl
  ·rw[decide_eq_false (show ¬(2<=n/\n<=5) by omega),rS]
end K08
set_option maxHeartbeats 4900000
namespace K08
open PySem PySem.Spec PyProof.Rows L2
def hd1:Rs->Option (List Nat)
 | [61::32::q]=>some q
 | _=>none
def blk (rows:Rs):Option Blk:=
 if rows=[[126]] then some .leaf
 else match hd1 rows with
  | some q=>some (.head (zj q))
  | none=>if rows.all bar=true then some (.table (rows.map fun r=>(spl 124 (inn r)).map zj)) else (PL (jn [32] rows)).map fun rs=>.text (rs.map fun r=>(r.1,r.2.map zj))
def enO:Option Blk->D
 | some b=>enB b
 | none=>.tup [.str "text",.non]
def bR.join (h:bR rows):(jn [32] rows).length<=4900000:=by
 have:=uR [32] rows;unfold bR at h;simp at this;omega
def qv (h:hd1 rows=some q):rows=[61::32::q]:=by
 unfold hd1 at h;split at h
 ·cases h;rfl
 ·cases h
def VP (h:hd1 rows=none):∀r,rows=[r]->(decide (2<=r.length)&&(r.take 2==[61,32]))=false:=by
 intro r e;subst e;rcases r with _|⟨a,_|⟨b,q⟩⟩
 ·rfl
 ·rfl
 ·by_cases hab:a=61/\b=32
  ·obtain⟨rfl,rfl⟩:=hab;cases h
  ·rw[Bool.and_eq_false_iff]
   right
   rw[beq_eq_false_iff_ne];intro z;simp at z;exact hab z
def jC (h:Y r fun v=>v=d):r=.ok d:=by obtain⟨_,e,rfl⟩:=h;exact e
def z3W (h:(if x=true then k τ else .ok false)=.ok b)(hq:q b):kA k τ q x:=zd h hq
def UK (xs:List (List Nt)):D.imms (xs.map enR)=true:=xj (f:=enR) (fun n=>kl n) xs
def z1l (h:bR rows):wI [.lst (rows.map enW)]=.ok (enO (blk rows)):=by
 have hlen:=h.len;refine xp ?_
 delta wI Yi
 refine zQ (go ?_);refine zd (Uu rows [126]) (go ?_);unfold blk
 by_cases h1:rows=[[126]]
 ·rw[jNg h1,decide_eq_true h1];exact go rfl
 rw[jNh h1,decide_eq_false h1];refine go ?_;refine z3W (b:=(hd1 rows).isSome) ?_ (go ?_)
 ·cases hh:hd1 rows with
  | some q =>
   have e:=qv hh;subst e;refine jC ?_;rw[decide_eq_true (by rfl)];refine go ?_;refine zd (show ixD (.lst ([61::32::q].map enW)) (.int 0)=.ok (enW (61::32::q)) from xf (xA (by decide) rfl)) (go ?_);have hs:=ZT (61::32::q) [61,32];refine zd (show yD (S (61::32::q)) [.str "= "]=.ok (.bl (Txt.startswith (S (61::32::q)) (S [61,32]))) from rfl) (go ?_);show Txt.startswith (S (61::32::q)) (S [61,32])=true;rw[hs];simp
  | none =>
   have hn:=VP hh;refine jC ?_;rcases rows with _|⟨r,_|⟨r2,rows⟩⟩
   ·exact go rfl
   ·rw[decide_eq_true (by rfl)];refine go ?_;refine zd (show ixD (.lst ([r].map enW)) (.int 0)=.ok (enW r) from xf (xA (by decide) rfl)) (go ?_);have hs:=ZT r [61,32];refine zd (show yD (S r) [.str "= "]=.ok (.bl (Txt.startswith (S r) (S [61,32]))) from rfl) (go ?_);show Txt.startswith (S r) (S [61,32])=false;rw[hs];exact hn r rfl
   ·rw[decide_eq_false (by simp;omega)];exact go rfl
 cases hh:hd1 rows with
 | some q =>
  have e:=qv hh;subst e;have hq:=h.one tG;simp only[tE]at hq;rw[show (some q).isSome=true from rfl];refine go ?_;refine zd (show ixD (.lst ([61::32::q].map enW)) (.int 0)=.ok (enW (61::32::q)) from xf (xA (by decide) rfl)) (go ?_);refine zd (z8X 61 (32::q) (by simp;omega)) (go ?_);refine zd (Yu (s:=32::q) (by simp;omega)) (go ?_);rw[show zj (32::q)=zj q from XH 1 q]
  rfl
 | none =>
  rw[show (none:Option (List Nat)).isSome=false from rfl];refine go ?_;refine uz (enc:=enW) (fun r=>D.bl (bar r)) (fun r hr=>go ?_) (go ?_) ?_
  ·have:=h.one hr;refine zd (WV (by show r.length<=16777216;omega)) (go rfl)
  ·refine zd all_map (go ?_);show kI _ _ _ _ _;cases hb:rows.all bar
   ·refine go ?_;have hj:=h.join;refine zd (yt [32] rows (by unfold bR at h;simp;omega)) (go ?_);refine zd (Ki (by omega)) (go ?_);cases PL (jn [32] rows)with
    | none=>rfl
    | some rs =>
     show D.tup [.str "text",.tup (rs.map enQ)]=D.tup [.str "text",.tup ((rs.map fun r=>(r.1,r.2.map zj)).map enP)];rw[sI];rfl
   ·refine go ?_;refine uz (enc:=enW) (fun r=>enR ((spl 124 (inn r)).map zj)) (fun r hr=>go ?_) (go ?_) ?_
    ·have hl:=h.one hr;have hbar:=Wc (sD.mp hb r hr);have hi:=Wi r;have:=z1k (m:=inn r) (by omega);rw[<-hbar]at this;refine zd this (go rfl)
    ·refine zd (show zV [.lst (rows.map fun r=>enR ((spl 124 (inn r)).map zj))]=.ok (enT (rows.map fun r=>(spl 124 (inn r)).map zj)) from ?_) (go rfl);rw[show (rows.map fun r=>enR ((spl 124 (inn r)).map zj))=(rows.map fun r=>(spl 124 (inn r)).map zj).map enR by rw[sI];rfl];exact jNg (UK _)
    ·omega
  ·omega
end K08
set_option maxHeartbeats 4900000
namespace K08
open PySem PySem.Spec PyProof.Rows L2
def z7q:Rs->Bool
 | []=>false
 | r0::rs=>WL ((spl 124 r0).length-1) (r0::rs)&&(decide (2<=(spl 124 r0).length-1/\(spl 124 r0).length-1<=5)&&decide ((r0::rs).length<=20))
def z0 (b:Bool):Option Nat:=if b=true then some 0 else none
def LN (rows:Rs):Option Nat:=
 if rows=[[126]] then some 0
 else match hd1 rows with
  | some q=>z0 (awB q 1 12)
  | none=>if rows.all bar=true then z0 (z7q rows) else NT (jn [32] rows)
def z3P (b:Bool):(if b=true then (1:Int) else 0)-1=opI (z0 b):=by cases b<;>rfl
def z8s (r:List Nat):(decide (2<=r.length)&&(r.take 2==[61,32]))=decide (r.take 2=[61,32]):=by
 rw[show (r.take 2==[61,32])=decide (r.take 2=[61,32]) from by
  by_cases h:r.take 2=[61,32]
  ·rw[decide_eq_true h,h];rfl
  ·rw[decide_eq_false h];exact beq_false_of_ne h]
 by_cases h:r.take 2=[61,32]
 ·have:=congrArg List.length h;rw[sZ]at this;simp at this;rw[decide_eq_true h,decide_eq_true (by omega)];rfl
 ·rw[decide_eq_false h,Bool.and_false]
def QE (b:Bool):jG [.bl b]=.ok (.int (if b=true then 1 else 0)):=by cases b<;>rfl
def z1h (h:bR rows)(hne:rows≠[]):wj [.lst (rows.map enW)]=.ok (.int (opI (LN rows))):=by
 have hlen:=h.len;refine xp ?_
 delta wj jH
 refine zQ (go ?_);refine zd (Uu rows [126]) (go ?_);unfold LN
 by_cases h1:rows=[[126]]
 ·rw[jNg h1,decide_eq_true h1];exact go rfl
 rw[jNh h1,decide_eq_false h1];refine go ?_;have hsl:∀r∈rows,slD (.str (S r)) none (some 2)=.ok (.str (S (r.take 2))):=by
  intro r hr;have hb:=h.one hr;rw[jZ (by show r.length<=16777216;omega)];exact congrArg (fun z=>R.ok (D.str z)) (Yd r 2)
 have hdc:∀r,decide (S (List.take 2 r)=("= ":Str))=decide (r.take 2=[61,32]):=fun r=>decide_eq_decide.mpr ⟨fun h=>jj (b:=[61,32]) h,fun h=>by rw[h];rfl⟩;refine z3W (b:=(hd1 rows).isSome) ?_ (go ?_)
 ·cases hh:hd1 rows with
  | some q =>
   have e:=qv hh;subst e;refine jC ?_;rw[decide_eq_true (by rfl)];refine go ?_;refine zd (show ixD (.lst ([61::32::q].map enW)) (.int 0)=.ok (enW (61::32::q)) from xf (xA (by decide) rfl)) (go ?_);refine zd (hsl _ tG) (go ?_);rw[hdc];rfl
  | none =>
   have hn:=VP hh;refine jC ?_;rcases rows with _|⟨r,_|⟨r2,rows⟩⟩
   ·exact go rfl
   ·rw[decide_eq_true (by rfl)];refine go ?_;refine zd (show ixD (.lst ([r].map enW)) (.int 0)=.ok (enW r) from xf (xA (by decide) rfl)) (go ?_);refine zd (hsl _ tG) (go ?_);rw[hdc,<-z8s];exact hn r rfl
   ·rw[decide_eq_false (by simp;omega)];exact go rfl
 cases hh:hd1 rows with
 | some q =>
  have e:=qv hh;subst e;have hq:=h.one tG;simp only[tE]at hq;rw[show (some q).isSome=true from rfl];refine go ?_;refine zd (show ixD (.lst ([61::32::q].map enW)) (.int 0)=.ok (enW (61::32::q)) from xf (xA (by decide) rfl)) (go ?_);refine zd (show slD (.str (S (61::32::q))) (some 2) none=.ok (.str (S q)) from ?_) (go ?_)
  ·rw[jZ (by simp;omega)];exact congrArg (fun z=>R.ok (D.str z)) (wx (61::32::q) 2 (by simp))
  refine zd (qy (by show q.length<=16777216;omega) 1 12) (go ?_);refine zd (QE _) (go ?_);exact congrArg D.int (z3P _)
 | none =>
  rw[show (none:Option (List Nat)).isSome=false from rfl];refine go ?_;refine zd (Wm h) (go ?_);cases hb:rows.all bar
  ·refine go ?_;have hj:=h.join;refine zd (yt [32] rows (by unfold bR at h;simp;omega)) (go ?_);refine zd (YS (by omega)) (go rfl)
  ·refine go ?_;cases rows with
   | nil=>exact absurd rfl hne
   | cons r0 rs =>
    refine zd (JO h) (go ?_);refine zd (QE _) (go ?_);exact congrArg D.int (z3P _)
end K08
set_option maxHeartbeats 4900000
namespace K08
open PySem PySem.Spec PyProof.Rows L2
def z4L (q:List Nat):isH (zj q)=awB q 1 12:=by
 rw[qU,Bool.and_comm];rfl
def z4U (q:List Nat):isC (zj q)=awB q 0 12:=by
 rw[qU,Bool.and_comm];rfl
def QH (h:bar r=true):spl 124 r=[]::(spl 124 (inn r)++[[]]):=by
 have e:=Wc h;generalize inn r=m at e;rw[e,vI,show m++[124]=m++124::[] from rfl,ZA];rfl
def z5W (hb:rows.all bar=true)(hne:rows≠[]):z7q rows=isT (rows.map fun r=>(spl 124 (inn r)).map zj):=by
 have hb:=sD.mp hb;have hlen:∀r∈rows,(spl 124 r).length-1=(spl 124 (inn r)).length+1:=fun r hr=>by rw[QH (hb r hr)];simp
 have hall:∀r∈rows,((spl 124 r).all fun p=>awB p 0 12)=((spl 124 (inn r)).map zj).all isC:=fun r hr=>by
  rw[QH (hb r hr),rP,List.all_append,pE];have h0:awB [] 0 12=true:=rfl;rw[h0,show List.all [[]] (fun p=>awB p 0 12)=true from rfl,rQ,Bool.and_true];congr 1
  funext p
  exact (z4U p).symm
 cases rows with
 | nil=>exact absurd rfl hne
 | cons r0 rs =>
  show (WL _ _&&_)=_;rw[hlen r0 tG];have hR:∀r∈r0::rs,isR ((spl 124 (inn r)).map zj)=(decide (1<=(spl 124 (inn r)).length/\(spl 124 (inn r)).length<=4)&&(spl 124 r).all fun p=>awB p 0 12):=fun r hr=>by
   rw[hall r hr];unfold isR;congr 1;rw[tJ];exact decide_eq_decide.mpr (by omega)
  rw[Bool.eq_iff_iff];unfold WL isT;constructor
  ·intro h;obtain⟨h1,h2⟩:=tM.mp h;obtain⟨h2,h3⟩:=tM.mp h2;have h2:=of_decide_eq_true h2;have h3:=of_decide_eq_true h3;have h1:=sD.mp h1;refine tM.mpr ⟨tM.mpr ⟨decide_eq_true ?_,?_⟩,?_⟩
   ·rw[tJ];have:(r0::rs).length=rs.length+1:=rfl;omega
   ·rw[pE,sD];intro r hr;obtain⟨g1,g2⟩:=tM.mp (h1 r hr);have g1:=of_decide_eq_true g1;rw[hlen r hr]at g1;show isR _=true;rw[hR r hr,g2,Bool.and_true];exact decide_eq_true (by omega)
   ·rw[pE,sD];intro r hr;obtain⟨g1,g2⟩:=tM.mp (h1 r hr);have g1:=of_decide_eq_true g1;rw[hlen r hr]at g1;refine decide_eq_true ?_;show ((spl 124 (inn r)).map zj).length=((spl 124 (inn r0)).map zj).length;rw[tJ,tJ];omega
  ·intro h;obtain⟨h1,h2⟩:=tM.mp h;obtain⟨h0,h1⟩:=tM.mp h1;have h0:=of_decide_eq_true h0;rw[tJ]at h0;rw[pE,sD]at h1 h2;have key:∀r∈r0::rs,(1<=(spl 124 (inn r)).length/\(spl 124 (inn r)).length<=4)/\((spl 124 r).all fun p=>awB p 0 12)=true/\(spl 124 (inn r)).length=(spl 124 (inn r0)).length:=by
    intro r hr;have g1:isR ((spl 124 (inn r)).map zj)=true:=h1 r hr;have g2:decide (((spl 124 (inn r)).map zj).length=((spl 124 (inn r0)).map zj).length)=true:=h2 r hr;have g2:=of_decide_eq_true g2;rw[tJ,tJ]at g2;rw[hR r hr]at g1;obtain⟨g3,g4⟩:=tM.mp g1;exact⟨of_decide_eq_true g3,g4,g2⟩
   refine tM.mpr ⟨sD.mpr fun r hr=>?_,tM.mpr ⟨decide_eq_true ?_,decide_eq_true ?_⟩⟩
   ·obtain⟨g1,g2,g3⟩:=key r hr;refine tM.mpr ⟨decide_eq_true ?_,g2⟩;rw[hlen r hr];omega
   ·obtain⟨g1,g2,g3⟩:=key r0 tG;omega
   ·omega
def KH (h:Fst r):Fst (jn [32] (r::rs)):=by
 obtain⟨c,q,rfl,hc⟩:=h;cases rs with
 | nil=>exact⟨c,q,rfl,hc⟩
 | cons s ss=>exact⟨c,q++[32]++jn [32] (s::ss),rfl,hc⟩
def ok1 (rows:Rs):Prop:=∃r rs,rows=r::rs/\Fst r
def z8k (h:ok1 rows):LN rows=(blk rows).bind fun b=>if qH b=true then some (cnt b) else none:=by
 unfold LN blk
 by_cases h1:rows=[[126]]
 ·rw[jNg h1,jNg h1];rfl
 rw[jNh h1,jNh h1];cases hh:hd1 rows with
 | some q =>
  show z0 (awB q 1 12)=if isH (zj q)=true then some 0 else none;rw[z4L];rfl
 | none =>
  show (if rows.all bar=true then _ else _)=Option.bind (if rows.all bar=true then _ else _) _
  by_cases hb:rows.all bar=true
  ·rw[jNg hb,jNg hb];obtain⟨r,rs,rfl,_⟩:=h;rw[z5W hb (by simp)];rfl
  ·rw[jNh hb,jNh hb];obtain⟨r,rs,rfl,hr⟩:=h;obtain⟨c,q,e,hc⟩:=KH (rs:=rs) hr;unfold NT;rw[JK _ _ 0 0 (rN _) (fun q' z=>by rw[e]at z;cases z;exact hc rfl)];cases PL (jn [32] (r::rs))with
   | none=>rfl
   | some ps =>
    show Option.bind (if ps.all gd=true then _ else none) _=if isX _=true then some _ else none;have hX:isX (ps.map fun r=>(r.1,r.2.map zj))=(decide (1<=ps.length/\ps.length<=200)&&ps.all gd):=by
     unfold isX;rw[pE,tJ];congr 1;exact decide_eq_decide.mpr (by omega)
    rw[hX]
    by_cases hg:ps.all gd=true
    ·rw[jNg hg,hg,Bool.and_true];show (if 1<=0+ps.length/\0+ps.length<=200 then some (0+_) else none)=_;rw[rA,rA];have hc:cnt (.text (ps.map fun r=>(r.1,r.2.map zj)))=(ps.map fun r=>r.2.length).sum:=by
      show ((ps.map fun r=>(r.1,r.2.map zj)).map fun p=>p.2.length).sum=_;rw[sI];congr 1;refine List.map_congr_left fun r _=>?_;simp
     rw[hc]
     by_cases hp:1<=ps.length/\ps.length<=200
     ·rw[jNg hp,jNg (decide_eq_true hp)]
     ·rw[jNh hp,jNh (by simpa using hp)]
    ·rw[jNh hg,Bool.eq_false_iff.mpr hg,Bool.and_false];rfl
end K08
set_option maxHeartbeats 4900000
namespace K08
open PySem PySem.Spec PyProof.Rows L2
theorem Q0 {α:Type}(f:α->Nat)(k:Nat):∀xs:List α,(∀x∈xs,f x<=k)->(xs.map f).sum<=xs.length*k
 | [],_=>by simp
 | x::xs,h=>by
  have:=Q0 f k xs fun y hy=>h y (tH _ hy);have:=h x tG;simp only[tK,rG,tE,gE];omega
def vX (c:List Nat)(xs:List (List Nat)){k n m:Nat}(h:∀x∈xs,x.length<=k)(hn:xs.length<=n)(hm:n*k+n*c.length<=m):(xs.map List.length).sum+xs.length*c.length<=m/\(jn c xs).length<=m:=by
 have h1:=Q0 List.length k xs h;have h2:=uR c xs;have h3:xs.length*k<=n*k:=pY _ hn;have h4:xs.length*c.length<=n*c.length:=pY _ hn;omega
theorem UD:∀xs:List (List Nat),jn [] xs=xs.flatten
 | []=>rfl
 | [a]=>by show a=_;simp
 | a::b::r=>by rw[xu [] a (by simp),UD (b::r)];simp
structure okN (k:Nat)(n:Nt):Prop where
 le:n.length<=k
 ok:∀w∈n,w.length<=40
structure okP (p:Pm):Prop where
 w:p.1.length<=40
 le:p.2.length<=3
 ok:∀n∈p.2,okN 30 n
structure okR (r:List Nt):Prop where
 ge:r≠[]
 le:r.length<=4
 ok:∀c∈r,okN 12 c
def jW:Blk->Prop
 | .leaf=>True
 | .head ws=>okN 12 ws
 | .text ps=>ps.length<=200/\(∀p∈ps,okP p)/\cnt (.text ps)<=60
 | .table t=>t.length<=20/\∀r∈t,okR r
def nT (n:Nt):List Nat:=123::(jn [32] n++[125])
def pT (p:Pm):List Nat:=p.1++(p.2.map nT).flatten
def cT (c:Nt):List Nat:=32::(jn [32] c++[32])
def rT (r:List Nt):List Nat:=124::(jn [124] (r.map cT)++[124])
def bT:Blk->List Nat
 | .leaf=>[126]
 | .head ws=>61::32::jn [32] ws
 | .text ps=>jn [32] (ps.map pT)
 | .table t=>jn [10] (t.map rT)
theorem okN.b (h:okN k n):(n.map List.length).sum+n.length*1<=k*41/\(jn [32] n).length<=k*41:=
 vX [32] n h.ok h.le (by show k*40+k*1<=_;omega)
def z65 (h:okN 30 n):(nT n).length<=1300:=by
 have:=h.b.2;unfold nT;simp;omega
def Jw (h:okN 30 n):wK [enN n]=.ok (enW (nT n)):=by
 have hb:=h.b;refine xp ?_
 delta wK kK
 refine zQ (go ?_);refine zd (kB [32] n (by have:=hb.1;have e:([32]:List Nat).length=1:=rfl;rw[e];omega)) (go ?_);refine zd (yu (a:=[123]) (b:=jn [32] n) (by simp;omega)) (go ?_);refine zd (yu (a:=123::jn [32] n) (b:=[125]) (by simp;omega)) (go ?_)
 rfl
def z0M (h:okP p):(p.2.map nT).flatten.length<=p.2.length*1300/\((p.2.map nT).map List.length).sum<=p.2.length*1300:=by
 have h1:=Q0 List.length 1300 (p.2.map nT) fun x hx=>by
  obtain⟨n,hn,rfl⟩:=rM.mp hx;exact z65 (h.ok n hn)
 rw[tJ]at h1;exact⟨by rw[List.length_flatten];exact h1,h1⟩
def JW (h:okP p):wM [enW p.1,.tup (p.2.map enN)]=.ok (enW (pT p)):=by
 have hb:=z0M h;have hle:=h.le;have hw:=h.w;have h13:p.2.length*1300<=3*1300:=pY _ hle;refine xp ?_
 delta wM Z6
 refine zQ (go ?_);refine uz (enc:=enN) (fun n=>enW (nT n)) (fun n hn=>go ?_) (go ?_) ?_
 ·exact zd (Jw (h.ok n hn)) (go rfl)
 ·rw[show (p.2.map fun n=>enW (nT n))=(p.2.map nT).map enW by rw[sI];rfl];refine zd (yt [] (p.2.map nT) (by have:=hb.2;have e:([]:List Nat).length=0:=rfl;rw[e];omega)) (go ?_);rw[UD];refine zd (yu (a:=p.1) (b:=(p.2.map nT).flatten) (by have:=hb.1;simp only[big,tD];omega)) (go ?_)
  rfl
 ·omega
theorem z88:∀cs:List (List Nat),cs≠[]->[124,32]++jn [32,124,32] cs++[32,124]=124::(jn [124] (cs.map fun c=>32::(c++[32]))++[124])
 | [c],_=>by simp[jn]
 | a::b::r,_=>by
  have ih2:=z88 (b::r) (by simp);rw[xu _ a (by simp),tK,xu [124] _ (by simp)];have h2:32::(jn [32,124,32] (b::r)++[32,124])=jn [124] ((b::r).map fun c=>32::(c++[32]))++[124]:=by simpa using ih2
  have:[124,32]++(a++[32,124,32]++jn [32,124,32] (b::r))++[32,124]=124::32::(a++[32,124]++(32::(jn [32,124,32] (b::r)++[32,124]))):=by simp
  rw[this,h2];simp
def z7v (r:List Nt):rT r=124::(jn [124] ((r.map (jn [32])).map fun c=>32::(c++[32]))++[124]):=by
 unfold rT;rw[sI];rfl
def z1u (h:okR r):vz [enR r]=.ok (enW (rT r)):=by
 have hle:=h.le;obtain⟨b1,b2⟩:=vX [32,124,32] (r.map (jn [32])) (k:=492) (n:=4) (m:=1980) (fun x hx=>by
  obtain⟨c,hc,rfl⟩:=rM.mp hx;exact (h.ok c hc).b.2) (by rw[tJ];exact hle) (by decide)
 refine xp ?_
 delta vz ZO
 refine zQ (go ?_);refine uz (enc:=enN) (fun c=>enW (jn [32] c)) (fun c hc=>go ?_) (go ?_) ?_
 ·refine zd (kB [32] c (by have:=(h.ok c hc).b.1;have e:([32]:List Nat).length=1:=rfl;rw[e];omega)) (go rfl)
 ·rw[show (r.map fun n=>enW (jn [32] n))=(r.map (jn [32])).map enW by rw[sI];rfl];refine zd (yt [32,124,32] (r.map (jn [32])) (by omega)) (go ?_);refine zd (yu (a:=[124,32]) (b:=jn [32,124,32] (r.map (jn [32]))) (by simp;omega)) (go ?_);refine zd (yu (a:=[124,32]++jn [32,124,32] (r.map (jn [32]))) (b:=[32,124]) (by simp;omega)) (go ?_);rw[z88 _ (by simpa using h.ge),<-z7v]
 ·omega
def Jq (h:okR r):(rT r).length<=2010:=by
 unfold rT;have:=(vX [124] (r.map cT) (k:=494) (n:=4) (m:=1980) (fun x hx=>by
  obtain⟨c,hc,rfl⟩:=rM.mp hx;have:=(h.ok c hc).b.2;unfold cT;simp;omega) (by rw[tJ];exact h.le) (by decide)).2
 simp;omega
theorem WG:∀ps:List Pm,(∀p∈ps,okP p)->((ps.map pT).map List.length).sum+ps.length<=ps.length*41+(ps.map fun p=>p.2.length).sum*1300
 | [],_=>by simp
 | p::ps,h=>by
  have ih:=WG ps fun q hq=>h q (tH _ hq);have h1:=z0M (h p tG);have h2:=(h p tG).w;have h3:(pT p).length=p.1.length+(p.2.map nT).flatten.length:=tD;simp only[tK,rG,tE,Nat.add_mul];omega
def Vd (h:jW b):(bT b).length<=90000:=by
 cases b with
 | leaf=>decide
 | head ws=>have:=(show okN 12 ws from h).b.2;show (61::32::jn [32] ws).length<=_;simp;omega
 | text ps =>
  obtain⟨h1,h2,h3⟩:=h;have h3:(ps.map fun p=>p.2.length).sum<=60:=h3;have h4:=WG ps h2;have h5:=uR [32] (ps.map pT);rw[tJ]at h5;show (jn [32] (ps.map pT)).length<=_;have e:([32]:List Nat).length=1:=rfl;rw[e]at h5;omega
 | table t =>
  obtain⟨h1,h2⟩:=h;have:=(vX [10] (t.map rT) (k:=2010) (n:=20) (m:=40220) (fun x hx=>by
   obtain⟨r,hr,rfl⟩:=rM.mp hx;exact Jq (h2 r hr)) (by rw[tJ];exact h1) (by decide)).2
  show (jn [10] (t.map rT)).length<=_;omega
end K08
set_option maxHeartbeats 4900000
namespace K08
open PySem PySem.Spec PyProof.Rows L2
def qT:([32]:List Nat).length=1:=rfl
def UR (h:jW b):wa [enB b]=.ok (enW (bT b)):=by
 have hle:=Vd h;refine xp ?_
 delta wa jw
 refine zQ (go ?_);cases b with
 | leaf=>exact zd yE (go rfl)
 | head ws =>
  have h:okN 12 ws:=h;have hb:=h.b;refine zd yE (go ?_);refine zd (kB [32] ws (by rw[qT];omega)) (go ?_);refine zd (yu (a:=[61,32]) (b:=jn [32] ws) (by simp;omega)) (go ?_)
  rfl
 | text ps =>
  obtain⟨h1,h2,h3⟩:=h;have h3:(ps.map fun p=>p.2.length).sum<=60:=h3;have h4:=WG ps h2;refine zd yE (go ?_);refine uz (enc:=enP) (fun p=>enW (pT p)) (fun p hp=>go ?_) (go ?_) ?_
  ·exact zd (JW (h2 p hp)) (go rfl)
  ·rw[show (ps.map fun p=>enW (pT p))=(ps.map pT).map enW by rw[sI];rfl];refine zd (yt [32] (ps.map pT) (by rw[qT,tJ];omega)) (go ?_)
   rfl
  ·omega
 | table t =>
  obtain⟨h1,h2⟩:=h;have hb:=(vX [10] (t.map rT) (k:=2010) (n:=20) (m:=40220) (fun x hx=>by
   obtain⟨r,hr,rfl⟩:=rM.mp hx;exact Jq (h2 r hr)) (by rw[tJ];exact h1) (by decide)).1
  refine zd yE (go ?_);refine uz (enc:=enR) (fun p=>enW (rT p)) (fun p hp=>go ?_) (go ?_) ?_
  ·exact zd (z1u (h2 p hp)) (go rfl)
  ·rw[show (t.map fun p=>enW (rT p))=(t.map rT).map enW by rw[sI];rfl];refine zd (yt [10] (t.map rT) (by omega)) (go ?_)
   rfl
  ·omega
def QC (h:qH b=true)(hc:cnt b<=60):jW b:=by
 have hw:∀ {ws:Nt} {k:Nat},ws.length<=k->ws.all isW=true->okN k ws:=fun h1 h2=>⟨h1,fun w hw=>(uc (sD.mp h2 w hw)).2.1⟩
 cases b with
 | leaf=>trivial
 | head ws =>
  have h:isH ws=true:=h;unfold isH at h;obtain⟨h1,h2⟩:=tM.mp h;have h1:=of_decide_eq_true h1;exact hw (by omega) h2
 | text ps =>
  have h:isX ps=true:=h;unfold isX at h;obtain⟨h1,h2⟩:=tM.mp h;have h1:=of_decide_eq_true h1;refine⟨by omega,fun p hp=>?_,hc⟩;have:=sD.mp h2 p hp;unfold JX at this;obtain⟨g1,g2⟩:=tM.mp this;obtain⟨g2,g3⟩:=tM.mp g2;have g2:=of_decide_eq_true g2;refine⟨(uc g1).2.1,by omega,fun n hn=>?_⟩;have:=sD.mp g3 n hn;unfold isN at this;obtain⟨g4,g5⟩:=tM.mp this;have g4:=of_decide_eq_true g4;exact hw (by omega) g5
 | table t =>
  have h:isT t=true:=h;unfold isT at h;obtain⟨h1,_⟩:=tM.mp h;obtain⟨h1,h2⟩:=tM.mp h1;have h1:=of_decide_eq_true h1;refine⟨by omega,fun r hr=>?_⟩;have:=sD.mp h2 r hr;unfold isR at this;obtain⟨g1,g2⟩:=tM.mp this;have g1:=of_decide_eq_true g1;refine⟨by rintro rfl;simp at g1,by omega,fun c hc=>?_⟩;have:=sD.mp g2 c hc;unfold isC at this;obtain⟨g4,g5⟩:=tM.mp this;have g4:=of_decide_eq_true g4;exact hw (by omega) g5
def z4S (h:NE xs e):(∀x∈xs,awB x 1 30=true)->e.length<=xs.length*1300:=by
 induction h with
 | nil=>intro _;exact rC _
 | cons x i j h ih =>
  rename_i xs e0;intro hx;have ih:=ih fun y hy=>hx y (tH _ hy);have h0:=hx x tG;rw[qU]at h0;obtain⟨g1,g2⟩:=tM.mp h0;have g2:=of_decide_eq_true g2;have hb:okN 30 (zj x):=⟨by omega,fun w hw=>(uc (sD.mp g1 w hw)).2.1⟩
  have hb:(nw x).length<=30*41:=hb.b.2;have hs:∀k,(s1 k).length<=1:=fun k=>by cases k<;>simp[s1]
  have h1:=hs i;have h2:=hs j;simp only[tE,tD,gE];omega
def z0Y:∀(n:Nat) (l:List Nat) (rs:List Rw),l.length<n->(∀q,l≠32::q)->PL l=some rs->rs.all gd=true->(nw l).length<=rs.length*41+(rs.map fun r=>r.2.length).sum*1300:=by
 intro n
 induction n with
 | zero=>intro l rs h;omega
 | succ n ih =>
  intro l rs hn h32 hpl hall
  by_cases hl:l=[]
  ·subst hl;exact rC _
  rw[uk hl]at hpl;obtain⟨⟨xs,t⟩,e1,e2⟩:=sM.mp hpl;have e2:(if okT t=true then (PL (t.dropWhile pB)).map fun r=>(l.takeWhile pW,xs)::r else none)=some rs:=e2
  by_cases ho:okT t=true
  ·rw[jNg ho]at e2;obtain⟨rs',e3,e4⟩:=tV.mp e2;subst e4;rw[rP]at hall;obtain⟨hg,hall⟩:=tM.mp hall;have el:l=l.takeWhile pW++(enc xs++t):=by
    rw[<-XW (rN _) e1,sT]
   have hlen:=vZ hl e1 ho;generalize l.takeWhile pW=w at hg el;obtain⟨h1,h2,h3⟩:=(Xe (w,xs)).mp hg;obtain⟨hw1,hw2,hw3⟩:=uc h1;have hw2:w.length<=40:=hw2;have l1:Lst w:=⟨_,_,(rD hw1).symm,(hw3 _ (gA hw1)).no.1⟩
   have n32:32∉w:=fun z=>(hw3 _ z).no.1 rfl;obtain⟨e,he,hne⟩:=Ut (xs:=xs) l1 fun x hx=>(Zz (h3 x hx)).2;rw[V0 n32 hw1]at hne;have hel:=z4S he h3;obtain⟨a,m,et,hm⟩:=qd t;have hdm:t.dropWhile pB=m:=by
    rw[et];refine (YI (p:=pB) (fun c hc=>?_) ?_).2
    ·have:c=32:=pM hc;rw[this];decide
    ·rcases hm with h|⟨c,r,h,hc⟩
     ·exact .inl h
     ·exact .inr ⟨c,r,h,by simp[pB,hc]⟩
   rw[hdm]at e3 hlen;simp only[tE,tK,rG,gE,Nat.add_mul];rcases hm with h|⟨c,r,h,hc⟩
   ·subst h;have:nw l=w++e:=by
     rw[el,et,tI,<-tQ,Ke];exact hne
    rw[this,tD];omega
   ·have hmne:m≠[]:=by rw[h];simp
    have ha:a≠0:=by
     rintro rfl;rw[show sp 0++m=m from rfl,h]at et;rw[et]at ho;exact hc (of_decide_eq_true ho)
    obtain⟨a,rfl⟩:=Nat.exists_eq_succ_of_ne_zero ha;have ih:=ih m rs' (by omega) (fun q z=>by rw[h]at z;cases z;exact hc rfl) e3 hall;have hnw:nw l=(w++e)++32::nw m:=by
     rw[el,et,<-tQ,z5y (V9 l1 xs) ⟨c,r,h,hc⟩];exact congrArg (·++32::nw m) hne
    rw[hnw,tD,tD,tE];omega
  ·rw[jNh ho]at e2;cases e2
end K08
set_option maxHeartbeats 4900000
namespace K08
open PySem PySem.Spec PyProof.Rows L2
theorem Qe:∀l:List Nat,(d1 l).length<=l.length
 | []=>tP _
 | [c]=>tP _
 | c::d::r=>by
  show (rep 123 32 [123] (c::d::r)).length<=_;rw[rep];split
  ·have:=Qe r;have:(rep 123 32 [123] r).length<=r.length:=this;simp;omega
  ·have:=Qe (d::r);have:(rep 123 32 [123] (d::r)).length<=(d::r).length:=this;simp at this ⊢;omega
def XT (h:blk rows=some b):(rows=[[126]]/\b=.leaf)\/(∃q,rows=[61::32::q]/\b=.head (zj q))\/(rows≠[[126]]/\rows.all bar=true/\b=.table (rows.map fun r=>(spl 124 (inn r)).map zj))\/(rows≠[[126]]/\rows.all bar=false/\∃rs,PL (jn [32] rows)=some rs/\b=.text (rs.map fun r=>(r.1,r.2.map zj))):=by
 unfold blk at h
 by_cases h1:rows=[[126]]
 ·rw[jNg h1]at h;cases h;exact .inl ⟨h1,rfl⟩
 rw[jNh h1]at h;cases hh:hd1 rows with
 | some q =>
  rw[hh]at h;cases h;exact .inr (.inl ⟨q,qv hh,rfl⟩)
 | none =>
  rw[hh]at h;have h:(if rows.all bar=true then some (Blk.table (rows.map fun r=>(spl 124 (inn r)).map zj)) else (PL (jn [32] rows)).map fun rs=>.text (rs.map fun r=>(r.1,r.2.map zj)))=some b:=h
  by_cases hb:rows.all bar=true
  ·rw[jNg hb]at h;cases h;exact .inr (.inr (.inl ⟨h1,hb,rfl⟩))
  ·rw[jNh hb]at h;obtain⟨rs,e1,e2⟩:=tV.mp h;exact .inr (.inr (.inr ⟨h1,Bool.eq_false_iff.mpr hb,rs,e1,e2.symm⟩))
def Kg (h:l.length<=1048576):Z7 "{ " "{" (enW l)=.ok (enW (d1 l)):=by
 have e:Z7 "{ " "{" (.str (S l))=.ok (.str (Txt.replace (S l) (S [123,32]) (S [123]))):=jNg (by rw[zY];exact h);rw[e,Xr]
def z1f (h:l.length<=1048576):Z7 " }" "}" (enW l)=.ok (enW (d2 l)):=by
 have e:Z7 " }" "}" (.str (S l))=.ok (.str (Txt.replace (S l) (S [32,125]) (S [125]))):=jNg (by rw[zY];exact h);rw[e,Xr]
def z4p (h:bR rows)(ho:ok1 rows)(hb:blk rows=some b)(hv:qH b=true)(hc:cnt b<=60):wC [.lst (rows.map enW)]=.ok (enW (bT b)):=by
 have hlen:=h.len;have hok:=QC hv hc;refine xp ?_
 delta wC ZQ
 refine zQ (go ?_);refine zd (Uu rows [126]) (go ?_);rcases XT hb with⟨h1,rfl⟩|⟨q,rfl,rfl⟩|⟨h1,hbar,rfl⟩|⟨h1,hbar,rs,hp,rfl⟩
 ·rw[decide_eq_true h1];exact go rfl
 ·rw[decide_eq_false (by intro z;cases z)];refine go ?_;refine zd (Wm h) (go ?_);rw[show List.all [61::32::q] bar=false from by
   rw[rP,show bar (61::32::q)=false from by unfold bar;simp];rfl]
  refine go ?_;have hq:=h.one tG;simp only[tE]at hq;refine zd (yt [32] [61::32::q] (by simp;omega)) (go ?_);refine zd (Yo (by show (61::32::q).length<_;simp;omega)) (go ?_);have hv:isH (zj q)=true:=hv;unfold isH at hv;obtain⟨g1,g2⟩:=tM.mp hv;have g1:=of_decide_eq_true g1;have hne:zj q≠[]:=by intro z;rw[z]at g1;simp at g1
  have hnw:nw (jn [32] [61::32::q])=61::32::nw q:=by
   show jn [32] (zj ([61]++32::q))=_;rw[Ye,Y6 (by decide) (by decide)];show jn [32] ([61]::zj q)=_;rw[xu _ _ hne];rfl
  rw[hnw];obtain⟨w1,w2,w3⟩:=KO g2 hne;have hn1:∀c,c=123\/c=125->c∉61::32::nw q:=by
   intro c hc z;rcases tS.mp z with z|z
   ·rcases hc with rfl|rfl<;>exact absurd z (by decide)
   ·rcases tS.mp z with z|z
    ·rcases hc with rfl|rfl<;>exact absurd z (by decide)
    ·exact ZV w1 hc z
  have hnl:=Uk q;have hb2:=(show okN 12 (zj q) from hok).b.2;have hb2:(nw q).length<=12*41:=hb2;refine zd (Kg (by simp;omega)) (go ?_);rw[UM (hn1 _ (.inl rfl))];refine zd (z1f (by simp;omega)) (go ?_);rw[Ql (hn1 _ (.inr rfl))]
  rfl
 ·rw[decide_eq_false h1];refine go ?_;refine zd (Wm h) (go ?_);rw[hbar];refine go ?_;refine uz (enc:=enW) (fun r=>enW (rT ((spl 124 (inn r)).map zj))) (fun r hr=>go ?_) (go ?_) ?_
  ·have hl:=h.one hr;have hbd:=Wc (sD.mp hbar r hr);have hi:=Wi r;have:=z2T (m:=inn r) (by omega);rw[<-hbd]at this;refine zd this (go ?_);unfold rT;rw[sI];rfl
  ·obtain⟨g1,g2⟩:=hok;have hb:=(vX [10] ((rows.map fun r=>(spl 124 (inn r)).map zj).map rT) (k:=2010) (n:=20) (m:=40220) (fun x hx=>by
    obtain⟨r,hr,rfl⟩:=rM.mp hx;exact Jq (g2 r hr)) (by rw[tJ];exact g1) (by decide)).1
   rw[show (rows.map fun r=>enW (rT ((spl 124 (inn r)).map zj)))=((rows.map fun r=>(spl 124 (inn r)).map zj).map rT).map enW by rw[sI,sI];rfl];refine zd (yt [10] _ (by omega)) (go ?_)
   rfl
  ·omega
 ·rw[decide_eq_false h1];refine go ?_;refine zd (Wm h) (go ?_);rw[hbar];refine go ?_;have hj:=h.join;refine zd (yt [32] rows (by unfold bR at h;rw[qT];omega)) (go ?_);obtain⟨r,rs',rfl,hr⟩:=ho;obtain⟨c,q,e,hc1⟩:=KH (rs:=rs') hr;generalize jn [32] (r::rs')=l at *;refine zd (Yo (by omega)) (go ?_);have hv:isX _=true:=hv;unfold isX at hv;obtain⟨g1,g2⟩:=tM.mp hv;have g1:=of_decide_eq_true g1;rw[tJ]at g1;have g2:rs.all gd=true:=by rw[pE]at g2;exact g2
  have hc:((rs.map fun r=>(r.1,r.2.map zj)).map fun p=>p.2.length).sum<=60:=hc;rw[sI]at hc;have hc:(rs.map fun r=>r.2.length).sum<=60:=by
   rw[show (rs.map fun r=>r.2.length)=rs.map ((fun p:Pm=>p.2.length) ∘ fun r:Rw=>(r.1,r.2.map zj)) from List.map_congr_left fun r _=>by simp];exact hc
  have h32:∀q',l≠32::q':=fun q' z=>by rw[e]at z;cases z;exact hc1 rfl
  have hbd:=z0Y _ l rs (rN _) h32 hp g2;have hd:=Qe (nw l);obtain⟨_,ht⟩:=z0Z _ l rs (rN _) h32 (by rw[e];simp) hp g2;refine zd (Kg (by omega)) (go ?_);refine zd (z1f (by omega)) (go ?_);rw[ht];show enW (jn [32] (rs.map ptx))=enW (jn [32] ((rs.map fun r=>(r.1,r.2.map zj)).map pT));rw[sI];congr 4
  funext r
  show r.1++eJ r.2=r.1++((r.2.map zj).map nT).flatten;rw[sI];rfl
end K08
set_option maxHeartbeats 4900000
namespace K08
open PySem PySem.Spec PyProof.Rows L2
def z48 {α:Type}{enc:α->D}{tg:Tgt}{B:Tn->R Fl}{Q:Fl->Prop}{xs:List α}{τ:Tn}(I:Nat->List α->Tn->Prop)(h0:I 0 xs τ)(hs:∀k x r τ,I k (x::r) τ->Y (tg.asg (.tup [.int (k:Nat),enc x]) τ) (kL B (lp (I (k+1) r) Q)))(hq:∀k τ,I k [] τ->Q (.nx τ)):Y (Yn [.lst (xs.map enc)]) (kF tg B τ Q):=by
 refine xa ?_;show Y (xx tg.asg B (xK 0 (xs.map enc)) τ) Q;generalize 0=n at h0
 induction xs generalizing τ n with
 | nil=>exact xa (hq _ _ h0)
 | cons x xs ih =>
  obtain⟨τ1,e1,f,e2,h⟩:=hs n x xs τ h0;have e:xx tg.asg B (xK n ((x::xs).map enc)) τ=(R.ok f).bind (goF tg.asg B (xK (n+1) (xs.map enc))):=by rw[tK,xK,Zu,e1,jYa,e2]
  rw[e,jYa];cases f with
  | nx τ2=>exact ih _ h
  | ct τ2=>exact ih _ h
  | bk τ2=>exact xa h
  | rt r=>exact xa h
abbrev Rn:=Nat×Rs
abbrev qc (r:Rn):D:=.tup [.int (r.1:Nat),.lst (r.2.map enW)]
def nxt (n:Nat)(b:List Nat):Option Rn->Rn
 | some (m,rw)=>(m,rw++[b])
 | none=>(n,[b])
def RU:Nat->Option Rn->List (List Nat)->List Rn
 | _,c,[]=>c.toList
 | n,c,r::rs=>if uy r=[] then c.toList++RU (n+1) none rs else RU (n+1) (some (nxt n (uy r) c)) rs
def vA (l:List Nat):List Rn:=RU 0 none (spl 10 l)
def WD (h:big s):uj (S s) [.str " "]=.ok (.str (S (uy s))):=by
 have e:uj (S s) [.str " "]=.ok (.str (Txt.stripChars (S s) (S [32]))):=jNg (by rw[zY,jKj];exact h);rw[e,z2E]
def Uq (z:Str)(A:List D)(n:D)(ws:List D)(h:ws.length<16777216):qP z (A++[.tup [n,.lst ws]])=some (A++[.tup [n,.lst (ws++[.str z])]]):=by
 induction A with
 | nil =>
  show (Yr z (.tup [n,.lst ws])).map (fun e=>[e])=_;have:Yr z (.tup [n,.lst ws])=some (.tup [n,.lst (ws++[.str z])]):=jNg (by rw[jKj];exact h);rw[this]
  rfl
 | cons a A ih =>
  cases A with
  | nil=>
   show (qP z ([]++[.tup [n,.lst ws]])).map (a::·)=_;rw[ih];rfl
  | cons b A =>
   show (qP z ((b::A)++[.tup [n,.lst ws]])).map (a::·)=_;rw[ih];rfl
def Vy (G:List Rn)(m:Nat)(rw:Rs)(b:List Nat)(x0 x2 x3 x4:Option D)(h:rw.length<16777216):ZL 1 5 [x0,some (.lst ((G++[(m,rw)]).map qc)),x2,x3,x4,some (enW b)]=.ok (.nx [x0,some (.lst ((G++[(m,rw++[b])]).map qc)),x2,x3,x4,some (enW b)]):=by
 have h3:=Uq (S b) (G.map qc) (.int (m:Nat)) (rw.map enW) (by rw[tJ];exact h);unfold ZL;rw[show ((G++[(m,rw)]).map qc)=G.map qc++[.tup [.int (m:Nat),.lst (rw.map enW)]] by rw[rO];rfl];show (match qP (S b) (G.map qc++[D.tup [.int (m:Nat),.lst (rw.map enW)]])with|some es=>R.ok (Fl.nx (List.set [x0,some (D.lst (G.map qc++[D.tup [.int (m:Nat),.lst (rw.map enW)]])),x2,x3,x4,some (enW b)] 1 (some (D.lst es))))|none=>R.bad)=_;rw[h3,show ((G++[(m,rw++[b])]).map qc)=G.map qc++[.tup [.int (m:Nat),.lst (rw.map enW++[.str (S b)])]] by rw[rO];simp]
 rfl
def J8 {l:List Nat}(h:l.length<4900000):xP [enW l]=.ok (.lst ((vA l).map qc)):=by
 have hs:=xI 10 l;have hm:∀r∈spl 10 l,r.length<=4900000:=fun r hr=>by have:=uC 10 hr;omega
 refine xp ?_
 delta xP XO
 refine zQ (go ?_);refine zd (vE 10 (by omega)) (go ?_);unfold vA;generalize spl 10 l=P at hs hm;refine z48 (enc:=enW) (fun k rs τ=>∃(G:List Rn) (c:Option Rn) (x3 x4 x5:Option D),τ=[some (enW l),some (.lst ((G++c.toList).map qc)),some (.bl c.isSome),x3,x4,x5]/\G++RU k c rs=RU 0 none P/\G.length+c.toList.length<=k/\(∀x,c=some x->x.2.length<=k)/\k+rs.length=P.length/\∀r∈rs,r.length<=4900000) ⟨[],none,none,none,none,rfl,rfl,by simp,by simp,by simp,hm⟩ ?_ ?_
 ·rintro k r rs _ ⟨G,c,x3,x4,x5,rfl,e,b1,b2,b3,b4⟩;have hr:=b4 r tG;rw[tE]at b3;have e:G++(if uy r=[] then c.toList++RU (k+1) none rs else RU (k+1) (some (nxt k (uy r) c)) rs)=RU 0 none P:=e;refine go ?_;refine zd (WD (by show r.length<=16777216;omega)) (go ?_);generalize uy r=b at e;rw[z0f]
  by_cases hb:b=[]
  ·rw[jNg hb,<-tQ]at e;rw[decide_eq_true hb];refine go ?_;rw[z0f,decide_eq_true hb];refine go ?_;refine⟨G++c.toList,none,some (.int (k:Nat)),some (enW r),some (enW b),?_,e,by simp at b1 ⊢;omega,by simp,by omega,fun r' h'=>b4 r' (tH _ h')⟩;rw[show (none:Option Rn).toList=[] from rfl,tI];rfl
  ·rw[jNh hb]at e;rw[decide_eq_false hb];cases c with
   | none =>
    rw[show (none:Option Rn).isSome=false from rfl,show G++(none:Option Rn).toList=G from tI G];refine go ?_;refine⟨(k,[]),rfl,by simp at b1;omega,go ?_⟩;rw[z0f,decide_eq_false hb];refine go ?_;refine zd (Vy G k [] b _ _ _ _ (by simp)) (go ?_);refine⟨G,some (k,[b]),_,_,_,rfl,e,by simp at b1 ⊢;omega,?_,by omega,fun r' h'=>b4 r' (tH _ h')⟩;intro x hx;cases hx;simp
   | some c =>
    obtain⟨m,rw0⟩:=c;have b2:rw0.length<=k:=b2 _ rfl;rw[show (some (m,rw0)).isSome=true from rfl,show G++(some (m,rw0)).toList=G++[(m,rw0)] from rfl];refine go ?_;rw[z0f,decide_eq_false hb];refine go ?_;refine zd (Vy G m rw0 b _ _ _ _ (by omega)) (go ?_);refine⟨G,some (m,rw0++[b]),_,_,_,rfl,e,by simp at b1 ⊢;omega,?_,by omega,fun r' h'=>b4 r' (tH _ h')⟩;intro x hx;cases hx;simp;omega
 ·rintro k _ ⟨G,c,x3,x4,x5,rfl,e,_⟩;refine go ?_;rw[<-e];rfl
end K08
set_option maxHeartbeats 4900000
namespace K08
open PySem PySem.Spec PyProof.Rows L2
abbrev Rl:=Int×Rs
abbrev xU (r:Rl):D:=.lst [.int r.1,.lst (r.2.map enW)]
abbrev toL (r:Rn):Rl:=(((r.1:Nat):Int),r.2)
def YL (A:List D)(n:D)(ws:List D):Z1 (A++[.lst [n,.lst ws]])=some (A,n,ws):=by
 induction A with
 | nil=>rfl
 | cons a A ih =>
  cases A with
  | nil=>rfl
  | cons b A =>
   show (Z1 ((b::A)++[.lst [n,.lst ws]])).map (fun p=>(a::p.1,p.2.1,p.2.2))=_;rw[ih];rfl
def jR (L:List Rl)(n:Int)(rw0:Rs):(L++[(n,rw0)]).map xU=L.map xU++[.lst [.int n,.lst (rw0.map enW)]]:=by rw[rO];rfl
def z1Q (hτ:τ[1]?=some (some (.lst (A++[.lst [n,.lst ws]]))))(ht:t τ=.ok (.str z))(h:ws.length<16777216):kD 1 t τ=.ok (.nx (τ.set 1 (some (.lst (A++[.lst [n,.lst (ws++[.str z])]]))))):=by
 unfold kD;simp only[hτ,YL,ht,jYa];exact jNg (by rw[jKj];exact h)
def z2G (hτ:τ[1]?=some (some (.lst (A++[.lst [.int n,.lst ws]]))))(ht:t τ=.ok (.int k)):ku 1 t τ=.ok (.nx (τ.set 1 (some (.lst (A++[.lst [.int k,.lst ws]]))))):=by
 unfold ku;simp only[hτ,YL,ht,jYa]
def Vu (L:List Rl)(n:Int)(rw0:Rs)(b:List Nat){t:Tn->R D}{x0 x2 x3:Option D}(ht:t [x0,some (.lst ((L++[(n,rw0)]).map xU)),x2,x3]=.ok (enW b))(h:rw0.length<16777216):kD 1 t [x0,some (.lst ((L++[(n,rw0)]).map xU)),x2,x3]=.ok (.nx [x0,some (.lst ((L++[(n,rw0++[b])]).map xU)),x2,x3]):=by
 rw[jR]at ht;rw[jR,jR,z1Q (A:=L.map xU) (ws:=rw0.map enW) (n:=.int n) rfl ht (by rw[tJ];exact h),rO]
 rfl
def z0m (L:List Rl)(n k:Int)(rw0:Rs){x0 x3:Option D}:ku 1 (za 2) [x0,some (.lst ((L++[(n,rw0)]).map xU)),some (.int k),x3]=.ok (.nx [x0,some (.lst ((L++[(k,rw0)]).map xU)),some (.int k),x3]):=by
 rw[jR,jR,z2G (A:=L.map xU) (ws:=rw0.map enW) (n:=n) (k:=k) rfl rfl]
 rfl
def keep (r:Rl):Bool:=decide (0<=r.1)
theorem Je:∀L:List Rl,Z9 (L.map xU)=some ((L.filter keep).map xU)
 | []=>rfl
 | r::L=>by
  show (qQ (xU r)).bind (fun n=>(Z9 (L.map xU)).map fun es=>(if 0<=n then [xU r] else [])++es)=_;rw[Je L];show some ((if 0<=r.1 then [xU r] else [])++_)=_;rw[rY]
  by_cases h:0<=r.1
  ·rw[jNg h,jNg (show keep r=true from decide_eq_true h)];rfl
  ·rw[jNh h,jNh (by unfold keep;simpa using h)];rfl
def z3p (L:List Rl){x0 x2 x3:Option D}(h:L.length<=16777216):VM 1 [x0,some (.lst (L.map xU)),x2,x3]=.ok (.rt (.lst ((L.filter keep).map xU))):=by
 unfold VM;show (if (L.map xU).length<=jMi then (match Z9 (L.map xU)with|some es=>R.ok (Fl.rt (.lst es))|none=>.bad) else .bad)=_;rw[Je,jNg (by rw[tJ,jKj];exact h)]
def z2u:Option Rn->Rl
 | some x=>toL x
 | none=>(-1,[])
def VN (c:Option Rn):[z2u c].filter keep=c.toList.map toL:=by
 cases c with
 | none=>rfl
 | some x=>rw[rY,jNg (show keep (z2u (some x))=true from decide_eq_true (Int.natCast_nonneg _))];rfl
def z1e (h:l.length<4900000):wU [enW l]=.ok (.lst ((vA l).map fun r=>xU (toL r))):=by
 have hs:=xI 10 l;have hm:∀r∈spl 10 l,r.length<=4900000:=fun r hr=>by have:=uC 10 hr;omega
 refine xp ?_
 delta wU Z0
 refine zQ (go ?_);refine zd (vE 10 (by omega)) (go ?_);rw[show ((vA l).map fun r=>xU (toL r))=((vA l).map toL).map xU by rw[sI];rfl];unfold vA;generalize spl 10 l=P at hs hm;refine z48 (enc:=enW) (fun k rs τ=>∃(L:List Rl) (c:Option Rn) (x2 x3:Option D),τ=[some (enW l),some (.lst ((L++[z2u c]).map xU)),x2,x3]/\L.filter keep++(RU k c rs).map toL=(RU 0 none P).map toL/\L.length<=k/\(∀x,c=some x->x.2.length<=k)/\k+rs.length=P.length/\∀r∈rs,r.length<=4900000) ⟨[],none,none,none,rfl,rfl,by simp,by simp,by simp,hm⟩ ?_ ?_
 ·rintro k r rs _ ⟨L,c,x2,x3,rfl,e,b1,b2,b3,b4⟩;have hr:=b4 r tG;rw[tE]at b3;have e:L.filter keep++(if uy r=[] then c.toList++RU (k+1) none rs else RU (k+1) (some (nxt k (uy r) c)) rs).map toL=(RU 0 none P).map toL:=e;refine go ?_;refine zd (WD (by show r.length<=16777216;omega)) (go ?_);have hst:=WD (s:=r) (by show r.length<=16777216;omega);generalize uy r=b at e hst;rw[show decide (S b=("":Str))=decide (b=[]) from decide_eq_decide.mpr ⟨fun h=>jj (b:=[]) h,fun h=>by rw[h];rfl⟩]
  by_cases hb:b=[]
  ·rw[jNg hb]at e;rw[decide_eq_true hb];refine go ?_;refine⟨(-1,[]),rfl,by simp;omega,?_⟩;refine⟨L++[z2u c],none,some (.int (k:Nat)),some (enW r),rfl,?_,by simp;omega,by simp,by omega,fun r' h'=>b4 r' (tH _ h')⟩;rw[pJ,VN,tQ,<-rO];exact e
  ·rw[jNh hb]at e;rw[decide_eq_false hb];refine go ?_;cases c with
   | none =>
    refine zd (Vu L (-1) [] b ?_ (by simp)) (go ?_)
    ·refine xp (go ?_);exact zd hst (go rfl)
    refine zd (show ixD (.lst [.int (-1),.lst (([]++[b]).map enW)]) (.int 0)=.ok (.int (-1)) from xf (xA (by decide) rfl)) (go ?_);refine zd (z0m L (-1) (k:Nat) [b]) (go ?_);refine⟨L,some (k,[b]),_,_,rfl,e,by omega,?_,by omega,fun r' h'=>b4 r' (tH _ h')⟩;intro x hx;cases hx;simp
   | some c =>
    obtain⟨m,rw0⟩:=c;have b2:rw0.length<=k:=b2 _ rfl;refine zd (Vu L (m:Nat) rw0 b ?_ (by omega)) (go ?_)
    ·refine xp (go ?_);exact zd hst (go rfl)
    refine zd (show ixD (.lst [.int (m:Nat),.lst ((rw0++[b]).map enW)]) (.int 0)=.ok (.int (m:Nat)) from xf (xA (by decide) rfl)) (go ?_);rw[decide_eq_false (by omega)];refine go ?_;refine⟨L,some (m,rw0++[b]),_,_,rfl,e,by omega,?_,by omega,fun r' h'=>b4 r' (tH _ h')⟩;intro x hx;cases hx;simp;omega
 ·rintro k _ ⟨L,c,x2,x3,rfl,e,b1,b2,b3,_⟩;simp at b3;refine zd (z3p _ (by simp;omega)) (go ?_);rw[pJ,VN];show D.lst ((L.filter keep++c.toList.map toL).map xU)=_;rw[<-e];rfl
end K08
set_option maxHeartbeats 4900000
namespace K08
open PySem PySem.Spec PyProof.Rows L2
abbrev MSG:Str:="no block that can be read begins at row "
def J9 (h0:0<=n)(h1:n<10000000):X7 MSG n:=by
 have hl:n.natAbs.log2<1920:=by
  by_cases hz:n.natAbs=0
  ·rw[hz];decide
  ·have:n.natAbs.log2<24:=(Nat.log2_lt hz).mpr (by omega);omega
 have ht:(toString n).length<=8:=int_text_length_le10 (k:=7) (by decide) (by omega);refine⟨by rw[jKj];decide +kernel,hl,?_⟩;rw[jKj,Str.length_append];have h3:MSG.length=40:=by decide +kernel
 have h4:(Str.ofString (toString n)).length=(toString n).length:=PySem.ofString_length _;show MSG.length+(Str.ofString (toString n)).length<=16777216;rw[h3,h4];omega
def yX (rows:Rs):Nat:=(rows.map List.length).sum+rows.length
def z42 (p:Nat->Bool)(l:List Nat):(l.dropWhile p).length<=l.length:=(List.dropWhile_sublist p).length_le
def z0T (r:List Nat):(uy r).length<=r.length:=by
 unfold uy;rw[List.length_reverse];have h1:=z42 (·==32) ((r.dropWhile (·==32)).reverse);have h2:=z42 (·==32) r;rw[List.length_reverse]at h1;omega
def z0z (h:uy r≠[]):Fst (uy r):=by
 unfold uy at *;have h1:∀c q,r.dropWhile (·==32)=c::q->c≠32:=fun c q e z=>by
  have:=pC (·==32) r;rw[e,z]at this;exact absurd (show ((32:Nat)==32)=false from this) (by decide)
 generalize r.dropWhile (·==32)=m at *;cases m with
 | nil=>exact absurd rfl h
 | cons c q =>
  have hc:=h1 c q rfl;rw[List.reverse_cons]at h ⊢;have:∃z,(q.reverse++[c]).dropWhile (·==32)=z++[c]:=by
   generalize q.reverse=u
   induction u with
   | nil=>exact⟨[],by rw[tZ,pX (by simp;exact hc)]⟩
   | cons d u ih =>
    by_cases hd:d=32
    ·obtain⟨z,hz⟩:=ih;exact⟨z,by rw[sJ,pH (by simp;exact hd)];exact hz⟩
    ·exact⟨d::u,by rw[sJ,pX (by simp;exact hd)]⟩
  obtain⟨z,hz⟩:=this;rw[hz,List.reverse_append];exact⟨c,z.reverse,rfl,hc⟩
theorem z0G:∀(rs:List (List Nat)) (n:Nat) (c:Option Rn),(∀x,c=some x->ok1 x.2/\yX x.2+yX rs<=B/\x.1<=N)->yX rs<=B->n+rs.length<=N->∀x∈RU n c rs,ok1 x.2/\yX x.2<=B/\x.1<=N
 | [],n,c,h,hB,hN,x,hx=>by
  cases c with
  | none=>cases hx
  | some c =>
   have hx:x∈[c]:=hx;rw[sG]at hx;subst hx;obtain⟨h1,h2,h3⟩:=h _ rfl;exact⟨h1,by omega,h3⟩
 | r::rs,n,c,h,hB,hN,x,hx=>by
  have hcr:yX (r::rs)=r.length+1+yX rs:=by unfold yX;simp;omega
  have hN:n+(rs.length+1)<=N:=hN;unfold RU at hx
  by_cases hb:uy r=[]
  ·rw[jNg hb]at hx;rcases tX.mp hx with z|z
   ·cases c with
    | none=>cases z
    | some c =>
     have z:x∈[c]:=z;rw[sG]at z;subst z;obtain⟨h1,h2,h3⟩:=h _ rfl;exact⟨h1,by omega,h3⟩
   ·exact z0G rs (n+1) none (by simp) (by omega) (by omega) x z
  ·rw[jNh hb]at hx;refine z0G rs (n+1) _ ?_ (by omega) (by omega) x hx;intro y hy;cases hy;have hs:=z0T r;have hf:=z0z hb;generalize uy r=b at *;cases c with
   | none=>exact⟨⟨b,[],rfl,hf⟩,by show yX [b]+_<=_;unfold yX at *;simp at *;omega,by show n<=N;omega⟩
   | some c =>
    obtain⟨m,rw0⟩:=c;obtain⟨⟨r0,rs0,e1,e2⟩,h2,h3⟩:=h _ rfl;refine⟨⟨r0,rs0++[b],by show rw0++[b]=_;rw[show rw0=r0::rs0 from e1];rfl,e2⟩,?_,h3⟩;show yX (rw0++[b])+_<=_;have:yX (rw0++[b])=yX rw0+b.length+1:=by unfold yX;simp;omega
    have h2:yX rw0+yX (r::rs)<=B:=h2;omega
def QO (h:l.length<4900000):∀x∈vA l,ok1 x.2/\bR x.2/\x.1<=4900000:=by
 have hs:=qF 10 l;have hn:=xI 10 l;intro x hx;exact z0G (B:=4900000) (N:=4900000) (spl 10 l) 0 none (by simp) (by unfold yX;omega) (by omega) x hx
theorem UZ:∀(rs:List (List Nat)) (n:Nat) (c:Option Rn),(RU n c rs).length<=c.toList.length+rs.length
 | [],n,c=>tP _
 | r::rs,n,c=>by
  unfold RU;split
  ·have:=UZ rs (n+1) none;simp at this ⊢;omega
  ·have:=UZ rs (n+1) (some (nxt n (uy r) c));simp at this ⊢;omega
def KA (l:List Nat):(vA l).length<=l.length+1:=by
 have:=UZ (spl 10 l) 0 none;have:=xI 10 l;unfold vA;simp at *;omega
def vb (rows:Rs):Option Blk:=(blk rows).bind fun b=>if qH b=true then some b else none
def FW:List Rn->Nat->Nat->Option Nat
 | [],_,_=>none
 | r::rs,k,m=>match vb r.2 with
  | none=>some r.1
  | some b=>if k=40\/60<m+cnt b then some r.1 else FW rs (k+1) (m+cnt b)
def z83 (h:ok1 rows):LN rows=(vb rows).map cnt:=by
 rw[z8k h];unfold vb;cases blk rows with
 | none=>rfl
 | some b =>
  show (if qH b=true then some (cnt b) else none)=Option.map cnt (if qH b=true then some b else none);split<;>rfl
def VA (hok:∀x∈rs,ok1 x.2/\bR x.2/\x.1<=4900000)(hl:rs.length<=4900001):yw [.lst (rs.map fun r=>xU (toL r))]=.ok (.int (opI (FW rs 0 0))):=by
 refine xp ?_
 delta yw vn
 refine zQ (go ?_);rw[rV];refine jm (fun k τ=>∃(m:Nat) (x2 x3:Option D),τ=[some (.lst (rs.map fun r=>xU (toL r))),some (.int (m:Nat)),x2,x3]/\FW (rs.drop k) k m=FW rs 0 0) ⟨0,none,none,rfl,rfl⟩ ?_ ?_
 ·rintro k d _ hd ⟨m,x2,x3,rfl,e⟩;obtain⟨hk,rfl⟩:=wW hd;obtain⟨r,hr⟩:∃r,rs[k]?=some r:=⟨_,sO hk⟩
  have hdr:rs.drop k=r::rs.drop (k+1):=by rw[sW hk];congr 1;exact (tN.mp hr).2
  obtain⟨o1,o2,o3⟩:=hok r (rX hr);have hix:ixD (.lst (rs.map fun r=>xU (toL r))) (.int (k:Nat))=.ok (xU (toL r)):=xf (uh (by rw[sL,hr];rfl));have hne:r.2≠[]:=by obtain⟨a,b,c,_⟩:=o1;rw[c];simp
  have hnt:=z1h o2 hne;rw[z83 o1]at hnt;rw[hdr]at e;have e:(match vb r.2 with|none=>some r.1|some b=>if k=40\/60<m+cnt b then some r.1 else FW (rs.drop (k+1)) (k+1) (m+cnt b))=FW rs 0 0:=e;refine go ?_;refine zd hix (go ?_);refine zd (show ixD (.lst [.int (r.1:Nat),.lst (r.2.map enW)]) (.int 1)=.ok (.lst (r.2.map enW)) from xf (xA (by decide) rfl)) (go ?_);refine zd hnt (go ?_);have hx0:ixD (.lst [.int (r.1:Nat),.lst (r.2.map enW)]) (.int 0)=.ok (.int (r.1:Nat)):=xf (xA (by decide) rfl);cases hv:vb r.2 with
  | none =>
   rw[hv]at e;have e:some r.1=FW rs 0 0:=e;rw[show opI (Option.map cnt none)=-1 from rfl];refine go ?_;refine zd hix (go ?_);refine zd hx0 (go ?_);rw[<-e];rfl
  | some b =>
   rw[hv]at e;have e:(if k=40\/60<m+cnt b then some r.1 else FW (rs.drop (k+1)) (k+1) (m+cnt b))=FW rs 0 0:=e;rw[show opI (Option.map cnt (some b))=((cnt b:Nat):Int) from rfl];rw[decide_eq_false (show ¬((cnt b:Nat):Int)<0 by omega)];refine go ?_
   by_cases h60:60<m+cnt b
   ·rw[jNg (.inr h60)]at e;rw[decide_eq_true (show (60:Int)<(m:Int)+(cnt b:Nat) by omega)];refine go ?_;refine zd hix (go ?_);refine zd hx0 (go ?_);rw[<-e];rfl
   ·rw[decide_eq_false (show ¬(60:Int)<(m:Int)+(cnt b:Nat) by omega)];refine go ?_
    by_cases h40:k=40
    ·rw[jNg (.inl h40)]at e;rw[decide_eq_true (show (k:Int)=40 by omega)];refine go ?_;refine zd hix (go ?_);refine zd hx0 (go ?_);rw[<-e];rfl
    ·rw[jNh (by omega)]at e;rw[decide_eq_false (show ¬(k:Int)=40 by omega)];refine go ?_;exact⟨m+cnt b,_,_,rfl,e⟩
 ·rintro _ ⟨m,x2,x3,rfl,e⟩;refine go ?_;rw[<-e,L2.rng_len,hZ];rfl
end K08
set_option maxHeartbeats 4900000
namespace K08
open PySem PySem.Spec PyProof.Rows L2
def Uh (h:w∈zj x):w.length<=x.length:=uC 32 (List.mem_filter.mp h).1
theorem Qx:∀ {xs:List (List Nat)} {x:List Nat},x∈xs->x.length<=(enc xs).length
 | y::xs,x,h=>by
  rw[xZ,tE,tD,tE];rcases tS.mp h with z|z
  ·rw[z];omega
  ·have:=Qx z;omega
def z3a:∀(n:Nat) (l:List Nat) (rs:List Rw),l.length<n->PL l=some rs->∀r∈rs,r.1.length<=l.length/\∀x∈r.2,x.length<=l.length:=by
 intro n
 induction n with
 | zero=>intro l rs h;omega
 | succ n ih =>
  intro l rs hn hpl
  by_cases hl:l=[]
  ·subst hl;cases hpl;intro r hr;cases hr
  rw[uk hl]at hpl;obtain⟨⟨xs,t⟩,e1,e2⟩:=sM.mp hpl;have e2:(if okT t=true then (PL (t.dropWhile pB)).map fun r=>(l.takeWhile pW,xs)::r else none)=some rs:=e2
  by_cases ho:okT t=true
  ·rw[jNg ho]at e2;obtain⟨rs',e3,e4⟩:=tV.mp e2;subst e4;have el:l=l.takeWhile pW++(enc xs++t):=by
    rw[<-XW (rN _) e1,sT]
   have hlen:=vZ hl e1 ho;have hln:=congrArg List.length el;rw[tD,tD]at hln;intro r hr;rcases tS.mp hr with z|z
   ·subst z;refine⟨by show (l.takeWhile pW).length<=_;omega,fun x hx=>?_⟩;have:x.length<=(enc xs).length:=Qx hx;omega
   ·obtain⟨h1,h2⟩:=ih _ _ (by omega) e3 r z;exact⟨by omega,fun x hx=>by have:=h2 x hx;omega⟩
  ·rw[jNh ho]at e2;cases e2
def Jc (h:bR rows)(hb:blk rows=some b):KC b:=by
 rcases XT hb with⟨h1,rfl⟩|⟨q,rfl,rfl⟩|⟨h1,hbar,rfl⟩|⟨h1,hbar,rs,hp,rfl⟩
 ·trivial
 ·intro w hw;have h1:=Uh hw;have h2:=h.one tG;simp at h2;show w.length<=16777216;omega
 ·intro r hr n hn w hw;obtain⟨r0,h0,rfl⟩:=rM.mp hr;obtain⟨p,hp,rfl⟩:=rM.mp hn;have h1:=Uh hw;have h2:=uC 124 hp;have h3:=Wi r0;have h4:=h.one h0;show w.length<=16777216;omega
 ·have hj:=h.join;intro p hp';obtain⟨r,hr,rfl⟩:=rM.mp hp';obtain⟨h1,h2⟩:=z3a _ _ _ (rN _) hp r hr;refine⟨by show r.1.length<=16777216;omega,fun n hn w hw=>?_⟩;obtain⟨x,hx,rfl⟩:=rM.mp hn;have h3:=Uh hw;have h4:=h2 x hx;show w.length<=16777216;omega
theorem jh {α:Type}(f:α->Nat):∀xs:List α,(xs.map fun x=>((f x:Nat):Int)).sum=(((xs.map f).sum:Nat):Int)
 | []=>rfl
 | x::xs=>by
  rw[tK,rG,jh f xs,tK,rG];omega
def ZW (hl:qH b=true):yB [enB b]=.ok (.int (cnt b:Nat)):=by
 refine xp ?_
 delta yB jB
 refine zQ (go ?_);cases b with
 | leaf=>exact zd yE (go rfl)
 | head ws=>exact zd yE (go rfl)
 | table t=>exact zd yE (go rfl)
 | text ps =>
  have hl:isX ps=true:=hl;unfold isX at hl;have hl:=of_decide_eq_true (tM.mp hl).1;refine zd yE (go ?_);refine uz (enc:=enP) (fun p=>D.int (p.2.length:Nat)) (fun p hp=>go ?_) (go ?_) ?_
  ·rfl
  ·rw[show (ps.map fun p=>D.int (p.2.length:Nat))=(ps.map fun p=>((p.2.length:Nat):Int)).map D.int by rw[sI];rfl];refine Qn (go ?_);exact congrArg D.int (jh _ ps)
  ·omega
def Qq (h:Y r fun v=>v=d):r=.ok d:=by obtain⟨_,e,rfl⟩:=h;exact e
def VG (h:a τ=.err x):zi a b τ=.err x:=by unfold zi;rw[h];rfl
def j4 (h:a τ=.ok (.nx τ2))(k:b τ2=r):zi a b τ=r:=by unfold zi;rw[h];exact k
def z1V (h:c τ=.ok true)(k:a τ=r):sIf c a b τ=r:=by unfold sIf;rw[h];exact k
def z3G (h:c τ=.ok false)(k:b τ=r):sIf c a b τ=r:=by unfold sIf;rw[h];exact k
def z7w (h:u τ=.ok [.int (n:Nat)])(hn:n<=4900000):v7 "BadText" MSG u τ=.err (wg "BadText" n):=by
 unfold v7;rw[h];show (if 0<=((n:Nat):Int)/\X7 MSG ((n:Nat):Int) then R.err (wg "BadText" ((n:Nat):Int).toNat) else .bad)=_;rw[jNg ⟨by omega,J9 (by omega) (by omega)⟩,rV]
abbrev A1:Tn->R Fl:=zu 5 (eL wI (zb (za 4) ze))
abbrev C2:Tn->R Bool:=bOr (yJ (zh (eL zT (zb (za 5) ze)))) (zh (zc (eqR false) (eL ya (zb (za 1) ze)) (eC (.int 40))))
abbrev ER:Tn->R Fl:=v7 "BadText" MSG (zb (za 3) ze)
abbrev A3:Tn->R Fl:=qV 2 v5 (eL yB (zb (za 5) ze))
abbrev C4:Tn->R Bool:=zh (zc gtD (za 2) (eC (.int 60)))
abbrev A5:Tn->R Fl:=vq 1 (uT (za 5))
abbrev BR:Tn->R Fl:=zi A1 (zi (sIf C2 ER zo) (zi A3 (zi (sIf C4 ER zo) A5)))
def jV:z0l=(zi (sIf (yJ (zh (eUn (wq "str") (za 0)))) (v7 "BadText" MSG (zb (eC (.int 0)) ze)) zo) (zi (zu 1 (eL (fun ds=>.ok (.lst ds)) ze)) (zi (zu 2 (eC (.int 0))) (zi (wG (yo (eL xP (zb (za 0) ze))) (.many [3,4]) BR) (zm (za 1)))))):=rfl
def z4O (h:bR rows):zT [enO (blk rows)]=.ok (.bl (vb rows).isSome):=by
 unfold vb;cases hb:blk rows with
 | none=>exact z2t
 | some b =>
  show zT [enB b]=.ok (.bl (if qH b=true then some b else none).isSome);rw[VV (Jc h hb)];cases qH b<;>rfl
def z40 (b:Blk):(enB b).imm=true:=by
 cases b with
 | leaf=>rfl
 | head ws =>
  show (true&&(D.imms (ws.map enW)&&true))=true;rw[wY];rfl
 | table t =>
  show (true&&(D.imms (t.map enR)&&true))=true;rw[UK];rfl
 | text ps =>
  show (true&&(D.imms (ps.map enP)&&true))=true;rw[xj (f:=enP) (fun p=>by
   show (true&&(D.imms (p.2.map enN)&&true))=true;rw[kl];rfl) ps]
  rfl
def step {r:Rn}(ho:ok1 r.2)(h:bR r.2)(hn:r.1<=4900000){acc:List Blk}{m:Nat}(ha:acc.length<=40){x0 x5:Option D}:BR [x0,some (.lst (acc.map enB)),some (.int (m:Nat)),some (.int (r.1:Nat)),some (.lst (r.2.map enW)),x5]=match vb r.2 with
  | none=>.err (wg "BadText" r.1)
  | some b=>if acc.length=40\/60<m+cnt b then .err (wg "BadText" r.1) else .ok (.nx [x0,some (.lst ((acc++[b]).map enB)),some (.int ((m+cnt b:Nat):Int)),some (.int (r.1:Nat)),some (.lst (r.2.map enW)),some (enB b)]):=by
 refine j4 (τ2:=[x0,some (.lst (acc.map enB)),some (.int (m:Nat)),some (.int (r.1:Nat)),some (.lst (r.2.map enW)),some (enO (blk r.2))]) (Qq ?_) ?_
 ·refine go ?_;exact zd (z1l h) (go rfl)
 have hi:=z4O h;have her:∀x2 x5,ER [x0,some (.lst (acc.map enB)),x2,some (.int (r.1:Nat)),some (.lst (r.2.map enW)),x5]=.err (wg "BadText" r.1):=fun x2 x5=>z7w rfl hn;cases hv:vb r.2 with
 | none =>
  rw[hv]at hi;refine VG (z1V (jC ?_) (her _ _));have hi:zT [enO (blk r.2)]=.ok (.bl false):=hi;refine go ?_;exact zd hi (go rfl)
 | some b =>
  rw[hv]at hi;have hbk:blk r.2=some b/\qH b=true:=by
   unfold vb at hv;obtain⟨b',e1,e2⟩:=sM.mp hv;split at e2
   ·cases e2;exact⟨e1,by assumption⟩
   ·cases e2
  have hc:C2 [x0,some (.lst (acc.map enB)),some (.int (m:Nat)),some (.int (r.1:Nat)),some (.lst (r.2.map enW)),some (enO (blk r.2))]=.ok (decide (acc.length=40)):=by
   have hi:zT [enO (blk r.2)]=.ok (.bl true):=hi;refine jC (go ?_);refine zd hi (go ?_);exact decide_eq_decide.mpr (by omega)
  show _=if _ then _ else _
  by_cases h40:acc.length=40
  ·rw[jNg (.inl h40)];rw[decide_eq_true h40]at hc;exact VG (z1V hc (her _ _))
  ·rw[decide_eq_false h40]at hc;refine j4 (z3G hc rfl) ?_;rw[hbk.1];refine j4 (τ2:=[x0,some (.lst (acc.map enB)),some (.int ((m+cnt b:Nat):Int)),some (.int (r.1:Nat)),some (.lst (r.2.map enW)),some (enB b)]) (Qq ?_) ?_
   ·refine go ?_;refine zd (ZW hbk.2) (go ?_)
    rfl
   ·by_cases h60:60<m+cnt b
    ·rw[jNg (.inr h60)];refine VG (z1V (jC ?_) (her _ _));refine go ?_;exact decide_eq_true (by omega)
    ·rw[jNh (by omega)];refine j4 (z3G (jC ?_) rfl) (Qq ?_)
     ·refine go ?_;exact decide_eq_false (by omega)
     ·refine go ?_;exact⟨z40 b,b,rfl,by omega,rfl⟩
structure Rd (rs:List Rn)(bs:List Blk)(k m:Nat):Prop where
 eq:rs.map (fun r=>vb r.2)=bs.map some
 le:k+bs.length<=40
 no:m+(bs.map cnt).sum<=60
theorem XS:∀(rs:List Rn) (acc:List Blk) (m:Nat) (x3 x4 x5:Option D),(∀x∈rs,ok1 x.2/\bR x.2/\x.1<=4900000)->acc.length<=40->m<=60 ->
  (∀n,FW rs acc.length m=some n->xx (Tgt.many [3,4]).asg BR (rs.map qc) [x0,some (.lst (acc.map enB)),some (.int (m:Nat)),x3,x4,x5]=.err (wg "BadText" n)) /\
  (FW rs acc.length m=none->∃bs y2 y3 y4 y5,xx (Tgt.many [3,4]).asg BR (rs.map qc) [x0,some (.lst (acc.map enB)),some (.int (m:Nat)),x3,x4,x5]=.ok (.nx [x0,some (.lst ((acc++bs).map enB)),y2,y3,y4,y5])/\Rd rs bs acc.length m)
 | [],acc,m,x3,x4,x5,_,h40,h60=>⟨fun n h=>(nomatch h),fun _=>⟨[],_,_,_,_,by rw[tI];rfl,rfl,by simpa using h40,by simpa using h60⟩⟩
 | r::rs,acc,m,x3,x4,x5,hok,h40,h60=>by
  obtain⟨o1,o2,o3⟩:=hok r tG;have hs:=step (r:=r) o1 o2 o3 (acc:=acc) (m:=m) h40 (x0:=x0) (x5:=x5);have ha:(Tgt.many [3,4]).asg (qc r) [x0,some (.lst (acc.map enB)),some (.int (m:Nat)),x3,x4,x5]=.ok [x0,some (.lst (acc.map enB)),some (.int (m:Nat)),some (.int (r.1:Nat)),some (.lst (r.2.map enW)),x5]:=rfl;rw[tK,Zu,ha,jYa,hs];unfold FW;cases hv:vb r.2 with
  | none =>
   refine⟨fun n h=>?_,fun h=>(nomatch h)⟩;have h:some r.1=some n:=h;cases h
   rfl
  | some b =>
   show (∀n,(if acc.length=40\/60<m+cnt b then some r.1 else FW rs (acc.length+1) (m+cnt b))=some n->R.bind (if acc.length=40\/60<m+cnt b then _ else _) _=_)/\((if acc.length=40\/60<m+cnt b then some r.1 else FW rs (acc.length+1) (m+cnt b))=none->∃bs y2 y3 y4 y5,R.bind (if acc.length=40\/60<m+cnt b then _ else _) _=_/\_)
   by_cases hc:acc.length=40\/60<m+cnt b
   ·rw[jNg hc,jNg hc];refine⟨fun n h=>?_,fun h=>(nomatch h)⟩;cases h
    rfl
   ·rw[jNh hc,jNh hc];obtain⟨i1,i2⟩:=XS (x0:=x0) rs (acc++[b]) (m+cnt b) (some (.int (r.1:Nat))) (some (.lst (r.2.map enW))) (some (enB b)) (fun x hx=>hok x (tH _ hx)) (by rw[tD];simp;omega) (by omega);rw[show (acc++[b]).length=acc.length+1 from by simp]at i1 i2;refine⟨fun n h=>i1 n h,fun h=>?_⟩;obtain⟨bs,y2,y3,y4,y5,e1,e2,e3,e4⟩:=i2 h;refine⟨b::bs,y2,y3,y4,y5,?_,?_,?_,?_⟩
    ·rw[tQ]at e1;exact e1
    ·rw[tK,tK,hv,e2]
    ·simp at *;omega
    ·simp at *;omega
def z64 (h:u τ=.ok ds):wG u tg B τ=xx tg.asg B ds τ:=by unfold wG;rw[h];rfl
def z3K (h:t (ds.map some++List.replicate (n-ds.length) none)=.err x):zC n t ds=.err x:=by rw[zC,h]
def Qy (h:l.length<4900000):(∀n,FW (vA l) 0 0=some n->wc [enW l]=.err (wg "BadText" n))/\(FW (vA l) 0 0=none->∃bs,wc [enW l]=.ok (.lst (bs.map enB))/\Rd (vA l) bs 0 0):=by
 obtain⟨i1,i2⟩:=XS (x0:=some (enW l)) (vA l) [] 0 none none none (QO h) (by simp) (by simp);have hf:yo (eL xP (zb (za 0) ze)) [some (enW l),some (.lst []),some (.int 0),none,none,none]=.ok ((vA l).map qc):=by
  have:Y (yo (eL xP (zb (za 0) ze)) [some (enW l),some (.lst []),some (.int 0),none,none,none]) fun v=>v=(vA l).map qc:=by
   refine go ?_;exact zd (J8 h) (go rfl)
  obtain⟨_,e,rfl⟩:=this;exact e
 have hs:∀n:Str,xx (Tgt.many [3,4]).asg BR ((vA l).map qc) [some (enW l),some (.lst []),some (.int 0),none,none,none]=.err n->wc [enW l]=.err n:=by
  intro n hn;unfold wc;rw[jV];refine z3K (j4 (τ2:=[some (enW l),none,none,none,none,none]) (Qq ?_) (j4 (τ2:=[some (enW l),some (.lst []),none,none,none,none]) rfl (j4 (τ2:=[some (enW l),some (.lst []),some (.int 0),none,none,none]) rfl (VG ?_))))
  ·exact go rfl
  ·rw[z64 hf];exact hn
 refine⟨fun n hn=>hs _ (i1 n hn),fun hn=>?_⟩;obtain⟨bs,y2,y3,y4,y5,e1,e2⟩:=i2 hn;refine⟨bs,?_,e2⟩;unfold wc;rw[jV];refine xp ?_;refine zQ (go ?_);refine zd (J8 h) (go ?_);exact zd e1 (go rfl)
end K08
set_option maxHeartbeats 4900000
namespace K08
open PySem PySem.Spec PyProof.Rows L2
theorem Yv {f:D->D->Option Bool}:∀ {xs:List D},(∀x∈xs,f x x=some true)->yn f xs xs=some true
 | [],_=>rfl
 | x::xs,h=>by
  unfold yn;rw[Yv fun y hy=>h y (tH _ hy),h x tG]
  rfl
def Zx {n:Nat}{xs:List D}(h:∀x∈xs,eqF n x x=some true):eqF (n+1) (.tup xs) (.tup xs)=some true:=by
 show ((yn (eqF n) xs xs).map fun b=>b&&xs.length==xs.length)=_;rw[Yv h,gG,beq_self_eq_true]
 rfl
def ud (n:Nat)(z:Str):eqF n (.str z) (.str z)=some true:=by
 have e:eqF n (.str z) (.str z)=some (z==z):=by cases n<;>rfl
 rw[e,beq_self_eq_true]
def jr {α:Type}{en:α->D}{n:Nat}{xs:List α}(h:∀x∈xs,eqF n (en x) (en x)=some true):eqF (n+1) (.tup (xs.map en)) (.tup (xs.map en))=some true:=Zx fun d hd=>by
 obtain⟨x,hx,rfl⟩:=rM.mp hd;exact h x hx
def z09 (n:Nat)(w:Nt):eqF (n+1) (enN w) (enN w)=some true:=jr fun x _=>ud n (S x)
def ZD {n:Nat}{a b:D}(h1:eqF n a a=some true)(h2:eqF n b b=some true):eqF (n+1) (.tup [a,b]) (.tup [a,b])=some true:=Zx fun d hd=>by
 rcases tS.mp hd with z|z
 ·rw[z];exact h1
 ·rcases tS.mp z with z|z
  ·rw[z];exact h2
  ·cases z
def z7Y (b:Blk):eqF 11 (enB b) (enB b)=some true:=by
 cases b with
 | leaf=>exact Zx fun d hd=>by rw[sG.mp hd];exact ud _ _
 | head ws=>exact ZD (ud _ _) (z09 _ _)
 | table t=>exact ZD (ud _ _) (jr fun r _=>jr fun c _=>z09 _ c)
 | text ps=>exact ZD (ud _ _) (jr fun p _=>ZD (ud _ _) (jr fun n _=>z09 _ n))
def z3g (bs:List Blk):eqR false (.lst (bs.map enB)) (.lst (bs.map enB))=.ok (.bl true):=by
 show (match (if (bs.map enB).length=(bs.map enB).length then yn (eqF 11) (bs.map enB) (bs.map enB) else some false)with|some b=>R.ok (D.bl (if false=true then !b else b))|none=>.bad)=_;rw[jNg rfl,Yv fun x hx=>by
  obtain⟨b,_,rfl⟩:=rM.mp hx;exact z7Y b]
 rfl
def z21 {F:List D->R D}{u:Tn->R (List D)}{g:Str->Option D}{τ:Tn}{ds:List D}{m:Str}{d:D}(h1:u τ=.ok ds)(h2:F ds=.err m)(h3:g m=some d):Z8 F u g τ=.ok (.rt d):=by unfold Z8;simp only[h1,h2,h3]
def z4q {F:List D->R D}{u:Tn->R (List D)}{g:Str->Option D}{τ:Tn}{ds:List D}{d:D}(h1:u τ=.ok ds)(h2:F ds=.ok d):Z8 F u g τ=.ok (.nx τ):=by unfold Z8;simp only[h1,h2]
def z6O (n:Nat):vx (wg "BadText" n)=some (.int (n:Nat)):=by
 unfold vx;rw[J2,jNg rfl,Ja];rfl
def QT {d:D}{n:Nat}(h:wc [d]=.err (wg "BadText" n)):yF [d]=.ok (.int (n:Nat)):=by
 refine xp ?_
 delta yF j0
 refine zQ (go ?_);exact zd (z21 rfl h (z6O n)) (go rfl)
def z07 {d v:D}(h:wc [d]=.ok v):yF [d]=.ok (.int (-1)):=by
 refine xp ?_
 delta yF j0
 refine zQ (go ?_);exact zd (z4q rfl h) (go rfl)
def z2V {l:List Nat}(h:l.length<4900000):yF [enW l]=.ok (.int (opI (FW (vA l) 0 0))):=by
 obtain⟨i1,i2⟩:=Qy h;cases hf:FW (vA l) 0 0 with
 | some n=>exact QT (i1 n hf)
 | none =>
  obtain⟨bs,e,_⟩:=i2 hf;exact z07 e
def z36 {d:D}(h:wq "str" d=.ok (.bl false)):yF [d]=.ok (.int 0):=by
 refine QT (n:=0) ?_;unfold wc;rw[jV];refine z3K (VG (z1V (jC ?_) (z7w rfl (by decide))));refine go ?_;exact zd h (go rfl)
def QR {bs:List Blk}(h1:bs.length<=40)(h2:∀b∈bs,qH b=true/\KC b)(h3:(bs.map cnt).sum<=60):yI [.lst (bs.map enB)]=.ok (.bl true):=by
 have ha:w6 [.lst (bs.map enB)]=.ok (.bl true):=by
  refine xp ?_
  delta w6 jE
  refine zQ (go ?_);refine zd (show wq "list" (.lst (bs.map enB))=.ok (.bl true) from rfl) (go ?_);rw[decide_eq_false (by simp;omega)];refine go ?_;refine uz (enc:=enB) (fun b=>D.bl (qH b)) (fun b hb=>go ?_) (go ?_) ?_
  ·exact zd (VV (h2 b hb).2) (go rfl)
  ·refine zd all_map (go ?_);rw[show bs.all qH=true from sD.mpr fun b hb=>(h2 b hb).1];refine go ?_;refine uz (enc:=enB) (fun b=>D.int (cnt b:Nat)) (fun b hb=>go ?_) (go ?_) ?_
   ·exact zd (ZW (h2 b hb).1) (go rfl)
   ·rw[show (bs.map fun b=>D.int (cnt b:Nat))=(bs.map fun b=>((cnt b:Nat):Int)).map D.int by rw[sI];rfl];refine Qn (go ?_);rw[jh];exact congrArg D.bl (decide_eq_true (by omega))
   ·omega
  ·omega
 refine xp ?_
 delta yI qN
 refine zQ (go ?_);exact zd ha (go rfl)
def Q4 {bs:List Blk}(h1:bs.length<=40)(h2:∀b∈bs,qH b=true/\KC b)(h3:(bs.map cnt).sum<=60):u6 [.lst (bs.map enB)]=.ok (enW (jn [10,10] (bs.map bT))):=by
 have hc:∀b∈bs,cnt b<=60:=fun b hb=>rH (qA (rZ hb)) h3;have hj:=(vX [10,10] (bs.map bT) (k:=90000) (n:=40) (m:=3600080) (fun x hx=>by
  obtain⟨b,hb,rfl⟩:=rM.mp hx;exact Vd (QC (h2 b hb).1 (hc b hb))) (by rw[tJ];exact h1) (by decide)).1
 refine xp ?_
 delta u6 Xq
 refine zQ (go ?_);refine zd (QR h1 h2 h3) (go ?_);refine uz (enc:=enB) (fun b=>enW (bT b)) (fun b hb=>go ?_) (go ?_) ?_
 ·exact zd (UR (QC (h2 b hb).1 (hc b hb))) (go rfl)
 ·rw[show (bs.map fun b=>enW (bT b))=(bs.map bT).map enW by rw[sI];rfl];exact zd (yt [10,10] _ (by omega)) (go rfl)
 ·omega
theorem Rd.ok {rs:List Rn}{bs:List Blk}(h:Rd rs bs 0 0)(ho:∀x∈rs,ok1 x.2/\bR x.2/\x.1<=4900000):∀b∈bs,qH b=true/\KC b:=by
 intro b hb;have:some b∈rs.map (fun r=>vb r.2):=by rw[h.eq];exact rZ hb
 obtain⟨r,hr,e⟩:=rM.mp this;unfold vb at e;obtain⟨b',e1,e2⟩:=sM.mp e;split at e2
 ·cases e2;exact⟨by assumption,Jc (ho r hr).2.1 e1⟩
 ·cases e2
def pu (rows:Rs):List Nat:=match vb rows with|some b=>bT b|none=>[]
theorem z1c:∀ {rs:List Rn} {bs:List Blk},rs.map (fun r=>vb r.2)=bs.map some->rs.map (fun r=>pu r.2)=bs.map bT
 | [],[],_=>rfl
 | r::rs,b::bs,h=>by
  rw[tK,tK]at h;injection h with h1 h2;rw[tK,tK,z1c h2];congr 1;unfold pu;rw[h1]
 | [],b::bs,h=>by cases h
 | r::rs,[],h=>by cases h
def z4Q {d:D}{v:Int}(h0:0<=v):∃x,ixD (.lst [.non,.int 5,.lst [d],.tup [d],.bl true,.dic [] []]) (.int (v%6))=.ok x/\wq "str" x=.ok (.bl false):=by
 have h1:v%6=0\/v%6=1\/v%6=2\/v%6=3\/v%6=4\/v%6=5:=by omega
 rcases h1 with e|e|e|e|e|e<;>rw[e]<;>exact⟨_,xf (xA (by decide) rfl),rfl⟩
def z0v {u:Tn->R (List D)}{τ:Tn}{n:Int}(hu:Y (u τ) fun ds=>ds=[.int n])(h0:0<=n)(h1:n<10000000):Y3 MSG u τ=.ok (.int n):=by
 obtain⟨_,e,rfl⟩:=hu;unfold Y3;rw[e];exact jNg (J9 h0 h1)
def z4Z {s:D}{l:List Nat}{v:Int}(hd:xr [s]=.ok (enW l))(h:l.length<4900000)(hn:zJ [s,.int 7]=.ok (.int v))(h0:0<=v):F_law [s]=.ok (.bl true):=by
 have ho:=QO h;have hlen:=KA l;obtain⟨i1,i2⟩:=Qy h;refine xp ?_
 delta F_law z00
 refine zQ (go ?_);refine zd hd (go ?_);refine zd (z1e h) (go ?_);refine zd (VA ho (by omega)) (go ?_);refine zd (z2V h) (go ?_);refine zd (z1Y _ _) (go ?_);rw[decide_eq_true rfl];refine go ?_;refine zd hn (go ?_);obtain⟨x,hx1,hx2⟩:=z4Q (d:=enW l) h0;refine zd hx1 (go ?_);refine zd (z36 hx2) (go ?_);refine zd (z1Y _ _) (go ?_);rw[decide_eq_true (show (0:Int)=0 from rfl)];refine go ?_;refine zd (z0v (n:=v%1000) ?_ (by omega) (by omega)) (go ?_)
 ·exact go rfl
 refine zd (z1Y _ _) (go ?_);rw[decide_eq_true (show v%1000=v%1000 from rfl)];refine go ?_;cases hf:FW (vA l) 0 0 with
 | some n =>
  rw[show opI (some n)=((n:Nat):Int) from rfl,decide_eq_true (show (0:Int)<=(n:Nat) by omega)];exact go rfl
 | none =>
  rw[show opI none=-1 from rfl];refine go ?_;obtain⟨bs,hb,hr⟩:=i2 hf;have hbs:=hr.ok ho;have hlb:bs.length<=40:=by have:=hr.le;omega
  have hno:(bs.map cnt).sum<=60:=by have:=hr.no;omega
  have hll:(vA l).length=bs.length:=by have:=congrArg List.length hr.eq;simpa using this
  refine zd hb (go ?_);refine zd (QR hlb hbs hno) (go ?_);refine zd (show isB true (.bl true) (.bl true)=.ok (.bl false) from rfl) (go ?_);refine zd (z6s _ _) (go ?_);rw[decide_eq_true hll.symm];refine go ?_;have hpu:∀r∈vA l,wC [.lst (r.2.map enW)]=.ok (enW (pu r.2)):=by
   intro r hr';obtain⟨o1,o2,o3⟩:=ho r hr';have hm:vb r.2∈bs.map some:=by rw[<-hr.eq];exact rZ hr'
   obtain⟨b,hb1,e⟩:=rM.mp hm;have e:=e.symm;have hbk:=e;unfold vb at hbk;obtain⟨b',e1,e2⟩:=sM.mp hbk;have e3:b'=b:=by
    split at e2
    ·cases e2;rfl
    ·cases e2
   subst e3;rw[z4p o2 o1 e1 (hbs b' hb1).1 (rH (qA (rZ hb1)) hno)];unfold pu;rw[e]
  have hmp:=z1c hr.eq;refine uz (enc:=fun r=>xU (toL r)) (fun r=>enW (pu r.2)) (fun r hr'=>go ?_) (go ?_) ?_
  ·refine zd (show ixD (.lst [.int (r.1:Nat),.lst (r.2.map enW)]) (.int 1)=.ok (.lst (r.2.map enW)) from xf (xA (by decide) rfl)) (go ?_);exact zd (hpu r hr') (go rfl)
  ·rw[show ((vA l).map fun r=>enW (pu r.2))=((vA l).map fun r=>pu r.2).map enW by rw[sI];rfl,hmp];have hc:∀b∈bs,cnt b<=60:=fun b hb=>rH (qA (rZ hb)) hno;have hj:=(vX [10,10] (bs.map bT) (k:=90000) (n:=40) (m:=3600080) (fun x hx=>by
    obtain⟨b,hb,rfl⟩:=rM.mp hx;exact Vd (QC (hbs b hb).1 (hc b hb))) (by rw[tJ];exact hlb) (by decide)).1
   refine zd (yt [10,10] _ (by omega)) (go ?_);have hl1:qY [.lst (bs.map enB)]=.ok (.lst (bs.map enB)):=jNg (xj (f:=enB) z40 bs);refine zd hl1 (go ?_);refine zd (Q4 hlb hbs hno) (go ?_);rw[show decide (S (jn [10,10] (bs.map bT))≠S (jn [10,10] (bs.map bT)))=false from decide_eq_false fun z=>z rfl];refine go ?_;refine zd hl1 (go ?_);refine⟨.leaf,rfl,by omega,go ?_⟩;refine zd hb (go ?_);exact zd (z3g bs) (go rfl)
  ·omega
end K08
set_option maxHeartbeats 4900000
namespace K08
open PySem PySem.Spec PyProof.Rows L2
def z6E {ds:List Int}{i:Int}{Q:D->Prop}(k:∀v∈ds,Q (.int v))(h0:autoParam (0<=i) L2.au10._auto_1)(h1:autoParam (i<ds.length) L2.au15._auto_1):Y (ixD (.lst (ds.map D.int)) (.int i)) Q:=by
 have h:i.toNat<ds.length:=by omega
 exact z3A h0 (by rw[sL,sO h];rfl) (k _ (pP h))
def z2H {ds:List (List Nat)}{i:Int}{Q:D->Prop}(k:∀v∈ds,Q (enW v))(h0:autoParam (0<=i) L2.au10._auto_1)(h1:autoParam (i<ds.length) L2.au15._auto_1):Y (ixD (.lst (ds.map enW)) (.int i)) Q:=by
 have h:i.toNat<ds.length:=by omega
 exact z3A h0 (by rw[sL,sO h];rfl) (k _ (pP h))
def nn (d:D):Prop:=∃v:Int,d=.int v/\0<=v
def kd {ns:List Int}{k:Int}(h:0<=k):Y (zJ [.frl (ns.map D.int),.int k]) nn:=by
 delta zJ qJ
 refine zQ (go ?_);refine zd z1E (go ?_);refine yA (fun hk=>go ?_) fun _=>go ?_
 ·rw[tJ]at hk;refine zd (z4V (xA h (by rw[sL,sO (by omega)];rfl))) (go ?_);exact⟨_,rfl,by omega⟩
 ·exact⟨_,rfl,by omega⟩
def next:Y (yh [.int n]) nn:=by
 delta yh Z3
 refine zQ (go ?_);exact⟨_,rfl,by omega⟩
def z4P:Y (xq [.int n]) fun v=>∃w:List Nat,v=enW w/\w.length<=40:=by
 delta xq Zg
 refine zQ (go ?_);have hz:Z2.cps.toList.length=74:=by decide +kernel
 refine yA (fun _=>go ?_) fun _=>go ?_
 all_goals
  refine jm (fun k τ=>∃(w:List Nat) (x2 x4 x5:Option D),τ=[some (.int n),some (.str Z2),x2,some (enW w),x4,x5]/\w.length=k) ⟨[],_,_,_,rfl,rfl⟩ ?_ ?_
  ·rintro k d _ hd ⟨w,x2,x4,x5,rfl,hw⟩;obtain⟨hk,rfl⟩:=wW hd;have hkk:(k:Int)*k<=40*40:=Int.mul_le_mul (by omega) (by omega) (by omega) (by omega);have hk0:0<=(k:Int)*k:=Int.mul_nonneg (by omega) (by omega);refine go ?_;refine Qs (by rw[z0g];decide) (by omega) (by rw[z0g];omega) fun c _=>go ?_;refine zd (yu (a:=w) (b:=[c]) (by show (w++[c]).length<=16777216;simp;omega)) (go ?_);exact⟨w++[c],_,_,_,rfl,by simp;omega⟩
  ·rintro _ ⟨w,x2,x4,x5,rfl,hw⟩;rw[L2.rng_len]at hw;refine go ?_;omega
def YW (h:Y r nn)(k:∀v:Int,0<=v->Q (.int v)):Y r Q:=h.imp fun _ ⟨v,e,h0⟩=>by subst e;exact k v h0
def z4z (h:Y r fun v=>∃w:List Nat,v=enW w/\w.length<=40)(k:∀w:List Nat,w.length<=40->Q (enW w)):Y r Q:=h.imp fun _ ⟨v,e,h0⟩=>by subst e;exact k v h0
def z0X {n lo:Int}{m:Nat}(hm:m<=30)(hl:0<=lo):Y (yq [.int n,.int lo,.int (m:Nat)]) fun v=>∃ws:Nt,v=enN ws/\okN m ws:=by
 delta yq jk
 refine zQ (go ?_);have hs1:(if (m:Int)<m then (m:Int) else m).toNat<=m:=by split<;>omega
 have hs2:(if lo+n%3<(m:Int) then lo+n%3 else m).toNat<=m:=by split<;>omega
 refine yA (fun _=>go ?_) fun _=>go ?_
 ·generalize (if (m:Int)<m then (m:Int) else m).toNat=s at hs1;refine jm (fun k τ=>∃(n':Int) (ws:Nt) (x1 x2 x3 x5:Option D),τ=[some (.int n'),x1,x2,x3,some (.lst (ws.map enW)),x5]/\ws.length=k/\∀w∈ws,w.length<=40) ⟨n,[],_,_,_,_,rfl,rfl,by simp⟩ ?_ ?_
  ·rintro k d _ hd ⟨n',ws,x1,x2,x3,x5,rfl,hk,hw⟩;obtain⟨hks,rfl⟩:=wW hd;refine go ?_;refine YW next fun v h0=>go ?_;refine z4z z4P fun w hw'=>go ?_;exact⟨_,ws++[w],_,_,_,_,rfl,by simp;omega,fun u hu=>by
    rcases tX.mp hu with z|z
    ·exact hw u z
    ·rw[sG.mp z];exact hw'⟩
  ·rintro _ ⟨n',ws,x1,x2,x3,x5,rfl,hk,hw⟩;rw[L2.rng_len]at hk;refine go ?_;refine zd (show zV [.lst (ws.map enW)]=.ok (enN ws) from jNg (wY _)) (go ?_);exact⟨by omega,hw⟩
 ·generalize (if lo+n%3<(m:Int) then lo+n%3 else m).toNat=s at hs2;refine jm (fun k τ=>∃(n':Int) (ws:Nt) (x1 x2 x3 x5:Option D),τ=[some (.int n'),x1,x2,x3,some (.lst (ws.map enW)),x5]/\ws.length=k/\∀w∈ws,w.length<=40) ⟨n,[],_,_,_,_,rfl,rfl,by simp⟩ ?_ ?_
  ·rintro k d _ hd ⟨n',ws,x1,x2,x3,x5,rfl,hk,hw⟩;obtain⟨hks,rfl⟩:=wW hd;refine go ?_;refine YW next fun v h0=>go ?_;refine z4z z4P fun w hw'=>go ?_;exact⟨_,ws++[w],_,_,_,_,rfl,by simp;omega,fun u hu=>by
    rcases tX.mp hu with z|z
    ·exact hw u z
    ·rw[sG.mp z];exact hw'⟩
  ·rintro _ ⟨n',ws,x1,x2,x3,x5,rfl,hk,hw⟩;rw[L2.rng_len]at hk;refine go ?_;refine zd (show zV [.lst (ws.map enW)]=.ok (enN ws) from jNg (wY _)) (go ?_);exact⟨by omega,hw⟩
end K08
set_option maxHeartbeats 4900000
namespace K08
open PySem PySem.Spec PyProof.Rows L2
def z58 (h:Y r fun v=>∃ws:Nt,v=enN ws/\okN m ws)(k:∀ws:Nt,okN m ws->Q (enN ws)):Y r Q:=h.imp fun _ ⟨v,e,h0⟩=>by subst e;exact k v h0
def uZ {α:Type}{p:α->Prop}{xs:List α}{x:α}(h:∀y∈xs,p y)(k:p x):∀y∈xs++[x],p y:=fun y hy=>by
 rcases tX.mp hy with z|z
 ·exact h y z
 ·rw[sG.mp z];exact k
theorem table {n:Int}:Y (wb [.int n]) fun v=>∃t:List (List Nt),v=enT t/\jW (.table t):=by
 delta wb jN
 refine zQ (go ?_);refine yA (fun _=>go ?_) fun _=>go ?_
 all_goals
  refine jm (fun k τ=>∃(n':Int) (t:List (List Nt)) (x2 x4 x5 x6:Option D),τ=[some (.int n'),some (.int (1+n%4)),x2,some (.lst (t.map enR)),x4,x5,x6]/\t.length=k/\∀r∈t,okR r) ⟨n,[],_,_,_,_,rfl,rfl,by simp⟩ ?_ ?_
  ·rintro k d _ hd ⟨n',t,x2,x4,x5,x6,rfl,hk,hw⟩;obtain⟨hks,rfl⟩:=wW hd;refine go ?_;refine jm (fun j τ=>∃(n':Int) (r:List Nt) (x2 x4 x6:Option D),τ=[some (.int n'),some (.int (1+n%4)),x2,some (.lst (t.map enR)),x4,some (.lst (r.map enN)),x6]/\r.length=j/\∀c∈r,okN 12 c) ⟨n',[],_,_,_,rfl,rfl,by simp⟩ ?_ ?_
   ·rintro j d _ hd ⟨n',r,x2,x4,x6,rfl,hj,hr⟩;obtain⟨hjs,rfl⟩:=wW hd;refine go ?_;refine YW next fun v h0=>go ?_;refine z58 (z0X (m:=12) (by decide) (by decide)) fun c hc=>go ?_;exact⟨_,r++[c],_,_,_,rfl,by simp;omega,uZ hr hc⟩
   ·rintro _ ⟨n',r,x2,x4,x6,rfl,hj,hr⟩;rw[L2.rng_len]at hj;refine go ?_;refine zd (show zV [.lst (r.map enN)]=.ok (enR r) from jNg (kl _)) (go ?_);exact⟨_,t++[r],_,_,_,_,rfl,by simp;omega,uZ hw ⟨by rintro rfl;simp at hj;omega,by omega,hr⟩⟩
  ·rintro _ ⟨n',t,x2,x4,x5,x6,rfl,hk,hw⟩;rw[L2.rng_len]at hk;refine go ?_;refine zd (show zV [.lst (t.map enR)]=.ok (enT t) from jNg (UK _)) (go ?_);exact⟨by show t.length<=20;omega,hw⟩
def z6V {n:Int}{room:Nat}(hr:room<=60):Y (xW [.int n,.int (room:Nat)]) fun v=>∃ps:List Pm,v=.tup (ps.map enP)/\jW (.text ps)/\cnt (.text ps)<=room:=by
 delta xW ju
 refine zQ (go ?_);refine yA (fun _=>go ?_) fun _=>go ?_
 all_goals
  refine jm (fun k τ=>∃(n' M:Int) (r':Nat) (ps:List Pm) (x4 x5 x6:Option D),τ=[some (.int n'),some (.int (r':Nat)),some (.int M),some (.lst (ps.map enP)),x4,x5,x6]/\1<=M/\M<=200/\ps.length=k/\(∀p∈ps,okP p)/\(ps.map fun p=>p.2.length).sum+r'=room) ⟨n,_,room,[],_,_,_,rfl,by omega,by omega,rfl,by simp,by simp⟩ ?_ ?_
  ·rintro k d _ hd ⟨n',M,r',ps,x4,x5,x6,rfl,m1,m2,hk,hp,hc⟩;obtain⟨hks,rfl⟩:=wW hd;refine go ?_;refine YW next fun v h0=>go ?_;refine z6E (ds:=[0,0,0,1,1,2,3]) fun s hs=>go ?_;have hs3:0<=s/\s<=3:=(by decide:∀s∈[(0:Int),0,0,1,1,2,3],0<=s/\s<=3) s hs;refine Qb (by omega) (go ?_);refine jm (fun j τ=>∃(r2:Nat) (ts:List Nt) (x4 x6:Option D),τ=[some (.int v),some (.int (r2:Nat)),some (.int M),some (.lst (ps.map enP)),x4,some (.lst (ts.map enN)),x6]/\ts.length<=j/\(∀t∈ts,okN 30 t)/\ts.length+r2=r') ⟨r',[],_,_,rfl,by simp,by simp,by simp⟩ ?_ ?_
   ·rintro j d _ hd ⟨r2,ts,x4,x6,rfl,hj,ht,hc2⟩;obtain⟨hjs,rfl⟩:=wW hd;refine go ?_;refine yA (fun hr0=>go ?_) fun hr0=>go ?_
    ·refine yA (fun _=>go ?_) fun _=>go ?_
     ·refine z58 (z0X (m:=30) (by decide) (by decide)) fun t ht'=>go ?_;exact⟨r2-1,ts++[t],_,_,by rw[show ((r2-1:Nat):Int)=(r2:Int)-1 by omega];rfl,by simp;omega,uZ ht ht',by simp;omega⟩
     ·exact⟨r2,ts,_,_,rfl,by omega,ht,hc2⟩
    ·exact⟨r2,ts,_,_,rfl,by omega,ht,hc2⟩
   ·rintro _ ⟨r2,ts,x4,x6,rfl,hj,ht,hc2⟩;rw[L2.rng_len]at hj;refine go ?_;refine z4z z4P fun w hw'=>go ?_;refine zd (show zV [.lst (ts.map enN)]=.ok (.tup (ts.map enN)) from jNg (kl _)) (go ?_);refine⟨(w,ts),rfl,by omega,?_⟩;exact⟨v,M,r2,ps++[(w,ts)],_,_,_,rfl,m1,m2,by simp;omega,uZ hp ⟨hw',by show ts.length<=3;omega,ht⟩,by simp at hc ⊢;omega⟩
  ·rintro _ ⟨n',M,r',ps,x4,x5,x6,rfl,m1,m2,hk,hp,hc⟩;rw[L2.rng_len]at hk;refine go ?_;refine zd (show zV [.lst (ps.map enP)]=.ok (.tup (ps.map enP)) from jNg (xj (f:=enP) (fun p=>by
    show (true&&(D.imms (p.2.map enN)&&true))=true;rw[kl];rfl) ps)) (go ?_)
   have hc':cnt (.text ps)+r'=room:=hc;exact⟨⟨by omega,hp,by omega⟩,by omega⟩
def z6I (hr:room<=60):Y (xv [.int n,.int (room:Nat)]) fun v=>∃b:Blk,v=enB b/\jW b/\cnt b<=room:=by
 delta xv jQ
 refine zQ (go ?_);refine yA (fun _=>go ?_) fun _=>go ?_
 ·exact⟨.leaf,rfl,trivial,rC _⟩
 refine yA (fun _=>go ?_) fun _=>go ?_
 ·refine z58 (z0X (m:=12) (by decide) (by decide)) fun c hc=>go ?_;exact⟨.head c,rfl,hc,rC _⟩
 refine yA (fun _=>go ?_) fun _=>go ?_
 ·refine table.imp ?_;rintro _ ⟨t,rfl,ht⟩;refine go ?_;exact⟨.table t,rfl,ht,rC _⟩
 ·refine (z6V hr).imp ?_;rintro _ ⟨ps,rfl,h1,h2⟩;refine go ?_;exact⟨.text ps,rfl,h1,h2⟩
abbrev TA:Tn->R Fl:=vq 4 (eL xv (zb (za 2) (zb (za 5) ze)))
abbrev TB:Tn->R Fl:=(sIf (zh (zc (eqR false) (zc ixD (zc ixD (za 4) (eUn uJ (eC (.int 1)))) (eC (.int 0))) (eC (.str "text")))) (zu 5 (zc Zn (za 5) (eL YG (zb (zS [none] (yo (zc ixD (zc ixD (za 4) (eUn uJ (eC (.int 1)))) (eC (.int 1)))) (.one 0) (fun _=>.ok true) (eL ya (zb (zc ixD (za 0) (eC (.int 1))) ze))) ze)))) zo)
def tail (hr:r'<=60)(hk:bs.length<=1000):Y (zi TA TB [x0,x1,some (.int n'),x3,some (.lst (bs.map enB)),some (.int (r':Nat)),x6]) fun f=>∃(r2:Nat) (b:Blk),f=.nx [x0,x1,some (.int n'),x3,some (.lst ((bs++[b]).map enB)),some (.int (r2:Nat)),x6]/\r2<=60/\jW b:=by
 refine go ?_;refine (z6I hr).imp ?_;rintro _ ⟨b,rfl,h1,h2⟩;refine⟨b,rfl,by omega,go ?_⟩;cases b with
 | leaf =>
  refine zd yE (go ?_);exact⟨r',.leaf,rfl,hr,h1⟩
 | head ws =>
  refine zd yE (go ?_);exact⟨r',.head ws,rfl,hr,h1⟩
 | table t =>
  refine zd yE (go ?_);exact⟨r',.table t,rfl,hr,h1⟩
 | text ps =>
  have h3:ps.length<=200:=h1.1;refine zd yE (go ?_);refine uz (enc:=enP) (fun p=>D.int (p.2.length:Nat)) (fun p hp=>go ?_) (go ?_) ?_
  ·rfl
  ·rw[show (ps.map fun p=>D.int (p.2.length:Nat))=(ps.map fun p=>((p.2.length:Nat):Int)).map D.int by rw[sI];rfl];refine Qn (go ?_);rw[jh];have h2:(ps.map fun p=>p.2.length).sum<=r':=h2;refine⟨r'-(ps.map fun p=>p.2.length).sum,.text ps,?_,by omega,h1⟩;rw[show ((r'-(ps.map fun p=>p.2.length).sum:Nat):Int)=(r':Int)-((ps.map fun p=>p.2.length).sum:Nat) by omega]
   rfl
  ·omega
def blocks {ns:List Int}:Y (xC [.frl (ns.map D.int),.int 0]) fun v=>∃bs:List Blk,v=.lst (bs.map enB)/\bs.length<=40/\∀b∈bs,jW b:=by
 delta xC qK
 refine zQ (go ?_);refine YW (kd (by decide)) fun v h0=>go ?_;refine yA (fun _=>go ?_) fun _=>go ?_
 all_goals
  refine jm (fun k τ=>∃(M:Int) (r':Nat) (bs:List Blk) (x2 x6:Option D),τ=[some (.frl (ns.map D.int)),some (.int 0),x2,some (.int M),some (.lst (bs.map enB)),some (.int (r':Nat)),x6]/\r'<=60/\bs.length=k/\(∀b∈bs,jW b)) ⟨_,60,[],_,_,rfl,by decide,rfl,by simp⟩ ?_ ?_
  ·rintro k d _ hd ⟨M,r',bs,x2,x6,rfl,hr,hk,hb⟩;obtain⟨hks,rfl⟩:=wW hd;refine go ?_;refine YW (kd (by omega)) fun w w0=>go ?_;have hend:∀w2:Int,Y (zi TA TB [some (.frl (ns.map D.int)),some (.int 0),some (.int w2),some (.int M),some (.lst (bs.map enB)),some (.int (r':Nat)),some (.int (k:Nat))]) fun f=>∃τ,f=.nx τ/\∃(M:Int) (r':Nat) (bs:List Blk) (x2 x6:Option D),τ=[some (.frl (ns.map D.int)),some (.int 0),x2,some (.int M),some (.lst (bs.map enB)),some (.int (r':Nat)),x6]/\r'<=60/\bs.length=k+1/\(∀b∈bs,jW b):=fun w2=>(tail hr (by omega)).imp fun f h=>by
    obtain⟨r2,b,rfl,g1,g2⟩:=h;exact⟨_,rfl,M,r2,bs++[b],_,_,rfl,g1,by simp;omega,uZ hb g2⟩
   have hfin:∀w2:Int,Y (zi TA TB [some (.frl (ns.map D.int)),some (.int 0),some (.int w2),some (.int M),some (.lst (bs.map enB)),some (.int (r':Nat)),some (.int (k:Nat))]) (lp (fun τ=>∃(M:Int) (r':Nat) (bs:List Blk) (x2 x6:Option D),τ=[some (.frl (ns.map D.int)),some (.int 0),x2,some (.int M),some (.lst (bs.map enB)),some (.int (r':Nat)),x6]/\r'<=60/\bs.length=k+1/\(∀b∈bs,jW b)) (sq (zm (za 4)) (rb fun v=>∃bs:List Blk,v=.lst (bs.map enB)/\bs.length<=40/\∀b∈bs,jW b))):=fun w2=>(hend w2).imp fun f h=>by obtain⟨τ,rfl,h⟩:=h;exact h
   refine yA (fun _=>go ?_) fun _=>?_
   ·refine yA (fun _=>?_) fun _=>?_
    ·exact zd (a:=.nx [some (.frl (ns.map D.int)),some (.int 0),some (.int (w+101*((k:Nat)/6)-5)),some (.int M),some (.lst (bs.map enB)),some (.int (r':Nat)),some (.int (k:Nat))]) rfl (hfin _)
    ·exact zd (a:=.nx [some (.frl (ns.map D.int)),some (.int 0),some (.int (w+101*((k:Nat)/6))),some (.int M),some (.lst (bs.map enB)),some (.int (r':Nat)),some (.int (k:Nat))]) rfl (hfin _)
   ·refine xa ?_;exact zd (a:=.nx [some (.frl (ns.map D.int)),some (.int 0),some (.int (w+101*((k:Nat)/6))),some (.int M),some (.lst (bs.map enB)),some (.int (r':Nat)),some (.int (k:Nat))]) rfl (hfin _)
  ·rintro _ ⟨M,r',bs,x2,x6,rfl,hr,hk,hb⟩;rw[L2.rng_len]at hk;refine go ?_;exact hb
def z3j (h:jW b):Y (xl [enB b]) fun v=>v=enW (bT b):=by
 have hle:=Vd h
 delta xl qq
 refine zQ (go ?_);cases b with
 | leaf=>exact zd yE (go rfl)
 | head ws =>
  have h:okN 12 ws:=h;have hb:=h.b;refine zd yE (go ?_);refine zd (kB [32] ws (by rw[qT];omega)) (go ?_);refine zd (yu (a:=[61,32]) (b:=jn [32] ws) (by simp;omega)) (go ?_)
  rfl
 | text ps =>
  obtain⟨h1,h2,h3⟩:=h;have h3:(ps.map fun p=>p.2.length).sum<=60:=h3;have h4:=WG ps h2;refine zd yE (go ?_);refine z6Y (enc:=enP) (fun pre τ=>∃(x2 x3 x4:Option D),τ=[some (enB (.text ps)),some (.lst ((pre.map pT).map enW)),x2,x3,x4]) ⟨_,_,_,rfl⟩ ?_ ?_
  ·rintro pre p _ hp hl ⟨x2,x3,x4,rfl⟩;have hP:=h2 p hp;have hb:=z0M hP;have hle:=hP.le;have hw:=hP.w;have h13:p.2.length*1300<=3*1300:=pY _ hle;refine go ?_;refine uz (enc:=enN) (fun n=>enW (nT n)) (fun n hn=>go ?_) (go ?_) ?_
   ·have hN:=hP.ok n hn;have hb:=hN.b;refine zd (kB [32] n (by rw[qT];omega)) (go ?_);refine zd (yu (a:=[123]) (b:=jn [32] n) (by simp;omega)) (go ?_);refine zd (yu (a:=123::jn [32] n) (b:=[125]) (by simp;omega)) (go ?_)
    rfl
   ·rw[show (p.2.map fun n=>enW (nT n))=(p.2.map nT).map enW by rw[sI];rfl];refine zd (yt [] (p.2.map nT) (by have:=hb.2;have e:([]:List Nat).length=0:=rfl;rw[e];omega)) (go ?_);rw[UD];refine zd (yu (a:=p.1) (b:=(p.2.map nT).flatten) (by have:=hb.1;simp only[big,tD];omega)) (go ?_);refine⟨by rw[tJ];omega,?_⟩;show ∃x2 x3 x4,_=_;rw[rO (f:=pT)];exact⟨_,_,_,rfl⟩
   ·omega
  ·rintro _ ⟨x2,x3,x4,rfl⟩;refine go ?_;refine zd (yt [32] (ps.map pT) (by rw[qT,tJ];omega)) (go ?_)
   rfl
 | table t =>
  obtain⟨h1,h2⟩:=h;have hb:=(vX [10] (t.map rT) (k:=2010) (n:=20) (m:=40220) (fun x hx=>by
   obtain⟨r,hr,rfl⟩:=rM.mp hx;exact Jq (h2 r hr)) (by rw[tJ];exact h1) (by decide)).1
  refine zd yE (go ?_);refine z6Y (enc:=enR) (fun pre τ=>∃(x2 x3 x4:Option D),τ=[some (enB (.table t)),some (.lst ((pre.map rT).map enW)),x2,x3,x4]) ⟨_,_,_,rfl⟩ ?_ ?_
  ·rintro pre r _ hr hl ⟨x2,x3,x4,rfl⟩;have hR:=h2 r hr;have hle:=hR.le;obtain⟨b1,b2⟩:=vX [124] (r.map cT) (k:=494) (n:=4) (m:=1980) (fun x hx=>by
    obtain⟨c,hc,rfl⟩:=rM.mp hx;have:=(hR.ok c hc).b.2;unfold cT;simp;omega) (by rw[tJ];exact hle) (by decide)
   refine go ?_;refine uz (enc:=enN) (fun n=>enW (cT n)) (fun n hn=>go ?_) (go ?_) ?_
   ·have hb:=(hR.ok n hn).b;refine zd (kB [32] n (by rw[qT];omega)) (go ?_);refine zd (yu (a:=[32]) (b:=jn [32] n) (by simp;omega)) (go ?_);refine zd (yu (a:=32::jn [32] n) (b:=[32]) (by simp;omega)) (go ?_)
    rfl
   ·rw[show (r.map fun n=>enW (cT n))=(r.map cT).map enW by rw[sI];rfl];refine zd (yt [124] (r.map cT) (by omega)) (go ?_);refine zd (yu (a:=[124]) (b:=jn [124] (r.map cT)) (by simp;omega)) (go ?_);refine zd (yu (a:=124::jn [124] (r.map cT)) (b:=[124]) (by simp;omega)) (go ?_);refine⟨by rw[tJ];omega,?_⟩;show ∃x2 x3 x4,_=_;rw[rO (f:=rT)];exact⟨_,_,_,rfl⟩
   ·omega
  ·rintro _ ⟨x2,x3,x4,rfl⟩;refine go ?_;refine zd (yt [10] (t.map rT) (by omega)) (go ?_)
   rfl
def rB (R:Nat)(l:List Nat):Prop:=∀a m b,l=a++(m++b)->10∉m->m.length<=R
theorem rB.le {R l}(h:l.length<=R):rB R l:=fun a m b e _=>by
 have:=congrArg List.length e;simp at this;omega
theorem rB.pre {R:Nat}{x y:List Nat}(h:rB R (x++y)):rB R x:=fun a m b e k=>h a m (b++y) (by rw[e];simp) k
theorem rB.suf {R:Nat}{x y:List Nat}(h:rB R (x++y)):rB R y:=fun a m b e k=>h (x++a) m b (by rw[e];simp) k
theorem Yc:∀ {x y a c:List Nat},x++y=a++c->(∃z,x=a++z/\c=z++y)\/∃z,a=x++z/\y=z++c
 | [],y,a,c,h=>.inr ⟨a,rfl,h⟩
 | p::x,y,[],c,h=>.inl ⟨p::x,rfl,h.symm⟩
 | p::x,y,q::a,c,h=>by
  injection h with h1 h2;subst h1;rcases Yc h2 with⟨z,e1,e2⟩|⟨z,e1,e2⟩
  ·exact .inl ⟨z,by rw[e1];rfl,e2⟩
  ·exact .inr ⟨z,by rw[e1];rfl,e2⟩
theorem rB.app (h:rB A x)(k:rB B y):rB (A+B) (x++y):=fun a m b e hm=>by
 rcases Yc e with⟨z,e1,e2⟩|⟨z,e1,e2⟩
 ·rcases Yc e2.symm with⟨u,f1,f2⟩|⟨u,f1,f2⟩
  ·have:=h a m u (by rw[e1,f1]) hm;omega
  ·have h1:=h a z [] (by rw[e1];simp) (fun q=>hm (by rw[f1];simp[q]));have h2:=k [] u b (by rw[f2];rfl) (fun q=>hm (by rw[f1];simp[q]));rw[f1,tD];omega
 ·have:=k z m b e2 hm;omega
theorem rB.nl {R:Nat}{x y:List Nat}(h:rB R x)(k:rB R y):rB R (x++10::y):=fun a m b e hm=>by
 rcases Yc e with⟨z,e1,e2⟩|⟨z,e1,e2⟩
 ·rcases Yc e2.symm with⟨u,f1,f2⟩|⟨u,f1,f2⟩
  ·exact h a m u (by rw[e1,f1]) hm
  ·cases u with
   | nil=>exact h a m [] (by rw[e1,f1];simp) hm
   | cons c u =>
    injection f2 with g1 g2;exact absurd (by rw[f1,<-g1];simp) hm
 ·cases z with
  | nil =>
   cases m with
   | nil=>exact rC _
   | cons c m =>
    injection e2 with g1 g2;exact absurd (by rw[<-g1];simp) hm
  | cons c z =>
   injection e2 with g1 g2;exact k z m b g2 hm
def rB.mono (h:rB A x)(k:A<=B):rB B x:=fun a m b e hm=>rH (h a m b e hm) k
theorem rB.row {R:Nat}{l p:List Nat}(h:rB R l)(hp:p∈spl 10 l):p.length<=R:=by
 have key:∀(ps:List (List Nat)),p∈ps->∃a b,jn [10] ps=a++(p++b):=by
  intro ps
  induction ps with
  | nil=>intro h;cases h
  | cons q ps ih =>
   intro hq;rcases tS.mp hq with z|z
   ·subst z;cases ps with
    | nil=>exact⟨[],[],by simp[jn]⟩
    | cons r rs=>exact⟨[],[10]++jn [10] (r::rs),by rw[xu _ _ (by simp)];simp⟩
   ·obtain⟨a,b,e⟩:=ih z;have hne:ps≠[]:=by rintro rfl;cases z
    exact⟨q++[10]++a,b,by rw[xu _ _ hne,e];simp⟩
 obtain⟨a,b,e⟩:=key _ hp;rw[UE]at e;exact h a p b e (Wq 10 l p hp)
theorem rB.jn {R:Nat}:∀ {ps:List (List Nat)},(∀p∈ps,p.length<=R)->rB R (jn [10] ps)
 | [],_=>rB.le (rC _)
 | [p],h=>rB.le (h p tG)
 | p::q::ps,h=>by
  rw[xu _ _ (by simp),tQ];exact rB.nl (rB.le (h p tG)) (rB.jn fun x hx=>h x (tH _ hx))
def z8n:Y (wL [.int n]) fun v=>∃c:Nat,v=enW [c]:=by
 delta wL kZ
 refine zQ (go ?_);have h1:("{}{}||=~ \n \nab-":Str).length=15:=by decide +kernel
 have h2:(" !\"#$&'()*+,-./0123456789:;<=>?@ABCDEFGHIJKLMNOPQRSTUVWXYZ[\\]^_`abcdefghijklmnopqrstuvwxyz{|}~":Str).length=94:=by decide +kernel
 refine yA (fun _=>go ?_) fun _=>go ?_
 ·refine Qs (by rw[h1];decide) (by omega) (by rw[h1];omega) fun c _=>go ?_;exact⟨c,rfl⟩
 ·refine Qs (by rw[h2];decide) (by omega) (by rw[h2];omega) fun c _=>go ?_;exact⟨c,rfl⟩
def z8f (h:Y r fun v=>∃c:Nat,v=enW [c])(k:∀c:Nat,Q (enW [c])):Y r Q:=h.imp fun _ ⟨v,e⟩=>by subst e;exact k v
def z5H (h:big l):slD (enW l) none (some (a:Nat))=.ok (enW (l.take a)):=by rw[jZ h,Yd]
def z8O (h:big l)(ha:a<=l.length):slD (enW l) (some (a:Nat)) none=.ok (enW (l.drop a)):=by rw[jZ h,wx _ _ ha]
def Kl (a n:Nat):Builtin.Str.strSliceIndices (some (a:Int)) none 1 n=Builtin.Str.strSliceIndices (some ((min a n:Nat):Int)) none 1 n:=by
 have h1:¬((a:Int)<0):=by omega
 have h3:¬(((min a n:Nat):Int)<0):=by omega
 have e:max (0:Int) (min (a:Int) (n:Int))=max (0:Int) (min ((min a n:Nat):Int) (n:Int)):=by omega
 simp only[Builtin.Str.strSliceIndices,h1,h3,if_false,e,show ((1:Int)>0)=True from by simp,if_true]
def z0a (h:big l):slD (enW l) (some (a:Nat)) none=.ok (enW (l.drop a)):=by
 by_cases ha:a<=l.length
 ·exact z8O h ha
 ·rw[jZ h];have e:Txt.slice (S l) (some (a:Int)) none=Txt.slice (S l) (some ((l.length:Nat):Int)) none:=by
   unfold Txt.slice;rw[zY,Kl,Kl l.length,Nat.min_eq_right (by omega),Nat.min_self]
  rw[e,wx _ _ (tP _),List.drop_of_length_le (tP _),List.drop_of_length_le (by omega)]
def z1t {P:Rs}{b:Nat}(h:b<=P.length):slD (.lst (P.map enW)) none (some (b:Nat))=.ok (.lst ((P.take b).map enW)):=by
 rw[UH (wY P),Wl];unfold jd;rw[HT.sIx_none,HT.sIx_nat,Nat.min_eq_left h];simp
def z1d {P:Rs}{b:Nat}(h:b<=P.length):slD (.lst (P.map enW)) (some (b:Nat)) none=.ok (.lst ((P.drop b).map enW)):=by
 rw[UH (wY P),Wl];unfold jd;rw[HT.sIx_none,HT.sIx_nat,Nat.min_eq_left h,rL (by rw[rE];omega)]
def QW {P Q:Rs}(h:P.length+Q.length<=16777216):zB (.lst (P.map enW)) (.lst (Q.map enW))=.ok (.lst ((P++Q).map enW)):=by
 rw[rO];exact jNg ⟨wY P,wY Q,by rw[tJ,tJ,jKj];exact h⟩
def z0J (h:big p)(lo hi:Option Int):∃q,slD (enW p) lo hi=.ok (enW q)/\q.length<=p.length:=by
 refine⟨(Txt.slice (S p) lo hi).cps.toList,by rw[jZ h];exact congrArg (fun z=>L2.R.ok (D.str z)) (Zf _),?_⟩;have:=Txt.slice_le (S p) lo hi;rw[zY]at this;exact this
def z2R {l:List Nat}{n:Int}{T R:Nat}(hT:l.length<=T)(hR:rB R l)(hT2:T+R<=4800000):Y (xg [enW l,.int n]) fun v=>∃l':List Nat,v=enW l'/\l'.length<=T+R+2/\rB (2*R+1) l':=by
 have hb:big l:=by show l.length<=16777216;omega
 delta xg qf
 refine zQ (go ?_);refine zd (uF hb) (go ?_);refine YW next fun v v0=>go ?_;refine z8f z8n fun c=>go ?_;obtain⟨a,ha⟩:∃a:Nat,n/9%((l.length:Int)+1)=(a:Nat):=⟨(n/9%((l.length:Int)+1)).toNat,by
  have:=Int.emod_nonneg (n/9) (show (l.length:Int)+1≠0 by omega);omega⟩
 have hal:a<=l.length:=by
  have:=Int.emod_lt_of_pos (n/9) (show (0:Int)<(l.length:Int)+1 by omega);omega
 have htk:(l.take a).length<=T:=by rw[sZ];omega
 have hdr:∀i,(l.drop i).length<=T:=fun i=>by rw[rE];omega
 have hrt:rB R (l.take a):=by rw[<-pK a l]at hR;exact hR.pre
 have hrd:∀i,rB R (l.drop i):=fun i=>by rw[<-pK i l]at hR;exact hR.suf
 rw[ha];refine yA (fun _=>go ?_) fun _=>go ?_
 ·refine zd (z5H hb) (go ?_);refine zd (yu (a:=l.take a) (b:=[c]) (by simp only[big,tD,tE,tR];omega)) (go ?_);refine zd (z0a hb) (go ?_);have hd:=hdr a;refine zd (yu (a:=l.take a++[c]) (b:=l.drop a) (by simp only[big,tD,tE,tR];omega)) (go ?_);refine⟨?_,((hrt.app (rB.le (R:=1) (l:=[c]) (tP 1))).app (hrd a)).mono (by omega)⟩;rw[tD,tD,sZ,rE];simp only[tE,tR];omega
 have hda:slD (enW l) (some ((a:Int)+1)) none=.ok (enW (l.drop (a+1))):=by
  rw[show ((a:Nat):Int)+1=((a+1:Nat):Int) from rfl];exact z0a hb
 have hd1:=hdr (a+1);refine yA (fun _=>go ?_) fun _=>go ?_
 ·refine zd (z5H hb) (go ?_);refine zd (show slD (enW l) (some ((a:Int)+1)) none=.ok (enW (l.drop (a+1))) from hda) (go ?_);refine zd (yu (a:=l.take a) (b:=l.drop (a+1)) (by simp only[big,tD];omega)) (go ?_);refine⟨?_,(hrt.app (hrd (a+1))).mono (by omega)⟩;rw[tD,sZ,rE];omega
 refine yA (fun _=>go ?_) fun _=>go ?_
 ·refine zd (z5H hb) (go ?_);refine zd (yu (a:=l.take a) (b:=[c]) (by simp only[big,tD,tE,tR];omega)) (go ?_);refine zd (show slD (enW l) (some ((a:Int)+1)) none=.ok (enW (l.drop (a+1))) from hda) (go ?_);refine zd (yu (a:=l.take a++[c]) (b:=l.drop (a+1)) (by simp only[big,tD,tE,tR];omega)) (go ?_);refine⟨?_,((hrt.app (rB.le (R:=1) (l:=[c]) (tP 1))).app (hrd (a+1))).mono (by omega)⟩;rw[tD,tD,sZ,rE];simp only[tE,tR];omega
 have hsl:=xI 10 l;have hss:=qF 10 l;have hne:0<(spl 10 l).length:=pG.mpr (uB 10 l);have hrow:∀p∈spl 10 l,p.length<=R:=fun p hp=>hR.row hp;refine zd (vE 10 (by omega)) (go ?_);generalize spl 10 l=P at hsl hss hne hrow;obtain⟨b,hbe⟩:∃b:Nat,n/9%(P.length:Int)=(b:Nat):=⟨(n/9%(P.length:Int)).toNat,by
  have:=Int.emod_nonneg (n/9) (show (P.length:Int)≠0 by omega);omega⟩
 have hbl:b<P.length:=by
  have:=Int.emod_lt_of_pos (n/9) (show (0:Int)<(P.length:Int) by omega);omega
 obtain⟨p,hp⟩:∃p,P[b]?=some p:=⟨_,sO hbl⟩
 have hpm:p∈P:=rX hp;have hpR:=hrow p hpm;have hPd:P=P.take b++p::P.drop (b+1):=by
  conv=>lhs;rw[<-pK b P,sW hbl]
  rw[(tN.mp hp).2]
 have hsum:∀q:List Nat,yX (P.take b++q::P.drop (b+1))+p.length=yX P+q.length:=fun q=>by
  have h1:yX P=yX (P.take b++p::P.drop (b+1)):=congrArg yX hPd;rw[h1];unfold yX;simp only[rO,tK,List.sum_append,rG,tD,tE];omega
 have hcost:yX P=l.length+1:=hss;have hix:ixD (.lst (P.map enW)) (.int (b:Nat))=.ok (enW p):=xf (uh (by rw[sL,hp];rfl));have hmt:∀q∈P.take b,q.length<=R:=fun q hq=>hrow q (List.mem_of_mem_take hq);have hmd:∀i,∀q∈P.drop i,q.length<=R:=fun i q hq=>hrow q (List.mem_of_mem_drop hq);rw[hbe];refine yA (fun _=>go ?_) fun _=>go ?_
 ·refine zd (z1t (by omega)) (go ?_);refine zd hix (go ?_);refine zd (QW (P:=P.take b) (Q:=[p]) (by rw[sZ];simp;omega)) (go ?_);refine zd (z1d (by omega)) (go ?_);refine zd (QW (P:=P.take b++[p]) (Q:=P.drop b) (by rw[tD,sZ,rE];simp;omega)) (go ?_);have hc:yX (P.take b++[p]++P.drop b)=yX P+p.length+1:=by
   have h1:yX P=yX (P.take b++P.drop b):=by rw[pK]
   rw[h1];unfold yX;simp only[rO,tK,rK,List.sum_append,rG,List.sum_nil,tD,tE,tR];omega
  have hj:=uR [10] (P.take b++[p]++P.drop b);have e10:([10]:List Nat).length=1:=rfl;rw[e10,Nat.mul_one]at hj;unfold yX at hc hcost;refine zd (yt [10] _ (by rw[e10];omega)) (go ?_);refine (rB.jn fun q hq=>?_).mono (show R<=2*R+1 by omega);rcases tX.mp hq with z|z
  ·rcases tX.mp z with z|z
   ·exact hmt q z
   ·rw[sG.mp z];exact hpR
  ·exact hmd b q z
 refine yA (fun _=>go ?_) fun _=>go ?_
 ·have hmid:slD (.lst (P.map enW)) (some (b:Nat)) (some ((b:Int)+1))=.ok (.lst ([p].map enW)):=by
   rw[UH (wY P),show ((b:Nat):Int)+1=((b+1:Nat):Int) from rfl,Wl,z53 (by omega) (by omega),show b+1-b=1 by omega,sW hbl,(tN.mp hp).2]
   rfl
  have hdn:slD (.lst (P.map enW)) (some ((b:Int)+1)) none=.ok (.lst ((P.drop (b+1)).map enW)):=by
   rw[show ((b:Nat):Int)+1=((b+1:Nat):Int) from rfl];exact z1d (by omega)
  refine zd hmid (go ?_);refine zd (z1t (by omega)) (go ?_);refine zd (QW (P:=[p]) (Q:=P.take b) (by rw[sZ];simp;omega)) (go ?_);refine zd hdn (go ?_);refine zd (QW (P:=[p]++P.take b) (Q:=P.drop (b+1)) (by rw[tD,sZ,rE];simp;omega)) (go ?_);have hc:yX ([p]++P.take b++P.drop (b+1))=yX P:=by
   have h1:yX P=yX (P.take b++p::P.drop (b+1)):=congrArg yX hPd;rw[h1];unfold yX;simp only[rO,tK,rK,List.sum_append,rG,List.sum_nil,tD,tE,tR];omega
  have hj:=uR [10] ([p]++P.take b++P.drop (b+1));have e10:([10]:List Nat).length=1:=rfl;rw[e10,Nat.mul_one]at hj;unfold yX at hc hcost;refine zd (yt [10] _ (by rw[e10];omega)) (go ?_);refine (rB.jn fun q hq=>?_).mono (show R<=2*R+1 by omega);rcases tX.mp hq with z|z
  ·rcases tX.mp z with z|z
   ·rw[sG.mp z];exact hpR
   ·exact hmt q z
  ·exact hmd (b+1) q z
 ·have hbp:big p:=by show p.length<=16777216;omega
  obtain⟨q1,e1,l1⟩:=z0J hbp none (some (-1));obtain⟨q2,e2,l2⟩:=z0J hbp (some 1) none;refine zd hix (go ?_);refine zd e1 (go ?_);refine zd hix (go ?_);refine zd e2 (go ?_);refine z2H (ds:=[q1,q2]) (fun q hq=>go ?_) (by omega) (by simp only[tE,tR];omega);have hql:q.length<=p.length:=by
   rcases tS.mp hq with z|z
   ·rw[z];exact l1
   ·rw[sG.mp z];exact l2
  rw[rV,List.set_eq_take_append_cons_drop,jNg hbl];have hc:=hsum q;have hj:=uR [10] (P.take b++q::P.drop (b+1));have e10:([10]:List Nat).length=1:=rfl;rw[e10,Nat.mul_one]at hj;unfold yX at hc hcost;refine zd (yt [10] _ (by rw[e10];omega)) (go ?_);refine (rB.jn fun r hr=>?_).mono (show R<=2*R+1 by omega);rcases tX.mp hr with z|z
  ·exact hmt r z
  ·rcases tS.mp z with z|z
   ·rw[z];omega
   ·exact hmd (b+1) r z
def sh (m:Nat)(v:D):Prop:=∃l:List Nat,v=enW l/\l.length<=m
def shB:R D->Bool
 | .ok (.str z)=>decide (z.length<=1000)
 | _=>false
def z61:∀ {r:R D},shB r=true->Y r (sh 1000)
 | .ok (.str z),h=>⟨_,rfl,z.cps.toList,congrArg D.str (Zf z),of_decide_eq_true h⟩
def z85 (h0:0<=w/\w<8)(h1:0<=x/\x<2):Y (xY [.int w,.int x]) (sh 1000):=by
 have key:∀w:Fin 8,∀x:Fin 2,shB (xY [.int (w.val:Nat),.int (x.val:Nat)])=true:=by decide +kernel
 have:=key ⟨w.toNat,by omega⟩ ⟨x.toNat,by omega⟩;rw[show ((w.toNat:Nat):Int)=w by omega,show ((x.toNat:Nat):Int)=x by omega]at this;exact z61 this
def z8K (h:Y r (sh m))(k:∀l:List Nat,l.length<=m->Q (enW l)):Y r Q:=h.imp fun _ ⟨v,e,h0⟩=>by subst e;exact k v h0
theorem vU {α:Type}(a:α):∀k:Nat,(List.replicate k [a]).flatten=List.replicate k a
 | 0=>rfl
 | k+1=>by rw[sX,pF,vU a k];rfl
def z43 (h0:0<=k)(h1:k<=1000):vC (.lst [enW w]) (.int k)=.ok (.lst ((List.replicate k.toNat w).map enW)):=by
 have e:vC (.lst [enW w]) (.int k)=.ok (.lst (List.replicate k.toNat [enW w]).flatten):=jNg ⟨rfl,by omega,by omega,by rw[jKj];show 1*k.toNat<=_;omega⟩;rw[e,vU,List.map_replicate]
structure St (k:Nat)(l:List Nat):Prop where
 len:l.length<=k*90003+3
 rw:l=[]\/∃t,l=t++[10]/\rB 90000 t
theorem St.row (h:St k l):rB 90000 l:=by
 rcases h.rw with rfl|⟨t,rfl,ht⟩
 ·exact rB.le (rC _)
 ·exact rB.nl ht (rB.le (rC _))
def St.step {k:Nat}{l b s1:List Nat}(h:St k l)(hb:b.length<=90000)(hs:s1.length<=1):St (k+1) (l++b++(10::(s1++[10]))):=by
 refine⟨?_,.inr ⟨l++b++10::s1,by simp,?_⟩⟩
 ·have:=h.len;simp only[tD,tE,tR];omega
 ·have h2:rB 90000 (b++10::s1):=rB.nl (rB.le hb) (rB.le (by omega));rcases h.rw with rfl|⟨t,rfl,ht⟩
  ·simpa using h2
  ·have:=rB.nl ht h2
   simpa using this
def Rj:Nat->Nat
 | 0=>90000
 | j+1=>2*Rj j+1
def Tj:Nat->Nat
 | 0=>3600123
 | j+1=>Tj j+Rj j+2
def TR (h:j<3):Tj j+Rj j<=4800000:=(by decide:∀j:Fin 3,Tj j.val+Rj j.val<=4800000) ⟨j,h⟩
def TE (h:j<4):Tj j<4900000:=(by decide:∀j:Fin 4,Tj j.val<4900000) ⟨j,h⟩
def drawn {ns:List Int}:Y (xr [.frl (ns.map D.int)]) fun v=>∃l:List Nat,v=enW l/\l.length<4900000:=by
 delta xr jI
 refine zQ (go ?_);refine YW (kd (by decide)) fun v h0=>go ?_;have hl9:("a|{} \n=~B":Str).length=9:=by decide +kernel
 refine yA (fun _=>go ?_) fun _=>go ?_
 ·refine jm (fun k τ=>∃(w:List Nat) (x1 x3 x4 x5 x6 x7:Option D),τ=[some (.frl (ns.map D.int)),x1,some (enW w),x3,x4,x5,x6,x7]/\w.length=k) ⟨[],_,_,_,_,_,_,rfl,rfl⟩ ?_ ?_
  ·rintro k d _ hd ⟨w,x1,x3,x4,x5,x6,x7,rfl,hw⟩;obtain⟨hk,rfl⟩:=wW hd;refine go ?_;refine YW (kd (by omega)) fun u u0=>go ?_;refine Qs (by rw[hl9];decide) (by omega) (by rw[hl9];omega) fun c _=>go ?_;refine zd (yu (a:=w) (b:=[c]) (by simp only[big,tD,tE,tR];omega)) (go ?_);exact⟨w++[c],_,_,_,_,_,_,rfl,by simp;omega⟩
  ·rintro _ ⟨w,x1,x3,x4,x5,x6,x7,rfl,hw⟩;rw[L2.rng_len]at hw;refine go ?_;omega
 refine yA (fun _=>go ?_) fun _=>go ?_
 ·refine zd (z43 (w:=[97,123,98,125]) (by omega) (by omega)) (go ?_);obtain⟨b,hb⟩:∃b:Nat,1+v/45%57=(b:Nat):=⟨(1+v/45%57).toNat,by omega⟩
  rw[hb];have hP:(List.replicate (58+v/9%5).toNat ([97,123,98,125]:List Nat)).length=(58+v/9%5).toNat:=rJ;have hm:∀p∈List.replicate (58+v/9%5).toNat ([97,123,98,125]:List Nat),p.length<=4:=fun p hp=>by rw[pM hp];decide
  generalize List.replicate (58+v/9%5).toNat ([97,123,98,125]:List Nat)=P at hP hm;obtain⟨b1,b2⟩:=vX [32] (P.take b) (k:=4) (n:=62) (m:=310) (fun x hx=>hm x (List.mem_of_mem_take hx)) (by rw[sZ];omega) (by decide);obtain⟨b3,b4⟩:=vX [32] (P.drop b) (k:=4) (n:=62) (m:=310) (fun x hx=>hm x (List.mem_of_mem_drop hx)) (by rw[rE];omega) (by decide);refine zd (z1t (by omega)) (go ?_);refine zd (yt [32] (P.take b) (by omega)) (go ?_);refine zd (yu (a:=jn [32] (P.take b)) (b:=[10,10]) (by simp only[big,tD,tE,tR];omega)) (go ?_);refine zd (z1d (by omega)) (go ?_);refine zd (yt [32] (P.drop b) (by omega)) (go ?_);refine zd (yu (a:=jn [32] (P.take b)++[10,10]) (b:=jn [32] (P.drop b)) (by simp only[big,tD,tE,tR];omega)) (go ?_);simp only[tD,tE,tR];omega
 refine yA (fun _=>go ?_) fun _=>go ?_
 ·refine zd (z43 (w:=[126]) (by omega) (by omega)) (go ?_);obtain⟨b1,b2⟩:=vX [10,32,10] (List.replicate (38+v/27%5).toNat ([126]:List Nat)) (k:=1) (n:=42) (m:=168) (fun p hp=>by rw[pM hp];decide) (by rw[rJ];omega) (by decide);refine zd (yt [10,32,10] _ (by omega)) (go ?_);omega
 refine yA (fun _=>go ?_) fun _=>go ?_
 ·refine z8K (z85 (by omega) (by omega)) fun w hw=>go ?_;refine zd (yu (a:=[126,10,10]) (b:=w) (by simp only[big,tD,tE,tR];omega)) (go ?_);refine z2H (ds:=[[],[10,10,98],[10,10,61,32]]) fun u hu=>go ?_;have hu4:u.length<=4:=(by decide:∀u∈([[],[10,10,98],[10,10,61,32]]:List (List Nat)),u.length<=4) u hu;refine zd (yu (a:=[126,10,10]++w) (b:=u) (by simp only[big,tD,tE,tR];omega)) (go ?_);simp only[tD,tE,tR];omega
 refine blocks.imp ?_;rintro _ ⟨bs,rfl,hb1,hb2⟩;refine go ?_;refine z2H (ds:=[[],[10],[32,10,10]]) fun u hu=>go ?_;have hu0:St 0 u:=by
  rcases tS.mp hu with z|z
  ·rw[z];exact⟨by decide,.inl rfl⟩
  rcases tS.mp z with z|z
  ·rw[z];exact⟨by decide,.inr ⟨[],rfl,rB.le (rC _)⟩⟩
  ·rw[sG.mp z];exact⟨by decide,.inr ⟨[32,10],rfl,rB.le (by decide)⟩⟩
 refine z8V (enc:=enB) (fun k τ=>∃(w:List Nat) (x3 x4 x5 x7:Option D),τ=[some (.frl (ns.map D.int)),some (.int v),some (enW w),x3,x4,x5,some (.lst (bs.map enB)),x7]/\St k w) ⟨u,_,_,_,_,rfl,hu0⟩ ?_ ?_
 ·rintro k b _ hb hk ⟨w,x3,x4,x5,x7,rfl,hw⟩;have hob:=hb2 b hb;have hbl:=Vd hob;have hwl:=hw.len;refine go ?_;refine (z3j hob).imp ?_;rintro _ rfl;refine go ?_;refine zd (yu (a:=w) (b:=bT b) (by simp only[big,tD];omega)) (go ?_);refine z2H (ds:=[[10,10],[10,32,10],[10,10,10]]) fun s hs=>go ?_;obtain⟨s1,rfl,hs1⟩:∃s1,s=10::(s1++[10])/\s1.length<=1:=by
   rcases tS.mp hs with z|z
   ·exact⟨[],z,by decide⟩
   rcases tS.mp z with z|z
   ·exact⟨[32],z,by decide⟩
   ·exact⟨[10],sG.mp z,by decide⟩
  refine zd (yu (a:=w++bT b) (b:=10::(s1++[10])) (by simp only[big,tD,tE,tR];omega)) (go ?_);exact⟨_,_,_,_,_,rfl,hw.step hbl hs1⟩
 ·rintro _ ⟨w,x3,x4,x5,x7,rfl,hw⟩;have hwl:=hw.len;have hwr:=hw.row;refine go ?_;refine z6E (ds:=[0,1,1,2,3]) fun s hs=>go ?_;have hs3:0<=s/\s<=3:=(by decide:∀s∈[(0:Int),1,1,2,3],0<=s/\s<=3) s hs;refine Qb (by omega) (go ?_);refine jm (fun j τ=>∃(w:List Nat) (x1 x3 x4 x5 x6 x7:Option D),τ=[some (.frl (ns.map D.int)),x1,some (enW w),x3,x4,x5,x6,x7]/\w.length<=Tj j/\rB (Rj j) w) ⟨w,_,_,_,_,_,_,rfl,by show w.length<=3600123;omega,hwr⟩ ?_ ?_
  ·rintro j d _ hd ⟨w,x1,x3,x4,x5,x6,x7,rfl,g1,g2⟩;obtain⟨hjs,rfl⟩:=wW hd;refine go ?_;refine YW (kd (by omega)) fun u u0=>go ?_;refine (z2R g1 g2 (TR (by omega))).imp ?_;rintro _ ⟨l',rfl,k1,k2⟩;refine go ?_;exact⟨l',_,_,_,_,_,_,rfl,k1,k2⟩
  ·rintro _ ⟨w,x1,x3,x4,x5,x6,x7,rfl,g1,g2⟩;rw[L2.rng_len]at g1;refine go ?_;exact Nat.lt_of_le_of_lt g1 (TE (by omega))
def law_true (ns:List Int)(hns:ns.length<=63):F_law [.frl (ns.map D.int)]=.ok (.bl true):=by
 obtain⟨_,e1,l,rfl,hl⟩:=drawn (ns:=ns);obtain⟨_,e2,v,rfl,hv⟩:=kd (ns:=ns) (k:=7) (by decide);exact z4Z e1 hl e2 hv
open PySem PySem.Spec PySem.W PyProof.Rows L2
def dq {w:World}{mg:Str->Option Value}{h:Heap}(m:Str)(t:Nat)(n:Str)(i:Nat)(ps:List Str)(a c:Addr)(X:(K0 w.params).In h)(G:h.Ns jKi mg)
  (hl:autoParam (∀ {kV dc pm:Value} {an:Option Addr} {cd ct:Value} (us:List Value),us.length=ps.length->bindArgs (fnOf n n (defArgs (top i)) (defBody (top i)) (defScope (top i)) .none kV dc pm an cd ct) { pos:=us }=pure (ps.zip us)) L2.au16._auto_1)
  (e:autoParam ((nsIn (K0 w.params) jKi n,(K0 w.params).lookup a,codeIn (K0 w.params) (.ref c) n,keepIn (K0 w.params) (.ref a))=(some (some (.ref a)),some ⟨.type "function",none,.func (fnOf n n (defArgs (top i)) (defBody (top i)) (defScope (top i)) .none .none .none (.str m t) none (.ref c) .none),#[]⟩,true,true)) L2.au17._auto_1):DefIn (K0 w.params) mg n (top i) ps:=HW.dfn X G hl e
def facts (w:World)(mg:Str->Option Value)(fa:Addr)(h:Heap)(X:(K0 w.params).In h)(G:h.Ns jKi mg)(hfa:mg "law"=some (.ref fa)):
  ∃fd:FuncData,(∀(s:jNc) (u:Value),BindsTo s fd ⟨[u],[]⟩ [("_law_script",u)])/\∀base:Heap,(K0 w.params).In base->base.Ns jKi mg->FnOk pw w (K0 w.params) mg base (cxx pw w) 13 fa fd ["_law_script"] (spM (K0 w.params) F_law 1):=by
 have y0:=fun (n:Str) (h:jJh (K0 w.params) jKi n=some none)=>PySem.W.mg_none_of X G h
 have y1:=fun (n:Str) (v:Value) (h:jJh (K0 w.params) jKi n=some (some v))=>PySem.W.mg_of X G h
 have e:=hfa.symm.trans (y1 "law" (.ref 483) (by kernel_rfl));cases e;have B:Bl mg:=⟨y0 "isinstance" (by kernel_rfl),y0 "int" (by kernel_rfl),y0 "bool" (by kernel_rfl),y0 "str" (by kernel_rfl),y0 "dict" (by kernel_rfl),y0 "list" (by kernel_rfl),y0 "tuple" (by kernel_rfl),y0 "len" (by kernel_rfl),y0 "sum" (by kernel_rfl),y0 "max" (by kernel_rfl),y0 "min" (by kernel_rfl),y0 "all" (by kernel_rfl),y0 "range" (by kernel_rfl),y0 "enumerate" (by kernel_rfl),y0 "zip" (by kernel_rfl)⟩
 have Gv:Gl0 (K0 w.params) mg:=⟨⟨_,y1 "SIGNS" (.str "abcdefghijklmnopqrstuvwxyzABCDEFGHIJKLMNOPQRSTUVWXYZ0123456789.,;:!?'\"()-/" 378) (by kernel_rfl)⟩,⟨_,y1 "MOST_SIGNS" (.int 40 389) (by kernel_rfl)⟩,⟨_,y1 "MOST_HEAD_WORDS" (.int 12 399) (by kernel_rfl)⟩,⟨_,y1 "MOST_PAIRS" (.int 200 401) (by kernel_rfl)⟩,⟨_,y1 "MOST_WORD_NOTES" (.int 3 403) (by kernel_rfl)⟩,⟨_,y1 "MOST_NOTE_WORDS" (.int 30 405) (by kernel_rfl)⟩,⟨_,y1 "MOST_ROWS" (.int 20 407) (by kernel_rfl)⟩,⟨_,y1 "MOST_CELLS" (.int 4 409) (by kernel_rfl)⟩,⟨_,y1 "MOST_CELL_WORDS" (.int 12 411) (by kernel_rfl)⟩,⟨_,y1 "MOST_BLOCKS" (.int 40 413) (by kernel_rfl)⟩,⟨_,y1 "MOST_NOTES" (.int 60 415) (by kernel_rfl)⟩⟩
 have R:RowC (K0 w.params) 104 24 101:=⟨⟨_,_,_,_,_,_,_,_,_,_,_,_,_,_,_,rfl⟩,by kernel_rfl,by kernel_rfl,by kernel_rfl,by kernel_rfl,by kernel_rfl,by kernel_rfl,by kernel_rfl,by kernel_rfl,by kernel_rfl⟩
 have EI:ErrI (K0 w.params) 104:=⟨by kernel_rfl,by kernel_rfl,by kernel_rfl,by kernel_rfl,by kernel_rfl,by kernel_rfl,by kernel_rfl,by kernel_rfl⟩
 have Cl:Cls (K0 w.params) mg:=⟨y0 "ValueError" (by kernel_rfl),24,104,101,85,61,116,37,49,73,152,140,128,y1 "SetError" (.ref 24) (by kernel_rfl),R,EI,by kernel_rfl,y1 "BadText" (.ref 104) (by kernel_rfl),by kernel_rfl,by kernel_rfl,⟨y1 "BadBlocks" (.ref 85) (by kernel_rfl),by kernel_rfl⟩,⟨y1 "BadBook" (.ref 61) (by kernel_rfl),by kernel_rfl⟩,⟨y1 "BadBreaks" (.ref 116) (by kernel_rfl),by kernel_rfl⟩,⟨y1 "BadFace" (.ref 37) (by kernel_rfl),by kernel_rfl⟩,⟨y1 "BadRules" (.ref 49) (by kernel_rfl),by kernel_rfl⟩,⟨y1 "BadWord" (.ref 73) (by kernel_rfl),by kernel_rfl⟩,⟨y1 "NoNote" (.ref 152) (by kernel_rfl),by kernel_rfl⟩,⟨y1 "NoPlace" (.ref 140) (by kernel_rfl),by kernel_rfl⟩,⟨y1 "TooWide" (.ref 128) (by kernel_rfl),by kernel_rfl⟩⟩
 have V:En (K0 w.params) mg:=⟨B,Gv,Cl⟩
 have Rw:∀base:Heap,RowI pw w (K0 w.params) mg base "BadText" 104 1 "no block that can be read begins at row ":=fun base=>⟨⟨24,101,_,R,z5g (k:=0) R (show (K0 w.params).lookup 101=some (iO 100 "quirehand.errors" 187) from by kernel_rfl) (by kernel_rfl) z3q (fun A outer s H E=>z4u R (y1 "SetError" (.ref 24) (by kernel_rfl))),.all fun us hl=>match us,hl with | [_,_],_=>rfl⟩,EI,by kernel_rfl,y1 "BadText" (.ref 104) (by kernel_rfl),by kernel_rfl⟩
 refine⟨fnOf "law" "law" (defArgs (top 81)) (defBody (top 81)) (defScope (top 81)) .none .none .none (.str lm8 598) none (.ref 482) .none,fun s v=>.of_eq rfl,fun base _ _=>?_⟩;have o7i:=dq "quirehand.faces" 376 "is_sign" 14 ["thing"] 161 160 X G;have o3e:=UW (P:=pw) (w:=w) (base:=base) o7i V 
 have o7j:=dq "quirehand.parting" 387 "is_word" 17 ["thing"] 166 165 X G;have ow:=Uw o7j V o3e;have ot:=dq "quirehand.blocks" 397 "is_tuple_of" 28 ["thing","least","most","is_part"] 171 170 X G;have o8a:=dq "quirehand.blocks" 397 "is_note" 29 ["thing"] 178 177 X G;have o4:=u3 ot V ow;have o1i:=Q8 o8a V o4;have o8b:=dq "quirehand.blocks" 397 "is_pair" 30 ["thing"] 185 184 X G;have oj:=vT ot V o1i;have o2a:=Q5 o8b V ow oj;have o8c:=dq "quirehand.blocks" 397 "is_cell" 31 ["thing"] 192 191 X G;have o1j:=UI o8c V o4;have o8f:=dq "quirehand.blocks" 397 "is_row" 32 ["thing"] 199 198 X G;have ol:=u4 ot V o1j;have o2f:=JQ o8f V ol;have o6i:=dq "quirehand.blocks" 397 "is_table" 33 ["thing"] 204 203 X G;have on:=um ot V o2f;have o2g:=VW o6i V on;have o6j:=dq "quirehand.blocks" 397 "is_block" 34 ["thing"] 211 210 X G;have om:=vW ot V o2a;have oy:=Vb o6j V o2g o4 om;have o5b:=dq "quirehand.blocks" 397 "many_notes" 35 ["block"] 216 215 X G;have oo:=X9 (P:=pw) (w:=w) (base:=base) o5b V 
 have o5c:=dq "quirehand.blocks" 397 "are_blocks" 36 ["thing"] 221 220 X G;have o0i:=X8 o5c V oy oo;have o4h:=dq "quirehand.blocks" 397 "need_blocks" 37 ["blocks"] 228 227 X G;have oh:=ZJ o4h V o0i;have o8d:=dq "quirehand.reading" 483 "runs_of" 39 ["text"] 235 234 X G;have o3f:=UQ (P:=pw) (w:=w) (base:=base) o8d V 
 have o7a:=dq "quirehand.reading" 483 "words_of" 40 ["row"] 240 239 X G;have og:=U8 (P:=pw) (w:=w) (base:=base) o7a V 
 have o4d:=dq "quirehand.reading" 483 "is_table_row" 41 ["row"] 247 246 X G;have o0c:=Zm (P:=pw) (w:=w) (base:=base) o4d V 
 have o7b:=dq "quirehand.reading" 483 "cells_of" 42 ["row"] 252 251 X G;have o2j:=Ub o7b V og;have o7c:=dq "quirehand.reading" 483 "word_end" 43 ["line","begin"] 259 258 X G;have o2h:=VC (P:=pw) (w:=w) (base:=base) o7c V 
 have o5d:=dq "quirehand.reading" 483 "blanks_end" 44 ["line","begin"] 266 265 X G;have o0j:=Xa (P:=pw) (w:=w) (base:=base) o5d V 
 have o7d:=dq "quirehand.reading" 483 "pairs_of" 45 ["line"] 273 272 X G;have o2i:=VQ o7d V o2h o0j og;have o7e:=dq "quirehand.reading" 483 "block_of" 46 ["rows"] 278 277 X G;have o3a:=Uc o7e V o2i og o0c o2j;have o8g:=dq "quirehand.reading" 483 "read" 47 ["text"] 285 284 X G;have o1g:=z26 (P:=pw) (w:=w) (base:=base) o8g V (Rw base) o3f o3a oo oy;have o6c:=dq "quirehand.writing" 565 "note_text" 49 ["note"] 292 291 X G;have o2b:=Wv (P:=pw) (w:=w) (base:=base) o6c V 
 have o6d:=dq "quirehand.writing" 565 "pair_text" 50 ["word","notes"] 297 296 X G;have o2c:=V4 o6d V o2b;have o7f:=dq "quirehand.writing" 565 "row_text" 51 ["row"] 302 301 X G;have o3b:=VU (P:=pw) (w:=w) (base:=base) o7f V 
 have o5e:=dq "quirehand.writing" 565 "block_text" 52 ["block"] 307 306 X G;have o1a:=YU o5e V o2c o3b;have o8e:=dq "quirehand.writing" 565 "written" 53 ["blocks"] 312 311 X G;have o3g:=UP o8e V oh o1a;have o4i:=dq lm8 598 "_law_number" 55 ["_law_script","_law_k"] 319 318 X G;have o6:=Yx (P:=pw) (w:=w) (base:=base) o4i V 
 have o6e:=dq lm8 598 "_law_next" 56 ["_law_number_here"] 326 325 X G;have o7:=WS (P:=pw) (w:=w) (base:=base) o6e V 
 have o6f:=dq lm8 598 "_law_word" 57 ["_law_number_here"] 333 332 X G;have ou:=Wn (P:=pw) (w:=w) (base:=base) o6f V 
 have o5f:=dq lm8 598 "_law_words" 58 ["_law_number_here","_law_least","_law_most"] 340 339 X G;have o8:=X5 o5f V o7 ou;have o5g:=dq lm8 598 "_law_pairs" 59 ["_law_number_here","_law_room"] 347 346 X G;have o1b:=X1 o5g V o7 ou o8;have o5h:=dq lm8 598 "_law_table" 60 ["_law_number_here"] 354 353 X G;have o1c:=YZ o5h V o7 o8;have o5i:=dq lm8 598 "_law_block" 61 ["_law_number_here","_law_room"] 361 360 X G;have o1d:=X4 o5i V o1b o8 o1c;have o4j:=dq lm8 598 "_law_blocks" 62 ["_law_script","_law_first"] 366 365 X G;have o0g:=Ys o4j V o6 o1d;have o4e:=dq lm8 598 "_law_text_of" 63 ["_law_block_here"] 371 370 X G;have o0e:=Zk (P:=pw) (w:=w) (base:=base) o4e V 
 have o6g:=dq lm8 598 "_law_sign" 64 ["_law_number_here"] 378 377 X G;have o2d:=WN (P:=pw) (w:=w) (base:=base) o6g V 
 have o4f:=dq lm8 598 "_law_changed" 65 ["_law_text","_law_number_here"] 385 384 X G;have o0d:=Zl o4f V o2d o7;have o5j:=dq lm8 598 "_law_bound" 66 ["_law_way","_law_more"] 392 391 X G;have o1e:=X2 (P:=pw) (w:=w) (base:=base) o5j V 
 have o6a:=dq lm8 598 "_law_drawn" 67 ["_law_script"] 399 398 X G;have o1h:=YR o6a V o6 o0g o0d o1e o0e;have o3i:=dq lm8 598 "_law_are_words" 68 ["_law_line","_law_least","_law_most"] 406 405 X G;have o5:=jP (P:=pw) (w:=w) (base:=base) o3i V 
 have o3j:=dq lm8 598 "_law_are_notes" 69 ["_law_line"] 413 412 X G;have o0a:=jt o3j V o5;have o4a:=dq lm8 598 "_law_word_ends" 70 ["_law_line"] 420 419 X G;have oz:=jy (P:=pw) (w:=w) (base:=base) o4a V 
 have o3d:=dq lm8 598 "_law_notes_of_text" 71 ["_law_line"] 427 426 X G;have oq:=uK o3d V oz o0a o5;have o4b:=dq lm8 598 "_law_is_table" 72 ["_law_rows"] 432 431 X G;have o0b:=kh o4b V o5;have o5a:=dq lm8 598 "_law_barred" 73 ["_law_rows"] 437 436 X G;have oi:=YK (P:=pw) (w:=w) (base:=base) o5a V 
 have o6b:=dq lm8 598 "_law_notes" 74 ["_law_rows"] 444 443 X G;have o1f:=X6 o6b V oi oq o5 o0b;have o6h:=dq lm8 598 "_law_runs" 75 ["_law_text"] 449 448 X G;have o2e:=Wj (P:=pw) (w:=w) (base:=base) o6h V 
 have o3h:=dq lm8 598 "_law_first_wrong" 76 ["_law_runs_here"] 456 455 X G;have ox:=qI o3h V o1f;have o4c:=dq lm8 598 "_law_line_put" 77 ["_law_line"] 461 460 X G;have o9:=jX (P:=pw) (w:=w) (base:=base) o4c V 
 have o4g:=dq lm8 598 "_law_row_put" 78 ["_law_row_here"] 466 465 X G;have o0f:=Zp o4g V o9;have o7g:=dq lm8 598 "_law_put" 79 ["_law_rows"] 471 470 X G;have o3c:=Va o7g V oi o0f o9;have o7h:=dq lm8 598 "_law_row" 80 ["_law_text"] 478 477 X G;have o0h:=Ua o7h V o1g;exact z56 (show (K0 w.params).lookup 483=some (fO "law" 81 482 lm8 598) from by kernel_rfl) (show codeIn (K0 w.params) (.ref 482) "law"=true from by kernel_rfl) sc_law (by decide) (z18 V (Rw base) o1h o2e ox o6 o1g o0h o3g oh o3c)
end K08
end
open PySem PySem.W PyProof.Rows L2
set_option maxRecDepth 100000 in
set_option maxHeartbeats 0 in
theorem PySem.Challenge.cw_quirehand_k08_whole_texts_read_or_refuse_holds : PySem.Challenge.rw_quirehand_k08_whole_texts_read_or_refuse.Holds := by
 w_on;o_law
 refine PySem.W.holds_open (q:=K08.q0) (loose:=[]) (Xt:=K08.X0) (XP:=XL K08.q0 []) (Yf:=K08.Y0) (Ya:=K08.A0) (YP:=InK K08.K0) (N:=8260) K08.left0 (InK.of K08.as_eq) InK.keeps (fun s e=>xl_of s (K08.xl1 s e).1) XL.keeps (by rfl) (by rfl) (by rfl) (fun s e=>recFacts_of (K08.xl1 s e).2) (by rfl) (by first|assumption|decide +kernel) (by decide +kernel) ⟨rfl,rfl,rfl,rfl,rfl,by decide +kernel⟩ ?hw ?hc
 case hw=>w_witness2
 case hc=>exact L2.law_walk (l:=PySem.Challenge.rw_quirehand_k08_whole_texts_read_or_refuse) (Fm:=K08.F_law) (k:=13) (x:="_law_script") K08.law_true ⟨rfl,by decide,by decide⟩ rfl rfl (fun w h Y=>Y) K08.facts
