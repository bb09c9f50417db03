import PyProof.Rows.All
import Wide.All
import OpenK.AllK
import Wide.FinOn
import Lean
import PyProof.EqAt
import PyProof.EqKinds
import PyProof.TupleCall
import PyProof.ZipIter
import KE.KDictSum
import PyProof.Rows.SortStr
import PyProof.Rows.TupAdd
import PyProof.TupleOfGen
import PySem.Challenge.RW_quirehand_k20_rows_of_blocks
set_option Elab.async false
set_option linter.all false
set_option maxRecDepth 100000
set_option maxHeartbeats 4000000
set_option bootstrap.genMatcherCode false
set_option genSizeOfSpec false
set_option compiler.extract_closed false
noncomputable section
open PySem.Heap renaming get?_push_of_some->jYb,lt_size->jYc,get?_push_size->jYd
open Option.some renaming inj->jYe
open PySem renaming wpAny_Call_Name_kw->jYf,wpAny_setField_rec->jYg,foldedSetIterable->jYh,wpAny_newObj_type->jYi,wpAny_truthy_bool->jYj,wpAny_call_entry->jYk,wpAny_execs_cons->jKa,codeAny_builtin->jKb,wpAny_execs_nil->jKc,wpAny_loadPart'->jKd,wpAny_passesOwn->jKe,wpAny_seqItems->jKf,attributeBase->jKg,plainId_quiet->jKh,wpAny_holding->jKi,wpAny_standAt->jKj,bootBuiltins->jKk,keywordEach->jMa,mainGlobals->jMb,sizeLine_eq->jMc,wpAny_field->jMd,assignEach->jMe,wpAny_bind->jMf,wpAny_mono->jMg,wpAny_pure->jMh,compareOp->jMi,swapsWith->jMj,PassesOwn->jMk,backToKw->jNa,sizeLine->jNb,starEach->jNc,Keyword->jNd,Program->jNe,Around->jNf,Shared->jNg,backTo->jNh,wpAny->jNi
open PySem.W renaming Frag->jJa,kia_one->jJb,fnOf->jJc,exmOne->jJd,keepIn->jJe,kitOne->jJf,codeIn->jJg,nsIn->jJh,instObj->jJi,methodObj->jJj,lookIn->jJk,kitx_list->jJm,callWith_K->jJn,cellsFrom_some->jJo,mg_of->jJp,keq_eq->jJq,hideAll_get->jJs,of_hideAll->jJt,kitx_tuple->jJw,codeRec_of->jJy
open PySem.F renaming plainAttrs_str->jQs,plain_max_loop->jQt,slot_str_join->jQu,type_str_join->jQv,slot_dict_get->jQw,plainAttrs_list->jQx,slot_tuple_add->jQy,entry_tuple_add->jQz,args_tuple_add_2->jQ0,entry_dict_get->jQ1,args_dict_get_3->jQ2,slot_list_append->jQ3,type_list_append->jQ4,entry_max_loop->jQ5,slot_list_eq->jQ6,slot_str_find->jQ7,type_str_find->jQ8
open List renaming mem_append_right -> tD, mem_cons_self -> tE, mem_cons_of_mem -> tF, getElem?_eq_getElem -> tG, length_map -> tH, getElem?_eq_some_iff -> tJ, mem_cons -> tK, mem_append_left -> tL, size_toArray -> tM, getElem?_map -> tN, map_cons -> tO, append_nil -> tQ, length_cons -> tR, mem_append -> tS, lookup_cons -> tT, length_append -> tV, mem_map -> tW, nodup_append -> tX, getElem?_set_ne -> tY, getElem?_set_self -> tZ, length_set -> sD, nodup_cons -> sF, mem_singleton -> sI, not_mem_nil -> sJ, filterMap_cons -> sL, getD_eq_getElem?_getD -> sN, getElem?_cons_succ -> sO, getElem?_append_left -> sP, drop_eq_getElem_cons -> sQ, getElem_mem -> sR, append_assoc -> sS, length_singleton -> sT, getElem?_append_right -> sU, replicate_succ -> sV, getElem?_eq_none -> sZ, mem_filterMap -> rA, length_replicate -> rB, map_map -> rC, sublist_append_right -> rE, mem_of_getElem? -> rF, getElem?_take_of_lt -> rG, flatten_cons -> rH, length_take -> rJ, all_eq_true -> rK, eq_nil_of_length_eq_zero -> rM, nodup_nil -> rN, length_nil -> rO, find?_cons -> rP, forIn_cons -> rQ, map_append -> rR, mem_range -> rS, nil_sublist -> rV, getElem?_range -> rW, getElem?_replicate -> pA, length_eq_zero_iff -> pC, countP_append -> pE, sublist_nil -> pK
open Nat renaming le_refl -> tI, ne_of_lt -> tU, lt_of_lt_of_le -> sC, le_trans -> sE, lt_irrefl -> sW, lt_succ_of_lt -> sX, zero_le -> rD, ne_of_gt -> rY, le_succ -> pG, le_of_lt -> pJ
open Bool renaming false_ne_true -> tP, and_eq_true -> sG, noConfusion -> rL, false_eq_true -> pB, or_eq_true -> pD, and_false -> pH
open Option renaming map_eq_some_iff -> sM, bind_eq_some_iff -> rZ, map_some -> pL
open Int renaming toNat_of_nonneg -> sY, le_refl -> rX, toNat_natCast -> pF
theorem jNk {c:Prop}{h:Decidable c}(x:c){α:Sort u}{a b:α}:ite c a b=a:=if_pos x
theorem jPa {c:Prop}{h:Decidable c}(x:¬c){α:Sort u}{a b:α}:ite c a b=b:=if_neg x
namespace L2
open PySem PySem.Spec PyProof.Rows
def au0 (h:True:=by first|exact .inl rfl|exact .inr rfl|assumption):True:=trivial
def au1 (h:True:=by decide):True:=trivial
def au2 (h:True:=by intro _;rfl):True:=trivial
def au3 (h:True:=by rfl):True:=trivial
def au4 (h:True:=by with_unfolding_all rfl):True:=trivial
def au5 (h:True:=by exact fun _ _=>rfl):True:=trivial
def au6 (h:True:=by simp):True:=trivial
def au7 (h:True:=by first|exact Or.inl rfl|exact Or.inr (Or.inl rfl)|exact Or.inr (Or.inr rfl)):True:=trivial
def au8 (h:True:=by first|exact Or.inl rfl|exact Or.inr rfl):True:=trivial
def au9 (h:True:=by size_fits):True:=trivial
def au10 (h:True:=by exact rfl):True:=trivial
def au11 (h:True:=by first|omega|(simp only[tH,yz];omega)):True:=trivial
def au12 (h:True:=by omega):True:=trivial
def au13 (h:True:=by constructor<;>first|rfl|decide +kernel):True:=trivial
def au14 (h:True:=by first|exact WR|exact Q0):True:=trivial
def au15 (h:True:=by decide +kernel):True:=trivial
def au16 (h:True:=by exact zI _):True:=trivial
def au17 (h:True:=by simp only[tR,rO];omega):True:=trivial
def au18 (h:True:=by intro _ _ _ _ _ _ us hl;rcases us with _|⟨_,_|⟨_,_|⟨_,_|⟨_,_|⟨_,_|⟨_,_|⟨_,us⟩⟩⟩⟩⟩⟩⟩<;>first|rfl|cases hl):True:=trivial
def au19 (h:True:=by kernel_rfl):True:=trivial
def defArgs (s:Stmt):Arguments:=match s with
 | .FunctionDef _ a _ _ _ _ _ _ _ _=>a
 | _=>{ posonlyargs:=[],args:=[],vararg:=none,kwonlyargs:=[],kw_defaults:=[],kwarg:=none,defaults:=[] }
def defBody (s:Stmt):List Stmt:=match s with
 | .FunctionDef _ _ b _ _ _ _ _ _ _=>b
 | _=>[]
def defScope (s:Stmt):Scope:=match s with
 | .FunctionDef _ _ _ _ _ _ sc _ _ _=>sc
 | _=>{ kind:=.function,names:=[],isGenerator:=false,isCoroutine:=false }
end L2
namespace HW
open PySem PySem.W
def uF {α:Type}:List α->List α
 | a::_::r=>a::uF r
 | l=>l
def Zu {α:Type}:List α->List α
 | _::b::r=>b::Zu r
 | _=>[]
theorem Yr {α:Type}:∀(l:List α) (k:Nat),(uF l)[k]?=l[2*k]?
 | [],k=>by simp[uF]
 | [a],k=>by cases k<;>simp[uF]
 | a::b::r,0=>by simp[uF]
 | a::b::r,k+1=>by
  have ih:=Yr r k;show (a::uF r)[k+1]?=_;rw[sO,ih,show 2*(k+1)=2*k+1+1 by omega,sO,sO]
theorem XZ {α:Type}:∀(l:List α) (k:Nat),(Zu l)[k]?=l[2*k+1]?
 | [],k=>by simp[Zu]
 | [a],k=>by simp[Zu]
 | a::b::r,0=>by simp[Zu]
 | a::b::r,k+1=>by
  have ih:=XZ r k;show (b::Zu r)[k+1]?=_;rw[sO,ih,show 2*(k+1)+1=2*k+1+1+1 by omega,sO,sO]
theorem ZO {α:Type}:∀l:List α,(uF l).length<=l.length
 | []=>tI _
 | [_]=>tI _
 | a::b::r=>by show (uF r).length+1<=r.length+1+1;have:=ZO r;omega
theorem XA {α:Type}:∀l:List α,(Zu l).length<=l.length
 | []=>tI _
 | [_]=>rD _
 | a::b::r=>by show (Zu r).length+1<=r.length+1+1;have:=XA r;omega
def tr:Nat->List Obj->BT
 | n+1,o::l=>.node o (tr n (uF l)) (tr n (Zu l))
 | _,_=>.nil
theorem Vf:∀(n:Nat) (l:List Obj),l.length<=n->∀i,(tr n l).get i=l[i]?
 | 0,[],_,i=>by simp[tr,BT.get]
 | 0,_::_,h,_=>by cases h
 | n+1,[],_,i=>by simp[tr,BT.get]
 | n+1,o::l,h,i=>by
  have hl:l.length<=n:=by simpa using h
  show (BT.node o (tr n (uF l)) (tr n (Zu l))).get i=_;rw[BT.get_node]
  by_cases h0:i=0
  ·subst h0;rfl
  ·rw[jPa h0]
   by_cases h1:i%2=1
   ·rw[jNk h1,Vf n _ (sE (ZO l) hl),Yr];obtain⟨k,rfl⟩:∃k,i=2*k+1:=⟨i/2,by omega⟩
    rw[show (2*k+1)/2=k by omega,sO]
   ·rw[jPa h1,Vf n _ (sE (XA l) hl),XZ];obtain⟨k,rfl⟩:∃k,i=2*k+1+1:=⟨i/2-1,by omega⟩
    rw[show (2*k+1+1)/2-1=k by omega,sO]
def z1b (l:List Obj):(tr l.length l).list l.length=l:=by
 unfold BT.list;refine List.ext_getElem? fun i=>?_;rw[tN]
 by_cases h:i<l.length
 ·rw[rW h,pL,Vf _ _ (tI _),tG h];rfl
 ·rw[sZ (by rw[List.length_range];omega),sZ (by omega)];rfl
def asT (s:jNg):SharedT:=⟨tr s.heap.objs.toList.length s.heap.objs.toList,s.heap.objs.toList.length,s.heap.life,s.gens,s.drawn,s.toks,s.os⟩
def z14 (s:jNg):(asT s).abs=s:=by
 obtain⟨⟨⟨l⟩,life⟩,gens,drawn,toks,os⟩:=s;show (⟨⟨((tr l.length l).list l.length).toArray,life⟩,gens,drawn,toks,os⟩:jNg)=_;rw[z1b]
def env0 (p:jNe):Env:={ scope:=p.main.scope,locals:=mainNs,globals:=mainNs,cells:=[],code:=.ref 13,frame:=some 14 }
def p0:Pos:=⟨0,0,0,0⟩
def Zf (p:jNe):Code:=.body (behindTheImports p) (env0 p)
def runAll (p q:jNe)(loose:List Str)(Xt:jNg->Bool){α:Type}(Yf:jNg->α)(n1:Nat)(w:World)(os:OsState):=
 (Fast.tw15667345088766844465 Fast.tw14364793385576792824 p w 11 (some (.ref 6)) 12 ⟨boot_heap w.params,Array.mk [],boot_drawn,boot_toks,os⟩ (topStub p)).bind fun a =>
 (Fast.tw14374325043358763698 Fast.tw14364793385576792824 p w 11 (some (.ref 6)) 1 1 a.1 (blockOf (behindTheImports p) (env0 p) (Zf p) p0 [topFrame p0])).bind fun b =>
 (Fast.tw10110043849684766642 Fast.tw14364793385576792824 p w 11 (some (.ref 6)) 1 n1 (asT b.2.1) (piecesOf (behindTheImports p) (env0 p) (Zf p) b.2.2.2 [topFrame p0])).bind fun c =>
 (Fast.tw14082659384304107361 Fast.tw14364793385576792824 p w 11 (some (.ref 6)) 2 c.2.1.abs ⟨doneF .next,Zf p,c.2.2.2,[topFrame p0]⟩).map fun s =>
  (a.2,(b.1,b.2.2.1),(c.1,c.2.2.1),(staticsOk (Fast.tw5923862056798008813 p.main.body) (boot_heap w.params) s.heap&&namesBound p s.heap&&gensDone s&&laidKept (boot_heap w.params) s.heap),Fast.tw4187177175401517315 q loose (Fast.tw5923862056798008813 p.main.body) Xt true s,Yf s)
section
variable (p q:jNe)(loose:List Str)(Xt:jNg->Bool){α:Type}(Yf:jNg->α)(Ya:World->α)(n1:Nat)
def Pa:Prop:=∀w os,(runAll p q loose Xt Yf n1 w os).map (fun r=>(r.1,r.2.1,r.2.2.1,r.2.2.2.1,r.2.2.2.2.2))=some (⟨Fast.tw11892475500146522536 Fast.tw14364793385576792824 (Zf p),Zf p,p0,[topFrame p0]⟩,(.next,Zf p),(.next,Zf p),true,Ya w)
def Pb:Prop:=∀w os,(runAll p q loose Xt Yf n1 w os).map (fun r=>(r.2.2.2.2.1.1,r.2.2.2.2.1.2.1))=some (PyProof.Rows.expectedOf q,bltViewBooted)
def Pc:Prop:=∀w os,(runAll p q loose Xt Yf n1 w os).map (fun r=>r.2.2.2.2.1.2.2.1)=some true
def Pd:Prop:=∀w os,(runAll p q loose Xt Yf n1 w os).map (fun r=>(r.2.2.2.2.1.2.2.2.1,r.2.2.2.2.1.2.2.2.2.1))=some (true,pinGoodD (PyProof.Rows.drecsOf q))
def Pe:Prop:=∀w os,(runAll p q loose Xt Yf n1 w os).map (fun r=>r.2.2.2.2.1.2.2.2.2.2.1)=some (PyProof.Rows.plainGoodE q (looseW q loose))
def Pf:Prop:=∀w os,(runAll p q loose Xt Yf n1 w os).map (fun r=>r.2.2.2.2.1.2.2.2.2.2.2)=some (PyProof.Rows.plainGoodD q loose,wideGood q,clsGoodW q loose)
end
def left_of {Xt:jNg->Bool}{n1 N:Nat}
  (e:opening p=plainProg p.main.scope.names) (hN:Nat.ble 600 N=true) (f:∀s,fenceModules? p s=some s)
  (size:∀w:World,((boot_heap w.params).isNs jMb&&(Array.mk []:Array GenState).size==0,(boot_heap w.params).objs.size,(boot_heap w.params).nsMap jMb "__annotations__")=(true,11,some (.ref 6)))
  (le:Nat.ble (12+(1+(n1+2))) N=true)
  (ha:Pa p q loose Xt Yf Ya n1) (hb:Pb p q loose Xt Yf n1) (hc:Pc p q loose Xt Yf n1) (hd:Pd p q loose Xt Yf n1) (he:Pe p q loose Xt Yf n1) (hf:Pf p q loose Xt Yf n1):LeftO p q loose Xt Yf Ya N:=fun w=>by
 obtain⟨⟨hp,gn,dr,tk,os⟩,op,same⟩:=sM.mp (boot_open e hN f w);simp only[Prod.mk.injEq]at same;obtain⟨rfl,rfl,rfl,rfl⟩:=same;have sz:=size w;simp only[Prod.mk.injEq]at sz;obtain⟨⟨r1,r2,r3,r4,⟨s1,s2,s3,s4,s5,s6,s7⟩,r6⟩,hr,e1⟩:=sM.mp (ha w os);have e2:=hb w os;have e3:=hc w os;have e4:=hd w os;have e5:=he w os;have e6:=hf w os;rw[hr]at e2 e3 e4 e5 e6;simp only[pL,Option.some.injEq,Prod.mk.injEq]at e1 e2 e3 e4 e5 e6;obtain⟨rfl,rfl,rfl,rfl,rfl⟩:=e1;obtain⟨rfl,rfl⟩:=e2;obtain rfl:=e3;obtain⟨rfl,rfl⟩:=e4;obtain rfl:=e5;subst e6;unfold runAll at hr;rw[<-Fast.te15667345088766844465,<-Fast.te14364793385576792824,<-Fast.te14374325043358763698,<-Fast.te10110043849684766642,<-Fast.te5923862056798008813,<-Fast.te4187177175401517315,<-Fast.te14082659384304107361,<-Fast.te11892475500146522536]at hr;obtain⟨⟨sa,ta⟩,ha,hr⟩:=rZ.mp hr;obtain⟨⟨fb,sb,cb,pb⟩,hb,hr⟩:=rZ.mp hr;obtain⟨⟨fc,sc,cc,pc⟩,hc,hr⟩:=rZ.mp hr;obtain⟨s1,hd,hr⟩:=sM.mp hr;simp only[Prod.mk.injEq]at hr;obtain⟨rfl,⟨rfl,rfl⟩,⟨rfl,rfl⟩,good,seen,z2a⟩:=hr;dsimp only at hb hc hd;have hc2:=segRun_of hc;rw[z14]at hc2;have whole:=piece_app (rest:=[]) hc2 (piece_nil hd);rw[tQ]at whole;have run:=topRun_mono (N-(12+(1+(n1+2)))) _ _ _ _ (go_top ha (piece_block hb whole));have eN:12+(1+(n1+2))+(N-(12+(1+(n1+2))))=N:=by have z:=Nat.le_of_ble_eq_true le;omega
 rw[eN]at run;have WE:topFrom treeTable p w N ⟨boot_heap w.params,Array.mk [],boot_drawn,boot_toks,os⟩=some s1:=by
  show (match (boot_heap w.params).isNs jMb&&(Array.mk []:Array GenState).size==0 with|true=>_|false=>_)=_;rw[sz.1,sz.2.1,sz.2.2];show Option.bind (topRun treeTable p w 11 (some (.ref 6)) N _ _) _=_;rw[run];show (match (_:Bool)with|true=>some s1|false=>none)=_;rw[good]
 have both:openEnds treeTable p w N=some s1:=by unfold openEnds;rw[op];exact WE
 rw[both,pL,seen,z2a];rfl
end HW
namespace K20
open PySem PySem.Spec PyProof.Rows
def top (i:Nat):Stmt:=PySem.Challenge.pw_quirehand_k20_rows_of_blocks.main.body.getD i (.Pass ⟨0,0,0,0⟩)
open PySem PySem.W PyProof.Rows
def e (P:Params)(k:Str)(t:Nat)(v:Value):DictEntry:={ hash:=PyData.keyHash P k,key:=.str k t,val:=v }
def dO (v:Array DictEntry)(n:Nat):Obj:={ cls:=.type "dict",data:=.dict v n }
noncomputable def cO (n:Str)(t l a f r k:Nat):Obj:={ cls:=.type "code",data:=.fields #[.str n t,.str n (t+1),.str "/claim/cut.py" (t+2),.int l 0,.int a 0,.int 0 0,.int 0 0,.int f 0,.ref r,.bool true,.int 181 0,.ref (r+1),.none,.ref (r+2),.ref (r+3),.ref (r+4),.int k 0,.int l 0,.str "/claim/cut.py" (k+1)] }
noncomputable def cN (n:Str)(t l a r:Nat):Obj:={ cls:=.type "code",data:=.fields #[.str n t,.str n (t+1),.str "/claim/cut.py" (t+2),.int l 0,.int a 0,.int 0 0,.int 0 0,.int 3 0,.ref r,.bool true,.int 181 0,.ref (r+1),.none,.none,.none,.ref (r+2),.int (t+3) 0,.int l 0,.str "/claim/cut.py" (t+4)] }
def fO (n:Str)(i c:Nat)(m:Str)(t:Nat):Obj:=⟨.type "function",none,.func (fnOf n n (L2.defArgs (top i)) (L2.defBody (top i)) (L2.defScope (top i)) .none .none .none (.str m t) none (.ref c) .none),#[]⟩
noncomputable def K0 (P:Params):Frag:=[
 (3,dO #[e P "__name__" 165 (.str "law_quirehand_k20_rows_of_blocks" 768),e P "__doc__" 166 .none,e P "__package__" 167 .none,e P "__loader__" 168 (.builtin "__main__.__loader__#opaque"),e P "__spec__" 169 .none,e P "__annotations__" 170 (.ref 6),e P "__builtins__" 171 (.ref 4),e P "__file__" 173 (.str "/claim/cut.py" 172),e P "__cached__" 174 .none,e P "SetError" 206 (.ref 24),e P "BadWord" 222 (.ref 37),e P "TooWide" 238 (.ref 49),e P "ends_parted" 248 (.ref 58),e P "dash_behind" 257 (.ref 65),e P "blank_behind" 266 (.ref 72),e P "natural" 272 (.ref 77),e P "cost_at" 285 (.ref 84),e P "lines_from" 298 (.ref 91),e P "ways_from" 314 (.ref 98),e P "prices" 320 (.ref 103),e P "broken" 326 (.ref 108),e P "SIGNS" 330 (.str "abcdefghijklmnopqrstuvwxyzABCDEFGHIJKLMNOPQRSTUVWXYZ0123456789.,;:!?'\"()-/" 329),e P "is_sign" 337 (.ref 115),e P "wide" 343 (.ref 120),e P "word_widths" 351 (.ref 125),e P "fill" 365 (.ref 132),e P "filled_rows" 374 (.ref 139),e P "go_in" 380 (.ref 144),e P "least_width" 386 (.ref 149),e P "between" 395 (.ref 156),e P "column_cells" 401 (.ref 161),e P "most_lines" 407 (.ref 166),e P "columns" 413 (.ref 171),e P "set_row" 430 (.ref 178),e P "notes_of" 442 (.ref 185),e P "tail_of" 448 (.ref 190),e P "text_pairs" 460 (.ref 197),e P "pairs_of" 466 (.ref 202),e P "noted" 476 (.ref 209),e P "note_pairs" 482 (.ref 214),e P "SMALL" 486 (.str "abcdefghijklmnopqrstuvwxyz" 485),e P "mark_at" 493 (.ref 221),e P "letters_of" 500 (.ref 228),e P "fits" 511 (.ref 235),e P "rank" 518 (.ref 242),e P "telling" 529 (.ref 249),e P "MOST_SIGNS" 533 (.int 40 532),e P "is_word" 539 (.ref 254),e P "need_word" 546 (.ref 261),e P "is_letter" 553 (.ref 268),e P "letters_ahead" 562 (.ref 275),e P "letters_behind" 571 (.ref 282),e P "may_part" 582 (.ref 289),e P "is_soft" 590 (.ref 296),e P "join_at" 600 (.ref 303),e P "joints_within" 606 (.ref 308),e P "places" 612 (.ref 313),e P "parted" 625 (.ref 320),e P "lay_of" 635 (.ref 327),e P "pieces_of" 651 (.ref 334),e P "runs_of" 666 (.ref 341),e P "spare_of" 676 (.ref 348),e P "shares" 682 (.ref 353),e P "spread" 698 (.ref 360),e P "marks_of" 706 (.ref 365),e P "words_in" 712 (.ref 370),e P "line_rows" 718 (.ref 375),e P "table_rows" 731 (.ref 382),e P "block_rows" 742 (.ref 389),e P "rows_of" 754 (.ref 396),e P "note_rows" 767 (.ref 403),e P "_law_cell_at" 777 (.ref 410),e P "_law_letter" 785 (.ref 417),e P "_law_word" 791 (.ref 422),e P "_law_words" 797 (.ref 427),e P "_law_text" 812 (.ref 434),e P "_law_table" 818 (.ref 439),e P "_law_block" 828 (.ref 446),e P "_law_blocks" 842 (.ref 453),e P "_law_face" 848 (.ref 458),e P "_law_joints" 854 (.ref 463),e P "_law_rules" 864 (.ref 470),e P "_law_line_rows" 870 (.ref 475),e P "_law_table_rows" 884 (.ref 482),e P "_law_told" 895 (.ref 489),e P "_law_due" 901 (.ref 494),e P "_law_right" 907 (.ref 499),e P "law" 913 (.ref 504)] 88),
 (23,dO #[e P "__module__" 196 (.str "quirehand.errors" 187),e P "__firstlineno__" 200 (.int 2 199),e P "__static_attributes__" 201 (.ref 22),e P "__weakref__" 203 (.ref 25),e P "__doc__" 204 .none] 3),
 (24,{ cls:=.type "type",data:=.cls { name:="SetError",bases:=[.type "ValueError"],mro:=[.ref 24,.type "ValueError",.type "Exception",.type "BaseException",.type "object"],ns:=23,qualname:="SetError",subclasses:=[.ref 37,.ref 49] },slots:=#[some (.ref 15),none,some (.str "SetError" 189),some (.str "SetError" 197),some (.builtin "ValueError.__new__"),some (.bool true)] }),
 (36,dO #[e P "__module__" 214 (.str "quirehand.errors" 187),e P "__firstlineno__" 218 (.int 4 217),e P "__static_attributes__" 219 (.ref 35),e P "__doc__" 220 .none] 2),
 (37,{ cls:=.type "type",data:=.cls { name:="BadWord",bases:=[.ref 24],mro:=[.ref 37,.ref 24,.type "ValueError",.type "Exception",.type "BaseException",.type "object"],ns:=36,qualname:="BadWord" },slots:=#[some (.ref 28),none,some (.str "BadWord" 207),some (.str "BadWord" 215),some (.builtin "ValueError.__new__"),some (.bool true)] }),
 (48,dO #[e P "__module__" 230 (.str "quirehand.errors" 187),e P "__firstlineno__" 234 (.int 6 233),e P "__static_attributes__" 235 (.ref 47),e P "__doc__" 236 .none] 2),
 (49,{ cls:=.type "type",data:=.cls { name:="TooWide",bases:=[.ref 24],mro:=[.ref 49,.ref 24,.type "ValueError",.type "Exception",.type "BaseException",.type "object"],ns:=48,qualname:="TooWide" },slots:=#[some (.ref 40),none,some (.str "TooWide" 223),some (.str "TooWide" 231),some (.builtin "ValueError.__new__"),some (.bool true)] }),
 (57,cO "ends_parted" 241 9 2 3 52 246),
 (58,fO "ends_parted" 5 57 "quirehand.lines" 239),
 (64,cO "dash_behind" 249 11 3 3 59 255),
 (65,fO "dash_behind" 6 64 "quirehand.lines" 239),
 (71,cO "blank_behind" 258 13 3 3 66 264),
 (72,fO "blank_behind" 7 71 "quirehand.lines" 239),
 (76,cN "natural" 267 15 4 73),
 (77,fO "natural" 8 76 "quirehand.lines" 239),
 (83,cO "cost_at" 273 19 5 3 78 283),
 (84,fO "cost_at" 9 83 "quirehand.lines" 239),
 (90,cO "lines_from" 286 29 3 3 85 296),
 (91,fO "lines_from" 10 90 "quirehand.lines" 239),
 (97,cO "ways_from" 301 42 4 3 92 312),
 (98,fO "ways_from" 12 97 "quirehand.breaking" 299),
 (102,cN "prices" 315 52 2 99),
 (103,fO "prices" 13 102 "quirehand.breaking" 299),
 (107,cN "broken" 321 58 2 104),
 (108,fO "broken" 14 107 "quirehand.breaking" 299),
 (114,cO "is_sign" 331 71 1 3 109 335),
 (115,fO "is_sign" 17 114 "quirehand.faces" 327),
 (119,cN "wide" 338 73 2 116),
 (120,fO "wide" 18 119 "quirehand.faces" 327),
 (124,cN "word_widths" 346 78 2 121),
 (125,fO "word_widths" 20 124 "quirehand.cells" 344),
 (131,cO "fill" 352 80 3 3 126 363),
 (132,fO "fill" 21 131 "quirehand.cells" 344),
 (138,cO "filled_rows" 366 92 3 3 133 372),
 (139,fO "filled_rows" 22 138 "quirehand.cells" 344),
 (143,cN "go_in" 375 94 4 140),
 (144,fO "go_in" 23 143 "quirehand.cells" 344),
 (148,cN "least_width" 381 96 3 145),
 (149,fO "least_width" 24 148 "quirehand.cells" 344),
 (155,cO "between" 389 108 1 3 150 393),
 (156,fO "between" 26 155 "quirehand.columns" 387),
 (160,cN "column_cells" 396 110 1 157),
 (161,fO "column_cells" 27 160 "quirehand.columns" 387),
 (165,cN "most_lines" 402 112 1 162),
 (166,fO "most_lines" 28 165 "quirehand.columns" 387),
 (170,cN "columns" 408 114 3 167),
 (171,fO "columns" 29 170 "quirehand.columns" 387),
 (177,cO "set_row" 414 122 3 3 172 428),
 (178,fO "set_row" 30 177 "quirehand.columns" 387),
 (184,cO "notes_of" 433 134 1 3 179 440),
 (185,fO "notes_of" 32 184 "quirehand.marks" 431),
 (189,cN "tail_of" 443 140 2 186),
 (190,fO "tail_of" 33 189 "quirehand.marks" 431),
 (196,cO "text_pairs" 449 142 2 3 191 458),
 (197,fO "text_pairs" 34 196 "quirehand.marks" 431),
 (201,cN "pairs_of" 461 149 2 198),
 (202,fO "pairs_of" 35 201 "quirehand.marks" 431),
 (208,cO "noted" 467 155 1 3 203 474),
 (209,fO "noted" 36 208 "quirehand.marks" 431),
 (213,cN "note_pairs" 477 162 2 210),
 (214,fO "note_pairs" 37 213 "quirehand.marks" 431),
 (220,cO "mark_at" 487 166 1 3 215 491),
 (221,fO "mark_at" 40 220 "quirehand.joints" 483),
 (227,cO "letters_of" 494 168 1 3 222 498),
 (228,fO "letters_of" 41 227 "quirehand.joints" 483),
 (234,cO "fits" 501 170 3 3 229 509),
 (235,fO "fits" 42 234 "quirehand.joints" 483),
 (241,cO "rank" 512 174 1 3 236 516),
 (242,fO "rank" 43 241 "quirehand.joints" 483),
 (248,cO "telling" 519 176 3 3 243 527),
 (249,fO "telling" 44 248 "quirehand.joints" 483),
 (253,cN "is_word" 534 184 1 250),
 (254,fO "is_word" 47 253 "quirehand.parting" 530),
 (260,cO "need_word" 540 188 1 3 255 544),
 (261,fO "need_word" 48 260 "quirehand.parting" 530),
 (267,cO "is_letter" 547 192 1 3 262 551),
 (268,fO "is_letter" 49 267 "quirehand.parting" 530),
 (274,cO "letters_ahead" 554 194 2 3 269 560),
 (275,fO "letters_ahead" 50 274 "quirehand.parting" 530),
 (281,cO "letters_behind" 563 199 2 3 276 569),
 (282,fO "letters_behind" 51 281 "quirehand.parting" 530),
 (288,cO "may_part" 572 204 4 3 283 580),
 (289,fO "may_part" 52 288 "quirehand.parting" 530),
 (295,cO "is_soft" 583 209 2 3 290 588),
 (296,fO "is_soft" 53 295 "quirehand.parting" 530),
 (302,cO "join_at" 591 213 4 3 297 598),
 (303,fO "join_at" 54 302 "quirehand.parting" 530),
 (307,cN "joints_within" 601 219 2 304),
 (308,fO "joints_within" 55 307 "quirehand.parting" 530),
 (312,cN "places" 607 222 3 309),
 (313,fO "places" 56 312 "quirehand.parting" 530),
 (319,cO "parted" 613 227 3 3 314 623),
 (320,fO "parted" 57 319 "quirehand.parting" 530),
 (326,cO "lay_of" 628 236 2 3 321 633),
 (327,fO "lay_of" 59 326 "quirehand.pieces" 626),
 (333,cO "pieces_of" 636 238 4 3 328 649),
 (334,fO "pieces_of" 60 333 "quirehand.pieces" 626),
 (340,cO "runs_of" 654 246 3 3 335 664),
 (341,fO "runs_of" 62 340 "quirehand.spreading" 652),
 (347,cO "spare_of" 667 260 4 3 342 674),
 (348,fO "spare_of" 63 347 "quirehand.spreading" 652),
 (352,cN "shares" 677 264 2 349),
 (353,fO "shares" 64 352 "quirehand.spreading" 652),
 (359,cO "spread" 683 266 4 3 354 696),
 (360,fO "spread" 65 359 "quirehand.spreading" 652),
 (364,cN "marks_of" 701 277 1 361),
 (365,fO "marks_of" 67 364 "quirehand.rowing" 699),
 (369,cN "words_in" 707 281 3 366),
 (370,fO "words_in" 68 369 "quirehand.rowing" 699),
 (374,cN "line_rows" 713 283 4 371),
 (375,fO "line_rows" 69 374 "quirehand.rowing" 699),
 (381,cO "table_rows" 719 294 3 3 376 729),
 (382,fO "table_rows" 70 381 "quirehand.rowing" 699),
 (388,cO "block_rows" 732 301 5 3 383 740),
 (389,fO "block_rows" 71 388 "quirehand.rowing" 699),
 (395,cO "rows_of" 743 305 5 3 390 752),
 (396,fO "rows_of" 72 395 "quirehand.rowing" 699),
 (402,cO "note_rows" 755 308 5 3 397 765),
 (403,fO "note_rows" 73 402 "quirehand.rowing" 699),
 (409,cO "_law_cell_at" 770 313 2 3 404 775),
 (410,fO "_law_cell_at" 75 409 "law_quirehand_k20_rows_of_blocks" 768),
 (416,cO "_law_letter" 778 317 2 3 411 783),
 (417,fO "_law_letter" 76 416 "law_quirehand_k20_rows_of_blocks" 768),
 (421,cN "_law_word" 786 319 2 418),
 (422,fO "_law_word" 77 421 "law_quirehand_k20_rows_of_blocks" 768),
 (426,cN "_law_words" 792 339 3 423),
 (427,fO "_law_words" 78 426 "law_quirehand_k20_rows_of_blocks" 768),
 (433,cO "_law_text" 798 341 4 3 428 810),
 (434,fO "_law_text" 79 433 "law_quirehand_k20_rows_of_blocks" 768),
 (438,cN "_law_table" 813 351 2 435),
 (439,fO "_law_table" 80 438 "law_quirehand_k20_rows_of_blocks" 768),
 (445,cO "_law_block" 819 358 3 3 440 826),
 (446,fO "_law_block" 81 445 "law_quirehand_k20_rows_of_blocks" 768),
 (452,cO "_law_blocks" 829 367 4 3 447 840),
 (453,fO "_law_blocks" 82 452 "law_quirehand_k20_rows_of_blocks" 768),
 (457,cN "_law_face" 843 376 1 454),
 (458,fO "_law_face" 83 457 "law_quirehand_k20_rows_of_blocks" 768),
 (462,cN "_law_joints" 849 388 2 459),
 (463,fO "_law_joints" 84 462 "law_quirehand_k20_rows_of_blocks" 768),
 (469,cO "_law_rules" 855 401 3 3 464 862),
 (470,fO "_law_rules" 85 469 "law_quirehand_k20_rows_of_blocks" 768),
 (474,cN "_law_line_rows" 865 416 5 471),
 (475,fO "_law_line_rows" 86 474 "law_quirehand_k20_rows_of_blocks" 768),
 (481,cO "_law_table_rows" 871 431 3 3 476 882),
 (482,fO "_law_table_rows" 87 481 "law_quirehand_k20_rows_of_blocks" 768),
 (488,cO "_law_told" 885 441 5 3 483 893),
 (489,fO "_law_told" 88 488 "law_quirehand_k20_rows_of_blocks" 768),
 (493,cN "_law_due" 896 446 5 490),
 (494,fO "_law_due" 89 493 "law_quirehand_k20_rows_of_blocks" 768),
 (498,cN "_law_right" 902 455 2 495),
 (499,fO "_law_right" 90 498 "law_quirehand_k20_rows_of_blocks" 768),
 (503,cN "law" 908 467 1 500),
 (504,fO "law" 91 503 "law_quirehand_k20_rows_of_blocks" 768)]
abbrev pw:Program:=PySem.Challenge.pw_quirehand_k20_rows_of_blocks
noncomputable def as0:List Addr:=[3,23,24,36,37,48,49,57,58,64,65,71,72,76,77,83,84,90,91,97,98,102,103,107,108,114,115,119,120,124,125,131,132,138,139,143,144,148,149,155,156,160,161,165,166,170,171,177,178,184,185,189,190,196,197,201,202,208,209,213,214,220,221,227,228,234,235,241,242,248,249,253,254,260,261,267,268,274,275,281,282,288,289,295,296,302,303,307,308,312,313,319,320,326,327,333,334,340,341,347,348,352,353,359,360,364,365,369,370,374,375,381,382,388,389,395,396,402,403,409,410,416,417,421,422,426,427,433,434,438,439,445,446,452,453,457,458,462,463,469,470,474,475,481,482,488,489,493,494,498,499,503,504]
def as_eq:∀P,as0=(K0 P).map (·.1):=fun _=>rfl
noncomputable def q0:Program:=view pw [1,2,3,5,6,7,8,9,10,12,13,14,16,17,18,20,21,22,23,24,26,27,28,29,30,32,33,34,35,36,37,39,40,41,42,43,44,46,47,48,49,50,51,52,53,54,55,56,57,59,60,62,63,64,65,67,68,69,70,71,72,73,75,76,77,78,79,80,81,82,83,84,85,86,87,88,89,90,91]
def X0 (s:jNg):Bool:=xlAt q0 [] s&&recOk [] s
def x1 (s:jNg)(e:X0 s=true):xlAt q0 [] s=true/\recOk [] s=true:=(Bool.and_eq_true_iff).mp e
def Y0 (s:jNg):List (Option Obj):=as0.map s.heap.get?
def A0 (w:World):List (Option Obj):=(K0 w.params).map fun p=>some p.2
def t0:(PySem.Challenge.pw_quirehand_k20_rows_of_blocks.main.body.length==92)=true:=by k_qdec
section
set_option maxHeartbeats 0
theorem Pa:HW.Pa pw q0 [] X0 Y0 A0 2982:=by intro w os;unfold HW.runAll q0 pw;rw[Fast.te3287704112282572391];kernel_rfl
theorem Pb:HW.Pb pw q0 [] X0 Y0 2982:=by intro w os;unfold HW.runAll q0 pw;rw[Fast.te3287704112282572391];kernel_rfl
theorem Pc:HW.Pc pw q0 [] X0 Y0 2982:=by intro w os;unfold HW.runAll q0 pw;rw[Fast.te3287704112282572391];kernel_rfl
theorem Pd:HW.Pd pw q0 [] X0 Y0 2982:=by intro w os;unfold HW.runAll q0 pw;rw[Fast.te3287704112282572391];kernel_rfl
theorem Pe:HW.Pe pw q0 [] X0 Y0 2982:=by intro w os;unfold HW.runAll q0 pw;rw[Fast.te3287704112282572391];kernel_rfl
theorem Pf:HW.Pf pw q0 [] X0 Y0 2982:=by intro w os;unfold HW.runAll q0 pw;rw[Fast.te3287704112282572391];kernel_rfl
def left0:LeftO pw q0 [] X0 Y0 A0 6024:=HW.left_of (n1:=2982) (by kernel_rfl) rfl (fun _=>rfl) (fun _=>by kernel_rfl) rfl Pa Pb Pc Pd Pe Pf
end
end K20
namespace L2
open PySem PySem.Spec PyProof.Rows
inductive Key where
 | inl (i:Int) | inr (x:Str) | non
 deriving DecidableEq
def VZ:Value->Bool
 | .none=>true
 | _=>false
noncomputable def ZW:Key->Value->Bool
 | .inl k,v=>Value.isInt k v
 | .inr x,v=>Value.isStrOf x v
 | .non,v=>VZ v
def z73 (w:World):Key->Int
 | .inl k=>hashInt k
 | .inr x=>hashStr w x
 | .non=>0xFCA86420
def Zx {v:Value}(h:VZ v=true):v=.none:=by cases v<;>first|rfl|cases h
def yc:∀ {k:Key} {v:Value},ZW k v=true->(∃i t,k=Key.inl i/\v=Value.int i t)\/(∃x t,k=Key.inr x/\v=Value.str x t)\/(k=Key.non/\v=Value.none)
 | .inl i,v,h=>by
  obtain⟨t,e⟩:=Value.isInt_shape (k:=i) (v:=v) h;exact .inl ⟨i,t,rfl,e⟩
 | .inr x,v,h=>by
  obtain⟨t,e⟩:=Value.isStrOf_shape (x:=x) (v:=v) h;exact .inr (.inl ⟨x,t,rfl,e⟩)
 | .non,v,h=>.inr (.inr ⟨rfl,Zx h⟩)
def Q7 (i:Int)(t:Tok):ZW (.inl i) (.int i t)=true:=by simp[ZW,Value.isInt]
def UN (x:Str)(t:Tok):ZW (.inr x) (.str x t)=true:=by simp[ZW,Value.isStrOf]
def z26 (a b:Int):decide (Key.inl a=Key.inl b)=(a==b):=by
 by_cases e:a=b
 ·subst e;simp
 ·have h:¬Key.inl a=Key.inl b:=fun q=>e (Key.inl.inj q);rw[decide_eq_false h];exact (beq_eq_false_iff_ne.mpr e).symm
def z25 (a b:Str):decide (Key.inr a=Key.inr b)=decide (a=b):=by
 by_cases e:a=b
 ·subst e;simp
 ·have h:¬Key.inr a=Key.inr b:=fun q=>e (Key.inr.inj q);rw[decide_eq_false h,decide_eq_false e]
def slot_none_hash:Slot "NoneType" "__hash__" "NoneType.__hash__" :=
 .of (owner:="NoneType") (n:="__hash__") (by rw[typeLookup_type];rw[builtinLookup_eq_fast];kernel_rfl) (by decide +kernel) (by decide +kernel) (by decide +kernel)
  (by first|exact .inl (by decide +kernel)|exact .inr (by decide +kernel)) (by rw[isSubtype_type] ;kernel_rfl)
def jC:entryFor table "NoneType.__hash__"=some Builtin.«NoneType.__hash__»:=entryFor_of_fast (by kernel_rfl)
def Zb (a:Value):argsOk "NoneType.__hash__" ⟨[a],[]⟩:=by unfold argsOk;kernel_rfl
def Q3 {prog:jNe}{w:World}{A:jNf}{E:Value->jNg->Prop}{s:jNg}{Q:Int->jNg->Prop}(h:Q 0xFCA86420 { s with toks:=s.toks+1 }):jNi (model prog w) A (pyHash .none) Q E s:=by
 have hT:s.TypeIs .none "NoneType":=rfl;show jNi _ _ (pyHashByItsType .none) Q E s;unfold pyHashByItsType;refine jMf ?_;rw[cRoomFor,jPa (by decide)];refine jMh (jMf (wpAny_specialOf hT slot_none_hash.lookup ?_));rw[jPa (by decide)];refine jMf (wpAny_specialOf hT slot_none_hash.lookup ?_);rw[jPa (by decide)];refine jMf (wpAny_callSpecialIfBoundUnlessNone?_slot hT slot_none_hash (jYk slot_none_hash hT jC ?_ (Zb _)));show jNi _ _ (do ret (<-mkInt 0xFCA86420)) _ _ s;refine wpAny_ret_mkInt ?_;show jNi _ _ (pyHashByItsType.reduced 0xFCA86420) Q E _;unfold pyHashByItsType.reduced;rw[jNk (by decide)];exact jMh h
def zX (prog:jNe)(w:World):PySem.KeyKind prog w Key where
 is:=ZW
 hash:=z73 w
 inj:=fun v a b ha hb=>by
  rcases yc ha with⟨i,t,rfl,rfl⟩|⟨x,t,rfl,rfl⟩|⟨rfl,rfl⟩
  ·rcases yc hb with⟨j,u,rfl,e⟩|⟨y,u,rfl,e⟩|⟨rfl,e⟩
   ·injection e with e1 _;rw[e1]
   ·exact nomatch e
   ·exact nomatch e
  ·rcases yc hb with⟨j,u,rfl,e⟩|⟨y,u,rfl,e⟩|⟨rfl,e⟩
   ·exact nomatch e
   ·injection e with e1 _;rw[e1]
   ·exact nomatch e
  ·rcases yc hb with⟨j,u,rfl,e⟩|⟨y,u,rfl,e⟩|⟨rfl,e⟩
   ·exact nomatch e
   ·exact nomatch e
   ·rfl
 byValue:=fun k v h=>by
  rcases yc h with⟨i,t,rfl,rfl⟩|⟨x,t,rfl,rfl⟩|⟨rfl,rfl⟩<;>rfl
 pyHash:=fun hv h=>by
  rcases yc hv with⟨i,t,rfl,rfl⟩|⟨x,t,rfl,rfl⟩|⟨rfl,rfl⟩
  ·exact wpAny_pyHash_int h
  ·exact wpAny_pyHash_str h
  ·exact Q3 h
 eqBool:=fun hu hv h=>by
  rcases yc hu with⟨i,t,rfl,rfl⟩|⟨x,t,rfl,rfl⟩|⟨rfl,rfl⟩
  ·rcases yc hv with⟨j,u,rfl,rfl⟩|⟨y,u,rfl,rfl⟩|⟨rfl,rfl⟩
   ·rw[z26]at h;exact wpAny_eqBool_int h
   ·rw[decide_eq_false (by intro q;cases q)]at h;exact SeqAt.EqAt.int_str i t y u _ _ _ _ h
   ·rw[decide_eq_false (by intro q;cases q)]at h;exact SeqAt.EqAt.int_none i t _ _ _ _ h
  ·rcases yc hv with⟨j,u,rfl,rfl⟩|⟨y,u,rfl,rfl⟩|⟨rfl,rfl⟩
   ·rw[decide_eq_false (by intro q;cases q)]at h;exact SeqAt.EqAt.str_int x t j u _ _ _ _ h
   ·rw[z25]at h;exact wpAny_eqBool_str h
   ·rw[decide_eq_false (by intro q;cases q)]at h;exact SeqAt.EqAt.str_none x t _ _ _ _ h
  ·rcases yc hv with⟨j,u,rfl,rfl⟩|⟨y,u,rfl,rfl⟩|⟨rfl,rfl⟩
   ·rw[decide_eq_false (by intro q;cases q)]at h;exact SeqAt.EqAt.none_int j u _ _ _ _ h
   ·rw[decide_eq_false (by intro q;cases q)]at h;exact SeqAt.EqAt.none_str y u _ _ _ _ h
   ·rw[decide_eq_true rfl]at h;exact SeqAt.EqAt.same .none _ _ _ _ h
 «strs»:=fun k x t v h=>by
  rcases yc h with⟨i,u,rfl,e⟩|⟨y,u,rfl,e⟩|⟨rfl,e⟩
  ·exact nomatch e
  ·injection e with e1 _;subst e1;cases v<;>rfl
  ·exact nomatch e
def Wm (prog:jNe)(w:World)(i:Int)(t:Tok):(zX prog w).is (.inl i) (.int i t)=true:=Q7 i t
def XU (prog:jNe)(w:World)(x:Str)(t:Tok):(zX prog w).is (.inr x) (.str x t)=true:=UN x t
def XO (prog:jNe)(w:World):(zX prog w).is .non .none=true:=rfl
inductive V where
 | non | bl (b:Bool) | int (i:Int) | str (x:Str) | byt (b:Array UInt8) | flt (b:UInt64) | ref (a:Addr) | ty (n:String)
 deriving DecidableEq
def RelV:V->Value->Prop
 | .non,u=>u=Value.none
 | .bl b,u=>u=Value.bool b
 | .int i,u=>∃t,u=Value.int i t
 | .str x,u=>∃t,u=Value.str x t
 | .byt b,u=>∃t,u=Value.bytes b t
 | .flt b,u=>∃t,u=Value.float b t
 | .ref a,u=>u=Value.ref a
 | .ty n,u=>u=Value.type n
abbrev Vals:List V->List Value->Prop:=Paired RelV
theorem Vals.length {xs:List V}{us:List Value}(r:Vals xs us):xs.length=us.length:=Paired.length r
theorem Vals.get:∀ {xs:List V} {us:List Value} {i:Nat} {x:V},Vals xs us->xs[i]?=some x->∃u,us[i]?=some u/\RelV x u
 | _,_,_,_,.nil,e=>by simp at e
 | _,_,0,_,.cons r _,e=>by simp at e;subst e;exact⟨_,rfl,r⟩
 | _,_,i+1,x,.cons _ t,e=>by
  obtain⟨u,h1,h2⟩:=Vals.get (i:=i) (x:=x) t (by simpa using e);exact⟨u,by simpa using h1,h2⟩
theorem Vals.set {x:V}{u:Value}(r:RelV x u):∀ {xs:List V} {us:List Value} (i:Nat),Vals xs us->Vals (xs.set i x) (us.set i u)
 | _,_,_,.nil=>.nil
 | _,_,0,.cons _ t=>.cons r t
 | _,_,i+1,.cons q t=>.cons q (Vals.set r i t)
theorem Vals.append:∀ {xs ys:List V} {us ws:List Value},Vals xs us->Vals ys ws->Vals (xs++ys) (us++ws)
 | _,_,_,_,.nil,s=>s
 | _,_,_,_,.cons r t,s=>.cons r (Vals.append t s)
theorem Vals.take:∀ {xs:List V} {us:List Value} (n:Nat),Vals xs us->Vals (xs.take n) (us.take n)
 | _,_,0,_=>.nil
 | _,_,_+1,.nil=>.nil
 | _,_,n+1,.cons r t=>.cons r (Vals.take n t)
theorem Vals.drop:∀ {xs:List V} {us:List Value} (n:Nat),Vals xs us->Vals (xs.drop n) (us.drop n)
 | _,_,0,r=>r
 | _,_,_+1,.nil=>.nil
 | _,_,n+1,.cons _ t=>Vals.drop n t
def RelO:Option V->Option Value->Prop
 | some v,some u=>RelV v u
 | none,none=>True
 | _,_=>False
def KV {κ:Type}:List (κ×V)->List (κ×Value)->Prop:=Paired fun (p:κ×V) (q:κ×Value)=>p.1=q.1/\RelV p.2 q.2
def kV:Key->V
 | .inl i=>.int i
 | .inr x=>.str x
 | .non=>.non
def TupN (h:Heap)(a:Addr)(items:Array Value):Prop:=∃o,h.get? a=some o/\o.cls=.type "tuple"/\(o.dict=none/\o.slots=#[])/\∃n,o.data=.seq items n
theorem TupN.tup {h:Heap}{a:Addr}{items:Array Value}(x:TupN h a items):IsTup h a items:=let ⟨o,ho,hc,_,n,hd⟩:=x;⟨o,ho,hc,n,hd⟩
theorem TupN.lt {h:Heap}{a:Addr}{items:Array Value}(x:TupN h a items):a<h.objs.size:=x.tup.lt
theorem TupN.new (h:Heap)(items:Array Value):TupN (h.push { cls:=.type "tuple",data:=.seq items }) h.objs.size items:=⟨_,jYd _ rfl,rfl,⟨rfl,rfl⟩,_,rfl⟩
inductive HO where
  | lst (xs:List V)
  | tup (xs:List V)
  | dK (kvs:List (Key×V)) | dT (kvs:List (List Key×V))
  | set (S:Int->Bool) (n:Nat)
  | ins (C dx:Addr) (fs:List (Str×V))
  | own (x:Addr)
  | xd (fs:List (Str×V))
  | met (f x:Addr)
  | rng (lo hi:Int)
  | frz (o:Obj) (u:HO)
  | tbl (ps:Array Value)
  | ext (φ:Heap->Prop)
abbrev Hp:=Addr->Option HO
def upd (H:Hp)(a:Addr)(o:HO):Hp:=fun b=>if b=a then some o else H b
def zG {H:Hp}{a:Addr}{o:HO}:upd H a o a=some o:=by unfold upd;rw[jNk rfl]
def zC {H:Hp}{a b:Addr}{o:HO}(h:b≠a):upd H a o b=H b:=by unfold upd;rw[jPa h]
def z5D {H:Hp}{a b:Addr}{o u:HO}(h:H a=some o)(h':H b=some u)(d:o≠u):a≠b:=by
 intro e;subst e;rw[h]at h';exact d (jYe h')
def zP {H:Hp}{a b:Addr}{o:HO}(h:H a=some o)(h':H b=none):a≠b:=by
 intro e;subst e;rw[h]at h';cases h'
section
variable (P:jNe)(w:World)
def ObjOk (H:Hp)(h:Heap)(a:Addr):HO->Prop
 | .lst xs=>xs.length<=jNb/\∃(its:List Value) (n:Nat),Vals xs its/\h.get? a=some { cls:=.type "list",data:=.seq its.toArray n }
 | .tup xs=>xs.length<=jNb/\∃its:List Value,Vals xs its/\TupN h a its.toArray
 | .dK kvs=>kvs.length<=jNb/\(a==sysModules)=false/\∃vs,KV kvs vs/\h.DictOf (zX P w) a vs
 | .dT kvs=>kvs.length<=jNb/\(a==sysModules)=false/\∃xs:List (List Key×Addr×Value),
   Paired (fun (p:List Key×V) (q:List Key×Addr×Value)=>p.1=q.1/\H q.2.1=some (.tup (p.1.map kV))/\RelV p.2 q.2.2) kvs xs /\
   ∃o es ep,h.get? a=some o/\o.ExactDict/\o.data=.dict es ep/\es.toList=xs.map (entryOfKey (tupleKind (zX P w)))/\(xs.map (·.1)).Nodup
 | .set S n=>h.SetOf (intKind P w) a S n
 | .ins C dx fs=>H dx=some (.own a)/\fs.length<=1000/\dx≠a/\h.get? a=some (jJi C dx) /\
   ∃mA,h.Ns1 dx mA/\(∀f,RelO (fs.lookup f) (mA f))/\PySem.Within mA (fs.map (·.1))
 | .own _=>∃o,h.get? a=some o
 | .xd fs=>∃mA,h.Ns1 a mA/\∀f,RelO (fs.lookup f) (mA f)
 | .rng lo hi=>∃t u v,h.get? a=some { cls:=.type "range",data:=.fields #[.int lo t,.int hi u,.int 1 v] }
 | .frz o u=>h.get? a=some o/\ObjOk H h a u
 | .tbl ps=>∃qs,h.get? a=some { cls:=.none,data:=.fields qs }/\(qs=#[]\/∃l k q t0 c',ps[0]?=some l/\ps[1]?=some k/\ps[2]?=some (.str q t0)/\qs=#[l,k,.ref c']/\H c'=some (.own a)/\h.CodeRec (.ref c') q)
 | .met f x=>h.get? a=some (jJj (.ref f) (.ref x))
 | .ext φ=>φ h/\(∃o,h.get? a=some o)/\∀h1 h2:Heap,φ h1->(∀o,h1.get? a=some o->h2.get? a=some o)->φ h2
def HOk (H:Hp)(h:Heap):Prop:=∀a o,H a=some o->ObjOk P w H h a o
end
section
variable {P:jNe}{w:World}{H H':Hp}{h h':Heap}{a:Addr}{o:HO}
theorem ObjOk.lt (x:ObjOk P w H h a o):a<h.objs.size:=by
 cases o with
 | lst xs=>obtain⟨_,_,_,_,e⟩:=x;exact jYc e
 | tup xs=>obtain⟨_,_,_,p⟩:=x;exact p.lt
 | dK kvs=>obtain⟨_,_,_,_,o,_,_,e,_⟩:=x;exact jYc e
 | dT kvs=>obtain⟨_,_,_,_,o,_,_,e,_⟩:=x;exact jYc e
 | set S n=>obtain⟨o,_,_,_,e,_⟩:=x;exact jYc e
 | ins C dx fs=>obtain⟨_,_,_,e,_⟩:=x;exact jYc e
 | own y=>obtain⟨_,e⟩:=x;exact jYc e
 | xd fs=>obtain⟨_,⟨_,_,_,e,_⟩,_⟩:=x;exact jYc e
 | rng lo hi=>obtain⟨_,_,_,e⟩:=x;exact jYc e
 | frz ob u=>obtain⟨e,_⟩:=x;exact jYc e
 | tbl ps=>obtain⟨_,e,_⟩:=x;exact jYc e
 | met f y=>exact jYc (show h.get? a=some _ from x)
 | ext φ=>obtain⟨_,⟨_,e⟩,_⟩:=x;exact jYc e
theorem Paired.mapP {α β:Type}{F G:α->β->Prop}:∀ {l₁:List α} {l₂:List β},Paired F l₁ l₂->(∀a b,F a b->G a b)->Paired G l₁ l₂
 | _,_,.nil,_=>.nil
 | _,_,.cons r t,f=>.cons (f _ _ r) (Paired.mapP t f)
theorem ObjOk.stay (x:ObjOk P w H h a o)(k:∀b u,(b=a\/H b=some (.own a))->h.get? b=some u->h'.get? b=some u)
  (ho:∀b,H b=some (.own a)->H' b=some (.own a)) (ht:∀b xs,H b=some (.tup xs)->H' b=some (.tup xs)):ObjOk P w H' h' a o:=by
 induction o with
 | lst xs=>obtain⟨z,its,n,r,e⟩:=x;exact⟨z,its,n,r,k _ _ (.inl rfl) e⟩
 | tup xs=>obtain⟨z,its,r,ob,e,c⟩:=x;exact⟨z,its,r,ob,k _ _ (.inl rfl) e,c⟩
 | dK kvs=>obtain⟨z,y,vs,r,ob,es,ep,e,c⟩:=x;exact⟨z,y,vs,r,ob,es,ep,k _ _ (.inl rfl) e,c⟩
 | dT kvs =>
  obtain⟨z,y,xs,r,ob,es,ep,e,c⟩:=x;exact⟨z,y,xs,Paired.mapP r fun p q z=>⟨z.1,ht _ _ z.2.1,z.2.2⟩,ob,es,ep,k _ _ (.inl rfl) e,c⟩
 | set S n=>obtain⟨ob,es,ep,t,e,c⟩:=x;exact⟨ob,es,ep,t,k _ _ (.inl rfl) e,c⟩
 | ins C dx fs =>
  obtain⟨d,z,ne,e,mA,⟨od,es,ep,e2,c⟩,r⟩:=x;exact⟨ho _ d,z,ne,k _ _ (.inl rfl) e,mA,⟨od,es,ep,k _ _ (.inr d) e2,c⟩,r⟩
 | own y=>obtain⟨ob,e⟩:=x;exact⟨ob,k _ _ (.inl rfl) e⟩
 | xd fs=>obtain⟨mA,⟨od,es,ep,e,c⟩,r⟩:=x;exact⟨mA,⟨od,es,ep,k _ _ (.inl rfl) e,c⟩,r⟩
 | rng lo hi=>obtain⟨t,u,v,e⟩:=x;exact⟨t,u,v,k _ _ (.inl rfl) e⟩
 | frz ob u ih=>obtain⟨e,q⟩:=x;exact⟨k _ _ (.inl rfl) e,ih q⟩
 | tbl ps =>
  obtain⟨qs,e,z⟩:=x;refine⟨qs,k a _ (.inl rfl) e,?_⟩;rcases z with z|⟨l,m,q,t0,c',z1,z2,z3,z4,z5,c,ob,vs,t,z6,z7,z8⟩
  ·exact .inl z
  ·cases z6;exact .inr ⟨l,m,q,t0,c',z1,z2,z3,z4,ho _ z5,c',ob,vs,t,rfl,k _ _ (.inr z5) z7,z8⟩
 | met f y =>
  have e:h.get? a=some (jJj (.ref f) (.ref y)):=x;show h'.get? a=some (jJj (.ref f) (.ref y));exact k a _ (.inl rfl) e
 | ext φ=>obtain⟨p,⟨o,e⟩,st⟩:=x;exact⟨st _ _ p fun o q=>k _ _ (.inl rfl) q,⟨o,k _ _ (.inl rfl) e⟩,st⟩
theorem HOk.lt (x:HOk P w H h)(e:H a=some o):a<h.objs.size:=(x a o e).lt
def HOk.fresh (x:HOk P w H h)(e:h.objs.size<=a):H a=none:=by
 cases q:H a with
 | none=>rfl
 | some u=>exact absurd (sC (x.lt q) e) (sW _)
theorem HOk.kept (x:HOk P w H h)(k:∀b u,h.get? b=some u->h'.get? b=some u):HOk P w H h':=fun a o e =>
 (x a o e).stay (fun b u _ q=>k b u q) (fun _ q=>q) fun _ _ q=>q
theorem HOk.laid (x:HOk P w H h)(k:∀b u,h.get? b=some u->h'.get? b=some u)(hp:h.objs.size<=a)(new:ObjOk P w (upd H a o) h' a o):HOk P w (upd H a o) h':=fun b u e=>by
 have hn:=x.fresh hp
 by_cases hb:b=a
 ·subst hb;rw[zG]at e;cases e;exact new
 ·rw[zC hb]at e;exact (x b u e).stay (fun c v _ q=>k c v q) (fun c q=>by rw[zC (zP q hn)];exact q) fun c xs q=>by rw[zC (zP q hn)];exact q
end
def Rd (H:Hp)(a:Addr)(u:HO):Prop:=H a=some u\/∃o,H a=some (.frz o u)
theorem Rd.ok {P:jNe}{w:World}{H:Hp}{h:Heap}{a:Addr}{u:HO}(r:Rd H a u)(x:HOk P w H h):ObjOk P w H h a u:=by
 rcases r with r|⟨o,r⟩
 ·exact x a u r
 ·obtain⟨_,q⟩:=x a _ r;exact q
def Mut:Option HO->Prop
 | some (.lst _)=>True
 | some (.dK _)=>True
 | some (.dT _)=>True
 | some (.set _ _)=>True
 | some (.ins _ _ _)=>True
 | some (.ext _)=>True
 | _=>False
section
variable {P:jNe}{w:World}{H:Hp}{h h':Heap}{x e:Addr}{o':HO}
def HOk.write (ok:HOk P w H h)(mu:Mut (H x))(he:e=x\/H e=some (.own x))(k:∀b u,b≠e->h.get? b=some u->h'.get? b=some u)(heo:∃u,h'.get? e=some u)
  (new:ObjOk P w (upd H x o') h' x o'):HOk P w (upd H x o') h':=fun b u q=>by
 have nown:∀c y,H c=some (.own y)->c≠x:=fun c y r z=>by subst z;rw[r]at mu;exact mu
 have ntup:∀c xs,H c=some (.tup xs)->c≠x:=fun c xs r z=>by subst z;rw[r]at mu;exact mu
 by_cases hb:b=x
 ·subst hb;rw[zG]at q;cases q;exact new
 ·rw[zC hb]at q
  by_cases hbe:b=e
  ·have q':H b=some (.own x):=by
    rcases he with z|z
    ·exact absurd (hbe.trans z) hb
    ·rw[hbe];exact z
   rw[q]at q';cases q';obtain⟨v,hv⟩:=heo;exact⟨v,by rw[hbe];exact hv⟩
  ·refine (ok b u q).stay (fun c v hc r=>k c v ?_ r) (fun c r=>by rw[zC (nown c b r)];exact r) fun c xs r=>by rw[zC (ntup c xs r)];exact r
   rcases hc with rfl|hc
   ·exact hbe
   ·rintro rfl;rcases he with z|z
    ·exact nown c b hc z
    ·rw[hc]at z;cases z;exact hb rfl
end
structure Un (fs ex:List Addr)(H H':Hp)(h h':Heap):Prop where
 keep:∀b o,h.get? b=some o->H b=none->b∉fs->b∉ex->h'.get? b=some o
 slot:∀b o,h.get? b=some o->H b=none->b∈fs->b∉ex->∃sl,h'.get? b=some { o with slots:=sl }
 free:∀b o,h.get? b=some o->H b=none->b∉ex->H' b=none
 there:∀b o,h.get? b=some o->b∉ex->∃o',h'.get? b=some o'
 tups:∀b xs,H b=some (.tup xs)->H' b=some (.tup xs)
 frzs:∀b o u,H b=some (.frz o u)->H' b=some (.frz o u)
 tbls:∀b ps,H b=some (.tbl ps)->∃more,H' b=some (.tbl (ps++more))
section
variable {fs fs' ex ex':List Addr}{H H1 H2:Hp}{h h1 h2 h':Heap}{a x e:Addr}{o:HO}
theorem Un.any (u:Un fs ex H H1 h h1){b:Addr}{ob:Obj}(q:h.get? b=some ob)(n:H b=none)(hx:b∉ex):∃sl,h1.get? b=some { ob with slots:=sl }:=by
 by_cases hb:b∈fs
 ·exact u.slot b ob q n hb hx
 ·exact⟨ob.slots,u.keep b ob q n hb hx⟩
def Un.kept (k:∀b u,h.get? b=some u->h'.get? b=some u):Un fs ex H H h h' :=
 ⟨fun b ob q _ _ _=>k b ob q,fun b ob q _ _ _=>⟨ob.slots,k b ob q⟩,fun _ _ _ n _=>n,fun b ob q _=>⟨ob,k b ob q⟩,fun _ _ q=>q,fun _ _ _ q=>q,fun _ ps q=>⟨#[],by rw[q];simp⟩⟩
def Un.refl:Un fs ex H H h h:=Un.kept fun _ _ q=>q
def Un.laid (k:∀b u,h.get? b=some u->h'.get? b=some u)(hp:h.objs.size<=a)(hn:H a=none):Un fs ex H (upd H a o) h h' where
 keep:=fun b u q _ _ _=>k b u q
 slot:=fun b u q _ _ _=>⟨u.slots,k b u q⟩
 free:=fun b u q n _=>by rw[zC (tU (sC (jYc q) hp))];exact n
 there:=fun b u q _=>⟨u,k b u q⟩
 tups:=fun b xs q=>by rw[zC (zP q hn)];exact q
 frzs:=fun b u xs q=>by rw[zC (zP q hn)];exact q
 tbls:=fun b ps q=>⟨#[],by rw[zC (zP q hn),q];simp⟩
def Un.write (mu:Mut (H x))(he:e=x\/H e=some (.own x))(k:∀b u,b≠e->h.get? b=some u->h'.get? b=some u)(heo:∃u,h'.get? e=some u):Un fs ex H (upd H x o) h h':=by
 have hx:∀b,H b=none->b≠x:=fun b n z=>by subst z;rw[n]at mu;exact mu
 have hb:∀b,H b=none->b≠e:=fun b n z=>by
  subst z;rcases he with r|r
  ·exact hx b n r
  ·rw[n]at r;cases r
 have hm:∀b u,H b=some u->¬Mut (some u)->b≠x:=fun b u q nm z=>by subst z;rw[q]at mu;exact nm mu
 refine⟨fun b u q n _ _=>k b u (hb b n) q,fun b u q n _ _=>⟨u.slots,k b u (hb b n) q⟩,fun b u q n _=>by rw[zC (hx b n)];exact n,fun b u q _=>?_,
  fun b xs q=>by rw[zC (hm b _ q fun z=>z)];exact q,fun b u xs q=>by rw[zC (hm b _ q fun z=>z)];exact q,fun b ps q=>⟨#[],by rw[zC (hm b _ q fun z=>z),q];simp⟩⟩
 by_cases hbe:b=e
 ·subst hbe;exact heo
 ·exact⟨u,k b u hbe q⟩
end
def trk (h:Heap)(H:Hp):List Addr:=(List.range h.objs.size).filter fun a=>(H a).isSome
def YV (h:Heap)(H:Hp):Heap:=PySem.W.hideAll h (trk h H)
def Up (h:Heap)(H:Hp):(YV h H).objs.size=h.objs.size:=PySem.W.hideAll_size _ _
def QZ {h:Heap}{H:Hp}{b:Addr}{o:Obj}(e:h.get? b=some o)(n:H b=none):(YV h H).get? b=some o:=
 jJs _ e fun hm=>by
  have q:(H b).isSome=true:=(List.mem_filter.mp hm).2;rw[n]at q;simp at q
def z1t {h:Heap}{H:Hp}{b:Addr}{o:Obj}(e:(YV h H).get? b=some o):h.get? b=some o/\H b=none:=by
 have e':h.get? b=some o:=jJt (trk h H) e;refine⟨e',?_⟩;cases q:H b with
 | none=>rfl
 | some x =>
  have hm:b∈trk h H:=List.mem_filter.mpr ⟨rS.mpr (jYc e'),by simp[q]⟩;have z:(YV h H).get? b=none:=PySem.W.hideAll_none (trk h H) hm;rw[z]at e;cases e
noncomputable def z02 (g h:Heap)(L:Addr):List (Addr×Obj):=(List.range h.objs.size).filterMap fun a=>if a=L\/(g.get? a).isSome=true then none else (h.get? a).map fun o=>(a,o)
noncomputable def rest (g h:Heap)(L d:Addr):List (Addr×Obj):=(z02 g h L).filter fun p=>decide (p.1≠d)
structure Mod (K:jJa)(mg:Str->Option Value)(base:Heap):Prop where
 kin:K.In base
 glob:base.Ns jMb mg
 blt:∃mb,base.Ns builtinsNs mb/\∀x:Str,x≠"__name__"->mb x=jKk x
 nolimit:base.NoLimit
structure Cx where
 prog:jNe
 w:World
 K:jJa
 mg:Str->Option Value
 base:Heap
 A:jNf
 N:List Str
 s₀:jNg
 H₀:Hp
 env:Env
 outer:List Env
 stack:List Env
 ex:List Addr
 fn:Str->Bool
 calm:Bool
 pn:List (Addr×Obj)
 xe:Value->jNg->Prop
def frs (l:List Env):List Addr:=l.filterMap (·.frame)
abbrev Cx.fs (X:Cx):List Addr:=frs X.outer
def Vis (sc:Scope)(x:Str):Prop:=sc.names.lookup x=some .local\/sc.names.lookup x=some .cell\/sc.names.lookup x=some .free
def Loc (sc:Scope)(x:Str):Prop:=sc.names.lookup x=some .local\/sc.names.lookup x=some .cell
def z70 (env:Env)(h:Heap)(m:Str->Option Value)(x:Str)(u:Value):Prop:=
 (env.kindOf x=some .local/\m x=some u)\/((env.kindOf x=some .cell\/env.kindOf x=some .free)/\∃c,env.cells.lookup x=some c/\h.IsCell c (some u))
structure Cx.Ok (X:Cx):Prop where
 mod:Mod X.K X.mg X.base
 kind:X.env.scope.kind=.function
 glob:X.env.globals=jMb
 blt:X.env.builtins=builtinsNs
 above:X.s₀.heap.objs.size<=X.env.locals
 inj:∀x y c,X.env.cells.lookup x=some c->X.env.cells.lookup y=some c->x=y
 has:∀x,(X.env.kindOf x=some .cell\/X.env.kindOf x=some .free)->∃c,X.env.cells.lookup x=some c
 cab:∀x c,X.fn x=true->X.env.cells.lookup x=some c->X.s₀.heap.objs.size<=c
 hd:X.calm=true->X.A.handled=none
 frames:X.A.frames=some X.stack
 stk:X.stack=X.outer\/(X.stack=X.env::X.outer/\X.env.frame=some X.env.locals)
 exf:∀b∈X.ex,b≠X.env.locals/\∀x c,X.env.cells.lookup x=some c->c≠b
 bs:∀b o,X.base.get? b=some o->X.s₀.heap.get? b=some o/\X.H₀ b=none
 bsz:X.base.objs.size<=X.s₀.heap.objs.size
 noex:∀b o,X.base.get? b=some o->b∉X.ex
 exfs:∀b∈X.ex,b∉X.fs
 funs:X.s₀.heap.FunFrames X.base X.outer
 frf:∀b∈X.fs,X.H₀ b=none
structure Inv (X:Cx)(jNj:List (Addr×Obj))(σ:List (Option V))(H:Hp)(s:jNg):Prop where
 ok:X.Ok
 os:s.os=X.s₀.os
 bare:AllBare s.gens
 base:Un X.fs X.ex X.H₀ H X.s₀.heap s.heap
 loc:∃m,s.heap.Ns X.env.locals m/\∀(i:Nat) (x:Str) (v:V),X.N[i]?=some x->σ[i]?=some (some v)->Vis X.env.scope x->∃u,RelV v u/\z70 X.env s.heap m x u
 cell:∀x c,X.env.cells.lookup x=some c->∃v,s.heap.IsCell c v
 free:H X.env.locals=none
 freeC:∀x c,X.env.cells.lookup x=some c->H c=none
 pin:∀p∈X.pn++jNj,s.heap.get? p.1=some p.2/\H p.1=none/\p.1≠X.env.locals/\p.1∉X.fs/\∀v,p.2.data≠.cell v
 hok:HOk X.prog X.w H s.heap
 len:σ.length=X.N.length
section
variable {X:Cx}{jNj:List (Addr×Obj)}{σ:List (Option V)}{H H':Hp}{s:jNg}{h':Heap}
theorem Cx.Ok.nofr (ok:X.Ok){b:Addr}{o:Obj}(e:X.base.get? b=some o):b∉X.fs:=fun hb=>by
 have:=(ok.funs.mem hb).1;rw[e]at this;cases this
theorem Inv.bs (I:Inv X jNj σ H s):∀b o,X.base.get? b=some o->s.heap.get? b=some o/\H b=none:=fun b o e =>
 ⟨I.base.keep b o (I.ok.bs b o e).1 (I.ok.bs b o e).2 (I.ok.nofr e) (I.ok.noex b o e),I.base.free b o (I.ok.bs b o e).1 (I.ok.bs b o e).2 (I.ok.noex b o e)⟩
theorem Inv.bk (I:Inv X jNj σ H s):∀b o,X.base.get? b=some o->s.heap.get? b=some o:=fun b o e=>(I.bs b o e).1
theorem Inv.mod (I:Inv X jNj σ H s):Mod X.K X.mg X.base:=I.ok.mod
theorem Inv.kIn (I:Inv X jNj σ H s):X.K.In s.heap:=I.ok.mod.kin.keeps I.bk
theorem Inv.lt (I:Inv X jNj σ H s):X.env.locals<s.heap.objs.size:=let ⟨_,hn,_⟩:=I.loc;hn.lt
theorem Inv.sz (I:Inv X jNj σ H s):X.s₀.heap.objs.size<=s.heap.objs.size:=sE I.ok.above (pJ I.lt)
theorem Inv.nofs (I:Inv X jNj σ H s){a:Addr}(h:s.heap.objs.size<=a):a∉X.fs:=fun hb=>by
 obtain⟨_,o,ho,_⟩:=I.ok.funs.mem hb;exact absurd (sC (jYc ho) (sE I.sz h)) (sW _)
theorem Inv.cne (I:Inv X jNj σ H s):∀x c,X.env.cells.lookup x=some c->c≠X.env.locals:=fun x c e z=>by
 obtain⟨v,o,ho,hd⟩:=I.cell x c e;obtain⟨m,⟨o',es,ep,ho',hd',_⟩,_⟩:=I.loc;rw[z,ho']at ho;cases ho;rw[hd']at hd;cases hd
theorem Inv.funs (I:Inv X jNj σ H s):s.heap.FunFrames X.base X.outer:=by
 have all:∀(l:List Env),(∀b∈frs l,b∈X.fs)->X.s₀.heap.FunFrames X.base l->s.heap.FunFrames X.base l:=by
  intro l
  induction l with
  | nil=>intro _ _;trivial
  | cons env r ih =>
   intro hs hl;obtain⟨hk,⟨L,o,hf,hn,ho,hd⟩,hr⟩:=hl;have hL:L∈X.fs:=hs L (by unfold frs;rw[sL,hf];exact tE);obtain⟨sl,e⟩:=I.base.slot L o ho (I.ok.frf L hL) hL fun z=>I.ok.exfs L z hL;exact⟨hk,⟨L,_,hf,hn,e,hd⟩,ih (fun b hb=>hs b (by unfold frs;rw[sL,hf];exact tF _ hb)) hr⟩
 exact all X.outer (fun _ hb=>hb) I.ok.funs
theorem Inv.stack (I:Inv X jNj σ H s):s.heap.FunFrames X.base X.stack:=by
 rcases I.ok.stk with e|⟨e,hf⟩
 ·rw[e];exact I.funs
 ·rw[e];obtain⟨m,hn,_⟩:=I.loc;refine .cons (by rw[I.ok.kind];decide) hf hn ?_ I.funs;exact Heap.get?_none_of_le (sE I.ok.bsz I.ok.above)
def Inv.stkSub (I:Inv X jNj σ H s):∀b∈frs X.stack,b∈X.env.locals::X.fs:=fun b hb=>by
 rcases I.ok.stk with e|⟨e,hf⟩
 ·rw[e]at hb;exact tF _ hb
 ·rw[e]at hb;unfold frs at hb;rw[sL,hf]at hb;exact hb
def Inv.stkFree (I:Inv X jNj σ H s):∀b∈frs X.stack,H b=none:=fun b hb=>by
 rcases tK.mp (I.stkSub b hb)with e|hb
 ·rw[e];exact I.free
 ·obtain⟨_,o,ho,_⟩:=I.ok.funs.mem hb;exact I.base.free b o ho (I.ok.frf b hb) fun z=>I.ok.exfs b z hb
theorem Inv.step {g':Array GenState}{t':Nat}{d':Drawn}{ch:List Addr}(I:Inv X jNj σ H s)
  (hch:∀b∈ch,(b∈X.ex\/X.s₀.heap.objs.size<=b)/\b≠X.env.locals/\(∀x c,X.env.cells.lookup x=some c->c≠b)/\∀p∈X.pn++jNj,p.1≠b)
  (keep:∀b o,b≠X.env.locals->b∉X.fs->b∉ch->s.heap.get? b=some o->H b=none->h'.get? b=some o)
  (slot:∀b o,b≠X.env.locals->b∈X.fs->b∉ch->s.heap.get? b=some o->H b=none->∃sl,h'.get? b=some { o with slots:=sl }) (free:∀b o,b∉ch->s.heap.get? b=some o->H b=none->H' b=none)
  (there:∀b o,b∉ch->s.heap.get? b=some o->∃o',h'.get? b=some o')
  (tups:∀b xs,H b=some (.tup xs)->H' b=some (.tup xs)) (frzs:∀b o u,H b=some (.frz o u)->H' b=some (.frz o u)) (tbls:∀b ps,H b=some (.tbl ps)->∃more,H' b=some (.tbl (ps++more)))
  (ns:∀m,s.heap.Ns X.env.locals m->h'.Ns X.env.locals m) (hok:HOk X.prog X.w H' h') (hg:AllBare g'):
  Inv X jNj σ H' { s with heap:=h',gens:=g',drawn:=d',toks:=t' }:=by
 have neL:∀b o,X.s₀.heap.get? b=some o->b≠X.env.locals:=fun b o e=>tU (sC (jYc e) I.ok.above);have neC:∀b o,X.s₀.heap.get? b=some o->b∉X.ex->b∉ch:=fun b o e hx hb=>by
  rcases (hch b hb).1 with z|z
  ·exact hx z
  ·exact absurd (sC (jYc e) z) (sW _)
 have cellK:∀x c,X.env.cells.lookup x=some c->∀v,s.heap.IsCell c v->h'.IsCell c v:=fun x c e v ⟨o,ho,hd⟩=>by
  have nch:c∉ch:=fun z=>(hch c z).2.2.1 x c e rfl
  by_cases hc:c∈X.fs
  ·obtain⟨sl,q⟩:=slot c o (I.cne x c e) hc nch ho (I.freeC x c e);exact⟨_,q,hd⟩
  ·exact⟨o,keep c o (I.cne x c e) hc nch ho (I.freeC x c e),hd⟩
 refine⟨I.ok,I.os,hg,⟨fun b o e n hb hx=>?_,fun b o e n hb hx=>?_,fun b o e n hx=>?_,fun b o e hx=>?_,fun b xs e=>tups b xs (I.base.tups b xs e),fun b o xs e=>frzs b o xs (I.base.frzs b o xs e),fun b ps e=>?_⟩,?_,fun x c e=>?_,?_,fun x c e=>?_,fun p hp=>?_,hok,I.len⟩
 ·exact keep b o (neL b o e) hb (neC b o e hx) (I.base.keep b o e n hb hx) (I.base.free b o e n hx)
 ·obtain⟨sl,e1⟩:=I.base.slot b o e n hb hx;obtain⟨sl',e2⟩:=slot b _ (neL b o e) hb (neC b o e hx) e1 (I.base.free b o e n hx);exact⟨sl',e2⟩
 ·obtain⟨o',e1⟩:=I.base.there b o e hx;exact free b o' (neC b o e hx) e1 (I.base.free b o e n hx)
 ·obtain⟨o',e1⟩:=I.base.there b o e hx;exact there b o' (neC b o e hx) e1
 ·obtain⟨m1,e1⟩:=I.base.tbls b ps e;obtain⟨m2,e2⟩:=tbls b _ e1;exact⟨m1++m2,by rw[e2,Array.append_assoc]⟩
 ·obtain⟨m,hn,hl⟩:=I.loc;refine⟨m,ns m hn,fun i x v e1 e2 e3=>?_⟩;obtain⟨u,r,l⟩:=hl i x v e1 e2 e3;refine⟨u,r,?_⟩;rcases l with l|⟨k,c,e,z⟩
  ·exact .inl l
  ·exact .inr ⟨k,c,e,cellK x c e _ z⟩
 ·obtain⟨v,z⟩:=I.cell x c e;exact⟨v,cellK x c e v z⟩
 ·obtain⟨m,⟨o,_,_,ho,_⟩,_⟩:=I.loc;exact free _ o (fun z=>(hch _ z).2.1 rfl) ho I.free
 ·obtain⟨v,o,ho,hd⟩:=I.cell x c e;exact free c o (fun z=>(hch c z).2.2.1 x c e rfl) ho (I.freeC x c e)
 ·obtain⟨e,n,ne,nf,d⟩:=I.pin p hp;have nch:p.1∉ch:=fun z=>(hch p.1 z).2.2.2 p hp rfl;exact⟨keep p.1 p.2 ne nf nch e n,free p.1 p.2 nch e n,ne,nf,d⟩
theorem Inv.un {t':Nat}(I:Inv X jNj σ H s)(u:Un X.fs [] H H' s.heap h')(hok:HOk X.prog X.w H' h'):Inv X jNj σ H' { s with heap:=h',toks:=t' }:=by
 obtain⟨m,⟨o,es,ep,ho,r⟩,_⟩:=id I.loc;obtain⟨sl,hL⟩:=u.any ho I.free (by simp);exact I.step (g':=s.gens) (d':=s.drawn) (ch:=[]) (fun _ z=>nomatch z) (fun b o _ hb _ e n=>u.keep b o e n hb (by simp)) (fun b o _ hb _ e n=>u.slot b o e n hb (by simp)) (fun b o _ e n=>u.free b o e n (by simp)) (fun b o _ e=>u.there b o e (by simp)) u.tups u.frzs u.tbls (fun m' hm=>by
  obtain⟨o',es',ep',ho',r'⟩:=hm;rw[ho]at ho';cases ho';exact⟨_,es',ep',hL,r'⟩) hok I.bare
theorem Inv.call {g':Array GenState}{t':Nat}{d':Drawn}{ch:List Addr}(I:Inv X jNj σ H s)(u:Un (frs X.stack) ch H H' s.heap h')(hok:HOk X.prog X.w H' h')(hg:AllBare g')
  (hch:∀b∈ch,(b∈X.ex\/X.s₀.heap.objs.size<=b)/\b≠X.env.locals/\(∀x c,X.env.cells.lookup x=some c->c≠b)/\∀p∈X.pn++jNj,p.1≠b):
  Inv X jNj σ H' { s with heap:=h',gens:=g',drawn:=d',toks:=t' }:=by
 obtain⟨m,⟨o,es,ep,ho,r⟩,_⟩:=id I.loc;obtain⟨sl,hL⟩:=u.any ho I.free fun z=>(hch _ z).2.1 rfl;exact I.step (ch:=ch) hch (fun b o hL hb hc e n=>u.keep b o e n (fun z=>(tK.mp (I.stkSub b z)).elim hL hb) hc) (fun b o _ _ hc e n=>u.any e n hc) (fun b o hc e n=>u.free b o e n hc) (fun b o hc e=>u.there b o e hc) u.tups u.frzs u.tbls (fun m' hm=>by
  obtain⟨o',es',ep',ho',r'⟩:=hm;rw[ho]at ho';cases ho';exact⟨_,es',ep',hL,r'⟩) hok hg
def Inv.turned {t':Nat}{it:Addr}(I:Inv X jNj σ H s)(k:∀b o,b≠it->s.heap.get? b=some o->h'.get? b=some o)(hn:H it=none)(hL:it≠X.env.locals)
  (h1:it∈X.ex\/X.s₀.heap.objs.size<=it) (h2:∀x c,X.env.cells.lookup x=some c->c≠it) (h3:∀p∈X.pn++jNj,p.1≠it):Inv X jNj σ H { s with heap:=h',toks:=t' }:=by
 have nit:∀b u,H b=some u->b≠it:=fun b u e z=>by rw[z,hn]at e;cases e
 refine I.step (g':=s.gens) (d':=s.drawn) (ch:=[it]) (fun b hb=>?_) (fun b o _ _ hc e _=>k b o (fun z=>hc (by simp[z])) e) (fun b o _ _ hc e _=>⟨o.slots,k b o (fun z=>hc (by simp[z])) e⟩) (fun _ _ _ _ n=>n)
  (fun b o hc e=>⟨o,k b o (fun z=>hc (by simp[z])) e⟩) (fun _ _ e=>e) (fun _ _ _ e=>e) (fun b ps e=>⟨#[],by rw[e];simp⟩) (fun m hm=>?_) (fun b u e=>?_) I.bare
 ·have e:b=it:=by simpa using hb
  subst e;exact⟨h1,hL,h2,h3⟩
 ·obtain⟨o,es,ep,ho,r⟩:=hm;exact⟨o,es,ep,k _ o (Ne.symm hL) ho,r⟩
 ·refine (I.hok b u e).stay (fun c v hc q=>k c v ?_ q) (fun _ q=>q) fun _ _ q=>q;rcases hc with z|z
  ·rw[z];exact nit b u e
  ·exact nit c _ z
theorem Inv.tok (I:Inv X jNj σ H s)(t:Nat):Inv X jNj σ H { s with toks:=t }:=I.un (h':=s.heap) (t':=t) Un.refl I.hok
theorem Inv.kept {t':Nat}(I:Inv X jNj σ H s)(k:∀b u,s.heap.get? b=some u->h'.get? b=some u):Inv X jNj σ H { s with heap:=h',toks:=t' }:=I.un (Un.kept k) (I.hok.kept k)
theorem Inv.laid {a:Addr}{o:HO}{t':Nat}(I:Inv X jNj σ H s)(k:∀b u,s.heap.get? b=some u->h'.get? b=some u)(hp:s.heap.objs.size<=a)(new:ObjOk X.prog X.w (upd H a o) h' a o):
  Inv X jNj σ (upd H a o) { s with heap:=h',toks:=t' }:=I.un (Un.laid k hp (I.hok.fresh hp)) (I.hok.laid k hp new)
theorem Inv.write {x e:Addr}{o:HO}{t':Nat}(I:Inv X jNj σ H s)(mu:Mut (H x))(he:e=x\/H e=some (.own x))(k:∀b u,b≠e->s.heap.get? b=some u->h'.get? b=some u)(heo:∃u,h'.get? e=some u)
  (new:ObjOk X.prog X.w (upd H x o) h' x o):Inv X jNj σ (upd H x o) { s with heap:=h',toks:=t' }:=I.un (Un.write mu he k heo) (I.hok.write mu he k heo new)
def Inv.pins_of {pins':List (Addr×Obj)}(I:Inv X jNj σ H s)(h:∀p∈pins',s.heap.get? p.1=some p.2/\H p.1=none/\p.1≠X.env.locals/\p.1∉X.fs/\∀v,p.2.data≠.cell v):Inv X pins' σ H s:=
 ⟨I.ok,I.os,I.bare,I.base,I.loc,I.cell,I.free,I.freeC,fun p hp=>(tS.mp hp).elim (fun z=>I.pin p (tL _ z)) (h p),I.hok,I.len⟩
def Wg {N:List Str}(hN:N.Nodup){i j:Nat}{x:Str}(a:N[i]?=some x)(b:N[j]?=some x):i=j:=by
 obtain⟨h1,e1⟩:=tJ.mp a;obtain⟨h2,e2⟩:=tJ.mp b;exact (List.getElem_inj hN).mp (e1.trans e2.symm)
def Yb {M:Model}{A:jNf}{E:Value->jNg->Prop}{i:Nat}{x:Str}{v:V}{u:Value}{Q:Unit->jNg->Prop}(I:Inv X jNj σ H s)(hN:X.N.Nodup)(hi:X.N[i]?=some x)(hx:Loc X.env.scope x)(r:RelV v u)
  (h:∀s',Inv X jNj (σ.set i (some v)) H s'->(∃a,Heap.SameBut a s.heap s'.heap/\(a=X.env.locals\/X.env.cells.lookup x=some a))->Q () s') (hf:autoParam (X.fn x=true\/X.env.scope.names.lookup x=some .local) au0._auto_1):jNi M A (storeName X.env x u) Q E s:=by
 obtain⟨m,hn,hl⟩:=id I.loc;have hcls:(X.env.scope.kind==.class||(X.env.scope.kind==.module&&X.env.locals != X.env.globals))=false:=by rw[I.ok.kind];rfl
 have hiσ:i<σ.length:=by rw[I.len];exact (tJ.mp hi).1
 have cne:=I.cne;have tracked:∀ {a:Addr} {h':Heap},(∃o,s.heap.get? a=some o/\H a=none)->Heap.SameBut a s.heap h'->HOk X.prog X.w H h':=fun {a h'} ha hs b ob e=>by
  obtain⟨_,_,hfree⟩:=ha;refine (I.hok b ob e).stay (fun c w' hc q=>(hs.2 c ?_).trans q) (fun _ q=>q) fun _ _ q=>q;rintro rfl;rcases hc with rfl|hc
  ·rw[hfree]at e;cases e
  ·rw[hfree]at hc;cases hc
 rcases hx with hk|hk
 ·refine wpAny_storeName_local hk hn (fun h' hn' hs=>?_) hcls;obtain⟨oL,_,_,hoL,_⟩:=id hn;refine h _ ⟨I.ok,I.os,I.bare,⟨fun b o e n hb hx=>?_,fun b o e n hb hx=>?_,I.base.free,fun b o e hx=>?_,I.base.tups,I.base.frzs,I.base.tbls⟩,⟨_,hn',fun j y v' e1 e2 e3=>?_⟩,fun y c e=>?_,I.free,I.freeC,fun p hp=>?_,tracked ⟨oL,hoL,I.free⟩ hs,by simpa using I.len⟩ ⟨_,hs,.inl rfl⟩
  ·exact (hs.2 b (tU (sC (jYc e) I.ok.above))).trans (I.base.keep b o e n hb hx)
  ·obtain⟨sl,e1⟩:=I.base.slot b o e n hb hx;exact⟨sl,(hs.2 b (tU (sC (jYc e) I.ok.above))).trans e1⟩
  ·obtain⟨o',e1⟩:=I.base.there b o e hx;exact⟨o',(hs.2 b (tU (sC (jYc e) I.ok.above))).trans e1⟩
  ·by_cases hj:j=i
   ·subst hj;rw[hi]at e1;cases e1;rw[tZ hiσ]at e2;cases e2;exact⟨u,r,.inl ⟨hk,by simp⟩⟩
   ·rw[tY (Ne.symm hj)]at e2;obtain⟨u',r',q⟩:=hl j y v' e1 e2 e3;refine⟨u',r',?_⟩;rcases q with⟨k,e⟩|⟨k,c,e,z⟩
    ·refine .inl ⟨k,?_⟩;have:y≠x:=fun e=>hj (Wg hN e1 (e▸hi));simp[this,e]
    ·exact .inr ⟨k,c,e,z.sameBut hs (cne y c e)⟩
  ·obtain⟨w',z⟩:=I.cell y c e;exact⟨w',z.sameBut hs (cne y c e)⟩
  ·obtain⟨e,n,ne,nf,d⟩:=I.pin p hp;exact⟨(hs.2 p.1 ne).trans e,n,ne,nf,d⟩
 ·have hfn:X.fn x=true:=by
   rcases hf with z|z
   ·exact z
   ·rw[z]at hk;cases hk
  obtain⟨c,hc⟩:=I.ok.has x (.inl hk);obtain⟨w',z⟩:=I.cell x c hc;refine wpAny_storeName_cell I.ok.kind hk hc z (fun h' hc' hs=>?_);obtain⟨oc,hoc,hocd⟩:=id z;refine h { s with heap:=h' } ⟨I.ok,I.os,I.bare,⟨fun b o e n hb hx=>?_,fun b o e n hb hx=>?_,I.base.free,fun b o e hx=>?_,I.base.tups,I.base.frzs,I.base.tbls⟩,⟨m,hn.sameBut hs (Ne.symm (cne x c hc)),fun j y v' e1 e2 e3=>?_⟩,fun y c' e=>?_,I.free,I.freeC,fun p hp=>?_,tracked ⟨oc,hoc,I.freeC x c hc⟩ hs,by simpa using I.len⟩ ⟨c,hs,.inr hc⟩
  ·exact (hs.2 b (tU (sC (jYc e) (I.ok.cab x c hfn hc)))).trans (I.base.keep b o e n hb hx)
  ·obtain⟨sl,e1⟩:=I.base.slot b o e n hb hx;exact⟨sl,(hs.2 b (tU (sC (jYc e) (I.ok.cab x c hfn hc)))).trans e1⟩
  ·obtain⟨o',e1⟩:=I.base.there b o e hx;exact⟨o',(hs.2 b (tU (sC (jYc e) (I.ok.cab x c hfn hc)))).trans e1⟩
  ·by_cases hj:j=i
   ·subst hj;rw[hi]at e1;cases e1;rw[tZ hiσ]at e2;cases e2;exact⟨u,r,.inr ⟨.inl hk,c,hc,hc'⟩⟩
   ·rw[tY (Ne.symm hj)]at e2;obtain⟨u',r',q⟩:=hl j y v' e1 e2 e3;refine⟨u',r',?_⟩;rcases q with q|⟨k,c',e,z'⟩
    ·exact .inl q
    ·refine .inr ⟨k,c',e,z'.sameBut hs ?_⟩;rintro rfl;exact hj (Wg hN e1 (I.ok.inj _ _ _ e hc▸hi))
  ·by_cases hcc:c'=c
   ·subst hcc;exact⟨_,hc'⟩
   ·obtain⟨w2,z2⟩:=I.cell y c' e;exact⟨w2,z2.sameBut hs hcc⟩
  ·obtain⟨e,n,ne,nf,d⟩:=I.pin p hp;refine⟨(hs.2 p.1 ?_).trans e,n,ne,nf,d⟩;intro q;rw[q,hoc]at e;have q':oc=p.2:=jYe e;exact d w' (by rw[<-q'];exact hocd)
def qB {M:Model}{A:jNf}{E:Value->jNg->Prop}{i:Nat}{x:Str}{v:V}{u:Value}{Q:Unit->jNg->Prop}(I:Inv X jNj σ H s)(hN:X.N.Nodup)(hi:X.N[i]?=some x)(hx:Loc X.env.scope x)(r:RelV v u)
  (h:∀s',Inv X jNj (σ.set i (some v)) H s'->Q () s') (hf:autoParam (X.fn x=true\/X.env.scope.names.lookup x=some .local) au0._auto_1):jNi M A (storeName X.env x u) Q E s:=
 Yb I hN hi hx r (fun s' I' _=>h s' I') hf
def Inv.call' {s':jNg}{ch:List Addr}(I:Inv X jNj σ H s)(ho:s'.os=s.os)(u:Un (frs X.stack) ch H H' s.heap s'.heap)(hok:HOk X.prog X.w H' s'.heap)(hg:AllBare s'.gens)
  (hch:∀b∈ch,(b∈X.ex\/X.s₀.heap.objs.size<=b)/\b≠X.env.locals/\(∀x c,X.env.cells.lookup x=some c->c≠b)/\∀p∈X.pn++jNj,p.1≠b):Inv X jNj σ H' s':=by
 obtain⟨h',g',d',t',o'⟩:=s';have e:o'=s.os:=ho;subst e;exact I.call (g':=g') (t':=t') (d':=d') u hok hg hch
end
abbrev XK:=Value->Option Addr->Hp->Prop
abbrev St:=List (Option V)
abbrev VK:=V->Hp->Prop
abbrev TE:=St->Hp->VK->Prop
abbrev TT:=St->Hp->(Bool->Hp->Prop)->Prop
abbrev TA:=St->Hp->(List V->Hp->Prop)->Prop
structure Ends where
 nx:St->Hp->Prop
 rt:VK
 bk:St->Hp->Prop:=fun _ _=>False
 ct:St->Hp->Prop:=fun _ _=>False
abbrev TS:=Ends->St->Hp->Prop
def EP (X:Cx)(jNj:List (Addr×Obj))(σ:St)(Q:VK)(u:Value)(s':jNg):Prop:=∃v H',Inv X jNj σ H' s'/\RelV v u/\Q v H'
def TP (X:Cx)(jNj:List (Addr×Obj))(σ:St)(Q:Bool->Hp->Prop)(b:Bool)(s':jNg):Prop:=∃H',Inv X jNj σ H' s'/\Q b H'
def AP (X:Cx)(jNj:List (Addr×Obj))(σ:St)(Q:List V->Hp->Prop)(us:List Value)(s':jNg):Prop:=∃vs H',Inv X jNj σ H' s'/\Vals vs us/\Q vs H'
def SP (X:Cx)(jNj:List (Addr×Obj))(D:Ends)(f:Flow)(s':jNg):Prop:=
 match f with
 | .next=>∃σ' H',Inv X jNj σ' H' s'/\D.nx σ' H'
 | .brk=>∃σ' H',Inv X jNj σ' H' s'/\D.bk σ' H'
 | .cont=>∃σ' H',Inv X jNj σ' H' s'/\D.ct σ' H'
 | .ret u=>∃v σ' H',Inv X jNj σ' H' s'/\RelV v u/\D.rt v H'
def PE (X:Cx)(e:Expr)(t:TE):Prop:=
 ∀(jNj:List (Addr×Obj)) (s:jNg) (σ:St) (H:Hp) (Q:VK),Inv X jNj σ H s->t σ H Q->jNi (model X.prog X.w) X.A (eval e X.env) (EP X jNj σ Q) X.xe s
def PT (X:Cx)(e:Expr)(t:TT):Prop:=
 ∀(jNj:List (Addr×Obj)) (s:jNg) (σ:St) (H:Hp) (Q:Bool->Hp->Prop),Inv X jNj σ H s->t σ H Q->jNi (model X.prog X.w) X.A (isTrue e X.env (eval e X.env)) (TP X jNj σ Q) X.xe s
def PW (X:Cx)(e:Expr)(t:TT):Prop:=
 ∀(whole:Sem Value) (jNj:List (Addr×Obj)) (s:jNg) (σ:St) (H:Hp) (Q:Bool->Hp->Prop),Inv X jNj σ H s->t σ H Q->jNi (model X.prog X.w) X.A (isTrue e X.env whole) (TP X jNj σ Q) X.xe s
theorem PW.pt {X:Cx}{e:Expr}{t:TT}(h:PW X e t):PT X e t:=h _
def PA (X:Cx)(es:List Expr)(t:TA):Prop:=
 ∀(pos:Pos) (jNj:List (Addr×Obj)) (s:jNg) (σ:St) (H:Hp) (Q:List V->Hp->Prop),Inv X jNj σ H s->t σ H Q->jNi (model X.prog X.w) X.A (spliced (jNh pos (jNc es X.env))) (AP X jNj σ Q) X.xe s
def PS (X:Cx)(st:Stmt)(t:TS):Prop:=
 ∀(jNj:List (Addr×Obj)) (s:jNg) (σ:St) (H:Hp) (D:Ends),Inv X jNj σ H s->t D σ H->jNi (model X.prog X.w) X.A (exec st X.env) (SP X jNj D) X.xe s
def PSs (X:Cx)(st:List Stmt)(t:TS):Prop:=
 ∀(jNj:List (Addr×Obj)) (s:jNg) (σ:St) (H:Hp) (D:Ends),Inv X jNj σ H s->t D σ H->jNi (model X.prog X.w) X.A (execs st X.env) (SP X jNj D) X.xe s
def thn {α:Type}{t:Sem α}{Q Q':α->jNg->Prop}{M:Model}{A:jNf}{E:Value->jNg->Prop}{s:jNg}(h:jNi M A t Q E s)(hQ:∀a s,Q a s->Q' a s):jNi M A t Q' E s:=jMg h hQ fun _ _ x=>x
section
variable {X:Cx}
def z2O (i:Nat):TE:=fun σ H Q=>∃v,σ[i]?=some (some v)/\Q v H
def tC (v:V):TE:=fun _ H Q=>Q v H
def vq {i:Nat}{x:Str}{pos:Pos}(hN:X.N[i]?=some x)(hv:Vis X.env.scope x)(hd:autoParam ((x==("__debug__":Str))=false) au1._auto_1)(hcd:autoParam ((x==("__classdict__":Str))=false) au1._auto_1):PE X (.Name x pos) (z2O i):=by
 intro jNj s σ H Q I h;obtain⟨v,e,h⟩:=h;obtain⟨m,hn,hl⟩:=I.loc;obtain⟨u,r,l⟩:=hl i x v hN e hv;have fin:EP X jNj σ Q u s:=⟨v,H,I,r,h⟩
 rcases l with⟨hk,hm⟩|⟨hk,c,hc,hcell⟩
 ·exact wpAny_Name (wpAny_loadName_local I.ok.kind hk hn hm fin) hd
 ·rcases hk with hk|hk
  ·exact wpAny_Name (wpAny_loadName_cell I.ok.kind hk hc hcell fin) hd
  ·exact wpAny_Name (wpAny_loadName_free I.ok.kind hk hc hcell fin hcd) hd
def Xi {i j pos}:PE X (.Constant (.int i) j pos) (tC (.int i)):=fun _ _ _ H _ I h=>wpAny_Constant_int ⟨.int i,H,I.tok _,⟨_,rfl⟩,h⟩
def z4u {b j pos}:PE X (.Constant (.bool b) j pos) (tC (.bl b)):=fun _ _ _ H _ I h=>Constant_bool ⟨.bl b,H,I,rfl,h⟩
def Vw {j pos}:PE X (.Constant .none j pos) (tC .non):=fun _ _ _ H _ I h=>Constant_none ⟨.non,H,I,rfl,h⟩
def xX {x j pos}:PE X (.Constant (.str x) j pos) (tC (.str x)):=fun _ _ _ H _ I h=>Calls.Constant_str ⟨.str x,H,I.tok _,⟨_,rfl⟩,h⟩
def Gl (X:Cx)(x:Str):Prop:=X.env.kindOf x=some .globalImplicit
def vD {E:Value->jNg->Prop}{jNj:List (Addr×Obj)}{s:jNg}{σ:St}{H:Hp}{x:Str}{u:Value}{pos:Pos}{Q:Value->jNg->Prop}(I:Inv X jNj σ H s)(hg:Gl X x)(hm:X.mg x=some u)(h:Q u s)
  (hd:autoParam ((x==("__debug__":Str))=false) au1._auto_1):jNi (model X.prog X.w) X.A (eval (.Name x pos) X.env) Q E s:=
 Calls.Name_function_global I.ok.kind hg (Calls.loadGlobal_global (by rw[I.ok.glob];exact I.mod.glob.keeps I.bk) hm h) hd
def vE {E:Value->jNg->Prop}{jNj:List (Addr×Obj)}{s:jNg}{σ:St}{H:Hp}{x:Str}{u:Value}{pos:Pos}{Q:Value->jNg->Prop}(I:Inv X jNj σ H s)(hg:Gl X x)(hm:X.mg x=none)(hv:jKk x=some u)(h:Q u s)
  (hn:autoParam (x≠"__name__") au1._auto_1) (hd:autoParam ((x==("__debug__":Str))=false) au1._auto_1):jNi (model X.prog X.w) X.A (eval (.Name x pos) X.env) Q E s:=by
 obtain⟨mb,h1,h2⟩:=I.mod.blt;exact Calls.Name_function_global I.ok.kind hg (Calls.loadGlobal_builtin (by rw[I.ok.glob];exact I.mod.glob.keeps I.bk) hm (by rw[I.ok.blt];exact h1.keeps I.bk) ((h2 x hn).trans hv) h) hd
def U6 {x:Str}{v:V}{u:Value}{pos:Pos}(hg:Gl X x)(hm:X.mg x=some u)(r:RelV v u)(hd:autoParam ((x==("__debug__":Str))=false) au1._auto_1):PE X (.Name x pos) (tC v):=
 fun _ _ _ H _ I h=>vD I hg hm ⟨v,H,I,r,h⟩ hd
def wU {x:Str}{v:V}{u:Value}{pos:Pos}(hg:Gl X x)(hm:X.mg x=none)(hv:jKk x=some u)(r:RelV v u)(hn:autoParam (x≠"__name__") au1._auto_1)(hd:autoParam ((x==("__debug__":Str))=false) au1._auto_1):PE X (.Name x pos) (tC v):=
 fun _ _ _ H _ I h=>vE I hg hm hv ⟨v,H,I,r,h⟩ hn hd
variable {a b:Expr}{ta tb:TE}{pos:Pos}
def tB (t:TE):TT:=fun σ H Q=>t σ H fun x H1=>∃c,x=.bl c/\Q c H1
def z2l {e:Expr}{t:TE}(h:PE X e t)(he:autoParam (∀whole,isTrue e X.env whole=(do let v <-whole;standAt e.pos;holding [v] (truthy v))) au2._auto_1):PT X e (tB t):=by
 intro jNj s σ H Q I hw;refine isTrue_plain (thn (h jNj s σ H _ I hw) fun v s1 ⟨x,H1,I1,r1,q1⟩=>?_) (he _);obtain⟨d,rfl,q⟩:=q1;cases r1;exact jYj ⟨H1,I1,q⟩
variable {tA tB':TT}{rest:List Expr}
def z4Q (t u:TT):TT:=fun σ H Q=>t σ H fun c H1=>if c=true then u σ H1 Q else Q false H1
def tOr (t u:TT):TT:=fun σ H Q=>t σ H fun c H1=>if c=true then Q true H1 else u σ H1 Q
def z6p (t:TT):TT:=fun σ H Q=>t σ H fun c H1=>Q (!c) H1
def z09 (ha:PT X a tA):PW X (.BoolOp .And [a] pos) tA:=by
 intro wh jNj s σ H Q I h;refine isTrue_and (thn (ha jNj s σ H Q I h) fun c s1 e=>?_);cases c with
 | true=>exact isTrue_and_nil e
 | false=>exact e
def z2N (ha:PT X a tA):PW X (.BoolOp .Or [a] pos) tA:=by
 intro wh jNj s σ H Q I h;refine isTrue_or (thn (ha jNj s σ H Q I h) fun c s1 e=>?_);cases c with
 | false=>exact isTrue_or_nil e
 | true=>exact e
def z3C (ha:PT X a tA)(hb:PW X (.BoolOp .And (b::rest) pos) tB'):PW X (.BoolOp .And (a::b::rest) pos) (z4Q tA tB'):=by
 intro wh jNj s σ H Q I h;refine isTrue_and (thn (ha jNj s σ H _ I h) fun c s1 ⟨H1,I1,q1⟩=>?_);cases c with
 | true=>exact hb wh jNj s1 σ H1 Q I1 q1
 | false=>exact⟨H1,I1,q1⟩
def z5o (ha:PT X a tA)(hb:PW X (.BoolOp .Or (b::rest) pos) tB'):PW X (.BoolOp .Or (a::b::rest) pos) (tOr tA tB'):=by
 intro wh jNj s σ H Q I h;refine isTrue_or (thn (ha jNj s σ H _ I h) fun c s1 ⟨H1,I1,q1⟩=>?_);cases c with
 | true=>exact⟨H1,I1,q1⟩
 | false=>exact hb wh jNj s1 σ H1 Q I1 q1
def z2S (ha:PT X a tA):PT X (.UnaryOp .Not a pos) (z6p tA):=by
 intro jNj s σ H Q I h;exact isTrue_not (ha jNj s σ H (fun c H1=>Q (!c) H1) I h)
def z1z (ta tb:TE):TE:=fun σ H Q=>ta σ H fun x H1=>∃c,x=.bl c/\if c=true then tb σ H1 Q else Q (.bl false) H1
def z2W {op}{t:TE}(h:PE X a t):PE X (.BoolOp op [a] pos) t:=fun jNj s σ H Q I hw=>BoolOp_one (h jNj s σ H Q I hw)
def z2f (ha:PE X a ta)(hb:PE X (.BoolOp .And (b::rest) pos) tb):PE X (.BoolOp .And (a::b::rest) pos) (z1z ta tb):=by
 intro jNj s σ H Q I h;refine BoolOp_and (thn (ha jNj s σ H _ I h) fun v s1 ⟨x,H1,I1,r1,q1⟩=>?_);obtain⟨c,rfl,q1⟩:=q1;cases r1;refine jYj ?_;cases c with
 | true=>exact hb jNj s1 σ H1 Q I1 q1
 | false=>exact⟨.bl false,H1,I1,rfl,q1⟩
def tIf (t:TT)(ta tb:TE):TE:=fun σ H Q=>t σ H fun c H1=>if c=true then ta σ H1 Q else tb σ H1 Q
def QC {c:Expr}(hc:PT X c tA)(ha:PE X a ta)(hb:PE X b tb):PE X (.IfExp c a b pos) (tIf tA ta tb):=by
 intro jNj s σ H Q I h;refine wpAny_IfExp (thn (hc jNj s σ H _ I h) fun d s1 ⟨H1,I1,q1⟩=>?_);cases d with
 | true=>exact ha jNj s1 σ H1 Q I1 q1
 | false=>exact hb jNj s1 σ H1 Q I1 q1
end
def SqL (K:jJa)(H:Hp)(a:Addr)(xs:List V):Prop:=
 Rd H a (.lst xs) \/
  ∃(o:Obj) (its:Array Value) (n:Nat),K.lookup a=some o/\o.cls=.type "list"/\o.dict=none/\o.data=.seq its n/\its.size<=jNb/\Vals xs its.toList
def SqT (K:jJa)(H:Hp)(a:Addr)(xs:List V):Prop:=
 Rd H a (.tup xs) \/
  ∃(o:Obj) (its:Array Value) (n:Nat),K.lookup a=some o/\o.cls=.type "tuple"/\(o.dict=none/\o.slots=#[])/\o.data=.seq its n/\its.size<=jNb/\Vals xs its.toList
noncomputable def z6H:Value->Option V
 | .none=>some .non
 | .bool b=>some (.bl b)
 | .int i _=>some (.int i)
 | .str x _=>some (.str x)
 | .bytes b _=>some (.byt b)
 | .float b _=>some (.flt b)
 | .ref a=>some (.ref a)
 | .type n=>some (.ty n)
 | _=>none
theorem RelV.abs {x:V}{u:Value}(r:RelV x u):z6H u=some x:=by
 cases x with
 | non=>cases r;rfl
 | bl _=>cases r;rfl
 | int _=>obtain⟨t,rfl⟩:=r;rfl
 | str _=>obtain⟨t,rfl⟩:=r;rfl
 | byt _=>obtain⟨t,rfl⟩:=r;rfl
 | flt _=>obtain⟨t,rfl⟩:=r;rfl
 | ref _=>cases r;rfl
 | ty _=>cases r;rfl
theorem RelV.inj {x y:V}{u:Value}(r:RelV x u)(q:RelV y u):x=y:=jYe (r.abs.symm.trans q.abs)
theorem Vals.inj:∀ {xs ys:List V} {us:List Value},Vals xs us->Vals ys us->xs=ys
 | _,_,_,.nil,.nil=>rfl
 | _,_,_,.cons r t,.cons r' t'=>by rw[r.inj r',Vals.inj t t']
section
variable {X:Cx}{jNj:List (Addr×Obj)}{σ:St}{H:Hp}{s:jNg}{a:Addr}{xs ys:List V}
theorem SqL.of {K:jJa}(h:H a=some (.lst xs)):SqL K H a xs:=.inl (.inl h)
theorem SqT.of {K:jJa}(h:H a=some (.tup xs)):SqT K H a xs:=.inl (.inl h)
theorem Inv.list (I:Inv X jNj σ H s)(h:SqL X.K H a xs):∃its:List Value,Vals xs its/\PlainL s.heap a its.toArray/\xs.length<=sizeLine:=by
 rcases h with h|⟨o,its,n,hk,hc,hd,hs,hz,r⟩
 ·obtain⟨z,its,n,r,e⟩:=h.ok I.hok;exact⟨its,r,⟨_,n,e,rfl,rfl,rfl⟩,z⟩
 ·refine⟨its.toList,r,⟨o,n,I.kIn a o hk,hc,hd,by simpa using hs⟩,?_⟩;have e:=r.length;simp only[Array.length_toList]at e;omega
def Inv.tuple (I:Inv X jNj σ H s)(h:SqT X.K H a xs):∃its:List Value,Vals xs its/\IsTup s.heap a its.toArray/\xs.length<=sizeLine:=by
 rcases h with h|⟨o,its,n,hk,hc,_,hs,hz,r⟩
 ·obtain⟨z,its,r,p⟩:=h.ok I.hok;exact⟨its,r,p.tup,z⟩
 ·refine⟨its.toList,r,⟨o,I.kIn a o hk,hc,n,by simpa using hs⟩,?_⟩;have e:=r.length;simp only[Array.length_toList]at e;omega
def Inv.list_inj (I:Inv X jNj σ H s)(h:SqL X.K H a xs)(h':SqL X.K H a ys):xs=ys:=by
 obtain⟨its,r,⟨o,n,e,_,_,d⟩,_⟩:=I.list h;obtain⟨its',r',⟨o',n',e',_,_,d'⟩,_⟩:=I.list h';rw[e]at e';cases e';rw[d]at d';injection d' with d1 _;have:its=its':=by simpa using congrArg Array.toList d1
 subst this;exact r.inj r'
def Inv.tuple_inj (I:Inv X jNj σ H s)(h:SqT X.K H a xs)(h':SqT X.K H a ys):xs=ys:=by
 obtain⟨its,r,⟨o,e,_,n,d⟩,_⟩:=I.tuple h;obtain⟨its',r',⟨o',e',_,n',d'⟩,_⟩:=I.tuple h';rw[e]at e';cases e';rw[d]at d';injection d' with d1 _;have:its=its':=by simpa using congrArg Array.toList d1
 subst this;exact r.inj r'
end
noncomputable abbrev Cx.wish (X:Cx)(E:Value->jNg->Prop):Cx:={ X with xe:=E }
abbrev Cx.nox (X:Cx):Cx:=X.wish fun _ _=>False
theorem Cx.Ok.wish {X:Cx}(ok:X.Ok)(E:Value->jNg->Prop):(X.wish E).Ok:=
 ⟨ok.mod,ok.kind,ok.glob,ok.blt,ok.above,ok.inj,ok.has,ok.cab,ok.hd,ok.frames,ok.stk,ok.exf,ok.bs,ok.bsz,ok.noex,ok.exfs,ok.funs,ok.frf⟩
theorem Cx.Ok.unwish {X:Cx}{E:Value->jNg->Prop}(ok:(X.wish E).Ok):X.Ok:=
 ⟨ok.mod,ok.kind,ok.glob,ok.blt,ok.above,ok.inj,ok.has,ok.cab,ok.hd,ok.frames,ok.stk,ok.exf,ok.bs,ok.bsz,ok.noex,ok.exfs,ok.funs,ok.frf⟩
section
variable {X:Cx}{jNj:List (Addr×Obj)}{σ:St}{H:Hp}{s:jNg}{E:Value->jNg->Prop}
theorem Inv.wish (I:Inv X jNj σ H s)(E:Value->jNg->Prop):Inv (X.wish E) jNj σ H s:=⟨I.ok.wish E,I.os,I.bare,I.base,I.loc,I.cell,I.free,I.freeC,I.pin,I.hok,I.len⟩
theorem Inv.unwish (I:Inv (X.wish E) jNj σ H s):Inv X jNj σ H s:=⟨I.ok.unwish,I.os,I.bare,I.base,I.loc,I.cell,I.free,I.freeC,I.pin,I.hok,I.len⟩
end
section
variable {X:Cx}{st:Stmt}{rest:List Stmt}{t u:TS}{e:Expr}{te:TE}{pos:Pos}
def z1G:TS:=fun D σ H=>D.nx σ H
def z03 (t u:TS):TS:=fun D σ H=>t { D with nx:=u D } σ H
def z06:PSs X [] z1G:=fun _ _ σ H _ I h=>jKc ⟨σ,H,I,h⟩
def JB (h1:PS X st t)(h2:PSs X rest u):PSs X (st::rest) (z03 t u):=by
 intro jNj s σ H D I h;refine jKa (thn (h1 jNj s σ H { D with nx:=u D } I h) fun f s1 q=>?_);cases f with
 | next =>
  obtain⟨σ',H',I',q⟩:=q;exact h2 jNj s1 σ' H' D I' q
 | ret v=>exact q
 | brk=>exact q
 | cont=>exact q
def jI (h1:PS X st t):PSs X [st] t:=by
 intro jNj s σ H D I h;refine jKa (thn (h1 jNj s σ H D I h) fun f s1 q=>?_);cases f with
 | next=>exact jKc q
 | ret v=>exact q
 | brk=>exact q
 | cont=>exact q
def JJ:TS:=fun D σ H=>D.bk σ H
def QA:PS X (.Break pos) JJ:=fun _ _ σ H _ I h=>wpAny_Break ⟨σ,H,I,h⟩
def Inv.quiet {jNj:List (Addr×Obj)}{σ:St}{H:Hp}{s:jNg}(I:Inv X jNj σ H s):interactive X.env=false:=by simp[interactive,I.ok.kind]
def z20 (te:TE):TS:=fun D σ H=>te σ H fun _ H1=>D.nx σ H1
def jJ (he:PE X e te)(hs:autoParam (jMj e none pos.line X.env=pure false) au3._auto_1):PS X (.Expr e pos) (z20 te):=by
 intro jNj s σ H D I h;exact wpAny_Expr_any (thn (he jNj s σ H _ I h) fun v s1 ⟨x,H1,I1,r1,q1⟩=>⟨σ,H1,I1,q1⟩) I.quiet hs
def z3G (te:TE):TS:=fun D σ H=>te σ H D.rt
def Vu (he:PE X e te):PS X (.Return (some e) pos) (z3G te):=by
 intro jNj s σ H D I h;exact wpAny_Return_some (thn (he jNj s σ H _ I h) fun v s1 ⟨x,H1,I1,r1,q1⟩=>⟨x,σ,H1,I1,r1,q1⟩)
def z1d (c:TT)(t u:TS):TS:=fun D σ H=>c σ H fun b H1=>if b=true then t D σ H1 else u D σ H1
def z5c {c:Expr}{a b:List Stmt}{tc:TT}(hc:PT X c tc)(ha:PSs X a t)(hb:PSs X b u):PS X (.If c a b pos) (z1d tc t u):=by
 intro jNj s σ H D I h;refine wpAny_If (thn (hc jNj s σ H _ I h) fun d s1 ⟨H1,I1,q1⟩=>?_);cases d with
 | true=>exact ha jNj s1 σ H1 D I1 q1
 | false=>exact hb jNj s1 σ H1 D I1 q1
def Qq:TS:=fun _ _ _=>False
def Qt:PS X st Qq:=fun _ _ _ _ _ _ h=>h.elim
end
abbrev TG:=V->St->Hp->(St->Hp->Prop)->Prop
abbrev TGs:=List V->St->Hp->(St->Hp->Prop)->Prop
def PG (X:Cx)(target:Expr)(t:TG):Prop:=
 ∀(jNj:List (Addr×Obj)) (s:jNg) (σ:St) (H:Hp) (v:V) (u:Value) (Q:St->Hp->Prop),Inv X jNj σ H s->RelV v u->t v σ H Q ->
  jNi (model X.prog X.w) X.A (assign target X.env u) (fun _ s'=>∃σ' H',Inv X jNj σ' H' s'/\Q σ' H') X.xe s
def PGs (X:Cx)(ts:List Expr)(t:TGs):Prop:=
 ∀(jNj:List (Addr×Obj)) (s:jNg) (σ:St) (H:Hp) (vs:List V) (us:List Value) (Q:St->Hp->Prop),Inv X jNj σ H s->Vals vs us->t vs σ H Q ->
  jNi (model X.prog X.w) X.A (assignInOrder ((jMe ts X.env).map (·.2)) us) (fun _ s'=>∃σ' H',Inv X jNj σ' H' s'/\Q σ' H') X.xe s
abbrev z2H:=V->V->V->Hp->(Hp->Prop)->Prop
def z4D (X:Cx)(t:z2H):Prop:=
 ∀(jNj:List (Addr×Obj)) (s:jNg) (σ:St) (H:Hp) (o i v:V) (ov iv u:Value) (Q:Hp->Prop),Inv X jNj σ H s->RelV o ov->RelV i iv->RelV v u->t o i v H Q ->
  jNi (model X.prog X.w) X.A (setItem ov iv u) (fun _ s'=>∃H',Inv X jNj σ H' s'/\Q H') X.xe s
abbrev TIp:=V->V->Hp->VK->Prop
def PIp (X:Cx)(op:Operator)(t:TIp):Prop:=
 ∀(jNj:List (Addr×Obj)) (s:jNg) (σ:St) (H:Hp) (x y:V) (v u:Value) (Q:VK),Inv X jNj σ H s->RelV x v->RelV y u->t x y H Q ->
  jNi (model X.prog X.w) X.A (inplaceOp op v u) (EP X jNj σ Q) X.xe s
section
variable {X:Cx}{pos:Pos}
def jm (i:Nat):TG:=fun v σ H Q=>Q (σ.set i (some v)) H
def z0S {i:Nat}{x:Str}(hN:X.N.Nodup)(hi:X.N[i]?=some x)(hx:Loc X.env.scope x)(hf:autoParam (X.fn x=true\/X.env.scope.names.lookup x=some .local) au0._auto_1):PG X (.Name x pos) (jm i):=by
 intro jNj s σ H v u Q I r h;exact wpAny_assign_Name (qB I hN hi hx r (fun s' I'=>⟨_,H,I',h⟩) hf)
def z5r:TGs:=fun vs σ H Q=>vs=[]/\Q σ H
def z4R (t:TG)(u:TGs):TGs:=fun vs σ H Q=>∃v r,vs=v::r/\t v σ H fun σ' H'=>u r σ' H' Q
def KU:PGs X [] z5r:=by
 intro jNj s σ H vs us Q I r h;obtain⟨e,h⟩:=h;subst e;cases r;exact assignInOrder_nil ⟨σ,H,I,h⟩
def QX {e:Expr}{es:List Expr}{t:TG}{u:TGs}(h1:PG X e t)(h2:PGs X es u)
  (hs:autoParam ((jMe (e::es) X.env).map (·.2)=assign e X.env::(jMe es X.env).map (·.2)) au3._auto_1):PGs X (e::es) (z4R t u):=by
 intro jNj s σ H vs us Q I r h;obtain⟨v,vr,e1,h⟩:=h;subst e1;cases r with
 | cons r rr =>
  rw[hs];refine assignInOrder_cons (thn (h1 jNj s σ H _ _ _ I r h) fun _ s1 ⟨σ1,H1,I1,q1⟩=>?_);exact h2 jNj s1 σ1 H1 _ _ Q I1 rr q1
def z5A (K:jJa)(n:Nat)(t:TGs):TG:=fun v σ H Q=>∃a xs,v=.ref a/\SqT K H a xs/\xs.length=n/\t xs σ H Q
def z2V {es:List Expr}{k:Nat}{t:TGs}{n:Nat}(hc:X.calm=true)(h:PGs X es t)
  (hn:autoParam ((jMe es X.env).length=n) au3._auto_1) (hst:autoParam ((jMe es X.env).findIdx? (·.1)=none) au3._auto_1):PG X (.Tuple es k pos) (z5A X.K n t):=by
 intro jNj s σ H v u Q I r hw;obtain⟨a,xs,e1,hq,hl,hw⟩:=hw;subst e1;cases r;obtain⟨its,rv,ht,hz⟩:=I.tuple hq;refine assign_Tuple_tuple (I.ok.hd hc) ht (by simp[hn,<-hl,rv.length]) hst fun h' hx=>?_;have I1:Inv X jNj σ H { s with heap:=h' }:=I.kept (t':=s.toks) fun b o e=>hx b o (tU (jYc e)) e;exact h jNj _ σ H xs _ Q I1 (by simpa using rv) hw
def z7a (to ti:TE)(t:z2H):TG:=fun v σ H Q=>to σ H fun o H1=>ti σ H1 fun i H2=>t o i v H2 fun H3=>Q σ H3
def z2e {o i:Expr}{to ti:TE}{t:z2H}(ho:PE X o to)(hi:PE X i ti)(hs:z4D X t)
  (ha:autoParam (∀v,assign (.Subscript o i pos) X.env v=(do
   let ov <-holding [v] (eval o X.env)
   let iv <-holding [v,ov] (eval i X.env)
   standAt pos
   holding [v,ov,iv] (setItem ov iv v)
   release [v,ov,iv] [])) au2._auto_1):PG X (.Subscript o i pos) (z7a to ti t):=by
 intro jNj s σ H v u Q I r h;rw[ha];refine jMf (jKi (thn (ho jNj s σ H _ I h) fun ov s1 ⟨x,H1,I1,r1,q1⟩=>?_));refine jMf (jKi (thn (hi jNj s1 σ H1 _ I1 q1) fun iv s2 ⟨y,H2,I2,r2,q2⟩=>?_));refine jMf (jKj (jMf (jKi (thn (hs jNj s2 σ H2 x y v ov iv u _ I2 r1 r2 r q2) fun _ s3 ⟨H3,I3,q3⟩=>?_))));exact wpAny_release ⟨σ,H3,I3,q3⟩
def z2g (te:TE)(g:TG):TS:=fun D σ H=>te σ H fun x H1=>g x σ H1 D.nx
def V4 {tg e:Expr}{te:TE}{g:TG}(he:PE X e te)(hg:PG X tg g)(hs:autoParam (swapsWithSole [tg] e pos.line X.env=pure false) au3._auto_1)(hw:autoParam (swappedStores [tg] e X.env=pure none) au3._auto_1)
  (h1:autoParam ((jMe [tg] X.env).map (·.2)=[assign tg X.env]) au3._auto_1):PS X (.Assign [tg] e pos) (z2g te g):=by
 intro jNj s σ H D I h;refine wpAny_Assign_stores (thn (he jNj s σ H _ I h) fun v s1 ⟨x,H1,I1,r1,q1⟩=>?_) hs hw;rw[h1];exact thn (hg jNj s1 σ H1 x v _ I1 r1 q1) fun _ s2 q=>q
def QN {i:Nat}{x:Str}{e:Expr}{te:TE}{pos':Pos}(hN:X.N.Nodup)(hi:X.N[i]?=some x)(hx:Loc X.env.scope x)(he:PE X e te)(hs:autoParam (jMj e (some (.Name x pos')) pos.line X.env=pure false) au3._auto_1)(hf:autoParam (X.fn x=true\/X.env.scope.names.lookup x=some .local) au0._auto_1):
  PS X (.Assign [.Name x pos'] e pos) (z2g te (jm i)):=by
 intro jNj s σ H D I h;refine wpAny_Assign_Name (thn (he jNj s σ H _ I h) fun v s1 ⟨y,H1,I1,r1,q1⟩=>?_) hs;exact qB I1 hN hi hx r1 (fun s2 I2=>⟨_,H1,I2,q1⟩) hf
def z6Z (i:Nat)(te:TE)(ti:TIp):TS:=fun D σ H=>∃x,σ[i]?=some (some x)/\te σ H fun y H1=>ti x y H1 fun z H2=>D.nx (σ.set i (some z)) H2
def z2X {i:Nat}{x:Str}{e:Expr}{te:TE}{op:Operator}{ti:TIp}{pos':Pos}(hN:X.N.Nodup)(hi:X.N[i]?=some x)(hx:Loc X.env.scope x)(he:PE X e te)(ho:PIp X op ti)(hf:autoParam (X.fn x=true\/X.env.scope.names.lookup x=some .local) au0._auto_1):
  PS X (.AugAssign (.Name x pos') op e pos) (z6Z i te ti):=by
 intro jNj s σ H D I h;obtain⟨v,e1,h⟩:=h;obtain⟨m,hn,hl⟩:=I.loc;have vis:Vis X.env.scope x:=by rcases hx with k|k;exact .inl k;exact .inr (.inl k)
 obtain⟨u,r,l⟩:=hl i x v hi e1 vis;refine wpAny_AugAssign_Name ?_;have go:jNi (model X.prog X.w) X.A (eval e X.env) (fun w s₂=>jNi (model X.prog X.w) X.A (inplaceOp op u w) (fun r s₃=>jNi (model X.prog X.w) X.A (storeName X.env x r) (fun _=>SP X jNj D .next) X.xe s₃) X.xe s₂) X.xe s:=by
  refine thn (he jNj s σ H _ I h) fun w s1 ⟨y,H1,I1,r1,q1⟩=>?_;refine thn (ho jNj s1 σ H1 v y u w _ I1 r r1 q1) fun z s2 ⟨zv,H2,I2,r2,q2⟩=>?_;exact qB I2 hN hi hx r2 (fun s3 I3=>⟨_,H2,I3,q2⟩) hf
 rcases l with⟨hk,hm⟩|⟨hk,c,hc,hcell⟩
 ·exact wpAny_loadName_local I.ok.kind hk hn hm go
 ·rcases hk with hk|hk
  ·exact wpAny_loadName_cell I.ok.kind hk hc hcell go
  ·rcases hx with k|k
   ·have:X.env.scope.names.lookup x=some .free:=hk;rw[k]at this;cases this
   ·have:X.env.scope.names.lookup x=some .free:=hk;rw[k]at this;cases this
def ipI (f:Int->Int->Int):TIp:=fun x y H Q=>∃i j,x=.int i/\y=.int j/\Q (.int (f i j)) H
def z3L:PIp X .Add (ipI fun i j=>i+j):=by
 intro jNj s σ H x y v u Q I r1 r2 h;obtain⟨i,j,e1,e2,q⟩:=h;subst e1;subst e2;obtain⟨t,rfl⟩:=r1;obtain⟨t',rfl⟩:=r2;exact iadd_int ⟨.int _,H,I.tok _,⟨_,rfl⟩,q⟩
end
section
variable {X:Cx}{pos:Pos}
def z3l (c:TT)(tb:TS):TS:=fun D σ H=>∃W:Nat->St->Hp->Prop,(∃m,W m σ H)/\∀m σ H,W m σ H ->
 c σ H fun b H1=>if b=true then ∃N:St->Hp->Prop,(∀σ' H',N σ' H'->∃m',m'<m/\W m' σ' H')/\tb { D with nx:=N,ct:=N,bk:=D.nx } σ H1 else D.nx σ H1
def J3 {c:Expr}{body:List Stmt}{tc:TT}{tb:TS}(hp:jMk (model X.prog X.w) X.A X.env X.xe)(hc:PT X c tc)(hb:PSs X body tb):PS X (.While c body [] pos) (z3l tc tb):=by
 intro jNj s σ H D I h;obtain⟨W,⟨m0,w0⟩,turn⟩:=h;refine wpAny_While (codeAny_whileLoop (fun n s'=>∃σ' H',Inv X jNj σ' H' s'/\W n σ' H') ?_ m0 ⟨σ,H,I,w0⟩);rintro n s1 ⟨σ1,H1,I1,w1⟩;refine jKe hp (thn (hc jNj s1 σ1 H1 _ I1 (turn n σ1 H1 w1)) fun b s2 ⟨H2,I2,q2⟩=>?_);cases b with
 | true =>
  obtain⟨N,hN,q2⟩:=q2;rw[jNk rfl];refine jKe hp (thn (hb jNj s2 σ1 H2 _ I2 q2) fun f s3 q3=>?_);cases f with
  | next =>
   obtain⟨σ3,H3,I3,n3⟩:=q3;obtain⟨m',hm,w3⟩:=hN σ3 H3 n3;exact⟨m',hm,σ3,H3,I3,w3⟩
  | cont =>
   obtain⟨σ3,H3,I3,n3⟩:=q3;obtain⟨m',hm,w3⟩:=hN σ3 H3 n3;exact⟨m',hm,σ3,H3,I3,w3⟩
  | brk=>exact q3
  | ret v=>exact q3
 | false =>
  rw[jPa tP];exact jKc ⟨σ1,H2,I2,q2⟩
end
structure It where
 go:Nat->Hp->Prop
 yld:Nat->Hp->V->Hp->Prop
 stop:Nat->Hp->Prop
def wH (X:Cx)(jNj:List (Addr×Obj))(H:Hp)(b:Addr):Prop:=
 H b=none/\b≠X.env.locals/\b∉X.fs/\(b∈X.ex\/X.s₀.heap.objs.size<=b)/\(∀x c,X.env.cells.lookup x=some c->c≠b)/\∀p∈X.pn++jNj,p.1≠b
theorem Inv.fpOk {X:Cx}{jNj:List (Addr×Obj)}{σ:St}{H H':Hp}{s:jNg}{b:Addr}(I:Inv X jNj σ H s)(hb:s.heap.objs.size<=b)(hn:H' b=none):wH X jNj H' b:=by
 refine⟨hn,rY (sC I.lt hb),I.nofs hb,.inr (sE I.sz hb),fun x c e z=>?_,fun p hp z=>?_⟩
 ·obtain⟨v,q⟩:=I.cell x c e;exact absurd (sC q.lt (by rw[z];exact hb)) (sW _)
 ·exact absurd (sC (jYc (I.pin p hp).1) (by rw[z];exact hb)) (sW _)
structure Turn (P:jNe)(w:World)(K:jJa)(tg:Expr)(J:It)(fp:List Addr)(it:Addr)(tn:Nat->Heap->Prop):Prop where
 mem:it∈fp
 obj:∀i h,tn i h->∀b∈fp,∃o,h.get? b=some o/\∀v,o.data≠.cell v
 keep:∀i h h',tn i h->(∀b∈fp,∀o,h.get? b=some o->h'.get? b=some o)->tn i h'
 item:∀(X:Cx),X.prog=P->X.w=w->X.K=K->X.calm=true->∀(i:Nat) (jNj:List (Addr×Obj)) (s:jNg) (σ:St) (H:Hp) (E:Value->jNg->Prop),Inv X jNj σ H s->(∀b∈fp,wH X jNj H b)->tn i s.heap->J.go i H ->
  jNi (model P w) X.A (pyNext (.ref it)) (fun r s1=>∃u,r=some u /\
   jNi (model P w) X.A (letOwnedTupleGo tg (.ref it) u) (fun _ s2=>∃x H',Inv X jNj σ H' s2/\RelV x u/\J.yld i H x H'/\tn (i+1) s2.heap/\∀b∈fp,H' b=none) E s1) E s
 done:∀(X:Cx),X.prog=P->X.w=w->X.K=K->X.calm=true->∀(i:Nat) (jNj:List (Addr×Obj)) (s:jNg) (σ:St) (H:Hp) (E:Value->jNg->Prop),Inv X jNj σ H s->(∀b∈fp,wH X jNj H b)->tn i s.heap->J.stop i H ->
  jNi (model P w) X.A (pyNext (.ref it)) (fun r s1=>r=none/\Inv X jNj σ H s1) E s
 self:∀(A:jNf) (i:Nat) (s:jNg) (Q:Value->jNg->Prop) (E:Value->jNg->Prop),tn i s.heap->Q (.ref it) s->jNi (model P w) A (pyIter (.ref it)) Q E s
abbrev TI:=St->Hp->(It->Hp->Prop)->Prop
def PIE (X:Cx)(jNj:List (Addr×Obj))(σ:St)(tg:Expr)(R:It->Hp->Prop)(itv:Value)(s2:jNg):Prop:=
 ∃(it:Addr) (fp:List Addr) (tn:Nat->Heap->Prop) (J:It) (H':Hp),itv=.ref it/\Inv X jNj σ H' s2/\Turn X.prog X.w X.K tg J fp it tn/\tn 0 s2.heap/\(∀b∈fp,wH X jNj H' b)/\R J H'
def PI (X:Cx)(tg iter:Expr)(wi:TI):Prop:=
 ∀(jNj:List (Addr×Obj)) (s:jNg) (σ:St) (H:Hp) (R:It->Hp->Prop),Inv X jNj σ H s->wi σ H R ->
  jNi (model X.prog X.w) X.A (eval iter X.env) (fun v s1=>jNi (model X.prog X.w) X.A (pyIter v) (PIE X jNj σ tg R) X.xe s1) X.xe s
def Ye {M:Model}{A:jNf}{E:Value->jNg->Prop}{s:jNg}{tg:Expr}{it:Addr}{u:Value}{o:Obj}{n:String}{vs:Array Value}{Q:Unit->jNg->Prop}(ho:s.heap.get? it=some o)(hc:o.cls=.type n)(hd:o.data=.fields vs)
  (hn:["enumerate","zip","dict_itemiterator","dict_reverseitemiterator","odict_iterator","itertools.zip_longest","itertools.pairwise"].contains n=false) (hQ:Q () s):jNi M A (letOwnedTupleGo tg (.ref it) u) Q E s:=by
 unfold letOwnedTupleGo;cases tg<;>first
  | exact jMh hQ
  | (cases u<;>first
    | exact jMh hQ
    | (refine jMf (wpAny_load ho ?_);rw[hc,hd];show jNi M A (if (["enumerate","zip","dict_itemiterator","dict_reverseitemiterator","odict_iterator","itertools.zip_longest","itertools.pairwise"].contains n&&vs[0]?==some (rawInt _))=true then _ else _) Q E s;rw[jPa (by intro h;rw[hn,Bool.false_and]at h;cases h)];exact jMh hQ))
def Itl (K:jJa)(a:Addr):It:=
 ⟨fun i H=>∃xs x,SqL K H a xs/\xs[i]?=some x,fun i H x H'=>H'=H/\∀xs,SqL K H a xs->xs[i]?=some x,fun i H=>∃xs,SqL K H a xs/\xs.length<=i⟩
def Itt (K:jJa)(a:Addr):It:=
 ⟨fun i H=>∃xs x,SqT K H a xs/\xs[i]?=some x,fun i H x H'=>H'=H/\∀xs,SqT K H a xs->xs[i]?=some x,fun i H=>∃xs,SqT K H a xs/\xs.length<=i⟩
def Itr (lo:Int)(n:Nat):It:=⟨fun i _=>i<n,fun i H x H'=>H'=H/\x=.int (lo+i),fun i _=>n<=i⟩
def Ur {P:jNe}{w:World}{K:jJa}{tg:Expr}(a it:Addr):Turn P w K tg (Itl K a) [it] it (fun i h=>h.IsListIter it a i) where
 mem:=by simp
 obj:=fun i h st b hb=>by
  have e:b=it:=by simpa using hb
  subst e;obtain⟨o,e,c,d⟩:=st;exact⟨o,e,fun v z=>by rw[d]at z;cases z⟩
 keep:=fun i h h' st k=>st.at fun o e=>k it (by simp) o e
 item:=by
  intro X hP hw hK hc i jNj s σ H E I hf st hg;subst hP hw hK;obtain⟨xs,x,hq,hx⟩:=hg;obtain⟨its,rv,p,hz⟩:=I.list hq;obtain⟨u,hu,ru⟩:=rv.get hx;obtain⟨f0,f1,f2,f3,f4,f5⟩:=hf it (by simp);refine wpAny_pyNext_list_item st p.isList (x:=u) (by simpa using hu) fun h' st' sb=>?_;have I1:Inv X jNj σ H { s with heap:=h' }:=I.turned (t':=s.toks) (fun b o hb e=>(sb.2 b hb).trans e) f0 f1 f3 f4 f5;obtain⟨o,e,c,d⟩:=id st';exact⟨u,rfl,Ye (s:={ s with heap:=h' }) e c d (by decide) ⟨x,H,I1,ru,⟨rfl,fun ys hy=>by rw[I.list_inj hy hq];exact hx⟩,st',fun b hb=>(hf b hb).1⟩⟩
 done:=by
  intro X hP hw hK hc i jNj s σ H E I hf st hg;subst hP hw hK;obtain⟨xs,hq,hx⟩:=hg;obtain⟨its,rv,p,hz⟩:=I.list hq;obtain⟨f0,f1,f2,f3,f4,f5⟩:=hf it (by simp);have hl:=rv.length;exact wpAny_pyNext_list_end (I.ok.hd hc) st p.isList (by simp;omega) fun h' eb=>⟨rfl,I.turned (t':=s.toks) (fun b o hb e=>eb b o hb e) f0 f1 f3 f4 f5⟩
 self:=fun _ _ _ _ _ st h=>wpAny_pyIter_listiter st h
def V5 {P:jNe}{w:World}{K:jJa}{tg:Expr}(a it:Addr):Turn P w K tg (Itt K a) [it] it (fun i h=>h.IsTupleIter it a i) where
 mem:=by simp
 obj:=fun i h st b hb=>by
  have e:b=it:=by simpa using hb
  subst e;obtain⟨o,e,c,d⟩:=st;exact⟨o,e,fun v z=>by rw[d]at z;cases z⟩
 keep:=fun i h h' st k=>st.at fun o e=>k it (by simp) o e
 item:=by
  intro X hP hw hK hc i jNj s σ H E I hf st hg;subst hP hw hK;obtain⟨xs,x,hq,hx⟩:=hg;obtain⟨its,rv,p,hz⟩:=I.tuple hq;obtain⟨u,hu,ru⟩:=rv.get hx;obtain⟨f0,f1,f2,f3,f4,f5⟩:=hf it (by simp);refine wpAny_pyNext_tuple_item st (show s.heap.IsTuple a its.toArray from p) (x:=u) (by simpa using hu) fun h' st' sb=>?_;have I1:Inv X jNj σ H { s with heap:=h' }:=I.turned (t':=s.toks) (fun b o hb e=>(sb.2 b hb).trans e) f0 f1 f3 f4 f5;obtain⟨o,e,c,d⟩:=id st';exact⟨u,rfl,Ye (s:={ s with heap:=h' }) e c d (by decide) ⟨x,H,I1,ru,⟨rfl,fun ys hy=>by rw[I.tuple_inj hy hq];exact hx⟩,st',fun b hb=>(hf b hb).1⟩⟩
 done:=by
  intro X hP hw hK hc i jNj s σ H E I hf st hg;subst hP hw hK;obtain⟨xs,hq,hx⟩:=hg;obtain⟨its,rv,p,hz⟩:=I.tuple hq;obtain⟨f0,f1,f2,f3,f4,f5⟩:=hf it (by simp);have hl:=rv.length;exact wpAny_pyNext_tuple_end (I.ok.hd hc) st (show s.heap.IsTuple a its.toArray from p) (by simp;omega) fun h' eb=>⟨rfl,I.turned (t':=s.toks) (fun b o hb e=>eb b o hb e) f0 f1 f3 f4 f5⟩
 self:=fun _ _ _ _ _ st h=>wpAny_pyIter_tupleiter st h
def V8 {P:jNe}{w:World}{K:jJa}{tg:Expr}(it:Addr)(lo:Int)(n:Nat):Turn P w K tg (Itr lo n) [it] it (fun i h=>IsRangeIter h it (lo+(i:Nat)*1) ((n:Int)-(i:Nat)) 1) where
 mem:=by simp
 obj:=fun i h st b hb=>by
  have e:b=it:=by simpa using hb
  subst e;exact⟨_,st,fun v z=>by
   have z':Data.fields _=Data.cell v:=z;cases z'⟩
 keep:=fun i h h' st k=>k it (by simp) _ st
 item:=by
  intro X hP hw hK hc i jNj s σ H E I hf st hg;subst hP hw hK;obtain⟨f0,f1,f2,f3,f4,f5⟩:=hf it (by simp);have W:=Walks.range (prog:=X.prog) (w:=X.w) (I.ok.hd hc) it lo 1 n;refine W.item i s _ _ hg st fun v h' tk hv st' kk=>?_;obtain⟨t,rfl⟩:=hv;have I1:Inv X jNj σ H { s with heap:=h',toks:=tk }:=I.turned (fun b o hb e=>kk b o (by simpa using hb) e) f0 f1 f3 f4 f5;refine⟨_,rfl,Ye (s:={ s with heap:=h',toks:=tk }) (n:="range_iterator") st' rfl rfl (by decide) ⟨.int (lo+i),H,I1,⟨t,?_⟩,⟨rfl,rfl⟩,st',fun b hb=>(hf b hb).1⟩⟩;rw[Int.mul_one]
 done:=by
  intro X hP hw hK hc i jNj s σ H E I hf st hg;subst hP hw hK;obtain⟨f0,f1,f2,f3,f4,f5⟩:=hf it (by simp);exact wpAny_pyNext_range_end (I.ok.hd hc) st (by have:n<=i:=hg;omega) fun h' eb=>⟨rfl,I.turned (t':=s.toks) (fun b o hb e=>eb b o hb e) f0 f1 f3 f4 f5⟩
 self:=fun _ _ _ _ _ st h=>wpAny_pyIter_rangeiter st h
section
variable {X:Cx}{tg:Expr}
def z1Q (K:jJa)(tl:TE):TI:=fun σ H R=>tl σ H fun x H1=>∃a,x=.ref a/\(∃xs,SqL K H1 a xs)/\R (Itl K a) H1
def z6n (K:jJa)(tl:TE):TI:=fun σ H R=>tl σ H fun x H1=>∃a,x=.ref a/\(∃xs,SqT K H1 a xs)/\R (Itt K a) H1
def VB {l:Expr}{tl:TE}(hl:PE X l tl):PI X tg l (z1Q X.K tl):=by
 intro jNj s σ H R I h;refine thn (hl jNj s σ H _ I h) fun v s1 ⟨x,H1,I1,r1,q1⟩=>?_;obtain⟨a,e,⟨xs,hq⟩,q⟩:=q1;subst e;cases r1;obtain⟨its,rv,p,hz⟩:=I1.list hq;refine wpAny_pyIter_list p.isList ?_;refine⟨s1.heap.objs.size,[s1.heap.objs.size],_,_,H1,rfl,I1.kept (t':=s1.toks) fun b o e=>jYb _ e,Ur a _,⟨_,jYd _ rfl,rfl,rfl⟩,fun b hb=>?_,q⟩;have e:b=s1.heap.objs.size:=by simpa using hb
 subst e;exact I1.fpOk (tI _) (I1.hok.fresh (tI _))
def z2y {l:Expr}{tl:TE}(hl:PE X l tl):PI X tg l (z6n X.K tl):=by
 intro jNj s σ H R I h;refine thn (hl jNj s σ H _ I h) fun v s1 ⟨x,H1,I1,r1,q1⟩=>?_;obtain⟨a,e,⟨xs,hq⟩,q⟩:=q1;subst e;cases r1;obtain⟨its,rv,p,hz⟩:=I1.tuple hq;refine wpAny_pyIter_tuple (show s1.heap.IsTuple a its.toArray from p) ?_;refine⟨s1.heap.objs.size,[s1.heap.objs.size],_,_,H1,rfl,I1.kept (t':=s1.toks) fun b o e=>jYb _ e,V5 a _,⟨_,jYd _ rfl,rfl,rfl⟩,fun b hb=>?_,q⟩;have e:b=s1.heap.objs.size:=by simpa using hb
 subst e;exact I1.fpOk (tI _) (I1.hok.fresh (tI _))
def XI {jNj:List (Addr×Obj)}{σ:St}{H:Hp}{s:jNg}{R:It->Hp->Prop}{E:Value->jNg->Prop}{lo hi:Int}{t u v:Tok}{tk:Nat}(I:Inv X jNj σ H s)(h1:-(2 ^ 62)<=lo)(h2:lo<2 ^ 62)(h3:-(2 ^ 62)<=hi)(h4:hi<2 ^ 62)
  (q:R (Itr lo (hi-lo).toNat) H):jNi (model X.prog X.w) X.A (pyIter (.ref s.heap.objs.size)) (PIE X jNj σ tg R) E { s with heap:=s.heap.push { cls:=.type "range",data:=.fields #[.int lo t,.int hi u,.int 1 v] },toks:=tk }:=by
 refine wpAny_pyIter_range (IsRange.new ..) (small_one h1 h2 h3 h4) ?_;have I1:Inv X jNj σ H { s with heap:=s.heap.push { cls:=.type "range",data:=.fields #[.int lo t,.int hi u,.int 1 v] },toks:=tk }:=I.kept fun b o e=>jYb _ e;refine⟨(s.heap.push { cls:=.type "range",data:=.fields #[.int lo t,.int hi u,.int 1 v] }).objs.size,[(s.heap.push { cls:=.type "range",data:=.fields #[.int lo t,.int hi u,.int 1 v] }).objs.size],_,_,H,rfl,
  I1.kept (t':=tk) fun b o e=>jYb _ e,V8 _ lo (hi-lo).toNat,?_,fun b hb=>?_,q⟩
 ·have e1:lo+((0:Nat):Int)*1=lo:=by simp
  have e2:(((hi-lo).toNat:Nat):Int)-((0:Nat):Int)=Builtin.Range.rangeSize lo hi 1:=by rw[rangeSize_one];split<;>omega
  show IsRangeIter _ _ (lo+((0:Nat):Int)*1) ((((hi-lo).toNat:Nat):Int)-((0:Nat):Int)) 1;rw[e1,e2];exact jYd _ rfl
 ·have e:b=(s.heap.push { cls:=.type "range",data:=.fields #[.int lo t,.int hi u,.int 1 v] }).objs.size:=by simpa using hb
  subst e;exact I1.fpOk (tI _) (I1.hok.fresh (tI _))
def z5p (ta:TA):TI:=fun σ H R=>ta σ H fun vs H1=>∃j:Int,vs=[.int j]/\-(2 ^ 62)<=j/\j<2 ^ 62/\R (Itr 0 j.toNat) H1
def z5z (ta:TA):TI:=fun σ H R=>ta σ H fun vs H1=>∃i j:Int,vs=[.int i,.int j]/\(-(2 ^ 62)<=i/\i<2 ^ 62/\-(2 ^ 62)<=j/\j<2 ^ 62)/\R (Itr i (j-i).toNat) H1
def Q2 {a:Expr}{ta:TA}{p pos:Pos}(hg:Gl X "range")(hm:X.mg "range"=none)(ha:PA X [a] ta)(hs:autoParam (jNc [a] X.env=[(false,eval a X.env)]) au3._auto_1):PI X tg (.Call (.Name "range" p) [a] [] pos) (z5p ta):=by
 intro jNj s σ H R I h;refine Call_ (vE I hg hm boot_range (PyProof.Rows.callWith_type1 (thn (ha pos jNj s σ H _ I h) fun us s1 ⟨vs,H1,I1,r1,q1⟩=>?_) hs rfl));obtain⟨j,e,q1,q2,q⟩:=q1;subst e;cases r1 with
 | cons r rr =>
  cases rr;obtain⟨t,rfl⟩:=r;exact call_range_1 (XI I1 (by omega) (by omega) q1 q2 (by simpa using q))
def UI {a b:Expr}{ta:TA}{p pos:Pos}(hg:Gl X "range")(hm:X.mg "range"=none)(ha:PA X [a,b] ta)(hs:autoParam (jNc [a,b] X.env=[(false,eval a X.env),(false,eval b X.env)]) au3._auto_1)(hs2:autoParam (jNc [b] X.env=[(false,eval b X.env)]) au3._auto_1):
  PI X tg (.Call (.Name "range" p) [a,b] [] pos) (z5z ta):=by
 intro jNj s σ H R I h;refine Call_ (vE I hg hm boot_range (PyProof.Rows.callWith_type1 (thn (ha pos jNj s σ H _ I h) fun us s1 ⟨vs,H1,I1,r1,q1⟩=>?_) (by rw[hs,hs2]) (by rw[hs2];rfl)));obtain⟨i,j,e,⟨q1,q2,q3,q4⟩,q⟩:=q1;subst e;cases r1 with
 | cons r rr =>
  cases rr with
  | cons r' rr =>
   cases rr;obtain⟨t,rfl⟩:=r;obtain⟨t',rfl⟩:=r';exact call_range_2 (XI I1 q1 q2 q3 q4 q)
def z3K (wi:TI)(g:TG)(tb:TS):TS:=fun D σ H=>wi σ H fun J H1=>∃W:Nat->Nat->St->Hp->Prop,(∃m,W 0 m σ H1)/\∀i m σ H,W i m σ H ->
 (J.stop i H/\D.nx σ H)\/(J.go i H/\∃N:St->Hp->Prop,(∀σ' H',N σ' H'->∃m',m'<m/\W (i+1) m' σ' H')/\∀x H',J.yld i H x H'->g x σ H' fun σ2 H2=>tb { D with nx:=N,ct:=N,bk:=D.nx } σ2 H2)
def vW (fp:List Addr)(h:Heap):List (Addr×Obj):=fp.filterMap fun b=>(h.get? b).map fun o=>(b,o)
def yG {fp:List Addr}{h:Heap}{b:Addr}{o:Obj}(hb:b∈fp)(e:h.get? b=some o):(b,o)∈vW fp h:=rA.mpr ⟨b,hb,by rw[e];rfl⟩
def Uq {fp:List Addr}{h:Heap}{p:Addr×Obj}(hp:p∈vW fp h):p.1∈fp/\h.get? p.1=some p.2:=by
 obtain⟨b,hb,e⟩:=rA.mp hp;cases q:h.get? b with
 | none=>rw[q]at e;cases e
 | some o =>
  rw[q]at e;have e':(b,o)=p:=jYe e;subst e';exact⟨hb,q⟩
def Inv.pinned {jNj:List (Addr×Obj)}{σ:St}{H:Hp}{s:jNg}{fp:List Addr}(I:Inv X jNj σ H s)(hf:∀b∈fp,wH X jNj H b)(ho:∀b∈fp,∃o,s.heap.get? b=some o/\∀v,o.data≠.cell v):Inv X (jNj++vW fp s.heap) σ H s:=
 I.pins_of fun p hp=>(tS.mp hp).elim (fun z=>I.pin p (tD _ z)) fun z=>by
  obtain⟨hb,e⟩:=Uq z;obtain⟨f0,f1,f2,_⟩:=hf p.1 hb;obtain⟨o,e',d⟩:=ho p.1 hb;rw[e]at e';cases e';exact⟨e,f0,f1,f2,d⟩
def Inv.unpinned {jNj pl:List (Addr×Obj)}{σ:St}{H:Hp}{s:jNg}(I:Inv X (jNj++pl) σ H s):Inv X jNj σ H s:=I.pins_of fun p hp=>I.pin p (tD _ (tL _ hp))
def Qr {iter:Expr}{body:List Stmt}{wi:TI}{g:TG}{tb:TS}{pos:Pos}(hp:jMk (model X.prog X.w) X.A X.env X.xe)(hc:X.calm=true)(hi:PI X tg iter wi)(hg:PG X tg g)(hb:PSs X body tb)
  (hs:autoParam (∀x,jYh iter X.env x=pure x) au2._auto_1):PS X (.For tg iter body [] pos) (z3K wi g tb):=by
 intro jNj s σ H D I h;refine wpAny_For (thn (hi jNj s σ H _ I h) fun v s1 h1=>thn h1 fun itv s2 h2=>?_) hs;obtain⟨it,fp,tn,J,H2,e,I2,T,st2,f2,W,⟨m0,w0⟩,turn⟩:=h2;subst e;have stat:∀ {H':Hp},(∀b∈fp,H' b=none)->∀b∈fp,wH X jNj H' b:=fun hn b hb=>⟨hn b hb,(f2 b hb).2⟩
 refine codeAny_forLoop_any (fun n s'=>∃i σ' H',Inv X jNj σ' H' s'/\tn i s'.heap/\(∀b∈fp,H' b=none)/\W i n σ' H') ?_ m0 ⟨0,σ,H2,I2,st2,fun b hb=>(f2 b hb).1,w0⟩;rintro n s3 ⟨i,σ3,H3,I3,st3,fr3,w3⟩;rcases turn i n σ3 H3 w3 with⟨stop,qn⟩|⟨go,N,hN,step⟩
 ·refine jKe hp (thn (T.done X rfl rfl rfl hc i jNj s3 σ3 H3 X.xe I3 (stat fr3) st3 stop) fun r s4 ⟨hr,I4⟩=>?_);subst hr;exact jKc ⟨σ3,H3,I4,qn⟩
 ·refine jKe hp (thn (T.item X rfl rfl rfl hc i jNj s3 σ3 H3 X.xe I3 (stat fr3) st3 go) fun r s4 ⟨u,hr,h4⟩=>?_);subst hr;refine jKe hp (thn h4 fun _ s5 ⟨x,H5,I5,r5,y5,st5,fr5⟩=>?_);have I5':=I5.pinned (stat fr5) (T.obj _ _ st5);refine jKe hp (thn (hg _ s5 σ3 H5 x u _ I5' r5 (step x H5 y5)) fun _ s6 ⟨σ6,H6,I6,q6⟩=>?_);refine jKe hp (thn (hb _ s6 σ6 H6 _ I6 q6) fun f s7 q7=>?_);have again:∀ {σ7:St} {H7:Hp},Inv X (jNj++vW fp s5.heap) σ7 H7 s7->N σ7 H7->∃m,m<n/\∃i σ' H',Inv X jNj σ' H' s7/\tn i s7.heap/\(∀b∈fp,H' b=none)/\W i m σ' H':=fun {σ7 H7} I7 n7=>by
   obtain⟨m',hm,w7⟩:=hN σ7 H7 n7;refine⟨m',hm,i+1,σ7,H7,I7.unpinned,T.keep _ _ _ st5 fun b hb o e=>(I7.pin (b,o) (tD _ (tD _ (yG hb e)))).1,fun b hb=>?_,w7⟩;obtain⟨o,e,d⟩:=T.obj _ _ st5 b hb;exact (I7.pin (b,o) (tD _ (tD _ (yG hb e)))).2.1
  cases f with
  | next=>obtain⟨σ7,H7,I7,n7⟩:=q7;exact again I7 n7
  | cont=>obtain⟨σ7,H7,I7,n7⟩:=q7;exact again I7 n7
  | brk=>obtain⟨σ7,H7,I7,q7⟩:=q7;exact⟨σ7,H7,I7.unpinned,q7⟩
  | ret v=>obtain⟨x7,σ7,H7,I7,r7,q7⟩:=q7;exact⟨x7,σ7,H7,I7.unpinned,r7,q7⟩
end
abbrev R2:=V->V->Hp->VK->Prop
def OpR (X:Cx)(f:Value->Value->Sem Value)(r:R2):Prop:=
 ∀(jNj:List (Addr×Obj)) (s:jNg) (σ:St) (H:Hp) (x y:V) (v u:Value) (Q:VK),Inv X jNj σ H s->RelV x v->RelV y u->r x y H Q ->
  jNi (model X.prog X.w) X.A (f v u) (EP X jNj σ Q) X.xe s
def UnR (X:Cx)(f:Value->Sem Value)(r:V->Hp->VK->Prop):Prop:=
 ∀(jNj:List (Addr×Obj)) (s:jNg) (σ:St) (H:Hp) (x:V) (v:Value) (Q:VK),Inv X jNj σ H s->RelV x v->r x H Q ->
  jNi (model X.prog X.w) X.A (f v) (EP X jNj σ Q) X.xe s
def CallR (X:Cx)(f:Value)(r:List V->Hp->VK->Prop):Prop:=
 ∀(jNj:List (Addr×Obj)) (s:jNg) (σ:St) (H:Hp) (xs:List V) (us:List Value) (Q:VK),Inv X jNj σ H s->Vals xs us->r xs H Q ->
  jNi (model X.prog X.w) X.A (call f us) (EP X jNj σ Q) X.xe s
def tOp (r:R2)(ta tb:TE):TE:=fun σ H Q=>ta σ H fun x H1=>tb σ H1 fun y H2=>r x y H2 Q
def tUn (r:V->Hp->VK->Prop)(ta:TE):TE:=fun σ H Q=>ta σ H fun x H1=>r x H1 Q
def rI (C:Int->Int->Prop)(g:Int->Int->V):R2:=fun x y H Q=>∃i j,x=.int i/\y=.int j/\C i j/\Q (g i j) H
def rI0 (g:Int->Int->V):R2:=fun x y H Q=>∃i j,x=.int i/\y=.int j/\Q (g i j) H
def rU (g:Int->V):V->Hp->VK->Prop:=fun x H Q=>∃i,x=.int i/\Q (g i) H
section
variable {X:Cx}{a b c:Expr}{ta tb tc:TE}{pos:Pos}
def z30 (ha:PE X a ta)(hb:PE X b tb){jNj:List (Addr×Obj)}{s:jNg}{σ:St}{H:Hp}{R:V->V->Hp->Prop}(I:Inv X jNj σ H s)
  (h:ta σ H fun x H1=>tb σ H1 fun y H2=>R x y H2) {Q:Value->jNg->Prop} {f:Value->Value->Sem Value}
  (hf:∀v u s2 x y H2,Inv X jNj σ H2 s2->RelV x v->RelV y u->R x y H2->jNi (model X.prog X.w) X.A (f v u) Q X.xe s2):
  jNi (model X.prog X.w) X.A (eval a X.env) (fun v s₁=>jNi (model X.prog X.w) X.A (eval b X.env) (fun u s₂=>jNi (model X.prog X.w) X.A (f v u) Q X.xe s₂) X.xe s₁) X.xe s:=by
 refine thn (ha jNj s σ H _ I h) fun v s1 ⟨x,H1,I1,r1,q1⟩=>?_;refine thn (hb jNj s1 σ H1 _ I1 q1) fun u s2 ⟨y,H2,I2,r2,q2⟩=>?_;exact hf v u s2 x y H2 I2 r1 r2 q2
def z4E {op:Operator}{r:R2}(ho:OpR X (binaryOp op) r)(ha:PE X a ta)(hb:PE X b tb):PE X (.BinOp a op b pos) (tOp r ta tb):=by
 intro jNj s σ H Q I h;exact wpAny_BinOp (z30 ha hb I h fun v u s2 x y H2 I2 rx ry q=>ho jNj s2 σ H2 x y v u Q I2 rx ry q)
def z1X {op:UnaryOp}{r:V->Hp->VK->Prop}(ho:UnR X (unaryOp op) r)(ha:PE X a ta):PE X (.UnaryOp op a pos) (tUn r ta):=by
 intro jNj s σ H Q I h;exact UnaryOp_ (thn (ha jNj s σ H _ I h) fun v s1 ⟨x,H1,I1,r1,q1⟩=>ho jNj s1 σ H1 x v Q I1 r1 q1)
def opI {f:Value->Value->Sem Value}{C:Int->Int->Prop}{g:Int->Int->Int}
  (rule:∀(i j:Int) (t u:Tok) (s:jNg) (Q:Value->jNg->Prop) (E:Value->jNg->Prop),C i j->Q (.int (g i j) s.toks) { s with toks:=s.toks+1 }->jNi (model X.prog X.w) X.A (f (.int i t) (.int j u)) Q E s):
  OpR X f (rI C fun i j=>.int (g i j)):=by
 intro jNj s σ H x y v u Q I rx ry h;obtain⟨i,j,rfl,rfl,hc,q⟩:=h;obtain⟨t,rfl⟩:=rx;obtain⟨t',rfl⟩:=ry;exact rule i j t t' s _ _ hc ⟨.int (g i j),H,I.tok _,⟨_,rfl⟩,q⟩
def z6i {f:Value->Value->Sem Value}{g:Int->Int->Int}
  (rule:∀(i j:Int) (t u:Tok) (s:jNg) (Q:Value->jNg->Prop) (E:Value->jNg->Prop),Q (.int (g i j) s.toks) { s with toks:=s.toks+1 }->jNi (model X.prog X.w) X.A (f (.int i t) (.int j u)) Q E s):
  OpR X f (rI0 fun i j=>.int (g i j)):=by
 intro jNj s σ H x y v u Q I rx ry h;obtain⟨i,j,rfl,rfl,q⟩:=h;obtain⟨t,rfl⟩:=rx;obtain⟨t',rfl⟩:=ry;exact rule i j t t' s _ _ ⟨.int (g i j),H,I.tok _,⟨_,rfl⟩,q⟩
def z0k {f:Value->Value->Sem Value}{g:Int->Int->Bool}
  (rule:∀(i j:Int) (t u:Tok) (s:jNg) (Q:Value->jNg->Prop) (E:Value->jNg->Prop),Q (.bool (g i j)) s->jNi (model X.prog X.w) X.A (f (.int i t) (.int j u)) Q E s):
  OpR X f (rI0 fun i j=>.bl (g i j)):=by
 intro jNj s σ H x y v u Q I rx ry h;obtain⟨i,j,rfl,rfl,q⟩:=h;obtain⟨t,rfl⟩:=rx;obtain⟨t',rfl⟩:=ry;exact rule i j t t' s _ _ ⟨.bl (g i j),H,I,rfl,q⟩
def z4i (i j:Int):Prop:=0<j/\j<1073741824
def CMul (i j:Int):Prop:=(-(2 ^ 64)<i/\i<2 ^ 64)\/(-(2 ^ 64)<j/\j<2 ^ 64)
theorem CMul.ok {i j:Int}(h:CMul i j):IntMulOk i j:=by
 rcases h with⟨h1,h2⟩|⟨h1,h2⟩
 ·exact .of_left (intBits_le_64 h1 h2)
 ·exact .of_right (intBits_le_64 h1 h2)
def z3i:OpR X (binaryOp .Add) (rI0 fun i j=>.int (i+j)):=z6i fun _ _ _ _ _ _ _ q=>add_int q
def z38:OpR X (binaryOp .Sub) (rI0 fun i j=>.int (i-j)):=z6i fun _ _ _ _ _ _ _ q=>sub_int q
def z3B:OpR X (binaryOp .Mult) (rI CMul fun i j=>.int (i*j)):=opI fun _ _ _ _ _ _ _ hc q=>mul_int q hc.ok
def KP:OpR X (binaryOp .FloorDiv) (rI z4i fun i j=>.int (i/j)):=opI fun i j _ _ _ _ _ hc q=>by
 have h1:(0:Int)<j:=hc.1;have h2:j<1073741824:=hc.2;exact floordiv_int (by omega) (by rw[Int.fdiv_eq_ediv_of_nonneg i (by omega)];exact q) (.inl (PyProof.noPylong_small (by omega)))
def z2B:OpR X (binaryOp .Mod) (rI (fun _ j=>0<j) fun i j=>.int (i%j)):=opI fun i j _ _ _ _ _ hc q=>by
 have h1:(0:Int)<j:=hc;exact mod_int' (by omega) (by rw[Int.fmod_eq_emod_of_nonneg i (by omega)];exact q)
def unI {f:Value->Sem Value}{g:Int->Int}
  (rule:∀(i:Int) (t:Tok) (s:jNg) (Q:Value->jNg->Prop) (E:Value->jNg->Prop),Q (.int (g i) s.toks) { s with toks:=s.toks+1 }->jNi (model X.prog X.w) X.A (f (.int i t)) Q E s):
  UnR X f (rU fun i=>.int (g i)):=by
 intro jNj s σ H x v Q I rx h;obtain⟨i,rfl,q⟩:=h;obtain⟨t,rfl⟩:=rx;exact rule i t s _ _ ⟨.int (g i),H,I.tok _,⟨_,rfl⟩,q⟩
def Kf:UnR X (unaryOp .USub) (rU fun i=>.int (-i)):=unI fun _ _ _ _ _ q=>neg_int q
end
section
variable {X:Cx}{a b c:Expr}{ta tb tc:TE}{pos:Pos}
def JL {jNj:List (Addr×Obj)}{σ:St}{H:Hp}{s:jNg}{Q:VK}{k k':Bool}(I:Inv X jNj σ H s)(q:Q (.bl k) H)(e:k=k'):EP X jNj σ Q (.bool k') s:=by
 subst e;exact⟨.bl k,H,I,rfl,q⟩
def wW:OpR X (jMi .Lt) (rI0 fun i j=>.bl (decide (i<j))):=z0k fun _ _ _ _ _ _ _ q=>lt_int q
def VS:OpR X (jMi .LtE) (rI0 fun i j=>.bl (decide (i<=j))):=z0k fun _ _ _ _ _ _ _ q=>le_int q
def Wi:OpR X (jMi .Gt) (rI0 fun i j=>.bl (decide (j<i))):=z0k fun _ _ _ _ _ _ _ q=>gt_int q
def z5l:OpR X (jMi .GtE) (rI0 fun i j=>.bl (decide (j<=i))):=z0k fun _ _ _ _ _ _ _ q=>ge_int q
def kf:OpR X (jMi .Is) (fun x y H Q=>y=.non/\Q (.bl (decide (x=.non))) H):=by
 intro jNj s σ H x y v u Q I rx ry h;obtain⟨rfl,q⟩:=h;cases ry;refine is_none_gen (JL I q ?_);cases x<;>first
  | (cases rx;rfl)
  | (obtain⟨t,rfl⟩:=rx;rfl)
def Xq:OpR X (jMi .IsNot) (fun x y H Q=>y=.non/\Q (.bl (!decide (x=.non))) H):=by
 intro jNj s σ H x y v u Q I rx ry h;obtain⟨rfl,q⟩:=h;cases ry;refine isnot_none_gen (JL I q ?_);cases x<;>first
  | (cases rx;rfl)
  | (obtain⟨t,rfl⟩:=rx;rfl)
theorem OpR.or {f:Value->Value->Sem Value}{r r':R2}(h:OpR X f r)(h':OpR X f r'):OpR X f (fun x y H Q=>r x y H Q\/r' x y H Q):=by
 intro jNj s σ H x y v u Q I rx ry q;rcases q with q|q
 ·exact h jNj s σ H x y v u Q I rx ry q
 ·exact h' jNj s σ H x y v u Q I rx ry q
def zI (b:Expr){op:CmpOp}(h:autoParam (op≠.In) au1._auto_1)(h2:autoParam (op≠.NotIn) au1._auto_1):behindInMarks op b=false:=by
 have e1:(op==CmpOp.In)=false:=by cases op<;>first|rfl|exact absurd rfl h
 have e2:(op==CmpOp.NotIn)=false:=by cases op<;>first|rfl|exact absurd rfl h2
 cases b with
 | Set elts k _ =>
  show (k==0&&(op==.In||op==.NotIn)&&elts.all (constantsAlone 8))=false;rw[e1,e2,Bool.or_self,pH,Bool.false_and]
 | _=>rfl
def z04 {op:CmpOp}{r:R2}(ho:OpR X (jMi op) r)(ha:PE X a ta)(hb:PE X b tb)(hm:behindInMarks op b=false):PE X (.Compare a [op] [b] pos) (tOp r ta tb):=by
 intro jNj s σ H Q I h;exact wpAny_Compare1 (z30 ha hb I h fun v u s2 x y H2 I2 rx ry q=>ho jNj s2 σ H2 x y v u Q I2 rx ry q) hm
def Qy (t:TE):TT:=fun σ H Q=>t σ H fun x H'=>∃k,x=.bl k/\Q k H'
def z1r {op:CmpOp}{r:R2}(ho:OpR X (jMi op) r)(ha:PE X a ta)(hb:PE X b tb)(hm:behindInMarks op b=false):PT X (.Compare a [op] [b] pos) (Qy (tOp r ta tb)):=by
 intro jNj s σ H Q I h;refine wpAny_isTrue_Compare1 (thn (ha jNj s σ H _ I h) fun v s1 ⟨x,H1,I1,r1,q1⟩=>thn (hb jNj s1 σ H1 _ I1 q1) fun u s2 ⟨y,H2,I2,r2,q2⟩ =>
  thn (ho jNj s2 σ H2 x y v u _ I2 r1 r2 q2) fun c s3 ⟨z,H3,I3,r3,k,e,q3⟩=>?_) hm
 subst e;cases r3;exact jYj ⟨H3,I3,q3⟩
def K4 (r r':R2)(ta tb tc:TE):TE:=fun σ H Q=>ta σ H fun x H1=>tb σ H1 fun y H2=>r x y H2 fun z H3=>∃k,z=.bl k /\
 (if k=true then tc σ H3 fun w' H4=>r' y w' H4 Q else Q (.bl false) H3)
def Qj {op op':CmpOp}{r r':R2}(ho:OpR X (jMi op) r)(ho':OpR X (jMi op') r')(ha:PE X a ta)(hb:PE X b tb)(hc:PE X c tc)
  (hm:autoParam (lastMarks [op,op'] [b,c]=false) au4._auto_1):PT X (.Compare a [op,op'] [b,c] pos) (Qy (K4 r r' ta tb tc)):=by
 intro jNj s σ H Q I h;refine isTrue_chain (thn (ha jNj s σ H _ I h) fun v s1 ⟨x,H1,I1,r1,q1⟩=>test_link (thn (hb jNj s1 σ H1 _ I1 q1) fun u s2 ⟨y,H2,I2,r2,q2⟩ =>
  thn (ho jNj s2 σ H2 x y v u _ I2 r1 r2 q2) fun d s3 ⟨z,H3,I3,r3,k,e,q3⟩=>?_)) hm
 subst e;cases r3;refine jYj ?_;cases k with
 | false =>
  obtain⟨k',e',q'⟩:=q3;cases e';exact ite_ff ⟨H3,I3,q'⟩
 | true =>
  refine ite_tt (test_last (thn (hc jNj s3 σ H3 _ I3 q3) fun w' s4 ⟨z',H4,I4,r4,q4⟩=>thn (ho' jNj s4 σ H4 y z' u w' _ I4 r2 r4 q4) fun d' s5 ⟨z2,H5,I5,r5,k2,e2,q5⟩=>?_));subst e2;cases r5;exact jYj ⟨H5,I5,q5⟩
def j7:(sizeLine:Nat)<2 ^ 63:=by rw[jMc];decide
def V3:OpR X (binaryOp .Add) (fun x y H Q=>∃i j,x=.str i/\y=.str j/\i.length+j.length<=jNb/\Q (.str (i++j)) H):=by
 intro jNj s σ H x y v u Q I rx ry h;obtain⟨i,j,rfl,rfl,hz,q⟩:=h;obtain⟨t,rfl⟩:=rx;obtain⟨t',rfl⟩:=ry;exact add_str (fun t' tk=>⟨.str (i++j),H,I.tok _,⟨_,rfl⟩,q⟩) hz
def Wb:OpR X (inplaceOp .Add) (fun x y H Q=>∃i j,x=.str i/\y=.str j/\i.length+j.length<=jNb/\Q (.str (i++j)) H):=by
 intro jNj s σ H x y v u Q I rx ry h;obtain⟨i,j,rfl,rfl,hz,q⟩:=h;obtain⟨t,rfl⟩:=rx;obtain⟨t',rfl⟩:=ry;exact iadd_str (fun t' tk=>⟨.str (i++j),H,I.tok _,⟨_,rfl⟩,q⟩) hz
def wD {x:V}{us:List Value}(r:Vals [x] us):∃u,us=[u]/\RelV x u:=by
 cases r with
 | cons r1 r2=>cases r2;exact⟨_,rfl,r1⟩
def JH {x y:V}{us:List Value}(r:Vals [x,y] us):∃u w',us=[u,w']/\RelV x u/\RelV y w':=by
 cases r with
 | cons r1 r2 =>
  cases r2 with
  | cons r3 r4=>cases r4;exact⟨_,_,rfl,r1,r3⟩
def uo (hc:X.calm=true):CallR X (.builtin "max") (fun xs H Q=>∃i j,xs=[.int i,.int j]/\Q (.int (if j>i then j else i)) H):=by
 intro jNj s σ H xs us Q I r h;obtain⟨i,j,rfl,q⟩:=h;obtain⟨u,w',rfl,⟨t,rfl⟩,⟨t',rfl⟩⟩:=JH r;refine max_two_ints (I.ok.hd hc) fun h' tk k=>⟨_,H,I.kept k,?_,q⟩
 by_cases hj:j>i
 ·rw[jNk hj,jNk hj];exact⟨_,rfl⟩
 ·rw[jPa hj,jPa hj];exact⟨_,rfl⟩
def ZQ (hc:X.calm=true):CallR X (.builtin "min") (fun xs H Q=>∃i j,xs=[.int i,.int j]/\Q (.int (if j<i then j else i)) H):=by
 intro jNj s σ H xs us Q I r h;obtain⟨i,j,rfl,q⟩:=h;obtain⟨u,w',rfl,⟨t,rfl⟩,⟨t',rfl⟩⟩:=JH r;refine min_two_ints (I.ok.hd hc) fun h' tk k=>⟨_,H,I.kept k,?_,q⟩
 by_cases hj:j<i
 ·rw[jNk hj,jNk hj];exact⟨_,rfl⟩
 ·rw[jPa hj,jPa hj];exact⟨_,rfl⟩
def qm:CallR X (.type "str") (fun xs H Q=>∃i,xs=[.int i]/\i.natAbs.log2<1920/\Q (.str (toString i)) H):=by
 intro jNj s σ H xs us Q I r h;obtain⟨i,rfl,hz,q⟩:=h;obtain⟨u,rfl,t,rfl⟩:=wD r;exact PySem.P.str_of_int hz ⟨.str _,H,I.tok _,⟨_,rfl⟩,q⟩
end
structure ObjM (h:Heap)(x dx C:Addr)(mA:Str->Option Value):Prop where
 obj:h.get? x=some (jJi C dx)
 ns:h.Ns1 dx mA
 ne:dx≠x
def UK {h:Heap}{dx:Addr}{mA:Str->Option Value}(n:h.Ns1 dx mA):∃od,h.get? dx=some od/\∀name,jJk name od=some (mA name):=by
 obtain⟨o,es,ep,ho,hd,hk,_,hm⟩:=n;refine⟨o,ho,fun name=>?_⟩;have e:=hm name;unfold nsFind findBy at e;rw[<-Array.find?_toList]at e;unfold jJk;rw[hd];dsimp only;split
 ·rename_i y q;rw[q]at e;exact congrArg some e
 ·rename_i q;rw[q]at e;have a:es.toList.any (·.refKey)=false:=by
   rw[List.any_eq_false];intro y hy;obtain⟨z,t,hkey⟩:=hk y (Array.mem_toList_iff.mp hy);simp[DictEntry.refKey,hkey]
  have a':¬es.toList.any (·.refKey)=true:=by rw[a];exact tP
  rw[jPa a'];exact congrArg some e
theorem ObjM.look {h:Heap}{x dx C:Addr}{mA:Str->Option Value}(I:ObjM h x dx C mA):∃od,PySem.W.InstAt h x (jJi C dx) C (some od)/\∀name,jJk name od=some (mA name):=
 let ⟨od,ho,hl⟩:=UK I.ns
 ⟨od,⟨I.obj,rfl,rfl,ho⟩,hl⟩
def RelO.some_of {v:V}{o:Option Value}(r:RelO (some v) o):∃u,o=some u/\RelV v u:=by
 cases o with
 | none=>exact (show False from r).elim
 | some u=>exact⟨u,rfl,r⟩
section
variable {P:jNe}{w:World}{H H':Hp}{h h':Heap}{a C dx:Addr}{fs fs':List (Str×V)}
def z0z (hok:HOk P w H h)(e:H a=some (.ins C dx fs)):∃mA,ObjM h a dx C mA/\(∀f,RelO (fs.lookup f) (mA f))/\PySem.Within mA (fs.map (·.1))/\fs.length<=1000/\H dx=some (.own a):=by
 obtain⟨d,z,ne,ob,mA,n,r,q⟩:=(show ObjOk P w H h a (.ins C dx fs) from hok a _ e)
 exact⟨mA,⟨ob,n,ne⟩,r,q,z,d⟩
end
structure Cls (K:jJa)(C:Addr):Prop where
 pg:PySem.W.plainGet K C Str.empty=true
 hd:PySem.W.hasDictIn K C=true
 po:PySem.W.plainOver K C=true
 sa:PySem.W.findIn K (.ref C) "__setattr__"=some (some (.builtin "object.__setattr__"))
theorem Cls.get {K:jJa}{C:Addr}(c:Cls K C)(f:Str):PySem.W.plainGet K C f=true:=c.pg
section
variable {X:Cx}{jNj:List (Addr×Obj)}{σ:St}{H:Hp}{s:jNg}{A:jNf}{E:Value->jNg->Prop}{Q:Value->jNg->Prop}{c:Value}{b:Bool}
inductive TyOf (K:jJa) (H:Hp):V->Value->Prop where
 | non:TyOf K H .non (.type "NoneType")
 | bl (x:Bool):TyOf K H (.bl x) (.type "bool")
 | int (i:Int):TyOf K H (.int i) (.type "int")
 | str (x:Str):TyOf K H (.str x) (.type "str")
 | flt (x:UInt64):TyOf K H (.flt x) (.type "float")
 | lst {a:Addr} {xs:List V} (e:H a=some (.lst xs)):TyOf K H (.ref a) (.type "list")
 | frz {a:Addr} {o:Obj} {xs:List V} (e:H a=some (.frz o (.lst xs))):TyOf K H (.ref a) (.type "list")
 | tup {a:Addr} {xs:List V} (e:H a=some (.tup xs)):TyOf K H (.ref a) (.type "tuple")
 | dK {a:Addr} {kvs:List (Key×V)} (e:H a=some (.dK kvs)):TyOf K H (.ref a) (.type "dict")
 | dT {a:Addr} {kvs:List (List Key×V)} (e:H a=some (.dT kvs)):TyOf K H (.ref a) (.type "dict")
 | ins {a C dx:Addr} {fs:List (Str×V)} (e:H a=some (.ins C dx fs)) (cl:Cls K C) (ha:PySem.W.findIn K (.ref C) "__class__"=some (some (.builtin "object.__class__")))
   (hn:PySem.W.specialIn K (.builtin "object.__class__") "__get__"=some (some (.builtin "getset_descriptor.__get__"))) (htk:PySem.W.takesIn K (.builtin "object.__class__")=some true)
   (hm:PySem.W.mroIn K C (.type "object")=some true):TyOf K H (.ref a) (.ref C)
def wt {x:V}{u t:Value}(I:Inv X jNj σ H s)(rx:RelV x u)(ty:TyOf X.K H x t)(e:jJf X.K t c=some b)(h:∀tk,Q (.bool b) { s with toks:=tk }):
  jNi (model X.prog X.w) A (call (.builtin "isinstance") [u,c]) Q E s:=by
 cases ty with
 | non=>cases (show u=Value.none from rx);exact jJb PySem.W.kitx_none I.kIn True.intro e (fun z=>nomatch z) h
 | bl y=>cases (show u=Value.bool y from rx);exact jJb PySem.W.kitx_bool I.kIn True.intro e (fun z=>nomatch z) h
 | int i=>obtain⟨t,q⟩:=(show ∃t,u=Value.int i t from rx);cases q;exact jJb PySem.W.kitx_int I.kIn True.intro e (fun z=>nomatch z) h
 | str y=>obtain⟨t,q⟩:=(show ∃t,u=Value.str y t from rx);cases q;exact jJb PySem.W.kitx_str I.kIn True.intro e (fun z=>nomatch z) h
 | flt y=>obtain⟨t,q⟩:=(show ∃t,u=Value.float y t from rx);cases q;exact jJb PySem.W.kitx_float I.kIn True.intro e (fun z=>nomatch z) h
 | @lst a xs ea =>
  cases (show u=Value.ref a from rx);obtain⟨_,_,n,_,h1⟩:=(show ObjOk X.prog X.w H s.heap a (.lst xs) from I.hok a _ ea)
  exact jJb jJm I.kIn ⟨_,h1,rfl⟩ e (fun z=>nomatch z) h
 | @frz a ob xs ea =>
  cases (show u=Value.ref a from rx);obtain⟨_,_,_,n,_,h1⟩:=(show ObjOk X.prog X.w H s.heap a (.frz ob (.lst xs)) from I.hok a _ ea)
  exact jJb jJm I.kIn ⟨_,h1,rfl⟩ e (fun z=>nomatch z) h
 | @tup a xs ea =>
  cases (show u=Value.ref a from rx);obtain⟨_,_,_,p⟩:=(show ObjOk X.prog X.w H s.heap a (.tup xs) from I.hok a _ ea)
  obtain⟨o,h1,h2,_⟩:=p;exact jJb jJw I.kIn ⟨o,h1,h2⟩ e (fun z=>nomatch z) h
 | @dK a kvs ea =>
  cases (show u=Value.ref a from rx);obtain⟨_,_,vs,_,p⟩:=(show ObjOk X.prog X.w H s.heap a (.dK kvs) from I.hok a _ ea)
  obtain⟨o,es,ep,h1,h2,_⟩:=p;exact jJb PySem.W.kitx_dict I.kIn ⟨o,h1,h2.1⟩ e (fun z=>nomatch z) h
 | @dT a kvs ea =>
  cases (show u=Value.ref a from rx);obtain⟨_,_,xs,_,o,es,ep,h1,h2,_⟩:=(show ObjOk X.prog X.w H s.heap a (.dT kvs) from I.hok a _ ea)
  exact jJb PySem.W.kitx_dict I.kIn ⟨o,h1,h2.1⟩ e (fun z=>nomatch z) h
 | @ins a C dx fs ea cl ha hn htk hm =>
  cases (show u=Value.ref a from rx);obtain⟨mA,O,_⟩:=z0z I.hok ea;obtain⟨od,J,_⟩:=O.look;exact jJb (PySem.W.kitx_own (cl.get _) cl.hd ha hn htk hm) I.kIn J e (fun z=>nomatch z) h
end
structure Room (k:Nat)(A:jNf):Prop where
 hd:A.handled=none
 dp:A.depth+3*k+5<recursionLimit
 un:A.units+16*k+200<cLine
theorem Room.mono {j k:Nat}{A:jNf}(r:Room k A)(h:j<=k):Room j A:=⟨r.hd,by have:=r.dp;omega,by have:=r.un;omega⟩
theorem Room.deeper {k:Nat}{A:jNf}(r:Room (k+1) A)(env:Env):Room k (A.deeper env):=
 ⟨r.hd,by have:=r.dp;show A.depth+1+3*k+5<_;omega,by have:=r.un;show A.units+3+16*k+200<_;omega⟩
theorem Room.depth {k:Nat}{A:jNf}(r:Room k A):A.depth<recursionLimit:=by have:=r.dp;omega
def Room.units0 {k:Nat}{A:jNf}(r:Room k A):A.units<cLine:=by have:=r.un;omega
def z3d:TA:=fun _ H Q=>Q [] H
def JO (ta:TE)(tr:TA):TA:=fun σ H Q=>ta σ H fun x H1=>tr σ H1 fun xs H2=>Q (x::xs) H2
section
variable {X:Cx}{e:Expr}{es:List Expr}{te:TE}{t:TA}{pos:Pos}
def uU:PA X [] z3d:=fun _ _ _ _ H Q I h=>Calls.spliced_nil ⟨[],H,I,.nil,h⟩
def wR (ha:PE X e te)(hr:PA X es t)(hs:autoParam (jNc (e::es) X.env=(false,eval e X.env)::jNc es X.env) au3._auto_1):PA X (e::es) (JO te t):=by
 intro pos jNj s σ H Q I h;rw[hs];show jNi _ _ (spliced ((false,eval e X.env)::jNh pos (jNc es X.env))) _ _ s;refine Calls.spliced_cons (thn (ha jNj s σ H _ I h) fun u s1 ⟨x,H1,I1,r1,q1⟩=>?_);exact thn (hr pos jNj s1 σ H1 _ I1 q1) fun us s2 ⟨xs,H2,I2,r2,q2⟩=>⟨x::xs,H2,I2,.cons r1 r2,q2⟩
def z3D (t:TA):TE:=fun σ H Q=>t σ H fun xs H1=>xs.length<=jNb/\∀p,H1 p=none->Q (.ref p) (upd H1 p (.tup xs))
def z5q (t:TA):TE:=fun σ H Q=>t σ H fun xs H1=>xs.length<=jNb/\∀p,H1 p=none->Q (.ref p) (upd H1 p (.lst xs))
def Qb {x1}(h:PA X es t):PE X (.Tuple es x1 pos) (z3D t):=by
 intro jNj s σ H Q I hq;refine wpAny_Tuple_spliced (thn (h pos jNj s σ H _ I hq) fun us s1 ⟨xs,H1,I1,r,z,q⟩=>⟨by rw[<-r.length];exact z,?_⟩);have hf:H1 s1.heap.objs.size=none:=I1.hok.fresh (tI _);refine⟨.ref s1.heap.objs.size,upd H1 s1.heap.objs.size (.tup xs),I1.laid (t':=s1.toks) (fun b u e=>jYb _ e) (tI _) ?_,rfl,q _ hf⟩;exact⟨z,us,r,TupN.new _ _⟩
def z36 (h:PA X es t):PE X (.List es pos) (z5q t):=by
 intro jNj s σ H Q I hq;refine wpAny_List_spliced (thn (h pos jNj s σ H _ I hq) fun us s1 ⟨xs,H1,I1,r,z,q⟩=>⟨by rw[<-r.length];exact z,?_⟩);have hf:H1 s1.heap.objs.size=none:=I1.hok.fresh (tI _);refine⟨.ref s1.heap.objs.size,upd H1 s1.heap.objs.size (.lst xs),I1.laid (t':=s1.toks) (fun b u e=>jYb _ e) (tI _) ?_,rfl,q _ hf⟩;exact⟨z,us,0,r,jYd _ rfl⟩
end
abbrev Sp:=List V->Hp->VK->XK->Prop
abbrev CXT:=List Env->Hp->jNg->XK->Value->jNg->Prop
structure Env0 (P:jNe)(w:World)(K:jJa)(mg:Str->Option Value)(base:Heap)(A:jNf)(outer:List Env)(s:jNg)(H:Hp):Prop where
 frames:A.frames=some outer
 mod:Mod K mg base
 bs:∀b o,base.get? b=some o->s.heap.get? b=some o/\H b=none
 bsz:base.objs.size<=s.heap.objs.size
 funs:s.heap.FunFrames base outer
 frf:∀b∈frs outer,H b=none
 hok:HOk P w H s.heap
 bare:AllBare s.gens
def CE (outer:List Env)(P:jNe)(w:World)(H:Hp)(s:jNg)(Q:VK)(u:Value)(s':jNg):Prop:=
 ∃v H',s'.os=s.os/\AllBare s'.gens/\Un (frs outer) [] H H' s.heap s'.heap/\HOk P w H' s'.heap/\RelV v u/\Q v H'
def CR (CX:CXT)(outer:List Env)(P:jNe)(w:World)(H:Hp)(s:jNg)(Q:VK)(E:XK)(r:Result)(s':jNg):Prop:=
 match r with
 | .ok (.ret u)=>CE outer P w H s Q u s'
 | .ok _=>False
 | .error e=>CX outer H s E e s'
structure FnOk (P:jNe)(w:World)(K:jJa)(mg:Str->Option Value)(base:Heap)(CX:CXT)(k:Nat)(f:Addr)(fd:FuncData)(ps:List Str)(sp:Sp):Prop where
 len:∀vs H Q E,sp vs H Q E->vs.length=ps.length
 run:∀(A:jNf) (outer:List Env) (s:jNg) (H:Hp) (args:Args) (us:List Value) (vs:List V) (Q:VK) (E:XK),Room k A->Env0 P w K mg base A outer s H->BindsTo s fd args (ps.zip us)->Vals vs us->sp vs H Q E ->
  codeAny (model P w) A (.call (.ref f) args) (CR CX outer P w H s Q E) s
theorem FnOk.mono {P:jNe}{w:World}{K:jJa}{mg:Str->Option Value}{base:Heap}{CX:CXT}{j k:Nat}{f:Addr}{fd:FuncData}{ps:List Str}{sp:Sp}(F:FnOk P w K mg base CX j f fd ps sp)(h:j<=k):
  FnOk P w K mg base CX k f fd ps sp:=⟨F.len,fun A outer s H args us vs Q E hr=>F.run A outer s H args us vs Q E (hr.mono h)⟩
section
variable {X:Cx}{jNj:List (Addr×Obj)}{σ:St}{H:Hp}{s s':jNg}
theorem Inv.env0 (I:Inv X jNj σ H s):Env0 X.prog X.w X.K X.mg X.base X.A X.stack s H:=
 ⟨I.ok.frames,I.ok.mod,I.bs,sE I.ok.bsz I.sz,I.stack,I.stkFree,I.hok,I.bare⟩
def Inv.after {Q:VK}{u:Value}(I:Inv X jNj σ H s)(h:CE X.stack X.prog X.w H s Q u s'):EP X jNj σ Q u s':=by
 obtain⟨v,H',os,bare,un,hok,r,q⟩:=h;obtain⟨hh,g,d,t,os'⟩:=s';obtain rfl:os'=s.os:=os;exact⟨v,H',I.call (h':=hh) (g':=g) (d':=d) (t':=t) (ch:=[]) un hok bare (fun b z=>absurd z (by simp)),r,q⟩
end
def z1x (sp:Sp)(dvs:List V)(E:XK)(t:TA):TE:=fun σ H Q=>t σ H fun vs H1=>sp (vs++dvs) H1 Q E
def Binds (K:jJa)(fd:FuncData)(ps:List Str)(ds:List Value):Prop:=
 ∀(s:jNg) (us:List Value),K.In s.heap->(us++ds).length=ps.length->BindsTo s fd ⟨us,[]⟩ (ps.zip (us++ds))
theorem Binds.all {K:jJa}{fd:FuncData}{ps:List Str}(h:∀us:List Value,us.length=ps.length->bindArgs fd ⟨us,[]⟩=pure (ps.zip us)):Binds K fd ps []:=fun s us _ hl=>by
 rw[tQ]at hl ⊢;exact .of_eq (h us hl)
def uX (CX:CXT)(X:Cx)(E:XK):Prop:=∀(jNj:List (Addr×Obj)) (σ:St) (H:Hp) (s:jNg) (e:Value) (s':jNg),Inv X jNj σ H s->CX X.stack H s E e s'->X.xe e s'
section
variable {X:Cx}{CX:CXT}{k:Nat}{f C:Addr}{fd:FuncData}{ps:List Str}{sp:Sp}{dvs:List V}{ds:List Value}{E:XK}{x m:Str}{p pos apos:Pos}{e o:Expr}{es:List Expr}{ta:TE}{t:TA}
def z24 {jNj:List (Addr×Obj)}{σ:St}{H:Hp}{s:jNg}{Q:VK}{us:List Value}{vs:List V}(F:FnOk X.prog X.w X.K X.mg X.base CX k f fd ps sp)(hr:Room k X.A)(hb:Binds X.K fd ps ds)(hd:Vals dvs ds)(hx:uX CX X E)
  (I:Inv X jNj σ H s) (r:Vals vs us) (h:sp (vs++dvs) H Q E):jNi (model X.prog X.w) X.A (call (.ref f) us) (EP X jNj σ Q) X.xe s:=by
 have r2:Vals (vs++dvs) (us++ds):=r.append hd;have hl:(us++ds).length=ps.length:=by rw[<-r2.length];exact F.len _ _ _ _ h
 refine wpAny_call (codeAny_mono (F.run X.A X.stack s H ⟨us,[]⟩ (us++ds) (vs++dvs) Q E hr I.env0 (hb s us I.kIn hl) r2 h) fun r s' hq=>?_);cases r with
 | error e=>exact hx jNj σ H s e s' I hq
 | ok fl =>
  cases fl with
  | ret u=>exact I.after hq
  | next=>exact False.elim hq
  | brk=>exact False.elim hq
  | cont=>exact False.elim hq
def z0i (F:FnOk X.prog X.w X.K X.mg X.base CX k f fd ps sp)(hr:Room k X.A)(hg:Gl X x)(hm:X.mg x=some (.ref f))(hk:jJe X.K (.ref f)=true)(hb:Binds X.K fd ps ds)(hd:Vals dvs ds)(hx:uX CX X E)
  (ha:PA X (e::es) t) (hdb:autoParam ((x==("__debug__":Str))=false) au1._auto_1) (he:autoParam (jNc (e::es) X.env=(false,eval e X.env)::jNc es X.env) au3._auto_1) (hpl:autoParam ((jNh pos (jNc es X.env)).any (·.1)=false) au3._auto_1):
  PE X (.Call (.Name x p) (e::es) [] pos) (z1x sp dvs E t):=by
 intro jNj s σ H Q I h;refine jYf (vD I hg hm ?_ hdb);refine jJn (h₀:=X.base) I.ok.mod.kin hk (thn (ha pos jNj s σ H _ I h) fun us s1 ⟨vs,H1,I1,r,q⟩=>⟨I1.kIn,?_⟩) he hpl;exact z24 F hr hb hd hx I1 r q
end
structure FnScope (N P:List Str)(sc:Scope):Prop where
 kind:sc.kind=.function
 co:sc.isCoroutine=false
 gen:sc.isGenerator=false
 nd:N.Nodup
 pre:N.take P.length=P
 par:∀x∈P,sc.names.lookup x=some .local\/sc.names.lookup x=some .cell
 nofree:∀y∈sc.names,y.2≠.free
theorem Yh {kindOf:Str->Option NameKind}{x:Str}:∀ {binds:List (Str×Value)} {m:Str->Option Value},(∀v,(x,v)∉binds)->bindL kindOf binds m x=m x
 | [],_,_=>rfl
 | (n,v)::r,m,h=>by
  unfold bindL;rw[Yh fun w hw=>h w (tF _ hw)];split
  ·have:x≠n:=by rintro rfl;exact h v tE
   simp[this]
  ·rfl
theorem Ys {kindOf:Str->Option NameKind}{x:Str}:∀ {binds:List (Str×Value)} {m:Str->Option Value},(∀v,(x,v)∉binds)->bindC kindOf binds m x=m x
 | [],_,_=>rfl
 | (n,v)::r,m,h=>by
  unfold bindC;rw[Ys fun w hw=>h w (tF _ hw)];split
  ·rfl
  ·have:x≠n:=by rintro rfl;exact h v tE
   simp[this]
theorem Ym {kindOf:Str->Option NameKind}{x:Str}{v:Value}:∀ {P:List Str} {vs:List Value} {i:Nat} {m:Str->Option Value},P.Nodup->P[i]?=some x->vs[i]?=some v->kindOf x=some .local ->
  bindL kindOf (P.zip vs) m x=some v
 | [],_,_,_,_,h,_,_=>by simp at h
 | _::_,[],_,_,_,_,h,_=>by simp at h
 | p::P,w::vs,0,m,nd,h1,h2,hk=>by
  simp at h1 h2;subst h1;subst h2;show bindL kindOf ((p,w)::P.zip vs) m p=_;unfold bindL;rw[Yh fun v hv=>(sF.mp nd).1 (List.of_mem_zip hv).1,jNk hk];simp
 | p::P,w::vs,i+1,m,nd,h1,h2,hk=>by
  show bindL kindOf ((p,w)::P.zip vs) m x=_;unfold bindL;exact Ym (i:=i) (sF.mp nd).2 (by simpa using h1) (by simpa using h2) hk
theorem Yc {kindOf:Str->Option NameKind}{x:Str}{v:Value}:∀ {P:List Str} {vs:List Value} {i:Nat} {m:Str->Option Value},P.Nodup->P[i]?=some x->vs[i]?=some v->kindOf x≠some .local ->
  bindC kindOf (P.zip vs) m x=some v
 | [],_,_,_,_,h,_,_=>by simp at h
 | _::_,[],_,_,_,_,h,_=>by simp at h
 | p::P,w::vs,0,m,nd,h1,h2,hk=>by
  simp at h1 h2;subst h1;subst h2;show bindC kindOf ((p,w)::P.zip vs) m p=_;unfold bindC;rw[Ys fun v hv=>(sF.mp nd).1 (List.of_mem_zip hv).1,jPa hk];simp
 | p::P,w::vs,i+1,m,nd,h1,h2,hk=>by
  show bindC kindOf ((p,w)::P.zip vs) m x=_;unfold bindC;exact Yc (i:=i) (sF.mp nd).2 (by simpa using h1) (by simpa using h2) hk
def start (N:List Str)(vs:List V):St:=vs.map some++List.replicate (N.length-vs.length) none
noncomputable def yZ (CX:CXT)(P:jNe)(w:World)(K:jJa)(mg:Str->Option Value)(base:Heap)(N:List Str)(qual:Str)(scope:Scope)(f:Addr)(cd:Value)(A:jNf)(outer:List Env)(s:jNg)(H:Hp)(E:XK):Cx where
 prog:=P
 w:=w
 K:=K
 mg:=mg
 base:=base
 A:=A.deeper (envOfC qual scope s.heap.objs.size f cd)
 N:=N
 s₀:=s
 H₀:=H
 env:=envOfC qual scope s.heap.objs.size f cd
 outer:=outer
 stack:=envOfC qual scope s.heap.objs.size f cd::outer
 ex:=[]
 calm:=true
 fn:=fun _=>true
 pn:=[]
 xe:=fun e s'=>jNi (model P w) (A.deeper (envOfC qual scope s.heap.objs.size f cd)) (leaving (envOfC qual scope s.heap.objs.size f cd) e) (fun _ s''=>CX outer H s E e s'') (fun e' s''=>CX outer H s E e' s'') s'
def qA {sc:Scope}{n:Nat}{x:Str}(h:sc.names.lookup x=some .cell):∃c,(cellsFrom n sc.names []).lookup x=some c:=by
 have q:=jJo sc.names n [] (.inl h);exact Option.isSome_iff_exists.mp q
def Y1 {CX:CXT}{P:jNe}{w:World}{K:jJa}{mg:Str->Option Value}{base:Heap}{N ps:List Str}{qual:Str}{scope:Scope}{f:Addr}{cd:Value}{A:jNf}{outer:List Env}{s s1:jNg}{H:Hp}{E:XK}{us:List Value}{vs:List V}
  (S:FnScope N ps scope) (hd:A.handled=none) (e0:Env0 P w K mg base A outer s H) (hl:vs.length=ps.length) (r:Vals vs us)
  (x:InCallC s s.heap.objs.size (bindL (envOfC qual scope s.heap.objs.size f cd).kindOf (ps.zip us) fun _=>none) (cellsFrom (s.heap.objs.size+1) scope.names []) (bindC (envOfC qual scope s.heap.objs.size f cd).kindOf (ps.zip us) fun _=>none) s1):
  Inv (yZ CX P w K mg base N qual scope f cd A outer s H E) [] (start N vs) H s1:=by
 have hpl:ps.length<=N.length:=by have:=congrArg List.length S.pre;rw[rJ]at this;omega
 obtain⟨h1,tk,rfl,hk⟩:=x.done;have noA:∀b:Addr,b∉(yZ CX P w K mg base N qual scope f cd A outer s H E).ex:=fun b z=>absurd (show b∈([]:List Addr) from z) (by simp);refine⟨⟨e0.mod,S.kind,rfl,rfl,tI _,fun y z c h1 h2=>?_,fun y hy=>?_,fun y c _ h=>?_,fun _=>hd,Around.frames_deeper e0.frames,.inr ⟨rfl,rfl⟩,fun b z=>absurd z (noA b),e0.bs,e0.bsz,fun b _ _=>noA b,fun b z=>absurd z (noA b),e0.funs,e0.frf⟩,
  rfl,e0.bare,Un.kept hk,⟨_,x.toInCall.ns,fun i y v h1 h2 h3=>?_⟩,fun y c h=>⟨_,x.cell y c h⟩,e0.hok.fresh (tI _),fun y c h=>?_,fun p hp=>absurd (show p∈([]:List (Addr×Obj)) from hp) (by simp),e0.hok.kept hk,?_⟩
 ·exact name_of_addr x.apart (PySem.mem_of_lookup h1) (PySem.mem_of_lookup h2)
 ·have hy:scope.names.lookup y=some .cell\/scope.names.lookup y=some .free:=hy;rcases hy with hy|hy
  ·exact qA hy
  ·exact absurd rfl (S.nofree _ (PySem.mem_of_lookup hy))
 ·exact pJ (x.above y c (PySem.mem_of_lookup h))
 ·have hi:i<vs.length:=by
   unfold start at h2
   by_cases hi:i<vs.length
   ·exact hi
   ·rw[sU (by simpa using hi)]at h2;rw[pA]at h2;split at h2<;>cases h2
  have ha:vs[i]?=some v:=by
   unfold start at h2;rw[sP (by simpa using hi),tN]at h2;cases e:vs[i]? with
   | none=>rw[e]at h2;cases h2
   | some a=>rw[e]at h2;cases h2;rfl
  obtain⟨u,hu,rv⟩:=r.get ha;have hp:ps[i]?=some y:=by
   rw[<-S.pre,rG (by omega)];exact h1
  have ndP:ps.Nodup:=by rw[<-S.pre];exact S.nd.sublist (List.take_sublist _ _)
  refine⟨u,rv,?_⟩;rcases S.par y (rF hp)with k|k
  ·exact .inl ⟨k,Ym ndP hp hu k⟩
  ·obtain⟨c,e⟩:=qA (n:=s.heap.objs.size+1) k;refine .inr ⟨.inl k,c,e,?_⟩;have q:=x.cell y c e;rw[Yc ndP hp hu (by show scope.names.lookup y≠_;rw[k];decide)]at q;exact q
 ·exact e0.hok.fresh (pJ (x.above y c (PySem.mem_of_lookup h)))
 ·unfold start;show _=N.length;rw[tV,tH,rB];omega
def z1Y {CX:CXT}{P:jNe}{w:World}{K:jJa}{mg:Str->Option Value}{base:Heap}{k:Nat}{f:Addr}{name qual:Str}{params:Arguments}{body:List Stmt}{scope:Scope}{dV kV doc pm cdv ct oc:Value}{an od:Option Addr}
  {osl:Array (Option Value)} {N ps:List Str} {sp:Sp} (lk:K.lookup f=some ⟨oc,od,.func (jJc name qual params body scope dV kV doc pm an cdv ct),osl⟩) (hcd:jJg K cdv qual=true) (S:FnScope N ps scope)
  (len:∀vs H Q E,sp vs H Q E->vs.length=ps.length)
  (hbody:∀(A:jNf) (outer:List Env) (s:jNg) (H:Hp) (vs:List V) (Q:VK) (E:XK),Room k (A.deeper (envOfC qual scope s.heap.objs.size f cdv))->sp vs H Q E ->
   ∃t,PSs (yZ CX P w K mg base N qual scope f cdv A outer s H E) body t/\t { nx:=fun _ H'=>Q .non H',rt:=Q } (start N vs) H):
  FnOk P w K mg base CX (k+1) f (jJc name qual params body scope dV kV doc pm an cdv ct) ps sp:=by
 refine⟨len,fun A outer s H args us vs Q E hr e0 hb r hsp=>?_⟩;have hl:=len _ _ _ _ hsp;have KX:K.In s.heap:=e0.mod.kin.keeps fun b o e=>(e0.bs b o e).1;have lim:s.heap.NoLimit:=e0.mod.nolimit.keeps fun b o e=>(e0.bs b o e).1;have hkind:∀y∈ps.zip us,scope.names.lookup y.1=some .local\/(scope.names.lookup y.1=some .cell/\((cellsFrom (s.heap.objs.size+1) scope.names []).lookup y.1).isSome=true):=fun⟨n,v⟩ hy=>by
  rcases S.par n (List.of_mem_zip hy).1 with q|q
  ·exact .inl q
  ·exact .inr ⟨q,jJo _ _ _ (.inl q)⟩
 refine codeAny_call_function hr.depth (KX _ _ lk) rfl S.co S.gen rfl (jJy KX hcd) (hb _ _ _ _ ?_);refine wpAny_newFunctionEnv_cells S.kind hkind fun env he s1 x=>?_;subst he;refine⟨lim.keeps x.toInCall.keep,codeAny_func ?_⟩;obtain⟨t,ht,hq⟩:=hbody A outer s H vs Q E (hr.deeper _) hsp;have I:Inv (yZ CX P w K mg base N qual scope f cdv A outer s H E) [] (start N vs) H s1:=Y1 S hr.hd e0 hl r x;refine jMg (ht [] s1 (start N vs) H _ I hq) (fun fl s' hs=>?_) fun e s' hs=>hs;have fin:∀ {σ':St} {H':Hp} {v:V} {u:Value},Inv (yZ CX P w K mg base N qual scope f cdv A outer s H E) [] σ' H' s'->RelV v u->Q v H'->CE outer P w H s Q u s' :=
  fun {σ' H' v u} J rv q=>⟨v,H',J.os,J.bare,J.base,J.hok,rv,q⟩
 cases fl with
 | ret u =>
  obtain⟨v,σ',H',J,rv,q⟩:=hs;exact fin J rv q
 | next =>
  obtain⟨σ',H',J,q⟩:=hs;exact fin (v:=V.non) (u:=Value.none) J rfl q
 | brk =>
  obtain⟨_,_,_,q⟩:=hs;exact False.elim q
 | cont =>
  obtain⟨_,_,_,q⟩:=hs;exact False.elim q
section
variable {X:Cx}{x:Str}{p pos:Pos}{e:Expr}{es:List Expr}{t:TA}{id T:String}{r:List V->Hp->VK->Prop}
def tCB (r:List V->Hp->VK->Prop)(t:TA):TE:=fun σ H Q=>t σ H fun vs H1=>r vs H1 Q
def Wh (hc:CallR X (.builtin id) r)(hg:Gl X x)(hm:X.mg x=none)(hv:jKk x=some (.builtin id))(ha:PA X (e::es) t)(hn:autoParam (x≠"__name__") au1._auto_1)(hdb:autoParam ((x==("__debug__":Str))=false) au1._auto_1)
  (he:autoParam (jNc (e::es) X.env=(false,eval e X.env)::jNc es X.env) au3._auto_1) (hpl:autoParam ((jNh pos (jNc es X.env)).any (·.1)=false) au3._auto_1):PE X (.Call (.Name x p) (e::es) [] pos) (tCB r t):=by
 intro jNj s σ H Q I h;refine jYf (vE I hg hm hv ?_ hn hdb);exact PyProof.Rows.callWith_builtin1 (thn (ha pos jNj s σ H _ I h) fun us s1 ⟨vs,H1,I1,r1,q1⟩=>hc jNj s1 σ H1 vs us Q I1 r1 q1) he hpl
def Uy (hc:CallR X (.type T) r)(hg:Gl X x)(hm:X.mg x=none)(hv:jKk x=some (.type T))(ha:PA X (e::es) t)(hn:autoParam (x≠"__name__") au1._auto_1)(hdb:autoParam ((x==("__debug__":Str))=false) au1._auto_1)
  (he:autoParam (jNc (e::es) X.env=(false,eval e X.env)::jNc es X.env) au3._auto_1) (hpl:autoParam ((jNh pos (jNc es X.env)).any (·.1)=false) au3._auto_1):PE X (.Call (.Name x p) (e::es) [] pos) (tCB r t):=by
 intro jNj s σ H Q I h;refine jYf (vE I hg hm hv ?_ hn hdb);exact PyProof.Rows.callWith_type1 (thn (ha pos jNj s σ H _ I h) fun us s1 ⟨vs,H1,I1,r1,q1⟩=>hc jNj s1 σ H1 vs us Q I1 r1 q1) he hpl
end
end L2
namespace HT
open PySem PyProof.Rows
section
variable {prog:jNe}{w:World}{A:jNf}{E:Value->jNg->Prop}{s:jNg}
def cat_tup {t b:Addr}{vs ws:List Value}{Q:Value->jNg->Prop}(ht:IsTup s.heap t vs.toArray)(hb:IsTup s.heap b ws.toArray)(hv:vs≠[])
  (h1:ws=[]->Q (.ref t) s) (h2:ws≠[]->Q (.ref s.heap.objs.size) { s with heap:=s.heap.push { cls:=.type "tuple",data:=.seq (vs++ws).toArray } })
  (hsz:vs.length+ws.length<=jNb):jNi (model prog w) A (binaryOp .Add (.ref t) (.ref b)) Q E s:=by
 obtain⟨⟨cls,dd,data,sl⟩,ho,hc,n,hd⟩:=id ht;obtain⟨⟨cls2,dd2,data2,sl2⟩,ho2,hc2,n2,hd2⟩:=id hb;simp only at hc hd hc2 hd2;subst hc hd hc2 hd2;have e:vs.toArray++ws.toArray=(vs++ws).toArray:=by simp
 by_cases hw:ws=[]
 ·exact concat_meets ⟨_,ho,rfl⟩ ⟨_,ho2,rfl⟩ noFill_tuple_add seq_tuple_add jQy jQz (jQ0 _ _)
   (tuple_addW1 t b vs.toArray ws.toArray n n2 dd dd2 sl sl2 (by simpa using hv) (by simp[hw])) ⟨ho,ho2,h1 hw⟩
 ·refine concat_meets ⟨_,ho,rfl⟩ ⟨_,ho2,rfl⟩ noFill_tuple_add seq_tuple_add jQy jQz (jQ0 _ _)
   (tuple_addW2 t b vs.toArray ws.toArray n n2 dd dd2 sl sl2 (by simpa using hv) (by simpa using hw) (by rw[tM,tM];exact hsz)) ⟨ho,ho2,?_⟩
  rw[e];exact h2 hw
noncomputable def sIx (n d:Nat):Option Int->Nat
 | none=>d
 | some v=>if v<0 then (v+(n:Int)).toNat else min v.toNat n
def sIx_nat (n d k:Nat):sIx n d (some (k:Int))=min k n:=by
 show (if (k:Int)<0 then ((k:Int)+(n:Int)).toNat else min (k:Int).toNat n)=min k n;rw[jPa (by omega),pF]
def z3s (n d:Nat)(hd:d<=n)(o:Option Int):sIx n d o<=n:=by
 cases o with
 | none=>exact hd
 | some v =>
  show (if v<0 then (v+(n:Int)).toNat else min v.toNat n)<=n
  by_cases hv:v<0
  ·rw[jNk hv];omega
  ·rw[jPa hv];exact Nat.min_le_right _ _
def Ub (v:Int)(n d:Nat):(if v<0 then max (v+(n:Int)) 0 else min v (n:Int))=((sIx n d (some v):Nat):Int):=by
 show (if v<0 then max (v+(n:Int)) 0 else min v (n:Int))=(((if v<0 then (v+(n:Int)).toNat else min v.toNat n):Nat):Int)
 by_cases hv:v<0
 ·simp only[jNk hv];omega
 ·simp only[jPa hv];omega
def Vs (lo hi:Option Int)(n:Nat):Builtin.Slice.sliceAdjust lo hi 1 (n:Int)=(((sIx n 0 lo:Nat):Int),((sIx n n hi:Nat):Int)):=by
 have h1:¬((1:Int)<0):=by omega
 unfold Builtin.Slice.sliceAdjust;simp only[h1,if_false];refine Prod.ext ?_ ?_
 ·cases lo with
  | none=>rfl
  | some v=>exact Ub v n 0
 ·cases hi with
  | none=>rfl
  | some v=>exact Ub v n n
def V0 (i j:Nat):Builtin.Slice.slicePlaces (i:Int) (j:Int) 1=j-i:=by
 unfold Builtin.Slice.slicePlaces;have h1:(1:Int)>0:=by omega
 simp only[h1,if_true,Int.ediv_one];split<;>omega
def km {v:Value}{o:Option Int}{Q:Option Int->jNg->Prop}(p:IsPart v o)(h:Q o s):jNi (model prog w) A (Builtin.Slice.slicePartIndex v) Q E s:=by
 cases p with
 | none=>exact slicePart_none h
 | int i t=>exact slicePart_int h
def sliceApplied_gen {sl:Addr}{vl vu:Value}{lo hi:Option Int}{n:Nat}{Q:Int×Int×Nat->jNg->Prop}(hs:s.heap.IsSliceOf sl vl vu .none)(pl:IsPart vl lo)(pu:IsPart vu hi)
  (h:Q (((sIx n 0 lo:Nat):Int),1,sIx n n hi-sIx n 0 lo) s):jNi (model prog w) A (Builtin.Slice.sliceApplied (.ref sl) (pure (n:Int))) Q E s:=by
 obtain⟨os,hos,hcs,hds⟩:=id hs;unfold Builtin.Slice.sliceApplied Builtin.Slice.sliceFields;refine jMf (jMf (jMd hos hds (x:=vl) rfl (jMf (jMd hos hds (x:=vu) rfl (jMf (jMd hos hds (x:=.none) rfl (jMh ?_)))))));refine jMf (slicePart_none ?_);show jNi _ _ (if ((1:Int)==0)=true then _ else _) _ _ s;rw[jPa (by decide)];refine jMf (km pl (jMf (km pu (jMf (jMh ?_)))));show jNi _ _ (match Builtin.Slice.sliceAdjust lo hi 1 (n:Int)with|(lo,hi)=>pure (lo,(1:Int),Builtin.Slice.slicePlaces lo hi 1)) _ _ s;rw[Vs lo hi n];show jNi _ _ (pure (((sIx n 0 lo:Nat):Int),(1:Int),Builtin.Slice.slicePlaces ((sIx n 0 lo:Nat):Int) ((sIx n n hi:Nat):Int) 1)) _ _ s;rw[V0];exact jMh h
def JW (xs:Array Value)(i k:Nat):((List.range k).filterMap fun (m:Nat)=>xs[((i:Int)+(m:Int)*1).toNat]?).toArray=((xs.toList.drop i).take k).toArray:=by
 have e:(fun (m:Nat)=>xs[((i:Int)+(m:Int)*1).toNat]?)=fun m=>xs[i+m]?:=by
  funext m
  have:((i:Int)+(m:Int)*1).toNat=i+m:=by omega
  rw[this]
 rw[e];have:=pick_run xs i k;rw[List.filterMap_map]at this;have e2:((fun x=>xs[x]?) ∘ fun x=>i+x)=fun m=>xs[i+m]?:=rfl;rw[e2]at this;rw[this]
def getItem_tuple_cut {t sl:Addr}{items:Array Value}{vl vu:Value}{lo hi:Option Int}{Q:Value->jNg->Prop}(ht:IsTup s.heap t items)(hs:s.heap.IsSliceOf sl vl vu .none)(pl:IsPart vl lo)(pu:IsPart vu hi)
  (hw:¬(sIx items.size 0 lo=0/\sIx items.size items.size hi=items.size))
  (h:Q (.ref s.heap.objs.size) { s with heap:=s.heap.push { cls:=.type "tuple",data:=.seq ((items.toList.drop (sIx items.size 0 lo)).take (sIx items.size items.size hi-sIx items.size 0 lo)).toArray } })
  (hsz:items.size<=jNb):jNi (model prog w) A (getItem (.ref t) (.ref sl)) Q E s:=by
 have htake:sizeOk (.seq ((items.toList.drop (sIx items.size 0 lo)).take (sIx items.size items.size hi-sIx items.size 0 lo)).toArray):=by
  show ((items.toList.drop (sIx items.size 0 lo)).take (sIx items.size items.size hi-sIx items.size 0 lo)).toArray.size<=jNb;rw[tM,rJ,List.length_drop,Array.length_toList];omega
 have hj:sIx items.size items.size hi<=items.size:=z3s _ _ (tI _) hi;obtain⟨os,hos,hcs,hds⟩:=id hs;have hTs:s.TypeIs (.ref sl) "slice":=⟨os,hos,hcs⟩
 unfold getItem
 try with_reducible refine jKi ?_
 first|refine jMf (jMh ?_)|skip
 refine jMf (wpAny_sequenceKey ht.typeIs (by decide) ?_);refine jMf (wpAny_callSpecial?_slot (name:=Str.ofString "__getitem__") ht.typeIs PyProof.Rows.slot_tuple_getitem
  (jYk PyProof.Rows.slot_tuple_getitem ht.typeIs entry_tuple_getitem ?_ (args_tuple_getitem _ _)))
 show jNi _ _ (Builtin.Tuple.tupleItemsOf (.ref t) >>= _) _ _ s;refine jMf (tupleItemsOf_ ht ?_);refine jMf (wpAny_typeOf hTs ?_);rw[jNk (by decide)];refine jMf (sliceApplied_gen hs pl pu ?_);have hno:¬((((sIx items.size 0 lo:Nat):Int)==0&&(1:Int)==1&&(sIx items.size items.size hi-sIx items.size 0 lo)==items.size)=true):=by
  intro q;rw[sG,sG]at q;have q1:((sIx items.size 0 lo:Nat):Int)=0:=eq_of_beq q.1.1;have q2:sIx items.size items.size hi-sIx items.size 0 lo=items.size:=eq_of_beq q.2;exact hw ⟨by omega,by omega⟩
 show jNi _ _ (if (((sIx items.size 0 lo:Nat):Int)==0&&(1:Int)==1&&(sIx items.size items.size hi-sIx items.size 0 lo)==items.size)=true then _ else _) _ _ s;rw[jPa hno,JW]
 first
  | exact jMf (m:=Builtin.Tuple.tupleExact _) (jYi (jMh ⟨_,rfl,jMh h⟩) htake)
  | exact jMf (m:=Builtin.Tuple.tupleExact _) (jYi (jMf (jMh (jMh ⟨_,rfl,jMh h⟩))) htake)
  | exact jMf (jMf (m:=Builtin.Tuple.tupleExact _) (jYi (jMh (jMh ⟨_,rfl,jMh h⟩)) htake))
  | exact jMf (jMf (m:=Builtin.Tuple.tupleExact _) (jYi (jMh ⟨_,rfl,jMh h⟩) htake))
end
end HT
namespace L2
open PySem PySem.Spec PyProof.Rows
abbrev TO:=St->Hp->(Option Int->Hp->Prop)->Prop
def PO (X:Cx)(e:Option Expr)(t:TO):Prop:=
 ∀(jNj:List (Addr×Obj)) (s:jNg) (σ:St) (H:Hp) (Q:Option Int->Hp->Prop),Inv X jNj σ H s->t σ H Q ->
  jNi (model X.prog X.w) X.A (evalPart e X.env) (fun u s'=>∃o H',Inv X jNj σ H' s'/\IsPart u o/\Q o H') X.xe s
def U9:TO:=fun _ H Q=>Q none H
def z1C (t:TE):TO:=fun σ H Q=>t σ H fun x H1=>∃i,x=.int i/\Q (some i) H1
def uZ {ns:List Int}:∀ {us:List Value},Vals (ns.map V.int) us->IntsAre us ns:=by
 induction ns with
 | nil=>intro us r;rw[List.map_nil]at r;cases r;exact .nil
 | cons n ns ih =>
  intro us r;rw[tO]at r;cases r with
  | cons r1 r2 =>
   obtain⟨t,e⟩:=r1;subst e;exact .cons n t (ih r2)
section
variable {X:Cx}{e:Expr}{te:TE}{lo hi:Option Expr}{tl th:TO}{pos p2:Pos}
def YS:PO X none U9:=by
 intro jNj s σ H Q I h;rw[evalPart_none];exact jMh ⟨none,H,I,.none,h⟩
def VO (h:PE X e te):PO X (some e) (z1C te):=by
 intro jNj s σ H Q I hw;rw[evalPart_some];refine thn (h jNj s σ H _ I hw) fun u s1 ⟨x,H1,I1,r1,q1⟩=>?_;obtain⟨i,rfl,q⟩:=q1;obtain⟨t,rfl⟩:=r1;exact⟨some i,H1,I1,.int i t,q⟩
def SlR (X:Cx)(r:V->Option Int->Option Int->Hp->VK->Prop):Prop:=
 ∀(jNj:List (Addr×Obj)) (s:jNg) (σ:St) (H:Hp) (x:V) (v vl vu:Value) (lo hi:Option Int) (sl:Addr) (Q:VK),Inv X jNj σ H s->RelV x v->s.heap.IsSliceOf sl vl vu .none->IsPart vl lo->IsPart vu hi->r x lo hi H Q ->
  ∃T id,typeLookup (.type T) "__getitem__"=pure (some (.builtin id))/\s.TypeIs v T/\jNi (model X.prog X.w) X.A (getItem v (.ref sl)) (EP X jNj σ Q) X.xe s
theorem SlR.or {r r':V->Option Int->Option Int->Hp->VK->Prop}(h:SlR X r)(h':SlR X r'):SlR X (fun x lo hi H Q=>r x lo hi H Q\/r' x lo hi H Q):=by
 intro jNj s σ H x v vl vu lo hi sl Q I rx hs pl pu q;rcases q with q|q
 ·exact h jNj s σ H x v vl vu lo hi sl Q I rx hs pl pu q
 ·exact h' jNj s σ H x v vl vu lo hi sl Q I rx hs pl pu q
def tSl (r:V->Option Int->Option Int->Hp->VK->Prop)(te:TE)(tl th:TO):TE:=fun σ H Q=>te σ H fun x H1=>tl σ H1 fun l H2=>th σ H2 fun u H3=>r x l u H3 Q
def Wk {r:V->Option Int->Option Int->Hp->VK->Prop}(hr:SlR X r)(he:PE X e te)(hl:PO X lo tl)(hu:PO X hi th):PE X (.Subscript e (.Slice lo hi none p2) pos) (tSl r te tl th):=by
 intro jNj s σ H Q I h;refine Subscript_ (thn (he jNj s σ H _ I h) fun v s1 ⟨x,H1,I1,r1,q1⟩=>?_);refine wpAny_Slice (thn (hl jNj s1 σ H1 _ I1 q1) fun vl s2 ⟨l,H2,I2,pl,q2⟩=>thn (hu jNj s2 σ H2 _ I2 q2) fun vu s3 ⟨u,H3,I3,pu,q3⟩=>?_);rw[evalPart_none];refine jMh ?_;have I4:Inv X jNj σ H3 { s3 with heap:=s3.heap.push { cls:=.type "slice",data:=.fields #[vl,vu,.none] } }:=I3.kept (t':=s3.toks) fun b ob q=>jYb _ q;obtain⟨T,id,hT,ht,hg⟩:=hr jNj { s3 with heap:=s3.heap.push { cls:=.type "slice",data:=.fields #[vl,vu,.none] } } σ H3 x v vl vu l u s3.heap.objs.size Q I4 r1 (Heap.IsSliceOf.new ..) pl pu q3;show jNi (model X.prog X.w) X.A (subscriptTail e (.Slice lo hi none p2) v (.ref s3.heap.objs.size)) (EP X jNj σ Q) X.xe { s3 with heap:=s3.heap.push { cls:=.type "slice",data:=.fields #[vl,vu,.none] } };exact tail_any (ops:=[.ref s3.heap.objs.size,v]) ht hT hg (by with_unfolding_all rfl)
def Yx (xs:List V)(lo hi:Option Int):List V:=(xs.drop (HT.sIx xs.length 0 lo)).take (HT.sIx xs.length xs.length hi-HT.sIx xs.length 0 lo)
def jj (xs:List V)(lo hi:Option Int):(Yx xs lo hi).length<=xs.length:=by
 unfold Yx;rw[rJ,List.length_drop];omega
def z6Q (K:jJa):V->Option Int->Option Int->Hp->VK->Prop:=fun x lo hi H Q=>∃a xs,x=.ref a/\SqT K H a xs /\
 ¬(HT.sIx xs.length 0 lo=0/\HT.sIx xs.length xs.length hi=xs.length)/\∀p,H p=none->Q (.ref p) (upd H p (.tup (Yx xs lo hi)))
def K7:SlR X (z6Q X.K):=by
 intro jNj s σ H x v vl vu lo hi sl Q I rx hs pl pu h;obtain⟨a,xs,rfl,hx,hw,q⟩:=h;cases rx;obtain⟨its,r,ht,hz⟩:=I.tuple hx;have hlen:its.toArray.size=xs.length:=by rw[tM];exact r.length.symm
 refine⟨"tuple",_,PyProof.Rows.slot_tuple_getitem.lookup,ht.typeIs,?_⟩;refine HT.getItem_tuple_cut ht hs pl pu (by rw[hlen];exact hw) ?_ (by rw[hlen];exact hz);rw[hlen];refine⟨.ref s.heap.objs.size,_,I.laid (t':=s.toks) (o:=.tup (Yx xs lo hi)) (fun b ob q=>jYb _ q) (tI _) ?_,rfl,q _ (I.hok.fresh (tI _))⟩;exact⟨sE (jj xs lo hi) hz,_,(r.drop (HT.sIx xs.length 0 lo)).take (HT.sIx xs.length xs.length hi-HT.sIx xs.length 0 lo),TupN.new _ _⟩
def z1F (K:jJa):R2:=fun x y H Q=>∃a b xs ys,x=.ref a/\y=.ref b/\SqT K H a xs/\SqT K H b ys/\xs≠[]/\xs.length+ys.length<=jNb /\
 (ys=[]->Q (.ref a) H)/\(ys≠[]->∀p,H p=none->Q (.ref p) (upd H p (.tup (xs++ys))))
def Vals.nil_iff {xs:List V}{us:List Value}(r:Vals xs us):us=[]↔xs=[]:=by
 cases r with
 | nil=>simp
 | cons _ _=>simp
def z0C:OpR X (binaryOp .Add) (z1F X.K):=by
 intro jNj s σ H x y v u Q I rx ry h;obtain⟨a,b,xs,ys,rfl,rfl,ha,hb,hx,hz,q1,q2⟩:=h;cases rx;cases ry;obtain⟨its,r1,p1,_⟩:=I.tuple ha;obtain⟨its2,r2,p2,_⟩:=I.tuple hb;refine HT.cat_tup p1 p2 (fun z=>hx (r1.nil_iff.mp z)) (fun z=>⟨.ref a,H,I,rfl,q1 (r2.nil_iff.mp z)⟩) (fun z=>?_) (by rw[<-r1.length,<-r2.length];exact hz);refine⟨.ref s.heap.objs.size,_,I.laid (t':=s.toks) (o:=.tup (xs++ys)) (fun b ob q=>jYb _ q) (tI _) ?_,rfl,q2 (fun w=>z (r2.nil_iff.mpr w)) _ (I.hok.fresh (tI _))⟩;exact⟨by rw[tV];exact hz,_,r1.append r2,TupN.new _ _⟩
end
def ixN (n:Nat)(i:Int):Option Nat:=if 0<=i then (if i<n then some i.toNat else none) else if -(n:Int)<=i then some (i+n).toNat else none
def atI {α:Type}(xs:List α)(i:Int):Option α:=(ixN xs.length i).bind fun j=>xs[j]?
def X1 {n:Nat}{i:Int}{j:Nat}(h:ixN n i=some j):seqIndex? i n=some j/\j<n/\-(n:Int)<=i/\i<n:=by
 unfold ixN at h
 by_cases h0:0<=i
 ·rw[jNk h0]at h
  by_cases h1:i<n
  ·rw[jNk h1]at h;have e:i.toNat=j:=jYe h;exact⟨by rw[seqIndex_of h0 h1,e],by omega,by omega,h1⟩
  ·rw[jPa h1]at h;cases h
 ·rw[jPa h0]at h
  by_cases h1:-(n:Int)<=i
  ·rw[jNk h1]at h;have e:(i+n).toNat=j:=jYe h;exact⟨by rw[seqIndex_neg (by omega) h1,e],by omega,h1,by omega⟩
  ·rw[jPa h1]at h;cases h
def YM {α:Type}{xs:List α}{i:Int}{v:α}(h:atI xs i=some v):∃j,seqIndex? i xs.length=some j/\xs[j]?=some v/\j<xs.length/\-(xs.length:Int)<=i/\i<xs.length:=by
 unfold atI at h;cases e:ixN xs.length i with
 | none=>rw[e]at h;cases h
 | some j =>
  rw[e]at h;obtain⟨h1,h2,h3,h4⟩:=X1 e;exact⟨j,h1,h,h2,h3,h4⟩
def vw {α:Type}{xs:List α}{j:Nat}{v:α}(h:xs[j]?=some v):atI xs (j:Int)=some v:=by
 have hj:j<xs.length:=(tJ.mp h).1;have e:ixN xs.length (j:Int)=some j:=by
  unfold ixN;rw[jNk (by omega),jNk (by omega)];simp
 unfold atI;rw[e];exact h
def jM (b:Expr):Prop:=∀o i,subscripted b false o i=operate [o,i] (getItem o i)
def IxR (X:Cx)(r:R2):Prop:=
 ∀(value slice:Expr) (jNj:List (Addr×Obj)) (s:jNg) (σ:St) (H:Hp) (x y:V) (v u:Value) (Q:VK),Inv X jNj σ H s->RelV x v->RelV y u->r x y H Q ->
  subscripted slice false v u=operate [v,u] (getItem v u)->jNi (model X.prog X.w) X.A (subscriptTail value slice v u) (EP X jNj σ Q) X.xe s
def MtR (X:Cx)(id:String)(r:V->List V->Hp->VK->Prop):Prop:=
 ∀(jNj:List (Addr×Obj)) (s:jNg) (σ:St) (H:Hp) (x:V) (xs:List V) (v:Value) (us:List Value) (Q:VK),Inv X jNj σ H s->RelV x v->Vals xs us->r x xs H Q ->
  jNi (model X.prog X.w) X.A (call (.builtin id) (v::us)) (EP X jNj σ Q) X.xe s
section
variable {X:Cx}{a b:Expr}{ta tb:TE}{pos:Pos}
theorem IxR.or {r r':R2}(h:IxR X r)(h':IxR X r'):IxR X (fun x y H Q=>r x y H Q\/r' x y H Q):=by
 intro value slice jNj s σ H x y v u Q I rx ry q hs;rcases q with q|q
 ·exact h value slice jNj s σ H x y v u Q I rx ry q hs
 ·exact h' value slice jNj s σ H x y v u Q I rx ry q hs
def Jj {r:R2}(hr:IxR X r)(ha:PE X a ta)(hb:PE X b tb)(hs:jM b):PE X (.Subscript a b pos) (tOp r ta tb):=by
 intro jNj s σ H Q I h;exact Subscript_ (z30 ha hb I h fun v u s2 x y H2 I2 rx ry q=>hr a b jNj s2 σ H2 x y v u Q I2 rx ry q (hs _ _))
def z5L (K:jJa):R2:=fun x y H Q=>∃p xs i v,x=.ref p/\y=.int i/\SqL K H p xs/\atI xs i=some v/\Q v H
def z5v (K:jJa):R2:=fun x y H Q=>∃p xs i v,x=.ref p/\y=.int i/\SqT K H p xs/\atI xs i=some v/\Q v H
def z47:R2:=fun x y H Q=>∃z i c,x=.str z/\y=.int i/\z.length<=jNb/\atI z.cps.toList i=some c/\Q (.str ⟨#[c]⟩) H
def ix_list:IxR X (z5L X.K):=by
 intro value slice jNj s σ H x y v u Q I rx ry h hs;obtain⟨p,xs,i,z,rfl,rfl,hq,he,q⟩:=h;cases rx;obtain⟨t,rfl⟩:=ry;obtain⟨its,r,pl,hz⟩:=I.list hq;obtain⟨j,h1,h2,h3,h4,h5⟩:=YM he;obtain⟨w,ew,rw'⟩:=r.get h2;have hl:=r.length;have hn:=j7;have fin:EP X jNj σ Q w s:=⟨z,H,I,rw',q⟩
 by_cases h0:0<=i
 ·have hj:i.toNat=j:=by
   rw[seqIndex_of h0 h5]at h1;exact jYe h1
  exact item_listR pl.isList h0 (by omega) (by rw[hj];simpa using ew) fin hs
 ·have hj:(i+(its.toArray.size:Int)).toNat=j:=by
   rw[seqIndex_neg (by omega) h4]at h1;rw[tM,<-hl];exact jYe h1
  exact subscriptTail_builtinR (x:=w) pl.isList.typeIs slot_list_getitem.lookup
   (wpAny_getItem_list_neg (Q:=fun r s'=>r=w/\EP X jNj σ Q r s') pl.isList (by omega) (by rw[tM]<;>omega) (by omega) (by rw[hj];simpa using ew) ⟨rfl,fin⟩) hs
def ix_tup:IxR X (z5v X.K):=by
 intro value slice jNj s σ H x y v u Q I rx ry h hs;obtain⟨p,xs,i,z,rfl,rfl,hq,he,q⟩:=h;cases rx;obtain⟨t,rfl⟩:=ry;obtain⟨its,r,pl,hz⟩:=I.tuple hq;obtain⟨j,h1,h2,h3,h4,h5⟩:=YM he;obtain⟨w,ew,rw'⟩:=r.get h2;have hl:=r.length;have hn:=j7;have fin:EP X jNj σ Q w s:=⟨z,H,I,rw',q⟩
 exact subscriptTail_builtinR (x:=w) pl.typeIs slot_tuple_getitem.lookup
  (getItem_tuple (j:=j) (Q:=fun r s'=>r=w/\EP X jNj σ Q r s') pl (by omega) (by omega) (by rw[tM,<-hl];exact h1) (by simpa using ew) ⟨rfl,fin⟩) hs
def z3W:IxR X z47:=by
 intro value slice jNj s σ H x y v u Q I rx ry h hs;obtain⟨z,i,c,rfl,rfl,hz,he,q⟩:=h;obtain⟨t,rfl⟩:=rx;obtain⟨t',rfl⟩:=ry;obtain⟨j,h1,h2,h3,h4,h5⟩:=YM he;have hl:z.cps.toList.length=z.length:=by simp[Str.length]
 rw[hl]at h1 h4 h5;have hn:=j7;exact tail_any (typeIs_str s z t) slot_str_getitem.lookup (getItem_str (c:=c) (by
  have e1:decide (i < -(2 ^ 63:Int))=false:=decide_eq_false (by omega);have e2:decide (i>=2 ^ 63)=false:=decide_eq_false (by omega);rw[e1,e2,Bool.or_false]) (by rw[h1];simpa using h2) ⟨.str ⟨#[c]⟩,H,I.tok _,⟨_,rfl⟩,q⟩) hs
def rIx (K:jJa):R2:=fun x y H Q=>z5L K x y H Q\/z5v K x y H Q\/z47 x y H Q
def X3:IxR X (rIx X.K):=ix_list.or (ix_tup.or z3W)
def Va (its:List Value)(n j:Nat)(u:Value):Obj.mapSeq (·.setIfInBounds j u) { cls:=.type "list",data:=.seq its.toArray n }={ cls:=.type "list",data:=.seq (its.set j u).toArray n }:=by
 simp[Obj.mapSeq]
theorem Inv.lst {jNj:List (Addr×Obj)}{σ:St}{H:Hp}{s:jNg}{p:Addr}{xs:List V}(I:Inv X jNj σ H s)(h:H p=some (.lst xs)):
  ∃(its:List Value) (n:Nat),Vals xs its/\s.heap.get? p=some { cls:=.type "list",data:=.seq its.toArray n }/\xs.length<=sizeLine:=by
 obtain⟨z,its,n,r,e⟩:=I.hok p _ h;exact⟨its,n,r,e,z⟩
def Inv.lstUpd {jNj:List (Addr×Obj)}{σ:St}{H:Hp}{s:jNg}{p:Addr}{xs ys:List V}{its its':List Value}{n n':Nat}{f:Obj->Obj}(I:Inv X jNj σ H s)(h:H p=some (.lst xs))
  (ho:s.heap.get? p=some { cls:=.type "list",data:=.seq its.toArray n }) (hf:f { cls:=.type "list",data:=.seq its.toArray n }={ cls:=.type "list",data:=.seq its'.toArray n' }) (r:Vals ys its') (hz:ys.length<=jNb) (t:Nat):
  Inv X jNj σ (upd H p (.lst ys)) { s with heap:=s.heap.update p f,toks:=t }:=by
 have e:(s.heap.update p f).get? p=some { cls:=.type "list",data:=.seq its'.toArray n' }:=by
  rw[Heap.get?_update_self f ho (by rw[hf]<;>rfl),hf]
 refine I.write (x:=p) (e:=p) (by rw[h];trivial) (.inl rfl) (fun b u hb q=>(Heap.get?_update_other _ _ (Ne.symm hb)).trans q) ⟨_,e⟩ ?_;exact⟨hz,its',n',r,e⟩
def z4e:V->V->V->Hp->(Hp->Prop)->Prop:=fun o i v H Q=>∃p xs k j,o=.ref p/\i=.int k/\H p=some (.lst xs)/\ixN xs.length k=some j/\Q (upd H p (.lst (xs.set j v)))
def Jr:z4D X z4e:=by
 intro jNj s σ H o i v ov iv u Q I ro ri rv h;obtain⟨p,xs,k,j,rfl,rfl,hp,hj,q⟩:=h;cases ro;obtain⟨t,rfl⟩:=ri;obtain⟨its,n,r,ho,hz⟩:=I.lst hp;obtain⟨h1,h2,h3,h4⟩:=X1 hj;have hl:=r.length;have hn:=j7;have I':Inv X jNj σ (upd H p (.lst (xs.set j v))) { s with heap:=s.heap.update p (Obj.mapSeq (·.setIfInBounds j u)) }:=
  I.lstUpd hp ho (Va its n j u) (r.set rv j) (by rw[sD];exact hz) s.toks
 by_cases h0:0<=k
 ·have hk:k.toNat=j:=by
   rw[seqIndex_of h0 h4]at h1;exact jYe h1
  exact PySem.W.ki_setAt ho h0 (by omega) (by rw[tM,<-hl];exact h4) (by rw[hk];exact⟨_,I',q⟩)
 ·have hk:(k+(its.toArray.size:Int)).toNat=j:=by
   rw[seqIndex_neg (by omega) h3]at h1;rw[tM,<-hl];exact jYe h1
  exact PySem.W.ki_setBack ho (by omega) (by rw[tM,<-hl];exact h3) (by omega) (by rw[hk];exact⟨_,I',q⟩)
def Xk (lo hi:Option Int)(n:Nat):(sliceBounds lo hi none n).1=((HT.sIx n 0 lo:Nat):Int)/\(sliceBounds lo hi none n).2.1=((HT.sIx n n hi:Nat):Int)/\(sliceBounds lo hi none n).2.2=1:=by
 refine⟨?_,?_,rfl⟩
 ·cases lo with
  | none=>simp[sliceBounds,HT.sIx]
  | some i =>
   simp only[sliceBounds,HT.sIx,Option.getD_none,show (1:Int)>0 by decide,if_true]
   by_cases h:i<0
   ·simp only[h,if_true]<;>omega
   ·simp only[h,if_false]<;>omega
 ·cases hi with
  | none=>simp[sliceBounds,HT.sIx]
  | some i =>
   simp only[sliceBounds,HT.sIx,Option.getD_none,show (1:Int)>0 by decide,if_true]
   by_cases h:i<0
   ·simp only[h,if_true]<;>omega
   ·simp only[h,if_false]<;>omega
def ZA (its:List Value)(lo hi:Option Int):slicePick its.toArray lo hi none=((its.drop (HT.sIx its.length 0 lo)).take (HT.sIx its.length its.length hi-HT.sIx its.length 0 lo)).toArray:=by
 obtain⟨h1,h2,h3⟩:=Xk lo hi its.toArray.size;unfold slicePick;rw[h1,h2,h3];simp only[sliceRange_one,pick_run,tM]<;>rfl
def z6P (K:jJa):V->Option Int->Option Int->Hp->VK->Prop:=fun x lo hi H Q=>∃a xs,x=.ref a/\SqL K H a xs/\∀p,H p=none->Q (.ref p) (upd H p (.lst (Yx xs lo hi)))
def Ud:SlR X (z6P X.K):=by
 intro jNj s σ H x v vl vu lo hi sl Q I rx hs pl pu h;obtain⟨a,xs,rfl,hx,q⟩:=h;cases rx;obtain⟨its,r,ht,hz⟩:=I.list hx;have hlen:=r.length;refine⟨"list",_,slot_list_getitem.lookup,ht.isList.typeIs,?_⟩;refine wpAny_getItem_list_slice ht.isList hs pl pu .none (by simp) ?_ (by rw[tM]<;>omega);rw[ZA,<-hlen];refine⟨.ref s.heap.objs.size,_,I.laid (t':=s.toks) (o:=.lst (Yx xs lo hi)) (fun b ob q=>jYb _ q) (tI _) ?_,rfl,q _ (I.hok.fresh (tI _))⟩;exact⟨sE (jj xs lo hi) hz,_,0,(r.drop (HT.sIx xs.length 0 lo)).take (HT.sIx xs.length xs.length hi-HT.sIx xs.length 0 lo),jYd _ rfl⟩
def YO:CallR X (.builtin "len") (fun xs H Q=>∃p ys,xs=[.ref p]/\(SqL X.K H p ys\/SqT X.K H p ys)/\Q (.int ys.length) H):=by
 intro jNj s σ H xs us Q I r h;obtain⟨p,ys,rfl,hq,q⟩:=h;obtain⟨u,rfl,rx⟩:=wD r;cases rx;have hn:=j7;rcases hq with hq|hq
 ·obtain⟨its,r',pl,hz⟩:=I.list hq;have hlen:=r'.length;exact Calls.call_len_list pl.isList (by simp only[tM]<;>omega) ⟨.int ys.length,H,I.tok _,⟨s.toks+1,by rw[tM,hlen]⟩,q⟩
 ·obtain⟨its,r',pl,hz⟩:=I.tuple hq;have hlen:=r'.length;exact len_tuple pl (by simp only[tM]<;>omega) ⟨.int ys.length,H,I.tok _,⟨s.toks+1,by rw[tM,hlen]⟩,q⟩
def YT:CallR X (.builtin "len") (fun xs H Q=>∃z,xs=[.str z]/\z.length<=jNb/\Q (.int z.length) H):=by
 intro jNj s σ H xs us Q I r h;obtain⟨z,rfl,hz,q⟩:=h;obtain⟨u,rfl,t,rfl⟩:=wD r;have hn:=j7;exact len_str (by omega) ⟨.int z.length,H,I.tok _,⟨_,rfl⟩,q⟩
theorem CallR.or {f:Value}{r r':List V->Hp->VK->Prop}(h:CallR X f r)(h':CallR X f r'):CallR X f (fun xs H Q=>r xs H Q\/r' xs H Q):=by
 intro jNj s σ H xs us Q I rs q;rcases q with q|q
 ·exact h jNj s σ H xs us Q I rs q
 ·exact h' jNj s σ H xs us Q I rs q
def vJ:CallR X (.type "list") (fun xs H Q=>∃p ys,xs=[.ref p]/\(SqL X.K H p ys\/SqT X.K H p ys)/\∀l,H l=none->Q (.ref l) (upd H l (.lst ys))):=by
 intro jNj s σ H xs us Q I r h;obtain⟨p,ys,rfl,hq,q⟩:=h;obtain⟨u,rfl,rx⟩:=wD r;cases rx;have fin:∀(its:List Value),Vals ys its->ys.length<=jNb->∀(h':Heap) (c':Nat),(∀b o',s.heap.get? b=some o'->h'.get? b=some o') ->
   h'.get? s.heap.objs.size=some { cls:=.type "list",dict:=none,data:=.seq its.toArray c',slots:=#[] }->EP X jNj σ Q (.ref s.heap.objs.size) { s with heap:=h' }:=fun its r' hz h' c' kp e =>
  ⟨.ref s.heap.objs.size,_,I.laid (t':=s.toks) kp (tI _) (show ObjOk X.prog X.w _ h' _ (.lst ys) from⟨hz,its,c',r',e⟩),rfl,q _ (I.hok.fresh (tI _))⟩
 rcases hq with hq|hq
 ·obtain⟨its,r',pl,hz⟩:=I.list hq;have hlen:=r'.length;obtain⟨o,ho,hc,n,hd⟩:=pl.isList;exact call_list_seq p (.inl rfl) ho hc hd (fun h' c' kp e=>fin its r' hz h' c' kp e) (by simp only[tM]<;>omega)
 ·obtain⟨its,r',pl,hz⟩:=I.tuple hq;have hlen:=r'.length;obtain⟨o,ho,hc,n,hd⟩:=pl;exact call_list_seq p (.inr rfl) ho hc hd (fun h' c' kp e=>fin its r' hz h' c' kp e) (by simp only[tM]<;>omega)
def yW:CallR X (.type "tuple") (fun xs H Q=>∃p ys,xs=[.ref p]/\((SqL X.K H p ys/\∀l,H l=none->Q (.ref l) (upd H l (.tup ys)))\/(SqT X.K H p ys/\Q (.ref p) H))):=by
 intro jNj s σ H xs us Q I r h;obtain⟨p,ys,rfl,h⟩:=h;obtain⟨u,rfl,rx⟩:=wD r;cases rx;rcases h with⟨hq,q⟩|⟨hq,q⟩
 ·obtain⟨its,r',pl,hz⟩:=I.list hq;have hlen:=r'.length;refine call_tuple_list pl.isList (fun h' kp=>?_) (by simp only[tM]<;>omega);have I1:Inv X jNj σ H { s with heap:=h' }:=I.kept (t':=s.toks) kp;have I2:Inv X jNj σ (upd H h'.objs.size (.tup ys)) { s with heap:=h'.push { cls:=.type "tuple",data:=.seq its.toArray } }:=
   I1.laid (t':=s.toks) (fun b o e=>jYb _ e) (tI _) (show ObjOk X.prog X.w _ _ _ (.tup ys) from⟨hz,its,r',TupN.new _ _⟩)
  exact⟨.ref h'.objs.size,_,I2,rfl,q _ (I1.hok.fresh (tI _))⟩
 ·obtain⟨its,r',pl,hz⟩:=I.tuple hq;exact call_tuple_same pl ⟨.ref p,H,I,rfl,q⟩
def tyV (K:jJa)(T:String)(x:V)(H:Hp):Prop:=match x with
 | .str _=>T="str"
 | .int _=>T="int"
 | .ref p=>(T="list"/\∃xs,SqL K H p xs)\/(T="tuple"/\∃o,K.lookup p=some o/\o.cls=.type "tuple"/\o.dict=none) \/
   (T="dict"/\((∃kvs,H p=some (.dK kvs))\/∃kvs,H p=some (.dT kvs)))\/(T="set"/\∃S n,H p=some (.set S n))
 | _=>False
def JX {jNj:List (Addr×Obj)}{σ:St}{H:Hp}{s:jNg}{T:String}{x:V}{v:Value}(I:Inv X jNj σ H s)(r:RelV x v)(ty:tyV X.K T x H):
  s.TypeIs v T/\∀a,v=.ref a->∃ob,s.heap.get? a=some ob/\ob.dict=none:=by
 cases x with
 | str z =>
  obtain⟨t,rfl⟩:=r;cases (show T="str" from ty);exact⟨typeIs_str s z t,fun _ e=>nomatch e⟩
 | int i =>
  obtain⟨t,rfl⟩:=r;cases (show T="int" from ty);exact⟨typeIs_int s i t,fun _ e=>nomatch e⟩
 | ref p =>
  cases r;rcases ty with⟨rfl,xs,hq⟩|⟨rfl,o,hk,hc,hd⟩|⟨rfl,hk⟩|⟨rfl,S,n,hk⟩
  ·obtain⟨its,_,pl,_⟩:=I.list hq;refine⟨pl.isList.typeIs,fun a e=>?_⟩;cases e;obtain⟨o,n,e,c,hd,_⟩:=pl;exact⟨o,e,hd⟩
  ·refine⟨⟨o,I.kIn p o hk,hc⟩,fun a e=>?_⟩;cases e;exact⟨o,I.kIn _ o hk,hd⟩
  ·have z:∃o,s.heap.get? p=some o/\o.ExactDict:=by
    rcases hk with⟨kvs,hk⟩|⟨kvs,hk⟩
    ·obtain⟨_,_,_,_,o,_,_,e,ex,_⟩:=I.hok p _ hk;exact⟨o,e,ex⟩
    ·obtain⟨_,_,_,_,o,_,_,e,ex,_⟩:=I.hok p _ hk;exact⟨o,e,ex⟩
   obtain⟨o,e,ex⟩:=z;refine⟨⟨o,e,ex.1⟩,fun a e2=>?_⟩;cases e2;exact⟨o,e,ex.2.1⟩
  ·obtain⟨o,_,_,_,e,ex,_⟩:=I.hok p _ hk;refine⟨⟨o,e,ex.1⟩,fun a e2=>?_⟩;cases e2;exact⟨o,e,ex.2.1⟩
 | _=>exact False.elim ty
def z6I (K:jJa)(T:String)(r:V->List V->Hp->VK->Prop)(to:TE):TE:=fun σ H Q=>to σ H fun x H1=>tyV K T x H1/\r x [] H1 Q
def tBM (K:jJa)(T:String)(r:V->List V->Hp->VK->Prop)(to:TE)(t:TA):TE:=fun σ H Q=>to σ H fun x H1=>tyV K T x H1/\t σ H1 fun xs H2=>r x xs H2 Q
variable {o e:Expr}{es:List Expr}{to:TE}{t:TA}{name:Str}{apos cpos:Pos}{T id:String}{r:V->List V->Hp->VK->Prop}
def Ka (pa:PlainAttrs T)(slot:Slot T name id)(hty:typeOf (.builtin id)=pure (.type "method_descriptor"))(hm:MtR X id r)(ho:PE X o to)
  (hbase:autoParam (jKg o name X.env (eval o X.env)=eval o X.env) au3._auto_1) (hline:autoParam ((apos.endLine==cpos.line)=true) au3._auto_1):PE X (.Call (.Attribute o name apos) [] [] cpos) (z6I X.K T r to):=by
 intro jNj s σ H Q I h;refine wpAny_Call_method0_late hbase hline (thn (ho jNj s σ H _ I h) fun v s1 ⟨x,H1,I1,r1,ty,q1⟩=>?_);obtain⟨h1,h2⟩:=JX I1 r1 ty;exact⟨T,id,pa,slot,hty,h1,h2,Calls.callWith_builtin rfl (PySem.evalArgs_none (hm jNj s1 σ H1 x [] v [] Q I1 r1 .nil q1))⟩
def Ue (pa:PlainAttrs T)(slot:Slot T name id)(hty:typeOf (.builtin id)=pure (.type "method_descriptor"))(hm:MtR X id r)(ho:PE X o to)(ha:PA X (e::es) t)
  (hbase:autoParam (jKg o name X.env (eval o X.env)=eval o X.env) au3._auto_1)
  (hfew:autoParam (((jNh cpos (jNc (e::es) X.env)).all (fun x=>!x.1)&&(jNa cpos (jMa [] X.env)).all (fun x=>x.1.isSome)
   && decide ((e::es).length+([]:List jNd).length+(if ([]:List jNd).isEmpty then 0 else 1)<30))=true) au3._auto_1)
  (hline:autoParam ((apos.endLine==cpos.line)=true) au3._auto_1) (hs:autoParam (jNc (e::es) X.env=(false,eval e X.env)::jNc es X.env) au3._auto_1) (hplain:autoParam ((jNh cpos (jNc es X.env)).any (·.1)=false) au3._auto_1):
  PE X (.Call (.Attribute o name apos) (e::es) [] cpos) (tBM X.K T r to t):=by
 intro jNj s σ H Q I h;refine wpAny_Call_method_late hbase hfew hline rfl (thn (ho jNj s σ H _ I h) fun v s1 ⟨x,H1,I1,r1,ty,q1⟩=>?_);obtain⟨h1,h2⟩:=JX I1 r1 ty;refine⟨T,id,pa,slot,hty,h1,h2,?_⟩;have hA:=ha cpos jNj s1 σ H1 _ I1 q1;rw[hs]at hA ⊢;refine Calls.callWith_builtin (by show (false||(jNh cpos (jNc es X.env)).any (·.1))=false;rw[hplain]<;>rfl) (Calls.evalArgs_plain ?_);exact thn hA fun us s2 ⟨vs,H2,I2,r2,q2⟩=>hm jNj s2 σ H2 x vs v us Q I2 r1 r2 q2
end
def MtM (X:Cx)(id:String)(r:V->List V->Hp->VK->Prop):Prop:=
 ∀(jNj:List (Addr×Obj)) (s:jNg) (σ:St) (H:Hp) (x:V) (xs:List V) (v:Value) (us:List Value) (Q:VK),Inv X jNj σ H s->RelV x v->Vals xs us->r x xs H Q ->
  jNi (model X.prog X.w) X.A (call (.builtin id) (v::us)) (EP X jNj σ Q) X.xe s
theorem Vals.one:∀ {x:V} {us:List Value},Vals [x] us->∃u,us=[u]/\RelV x u
 | _,_,.cons r .nil=>⟨_,rfl,r⟩
theorem Vals.rep {xs:List V}{us:List Value}(h:Vals xs us):∀k:Nat,Vals (List.replicate k xs).flatten (List.replicate k us).flatten
 | 0=>.nil
 | k+1=>by
  rw[sV,sV,rH,rH];exact Vals.append h (Vals.rep h k)
theorem ZZ (its:List Value):∀(k:Nat) (acc:List Value),
  List.foldl (fun x1 x2=>x1++x2) acc.toArray (List.replicate k its.toArray)=(acc++(List.replicate k its).flatten).toArray
 | 0,acc=>by simp
 | k+1,acc=>by
  have e:acc.toArray++its.toArray=(acc++its).toArray:=by simp
  have e2:(acc++its)++(List.replicate k its).flatten=acc++(List.replicate (k+1) its).flatten:=by
   rw[sV,rH,sS]
  rw[<-e2,<-ZZ its k (acc++its),<-e,sV,List.foldl_cons]
section
variable {X:Cx}{jNj:List (Addr×Obj)}{σ:St}{H:Hp}{s:jNg}{l b:Addr}{xs ys zs:List V}
theorem Inv.lset {its its':List Value}{n:Nat}{f:Array Value->Array Value}{t':Nat}(I:Inv X jNj σ H s)(hH:H l=some (.lst xs))
  (e:s.heap.get? l=some { cls:=.type "list",data:=.seq its.toArray n }) (hf:f its.toArray=its'.toArray) (hv:Vals ys its') (hz:ys.length<=jNb):
  Inv X jNj σ (upd H l (.lst ys)) { s with heap:=s.heap.update l (Obj.mapSeq f),toks:=t' }:=by
 have q:=PySem.IsL.update e f;rw[hf]at q;refine I.write (x:=l) (e:=l) (by rw[hH];exact trivial) (.inl rfl) (fun b' u hb hu=>(Heap.get?_update_other s.heap (Obj.mapSeq f) (Ne.symm hb)).trans hu) ⟨_,q⟩ ?_;exact⟨hz,its',_,hv,q⟩
theorem Inv.lnew {its:List Value}{t':Nat}(I:Inv X jNj σ H s)(hv:Vals ys its)(hz:ys.length<=jNb):
  Inv X jNj σ (upd H s.heap.objs.size (.lst ys)) { s with heap:=s.heap.push { cls:=.type "list",data:=.seq its.toArray },toks:=t' }:=
 I.laid (fun _ _ q=>jYb _ q) (tI _) ⟨hz,its,0,hv,jYd _ rfl⟩
theorem Inv.fresh (I:Inv X jNj σ H s):H s.heap.objs.size=none:=I.hok.fresh (tI _)
theorem Inv.lstM (I:Inv X jNj σ H s)(hH:H l=some (.lst xs)):xs.length<=jNb/\∃(its:List Value) (n:Nat),Vals xs its/\xs.length=its.length/\s.heap.get? l=some { cls:=.type "list",data:=.seq its.toArray n }:=by
 obtain⟨z,its,n,r,e⟩:=I.hok l _ hH;exact⟨z,its,n,r,r.length,e⟩
def Z6 {n:Nat}(h:n<=jNb):Builtin.List.listTooLong n=false:=by
 unfold Builtin.List.listTooLong;exact decide_eq_false (by omega)
end
section
variable {X:Cx}
def z0Q:V->List V->Hp->VK->Prop:=fun x vs H Q=>∃l xs y,x=.ref l/\vs=[y]/\H l=some (.lst xs)/\xs.length<jNb/\Q .non (upd H l (.lst (xs++[y])))
def wY:MtM X "list.append" z0Q:=by
 intro jNj s σ H x vs v us Q I rx rv h;obtain⟨l,xs,y,rfl,rfl,hH,hz,q⟩:=h;cases rx;obtain⟨u,rfl,ru⟩:=rv.one;obtain⟨z,its,n,r,hl,e⟩:=I.lstM hH;refine call_meets F.slot_list_append ⟨_,e,rfl⟩ F.entry_list_append (F.args_list_append_2 _ _) (PySem.list_append l its.toArray n u (by rw[tM];omega)) ⟨e,?_⟩;refine⟨.non,_,I.lset (its':=its++[u]) hH e (by simp) (r.append (.cons ru .nil)) ?_,rfl,q⟩;rw[tV,sT];omega
def z0D:V->List V->Hp->VK->Prop:=fun x vs H Q=>∃l b xs zs,x=.ref l/\vs=[.ref b]/\H l=some (.lst xs)/\H b=some (.lst zs)/\xs.length+zs.length<=jNb/\Q .non (upd H l (.lst (xs++zs)))
def mt_extend:MtM X "list.extend" z0D:=by
 intro jNj s σ H x vs v us Q I rx rv h;obtain⟨l,b,xs,zs,rfl,rfl,hH,hB,hz,q⟩:=h;cases rx;obtain⟨u,rfl,ru⟩:=rv.one;cases ru;obtain⟨z,its,n,r,hl,e⟩:=I.lstM hH;obtain⟨z2,its2,n2,r2,hl2,e2⟩:=I.lstM hB;have hsz:its.toArray.size+its2.toArray.size<=sizeLine:=by rw[tM,tM];omega
 have hlong:¬(!its.toArray.isEmpty&&Builtin.List.listTooLong (its.toArray.size+its2.toArray.size))=true:=by
  rw[Z6 hsz,pH];exact tP
 refine call_meets F.slot_list_extend ⟨_,e,rfl⟩ F.entry_list_extend (F.args_list_extend_2 _ _)
  (AutoSeq1.list_extend_list_list_0 l its.toArray n b its2.toArray n2 hlong (by rw[tM];omega) (by omega)) ⟨e,e2,?_⟩
 refine⟨.non,_,I.lset (its':=its++its2) hH e (by simp) (r.append r2) ?_,rfl,q⟩;rw[tV];omega
def z4h:R2:=fun x y H Q=>∃l b xs zs,x=.ref l/\y=.ref b/\H l=some (.lst xs)/\H b=some (.lst zs)/\xs.length+zs.length<=jNb/\∀p,H p=none->Q (.ref p) (upd H p (.lst (xs++zs)))
def z3g:OpR X (binaryOp .Add) z4h:=by
 intro jNj s σ H x y v u Q I rx ry h;obtain⟨l,b,xs,zs,rfl,rfl,hH,hB,hz,q⟩:=h;cases rx;cases ry;obtain⟨z,its,n,r,hl,e⟩:=I.lstM hH;obtain⟨z2,its2,n2,r2,hl2,e2⟩:=I.lstM hB;refine PySem.P.add_list e e2 ?_ (by rw[tM,tM];omega);have ea:its.toArray++its2.toArray=(its++its2).toArray:=by simp
 rw[ea];exact⟨.ref _,_,I.lnew (t':=s.toks) (r.append r2) (by rw[tV];omega),rfl,q _ I.fresh⟩
def z3R:R2:=fun x y H Q=>∃l k xs,x=.ref l/\y=.int k/\H l=some (.lst xs)/\-(2 ^ 63)<=k/\k<2 ^ 63/\xs.length*k.toNat<=jNb /\
 ∀p,H p=none->Q (.ref p) (upd H p (.lst (List.replicate k.toNat xs).flatten))
def Kx {α:Type}(xs:List α)(k:Nat):(List.replicate k xs).flatten.length=k*xs.length:=by
 induction k with
 | zero=>simp
 | succ k ih=>rw[sV,rH,tV,ih,Nat.succ_mul,Nat.add_comm]
def z3y:OpR X (binaryOp .Mult) z3R:=by
 intro jNj s σ H x y v u Q I rx ry h;obtain⟨l,k,xs,rfl,rfl,hH,h1,h2,hz,q⟩:=h;cases rx;obtain⟨t,rfl⟩:=ry;obtain⟨z,its,n,r,hl,e⟩:=I.lstM hH;have hlen:its.toArray.size*k.toNat<=sizeLine:=by rw[tM,<-hl];exact hz
 have hcap:¬its.toArray.size*k.toNat>(2 ^ 63-1)/8:=by
  have:(sizeLine:Nat)<=(2 ^ 63-1)/8:=by decide
  omega
 have hfit:¬(!Builtin.List.listFitsIndex k)=true:=by
  rw[fitsIndex_both h1 h2];exact tP
 have hlong:¬Builtin.List.listTooLong (its.toArray.size*k.toNat)=true:=by
  rw[Z6 hlen];exact tP
 have hnew:List.foldl (fun x1 x2=>x1++x2) #[] (List.replicate (if its.toArray.isEmpty=true then 0 else k.toNat) its.toArray)=(List.replicate k.toNat its).flatten.toArray:=by
  have f0:∀m:Nat,List.foldl (fun x1 x2=>x1++x2) #[] (List.replicate m its.toArray)=(List.replicate m its).flatten.toArray:=fun m=>by
   have:=ZZ its m [];rw[List.nil_append]at this;exact this
  rw[f0];cases its with
  | nil=>simp
  | cons a r'=>rw[jPa (by simp)]
 refine wpAny_binaryOp_repeat_ref (T:="list") (U:="int") (by decide) ⟨_,e,rfl⟩ (fun s'=>typeIs_int s' k t) noFill_list_mul F.fills_int_mul F.slot_int_rmul repeat_list F.slot_int_index.lookup
  (call_meets F.slot_int_rmul (typeIs_int s k t) F.entry_int_rmul (F.args_int_rmul_2 _ _) (int___rmul___int_list k t l its.toArray n)
   ⟨e,rfl,⟨_,e,rfl⟩,call_meets F.slot_list_mul ⟨_,e,rfl⟩ F.entry_list_mul (F.args_list_mul_2 _ _) (AutoListH.list___mul___list_int_3 l its.toArray n k t hfit hcap hlong) ⟨e,?_⟩⟩)
 rw[hnew];exact⟨.ref _,_,I.lnew (t':=s.toks) (r.rep k.toNat) (by rw[Kx,Nat.mul_comm];exact hz),rfl,q _ I.fresh⟩
end
section
variable {κ:Type}[DecidableEq κ]
def uW (kvs:List (κ×V))(k:κ):Option V:=(kvs.find? fun kv=>decide (kv.1=k)).map (·.2)
noncomputable def xS (kvs:List (κ×V))(k:κ)(v:V):List (κ×V):=
 if (kvs.any fun kv=>decide (kv.1=k))=true then kvs.map (fun kv=>if kv.1=k then (kv.1,v) else kv) else kvs++[(k,v)]
def qJ {p:κ×V}{r:List (κ×V)}{k:κ}(e:p.1=k):uW (p::r) k=some p.2:=by simp[uW,rP,e]
def vS {p:κ×V}{r:List (κ×V)}{k:κ}(e:¬p.1=k):uW (p::r) k=uW r k:=by simp[uW,rP,e]
theorem Wx (k:κ):∀kvs:List (κ×V),(kvs.any fun kv=>decide (kv.1=k))=(uW kvs k).isSome
 | []=>rfl
 | p::r=>by
  rw[List.any_cons]
  by_cases e:p.1=k
  ·simp only[qJ e,decide_eq_true e,Bool.true_or,Option.isSome_some]
  ·rw[vS e,decide_eq_false e,Bool.false_or];exact Wx k r
def ud (kvs:List (κ×V))(k:κ)(v:V):(xS kvs k v).length<=kvs.length+1:=by
 unfold xS;split
 ·rw[tH];omega
 ·rw[tV,tR,rO];omega
def RelO.isSome_eq (r:RelO o u):o.isSome=u.isSome:=by
 cases o with
 | none=>cases u with
  | none=>rfl
  | some _=>exact (show False from r).elim
 | some _=>cases u with
  | none=>exact (show False from r).elim
  | some _=>rfl
theorem RelO.getD (r:RelO o u)(rd:RelV d d'):RelV (o.getD d) (u.getD d'):=by
 cases o with
 | none=>cases u with
  | none=>exact rd
  | some _=>exact (show False from r).elim
 | some _=>cases u with
  | none=>exact (show False from r).elim
  | some _=>exact r
theorem KV.val {kvs:List (κ×V)}{vs:List (κ×Value)}(r:KV kvs vs)(k:κ):RelO (uW kvs k) (valueAt vs k):=by
 unfold KV at r
 induction r with
 | nil=>exact True.intro
 | @cons p q ps qs h t ih =>
  obtain⟨h1,h2⟩:=h
  by_cases e:p.1=k
  ·have e':q.1=k:=h1.symm.trans e;have b:valueAt (q::qs) k=some q.2:=by simp[valueAt,rP,e']
   rw[qJ e,b];exact h2
  ·have e':¬q.1=k:=fun z=>e (h1.trans z);have b:valueAt (q::qs) k=valueAt qs k:=by simp[valueAt,rP,e']
   rw[vS e,b];exact ih
theorem KV.any (r:KV kvs vs)(k:κ):(kvs.any fun kv=>decide (kv.1=k))=vs.any fun kv=>decide (kv.1=k):=by
 unfold KV at r
 induction r with
 | nil=>rfl
 | cons h t ih=>rw[List.any_cons,List.any_cons,ih,h.1]
def KV.repl (r:KV kvs vs)(k:κ){y:V}{u:Value}(ry:RelV y u):
  KV (kvs.map fun kv=>if kv.1=k then (kv.1,y) else kv) (vs.map fun kv=>if kv.1=k then (kv.1,u) else kv):=by
 unfold KV at r ⊢
 induction r with
 | nil=>exact .nil
 | @cons p q ps qs h t ih =>
  rw[tO,tO];refine .cons ?_ ih;obtain⟨h1,h2⟩:=h
  by_cases e:p.1=k
  ·rw[jNk e,jNk (h1.symm.trans e)];exact⟨h1,ry⟩
  ·rw[jPa e,jPa (fun z=>e (h1.trans z))];exact⟨h1,h2⟩
theorem KV.put (r:KV kvs vs)(k:κ){y:V}{u:Value}(ry:RelV y u):KV (xS kvs k y) (stored vs k u):=by
 unfold xS stored;rw[r.any k]
 by_cases e:(vs.any fun kv=>decide (kv.1=k))=true
 ·rw[jNk e,jNk e];exact r.repl k ry
 ·rw[jPa e,jPa e];exact Paired.snoc r ⟨rfl,ry⟩
theorem KV.length (r:KV kvs vs):kvs.length=vs.length:=Paired.length r
end
def ZM (r:RelV (kV k) u):(zX P w).is k u=true:=by
 cases k with
 | inl i=>obtain⟨t,e⟩:=(show ∃t,u=Value.int i t from r);subst e;exact Wm P w i t
 | inr x=>obtain⟨t,e⟩:=(show ∃t,u=Value.str x t from r);subst e;exact XU P w x t
 | non=>cases (show u=Value.none from r);exact XO P w
theorem Yv:∀ {ks:List Key} {us:List Value},Vals (ks.map kV) us->ItemsAre (zX P w) ks us
 | [],_,r=>by rw[List.map_nil]at r;cases r;exact .nil
 | k::ks,_,r=>by
  rw[tO]at r;cases r with
  | cons h t=>exact .cons (ZM h) (Yv t)
abbrev KT (H:Hp):List (List Key×V)->List (List Key×Addr×Value)->Prop:=Paired fun p q=>p.1=q.1/\H q.2.1=some (.tup (p.1.map kV))/\RelV p.2 q.2.2
theorem KT.val {H:Hp}{kvs:List (List Key×V)}{xs:List (List Key×Addr×Value)}(r:KT H kvs xs)(k:List Key):RelO (uW kvs k) ((atKey xs k).map (·.2)):=by
 induction r with
 | nil=>exact True.intro
 | @cons p q ps qs h t ih =>
  obtain⟨h1,_,h2⟩:=h
  by_cases e:p.1=k
  ·have e':q.1=k:=h1.symm.trans e;have b:atKey (q::qs) k=some q.2:=by simp[atKey,rP,e']
   rw[qJ e,b];exact h2
  ·have e':¬q.1=k:=fun z=>e (h1.trans z);have b:atKey (q::qs) k=atKey qs k:=by simp[atKey,rP,e']
   rw[vS e,b];exact ih
def KT.repl (r:KT H kvs xs)(k:List Key){y:V}{u:Value}(ry:RelV y u):
  KT H (kvs.map fun kv=>if kv.1=k then (kv.1,y) else kv) (xs.map (putAt k u)):=by
 induction r with
 | nil=>exact .nil
 | @cons p q ps qs h t ih =>
  rw[tO,tO];refine .cons ?_ ih;obtain⟨h1,h2,h3⟩:=h;unfold putAt
  by_cases e:p.1=k
  ·rw[jNk e,jNk (h1.symm.trans e)];exact⟨h1,h2,ry⟩
  ·rw[jPa e,jPa (fun z=>e (h1.trans z))];exact⟨h1,h2,h3⟩
theorem KT.put (r:KT H kvs xs)(k:List Key){b:Addr}{y:V}{u:Value}(hb:H b=some (.tup (k.map kV)))(ry:RelV y u):
  KT H (xS kvs k y) (storedH xs k b u):=by
 have e:(kvs.any fun kv=>decide (kv.1=k))=(atKey xs k).isSome:=by
  rw[Wx,(r.val k).isSome_eq,Option.isSome_map]
 unfold xS storedH;rw[e]
 by_cases q:(atKey xs k).isSome=true
 ·rw[jNk q,jNk q];exact r.repl k ry
 ·rw[jPa q,jPa q];exact Paired.snoc r ⟨rfl,hb,ry⟩
def KT.keeps (r:KT H kvs xs)(ht:∀b ys,H b=some (.tup ys)->H' b=some (.tup ys)):KT H' kvs xs:=
 Paired.mapP r fun _ _ z=>⟨z.1,ht _ _ z.2.1,z.2.2⟩
section
def z1P (ok:HOk P w H h)(e:Rd H a u):ObjOk P w H h a u:=e.ok ok
def u5 (ok:HOk P w H h)(e:Rd H a (.dK kvs)):kvs.length<=jNb/\(a==sysModules)=false/\∃vs,KV kvs vs/\h.DictOf (zX P w) a vs:=
 show ObjOk P w H h a (.dK kvs) from z1P ok e
def VJ (ok:HOk P w H h)(e:H a=some (.dK kvs)):kvs.length<=jNb/\(a==sysModules)=false/\∃vs,KV kvs vs/\h.DictOf (zX P w) a vs:=u5 ok (.inl e)
def Xw (ok:HOk P w H h)(e:H a=some (.tup (ks.map kV))):(tupleKind (zX P w)).is h ks a:=by
 obtain⟨_,its,r,o,h1,h2,_,n,h3⟩:=(show ObjOk P w H h a (.tup (ks.map kV)) from ok a _ e)
 exact⟨o,its.toArray,n,h1,h2,h3,by simpa using Yv r⟩
def Wl (ok:HOk P w H h)(e:Rd H a (.dT kvs)):kvs.length<=jNb/\(a==sysModules)=false /\
  ∃xs,KT H kvs xs/\h.DictOfH (tupleKind (zX P w)) a xs:=by
 obtain⟨z,y,xs,r,o,es,ep,h1,h2,h3,h4,h5⟩:=(show ObjOk P w H h a (.dT kvs) from z1P ok e)
 refine⟨z,y,xs,r,o,es,ep,h1,h2,h3,h4,fun x hx=>?_,h5⟩;have all:∀ {l:List (List Key×V)} {m:List (List Key×Addr×Value)},KT H l m->∀x∈m,(tupleKind (zX P w)).is h x.1 x.2.1:=by
  intro l m q
  induction q with
  | nil=>intro x hx;exact nomatch hx
  | @cons p q ps qs hq t ih =>
   intro x hx;rcases tK.mp hx with e|hx
   ·subst e;exact Xw ok (by rw[<-hq.1];exact hq.2.1)
   ·exact ih x hx
 exact all r x hx
def z4A (ok:HOk P w H h)(e:H a=some (.dT kvs)):kvs.length<=jNb/\(a==sysModules)=false /\
  ∃xs,KT H kvs xs/\h.DictOfH (tupleKind (zX P w)) a xs:=Wl ok (.inl e)
end
def DGet (H:Hp)(a:Addr)(y:V)(r:Option V):Prop:=
 (∃kvs k,Rd H a (.dK kvs)/\y=kV k/\r=uW kvs k)\/∃kvs k b,Rd H a (.dT kvs)/\y=.ref b/\H b=some (.tup (k.map kV))/\r=uW kvs k
def DPut (H:Hp)(a:Addr)(y v:V)(H':Hp):Prop:=
 (∃kvs k,H a=some (.dK kvs)/\y=kV k/\kvs.length<jNb/\H'=upd H a (.dK (xS kvs k v))) \/
 ∃kvs k b,H a=some (.dT kvs)/\y=.ref b/\H b=some (.tup (k.map kV))/\kvs.length<jNb/\H'=upd H a (.dT (xS kvs k v))
theorem DGet.k {H:Hp}{a:Addr}{kvs:List (Key×V)}{k:Key}(e:H a=some (.dK kvs)):DGet H a (kV k) (uW kvs k):=.inl ⟨kvs,k,.inl e,rfl,rfl⟩
theorem DPut.k {H:Hp}{a:Addr}{kvs:List (Key×V)}{k:Key}{v:V}(e:H a=some (.dK kvs))(hl:kvs.length<jNb):DPut H a (kV k) v (upd H a (.dK (xS kvs k v))):=.inl ⟨kvs,k,e,rfl,hl,rfl⟩
section
theorem Inv.big (I:Inv X jNj σ H s):sysModules<s.heap.objs.size:=by
 have h:jMb<s.heap.objs.size:=(I.mod.glob.keeps I.bk).lt;exact Nat.lt_trans (by decide) h
def Ul (hu:A.units+1<cLine)(I:Inv X jNj σ H s)(g:DGet H a y (some v))(ry:RelV y u)(h:∀w' s',Inv X jNj σ H s'->RelV v w'->Q w' s'):
  jNi (model X.prog X.w) A (getItem (.ref a) u) Q E s:=by
 rcases g with⟨kvs,k,e,ey,l⟩|⟨kvs,k,b,e,ey,eb,l⟩
 ·subst ey;obtain⟨z,hd,vs,rel,dd⟩:=u5 I.hok e;obtain⟨w',hw,rw'⟩:=RelO.some_of (v:=v) (o:=valueAt vs k) (by rw[l];exact rel.val k);exact wpAny_getItem_of (ZM ry) dd.mapOf hw (h w' _ (I.tok _) rw')
 ·subst ey;cases (show u=Value.ref b from ry);obtain⟨z,hd,xs,rel,dd⟩:=Wl I.hok e;obtain⟨w',hw,rw'⟩:=RelO.some_of (v:=v) (o:=(atKey xs k).map (·.2)) (by rw[l];exact rel.val k);obtain⟨p,hp,hp2⟩:=sM.mp hw;refine wpAny_getItem_heap (tupleKind_room_in1 hu) (Xw I.hok eb) dd hp ?_;rw[hp2];exact h w' _ (I.tok _) rw'
def YX {t':Nat}(I:Inv X jNj σ H s)(mu:Mut (H a))(hs:Heap.SameBut a s.heap h')(he:∃q,h'.get? a=some q)(new:ObjOk X.prog X.w (upd H a ob) h' a ob):
  Inv X jNj σ (upd H a ob) { s with heap:=h',toks:=t' }:=
 I.write (x:=a) (e:=a) mu (.inl rfl) (fun b q hb z=>(hs.2 b hb).trans z) he new
def Kl (z:kvs.length<=jNb)(hd:(a==sysModules)=false)(rel:KV kvs vs)(dd:h'.DictOf (zX P w) a vs):
  ObjOk P w H' h' a (.dK kvs):=⟨z,hd,vs,rel,dd⟩
def Ut (hu:A.units+1<cLine)(I:Inv X jNj σ H s)(g:DPut H a y v H')(ry:RelV y u)(rv:RelV v r)(h:∀s',Inv X jNj σ H' s'->Q () s'):
  jNi (model X.prog X.w) A (setItem (.ref a) u r) Q E s:=by
 rcases g with⟨kvs,k,e,ey,l,eH⟩|⟨kvs,k,b,e,ey,eb,l,eH⟩
 ·subst ey eH;obtain⟨z,hd,vs,rel,dd⟩:=VJ I.hok e;have hz:vs.length<=sizeLine:=by rw[<-rel.length];exact z
  have hl:(xS kvs k v).length<=sizeLine:=by have:=ud kvs k v;omega
  refine wpAny_setItem_pairs (hsz:=hz) (ZM ry) dd fun h' dd' hs=>h _ ?_;have he:∃q,h'.get? a=some q:=let ⟨q,_,_,hq,_⟩:=dd';⟨q,hq⟩;exact YX I (by rw[e];exact True.intro) hs he (Kl hl hd (rel.put k rv) dd')
 ·subst ey eH;cases (show u=Value.ref b from ry);obtain⟨z,hd,xs,rel,dd⟩:=z4A I.hok e;have hz:xs.length<=sizeLine:=by rw[<-Paired.length rel];exact z
  have hl:(xS kvs k v).length<=sizeLine:=by have:=ud kvs k v;omega
  refine wpAny_setItem_heap (hsz:=hz) (tupleKind_room_in1 hu) (Xw I.hok eb) dd fun h' dd' hs=>h _ ?_;obtain⟨q,es,ep,hq,h2,h3,h4,_,h5⟩:=dd';refine YX I (by rw[e];exact True.intro) hs ⟨q,hq⟩ ⟨hl,hd,_,(rel.put k eb rv).keeps fun c ys ec=>?_,q,es,ep,hq,h2,h3,h4,h5⟩;rw[zC (z5D ec e (fun z=>nomatch z))];exact ec
end
section
variable {X:Cx}{jNj:List (Addr×Obj)}{σ:St}{H:Hp}{s:jNg}{a:Addr}{kvs:List (Key×V)}{k:Key}{u:Value}{A:jNf}{E:Value->jNg->Prop}
def z4T (I:Inv X jNj σ H s)(e:Rd H a (.dK kvs))(h:∀t s',Inv X jNj σ H s'->Q (.int kvs.length t) s'):jNi (model X.prog X.w) A (call (.builtin "len") [.ref a]) Q E s:=by
 obtain⟨z,hd,vs,rel,dd⟩:=u5 I.hok e;refine call_len_dict hd dd (by rw[<-rel.length];rw[jMc]at z;omega) ?_;rw[<-rel.length];exact h _ _ (I.tok _)
end
def z5n (i:Expr):Prop:=∀ov iv,subscripted i false ov iv=operate [ov,iv] (getItem ov iv)
def z0I {prog:jNe}{w:World}{A:jNf}{E:Value->jNg->Prop}{s:jNg}{env:Env}{value slice:Expr}{pos:Pos}{T id:String}{Q:Value->jNg->Prop}
  (hl:typeLookup (.type T) "__getitem__"=pure (some (.builtin id))) (hs:z5n slice)
  (h:jNi (model prog w) A (eval value env) (fun o s₁=>jNi (model prog w) A (eval slice env) (fun i s₂=>s₂.TypeIs o T/\jNi (model prog w) A (getItem o i) Q E s₂) E s₁) E s):
  jNi (model prog w) A (eval (.Subscript value slice pos) env) Q E s:=by
 refine Subscript_ (jMg h (fun o s₁ h₁=>jMg h₁ (fun i s₂ h₂=>?_) fun _ _ x=>x) fun _ _ x=>x);obtain⟨hT,h₂⟩:=h₂;unfold subscriptTail;refine jMf ?_;rw[getitemInPython_of_ne hT.not_modules];refine jMf (wpAny_specialOf hT hl ?_);have fin:jNi (model prog w) A (subscripted slice false o i) (fun r s₃=>jNi (model prog w) A (letTemporaryGo value o r >>= fun _=>pure r) Q E s₃) E s₂:=by
  rw[hs o i];exact wpAny_operating (jMg h₂ (fun r s₃ h₃=>jMf (wpAny_letTemporaryGo (jMh h₃))) fun _ _ x=>x)
 first
  | exact jMh (jMf fin)
  | exact jMf (jMh (jMf fin))
  | exact jMf fin
def XS (I:Inv X jNj σ H s)(g:DGet H a y o):s.TypeIs (.ref a) "dict":=by
 rcases g with⟨kvs,k,e,_,_⟩|⟨kvs,k,b,e,_,_,_⟩
 ·obtain⟨_,_,vs,_,dd⟩:=u5 I.hok e;exact dd.typeIs
 ·obtain⟨_,_,xs,_,dd⟩:=Wl I.hok e;exact dd.typeIs
def z1A (td ty:TE):TE:=fun σ H Q=>td σ H fun x H1=>ty σ H1 fun y H2=>∃a v,x=.ref a/\DGet H2 a y (some v)/\Q v H2
def z4y (td ty tv:TE):TS:=fun D σ H=>tv σ H fun v H1=>td σ H1 fun x H2=>ty σ H2 fun y H3=>∃a H4,x=.ref a/\DPut H3 a y v H4/\D.nx σ H4
section
def z16 (hu:X.A.units+1<cLine)(ho:PE X o td)(hi:PE X i ty)(hs:z5n i):PE X (.Subscript o i pos) (z1A td ty):=by
 intro jNj s σ H Q I h;refine z0I PySem.F.slot_dict_getitem.lookup hs (thn (ho jNj s σ H _ I h) fun u s1 ⟨x,H1,I1,rx,q1⟩=>thn (hi jNj s1 σ H1 _ I1 q1) fun iv s2 ⟨y,H2,I2,ry,a,v,ex,g,q2⟩=>?_);subst ex;obtain rfl:u=Value.ref a:=rx;exact⟨XS I2 g,Ul hu I2 g ry fun w' s3 I3 rw'=>⟨v,H2,I3,rw',q2⟩⟩
def z0a (hu:X.A.units+1<cLine)(ho:PE X o td)(hi:PE X i ty)(hv:PE X value tv)(hs:jMj value (some (.Subscript o i pos')) pos.line X.env=pure false):
  PS X (.Assign [.Subscript o i pos'] value pos) (z4y td ty tv):=by
 intro jNj s σ H D I h;refine wpAny_Assign_Subscript (thn (hv jNj s σ H _ I h) fun r s1 ⟨v,H1,I1,rv,q1⟩=>thn (ho jNj s1 σ H1 _ I1 q1) fun u s2 ⟨x,H2,I2,rx,q2⟩=>thn (hi jNj s2 σ H2 _ I2 q2) fun iv s3 ⟨y,H3,I3,ry,a,H4,ex,g,q3⟩=>?_) hs;subst ex;obtain rfl:u=Value.ref a:=rx;exact Ut hu I3 g ry rv fun s4 I4=>⟨σ,H4,I4,q3⟩
end
def Jh (h:Heap)(hb:sysModules<h.objs.size):ObjOk P w H (h.push { cls:=.type "dict",data:=.dict #[] }) h.objs.size (.dK []):=
 ⟨rD _,beq_eq_false_iff_ne.mpr (Ne.symm (tU hb)),[],.nil,Heap.DictOf.new h⟩
def YN:List (TE×TE)->St->Hp->(List (V×V)->Hp->Prop)->Prop
 | [],_,H,Q=>Q [] H
 | (tk,tv)::r,σ,H,Q=>tk σ H fun x H1=>tv σ H1 fun y H2=>YN r σ H2 fun ps H3=>Q ((x,y)::ps) H3
abbrev VV:List (V×V)->List (Value×Value)->Prop:=Paired fun p q=>RelV p.1 q.1/\RelV p.2 q.2
def PPs (X:Cx)(pos:Pos)(keys:List (Option Expr))(values:List Expr)(trs:List (TE×TE)):Prop:=
 ∀(jNj:List (Addr×Obj)) (s:jNg) (σ:St) (H:Hp) (Q:List (V×V)->Hp->Prop),Inv X jNj σ H s->YN trs σ H Q ->
  jNi (model X.prog X.w) X.A (evalPairs (pairTrees keys values X.env pos)) (fun vs s'=>∃ps H',Inv X jNj σ H' s'/\VV ps vs/\Q ps H') X.xe s
def Kv:PPs X pos [] [] []:=fun jNj s σ H Q I h=>pairTrees_nil_walk ⟨[],H,I,.nil,h⟩
def J1 (hk:PE X k tk)(hv:PE X v tv)(hr:PPs X pos ks vs trs):
  PPs X pos (some k::ks) (v::vs) ((tk,tv)::trs):=fun jNj s σ H Q I h =>
 pairTrees_cons_walk (thn (hk jNj s σ H _ I h) fun u s1 ⟨x,H1,I1,rx,q1⟩=>thn (hv jNj s1 σ H1 _ I1 q1) fun w2 s2 ⟨y,H2,I2,ry,q2⟩ =>
  thn (hr jNj s2 σ H2 _ I2 q2) fun ws s3 ⟨ps,H3,I3,rel,q3⟩=>⟨(x,y)::ps,H3,I3,.cons ⟨rx,ry⟩ rel,q3⟩)
def xj (kvs more:List (Key×V)):List (Key×V):=more.foldl (fun acc kv=>xS acc kv.1 kv.2) kvs
def KV.merge:∀ {more:List (Key×V)} {rs:List (Key×Value)} {kvs:List (Key×V)} {vs:List (Key×Value)},KV more rs->KV kvs vs->KV (xj kvs more) (merged vs rs):=by
 intro more rs kvs vs r;unfold KV at r
 induction r generalizing kvs vs with
 | nil=>intro q;exact q
 | @cons p q ps qs h t ih =>
  intro r0;have e:KV (xS kvs p.1 p.2) (stored vs q.1 q.2):=by
   have:=r0.put p.1 h.2;rw[<-h.1];exact this
  exact ih e
theorem uM:∀(more kvs:List (Key×V)),(xj kvs more).length<=kvs.length+more.length
 | [],kvs=>by show kvs.length<=kvs.length+0;omega
 | p::r,kvs=>by
  have h1:=uM r (xS kvs p.1 p.2);have h2:=ud kvs p.1 p.2;show (xj (xS kvs p.1 p.2) r).length<=_;rw[tR];omega
theorem kb:∀ {kvs:List (Key×V)} {ws:List (Value×Value)},VV (kvs.map fun kv=>(kV kv.1,kv.2)) ws->∃rs,Carries (zX P w) ws rs/\KV kvs rs
 | [],_,r=>by rw[List.map_nil]at r;cases r;exact⟨[],True.intro,.nil⟩
 | p::kvs,_,r=>by
  rw[tO]at r;cases r with
  | @cons a b as bs h t =>
   obtain⟨rs,c,q⟩:=kb (P:=P) (w:=w) t;obtain⟨b1,b2⟩:=b;exact⟨(p.1,b2)::rs,⟨ZM h.1,rfl,c⟩,.cons ⟨rfl,h.2⟩ q⟩
def z4F (trs:List (TE×TE)):TE:=fun σ H Q=>∀p,H p=none->YN trs σ (upd H p (.dK [])) fun ps H2=>H2 p=some (.dK [])/\∃kvs:List (Key×V),ps=kvs.map (fun kv=>(kV kv.1,kv.2))/\kvs.length<=15/\Q (.ref p) (upd H2 p (.dK (xj [] kvs)))
def z0o (h:PPs X pos keys values trs)(hall:keys.all (·.isSome)=true)(hl:keys.length=values.length)(h0:keys≠[])
  (h15:keys.length<=15):PE X (.Dict keys values pos) (z4F trs):=by
 intro jNj s σ H Q I q;have hn:=I.hok.fresh (tI s.heap.objs.size);have I1:=I.laid (a:=s.heap.objs.size) (o:=.dK []) (h':=s.heap.push { cls:=.type "dict",data:=.dict #[] }) (t':=s.toks) (fun _ _ q=>jYb _ q) (tI _) (Jh s.heap I.big);refine wpAny_Dict_walk (knd:=zX X.prog X.w) hall hl h0 h15 (thn (h jNj _ σ _ _ I1 (q _ hn)) fun ws s2 ⟨ps,H2,I2,rel,e,kvs,ep,lk,q2⟩=>?_);subst ep;obtain⟨rs,c,rk⟩:=kb (P:=X.prog) (w:=X.w) rel;obtain⟨z,hd,vs0,r0,dd⟩:=VJ I2.hok e;cases r0;refine⟨rs,c,dd,fun h' dd' hs=>⟨.ref s.heap.objs.size,_,?_,rfl,q2⟩⟩;have hz:(xj [] kvs).length<=sizeLine:=by
  have h1:=uM kvs [];rw[rO]at h1;rw[jMc];omega
 have he:∃q,h'.get? s.heap.objs.size=some q:=let ⟨q,_,_,hq,_⟩:=dd';⟨q,hq⟩;exact YX I2 (by rw[e];exact True.intro) hs he (Kl hz hd (rk.merge .nil) dd')
structure M1 (X:Cx)(o:Expr)(m:Str)(apos:Pos)(e:Expr)(cpos:Pos):Prop where
 base:jKg o m X.env (eval o X.env)=eval o X.env
 few:((jNh cpos (jNc [e] X.env)).all (fun x=>!x.1)&&(jNa cpos (jMa [] X.env)).all (fun x=>x.1.isSome)
  && decide (([e]:List Expr).length+([]:List jNd).length+(if ([]:List jNd).isEmpty then 0 else 1)<30))=true
 line:(apos.endLine==cpos.line)=true
 trees:jNh cpos (jNc [e] X.env)=[(false,eval e X.env)]
structure M2 (X:Cx)(o:Expr)(m:Str)(apos:Pos)(e f:Expr)(cpos:Pos):Prop where
 base:jKg o m X.env (eval o X.env)=eval o X.env
 few:((jNh cpos (jNc [e,f] X.env)).all (fun x=>!x.1)&&(jNa cpos (jMa [] X.env)).all (fun x=>x.1.isSome)
  && decide (([e,f]:List Expr).length+([]:List jNd).length+(if ([]:List jNd).isEmpty then 0 else 1)<30))=true
 line:(apos.endLine==cpos.line)=true
 trees:jNh cpos (jNc [e,f] X.env)=[(false,eval e X.env),(false,eval f X.env)]
def IsD (H:Hp)(a:Addr):Prop:=(∃kvs,Rd H a (.dK kvs))\/∃kvs,Rd H a (.dT kvs)
def z2m (I:Inv X jNj σ H s)(d:IsD H a):
  s.TypeIs (.ref a) "dict"/\(∀b,Value.ref a=.ref b->∃ob,s.heap.get? b=some ob/\ob.dict=none)/\(a==sysModules)=false:=by
 rcases d with⟨kvs,e⟩|⟨kvs,e⟩
 ·obtain⟨_,hd,vs,_,dd⟩:=u5 I.hok e;refine⟨dd.typeIs,fun b q=>?_,hd⟩;cases q;obtain⟨ob,_,_,h1,h2,_⟩:=dd;exact⟨ob,h1,h2.2.1⟩
 ·obtain⟨_,hd,xs,_,dd⟩:=Wl I.hok e;refine⟨dd.typeIs,fun b q=>?_,hd⟩;cases q;obtain⟨ob,_,_,h1,h2,_⟩:=dd;exact⟨ob,h1,h2.2.1⟩
section
variable {X:Cx}{jNj:List (Addr×Obj)}{σ:St}{H:Hp}{s:jNg}{a:Addr}{y d:V}{u r:Value}{o:Option V}{A:jNf}{E:Value->jNg->Prop}
def z32 (hu:A.units+1<cLine)(I:Inv X jNj σ H s)(g:DGet H a y o)(ry:RelV y u)(rd:RelV d r)(h:∀w' s',Inv X jNj σ H s'->RelV (o.getD d) w'->Q w' s'):
  jNi (model X.prog X.w) A (call (.builtin "dict.get") [.ref a,u,r]) Q E s:=by
 rcases g with⟨kvs,k,e,ey,l⟩|⟨kvs,k,b,e,ey,eb,l⟩
 ·subst ey;obtain⟨z,hd,vs,rel,dd⟩:=u5 I.hok e;refine call_meetsIn jQw dd.typeIs jQ1 (jQ2 _ _ _) (meets_dict_get_default (zX X.prog X.w) a (ZM ry) hd r) ⟨_,dd.mapOf,h _ _ (I.tok _) ?_⟩;rw[l];exact (rel.val k).getD rd
 ·subst ey;cases (show u=Value.ref b from ry);obtain⟨z,hd,xs,rel,dd⟩:=Wl I.hok e;refine call_meetsIn jQw dd.typeIs jQ1 (jQ2 _ _ _) (meetsH_dict_get_default (tupleKind (zX X.prog X.w)) a b hd r) ⟨tupleKind_room_in1 hu,k,xs,Xw I.hok eb,dd,h _ _ (I.tok _) ?_⟩;rw[l];exact (rel.val k).getD rd
end
def z2n (td ty tx:TE):TE:=fun σ H Q=>td σ H fun x H1=>∃a,x=.ref a/\IsD H1 a/\ty σ H1 fun y H2=>tx σ H2 fun z H3=>∃o,DGet H3 a y o/\Q (o.getD z) H3
section
def Jc (hu:X.A.units+1<cLine)(ho:PE X o td)(he:PE X e ty)(hf:PE X f tx)(m:M2 X o "get" apos e f cpos):PE X (.Call (.Attribute o "get" apos) [e,f] [] cpos) (z2n td ty tx):=by
 intro jNj s σ H Q I h;refine wpAny_Call_method m.base m.few m.line PySem.F.plainAttrs_dict jQw PySem.F.type_dict_get (thn (ho jNj s σ H _ I h) fun u s1 ⟨x,H1,I1,rx,a,ex,d,q1⟩=>?_);subst ex;obtain rfl:u=Value.ref a:=rx;obtain⟨t1,t2,_⟩:=z2m I1 d;refine⟨t1,t2,?_⟩;rw[m.trees];refine Calls.callWith_builtin rfl (Calls.evalArgs_plain (Calls.spliced_cons (thn (he jNj s1 σ H1 _ I1 q1) fun iv s2 ⟨y,H2,I2,ry,q2⟩ =>
  Calls.spliced_cons (thn (hf jNj s2 σ H2 _ I2 q2) fun fv s3 ⟨z,H3,I3,rz,ov,g,q3⟩=>Calls.spliced_nil ?_))))
 exact z32 hu I3 g ry rz fun w' s4 I4 rw'=>⟨_,H3,I4,rw',q3⟩
end
end L2
namespace Att
open PySem PySem.W PySem.Calls PyProof.Rows
def jD:∀(ns:List Int) (vs:List Value),WellAll P h vs (ns.map WData.int)->IntsAre vs ns:=by
 intro ns
 induction ns with
 | nil =>
  intro vs w;rw[List.map_nil]at w;cases w;exact .nil
 | cons n ns ih =>
  intro vs w;rw[tO]at w;cases w with
  | cons a b =>
   cases a;exact .cons _ _ (ih _ b)
def Uv {l:OpenLaw}{n:Nat}(hn:l.most=some n){P:Params}{h:Heap}{args:List WData}{vals:List Value}
  (hpre:l.row.toRowW.claim.pre args=true) (hwl:WellAll P h vals args):
  ∃a vs ns,vals=[Value.ref a]/\args=[WData.list (ns.map WData.int)]/\h.get? a=some { cls:=.type "list",data:=.seq vs.toArray }/\IntsAre vs ns/\ns.length<=n:=by
 have hsh:WShape.hasAll [] args [.list .int]=true:=(pre_splitW hpre).1;have hc:l.pre.holds [] { args:=args }=true:=(pre_splitW hpre).2;obtain⟨d,r,rfl,h1,h2⟩:=hasAllW_cons hsh;obtain rfl:=hasAllW_nil h2;obtain⟨xs,rfl,h3⟩:=hasW_list h1;obtain⟨ns,rfl⟩:=items_int h3;have hlen:ns.length<=n:=by
  unfold OpenLaw.pre at hc;have h4:(WTm.not (.lt (.lit (.int (n:Int))) (.len (.arg 0)))).holds [] { args:=[.list (ns.map .int)] }=true:=by
   have h4:=(holds_andW hc).1;rw[hn]at h4;exact h4
  have h5:=condW_of h4 (w_not (w_lt w_lit (w_len_list (w_arg rfl))));rw[tH]at h5;refine Nat.le_of_not_lt fun q=>?_;have q':(n:Int)<((ns.length:Nat):Int):=by omega
  first
   | (rw[decide_eq_true q']at h5;exact absurd h5 (by decide))
   | (simp at h5;omega)
 cases hwl with
 | cons w1 w2 =>
  cases w2;cases w1 with
  | list ho hall=>exact⟨_,_,ns,rfl,rfl,ho,jD ns _ hall,hlen⟩
def Ux (l:OpenLaw)(args:List WData):l.row.toRowW.claim.post args (.bool true) args=true:=
 postW_of (r:=l.row.toRowW) (X:=(true==true))
  (show WShape.has [] (.bool true) .bool=true by first|rfl|decide|simp[WShape.has,WShape.arms,WShape.armsAll])
  (show (WTm.eq .res (.lit (.bool true))).value [] { args:=args,res:=some (.bool true),after:=args }=some (.bool (true==true)) from w_eq_bool (w_res rfl) w_lit) rfl
def attach_call {l:OpenLaw}{n:Nat}{q:jNe}{loose:List Str}{XP:(Str->Option Value)->Heap->Prop}{YP:World->Heap->Prop}{d:DefRec}
  (hn:l.most=some n) (hdf:d.params.defaults=[])
  (call:∀(w:World) (s₀ s₁:jNg) (mg mb:Str->Option Value) (fa:Addr) (o:Obj) (pm cd doc:Value) (a:Addr) (vs:List Value) (ns:List Int),
   Ground q loose [] XP w s₀ mg mb s₁.heap->YP w s₁.heap ->
   s₁.heap.get? fa=some o->o.data=.func (docDef d.name d.params d.body d.scope pm cd doc)->s₁.heap.CodeRec cd d.name->mg d.name=some (.ref fa) ->
   s₁.heap.get? a=some { cls:=.type "list",data:=.seq vs.toArray }->IntsAre vs ns->ns.length<=n->s₁.gens=#[] ->
   codeAny (model l.prog w) callerA (.call (.ref fa) ⟨[.ref a],[]⟩) (fun r s'=>r=.ok (.ret (.bool true))/\OldK s₁.heap s'.heap/\s'.os=s₁.os/\AllBare s'.gens) s₁):
  WalkO q loose XP YP l.row.toRowW d [] (fun f vs=>PySem.call f vs):=by
 intro w s₀ s₁ mg mb G Y fa o pm cd doc dV kV ho hd hcd hD hmg hg args vals as hpre hlay hrd hwl hlo;obtain rfl:dV=.none:=Dflts.none hD hdf;obtain rfl:kV=.none:=Dflts.noKw hD;obtain⟨a,vs,ns,rfl,rfl,hobj,hints,hlen⟩:=Uv hn hpre hwl;refine enter_call (codeAny_mono (call w s₀ s₁ mg mb fa o pm cd doc a vs ns G Y ho (fd_plain hd) hcd hmg hobj hints hlen hg) fun r s' hq=>?_);obtain⟨rfl,h2,h3,h4⟩:=hq;exact⟨.inl ⟨.bool true,.bool true,[],rfl,fun _=>rfl,.bool true,Ux l _,fun _=>⟨List.Pairwise.nil,fun _ hm=>(nomatch hm)⟩⟩,h2,h3,h4⟩
end Att
namespace L2
open PySem PySem.Spec PyProof.Rows
theorem Yp:∀ {vs:List Value} {ns:List Int},IntsAre vs ns->Vals (ns.map V.int) vs
 | _,_,.nil=>.nil
 | _,_,.cons n t h=>.cons ⟨t,rfl⟩ (Yp h)
def z0V (H:Hp):Prop:=∀b,H b=none\/∃o xs,H b=some (.frz o (.lst xs))
def Ju {P:jNe}{w:World}{K:jJa}{mg mb:Str->Option Value}{CX:CXT}{k:Nat}{fa a:Addr}{fd:FuncData}{x:Str}{sp:Sp}{s₁:jNg}{vs:List Value}{ns:List Int}
  (KX:K.In s₁.heap) (hns:s₁.heap.Ns jMb mg) (hb:s₁.heap.Ns builtinsNs mb) (hbb:∀x:Str,x≠"__name__"->mb x=jKk x) (hlim:s₁.heap.NoLimit) (hg:s₁.gens=#[])
  (ha:s₁.heap.get? a=some { cls:=.type "list",data:=.seq vs.toArray }) (hi:IntsAre vs ns) (hl:ns.length<=jNb) (hr:Room k callerA)
  (F:∀base:Heap,K.In base->base.Ns jMb mg->FnOk P w K mg base CX k fa fd [x] sp) (hbind:∀(s:jNg) (u:Value),BindsTo s fd ⟨[u],[]⟩ [(x,u)])
  (hsp:∀H:Hp,z0V H->SqL K H a (ns.map V.int)->sp [.ref a] H (fun v _=>v=.bl true) fun _ _ _=>False)
  (hCX:∀H e s',CX [] H s₁ (fun _ _ _=>False) e s'->False):
  codeAny (model P w) callerA (.call (.ref fa) ⟨[.ref a],[]⟩) (fun r s'=>r=.ok (.ret (.bool true))/\OldK s₁.heap s'.heap/\s'.os=s₁.os/\AllBare s'.gens) s₁:=by
 have rv:=Yp hi;have lenV:=hi.length;have Jx:∀H:Hp,z0V H->SqL K H a (ns.map V.int)->HOk P w H s₁.heap->(∀b,H b≠none->b=a)->(H a≠none->K.lookup a=none) ->
   codeAny (model P w) callerA (.call (.ref fa) ⟨[.ref a],[]⟩) (fun r s'=>r=.ok (.ret (.bool true))/\OldK s₁.heap s'.heap/\s'.os=s₁.os/\AllBare s'.gens) s₁:=by
  intro H hO hS hok hA hK;have base_of:∀ {b:Addr} {o:Obj},s₁.heap.get? b=some o->H b=none->(YV s₁.heap H).get? b=some o:=fun e n=>QZ e n;have noA:∀ {b:Addr} {o:Obj} {es:Array DictEntry} {ep:Nat},s₁.heap.get? b=some o->o.data=.dict es ep->H b=none:=fun {b o es ep} e d=>by
   cases q:H b with
   | none=>rfl
   | some u =>
    have e':b=a:=hA b (by rw[q];simp);subst e';rw[ha]at e;cases e;have d':Data.seq vs.toArray _=Data.dict es ep:=d;cases d'
  have nsK:∀ {b:Addr} {m:Str->Option Value},s₁.heap.Ns b m->(YV s₁.heap H).Ns b m:=fun {b m} ⟨o,es,ep,e,d,r⟩=>⟨o,es,ep,base_of e (noA e d),d,r⟩
  have hKb:K.In (YV s₁.heap H):=fun b o e=>base_of (KX b o e) (by
   cases q:H b with
   | none=>rfl
   | some u =>
    have e':b=a:=hA b (by rw[q];simp);subst e';rw[hK (by rw[q];simp)]at e;cases e)
  have hM:Mod K mg (YV s₁.heap H):=⟨hKb,nsK hns,⟨mb,nsK hb,hbb⟩,let ⟨mc,h1,h2⟩:=hlim;⟨mc,nsK h1,h2⟩⟩
  have e0:Env0 P w K mg (YV s₁.heap H) callerA [] s₁ H:=⟨rfl,hM,fun b o e=>z1t e,Nat.le_of_eq (Up _ _),trivial,fun b hb=>absurd (show b∈([]:List Addr) from hb) (by simp),hok,.of_eq hg⟩
  refine codeAny_mono ((F _ hKb (nsK hns)).run callerA [] s₁ H ⟨[.ref a],[]⟩ [.ref a] [.ref a] _ _ hr e0 (hbind s₁ (.ref a)) (.cons rfl .nil) (hsp H hO hS)) fun r s' h=>?_;cases r with
  | error e=>exact (hCX H e s' h).elim
  | ok fl =>
   cases fl with
   | next=>exact False.elim h
   | brk=>exact False.elim h
   | cont=>exact False.elim h
   | ret u =>
    obtain⟨v,H',os,bare,un,hok',r',q⟩:=h;have q':v=.bl true:=q;subst q';obtain rfl:u=Value.bool true:=r';refine⟨rfl,OldK.of_keep fun b o e=>?_,os,bare⟩;cases q:H b with
    | none=>exact un.keep b o e q (by intro z;exact absurd (show b∈([]:List Addr) from z) (by simp)) (by simp)
    | some u =>
     rcases hO b with z|⟨ob,xs,z⟩
     ·rw[q]at z;cases z
     ·have z2:=un.frzs b ob _ z;obtain⟨e1,_⟩:=hok b _ z;obtain⟨e2,_⟩:=hok' b _ z2;rw[e]at e1;cases e1;exact e2
 cases hk:K.lookup a with
 | some o =>
  have e:=KX a o hk;rw[ha]at e;cases e;refine Jx (fun _=>none) (fun _=>.inl rfl) (.inr ⟨_,vs.toArray,_,hk,rfl,rfl,rfl,by rw[tM,lenV];exact hl,by simpa using rv⟩) (fun b u z=>by have z':(none:Option HO)=some u:=z;cases z') (fun b z=>absurd rfl z) fun z=>absurd rfl z
 | none =>
  refine Jx (fun b=>if b=a then some (.frz { cls:=.type "list",data:=.seq vs.toArray } (.lst (ns.map V.int))) else none) (fun b=>?_) (.inl (.inr ⟨{ cls:=.type "list",data:=.seq vs.toArray },jNk rfl⟩)) (fun b u z=>?_) (fun b z=>?_) fun _=>hk
  ·by_cases hb:b=a
   ·exact .inr ⟨_,_,jNk hb⟩
   ·exact .inl (jPa hb)
  ·by_cases hb:b=a
   ·have z':=(jNk hb).symm.trans z;cases z';subst hb;exact⟨ha,by rw[tH];exact hl,vs,_,rv,ha⟩
   ·have z':=(jPa hb).symm.trans z;cases z'
  ·by_cases hb:b=a
   ·exact hb
   ·exact absurd (jPa hb) z
def walk_of {l:PySem.W.OpenLaw}{n k:Nat}{q:jNe}{loose:List Str}{XP:(Str->Option Value)->Heap->Prop}{YP:World->Heap->Prop}{d:DefRec}{K:Params->jJa}{CX:World->CXT}{sp:World->Sp}{x:Str}
  (hn:l.most=some n) (hn2:n<=jNb) (hdf:d.params.defaults=[]) (hr:Room k callerA)
  (hY:∀(w:World) (h:Heap),YP w h->(K w.params).In h)
  (F:∀(w:World) (mg:Str->Option Value) (fa:Addr) (h:Heap),(K w.params).In h->h.Ns jMb mg->mg d.name=some (.ref fa) ->
   ∃fd:FuncData,(∀(s:jNg) (u:Value),BindsTo s fd ⟨[u],[]⟩ [(x,u)]) /\
    ∀base:Heap,(K w.params).In base->base.Ns jMb mg->FnOk l.prog w (K w.params) mg base (CX w) k fa fd [x] (sp w))
  (hsp:∀(w:World) (H:Hp) (a:Addr) (ns:List Int),ns.length<=n->z0V H->SqL (K w.params) H a (ns.map V.int)->sp w [.ref a] H (fun v _=>v=.bl true) fun _ _ _=>False)
  (hCX:∀(w:World) (H:Hp) (s:jNg) (e:Value) (s':jNg),CX w [] H s (fun _ _ _=>False) e s'->False):
  PySem.W.WalkO q loose XP YP l.row.toRowW d [] (fun f vs=>PySem.call f vs):=by
 refine Att.attach_call hn hdf fun w s₀ s₁ mg mb fa o pm cd doc a vs ns G Y ho hd hcd hmg hobj hints hlen hg=>?_;have KX:=hY w _ Y;obtain⟨fd,hb,hF⟩:=F w mg fa _ KX G.T.g hmg;exact Ju KX G.T.g G.T.b G.T.builtins G.T.nolimit hg hobj hints (sE hlen hn2) hr hF hb (fun H hO hS=>hsp w H a ns hlen hO hS) fun H e s'=>hCX w H s₁ e s'
structure Fun (K:jJa)(x qual:Str)(st:Stmt)(f:Addr)(fd:FuncData):Prop where
 ex:∃(oc:Value) (od:Option Addr) (kV doc pm:Value) (an:Option Addr) (cdv ct:Value) (osl:Array (Option Value)),
  fd=jJc x qual (defArgs st) (defBody st) (defScope st) .none kV doc pm an cdv ct/\K.lookup f=some ⟨oc,od,.func fd,osl⟩/\jJg K cdv qual=true
 kp:jJe K (.ref f)=true
section
variable {P:jNe}{w:World}{K:jJa}{mg:Str->Option Value}{base:Heap}
def Fun.binds {x qual:Str}{st:Stmt}{f:Addr}{fd:FuncData}{ps:List Str}(F:Fun K x qual st f fd)
  (h:∀(kV doc pm:Value) (an:Option Addr) (cdv ct:Value) (us:List Value),us.length=ps.length->bindArgs (jJc x qual (defArgs st) (defBody st) (defScope st) .none kV doc pm an cdv ct) ⟨us,[]⟩=pure (ps.zip us)):Binds K fd ps []:=by
 obtain⟨oc,od,kV,doc,pm,an,cdv,ct,osl,rfl,lk,hcd⟩:=F.ex;exact .all (h kV doc pm an cdv ct)
def JF {x qual:Str}{st:Stmt}{f:Addr}{oc:Value}{od an:Option Addr}{osl:Array (Option Value)}{kV doc pm cdv ct:Value}(l:K.lookup f=some ⟨oc,od,.func (jJc x qual (defArgs st) (defBody st) (defScope st) .none kV doc pm an cdv ct),osl⟩)
  (c:jJg K cdv qual=true) (k:jJe K (.ref f)=true):Fun K x qual st f (jJc x qual (defArgs st) (defBody st) (defScope st) .none kV doc pm an cdv ct):=⟨⟨oc,od,kV,doc,pm,an,cdv,ct,osl,rfl,l,c⟩,k⟩
end
section
def Q4:CallR X (.builtin "len") (fun xs H Q=>∃a kvs,xs=[V.ref a]/\H a=some (.dK kvs)/\Q (.int kvs.length) H):=by
 intro jNj s σ H xs us Q I r h;obtain⟨a,kvs,rfl,ha,q⟩:=h;obtain⟨u,rfl,ru⟩:=wD r;cases ru;exact z4T I (.inl ha) fun t s' I'=>⟨.int kvs.length,H,I',⟨t,rfl⟩,q⟩
end
def Same (H H':Hp):Prop:=∀b o,H b=some o->H' b=some o
theorem Same.refl (H:Hp):Same H H:=fun _ _ h=>h
theorem Same.trans (a:Same H H1)(b:Same H1 H2):Same H H2:=fun c o h=>b c o (a c o h)
def z6o (fr:List Env)(H:Hp)(old:Addr->Prop)(e:Addr)(cls:Value)(h:Heap):Prop:=
 ∃(B:Heap) (a0:Value),Heap.FlyingW B fr e cls a0 h/\∀b o,h.get? b=some o->b∉frs fr->(H b≠none\/old b)->B.get? b=some o
def cxx (P:jNe)(w:World):CXT:=fun outer H s E ev s'=>∃(e:Addr) (cls:Value) (H':Hp),ev=.ref e/\s'.os=s.os/\AllBare s'.gens /\
 Un (frs outer) [] H H' s.heap s'.heap/\HOk P w H' s'.heap/\z6o outer H' (fun b=>∃o,s.heap.get? b=some o) e cls s'.heap/\E cls none H'
theorem ObjOk.there (x:ObjOk P w H h a o):∃ob,h.get? a=some ob:=by
 cases o with
 | lst xs=>obtain⟨_,_,_,_,e⟩:=x;exact⟨_,e⟩
 | tup xs=>obtain⟨_,_,_,_,e,_⟩:=x;exact⟨_,e⟩
 | dK kvs=>obtain⟨_,_,_,_,o,_,_,e,_⟩:=x;exact⟨_,e⟩
 | dT kvs=>obtain⟨_,_,_,_,o,_,_,e,_⟩:=x;exact⟨_,e⟩
 | set S n=>obtain⟨o,_,_,_,e,_⟩:=x;exact⟨_,e⟩
 | ins C dx fs=>obtain⟨_,_,_,e,_⟩:=x;exact⟨_,e⟩
 | own y=>obtain⟨_,e⟩:=x;exact⟨_,e⟩
 | xd fs=>obtain⟨_,⟨_,_,_,e,_⟩,_⟩:=x;exact⟨_,e⟩
 | rng lo hi=>obtain⟨_,_,_,e⟩:=x;exact⟨_,e⟩
 | frz ob u=>obtain⟨e,_⟩:=x;exact⟨_,e⟩
 | tbl ps=>obtain⟨_,e,_⟩:=x;exact⟨_,e⟩
 | met f y=>exact⟨_,(show h.get? a=some _ from x)⟩
 | ext φ=>obtain⟨_,⟨_,e⟩,_⟩:=x;exact⟨_,e⟩
section
def Inv.trkNo (I:Inv X jNj σ H s){b:Addr}{u:HO}(q:H b=some u):b∉frs X.stack:=fun m=>by
 have z:=I.stkFree b m;rw[q]at z;cases z
def Inv.oldNo (I:Inv X jNj σ H s)(hst:X.stack=X.env::X.outer)(hf:X.env.frame=some X.env.locals){b:Addr}{o:Obj}(q:X.s₀.heap.get? b=some o)(n:b∉X.fs):b∉frs X.stack:=fun m=>by
 rcases tK.mp (I.stkSub b m)with z|z
 ·exact absurd z (tU (sC (jYc q) I.ok.above))
 ·exact n z
def U3 (I:Inv X jNj σ H s)(hst:X.stack=X.env::X.outer)(hf:X.env.frame=some X.env.locals)(hex:X.ex=[])
  (fl:Heap.FlyingW B X.outer e cls a0 h') (cov:∀b o,s.heap.get? b=some o->b∉frs X.stack->(H b≠none\/∃o,X.s₀.heap.get? b=some o)->B.get? b=some o)
  (up:s.heap.UpToSlots h') (hE:E cls none H):cxx X.prog X.w X.outer X.H₀ X.s₀ E (.ref e) { s with heap:=h' }:=by
 have nex:∀b:Addr,b∉X.ex:=fun b z=>by rw[hex]at z;cases z
 have trkd:∀b u v,H b=some u->s.heap.get? b=some v->h'.get? b=some v:=fun b u v q r=>fl.1 b v (cov b v r (I.trkNo q) (.inl (by rw[q];simp)));have oldd:∀b o v,X.s₀.heap.get? b=some o->b∉X.fs->s.heap.get? b=some v->h'.get? b=some v:=fun b o v q n r=>fl.1 b v (cov b v r (I.oldNo hst hf q n) (.inr ⟨o,q⟩));have frms:∀b o,b∈X.fs->s.heap.get? b=some o->∃sl,h'.get? b=some { o with slots:=sl }:=fun b o hb q=>by
  obtain⟨_,o2,ho2,nf⟩:=I.funs.mem hb;rw[q]at ho2;cases ho2;exact up b o q nf
 refine⟨e,cls,H,rfl,I.os,I.bare,⟨fun b o q n hb hx=>?_,fun b o q n hb hx=>?_,fun b o q n hx=>I.base.free b o q n (nex b),fun b o q hx=>?_,I.base.tups,I.base.frzs,I.base.tbls⟩,fun b u q=>?_,⟨B,a0,fl,fun b o q n hor=>?_⟩,hE⟩
 ·exact oldd b o o q hb (I.base.keep b o q n hb (nex b))
 ·obtain⟨sl,e1⟩:=I.base.slot b o q n hb (nex b);obtain⟨sl',e2⟩:=frms b _ hb e1;exact⟨sl',e2⟩
 ·obtain⟨o1,e1⟩:=I.base.there b o q (nex b)
  by_cases hb:b∈X.fs
  ·obtain⟨sl,e2⟩:=frms b o1 hb e1;exact⟨_,e2⟩
  ·exact⟨o1,oldd b o o1 q hb e1⟩
 ·refine (I.hok b u q).stay (fun c v hc r=>?_) (fun _ z=>z) fun _ _ z=>z;rcases hc with z|z
  ·exact trkd c u v (by rw[z];exact q) r
  ·exact trkd c _ v z r
 ·have q:h'.get? b=some o:=q;rcases hor with hb|⟨o0,e0⟩
  ·obtain⟨u,hu⟩:=Option.ne_none_iff_exists'.mp hb;obtain⟨o1,e1⟩:=(I.hok b u hu).there;have:=trkd b u o1 hu e1;rw[q]at this;cases this;exact cov b _ e1 (I.trkNo hu) (.inl hb)
  ·obtain⟨o1,e1⟩:=I.base.there b o0 e0 (nex b);have:=oldd b o0 o1 e0 n e1;rw[q]at this;cases this;exact cov b _ e1 (I.oldNo hst hf e0 n) (.inr ⟨o0,e0⟩)
end
section
variable {P:jNe}{w:World}{K:jJa}{mg:Str->Option Value}{base:Heap}{N:List Str}{qual:Str}{scope:Scope}{f:Addr}{cd:Value}{A:jNf}{outer:List Env}{s:jNg}{H:Hp}{E:XK}
def WR:uX (cxx P w) (yZ (cxx P w) P w K mg base N qual scope f cd A outer s H E) E:=by
 intro jNj σ H1 s1 ev s' I hq;obtain⟨e,cls,H',rfl,os,bare,un,hok,⟨B,a0,fl,cov⟩,hE⟩:=hq;have I':=I.call' (ch:=[]) os un hok bare (fun b z=>nomatch z);have hfr:(A.deeper (envOfC qual scope s.heap.objs.size f cd)).frames=some (envOfC qual scope s.heap.objs.size f cd::outer):=I.ok.frames;refine wpAny_leaves_onW (L:=s.heap.objs.size) hfr rfl fl fun h' fl' up=>?_;exact U3 (E:=E) I' rfl rfl rfl fl' (fun b o e1 e2 e3=>cov b o e1 e2 (by
  rcases e3 with z|⟨o0,z⟩
  ·exact .inl z
  ·exact .inr (I.base.there b o0 z (fun q=>nomatch q)))) up hE
def Q0:uX (cxx P w) X (fun _ _ _=>False):=fun _ _ _ _ _ _ _ ⟨_,_,_,_,_,_,_,_,_,z⟩=>z.elim
def z3v (h:cxx P w outer H s (fun _ _ _=>False) e s'):False:=let ⟨_,_,_,_,_,_,_,_,_,z⟩:=h;z
end
def XD (g:h.Ns jMb mg)(b:h.Ns builtinsNs mb)(bb:∀x:Str,x≠"__name__"->mb x=jKk x)(nl:h.NoLimit)(p:jNe):∃loose,PySem.W.TopRead p loose mg mb h:=by
 obtain⟨o,es,ep,ho,hd,hk,hf⟩:=id g;refine⟨es.toList.filterMap fun e=>match e.key with|.str y _=>some y|_=>none,g,b,nl,bb,fun x _ hx _ _ _=>?_⟩;rw[<-hf];unfold nsFind findBy;rw[<-Array.find?_toList];cases q:es.toList.find? (fun e=>e.key.isStr x)with
 | none=>rfl
 | some en =>
  exfalso;have hm:=List.mem_of_find?_eq_some q;have hp:=List.find?_some q;obtain⟨y,t,hy⟩:=hk en (by simpa using hm);rw[hy]at hp;have hxy:y=x:=by simpa [Value.isStr] using hp
  exact hx (rA.mpr ⟨en,hm,by rw[hy,hxy]⟩)
structure ErrC (K:jJa)(x:Str)(C:Addr):Prop where
 ns:jJh K jMb x=some (some (.ref C))
 ex:PySem.W.excIn K C [.type "ValueError",.type "Exception",.type "BaseException",.type "object"] "ValueError.__new__"=true
theorem ErrC.mg {K:jJa}{x:Str}{C:Addr}{h:Heap}{mg:Str->Option Value}(e:ErrC K x C)(X:K.In h)(G:h.Ns jMb mg):mg x=some (.ref C):=jJp X G e.ns
section
def Inv.ownCls (I:Inv X jNj σ H s)(e:ErrC X.K x C):OwnCls x C [.type "ValueError",.type "Exception",.type "BaseException",.type "object"] "ValueError.__new__" X.mg X.base:=by
 obtain⟨mb,b1,b2⟩:=I.mod.blt;obtain⟨loose,T⟩:=XD I.mod.glob b1 b2 I.mod.nolimit X.prog;exact PySem.W.own_of_in I.mod.kin T e.ns e.ex
def JQ {P:jNe}{w:World}{K:jJa}{mg:Str->Option Value}{base:Heap}{N:List Str}{qual:Str}{scope:Scope}{f:Addr}{cd:Value}{A:jNf}{outer:List Env}{s:jNg}{H:Hp}{E:XK}
  {jNj:List (Addr×Obj)} {σ:St} {H1:Hp} {s1:jNg} {h':Heap} {e:Addr} {cls:Value} {vs:List Value} (I:Inv (yZ (cxx P w) P w K mg base N qual scope f cd A outer s H E) jNj σ H1 s1)
  (hx:Heap.MadeExcOf s1.heap h' e cls vs) (hE:E cls none H1):(yZ (cxx P w) P w K mg base N qual scope f cd A outer s H E).xe (.ref e) { s1 with heap:=h' }:=by
 have hfr:(A.deeper (envOfC qual scope s.heap.objs.size f cd)).frames=some (envOfC qual scope s.heap.objs.size f cd::outer):=I.ok.frames;have fs:=I.stack;have hin:∀env∈(envOfC qual scope s.heap.objs.size f cd::outer),∀b,env.frame=some b->b∈frs (envOfC qual scope s.heap.objs.size f cd::outer):=fun env he b hb=>rA.mpr ⟨env,he,hb⟩;refine wpAny_leaves_madeW (L:=s.heap.objs.size) (base:=PySem.W.hideAll s1.heap (frs (envOfC qual scope s.heap.objs.size f cd::outer))) hfr rfl (fun b o q=>jJt _ q) (PySem.W.funFrames_hide fs hin) hx fun h2 t fl tup nt up=>?_;refine U3 (E:=E) (h':=h2) I rfl rfl rfl fl (fun b o q n _=>jJs _ q n) (fun b o q nf=>?_) hE;exact up b o (hx.keeps b o q) nf
end
def JD (C:Addr)(E:XK)(ta:TA):TS:=fun _ σ H=>ta σ H fun vs H1=>vs.length<=jNb/\E (.ref C) none H1
def Ko {P:jNe}{w:World}{K:jJa}{mg:Str->Option Value}{base:Heap}{N:List Str}{qual:Str}{scope:Scope}{f:Addr}{cd:Value}{A:jNf}{outer:List Env}{s:jNg}{H:Hp}{E:XK}
  {x:Str} {C:Addr} {e₀:Expr} {rest:List Expr} {ta:TA} {np cpos pos:Pos} (hh:A.handled=none) (hc:ErrC K x C) (hg:Gl (yZ (cxx P w) P w K mg base N qual scope f cd A outer s H E) x)
  (ha:PA (yZ (cxx P w) P w K mg base N qual scope f cd A outer s H E) (e₀::rest) ta) (hd:autoParam ((x==("__debug__":Str))=false) au1._auto_1)
  (he:autoParam (jNc (e₀::rest) (envOfC qual scope s.heap.objs.size f cd)=(false,eval e₀ (envOfC qual scope s.heap.objs.size f cd))::jNc rest (envOfC qual scope s.heap.objs.size f cd)) au3._auto_1)
  (hp:autoParam ((jNh cpos (jNc rest (envOfC qual scope s.heap.objs.size f cd))).any (·.1)=false) au3._auto_1):
  PS (yZ (cxx P w) P w K mg base N qual scope f cd A outer s H E) (.Raise (some (.Call (.Name x np) (e₀::rest) [] cpos)) none pos) (JD C E ta):=by
 intro jNj s1 σ H1 D I h;obtain⟨bm,NN,nm,q,bs,hdct,sn,sub,ab,col,dd,k0,k1,k2,k3,k5,mN,hC,hN,hni,T⟩:=(I.ownCls hc).obj;have F:=PySem.F.excBase_ValueError;refine wpAny_Raise_call_subT (C:=C) (nm:=nm) (q:=q) (N:=NN) (bs:=bs) (bm:=bm) (hdct:=hdct) (sn:=sn) (sub:=sub) (ab:=ab) (col:=col) (dd:=dd) (k0:=k0) (k1:=k1) (k2:=k2) (k3:=k3) (k5:=k5) F (mN:=mN)
  (T.hasType F.hasBase) hh (by show (jNh cpos (jNc (e₀::rest) (envOfC qual scope s.heap.objs.size f cd))).any (·.1)=false;rw[he];exact hp) hni (vD I hg (hc.mg I.mod.kin I.mod.glob) ⟨rfl,?_⟩ hd)
 have hw:=ha cpos jNj s1 σ H1 _ I h;have hw:jNi (model P w) (A.deeper (envOfC qual scope s.heap.objs.size f cd)) (spliced (jNh cpos (jNc (e₀::rest) (envOfC qual scope s.heap.objs.size f cd)))) _ _ s1:=hw;show jNi _ _ (evalArgs (.ref C) true (jNh cpos (jNc (e₀::rest) (envOfC qual scope s.heap.objs.size f cd))) []) _ _ s1;rw[he]at hw ⊢;refine Calls.evalArgs_plain (thn hw fun us s2 ⟨vs,H2,I2,r,z,hE⟩=>?_);refine⟨rfl,by rw[<-r.length];exact z,I2.bk _ _ hC,hN.keeps I2.bk,T.keeps I2.bk,fun h' e hx=>JQ I2 hx hE⟩
noncomputable abbrev Cx.within (X:Cx)(e:Addr)(oe:Obj):Cx:={ X with A:=X.A.mark (some (.ref e)),calm:=false,pn:=X.pn++[(e,oe)],xe:=fun _ _=>False }
section
variable {X:Cx}{jNj:List (Addr×Obj)}{σ:St}{H:Hp}{s:jNg}{e:Addr}{oe:Obj}
theorem Cx.Ok.within (ok:X.Ok):(X.within e oe).Ok:=
 ⟨ok.mod,ok.kind,ok.glob,ok.blt,ok.above,ok.inj,ok.has,ok.cab,(fun z=>by cases z),ok.frames,ok.stk,ok.exf,ok.bs,ok.bsz,ok.noex,ok.exfs,ok.funs,ok.frf⟩
def Cx.Ok.without (ok:(X.within e oe).Ok)(hd:X.calm=true->X.A.handled=none):X.Ok:=
 ⟨ok.mod,ok.kind,ok.glob,ok.blt,ok.above,ok.inj,ok.has,ok.cab,hd,ok.frames,ok.stk,ok.exf,ok.bs,ok.bsz,ok.noex,ok.exfs,ok.funs,ok.frf⟩
theorem Inv.within (I:Inv X jNj σ H s)(h1:s.heap.get? e=some oe)(h2:H e=none)(h3:e≠X.env.locals)(h4:e∉X.fs)(h5:∀v,oe.data≠.cell v):Inv (X.within e oe) jNj σ H s:=
 ⟨I.ok.within,I.os,I.bare,I.base,I.loc,I.cell,I.free,I.freeC,fun p hp=>by
  rcases tS.mp hp with z|z
  ·rcases tS.mp z with z|z
   ·exact I.pin p (tL _ z)
   ·obtain rfl:=sI.mp z;exact⟨h1,h2,h3,h4,h5⟩
  ·exact I.pin p (tD _ z),I.hok,I.len⟩
theorem Inv.without (I:Inv (X.within e oe) jNj σ H s)(hd:X.calm=true->X.A.handled=none):Inv X jNj σ H s:=
 ⟨I.ok.without hd,I.os,I.bare,I.base,I.loc,I.cell,I.free,I.freeC,fun p hp=>by
  rcases tS.mp hp with z|z
  ·exact I.pin p (tL _ (tL _ z))
  ·exact I.pin p (tD _ z),I.hok,I.len⟩
theorem SP.without (h:SP (X.within e oe) jNj D f s)(hd:X.calm=true->X.A.handled=none):SP X jNj D f s:=by
 cases f with
 | next=>obtain⟨σ',H',I,q⟩:=h;exact⟨σ',H',I.without hd,q⟩
 | brk=>obtain⟨σ',H',I,q⟩:=h;exact⟨σ',H',I.without hd,q⟩
 | cont=>obtain⟨σ',H',I,q⟩:=h;exact⟨σ',H',I.without hd,q⟩
 | ret u=>obtain⟨v,σ',H',I,r,q⟩:=h;exact⟨v,σ',H',I.without hd,r,q⟩
end
section
variable {X:Cx}{jNj:List (Addr×Obj)}{σ:St}{H:Hp}{s:jNg}
def Inv.flown {h' B:Heap}{old:Addr->Prop}(I:Inv X jNj σ H s)(hst:X.stack=X.env::X.outer)(hf:X.env.frame=some X.env.locals)(st:B.StaysIn h')(up:s.heap.UpToSlots h')
  (cov:∀b o,s.heap.get? b=some o->b∉frs X.stack->(H b≠none\/old b)->B.get? b=some o) (o1:∀b o,X.s₀.heap.get? b=some o->b∉X.ex->old b) (o3:∀p∈X.pn++jNj,old p.1):
  Inv X jNj σ H { s with heap:=h' }:=by
 have trkd:∀b u v,H b=some u->s.heap.get? b=some v->h'.get? b=some v:=fun b u v q r=>st b v (cov b v r (I.trkNo q) (.inl (by rw[q];simp)));have oldd:∀b o v,X.s₀.heap.get? b=some o->b∉X.fs->b∉X.ex->s.heap.get? b=some v->h'.get? b=some v:=fun b o v q n x r=>st b v (cov b v r (I.oldNo hst hf q n) (.inr (o1 b o q x)));have frms:∀b o,b∈X.fs->s.heap.get? b=some o->∃sl,h'.get? b=some { o with slots:=sl }:=fun b o hb q=>by
  obtain⟨_,o2,ho2,nf⟩:=I.funs.mem hb;rw[q]at ho2;cases ho2;exact up b o q nf
 have cellK:∀c v,s.heap.IsCell c v->h'.IsCell c v:=fun c v ⟨o,ho,hd⟩=>by
  obtain⟨sl,e⟩:=up c o ho (fun vs q=>by rw[hd]at q;cases q);exact⟨_,e,hd⟩
 refine⟨I.ok,I.os,I.bare,⟨fun b o q n hb hx=>oldd b o o q hb hx (I.base.keep b o q n hb hx),fun b o q n hb hx=>?_,I.base.free,fun b o q hx=>?_,I.base.tups,I.base.frzs,I.base.tbls⟩,?_,fun y c q=>?_,I.free,I.freeC,fun p hp=>?_,fun b u q=>?_,I.len⟩
 ·obtain⟨sl,e1⟩:=I.base.slot b o q n hb hx;obtain⟨sl',e2⟩:=frms b _ hb e1;exact⟨sl',e2⟩
 ·obtain⟨o1',e1⟩:=I.base.there b o q hx
  by_cases hb:b∈X.fs
  ·obtain⟨sl,e2⟩:=frms b o1' hb e1;exact⟨_,e2⟩
  ·exact⟨o1',oldd b o o1' q hb hx e1⟩
 ·obtain⟨m,hn,hl⟩:=I.loc;refine⟨m,up.ns hn,fun i x v e1 e2 e3=>?_⟩;obtain⟨u,r,l⟩:=hl i x v e1 e2 e3;refine⟨u,r,?_⟩;rcases l with l|⟨k,c,e,z⟩
  ·exact .inl l
  ·exact .inr ⟨k,c,e,cellK c _ z⟩
 ·obtain⟨v,z⟩:=I.cell y c q;exact⟨v,cellK c v z⟩
 ·obtain⟨q,n,ne,nf,d⟩:=I.pin p hp;have hns:p.1∉frs X.stack:=fun m=>by
   rcases tK.mp (I.stkSub p.1 m)with z|z
   ·exact ne z
   ·exact nf z
  exact⟨st _ _ (cov _ _ q hns (.inr (o3 p hp))),n,ne,nf,d⟩
 ·refine (I.hok b u q).stay (fun c v hc r=>?_) (fun _ z=>z) fun _ _ z=>z;rcases hc with z|z
  ·exact trkd c u v (by rw[z];exact q) r
  ·exact trkd c _ v z r
end
noncomputable def xa (cells:List (Str×Addr)):List (Str×NameKind)->List (Str×Addr)->List (Str×Addr)
 | [],acc=>acc
 | (n,k)::r,acc=>xa cells r (if (k==.free)=true then (n,(cells.lookup n).getD 0)::acc else acc)
def wV (h:∀y∈scope.names,y.2=.free->∃c,env.cells.lookup y.1=some c):closureFor scope env=pure (xa env.cells scope.names []):=by
 have go:∀(l:List (Str×NameKind)) (acc:List (Str×Addr)),(∀y∈l,y.2=.free->∃c,env.cells.lookup y.1=some c) ->
   (forIn l acc fun (x:Str×NameKind) (r:List (Str×Addr))=>(if (x.2==.free)=true then (do let a <-cellOf env x.1;pure (ForInStep.yield ((x.1,a)::r))) else pure (ForInStep.yield r):Sem (ForInStep (List (Str×Addr)))))=pure (xa env.cells l acc):=by
  intro l
  induction l with
  | nil=>intro acc _;rfl
  | cons x r ih =>
   intro acc hx;obtain⟨n,k⟩:=x;rw[rQ];have hr:=fun acc=>ih acc fun y hy=>hx y (tF _ hy)
   by_cases hk:(k==NameKind.free)=true
   ·obtain⟨c,hc⟩:=hx (n,k) tE (by simpa using hk);have hc':env.cells.lookup n=some c:=hc;have e1:cellOf env n=pure c:=by unfold cellOf;rw[hc']
    simp only[hk,if_true,e1,pure_bind];unfold xa;rw[jNk hk,hc'];exact hr _
   ·simp only[hk,pB,if_false,pure_bind];unfold xa;rw[jPa hk];exact hr _
 unfold closureFor;have e:=go scope.names [] h;simp only[bind_pure_comp,map_pure]at e ⊢
 first|exact e|(simp only[e,bind_pure];done)|(rw[show (forIn scope.names ([]:List (Str×Addr)) _)=_ from e];rfl)
theorem vB:∀ {names:List (Str×NameKind)} {acc:List (Str×Addr)},(xa cells names acc).lookup x=some c->acc.lookup x=some c\/((x,NameKind.free)∈names/\c=(cells.lookup x).getD 0)
 | [],acc,h=>.inl h
 | (n,k)::r,acc,h=>by
  unfold xa at h;rcases vB h with z|⟨z,e⟩
  ·by_cases hk:(k==NameKind.free)=true
   ·rw[jNk hk]at z
    by_cases hx:(x==n)=true
    ·rw[tT,hx]at z;have e1:x=n:=by simpa using hx
     have e2:k=NameKind.free:=by simpa using hk
     subst e1 e2;exact .inr ⟨tE,(jYe z).symm⟩
    ·have hx':(x==n)=false:=by simpa using hx
     rw[tT,hx']at z;exact .inl z
   ·rw[jPa hk]at z;exact .inl z
  ·exact .inr ⟨tF _ z,e⟩
theorem xV:∀ {names:List (Str×NameKind)} {acc:List (Str×Addr)},((x,NameKind.free)∈names\/∃c,acc.lookup x=some c)->∃c,(xa cells names acc).lookup x=some c
 | [],acc,h=>by
  rcases h with h|h
  ·cases h
  ·exact h
 | (n,k)::r,acc,h=>by
  unfold xa;refine xV ?_;rcases h with h|⟨c,h⟩
  ·rcases tK.mp h with z|z
   ·cases z;refine .inr ⟨(cells.lookup x).getD 0,?_⟩;rw[jNk (by decide),tT];simp only[beq_self_eq_true]
   ·exact .inl z
  ·by_cases hk:(k==NameKind.free)=true
   ·rw[jNk hk]
    by_cases hx:(x==n)=true
    ·exact .inr ⟨_,by rw[tT,hx]⟩
    ·have hx':(x==n)=false:=by simpa using hx
     exact .inr ⟨c,by rw[tT,hx'];exact h⟩
   ·rw[jPa hk];exact .inr ⟨c,h⟩
theorem zQ {env:Env}{x:Str}{k:NameKind}:∀ {names:List (Str×NameKind)},(names.map fun (n,k)=>if (k==NameKind.free&&env.scope.kind==.function&&env.kindOf n==some .cell) then (n,NameKind.cell) else (n,k)).lookup x=some k ->
  ∃k',names.lookup x=some k'/\(k=k'\/(k'=.free/\k=.cell))
 | [],h=>by cases h
 | (n,j)::r,h=>by
  rw[tO]at h
  by_cases hx:(x==n)=true
  ·refine⟨j,by rw[tT,hx],?_⟩;dsimp only at h
   by_cases hc:(j==NameKind.free&&env.scope.kind==.function&&env.kindOf n==some .cell)=true
   ·rw[jNk hc,tT,hx]at h;simp only[sG]at hc;exact .inr ⟨by simpa using hc.1.1,(jYe h).symm⟩
   ·rw[jPa hc,tT,hx]at h;exact .inl (jYe h).symm
  ·have hx':(x==n)=false:=by simpa using hx
   have e:(r.map fun (n,k)=>if (k==NameKind.free&&env.scope.kind==.function&&env.kindOf n==some .cell) then (n,NameKind.cell) else (n,k)).lookup x=some k:=by
    dsimp only at h
    by_cases hc:(j==NameKind.free&&env.scope.kind==.function&&env.kindOf n==some .cell)=true
    ·rw[jNk hc,tT,hx']at h;exact h
    ·rw[jPa hc,tT,hx']at h;exact h
   obtain⟨k',e1,e2⟩:=zQ e;exact⟨k',by rw[tT,hx'];exact e1,e2⟩
structure CompScope (X:Cx)(N':List Str)(fr:List (Option Nat))(scope:Scope):Prop where
 kind:scope.kind=.function
 nocell:∀y∈scope.names,y.2≠.cell
 loc:∀y∈scope.names,y.2=.local->scope.names.lookup y.1=some .local
 free:∀y∈scope.names,y.2=.free->∃c,X.env.cells.lookup y.1=some c
 len:fr.length=N'.length
 fre:∀(j i:Nat) (x:Str),fr[j]?=some (some i)->N'[j]?=some x->X.N[i]?=some x/\scope.names.lookup x=some .free/\(X.env.kindOf x=some .cell\/X.env.kindOf x=some .free)
noncomputable def xt (fr:List (Option Nat))(σ:St):St:=fr.map fun o=>o.bind fun i=>(σ[i]?).join
noncomputable def zA (X:Cx)(scope:Scope)(N':List Str)(s₃:jNg)(H₃:Hp)(fp:List Addr)(jNj:List (Addr×Obj)):Cx:=
 { X with N:=N',s₀:=s₃,H₀:=H₃,env:=compEnvC scope (xa X.env.cells scope.names []) s₃.heap.objs.size X.env,outer:=X.stack,stack:=X.stack,ex:=fp,fn:=fun _=>false,pn:=X.pn++jNj,xe:=fun _ _=>False }
section
variable {X:Cx}{jNj:List (Addr×Obj)}{σ:St}{H:Hp}{s:jNg}{N':List Str}{fr:List (Option Nat)}{scope:Scope}{fp:List Addr}
def xb (S:CompScope X N' fr scope){x:Str}{c:Addr}(h:(xa X.env.cells scope.names []).lookup x=some c):X.env.cells.lookup x=some c:=by
 rcases vB h with z|⟨z,e⟩
 ·cases z
 ·obtain⟨c',hc⟩:=S.free _ z rfl;have hc:X.env.cells.lookup x=some c':=hc;rw[hc]at e;rw[hc,e];rfl
def z1f (I:Inv X jNj σ H s)(S:CompScope X N' fr scope)(hf:∀b∈fp,wH X jNj H b)(hlt:∀b∈fp,b<s.heap.objs.size):(zA X scope N' s H fp jNj).Ok:=by
 refine⟨I.ok.mod,S.kind,I.ok.glob,I.ok.blt,tI _,fun x y c h1 h2=>I.ok.inj x y c (xb S h1) (xb S h2),fun x hx=>?_,(fun x c z=>by cases z),I.ok.hd,I.ok.frames,.inl rfl,fun b hb=>⟨tU (hlt b hb),fun x c h=>(hf b hb).2.2.2.2.1 x c (xb S h)⟩,
  I.bs,sE I.ok.bsz I.sz,fun b o e hb=>?_,fun b hb hm=>?_,I.stack,I.stkFree⟩
 ·have hx:(relabel scope X.env).names.lookup x=some .cell\/(relabel scope X.env).names.lookup x=some .free:=hx;have key:scope.names.lookup x=some .free:=by
   rcases hx with h|h
   ·obtain⟨k',e1,e2⟩:=zQ h;rcases e2 with z|⟨z,_⟩
    ·exact absurd z.symm (S.nocell _ (PySem.mem_of_lookup e1))
    ·rw[e1,z]
   ·obtain⟨k',e1,e2⟩:=zQ h;rcases e2 with z|⟨_,z⟩
    ·rw[e1,<-z]
    ·cases z
  exact xV (.inl (PySem.mem_of_lookup key))
 ·rcases (hf b hb).2.2.2.1 with z|z
  ·exact I.ok.noex b o e z
  ·exact absurd (sC (jYc e) (sE I.ok.bsz z)) (sW _)
 ·rcases tK.mp (I.stkSub b hm)with z|z
  ·exact (hf b hb).2.1 z
  ·exact (hf b hb).2.2.1 z
def VA {tk:Nat}(I:Inv X jNj σ H s)(S:CompScope X N' fr scope)(hf:∀b∈fp,wH X jNj H b)(hlt:∀b∈fp,b<s.heap.objs.size)(hn:h'.Ns s.heap.objs.size m)
  (hk:∀b o,s.heap.get? b=some o->h'.get? b=some o):Inv (zA X scope N' s H fp jNj) [] (xt fr σ) H { s with heap:=h',toks:=tk }:=by
 refine⟨z1f I S hf hlt,rfl,I.bare,Un.kept hk,⟨m,hn,fun j x v e1 e2 e3=>?_⟩,fun x c h=>?_,I.hok.fresh (tI _),fun x c h=>I.freeC x c (xb S h),fun p hp=>?_,I.hok.kept hk,by unfold xt;rw[tH];exact S.len⟩
 ·have e1:N'[j]?=some x:=e1;unfold xt at e2;rw[tN]at e2;cases hj:fr[j]? with
  | none=>rw[hj]at e2;cases e2
  | some o =>
   rw[hj]at e2;cases o with
   | none=>cases e2
   | some i =>
    have e2:(σ[i]?).join=some v:=jYe e2;have e2':σ[i]?=some (some v):=by
     cases hq:σ[i]? with
     | none=>rw[hq]at e2;cases e2
     | some w=>rw[hq]at e2;rw[show w=some v from e2]
    obtain⟨n1,n2,n3⟩:=S.fre j i x hj e1;obtain⟨m0,hn0,hl⟩:=I.loc;have hvis:Vis X.env.scope x:=by
     rcases n3 with z|z
     ·exact .inr (.inl z)
     ·exact .inr (.inr z)
    obtain⟨u,r,l⟩:=hl i x v n1 e2' hvis;refine⟨u,r,.inr ⟨?_,?_⟩⟩
    ·have hh:∀ {names:List (Str×NameKind)},names.lookup x=some .free->(names.map fun (n,k)=>if (k==NameKind.free&&X.env.scope.kind==.function&&X.env.kindOf n==some .cell) then (n,NameKind.cell) else (n,k)).lookup x=some .cell \/
       (names.map fun (n,k)=>if (k==NameKind.free&&X.env.scope.kind==.function&&X.env.kindOf n==some .cell) then (n,NameKind.cell) else (n,k)).lookup x=some .free:=by
      intro names
      induction names with
      | nil=>intro z;cases z
      | cons y r ih =>
       obtain⟨n,k⟩:=y;intro z;rw[tO];dsimp only
       by_cases hx:(x==n)=true
       ·rw[tT,hx]at z
        by_cases hc:(k==NameKind.free&&X.env.scope.kind==.function&&X.env.kindOf n==some .cell)=true
        ·rw[jNk hc];exact .inl (by rw[tT,hx])
        ·rw[jPa hc];exact .inr (by rw[tT,hx];exact z)
       ·have hx':(x==n)=false:=by simpa using hx
        rw[tT,hx']at z;have:=ih z
        by_cases hc:(k==NameKind.free&&X.env.scope.kind==.function&&X.env.kindOf n==some .cell)=true
        ·rw[jNk hc,tT,hx'];exact this
        ·rw[jPa hc,tT,hx'];exact this
     exact hh n2
    ·rcases l with⟨k,_⟩|⟨k,c,e,z⟩
     ·rcases n3 with q|q
      ·rw[q]at k;cases k
      ·rw[q]at k;cases k
     ·obtain⟨c',hc'⟩:=xV (cells:=X.env.cells) (x:=x) (names:=scope.names) (acc:=[]) (.inl (PySem.mem_of_lookup n2));have e':=xb S hc';rw[e]at e';cases e';obtain⟨o,ho,hd⟩:=z;exact⟨c,hc',o,hk _ _ ho,hd⟩
 ·obtain⟨v,o,ho,hd⟩:=I.cell x c (xb S h);exact⟨v,o,hk _ _ ho,hd⟩
 ·have hp:p∈(X.pn++jNj)++[]:=hp;rw[tQ]at hp;obtain⟨q,n,ne,nf,d⟩:=I.pin p hp;refine⟨hk _ _ q,n,tU (jYc q),fun hm=>?_,d⟩;rcases tK.mp (I.stkSub p.1 hm)with z|z
  ·exact ne z
  ·exact nf z
end
section
variable {X:Cx}{jNj:List (Addr×Obj)}{σ τ:St}{H H₃ H5:Hp}{s₃ s5:jNg}{N':List Str}{scope:Scope}{fp:List Addr}
def ky (I:Inv X jNj σ H₃ s₃)(J:Inv (zA X scope N' s₃ H₃ fp jNj) [] τ H5 s5)(hf:∀b∈fp,wH X jNj H₃ b)(hs:Heap.SameBut s₃.heap.objs.size s5.heap h'):Inv X jNj σ H5 { s5 with heap:=h' }:=by
 have hb:∀b o,s₃.heap.get? b=some o->b≠s₃.heap.objs.size:=fun b o q=>tU (jYc q);have u:Un (frs X.stack) fp H₃ H5 s₃.heap s5.heap:=J.base;refine I.call' (s':={ s5 with heap:=h' }) (ch:=fp) J.os ⟨fun b o q n h1 h2=>(hs.2 b (hb b o q)).trans (u.keep b o q n h1 h2),fun b o q n h1 h2=>?_,u.free,fun b o q h2=>?_,u.tups,u.frzs,u.tbls⟩ (fun b ob q=>?_) J.bare (fun b m=>⟨(hf b m).2.2.2.1,(hf b m).2.1,(hf b m).2.2.2.2.1,(hf b m).2.2.2.2.2⟩)
 ·obtain⟨sl,e⟩:=u.slot b o q n h1 h2;exact⟨sl,(hs.2 b (hb b o q)).trans e⟩
 ·obtain⟨o',e⟩:=u.there b o q h2;exact⟨o',(hs.2 b (hb b o q)).trans e⟩
 ·have fr:H5 s₃.heap.objs.size=none:=J.free;refine (J.hok b ob q).stay (fun c v hc r=>(hs.2 c ?_).trans r) (fun _ z=>z) fun _ _ z=>z;rintro rfl;rcases hc with rfl|hc
  ·rw[fr]at q;cases q
  ·rw[fr]at hc;cases hc
end
def PTs (X:Cx)(ifs:List Expr)(t:TT):Prop:=
 ∀(jNj:List (Addr×Obj)) (s:jNg) (σ:St) (H:Hp) (Q:Bool->Hp->Prop),Inv X jNj σ H s->t σ H Q ->
  jNi (model X.prog X.w) X.A (forIn ifs true fun c r=>if r=true then do let ok <-isTrue c X.env (eval c X.env);pure (ForInStep.yield ok) else pure (ForInStep.yield r)) (TP X jNj σ Q) X.xe s
def z6q:TT:=fun _ H Q=>Q true H
def KD:PTs X [] z6q:=fun _ _ _ H _ I h=>wpAny_tests_nil ⟨H,I,h⟩
def z0B (h:PT X c t):PTs X [c] t:=fun jNj s σ H Q I q=>wpAny_tests_one (h jNj s σ H Q I q)
def jg (fr:List (Option Nat))(wi:TI)(g:TG)(tc:TT)(te:TE):TE:=fun σ H Q=>wi σ H fun J H1=>∀D,H1 D=none ->
 ∃W:Nat->Nat->List V->St->Hp->Prop,(∃m,W 0 m [] (xt fr σ) (upd H1 D (.lst [])))/\∀i m ys τ H2,W i m ys τ H2->H2 D=some (.lst ys) /\
  ((J.stop i H2/\Q (.ref D) H2)\/(J.go i H2/\∀x H3,J.yld i H2 x H3->g x τ H3 fun τ' H4=>tc τ' H4 fun b H5=>if b=true then te τ' H5 fun y H6=>H6 D=some (.lst ys)/\ys.length<jNb/\∃m',m'<m/\W (i+1) m' (ys++[y]) τ' (upd H6 D (.lst (ys++[y])))
   else ∃m',m'<m/\W (i+1) m' ys τ' H5))
def Wu {fr:List (Option Nat)}(hc:X.calm=true)(S:CompScope X N' fr scope)(hi:PI X tg iter wi)
  (hg:∀s₃ H₃ fp jNj,PG (zA X scope N' s₃ H₃ fp jNj) tg g) (ht:∀s₃ H₃ fp jNj,PTs (zA X scope N' s₃ H₃ fp jNj) ifs tc) (he:∀s₃ H₃ fp jNj,PE (zA X scope N' s₃ H₃ fp jNj) elt te)
  (hs:∀x,jYh iter X.env x=pure x) {jNj:List (Addr×Obj)} {s:jNg} {σ:St} {H:Hp} {Q:VK} (I:Inv X jNj σ H s) (h:jg fr wi g tc te σ H Q)
  (hfin:∀(s₃:jNg) (H₃:Hp) (fp:List Addr) (D:Addr) (s6:jNg) (τ:St) (H5:Hp) (fl:Flow),Inv X jNj σ H₃ s₃->(∀b∈fp,wH X jNj H₃ b)->Inv (zA X scope N' s₃ H₃ fp jNj) [] τ H5 s6->Q (.ref D) H5 ->
   compPost (model X.prog X.w) X.A X.xe use Qf (.ref D) s₃.heap.objs.size (.ok fl) s6):
  jNi (model X.prog X.w) X.A (comprehension (.ListComp elt [⟨tg,iter,ifs,0⟩] scope pos) scope X.env cp (newList []) false (eval iter X.env) use) Qf X.xe s:=by
 refine wpAny_comprehension_free (use:=use) rfl hs (wV S.free) S.kind S.loc ?_;refine thn (hi jNj s σ H _ I h) fun v s1 h1=>thn h1 fun itv s2 h2=>?_;obtain⟨it,fp,tn,J,H2,rfl,I2,T,st2,f2,hW⟩:=h2;refine jYi ?_ (by size_fits);have hD:H2 s2.heap.objs.size=none:=I2.hok.fresh (tI _);have I3:Inv X jNj σ (upd H2 s2.heap.objs.size (.lst [])) { s2 with heap:=s2.heap.push { cls:=.type "list",data:=.seq ([]:List Value).toArray },toks:=s2.toks }:=
  I2.laid (fun b u e=>jYb _ e) (tI _) ⟨rD _,[],0,.nil,jYd _ rfl⟩
 generalize eD:s2.heap.objs.size=D at I3 hD ⊢;generalize eH:upd H2 D (.lst [])=H3 at I3;have f3:∀b∈fp,wH X jNj H3 b:=fun b hb=>by
  obtain⟨g0,g1⟩:=f2 b hb;refine⟨?_,g1⟩;obtain⟨o,ho,_⟩:=T.obj 0 _ st2 b hb;rw[<-eH,zC (by rw[<-eD];exact tU (jYc ho))];exact g0
 have lt3:∀b∈fp,b<(s2.heap.push { cls:=.type "list",data:=.seq ([]:List Value).toArray }).objs.size:=fun b hb=>by
  obtain⟨o,ho,_⟩:=T.obj 0 _ st2 b hb;rw[Heap.size_push];exact sX (jYc ho)
 have st3:tn 0 (s2.heap.push { cls:=.type "list",data:=.seq ([]:List Value).toArray }):=T.keep _ _ _ st2 fun b _ o e=>jYb _ e;obtain⟨W,⟨m0,w0⟩,turn⟩:=hW D hD;rw[eH]at w0;generalize es3:({ s2 with heap:=s2.heap.push { cls:=.type "list",data:=.seq ([]:List Value).toArray },toks:=s2.toks }:jNg)=s3 at I3;have lt3:∀b∈fp,b<s3.heap.objs.size:=by rw[<-es3];exact lt3
 have st3:tn 0 s3.heap:=by rw[<-es3];exact st3
 refine wpAny_newFunctionEnv S.nocell (by intro y hy;cases hy) (fun h4 hn4 hsb4=>?_) S.kind;have k4:∀b o,s3.heap.get? b=some o->h4.get? b=some o:=fun b o e=>(hsb4.2 b (tU (jYc e))).trans (jYb _ e);have I4:Inv (zA X scope N' s3 H3 fp jNj) [] (xt fr σ) H3 { s3 with heap:=h4,toks:=s3.toks+([]:List (Str×Value)).length }:=VA I3 S f3 lt3 hn4 k4;have st4:tn 0 h4:=T.keep _ _ _ st3 fun b _ o e=>k4 b o e;have stat:∀ {H':Hp} {p':List (Addr×Obj)},p'=[]->(∀b∈fp,H' b=none)->∀b∈fp,wH (zA X scope N' s3 H3 fp jNj) p' H' b:=fun {H' p'} hp hn b hb=>by
  subst hp;obtain⟨g0,g1,g2,g3,g4,g5⟩:=f3 b hb;refine⟨hn b hb,tU (lt3 b hb),fun hm=>?_,.inl hb,fun x c h=>g4 x c (xb S h),fun p hp=>?_⟩
  ·rcases tK.mp (I3.stkSub b hm)with z|z
   ·exact g1 z
   ·exact g2 z
  ·have hp:p∈(X.pn++jNj)++[]:=hp;rw[tQ]at hp;exact g5 p hp
 have loop:∀s':jNg,s'={ s3 with heap:=h4,toks:=s3.toks+([]:List (Str×Value)).length }->codeAny (model X.prog X.w) X.A (.compLoop (.ListComp elt [⟨tg,iter,ifs,0⟩] scope pos) 0 (.ref it) (.ref D) (compEnvC scope (xa X.env.cells scope.names []) s3.heap.objs.size X.env))
   (compPost (model X.prog X.w) X.A X.xe use Qf (.ref D) s3.heap.objs.size) s':=by
  rintro s' rfl;refine codeAny_loop rfl (fun n s'=>∃i ys τ H',Inv (zA X scope N' s3 H3 fp jNj) [] τ H' s'/\tn i s'.heap/\(∀b∈fp,H' b=none)/\W i n ys τ H') ?_ m0 ⟨0,[],_,H3,I4,st4,fun b hb=>(f3 b hb).1,w0⟩;rintro n s5 ⟨i,ys,τ,H5,I5,st5,fr5,w5⟩;show jNi _ X.A ((compTurn (.ListComp elt [⟨tg,iter,ifs,0⟩] scope pos) 0 (.ref it) (.ref D) (compEnvC scope (xa X.env.cells scope.names []) s3.heap.objs.size X.env)).onRaise (fun x=>do noteFrame x (compEnvC scope (xa X.env.cells scope.names []) s3.heap.objs.size X.env);theTreesLotGoes x)) _ _ s5;refine wpAny_noted ?_;rw[compTurn_list];obtain⟨hDy,hor⟩:=turn i n ys τ H5 w5;rcases hor with⟨stop,q⟩|⟨go,step⟩
  ·refine jMf (jKj (jMf (thn (T.done (zA X scope N' s3 H3 fp jNj) rfl rfl rfl hc i [] s5 τ H5 _ I5 (stat rfl fr5) st5 stop) fun r s6 ⟨hr,I6⟩=>?_)));subst hr;exact jMh (hfin s3 H3 fp D s6 τ H5 _ I3 f3 I6 q)
  ·refine jMf (jKj (jMf (thn (T.item (zA X scope N' s3 H3 fp jNj) rfl rfl rfl hc i [] s5 τ H5 _ I5 (stat rfl fr5) st5 go) fun r s6 ⟨u,hr,h6⟩=>?_)));subst hr;refine jMf (thn h6 fun _ s7 ⟨x,H7,I7,r7,y7,st7,fr7⟩=>?_);have I7':=I7.pinned (stat rfl fr7) (T.obj _ _ st7);refine jMf (jMg (hg s3 H3 fp jNj _ s7 τ H7 x u _ I7' r7 (step x H7 y7)) (fun _ s8 ⟨τ8,H8,I8,q8⟩=>?_) fun _ _ z=>False.elim z);refine jMf (jMg (ht s3 H3 fp jNj _ s8 τ8 H8 _ I8 q8) (fun b s9 ⟨H9,I9,q9⟩=>?_) fun _ _ z=>False.elim z);have again:∀ {s':jNg} {H':Hp},Inv (zA X scope N' s3 H3 fp jNj) ([]++vW fp s7.heap) τ8 H' s'->tn (i+1) s'.heap/\∀b∈fp,H' b=none:=fun {s' H'} I'=>by
    refine⟨T.keep _ _ _ st7 fun b hb o e=>(I'.pin (b,o) (tD _ (tD _ (yG hb e)))).1,fun b hb=>?_⟩;obtain⟨o,e,d⟩:=T.obj _ _ st7 b hb;exact (I'.pin (b,o) (tD _ (tD _ (yG hb e)))).2.1
   cases b with
   | false =>
    rw[jPa tP]at q9;obtain⟨m',hm,w9⟩:=q9;obtain⟨a1,a2⟩:=again I9;refine jMh ⟨rfl,m',hm,i+1,ys,τ8,H9,I9.unpinned,a1,a2,w9⟩
   | true =>
    rw[jNk rfl]at q9;refine jMf (jMf (jMg (he s3 H3 fp jNj _ s9 τ8 H9 _ I9 q9) (fun yv s10 ⟨y,H10,I10,r10,hD10,hz,m',hm,w10⟩=>?_) fun _ _ z=>False.elim z));refine jMf (jMg (wY (X:=zA X scope N' s3 H3 fp jNj) _ s10 τ8 H10 (.ref D) [y] (.ref D) [yv] (fun _ H11=>H11=upd H10 D (.lst (ys++[y]))) I10 rfl (.cons r10 .nil) ⟨D,ys,y,rfl,rfl,hD10,hz,rfl⟩) (fun _ s11 ⟨_,H11,I11,_,q11⟩=>?_) fun _ _ z=>False.elim z);subst q11;obtain⟨a1,a2⟩:=again I11;exact jMh (jMh ⟨rfl,m',hm,i+1,ys++[y],τ8,_,I11.unpinned,a1,a2,w10⟩)
 exact codeAny_compStart_list (loop _ rfl) (T.self _ 0 _ _ _ st4 (loop _ rfl))
def z11 {fr:List (Option Nat)}{pos:Pos}(hc:X.calm=true)(S:CompScope X N' fr scope)(hi:PI X tg iter wi)
  (hg:∀s₃ H₃ fp jNj,PG (zA X scope N' s₃ H₃ fp jNj) tg g) (ht:∀s₃ H₃ fp jNj,PTs (zA X scope N' s₃ H₃ fp jNj) ifs tc) (he:∀s₃ H₃ fp jNj,PE (zA X scope N' s₃ H₃ fp jNj) elt te)
  (hs:autoParam (∀x,jYh iter X.env x=pure x) au2._auto_1):PE X (.ListComp elt [⟨tg,iter,ifs,0⟩] scope pos) (jg fr wi g tc te):=by
 intro jNj s σ H Q I h;rw[eval_ListComp];refine Wu (use:=none) hc S hi hg ht he hs I h fun s3 H3 fp D s6 τ H5 fl I3 f3 I6 q=>?_;obtain⟨m6,hn6,_⟩:=I6.loc;exact⟨m6,hn6,fun h7 hs7=>⟨.ref D,H5,ky I3 I6 f3 hs7,rfl,q⟩⟩
def KO {fr:List (Option Nat)}{i:Nat}(hc:X.calm=true)(S:CompScope X N' fr scope)(hi:PI X tg iter wi)
  (hg:∀s₃ H₃ fp jNj,PG (zA X scope N' s₃ H₃ fp jNj) tg g) (ht:∀s₃ H₃ fp jNj,PTs (zA X scope N' s₃ H₃ fp jNj) ifs tc) (he:∀s₃ H₃ fp jNj,PE (zA X scope N' s₃ H₃ fp jNj) elt te)
  (hN:X.N.Nodup) (hix:X.N[i]?=some x) (hx:Loc X.env.scope x) (hsw:jMj (.ListComp elt [⟨tg,iter,ifs,0⟩] scope cpos) (some (.Name x pos')) pos.line X.env=pure true)
  (hs:autoParam (∀x,jYh iter X.env x=pure x) au2._auto_1) (hf:autoParam (X.fn x=true\/X.env.scope.names.lookup x=some .local) au0._auto_1):PS X (.Assign [.Name x pos'] (.ListComp elt [⟨tg,iter,ifs,0⟩] scope cpos) pos) (z2g (jg fr wi g tc te) (jm i)):=by
 intro jNj s σ H Z I h;rw[exec_Assign_Name_used _ _ _ _ hsw];refine jMf (jKj (jMf ?_));show jNi _ _ (comprehension (.ListComp elt [⟨tg,iter,ifs,0⟩] scope cpos) scope X.env (firstIterPos [⟨tg,iter,ifs,0⟩] cpos) (newList []) false (eval iter X.env) (some (assign (.Name x pos') X.env)) >>= fun _=>pure ()) _ _ s;refine jMf (Wu (use:=some (assign (.Name x pos') X.env)) hc S hi hg ht he hs I h fun s3 H3 fp D s6 τ H5 fl I3 f3 I6 q=>?_);obtain⟨m6,hn6,_⟩:=id I6.loc;have I7:Inv X jNj σ H5 s6:=ky (h':=s6.heap) I3 I6 f3 ⟨rfl,fun _ _=>rfl⟩;have ltC:X.env.locals<s3.heap.objs.size:=I3.lt;have cC:∀y c,X.env.cells.lookup y=some c->c≠s3.heap.objs.size:=fun y c e z=>by
  obtain⟨v,o,ho,_⟩:=I3.cell y c e;exact absurd (jYc ho) (by rw[z];exact sW _)
 show jNi (model X.prog X.w) X.A (assign (.Name x pos') X.env (.ref D)) _ X.xe s6;refine wpAny_assign_Name (Yb I7 hN hix hx (v:=.ref D) (u:=.ref D) rfl (fun s8 I8 sb=>?_) hf);obtain⟨a8,sb8,ha8⟩:=sb;have neC:s3.heap.objs.size≠a8:=by
  rcases ha8 with z|z
  ·rw[z];exact rY ltC
  ·exact fun w=>cC x a8 z w.symm
 have hn8:s8.heap.Ns s3.heap.objs.size m6:=by
  obtain⟨o,es,ep,ho,r⟩:=hn6;exact⟨o,es,ep,(sb8.2 _ neC).trans ho,r⟩
 refine⟨m6,hn8,fun h9 hs9=>?_⟩;have frC:H5 s3.heap.objs.size=none:=I6.free;refine jMh (jMh ⟨_,H5,?_,q⟩);have:=I8.turned (h':=h9) (t':=s8.toks) (it:=s3.heap.objs.size) (fun b o hb e=>(hs9.2 b hb).trans e) frC (rY ltC) (.inr (sE I3.ok.above (pJ ltC))) cC (fun p hp z=>?_)
 ·exact this
 ·have:=jYc (I3.pin p hp).1;rw[z]at this;exact sW _ this
def Ite (K:jJa)(a:Addr):It:=
 ⟨fun i H=>∃xs x,SqL K H a xs/\xs[i]?=some x,fun i H x H'=>∃p y,H p=none/\x=.ref p/\H'=upd H p (.tup [.int i,y])/\∀xs,SqL K H a xs->xs[i]?=some y,fun i H=>∃xs,SqL K H a xs/\xs.length<=i⟩
def Uu {P:jNe}{w:World}{K:jJa}{elts:List Expr}{x1:Nat}{tpos:Pos}(a e it:Addr)(hne:e≠it):Turn P w K (.Tuple elts x1 tpos) (Ite K a) [e,it] e (fun i h=>(∃old,IsEnum h e it i old)/\h.IsListIter it a i) where
 mem:=by simp
 obj:=fun i h st b hb=>by
  obtain⟨⟨old,s1⟩,o,e1,c,d⟩:=st;have hb:b=e\/b=it:=by simpa using hb
  rcases hb with rfl|rfl
  ·exact⟨_,s1,fun v z=>by cases z⟩
  ·exact⟨o,e1,fun v z=>by rw[d]at z;cases z⟩
 keep:=fun i h h' st k=>by
  obtain⟨⟨old,s1⟩,s2⟩:=st;exact⟨⟨old,k e (by simp) _ s1⟩,s2.at fun o q=>k it (by simp) o q⟩
 item:=by
  intro X hP hw hK hc i jNj s σ H E I hf st hg;subst hP hw hK;obtain⟨⟨old,s1⟩,s2⟩:=st;obtain⟨xs,x,hq,hx⟩:=hg;obtain⟨its,rv,p,hz⟩:=I.list hq;obtain⟨u,hu,ru⟩:=rv.get hx;obtain⟨f0,f1,f2,f3,f4,f5⟩:=hf e (by simp);obtain⟨g0,g1,g2,g3,g4,g5⟩:=hf it (by simp);refine wpAny_pyNext_enum_item s1 s2 p.isList (x:=u) (by simpa using hu) hne fun h1 out it1 tup sz kp=>?_;refine⟨_,rfl,wpAny_letOwnedTupleGo_enum out fun h2 en2 sb2=>?_⟩;have sb2:Heap.SameBut e h1 h2:=sb2;have eT:e≠s.heap.objs.size:=tU (jYc s1);have iT:it≠s.heap.objs.size:=by
   obtain⟨o,q,_⟩:=s2;exact tU (jYc q)
  have hfresh:H s.heap.objs.size=none:=I.hok.fresh (tI _);have keep2:∀b o,b≠e->b≠it->s.heap.get? b=some o->h2.get? b=some o:=fun b o n1 n2 q=>(sb2.2 b n1).trans (kp b o n1 n2 q);have nE:∀b u,H b=some u->b≠e:=fun b u q z=>by rw[z,f0]at q;cases q
  have nI:∀b u,H b=some u->b≠it:=fun b u q z=>by rw[z,g0]at q;cases q
  have htup:h2.get? s.heap.objs.size=some { cls:=.type "tuple",data:=.seq #[.int i s.toks,u] }:=(sb2.2 _ (Ne.symm eT)).trans tup;have hok2:HOk X.prog X.w (upd H s.heap.objs.size (.tup [.int i,x])) h2:=fun b ob q=>by
   by_cases hb:b=s.heap.objs.size
   ·subst hb;rw[zG]at q;cases q;exact⟨by show 2<=jNb;decide,[.int i s.toks,u],.cons ⟨_,rfl⟩ (.cons ru .nil),⟨_,htup,rfl,⟨rfl,rfl⟩,_,rfl⟩⟩
   ·rw[zC hb]at q;refine (I.hok b ob q).stay (fun c v hc r=>keep2 c v ?_ ?_ r) (fun c z=>?_) fun c ys z=>?_
    ·rcases hc with rfl|hc
     ·exact nE c _ q
     ·exact nE c _ hc
    ·rcases hc with rfl|hc
     ·exact nI c _ q
     ·exact nI c _ hc
    ·rw[zC (zP z hfresh)];exact z
    ·rw[zC (zP z hfresh)];exact z
  have I2:Inv X jNj σ (upd H s.heap.objs.size (.tup [.int i,x])) { s with heap:=h2,gens:=s.gens,drawn:=s.drawn,toks:=s.toks+1 }:=by
   refine I.step (ch:=[e,it]) (fun b hb=>?_) (fun b o _ _ hc q _=>keep2 b o (fun z=>hc (by simp[z])) (fun z=>hc (by simp[z])) q) (fun b o _ _ hc q _=>⟨o.slots,keep2 b o (fun z=>hc (by simp[z])) (fun z=>hc (by simp[z])) q⟩) (fun b o hc q n=>?_)
    (fun b o hc q=>⟨o,keep2 b o (fun z=>hc (by simp[z])) (fun z=>hc (by simp[z])) q⟩) (fun b ys z=>by rw[zC (zP z hfresh)];exact z) (fun b o v z=>by rw[zC (zP z hfresh)];exact z)
    (fun b ps z=>⟨#[],by rw[zC (zP z hfresh),z];simp⟩) (fun m hm=>?_) hok2 I.bare
   ·have hb:b=e\/b=it:=by simpa using hb
    rcases hb with rfl|rfl
    ·exact⟨f3,f1,f4,f5⟩
    ·exact⟨g3,g1,g4,g5⟩
   ·rw[zC (tU (jYc q))];exact n
   ·obtain⟨o,es,ep,ho,r⟩:=hm;exact⟨o,es,ep,keep2 _ o (Ne.symm f1) (Ne.symm g1) ho,r⟩
  refine⟨.ref s.heap.objs.size,_,I2,rfl,⟨s.heap.objs.size,x,hfresh,rfl,rfl,fun ys hy=>by rw[I.list_inj hy hq];exact hx⟩,⟨⟨u,?_⟩,?_⟩,fun b hb=>?_⟩
  ·exact_mod_cast en2
  ·exact it1.at fun o q=>(sb2.2 it (Ne.symm hne)).trans q
  ·have hb:b=e\/b=it:=by simpa using hb
   rcases hb with rfl|rfl
   ·rw[zC eT];exact f0
   ·rw[zC iT];exact g0
 done:=by
  intro X hP hw hK hc i jNj s σ H E I hf st hg;subst hP hw hK;obtain⟨⟨old,s1⟩,s2⟩:=st;obtain⟨xs,hq,hx⟩:=hg;obtain⟨its,rv,p,hz⟩:=I.list hq;obtain⟨g0,g1,g2,g3,g4,g5⟩:=hf it (by simp);have hl:=rv.length;exact wpAny_pyNext_enum_end (I.ok.hd hc) s1 s2 p.isList (by simp;omega) fun h' eb=>⟨rfl,I.turned (t':=s.toks) (fun b o hb q=>eb b o hb q) g0 g1 g3 g4 g5⟩
 self:=fun A i s Q E st h=>by
  obtain⟨⟨old,s1⟩,s2⟩:=st;exact wpAny_pyIter_enum s1 h
def z4o (K:jJa)(ta:TA):TI:=fun σ H R=>ta σ H fun vs H1=>∃a,vs=[.ref a]/\(∃xs,SqL K H1 a xs)/\R (Ite K a) H1
section
def KL {a:Expr}{ta:TA}{p pos tpos:Pos}{elts:List Expr}{x1:Nat}(hg:Gl X "enumerate")(hm:X.mg "enumerate"=none)(ha:PA X [a] ta)(hb:autoParam (jKk "enumerate"=some (.type "enumerate")) au3._auto_1)(hs:autoParam (jNc [a] X.env=[(false,eval a X.env)]) au3._auto_1):
  PI X (.Tuple elts x1 tpos) (.Call (.Name "enumerate" p) [a] [] pos) (z4o X.K ta):=by
 intro jNj s σ H R I h;refine Call_ (vE I hg hm hb (PyProof.Rows.callWith_type1 (thn (ha pos jNj s σ H _ I h) fun us s1 ⟨vs,H1,I1,r1,q1⟩=>?_) hs rfl));obtain⟨a,e,⟨xs,hq⟩,q⟩:=q1;subst e;obtain⟨u,rfl,ru⟩:=r1.one;cases ru;obtain⟨its,rv,pl,hz⟩:=I1.list hq;refine call_enumerate_list pl.isList fun h' en it sz kp=>?_;refine wpAny_pyIter_enum en ?_;have I2:Inv X jNj σ H1 { s1 with heap:=h',toks:=s1.toks }:=I1.kept kp;refine⟨s1.heap.objs.size+1,[s1.heap.objs.size+1,s1.heap.objs.size],_,_,H1,rfl,I2,Uu a _ _ (Nat.succ_ne_self _),⟨⟨.none,en⟩,it⟩,fun b hb=>?_,q⟩;have hb:b=s1.heap.objs.size+1\/b=s1.heap.objs.size:=by simpa using hb
 rcases hb with rfl|rfl
 ·exact I1.fpOk (pG _) (I1.hok.fresh (pG _))
 ·exact I1.fpOk (tI _) (I1.hok.fresh (tI _))
end
def z2o (x:Str)(i:Nat)(v:V):Prop:=∃c,x.cps[i]?=some c/\v=.str ⟨#[c]⟩
def Its (x:Str):It:=⟨fun i _=>i<x.cps.size,fun i H v H'=>H'=H/\z2o x i v,fun i _=>x.cps.size<=i⟩
def WM {P:jNe}{w:World}{K:jJa}{tg:Expr}(x:Str)(t:Tok)(it:Addr):Turn P w K tg (Its x) [it] it (fun i h=>h.IsStrIter it "str_ascii_iterator" x t i) where
 mem:=by simp
 obj:=fun i h st b hb=>by
  have e:b=it:=by simpa using hb
  subst e;obtain⟨o,e,c,d⟩:=st;exact⟨o,e,fun v z=>by rw[d]at z;cases z⟩
 keep:=fun i h h' st k=>let ⟨o,ho,r⟩:=st;⟨o,k it (by simp) o ho,r⟩
 item:=by
  intro X hP hw hK hc i jNj s σ H E I hf st hg;subst hP hw hK;have hg:i<x.cps.size:=hg;obtain⟨f0,f1,f2,f3,f4,f5⟩:=hf it (by simp);refine wpAny_pyNext_ascii_item st (c:=x.cps[i]) (by simp[hg]) fun h' st' sb=>?_;have I1:Inv X jNj σ H { s with heap:=h',toks:=s.toks+1 }:=I.turned (fun b o hb e=>(sb.2 b hb).trans e) f0 f1 f3 f4 f5;obtain⟨o,e,c,d⟩:=id st';exact⟨_,rfl,Ye (s:={ s with heap:=h',toks:=s.toks+1 }) e c d (by decide) ⟨.str ⟨#[x.cps[i]]⟩,H,I1,⟨_,rfl⟩,⟨rfl,_,by simp[hg],rfl⟩,st',fun b hb=>(hf b hb).1⟩⟩
 done:=by
  intro X hP hw hK hc i jNj s σ H E I hf st hg;subst hP hw hK;have hg:x.cps.size<=i:=hg;obtain⟨f0,f1,f2,f3,f4,f5⟩:=hf it (by simp);exact wpAny_pyNext_ascii_end (I.ok.hd hc) st (by simp[hg]) fun h' eb=>⟨rfl,I.turned (t':=s.toks) (fun b o hb e=>eb b o hb e) f0 f1 f3 f4 f5⟩
 self:=fun _ _ _ _ _ st h=>wpAny_pyIter_striter_ascii st h
def Q1 {P:jNe}{w:World}{K:jJa}{tg:Expr}(x:Str)(t:Tok)(it:Addr):Turn P w K tg (Its x) [it] it (fun i h=>h.IsStrIter it "str_iterator" x t i) where
 mem:=by simp
 obj:=fun i h st b hb=>by
  have e:b=it:=by simpa using hb
  subst e;obtain⟨o,e,c,d⟩:=st;exact⟨o,e,fun v z=>by rw[d]at z;cases z⟩
 keep:=fun i h h' st k=>let ⟨o,ho,r⟩:=st;⟨o,k it (by simp) o ho,r⟩
 item:=by
  intro X hP hw hK hc i jNj s σ H E I hf st hg;subst hP hw hK;have hg:i<x.cps.size:=hg;obtain⟨f0,f1,f2,f3,f4,f5⟩:=hf it (by simp);refine wpAny_pyNext_wide_item st (c:=x.cps[i]) (by simp[hg]) fun h' st' sb=>?_;have I1:Inv X jNj σ H { s with heap:=h',toks:=s.toks+1 }:=I.turned (fun b o hb e=>(sb.2 b hb).trans e) f0 f1 f3 f4 f5;obtain⟨o,e,c,d⟩:=id st';exact⟨_,rfl,Ye (s:={ s with heap:=h',toks:=s.toks+1 }) e c d (by decide) ⟨.str ⟨#[x.cps[i]]⟩,H,I1,⟨_,rfl⟩,⟨rfl,_,by simp[hg],rfl⟩,st',fun b hb=>(hf b hb).1⟩⟩
 done:=by
  intro X hP hw hK hc i jNj s σ H E I hf st hg;subst hP hw hK;have hg:x.cps.size<=i:=hg;obtain⟨f0,f1,f2,f3,f4,f5⟩:=hf it (by simp);exact wpAny_pyNext_wide_end (I.ok.hd hc) st (by simp[hg]) fun h' eb=>⟨rfl,I.turned (t':=s.toks) (fun b o hb e=>eb b o hb e) f0 f1 f3 f4 f5⟩
 self:=fun _ _ _ _ _ st h=>wpAny_pyIter_striter_wide st h
def z6d (te:TE):TI:=fun σ H R=>te σ H fun v H1=>∃x,v=.str x/\R (Its x) H1
def z3r {X:Cx}{tg e:Expr}{te:TE}(he:PE X e te):PI X tg e (z6d te):=by
 intro jNj s σ H R I h;refine thn (he jNj s σ H _ I h) fun v s1 ⟨y,H1,I1,r1,q1⟩=>?_;obtain⟨x,rfl,q⟩:=q1;obtain⟨t,rfl⟩:=r1;cases ha:x.cps.all (·<128)
 ·refine wpAny_pyIter_wide ha ?_;refine⟨s1.heap.objs.size,[s1.heap.objs.size],_,_,H1,rfl,I1.kept (t':=s1.toks) fun b o e=>jYb _ e,Q1 x t _,⟨_,jYd _ rfl,rfl,rfl⟩,fun b hb=>?_,q⟩;have e:b=s1.heap.objs.size:=by simpa using hb
  subst e;exact I1.fpOk (tI _) (I1.hok.fresh (tI _))
 ·refine wpAny_pyIter_ascii ha ?_;refine⟨s1.heap.objs.size,[s1.heap.objs.size],_,_,H1,rfl,I1.kept (t':=s1.toks) fun b o e=>jYb _ e,WM x t _,⟨_,jYd _ rfl,rfl,rfl⟩,fun b hb=>?_,q⟩;have e:b=s1.heap.objs.size:=by simpa using hb
  subst e;exact I1.fpOk (tI _) (I1.hok.fresh (tI _))
section
variable {X:Cx}
def z71:V->Option Int->Option Int->Hp->VK->Prop:=fun x lo hi H Q=>∃z,x=.str z/\z.length<=jNb/\Q (.str (Txt.slice z lo hi)) H
def JE:SlR X z71:=by
 intro jNj s σ H x v vl vu lo hi sl Q I rx hs pl pu h;obtain⟨z,rfl,hz,q⟩:=h;obtain⟨t,rfl⟩:=rx;refine⟨"str",_,F.slot_str_getitem.lookup,typeIs_str _ _ _,?_⟩;have fin:∀(l u:Option (Int×Tok)),vl=partValue l->vu=partValue u->l.map (·.1)=lo->u.map (·.1)=hi->jNi (model X.prog X.w) X.A (getItem (.str z t) (.ref sl)) (EP X jNj σ Q) X.xe s:=by
  intro l u e1 e2 e3 e4;subst e1 e2 e3 e4;refine wpAny_getItem_str_slice (st:=none) hs rfl (post_val_or_str ⟨sE (Txt.slice_le z _ _) hz,fun t' k=>?_⟩);exact⟨.str _,H,I.tok k,⟨t',rfl⟩,q⟩
 cases pl with
 | none =>
  cases pu with
  | none=>exact fin none none rfl rfl rfl rfl
  | int j tj=>exact fin none (some (j,tj)) rfl rfl rfl rfl
 | int i ti =>
  cases pu with
  | none=>exact fin (some (i,ti)) none rfl rfl rfl rfl
  | int j tj=>exact fin (some (i,ti)) (some (j,tj)) rfl rfl rfl rfl
def z3z:V->List V->Hp->VK->Prop:=fun x xs H Q=>∃z,x=.str z/\xs=[]/\z.length<=5592405/\Q (.str (Txt.upper z)) H
def Jo:MtM X "str.upper" z3z:=by
 intro jNj s σ H x vs v us Q I rx rv h;obtain⟨z,rfl,rfl,hz,q⟩:=h;obtain⟨t,rfl⟩:=rx;cases rv;exact SCL.upper hz fun _=>⟨.str _,H,I.tok _,⟨_,rfl⟩,q⟩
end
structure DefIn (K:jJa)(mg:Str->Option Value)(x:Str)(st:Stmt)(ps:List Str):Prop where
 ex:∃f fd,Fun K x x st f fd/\mg x=some (.ref f)/\Binds K fd ps []
def Qo {K:jJa}{mg:Str->Option Value}{x:Str}{st:Stmt}{ps:List Str}{h:Heap}{f:Addr}{oc:Value}{od an:Option Addr}{osl:Array (Option Value)}{kV doc pm cdv ct:Value}(X:K.In h)(G:h.Ns jMb mg)
  (hb:∀(kV doc pm:Value) (an:Option Addr) (cdv ct:Value) (us:List Value),us.length=ps.length->bindArgs (jJc x x (defArgs st) (defBody st) (defScope st) .none kV doc pm an cdv ct) ⟨us,[]⟩=pure (ps.zip us))
  (a:jJh K jMb x=some (some (.ref f))) (l:K.lookup f=some ⟨oc,od,.func (jJc x x (defArgs st) (defBody st) (defScope st) .none kV doc pm an cdv ct),osl⟩)
  (c:jJg K cdv x=true) (k:jJe K (.ref f)=true):DefIn K mg x st ps:=
 ⟨f,_,JF l c k,jJp X G a,(JF (st:=st) l c k).binds hb⟩
structure Own (P:jNe)(w:World)(K:jJa)(mg:Str->Option Value)(base:Heap)(x:Str)(k:Nat)(ps:List Str)(sp:Sp):Prop where
 ex:∃f fd,FnOk P w K mg base (cxx P w) k f fd ps sp/\mg x=some (.ref f)/\jJe K (.ref f)=true/\Binds K fd ps []
section
variable {P:jNe}{w:World}{K:jJa}{mg:Str->Option Value}{base:Heap}{x:Str}{st:Stmt}{N ps:List Str}{k:Nat}{sp:Sp}
theorem DefIn.own (D:DefIn K mg x st ps)(S:FnScope N ps (defScope st))(len:∀vs H Q E,sp vs H Q E->vs.length=ps.length)
  (hbody:∀(f:Addr) (cdv:Value) (A:jNf) (outer:List Env) (s:jNg) (H:Hp) (vs:List V) (Q:VK) (E:XK),Room k (A.deeper (envOfC x (defScope st) s.heap.objs.size f cdv))->sp vs H Q E ->
   ∃t,PSs (yZ (cxx P w) P w K mg base N x (defScope st) f cdv A outer s H E) (defBody st) t/\t { nx:=fun _ H'=>Q .non H',rt:=Q } (start N vs) H):Own P w K mg base x (k+1) ps sp:=by
 obtain⟨f,fd,F,hm,hb⟩:=D.ex;obtain⟨oc,od,kV,doc,pm,an,cdv,ct,osl,rfl,lk,hcd⟩:=F.ex;exact⟨f,_,z1Y lk hcd S len fun A outer s H vs Q E hr hsp=>hbody f cdv A outer s H vs Q E hr hsp,hm,F.kp,hb⟩
theorem Own.mono {j:Nat}(O:Own P w K mg base x j ps sp)(h:j<=k):Own P w K mg base x k ps sp:=by
 obtain⟨f,fd,F,a,b,c⟩:=O.ex;exact⟨f,fd,F.mono h,a,b,c⟩
end
section
variable {k:Nat}
def z2h (O:Own X.prog X.w X.K X.mg X.base x k ps sp)(hr:Room k X.A)(hg:Gl X x)(hx:uX (cxx X.prog X.w) X E)(ha:PA X (e::es) t)(hdb:autoParam ((x==("__debug__":Str))=false) au1._auto_1)
  (he:autoParam (jNc (e::es) X.env=(false,eval e X.env)::jNc es X.env) au3._auto_1) (hpl:autoParam ((jNh pos (jNc es X.env)).any (·.1)=false) au3._auto_1):PE X (.Call (.Name x p) (e::es) [] pos) (z1x sp [] E t):=by
 obtain⟨f,fd,F,hm,hk,hb⟩:=O.ex;exact z0i F hr hg hm hk hb .nil hx ha hdb he hpl
end
def jc:List String:=["NoneType","bool","int","str","list","tuple","dict"]
section
variable {K:jJa}
def z0u:∀ {T:String},T∈jc->jJf K (.type T) (.type "int")=some (T=="int"||T=="bool"):=by
 intro T h;simp only[jc,tK,sJ,or_false]at h;rcases h with rfl|rfl|rfl|rfl|rfl|rfl|rfl<;>kernel_rfl
def Jv:∀ {T:String},T∈jc->jJf K (.type T) (.type "bool")=some (T=="bool"):=by
 intro T h;simp only[jc,tK,sJ,or_false]at h;rcases h with rfl|rfl|rfl|rfl|rfl|rfl|rfl<;>kernel_rfl
def Qd:∀ {T U:String},T∈jc->U∈(["str","list","tuple","dict"]:List String)->jJf K (.type T) (.type U)=some (T==U):=by
 intro T U h g;simp only[jc,tK,sJ,or_false]at h g;rcases g with rfl|rfl|rfl|rfl<;>rcases h with rfl|rfl|rfl|rfl|rfl|rfl|rfl<;>kernel_rfl
end
inductive D where
 | non | bl (b:Bool) | int (i:Int) | str (x:Str) | tup (xs:List D) | lst (xs:List D) | dic (ks:List Key) (xs:List D) | frl (xs:List D) | obj (C:Addr) (ns:List Str) (xs:List D)
inductive R (α:Type) where
 | ok (a:α) | err (c:Str) | bad
noncomputable def R.bind {α β:Type}(r:R α)(f:α->R β):R β:=match r with
 | .ok a=>f a
 | .err c=>.err c
 | .bad=>.bad
def jYa {α β:Type}(a:α)(f:α->R β):(R.ok a).bind f=f a:=rfl
mutual
def D.imm:D->Bool
 | .tup xs=>D.imms xs
 | .lst _=>false
 | .dic _ _=>false
 | .obj _ _ _=>false
 | _=>true
def D.imms:List D->Bool
 | []=>true
 | d::ds=>D.imm d&&D.imms ds
end
def SqF (K:jJa)(H:Hp)(a:Addr)(vs:List V):Prop:=(∃o,H a=some (.frz o (.lst vs))) \/
 ∃(o:Obj) (its:Array Value) (n:Nat),K.lookup a=some o/\o.cls=.type "list"/\o.dict=none/\o.data=.seq its n/\its.size<=jNb/\Vals vs its.toList
theorem SqF.sq {K:jJa}{H:Hp}{a:Addr}{vs:List V}(h:SqF K H a vs):SqL K H a vs:=by
 rcases h with⟨o,h⟩|h
 ·exact .inl (.inr ⟨o,h⟩)
 ·exact .inr h
mutual
def Rep (K:jJa)(H:Hp):D->V->List Addr->Prop
 | .non,v,L=>v=.non/\L=[]
 | .bl b,v,L=>v=.bl b/\L=[]
 | .int i,v,L=>v=.int i/\L=[]
 | .str x,v,L=>v=.str x/\L=[]
 | .tup ds,v,L=>∃a vs,v=.ref a/\SqT K H a vs/\Reps K H ds vs L
 | .lst ds,v,L=>∃a vs L',v=.ref a/\H a=some (.lst vs)/\L=a::L'/\Reps K H ds vs L'
 | .dic ks ds,v,L=>∃a kvs L',v=.ref a/\H a=some (.dK kvs)/\L=a::L'/\kvs.map (·.1)=ks/\ks.Nodup/\Reps K H ds (kvs.map (·.2)) L'
 | .frl ds,v,L=>∃a vs,v=.ref a/\SqF K H a vs/\L=[]/\D.imms ds=true/\Reps K H ds vs []
 | .obj C ns ds,v,L=>∃a dx fs,v=.ref a/\H a=some (.ins C dx fs)/\fs.map (·.1)=ns/\Reps K H ds (fs.map (·.2)) L
def Reps (K:jJa)(H:Hp):List D->List V->List Addr->Prop
 | [],vs,L=>vs=[]/\L=[]
 | d::ds,vs,L=>∃v vs' L1 L2,vs=v::vs'/\L=L1++L2/\Rep K H d v L1/\Reps K H ds vs' L2
end
structure TF (H H':Hp):Prop where
 tup:∀a xs,H a=some (.tup xs)->H' a=some (.tup xs)
 frz:∀a o u,H a=some (.frz o u)->H' a=some (.frz o u)
 ins:∀a C dx fs,H a=some (.ins C dx fs)->H' a=some (.ins C dx fs)
theorem Same.tf (h:Same H H'):TF H H':=⟨fun a xs e=>h a _ e,fun a o u e=>h a _ e,fun a C dx fs e=>h a _ e⟩
theorem Same.non (s:Same H H1){a:Addr}(h:H1 a=none):H a=none:=by
 cases e:H a with
 | none=>rfl
 | some o=>rw[s a o e]at h;cases h
theorem Same.new (h:H p=none):Same H (upd H p o):=fun b u e=>by
 rw[zC (zP e h)];exact e
theorem SqF.tf {K:jJa}{H H':Hp}{a:Addr}{vs:List V}(h:SqF K H a vs)(s:TF H H'):SqF K H' a vs:=by
 rcases h with⟨o,h⟩|h
 ·exact .inl ⟨o,s.frz _ _ _ h⟩
 ·exact .inr h
theorem SqT.tf {K:jJa}{H H':Hp}{a:Addr}{vs:List V}(h:SqT K H a vs)(s:TF H H'):SqT K H' a vs:=by
 rcases h with h|h
 ·rcases h with h|⟨o,h⟩
  ·exact .inl (.inl (s.tup _ _ h))
  ·exact .inl (.inr ⟨o,s.frz _ _ _ h⟩)
 ·exact .inr h
section
variable {K:jJa}{H H':Hp}
mutual
theorem Rep.keep (s:TF H H'):∀(d:D) (v:V) (L:List Addr),Rep K H d v L->(∀a∈L,H' a=H a)->Rep K H' d v L
 | .non,_,_,h,_=>h
 | .bl _,_,_,h,_=>h
 | .int _,_,_,h,_=>h
 | .str _,_,_,h,_=>h
 | .tup ds,_,L,hq3,k=>by
  obtain⟨a,vs,e,h,r⟩:=hq3;exact⟨a,vs,e,h.tf s,Reps.keep s ds vs L r k⟩
 | .obj C ns ds,_,L,hq3,k=>by
  obtain⟨a,dx,fs,e,h,hn,r⟩:=hq3;exact⟨a,dx,fs,e,s.ins _ _ _ _ h,hn,Reps.keep s ds _ L r k⟩
 | .lst ds,_,L,hq3,k=>by
   obtain⟨a,vs,L',e,h1,h2,h3⟩:=hq3;subst h2;exact⟨a,vs,L',e,by rw[k a tE];exact h1,rfl,Reps.keep s ds vs L' h3 fun b hb=>k b (tF _ hb)⟩
 | .frl ds,_,L,hq3,k=>by
  obtain⟨a,vs,e,h1,h2,h3,h4⟩:=hq3;exact⟨a,vs,e,h1.tf s,h2,h3,Reps.keep s ds vs [] h4 (fun _ hb=>nomatch hb)⟩
 | .dic ks ds,_,L,hq3,k=>by
   obtain⟨a,kvs,L',e,h1,h2,h3,h4,h5⟩:=hq3;subst h2;exact⟨a,kvs,L',e,by rw[k a tE];exact h1,rfl,h3,h4,Reps.keep s ds _ L' h5 fun b hb=>k b (tF _ hb)⟩
theorem Reps.keep (s:TF H H'):∀(ds:List D) (vs:List V) (L:List Addr),Reps K H ds vs L->(∀a∈L,H' a=H a)->Reps K H' ds vs L
 | [],_,_,h,_=>h
 | d::ds,_,_,hq3,k=>by
  obtain⟨v,vs',L1,L2,e1,e2,h1,h2⟩:=hq3;subst e2;exact⟨v,vs',L1,L2,e1,rfl,Rep.keep s d v L1 h1 fun a ha=>k a (tL _ ha),Reps.keep s ds vs' L2 h2 fun a ha=>k a (tD _ ha)⟩
end
mutual
theorem Rep.dom:∀(d:D) (v:V) (L:List Addr),Rep K H d v L->∀a∈L,(∃vs,H a=some (.lst vs))\/∃kvs,H a=some (.dK kvs)
 | .non,_,_,h,a,ha=>by rw[h.2]at ha;cases ha
 | .bl _,_,_,h,a,ha=>by rw[h.2]at ha;cases ha
 | .int _,_,_,h,a,ha=>by rw[h.2]at ha;cases ha
 | .str _,_,_,h,a,ha=>by rw[h.2]at ha;cases ha
 | .tup ds,_,L,hq3,b,hb=>by
  obtain⟨a,vs,e,h,r⟩:=hq3;exact Reps.dom ds vs L r b hb
 | .obj C ns ds,_,L,hq3,b,hb=>by
  obtain⟨a,dx,fs,e,h,hn,r⟩:=hq3;exact Reps.dom ds _ L r b hb
 | .lst ds,_,L,hq3,b,hb=>by
   obtain⟨a,vs,L',e,h1,h2,h3⟩:=hq3;subst h2;rcases tK.mp hb with z|z
   ·subst z;exact .inl ⟨vs,h1⟩
   ·exact Reps.dom ds vs L' h3 b z
 | .frl ds,_,L,hq3,b,hb=>by
  obtain⟨a,vs,e,h1,h2,h3,h4⟩:=hq3;rw[h2]at hb;cases hb
 | .dic ks ds,_,L,hq3,b,hb=>by
   obtain⟨a,kvs,L',e,h1,h2,h3,h4,h5⟩:=hq3;subst h2;rcases tK.mp hb with z|z
   ·subst z;exact .inr ⟨kvs,h1⟩
   ·exact Reps.dom ds _ L' h5 b z
theorem Reps.dom:∀(ds:List D) (vs:List V) (L:List Addr),Reps K H ds vs L->∀a∈L,(∃vs,H a=some (.lst vs))\/∃kvs,H a=some (.dK kvs)
 | [],_,_,h,a,ha=>by rw[h.2]at ha;cases ha
 | d::ds,_,_,hq3,a,ha=>by
  obtain⟨v,vs',L1,L2,e1,e2,h1,h2⟩:=hq3;subst e2;rcases tS.mp ha with z|z
  ·exact Rep.dom d v L1 h1 a z
  ·exact Reps.dom ds vs' L2 h2 a z
end
mutual
theorem Rep.imm:∀(d:D) (v:V) (L:List Addr),Rep K H d v L->d.imm=true->L=[]
 | .non,_,_,h,_=>h.2
 | .bl _,_,_,h,_=>h.2
 | .int _,_,_,h,_=>h.2
 | .str _,_,_,h,_=>h.2
 | .tup ds,_,L,hq3,h=>by
  obtain⟨_,vs,_,_,r⟩:=hq3;exact Reps.imm ds vs L r h
 | .lst _,_,_,_,h=>nomatch h
 | .dic _ _,_,_,_,h=>nomatch h
 | .obj _ _ _,_,_,_,h=>nomatch h
 | .frl _,_,_,hq3,_=>by
  obtain⟨_,_,_,_,h,_⟩:=hq3;exact h
theorem Reps.imm:∀(ds:List D) (vs:List V) (L:List Addr),Reps K H ds vs L->D.imms ds=true->L=[]
 | [],_,_,h,_=>h.2
 | d::ds,_,_,hq3,h=>by
  obtain⟨v,vs',L1,L2,_,e2,h1,h2⟩:=hq3;have h:(d.imm&&D.imms ds)=true:=h;rw[sG]at h;rw[e2,Rep.imm d v L1 h1 h.1,Reps.imm ds vs' L2 h2 h.2];rfl
end
def Rep.there {d:D}{v:V}{L:List Addr}(h:Rep K H d v L){a:Addr}(ha:a∈L):H a≠none:=by
 rcases Rep.dom d v L h a ha with⟨_,e⟩|⟨_,e⟩<;>rw[e]<;>simp
theorem Reps.there {d:List D}{v:List V}{L:List Addr}(h:Reps K H d v L){a:Addr}(ha:a∈L):H a≠none:=by
 rcases Reps.dom d v L h a ha with⟨_,e⟩|⟨_,e⟩<;>rw[e]<;>simp
theorem Same.at (s:Same H H')(h:H a≠none):H' a=H a:=by
 cases e:H a with
 | none=>exact absurd e h
 | some o=>exact s a o e
theorem Rep.same {d:D}{v:V}{L:List Addr}(h:Rep K H d v L)(s:Same H H'):Rep K H' d v L:=Rep.keep s.tf d v L h fun _ ha=>s.at (h.there ha)
theorem Reps.same {d:List D}{v:List V}{L:List Addr}(h:Reps K H d v L)(s:Same H H'):Reps K H' d v L:=Reps.keep s.tf d v L h fun _ ha=>s.at (h.there ha)
theorem Reps.length:∀ {ds:List D} {vs:List V} {L:List Addr},Reps K H ds vs L->vs.length=ds.length
 | [],_,_,hq3=>by
  obtain⟨e,_⟩:=hq3;rw[e];rfl
 | d::ds,_,_,hq3=>by
  obtain⟨v,vs',L1,L2,e1,e2,h1,h2⟩:=hq3;rw[e1,tR,tR,Reps.length h2]
theorem Reps.nil:Reps K H [] [] []:=⟨rfl,rfl⟩
theorem Reps.cons {d:D}{v:V}{L1:List Addr}{ds:List D}{vs:List V}{L2:List Addr}(h:Rep K H d v L1)(t:Reps K H ds vs L2):Reps K H (d::ds) (v::vs) (L1++L2):=⟨v,vs,L1,L2,rfl,rfl,h,t⟩
theorem Reps.get:∀ {ds:List D} {vs:List V} {L:List Addr} {i:Nat} {d:D},Reps K H ds vs L->ds[i]?=some d->∃v L1,vs[i]?=some v/\Rep K H d v L1/\List.Sublist L1 L
 | [],_,_,_,_,_,e=>by simp at e
 | d::ds,_,_,0,_,hq5,e=>by
  obtain⟨v,vs',L1,L2,e1,e2,h1,h2⟩:=hq5;subst e1 e2;simp at e;subst e;exact⟨v,L1,rfl,h1,List.sublist_append_left _ _⟩
 | d::ds,_,_,i+1,d',hq5,e=>by
  obtain⟨v,vs',L1,L2,e1,e2,h1,h2⟩:=hq5;subst e1 e2;obtain⟨v',L',a,b,c⟩:=Reps.get (i:=i) (d:=d') h2 (by simpa using e);exact⟨v',L',by simpa using a,b,c.trans (rE _ _)⟩
theorem Reps.append:∀ {ds ds':List D} {vs vs':List V} {L L':List Addr},Reps K H ds vs L->Reps K H ds' vs' L'->Reps K H (ds++ds') (vs++vs') (L++L')
 | [],_,_,_,_,_,hq6,h=>by
  obtain⟨e1,e2⟩:=hq6;subst e1 e2;exact h
 | d::ds,_,_,_,_,_,hq6,h=>by
  obtain⟨v,vs',L1,L2,e1,e2,h1,h2⟩:=hq6;subst e1 e2;have:=Reps.cons h1 (Reps.append h2 h);rw[<-sS]at this;exact this
theorem Reps.take:∀ {ds:List D} {vs:List V} {L:List Addr} (n:Nat),Reps K H ds vs L->∃L',Reps K H (ds.take n) (vs.take n) L'/\List.Sublist L' L
 | _,_,_,0,_=>⟨[],by simpa using Reps.nil,rV _⟩
 | [],_,_,n+1,hq4=>by
  obtain⟨e1,e2⟩:=hq4;subst e1 e2;exact⟨[],by simpa using Reps.nil,rV _⟩
 | d::ds,_,_,n+1,hq4=>by
  obtain⟨v,vs',L1,L2,e1,e2,h1,h2⟩:=hq4;subst e1 e2;obtain⟨L',a,b⟩:=Reps.take n h2;exact⟨L1++L',by simpa using Reps.cons h1 a,List.Sublist.append (List.Sublist.refl _) b⟩
theorem Reps.drop:∀ {ds:List D} {vs:List V} {L:List Addr} (n:Nat),Reps K H ds vs L->∃L',Reps K H (ds.drop n) (vs.drop n) L'/\List.Sublist L' L
 | _,_,L,0,h=>⟨L,by simpa using h,List.Sublist.refl _⟩
 | [],_,_,n+1,hq4=>by
  obtain⟨e1,e2⟩:=hq4;subst e1 e2;exact⟨[],by simpa using Reps.nil,rV _⟩
 | d::ds,_,_,n+1,hq4=>by
  obtain⟨v,vs',L1,L2,e1,e2,h1,h2⟩:=hq4;subst e1 e2;obtain⟨L',a,b⟩:=Reps.drop n h2;exact⟨L',by simpa using a,b.trans (rE _ _)⟩
end
abbrev Tn:=List (Option D)
inductive Cl where
 | own | shr | brw | dead
 deriving DecidableEq
inductive Rc where
 | fresh | shr | bor
 deriving DecidableEq
structure EOk (K:jJa)(Γ:List Cl)(O:Addr->Prop)(H:Hp)(σ:St)(τ:Tn):Prop where
 dom:∀a,O a->H a≠none
 slot:∀(i:Nat) (c:Cl),Γ[i]?=some c->c≠.dead->∃v d L,σ[i]?=some (some v)/\τ[i]?=some (some d)/\Rep K H d v L/\(c=.shr->∀a∈L,¬O a)
def RcOk (c:Rc)(O:Addr->Prop)(H:Hp)(L:List Addr):Prop:=match c with
 | .fresh=>L.Nodup/\∀a∈L,H a=none
 | .shr=>∀a∈L,¬O a
 | .bor=>True
def post (K:jJa)(E:XK)(O:Addr->Prop)(c:Rc)(H:Hp)(Q:VK):R D->Prop
 | .ok d=>∀v H' L,Same H H'->Rep K H' d v L->RcOk c O H L->Q v H'
 | .err n=>∀C H',ErrC K n C->Same H H'->E (.ref C) none H'
 | .bad=>False
def QE (K:jJa)(E:XK)(O:Addr->Prop)(c:Rc)(H:Hp)(Q:List V->Hp->Prop):R (List D)->Prop
 | .ok ds=>∀vs H' L,Same H H'->Reps K H' ds vs L->RcOk c O H L->Q vs H'
 | .err n=>∀C H',ErrC K n C->Same H H'->E (.ref C) none H'
 | .bad=>False
def postB (K:jJa)(E:XK)(H:Hp)(Q:Bool->Hp->Prop):R Bool->Prop
 | .ok b=>∀H',Same H H'->Q b H'
 | .err n=>∀C H',ErrC K n C->Same H H'->E (.ref C) none H'
 | .bad=>False
section
variable {K:jJa}{Γ:List Cl}{O:Addr->Prop}{H H1:Hp}{σ:St}{τ:Tn}{E:XK}{c:Rc}{Q:VK}
theorem EOk.same (e:EOk K Γ O H σ τ)(s:Same H H1):EOk K Γ O H1 σ τ:=
 ⟨fun a h=>by rw[s.at (e.dom a h)];exact e.dom a h,fun i c h1 h2=>by
  obtain⟨v,d,L,a1,a2,a3,a4⟩:=e.slot i c h1 h2;exact⟨v,d,L,a1,a2,a3.same s,a4⟩⟩
theorem RcOk.same (h:RcOk c O H1 L)(s:Same H H1):RcOk c O H L:=by
 cases c with
 | fresh=>exact⟨h.1,fun a ha=>s.non (h.2 a ha)⟩
 | shr=>exact h
 | bor=>exact h
theorem RcOk.shr (dom:∀a,O a->H a≠none)(hc:c≠.bor)(h:RcOk c O H L):∀a∈L,¬O a:=by
 cases c with
 | fresh=>exact fun a ha ho=>dom a ho (h.2 a ha)
 | shr=>exact h
 | bor=>exact absurd rfl hc
theorem RcOk.nil:RcOk c O H []:=by
 cases c with
 | fresh=>exact⟨rN,fun a ha=>by cases ha⟩
 | shr=>exact fun a ha=>by cases ha
 | bor=>trivial
theorem post.same {r:R D}(h:post K E O c H Q r)(s:Same H H1):post K E O c H1 Q r:=by
 cases r with
 | ok d=>exact fun v H' L s' r' c'=>h v H' L (s.trans s') r' (c'.same s)
 | err n=>exact fun C H' e s'=>h C H' e (s.trans s')
 | bad=>exact h
theorem postB.same {Q:Bool->Hp->Prop}{r:R Bool}(h:postB K E H Q r)(s:Same H H1):postB K E H1 Q r:=by
 cases r with
 | ok d=>exact fun H' s'=>h H' (s.trans s')
 | err n=>exact fun C H' e s'=>h C H' e (s.trans s')
 | bad=>exact h
end
def ME (X:Cx)(E:XK)(Γ:List Cl)(e:Expr)(t:Tn->R D)(c:Rc):Prop:=
 ∃te,PE X e te/\∀O σ H τ Q,EOk X.K Γ O H σ τ->post X.K E O c H Q (t τ)->te σ H Q
def MA (X:Cx)(E:XK)(Γ:List Cl)(es:List Expr)(t:Tn->R (List D))(c:Rc):Prop:=
 (∀τ ds,t τ=.ok ds->ds.length=es.length)/\∃ta,PA X es ta/\∀O σ H τ Q,EOk X.K Γ O H σ τ->QE X.K E O c H Q (t τ)->ta σ H Q
def MT (X:Cx)(E:XK)(Γ:List Cl)(e:Expr)(t:Tn->R Bool):Prop:=
 ∃te,PT X e te/\∀O σ H τ Q,EOk X.K Γ O H σ τ->postB X.K E H Q (t τ)->te σ H Q
def MW (X:Cx)(E:XK)(Γ:List Cl)(e:Expr)(t:Tn->R Bool):Prop:=
 ∃te,PW X e te/\∀O σ H τ Q,EOk X.K Γ O H σ τ->postB X.K E H Q (t τ)->te σ H Q
theorem MW.mt {t:Tn->R Bool}(h:MW X E Γ e t):MT X E Γ e t:=by
 obtain⟨te,p,q⟩:=h;exact⟨te,p.pt,q⟩
def Rc.of:Cl->Rc
 | .shr=>.shr
 | _=>.bor
def Rc.both:Rc->Rc->Rc
 | .fresh,.fresh=>.fresh
 | .bor,_=>.bor
 | _,.bor=>.bor
 | _,_=>.shr
def za (i:Nat):Tn->R D:=fun τ=>match τ[i]? with
 | some (some d)=>.ok d
 | _=>.bad
def eC (d:D):Tn->R D:=fun _=>.ok d
def y4 (t:Tn->R D):Tn->R D:=fun τ=>(t τ).bind fun d=>if d.imm=true then .ok d else .bad
def zd (g:D->D->R D)(a b:Tn->R D):Tn->R D:=fun τ=>(a τ).bind fun x=>(b τ).bind fun y=>g x y
def eUn (g:D->R D)(a:Tn->R D):Tn->R D:=fun τ=>(a τ).bind g
def zf:Tn->R (List D):=fun _=>.ok []
def z9 (a:Tn->R D)(b:Tn->R (List D)):Tn->R (List D):=fun τ=>(a τ).bind fun x=>(b τ).bind fun xs=>.ok (x::xs)
def eL (g:List D->R D)(a:Tn->R (List D)):Tn->R D:=fun τ=>(a τ).bind g
def asB:D->R Bool
 | .bl b=>.ok b
 | _=>.bad
def zm (a:Tn->R D):Tn->R Bool:=fun τ=>(a τ).bind asB
def Xs (a b:Tn->R Bool):Tn->R Bool:=fun τ=>(a τ).bind fun x=>if x=true then b τ else .ok false
def bOr (a b:Tn->R Bool):Tn->R Bool:=fun τ=>(a τ).bind fun x=>if x=true then .ok true else b τ
def qd (a:Tn->R Bool):Tn->R Bool:=fun τ=>(a τ).bind fun x=>.ok (!x)
def Wj (a b:Tn->R D):Tn->R D:=fun τ=>(a τ).bind fun x=>(asB x).bind fun k=>if k=true then b τ else .ok (.bl false)
def eIf (c:Tn->R Bool)(a b:Tn->R D):Tn->R D:=fun τ=>(c τ).bind fun k=>if k=true then a τ else b τ
def Z5 (g g':D->D->R D)(a b c:Tn->R D):Tn->R D:=fun τ=>(a τ).bind fun x=>(b τ).bind fun y=>(g x y).bind fun z=>(asB z).bind fun k=>if k=true then (c τ).bind fun w=>g' y w else .ok (.bl false)
section
variable {X:Cx}{E:XK}{Γ:List Cl}{e a b:Expr}{t ta tb tc:Tn->R D}{c ca cb:Rc}{pos:Pos}
def z0G {i:Nat}(hN:X.N[i]?=some x)(hk:Γ[i]?=some k)(hd:k≠.dead)(hv:Vis X.env.scope x)(hb:autoParam ((x==("__debug__":Str))=false) au1._auto_1)(hcd:autoParam ((x==("__classdict__":Str))=false) au1._auto_1):
  ME X E Γ (.Name x pos) (za i) (Rc.of k):=by
 refine⟨z2O i,vq hN hv hb hcd,fun O σ H τ Q ok h=>?_⟩;obtain⟨v,d,L,e1,e2,e3,e4⟩:=ok.slot i k hk hd;unfold za at h;rw[e2]at h;refine⟨v,e1,h v H L (Same.refl H) e3 ?_⟩;cases k with
 | shr=>exact e4 rfl
 | own=>trivial
 | brw=>trivial
 | dead=>trivial
def Uk (hp:PE X e (tC v))(hr:∀H,Rep X.K H d v []):ME X E Γ e (eC d) .fresh:=
 ⟨tC v,hp,fun O σ H τ Q ok h=>h v H [] (Same.refl H) (hr H) RcOk.nil⟩
def zc {i:Int}{j}:ME X E Γ (.Constant (.int i) j pos) (eC (.int i)) .fresh:=Uk Xi fun _=>⟨rfl,rfl⟩
def vm {i:Bool}{j}:ME X E Γ (.Constant (.bool i) j pos) (eC (.bl i)) .fresh:=Uk z4u fun _=>⟨rfl,rfl⟩
def wJ {j}:ME X E Γ (.Constant .none j pos) (eC .non) .fresh:=Uk Vw fun _=>⟨rfl,rfl⟩
def zj {j}:ME X E Γ (.Constant (.str x) j pos) (eC (.str x)) .fresh:=Uk xX fun _=>⟨rfl,rfl⟩
def zy (h:ME X E Γ e t c):ME X E Γ e (y4 t) .fresh:=by
 obtain⟨te,p,q⟩:=h;refine⟨te,p,fun O σ H τ Q ok h=>q O σ H τ Q ok ?_⟩;unfold y4 at h;cases ht:t τ with
 | ok d =>
  rw[ht]at h;refine fun v H' L s r k=>?_;rw[jYa]at h
  by_cases hi:d.imm=true
  ·rw[jNk hi]at h;have:=Rep.imm d v L r hi;subst this;exact h v H' [] s r RcOk.nil
  ·rw[jPa hi]at h;exact h.elim
 | err n=>rw[ht]at h;exact h
 | bad=>rw[ht]at h;exact h
theorem post.bind {K:jJa}{O:Addr->Prop}{H:Hp}{Q Q':VK}{r:R D}{f:D->R D}(h:post K E O c H Q (r.bind f))(hf:∀d,r=.ok d->post K E O c H Q (f d)->∀v H' L,Same H H'->Rep K H' d v L->RcOk ca O H L->Q' v H'):post K E O ca H Q' r:=by
 cases r with
 | ok d=>exact hf d rfl h
 | err n=>exact h
 | bad=>exact h
def zZ:MA X E Γ [] zf .fresh:=⟨fun τ ds h=>by cases h;rfl,z3d,uU,fun O σ H τ Q ok h=>h [] H [] (Same.refl H) Reps.nil RcOk.nil⟩
def RcOk.append {K:jJa}{O:Addr->Prop}{H H1:Hp}{d:D}{v:V}{L1 L2:List Addr}(dom:∀a,O a->H a≠none)(s:Same H H1)(r:Rep K H1 d v L1)(h1:RcOk ca O H L1)(h2:RcOk cb O H1 L2):RcOk (Rc.both ca cb) O H (L1++L2):=by
 have dom1:∀a,O a->H1 a≠none:=fun a h=>by rw[s.at (dom a h)];exact dom a h
 by_cases hf:ca=.fresh/\cb=.fresh
 ·obtain⟨rfl,rfl⟩:=hf;refine⟨tX.mpr ⟨h1.1,h2.1,fun a ha b hb z=>?_⟩,fun a ha=>?_⟩
  ·subst z;exact r.there ha (h2.2 a hb)
  ·rcases tS.mp ha with z|z
   ·exact h1.2 a z
   ·exact s.non (h2.2 a z)
 ·have key:ca≠.bor->cb≠.bor->∀a∈L1++L2,¬O a:=fun n1 n2 a ha=>by
   rcases tS.mp ha with z|z
   ·exact h1.shr dom n1 a z
   ·exact h2.shr dom1 n2 a z
  cases ca<;>cases cb<;>first|exact absurd ⟨rfl,rfl⟩ hf|trivial|exact key (by simp) (by simp)
def zb (h:ME X E Γ e t ca)(r:MA X E Γ es u cb)(hs:autoParam (jNc (e::es) X.env=(false,eval e X.env)::jNc es X.env) au3._auto_1):MA X E Γ (e::es) (z9 t u) (Rc.both ca cb):=by
 obtain⟨te,p1,q1⟩:=h;obtain⟨hl,ta,p2,q2⟩:=r;refine⟨fun τ ds h=>?_,JO te ta,wR p1 p2 hs,fun O σ H τ Q ok h=>?_⟩
 ·unfold z9 at h;cases h1:t τ with
  | ok d =>
   rw[h1,jYa]at h;cases h2:u τ with
   | ok xs =>
    rw[h2,jYa]at h;cases h;rw[tR,tR,hl τ xs h2]
   | err n=>rw[h2]at h;cases h
   | bad=>rw[h2]at h;cases h
  | err n=>rw[h1]at h;cases h
  | bad=>rw[h1]at h;cases h
 ·unfold z9 at h;refine q1 O σ H τ _ ok ?_;cases h1:t τ with
  | ok d =>
   rw[h1,jYa]at h;refine fun v H1 L1 s1 r1 k1=>q2 O σ H1 τ _ (ok.same s1) ?_;cases h2:u τ with
   | ok xs =>
    rw[h2,jYa]at h;exact fun vs H2 L2 s2 r2 k2=>h (v::vs) H2 (L1++L2) (s1.trans s2) (Reps.cons (r1.same s2) r2) (RcOk.append ok.dom s1 r1 k1 k2)
   | err n=>rw[h2]at h;exact fun C H' e s'=>h C H' e (s1.trans s')
   | bad=>rw[h2]at h;exact h
  | err n=>rw[h1]at h;exact h
  | bad=>rw[h1]at h;exact h
def zO {x1}(h:MA X E Γ es u c)(hz:autoParam (es.length<=1000) au1._auto_1):ME X E Γ (.Tuple es x1 pos) (eL (fun ds=>.ok (.tup ds)) u) c:=by
 obtain⟨hl,ta,p,q⟩:=h;refine⟨z3D ta,Qb p,fun O σ H τ Q ok h=>q O σ H τ _ ok ?_⟩;unfold eL at h;have hs:jNb=16777216:=jMc;cases hu:u τ with
 | ok ds =>
  rw[hu,jYa]at h;refine fun vs H1 L s r k=>⟨by rw[r.length,hl τ ds hu];lia,fun p hp=>?_⟩
  refine h _ _ L (s.trans (Same.new hp)) ⟨p,vs,rfl,SqT.of zG,r.same (Same.new hp)⟩ k
 | err n=>rw[hu]at h;exact h
 | bad=>rw[hu]at h;exact h
def zz (h:MA X E Γ es u c)(hz:autoParam (es.length<=1000) au1._auto_1):ME X E Γ (.List es pos) (eL (fun ds=>.ok (.lst ds)) u) c:=by
 obtain⟨hl,ta,p,q⟩:=h;refine⟨z5q ta,z36 p,fun O σ H τ Q ok h=>q O σ H τ _ ok ?_⟩;unfold eL at h;have hs:jNb=16777216:=jMc;cases hu:u τ with
 | ok ds =>
  rw[hu,jYa]at h;refine fun vs H1 L s r k=>⟨by rw[r.length,hl τ ds hu];lia,fun p hp=>?_⟩
  refine h _ _ (p::L) (s.trans (Same.new hp)) ⟨p,vs,L,rfl,zG,rfl,r.same (Same.new hp)⟩ ?_;have np:H p=none:=s.non hp;cases c with
  | fresh =>
   refine⟨sF.mpr ⟨fun z=>r.there z hp,k.1⟩,fun a ha=>?_⟩;rcases tK.mp ha with z|z
   ·rw[z];exact np
   ·exact k.2 a z
  | shr =>
   intro a ha;rcases tK.mp ha with z|z
   ·rw[z];exact fun o=>ok.dom p o np
   ·exact k a z
  | bor=>trivial
 | err n=>rw[hu]at h;exact h
 | bad=>rw[hu]at h;exact h
def yx (h:ME X E Γ e t c)(he:autoParam (∀whole,isTrue e X.env whole=(do let v <-whole;standAt e.pos;holding [v] (truthy v))) au2._auto_1):MT X E Γ e (zm t):=by
 obtain⟨te,p,q⟩:=h;refine⟨tB te,z2l p he,fun O σ H τ Q ok h=>q O σ H τ _ ok ?_⟩;unfold zm at h;cases ht:t τ with
 | ok d =>
  rw[ht,jYa]at h;refine fun v H' L s r _=>?_;cases d with
  | bl k=>exact⟨k,r.1,h H' s⟩
  | _=>exact h.elim
 | err n=>rw[ht]at h;exact h
 | bad=>rw[ht]at h;exact h
variable {u v:Tn->R Bool}{rest:List Expr}
def wI (h:MT X E Γ a u):MT X E Γ (.UnaryOp .Not a pos) (qd u):=by
 obtain⟨te,p,q⟩:=h;refine⟨z6p te,z2S p,fun O σ H τ Q ok h=>q O σ H τ _ ok ?_⟩;unfold qd at h;cases ht:u τ with
 | ok d=>rw[ht,jYa]at h;exact h
 | err n=>rw[ht]at h;exact h
 | bad=>rw[ht]at h;exact h
def ug (h:MT X E Γ a u):MW X E Γ (.BoolOp .And [a] pos) u:=by
 obtain⟨te,p,q⟩:=h;exact⟨te,z09 p,q⟩
def vx (h:MT X E Γ a u):MW X E Γ (.BoolOp .Or [a] pos) u:=by
 obtain⟨te,p,q⟩:=h;exact⟨te,z2N p,q⟩
def qU (h:MT X E Γ a u)(r:MW X E Γ (.BoolOp .And (b::rest) pos) v):MW X E Γ (.BoolOp .And (a::b::rest) pos) (Xs u v):=by
 obtain⟨te,p,q⟩:=h;obtain⟨te',p',q'⟩:=r;refine⟨z4Q te te',z3C p p',fun O σ H τ Q ok h=>q O σ H τ _ ok ?_⟩;unfold Xs at h;cases ht:u τ with
 | ok d =>
  rw[ht,jYa]at h;refine fun H1 s1=>?_;cases d with
  | true=>rw[jNk rfl]at h ⊢;exact q' O σ H1 τ Q (ok.same s1) (h.same s1)
  | false=>rw[jPa tP]at h ⊢;exact h H1 s1
 | err n=>rw[ht]at h;exact h
 | bad=>rw[ht]at h;exact h
def uB (h:MT X E Γ a u)(r:MW X E Γ (.BoolOp .Or (b::rest) pos) v):MW X E Γ (.BoolOp .Or (a::b::rest) pos) (bOr u v):=by
 obtain⟨te,p,q⟩:=h;obtain⟨te',p',q'⟩:=r;refine⟨tOr te te',z5o p p',fun O σ H τ Q ok h=>q O σ H τ _ ok ?_⟩;unfold bOr at h;cases ht:u τ with
 | ok d =>
  rw[ht,jYa]at h;refine fun H1 s1=>?_;cases d with
  | true=>rw[jNk rfl]at h ⊢;exact h H1 s1
  | false=>rw[jPa tP]at h ⊢;exact q' O σ H1 τ Q (ok.same s1) (h.same s1)
 | err n=>rw[ht]at h;exact h
 | bad=>rw[ht]at h;exact h
def Ze {op}(h:ME X E Γ a t c):ME X E Γ (.BoolOp op [a] pos) t c:=by
 obtain⟨te,p,q⟩:=h;exact⟨te,z2W p,q⟩
def Xz {K:jJa}{O:Addr->Prop}{H:Hp}{Q:VK}{d:D}{f:Bool->R D}(h:post K E O c H Q ((asB d).bind f)){v:V}{H':Hp}{L:List Addr}(r:Rep K H' d v L):∃k,v=.bl k/\d=.bl k/\post K E O c H Q (f k):=by
 cases d with
 | bl k=>exact⟨k,r.1,rfl,h⟩
 | _=>exact h.elim
def qV (ha:ME X E Γ a ta ca)(hb:ME X E Γ (.BoolOp .And (b::rest) pos) tb c):ME X E Γ (.BoolOp .And (a::b::rest) pos) (Wj ta tb) c:=by
 obtain⟨te,p,q⟩:=ha;obtain⟨te',p',q'⟩:=hb;refine⟨z1z te te',z2f p p',fun O σ H τ Q ok h=>q O σ H τ _ ok (post.bind h fun d _ h v H1 L s r _=>?_)⟩;obtain⟨k,e1,e2,h⟩:=Xz h r;refine⟨k,e1,?_⟩;cases k with
 | true=>rw[jNk rfl]at h ⊢;exact q' O σ H1 τ Q (ok.same s) (h.same s)
 | false=>rw[jPa tP]at h ⊢;exact h _ H1 [] s ⟨rfl,rfl⟩ RcOk.nil
def uR (hk:MT X E Γ k u)(ha:ME X E Γ a ta c)(hb:ME X E Γ b tb c):ME X E Γ (.IfExp k a b pos) (eIf u ta tb) c:=by
 obtain⟨te,p,q⟩:=hk;obtain⟨te1,p1,q1⟩:=ha;obtain⟨te2,p2,q2⟩:=hb;refine⟨tIf te te1 te2,QC p p1 p2,fun O σ H τ Q ok h=>q O σ H τ _ ok ?_⟩;unfold eIf at h;cases ht:u τ with
 | ok d =>
  rw[ht,jYa]at h;refine fun H1 s1=>?_;cases d with
  | true=>rw[jNk rfl]at h ⊢;exact q1 O σ H1 τ Q (ok.same s1) (h.same s1)
  | false=>rw[jPa tP]at h ⊢;exact q2 O σ H1 τ Q (ok.same s1) (h.same s1)
 | err n=>rw[ht]at h;exact h
 | bad=>rw[ht]at h;exact h
def OpB (K:jJa)(r:R2)(g:D->D->R D):Prop:=
 ∀H x y dx dy Lx Ly (Q:VK),Rep K H dx x Lx->Rep K H dy y Ly->(∃d,g dx dy=.ok d/\∀v H' L,Same H H'->Rep K H' d v L->L.Nodup->(∀a∈L,H a=none)->Q v H')->r x y H Q
def xn (g:D->D->R D):Prop:=∀x y n,g x y≠.err n
def YJ {r:R2}{g:D->D->R D}{te te':TE}(hB:OpB X.K r g)(hn:xn g)(q:∀O σ H τ Q,EOk X.K Γ O H σ τ->post X.K E O ca H Q (ta τ)->te σ H Q)(q':∀O σ H τ Q,EOk X.K Γ O H σ τ->post X.K E O cb H Q (tb τ)->te' σ H Q)
  {O:Addr->Prop} {σ:St} {H:Hp} {τ:Tn} {Q:VK} (ok:EOk X.K Γ O H σ τ) (h:post X.K E O .fresh H Q (zd g ta tb τ)):tOp r te te' σ H Q:=by
 unfold zd at h;refine q O σ H τ _ ok (post.bind h fun dx _ h x H1 Lx s1 rx _=>q' O σ H1 τ _ (ok.same s1) (post.bind (h.same s1) fun dy _ h y H2 Ly s2 ry _=>?_));cases hg:g dx dy with
 | ok d =>
  rw[hg]at h;exact hB H2 x y dx dy Lx Ly Q (rx.same s2) ry ⟨d,hg,fun v H' L s r n1 n2=>h v H' L (s2.trans s) r ⟨n1,fun a ha=>s2.non (n2 a ha)⟩⟩
 | err n=>exact absurd hg (hn _ _ _)
 | bad=>rw[hg]at h;exact h.elim
def Wd {op:Operator}{r:R2}{g:D->D->R D}(ho:OpR X (binaryOp op) r)(hB:OpB X.K r g)(hn:xn g)(ha:ME X E Γ a ta ca)(hb:ME X E Γ b tb cb):ME X E Γ (.BinOp a op b pos) (zd g ta tb) .fresh:=by
 obtain⟨te,p,q⟩:=ha;obtain⟨te',p',q'⟩:=hb;exact⟨_,z4E ho p p',fun O σ H τ Q ok h=>YJ hB hn q q' ok h⟩
def wb {op:CmpOp}{r:R2}{g:D->D->R D}(ho:OpR X (jMi op) r)(hB:OpB X.K r g)(hn:xn g)(ha:ME X E Γ a ta ca)(hb:ME X E Γ b tb cb)(hm:behindInMarks op b=false):ME X E Γ (.Compare a [op] [b] pos) (zd g ta tb) .fresh:=by
 obtain⟨te,p,q⟩:=ha;obtain⟨te',p',q'⟩:=hb;exact⟨_,z04 ho p p' hm,fun O σ H τ Q ok h=>YJ hB hn q q' ok h⟩
def qR {K:jJa}{O:Addr->Prop}{H:Hp}{Q:Bool->Hp->Prop}{r:R D}(h:postB K E H Q (r.bind asB)):post K E O c H (fun x H'=>∃k,x=.bl k/\Q k H') r:=by
 cases r with
 | ok d =>
  refine fun v H' L s r _=>?_;cases d with
  | bl k=>exact⟨k,r.1,h H' s⟩
  | _=>exact h.elim
 | err n=>exact h
 | bad=>exact h
def zW {op:CmpOp}{r:R2}{g:D->D->R D}(ho:OpR X (jMi op) r)(hB:OpB X.K r g)(hn:xn g)(ha:ME X E Γ a ta ca)(hb:ME X E Γ b tb cb)(hm:behindInMarks op b=false):MT X E Γ (.Compare a [op] [b] pos) (zm (zd g ta tb)):=by
 obtain⟨te,p,q⟩:=ha;obtain⟨te',p',q'⟩:=hb;exact⟨_,z1r ho p p' hm,fun O σ H τ Q ok h=>YJ (O:=O) hB hn q q' ok (qR h)⟩
def Kr {c':Expr}{cc:Rc}{r r':R2}{g g':D->D->R D}{te te' te2:TE}(hB:OpB X.K r g)(hn:xn g)(hB':OpB X.K r' g')(hn':xn g')(q:∀O σ H τ Q,EOk X.K Γ O H σ τ->post X.K E O ca H Q (ta τ)->te σ H Q)(q':∀O σ H τ Q,EOk X.K Γ O H σ τ->post X.K E O cb H Q (tb τ)->te' σ H Q)
  (q2:∀O σ H τ Q,EOk X.K Γ O H σ τ->post X.K E O cc H Q (tc τ)->te2 σ H Q) {O:Addr->Prop} {σ:St} {H:Hp} {τ:Tn} {Q:VK} (ok:EOk X.K Γ O H σ τ) (h:post X.K E O .fresh H Q (Z5 g g' ta tb tc τ)):K4 r r' te te' te2 σ H Q:=by
 unfold Z5 at h;refine q O σ H τ _ ok (post.bind h fun dx _ h x H1 Lx s1 rx _=>q' O σ H1 τ _ (ok.same s1) (post.bind (h.same s1) fun dy _ h y H2 Ly s2 ry _=>?_));cases hg:g dx dy with
 | ok d =>
  rw[hg,jYa]at h;refine hB H2 x y dx dy Lx Ly _ (rx.same s2) ry ⟨d,hg,fun z H3 L s3 r3 n1 n2=>?_⟩;obtain⟨k,e1,e2,h⟩:=Xz (h.same s2) r3;refine⟨k,e1,?_⟩;cases k with
  | true =>
   rw[jNk rfl]at h ⊢;have ok3:=((ok.same s1).same s2).same s3;refine q2 O σ H3 τ _ ok3 (post.bind (h.same s3) fun dw _ h w H4 Lw s4 rw4 _=>?_);cases hg':g' dy dw with
   | ok d' =>
    rw[hg']at h;exact hB' H4 y w dy dw Ly Lw Q ((ry.same s3).same s4) rw4 ⟨d',hg',fun v H' L s r n1 n2=>h v H' L (s4.trans s) r ⟨n1,fun a ha=>s4.non (n2 a ha)⟩⟩
   | err n=>exact absurd hg' (hn' _ _ _)
   | bad=>rw[hg']at h;exact h.elim
  | false=>rw[jPa tP]at h ⊢;exact h _ H3 [] s3 ⟨rfl,rfl⟩ RcOk.nil
 | err n=>exact absurd hg (hn _ _ _)
 | bad=>rw[hg]at h;exact h.elim
def Qw {op op':CmpOp}{c':Expr}{cc:Rc}{r r':R2}{g g':D->D->R D}(ho:OpR X (jMi op) r)(hB:OpB X.K r g)(hn:xn g)(ho':OpR X (jMi op') r')(hB':OpB X.K r' g')(hn':xn g')
  (ha:ME X E Γ a ta ca) (hb:ME X E Γ b tb cb) (hc:ME X E Γ c' tc cc) (hm:autoParam (lastMarks [op,op'] [b,c']=false) au4._auto_1):MT X E Γ (.Compare a [op,op'] [b,c'] pos) (zm (Z5 g g' ta tb tc)):=by
 obtain⟨te,p,q⟩:=ha;obtain⟨te',p',q'⟩:=hb;obtain⟨te2,p2,q2⟩:=hc;exact⟨_,Qj ho ho' p p' p2 hm,fun O σ H τ Q ok h=>Kr (c':=c') (O:=O) hB hn hB' hn' q q' q2 ok (qR h)⟩
def ClB (K:jJa)(r:List V->Hp->VK->Prop)(g:List D->R D):Prop:=
 ∀H xs ds L (Q:VK),Reps K H ds xs L->(∃d,g ds=.ok d/\∀v H' L',Same H H'->Rep K H' d v L'->L'.Nodup->(∀a∈L',H a=none)->Q v H')->r xs H Q
def yX (g:List D->R D):Prop:=∀ds n,g ds≠.err n
variable {uL:Tn->R (List D)}{es:List Expr}
def z1L {r:List V->Hp->VK->Prop}{g:List D->R D}{ta':TA}(hB:ClB X.K r g)(hn:yX g)(q:∀O σ H τ Q,EOk X.K Γ O H σ τ->QE X.K E O ca H Q (uL τ)->ta' σ H Q)
  {O:Addr->Prop} {σ:St} {H:Hp} {τ:Tn} {Q:VK} (ok:EOk X.K Γ O H σ τ) (h:post X.K E O .fresh H Q (eL g uL τ)):tCB r ta' σ H Q:=by
 refine q O σ H τ _ ok ?_;unfold eL at h;cases hu:uL τ with
 | ok ds =>
  rw[hu,jYa]at h;refine fun vs H1 L s1 r1 _=>?_;cases hg:g ds with
  | ok d =>
   rw[hg]at h;exact hB H1 vs ds L Q r1 ⟨d,hg,fun v H' L s r n1 n2=>h v H' L (s1.trans s) r ⟨n1,fun a ha=>s1.non (n2 a ha)⟩⟩
  | err n=>exact absurd hg (hn _ _)
  | bad=>rw[hg]at h;exact h.elim
 | err n=>rw[hu]at h;exact h
 | bad=>rw[hu]at h;exact h
variable {x:Str}{id T:String}{p:Pos}
def zU {r:List V->Hp->VK->Prop}{g:List D->R D}(hc:CallR X (.builtin id) r)(hB:ClB X.K r g)(hn:yX g)(hg:Gl X x)(hm:X.mg x=none)(hv:jKk x=some (.builtin id))(ha:MA X E Γ (e::es) uL ca)(hx:autoParam (x≠"__name__") au1._auto_1)(hdb:autoParam ((x==("__debug__":Str))=false) au1._auto_1)
  (he:autoParam (jNc (e::es) X.env=(false,eval e X.env)::jNc es X.env) au3._auto_1) (hpl:autoParam ((jNh pos (jNc es X.env)).any (·.1)=false) au3._auto_1):ME X E Γ (.Call (.Name x p) (e::es) [] pos) (eL g uL) .fresh:=by
 obtain⟨_,ta',p',q⟩:=ha;exact⟨_,Wh hc hg hm hv p' hx hdb he hpl,fun O σ H τ Q ok h=>z1L hB hn q ok h⟩
def yr {r:List V->Hp->VK->Prop}{g:List D->R D}(hc:CallR X (.type T) r)(hB:ClB X.K r g)(hn:yX g)(hg:Gl X x)(hm:X.mg x=none)(hv:jKk x=some (.type T))(ha:MA X E Γ (e::es) uL ca)(hx:autoParam (x≠"__name__") au1._auto_1)(hdb:autoParam ((x==("__debug__":Str))=false) au1._auto_1)
  (he:autoParam (jNc (e::es) X.env=(false,eval e X.env)::jNc es X.env) au3._auto_1) (hpl:autoParam ((jNh pos (jNc es X.env)).any (·.1)=false) au3._auto_1):ME X E Γ (.Call (.Name x p) (e::es) [] pos) (eL g uL) .fresh:=by
 obtain⟨_,ta',p',q⟩:=ha;exact⟨_,Uy hc hg hm hv p' hx hdb he hpl,fun O σ H τ Q ok h=>z1L hB hn q ok h⟩
end
def wpE (K:jJa)(E:XK)(Γ:List Cl)(t:Tn->R D)(c:Rc):TE:=fun σ H Q=>∃O τ,EOk K Γ O H σ τ/\post K E O c H Q (t τ)
def wpT (K:jJa)(E:XK)(Γ:List Cl)(t:Tn->R Bool):TT:=fun σ H Q=>∃O τ,EOk K Γ O H σ τ/\postB K E H Q (t τ)
theorem ME.pe (h:ME X E Γ e t c):PE X e (wpE X.K E Γ t c):=by
 obtain⟨te,p,q⟩:=h;rintro jNj s σ H Q I ⟨O,τ,ok,z⟩;exact p jNj s σ H Q I (q O σ H τ Q ok z)
structure SOk (K:jJa)(Γ:List Cl)(B H:Hp)(σ:St)(τ:Tn)(T:List Addr):Prop where
 ext:Same B H
 lσ:σ.length=Γ.length
 lτ:τ.length=Γ.length
 ex:∃Ls:Nat->List Addr,
  (∀i c,Γ[i]?=some c->c≠.dead->∃v d,σ[i]?=some (some v)/\τ[i]?=some (some d)/\Rep K H d v (Ls i)) /\
  (∀i,Γ[i]?=some .own->(Ls i).Nodup/\∀a∈Ls i,B a=none) /\
  (∀i j c,i≠j->Γ[i]?=some .own->Γ[j]?=some c->c≠.dead->∀a∈Ls i,a∉Ls j) /\
  T.Nodup/\(∀a∈T,B a=none/\H a≠none)/\(∀i c,Γ[i]?=some c->c≠.dead->∀a∈Ls i,a∉T)
inductive Fl where
 | nx (τ:Tn) | rt (d:D) | bk (τ:Tn) | ct (τ:Tn)
def z6m (K:jJa)(E:XK)(B:Hp)(Γ':List Cl)(σ:St)(τ:Tn)(T:List Addr)(H:Hp)(Q:VK):R D->Prop
 | .ok d=>∀v H' L,Same H H'->Rep K H' d v L->SOk K Γ' B H' σ τ (L++T)->Q v H'
 | .err n=>∀C H',ErrC K n C->Same B H'->E (.ref C) none H'
 | .bad=>False
def z2A (K:jJa)(E:XK)(B:Hp)(Γ':List Cl)(σ:St)(τ:Tn)(T:List Addr)(H:Hp)(Q:List V->Hp->Prop):R (List D)->Prop
 | .ok ds=>∀vs H' L,Same H H'->Reps K H' ds vs L->SOk K Γ' B H' σ τ (L++T)->Q vs H'
 | .err n=>∀C H',ErrC K n C->Same B H'->E (.ref C) none H'
 | .bad=>False
def uw (K:jJa)(E:XK)(B:Hp)(Γl Γ':List Cl)(Z:Ends):R Fl->Prop
 | .ok (.nx τ')=>∀σ' H',SOk K Γ' B H' σ' τ' []->Z.nx σ' H'
 | .ok (.rt d)=>∀v H' L,Same B H'->Rep K H' d v L->L.Nodup->(∀a∈L,B a=none)->Z.rt v H'
 | .ok (.bk τ')=>∀σ' H',SOk K Γl B H' σ' τ' []->Z.bk σ' H'
 | .ok (.ct τ')=>∀σ' H',SOk K Γl B H' σ' τ' []->Z.ct σ' H'
 | .err n=>∀C H',ErrC K n C->Same B H'->E (.ref C) none H'
 | .bad=>False
def MV (X:Cx)(E:XK)(Γ:List Cl)(e:Expr)(t:Tn->R D)(Γ':List Cl):Prop:=
 ∃te,PE X e te/\∀B σ H τ T Q,SOk X.K Γ B H σ τ T->z6m X.K E B Γ' σ τ T H Q (t τ)->te σ H Q
def MVs (X:Cx)(E:XK)(Γ:List Cl)(es:List Expr)(t:Tn->R (List D))(Γ':List Cl):Prop:=
 (∀τ ds,t τ=.ok ds->ds.length=es.length)/\∃ta,PA X es ta/\∀B σ H τ T Q,SOk X.K Γ B H σ τ T->z2A X.K E B Γ' σ τ T H Q (t τ)->ta σ H Q
def MS (X:Cx)(E:XK)(Γl Γ:List Cl)(s:Stmt)(t:Tn->R Fl)(Γ':List Cl):Prop:=
 ∃ts,PS X s ts/\∀B σ H τ Z,SOk X.K Γ B H σ τ []->uw X.K E B Γl Γ' Z (t τ)->ts Z σ H
def MSs (X:Cx)(E:XK)(Γl Γ:List Cl)(s:List Stmt)(t:Tn->R Fl)(Γ':List Cl):Prop:=
 ∃ts,PSs X s ts/\∀B σ H τ Z,SOk X.K Γ B H σ τ []->uw X.K E B Γl Γ' Z (t τ)->ts Z σ H
section
variable {K:jJa}{Γ Γ':List Cl}{B H H1:Hp}{σ:St}{τ:Tn}{T:List Addr}
theorem SOk.eok (h:SOk K Γ B H σ τ T):∃O:Addr->Prop,EOk K Γ O H σ τ/\(∀L:List Addr,(∀a∈L,¬O a)->∃Ls:Nat->List Addr,
  (∀i c,Γ[i]?=some c->c≠.dead->∃v d,σ[i]?=some (some v)/\τ[i]?=some (some d)/\Rep K H d v (Ls i)) /\
  (∀i,Γ[i]?=some .own->(Ls i).Nodup/\∀a∈Ls i,B a=none) /\
  (∀i j c,i≠j->Γ[i]?=some .own->Γ[j]?=some c->c≠.dead->∀a∈Ls i,a∉Ls j) /\
  T.Nodup/\(∀a∈T,B a=none/\H a≠none)/\(∀i c,Γ[i]?=some c->c≠.dead->∀a∈Ls i,a∉T)/\∀i,Γ[i]?=some .own->∀a∈Ls i,a∉L):=by
 obtain⟨Ls,h1,h2,h3,h4,h5,h6⟩:=h.ex;refine⟨fun a=>∃i,Γ[i]?=some .own/\a∈Ls i,⟨fun a ⟨i,e,ha⟩=>?_,fun i c e hc=>?_⟩,fun L hL=>⟨Ls,h1,h2,h3,h4,h5,h6,fun i e a ha hm=>hL a hm ⟨i,e,ha⟩⟩⟩
 ·obtain⟨v,d,_,_,r⟩:=h1 i _ e (by simp);exact r.there ha
 ·obtain⟨v,d,e1,e2,r⟩:=h1 i c e hc;refine⟨v,d,Ls i,e1,e2,r,fun z a ha ⟨j,ej,hj⟩=>?_⟩;subst z;have hij:j≠i:=fun z=>by subst z;rw[e]at ej;cases ej
  exact h3 j i _ hij ej e (by simp) a hj ha
theorem SOk.same (h:SOk K Γ B H σ τ T)(s:Same H H1):SOk K Γ B H1 σ τ T:=by
 obtain⟨Ls,h1,h2,h3,h4,h5,h6⟩:=h.ex;refine⟨h.ext.trans s,h.lσ,h.lτ,Ls,fun i c e hc=>?_,h2,h3,h4,fun a ha=>⟨(h5 a ha).1,by rw[s.at (h5 a ha).2];exact (h5 a ha).2⟩,h6⟩;obtain⟨v,d,e1,e2,r⟩:=h1 i c e hc;exact⟨v,d,e1,e2,r.same s⟩
def SOk.aside {L:List Addr}(h:SOk K Γ B H σ τ T)(s:Same H H1)(r:∀a∈L,H1 a≠none)(n1:L.Nodup)(n2:∀a∈L,H a=none):SOk K Γ B H1 σ τ (L++T):=by
 obtain⟨Ls,h1,h2,h3,h4,h5,h6⟩:=h.ex;refine⟨h.ext.trans s,h.lσ,h.lτ,Ls,fun i c e hc=>?_,h2,h3,tX.mpr ⟨n1,h4,fun a ha b hb z=>?_⟩,fun a ha=>?_,fun i c e hc a ha hm=>?_⟩
 ·obtain⟨v,d,e1,e2,r⟩:=h1 i c e hc;exact⟨v,d,e1,e2,r.same s⟩
 ·subst z;exact (h5 a hb).2 (n2 a ha)
 ·rcases tS.mp ha with z|z
  ·exact⟨h.ext.non (n2 a z),r a z⟩
  ·exact⟨(h5 a z).1,by rw[s.at (h5 a z).2];exact (h5 a z).2⟩
 ·obtain⟨v,d,e1,e2,r'⟩:=h1 i c e hc;rcases tS.mp hm with z|z
  ·exact r'.there ha (n2 a z)
  ·exact h6 i c e hc a ha z
theorem SOk.perm {T':List Addr}(h:SOk K Γ B H σ τ T)(p:T.Perm T'):SOk K Γ B H σ τ T':=by
 obtain⟨Ls,h1,h2,h3,h4,h5,h6⟩:=h.ex;exact⟨h.ext,h.lσ,h.lτ,Ls,h1,h2,h3,p.nodup_iff.mp h4,fun a ha=>h5 a (p.mem_iff.mpr ha),fun i c e hc a ha hm=>h6 i c e hc a ha (p.mem_iff.mpr hm)⟩
def wk1:Cl->Cl->Bool
 | _,.dead=>true
 | .own,.own=>true
 | .own,.shr=>true
 | .shr,.shr=>true
 | _,_=>false
def wk:List Cl->List Cl->Bool
 | [],[]=>true
 | a::r,b::q=>wk1 a b&&wk r q
 | _,_=>false
theorem WY:∀ {Γ Γ':List Cl},wk Γ Γ'=true->Γ.length=Γ'.length
 | [],[],_=>rfl
 | a::r,b::q,h=>by
  have h:(wk1 a b&&wk r q)=true:=h;rw[sG]at h;rw[tR,tR,WY h.2]
theorem z1D:∀ {Γ Γ':List Cl} {i:Nat} {c:Cl},wk Γ Γ'=true->Γ'[i]?=some c->∃k,Γ[i]?=some k/\wk1 k c=true
 | [],[],_,_,_,e=>by simp at e
 | a::r,b::q,0,c,h,e=>by
  have h:(wk1 a b&&wk r q)=true:=h;rw[sG]at h;simp at e;subst e;exact⟨a,rfl,h.1⟩
 | a::r,b::q,i+1,c,h,e=>by
  have h:(wk1 a b&&wk r q)=true:=h;rw[sG]at h;obtain⟨k,h1,h2⟩:=z1D (i:=i) (c:=c) h.2 (by simpa using e);exact⟨k,by simpa using h1,h2⟩
theorem SOk.weak (h:SOk K Γ B H σ τ T)(w:wk Γ Γ'=true):SOk K Γ' B H σ τ T:=by
 obtain⟨Ls,h1,h2,h3,h4,h5,h6⟩:=h.ex;have live:∀(i:Nat) (c:Cl),Γ'[i]?=some c->c≠Cl.dead->∃k,Γ[i]?=some k/\k≠Cl.dead/\(c=Cl.own->k=Cl.own):=fun i c e hc=>by
  obtain⟨k,e',w'⟩:=z1D w e;refine⟨k,e',fun z=>?_,fun z=>?_⟩
  ·subst z;cases c<;>first|exact absurd rfl hc|cases w'
  ·subst z;cases k<;>first|rfl|cases w'
 refine⟨h.ext,by rw[<-WY w];exact h.lσ,by rw[<-WY w];exact h.lτ,Ls,fun i c e hc=>?_,fun i e=>?_,fun i j c hij ei ej hc=>?_,h4,h5,fun i c e hc=>?_⟩
 ·obtain⟨k,e',n,_⟩:=live i c e hc;exact h1 i k e' n
 ·obtain⟨k,e',n,o⟩:=live i _ e (by simp);rw[o rfl]at e';exact h2 i e'
 ·obtain⟨k,e',n,o⟩:=live i _ ei (by simp);obtain⟨k2,e2,n2,_⟩:=live j c ej hc;rw[o rfl]at e';exact h3 i j k2 hij e' e2 n2
 ·obtain⟨k,e',n,_⟩:=live i c e hc;exact h6 i k e' n
theorem SOk.out {i:Nat}(h:SOk K Γ B H σ τ T)(e:Γ[i]?=some .own):∃v d L,σ[i]?=some (some v)/\τ[i]?=some (some d)/\Rep K H d v L/\SOk K (Γ.set i .dead) B H σ τ (L++T):=by
 obtain⟨Ls,h1,h2,h3,h4,h5,h6⟩:=h.ex;obtain⟨v,d,e1,e2,r⟩:=h1 i _ e (by simp);have hi:i<Γ.length:=(tJ.mp e).1;have at':∀(j:Nat) (c:Cl),(Γ.set i .dead)[j]?=some c->c≠.dead->j≠i/\Γ[j]?=some c:=fun j c ej hc=>by
  by_cases z:i=j
  ·subst z;rw[tZ hi]at ej;exact absurd (jYe ej).symm hc
  ·rw[tY z]at ej;exact⟨Ne.symm z,ej⟩
 refine⟨v,d,Ls i,e1,e2,r,⟨h.ext,by rw[sD];exact h.lσ,by rw[sD];exact h.lτ,Ls,fun j c ej hc=>h1 j c (at' j c ej hc).2 hc,fun j ej=>h2 j (at' j _ ej (by simp)).2,fun j k c hjk ej ek hc=>h3 j k c hjk (at' j _ ej (by simp)).2 (at' k c ek hc).2 hc,
  tX.mpr ⟨(h2 i e).1,h4,fun a ha b hb z=>?_⟩,fun a ha=>?_,fun j c ej hc a ha hm=>?_⟩⟩
 ·subst z;exact h6 i _ e (by simp) a ha hb
 ·rcases tS.mp ha with z|z
  ·exact⟨(h2 i e).2 a z,r.there z⟩
  ·exact h5 a z
 ·obtain⟨n,ej'⟩:=at' j c ej hc;rcases tS.mp hm with z|z
  ·exact h3 i j c (Ne.symm n) e ej' hc a z ha
  ·exact h6 j c ej' hc a ha z
def Vx (Ls:Nat->List Addr)(i:Nat)(L:List Addr):Nat->List Addr:=fun j=>if j=i then L else Ls j
def yg {Ls:Nat->List Addr}{i:Nat}:Vx Ls i L i=L:=jNk rfl
def VR {Ls:Nat->List Addr}{i j:Nat}(h:j=i):Vx Ls i L j=L:=jNk h
def y9 {Ls:Nat->List Addr}{i j:Nat}(h:j≠i):Vx Ls i L j=Ls j:=jPa h
theorem SOk.into {i:Nat}{d:D}{v:V}{L:List Addr}(h:SOk K Γ B H σ τ (L++T))(r:Rep K H d v L)(hi:i<Γ.length):SOk K (Γ.set i .own) B H (σ.set i (some v)) (τ.set i (some d)) T:=by
 obtain⟨Ls,h1,h2,h3,h4,h5,h6⟩:=h.ex;have hσ:i<σ.length:=by rw[h.lσ];exact hi
 have hτ:i<τ.length:=by rw[h.lτ];exact hi
 obtain⟨n1,n2,n3⟩:=tX.mp h4;have at':∀(j:Nat) (c:Cl),j≠i->(Γ.set i .own)[j]?=some c->Γ[j]?=some c:=fun j c hj e=>by rw[tY (Ne.symm hj)]at e;exact e
 refine⟨h.ext,by rw[sD,sD];exact h.lσ,by rw[sD,sD];exact h.lτ,Vx Ls i L,fun j c e hc=>?_,fun j e=>?_,fun j k c hjk ej ek hc a ha hm=>?_,n2,fun a ha=>h5 a (tD _ ha),fun j c e hc a ha hm=>?_⟩
 ·by_cases z:j=i
  ·subst z;refine⟨v,d,by rw[tZ hσ],by rw[tZ hτ],?_⟩;rw[yg];exact r
  ·obtain⟨v',d',e1,e2,r'⟩:=h1 j c (at' j c z e) hc;refine⟨v',d',by rw[tY (Ne.symm z)];exact e1,by rw[tY (Ne.symm z)];exact e2,?_⟩;rw[y9 z];exact r'
 ·by_cases z:j=i
  ·subst z;rw[yg];exact⟨n1,fun a ha=>(h5 a (tL _ ha)).1⟩
  ·rw[y9 z];exact h2 j (at' j _ z e)
 ·by_cases z:j=i
  ·subst z;rw[yg]at ha;rw[y9 (Ne.symm hjk)]at hm;exact h6 k c (at' k c (Ne.symm hjk) ek) hc a hm (tL _ ha)
  ·rw[y9 z]at ha
   by_cases z2:k=i
   ·subst z2;rw[yg]at hm;exact h6 j _ (at' j _ z ej) (by simp) a ha (tL _ hm)
   ·rw[y9 z2]at hm;exact h3 j k c hjk (at' j _ z ej) (at' k c z2 ek) hc a ha hm
 ·by_cases z:j=i
  ·subst z;rw[yg]at ha;exact n3 a ha a hm rfl
  ·rw[y9 z]at ha;exact h6 j c (at' j c z e) hc a ha (tD _ hm)
end
section
variable {K:jJa}{Γ Γ':List Cl}{B H H1:Hp}{σ:St}{τ:Tn}{T:List Addr}
def SOk.intoS {i:Nat}{d:D}{v:V}{L:List Addr}{Ls:Nat->List Addr}(e0:Same B H)(l1:σ.length=Γ.length)(l2:τ.length=Γ.length)
  (h1:∀i c,Γ[i]?=some c->c≠.dead->∃v d,σ[i]?=some (some v)/\τ[i]?=some (some d)/\Rep K H d v (Ls i)) (h2:∀i,Γ[i]?=some .own->(Ls i).Nodup/\∀a∈Ls i,B a=none)
  (h3:∀i j c,i≠j->Γ[i]?=some .own->Γ[j]?=some c->c≠.dead->∀a∈Ls i,a∉Ls j) (h7:∀i,Γ[i]?=some .own->∀a∈Ls i,a∉L) (r:Rep K H d v L) (hi:i<Γ.length):
  SOk K (Γ.set i .shr) B H (σ.set i (some v)) (τ.set i (some d)) []:=by
 have hσ:i<σ.length:=by rw[l1];exact hi
 have hτ:i<τ.length:=by rw[l2];exact hi
 have at':∀(j:Nat) (c:Cl),j≠i->(Γ.set i .shr)[j]?=some c->Γ[j]?=some c:=fun j c hj e=>by rw[tY (Ne.symm hj)]at e;exact e
 have nown:∀j:Nat,(Γ.set i .shr)[j]?=some .own->j≠i:=fun j e z=>by subst z;rw[tZ hi]at e;cases e
 refine⟨e0,by rw[sD,sD];exact l1,by rw[sD,sD];exact l2,Vx Ls i L,fun j c e hc=>?_,fun j e=>?_,fun j k c hjk ej ek hc a ha hm=>?_,rN,fun a ha=>(nomatch ha),fun j c e hc a ha hm=>(nomatch hm)⟩
 ·by_cases z:j=i
  ·subst z;refine⟨v,d,by rw[tZ hσ],by rw[tZ hτ],?_⟩;rw[yg];exact r
  ·obtain⟨v',d',e1,e2,r'⟩:=h1 j c (at' j c z e) hc;refine⟨v',d',by rw[tY (Ne.symm z)];exact e1,by rw[tY (Ne.symm z)];exact e2,?_⟩;rw[y9 z];exact r'
 ·have z:=nown j e;rw[y9 z];exact h2 j (at' j _ z e)
 ·have z:=nown j ej;rw[y9 z]at ha
  by_cases z2:k=i
  ·rw[VR z2]at hm;exact h7 j (at' j _ z ej) a ha hm
  ·rw[y9 z2]at hm;exact h3 j k c hjk (at' j _ z ej) (at' k c z2 ek) hc a ha hm
end
section
def zk (h:ME X E Γ e t .fresh):MV X E Γ e t Γ:=by
 obtain⟨te,p,q⟩:=h;refine⟨te,p,fun B σ H τ T Q ok h=>?_⟩;obtain⟨O,eo,_⟩:=ok.eok;refine q O σ H τ Q eo ?_;cases ht:t τ with
 | ok d =>
  rw[ht]at h;exact fun v H' L s r k=>h v H' L s r (ok.aside s (fun a ha=>r.there ha) k.1 k.2)
 | err n=>rw[ht]at h;exact fun C H' e s=>h C H' e (ok.ext.trans s)
 | bad=>rw[ht]at h;exact h
def KR {i:Nat}(hN:X.N[i]?=some x)(hk:Γ[i]?=some .own)(hv:Vis X.env.scope x)(hb:autoParam ((x==("__debug__":Str))=false) au1._auto_1)(hcd:autoParam ((x==("__classdict__":Str))=false) au1._auto_1):MV X E Γ (.Name x pos) (za i) (Γ.set i .dead):=by
 refine⟨z2O i,vq hN hv hb hcd,fun B σ H τ T Q ok h=>?_⟩;obtain⟨v,d,L,e1,e2,r,ok'⟩:=ok.out hk;unfold za at h;rw[e2]at h;exact⟨v,e1,h v H L (Same.refl H) r ok'⟩
def uh:MVs X E Γ [] zf Γ:=⟨fun τ ds h=>by cases h;rfl,z3d,uU,fun B σ H τ T Q ok h=>h [] H [] (Same.refl H) Reps.nil ok⟩
def yu (h:MV X E Γ e t Γ1)(r:MVs X E Γ1 es u Γ')(hs:autoParam (jNc (e::es) X.env=(false,eval e X.env)::jNc es X.env) au3._auto_1):MVs X E Γ (e::es) (z9 t u) Γ':=by
 obtain⟨te,p1,q1⟩:=h;obtain⟨hl,ta,p2,q2⟩:=r;refine⟨fun τ ds h=>?_,JO te ta,wR p1 p2 hs,fun B σ H τ T Q ok h=>?_⟩
 ·unfold z9 at h;cases h1:t τ with
  | ok d =>
   rw[h1,jYa]at h;cases h2:u τ with
   | ok xs =>
    rw[h2,jYa]at h;cases h;rw[tR,tR,hl τ xs h2]
   | err n=>rw[h2]at h;cases h
   | bad=>rw[h2]at h;cases h
  | err n=>rw[h1]at h;cases h
  | bad=>rw[h1]at h;cases h
 ·unfold z9 at h;refine q1 B σ H τ T _ ok ?_;cases h1:t τ with
  | ok d =>
   rw[h1,jYa]at h;refine fun v H1 L1 s1 r1 k1=>q2 B σ H1 τ (L1++T) _ k1 ?_;cases h2:u τ with
   | ok xs =>
    rw[h2,jYa]at h;refine fun vs H2 L2 s2 r2 k2=>h (v::vs) H2 (L1++L2) (s1.trans s2) (Reps.cons (r1.same s2) r2) (k2.perm ?_);rw[<-sS];exact List.Perm.append_right _ List.perm_append_comm
   | err n=>rw[h2]at h;exact h
   | bad=>rw[h2]at h;exact h
  | err n=>rw[h1]at h;exact h
  | bad=>rw[h1]at h;exact h
def qX {x1}(h:MVs X E Γ es u Γ')(hz:autoParam (es.length<=1000) au1._auto_1):MV X E Γ (.Tuple es x1 pos) (eL (fun ds=>.ok (.tup ds)) u) Γ':=by
 obtain⟨hl,ta,p,q⟩:=h;refine⟨z3D ta,Qb p,fun B σ H τ T Q ok h=>q B σ H τ T _ ok ?_⟩;unfold eL at h;have hs:jNb=16777216:=jMc;cases hu:u τ with
 | ok ds =>
  rw[hu,jYa]at h;refine fun vs H1 L s r k=>⟨by rw[r.length,hl τ ds hu];lia,fun p hp=>?_⟩
  exact h _ _ L (s.trans (Same.new hp)) ⟨p,vs,rfl,SqT.of zG,r.same (Same.new hp)⟩ (k.same (Same.new hp))
 | err n=>rw[hu]at h;exact h
 | bad=>rw[hu]at h;exact h
def zH:Tn->R Fl:=fun τ=>.ok (.nx τ)
def z4c:Tn->R Fl:=fun _=>.bad
def zh (a b:Tn->R Fl):Tn->R Fl:=fun τ=>(a τ).bind fun f=>match f with
 | .nx τ'=>b τ'
 | f=>.ok f
def U7 (t:Tn->R D):Tn->R Fl:=fun τ=>(t τ).bind fun _=>.ok (.nx τ)
def zx (t:Tn->R D):Tn->R Fl:=fun τ=>(t τ).bind fun d=>.ok (.rt d)
def zl (i:Nat)(t:Tn->R D):Tn->R Fl:=fun τ=>(t τ).bind fun d=>.ok (.nx (τ.set i (some d)))
def sIf (k:Tn->R Bool)(a b:Tn->R Fl):Tn->R Fl:=fun τ=>(k τ).bind fun x=>if x=true then a τ else b τ
def z3I:MS X E Γl Γ s z4c Γ':=⟨Qq,Qt,fun _ _ _ _ _ _ h=>h.elim⟩
def zo:MSs X E Γl Γ [] zH Γ:=⟨z1G,z06,fun B σ H τ Z ok h=>h σ H ok⟩
def zi (h:MS X E Γl Γ s t Γ'):MSs X E Γl Γ [s] t Γ':=by
 obtain⟨ts,p,q⟩:=h;exact⟨ts,jI p,q⟩
def ze (h:MS X E Γl Γ s t1 Γ1)(k:MSs X E Γl Γ1 r t2 Γ'):MSs X E Γl Γ (s::r) (zh t1 t2) Γ':=by
 obtain⟨ts,p,q⟩:=h;obtain⟨ts',p',q'⟩:=k;refine⟨z03 ts ts',JB p p',fun B σ H τ Z ok h=>q B σ H τ _ ok ?_⟩;unfold zh at h;cases ht:t1 τ with
 | ok f =>
  rw[ht,jYa]at h;cases f with
  | nx τ'=>exact fun σ' H' ok'=>q' B σ' H' τ' Z ok' h
  | rt d=>exact h
  | bk τ'=>exact h
  | ct τ'=>exact h
 | err n=>rw[ht]at h;exact h
 | bad=>rw[ht]at h;exact h
def Kk (h:MSs X E Γl Γ s t Γ1)(w:wk Γ1 Γ'=true):MSs X E Γl Γ s t Γ':=by
 obtain⟨ts,p,q⟩:=h;refine⟨ts,p,fun B σ H τ Z ok h=>q B σ H τ Z ok ?_⟩;cases ht:t τ with
 | ok f =>
  rw[ht]at h;cases f with
  | nx τ'=>exact fun σ' H' ok'=>h σ' H' (ok'.weak w)
  | rt d=>exact h
  | bk τ'=>exact h
  | ct τ'=>exact h
 | err n=>rw[ht]at h;exact h
 | bad=>rw[ht]at h;exact h
def vz (h:MS X E Γl Γ1 s t Γ')(w:wk Γ Γ1=true):MS X E Γl Γ s t Γ':=by
 obtain⟨ts,p,q⟩:=h;exact⟨ts,p,fun B σ H τ Z ok h=>q B σ H τ Z (ok.weak w) h⟩
def z0n (h:ME X E Γ e t c)(hs:autoParam (jMj e none pos.line X.env=pure false) au3._auto_1):MS X E Γl Γ (.Expr e pos) (U7 t) Γ:=by
 obtain⟨te,p,q⟩:=h;refine⟨z20 te,jJ p hs,fun B σ H τ Z ok h=>?_⟩;obtain⟨O,eo,_⟩:=ok.eok;refine q O σ H τ _ eo ?_;unfold U7 at h;cases ht:t τ with
 | ok d=>rw[ht,jYa]at h;exact fun v H' L s r k=>h σ H' (ok.same s)
 | err n=>rw[ht]at h;exact fun C H' e s=>h C H' e (ok.ext.trans s)
 | bad=>rw[ht]at h;exact h
def y6 (h:MV X E Γ e t Γ1):MS X E Γl Γ (.Return (some e) pos) (zx t) Γ':=by
 obtain⟨te,p,q⟩:=h;refine⟨z3G te,Vu p,fun B σ H τ Z ok h=>q B σ H τ [] _ ok ?_⟩;unfold zx at h;cases ht:t τ with
 | ok d =>
  rw[ht,jYa]at h;refine fun v H' L s r ok'=>?_;obtain⟨Ls,_,_,_,h4,h5,_⟩:=ok'.ex;rw[tQ]at h4 h5;exact h v H' L ok'.ext r h4 fun a ha=>(h5 a ha).1
 | err n=>rw[ht]at h;exact h
 | bad=>rw[ht]at h;exact h
def QS (w:wk Γ Γl=true):MS X E Γl Γ (.Break pos) (fun τ=>.ok (.bk τ)) Γ':=⟨JJ,QA,fun B σ H τ Z ok h=>h σ H (ok.weak w)⟩
def zJ {u:Tn->R Bool}(hk:MT X E Γ k u)(ha:MSs X E Γl Γ sa t1 Γ')(hb:MSs X E Γl Γ sb t2 Γ'):MS X E Γl Γ (.If k sa sb pos) (sIf u t1 t2) Γ':=by
 obtain⟨te,p,q⟩:=hk;obtain⟨ts1,p1,q1⟩:=ha;obtain⟨ts2,p2,q2⟩:=hb;refine⟨z1d te ts1 ts2,z5c p p1 p2,fun B σ H τ Z ok h=>?_⟩;obtain⟨O,eo,_⟩:=ok.eok;refine q O σ H τ _ eo ?_;unfold sIf at h;cases ht:u τ with
 | ok x =>
  rw[ht,jYa]at h;refine fun H1 s1=>?_;cases x with
  | true=>rw[jNk rfl]at h ⊢;exact q1 B σ H1 τ Z (ok.same s1) h
  | false=>rw[jPa tP]at h ⊢;exact q2 B σ H1 τ Z (ok.same s1) h
 | err n=>rw[ht]at h;exact fun C H' e s=>h C H' e (ok.ext.trans s)
 | bad=>rw[ht]at h;exact h
def z2L {i:Nat}(hN:X.N.Nodup)(hi:X.N[i]?=some x)(hl:i<Γ1.length)(h:MV X E Γ e t Γ1)(hx:Loc X.env.scope x)(hs:autoParam (jMj e (some (.Name x pos')) pos.line X.env=pure false) au3._auto_1)(hf:autoParam (X.fn x=true\/X.env.scope.names.lookup x=some .local) au0._auto_1):
  MS X E Γl Γ (.Assign [.Name x pos'] e pos) (zl i t) (Γ1.set i .own):=by
 obtain⟨te,p,q⟩:=h;refine⟨_,QN hN hi hx p hs hf,fun B σ H τ Z ok h=>q B σ H τ [] _ ok ?_⟩;unfold zl at h;cases ht:t τ with
 | ok d =>
  rw[ht,jYa]at h;exact fun v H' L s r ok'=>h _ _ (ok'.into r hl)
 | err n=>rw[ht]at h;exact h
 | bad=>rw[ht]at h;exact h
def z17 {i:Nat}{x:Str}{pos':Pos}(hN:X.N.Nodup)(hi:X.N[i]?=some x)(hl:i<Γ.length)(h:ME X E Γ e t c)(hc:c≠.bor)(hx:Loc X.env.scope x)(hs:autoParam (jMj e (some (.Name x pos')) pos.line X.env=pure false) au3._auto_1)(hf:autoParam (X.fn x=true\/X.env.scope.names.lookup x=some .local) au0._auto_1):
  MS X E Γl Γ (.Assign [.Name x pos'] e pos) (zl i t) (Γ.set i .shr):=by
 obtain⟨te,p,q⟩:=h;refine⟨_,QN hN hi hx p hs hf,fun B σ H τ Z ok h=>?_⟩;obtain⟨O,eo,hL⟩:=ok.eok;refine q O σ H τ _ eo ?_;unfold zl at h;cases ht:t τ with
 | ok d =>
  rw[ht,jYa]at h;refine fun v H' L s r k=>h _ _ ?_;obtain⟨Ls,h1,h2,h3,_,_,_,h7⟩:=hL L (k.shr eo.dom hc);exact SOk.intoS (ok.ext.trans s) ok.lσ ok.lτ (fun j c e hc=>by obtain⟨v',d',e1,e2,r'⟩:=h1 j c e hc;exact⟨v',d',e1,e2,r'.same s⟩) h2 h3 h7 r hl
 | err n=>rw[ht]at h;exact fun C H' e s=>h C H' e (ok.ext.trans s)
 | bad=>rw[ht]at h;exact h
end
section
variable {K:jJa}{Γ Γ':List Cl}{B H H1:Hp}{σ:St}{τ:Tn}{T:List Addr}
theorem SOk.slot {i:Nat}(h:SOk K Γ B H σ τ T)(e:Γ[i]?=some .own):∃v d L,σ[i]?=some (some v)/\τ[i]?=some (some d)/\Rep K H d v L/\L.Nodup/\(∀a∈L,B a=none/\a∉T) /\
  ∀(H2:Hp) (d2:D) (L2 Le T':List Addr),T=Le++T'->TF H H2->(∀b,b∉L->H b≠none->H2 b=H b)->Rep K H2 d2 v L2->(∀a∈L2,a∈L\/a∈Le)->L2.Nodup->SOk K Γ B H2 σ (τ.set i (some d2)) T':=by
 obtain⟨Ls,h1,h2,h3,h4,h5,h6⟩:=h.ex;obtain⟨v,d,e1,e2,r⟩:=h1 i _ e (by simp);refine⟨v,d,Ls i,e1,e2,r,(h2 i e).1,fun a ha=>⟨(h2 i e).2 a ha,h6 i _ e (by simp) a ha⟩,?_⟩;rintro H2 d2 L2 Le T' rfl tf kp r2 sub nd;obtain⟨n1,n2,n3⟩:=tX.mp h4;have hτ:i<τ.length:=(tJ.mp e2).1;have notL:∀b,B b≠none->b∉Ls i:=fun b hb hm=>hb ((h2 i e).2 b hm);refine⟨fun b o q=>?_,h.lσ,by rw[sD];exact h.lτ,Vx Ls i L2,fun j c ej hc=>?_,fun j ej=>?_,fun j k c hjk ej ek hc a ha hm=>?_,n2,fun a ha=>⟨(h5 a (tD _ ha)).1,?_⟩,fun j c ej hc a ha hm=>?_⟩
 ·have hq:=h.ext b o q;rw[kp b (notL b (by rw[q];simp)) (by rw[hq];simp)];exact hq
 ·by_cases z:j=i
  ·subst z;refine⟨v,d2,e1,by rw[tZ hτ],?_⟩;rw[yg];exact r2
  ·obtain⟨v',d',q1,q2,r'⟩:=h1 j c ej hc;refine⟨v',d',q1,by rw[tY (Ne.symm z)];exact q2,?_⟩;rw[y9 z];exact Rep.keep tf d' v' _ r' fun a ha=>kp a (fun hm=>h3 i j c (Ne.symm z) e ej hc a hm ha) (r'.there ha)
 ·by_cases z:j=i
  ·subst z;rw[yg];refine⟨nd,fun a ha=>?_⟩;rcases sub a ha with m|m
   ·exact (h2 _ e).2 a m
   ·exact (h5 a (tL _ m)).1
  ·rw[y9 z];exact h2 j ej
 ·by_cases z:j=i
  ·subst z;rw[yg]at ha;rw[y9 (Ne.symm hjk)]at hm;rcases sub a ha with m|m
   ·exact h3 _ k c hjk e ek hc a m hm
   ·exact h6 k c ek hc a hm (tL _ m)
  ·rw[y9 z]at ha
   by_cases z2:k=i
   ·subst z2;rw[yg]at hm;rcases sub a hm with m|m
    ·exact h3 j _ _ hjk ej e (by simp) a ha m
    ·exact h6 j _ ej (by simp) a ha (tL _ m)
   ·rw[y9 z2]at hm;exact h3 j k c hjk ej ek hc a ha hm
 ·have q:=(h5 a (tD _ ha)).2;rw[kp a (fun hm=>h6 i _ e (by simp) a hm (tD _ ha)) q];exact q
 ·by_cases z:j=i
  ·rw[VR z]at ha;rcases sub a ha with m|m
   ·exact h6 i _ e (by simp) a m (tD _ hm)
   ·exact n3 a m a hm rfl
  ·rw[y9 z]at ha;exact h6 j c ej hc a ha (tD _ hm)
theorem TF.upd (h:(∃vs,H a=some (.lst vs))\/∃kvs,H a=some (.dK kvs)):TF H (upd H a o):=by
 refine⟨fun b xs e=>?_,fun b p u e=>?_,fun b C dx fs e=>?_⟩<;>(rw[zC];exact e;rintro rfl;rcases h with⟨_,h⟩|⟨_,h⟩<;>rw[h]at e<;>cases e)
theorem Rep.upd {d:D}{v:V}{L:List Addr}{a:Addr}{o:HO}(r:Rep K H d v L)(h:(∃vs,H a=some (.lst vs))\/∃kvs,H a=some (.dK kvs))(n:a∉L):Rep K (L2.upd H a o) d v L:=
 Rep.keep (TF.upd h) d v L r fun b hb=>zC fun z=>n (z▸hb)
theorem Reps.upd {d:List D}{v:List V}{L:List Addr}{a:Addr}{o:HO}(r:Reps K H d v L)(h:(∃vs,H a=some (.lst vs))\/∃kvs,H a=some (.dK kvs))(n:a∉L):Reps K (L2.upd H a o) d v L:=
 Reps.keep (TF.upd h) d v L r fun b hb=>zC fun z=>n (z▸hb)
theorem Reps.set:∀ {ds:List D} {vs:List V} {L:List Addr} {d:D} {v:V} {Le:List Addr} (j:Nat),Reps K H ds vs L->Rep K H d v Le->j<ds.length->∃L2,Reps K H (ds.set j d) (vs.set j v) L2/\(∀a∈L2,a∈L\/a∈Le)/\((L++Le).Nodup->L2.Nodup)
 | [],_,_,_,_,_,_,_,_,h=>by simp at h
 | d::ds,_,_,d',v',Le,0,hq7,r,_=>by
  obtain⟨v,vs',L1,L2,e1,e2,h1,h2⟩:=hq7;subst e1 e2;refine⟨Le++L2,by simpa using Reps.cons r h2,fun a ha=>?_,fun n=>?_⟩
  ·rcases tS.mp ha with z|z
   ·exact .inr z
   ·exact .inl (tD _ z)
  ·obtain⟨n1,n2,n3⟩:=tX.mp n;obtain⟨m1,m2,m3⟩:=tX.mp n1;exact tX.mpr ⟨n2,m2,fun a ha b hb z=>n3 b (tD _ hb) a ha z.symm⟩
 | d::ds,_,_,d',v',Le,j+1,hq7,r,hj=>by
  obtain⟨v,vs',L1,L2,e1,e2,h1,h2⟩:=hq7;subst e1 e2;obtain⟨L3,a1,a2,a3⟩:=Reps.set j h2 r (by simpa using hj);refine⟨L1++L3,by simpa using Reps.cons h1 a1,fun a ha=>?_,fun n=>?_⟩
  ·rcases tS.mp ha with z|z
   ·exact .inl (tL _ z)
   ·rcases a2 a z with m|m
    ·exact .inl (tD _ m)
    ·exact .inr m
  ·rw[sS]at n;obtain⟨n1,n2,n3⟩:=tX.mp n;refine tX.mpr ⟨n1,a3 n2,fun a ha b hb z=>?_⟩;rcases a2 b hb with m|m
   ·exact n3 a ha b (tL _ m) z
   ·exact n3 a ha b (tD _ m) z
end
section
variable {X:Cx}{E:XK}{Γ Γ1 Γ' Γl:List Cl}{e a b:Expr}{es:List Expr}{t t':Tn->R D}{u:Tn->R (List D)}{c:Rc}{pos:Pos}
def xy (i:Nat)(t:Tn->R D):Tn->R Fl:=fun τ=>(za i τ).bind fun l=>match l with
 | .lst ds=>(t τ).bind fun d=>if ds.length<jNb then .ok (.nx (τ.set i (some (.lst (ds++[d]))))) else .bad
 | _=>.bad
def UR {i:Nat}{x:Str}{p0 p1 p2:Pos}(hN:X.N[i]?=some x)(h0:Γ[i]?=some .own)(h:MV X E Γ e t Γ1)(hk:Γ1[i]?=some .own)(hv:Vis X.env.scope x)(hb:autoParam ((x==("__debug__":Str))=false) au1._auto_1)(hcd:autoParam ((x==("__classdict__":Str))=false) au1._auto_1)
  (hbase:autoParam (jKg (.Name x p0) "append" X.env (eval (.Name x p0) X.env)=eval (.Name x p0) X.env) au3._auto_1)
  (hfew:autoParam (((jNh p2 (jNc [e] X.env)).all (fun x=>!x.1)&&(jNa p2 (jMa [] X.env)).all (fun x=>x.1.isSome)&&decide ([e].length+([]:List jNd).length+(if ([]:List jNd).isEmpty then 0 else 1)<30))=true) au3._auto_1)
  (hline:autoParam ((p1.endLine==p2.line)=true) au3._auto_1) (hs:autoParam (jNc [e] X.env=(false,eval e X.env)::jNc [] X.env) au3._auto_1) (hplain:autoParam ((jNh p2 (jNc [] X.env)).any (·.1)=false) au3._auto_1)
  (hsw:autoParam (jMj (.Call (.Attribute (.Name x p0) "append" p1) [e] [] p2) none pos.line X.env=pure false) au3._auto_1):
  MS X E Γl Γ (.Expr (.Call (.Attribute (.Name x p0) "append" p1) [e] [] p2) pos) (xy i t) Γ1:=by
 obtain⟨te,p,q⟩:=h;refine⟨_,jJ (Ue jQx jQ3 jQ4 wY (vq (pos:=p0) hN hv hb hcd) (wR p uU hs) hbase hfew hline hs hplain) hsw,fun B σ H τ Z ok h=>?_⟩;obtain⟨v,d,L,e1,e2,r,_⟩:=ok.slot h0;refine⟨v,e1,?_⟩;unfold xy at h;have ev:za i τ=.ok d:=by unfold za;rw[e2]
 rw[ev,jYa]at h;cases d with
 | lst ds =>
  obtain⟨a,vs,L',rfl,ha,_,rs⟩:=r;refine⟨.inl ⟨rfl,vs,SqL.of ha⟩,q B σ H τ [] _ ok ?_⟩;dsimp only at h;cases ht:t τ with
  | ok d' =>
   rw[ht,jYa]at h;refine fun y H1 Le s1 ry ok1=>?_;obtain⟨v1,d1,L1,q1,q2,r1,n1,n2,fin⟩:=ok1.slot hk;rw[e1]at q1;cases q1;rw[e2]at q2;cases q2;obtain⟨a1,vs1,L1',z1,ha1,z2,rs1⟩:=r1;cases z1;subst z2;have hl:vs1.length=ds.length:=rs1.length
   by_cases hz:ds.length<jNb
   ·rw[jNk hz]at h;have mu:(∃vs,H1 a=some (.lst vs))\/∃kvs,H1 a=some (.dK kvs):=.inl ⟨_,ha1⟩;have na:a∉Le:=fun m=>(n2 a tE).2 (tL _ m);obtain⟨m1,m2⟩:=sF.mp n1;refine⟨a,vs1,y,rfl,rfl,ha1,by lia,h _ _ (fin _ _ (a::(L1'++Le)) Le [] rfl (TF.upd mu) (fun b hb _=>zC fun z=>hb (z▸tE)) ?_ (fun b hb=>?_) ?_)⟩
    ·refine⟨a,vs1++[y],L1'++Le,rfl,zG,rfl,Reps.append (rs1.upd mu m1) ?_⟩;have:=Reps.cons (ry.upd (o:=.lst (vs1++[y])) mu na) (Reps.nil (K:=X.K) (H:=upd H1 a (.lst (vs1++[y]))));rw[tQ]at this;exact this
    ·rcases tK.mp hb with z|z
     ·exact .inl (z▸tE)
     ·rcases tS.mp z with z|z
      ·exact .inl (tF _ z)
      ·exact .inr z
    ·refine sF.mpr ⟨fun z=>?_,tX.mpr ⟨m2,?_,fun b hb b' hb' z=>?_⟩⟩
     ·rcases tS.mp z with z|z
      ·exact m1 z
      ·exact na z
     ·obtain⟨_,_,_,_,w4,_⟩:=ok1.ex;rw[tQ]at w4;exact w4
     ·subst z;exact (n2 b (tF _ hb)).2 (tL _ hb')
   ·rw[jPa hz]at h;exact h.elim
  | err n=>rw[ht]at h;exact h
  | bad=>rw[ht]at h;exact h
 | _=>exact h.elim
noncomputable def z0J (ds:List D)(k:Int)(d:D):R D:=match ixN ds.length k with
 | some j=>.ok (.lst (ds.set j d))
 | none=>.bad
def WH (i:Nat)(t ti:Tn->R D):Tn->R Fl:=fun τ=>(t τ).bind fun d=>(za i τ).bind fun l=>(ti τ).bind fun k=>match l,k with
 | .lst ds,.int k=>(z0J ds k d).bind fun l'=>.ok (.nx (τ.set i (some l')))
 | _,_=>.bad
def z37 {i:Nat}{x:Str}{p0 p1:Pos}{ix:Expr}{ti:Tn->R D}(hN:X.N[i]?=some x)(h:MV X E Γ e t Γ1)(hi:ME X E Γ1 ix ti c)(hk:Γ1[i]?=some .own)(hv:Vis X.env.scope x)(hb:autoParam ((x==("__debug__":Str))=false) au1._auto_1)(hcd:autoParam ((x==("__classdict__":Str))=false) au1._auto_1)
  (ha:autoParam (∀v,assign (.Subscript (.Name x p0) ix p1) X.env v=(do
   let ov <-holding [v] (eval (.Name x p0) X.env)
   let iv <-holding [v,ov] (eval ix X.env)
   standAt p1
   holding [v,ov,iv] (setItem ov iv v)
   release [v,ov,iv] [])) au2._auto_1)
  (hs:autoParam (swapsWithSole [.Subscript (.Name x p0) ix p1] e pos.line X.env=pure false) au3._auto_1) (hw:autoParam (swappedStores [.Subscript (.Name x p0) ix p1] e X.env=pure none) au3._auto_1)
  (h1:autoParam ((jMe [.Subscript (.Name x p0) ix p1] X.env).map (·.2)=[assign (.Subscript (.Name x p0) ix p1) X.env]) au3._auto_1):
  MS X E Γl Γ (.Assign [.Subscript (.Name x p0) ix p1] e pos) (WH i t ti) Γ1:=by
 obtain⟨te,p,q⟩:=h;obtain⟨te',p',q'⟩:=hi;refine⟨_,V4 p (z2e (vq (pos:=p0) hN hv hb hcd) p' Jr ha) hs hw h1,fun B σ H τ Z ok h=>q B σ H τ [] _ ok ?_⟩;unfold WH at h;cases ht:t τ with
 | ok d' =>
  rw[ht,jYa]at h;refine fun y H1 Le s1 ry ok1=>?_;obtain⟨v1,d1,L1,q1,q2,r1,n1,n2,_⟩:=ok1.slot hk;refine⟨v1,q1,?_⟩;have ev:za i τ=.ok d1:=by unfold za;rw[q2]
  rw[ev,jYa]at h;obtain⟨O,eo,_⟩:=ok1.eok;refine q' O σ H1 τ _ eo ?_;cases hk':ti τ with
  | ok dk =>
   rw[hk',jYa]at h;refine fun kv H2 Lk s2 rk _=>?_;have ok2:=ok1.same s2;obtain⟨v2,d2,L2,q3,q4,r2,m1,m2,fin⟩:=ok2.slot hk;rw[q1]at q3;cases q3;rw[q2]at q4;cases q4;cases d1 with
   | lst ds =>
    cases dk with
    | int k =>
     obtain⟨a,vs,L',rfl,ha2,z2,rs⟩:=r2;subst z2;dsimp only at h;unfold z0J at h;cases hj:ixN ds.length k with
     | none=>rw[hj]at h;exact h.elim
     | some j =>
      rw[hj]at h;have hjl:j<ds.length:=(X1 hj).2.1;have mu:(∃vs,H2 a=some (.lst vs))\/∃kvs,H2 a=some (.dK kvs):=.inl ⟨_,ha2⟩;have na:a∉Le:=fun m=>(m2 a tE).2 (tL _ m);obtain⟨w1,w2⟩:=sF.mp m1;have nLe:Le.Nodup:=by
       obtain⟨_,_,_,_,w4,_⟩:=ok1.ex;rw[tQ]at w4;exact w4
      have r3:=(ry.same s2).upd (o:=.lst (vs.set j y)) mu na;obtain⟨L3,a1,a2,a3⟩:=Reps.set j (rs.upd (o:=.lst (vs.set j y)) mu w1) r3 hjl;refine⟨a,vs,k,j,rfl,rk.1,ha2,by rw[rs.length];exact hj,h _ _ (fin _ _ (a::L3) Le [] rfl (TF.upd mu) (fun b hb _=>zC fun z=>hb (z▸tE)) ⟨a,_,L3,rfl,zG,rfl,a1⟩ (fun b hb=>?_) ?_)⟩
      ·rcases tK.mp hb with z|z
       ·exact .inl (z▸tE)
       ·rcases a2 b z with z|z
        ·exact .inl (tF _ z)
        ·exact .inr z
      ·refine sF.mpr ⟨fun z=>?_,a3 (tX.mpr ⟨w2,nLe,fun b hb b' hb' z=>?_⟩)⟩
       ·rcases a2 a z with z|z
        ·exact w1 z
        ·exact na z
       ·subst z;exact (m2 b (tF _ hb)).2 (tL _ hb')
    | _=>exact h.elim
   | _=>exact h.elim
  | err n=>rw[hk']at h;exact fun C H' e s=>h C H' e (ok1.ext.trans s)
  | bad=>rw[hk']at h;exact h
 | err n=>rw[ht]at h;exact h
 | bad=>rw[ht]at h;exact h
end
section
variable {K:jJa}{Γ Γ':List Cl}{B B' H H1:Hp}{σ:St}{τ:Tn}{T:List Addr}
def SOk.rebase (h:SOk K Γ B' H σ τ T)(s:Same B B'):SOk K Γ B H σ τ T:=by
 obtain⟨Ls,h1,h2,h3,h4,h5,h6⟩:=h.ex;exact⟨s.trans h.ext,h.lσ,h.lτ,Ls,h1,fun i e=>⟨(h2 i e).1,fun a ha=>s.non ((h2 i e).2 a ha)⟩,h3,h4,fun a ha=>⟨s.non (h5 a ha).1,(h5 a ha).2⟩,h6⟩
open Classical in
theorem SOk.base (h:SOk K Γ B H σ τ []):∃O:Addr->Prop,EOk K Γ O H σ τ/\(∀a,O a->(∃vs,H a=some (.lst vs))\/∃kvs,H a=some (.dK kvs)) /\
  ∀H1,Same H H1->∃B1,Same B B1/\SOk K Γ B1 H1 σ τ []/\∀a,¬O a->B1 a=H1 a:=by
 obtain⟨Ls,h1,h2,h3,h4,h5,h6⟩:=h.ex;refine⟨fun a=>∃i,Γ[i]?=some .own/\a∈Ls i,⟨fun a ⟨i,e,ha⟩=>?_,fun i c e hc=>?_⟩,fun a ⟨i,e,ha⟩=>?_,fun H1 s1=>⟨fun a=>if (∃i,Γ[i]?=some .own/\a∈Ls i) then none else H1 a,fun b o q=>?_,⟨fun b o q=>?_,h.lσ,h.lτ,Ls,fun i c e hc=>?_,fun i e=>⟨(h2 i e).1,fun a ha=>jNk ⟨i,e,ha⟩⟩,h3,h4,fun a ha=>(nomatch ha),h6⟩,fun a n=>jPa n⟩⟩
 ·obtain⟨v,d,_,_,r⟩:=h1 i _ e (by simp);exact r.there ha
 ·obtain⟨v,d,e1,e2,r⟩:=h1 i c e hc;refine⟨v,d,Ls i,e1,e2,r,fun z a ha ⟨j,ej,hj⟩=>?_⟩;subst z;have hij:j≠i:=fun z=>by subst z;rw[e]at ej;cases ej
  exact h3 j i _ hij ej e (by simp) a hj ha
 ·obtain⟨v,d,_,_,r⟩:=h1 i _ e (by simp);exact Rep.dom d v _ r a ha
 ·show (if (∃i,Γ[i]?=some .own/\b∈Ls i) then none else H1 b)=some o;rw[jPa]
  ·exact s1 b o (h.ext b o q)
  ·rintro⟨i,e,hb⟩;rw[(h2 i e).2 b hb]at q;cases q
 ·have q:(if (∃i,Γ[i]?=some .own/\b∈Ls i) then none else H1 b)=some o:=q
  by_cases z:∃i,Γ[i]?=some .own/\b∈Ls i
  ·rw[jNk z]at q;cases q
  ·rw[jPa z]at q;exact q
 ·obtain⟨v,d,e1,e2,r⟩:=h1 i c e hc;exact⟨v,d,e1,e2,r.same s1⟩
def SOk.shrIn {i:Nat}{d:D}{v:V}{L:List Addr}(h:SOk K Γ B H σ τ [])(r:Rep K H d v L)(hL:∀a∈L,B a≠none)(hi:i<Γ.length):SOk K (Γ.set i .shr) B H (σ.set i (some v)) (τ.set i (some d)) []:=by
 obtain⟨Ls,h1,h2,h3,h4,h5,h6⟩:=h.ex;exact SOk.intoS h.ext h.lσ h.lτ h1 h2 h3 (fun j e a ha hm=>hL a hm ((h2 j e).2 a ha)) r hi
end
def x5 {α:Type}:List (Option α)->List Nat->List α->List (Option α)
 | σ,i::is,v::vs=>x5 (σ.set i (some v)) is vs
 | σ,_,_=>σ
def shrAll:List Cl->List Nat->List Cl
 | Γ,[]=>Γ
 | Γ,i::is=>shrAll (Γ.set i .shr) is
theorem SOk.shrAll {K:jJa}{B H:Hp}{Γ:List Cl}{σ:St}{τ:Tn}{is:List Nat}{ds:List D}{vs:List V}{L:List Addr}(h:SOk K Γ B H σ τ [])(r:Reps K H ds vs L)(hL:∀a∈L,B a≠none)(hl:ds.length=is.length)(hi:∀i∈is,i<Γ.length):
  SOk K (L2.shrAll Γ is) B H (x5 σ is vs) (x5 τ is ds) []:=by
 induction is generalizing Γ σ τ ds vs L with
 | nil =>
  cases ds with
  | nil=>cases r.1;exact h
  | cons=>cases hl
 | cons i is ih =>
  cases ds with
  | nil=>cases hl
  | cons d ds =>
   obtain⟨v,vs',La,Lb,e1,e2,r1,r2⟩:=r;subst e1 e2;exact ih (h.shrIn r1 (fun a ha=>hL a (tL _ ha)) (hi i tE)) r2 (fun a ha=>hL a (tD _ ha)) (Nat.succ.inj hl) (fun j hj=>by rw[sD];exact hi j (tF _ hj))
def ItOk (K:jJa)(J:It)(ds:List D)(L:List Addr)(H:Hp):Prop:=(∀a∈L,H a≠none)/\∀H',TF H H'->(∀a∈L,H' a=H a)->∀i,
 (∀d,ds[i]?=some d->J.go i H'/\∀x H'',J.yld i H' x H''->Same H' H''/\∃L',Rep K H'' d x L'/\∀a∈L',a∈L)/\(ds.length<=i->J.stop i H')
def z1U (K:jJa)(E:XK)(O:Addr->Prop)(c:Rc)(H:Hp)(Rr:It->Hp->Prop):R (List D)->Prop
 | .ok ds=>∀J H' L,Same H H'->ItOk K J ds L H'->(c≠.bor->∀a∈L,¬O a)->Rr J H'
 | .err n=>∀C H',ErrC K n C->Same H H'->E (.ref C) none H'
 | .bad=>False
def MI (X:Cx)(E:XK)(Γ:List Cl)(tg iter:Expr)(t:Tn->R (List D))(c:Rc):Prop:=
 ∃wi,PI X tg iter wi/\∀O σ H τ Rr,EOk X.K Γ O H σ τ->z1U X.K E O c H Rr (t τ)->wi σ H Rr
inductive Tgt where
 | one (i:Nat) | many (is:List Nat)
def Tgt.slots:Tgt->List Nat
 | .one i=>[i]
 | .many is=>is
noncomputable def Tgt.asg:Tgt->D->Tn->R Tn
 | .one i,d,τ=>.ok (τ.set i (some d))
 | .many is,.tup ds,τ=>if ds.length=is.length then .ok (x5 τ is ds) else .bad
 | .many _,_,_=>.bad
def MG (X:Cx)(tg:Expr):Tgt->Prop
 | .one i=>PG X tg (jm i)
 | .many is=>∃g,PG X tg (z5A X.K is.length g)/\∀(vs:List V) (σ:St) (H:Hp) (Q:St->Hp->Prop),vs.length=is.length->Q (x5 σ is vs) H->g vs σ H Q
noncomputable def wa (asg:D->Tn->R Tn)(body:Tn->R Fl):List D->Tn->R Fl
 | [],τ=>.ok (.nx τ)
 | d::ds,τ=>(asg d τ).bind fun τ1=>(body τ1).bind fun f=>match f with
  | .nx τ2=>wa asg body ds τ2
  | .ct τ2=>wa asg body ds τ2
  | .bk τ2=>.ok (.nx τ2)
  | .rt r=>.ok (.rt r)
def xg (it:Tn->R (List D))(tg:Tgt)(body:Tn->R Fl):Tn->R Fl:=fun τ=>(it τ).bind fun ds=>wa tg.asg body ds τ
section
variable {X:Cx}{E:XK}{Γ Γ1 Γ2 Γ' Γl:List Cl}{pos:Pos}
def tgG (K:jJa)(g:Tgt):TG:=fun v σ H Q=>match g with
 | .one i=>Q (σ.set i (some v)) H
 | .many is=>∃a vs,v=.ref a/\SqT K H a vs/\vs.length=is.length/\Q (x5 σ is vs) H
theorem MG.pg (h:MG X tg g):PG X tg (tgG X.K g):=by
 cases g with
 | one i=>exact h
 | many is =>
  obtain⟨G,p,q⟩:=h;rintro jNj s σ H v u Q I r ⟨a,vs,e,hs,hl,z⟩;exact p jNj s σ H v u Q I r ⟨a,vs,e,hs,hl,q vs σ H Q hl z⟩
def JU {K:jJa}{B H:Hp}{σ:St}{τ τ1:Tn}{d:D}{v:V}{L:List Addr}{g:Tgt}(h:SOk K Γ B H σ τ [])(r:Rep K H d v L)(hL:∀a∈L,B a≠none)(hi:∀i∈g.slots,i<Γ.length)(ha:g.asg d τ=.ok τ1)
  {Q:St->Hp->Prop} (k:∀σ1,SOk K (L2.shrAll Γ g.slots) B H σ1 τ1 []->Q σ1 H):tgG K g v σ H Q:=by
 cases g with
 | one i=>cases ha;exact k _ (h.shrIn r hL (hi i (by simp[Tgt.slots])))
 | many is =>
  cases d with
  | tup ds =>
   unfold Tgt.asg at ha;dsimp only at ha
   by_cases hl:ds.length=is.length
   ·rw[jNk hl]at ha;cases ha;obtain⟨a,vs,rfl,hs,rs⟩:=r;have hv:vs.length=is.length:=rs.length.trans hl;exact⟨a,vs,rfl,hs,hv,k _ (h.shrAll rs hL hl hi)⟩
   ·rw[jPa hl]at ha;cases ha
  | _=>cases ha
def z23 {it:Tn->R (List D)}{g:Tgt}{tb:Tn->R Fl}{c:Rc}{wi:TI}{ts:TS}(hcl:c≠.bor)(hn:∀i∈g.slots,i<Γ.length)(hw:wk Γ2 Γ=true)(q:∀O σ H τ Rr,EOk X.K Γ O H σ τ->z1U X.K E O c H Rr (it τ)->wi σ H Rr)(q':∀B σ H τ Z,SOk X.K (shrAll Γ g.slots) B H σ τ []->uw X.K E B Γ Γ2 Z (tb τ)->ts Z σ H)
  (B:Hp) (σ:St) (H:Hp) (τ:Tn) (Z:Ends) (ok:SOk X.K Γ B H σ τ []) (h:uw X.K E B Γl Γ Z (xg it g tb τ)):z3K wi (tgG X.K g) ts Z σ H:=by
 obtain⟨O,eo,Od,hB⟩:=ok.base;refine q O σ H τ _ eo ?_;unfold xg at h;cases ht:it τ with
 | ok ds =>
  rw[ht,jYa]at h;refine fun J H1 L s1 hit hO=>?_;have hO:=hO hcl;obtain⟨hLd,hit⟩:=hit;obtain⟨B1,sB,ok1,hB1⟩:=hB H1 s1;have inL:∀a∈L,B1 a=H1 a:=fun a ha=>hB1 a (hO a ha);have Od1:∀a,O a->(∃vs,H1 a=some (.lst vs))\/∃kvs,H1 a=some (.dK kvs):=fun a o=>by
   rcases Od a o with⟨vs,e⟩|⟨kvs,e⟩
   ·exact .inl ⟨vs,s1 _ _ e⟩
   ·exact .inr ⟨kvs,s1 _ _ e⟩
  have stay:∀H2,Same B1 H2->TF H1 H2/\∀a∈L,H2 a=H1 a:=fun H2 s2=>by
   refine⟨⟨fun a xs e=>?_,fun a o u e=>?_,fun a C dx fs e=>?_⟩,fun a ha=>?_⟩
   ·refine s2 a _ ((hB1 a fun z=>?_).trans e);rcases Od1 a z with⟨_,w⟩|⟨_,w⟩<;>rw[e]at w<;>cases w
   ·refine s2 a _ ((hB1 a fun z=>?_).trans e);rcases Od1 a z with⟨_,w⟩|⟨_,w⟩<;>rw[e]at w<;>cases w
   ·refine s2 a _ ((hB1 a fun z=>?_).trans e);rcases Od1 a z with⟨_,w⟩|⟨_,w⟩<;>rw[e]at w<;>cases w
   ·rw[s2.at (by rw[inL a ha];exact hLd a ha),inL a ha]
  refine⟨fun i m σ2 H2=>m=ds.length-i/\i<=ds.length/\∃τ2,SOk X.K Γ B1 H2 σ2 τ2 []/\uw X.K E B Γl Γ Z (wa g.asg tb (ds.drop i) τ2),⟨ds.length,by simp,rD _,τ,ok1,h⟩,?_⟩;rintro i m σ2 H2 ⟨rfl,hile,τ2,ok2,h2⟩;obtain⟨tf,kp⟩:=stay H2 ok2.ext;obtain⟨go,stop⟩:=hit H2 tf kp i
  by_cases hlt:i<ds.length
  ·obtain⟨hgo,hy⟩:=go ds[i] (by simp[hlt]);rw[sQ hlt]at h2;refine .inr ⟨hgo,fun σ' H'=>i+1<=ds.length/\∃τ',SOk X.K Γ B1 H' σ' τ' []/\uw X.K E B Γl Γ Z (wa g.asg tb (ds.drop (i+1)) τ'),fun σ' H' ⟨z,w⟩=>⟨ds.length-(i+1),by omega,rfl,z,w⟩,fun x H3 y=>?_⟩;obtain⟨s3,L',r',sub⟩:=hy x H3 y;unfold wa at h2;cases ha:g.asg ds[i] τ2 with
   | ok τ3 =>
    rw[ha,jYa]at h2;refine JU (ok2.same s3) r' (fun a ha=>by rw[inL a (sub a ha)];exact hLd a (sub a ha)) hn ha fun σ3 ok3=>?_;refine q' B1 σ3 H3 τ3 _ ok3 ?_;cases hb:tb τ3 with
    | ok f =>
     rw[hb,jYa]at h2;cases f with
     | nx τ4=>exact fun σ' H' ok4=>⟨hlt,τ4,ok4.weak hw,h2⟩
     | ct τ4=>exact fun σ' H' ok4=>⟨hlt,τ4,ok4,h2⟩
     | bk τ4=>exact fun σ' H' ok4=>h2 σ' H' (ok4.rebase sB)
     | rt d=>exact fun v H' L s r n1 n2=>h2 v H' L (sB.trans s) r n1 fun a ha=>sB.non (n2 a ha)
    | err n=>rw[hb]at h2;exact fun C H' e s=>h2 C H' e (sB.trans s)
    | bad=>rw[hb]at h2;exact h2
   | err n =>
    cases g with
    | one i=>cases ha
    | many is =>
     unfold Tgt.asg at ha;split at ha
     ·cases ha
     ·split at ha<;>cases ha
     ·cases ha
   | bad=>rw[ha]at h2;exact h2.elim
  ·have e:i=ds.length:=by omega
   subst e;rw[List.drop_length]at h2;exact .inl ⟨stop (tI _),h2 σ2 H2 (ok2.rebase sB)⟩
 | err n=>rw[ht]at h;exact fun C H' e s=>h C H' e (ok.ext.trans s)
 | bad=>rw[ht]at h;exact h
def y2 (hp:jMk (model X.prog X.w) X.A X.env X.xe)(hc:X.calm=true)(hi:MI X E Γ tg iter it c)(hcl:c≠.bor)(hg:MG X tg g)
  (hn:∀i∈g.slots,i<Γ.length) (hb:MSs X E Γ (shrAll Γ g.slots) body tb Γ2) (hw:wk Γ2 Γ=true) (hs:autoParam (∀x,jYh iter X.env x=pure x) au2._auto_1):MS X E Γl Γ (.For tg iter body [] pos) (xg it g tb) Γ:=by
 obtain⟨wi,p,q⟩:=hi;obtain⟨ts,p',q'⟩:=hb;exact⟨_,Qr hp hc p hg.pg p' hs,z23 hcl hn hw q q'⟩
def wm (k:Tn->R Bool)(body:Tn->R Fl):Nat->Tn->R Fl
 | 0,_=>.bad
 | n+1,τ=>(k τ).bind fun x=>if x=true then (body τ).bind fun f=>match f with
  | .nx τ2=>wm k body n τ2
  | .ct τ2=>wm k body n τ2
  | .bk τ2=>.ok (.nx τ2)
  | .rt r=>.ok (.rt r)
  else .ok (.nx τ)
open Classical in
def xA (k:Tn->R Bool)(body:Tn->R Fl):Tn->R Fl:=fun τ=>if h:∃n,wm k body n τ≠.bad then wm k body (Classical.choose h) τ else .bad
theorem j4 {k:Tn->R Bool}:∀(n:Nat) (τ:Tn),wm k body n τ≠.bad->wm k body (n+1) τ=wm k body n τ
 | 0,τ,h=>absurd rfl h
 | n+1,τ,h=>by
  unfold wm at h;rw[wm,wm];cases hk:k τ with
  | ok x =>
   rw[hk,jYa]at h;rw[jYa,jYa];cases x with
   | true =>
    rw[jNk rfl]at h;rw[jNk rfl,jNk rfl];cases hb:body τ with
    | ok f =>
     rw[hb,jYa]at h;rw[jYa,jYa];cases f with
     | nx τ2=>exact j4 n τ2 h
     | ct τ2=>exact j4 n τ2 h
     | bk τ2=>rfl
     | rt d=>rfl
    | err n=>rfl
    | bad=>rfl
   | false=>rfl
  | err n=>rfl
  | bad=>rfl
def VD {k:Tn->R Bool}{n m:Nat}(h:wm k body n τ≠.bad)(hm:n<=m):wm k body m τ=wm k body n τ:=by
 obtain⟨j,rfl⟩:=Nat.le.dest hm
 induction j with
 | zero=>rfl
 | succ j ih =>
  have:=ih (Nat.le_add_right _ _);rw[<-Nat.add_assoc,j4 (n+j) τ (by rw[this];exact h),this]
def UM {k:Tn->R Bool}{n:Nat}(h:wm k body n τ=r)(hr:r≠.bad):xA k body τ=r:=by
 have hx:∃n,wm k body n τ≠.bad:=⟨n,by rw[h];exact hr⟩
 unfold xA;rw[dif_pos hx];have h2:=Classical.choose_spec hx;rcases Nat.le_total n (Classical.choose hx)with z|z
 ·rw[VD (by rw[h];exact hr) z,h]
 ·rw[<-VD h2 z,h]
def Vm {k:Tn->R Bool}:xA k body τ=.bad\/∃n,wm k body n τ=xA k body τ/\xA k body τ≠.bad:=by
 by_cases hx:∃n,wm k body n τ≠.bad
 ·refine .inr ⟨Classical.choose hx,?_,?_⟩<;>unfold xA<;>rw[dif_pos hx];exact Classical.choose_spec hx
 ·refine .inl ?_;unfold xA;rw[dif_neg hx]
def qt {u:Tn->R Bool}(hp:jMk (model X.prog X.w) X.A X.env X.xe)(hk:MT X E Γ k u)(hb:MSs X E Γ Γ body tb Γ2)(hw:wk Γ2 Γ=true):MS X E Γl Γ (.While k body [] pos) (xA u tb) Γ:=by
 obtain⟨te,p,q⟩:=hk;obtain⟨ts,p',q'⟩:=hb;refine⟨_,J3 hp p p',fun B σ H τ Z ok h=>?_⟩;rcases Vm (k:=u) (body:=tb) (τ:=τ)with z|⟨n,hn,_⟩
 ·rw[z]at h;exact h.elim
 rw[<-hn]at h;refine⟨fun m σ2 H2=>∃τ2,SOk X.K Γ B H2 σ2 τ2 []/\uw X.K E B Γl Γ Z (wm u tb m τ2),⟨n,τ,ok,h⟩,?_⟩;rintro m σ2 H2 ⟨τ2,ok2,h2⟩;cases m with
 | zero=>exact h2.elim
 | succ m =>
  obtain⟨O,eo,_⟩:=ok2.eok;refine q O σ2 H2 τ2 _ eo ?_;unfold wm at h2;cases ht:u τ2 with
  | ok x =>
   rw[ht,jYa]at h2;refine fun H3 s3=>?_;cases x with
   | true =>
    rw[jNk rfl]at h2 ⊢;refine⟨fun σ' H'=>∃τ',SOk X.K Γ B H' σ' τ' []/\uw X.K E B Γl Γ Z (wm u tb m τ'),fun σ' H' w=>⟨m,Nat.lt_succ_self _,w⟩,q' B σ2 H3 τ2 _ (ok2.same s3) ?_⟩;cases hb:tb τ2 with
    | ok f =>
     rw[hb,jYa]at h2;cases f with
     | nx τ4=>exact fun σ' H' ok4=>⟨τ4,ok4.weak hw,h2⟩
     | ct τ4=>exact fun σ' H' ok4=>⟨τ4,ok4,h2⟩
     | bk τ4=>exact fun σ' H' ok4=>h2 σ' H' ok4
     | rt d=>exact h2
    | err n=>rw[hb]at h2;exact h2
    | bad=>rw[hb]at h2;exact h2
   | false=>rw[jPa tP]at h2 ⊢;exact h2 σ2 H3 (ok2.same s3)
  | err n=>rw[ht]at h2;exact fun C H' e s=>h2 C H' e (ok2.ext.trans s)
  | bad=>rw[ht]at h2;exact h2
end
def signs (x:Str):List D:=x.cps.toList.map fun c=>.str ⟨#[c]⟩
noncomputable def W2:D->R (List D)
 | .lst ds=>.ok ds
 | .tup ds=>.ok ds
 | .str x=>.ok (signs x)
 | _=>.bad
def yt (t:Tn->R D):Tn->R (List D):=fun τ=>(t τ).bind W2
def rng (lo:Int)(n:Nat):List D:=(List.range n).map fun (i:Nat)=>.int (lo+i)
noncomputable def vY:List D->R (List D)
 | [.int j]=>if -(2 ^ 62)<=j/\j<2 ^ 62 then .ok (rng 0 j.toNat) else .bad
 | _=>.bad
noncomputable def Zz:List D->R (List D)
 | [.int i,.int j]=>if -(2 ^ 62)<=i/\i<2 ^ 62/\-(2 ^ 62)<=j/\j<2 ^ 62 then .ok (rng i (j-i).toNat) else .bad
 | _=>.bad
noncomputable def wz:Nat->List D->List D
 | _,[]=>[]
 | n,d::ds=>.tup [.int n,d]::wz (n+1) ds
def ZX:List D->R (List D)
 | [.lst ds]=>.ok (wz 0 ds)
 | _=>.bad
def iL (g:List D->R (List D))(u:Tn->R (List D)):Tn->R (List D):=fun τ=>(u τ).bind g
theorem Z9:∀(n:Nat) (ds:List D),(wz n ds).length=ds.length
 | _,[]=>rfl
 | n,d::ds=>by unfold wz;rw[tR,tR,Z9 (n+1) ds]
theorem jQ:∀(n:Nat) (ds:List D) (i:Nat) (d:D),(wz n ds)[i]?=some d->∃d',ds[i]?=some d'/\d=.tup [.int ((n+i:Nat):Int),d']
 | _,[],_,_,h=>by simp[wz]at h
 | n,d::ds,0,e,h=>by
  unfold wz at h;simp at h;exact⟨d,rfl,h.symm⟩
 | n,d::ds,i+1,e,h=>by
  unfold wz at h;obtain⟨d',h1,h2⟩:=jQ (n+1) ds i e (by simpa using h);exact⟨d',by simpa using h1,by rw[h2,Nat.add_assoc,Nat.add_comm 1 i]⟩
section
theorem ItOk.list {K:jJa}{H:Hp}{a:Addr}{vs:List V}{ds:List D}{L L':List Addr}(ha:H a=some (.lst vs))(e:L=a::L')(r:Reps K H ds vs L'):ItOk K (Itl K a) ds L H:=by
 subst e;refine⟨fun b hb=>?_,fun H' tf kp i=>⟨fun d hd=>?_,fun hl=>?_⟩⟩
 ·rcases tK.mp hb with z|z
  ·rw[z,ha];simp
  ·exact r.there z
 ·have ha':H' a=some (.lst vs):=(kp a tE).trans ha;obtain⟨v,L1,e1,r1,sub⟩:=r.get hd;refine⟨⟨vs,v,SqL.of ha',e1⟩,fun x H'' ⟨e2,hy⟩=>?_⟩;subst e2;have:=hy vs (SqL.of ha');rw[e1]at this;cases this;exact⟨Same.refl _,L1,Rep.keep tf d _ L1 r1 fun b hb=>kp b (tF _ (sub.subset hb)),fun b hb=>tF _ (sub.subset hb)⟩
 ·have ha':H' a=some (.lst vs):=(kp a tE).trans ha;exact⟨vs,SqL.of ha',by rw[r.length];exact hl⟩
theorem ItOk.tup {K:jJa}{H:Hp}{a:Addr}{vs:List V}{ds:List D}{L:List Addr}(ha:SqT K H a vs)(r:Reps K H ds vs L):ItOk K (Itt K a) ds L H:=by
 refine⟨fun b hb=>r.there hb,fun H' tf kp i=>⟨fun d hd=>?_,fun hl=>?_⟩⟩
 ·have ha':=ha.tf tf;obtain⟨v,L1,e1,r1,sub⟩:=r.get hd;refine⟨⟨vs,v,ha',e1⟩,fun x H'' ⟨e2,hy⟩=>?_⟩;subst e2;have:=hy vs ha';rw[e1]at this;cases this;exact⟨Same.refl _,L1,Rep.keep tf d _ L1 r1 fun b hb=>kp b (sub.subset hb),fun b hb=>sub.subset hb⟩
 ·exact⟨vs,ha.tf tf,by rw[r.length];exact hl⟩
theorem ItOk.str {K:jJa}{H:Hp}{x:Str}:ItOk K (Its x) (signs x) [] H:=by
 refine⟨fun b hb=>(nomatch hb),fun H' tf kp i=>⟨fun d hd=>?_,fun hl=>?_⟩⟩
 ·unfold signs at hd;rw[tN]at hd;cases hq:x.cps.toList[i]? with
  | none=>rw[hq]at hd;cases hd
  | some k =>
   rw[hq]at hd;have hd:D.str ⟨#[k]⟩=d:=jYe hd;subst hd;have hi:i<x.cps.size:=by
    have:=(tJ.mp hq).1
    simpa using this
   refine⟨hi,fun y H'' ⟨e2,c',e3,e4⟩=>?_⟩;subst e2 e4;rw[<-Array.getElem?_toList,hq]at e3;cases e3;exact⟨Same.refl _,[],⟨rfl,rfl⟩,fun b hb=>(nomatch hb)⟩
 ·have:(signs x).length=x.cps.size:=by simp[signs]
  show x.cps.size<=i;lia
theorem ItOk.rng {K:jJa}{H:Hp}{lo:Int}{n:Nat}:ItOk K (Itr lo n) (L2.rng lo n) [] H:=by
 refine⟨fun b hb=>(nomatch hb),fun H' tf kp i=>⟨fun d hd=>?_,fun hl=>?_⟩⟩
 ·unfold L2.rng at hd;rw[tN]at hd
  by_cases hi:i<n
  ·rw[rW hi]at hd;have hd:D.int (lo+(i:Int))=d:=jYe hd;subst hd;refine⟨hi,fun y H'' ⟨e2,e3⟩=>?_⟩;subst e2 e3;exact⟨Same.refl _,[],⟨rfl,rfl⟩,fun b hb=>(nomatch hb)⟩
  ·rw[sZ (by simp;lia)]at hd;cases hd
 ·have:(L2.rng lo n).length=n:=by simp[L2.rng]
  show n<=i;lia
theorem ItOk.enum {K:jJa}{H:Hp}{a:Addr}{vs:List V}{ds:List D}{L L':List Addr}(ha:H a=some (.lst vs))(e:L=a::L')(r:Reps K H ds vs L'):ItOk K (Ite K a) (wz 0 ds) L H:=by
 subst e;refine⟨fun b hb=>?_,fun H' tf kp i=>⟨fun d hd=>?_,fun hl=>?_⟩⟩
 ·rcases tK.mp hb with z|z
  ·rw[z,ha];simp
  ·exact r.there z
 ·have ha':H' a=some (.lst vs):=(kp a tE).trans ha;obtain⟨d',hd',rfl⟩:=jQ 0 ds i d hd;obtain⟨v,L1,e1,r1,sub⟩:=r.get hd';refine⟨⟨vs,v,SqL.of ha',e1⟩,fun x H'' ⟨p,y,hp,e2,e3,hy⟩=>?_⟩;subst e2 e3;have:=hy vs (SqL.of ha');rw[e1]at this;cases this;refine⟨Same.new hp,L1,⟨p,_,rfl,SqT.of zG,?_⟩,fun b hb=>tF _ (sub.subset hb)⟩;have r2:Rep K H' d' v L1:=Rep.keep tf d' _ L1 r1 fun b hb=>kp b (tF _ (sub.subset hb));have:=Reps.cons (K:=K) (H:=upd H' p (.tup [.int (i:Int),v])) (d:=.int ((0+i:Nat):Int)) (v:=.int (i:Int)) (L1:=[]) ⟨by simp,rfl⟩ (Reps.cons (r2.same (Same.new hp)) Reps.nil)
  simpa using this
 ·have ha':H' a=some (.lst vs):=(kp a tE).trans ha;rw[Z9]at hl;exact⟨vs,SqL.of ha',by rw[r.length];exact hl⟩
def zE (h:ME X E Γ e t c):MI X E Γ tg e (yt t) c:=by
 obtain⟨te,p,q⟩:=h;refine⟨fun σ H Rr=>z1Q X.K te σ H Rr\/z6n X.K te σ H Rr\/z6d te σ H Rr,fun jNj s σ H Rr I z=>?_,fun O σ H τ Rr ok h=>?_⟩
 ·rcases z with z|z|z
  ·exact VB p jNj s σ H Rr I z
  ·exact z2y p jNj s σ H Rr I z
  ·exact z3r p jNj s σ H Rr I z
 ·unfold yt at h;cases ht:t τ with
  | ok d =>
   rw[ht,jYa]at h;cases d with
   | lst ds =>
    refine .inl (q O σ H τ _ ok ?_);rw[ht];refine fun v H1 L s r k=>?_;obtain⟨a,vs,L',rfl,ha,e,rs⟩:=r;exact⟨a,rfl,⟨vs,SqL.of ha⟩,h _ H1 L s (ItOk.list ha e rs) fun n=>k.shr ok.dom n⟩
   | tup ds =>
    refine .inr (.inl (q O σ H τ _ ok ?_));rw[ht];refine fun v H1 L s r k=>?_;obtain⟨a,vs,rfl,ha,rs⟩:=r;exact⟨a,rfl,⟨vs,ha⟩,h _ H1 L s (ItOk.tup ha rs) fun n=>k.shr ok.dom n⟩
   | str x =>
    refine .inr (.inr (q O σ H τ _ ok ?_));rw[ht];refine fun v H1 L s r k=>?_;exact⟨x,r.1,h _ H1 [] s ItOk.str fun n a ha=>(nomatch ha)⟩
   | _=>exact h.elim
  | err n =>
   rw[ht]at h;refine .inl (q O σ H τ _ ok ?_);rw[ht];exact h
  | bad=>rw[ht]at h;exact h.elim
def yq (hg:Gl X "range")(hm:X.mg "range"=none)(ha:MA X E Γ [a] u c)(hs:autoParam (jNc [a] X.env=[(false,eval a X.env)]) au3._auto_1):MI X E Γ tg (.Call (.Name "range" p) [a] [] pos) (iL vY u) .fresh:=by
 obtain⟨_,ta,p',q⟩:=ha;refine⟨_,Q2 hg hm p' hs,fun O σ H τ Rr ok h=>q O σ H τ _ ok ?_⟩;unfold iL at h;cases ht:u τ with
 | ok ds =>
  rw[ht,jYa]at h;refine fun vs H1 L s r k=>?_;unfold vY at h;split at h
  ·rename_i j;obtain⟨v,vs',L1,L2,e1,_,r1,r2⟩:=r;obtain⟨rfl,_⟩:=r1;obtain⟨rfl,_⟩:=r2
   by_cases hj:-(2 ^ 62)<=j/\j<2 ^ 62
   ·rw[jNk hj]at h;exact⟨j,e1,hj.1,hj.2,h _ H1 [] s ItOk.rng fun n a ha=>(nomatch ha)⟩
   ·rw[jPa hj]at h;exact h.elim
  ·exact h.elim
 | err n=>rw[ht]at h;exact h
 | bad=>rw[ht]at h;exact h
def wx (hg:Gl X "range")(hm:X.mg "range"=none)(ha:MA X E Γ [a,b] u c)(hs:autoParam (jNc [a,b] X.env=[(false,eval a X.env),(false,eval b X.env)]) au3._auto_1)(hs2:autoParam (jNc [b] X.env=[(false,eval b X.env)]) au3._auto_1):MI X E Γ tg (.Call (.Name "range" p) [a,b] [] pos) (iL Zz u) .fresh:=by
 obtain⟨_,ta,p',q⟩:=ha;refine⟨_,UI hg hm p' hs hs2,fun O σ H τ Rr ok h=>q O σ H τ _ ok ?_⟩;unfold iL at h;cases ht:u τ with
 | ok ds =>
  rw[ht,jYa]at h;refine fun vs H1 L s r k=>?_;unfold Zz at h;split at h
  ·rename_i i j;obtain⟨v,vs',L1,L2,e1,_,r1,v2,vs2,L3,L4,e2,_,r2,r3⟩:=r;obtain⟨rfl,_⟩:=r1;obtain⟨rfl,_⟩:=r2;obtain⟨rfl,_⟩:=r3;subst e2
   by_cases hj:-(2 ^ 62)<=i/\i<2 ^ 62/\-(2 ^ 62)<=j/\j<2 ^ 62
   ·rw[jNk hj]at h;exact⟨i,j,e1,hj,h _ H1 [] s ItOk.rng fun n a ha=>(nomatch ha)⟩
   ·rw[jPa hj]at h;exact h.elim
  ·exact h.elim
 | err n=>rw[ht]at h;exact h
 | bad=>rw[ht]at h;exact h
def YA {elts:List Expr}{x1:Nat}{tpos:Pos}(hg:Gl X "enumerate")(hm:X.mg "enumerate"=none)(ha:MA X E Γ [a] u c)(hb:autoParam (jKk "enumerate"=some (.type "enumerate")) au3._auto_1)(hs:autoParam (jNc [a] X.env=[(false,eval a X.env)]) au3._auto_1):
  MI X E Γ (.Tuple elts x1 tpos) (.Call (.Name "enumerate" p) [a] [] pos) (iL ZX u) c:=by
 obtain⟨_,ta,p',q⟩:=ha;refine⟨_,KL hg hm p' hb hs,fun O σ H τ Rr ok h=>q O σ H τ _ ok ?_⟩;unfold iL at h;cases ht:u τ with
 | ok ds =>
  rw[ht,jYa]at h;refine fun vs H1 L s r k=>?_;unfold ZX at h;split at h
  ·rename_i ds;obtain⟨v,vs',L1,L2,e1,e2,r1,r2⟩:=r;obtain⟨rfl,rfl⟩:=r2;rw[tQ]at e2;subst e2;obtain⟨a',vs2,L',rfl,ha,e,rs⟩:=r1;exact⟨a',e1,⟨vs2,SqL.of ha⟩,h _ H1 _ s (ItOk.enum ha e rs) fun n=>k.shr ok.dom n⟩
  ·exact h.elim
 | err n=>rw[ht]at h;exact h
 | bad=>rw[ht]at h;exact h
end
noncomputable def jl (fr:List (Option Nat))(τ:Tn):Tn:=fr.map fun o=>o.bind fun i=>(τ[i]?).join
noncomputable def y8 (fr:List (Option Nat))(Γ:List Cl):List Cl:=fr.map fun o=>match o with
 | some i=>(match Γ[i]? with
  | some .shr=>.shr
  | some .own=>.brw
  | some .brw=>.brw
  | _=>.dead)
 | none=>.dead
def yn (k:Cl):List Cl->List Nat->List Cl
 | Γ,[]=>Γ
 | Γ,i::is=>yn k (Γ.set i k) is
def Cl.ofIt:Rc->Cl
 | .bor=>.brw
 | _=>.shr
def yK (f:D->R (Option D)):List D->R (List D)
 | []=>.ok []
 | d::ds=>(f d).bind fun o=>(yK f ds).bind fun ys=>.ok (o.toList++ys)
def K3 {α:Type}:R α->R α
 | .err _=>.bad
 | r=>r
def xB (asg:D->Tn->R Tn)(cnd:Tn->R Bool)(elt:Tn->R D)(τ:Tn)(d:D):R (Option D):=
 K3 ((asg d τ).bind fun τ1=>(cnd τ1).bind fun k=>if k=true then (elt τ1).bind fun y=>.ok (some y) else .ok none)
def zR (fr:List (Option Nat))(it:Tn->R (List D))(g:Tgt)(cnd:Tn->R Bool)(elt:Tn->R D):Tn->R D:=fun τ=>(it τ).bind fun xs=>(yK (xB g.asg cnd elt (jl fr τ)) xs).bind fun ys=>if ys.length<=jNb then .ok (.lst ys) else .bad
def MTs (X:Cx)(E:XK)(Γ:List Cl)(ifs:List Expr)(t:Tn->R Bool):Prop:=
 ∃te,PTs X ifs te/\∀O σ H τ Q,EOk X.K Γ O H σ τ->postB X.K E H Q (t τ)->te σ H Q
def xh:MTs X E Γ [] (fun _=>.ok true):=⟨z6q,KD,fun O σ H τ Q ok h=>h H (Same.refl H)⟩
def qF {t:Tn->R Bool}(h:MT X E Γ e t):MTs X E Γ [e] t:=by
 obtain⟨te,p,q⟩:=h;exact⟨te,z0B p,q⟩
theorem MTs.pts {t:Tn->R Bool}(h:MTs X E Γ e t):PTs X e (wpT X.K E Γ t):=by
 obtain⟨te,p,q⟩:=h;rintro jNj s σ H Q I ⟨O,τ,ok,z⟩;exact p jNj s σ H Q I (q O σ H τ Q ok z)
def Same.upd_of {H H1 H2:Hp}(h:H p=none)(s:Same H H2):Same H (upd H2 p o):=fun b u e=>by
 rw[zC (zP e h)];exact s b u e
section
variable {K:jJa}{Γ:List Cl}{O:Addr->Prop}{H:Hp}{σ:St}{τ:Tn}
theorem EOk.comp {fr:List (Option Nat)}(h:EOk K Γ O H σ τ):EOk K (y8 fr Γ) O H (xt fr σ) (jl fr τ):=by
 refine⟨h.dom,fun j c e hc=>?_⟩;unfold y8 at e;rw[tN]at e;cases ho:fr[j]? with
 | none=>rw[ho]at e;cases e
 | some o =>
  rw[ho]at e;cases o with
  | none=>exact absurd (jYe e).symm hc
  | some i =>
   have e:(match Γ[i]? with|some .shr=>Cl.shr|some .own=>.brw|some .brw=>.brw|_=>.dead)=c:=jYe e;have key:∃k,Γ[i]?=some k/\k≠.dead/\(c=.shr->k=.shr):=by
    cases hk:Γ[i]? with
    | none=>rw[hk]at e;exact absurd e.symm hc
    | some k =>
     rw[hk]at e;cases k with
     | own=>subst e;exact⟨_,rfl,by simp,fun z=>by cases z⟩
     | shr=>exact⟨_,rfl,by simp,fun _=>rfl⟩
     | brw=>subst e;exact⟨_,rfl,by simp,fun z=>by cases z⟩
     | dead=>exact absurd e.symm hc
   obtain⟨k,k1,k2,k3⟩:=key;obtain⟨v,d,L,e1,e2,r,hs⟩:=h.slot i k k1 k2;refine⟨v,d,L,?_,?_,r,fun z=>hs (k3 z)⟩
   ·unfold xt;rw[tN,ho];show some ((σ[i]?).join)=_;rw[e1];rfl
   ·unfold jl;rw[tN,ho];show some ((τ[i]?).join)=_;rw[e2];rfl
theorem EOk.put {i:Nat}{k:Cl}{d:D}{v:V}{L:List Addr}(h:EOk K Γ O H σ τ)(r:Rep K H d v L)(hk:k=.shr->∀a∈L,¬O a)(h1:σ.length=Γ.length)(h2:τ.length=Γ.length):EOk K (Γ.set i k) O H (σ.set i (some v)) (τ.set i (some d)):=by
 refine⟨h.dom,fun j c e hc=>?_⟩
 by_cases z:i=j
 ·subst z;have hi:i<Γ.length:=by
   have:=(tJ.mp e).1
   simpa using this
  rw[tZ hi]at e;cases e;exact⟨v,d,L,by rw[tZ (by lia)],by rw[tZ (by lia)],r,hk⟩
 ·rw[tY z]at e;obtain⟨v',d',L',a1,a2,a3,a4⟩:=h.slot j c e hc;exact⟨v',d',L',by rw[tY z];exact a1,by rw[tY z];exact a2,a3,a4⟩
end
def EOk.putAll {K:jJa}{O:Addr->Prop}{H:Hp}{k:Cl}{Γ:List Cl}{σ:St}{τ:Tn}{is:List Nat}{ds:List D}{vs:List V}{L:List Addr}(h:EOk K Γ O H σ τ)(r:Reps K H ds vs L)(hL:k=.shr->∀a∈L,¬O a)(hl:ds.length=is.length)(h1:σ.length=Γ.length)(h2:τ.length=Γ.length):
  EOk K (yn k Γ is) O H (x5 σ is vs) (x5 τ is ds):=by
 induction is generalizing Γ σ τ ds vs L with
 | nil =>
  cases ds with
  | nil=>cases r.1;exact h
  | cons=>cases hl
 | cons i is ih =>
  cases ds with
  | nil=>cases hl
  | cons d ds =>
   obtain⟨v,vs',L1,L2,e1,e2,r1,r2⟩:=r;subst e1 e2;exact ih (h.put r1 (fun z a ha=>hL z a (tL _ ha)) h1 h2) r2 (fun z a ha=>hL z a (tD _ ha)) (Nat.succ.inj hl) (by rw[sD,sD];exact h1) (by rw[sD,sD];exact h2)
theorem kl {α:Type}:∀(is:List Nat) (σ:List (Option α)) (vs:List α),(x5 σ is vs).length=σ.length
 | [],σ,vs=>by unfold x5;rfl
 | i::is,σ,[]=>by unfold x5;rfl
 | i::is,σ,v::vs=>by unfold x5;rw[kl is,sD]
theorem Y4 {α:Type}{j:Nat}:∀(is:List Nat) (σ:List (Option α)) (vs:List α),j∉is->(x5 σ is vs)[j]?=σ[j]?
 | [],σ,vs,_=>by unfold x5;rfl
 | i::is,σ,[],_=>by unfold x5;rfl
 | i::is,σ,v::vs,h=>by
  unfold x5;rw[Y4 is _ vs (fun z=>h (tF _ z)),tY (fun (z:i=j)=>h (z▸tE))]
def z2c {K:jJa}{Γ:List Cl}{O:Addr->Prop}{H:Hp}{σ:St}{τ τ1:Tn}{d:D}{v:V}{L:List Addr}{g:Tgt}{k:Cl}(h:EOk K Γ O H σ τ)(r:Rep K H d v L)(hL:k=.shr->∀a∈L,¬O a)(h1:σ.length=Γ.length)(h2:τ.length=Γ.length)(ha:g.asg d τ=.ok τ1)
  {Q:St->Hp->Prop} (kk:∀σ1,EOk K (yn k Γ g.slots) O H σ1 τ1->σ1.length=σ.length->(∀j,j∉g.slots->σ1[j]?=σ[j]?)->Q σ1 H):tgG K g v σ H Q:=by
 cases g with
 | one i =>
  cases ha;exact kk _ (h.put r hL h1 h2) (by simp) fun j hj=>tY fun z=>hj (by simp[Tgt.slots,z])
 | many is =>
  cases d with
  | tup ds =>
   unfold Tgt.asg at ha;dsimp only at ha
   by_cases hl:ds.length=is.length
   ·rw[jNk hl]at ha;cases ha;obtain⟨a,vs,rfl,hs,rs⟩:=r;have hv:vs.length=is.length:=rs.length.trans hl;exact⟨a,vs,rfl,hs,hv,kk _ (h.putAll rs hL hl h1 h2) (kl _ _ _) fun j hj=>Y4 is σ vs hj⟩
   ·rw[jPa hl]at ha;cases ha
  | _=>cases ha
abbrev noX:XK:=fun _ _ _=>False
def Js {α:Type}{r:R α}{a:α}(h:K3 r=.ok a):r=.ok a:=by
 cases r with
 | ok b=>exact h
 | err n=>cases h
 | bad=>cases h
def UZ {α:Type}{r:R α}{n:Str}(h:K3 r=.err n):False:=by cases r<;>cases h
theorem j9 {f:D->R (Option D)}(hf:∀d n,f d≠.err n):∀(ds:List D) (n:Str),yK f ds≠.err n
 | [],n,h=>by cases h
 | d::ds,n,h=>by
  unfold yK at h;cases h1:f d with
  | ok o =>
   rw[h1,jYa]at h;cases h2:yK f ds with
   | ok ys=>rw[h2]at h;cases h
   | err m=>exact j9 hf ds m h2
   | bad=>rw[h2]at h;cases h
  | err m=>exact hf d m h1
  | bad=>rw[h1]at h;cases h
def vy {α β:Type}{r:R α}{f:α->R β}{b:β}(h:r.bind f=.ok b):∃a,r=.ok a/\f a=.ok b:=by
 cases r with
 | ok a=>exact⟨a,rfl,h⟩
 | err n=>cases h
 | bad=>cases h
def WL {f:D->R (Option D)}{d:D}{ds ys:List D}(h:yK f (d::ds)=.ok ys):∃o zs,f d=.ok o/\yK f ds=.ok zs/\ys=o.toList++zs:=by
 unfold yK at h;obtain⟨o,h1,h⟩:=vy h;obtain⟨zs,h2,h⟩:=vy h;cases h;exact⟨o,zs,h1,h2,rfl⟩
theorem EOk.live {K:jJa}{Γ:List Cl}{O:Addr->Prop}{H:Hp}{σ σ':St}{τ:Tn}(h:EOk K Γ O H σ τ)(e:∀(j:Nat) (c:Cl),Γ[j]?=some c->c≠Cl.dead->σ'[j]?=σ[j]?):EOk K Γ O H σ' τ:=
 ⟨h.dom,fun i c e1 hc=>by
  obtain⟨v,d,L,a1,a2,a3,a4⟩:=h.slot i c e1 hc;exact⟨v,d,L,by rw[e i c e1 hc];exact a1,a2,a3,a4⟩⟩
section
variable {X:Cx}{E:XK}{Γ:List Cl}{pos:Pos}
def qL {fr:List (Option Nat)}{tg iter:Expr}{it:Tn->R (List D)}{g:Tgt}{cnd:Tn->R Bool}{te:Tn->R D}{ci c:Rc}(hi:MI X E Γ tg iter it ci)(hcl:c≠.bor)(hd:∀j∈g.slots,(y8 fr Γ)[j]?=some .dead):
  ∃wi,PI X tg iter wi/\∀O σ H τ Q,EOk X.K Γ O H σ τ->post X.K E O c H Q (zR fr it g cnd te τ)->jg fr wi (tgG X.K g) (wpT X.K noX (yn (Cl.ofIt ci) (y8 fr Γ) g.slots) cnd) (wpE X.K noX (yn (Cl.ofIt ci) (y8 fr Γ) g.slots) te c) σ H Q:=by
 have hT0:∀σ H Q,(∃O τ,EOk X.K (yn (Cl.ofIt ci) (y8 fr Γ) g.slots) O H σ τ/\postB X.K noX H Q (cnd τ))->wpT X.K noX (yn (Cl.ofIt ci) (y8 fr Γ) g.slots) cnd σ H Q:=fun _ _ _ h=>h;have hE0:∀σ H Q,(∃O τ,EOk X.K (yn (Cl.ofIt ci) (y8 fr Γ) g.slots) O H σ τ/\post X.K noX O c H Q (te τ))->wpE X.K noX (yn (Cl.ofIt ci) (y8 fr Γ) g.slots) te c σ H Q:=fun _ _ _ h=>h;generalize wpT X.K noX (yn (Cl.ofIt ci) (y8 fr Γ) g.slots) cnd=TC at hT0 ⊢;generalize wpE X.K noX (yn (Cl.ofIt ci) (y8 fr Γ) g.slots) te c=TE0 at hE0 ⊢;obtain⟨wi,p,q⟩:=hi;refine⟨wi,p,fun O σ H τ Q ok h=>q O σ H τ _ ok ?_⟩;unfold zR at h;cases hit':it τ with
 | err n=>rw[hit']at h;exact h
 | bad=>rw[hit']at h;exact h
 | ok ds =>
  rw[hit',jYa]at h;refine fun J H1 L s1 hJ hO dd hD=>?_;obtain⟨hLd,hit⟩:=hJ;generalize hF:xB g.asg cnd te (jl fr τ)=F at h;cases hcL:yK F ds with
  | err n=>exact absurd hcL (j9 (fun d n z=>by rw[<-hF]at z;exact UZ z) ds n)
  | bad=>rw[hcL]at h;exact h.elim
  | ok ys =>
   rw[hcL,jYa]at h
   by_cases hz:ys.length<=jNb
   ·rw[jNk hz]at h;have hD0:H dd=none:=s1.non hD;have z4Y:(xt fr σ).length=(y8 fr Γ).length:=by simp[xt,y8]
    have lenT:(jl fr τ).length=(y8 fr Γ).length:=by simp[jl,y8]
    obtain⟨W,hW⟩:∃W:Nat->Nat->List V->St->Hp->Prop,∀i m ysv τ' H2,W i m ysv τ' H2↔(m=ds.length-i/\i<=ds.length/\H2 dd=some (.lst ysv)/\(∀b,b≠dd->H1 b≠none->H2 b=H1 b)/\τ'.length=(y8 fr Γ).length/\(∀j,j∉g.slots->τ'[j]?=(xt fr σ)[j]?) /\
     ∃dn rs Ly,ys=dn++rs/\yK F (ds.drop i)=.ok rs/\Reps X.K H2 dn ysv Ly/\dd∉Ly/\RcOk c O H1 Ly):=⟨_,fun _ _ _ _ _=>Iff.rfl⟩
    refine⟨W,⟨ds.length,(hW _ _ _ _ _).mpr ⟨by simp,rD _,zG,fun b hb _=>zC hb,z4Y,fun _ _=>rfl,[],ys,[],rfl,by simpa using hcL,Reps.nil,by simp,RcOk.nil⟩⟩,?_⟩;intro i m ysv τ' H2 hw0;obtain⟨rfl,hile,hDy,kp,hl',hj',dn,rs,Ly,eys,hrs,rdn,nD,kLy⟩:=(hW _ _ _ _ _).mp hw0;refine⟨hDy,?_⟩;have sH:Same H H2:=fun b o e=>by
     have e1:=s1 b o e;have nb:b≠dd:=zP e hD0;rw[kp b nb (by rw[e1];simp)];exact e1
    have s12:∀b o,H1 b=some o->H2 b=some o:=fun b o e=>by
     rw[kp b (zP e hD) (by rw[e];simp)];exact e
    have okO:EOk X.K Γ (fun a=>O a\/a=dd) H2 σ τ:=by
     refine⟨fun a ha=>?_,fun j k e hk=>?_⟩
     ·rcases ha with ha|ha
      ·exact (ok.same sH).dom a ha
      ·rw[ha,hDy];simp
     ·obtain⟨v,d,L0,a1,a2,a3,a4⟩:=ok.slot j k e hk;refine⟨v,d,L0,a1,a2,a3.same sH,fun z a ha hm=>?_⟩;rcases hm with hm|hm
      ·exact a4 z a ha hm
      ·exact a3.there ha (hm▸hD0)
    have okc:EOk X.K (y8 fr Γ) (fun a=>O a\/a=dd) H2 τ' (jl fr τ):=(okO.comp (fr:=fr)).live fun j k e hk=>hj' j fun hm=>by
     rw[hd j hm]at e;exact hk (jYe e).symm
    obtain⟨go,stop⟩:=hit H2 ⟨fun a xs e=>s12 a _ e,fun a o u e=>s12 a _ e,fun a C dx fs e=>s12 a _ e⟩ (fun a ha=>kp a (fun z=>hLd a ha (z▸hD)) (hLd a ha)) i
    by_cases hlt:i<ds.length
    ·obtain⟨hgo,hy⟩:=go ds[i] (by simp[hlt]);refine .inr ⟨hgo,fun x H3 y=>?_⟩;obtain⟨s3,L',r',sub⟩:=hy x H3 y;rw[sQ hlt]at hrs;obtain⟨o,zs,ho,hzs,ers⟩:=WL hrs;rw[<-hF]at ho;have ho:=Js ho;obtain⟨τ1,ha,ho⟩:=vy ho;obtain⟨k,hk,ho⟩:=vy ho;refine z2c (k:=Cl.ofIt ci) (okc.same s3) r' (fun z a ha hm=>?_) hl' lenT ha fun σ1 ok1 hl1 hj1=>?_
     ·have hci:ci≠.bor:=fun w=>by subst w;cases z
      rcases hm with hm|hm
      ·exact hO hci a (sub a ha) hm
      ·exact hLd a (sub a ha) (hm▸hD)
     ·refine hT0 _ _ _ ⟨_,τ1,ok1,?_⟩;rw[hk];refine fun H5 s5=>?_;have s25:=s3.trans s5;cases k with
      | true =>
       rw[jNk rfl]at ho;dsimp only;rw[jNk rfl];obtain⟨yd,hyd,ho⟩:=vy ho;cases ho;refine hE0 _ _ _ ⟨_,τ1,ok1.same s5,?_⟩;rw[hyd];refine fun yv H6 Lw s6 r6 k6=>?_;have s26:=s25.trans s6;have hD6:H6 dd=some (.lst ysv):=s26 dd _ hDy;have hlen:ysv.length=dn.length:=rdn.length;have nDw:dd∉Lw:=fun hm=>by
        cases c with
        | fresh=>have:=k6.2 dd hm;rw[s25 dd _ hDy]at this;cases this
        | shr=>exact k6 dd hm (.inr rfl)
        | bor=>exact hcl rfl
       have mu:(∃vs,H6 dd=some (.lst vs))\/∃kvs,H6 dd=some (.dK kvs):=.inl ⟨_,hD6⟩;refine⟨hD6,?_,ds.length-(i+1),by lia,(hW _ _ _ _ _).mpr ⟨rfl,hlt,zG,fun b hb hn=>?_,by rw[hl1];exact hl',fun j hj=>(hj1 j hj).trans (hj' j hj),dn++[yd],zs,Ly++Lw,?_,hzs,?_,?_,?_⟩⟩
       ·rw[eys,ers,tV,tV]at hz;simp only[Option.toList,sT]at hz;lia
       ·rw[zC hb,<-kp b hb hn];exact s26.at (by rw[kp b hb hn];exact hn)
       ·rw[eys,ers,sS];rfl
       ·have:=Reps.append ((rdn.same s26).upd (o:=.lst (ysv++[yv])) mu nD) (Reps.cons (r6.upd (o:=.lst (ysv++[yv])) mu nDw) Reps.nil);rw[tQ]at this;exact this
       ·intro hm;rcases tS.mp hm with z|z
        ·exact nD z
        ·exact nDw z
       ·cases c with
        | fresh =>
         refine⟨tX.mpr ⟨kLy.1,k6.1,fun a ha b hb z=>?_⟩,fun a ha=>?_⟩
         ·subst z;have h2:=rdn.there ha;have h5:=k6.2 a hb;exact h2 (s25.non h5)
         ·rcases tS.mp ha with z|z
          ·exact kLy.2 a z
          ·have h5:=k6.2 a z;have h2:H2 a=none:=s25.non h5;cases e1:H1 a with
           | none=>rfl
           | some o=>rw[s12 a o e1]at h2;cases h2
        | shr =>
         intro a ha;rcases tS.mp ha with z|z
         ·exact kLy a z
         ·exact fun w=>k6 a z (.inl w)
        | bor=>exact absurd rfl hcl
      | false =>
       rw[jPa tP]at ho;dsimp only;rw[jPa tP];cases ho;refine⟨ds.length-(i+1),by lia,(hW _ _ _ _ _).mpr ⟨rfl,hlt,s25 dd _ hDy,fun b hb hn=>?_,by rw[hl1];exact hl',fun j hj=>(hj1 j hj).trans (hj' j hj),dn,zs,Ly,?_,hzs,rdn.same s25,nD,kLy⟩⟩
       ·rw[<-kp b hb hn];exact s25.at (by rw[kp b hb hn];exact hn)
       ·rw[eys,ers];rfl
    ·have e:i=ds.length:=by lia
     subst e;rw[List.drop_length]at hrs;cases hrs;rw[tQ]at eys;subst eys;refine .inl ⟨stop (tI _),h (.ref dd) H2 (dd::Ly) sH ⟨dd,ysv,Ly,rfl,hDy,rfl,rdn⟩ ?_⟩;cases c with
     | fresh =>
      refine⟨sF.mpr ⟨nD,kLy.1⟩,fun a ha=>?_⟩;rcases tK.mp ha with z|z
      ·rw[z];exact hD0
      ·exact s1.non (kLy.2 a z)
     | shr =>
      intro a ha;rcases tK.mp ha with z|z
      ·rw[z];exact fun w=>ok.dom dd w hD0
      ·exact kLy a z
     | bor=>exact absurd rfl hcl
   ·rw[jPa hz]at h;exact h.elim
def wg {N':List Str}{fr:List (Option Nat)}{scope:Scope}{tg iter elt:Expr}{ifs:List Expr}{it:Tn->R (List D)}{g:Tgt}{cnd:Tn->R Bool}{te:Tn->R D}{ci c:Rc}(hc:X.calm=true)(S:CompScope X N' fr scope)(hi:MI X E Γ tg iter it ci)
  (hg:∀s₃ H₃ fp jNj,MG (zA X scope N' s₃ H₃ fp jNj) tg g) (ht:∀s₃ H₃ fp jNj,MTs (zA X scope N' s₃ H₃ fp jNj) noX (yn (Cl.ofIt ci) (y8 fr Γ) g.slots) ifs cnd)
  (he:∀s₃ H₃ fp jNj,ME (zA X scope N' s₃ H₃ fp jNj) noX (yn (Cl.ofIt ci) (y8 fr Γ) g.slots) elt te c) (hcl:c≠.bor) (hd:∀j∈g.slots,(y8 fr Γ)[j]?=some .dead)
  (hs:autoParam (∀x,jYh iter X.env x=pure x) au2._auto_1):ME X E Γ (.ListComp elt [⟨tg,iter,ifs,0⟩] scope pos) (zR fr it g cnd te) c:=by
 obtain⟨wi,p,q⟩:=qL (cnd:=cnd) (te:=te) hi hcl hd;exact⟨_,z11 hc S p (fun s₃ H₃ fp jNj=>(hg s₃ H₃ fp jNj).pg) (fun s₃ H₃ fp jNj=>(ht s₃ H₃ fp jNj).pts) (fun s₃ H₃ fp jNj=>(he s₃ H₃ fp jNj).pe) hs,q⟩
def z08 {Γl:List Cl}{N':List Str}{fr:List (Option Nat)}{scope:Scope}{tg iter elt:Expr}{ifs:List Expr}{it:Tn->R (List D)}{g:Tgt}{cnd:Tn->R Bool}{te:Tn->R D}{ci:Rc}{i:Nat}{x:Str}{pos' cpos:Pos}(hc:X.calm=true)(S:CompScope X N' fr scope)(hi:MI X E Γ tg iter it ci)
  (hg:∀s₃ H₃ fp jNj,MG (zA X scope N' s₃ H₃ fp jNj) tg g) (ht:∀s₃ H₃ fp jNj,MTs (zA X scope N' s₃ H₃ fp jNj) noX (yn (Cl.ofIt ci) (y8 fr Γ) g.slots) ifs cnd)
  (he:∀s₃ H₃ fp jNj,ME (zA X scope N' s₃ H₃ fp jNj) noX (yn (Cl.ofIt ci) (y8 fr Γ) g.slots) elt te .fresh) (hd:∀j∈g.slots,(y8 fr Γ)[j]?=some .dead)
  (hN:X.N.Nodup) (hix:X.N[i]?=some x) (hl:i<Γ.length) (hx:Loc X.env.scope x) (hsw:jMj (.ListComp elt [⟨tg,iter,ifs,0⟩] scope cpos) (some (.Name x pos')) pos.line X.env=pure true)
  (hs:autoParam (∀x,jYh iter X.env x=pure x) au2._auto_1) (hf:autoParam (X.fn x=true\/X.env.scope.names.lookup x=some .local) au0._auto_1):
  MS X E Γl Γ (.Assign [.Name x pos'] (.ListComp elt [⟨tg,iter,ifs,0⟩] scope cpos) pos) (zl i (zR fr it g cnd te)) (Γ.set i .own):=by
 obtain⟨wi,p,q⟩:=qL (cnd:=cnd) (te:=te) (c:=.fresh) hi (by decide) hd;refine⟨_,KO (g:=tgG X.K g) (tc:=wpT X.K noX (yn (Cl.ofIt ci) (y8 fr Γ) g.slots) cnd) (te:=wpE X.K noX (yn (Cl.ofIt ci) (y8 fr Γ) g.slots) te .fresh) hc S p (fun s₃ H₃ fp jNj=>(hg s₃ H₃ fp jNj).pg) (fun s₃ H₃ fp jNj=>(ht s₃ H₃ fp jNj).pts) (fun s₃ H₃ fp jNj=>(he s₃ H₃ fp jNj).pe) hN hix hx hsw hs hf,fun B σ H τ Z ok h=>?_⟩;obtain⟨O,eo,_⟩:=ok.eok;refine q O σ H τ _ eo ?_;unfold zl at h;cases ht':zR fr it g cnd te τ with
 | ok d =>
  rw[ht',jYa]at h;exact fun v H' L s r k=>h _ _ (SOk.into (T:=[]) (ok.aside s (fun a ha=>r.there ha) k.1 k.2) r hl)
 | err n=>rw[ht']at h;exact fun C H' e s=>h C H' e (ok.ext.trans s)
 | bad=>rw[ht']at h;exact h
end
def spM (K:jJa)(F:List D->R D)(n:Nat):Sp:=fun vs H Q E=>vs.length=n/\∃ds L,Reps K H ds vs L/\post K E (fun _=>False) .fresh H Q (F ds)
noncomputable def zF (n:Nat)(t:Tn->R Fl)(ds:List D):R D:=match t (ds.map some++List.replicate (n-ds.length) none)with
 | .ok (.rt d)=>.ok d
 | .ok (.nx _)=>.ok .non
 | .err c=>.err c
 | _=>.bad
def jG (n m:Nat):List Cl:=List.replicate m .shr++List.replicate (n-m) .dead
theorem Reps.slot {K:jJa}{H:Hp}{ds:List D}{vs:List V}{L:List Addr}(r:Reps K H ds vs L):∃Ls:Nat->List Addr,∀(i:Nat) (d:D),ds[i]?=some d->∃v,vs[i]?=some v/\Rep K H d v (Ls i):=by
 have:∀i:Nat,∃L1:List Addr,∀d,ds[i]?=some d->∃v,vs[i]?=some v/\Rep K H d v L1:=fun i=>by
  cases h:ds[i]? with
  | none=>exact⟨[],fun d z=>by cases z⟩
  | some d =>
   obtain⟨v,L1,e1,r1,_⟩:=r.get h;exact⟨L1,fun d' z=>by cases z;exact⟨v,e1,r1⟩⟩
 exact⟨fun i=>Classical.choose (this i),fun i=>Classical.choose_spec (this i)⟩
theorem SOk.start {K:jJa}{H:Hp}{N:List Str}{ds:List D}{vs:List V}{L:List Addr}(r:Reps K H ds vs L)(hn:vs.length<=N.length):SOk K (jG N.length vs.length) H H (L2.start N vs) (ds.map some++List.replicate (N.length-ds.length) none) []:=by
 have hl:=r.length;have lp:(jG N.length vs.length).length=N.length:=by unfold jG;rw[tV,rB,rB];lia
 obtain⟨Ls,hL⟩:=r.slot;have cls:∀i c,(jG N.length vs.length)[i]?=some c->c≠.dead->i<vs.length/\c=.shr:=fun i c e hc=>by
  unfold jG at e
  by_cases hi:i<vs.length
  ·rw[sP (by simpa using hi),pA,jNk hi]at e;exact⟨hi,(jYe e).symm⟩
  ·rw[sU (by simp;lia),pA]at e;split at e
   ·exact absurd (jYe e).symm hc
   ·cases e
 have no:∀i:Nat,(jG N.length vs.length)[i]?≠some Cl.own:=fun i e=>by
  have:=(cls i _ e (by simp)).2;cases this
 refine⟨Same.refl H,?_,?_,Ls,fun i c e hc=>?_,fun i e=>absurd e (no i),fun i j c _ e=>absurd e (no i),rN,fun a ha=>(nomatch ha),fun i c e hc a ha hm=>(nomatch hm)⟩
 ·unfold L2.start;rw[lp,tV,tH,rB];lia
 ·rw[lp,tV,tH,rB];lia
 ·obtain⟨hi,_⟩:=cls i c e hc;have hi':i<ds.length:=by lia
  obtain⟨v,e1,r1⟩:=hL i ds[i] (by simp[hi']);refine⟨v,ds[i],?_,?_,r1⟩
  ·unfold L2.start;rw[sP (by simpa using hi),tN,e1];rfl
  ·rw[sP (by simpa using hi'),tN];simp[hi']
section
variable {P:jNe}{w:World}{K:jJa}{mg:Str->Option Value}{base:Heap}{x:Str}{st:Stmt}{N ps:List Str}{k:Nat}{t:Tn->R Fl}{Γ':List Cl}
theorem DefIn.mir (Df:DefIn K mg x st ps)(S:FnScope N ps (defScope st))(hn:ps.length<=N.length)
  (hbody:∀(f:Addr) (cdv:Value) (A:jNf) (outer:List Env) (s:jNg) (H:Hp) (E:XK),Room k (A.deeper (envOfC x (defScope st) s.heap.objs.size f cdv)) ->
   MSs (yZ (cxx P w) P w K mg base N x (defScope st) f cdv A outer s H E) E [] (jG N.length ps.length) (defBody st) t Γ'):Own P w K mg base x (k+1) ps (spM K (zF N.length t) ps.length):=by
 refine Df.own S (fun vs H Q E h=>h.1) fun f cdv A outer s H vs Q E hr h=>?_;obtain⟨hl,ds,L,r,h⟩:=h;obtain⟨ts,p,q⟩:=hbody f cdv A outer s H E hr;refine⟨ts,p,q H (start N vs) H _ _ (hl▸SOk.start r (by lia)) ?_⟩;unfold zF at h;cases ht:t (ds.map some++List.replicate (N.length-ds.length) none)with
 | ok f =>
  rw[ht]at h;cases f with
  | nx τ'=>exact fun σ' H' ok'=>h .non H' [] ok'.ext ⟨rfl,rfl⟩ RcOk.nil
  | rt d=>exact fun v H' L s r n1 n2=>h v H' L s r ⟨n1,n2⟩
  | bk τ'=>exact h.elim
  | ct τ'=>exact h.elim
 | err n=>rw[ht]at h;exact fun C H' e s=>h C H' e s
 | bad=>rw[ht]at h;exact h.elim
end
section
variable {X:Cx}{E:XK}{Γ Γ' Γl:List Cl}{x:Str}{k:Nat}{ps:List Str}{F:List D->R D}{e:Expr}{es:List Expr}{u:Tn->R (List D)}{c:Rc}{p pos:Pos}{n:Nat}
def z0Y (O:Own X.prog X.w X.K X.mg X.base x k ps (spM X.K F n))(hr:Room k X.A)(hg:Gl X x)(hx:uX (cxx X.prog X.w) X E)(ha:MA X E Γ (e::es) u c)(hl:autoParam ((e::es).length=n) au3._auto_1)(hdb:autoParam ((x==("__debug__":Str))=false) au1._auto_1)
  (he:autoParam (jNc (e::es) X.env=(false,eval e X.env)::jNc es X.env) au3._auto_1) (hpl:autoParam ((jNh pos (jNc es X.env)).any (·.1)=false) au3._auto_1):ME X E Γ (.Call (.Name x p) (e::es) [] pos) (eL F u) .fresh:=by
 obtain⟨hlen,ta,pa,q⟩:=ha;refine⟨_,z2h O hr hg hx pa hdb he hpl,fun O' σ H τ Q ok h=>q O' σ H τ _ ok ?_⟩;unfold eL at h;cases hu:u τ with
 | ok ds =>
  rw[hu,jYa]at h;refine fun vs H1 L s1 r1 _=>?_;have hv:(vs++[]).length=n:=by rw[tQ,r1.length,hlen τ ds hu];exact hl
  refine⟨hv,ds,L,by rw[tQ];exact r1,?_⟩;have h1:=h.same s1;cases hF:F ds with
  | ok d=>rw[hF]at h1;exact h1
  | err n=>rw[hF]at h1;exact h1
  | bad=>rw[hF]at h1;exact h1
 | err n=>rw[hu]at h;exact h
 | bad=>rw[hu]at h;exact h
end
def D.isS:D->Bool
 | .non=>true
 | .bl _=>true
 | .int _=>true
 | .str _=>true
 | _=>false
noncomputable def eqS:D->D->Bool
 | .non,.non=>true
 | .bl a,.bl b=>a==b
 | .bl a,.int b=>(if a then 1 else 0)==b
 | .int a,.bl b=>a==(if b then 1 else 0)
 | .int a,.int b=>a==b
 | .str a,.str b=>a==b
 | _,_=>false
def yA (f:D->D->Option Bool):List D->List D->Option Bool
 | x::xs,y::ys=>match f x y,yA f xs ys with
  | some a,some b=>some (a&&b)
  | _,_=>none
 | _,_=>some true
def vQ {b:Bool}(h:(none:Option Bool)=some b):False:=by cases h
noncomputable def eqF:Nat->D->D->Option Bool
 | 0,x,y=>if (x.isS&&y.isS)=true then some (eqS x y) else none
 | n+1,x,y=>match x,y with
  | .lst xs,.lst ys=>if xs.length=ys.length then yA (eqF n) xs ys else some false
  | .tup xs,.tup ys=>(yA (eqF n) xs ys).map fun b=>b&&xs.length==ys.length
  | .frl xs,.lst ys=>if xs.length=ys.length then yA (eqF n) xs ys else some false
  | .frl xs,.frl ys=>if xs.length=ys.length then yA (eqF n) xs ys else some false
  | .lst _,.tup _=>some false
  | .tup _,.lst _=>some false
  | .lst _,y=>if y.isS=true then some false else none
  | .tup _,y=>if y.isS=true then some false else none
  | x,.lst _=>if x.isS=true then some false else none
  | x,.tup _=>if x.isS=true then some false else none
  | x,y=>if (x.isS&&y.isS)=true then some (eqS x y) else none
def Ua {K:jJa}{H:Hp}{d:D}{v:V}{L:List Addr}{u:Value}(h:d.isS=true)(r:Rep K H d v L)(q:RelV v u):
  (d=.non/\u=.none)\/(∃b,d=.bl b/\u=.bool b)\/(∃i t,d=.int i/\u=.int i t)\/∃x t,d=.str x/\u=.str x t:=by
 cases d with
 | non=>obtain⟨rfl,_⟩:=r;exact .inl ⟨rfl,q⟩
 | bl b=>obtain⟨rfl,_⟩:=r;exact .inr (.inl ⟨b,rfl,q⟩)
 | int i=>obtain⟨rfl,_⟩:=r;obtain⟨t,e⟩:=q;exact .inr (.inr (.inl ⟨i,t,rfl,e⟩))
 | str x=>obtain⟨rfl,_⟩:=r;obtain⟨t,e⟩:=q;exact .inr (.inr (.inr ⟨x,t,rfl,e⟩))
 | _=>cases h
open SeqAt in
def X2 {A:jNf}{s:jNg}{K:jJa}{H:Hp}{d1 d2:D}{v1 v2:V}{L1 L2:List Addr}{u1 u2:Value}(h1:d1.isS=true)(h2:d2.isS=true)(r1:Rep K H d1 v1 L1)(r2:Rep K H d2 v2 L2)(q1:RelV v1 u1)(q2:RelV v2 u2):
  RcAt A s u1 u2 (eqS d1 d2)/\EqAt A s u1 u2 (eqS d1 d2)/\RcNeAt A s u1 u2 (!eqS d1 d2):=by
 rcases Ua h1 r1 q1 with⟨rfl,rfl⟩|⟨a,rfl,rfl⟩|⟨a,t,rfl,rfl⟩|⟨a,t,rfl,rfl⟩ <;>
 rcases Ua h2 r2 q2 with⟨rfl,rfl⟩|⟨b,rfl,rfl⟩|⟨b,t',rfl,rfl⟩|⟨b,t',rfl,rfl⟩
 ·exact⟨RcAt.none_none,EqAt.same _,RcNeAt.none_none⟩
 ·exact⟨RcAt.none_bool b,EqAt.none_bool b,RcNeAt.none_bool b⟩
 ·exact⟨RcAt.none_int b _,EqAt.none_int b _,RcNeAt.none_int b _⟩
 ·exact⟨RcAt.none_str b _,EqAt.none_str b _,RcNeAt.none_str b _⟩
 ·exact⟨RcAt.bool_none a,EqAt.bool_none a,RcNeAt.bool_none a⟩
 ·exact⟨RcAt.bool_bool a b,EqAt.bool_bool a b,RcNeAt.bool_bool a b⟩
 ·exact⟨RcAt.bool_int a b _,EqAt.bool_int a b _,RcNeAt.bool_int a b _⟩
 ·exact⟨RcAt.bool_str a b _,EqAt.bool_str a b _,RcNeAt.bool_str a b _⟩
 ·exact⟨RcAt.int_none a _,EqAt.int_none a _,RcNeAt.int_none a _⟩
 ·exact⟨RcAt.int_bool a _ b,EqAt.int_bool a _ b,RcNeAt.int_bool a _ b⟩
 ·exact⟨RcAt.int_int a _ b _,EqAt.int_int a _ b _,RcNeAt.int_int a _ b _⟩
 ·exact⟨RcAt.int_str a _ b _,EqAt.int_str a _ b _,RcNeAt.int_str a _ b _⟩
 ·exact⟨RcAt.str_none a _,EqAt.str_none a _,RcNeAt.str_none a _⟩
 ·exact⟨RcAt.str_bool a _ b,EqAt.str_bool a _ b,RcNeAt.str_bool a _ b⟩
 ·exact⟨RcAt.str_int a _ b _,EqAt.str_int a _ b _,RcNeAt.str_int a _ b _⟩
 ·exact⟨RcAt.str_str a _ b _,EqAt.str_str a _ b _,RcNeAt.str_str a _ b _⟩
open SeqAt in
def Wr {A:jNf}{s:jNg}{K:jJa}{H:Hp}{d:D}{v:V}{L:List Addr}{u:Value}{l:Addr}{items:Array Value}(hd:d.isS=true)(r:Rep K H d v L)(q:RelV v u)(hl:s.heap.IsList l items)(hu:A.units<cLine):
  (RcAt A s (.ref l) u false/\EqAt A s (.ref l) u false/\RcNeAt A s (.ref l) u true)/\RcAt A s u (.ref l) false/\EqAt A s u (.ref l) false/\RcNeAt A s u (.ref l) true:=by
 rcases Ua hd r q with⟨rfl,rfl⟩|⟨b,rfl,rfl⟩|⟨b,t',rfl,rfl⟩|⟨b,t',rfl,rfl⟩
 ·exact⟨⟨RcAt.list_none hl hu,EqAt.list_none hl hu,RcNeAt.list_none hl hu⟩,RcAt.none_list hl hu,EqAt.none_list hl hu,RcNeAt.none_list hl hu⟩
 ·exact⟨⟨RcAt.list_bool b hl hu,EqAt.list_bool b hl hu,RcNeAt.list_bool b hl hu⟩,RcAt.bool_list b hl hu,EqAt.bool_list b hl hu,RcNeAt.bool_list b hl hu⟩
 ·exact⟨⟨RcAt.list_int b _ hl hu,EqAt.list_int b _ hl hu,RcNeAt.list_int b _ hl hu⟩,RcAt.int_list b _ hl hu,EqAt.int_list b _ hl hu,RcNeAt.int_list b _ hl hu⟩
 ·exact⟨⟨RcAt.list_str b _ hl hu,EqAt.list_str b _ hl hu,RcNeAt.list_str b _ hl hu⟩,RcAt.str_list b _ hl hu,EqAt.str_list b _ hl hu,RcNeAt.str_list b _ hl hu⟩
open SeqAt in
def Wq {A:jNf}{s:jNg}{K:jJa}{H:Hp}{d:D}{v:V}{L:List Addr}{u:Value}{l:Addr}{items:Array Value}(hd:d.isS=true)(r:Rep K H d v L)(q:RelV v u)(hl:s.heap.IsTuple l items)(hu:A.units<cLine):
  (RcAt A s (.ref l) u false/\EqAt A s (.ref l) u false/\RcNeAt A s (.ref l) u true)/\RcAt A s u (.ref l) false/\EqAt A s u (.ref l) false/\RcNeAt A s u (.ref l) true:=by
 rcases Ua hd r q with⟨rfl,rfl⟩|⟨b,rfl,rfl⟩|⟨b,t',rfl,rfl⟩|⟨b,t',rfl,rfl⟩
 ·exact⟨⟨RcAt.tuple_none hl hu,EqAt.tuple_none hl hu,RcNeAt.tuple_none hl hu⟩,RcAt.none_tuple hl hu,EqAt.none_tuple hl hu,RcNeAt.none_tuple hl hu⟩
 ·exact⟨⟨RcAt.tuple_bool b hl hu,EqAt.tuple_bool b hl hu,RcNeAt.tuple_bool b hl hu⟩,RcAt.bool_tuple b hl hu,EqAt.bool_tuple b hl hu,RcNeAt.bool_tuple b hl hu⟩
 ·exact⟨⟨RcAt.tuple_int b _ hl hu,EqAt.tuple_int b _ hl hu,RcNeAt.tuple_int b _ hl hu⟩,RcAt.int_tuple b _ hl hu,EqAt.int_tuple b _ hl hu,RcNeAt.int_tuple b _ hl hu⟩
 ·exact⟨⟨RcAt.tuple_str b _ hl hu,EqAt.tuple_str b _ hl hu,RcNeAt.tuple_str b _ hl hu⟩,RcAt.str_tuple b _ hl hu,EqAt.str_tuple b _ hl hu,RcNeAt.str_tuple b _ hl hu⟩
def wQ (f:D->D->Option Bool)(xs ys:List D)(j:Nat):Bool:=match xs[j]?,ys[j]? with
 | some x,some y=>(f x y).getD false
 | _,_=>true
theorem ur {f:D->D->Option Bool}:∀ {xs ys:List D} {b:Bool},yA f xs ys=some b->b=(List.range (min xs.length ys.length)).all (wQ f xs ys)/\∀j x y,xs[j]?=some x->ys[j]?=some y->f x y=some (wQ f xs ys j)
 | [],ys,b,h=>by
  unfold yA at h;cases h;exact⟨by simp,fun j x y e=>by simp at e⟩
 | x::xs,[],b,h=>by
  unfold yA at h;cases h;exact⟨by simp,fun j x y e e'=>by simp at e'⟩
 | x::xs,y::ys,b,h=>by
  unfold yA at h;cases h1:f x y with
  | none=>rw[h1]at h;cases h
  | some a =>
   cases h2:yA f xs ys with
   | none=>rw[h1,h2]at h;cases h
   | some b' =>
    rw[h1,h2]at h;cases h;obtain⟨e1,e2⟩:=ur h2;have z0:wQ f (x::xs) (y::ys) 0=a:=by simp[wQ,h1]
    have zs:∀j,wQ f (x::xs) (y::ys) (j+1)=wQ f xs ys j:=fun j=>by simp[wQ]
    refine⟨?_,fun j x' y' ex ey=>?_⟩
    ·have hm:min (x::xs).length (y::ys).length=min xs.length ys.length+1:=by simp[Nat.succ_min_succ]
     rw[hm,List.range_succ_eq_map,List.all_cons,List.all_map,z0,e1];congr 1
    ·cases j with
     | zero=>simp at ex ey;subst ex ey;rw[z0];exact h1
     | succ j=>rw[zs];exact e2 j x' y' (by simpa using ex) (by simpa using ey)
section
variable {X:Cx}{jNj:List (Addr×Obj)}{σ:St}{H:Hp}{s:jNg}
noncomputable def D.ofV:V->D
 | .bl b=>.bl b
 | .int i=>.int i
 | .str x=>.str x
 | _=>.non
theorem Rep.ofV {K:jJa}{H:Hp}{d:D}{v:V}{L:List Addr}(h:∀a,v≠.ref a)(r:Rep K H d v L):d=D.ofV v:=by
 cases d with
 | non=>rw[r.1];rfl
 | bl=>rw[r.1];rfl
 | int=>rw[r.1];rfl
 | str=>rw[r.1];rfl
 | tup=>obtain⟨a,_,e,_⟩:=r;exact absurd e (h a)
 | lst=>obtain⟨a,_,_,e,_⟩:=r;exact absurd e (h a)
 | dic=>obtain⟨a,_,_,e,_⟩:=r;exact absurd e (h a)
 | frl=>obtain⟨a,_,e,_⟩:=r;exact absurd e (h a)
 | obj=>obtain⟨a,_,_,e,_⟩:=r;exact absurd e (h a)
theorem Rep.oneS {K:jJa}{H:Hp}{d d':D}{u v:V}{L L':List Addr}(e:v=u)(hs:∀a,u≠.ref a)(r:Rep K H d v L)(r':Rep K H d' v L'):d=d':=by
 subst e;exact (r.ofV hs).trans (r'.ofV hs).symm
theorem Rep.noS {K:jJa}{H:Hp}{d:D}{a:Addr}{L:List Addr}(r:Rep K H d (.ref a) L)(h:d.isS=true):False:=by
 cases d with
 | non=>cases r.1
 | bl=>cases r.1
 | int=>cases r.1
 | str=>cases r.1
 | _=>cases h
def Yu (I:Inv X jNj σ H s)(h:SqT X.K H a vs)(h':H a=some o)(n1:∀xs,o≠.tup xs)(n2:∀p xs,o≠.frz p (.tup xs)):False:=by
 rcases h with (z|⟨p,z⟩)|⟨o',its,n,hk,hc,_⟩
 ·rw[z]at h';exact n1 _ (jYe h').symm
 ·rw[z]at h';exact n2 _ _ (jYe h').symm
 ·have:=(I.bs a o' (I.mod.kin a o' hk)).2;rw[this]at h';cases h'
def Y5 (I:Inv X jNj σ H s)(h:SqF X.K H a vs)(h':H a=some o)(n2:∀p xs,o≠.frz p (.lst xs)):False:=by
 rcases h with⟨p,z⟩|⟨o',its,n,hk,hc,_⟩
 ·rw[z]at h';exact n2 _ _ (jYe h').symm
 ·have:=(I.bs a o' (I.mod.kin a o' hk)).2;rw[this]at h';cases h'
def z22 (I:Inv X jNj σ H s)(h':SqT X.K H a ws)(h:SqF X.K H a vs):False:=by
 obtain⟨its,_,⟨o1,n1,e1,c1,_⟩,_⟩:=I.list h.sq;obtain⟨its2,_,⟨o2,e2,c2,_⟩,_⟩:=I.tuple h';rw[e1]at e2;cases e2;rw[c1]at c2;exact absurd c2 (by simp)
def z1O {a:Addr}{xs:List V}{kvs:List (Key×V)}{H:Hp}(h:H a=some (.lst xs))(h':H a=some (.dK kvs)):False:=by
 rw[h]at h';cases h'
mutual
theorem Rep.one (I:Inv X jNj σ H s):∀(d d':D) (v:V) (L L':List Addr),Rep X.K H d v L->Rep X.K H d' v L'->d=d'
 | .non,_,_,_,_,r,r'=>Rep.oneS r.1 (fun _ z=>V.noConfusion z) r r'
 | .bl _,_,_,_,_,r,r'=>Rep.oneS r.1 (fun _ z=>V.noConfusion z) r r'
 | .int _,_,_,_,_,r,r'=>Rep.oneS r.1 (fun _ z=>V.noConfusion z) r r'
 | .str _,_,_,_,_,r,r'=>Rep.oneS r.1 (fun _ z=>V.noConfusion z) r r'
 | .tup ds,d',_,L,L',hq5,r=>by
  obtain⟨a,vs,e,h,rs⟩:=hq5;subst e;cases d' with
  | non=>exact (Rep.noS r rfl).elim
  | bl _=>exact (Rep.noS r rfl).elim
  | int _=>exact (Rep.noS r rfl).elim
  | str _=>exact (Rep.noS r rfl).elim
  | tup ds' =>
   obtain⟨a',vs',e,h',rs'⟩:=r;cases e;cases I.tuple_inj h h';rw[Reps.one I ds ds' vs L L' rs rs']
  | lst _ =>
   obtain⟨_,_,_,e,h',_⟩:=r;cases e;exact (Yu I h h' (fun _ z=>HO.noConfusion z) fun _ _ z=>HO.noConfusion z).elim
  | dic _ _ =>
   obtain⟨_,_,_,e,h',_⟩:=r;cases e;exact (Yu I h h' (fun _ z=>HO.noConfusion z) fun _ _ z=>HO.noConfusion z).elim
  | frl _ =>
   obtain⟨_,_,e,h',_⟩:=r;cases e;exact (z22 I h h').elim
  | obj _ _ _ =>
   obtain⟨_,_,_,e,h',_⟩:=r;cases e;exact (Yu I h h' (fun _ z=>HO.noConfusion z) fun _ _ z=>HO.noConfusion z).elim
 | .lst ds,d',_,L,L',hq5,r=>by
  obtain⟨a,vs,L1,e,h,_,rs⟩:=hq5;subst e;cases d' with
  | non=>exact (Rep.noS r rfl).elim
  | bl _=>exact (Rep.noS r rfl).elim
  | int _=>exact (Rep.noS r rfl).elim
  | str _=>exact (Rep.noS r rfl).elim
  | tup ds' =>
   obtain⟨a',vs',e,h',rs'⟩:=r;cases e;exact (Yu I h' h (fun _ z=>HO.noConfusion z) fun _ _ z=>HO.noConfusion z).elim
  | lst ds' =>
   obtain⟨_,_,_,e,h',_,rs'⟩:=r;cases e;rw[h]at h';cases h';rw[Reps.one I ds ds' vs _ _ rs rs']
  | dic _ _ =>
   obtain⟨_,_,_,e,h',_⟩:=r;cases e;exact (z1O h h').elim
  | frl _ =>
   obtain⟨_,_,e,h',_⟩:=r;cases e;exact (Y5 I h' h fun _ _ z=>HO.noConfusion z).elim
  | obj _ _ _ =>
   obtain⟨_,_,_,e,h',_⟩:=r;cases e;rw[h]at h';cases h'
 | .dic ks ds,d',_,L,L',hq5,r=>by
  obtain⟨a,kvs,L1,e,h,_,hk,_,rs⟩:=hq5;subst e;cases d' with
  | non=>exact (Rep.noS r rfl).elim
  | bl _=>exact (Rep.noS r rfl).elim
  | int _=>exact (Rep.noS r rfl).elim
  | str _=>exact (Rep.noS r rfl).elim
  | tup ds' =>
   obtain⟨a',vs',e,h',rs'⟩:=r;cases e;exact (Yu I h' h (fun _ z=>HO.noConfusion z) fun _ _ z=>HO.noConfusion z).elim
  | lst ds' =>
   obtain⟨_,_,_,e,h',_,rs'⟩:=r;cases e;exact (z1O h' h).elim
  | dic ks' ds' =>
   obtain⟨_,_,_,e,h',_,hk',_,rs'⟩:=r;cases e;rw[h]at h';cases h';rw[<-hk,<-hk',Reps.one I ds ds' _ _ _ rs rs']
  | frl _ =>
   obtain⟨_,_,e,h',_⟩:=r;cases e;exact (Y5 I h' h fun _ _ z=>HO.noConfusion z).elim
  | obj _ _ _ =>
   obtain⟨_,_,_,e,h',_⟩:=r;cases e;rw[h]at h';cases h'
 | .frl ds,d',_,L,L',hq5,r=>by
  obtain⟨a,vs,e,h,_,_,rs⟩:=hq5;subst e;cases d' with
  | non=>exact (Rep.noS r rfl).elim
  | bl _=>exact (Rep.noS r rfl).elim
  | int _=>exact (Rep.noS r rfl).elim
  | str _=>exact (Rep.noS r rfl).elim
  | tup ds' =>
   obtain⟨a',vs',e,h',rs'⟩:=r;cases e;exact (z22 I h' h).elim
  | lst ds' =>
   obtain⟨_,_,_,e,h',_,rs'⟩:=r;cases e;exact (Y5 I h h' fun _ _ z=>HO.noConfusion z).elim
  | dic ks' ds' =>
   obtain⟨_,_,_,e,h',_,hk',_,rs'⟩:=r;cases e;exact (Y5 I h h' fun _ _ z=>HO.noConfusion z).elim
  | frl ds' =>
   obtain⟨_,_,e,h',_,_,rs'⟩:=r;cases e;have:=I.list_inj h.sq h'.sq;subst this;rw[Reps.one I ds ds' vs _ _ rs rs']
  | obj _ _ _ =>
   obtain⟨_,_,_,e,h',_⟩:=r;cases e;exact (Y5 I h h' fun _ _ z=>HO.noConfusion z).elim
 | .obj C ns ds,d',_,L,L',hq5,r=>by
  obtain⟨a,dx,fs,e,h,hk,rs⟩:=hq5;subst e;cases d' with
  | non=>exact (Rep.noS r rfl).elim
  | bl _=>exact (Rep.noS r rfl).elim
  | int _=>exact (Rep.noS r rfl).elim
  | str _=>exact (Rep.noS r rfl).elim
  | tup ds' =>
   obtain⟨a',vs',e,h',rs'⟩:=r;cases e;exact (Yu I h' h (fun _ z=>HO.noConfusion z) fun _ _ z=>HO.noConfusion z).elim
  | lst ds' =>
   obtain⟨_,_,_,e,h',_,rs'⟩:=r;cases e;rw[h]at h';cases h'
  | dic ks' ds' =>
   obtain⟨_,_,_,e,h',_,hk',_,rs'⟩:=r;cases e;rw[h]at h';cases h'
  | frl ds' =>
   obtain⟨_,_,e,h',_,_,rs'⟩:=r;cases e;exact (Y5 I h' h fun _ _ z=>HO.noConfusion z).elim
  | obj C' ns' ds' =>
   obtain⟨_,_,_,e,h',hk',rs'⟩:=r;cases e;rw[h]at h';cases h';rw[<-hk,<-hk',Reps.one I ds ds' _ _ _ rs rs']
theorem Reps.one (I:Inv X jNj σ H s):∀(ds ds':List D) (vs:List V) (L L':List Addr),Reps X.K H ds vs L->Reps X.K H ds' vs L'->ds=ds'
 | [],ds',_,_,_,hq5,r=>by
  obtain⟨e,_⟩:=hq5;subst e;cases ds' with
  | nil=>rfl
  | cons _ _=>obtain⟨_,_,_,_,e,_⟩:=r;cases e
 | d::ds,ds',_,_,_,hq5,r=>by
  obtain⟨v,vs',L1,L2,e1,_,h1,h2⟩:=hq5;subst e1;cases ds' with
  | nil=>obtain⟨e,_⟩:=r;cases e
  | cons d' ds' =>
   obtain⟨v',vs2,L3,L4,e,_,r1,r2⟩:=r;cases e;rw[Rep.one I d d' v _ _ h1 r1,Reps.one I ds ds' vs' _ _ h2 r2]
end
end
def XN:∀(d:D),d.isS=true->eqS d d=true
 | .non,_=>rfl
 | .bl b,_=>beq_self_eq_true b
 | .int b,_=>beq_self_eq_true b
 | .str b,_=>beq_self_eq_true b
 | .tup _,h=>nomatch h
 | .lst _,h=>nomatch h
 | .dic _ _,h=>nomatch h
 | .frl _,h=>nomatch h
 | .obj _ _ _,h=>nomatch h
def Jm:∀(n:Nat) (d:D) (b:Bool),eqF n d d=some b->b=true:=by
 intro n
 induction n with
 | zero =>
  intro d b h
  replace h:(if (d.isS&&d.isS)=true then some (eqS d d) else none)=some b:=h
  split at h
  ·rename_i hs;simp only[Bool.and_self]at hs;rw[XN d hs]at h;exact (jYe h).symm
  ·cases h
 | succ n ih =>
  have zip:∀(xs:List D) (b:Bool),yA (eqF n) xs xs=some b->b=true:=by
   intro xs
   induction xs with
   | nil=>intro b h;unfold yA at h;exact (jYe h).symm
   | cons x xs ihx =>
    intro b h;unfold yA at h;cases h1:eqF n x x with
    | none=>rw[h1]at h;cases h
    | some a =>
     cases h2:yA (eqF n) xs xs with
     | none=>rw[h1,h2]at h;cases h
     | some b' =>
      rw[h1,h2]at h;cases h;rw[ih x a h1,ihx b' h2];rfl
  intro d b h;cases d with
  | lst xs =>
   have h:(if xs.length=xs.length then yA (eqF n) xs xs else some false)=some b:=h;rw[jNk rfl]at h;exact zip xs b h
  | tup xs =>
   have h:(yA (eqF n) xs xs).map (fun b=>b&&xs.length==xs.length)=some b:=h;cases h1:yA (eqF n) xs xs with
   | none=>rw[h1]at h;cases h
   | some b'=>rw[h1]at h;rw[zip xs b' h1]at h;simp at h;exact h.symm▸rfl
  | non=>have h:some true=some b:=h;exact (jYe h).symm
  | bl x=>have h:some (x==x)=some b:=h;exact (jYe h).symm.trans (beq_self_eq_true x)
  | int x=>have h:some (x==x)=some b:=h;exact (jYe h).symm.trans (beq_self_eq_true x)
  | str x=>have h:some (x==x)=some b:=h;exact (jYe h).symm.trans (beq_self_eq_true x)
  | dic _ _=>cases h
  | obj _ _ _=>cases h
  | frl xs =>
   have h:(if xs.length=xs.length then yA (eqF n) xs xs else some false)=some b:=h;rw[jNk rfl]at h;exact zip xs b h
open SeqAt in
def jO {b:Bool}(h:RcAt A s (.ref a) (.ref a') b)(hs:a=a'->b=true):EqAt A s (.ref a) (.ref a') b:=by
 by_cases z:a=a'
 ·subst z;rw[hs rfl];exact EqAt.same _
 ·exact EqAt.of_refs z h
open SeqAt in
def jP (I:Inv X jNj σ H s){n:Nat}{A:jNf}(hu0:A.units<cLine)
  (ih:∀(d1 d2:D) (v1 v2:V) (L1 L2:List Addr) (u1 u2:Value) (b:Bool),eqF n d1 d2=some b->Rep X.K H d1 v1 L1->Rep X.K H d2 v2 L2->RelV v1 u1->RelV v2 u2->EqAt A.in1 s u1 u2 b)
  {a a2:Addr} {vs vs2:List V} {xs ys:List D} {L L2:List Addr} {b:Bool} (ha:SqL X.K H a vs) (rs:Reps X.K H xs vs L) (ha2:SqL X.K H a2 vs2) (rs2:Reps X.K H ys vs2 L2)
  (h:(if xs.length=ys.length then yA (eqF n) xs ys else some false)=some b) (same:a=a2->b=true):RcAt A s (.ref a) (.ref a2) b/\EqAt A s (.ref a) (.ref a2) b/\RcNeAt A s (.ref a) (.ref a2) (!b):=by
 obtain⟨its,rv,pl,_⟩:=I.list ha;obtain⟨its2,rv2,pl2,_⟩:=I.list ha2;have l1:its.length=xs.length:=by rw[<-rv.length,rs.length]
 have l2:its2.length=ys.length:=by rw[<-rv2.length,rs2.length]
 by_cases hl:xs.length=ys.length
 ·rw[jNk hl]at h;obtain⟨e1,e2⟩:=ur h;have he:∀j (h1:j<its.toArray.size) (h2:j<its2.toArray.size),EqAt A.in1 s its.toArray[j] its2.toArray[j] (wQ (eqF n) xs ys j):=fun j h1 h2=>by
   have h1':j<xs.length:=by simpa [l1] using h1
   have h2':j<ys.length:=by simpa [l2] using h2
   obtain⟨w1,L3,g1,g2,_⟩:=rs.get (i:=j) (d:=xs[j]) (by simp[h1']);obtain⟨w2,L4,g3,g4,_⟩:=rs2.get (i:=j) (d:=ys[j]) (by simp[h2']);obtain⟨z1,k1,k2⟩:=rv.get g1;obtain⟨z2,k3,k4⟩:=rv2.get g3;have m1:its.toArray[j]=z1:=by
    have:=(tJ.mp k1).2
    simpa using this
   have m2:its2.toArray[j]=z2:=by
    have:=(tJ.mp k3).2
    simpa using this
   rw[m1,m2];exact ih _ _ w1 w2 L3 L4 z1 z2 _ (e2 j _ _ (by simp[h1']) (by simp[h2'])) g2 g4 k2 k4
  have hsz:its.toArray.size=its2.toArray.size:=by simp[l1,l2,hl]
  have eb:b=(List.range its.toArray.size).all (wQ (eqF n) xs ys):=by
   rw[e1];congr 2;simp[l1,hl]
  have rc:=RcAt.lists pl.isList pl2.isList hsz hu0 he;have rn:=RcNeAt.lists pl.isList pl2.isList hsz hu0 he;rw[<-eb]at rc rn;exact⟨rc,jO rc same,rn⟩
 ·rw[jPa hl]at h;cases h;have hsz:(its.toArray.size != its2.toArray.size)=true:=by simp[l1,l2,hl]
  have rc:=RcAt.lists_lengths pl.isList pl2.isList hsz hu0;exact⟨rc,jO rc same,RcNeAt.lists_lengths pl.isList pl2.isList hsz hu0⟩
open SeqAt in
def QD {X:Cx}{jNj:List (Addr×Obj)}{σ:St}{H:Hp}{s:jNg}(I:Inv X jNj σ H s):∀(n:Nat) (A:jNf) (d1 d2:D) (v1 v2:V) (L1 L2:List Addr) (u1 u2:Value) (b:Bool),A.units+n<cLine->eqF n d1 d2=some b ->
  Rep X.K H d1 v1 L1->Rep X.K H d2 v2 L2->RelV v1 u1->RelV v2 u2->RcAt A s u1 u2 b/\EqAt A s u1 u2 b/\RcNeAt A s u1 u2 (!b):=by
 intro n
 induction n with
 | zero =>
  intro A d1 d2 v1 v2 L1 L2 u1 u2 b hu h r1 r2 q1 q2;have h:(if (d1.isS&&d2.isS)=true then some (eqS d1 d2) else none)=some b:=h;split at h
  ·rename_i hs;rw[sG]at hs;cases h;exact X2 hs.1 hs.2 r1 r2 q1 q2
  ·cases h
 | succ n ih =>
  intro A d1 d2 v1 v2 L1 L2 u1 u2 b hu h r1 r2 q1 q2;have hu0:A.units<cLine:=by lia
  have hu1:A.in1.units+n<cLine:=by show A.units+1+n<cLine;lia
  have same:∀a,v1=.ref a->v2=.ref a->b=true:=fun a e1 e2=>by
   subst e1 e2;have:=Rep.one I d1 d2 _ _ _ r1 r2;subst this;exact Jm (n+1) d1 b h
  by_cases s1:d1.isS=true
  ·by_cases s2:d2.isS=true
   ·have e:b=eqS d1 d2:=by
     cases d1<;>first|exact absurd s1 tP|(cases d2<;>first|exact absurd s2 tP|exact (jYe h).symm)
    subst e;exact X2 s1 s2 r1 r2 q1 q2
   ·cases d2 with
    | lst ys =>
     have e:b=false:=by cases d1<;>first|exact absurd s1 tP|exact (jYe h).symm
     subst e;obtain⟨a,vs,L',e2,ha,_,rs⟩:=r2;have q2:u2=Value.ref a:=by rw[e2]at q2;exact q2
     rw[q2];obtain⟨its,rv,pl,_⟩:=I.list (SqL.of ha);exact (Wr s1 r1 q1 pl.isList hu0).2
    | tup ys =>
     have e:b=false:=by cases d1<;>first|exact absurd s1 tP|exact (jYe h).symm
     subst e;obtain⟨a,vs,e2,ha,rs⟩:=r2;have q2:u2=Value.ref a:=by rw[e2]at q2;exact q2
     rw[q2];obtain⟨its,rv,pl,_⟩:=I.tuple ha;exact (Wq s1 r1 q1 pl hu0).2
    | dic _ _=>cases d1<;>first | exact absurd s1 tP | exact (vQ (b:=b) h).elim
    | frl _=>cases d1<;>first | exact absurd s1 tP | exact (vQ (b:=b) h).elim
    | obj _ _ _=>cases d1<;>first | exact absurd s1 tP | exact (vQ (b:=b) h).elim
    | _=>exact absurd rfl s2
  ·cases d1 with
   | lst xs =>
    obtain⟨a,vs,L',e1,ha,_,rs⟩:=r1;have q1:u1=Value.ref a:=by rw[e1]at q1;exact q1
    rw[q1];obtain⟨its,rv,pl,_⟩:=I.list (SqL.of ha);cases d2 with
    | lst ys =>
     obtain⟨a2,vs2,L2',e2,ha2,_,rs2⟩:=r2;have q2:u2=Value.ref a2:=by rw[e2]at q2;exact q2
     rw[q2];exact jP I hu0 (fun d1 d2 v1 v2 L1 L2 u1 u2 b e r1 r2 q1 q2=>(ih A.in1 d1 d2 v1 v2 L1 L2 u1 u2 b hu1 e r1 r2 q1 q2).2.1) (SqL.of ha) rs (SqL.of ha2) rs2 h fun z=>same a e1 (by rw[z];exact e2)
    | tup ys =>
     obtain⟨a2,vs2,e2,ha2,rs2⟩:=r2;have q2:u2=Value.ref a2:=by rw[e2]at q2;exact q2
     rw[q2];obtain⟨its2,rv2,pl2,_⟩:=I.tuple ha2;cases (jYe (show some false=some b from h));exact⟨RcAt.list_tuple pl.isList pl2 hu0,EqAt.list_tuple pl.isList pl2 hu0,RcNeAt.list_tuple pl.isList pl2 hu0⟩
    | dic _ _=>exact (vQ (b:=b) h).elim
    | frl _=>exact (vQ (b:=b) h).elim
    | obj _ _ _=>exact (vQ (b:=b) h).elim
    | non=>cases (jYe (show some false=some b from h));exact (Wr (d:=.non) rfl r2 q2 pl.isList hu0).1
    | bl x=>cases (jYe (show some false=some b from h));exact (Wr (d:=.bl x) rfl r2 q2 pl.isList hu0).1
    | int x=>cases (jYe (show some false=some b from h));exact (Wr (d:=.int x) rfl r2 q2 pl.isList hu0).1
    | str x=>cases (jYe (show some false=some b from h));exact (Wr (d:=.str x) rfl r2 q2 pl.isList hu0).1
   | tup xs =>
    obtain⟨a,vs,e1,ha,rs⟩:=r1;have q1:u1=Value.ref a:=by rw[e1]at q1;exact q1
    rw[q1];obtain⟨its,rv,pl,_⟩:=I.tuple ha;cases d2 with
    | tup ys =>
     obtain⟨a2,vs2,e2,ha2,rs2⟩:=r2;have q2:u2=Value.ref a2:=by rw[e2]at q2;exact q2
     rw[q2];obtain⟨its2,rv2,pl2,_⟩:=I.tuple ha2;have h:(yA (eqF n) xs ys).map (fun b=>b&&xs.length==ys.length)=some b:=h;have l1:its.length=xs.length:=by rw[<-rv.length,rs.length]
     have l2:its2.length=ys.length:=by rw[<-rv2.length,rs2.length]
     cases hz:yA (eqF n) xs ys with
     | none=>rw[hz]at h;cases h
     | some b' =>
      rw[hz]at h;have h:(b'&&xs.length==ys.length)=b:=jYe h;have e1':=e1;have e2':=e2;obtain⟨e1,e2⟩:=ur hz;have he:∀j (h1:j<its.toArray.size) (h2:j<its2.toArray.size),EqAt A.in1 s its.toArray[j] its2.toArray[j] (wQ (eqF n) xs ys j):=fun j h1 h2=>by
       have h1':j<xs.length:=by simpa [l1] using h1
       have h2':j<ys.length:=by simpa [l2] using h2
       obtain⟨w1,L3,g1,g2,_⟩:=rs.get (i:=j) (d:=xs[j]) (by simp[h1']);obtain⟨w2,L4,g3,g4,_⟩:=rs2.get (i:=j) (d:=ys[j]) (by simp[h2']);obtain⟨z1,k1,k2⟩:=rv.get g1;obtain⟨z2,k3,k4⟩:=rv2.get g3;have m1:its.toArray[j]=z1:=by
        have:=(tJ.mp k1).2
        simpa using this
       have m2:its2.toArray[j]=z2:=by
        have:=(tJ.mp k3).2
        simpa using this
       rw[m1,m2];exact (ih A.in1 _ _ w1 w2 L3 L4 z1 z2 _ hu1 (e2 j _ _ (by simp[h1']) (by simp[h2'])) g2 g4 k2 k4).2.1
      have eb:b=((List.range (min its.toArray.size its2.toArray.size)).all (wQ (eqF n) xs ys)&&its.toArray.size==its2.toArray.size):=by
       rw[<-h,e1];simp[l1,l2]
      have rc:=RcAt.tuples pl pl2 hu0 he;have rn:=RcNeAt.tuples pl pl2 hu0 he;rw[<-eb]at rc rn;exact⟨rc,jO rc fun z=>same a e1' (by rw[z];exact e2'),rn⟩
    | lst ys =>
     obtain⟨a2,vs2,L2',e2,ha2,_,rs2⟩:=r2;have q2:u2=Value.ref a2:=by rw[e2]at q2;exact q2
     rw[q2];obtain⟨its2,rv2,pl2,_⟩:=I.list (SqL.of ha2);cases (jYe (show some false=some b from h));exact⟨RcAt.tuple_list pl pl2.isList hu0,EqAt.tuple_list pl pl2.isList hu0,RcNeAt.tuple_list pl pl2.isList hu0⟩
    | dic _ _=>exact (vQ (b:=b) h).elim
    | frl _=>exact (vQ (b:=b) h).elim
    | obj _ _ _=>exact (vQ (b:=b) h).elim
    | non=>cases (jYe (show some false=some b from h));exact (Wq (d:=.non) rfl r2 q2 pl hu0).1
    | bl x=>cases (jYe (show some false=some b from h));exact (Wq (d:=.bl x) rfl r2 q2 pl hu0).1
    | int x=>cases (jYe (show some false=some b from h));exact (Wq (d:=.int x) rfl r2 q2 pl hu0).1
    | str x=>cases (jYe (show some false=some b from h));exact (Wq (d:=.str x) rfl r2 q2 pl hu0).1
   | dic _ _=>cases d2<;>exact (vQ (b:=b) h).elim
   | obj _ _ _=>cases d2<;>exact (vQ (b:=b) h).elim
   | frl xs =>
    cases d2 with
    | lst ys =>
     obtain⟨a,vs,e1,ha,_,_,rs⟩:=r1;have q1:u1=Value.ref a:=by rw[e1]at q1;exact q1
     rw[q1];obtain⟨a2,vs2,L2',e2,ha2,_,rs2⟩:=r2;have q2:u2=Value.ref a2:=by rw[e2]at q2;exact q2
     rw[q2];exact jP I hu0 (fun d1 d2 v1 v2 L1 L2 u1 u2 b e r1 r2 q1 q2=>(ih A.in1 d1 d2 v1 v2 L1 L2 u1 u2 b hu1 e r1 r2 q1 q2).2.1) ha.sq rs (SqL.of ha2) rs2 h fun z=>same a e1 (by rw[z];exact e2)
    | tup ys=>exact (vQ (b:=b) h).elim
    | dic _ _=>exact (vQ (b:=b) h).elim
    | obj _ _ _=>exact (vQ (b:=b) h).elim
    | frl ys =>
     obtain⟨a,vs,e1,ha,_,_,rs⟩:=r1;have q1:u1=Value.ref a:=by rw[e1]at q1;exact q1
     rw[q1];obtain⟨a2,vs2,e2,ha2,_,_,rs2⟩:=r2;have q2:u2=Value.ref a2:=by rw[e2]at q2;exact q2
     rw[q2];exact jP I hu0 (fun d1 d2 v1 v2 L1 L2 u1 u2 b e r1 r2 q1 q2=>(ih A.in1 d1 d2 v1 v2 L1 L2 u1 u2 b hu1 e r1 r2 q1 q2).2.1) ha.sq rs ha2.sq rs2 h fun z=>same a e1 (by rw[z];exact e2)
    | non=>exact (vQ (b:=b) h).elim
    | bl x=>exact (vQ (b:=b) h).elim
    | int x=>exact (vQ (b:=b) h).elim
    | str x=>exact (vQ (b:=b) h).elim
   | _=>exact absurd rfl s1
def yh {K:jJa}{H:Hp}{ds:List D}{vs:List V}{L:List Addr}(r:Reps K H ds vs L)(h:D.imms ds=true):Reps K H ds vs []:=by
 have:=Reps.imm ds vs L r h;subst this;exact r
def uj {K:jJa}{H:Hp}{ds:List D}{vs:List V}{p:Addr}{Q:VK}(r:Reps K H ds vs [])(hp:H p=none)(q:∀v H' L,Same H H'->Rep K H' (.lst ds) v L->L.Nodup->(∀a∈L,H a=none)->Q v H'):Q (.ref p) (upd H p (.lst vs)):=
 q _ _ [p] (Same.new hp) ⟨p,vs,[],rfl,zG,rfl,r.same (Same.new hp)⟩ (by simp) (fun a ha=>by rw[sI.mp ha];exact hp)
noncomputable def zB:D->D->R D
 | .int i,.int j=>.ok (.int (i+j))
 | .str x,.str y=>if x.length+y.length<=jNb then .ok (.str (x++y)) else .bad
 | .lst xs,.lst ys=>if D.imms xs=true/\D.imms ys=true/\xs.length+ys.length<=jNb then .ok (.lst (xs++ys)) else .bad
 | .tup xs,.tup ys=>if D.imms xs=true/\D.imms ys=true/\xs≠[]/\xs.length+ys.length<=jNb then .ok (.tup (xs++ys)) else .bad
 | _,_=>.bad
def z1H (K:jJa):R2:=fun x y H Q=>(∃i j,x=.int i/\y=.int j/\Q (.int (i+j)) H)\/(∃i j,x=.str i/\y=.str j/\i.length+j.length<=jNb/\Q (.str (i++j)) H)\/z4h x y H Q\/z1F K x y H Q
def z01:OpR X (binaryOp .Add) (z1H X.K):=(OpR.or z3i (OpR.or V3 (OpR.or z3g z0C)))
def z40 {K:jJa}:OpB K (z1H K) zB:=by
 rintro H x y dx dy Lx Ly Q rx ry ⟨d,hg,q⟩;unfold zB at hg;split at hg
 ·cases hg;exact .inl ⟨_,_,rx.1,ry.1,q _ H [] (Same.refl H) ⟨rfl,rfl⟩ (by simp) (fun a ha=>nomatch ha)⟩
 ·split at hg
  ·rename_i hz;cases hg;exact .inr (.inl ⟨_,_,rx.1,ry.1,hz,q _ H [] (Same.refl H) ⟨rfl,rfl⟩ (by simp) (fun a ha=>nomatch ha)⟩)
  ·cases hg
 ·rename_i xs ys;split at hg
  ·rename_i hz;cases hg;obtain⟨a,vs,L1,rfl,ha,_,rs⟩:=rx;obtain⟨b,ws,L2,rfl,hb,_,qs⟩:=ry;refine .inr (.inr (.inl ⟨a,b,vs,ws,rfl,rfl,ha,hb,by rw[rs.length,qs.length];exact hz.2.2,fun p hp=>uj (ds:=xs++ys) ?_ hp q⟩));exact Reps.append (yh rs hz.1) (yh qs hz.2.1)
  ·cases hg
 ·rename_i xs ys;split at hg
  ·rename_i hz;cases hg;obtain⟨a,vs,rfl,ha,rs⟩:=rx;obtain⟨b,ws,rfl,hb,qs⟩:=ry;have hne:vs≠[]:=fun z=>hz.2.2.1 (by have:=rs.length;rw[z]at this;exact pC.mp this.symm);have rr:=Reps.append (yh rs hz.1) (yh qs hz.2.1);refine .inr (.inr (.inr ⟨a,b,vs,ws,rfl,rfl,ha,hb,hne,by rw[rs.length,qs.length];exact hz.2.2.2,fun z=>?_,fun _ p hp=>?_⟩))
   ·subst z;rw[tQ]at rr;exact q _ H [] (Same.refl H) ⟨a,vs,rfl,ha,rr⟩ (by simp) (fun a ha=>nomatch ha)
   ·exact q _ _ [] (Same.new hp) ⟨p,vs++ws,rfl,SqT.of zG,rr.same (Same.new hp)⟩ (by simp) (fun a ha=>nomatch ha)
  ·cases hg
 ·cases hg
def z4N:xn zB:=fun x y n h=>by
 unfold zB at h;split at h
 ·cases h
 ·split at h<;>cases h
 ·split at h<;>cases h
 ·split at h<;>cases h
 ·cases h
def intD (C:Int->Int->Bool)(g:Int->Int->D):D->D->R D
 | .int i,.int j=>if C i j=true then .ok (g i j) else .bad
 | _,_=>.bad
def yM {C:Int->Int->Bool}{g:Int->Int->D}:xn (intD C g):=fun x y n h=>by
 unfold intD at h;split at h
 ·split at h<;>cases h
 ·cases h
noncomputable def z2R:D->V
 | .int i=>.int i
 | .bl b=>.bl b
 | .str x=>.str x
 | _=>.non
def Wa {K:jJa}{H:Hp}:∀ {d:D},d.isS=true->Rep K H d (z2R d) []
 | .non,_=>⟨rfl,rfl⟩
 | .bl _,_=>⟨rfl,rfl⟩
 | .int _,_=>⟨rfl,rfl⟩
 | .str _,_=>⟨rfl,rfl⟩
 | .tup _,h=>nomatch h
 | .lst _,h=>nomatch h
 | .dic _ _,h=>nomatch h
 | .frl _,h=>nomatch h
 | .obj _ _ _,h=>nomatch h
def z1N {K:jJa}{C:Int->Int->Bool}{g:Int->Int->D}{P:Int->Int->Prop}{gv:Int->Int->V}(hP:∀i j,C i j=true->P i j)(hs:∀i j,(g i j).isS=true)(hv:∀i j,z2R (g i j)=gv i j):OpB K (rI P gv) (intD C g):=by
 rintro H x y dx dy Lx Ly Q rx ry ⟨d,hg,q⟩;unfold intD at hg;split at hg
 ·split at hg
  ·rename_i i j hz;cases hg;refine⟨i,j,rx.1,ry.1,hP i j hz,?_⟩;rw[<-hv];exact q _ H [] (Same.refl H) (Wa (hs i j)) (by simp) (fun a ha=>nomatch ha)
  ·cases hg
 ·cases hg
def kd {K:jJa}{g:Int->Int->D}{gv:Int->Int->V}(hs:∀i j,(g i j).isS=true)(hv:∀i j,z2R (g i j)=gv i j):OpB K (rI0 gv) (intD (fun _ _=>true) g):=by
 rintro H x y dx dy Lx Ly Q rx ry ⟨d,hg,q⟩;unfold intD at hg;split at hg
 ·rw[jNk rfl]at hg;rename_i i j;cases hg;refine⟨i,j,rx.1,ry.1,?_⟩;rw[<-hv];exact q _ H [] (Same.refl H) (Wa (hs i j)) (by simp) (fun a ha=>nomatch ha)
 ·cases hg
abbrev wN:D->D->R D:=intD (fun _ _=>true) fun i j=>.int (i-j)
abbrev zN:D->D->R D:=intD (fun _ j=>decide (0<j)&&decide (j<1073741824)) fun i j=>.int (i/j)
abbrev zY:D->D->R D:=intD (fun _ j=>decide (0<j)) fun i j=>.int (i%j)
abbrev ltD:D->D->R D:=intD (fun _ _=>true) fun i j=>.bl (decide (i<j))
abbrev leD:D->D->R D:=intD (fun _ _=>true) fun i j=>.bl (decide (i<=j))
abbrev gtD:D->D->R D:=intD (fun _ _=>true) fun i j=>.bl (decide (j<i))
abbrev geD:D->D->R D:=intD (fun _ _=>true) fun i j=>.bl (decide (j<=i))
def z5N {K:jJa}:OpB K (rI0 fun i j=>.int (i-j)) wN:=kd (fun _ _=>rfl) fun _ _=>rfl
def z3A {K:jJa}:OpB K (rI z4i fun i j=>.int (i/j)) zN:=z1N (fun i j h=>by simp only[sG,decide_eq_true_eq]at h;exact h) (fun _ _=>rfl) fun _ _=>rfl
def z5O {K:jJa}:OpB K (rI (fun _ j=>0<j) fun i j=>.int (i%j)) zY:=z1N (fun i j h=>by simpa using h) (fun _ _=>rfl) fun _ _=>rfl
def qQ {K:jJa}:OpB K (rI0 fun i j=>.bl (decide (i<j))) ltD:=kd (fun _ _=>rfl) fun _ _=>rfl
def z12 {K:jJa}:OpB K (rI0 fun i j=>.bl (decide (i<=j))) leD:=kd (fun _ _=>rfl) fun _ _=>rfl
def Qg {K:jJa}:OpB K (rI0 fun i j=>.bl (decide (j<i))) gtD:=kd (fun _ _=>rfl) fun _ _=>rfl
def z6x {K:jJa}:OpB K (rI0 fun i j=>.bl (decide (j<=i))) geD:=kd (fun _ _=>rfl) fun _ _=>rfl
noncomputable def yH:D->D->R D
 | .int i,.int j=>if ((decide (-(2 ^ 64)<i)&&decide (i<2 ^ 64))||(decide (-(2 ^ 64)<j)&&decide (j<2 ^ 64)))=true then .ok (.int (i*j)) else .bad
 | .lst xs,.int k=>if D.imms xs=true/\-(2 ^ 63)<=k/\k<2 ^ 63/\xs.length*k.toNat<=jNb then .ok (.lst (List.replicate k.toNat xs).flatten) else .bad
 | _,_=>.bad
def z3Z:xn yH:=fun x y n h=>by
 unfold yH at h;split at h
 ·split at h<;>cases h
 ·split at h<;>cases h
 ·cases h
def KS:OpR X (binaryOp .Mult) (fun x y H Q=>rI CMul (fun i j=>.int (i*j)) x y H Q\/z3R x y H Q):=OpR.or z3B z3y
theorem Reps.rep {K:jJa}{H:Hp}{ds:List D}{vs:List V}(r:Reps K H ds vs []):∀k:Nat,Reps K H (List.replicate k ds).flatten (List.replicate k vs).flatten []
 | 0=>by simpa using Reps.nil
 | k+1=>by
  rw[sV,sV,rH,rH];exact Reps.append r (Reps.rep r k)
def z5a {K:jJa}:OpB K (fun x y H Q=>rI CMul (fun i j=>.int (i*j)) x y H Q\/z3R x y H Q) yH:=by
 rintro H x y dx dy Lx Ly Q rx ry ⟨d,hg,q⟩;unfold yH at hg;split at hg
 ·split at hg
  ·rename_i i j hz;cases hg;refine .inl ⟨i,j,rx.1,ry.1,?_,q _ H [] (Same.refl H) ⟨rfl,rfl⟩ (by simp) (fun a ha=>nomatch ha)⟩
   simpa [CMul] using hz
  ·cases hg
 ·split at hg
  ·rename_i xs k hz;cases hg;obtain⟨a,vs,L1,rfl,ha,_,rs⟩:=rx;exact .inr ⟨a,k,vs,rfl,ry.1,ha,hz.2.1,hz.2.2.1,by rw[rs.length];exact hz.2.2.2,fun p hp=>uj (Reps.rep (yh rs hz.1) _) hp q⟩
  ·cases hg
 ·cases hg
def Kj (K:jJa)(neg:Bool):R2:=fun x y H Q=>∃dx dy Lx Ly b,Rep K H dx x Lx/\Rep K H dy y Ly/\eqF 12 dx dy=some b/\Q (.bl (if neg=true then !b else b)) H
def z2D (hu:X.A.units+12<cLine):OpR X (jMi .Eq) (Kj X.K false):=by
 rintro jNj s σ H x y v u Q I rx ry ⟨dx,dy,Lx,Ly,b,r1,r2,he,q⟩;exact (QD I 12 X.A dx dy x y Lx Ly v u b hu he r1 r2 rx ry).1 X.prog X.w X.xe _ ⟨.bl b,H,I,rfl,q⟩
def z2i (hu:X.A.units+12<cLine):OpR X (jMi .NotEq) (Kj X.K true):=by
 rintro jNj s σ H x y v u Q I rx ry ⟨dx,dy,Lx,Ly,b,r1,r2,he,q⟩;exact (QD I 12 X.A dx dy x y Lx Ly v u b hu he r1 r2 rx ry).2.2 X.prog X.w X.xe _ ⟨.bl (!b),H,I,rfl,q⟩
def yf:List Key->List D->Key->Option D
 | k::ks,d::ds,j=>if k=j then some d else yf ks ds j
 | _,_,_=>none
noncomputable def hitsD (js:List Key)(ys:List D):List Key->List D->Option Bool
 | k::ks,x::xs=>match yf js ys k with
  | none=>some false
  | some y=>if (x.isS&&y.isS)=true then (hitsD js ys ks xs).map (eqS x y&&·) else none
 | _,_=>some true
theorem uq {K:jJa}{H:Hp}:∀ {kvs:List (Key×V)} {ds:List D} {L:List Addr} {k:Key} {d:D},Reps K H ds (kvs.map (·.2)) L->yf (kvs.map (·.1)) ds k=some d->∃v L1,uW kvs k=some v/\Rep K H d v L1/\List.Sublist L1 L
 | [],ds,_,k,d,r,h=>by cases ds<;>cases h
 | p::kvs,[],_,k,d,r,h=>by obtain⟨e,_⟩:=r;cases e
 | p::kvs,d0::ds,_,k,d,hq5,h=>by
  obtain⟨v,vs',L1,L2,e1,e2,r1,r2⟩:=hq5;subst e2;rw[tO]at e1;cases e1;rw[tO]at h;unfold yf at h
  by_cases hk:p.1=k
  ·rw[jNk hk]at h;cases h;exact⟨p.2,L1,qJ hk,r1,List.sublist_append_left _ _⟩
  ·rw[jPa hk]at h;obtain⟨v,L',a,b,c⟩:=uq r2 h;exact⟨v,L',by rw[vS hk];exact a,b,c.trans (rE _ _)⟩
theorem qO {K:jJa}{H:Hp}:∀ {kvs:List (Key×V)} {ds:List D} {L:List Addr} {k:Key},Reps K H ds (kvs.map (·.2)) L->yf (kvs.map (·.1)) ds k=none->uW kvs k=none
 | [],ds,_,k,r,h=>rfl
 | p::kvs,[],_,k,r,h=>by obtain⟨e,_⟩:=r;cases e
 | p::kvs,d0::ds,_,k,hq4,h=>by
  obtain⟨v,vs',L1,L2,e1,e2,r1,r2⟩:=hq4;subst e2;rw[tO]at e1;cases e1;rw[tO]at h;unfold yf at h
  by_cases hk:p.1=k
  ·rw[jNk hk]at h;cases h
  ·rw[jPa hk]at h;rw[vS hk];exact qO r2 h
def Xy {K:jJa}{H:Hp}{A:jNf}{s:jNg}{kvb:List (Key×V)}{vb:List (Key×Value)}{ys:List D}{Lb:List Addr}(rb:KV kvb vb)(qb:Reps K H ys (kvb.map (·.2)) Lb):
  ∀ {kva:List (Key×V)} {va:List (Key×Value)} {xs:List D} {La:List Addr} {b:Bool},KV kva va->Reps K H xs (kva.map (·.2)) La->hitsD (kvb.map (·.1)) ys (kva.map (·.1)) xs=some b->PySem.W.KeqHits A s vb va b:=by
 intro kva va xs La b ra
 induction ra generalizing xs La b with
 | nil =>
  intro r h;cases xs with
  | nil=>cases h;exact .nil
  | cons _ _=>obtain⟨_,_,_,_,e,_⟩:=r;cases e
 | @cons p q l1 l2 h1 _ ih =>
  intro r h;cases xs with
  | nil=>obtain⟨e,_⟩:=r;cases e
  | cons x xs =>
   obtain⟨v,vs',L1,L2,e1,e2,r1,r2⟩:=r;rw[tO]at e1;cases e1;rw[tO]at h;unfold hitsD at h;have ek:q.1=p.1:=h1.1.symm;have hv:=rb.val p.1;cases hl:yf (kvb.map (·.1)) ys p.1 with
   | none =>
    rw[hl]at h;cases h;rw[qO qb hl]at hv;have:valueAt vb q.1=none:=by
     rw[ek];cases hq:valueAt vb p.1 with
     | none=>rfl
     | some y=>rw[hq]at hv;exact hv.elim
    exact PySem.W.KeqHits.miss (k:=q.1) (v:=q.2) this
   | some y =>
    rw[hl]at h;dsimp only at h;split at h
    ·rename_i hs;rw[sG]at hs;cases hr:hitsD (kvb.map (·.1)) ys (l1.map (·.1)) xs with
     | none=>rw[hr]at h;cases h
     | some b' =>
      rw[hr]at h;have h:(eqS x y&&b')=b:=jYe h;obtain⟨w,Lw,g1,g2,_⟩:=uq qb hl;rw[g1]at hv;obtain⟨yv,hy,ry⟩:=RelO.some_of (v:=w) (o:=valueAt vb p.1) hv;rw[<-h];exact PySem.W.KeqHits.hit (k:=q.1) (v:=q.2) (by rw[ek];exact hy) (X2 (A:=A) (s:=s) hs.1 hs.2 r1 g2 h1.2 ry).2.1 (ih r2 hr)
    ·cases h
def We (K:jJa)(neg:Bool):R2:=fun x y H Q=>∃a b kva kvb xs ys La Lb r,x=.ref a/\y=.ref b/\Rd H a (.dK kva)/\Rd H b (.dK kvb)/\Reps K H xs (kva.map (·.2)) La/\Reps K H ys (kvb.map (·.2)) Lb /\
 (kva.length=kvb.length->hitsD (kvb.map (·.1)) ys (kva.map (·.1)) xs=some r)/\Q (.bl (if neg=true then !(kva.length==kvb.length&&r) else (kva.length==kvb.length&&r))) H
def z0R {X:Cx}(hu:X.A.units<cLine):OpR X (jMi .Eq) (We X.K false):=by
 rintro jNj s σ H x y v u Q I rx ry ⟨a,b,kva,kvb,xs,ys,La,Lb,r,e1,e2,ha,hb,qa,qb,hh,q⟩;subst e1 e2;obtain rfl:v=Value.ref a:=rx;obtain rfl:u=Value.ref b:=ry;obtain⟨_,da,va,ra,oa⟩:=u5 I.hok ha;obtain⟨_,db,vb,rb,ob⟩:=u5 I.hok hb;have l1:va.length=kva.length:=ra.length.symm;have l2:vb.length=kvb.length:=rb.length.symm;refine jJq (r:=r) da db oa ob hu (fun e=>Xy rb qb ra qa (hh (by lia))) ?_;rw[l1,l2];exact⟨.bl _,H,I,rfl,q⟩
def z0F {X:Cx}(hu:X.A.units<cLine):OpR X (jMi .NotEq) (We X.K true):=by
 rintro jNj s σ H x y v u Q I rx ry ⟨a,b,kva,kvb,xs,ys,La,Lb,r,e1,e2,ha,hb,qa,qb,hh,q⟩;subst e1 e2;obtain rfl:v=Value.ref a:=rx;obtain rfl:u=Value.ref b:=ry;obtain⟨_,da,va,ra,oa⟩:=u5 I.hok ha;obtain⟨_,db,vb,rb,ob⟩:=u5 I.hok hb;have l1:va.length=kva.length:=ra.length.symm;have l2:vb.length=kvb.length:=rb.length.symm;refine PySem.W.keq_ne (r:=r) da db oa ob hu (fun e=>Xy rb qb ra qa (hh (by lia))) ?_;rw[l1,l2];exact⟨.bl _,H,I,rfl,q⟩
def qr (ks:List Key)(xs:List D)(js:List Key)(ys:List D):Option Bool:=if ks.length=js.length then hitsD js ys ks xs else some false
noncomputable def eqR (neg:Bool):D->D->R D
 | .dic ks xs,.dic js ys=>match qr ks xs js ys with
  | some b=>.ok (.bl (if neg=true then !b else b))
  | none=>.bad
 | x,y=>match eqF 12 x y with
  | some b=>.ok (.bl (if neg=true then !b else b))
  | none=>.bad
def kJ {neg:Bool}:xn (eqR neg):=fun x y n h=>by
 unfold eqR at h;split at h
 ·split at h<;>cases h
 ·split at h<;>cases h
def Zi {K:jJa}{neg:Bool}:OpB K (fun x y H Q=>Kj K neg x y H Q\/We K neg x y H Q) (eqR neg):=by
 rintro H x y dx dy Lx Ly Q rx ry ⟨d,hg,q⟩;unfold eqR at hg;split at hg
 ·rename_i ks xs js ys;obtain⟨a,kva,L1,rfl,ha,_,hk,_,rs⟩:=rx;obtain⟨b,kvb,L2,rfl,hb,_,hj,_,qs⟩:=ry;have l1:ks.length=kva.length:=by rw[<-hk,tH]
  have l2:js.length=kvb.length:=by rw[<-hj,tH]
  unfold qr at hg
  by_cases hl:ks.length=js.length
  ·rw[jNk hl]at hg;cases hr:hitsD js ys ks xs with
   | none=>rw[hr]at hg;cases hg
   | some r =>
    rw[hr]at hg;cases hg;refine .inr ⟨a,b,kva,kvb,xs,ys,_,_,r,rfl,rfl,.inl ha,.inl hb,rs,qs,fun _=>by rw[hk,hj];exact hr,?_⟩;have e:(kva.length==kvb.length&&r)=r:=by
     have:(kva.length==kvb.length)=true:=by simp;lia
     rw[this,Bool.true_and]
    rw[e];exact q _ H [] (Same.refl H) ⟨rfl,rfl⟩ (by simp) (fun a ha=>nomatch ha)
  ·rw[jPa hl]at hg;cases hg;refine .inr ⟨a,b,kva,kvb,xs,ys,_,_,false,rfl,rfl,.inl ha,.inl hb,rs,qs,fun z=>absurd z (by lia),?_⟩;rw[pH];exact q _ H [] (Same.refl H) ⟨rfl,rfl⟩ (by simp) (fun a ha=>nomatch ha)
 ·split at hg
  ·rename_i b hb;cases hg;exact .inl ⟨dx,dy,Lx,Ly,b,rx,ry,hb,q _ H [] (Same.refl H) ⟨rfl,rfl⟩ (by simp) (fun a ha=>nomatch ha)⟩
  ·cases hg
def v8 (hu:X.A.units+12<cLine):OpR X (jMi .Eq) (fun x y H Q=>Kj X.K false x y H Q\/We X.K false x y H Q):=OpR.or (z2D hu) (z0R (by lia))
def vX (hu:X.A.units+12<cLine):OpR X (jMi .NotEq) (fun x y H Q=>Kj X.K true x y H Q\/We X.K true x y H Q):=OpR.or (z2i hu) (z0F (by lia))
def V6:D->Bool
 | .non=>true
 | _=>false
def isN (neg:Bool):D->D->R D
 | x,.non=>.ok (.bl (if neg=true then !V6 x else V6 x))
 | _,_=>.bad
def jh {neg:Bool}:xn (isN neg):=fun x y n h=>by
 unfold isN at h;split at h<;>cases h
def Uc {K:jJa}{H:Hp}{d:D}{v:V}{L:List Addr}(r:Rep K H d v L):decide (v=V.non)=V6 d:=by
 cases d with
 | non=>obtain⟨rfl,_⟩:=r;rfl
 | bl b=>obtain⟨rfl,_⟩:=r;rfl
 | int b=>obtain⟨rfl,_⟩:=r;rfl
 | str b=>obtain⟨rfl,_⟩:=r;rfl
 | tup _=>obtain⟨_,_,rfl,_⟩:=r;rfl
 | lst _=>obtain⟨_,_,_,rfl,_⟩:=r;rfl
 | dic _ _=>obtain⟨_,_,_,rfl,_⟩:=r;rfl
 | frl _=>obtain⟨_,_,rfl,_⟩:=r;rfl
 | obj _ _ _=>obtain⟨_,_,_,rfl,_⟩:=r;rfl
def XE {K:jJa}:OpB K (fun x y H Q=>y=.non/\Q (.bl (decide (x=.non))) H) (isN false):=by
 rintro H x y dx dy Lx Ly Q rx ry ⟨d,hg,q⟩;unfold isN at hg;split at hg
 ·cases hg;refine⟨ry.1,?_⟩;rw[Uc rx];exact q _ H [] (Same.refl H) ⟨rfl,rfl⟩ (by simp) (fun a ha=>nomatch ha)
 ·cases hg
def Vk {K:jJa}:OpB K (fun x y H Q=>y=.non/\Q (.bl (!decide (x=.non))) H) (isN true):=by
 rintro H x y dx dy Lx Ly Q rx ry ⟨d,hg,q⟩;unfold isN at hg;split at hg
 ·cases hg;refine⟨ry.1,?_⟩;rw[Uc rx];exact q _ H [] (Same.refl H) ⟨rfl,rfl⟩ (by simp) (fun a ha=>nomatch ha)
 ·cases hg
def vL:D->Option Key
 | .int i=>some (.inl i)
 | .str x=>some (.inr x)
 | .non=>some .non
 | _=>none
noncomputable def ixD:D->D->R D
 | .lst ds,.int i=>match atI ds i with
  | some d=>.ok d
  | none=>.bad
 | .tup ds,.int i=>match atI ds i with
  | some d=>.ok d
  | none=>.bad
 | .frl ds,.int i=>match atI ds i with
  | some d=>.ok d
  | none=>.bad
 | .str x,.int i=>if x.length<=jNb then (match atI x.cps.toList i with
  | some c=>.ok (.str ⟨#[c]⟩)
  | none=>.bad) else .bad
 | .dic ks ds,k=>match vL k with
  | some k=>(match yf ks ds k with
   | some d=>.ok d
   | none=>.bad)
  | none=>.bad
 | _,_=>.bad
def z5K:xn ixD:=fun x y n h=>by
 unfold ixD at h;split at h
 ·split at h<;>cases h
 ·split at h<;>cases h
 ·split at h<;>cases h
 ·split at h
  ·split at h<;>cases h
  ·cases h
 ·split at h
  ·split at h<;>cases h
  ·cases h
 ·cases h
def ui {K:jJa}{H:Hp}{d:D}{v:V}{L:List Addr}{k:Key}(h:vL d=some k)(r:Rep K H d v L):v=kV k:=by
 cases d with
 | non=>cases h;exact r.1
 | int i=>cases h;exact r.1
 | str x=>cases h;exact r.1
 | _=>cases h
theorem Reps.atI {K:jJa}{H:Hp}{ds:List D}{vs:List V}{L:List Addr}{i:Int}{d:D}(r:Reps K H ds vs L)(h:L2.atI ds i=some d):∃v L1,L2.atI vs i=some v/\Rep K H d v L1/\List.Sublist L1 L:=by
 unfold L2.atI at h ⊢;rw[r.length];cases e:ixN ds.length i with
 | none=>rw[e]at h;cases h
 | some j =>
  rw[e]at h;obtain⟨v,L1,a,b,c⟩:=r.get h;exact⟨v,L1,a,b,c⟩
section
variable {X:Cx}{E:XK}{Γ:List Cl}{e a b:Expr}{es:List Expr}{t ta tb:Tn->R D}{u:Tn->R (List D)}{c ca cb:Rc}{pos p p2:Pos}
theorem RcOk.sub (h:RcOk c O H L)(s:List.Sublist L' L):RcOk c O H L':=by
 cases c with
 | fresh=>exact⟨h.1.sublist s,fun a ha=>h.2 a (s.subset ha)⟩
 | shr=>exact fun a ha=>h a (s.subset ha)
 | bor=>trivial
theorem post.bind2 {K:jJa}{O:Addr->Prop}{H H1:Hp}{Q Q':VK}{r:R D}{f:D->R D}(h:post K E O c H Q (r.bind f))(s:Same H H1)(hf:∀d,r=.ok d->post K E O c H Q (f d)->∀v H' L,Same H1 H'->Rep K H' d v L->RcOk ca O H1 L->Q' v H'):post K E O ca H1 Q' r:=by
 cases r with
 | ok d=>exact hf d rfl h
 | err n=>exact fun C H' e s'=>h C H' e (s.trans s')
 | bad=>exact h
def qW {K:jJa}{H:Hp}{dx dy d:D}{x y:V}{Lx Ly:List Addr}{Q:VK}(hn:∀ks ds,dx≠.dic ks ds)(h:ixD dx dy=.ok d)(rx:Rep K H dx x Lx)(ry:Rep K H dy y Ly)(q:∀v L1,Rep K H d v L1->List.Sublist L1 Lx->Q v H):rIx K x y H Q:=by
 unfold ixD at h;split at h
 ·split at h
  ·rename_i hd;cases h;obtain⟨a,vs,L',rfl,ha,e,rs⟩:=rx;subst e;obtain⟨v,L1,g1,g2,g3⟩:=rs.atI hd;exact .inl ⟨a,vs,_,v,rfl,ry.1,SqL.of ha,g1,q v L1 g2 (g3.trans (List.sublist_cons_self _ _))⟩
  ·cases h
 ·split at h
  ·rename_i hd;cases h;obtain⟨a,vs,rfl,ha,rs⟩:=rx;obtain⟨v,L1,g1,g2,g3⟩:=rs.atI hd;exact .inr (.inl ⟨a,vs,_,v,rfl,ry.1,ha,g1,q v L1 g2 g3⟩)
  ·cases h
 ·split at h
  ·rename_i hd;cases h;obtain⟨a,vs,rfl,ha,e,_,rs⟩:=rx;subst e;obtain⟨v,L1,g1,g2,g3⟩:=rs.atI hd;exact .inl ⟨a,vs,_,v,rfl,ry.1,ha.sq,g1,q v L1 g2 g3⟩
  ·cases h
 ·split at h
  ·rename_i hz;split at h
   ·rename_i hd;cases h;exact .inr (.inr ⟨_,_,_,rx.1,ry.1,hz,hd,q _ [] ⟨rfl,rfl⟩ (rV _)⟩)
   ·cases h
  ·cases h
 ·rename_i ks ds;exact absurd rfl (hn _ _)
 ·cases h
def z4H (hu:X.A.units+1<cLine)(ha:ME X E Γ a ta ca)(hb:ME X E Γ b tb cb)(hs:autoParam (jM b) au5._auto_1):ME X E Γ (.Subscript a b pos) (zd ixD ta tb) ca:=by
 obtain⟨te,p,q⟩:=ha;obtain⟨te',p',q'⟩:=hb;refine⟨fun σ H Q=>tOp (rIx X.K) te te' σ H Q\/z1A te te' σ H Q,fun jNj s σ H Q I z=>?_,fun O σ H τ Q ok h=>?_⟩
 ·rcases z with z|z
  ·exact Jj X3 p p' hs jNj s σ H Q I z
  ·exact z16 hu p p' hs jNj s σ H Q I z
 ·unfold zd at h
  by_cases hd:∃ks ds,ta τ=.ok (.dic ks ds)
  ·obtain⟨ks,ds,hd⟩:=hd;refine .inr (q O σ H τ _ ok (post.bind h fun dx hx h x H1 Lx s1 rx kx=>?_));rw[hd]at hx;cases hx;refine q' O σ H1 τ _ (ok.same s1) (post.bind2 h s1 fun dy _ h y H2 Ly s2 ry _=>?_);have h:post X.K E O ca H Q (match vL dy with
    | some k=>(match yf ks ds k with
     | some d=>.ok d
     | none=>.bad)
    | none=>.bad):=h
   cases hk:vL dy with
   | none=>rw[hk]at h;exact h.elim
   | some k =>
    rw[hk]at h;dsimp only at h;cases hl:yf ks ds k with
    | none=>rw[hl]at h;exact h.elim
    | some d =>
     rw[hl]at h;obtain⟨ad,kvs,L',rfl,had,e2,hks,_,rs⟩:=rx;subst e2;rw[<-hks]at hl;obtain⟨v,L1,g1,g2,g3⟩:=uq rs hl;refine⟨ad,v,rfl,?_,h v H2 L1 (s1.trans s2) (g2.same s2) (kx.sub (g3.trans (List.sublist_cons_self _ _)))⟩;rw[ui hk ry,<-g1];exact DGet.k (s2 _ _ had)
  ·refine .inl (q O σ H τ _ ok (post.bind h fun dx hx h x H1 Lx s1 rx kx=>q' O σ H1 τ _ (ok.same s1) (post.bind2 h s1 fun dy _ h y H2 Ly s2 ry _=>?_)));cases hg:ixD dx dy with
   | ok d =>
    rw[hg]at h;exact qW (fun ks ds z=>hd ⟨ks,ds,by rw[hx,z]⟩) hg (rx.same s2) ry fun v L1 g1 g2=>h v H2 L1 (s1.trans s2) g1 (kx.sub g2)
   | err n=>exact absurd hg (z5K _ _ _)
   | bad=>rw[hg]at h;exact h.elim
def V7:D->R D
 | .int i=>.ok (.int (-i))
 | _=>.bad
def kr (ha:ME X E Γ a ta ca):ME X E Γ (.UnaryOp .USub a pos) (eUn V7 ta) .fresh:=by
 obtain⟨te,p,q⟩:=ha;refine⟨_,z1X Kf p,fun O σ H τ Q ok h=>q O σ H τ _ ok (post.bind h fun d _ h v H1 L s1 r1 _=>?_)⟩;cases d with
 | int i=>exact⟨i,r1.1,h _ H1 [] s1 ⟨rfl,rfl⟩ RcOk.nil⟩
 | _=>exact h.elim
def xw {α:Type}(xs:List α)(lo hi:Option Int):List α:=(xs.drop (HT.sIx xs.length 0 lo)).take (HT.sIx xs.length xs.length hi-HT.sIx xs.length 0 lo)
noncomputable def slD (x:D)(lo hi:Option Int):R D:=match x with
 | .lst ds=>if D.imms ds=true then .ok (.lst (xw ds lo hi)) else .bad
 | .str z=>if z.length<=jNb then .ok (.str (Txt.slice z lo hi)) else .bad
 | .tup ds=>if D.imms ds=true/\¬(HT.sIx ds.length 0 lo=0/\HT.sIx ds.length ds.length hi=ds.length) then .ok (.tup (xw ds lo hi)) else .bad
 | _=>.bad
def eSl (t:Tn->R D)(tl th:Tn->R (Option Int)):Tn->R D:=fun τ=>(t τ).bind fun x=>(tl τ).bind fun l=>(th τ).bind fun h=>slD x l h
def qc:Tn->R (Option Int):=fun _=>.ok none
def yY (t:Tn->R D):Tn->R (Option Int):=fun τ=>(t τ).bind fun d=>match d with
 | .int i=>.ok (some i)
 | _=>.bad
def z5u (K:jJa)(E:XK)(H:Hp)(Q:Option Int->Hp->Prop):R (Option Int)->Prop
 | .ok o=>∀H',Same H H'->Q o H'
 | .err n=>∀C H',ErrC K n C->Same H H'->E (.ref C) none H'
 | .bad=>False
def MO (X:Cx)(E:XK)(Γ:List Cl)(e:Option Expr)(t:Tn->R (Option Int)):Prop:=
 ∃to,PO X e to/\∀O σ H τ Q,EOk X.K Γ O H σ τ->z5u X.K E H Q (t τ)->to σ H Q
def vA:MO X E Γ none qc:=⟨U9,YS,fun O σ H τ Q ok h=>h H (Same.refl H)⟩
def yb (h:ME X E Γ e t c):MO X E Γ (some e) (yY t):=by
 obtain⟨te,p,q⟩:=h;refine⟨z1C te,VO p,fun O σ H τ Q ok h=>q O σ H τ _ ok ?_⟩;unfold yY at h;cases ht:t τ with
 | ok d =>
  rw[ht,jYa]at h;refine fun v H' L s r _=>?_;cases d with
  | int i=>exact⟨i,r.1,h H' s⟩
  | _=>exact h.elim
 | err n=>rw[ht]at h;exact h
 | bad=>rw[ht]at h;exact h
theorem Reps.cut {K:jJa}{H:Hp}{ds:List D}{vs:List V}{L:List Addr}(r:Reps K H ds vs L)(lo hi:Option Int):∃L',Reps K H (xw ds lo hi) (Yx vs lo hi) L'/\List.Sublist L' L:=by
 obtain⟨L1,a,b⟩:=r.drop (HT.sIx ds.length 0 lo);obtain⟨L2,c,d⟩:=a.take (HT.sIx ds.length ds.length hi-HT.sIx ds.length 0 lo);refine⟨L2,?_,d.trans b⟩;unfold xw Yx;rw[r.length];exact c
def vp {lo hi:Option Expr}{tl th:Tn->R (Option Int)}(he:ME X E Γ e t c)(hl:MO X E Γ lo tl)(hh:MO X E Γ hi th):ME X E Γ (.Subscript e (.Slice lo hi none p2) pos) (eSl t tl th) .fresh:=by
 obtain⟨te,p,q⟩:=he;obtain⟨tl',pl,ql⟩:=hl;obtain⟨th',ph,qh⟩:=hh;refine⟨_,Wk (SlR.or Ud (SlR.or JE K7)) p pl ph,fun O σ H τ Q ok h=>?_⟩;unfold eSl at h;refine q O σ H τ _ ok (post.bind h fun dx hx h x H1 Lx s1 rx kx=>ql O σ H1 τ _ (ok.same s1) ?_);cases h1:tl τ with
 | err n=>rw[h1]at h;exact fun C H' e s'=>h C H' e (s1.trans s')
 | bad=>rw[h1]at h;exact h
 | ok l =>
  rw[h1,jYa]at h;refine fun H2 s2=>qh O σ H2 τ _ ((ok.same s1).same s2) ?_;cases h2:th τ with
  | err n=>rw[h2]at h;exact fun C H' e s'=>h C H' e ((s1.trans s2).trans s')
  | bad=>rw[h2]at h;exact h
  | ok g =>
   rw[h2,jYa]at h;refine fun H3 s3=>?_;have s03:=(s1.trans s2).trans s3;have rx:=(rx.same s2).same s3;unfold slD at h;cases dx with
   | lst ds =>
    dsimp only at h
    by_cases hz:D.imms ds=true
    ·rw[jNk hz]at h;obtain⟨a,vs,L',rfl,ha,_,rs⟩:=rx;obtain⟨L2,rc,_⟩:=(yh rs hz).cut l g;have e0:L2=[]:=pK.mp ‹_›;subst e0;refine .inl ⟨a,vs,rfl,SqL.of ha,fun p hp=>uj rc hp fun v H' L s r n1 n2=>h v H' L (s03.trans s) r ⟨n1,fun a ha=>s03.non (n2 a ha)⟩⟩
    ·rw[jPa hz]at h;exact h.elim
   | str z =>
    dsimp only at h
    by_cases hz:z.length<=jNb
    ·rw[jNk hz]at h;exact .inr (.inl ⟨z,rx.1,hz,h _ H3 [] s03 ⟨rfl,rfl⟩ RcOk.nil⟩)
    ·rw[jPa hz]at h;exact h.elim
   | tup ds =>
    dsimp only at h
    by_cases hz:D.imms ds=true/\¬(HT.sIx ds.length 0 l=0/\HT.sIx ds.length ds.length g=ds.length)
    ·rw[jNk hz]at h;obtain⟨a,vs,rfl,ha,rs⟩:=rx;obtain⟨L2,rc,_⟩:=(yh rs hz.1).cut l g;have e0:L2=[]:=pK.mp ‹_›;subst e0;exact .inr (.inr ⟨a,vs,rfl,ha,by rw[rs.length];exact hz.2,fun p hp=>h _ _ [] (s03.trans (Same.new hp)) ⟨p,_,rfl,SqT.of zG,rc.same (Same.new hp)⟩ RcOk.nil⟩)
    ·rw[jPa hz]at h;exact h.elim
   | _=>exact h.elim
end
section
variable {X:Cx}
noncomputable def yC:List D->R D
 | [.lst ds]=>.ok (.int ds.length)
 | [.tup ds]=>.ok (.int ds.length)
 | [.frl ds]=>.ok (.int ds.length)
 | [.str x]=>if x.length<=jNb then .ok (.int x.length) else .bad
 | [.dic ks _]=>.ok (.int ks.length)
 | _=>.bad
def z4q:yX yC:=fun ds n h=>by
 rcases ds with _|⟨d,_|⟨_,_⟩⟩
 ·cases h
 ·cases d with
  | str x =>
   replace h:(if x.length<=jNb then R.ok (D.int x.length) else .bad)=R.err n:=h
   split at h<;>cases h
  | _=>cases h
 ·cases d<;>cases h
def Uh:CallR X (.builtin "len") (fun xs H Q=>(∃p ys,xs=[.ref p]/\(SqL X.K H p ys\/SqT X.K H p ys)/\Q (.int ys.length) H)\/(∃z,xs=[.str z]/\z.length<=jNb/\Q (.int z.length) H)\/∃a kvs,xs=[V.ref a]/\H a=some (.dK kvs)/\Q (.int kvs.length) H):=
 CallR.or YO (CallR.or YT Q4)
def xG {K:jJa}{H:Hp}{d:D}{xs:List V}{L:List Addr}(r:Reps K H [d] xs L):∃v,xs=[v]/\Rep K H d v L:=by
 obtain⟨v,vs',L1,L2,e1,e2,r1,r2⟩:=r;obtain⟨rfl,rfl⟩:=r2;rw[tQ]at e2;subst e2;exact⟨v,e1,r1⟩
def z1M {K:jJa}{H:Hp}{d d':D}{xs:List V}{L:List Addr}(r:Reps K H [d,d'] xs L):∃v v' L1 L2,xs=[v,v']/\L=L1++L2/\Rep K H d v L1/\Rep K H d' v' L2:=by
 obtain⟨v,vs',L1,L2,e1,e2,r1,r2⟩:=r;obtain⟨v',rfl,r3⟩:=xG r2;exact⟨v,v',L1,L2,e1,e2,r1,r3⟩
def z5W {K:jJa}:ClB K (fun xs H Q=>(∃p ys,xs=[.ref p]/\(SqL K H p ys\/SqT K H p ys)/\Q (.int ys.length) H)\/(∃z,xs=[.str z]/\z.length<=jNb/\Q (.int z.length) H)\/∃a kvs,xs=[V.ref a]/\H a=some (.dK kvs)/\Q (.int kvs.length) H) yC:=by
 rintro H xs ds L Q r ⟨d,hg,q⟩;have fin:∀n:Int,d=.int n->Q (.int n) H:=fun n e=>q _ H [] (Same.refl H) (e▸⟨rfl,rfl⟩) (by simp) (fun a ha=>nomatch ha);rcases ds with _|⟨e,_|⟨_,_⟩⟩
 ·cases hg
 ·cases e with
  | lst es =>
   cases hg;obtain⟨v,rfl,a,vs,L',rfl,ha,_,rs⟩:=xG r;exact .inl ⟨a,vs,rfl,.inl (SqL.of ha),fin _ (by rw[rs.length])⟩
  | tup es =>
   cases hg;obtain⟨v,rfl,a,vs,rfl,ha,rs⟩:=xG r;exact .inl ⟨a,vs,rfl,.inr ha,fin _ (by rw[rs.length])⟩
  | frl es =>
   cases hg;obtain⟨v,rfl,a,vs,rfl,ha,_,_,rs⟩:=xG r;exact .inl ⟨a,vs,rfl,.inl ha.sq,fin _ (by rw[rs.length])⟩
  | str x =>
   replace hg:(if x.length<=jNb then R.ok (D.int x.length) else .bad)=R.ok d:=hg
   split at hg
   ·rename_i hz;cases hg;obtain⟨v,rfl,rfl,_⟩:=xG r;exact .inr (.inl ⟨_,rfl,hz,fin _ rfl⟩)
   ·cases hg
  | dic ks es =>
   cases hg;obtain⟨v,rfl,a,kvs,L',rfl,ha,_,hk,_⟩:=xG r;exact .inr (.inr ⟨a,kvs,rfl,ha,fin _ (by rw[<-hk,tH])⟩)
  | _=>cases hg
 ·cases e<;>cases hg
noncomputable def xW:List D->Option (List Int)
 | []=>some []
 | .int i::ds=>(xW ds).map (i::·)
 | _=>none
theorem x4 {K:jJa}{H:Hp}:∀ {ds:List D} {vs:List V} {L:List Addr} {ns:List Int},Reps K H ds vs L->xW ds=some ns->vs=ns.map V.int
 | [],_,_,ns,hq4,h=>by
  obtain⟨e,_⟩:=hq4;subst e;cases h;rfl
 | .int i::ds,_,_,ns,hq4,h=>by
  obtain⟨v,vs',L1,L2,e1,_,r1,r2⟩:=hq4;subst e1;have h:(xW ds).map (i::·)=some ns:=h;cases hi:xW ds with
  | none=>rw[hi]at h;cases h
  | some ms =>
   rw[hi]at h;cases h;rw[r1.1,x4 r2 hi];rfl
 | .non::_,_,_,_,_,h=>by cases h
 | .bl _::_,_,_,_,_,h=>by cases h
 | .str _::_,_,_,_,_,h=>by cases h
 | .tup _::_,_,_,_,_,h=>by cases h
 | .lst _::_,_,_,_,_,h=>by cases h
 | .dic _ _::_,_,_,_,_,h=>by cases h
 | .frl _::_,_,_,_,_,h=>by cases h
 | .obj _ _ _::_,_,_,_,_,h=>by cases h
theorem vv:∀ {ns:List Int} {us:List Value},Vals (ns.map V.int) us->∃xs:List (Int×Tok),us=xs.map (fun p=>Value.int p.1 p.2)/\xs.map (·.1)=ns
 | [],us,r=>by cases r;exact⟨[],rfl,rfl⟩
 | n::ns,_,r=>by
  rw[tO]at r;cases r with
  | cons r1 r2 =>
   obtain⟨t,rfl⟩:=r1;obtain⟨xs,rfl,e⟩:=vv r2;exact⟨(n,t)::xs,rfl,by simp[e]⟩
noncomputable def qS:List D->R D
 | [.lst ds]=>match xW ds with
  | some ns=>.ok (.int ns.sum)
  | none=>.bad
 | _=>.bad
def Yt:yX qS:=fun ds n h=>by
 unfold qS at h;split at h
 ·split at h<;>cases h
 ·cases h
def z1v (K:jJa):List V->Hp->VK->Prop:=fun xs H Q=>∃(p:Addr) (ns:List Int),xs=[.ref p]/\SqL K H p (ns.map V.int)/\Q (.int ns.sum) H
def YE (xs:List (Int×Tok)):preSum (numAt xs.toArray) xs.toArray.size=(xs.map (·.1)).sum:=by
 rw[preSum_eq,List.take_of_length_le (by simp)]
def wu (hc:X.calm=true):CallR X (.builtin "sum") (z1v X.K):=by
 intro jNj s σ H xs us Q I r h;obtain⟨p,ns,rfl,hs,q⟩:=h;obtain⟨u,rfl,ru⟩:=wD r;obtain rfl:u=Value.ref p:=ru;obtain⟨its,rv,pl,hz⟩:=I.list hs;obtain⟨ys,rfl,e⟩:=vv rv;have hl:s.heap.IsList p (intItems ys.toArray):=by
  have:=pl.isList
  simpa [intItems] using this
 refine sum_intListG (I.ok.hd hc) hl fun h' tk t' hk=>⟨.int ns.sum,H,I.kept hk,⟨t',?_⟩,q⟩
 rw[YE,e]
def ZV {K:jJa}:ClB K (z1v K) qS:=by
 rintro H xs ds L Q r ⟨d,hg,q⟩;unfold qS at hg;split at hg
 ·split at hg
  ·rename_i ds ns hn;cases hg;obtain⟨v,rfl,a,vs,L',rfl,ha,_,rs⟩:=xG r;exact⟨a,ns,rfl,by rw[<-x4 rs hn];exact SqL.of ha,q _ H [] (Same.refl H) ⟨rfl,rfl⟩ (by simp) (fun a ha=>nomatch ha)⟩
  ·cases hg
 ·cases hg
noncomputable def qv:List D->R D
 | [.int i,.int j]=>.ok (.int (if j>i then j else i))
 | _=>.bad
def Xx:yX qv:=fun ds n h=>by unfold qv at h;split at h<;>cases h
def YQ {K:jJa}:ClB K (fun xs H Q=>∃i j,xs=[.int i,.int j]/\Q (.int (if j>i then j else i)) H) qv:=by
 rintro H xs ds L Q r ⟨d,hg,q⟩;unfold qv at hg;split at hg
 ·cases hg;obtain⟨v,v',L1,L2,rfl,_,⟨rfl,_⟩,⟨rfl,_⟩⟩:=z1M r;exact⟨_,_,rfl,q _ H [] (Same.refl H) ⟨rfl,rfl⟩ (by simp) (fun a ha=>nomatch ha)⟩
 ·cases hg
def ue:List D->R D
 | [.lst ds]=>if D.imms ds=true then .ok (.lst ds) else .bad
 | [.tup ds]=>if D.imms ds=true then .ok (.lst ds) else .bad
 | _=>.bad
def YW:yX ue:=fun ds n h=>by
 unfold ue at h;split at h
 ·split at h<;>cases h
 ·split at h<;>cases h
 ·cases h
def YD {K:jJa}:ClB K (fun xs H Q=>∃p ys,xs=[.ref p]/\(SqL K H p ys\/SqT K H p ys)/\∀l,H l=none->Q (.ref l) (upd H l (.lst ys))) ue:=by
 rintro H xs ds L Q r ⟨d,hg,q⟩;unfold ue at hg;split at hg
 ·split at hg
  ·rename_i hz;cases hg;obtain⟨v,rfl,a,vs,L',rfl,ha,_,rs⟩:=xG r;exact⟨a,vs,rfl,.inl (SqL.of ha),fun l hl=>uj (yh rs hz) hl q⟩
  ·cases hg
 ·split at hg
  ·rename_i hz;cases hg;obtain⟨v,rfl,a,vs,rfl,ha,rs⟩:=xG r;exact⟨a,vs,rfl,.inr ha,fun l hl=>uj (yh rs hz) hl q⟩
  ·cases hg
 ·cases hg
noncomputable def kB:D->String
 | .non=>"NoneType"
 | .bl _=>"bool"
 | .int _=>"int"
 | .str _=>"str"
 | .tup _=>"tuple"
 | .lst _=>"list"
 | .frl _=>"list"
 | .dic _ _=>"dict"
 | .obj _ _ _=>"NoneType"
def D.isO:D->Bool
 | .obj _ _ _=>true
 | _=>false
def Q8 (d:D):kB d∈jc:=by cases d<;>simp[kB,jc]
def QG (d:D)(T:String):Bool:=kB d==T||(kB d=="bool"&&T=="int")
def z6J (K:jJa):List V->Hp->VK->Prop:=fun xs H Q=>∃x T d L,xs=[x,.ty T]/\Rep K H d x L/\d.isO=false/\T∈(["int","bool","str","list","tuple","dict"]:List String)/\Q (.bl (QG d T)) H
def z05 {K:jJa}{d:D}{U:String}(hU:U∈(["int","bool","str","list","tuple","dict"]:List String)):jJf K (.type (kB d)) (.type U)=some (QG d U):=by
 have hT:=Q8 d;unfold QG;simp only[tK,sJ,or_false]at hU;rcases hU with rfl|rfl|hU
 ·rw[z0u hT];simp
 ·rw[Jv hT];have:(kB d=="bool"&&("bool":String)=="int")=false:=by simp
  rw[this,Bool.or_false]
 ·rw[Qd hT (by simpa using hU)];have:(kB d=="bool"&&U=="int")=false:=by
   rcases hU with rfl|rfl|rfl|rfl<;>simp
  rw[this,Bool.or_false]
def Qp:CallR X (.builtin "isinstance") (z6J X.K):=by
 intro jNj s σ H xs us Q I r h;obtain⟨x,T,d,L,rfl,rd,hO,hT,q⟩:=h;obtain⟨u,u2,rfl,rx,rT⟩:=JH r;obtain rfl:u2=Value.type T:=rT;have hk:=z05 (K:=X.K) (d:=d) hT;have fin:∀tk,EP X jNj σ Q (.bool (QG d T)) { s with toks:=tk }:=fun tk=>⟨.bl _,H,I.tok tk,rfl,q⟩
 cases d with
 | non=>obtain⟨rfl,_⟩:=rd;exact wt I rx .non hk fin
 | bl b=>obtain⟨rfl,_⟩:=rd;exact wt I rx (.bl b) hk fin
 | int b=>obtain⟨rfl,_⟩:=rd;exact wt I rx (.int b) hk fin
 | str b=>obtain⟨rfl,_⟩:=rd;exact wt I rx (.str b) hk fin
 | lst _=>obtain⟨a,_,_,rfl,e,_⟩:=rd;exact wt I rx (.lst e) hk fin
 | frl _ =>
  obtain⟨a,vs,rfl,ha,_⟩:=rd;obtain rfl:u=Value.ref a:=rx;obtain⟨its,_,⟨o,n,h1,h2,_⟩,_⟩:=I.list ha.sq;exact jJb jJm I.kIn ⟨o,h1,h2⟩ hk (fun z=>nomatch z) fin
 | dic _ _=>obtain⟨a,_,_,rfl,e,_⟩:=rd;exact wt I rx (.dK e) hk fin
 | tup _ =>
  obtain⟨a,vs,rfl,ha,_⟩:=rd;obtain rfl:u=Value.ref a:=rx;obtain⟨its,_,⟨o,h1,h2,_⟩,_⟩:=I.tuple ha;exact jJb jJw I.kIn ⟨o,h1,h2⟩ hk (fun z=>nomatch z) fin
 | obj _ _ _=>cases hO
end
section
def qw (T:String):D->R D
 | .obj _ _ _=>.bad
 | d=>.ok (.bl (QG d T))
def u0 (hT:T∈(["int","bool","str","list","tuple","dict"]:List String))(hg:Gl X "isinstance")(hm:X.mg "isinstance"=none)(hc:PE X c' (tC (.ty T)))(he:ME X E Γ e t c)(hs:autoParam (jNc [e,c'] X.env=(false,eval e X.env)::jNc [c'] X.env) au3._auto_1)(hs2:autoParam (jNc [c'] X.env=(false,eval c' X.env)::jNc [] X.env) au3._auto_1)
  (hpl:autoParam ((jNh pos (jNc [c'] X.env)).any (·.1)=false) au3._auto_1):ME X E Γ (.Call (.Name "isinstance" p) [e,c'] [] pos) (eUn (qw T) t) .fresh:=by
 obtain⟨te,p',q⟩:=he;refine⟨_,Wh (x:="isinstance") Qp hg hm Boot.«isinstance» (wR p' (wR hc uU hs2) hs) (by decide) (by decide) hs hpl,fun O σ H τ Q ok h=>q O σ H τ _ ok (post.bind h fun d _ h v H1 L s1 r1 _=>?_)⟩;cases d<;>first|exact h.elim|exact⟨v,T,_,L,rfl,r1,rfl,hT,h _ H1 [] s1 ⟨rfl,rfl⟩ RcOk.nil⟩
end
noncomputable def z4z (ks:List Key)(vs:List V):List (V×V):=(ks.zip vs).map fun kv=>(kV kv.1,kv.2)
def kq {kvs:List (Key×V)}{k:Key}{v:V}(h:k∉kvs.map (·.1)):xS kvs k v=kvs++[(k,v)]:=by
 unfold xS;rw[jPa];intro z;rw[List.any_eq_true]at z;obtain⟨p,hp,e⟩:=z;exact h (tW.mpr ⟨p,hp,by simpa using e⟩)
theorem kD:∀(more kvs:List (Key×V)),((kvs++more).map (·.1)).Nodup->xj kvs more=kvs++more
 | [],kvs,_=>by simp[xj]
 | p::r,kvs,h=>by
  have hp:p.1∉kvs.map (·.1):=by
   rw[rR,tO]at h;obtain⟨_,_,h3⟩:=tX.mp h;exact fun z=>h3 p.1 z p.1 tE rfl
  show xj (xS kvs p.1 p.2) r=_;rw[kq hp,kD r _ (by rw[sS];exact h),sS]
  rfl
theorem YG:∀(ks:List Key) (vs:List V),vs.length=ks.length->(ks.zip vs).map (·.1)=ks
 | [],_,_=>rfl
 | k::ks,[],h=>by cases h
 | k::ks,v::vs,h=>by rw[List.zip_cons_cons,tO,YG ks vs (by simpa using h)]
theorem VH:∀(ks:List Key) (vs:List V),vs.length=ks.length->(ks.zip vs).map (·.2)=vs
 | [],[],_=>rfl
 | [],_::_,h=>by cases h
 | k::ks,[],h=>by cases h
 | k::ks,v::vs,h=>by rw[List.zip_cons_cons,tO,VH ks vs (by simpa using h)]
section
def MPs (X:Cx)(E:XK)(Γ:List Cl)(pos:Pos)(keys:List (Option Expr))(values:List Expr)(ks:List Key)(t:Tn->R (List D))(c:Rc):Prop:=
 (∀τ ds,t τ=.ok ds->ds.length=ks.length)/\∃trs,PPs X pos keys values trs/\∀O σ H τ (Q:List (V×V)->Hp->Prop),EOk X.K Γ O H σ τ->QE X.K E O c H (fun vs H'=>Q (z4z ks vs) H') (t τ)->YN trs σ H Q
def U4:MPs X E Γ pos [] [] [] zf .fresh:=⟨fun τ ds h=>by cases h;rfl,[],Kv,fun O σ H τ Q ok h=>h [] H [] (Same.refl H) Reps.nil RcOk.nil⟩
def xH (hk:PE X k (tC (kV key)))(h:ME X E Γ v t ca)(r:MPs X E Γ pos keys values ks u cb):MPs X E Γ pos (some k::keys) (v::values) (key::ks) (z9 t u) (Rc.both ca cb):=by
 obtain⟨te,p1,q1⟩:=h;obtain⟨hl,trs,p2,q2⟩:=r;refine⟨fun τ ds h=>?_,_,J1 hk p1 p2,fun O σ H τ Q ok h=>?_⟩
 ·unfold z9 at h;obtain⟨d,h1,h⟩:=vy h;obtain⟨xs,h2,h⟩:=vy h;cases h;rw[tR,tR,hl τ xs h2]
 ·unfold z9 at h;refine q1 O σ H τ _ ok ?_;cases h1:t τ with
  | ok d =>
   rw[h1,jYa]at h;refine fun v H1 L1 s1 r1 k1=>q2 O σ H1 τ _ (ok.same s1) ?_;cases h2:u τ with
   | ok xs =>
    rw[h2,jYa]at h;exact fun vs H2 L2 s2 r2 k2=>h (v::vs) H2 (L1++L2) (s1.trans s2) (Reps.cons (r1.same s2) r2) (RcOk.append ok.dom s1 r1 k1 k2)
   | err n=>rw[h2]at h;exact fun C H' e s'=>h C H' e (s1.trans s')
   | bad=>rw[h2]at h;exact h
  | err n=>rw[h1]at h;exact h
  | bad=>rw[h1]at h;exact h
def VT (h:MPs X E Γ pos keys values ks u c)(hc:c≠.bor)(hnd:autoParam (ks.Nodup) au1._auto_1)(hlk:autoParam (ks.length<=15) au1._auto_1)(hall:autoParam (keys.all (·.isSome)=true) au3._auto_1)(hl:autoParam (keys.length=values.length) au3._auto_1)(h0:autoParam (keys≠[]) au6._auto_1)(h15:autoParam (keys.length<=15) au1._auto_1):
  ME X E Γ (.Dict keys values pos) (eL (fun ds=>.ok (.dic ks ds)) u) c:=by
 obtain⟨hlen,trs,p,q⟩:=h;refine⟨_,z0o p hall hl h0 h15,fun O σ H τ Q ok h dd hd=>?_⟩;have s0:Same H (upd H dd (.dK [])):=Same.new hd;have okO:EOk X.K Γ (fun a=>O a\/a=dd) (upd H dd (.dK [])) σ τ:=by
  refine⟨fun a ha=>?_,fun j k e hk=>?_⟩
  ·rcases ha with ha|ha
   ·exact (ok.same s0).dom a ha
   ·rw[ha,zG];simp
  ·obtain⟨v,d,L0,a1,a2,a3,a4⟩:=ok.slot j k e hk;refine⟨v,d,L0,a1,a2,a3.same s0,fun z a ha hm=>?_⟩;rcases hm with hm|hm
   ·exact a4 z a ha hm
   ·exact a3.there ha (hm▸hd)
 refine q _ σ _ τ _ okO ?_;unfold eL at h;cases hu:u τ with
 | err n=>rw[hu]at h;exact fun C H' e s'=>h C H' e (s0.trans s')
 | bad=>rw[hu]at h;exact h
 | ok ds =>
  rw[hu,jYa]at h;refine fun vs H2 L s2 r k2=>?_;have hD2:H2 dd=some (.dK []):=s2 _ _ zG;have hv:vs.length=ks.length:=by rw[r.length,hlen τ ds hu]
  have nD:dd∉L:=fun hm=>by
   cases c with
   | fresh=>have:=k2.2 dd hm;rw[zG]at this;cases this
   | shr=>exact k2 dd hm (.inr rfl)
   | bor=>exact hc rfl
  refine⟨hD2,ks.zip vs,rfl,by rw[List.length_zip];lia,?_⟩;have em:xj [] (ks.zip vs)=ks.zip vs:=by
   have:=kD (ks.zip vs) [] (by rw[List.nil_append,YG ks vs hv];exact hnd);rw[this];rfl
  rw[em];have mu:(∃vs,H2 dd=some (.lst vs))\/∃kvs,H2 dd=some (.dK kvs):=.inr ⟨_,hD2⟩;refine h (.ref dd) _ (dd::L) ?_ ⟨dd,ks.zip vs,L,rfl,zG,rfl,YG ks vs hv,hnd,?_⟩ ?_
  ·exact Same.upd_of (H1:=H) hd (s0.trans s2)
  ·rw[VH ks vs hv];exact r.upd mu nD
  ·cases c with
   | fresh =>
    refine⟨sF.mpr ⟨nD,k2.1⟩,fun a ha=>?_⟩;rcases tK.mp ha with z|z
    ·rw[z];exact hd
    ·exact s0.non (k2.2 a z)
   | shr =>
    intro a ha;rcases tK.mp ha with z|z
    ·rw[z];exact fun w=>ok.dom dd w hd
    ·exact fun w=>k2 a z (.inl w)
   | bor=>exact absurd rfl hc
def JN:List D->R D
 | [.dic ks ds]=>if D.imms ds=true then .ok (.dic ks ds) else .bad
 | _=>.bad
def YK:List V->Hp->VK->Prop:=fun xs H Q=>∃a kvs,xs=[.ref a]/\Rd H a (.dK kvs)/\∀l,H l=none->Q (.ref l) (upd H l (.dK kvs))
def Vo:CallR X (.type "dict") YK:=by
 intro jNj s σ H xs us Q I r h;obtain⟨a,kvs,rfl,hr,q⟩:=h;obtain⟨u,rfl,ru⟩:=wD r;obtain rfl:u=Value.ref a:=ru;obtain⟨z,hd,vs,rel,dd⟩:=u5 I.hok hr;refine kt_call_dict hd dd (by rw[<-rel.length];exact z) fun h' hm hs=>?_;have hk:∀b o,s.heap.get? b=some o->h'.get? b=some o:=fun b o e=>(hs.2 b (tU (jYc e))).trans (jYb _ e);have hsz:s.heap.objs.size<=s.heap.objs.size:=tI _;refine⟨.ref s.heap.objs.size,_,I.laid (o:=.dK kvs) (t':=s.toks) hk hsz ?_,rfl,q _ (I.hok.fresh hsz)⟩;refine⟨z,?_,vs,rel,hm⟩;exact beq_eq_false_iff_ne.mpr (Ne.symm (tU I.big))
def z18 {K:jJa}:ClB K YK JN:=by
 rintro H xs ds L Q r ⟨d,hg,q⟩;unfold JN at hg;split at hg
 ·split at hg
  ·rename_i hz;cases hg;obtain⟨v,rfl,a,kvs,L',rfl,ha,_,hk,hn,rs⟩:=xG r;refine⟨a,kvs,rfl,.inl ha,fun l hl=>q _ _ [l] (Same.new hl) ⟨l,kvs,[],rfl,zG,rfl,hk,hn,(yh rs hz).same (Same.new hl)⟩ (by simp) (fun b hb=>by rw[sI.mp hb];exact hl)⟩
  ·cases hg
 ·cases hg
end
theorem Room.u12 {k:Nat}(r:Room k A):A.units+12<cLine:=by have:=r.un;lia
theorem Room.u1 {k:Nat}(r:Room k A):A.units+1<cLine:=by have:=r.un;lia
noncomputable def uk (outer:Scope)(N N':List Str)(fr:List (Option Nat))(scope:Scope):Bool:=
 decide (scope.kind=.function)&&scope.names.all (fun y=>decide (y.2≠.cell))&&scope.names.all (fun y=>decide (y.2≠.local)||decide (scope.names.lookup y.1=some .local)) &&
 scope.names.all (fun y=>decide (y.2≠.free)||decide (outer.names.lookup y.1=some .cell)||decide (outer.names.lookup y.1=some .free))&&decide (fr.length=N'.length) &&
 (List.range fr.length).all fun j=>match fr[j]?,N'[j]? with
  | some (some i),some x=>decide (N[i]?=some x)&&decide (scope.names.lookup x=some .free)&&(decide (outer.names.lookup x=some .cell)||decide (outer.names.lookup x=some .free))
  | _,_=>true
def uN {fr:List (Option Nat)}(hc:∀x,(X.env.scope.names.lookup x=some .cell\/X.env.scope.names.lookup x=some .free)->∃c,X.env.cells.lookup x=some c)(h:uk X.env.scope X.N N' fr scope=true):CompScope X N' fr scope:=by
 unfold uk at h;simp only[sG,decide_eq_true_eq,rK,pD]at h;obtain⟨⟨⟨⟨⟨h1,h2⟩,h3⟩,h4⟩,h5⟩,h6⟩:=h;refine⟨h1,h2,fun y hy e=>?_,fun y hy e=>?_,h5,fun j i x e1 e2=>?_⟩
 ·rcases h3 y hy with z|z
  ·exact absurd e z
  ·exact z
 ·rcases h4 y hy with (z|z)|z
  ·exact absurd e z
  ·exact hc y.1 (.inl z)
  ·exact hc y.1 (.inr z)
 ·have hj:j<fr.length:=(tJ.mp e1).1;have:=h6 j (rS.mpr hj);rw[e1,e2]at this;simp only[sG,decide_eq_true_eq,pD]at this;exact⟨this.1.1,this.1.2,this.2⟩
def xk {CX:CXT}{P:jNe}{w:World}{K:jJa}{mg:Str->Option Value}{base:Heap}{N:List Str}{qual:Str}{sc:Scope}{f:Addr}{cd:Value}{A:jNf}{outer:List Env}{s:jNg}{H:Hp}{E:XK}{N':List Str}{fr:List (Option Nat)}{scope:Scope}
  (nf:∀y∈sc.names,y.2≠.free) (h:uk sc N N' fr scope=true):CompScope (yZ CX P w K mg base N qual sc f cd A outer s H E) N' fr scope:=
 uN (X:=yZ CX P w K mg base N qual sc f cd A outer s H E) (fun x hx=>by
  rcases hx with hx|hx
  ·exact qA hx
  ·exact absurd rfl (nf _ (PySem.mem_of_lookup hx))) h
def z0H {fr:List (Option Nat)}(nf:∀y∈sc.names,y.2≠.cell)
  (h:uk (relabel sc X.env) N N' fr scope=true):CompScope (zA X sc N s₃ H₃ fp jNj) N' fr scope:=
 uN (X:=zA X sc N s₃ H₃ fp jNj) (fun x hx=>by
  have hx:(relabel sc X.env).names.lookup x=some .cell\/(relabel sc X.env).names.lookup x=some .free:=hx;have key:sc.names.lookup x=some .free:=by
   rcases hx with h|h
   ·obtain⟨k',e1,e2⟩:=zQ h;rcases e2 with z|⟨z,_⟩
    ·exact absurd z.symm (nf _ (PySem.mem_of_lookup e1))
    ·rw[e1,z]
   ·obtain⟨k',e1,e2⟩:=zQ h;rcases e2 with z|⟨_,z⟩
    ·rw[e1,<-z]
    ·cases z
  exact xV (.inl (PySem.mem_of_lookup key))) h
section
def MGs (X:Cx)(es:List Expr)(is:List Nat):Prop:=∃g,PGs X es g/\∀(vs:List V) (σ:St) (H:Hp) (Q:St->Hp->Prop),vs.length=is.length->Q (x5 σ is vs) H->g vs σ H Q
def ym:MGs X [] []:=⟨z5r,KU,fun vs σ H Q hl q=>by
 have:vs=[]:=pC.mp hl;subst this;exact⟨rfl,q⟩⟩
def zu {i:Nat}{is:List Nat}(h:PG X x (jm i))(r:MGs X es is)(hs:autoParam ((jMe (x::es) X.env).map (·.2)=assign x X.env::(jMe es X.env).map (·.2)) au3._auto_1):MGs X (x::es) (i::is):=by
 obtain⟨g,p,q⟩:=r;refine⟨_,QX h p hs,fun vs σ H Q hl k=>?_⟩;cases vs with
 | nil=>cases hl
 | cons v vs=>exact⟨v,vs,rfl,q vs _ H Q (by simpa using hl) k⟩
def yi {k:Nat}{is:List Nat}(hc:X.calm=true)(h:MGs X es is)(hn:autoParam ((jMe es X.env).length=is.length) au3._auto_1)(hst:autoParam ((jMe es X.env).findIdx? (·.1)=none) au3._auto_1):MG X (.Tuple es k pos) (.many is):=by
 obtain⟨g,p,q⟩:=h;exact⟨g,z2V hc p hn hst,q⟩
def zT {i:Nat}(h:PG X x (jm i)):MG X x (.one i):=h
def Jw (g:Tgt)(t:Tn->R D):Tn->R Fl:=fun τ=>(t τ).bind fun d=>(g.asg d τ).bind fun τ1=>.ok (.nx τ1)
def Kb (h:ME X E Γ e t c)(hc:c≠.bor)(hg:MG X tg g)(hn:∀i∈g.slots,i<Γ.length)(hs:autoParam (swapsWithSole [tg] e pos.line X.env=pure false) au3._auto_1)(hw:autoParam (swappedStores [tg] e X.env=pure none) au3._auto_1)
  (h1:autoParam ((jMe [tg] X.env).map (·.2)=[assign tg X.env]) au3._auto_1):MS X E Γl Γ (.Assign [tg] e pos) (Jw g t) (shrAll Γ g.slots):=by
 obtain⟨te,p,q⟩:=h;refine⟨_,V4 p hg.pg hs hw h1,fun B σ H τ Z ok h=>?_⟩;obtain⟨O,eo,Od,hB⟩:=ok.base;refine q O σ H τ _ eo ?_;unfold Jw at h;cases ht:t τ with
 | ok d =>
  rw[ht,jYa]at h;refine fun v H' L s r k=>?_;obtain⟨B1,sB,ok1,hB1⟩:=hB H' s;have hL:∀a∈L,B1 a≠none:=fun a ha=>by rw[hB1 a (k.shr eo.dom hc a ha)];exact r.there ha
  cases ha:g.asg d τ with
  | ok τ1 =>
   rw[ha,jYa]at h;exact JU ok1 r hL hn ha fun σ1 ok2=>h σ1 H' (ok2.rebase sB)
  | err n =>
   cases g with
   | one i=>cases ha
   | many is =>
    unfold Tgt.asg at ha;split at ha
    ·cases ha
    ·split at ha<;>cases ha
    ·cases ha
  | bad=>rw[ha]at h;exact h.elim
 | err n=>rw[ht]at h;exact fun C H' e s=>h C H' e (ok.ext.trans s)
 | bad=>rw[ht]at h;exact h
def qP (i:Nat)(g:D->D->R D)(t:Tn->R D):Tn->R Fl:=fun τ=>(za i τ).bind fun x=>(t τ).bind fun y=>(g x y).bind fun z=>.ok (.nx (τ.set i (some z)))
def z3k {i:Nat}(hN:X.N.Nodup)(hi:X.N[i]?=some x)(hk:Γ[i]?=some k)(hkd:k≠.dead)(hB:OpB X.K r g)(hn:xn g)(ho:PIp X op r)(h:ME X E Γ e t c)(hx:Loc X.env.scope x)
  (hf:autoParam (X.fn x=true\/X.env.scope.names.lookup x=some .local) au0._auto_1):MS X E Γl Γ (.AugAssign (.Name x pos') op e pos) (qP i g t) (Γ.set i .own):=by
 obtain⟨te,p,q⟩:=h;refine⟨_,z2X hN hi hx p ho hf,fun B σ H τ Z ok h=>?_⟩;obtain⟨O,eo,_⟩:=ok.eok;obtain⟨v,d,L,e1,e2,e3,_⟩:=eo.slot i k hk hkd;refine⟨v,e1,q O σ H τ _ eo ?_⟩;unfold qP at h;have ev:za i τ=.ok d:=by unfold za;rw[e2]
 rw[ev,jYa]at h;have hl:i<Γ.length:=(tJ.mp hk).1;cases ht:t τ with
 | ok dy =>
  rw[ht,jYa]at h;refine fun y H1 Ly s1 ry _=>?_;cases hg:g d dy with
  | ok dz =>
   rw[hg,jYa]at h;refine hB H1 v y d dy L Ly _ (e3.same s1) ry ⟨dz,hg,fun z H2 L2 s2 rz n1 n2=>h _ _ ?_⟩;have ok2:=(ok.same s1).aside s2 (fun a ha=>rz.there ha) n1 n2;exact SOk.into (T:=[]) ok2 rz hl
  | err n=>exact absurd hg (hn _ _ _)
  | bad=>rw[hg]at h;exact h.elim
 | err n=>rw[ht]at h;exact fun C H' e s=>h C H' e (ok.ext.trans s)
 | bad=>rw[ht]at h;exact h
theorem PIp.or (h:PIp X op r)(h':PIp X op r'):PIp X op (fun x y H Q=>r x y H Q\/r' x y H Q):=by
 intro jNj s σ H x y v u Q I r1 r2 z;rcases z with z|z
 ·exact h jNj s σ H x y v u Q I r1 r2 z
 ·exact h' jNj s σ H x y v u Q I r1 r2 z
noncomputable def wM:D->D->R D
 | .int i,.int j=>.ok (.int (i+j))
 | .str x,.str y=>if x.length+y.length<=jNb then .ok (.str (x++y)) else .bad
 | _,_=>.bad
def wo:xn wM:=fun x y n h=>by
 unfold wM at h;split at h
 ·cases h
 ·split at h<;>cases h
 ·cases h
def xx:PIp X .Add (fun x y H Q=>ipI (fun i j=>i+j) x y H Q\/∃i j,x=.str i/\y=.str j/\i.length+j.length<=jNb/\Q (.str (i++j)) H):=PIp.or z3L fun jNj s σ H x y v u Q I r1 r2 z=>Wb jNj s σ H x y v u Q I r1 r2 z
def we {K:jJa}:OpB K (fun x y H Q=>ipI (fun i j=>i+j) x y H Q\/∃i j,x=.str i/\y=.str j/\i.length+j.length<=jNb/\Q (.str (i++j)) H) wM:=by
 rintro H x y dx dy Lx Ly Q rx ry ⟨d,hg,q⟩;unfold wM at hg;split at hg
 ·cases hg;exact .inl ⟨_,_,rx.1,ry.1,q _ H [] (Same.refl H) ⟨rfl,rfl⟩ (by simp) (fun a ha=>nomatch ha)⟩
 ·split at hg
  ·rename_i hz;cases hg;exact .inr ⟨_,_,rx.1,ry.1,hz,q _ H [] (Same.refl H) ⟨rfl,rfl⟩ (by simp) (fun a ha=>nomatch ha)⟩
  ·cases hg
 ·cases hg
structure Bl (mg:Str->Option Value):Prop where
 isinstance:mg "isinstance"=none
 int:mg "int"=none
 bool:mg "bool"=none
 str:mg "str"=none
 dict:mg "dict"=none
 list:mg "list"=none
 tuple:mg "tuple"=none
 len:mg "len"=none
 sum:mg "sum"=none
 max:mg "max"=none
 min:mg "min"=none
 all:mg "all"=none
 range:mg "range"=none
 enumerate:mg "enumerate"=none
 zip:mg "zip"=none
end
section
def mn (i:Nat)(k:Cl){x:Str}(hN:autoParam (X.N[i]?=some x) au3._auto_1)(hk:autoParam (Γ[i]?=some k) au3._auto_1)(hd:autoParam (k≠.dead) au1._auto_1)(hv:autoParam (Vis X.env.scope x) au7._auto_1)(hb:autoParam ((x==("__debug__":Str))=false) au1._auto_1)(hcd:autoParam ((x==("__classdict__":Str))=false) au1._auto_1):
  ME X E Γ (.Name x pos) (za i) (Rc.of k):=z0G hN hk hd hv hb hcd
def mvn (i:Nat){x:Str}(hN:autoParam (X.N[i]?=some x) au3._auto_1)(hk:autoParam (Γ[i]?=some .own) au3._auto_1)(hv:autoParam (Vis X.env.scope x) au7._auto_1)(hb:autoParam ((x==("__debug__":Str))=false) au1._auto_1)(hcd:autoParam ((x==("__classdict__":Str))=false) au1._auto_1):
  MV X E Γ (.Name x pos) (za i) (Γ.set i .dead):=KR hN hk hv hb hcd
def st (i:Nat){x:Str}(nd:X.N.Nodup)(h:MV X E Γ e t Γ1)(hi:autoParam (X.N[i]?=some x) au3._auto_1)(hl:autoParam (i<Γ1.length) au1._auto_1)(hx:autoParam (Loc X.env.scope x) au8._auto_1)(hs:autoParam (jMj e (some (.Name x pos')) pos.line X.env=pure false) au3._auto_1)(hf:autoParam (X.fn x=true\/X.env.scope.names.lookup x=some .local) au0._auto_1):
  MS X E Γl Γ (.Assign [.Name x pos'] e pos) (zl i t) (Γ1.set i .own):=z2L nd hi hl h hx hs hf
def stS (i:Nat){x:Str}(nd:X.N.Nodup)(h:ME X E Γ e t c)(hc:autoParam (c≠.bor) au1._auto_1)(hi:autoParam (X.N[i]?=some x) au3._auto_1)(hl:autoParam (i<Γ.length) au1._auto_1)(hx:autoParam (Loc X.env.scope x) au8._auto_1)(hs:autoParam (jMj e (some (.Name x pos')) pos.line X.env=pure false) au3._auto_1)(hf:autoParam (X.fn x=true\/X.env.scope.names.lookup x=some .local) au0._auto_1):
  MS X E Γl Γ (.Assign [.Name x pos'] e pos) (zl i t) (Γ.set i .shr):=z17 nd hi hl h hc hx hs hf
def pgn (i:Nat){x:Str}(nd:X.N.Nodup)(hi:autoParam (X.N[i]?=some x) au3._auto_1)(hx:autoParam (Loc X.env.scope x) au8._auto_1)(hf:autoParam (X.fn x=true\/X.env.scope.names.lookup x=some .local) au0._auto_1):PG X (.Name x pos) (jm i):=z0S nd hi hx hf
def app (i:Nat){x:Str}{p0 p1 p2:Pos}(h:MV X E Γ e t Γ1)(hN:autoParam (X.N[i]?=some x) au3._auto_1)(h0:autoParam (Γ[i]?=some .own) au3._auto_1)(hk:autoParam (Γ1[i]?=some .own) au3._auto_1)(hv:autoParam (Vis X.env.scope x) au7._auto_1)(hb:autoParam ((x==("__debug__":Str))=false) au1._auto_1)(hcd:autoParam ((x==("__classdict__":Str))=false) au1._auto_1)
  (hbase:autoParam (jKg (.Name x p0) "append" X.env (eval (.Name x p0) X.env)=eval (.Name x p0) X.env) au3._auto_1)
  (hfew:autoParam (((jNh p2 (jNc [e] X.env)).all (fun x=>!x.1)&&(jNa p2 (jMa [] X.env)).all (fun x=>x.1.isSome)&&decide ([e].length+([]:List jNd).length+(if ([]:List jNd).isEmpty then 0 else 1)<30))=true) au3._auto_1)
  (hline:autoParam ((p1.endLine==p2.line)=true) au3._auto_1) (hs:autoParam (jNc [e] X.env=(false,eval e X.env)::jNc [] X.env) au3._auto_1) (hplain:autoParam ((jNh p2 (jNc [] X.env)).any (·.1)=false) au3._auto_1)
  (hsw:autoParam (jMj (.Call (.Attribute (.Name x p0) "append" p1) [e] [] p2) none pos.line X.env=pure false) au3._auto_1):
  MS X E Γl Γ (.Expr (.Call (.Attribute (.Name x p0) "append" p1) [e] [] p2) pos) (xy i t) Γ1:=UR hN h0 h hk hv hb hcd hbase hfew hline hs hplain hsw
def put (i:Nat){x:Str}{p0 p1:Pos}{ix:Expr}{ti:Tn->R D}(h:MV X E Γ e t Γ1)(hi:ME X E Γ1 ix ti c)(hN:autoParam (X.N[i]?=some x) au3._auto_1)(hk:autoParam (Γ1[i]?=some .own) au3._auto_1)(hv:autoParam (Vis X.env.scope x) au7._auto_1)(hb:autoParam ((x==("__debug__":Str))=false) au1._auto_1)(hcd:autoParam ((x==("__classdict__":Str))=false) au1._auto_1)
  (ha:autoParam (∀v,assign (.Subscript (.Name x p0) ix p1) X.env v=(do
   let ov <-holding [v] (eval (.Name x p0) X.env)
   let iv <-holding [v,ov] (eval ix X.env)
   standAt p1
   holding [v,ov,iv] (setItem ov iv v)
   release [v,ov,iv] [])) au2._auto_1)
  (hs:autoParam (swapsWithSole [.Subscript (.Name x p0) ix p1] e pos.line X.env=pure false) au3._auto_1) (hw:autoParam (swappedStores [.Subscript (.Name x p0) ix p1] e X.env=pure none) au3._auto_1)
  (h1:autoParam ((jMe [.Subscript (.Name x p0) ix p1] X.env).map (·.2)=[assign (.Subscript (.Name x p0) ix p1) X.env]) au3._auto_1):
  MS X E Γl Γ (.Assign [.Subscript (.Name x p0) ix p1] e pos) (WH i t ti) Γ1:=z37 hN h hi hk hv hb hcd ha hs hw h1
def aug (i:Nat)(k:Cl){x:Str}{op:Operator}{r:R2}{g:D->D->R D}(nd:X.N.Nodup)(hB:OpB X.K r g)(hn:xn g)(ho:PIp X op r)(h:ME X E Γ e t c)(hi:autoParam (X.N[i]?=some x) au3._auto_1)(hk:autoParam (Γ[i]?=some k) au3._auto_1)(hkd:autoParam (k≠.dead) au1._auto_1)(hx:autoParam (Loc X.env.scope x) au8._auto_1)
  (hf:autoParam (X.fn x=true\/X.env.scope.names.lookup x=some .local) au0._auto_1):MS X E Γl Γ (.AugAssign (.Name x pos') op e pos) (qP i g t) (Γ.set i .own):=z3k nd hi hk hkd hB hn ho h hx hf
def stC (i:Nat){x:Str}{N':List Str}{fr:List (Option Nat)}{scope:Scope}{tg iter elt:Expr}{ifs:List Expr}{it:Tn->R (List D)}{g:Tgt}{cnd:Tn->R Bool}{te:Tn->R D}{ci:Rc}{cpos:Pos}(nd:X.N.Nodup)(hc:X.calm=true)(S:CompScope X N' fr scope)(hi:MI X E Γ tg iter it ci)
  (hg:∀s₃ H₃ fp jNj,MG (zA X scope N' s₃ H₃ fp jNj) tg g) (ht:∀s₃ H₃ fp jNj,MTs (zA X scope N' s₃ H₃ fp jNj) noX (yn (Cl.ofIt ci) (y8 fr Γ) g.slots) ifs cnd)
  (he:∀s₃ H₃ fp jNj,ME (zA X scope N' s₃ H₃ fp jNj) noX (yn (Cl.ofIt ci) (y8 fr Γ) g.slots) elt te .fresh) (hd:∀j∈g.slots,(y8 fr Γ)[j]?=some .dead)
  (hix:autoParam (X.N[i]?=some x) au3._auto_1) (hl:autoParam (i<Γ.length) au1._auto_1) (hx:autoParam (Loc X.env.scope x) au8._auto_1) (hsw:autoParam (jMj (.ListComp elt [⟨tg,iter,ifs,0⟩] scope cpos) (some (.Name x pos')) pos.line X.env=pure true) au3._auto_1)
  (hs:autoParam (∀x,jYh iter X.env x=pure x) au2._auto_1) (hf:autoParam (X.fn x=true\/X.env.scope.names.lookup x=some .local) au0._auto_1):
  MS X E Γl Γ (.Assign [.Name x pos'] (.ListComp elt [⟨tg,iter,ifs,0⟩] scope cpos) pos) (zl i (zR fr it g cnd te)) (Γ.set i .own):=z08 hc S hi hg ht he hd nd hix hl hx hsw hs hf
end
section
variable {P:jNe}{w:World}{K:jJa}{mg:Str->Option Value}{base:Heap}{x:Str}{st:Stmt}{N ps:List Str}{k:Nat}{t:Tn->R Fl}{Γ':List Cl}
def z3a {f:Addr}{oc:Value}{od an:Option Addr}{osl:Array (Option Value)}{kV doc pm cdv ct:Value}(lk:K.lookup f=some ⟨oc,od,.func (jJc x x (defArgs st) (defBody st) (defScope st) .none kV doc pm an cdv ct),osl⟩)(hcd:jJg K cdv x=true)
  (S:FnScope N ps (defScope st)) (hn:ps.length<=N.length)
  (hbody:∀(f:Addr) (cdv:Value) (A:jNf) (outer:List Env) (s:jNg) (H:Hp) (E:XK),Room k (A.deeper (envOfC x (defScope st) s.heap.objs.size f cdv)) ->
   MSs (yZ (cxx P w) P w K mg base N x (defScope st) f cdv A outer s H E) E [] (jG N.length ps.length) (defBody st) t Γ'):
  FnOk P w K mg base (cxx P w) (k+1) f (jJc x x (defArgs st) (defBody st) (defScope st) .none kV doc pm an cdv ct) ps (spM K (zF N.length t) ps.length):=by
 refine z1Y lk hcd S (fun vs H Q E h=>h.1) fun A outer s H vs Q E hr h=>?_;obtain⟨hl,ds,L,r,h⟩:=h;obtain⟨ts,p,q⟩:=hbody f cdv A outer s H E hr;refine⟨ts,p,q H (start N vs) H _ _ (hl▸SOk.start r (by lia)) ?_⟩;unfold zF at h;cases ht:t (ds.map some++List.replicate (N.length-ds.length) none)with
 | ok f =>
  rw[ht]at h;cases f with
  | nx τ'=>exact fun σ' H' ok'=>h .non H' [] ok'.ext ⟨rfl,rfl⟩ RcOk.nil
  | rt d=>exact fun v H' L s r n1 n2=>h v H' L s r ⟨n1,n2⟩
  | bk τ'=>exact h.elim
  | ct τ'=>exact h.elim
 | err n=>rw[ht]at h;exact fun C H' e s=>h C H' e s
 | bad=>rw[ht]at h;exact h.elim
end
theorem Y3:∀ns:List Int,D.imms (ns.map D.int)=true
 | []=>rfl
 | n::ns=>by rw[tO];show (true&&D.imms (ns.map D.int))=true;rw[Y3 ns];rfl
theorem ZT {K:jJa}{H:Hp}:∀ns:List Int,Reps K H (ns.map D.int) (ns.map V.int) []
 | []=>Reps.nil
 | n::ns=>Reps.cons (L1:=[]) ⟨rfl,rfl⟩ (ZT ns)
def z0x {K:jJa}{H:Hp}{a:Addr}{ns:List Int}{F:List D->R D}(hO:z0V H)(hS:SqL K H a (ns.map V.int))(hF:F [.frl (ns.map D.int)]=.ok (.bl true)):spM K F 1 [.ref a] H (fun v _=>v=.bl true) fun _ _ _=>False:=by
 have hs:SqF K H a (ns.map V.int):=by
  rcases hS with (z|z)|z
  ·rcases hO a with w|⟨o,xs,w⟩
   ·rw[w]at z;cases z
   ·rw[w]at z;cases z
  ·exact .inl z
  ·exact .inr z
 refine⟨rfl,[.frl (ns.map D.int)],[],Reps.cons (L1:=[]) ⟨a,ns.map V.int,rfl,hs,rfl,Y3 ns,ZT ns⟩ Reps.nil,?_⟩;rw[hF];exact fun v H' L s r _=>r.1
def law_walk {Fm:List D->R D}{k:Nat}{x:Str}{l:PySem.W.OpenLaw}{q:jNe}{loose:List Str}{XP:(Str->Option Value)->Heap->Prop}{YP:World->Heap->Prop}{d:DefRec}{K:Params->jJa}(hF:∀ns:List Int,ns.length<=63->Fm [.frl (ns.map D.int)]=.ok (.bl true))(hr:Room k callerA)(hn:l.most=some 63)(hdf:d.params.defaults=[])
  (hY:∀(w:World) (h:Heap),YP w h->(K w.params).In h)
  (F:∀(w:World) (mg:Str->Option Value) (fa:Addr) (h:Heap),(K w.params).In h->h.Ns jMb mg->mg d.name=some (.ref fa) ->
   ∃fd:FuncData,(∀(s:jNg) (u:Value),BindsTo s fd ⟨[u],[]⟩ [(x,u)])/\∀base:Heap,(K w.params).In base->base.Ns jMb mg->FnOk l.prog w (K w.params) mg base (cxx l.prog w) k fa fd [x] (spM (K w.params) Fm 1)):
  PySem.W.WalkO q loose XP YP l.row.toRowW d [] (fun f vs=>PySem.call f vs):=
 L2.walk_of (n:=63) (k:=k) (x:=x) (CX:=fun w=>cxx l.prog w) (sp:=fun w=>spM (K w.params) Fm 1) hn (by decide) hdf hr hY F (fun w H a ns hl hO hS=>z0x hO hS (hF ns hl)) fun w H s e s' z=>z3v z
section
variable {i j:Int}{C:Int->Int->Bool}{g:Int->Int->D}
def z2q:zB (.int i) (.int j)=.ok (.int (i+j)):=rfl
def Jt:L2.intD C g (.int i) (.int j)=if C i j=true then .ok (g i j) else .bad:=rfl
def z0q (h1:-(2 ^ 64)<j)(h2:j<2 ^ 64):yH (.int i) (.int j)=.ok (.int (i*j)):=by
 have:((decide (-(2 ^ 64)<i)&&decide (i<2 ^ 64))||(decide (-(2 ^ 64)<j)&&decide (j<2 ^ 64)))=true:=by rw[decide_eq_true h1,decide_eq_true h2];simp
 exact jNk this
def z00 (h1:-(2 ^ 64)<i)(h2:i<2 ^ 64):yH (.int i) (.int j)=.ok (.int (i*j)):=by
 have:((decide (-(2 ^ 64)<i)&&decide (i<2 ^ 64))||(decide (-(2 ^ 64)<j)&&decide (j<2 ^ 64)))=true:=by rw[decide_eq_true h1,decide_eq_true h2];simp
 exact jNk this
def KC (h1:-18446744073709551616<j)(h2:j<18446744073709551616):yH (.int i) (.int j)=.ok (.int (i*j)):=z0q (by lia) (by lia)
def z1m (h1:-18446744073709551616<i)(h2:i<18446744073709551616):yH (.int i) (.int j)=.ok (.int (i*j)):=z00 (by lia) (by lia)
def z1h (h1:0<j)(h2:j<1073741824):zN (.int i) (.int j)=.ok (.int (i/j)):=by
 simp[zN,Jt,h1,h2]
def z2C (h1:0<j):zY (.int i) (.int j)=.ok (.int (i%j)):=by
 simp[zY,Jt,h1]
def Jb {neg:Bool}:eqR neg (.int i) (.int j)=.ok (.bl (if neg=true then !(i==j) else i==j)):=by
 cases neg<;>rfl
def JP {neg:Bool}:eqR neg (.str x) (.str y)=.ok (.bl (if neg=true then !(x==y) else x==y)):=by
 cases neg<;>rfl
end
def Xr {i:Int}(h0:0<=i)(h:xs[i.toNat]?=some x):atI xs i=some x:=by
 have hj:i.toNat<xs.length:=(tJ.mp h).1;have:=vw h;rw[sY h0]at this;exact this
def YH {i:Int}(h:atI ds i=some d):ixD (.lst ds) (.int i)=.ok d:=by show (match atI ds i with|some d=>R.ok d|none=>R.bad)=_;rw[h]
def z27 {i:Int}(h:atI ds i=some d):ixD (.frl ds) (.int i)=.ok d:=by show (match atI ds i with|some d=>R.ok d|none=>R.bad)=_;rw[h]
def z3f {i:Int}{c:Nat}(hz:x.length<=jNb)(h:atI x.cps.toList i=some c):ixD (.str x) (.int i)=.ok (.str ⟨#[c]⟩):=by show (if x.length<=jNb then (match atI x.cps.toList i with|some c=>R.ok (D.str ⟨#[c]⟩)|none=>R.bad) else R.bad)=_;rw[jNk hz,h]
def z2K:ixD (.tup (a::ds)) (.int 0)=.ok a:=by
 have:atI (a::ds) 0=some a:=vw (j:=0) rfl;show (match atI (a::ds) 0 with|some d=>R.ok d|none=>R.bad)=_;rw[this]
def QM:ixD (.tup (a::b::ds)) (.int 1)=.ok b:=by
 have:atI (a::b::ds) 1=some b:=vw (j:=1) rfl;show (match atI (a::b::ds) 1 with|some d=>R.ok d|none=>R.bad)=_;rw[this]
def z3b:ixD (.tup (a::b::c::ds)) (.int 2)=.ok c:=by
 have:atI (a::b::c::ds) 2=some c:=vw (j:=2) rfl;show (match atI (a::b::c::ds) 2 with|some d=>R.ok d|none=>R.bad)=_;rw[this]
def Vy:yC [.lst ds]=.ok (.int ds.length):=rfl
def z0W:yC [.frl ds]=.ok (.int ds.length):=rfl
def Ku (h:x.length<=jNb):yC [.str x]=.ok (.int x.length):=jNk h
theorem vt:∀ns:List Int,xW (ns.map D.int)=some ns
 | []=>rfl
 | n::ns=>by rw[tO];show (xW (ns.map D.int)).map (n::·)=_;rw[vt ns];rfl
def z2x {ns:List Int}:qS [.lst (ns.map D.int)]=.ok (.int ns.sum):=by
 simp only[qS,vt]
theorem zV {α:Type}{f:α->D}(h:∀a,(f a).imm=true):∀xs:List α,D.imms (xs.map f)=true
 | []=>rfl
 | x::xs=>by rw[tO];show ((f x).imm&&D.imms (xs.map f))=true;rw[h,zV h xs];rfl
theorem qT {α:Type}{enc:α->D}{f:D->R (Option D)}{o:α->Option D}:∀ {xs:List α},(∀x∈xs,f (enc x)=.ok (o x))->yK f (xs.map enc)=.ok (xs.filterMap o)
 | [],_=>rfl
 | x::xs,h=>by
  rw[tO];unfold yK;rw[h x tE,jYa,qT fun y hy=>h y (tF _ hy),jYa];cases ho:o x with
  | none=>simp[sL,ho]
  | some d=>simp[sL,ho]
def vC {lo:Int}{n i:Nat}(h:(rng lo n)[i]?=some d):i<n/\d=.int (lo+i):=by
 unfold rng at h;rw[tN]at h
 by_cases hi:i<n
 ·rw[rW hi]at h;exact⟨hi,(jYe h).symm⟩
 ·rw[sZ (by simp;lia)]at h;cases h
def yz {lo:Int}{n:Nat}:(rng lo n).length=n:=by simp[rng]
def z0P {j:Int}(h1:-(2 ^ 62)<=j)(h2:j<2 ^ 62):vY [.int j]=.ok (rng 0 j.toNat):=jNk ⟨h1,h2⟩
def z0d {i j:Int}(h1:-(2 ^ 62)<=i)(h2:i<2 ^ 62)(h3:-(2 ^ 62)<=j)(h4:j<2 ^ 62):Zz [.int i,.int j]=.ok (rng i (j-i).toNat):=jNk ⟨h1,h2,h3,h4⟩
def JY {a b:Nat}(hb:b<=xs.length)(hab:a<=b):xw xs (some (a:Int)) (some (b:Int))=(xs.drop a).take (b-a):=by
 unfold xw;rw[HT.sIx_nat,HT.sIx_nat];congr 1
 ·lia
 ·congr 1;lia
def Ky (h:x.length+y.length<=jNb):zB (.str x) (.str y)=.ok (.str (x++y)):=jNk h
def z3Y {i j:Int}:wN (.int i) (.int j)=.ok (.int (i-j)):=rfl
def z4U {i j:Int}:ltD (.int i) (.int j)=.ok (.bl (decide (i<j))):=rfl
def z5G {i j:Int}:leD (.int i) (.int j)=.ok (.bl (decide (i<=j))):=rfl
def z69 {i j:Int}:gtD (.int i) (.int j)=.ok (.bl (decide (j<i))):=rfl
def z4b {i j:Int}:geD (.int i) (.int j)=.ok (.bl (decide (j<=i))):=rfl
def z2J {i:Int}:V7 (.int i)=.ok (.int (-i)):=rfl
def Qi {lo hi:Option Int}(h:D.imms ds=true):slD (.lst ds) lo hi=.ok (.lst (xw ds lo hi)):=jNk h
def kg (h:D.imms ds=true):ue [.lst ds]=.ok (.lst ds):=jNk h
def YI {α β:Type}(f:α->β)(xs:List α)(lo hi:Option Int):xw (xs.map f) lo hi=(xw xs lo hi).map f:=by
 unfold xw;rw[tH,List.map_drop.symm,List.map_take]
def KW {α β:Type}(f:α->β)(xs:List α):xs.filterMap (fun x=>some (f x))=xs.map f:=by
 induction xs with
 | nil=>rfl
 | cons x xs ih=>simp
def z4d {α β:Type}(p:α->Bool)(f:α->β)(xs:List α):xs.filterMap (fun x=>if p x=true then some (f x) else none)=(xs.filter p).map f:=by
 induction xs with
 | nil=>rfl
 | cons x xs ih =>
  by_cases h:p x=true
  ·simp[sL,h,ih]
  ·simp[sL,h,ih]
theorem uP {f:D->D->Option Bool}:∀ {ds:List D},(∀d∈ds,f d d=some true)->yA f ds ds=some true
 | [],_=>rfl
 | d::ds,h=>by
  unfold yA;rw[h d tE,uP fun x hx=>h x (tF _ hx)]
  rfl
def jN (n:Nat)(i j:Int):eqF n (.int i) (.int j)=some (i==j):=by cases n<;>rfl
def YY (n:Nat)(i j:Str):eqF n (.str i) (.str j)=some (i==j):=by cases n<;>rfl
def YZ (n:Nat){xs:List D}(h:∀d∈xs,eqF n d d=some true):eqF (n+1) (.tup xs) (.tup xs)=some true:=by
 show (yA (eqF n) xs xs).map _=_;rw[uP h];simp
def jK (n:Nat){xs:List D}(h:∀d∈xs,eqF n d d=some true):eqF (n+1) (.lst xs) (.lst xs)=some true:=by
 show (if xs.length=xs.length then yA (eqF n) xs xs else some false)=_;rw[jNk rfl,uP h]
def goF (asg:D->Tn->R Tn)(body:Tn->R Fl)(ds:List D):Fl->R Fl
 | .nx τ2=>wa asg body ds τ2
 | .ct τ2=>wa asg body ds τ2
 | .bk τ2=>.ok (.nx τ2)
 | .rt r=>.ok (.rt r)
def VG:wa asg body (d::ds) τ=(asg d τ).bind fun τ1=>(body τ1).bind (goF asg body ds):=rfl
def WJ:ixD (.lst (a::ds)) (.int 0)=.ok a:=YH (vw (j:=0) rfl)
def V1:ixD (.lst (a::b::ds)) (.int 1)=.ok b:=YH (vw (j:=1) rfl)
def z0M {i:Int}:qw "int" (.int i)=.ok (.bl true):=rfl
def z0b {i:Int}:qw "bool" (.int i)=.ok (.bl false):=rfl
noncomputable def ka:List D->R D
 | [.int i,.int j]=>.ok (.int (if j<i then j else i))
 | _=>.bad
def Kn:yX ka:=fun ds n h=>by unfold ka at h;split at h<;>cases h
def JM {K:jJa}:ClB K (fun xs H Q=>∃i j,xs=[.int i,.int j]/\Q (.int (if j<i then j else i)) H) ka:=by
 rintro H xs ds L Q r ⟨d,hg,q⟩;unfold ka at hg;split at hg
 ·cases hg;obtain⟨v,v',L1,L2,rfl,_,⟨rfl,_⟩,⟨rfl,_⟩⟩:=z1M r;exact⟨_,_,rfl,q _ H [] (Same.refl H) ⟨rfl,rfl⟩ (by simp) (fun a ha=>nomatch ha)⟩
 ·cases hg
noncomputable def uK (lt:Int->Int->Bool)(f:Nat->Int):Nat->Int
 | 0=>f 0
 | k+1=>if lt (f (k+1)) (uK lt f k)=true then f (k+1) else uK lt f k
theorem jZ (lt:Int->Int->Bool)(f:Nat->Int):∀k,f (argBest (fun i j=>lt (f i) (f j)) k)=uK lt f k
 | 0=>rfl
 | k+1=>by
  have ih:=jZ lt f k;unfold argBest uK;rw[<-ih]
  by_cases h:lt (f (k+1)) (f (argBest (fun i j=>lt (f i) (f j)) k))=true
  ·rw[jNk h,jNk h]
  ·rw[jPa h,jPa h]
def z0j (ns:List Int):Int:=uK (fun i j=>decide (i>j)) (fun i=>ns.getD i 0) (ns.length-1)
def z1n (ns:List Int):Int:=uK (fun i j=>decide (i<j)) (fun i=>ns.getD i 0) (ns.length-1)
def jT (ys:List (Int×Tok))(i:Nat):numAt ys.toArray i=(ys.map (·.1)).getD i 0:=by
 unfold numAt;simp[List.getD]
def z1T (K:jJa):List V->Hp->VK->Prop:=fun xs H Q=>∃(p:Addr) (ns:List Int),xs=[.ref p]/\SqL K H p (ns.map V.int)/\0<ns.length/\Q (.int (z0j ns)) H
def z1Z (K:jJa):List V->Hp->VK->Prop:=fun xs H Q=>∃(p:Addr) (ns:List Int),xs=[.ref p]/\SqL K H p (ns.map V.int)/\0<ns.length/\Q (.int (z1n ns)) H
section
def Wn {ys:List (Int×Tok)}{k:Nat}(h:(intItems ys.toArray)[k]?=some v):∃t,v=.int (numAt ys.toArray k) t:=by
 have:=intItems_at h
 simpa using this
def qZ (hc:X.calm=true):CallR X (.builtin "max") (z1T X.K):=by
 intro jNj s σ H xs us Q I r h;obtain⟨p,ns,rfl,hs,hn,q⟩:=h;obtain⟨u,rfl,ru⟩:=wD r;obtain rfl:u=Value.ref p:=ru;obtain⟨its,rv,pl,hz⟩:=I.list hs;obtain⟨ys,rfl,e⟩:=vv rv;have hl:s.heap.IsList p (intItems ys.toArray):=by
  have:=pl.isList
  simpa [intItems] using this
 subst e;refine max_intList (I.ok.hd hc) hl (by simpa using hn) fun v h' tk hv hk=>?_;obtain⟨t,rfl⟩:=Wn hv;refine⟨.int (z0j (ys.map (·.1))),H,I.kept hk,⟨t,?_⟩,q⟩;have e1:=jZ (fun i j=>decide (i>j)) (numAt ys.toArray) (ys.toArray.size-1);rw[e1];unfold z0j;have e2:numAt ys.toArray=fun i=>(ys.map (·.1)).getD i 0:=funext fun i=>jT ys i;rw[e2];simp
def Yi (hc:X.calm=true):CallR X (.builtin "min") (z1Z X.K):=by
 intro jNj s σ H xs us Q I r h;obtain⟨p,ns,rfl,hs,hn,q⟩:=h;obtain⟨u,rfl,ru⟩:=wD r;obtain rfl:u=Value.ref p:=ru;obtain⟨its,rv,pl,hz⟩:=I.list hs;obtain⟨ys,rfl,e⟩:=vv rv;have hl:s.heap.IsList p (intItems ys.toArray):=by
  have:=pl.isList
  simpa [intItems] using this
 subst e;refine min_intList (I.ok.hd hc) hl (by simpa using hn) fun v h' tk hv hk=>?_;obtain⟨t,rfl⟩:=Wn hv;refine⟨.int (z1n (ys.map (·.1))),H,I.kept hk,⟨t,?_⟩,q⟩;have e1:=jZ (fun i j=>decide (i<j)) (numAt ys.toArray) (ys.toArray.size-1);rw[e1];unfold z1n;have e2:numAt ys.toArray=fun i=>(ys.map (·.1)).getD i 0:=funext fun i=>jT ys i;rw[e2];simp
end
noncomputable def jk (g:List Int->Int):List D->R D
 | [.lst ds]=>match xW ds with
  | some (n::ns)=>.ok (.int (g (n::ns)))
  | _=>.bad
 | _=>.bad
def ke:List D->R D:=jk z0j
def ZP:List D->R D:=jk z1n
def Qs {g:List Int->Int}:yX (jk g):=fun ds n h=>by
 unfold jk at h;split at h
 ·split at h<;>cases h
 ·cases h
def Vb:yX ke:=Qs
def K5:yX ZP:=Qs
def WC {K:jJa}:ClB K (z1T K) ke:=by
 rintro H xs ds L Q r ⟨d,hg,q⟩;unfold ke jk at hg;split at hg
 ·split at hg
  ·rename_i ds n ns hn;cases hg;obtain⟨v,rfl,a,vs,L',rfl,ha,_,rs⟩:=xG r;exact⟨a,n::ns,rfl,by rw[<-x4 rs hn];exact SqL.of ha,by simp,q _ H [] (Same.refl H) ⟨rfl,rfl⟩ (by simp) (fun a ha=>nomatch ha)⟩
  ·cases hg
 ·cases hg
def Je {K:jJa}:ClB K (z1Z K) ZP:=by
 rintro H xs ds L Q r ⟨d,hg,q⟩;unfold ZP jk at hg;split at hg
 ·split at hg
  ·rename_i ds n ns hn;cases hg;obtain⟨v,rfl,a,vs,L',rfl,ha,_,rs⟩:=xG r;exact⟨a,n::ns,rfl,by rw[<-x4 rs hn];exact SqL.of ha,by simp,q _ H [] (Same.refl H) ⟨rfl,rfl⟩ (by simp) (fun a ha=>nomatch ha)⟩
  ·cases hg
 ·cases hg
def XY (a b:Int):Builtin.Range.rangeSize a b (-1)=if a>b then a-b else 0:=by
 unfold Builtin.Range.rangeSize;have h1:¬((-1:Int)>0):=by decide
 have h2:(-(-1):Int)=1:=rfl;simp only[h1,if_false,h2,Int.ediv_one];split<;>omega
def Qa {a b:Int}(ha:-(2 ^ 62)<=a)(ha':a<2 ^ 62)(hb:-(2 ^ 62)<=b)(hb':b<2 ^ 62):Builtin.Range.small a b (-1)=true:=by
 have h1:¬((-1:Int)>0):=by decide
 unfold Builtin.Range.small;rw[XY];simp only[Builtin.Range.rangeFitsLong,sG,pD,decide_eq_true_eq,beq_iff_eq,h1,if_false];split<;>omega
def Itn (lo:Int)(n:Nat):It:=⟨fun i _=>i<n,fun i H x H'=>H'=H/\x=.int (lo-i),fun i _=>n<=i⟩
def UU {P:jNe}{w:World}{K:jJa}{tg:Expr}(it:Addr)(lo:Int)(n:Nat):Turn P w K tg (Itn lo n) [it] it (fun i h=>IsRangeIter h it (lo+(i:Nat)*(-1)) ((n:Int)-(i:Nat)) (-1)) where
 mem:=by simp
 obj:=fun i h st b hb=>by
  have e:b=it:=by simpa using hb
  subst e;exact⟨_,st,fun v z=>by
   have z':Data.fields _=Data.cell v:=z;cases z'⟩
 keep:=fun i h h' st k=>k it (by simp) _ st
 item:=by
  intro X hP hw hK hc i jNj s σ H E I hf st hg;subst hP hw hK;obtain⟨f0,f1,f2,f3,f4,f5⟩:=hf it (by simp);have W:=Walks.range (prog:=X.prog) (w:=X.w) (I.ok.hd hc) it lo (-1) n;refine W.item i s _ _ hg st fun v h' tk hv st' kk=>?_;obtain⟨t,rfl⟩:=hv;have I1:Inv X jNj σ H { s with heap:=h',toks:=tk }:=I.turned (fun b o hb e=>kk b o (by simpa using hb) e) f0 f1 f3 f4 f5;refine⟨_,rfl,Ye (s:={ s with heap:=h',toks:=tk }) (n:="range_iterator") st' rfl rfl (by decide) ⟨.int (lo-i),H,I1,⟨t,?_⟩,⟨rfl,rfl⟩,st',fun b hb=>(hf b hb).1⟩⟩;have e:lo+(i:Int)*(-1)=lo-i:=by omega
  rw[e]
 done:=by
  intro X hP hw hK hc i jNj s σ H E I hf st hg;subst hP hw hK;obtain⟨f0,f1,f2,f3,f4,f5⟩:=hf it (by simp);exact wpAny_pyNext_range_end (I.ok.hd hc) st (by have:n<=i:=hg;omega) fun h' eb=>⟨rfl,I.turned (t':=s.toks) (fun b o hb e=>eb b o hb e) f0 f1 f3 f4 f5⟩
 self:=fun _ _ _ _ _ st h=>wpAny_pyIter_rangeiter st h
section
def z0L {jNj:List (Addr×Obj)}{σ:St}{H:Hp}{s:jNg}{R:It->Hp->Prop}{E:Value->jNg->Prop}{lo hi:Int}{t u v:Tok}{tk:Nat}(I:Inv X jNj σ H s)(h1:-(2 ^ 62)<=lo)(h2:lo<2 ^ 62)(h3:-(2 ^ 62)<=hi)(h4:hi<2 ^ 62)
  (q:R (Itn lo (lo-hi).toNat) H):jNi (model X.prog X.w) X.A (pyIter (.ref s.heap.objs.size)) (PIE X jNj σ tg R) E { s with heap:=s.heap.push { cls:=.type "range",data:=.fields #[.int lo t,.int hi u,.int (-1) v] },toks:=tk }:=by
 refine wpAny_pyIter_range (IsRange.new ..) (Qa h1 h2 h3 h4) ?_;have I1:Inv X jNj σ H { s with heap:=s.heap.push { cls:=.type "range",data:=.fields #[.int lo t,.int hi u,.int (-1) v] },toks:=tk }:=I.kept fun b o e=>jYb _ e;refine⟨(s.heap.push { cls:=.type "range",data:=.fields #[.int lo t,.int hi u,.int (-1) v] }).objs.size,[(s.heap.push { cls:=.type "range",data:=.fields #[.int lo t,.int hi u,.int (-1) v] }).objs.size],_,_,H,rfl,
  I1.kept (t':=tk) fun b o e=>jYb _ e,UU _ lo (lo-hi).toNat,?_,fun b hb=>?_,q⟩
 ·have e1:lo+((0:Nat):Int)*(-1)=lo:=by simp
  have e2:(((lo-hi).toNat:Nat):Int)-((0:Nat):Int)=Builtin.Range.rangeSize lo hi (-1):=by rw[XY];split<;>omega
  show IsRangeIter _ _ (lo+((0:Nat):Int)*(-1)) ((((lo-hi).toNat:Nat):Int)-((0:Nat):Int)) (-1);rw[e1,e2];exact jYd _ rfl
 ·have e:b=(s.heap.push { cls:=.type "range",data:=.fields #[.int lo t,.int hi u,.int (-1) v] }).objs.size:=by simpa using hb
  subst e;exact I1.fpOk (tI _) (I1.hok.fresh (tI _))
def z5g (ta:TA):TI:=fun σ H R=>ta σ H fun vs H1=>∃i j:Int,vs=[.int i,.int j,.int (-1)]/\(-(2 ^ 62)<=i/\i<2 ^ 62/\-(2 ^ 62)<=j/\j<2 ^ 62)/\R (Itn i (i-j).toNat) H1
def Ug {p pos:Pos}(hg:Gl X "range")(hm:X.mg "range"=none)(ha:PA X [a,b,c] ta)(hs:autoParam (jNc [a,b,c] X.env=[(false,eval a X.env),(false,eval b X.env),(false,eval c X.env)]) au3._auto_1)(hs2:autoParam (jNc [b,c] X.env=[(false,eval b X.env),(false,eval c X.env)]) au3._auto_1):
  PI X tg (.Call (.Name "range" p) [a,b,c] [] pos) (z5g ta):=by
 intro jNj s σ H R I h;refine Call_ (vE I hg hm boot_range (PyProof.Rows.callWith_type1 (thn (ha pos jNj s σ H _ I h) fun us s1 ⟨vs,H1,I1,r1,q1⟩=>?_) (by rw[hs,hs2]) (by rw[hs2];rfl)));obtain⟨i,j,e,⟨q1,q2,q3,q4⟩,q⟩:=q1;subst e;cases r1 with
 | cons r rr =>
  cases rr with
  | cons r' rr =>
   cases rr with
   | cons r'' rr =>
    cases rr;obtain⟨t,rfl⟩:=r;obtain⟨t',rfl⟩:=r';obtain⟨t'',rfl⟩:=r'';exact call_range_3 (by decide) (z0L I1 q1 q2 q3 q4 q) (Or.inl (PyProof.noPylong_small (by omega)))
end
def dwn (lo:Int)(n:Nat):List D:=(List.range n).map fun (i:Nat)=>.int (lo-i)
noncomputable def z0m:List D->R (List D)
 | [.int i,.int j,.int k]=>if (-(2 ^ 62)<=i/\i<2 ^ 62/\-(2 ^ 62)<=j/\j<2 ^ 62)/\k=-1 then .ok (dwn i (i-j).toNat) else .bad
 | _=>.bad
theorem ItOk.down {K:jJa}{H:Hp}{lo:Int}{n:Nat}:ItOk K (Itn lo n) (L2.dwn lo n) [] H:=by
 refine⟨fun b hb=>(nomatch hb),fun H' tf kp i=>⟨fun d hd=>?_,fun hl=>?_⟩⟩
 ·unfold L2.dwn at hd;rw[tN]at hd
  by_cases hi:i<n
  ·rw[rW hi]at hd;have hd:D.int (lo-(i:Int))=d:=jYe hd;subst hd;refine⟨hi,fun y H'' ⟨e2,e3⟩=>?_⟩;subst e2 e3;exact⟨Same.refl _,[],⟨rfl,rfl⟩,fun b hb=>(nomatch hb)⟩
  ·rw[sZ (by simp;omega)]at hd;cases hd
 ·have:(L2.dwn lo n).length=n:=by simp[L2.dwn]
  show n<=i;omega
section
def Ui (hg:Gl X "range")(hm:X.mg "range"=none)(ha:MA X E Γ [a,b,c'] u c)(hs:autoParam (jNc [a,b,c'] X.env=[(false,eval a X.env),(false,eval b X.env),(false,eval c' X.env)]) au3._auto_1)(hs2:autoParam (jNc [b,c'] X.env=[(false,eval b X.env),(false,eval c' X.env)]) au3._auto_1):MI X E Γ tg (.Call (.Name "range" p) [a,b,c'] [] pos) (iL z0m u) .fresh:=by
 obtain⟨_,ta,p',q⟩:=ha;refine⟨_,Ug hg hm p' hs hs2,fun O σ H τ Rr ok h=>q O σ H τ _ ok ?_⟩;unfold iL at h;cases ht:u τ with
 | ok ds =>
  rw[ht,jYa]at h;refine fun vs H1 L s r k=>?_;unfold z0m at h;split at h
  ·rename_i i j k';obtain⟨v,vs',L1,L2,e1,_,r1,v2,vs2,L3,L4,e2,_,r2,v3,vs3,L5,L6,e3,_,r3,r4⟩:=r;obtain⟨rfl,_⟩:=r1;obtain⟨rfl,_⟩:=r2;obtain⟨rfl,_⟩:=r3;obtain⟨rfl,_⟩:=r4;subst e3 e2
   by_cases hj:(-(2 ^ 62)<=i/\i<2 ^ 62/\-(2 ^ 62)<=j/\j<2 ^ 62)/\k'=-1
   ·rw[jNk hj]at h;obtain⟨hj,rfl⟩:=hj;exact⟨i,j,e1,hj,h _ H1 [] s ItOk.down fun n a ha=>(nomatch ha)⟩
   ·rw[jPa hj]at h;exact h.elim
  ·exact h.elim
 | err n=>rw[ht]at h;exact h
 | bad=>rw[ht]at h;exact h
end
def xE:List D->R D
 | [.lst ds]=>if D.imms ds=true then .ok (.tup ds) else .bad
 | [.tup ds]=>if D.imms ds=true then .ok (.tup ds) else .bad
 | _=>.bad
def vd:yX xE:=fun ds n h=>by
 unfold xE at h;split at h
 ·split at h<;>cases h
 ·split at h<;>cases h
 ·cases h
def vn {K:jJa}:ClB K (fun xs H Q=>∃p ys,xs=[.ref p]/\((SqL K H p ys/\∀l,H l=none->Q (.ref l) (upd H l (.tup ys)))\/(SqT K H p ys/\Q (.ref p) H))) xE:=by
 rintro H xs ds L Q r ⟨d,hg,q⟩;unfold xE at hg;split at hg
 ·split at hg
  ·rename_i ds hz;cases hg;obtain⟨v,rfl,a,vs,L',rfl,ha,_,rs⟩:=xG r;have rs0:=yh rs hz;refine⟨a,vs,rfl,.inl ⟨SqL.of ha,fun l hl=>q _ _ [] (Same.new hl) ⟨l,vs,rfl,SqT.of zG,rs0.same (Same.new hl)⟩ (by simp) (fun a ha=>nomatch ha)⟩⟩
  ·cases hg
 ·split at hg
  ·rename_i ds hz;cases hg;obtain⟨v,rfl,a,vs,rfl,ha,rs⟩:=xG r;have rs0:=yh rs hz;exact⟨a,vs,rfl,.inr ⟨ha,q _ H [] (Same.refl H) ⟨a,vs,rfl,ha,rs0⟩ (by simp) (fun a ha=>nomatch ha)⟩⟩
  ·cases hg
 ·cases hg
noncomputable def ZU:List D->R D
 | [.int i]=>if i.natAbs.log2<1920 then .ok (.str (toString i)) else .bad
 | _=>.bad
def JT:yX ZU:=fun ds n h=>by
 unfold ZU at h;split at h
 ·split at h<;>cases h
 ·cases h
def Jn {K:jJa}:ClB K (fun xs H Q=>∃i,xs=[.int i]/\i.natAbs.log2<1920/\Q (.str (toString i)) H) ZU:=by
 rintro H xs ds L Q r ⟨d,hg,q⟩;unfold ZU at hg;split at hg
 ·split at hg
  ·rename_i i hz;cases hg;obtain⟨v,rfl,rfl,_⟩:=xG r;exact⟨i,rfl,hz,q _ H [] (Same.refl H) ⟨rfl,rfl⟩ (by simp) (fun a ha=>nomatch ha)⟩
  ·cases hg
 ·cases hg
theorem kh:∀ {bs:List Bool} {us:List Value},Vals (bs.map V.bl) us->us=bs.map Value.bool
 | [],us,r=>by cases r;rfl
 | b::bs,_,r=>by
  rw[tO]at r;cases r with
  | cons r1 r2 =>
   obtain rfl:_=Value.bool b:=r1;rw[tO,kh r2]
def J5 (bs:List Bool):((List.range bs.length).all fun i=>(bs[i]?).getD true)=bs.all id:=by
 rw[Bool.eq_iff_iff,rK,rK];constructor
 ·intro h b hb;obtain⟨i,hi,e⟩:=List.getElem_of_mem hb;have:=h i (rS.mpr hi);rw[tG hi,e]at this;exact this
 ·intro h i hi;have hi:=rS.mp hi;rw[tG hi];exact h _ (sR hi)
def z1E (K:jJa):List V->Hp->VK->Prop:=fun xs H Q=>∃(p:Addr) (bs:List Bool),xs=[.ref p]/\SqL K H p (bs.map V.bl)/\Q (.bl (bs.all id)) H
section
def qN (hc:X.calm=true):CallR X (.builtin "all") (z1E X.K):=by
 intro jNj s σ H xs us Q I r h;obtain⟨p,bs,rfl,hs,q⟩:=h;obtain⟨u,rfl,ru⟩:=wD r;obtain rfl:u=Value.ref p:=ru;obtain⟨its,rv,pl,hz⟩:=I.list hs;have e:=kh rv;subst e;have hl:s.heap.IsList p (bs.map Value.bool).toArray:=pl.isList;have hlt:p<s.heap.objs.size:=by obtain⟨_,e,_⟩:=hl;exact jYc e
 refine call_all_walk (wpAny_pyIter_list hl ?_);refine⟨_,_,_,_,_,_,fun i=>(bs[i]?).getD true,rfl,Walks.list (A:=X.A.in1) (I.ok.hd hc) _ p (tU hlt) (bs.map Value.bool).toArray,⟨⟨_,jYd _ rfl,rfl,rfl⟩,hl.push _⟩,fun i v s' Q' E' hP hQ=>?_,fun h' tk hk=>?_⟩
 ·have hP:(bs.map Value.bool)[i]?=some v:=by simpa using hP
  rw[tN]at hP;cases hb:bs[i]? with
  | none=>rw[hb]at hP;cases hP
  | some b =>
   rw[hb]at hP;cases hP;simp only[hb,Option.getD_some]at hQ;exact jYj hQ
 ·have e:((List.range (bs.map Value.bool).toArray.size).all fun i=>(bs[i]?).getD true)=bs.all id:=by
   rw[tM,tH];exact J5 bs
  rw[e];refine⟨.bl (bs.all id),H,I.kept fun b o eb=>hk b o (fun hm=>?_) (jYb _ eb),rfl,q⟩;rw[sI.mp hm]at eb;exact sW _ (jYc eb)
end
noncomputable def vG:List D->Option (List Bool)
 | []=>some []
 | .bl b::ds=>(vG ds).map (b::·)
 | _=>none
theorem qg {K:jJa}{H:Hp}:∀ {ds:List D} {bs:List Bool} {vs:List V} {L:List Addr},Reps K H ds vs L->vG ds=some bs->vs=bs.map V.bl
 | [],bs,_,_,hq4,h=>by
  obtain⟨e,_⟩:=hq4;cases h;exact e
 | .bl b::ds,bs,_,_,hq4,h=>by
  obtain⟨v,vs',L1,L2,e1,e2,r1,r2⟩:=hq4;unfold vG at h;cases hb:vG ds with
  | none=>rw[hb]at h;cases h
  | some cs =>
   rw[hb]at h;cases h;rw[e1,r1.1,qg r2 hb]
   rfl
 | .non::_,_,_,_,_,h=>by cases h
 | .int _::_,_,_,_,_,h=>by cases h
 | .str _::_,_,_,_,_,h=>by cases h
 | .tup _::_,_,_,_,_,h=>by cases h
 | .lst _::_,_,_,_,_,h=>by cases h
 | .dic _ _::_,_,_,_,_,h=>by cases h
 | .frl _::_,_,_,_,_,h=>by cases h
 | .obj _ _ _::_,_,_,_,_,h=>by cases h
noncomputable def Zn:List D->R D
 | [.lst ds]=>match vG ds with
  | some bs=>.ok (.bl (bs.all id))
  | none=>.bad
 | _=>.bad
def K2:yX Zn:=fun ds n h=>by
 unfold Zn at h;split at h
 ·split at h<;>cases h
 ·cases h
def QW {K:jJa}:ClB K (z1E K) Zn:=by
 rintro H xs ds L Q r ⟨d,hg,q⟩;unfold Zn at hg;split at hg
 ·split at hg
  ·rename_i ds bs hn;cases hg;obtain⟨v,rfl,a,vs,L',rfl,ha,_,rs⟩:=xG r;exact⟨a,bs,rfl,by rw[<-qg rs hn];exact SqL.of ha,q _ H [] (Same.refl H) ⟨rfl,rfl⟩ (by simp) (fun a ha=>nomatch ha)⟩
  ·cases hg
 ·cases hg
def eSm (g:Str->List D->R D)(t:Tn->R D)(u:Tn->R (List D)):Tn->R D:=fun τ=>(t τ).bind fun d=>match d with
 | .str z=>(u τ).bind fun ds=>g z ds
 | _=>.bad
def SmB (K:jJa)(r:V->List V->Hp->VK->Prop)(g:Str->List D->R D):Prop:=
 ∀H z xs ds L (Q:VK),Reps K H ds xs L->(∃d,g z ds=.ok d/\∀v H' L',Same H H'->Rep K H' d v L'->L'.Nodup->(∀a∈L',H a=none)->Q v H')->r (.str z) xs H Q
section
variable {X:Cx}{E:XK}{Γ:List Cl}{o e:Expr}{es:List Expr}{t:Tn->R D}{u:Tn->R (List D)}{c ca:Rc}{name:Str}{apos cpos:Pos}{id:String}
def Yn {r:V->List V->Hp->VK->Prop}{g:Str->List D->R D}(pa:PlainAttrs "str")(slot:Slot "str" name id)(hty:typeOf (.builtin id)=pure (.type "method_descriptor"))(hm:MtR X id r)(hB:SmB X.K r g)(hn:∀z,yX (g z))(ho:ME X E Γ o t c)(ha:MA X E Γ (e::es) u ca)
  (hbase:autoParam (jKg o name X.env (eval o X.env)=eval o X.env) au3._auto_1)
  (hfew:autoParam (((jNh cpos (jNc (e::es) X.env)).all (fun x=>!x.1)&&(jNa cpos (jMa [] X.env)).all (fun x=>x.1.isSome)
   && decide ((e::es).length+([]:List jNd).length+(if ([]:List jNd).isEmpty then 0 else 1)<30))=true) au3._auto_1)
  (hline:autoParam ((apos.endLine==cpos.line)=true) au3._auto_1) (hs:autoParam (jNc (e::es) X.env=(false,eval e X.env)::jNc es X.env) au3._auto_1) (hplain:autoParam ((jNh cpos (jNc es X.env)).any (·.1)=false) au3._auto_1):
  ME X E Γ (.Call (.Attribute o name apos) (e::es) [] cpos) (eSm g t u) .fresh:=by
 obtain⟨te,p,q⟩:=ho;obtain⟨_,ta',p',q'⟩:=ha;refine⟨_,Ue pa slot hty hm p p' hbase hfew hline hs hplain,fun O σ H τ Q ok h=>?_⟩;unfold eSm at h;refine q O σ H τ _ ok (post.bind h fun d hd h x H1 L1 s1 r1 _=>?_);cases d with
 | str z =>
  obtain⟨rfl,_⟩:=r1;refine⟨rfl,q' O σ H1 τ _ (ok.same s1) ?_⟩;dsimp only at h;cases hu:u τ with
  | ok ds =>
   rw[hu,jYa]at h;refine fun vs H2 L s2 r2 _=>?_;cases hg:g z ds with
   | ok d =>
    rw[hg]at h;exact hB H2 z vs ds L Q r2 ⟨d,hg,fun v H' L s r n1 n2=>h v H' L ((s1.trans s2).trans s) r ⟨n1,fun a ha=>(s1.trans s2).non (n2 a ha)⟩⟩
   | err n=>exact absurd hg (hn _ _ _)
   | bad=>rw[hg]at h;exact h.elim
  | err n=>rw[hu]at h;exact fun C H' e s'=>h C H' e (s1.trans s')
  | bad=>rw[hu]at h;exact h
 | _=>exact h.elim
end
noncomputable def vR:List D->Option (List Str)
 | []=>some []
 | .str b::ds=>(vR ds).map (b::·)
 | _=>none
theorem vU {K:jJa}{H:Hp}:∀ {ds:List D} {bs:List Str} {vs:List V} {L:List Addr},Reps K H ds vs L->vR ds=some bs->vs=bs.map V.str
 | [],bs,_,_,hq4,h=>by
  obtain⟨e,_⟩:=hq4;cases h;exact e
 | .str b::ds,bs,_,_,hq4,h=>by
  obtain⟨v,vs',L1,L2,e1,e2,r1,r2⟩:=hq4;unfold vR at h;cases hb:vR ds with
  | none=>rw[hb]at h;cases h
  | some cs =>
   rw[hb]at h;cases h;rw[e1,r1.1,vU r2 hb]
   rfl
 | .non::_,_,_,_,_,h=>by cases h
 | .int _::_,_,_,_,_,h=>by cases h
 | .bl _::_,_,_,_,_,h=>by cases h
 | .tup _::_,_,_,_,_,h=>by cases h
 | .lst _::_,_,_,_,_,h=>by cases h
 | .dic _ _::_,_,_,_,_,h=>by cases h
 | .frl _::_,_,_,_,_,h=>by cases h
 | .obj _ _ _::_,_,_,_,_,h=>by cases h
theorem j5:∀ {ys:List Str} {us:List Value},Vals (ys.map V.str) us->StrsAre us ys
 | [],us,r=>by cases r;exact .nil
 | y::ys,_,r=>by
  rw[tO]at r;cases r with
  | cons r1 r2 =>
   obtain⟨t,rfl⟩:=r1;exact .cons y t (j5 r2)
def z1S (K:jJa):V->List V->Hp->VK->Prop:=fun x xs H Q=>∃z p ys,x=.str z/\xs=[.ref p]/\(SqL K H p (ys.map V.str)\/SqT K H p (ys.map V.str))/\(ys.map (·.length)).sum+ys.length*z.length<=16777216/\Q (.str (Txt.join z ys)) H
def qu:MtR X "str.join" (z1S X.K):=by
 intro jNj s σ H x xs v us Q I rx rs h;obtain⟨z,p,ys,rfl,rfl,hq,hz,q⟩:=h;obtain⟨t,rfl⟩:=rx;obtain⟨u,rfl,ru⟩:=wD rs;obtain rfl:u=Value.ref p:=ru;rcases hq with hq|hq
 ·obtain⟨its,r,pl,_⟩:=I.list hq;exact join_list pl.isList (by simpa using j5 r) hz fun t' k=>⟨.str (Txt.join z ys),H,I.tok _,⟨t',rfl⟩,q⟩
 ·obtain⟨its,r,pl,_⟩:=I.tuple hq;exact join_tuple pl (by simpa using j5 r) hz fun t' k=>⟨.str (Txt.join z ys),H,I.tok _,⟨t',rfl⟩,q⟩
noncomputable def v9 (z:Str):List D->R D
 | [.lst ds]=>match vR ds with
  | some ys=>if (ys.map (·.length)).sum+ys.length*z.length<=16777216 then .ok (.str (Txt.join z ys)) else .bad
  | none=>.bad
 | [.tup ds]=>match vR ds with
  | some ys=>if (ys.map (·.length)).sum+ys.length*z.length<=16777216 then .ok (.str (Txt.join z ys)) else .bad
  | none=>.bad
 | _=>.bad
def X5 (z:Str):yX (v9 z):=fun ds n h=>by
 unfold v9 at h;split at h
 ·split at h
  ·split at h<;>cases h
  ·cases h
 ·split at h
  ·split at h<;>cases h
  ·cases h
 ·cases h
def YC {K:jJa}:SmB K (z1S K) v9:=by
 rintro H z xs ds L Q r ⟨d,hg,q⟩;unfold v9 at hg;split at hg
 ·split at hg
  ·rename_i ds ys hn;split at hg
   ·rename_i hz;cases hg;obtain⟨v,rfl,a,vs,L',rfl,ha,_,rs⟩:=xG r;exact⟨z,a,ys,rfl,rfl,.inl (by rw[<-vU rs hn];exact SqL.of ha),hz,q _ H [] (Same.refl H) ⟨rfl,rfl⟩ (by simp) (fun a ha=>nomatch ha)⟩
   ·cases hg
  ·cases hg
 ·split at hg
  ·rename_i ds ys hn;split at hg
   ·rename_i hz;cases hg;obtain⟨v,rfl,a,vs,rfl,ha,rs⟩:=xG r;exact⟨z,a,ys,rfl,rfl,.inr (by rw[<-vU rs hn];exact ha),hz,q _ H [] (Same.refl H) ⟨rfl,rfl⟩ (by simp) (fun a ha=>nomatch ha)⟩
   ·cases hg
  ·cases hg
 ·cases hg
theorem TupN.push (x:TupN h a items)(o:Obj):TupN (h.push o) a items:=let ⟨o',ho,r⟩:=x;⟨o',jYb o ho,r⟩
theorem TupN.at (x:TupN h a items)(k:∀b o,h.get? b=some o->h'.get? b=some o):TupN h' a items:=let ⟨o',ho,r⟩:=x;⟨o',k _ _ ho,r⟩
def TupN.isTuple (x:TupN h a items):h.IsTuple a items:=x.tup
def uY {h h':Heap}{a:Addr}{items:Array Value}(x:h.IsTuple a items)(k:∀b o,h.get? b=some o->h'.get? b=some o):h'.IsTuple a items:=let ⟨o',ho,r⟩:=x;⟨o',k _ _ ho,r⟩
theorem Inv.tupN (I:Inv X jNj σ H s)(h:SqT X.K H a xs):∃its:List Value,Vals xs its/\TupN s.heap a its.toArray/\xs.length<=sizeLine:=by
 rcases h with h|⟨o,its,n,hk,hc,hn,hs,hz,r⟩
 ·obtain⟨z,its,r,p⟩:=h.ok I.hok;exact⟨its,r,p,z⟩
 ·refine⟨its.toList,r,⟨o,I.kIn a o hk,hc,hn,n,by simpa using hs⟩,?_⟩;have e:=r.length;simp only[Array.length_toList]at e;omega
def jw:typeLookup (.type "tuple") "keys"=pure none:=by rw[typeLookup_type,builtinLookup_eq_fast];kernel_rfl
set_option maxRecDepth 8000 in
def uv {prog:jNe}{w:World}{E:Value->jNg->Prop}{k:Nat}
  (hx:s.heap.get? a=some o) (hc:o.cls=.type "tuple") (hdat:o.data=.seq xs k) (hd:o.dict=none) (hmiss:typeLookup (.type "tuple") name=pure none) (hname:(["__module__","__name__","__qualname__","__doc__","__annotations__"]:List Str).contains name=false) (hA:A.handled=none)
  (h:∀h' tk,(∀b o,s.heap.get? b=some o->h'.get? b=some o)->Q none { s with heap:=h',toks:=tk }) (hsz:autoParam (name.length+100<=jNb) au9._auto_1):
  jNi (model prog w) A (getAttr? (.ref a) name) Q E s:=by
 obtain⟨c,dct,dat,sl⟩:=o;simp only at hc hdat hd;subst hc hdat hd;obtain⟨hp,g,d,tk,os⟩:=s;have hT:∀tk',(⟨hp,g,d,tk',os⟩:jNg).TypeIs (.ref a) "tuple":=fun _=>⟨_,hx,rfl⟩
 have f1:=sub_AttributeError;have f3:=PySem.F.slot_tuple_getattribute.lookup;have f4:=PySem.F.slot_tuple_getattribute.bind (.ref a);have f5:=am_tuple_getattr_none;unfold getAttr? getAttrBy? getAttrBy
 repeat (any_goals (first|assumption|exact hT _|((with_reducible show jNi _ _ (call (Value.builtin "tuple.__getattribute__") _ _) _ _ _);refine call_meets PySem.F.slot_tuple_getattribute (hT _) am_entry_tuple_getattribute (PySem.F.args_tuple_getattribute_2 _ _) (meets_getattribute_miss_tuple a xs k sl name _ hmiss hname hsz) ⟨hx,hA,fun h' tk' e hx'=>?_⟩)|wp_step))
 obtain⟨t',u',he⟩:=hx'.there;have hkeep:=hx'.of.keeps;show jNi _ _ (getattributeRaised _ _ _ _ _ _ _) _ _ _;unfold getattributeRaised
 repeat (any_goals (first|assumption|wp_step))
 all_goals exact h _ _ hkeep
def xJ:entryFor table "dict.update.loop"=some Builtin.«dict.update.loop»:=entryFor_of_tree (by kernel_rfl)
def yj:plainId "dict.update.loop"=true:=by decide +kernel
def PairsAt (P:jNe)(w:World)(h:Heap):List Value->List (Key×Value)->Prop:=Paired fun (v:Value) (p:Key×Value)=>∃b key,v=.ref b/\h.IsTuple b #[key,p.2]/\(zX P w).is p.1 key=true
theorem PairsAt.get:∀ {its:List Value} {ps:List (Key×Value)} {i:Nat},PairsAt P w h its ps->i<its.length->∃b key p,its[i]?=some (.ref b)/\ps[i]?=some p/\h.IsTuple b #[key,p.2]/\(zX P w).is p.1 key=true
 | _,_,i,.nil,hi=>by simp at hi
 | _,_,0,.cons (a:=v) (b:=p) r t,_=>by
  obtain⟨b,key,e,x,y⟩:=r;exact⟨b,key,p,by rw[e];rfl,rfl,x,y⟩
 | _,_,i+1,.cons r t,hi=>by
  obtain⟨b,key,p,e,e2,x,y⟩:=PairsAt.get (i:=i) t (by simpa using hi);exact⟨b,key,p,by simpa using e,by simpa using e2,x,y⟩
section
variable {prog:jNe}{w:World}{A:jNf}{R:Result->jNg->Prop}
def jx {h0:Heap}{d I t:Addr}{items:List Value}{ps:List (Key×Value)}(hh:A.in1.handled=none)(hd0:h0.get? d=none)(hI0:h0.get? I=none)(hdI:d≠I)(ht0:h0.IsTuple t items.toArray)(hp:PairsAt prog w h0 items ps)(hz:ps.length<=jNb):
  ∀(k i:Nat) (j:Int) (tk:Tok) (s:jNg),items.length-i=k->i<=items.length->s.heap.IsTupleIter I t i->s.heap.DictOf (zX prog w) d (merged [] (ps.take i))->(∀b o,h0.get? b=some o->s.heap.get? b=some o) ->
   (∀h' tk',h'.DictOf (zX prog w) d (merged [] ps)->(∀b o,h0.get? b=some o->h'.get? b=some o)->R (.ok (.ret .none)) { s with heap:=h',toks:=tk' }) ->
   codeAny (model prog w) A (.builtin "dict.update.loop" ⟨[.ref d,.ref I,.int j tk,.none],[]⟩) R s:=by
 have hlen:items.length=ps.length:=Paired.length hp;have hne:∀ {b o},h0.get? b=some o->b≠d/\b≠I:=fun {b o} e=>⟨(fun z=>by rw[z,hd0]at e;cases e),(fun z=>by rw[z,hI0]at e;cases e)⟩
 intro k
 induction k with
 | zero =>
  intro i j tk s hk hi hit hD hkeep hR;have hin:i=items.length:=by omega
  subst hin;refine jKb xJ ?_;rw[Around.under_plainId yj _];show jNi _ A.in1 (pyNext (.ref I) >>= _) _ _ s;refine jMf (wpAny_pyNext_tuple_end hh hit (uY ht0 hkeep) (by simp) fun h' eb=>?_);show jNi _ A.in1 (Builtin.Dict.addKeywords d [] >>= _) _ _ _;refine jMf (jMh (jMh (hR h' s.toks ?_ fun b o e=>eb b o (hne e).2 (hkeep b o e))));obtain⟨o,es,ep,ho,rest⟩:=hD;rw[hlen,List.take_length]at rest;exact⟨o,es,ep,eb d o hdI ho,rest⟩
 | succ k ih =>
  intro i j tk s hk hi hit hD hkeep hR;have hlt:i<items.length:=by omega
  obtain⟨b,key,p,e1,e2,x,y⟩:=hp.get hlt;refine jKb xJ ?_;rw[Around.under_plainId yj _];show jNi _ A.in1 (pyNext (.ref I) >>= _) _ _ s;refine jMf (wpAny_pyNext_tuple_item hit (uY ht0 hkeep) (x:=.ref b) (by simpa using e1) fun h1 hit1 sb1=>?_);have hkeep1:∀b o,h0.get? b=some o->h1.get? b=some o:=fun b o e=>(sb1.2 b (hne e).2).trans (hkeep b o e);have hD1:h1.DictOf (zX prog w) d (merged [] (ps.take i)):=by
   obtain⟨o,es,ep,ho,rest⟩:=hD;exact⟨o,es,ep,(sb1.2 d hdI).trans ho,rest⟩
  have x1:=uY x hkeep1;show jNi _ A.in1 (holding [Value.ref b] _ >>= _) _ _ _;refine jMf (jKi ?_);refine jMf (wpAny_tryCatch ?_);obtain⟨ob,hob,hcb,nb,hdb⟩:=x1;unfold Builtin.Dict.pairItems;refine jMf (wpAny_typeOf ⟨ob,hob,hcb⟩ ?_);rw[jNk (by decide)];refine jMf (jKf hob hdb ?_);refine jMh ?_;show jNi _ A.in1 (holding [key,p.2] (dictSet d key p.2)) _ _ _;have hz1:(merged [] (ps.take i)).length<=sizeLine:=by
   have:=merged_length_le [] (ps.take i);rw[rJ]at this;simp only[rO]at this;omega
  refine jKi (wpAny_dictSet_pairs (hsz:=hz1) y hD1 fun h2 hD2 sb2=>?_);rw[<-merged_take_succ [] ps i p e2]at hD2;refine jMh ⟨jKh yj _,ih (i+1) _ _ _ (by omega) hlt ?_ hD2 (fun b o e=>(sb2.2 b (hne e).1).trans (hkeep1 b o e)) ?_⟩
  ·obtain⟨oi,hoi,r⟩:=hit1;exact⟨oi,(sb2.2 I (Ne.symm hdI)).trans hoi,r⟩
  ·exact hR
end
section
variable {prog:jNe}{w:World}{A:jNf}{E:Value->jNg->Prop}{s:jNg}
def jB {t:Addr}{items:List Value}{ps:List (Key×Value)}{Q:Value->jNg->Prop}(hh:A.handled=none)(ht:TupN s.heap t items.toArray)(hp:PairsAt prog w s.heap items ps)(hz:ps.length<=jNb)
  (h:∀h' tk,h'.DictOf (zX prog w) s.heap.objs.size (merged [] ps)->(∀b o,s.heap.get? b=some o->h'.get? b=some o)->Q (.ref s.heap.objs.size) { s with heap:=h',toks:=tk }):
  jNi (model prog w) A (call (.type "dict") [.ref t]) Q E s:=by
 refine callType_codes (Q₁:=fun obj s₁=>obj=.ref s.heap.objs.size/\s₁={ s with heap:=s.heap.push { cls:=.type "dict",data:=.dict #[] } }) PySem.F.kt_called_dict (PySem.F.kt_typeCall_dict_1 _) PySem.F.entry_dict_init (kt_code_dict_new _ ⟨rfl,rfl⟩) ?_;rintro obj s₁ ⟨rfl,rfl⟩;have hnew:(s.heap.push { cls:=.type "dict",data:=.dict #[] }).DictOf (zX prog w) s.heap.objs.size []:=Heap.DictOf.new s.heap;have ht':=ht.push { cls:=.type "dict",data:=.dict #[] };refine⟨hnew.typeIs,PySem.F.args_dict_init_2 _ _,?_⟩;unfold Builtin.«dict.__init__»;refine jMf ?_;unfold Builtin.Dict.selfAndRest;refine jMf (wpAny_notOrdered_dict hnew.typeIs ?_);show jNi _ _ (pure (s.heap.objs.size,[Value.ref t])) _ _ _;refine jMh ?_;show jNi _ _ (Builtin.Dict.updateFrom "dict.__init__" s.heap.objs.size (.ref t) [] .none) _ _ _;unfold Builtin.Dict.updateFrom;obtain⟨ot,ht1,ht2,⟨ht3,_⟩,nt,ht4⟩:=ht';refine jMf (wpAny_typeOf ⟨ot,ht1,ht2⟩ ?_);rw[jNk (by decide)];refine jMf (uv ht1 ht2 ht4 ht3 jw (by decide) hh (fun h1 tk1 k1=>?_) (by size_fits));rw[jNk (show (none:Option Value).isNone=true from rfl)];refine jMf (wpAny_rule ?_);have hlt:s.heap.objs.size<h1.objs.size:=by
  have:h1.get? s.heap.objs.size=some _:=k1 _ _ (jYd s.heap (o:={ cls:=.type "dict",data:=.dict #[] }) rfl);exact jYc this
 have hk01:∀b o,s.heap.get? b=some o->h1.get? b=some o:=fun b o e=>k1 b o (jYb _ e);refine jMf (wpAny_pyIter_tuple (ht.at hk01).isTuple ?_);have hfr:∀b,s.heap.objs.size<=b->s.heap.get? b=none:=fun b hb=>by
  cases e:s.heap.get? b with
  | none=>rfl
  | some o=>exact absurd (jYc e) (Nat.not_lt.mpr hb)
 refine jMh ⟨jKh yj _,jx (A:=A.in1) (h0:=s.heap) (d:=s.heap.objs.size) (I:=h1.objs.size) (t:=t) (items:=items) (ps:=ps) hh (hfr _ (tI _)) (hfr _ (pJ hlt)) (tU hlt) ht.isTuple hp hz (items.length-0) 0 0 0 _ rfl (rD _) ⟨_,jYd _ rfl,rfl,rfl⟩ ?_ (fun b o e=>jYb _ (hk01 b o e)) ?_⟩
 ·obtain⟨o,es,ep,ho,rest⟩:=hnew;exact⟨o,es,ep,jYb _ (k1 _ _ ho),rest⟩
 ·exact fun h' tk' hD hk=>⟨rfl,h h' tk' hD hk⟩
end
noncomputable def vO {β:Type}:List Key->List β->Key->β->List β
 | k'::ks,x::xs,k,y=>(if k'=k then y else x)::vO ks xs k y
 | _,_,_,_=>[]
def xR (ks:List Key)(ds:List D)(k:Key)(d:D):List Key×List D:=if k∈ks then (ks,vO ks ds k d) else (ks++[k],ds++[d])
noncomputable def xi:List Key->List D->List (Key×D)->List Key×List D
 | ks,ds,[]=>(ks,ds)
 | ks,ds,(k,d)::r=>xi (xR ks ds k d).1 (xR ks ds k d).2 r
section
variable {K:jJa}{H:Hp}
def z19:∀ {kvs:List (Key×V)} {k:Key} {v:V},k∈kvs.map (·.1)->xS kvs k v=kvs.map (fun kv=>if kv.1=k then (kv.1,v) else kv):=by
 intro kvs k v h;unfold xS;rw[jNk];rw[List.any_eq_true];obtain⟨p,hp,e⟩:=tW.mp h;exact⟨p,hp,by simpa using e⟩
theorem W4:∀(kvs:List (Key×V)) (k:Key) (v:V),(kvs.map (fun kv=>if kv.1=k then (kv.1,v) else kv)).map (·.1)=kvs.map (·.1)
 | [],_,_=>rfl
 | p::r,k,v=>by
  rw[tO,tO,tO,W4 r k v];congr 1;split<;>rfl
theorem W9:∀(kvs:List (Key×V)) (k:Key) (v:V),(kvs.map (fun kv=>if kv.1=k then (kv.1,v) else kv)).map (·.2)=vO (kvs.map (·.1)) (kvs.map (·.2)) k v
 | [],_,_=>rfl
 | p::r,k,v=>by
  rw[tO,tO,tO,tO,W9 r k v];show _=(if p.1=k then v else p.2)::_;congr 1;split<;>rfl
theorem Reps.repl {k:Key}{d:D}{v:V}(rd:Rep K H d v []):∀ {ks:List Key} {ds:List D} {vs:List V} {L:List Addr},Reps K H ds vs L->ks.length=ds.length->∃L2,Reps K H (vO ks ds k d) (vO ks vs k v) L2/\List.Sublist L2 L
 | [],[],_,_,hq4,_=>by
  obtain⟨e1,e2⟩:=hq4;exact⟨[],by subst e1;exact Reps.nil,rV _⟩
 | [],_::_,_,_,_,h=>by cases h
 | _::_,[],_,_,_,h=>by cases h
 | k'::ks,d'::ds,_,_,hq4,h=>by
  obtain⟨v',vs',L1,L2,e1,e2,h1,h2⟩:=hq4;subst e1 e2;obtain⟨L3,a,b⟩:=Reps.repl (ks:=ks) rd h2 (by simpa using h)
  by_cases e:k'=k
  ·refine⟨[]++L3,?_,?_⟩
   ·show Reps K H ((if k'=k then d else d')::vO ks ds k d) ((if k'=k then v else v')::vO ks vs' k v) _;rw[jNk e,jNk e];exact Reps.cons rd a
   ·exact b.trans (rE _ _)
  ·refine⟨L1++L3,?_,List.Sublist.append (List.Sublist.refl _) b⟩;show Reps K H ((if k'=k then d else d')::vO ks ds k d) ((if k'=k then v else v')::vO ks vs' k v) _;rw[jPa e,jPa e];exact Reps.cons h1 a
def Vz {kvs:List (Key×V)}{ds:List D}{L:List Addr}{k:Key}{d:D}{v:V}(rs:Reps K H ds (kvs.map (·.2)) L)(nd:(kvs.map (·.1)).Nodup)(rd:Rep K H d v []):
  (xS kvs k v).map (·.1)=(xR (kvs.map (·.1)) ds k d).1/\(xR (kvs.map (·.1)) ds k d).1.Nodup/\∃L2,Reps K H (xR (kvs.map (·.1)) ds k d).2 ((xS kvs k v).map (·.2)) L2/\List.Sublist L2 L:=by
 unfold xR
 by_cases h:k∈kvs.map (·.1)
 ·rw[jNk h,z19 h,W4,W9];refine⟨rfl,nd,Reps.repl rd rs ?_⟩;rw[<-rs.length,tH,tH]
 ·rw[jPa h,kq h];refine⟨by rw[rR];rfl,?_,L,?_,List.Sublist.refl _⟩
  ·refine tX.mpr ⟨nd,by simp,fun a ha b hb z=>?_⟩;rw[sI]at hb;subst hb z;exact h ha
  ·rw[rR];have:=Reps.append rs (Reps.cons rd (Reps.nil (K:=K) (H:=H)));rw[tQ,tQ]at this;exact this
theorem ZY:∀(ps:List (Key×D)) (qs:List (Key×V)) (kvs:List (Key×V)) (ds:List D),Paired (fun (p:Key×D) (q:Key×V)=>p.1=q.1/\Rep K H p.2 q.2 []) ps qs->Reps K H ds (kvs.map (·.2)) []->(kvs.map (·.1)).Nodup ->
  (xj kvs qs).map (·.1)=(xi (kvs.map (·.1)) ds ps).1/\(xi (kvs.map (·.1)) ds ps).1.Nodup/\Reps K H (xi (kvs.map (·.1)) ds ps).2 ((xj kvs qs).map (·.2)) []
 | [],_,kvs,ds,h,rs,nd=>by
  cases h;exact⟨rfl,nd,rs⟩
 | p::ps,_,kvs,ds,h,rs,nd=>by
  cases h with
  | @cons _ q _ qs e t =>
   obtain⟨e1,e2⟩:=e;obtain⟨a1,a2,L2,a3,a4⟩:=Vz (k:=p.1) rs nd e2;have z:L2=[]:=by simpa using a4
   subst z;obtain⟨b1,b2,b3⟩:=ZY ps qs (xS kvs p.1 q.2) _ t a3 (a1▸a2);show (xj (xS kvs q.1 q.2) qs).map (·.1)=(xi (xR (kvs.map (·.1)) ds p.1 p.2).1 (xR (kvs.map (·.1)) ds p.1 p.2).2 ps).1/\_;rw[<-e1,<-a1];refine⟨b1,?_,?_⟩
   ·show (xi (xR (kvs.map (·.1)) ds p.1 p.2).1 (xR (kvs.map (·.1)) ds p.1 p.2).2 ps).1.Nodup;rw[<-a1];exact b2
   ·show Reps K H (xi (xR (kvs.map (·.1)) ds p.1 p.2).1 (xR (kvs.map (·.1)) ds p.1 p.2).2 ps).2 ((xj (xS kvs q.1 q.2) qs).map (·.2)) [];rw[<-a1,<-e1];exact b3
noncomputable def WQ:List D->Option (List (Key×D))
 | []=>some []
 | .tup [k,d]::ps=>match vL k with
  | some k'=>if d.imm=true then (WQ ps).map ((k',d)::·) else none
  | none=>none
 | _=>none
theorem jX:∀ {ps:List D} {kds:List (Key×D)} {vs:List V} {L:List Addr},Reps K H ps vs L->WQ ps=some kds ->
  ∃qs:List (Key×V),Paired (fun (v:V) (q:Key×V)=>∃b,v=.ref b/\SqT K H b [kV q.1,q.2]) vs qs/\Paired (fun (p:Key×D) (q:Key×V)=>p.1=q.1/\Rep K H p.2 q.2 []) kds qs
 | [],kds,_,_,hq4,h=>by
  obtain⟨e,_⟩:=hq4;cases h;subst e;exact⟨[],.nil,.nil⟩
 | d::ps,kds,_,_,hq4,h=>by
  obtain⟨v,vs',L1,L2,e1,e2,r1,r2⟩:=hq4;subst e1;unfold WQ at h;split at h
  ·rename_i e;cases e
  ·rename_i k d' ps' e;injection e with e3 e4;subst e3 e4;split at h
   ·rename_i k' hk;split at h
    ·rename_i hi;cases hp:WQ ps with
     | none=>rw[hp]at h;cases h
     | some r =>
      rw[hp]at h;cases h;obtain⟨qs,a,b⟩:=jX r2 hp;obtain⟨bb,ws,ev,hs,⟨v1,ws',M1,M2,f1,f2,g1,v2,ws'',M3,M4,f3,f4,g2,g3,_⟩⟩:=r1;subst f1 f3 g3;have hM:=Rep.imm _ _ _ g2 hi;subst hM;refine⟨(k',v2)::qs,.cons ⟨bb,ev,?_⟩ a,.cons ⟨rfl,g2⟩ b⟩;rw[<-ui hk g1];exact hs
    ·cases h
   ·cases h
  ·cases h
end
def wd (i:Nat)(t ti:Tn->R D):Tn->R Fl:=fun τ=>(t τ).bind fun d=>(za i τ).bind fun l=>(ti τ).bind fun k=>match l,vL k with
 | .dic ks ds,some k=>if d.imm=true/\ks.length<jNb then .ok (.nx (τ.set i (some (.dic (xR ks ds k d).1 (xR ks ds k d).2)))) else .bad
 | _,_=>.bad
section
variable {X:Cx}{E:XK}{Γ Γ1 Γ' Γl:List Cl}{e a b o f:Expr}{es:List Expr}{t t' u v:Tn->R D}{c ca cb:Rc}{pos:Pos}
def jR (i:Nat){x:Str}{p0 p1:Pos}{ix:Expr}{ti:Tn->R D}(hu:X.A.units+1<cLine)(h:MV X E Γ e t Γ1)(hi:ME X E Γ1 ix ti c)(hN:autoParam (X.N[i]?=some x) au3._auto_1)(hk:autoParam (Γ1[i]?=some .own) au3._auto_1)(hv:autoParam (Vis X.env.scope x) au7._auto_1)(hb:autoParam ((x==("__debug__":Str))=false) au1._auto_1)(hcd:autoParam ((x==("__classdict__":Str))=false) au1._auto_1)
  (hs:autoParam (jMj e (some (.Subscript (.Name x p0) ix p1)) pos.line X.env=pure false) au3._auto_1):
  MS X E Γl Γ (.Assign [.Subscript (.Name x p0) ix p1] e pos) (wd i t ti) Γ1:=by
 obtain⟨te,p,q⟩:=h;obtain⟨te',p',q'⟩:=hi;refine⟨_,z0a hu (vq (pos:=p0) hN hv hb hcd) p' p hs,fun B σ H τ Z ok h=>q B σ H τ [] _ ok ?_⟩;unfold wd at h;cases ht:t τ with
 | ok d' =>
  rw[ht,jYa]at h;refine fun y H1 Le s1 ry ok1=>?_;obtain⟨v1,d1,L1,q1,q2,r1,n1,n2,_⟩:=ok1.slot hk;refine⟨v1,q1,?_⟩;have ev:za i τ=.ok d1:=by unfold za;rw[q2]
  rw[ev,jYa]at h;obtain⟨O,eo,_⟩:=ok1.eok;refine q' O σ H1 τ _ eo ?_;cases hk':ti τ with
  | ok dk =>
   rw[hk',jYa]at h;refine fun kv H2 Lk s2 rk _=>?_;have ok2:=ok1.same s2;obtain⟨v2,d2,L2,q3,q4,r2,m1,m2,fin⟩:=ok2.slot hk;rw[q1]at q3;cases q3;rw[q2]at q4;cases q4;cases d1 with
   | dic ks ds =>
    cases hko:vL dk with
    | none=>rw[hko]at h;exact h.elim
    | some k =>
     rw[hko]at h;dsimp only at h
     by_cases hz:d'.imm=true/\ks.length<jNb
     ·rw[jNk hz]at h;obtain⟨a,kvs,L',rfl,ha2,z2,hks,hnd,rs⟩:=r2;subst z2;have mu:(∃vs,H2 a=some (.lst vs))\/∃kvs,H2 a=some (.dK kvs):=.inr ⟨_,ha2⟩;have zL:=Rep.imm _ _ _ ry hz.1;subst zL;obtain⟨w1,w2⟩:=sF.mp m1;have r3:=(ry.same s2).upd (o:=.dK (xS kvs k y)) mu (by simp);have rs3:=rs.upd (o:=.dK (xS kvs k y)) mu w1;subst hks;obtain⟨a1,a2,L3,a3,a4⟩:=Vz (k:=k) rs3 hnd r3;refine⟨a,_,rfl,?_,h _ _ (fin _ _ (a::L3) [] [] rfl (TF.upd mu) (fun b hb _=>zC fun z=>hb (z▸tE)) ⟨a,_,L3,rfl,zG,rfl,a1,a2,a3⟩ (fun b hb=>?_) ?_)⟩
      ·rw[ui hko rk];exact DPut.k ha2 (by have:=hz.2;rw[tH]at this;exact this)
      ·rcases tK.mp hb with z|z
       ·exact .inl (z▸tE)
       ·exact .inl (tF _ (a4.subset z))
      ·exact sF.mpr ⟨fun z=>w1 (a4.subset z),w2.sublist a4⟩
     ·rw[jPa hz]at h;exact h.elim
   | _=>exact h.elim
  | err n=>rw[hk']at h;exact fun C H' e s=>h C H' e (ok1.ext.trans s)
  | bad=>rw[hk']at h;exact h
 | err n=>rw[ht]at h;exact h
 | bad=>rw[ht]at h;exact h
def z3J (ks:List Key)(ds:List D)(k z:D):R D:=match vL k with
 | some k=>if ((yf ks ds k).getD z).imm=true then .ok ((yf ks ds k).getD z) else .bad
 | none=>.bad
def KG (t u v:Tn->R D):Tn->R D:=fun τ=>(t τ).bind fun d=>match d with
 | .dic ks ds=>(u τ).bind fun k=>(v τ).bind fun z=>z3J ks ds k z
 | _=>.bad
def z2E {apos cpos:Pos}(hu:X.A.units+1<cLine)(ho:ME X E Γ o t c)(he:ME X E Γ e u ca)(hf:ME X E Γ f v cb)
  (hbase:autoParam (jKg o "get" X.env (eval o X.env)=eval o X.env) au3._auto_1)
  (hfew:autoParam (((jNh cpos (jNc [e,f] X.env)).all (fun x=>!x.1)&&(jNa cpos (jMa [] X.env)).all (fun x=>x.1.isSome)
   && decide (([e,f]:List Expr).length+([]:List jNd).length+(if ([]:List jNd).isEmpty then 0 else 1)<30))=true) au3._auto_1)
  (hline:autoParam ((apos.endLine==cpos.line)=true) au3._auto_1) (htr:autoParam (jNh cpos (jNc [e,f] X.env)=[(false,eval e X.env),(false,eval f X.env)]) au3._auto_1):
  ME X E Γ (.Call (.Attribute o "get" apos) [e,f] [] cpos) (KG t u v) .fresh:=by
 obtain⟨te,p,q⟩:=ho;obtain⟨te',p',q'⟩:=he;obtain⟨te'',p'',q''⟩:=hf;refine⟨_,Jc hu p p' p'' ⟨hbase,hfew,hline,htr⟩,fun O σ H τ Q ok h=>?_⟩;unfold KG at h;refine q O σ H τ _ ok (post.bind h fun d hd h x H1 L1 s1 r1 _=>?_);cases d with
 | dic ks ds =>
  obtain⟨ad,kvs,L',rfl,had,e2,hks,_,rs⟩:=r1;refine⟨ad,rfl,.inl ⟨kvs,.inl had⟩,?_⟩;dsimp only at h;refine q' O σ H1 τ _ (ok.same s1) (post.bind2 h s1 fun dk _ h y H2 Ly s2 ry _=>?_);refine q'' O σ H2 τ _ ((ok.same s1).same s2) (post.bind2 h (s1.trans s2) fun dz _ h z H3 Lz s3 rz _=>?_);unfold z3J at h;have sA:Same H H3:=s1.trans (s2.trans s3);cases hk:vL dk with
  | none=>rw[hk]at h;exact h.elim
  | some k =>
   rw[hk]at h;dsimp only at h;have ek:=ui hk ry;subst ek;have had3:H3 ad=some (.dK kvs):=s3 _ _ (s2 _ _ had);cases hl:yf ks ds k with
   | some d =>
    rw[hl]at h
    by_cases hi:d.imm=true
    ·rw[jNk (show ((some d).getD dz).imm=true from hi)]at h;rw[<-hks]at hl;obtain⟨w,L1,g1,g2,g3⟩:=uq rs hl;have zL:=Rep.imm _ _ _ g2 hi;subst zL;refine⟨uW kvs k,DGet.k had3,?_⟩;rw[g1];exact h w H3 [] sA ((g2.same s2).same s3) RcOk.nil
    ·rw[jPa (show ¬((some d).getD dz).imm=true from hi)]at h;exact h.elim
   | none =>
    rw[hl]at h
    by_cases hi:dz.imm=true
    ·rw[jNk (show ((none:Option D).getD dz).imm=true from hi)]at h;rw[<-hks]at hl;have g1:=qO rs hl;have zL:=Rep.imm _ _ _ rz hi;subst zL;refine⟨uW kvs k,DGet.k had3,?_⟩;rw[g1];exact h z H3 [] sA rz RcOk.nil
    ·rw[jPa (show ¬((none:Option D).getD dz).imm=true from hi)]at h;exact h.elim
 | _=>exact h.elim
end
def Vi (K:jJa):List V->Hp->VK->Prop:=fun xs H Q=>∃a vs,∃qs:List (Key×V),xs=[.ref a]/\SqT K H a vs/\Paired (fun (v:V) (q:Key×V)=>∃b,v=.ref b/\SqT K H b [kV q.1,q.2]) vs qs/\∀l,H l=none->Q (.ref l) (upd H l (.dK (xj [] qs)))
section
theorem XX (I:Inv X jNj σ H s):∀ {vs:List V} {qs:List (Key×V)} {its:List Value},Paired (fun (v:V) (q:Key×V)=>∃b,v=.ref b/\SqT X.K H b [kV q.1,q.2]) vs qs->Vals vs its ->
  ∃ps:List (Key×Value),PairsAt X.prog X.w s.heap its ps/\KV qs ps
 | _,_,_,.nil,.nil=>⟨[],.nil,.nil⟩
 | _,_,_,.cons (b:=q) h t,.cons r t2=>by
  obtain⟨b,rfl,hs⟩:=h;obtain⟨ps,a1,a2⟩:=XX I t t2;obtain⟨its2,r2,pl,_⟩:=I.tuple hs;cases r;cases r2 with
  | cons rk r3 =>
   cases r3 with
   | cons rv r4 =>
    cases r4;rename_i key u;exact⟨(q.1,u)::ps,.cons ⟨b,key,rfl,pl,ZM rk⟩ a1,.cons ⟨rfl,rv⟩ a2⟩
def Vj (hc:X.calm=true):CallR X (.type "dict") (Vi X.K):=by
 intro jNj s σ H xs us Q I r h;obtain⟨a,vs,qs,rfl,ha,hp,q⟩:=h;obtain⟨u,rfl,ru⟩:=wD r;obtain rfl:u=Value.ref a:=ru;obtain⟨its,rv,tn,hz⟩:=I.tupN ha;obtain⟨ps,hps,kv⟩:=XX I hp rv;have hl1:vs.length=qs.length:=Paired.length hp;have hl2:=kv.length;refine jB (I.ok.hd hc) tn hps (by omega) fun h' tk hD hk=>?_;refine⟨.ref s.heap.objs.size,_,I.laid (o:=.dK (xj [] qs)) (t':=tk) hk (tI _) ?_,rfl,q _ (I.hok.fresh (tI _))⟩;have hm:KV (xj [] qs) (merged [] ps):=KV.merge kv .nil;refine⟨?_,beq_eq_false_iff_ne.mpr (Ne.symm (tU I.big)),_,hm,hD⟩;have e1:=hm.length;have e2:=merged_length_le [] ps;simp only[rO]at e2;omega
def Z7 (hc:X.calm=true):CallR X (.type "dict") (fun xs H Q=>YK xs H Q\/Vi X.K xs H Q):=CallR.or Vo (Vj hc)
end
noncomputable def u6:List D->R D
 | [.dic ks ds]=>if D.imms ds=true then .ok (.dic ks ds) else .bad
 | [.tup ps]=>match WQ ps with
  | some kds=>.ok (.dic (xi [] [] kds).1 (xi [] [] kds).2)
  | none=>.bad
 | _=>.bad
def VL:yX u6:=fun ds n h=>by
 unfold u6 at h;split at h
 ·split at h<;>cases h
 ·split at h<;>cases h
 ·cases h
def VQ {K:jJa}:ClB K (fun xs H Q=>YK xs H Q\/Vi K xs H Q) u6:=by
 rintro H xs ds L Q r ⟨d,hg,q⟩;unfold u6 at hg;split at hg
 ·rename_i ks ds;refine .inl (z18 H xs _ L Q r ⟨d,hg,q⟩)
 ·rename_i ps;split at hg
  ·rename_i kds hp;cases hg;obtain⟨v,rfl,a,vs,rfl,ha,rs⟩:=xG r;obtain⟨qs,h1,h2⟩:=jX rs hp;refine .inr ⟨a,vs,qs,rfl,ha,h1,fun l hl=>?_⟩;obtain⟨b1,b2,b3⟩:=ZY kds qs [] [] h2 Reps.nil rN;exact q _ _ [l] (Same.new hl) ⟨l,_,[],rfl,zG,rfl,b1,b2,b3.same (Same.new hl)⟩ (by simp) (fun b hb=>by rw[sI.mp hb];exact hl)
  ·cases hg
 ·cases hg
noncomputable def JK (i:Nat)(τ:Tn)(d:D):D->D->R Fl
 | .dic ks ds,k=>(match vL k with
  | some k=>if d.imm=true/\ks.length<jNb then .ok (.nx (τ.set i (some (.dic (xR ks ds k d).1 (xR ks ds k d).2)))) else .bad
  | none=>.bad)
 | _,_=>.bad
def K9 {i:Nat}:wd i t ti τ=(t τ).bind fun d=>(za i τ).bind fun l=>(ti τ).bind fun k=>JK i τ d l k:=by
 unfold wd;congr 1;funext d;congr 1;funext l;congr 1;funext k;cases l with
 | dic ks ds =>
  cases h:vL k<;>simp only[JK,h]
 | _=>rfl
def KH {i:Nat}(hd:d.imm=true)(hl:ks.length<16777216):JK i τ d (.dic ks ds) (.str x)=.ok (.nx (τ.set i (some (.dic (xR ks ds (.inr x) d).1 (xR ks ds (.inr x) d).2)))):=jNk ⟨hd,by rw[jMc];exact hl⟩
theorem ZS:∀ps:List (Str×Int),WQ (ps.map fun p:Str×Int=>D.tup [.str p.1,.int p.2])=some (ps.map fun p=>(Key.inr p.1,D.int p.2))
 | []=>rfl
 | p::ps=>by
  rw[tO];show (match vL (D.str p.1)with
   | some k'=>if (D.int p.2).imm=true then (WQ (ps.map fun p:Str×Int=>D.tup [.str p.1,.int p.2])).map ((k',D.int p.2)::·) else none
   | none=>none)=_
  rw[ZS ps]
  rfl
theorem uV:∀ys:List Str,vR (ys.map D.str)=some ys
 | []=>rfl
 | y::ys=>by rw[tO];show (vR (ys.map D.str)).map (y::·)=_;rw[uV ys];rfl
def Ja (h:(ys.map (·.length)).sum+ys.length*z.length<=16777216):v9 z [.lst (ys.map D.str)]=.ok (.str (Str.join z ys)):=by
 have e:Txt.join z ys=Str.join z ys:=eq_of_beq (join_plain_closes z ys);simp only[v9,uV,jNk h,e]
def z0w (x y:Str):(x++y).cps.toList=x.cps.toList++y.cps.toList:=by
 show (x.cps++y.cps).toList=_;simp
def K6 (ys:List Str):(Str.join (Str.ofString "") ys).length<=(ys.map (·.length)).sum:=by
 have:=StrLaws.join_length_le (Str.ofString "") ys;have e:(Str.ofString "").length=0:=rfl;rw[e]at this;omega
def VU:yC [.tup ds]=.ok (.int ds.length):=rfl
def wq (h:D.imms ds=true):xE [.lst ds]=.ok (.tup ds):=jNk h
def Jd {ps:List (Str×Int)}:u6 [.tup (ps.map fun p=>D.tup [.str p.1,.int p.2])]=.ok (.dic (xi [] [] (ps.map fun p=>(Key.inr p.1,D.int p.2))).1 (xi [] [] (ps.map fun p=>(Key.inr p.1,D.int p.2))).2):=by
 simp only[u6,ZS]
def VP (hd:∀ks xs,d≠.dic ks xs)(h:eqF 12 d d=some true):eqR true d d=.ok (.bl false):=by
 cases d with
 | dic ks xs=>exact absurd rfl (hd ks xs)
 | _=>simp only[eqR,h]<;>rfl
def vZ:Option Int->List Int->Option Int
 | o,[]=>o
 | none,n::ns=>vZ (some n) ns
 | some m,n::ns=>vZ (some (if n>m then n else m)) ns
def z5P (h:Heap)(S:Addr)(o:Option Value):Prop:=∃c,h.get? S=some { cls:=.type "list",dict:=none,data:=.seq (match o with|none=>#[]|some v=>#[v,v]) c,slots:=#[] }
def z6U (o:Option Int)(v:Option Value):Prop:=match o,v with
 | none,none=>True
 | some m,some u=>∃t,u=.int m t
 | _,_=>False
section
variable {prog:jNe}{w:World}{A:jNf}{R:Result->jNg->Prop}
def UH {d:Value}{I S l:Addr}{items:List Value}(hIS:I≠S)(hlI:l≠I)(hlS:l≠S)(hh:A.in1.handled=none):
  ∀(ns:List Int) (i:Nat) (s:jNg) (o:Option Int) (v:Option Value),items.length=i+ns.length->(∀j n,ns[j]?=some n->∃t,items[i+j]?=some (.int n t))->s.heap.IsListIter I l i->s.heap.IsList l items.toArray->z5P s.heap S v->z6U o v ->
   (∀h' tk u,(match vZ o ns with|none=>u=d|some m=>∃t,u=Value.int m t)->(∀b ob,b≠I->b≠S->s.heap.get? b=some ob->h'.get? b=some ob)->R (.ok (.ret u)) { s with heap:=h',toks:=tk }) ->
   codeAny (model prog w) A (.builtin "max.loop" ⟨[.ref I,.none,.ref S],[("default",d)]⟩) R s:=by
 intro ns
 induction ns with
 | nil =>
  intro i s o v hlen hit hI hl hS ho hR;obtain⟨c,hS⟩:=hS;refine jKb jQ5 ?_;rw[Around.under_plainId jQt _];show jNi _ A.in1 (seqItems? (.ref S) >>= _) _ _ s;refine jMf (jKf hS rfl ?_);show jNi _ A.in1 (tryCatch (pyNext (.ref I)) _ >>= _) _ _ s;refine jMf (wpAny_tryCatch (wpAny_pyNext_list_end hh hI hl (by simp at hlen;simp;omega) fun h' eb=>?_));cases o with
  | none =>
   cases v with
   | none =>
    refine jMf (wpAny_rule (jMh (hR h' s.toks d rfl fun b ob n1 n2 e=>eb b ob n1 e)))
   | some u=>exact ho.elim
  | some m =>
   cases v with
   | none=>exact ho.elim
   | some u =>
    obtain⟨t,rfl⟩:=ho;show jNi _ A.in1 (updateSeq S (fun _=>#[]) >>= _) _ _ _;refine jMf (wpAny_updateSeq (eb S _ (Ne.symm hIS) hS) rfl (jMf (wpAny_letGo (jMh ?_))));refine hR _ s.toks (.int m t) ⟨t,rfl⟩ fun b ob n1 n2 e=>?_;exact (Heap.get?_update_other _ _ (Ne.symm n2)).trans (eb b ob n1 e)
 | cons n ns ih =>
  intro i s o v hlen hit hI hl hS ho hR;obtain⟨c,hS⟩:=hS;obtain⟨t0,hx⟩:=hit 0 n rfl;refine jKb jQ5 ?_;rw[Around.under_plainId jQt _];show jNi _ A.in1 (seqItems? (.ref S) >>= _) _ _ s;refine jMf (jKf hS rfl ?_);show jNi _ A.in1 (tryCatch (pyNext (.ref I)) _ >>= _) _ _ s;refine jMf (wpAny_tryCatch (wpAny_pyNext_list_item hI hl (x:=.int n t0) (by simpa using hx) fun h1 hI1 sb1=>?_));have hS1:=(sb1.2 S (Ne.symm hIS)).trans hS;have hl1:h1.IsList l items.toArray:=hl.extBut sb1.extBut hlI;have hlen':items.length=(i+1)+ns.length:=by rw[tR]at hlen;omega
  have hit':∀j n,ns[j]?=some n->∃t,items[i+1+j]?=some (.int n t):=fun j m hj=>by
   have:=hit (j+1) m (by simpa using hj)
   rwa [show i+(j+1)=i+1+j by omega]at this
  have hname:(toString "max"++toString ".loop":String)="max.loop":=by decide
  have put:∀(m:Int) (t:Tok) (xs:Array Value) (c':Nat) (tk:Nat),h1.get? S=some { cls:=.type "list",dict:=none,data:=.seq xs c',slots:=#[] }->vZ o (n::ns)=vZ (some m) ns ->
    codeAny (model prog w) A (.builtin "max.loop" ⟨[.ref I,.none,.ref S],[("default",d)]⟩) R { s with heap:=h1.update S (Obj.mapSeq fun _=>#[.int m t,.int m t]),toks:=tk }:=fun m t xs c' tk e eo=>by
   refine ih (i+1) _ (some m) (some (.int m t)) hlen' hit' ?_ ?_ ⟨_,Heap.get?_update_self _ e rfl⟩ ⟨t,rfl⟩ fun h' tk' u hu hk=>?_
   ·obtain⟨oi,a,b⟩:=hI1;exact⟨oi,(Heap.get?_update_other _ _ (Ne.symm hIS)).trans a,b⟩
   ·exact hl1.at fun ob a=>(Heap.get?_update_other _ _ (Ne.symm hlS)).trans a
   ·rw[<-eo]at hu;exact hR h' tk' u hu fun b ob n1 n2 a=>hk b ob n1 n2 ((Heap.get?_update_other _ _ (Ne.symm n2)).trans ((sb1.2 b n1).trans a))
  cases o with
  | none =>
   cases v with
   | some u=>exact ho.elim
   | none =>
    show jNi _ A.in1 (updateSeq S (fun _=>#[.int n t0,.int n t0]) >>= _) _ _ _;refine jMf (wpAny_updateSeq hS1 rfl ?_);rw[hname];exact jMh ⟨jKh jQt _,put n t0 _ _ _ hS1 rfl⟩
  | some m =>
   cases v with
   | none=>exact ho.elim
   | some u =>
    obtain⟨t,rfl⟩:=ho;show jNi _ A.in1 (tryCatch (holding [.int n t0,.int n t0] (richCompare .Gt (.int n t0) (.int m t) >>= _)) _ >>= _) _ _ _;refine jMf (wpAny_tryCatch (jKi (jMf (CmpOf.ints_gt (P:=fun k v=>∃t,v=.int (if k=0 then n else m) t) (fun k=>if k=0 then n else m) (fun _ _ h=>h) 0 1 (.int n t0) (.int m t) _ _ _ ⟨t0,rfl⟩ ⟨t,rfl⟩ ?_))));refine jMf (jKi (jYj ?_));refine jMf (wpAny_letGo (jMh ?_))
    by_cases hg:n>m
    ·have hd:(fun i j:Nat=>decide ((if i=0 then n else m)>(if j=0 then n else m))) 0 1=true:=decide_eq_true hg;rw[jNk hd];refine jMf (wpAny_updateSeq hS1 rfl (jMf (wpAny_letGo ?_)));rw[hname];exact jMh ⟨jKh jQt _,put n t0 _ _ _ hS1 (by show vZ (some (if n>m then n else m)) ns=_;rw[jNk hg])⟩
    ·have hd:(fun i j:Nat=>decide ((if i=0 then n else m)>(if j=0 then n else m))) 0 1=false:=decide_eq_false hg;rw[jPa (by rw[hd];exact tP)];refine jMf (wpAny_letGo ?_);rw[hname];refine jMh ⟨jKh jQt _,ih (i+1) _ (some m) (some (.int m t)) hlen' hit' hI1 hl1 ⟨_,hS1⟩ ⟨t,rfl⟩ fun h' tk' u hu hk=>?_⟩;have eo:vZ (some m) (n::ns)=vZ (some m) ns:=by show vZ (some (if n>m then n else m)) ns=_;rw[jPa hg]
     rw[<-eo]at hu;exact hR h' tk' u hu fun b ob n1 n2 a=>hk b ob n1 n2 ((sb1.2 b n1).trans a)
end
section
variable {prog:jNe}{w:World}{A:jNf}{E:Value->jNg->Prop}{s:jNg}
def UT {l:Addr}{items:List Value}{ns:List Int}{d:Value}{Q:Value->jNg->Prop}(hh:A.handled=none)(hl:s.heap.IsList l items.toArray)(hi:IntsAre items ns)
  (h:∀h' tk u,(match vZ none ns with|none=>u=d|some m=>∃t,u=Value.int m t)->(∀b ob,s.heap.get? b=some ob->h'.get? b=some ob)->Q u { s with heap:=h',toks:=tk }):
  jNi (model prog w) A (call (.builtin "max") [.ref l] [("default",d)]) Q E s:=by
 have hname:(toString "max"++toString ".loop":String)="max.loop":=by decide
 have hlt:l<s.heap.objs.size:=by obtain⟨o,ho,_⟩:=hl;exact jYc ho
 refine wpAny_call (codeAny_call_builtin PySem.F.plain_max PySem.F.entry_max ?_);have body:jNi (model prog w) A.in1 (Builtin.«max» ⟨[.ref l],[("default",d)]⟩) (fun fin s'=>match fin with
   | .done f=>(match (Except.ok f:Result)with | .ok (.ret v)=>Q v s' | .ok _=>False | .error e=>E e s')
   | .again c'=>c'.quiet=true/\codeAny (model prog w) A c' (fun r s'=>match r with | .ok (.ret v)=>Q v s' | .ok _=>False | .error e=>E e s') s') E s:=by
  show jNi _ A.in1 (Builtin.Builtins.bindParams "max" ["key","default"] 0 ⟨[],[("default",d)]⟩ >>= _) _ _ s;refine jMf (wpAny_of_eq (show Builtin.Builtins.bindParams "max" ["key","default"] 0 ⟨[],[("default",d)]⟩=pure [none,some d] from rfl) ?_);refine jMf (jMh ?_);refine jMf (wpAny_pyIter_list hl ?_);refine jMf (jYi ?_);rw[hname];have hz:(s.heap.push { cls:=.type "list_iterator",data:=.fields #[.ref l,.int 0 0] }).objs.size=s.heap.objs.size+1:=Heap.size_push ..;refine jMh ⟨jKh jQt _,?_⟩;refine UH (I:=s.heap.objs.size) (S:=(s.heap.push { cls:=.type "list_iterator",data:=.fields #[.ref l,.int 0 0] }).objs.size) (l:=l) (items:=items) (by rw[hz];exact tU (Nat.lt_succ_self _)) (tU hlt) (by rw[hz];exact tU (sX hlt)) hh ns 0 _ none none (by rw[Nat.zero_add];exact hi.length) (fun j n hj=>?_) ?_ ((hl.push _).push _) ⟨_,jYd _ rfl⟩ trivial fun h' tk u hu hk=>?_
  ·rw[Nat.zero_add];have hj2:j<items.length:=by rw[hi.length];exact (tJ.mp hj).1
   obtain⟨t,e⟩:=PyProof.Rows.IntsAre.int_at hi j _ (tG hj2);refine⟨t,?_⟩;rw[tG hj2,e];simp[List.getD,hj]
  ·exact⟨_,jYb _ (jYd _ rfl),rfl,rfl⟩
  ·refine h h' tk u hu fun b ob e=>?_;have hb:=jYc e;exact hk b ob (tU hb) (by rw[hz];exact tU (sX hb)) (jYb _ (jYb _ e))
 have ha:argsOk "max" ⟨[.ref l],[("default",d)]⟩:=by unfold argsOk;kernel_rfl
 simp only[checkBuiltinCall,PySem.F.kind_max];cases hsig:Manifest.signature? "max" with
 | none=>exact jMh body
 | some sig =>
  have ha':Bind.checkArgs "max" sig ⟨[.ref l],[("default",d)]⟩=pure ():=by simpa only [argsOk,hsig] using ha
  simp only[ha'];exact jMh body
end
def z6j (K:jJa)(te tf:TE):TE:=fun σ H Q=>te σ H fun x H1=>tf σ H1 fun y H2=>∃p ns,x=.ref p/\SqL K H2 p (ns.map V.int)/\(match vZ none ns with|none=>Q y H2|some m=>Q (.int m) H2)
section
def z0c (hc:X.calm=true)(hg:Gl X "max")(hm:X.mg "max"=none)(ha:PE X e te)(hd:PE X f tf)(he:autoParam (jNc [e] X.env=(false,eval e X.env)::jNc [] X.env) au3._auto_1)
  (he2:autoParam (jNh pos (jNc [e] X.env)=(false,eval e X.env)::jNh pos (jNc [] X.env)) au3._auto_1) (hplain:autoParam ((jNh pos (jNc [e] X.env)).any (·.1)=false) au3._auto_1)
  (hall:autoParam ((jNa pos (jMa [⟨some "default",f,kp⟩] X.env)).all (·.1.isSome)=true) au3._auto_1) (hkw:autoParam ((jNa pos (jMa [⟨some "default",f,kp⟩] X.env)).any (·.1.isNone)=false) au3._auto_1):
  PE X (.Call (.Name "max" p) [e] [⟨some "default",f,kp⟩] pos) (z6j X.K te tf):=by
 intro jNj s σ H Q I h;refine jYf (vE I hg hm PyProof.Rows.boot_max ?_ (by decide) (by decide));refine PyProof.Rows.callWith_kw ?_ he2 hplain hall hkw;refine thn ((wR ha uU he) pos jNj s σ H (fun xs H1=>match xs with
  | [x]=>tf σ H1 fun y H2=>∃p ns,x=.ref p/\SqL X.K H2 p (ns.map V.int)/\(match vZ none ns with | none=>Q y H2 | some m=>Q (.int m) H2)
  | _=>False) I h) fun us s1 ⟨vs,H1,I1,r1,q1⟩=>?_
 match vs,r1,q1 with
 | [x],r1,q1 =>
  obtain⟨ux,rfl,rx⟩:=wD r1;refine PyProof.Rows.kws_cons (thn (hd jNj s1 σ H1 _ I1 q1) fun uy s2 ⟨y,H2,I2,ry,q2⟩=>PyProof.Rows.kws_nil ?_);obtain⟨a,ns,rfl,hs,q⟩:=q2;obtain rfl:ux=Value.ref a:=rx;obtain⟨its,rv,pl,hz⟩:=I2.list hs;show jNi _ _ (call (.builtin "max") [.ref a] [("default",uy)]) _ _ _;refine UT (I2.ok.hd hc) pl.isList (uZ rv) fun h' tk v hv hk=>?_;cases hT:vZ none ns with
  | none =>
   rw[hT]at hv q;have hv:v=uy:=hv;subst hv;exact⟨y,H2,I2.kept hk,ry,q⟩
  | some m =>
   rw[hT]at hv q;exact⟨.int m,H2,I2.kept hk,hv,q⟩
noncomputable def Yl:D->D->R D
 | .lst ds,d=>(match xW ds with
  | some ns=>(match vZ none ns with
   | none=>if d.imm=true then .ok d else .bad
   | some m=>.ok (.int m))
  | none=>.bad)
 | _,_=>.bad
def YB (hc:X.calm=true)(hg:Gl X "max")(hm:X.mg "max"=none)(ha:ME X E Γ e t ca)(hd:ME X E Γ f u cb)(he:autoParam (jNc [e] X.env=(false,eval e X.env)::jNc [] X.env) au3._auto_1)
  (he2:autoParam (jNh pos (jNc [e] X.env)=(false,eval e X.env)::jNh pos (jNc [] X.env)) au3._auto_1) (hplain:autoParam ((jNh pos (jNc [e] X.env)).any (·.1)=false) au3._auto_1)
  (hall:autoParam ((jNa pos (jMa [⟨some "default",f,kp⟩] X.env)).all (·.1.isSome)=true) au3._auto_1) (hkw:autoParam ((jNa pos (jMa [⟨some "default",f,kp⟩] X.env)).any (·.1.isNone)=false) au3._auto_1):
  ME X E Γ (.Call (.Name "max" p) [e] [⟨some "default",f,kp⟩] pos) (zd Yl t u) .fresh:=by
 obtain⟨te,p1,q1⟩:=ha;obtain⟨tf,p2,q2⟩:=hd;refine⟨_,z0c hc hg hm p1 p2 he he2 hplain hall hkw,fun O σ H τ Q ok h=>?_⟩;unfold zd at h;refine q1 O σ H τ _ ok (post.bind h fun dx hx h x H1 Lx s1 rx kx=>q2 O σ H1 τ _ (ok.same s1) (post.bind2 h s1 fun dy _ h y H2 Ly s2 ry _=>?_));cases dx with
 | lst ds =>
  have h:post X.K E O .fresh H Q (match xW ds with
   | some ns=>(match vZ none ns with
    | none=>if dy.imm=true then .ok dy else .bad
    | some m=>.ok (.int m))
   | none=>.bad):=h
  obtain⟨a,vs,L',rfl,had,e2,rs⟩:=rx;cases hi:xW ds with
  | none=>rw[hi]at h;exact h.elim
  | some ns =>
   rw[hi]at h;dsimp only at h;have ev:=x4 rs hi;subst ev;refine⟨a,ns,rfl,SqL.of (s2 _ _ had),?_⟩;cases hT:vZ none ns with
   | none =>
    rw[hT]at h;dsimp only at h
    by_cases hz:dy.imm=true
    ·rw[jNk hz]at h;have zL:=Rep.imm _ _ _ ry hz;subst zL;exact h y H2 [] (s1.trans s2) ry RcOk.nil
    ·rw[jPa hz]at h;exact h.elim
   | some m =>
    rw[hT]at h;exact h (.int m) H2 [] (s1.trans s2) ⟨rfl,rfl⟩ RcOk.nil
 | _=>exact h.elim
end
def UG {k:Tn->R Bool}(Iv:Tn->Prop)(μ:Tn->Nat)(hs:∀τ,Iv τ->k τ=.ok false\/(k τ=.ok true/\∃τ2,body τ=.ok (.nx τ2)/\Iv τ2/\μ τ2<μ τ))(τ:Tn)(h0:Iv τ):
  ∃τ',xA k body τ=.ok (.nx τ')/\Iv τ'/\k τ'=.ok false:=by
 have go:∀(m:Nat) (τ:Tn),μ τ<=m->Iv τ->∃n τ',wm k body n τ=.ok (.nx τ')/\Iv τ'/\k τ'=.ok false:=by
  intro m
  induction m with
  | zero =>
   intro τ hm h;rcases hs τ h with e|⟨e,τ2,_,_,hlt⟩
   ·exact⟨1,τ,by rw[wm,e];rfl,h,e⟩
   ·lia
  | succ m ih =>
   intro τ hm h;rcases hs τ h with e|⟨e,τ2,e2,h2,hlt⟩
   ·exact⟨1,τ,by rw[wm,e];rfl,h,e⟩
   ·obtain⟨n,τ',a,b,c⟩:=ih τ2 (by lia) h2;exact⟨n+1,τ',by rw[wm,e,jYa,jNk rfl,e2,jYa];exact a,b,c⟩
 obtain⟨n,τ',a,b,c⟩:=go (μ τ) τ (tI _) h0;exact⟨τ',UM a (by simp),b,c⟩
theorem Ww:∀(ks:List Key) (ns:List Int) (k:Key) (m:Int),ks.length=ns.length->(∀n∈ns,1<=n)->1<=m->∃ms:List Int,vO ks (ns.map D.int) k (.int m)=ms.map D.int/\ms.length=ks.length/\∀n∈ms,1<=n
 | [],[],_,_,_,_,_=>⟨[],rfl,rfl,fun n hn=>by cases hn⟩
 | [],_::_,_,_,h,_,_=>by cases h
 | _::_,[],_,_,h,_,_=>by cases h
 | k'::ks,n::ns,k,m,h,hp,hm=>by
  obtain⟨ms,e,hl,hq⟩:=Ww ks ns k m (by simpa using h) (fun x hx=>hp x (tF _ hx)) hm;rw[tO];unfold vO;rw[e]
  by_cases hk:k'=k
  ·refine⟨m::ms,by rw[jNk hk];rfl,by simp[hl],fun x hx=>?_⟩;rcases tK.mp hx with z|z
   ·rw[z];exact hm
   ·exact hq x z
  ·refine⟨n::ms,by rw[jPa hk];rfl,by simp[hl],fun x hx=>?_⟩;rcases tK.mp hx with z|z
   ·rw[z];exact hp n tE
   ·exact hq x z
def VW (ks:List Key)(ns:List Int)(k:Key)(m:Int)(h:ks.length=ns.length)(hp:∀n∈ns,1<=n)(hm:1<=m):∃ms:List Int,(xR ks (ns.map D.int) k (.int m)).2=ms.map D.int/\(xR ks (ns.map D.int) k (.int m)).1.length=ms.length/\(xR ks (ns.map D.int) k (.int m)).1.length<=ks.length+1/\∀n∈ms,1<=n:=by
 unfold xR
 by_cases hk:k∈ks
 ·rw[jNk hk];obtain⟨ms,e,hl,hq⟩:=Ww ks ns k m h hp hm;exact⟨ms,e,hl.symm,pG _,hq⟩
 ·rw[jPa hk];refine⟨ns++[m],by simp,by simp[h],by simp,fun x hx=>?_⟩;rcases tS.mp hx with z|z
  ·exact hp x z
  ·rw[sI.mp z];exact hm
theorem Yw:∀(ps:List (Str×Int)) (ks:List Key) (ns:List Int),ks.length=ns.length->(∀n∈ns,1<=n)->(∀p∈ps,1<=p.2)->∃ms:List Int,(xi ks (ns.map D.int) (ps.map fun p=>(Key.inr p.1,D.int p.2))).2=ms.map D.int/\(xi ks (ns.map D.int) (ps.map fun p=>(Key.inr p.1,D.int p.2))).1.length=ms.length/\(xi ks (ns.map D.int) (ps.map fun p=>(Key.inr p.1,D.int p.2))).1.length<=ks.length+ps.length/\∀n∈ms,1<=n
 | [],ks,ns,h,hp,_=>⟨ns,rfl,h,tI _,hp⟩
 | p::ps,ks,ns,h,hp,hq=>by
  obtain⟨ms,e1,e2,e3,e4⟩:=VW ks ns (.inr p.1) p.2 h hp (hq p tE);rw[tO];unfold xi;rw[e1];obtain⟨ms',f1,f2,f3,f4⟩:=Yw ps _ ms e2 e4 fun x hx=>hq x (tF _ hx);exact⟨ms',f1,f2,by rw[tR];lia,f4⟩
theorem XR:∀(ks:List Key) (ns:List Int) (k:Key) (pl:Int),(∀n∈ns,1<=n)->1<=pl->∃n,(yf ks (ns.map D.int) k).getD (.int pl)=.int n/\1<=n
 | [],_,_,pl,_,h=>⟨pl,rfl,h⟩
 | _::_,[],_,pl,_,h=>⟨pl,rfl,h⟩
 | k'::ks,n::ns,k,pl,hp,h=>by
  rw[tO];unfold yf
  by_cases hk:k'=k
  ·rw[jNk hk];exact⟨n,rfl,hp n tE⟩
  ·rw[jPa hk];exact XR ks ns k pl (fun x hx=>hp x (tF _ hx)) h
theorem ja:∀bs:List Bool,vG (bs.map D.bl)=some bs
 | []=>rfl
 | b::bs=>by rw[tO];show (vG (bs.map D.bl)).map (b::·)=_;rw[ja bs];rfl
def Xj {bs:List Bool}:Zn [.lst (bs.map D.bl)]=.ok (.bl (bs.all id)):=by
 simp only[Zn,ja]
def Ki (A:jNf)(s:jNg)(a:Int)(t:Tok)(c:Int)(u:Tok)(prog:jNe)(w:World)(E:Value->jNg->Prop)(Q:Value->jNg->Prop)(h:Q (.bool (decide (a>c))) s):
  jNi (model prog w) A (richCompare .Gt (.int a t) (.int c u)) Q E s:=
 CmpOf.ints_gt (P:=fun k v=>∃t,v=.int (if k=0 then a else c) t) (fun k=>if k=0 then a else c) (fun _ _ h=>h) 0 1 (.int a t) (.int c u) _ _ _ ⟨t,rfl⟩ ⟨u,rfl⟩ h
def jH:List Int->List Int->Bool
 | [],_=>false
 | _::_,[]=>true
 | a::as,b::bs=>if a=b then jH as bs else decide (a>b)
def EqX (P:jNe)(w:World)(A:jNf)(s:jNg)(y x:Value)(b:Bool):Prop:=∀(E:Value->jNg->Prop) (Q:Bool->jNg->Prop),Q b s->jNi (model P w) A (eqBool y x) Q E s
section
open PySem.SeqAt PySem.MeetsSeq3
open PySem.AutoSeq1 (wpAny_loadPart')
def Jq (l b:Addr)(items items2:Array Value)(n n2:Nat)(dd dd2:Option Addr)(sl sl2:Array (Option Value))(hz:items.size=items2.size)(e:Nat->Bool)(k:Nat):
  ∀i:Nat,items.size-i=k->MeetsIn P w (Builtin.«list.__eq__.loop» ⟨[.ref l,.ref b,rawInt i,rawInt 2],[]⟩)
   (fun A R s=>((s.heap.get? l=some { cls:=.type "list",dict:=dd,data:=.seq items n,slots:=sl }/\s.heap.get? b=some { cls:=.type "list",dict:=dd2,data:=.seq items2 n2,slots:=sl2 }) /\
    ∀j (h1:j<items.size) (h2:j<items2.size),EqX P w A.in1 s items[j] items2[j] (e j))/\R (.ok (.ret (.bool (((List.range items.size).drop i).all e)))) s):=by
 induction k with
 | zero =>
  intro i hk A R s h;obtain⟨hp,g,d,tk,os⟩:=s;obtain⟨⟨⟨hl,hb⟩,he⟩,h⟩:=h
  wp_walk using jKd hl,jKd hb
  have e1:items[((i:Nat):Int).toNat]?=none:=by simp;omega
  have d1:(List.range items.size).drop i=[]:=List.drop_eq_nil_of_le (by simp;omega);rw[d1]at h;rw[e1]
  wp_walk using jKd hl,jKd hb
  have e3:(items.size==items2.size)=true:=by rw[hz];exact beq_self_eq_true _
  show R (.ok (.ret (.bool (items.size==items2.size)))) _;rw[e3];exact h
 | succ k ih =>
  intro i hk A R s h;obtain⟨hp,g,d,tk,os⟩:=s;obtain⟨⟨⟨hl,hb⟩,he⟩,h⟩:=h
  wp_walk using jKd hl,jKd hb
  have h1:i<items.size:=by omega
  have h2:i<items2.size:=by omega
  have e1:items[((i:Nat):Int).toNat]?=some items[i]:=by simp[h1]
  have e2:items2[((i:Nat):Int).toNat]?=some items2[i]:=by simp[h2]
  have d1:(List.range items.size).drop i=i::(List.range items.size).drop (i+1):=by simp[sQ,h1]
  have hc:((i:Int)+1)=((i+1:Nat):Int):=by push_cast;rfl
  rw[d1,List.all_cons]at h;rw[e1,e2];refine jMf (he i h1 h2 _ _ ?_);cases hb':e i with
  | true =>
   rw[hb',Bool.true_and]at h
   wp_walk
   rw[hc];exact⟨jKh plain_eq_loop _,jKb entry_eq_loop (by
    rw[Around.under_plainId plain_eq_loop _];exact ih (i+1) (by omega) A R _ ⟨⟨⟨hl,hb⟩,he⟩,h⟩)⟩
  | false =>
   rw[hb',Bool.false_and]at h
   wp_walk using jKd hl,jKd hb
   rw[e1,e2]
   wp_walk
   exact h
def J0 (l b:Addr)(items items2:Array Value)(n n2:Nat)(dd dd2:Option Addr)(sl sl2:Array (Option Value))(hz:items.size=items2.size)(e:Nat->Bool):
  MeetsIn P w (Builtin.«list.__eq__» ⟨[.ref l,.ref b],[]⟩)
   (fun A R s=>((s.heap.get? l=some { cls:=.type "list",dict:=dd,data:=.seq items n,slots:=sl }/\s.heap.get? b=some { cls:=.type "list",dict:=dd2,data:=.seq items2 n2,slots:=sl2 }) /\
    ∀j (h1:j<items.size) (h2:j<items2.size),EqX P w A.in1 s items[j] items2[j] (e j))/\R (.ok (.ret (.bool ((List.range items.size).all e)))) s):=by
 intro A R s h;obtain⟨hp,g,d,tk,os⟩:=s;obtain⟨⟨⟨hl,hb⟩,he⟩,h⟩:=h;have f3:=AutoSeq1.sub_list_list;have hne:¬(items.size != items2.size)=true:=by simp[hz]
 wp_walk using jKd hl,jKd hb
 exact⟨jKh plain_eq_loop _,jKb entry_eq_loop (by
  rw[Around.under_plainId plain_eq_loop _];exact Jq l b items items2 n n2 dd dd2 sl sl2 hz e _ 0 rfl A R _ ⟨⟨⟨hl,hb⟩,he⟩,h⟩)⟩
end
def eqE:D->D->Option Bool
 | .dic ks xs,.dic js ys=>qr ks xs js ys
 | x,y=>eqF 11 x y
def WU:D->D->R D
 | .lst xs,.lst ys=>(match (if xs.length=ys.length then yA eqE xs ys else some false)with
  | some b=>.ok (.bl b)
  | none=>.bad)
 | _,_=>.bad
def z5X:xn WU:=fun x y n h=>by
 unfold WU at h;split at h
 ·split at h<;>cases h
 ·cases h
def z4p (K:jJa):R2:=fun x y H Q=>∃a b vs ws xs ys La Lb r,x=.ref a/\y=.ref b/\SqL K H a vs/\SqL K H b ws/\Reps K H xs vs La/\Reps K H ys ws Lb/\(if xs.length=ys.length then yA eqE xs ys else some false)=some r/\Q (.bl r) H
section
theorem ZG:∀ {ks:List Key} {xs:List D},ks.Nodup->ks.length=xs.length->∀(pk:List Key) (px:List D),pk.length=px.length->(pk++ks).Nodup->∀b,hitsD (pk++ks) (px++xs) ks xs=some b->b=true
 | [],xs,_,_,pk,px,_,_,b,h=>by unfold hitsD at h;cases h;rfl
 | k::ks,[],_,hl,_,_,_,_,_,_=>by cases hl
 | k::ks,x::xs,hn,hl,pk,px,hp,hnd,b,h=>by
  have hlk:∀(pk:List Key) (px:List D),pk.length=px.length->k∉pk->yf (pk++k::ks) (px++x::xs) k=some x:=by
   intro pk
   induction pk with
   | nil =>
    intro px hp _;cases px with
    | nil=>show yf (k::ks) (x::xs) k=_;unfold yf;rw[jNk rfl]
    | cons _ _=>cases hp
   | cons k' pk ih =>
    intro px hp hk;cases px with
    | nil=>cases hp
    | cons x' px =>
     show yf (k'::(pk++k::ks)) (x'::(px++x::xs)) k=_;unfold yf;rw[jPa (show ¬k'=k from fun z=>hk (by rw[z];exact tE))];exact ih px (by simpa using hp) (fun z=>hk (tF _ z))
  have hk:k∉pk:=fun z=>(tX.mp hnd).2.2 k z k tE rfl;unfold hitsD at h;rw[hlk pk px hp hk]at h;dsimp only at h;split at h
  ·rename_i hs;rw[sG]at hs;have e1:pk++k::ks=(pk++[k])++ks:=by simp
   have e2:px++x::xs=(px++[x])++xs:=by simp
   cases hr:hitsD (pk++k::ks) (px++x::xs) ks xs with
   | none=>rw[hr]at h;cases h
   | some b' =>
    rw[hr]at h;rw[e1,e2]at hr;have:=ZG (sF.mp hn).2 (by simpa using hl) (pk++[k]) (px++[x]) (by simp[hp]) (by rw[<-e1];exact hnd) b' hr;have h:(eqS x x&&b')=b:=jYe h;rw[<-h,this,XN x hs.1]
    rfl
  ·cases h
def z3H (I:Inv X jNj σ H s)(A:jNf)(hu:A.units+11<cLine)(d1 d2:D)(v1 v2:V)(L1 L2:List Addr)(u1 u2:Value)(b:Bool)(h:eqE d1 d2=some b)(r1:Rep X.K H d1 v1 L1)(r2:Rep X.K H d2 v2 L2)(q1:RelV v1 u1)(q2:RelV v2 u2):EqX X.prog X.w A s u1 u2 b:=by
 by_cases hd:∃ks xs js ys,d1=.dic ks xs/\d2=.dic js ys
 ·obtain⟨ks,xs,js,ys,rfl,rfl⟩:=hd;have h:qr ks xs js ys=some b:=h;obtain⟨a1,kv1,M1,rfl,ha1,_,hk1,hn1,rs1⟩:=r1;obtain⟨a2,kv2,M2,rfl,ha2,_,hk2,hn2,rs2⟩:=r2;obtain rfl:u1=Value.ref a1:=q1;obtain rfl:u2=Value.ref a2:=q2;obtain⟨_,da,va,ra,oa⟩:=VJ I.hok ha1;obtain⟨_,db,vb,rb,ob⟩:=VJ I.hok ha2;have l1:va.length=kv1.length:=ra.length.symm;have l2:vb.length=kv2.length:=rb.length.symm;have lk1:ks.length=kv1.length:=by rw[<-hk1,tH]
  have lk2:js.length=kv2.length:=by rw[<-hk2,tH]
  intro E Q hq;unfold eqBool;refine jKi ?_
  by_cases hz:a1=a2
  ·subst hz;rw[ha1]at ha2;cases ha2;have hkj:ks=js:=hk1.symm.trans hk2;subst hkj;have hds:xs=ys:=Reps.one I xs ys _ _ _ rs1 rs2;subst hds;have hb:b=true:=by
    unfold qr at h;rw[jNk rfl]at h;exact ZG hn1 (by rw[lk1,<-rs1.length,tH]) [] [] rfl (by simpa using hn1) b (by simpa using h)
   subst hb;refine wpAny_ite_split (fun _=>?_) (fun hab=>absurd (beq_self_eq_true _) hab);exact jMf (wpAny_rule (jMh hq))
  ·refine wpAny_ite_split (fun hab=>absurd (by have:=eq_of_beq hab;injection this) hz) (fun _=>?_);refine jMf ?_;have hu0:A.units<cLine:=by omega
   by_cases hl:kv1.length=kv2.length
   ·have hh:hitsD (kv2.map (·.1)) ys (kv1.map (·.1)) xs=some b:=by
     unfold qr at h;rw[jNk (by omega)]at h;rw[hk1,hk2];exact h
    refine jJq (r:=b) da db oa ob hu0 (fun e=>Xy rb rs2 ra rs1 hh) ?_;rw[l1,l2,hl,beq_self_eq_true,Bool.true_and];exact jYj hq
   ·have hb:b=false:=by
     unfold qr at h;rw[jPa (by omega)]at h;exact (jYe h).symm
    subst hb;refine jJq (r:=false) da db oa ob hu0 (fun e=>absurd e (by omega)) ?_;rw[pH];exact jYj hq
 ·have h':eqF 11 d1 d2=some b:=by
   cases d1 with
   | dic ks xs =>
    cases d2 with
    | dic js ys=>exact absurd ⟨ks,xs,js,ys,rfl,rfl⟩ hd
    | _=>exact h
   | _=>exact h
  exact (QD I 11 A d1 d2 v1 v2 L1 L2 u1 u2 b hu h' r1 r2 q1 q2).2.1 X.prog X.w
end
def z3j (hu:X.A.units+12<cLine):OpR X (jMi .Eq) (z4p X.K):=by
 intro jNj s σ H x y v u Q I rx ry h;obtain⟨a,b,vs,ws,xs,ys,La,Lb,r,rfl,rfl,ha,hb,rs,rs2,hr,q⟩:=h;obtain rfl:v=Value.ref a:=rx;obtain rfl:u=Value.ref b:=ry;obtain⟨its,rv,pl,_⟩:=I.list ha;obtain⟨its2,rv2,pl2,_⟩:=I.list hb;have l1:its.length=xs.length:=by rw[<-rv.length,rs.length]
 have l2:its2.length=ys.length:=by rw[<-rv2.length,rs2.length]
 have hu0:X.A.units<cLine:=by omega
 by_cases hl:xs.length=ys.length
 ·rw[jNk hl]at hr;obtain⟨e1,e2⟩:=ur hr;have he:∀j (h1:j<its.toArray.size) (h2:j<its2.toArray.size),EqX X.prog X.w X.A.in1 s its.toArray[j] its2.toArray[j] (wQ eqE xs ys j):=fun j h1 h2=>by
   have h1':j<xs.length:=by simpa [l1] using h1
   have h2':j<ys.length:=by simpa [l2] using h2
   obtain⟨w1,L3,g1,g2,_⟩:=rs.get (i:=j) (d:=xs[j]) (by simp[h1']);obtain⟨w2,L4,g3,g4,_⟩:=rs2.get (i:=j) (d:=ys[j]) (by simp[h2']);obtain⟨z1,k1,k2⟩:=rv.get g1;obtain⟨z2,k3,k4⟩:=rv2.get g3;have m1:its.toArray[j]=z1:=by
    have:=(tJ.mp k1).2
    simpa using this
   have m2:its2.toArray[j]=z2:=by
    have:=(tJ.mp k3).2
    simpa using this
   rw[m1,m2];exact z3H I _ (by show X.A.units+1+11<cLine;omega) _ _ w1 w2 L3 L4 z1 z2 _ (e2 j _ _ (by simp[h1']) (by simp[h2'])) g2 g4 k2 k4
  have hsz:its.toArray.size=its2.toArray.size:=by simp[l1,l2,hl]
  have eb:r=(List.range its.toArray.size).all (wQ eqE xs ys):=by
   rw[e1];congr 2;simp[l1,hl]
  obtain⟨⟨cls,dd,data,sl⟩,ho,hc,n,hd⟩:=pl.isList;obtain⟨⟨cls2,dd2,data2,sl2⟩,ho2,hc2,n2,hd2⟩:=pl2.isList;simp only at hc hd hc2 hd2;subst hc hd hc2 hd2;refine wpAny_richCompare_same_room (op:=.Eq) ⟨_,ho,rfl⟩ ⟨_,ho2,rfl⟩ jQ6 (call_meetsIn jQ6 ⟨_,ho,rfl⟩ PySem.F.entry_list_eq (PySem.F.args_list_eq_2 _ _) (J0 a b _ _ n n2 dd dd2 sl sl2 hsz (wQ eqE xs ys)) ⟨⟨⟨ho,ho2⟩,?_⟩,?_⟩) hu0
  ·exact he
  ·rw[<-eb];exact⟨(fun x=>nomatch x),.bl r,H,I,rfl,q⟩
 ·rw[jPa hl]at hr;cases hr;have hsz:(its.toArray.size != its2.toArray.size)=true:=by simp[l1,l2,hl]
  exact SeqAt.RcAt.lists_lengths pl.isList pl2.isList hsz hu0 X.prog X.w X.xe _ ⟨.bl false,H,I,rfl,q⟩
def z4K {K:jJa}:OpB K (z4p K) WU:=by
 rintro H x y dx dy Lx Ly Q rx ry ⟨d,hg,q⟩;unfold WU at hg;split at hg
 ·rename_i xs ys;split at hg
  ·rename_i r hr;cases hg;obtain⟨a,vs,L',rfl,ha,_,rs⟩:=rx;obtain⟨b,ws,L2',rfl,hb,_,rs2⟩:=ry;exact⟨a,b,vs,ws,xs,ys,_,_,r,rfl,rfl,SqL.of ha,SqL.of hb,rs,rs2,hr,q _ H [] (Same.refl H) ⟨rfl,rfl⟩ (by simp) (fun a ha=>nomatch ha)⟩
  ·cases hg
 ·cases hg
structure Src (P:jNe)(w:World)(i l:Addr)(xs:Array Value)(st:Nat->Heap->Prop):Prop where
 keep:∀k h h',st k h->(∀b,b=i\/b=l->∀o,h.get? b=some o->h'.get? b=some o)->st k h'
 obj:∀k h,st k h->∃o vs,h.get? i=some o/\o.data=.fields vs
 item:∀(A:jNf) (k:Nat) (s:jNg) (Q:Value->jNg->Prop) (E:Value->jNg->Prop) (x:Value),st k s.heap->xs[k]?=some x->(∀h',st (k+1) h'->Heap.SameBut i s.heap h'->Q x { s with heap:=h' })->jNi (model P w) A (Builtin.SmallTypes.nextOf (.ref i)) Q E s
 stop:∀(A:jNf) (k:Nat) (s:jNg) (Q:Value->jNg->Prop) (E:Value->jNg->Prop),A.handled=none->st k s.heap->xs[k]?=none->(∀h' e,Heap.ExtBut i s.heap h'->(∃o,h'.get? e=some o/\o.cls=.type "StopIteration")->E (.ref e) { s with heap:=h' })->jNi (model P w) A (Builtin.SmallTypes.nextOf (.ref i)) Q E s
def Kd (hne:l≠i):Src P w i l xs (fun k h=>h.IsListIter i l k/\h.IsList l xs) where
 keep:=fun k h h' ⟨a,b⟩ e=>⟨a.at fun o=>e i (.inl rfl) o,b.at fun o=>e l (.inr rfl) o⟩
 obj:=fun k h ⟨⟨o,a,_,b⟩,_⟩=>⟨o,_,a,b⟩
 item:=fun A k s Q E x ⟨a,b⟩ hx hQ=>wpAny_nextOf_list_item a b hx fun h' a' sb=>hQ h' ⟨a',b.extBut sb.extBut hne⟩ sb
 stop:=fun A k s Q E hh ⟨a,b⟩ hx hE=>wpAny_nextOf_list_end hh a b hx hE
section
variable {prog:jNe}{w:World}{A:jNf}{E:Value->jNg->Prop}{s:jNg}
def VM {i:Nat}(hit:s.heap.IsTupleIter it l i)(hl:s.heap.IsTuple l items)
  (h1:∀x h',items[i]?=some x->h'.IsTupleIter it l (i+1)->Heap.SameBut it s.heap h'->Q x { s with heap:=h' })
  (h2:items[i]?=none->A.handled=none/\∀h' e,Heap.ExtBut it s.heap h'->(∃o,h'.get? e=some o/\o.cls=.type "StopIteration")->E (.ref e) { s with heap:=h' }):jNi (model prog w) A (Builtin.SmallTypes.nextOf (.ref it)) Q E s:=by
 obtain⟨o,ho,hc,hd⟩:=id hit;obtain⟨ol,hol,_,nl,hdl⟩:=hl;unfold Builtin.SmallTypes.nextOf;refine jMf (wpAny_callSpecial?_slot (name:=Str.ofString "__next__") hit.typeIs F.slot_tuple_iterator_next (jYk F.slot_tuple_iterator_next hit.typeIs F.entry_tuple_iterator_next ?_ (F.args_tuple_iterator_next_1 _)));show jNi _ _ (field (.ref it) 0 >>= _) _ _ s;refine jMf (jMd ho hd (x:=.ref l) rfl ?_);show jNi _ _ (if (Value.ref l==Value.none)=true then _ else _) _ _ s;rw[jPa (show ¬((Value.ref l==Value.none)=true) from tP)];show jNi _ _ (field (.ref it) 1 >>= _) _ _ s;refine jMf (jMd ho hd (x:=.int i 0) rfl ?_);show jNi _ _ (seqItems? (.ref l) >>= _) _ _ s;refine jMf (jKf hol hdl ?_);cases hx:items[i]? with
 | some x =>
  simp only[pF,hx];refine jMf (wpAny_setField ho hd (by simp) (jMh ⟨x,rfl,jMh (h1 x _ hx ?_ (Heap.SameBut.update ..))⟩));exact⟨_,Heap.get?_update_self _ ho (Obj.isFreed_of_fields (Obj.data_mapFields hd _)),(Obj.cls_mapFields ..).trans hc,by rw[Obj.data_mapFields hd];simp[rawInt]⟩
 | none =>
  obtain⟨hh,hE⟩:=h2 hx;simp only[pF,hx];refine jMf (wpAny_rule (jMf (wpAny_setField ho hd (by simp) ?_)));show jNi _ _ (newExc (.type "StopIteration") [] >>= _) _ _ _;refine jMf ?_;simp only[newExc,newTuple];refine jMf (jYi ?_ (by size_fits));refine jMf (m:=firstArgMember _ _) (wpAny_of_eq (a:=Value.none) (by first|rfl|(simp only[firstArgMember];rfl)) ?_);refine jYi ?_ (by size_fits);simp only[raiseNew];refine jMf (wpAny_handled ?_)
  first|rw[show A.in1.handled=none from hh]|rw[hh]
  refine jMf (jMh (wpAny_throw ?_));exact hE _ _ (((Heap.SameBut.update ..).extBut.push _).push _) ⟨_,jYd _ rfl,rfl⟩
end
def z0N (hne:l≠i):Src P w i l xs (fun k h=>h.IsTupleIter i l k/\h.IsTuple l xs) where
 keep:=fun k h h' ⟨a,b⟩ e=>⟨a.at fun o=>e i (.inl rfl) o,let ⟨o,p,q⟩:=b;⟨o,e l (.inr rfl) o p,q⟩⟩
 obj:=fun k h ⟨⟨o,a,_,b⟩,_⟩=>⟨o,_,a,b⟩
 item:=fun A k s Q E x ⟨a,b⟩ hx hQ=>VM a b (fun y h' hy a' sb=>by rw[hx]at hy;cases hy;exact hQ h' ⟨a',b.extBut sb.extBut hne⟩ sb) (fun hy=>by rw[hx]at hy;cases hy)
 stop:=fun A k s Q E hh ⟨a,b⟩ hx hE=>VM a b (fun y h' hy=>by rw[hx]at hy;cases hy) fun _=>⟨hh,hE⟩
section
variable {prog:jNe}{w:World}{A:jNf}{E:Value->jNg->Prop}{s:jNg}
variable {z TI TO i1 i2 l1 l2:Addr}{k:Nat}{xs ys:Array Value}{st1 st2:Nat->Heap->Prop}{a b:Value}
structure ZSt (z TI TO i1 i2:Addr)(st1 st2:Nat->Heap->Prop)(f0:Value)(k1 k2:Nat)(h:Heap):Prop where
 z:IsZip h z TI TO f0
 ti:IsPair h TI (.ref i1) (.ref i2)
 to':∃a b,IsPair h TO a b
 s1:st1 k1 h
 s2:st2 k2 h
theorem ZSt.keep {f0:Value}{k1 k2:Nat}{h h':Heap}(D:ZipApart z TI TO i1 i2 l1 l2)(S1:Src prog w i1 l1 xs st1)(S2:Src prog w i2 l2 ys st2)(S:ZSt z TI TO i1 i2 st1 st2 f0 k1 k2 h)(e:∀c o,h.get? c=some o->h'.get? c=some o):ZSt z TI TO i1 i2 st1 st2 f0 k1 k2 h' :=
 ⟨e _ _ S.z,e _ _ S.ti,let ⟨a,b,q⟩:=S.to';⟨a,b,e _ _ q⟩,S1.keep _ _ _ S.s1 fun c _ o=>e c o,S2.keep _ _ _ S.s2 fun c _ o=>e c o⟩
theorem ZSt.setZ {f0 f1:Value}{k1 k2:Nat}{h h':Heap}(D:ZipApart z TI TO i1 i2 l1 l2)(S1:Src prog w i1 l1 xs st1)(S2:Src prog w i2 l2 ys st2)(S:ZSt z TI TO i1 i2 st1 st2 f0 k1 k2 h)(sb:Heap.SameBut z h h')(hz:IsZip h' z TI TO f1):ZSt z TI TO i1 i2 st1 st2 f1 k1 k2 h' :=
 ⟨hz,sb.extBut _ _ D.TIz S.ti,let ⟨a,b,q⟩:=S.to';⟨a,b,sb.extBut _ _ D.TOz q⟩,S1.keep _ _ _ S.s1 fun c hc o=>sb.extBut c o (by rcases hc with rfl|rfl;exact D.i1z;exact D.l1z),S2.keep _ _ _ S.s2 fun c hc o=>sb.extBut c o (by rcases hc with rfl|rfl;exact D.i2z;exact D.l2z)⟩
theorem ZSt.set1 {f0:Value}{k1 k2:Nat}{h h':Heap}(D:ZipApart z TI TO i1 i2 l1 l2)(S2:Src prog w i2 l2 ys st2)(S:ZSt z TI TO i1 i2 st1 st2 f0 k1 k2 h)(sb:Heap.SameBut i1 h h')(h1:st1 (k1+1) h'):ZSt z TI TO i1 i2 st1 st2 f0 (k1+1) k2 h' :=
 ⟨sb.extBut _ _ D.i1z.symm S.z,sb.extBut _ _ D.TIi1 S.ti,let ⟨a,b,q⟩:=S.to';⟨a,b,sb.extBut _ _ D.TOi1 q⟩,h1,S2.keep _ _ _ S.s2 fun c hc o=>sb.extBut c o (by rcases hc with rfl|rfl;exact D.i12.symm;exact D.l2i1)⟩
theorem ZSt.set2 {f0:Value}{k1 k2:Nat}{h h':Heap}(D:ZipApart z TI TO i1 i2 l1 l2)(S1:Src prog w i1 l1 xs st1)(S:ZSt z TI TO i1 i2 st1 st2 f0 k1 k2 h)(sb:Heap.SameBut i2 h h')(h2:st2 (k2+1) h'):ZSt z TI TO i1 i2 st1 st2 f0 k1 (k2+1) h' :=
 ⟨sb.extBut _ _ D.i2z.symm S.z,sb.extBut _ _ D.TIi2 S.ti,let ⟨a,b,q⟩:=S.to';⟨a,b,sb.extBut _ _ D.TOi2 q⟩,S1.keep _ _ _ S.s1 fun c hc o=>sb.extBut c o (by rcases hc with rfl|rfl;exact D.i12;exact D.l1i2),h2⟩
theorem ZSt.setO {f0:Value}{k1 k2:Nat}{h h':Heap}(D:ZipApart z TI TO i1 i2 l1 l2)(S1:Src prog w i1 l1 xs st1)(S2:Src prog w i2 l2 ys st2)(S:ZSt z TI TO i1 i2 st1 st2 f0 k1 k2 h)(sb:Heap.SameBut TO h h')(ho:∃a b,IsPair h' TO a b):ZSt z TI TO i1 i2 st1 st2 f0 k1 k2 h' :=
 ⟨sb.extBut _ _ D.TOz.symm S.z,sb.extBut _ _ D.TITO S.ti,ho,S1.keep _ _ _ S.s1 fun c hc o=>sb.extBut c o (by rcases hc with rfl|rfl;exact D.TOi1.symm;exact D.l1TO),S2.keep _ _ _ S.s2 fun c hc o=>sb.extBut c o (by rcases hc with rfl|rfl;exact D.TOi2.symm;exact D.l2TO)⟩
abbrev z13 (z TO i1 i2:Addr)(h h':Heap):Prop:=∀c o,c≠z->c≠TO->c≠i1->c≠i2->h.get? c=some o->h'.get? c=some o
def Vn {x y:Value}{Q:Value->jNg->Prop}(D:ZipApart z TI TO i1 i2 l1 l2)(S1:Src prog w i1 l1 xs st1)(S2:Src prog w i2 l2 ys st2)(S:ZSt z TI TO i1 i2 st1 st2 .none k k s.heap)(hx:xs[k]?=some x)(hy:ys[k]?=some y)
  (hQ:∀h',ZSt z TI TO i1 i2 st1 st2 (rawInt s.heap.objs.size) (k+1) (k+1) h'->IsPair h' s.heap.objs.size x y->h'.objs.size=s.heap.objs.size+1->z13 z TO i1 i2 s.heap h'->Q (.ref s.heap.objs.size) { s with heap:=h' }):
  jNi (model prog w) A (Builtin.«zip.__next__» ⟨[.ref z],[]⟩) (fun fin s'=>∃v,fin=.done (.ret v)/\Q v s') E s:=by
 show jNi _ _ (field (.ref z) 2 >>= _) _ _ _;refine jMf (jMd S.z rfl (x:=.bool false) rfl ?_);show jNi _ _ (field (.ref z) 3 >>= _) _ _ _;refine jMf (jMd S.z rfl (x:=.ref TI) rfl ?_);refine jMf (jKf S.ti rfl ?_);show jNi _ _ (Builtin.SmallTypes.ownedTupleIsFree (.ref z) >>= _) _ _ _;refine jMf ?_;unfold Builtin.SmallTypes.ownedTupleIsFree;refine jMf (jMd S.z rfl (x:=.none) rfl (jMh ?_));simp only[if_true];refine jMf (wpAny_rule ?_);refine jMf (jMd S.z rfl (x:=.ref TO) rfl ?_);refine jMf (jYg S.z (by simp) fun g1 z1 b1=>?_);have T1:=S.setZ D S1 S2 b1 (f1:=.ellipsis) z1;refine jMf ?_;simp only[List.zipIdx_cons,List.zipIdx_nil,rQ,List.forIn_nil];refine jMf (jMf (wpAny_onRaise ?_));show jNi _ _ (Builtin.SmallTypes.nextOf (.ref i1) >>= _) _ _ _;refine jMf (S1.item _ _ _ _ _ x T1.s1 hx fun g2 u2 b2=>jMh ?_);have T2:=T1.set1 D S2 b2 u2;obtain⟨p,q,o2⟩:=T2.to';refine jMf (jKf o2 rfl ?_);refine jMf (wpAny_updateSeq_pair o2 fun g3 o3 b3=>?_);have T3:=T2.setO D S1 S2 b3 ⟨x,q,o3⟩;refine jMf (wpAny_letGo (jMh ?_));refine jMf (jMf (wpAny_onRaise ?_));show jNi _ _ (Builtin.SmallTypes.nextOf (.ref i2) >>= _) _ _ _;refine jMf (S2.item _ _ _ _ _ y T3.s2 hy fun g4 u4 b4=>jMh ?_);have T4:=T3.set2 D S1 b4 u4;have o4:IsPair g4 TO x q:=b4.extBut _ _ D.TOi2 o3;refine jMf (jKf o4 rfl ?_);refine jMf (wpAny_updateSeq_pair o4 fun g5 o5 b5=>?_);have o5:IsPair g5 TO x y:=o5;have T5:=T4.setO D S1 S2 b5 ⟨x,y,o5⟩;refine jMf (wpAny_letGo (jMh (jMh ?_)));refine jMf (jKf o5 rfl ?_);refine jMf (wpAny_newTuple ?_);have hsz:g5.objs.size=s.heap.objs.size:=by rw[b5.1,b4.1,b3.1,b2.1,b1.1]
 have kp5:z13 z TO i1 i2 s.heap g5:=fun c o c1 c2 c3 c4 e=>b5.extBut _ _ c2 (b4.extBut _ _ c4 (b3.extBut _ _ c2 (b2.extBut _ _ c3 (b1.extBut _ _ c1 e))));show jNi _ _ (Builtin.SmallTypes.ownedTupleHandOut (.ref z) (.ref g5.objs.size) >>= _) _ _ _;refine jMf ?_;unfold Builtin.SmallTypes.ownedTupleHandOut;have T6:ZSt z TI TO i1 i2 st1 st2 .ellipsis (k+1) (k+1) (g5.push { cls:=.type "tuple",data:=.seq #[x,y] }):=T5.keep D S1 S2 fun c o e=>jYb _ e;refine jMf (jYg T6.z (by simp) fun g7 z7 b7=>?_);have T7:=T6.setZ D S1 S2 b7 (f1:=rawInt g5.objs.size) z7;refine jYg T7.z (by simp) fun g8 z8 b8=>?_;have T8:=T7.setZ D S1 S2 b8 (f1:=rawInt g5.objs.size) z8;have hzn:g5.objs.size≠z:=rY (jYc T5.z);have p8:IsPair g8 g5.objs.size x y:=b8.extBut _ _ hzn (b7.extBut _ _ hzn (jYd _ rfl));have n8:g8.objs.size=g5.objs.size+1:=by rw[b8.1,b7.1,Heap.size_push]
 rw[hsz]at T8 p8 n8;refine jMh ⟨_,rfl,?_⟩;show Q (.ref g5.objs.size) _;rw[hsz];exact hQ g8 T8 p8 n8 fun c o c1 c2 c3 c4 e=>b8.extBut _ _ c1 (b7.extBut _ _ c1 (jYb _ (kp5 c o c1 c2 c3 c4 e)))
def UA {Q:Fin->jNg->Prop}(hh:A.handled=none)(D:ZipApart z TI TO i1 i2 l1 l2)(S1:Src prog w i1 l1 xs st1)(S2:Src prog w i2 l2 ys st2)(S:ZSt z TI TO i1 i2 st1 st2 .none k k s.heap)(hend:xs[k]?=none\/ys[k]?=none)
  (hE:∀h' e,z13 z TO i1 i2 s.heap h'->(∃o,h'.get? e=some o/\o.cls=.type "StopIteration")->E (.ref e) { s with heap:=h' }):jNi (model prog w) A (Builtin.«zip.__next__» ⟨[.ref z],[]⟩) Q E s:=by
 show jNi _ _ (field (.ref z) 2 >>= _) _ _ _;refine jMf (jMd S.z rfl (x:=.bool false) rfl ?_);show jNi _ _ (field (.ref z) 3 >>= _) _ _ _;refine jMf (jMd S.z rfl (x:=.ref TI) rfl ?_);refine jMf (jKf S.ti rfl ?_);show jNi _ _ (Builtin.SmallTypes.ownedTupleIsFree (.ref z) >>= _) _ _ _;refine jMf ?_;unfold Builtin.SmallTypes.ownedTupleIsFree;refine jMf (jMd S.z rfl (x:=.none) rfl (jMh ?_));simp only[if_true];refine jMf (wpAny_rule ?_);refine jMf (jMd S.z rfl (x:=.ref TO) rfl ?_);refine jMf (jYg S.z (by simp) fun g1 z1 b1=>?_);have T1:=S.setZ D S1 S2 b1 (f1:=.ellipsis) z1;refine jMf ?_;simp only[List.zipIdx_cons,List.zipIdx_nil,rQ,List.forIn_nil];refine jMf (jMf (wpAny_onRaise ?_));show jNi _ _ (Builtin.SmallTypes.nextOf (.ref i1) >>= _) _ _ _;have fin:∀(g:Heap) (e:Addr),z13 z TO i1 i2 s.heap g->IsZip g z TI TO .ellipsis->(∃o,g.get? e=some o/\o.cls=.type "StopIteration")->∀g',IsZip g' z TI TO .none->Heap.SameBut z g g'->E (.ref e) { s with heap:=g' }:=fun g e kp zg ⟨oe,hoe,hce⟩ g' _ sb=>by
  have hez:e≠z:=fun x=>by subst x;rw[zg]at hoe;cases hoe;simp at hce
  exact hE g' e (fun c o c1 c2 c3 c4 x=>sb.extBut _ _ c1 (kp c o c1 c2 c3 c4 x)) ⟨oe,sb.extBut _ _ hez hoe,hce⟩
 cases hx:xs[k]? with
 | none =>
  refine jMf (S1.stop _ _ _ _ _ hh T1.s1 hx fun g2 e b2 he=>?_);have z2:IsZip g2 z TI TO .ellipsis:=b2 _ _ D.i1z.symm T1.z;exact jYg z2 (by simp) fun g3 z3 b3=>fin g2 e (fun c o c1 _ c3 _ x=>b2 _ _ c3 (b1.extBut _ _ c1 x)) z2 he g3 z3 b3
 | some x =>
  have hy:ys[k]?=none:=by
   rcases hend with h|h
   ·rw[hx]at h;cases h
   ·exact h
  refine jMf (S1.item _ _ _ _ _ x T1.s1 hx fun g2 u2 b2=>jMh ?_);have T2:=T1.set1 D S2 b2 u2;obtain⟨p,q,o2⟩:=T2.to';refine jMf (jKf o2 rfl ?_);refine jMf (wpAny_updateSeq_pair o2 fun g3 o3 b3=>?_);have T3:=T2.setO D S1 S2 b3 ⟨x,q,o3⟩;refine jMf (wpAny_letGo (jMh ?_));refine jMf (jMf (wpAny_onRaise ?_));show jNi _ _ (Builtin.SmallTypes.nextOf (.ref i2) >>= _) _ _ _;refine jMf (S2.stop _ _ _ _ _ hh T3.s2 hy fun g4 e b4 he=>?_);have z4:IsZip g4 z TI TO .ellipsis:=b4 _ _ D.i2z.symm T3.z;exact jYg z4 (by simp) fun g5 z5 b5=>fin g4 e (fun c o c1 c2 c3 c4 x=>b4 _ _ c4 (b3.extBut _ _ c2 (b2.extBut _ _ c3 (b1.extBut _ _ c1 x)))) z4 he g5 z5 b5
end
def IIt:Bool->Heap->Addr->Addr->Nat->Prop
 | true,h,i,l,k=>h.IsTupleIter i l k
 | false,h,i,l,k=>h.IsListIter i l k
def ISq:Bool->Heap->Addr->Array Value->Prop
 | true,h,l,xs=>h.IsTuple l xs
 | false,h,l,xs=>h.IsList l xs
def jL (t:Bool)(hne:l≠i):Src P w i l xs (fun k h=>IIt t h i l k/\ISq t h l xs):=by
 cases t
 ·exact Kd hne
 ·exact z0N hne
theorem IIt.at {t:Bool}{k:Nat}(x:IIt t h i l k)(e:∀o,h.get? i=some o->h'.get? i=some o):IIt t h' i l k:=by
 cases t
 ·exact Heap.IsListIter.at (h:=h) x e
 ·exact Heap.IsTupleIter.at (h:=h) x e
theorem IIt.obj {t:Bool}{k:Nat}(x:IIt t h i l k):∃o vs,h.get? i=some o/\o.data=.fields vs:=by
 cases t
 ·obtain⟨o,a,_,b⟩:=(show h.IsListIter i l k from x);exact⟨o,_,a,b⟩
 ·obtain⟨o,a,_,b⟩:=(show h.IsTupleIter i l k from x);exact⟨o,_,a,b⟩
def Sq (t:Bool)(K:jJa)(H:Hp)(a:Addr)(xs:List V):Prop:=if t=true then SqT K H a xs else SqL K H a xs
section
theorem Inv.sq {t:Bool}(I:Inv X jNj σ H s)(h:Sq t X.K H a xs):∃its:List Value,Vals xs its/\ISq t s.heap a its.toArray/\xs.length<=sizeLine:=by
 cases t
 ·obtain⟨its,r,p,z⟩:=I.list (show SqL X.K H a xs from h);exact⟨its,r,p.isList,z⟩
 ·obtain⟨its,r,p,z⟩:=I.tuple (show SqT X.K H a xs from h);exact⟨its,r,p,z⟩
def Inv.sq_inj {t:Bool}(I:Inv X jNj σ H s)(h:Sq t X.K H a xs)(h':Sq t X.K H a ys):xs=ys:=by
 cases t
 ·exact I.list_inj h h'
 ·exact I.tuple_inj h h'
def Inv.turnedL {t':Nat}{ch:List Addr}(I:Inv X jNj σ H s)(k:∀b o,b∉ch->s.heap.get? b=some o->h'.get? b=some o)(hf:∀b∈ch,wH X jNj H b):Inv X jNj σ H { s with heap:=h',toks:=t' }:=by
 have nit:∀b u,H b=some u->b∉ch:=fun b u e z=>by rw[(hf b z).1]at e;cases e
 refine I.step (g':=s.gens) (d':=s.drawn) (ch:=ch) (fun b hb=>?_) (fun b o _ _ hc e _=>k b o hc e) (fun b o _ _ hc e _=>⟨o.slots,k b o hc e⟩) (fun _ _ _ _ n=>n)
  (fun b o hc e=>⟨o,k b o hc e⟩) (fun _ _ e=>e) (fun _ _ _ e=>e) (fun b ps e=>⟨#[],by rw[e];simp⟩) (fun m hm=>?_) (fun b u e=>?_) I.bare
 ·obtain⟨f0,f1,f2,f3,f4,f5⟩:=hf b hb;exact⟨f3,f1,f4,f5⟩
 ·obtain⟨o,es,ep,ho,r⟩:=hm;exact⟨o,es,ep,k _ o (fun z=>(hf _ z).2.1 rfl) ho,r⟩
 ·refine (I.hok b u e).stay (fun c v hc q=>k c v ?_ q) (fun _ q=>q) fun _ _ q=>q;rcases hc with z|z
  ·rw[z];exact nit b u e
  ·exact nit c _ z
end
def Itz (K:jJa)(t1 t2:Bool)(a b:Addr):It:=
 ⟨fun i H=>∃xs ys x y,Sq t1 K H a xs/\Sq t2 K H b ys/\xs[i]?=some x/\ys[i]?=some y,
   fun i H v H'=>∃p x y,H p=none/\v=.ref p/\H'=upd H p (.tup [x,y])/\∀xs ys,Sq t1 K H a xs->Sq t2 K H b ys->xs[i]?=some x/\ys[i]?=some y,
   fun i H=>∃xs ys,Sq t1 K H a xs/\Sq t2 K H b ys/\(xs.length<=i\/ys.length<=i)⟩
def QU {P:jNe}{w:World}{K:jJa}{elts:List Expr}{x1:Nat}{tpos:Pos}{t1 t2:Bool}{z TI TO i1 i2 l1 l2:Addr}(D:ZipApart z TI TO i1 i2 l1 l2):
  Turn P w K (.Tuple elts x1 tpos) (Itz K t1 t2 l1 l2) [z,TI,TO,i1,i2] z (fun i h=>IsZip h z TI TO .none/\IsPair h TI (.ref i1) (.ref i2)/\(∃a b,IsPair h TO a b)/\IIt t1 h i1 l1 i/\IIt t2 h i2 l2 i) where
 mem:=by simp
 obj:=fun i h st b hb=>by
  obtain⟨s1,s2,⟨p,q,s3⟩,s4,s5⟩:=st;simp only[tK,sJ,or_false]at hb;rcases hb with rfl|rfl|rfl|rfl|rfl
  ·exact⟨_,s1,fun v z=>by cases z⟩
  ·exact⟨_,s2,fun v z=>by cases z⟩
  ·exact⟨_,s3,fun v z=>by cases z⟩
  ·obtain⟨o,vs,e,d⟩:=s4.obj;exact⟨o,e,fun v z=>by rw[d]at z;cases z⟩
  ·obtain⟨o,vs,e,d⟩:=s5.obj;exact⟨o,e,fun v z=>by rw[d]at z;cases z⟩
 keep:=fun i h h' st k=>by
  obtain⟨s1,s2,⟨p,q,s3⟩,s4,s5⟩:=st;exact⟨k _ (by simp) _ s1,k _ (by simp) _ s2,⟨p,q,k _ (by simp) _ s3⟩,s4.at fun o=>k _ (by simp) o,s5.at fun o=>k _ (by simp) o⟩
 item:=by
  intro X hP hw hK hc i jNj s σ H E I hf st hg;subst hP hw hK;obtain⟨s1,s2,s3,s4,s5⟩:=st;obtain⟨xs,ys,x,y,hq1,hq2,hx,hy⟩:=hg;obtain⟨its1,rv1,p1,hz1⟩:=I.sq hq1;obtain⟨its2,rv2,p2,hz2⟩:=I.sq hq2;obtain⟨u1,hu1,ru1⟩:=rv1.get hx;obtain⟨u2,hu2,ru2⟩:=rv2.get hy;have S1:=jL (P:=X.prog) (w:=X.w) (xs:=its1.toArray) t1 D.l1i1;have S2:=jL (P:=X.prog) (w:=X.w) (xs:=its2.toArray) t2 D.l2i2;have S:ZSt z TI TO i1 i2 (fun k h=>IIt t1 h i1 l1 k/\ISq t1 h l1 its1.toArray) (fun k h=>IIt t2 h i2 l2 k/\ISq t2 h l2 its2.toArray) .none i i s.heap:=⟨s1,s2,s3,⟨s4,p1⟩,⟨s5,p2⟩⟩
  have hT:s.TypeIs (.ref z) "zip":=⟨_,s1,rfl⟩
  unfold pyNext;refine jMf (wpAny_attempt (wpAny_callSpecial?_slot (name:=Str.ofString "__next__") hT F.slot_zip_next (jYk F.slot_zip_next hT F.entry_zip_next
   (Vn D S1 S2 S (x:=u1) (y:=u2) (by simpa using hu1) (by simpa using hu2) fun h1 T1 pr sz kp=>jMh ?_) (F.args_zip_next_1 _))))
  refine⟨_,rfl,wpAny_letOwnedTupleGo_zip T1.z fun h2 z2 sb2=>?_⟩;have sb2:Heap.SameBut z h1 h2:=sb2;have T2:=T1.setZ D S1 S2 sb2 z2;have nz:s.heap.objs.size≠z:=rY (jYc s1);have hfresh:H s.heap.objs.size=none:=I.hok.fresh (tI _);have keep2:∀b o,b∉[z,TI,TO,i1,i2]->s.heap.get? b=some o->h2.get? b=some o:=fun b o n q=>by
   simp only[tK,sJ,or_false,not_or]at n;exact sb2.extBut _ _ n.1 (kp b o n.1 n.2.2.1 n.2.2.2.1 n.2.2.2.2 q)
  have nF:∀b u,H b=some u->b∉[z,TI,TO,i1,i2]:=fun b u q m=>by rw[(hf b m).1]at q;cases q
  have htup:h2.get? s.heap.objs.size=some { cls:=.type "tuple",data:=.seq #[u1,u2] }:=sb2.extBut _ _ nz pr;have hok2:HOk X.prog X.w (upd H s.heap.objs.size (.tup [x,y])) h2:=fun b ob q=>by
   by_cases hb:b=s.heap.objs.size
   ·subst hb;rw[zG]at q;cases q;exact⟨by show 2<=jNb;decide,[u1,u2],.cons ru1 (.cons ru2 .nil),⟨_,htup,rfl,⟨rfl,rfl⟩,_,rfl⟩⟩
   ·rw[zC hb]at q;refine (I.hok b ob q).stay (fun c v hc r=>keep2 c v ?_ r) (fun c z=>?_) fun c ys z=>?_
    ·rcases hc with rfl|hc
     ·exact nF c _ q
     ·exact nF c _ hc
    ·rw[zC (zP z hfresh)];exact z
    ·rw[zC (zP z hfresh)];exact z
  have I2:Inv X jNj σ (upd H s.heap.objs.size (.tup [x,y])) { s with heap:=h2,gens:=s.gens,drawn:=s.drawn,toks:=s.toks }:=by
   refine I.step (ch:=[z,TI,TO,i1,i2]) (fun b hb=>?_) (fun b o _ _ hc q _=>keep2 b o hc q) (fun b o _ _ hc q _=>⟨o.slots,keep2 b o hc q⟩) (fun b o hc q n=>?_)
    (fun b o hc q=>⟨o,keep2 b o hc q⟩) (fun b ys z=>by rw[zC (zP z hfresh)];exact z) (fun b o v z=>by rw[zC (zP z hfresh)];exact z)
    (fun b ps z=>⟨#[],by rw[zC (zP z hfresh),z];simp⟩) (fun m hm=>?_) hok2 I.bare
   ·obtain⟨f0,f1,f2,f3,f4,f5⟩:=hf b hb;exact⟨f3,f1,f4,f5⟩
   ·rw[zC (tU (jYc q))];exact n
   ·obtain⟨o,es,ep,ho,r⟩:=hm;exact⟨o,es,ep,keep2 _ o (fun z=>(hf _ z).2.1 rfl) ho,r⟩
  refine⟨.ref s.heap.objs.size,_,I2,rfl,⟨s.heap.objs.size,x,y,hfresh,rfl,rfl,fun xs' ys' h1 h2=>by rw[I.sq_inj h1 hq1,I.sq_inj h2 hq2];exact⟨hx,hy⟩⟩,⟨T2.z,T2.ti,T2.to',T2.s1.1,T2.s2.1⟩,fun b hb=>?_⟩;have:∃o,s.heap.get? b=some o:=by
   simp only[tK,sJ,or_false]at hb;rcases hb with rfl|rfl|rfl|rfl|rfl
   ·exact⟨_,s1⟩
   ·exact⟨_,s2⟩
   ·obtain⟨_,_,s3⟩:=s3;exact⟨_,s3⟩
   ·obtain⟨o,_,e,_⟩:=s4.obj;exact⟨o,e⟩
   ·obtain⟨o,_,e,_⟩:=s5.obj;exact⟨o,e⟩
  obtain⟨o,e⟩:=this;rw[zC (tU (jYc e))];exact (hf b hb).1
 done:=by
  intro X hP hw hK hc i jNj s σ H E I hf st hg;subst hP hw hK;obtain⟨s1,s2,s3,s4,s5⟩:=st;obtain⟨xs,ys,hq1,hq2,hx⟩:=hg;obtain⟨its1,rv1,p1,hz1⟩:=I.sq hq1;obtain⟨its2,rv2,p2,hz2⟩:=I.sq hq2;have S1:=jL (P:=X.prog) (w:=X.w) (xs:=its1.toArray) t1 D.l1i1;have S2:=jL (P:=X.prog) (w:=X.w) (xs:=its2.toArray) t2 D.l2i2;have S:ZSt z TI TO i1 i2 (fun k h=>IIt t1 h i1 l1 k/\ISq t1 h l1 its1.toArray) (fun k h=>IIt t2 h i2 l2 k/\ISq t2 h l2 its2.toArray) .none i i s.heap:=⟨s1,s2,s3,⟨s4,p1⟩,⟨s5,p2⟩⟩
  have hT:s.TypeIs (.ref z) "zip":=⟨_,s1,rfl⟩
  have hl1:=rv1.length;have hl2:=rv2.length;have hend:its1.toArray[i]?=none\/its2.toArray[i]?=none:=by
   rcases hx with h|h
   ·exact .inl (by simp;omega)
   ·exact .inr (by simp;omega)
  unfold pyNext;refine jMf (wpAny_attempt (wpAny_callSpecial?_slot (name:=Str.ofString "__next__") hT F.slot_zip_next (jYk F.slot_zip_next hT F.entry_zip_next
   (UA (I.ok.hd hc) D S1 S2 S hend fun h' e kp he=>?_) (F.args_zip_next_1 _))))
  obtain⟨o,ho,hce⟩:=he;refine jMf (wpAny_isInstance (T:="StopIteration") (b:=true) ⟨o,ho,hce⟩ isSubtype_stop ?_);refine jMh ⟨rfl,I.turnedL (t':=s.toks) (ch:=[z,TI,TO,i1,i2]) (fun b o n q=>?_) hf⟩;simp only[tK,sJ,or_false,not_or]at n;exact kp b o n.1 n.2.2.1 n.2.2.2.1 n.2.2.2.2 q
 self:=fun A i s Q E st h=>wpAny_pyIter_zip st.1 h
section
def Kp (l1 l2:Addr)(xs ys:Array Value):
  Meets (Builtin.«zip.__new__» ⟨[.type "zip",.ref l1,.ref l2],[]⟩) (fun _ R s=>s.heap.IsTuple l1 xs/\s.heap.IsList l2 ys /\
   R (.ok (.ret (.ref (s.heap.objs.size+4)))) { s with heap:=((((s.heap.push { cls:=.type "tuple_iterator",data:=.fields #[.ref l1,.int 0 0] }).push { cls:=.type "list_iterator",data:=.fields #[.ref l2,.int 0 0] }).push { cls:=.type "tuple",data:=.seq #[.ref s.heap.objs.size,.ref (s.heap.objs.size+1)] }).push { cls:=.type "tuple",data:=.seq #[.none,.none] }).push { cls:=.type "zip",data:=.fields #[.none,.bool false,.bool false,.ref (s.heap.objs.size+2),.ref (s.heap.objs.size+3)] } }):=
 .of_wp fun prog w A R s h=>by
  obtain⟨hp,g,d,tk,os⟩:=s;obtain⟨hl1,hl2,h⟩:=h;have hsub:=sub_zip;have a1:Heap.IsTuple (Shared.heap ⟨hp,g,d,tk,os⟩) l1 xs:=hl1;have a2:Heap.IsList (Shared.heap ⟨hp.push { cls:=.type "tuple_iterator",data:=.fields #[.ref l1,.int 0 0] },g,d,tk,os⟩) l2 ys:=Heap.IsList.push hl2 _
  wp_walk using wpAny_pyIter_tuple a1,wpAny_pyIter_list a2
  have e1:(hp.push { cls:=.type "tuple_iterator",data:=.fields #[.ref l1,.int 0 0] }).objs.size=hp.objs.size+1:=Heap.size_push ..;refine⟨_,rfl,?_⟩;simp only[Heap.size_push]at h ⊢;exact h
def UO (hl1:s.heap.IsTuple l1 xs)(hl2:s.heap.IsList l2 ys)
  (h:∀h',IsZip h' (s.heap.objs.size+4) (s.heap.objs.size+2) (s.heap.objs.size+3) .none->IsPair h' (s.heap.objs.size+2) (.ref s.heap.objs.size) (.ref (s.heap.objs.size+1)) ->
   IsPair h' (s.heap.objs.size+3) .none .none->h'.IsTupleIter s.heap.objs.size l1 0->h'.IsListIter (s.heap.objs.size+1) l2 0->(∀c o,s.heap.get? c=some o->h'.get? c=some o)->Q (.ref (s.heap.objs.size+4)) { s with heap:=h' }):
  jNi (model prog w) A (call (.type "zip") [.ref l1,.ref l2]) Q E s:=by
 refine callType_new F.called_zip (by decide) (F.typeCall_zip_2 _ _) (F.newCall_zip_2 _ _) (fun obj=>F.args_object_init_3 obj _ _) F.entry_zip_new (Kp l1 l2 xs ys) ⟨hl1,hl2,?_⟩;have at':∀(h:Heap) (o:Obj) (n:Nat),h.objs.size=n->o.isFreed=false->(h.push o).get? n=some o:=fun h o n e f=>by subst e;exact jYd _ f
 have up:=fun (h:Heap) (o:Obj) (c:Addr) (p:Obj) (e:h.get? c=some p)=>jYb o e;have g5:=at' ((((s.heap.push { cls:=.type "tuple_iterator",data:=.fields #[.ref l1,.int 0 0] }).push { cls:=.type "list_iterator",data:=.fields #[.ref l2,.int 0 0] }).push { cls:=.type "tuple",data:=.seq #[.ref s.heap.objs.size,.ref (s.heap.objs.size+1)] }).push { cls:=.type "tuple",data:=.seq #[.none,.none] }) { cls:=.type "zip",data:=.fields #[.none,.bool false,.bool false,.ref (s.heap.objs.size+2),.ref (s.heap.objs.size+3)] } (s.heap.objs.size+4) (by simp only[Heap.size_push]) rfl;have g1:(_:Heap).get? s.heap.objs.size=some _:=up _ { cls:=.type "zip",data:=.fields #[.none,.bool false,.bool false,.ref (s.heap.objs.size+2),.ref (s.heap.objs.size+3)] } _ _ (up _ { cls:=.type "tuple",data:=.seq #[.none,.none] } _ _ (up _ { cls:=.type "tuple",data:=.seq #[.ref s.heap.objs.size,.ref (s.heap.objs.size+1)] } _ _ (up _ { cls:=.type "list_iterator",data:=.fields #[.ref l2,.int 0 0] } _ _ (at' s.heap { cls:=.type "tuple_iterator",data:=.fields #[.ref l1,.int 0 0] } _ rfl rfl))));have g2:(_:Heap).get? (s.heap.objs.size+1)=some _:=up _ { cls:=.type "zip",data:=.fields #[.none,.bool false,.bool false,.ref (s.heap.objs.size+2),.ref (s.heap.objs.size+3)] } _ _ (up _ { cls:=.type "tuple",data:=.seq #[.none,.none] } _ _ (up _ { cls:=.type "tuple",data:=.seq #[.ref s.heap.objs.size,.ref (s.heap.objs.size+1)] } _ _ (at' (s.heap.push { cls:=.type "tuple_iterator",data:=.fields #[.ref l1,.int 0 0] }) { cls:=.type "list_iterator",data:=.fields #[.ref l2,.int 0 0] } (s.heap.objs.size+1) (by simp only[Heap.size_push]) rfl)));refine⟨⟨_,g5,rfl⟩,h _ g5 ?_ ?_ ⟨_,g1,rfl,rfl⟩ ⟨_,g2,rfl,rfl⟩ fun c o x=>up _ _ _ _ (up _ _ _ _ (up _ _ _ _ (up _ _ _ _ (up _ _ _ _ x))))⟩
 ·exact up _ _ _ _ (up _ _ _ _ (at' _ _ _ (by simp only[Heap.size_push]) rfl))
 ·exact up _ _ _ _ (at' _ _ _ (by simp only[Heap.size_push]) rfl)
def UY {t:Bool}(hl1:ISq t s.heap l1 xs)(hl2:s.heap.IsList l2 ys)
  (h:∀h',IsZip h' (s.heap.objs.size+4) (s.heap.objs.size+2) (s.heap.objs.size+3) .none->IsPair h' (s.heap.objs.size+2) (.ref s.heap.objs.size) (.ref (s.heap.objs.size+1)) ->
   IsPair h' (s.heap.objs.size+3) .none .none->IIt t h' s.heap.objs.size l1 0->IIt false h' (s.heap.objs.size+1) l2 0->(∀c o,s.heap.get? c=some o->h'.get? c=some o)->Q (.ref (s.heap.objs.size+4)) { s with heap:=h' }):
  jNi (model prog w) A (call (.type "zip") [.ref l1,.ref l2]) Q E s:=by
 cases t
 ·exact call_zip_2 hl1 hl2 fun h' a b c d e _ f=>h h' a b c d e f
 ·exact UO hl1 hl2 fun h' a b c d e f=>h h' a b c d e f
end
def z3N (K:jJa)(t:Bool)(ta:TA):TI:=fun σ H R=>ta σ H fun vs H1=>∃a b xs ys,vs=[.ref a,.ref b]/\Sq t K H1 a xs/\SqL K H1 b ys/\R (Itz K t false a b) H1
section
def QI {p pos tpos:Pos}{elts:List Expr}{x1:Nat}(t:Bool)(hg:Gl X "zip")(hm:X.mg "zip"=none)(ha:PA X [a,b] ta)(hb:autoParam (jKk "zip"=some (.type "zip")) au3._auto_1)(hs:autoParam (jNc [a,b] X.env=[(false,eval a X.env),(false,eval b X.env)]) au3._auto_1)(hs2:autoParam (jNc [b] X.env=[(false,eval b X.env)]) au3._auto_1):
  PI X (.Tuple elts x1 tpos) (.Call (.Name "zip" p) [a,b] [] pos) (z3N X.K t ta):=by
 intro jNj s σ H R I h;refine Call_ (vE I hg hm hb (PyProof.Rows.callWith_type1 (thn (ha pos jNj s σ H _ I h) fun us s1 ⟨vs,H1,I1,r1,q1⟩=>?_) (by rw[hs,hs2]) (by rw[hs2];rfl)));obtain⟨a,b,xs,ys,e,h1,h2,q⟩:=q1;subst e;cases r1 with
 | cons r rr =>
  cases rr with
  | cons r' rr =>
   cases rr;cases r;cases r';obtain⟨its1,rv1,p1,_⟩:=I1.sq h1;obtain⟨its2,rv2,p2,_⟩:=I1.list h2;have n1:a<s1.heap.objs.size:=by
    cases t
    ·obtain⟨o,e,_⟩:=(show s1.heap.IsList a _ from p1);exact jYc e
    ·obtain⟨o,e,_⟩:=(show s1.heap.IsTuple a _ from p1);exact jYc e
   have n2:b<s1.heap.objs.size:=by
    obtain⟨o,e,_⟩:=p2.isList;exact jYc e
   refine UY p1 p2.isList fun h' c1 c2 c3 c4 c5 kp=>?_;refine wpAny_pyIter_zip c1 ?_;have I2:Inv X jNj σ H1 { s1 with heap:=h',toks:=s1.toks }:=I1.kept kp;refine⟨s1.heap.objs.size+4,[s1.heap.objs.size+4,s1.heap.objs.size+2,s1.heap.objs.size+3,s1.heap.objs.size,s1.heap.objs.size+1],_,_,H1,rfl,I2,QU (zipApart_new n1 n2),⟨c1,c2,⟨_,_,c3⟩,c4,c5⟩,fun x hx=>?_,q⟩;simp only[tK,sJ,or_false]at hx;have hle:s1.heap.objs.size<=x:=by rcases hx with rfl|rfl|rfl|rfl|rfl<;>first|exact tI _|exact Nat.le_add_right _ _
   exact I1.fpOk hle (I1.hok.fresh hle)
end
noncomputable def uG (ds es:List D):List D:=(ds.zip es).map fun p=>.tup [p.1,p.2]
def ZN {i:Nat}(h:(uG ds es)[i]?=some d):∃x y,ds[i]?=some x/\es[i]?=some y/\d=.tup [x,y]:=by
 unfold uG at h;rw[tN]at h;cases hz:(ds.zip es)[i]? with
 | none=>rw[hz]at h;cases h
 | some p =>
  rw[hz]at h;obtain⟨h1,h2⟩:=List.getElem?_zip_eq_some.mp hz;exact⟨p.1,p.2,h1,h2,(jYe h).symm⟩
def Uo (ds es:List D):(uG ds es).length=min ds.length es.length:=by unfold uG;rw[tH,List.length_zip]
theorem ItOk.zip {K:jJa}{H:Hp}{t:Bool}{a b:Addr}{vs ws:List V}{ds es:List D}{L1 L1' L2 L2':List Addr}(ha:∀H',TF H H'->(∀c∈L1,H' c=H c)->Sq t K H' a vs)(h1:Reps K H ds vs L1')(s1:∀c∈L1',c∈L1)(d1:∀c∈L1,H c≠none)(hb:H b=some (.lst ws))(e2:L2=b::L2')(h2:Reps K H es ws L2'):
  ItOk K (Itz K t false a b) (uG ds es) (L1++L2) H:=by
 subst e2;refine⟨fun c hc=>?_,fun H' tf kp i=>⟨fun d hd=>?_,fun hl=>?_⟩⟩
 ·rcases tS.mp hc with z|z
  ·exact d1 c z
  ·rcases tK.mp z with z|z
   ·rw[z,hb];simp
   ·exact h2.there z
 ·have ha':=ha H' tf fun c hc=>kp c (tL _ hc);have hb':H' b=some (.lst ws):=(kp b (tD _ tE)).trans hb;obtain⟨x,y,hx,hy,rfl⟩:=ZN hd;obtain⟨v,M1,e1,r1,u1⟩:=h1.get hx;obtain⟨w,M2,e2,r2,u2⟩:=h2.get hy;refine⟨⟨vs,ws,v,w,ha',SqL.of hb',e1,e2⟩,fun z H'' ⟨p,x',y',hp,z1,z2,hq⟩=>?_⟩;subst z1 z2;obtain⟨q1,q2⟩:=hq vs ws ha' (SqL.of hb');rw[e1]at q1;cases q1;rw[e2]at q2;cases q2;have r1':Rep K H' x v M1:=Rep.keep tf x _ M1 r1 fun c hc=>kp c (tL _ (s1 c (u1.subset hc)));have r2':Rep K H' y w M2:=Rep.keep tf y _ M2 r2 fun c hc=>kp c (tD _ (tF _ (u2.subset hc)));refine⟨Same.new hp,M1++(M2++[]),⟨p,_,rfl,SqT.of zG,?_⟩,fun c hc=>?_⟩
  ·exact Reps.cons (r1'.same (Same.new hp)) (Reps.cons (r2'.same (Same.new hp)) Reps.nil)
  ·rw[tQ]at hc;rcases tS.mp hc with z|z
   ·exact tL _ (s1 c (u1.subset z))
   ·exact tD _ (tF _ (u2.subset z))
 ·have ha':=ha H' tf fun c hc=>kp c (tL _ hc);have hb':H' b=some (.lst ws):=(kp b (tD _ tE)).trans hb;rw[Uo]at hl;have k1:=h1.length;have k2:=h2.length;refine⟨vs,ws,ha',SqL.of hb',?_⟩
  by_cases hc:vs.length<=i
  ·exact .inl hc
  ·exact .inr (by omega)
noncomputable def KA:List D->R (List D)
 | [.lst ds,.lst es]=>.ok (uG ds es)
 | [.tup ds,.lst es]=>.ok (uG ds es)
 | _=>.bad
section
def JZ {a b:Expr}{elts:List Expr}{x1:Nat}{tpos:Pos}(hg:Gl X "zip")(hm:X.mg "zip"=none)(ha:MA X E Γ [a,b] u c)(hb:autoParam (jKk "zip"=some (.type "zip")) au3._auto_1)(hs:autoParam (jNc [a,b] X.env=[(false,eval a X.env),(false,eval b X.env)]) au3._auto_1)(hs2:autoParam (jNc [b] X.env=[(false,eval b X.env)]) au3._auto_1):
  MI X E Γ (.Tuple elts x1 tpos) (.Call (.Name "zip" p) [a,b] [] pos) (iL KA u) c:=by
 obtain⟨_,ta,p',q⟩:=ha;refine⟨fun σ H Rr=>z3N X.K false ta σ H Rr\/z3N X.K true ta σ H Rr,fun jNj s σ H Rr I z=>?_,fun O σ H τ Rr ok h=>?_⟩
 ·rcases z with z|z
  ·exact QI false hg hm p' hb hs hs2 jNj s σ H Rr I z
  ·exact QI true hg hm p' hb hs hs2 jNj s σ H Rr I z
 ·unfold iL at h;cases ht:u τ with
  | ok ds =>
   rw[ht,jYa]at h;unfold KA at h;split at h
   ·rename_i ds es;refine .inl (q O σ H τ _ ok ?_);rw[ht];refine fun vs H1 L s r k=>?_;obtain⟨v,vs',L1,L2,e1,e2,r1,v2,vs2,L3,L4,e3,e4,r2,r3⟩:=r;obtain⟨rfl,rfl⟩:=r3;rw[tQ]at e4;subst e4 e3;obtain⟨a',xs,L1',rfl,ha,ea,rs1⟩:=r1;obtain⟨b',ys,L2',rfl,hb2,eb,rs2⟩:=r2;subst e2;refine⟨a',b',xs,ys,e1,SqL.of ha,SqL.of hb2,h _ H1 _ s (ItOk.zip (t:=false) (fun H' tf kp=>?_) rs1 (fun c hc=>by rw[ea];exact tF _ hc) (fun c hc=>?_) hb2 eb rs2) fun n=>k.shr ok.dom n⟩
    ·exact SqL.of ((kp a' (by rw[ea];exact tE)).trans ha)
    ·rw[ea]at hc;rcases tK.mp hc with z|z
     ·rw[z,ha];simp
     ·exact rs1.there z
   ·rename_i ds es;refine .inr (q O σ H τ _ ok ?_);rw[ht];refine fun vs H1 L s r k=>?_;obtain⟨v,vs',L1,L2,e1,e2,r1,v2,vs2,L3,L4,e3,e4,r2,r3⟩:=r;obtain⟨rfl,rfl⟩:=r3;rw[tQ]at e4;subst e4 e3;obtain⟨a',xs,rfl,ha,rs1⟩:=r1;obtain⟨b',ys,L2',rfl,hb2,eb,rs2⟩:=r2;subst e2;exact⟨a',b',xs,ys,e1,ha,SqL.of hb2,h _ H1 _ s (ItOk.zip (t:=true) (fun H' tf kp=>ha.tf tf) rs1 (fun c hc=>hc) (fun c hc=>rs1.there hc) hb2 eb rs2) fun n=>k.shr ok.dom n⟩
   ·exact h.elim
  | err n=>rw[ht]at h;exact .inl (q O σ H τ _ ok (by rw[ht];exact h))
  | bad=>rw[ht]at h;exact h.elim
end
section
variable {prog:jNe}{w:World}{A:jNf}{E:Value->jNg->Prop}{s:jNg}
def uu {lo hi:Option Int}(ht:IsTup s.heap t items)(hs:s.heap.IsSliceOf sl vl vu .none)(pl:IsPart vl lo)(pu:IsPart vu hi)
  (hw:HT.sIx items.size 0 lo=0/\HT.sIx items.size items.size hi=items.size) (h:Q (.ref t) s):jNi (model prog w) A (getItem (.ref t) (.ref sl)) Q E s:=by
 obtain⟨os,hos,hcs,hds⟩:=id hs;have hTs:s.TypeIs (.ref sl) "slice":=⟨os,hos,hcs⟩
 unfold getItem
 try with_reducible refine jKi ?_
 first|refine jMf (jMh ?_)|skip
 refine jMf (wpAny_sequenceKey ht.typeIs (by decide) ?_);refine jMf (wpAny_callSpecial?_slot (name:=Str.ofString "__getitem__") ht.typeIs PyProof.Rows.slot_tuple_getitem (jYk PyProof.Rows.slot_tuple_getitem ht.typeIs entry_tuple_getitem ?_ (args_tuple_getitem _ _)));show jNi _ _ (Builtin.Tuple.tupleItemsOf (.ref t) >>= _) _ _ s;refine jMf (tupleItemsOf_ ht ?_);refine jMf (wpAny_typeOf hTs ?_);rw[jNk (by decide)];refine jMf (HT.sliceApplied_gen hs pl pu ?_);have hyes:(((HT.sIx items.size 0 lo:Nat):Int)==0&&(1:Int)==1&&(HT.sIx items.size items.size hi-HT.sIx items.size 0 lo)==items.size)=true:=by
  rw[hw.1,hw.2];simp
 show jNi _ _ (if (((HT.sIx items.size 0 lo:Nat):Int)==0&&(1:Int)==1&&(HT.sIx items.size items.size hi-HT.sIx items.size 0 lo)==items.size)=true then _ else _) _ _ s;rw[jNk hyes];refine jMf (m:=Builtin.Tuple.tupleIsExact _) ?_;unfold Builtin.Tuple.tupleIsExact;refine jMf (wpAny_typeOf ht.typeIs (jMh ?_));rw[jNk (by decide)];exact jMf (wpAny_rule (jMh ⟨_,rfl,jMh h⟩))
end
def z6R (K:jJa):V->Option Int->Option Int->Hp->VK->Prop:=fun x lo hi H Q=>∃a xs,x=.ref a/\SqT K H a xs/\((HT.sIx xs.length 0 lo=0/\HT.sIx xs.length xs.length hi=xs.length)->Q (.ref a) H) /\
 (¬(HT.sIx xs.length 0 lo=0/\HT.sIx xs.length xs.length hi=xs.length)->∀p,H p=none->Q (.ref p) (upd H p (.tup (Yx xs lo hi))))
def z1c:SlR X (z6R X.K):=by
 intro jNj s σ H x v vl vu lo hi sl Q I rx hs pl pu h;obtain⟨a,xs,rfl,hx,q1,q2⟩:=h
 by_cases hw:HT.sIx xs.length 0 lo=0/\HT.sIx xs.length xs.length hi=xs.length
 ·cases rx;obtain⟨its,r,ht,hz⟩:=I.tuple hx;have hlen:its.toArray.size=xs.length:=by rw[tM];exact r.length.symm
  exact⟨"tuple",_,PyProof.Rows.slot_tuple_getitem.lookup,ht.typeIs,uu ht hs pl pu (by rw[hlen];exact hw) ⟨.ref a,H,I,rfl,q1 hw⟩⟩
 ·exact K7 jNj s σ H _ v vl vu lo hi sl Q I rx hs pl pu ⟨a,xs,rfl,hx,hw,q2 hw⟩
def Vh {α:Type}(xs:List α){lo hi:Option Int}(h:HT.sIx xs.length 0 lo=0/\HT.sIx xs.length xs.length hi=xs.length):xw xs lo hi=xs:=by
 unfold xw;rw[h.1,h.2,List.drop_zero,Nat.sub_zero,List.take_length]
noncomputable def slA (x:D)(lo hi:Option Int):R D:=match x with
 | .lst ds=>if D.imms ds=true then .ok (.lst (xw ds lo hi)) else .bad
 | .str z=>if z.length<=jNb then .ok (.str (Txt.slice z lo hi)) else .bad
 | .tup ds=>if D.imms ds=true then .ok (.tup (xw ds lo hi)) else .bad
 | _=>.bad
def z0X (t:Tn->R D)(tl th:Tn->R (Option Int)):Tn->R D:=fun τ=>(t τ).bind fun x=>(tl τ).bind fun l=>(th τ).bind fun h=>slA x l h
section
variable {X:Cx}{E:XK}{Γ:List Cl}{e:Expr}{t:Tn->R D}{c:Rc}{p2 pos:Pos}
def z3F {lo hi:Option Expr}{tl th:Tn->R (Option Int)}(he:ME X E Γ e t c)(hl:MO X E Γ lo tl)(hh:MO X E Γ hi th):ME X E Γ (.Subscript e (.Slice lo hi none p2) pos) (z0X t tl th) .fresh:=by
 obtain⟨te,p,q⟩:=he;obtain⟨tl',pl,ql⟩:=hl;obtain⟨th',ph,qh⟩:=hh;refine⟨_,Wk (SlR.or Ud (SlR.or JE z1c)) p pl ph,fun O σ H τ Q ok h=>?_⟩;unfold z0X at h;refine q O σ H τ _ ok (post.bind h fun dx hx h x H1 Lx s1 rx kx=>ql O σ H1 τ _ (ok.same s1) ?_);cases h1:tl τ with
 | err n=>rw[h1]at h;exact fun C H' e s'=>h C H' e (s1.trans s')
 | bad=>rw[h1]at h;exact h
 | ok l =>
  rw[h1,jYa]at h;refine fun H2 s2=>qh O σ H2 τ _ ((ok.same s1).same s2) ?_;cases h2:th τ with
  | err n=>rw[h2]at h;exact fun C H' e s'=>h C H' e ((s1.trans s2).trans s')
  | bad=>rw[h2]at h;exact h
  | ok g =>
   rw[h2,jYa]at h;refine fun H3 s3=>?_;have s03:=(s1.trans s2).trans s3;have rx:=(rx.same s2).same s3;unfold slA at h;cases dx with
   | lst ds =>
    dsimp only at h
    by_cases hz:D.imms ds=true
    ·rw[jNk hz]at h;obtain⟨a,vs,L',rfl,ha,_,rs⟩:=rx;obtain⟨L2,rc,_⟩:=(yh rs hz).cut l g;have e0:L2=[]:=pK.mp ‹_›;subst e0;refine .inl ⟨a,vs,rfl,SqL.of ha,fun p hp=>uj rc hp fun v H' L s r n1 n2=>h v H' L (s03.trans s) r ⟨n1,fun a ha=>s03.non (n2 a ha)⟩⟩
    ·rw[jPa hz]at h;exact h.elim
   | str z =>
    dsimp only at h
    by_cases hz:z.length<=jNb
    ·rw[jNk hz]at h;exact .inr (.inl ⟨z,rx.1,hz,h _ H3 [] s03 ⟨rfl,rfl⟩ RcOk.nil⟩)
    ·rw[jPa hz]at h;exact h.elim
   | tup ds =>
    dsimp only at h
    by_cases hz:D.imms ds=true
    ·rw[jNk hz]at h;obtain⟨a,vs,rfl,ha,rs⟩:=rx;have rs0:=yh rs hz;obtain⟨L2,rc,_⟩:=rs0.cut l g;have e0:L2=[]:=pK.mp ‹_›;subst e0;refine .inr (.inr ⟨a,vs,rfl,ha,fun hw=>?_,fun hw p hp=>h _ _ [] (s03.trans (Same.new hp)) ⟨p,_,rfl,SqT.of zG,rc.same (Same.new hp)⟩ RcOk.nil⟩);rw[rs.length]at hw;rw[Vh ds hw]at h;exact h _ H3 [] s03 ⟨a,vs,rfl,ha,rs0⟩ RcOk.nil
    ·rw[jPa hz]at h;exact h.elim
   | _=>exact h.elim
end
def KY (x:Str)(u:Tn->R (List D)):Tn->R Fl:=fun τ=>(u τ).bind fun ds=>if ds.length<=jNb then .err x else .bad
def QY {P:jNe}{w:World}{K:jJa}{mg:Str->Option Value}{base:Heap}{N:List Str}{qual:Str}{scope:Scope}{f:Addr}{cd:Value}{A:jNf}{outer:List Env}{s:jNg}{H:Hp}{E:XK}{Γ Γl Γ':List Cl}
  {x:Str} {C:Addr} {e₀:Expr} {u:Tn->R (List D)} {c:Rc} {np cpos pos:Pos} (hc:ErrC K x C) (hg:Gl (yZ (cxx P w) P w K mg base N qual scope f cd A outer s H E) x)
  (ha:MA (yZ (cxx P w) P w K mg base N qual scope f cd A outer s H E) E Γ [e₀] u c) (hd:autoParam ((x==("__debug__":Str))=false) au1._auto_1)
  (he:autoParam (jNc [e₀] (envOfC qual scope s.heap.objs.size f cd)=(false,eval e₀ (envOfC qual scope s.heap.objs.size f cd))::jNc [] (envOfC qual scope s.heap.objs.size f cd)) au3._auto_1):
  MS (yZ (cxx P w) P w K mg base N qual scope f cd A outer s H E) E Γl Γ (.Raise (some (.Call (.Name x np) [e₀] [] cpos)) none pos) (KY x u) Γ':=by
 obtain⟨_,ta,pa,q⟩:=ha;refine⟨JD C E ta,fun jNj s1 σ H1 D I h=>Ko (A:=A) (show A.handled=none from I.ok.hd rfl) hc hg pa hd he rfl jNj s1 σ H1 D I h,fun B σ H1 τ Z ok h=>?_⟩;obtain⟨O,eok,_⟩:=ok.eok;refine q O σ H1 τ _ eok ?_;unfold KY at h;cases hu:u τ with
 | ok ds =>
  rw[hu,jYa]at h;refine fun vs H' L s r _=>?_
  by_cases hz:ds.length<=jNb
  ·rw[jNk hz]at h;exact⟨by rw[r.length];exact hz,h C H' hc (ok.ext.trans s)⟩
  ·rw[jPa hz]at h;exact h.elim
 | err n=>rw[hu]at h;exact fun C' H' e s=>h C' H' e (ok.ext.trans s)
 | bad=>rw[hu]at h;exact h.elim
def Suite (X:Cx)(CS:Addr)(i:Nat)(sts:List Stmt)(g:Str->Option D):Prop:=∀(m:Str) (d:D),g m=some d->∀C,ErrC X.K m C->jJd X.K (.ref C) (.ref CS)=some true /\
 ∃ts:Addr->Obj->TS,(∀e oe,PSs (X.within e oe) sts (ts e oe))/\∀e oe (Z:Ends) (σ:St) (H:Hp),σ.length=X.N.length->oe.cls=.ref C->H e=none->σ[i]?=some (some (.ref e))->(∀v H',Same H H'->Rep X.K H' d v []->Z.rt v H')->ts e oe Z σ H
def Suite.ts {X:Cx}{CS:Addr}{i:Nat}{sts:List Stmt}{g:Str->Option D}(hs:Suite X CS i sts g)(e:Addr)(oe:Obj):TS:=fun Z σ H=>∃(m:Str) (d:L2.D) (hg:g m=some d) (C:Addr) (hC:ErrC X.K m C),Classical.choose (hs m d hg C hC).2 e oe Z σ H
def UD {P:jNe}{w:World}{K:jJa}{mg:Str->Option Value}{base:Heap}{N:List Str}{qual:Str}{scope:Scope}{f:Addr}{cd:Value}{A:jNf}{outer:List Env}{s:jNg}{H:Hp}{E:XK}{Γ Γl Γ':List Cl}
  {x:Str} {e₀:Expr} {u:Tn->R (List D)} {c:Rc} {np cpos pos:Pos} (hc:∃C,ErrC K x C) (hg:Gl (yZ (cxx P w) P w K mg base N qual scope f cd A outer s H E) x)
  (ha:MA (yZ (cxx P w) P w K mg base N qual scope f cd A outer s H E) E Γ [e₀] u c) (hd:autoParam ((x==("__debug__":Str))=false) au1._auto_1)
  (he:autoParam (jNc [e₀] (envOfC qual scope s.heap.objs.size f cd)=(false,eval e₀ (envOfC qual scope s.heap.objs.size f cd))::jNc [] (envOfC qual scope s.heap.objs.size f cd)) au3._auto_1):
  MS (yZ (cxx P w) P w K mg base N qual scope f cd A outer s H E) E Γl Γ (.Raise (some (.Call (.Name x np) [e₀] [] cpos)) none pos) (KY x u) Γ':=by
 obtain⟨C,hc⟩:=hc;exact QY hc hg ha hd he
structure CompScopeC (X:Cx)(xc:Str)(N':List Str)(fr:List (Option Nat))(scope:Scope):Prop where
 kind:scope.kind=.function
 one:∃pre post,scope.names=pre++(xc,NameKind.cell)::post/\∀y∈pre++post,y.2≠.cell
 nox:∀y∈scope.names,y.1=xc->y.2=.cell
 loc:∀y∈scope.names,y.2=.local->scope.names.lookup y.1=some .local
 free:∀y∈scope.names,y.2=.free->∃c,X.env.cells.lookup y.1=some c
 len:fr.length=N'.length
 fre:∀(j i:Nat) (x:Str),fr[j]?=some (some i)->N'[j]?=some x->X.N[i]?=some x/\scope.names.lookup x=some .free/\(X.env.kindOf x=some .cell\/X.env.kindOf x=some .free)
noncomputable def y3 (X:Cx)(scope:Scope)(xc:Str)(N':List Str)(s₃:jNg)(H₃:Hp)(fp:List Addr)(jNj:List (Addr×Obj)):Cx:=
 { X with N:=N',s₀:=s₃,H₀:=H₃,env:=compEnvC scope ((xc,s₃.heap.objs.size+1)::xa X.env.cells scope.names []) s₃.heap.objs.size X.env,outer:=X.stack,stack:=X.stack,ex:=fp,fn:=fun y=>y==xc,pn:=X.pn++jNj,xe:=fun _ _=>False }
theorem Zh {α β:Type}{f:α->β->Sem (ForInStep β)}{l':List α}:∀ {l:List α} (c:β),(∀x∈l,∀c,f x c=pure (.yield c))->forIn (l++l') c f=forIn l' c f
 | [],_,_=>rfl
 | x::l,c,h=>by
  rw[List.cons_append,rQ,h x tE,pure_bind];exact Zh c fun y hy=>h y (tF _ hy)
def z0y {M:Model}{A:jNf}{E:Value->jNg->Prop}{s:jNg}{scope:Scope}{globals:Addr}{closure:List (Str×Addr)}{qual:Str}{func:Option Addr}{code:Value}{outer:Env}{builtins:Addr}{Q:Env->jNg->Prop}{xc:Str}{pre post:List (Str×NameKind)}
  (hn:scope.names=pre++(xc,NameKind.cell)::post) (hc:∀y∈pre++post,y.2≠.cell)
  (hQ:Q { scope,locals:=s.heap.objs.size,globals,cells:=(xc,s.heap.objs.size+1)::closure,qual,func,code:=outer.code,frame:=outer.frame,builtins:=outer.builtins } { s with heap:=(s.heap.push { cls:=.type "dict",data:=.dict #[] }).push { cls:=.type "cell",data:=.cell none } }):
  jNi M A (newFunctionEnv scope globals closure [] qual func code (some outer) builtins) Q E s:=by
 simp only[newFunctionEnv,Option.isSome_some,if_true];refine jMf (wpAny_alloc ?_);rw[hn,Zh closure (fun x hx c=>by
  obtain⟨name,kind⟩:=x;have:(kind==NameKind.cell)=false:=by simpa using hc _ (tL _ hx)
  simp only[this,pB,if_false]),rQ]
 have hz:(s.heap.push { cls:=.type "dict",data:=.dict #[] }).objs.size=s.heap.objs.size+1:=Heap.size_push ..;have e0:(NameKind.cell==NameKind.cell)=true:=rfl;simp only[e0,if_true];refine jMf (jMf (jMf (wpAny_alloc (jMh ?_))));dsimp only;rw[forIn_yield_id _ (fun x hx c=>by
  obtain⟨name,kind⟩:=x;have:(kind==NameKind.cell)=false:=by simpa using hc _ (tD _ hx)
  simp only[this,pB,if_false])]
 refine jMh ?_;rw[List.forIn_nil,pure_bind];refine jMh ?_;rw[hz];exact hQ
section
variable {fr:List (Option Nat)}
def yN (S:CompScopeC X xc N' fr scope){c0 c:Addr}{x:Str}(h:((xc,c0)::xa X.env.cells scope.names []).lookup x=some c):(x=xc/\c=c0)\/(x≠xc/\X.env.cells.lookup x=some c):=by
 rw[tT]at h
 by_cases hx:(x==xc)=true
 ·rw[hx]at h;exact .inl ⟨eq_of_beq hx,(jYe h).symm⟩
 ·have hx':(x==xc)=false:=by simpa using hx
  rw[hx']at h;refine .inr ⟨fun z=>hx (by rw[z];simp),?_⟩;rcases vB h with z|⟨z,e⟩
  ·cases z
  ·obtain⟨c',hc⟩:=S.free _ z rfl;have hc:X.env.cells.lookup x=some c':=hc;rw[hc]at e;rw[hc,e];rfl
def VE (I:Inv X jNj σ H s){x:Str}{c:Addr}(h:X.env.cells.lookup x=some c):c<s.heap.objs.size:=by
 obtain⟨v,o,ho,_⟩:=I.cell x c h;exact jYc ho
def JG (I:Inv X jNj σ H s)(S:CompScopeC X xc N' fr scope)(hf:∀b∈fp,wH X jNj H b)(hlt:∀b∈fp,b<s.heap.objs.size):(y3 X scope xc N' s H fp jNj).Ok:=by
 refine⟨I.ok.mod,S.kind,I.ok.glob,I.ok.blt,tI _,fun x y c h1 h2=>?_,fun x hx=>?_,fun x c hx h=>?_,I.ok.hd,I.ok.frames,.inl rfl,fun b hb=>⟨tU (hlt b hb),fun x c h=>?_⟩,
  I.bs,sE I.ok.bsz I.sz,fun b o e hb=>?_,fun b hb hm=>?_,I.stack,I.stkFree⟩
 ·rcases yN S h1 with⟨a1,a2⟩|⟨a1,a2⟩<;>rcases yN S h2 with⟨b1,b2⟩|⟨b1,b2⟩
  ·rw[a1,b1]
  ·rw[a2]at b2;exact absurd (VE I b2) (Nat.not_lt.mpr (pG _))
  ·rw[b2]at a2;exact absurd (VE I a2) (Nat.not_lt.mpr (pG _))
  ·exact I.ok.inj x y c a2 b2
 ·have hx:(relabel scope X.env).names.lookup x=some .cell\/(relabel scope X.env).names.lookup x=some .free:=hx
  by_cases hxc:x=xc
  ·exact⟨s.heap.objs.size+1,by rw[hxc];show ((xc,s.heap.objs.size+1)::_).lookup xc=_;rw[tT];simp⟩
  have key:scope.names.lookup x=some .free:=by
   rcases hx with h|h
   ·obtain⟨k',e1,e2⟩:=zQ h;rcases e2 with z|⟨z,_⟩
    ·exfalso;have hm:=PySem.mem_of_lookup e1;obtain⟨pre,post,hn,hc⟩:=S.one;rw[hn]at hm;rcases tS.mp hm with q|q
     ·exact hc _ (tL _ q) z.symm
     ·rcases tK.mp q with q|q
      ·exact hxc (by injection q)
      ·exact hc _ (tD _ q) z.symm
    ·rw[e1,z]
   ·obtain⟨k',e1,e2⟩:=zQ h;rcases e2 with z|⟨_,z⟩
    ·rw[e1,<-z]
    ·cases z
  obtain⟨c,hc⟩:=xV (cells:=X.env.cells) (names:=scope.names) (acc:=[]) (.inl (PySem.mem_of_lookup key));refine⟨c,?_⟩;show ((xc,s.heap.objs.size+1)::_).lookup x=_;rw[tT,show (x==xc)=false by simpa using hxc];exact hc
 ·have hx:(x==xc)=true:=hx;have hx:=eq_of_beq hx;rcases yN S h with⟨_,z⟩|⟨z,_⟩
  ·rw[z];exact pG _
  ·exact absurd hx z
 ·rcases yN S h with⟨_,z⟩|⟨_,z⟩
  ·rw[z];exact rY (sX (hlt b hb))
  ·exact (hf b hb).2.2.2.2.1 x c z
 ·rcases (hf b hb).2.2.2.1 with z|z
  ·exact I.ok.noex b o e z
  ·exact absurd (sC (jYc e) (sE I.ok.bsz z)) (sW _)
 ·rcases tK.mp (I.stkSub b hm)with z|z
  ·exact (hf b hb).2.1 z
  ·exact (hf b hb).2.2.1 z
def Qv {tk:Nat}(I:Inv X jNj σ H s)(S:CompScopeC X xc N' fr scope)(hf:∀b∈fp,wH X jNj H b)(hlt:∀b∈fp,b<s.heap.objs.size)(hn:h'.Ns s.heap.objs.size m)
  (hk:∀b o,s.heap.get? b=some o->h'.get? b=some o) (hcl:h'.IsCell (s.heap.objs.size+1) none):Inv (y3 X scope xc N' s H fp jNj) [] (xt fr σ) H { s with heap:=h',toks:=tk }:=by
 refine⟨JG I S hf hlt,rfl,I.bare,Un.kept hk,⟨m,hn,fun j x v e1 e2 e3=>?_⟩,fun x c h=>?_,I.hok.fresh (tI _),fun x c h=>by
  rcases yN S h with⟨_,z⟩|⟨_,z⟩
  ·rw[z];exact I.hok.fresh (pG _)
  ·exact I.freeC x c z,fun p hp=>?_,I.hok.kept hk,by unfold xt;rw[tH];exact S.len⟩
 ·have e1:N'[j]?=some x:=e1;unfold xt at e2;rw[tN]at e2;cases hj:fr[j]? with
  | none=>rw[hj]at e2;cases e2
  | some o =>
   rw[hj]at e2;cases o with
   | none=>cases e2
   | some i =>
    have e2:(σ[i]?).join=some v:=jYe e2;have e2':σ[i]?=some (some v):=by
     cases hq:σ[i]? with
     | none=>rw[hq]at e2;cases e2
     | some w=>rw[hq]at e2;rw[show w=some v from e2]
    obtain⟨n1,n2,n3⟩:=S.fre j i x hj e1;obtain⟨m0,hn0,hl⟩:=I.loc;have hvis:Vis X.env.scope x:=by
     rcases n3 with z|z
     ·exact .inr (.inl z)
     ·exact .inr (.inr z)
    obtain⟨u,r,l⟩:=hl i x v n1 e2' hvis;refine⟨u,r,.inr ⟨?_,?_⟩⟩
    ·have hh:∀ {names:List (Str×NameKind)},names.lookup x=some .free->(names.map fun (n,k)=>if (k==NameKind.free&&X.env.scope.kind==.function&&X.env.kindOf n==some .cell) then (n,NameKind.cell) else (n,k)).lookup x=some .cell \/
       (names.map fun (n,k)=>if (k==NameKind.free&&X.env.scope.kind==.function&&X.env.kindOf n==some .cell) then (n,NameKind.cell) else (n,k)).lookup x=some .free:=by
      intro names
      induction names with
      | nil=>intro z;cases z
      | cons y r ih =>
       obtain⟨n,k⟩:=y;intro z;rw[tO];dsimp only
       by_cases hx:(x==n)=true
       ·rw[tT,hx]at z
        by_cases hc:(k==NameKind.free&&X.env.scope.kind==.function&&X.env.kindOf n==some .cell)=true
        ·rw[jNk hc];exact .inl (by rw[tT,hx])
        ·rw[jPa hc];exact .inr (by rw[tT,hx];exact z)
       ·have hx':(x==n)=false:=by simpa using hx
        rw[tT,hx']at z;have:=ih z
        by_cases hc:(k==NameKind.free&&X.env.scope.kind==.function&&X.env.kindOf n==some .cell)=true
        ·rw[jNk hc,tT,hx'];exact this
        ·rw[jPa hc,tT,hx'];exact this
     exact hh n2
    ·rcases l with⟨k,_⟩|⟨k,c,e,z⟩
     ·rcases n3 with q|q
      ·rw[q]at k;cases k
      ·rw[q]at k;cases k
     ·obtain⟨c',hc'⟩:=xV (cells:=X.env.cells) (x:=x) (names:=scope.names) (acc:=[]) (.inl (PySem.mem_of_lookup n2));have nx:x≠xc:=fun z=>by
       have:=S.nox _ (PySem.mem_of_lookup n2) z;cases this
      have hc':((xc,s.heap.objs.size+1)::xa X.env.cells scope.names []).lookup x=some c':=by
       rw[tT,show (x==xc)=false by simpa using nx];exact hc'
      have e':X.env.cells.lookup x=some c':=by
       rcases yN S hc' with⟨z,_⟩|⟨_,z⟩
       ·exact absurd z nx
       ·exact z
      rw[e]at e';cases e';obtain⟨o,ho,hd⟩:=z;exact⟨c,hc',o,hk _ _ ho,hd⟩
 ·rcases yN S h with⟨_,z⟩|⟨_,z⟩
  ·rw[z];exact⟨none,hcl⟩
  ·obtain⟨v,o,ho,hd⟩:=I.cell x c z;exact⟨v,o,hk _ _ ho,hd⟩
 ·have hp:p∈(X.pn++jNj)++[]:=hp;rw[tQ]at hp;obtain⟨q,n,ne,nf,d⟩:=I.pin p hp;refine⟨hk _ _ q,n,tU (jYc q),fun hm=>?_,d⟩;rcases tK.mp (I.stkSub p.1 hm)with z|z
  ·exact ne z
  ·exact nf z
end
section
variable {X:Cx}{jNj:List (Addr×Obj)}{σ τ:St}{H H₃ H5:Hp}{s₃ s5:jNg}{xc:Str}{N':List Str}{scope:Scope}{fp:List Addr}
def US (I:Inv X jNj σ H₃ s₃)(J:Inv (y3 X scope xc N' s₃ H₃ fp jNj) [] τ H5 s5)(hf:∀b∈fp,wH X jNj H₃ b)(hs:Heap.SameBut s₃.heap.objs.size s5.heap h'):Inv X jNj σ H5 { s5 with heap:=h' }:=by
 have hb:∀b o,s₃.heap.get? b=some o->b≠s₃.heap.objs.size:=fun b o q=>tU (jYc q);have u:Un (frs X.stack) fp H₃ H5 s₃.heap s5.heap:=J.base;refine I.call' (s':={ s5 with heap:=h' }) (ch:=fp) J.os ⟨fun b o q n h1 h2=>(hs.2 b (hb b o q)).trans (u.keep b o q n h1 h2),fun b o q n h1 h2=>?_,u.free,fun b o q h2=>?_,u.tups,u.frzs,u.tbls⟩ (fun b ob q=>?_) J.bare (fun b m=>⟨(hf b m).2.2.2.1,(hf b m).2.1,(hf b m).2.2.2.2.1,(hf b m).2.2.2.2.2⟩)
 ·obtain⟨sl,e⟩:=u.slot b o q n h1 h2;exact⟨sl,(hs.2 b (hb b o q)).trans e⟩
 ·obtain⟨o',e⟩:=u.there b o q h2;exact⟨o',(hs.2 b (hb b o q)).trans e⟩
 ·have fr:H5 s₃.heap.objs.size=none:=J.free;refine (J.hok b ob q).stay (fun c v hc r=>(hs.2 c ?_).trans r) (fun _ z=>z) fun _ _ z=>z;rintro rfl;rcases hc with rfl|hc
  ·rw[fr]at q;cases q
  ·rw[fr]at hc;cases hc
end
def UP {X:Cx}{xc:Str}{N':List Str}{fr:List (Option Nat)}{scope:Scope}{tg iter elt:Expr}{ifs:List Expr}{wi:TI}{g:TG}{tc:TT}{te:TE}{pos cp:Pos}{use:Option (Value->Sem Unit)}{Qf:Value->jNg->Prop}(hc:X.calm=true)(S:CompScopeC X xc N' fr scope)(hi:PI X tg iter wi)
  (hg:∀s₃ H₃ fp jNj,PG (y3 X scope xc N' s₃ H₃ fp jNj) tg g) (ht:∀s₃ H₃ fp jNj,PTs (y3 X scope xc N' s₃ H₃ fp jNj) ifs tc) (he:∀s₃ H₃ fp jNj,PE (y3 X scope xc N' s₃ H₃ fp jNj) elt te)
  (hs:∀x,jYh iter X.env x=pure x) {jNj:List (Addr×Obj)} {s:jNg} {σ:St} {H:Hp} {Q:VK} (I:Inv X jNj σ H s) (h:jg fr wi g tc te σ H Q)
  (hfin:∀(s₃:jNg) (H₃:Hp) (fp:List Addr) (D:Addr) (s6:jNg) (τ:St) (H5:Hp) (fl:Flow),Inv X jNj σ H₃ s₃->(∀b∈fp,wH X jNj H₃ b)->Inv (y3 X scope xc N' s₃ H₃ fp jNj) [] τ H5 s6->Q (.ref D) H5 ->
   compPost (model X.prog X.w) X.A X.xe use Qf (.ref D) s₃.heap.objs.size (.ok fl) s6):
  jNi (model X.prog X.w) X.A (comprehension (.ListComp elt [⟨tg,iter,ifs,0⟩] scope pos) scope X.env cp (newList []) false (eval iter X.env) use) Qf X.xe s:=by
 refine wpAny_comprehension_free (use:=use) rfl hs (wV S.free) S.kind S.loc ?_;refine thn (hi jNj s σ H _ I h) fun v s1 h1=>thn h1 fun itv s2 h2=>?_;obtain⟨it,fp,tn,J,H2,rfl,I2,T,st2,f2,hW⟩:=h2;refine jYi ?_ (by size_fits);have hD:H2 s2.heap.objs.size=none:=I2.hok.fresh (tI _);have I3:Inv X jNj σ (upd H2 s2.heap.objs.size (.lst [])) { s2 with heap:=s2.heap.push { cls:=.type "list",data:=.seq ([]:List Value).toArray },toks:=s2.toks }:=
  I2.laid (fun b u e=>jYb _ e) (tI _) ⟨rD _,[],0,.nil,jYd _ rfl⟩
 generalize eD:s2.heap.objs.size=D at I3 hD ⊢;generalize eH:upd H2 D (.lst [])=H3 at I3;have f3:∀b∈fp,wH X jNj H3 b:=fun b hb=>by
  obtain⟨g0,g1⟩:=f2 b hb;refine⟨?_,g1⟩;obtain⟨o,ho,_⟩:=T.obj 0 _ st2 b hb;rw[<-eH,zC (by rw[<-eD];exact tU (jYc ho))];exact g0
 have lt3:∀b∈fp,b<(s2.heap.push { cls:=.type "list",data:=.seq ([]:List Value).toArray }).objs.size:=fun b hb=>by
  obtain⟨o,ho,_⟩:=T.obj 0 _ st2 b hb;rw[Heap.size_push];exact sX (jYc ho)
 have st3:tn 0 (s2.heap.push { cls:=.type "list",data:=.seq ([]:List Value).toArray }):=T.keep _ _ _ st2 fun b _ o e=>jYb _ e;obtain⟨W,⟨m0,w0⟩,turn⟩:=hW D hD;rw[eH]at w0;generalize es3:({ s2 with heap:=s2.heap.push { cls:=.type "list",data:=.seq ([]:List Value).toArray },toks:=s2.toks }:jNg)=s3 at I3;have lt3:∀b∈fp,b<s3.heap.objs.size:=by rw[<-es3];exact lt3
 have st3:tn 0 s3.heap:=by rw[<-es3];exact st3
 obtain⟨pre,post,hnm,hcm⟩:=S.one;refine z0y hnm hcm ?_;generalize e4:(s3.heap.push { cls:=.type "dict",data:=.dict #[] }).push { cls:=.type "cell",data:=.cell none }=h4;have k4:∀b o,s3.heap.get? b=some o->h4.get? b=some o:=fun b o e=>by rw[<-e4];exact jYb _ (jYb _ e)
 have hz1:(s3.heap.push { cls:=.type "dict",data:=.dict #[] }).objs.size=s3.heap.objs.size+1:=Heap.size_push ..;have hn4:h4.Ns s3.heap.objs.size (fun x=>([]:List (Str×Value)).reverse.lookup x):=by
  obtain⟨o,es,ep,ho,r⟩:=Heap.Ns.new (h:=s3.heap) (cls:=.type "dict");exact⟨o,es,ep,by rw[<-e4];exact jYb _ ho,r⟩
 have hc4:h4.IsCell (s3.heap.objs.size+1) none:=⟨_,by rw[<-e4,<-hz1];exact jYd _ rfl,rfl⟩
 have I4:Inv (y3 X scope xc N' s3 H3 fp jNj) [] (xt fr σ) H3 { s3 with heap:=h4,toks:=s3.toks }:=Qv I3 S f3 lt3 hn4 k4 hc4;have st4:tn 0 h4:=T.keep _ _ _ st3 fun b _ o e=>k4 b o e;have stat:∀ {H':Hp} {p':List (Addr×Obj)},p'=[]->(∀b∈fp,H' b=none)->∀b∈fp,wH (y3 X scope xc N' s3 H3 fp jNj) p' H' b:=fun {H' p'} hp hn b hb=>by
  subst hp;obtain⟨g0,g1,g2,g3,g4,g5⟩:=f3 b hb;refine⟨hn b hb,tU (lt3 b hb),fun hm=>?_,.inl hb,fun x c h=>?_,fun p hp=>?_⟩
  ·rcases tK.mp (I3.stkSub b hm)with z|z
   ·exact g1 z
   ·exact g2 z
  ·rcases yN S h with⟨_,z⟩|⟨_,z⟩
   ·rw[z];exact rY (sX (lt3 b hb))
   ·exact g4 x c z
  ·have hp:p∈(X.pn++jNj)++[]:=hp;rw[tQ]at hp;exact g5 p hp
 have loop:∀s':jNg,s'={ s3 with heap:=h4,toks:=s3.toks }->codeAny (model X.prog X.w) X.A (.compLoop (.ListComp elt [⟨tg,iter,ifs,0⟩] scope pos) 0 (.ref it) (.ref D) (compEnvC scope ((xc,s3.heap.objs.size+1)::xa X.env.cells scope.names []) s3.heap.objs.size X.env))
   (compPost (model X.prog X.w) X.A X.xe use Qf (.ref D) s3.heap.objs.size) s':=by
  rintro s' rfl;refine codeAny_loop rfl (fun n s'=>∃i ys τ H',Inv (y3 X scope xc N' s3 H3 fp jNj) [] τ H' s'/\tn i s'.heap/\(∀b∈fp,H' b=none)/\W i n ys τ H') ?_ m0 ⟨0,[],_,H3,I4,st4,fun b hb=>(f3 b hb).1,w0⟩;rintro n s5 ⟨i,ys,τ,H5,I5,st5,fr5,w5⟩;show jNi _ X.A ((compTurn (.ListComp elt [⟨tg,iter,ifs,0⟩] scope pos) 0 (.ref it) (.ref D) (compEnvC scope ((xc,s3.heap.objs.size+1)::xa X.env.cells scope.names []) s3.heap.objs.size X.env)).onRaise (fun x=>do noteFrame x (compEnvC scope ((xc,s3.heap.objs.size+1)::xa X.env.cells scope.names []) s3.heap.objs.size X.env);theTreesLotGoes x)) _ _ s5;refine wpAny_noted ?_;rw[compTurn_list];obtain⟨hDy,hor⟩:=turn i n ys τ H5 w5;rcases hor with⟨stop,q⟩|⟨go,step⟩
  ·refine jMf (jKj (jMf (thn (T.done (y3 X scope xc N' s3 H3 fp jNj) rfl rfl rfl hc i [] s5 τ H5 _ I5 (stat rfl fr5) st5 stop) fun r s6 ⟨hr,I6⟩=>?_)));subst hr;exact jMh (hfin s3 H3 fp D s6 τ H5 _ I3 f3 I6 q)
  ·refine jMf (jKj (jMf (thn (T.item (y3 X scope xc N' s3 H3 fp jNj) rfl rfl rfl hc i [] s5 τ H5 _ I5 (stat rfl fr5) st5 go) fun r s6 ⟨u,hr,h6⟩=>?_)));subst hr;refine jMf (thn h6 fun _ s7 ⟨x,H7,I7,r7,y7,st7,fr7⟩=>?_);have I7':=I7.pinned (stat rfl fr7) (T.obj _ _ st7);refine jMf (jMg (hg s3 H3 fp jNj _ s7 τ H7 x u _ I7' r7 (step x H7 y7)) (fun _ s8 ⟨τ8,H8,I8,q8⟩=>?_) fun _ _ z=>False.elim z);refine jMf (jMg (ht s3 H3 fp jNj _ s8 τ8 H8 _ I8 q8) (fun b s9 ⟨H9,I9,q9⟩=>?_) fun _ _ z=>False.elim z);have again:∀ {s':jNg} {H':Hp},Inv (y3 X scope xc N' s3 H3 fp jNj) ([]++vW fp s7.heap) τ8 H' s'->tn (i+1) s'.heap/\∀b∈fp,H' b=none:=fun {s' H'} I'=>by
    refine⟨T.keep _ _ _ st7 fun b hb o e=>(I'.pin (b,o) (tD _ (tD _ (yG hb e)))).1,fun b hb=>?_⟩;obtain⟨o,e,d⟩:=T.obj _ _ st7 b hb;exact (I'.pin (b,o) (tD _ (tD _ (yG hb e)))).2.1
   cases b with
   | false =>
    rw[jPa tP]at q9;obtain⟨m',hm,w9⟩:=q9;obtain⟨a1,a2⟩:=again I9;refine jMh ⟨rfl,m',hm,i+1,ys,τ8,H9,I9.unpinned,a1,a2,w9⟩
   | true =>
    rw[jNk rfl]at q9;refine jMf (jMf (jMg (he s3 H3 fp jNj _ s9 τ8 H9 _ I9 q9) (fun yv s10 ⟨y,H10,I10,r10,hD10,hz,m',hm,w10⟩=>?_) fun _ _ z=>False.elim z));refine jMf (jMg (wY (X:=y3 X scope xc N' s3 H3 fp jNj) _ s10 τ8 H10 (.ref D) [y] (.ref D) [yv] (fun _ H11=>H11=upd H10 D (.lst (ys++[y]))) I10 rfl (.cons r10 .nil) ⟨D,ys,y,rfl,rfl,hD10,hz,rfl⟩) (fun _ s11 ⟨_,H11,I11,_,q11⟩=>?_) fun _ _ z=>False.elim z);subst q11;obtain⟨a1,a2⟩:=again I11;exact jMh (jMh ⟨rfl,m',hm,i+1,ys++[y],τ8,_,I11.unpinned,a1,a2,w10⟩)
 exact codeAny_compStart_list (loop _ rfl) (T.self _ 0 _ _ _ st4 (loop _ rfl))
def Ji {fr:List (Option Nat)}{pos:Pos}(hc:X.calm=true)(S:CompScopeC X xc N' fr scope)(hi:PI X tg iter wi)
  (hg:∀s₃ H₃ fp jNj,PG (y3 X scope xc N' s₃ H₃ fp jNj) tg g) (ht:∀s₃ H₃ fp jNj,PTs (y3 X scope xc N' s₃ H₃ fp jNj) ifs tc) (he:∀s₃ H₃ fp jNj,PE (y3 X scope xc N' s₃ H₃ fp jNj) elt te)
  (hs:autoParam (∀x,jYh iter X.env x=pure x) au2._auto_1):PE X (.ListComp elt [⟨tg,iter,ifs,0⟩] scope pos) (jg fr wi g tc te):=by
 intro jNj s σ H Q I h;rw[eval_ListComp];refine UP (use:=none) hc S hi hg ht he hs I h fun s3 H3 fp D s6 τ H5 fl I3 f3 I6 q=>?_;obtain⟨m6,hn6,_⟩:=I6.loc;exact⟨m6,hn6,fun h7 hs7=>⟨.ref D,H5,US I3 I6 f3 hs7,rfl,q⟩⟩
section
variable {X:Cx}{E:XK}{Γ:List Cl}{pos:Pos}
def QH (xc:Str){N':List Str}{fr:List (Option Nat)}{scope:Scope}{tg iter elt:Expr}{ifs:List Expr}{it:Tn->R (List D)}{g:Tgt}{cnd:Tn->R Bool}{te:Tn->R D}{ci c:Rc}(hc:X.calm=true)(S:CompScopeC X xc N' fr scope)(hi:MI X E Γ tg iter it ci)
  (hg:∀s₃ H₃ fp jNj,MG (y3 X scope xc N' s₃ H₃ fp jNj) tg g) (ht:∀s₃ H₃ fp jNj,MTs (y3 X scope xc N' s₃ H₃ fp jNj) noX (yn (Cl.ofIt ci) (y8 fr Γ) g.slots) ifs cnd)
  (he:∀s₃ H₃ fp jNj,ME (y3 X scope xc N' s₃ H₃ fp jNj) noX (yn (Cl.ofIt ci) (y8 fr Γ) g.slots) elt te c) (hcl:c≠.bor) (hd:∀j∈g.slots,(y8 fr Γ)[j]?=some .dead)
  (hs:autoParam (∀x,jYh iter X.env x=pure x) au2._auto_1):ME X E Γ (.ListComp elt [⟨tg,iter,ifs,0⟩] scope pos) (zR fr it g cnd te) c:=by
 obtain⟨wi,p,q⟩:=qL (cnd:=cnd) (te:=te) hi hcl hd;exact⟨_,Ji hc S p (fun s₃ H₃ fp jNj=>(hg s₃ H₃ fp jNj).pg) (fun s₃ H₃ fp jNj=>(ht s₃ H₃ fp jNj).pts) (fun s₃ H₃ fp jNj=>(he s₃ H₃ fp jNj).pe) hs,q⟩
end
def isC (y:Str×NameKind):Bool:=decide (y.2=.cell)
noncomputable def jY (outer:Scope)(N:List Str)(xc:Str)(N':List Str)(fr:List (Option Nat))(scope:Scope):Bool:=
 decide (scope.kind=.function)&&decide (scope.names=scope.names.takeWhile (fun y=>!isC y)++(xc,NameKind.cell)::(scope.names.dropWhile fun y=>!isC y).tail)&&(scope.names.takeWhile (fun y=>!isC y)++(scope.names.dropWhile fun y=>!isC y).tail).all (fun y=>decide (y.2≠.cell)) &&
 scope.names.all (fun y=>decide (y.1≠xc)||decide (y.2=.cell))&&scope.names.all (fun y=>decide (y.2≠.local)||decide (scope.names.lookup y.1=some .local)) &&
 scope.names.all (fun y=>decide (y.2≠.free)||decide (outer.names.lookup y.1=some .cell)||decide (outer.names.lookup y.1=some .free))&&decide (fr.length=N'.length) &&
 (List.range fr.length).all fun j=>match fr[j]?,N'[j]? with
  | some (some i),some x=>decide (N[i]?=some x)&&decide (scope.names.lookup x=some .free)&&(decide (outer.names.lookup x=some .cell)||decide (outer.names.lookup x=some .free))
  | _,_=>true
def XF {X:Cx}{xc:Str}{N':List Str}{fr:List (Option Nat)}{scope:Scope}(hc:∀x,(X.env.scope.names.lookup x=some .cell\/X.env.scope.names.lookup x=some .free)->∃c,X.env.cells.lookup x=some c)(h:jY X.env.scope X.N xc N' fr scope=true):CompScopeC X xc N' fr scope:=by
 unfold jY at h;simp only[sG,decide_eq_true_eq,rK,pD]at h;obtain⟨⟨⟨⟨⟨⟨⟨h1,h2⟩,h2'⟩,h2''⟩,h3⟩,h4⟩,h5⟩,h6⟩:=h;refine⟨h1,⟨_,_,h2,h2'⟩,fun y hy e=>?_,fun y hy e=>?_,fun y hy e=>?_,h5,fun j i x e1 e2=>?_⟩
 ·rcases h2'' y hy with z|z
  ·exact absurd e z
  ·exact z
 ·rcases h3 y hy with z|z
  ·exact absurd e z
  ·exact z
 ·rcases h4 y hy with (z|z)|z
  ·exact absurd e z
  ·exact hc y.1 (.inl z)
  ·exact hc y.1 (.inr z)
 ·have hj:j<fr.length:=(tJ.mp e1).1;have:=h6 j (rS.mpr hj);rw[e1,e2]at this;simp only[sG,decide_eq_true_eq,pD]at this;exact⟨this.1.1,this.1.2,this.2⟩
def z0p {CX:CXT}{P:jNe}{w:World}{K:jJa}{mg:Str->Option Value}{base:Heap}{N:List Str}{qual:Str}{sc:Scope}{f:Addr}{cd:Value}{A:jNf}{outer:List Env}{s:jNg}{H:Hp}{E:XK}{xc:Str}{N':List Str}{fr:List (Option Nat)}{scope:Scope}
  (nf:∀y∈sc.names,y.2≠.free) (h:jY sc N xc N' fr scope=true):CompScopeC (yZ CX P w K mg base N qual sc f cd A outer s H E) xc N' fr scope:=
 XF (X:=yZ CX P w K mg base N qual sc f cd A outer s H E) (fun x hx=>by
  rcases hx with hx|hx
  ·exact qA hx
  ·exact absurd rfl (nf _ (PySem.mem_of_lookup hx))) h
def QB {X:Cx}{s₃:jNg}{H₃:Hp}{fp:List Addr}{jNj:List (Addr×Obj)}{sc:Scope}{xc:Str}{N N':List Str}{fr:List (Option Nat)}{scope:Scope}(nf:∀y∈sc.names,y.2=.cell->y.1=xc)
  (h:uk (relabel sc X.env) N N' fr scope=true):CompScope (y3 X sc xc N s₃ H₃ fp jNj) N' fr scope:=
 uN (X:=y3 X sc xc N s₃ H₃ fp jNj) (fun x hx=>by
  have hx:(relabel sc X.env).names.lookup x=some .cell\/(relabel sc X.env).names.lookup x=some .free:=hx
  by_cases hxc:x=xc
  ·exact⟨s₃.heap.objs.size+1,by rw[hxc];show ((xc,s₃.heap.objs.size+1)::_).lookup xc=_;rw[tT];simp⟩
  have key:sc.names.lookup x=some .free:=by
   rcases hx with h|h
   ·obtain⟨k',e1,e2⟩:=zQ h;rcases e2 with z|⟨z,_⟩
    ·exact absurd (nf _ (PySem.mem_of_lookup e1) z.symm) hxc
    ·rw[e1,z]
   ·obtain⟨k',e1,e2⟩:=zQ h;rcases e2 with z|⟨_,z⟩
    ·rw[e1,<-z]
    ·cases z
  obtain⟨c,hc⟩:=xV (cells:=X.env.cells) (names:=sc.names) (acc:=[]) (.inl (PySem.mem_of_lookup key));refine⟨c,?_⟩;show ((xc,s₃.heap.objs.size+1)::_).lookup x=_;rw[tT,show (x==xc)=false by simpa using hxc];exact hc) h
def z4Y {α:Type}{us:List α}{n:Nat}(h:us.length=n+1):∃a t,us=a::t/\t.length=n:=by
 cases us with
 | nil=>cases h
 | cons a t=>exact⟨a,t,rfl,Nat.succ.inj h⟩
def Wc {α:Type}{us:List α}(h:us.length=0):us=[]:=pC.mp h
def SOk.deadPut {K:jJa}{Γ:List Cl}{B H:Hp}{σ:St}{τ:Tn}{T:List Addr}{i:Nat}{w:Option V}(h:SOk K Γ B H σ τ T)(e:Γ[i]?=some .dead):SOk K Γ B H (σ.set i w) τ T:=by
 obtain⟨Ls,h1,h2⟩:=h.ex;refine⟨h.ext,by rw[sD];exact h.lσ,h.lτ,Ls,fun j c ej hc=>?_,h2⟩;obtain⟨v,d,a1,a2,a3⟩:=h1 j c ej hc;refine⟨v,d,?_,a2,a3⟩
 by_cases hij:i=j
 ·subst hij;rw[e]at ej;exact absurd (jYe ej).symm hc
 ·rw[tY hij];exact a1
section
variable {K:jJa}{Γ:List Cl}{B H:Hp}{σ:St}{τ:Tn}{T T':List Addr}
theorem SOk.subT (h:SOk K Γ B H σ τ T)(nd:T'.Nodup)(hs:∀a∈T',a∈T):SOk K Γ B H σ τ T':=by
 obtain⟨Ls,h1,h2,h3,h4,h5,h6⟩:=h.ex;exact⟨h.ext,h.lσ,h.lτ,Ls,h1,h2,h3,nd,fun a ha=>h5 a (hs a ha),fun i c e hc a ha hm=>h6 i c e hc a ha (hs a hm)⟩
theorem SOk.nodT (h:SOk K Γ B H σ τ T):T.Nodup:=by
 obtain⟨Ls,h1,h2,h3,h4,h5,h6⟩:=h.ex;exact h4
end
def isB (neg:Bool):D->D->R D
 | .bl c,.bl d=>.ok (.bl (if neg=true then c != d else c==d))
 | _,_=>.bad
theorem JR {K:jJa}{H:Hp}{d:D}:∀ {ds:List D} {vs:List V} {L:List Addr} {k:Nat},Reps K H ds vs L->ds[k]?=some d->L.Nodup->∃v Ld,vs[k]?=some v/\Rep K H d v Ld/\Ld.Nodup/\(∀a∈Ld,a∈L) /\
  ∀(H2:Hp) (d2:D) (L2:List Addr),TF H H2->(∀b,b∉Ld->H b≠none->H2 b=H b)->Rep K H2 d2 v L2->(∀a∈L2,a∈Ld)->L2.Nodup->∃L',Reps K H2 (ds.set k d2) vs L'/\(∀a∈L',a∈L)/\L'.Nodup
 | [],_,_,k,_,h,_=>by cases k<;>cases h
 | e::ds,_,_,0,hq,h,nd=>by
  obtain⟨v,vs',L1,L2,e1,e2,r1,r2⟩:=hq;subst e1 e2;cases h;obtain⟨n1,n2,n3⟩:=tX.mp nd;refine⟨v,L1,rfl,r1,n1,fun a ha=>tL _ ha,fun H2 d2 L3 tf kp r3 sb nd3=>⟨L3++L2,?_,fun a ha=>?_,?_⟩⟩
  ·exact⟨v,vs',L3,L2,rfl,rfl,r3,Reps.keep tf ds vs' L2 r2 fun a ha=>kp a (fun z=>n3 a z a ha rfl) (r2.there ha)⟩
  ·rcases tS.mp ha with z|z
   ·exact tL _ (sb a z)
   ·exact tD _ z
  ·exact tX.mpr ⟨nd3,n2,fun a ha b hb z=>n3 a (sb a ha) b hb z⟩
 | e::ds,_,_,k+1,hq,h,nd=>by
  obtain⟨v,vs',L1,L2,e1,e2,r1,r2⟩:=hq;subst e1 e2;obtain⟨n1,n2,n3⟩:=tX.mp nd;obtain⟨w,Ld,g1,g2,g3,g4,g5⟩:=JR (k:=k) r2 (by simpa using h) n2;refine⟨w,Ld,by simpa using g1,g2,g3,fun a ha=>tD _ (g4 a ha),fun H2 d2 L3 tf kp r3 sb nd3=>?_⟩;obtain⟨L',q1,q2,q3⟩:=g5 H2 d2 L3 tf kp r3 sb nd3;refine⟨L1++L',?_,fun a ha=>?_,?_⟩
  ·exact⟨v,vs',L1,L',rfl,rfl,Rep.keep tf e v L1 r1 fun a ha=>kp a (fun z=>n3 a ha a (g4 a z) rfl) (r1.there ha),q1⟩
  ·rcases tS.mp ha with z|z
   ·exact tL _ z
   ·exact tD _ (q2 a z)
  ·exact tX.mpr ⟨n1,q3,fun a ha b hb z=>n3 a ha b (q2 b hb) z⟩
theorem MtM.or2 {X:Cx}{id:String}{r r':V->List V->Hp->VK->Prop}(h:MtM X id r)(h':MtM X id r'):MtM X id (fun x xs H Q=>r x xs H Q\/r' x xs H Q):=by
 intro jNj s σ H x xs v us Q I rx rs q;rcases q with q|q
 ·exact h jNj s σ H x xs v us Q I rx rs q
 ·exact h' jNj s σ H x xs v us Q I rx rs q
def z5H (K:jJa):V->List V->Hp->VK->Prop:=fun x vs H Q=>∃l b xs zs,x=.ref l/\vs=[.ref b]/\H l=some (.lst xs)/\SqT K H b zs/\xs.length+zs.length<=jNb/\Q .non (upd H l (.lst (xs++zs)))
def Kt:MtM X "list.extend" (z5H X.K):=by
 intro jNj s σ H x vs v us Q I rx rv h;obtain⟨l,b,xs,zs,rfl,rfl,hH,hB,hz,q⟩:=h;cases rx;obtain⟨u,rfl,ru⟩:=rv.one;cases ru;obtain⟨z,its,n,r,hl,e⟩:=I.lstM hH;obtain⟨its2,r2,⟨o,ho,hc,⟨hd,hs⟩,n2,hdat⟩,hz2⟩:=I.tupN hB;have hl2:=r2.length;obtain⟨cls,dct,dat,sl⟩:=o;simp only at hc hd hs hdat;subst hc hd hs hdat;have hsz:its.toArray.size+its2.toArray.size<=sizeLine:=by rw[tM,tM];omega
 have hlong:¬(!its.toArray.isEmpty&&Builtin.List.listTooLong (its.toArray.size+its2.toArray.size))=true:=by
  rw[Z6 hsz,pH];exact tP
 refine call_meets F.slot_list_extend ⟨_,e,rfl⟩ F.entry_list_extend (F.args_list_extend_2 _ _)
  (AutoSeq1.list_extend_list_tuple_0 l its.toArray n b its2.toArray n2 hlong (by rw[tM];omega) (by omega)) ⟨e,ho,?_⟩
 refine⟨.non,_,I.lset (its':=its++its2) hH e (by simp) (r.append r2) ?_,rfl,q⟩;rw[tV];omega
section
variable {X:Cx}{E:XK}{Γ Γl:List Cl}{pos:Pos}{e:Expr}{t:Tn->R D}{c:Rc}
def UQ (i:Nat)(t:Tn->R D):Tn->R Fl:=fun τ=>match τ[i]? with
 | some (some (.lst xs))=>(t τ).bind fun y=>(match y with
  | .lst ys=>if D.imms ys=true/\xs.length+ys.length<=jNb then .ok (.nx (τ.set i (some (.lst (xs++ys))))) else .bad
  | .tup ys=>if D.imms ys=true/\xs.length+ys.length<=jNb then .ok (.nx (τ.set i (some (.lst (xs++ys))))) else .bad
  | _=>.bad)
 | _=>.bad
def JC (i:Nat){x:Str}{p0 p1 p2:Pos}(he:ME X E Γ e t c)(hN:autoParam (X.N[i]?=some x) au3._auto_1)(h0:autoParam (Γ[i]?=some .own) au3._auto_1)(hv:autoParam (Vis X.env.scope x) au7._auto_1)(hb:autoParam ((x==("__debug__":Str))=false) au1._auto_1)(hcd:autoParam ((x==("__classdict__":Str))=false) au1._auto_1)
  (hbase:autoParam (jKg (.Name x p0) "extend" X.env (eval (.Name x p0) X.env)=eval (.Name x p0) X.env) au3._auto_1)
  (hfew:autoParam (((jNh p2 (jNc [e] X.env)).all (fun x=>!x.1)&&(jNa p2 (jMa [] X.env)).all (fun x=>x.1.isSome)&&decide ([e].length+([]:List jNd).length+(if ([]:List jNd).isEmpty then 0 else 1)<30))=true) au3._auto_1)
  (hline:autoParam ((p1.endLine==p2.line)=true) au3._auto_1) (hs:autoParam (jNc [e] X.env=(false,eval e X.env)::jNc [] X.env) au3._auto_1) (hplain:autoParam ((jNh p2 (jNc [] X.env)).any (·.1)=false) au3._auto_1)
  (hsw:autoParam (jMj (.Call (.Attribute (.Name x p0) "extend" p1) [e] [] p2) none pos.line X.env=pure false) au3._auto_1):
  MS X E Γl Γ (.Expr (.Call (.Attribute (.Name x p0) "extend" p1) [e] [] p2) pos) (UQ i t) Γ:=by
 obtain⟨te,p,q⟩:=he;refine⟨_,jJ (Ue jQx PySem.F.slot_list_extend PySem.F.type_list_extend (mt_extend.or2 Kt) (vq (pos:=p0) hN hv hb hcd) (wR p uU hs) hbase hfew hline hs hplain) hsw,fun B σ H τ Z ok h=>?_⟩;unfold UQ at h;obtain⟨v,d,L,e1,e2,r,nd,_,_⟩:=ok.slot h0;rw[e2]at h;cases d with
 | lst xs =>
  dsimp only at h;obtain⟨a,ws,L',rfl,ha,rfl,rs⟩:=r;refine⟨_,e1,.inl ⟨rfl,ws,SqL.of ha⟩,?_⟩;obtain⟨O,eo,_⟩:=ok.eok;refine q O σ H τ _ eo ?_;cases ht:t τ with
  | err m=>rw[ht]at h;exact fun C H' e s=>h C H' e (ok.ext.trans s)
  | bad=>rw[ht]at h;exact h
  | ok dy =>
   rw[ht,jYa]at h;refine fun y H1 Ly s1 ry _=>?_;cases dy with
   | lst ys =>
    dsimp only at h
    by_cases hz:D.imms ys=true/\xs.length+ys.length<=jNb
    ·rw[jNk hz]at h;obtain⟨c1,zs,Lz,rfl,hc1,rfl,qs⟩:=ry;obtain⟨v',d',L1,e1',e2',r',nd',n2',fin'⟩:=(ok.same s1).slot h0;rw[e1]at e1';cases e1';rw[e2]at e2';cases e2';obtain⟨a',ws',L2',ea,ha',rfl,rs'⟩:=r';cases ea;rw[s1 _ _ ha]at ha';cases ha';have mu:(∃vs,H1 a=some (.lst vs))\/∃kvs,H1 a=some (.dK kvs):=.inl ⟨_,s1 _ _ ha⟩;obtain⟨w1,w2⟩:=sF.mp nd';refine .inl ⟨a,c1,ws,zs,rfl,rfl,s1 _ _ ha,hc1,by rw[rs.length,qs.length];exact hz.2,?_⟩;have qs0:=(yh qs hz.1).upd (o:=.lst (ws++zs)) mu (by simp);have rs0:=rs'.upd (o:=.lst (ws++zs)) mu w1;have rr:=Reps.append rs0 qs0;rw[tQ]at rr;exact h _ _ (fin' _ _ (a::L2') [] [] rfl (TF.upd mu) (fun c hc _=>zC fun z=>hc (z▸tE)) ⟨a,ws++zs,L2',rfl,zG,rfl,rr⟩ (fun c hc=>.inl hc) nd')
    ·rw[jPa hz]at h;exact h.elim
   | tup ys =>
    dsimp only at h
    by_cases hz:D.imms ys=true/\xs.length+ys.length<=jNb
    ·rw[jNk hz]at h;obtain⟨c1,zs,rfl,hc1,qs⟩:=ry;obtain⟨v',d',L1,e1',e2',r',nd',n2',fin'⟩:=(ok.same s1).slot h0;rw[e1]at e1';cases e1';rw[e2]at e2';cases e2';obtain⟨a',ws',L2',ea,ha',rfl,rs'⟩:=r';cases ea;rw[s1 _ _ ha]at ha';cases ha';have mu:(∃vs,H1 a=some (.lst vs))\/∃kvs,H1 a=some (.dK kvs):=.inl ⟨_,s1 _ _ ha⟩;obtain⟨w1,w2⟩:=sF.mp nd';refine .inr ⟨a,c1,ws,zs,rfl,rfl,s1 _ _ ha,hc1,by rw[rs.length,qs.length];exact hz.2,?_⟩;have qs0:=(yh qs hz.1).upd (o:=.lst (ws++zs)) mu (by simp);have rs0:=rs'.upd (o:=.lst (ws++zs)) mu w1;have rr:=Reps.append rs0 qs0;rw[tQ]at rr;exact h _ _ (fin' _ _ (a::L2') [] [] rfl (TF.upd mu) (fun c hc _=>zC fun z=>hc (z▸tE)) ⟨a,ws++zs,L2',rfl,zG,rfl,rr⟩ (fun c hc=>.inl hc) nd')
    ·rw[jPa hz]at h;exact h.elim
   | _=>exact h.elim
 | _=>exact h.elim
end
def Xl (g:Str->R D)(t:Tn->R D):Tn->R D:=fun τ=>(t τ).bind fun d=>match d with
 | .str z=>g z
 | _=>.bad
def upD (z:Str):R D:=if z.length<=5592405 then .ok (.str (Txt.upper z)) else .bad
section
def Jk (ho:ME X E Γ o t c)(hbase:autoParam (jKg o "upper" X.env (eval o X.env)=eval o X.env) au3._auto_1)(hline:autoParam ((apos.endLine==cpos.line)=true) au3._auto_1):
  ME X E Γ (.Call (.Attribute o "upper" apos) [] [] cpos) (Xl upD t) .fresh:=by
 obtain⟨te,p,q⟩:=ho;refine⟨_,Ka jQs PySem.F.slot_str_upper PySem.F.type_str_upper Jo p hbase hline,fun O σ H τ Q ok h=>?_⟩;unfold Xl at h;refine q O σ H τ _ ok (post.bind h fun d hd h x H1 L1 s1 r1 _=>?_);cases d with
 | str z =>
  obtain⟨rfl,_⟩:=r1;dsimp only at h;unfold upD at h
  by_cases hz:z.length<=5592405
  ·rw[jNk hz]at h;exact⟨rfl,z,rfl,rfl,hz,h _ H1 [] s1 ⟨rfl,rfl⟩ ⟨by simp,fun a ha=>nomatch ha⟩⟩
  ·rw[jPa hz]at h;exact h.elim
 | _=>exact h.elim
end
def z5i {j1 j3:Nat}(he:PE X e te):PE X (.JoinedStr [.Constant (.str a) j1 p1,.FormattedValue e (-1) none p2,.Constant (.str b) j3 p3] pos)
  (fun σ H Q=>a.length<=jNb/\te σ H fun v H1=>∃i,v=.int i/\i.natAbs.log2<1920/\(a++(toString i:Str)).length<=jNb/\(a++(toString i:Str)++b).length<=jNb/\Q (.str (a++(toString i:Str)++b)) H1):=by
 intro jNj s σ H Q I h;obtain⟨ha,h⟩:=h;refine JoinedStr_many (joinParts_cons (thn (xX (x:=a) (j:=j1) (pos:=p1) jNj s σ H (fun v H1=>v=.str a/\H1=H) I ⟨rfl,rfl⟩) fun v s1 h1=>?_));obtain⟨v1,H1,I1,r1,rfl,rfl⟩:=h1;obtain⟨t1,rfl⟩:=r1;dsimp only;rw[Str.empty_append];refine⟨ha,joinParts_cons (FormattedValue_plain (thn (he jNj s1 σ H1 _ I1 h) fun v s2 h2=>?_))⟩;obtain⟨v2,H2,I2,r2,i,rfl,hi,h3,h4,q⟩:=h2;obtain⟨t2,rfl⟩:=r2;refine formatField_int_small hi ⟨h3,joinParts_cons (thn (xX (x:=b) (j:=j3) (pos:=p3) jNj _ σ H2 (fun v H1=>v=.str b/\H1=H2) (I2.tok _) ⟨rfl,rfl⟩) fun v s3 h5=>?_)⟩;obtain⟨v3,H3,I3,r3,rfl,rfl⟩:=h5;obtain⟨t3,rfl⟩:=r3;exact⟨h4,joinParts_nil ⟨.str _,H3,I3.tok _,⟨_,rfl⟩,q⟩ h4⟩
noncomputable def f3D (a b:Str):D->R D
 | .int i=>if i.natAbs.log2<1920/\a.length<=jNb/\(a++(toString i:Str)).length<=jNb/\(a++(toString i:Str)++b).length<=jNb then .ok (.str (a++(toString i:Str)++b)) else .bad
 | _=>.bad
def eF3 (a b:Str)(t:Tn->R D):Tn->R D:=fun τ=>(t τ).bind (f3D a b)
section
def z52 {j1 j3:Nat}(hl:a.length<=jNb)(he:ME X E Γ e t c):
  ME X E Γ (.JoinedStr [.Constant (.str a) j1 p1,.FormattedValue e (-1) none p2,.Constant (.str b) j3 p3] pos) (eF3 a b t) .fresh:=by
 obtain⟨te,p,q⟩:=he;refine⟨_,z5i p,fun O σ H τ Q ok h=>⟨hl,?_⟩⟩;unfold eF3 at h;refine q O σ H τ _ ok (post.bind h fun d hd h x H1 L1 s1 r1 _=>?_);cases d with
 | int i =>
  obtain⟨rfl,_⟩:=r1;unfold f3D at h;dsimp only at h;split at h
  ·rename_i hz;exact⟨i,rfl,hz.1,hz.2.2.1,hz.2.2.2,h _ H1 [] s1 ⟨rfl,rfl⟩ ⟨by simp,fun a ha=>nomatch ha⟩⟩
  ·exact h.elim
 | _=>exact h.elim
end
def Uj (z:Str):Str:=⟨((slicePicked z none none (some (-1,0))).filterMap (z.cps[·]?)).toArray⟩
def z3w (he:PE X e te)(hg:PO X (some g) tg):PE X (.Subscript e (.Slice none none (some g) p2) pos)
  (fun σ H Q=>te σ H fun x H1=>tg σ H1 fun o H2=>o=some (-1)/\∃z,x=.str z/\(Uj z).length<=jNb/\Q (.str (Uj z)) H2):=by
 intro jNj s σ H Q I h;refine Subscript_ (thn (he jNj s σ H _ I h) fun v s1 ⟨x,H1,I1,r1,q1⟩=>?_);refine wpAny_Slice (thn (YS jNj s1 σ H1 (fun o H2=>o=none/\H2=H1) I1 ⟨rfl,rfl⟩) fun vl s2 ⟨l,H2,I2,pl,e1,e2⟩=>thn (YS jNj s2 σ H2 (fun o H3=>o=none/\H3=H2) I2 ⟨rfl,rfl⟩) fun vu s3 ⟨u,H3,I3,pu,e3,e4⟩=>?_);subst e1 e2 e3 e4;refine thn (hg jNj s3 σ H3 _ I3 q1) fun vs s4 ⟨o,H4,I4,ps,e5,z,e6,hz,q⟩=>?_;subst e5 e6;obtain⟨t,rfl⟩:=r1;cases pl;cases pu;cases ps with
 | int _ tj =>
  have I5:Inv X jNj σ H4 { s4 with heap:=s4.heap.push { cls:=.type "slice",data:=.fields #[.none,.none,.int (-1) tj] } }:=I4.kept (t':=s4.toks) fun b ob q=>jYb _ q;have hq:jNi (model X.prog X.w) X.A (getItem (.str z t) (.ref s4.heap.objs.size)) (EP X jNj σ Q) X.xe { s4 with heap:=s4.heap.push { cls:=.type "slice",data:=.fields #[.none,.none,.int (-1) tj] } }:=by
   refine wpAny_getItem_str_slice (l:=none) (u:=none) (st:=some (-1,tj)) ⟨_,jYd _ rfl,rfl,rfl⟩ rfl (post_val_or_str ?_);have hc:¬((((some ((-1:Int),tj)).map (·.1)).getD 1==1&&(slicePicked z none none (some (-1,tj))).length==z.length)=true):=by
    intro hh;rw[sG]at hh;exact absurd (show ((-1:Int)==1)=true from hh.1) (by decide)
   rw[jPa hc];exact⟨hz,fun t' k=>⟨.str _,H4,I5.tok k,⟨t',rfl⟩,q⟩⟩
  show jNi (model X.prog X.w) X.A (subscriptTail e (.Slice none none (some g) p2) (.str z t) (.ref s4.heap.objs.size)) (EP X jNj σ Q) X.xe _;exact tail_any (ops:=[.ref s4.heap.objs.size,.str z t]) (typeIs_str _ _ _) F.slot_str_getitem.lookup hq (by with_unfolding_all rfl)
def z3P:D->R D
 | .str z=>if (Uj z).length<=jNb then .ok (.str (Uj z)) else .bad
 | _=>.bad
def Jy (t:Tn->R D):Tn->R D:=fun τ=>(t τ).bind z3P
section
variable {j:Nat}
def z39 (he:ME X E Γ e t c)(hm:PE X (.UnaryOp .USub (.Constant (.int 1) j p3) p4) (tC (.int (-1)))):ME X E Γ (.Subscript e (.Slice none none (some (.UnaryOp .USub (.Constant (.int 1) j p3) p4)) p2) pos) (Jy t) .fresh:=by
 obtain⟨te,p,q⟩:=he;refine⟨_,z3w p (VO hm),fun O σ H τ Q ok h=>?_⟩;unfold Jy at h;refine q O σ H τ _ ok (post.bind h fun d hd h x H1 L1 s1 r1 _=>?_);cases d with
 | str z =>
  obtain⟨rfl,_⟩:=r1;unfold z3P at h;dsimp only at h;split at h
  ·rename_i hz;exact⟨-1,rfl,rfl,z,rfl,hz,h _ H1 [] s1 ⟨rfl,rfl⟩ ⟨by simp,fun a ha=>nomatch ha⟩⟩
  ·exact h.elim
 | _=>exact h.elim
def z5f:PE X (.UnaryOp .USub (.Constant (.int 1) j p3) p4) (tC (.int (-1))):=fun jNj s σ H Q I h=>z1X Kf Xi jNj s σ H Q I ⟨1,rfl,h⟩
def Kz (he:ME X E Γ e t c):ME X E Γ (.Subscript e (.Slice none none (some (.UnaryOp .USub (.Constant (.int 1) j p3) p4)) p2) pos) (Jy t) .fresh:=z39 he z5f
end
def TF.trans (a:TF H H1)(b:TF H1 H2):TF H H2:=⟨fun x xs e=>b.tup x xs (a.tup x xs e),fun x o u e=>b.frz x o u (a.frz x o u e),fun x C dx fs e=>b.ins x C dx fs (a.ins x C dx fs e)⟩
def SOk.slotF {K:jJa}{Γ:List Cl}{B H:Hp}{σ:St}{τ:Tn}{i:Nat}(h:SOk K Γ B H σ τ [])(e:Γ[i]?=some .own):∃v d L,σ[i]?=some (some v)/\τ[i]?=some (some d)/\Rep K H d v L/\L.Nodup/\(∀a∈L,B a=none) /\
  ∀(H2:Hp) (d2:D) (L2:List Addr),TF H H2->(∀b,b∉L->H b≠none->H2 b=H b)->Rep K H2 d2 v L2->(∀a∈L2,a∈L\/H a=none)->L2.Nodup->SOk K Γ B H2 σ (τ.set i (some d2)) []:=by
 obtain⟨Ls,h1,h2,h3,h4,h5,h6⟩:=h.ex;obtain⟨v,d,e1,e2,r⟩:=h1 i _ e (by simp);refine⟨v,d,Ls i,e1,e2,r,(h2 i e).1,(h2 i e).2,?_⟩;intro H2 d2 L2 tf kp r2 sub nd;have hτ:i<τ.length:=(tJ.mp e2).1;have notL:∀b,B b≠none->b∉Ls i:=fun b hb hm=>hb ((h2 i e).2 b hm);refine⟨fun b o q=>?_,h.lσ,by rw[sD];exact h.lτ,Vx Ls i L2,fun j c ej hc=>?_,fun j ej=>?_,fun j k c hjk ej ek hc a ha hm=>?_,rN,fun a ha=>(nomatch ha),fun j c ej hc a ha hm=>(nomatch hm)⟩
 ·have hq:=h.ext b o q;rw[kp b (notL b (by rw[q];simp)) (by rw[hq];simp)];exact hq
 ·by_cases z:j=i
  ·subst z;refine⟨v,d2,e1,by rw[tZ hτ],?_⟩;rw[yg];exact r2
  ·obtain⟨v',d',q1,q2,r'⟩:=h1 j c ej hc;refine⟨v',d',q1,by rw[tY (Ne.symm z)];exact q2,?_⟩;rw[y9 z];exact Rep.keep tf d' v' _ r' fun a ha=>kp a (fun hm=>h3 i j c (Ne.symm z) e ej hc a hm ha) (r'.there ha)
 ·by_cases z:j=i
  ·subst z;rw[yg];refine⟨nd,fun a ha=>?_⟩;rcases sub a ha with m|m
   ·exact (h2 _ e).2 a m
   ·exact h.ext.non m
  ·rw[y9 z];exact h2 j ej
 ·by_cases z:j=i
  ·subst z;rw[yg]at ha;rw[y9 (Ne.symm hjk)]at hm;rcases sub a ha with m|m
   ·exact h3 _ k c hjk e ek hc a m hm
   ·obtain⟨v',d',q1,q2,r'⟩:=h1 k c ek hc;exact r'.there hm m
  ·rw[y9 z]at ha
   by_cases z2:k=i
   ·subst z2;rw[yg]at hm;rcases sub a hm with m|m
    ·exact h3 j _ _ hjk ej e (by simp) a ha m
    ·obtain⟨v',d',q1,q2,r'⟩:=h1 j _ ej (by simp);exact r'.there ha m
   ·rw[y9 z2]at hm;exact h3 j k c hjk ej ek hc a ha hm
open PySem PySem.Spec PyProof.Rows PySem.Builtin.Str
def z1w:V->List V->Hp->VK->Prop:=fun x xs H Q=>∃z y,x=.str z/\xs=[.str y]/\Q (.int (Txt.find z y)) H
def Wt:MtR X "str.find" z1w:=by
 intro jNj s σ H x xs v us Q I rx rs h;obtain⟨z,y,rfl,rfl,q⟩:=h;obtain⟨t,rfl⟩:=rx;obtain⟨u,rfl,ru⟩:=wD rs;obtain⟨t2,rfl⟩:=ru;exact SC.find ⟨.int (Txt.find z y),H,I.tok _,⟨_,rfl⟩,q⟩
def jW (z:Str):List D->R D
 | [.str y]=>.ok (.int (Txt.find z y))
 | _=>.bad
def z1o {K:jJa}{H:Hp}{y:Str}{vs:List V}{L:List Addr}(r:Reps K H [.str y] vs L):vs=[.str y]:=by
 obtain⟨v,vs',L1,L2,e1,_,r1,r2⟩:=r;rw[e1,r1.1,r2.1]
def Jz (z:Str):yX (jW z):=fun ds n h=>by
 unfold jW at h;split at h<;>cases h
def Qk {K:jJa}:SmB K z1w jW:=by
 rintro H z xs ds L Q rs ⟨d,hg,q⟩;unfold jW at hg;split at hg
 ·rename_i y;cases hg;exact⟨z,y,rfl,z1o rs,q _ H [] (Same.refl H) ⟨rfl,rfl⟩ (by simp) (fun a ha=>nomatch ha)⟩
 ·cases hg
def UX (z:Str):R D:=if z.length<=5592405 then .ok (.str (Txt.lower z)) else .bad
def z6K:V->List V->Hp->VK->Prop:=fun x xs H Q=>∃z,x=.str z/\xs=[]/\z.length<=5592405/\Q (.str (Txt.lower z)) H
def z2d:MtR X "str.lower" z6K:=by
 intro jNj s σ H x xs v us Q I rx rs h;obtain⟨z,rfl,rfl,hz,q⟩:=h;obtain⟨t,rfl⟩:=rx;cases rs;exact SC.lower (fit_lower hz) ⟨.str (Txt.lower z),H,I.tok _,⟨_,rfl⟩,q⟩
section
def Zc (ho:ME X E Γ o t c)(hbase:autoParam (jKg o "lower" X.env (eval o X.env)=eval o X.env) au3._auto_1)(hline:autoParam ((apos.endLine==cpos.line)=true) au3._auto_1):
  ME X E Γ (.Call (.Attribute o "lower" apos) [] [] cpos) (Xl UX t) .fresh:=by
 obtain⟨te,p,q⟩:=ho;refine⟨_,Ka jQs PySem.F.slot_str_lower PySem.F.type_str_lower z2d p hbase hline,fun O σ H τ Q ok h=>?_⟩;unfold Xl at h;refine q O σ H τ _ ok (post.bind h fun d hd h x H1 L1 s1 r1 _=>?_);cases d with
 | str z =>
  obtain⟨rfl,_⟩:=r1;dsimp only at h;unfold UX at h
  by_cases hz:z.length<=5592405
  ·rw[jNk hz]at h;exact⟨rfl,z,rfl,rfl,hz,h _ H1 [] s1 ⟨rfl,rfl⟩ ⟨by simp,fun a ha=>nomatch ha⟩⟩
  ·rw[jPa hz]at h;exact h.elim
 | _=>exact h.elim
end
def inS (a b:Str):Bool:=!(occurrences b a 0 b.length 1).isEmpty
def z53:R2:=fun x y H Q=>∃a b,x=.str a/\y=.str b/\Q (.bl (inS a b)) H
def Xc:OpR X (jMi .In) z53:=by
 intro jNj s σ H x y v u Q I rx ry h;obtain⟨a,b,rfl,rfl,q⟩:=h;obtain⟨t,rfl⟩:=rx;obtain⟨t',rfl⟩:=ry;exact in_str ⟨.bl (inS a b),H,I,rfl,q⟩
def YL:D->D->R D
 | .str a,.str b=>.ok (.bl (inS a b))
 | _,_=>.bad
def VI:xn YL:=fun x y n h=>by
 unfold YL at h;split at h<;>cases h
def VN {K:jJa}:OpB K z53 YL:=by
 rintro H x y dx dy Lx Ly Q rx ry ⟨d,hg,q⟩;unfold YL at hg;split at hg
 ·cases hg;exact⟨_,_,rx.1,ry.1,q _ H [] (Same.refl H) ⟨rfl,rfl⟩ (by simp) (fun a ha=>nomatch ha)⟩
 ·cases hg
def XW {α:Type}(t:Sem α):Prop:=∀(M:Model) (Γ:PySem.Ctx) (Q:α->Pos->jNg->Prop) (E:Value->Pos->jNg->Prop) (p:Pos) (s:jNg),Sem.wp M Γ t Q E p s->Sem.wp M Γ t (fun a p' s'=>0<s'.toks/\Q a p' s') E p s
def wL {α β:Type}{m:Sem α}{f:α->Sem β}(h:XW m):XW (m >>= f):=fun M Γ Q E p s hw=>by
 rw[Sem.wp_bind']at hw ⊢;refine Sem.wp_mono M Γ m (fun a p' s' h'=>?_) (fun _ _ _ h=>h) p s (h M Γ _ E p s hw);exact Sem.wp_mono M Γ (f a) (fun _ _ _ h=>h) (fun _ _ _ h=>h.2) p' s' (Sem.wp_toks M Γ 1 (f a) Q E p' s' h'.1 h'.2)
def uS {α β:Type}{m:Sem α}{f:α->Sem β}(h:∀a,XW (f a)):XW (m >>= f):=fun M Γ Q E p s hw=>by
 rw[Sem.wp_bind']at hw ⊢;exact Sem.wp_mono M Γ m (fun a p' s' h'=>h a M Γ Q E p' s' h') (fun _ _ _ h=>h) p s hw
def WN:XW PySem.fresh:=fun M Γ Q E p s hw=>⟨Nat.succ_pos _,hw⟩
def V2 {a:Addr}{x:Str}{v:Value}:XW (nsSet a x v):=uS fun _=>wL (wL WN)
def WZ {env:Env}{x:Str}{v:Value}(hk:env.scope.kind=.function)(hl:env.kindOf x=some .local):XW (storeName env x v):=by
 have e:storeName env x v=nsSet env.locals x v:=by
  unfold storeName;rw[hl,hk]
  rfl
 rw[e];exact V2
def Km {scope:Scope}{globals:Addr}{binds:List (Str×Value)}{qual:Str}{func:Option Addr}{code:Value}{builtins:Addr}(hk:scope.kind=.function)(hx:∃x v r,binds=(x,v)::r/\scope.names.lookup x=some .local):
  XW (newFunctionEnv scope globals [] binds qual func code none builtins):=by
 obtain⟨x,v,r,rfl,hx⟩:=hx;simp only[newFunctionEnv,Option.isSome_none,pB,if_false];refine uS fun L=>uS fun cells=>wL ?_;rw[rQ];exact wL (wL (WZ hk hx))
def KI {scope:Scope}{globals:Addr}{binds:List (Str×Value)}{qual:Str}{func:Option Addr}{code:Value}{builtins:Addr}{M:Model}{A:jNf}{E:Value->jNg->Prop}{s:jNg}{Q:Env->jNg->Prop}(hk:scope.kind=.function)(hx:∃x v r,binds=(x,v)::r/\scope.names.lookup x=some .local)
  (h:jNi M A (newFunctionEnv scope globals [] binds qual func code none builtins) (fun env s'=>0<s'.toks->Q env s') E s):jNi M A (newFunctionEnv scope globals [] binds qual func code none builtins) Q E s:=fun Γ p hΓ =>
 Sem.wp_mono M Γ _ (fun a p' s' h=>h.2 h.1) (fun _ _ _ h=>h) p s (Km hk hx M Γ _ _ p s (h Γ p hΓ))
def Xb (X:Cx)(st:List Stmt)(t:TS):Prop:=
 ∀(jNj:List (Addr×Obj)) (s:jNg) (σ:St) (H:Hp) (D:Ends),0<s.toks->Inv X jNj σ H s->t D σ H->jNi (model X.prog X.w) X.A (execs st X.env) (SP X jNj D) X.xe s
def PEp (X:Cx)(e:Expr)(t:TE):Prop:=
 ∀(jNj:List (Addr×Obj)) (s:jNg) (σ:St) (H:Hp) (Q:VK),0<s.toks->Inv X jNj σ H s->t σ H Q->jNi (model X.prog X.w) X.A (eval e X.env) (EP X jNj σ Q) X.xe s
theorem PE.p {X:Cx}{e:Expr}{t:TE}(h:PE X e t):PEp X e t:=fun jNj s σ H Q _ I=>h jNj s σ H Q I
theorem PEp.up {X:Cx}{e:Expr}{t:TE}(h:PEp X e t){jNj:List (Addr×Obj)}{s:jNg}{σ:St}{H:Hp}{Q:VK}(hs:0<s.toks)(I:Inv X jNj σ H s)(ht:t σ H Q):jNi (model X.prog X.w) X.A (eval e X.env) (fun v s'=>0<s'.toks/\EP X jNj σ Q v s') X.xe s:=
 jMg (wpAny_toks_of (n:=1) hs (h jNj s σ H Q hs I ht)) (fun _ _ h=>h) fun _ _ h=>h.2
section
variable {X:Cx}{o:Expr}{to:TE}{a b:Str}{j1 j2:Nat}{p1 p2 apos cpos:Pos}
def QP (ho:PEp X o to)(hab:(a==b)=false)(hb:b.length<=14)
  (hbase:autoParam (jKg o "replace" X.env (eval o X.env)=eval o X.env) au3._auto_1)
  (hfew:autoParam (((jNh cpos (jNc [.Constant (.str a) j1 p1,.Constant (.str b) j2 p2] X.env)).all (fun x=>!x.1)&&(jNa cpos (jMa [] X.env)).all (fun x=>x.1.isSome)
   && decide ([Expr.Constant (.str a) j1 p1,.Constant (.str b) j2 p2].length+([]:List jNd).length+(if ([]:List jNd).isEmpty then 0 else 1)<30))=true) au3._auto_1)
  (hline:autoParam ((apos.endLine==cpos.line)=true) au3._auto_1) (hs:autoParam (jNc [.Constant (.str a) j1 p1,.Constant (.str b) j2 p2] X.env=[(false,eval (.Constant (.str a) j1 p1) X.env),(false,eval (.Constant (.str b) j2 p2) X.env)]) au3._auto_1):
  PEp X (.Call (.Attribute o "replace" apos) [.Constant (.str a) j1 p1,.Constant (.str b) j2 p2] [] cpos) (fun σ H Q=>to σ H fun x H1=>∃z,x=.str z/\z.length<=1048576/\Q (.str (Txt.replace z a b)) H1):=by
 intro jNj s σ H Q htk I h;refine wpAny_Call_method_late hbase hfew hline rfl (thn (ho.up htk I h) fun v s1 h1=>?_);obtain⟨tk1,x,H1,I1,r1,z,rfl,hz,q1⟩:=h1;obtain⟨t,rfl⟩:=r1;refine⟨"str","str.replace",jQs,PySem.F.slot_str_replace,PySem.F.type_str_replace,typeIs_str _ _ _,?_,?_⟩
 ·exact fun y e=>by cases e
 rw[hs];refine Calls.callWith_builtin rfl (Calls.evalArgs_plain ?_);show jNi _ _ (spliced [(false,eval (.Constant (.str a) j1 p1) X.env),(false,eval (.Constant (.str b) j2 p2) X.env)]) _ _ _;refine Calls.spliced_cons (Calls.Constant_str (k:=j1) (pos:=p1) (Calls.spliced_cons (Calls.Constant_str (k:=j2) (pos:=p2) (Calls.spliced_nil ?_))));exact SC.replaceW (by show s1.toks≠0;omega) (by show s1.toks+1≠0;omega) (by show s1.toks≠s1.toks+1;omega) hab hz hb fun t' k=>⟨.str (Txt.replace z a b),H1,I1.tok _,⟨t',rfl⟩,q1⟩
end
section
def z3t {CX:CXT}{P:jNe}{w:World}{K:jJa}{mg:Str->Option Value}{base:Heap}{k:Nat}{f:Addr}{name qual:Str}{params:Arguments}{body:List Stmt}{scope:Scope}{dV kV doc pm cdv ct oc:Value}{an od:Option Addr}
  {osl:Array (Option Value)} {N ps:List Str} {sp:Sp} (lk:K.lookup f=some ⟨oc,od,.func (jJc name qual params body scope dV kV doc pm an cdv ct),osl⟩) (hcd:jJg K cdv qual=true) (S:FnScope N ps scope)
  (hloc:∃x r,ps=x::r/\scope.names.lookup x=some .local) (len:∀vs H Q E,sp vs H Q E->vs.length=ps.length)
  (hbody:∀(A:jNf) (outer:List Env) (s:jNg) (H:Hp) (vs:List V) (Q:VK) (E:XK),Room k (A.deeper (envOfC qual scope s.heap.objs.size f cdv))->sp vs H Q E ->
   ∃t,Xb (yZ CX P w K mg base N qual scope f cdv A outer s H E) body t/\t { nx:=fun _ H'=>Q .non H',rt:=Q } (start N vs) H):
  FnOk P w K mg base CX (k+1) f (jJc name qual params body scope dV kV doc pm an cdv ct) ps sp:=by
 refine⟨len,fun A outer s H args us vs Q E hr e0 hb r hsp=>?_⟩;have hl:=len _ _ _ _ hsp;have KX:K.In s.heap:=e0.mod.kin.keeps fun b o e=>(e0.bs b o e).1;have lim:s.heap.NoLimit:=e0.mod.nolimit.keeps fun b o e=>(e0.bs b o e).1;have hkind:∀y∈ps.zip us,scope.names.lookup y.1=some .local\/(scope.names.lookup y.1=some .cell/\((cellsFrom (s.heap.objs.size+1) scope.names []).lookup y.1).isSome=true):=fun⟨n,v⟩ hy=>by
  rcases S.par n (List.of_mem_zip hy).1 with q|q
  ·exact .inl q
  ·exact .inr ⟨q,jJo _ _ _ (.inl q)⟩
 refine codeAny_call_function hr.depth (KX _ _ lk) rfl S.co S.gen rfl (jJy KX hcd) (hb _ _ _ _ ?_);have hlu:us.length=ps.length:=by rw[<-r.length,hl]
 refine KI S.kind (by
  obtain⟨y,q,rfl,hy⟩:=hloc;cases us with
  | nil=>cases hlu
  | cons u us=>exact⟨y,u,_,rfl,hy⟩) (wpAny_newFunctionEnv_cells S.kind hkind fun env he s1 x htk=>?_)
 subst he;refine⟨lim.keeps x.toInCall.keep,codeAny_func ?_⟩;obtain⟨t,ht,hq⟩:=hbody A outer s H vs Q E (hr.deeper _) hsp;have I:Inv (yZ CX P w K mg base N qual scope f cdv A outer s H E) [] (start N vs) H s1:=Y1 S hr.hd e0 hl r x;refine jMg (ht [] s1 (start N vs) H _ htk I hq) (fun fl s' hs=>?_) fun e s' hs=>hs;have fin:∀ {σ':St} {H':Hp} {v:V} {u:Value},Inv (yZ CX P w K mg base N qual scope f cdv A outer s H E) [] σ' H' s'->RelV v u->Q v H'->CE outer P w H s Q u s' :=
  fun {σ' H' v u} J rv q=>⟨v,H',J.os,J.bare,J.base,J.hok,rv,q⟩
 cases fl with
 | ret u =>
  obtain⟨v,σ',H',J,rv,q⟩:=hs;exact fin J rv q
 | next =>
  obtain⟨σ',H',J,q⟩:=hs;exact fin (v:=V.non) (u:=Value.none) J rfl q
 | brk =>
  obtain⟨_,_,_,q⟩:=hs;exact False.elim q
 | cont =>
  obtain⟨_,_,_,q⟩:=hs;exact False.elim q
end
def MEp (X:Cx)(E:XK)(Γ:List Cl)(e:Expr)(t:Tn->R D)(c:Rc):Prop:=
 ∃te,PEp X e te/\∀O σ H τ Q,EOk X.K Γ O H σ τ->post X.K E O c H Q (t τ)->te σ H Q
def Xg (X:Cx)(E:XK)(Γl Γ:List Cl)(s:List Stmt)(t:Tn->R Fl)(Γ':List Cl):Prop:=
 ∃ts,Xb X s ts/\∀B σ H τ Z,SOk X.K Γ B H σ τ []->uw X.K E B Γl Γ' Z (t τ)->ts Z σ H
def Y8 (a b:Str):D->R D
 | .str z=>if z.length<=1048576 then .ok (.str (Txt.replace z a b)) else .bad
 | _=>.bad
section
variable {j1 j2:Nat}
theorem ME.p (h:ME X E Γ e t c):MEp X E Γ e t c:=by
 obtain⟨te,p,q⟩:=h;exact⟨te,p.p,q⟩
def qM (ho:MEp X E Γ o t c)(hab:(a==b)=false)(hb:b.length<=14)
  (hbase:autoParam (jKg o "replace" X.env (eval o X.env)=eval o X.env) au3._auto_1)
  (hfew:autoParam (((jNh cpos (jNc [.Constant (.str a) j1 p1,.Constant (.str b) j2 p2] X.env)).all (fun x=>!x.1)&&(jNa cpos (jMa [] X.env)).all (fun x=>x.1.isSome)
   && decide ([Expr.Constant (.str a) j1 p1,.Constant (.str b) j2 p2].length+([]:List jNd).length+(if ([]:List jNd).isEmpty then 0 else 1)<30))=true) au3._auto_1)
  (hline:autoParam ((apos.endLine==cpos.line)=true) au3._auto_1) (hs:autoParam (jNc [.Constant (.str a) j1 p1,.Constant (.str b) j2 p2] X.env=[(false,eval (.Constant (.str a) j1 p1) X.env),(false,eval (.Constant (.str b) j2 p2) X.env)]) au3._auto_1):
  MEp X E Γ (.Call (.Attribute o "replace" apos) [.Constant (.str a) j1 p1,.Constant (.str b) j2 p2] [] cpos) (eUn (Y8 a b) t) .fresh:=by
 obtain⟨te,p,q⟩:=ho;refine⟨_,QP p hab hb hbase hfew hline hs,fun O σ H τ Q ok h=>?_⟩;unfold eUn at h;refine q O σ H τ _ ok (post.bind h fun d hd h x H1 L1 s1 r1 _=>?_);cases d with
 | str z =>
  obtain⟨rfl,_⟩:=r1;have h:post X.K E O .fresh H Q (if z.length<=1048576 then .ok (.str (Txt.replace z a b)) else .bad):=h
  by_cases hz:z.length<=1048576
  ·rw[jNk hz]at h;exact⟨z,rfl,hz,h _ H1 [] s1 ⟨rfl,rfl⟩ ⟨by simp,fun a ha=>nomatch ha⟩⟩
  ·rw[jPa hz]at h;exact h.elim
 | _=>exact h.elim
def z1p (h:MEp X E Γ e t .fresh):Xg X E Γl Γ [.Return (some e) pos] (zx t) Γ':=by
 obtain⟨te,p,q⟩:=h;refine⟨z3G te,fun jNj s σ H D htk I h=>?_,fun B σ H τ Z ok h=>?_⟩
 ·refine jKa (wpAny_Return_some (thn (p jNj s σ H _ htk I h) fun v s1 h1=>?_));obtain⟨x,H1,I1,r1,q1⟩:=h1;exact⟨x,σ,H1,I1,r1,q1⟩
 ·obtain⟨O,eo,_⟩:=ok.eok;refine q O σ H τ _ eo ?_;unfold zx at h;cases ht:t τ with
  | ok d =>
   rw[ht,jYa]at h;exact fun v H' L s r k=>h v H' L (ok.ext.trans s) r k.1 fun a ha=>ok.ext.non (k.2 a ha)
  | err n=>rw[ht]at h;exact fun C H' e s=>h C H' e (ok.ext.trans s)
  | bad=>rw[ht]at h;exact h
end
section
variable {P:jNe}{w:World}{K:jJa}{mg:Str->Option Value}{base:Heap}{x:Str}{st:Stmt}{N ps:List Str}{k:Nat}{t:Tn->R Fl}{Γ':List Cl}
theorem DefIn.mirT (Df:DefIn K mg x st ps)(S:FnScope N ps (defScope st))(hn:ps.length<=N.length)(hloc:∃x r,ps=x::r/\(defScope st).names.lookup x=some .local)
  (hbody:∀(f:Addr) (cdv:Value) (A:jNf) (outer:List Env) (s:jNg) (H:Hp) (E:XK),Room k (A.deeper (envOfC x (defScope st) s.heap.objs.size f cdv)) ->
   Xg (yZ (cxx P w) P w K mg base N x (defScope st) f cdv A outer s H E) E [] (jG N.length ps.length) (defBody st) t Γ'):Own P w K mg base x (k+1) ps (spM K (zF N.length t) ps.length):=by
 obtain⟨f,fd,F,hm,hb⟩:=Df.ex;obtain⟨oc,od,kV,doc,pm,an,cdv,ct,osl,rfl,lk,hcd⟩:=F.ex;refine⟨f,_,z3t lk hcd S hloc (fun vs H Q E h=>h.1) fun A outer s H vs Q E hr h=>?_,hm,F.kp,hb⟩;obtain⟨hl,ds,L,r,h⟩:=h;obtain⟨ts,p,q⟩:=hbody f cdv A outer s H E hr;refine⟨ts,p,q H (start N vs) H _ _ (hl▸SOk.start r (by lia)) ?_⟩;unfold zF at h;cases ht:t (ds.map some++List.replicate (N.length-ds.length) none)with
 | ok f =>
  rw[ht]at h;cases f with
  | nx τ'=>exact fun σ' H' ok'=>h .non H' [] ok'.ext ⟨rfl,rfl⟩ RcOk.nil
  | rt d=>exact fun v H' L s r n1 n2=>h v H' L s r ⟨n1,n2⟩
  | bk τ'=>exact h.elim
  | ct τ'=>exact h.elim
 | err n=>rw[ht]at h;exact fun C H' e s=>h C H' e s
 | bad=>rw[ht]at h;exact h.elim
end
section
open PySem.SeqAt PySem.MeetsSeq3
open PySem.AutoSeq1 (wpAny_loadPart')
def Zk (l b:Addr)(items items2:Array Value)(n n2:Nat)(dd dd2:Option Addr)(sl sl2:Array (Option Value))(ns ms:List Int)(hi:IntsAre items.toList ns)(hj:IntsAre items2.toList ms)(hsz:ns.length=ms.length):
  Meets (Builtin.«tuple.__gt__» ⟨[.ref l,.ref b],[]⟩)
   (fun A R s=>(s.heap.get? l=some { cls:=.type "tuple",dict:=dd,data:=.seq items n,slots:=sl }/\s.heap.get? b=some { cls:=.type "tuple",dict:=dd2,data:=.seq items2 n2,slots:=sl2 }) /\
    R (.ok (.ret (.bool (jH ns ms)))) s):=
 .of_wp fun prog w A R s h=>by
  have z1:items.size=ns.length:=by have:=hi.length;simpa using this
  have z2:items2.size=ms.length:=by have:=hj.length;simpa using this
  have at1:∀j,(hlt:j<ns.length)->∃t,items[j]?=some (.int ns[j] t):=fun j hlt=>by
   have h0:j<items.toList.length:=by simp;lia
   obtain⟨t,e⟩:=PyProof.Rows.IntsAre.int_at hi j _ (tG h0);refine⟨t,?_⟩;rw[<-Array.getElem?_toList,tG h0,e,sN,tG hlt]
   rfl
  have at2:∀j,(hlt:j<ms.length)->∃t,items2[j]?=some (.int ms[j] t):=fun j hlt=>by
   have h0:j<items2.toList.length:=by simp;lia
   obtain⟨t,e⟩:=PyProof.Rows.IntsAre.int_at hj j _ (tG h0);refine⟨t,?_⟩;rw[<-Array.getElem?_toList,tG h0,e,sN,tG hlt]
   rfl
  obtain⟨hp,g,d,tk,os⟩:=s;obtain⟨⟨hl,hb⟩,h⟩:=h;have f2:=AutoSeq1.sub_tuple_tuple;have hZ:(items.toList.zip items2.toList).length=ns.length:=by simp;lia
  wp_walk using jKd hl,jKd hb,wpAny_forIn_list _ (fun rest b s'=>b.1=none/\s'=⟨hp,g,d,tk,os⟩/\∃i,rest=(items.toList.zip items2.toList).drop i/\R (.ok (.ret (.bool (jH (ns.drop i) (ms.drop i))))) ⟨hp,g,d,tk,os⟩) _
  case turn =>
   rintro⟨x,y⟩ rest b' s' ⟨hb',rfl,i,hz,hR⟩;have hlt:i<ns.length:=by
    rcases Nat.lt_or_ge i (items.toList.zip items2.toList).length with h'|h'
    ·lia
    ·rw[List.drop_of_length_le h']at hz;cases hz
   have h2:i<ms.length:=by lia
   rw[sQ (by lia)]at hz;obtain⟨t,a1⟩:=at1 i hlt;obtain⟨u,a2⟩:=at2 i h2;have e0:(x,y)=(items.toList.zip items2.toList)[i]'(by lia):=(List.cons.inj hz).1;have hrest:=(List.cons.inj hz).2;rw[List.getElem_zip]at e0;have ex:x=.int ns[i] t:=by
    have:=congrArg Prod.fst e0;rw[show x=items.toList[i]'(by simp;lia) from this];have a1':items.toList[i]?=some (.int ns[i] t):=by simpa using a1
    rw[tG (by simp;lia)]at a1';exact jYe a1'
   have ey:y=.int ms[i] u:=by
    have:=congrArg Prod.snd e0;rw[show y=items2.toList[i]'(by simp;lia) from this];have a2':items2.toList[i]?=some (.int ms[i] u):=by simpa using a2
    rw[tG (by simp;lia)]at a2';exact jYe a2'
   subst ex ey;have d1:ns.drop i=ns[i]::ns.drop (i+1):=sQ hlt;have d2:ms.drop i=ms[i]::ms.drop (i+1):=sQ h2;rw[d1,d2]at hR;refine jMf ((SeqAt.EqAt.int_int (A:=A.in1) (s:=⟨hp,g,d,tk,os⟩) ns[i] t ms[i] u) prog w _ _ ?_)
   by_cases he:ns[i]=ms[i]
   ·have hb2:(ns[i]==ms[i])=true:=by simpa using he
    rw[hb2];have hx:jH (ns[i]::ns.drop (i+1)) (ms[i]::ms.drop (i+1))=jH (ns.drop (i+1)) (ms.drop (i+1)):=jNk he;rw[hx]at hR
    wp_walk
    exact⟨rfl,rfl,i+1,hrest,hR⟩
   ·have hb2:(ns[i]==ms[i])=false:=by simpa using he
    rw[hb2];have hx:jH (ns[i]::ns.drop (i+1)) (ms[i]::ms.drop (i+1))=decide (ns[i]>ms[i]):=jPa he;rw[hx]at hR;have hri:=Ki A.in1 ⟨hp,g,d,tk,os⟩ ns[i] t ms[i] u prog w
    wp_walk using hri
    exact⟨_,rfl,hR⟩
  case fin =>
   rintro⟨b1,b2⟩ s' ⟨hb',rfl,i,hz,hR⟩;simp only at hb';subst hb';have hge:ns.length<=i:=by
    rcases Nat.lt_or_ge i (items.toList.zip items2.toList).length with h'|h'
    ·rw[sQ h']at hz;cases hz
    ·lia
   rw[List.drop_of_length_le hge]at hR;have hR:R (.ok (.ret (.bool false))) ⟨hp,g,d,tk,os⟩:=hR
   wp_walk
   exact⟨_,rfl,by
    have e:decide (items.size>items2.size)=false:=decide_eq_false (by lia)
    simpa [Builtin.Tuple.tupleCompareSizes,e,z1,z2,hsz] using hR⟩
  case h =>
   exact⟨rfl,rfl,0,rfl,h⟩
end
def z67 (K:jJa):R2:=fun x y H Q=>∃a b ns ms,x=.ref a/\y=.ref b/\SqT K H a (ns.map V.int)/\SqT K H b (ms.map V.int)/\ns.length=ms.length/\Q (.bl (jH ns ms)) H
def z3x (hu:X.A.units<cLine):OpR X (jMi .Gt) (z67 X.K):=by
 intro jNj s σ H x y v u Q I rx ry h;obtain⟨a,b,ns,ms,rfl,rfl,ha,hb,hsz,q⟩:=h;cases rx;cases ry;obtain⟨its,r1,p1,_⟩:=I.tuple ha;obtain⟨its2,r2,p2,_⟩:=I.tuple hb;have i1:IntsAre its.toArray.toList ns:=uZ r1;have i2:IntsAre its2.toArray.toList ms:=uZ r2;obtain⟨⟨cls,dd,data,sl⟩,ho,hc,n,hd⟩:=p1;obtain⟨⟨cls2,dd2,data2,sl2⟩,ho2,hc2,n2,hd2⟩:=p2;simp only at hc hd hc2 hd2;subst hc hd hc2 hd2;exact richCompare_meets_room (op:=.Gt) ⟨_,ho,rfl⟩ ⟨_,ho2,rfl⟩ PySem.F.slot_tuple_gt PySem.F.entry_tuple_gt (PySem.F.args_tuple_gt_2 _ _) (Zk a b _ _ n n2 dd dd2 sl sl2 ns ms i1 i2 hsz)
  ⟨⟨ho,ho2⟩,show Value.bool (jH ns ms)≠Value.notImplemented/\EP X jNj σ Q (.bool (jH ns ms)) s from⟨(fun x=>nomatch x),.bl (jH ns ms),H,I,rfl,q⟩⟩ hu
noncomputable def gtT:D->D->R D
 | .tup ds,.tup es=>(match xW ds,xW es with
  | some ns,some ms=>if ns.length=ms.length then .ok (.bl (jH ns ms)) else .bad
  | _,_=>.bad)
 | _,_=>.bad
def z4W:xn gtT:=fun x y n h=>by
 unfold gtT at h;split at h
 ·split at h
  ·split at h<;>cases h
  ·cases h
 ·cases h
def z68 {K:jJa}:OpB K (z67 K) gtT:=by
 rintro H x y dx dy Lx Ly Q rx ry ⟨d,hg,q⟩;unfold gtT at hg;split at hg
 ·split at hg
  ·rename_i ns ms h1 h2;split at hg
   ·rename_i hsz;cases hg;obtain⟨a,vs,rfl,ha,rs⟩:=rx;obtain⟨b,vs2,rfl,hb,rs2⟩:=ry;refine⟨a,b,ns,ms,rfl,rfl,?_,?_,hsz,q _ H [] (Same.refl H) ⟨rfl,rfl⟩ (by simp) (fun a ha=>nomatch ha)⟩
    ·rw[<-x4 rs h1];exact ha
    ·rw[<-x4 rs2 h2];exact hb
   ·cases hg
  ·cases hg
 ·cases hg
def SuiteA (X:Cx)(CS:Addr)(i j:Nat)(sts:List Stmt)(g:Str->Option Int):Prop:=∀(m:Str) (k:Int),g m=some k->∀C,ErrC X.K m C->jJd X.K (.ref C) (.ref CS)=some true /\
 ∃ts:Addr->Obj->TS,(∀e oe,PSs (X.within e oe) sts (ts e oe))/\∀e oe (Z:Ends) (σ:St) (H:Hp) (n:Int),σ.length=X.N.length->oe.cls=.ref C->H e=none->σ[i]?=some (some (.ref e))->σ[j]?=some (some (.int n))->(∀H',Same H H'->Z.nx (σ.set j (some (.int (n+k)))) H')->ts e oe Z σ H
def SuiteA.ts {X:Cx}{CS:Addr}{i j:Nat}{sts:List Stmt}{g:Str->Option Int}(hs:SuiteA X CS i j sts g)(e:Addr)(oe:Obj):TS:=fun Z σ H=>∃(m:Str) (k:Int) (hg:g m=some k) (C:Addr) (hC:ErrC X.K m C),Classical.choose (hs m k hg C hC).2 e oe Z σ H
section
def Wz (h:∃t,X.mg x=some (.str z t))(hg:autoParam (Gl X x) au10._auto_1)(hd:autoParam ((x==("__debug__":Str))=false) au1._auto_1):ME X E Γ (.Name x pos) (eC (.str z)) .fresh:=by
 obtain⟨t,ht⟩:=h;exact Uk (U6 (v:=.str z) hg ht ⟨t,rfl⟩ hd) fun _=>⟨rfl,rfl⟩
def QF {i:Int}(h:∃t,X.mg x=some (.int i t))(hg:autoParam (Gl X x) au10._auto_1)(hd:autoParam ((x==("__debug__":Str))=false) au1._auto_1):ME X E Γ (.Name x pos) (eC (.int i)) .fresh:=by
 obtain⟨t,ht⟩:=h;exact Uk (U6 (v:=.int i) hg ht ⟨t,rfl⟩ hd) fun _=>⟨rfl,rfl⟩
end
def upT {α:Type}{M:Model}{A:jNf}{t:Sem α}{Q:α->jNg->Prop}{E:Value->jNg->Prop}{s:jNg}(hs:0<s.toks)(h:jNi M A t Q E s):jNi M A t (fun v s'=>0<s'.toks/\Q v s') E s:=
 jMg (wpAny_toks_of (n:=1) hs h) (fun _ _ h=>h) fun _ _ h=>h.2
def PST (X:Cx)(st:Stmt)(t:TS):Prop:=
 ∀(jNj:List (Addr×Obj)) (s:jNg) (σ:St) (H:Hp) (D:Ends),0<s.toks->Inv X jNj σ H s->t D σ H->jNi (model X.prog X.w) X.A (exec st X.env) (SP X jNj D) X.xe s
theorem PS.tt {X:Cx}{st:Stmt}{t:TS}(h:PS X st t):PST X st t:=fun jNj s σ H D _ I=>h jNj s σ H D I
theorem PSs.tt {X:Cx}{st:List Stmt}{t:TS}(h:PSs X st t):Xb X st t:=fun jNj s σ H D _ I=>h jNj s σ H D I
section
variable {X:Cx}{st:Stmt}{rest:List Stmt}{t u:TS}
def Ql (h1:PST X st t)(h2:Xb X rest u):Xb X (st::rest) (z03 t u):=by
 intro jNj s σ H D htk I h;refine jKa (thn (upT htk (h1 jNj s σ H { D with nx:=u D } htk I h)) fun f s1 ⟨tk1,q⟩=>?_);cases f with
 | next =>
  obtain⟨σ',H',I',q⟩:=q;exact h2 jNj s1 σ' H' D tk1 I' q
 | ret v=>exact q
 | brk=>exact q
 | cont=>exact q
def z0e (h1:PST X st t):Xb X [st] t:=by
 intro jNj s σ H D htk I h;refine jKa (thn (h1 jNj s σ H D htk I h) fun f s1 q=>?_);cases f with
 | next=>exact jKc q
 | ret v=>exact q
 | brk=>exact q
 | cont=>exact q
end
section
variable {X:Cx}{tg:Expr}
def KZ {iter:Expr}{body:List Stmt}{wi:TI}{g:TG}{tb:TS}{pos:Pos}(hp:jMk (model X.prog X.w) X.A X.env X.xe)(hc:X.calm=true)(hi:PI X tg iter wi)(hg:PG X tg g)(hb:Xb X body tb)
  (hs:autoParam (∀x,jYh iter X.env x=pure x) au2._auto_1):PST X (.For tg iter body [] pos) (z3K wi g tb):=by
 intro jNj s σ H D htk I h;refine wpAny_For (thn (upT htk (hi jNj s σ H _ I h)) fun v s1 h1=>thn (upT h1.1 h1.2) fun itv s2 h2=>?_) hs;obtain⟨tk2,it,fp,tn,J,H2,e,I2,T,st2,f2,W,⟨m0,w0⟩,turn⟩:=h2;subst e;have stat:∀ {H':Hp},(∀b∈fp,H' b=none)->∀b∈fp,wH X jNj H' b:=fun hn b hb=>⟨hn b hb,(f2 b hb).2⟩
 refine codeAny_forLoop_any (fun n s'=>0<s'.toks/\∃i σ' H',Inv X jNj σ' H' s'/\tn i s'.heap/\(∀b∈fp,H' b=none)/\W i n σ' H') ?_ m0 ⟨tk2,0,σ,H2,I2,st2,fun b hb=>(f2 b hb).1,w0⟩;rintro n s3 ⟨tk3,i,σ3,H3,I3,st3,fr3,w3⟩;rcases turn i n σ3 H3 w3 with⟨stop,qn⟩|⟨go,N,hN,step⟩
 ·refine jKe hp (thn (T.done X rfl rfl rfl hc i jNj s3 σ3 H3 X.xe I3 (stat fr3) st3 stop) fun r s4 ⟨hr,I4⟩=>?_);subst hr;exact jKc ⟨σ3,H3,I4,qn⟩
 ·refine jKe hp (thn (upT tk3 (T.item X rfl rfl rfl hc i jNj s3 σ3 H3 X.xe I3 (stat fr3) st3 go)) fun r s4 ⟨tk4,u,hr,h4⟩=>?_);subst hr;refine jKe hp (thn (upT tk4 h4) fun _ s5 ⟨tk5,x,H5,I5,r5,y5,st5,fr5⟩=>?_);have I5':=I5.pinned (stat fr5) (T.obj _ _ st5);refine jKe hp (thn (upT tk5 (hg _ s5 σ3 H5 x u _ I5' r5 (step x H5 y5))) fun _ s6 ⟨tk6,σ6,H6,I6,q6⟩=>?_);refine jKe hp (thn (upT tk6 (hb _ s6 σ6 H6 _ tk6 I6 q6)) fun f s7 ⟨tk7,q7⟩=>?_);have again:∀ {σ7:St} {H7:Hp},Inv X (jNj++vW fp s5.heap) σ7 H7 s7->N σ7 H7->∃m,m<n/\0<s7.toks/\∃i σ' H',Inv X jNj σ' H' s7/\tn i s7.heap/\(∀b∈fp,H' b=none)/\W i m σ' H':=fun {σ7 H7} I7 n7=>by
   obtain⟨m',hm,w7⟩:=hN σ7 H7 n7;refine⟨m',hm,tk7,i+1,σ7,H7,I7.unpinned,T.keep _ _ _ st5 fun b hb o e=>(I7.pin (b,o) (tD _ (tD _ (yG hb e)))).1,fun b hb=>?_,w7⟩;obtain⟨o,e,d⟩:=T.obj _ _ st5 b hb;exact (I7.pin (b,o) (tD _ (tD _ (yG hb e)))).2.1
  cases f with
  | next=>obtain⟨σ7,H7,I7,n7⟩:=q7;exact again I7 n7
  | cont=>obtain⟨σ7,H7,I7,n7⟩:=q7;exact again I7 n7
  | brk=>obtain⟨σ7,H7,I7,q7⟩:=q7;exact⟨σ7,H7,I7.unpinned,q7⟩
  | ret v=>obtain⟨x7,σ7,H7,I7,r7,q7⟩:=q7;exact⟨x7,σ7,H7,I7.unpinned,r7,q7⟩
end
def MST (X:Cx)(E:XK)(Γl Γ:List Cl)(s:Stmt)(t:Tn->R Fl)(Γ':List Cl):Prop:=
 ∃ts,PST X s ts/\∀B σ H τ Z,SOk X.K Γ B H σ τ []->uw X.K E B Γl Γ' Z (t τ)->ts Z σ H
section
variable {X:Cx}{E:XK}{Γ Γ1 Γ2 Γ' Γl:List Cl}{pos:Pos}{e:Expr}{t:Tn->R D}{c:Rc}
theorem MS.tt {s:Stmt}{t:Tn->R Fl}(h:MS X E Γl Γ s t Γ'):MST X E Γl Γ s t Γ':=by
 obtain⟨ts,p,q⟩:=h;exact⟨ts,p.tt,q⟩
theorem MSs.tt {s:List Stmt}{t:Tn->R Fl}(h:MSs X E Γl Γ s t Γ'):Xg X E Γl Γ s t Γ':=by
 obtain⟨ts,p,q⟩:=h;exact⟨ts,p.tt,q⟩
def xZ {s:Stmt}{r:List Stmt}{t1 t2:Tn->R Fl}(h:MST X E Γl Γ s t1 Γ1)(k:Xg X E Γl Γ1 r t2 Γ'):Xg X E Γl Γ (s::r) (zh t1 t2) Γ':=by
 obtain⟨ts,p,q⟩:=h;obtain⟨ts',p',q'⟩:=k;refine⟨z03 ts ts',Ql p p',fun B σ H τ Z ok h=>q B σ H τ _ ok ?_⟩;unfold zh at h;cases ht:t1 τ with
 | ok f =>
  rw[ht,jYa]at h;cases f with
  | nx τ'=>exact fun σ' H' ok'=>q' B σ' H' τ' Z ok' h
  | rt d=>exact h
  | bk τ'=>exact h
  | ct τ'=>exact h
 | err n=>rw[ht]at h;exact h
 | bad=>rw[ht]at h;exact h
def Xn {s:Stmt}{t:Tn->R Fl}(h:MST X E Γl Γ s t Γ'):Xg X E Γl Γ [s] t Γ':=by
 obtain⟨ts,p,q⟩:=h;exact⟨ts,z0e p,q⟩
def Ks {tg iter:Expr}{body:List Stmt}{it:Tn->R (List D)}{g:Tgt}{tb:Tn->R Fl}(hp:jMk (model X.prog X.w) X.A X.env X.xe)(hc:X.calm=true)(hi:MI X E Γ tg iter it c)(hcl:c≠.bor)(hg:MG X tg g)
  (hn:∀i∈g.slots,i<Γ.length) (hb:Xg X E Γ (shrAll Γ g.slots) body tb Γ2) (hw:wk Γ2 Γ=true) (hs:autoParam (∀x,jYh iter X.env x=pure x) au2._auto_1):MST X E Γl Γ (.For tg iter body [] pos) (xg it g tb) Γ:=by
 obtain⟨wi,p,q⟩:=hi;obtain⟨ts,p',q'⟩:=hb;exact⟨_,KZ hp hc p hg.pg p' hs,z23 hcl hn hw q q'⟩
end
open PySem PySem.Spec PyProof.Rows PySem.W
open PySem.AutoSeq1 (wpAny_loadPart')
def J8 (X:Cx)(ifs:List Expr)(t:TT):Prop:=
 ∀(jNj:List (Addr×Obj)) (s:jNg) (σ:St) (H:Hp) (Q:Bool->Hp->Prop),0<s.toks->Inv X jNj σ H s->t σ H Q ->
  jNi (model X.prog X.w) X.A (forIn ifs true fun c r=>if r=true then do let ok <-isTrue c X.env (eval c X.env);pure (ForInStep.yield ok) else pure (ForInStep.yield r)) (TP X jNj σ Q) X.xe s
def PTp (X:Cx)(e:Expr)(t:TT):Prop:=
 ∀(jNj:List (Addr×Obj)) (s:jNg) (σ:St) (H:Hp) (Q:Bool->Hp->Prop),0<s.toks->Inv X jNj σ H s->t σ H Q->jNi (model X.prog X.w) X.A (isTrue e X.env (eval e X.env)) (TP X jNj σ Q) X.xe s
def Kc (h:PTp X c t):J8 X [c] t:=fun jNj s σ H Q htk I q=>wpAny_tests_one (h jNj s σ H Q htk I q)
def JV (ho:OpR X (jMi op) r)(ha:PEp X a ta)(hb:PEp X b tb)(hm:behindInMarks op b=false):PTp X (.Compare a [op] [b] pos) (Qy (tOp r ta tb)):=by
 intro jNj s σ H Q htk I h;refine wpAny_isTrue_Compare1 (thn (ha.up htk I h) fun v s1 ⟨tk1,x,H1,I1,r1,q1⟩=>thn (hb jNj s1 σ H1 _ tk1 I1 q1) fun u s2 ⟨y,H2,I2,r2,q2⟩ =>
  thn (ho jNj s2 σ H2 x y v u _ I2 r1 r2 q2) fun c s3 ⟨z,H3,I3,r3,k,e,q3⟩=>?_) hm
 subst e;cases r3;exact jYj ⟨H3,I3,q3⟩
def z2b (hc:PTp X c tc)(ha:Xb X a t)(hb:Xb X b u):PST X (.If c a b pos) (z1d tc t u):=by
 intro jNj s σ H D htk I h;refine wpAny_If (thn (upT htk (hc jNj s σ H _ htk I h)) fun d s1 ⟨tk1,H1,I1,q1⟩=>?_);cases d with
 | true=>exact ha jNj s1 σ H1 D tk1 I1 q1
 | false=>exact hb jNj s1 σ H1 D tk1 I1 q1
def UB {fr:List (Option Nat)}(hc:X.calm=true)(S:CompScope X N' fr scope)(hi:PI X tg iter wi)
  (hg:∀s₃ H₃ fp jNj,PG (zA X scope N' s₃ H₃ fp jNj) tg g) (ht:∀s₃ H₃ fp jNj,J8 (zA X scope N' s₃ H₃ fp jNj) ifs tc) (he:∀s₃ H₃ fp jNj,PE (zA X scope N' s₃ H₃ fp jNj) elt te)
  (hs:∀x,jYh iter X.env x=pure x) {jNj:List (Addr×Obj)} {s:jNg} {σ:St} {H:Hp} {Q:VK} (htk:0<s.toks) (I:Inv X jNj σ H s) (h:jg fr wi g tc te σ H Q)
  (hfin:∀(s₃:jNg) (H₃:Hp) (fp:List Addr) (D:Addr) (s6:jNg) (τ:St) (H5:Hp) (fl:Flow),Inv X jNj σ H₃ s₃->(∀b∈fp,wH X jNj H₃ b)->Inv (zA X scope N' s₃ H₃ fp jNj) [] τ H5 s6->Q (.ref D) H5 ->
   compPost (model X.prog X.w) X.A X.xe use Qf (.ref D) s₃.heap.objs.size (.ok fl) s6):
  jNi (model X.prog X.w) X.A (comprehension (.ListComp elt [⟨tg,iter,ifs,0⟩] scope pos) scope X.env cp (newList []) false (eval iter X.env) use) Qf X.xe s:=by
 refine wpAny_comprehension_free (use:=use) rfl hs (wV S.free) S.kind S.loc ?_;refine thn (upT htk (hi jNj s σ H _ I h)) fun v s1 h1=>thn (upT h1.1 h1.2) fun itv s2 h2=>?_;obtain⟨tk2,it,fp,tn,J,H2,rfl,I2,T,st2,f2,hW⟩:=h2;refine jYi ?_ (by size_fits);have hD:H2 s2.heap.objs.size=none:=I2.hok.fresh (tI _);have I3:Inv X jNj σ (upd H2 s2.heap.objs.size (.lst [])) { s2 with heap:=s2.heap.push { cls:=.type "list",data:=.seq ([]:List Value).toArray },toks:=s2.toks }:=
  I2.laid (fun b u e=>jYb _ e) (tI _) ⟨rD _,[],0,.nil,jYd _ rfl⟩
 generalize eD:s2.heap.objs.size=D at I3 hD ⊢;generalize eH:upd H2 D (.lst [])=H3 at I3;have f3:∀b∈fp,wH X jNj H3 b:=fun b hb=>by
  obtain⟨g0,g1⟩:=f2 b hb;refine⟨?_,g1⟩;obtain⟨o,ho,_⟩:=T.obj 0 _ st2 b hb;rw[<-eH,zC (by rw[<-eD];exact tU (jYc ho))];exact g0
 have lt3:∀b∈fp,b<(s2.heap.push { cls:=.type "list",data:=.seq ([]:List Value).toArray }).objs.size:=fun b hb=>by
  obtain⟨o,ho,_⟩:=T.obj 0 _ st2 b hb;rw[Heap.size_push];exact sX (jYc ho)
 have st3:tn 0 (s2.heap.push { cls:=.type "list",data:=.seq ([]:List Value).toArray }):=T.keep _ _ _ st2 fun b _ o e=>jYb _ e;obtain⟨W,⟨m0,w0⟩,turn⟩:=hW D hD;rw[eH]at w0;generalize es3:({ s2 with heap:=s2.heap.push { cls:=.type "list",data:=.seq ([]:List Value).toArray },toks:=s2.toks }:jNg)=s3 at I3;have tk3:0<s3.toks:=by rw[<-es3];exact tk2
 have lt3:∀b∈fp,b<s3.heap.objs.size:=by rw[<-es3];exact lt3
 have st3:tn 0 s3.heap:=by rw[<-es3];exact st3
 refine wpAny_newFunctionEnv S.nocell (by intro y hy;cases hy) (fun h4 hn4 hsb4=>?_) S.kind;have k4:∀b o,s3.heap.get? b=some o->h4.get? b=some o:=fun b o e=>(hsb4.2 b (tU (jYc e))).trans (jYb _ e);have I4:Inv (zA X scope N' s3 H3 fp jNj) [] (xt fr σ) H3 { s3 with heap:=h4,toks:=s3.toks+([]:List (Str×Value)).length }:=VA I3 S f3 lt3 hn4 k4;have st4:tn 0 h4:=T.keep _ _ _ st3 fun b _ o e=>k4 b o e;have stat:∀ {H':Hp} {p':List (Addr×Obj)},p'=[]->(∀b∈fp,H' b=none)->∀b∈fp,wH (zA X scope N' s3 H3 fp jNj) p' H' b:=fun {H' p'} hp hn b hb=>by
  subst hp;obtain⟨g0,g1,g2,g3,g4,g5⟩:=f3 b hb;refine⟨hn b hb,tU (lt3 b hb),fun hm=>?_,.inl hb,fun x c h=>g4 x c (xb S h),fun p hp=>?_⟩
  ·rcases tK.mp (I3.stkSub b hm)with z|z
   ·exact g1 z
   ·exact g2 z
  ·have hp:p∈(X.pn++jNj)++[]:=hp;rw[tQ]at hp;exact g5 p hp
 have loop:∀s':jNg,s'={ s3 with heap:=h4,toks:=s3.toks+([]:List (Str×Value)).length }->codeAny (model X.prog X.w) X.A (.compLoop (.ListComp elt [⟨tg,iter,ifs,0⟩] scope pos) 0 (.ref it) (.ref D) (compEnvC scope (xa X.env.cells scope.names []) s3.heap.objs.size X.env))
   (compPost (model X.prog X.w) X.A X.xe use Qf (.ref D) s3.heap.objs.size) s':=by
  rintro s' rfl;refine codeAny_loop rfl (fun n s'=>0<s'.toks/\∃i ys τ H',Inv (zA X scope N' s3 H3 fp jNj) [] τ H' s'/\tn i s'.heap/\(∀b∈fp,H' b=none)/\W i n ys τ H') ?_ m0 ⟨sC tk3 (Nat.le_add_right _ _),0,[],_,H3,I4,st4,fun b hb=>(f3 b hb).1,w0⟩;rintro n s5 ⟨tk5,i,ys,τ,H5,I5,st5,fr5,w5⟩;show jNi _ X.A ((compTurn (.ListComp elt [⟨tg,iter,ifs,0⟩] scope pos) 0 (.ref it) (.ref D) (compEnvC scope (xa X.env.cells scope.names []) s3.heap.objs.size X.env)).onRaise (fun x=>do noteFrame x (compEnvC scope (xa X.env.cells scope.names []) s3.heap.objs.size X.env);theTreesLotGoes x)) _ _ s5;refine wpAny_noted ?_;rw[compTurn_list];obtain⟨hDy,hor⟩:=turn i n ys τ H5 w5;rcases hor with⟨stop,q⟩|⟨go,step⟩
  ·refine jMf (jKj (jMf (thn (T.done (zA X scope N' s3 H3 fp jNj) rfl rfl rfl hc i [] s5 τ H5 _ I5 (stat rfl fr5) st5 stop) fun r s6 ⟨hr,I6⟩=>?_)));subst hr;exact jMh (hfin s3 H3 fp D s6 τ H5 _ I3 f3 I6 q)
  ·refine jMf (jKj (jMf (thn (upT tk5 (T.item (zA X scope N' s3 H3 fp jNj) rfl rfl rfl hc i [] s5 τ H5 _ I5 (stat rfl fr5) st5 go)) fun r s6 ⟨tk6,u,hr,h6⟩=>?_)));subst hr;refine jMf (thn (upT tk6 h6) fun _ s7 ⟨tk7,x,H7,I7,r7,y7,st7,fr7⟩=>?_);have I7':=I7.pinned (stat rfl fr7) (T.obj _ _ st7);refine jMf (jMg (upT tk7 (hg s3 H3 fp jNj _ s7 τ H7 x u _ I7' r7 (step x H7 y7))) (fun _ s8 ⟨tk8,τ8,H8,I8,q8⟩=>?_) fun _ _ z=>False.elim z);refine jMf (jMg (upT tk8 (ht s3 H3 fp jNj _ s8 τ8 H8 _ tk8 I8 q8)) (fun b s9 ⟨tk9,H9,I9,q9⟩=>?_) fun _ _ z=>False.elim z);have again:∀ {s':jNg} {H':Hp},Inv (zA X scope N' s3 H3 fp jNj) ([]++vW fp s7.heap) τ8 H' s'->tn (i+1) s'.heap/\∀b∈fp,H' b=none:=fun {s' H'} I'=>by
    refine⟨T.keep _ _ _ st7 fun b hb o e=>(I'.pin (b,o) (tD _ (tD _ (yG hb e)))).1,fun b hb=>?_⟩;obtain⟨o,e,d⟩:=T.obj _ _ st7 b hb;exact (I'.pin (b,o) (tD _ (tD _ (yG hb e)))).2.1
   cases b with
   | false =>
    rw[jPa tP]at q9;obtain⟨m',hm,w9⟩:=q9;obtain⟨a1,a2⟩:=again I9;refine jMh ⟨rfl,m',hm,tk9,i+1,ys,τ8,H9,I9.unpinned,a1,a2,w9⟩
   | true =>
    rw[jNk rfl]at q9;refine jMf (jMf (jMg (upT tk9 (he s3 H3 fp jNj _ s9 τ8 H9 _ I9 q9)) (fun yv s10 ⟨tk10,y,H10,I10,r10,hD10,hz,m',hm,w10⟩=>?_) fun _ _ z=>False.elim z));refine jMf (jMg (upT tk10 (wY (X:=zA X scope N' s3 H3 fp jNj) _ s10 τ8 H10 (.ref D) [y] (.ref D) [yv] (fun _ H11=>H11=upd H10 D (.lst (ys++[y]))) I10 rfl (.cons r10 .nil) ⟨D,ys,y,rfl,rfl,hD10,hz,rfl⟩)) (fun _ s11 ⟨tk11,_,H11,I11,_,q11⟩=>?_) fun _ _ z=>False.elim z);subst q11;obtain⟨a1,a2⟩:=again I11;exact jMh (jMh ⟨rfl,m',hm,tk11,i+1,ys++[y],τ8,_,I11.unpinned,a1,a2,w10⟩)
 exact codeAny_compStart_list (loop _ rfl) (T.self _ 0 _ _ _ st4 (loop _ rfl))
def Qu {fr:List (Option Nat)}{pos:Pos}(hc:X.calm=true)(S:CompScope X N' fr scope)(hi:PI X tg iter wi)
  (hg:∀s₃ H₃ fp jNj,PG (zA X scope N' s₃ H₃ fp jNj) tg g) (ht:∀s₃ H₃ fp jNj,J8 (zA X scope N' s₃ H₃ fp jNj) ifs tc) (he:∀s₃ H₃ fp jNj,PE (zA X scope N' s₃ H₃ fp jNj) elt te)
  (hs:autoParam (∀x,jYh iter X.env x=pure x) au2._auto_1):PEp X (.ListComp elt [⟨tg,iter,ifs,0⟩] scope pos) (jg fr wi g tc te):=by
 intro jNj s σ H Q htk I h;rw[eval_ListComp];refine UB (use:=none) hc S hi hg ht he hs htk I h fun s3 H3 fp D s6 τ H5 fl I3 f3 I6 q=>?_;obtain⟨m6,hn6,_⟩:=I6.loc;exact⟨m6,hn6,fun h7 hs7=>⟨.ref D,H5,ky I3 I6 f3 hs7,rfl,q⟩⟩
def MTp (X:Cx)(E:XK)(Γ:List Cl)(e:Expr)(t:Tn->R Bool):Prop:=
 ∃te,PTp X e te/\∀O σ H τ Q,EOk X.K Γ O H σ τ->postB X.K E H Q (t τ)->te σ H Q
def MTsT (X:Cx)(E:XK)(Γ:List Cl)(ifs:List Expr)(t:Tn->R Bool):Prop:=
 ∃te,J8 X ifs te/\∀O σ H τ Q,EOk X.K Γ O H σ τ->postB X.K E H Q (t τ)->te σ H Q
section
variable {X:Cx}{E:XK}{Γ Γ' Γl:List Cl}{pos p:Pos}{e a b:Expr}{t ta tb:Tn->R D}{c ca cb:Rc}{x:Str}{id:String}
def Jg {t:Tn->R Bool}(h:MTp X E Γ e t):MTsT X E Γ [e] t:=by
 obtain⟨te,p,q⟩:=h;exact⟨te,Kc p,q⟩
theorem MTsT.pts {e:List Expr}{t:Tn->R Bool}(h:MTsT X E Γ e t):J8 X e (wpT X.K E Γ t):=by
 obtain⟨te,p,q⟩:=h;rintro jNj s σ H Q htk I ⟨O,τ,ok,z⟩;exact p jNj s σ H Q htk I (q O σ H τ Q ok z)
def U8 (ho:OpR X (jMi op) r)(hB:OpB X.K r g)(hn:xn g)(ha:MEp X E Γ a ta ca)(hb:MEp X E Γ b tb cb)(hm:behindInMarks op b=false):MTp X E Γ (.Compare a [op] [b] pos) (zm (zd g ta tb)):=by
 obtain⟨te,p,q⟩:=ha;obtain⟨te',p',q'⟩:=hb;exact⟨_,JV ho p p' hm,fun O σ H τ Q ok h=>YJ (O:=O) hB hn q q' ok (qR h)⟩
def JI {fr:List (Option Nat)}{cnd:Tn->R Bool}(hc:X.calm=true)(S:CompScope X N' fr scope)(hi:MI X E Γ tg iter it ci)
  (hg:∀s₃ H₃ fp jNj,MG (zA X scope N' s₃ H₃ fp jNj) tg g) (ht:∀s₃ H₃ fp jNj,MTsT (zA X scope N' s₃ H₃ fp jNj) noX (yn (Cl.ofIt ci) (y8 fr Γ) g.slots) ifs cnd)
  (he:∀s₃ H₃ fp jNj,ME (zA X scope N' s₃ H₃ fp jNj) noX (yn (Cl.ofIt ci) (y8 fr Γ) g.slots) elt te c) (hcl:c≠.bor) (hd:∀j∈g.slots,(y8 fr Γ)[j]?=some .dead)
  (hs:autoParam (∀x,jYh iter X.env x=pure x) au2._auto_1):MEp X E Γ (.ListComp elt [⟨tg,iter,ifs,0⟩] scope pos) (zR fr it g cnd te) c:=by
 obtain⟨wi,p,q⟩:=qL (cnd:=cnd) (te:=te) hi hcl hd;exact⟨_,Qu hc S p (fun s₃ H₃ fp jNj=>(hg s₃ H₃ fp jNj).pg) (fun s₃ H₃ fp jNj=>(ht s₃ H₃ fp jNj).pts) (fun s₃ H₃ fp jNj=>(he s₃ H₃ fp jNj).pe) hs,q⟩
def z3U {u:Tn->R Bool}(hk:MTp X E Γ k u)(ha:Xg X E Γl Γ sa t1 Γ')(hb:Xg X E Γl Γ sb t2 Γ'):MST X E Γl Γ (.If k sa sb pos) (sIf u t1 t2) Γ':=by
 obtain⟨te,p,q⟩:=hk;obtain⟨ts1,p1,q1⟩:=ha;obtain⟨ts2,p2,q2⟩:=hb;refine⟨z1d te ts1 ts2,z2b p p1 p2,fun B σ H τ Z ok h=>?_⟩;obtain⟨O,eo,_⟩:=ok.eok;refine q O σ H τ _ eo ?_;unfold sIf at h;cases ht:u τ with
 | ok x =>
  rw[ht,jYa]at h;refine fun H1 s1=>?_;cases x with
  | true=>rw[jNk rfl]at h ⊢;exact q1 B σ H1 τ Z (ok.same s1) h
  | false=>rw[jPa tP]at h ⊢;exact q2 B σ H1 τ Z (ok.same s1) h
 | err n=>rw[ht]at h;exact fun C H' e s=>h C H' e (ok.ext.trans s)
 | bad=>rw[ht]at h;exact h
end
open PySem PySem.Spec PyProof.Rows PySem.Builtin.Str
open PySem PySem.Spec PyProof.Rows PySem.Builtin.Str
def z0:D:=.lst [.int 0]
def wO (f:D->D)(rows:List D)(j:Nat):List D:=(rows.take j).map f++rows.drop j
def WG {f:D->D}{rows:List D}:wO f rows 0=rows:=by unfold wO;simp
def UL {f:D->D}{rows:List D}:wO f rows rows.length=rows.map f:=by unfold wO;simp
def QV {f:D->D}{rows:List D}{j:Nat}(h:j<rows.length):(wO f rows j)[j]?=some rows[j]:=by
 unfold wO;rw[sU (by simp;lia)];simp[Nat.min_eq_left (pJ h),h]
def UJ {f:D->D}{rows:List D}{j:Nat}(h:j<rows.length):(wO f rows j).set j (f rows[j])=wO f rows (j+1):=by
 apply List.ext_getElem?;intro q;unfold wO;rw[List.getElem?_set]
 by_cases hq:j=q
 ·subst hq;rw[jNk rfl,jNk (by simp;lia),sP (by simp;lia),tN,rG (by lia),tG h]
  rfl
 ·rw[jPa hq]
  by_cases hl:q<j
  ·rw[sP (by simp;lia),sP (by simp;lia),tN,tN,rG hl,rG (by lia)]
  ·have e1:((rows.take j).map f).length=j:=by simp;lia
   have e2:((rows.take (j+1)).map f).length=j+1:=by simp;lia
   rw[sU (by lia),sU (by lia),e1,e2,List.getElem?_drop,List.getElem?_drop];congr 1;lia
def Qn {K:jJa}{H:Hp}{d:D}{pages ds xs:List D}{vs:List V}{L:List Addr}{m k:Nat}(rs:Reps K H pages vs L)(nd:L.Nodup)(hm:pages[m]?=some (.tup ds))(hk:ds[k]?=some (.lst xs)):
  ∃am us bk ws,vs[m]?=some (.ref am)/\SqT K H am us/\us[k]?=some (.ref bk)/\H bk=some (.lst ws)/\ws.length=xs.length/\bk∈L /\
   ∀H1 w,Same H H1->Rep K H1 d w []->H1 bk=some (.lst ws)/\TF H (upd H1 bk (.lst (ws++[w])))/\(∀c,c∉L->H c≠none->upd H1 bk (.lst (ws++[w])) c=H c) /\
    ∃L',Reps K (upd H1 bk (.lst (ws++[w]))) (pages.set m (.tup (ds.set k (.lst (xs++[d]))))) vs L'/\(∀a∈L',a∈L)/\L'.Nodup:=by
 obtain⟨v,Ld,g1,g2,g3,g4,g5⟩:=JR rs hm nd;obtain⟨am,us,rfl,hs,qs⟩:=g2;obtain⟨v2,Lk,c1,c2,c3,c4,c5⟩:=JR qs hk g3;obtain⟨bk,ws,Lx,rfl,hbk,rfl,qx⟩:=c2;obtain⟨x1,x2⟩:=sF.mp c3;refine⟨am,us,bk,ws,g1,hs,c1,hbk,qx.length,g4 _ (c4 _ tE),fun H1 w s1 rw1=>?_⟩;have hb1:=s1 _ _ hbk;have mu:(∃vs,H1 bk=some (.lst vs))\/∃kvs,H1 bk=some (.dK kvs):=.inl ⟨_,hb1⟩;have tf:TF H (upd H1 bk (.lst (ws++[w]))):=s1.tf.trans (TF.upd mu);have kp:∀c,c∉bk::Lx->H c≠none->upd H1 bk (.lst (ws++[w])) c=H c:=fun c hc hn=>by rw[zC (fun z:c=bk=>hc (z▸tE)),s1.at hn]
 refine⟨hb1,tf,fun c hc hn=>kp c (fun z=>hc (g4 _ (c4 _ z))) hn,?_⟩;have rr:=Reps.append ((qx.same s1).upd (o:=.lst (ws++[w])) mu x1) (Reps.cons (rw1.upd (o:=.lst (ws++[w])) mu (by simp)) (Reps.nil (K:=K) (H:=upd H1 bk (.lst (ws++[w])))));rw[tQ,tQ]at rr;obtain⟨L5,r5,sub5,nd5⟩:=c5 _ (.lst (xs++[d])) (bk::Lx) tf kp ⟨bk,ws++[w],Lx,rfl,zG,rfl,rr⟩ (fun c hc=>hc) c3;exact g5 _ (.tup (ds.set k (.lst (xs++[d])))) L5 tf (fun c hc hn=>kp c (fun z=>hc (c4 c z)) hn) ⟨am,us,rfl,hs.tf tf,r5⟩ sub5 nd5
def z4O (K:jJa)(CS:Addr)(sp:Sp)(dvs:List V)(t:TA)(ts:Addr->Obj->TS):TS:=fun D σ H=>t σ H fun vs H1=>sp (vs++dvs) H1 (fun v H2=>D.rt v H2)
 (fun cls _ H2=>∃C,cls=.ref C/\jJd K (.ref C) (.ref CS)=some true/\∀(e:Addr) (oe:Obj),oe.cls=.ref C->H2 e=none->ts e oe D σ H2)
def z0r {k:Nat}{p pos pos' pc hpos tpos:Pos}
  (hst:X.stack=X.env::X.outer) (hf:X.env.frame=some X.env.locals) (hc:X.calm=true) (hN:X.N.Nodup)
  (F:FnOk X.prog X.w X.K X.mg X.base (cxx X.prog X.w) k f fd ps sp) (hr:Room k X.A) (hg:Gl X x) (hm:X.mg x=some (.ref f)) (hk:jJe X.K (.ref f)=true) (hb:Binds X.K fd ps ds) (hd:Vals dvs ds)
  (ha:PA X.nox (e::es) t) (hgc:Gl X xc) (hmc:X.mg xc=some (.ref CS))
  (hsuite:∀(e:Addr) (oe:Obj),PSs (X.within e oe) (b₀::suite) (ts e oe))
  (hdb:autoParam ((x==("__debug__":Str))=false) au1._auto_1) (hdc:autoParam ((xc==("__debug__":Str))=false) au1._auto_1)
  (he:autoParam (jNc (e::es) X.env=(false,eval e X.env)::jNc es X.env) au3._auto_1) (hpl:autoParam ((jNh pos (jNc es X.env)).any (·.1)=false) au3._auto_1)
  (hsw:True:=trivial):
  PS X (.Try [.Return (some (.Call (.Name x p) (e::es) [] pos)) pos'] [.ExceptHandler (some (.Name xc pc)) none (b₀::suite) hpos] [] [] tpos) (z4O X.K CS sp dvs t ts):=by
 intro jNj s σ H D I h;have hhd:X.calm=true->X.A.handled=none:=I.ok.hd;refine wpAny_Try_except (jKa (wpAny_Return_some ?_));refine jYf (vD I hg hm ?_ hdb);refine jJn (h₀:=X.base) I.ok.mod.kin hk ?_ he hpl;refine jMg (ha pos jNj s σ H _ (I.wish _) h) (fun us s1 ⟨vs,H1,I1,r,q⟩=>⟨I1.kIn,?_⟩) fun _ _ z=>z.elim;have I1:Inv X jNj σ H1 s1:=I1.unwish;have r2:Vals (vs++dvs) (us++ds):=r.append hd;have hl:(us++ds).length=ps.length:=by rw[<-r2.length];exact F.len _ _ _ _ q
 refine wpAny_call (codeAny_mono (F.run X.A X.stack s1 H1 ⟨us,[]⟩ (us++ds) (vs++dvs) _ _ hr I1.env0 (hb s1 us I1.kIn hl) r2 q) fun r s' hq=>?_);cases r with
 | ok fl =>
  cases fl with
  | ret u =>
   obtain⟨v,H2,I2,rv,qn⟩:=I1.after hq;exact⟨v,σ,H2,I2,rv,qn⟩
  | next=>exact False.elim hq
  | brk=>exact False.elim hq
  | cont=>exact False.elim hq
 | error ev =>
  obtain⟨e1,cls,H2,rfl,os,bare,un,hok,⟨B,a0,fl,cov⟩,C,rfl,hex,hsu⟩:=hq;have I2:Inv X jNj σ H2 s':=I1.call' (ch:=[]) os un hok bare (fun b z=>nomatch z);have fl':Heap.FlyingW B (X.env::X.outer) e1 (.ref C) a0 s'.heap:=by rw[<-hst];exact fl
  have hfr:X.A.frames=some (X.env::X.outer):=by rw[<-hst];exact I.ok.frames
  have o1:∀b o,X.s₀.heap.get? b=some o->b∉X.ex->∃o,s1.heap.get? b=some o:=fun b o q x=>I1.base.there b o q x;have o3:∀p∈X.pn++jNj,∃o,s1.heap.get? p.1=some o:=fun p hp=>⟨_,(I1.pin p hp).1⟩
  have flown:∀h':Heap,B.StaysIn h'->s'.heap.UpToSlots h'->Inv X jNj σ H2 { s' with heap:=h' }:=fun h' st up=>I2.flown hst hf st up cov o1 o3;have he2:H2 e1=none:=by
   cases q:H2 e1 with
   | none=>rfl
   | some u =>
    obtain⟨o,ho⟩:=(I2.hok e1 u q).there;have:=cov e1 o ho (I2.trkNo q) (.inl (by rw[q];simp));rw[fl.2.1]at this;cases this
  have apart:∀(h':Heap),Heap.FlyingW B (X.env::X.outer) e1 (.ref C) a0 h'->∃oe,h'.get? e1=some oe/\oe.cls=.ref C/\(∃vs,oe.data=.fields vs)/\e1≠X.env.locals/\e1∉X.fs:=fun h' z=>by
   obtain⟨oe,vs,q1,q2,q3,_⟩:=z.first;have nfr:e1∉frs (X.env::X.outer):=fun m=>by
    obtain⟨_,o,ho,nf⟩:=z.2.2.1.mem m;rw[q1]at ho;cases ho;exact nf vs q3
   refine⟨oe,q1,q2,⟨vs,q3⟩,fun q=>nfr ?_,fun m=>nfr ?_⟩
   ·rw[q];unfold frs;rw[sL,hf];exact tE
   ·unfold frs;rw[sL,hf];exact tF _ m
  refine wpAny_looks_onW hfr hf fl' fun h4 hd4 up4=>?_;refine wpAny_landsW hd4 fun h5 fl5 up5=>?_;have up5':s'.heap.UpToSlots h5:=up4.trans up5;have I5:=flown h5 fl5.1 up5';obtain⟨oe5,g1,g2,⟨vs5,g3⟩,g4,g5⟩:=apart h5 fl5;have I5w:Inv (X.within e1 oe5) jNj σ H2 { s' with heap:=h5 }:=I5.within g1 he2 g4 g5 (fun v q=>by rw[g3]at q;cases q);refine wpAny_handleBy_cons (codeAny_handlers_test (vD (X:=X.within e1 oe5) I5w hgc hmc ?_ hdc)) (by intro q;cases q);have LT:PySem.W.Looks (model X.prog X.w) h5 (typeOf (.ref e1)) (.ref C):=g2▸(PySem.W.Looks.ld g1).andThen .now;refine (PySem.W.exm_one I5.kIn LT hex).here ?_;refine codeAny_handlers_suite ?_;refine lands_againW fl5 fun h6 fl6 up6=>?_;have I6:=flown h6 fl6.1 (up5'.trans up6);obtain⟨oe6,k1,k2,⟨vs6,k3⟩,k4,k5⟩:=apart h6 fl6;have I7w:Inv (X.within e1 oe6) jNj σ H2 { s' with heap:=h6 }:=I6.within k1 he2 k4 k5 (fun v q=>by rw[k3]at q;cases q);refine jMg (hsuite e1 oe6 jNj _ _ H2 _ I7w (hsu e1 oe6 k2 he2)) (fun fl8 s8 q8=>?_) fun _ _ z=>z.elim;exact SP.without q8 hhd
def z5h (K:jJa)(CS:Addr)(sp:Sp)(dvs:List V)(t:TA)(j:Nat)(kn:Int)(ts:Addr->Obj->TS):TS:=fun D σ H=>t σ H fun vs H1=>sp (vs++dvs) H1 (fun v H2=>rIx K v (.int kn) H2 fun x H3=>D.nx (σ.set j (some x)) H3)
 (fun cls _ H2=>∃C,cls=.ref C/\jJd K (.ref C) (.ref CS)=some true/\∀(e:Addr) (oe:Obj),oe.cls=.ref C->H2 e=none->ts e oe D σ H2)
def z0Z {k:Nat}{x xc y:Str}{p pos pos' pc hpos tpos ps2 pk py:Pos}{kn:Int}{kc:Nat}{j:Nat}
  (hst:X.stack=X.env::X.outer) (hf:X.env.frame=some X.env.locals) (hc:X.calm=true) (hN:X.N.Nodup)
  (F:FnOk X.prog X.w X.K X.mg X.base (cxx X.prog X.w) k f fd ps sp) (hr:Room k X.A) (hg:Gl X x) (hm:X.mg x=some (.ref f)) (hk:jJe X.K (.ref f)=true) (hb:Binds X.K fd ps ds) (hd:Vals dvs ds)
  (ha:PA X.nox (e::es) t) (hgc:Gl X xc) (hmc:X.mg xc=some (.ref CS))
  (hsuite:∀(e:Addr) (oe:Obj),PSs (X.within e oe) (b₀::suite) (ts e oe))
  (hdb:autoParam ((x==("__debug__":Str))=false) au1._auto_1) (hdc:autoParam ((xc==("__debug__":Str))=false) au1._auto_1)
  (he:autoParam (jNc (e::es) X.env=(false,eval e X.env)::jNc es X.env) au3._auto_1) (hpl:autoParam ((jNh pos (jNc es X.env)).any (·.1)=false) au3._auto_1)
  (hj:X.N[j]?=some y) (hy:Loc X.env.scope y) (hsw:autoParam (jMj (.Subscript (.Call (.Name x p) (e::es) [] pos) (.Constant (.int kn) kc pk) ps2) (some (.Name y py)) pos'.line X.env=pure false) au3._auto_1) (hfy:autoParam (X.fn y=true\/X.env.scope.names.lookup y=some .local) au0._auto_1):
  PS X (.Try [.Assign [.Name y py] (.Subscript (.Call (.Name x p) (e::es) [] pos) (.Constant (.int kn) kc pk) ps2) pos'] [.ExceptHandler (some (.Name xc pc)) none (b₀::suite) hpos] [] [] tpos) (z5h X.K CS sp dvs t j kn ts):=by
 intro jNj s σ H D I h;have hhd:X.calm=true->X.A.handled=none:=I.ok.hd;refine wpAny_Try_except (jKa (wpAny_Assign_Name (Subscript_ ?_) hsw));refine jYf (vD I hg hm ?_ hdb);refine jJn (h₀:=X.base) I.ok.mod.kin hk ?_ he hpl;refine jMg (ha pos jNj s σ H _ (I.wish _) h) (fun us s1 ⟨vs,H1,I1,r,q⟩=>⟨I1.kIn,?_⟩) fun _ _ z=>z.elim;have I1:Inv X jNj σ H1 s1:=I1.unwish;have r2:Vals (vs++dvs) (us++ds):=r.append hd;have hl:(us++ds).length=ps.length:=by rw[<-r2.length];exact F.len _ _ _ _ q
 refine wpAny_call (codeAny_mono (F.run X.A X.stack s1 H1 ⟨us,[]⟩ (us++ds) (vs++dvs) _ _ hr I1.env0 (hb s1 us I1.kIn hl) r2 q) fun r s' hq=>?_);cases r with
 | ok fl =>
  cases fl with
  | ret u =>
   obtain⟨v,H2,I2,rv,qn⟩:=I1.after hq;have pI:PE X.nox (.Constant (.int kn) kc pk) (tC (.int kn)):=Xi;refine jMg (pI jNj s' σ H2 (fun z H3=>z=.int kn/\H3=H2) (I2.wish _) ⟨rfl,rfl⟩) (fun iv s3 ⟨z,H3,I3,rz,ez,eH⟩=>?_) fun _ _ z=>z.elim;subst ez eH;refine jMg (X3 (X:=X.nox) _ _ jNj s3 σ H3 v (.int kn) u iv _ I3 rv rz qn rfl) (fun w s4 ⟨zw,H4,I4,rw4,q4⟩=>?_) fun _ _ z=>z.elim;exact qB I4.unwish hN hj hy rw4 (fun s5 I5=>jKc (jKc ⟨_,H4,I5,q4⟩)) hfy
  | next=>exact False.elim hq
  | brk=>exact False.elim hq
  | cont=>exact False.elim hq
 | error ev =>
  obtain⟨e1,cls,H2,rfl,os,bare,un,hok,⟨B,a0,fl,cov⟩,C,rfl,hex,hsu⟩:=hq;have I2:Inv X jNj σ H2 s':=I1.call' (ch:=[]) os un hok bare (fun b z=>nomatch z);have fl':Heap.FlyingW B (X.env::X.outer) e1 (.ref C) a0 s'.heap:=by rw[<-hst];exact fl
  have hfr:X.A.frames=some (X.env::X.outer):=by rw[<-hst];exact I.ok.frames
  have o1:∀b o,X.s₀.heap.get? b=some o->b∉X.ex->∃o,s1.heap.get? b=some o:=fun b o q x=>I1.base.there b o q x;have o3:∀p∈X.pn++jNj,∃o,s1.heap.get? p.1=some o:=fun p hp=>⟨_,(I1.pin p hp).1⟩
  have flown:∀h':Heap,B.StaysIn h'->s'.heap.UpToSlots h'->Inv X jNj σ H2 { s' with heap:=h' }:=fun h' st up=>I2.flown hst hf st up cov o1 o3;have he2:H2 e1=none:=by
   cases q:H2 e1 with
   | none=>rfl
   | some u =>
    obtain⟨o,ho⟩:=(I2.hok e1 u q).there;have:=cov e1 o ho (I2.trkNo q) (.inl (by rw[q];simp));rw[fl.2.1]at this;cases this
  have apart:∀(h':Heap),Heap.FlyingW B (X.env::X.outer) e1 (.ref C) a0 h'->∃oe,h'.get? e1=some oe/\oe.cls=.ref C/\(∃vs,oe.data=.fields vs)/\e1≠X.env.locals/\e1∉X.fs:=fun h' z=>by
   obtain⟨oe,vs,q1,q2,q3,_⟩:=z.first;have nfr:e1∉frs (X.env::X.outer):=fun m=>by
    obtain⟨_,o,ho,nf⟩:=z.2.2.1.mem m;rw[q1]at ho;cases ho;exact nf vs q3
   refine⟨oe,q1,q2,⟨vs,q3⟩,fun q=>nfr ?_,fun m=>nfr ?_⟩
   ·rw[q];unfold frs;rw[sL,hf];exact tE
   ·unfold frs;rw[sL,hf];exact tF _ m
  refine wpAny_looks_onW hfr hf fl' fun h4 hd4 up4=>?_;refine wpAny_landsW hd4 fun h5 fl5 up5=>?_;have up5':s'.heap.UpToSlots h5:=up4.trans up5;have I5:=flown h5 fl5.1 up5';obtain⟨oe5,g1,g2,⟨vs5,g3⟩,g4,g5⟩:=apart h5 fl5;have I5w:Inv (X.within e1 oe5) jNj σ H2 { s' with heap:=h5 }:=I5.within g1 he2 g4 g5 (fun v q=>by rw[g3]at q;cases q);refine wpAny_handleBy_cons (codeAny_handlers_test (vD (X:=X.within e1 oe5) I5w hgc hmc ?_ hdc)) (by intro q;cases q);have LT:PySem.W.Looks (model X.prog X.w) h5 (typeOf (.ref e1)) (.ref C):=g2▸(PySem.W.Looks.ld g1).andThen .now;refine (PySem.W.exm_one I5.kIn LT hex).here ?_;refine codeAny_handlers_suite ?_;refine lands_againW fl5 fun h6 fl6 up6=>?_;have I6:=flown h6 fl6.1 (up5'.trans up6);obtain⟨oe6,k1,k2,⟨vs6,k3⟩,k4,k5⟩:=apart h6 fl6;have I7w:Inv (X.within e1 oe6) jNj σ H2 { s' with heap:=h6 }:=I6.within k1 he2 k4 k5 (fun v q=>by rw[k3]at q;cases q);refine jMg (hsuite e1 oe6 jNj _ _ H2 _ I7w (hsu e1 oe6 k2 he2)) (fun fl8 s8 q8=>?_) fun _ _ z=>z.elim;exact SP.without q8 hhd
noncomputable def Yg (xc:Str)(F:List D->R D)(u:Tn->R (List D)):Tn->R Fl:=fun τ=>match u τ with
 | .ok ds=>(match F ds with
  | .ok d=>.ok (.rt d)
  | .err m=>if m=xc then .ok (.rt .non) else .bad
  | .bad=>.bad)
 | _=>.bad
def XQ (d:D)(kn:Int):R D:=match d with
 | .tup ds=>ixD (.tup ds) (.int kn)
 | _=>.bad
noncomputable def Yo (xc:Str)(j:Nat)(kn:Int)(F:List D->R D)(u:Tn->R (List D)):Tn->R Fl:=fun τ=>match u τ with
 | .ok ds=>(match F ds with
  | .ok d=>(match XQ d kn with
   | .ok x=>.ok (.nx (τ.set j (some x)))
   | _=>.bad)
  | .err m=>if m=xc then .ok (.rt .non) else .bad
  | .bad=>.bad)
 | _=>.bad
section
variable {k:Nat}{nA:Nat}{kn:Int}{kc rc:Nat}{j:Nat}
def KN (O:Own X.prog X.w X.K X.mg X.base x k ps (spM X.K F nA))(hN:X.N.Nodup)(hr:Room k X.A)(hg:Gl X x)(ha:MA X.nox (fun _ _ _=>False) Γ (e::es) u c)(hgc:Gl X xc)(hs:∃CS,X.mg xc=some (.ref CS)/\∀C,ErrC X.K xc C->jJd X.K (.ref C) (.ref CS)=some true)
  (hst:autoParam (X.stack=X.env::X.outer) au3._auto_1) (hf:autoParam (X.env.frame=some X.env.locals) au3._auto_1) (hc:autoParam (X.calm=true) au3._auto_1) (hl:autoParam ((e::es).length=nA) au3._auto_1)
  (hdb:autoParam ((x==("__debug__":Str))=false) au1._auto_1) (hdc:autoParam ((xc==("__debug__":Str))=false) au1._auto_1)
  (he:autoParam (jNc (e::es) X.env=(false,eval e X.env)::jNc es X.env) au3._auto_1) (hpl:autoParam ((jNh pos (jNc es X.env)).any (·.1)=false) au3._auto_1):
  MS X E Γl Γ (.Try [.Return (some (.Call (.Name x p) (e::es) [] pos)) pos'] [.ExceptHandler (some (.Name xc pc)) none [.Return (some (.Constant .none rc rp)) rq] hpos] [] [] tpos) (Yg xc F u) Γ':=by
 obtain⟨hlen,ta,pa,q⟩:=ha;obtain⟨f,fd,Fo,hm,hk,hb⟩:=O.ex;obtain⟨CS,hmc,hex⟩:=hs;refine⟨_,z0r hst hf hc hN Fo hr hg hm hk hb .nil pa hgc hmc (fun e oe=>jI (Vu Vw)) hdb hdc he hpl,fun B σ H τ Z ok h=>?_⟩;obtain⟨O',eok,_⟩:=ok.eok;refine q O' σ H τ _ eok ?_;unfold Yg at h;cases hu:u τ with
 | ok ds =>
  rw[hu]at h;dsimp only at h;refine fun vs H1 L s r _=>?_;have hv:(vs++[]).length=nA:=by rw[tQ,r.length,hlen τ ds hu];exact hl
  refine⟨hv,ds,L,by rw[tQ];exact r,?_⟩;have sB:Same B H1:=ok.ext.trans s;cases hF:F ds with
  | ok d =>
   rw[hF]at h;exact fun v H' L' s' r' k'=>h v H' L' (sB.trans s') r' k'.1 fun a ha=>sB.non (k'.2 a ha)
  | err m =>
   rw[hF]at h;dsimp only at h
   by_cases hm:m=xc
   ·rw[jNk hm]at h;subst hm;exact fun C H' hC s'=>⟨C,rfl,hex C hC,fun e1 oe _ _=>h .non H' [] (sB.trans s') ⟨rfl,rfl⟩ rN fun a ha=>nomatch ha⟩
   ·rw[jPa hm]at h;exact h.elim
  | bad=>rw[hF]at h;exact h.elim
 | err m=>rw[hu]at h;exact h.elim
 | bad=>rw[hu]at h;exact h.elim
def z0O (j:Nat)(O:Own X.prog X.w X.K X.mg X.base x k ps (spM X.K F nA))(hN:X.N.Nodup)(hr:Room k X.A)(hg:Gl X x)(ha:MA X.nox (fun _ _ _=>False) Γ (e::es) u c)(hgc:Gl X xc)(hs:∃CS,X.mg xc=some (.ref CS)/\∀C,ErrC X.K xc C->jJd X.K (.ref C) (.ref CS)=some true)
  (hj:X.N[j]?=some y) (hlj:j<Γ.length) (hy:Loc X.env.scope y) (hst:autoParam (X.stack=X.env::X.outer) au3._auto_1) (hf:autoParam (X.env.frame=some X.env.locals) au3._auto_1) (hc:autoParam (X.calm=true) au3._auto_1) (hl:autoParam ((e::es).length=nA) au3._auto_1)
  (hdb:autoParam ((x==("__debug__":Str))=false) au1._auto_1) (hdc:autoParam ((xc==("__debug__":Str))=false) au1._auto_1)
  (he:autoParam (jNc (e::es) X.env=(false,eval e X.env)::jNc es X.env) au3._auto_1) (hpl:autoParam ((jNh pos (jNc es X.env)).any (·.1)=false) au3._auto_1)
  (hsw:autoParam (jMj (.Subscript (.Call (.Name x p) (e::es) [] pos) (.Constant (.int kn) kc pk) ps2) (some (.Name y py)) pos'.line X.env=pure false) au3._auto_1) (hfy:autoParam (X.fn y=true\/X.env.scope.names.lookup y=some .local) au0._auto_1):
  MS X E Γl Γ (.Try [.Assign [.Name y py] (.Subscript (.Call (.Name x p) (e::es) [] pos) (.Constant (.int kn) kc pk) ps2) pos'] [.ExceptHandler (some (.Name xc pc)) none [.Return (some (.Constant .none rc rp)) rq] hpos] [] [] tpos) (Yo xc j kn F u) (Γ.set j .shr):=by
 obtain⟨hlen,ta,pa,q⟩:=ha;obtain⟨f,fd,Fo,hm,hk,hb⟩:=O.ex;obtain⟨CS,hmc,hex⟩:=hs;refine⟨_,z0Z hst hf hc hN Fo hr hg hm hk hb .nil pa hgc hmc (fun e oe=>jI (Vu Vw)) hdb hdc he hpl hj hy hsw hfy,fun B σ H τ Z ok h=>?_⟩;obtain⟨O',eok,hL⟩:=ok.eok;refine q O' σ H τ _ eok ?_;unfold Yo at h;cases hu:u τ with
 | ok ds =>
  rw[hu]at h;dsimp only at h;refine fun vs H1 L s r _=>?_;have hv:(vs++[]).length=nA:=by rw[tQ,r.length,hlen τ ds hu];exact hl
  refine⟨hv,ds,L,by rw[tQ];exact r,?_⟩;have sB:Same B H1:=ok.ext.trans s;cases hF:F ds with
  | ok d =>
   rw[hF]at h;dsimp only at h;intro v H' L' s' r' k';cases d with
   | tup dx =>
    cases hi:ixD (.tup dx) (.int kn)with
    | ok w =>
     have hi2:XQ (.tup dx) kn=.ok w:=hi;rw[hi2]at h;refine qW (dx:=.tup dx) (fun _ _ z=>by cases z) hi r' (show Rep X.K H' (.int kn) (.int kn) [] from⟨rfl,rfl⟩) fun wv L1 rw1 sub=>h _ _ ?_;have sA:Same H H':=s.trans s';obtain⟨Ls,h1,h2,h3,_,_,_,h7⟩:=hL L1 fun a ha ho=>eok.dom a ho (s.non (k'.2 a (sub.subset ha)));exact SOk.intoS (sB.trans s') ok.lσ ok.lτ (fun j c e hc=>by obtain⟨v',d',e1,e2,r'⟩:=h1 j c e hc;exact⟨v',d',e1,e2,r'.same sA⟩) h2 h3 h7 rw1 hlj
    | err n=>rw[show XQ (.tup dx) kn=.err n from hi]at h;exact h.elim
    | bad=>rw[show XQ (.tup dx) kn=.bad from hi]at h;exact h.elim
   | _=>exact h.elim
  | err m =>
   rw[hF]at h;dsimp only at h
   by_cases hm:m=xc
   ·rw[jNk hm]at h;subst hm;exact fun C H' hC s'=>⟨C,rfl,hex C hC,fun e1 oe _ _=>h .non H' [] (sB.trans s') ⟨rfl,rfl⟩ rN fun a ha=>nomatch ha⟩
   ·rw[jPa hm]at h;exact h.elim
  | bad=>rw[hF]at h;exact h.elim
 | err m=>rw[hu]at h;exact h.elim
 | bad=>rw[hu]at h;exact h.elim
end
def z5F {j3:Nat}(he:PE X e te):PE X (.JoinedStr [.FormattedValue e (-1) none p2,.Constant (.str b) j3 p3] pos)
  (fun σ H Q=>te σ H fun v H1=>∃i,v=.int i/\i.natAbs.log2<1920/\(toString i:Str).length<=jNb/\((toString i:Str)++b).length<=jNb/\Q (.str ((toString i:Str)++b)) H1):=by
 intro jNj s σ H Q I h;refine JoinedStr_many (joinParts_cons (FormattedValue_plain (thn (he jNj s σ H _ I h) fun v s2 h2=>?_)));obtain⟨v2,H2,I2,r2,i,rfl,hi,h3,h4,q⟩:=h2;obtain⟨t2,rfl⟩:=r2;refine formatField_int_small hi ?_;dsimp only;rw[Str.empty_append];refine⟨h3,joinParts_cons (thn (xX (x:=b) (j:=j3) (pos:=p3) jNj _ σ H2 (fun v H1=>v=.str b/\H1=H2) (I2.tok _) ⟨rfl,rfl⟩) fun v s3 h5=>?_)⟩;obtain⟨v3,H3,I3,r3,rfl,rfl⟩:=h5;obtain⟨t3,rfl⟩:=r3;exact⟨h4,joinParts_nil ⟨.str _,H3,I3.tok _,⟨_,rfl⟩,q⟩ h4⟩
noncomputable def f2D (b:Str):D->R D
 | .int i=>if i.natAbs.log2<1920/\(toString i:Str).length<=jNb/\((toString i:Str)++b).length<=jNb then .ok (.str ((toString i:Str)++b)) else .bad
 | _=>.bad
def eF2 (b:Str)(t:Tn->R D):Tn->R D:=fun τ=>(t τ).bind (f2D b)
def z4n {j3:Nat}(he:ME X E Γ e t c):
  ME X E Γ (.JoinedStr [.FormattedValue e (-1) none p2,.Constant (.str b) j3 p3] pos) (eF2 b t) .fresh:=by
 obtain⟨te,p,q⟩:=he;refine⟨_,z5F p,fun O σ H τ Q ok h=>?_⟩;unfold eF2 at h;refine q O σ H τ _ ok (post.bind h fun d hd h x H1 L1 s1 r1 _=>?_);cases d with
 | int i =>
  obtain⟨rfl,_⟩:=r1;unfold f2D at h;dsimp only at h;split at h
  ·rename_i hz;exact⟨i,rfl,hz.1,hz.2.1,hz.2.2,h _ H1 [] s1 ⟨rfl,rfl⟩ ⟨by simp,fun a ha=>nomatch ha⟩⟩
  ·exact h.elim
 | _=>exact h.elim
noncomputable def jd (d:D)(k1:Nat):D->D
 | .tup ds=>(match ds[k1]? with
  | some (.lst xs)=>.tup (ds.set k1 (.lst (xs++[d])))
  | _=>.tup ds)
 | e=>e
def z1k (k1:Nat):D->Bool
 | .tup ds=>(match ds[k1]? with
  | some (.lst xs)=>decide (xs.length<jNb)
  | _=>false)
 | _=>false
def z0s {k1:Nat}(h:z1k k1 e=true):∃ds xs,e=.tup ds/\ds[k1]?=some (.lst xs)/\xs.length<sizeLine:=by
 unfold z1k at h;split at h
 ·rename_i ds;split at h
  ·rename_i xs h1;exact⟨ds,xs,rfl,h1,of_decide_eq_true h⟩
  ·cases h
 ·cases h
noncomputable def kz (i k1:Nat)(d:D):Tn->R Fl:=fun τ=>match τ[i]? with
 | some (some (.lst rows))=>if rows.all (z1k k1)=true then .ok (.nx (τ.set i (some (.lst (rows.map (jd d k1)))))) else .bad
 | _=>.bad
section
def z4l (i k1 j:Nat)(d:D){x y:Str}{n1:Int}{c0:Nat}{p0 p1 p2 p3 p4 p5 p6 p7:Pos}(hp:jMk (model X.prog X.w) X.A X.env X.xe)(hc:X.calm=true)(he:ME X E Γ e t c)(hg:PG X (.Name y p5) (jm j))(hd:∀τ,t τ=.ok d)(hi:autoParam (d.imm=true) au3._auto_1)(hij:autoParam ((i==j)=false) au3._auto_1)(hn1:autoParam (n1=(k1:Int)) au3._auto_1)(hN:autoParam (X.N[i]?=some x) au3._auto_1)(hNy:autoParam (X.N[j]?=some y) au3._auto_1)(h0:autoParam (Γ[i]?=some .own) au3._auto_1)(hj:autoParam (Γ[j]?=some .dead) au3._auto_1)(hv:autoParam (Vis X.env.scope x) au7._auto_1)(hvy:autoParam (Vis X.env.scope y) au7._auto_1)(hb:autoParam ((x==("__debug__":Str))=false) au1._auto_1)(hcd:autoParam ((x==("__classdict__":Str))=false) au1._auto_1)(hby:autoParam ((y==("__debug__":Str))=false) au1._auto_1)(hcdy:autoParam ((y==("__classdict__":Str))=false) au1._auto_1)
  (hbase:autoParam (jKg (.Subscript (.Name y p6) (.Constant (.int n1) c0 p3) p4) "append" X.env (eval (.Subscript (.Name y p6) (.Constant (.int n1) c0 p3) p4) X.env)=eval (.Subscript (.Name y p6) (.Constant (.int n1) c0 p3) p4) X.env) au3._auto_1)
  (hfew:autoParam (((jNh p2 (jNc [e] X.env)).all (fun x=>!x.1)&&(jNa p2 (jMa [] X.env)).all (fun x=>x.1.isSome)&&decide ([e].length+([]:List jNd).length+(if ([]:List jNd).isEmpty then 0 else 1)<30))=true) au3._auto_1)
  (hline:autoParam ((p1.endLine==p2.line)=true) au3._auto_1) (hs:autoParam (jNc [e] X.env=(false,eval e X.env)::jNc [] X.env) au3._auto_1) (hplain:autoParam ((jNh p2 (jNc [] X.env)).any (·.1)=false) au3._auto_1)
  (hsw:autoParam (jMj (.Call (.Attribute (.Subscript (.Name y p6) (.Constant (.int n1) c0 p3) p4) "append" p1) [e] [] p2) none p7.line X.env=pure false) au3._auto_1)
  (hss:autoParam (∀v,jYh (.Name x p0) X.env v=pure v) au2._auto_1):
  MS X E Γl Γ (.For (.Name y p5) (.Name x p0) [.Expr (.Call (.Attribute (.Subscript (.Name y p6) (.Constant (.int n1) c0 p3) p4) "append" p1) [e] [] p2) p7] [] pos) (kz i k1 d) Γ:=by
 subst hn1;have hij:i≠j:=by simpa using hij
 obtain⟨te,p,q⟩:=he;refine⟨_,Qr hp hc (VB (vq (pos:=p0) hN hv hb hcd)) hg (jI (jJ (Ue jQx jQ3 jQ4 wY (Jj X3 (vq (pos:=p6) hNy hvy hby hcdy) Xi (fun _ _=>rfl)) (wR p uU hs) hbase hfew hline hs hplain) hsw)) hss,fun B σ H τ Z ok h=>?_⟩;unfold kz at h;cases hτ:τ[i]? with
 | none=>rw[hτ]at h;exact h.elim
 | some o =>
  cases o with
  | none=>rw[hτ]at h;exact h.elim
  | some l =>
   cases l with
   | lst rows =>
    rw[hτ]at h;dsimp only at h
    by_cases hall:rows.all (z1k k1)=true
    ·rw[jNk hall]at h;obtain⟨v0,d0,L,e1,e2,r,nd,n2,fin⟩:=ok.slotF h0;rw[hτ]at e2;cases e2;obtain⟨b,vs,L',rfl,hb2,rfl,qs⟩:=r;obtain⟨m1,m2⟩:=sF.mp nd;have hlen:vs.length=rows.length:=qs.length;have hjσ:j<σ.length:=by rw[ok.lσ];exact (tJ.mp hj).1
     refine⟨_,e1,b,rfl,⟨vs,SqL.of hb2⟩,?_⟩;refine⟨fun m f σ2 H2=>f=rows.length-m/\m<=rows.length/\(σ2=σ\/∃w,σ2=σ.set j (some w))/\H2 b=some (.lst vs)/\TF H H2/\(∀c,c∉b::L'->H c≠none->H2 c=H c)/\∃L2,Reps X.K H2 (wO (jd d k1) rows m) vs L2/\(∀a∈L2,a∈L')/\L2.Nodup,⟨rows.length,rfl,rD _,.inl rfl,hb2,(Same.refl H).tf,fun _ _ _=>rfl,L',by rw[WG];exact qs,fun a ha=>ha,m2⟩,?_⟩;rintro m f σ2 H2 ⟨rfl,hm,hσ,hb3,tf,kp,L2,rs2,sub2,nd2⟩;have SKG:∀(σ3:St) (H3:Hp) (rows3:List D) (L3:List Addr),(σ3=σ\/∃w,σ3=σ.set j (some w))->H3 b=some (.lst vs)->TF H H3->(∀c,c∉b::L'->H c≠none->H3 c=H c)->Reps X.K H3 rows3 vs L3->(∀a∈L3,a∈L')->L3.Nodup->SOk X.K Γ B H3 σ3 (τ.set i (some (.lst rows3))) []:=by
      intro σ3 H3 rows3 L3 hσ hb tf kp rs sub nd3;have:=fin H3 (.lst rows3) (b::L3) tf kp ⟨b,vs,L3,rfl,hb,rfl,rs⟩ (fun a ha=>.inl (by
       rcases tK.mp ha with z|z
       ·exact z▸tE
       ·exact tF _ (sub a z))) (sF.mpr ⟨fun z=>m1 (sub _ z),nd3⟩)
      rcases hσ with rfl|⟨w,rfl⟩
      ·exact this
      ·exact this.deadPut hj
     by_cases hlt:m<rows.length
     ·refine .inr ⟨⟨vs,vs[m]'(by lia),SqL.of hb3,by simp⟩,fun σ' H'=>m+1<=rows.length/\(σ'=σ\/∃w,σ'=σ.set j (some w))/\H' b=some (.lst vs)/\TF H H'/\(∀c,c∉b::L'->H c≠none->H' c=H c)/\∃L2,Reps X.K H' (wO (jd d k1) rows (m+1)) vs L2/\(∀a∈L2,a∈L')/\L2.Nodup,fun σ' H' z=>⟨rows.length-(m+1),by lia,rfl,z⟩,?_⟩;rintro x0 H3 ⟨rfl,hx⟩;have hx:=hx vs (SqL.of hb3);obtain⟨ds,xs,hrow,hk1,hl1⟩:=z0s (rK.mp hall _ (sR hlt));have hat:(wO (jd d k1) rows m)[m]?=some (.tup ds):=by rw[QV hlt,hrow]
      obtain⟨am,us,b1,ws1,g1,g2,g3,g4,g5,g6,g7⟩:=Qn (d:=d) rs2 nd2 hat hk1;rw[hx]at g1;cases g1;have hσj:∀σ3:St,(σ3=σ\/∃w,σ3=σ.set j (some w))->(σ3.set j (some (V.ref am)))[j]?=some (some (.ref am)):=fun σ3 hσ=>tZ (by rcases hσ with rfl|⟨w,rfl⟩<;>simpa using hjσ);have hσn:σ2.set j (some (V.ref am))=σ.set j (some (V.ref am)):=by
       rcases hσ with rfl|⟨w,rfl⟩
       ·rfl
       ·exact List.set_set ..
      refine⟨.ref am,hσj _ hσ,.inr (.inl ⟨am,us,(k1:Int),.ref b1,rfl,rfl,g2,vw g3,.inl ⟨rfl,ws1,SqL.of g4⟩,?_⟩)⟩;obtain⟨O,eo,_⟩:=(SKG (σ2.set j (some (.ref am))) H3 _ L2 (.inr ⟨_,hσn⟩) hb3 tf kp rs2 sub2 nd2).eok;refine q O _ H3 _ _ eo ?_;rw[hd];refine fun y1 H4 Le s4 ry _=>?_;have zL:=Rep.imm _ _ _ ry hi;subst zL;obtain⟨f1,f2,f3,L5,f4,f5,f6⟩:=g7 H4 y1 s4 ry;have nb1:b≠b1:=fun z=>m1 (z▸sub2 _ g6);refine⟨b1,ws1,y1,rfl,rfl,f1,by lia,hlt,.inr ⟨_,hσn⟩,?_,tf.trans f2,?_,L5,?_,fun a ha=>sub2 _ (f5 a ha),f6⟩
      ·rw[zC nb1];exact s4 _ _ hb3
      ·intro c hc hn;have e5:=kp c hc hn;rw[f3 c (fun z=>hc (tF _ (sub2 _ z))) (by rw[e5];exact hn),e5]
      ·have ecur:wO (jd d k1) rows (m+1)=(wO (jd d k1) rows m).set m (.tup (ds.set k1 (.lst (xs++[d])))):=by
        rw[<-UJ hlt,hrow];unfold jd;simp only[hk1]
       rw[ecur];exact f4
     ·have em:m=rows.length:=by lia
      subst em;rw[UL]at rs2;exact .inl ⟨⟨vs,SqL.of hb3,by lia⟩,h _ _ (SKG σ2 H2 _ L2 hσ hb3 tf kp rs2 sub2 nd2)⟩
    ·rw[jPa hall]at h;exact h.elim
   | _=>rw[hτ]at h;exact h.elim
end
def Um (x k:D):R D:=match x with
 | .tup ds=>ixD (.tup ds) k
 | _=>.bad
section
def z2G (i:Nat){x:Str}(hi:ME X E Γ ix ti c)(hpl:jM ix)(hN:autoParam (X.N[i]?=some x) au3._auto_1)(h0:autoParam (Γ[i]?=some .own) au3._auto_1)(hv:autoParam (Vis X.env.scope x) au7._auto_1)(hb:autoParam ((x==("__debug__":Str))=false) au1._auto_1)(hcd:autoParam ((x==("__classdict__":Str))=false) au1._auto_1):
  MV X E Γ (.Subscript (.Name x p0) ix pos) (zd Um (za i) ti) (Γ.set i .dead):=by
 obtain⟨te,p,q⟩:=hi;refine⟨_,Jj X3 (vq (pos:=p0) hN hv hb hcd) p hpl,fun B σ H τ T Q ok h=>?_⟩;obtain⟨v,d,L,e1,e2,r,ok1⟩:=ok.out h0;refine⟨v,e1,?_⟩;obtain⟨O,eo,_⟩:=ok.eok;refine q O σ H τ _ eo ?_;have ev:za i τ=.ok d:=by unfold za;rw[e2]
 unfold zd at h;rw[ev,jYa]at h;cases ht:ti τ with
 | err m=>rw[ht]at h;exact fun C H' e s=>h C H' e (ok.ext.trans s)
 | bad=>rw[ht]at h;exact h
 | ok dk =>
  rw[ht,jYa]at h;refine fun y H1 Ly s1 ry _=>?_;cases d with
  | tup ds =>
   cases hg:ixD (.tup ds) dk with
   | err m=>exact absurd hg (z5K _ _ _)
   | bad=>rw[show Um (.tup ds) dk=ixD (.tup ds) dk from rfl,hg]at h;exact h.elim
   | ok d2 =>
    rw[show Um (.tup ds) dk=ixD (.tup ds) dk from rfl,hg]at h;refine qW (by intro ks ds z;cases z) hg (r.same s1) ry fun w L1 g1 g2=>?_;have okT:=ok1.same s1;have nd:=okT.nodT;obtain⟨n1,n2,n3⟩:=tX.mp nd;refine h w H1 L1 s1 g1 (okT.subT (tX.mpr ⟨n1.sublist g2,n2,fun a ha b hb' z=>n3 a (g2.subset ha) b hb' z⟩) fun a ha=>?_);rcases tS.mp ha with z|z
    ·exact tL _ (g2.subset z)
    ·exact tD _ z
  | _=>exact h.elim
end
def VC (i j:Nat)(t:Tn->R D):Tn->R Fl:=fun τ=>(t τ).bind fun d=>match d with
 | .tup [a,b]=>if a.imm=true then .ok (.nx ((τ.set i (some a)).set j (some b))) else .bad
 | _=>.bad
def z0g (i j:Nat){X:Cx}{E:XK}{Γ Γl:List Cl}{tg e:Expr}{t:Tn->R D}{pos:Pos}(h:ME X E Γ e t .fresh)(hg:MG X tg (.many [i,j]))(hi:i<Γ.length)(hj:j<Γ.length)(hs:autoParam (swapsWithSole [tg] e pos.line X.env=pure false) au3._auto_1)(hw:autoParam (swappedStores [tg] e X.env=pure none) au3._auto_1)
  (h1:autoParam ((jMe [tg] X.env).map (·.2)=[assign tg X.env]) au3._auto_1):MS X E Γl Γ (.Assign [tg] e pos) (VC i j t) ((Γ.set i .own).set j .own):=by
 obtain⟨te,p,q⟩:=h;refine⟨_,V4 p hg.pg hs hw h1,fun B σ H τ Z ok h=>?_⟩;obtain⟨O,eo,_⟩:=ok.eok;refine q O σ H τ _ eo ?_;unfold VC at h;cases ht:t τ with
 | err n=>rw[ht]at h;exact fun C H' e s=>h C H' e (ok.ext.trans s)
 | bad=>rw[ht]at h;exact h
 | ok d =>
  rw[ht,jYa]at h;refine fun v H' L s r k=>?_;split at h
  ·rename_i a b
   by_cases ha:a.imm=true
   ·rw[jNk ha]at h;obtain⟨ad,vs,rfl,hs,⟨va,vs',L1,L2,rfl,rfl,ra,vb,vs2,L3,L4,rfl,rfl,rb,⟨rfl,rfl⟩⟩⟩:=r;have zL:=Rep.imm _ _ _ ra ha;subst zL;rw[tQ]at k;have ok1:=ok.aside s (fun a ha=>rb.there ha) k.1 k.2;refine⟨ad,_,rfl,hs,rfl,?_⟩;exact h _ _ ((SOk.into (L:=[]) ok1 ra hi).into rb (by rw[sD];exact hj))
   ·rw[jPa ha]at h;exact h.elim
  ·exact h.elim
def Y {α:Type}(r:R α)(Q:α->Prop):Prop:=∃a,r=.ok a/\Q a
section
variable {α β:Type}
def Y.imp (h:Y r P)(k:∀a,P a->Q a):Y r Q:=h.elim fun a h=>⟨a,h.1,k a h.2⟩
def mid (P:α->Prop)(h:Y r P)(k:∀a,P a->Q a):Y r Q:=h.imp k
def yL (h:Q a):Y (.ok a) Q:=⟨a,rfl,h⟩
def zt (e:r=.ok a)(h:Q a):Y r Q:=⟨a,e,h⟩
def zr (h:Y r fun a=>Y (f a) Q):Y (r.bind f) Q:=by
 obtain⟨a,rfl,b,e,q⟩:=h;exact⟨b,e,q⟩
def vP {c:Bool}(h:c=true->Y a Q)(k:c=false->Y b Q):Y (if c=true then a else b) Q:=by cases c;exact k rfl;exact h rfl
def y0 [Decidable p]{a b:R α}(h:p->Y a Q)(k:¬p->Y b Q):Y (if decide p=true then a else b) Q:=by
 by_cases x:p
 ·rw[jNk (decide_eq_true x)];exact h x
 ·rw[jPa (by simpa using x)];exact k x
def z3m [Decidable p]{a b:R α}(x:p)(h:Y a Q):Y (if decide p=true then a else b) Q:=y0 (fun _=>h) fun k=>(k x).elim
def z6B [Decidable p]{a b:R α}(x:¬p)(h:Y b Q):Y (if decide p=true then a else b) Q:=y0 (fun k=>(x k).elim) fun _=>h
def z76 (h:Y b Q):Y (if (!true)=true then a else b) Q:=h
def z77 (h:Y a Q):Y (if (!false)=true then a else b) Q:=h
def z6z (h:Y a Q):Y (if true=true then a else b) Q:=h
def z6S (h:Y b Q):Y (if false=true then a else b) Q:=h
end
def szL (Q:D->Prop)(ys:List D):Prop:=ys.length<=16777216/\Q (.lst ys)
theorem unm {β:Type}{enc:β->D}{p:β->Prop}:∀ {ys:List D},(∀y∈ys,∃b,y=enc b/\p b)->∃bs:List β,ys=bs.map enc/\∀b∈bs,p b
 | [],_=>⟨[],rfl,fun _ h=>nomatch h⟩
 | y::ys,h=>by
  obtain⟨bs,rfl,h2⟩:=unm fun z hz=>h z (tF _ hz);obtain⟨b,rfl,hb⟩:=h y tE;exact⟨b::bs,rfl,fun z hz=>by rcases tK.1 hz with rfl|hz;exact hb;exact h2 z hz⟩
abbrev kL {α β:Type}(g:α->R β)(Q:β->Prop):α->Prop:=fun x=>Y (g x) Q
abbrev k2 (g:D->D->R D)(x:D)(Q:D->Prop):D->Prop:=fun y=>Y (g x y) Q
abbrev k1 (b:Tn->R D)(g:D->D->R D)(τ:Tn)(Q:D->Prop):D->Prop:=fun x=>Y (b τ) (k2 g x Q)
abbrev k4 (x:D)(l:List D->Prop):List D->Prop:=fun y=>l (x::y)
abbrev k3 (u:Tn->R (List D))(τ:Tn)(l:List D->Prop):D->Prop:=fun x=>Y (u τ) (k4 x l)
abbrev kA (k:Tn->R Bool)(τ:Tn)(q:Bool->Prop):Bool->Prop:=fun x=>Y (if x=true then k τ else .ok false) q
abbrev kO (k:Tn->R Bool)(τ:Tn)(q:Bool->Prop):Bool->Prop:=fun x=>Y (if x=true then .ok true else k τ) q
abbrev kN (q:Bool->Prop):Bool->Prop:=fun x=>q (!x)
abbrev kI {α:Type}(a b:Tn->R α)(τ:Tn)(Q:α->Prop):Bool->Prop:=fun x=>Y (if x=true then a τ else b τ) Q
abbrev kE (b:Tn->R D)(τ:Tn)(Q:D->Prop):Bool->Prop:=fun x=>Y (if x=true then b τ else .ok (.bl false)) Q
abbrev kE1 (b:Tn->R D)(τ:Tn)(Q:D->Prop):D->Prop:=fun x=>Y (asB x) (kE b τ Q)
abbrev kM (Q:D->Prop):D->Prop:=fun x=>x.imm=true/\Q x
abbrev kS3 (f:D->Option Int->Option Int->R D)(x:D)(y:Option Int)(Q:D->Prop):Option Int->Prop:=fun z=>Y (f x y z) Q
abbrev kS2 (f:D->Option Int->Option Int->R D)(x:D)(o:Tn->R (Option Int))(τ:Tn)(Q:D->Prop):Option Int->Prop:=fun y=>Y (o τ) (kS3 f x y Q)
abbrev kS1 (f:D->Option Int->Option Int->R D)(o o':Tn->R (Option Int))(τ:Tn)(Q:D->Prop):D->Prop:=fun x=>Y (o τ) (kS2 f x o' τ Q)
abbrev kT (o:Option Int->Prop):D->Prop:=fun x=>∃i,x=.int i/\o (some i)
abbrev kG (G:Str->List D->R D)(u:Tn->R (List D))(τ:Tn)(Q:D->Prop):D->Prop:=fun x=>∃z,x=.str z/\Y (u τ) (kL (G z) Q)
abbrev kH (G:Str->R D)(Q:D->Prop):D->Prop:=fun x=>∃z,x=.str z/\Y (G z) Q
abbrev kEx {β:Type}(enc:β->D)(p:β->Prop):D->Prop:=fun y=>∃b,y=enc b/\p b
abbrev kZ (a:Tn->R D)(τ:Tn)(p:D->Prop):Bool->Prop:=fun x=>x=true->Y (a τ) p
abbrev kZ1 (c:Tn->R Bool)(a:Tn->R D)(p:D->Prop):Tn->Prop:=fun τ=>Y (c τ) (kZ a τ p)
abbrev kVs (τ:Tn)(i:Nat)(Q:Fl->Prop):D->Prop:=fun d=>Q (.nx (τ.set i (some d)))
abbrev kR (Q:Fl->Prop):D->Prop:=fun d=>Q (.rt d)
abbrev kW (τ:Tn)(Q:Fl->Prop):D->Prop:=fun _=>Q (.nx τ)
abbrev kU2 (g:D->D->R D)(x:D)(i:Nat)(τ:Tn)(Q:Fl->Prop):D->Prop:=fun y=>Y (g x y) (kVs τ i Q)
abbrev kU (t:Tn->R D)(g:D->D->R D)(i:Nat)(τ:Tn)(Q:Fl->Prop):D->Prop:=fun x=>Y (t τ) (kU2 g x i τ Q)
abbrev kP (ds:List D)(i:Nat)(τ:Tn)(Q:Fl->Prop):D->Prop:=fun d=>ds.length<16777216/\Q (.nx (τ.set i (some (.lst (ds++[d])))))
abbrev kQ {α:Type}(enc:α->D)(xs:List α)(i:Nat)(τ:Tn)(Q:Fl->Prop):D->Prop:=fun d=>∃x,d=enc x/\xs.length<16777216/\Q (.nx (τ.set i (some (.lst ((xs++[x]).map enc)))))
abbrev kPu {α:Type}(enc:α->D)(xs:List α)(i:Nat)(ti:Tn->R D)(τ:Tn)(Q:Fl->Prop):D->Prop:=fun d=>∃x,d=enc x/\Y (ti τ) fun k=>∃j,k=.int j/\(0<=j/\j<xs.length)/\Q (.nx (τ.set i (some (.lst ((xs.set j.toNat x).map enc)))))
abbrev kPl {α:Type}(enc:α->D)(ys:List α)(i:Nat)(ti:Tn->R D)(τ:Tn)(Q:Fl->Prop):D->Prop:=fun d=>∃x,d=enc x/\Y (ti τ) fun k=>k=.int (-1)/\Q (.nx (τ.set i (some (.lst ((ys++[x]).map enc)))))
abbrev kKp (ks:List Key)(ds:List D)(i:Nat)(ti:Tn->R D)(τ:Tn)(Q:Fl->Prop):D->Prop:=fun d=>d.imm=true/\ks.length<16777216/\Y (ti τ) fun k=>∃x,k=.str x/\Q (.nx (τ.set i (some (.dic (xR ks ds (.inr x) d).1 (xR ks ds (.inr x) d).2))))
abbrev kGt (u v:Tn->R D)(τ:Tn)(Q:D->Prop):D->Prop:=fun d=>∃p:List Key×List D,d=.dic p.1 p.2/\Y (u τ) fun k=>Y (v τ) fun z=>Y (z3J p.1 p.2 k z) Q
abbrev kY (Q:Fl->Prop):Tn->Prop:=fun τ=>Q (.nx τ)
abbrev kX (tg:Tgt)(τ:Tn)(Q:Fl->Prop):D->Prop:=fun d=>Y (tg.asg d τ) (kY Q)
abbrev kF (tg:Tgt)(B:Tn->R Fl)(τ:Tn)(Q:Fl->Prop):List D->Prop:=fun ds=>Y (wa tg.asg B ds τ) Q
abbrev kC (fr:List (Option Nat))(tg:Tgt)(c:Tn->R Bool)(a:Tn->R D)(τ:Tn)(Q:D->Prop):List D->Prop:=fun ds=>Y (yK (xB tg.asg c a (jl fr τ)) ds) (szL Q)
section
variable {q:Bool->Prop}{c k:Tn->R Bool}{i:Nat}
def Wf (e:τ[i]?=some (some d))(h:Q d):Y (za i τ) Q:=⟨d,by unfold za;rw[e],h⟩
def y_C (h:Q d):Y (eC d τ) Q:=⟨d,rfl,h⟩
def z60 (h:Y (a τ) (k1 b g τ Q)):Y (zd g a b τ) Q:=zr (h.imp fun _ k=>zr k)
def z75 (h:Y (a τ) (kL g Q)):Y (eUn g a τ) Q:=zr h
def y_L (h:Y (u τ) (kL F Q)):Y (eL F u τ) Q:=zr h
def z2j (h:Y (a τ) (k3 u τ l)):Y (z9 a u τ) l:=zr (h.imp fun _ k=>zr (k.imp fun _ k=>yL k))
def z4f (h:l []):Y (zf τ) l:=yL h
def z2P (h:Y (a τ) (kL asB q)):Y (zm a τ) q:=zr h
def z42 {x:Bool}(h:q x):Y (asB (.bl x)) q:=yL h
def z5x (h:Y (c τ) (kA k τ q)):Y (Xs c k τ) q:=zr h
def z6T (h:Y (c τ) (kO k τ q)):Y (bOr c k τ) q:=zr h
def z5k (h:Y (c τ) (kN q)):Y (qd c τ) q:=zr (h.imp fun _ k=>yL k)
def z5w (h:Y (c τ) (kI a b τ Q)):Y (eIf c a b τ) Q:=zr h
def z2Q (h:Y (a τ) (kE1 b τ Q)):Y (Wj a b τ) Q:=zr (h.imp fun _ k=>zr k)
def z6r (h:Y (a τ) (kM Q)):Y (y4 a τ) Q:=zr (h.imp fun _ k=>⟨_,jNk k.1,k.2⟩)
def z6Y {o o':Tn->R (Option Int)}(h:Y (a τ) (kS1 slD o o' τ Q)):Y (eSl a o o' τ) Q:=zr (h.imp fun _ k=>zr (k.imp fun _ k=>zr k))
def z5V {o o':Tn->R (Option Int)}(h:Y (a τ) (kS1 slA o o' τ Q)):Y (z0X a o o' τ) Q:=zr (h.imp fun _ k=>zr (k.imp fun _ k=>zr k))
def z6C {o:Option Int->Prop}(h:Y (a τ) (kT o)):Y (yY a τ) o:=zr (h.imp fun _ k=>by obtain⟨i,rfl,k⟩:=k;exact yL k)
def z6N {o:Option Int->Prop}(h:o none):Y (qc τ) o:=yL h
def z4a (h:Y (a τ) (kGt b v τ Q)):Y (KG a b v τ) Q:=zr (h.imp fun _ k=>by obtain⟨p,rfl,k⟩:=k;exact zr (k.imp fun _=>zr))
def KJ (h:Y (a τ) fun x=>Y (b τ) fun y=>Y (g x y) fun z=>Y (asB z) fun k=>Y (if k=true then zd g' (eC y) e τ else .ok (.bl false)) Q):Y (Z5 g g' a b e τ) Q:=zr (h.imp fun _ k=>zr (k.imp fun _ k=>zr (k.imp fun _ k=>zr k)))
def z3S (h:Y (a τ) (kL W2 l)):Y (yt a τ) l:=zr h
def z6L (h:Y (u τ) (kL G l)):Y (iL G u τ) l:=zr h
def z6u (h:Y (a τ) (kG G u τ Q)):Y (eSm G a u τ) Q:=zr (h.imp fun _ k=>by obtain⟨i,rfl,k⟩:=k;exact zr k)
def z6a (h:Y (a τ) (kH G Q)):Y (Xl G a τ) Q:=zr (h.imp fun _ k=>by obtain⟨i,rfl,k⟩:=k;exact k)
def z3o {fr:List (Option Nat)}(h:Y (u τ) (kC fr tg c a τ Q)):Y (zR fr u tg c a τ) Q:=
 zr (h.imp fun _ k=>zr (k.imp fun _ k=>⟨_,jNk (by rw[jMc];exact k.1),k.2⟩))
def z3e {tg:Tgt}{ds:List D}{l:List D->Prop}(p:D->Prop)(h:∀d∈ds,Y (tg.asg d τ) (kZ1 c a p))(k:∀ys,ys.length<=ds.length->(∀y∈ys,p y)->l ys):Y (yK (xB tg.asg c a τ) ds) l:=by
 refine Y.imp (P:=fun ys=>ys.length<=ds.length/\∀y∈ys,p y) ?_ fun ys e=>k ys e.1 e.2;clear k
 induction ds with
 | nil=>exact yL ⟨tI _,fun _ h=>nomatch h⟩
 | cons d ds ih =>
  obtain⟨ys,e,h1,h2⟩:=ih fun d hd=>h d (tF _ hd);obtain⟨τ1,e1,x,e2,h3⟩:=h d tE;cases x with
  | false=>exact⟨ys,by rw[yK,xB,e1,jYa,e2,jYa,e];rfl,by simp only[tR];omega,h2⟩
  | true =>
   obtain⟨y,e3,hy⟩:=h3 rfl;exact⟨y::ys,by rw[yK,xB,e1,jYa,e2,jYa,jNk rfl,e3,e];rfl,by simp only[tR];omega,fun z hz=>by rcases tK.1 hz with rfl|hz;exact hy;exact h2 z hz⟩
def z6A {β:Type}{tg:Tgt}{ds:List D}{l:List D->Prop}(enc:β->D)(p:β->Prop)(h:∀d∈ds,Y (tg.asg d τ) (kL a (kEx enc p)))(k:∀ys:List β,ys.length=ds.length->(∀y∈ys,p y)->l (ys.map enc)):Y (yK (xB tg.asg (fun _=>.ok true) a τ) ds) l:=by
 suffices Y (yK (xB tg.asg (fun _=>.ok true) a τ) ds) fun r=>∃ys:List β,r=ys.map enc/\ys.length=ds.length/\∀y∈ys,p y from this.imp fun r ⟨ys,e,h1,h2⟩=>e▸k ys h1 h2
 clear k
 induction ds with
 | nil=>exact yL ⟨[],rfl,rfl,fun _ h=>nomatch h⟩
 | cons d ds ih =>
  obtain⟨r,e,ys,rfl,h1,h2⟩:=ih fun d hd=>h d (tF _ hd);obtain⟨τ1,e1,_,e3,y,rfl,hy⟩:=h d tE;exact⟨_,by rw[yK,xB,e1,jYa,jYa,jNk rfl,e3,e];rfl,y::ys,rfl,by simp only[tR,h1],fun z hz=>by rcases tK.1 hz with rfl|hz;exact hy;exact h2 z hz⟩
def z4r {β:Type}{tg:Tgt}{ds:List D}(enc:β->D)(p:β->Prop)(w:∃d∈ds,Y (tg.asg d τ) fun τ=>Y (c τ) fun x=>x=true)(h:∀d∈ds,Y (tg.asg d τ) (kZ1 c a (kEx enc p)))(k:∀ys:List β,ys≠[]->(∀y∈ys,p y)->Q (.lst (ys.map enc)))(hl:autoParam (ds.length<=16777216) au11._auto_1):Y (yK (xB tg.asg c a τ) ds) (szL Q):=by
 suffices Y (yK (xB tg.asg c a τ) ds) fun ys=>ys≠[] from by
  obtain⟨ys,e,h1⟩:=this;refine z3e (kEx enc p) (l:=fun zs=>zs=ys->szL Q zs) h (fun zs hz hp e2=>?_) |>.elim fun a h=>⟨a,h.1,h.2 (by rw[e]at h;exact (R.ok.inj h.1).symm)⟩
  obtain⟨bs,rfl,hb⟩:=unm hp;exact⟨sE hz hl,k bs (fun h=>h1 (by rw[<-e2,h];rfl)) hb⟩
 clear k hl
 induction ds with
 | nil=>obtain⟨d,hd,_⟩:=w;exact nomatch hd
 | cons d ds ih =>
  obtain⟨ys,e,_⟩:=z3e (l:=fun _=>True) (kEx enc p) (fun d hd=>h d (tF _ hd)) fun _ _ _=>trivial;obtain⟨τ1,e1,x,e2,h3⟩:=h d tE;cases x with
  | true =>
   obtain⟨y,e3,hy⟩:=h3 rfl;exact⟨y::ys,by rw[yK,xB,e1,jYa,e2,jYa,jNk rfl,e3,e];rfl,by simp⟩
  | false =>
   obtain⟨d',hd,τ2,e4,x,e5,rfl⟩:=w;rcases tK.1 hd with rfl|hd
   ·rw[e1]at e4;cases e4;rw[e2]at e5;cases e5
   ·obtain⟨zs,e6,h6⟩:=ih ⟨d',hd,τ2,e4,_,e5,rfl⟩ fun d hd=>h d (tF _ hd);exact⟨zs,by rw[yK,xB,e1,jYa,e2,jYa,e6];rfl,h6⟩
def YR {α:Type}{enc:α->D}{tg:Tgt}{xs:List α}(f:α->D)(h:∀x∈xs,Y (tg.asg (enc x) τ) (kL a fun v=>v=f x))(k:Q (.lst (xs.map f)))(hl:autoParam (xs.length<=16777216) au12._auto_1):Y (yK (xB tg.asg (fun _=>.ok true) a τ) (xs.map enc)) (szL Q):=by
 refine⟨xs.map f,?_,by rw[tH];exact hl,k⟩;rw[qT (o:=fun x=>some (f x)) fun x hx=>?_,KW];obtain⟨τ1,e1,_,e2,rfl⟩:=h x hx;rw[xB,e1,jYa,jYa,jNk rfl,e2];rfl
def z6X {α:Type}{enc:α->D}{tg:Tgt}{xs:List α}(g:α->Bool)(f:α->D)(h:∀x∈xs,Y (tg.asg (enc x) τ) fun τ=>Y (c τ) fun y=>y=g x/\Y (a τ) fun v=>v=f x)(k:Q (.lst ((xs.filter g).map f)))(hl:autoParam (xs.length<=16777216) au12._auto_1):Y (yK (xB tg.asg c a τ) (xs.map enc)) (szL Q):=by
 refine⟨(xs.filter g).map f,?_,by rw[tH];exact sE (List.length_filter_le _ _) hl,k⟩;rw[qT (o:=fun x=>if g x=true then some (f x) else none) fun x hx=>?_,z4d];obtain⟨τ1,e1,_,e2,rfl,_,e3,rfl⟩:=h x hx;rw[xB,e1,jYa,e2,jYa,e3];cases g x<;>rfl
def yU {β:Type}{tg:Tgt}{ds:List D}(enc:β->D)(p:β->Prop)(h:∀d∈ds,Y (tg.asg d τ) (kL a (kEx enc p)))(k:∀ys:List β,ys.length=ds.length->(∀y∈ys,p y)->Q (.lst (ys.map enc)))(hl:autoParam (ds.length<=16777216) au11._auto_1):Y (yK (xB tg.asg (fun _=>.ok true) a τ) ds) (szL Q):=
 z6A enc p h fun ys e hy=>⟨by rw[tH,e];exact hl,k ys e hy⟩
def U2 {β:Type}{tg:Tgt}{ds:List D}(enc:β->D)(p:β->Prop)(h:∀d∈ds,Y (tg.asg d τ) (kZ1 c a (kEx enc p)))(k:∀ys:List β,ys.length<=ds.length->(∀y∈ys,p y)->Q (.lst (ys.map enc)))(hl:autoParam (ds.length<=16777216) au11._auto_1):Y (yK (xB tg.asg c a τ) ds) (szL Q):=
 z3e _ h fun ys e hy=>by
  obtain⟨bs,rfl,hb⟩:=unm hy;exact⟨sE e hl,k bs (by simpa using e) hb⟩
end
def xq {lo:Int}{n:Nat}(h:d∈rng lo n):∃i:Int,d=.int i/\lo<=i/\i<lo+n:=by
 obtain⟨i,hi,rfl⟩:=tW.1 h;have:=rS.1 hi;exact⟨_,rfl,by omega,by omega⟩
section
variable {τ:Tn}{a b B:Tn->R Fl}{t:Tn->R D}{c:Tn->R Bool}{Q:Fl->Prop}{i:Nat}{d:D}{tg:Tgt}{u:Tn->R (List D)}
def sq (b:Tn->R Fl)(Q:Fl->Prop):Fl->Prop
 | .nx τ=>Y (b τ) Q
 | f=>Q f
def z62 (h:Y (a τ) (sq b Q)):Y (zh a b τ) Q:=zr (h.imp fun f k=>by cases f with|nx τ=>exact k|rt d=>exact yL k|bk τ=>exact yL k|ct τ=>exact yL k)
def z4j (h:Y (b τ) Q):sq b Q (.nx τ):=h
def z6b (h:Q (.rt d)):sq b Q (.rt d):=h
def z5b (h:Q (.bk τ)):sq b Q (.bk τ):=h
def rb (Q:D->Prop):Fl->Prop
 | .nx _=>Q .non
 | .rt d=>Q d
 | _=>False
def z5E {Q:D->Prop}(h:Q d):rb Q (.rt d):=h
def z5Y {Q:D->Prop}(h:Q .non):rb Q (.nx τ):=h
def zp {n:Nat}{ds:List D}{Q:D->Prop}(h:Y (a (ds.map some++List.replicate (n-ds.length) none)) (rb Q)):Y (zF n a ds) Q:=by
 obtain⟨f,e,h⟩:=h;cases f with
 | nx τ=>exact⟨_,by rw[zF,e],h⟩
 | rt d=>exact⟨_,by rw[zF,e],h⟩
 | bk τ=>exact h.elim
 | ct τ=>exact h.elim
def z6f (h:Y (t τ) (kVs τ i Q)):Y (zl i t τ) Q:=zr (h.imp fun _ k=>yL k)
def z5S (h:Y (t τ) (kR Q)):Y (zx t τ) Q:=zr (h.imp fun _ k=>yL k)
def z3Q (h:Q (.nx τ)):Y (zH τ) Q:=yL h
def z2w (h:Y (t τ) (kW τ Q)):Y (U7 t τ) Q:=zr (h.imp fun _ k=>yL k)
def z5M (h:Y (c τ) (kI a b τ Q)):Y (sIf c a b τ) Q:=zr h
def z56 (h:Y (za i τ) (kU t g i τ Q)):Y (qP i g t τ) Q:=zr (h.imp fun _ k=>zr (k.imp fun _ k=>zr (k.imp fun _ k=>yL k)))
def z1R (e:τ[i]?=some (some (.lst ds)))(h:Y (t τ) (kP ds i τ Q)):Y (xy i t τ) Q:=
 zr (Wf e (zr (h.imp fun _ k=>⟨_,jNk (by rw[jMc];exact k.1),k.2⟩)))
def z5U (e:τ[i]?=some (some (.lst (xs.map enc))))(h:Y (t τ) (kQ enc xs i τ Q)):Y (xy i t τ) Q:=
 z1R e (h.imp fun _ k=>by obtain⟨x,rfl,k1,k2⟩:=k;rw[rR]at k2;exact⟨by rw[tH];exact k1,k2⟩)
def z5d (e:τ[i]?=some (some (.lst (xs.map enc))))(h:Y (t τ) (kPu enc xs i ti τ Q)):Y (WH i t ti τ) Q:=
 zr (h.imp fun _ k=>by
  obtain⟨x,rfl,_,e2,j,rfl,⟨h0,h1⟩,q⟩:=k;refine zr (Wf e (zr (zt e2 (zr ⟨.lst ((xs.map enc).set j.toNat (enc x)),?_,yL (by rw[<-List.map_set];exact q)⟩))));have:ixN (xs.map enc).length j=some j.toNat:=by
   unfold ixN;rw[jNk h0,jNk (by rw[tH];exact h1)]
  unfold z0J;rw[this])
def VF (n:Nat):ixN (n+1) (-1)=some n:=by
 unfold ixN;rw[jPa (by decide),jNk (by omega)];exact congrArg some (by omega)
def z55 (e:τ[i]?=some (some (.lst ((ys++[z]).map enc))))(h:Y (t τ) (kPl enc ys i ti τ Q)):Y (WH i t ti τ) Q:=
 zr (h.imp fun _ k=>by
  obtain⟨x,rfl,_,e2,rfl,q⟩:=k;refine zr (Wf e (zr (zt e2 (zr ⟨.lst ((ys++[x]).map enc),?_,yL q⟩))));unfold z0J;rw[tH,tV,show ys.length+[z].length=ys.length+1 from rfl,VF];simp)
def z5T {α:Type}{enc:α->D}{ys:List α}{z:α}{Q:D->Prop}(h:Q (enc z)):Y (ixD (.lst ((ys++[z]).map enc)) (.int (-1))) Q:=
 zt (YH (by unfold atI;rw[tH,tV,show ys.length+[z].length=ys.length+1 from rfl,VF];simp)) h
theorem Wy:∀ {ds:List D} {n k:Nat} {d:D},(wz n ds)[k]?=some d->∃e,ds[k]?=some e/\d=.tup [.int (n+k:Nat),e]
 | d::ds,n,0,e,h=>⟨d,rfl,(jYe h).symm⟩
 | d::ds,n,k+1,e,h=>by
  obtain⟨x,h1,h2⟩:=Wy (ds:=ds) (n:=n+1) (k:=k) h;exact⟨x,h1,by rw[h2,show n+1+k=n+(k+1) by omega]⟩
theorem W3:∀ {ds:List D} {n:Nat},(wz n ds).length=ds.length
 | [],_=>rfl
 | d::ds,n=>congrArg (·+1) W3
def z6E (e:τ[i]?=some (some (.dic ks ds)))(h:Y (t τ) (kKp ks ds i ti τ Q)):Y (wd i t ti τ) Q:=by
 rw[K9];exact zr (h.imp fun _ k=>by
  obtain⟨h1,h2,_,e2,x,rfl,q⟩:=k;exact zr (Wf e (zr (zt e2 (zt (KH h1 h2) q)))))
def z4v (h:Y (t τ) (kX tg τ Q)):Y (Jw tg t τ) Q:=zr (h.imp fun _ k=>zr (k.imp fun _ k=>yL k))
def z64 (h:q (τ.set i (some d))):Y (Tgt.asg (.one i) d τ) q:=yL h
def z4k {j:Nat}(h:q ((τ.set i (some d)).set j (some e))):Y (Tgt.asg (.many [i,j]) (.tup [d,e]) τ) q:=yL h
def z4M (h:Y (u τ) (kF tg B τ Q)):Y (xg u tg B τ) Q:=zr h
def lp (I:Tn->Prop)(Q:Fl->Prop):Fl->Prop
 | .nx τ=>I τ
 | .ct τ=>I τ
 | .bk τ=>Q (.nx τ)
 | .rt d=>Q (.rt d)
def z4C (h:I τ):lp I Q (.nx τ):=h
def z45 (h:Q (.nx τ)):lp I Q (.bk τ):=h
def z4B (h:Q (.rt d)):lp I Q (.rt d):=h
def jA {ds:List D}(I:Nat->Tn->Prop)(h0:I 0 τ)(hs:∀k d τ,ds[k]?=some d->I k τ->Y (tg.asg d τ) (kL B (lp (I (k+1)) Q)))(hq:∀τ,I ds.length τ->Q (.nx τ)):Y (wa tg.asg B ds τ) Q:=by
 induction ds generalizing I τ with
 | nil=>exact yL (hq _ h0)
 | cons d ds ih =>
  obtain⟨τ1,e1,f,e2,h⟩:=hs 0 d τ rfl h0;have hn:∀τ2,I 1 τ2->Y (wa tg.asg B ds τ2) Q:=fun τ2 h2=>ih (fun k=>I (k+1)) h2 (fun k=>hs (k+1)) hq;have e:wa tg.asg B (d::ds) τ=(R.ok f).bind (goF tg.asg B ds):=by rw[VG,e1,jYa,e2]
  rw[e,jYa];cases f with
  | nx τ2=>exact hn τ2 h
  | ct τ2=>exact hn τ2 h
  | bk τ2=>exact yL h
  | rt r=>exact yL h
def UE {ds:List D}(I:Tn->Prop)(h0:I τ)(hs:∀d∈ds,∀τ,I τ->Y (tg.asg d τ) (kL B (lp I Q)))(hq:∀τ,I τ->Q (.nx τ)):Y (wa tg.asg B ds τ) Q:=
 jA (fun _=>I) h0 (fun k d τ hd=>hs d (rF hd) τ) hq
def Xu {α:Type}{enc:α->D}{xs:List α}(I:List α->Tn->Prop)(h0:I [] τ)(hs:∀pre x τ,x∈xs->pre.length<xs.length->I pre τ->Y (tg.asg (enc x) τ) (kL B (lp (I (pre++[x])) Q)))(hq:∀τ,I xs τ->Q (.nx τ)):Y (wa tg.asg B (xs.map enc) τ) Q:=by
 refine jA (fun k=>I (xs.take k)) (by simpa using h0) (fun k d τ hd h=>?_) fun τ h=>hq τ (by simpa using h);rw[tN]at hd;obtain⟨x,hx,rfl⟩:=sM.1 hd;have hk:=(tJ.1 hx).1;have e:xs.take (k+1)=xs.take k++[x]:=by rw[List.take_add_one,hx];rfl
 rw[e];exact hs _ x τ (rF hx) (by rw[rJ];omega) h
def z3X {α:Type}{enc:α->D}{xs:List α}(I:Nat->Tn->Prop)(h0:I 0 τ)(hs:∀k x τ,x∈xs->k<xs.length->I k τ->Y (tg.asg (.tup [.int (k:Nat),enc x]) τ) (kL B (lp (I (k+1)) Q)))(hq:∀τ,I xs.length τ->Q (.nx τ)):Y (ZX [.lst (xs.map enc)]) (kF tg B τ Q):=
 yL (jA I h0 (fun k d τ hd h=>by
  obtain⟨e,h1,rfl⟩:=Wy hd;rw[tN]at h1;obtain⟨x,hx,rfl⟩:=sM.1 h1;rw[Nat.zero_add];exact hs k x τ (rF hx) (tJ.1 hx).1 h) fun τ h=>hq τ (by rw[W3,tH]at h;exact h))
def z28 {α:Type}{enc:α->D}{xs:List α}(I:List α->Tn->Prop)(h0:I xs τ)(hs:∀x r τ,I (x::r) τ->Y (tg.asg (enc x) τ) (kL B (lp (I r) Q)))(hq:∀τ,I [] τ->Q (.nx τ)):Y (wa tg.asg B (xs.map enc) τ) Q:=by
 induction xs generalizing τ with
 | nil=>exact yL (hq _ h0)
 | cons x xs ih =>
  obtain⟨τ1,e1,f,e2,h⟩:=hs x xs τ h0;have e:wa tg.asg B ((x::xs).map enc) τ=(R.ok f).bind (goF tg.asg B (xs.map enc)):=by rw[tO,VG,e1,jYa,e2]
  rw[e,jYa];cases f with
  | nx τ2=>exact ih h
  | ct τ2=>exact ih h
  | bk τ2=>exact yL h
  | rt r=>exact yL h
def iAt (τ:Tn)(i:Nat):Int:=match τ[i]? with|some (some (D.int q))=>q|_=>0
def KQ (I:Tn->Prop)(μ:Tn->Nat)(h0:I τ)(hs:∀τ,I τ->Y (c τ) fun x=>if x=true then Y (B τ) fun f=>∃τ2,f=.nx τ2/\I τ2/\μ τ2<μ τ else Q (.nx τ)):Y (xA c B τ) Q:=by
 obtain⟨τ',e,h1,h2⟩:=UG (k:=c) (body:=B) I μ (fun τ h=>by
  obtain⟨x,e,k⟩:=hs τ h;cases x with
  | false=>exact .inl e
  | true=>obtain⟨_,e2,τ2,rfl,k1,k2⟩:=k;exact .inr ⟨e,τ2,e2,k1,k2⟩) τ h0
 obtain⟨x,e3,k⟩:=hs τ' h1;rw[h2]at e3;cases e3;exact⟨_,e,k⟩
end
section
variable {i j:Int}
def z49 (h:-18446744073709551616<i/\i<18446744073709551616\/-18446744073709551616<j/\j<18446744073709551616)(k:Q (.int (i*j))):Y (yH (.int i) (.int j)) Q:=h.elim (fun h=>zt (z1m h.1 h.2) k) fun h=>zt (KC h.1 h.2) k
def z5J (h:Q (.bl (decide (i=j)))):Y (eqR false (.int i) (.int j)) Q:=zt Jb (by simpa [BEq.beq] using h)
def z5m (h:Q (.bl (decide (x=y)))):Y (eqR false (.str x) (.str y)) Q:=zt JP (by
 have e:(x==y)=decide (x=y):=by
  by_cases k:x=y
  ·subst k;simp
  ·rw[decide_eq_false k];exact beq_eq_false_iff_ne.2 k
 rw[e];exact h)
def J9 (h:x.length<=16777216)(k:Q (.int x.length)):Y (yC [.str x]) Q:=zt (Ku (by rw[jMc];exact h)) k
def Vr (h:-4611686018427387904<=j/\j<4611686018427387904)(k:l (rng 0 j.toNat)):Y (vY [.int j]) l:=zt (z0P (by omega) (by omega)) k
def z3T (h:-4611686018427387904<=i/\i<4611686018427387904/\-4611686018427387904<=j/\j<4611686018427387904)(k:l (rng i (j-i).toNat)):Y (Zz [.int i,.int j]) l:=zt (z0d (by omega) (by omega) (by omega) (by omega)) k
def xr (h:x.length+y.length<=16777216)(k:Q (.str (x++y))):Y (zB (.str x) (.str y)) Q:=zt (Ky (by rw[jMc];exact h)) k
def z0f (h:x.length+y.length<=16777216)(k:Q (.str (x++y))):Y (wM (.str x) (.str y)) Q:=⟨_,jNk (by rw[jMc];exact h),k⟩
def j8 (h0:0<=i)(h:ds[i.toNat]?=some d)(k:Q d):Y (ixD (.lst ds) (.int i)) Q:=zt (YH (Xr h0 h)) k
theorem U1 (lt:Int->Int->Bool)(f:Nat->Int):∀k,∃i,i<=k/\uK lt f k=f i
 | 0=>⟨0,tI _,rfl⟩
 | k+1=>by
  obtain⟨i,hi,e⟩:=U1 lt f k;unfold uK;split
  ·exact⟨_,tI _,rfl⟩
  ·exact⟨i,by omega,e⟩
def Qe {lt:Int->Int->Bool}{ns:List Int}(h:ns≠[])(k:∀m∈ns,Q (.int m)):Y (jk (fun ns=>uK lt (fun i=>ns.getD i 0) (ns.length-1)) [.lst (ns.map D.int)]) Q:=by
 cases ns with
 | nil=>exact (h rfl).elim
 | cons n ns =>
  obtain⟨i,hi,e⟩:=U1 lt (fun i=>(n::ns).getD i 0) ((n::ns).length-1);refine⟨.int (uK lt (fun i=>(n::ns).getD i 0) ((n::ns).length-1)),by simp only[jk,vt],k _ ?_⟩;have hl:i<(n::ns).length:=by simp at hi ⊢;omega
  rw[e];simp only[sN,tG hl];exact sR hl
def z1I {ns:List Int}(h:ns≠[])(k:∀m∈ns,Q (.int m)):Y (ZP [.lst (ns.map D.int)]) Q:=Qe h k
def K1 {ns:List Int}(h:ns≠[])(k:∀m∈ns,Q (.int m)):Y (ke [.lst (ns.map D.int)]) Q:=Qe h k
def J7 (h:0<j/\j<1073741824)(k:Q (.int (i/j))):Y (zN (.int i) (.int j)) Q:=zt (z1h h.1 h.2) k
def z6h (h:0<j)(k:Q (.int (i%j))):Y (zY (.int i) (.int j)) Q:=zt (z2C h) k
def z4t (k:l ds):Y (W2 (.lst ds)) l:=yL k
def z4S (k:l ds):Y (W2 (.tup ds)) l:=yL k
def z51 (k:l (signs x)):Y (W2 (.str x)) l:=yL k
def z5y {ns:List Int}(k:Q (.int ns.sum)):Y (qS [.lst (ns.map D.int)]) Q:=zt z2x k
end
def Z {α:Type}(x:Str)(r:R α)(Q:α->Prop):Prop:=Y r Q\/r=.err x
def zq (x:Str)(b:Tn->R Fl)(Q:Fl->Prop):Fl->Prop
 | .nx τ=>Z x (b τ) Q
 | f=>Q f
def z1K (h:Z x (b τ) Q):zq x b Q (.nx τ):=h
def z59 (h:Q (.rt d)):zq x b Q (.rt d):=h
def XM (h:Y (a τ) (zq x b Q)):Z x (zh a b τ) Q:=by
 obtain⟨f,e,h⟩:=h;unfold zh;rw[e,jYa];cases f with
 | nx τ=>exact h
 | rt d=>exact .inl (yL h)
 | bk τ=>exact .inl (yL h)
 | ct τ=>exact .inl (yL h)
def Qc {n:Nat}(h:Z x (a (ds.map some++List.replicate (n-ds.length) none)) (rb Q)):Z x (zF n a ds) Q:=
 h.elim (fun h=>.inl (zp h)) fun h=>.inr (by rw[zF,h])
def z_L (h:Y (u τ) fun ds=>Z x (F ds) Q):Z x (eL F u τ) Q:=by
 obtain⟨f,e,h⟩:=h;unfold eL;rw[e,jYa];exact h
def z2U (h:Z x (a τ) (zq x b Q)):Z x (zh a b τ) Q:=
 h.elim XM fun h=>.inr (by unfold zh;rw[h];rfl)
def z58 {c:Tn->R Bool}(h:Y (c τ) fun y=>Z x (if y=true then a τ else b τ) Q):Z x (sIf c a b τ) Q:=by
 obtain⟨f,e,h⟩:=h;unfold sIf;rw[e,jYa];exact h
def z3V (h:Y (u τ) fun ds=>(∃d,F ds=.ok d/\Q (.rt d))\/(F ds=.err x/\Q (.rt .non))):Y (Yg x F u τ) Q:=by
 obtain⟨ds,e,⟨d,e1,h⟩|⟨e1,h⟩⟩:=h
 ·exact⟨_,by unfold Yg;rw[e];dsimp only;rw[e1],h⟩
 ·exact⟨_,by unfold Yg;rw[e];dsimp only;rw[e1];exact jNk rfl,h⟩
def z2k {j:Nat}{k:Int}(h:Y (u τ) fun ds=>(∃d v,F ds=.ok d/\XQ d k=.ok v/\Q (.nx (τ.set j (some v))))\/(F ds=.err x/\Q (.rt .non))):Y (Yo x j k F u τ) Q:=by
 obtain⟨ds,e,⟨d,v,e1,e2,h⟩|⟨e1,h⟩⟩:=h
 ·exact⟨_,by unfold Yo;rw[e];dsimp only;rw[e1];dsimp only;rw[e2],h⟩
 ·exact⟨_,by unfold Yo;rw[e];dsimp only;rw[e1];exact jNk rfl,h⟩
def z3h {i j:Nat}(h:Y (t τ) fun d=>∃p:D×D,d=.tup [p.1,p.2]/\p.1.imm=true/\Q (.nx ((τ.set i (some p.1)).set j (some p.2)))):Y (VC i j t τ) Q:=
 zr (h.imp fun _ k=>by obtain⟨p,rfl,h1,h2⟩:=k;exact⟨_,jNk h1,h2⟩)
def z1V (h:Z x (t τ) fun d=>Q (.rt d)):Z x (zx t τ) Q:=by
 rcases h with⟨f,e,h⟩|h
 ·exact .inl (zr ⟨f,e,yL h⟩)
 ·exact .inr (by unfold zx;rw[h];rfl)
def z63 {x:Str}{ks:List Key}{ds:List D}{d:D}{Q:D->Prop}(h:yf ks ds (.inr x)=some d)(k:Q d):Y (ixD (.dic ks ds) (.str x)) Q:=by
 refine zt (a:=d) ?_ k;show (match yf ks ds (.inr x)with|some d=>R.ok d|none=>R.bad)=_;rw[h]
def QL {i j:Int}:wM (.int i) (.int j)=.ok (.int (i+j)):=rfl
def z48 {i:Int}:isN true (.int i) .non=.ok (.bl true):=rfl
def z4P:isN true .non .non=.ok (.bl false):=rfl
def z6g {x:Str}:isN true (.str x) .non=.ok (.bl true):=rfl
def z4m:isN false .non .non=.ok (.bl true):=rfl
def z65 {x:Str}:isN false (.str x) .non=.ok (.bl false):=rfl
def z4G {x:List D}:isN false (.lst x) .non=.ok (.bl false):=rfl
def z0A {α:Type}{f:α->D}{xs:List α}:yC [.lst (xs.map f)]=.ok (.int xs.length):=by rw[Vy,tH]
def z0h {α:Type}{f:α->D}{xs:List α}:yC [.tup (xs.map f)]=.ok (.int xs.length):=by rw[VU,tH]
def z15 {i j:Int}:qv [.int i,.int j]=.ok (.int (if j>i then j else i)):=rfl
def z1e {i j:Int}:ka [.int i,.int j]=.ok (.int (if j<i then j else i)):=rfl
def z6O {a b:Str}{t:Tn->R D}{τ:Tn}{Q:D->Prop}(h:Y (t τ) (kL (f3D a b) Q)):Y (eF3 a b t τ) Q:=zr h
def z6V {b:Str}{t:Tn->R D}{τ:Tn}{Q:D->Prop}(h:Y (t τ) (kL (f2D b) Q)):Y (eF2 b t τ) Q:=zr h
def z44 {t:Tn->R D}{τ:Tn}{Q:D->Prop}(h:Y (t τ) (kL z3P Q)):Y (Jy t τ) Q:=zr h
def Vt {z:Str}{ys:List Str}{Q:D->Prop}(h:(ys.map (·.length)).sum+ys.length*z.length<=16777216)(k:Q (.str (Str.join z ys))):Y (v9 z [.lst (ys.map D.str)]) Q:=zt (Ja h) k
def z1y {α:Type}{enc:α->D}{i:Nat}{t:Tn->R D}{τ:Tn}{xs:List α}{Q:Fl->Prop}(e:τ[i]?=some (some (.lst (xs.map enc))))(hi:∀x,(enc x).imm=true)(h:Y (t τ) fun d=>∃ys:List α,(d=.lst (ys.map enc)\/d=.tup (ys.map enc))/\xs.length+ys.length<=16777216/\Q (.nx (τ.set i (some (.lst ((xs++ys).map enc)))))):Y (UQ i t τ) Q:=by
 obtain⟨_,e1,ys,he,h1,h2⟩:=h;refine⟨_,?_,h2⟩;unfold UQ;rw[e];dsimp only;rw[e1,jYa,rR];rcases he with rfl|rfl<;>exact jNk ⟨zV hi ys,by rw[jMc,tH,tH];exact h1⟩
def z29 {a b:Str}:YL (.str a) (.str b)=.ok (.bl (inS a b)):=rfl
def z1a {a b:Str}:jW a [.str b]=.ok (.int (Txt.find a b)):=rfl
def z2s {a:Str}:qw "str" (.str a)=.ok (.bl true):=rfl
def z2t {x y:Str}:eqR true (.str x) (.str y)=.ok (.bl (decide (x≠y))):=by
 rw[JP,jNk rfl]
 by_cases h:x=y
 ·subst h;simp
 ·rw[decide_eq_true h,beq_eq_false_iff_ne.2 h];rfl
def z2M {a b:D}:Um (.tup [a,b]) (.int 1)=.ok b:=by unfold Um;exact QM
def z6s {z:Str}{a b:Option Int}{Q:D->Prop}(h:z.length<=16777216)(k:Q (.str (Txt.slice z a b))):Y (slD (.str z) a b) Q:=⟨_,jNk (by rw[jMc];exact h),k⟩
def z1B {z:Str}{Q:D->Prop}(h:z.length<=5592405)(k:Q (.str (Txt.lower z))):Y (UX z) Q:=⟨_,jNk h,k⟩
def Qz {z a b:Str}{Q:D->Prop}(h:z.length<=1048576)(k:Q (.str (Txt.replace z a b))):Y (Y8 a b (.str z)) Q:=⟨_,jNk h,k⟩
def ki {z:Str}{i:Int}{Q:D->Prop}(hz:z.length<=16777216)(h0:0<=i)(h1:i<z.length)(k:∀c∈z.cps.toList,Q (.str ⟨#[c]⟩)):Y (ixD (.str z) (.int i)) Q:=by
 have hl:z.cps.toList.length=z.length:=by simp[Str.length]
 have hi:i.toNat<z.cps.toList.length:=by omega
 exact zt (z3f (by rw[jMc];exact hz) (Xr h0 (tG hi))) (k _ (sR hi))
structure Hid (q:Prop):Prop where
 x:q
def go {p q:Prop}(k:q)(h:Hid q->p:=by intro h;(repeat (first|(with_reducible first|apply z60|apply y_C|apply y_L|apply z2j|apply z4f|apply yL|apply z62|apply z4j|apply z6f|apply z5S|apply z2P|apply z42|apply zt z2q|apply zt z3Y|apply zt z4U|apply zt z5G|apply zt z69|apply zt z4b|apply zt z2J|apply z5J|apply z5m|apply zt z0A|apply zt z0h|apply zt Vy|apply zt VU|apply zt z2K|apply zt QM|apply zt z3b|apply z6b|apply z5E|apply z5Y|apply z5M|apply z3Q|apply z5w|apply z75|apply z5x|apply z6T|apply z5k|apply z2Q|apply z6r|apply z6Y|apply z5V|apply z6C|apply z6N|apply z3S|apply z6L|apply z6u|apply z6a|apply z3o|apply z4M|apply z56|apply z4v|apply z2w|apply z64|apply z4k|apply z6z|apply z6S|apply z4C|apply z45|apply z4B|apply z5b|apply z5y|apply z5T|apply z4t|apply z6O|apply z6V|apply z44|apply z3V|apply z2k|apply z3h|apply z76|apply z77|apply KJ|apply zt z29|apply zt z1a|apply zt z2s|apply zt z2t|apply zt z2M|apply z6s (by omega)|apply z1B (by omega)|apply Qz (by omega)|apply J9 (by omega)|apply z4a|apply z1K|apply z59|apply z4S|apply z51|apply zt QL|apply zt z48|apply zt z4P|apply zt z6g|apply zt z4m|apply zt z65|apply zt z4G|apply zt z15|apply zt z1e|apply z3m (by decide)|apply z6B (by decide)|apply J7 (by omega)|apply z6h (by omega)|apply z49 (by omega)|apply Vr (by omega)|apply z3T (by omega))|((with_reducible apply Wf);exact rfl)|((with_reducible apply z5U);exact rfl)|((with_reducible apply z1R);exact rfl)|((with_reducible apply z6E);exact rfl)|((with_reducible apply z55);exact rfl)|((with_reducible apply z5d);exact rfl)|((with_reducible apply z63);exact rfl)|(with_reducible refine⟨_,rfl,?_⟩)|((with_reducible refine And.intro ?_ ?_);focus first|rfl|omega|assumption)));exact h.x):p:=h ⟨k⟩
section
variable {P:jNe}{w:World}{K:jJa}{mg:Str->Option Value}{base:Heap}{x:Str}{st:Stmt}{ps:List Str}{k:Nat}{t:Tn->R Fl}
def miD (N:List Str) (Df:DefIn K mg x st ps) (hbody:FnScope N ps (defScope st)->∀(f:Addr) (cdv:Value) (A:jNf) (outer:List Env) (s:jNg) (H:Hp) (E:XK),Room k (A.deeper (envOfC x (defScope st) s.heap.objs.size f cdv)) ->
   MSs (yZ (cxx P w) P w K mg base N x (defScope st) f cdv A outer s H E) E [] (jG N.length ps.length) (defBody st) t (jG N.length ps.length)) (S:autoParam (FnScope N ps (defScope st)) au13._auto_1) (hn:autoParam (ps.length<=N.length) au1._auto_1):Own P w K mg base x (k+1) ps (spM K (zF N.length t) ps.length):=
 Df.mir S hn (hbody S)
end
section
variable {X:Cx}{E:XK}{Γ Γ' Γl:List Cl}{x:Str}{k k':Nat}{ps:List Str}{F:List D->R D}{e:Expr}{es:List Expr}{u:Tn->R (List D)}{c:Rc}{p pos:Pos}{n:Nat}
def cl (O:Own X.prog X.w X.K X.mg X.base x k ps (spM X.K F n))(hr:Room k' X.A)(ha:MA X E Γ (e::es) u c)(hk:autoParam (k<=k') au1._auto_1)(hg:autoParam (Gl X x) au10._auto_1)(hx:autoParam (uX (cxx X.prog X.w) X E) au14._auto_1)(hl:autoParam ((e::es).length=n) au3._auto_1)(hdb:autoParam ((x==("__debug__":Str))=false) au1._auto_1)
  (he:autoParam (jNc (e::es) X.env=(false,eval e X.env)::jNc es X.env) au3._auto_1) (hpl:autoParam ((jNh pos (jNc es X.env)).any (·.1)=false) au3._auto_1):ME X E Γ (.Call (.Name x p) (e::es) [] pos) (eL F u) .fresh:=
 z0Y (O.mono hk) hr hg hx ha hl hdb he hpl
def ln (B:Bl X.mg)(ha:MA X E Γ (e::es) u c)(hg:autoParam (Gl X "len") au10._auto_1)(he:autoParam (jNc (e::es) X.env=(false,eval e X.env)::jNc es X.env) au3._auto_1)(hpl:autoParam ((jNh pos (jNc es X.env)).any (·.1)=false) au3._auto_1):ME X E Γ (.Call (.Name "len" p) (e::es) [] pos) (eL yC u) .fresh:=
 zU Uh z5W z4q hg B.len PySem.boot_len ha (by decide) (by decide) he hpl
def vs (i:Nat){x:Str}(hN:autoParam (X.N[i]?=some x) au3._auto_1)(hk:autoParam (Γ[i]?=some .shr) au3._auto_1)(hv:autoParam (Vis X.env.scope x) au7._auto_1)(hb:autoParam ((x==("__debug__":Str))=false) au1._auto_1)(hcd:autoParam ((x==("__classdict__":Str))=false) au1._auto_1):ME X E Γ (.Name x pos) (za i) (Rc.of .shr):=
 mn i .shr hN hk (by decide) hv hb hcd
def vo (i:Nat){x:Str}(hN:autoParam (X.N[i]?=some x) au3._auto_1)(hk:autoParam (Γ[i]?=some .own) au3._auto_1)(hv:autoParam (Vis X.env.scope x) au7._auto_1)(hb:autoParam ((x==("__debug__":Str))=false) au1._auto_1)(hcd:autoParam ((x==("__classdict__":Str))=false) au1._auto_1):ME X E Γ (.Name x pos) (za i) (Rc.of .own):=
 mn i .own hN hk (by decide) hv hb hcd
end
section
variable {CX:CXT}{P:jNe}{w:World}{K:jJa}{mg:Str->Option Value}{base:Heap}{N:List Str}{qual:Str}{sc:Scope}{f:Addr}{cd:Value}{A:jNf}{outer:List Env}{s:jNg}{H:Hp}{E' E:XK}{Γ:List Cl}{fr:List (Option Nat)}{scope:Scope}{y:Str}{p pos:Pos}{iter elt:Expr}{ifs:List Expr}{it:Tn->R (List D)}{cnd:Tn->R Bool}{te:Tn->R D}{ci c:Rc}
def cm1 (N':List Str)(nf:∀y∈sc.names,y.2≠.free)(hi:MI (yZ CX P w K mg base N qual sc f cd A outer s H E') E Γ (.Name y p) iter it ci)
  (he:∀s₃ H₃ fp jNj,ME (zA (yZ CX P w K mg base N qual sc f cd A outer s H E') scope N' s₃ H₃ fp jNj) noX (yn (Cl.ofIt ci) (y8 fr Γ) [0]) elt te c) (hc:autoParam ((yZ CX P w K mg base N qual sc f cd A outer s H E').calm=true) au3._auto_1) (h:autoParam (uk sc N N' fr scope=true) au15._auto_1) (nd:autoParam (N'.Nodup) au15._auto_1)
  (hg:N'.Nodup->∀s₃ H₃ fp jNj,MG (zA (yZ CX P w K mg base N qual sc f cd A outer s H E') scope N' s₃ H₃ fp jNj) (.Name y p) (.one 0):=by exact fun h _ _ _ _=>zT (pgn 0 h)) (hcl:autoParam (c≠.bor) au1._auto_1) (hd:autoParam (∀j∈[0],(y8 fr Γ)[j]?=some .dead) au1._auto_1)
  (hs:autoParam (∀x,jYh iter (yZ CX P w K mg base N qual sc f cd A outer s H E').env x=pure x) au2._auto_1):ME (yZ CX P w K mg base N qual sc f cd A outer s H E') E Γ (.ListComp elt [⟨.Name y p,iter,[],0⟩] scope pos) (zR fr it (.one 0) (fun _=>.ok true) te) c:=
 wg hc (xk nf h) hi (hg nd) (fun _ _ _ _=>xh) he hcl hd hs
end
section
variable {X:Cx}{E:XK}{Γ Γ' Γl Γ1:List Cl}{a b e:Expr}{t ta tb:Tn->R D}{ca cb c:Rc}{pos pos':Pos}{x:Str}{k:Nat}{r:List Stmt}{t2:Tn->R Fl}
def ad (ha:ME X E Γ a ta ca)(hb:ME X E Γ b tb cb):ME X E Γ (.BinOp a .Add b pos) (zd zB ta tb) .fresh:=Wd z01 z40 z4N ha hb
def fd (ha:ME X E Γ a ta ca)(hb:ME X E Γ b tb cb):ME X E Γ (.BinOp a .FloorDiv b pos) (zd zN ta tb) .fresh:=Wd KP z3A yM ha hb
def md (ha:ME X E Γ a ta ca)(hb:ME X E Γ b tb cb):ME X E Γ (.BinOp a .Mod b pos) (zd zY ta tb) .fresh:=Wd z2B z5O yM ha hb
def ml (ha:ME X E Γ a ta ca)(hb:ME X E Γ b tb cb):ME X E Γ (.BinOp a .Mult b pos) (zd yH ta tb) .fresh:=Wd KS z5a z3Z ha hb
def sb (ha:ME X E Γ a ta ca)(hb:ME X E Γ b tb cb):ME X E Γ (.BinOp a .Sub b pos) (zd wN ta tb) .fresh:=Wd z38 z5N yM ha hb
def a1 (h:ME X E Γ e t ca)(hs:autoParam (jNc [e] X.env=(false,eval e X.env)::jNc [] X.env) au3._auto_1):MA X E Γ [e] (z9 t zf) (Rc.both ca .fresh):=zb h zZ hs
def rt (h:ME X E Γ e t .fresh):MSs X E Γl Γ [.Return (some e) pos] (zx t) Γ':=zi (y6 (zk h))
def ix (hr:Room k X.A)(ha:ME X E Γ a ta ca)(hb:ME X E Γ b tb cb)(hs:autoParam (jM b) au5._auto_1):ME X E Γ (.Subscript a b pos) (zd ixD ta tb) ca:=z4H hr.u1 ha hb hs
def te (hr:Room k X.A)(ha:ME X E Γ a ta ca)(hb:ME X E Γ b tb cb)(hm:autoParam (behindInMarks .Eq b=false) au16._auto_1):MT X E Γ (.Compare a [.Eq] [b] pos) (zm (zd (eqR false) ta tb)):=zW (v8 hr.u12) Zi kJ ha hb hm
def sa (i:Nat)(nd:X.N.Nodup)(h:ME X E Γ e t .fresh)(k:MSs X E Γl (Γ.set i .own) r t2 Γ')(hi:autoParam (X.N[i]?=some x) au3._auto_1)(hl:autoParam (i<Γ.length) au1._auto_1)(hx:autoParam (Loc X.env.scope x) au8._auto_1)(hs:autoParam (jMj e (some (.Name x pos')) pos.line X.env=pure false) au3._auto_1)(hf:autoParam (X.fn x=true\/X.env.scope.names.lookup x=some .local) au0._auto_1):MSs X E Γl Γ (.Assign [.Name x pos'] e pos::r) (zh (zl i t) t2) Γ':=ze (L2.st i nd (zk h) hi hl hx hs hf) k
end
end L2
namespace HW
open PySem PySem.W
open PySem.Spec PyProof.Rows L2 in
def dfn {K:Frag}{mg:Str->Option Value}{h:Heap}{n:Str}{st:Stmt}{ps:List Str}{a c:Addr}{m:Str}{t:Nat}(X:K.In h)(G:h.Ns jMb mg)
  (hl:∀ {kV dc pm:Value} {an:Option Addr} {cd ct:Value} (us:List Value),us.length=ps.length->bindArgs (fnOf n n (defArgs st) (defBody st) (defScope st) .none kV dc pm an cd ct) { pos:=us }=pure (ps.zip us))
  (e:(nsIn K jMb n,K.lookup a,codeIn K (.ref c) n,keepIn K (.ref a))=(some (some (.ref a)),some ⟨.type "function",none,.func (fnOf n n (defArgs st) (defBody st) (defScope st) .none .none .none (.str m t) none (.ref c) .none),#[]⟩,true,true)):DefIn K mg n st ps:=by
 simp only[Prod.mk.injEq]at e;exact Qo X G (fun _ _ _ _ _ _=>hl) e.1 e.2.1 e.2.2.1 e.2.2.2
end HW
namespace K20
open PySem PySem.Spec PyProof.Rows L2
section
variable {P:jNe}{w:World}{K:jJa}{mg:Str->Option Value}{base:Heap}
structure Gl0 (K:jJa)(mg:Str->Option Value):Prop where
 SIGNS:∃t,mg "SIGNS"=some (.str "abcdefghijklmnopqrstuvwxyzABCDEFGHIJKLMNOPQRSTUVWXYZ0123456789.,;:!?'\"()-/" t)
 SMALL:∃t,mg "SMALL"=some (.str "abcdefghijklmnopqrstuvwxyz" t)
 MOST_SIGNS:∃t,mg "MOST_SIGNS"=some (.int 40 t)
structure Cls (K:jJa)(mg:Str->Option Value):Prop where
 e_TooWide:∃C,ErrC K "TooWide" C
 x_TooWide:∃CS,mg "TooWide"=some (.ref CS)/\∀C,ErrC K "TooWide" C->jJd K (.ref C) (.ref CS)=some true
structure En (K:jJa)(mg:Str->Option Value):Prop where
 b:Bl mg
 g:Gl0 K mg
 c:Cls K mg
def uA:Tn->R Fl:=(zx (zd (eqR false) (zd ixD (zd ixD (za 0) (zd wN (za 1) (eC (.int 1)))) (eC (.int 2))) (eC (.str "part"))))
def zK:List D->R D:=zF 2 uA
def Z3 (Df:DefIn K mg "ends_parted" (top 5) ["pieces","end"])(V:En K mg) :Own P w K mg base "ends_parted" 1 ["pieces","end"] (spM K zK 2):=
 miD ["pieces","end"] Df fun S _ _ _ _ _ _ _ hr=>(rt (wb (v8 hr.u12) Zi kJ (ix hr (ix hr (vs 0) (sb (vs 1) zc)) zc) zj (zI _)))
def uE:Tn->R Fl:=(zx (eIf (zm (eL zK (z9 (za 0) (z9 (za 2) zf)))) (y4 (zd ixD (za 1) (eC (.str "dash")))) (eC (.int 0))))
def yB:List D->R D:=zF 3 uE
def jV (Df:DefIn K mg "dash_behind" (top 6) ["pieces","lay","end"])(V:En K mg)(o6:Own P w K mg base "ends_parted" 1 ["pieces","end"] (spM K zK 2)):Own P w K mg base "dash_behind" 2 ["pieces","lay","end"] (spM K yB 3):=
 miD ["pieces","lay","end"] Df fun S _ _ _ _ _ _ _ hr=>(rt (uR (yx (cl o6 hr (zb (vs 0) (a1 (vs 2))))) (zy (ix hr (vs 1) zj)) zc))
def uf:Tn->R Fl:=(zx (eIf (zm (zd (eqR false) (zd ixD (zd ixD (za 0) (zd wN (za 2) (eC (.int 1)))) (eC (.int 2))) (eC (.str "blank")))) (y4 (zd ixD (za 1) (eC (.str "blank")))) (eC (.int 0))))
def yw:List D->R D:=zF 3 uf
def jF (Df:DefIn K mg "blank_behind" (top 7) ["pieces","lay","end"])(V:En K mg) :Own P w K mg base "blank_behind" 1 ["pieces","lay","end"] (spM K yw 3):=
 miD ["pieces","lay","end"] Df fun S _ _ _ _ _ _ _ hr=>(rt (uR (te hr (ix hr (ix hr (vs 0) (sb (vs 2) zc)) zc) zj) (zy (ix hr (vs 1) zj)) zc))
def Yd:Tn->R Fl:=(zh (zl 4 (eL qS (z9 (zR [none] (yt (eSl (za 0) (yY (za 2)) (yY (za 3)))) (.one 0) (fun _=>.ok true) (zd ixD (za 0) (eC (.int 1)))) zf))) (zh (zl 5 (eL qS (z9 (zR [none,some 0,some 1] (iL Zz (z9 (zd zB (za 2) (eC (.int 1))) (z9 (za 3) zf))) (.one 0) (fun _=>.ok true) (eL yw (z9 (za 1) (z9 (za 2) (z9 (za 0) zf))))) zf))) (zx (zd zB (zd zB (za 4) (za 5)) (eL yB (z9 (za 0) (z9 (za 1) (z9 (za 3) zf))))))))
def ve:List D->R D:=zF 6 Yd
def WS (Df:DefIn K mg "natural" (top 8) ["pieces","lay","begin","end"])(V:En K mg)(on:Own P w K mg base "dash_behind" 2 ["pieces","lay","end"] (spM K yB 3))(om:Own P w K mg base "blank_behind" 1 ["pieces","lay","end"] (spM K yw 3)):Own P w K mg base "natural" 3 ["pieces","lay","begin","end"] (spM K ve 4):=
 miD ["pieces","lay","begin","end","width","blanks"] Df fun S _ _ _ _ _ _ _ hr=>(sa 4 S.nd (zU (wu rfl) ZV Yt (by exact rfl) V.b.sum PyProof.Rows.boot_sum (a1 (cm1 ["piece"] S.nofree (zE (vp (vs 0) (yb (vs 2)) (yb (vs 3)))) (fun _ _ _ _=>(ix hr (vs 0) zc))))) (sa 5 S.nd (zU (wu rfl) ZV Yt (by exact rfl) V.b.sum PyProof.Rows.boot_sum (a1 (cm1 ["place","pieces","lay"] S.nofree (wx rfl V.b.range (zb (ad (vs 2) zc) (a1 (vs 3)))) (fun _ _ _ _=>(cl om hr (zb (vs 1) (zb (vs 2) (a1 (vs 0))))))))) (rt (ad (ad (vo 4) (vo 5)) (cl on hr (zb (vs 0) (zb (vs 1) (a1 (vs 3)))))))))
def ZE:Tn->R Fl:=(zh (zl 5 (zd wN (zd ixD (za 1) (eC (.str "width"))) (za 4))) (zh (sIf (Xs (zm (zd ltD (za 5) (eC (.int 0)))) (zm (zd gtD (zd wN (za 3) (za 2)) (eC (.int 1))))) (zx (eC .non)) zH) (zh (zl 6 (eIf (zm (eL zK (z9 (za 0) (z9 (za 3) zf)))) (y4 (zd ixD (za 1) (eC (.str "part")))) (eC (.int 0)))) (zh (sIf (zm (zd ltD (za 5) (eC (.int 0)))) (zx (zd wN (za 6) (zd yH (za 5) (zd ixD (za 1) (eC (.str "over")))))) zH) (zh (sIf (zm (zd (eqR false) (za 3) (eL yC (z9 (za 0) zf)))) (zx (za 6)) zH) (zx (zd zB (za 6) (zd yH (za 5) (za 5)))))))))
def wX:List D->R D:=zF 7 ZE
def Ve (Df:DefIn K mg "cost_at" (top 9) ["pieces","lay","begin","end","width"])(V:En K mg)(o6:Own P w K mg base "ends_parted" 1 ["pieces","end"] (spM K zK 2)):Own P w K mg base "cost_at" 2 ["pieces","lay","begin","end","width"] (spM K wX 5):=
 miD ["pieces","lay","begin","end","width","spare","part"] Df fun S _ _ _ _ _ _ _ hr=>(sa 5 S.nd (sb (ix hr (vs 1) zj) (vs 4)) (ze (zJ (MW.mt (qU (zW wW qQ yM (vo 5) zc (zI _)) (ug (zW Wi Qg yM (sb (vs 3) (vs 2)) zc (zI _))))) (rt wJ) zo) (sa 6 S.nd (uR (yx (cl o6 hr (zb (vs 0) (a1 (vs 3))))) (zy (ix hr (vs 1) zj)) zc) (ze (zJ (zW wW qQ yM (vo 5) zc (zI _)) (rt (sb (vo 6) (ml (vo 5) (ix hr (vs 1) zj)))) zo) (ze (zJ (te hr (vs 3) (ln V.b (a1 (vs 0)))) (zi (y6 (mvn 6))) zo) (rt (ad (vo 6) (ml (vo 5) (vo 5)))))))))
def qK:Tn->R Fl:=(zh (zl 3 (eL (fun ds=>.ok (.lst ds)) zf)) (zh (zl 4 (eC (.int 0))) (zh (xg (iL Zz (z9 (zd zB (za 2) (eC (.int 1))) (z9 (zd zB (eL yC (z9 (za 0) zf)) (eC (.int 1))) zf))) (.one 5) (zh (qP 4 wM (zd ixD (zd ixD (za 0) (zd wN (za 5) (eC (.int 1)))) (eC (.int 1)))) (zh (sIf (Xs (zm (zd gtD (za 4) (zd ixD (za 1) (eC (.str "width"))))) (zm (zd gtD (za 5) (zd zB (za 2) (eC (.int 1)))))) (fun τ=>.ok (.bk τ)) zH) (zh (zl 6 (eL wX (z9 (za 0) (z9 (za 1) (z9 (za 2) (z9 (za 5) (z9 (zd zB (za 4) (eL yB (z9 (za 0) (z9 (za 1) (z9 (za 5) zf))))) zf))))))) (zh (sIf (zm (zd (isN true) (za 6) (eC .non))) (xy 3 (y4 (eL (fun ds=>.ok (.tup ds)) (z9 (za 5) (z9 (za 6) zf))))) zH) (qP 4 wM (eL yw (z9 (za 0) (z9 (za 1) (z9 (za 5) zf)))))))))) (zx (za 3)))))
def yQ:List D->R D:=zF 7 qK
def Zm (Df:DefIn K mg "lines_from" (top 10) ["pieces","lay","begin"])(V:En K mg)(o3i:Own P w K mg base "cost_at" 2 ["pieces","lay","begin","end","width"] (spM K wX 5))(om:Own P w K mg base "blank_behind" 1 ["pieces","lay","end"] (spM K yw 3))(on:Own P w K mg base "dash_behind" 2 ["pieces","lay","end"] (spM K yB 3)):Own P w K mg base "lines_from" 3 ["pieces","lay","begin"] (spM K yQ 3):=
 miD ["pieces","lay","begin","found","bare","end","price"] Df fun S _ _ _ _ _ _ _ hr=>(sa 3 S.nd (zz zZ) (sa 4 S.nd zc (ze (y2 (Γ2:=[.shr,.shr,.shr,.own,.own,.shr,.own]) PassesOwn.leaving rfl (wx rfl V.b.range (zb (ad (vs 2) zc) (a1 (ad (ln V.b (a1 (vs 0))) zc)))) (by decide) (zT (pgn 5 S.nd)) (by decide) (ze (aug 4 .own S.nd we wo xx (ix hr (ix hr (vs 0) (sb (vs 5) zc)) zc)) (ze (zJ (MW.mt (qU (zW Wi Qg yM (vo 4) (ix hr (vs 1) zj) (zI _)) (ug (zW Wi Qg yM (vs 5) (ad (vs 2) zc) (zI _))))) (zi (QS rfl)) zo) (sa 6 S.nd (cl o3i hr (zb (vs 0) (zb (vs 1) (zb (vs 2) (zb (vs 5) (a1 (ad (vo 4) (cl on hr (zb (vs 0) (zb (vs 1) (a1 (vs 5)))))))))))) (ze (zJ (zW Xq Vk jh (vo 6) wJ (zI _)) (zi (app 3 (zk (zy (zO (zb (vs 5) (a1 (vo 6)))))))) zo) (zi (aug 4 .own S.nd we wo xx (cl om hr (zb (vs 0) (zb (vs 1) (a1 (vs 5))))))))))) rfl) (zi (y6 (mvn 3))))))
def ji:Tn->R Fl:=(zh (zl 4 (eL (fun ds=>.ok (.lst ds)) zf)) (zh (xg (yt (eL yQ (z9 (za 0) (z9 (za 1) (z9 (za 3) zf))))) (.many [5,6]) (sIf (zm (eL zK (z9 (za 0) (z9 (za 5) zf)))) (zh (zl 7 (zd zB (za 6) (zd ixD (zd ixD (za 2) (za 5)) (eC (.int 1))))) (xy 4 (y4 (eL (fun ds=>.ok (.tup ds)) (z9 (za 5) (z9 (za 7) (z9 (zd zB (za 7) (zd ixD (za 1) (eC (.str "twin")))) zf))))))) (zh (zl 7 (zd zB (za 6) (zd ixD (zd ixD (za 2) (za 5)) (eC (.int 0))))) (xy 4 (y4 (eL (fun ds=>.ok (.tup ds)) (z9 (za 5) (z9 (za 7) (z9 (za 7) zf))))))))) (zx (za 4))))
def yO:List D->R D:=zF 8 ji
def Xp (Df:DefIn K mg "ways_from" (top 12) ["pieces","lay","found","place"])(V:En K mg)(o1h:Own P w K mg base "lines_from" 3 ["pieces","lay","begin"] (spM K yQ 3))(o6:Own P w K mg base "ends_parted" 1 ["pieces","end"] (spM K zK 2)):Own P w K mg base "ways_from" 4 ["pieces","lay","found","place"] (spM K yO 4):=
 miD ["pieces","lay","found","place","ways","end","price","plain"] Df fun S _ _ _ _ _ _ _ hr=>(sa 4 S.nd (zz zZ) (ze (y2 (Γ2:=[.shr,.shr,.shr,.shr,.own,.shr,.shr,.own]) PassesOwn.leaving rfl (zE (cl o1h hr (zb (vs 0) (zb (vs 1) (a1 (vs 3)))))) (by decide) (yi rfl (zu (pgn 5 S.nd) (zu (pgn 6 S.nd) ym))) (by decide) (zi (zJ (yx (cl o6 hr (zb (vs 0) (a1 (vs 5))))) (sa 7 S.nd (ad (vs 6) (ix hr (ix hr (vs 2) (vs 5)) zc)) (zi (app 4 (zk (zy (zO (zb (vs 5) (zb (vo 7) (a1 (ad (vo 7) (ix hr (vs 1) zj))))))))))) (sa 7 S.nd (ad (vs 6) (ix hr (ix hr (vs 2) (vs 5)) zc)) (zi (app 4 (zk (zy (zO (zb (vs 5) (zb (vo 7) (a1 (vo 7)))))))))))) rfl) (zi (y6 (mvn 4)))))
def XB:Tn->R Fl:=(zh (zl 2 (zd yH (eL (fun ds=>.ok (.lst ds)) (z9 (eL (fun ds=>.ok (.tup ds)) (z9 (eC (.int 0)) (z9 (eC (.int 0)) zf))) zf)) (zd zB (eL yC (z9 (za 0) zf)) (eC (.int 1))))) (zh (xg (iL z0m (z9 (zd wN (eL yC (z9 (za 0) zf)) (eC (.int 1))) (z9 (eUn V7 (eC (.int 1))) (z9 (eUn V7 (eC (.int 1))) zf)))) (.one 3) (zh (zl 4 (eL yO (z9 (za 0) (z9 (za 1) (z9 (za 2) (z9 (za 3) zf)))))) (WH 2 (eL (fun ds=>.ok (.tup ds)) (z9 (eL ZP (z9 (zR [none] (yt (za 4)) (.one 0) (fun _=>.ok true) (y4 (zd ixD (za 0) (eC (.int 1))))) zf)) (z9 (eL ZP (z9 (zR [none] (yt (za 4)) (.one 0) (fun _=>.ok true) (y4 (zd ixD (za 0) (eC (.int 2))))) zf)) zf))) (za 3)))) (zx (za 2))))
def ub:List D->R D:=zF 5 XB
def Uw (Df:DefIn K mg "prices" (top 13) ["pieces","lay"])(V:En K mg)(ox:Own P w K mg base "ways_from" 4 ["pieces","lay","found","place"] (spM K yO 4)):Own P w K mg base "prices" 5 ["pieces","lay"] (spM K ub 2):=
 miD ["pieces","lay","found","place","ways"] Df fun S _ _ _ _ _ _ _ hr=>(sa 2 S.nd (ml (zz (a1 (zO (zb zc (a1 zc))))) (ad (ln V.b (a1 (vs 0))) zc)) (ze (y2 (Γ2:=[.shr,.shr,.own,.shr,.own]) PassesOwn.leaving rfl (Ui rfl V.b.range (zb (sb (ln V.b (a1 (vs 0))) zc) (zb (kr zc) (a1 (kr zc))))) (by decide) (zT (pgn 3 S.nd)) (by decide) (sa 4 S.nd (cl ox hr (zb (vs 0) (zb (vs 1) (zb (vo 2) (a1 (vs 3)))))) (zi (put 2 (zk (zO (zb (zU (Yi (by exact rfl)) Je K5 (by exact rfl) V.b.min PyProof.Rows.boot_min (a1 (cm1 ["way"] S.nofree (zE (vo 4)) (fun _ _ _ _=>(zy (ix hr (mn 0 .brw) zc)))))) (a1 (zU (Yi (by exact rfl)) Je K5 (by exact rfl) V.b.min PyProof.Rows.boot_min (a1 (cm1 ["way"] S.nofree (zE (vo 4)) (fun _ _ _ _=>(zy (ix hr (mn 0 .brw) zc)))))))))) (vs 3)))) rfl) (zi (y6 (mvn 2)))))
def XJ:Tn->R Fl:=(zh (zl 2 (eL ub (z9 (za 0) (z9 (za 1) zf)))) (zh (zl 3 (eL (fun ds=>.ok (.lst ds)) zf)) (zh (zl 4 (eC (.int 0))) (zh (zl 5 (eC (.int 0))) (zh (xA (zm (zd ltD (za 4) (eL yC (z9 (za 0) zf)))) (zh (zl 6 (eL yO (z9 (za 0) (z9 (za 1) (z9 (za 2) (z9 (za 4) zf)))))) (zh (zl 4 (eL ke (z9 (zR [none,some 5,some 2,some 4] (yt (za 6)) (.one 0) (zm (zd (eqR false) (zd ixD (za 0) (zd zB (eC (.int 1)) (za 1))) (zd ixD (zd ixD (za 2) (za 3)) (za 1)))) (y4 (zd ixD (za 0) (eC (.int 0))))) zf))) (zh (zl 5 (eIf (zm (eL zK (z9 (za 0) (z9 (za 4) zf)))) (eC (.int 1)) (eC (.int 0)))) (xy 3 (y4 (za 4))))))) (zx (za 3)))))))
def x8:List D->R D:=zF 7 XJ
def UW (Df:DefIn K mg "broken" (top 14) ["pieces","lay"])(V:En K mg)(o4j:Own P w K mg base "prices" 5 ["pieces","lay"] (spM K ub 2))(ox:Own P w K mg base "ways_from" 4 ["pieces","lay","found","place"] (spM K yO 4))(o6:Own P w K mg base "ends_parted" 1 ["pieces","end"] (spM K zK 2)):Own P w K mg base "broken" 6 ["pieces","lay"] (spM K x8 2):=
 miD ["pieces","lay","found","breaks","place","told","ways"] Df fun S _ _ _ _ _ _ _ hr=>(sa 2 S.nd (cl o4j hr (zb (vs 0) (a1 (vs 1)))) (sa 3 S.nd (zz zZ) (sa 4 S.nd zc (sa 5 S.nd zc (ze (qt (Γ2:=[.shr,.shr,.own,.own,.own,.own,.own]) PassesOwn.leaving (zW wW qQ yM (vo 4) (ln V.b (a1 (vs 0))) (zI _)) (sa 6 S.nd (cl ox hr (zb (vs 0) (zb (vs 1) (zb (vo 2) (a1 (vo 4)))))) (sa 4 S.nd (zU (qZ (by exact rfl)) WC Vb (by exact rfl) V.b.max PyProof.Rows.boot_max (a1 (wg (N':=["way","told","found","place"]) (fr:=[none,some 5,some 2,some 4]) rfl (xk S.nofree (by decide +kernel)) (zE (vo 6)) (fun _ _ _ _=>(zT (pgn 0 (show List.Nodup (["way","told","found","place"]:List Str) from by decide +kernel)))) (fun _ _ _ _=>(qF (te hr (ix hr (mn 0 .brw) (ad zc (mn 1 .brw))) (ix hr (ix hr (mn 2 .brw) (mn 3 .brw)) (mn 1 .brw))))) (fun _ _ _ _=>(zy (ix hr (mn 0 .brw) zc))) (by decide) (by decide)))) (sa 5 S.nd (uR (yx (cl o6 hr (zb (vs 0) (a1 (vo 4))))) zc zc) (zi (app 3 (zk (zy (vo 4)))))))) rfl) (zi (y6 (mvn 3))))))))
def ZI:Tn->R Fl:=(zx (Wj (eUn (qw "str") (za 0)) (Wj (zd (eqR false) (eL yC (z9 (za 0) zf)) (eC (.int 1))) (zd YL (za 0) (eC (.str "abcdefghijklmnopqrstuvwxyzABCDEFGHIJKLMNOPQRSTUVWXYZ0123456789.,;:!?'\"()-/"))))))
def vg:List D->R D:=zF 1 ZI
def Vp (Df:DefIn K mg "is_sign" (top 17) ["thing"])(V:En K mg) :Own P w K mg base "is_sign" 1 ["thing"] (spM K vg 1):=
 miD ["thing"] Df fun S _ _ _ _ _ _ _ hr=>(rt (qV (u0 (T:="str") (by decide) rfl V.b.isinstance (wU (v:=.ty "str") rfl V.b.str Boot.«str» rfl) (vs 0)) (qV (wb (v8 hr.u12) Zi kJ (ln V.b (a1 (vs 0))) zc (zI _)) (Ze (wb Xc VN VI (vs 0) (Wz V.g.SIGNS) (by exact rfl))))))
def Kq:Tn->R Fl:=(zh (zl 2 (eL u6 (z9 (zd ixD (za 0) (eC (.int 2))) zf))) (zh (wd 2 (y4 (zd ixD (za 0) (eC (.int 1)))) (eC (.str " "))) (zx (eL qS (z9 (zR [none,some 2,some 0] (yt (za 1)) (.one 0) (fun _=>.ok true) (KG (za 1) (za 0) (zd ixD (za 2) (eC (.int 0))))) zf)))))
def vI:List D->R D:=zF 3 Kq
def z1g (Df:DefIn K mg "wide" (top 18) ["face","line"])(V:En K mg) :Own P w K mg base "wide" 1 ["face","line"] (spM K vI 2):=
 miD ["face","line","widths"] Df fun S _ _ _ _ _ _ _ hr=>(sa 2 S.nd (yr (Z7 (by exact rfl)) VQ VL (by exact rfl) V.b.dict Boot.«dict» (a1 (ix hr (vs 0) zc))) (ze (jR 2 hr.u1 (zk (zy (ix hr (vs 0) zc))) zj) (rt (zU (wu rfl) ZV Yt (by exact rfl) V.b.sum PyProof.Rows.boot_sum (a1 (cm1 ["sign","widths","face"] S.nofree (zE (vs 1)) (fun _ _ _ _=>(z2E hr.u1 (mn 1 .brw) (vs 0) (ix hr (vs 2) zc)))))))))
def uD:Tn->R Fl:=(zx (zR [none,some 0] (yt (za 1)) (.one 0) (fun _=>.ok true) (eL vI (z9 (za 1) (z9 (za 0) zf)))))
def yD:List D->R D:=zF 2 uD
def Zd (Df:DefIn K mg "word_widths" (top 20) ["face","words"])(V:En K mg)(o0h:Own P w K mg base "wide" 1 ["face","line"] (spM K vI 2)):Own P w K mg base "word_widths" 2 ["face","words"] (spM K yD 2):=
 miD ["face","words"] Df fun S _ _ _ _ _ _ _ hr=>(rt (cm1 ["word","face"] S.nofree (zE (vs 1)) (fun _ _ _ _=>(cl o0h hr (zb (vs 1) (a1 (vs 0)))))))
def QJ:Tn->R Fl:=(zh (zl 3 (eL (fun ds=>.ok (.lst ds)) zf)) (zh (zl 4 (eC (.int 0))) (zh (zl 5 (eC (.int 0))) (zh (xg (iL ZX (z9 (za 0) zf)) (.many [6,7]) (zh (sIf (Xs (zm (zd gtD (za 6) (za 4))) (zm (zd gtD (zd zB (zd zB (za 5) (za 1)) (za 7)) (za 2)))) (zh (xy 3 (y4 (eL (fun ds=>.ok (.tup ds)) (z9 (za 4) (z9 (za 6) zf))))) (zl 4 (za 6))) zH) (zl 5 (eIf (zm (zd (eqR false) (za 6) (za 4))) (y4 (za 7)) (zd zB (zd zB (za 5) (za 1)) (za 7)))))) (zh (sIf (zm (zd ltD (za 4) (eL yC (z9 (za 0) zf)))) (xy 3 (y4 (eL (fun ds=>.ok (.tup ds)) (z9 (za 4) (z9 (eL yC (z9 (za 0) zf)) zf))))) zH) (zx (za 3)))))))
def uT:List D->R D:=zF 8 QJ
def z0K (Df:DefIn K mg "fill" (top 21) ["widths","blank","width"])(V:En K mg) :Own P w K mg base "fill" 1 ["widths","blank","width"] (spM K uT 3):=
 miD ["widths","blank","width","lines","begin","full","place","word_width"] Df fun S _ _ _ _ _ _ _ hr=>(sa 3 S.nd (zz zZ) (sa 4 S.nd zc (sa 5 S.nd zc (ze (vz (Γ1:=[.shr,.shr,.shr,.own,.shr,.own,.dead,.dead]) (y2 (Γ2:=[.shr,.shr,.shr,.own,.shr,.own,.shr,.shr]) PassesOwn.leaving rfl (YA rfl V.b.enumerate (a1 (vs 0))) (by decide) (yi rfl (zu (pgn 6 S.nd) (zu (pgn 7 S.nd) ym))) (by decide) (ze (zJ (MW.mt (qU (zW Wi Qg yM (vs 6) (vs 4) (zI _)) (ug (zW Wi Qg yM (ad (ad (vo 5) (vs 1)) (vs 7)) (vs 2) (zI _))))) (ze (app 3 (zk (zy (zO (zb (vs 4) (a1 (vs 6))))))) (zi (stS 4 S.nd (vs 6)))) zo) (zi (L2.st 5 S.nd (zk (uR (te hr (vs 6) (vs 4)) (zy (vs 7)) (ad (ad (vo 5) (vs 1)) (vs 7))))))) rfl) rfl) (ze (zJ (zW wW qQ yM (vs 4) (ln V.b (a1 (vs 0))) (zI _)) (zi (app 3 (zk (zy (zO (zb (vs 4) (a1 (ln V.b (a1 (vs 0)))))))))) zo) (zi (y6 (mvn 3))))))))
def uH:Tn->R Fl:=(zx (eL uT (z9 (eL yD (z9 (za 0) (z9 (za 1) zf))) (z9 (zd ixD (za 0) (eC (.int 1))) (z9 (za 2) zf)))))
def xp:List D->R D:=zF 3 uH
def jU (Df:DefIn K mg "filled_rows" (top 22) ["face","words","width"])(V:En K mg)(o3a:Own P w K mg base "fill" 1 ["widths","blank","width"] (spM K uT 3))(oo:Own P w K mg base "word_widths" 2 ["face","words"] (spM K yD 2)):Own P w K mg base "filled_rows" 3 ["face","words","width"] (spM K xp 3):=
 miD ["face","words","width"] Df fun S _ _ _ _ _ _ _ hr=>(rt (cl o3a hr (zb (cl oo hr (zb (vs 0) (a1 (vs 1)))) (zb (ix hr (vs 0) zc) (a1 (vs 2))))))
def U5:Tn->R Fl:=(zx (eL Zn (z9 (zR [none,some 3,some 1,some 2] (yt (za 0)) (.one 0) (fun _=>.ok true) (zd leD (eL yC (z9 (eL uT (z9 (za 0) (z9 (za 2) (z9 (za 3) zf)))) zf)) (za 1))) zf)))
def qH:List D->R D:=zF 4 U5
def Jf (Df:DefIn K mg "go_in" (top 23) ["cells","blank","width","rows"])(V:En K mg)(o3a:Own P w K mg base "fill" 1 ["widths","blank","width"] (spM K uT 3)):Own P w K mg base "go_in" 2 ["cells","blank","width","rows"] (spM K qH 4):=
 miD ["cells","blank","width","rows"] Df fun S _ _ _ _ _ _ _ hr=>(rt (zU (qN (by exact rfl)) QW K2 (by exact rfl) V.b.all Boot.«all» (a1 (cm1 ["widths","rows","blank","width"] S.nofree (zE (vs 0)) (fun _ _ _ _=>(wb VS z12 yM (ln V.b (a1 (cl o3a hr (zb (vs 0) (zb (vs 2) (a1 (vs 3))))))) (vs 1) (zI _)))))))
def uI:Tn->R Fl:=(zh (zl 3 (zR [none,some 0] (yt (za 1)) (.one 0) (fun _=>.ok true) (eL yD (z9 (za 1) (z9 (za 0) zf))))) (zh (zl 4 (zd Yl (zR [none] (yt (za 3)) (.one 0) (fun _=>.ok true) (zd Yl (za 0) (eC (.int 1)))) (eC (.int 1)))) (zh (zl 5 (zd Yl (zR [none,some 0] (yt (za 3)) (.one 0) (fun _=>.ok true) (zd zB (eL qS (z9 (za 0) zf)) (zd yH (zd ixD (za 1) (eC (.int 1))) (eL yC (z9 (za 0) zf))))) (eC (.int 1)))) (zh (xA (zm (zd ltD (za 4) (za 5))) (zh (zl 6 (zd zN (zd zB (za 4) (za 5)) (eC (.int 2)))) (sIf (zm (eL qH (z9 (za 3) (z9 (zd ixD (za 0) (eC (.int 1))) (z9 (za 6) (z9 (za 2) zf)))))) (zl 5 (y4 (za 6))) (zl 4 (zd zB (za 6) (eC (.int 1))))))) (zx (za 4))))))
def xl:List D->R D:=zF 7 uI
def Za (Df:DefIn K mg "least_width" (top 24) ["face","cells","rows"])(V:En K mg)(oo:Own P w K mg base "word_widths" 2 ["face","words"] (spM K yD 2))(o5i:Own P w K mg base "go_in" 2 ["cells","blank","width","rows"] (spM K qH 4)):Own P w K mg base "least_width" 3 ["face","cells","rows"] (spM K xl 3):=
 miD ["face","cells","rows","widths","least","most","middle"] Df fun S _ _ _ _ _ _ _ hr=>(ze (stC 3 (N':=["words","face"]) (fr:=[none,some 0]) S.nd rfl (xk S.nofree (by decide +kernel)) (zE (vs 1)) (fun _ _ _ _=>(zT (pgn 0 (show List.Nodup (["words","face"]:List Str) from by decide +kernel)))) (fun _ _ _ _=>xh) (fun _ _ _ _=>(cl oo hr (zb (vs 1) (a1 (vs 0))))) (by decide)) (sa 4 S.nd (YB (by exact rfl) (by exact rfl) V.b.max (cm1 ["part"] S.nofree (zE (vo 3)) (fun _ _ _ _=>(YB (by exact rfl) (by exact rfl) V.b.max (mn 0 .brw) zc))) zc) (sa 5 S.nd (YB (by exact rfl) (by exact rfl) V.b.max (cm1 ["part","face"] S.nofree (zE (vo 3)) (fun _ _ _ _=>(ad (zU (wu rfl) ZV Yt (by exact rfl) V.b.sum PyProof.Rows.boot_sum (a1 (mn 0 .brw))) (ml (ix hr (vs 1) zc) (ln V.b (a1 (mn 0 .brw))))))) zc) (ze (qt (Γ2:=[.shr,.shr,.shr,.own,.own,.own,.own]) PassesOwn.leaving (zW wW qQ yM (vo 4) (vo 5) (zI _)) (sa 6 S.nd (fd (ad (vo 4) (vo 5)) zc) (zi (zJ (yx (cl o5i hr (zb (vo 3) (zb (ix hr (vs 0) zc) (zb (vo 6) (a1 (vs 2))))))) (zi (L2.st 5 S.nd (zk (zy (vo 6))))) (zi (L2.st 4 S.nd (zk (ad (vo 6) zc))))))) rfl) (zi (y6 (mvn 4)))))))
def Y2:Tn->R Fl:=(zx (zd yH (eC (.int 2)) (zd ixD (za 0) (eC (.int 1)))))
def xT:List D->R D:=zF 1 Y2
def Vg (Df:DefIn K mg "between" (top 26) ["face"])(V:En K mg) :Own P w K mg base "between" 1 ["face"] (spM K xT 1):=
 miD ["face"] Df fun S _ _ _ _ _ _ _ hr=>(rt (ml zc (ix hr (vs 0) zc)))
def u7:Tn->R Fl:=(zx (zR [none,some 0] (iL vY (z9 (eL yC (z9 (zd ixD (za 0) (eC (.int 0))) zf)) zf)) (.one 0) (fun _=>.ok true) (zR [none,some 0] (yt (za 1)) (.one 0) (fun _=>.ok true) (y4 (zd ixD (za 0) (za 1))))))
def x3:List D->R D:=zF 1 u7
def jy (Df:DefIn K mg "column_cells" (top 27) ["table"])(V:En K mg) :Own P w K mg base "column_cells" 1 ["table"] (spM K x3 1):=
 miD ["table"] Df fun S _ _ _ _ _ _ _ hr=>(rt (QH "at" (N':=["at","table"]) (fr:=[none,some 0]) rfl (z0p S.nofree (by decide +kernel)) (yq rfl V.b.range (a1 (ln V.b (a1 (ix hr (vs 0) zc))))) (fun _ _ _ _=>(zT (pgn 0 (show List.Nodup (["at","table"]:List Str) from by decide +kernel)))) (fun _ _ _ _=>xh) (fun _ _ _ _=>(wg (N':=["row","at"]) (fr:=[none,some 0]) rfl (QB (by decide +kernel) (by first|decide +kernel|exact rfl)) (zE (vs 1)) (fun _ _ _ _=>(zT (pgn 0 (show List.Nodup (["row","at"]:List Str) from by decide +kernel)))) (fun _ _ _ _=>xh) (fun _ _ _ _=>(zy (ix hr (vs 0) (vs 1)))) (by decide) (by decide))) (by decide) (by decide)))
def qE:Tn->R Fl:=(zx (eL ke (z9 (zR [none] (yt (za 0)) (.one 0) (fun _=>.ok true) (eL ke (z9 (zR [none] (yt (za 0)) (.one 0) (fun _=>.ok true) (eL yC (z9 (za 0) zf))) zf))) zf)))
def xF:List D->R D:=zF 1 qE
def Zp (Df:DefIn K mg "most_lines" (top 28) ["table"])(V:En K mg) :Own P w K mg base "most_lines" 1 ["table"] (spM K xF 1):=
 miD ["table"] Df fun S _ _ _ _ _ _ _ hr=>(rt (zU (qZ (by exact rfl)) WC Vb (by exact rfl) V.b.max PyProof.Rows.boot_max (a1 (cm1 ["row"] S.nofree (zE (vs 0)) (fun _ _ _ _=>(zU (qZ (by exact rfl)) WC Vb (by exact rfl) V.b.max PyProof.Rows.boot_max (a1 (wg (N':=["cell"]) (fr:=[none]) rfl (z0H (by first|decide +kernel|exact rfl) (by first|decide +kernel|exact rfl)) (zE (vs 0)) (fun _ _ _ _=>(zT (pgn 0 (show List.Nodup (["cell"]:List Str) from by decide +kernel)))) (fun _ _ _ _=>xh) (fun _ _ _ _=>(ln V.b (a1 (vs 0)))) (by decide) (by decide)))))))))
def Y9:Tn->R Fl:=(zh (zl 3 (eL x3 (z9 (za 2) zf))) (zh (zl 4 (zd wN (zd ixD (za 1) (eC (.str "width"))) (zd yH (eL xT (z9 (za 0) zf)) (zd wN (eL yC (z9 (za 3) zf)) (eC (.int 1)))))) (zh (xg (iL Zz (z9 (eC (.int 1)) (z9 (zd zB (eL qv (z9 (eC (.int 1)) (z9 (eL xF (z9 (za 2) zf)) zf))) (eC (.int 1))) zf))) (.one 5) (zh (zl 6 (zR [none,some 0,some 5] (yt (za 3)) (.one 0) (fun _=>.ok true) (eL xl (z9 (za 1) (z9 (za 0) (z9 (za 2) zf)))))) (sIf (zm (zd leD (eL qS (z9 (za 6) zf)) (za 4))) (zx (eL (fun ds=>.ok (.tup ds)) (z9 (y4 (za 5)) (z9 (za 6) zf)))) zH))) (KY "TooWide" (z9 (eC (.str "the table is wider than the rules' width for any number of lines")) zf)))))
def xQ:List D->R D:=zF 7 Y9
def WB (Df:DefIn K mg "columns" (top 29) ["face","rules","table"])(V:En K mg)(o1a:Own P w K mg base "column_cells" 1 ["table"] (spM K x3 1))(o0d:Own P w K mg base "between" 1 ["face"] (spM K xT 1))(o1d:Own P w K mg base "least_width" 3 ["face","cells","rows"] (spM K xl 3))(o1i:Own P w K mg base "most_lines" 1 ["table"] (spM K xF 1)):Own P w K mg base "columns" 4 ["face","rules","table"] (spM K xQ 3):=
 miD ["face","rules","table","cells","free","lines","widths"] Df fun S _ _ _ _ _ _ _ hr=>(sa 3 S.nd (cl o1a hr (a1 (vs 2))) (sa 4 S.nd (sb (ix hr (vs 1) zj) (ml (cl o0d hr (a1 (vs 0))) (sb (ln V.b (a1 (vo 3))) zc))) (ze (y2 (Γ2:=[.shr,.shr,.shr,.own,.own,.shr,.own]) PassesOwn.leaving rfl (wx rfl V.b.range (zb zc (a1 (ad (zU (uo (by exact rfl)) YQ Xx (by exact rfl) V.b.max PyProof.Rows.boot_max (zb zc (a1 (cl o1i hr (a1 (vs 2)))))) zc)))) (by decide) (zT (pgn 5 S.nd)) (by decide) (ze (stC 6 (N':=["part","face","lines"]) (fr:=[none,some 0,some 5]) S.nd rfl (xk S.nofree (by decide +kernel)) (zE (vo 3)) (fun _ _ _ _=>(zT (pgn 0 (show List.Nodup (["part","face","lines"]:List Str) from by decide +kernel)))) (fun _ _ _ _=>xh) (fun _ _ _ _=>(cl o1d hr (zb (vs 1) (zb (mn 0 .brw) (a1 (vs 2)))))) (by decide)) (zi (zJ (zW VS z12 yM (zU (wu rfl) ZV Yt (by exact rfl) V.b.sum PyProof.Rows.boot_sum (a1 (vo 6))) (vo 4) (zI _)) (zi (y6 (qX (yu (zk (zy (vs 5))) (yu (mvn 6) uh))))) zo))) rfl) (zi (UD V.c.e_TooWide rfl (a1 zj))))))
def Y7:Tn->R Fl:=(zh (zl 3 (eL (fun ds=>.ok (.lst ds)) zf)) (zh (zl 4 (eC (.int 1))) (zh (zl 5 (eC (.int 0))) (zh (xg (iL KA (z9 (za 1) (z9 (za 2) zf))) (.many [6,7]) (zh (zl 8 (eL xp (z9 (za 0) (z9 (za 6) (z9 (za 7) zf))))) (zh (xg (iL ZX (z9 (za 8) zf)) (.many [9,10]) (xy 3 (y4 (eL (fun ds=>.ok (.tup ds)) (z9 (za 9) (z9 (za 5) (z9 (eSm v9 (eC (.str " ")) (z9 (z0X (za 6) (yY (zd ixD (za 10) (eC (.int 0)))) (yY (zd ixD (za 10) (eC (.int 1))))) zf)) zf))))))) (zh (zl 4 (eL qv (z9 (za 4) (z9 (eL yC (z9 (za 8) zf)) zf)))) (qP 5 wM (zd zB (za 7) (eL xT (z9 (za 0) zf)))))))) (zx (eL (fun ds=>.ok (.tup ds)) (z9 (y4 (za 4)) (z9 (za 3) zf))))))))
def xv:List D->R D:=zF 11 Y7
def Vv (Df:DefIn K mg "set_row" (top 30) ["face","row","widths"])(V:En K mg)(o1e:Own P w K mg base "filled_rows" 3 ["face","words","width"] (spM K xp 3))(o0d:Own P w K mg base "between" 1 ["face"] (spM K xT 1)):Own P w K mg base "set_row" 4 ["face","row","widths"] (spM K xv 3):=
 miD ["face","row","widths","spots","height","left","cell","width","lines","top","line"] Df fun S _ _ _ _ _ _ _ hr=>(sa 3 S.nd (zz zZ) (sa 4 S.nd zc (sa 5 S.nd zc (ze (y2 (Γ2:=[.shr,.shr,.shr,.own,.own,.own,.shr,.shr,.shr,.dead,.dead]) PassesOwn.leaving rfl (JZ rfl V.b.zip (zb (vs 1) (a1 (vs 2)))) (by decide) (yi rfl (zu (pgn 6 S.nd) (zu (pgn 7 S.nd) ym))) (by decide) (sa 8 S.nd (cl o1e hr (zb (vs 0) (zb (vs 6) (a1 (vs 7))))) (ze (vz (Γ1:=[.shr,.shr,.shr,.own,.own,.own,.shr,.shr,.shr,.dead,.dead]) (y2 (Γ2:=[.shr,.shr,.shr,.own,.own,.own,.shr,.shr,.shr,.shr,.shr]) PassesOwn.leaving rfl (YA rfl V.b.enumerate (a1 (vs 8))) (by decide) (yi rfl (zu (pgn 9 S.nd) (zu (pgn 10 S.nd) ym))) (by decide) (zi (app 3 (zk (zy (zO (zb (vs 9) (zb (vo 5) (a1 (Yn jQs jQu jQv qu YC X5 zj (a1 (z3F (vs 6) (yb (ix hr (vs 10) zc)) (yb (ix hr (vs 10) zc))))))))))))) rfl) rfl) (sa 4 S.nd (zU (uo (by exact rfl)) YQ Xx (by exact rfl) V.b.max PyProof.Rows.boot_max (zb (vo 4) (a1 (ln V.b (a1 (vs 8)))))) (zi (aug 5 .own S.nd we wo xx (ad (vs 7) (cl o0d hr (a1 (vs 0))))))))) rfl) (zi (y6 (qX (yu (zk (zy (vo 4))) (yu (mvn 3) uh)))))))))
def Zg:Tn->R Fl:=(zh (zl 1 (eL (fun ds=>.ok (.lst ds)) zf)) (zh (sIf (zm (zd (eqR false) (zd ixD (za 0) (eC (.int 0))) (eC (.str "text")))) (xg (yt (zd ixD (za 0) (eC (.int 1)))) (.many [2,3]) (UQ 1 (za 3))) zH) (zx (za 1))))
def wK:List D->R D:=zF 4 Zg
def Ws (Df:DefIn K mg "notes_of" (top 32) ["block"])(V:En K mg) :Own P w K mg base "notes_of" 1 ["block"] (spM K wK 1):=
 miD ["block","notes","word","own"] Df fun S _ _ _ _ _ _ _ hr=>(sa 1 S.nd (zz zZ) (ze (zJ (te hr (ix hr (vs 0) zc) zj) (zi (y2 (Γ2:=[.shr,.own,.shr,.shr]) PassesOwn.leaving rfl (zE (ix hr (vs 0) zc)) (by decide) (yi rfl (zu (pgn 2 S.nd) (zu (pgn 3 S.nd) ym))) (by decide) (zi (JC 1 (vs 3))) rfl)) zo) (zi (y6 (mvn 1)))))
def ZL:Tn->R Fl:=(zx (eSm v9 (eC (.str "")) (z9 (zR [none] (iL Zz (z9 (za 0) (z9 (zd zB (za 0) (za 1)) zf))) (.one 0) (fun _=>.ok true) (eF3 "(" ")" (za 0))) zf)))
def vf:List D->R D:=zF 2 ZL
def WD (Df:DefIn K mg "tail_of" (top 33) ["first","many"])(V:En K mg) :Own P w K mg base "tail_of" 1 ["first","many"] (spM K vf 2):=
 miD ["first","many"] Df fun S _ _ _ _ _ _ _ hr=>(rt (Yn jQs jQu jQv qu YC X5 zj (a1 (cm1 ["number"] S.nofree (wx rfl V.b.range (zb (vs 0) (a1 (ad (vs 0) (vs 1))))) (fun _ _ _ _=>(z52 (by decide) (vs 0)))))))
def qy:Tn->R Fl:=(zh (zl 2 (eL (fun ds=>.ok (.lst ds)) zf)) (zh (zl 3 (za 1)) (zh (xg (yt (za 0)) (.many [4,5]) (zh (xy 2 (y4 (eL (fun ds=>.ok (.tup ds)) (z9 (za 4) (z9 (eL vf (z9 (za 3) (z9 (eL yC (z9 (za 5) zf)) zf))) zf))))) (qP 3 wM (eL yC (z9 (za 5) zf))))) (zx (za 2)))))
def xM:List D->R D:=zF 6 qy
def Zr (Df:DefIn K mg "text_pairs" (top 34) ["pairs","first"])(V:En K mg)(o3j:Own P w K mg base "tail_of" 1 ["first","many"] (spM K vf 2)):Own P w K mg base "text_pairs" 2 ["pairs","first"] (spM K xM 2):=
 miD ["pairs","first","told","number","word","notes"] Df fun S _ _ _ _ _ _ _ hr=>(sa 2 S.nd (zz zZ) (ze (stS 3 S.nd (vs 1)) (ze (y2 (Γ2:=[.shr,.shr,.own,.own,.shr,.shr]) PassesOwn.leaving rfl (zE (vs 0)) (by decide) (yi rfl (zu (pgn 4 S.nd) (zu (pgn 5 S.nd) ym))) (by decide) (ze (app 2 (zk (zy (zO (zb (vs 4) (a1 (cl o3j hr (zb (vs 3) (a1 (ln V.b (a1 (vs 5)))))))))))) (zi (aug 3 .shr S.nd we wo xx (ln V.b (a1 (vs 5)))))) rfl) (zi (y6 (mvn 2))))))
def Zj:Tn->R Fl:=(zh (sIf (zm (zd (eqR false) (zd ixD (za 0) (eC (.int 0))) (eC (.str "head")))) (zx (zR [none] (yt (zd ixD (za 0) (eC (.int 1)))) (.one 0) (fun _=>.ok true) (y4 (eL (fun ds=>.ok (.tup ds)) (z9 (za 0) (z9 (eC (.str "")) zf)))))) zH) (zh (sIf (zm (zd (eqR false) (zd ixD (za 0) (eC (.int 0))) (eC (.str "text")))) (zx (eL xM (z9 (zd ixD (za 0) (eC (.int 1))) (z9 (za 1) zf)))) zH) (zx (eL (fun ds=>.ok (.lst ds)) zf))))
def wA:List D->R D:=zF 2 Zj
def XH (Df:DefIn K mg "pairs_of" (top 35) ["block","first"])(V:En K mg)(o1j:Own P w K mg base "text_pairs" 2 ["pairs","first"] (spM K xM 2)):Own P w K mg base "pairs_of" 3 ["block","first"] (spM K wA 2):=
 miD ["block","first"] Df fun S _ _ _ _ _ _ _ hr=>(ze (zJ (te hr (ix hr (vs 0) zc) zj) (rt (cm1 ["word"] S.nofree (zE (ix hr (vs 0) zc)) (fun _ _ _ _=>(zy (zO (zb (vs 0) (a1 zj))))))) zo) (ze (zJ (te hr (ix hr (vs 0) zc) zj) (rt (cl o1j hr (zb (ix hr (vs 0) zc) (a1 (vs 1))))) zo) (rt (zz zZ))))
def VY:Tn->R Fl:=(zh (zl 1 (eL (fun ds=>.ok (.lst ds)) zf)) (zh (zl 2 (eL (fun ds=>.ok (.lst ds)) zf)) (zh (xg (yt (za 0)) (.one 3) (zh (xy 2 (eL wA (z9 (za 3) (z9 (zd zB (eL yC (z9 (za 1) zf)) (eC (.int 1))) zf)))) (UQ 1 (eL wK (z9 (za 3) zf))))) (zx (eL (fun ds=>.ok (.tup ds)) (z9 (za 1) (z9 (za 2) zf)))))))
def qj:List D->R D:=zF 4 VY
def J2 (Df:DefIn K mg "noted" (top 36) ["blocks"])(V:En K mg)(o3b:Own P w K mg base "pairs_of" 3 ["block","first"] (spM K wA 2))(o3c:Own P w K mg base "notes_of" 1 ["block"] (spM K wK 1)):Own P w K mg base "noted" 4 ["blocks"] (spM K qj 1):=
 miD ["blocks","notes","pairs","block"] Df fun S _ _ _ _ _ _ _ hr=>(sa 1 S.nd (zz zZ) (sa 2 S.nd (zz zZ) (ze (y2 (Γ2:=[.shr,.own,.own,.shr]) PassesOwn.leaving rfl (zE (vs 0)) (by decide) (zT (pgn 3 S.nd)) (by decide) (ze (app 2 (zk (cl o3b hr (zb (vs 3) (a1 (ad (ln V.b (a1 (vo 1))) zc)))))) (zi (JC 1 (cl o3c hr (a1 (vs 3)))))) rfl) (zi (y6 (qX (yu (mvn 1) (yu (mvn 2) uh))))))))
def qe:Tn->R Fl:=(zx (zd zB (eL (fun ds=>.ok (.lst ds)) (z9 (eL (fun ds=>.ok (.tup ds)) (z9 (eF2 "." (za 0)) (z9 (eC (.str "")) zf))) zf)) (zR [none] (yt (za 1)) (.one 0) (fun _=>.ok true) (eL (fun ds=>.ok (.tup ds)) (z9 (za 0) (z9 (eC (.str "")) zf))))))
def xC:List D->R D:=zF 2 qe
def Zv (Df:DefIn K mg "note_pairs" (top 37) ["number","note"])(V:En K mg) :Own P w K mg base "note_pairs" 1 ["number","note"] (spM K xC 2):=
 miD ["number","note"] Df fun S _ _ _ _ _ _ _ hr=>(rt (ad (zz (a1 (zO (zb (z4n (vs 0)) (a1 zj))))) (cm1 ["word"] S.nofree (zE (vs 1)) (fun _ _ _ _=>(zO (zb (vs 0) (a1 zj)))))))
def Yq:Tn->R Fl:=(zx (eL qv (z9 (eSm jW (za 0) (z9 (eC (.str "-")) zf)) (z9 (eSm jW (za 0) (z9 (eC (.str "=")) zf)) zf))))
def xU:List D->R D:=zF 1 Yq
def Vc (Df:DefIn K mg "mark_at" (top 40) ["joint"])(V:En K mg) :Own P w K mg base "mark_at" 1 ["joint"] (spM K xU 1):=
 miD ["joint"] Df fun S _ _ _ _ _ _ _ hr=>(rt (zU (uo (by exact rfl)) YQ Xx (by exact rfl) V.b.max PyProof.Rows.boot_max (zb (Yn jQs jQ7 jQ8 Wt Qk Jz (vs 0) (a1 zj)) (a1 (Yn jQs jQ7 jQ8 Wt Qk Jz (vs 0) (a1 zj))))))
def qC:Tn->R Fl:=(zx (eUn (Y8 "=" "") (eUn (Y8 "-" "") (za 0))))
def yR:List D->R D:=zF 1 qC
def Zq:FnScope ["joint"] ["joint"] (defScope (top 41)):=by constructor<;>first|rfl|decide +kernel
def Zl (Df:DefIn K mg "letters_of" (top 41) ["joint"])(V:En K mg) :Own P w K mg base "letters_of" 1 ["joint"] (spM K yR 1):=
 Df.mirT (k:=0) (Γ':=[.shr]) Zq (by decide) ⟨_,_,rfl,rfl⟩ fun f cdv A outer s H E hr=>(z1p (qM (qM (ME.p (vs 0)) (by decide) (by decide)) (by decide) (by decide)))
def QT:Tn->R Fl:=(zh (zl 3 (eL yR (z9 (za 0) zf))) (zh (zl 4 (zd wN (za 2) (eL xU (z9 (za 0) zf)))) (zx (Wj (zd geD (za 4) (eC (.int 0))) (zd (eqR false) (Xl UX (eSl (za 1) (yY (za 4)) (yY (zd zB (za 4) (eL yC (z9 (za 3) zf)))))) (za 3))))))
def Z0:List D->R D:=zF 5 QT
def z07 (Df:DefIn K mg "fits" (top 42) ["joint","word","place"])(V:En K mg)(ou:Own P w K mg base "letters_of" 1 ["joint"] (spM K yR 1))(o0e:Own P w K mg base "mark_at" 1 ["joint"] (spM K xU 1)):Own P w K mg base "fits" 2 ["joint","word","place"] (spM K Z0 3):=
 miD ["joint","word","place","letters","begin"] Df fun S _ _ _ _ _ _ _ hr=>(sa 3 S.nd (cl ou hr (a1 (vs 0))) (sa 4 S.nd (sb (vs 2) (cl o0e hr (a1 (vs 0)))) (rt (qV (wb z5l z6x yM (vo 4) zc (zI _)) (Ze (wb (v8 hr.u12) Zi kJ (Zc (vp (vs 1) (yb (vo 4)) (yb (ad (vo 4) (ln V.b (a1 (vo 3))))))) (vo 3) (zI _)))))))
def J4:Tn->R Fl:=(zx (eL (fun ds=>.ok (.tup ds)) (z9 (eL yC (z9 (za 0) zf)) (z9 (eL xU (z9 (za 0) zf)) zf))))
def j0:List D->R D:=zF 1 J4
def Kw (Df:DefIn K mg "rank" (top 43) ["joint"])(V:En K mg)(o0e:Own P w K mg base "mark_at" 1 ["joint"] (spM K xU 1)):Own P w K mg base "rank" 2 ["joint"] (spM K j0 1):=
 miD ["joint"] Df fun S _ _ _ _ _ _ _ hr=>(rt (zO (zb (ln V.b (a1 (vs 0))) (a1 (cl o0e hr (a1 (vs 0)))))))
def Y6:Tn->R Fl:=(zh (zl 3 (eC .non)) (zh (xg (yt (za 0)) (.one 4) (sIf (Xs (zm (eL Z0 (z9 (za 4) (z9 (za 1) (z9 (za 2) zf))))) (bOr (zm (zd (isN false) (za 3) (eC .non))) (zm (zd gtT (eL j0 (z9 (za 4) zf)) (eL j0 (z9 (za 3) zf)))))) (zl 3 (za 4)) zH)) (zx (y4 (za 3)))))
def v7:List D->R D:=zF 5 Y6
def WV (Df:DefIn K mg "telling" (top 44) ["book","word","place"])(V:En K mg)(o7b:Own P w K mg base "fits" 2 ["joint","word","place"] (spM K Z0 3))(o5f:Own P w K mg base "rank" 2 ["joint"] (spM K j0 1)):Own P w K mg base "telling" 3 ["book","word","place"] (spM K v7 3):=
 miD ["book","word","place","best","joint"] Df fun S _ _ _ _ _ _ _ hr=>(sa 3 S.nd wJ (ze (vz (Γ1:=[.shr,.shr,.shr,.shr,.dead]) (y2 (Γ2:=[.shr,.shr,.shr,.shr,.shr]) PassesOwn.leaving rfl (zE (vs 0)) (by decide) (zT (pgn 4 S.nd)) (by decide) (zi (zJ (MW.mt (qU (yx (cl o7b hr (zb (vs 4) (zb (vs 1) (a1 (vs 2)))))) (ug (MW.mt (uB (zW kf XE jh (vs 3) wJ (zI _)) (vx (zW (z3x hr.units0) z68 z4W (cl o5f hr (a1 (vs 4))) (cl o5f hr (a1 (vs 3))) (zI _)))))))) (zi (stS 3 S.nd (vs 4))) zo)) rfl) rfl) (rt (zy (vs 3)))))
def ZR:Tn->R Fl:=(zh (sIf (bOr (qd (zm (eUn (qw "str") (za 0)))) (qd (zm (Z5 leD leD (eC (.int 1)) (eL yC (z9 (za 0) zf)) (eC (.int 40)))))) (zx (eC (.bl false))) zH) (zx (eL Zn (z9 (zR [none] (yt (za 0)) (.one 0) (fun _=>.ok true) (eL vg (z9 (za 0) zf))) zf))))
def vk:List D->R D:=zF 1 ZR
def WW (Df:DefIn K mg "is_word" (top 47) ["thing"])(V:En K mg)(o4a:Own P w K mg base "is_sign" 1 ["thing"] (spM K vg 1)):Own P w K mg base "is_word" 2 ["thing"] (spM K vk 1):=
 miD ["thing"] Df fun S _ _ _ _ _ _ _ hr=>(ze (zJ (MW.mt (uB (wI (yx (u0 (T:="str") (by decide) rfl V.b.isinstance (wU (v:=.ty "str") rfl V.b.str Boot.«str» rfl) (vs 0)))) (vx (wI (Qw VS z12 yM VS z12 yM zc (ln V.b (a1 (vs 0))) (QF V.g.MOST_SIGNS)))))) (rt vm) zo) (rt (zU (qN (by exact rfl)) QW K2 (by exact rfl) V.b.all Boot.«all» (a1 (cm1 ["sign"] S.nofree (zE (vs 0)) (fun _ _ _ _=>(cl o4a hr (a1 (vs 0)))))))))
def jq:Tn->R Fl:=(zh (sIf (qd (zm (eL vk (z9 (za 0) zf)))) z4c zH) (zx (eC (.bl true))))
def xY:List D->R D:=zF 1 jq
def YU (Df:DefIn K mg "need_word" (top 48) ["thing"])(V:En K mg)(o4b:Own P w K mg base "is_word" 2 ["thing"] (spM K vk 1)):Own P w K mg base "need_word" 3 ["thing"] (spM K xY 1):=
 miD ["thing"] Df fun S _ _ _ _ _ _ _ hr=>(ze (zJ (wI (yx (cl o4b hr (a1 (vs 0))))) (zi z3I) zo) (rt vm))
def jf:Tn->R Fl:=(zx (zd YL (Xl UX (za 0)) (eC (.str "abcdefghijklmnopqrstuvwxyz"))))
def yo:List D->R D:=zF 1 jf
def Xm (Df:DefIn K mg "is_letter" (top 49) ["sign"])(V:En K mg) :Own P w K mg base "is_letter" 1 ["sign"] (spM K yo 1):=
 miD ["sign"] Df fun S _ _ _ _ _ _ _ hr=>(rt (wb Xc VN VI (Zc (vs 0)) (Wz V.g.SMALL) (by exact rfl)))
def vK:Tn->R Fl:=(zh (zl 2 (eC (.int 0))) (zh (xA (Xs (zm (zd ltD (za 2) (za 1))) (zm (eL yo (z9 (zd ixD (za 0) (zd wN (zd wN (za 1) (za 2)) (eC (.int 1)))) zf)))) (qP 2 wM (eC (.int 1)))) (zx (za 2))))
def yS:List D->R D:=zF 3 vK
def j6 (Df:DefIn K mg "letters_ahead" (top 50) ["word","place"])(V:En K mg)(o8:Own P w K mg base "is_letter" 1 ["sign"] (spM K yo 1)):Own P w K mg base "letters_ahead" 2 ["word","place"] (spM K yS 2):=
 miD ["word","place","many"] Df fun S _ _ _ _ _ _ _ hr=>(sa 2 S.nd zc (ze (qt (Γ2:=[.shr,.shr,.own]) PassesOwn.leaving (MW.mt (qU (zW wW qQ yM (vo 2) (vs 1) (zI _)) (ug (yx (cl o8 hr (a1 (ix hr (vs 0) (sb (sb (vs 1) (vo 2)) zc)))))))) (zi (aug 2 .own S.nd we wo xx zc)) rfl) (zi (y6 (mvn 2)))))
def wZ:Tn->R Fl:=(zh (zl 2 (eC (.int 0))) (zh (xA (Xs (zm (zd ltD (zd zB (za 1) (za 2)) (eL yC (z9 (za 0) zf)))) (zm (eL yo (z9 (zd ixD (za 0) (zd zB (za 1) (za 2))) zf)))) (qP 2 wM (eC (.int 1)))) (zx (za 2))))
def yI:List D->R D:=zF 3 wZ
def qI (Df:DefIn K mg "letters_behind" (top 51) ["word","place"])(V:En K mg)(o8:Own P w K mg base "is_letter" 1 ["sign"] (spM K yo 1)):Own P w K mg base "letters_behind" 2 ["word","place"] (spM K yI 2):=
 miD ["word","place","many"] Df fun S _ _ _ _ _ _ _ hr=>(sa 2 S.nd zc (ze (qt (Γ2:=[.shr,.shr,.own]) PassesOwn.leaving (MW.mt (qU (zW wW qQ yM (ad (vs 1) (vo 2)) (ln V.b (a1 (vs 0))) (zI _)) (ug (yx (cl o8 hr (a1 (ix hr (vs 0) (ad (vs 1) (vo 2))))))))) (zi (aug 2 .own S.nd we wo xx zc)) rfl) (zi (y6 (mvn 2)))))
def ku:Tn->R Fl:=(zh (sIf (bOr (zm (zd ltD (eL yS (z9 (za 2) (z9 (za 3) zf))) (zd ixD (za 1) (eC (.str "ahead"))))) (zm (zd ltD (eL yI (z9 (za 2) (z9 (za 3) zf))) (zd ixD (za 1) (eC (.str "behind")))))) (zx (eC (.bl false))) zH) (zh (zl 4 (eL v7 (z9 (za 0) (z9 (za 2) (z9 (za 3) zf))))) (zx (Wj (zd (isN true) (za 4) (eC .non)) (zd YL (eC (.str "-")) (za 4))))))
def wF:List D->R D:=zF 5 ku
def W5 (Df:DefIn K mg "may_part" (top 52) ["book","rules","word","place"])(V:En K mg)(o4c:Own P w K mg base "telling" 3 ["book","word","place"] (spM K v7 3))(o0i:Own P w K mg base "letters_ahead" 2 ["word","place"] (spM K yS 2))(o0c:Own P w K mg base "letters_behind" 2 ["word","place"] (spM K yI 2)):Own P w K mg base "may_part" 4 ["book","rules","word","place"] (spM K wF 4):=
 miD ["book","rules","word","place","joint"] Df fun S _ _ _ _ _ _ _ hr=>(ze (zJ (MW.mt (uB (zW wW qQ yM (cl o0i hr (zb (vs 2) (a1 (vs 3)))) (ix hr (vs 1) zj) (zI _)) (vx (zW wW qQ yM (cl o0c hr (zb (vs 2) (a1 (vs 3)))) (ix hr (vs 1) zj) (zI _))))) (rt vm) zo) (sa 4 S.nd (cl o4c hr (zb (vs 0) (zb (vs 2) (a1 (vs 3))))) (rt (qV (wb Xq Vk jh (vo 4) wJ (zI _)) (Ze (wb Xc VN VI zj (vo 4) (by exact rfl)))))))
def ZJ:Tn->R Fl:=(zh (sIf (bOr (zm (zd ltD (za 1) (eC (.int 2)))) (zm (zd (eqR true) (zd ixD (za 0) (zd wN (za 1) (eC (.int 1)))) (eC (.str "-"))))) (zx (eC (.bl false))) zH) (zx (Wj (eL yo (z9 (zd ixD (za 0) (zd wN (za 1) (eC (.int 2)))) zf)) (eL yo (z9 (zd ixD (za 0) (za 1)) zf)))))
def vh:List D->R D:=zF 2 ZJ
def WT (Df:DefIn K mg "is_soft" (top 53) ["word","place"])(V:En K mg)(o8:Own P w K mg base "is_letter" 1 ["sign"] (spM K yo 1)):Own P w K mg base "is_soft" 2 ["word","place"] (spM K vh 2):=
 miD ["word","place"] Df fun S _ _ _ _ _ _ _ hr=>(ze (zJ (MW.mt (uB (zW wW qQ yM (vs 1) zc (zI _)) (vx (zW (vX hr.u12) Zi kJ (ix hr (vs 0) (sb (vs 1) zc)) zj (zI _))))) (rt vm) zo) (rt (qV (cl o8 hr (a1 (ix hr (vs 0) (sb (vs 1) zc)))) (Ze (cl o8 hr (a1 (ix hr (vs 0) (vs 1))))))))
def ZH:Tn->R Fl:=(zh (sIf (zm (eL wF (z9 (za 0) (z9 (za 1) (z9 (za 2) (z9 (za 3) zf)))))) (zx (eC (.str "part"))) zH) (zh (sIf (zm (eL vh (z9 (za 2) (z9 (za 3) zf)))) (zx (eC (.str "soft"))) zH) (zx (eC .non))))
def vc:List D->R D:=zF 4 ZH
def WX (Df:DefIn K mg "join_at" (top 54) ["book","rules","word","place"])(V:En K mg)(o3d:Own P w K mg base "may_part" 4 ["book","rules","word","place"] (spM K wF 4))(o4d:Own P w K mg base "is_soft" 2 ["word","place"] (spM K vh 2)):Own P w K mg base "join_at" 5 ["book","rules","word","place"] (spM K vc 4):=
 miD ["book","rules","word","place"] Df fun S _ _ _ _ _ _ _ hr=>(ze (zJ (yx (cl o3d hr (zb (vs 0) (zb (vs 1) (zb (vs 2) (a1 (vs 3))))))) (rt zj) zo) (ze (zJ (yx (cl o4d hr (zb (vs 2) (a1 (vs 3))))) (rt zj) zo) (rt wJ)))
def vN:Tn->R Fl:=(zh (zl 2 (Xl UX (za 1))) (zx (zR [none,some 2] (yt (za 0)) (.one 0) (zm (zd YL (eL yR (z9 (za 0) zf)) (za 1))) (y4 (za 0)))))
def yT:List D->R D:=zF 3 vN
def qY (Df:DefIn K mg "joints_within" (top 55) ["book","word"])(V:En K mg)(ou:Own P w K mg base "letters_of" 1 ["joint"] (spM K yR 1)):Own P w K mg base "joints_within" 2 ["book","word"] (spM K yT 2):=
 miD ["book","word","small"] Df fun S _ _ _ _ _ _ _ hr=>(sa 2 S.nd (Zc (vs 1)) (rt (wg (N':=["joint","small"]) (fr:=[none,some 2]) rfl (xk S.nofree (by decide +kernel)) (zE (vs 0)) (fun _ _ _ _=>(zT (pgn 0 (show List.Nodup (["joint","small"]:List Str) from by decide +kernel)))) (fun _ _ _ _=>(qF (zW Xc VN VI (cl ou hr (a1 (vs 0))) (mn 1 .brw) (by exact rfl)))) (fun _ _ _ _=>(zy (vs 0))) (by decide) (by decide))))
def XC:Tn->R Fl:=(zh (U7 (eL xY (z9 (za 2) zf))) (zh (zl 3 (eL yT (z9 (za 0) (z9 (za 2) zf)))) (zh (zl 4 (zR [none,some 3,some 1,some 2] (iL Zz (z9 (eC (.int 1)) (z9 (eL yC (z9 (za 2) zf)) zf))) (.one 0) (fun _=>.ok true) (y4 (eL (fun ds=>.ok (.tup ds)) (z9 (za 0) (z9 (eL vc (z9 (za 1) (z9 (za 2) (z9 (za 3) (z9 (za 0) zf))))) zf)))))) (zx (zR [none,none] (yt (za 4)) (.many [0,1]) (zm (zd (isN true) (za 1) (eC .non))) (y4 (eL (fun ds=>.ok (.tup ds)) (z9 (za 0) (z9 (za 1) zf)))))))))
def u3:List D->R D:=zF 5 XC
def Q6 (Df:DefIn K mg "places" (top 56) ["book","rules","word"])(V:En K mg)(o2g:Own P w K mg base "need_word" 3 ["thing"] (spM K xY 1))(o0j:Own P w K mg base "joints_within" 2 ["book","word"] (spM K yT 2))(o4e:Own P w K mg base "join_at" 5 ["book","rules","word","place"] (spM K vc 4)):Own P w K mg base "places" 6 ["book","rules","word"] (spM K u3 3):=
 miD ["book","rules","word","own","joins"] Df fun S _ _ _ _ _ _ _ hr=>(ze (z0n (cl o2g hr (a1 (vs 2)))) (sa 3 S.nd (cl o0j hr (zb (vs 0) (a1 (vs 2)))) (ze (stC 4 (N':=["place","own","rules","word"]) (fr:=[none,some 3,some 1,some 2]) S.nd rfl (xk S.nofree (by decide +kernel)) (wx rfl V.b.range (zb zc (a1 (ln V.b (a1 (vs 2)))))) (fun _ _ _ _=>(zT (pgn 0 (show List.Nodup (["place","own","rules","word"]:List Str) from by decide +kernel)))) (fun _ _ _ _=>xh) (fun _ _ _ _=>(zy (zO (zb (vs 0) (a1 (cl o4e hr (zb (mn 1 .brw) (zb (vs 2) (zb (vs 3) (a1 (vs 0))))))))))) (by decide)) (rt (wg (N':=["place","join"]) (fr:=[none,none]) rfl (xk S.nofree (by decide +kernel)) (zE (vo 4)) (fun _ _ _ _=>(yi rfl (zu (pgn 0 (show List.Nodup (["place","join"]:List Str) from by decide +kernel)) (zu (pgn 1 (show List.Nodup (["place","join"]:List Str) from by decide +kernel)) ym)))) (fun _ _ _ _=>(qF (zW Xq Vk jh (mn 1 .brw) wJ (zI _)))) (fun _ _ _ _=>(zy (zO (zb (mn 0 .brw) (a1 (mn 1 .brw)))))) (by decide) (by decide))))))
def W8:Tn->R Fl:=(zh (zl 3 (eL (fun ds=>.ok (.lst ds)) zf)) (zh (zl 4 (eC (.int 0))) (zh (xg (yt (eL u3 (z9 (za 0) (z9 (za 1) (z9 (za 2) zf))))) (.many [5,6]) (zh (xy 3 (y4 (eL (fun ds=>.ok (.tup ds)) (z9 (eSl (za 2) (yY (za 4)) (yY (za 5))) (z9 (za 6) zf))))) (zl 4 (za 5)))) (zh (xy 3 (eL (fun ds=>.ok (.tup ds)) (z9 (eSl (za 2) (yY (za 4)) qc) (z9 (eC (.str "blank")) zf)))) (zx (za 3))))))
def u9:List D->R D:=zF 7 W8
def Us (Df:DefIn K mg "parted" (top 57) ["book","rules","word"])(V:En K mg)(o5a:Own P w K mg base "places" 6 ["book","rules","word"] (spM K u3 3)):Own P w K mg base "parted" 7 ["book","rules","word"] (spM K u9 3):=
 miD ["book","rules","word","texts","begin","place","join"] Df fun S _ _ _ _ _ _ _ hr=>(sa 3 S.nd (zz zZ) (sa 4 S.nd zc (ze (vz (Γ1:=[.shr,.shr,.shr,.own,.shr,.dead,.dead]) (y2 (Γ2:=[.shr,.shr,.shr,.own,.shr,.shr,.shr]) PassesOwn.leaving rfl (zE (cl o5a hr (zb (vs 0) (zb (vs 1) (a1 (vs 2)))))) (by decide) (yi rfl (zu (pgn 5 S.nd) (zu (pgn 6 S.nd) ym))) (by decide) (ze (app 3 (zk (zy (zO (zb (vp (vs 2) (yb (vs 4)) (yb (vs 5))) (a1 (vs 6))))))) (zi (stS 4 S.nd (vs 5)))) rfl) rfl) (ze (app 3 (zk (zO (zb (vp (vs 2) (yb (vs 4)) vA) (a1 zj))))) (zi (y6 (mvn 3)))))))
def Wo:Tn->R Fl:=(zx (eL (fun ds=>.ok (.dic [.inr "width",.inr "part",.inr "twin",.inr "over",.inr "blank",.inr "dash"] ds)) (z9 (y4 (zd ixD (za 1) (eC (.str "width")))) (z9 (y4 (zd ixD (za 1) (eC (.str "part")))) (z9 (y4 (zd ixD (za 1) (eC (.str "twin")))) (z9 (y4 (zd ixD (za 1) (eC (.str "over")))) (z9 (y4 (zd ixD (za 0) (eC (.int 1)))) (z9 (eL vI (z9 (za 0) (z9 (eC (.str "-")) zf))) zf))))))))
def yJ:List D->R D:=zF 2 Wo
def Q9 (Df:DefIn K mg "lay_of" (top 59) ["face","rules"])(V:En K mg)(o0h:Own P w K mg base "wide" 1 ["face","line"] (spM K vI 2)):Own P w K mg base "lay_of" 2 ["face","rules"] (spM K yJ 2):=
 miD ["face","rules"] Df fun S _ _ _ _ _ _ _ hr=>(rt (VT (xH (key:=.inr "width") xX (zy (ix hr (vs 1) zj)) (xH (key:=.inr "part") xX (zy (ix hr (vs 1) zj)) (xH (key:=.inr "twin") xX (zy (ix hr (vs 1) zj)) (xH (key:=.inr "over") xX (zy (ix hr (vs 1) zj)) (xH (key:=.inr "blank") xX (zy (ix hr (vs 0) zc)) (xH (key:=.inr "dash") xX (cl o0h hr (zb (vs 0) (a1 zj))) U4)))))) (by decide)))
def ju:Tn->R Fl:=(zh (zl 4 (eL (fun ds=>.ok (.lst ds)) zf)) (zh (xg (yt (za 3)) (.many [5,6]) (xg (yt (eL u9 (z9 (za 1) (z9 (za 2) (z9 (za 5) zf))))) (.many [7,8]) (zh (zl 9 (eIf (zm (zd (eqR false) (za 8) (eC (.str "blank")))) (zd zB (za 7) (za 6)) (y4 (za 7)))) (xy 4 (y4 (eL (fun ds=>.ok (.tup ds)) (z9 (za 9) (z9 (eL vI (z9 (za 0) (z9 (za 9) zf))) (z9 (za 8) zf))))))))) (zx (za 4))))
def ye:List D->R D:=zF 10 ju
def Xh (Df:DefIn K mg "pieces_of" (top 60) ["face","book","rules","pairs"])(V:En K mg)(o5b:Own P w K mg base "parted" 7 ["book","rules","word"] (spM K u9 3))(o0h:Own P w K mg base "wide" 1 ["face","line"] (spM K vI 2)):Own P w K mg base "pieces_of" 8 ["face","book","rules","pairs"] (spM K ye 4):=
 miD ["face","book","rules","pairs","pieces","word","tail","text","join","full"] Df fun S _ _ _ _ _ _ _ hr=>(sa 4 S.nd (zz zZ) (ze (y2 (Γ2:=[.shr,.shr,.shr,.shr,.own,.shr,.shr,.dead,.dead,.dead]) PassesOwn.leaving rfl (zE (vs 3)) (by decide) (yi rfl (zu (pgn 5 S.nd) (zu (pgn 6 S.nd) ym))) (by decide) (zi (y2 (Γ2:=[.shr,.shr,.shr,.shr,.own,.shr,.shr,.shr,.shr,.own]) PassesOwn.leaving rfl (zE (cl o5b hr (zb (vs 1) (zb (vs 2) (a1 (vs 5)))))) (by decide) (yi rfl (zu (pgn 7 S.nd) (zu (pgn 8 S.nd) ym))) (by decide) (sa 9 S.nd (uR (te hr (vs 8) zj) (ad (vs 7) (vs 6)) (zy (vs 7))) (zi (app 4 (zk (zy (zO (zb (vo 9) (zb (cl o0h hr (zb (vs 0) (a1 (vo 9)))) (a1 (vs 8)))))))))) rfl)) rfl) (zi (y6 (mvn 4)))))
def ZF:Tn->R Fl:=(zh (zl 3 (eL (fun ds=>.ok (.lst ds)) zf)) (zh (zl 4 (eC (.str ""))) (zh (zl 5 (eC (.int 0))) (zh (xg (iL Zz (z9 (za 1) (z9 (za 2) zf))) (.one 6) (zh (qP 4 wM (zd ixD (zd ixD (za 0) (za 6)) (eC (.int 0)))) (zh (qP 5 wM (zd ixD (zd ixD (za 0) (za 6)) (eC (.int 1)))) (sIf (bOr (zm (zd (eqR false) (zd ixD (zd ixD (za 0) (za 6)) (eC (.int 2))) (eC (.str "blank")))) (zm (zd (eqR false) (za 6) (zd wN (za 2) (eC (.int 1)))))) (zh (xy 3 (y4 (eL (fun ds=>.ok (.tup ds)) (z9 (za 4) (z9 (za 5) zf))))) (zh (zl 4 (eC (.str ""))) (zl 5 (eC (.int 0))))) zH)))) (zh (sIf (zm (eL zK (z9 (za 0) (z9 (za 2) zf)))) (WH 3 (y4 (eL (fun ds=>.ok (.tup ds)) (z9 (zd zB (zd ixD (zd ixD (za 3) (eUn V7 (eC (.int 1)))) (eC (.int 0))) (eC (.str "-"))) (z9 (zd ixD (zd ixD (za 3) (eUn V7 (eC (.int 1)))) (eC (.int 1))) zf)))) (eUn V7 (eC (.int 1)))) zH) (zx (za 3)))))))
def vj:List D->R D:=zF 7 ZF
def WI (Df:DefIn K mg "runs_of" (top 62) ["pieces","begin","end"])(V:En K mg)(o6:Own P w K mg base "ends_parted" 1 ["pieces","end"] (spM K zK 2)):Own P w K mg base "runs_of" 2 ["pieces","begin","end"] (spM K vj 3):=
 miD ["pieces","begin","end","runs","text","width","place"] Df fun S _ _ _ _ _ _ _ hr=>(sa 3 S.nd (zz zZ) (sa 4 S.nd zj (sa 5 S.nd zc (ze (y2 (Γ2:=[.shr,.shr,.shr,.own,.own,.own,.shr]) PassesOwn.leaving rfl (wx rfl V.b.range (zb (vs 1) (a1 (vs 2)))) (by decide) (zT (pgn 6 S.nd)) (by decide) (ze (aug 4 .own S.nd we wo xx (ix hr (ix hr (vs 0) (vs 6)) zc)) (ze (aug 5 .own S.nd we wo xx (ix hr (ix hr (vs 0) (vs 6)) zc)) (zi (zJ (MW.mt (uB (te hr (ix hr (ix hr (vs 0) (vs 6)) zc) zj) (vx (te hr (vs 6) (sb (vs 2) zc))))) (ze (app 3 (zk (zy (zO (zb (vo 4) (a1 (vo 5))))))) (sa 4 S.nd zj (zi (L2.st 5 S.nd (zk zc))))) zo)))) rfl) (ze (zJ (yx (cl o6 hr (zb (vs 0) (a1 (vs 2))))) (zi (put 3 (zk (zy (zO (zb (ad (ix hr (ix hr (vo 3) (kr zc)) zc) zj) (a1 (ix hr (ix hr (vo 3) (kr zc)) zc)))))) (kr zc))) zo) (zi (y6 (mvn 3))))))))
def kj:Tn->R Fl:=(zh (sIf (zm (zd (eqR false) (za 3) (eL yC (z9 (za 0) zf)))) (zx (eC (.int 0))) zH) (zx (eL qv (z9 (eC (.int 0)) (z9 (zd wN (zd ixD (za 1) (eC (.str "width"))) (eL ve (z9 (za 0) (z9 (za 1) (z9 (za 2) (z9 (za 3) zf)))))) zf)))))
def wB:List D->R D:=zF 4 kj
def Wv (Df:DefIn K mg "spare_of" (top 63) ["pieces","lay","begin","end"])(V:En K mg)(o4f:Own P w K mg base "natural" 3 ["pieces","lay","begin","end"] (spM K ve 4)):Own P w K mg base "spare_of" 4 ["pieces","lay","begin","end"] (spM K wB 4):=
 miD ["pieces","lay","begin","end"] Df fun S _ _ _ _ _ _ _ hr=>(ze (zJ (te hr (vs 3) (ln V.b (a1 (vs 0)))) (rt zc) zo) (rt (zU (uo (by exact rfl)) YQ Xx (by exact rfl) V.b.max PyProof.Rows.boot_max (zb zc (a1 (sb (ix hr (vs 1) zj) (cl o4f hr (zb (vs 0) (zb (vs 1) (zb (vs 2) (a1 (vs 3))))))))))))
def W0:Tn->R Fl:=(zx (zR [none,some 0,some 1] (iL vY (z9 (za 1) zf)) (.one 0) (fun _=>.ok true) (zd zB (zd zN (za 1) (za 2)) (eIf (zm (zd ltD (za 0) (zd zY (za 1) (za 2)))) (eC (.int 1)) (eC (.int 0))))))
def vV:List D->R D:=zF 2 W0
def Q5 (Df:DefIn K mg "shares" (top 64) ["spare","gaps"])(V:En K mg) :Own P w K mg base "shares" 1 ["spare","gaps"] (spM K vV 2):=
 miD ["spare","gaps"] Df fun S _ _ _ _ _ _ _ hr=>(rt (cm1 ["gap","spare","gaps"] S.nofree (yq rfl V.b.range (a1 (vs 1))) (fun _ _ _ _=>(ad (fd (vs 1) (vs 2)) (uR (zW wW qQ yM (vs 0) (md (vs 1) (vs 2)) (zI _)) zc zc)))))
def W6:Tn->R Fl:=(zh (zl 4 (eL vj (z9 (za 0) (z9 (za 2) (z9 (za 3) zf))))) (zh (zl 5 (eL vV (z9 (eL wB (z9 (za 0) (z9 (za 1) (z9 (za 2) (z9 (za 3) zf))))) (z9 (zd wN (eL yC (z9 (za 4) zf)) (eC (.int 1))) zf)))) (zh (zl 6 (eL (fun ds=>.ok (.lst ds)) zf)) (zh (zl 7 (eC (.int 0))) (zh (xg (iL ZX (z9 (za 4) zf)) (.many [8,9]) (zh (xy 6 (y4 (eL (fun ds=>.ok (.tup ds)) (z9 (za 7) (z9 (zd ixD (za 9) (eC (.int 0))) zf))))) (sIf (zm (zd ltD (za 8) (eL yC (z9 (za 5) zf)))) (qP 7 wM (zd zB (zd zB (zd ixD (za 9) (eC (.int 1))) (zd ixD (za 1) (eC (.str "blank")))) (zd ixD (za 5) (za 8)))) zH))) (zx (za 6)))))))
def yV:List D->R D:=zF 10 W6
def Uz (Df:DefIn K mg "spread" (top 65) ["pieces","lay","begin","end"])(V:En K mg)(o4g:Own P w K mg base "runs_of" 2 ["pieces","begin","end"] (spM K vj 3))(o5c:Own P w K mg base "shares" 1 ["spare","gaps"] (spM K vV 2))(o3e:Own P w K mg base "spare_of" 4 ["pieces","lay","begin","end"] (spM K wB 4)):Own P w K mg base "spread" 5 ["pieces","lay","begin","end"] (spM K yV 4):=
 miD ["pieces","lay","begin","end","runs","more","spots","left","at","run"] Df fun S _ _ _ _ _ _ _ hr=>(sa 4 S.nd (cl o4g hr (zb (vs 0) (zb (vs 2) (a1 (vs 3))))) (sa 5 S.nd (cl o5c hr (zb (cl o3e hr (zb (vs 0) (zb (vs 1) (zb (vs 2) (a1 (vs 3)))))) (a1 (sb (ln V.b (a1 (vo 4))) zc)))) (sa 6 S.nd (zz zZ) (sa 7 S.nd zc (ze (vz (Γ1:=[.shr,.shr,.shr,.shr,.shr,.own,.own,.own,.dead,.dead]) (y2 (Γ2:=[.shr,.shr,.shr,.shr,.shr,.own,.own,.own,.shr,.shr]) PassesOwn.leaving rfl (YA rfl V.b.enumerate (a1 (vs 4))) (by decide) (yi rfl (zu (pgn 8 S.nd) (zu (pgn 9 S.nd) ym))) (by decide) (ze (app 6 (zk (zy (zO (zb (vo 7) (a1 (ix hr (vs 9) zc))))))) (zi (zJ (zW wW qQ yM (vs 8) (ln V.b (a1 (vo 5))) (zI _)) (zi (aug 7 .own S.nd we wo xx (ad (ad (ix hr (vs 9) zc) (ix hr (vs 1) zj)) (ix hr (vo 5) (vs 8))))) zo))) rfl) rfl) (zi (y6 (mvn 6))))))))
def kK:Tn->R Fl:=(zh (sIf (zm (zd (eqR true) (zd ixD (za 0) (eC (.int 0))) (eC (.str "text")))) (zx (eL (fun ds=>.ok (.lst ds)) zf)) zH) (zx (zR [none,none] (yt (zd ixD (za 0) (eC (.int 1)))) (.many [0,1]) (fun _=>.ok true) (eL yC (z9 (za 1) zf)))))
def wG:List D->R D:=zF 1 kK
def XT (Df:DefIn K mg "marks_of" (top 67) ["block"])(V:En K mg) :Own P w K mg base "marks_of" 1 ["block"] (spM K wG 1):=
 miD ["block"] Df fun S _ _ _ _ _ _ _ hr=>(ze (zJ (zW (vX hr.u12) Zi kJ (ix hr (vs 0) zc) zj (zI _)) (rt (zz zZ)) zo) (rt (wg (N':=["word","notes"]) (fr:=[none,none]) rfl (xk S.nofree (by decide +kernel)) (zE (ix hr (vs 0) zc)) (fun _ _ _ _=>(yi rfl (zu (pgn 0 (show List.Nodup (["word","notes"]:List Str) from by decide +kernel)) (zu (pgn 1 (show List.Nodup (["word","notes"]:List Str) from by decide +kernel)) ym)))) (fun _ _ _ _=>xh) (fun _ _ _ _=>(ln V.b (a1 (vs 1)))) (by decide) (by decide))))
def Z4:Tn->R Fl:=(zx (eL yC (z9 (zR [none] (yt (eSl (za 0) (yY (za 1)) (yY (za 2)))) (.one 0) (zm (zd (eqR false) (zd ixD (za 0) (eC (.int 2))) (eC (.str "blank")))) (za 0)) zf)))
def wC:List D->R D:=zF 3 Z4
def XG (Df:DefIn K mg "words_in" (top 68) ["pieces","begin","end"])(V:En K mg) :Own P w K mg base "words_in" 1 ["pieces","begin","end"] (spM K wC 3):=
 miD ["pieces","begin","end"] Df fun S _ _ _ _ _ _ _ hr=>(rt (ln V.b (a1 (wg (N':=["piece"]) (fr:=[none]) rfl (xk S.nofree (by decide +kernel)) (zE (vp (vs 0) (yb (vs 1)) (yb (vs 2)))) (fun _ _ _ _=>(zT (pgn 0 (show List.Nodup (["piece"]:List Str) from by decide +kernel)))) (fun _ _ _ _=>(qF (te hr (ix hr (vs 0) zc) zj))) (fun _ _ _ _=>(vs 0)) (by decide) (by decide)))))
def jb:Tn->R Fl:=(zh (zl 4 (eL (fun ds=>.ok (.lst ds)) zf)) (zh (zl 5 (eC (.int 0))) (zh (zl 6 (eC (.int 0))) (zh (xg (yt (za 2)) (.one 7) (zh (zl 8 (zd zB (za 6) (eL wC (z9 (za 0) (z9 (za 5) (z9 (za 7) zf)))))) (zh (zl 9 (zR [none,none] (yt (eL yV (z9 (za 0) (z9 (za 1) (z9 (za 5) (z9 (za 7) zf)))))) (.many [0,1]) (fun _=>.ok true) (y4 (eL (fun ds=>.ok (.tup ds)) (z9 (eC (.int 0)) (z9 (za 0) (z9 (za 1) zf))))))) (zh (xy 4 (eL (fun ds=>.ok (.tup ds)) (z9 (eC (.int 1)) (z9 (za 9) (z9 (eL qS (z9 (eSl (za 3) (yY (za 6)) (yY (za 8))) zf)) zf))))) (zh (zl 5 (za 7)) (zl 6 (y4 (za 8)))))))) (zx (za 4))))))
def x6:List D->R D:=zF 10 jb
def X6 (Df:DefIn K mg "line_rows" (top 69) ["pieces","lay","breaks","marks"])(V:En K mg)(o3f:Own P w K mg base "words_in" 1 ["pieces","begin","end"] (spM K wC 3))(o1b:Own P w K mg base "spread" 5 ["pieces","lay","begin","end"] (spM K yV 4)):Own P w K mg base "line_rows" 6 ["pieces","lay","breaks","marks"] (spM K x6 4):=
 miD ["pieces","lay","breaks","marks","rows","begin","word","end","beyond","spots"] Df fun S _ _ _ _ _ _ _ hr=>(sa 4 S.nd (zz zZ) (sa 5 S.nd zc (sa 6 S.nd zc (ze (vz (Γ1:=[.shr,.shr,.shr,.shr,.own,.shr,.own,.dead,.dead,.dead]) (y2 (Γ2:=[.shr,.shr,.shr,.shr,.own,.shr,.own,.shr,.own,.dead]) PassesOwn.leaving rfl (zE (vs 2)) (by decide) (zT (pgn 7 S.nd)) (by decide) (sa 8 S.nd (ad (vo 6) (cl o3f hr (zb (vs 0) (zb (vs 5) (a1 (vs 7)))))) (ze (stC 9 (N':=["left","text"]) (fr:=[none,none]) S.nd rfl (xk S.nofree (by decide +kernel)) (zE (cl o1b hr (zb (vs 0) (zb (vs 1) (zb (vs 5) (a1 (vs 7))))))) (fun _ _ _ _=>(yi rfl (zu (pgn 0 (show List.Nodup (["left","text"]:List Str) from by decide +kernel)) (zu (pgn 1 (show List.Nodup (["left","text"]:List Str) from by decide +kernel)) ym)))) (fun _ _ _ _=>xh) (fun _ _ _ _=>(zy (zO (zb zc (zb (vs 0) (a1 (vs 1))))))) (by decide)) (ze (app 4 (qX (yu (zk zc) (yu (mvn 9) (yu (zk (zU (wu rfl) ZV Yt (by exact rfl) V.b.sum PyProof.Rows.boot_sum (a1 (vp (vs 3) (yb (vo 6)) (yb (vo 8)))))) uh))))) (ze (stS 5 S.nd (vs 7)) (zi (L2.st 6 S.nd (zk (zy (vo 8))))))))) rfl) rfl) (zi (y6 (mvn 4)))))))
def qf:Tn->R Fl:=(zh (zl 3 (zd ixD (eL xQ (z9 (za 0) (z9 (za 1) (z9 (za 2) zf)))) (eC (.int 1)))) (zh (zl 4 (eL (fun ds=>.ok (.lst ds)) zf)) (zh (xg (yt (za 2)) (.one 5) (zh (zl 6 (eL xv (z9 (za 0) (z9 (za 5) (z9 (za 3) zf))))) (xy 4 (eL (fun ds=>.ok (.tup ds)) (z9 (y4 (zd ixD (za 6) (eC (.int 0)))) (z9 (zd Um (za 6) (eC (.int 1))) (z9 (eC (.int 0)) zf))))))) (zx (za 4)))))
def yl:List D->R D:=zF 7 qf
def Zy (Df:DefIn K mg "table_rows" (top 70) ["face","rules","table"])(V:En K mg)(o0f:Own P w K mg base "columns" 4 ["face","rules","table"] (spM K xQ 3))(o0g:Own P w K mg base "set_row" 4 ["face","row","widths"] (spM K xv 3)):Own P w K mg base "table_rows" 5 ["face","rules","table"] (spM K yl 3):=
 miD ["face","rules","table","widths","rows","row","told"] Df fun S _ _ _ _ _ _ _ hr=>(sa 3 S.nd (ix hr (cl o0f hr (zb (vs 0) (zb (vs 1) (a1 (vs 2))))) zc) (sa 4 S.nd (zz zZ) (ze (y2 (Γ2:=[.shr,.shr,.shr,.own,.own,.shr,.dead]) PassesOwn.leaving rfl (zE (vs 2)) (by decide) (zT (pgn 5 S.nd)) (by decide) (sa 6 S.nd (cl o0g hr (zb (vs 0) (zb (vs 5) (a1 (vo 3))))) (zi (app 4 (qX (yu (zk (zy (ix hr (vo 6) zc))) (yu (z2G 6 zc (fun _ _=>rfl)) (yu (zk zc) uh))))))) rfl) (zi (y6 (mvn 4))))))
def wj:Tn->R Fl:=(zh (sIf (zm (zd (eqR false) (zd ixD (za 2) (eC (.int 0))) (eC (.str "table")))) (zx (eL yl (z9 (za 0) (z9 (za 1) (z9 (zd ixD (za 2) (eC (.int 1))) zf))))) zH) (zx (eL x6 (z9 (za 3) (z9 (eL yJ (z9 (za 0) (z9 (za 1) zf))) (z9 (za 4) (z9 (eL wG (z9 (za 2) zf)) zf)))))))
def ya:List D->R D:=zF 5 wj
def ZC (Df:DefIn K mg "block_rows" (top 71) ["face","rules","block","pieces","breaks"])(V:En K mg)(oy:Own P w K mg base "line_rows" 6 ["pieces","lay","breaks","marks"] (spM K x6 4))(o2a:Own P w K mg base "table_rows" 5 ["face","rules","table"] (spM K yl 3))(oj:Own P w K mg base "lay_of" 2 ["face","rules"] (spM K yJ 2))(o3g:Own P w K mg base "marks_of" 1 ["block"] (spM K wG 1)):Own P w K mg base "block_rows" 7 ["face","rules","block","pieces","breaks"] (spM K ya 5):=
 miD ["face","rules","block","pieces","breaks"] Df fun S _ _ _ _ _ _ _ hr=>(ze (zJ (te hr (ix hr (vs 2) zc) zj) (rt (cl o2a hr (zb (vs 0) (zb (vs 1) (a1 (ix hr (vs 2) zc)))))) zo) (rt (cl oy hr (zb (vs 3) (zb (cl oj hr (zb (vs 0) (a1 (vs 1)))) (zb (vs 4) (a1 (cl o3g hr (a1 (vs 2))))))))))
def um:Tn->R Fl:=(zh (zl 5 (eL ye (z9 (za 0) (z9 (za 1) (z9 (za 2) (z9 (za 4) zf)))))) (zx (eL ya (z9 (za 0) (z9 (za 2) (z9 (za 3) (z9 (za 5) (z9 (eL x8 (z9 (za 5) (z9 (eL yJ (z9 (za 0) (z9 (za 2) zf))) zf))) zf))))))))
def yy:List D->R D:=zF 6 um
def Vl (Df:DefIn K mg "rows_of" (top 72) ["face","book","rules","block","pairs"])(V:En K mg)(oh:Own P w K mg base "pieces_of" 8 ["face","book","rules","pairs"] (spM K ye 4))(o2b:Own P w K mg base "block_rows" 7 ["face","rules","block","pieces","breaks"] (spM K ya 5))(ow:Own P w K mg base "broken" 6 ["pieces","lay"] (spM K x8 2))(oj:Own P w K mg base "lay_of" 2 ["face","rules"] (spM K yJ 2)):Own P w K mg base "rows_of" 9 ["face","book","rules","block","pairs"] (spM K yy 5):=
 miD ["face","book","rules","block","pairs","pieces"] Df fun S _ _ _ _ _ _ _ hr=>(sa 5 S.nd (cl oh hr (zb (vs 0) (zb (vs 1) (zb (vs 2) (a1 (vs 4)))))) (rt (cl o2b hr (zb (vs 0) (zb (vs 2) (zb (vs 3) (zb (vo 5) (a1 (cl ow hr (zb (vo 5) (a1 (cl oj hr (zb (vs 0) (a1 (vs 2)))))))))))))))
def jn:Tn->R Fl:=(zh (zl 5 (eL ye (z9 (za 0) (z9 (za 1) (z9 (za 2) (z9 (eL xC (z9 (za 3) (z9 (za 4) zf))) zf)))))) (zh (zl 6 (eL yJ (z9 (za 0) (z9 (za 2) zf)))) (zx (eL x6 (z9 (za 5) (z9 (za 6) (z9 (eL x8 (z9 (za 5) (z9 (za 6) zf))) (z9 (eL (fun ds=>.ok (.lst ds)) zf) zf))))))))
def xu:List D->R D:=zF 7 jn
def Xd (Df:DefIn K mg "note_rows" (top 73) ["face","book","rules","number","note"])(V:En K mg)(oh:Own P w K mg base "pieces_of" 8 ["face","book","rules","pairs"] (spM K ye 4))(oj:Own P w K mg base "lay_of" 2 ["face","rules"] (spM K yJ 2))(oy:Own P w K mg base "line_rows" 6 ["pieces","lay","breaks","marks"] (spM K x6 4))(o2c:Own P w K mg base "note_pairs" 1 ["number","note"] (spM K xC 2))(ow:Own P w K mg base "broken" 6 ["pieces","lay"] (spM K x8 2)):Own P w K mg base "note_rows" 9 ["face","book","rules","number","note"] (spM K xu 5):=
 miD ["face","book","rules","number","note","pieces","lay"] Df fun S _ _ _ _ _ _ _ hr=>(sa 5 S.nd (cl oh hr (zb (vs 0) (zb (vs 1) (zb (vs 2) (a1 (cl o2c hr (zb (vs 3) (a1 (vs 4))))))))) (sa 6 S.nd (cl oj hr (zb (vs 0) (a1 (vs 2)))) (rt (cl oy hr (zb (vo 5) (zb (vo 6) (zb (cl ow hr (zb (vo 5) (a1 (vo 6)))) (a1 (zz zZ)))))))))
def uc:Tn->R Fl:=(zh (sIf (zm (zd ltD (za 1) (eL yC (z9 (za 0) zf)))) (zx (y4 (zd ixD (za 0) (za 1)))) zH) (zx (eC (.int 0))))
def zD:List D->R D:=zF 2 uc
def jz (Df:DefIn K mg "_law_cell_at" (top 75) ["_law_script","_law_k"])(V:En K mg) :Own P w K mg base "_law_cell_at" 1 ["_law_script","_law_k"] (spM K zD 2):=
 miD ["_law_script","_law_k"] Df fun S _ _ _ _ _ _ _ hr=>(ze (zJ (zW wW qQ yM (vs 1) (ln V.b (a1 (vs 0))) (zI _)) (rt (zy (ix hr (vs 0) (vs 1)))) zo) (rt zc))
def uz:Tn->R Fl:=(zx (zd ixD (eC (.str "abcdefghijklmnopqrstuvwxyz")) (zd zY (zd zB (za 1) (zd yH (eC (.int 5)) (zd zY (za 0) (eC (.int 5))))) (eC (.int 26)))))
def yE:List D->R D:=zF 2 uz
def kS (Df:DefIn K mg "_law_letter" (top 76) ["_law_n","_law_shift"])(V:En K mg) :Own P w K mg base "_law_letter" 1 ["_law_n","_law_shift"] (spM K yE 2):=
 miD ["_law_n","_law_shift"] Df fun S _ _ _ _ _ _ _ hr=>(rt (ix hr zj (md (ad (vs 1) (ml zc (md (vs 0) zc))) zc)))
def jv:Tn->R Fl:=(zh (zl 2 (zd zY (zd yH (za 0) (eC (.int 48271))) (eC (.int 1000003)))) (zh (zl 3 (eL (fun ds=>.ok (.lst ds)) (z9 (eC (.int 1)) (z9 (eC (.int 3)) (z9 (eC (.int 7)) (z9 (eC (.int 11)) (z9 (eC (.int 31)) (z9 (eC (.int 101)) (z9 (eC (.int 211)) (z9 (eC (.int 401)) (z9 (eC (.int 809)) (z9 (eC (.int 1601)) zf)))))))))))) (zh (zl 4 (eSm v9 (eC (.str "")) (z9 (zR [none,some 1,some 2,some 3] (iL vY (z9 (zd zB (eC (.int 1)) (zd zY (za 0) (eC (.int 10)))) zf)) (.one 0) (fun _=>.ok true) (eL yE (z9 (zd zN (za 2) (zd ixD (za 3) (za 0))) (z9 (za 1) zf)))) zf))) (zh (zl 5 (zd zY (zd zN (za 0) (eC (.int 10))) (eC (.int 12)))) (zh (sIf (zm (zd (eqR false) (za 5) (eC (.int 0)))) (zx (zd zB (Xl upD (eSl (za 4) qc (yY (eC (.int 1))))) (eSl (za 4) (yY (eC (.int 1))) qc))) zH) (zh (sIf (zm (zd (eqR false) (za 5) (eC (.int 1)))) (zx (zd zB (za 4) (zd ixD (eL (fun ds=>.ok (.lst ds)) (z9 (eC (.str ".")) (z9 (eC (.str ",")) (z9 (eC (.str "?")) (z9 (eC (.str ")")) zf))))) (zd zY (zd zN (za 0) (eC (.int 120))) (eC (.int 4)))))) zH) (zh (sIf (zm (zd (eqR false) (za 5) (eC (.int 2)))) (zx (zd zB (zd zB (za 4) (eC (.str "-"))) (Jy (za 4)))) zH) (zh (sIf (zm (zd (eqR false) (za 5) (eC (.int 3)))) (zx (eL ZU (z9 (zd zY (za 0) (eC (.int 1000))) zf))) zH) (zh (sIf (zm (zd (eqR false) (za 5) (eC (.int 4)))) (zx (zd zB (eC (.str "(")) (za 4))) zH) (zh (sIf (zm (zd (eqR false) (za 5) (eC (.int 5)))) (zx (zd zB (zd zB (zd zB (eSl (za 4) qc (yY (eC (.int 1)))) (eC (.str "("))) (eSl (za 4) (yY (eC (.int 1))) qc)) (eC (.str ")")))) zH) (zh (sIf (zm (zd (eqR false) (za 5) (eC (.int 6)))) (zx (zd zB (zd zB (zd ixD (eL (fun ds=>.ok (.lst ds)) (z9 (eC (.str "'")) (z9 (eC (.str ":")) (z9 (eC (.str "/")) (z9 (eC (.str "\"")) (z9 (eC (.str "!")) zf)))))) (zd zY (zd zN (za 0) (eC (.int 120))) (eC (.int 5)))) (za 4)) (zd ixD (eL (fun ds=>.ok (.lst ds)) (z9 (eC (.str "(2)")) (z9 (eC (.str ";")) (z9 (eC (.str "(1)")) zf)))) (zd zY (zd zN (za 0) (eC (.int 600))) (eC (.int 3)))))) zH) (zx (za 4)))))))))))))
def xf:List D->R D:=zF 6 jv
def Xf (Df:DefIn K mg "_law_word" (top 77) ["_law_n","_law_shift"])(V:En K mg)(oq:Own P w K mg base "_law_letter" 1 ["_law_n","_law_shift"] (spM K yE 2)):Own P w K mg base "_law_word" 2 ["_law_n","_law_shift"] (spM K xf 2):=
 miD ["_law_n","_law_shift","_law_more","_law_parts","_law_word_here","_law_way"] Df fun S _ _ _ _ _ _ _ hr=>(sa 2 S.nd (md (ml (vs 0) zc) zc) (sa 3 S.nd (zz (zb zc (zb zc (zb zc (zb zc (zb zc (zb zc (zb zc (zb zc (zb zc (a1 zc))))))))))) (sa 4 S.nd (Yn jQs jQu jQv qu YC X5 zj (a1 (cm1 ["_law_k","_law_shift","_law_more","_law_parts"] S.nofree (yq rfl V.b.range (a1 (ad zc (md (vs 0) zc)))) (fun _ _ _ _=>(cl oq hr (zb (fd (mn 2 .brw) (ix hr (mn 3 .brw) (vs 0))) (a1 (vs 1)))))))) (sa 5 S.nd (md (fd (vs 0) zc) zc) (ze (zJ (te hr (vo 5) zc) (rt (ad (Jk (vp (vo 4) vA (yb zc))) (vp (vo 4) (yb zc) vA))) zo) (ze (zJ (te hr (vo 5) zc) (rt (ad (vo 4) (ix hr (zz (zb zj (zb zj (zb zj (a1 zj))))) (md (fd (vs 0) zc) zc)))) zo) (ze (zJ (te hr (vo 5) zc) (rt (ad (ad (vo 4) zj) (Kz (vo 4)))) zo) (ze (zJ (te hr (vo 5) zc) (rt (yr qm Jn JT (by exact rfl) V.b.str Boot.«str» (a1 (md (vs 0) zc)))) zo) (ze (zJ (te hr (vo 5) zc) (rt (ad zj (vo 4))) zo) (ze (zJ (te hr (vo 5) zc) (rt (ad (ad (ad (vp (vo 4) vA (yb zc)) zj) (vp (vo 4) (yb zc) vA)) zj)) zo) (ze (zJ (te hr (vo 5) zc) (rt (ad (ad (ix hr (zz (zb zj (zb zj (zb zj (zb zj (a1 zj)))))) (md (fd (vs 0) zc) zc)) (vo 4)) (ix hr (zz (zb zj (zb zj (a1 zj)))) (md (fd (vs 0) zc) zc)))) zo) (zi (y6 (mvn 4))))))))))))))
def qi:Tn->R Fl:=(zx (eL xE (z9 (zR [none,some 2,some 0] (iL vY (z9 (za 1) zf)) (.one 0) (fun _=>.ok true) (eL xf (z9 (zd zY (zd yH (zd zB (zd yH (za 2) (zd zB (zd yH (za 0) (za 0)) (eC (.int 1)))) (zd yH (eC (.int 1009)) (za 0))) (eC (.int 16807))) (eC (.int 1000003))) (z9 (za 1) zf)))) zf)))
def yk:List D->R D:=zF 3 qi
def Zw (Df:DefIn K mg "_law_words" (top 78) ["_law_n","_law_many","_law_shift"])(V:En K mg)(oz:Own P w K mg base "_law_word" 2 ["_law_n","_law_shift"] (spM K xf 2)):Own P w K mg base "_law_words" 3 ["_law_n","_law_many","_law_shift"] (spM K yk 3):=
 miD ["_law_n","_law_many","_law_shift"] Df fun S _ _ _ _ _ _ _ hr=>(rt (yr yW vn vd (by exact rfl) V.b.tuple Boot.«tuple» (a1 (cm1 ["_law_k","_law_shift","_law_n"] S.nofree (yq rfl V.b.range (a1 (vs 1))) (fun _ _ _ _=>(cl oz hr (zb (md (ml (ad (ml (vs 2) (ad (ml (vs 0) (vs 0)) zc)) (ml zc (vs 0))) zc) zc) (a1 (vs 1)))))))))
def jo:Tn->R Fl:=(zh (zl 4 (eL (fun ds=>.ok (.lst ds)) zf)) (zh (xg (iL vY (z9 (zd zB (eC (.int 1)) (zd zY (za 0) (za 2))) zf)) (.one 5) (zh (zl 6 (zd zY (zd yH (zd zB (zd yH (zd zN (za 0) (eC (.int 7))) (zd zB (zd yH (za 5) (za 5)) (eC (.int 1)))) (zd yH (eC (.int 7919)) (za 5))) (eC (.int 69621))) (eC (.int 1000003)))) (zh (zl 7 (eL (fun ds=>.ok (.lst ds)) zf)) (zh (xg (iL vY (z9 (eL ka (z9 (za 1) (z9 (zd ixD (eL (fun ds=>.ok (.lst ds)) (z9 (eC (.int 0)) (z9 (eC (.int 0)) (z9 (eC (.int 0)) (z9 (eC (.int 0)) (z9 (eC (.int 1)) (z9 (eC (.int 0)) (z9 (eC (.int 2)) (z9 (eC (.int 3)) zf))))))))) (zd zY (za 6) (eC (.int 8)))) zf))) zf)) (.one 8) (xy 7 (eL yk (z9 (zd zB (zd zN (za 6) (eC (.int 8))) (za 8)) (z9 (zd zB (eC (.int 1)) (zd zY (zd zB (zd zN (za 6) (eC (.int 8))) (za 8)) (eC (.int 4)))) (z9 (za 3) zf)))))) (zh (zl 1 (zd wN (za 1) (eL yC (z9 (za 7) zf)))) (xy 4 (eL (fun ds=>.ok (.tup ds)) (z9 (eL xf (z9 (zd zN (za 6) (eC (.int 8))) (z9 (za 3) zf))) (z9 (eL xE (z9 (za 7) zf)) zf))))))))) (zx (y4 (eL (fun ds=>.ok (.tup ds)) (z9 (eL (fun ds=>.ok (.tup ds)) (z9 (eC (.str "text")) (z9 (eL xE (z9 (za 4) zf)) zf))) (z9 (za 1) zf)))))))
def w6:List D->R D:=zF 9 jo
def X4 (Df:DefIn K mg "_law_text" (top 79) ["_law_n","_law_room","_law_most","_law_shift"])(V:En K mg)(o9:Own P w K mg base "_law_words" 3 ["_law_n","_law_many","_law_shift"] (spM K yk 3))(oz:Own P w K mg base "_law_word" 2 ["_law_n","_law_shift"] (spM K xf 2)):Own P w K mg base "_law_text" 4 ["_law_n","_law_room","_law_most","_law_shift"] (spM K w6 4):=
 miD ["_law_n","_law_room","_law_most","_law_shift","_law_pairs","_law_k","_law_more","_law_notes","_law_j"] Df fun S _ _ _ _ _ _ _ hr=>(sa 4 S.nd (zz zZ) (ze (y2 (Γ2:=[.shr,.own,.shr,.shr,.own,.shr,.own,.own,.dead]) PassesOwn.leaving rfl (yq rfl V.b.range (a1 (ad zc (md (vs 0) (vs 2))))) (by decide) (zT (pgn 5 S.nd)) (by decide) (sa 6 S.nd (md (ml (ad (ml (fd (vs 0) zc) (ad (ml (vs 5) (vs 5)) zc)) (ml zc (vs 5))) zc) zc) (sa 7 S.nd (zz zZ) (ze (y2 (Γ2:=[.shr,.shr,.shr,.shr,.own,.shr,.own,.own,.shr]) PassesOwn.leaving rfl (yq rfl V.b.range (a1 (zU (ZQ (by exact rfl)) JM Kn (by exact rfl) V.b.min PyProof.Rows.boot_min (zb (vs 1) (a1 (ix hr (zz (zb zc (zb zc (zb zc (zb zc (zb zc (zb zc (zb zc (a1 zc))))))))) (md (vo 6) zc))))))) (by decide) (zT (pgn 8 S.nd)) (by decide) (zi (app 7 (zk (cl o9 hr (zb (ad (fd (vo 6) zc) (vs 8)) (zb (ad zc (md (ad (fd (vo 6) zc) (vs 8)) zc)) (a1 (vs 3)))))))) rfl) (sa 1 S.nd (sb (vs 1) (ln V.b (a1 (vo 7)))) (zi (app 4 (zk (zO (zb (cl oz hr (zb (fd (vo 6) zc) (a1 (vs 3)))) (a1 (yr yW vn vd (by exact rfl) V.b.tuple Boot.«tuple» (a1 (vo 7))))))))))))) rfl) (rt (zy (zO (zb (zO (zb zj (a1 (yr yW vn vd (by exact rfl) V.b.tuple Boot.«tuple» (a1 (vo 4)))))) (a1 (vs 1))))))))
def qo:Tn->R Fl:=(zh (zl 2 (eL (fun ds=>.ok (.lst ds)) zf)) (zh (xg (iL vY (z9 (zd zB (eC (.int 1)) (zd zY (za 0) (eC (.int 3)))) zf)) (.one 3) (zh (zl 4 (zd zY (zd yH (zd zB (zd yH (zd zN (za 0) (eC (.int 3))) (zd zB (zd yH (za 3) (za 3)) (eC (.int 1)))) (zd yH (eC (.int 31)) (za 3))) (eC (.int 48271))) (eC (.int 1000003)))) (zh (zl 5 (zR [none,some 1,some 4] (iL vY (z9 (zd zB (eC (.int 1)) (zd zY (zd zN (za 0) (eC (.int 9))) (eC (.int 4)))) zf)) (.one 0) (fun _=>.ok true) (eL yk (z9 (zd zN (za 2) (zd zB (za 0) (eC (.int 1)))) (z9 (zd zY (zd zN (za 2) (zd zB (zd yH (eC (.int 7)) (za 0)) (eC (.int 5)))) (eC (.int 4))) (z9 (za 1) zf)))))) (xy 2 (eL xE (z9 (za 5) zf)))))) (zx (eL (fun ds=>.ok (.tup ds)) (z9 (eC (.str "table")) (z9 (eL xE (z9 (za 2) zf)) zf))))))
def xP:List D->R D:=zF 6 qo
def Zo (Df:DefIn K mg "_law_table" (top 80) ["_law_n","_law_shift"])(V:En K mg)(o9:Own P w K mg base "_law_words" 3 ["_law_n","_law_many","_law_shift"] (spM K yk 3)):Own P w K mg base "_law_table" 4 ["_law_n","_law_shift"] (spM K xP 2):=
 miD ["_law_n","_law_shift","_law_rows","_law_k","_law_more","_law_cells"] Df fun S _ _ _ _ _ _ _ hr=>(sa 2 S.nd (zz zZ) (ze (y2 (Γ2:=[.shr,.shr,.own,.shr,.own,.own]) PassesOwn.leaving rfl (yq rfl V.b.range (a1 (ad zc (md (vs 0) zc)))) (by decide) (zT (pgn 3 S.nd)) (by decide) (sa 4 S.nd (md (ml (ad (ml (fd (vs 0) zc) (ad (ml (vs 3) (vs 3)) zc)) (ml zc (vs 3))) zc) zc) (ze (stC 5 (N':=["_law_j","_law_shift","_law_more"]) (fr:=[none,some 1,some 4]) S.nd rfl (xk S.nofree (by decide +kernel)) (yq rfl V.b.range (a1 (ad zc (md (fd (vs 0) zc) zc)))) (fun _ _ _ _=>(zT (pgn 0 (show List.Nodup (["_law_j","_law_shift","_law_more"]:List Str) from by decide +kernel)))) (fun _ _ _ _=>xh) (fun _ _ _ _=>(cl o9 hr (zb (fd (mn 2 .brw) (ad (vs 0) zc)) (zb (md (fd (mn 2 .brw) (ad (ml zc (vs 0)) zc)) zc) (a1 (vs 1)))))) (by decide)) (zi (app 2 (zk (yr yW vn vd (by exact rfl) V.b.tuple Boot.«tuple» (a1 (vo 5)))))))) rfl) (rt (zO (zb zj (a1 (yr yW vn vd (by exact rfl) V.b.tuple Boot.«tuple» (a1 (vo 2)))))))))
def qk:Tn->R Fl:=(zh (zl 3 (zd zY (za 0) (eC (.int 8)))) (zh (sIf (zm (zd (eqR false) (za 3) (eC (.int 5)))) (zx (y4 (eL (fun ds=>.ok (.tup ds)) (z9 (eL (fun ds=>.ok (.tup ds)) (z9 (eC (.str "head")) (z9 (eL yk (z9 (zd zN (za 0) (eC (.int 8))) (z9 (zd zB (eC (.int 1)) (zd zY (zd zN (za 0) (eC (.int 8))) (eC (.int 4)))) (z9 (za 2) zf)))) zf))) (z9 (za 1) zf))))) zH) (zh (sIf (zm (zd (eqR false) (za 3) (eC (.int 6)))) (zx (y4 (eL (fun ds=>.ok (.tup ds)) (z9 (eL xP (z9 (zd zN (za 0) (eC (.int 8))) (z9 (za 2) zf))) (z9 (za 1) zf))))) zH) (zh (sIf (zm (zd (eqR false) (za 3) (eC (.int 7)))) (zx (y4 (eL (fun ds=>.ok (.tup ds)) (z9 (eL (fun ds=>.ok (.tup ds)) (z9 (eC (.str "leaf")) zf)) (z9 (za 1) zf))))) zH) (zx (eL w6 (z9 (zd zN (za 0) (eC (.int 8))) (z9 (za 1) (z9 (zd ixD (eL (fun ds=>.ok (.lst ds)) (z9 (eC (.int 4)) (z9 (eC (.int 6)) (z9 (eC (.int 10)) (z9 (eC (.int 14)) (z9 (eC (.int 6)) zf)))))) (za 3)) (z9 (za 2) zf))))))))))
def xN:List D->R D:=zF 4 qk
def Zt (Df:DefIn K mg "_law_block" (top 81) ["_law_n","_law_room","_law_shift"])(V:En K mg)(o2h:Own P w K mg base "_law_text" 4 ["_law_n","_law_room","_law_most","_law_shift"] (spM K w6 4))(o2d:Own P w K mg base "_law_table" 4 ["_law_n","_law_shift"] (spM K xP 2))(o9:Own P w K mg base "_law_words" 3 ["_law_n","_law_many","_law_shift"] (spM K yk 3)):Own P w K mg base "_law_block" 5 ["_law_n","_law_room","_law_shift"] (spM K xN 3):=
 miD ["_law_n","_law_room","_law_shift","_law_way"] Df fun S _ _ _ _ _ _ _ hr=>(sa 3 S.nd (md (vs 0) zc) (ze (zJ (te hr (vo 3) zc) (rt (zy (zO (zb (zO (zb zj (a1 (cl o9 hr (zb (fd (vs 0) zc) (zb (ad zc (md (fd (vs 0) zc) zc)) (a1 (vs 2)))))))) (a1 (vs 1)))))) zo) (ze (zJ (te hr (vo 3) zc) (rt (zy (zO (zb (cl o2d hr (zb (fd (vs 0) zc) (a1 (vs 2)))) (a1 (vs 1)))))) zo) (ze (zJ (te hr (vo 3) zc) (rt (zy (zO (zb (zO (a1 zj)) (a1 (vs 1)))))) zo) (rt (cl o2h hr (zb (fd (vs 0) zc) (zb (vs 1) (zb (ix hr (zz (zb zc (zb zc (zb zc (zb zc (a1 zc)))))) (vo 3)) (a1 (vs 2)))))))))))
def uC:Tn->R Fl:=(zh (zl 4 (eL (fun ds=>.ok (.lst ds)) zf)) (zh (zl 5 (eC (.int 5))) (zh (sIf (zm (zd (eqR false) (zd zY (zd zN (eL zD (z9 (za 0) (z9 (za 1) zf))) (eC (.int 16))) (eC (.int 6))) (eC (.int 1)))) (zl 5 (eC (.int 14))) zH) (zh (xg (iL vY (z9 (zd zY (eL zD (z9 (za 0) (z9 (za 1) zf))) (zd zB (za 2) (eC (.int 1)))) zf)) (.one 6) (zh (Jw (.many [7,5]) (eL xN (z9 (zd zY (zd yH (zd zB (eL zD (z9 (za 0) (z9 (zd zB (zd zB (za 1) (eC (.int 1))) (za 6)) zf))) (zd yH (eC (.int 11)) (za 6))) (eC (.int 16807))) (eC (.int 2147483647))) (z9 (za 5) (z9 (za 3) zf))))) (xy 4 (y4 (za 7))))) (zx (za 4))))))
def xm:List D->R D:=zF 8 uC
def Z8 (Df:DefIn K mg "_law_blocks" (top 82) ["_law_script","_law_first","_law_most","_law_shift"])(V:En K mg)(o2e:Own P w K mg base "_law_block" 5 ["_law_n","_law_room","_law_shift"] (spM K xN 3))(o7:Own P w K mg base "_law_cell_at" 1 ["_law_script","_law_k"] (spM K zD 2)):Own P w K mg base "_law_blocks" 6 ["_law_script","_law_first","_law_most","_law_shift"] (spM K xm 4):=
 miD ["_law_script","_law_first","_law_most","_law_shift","_law_found","_law_room","_law_k","_law_block_here"] Df fun S _ _ _ _ _ _ _ hr=>(sa 4 S.nd (zz zZ) (sa 5 S.nd zc (ze (zJ (te hr (md (fd (cl o7 hr (zb (vs 0) (a1 (vs 1)))) zc) zc) zc) (zi (L2.st 5 S.nd (zk zc))) zo) (ze (vz (Γ1:=[.shr,.shr,.shr,.shr,.own,.shr,.dead,.dead]) (y2 (Γ2:=[.shr,.shr,.shr,.shr,.own,.shr,.shr,.shr]) PassesOwn.leaving rfl (yq rfl V.b.range (a1 (md (cl o7 hr (zb (vs 0) (a1 (vs 1)))) (ad (vs 2) zc)))) (by decide) (zT (pgn 6 S.nd)) (by decide) (ze (Kb (cl o2e hr (zb (md (ml (ad (cl o7 hr (zb (vs 0) (a1 (ad (ad (vs 1) zc) (vs 6))))) (ml zc (vs 6))) zc) zc) (zb (vs 5) (a1 (vs 3))))) (by decide) (yi rfl (zu (pgn 7 S.nd) (zu (pgn 5 S.nd) ym))) (by decide)) (zi (app 4 (zk (zy (vs 7)))))) rfl) rfl) (zi (y6 (mvn 4)))))))
def je:Tn->R Fl:=(zh (zl 1 (zd ixD (eL (fun ds=>.ok (.lst ds)) (z9 (eC (.int 1)) (z9 (eC (.int 1)) (z9 (eC (.int 1)) (z9 (eC (.int 2)) (z9 (eC (.int 3)) (z9 (eC (.int 1)) zf))))))) (zd zY (za 0) (eC (.int 6))))) (zh (zl 2 (eC (.str "!\"'(),-./0123456789:;?ABCDEFGHIJKLMNOPQRSTUVWXYZabcdefghijklmnopqrstuvwxyz"))) (zh (zl 3 (eL (fun ds=>.ok (.lst ds)) zf)) (zh (sIf (zm (zd (eqR false) (zd zY (zd zN (za 0) (eC (.int 6))) (eC (.int 3))) (eC (.int 1)))) (zh (zl 4 (zd zB (eC (.int 1)) (zd zY (zd zN (za 0) (eC (.int 18))) (eC (.int 9))))) (zh (zl 5 (zd ixD (eL (fun ds=>.ok (.lst ds)) (z9 (eC (.int 3)) (z9 (eC (.int 3)) (z9 (eC (.int 20)) zf)))) (zd zY (zd zN (za 0) (eC (.int 4374))) (eC (.int 3))))) (zl 3 (zR [none,some 2,some 5,some 0,some 4] (iL vY (z9 (eC (.int 74)) zf)) (.one 0) (zm (zd (eqR false) (zd zY (za 0) (za 4)) (zd zY (zd zN (za 3) (eC (.int 486))) (za 4)))) (y4 (eL (fun ds=>.ok (.tup ds)) (z9 (zd ixD (za 1) (za 0)) (z9 (zd zB (eC (.int 1)) (zd zY (zd zB (zd zN (za 3) (eC (.int 162))) (zd yH (eC (.int 5)) (za 0))) (za 2))) zf)))))))) zH) (zh (zl 6 (zd zB (eC (.int 1)) (zd zY (zd zN (za 0) (eC (.int 18))) (eC (.int 3))))) (zh (sIf (zm (zd (eqR false) (zd zY (zd zN (za 0) (eC (.int 54))) (eC (.int 8))) (eC (.int 1)))) (zl 6 (zd zB (eC (.int 4)) (zd zY (zd zN (za 0) (eC (.int 432))) (eC (.int 17))))) zH) (zx (y4 (eL (fun ds=>.ok (.tup ds)) (z9 (za 1) (z9 (za 6) (z9 (eL xE (z9 (za 3) zf)) zf))))))))))))
def w8:List D->R D:=zF 7 je
def Xo (Df:DefIn K mg "_law_face" (top 83) ["_law_cell"])(V:En K mg) :Own P w K mg base "_law_face" 1 ["_law_cell"] (spM K w8 1):=
 miD ["_law_cell","_law_plain","_law_signs","_law_odd","_law_step","_law_most","_law_blank"] Df fun S _ _ _ _ _ _ _ hr=>(sa 1 S.nd (ix hr (zz (zb zc (zb zc (zb zc (zb zc (zb zc (a1 zc))))))) (md (vs 0) zc)) (sa 2 S.nd zj (sa 3 S.nd (zz zZ) (ze (zJ (te hr (md (fd (vs 0) zc) zc) zc) (Kk (Γ':=[.shr,.own,.own,.own,.dead,.dead,.dead]) (sa 4 S.nd (ad zc (md (fd (vs 0) zc) zc)) (sa 5 S.nd (ix hr (zz (zb zc (zb zc (a1 zc)))) (md (fd (vs 0) zc) zc)) (zi (stC 3 (N':=["_law_k","_law_signs","_law_most","_law_cell","_law_step"]) (fr:=[none,some 2,some 5,some 0,some 4]) S.nd rfl (xk S.nofree (by decide +kernel)) (yq rfl V.b.range (a1 zc)) (fun _ _ _ _=>(zT (pgn 0 (show List.Nodup (["_law_k","_law_signs","_law_most","_law_cell","_law_step"]:List Str) from by decide +kernel)))) (fun _ _ _ _=>(qF (te hr (md (vs 0) (mn 4 .brw)) (md (fd (vs 3) zc) (mn 4 .brw))))) (fun _ _ _ _=>(zy (zO (zb (ix hr (mn 1 .brw) (vs 0)) (a1 (ad zc (md (ad (fd (vs 3) zc) (ml zc (vs 0))) (mn 2 .brw)))))))) (by decide))))) rfl) zo) (sa 6 S.nd (ad zc (md (fd (vs 0) zc) zc)) (ze (zJ (te hr (md (fd (vs 0) zc) zc) zc) (zi (L2.st 6 S.nd (zk (ad zc (md (fd (vs 0) zc) zc))))) zo) (rt (zy (zO (zb (vo 1) (zb (vo 6) (a1 (yr yW vn vd (by exact rfl) V.b.tuple Boot.«tuple» (a1 (vo 3)))))))))))))))
def uJ:Tn->R Fl:=(zh (zl 2 (eL (fun ds=>.ok (.lst ds)) zf)) (zh (zl 3 (zd zY (za 0) (eC (.int 13)))) (zh (sIf (zm (zd (eqR false) (zd zY (zd zN (za 0) (eC (.int 13))) (eC (.int 8))) (eC (.int 1)))) (zl 3 (zd zB (eC (.int 13)) (zd zY (zd zN (za 0) (eC (.int 104))) (eC (.int 9))))) zH) (zh (xg (iL vY (z9 (za 3) zf)) (.one 4) (zh (zl 5 (zd zY (zd yH (zd zB (zd zB (zd yH (zd zN (za 0) (eC (.int 13))) (zd zB (zd yH (za 4) (za 4)) (eC (.int 1)))) (zd yH (eC (.int 7919)) (za 4))) (eC (.int 1))) (eC (.int 16807))) (eC (.int 1000003)))) (zh (zl 6 (eSm v9 (eC (.str "")) (z9 (zR [none,some 1,some 5] (iL vY (z9 (zd zB (eC (.int 2)) (zd zY (zd zN (za 5) (eC (.int 125))) (eC (.int 2)))) zf)) (.one 0) (fun _=>.ok true) (eL yE (z9 (zd zN (za 2) (zd ixD (eL (fun ds=>.ok (.lst ds)) (z9 (eC (.int 1)) (z9 (eC (.int 5)) (z9 (eC (.int 25)) zf)))) (za 0))) (z9 (za 1) zf)))) zf))) (zh (zl 7 (zd zB (eC (.int 1)) (zd zY (zd zN (za 5) (eC (.int 250))) (zd wN (eL yC (z9 (za 6) zf)) (eC (.int 1)))))) (zh (zl 8 (zd zB (zd zB (eSl (za 6) qc (yY (za 7))) (zd ixD (eL (fun ds=>.ok (.lst ds)) (z9 (eC (.str "-")) (z9 (eC (.str "-")) (z9 (eC (.str "-")) (z9 (eC (.str "=")) zf))))) (zd zY (zd zN (za 5) (eC (.int 500))) (eC (.int 4))))) (eSl (za 6) (yY (za 7)) qc))) (sIf (zm (zd (eqR false) (zR [none,some 8] (yt (za 2)) (.one 0) (zm (zd (eqR false) (eUn (Y8 "=" "-") (za 0)) (eUn (Y8 "=" "-") (za 1)))) (y4 (za 0))) (eL (fun ds=>.ok (.lst ds)) zf))) (xy 2 (y4 (za 8))) zH)))))) (zx (za 2))))))
def xo:List D->R D:=zF 9 uJ
def sc__law_joints:FnScope ["_law_cell","_law_shift","_law_found","_law_many","_law_k","_law_n","_law_letters","_law_at","_law_joint"] ["_law_cell","_law_shift"] (defScope (top 84)):=by constructor<;>first|rfl|decide +kernel
def Z1 (Df:DefIn K mg "_law_joints" (top 84) ["_law_cell","_law_shift"])(V:En K mg)(oq:Own P w K mg base "_law_letter" 1 ["_law_n","_law_shift"] (spM K yE 2)):Own P w K mg base "_law_joints" 2 ["_law_cell","_law_shift"] (spM K xo 2):=
 Df.mirT (k:=1) (Γ':=[.shr,.shr,.dead,.dead,.dead,.dead,.dead,.dead,.dead]) sc__law_joints (by decide) ⟨_,_,rfl,rfl⟩ fun f cdv A outer s H E hr=>(xZ (MS.tt (L2.st 2 sc__law_joints.nd (zk (zz zZ)))) (xZ (MS.tt (L2.st 3 sc__law_joints.nd (zk (md (vs 0) zc)))) (xZ (MS.tt (zJ (te hr (md (fd (vs 0) zc) zc) zc) (zi (L2.st 3 sc__law_joints.nd (zk (ad zc (md (fd (vs 0) zc) zc))))) zo)) (xZ (Ks (Γ2:=[.shr,.shr,.own,.own,.shr,.own,.own,.own,.own]) PassesOwn.leaving rfl (yq rfl V.b.range (a1 (vo 3))) (by decide) (zT (pgn 4 sc__law_joints.nd)) (by decide) (xZ (MS.tt (L2.st 5 sc__law_joints.nd (zk (md (ml (ad (ad (ml (fd (vs 0) zc) (ad (ml (vs 4) (vs 4)) zc)) (ml zc (vs 4))) zc) zc) zc)))) (xZ (MS.tt (L2.st 6 sc__law_joints.nd (zk (Yn jQs jQu jQv qu YC X5 zj (a1 (cm1 ["_law_j","_law_shift","_law_n"] sc__law_joints.nofree (yq rfl V.b.range (a1 (ad zc (md (fd (vo 5) zc) zc)))) (fun _ _ _ _=>(cl oq hr (zb (fd (mn 2 .brw) (ix hr (zz (zb zc (zb zc (a1 zc)))) (vs 0))) (a1 (vs 1))))))))))) (xZ (MS.tt (L2.st 7 sc__law_joints.nd (zk (ad zc (md (fd (vo 5) zc) (sb (ln V.b (a1 (vo 6))) zc)))))) (xZ (MS.tt (L2.st 8 sc__law_joints.nd (zk (ad (ad (vp (vo 6) vA (yb (vo 7))) (ix hr (zz (zb zj (zb zj (zb zj (a1 zj))))) (md (fd (vo 5) zc) zc))) (vp (vo 6) (yb (vo 7)) vA))))) (Xn (z3U (U8 (v8 hr.u12) Zi kJ (JI (N':=["_law_one","_law_joint"]) (fr:=[none,some 8]) rfl (xk sc__law_joints.nofree (by decide +kernel)) (zE (vo 2)) (fun _ _ _ _=>(zT (pgn 0 (show List.Nodup (["_law_one","_law_joint"]:List Str) from by decide +kernel)))) (fun _ _ _ _=>(Jg (U8 (v8 hr.u12) Zi kJ (qM (ME.p (mn 0 .brw)) (by decide) (by decide)) (qM (ME.p (mn 1 .brw)) (by decide) (by decide)) (zI _)))) (fun _ _ _ _=>(zy (mn 0 .brw))) (by decide) (by decide)) (ME.p (zz zZ)) (zI _)) (Xn (MS.tt (app 2 (zk (zy (vo 8)))))) (MSs.tt zo))))))) rfl) (Xn (MS.tt (y6 (mvn 2))))))))
def qq:Tn->R Fl:=(zh (zl 3 (eL (fun ds=>.ok (.dic [.inr "width",.inr "height",.inr "part"] ds)) (z9 (zd yH (zd zB (eC (.int 8)) (zd zY (za 0) (eC (.int 25)))) (za 2)) (z9 (zd zB (eC (.int 4)) (zd zY (zd zN (za 0) (eC (.int 25))) (eC (.int 9)))) (z9 (zd ixD (eL (fun ds=>.ok (.lst ds)) (z9 (eC (.int 20)) (z9 (eC (.int 0)) (z9 (eC (.int 7)) (z9 (eC (.int 100)) zf))))) (zd zY (za 1) (eC (.int 4)))) zf))))) (zh (wd 3 (zd ixD (eL (fun ds=>.ok (.lst ds)) (z9 (eC (.int 30)) (z9 (eC (.int 0)) (z9 (eC (.int 9)) (z9 (eC (.int 500)) zf))))) (zd zY (zd zN (za 1) (eC (.int 4))) (eC (.int 4)))) (eC (.str "twin"))) (zh (wd 3 (zd zB (eC (.int 1)) (zd zY (zd zN (za 1) (eC (.int 16))) (eC (.int 40)))) (eC (.str "over"))) (zh (wd 3 (zd ixD (eL (fun ds=>.ok (.lst ds)) (z9 (eC (.int 9)) (z9 (eC (.int 0)) (z9 (eC (.int 40)) (z9 (eC (.int 3)) zf))))) (zd zY (zd zN (za 1) (eC (.int 640))) (eC (.int 4)))) (eC (.str "lone"))) (zh (wd 3 (zd ixD (eL (fun ds=>.ok (.lst ds)) (z9 (eC (.int 5)) (z9 (eC (.int 0)) (z9 (eC (.int 30)) (z9 (eC (.int 1)) zf))))) (zd zY (zd zN (za 1) (eC (.int 2560))) (eC (.int 4)))) (eC (.str "late"))) (zh (wd 3 (zd ixD (eL (fun ds=>.ok (.lst ds)) (z9 (eC (.int 1)) (z9 (eC (.int 0)) (z9 (eC (.int 2)) (z9 (eC (.int 1)) zf))))) (zd zY (zd zN (za 0) (eC (.int 225))) (eC (.int 4)))) (eC (.str "gap"))) (zh (wd 3 (zd zB (eC (.int 1)) (zd zY (zd zN (za 0) (eC (.int 900))) (eC (.int 3)))) (eC (.str "ahead"))) (zh (wd 3 (zd zB (eC (.int 1)) (zd zY (zd zN (za 0) (eC (.int 2700))) (eC (.int 3)))) (eC (.str "behind"))) (zh (sIf (zm (zd (eqR false) (zd zY (zd zN (za 0) (eC (.int 8100))) (eC (.int 6))) (eC (.int 1)))) (zh (wd 3 (zd zB (eC (.int 60)) (zd zY (za 0) (eC (.int 200)))) (eC (.str "width"))) (wd 3 (zd zY (zd zN (za 0) (eC (.int 225))) (eC (.int 6))) (eC (.str "gap")))) zH) (zh (sIf (zm (zd (eqR false) (zd zY (zd zN (za 1) (eC (.int 3))) (eC (.int 8))) (eC (.int 1)))) (wd 3 (eC (.int 100000)) (zd ixD (eL (fun ds=>.ok (.lst ds)) (z9 (eC (.str "part")) (z9 (eC (.str "twin")) (z9 (eC (.str "over")) (z9 (eC (.str "lone")) (z9 (eC (.str "late")) zf)))))) (zd zY (zd zN (za 1) (eC (.int 24))) (eC (.int 5))))) zH) (zx (za 3))))))))))))
def xK:List D->R D:=zF 4 qq
def ZD (Df:DefIn K mg "_law_rules" (top 85) ["_law_first","_law_second","_law_plain"])(V:En K mg) :Own P w K mg base "_law_rules" 1 ["_law_first","_law_second","_law_plain"] (spM K xK 3):=
 miD ["_law_first","_law_second","_law_plain","_law_rules_here"] Df fun S _ _ _ _ _ _ _ hr=>(sa 3 S.nd (VT (xH (key:=.inr "width") xX (ml (ad zc (md (vs 0) zc)) (vs 2)) (xH (key:=.inr "height") xX (ad zc (md (fd (vs 0) zc) zc)) (xH (key:=.inr "part") xX (ix hr (zz (zb zc (zb zc (zb zc (a1 zc))))) (md (vs 1) zc)) U4))) (by decide)) (ze (jR 3 hr.u1 (zk (ix hr (zz (zb zc (zb zc (zb zc (a1 zc))))) (md (fd (vs 1) zc) zc))) zj) (ze (jR 3 hr.u1 (zk (ad zc (md (fd (vs 1) zc) zc))) zj) (ze (jR 3 hr.u1 (zk (ix hr (zz (zb zc (zb zc (zb zc (a1 zc))))) (md (fd (vs 1) zc) zc))) zj) (ze (jR 3 hr.u1 (zk (ix hr (zz (zb zc (zb zc (zb zc (a1 zc))))) (md (fd (vs 1) zc) zc))) zj) (ze (jR 3 hr.u1 (zk (ix hr (zz (zb zc (zb zc (zb zc (a1 zc))))) (md (fd (vs 0) zc) zc))) zj) (ze (jR 3 hr.u1 (zk (ad zc (md (fd (vs 0) zc) zc))) zj) (ze (jR 3 hr.u1 (zk (ad zc (md (fd (vs 0) zc) zc))) zj) (ze (zJ (te hr (md (fd (vs 0) zc) zc) zc) (ze (jR 3 hr.u1 (zk (ad zc (md (vs 0) zc))) zj) (zi (jR 3 hr.u1 (zk (md (fd (vs 0) zc) zc)) zj))) zo) (ze (zJ (te hr (md (fd (vs 1) zc) zc) zc) (zi (jR 3 hr.u1 (zk zc) (ix hr (zz (zb zj (zb zj (zb zj (zb zj (a1 zj)))))) (md (fd (vs 1) zc) zc)))) zo) (zi (y6 (mvn 3)))))))))))))
def vi:Tn->R Fl:=(zh (zl 5 (eL ye (z9 (za 0) (z9 (za 1) (z9 (za 2) (z9 (za 3) zf)))))) (zh (zl 6 (eL yJ (z9 (za 0) (z9 (za 2) zf)))) (zh (zl 7 (eL (fun ds=>.ok (.lst ds)) zf)) (zh (zl 8 (eC (.int 0))) (zh (zl 9 (eC (.int 0))) (zh (xg (yt (eL x8 (z9 (za 5) (z9 (za 6) zf)))) (.one 10) (zh (zl 11 (eC (.int 0))) (zh (xg (yt (eSl (za 5) (yY (za 8)) (yY (za 10)))) (.one 12) (sIf (zm (zd (eqR false) (zd ixD (za 12) (eC (.int 2))) (eC (.str "blank")))) (zh (zl 11 (zd zB (za 11) (zd ixD (za 4) (za 9)))) (zl 9 (zd zB (za 9) (eC (.int 1))))) zH)) (zh (xy 7 (eL (fun ds=>.ok (.tup ds)) (z9 (eC (.int 1)) (z9 (zR [none,none] (yt (eL yV (z9 (za 5) (z9 (za 6) (z9 (za 8) (z9 (za 10) zf)))))) (.many [0,1]) (fun _=>.ok true) (eL (fun ds=>.ok (.tup ds)) (z9 (eC (.int 0)) (z9 (y4 (za 0)) (z9 (y4 (za 1)) zf))))) (z9 (y4 (za 11)) zf))))) (zl 8 (za 10)))))) (zx (za 7))))))))
def zS:List D->R D:=zF 13 vi
def qG (Df:DefIn K mg "_law_line_rows" (top 86) ["_law_face_here","_law_book","_law_rules_here","_law_pairs","_law_marks"])(V:En K mg)(oh:Own P w K mg base "pieces_of" 8 ["face","book","rules","pairs"] (spM K ye 4))(oj:Own P w K mg base "lay_of" 2 ["face","rules"] (spM K yJ 2))(ow:Own P w K mg base "broken" 6 ["pieces","lay"] (spM K x8 2))(o1b:Own P w K mg base "spread" 5 ["pieces","lay","begin","end"] (spM K yV 4)):Own P w K mg base "_law_line_rows" 9 ["_law_face_here","_law_book","_law_rules_here","_law_pairs","_law_marks"] (spM K zS 5):=
 miD ["_law_face_here","_law_book","_law_rules_here","_law_pairs","_law_marks","_law_pieces","_law_lay","_law_rows","_law_begin","_law_at","_law_end","_law_many","_law_piece"] Df fun S _ _ _ _ _ _ _ hr=>(sa 5 S.nd (cl oh hr (zb (vs 0) (zb (vs 1) (zb (vs 2) (a1 (vs 3)))))) (sa 6 S.nd (cl oj hr (zb (vs 0) (a1 (vs 2)))) (sa 7 S.nd (zz zZ) (sa 8 S.nd zc (sa 9 S.nd zc (ze (vz (Γ1:=[.shr,.shr,.shr,.shr,.shr,.own,.own,.own,.shr,.own,.dead,.dead,.dead]) (y2 (Γ2:=[.shr,.shr,.shr,.shr,.shr,.own,.own,.own,.shr,.own,.shr,.own,.dead]) PassesOwn.leaving rfl (zE (cl ow hr (zb (vo 5) (a1 (vo 6))))) (by decide) (zT (pgn 10 S.nd)) (by decide) (sa 11 S.nd zc (ze (y2 (Γ2:=[.shr,.shr,.shr,.shr,.shr,.own,.own,.own,.shr,.own,.shr,.own,.shr]) PassesOwn.leaving rfl (zE (vp (vo 5) (yb (vs 8)) (yb (vs 10)))) (by decide) (zT (pgn 12 S.nd)) (by decide) (zi (zJ (te hr (ix hr (vs 12) zc) zj) (sa 11 S.nd (ad (vo 11) (ix hr (vs 4) (vo 9))) (zi (L2.st 9 S.nd (zk (ad (vo 9) zc))))) zo)) rfl) (ze (app 7 (zk (zO (zb zc (zb (wg (N':=["_law_left","_law_text_here"]) (fr:=[none,none]) rfl (xk S.nofree (by decide +kernel)) (zE (cl o1b hr (zb (vo 5) (zb (vo 6) (zb (vs 8) (a1 (vs 10))))))) (fun _ _ _ _=>(yi rfl (zu (pgn 0 (show List.Nodup (["_law_left","_law_text_here"]:List Str) from by decide +kernel)) (zu (pgn 1 (show List.Nodup (["_law_left","_law_text_here"]:List Str) from by decide +kernel)) ym)))) (fun _ _ _ _=>xh) (fun _ _ _ _=>(zO (zb zc (zb (zy (vs 0)) (a1 (zy (vs 1))))))) (by decide) (by decide)) (a1 (zy (vo 11)))))))) (zi (stS 8 S.nd (vs 10)))))) rfl) rfl) (zi (y6 (mvn 7)))))))))
def xO:Tn->R Fl:=(zh (Yo "TooWide" 3 1 xQ (z9 (za 0) (z9 (za 1) (z9 (za 2) zf)))) (zh (zl 4 (eL (fun ds=>.ok (.lst ds)) zf)) (zh (xg (yt (za 2)) (.one 5) (zh (VC 6 7 (eL xv (z9 (za 0) (z9 (za 5) (z9 (za 3) zf))))) (xy 4 (eL (fun ds=>.ok (.tup ds)) (z9 (y4 (za 6)) (z9 (za 7) (z9 (eC (.int 0)) zf))))))) (zx (za 4)))))
def zM:List D->R D:=zF 8 xO
def uQ (Df:DefIn K mg "_law_table_rows" (top 87) ["_law_face_here","_law_rules_here","_law_table_here"])(V:En K mg)(o0g:Own P w K mg base "set_row" 4 ["face","row","widths"] (spM K xv 3))(o0f:Own P w K mg base "columns" 4 ["face","rules","table"] (spM K xQ 3)):Own P w K mg base "_law_table_rows" 5 ["_law_face_here","_law_rules_here","_law_table_here"] (spM K zM 3):=
 miD ["_law_face_here","_law_rules_here","_law_table_here","_law_widths","_law_rows","_law_row","_law_height","_law_spots"] Df fun S _ _ _ _ _ _ _ hr=>(ze (z0O 3 (o0f.mono (by decide)) S.nd hr rfl (zb (vs 0) (zb (vs 1) (a1 (vs 2)))) rfl V.c.x_TooWide rfl (by decide) (Or.inl rfl)) (sa 4 S.nd (zz zZ) (ze (y2 (Γ2:=[.shr,.shr,.shr,.shr,.own,.shr,.own,.dead]) PassesOwn.leaving rfl (zE (vs 2)) (by decide) (zT (pgn 5 S.nd)) (by decide) (ze (z0g 6 7 (cl o0g hr (zb (vs 0) (zb (vs 5) (a1 (vs 3))))) (yi rfl (zu (pgn 6 S.nd) (zu (pgn 7 S.nd) ym))) (by decide) (by decide)) (zi (app 4 (qX (yu (zk (zy (vo 6))) (yu (mvn 7) (yu (zk zc) uh))))))) rfl) (zi (y6 (mvn 4))))))
def vT:Tn->R Fl:=(Yg "TooWide" yy (z9 (za 0) (z9 (za 1) (z9 (za 2) (z9 (za 3) (z9 (za 4) zf))))))
def yp:List D->R D:=zF 5 vT
def YF (Df:DefIn K mg "_law_told" (top 88) ["_law_face_here","_law_book","_law_rules_here","_law_block_here","_law_pairs"])(V:En K mg)(o4h:Own P w K mg base "rows_of" 9 ["face","book","rules","block","pairs"] (spM K yy 5)):Own P w K mg base "_law_told" 10 ["_law_face_here","_law_book","_law_rules_here","_law_block_here","_law_pairs"] (spM K yp 5):=
 miD ["_law_face_here","_law_book","_law_rules_here","_law_block_here","_law_pairs"] Df fun S _ _ _ _ _ _ _ hr=>(zi (KN (o4h.mono (by decide)) S.nd hr rfl (zb (vs 0) (zb (vs 1) (zb (vs 2) (zb (vs 3) (a1 (vs 4)))))) rfl V.c.x_TooWide))
def uO:Tn->R Fl:=(zh (sIf (zm (zd (eqR false) (zd ixD (za 3) (eC (.int 0))) (eC (.str "leaf")))) (zx (eL (fun ds=>.ok (.lst ds)) zf)) zH) (zh (sIf (zm (zd (eqR false) (zd ixD (za 3) (eC (.int 0))) (eC (.str "table")))) (zx (eL zM (z9 (za 0) (z9 (za 2) (z9 (zd ixD (za 3) (eC (.int 1))) zf))))) zH) (zh (zl 5 (zR [none] (yt (zd ixD (za 3) (eC (.int 1)))) (.one 0) (fun _=>.ok true) (eC (.int 0)))) (zh (sIf (zm (zd (eqR false) (zd ixD (za 3) (eC (.int 0))) (eC (.str "text")))) (zl 5 (zR [none,none] (yt (zd ixD (za 3) (eC (.int 1)))) (.many [0,1]) (fun _=>.ok true) (eL yC (z9 (za 1) zf)))) zH) (zx (eL zS (z9 (za 0) (z9 (za 1) (z9 (za 2) (z9 (za 4) (z9 (za 5) zf)))))))))))
def yF:List D->R D:=zF 6 uO
def WA (Df:DefIn K mg "_law_due" (top 89) ["_law_face_here","_law_book","_law_rules_here","_law_block_here","_law_pairs"])(V:En K mg)(og:Own P w K mg base "_law_line_rows" 9 ["_law_face_here","_law_book","_law_rules_here","_law_pairs","_law_marks"] (spM K zS 5))(o0b:Own P w K mg base "_law_table_rows" 5 ["_law_face_here","_law_rules_here","_law_table_here"] (spM K zM 3)):Own P w K mg base "_law_due" 10 ["_law_face_here","_law_book","_law_rules_here","_law_block_here","_law_pairs"] (spM K yF 5):=
 miD ["_law_face_here","_law_book","_law_rules_here","_law_block_here","_law_pairs","_law_marks"] Df fun S _ _ _ _ _ _ _ hr=>(ze (zJ (te hr (ix hr (vs 3) zc) zj) (rt (zz zZ)) zo) (ze (zJ (te hr (ix hr (vs 3) zc) zj) (rt (cl o0b hr (zb (vs 0) (zb (vs 2) (a1 (ix hr (vs 3) zc)))))) zo) (ze (stC 5 (N':=["_law_word_here"]) (fr:=[none]) S.nd rfl (xk S.nofree (by decide +kernel)) (zE (ix hr (vs 3) zc)) (fun _ _ _ _=>(zT (pgn 0 (show List.Nodup (["_law_word_here"]:List Str) from by decide +kernel)))) (fun _ _ _ _=>xh) (fun _ _ _ _=>zc) (by decide)) (ze (zJ (te hr (ix hr (vs 3) zc) zj) (zi (stC 5 (N':=["_law_word_here","_law_own"]) (fr:=[none,none]) S.nd rfl (xk S.nofree (by decide +kernel)) (zE (ix hr (vs 3) zc)) (fun _ _ _ _=>(yi rfl (zu (pgn 0 (show List.Nodup (["_law_word_here","_law_own"]:List Str) from by decide +kernel)) (zu (pgn 1 (show List.Nodup (["_law_word_here","_law_own"]:List Str) from by decide +kernel)) ym)))) (fun _ _ _ _=>xh) (fun _ _ _ _=>(ln V.b (a1 (vs 1)))) (by decide))) zo) (rt (cl og hr (zb (vs 0) (zb (vs 1) (zb (vs 2) (zb (vs 4) (a1 (vo 5))))))))))))
def qD:Tn->R Fl:=(zh (sIf (bOr (qd (zm (eUn (qw "list") (za 0)))) (zm (zd (eqR true) (za 0) (za 1)))) (zx (eC (.bl false))) zH) (zh (xg (yt (za 0)) (.one 2) (zh (sIf (bOr (qd (zm (eUn (qw "tuple") (za 2)))) (bOr (zm (zd (eqR true) (eL yC (z9 (za 2) zf)) (eC (.int 3)))) (qd (zm (eUn (qw "list") (zd ixD (za 2) (eC (.int 1)))))))) (zx (eC (.bl false))) zH) (zh (xg (yt (eL (fun ds=>.ok (.lst ds)) (z9 (zd ixD (za 2) (eC (.int 0))) (z9 (zd ixD (za 2) (eC (.int 2))) zf)))) (.one 3) (sIf (bOr (qd (zm (eUn (qw "int") (za 3)))) (zm (eUn (qw "bool") (za 3)))) (zx (eC (.bl false))) zH)) (sIf (qd (zm (eL Zn (z9 (zR [none] (yt (zd ixD (za 2) (eC (.int 1)))) (.one 0) (fun _=>.ok true) (eUn (qw "tuple") (za 0))) zf)))) (zx (eC (.bl false))) zH)))) (zx (eC (.bl true)))))
def yP:List D->R D:=zF 4 qD
def Zs (Df:DefIn K mg "_law_right" (top 90) ["_law_found","_law_due_here"])(V:En K mg) :Own P w K mg base "_law_right" 1 ["_law_found","_law_due_here"] (spM K yP 2):=
 miD ["_law_found","_law_due_here","_law_row","_law_number"] Df fun S _ _ _ _ _ _ _ hr=>(ze (zJ (MW.mt (uB (wI (yx (u0 (T:="list") (by decide) rfl V.b.isinstance (wU (v:=.ty "list") rfl V.b.list Boot.«list» rfl) (vs 0)))) (vx (zW (vX hr.u12) Zi kJ (vs 0) (vs 1) (zI _))))) (rt vm) zo) (ze (y2 (Γ2:=[.shr,.shr,.shr,.dead]) PassesOwn.leaving rfl (zE (vs 0)) (by decide) (zT (pgn 2 S.nd)) (by decide) (ze (zJ (MW.mt (uB (wI (yx (u0 (T:="tuple") (by decide) rfl V.b.isinstance (wU (v:=.ty "tuple") rfl V.b.tuple Boot.«tuple» rfl) (vs 2)))) (uB (zW (vX hr.u12) Zi kJ (ln V.b (a1 (vs 2))) zc (zI _)) (vx (wI (yx (u0 (T:="list") (by decide) rfl V.b.isinstance (wU (v:=.ty "list") rfl V.b.list Boot.«list» rfl) (ix hr (vs 2) zc)))))))) (rt vm) zo) (ze (y2 (Γ2:=[.shr,.shr,.shr,.shr]) PassesOwn.leaving rfl (zE (zz (zb (ix hr (vs 2) zc) (a1 (ix hr (vs 2) zc))))) (by decide) (zT (pgn 3 S.nd)) (by decide) (zi (zJ (MW.mt (uB (wI (yx (u0 (T:="int") (by decide) rfl V.b.isinstance (wU (v:=.ty "int") rfl V.b.int Boot.«int» rfl) (vs 3)))) (vx (yx (u0 (T:="bool") (by decide) rfl V.b.isinstance (wU (v:=.ty "bool") rfl V.b.bool Boot.«bool» rfl) (vs 3)))))) (rt vm) zo)) rfl) (zi (zJ (wI (yx (zU (qN (by exact rfl)) QW K2 (by exact rfl) V.b.all Boot.«all» (a1 (cm1 ["_law_spot"] S.nofree (zE (ix hr (vs 2) zc)) (fun _ _ _ _=>(u0 (T:="tuple") (by decide) rfl V.b.isinstance (wU (v:=.ty "tuple") rfl V.b.tuple Boot.«tuple» rfl) (vs 0)))))))) (rt vm) zo)))) rfl) (rt vm)))
def J6:Tn->R Fl:=(zh (zl 1 (zd zY (eL zD (z9 (za 0) (z9 (eC (.int 0)) zf))) (eC (.int 26)))) (zh (zl 2 (eL w8 (z9 (eL zD (z9 (za 0) (z9 (eC (.int 1)) zf))) zf))) (zh (zl 3 (eL xo (z9 (eL zD (z9 (za 0) (z9 (eC (.int 2)) zf))) (z9 (za 1) zf)))) (zh (zl 4 (eL xK (z9 (eL zD (z9 (za 0) (z9 (eC (.int 3)) zf))) (z9 (eL zD (z9 (za 0) (z9 (eC (.int 4)) zf))) (z9 (zd ixD (za 2) (eC (.int 0))) zf))))) (zh (zl 5 (eL xm (z9 (za 0) (z9 (eC (.int 5)) (z9 (eC (.int 4)) (z9 (za 1) zf)))))) (zh (Jw (.many [6,7]) (eL qj (z9 (za 5) zf))) (zh (zl 8 (eL (fun ds=>.ok (.lst ds)) (z9 (eL ue (z9 (za 3) zf)) (z9 (eL u6 (z9 (za 4) zf)) zf)))) (zh (xg (iL KA (z9 (za 5) (z9 (za 7) zf))) (.many [9,10]) (zh (zl 11 (eL yF (z9 (za 2) (z9 (za 3) (z9 (za 4) (z9 (za 9) (z9 (za 10) zf))))))) (zh (zl 12 (eL ue (z9 (za 10) zf))) (zh (zl 13 (eL yp (z9 (za 2) (z9 (zd ixD (za 8) (eC (.int 0))) (z9 (zd ixD (za 8) (eC (.int 1))) (z9 (za 9) (z9 (za 12) zf))))))) (zh (sIf (zm (zd (eqR true) (za 12) (za 10))) (zx (eC (.bl false))) zH) (zh (sIf (bOr (zm (zd (isN false) (za 11) (eC .non))) (zm (zd (isN false) (za 13) (eC .non)))) (zx (Wj (zd (isN false) (za 11) (eC .non)) (zd (isN false) (za 13) (eC .non)))) zH) (zh (sIf (qd (zm (eL yP (z9 (za 13) (z9 (za 11) zf))))) (zx (eC (.bl false))) zH) (zh (xy 13 (eL (fun ds=>.ok (.tup ds)) (z9 (eC (.int 1)) (z9 (eL (fun ds=>.ok (.lst ds)) zf) (z9 (eC (.int 0)) zf))))) (zh (kz 13 1 (.tup [.int 9,.int 9,.str "more"])) (sIf (qd (zm (eL yP (z9 (eL yp (z9 (za 2) (z9 (zd ixD (za 8) (eC (.int 0))) (z9 (zd ixD (za 8) (eC (.int 1))) (z9 (za 9) (z9 (eL ue (z9 (za 10) zf)) zf)))))) (z9 (za 11) zf))))) (zx (eC (.bl false))) zH)))))))))) (zh (xg (iL vY (z9 (eL ka (z9 (eC (.int 3)) (z9 (eL yC (z9 (za 6) zf)) zf))) zf)) (.one 15) (zh (zl 16 (zd ixD (eL (fun ds=>.ok (.lst ds)) (z9 (zd zB (za 15) (eC (.int 1))) (z9 (zd zB (za 15) (eC (.int 9))) (z9 (zd zB (za 15) (eC (.int 58))) zf)))) (zd zY (zd zN (eL zD (z9 (za 0) (z9 (eC (.int 0)) zf))) (eC (.int 26))) (eC (.int 3))))) (zh (zl 10 (zd zB (eL (fun ds=>.ok (.lst ds)) (z9 (eL (fun ds=>.ok (.tup ds)) (z9 (zd zB (eL ZU (z9 (za 16) zf)) (eC (.str "."))) (z9 (eC (.str "")) zf))) zf)) (zR [none] (yt (zd ixD (za 6) (za 15))) (.one 0) (fun _=>.ok true) (eL (fun ds=>.ok (.tup ds)) (z9 (za 0) (z9 (eC (.str "")) zf)))))) (zh (zl 11 (eL zS (z9 (za 2) (z9 (za 3) (z9 (za 4) (z9 (za 10) (z9 (zR [none] (yt (za 10)) (.one 0) (fun _=>.ok true) (eC (.int 0))) zf))))))) (sIf (qd (zm (eL yP (z9 (eL xu (z9 (za 2) (z9 (zd ixD (za 8) (eC (.int 0))) (z9 (zd ixD (za 8) (eC (.int 1))) (z9 (za 16) (z9 (zd ixD (za 6) (za 15)) zf)))))) (z9 (za 11) zf))))) (zx (eC (.bl false))) zH))))) (zx (zd WU (za 8) (eL (fun ds=>.ok (.lst ds)) (z9 (za 3) (z9 (za 4) zf))))))))))))))
def F_law:List D->R D:=zF 17 J6
def sc_law:FnScope ["_law_script","_law_shift","_law_face_here","_law_book","_law_rules_here","_law_blocks_here","_law_notes","_law_rows","_law_handed","_law_block_here","_law_pairs","_law_due_here","_law_told_here","_law_found","_law_row","_law_k","_law_number"] ["_law_script"] (defScope (top 91)):=by constructor<;>first|rfl|decide +kernel
def Ke (V:En K mg)(o2i:Own P w K mg base "_law_face" 1 ["_law_cell"] (spM K w8 1))(o1f:Own P w K mg base "_law_joints" 2 ["_law_cell","_law_shift"] (spM K xo 2))(o2f:Own P w K mg base "_law_rules" 1 ["_law_first","_law_second","_law_plain"] (spM K xK 3))(o1g:Own P w K mg base "_law_blocks" 6 ["_law_script","_law_first","_law_most","_law_shift"] (spM K xm 4))(o5j:Own P w K mg base "noted" 4 ["blocks"] (spM K qj 1))(o7:Own P w K mg base "_law_cell_at" 1 ["_law_script","_law_k"] (spM K zD 2))(o3h:Own P w K mg base "_law_due" 10 ["_law_face_here","_law_book","_law_rules_here","_law_block_here","_law_pairs"] (spM K yF 5))(o1c:Own P w K mg base "_law_told" 10 ["_law_face_here","_law_book","_law_rules_here","_law_block_here","_law_pairs"] (spM K yp 5))(og:Own P w K mg base "_law_line_rows" 9 ["_law_face_here","_law_book","_law_rules_here","_law_pairs","_law_marks"] (spM K zS 5))(o0a:Own P w K mg base "_law_right" 1 ["_law_found","_law_due_here"] (spM K yP 2))(o2j:Own P w K mg base "note_rows" 9 ["face","book","rules","number","note"] (spM K xu 5)):∀(f:Addr) (cdv:Value) (A:jNf) (outer:List Env) (s:jNg) (H:Hp) (E:XK),Room 10 (A.deeper (envOfC "law" (defScope (top 91)) s.heap.objs.size f cdv))->MSs (yZ (cxx P w) P w K mg base ["_law_script","_law_shift","_law_face_here","_law_book","_law_rules_here","_law_blocks_here","_law_notes","_law_rows","_law_handed","_law_block_here","_law_pairs","_law_due_here","_law_told_here","_law_found","_law_row","_law_k","_law_number"] "law" (defScope (top 91)) f cdv A outer s H E) E [] (jG 17 1) (defBody (top 91)) J6 [.shr,.dead,.dead,.dead,.dead,.dead,.dead,.dead,.dead,.dead,.dead,.dead,.dead,.dead,.dead,.dead,.dead]:=
 fun f cdv A outer s H E hr=>(sa 1 sc_law.nd (md (cl o7 hr (zb (vs 0) (a1 zc))) zc) (sa 2 sc_law.nd (cl o2i hr (a1 (cl o7 hr (zb (vs 0) (a1 zc))))) (sa 3 sc_law.nd (cl o1f hr (zb (cl o7 hr (zb (vs 0) (a1 zc))) (a1 (vo 1)))) (sa 4 sc_law.nd (cl o2f hr (zb (cl o7 hr (zb (vs 0) (a1 zc))) (zb (cl o7 hr (zb (vs 0) (a1 zc))) (a1 (ix hr (vo 2) zc))))) (sa 5 sc_law.nd (cl o1g hr (zb (vs 0) (zb zc (zb zc (a1 (vo 1)))))) (ze (Kb (cl o5j hr (a1 (vo 5))) (by decide) (yi rfl (zu (pgn 6 sc_law.nd) (zu (pgn 7 sc_law.nd) ym))) (by decide)) (sa 8 sc_law.nd (zz (zb (yr vJ YD YW (by exact rfl) V.b.list Boot.«list» (a1 (vo 3))) (a1 (yr (Z7 (by exact rfl)) VQ VL (by exact rfl) V.b.dict Boot.«dict» (a1 (vo 4)))))) (ze (vz (Γ1:=[.shr,.own,.own,.own,.own,.shr,.shr,.shr,.own,.dead,.dead,.dead,.dead,.dead,.dead,.dead,.dead]) (y2 (Γ2:=[.shr,.own,.own,.own,.own,.shr,.shr,.shr,.own,.shr,.shr,.own,.own,.own,.dead,.dead,.dead]) PassesOwn.leaving rfl (JZ rfl V.b.zip (zb (vs 5) (a1 (vs 7)))) (by decide) (yi rfl (zu (pgn 9 sc_law.nd) (zu (pgn 10 sc_law.nd) ym))) (by decide) (sa 11 sc_law.nd (cl o3h hr (zb (vo 2) (zb (vo 3) (zb (vo 4) (zb (vs 9) (a1 (vs 10))))))) (sa 12 sc_law.nd (yr vJ YD YW (by exact rfl) V.b.list Boot.«list» (a1 (vs 10))) (sa 13 sc_law.nd (cl o1c hr (zb (vo 2) (zb (ix hr (vo 8) zc) (zb (ix hr (vo 8) zc) (zb (vs 9) (a1 (vo 12))))))) (ze (zJ (zW (vX hr.u12) Zi kJ (vo 12) (vs 10) (zI _)) (rt vm) zo) (ze (zJ (MW.mt (uB (zW kf XE jh (vo 11) wJ (zI _)) (vx (zW kf XE jh (vo 13) wJ (zI _))))) (rt (qV (wb kf XE jh (vo 11) wJ (zI _)) (Ze (wb kf XE jh (vo 13) wJ (zI _))))) zo) (ze (zJ (wI (yx (cl o0a hr (zb (vo 13) (a1 (vo 11)))))) (rt vm) zo) (ze (app 13 (zk (zO (zb zc (zb (zz zZ) (a1 zc)))))) (ze (z4l 13 1 14 (.tup [.int 9,.int 9,.str "more"]) PassesOwn.leaving rfl (zO (zb zc (zb zc (a1 zj)))) (pgn 14 sc_law.nd) (fun _=>rfl)) (zi (zJ (wI (yx (cl o0a hr (zb (cl o1c hr (zb (vo 2) (zb (ix hr (vo 8) zc) (zb (ix hr (vo 8) zc) (zb (vs 9) (a1 (yr vJ YD YW (by exact rfl) V.b.list Boot.«list» (a1 (vs 10))))))))) (a1 (vo 11)))))) (rt vm) zo)))))))))) rfl) rfl) (ze (y2 (Γ2:=[.shr,.own,.own,.own,.own,.shr,.shr,.shr,.own,.dead,.own,.own,.dead,.dead,.dead,.shr,.own]) PassesOwn.leaving rfl (yq rfl V.b.range (a1 (zU (ZQ (by exact rfl)) JM Kn (by exact rfl) V.b.min PyProof.Rows.boot_min (zb zc (a1 (ln V.b (a1 (vs 6)))))))) (by decide) (zT (pgn 15 sc_law.nd)) (by decide) (sa 16 sc_law.nd (ix hr (zz (zb (ad (vs 15) zc) (zb (ad (vs 15) zc) (a1 (ad (vs 15) zc))))) (md (fd (cl o7 hr (zb (vs 0) (a1 zc))) zc) zc)) (sa 10 sc_law.nd (ad (zz (a1 (zO (zb (ad (yr qm Jn JT (by exact rfl) V.b.str Boot.«str» (a1 (vo 16))) zj) (a1 zj))))) (cm1 ["_law_word_here"] sc_law.nofree (zE (ix hr (vs 6) (vs 15))) (fun _ _ _ _=>(zO (zb (vs 0) (a1 zj)))))) (sa 11 sc_law.nd (cl og hr (zb (vo 2) (zb (vo 3) (zb (vo 4) (zb (vo 10) (a1 (cm1 ["_law_pair"] sc_law.nofree (zE (vo 10)) (fun _ _ _ _=>zc)))))))) (zi (zJ (wI (yx (cl o0a hr (zb (cl o2j hr (zb (vo 2) (zb (ix hr (vo 8) zc) (zb (ix hr (vo 8) zc) (zb (vo 16) (a1 (ix hr (vs 6) (vs 15)))))))) (a1 (vo 11)))))) (rt vm) zo))))) rfl) (rt (wb (z3j hr.u12) z4K z5X (vo 8) (zz (zb (vo 3) (a1 (vo 4)))) (zI _))))))))))))
end
abbrev Pce:=Str×Int×Str
abbrev eP (p:Pce):D:=.tup [.str p.1,.int p.2.1,.str p.2.2]
abbrev pcs (ps:List Pce):D:=.lst (ps.map eP)
abbrev lyD (w p t o b d:Int):D:=.dic [.inr "width",.inr "part",.inr "twin",.inr "over",.inr "blank",.inr "dash"] [.int w,.int p,.int t,.int o,.int b,.int d]
abbrev isI (v:D):Prop:=∃n,v=.int n
abbrev isP (v:D):Prop:=∃n,v=.int n/\0<=n
def iI {n:Int}:isI (.int n):=⟨_,rfl⟩
def ep (ps:List Pce)(e:Int):Bool:=((ps[(e-1).toNat]?).map fun p=>decide (p.2.2=("part":Str))).getD false
section
variable {ps:List Pce}{e:Int}(h1:1<=e)(h2:e<=ps.length){w p t o b d:Int}{Q:D->Prop}
include h1 h2
theorem z2I (k:∀q∈ps,ps[(e-1).toNat]?=some q->Q (eP q)):Y (ixD (pcs ps) (.int (e-1))) Q:=by
 have h:(e-1).toNat<ps.length:=by omega
 exact j8 (by omega) (by rw[tN,tG h];rfl) (k _ (sR h) (tG h))
theorem WE:zK [pcs ps,.int e]=.ok (.bl (ep ps e)):=by
 suffices Y (zK [pcs ps,.int e]) fun v=>v=.bl (ep ps e) by obtain⟨_,e,rfl⟩:=this;exact e
 delta zK uA
 refine zp (go ?_);refine z2I h1 h2 fun q _ hq=>go ?_;rw[ep,hq];rfl
theorem z5e (k:0<=d):Y (yB [pcs ps,lyD w p t o b d,.int e]) isP:=by
 delta yB uE
 refine zp (go ?_);refine zt (WE h1 h2) (go ?_);exact vP (fun _=>go k) fun _=>go (rX _)
theorem z4X (k:0<=b):Y (yw [pcs ps,lyD w p t o b d,.int e]) isP:=by
 delta yw uf
 refine zp (go ?_);refine z2I h1 h2 fun q _ hq=>go ?_;exact y0 (fun _=>go k) fun _=>go (rX _)
theorem z6G {a x:Int}(k:0<=x)(kw:w<=1000000)(ko:0<=o/\o<=1000000):Y (wX [pcs ps,lyD w p t o b d,.int a,.int e,.int x]) fun v=>(v=.non/\a+1<e)\/isI v:=by
 delta wX ZE
 refine zp (go ?_);refine mid (fun c=>c=true->a+1<e) (y0 (fun _=>go fun h=>?_) fun _=>go rL) fun c hc=>vP (fun h=>go (Or.inl (And.intro rfl (hc h)))) fun _=>go ?_
 ·have:=of_decide_eq_true h;omega
 refine zt (WE h1 h2) (go ?_);refine mid isI (vP (fun _=>go iI) fun _=>go iI) ?_;rintro _ ⟨n,rfl⟩;refine go ?_;refine y0 (fun _=>go (Or.inr iI)) fun _=>go ?_;exact y0 (fun _=>go (Or.inr iI)) fun _=>go (Or.inr iI)
end
section
variable {ps:List Pce}{a e:Int}{w p t o b d:Int}{Q:D->Prop}
def X8 {α:Type}{xs:List α}{x y:Option Int}:(xw xs x y).length<=xs.length:=by unfold xw;simp only[rJ,List.length_drop];omega
def Qh {x y:Option Int}(k:Q (pcs (xw ps x y))):Y (slD (pcs ps) x y) Q:=⟨_,Qi (zV (fun _=>rfl) ps),by rw[YI];exact k⟩
def z3n (h0:0<=a)(h1:a<e)(h2:e<=ps.length)(hl:ps.length<=10000)(hd:0<=d)(hb:0<=b):Y (ve [pcs ps,lyD w p t o b d,.int a,.int e]) isI:=by
 delta ve Yd
 have hc:=@X8 _ ps (some a) (some e);refine zp (go ?_);refine Qh (go ?_);refine yU D.int (fun _=>True) (fun d h=>?_) fun ys hy _=>go ?_
 ·obtain⟨q,_,rfl⟩:=tW.1 h;exact go trivial
 refine yU D.int (fun _=>True) (fun d h=>?_) fun zs hz _=>go ?_
 ·obtain⟨i,rfl,_,_⟩:=xq h;refine go ?_;refine (z4X (by omega) (by omega) hb).imp ?_;rintro _ ⟨n,rfl,_⟩;exact go trivial
 refine (z5e (by omega) h2 hd).imp ?_;rintro _ ⟨n,rfl,_⟩;exact go iI
end
structure LK (ps:List Pce)(w o b d:Int):Prop where
 l:ps.length<=10000
 p:∀q∈ps,0<=q.2.1
 s:∀q∈ps,q.1.length<=1000
 d:0<=d
 b:0<=b
 w:w<=1000000
 o:0<=o/\o<=1000000
abbrev e2 (p:Int×Int):D:=.tup [.int p.1,.int p.2]
section
variable {ps:List Pce}{a:Int}{w p t o b d:Int}(K:LK ps w o b d)
include K
theorem z43 (h0:0<=a)(h1:a<ps.length):Y (yQ [pcs ps,lyD w p t o b d,.int a]) fun v=>∃ls:List (Int×Int),v=.lst (ls.map e2)/\(ls≠[]/\ls.length<=ps.length)/\∀l∈ls,a<l.1/\l.1<=ps.length:=by
 have hl:=K.l
 delta yQ qK
 refine zp (go ?_);refine jA (fun k τ=>∃(ls:List (Int×Int)) (n:Int) (x y:Option D),τ=[some (pcs ps),some (lyD w p t o b d),some (.int a),some (.lst (ls.map e2)),some (.int n),x,y]/\0<=n/\(0<k->ls≠[])/\ls.length<=k/\∀l∈ls,a<l.1/\l.1<=ps.length) ⟨[],0,none,none,rfl,by decide,by decide,by decide,nofun⟩ ?_ ?_
 ·rintro k _ _ hk ⟨ls,n,x,y,rfl,hn,hc,hL,hls⟩;obtain⟨hk,rfl⟩:=vC hk;refine go ?_;refine z2I (by omega) (by omega) fun q hq _=>go ?_;refine mid (fun c=>c=true->0<k) (y0 (fun _=>go fun h=>?_) fun _=>go rL) fun c hc'=>vP (fun h=>go ?_) fun _=>go ?_
  ·have:=of_decide_eq_true h;omega
  ·exact⟨⟨hc (hc' h),by omega⟩,hls⟩
  refine (z5e (by omega) (by omega) K.d).imp ?_;rintro _ ⟨m,rfl,hm⟩;refine go ?_;have hq:=K.p q hq;refine (z6G (by omega) (by omega) (by omega) K.w K.o).imp ?_;rintro v (⟨rfl,hv⟩|⟨m,rfl⟩)<;>refine go ?_
  rotate_left;refine⟨(_,_),rfl,go ?_⟩
  all_goals
   refine (z4X (by omega) (by omega) K.b).imp ?_;rintro _ ⟨m,rfl,hm⟩;refine go ?_
  ·exact⟨ls++[_],_,_,_,rfl,by omega,fun _=>by simp,by simp;omega,fun l hl=>(tS.1 hl).elim (hls l) fun hl=>by cases sI.1 hl;exact⟨by simp only;omega,by simp only;omega⟩⟩
  ·exact⟨ls,_,_,_,rfl,by omega,fun _=>hc (by omega),by omega,hls⟩
 ·rintro _ ⟨ls,n,x,y,rfl,hn,hc,hL,hls⟩;rw[yz]at hc hL;refine go ?_;exact⟨⟨hc (by omega),by omega⟩,hls⟩
end
def fa (fs:List (Int×Int))(e:Int):Int×Int:=fs.getD e.toNat (0,0)
def wy (ps:List Pce)(t:Int)(fs:List (Int×Int))(l:Int×Int):Int×Int×Int:=if ep ps l.1=true then (l.1,l.2+(fa fs l.1).2,l.2+(fa fs l.1).2+t) else (l.1,l.2+(fa fs l.1).1,l.2+(fa fs l.1).1)
abbrev e3 (x:Int×Int×Int):D:=.tup [.int x.1,.int x.2.1,.int x.2.2]
def wy1 {ps:List Pce}{t:Int}{fs:List (Int×Int)}{l:Int×Int}:(wy ps t fs l).1=l.1:=by unfold wy;split<;>rfl
def z3c {fs:List (Int×Int)}{e:Int}{Q:D->Prop}(h0:0<=e)(h1:e<fs.length)(k:Q (e2 (fa fs e))):Y (ixD (.lst (fs.map e2)) (.int e)) Q:=
 j8 h0 (by rw[tN,tG (by omega)];rfl) (by unfold fa at k;rw[sN,tG (by omega)]at k;exact k)
section
variable {ps:List Pce}{a:Int}{w p t o b d:Int}{fs:List (Int×Int)}{ls:List (Int×Int)}
def z5j (h1:yQ [pcs ps,lyD w p t o b d,.int a]=.ok (.lst (ls.map e2)))(h0:0<=a)(h2:∀l∈ls,a<l.1/\l.1<=ps.length)(h3:fs.length=ps.length+1)(h4:ls.length<=10000):yO [pcs ps,lyD w p t o b d,.lst (fs.map e2),.int a]=.ok (.lst (ls.map fun l=>e3 (wy ps t fs l))):=by
 suffices Y (yO [pcs ps,lyD w p t o b d,.lst (fs.map e2),.int a]) fun v=>v=.lst (ls.map fun l=>e3 (wy ps t fs l)) by obtain⟨_,e,rfl⟩:=this;exact e
 delta yO ji
 refine zp (go ?_);refine zt h1 (go ?_);refine Xu (fun pre τ=>∃x y z,τ=[some (pcs ps),some (lyD w p t o b d),some (.lst (fs.map e2)),some (.int a),some (.lst (pre.map fun l=>e3 (wy ps t fs l))),x,y,z]) ⟨none,none,none,rfl⟩ ?_ ?_
 ·rintro pre l _ hl hp ⟨x,y,z,rfl⟩;have:=h2 l hl;refine go ?_;refine zt (WE (by omega) (by omega)) (go ?_);refine vP (fun h=>go ?_) fun h=>go ?_
  all_goals
   refine z3c (by omega) (by omega) (go ?_);refine⟨l,by simp only[wy,h];rfl,go ?_⟩;exact⟨_,_,_,rfl⟩
 ·rintro _ ⟨x,y,z,rfl⟩;exact go rfl
end
section
variable {ps:List Pce}{w p t o b d:Int}{fs:List (Int×Int)}
def z4I (ps:List Pce)(ly:D)(t:Int)(fs:List (Int×Int))(q:Int):Prop:=∃ls:List (Int×Int),yQ [pcs ps,ly,.int q]=.ok (.lst (ls.map e2))/\(∀l∈ls,q<l.1/\l.1<=ps.length)/\ls.length<=ps.length/\(∃l∈ls,(wy ps t fs l).2.1=(fa fs q).1)/\∃l∈ls,(wy ps t fs l).2.2=(fa fs q).2
def WO {j:Nat}{e:Int}{v:Int×Int}(h:e.toNat≠j):fa (fs.set j v) e=fa fs e:=by
 unfold fa;rw[sN,tY (by omega),sN]
def Xa {j:Nat}{l:Int×Int}{v:Int×Int}(h:l.1.toNat≠j):wy ps t (fs.set j v) l=wy ps t fs l:=by
 unfold wy;rw[WO h]
def z35 {xs:List D}{k:Int}(h:D.imms xs=true)(h1:-(2 ^ 63)<=k)(h2:k<2 ^ 63)(h3:xs.length*k.toNat<=jNb):yH (.lst xs) (.int k)=.ok (.lst (List.replicate k.toNat xs).flatten):=by
 unfold yH;exact jNk ⟨h,h1,h2,h3⟩
def z6W {n:Nat}(h:n<=10000):yH (.lst [.tup [.int 0,.int 0]]) (.int (n+1))=.ok (.lst ((List.replicate (n+1) ((0:Int),(0:Int))).map e2)):=by
 have ht:((n:Int)+1).toNat=n+1:=by omega
 rw[z35 rfl (by omega) (by omega) (by rw[ht,jMc];simp;omega),ht];simp
def z1i {lo:Int}{n i:Nat}{d:D}(h:(dwn lo n)[i]?=some d):i<n/\d=.int (lo-i):=by
 unfold dwn at h;rw[tN]at h;obtain⟨x,hx,rfl⟩:=sM.1 h;obtain⟨h1,h2⟩:=tJ.1 hx;rw[List.getElem_range]at h2;subst h2;exact⟨by simpa using h1,rfl⟩
def z2z {i j:Int}{l:List D->Prop}(h:-4611686018427387904<=i/\i<4611686018427387904/\-4611686018427387904<=j/\j<4611686018427387904)(k:l (dwn i (i-j).toNat)):Y (z0m [.int i,.int j,.int (-1)]) l:=⟨_,jNk ⟨by omega,rfl⟩,k⟩
def z3E (K:LK ps w o b d):Y (ub [pcs ps,lyD w p t o b d]) fun v=>∃fs:List (Int×Int),v=.lst (fs.map e2)/\fs.length=ps.length+1/\∀q:Int,0<=q->q<ps.length->z4I ps (lyD w p t o b d) t fs q:=by
 have hl:=K.l
 delta ub XB
 refine zp (go ?_);refine zt (z6W hl) (go ?_);refine z2z (by omega) (go ?_);refine jA (fun k τ=>∃(fs:List (Int×Int)) (x y:Option D),τ=[some (pcs ps),some (lyD w p t o b d),some (.lst (fs.map e2)),x,y]/\fs.length=ps.length+1/\∀q:Int,ps.length-k<=q->q<ps.length->z4I ps (lyD w p t o b d) t fs q) ⟨_,none,none,rfl,by simp,fun q _ _=>by omega⟩ ?_ ?_
 ·rintro k _ _ hk ⟨fs,x,y,rfl,hf,hg⟩;obtain⟨hk,rfl⟩:=z1i hk;obtain⟨_,e,ls,rfl,⟨hn,hL⟩,hb⟩:=z43 (p:=p) (t:=t) K (a:=(ps.length:Int)-1-k) (by omega) (by omega);refine go ?_;refine zt (z5j e (by omega) hb hf (by omega)) (go ?_);refine yU D.int (fun m=>∃l∈ls,(wy ps t fs l).2.1=m) (fun d h=>?_) fun ys hy h1=>go ?_
  ·obtain⟨l,hl,rfl⟩:=tW.1 h;refine go ?_;exact⟨l,hl,rfl⟩
  refine z1I (by rintro rfl;simp at hy;exact hn (rM hy.symm)) fun m hm=>go ?_;refine yU D.int (fun m=>∃l∈ls,(wy ps t fs l).2.2=m) (fun d h=>?_) fun zs hz h2=>go ?_
  ·obtain⟨l,hl,rfl⟩:=tW.1 h;refine go ?_;exact⟨l,hl,rfl⟩
  refine z1I (by rintro rfl;simp at hz;exact hn (rM hz.symm)) fun m' hm'=>go ?_;refine⟨(_,_),rfl,go ?_⟩;refine⟨_,_,_,rfl,by simpa using hf,fun q h3 h4=>?_⟩
  by_cases hq:q=ps.length-1-k
  ·subst hq;have:(fa (fs.set ((ps.length:Int)-1-k).toNat (m,m')) (ps.length-1-k))=(m,m'):=by
    unfold fa;rw[sN,tZ (by omega)];rfl
   obtain⟨l,hl,h5⟩:=h1 m hm;obtain⟨l',hl',h6⟩:=h2 m' hm';refine⟨ls,e,hb,hL,⟨l,hl,?_⟩,l',hl',?_⟩
   ·have:=hb l hl;rw[Xa (by omega),‹fa _ _=_›];exact h5
   ·have:=hb l' hl';rw[Xa (by omega),‹fa _ _=_›];exact h6
  ·obtain⟨ls',e',hb',hL',⟨l,hl,h5⟩,l',hl',h6⟩:=hg q (by omega) h4;refine⟨ls',e',hb',hL',⟨l,hl,?_⟩,l',hl',?_⟩
   ·have:=hb' l hl;rw[Xa (by omega),WO (by omega)];exact h5
   ·have:=hb' l' hl';rw[Xa (by omega),WO (by omega)];exact h6
 ·rintro _ ⟨fs,x,y,rfl,hf,hg⟩;refine go ?_;exact fun q h0 h1=>hg q (by simp[dwn];omega) h1
end
def Ch:Int->List Int->Int->Prop
 | a,[],c=>a=c
 | a,b::bs,c=>a<b/\Ch b bs c
theorem JS {q c:Int}(h:c<q):∀ {bs:List Int} {a:Int},Ch a bs c->Ch a (bs++[q]) q
 | [],a,e=>by cases e;exact⟨h,rfl⟩
 | b::bs,a,e=>⟨e.1,JS h e.2⟩
theorem jr {c:Int}:∀ {bs:List Int} {a:Int},Ch a bs c->a+bs.length<=c
 | [],a,e=>by cases e;simp
 | b::bs,a,e=>by have:=jr e.2;have:=e.1;simp only[tR];omega
section
variable {ps:List Pce}{w p t o b d:Int}
def z3M (K:LK ps w o b d):Y (x8 [pcs ps,lyD w p t o b d]) fun v=>∃bs:List Int,v=.lst (bs.map D.int)/\Ch 0 bs ps.length:=by
 have hl:=K.l
 delta x8 XJ
 refine zp (go ?_);refine (z3E K).imp ?_;rintro _ ⟨fs,rfl,hf,hg⟩;refine go ?_;refine KQ (fun τ=>∃(bs:List Int) (q e:Int) (x:Option D),τ=[some (pcs ps),some (lyD w p t o b d),some (.lst (fs.map e2)),some (.lst (bs.map D.int)),some (.int q),some (.int e),x]/\(0<=q/\q<=ps.length)/\(e=0\/e=1)/\Ch 0 bs q) (fun τ=>(ps.length-iAt τ 4).toNat) ⟨[],0,0,none,rfl,by omega,.inl rfl,rfl⟩ ?_;rintro _ ⟨bs,q,e,x,rfl,⟨h0,h1⟩,he,hc⟩;refine go ?_
 by_cases hq:q<ps.length
 ·rw[decide_eq_true hq,jNk rfl];obtain⟨ls,e1,hb,hL,g1,g2⟩:=hg q h0 hq;have hcl:=jr hc;have hi:∀(l:Int×Int) (Q:D->Prop),Q (.int (if e=0 then (wy ps t fs l).2.1 else (wy ps t fs l).2.2))->Y (ixD (e3 (wy ps t fs l)) (.int (1+e))) Q:=fun l Q h=>by
   rcases he with rfl|rfl
   ·exact (show Y (ixD (e3 (wy ps t fs l)) (.int 1)) Q from go h)
   ·exact (show Y (ixD (e3 (wy ps t fs l)) (.int 2)) Q from go h)
  have hj:∀(v:Int×Int) (Q:D->Prop),Q (.int (if e=0 then v.1 else v.2))->Y (ixD (e2 v) (.int e)) Q:=fun v Q h=>by
   rcases he with rfl|rfl
   ·exact go h
   ·exact go h
  refine go ?_;refine zt (z5j e1 h0 hb hf (by omega)) (go ?_);refine z4r D.int (fun m=>q<m/\m<=ps.length) ?_ (fun d h=>?_) fun ys hy h=>go ?_
  ·obtain⟨l,hl,g⟩:∃l∈ls,(if e=0 then (wy ps t fs l).2.1 else (wy ps t fs l).2.2)=if e=0 then (fa fs q).1 else (fa fs q).2:=by
    rcases he with rfl|rfl
    ·exact g1
    ·exact g2
   refine⟨_,tW.2 ⟨l,hl,rfl⟩,go ?_⟩;refine hi l _ (go ?_);refine z3c h0 (by omega) (go ?_);exact hj _ _ (go (decide_eq_true g))
  ·obtain⟨l,hl,rfl⟩:=tW.1 h;refine go ?_;refine hi l _ (go ?_);refine z3c h0 (by omega) (go ?_);refine hj _ _ (go ?_);intro _;refine go ?_;rw[wy1];exact hb l hl
  refine K1 hy fun m hm=>go ?_;have hm:=h m hm;refine zt (WE (by omega) (by omega)) (go ?_);refine mid (fun v=>v=.int 1\/v=.int 0) (vP (fun _=>go (Or.inl rfl)) fun _=>go (Or.inr rfl)) ?_;rintro v hv;obtain⟨u,rfl,hu⟩:∃u:Int,v=.int u/\(u=0\/u=1):=by rcases hv with rfl|rfl;exact⟨1,rfl,.inr rfl⟩;exact⟨0,rfl,.inl rfl⟩
  refine go ?_;refine⟨⟨_,_,_,_,rfl,by omega,hu,JS hm.1 hc⟩,?_⟩;show (ps.length-m).toNat<(ps.length-q).toNat;omega
 ·rw[decide_eq_false hq,jPa (by decide)];refine go ?_;exact (show q=ps.length by omega)▸hc
end
abbrev eR (r:Str×Int):D:=.tup [.str r.1,.int r.2]
abbrev eS (r:Int×Str):D:=.tup [.int r.1,.str r.2]
def z33 {ps:List Pce}{e:Int}{Q:D->Prop}(h1:0<=e)(h2:e<ps.length)(k:∀q∈ps,Q (eP q)):Y (ixD (pcs ps) (.int e)) Q:=by
 have h:e.toNat<ps.length:=by omega
 exact j8 h1 (by rw[tN,tG h];rfl) (k _ (sR h))
def Wc:(Str.ofString "").length=0:=by decide +kernel
def xI {α:Type}{P:α->Prop}{xs:List α}{x:α}(h:∀y∈xs,P y)(k:P x):∀y∈xs++[x],P y:=fun y hy=>(tS.1 hy).elim (h y) fun hy=>sI.1 hy▸k
section
variable {ps:List Pce}{a e w p t o b d:Int}(K:LK ps w o b d)(h0:0<=a)(h1:a<e)(h2:e<=ps.length)
include K h0 h1 h2
theorem z79:Y (vj [pcs ps,.int a,.int e]) fun v=>∃rs:List (Str×Int),v=.lst (rs.map eR)/\(rs≠[]/\rs.length<=ps.length):=by
 have hl:=K.l
 delta vj ZF
 refine zp (go ?_);refine jA (fun k τ=>∃(rs:List (Str×Int)) (x:Str) (n:Int) (z:Option D),τ=[some (pcs ps),some (.int a),some (.int e),some (.lst (rs.map eR)),some (.str x),some (.int n),z]/\(a+k=e->rs≠[])/\rs.length<=k/\x.length<=1000*k/\∀r∈rs,r.1.length<=10000000) ⟨[],_,_,_,rfl,by omega,by decide,by decide,nofun⟩ ?_ ?_
 ·rintro k _ _ hk ⟨rs,x,n,z,rfl,h3,h4,h5,h6⟩;obtain⟨hk,rfl⟩:=vC hk;refine go ?_;refine z33 (by omega) (by omega) fun q hq=>go ?_;have hs:=K.s q hq;refine z0f (by omega) (go ?_);refine z33 (by omega) (by omega) fun q' hq'=>go ?_;refine z33 (by omega) (by omega) fun q'' hq''=>go ?_;have hx:(x++q.1).length<=1000*(k+1):=by rw[Str.length_append];omega
  refine mid (fun c=>a+k=e-1->c=true) (y0 (fun _=>go fun _=>rfl) fun _=>go fun h=>?_) fun c hc=>vP (fun h=>go ?_) fun h=>go ?_
  ·simpa using h
  ·refine⟨(_,_),rfl,go ?_⟩;exact⟨_,_,_,_,rfl,fun _=>by simp,by simp;omega,by rw[Wc];omega,xI h6 (by show (x++q.1).length<=_;omega)⟩
  ·refine⟨_,_,_,_,rfl,fun h'=>?_,by omega,hx,h6⟩;rw[hc (by omega)]at h;cases h
 ·rintro _ ⟨rs,x,n,z,rfl,h3,h4,h5,h6⟩;rw[yz]at h3 h4;have hn:=h3 (by omega);rw[<-List.dropLast_concat_getLast hn]at h4 h6 ⊢;have hy:=h6 _ (tD _ (sI.2 rfl));refine go ?_;refine zt (WE (by omega) h2) (go ?_);refine vP (fun h=>go ?_) fun h=>go ?_
  ·refine xr (by rw[show ("-":Str).length=1 from by decide +kernel];omega) (go ?_);refine⟨(_,_),rfl,go ?_⟩;simp only[tV,sT]at *;exact⟨by simp,by omega⟩
  ·exact⟨by simp,by omega⟩
theorem z46:Y (wB [pcs ps,lyD w p t o b d,.int a,.int e]) isI:=by
 delta wB kj
 refine zp (go ?_);refine y0 (fun _=>go iI) fun _=>go ?_;refine (z3n h0 h1 h2 K.l K.d K.b).imp ?_;rintro _ ⟨n,rfl⟩;exact go iI
end
def z6v {x:Int}{n:Nat}(h:n<=10000):Y (vV [.int x,.int n]) fun v=>∃ms:List Int,v=.lst (ms.map D.int)/\ms.length=n:=by
 delta vV W0
 refine zp (go ?_);refine yU D.int (fun _=>True) (fun d h=>?_) fun ys hy _=>go ?_
 ·obtain⟨i,rfl,_,_⟩:=xq h;refine go ?_;refine mid isI (y0 (fun _=>go iI) fun _=>go iI) ?_;rintro _ ⟨n,rfl⟩;exact go trivial
 ·rw[hy,yz];omega
def z2p {ps:List Pce}{a e w p t o b d:Int}(K:LK ps w o b d)(h0:0<=a)(h1:a<e)(h2:e<=ps.length):Y (yV [pcs ps,lyD w p t o b d,.int a,.int e]) fun v=>∃ss:List (Int×Str),v=.lst (ss.map eS)/\ss.length<=ps.length:=by
 have hl:=K.l
 delta yV W6
 refine zp (go ?_);refine (z79 K h0 h1 h2).imp ?_;rintro _ ⟨rs,rfl,hn,hr⟩;refine go ?_;refine (z46 K h0 h1 h2).imp ?_;rintro _ ⟨n,rfl⟩;refine go ?_;have hp:0<rs.length:=List.length_pos_iff.2 hn;rw[show (rs.length:Int)-1=((rs.length-1:Nat):Int) by omega];refine (z6v (by omega)).imp ?_;rintro _ ⟨ms,rfl,hm⟩;refine go ?_;refine z3X (fun k τ=>∃(ss:List (Int×Str)) (n:Int) (x y:Option D),τ=[some (pcs ps),some (lyD w p t o b d),some (.int a),some (.int e),some (.lst (rs.map eR)),some (.lst (ms.map D.int)),some (.lst (ss.map eS)),some (.int n),x,y]/\ss.length=k) ⟨[],_,_,_,rfl,rfl⟩ ?_ ?_
 ·rintro k r _ hr' hk ⟨ss,n,x,y,rfl,hs⟩;refine go ?_;refine⟨(_,_),rfl,go ?_⟩;refine y0 (fun h=>go ?_) fun _=>go ?_
  ·refine j8 (by omega) (by rw[tN,tG (by omega)];rfl) (go ?_);exact⟨_,_,_,_,rfl,by simp;exact hs⟩
  ·exact⟨_,_,_,_,rfl,by simp;exact hs⟩
 ·rintro _ ⟨ss,n,x,y,rfl,hs⟩;refine go ?_;omega
abbrev fcD (p b:Int)(os:List (Str×Int)):D:=.tup [.int p,.int b,.tup (os.map eR)]
structure FK (p b:Int)(os:List (Str×Int)):Prop where
 p:1<=p
 b:1<=b/\b<=100
 o:∀o∈os,1<=o.2
 l:os.length<=1000
theorem QQ:∀ {ns:List Int},(∀n∈ns,0<=n)->0<=ns.sum
 | [],_=>by simp
 | n::ns,h=>by have:=QQ fun n hn=>h n (tF _ hn);have:=h n tE;rw[List.sum_cons];omega
section
variable {p b:Int}{os:List (Str×Int)}(F:FK p b os)
include F
theorem z2T {x:Str}(hx:x.length<=16777216):Y (vI [fcD p b os,.str x]) isP:=by
 have hl:=F.l;have hb:=F.b;obtain⟨ms,e1,e2,e3,e4⟩:=Yw os [] [] rfl nofun F.o;simp only[List.map_nil,rO,Nat.zero_add]at e1 e2 e3;generalize hm:xi [] [] (os.map fun p=>(Key.inr p.1,D.int p.2))=m at e1 e2 e3;obtain⟨ks,ds⟩:=m;simp only at e1 e2 e3;subst e1;obtain⟨ns,f1,f2,f3,f4⟩:=VW ks ms (.inr " ") b e2 e4 hb.1
 delta vI Kq
 refine zp (go ?_);have e:=Jd (ps:=os);rw[hm]at e;dsimp only at e;refine zt e (go ?_);refine yU D.int (fun n=>0<=n) (fun d h=>?_) (fun ys _ h=>go (QQ h)) (by unfold L2.signs;rw[tH];exact hx);obtain⟨c,_,rfl⟩:=tW.1 h;refine go ?_;obtain⟨n,g1,g2⟩:=XR (xR ks (ms.map D.int) (.inr " ") (.int b)).1 ns (.inr ⟨#[c]⟩) p f4 F.p;rw[<-f1]at g1;refine⟨.int n,?_,n,rfl,by omega⟩;show (if ((yf _ _ (.inr ⟨#[c]⟩)).getD (.int p)).imm=true then R.ok ((yf _ _ (.inr ⟨#[c]⟩)).getD (.int p)) else .bad)=_;rw[g1];rfl
end
abbrev eW (ws:List Str):D:=.tup (ws.map D.str)
abbrev eN (ns:List Int):D:=.lst (ns.map D.int)
abbrev CK (ws:List Str):Prop:=ws.length<=100/\∀s∈ws,s.length<=1000
def Vq {ns:List Int}{z:Int}{Q:D->Prop}(k:∀m,Q (.int m)):Y (Yl (.lst (ns.map D.int)) (.int z)) Q:=by
 unfold Yl;dsimp only;rw[vt];dsimp only;cases vZ none ns with
 | none=>exact yL (k _)
 | some m=>exact yL (k _)
def z50 {bs:List Bool}{Q:D->Prop}(k:∀m,Q (.bl m)):Y (Zn [.lst (bs.map D.bl)]) Q:=zt Xj (k _)
def z61 {ns:List Int}{b w:Int}(h:ns.length<=1000):Y (uT [eN ns,.int b,.int w]) fun v=>∃ls:List (Int×Int),v=.lst (ls.map e2)/\ls.length<=ns.length+1:=by
 delta uT QJ
 refine zp (go ?_);refine z3X (fun k τ=>∃(ls:List (Int×Int)) (i j:Int) (x y:Option D),τ=[some (eN ns),some (.int b),some (.int w),some (.lst (ls.map e2)),some (.int i),some (.int j),x,y]/\ls.length<=k) ⟨[],_,_,_,_,rfl,tI _⟩ ?_ ?_
 ·rintro k n _ _ _ ⟨ls,i,j,x,y,rfl,hl⟩;refine go ?_;refine mid (fun _=>True) (y0 (fun _=>go trivial) fun _=>go trivial) fun c _=>vP (fun _=>go ?_) fun _=>go ?_
  ·refine⟨(_,_),rfl,go ?_⟩;refine mid isI (y0 (fun _=>go iI) fun _=>go iI) ?_;rintro _ ⟨m,rfl⟩;refine go ?_;exact⟨_,_,_,_,_,rfl,by simp;omega⟩
  ·refine mid isI (y0 (fun _=>go iI) fun _=>go iI) ?_;rintro _ ⟨m,rfl⟩;refine go ?_;exact⟨_,_,_,_,_,rfl,by omega⟩
 ·rintro _ ⟨ls,i,j,x,y,rfl,hl⟩;refine go ?_;refine y0 (fun _=>go ?_) fun _=>go ?_
  ·refine⟨(_,_),rfl,go ?_⟩;simp;omega
  ·omega
def z5I {cs:List (List Int)}{b w r:Int}(h:cs.length<=1000)(k:∀ns∈cs,ns.length<=1000):Y (qH [.lst (cs.map eN),.int b,.int w,.int r]) fun v=>∃m,v=.bl m:=by
 delta qH U5
 refine zp (go ?_);refine yU D.bl (fun _=>True) (fun d h=>?_) fun ys _ _=>go ?_
 ·obtain⟨ns,hn,rfl⟩:=tW.1 h;refine go ?_;refine (z61 (k ns hn)).imp ?_;rintro _ ⟨ls,rfl,_⟩;exact go trivial
 ·refine z50 fun m=>go ?_;exact⟨_,rfl⟩
section
variable {p b:Int}{os:List (Str×Int)}(F:FK p b os)
include F
theorem z4Z {ws:List Str}(h:CK ws):Y (yD [fcD p b os,eW ws]) fun v=>∃ns:List Int,v=eN ns/\ns.length=ws.length:=by
 have h1:=h.1
 delta yD uD
 refine zp (go ?_);refine yU D.int (fun _=>True) (fun d h'=>?_) fun ys hy _=>go ?_
 ·obtain⟨s,hs,rfl⟩:=tW.1 h';have:=h.2 s hs;refine go ?_;refine (z2T F (by omega)).imp ?_;rintro _ ⟨n,rfl,_⟩;exact go trivial
 ·simpa using hy
theorem z2u {ws:List Str}{w:Int}(h:CK ws):Y (xp [fcD p b os,eW ws,.int w]) fun v=>∃ls:List (Int×Int),v=.lst (ls.map e2)/\ls.length<=101:=by
 have h1:=h.1
 delta xp uH
 refine zp (go ?_);refine (z4Z F h).imp ?_;rintro _ ⟨ns,rfl,hn⟩;refine go ?_;refine (z61 (by omega)).imp ?_;rintro _ ⟨ls,rfl,hl⟩;refine go ?_;omega
theorem z6k {cs:List (List Str)}{r:Int}(h:cs.length<=100)(hc:∀ws∈cs,CK ws):Y (xl [fcD p b os,.lst (cs.map eW),.int r]) isI:=by
 have hb:=F.b
 delta xl uI
 refine zp (go ?_);refine yU eN (fun ns=>ns.length<=100) (fun d h'=>?_) fun cs' hy h2=>go ?_
 ·obtain⟨ws,hs,rfl⟩:=tW.1 h';refine go ?_;refine (z4Z F (hc ws hs)).imp ?_;rintro _ ⟨ns,rfl,hn⟩;refine go ?_;have:=(hc ws hs).1;omega
 rw[tH]at hy;refine yU D.int (fun _=>True) (fun d h'=>?_) fun ys _ _=>go ?_
 ·obtain⟨ns,hn,rfl⟩:=tW.1 h';refine go ?_;exact Vq fun m=>go trivial
 refine Vq fun m=>go ?_;refine yU D.int (fun _=>True) (fun d h'=>?_) fun ys _ _=>go ?_
 ·obtain⟨ns,hn,rfl⟩:=tW.1 h';refine go ?_;exact trivial
 refine Vq fun m'=>go ?_;refine KQ (fun τ=>∃(l m:Int) (x:Option D),τ=[some (fcD p b os),some (.lst (cs.map eW)),some (.int r),some (.lst (cs'.map eN)),some (.int l),some (.int m),x]) (fun τ=>(iAt τ 5-iAt τ 4).toNat) ⟨_,_,_,rfl⟩ ?_;rintro _ ⟨l,m,x,rfl⟩;refine go ?_
 by_cases hq:l<m
 ·rw[decide_eq_true hq,jNk rfl];refine go ?_;refine (z5I (by omega) fun ns hn=>by have:=h2 ns hn;omega).imp ?_;rintro _ ⟨c,rfl⟩;refine go ?_;refine vP (fun _=>go ?_) fun _=>go ?_
  ·exact⟨⟨_,_,_,rfl⟩,show (((l+m)/2)-l).toNat<(m-l).toNat by omega⟩
  ·exact⟨⟨_,_,_,rfl⟩,show (m-((l+m)/2+1)).toNat<(m-l).toNat by omega⟩
 ·rw[decide_eq_false hq,jPa (by decide)];exact go iI
end
abbrev eT (r:List (List Str)):D:=.tup (r.map eW)
abbrev tbD (T:List (List (List Str))):D:=.tup (T.map eT)
abbrev ruD (w h p t o lo la g ah be:Int):D:=.dic [.inr "width",.inr "height",.inr "part",.inr "twin",.inr "over",.inr "lone",.inr "late",.inr "gap",.inr "ahead",.inr "behind"] [.int w,.int h,.int p,.int t,.int o,.int lo,.int la,.int g,.int ah,.int be]
structure TK (T:List (List (List Str)))(c:Nat):Prop where
 n:T≠[]
 l:T.length<=100
 q:1<=c/\c<=100
 r:∀r∈T,r.length=c
 k:∀r∈T,∀ws∈r,CK ws
def imW (ws:List Str):(eW ws).imm=true:=zV (fun _=>rfl) ws
def z1W {α:Type}{enc:α->D}{xs:List α}{i:Int}{Q:D->Prop}(h0:0<=i)(h:i<xs.length)(k:∀x∈xs,Q (enc x)):Y (ixD (.tup (xs.map enc)) (.int i)) Q:=by
 have h':i.toNat<xs.length:=by omega
 have e:atI (xs.map enc) i=some (enc xs[i.toNat]):=Xr h0 (by rw[tN,tG h'];rfl);exact⟨_,by show (match atI (xs.map enc) i with|some d=>R.ok d|none=>R.bad)=_;rw[e],k _ (sR h')⟩
def btw {p b:Int}{os:List (Str×Int)}(F:FK p b os):Y (xT [fcD p b os]) fun v=>v=.int (2*b):=by
 delta xT Y2
 exact zp (go rfl)
section
variable {p b:Int}{os:List (Str×Int)}{T:List (List (List Str))}{c:Nat}
def cells (K:TK T c):Y (x3 [tbD T]) fun v=>∃cs:List (List (List Str)),v=.lst (cs.map fun x=>.lst (x.map eW))/\cs.length=c/\∀x∈cs,x.length<=100/\∀ws∈x,CK ws:=by
 have hl:=K.l;have hc:=K.q;have hn:=List.length_pos_iff.2 K.n
 delta x3 u7
 refine zp (go ?_);refine z1W (by omega) (by omega) fun r hr=>go ?_;have hr:=K.r r hr;refine Vr (by omega) (go ?_);refine yU (fun x:List (List Str)=>.lst (x.map eW)) (fun x=>x.length<=100/\∀ws∈x,CK ws) (fun d h=>?_) fun ys hy h=>go ?_
 ·obtain⟨i,rfl,_,_⟩:=xq h;refine go ?_;refine yU eW CK (fun d h=>?_) fun ys hy h=>⟨_,rfl,?_,h⟩
  ·obtain⟨x,hx,rfl⟩:=tW.1 h;have:=K.r x hx;refine go ?_;exact z1W (by omega) (by omega) fun ws hw=>⟨imW ws,_,rfl,K.k x hx ws hw⟩
  ·rw[hy,tH];exact hl
 ·exact⟨by rw[hy,yz];omega,h⟩
def z66 (K:TK T c):Y (xF [tbD T]) fun v=>∃n,v=.int n/\n<=100:=by
 have hl:=K.l;have hc:=K.q
 delta xF qE
 refine zp (go ?_);refine yU D.int (fun n=>n<=100) (fun d h=>?_) fun ys hy h=>go ?_
 ·obtain⟨r,hr,rfl⟩:=tW.1 h;have:=K.r r hr;refine go ?_;refine yU D.int (fun n=>n<=100) (fun d h=>?_) fun ys hy h=>go ?_
  ·obtain⟨ws,hw,rfl⟩:=tW.1 h;refine go ?_;have:=(K.k r hr ws hw).1;omega
  ·exact K1 (by rintro rfl;simp at hy;omega) fun m hm=>go (h m hm)
 ·exact K1 (by rintro rfl;simp at hy;exact K.n (rM hy.symm)) fun m hm=>go (h m hm)
def z6D (F:FK p b os)(K:TK T c){w h pa t o lo la g ah be:Int}:Z "TooWide" (xQ [fcD p b os,ruD w h pa t o lo la g ah be,tbD T]) fun v=>∃n ws,v=.tup [.int n,eN ws]:=by
 have hc:=K.q;have hb:=F.b
 delta xQ Y9
 refine Qc (XM (go ?_));refine (cells K).imp ?_;rintro _ ⟨cs,rfl,hcs,hk⟩;refine go ?_;refine XM (go ?_);refine (btw F).imp ?_;rintro _ rfl;refine go ?_;refine XM (go ?_);refine (z66 K).imp ?_;rintro _ ⟨n,rfl,hn⟩;refine go ?_;refine UE (fun τ=>∃(i:Int) (x y:Option D),τ=[some (fcD p b os),some (ruD w h pa t o lo la g ah be),some (tbD T),some (.lst (cs.map fun x=>.lst (x.map eW))),some (.int i),x,y]) ⟨_,none,none,rfl⟩ ?_ ?_
 ·rintro _ hd _ ⟨i,x,y,rfl⟩;obtain⟨j,rfl,_,_⟩:=xq hd;refine go ?_;refine yU D.int (fun _=>True) (fun d h=>?_) fun ys hy _=>go ?_
  ·obtain⟨x,hx,rfl⟩:=tW.1 h;refine go ?_;refine (z6k F (hk x hx).1 (hk x hx).2).imp ?_;rintro _ ⟨m,rfl⟩;exact go trivial
  refine y0 (fun _=>go ?_) fun _=>go ?_
  ·exact⟨_,_,rfl⟩
  ·exact⟨_,_,_,rfl⟩
 ·rintro _ ⟨i,x,y,rfl⟩;exact z1K (.inr rfl)
end
abbrev eQ (x:Int×Int×Str):D:=.tup [.int x.1,.int x.2.1,.str x.2.2]
def z1j {α:Type}{xs:List α}{a b:Option Int}{x:α}(h:x∈xw xs a b):x∈xs:=List.mem_of_mem_drop (List.mem_of_mem_take h)
theorem jS {α:Type}{g:α->Nat}{c:Nat}:∀(xs:List α),(∀x∈xs,g x<=c)->(xs.map g).sum<=c*xs.length
 | [],_=>by simp
 | x::xs,h=>by
  have:=jS xs fun y hy=>h y (tF _ hy);have:=h x tE;simp only[tO,List.sum_cons,tR,Nat.mul_add];omega
def z0U {z:Str}{ws:List Str}{a b:Option Int}{Q:D->Prop}(h:CK ws)(hz:z.length<=1)(k:∀s,Q (.str s)):Y (slA (eW ws) a b) fun x=>Y (v9 z [x]) Q:=by
 refine⟨_,jNk (zV (fun _=>rfl) ws),?_⟩;rw[YI];have h1:(xw ws a b).length<=ws.length:=X8;have h2:=jS (g:=(·.length)) (xw ws a b) fun s hs=>h.2 s (z1j hs);have h3:=h.1;have h4:(xw ws a b).length*z.length<=(xw ws a b).length*1:=Nat.mul_le_mul_left _ hz;refine⟨.str (Txt.join z (xw ws a b)),?_,k _⟩;unfold v9;dsimp only;rw[uV];exact jNk (by omega)
def z2Z {p b:Int}{os:List (Str×Int)}(F:FK p b os){r:List (List Str)}{ns:List Int}(hr:r.length<=100)(hk:∀ws∈r,CK ws):Y (xv [fcD p b os,eT r,eN ns]) fun v=>∃(n:Int) (ss:List (Int×Int×Str)),v=.tup [.int n,.lst (ss.map eQ)]/\ss.length<=20000:=by
 delta xv Y7
 refine zp (go ?_);refine yL (jA (fun k τ=>∃(ss:List (Int×Int×Str)) (i j:Int) (x y z u v:Option D),τ=[some (fcD p b os),some (eT r),some (eN ns),some (.lst (ss.map eQ)),some (.int i),some (.int j),x,y,z,u,v]/\ss.length<=200*k) ⟨[],_,_,_,_,_,_,_,rfl,tI _⟩ ?_ ?_)
 ·rintro k d _ hd ⟨ss,i,j,x,y,z,u,v,rfl,hs⟩;obtain⟨d1,d2,e1,e2',rfl⟩:=ZN hd;rw[tN]at e1 e2';obtain⟨ws,hw,rfl⟩:=sM.1 e1;obtain⟨n,hn,rfl⟩:=sM.1 e2';have hk':=hk ws (rF hw);have hkr:=(tJ.1 hw).1;refine go ?_;refine (z2u F hk').imp ?_;rintro _ ⟨ls,rfl,hl⟩;refine go ?_;refine z3X (fun k' τ=>∃(ss:List (Int×Int×Str)) (x y:Option D),τ=[some (fcD p b os),some (eT r),some (eN ns),some (.lst (ss.map eQ)),some (.int i),some (.int j),some (eW ws),some (.int n),some (.lst (ls.map e2)),x,y]/\ss.length<=200*k+k') ⟨_,_,_,rfl,by omega⟩ ?_ ?_
  ·rintro k' l _ _ hk2 ⟨ss,x,y,rfl,hs⟩;refine go ?_;refine (z0U (z:=" ") (Q:=fun v=>∃s,v=.str s) hk' (by decide +kernel) fun s=>⟨s,rfl⟩).imp ?_;intro x' hx;refine go ?_;refine hx.imp ?_;rintro _ ⟨s,rfl⟩;refine go ?_;refine⟨(_,_,_),rfl,go ?_⟩;exact⟨_,_,_,rfl,by simp;omega⟩
  ·rintro _ ⟨ss,x,y,rfl,hs⟩;refine go ?_;refine (btw F).imp ?_;rintro _ rfl;refine go ?_;exact⟨_,_,_,_,_,_,_,_,rfl,by omega⟩
 ·rintro _ ⟨ss,i,j,x,y,z,u,v,rfl,hs⟩;have:(uG (r.map eW) (ns.map D.int)).length<=r.length:=by unfold uG;simp only[tH,List.length_zip];omega
  refine go ?_;exact⟨_,_,rfl,by omega⟩
abbrev isB (v:D):Prop:=∃n,v=.bl n
def iB {n:Bool}:isB (.bl n):=⟨_,rfl⟩
def Yk (z:Str)(c:Nat):(Txt.replace z ⟨#[c]⟩ ⟨#[]⟩).length<=z.length:=by
 have:=congrArg List.length (replace_strikes z c);have h1:=List.length_filter_le (· != c) z.cps.toList;simp only[Array.length_toList]at this h1;exact (show (Txt.replace z ⟨#[c]⟩ ⟨#[]⟩).cps.size<=z.cps.size by omega)
section
variable {j w:Str}{i:Int}(hj:j.length<=1000)
include hj
theorem mark:Y (xU [.str j]) isI:=by
 delta xU Yq
 exact zp (go iI)
theorem VX:Y (yR [.str j]) fun v=>∃s:Str,v=.str s/\s.length<=j.length:=by
 delta yR qC
 have h1:=Yk j 45;have h2:=Yk (Txt.replace j ⟨#[45]⟩ ⟨#[]⟩) 61;refine zp (go ?_);refine Qz (show (Txt.replace j ⟨#[45]⟩ ⟨#[]⟩).length<=_ by omega) (go ?_);exact (show (Txt.replace (Txt.replace j ⟨#[45]⟩ ⟨#[]⟩) ⟨#[61]⟩ ⟨#[]⟩).length<=_ by omega)
theorem z6M (hw:w.length<=1000):Y (Z0 [.str j,.str w,.int i]) isB:=by
 delta Z0 QT
 refine zp (go ?_);refine (VX hj).imp ?_;rintro _ ⟨s,rfl,hs⟩;refine go ?_;refine (mark hj).imp ?_;rintro _ ⟨m,rfl⟩;refine go ?_;refine y0 (fun _=>go ?_) fun _=>go iB;have:=Txt.slice_le w (some (i-m)) (some (i-m+s.length));exact z1B (by omega) (go iB)
theorem z4L:Y (j0 [.str j]) fun v=>∃a b,v=.tup [.int a,.int b]:=by
 delta j0 J4
 refine zp (go ?_);refine (mark hj).imp ?_;rintro _ ⟨m,rfl⟩;refine go ?_;exact⟨_,_,rfl⟩
end
def z0v {bk:List Str}{w:Str}{i:Int}(hb:∀j∈bk,j.length<=1000)(hw:w.length<=1000):Y (v7 [.lst (bk.map D.str),.str w,.int i]) fun v=>v=.non\/∃j:Str,v=.str j/\j.length<=1000:=by
 delta v7 Y6
 refine zp (go ?_);refine UE (fun τ=>∃(v:D) (x:Option D),τ=[some (.lst (bk.map D.str)),some (.str w),some (.int i),some v,x]/\(v=.non\/∃j:Str,v=.str j/\j.length<=1000)) ⟨_,_,rfl,.inl rfl⟩ ?_ ?_
 ·rintro _ hd _ ⟨v,x,rfl,hv⟩;obtain⟨j,hj,rfl⟩:=tW.1 hd;have hj:=hb j hj;refine go ?_;refine (z6M hj hw).imp ?_;rintro _ ⟨c,rfl⟩;refine go ?_;refine mid (fun _=>True) (vP (fun _=>go ?_) fun _=>go trivial) fun c _=>vP (fun _=>go ?_) fun _=>go ?_
  ·rcases hv with rfl|⟨j',rfl,hj'⟩
   ·exact go trivial
   ·refine go ?_;refine (z4L hj).imp ?_;rintro _ ⟨a,b,rfl⟩;refine go ?_;refine (z4L hj').imp ?_;rintro _ ⟨a',b',rfl⟩;exact zt (a:=.bl (jH [a,b] [a',b'])) rfl (go trivial)
  ·exact⟨_,_,rfl,.inr ⟨j,rfl,hj⟩⟩
  ·exact⟨_,_,rfl,hv⟩
 ·rintro _ ⟨v,x,rfl,hv⟩;rcases hv with rfl|⟨j',rfl,hj'⟩
  ·exact go (Or.inl rfl)
  ·refine go ?_;exact .inr ⟨j',rfl,hj'⟩
def within {bk:List Str}{w:Str}(hb:∀j∈bk,j.length<=1000)(hl:bk.length<=1000)(hw:w.length<=1000):Y (yT [.lst (bk.map D.str),.str w]) fun v=>∃js:List Str,v=.lst (js.map D.str)/\∀j∈js,j.length<=1000:=by
 delta yT vN
 refine zp (go ?_);refine U2 D.str (fun j=>j.length<=1000) (fun d h=>?_) fun ys _ h=>go h;obtain⟨j,hj,rfl⟩:=tW.1 h;have hj:=hb j hj;refine go ?_;refine (VX hj).imp ?_;rintro _ ⟨s,rfl,hs⟩;refine go ?_;intro _;exact go hj
abbrev Z2:Str:="abcdefghijklmnopqrstuvwxyzABCDEFGHIJKLMNOPQRSTUVWXYZ0123456789.,;:!?'\"()-/"
abbrev one (c:Nat):Str:=⟨#[c]⟩
structure WK (s:Str):Prop where
 a:1<=s.length
 b:s.length<=40
 c:∀c∈s.cps.toList,c∈Z2.cps.toList
def qz (c:Nat):(one c).length=1:=rfl
def z1l {c:Nat}(h:c∈Z2.cps.toList):Y (vg [.str (one c)]) fun v=>v=.bl true:=by
 delta vg ZI
 refine zp (go ?_);refine J9 (by rw[qz];decide) (go ?_);refine z3m (by rw[qz];rfl) (go ?_);rw[show inS (one c) Z2=decide (c∈Z2.cps.toList) from StrLaws.found_one Z2 c,decide_eq_true h]
theorem Xv:∀ {bs:List Bool},(∀b∈bs,b=true)->bs.all id=true
 | [],_=>rfl
 | b::bs,h=>by rw[List.all_cons,h b tE,Xv fun b hb=>h b (tF _ hb)];rfl
section
variable {w:Str}(W:WK w){i:Int}
include W
theorem z0l:Y (vk [.str w]) fun v=>v=.bl true:=by
 have h1:=W.a;have h2:=W.b
 delta vk ZR
 refine zp (go ?_);refine z3m (by omega) (go ?_);rw[decide_eq_true (show (w.length:Int)<=40 by omega)];refine go ?_;refine yU D.bl (fun b=>b=true) (fun d h=>?_) (fun ys _ h=>go ?_) (by unfold L2.signs;rw[tH,Array.length_toList];exact sE h2 (by decide))
 ·obtain⟨c,hc,rfl⟩:=tW.1 h;refine go ?_;refine (z1l (W.c c hc)).imp ?_;rintro _ rfl;exact go rfl
 ·refine zt Xj (go ?_);rw[Xv h]
theorem z78:Y (xY [.str w]) isB:=by
 delta xY jq
 refine zp (go ?_);refine (z0l W).imp ?_;rintro _ rfl;exact go iB
end
def is_letter {c:Nat}:Y (yo [.str (one c)]) isB:=by
 have:=qz c
 delta yo jf
 exact zp (go iB)
section
variable {w:Str}(h2:w.length<=40){i:Int}
include h2
theorem z5B (h0:0<=i)(h1:i<=w.length):Y (yS [.str w,.int i]) isI:=by
 delta yS vK
 refine zp (go ?_);refine KQ (fun τ=>∃m:Int,τ=[some (.str w),some (.int i),some (.int m)]/\0<=m) (fun τ=>(i-iAt τ 2).toNat) ⟨_,rfl,rX _⟩ ?_;rintro _ ⟨m,rfl,hm⟩;refine go ?_;refine mid (fun c=>c=true->m<i) (y0 (fun h=>go ?_) fun _=>go rL) ?_
 ·refine ki (by omega) (by omega) (by omega) fun c _=>go ?_;refine is_letter.imp ?_;rintro _ ⟨b,rfl⟩;exact go fun _=>h
 rintro (_|_) h
 ·rw[jPa (by decide)];exact go iI
 ·rw[jNk rfl];refine go ?_;have:=h rfl;exact⟨⟨_,rfl,by omega⟩,show (i-(m+1)).toNat<(i-m).toNat by omega⟩
theorem z2F (h0:0<=i)(h1:i<=w.length):Y (yI [.str w,.int i]) isI:=by
 delta yI wZ
 refine zp (go ?_);refine KQ (fun τ=>∃m:Int,τ=[some (.str w),some (.int i),some (.int m)]/\0<=m) (fun τ=>(w.length-iAt τ 2).toNat) ⟨_,rfl,rX _⟩ ?_;rintro _ ⟨m,rfl,hm⟩;refine go ?_;refine mid (fun c=>c=true->i+m<w.length) (y0 (fun h=>go ?_) fun _=>go rL) ?_
 ·refine ki (by omega) (by omega) (by omega) fun c _=>go ?_;refine is_letter.imp ?_;rintro _ ⟨b,rfl⟩;exact go fun _=>h
 rintro (_|_) h
 ·rw[jPa (by decide)];exact go iI
 ·rw[jNk rfl];refine go ?_;have:=h rfl;exact⟨⟨_,rfl,by omega⟩,show (w.length-(m+1)).toNat<(w.length-m).toNat by omega⟩
theorem z74 (h0:1<=i)(h1:i<w.length):Y (vh [.str w,.int i]) isB:=by
 delta vh ZJ
 refine zp (go ?_);refine mid (fun c=>c=false->2<=i) (y0 (fun h=>go rL) fun h=>go ?_) fun c hc=>vP (fun _=>go iB) fun h=>go ?_
 ·exact ki (by omega) (by omega) (by omega) fun c _=>go fun _=>by omega
 have:=hc h;refine ki (by omega) (by omega) (by omega) fun c _=>go ?_;refine is_letter.imp ?_;rintro _ ⟨b,rfl⟩;refine go ?_;refine vP (fun _=>go ?_) fun _=>go iB;refine ki (by omega) (by omega) (by omega) fun c _=>go ?_;refine is_letter.imp ?_;rintro _ ⟨b,rfl⟩;exact go iB
variable {bk:List Str}(hb:∀j∈bk,j.length<=1000){W h pa t o lo la g ah be:Int}
include hb
theorem may (h0:1<=i)(h1:i<w.length):Y (wF [.lst (bk.map D.str),ruD W h pa t o lo la g ah be,.str w,.int i]) isB:=by
 delta wF ku
 refine zp (go ?_);refine (z5B h2 (by omega) (by omega)).imp ?_;rintro _ ⟨m,rfl⟩;refine go ?_;refine mid (fun _=>True) (y0 (fun _=>go trivial) fun _=>go ?_) fun c _=>vP (fun _=>go iB) fun _=>go ?_
 ·refine (z2F h2 (by omega) (by omega)).imp ?_;rintro _ ⟨m,rfl⟩;exact go trivial
 refine (z0v hb (by omega)).imp ?_;rintro _ (rfl|⟨j,rfl,hj⟩)
 ·exact go iB
 ·exact go iB
theorem join (h0:1<=i)(h1:i<w.length):Y (vc [.lst (bk.map D.str),ruD W h pa t o lo la g ah be,.str w,.int i]) fun v=>v=.non\/∃x:Str,v=.str x/\x≠"blank":=by
 delta vc ZH
 refine zp (go ?_);refine (may h2 hb h0 h1).imp ?_;rintro _ ⟨m,rfl⟩;refine go ?_;refine vP (fun _=>go ?_) fun _=>go ?_
 ·exact .inr ⟨_,rfl,by decide⟩
 refine (z74 h2 h0 h1).imp ?_;rintro _ ⟨m,rfl⟩;refine go ?_;refine vP (fun _=>go ?_) fun _=>go ?_
 ·exact .inr ⟨_,rfl,by decide⟩
 ·exact .inl rfl
end
abbrev eD (x:Int×D):D:=.tup [.int x.1,x.2]
abbrev eSS (x:Str×Str):D:=.tup [.str x.1,.str x.2]
structure BK (bk:List Str):Prop where
 l:bk.length<=1000
 j:∀j∈bk,j.length<=1000
section
variable {w:Str}(V:WK w){bk:List Str}(B:BK bk){W h pa t o lo la g ah be:Int}
include V B
theorem z2r:Y (u3 [.lst (bk.map D.str),ruD W h pa t o lo la g ah be,.str w]) fun v=>∃xs:List (Int×Str),v=.lst (xs.map eS)/\xs.length<=40/\∀x∈xs,x.2≠"blank":=by
 have h1:=V.a;have h2:=V.b
 delta u3 XC
 refine zp (go ?_);refine (z78 V).imp ?_;rintro _ ⟨_,rfl⟩;refine go ?_;refine (within B.j B.l (by omega)).imp ?_;rintro _ ⟨js,rfl,hj⟩;refine go ?_;refine yU eD (fun x=>x.2=.non\/∃s:Str,x.2=.str s/\s≠"blank") (fun d h=>?_) fun ys hy hp=>go ?_
 ·obtain⟨i,rfl,_,_⟩:=xq h;refine go ?_;refine (join h2 hj (by omega) (by omega)).imp ?_;rintro _ (rfl|⟨s,rfl,hs⟩)
  ·refine go ?_;exact⟨(_,_),rfl,.inl rfl⟩
  ·refine go ?_;exact⟨(_,_),rfl,.inr ⟨_,rfl,hs⟩⟩
 rw[yz]at hy;refine U2 eS (fun x=>x.2≠"blank") (fun d h=>?_) fun zs hz hp=>go ?_
 ·obtain⟨⟨i,v⟩,hx,rfl⟩:=tW.1 h;rcases hp _ hx with e|⟨s,e,hs⟩<;>cases e
  ·exact go fun h=>rL h
  ·refine go ?_;intro _;refine go ?_;exact⟨(_,_),rfl,hs⟩
 ·rw[tH]at hz;exact⟨by omega,hp⟩
theorem z3p:Y (u9 [.lst (bk.map D.str),ruD W h pa t o lo la g ah be,.str w]) fun v=>∃(ts:List (Str×Str)) (x:Str),v=.lst ((ts++[(x,("blank":Str))]).map eSS)/\ts.length<=40/\(∀y∈ts,y.2≠"blank"/\y.1.length<=40)/\x.length<=40:=by
 have h2:=V.b
 delta u9 W8
 refine zp (go ?_);refine (z2r V B).imp ?_;rintro _ ⟨xs,rfl,hl,hx⟩;refine go ?_;refine Xu (fun pre τ=>∃(ts:List (Str×Str)) (i:Int) (x y:Option D),τ=[some (.lst (bk.map D.str)),some (ruD W h pa t o lo la g ah be),some (.str w),some (.lst (ts.map eSS)),some (.int i),x,y]/\ts.length=pre.length/\∀y∈ts,y.2≠"blank"/\y.1.length<=40) ⟨[],_,_,_,rfl,rfl,nofun⟩ ?_ ?_
 ·rintro pre z _ hz hp ⟨ts,i,x,y,rfl,e,ht⟩;refine go ?_;refine⟨(_,_),rfl,go ?_⟩;have:=Txt.slice_le w (some i) (some z.1);exact⟨_,_,_,_,rfl,by simp[e],xI ht ⟨hx z hz,by show (Txt.slice _ _ _).length<=_;omega⟩⟩
 ·rintro _ ⟨ts,i,x,y,rfl,e,ht⟩;refine go ?_;refine⟨(_,_),rfl,go ?_⟩;have:=Txt.slice_le w (some i) none;exact⟨ts,Txt.slice w (some i) none,rfl,by omega,ht,by omega⟩
end
section
variable {p b:Int}{os:List (Str×Int)}(F:FK p b os){W h pa t o lo la g ah be:Int}
include F
theorem z6e:Y (yJ [fcD p b os,ruD W h pa t o lo la g ah be]) fun v=>∃d,v=lyD W pa t o b d/\0<=d:=by
 delta yJ Wo
 refine zp (go ?_);refine (z2T F (by decide +kernel)).imp ?_;rintro _ ⟨d,rfl,hd⟩;exact go hd
def isb (x:Str):Bool:=decide (x="blank")
def cnt (ps:List Pce):Nat:=ps.countP fun q=>isb q.2.2
abbrev QK (qs:List (Str×Str)):Prop:=qs.length<=100/\∀q∈qs,WK q.1/\q.2.length<=500
theorem z3O {bk:List Str}(B:BK bk){qs:List (Str×Str)}(hq:QK qs):Y (ye [fcD p b os,.lst (bk.map D.str),ruD W h pa t o lo la g ah be,.lst (qs.map eSS)]) fun v=>∃ps:List Pce,v=pcs ps/\(ps.length<=41*qs.length/\cnt ps=qs.length)/\∀q∈ps,0<=q.2.1/\q.1.length<=1000:=by
 have hq1:=hq.1
 delta ye ju
 refine zp (go ?_);refine Xu (fun pre τ=>∃(ps:List Pce) (x y z u v:Option D),τ=[some (fcD p b os),some (.lst (bk.map D.str)),some (ruD W h pa t o lo la g ah be),some (.lst (qs.map eSS)),some (pcs ps),x,y,z,u,v]/\(ps.length<=41*pre.length/\cnt ps=pre.length)/\∀q∈ps,0<=q.2.1/\q.1.length<=1000) ⟨[],_,_,_,_,_,rfl,⟨tI _,rfl⟩,nofun⟩ ?_ ?_
 ·rintro pre q _ hz hp ⟨ps,x,y,z,u,v,rfl,⟨e1,e2⟩,ht⟩;obtain⟨q1,q2⟩:=hq.2 q hz;refine go ?_;refine (z3p q1 B).imp ?_;rintro _ ⟨ts,s,rfl,hl,hs,hx⟩;refine go ?_;refine Xu (fun pr τ=>∃(ps':List Pce) (z u v:Option D),τ=[some (fcD p b os),some (.lst (bk.map D.str)),some (ruD W h pa t o lo la g ah be),some (.lst (qs.map eSS)),some (pcs ps'),some (.str q.1),some (.str q.2),z,u,v]/\(ps'.length=ps.length+pr.length/\cnt ps'=cnt ps+pr.countP fun y:Str×Str=>isb y.2)/\∀q∈ps',0<=q.2.1/\q.1.length<=1000) ⟨_,_,_,_,rfl,⟨rfl,rfl⟩,ht⟩ ?_ ?_
  ·rintro pr y _ hy hp2 ⟨ps',z,u,v,rfl,⟨e3,e4⟩,ht'⟩;have hyl:y.1.length<=40:=(tS.1 hy).elim (fun h=>(hs y h).2) fun h=>by rw[sI.1 h];exact hx
   have hll:(ts++[(s,("blank":Str))]).length=ts.length+1:=by simp
   refine go ?_;refine mid (fun v=>∃z:Str,v=.str z/\z.length<=540) (y0 (fun _=>go ?_) fun _=>go ?_) ?_
   ·refine xr (by omega) (go ?_);rw[Str.length_append];omega
   ·omega
   rintro _ ⟨z,rfl,hz⟩;refine go ?_;refine (z2T F (by omega)).imp ?_;rintro _ ⟨n,rfl,hn⟩;refine go ?_;refine⟨(_,_,_),rfl,go ?_⟩;refine⟨_,_,_,_,rfl,⟨by simp[e3];omega,?_⟩,xI ht' ⟨hn,by show z.length<=_;omega⟩⟩;have e5:cnt (ps'++[(z,n,y.2)])=cnt ps'+if isb y.2=true then 1 else 0:=by simp[cnt,pE,List.countP_cons]
   rw[e5,e4,pE,List.countP_cons,List.countP_nil];omega
  ·rintro _ ⟨ps',z,u,v,rfl,⟨e3,e4⟩,ht'⟩;refine go ?_;refine⟨_,_,_,_,_,_,rfl,⟨by simp[e3];omega,?_⟩,ht'⟩;have e5:(ts.countP fun y=>isb y.2)=0:=List.countP_eq_zero.2 fun y hy=>by simp[isb,(hs y hy).1]
   rw[e4,pE,e5,e2,tV];rfl
 ·rintro _ ⟨ps,x,y,z,u,v,rfl,⟨e1,e2⟩,ht⟩;refine go ?_;exact ht
end
abbrev Rw:=Int×List (Int×Int×Str)×Int
abbrev eRw (r:Rw):D:=.tup [.int r.1,.lst (r.2.1.map eQ),.int r.2.2]
def cn (ps:List Pce)(b e:Int):Nat:=cnt (xw ps (some b) (some e))
def rws (ps:List Pce)(ms:List Int)(sp:Int×Int->List (Int×Str)):Int->Nat->List Int->List Rw
 | _,_,[]=>[]
 | b,w,e::es=>(1,(sp (b,e)).map fun s=>(0,s.1,s.2),((ms.drop w).take (cn ps b e)).sum)::rws ps ms sp e (w+cn ps b e) es
def z6t {ps:List Pce}{b e:Int}(h0:0<=b)(h1:b<=e)(h2:e<=ps.length):xw ps (some b) (some e)=(ps.drop b.toNat).take (e.toNat-b.toNat):=by
 have:=JY (xs:=ps) (a:=b.toNat) (b:=e.toNat) (by omega) (by omega)
 rwa [sY h0,sY (by omega)]at this
def U0 {ps:List Pce}{b e:Int}(h0:0<=b)(h1:b<=e)(h2:e<=ps.length):cnt (ps.take b.toNat)+cn ps b e=cnt (ps.take e.toNat)/\cnt (ps.take e.toNat)<=cnt ps:=by
 refine⟨?_,List.Sublist.countP_le (List.take_sublist _ _)⟩;rw[cn,z6t h0 h1 h2,show e.toNat=b.toNat+(e.toNat-b.toNat) by omega,List.take_add,show b.toNat+(e.toNat-b.toNat)-b.toNat=e.toNat-b.toNat by omega,cnt,cnt,cnt,pE]
def Qx {xs:List (Int×Str)}{m:Int}:D.tup [.int 1,.lst (xs.map fun s=>eQ (0,s.1,s.2)),.int m]=eRw (1,xs.map fun s=>(0,s.1,s.2),m):=by
 show _=D.tup [.int 1,.lst ((xs.map fun s=>(0,s.1,s.2)).map eQ),.int m];rw[rC];rfl
theorem Yy {ps:List Pce}{ms:List Int}{ly:D}{sp:Int×Int->List (Int×Str)}(hs:∀x:Int×Int,0<=x.1->x.1<x.2->x.2<=ps.length->yV [pcs ps,ly,.int x.1,.int x.2]=.ok (.lst ((sp x).map eS))/\(sp x).length<=10000):∀ {es:List Int} {b:Int} {w:Nat},0<=b->Ch b es ps.length->∀r∈rws ps ms sp b w es,r.2.1.length<=10000
 | [],_,_,_,_=>nofun
 | e::es,b,w,h0,h=>fun r hr=>by
  obtain⟨h1,h2⟩:=h;rcases tK.1 hr with rfl|hr
  ·have:=jr h2;have:=(hs (b,e) h0 h1 (by simp only;omega)).2
   simpa using this
  ·exact Yy hs (by omega) h2 r hr
def MK (ms ms':List Int):Prop:=∀a b:Nat,b<=ms.length->a<=b->(xw ms' (some (a:Int)) (some (b:Int))).sum=((ms.drop a).take (b-a)).sum
def Jl {ps:List Pce}{b e:Int}(hl:ps.length<=10000):Y (wC [pcs ps,.int b,.int e]) fun v=>v=.int (cn ps b e):=by
 have hc:(xw ps (some b) (some e)).length<=ps.length:=X8
 delta wC Z4
 refine zp (go ?_);refine Qh (go ?_);refine z6X (fun q=>isb q.2.2) eP (fun q _=>?_) (go ?_)
 ·exact go rfl
 ·rw[cn,cnt,List.countP_eq_length_filter]
section
variable {ps:List Pce}{w p t o b d:Int}(K:LK ps w o b d){bs ms:List Int}(hb:Ch 0 bs ps.length)(hc:cnt ps=ms.length){sp:Int×Int->List (Int×Str)}(hs:∀x:Int×Int,0<=x.1->x.1<x.2->x.2<=ps.length->yV [pcs ps,lyD w p t o b d,.int x.1,.int x.2]=.ok (.lst ((sp x).map eS))/\(sp x).length<=10000)
include K hb hc hs
theorem Yj {ms':List Int}(hm:MK ms ms'):Y (x6 [pcs ps,lyD w p t o b d,eN bs,eN ms']) fun v=>v=.lst ((rws ps ms sp 0 0 bs).map eRw):=by
 have hl:=K.l;have hbl:=jr hb
 delta x6 jb
 refine zp (go ?_);refine z28 (fun r τ=>∃(rs:List Rw) (i:Int) (k:Nat) (x y z:Option D),τ=[some (pcs ps),some (lyD w p t o b d),some (eN bs),some (eN ms'),some (.lst (rs.map eRw)),some (.int i),some (.int k),x,y,z]/\(rs++rws ps ms sp i k r=rws ps ms sp 0 0 bs/\Ch i r ps.length/\0<=i)/\k=cnt (ps.take i.toNat)/\rs.length+r.length=bs.length) ⟨[],_,0,_,_,_,rfl,⟨rfl,hb,rX _⟩,rfl,by simp⟩ ?_ ?_
 ·rintro e r _ ⟨rs,i,k,x,y,z,rfl,⟨h1,⟨h2,h3⟩,h4⟩,h5,h6⟩;have h7:=jr h3;have h8:=U0 (ps:=ps) h4 (Int.le_of_lt h2) (by omega);rw[tR]at h6;refine go ?_;refine (Jl hl).imp ?_;rintro _ rfl;refine go ?_;obtain⟨e1,e2⟩:=hs (i,e) h4 h2 (by simp only;omega);refine zt e1 (go ?_);refine YR (fun s:Int×Str=>eQ (0,s.1,s.2)) (fun s _=>go rfl) (go ?_);refine⟨.lst ((xw ms' (some (k:Int)) (some ((k:Int)+cn ps i e))).map D.int),by rw[Qi (zV (fun _=>rfl) _),YI],go ?_⟩;have hm:=hm k (k+cn ps i e) (by omega) (by omega);rw[show k+cn ps i e-k=cn ps i e by omega,Int.natCast_add]at hm;refine⟨(1,(sp (i,e)).map fun s=>(0,s.1,s.2),((ms.drop k).take (cn ps i e)).sum),by rw[<-hm];exact Qx,go ?_⟩;exact⟨_,e,k+cn ps i e,_,_,_,rfl,⟨by rw[<-h1,rws,sS];rfl,h3,by omega⟩,by omega,by rw[tV];simp;omega⟩
 ·rintro _ ⟨rs,i,k,x,y,z,rfl,⟨h1,h2,h4⟩,h5,h6⟩;refine go ?_;rw[<-h1,rws,tQ]
end
def W7 {ps:List Pce}{W h pa t o lo la g ah be p b d:Int}{os:List (Str×Int)}(F:FK p b os){bk:List Str}(B:BK bk){qs:List (Str×Str)}(K:LK ps W o b d){bs ms:List Int}(hb:Ch 0 bs ps.length)(hc:cnt ps=ms.length){sp:Int×Int->List (Int×Str)}
  (e1:ye [fcD p b os,.lst (bk.map D.str),ruD W h pa t o lo la g ah be,.lst (qs.map eSS)]=.ok (pcs ps)) (e2:yJ [fcD p b os,ruD W h pa t o lo la g ah be]=.ok (lyD W pa t o b d)) (e3:x8 [pcs ps,lyD W pa t o b d]=.ok (eN bs))
  (hs:∀x:Int×Int,0<=x.1->x.1<x.2->x.2<=ps.length->yV [pcs ps,lyD W pa t o b d,.int x.1,.int x.2]=.ok (.lst ((sp x).map eS))/\(sp x).length<=10000):Y (zS [fcD p b os,.lst (bk.map D.str),ruD W h pa t o lo la g ah be,.lst (qs.map eSS),eN ms]) fun v=>v=.lst ((rws ps ms sp 0 0 bs).map eRw):=by
 have hl:=K.l;have hbl:=jr hb
 delta zS vi
 refine zp (go ?_);refine zt e1 (go ?_);refine zt e2 (go ?_);refine zt e3 (go ?_);refine z28 (fun r τ=>∃(rs:List Rw) (i:Int) (k:Nat) (x y z:Option D),τ=[some (fcD p b os),some (.lst (bk.map D.str)),some (ruD W h pa t o lo la g ah be),some (.lst (qs.map eSS)),some (eN ms),some (pcs ps),some (lyD W pa t o b d),some (.lst (rs.map eRw)),some (.int i),some (.int k),x,y,z]/\(rs++rws ps ms sp i k r=rws ps ms sp 0 0 bs/\Ch i r ps.length/\0<=i)/\k=cnt (ps.take i.toNat)/\rs.length+r.length=bs.length) ⟨[],_,0,_,_,_,rfl,⟨rfl,hb,rX _⟩,rfl,by simp⟩ ?_ ?_
 ·rintro e r _ ⟨rs,i,k,x,y,z,rfl,⟨h1,⟨h2,h3⟩,h4⟩,h5,h6⟩;have h7:=jr h3;have h8:=U0 (ps:=ps) h4 (Int.le_of_lt h2) (by omega);rw[tR]at h6;refine go ?_;refine Qh (go ?_);refine z28 (fun r' τ=>∃(m:Int) (j:Nat) (z:Option D),τ=[some (fcD p b os),some (.lst (bk.map D.str)),some (ruD W h pa t o lo la g ah be),some (.lst (qs.map eSS)),some (eN ms),some (pcs ps),some (lyD W pa t o b d),some (.lst (rs.map eRw)),some (.int i),some (.int (k+j:Nat)),some (.int e),some (.int m),z]/\m=((ms.drop k).take j).sum/\j+cnt r'=cn ps i e) ⟨_,0,_,rfl,rfl,Nat.zero_add _⟩ ?_ ?_
  ·rintro q r' _ ⟨m,j,z,rfl,h9,h10⟩;rw[cnt,List.countP_cons,<-cnt]at h10;refine go ?_;refine y0 (fun hq=>go ?_) fun hq=>go ?_
   ·rw[show isb q.2.2=true from decide_eq_true hq,jNk rfl]at h10;have hk:k+j<ms.length:=by omega
    refine j8 (by omega) (by rw[tN,pF,tG hk];rfl) (go ?_);refine⟨_,j+1,_,rfl,?_,by omega⟩;rw[h9,List.take_add_one,List.getElem?_drop,tG hk,List.sum_append];simp
   ·rw[jPa (by simpa [isb] using hq)]at h10;exact⟨_,j,_,rfl,h9,by omega⟩
  ·rintro _ ⟨m,j,z,rfl,h9,h10⟩;obtain rfl:j=cn ps i e:=h10;refine go ?_;obtain⟨e4,e5⟩:=hs (i,e) h4 h2 (by simp only;omega);refine zt e4 (go ?_);refine YR (fun s:Int×Str=>eQ (0,s.1,s.2)) (fun s _=>go rfl) (go ?_);refine⟨(1,(sp (i,e)).map fun s=>(0,s.1,s.2),((ms.drop k).take (cn ps i e)).sum),by rw[h9];exact Qx,go ?_⟩;exact⟨_,e,k+cn ps i e,_,_,_,rfl,⟨by rw[<-h1,rws,sS];rfl,h3,by omega⟩,by omega,by rw[tV];simp;omega⟩
 ·rintro _ ⟨rs,i,k,x,y,z,rfl,⟨h1,h2,h4⟩,h5,h6⟩;refine go ?_;rw[<-h1,rws,tQ]
structure Co (fc bk ru qs:D)(ps:List Pce)(W pa t o b d:Int)(bs:List Int)(sp:Int×Int->List (Int×Str)):Prop where
 K:LK ps W o b d
 h:Ch 0 bs ps.length
 e1:ye [fc,bk,ru,qs]=.ok (pcs ps)
 e2:yJ [fc,ru]=.ok (lyD W pa t o b d)
 e3:x8 [pcs ps,lyD W pa t o b d]=.ok (eN bs)
 s:∀x:Int×Int,0<=x.1->x.1<x.2->x.2<=ps.length->yV [pcs ps,lyD W pa t o b d,.int x.1,.int x.2]=.ok (.lst ((sp x).map eS))/\(sp x).length<=10000
abbrev Nt:=Str×List (List Str)
abbrev eX (x:Nt):D:=.tup [.str x.1,.tup (x.2.map eW)]
inductive Bk where
 | head (ws:List Str) | text (xs:List Nt) | tab (T:List (List (List Str))) | leaf
abbrev eB:Bk->D
 | .head ws=>.tup [.str "head",eW ws]
 | .text xs=>.tup [.str "text",.tup (xs.map eX)]
 | .tab T=>.tup [.str "table",tbD T]
 | .leaf=>.tup [.str "leaf"]
def mks:Bk->List Int
 | .head ws=>ws.map fun _=>0
 | .text xs=>xs.map fun x=>(x.2.length:Int)
 | _=>[]
def NK (n:List Str):Prop:=n.length<=20/\∀s∈n,WK s
def BO:Bk->Prop
 | .head ws=>ws.length<=50/\∀s∈ws,WK s
 | .text xs=>xs.length<=14/\∀x∈xs,WK x.1/\x.2.length<=3/\∀n∈x.2,NK n
 | .tab T=>∃c,TK T c
 | .leaf=>True
def Jx {p b:Int}{os:List (Str×Int)}(F:FK p b os){W h pa t o lo la g ah be:Int}(hW:W<=1000000)(ho:0<=o/\o<=1000000){bk:List Str}(B:BK bk){qs:List (Str×Str)}(hq:QK qs):∃ps d bs sp,Co (fcD p b os) (.lst (bk.map D.str)) (ruD W h pa t o lo la g ah be) (.lst (qs.map eSS)) ps W pa t o b d bs sp/\cnt ps=qs.length/\ps.length<=41*qs.length:=by
 obtain⟨_,e1,ps,rfl,⟨h1,h2⟩,h3⟩:=z3O F B hq (W:=W) (h:=h) (pa:=pa) (t:=t) (o:=o) (lo:=lo) (la:=la) (g:=g) (ah:=ah) (be:=be);obtain⟨_,e2,d,rfl,h4⟩:=z6e F (W:=W) (h:=h) (pa:=pa) (t:=t) (o:=o) (lo:=lo) (la:=la) (g:=g) (ah:=ah) (be:=be);have K:LK ps W o b d:=⟨by have:=hq.1;omega,fun q hq=>(h3 q hq).1,fun q hq=>(h3 q hq).2,h4,by have:=F.b;omega,hW,ho⟩
 obtain⟨_,e3,bs,rfl,h5⟩:=z3M K (p:=pa) (t:=t);have hs:∀x:Int×Int,∃ss:List (Int×Str),0<=x.1->x.1<x.2->x.2<=ps.length->yV [pcs ps,lyD W pa t o b d,.int x.1,.int x.2]=.ok (.lst (ss.map eS))/\ss.length<=10000:=fun x=>by
  by_cases hx:0<=x.1/\x.1<x.2/\x.2<=ps.length
  ·obtain⟨_,e,ss,rfl,hl⟩:=z2p (p:=pa) (t:=t) K hx.1 hx.2.1 hx.2.2;exact⟨ss,fun _ _ _=>⟨e,by omega⟩⟩
  ·exact⟨[],fun a b c=>(hx ⟨a,b,c⟩).elim⟩
 obtain⟨sp,hs⟩:=Classical.axiomOfChoice hs;exact⟨ps,d,bs,sp,⟨K,h5,e1,e2,e3,hs⟩,h2,h1⟩
def z0t (ms:List Int):MK ms ms:=fun a b h1 h2=>by rw[JY h1 h2]
def Yz {ms:List Int}(h:∀m∈ms,m=0):MK ms []:=fun a b _ _=>by
 rw[show xw ([]:List Int) (some (a:Int)) (some (b:Int))=[] by unfold xw;simp];have:∀ {xs:List Int},(∀x∈xs,x=0)->xs.sum=0:=fun {xs} h=>by
  induction xs with
  | nil=>rfl
  | cons x xs ih=>rw[List.sum_cons,h x tE,ih fun y hy=>h y (tF _ hy)];rfl
 exact (this fun x hx=>h x (List.mem_of_mem_drop (List.mem_of_mem_take hx))).symm
def z57 {b:Bk}(hb:BO b):Y (wG [eB b]) fun v=>∃ms',v=eN ms'/\MK (mks b) ms':=by
 delta wG kK
 cases b with
 | text xs =>
  have:=hb.1;refine zp (go ?_);refine YR (fun x:Nt=>.int x.2.length) (fun x _=>go rfl) (go ?_);refine⟨mks (.text xs),?_,z0t _⟩;rw[mks,eN,rC];rfl
 | head ws =>
  refine zp (go ?_);exact⟨[],rfl,Yz fun m hm=>by obtain⟨_,_,rfl⟩:=tW.1 hm;rfl⟩
 | tab T =>
  refine zp (go ?_);exact⟨[],rfl,Yz nofun⟩
 | leaf =>
  refine zp (go ?_);exact⟨[],rfl,Yz nofun⟩
section
variable {fc bk ru qs:D}{ps:List Pce}{W pa t o b d:Int}{bs:List Int}{sp:Int×Int->List (Int×Str)}(C:Co fc bk ru qs ps W pa t o b d bs sp)
include C
theorem z1s {x:Bk}(hx:BO x)(hn:∀T,x≠.tab T)(hc:cnt ps=(mks x).length):Y (yy [fc,bk,ru,eB x,qs]) fun v=>v=.lst ((rws ps (mks x) sp 0 0 bs).map eRw):=by
 have key:Y (ya [fc,ru,eB x,pcs ps,eN bs]) fun v=>v=.lst ((rws ps (mks x) sp 0 0 bs).map eRw):=by
  delta ya wj
  cases x
  case tab T=>exact (hn T rfl).elim
  all_goals
   refine zp (go ?_);refine zt C.e2 (go ?_);refine (z57 hx).imp ?_;rintro _ ⟨ms',rfl,hm⟩;refine go ?_;refine (Yj C.K C.h hc C.s hm).imp ?_;rintro _ rfl;exact go rfl
 delta yy um
 refine zp (go ?_);refine zt C.e1 (go ?_);refine zt C.e2 (go ?_);refine zt C.e3 (go ?_);refine key.imp ?_;rintro _ rfl;exact go rfl
theorem z0T {T:List (List (List Str))}{v:D}(e:yl [fc,ru,tbD T]=.ok v):yy [fc,bk,ru,eB (.tab T),qs]=.ok v:=by
 suffices Y (yy [fc,bk,ru,eB (.tab T),qs]) fun w=>w=v by obtain⟨_,e',rfl⟩:=this;exact e'
 have key:Y (ya [fc,ru,eB (.tab T),pcs ps,eN bs]) fun w=>w=v:=by
  delta ya wj
  refine zp (go ?_);exact zt e (go rfl)
 delta yy um
 refine zp (go ?_);refine zt C.e1 (go ?_);refine zt C.e2 (go ?_);refine zt C.e3 (go ?_);refine key.imp ?_;rintro _ rfl;exact go rfl
theorem z10 {T:List (List (List Str))}(e:yl [fc,ru,tbD T]=.err "TooWide"):yy [fc,bk,ru,eB (.tab T),qs]=.err "TooWide":=by
 have key:Z "TooWide" (ya [fc,ru,eB (.tab T),pcs ps,eN bs]) fun _=>False:=by
  delta ya wj
  refine Qc (z2U (z58 (go ?_)));rw[jNk (by decide)];refine z1V (z_L (go ?_));exact .inr e
 have key:ya [fc,ru,eB (.tab T),pcs ps,eN bs]=.err "TooWide":=key.elim (fun⟨_,_,h⟩=>h.elim) id
 suffices Z "TooWide" (yy [fc,bk,ru,eB (.tab T),qs]) fun _=>False from this.elim (fun⟨_,_,h⟩=>h.elim) id
 delta yy um
 refine Qc (XM (go ?_));refine zt C.e1 (go ?_);refine z1V (z_L (go ?_));refine zt C.e2 (go ?_);refine zt C.e3 (go ?_);exact .inr key
end
def Vd {α β:Type}{r:R α}{f:α->R β}{x:Str}(h:r=.err x):r.bind f=.err x:=by rw[h];rfl
def z5Q {n:Nat}{a:Tn->R Fl}{ds:List D}{x:Str}(h:a (ds.map some++List.replicate (n-ds.length) none)=.err x):zF n a ds=.err x:=by rw[zF,h]
section
variable {p b:Int}{os:List (Str×Int)}(F:FK p b os){W h pa t o lo la g ah be:Int}{T:List (List (List Str))}{c:Nat}(K:TK T c)
include F K
theorem z3u:(yl [fcD p b os,ruD W h pa t o lo la g ah be,tbD T]=.err "TooWide"/\zM [fcD p b os,ruD W h pa t o lo la g ah be,tbD T]=.ok .non)\/∃rs:List Rw,(rs.length<=100/\∀r∈rs,r.2.1.length<=100000)/\yl [fcD p b os,ruD W h pa t o lo la g ah be,tbD T]=.ok (.lst (rs.map eRw))/\zM [fcD p b os,ruD W h pa t o lo la g ah be,tbD T]=.ok (.lst (rs.map eRw)):=by
 have hl:=K.l;rcases z6D F K (w:=W) (h:=h) (pa:=pa) (t:=t) (o:=o) (lo:=lo) (la:=la) (g:=g) (ah:=ah) (be:=be)with⟨_,e,n,ns,rfl⟩|e
 ·have hs:∀r:List (List Str),∃x:Int×List (Int×Int×Str),r∈T->xv [fcD p b os,eT r,eN ns]=.ok (.tup [.int x.1,.lst (x.2.map eQ)])/\x.2.length<=20000:=fun r=>by
   by_cases hr:r∈T
   ·obtain⟨_,e,n,ss,rfl,hl⟩:=z2Z F (ns:=ns) (r:=r) (by rw[K.r r hr];exact K.q.2) (K.k r hr);exact⟨(n,ss),fun _=>⟨e,hl⟩⟩
   ·exact⟨(0,[]),fun h=>(hr h).elim⟩
  obtain⟨sr,hs⟩:=Classical.axiomOfChoice hs;refine .inr ⟨T.map fun r=>((sr r).1,(sr r).2,0),⟨by simpa using hl,fun r hr=>by obtain⟨r',hr',rfl⟩:=tW.1 hr;have:=(hs r' hr').2;show (sr r').2.length<=_;omega⟩,?_,?_⟩
  ·suffices Y (yl [fcD p b os,ruD W h pa t o lo la g ah be,tbD T]) fun v=>v=.lst ((T.map fun r=>((sr r).1,(sr r).2,(0:Int))).map eRw) by obtain⟨_,e,rfl⟩:=this;exact e
   delta yl qf
   refine zp (go ?_);refine zt e (go ?_);refine Xu (fun pre τ=>∃x y,τ=[some (fcD p b os),some (ruD W h pa t o lo la g ah be),some (tbD T),some (eN ns),some (.lst (pre.map fun r=>eRw ((sr r).1,(sr r).2,0))),x,y]) ⟨_,_,rfl⟩ ?_ ?_
   ·rintro pre r _ hr hp ⟨x,y,rfl⟩;refine go ?_;refine zt (hs r hr).1 (go ?_);exact⟨_,_,rfl⟩
   ·rintro _ ⟨x,y,rfl⟩;refine go ?_;rw[rC];rfl
  ·suffices Y (zM [fcD p b os,ruD W h pa t o lo la g ah be,tbD T]) fun v=>v=.lst ((T.map fun r=>((sr r).1,(sr r).2,(0:Int))).map eRw) by obtain⟨_,e,rfl⟩:=this;exact e
   delta zM xO
   refine zp (go ?_);refine .inl ⟨_,eN ns,e,rfl,go ?_⟩;refine Xu (fun pre τ=>∃x y z,τ=[some (fcD p b os),some (ruD W h pa t o lo la g ah be),some (tbD T),some (eN ns),some (.lst (pre.map fun r=>eRw ((sr r).1,(sr r).2,0))),x,y,z]) ⟨_,_,_,rfl⟩ ?_ ?_
   ·rintro pre r _ hr hp ⟨x,y,z,rfl⟩;refine go ?_;refine zt (hs r hr).1 (go ?_);refine⟨(_,_),rfl,go ?_⟩;exact⟨_,_,_,rfl⟩
   ·rintro _ ⟨x,y,z,rfl⟩;refine go ?_;rw[rC];rfl
 ·refine .inl ⟨z5Q (Vd (Vd (Vd e))),?_⟩
  suffices Y (zM [fcD p b os,ruD W h pa t o lo la g ah be,tbD T]) fun v=>v=.non by obtain⟨_,e,rfl⟩:=this;exact e
  delta zM xO
  refine zp (go ?_);exact .inr ⟨e,go rfl⟩
end
section
variable {p b:Int}{os:List (Str×Int)}(F:FK p b os){W h pa t o lo la g ah be:Int}(hW:W<=1000000)(ho:0<=o/\o<=1000000){bk:List Str}(B:BK bk)
include F hW ho B
theorem z2a {x:Bk}(hx:BO x){qs:List (Str×Str)}(hq:QK qs)(hl:qs.length=(mks x).length):∃v,yp [fcD p b os,.lst (bk.map D.str),ruD W h pa t o lo la g ah be,eB x,.lst (qs.map eSS)]=.ok v/\yF [fcD p b os,.lst (bk.map D.str),ruD W h pa t o lo la g ah be,eB x,.lst (qs.map eSS)]=.ok v/\(v=.non\/∃rs:List Rw,v=.lst (rs.map eRw)/\rs.length<=10000/\∀r∈rs,r.2.1.length<=100000):=by
 obtain⟨ps,d,bs,sp,C,hc,hpq⟩:=Jx F hW ho B hq (h:=h) (pa:=pa) (t:=t) (lo:=lo) (la:=la) (g:=g) (ah:=ah) (be:=be);have hcl:=jr C.h;have hpl:=C.K.l;have hrl:∀ms (bs:List Int) i k,(rws ps ms sp i k bs).length=bs.length:=fun ms bs=>by
  induction bs with
  | nil=>intros;rfl
  | cons e es ih=>intros;rw[rws,tR,ih,tR]
 have tl:∀ {r:D} {xD:D},yy [fcD p b os,.lst (bk.map D.str),ruD W h pa t o lo la g ah be,xD,.lst (qs.map eSS)]=.ok r->yp [fcD p b os,.lst (bk.map D.str),ruD W h pa t o lo la g ah be,xD,.lst (qs.map eSS)]=.ok r:=fun {r xD} e=>by
  suffices Y (yp [fcD p b os,.lst (bk.map D.str),ruD W h pa t o lo la g ah be,xD,.lst (qs.map eSS)]) fun v=>v=r by obtain⟨_,e',rfl⟩:=this;exact e'
  delta yp vT
  refine zp (go ?_);exact .inl ⟨_,e,go rfl⟩
 have due:(∀T,x≠.tab T)->yF [fcD p b os,.lst (bk.map D.str),ruD W h pa t o lo la g ah be,eB x,.lst (qs.map eSS)]=.ok (.lst ((rws ps (mks x) sp 0 0 bs).map eRw)):=fun hn=>by
  have key:=W7 F B C.K C.h (hc.trans hl) C.e1 C.e2 C.e3 C.s
  suffices Y (yF [fcD p b os,.lst (bk.map D.str),ruD W h pa t o lo la g ah be,eB x,.lst (qs.map eSS)]) fun v=>v=.lst ((rws ps (mks x) sp 0 0 bs).map eRw) by obtain⟨_,e',rfl⟩:=this;exact e'
  delta yF uO
  cases x with
  | tab T=>exact (hn T rfl).elim
  | leaf =>
   refine zp (go ?_);cases bs with
   | nil=>exact rfl
   | cons e es =>
    rw[show (mks .leaf).length=0 from rfl]at hl;simp only[tR]at hcl;omega
  | head ws =>
   have:=hx.1;refine zp (go ?_);refine YR (fun x:Str=>.int 0) (fun x _=>go rfl) (go ?_);rw[show ws.map (fun x:Str=>D.int 0)=(mks (.head ws)).map D.int by rw[mks,rC];rfl];exact key.imp fun _ h=>h
  | text xs =>
   have:=hx.1;refine zp (go ?_);refine YR (fun x:Nt=>.int 0) (fun x _=>go rfl) (go ?_);refine YR (fun x:Nt=>.int x.2.length) (fun x _=>go rfl) (go ?_);rw[show xs.map (fun x:Nt=>D.int x.2.length)=(mks (.text xs)).map D.int by rw[mks,rC];rfl];exact key.imp fun _ h=>h
 cases x with
 | tab T =>
  obtain⟨c,hT⟩:=hx;have dT:∀ {r:D},zM [fcD p b os,ruD W h pa t o lo la g ah be,tbD T]=.ok r->yF [fcD p b os,.lst (bk.map D.str),ruD W h pa t o lo la g ah be,eB (.tab T),.lst (qs.map eSS)]=.ok r:=fun {r} e=>by
   suffices Y (yF [fcD p b os,.lst (bk.map D.str),ruD W h pa t o lo la g ah be,eB (.tab T),.lst (qs.map eSS)]) fun v=>v=r by obtain⟨_,e',rfl⟩:=this;exact e'
   delta yF uO
   refine zp (go ?_);exact zt e (go rfl)
  rcases z3u F hT (W:=W) (h:=h) (pa:=pa) (t:=t) (o:=o) (lo:=lo) (la:=la) (g:=g) (ah:=ah) (be:=be)with⟨e1,e2⟩|⟨rs,hr,e1,e2⟩
  ·refine⟨.non,?_,dT e2,.inl rfl⟩
   suffices Y (yp [fcD p b os,.lst (bk.map D.str),ruD W h pa t o lo la g ah be,eB (.tab T),.lst (qs.map eSS)]) fun v=>v=.non by obtain⟨_,e',rfl⟩:=this;exact e'
   delta yp vT
   refine zp (go ?_);exact .inr ⟨z10 C e1,go rfl⟩
  ·exact⟨_,tl (z0T C e1),dT e2,.inr ⟨rs,rfl,by omega,hr.2⟩⟩
 | _ =>
  obtain⟨_,e,rfl⟩:=z1s C hx nofun (hc.trans hl);exact⟨_,tl e,due nofun,.inr ⟨_,rfl,by rw[hrl];omega,fun r hr=>by have:=Yy C.s (rX _) C.h r hr;omega⟩⟩
end
def z34:∀j,j<200->((j:Nat):Int).natAbs.log2<1920/\(("(":Str)++(toString ((j:Nat):Int):Str)).length<=5/\(("(":Str)++(toString ((j:Nat):Int):Str)++(")":Str)).length<=5:=by decide +kernel
def z6w {i:Int}{Q:D->Prop}(h0:0<=i)(h1:i<200)(k:∀s:Str,s.length<=5->Q (.str s)):Y (f3D "(" ")" (.int i)) Q:=by
 have h:=z34 i.toNat (by omega);rw[sY h0]at h;exact⟨_,jNk ⟨h.1,by decide +kernel,by rw[jMc];omega,by rw[jMc];omega⟩,k _ h.2.2⟩
def tail {f:Int}{m:Nat}(h0:0<=f)(h1:f+m<=200)(h2:m<=100):Y (vf [.int f,.int m]) fun v=>∃s:Str,v=.str s/\s.length<=500:=by
 delta vf ZL
 refine zp (go ?_);refine yU D.str (fun s=>s.length<=5) (fun d h=>?_) fun ys hy h=>go ?_
 ·obtain⟨i,rfl,_,_⟩:=xq h;refine go ?_;exact z6w (by omega) (by omega) fun s hs=>go hs
 rw[yz]at hy;have hs:=jS (g:=Str.length) ys h;have hj:=K6 ys;refine Vt (by rw[Wc,Nat.mul_zero];exact sE hs (by omega)) (go ?_);exact sE hj (sE hs (by omega))
def V9 {xs:List Nt}{f:Int}(h0:0<=f)(h1:f<=150)(hx:BO (.text xs)):Y (xM [.tup (xs.map eX),.int f]) fun v=>∃qs:List (Str×Str),v=.lst (qs.map eSS)/\QK qs/\qs.length=xs.length:=by
 have hl:=hx.1
 delta xM qy
 refine zp (go ?_);refine Xu (fun pre τ=>∃(qs:List (Str×Str)) (n:Int) (x y:Option D),τ=[some (.tup (xs.map eX)),some (.int f),some (.lst (qs.map eSS)),some (.int n),x,y]/\(qs.length=pre.length/\0<=n/\n<=f+3*pre.length)/\∀q∈qs,WK q.1/\q.2.length<=500) ⟨[],_,_,_,rfl,⟨rfl,h0,by simp⟩,nofun⟩ ?_ ?_
 ·rintro pre x _ hm hp ⟨qs,n,y,z,rfl,⟨e1,e2,e3⟩,hq⟩;obtain⟨w1,w2,_⟩:=hx.2 x hm;refine go ?_;refine (tail (by omega) (by omega) (by omega)).imp ?_;rintro _ ⟨s,rfl,hs⟩;refine go ?_;refine⟨(_,_),rfl,go ?_⟩;exact⟨_,_,_,_,rfl,⟨by simp[e1],by omega,by rw[tV,sT];omega⟩,xI hq ⟨w1,hs⟩⟩
 ·rintro _ ⟨qs,n,y,z,rfl,⟨e1,e2,e3⟩,hq⟩;refine go ?_;exact⟨⟨by omega,hq⟩,e1⟩
def QR {b:Bk}(hb:BO b){f:Int}(h0:0<=f)(h1:f<=150):Y (wA [eB b,.int f]) fun v=>∃qs:List (Str×Str),v=.lst (qs.map eSS)/\QK qs/\qs.length=(mks b).length:=by
 delta wA Zj
 cases b with
 | head ws =>
  have:=hb.1;refine zp (go ?_);refine yU eSS (fun q=>WK q.1/\q.2.length<=500) (fun d h=>?_) fun ys hy h=>go ?_
  ·obtain⟨s,hs,rfl⟩:=tW.1 h;refine go ?_;exact⟨(s,""),rfl,hb.2 s hs,by show (Str.ofString "").length<=500;rw[Wc];decide⟩
  ·rw[tH]at hy;exact⟨⟨by omega,h⟩,by rw[mks,tH];exact hy⟩
 | text xs =>
  refine zp (go ?_);refine (V9 h0 h1 hb).imp ?_;rintro _ ⟨qs,rfl,h2,h3⟩;refine go ?_;rw[mks,tH];exact h3
 | tab T =>
  refine zp (go ?_);exact⟨[],rfl,⟨by decide,nofun⟩,rfl⟩
 | leaf =>
  refine zp (go ?_);exact⟨[],rfl,⟨by decide,nofun⟩,rfl⟩
def QO {b:Bk}(hb:BO b):Y (wK [eB b]) fun v=>∃ns:List (List Str),v=.lst (ns.map eW)/\ns.length<=42/\∀n∈ns,NK n:=by
 delta wK Zg
 cases b with
 | text xs =>
  have hl:=hb.1;refine zp (go ?_);refine Xu (fun pre τ=>∃(ns:List (List Str)) (x y:Option D),τ=[some (eB (.text xs)),some (.lst (ns.map eW)),x,y]/\ns.length<=3*pre.length/\∀n∈ns,NK n) ⟨[],_,_,rfl,tI _,nofun⟩ ?_ ?_
  ·rintro pre x _ hm hp ⟨ns,y,z,rfl,e1,hn⟩;obtain⟨_,w2,w3⟩:=hb.2 x hm;refine go ?_;refine z1y rfl imW (go ?_);refine⟨x.2,.inr rfl,by omega,go ?_⟩;exact⟨_,_,_,rfl,by simp only[tV,sT];omega,fun n h=>(tS.1 h).elim (hn n) (w3 n)⟩
  ·rintro _ ⟨ns,y,z,rfl,e1,hn⟩;refine go ?_;exact hn
 | _ =>
  refine zp (go ?_);exact⟨[],rfl,by decide,nofun⟩
abbrev eQs (qs:List (Str×Str)):D:=.lst (qs.map eSS)
abbrev ZK (z:Bk×List (Str×Str)):Prop:=BO z.1/\QK z.2/\z.2.length=(mks z.1).length
def z5Z {bs:List Bk}(hl:bs.length<=4)(hb:∀b∈bs,BO b):Y (qj [.lst (bs.map eB)]) fun v=>∃(ns:List (List Str)) (zs:List (Bk×List (Str×Str))),v=.tup [.lst (ns.map eW),.lst (zs.map fun z=>eQs z.2)]/\zs.map (·.1)=bs/\(∀z∈zs,ZK z)/\ns.length<=1000/\∀n∈ns,NK n:=by
 delta qj VY
 refine zp (go ?_);refine Xu (fun pre τ=>∃(ns:List (List Str)) (zs:List (Bk×List (Str×Str))) (x:Option D),τ=[some (.lst (bs.map eB)),some (.lst (ns.map eW)),some (.lst (zs.map fun z=>eQs z.2)),x]/\zs.map (·.1)=pre/\(∀z∈zs,ZK z)/\ns.length<=42*pre.length/\∀n∈ns,NK n) ⟨[],[],_,rfl,rfl,nofun,tI _,nofun⟩ ?_ ?_
 ·rintro pre b _ hm hp ⟨ns,zs,x,rfl,e1,hz,e2,hn⟩;have hB:=hb b hm;have hzl:zs.length=pre.length:=by rw[<-e1,tH]
  refine go ?_;refine (QR hB (by omega) (by omega)).imp ?_;rintro _ ⟨qs,rfl,hq,hq2⟩;refine go ?_;refine⟨(b,qs),rfl,go ?_⟩;refine z1y rfl imW (go ?_);refine (QO hB).imp ?_;rintro _ ⟨ms,rfl,hm1,hm2⟩;refine⟨ms,.inl rfl,by omega,go ?_⟩;exact⟨_,_,_,rfl,by rw[rR,e1];rfl,xI hz ⟨hB,hq,hq2⟩,by simp only[tV,sT];omega,fun n h=>(tS.1 h).elim (hn n) (hm2 n)⟩
 ·rintro _ ⟨ns,zs,x,rfl,e1,hz,e2,hn⟩;refine go ?_;exact⟨_,_,rfl,e1,hz,by omega,hn⟩
abbrev AZ:Str:="abcdefghijklmnopqrstuvwxyz"
def zs (c:Nat):Prop:=c∈Z2.cps.toList
instance (c:Nat):Decidable (zs c):=by unfold zs;infer_instance
def z4g:∀c∈AZ.cps.toList,zs c:=by decide +kernel
def z41:∀c∈AZ.cps.toList,Txt.upper (one c)=one (c-32)/\zs (c-32):=by decide +kernel
def k6A:∀k,k<10->zs (k+48):=by decide +kernel
def k6B:∀j,j<1000->(1<=(toString ((j:Nat):Int):Str).length/\(toString ((j:Nat):Int):Str).length<=3/\∀c∈(toString ((j:Nat):Int):Str).cps.toList,48<=c/\c-48<10)/\((j:Nat):Int).natAbs.log2<1920:=by decide +kernel
def K8:∀j,j<1000->(1<=(toString ((j:Nat):Int):Str).length/\(toString ((j:Nat):Int):Str).length<=3/\∀c∈(toString ((j:Nat):Int):Str).cps.toList,zs c)/\((j:Nat):Int).natAbs.log2<1920:=fun j h=>let⟨⟨a,b,k⟩,l⟩:=k6B j h;⟨⟨a,b,fun c g=>by have e:=k6A _ (k c g).2;rwa[Nat.sub_add_cancel (k c g).1] at e⟩,l⟩
def SK (P:Nat->Prop)(a b:Nat)(s:Str):Prop:=(a<=s.length/\s.length<=b)/\∀c∈s.cps.toList,P c
def ua {P:Nat->Prop}{a b a' b':Nat}{x:Str}(h:SK P a b x)(ha:a'<=a)(hb:b<=b'):SK P a' b' x:=⟨by have:=h.1;omega,h.2⟩
def z4s {P P':Nat->Prop}{a b:Nat}{x:Str}(h:SK P a b x)(k:∀c,P c->P' c):SK P' a b x:=⟨h.1,fun c hc=>k c (h.2 c hc)⟩
def wc {P:Nat->Prop}{a b a' b':Nat}{x y:Str}(h:SK P a b x)(k:SK P a' b' y):SK P (a+a') (b+b') (x++y):=by
 have h1:=h.1;have k1:=k.1;refine⟨by rw[Str.length_append];omega,fun c hc=>?_⟩;rw[z0w]at hc;exact (tS.1 hc).elim (h.2 c) (k.2 c)
def z1J {P:Nat->Prop}{a b:Nat}{x:Str}(h:SK P a b x)(l u:Option Int):SK P 0 b (Txt.slice x l u):=by
 refine⟨by have:=Txt.slice_le x l u;have:=h.1;omega,fun c hc=>?_⟩;unfold Txt.slice at hc;split at hc
 ·exact h.2 c hc
 ·rw[List.toList_toArray]at hc;obtain⟨i,_,e⟩:=rA.1 hc;exact h.2 c (Array.mem_toList_iff.2 (Array.mem_of_getElem? e))
def z3q {P:Nat->Prop}{a b:Nat}{x:Str}(h:SK P a b x):SK P 0 b (Uj x):=by
 refine⟨⟨rD _,?_⟩,fun c hc=>?_⟩
 ·have h1:=List.length_filterMap_le (x.cps[·]?) (slicePicked x none none (some (-1,0)));have h2:(slicePicked x none none (some (-1,0))).length<=x.length:=sliceIndicesBy_le none none (-1) (by decide) x.length;have:=h.1;show (List.toArray _).size<=_;rw[tM];omega
 ·unfold Uj at hc;rw[List.toList_toArray]at hc;obtain⟨i,_,e⟩:=rA.1 hc;exact h.2 c (Array.mem_toList_iff.2 (Array.mem_of_getElem? e))
def UC (x:Str):∀ys:List Str,Str.join "" (x::ys)=x++Str.join "" ys
 | []=>(Str.append_empty x).symm
 | y::ys=>by
  show x++""++Str.join "" (y::ys)=x++Str.join "" (y::ys);have:(x++("":Str))=x:=Str.append_empty x;rw[this]
theorem Xe {P:Nat->Prop}:∀ {ys:List Str},(∀y∈ys,SK P 1 1 y)->SK P ys.length ys.length (Str.join "" ys)
 | [],_=>⟨⟨tI _,by decide +kernel⟩,nofun⟩
 | y::ys,h=>by
  rw[UC,tR,Nat.add_comm];exact wc (h y tE) (Xe fun z hz=>h z (tF _ hz))
def z31 {w:Str}(h:1<=w.length):∃c∈w.cps.toList,Txt.slice w none (some 1)=one c:=by
 have hs:0<w.cps.size:=h;refine⟨w.cps[0],Array.mem_toList_iff.2 (Array.getElem_mem hs),?_⟩;have e:Builtin.Str.strSliceIndices none (some 1) 1 w.length=[0]:=by
  rw[StrLaws.sliceIdx_none_lo];exact StrLaws.strSliceIndices_plain (a:=0) (b:=1) (rD _) h
 unfold Txt.slice;rw[e];split
 ·rename_i h1;have h1:1=w.cps.size:=by simpa [Str.length] using h1
  have h1:=h1.symm;obtain⟨l⟩:=w;congr 1;apply Array.ext (by simpa using h1);intro i h2 h3;have:i=0:=by simp at h3;exact h3
  subst this;rfl
 ·simp[hs]
def qp {x:Str}(h:SK zs 1 40 x):WK x:=⟨h.1.1,h.1.2,h.2⟩
def jE {ds:List Int}{i:Int}{Q:D->Prop}(k:∀v∈ds,Q (.int v))(h0:autoParam (0<=i) L2.au12._auto_1)(h1:autoParam (i<ds.length) L2.au17._auto_1):Y (ixD (.lst (ds.map D.int)) (.int i)) Q:=by
 have h:i.toNat<ds.length:=by omega
 exact j8 h0 (by rw[tN,tG h];rfl) (k _ (sR h))
def Kh {ds:List Str}{i:Int}{Q:D->Prop}(k:∀v∈ds,Q (.str v))(h0:autoParam (0<=i) L2.au12._auto_1)(h1:autoParam (i<ds.length) L2.au17._auto_1):Y (ixD (.lst (ds.map D.str)) (.int i)) Q:=by
 have h:i.toNat<ds.length:=by omega
 exact j8 h0 (by rw[tN,tG h];rfl) (k _ (sR h))
def cell {ns:List Int}{k:Int}(h:0<=k):Y (zD [.frl (ns.map D.int),.int k]) isI:=by
 delta zD uc
 refine zp (go ?_);refine zt z0W (go ?_);refine y0 (fun hk=>go ?_) fun _=>go iI;rw[tH]at hk;exact zt (z27 (Xr h (by rw[tN,tG (by omega)];rfl))) (go iI)
def letter {n s:Int}:Y (yE [.int n,.int s]) fun v=>∃x:Str,v=.str x/\SK (·∈AZ.cps.toList) 1 1 x:=by
 have hl:AZ.length=26:=by decide +kernel
 delta yE uz
 refine zp (go ?_);refine ki (by show AZ.length<=_;omega) (by omega) (by show _<(AZ.length:Int);rw[hl];omega) fun c hc=>go ?_;exact⟨⟨tI _,tI _⟩,fun d hd=>by cases sI.1 hd;exact hc⟩
def X7 (x:Str)(a b:Nat)(h:(a<=x.length/\x.length<=b)/\∀c∈x.cps.toList,zs c):SK zs a b x:=h
def word {n s:Int}:Y (xf [.int n,.int s]) fun v=>∃x:Str,v=.str x/\WK x:=by
 delta xf jv
 refine zp (go ?_);refine yU D.str (SK (·∈AZ.cps.toList) 1 1) (fun d h=>?_) fun ys hy h=>go ?_
 ·obtain⟨i,rfl,_,_⟩:=xq h;refine go ?_;refine jE (ds:=[1,3,7,11,31,101,211,401,809,1601]) fun v hv=>go ?_;have:0<v/\v<2000:=(by decide:∀v∈[(1:Int),3,7,11,31,101,211,401,809,1601],0<v/\v<2000) v hv;refine J7 (by omega) (go ?_);refine letter.imp ?_;rintro _ ⟨x,rfl,hx⟩;exact go hx
 rw[yz]at hy;have hw:=Xe h;have hs:=jS (g:=Str.length) (c:=1) ys fun y hy=>(h y hy).1.2;refine Vt (by rw[Wc,Nat.mul_zero];exact sE hs (by omega)) (go ?_);have hw:=ua (a':=1) (b':=10) hw (by omega) (by omega);clear h hs hy;generalize Str.join (Str.ofString "") ys=w at hw ⊢;have hz:=z4s hw z4g;have h1:=hw.1;have sl:=Txt.slice_le w;have s1:=z1J hz (some 1) none;have hr:=z3q hz;have s1':=s1.1;have hr':=hr.1;obtain⟨c,hc,e1⟩:=z31 h1.1;refine y0 (fun _=>go ?_) fun _=>go ?_
 ·rw[e1];obtain⟨e2,hu⟩:=z41 c (hw.2 c hc);refine⟨_,jNk (show (one c).length<=_ by rw[qz];decide),?_⟩;rw[e2];refine go ?_;refine xr (by rw[qz];omega) (go ?_);exact qp (ua (wc (a:=1) (b:=1) ⟨⟨tI _,tI _⟩,fun d hd=>by cases sI.1 hd;exact hu⟩ s1) (by omega) (by omega))
 refine y0 (fun _=>go ?_) fun _=>go ?_
 ·refine Kh (ds:=[".",",","?",")"]) fun v hv=>go ?_;have hv:SK zs 1 1 v:=(by decide +kernel:∀v∈([".",",","?",")"]:List Str),(1<=v.length/\v.length<=1)/\∀c∈v.cps.toList,zs c) v hv;have:=hv.1;refine xr (by omega) (go ?_);exact qp (ua (wc hz hv) (by omega) (by omega))
 have hd:SK zs 1 1 "-":=X7 _ _ _ (by decide +kernel);have ho:SK zs 1 1 "(":=X7 _ _ _ (by decide +kernel);have hp:SK zs 1 1 ")":=X7 _ _ _ (by decide +kernel);have hd':=hd.1;have ho':=ho.1;have hp':=hp.1;refine y0 (fun _=>go ?_) fun _=>go ?_
 ·have k:=wc hz hd;have k':=k.1;refine xr (by omega) (go ?_);refine⟨_,jNk (by rw[jMc];omega),go ?_⟩;refine xr (by omega) (go ?_);exact qp (ua (wc k hr) (by omega) (by omega))
 refine y0 (fun _=>go ?_) fun _=>go ?_
 ·obtain⟨k,l⟩:=K8 (n%1000).toNat (by omega);rw[sY (by omega)]at k l;refine⟨_,jNk l,go ?_⟩;exact qp (ua (P:=zs) (a:=1) (b:=3) ⟨⟨k.1,k.2.1⟩,k.2.2⟩ (by omega) (by omega))
 refine y0 (fun _=>go ?_) fun _=>go ?_
 ·refine xr (by omega) (go ?_);exact qp (ua (wc ho hz) (by omega) (by omega))
 refine y0 (fun _=>go ?_) fun _=>go ?_
 ·have k0:=z1J hz none (some 1);have k0':=k0.1;have k:=wc k0 ho;have k':=k.1;have l:=wc k s1;have l':=l.1;refine xr (by omega) (go ?_);refine xr (by omega) (go ?_);refine xr (by omega) (go ?_);exact qp (ua (wc l hp) (by omega) (by omega))
 refine y0 (fun _=>go ?_) fun _=>go ?_
 ·refine Kh (ds:=["'",":","/","\"","!"]) fun v hv=>go ?_;have hv:SK zs 1 1 v:=(by decide +kernel:∀v∈(["'",":","/","\"","!"]:List Str),(1<=v.length/\v.length<=1)/\∀c∈v.cps.toList,zs c) v hv;have hv':=hv.1;have k:=wc hv hz;have k':=k.1;refine xr (by omega) (go ?_);refine Kh (ds:=["(2)",";","(1)"]) fun u hu=>go ?_;have hu:SK zs 1 3 u:=(by decide +kernel:∀v∈(["(2)",";","(1)"]:List Str),(1<=v.length/\v.length<=3)/\∀c∈v.cps.toList,zs c) u hu;have hu':=hu.1;refine xr (by omega) (go ?_);exact qp (ua (wc k hu) (by omega) (by omega))
 exact qp (ua hz (by omega) (by omega))
def Kg {n m s:Int}(h0:0<=m)(h1:m<=4):Y (yk [.int n,.int m,.int s]) fun v=>∃ws:List Str,v=eW ws/\(ws.length:Int)=m/\∀w∈ws,WK w:=by
 delta yk qi
 refine zp (go ?_);refine yU D.str WK (fun d h=>?_) fun ys hy h=>go ?_
 ·obtain⟨i,rfl,_,_⟩:=xq h;have hi:i*i<=4*4:=Int.mul_le_mul (by omega) (by omega) (by omega) (by omega);have hi0:0<=i*i:=Int.mul_nonneg (by omega) (by omega);refine go ?_;refine word.imp ?_;rintro _ ⟨x,rfl,hx⟩;exact go hx
 rw[yz]at hy;exact zt (wq (zV (fun _=>rfl) ys)) (go h)
def z2v {i c:Int}(h0:0<=i)(h1:i<=100):0<=i*i/\i*i<=10000:=⟨Int.mul_nonneg h0 h0,Int.mul_le_mul h1 h1 h0 (by omega)⟩
def imX (x:Nt):(eX x).imm=true:=by
 show (D.imms [.str x.1,.tup (x.2.map eW)])=true;show (true&&(D.imms (x.2.map eW)&&true))=true;rw[zV imW];rfl
def imT (r:List (List Str)):(eT r).imm=true:=zV imW r
def imB {b:Bk}:(eB b).imm=true:=by
 cases b with
 | head ws=>show (true&&((eW ws).imm&&true))=true;rw[imW];rfl
 | text xs=>show (true&&(D.imms (xs.map eX)&&true))=true;rw[zV imX];rfl
 | tab T=>show (true&&(D.imms (T.map eT)&&true))=true;rw[zV imT];rfl
 | leaf=>rfl
def z5C {ws:List Str}(h:ws.length<=20)(k:∀w∈ws,WK w):NK ws:=⟨h,k⟩
def z4x {ws:List Str}(h:ws.length<=20)(k:∀w∈ws,WK w):CK ws:=⟨by omega,fun w hw=>by have:=(k w hw).b;omega⟩
theorem text {n r m s:Int}(h0:1<=m)(h1:m<=14)(r0:-1000<=r)(r1:r<=1000):Y (w6 [.int n,.int r,.int m,.int s]) fun v=>∃(x:Bk) (r':Int),v=.tup [eB x,.int r']/\BO x/\r-42<=r'/\r'<=r:=by
 have q0:=Int.emod_nonneg n (show m≠0 by omega);have q1:=Int.emod_lt_of_pos n (show 0<m by omega)
 delta w6 jo
 refine zp (go ?_);refine jA (fun k τ=>∃(xs:List Nt) (r':Int) (x y z u:Option D),τ=[some (.int n),some (.int r'),some (.int m),some (.int s),some (.lst (xs.map eX)),x,y,z,u]/\(r-3*k<=r'/\r'<=r/\xs.length=k)/\∀x∈xs,WK x.1/\x.2.length<=3/\∀n∈x.2,NK n) ⟨[],r,_,_,_,_,rfl,⟨by omega,by omega,rfl⟩,nofun⟩ ?_ ?_
 ·rintro k _ _ hk ⟨xs,r',x,y,z,u,rfl,⟨e1,e2,e3⟩,hx⟩;obtain⟨hk,rfl⟩:=vC hk;have:=z2v (c:=0) (i:=0+(k:Int)) (by omega) (by omega);refine go ?_;refine jE (ds:=[0,0,0,0,1,0,2,3]) fun v hv=>go ?_;have hv:0<=v/\v<=3:=(by decide:∀v∈[(0:Int),0,0,0,1,0,2,3],0<=v/\v<=3) v hv;obtain⟨j,hj,hj3,hjr⟩:∃j:Int,(if v<r' then v else r')=j/\j<=3/\-2000<=j:=⟨_,rfl,by split<;>omega,by split<;>omega⟩
  rw[hj];refine Vr (by omega) (go ?_);generalize hM:(n/7*((0+(k:Int))*(0+(k:Int))+1)+7919*(0+(k:Int)))*69621%1000003=M;refine jA (fun i τ=>∃(ns:List (List Str)) (u:Option D),τ=[some (.int n),some (.int r'),some (.int m),some (.int s),some (.lst (xs.map eX)),some (.int (0+k)),some (.int M),some (.lst (ns.map eW)),u]/\ns.length=i/\∀n∈ns,NK n) ⟨[],_,by rw[<-hM];rfl,rfl,nofun⟩ ?_ ?_
  ·rintro i _ _ hi ⟨ns,u,rfl,e4,hn⟩;obtain⟨hi,rfl⟩:=vC hi;refine go ?_;refine (Kg (by omega) (by omega)).imp ?_;rintro _ ⟨ws,rfl,hw1,hw2⟩;refine⟨ws,rfl,by omega,go ?_⟩;exact⟨_,_,rfl,by simp[e4],xI hn (z5C (by omega) hw2)⟩
  ·rintro _ ⟨ns,u,rfl,e4,hn⟩;rw[yz]at e4;refine go ?_;refine word.imp ?_;rintro _ ⟨x,rfl,hx'⟩;refine go ?_;refine zt (wq (zV imW ns)) (go ?_);refine⟨(x,ns),rfl,by omega,go ?_⟩;exact⟨_,_,_,_,_,_,rfl,⟨by omega,by omega,by simp[e3]⟩,xI hx ⟨hx',by show ns.length<=3;omega,hn⟩⟩
 ·rintro _ ⟨xs,r',x,y,z,u,rfl,⟨e1,e2,e3⟩,hx⟩;rw[yz]at e1 e3;refine go ?_;refine zt (wq (zV imX xs)) (go ?_);refine⟨by show ((eB (.text xs)).imm&&(true&&true))=true;rw[imB];rfl,go ?_⟩;exact⟨.text xs,_,rfl,⟨by omega,hx⟩,by omega,by omega⟩
def table {n s:Int}:Y (xP [.int n,.int s]) fun v=>∃T,v=eB (.tab T)/\BO (.tab T):=by
 delta xP qo
 refine zp (go ?_);obtain⟨c,hc,h1,h4⟩:∃c:Nat,(c:Int)=1+n/9%4/\1<=c/\c<=4:=⟨(1+n/9%4).toNat,by omega,by omega,by omega⟩
 refine jA (fun k τ=>∃(T:List (List (List Str))) (x y z:Option D),τ=[some (.int n),some (.int s),some (.lst (T.map eT)),x,y,z]/\T.length=k/\∀r∈T,r.length=c/\∀ws∈r,CK ws) ⟨[],_,_,_,rfl,rfl,nofun⟩ ?_ ?_
 ·rintro k _ _ hk ⟨T,x,y,z,rfl,e3,hx⟩;obtain⟨hk,rfl⟩:=vC hk;have:=z2v (c:=0) (i:=0+(k:Int)) (by omega) (by omega);refine go ?_;refine yU eW CK (fun d h=>?_) fun ys hy h=>go ?_
  ·obtain⟨i,rfl,_,_⟩:=xq h;refine go ?_;refine (Kg (by omega) (by omega)).imp ?_;rintro _ ⟨ws,rfl,hw1,hw2⟩;exact go (z4x (by omega) hw2).2
  rw[yz]at hy;refine zt (wq (zV imW ys)) (go ?_);exact⟨_,_,_,_,rfl,by simp[e3],xI hx ⟨by omega,h⟩⟩
 ·rintro _ ⟨T,x,y,z,rfl,e3,hx⟩;rw[yz]at e3;refine go ?_;refine zt (wq (zV imT T)) (go ?_);exact⟨c,fun h=>by subst h;simp at e3;omega,by omega,by omega,fun r hr=>(hx r hr).1,fun r hr=>(hx r hr).2⟩
def z6l {n r s:Int}(r0:-1000<=r)(r1:r<=1000):Y (xN [.int n,.int r,.int s]) fun v=>∃(x:Bk) (r':Int),v=.tup [eB x,.int r']/\BO x/\r-42<=r'/\r'<=r:=by
 delta xN qk
 refine zp (go ?_);refine y0 (fun _=>go ?_) fun _=>go ?_
 ·refine (Kg (by omega) (by omega)).imp ?_;rintro _ ⟨ws,rfl,hw1,hw2⟩;refine go ?_;refine⟨by show ((eB (.head ws)).imm&&(true&&true))=true;rw[imB];rfl,go ?_⟩;exact⟨.head ws,_,rfl,⟨by omega,hw2⟩,by omega,by omega⟩
 refine y0 (fun _=>go ?_) fun _=>go ?_
 ·refine table.imp ?_;rintro _ ⟨T,rfl,hT⟩;refine go ?_;refine⟨by show ((eB (.tab T)).imm&&(true&&true))=true;rw[imB];rfl,go ?_⟩;exact⟨.tab T,_,rfl,hT,by omega,by omega⟩
 refine y0 (fun _=>go ?_) fun _=>go ?_
 ·exact⟨.leaf,_,rfl,trivial,by omega,by omega⟩
 refine jE (ds:=[4,6,10,14,6]) fun v hv=>go ?_;have hv:1<=v/\v<=14:=(by decide:∀v∈[(4:Int),6,10,14,6],1<=v/\v<=14) v hv;refine (text hv.1 hv.2 r0 r1).imp ?_;rintro _ ⟨x,r',rfl,h⟩;refine go ?_;exact⟨x,r',rfl,h⟩
def blocks {ns:List Int}{s:Int}:Y (xm [.frl (ns.map D.int),.int 5,.int 4,.int s]) fun v=>∃bs:List Bk,v=.lst (bs.map eB)/\bs.length<=4/\∀b∈bs,BO b:=by
 delta xm uC
 refine zp (go ?_);refine (cell (by omega)).imp ?_;rintro _ ⟨c,rfl⟩;refine go ?_;refine mid (fun f=>∃r:Int,f=.nx [some (.frl (ns.map D.int)),some (.int 5),some (.int 4),some (.int s),some (.lst []),some (.int r),none,none]/\5<=r/\r<=14) (y0 (fun _=>go ?_) fun _=>go ?_) ?_
 ·decide
 ·decide
 rintro _ ⟨r,rfl,h5,h14⟩;refine go ?_;refine (cell (by omega)).imp ?_;rintro _ ⟨c',rfl⟩;refine go ?_;refine jA (fun k τ=>∃(bs:List Bk) (r':Int) (x y:Option D),τ=[some (.frl (ns.map D.int)),some (.int 5),some (.int 4),some (.int s),some (.lst (bs.map eB)),some (.int r'),x,y]/\(bs.length=k/\r'<=14/\5-42*k<=r')/\∀b∈bs,BO b) ⟨[],_,_,_,rfl,⟨rfl,by omega,by omega⟩,nofun⟩ ?_ ?_
 ·rintro k _ _ hk ⟨bs,r',x,y,rfl,⟨e1,e2,e3⟩,hb⟩;obtain⟨hk,rfl⟩:=vC hk;refine go ?_;refine (cell (by omega)).imp ?_;rintro _ ⟨c',rfl⟩;refine go ?_;refine (z6l (by omega) (by omega)).imp ?_;rintro _ ⟨b,r2,rfl,hB,h6,h7⟩;refine go ?_;refine⟨imB,b,rfl,by omega,go ?_⟩;exact⟨_,_,_,_,rfl,⟨by simp[e1],by omega,by omega⟩,xI hb hB⟩
 ·rintro _ ⟨bs,r',x,y,rfl,⟨e1,e2,e3⟩,hb⟩;rw[yz]at e1;refine go ?_;exact hb
abbrev SG:Str:="!\"'(),-./0123456789:;?ABCDEFGHIJKLMNOPQRSTUVWXYZabcdefghijklmnopqrstuvwxyz"
def imR (r:Str×Int):(eR r).imm=true:=rfl
def face {n:Int}:Y (w8 [.int n]) fun v=>∃p b os,v=fcD p b os/\FK p b os/\p<=3:=by
 have hl:SG.length=74:=by decide +kernel
 delta w8 je
 refine zp (go ?_);refine jE (ds:=[1,1,1,2,3,1]) fun p hp=>go ?_;have hp:1<=p/\p<=3:=(by decide:∀v∈[(1:Int),1,1,2,3,1],1<=v/\v<=3) p hp;refine mid (fun f=>∃(os:List (Str×Int)) (x y:Option D),f=.nx [some (.int n),some (.int p),some (.str SG),some (.lst (os.map eR)),x,y,none]/\os.length<=1000/\∀o∈os,1<=o.2) (y0 (fun _=>go ?_) fun _=>go ?_) ?_
 ·refine jE (ds:=[3,3,20]) fun m hm=>go ?_;have hm:0<m:=(by decide:∀v∈[(3:Int),3,20],0<v) m hm;have hq:0<1+n/18%9:=by omega
  refine U2 eR (fun o=>1<=o.2) (fun d h=>?_) fun ys hy h=>go ?_
  ·obtain⟨i,rfl,_,_⟩:=xq h;refine go ?_;intro _;refine go ?_;refine ki (by show SG.length<=_;omega) (by omega) (by show _<(SG.length:Int);rw[hl];omega) fun c hc=>go ?_;refine⟨(_,_),rfl,?_⟩;show 1<=1+(n/162+5*i)%m;have:=Int.emod_nonneg (n/162+5*i) (show m≠0 by omega);omega
  ·rw[yz]at hy;exact⟨ys,_,_,rfl,by omega,h⟩
 ·exact⟨[],_,_,rfl,by decide,nofun⟩
 rintro _ ⟨os,x,y,rfl,ho,hn⟩;refine go ?_;refine mid (fun f=>∃b:Int,f=.nx [some (.int n),some (.int p),some (.str SG),some (.lst (os.map eR)),x,y,some (.int b)]/\1<=b/\b<=100) (y0 (fun _=>go ?_) fun _=>go ?_) ?_
 ·omega
 ·omega
 rintro _ ⟨b,rfl,hb⟩;refine go ?_;refine zt (wq (zV imR os)) (go ?_);refine⟨by show (true&&(true&&((D.imms (os.map eR))&&true)))=true;rw[zV imR];rfl,go ?_⟩;exact⟨p,b,os,rfl,⟨hp.1,hb,hn,ho⟩,hp.2⟩
def z5s {xs:List Str}{Q:D->Prop}(k:∀c,Q (.bl c)):Y (eqR false (.lst (xs.map D.str)) (.lst [])) Q:=by
 cases xs with
 | nil=>exact⟨_,rfl,k _⟩
 | cons x xs=>exact⟨_,rfl,k _⟩
def joints {n s:Int}:Y (xo [.int n,.int s]) fun v=>∃bk:List Str,v=.lst (bk.map D.str)/\BK bk:=by
 delta xo uJ
 refine zp (go ?_);refine mid (fun f=>∃m:Int,f=.nx [some (.int n),some (.int s),some (.lst []),some (.int m),none,none,none,none,none]/\0<=m/\m<=30) (y0 (fun _=>go ?_) fun _=>go ?_) ?_
 ·omega
 ·omega
 rintro _ ⟨m,rfl,hm⟩;refine go ?_;refine jA (fun k τ=>∃(bk:List Str) (x y z u v:Option D),τ=[some (.int n),some (.int s),some (.lst (bk.map D.str)),some (.int m),x,y,z,u,v]/\bk.length<=k/\∀j∈bk,j.length<=1000) ⟨[],_,_,_,_,_,rfl,tI _,nofun⟩ ?_ ?_
 ·rintro k _ _ hk ⟨bk,x,y,z,u,v,rfl,e1,hb⟩;obtain⟨hk,rfl⟩:=vC hk;have:=z2v (c:=0) (i:=0+(k:Int)) (by omega) (by omega);refine go ?_;generalize hM:(n/13*((0+(k:Int))*(0+(k:Int))+1)+7919*(0+(k:Int))+1)*16807%1000003=M;refine yU D.str (SK (·∈AZ.cps.toList) 1 1) (fun d h=>?_) fun ys hy h=>go ?_
  ·obtain⟨i,rfl,_,_⟩:=xq h;refine go ?_;refine jE (ds:=[1,5,25]) fun w hw=>go ?_;have hw:0<w/\w<100:=(by decide:∀v∈[(1:Int),5,25],0<v/\v<100) w hw;refine J7 (by omega) (go ?_);refine letter.imp ?_;rintro _ ⟨x,rfl,hx⟩;exact go hx
  rw[yz]at hy;have hj:=Xe h;have hs:=jS (g:=Str.length) (c:=1) ys fun y hy=>(h y hy).1.2;refine Vt (by rw[Wc,Nat.mul_zero];exact sE hs (by omega)) (go ?_);have hj:=(ua (a':=2) (b':=3) hj (by omega) (by omega)).1;generalize Str.join (Str.ofString "") ys=w at hj ⊢;refine J9 (by omega) (go ?_);have q0:=Int.emod_nonneg (M/250) (show (w.length:Int)-1≠0 by omega);have s1:=Txt.slice_le w none (some (1+M/250%((w.length:Int)-1)));have s2:=Txt.slice_le w (some (1+M/250%((w.length:Int)-1))) none;refine Kh (ds:=["-","-","-","="]) fun g hg=>go ?_;have hg:g.length=1:=(by decide +kernel:∀v∈(["-","-","-","="]:List Str),v.length=1) g hg;refine xr (by omega) (go ?_);have l1:=Str.length_append (Txt.slice w none (some (1+M/250%((w.length:Int)-1)))) g;have l2:=Str.length_append (Txt.slice w none (some (1+M/250%((w.length:Int)-1)))++g) (Txt.slice w (some (1+M/250%((w.length:Int)-1))) none);refine xr (by omega) (go ?_);generalize Txt.slice w none (some (1+M/250%((w.length:Int)-1)))++g++Txt.slice w (some (1+M/250%((w.length:Int)-1))) none=jt at l2 ⊢;have hjt:jt.length<=1000:=by omega
  refine U2 D.str (fun _=>True) (fun d h=>?_) fun zs' _ _=>go ?_
  ·obtain⟨j,hj,rfl⟩:=tW.1 h;have:=hb j hj;refine go ?_;intro _;exact go trivial
  refine z5s fun c=>go ?_;refine vP (fun _=>go ?_) fun _=>go ?_
  ·exact⟨_,_,_,_,_,_,rfl,by simp;omega,xI hb hjt⟩
  ·exact⟨_,_,_,_,_,_,rfl,by omega,hb⟩
 ·rintro _ ⟨bk,x,y,z,u,v,rfl,e1,hb⟩;rw[yz]at e1;refine go ?_;exact⟨by omega,hb⟩
def vH {ks:List Key}{ds:List D}{k:Key}{d:D}(h:k∉ks):xR ks ds k d=(ks++[k],ds++[d]):=jPa h
def X9 {ks:List Key}{ds:List D}{k:Key}{d:D}(h:k∈ks):xR ks ds k d=(ks,vO ks ds k d):=jNk h
def z5R {a c p:Int}(h0:1<=p)(h1:p<=3):Y (xK [.int a,.int c,.int p]) fun v=>∃W h pa t o lo la g ah be,v=ruD W h pa t o lo la g ah be/\W<=1000000/\0<=o/\o<=1000000:=by
 have q:(8+a%25)*p<=32*3:=Int.mul_le_mul (by omega) h1 (by omega) (by omega)
 delta xK qq
 refine zp (go ?_);refine jE (ds:=[20,0,7,100]) fun v1 _=>go ?_;refine jE (ds:=[30,0,9,500]) fun v2 _=>go ?_;refine⟨by decide,go ?_⟩;rw[vH (by decide)];dsimp only;refine⟨by decide,go ?_⟩;rw[vH (by decide)];dsimp only;refine jE (ds:=[9,0,40,3]) fun v3 _=>go ?_;refine⟨by decide,go ?_⟩;rw[vH (by decide)];dsimp only;refine jE (ds:=[5,0,30,1]) fun v4 _=>go ?_;refine⟨by decide,go ?_⟩;rw[vH (by decide)];dsimp only;refine jE (ds:=[1,0,2,1]) fun v5 _=>go ?_;refine⟨by decide,go ?_⟩;rw[vH (by decide)];dsimp only;refine⟨by decide,go ?_⟩;rw[vH (by decide)];dsimp only;refine⟨by decide,go ?_⟩;rw[vH (by decide)];dsimp only;refine mid (fun f=>∃W h pa t o lo la g ah be:Int,f=.nx [some (.int a),some (.int c),some (.int p),some (ruD W h pa t o lo la g ah be)]/\W<=1000000/\0<=o/\o<=1000000) (y0 (fun _=>go ?_) fun _=>go ?_) ?_
 ·refine⟨by decide,go ?_⟩;rw[X9 (by decide)];dsimp only;refine⟨by decide,go ?_⟩;rw[X9 (by decide)];dsimp only;exact⟨_,_,_,_,_,_,_,_,_,_,rfl,by omega,by omega,by omega⟩
 ·exact⟨_,_,_,_,_,_,_,_,_,_,rfl,by omega,by omega,by omega⟩
 rintro _ ⟨W,h,pa,t,o,lo,la,g,ah,be,rfl,hW,ho⟩;refine go ?_;refine y0 (fun _=>go ?_) fun _=>go ?_
 ·refine⟨by decide,go ?_⟩;refine Kh (ds:=["part","twin","over","lone","late"]) fun v hv=>go ?_;simp only[tK,sJ,or_false]at hv;rcases hv with rfl|rfl|rfl|rfl|rfl<;>rw[X9 (by decide)]<;>dsimp only
  all_goals refine go ?_
  all_goals exact⟨_,_,_,_,_,_,_,_,_,_,rfl,by omega,by omega,by omega⟩
 ·exact⟨_,_,_,_,_,_,_,_,_,_,rfl,hW,ho⟩
abbrev npr (x:Str)(ws:List Str):List (Str×Str):=(x,("":Str))::ws.map fun w=>(w,("":Str))
def Qm {x:Str}{ws:List Str}{Q:D->Prop}(h:ws.length<=20)(k:Q (eQs (npr x ws))):Y (zB (.lst [eSS (x,"")]) (.lst (ws.map fun w=>eSS (w,"")))) Q:=by
 refine⟨_,jNk ⟨rfl,zV (fun _=>rfl) ws,by rw[jMc,tH,sT];omega⟩,?_⟩;have:(npr x ws).map eSS=[eSS (x,"")]++ws.map fun w=>eSS (w,""):=by rw[npr,tO,rC];rfl
 rw[eQs,this]at k;exact k
abbrev tn (n:Int):Str:=(toString n:Str)++(".":Str)
def JA {n:Int}(h0:0<=n)(h1:n<1000):n.natAbs.log2<1920/\(toString n:Str).length<=3/\WK (tn n):=by
 obtain⟨k,l⟩:=K8 n.toNat (by omega);rw[sY h0]at k l;have hd:SK zs 1 1 ".":=X7 _ _ _ (by decide +kernel);exact⟨l,k.2.1,qp (ua (wc (P:=zs) (a:=1) (b:=3) ⟨⟨k.1,k.2.1⟩,k.2.2⟩ hd) (by omega) (by omega))⟩
def z4J {n:Int}{ws:List Str}(h0:0<=n)(h1:n<1000)(h:ws.length<=20):Y (xC [.int n,eW ws]) fun v=>v=eQs (npr (tn n) ws):=by
 obtain⟨l,k,w⟩:=JA h0 h1;have:=w.b
 delta xC qe
 refine zp (go ?_);refine⟨.str (tn n),jNk ⟨l,by rw[jMc];omega,sE w.b (by decide)⟩,go ?_⟩;refine YR (fun w=>eSS (w,"")) (fun w _=>go rfl) (go ?_);exact Qm h (go rfl)
def z6y {n:Int}{ws:List Str}(h0:0<=n)(h1:n<1000)(h:NK ws):QK (npr (tn n) ws):=by
 have hl:=h.1;refine⟨by simp only[tR,tH];omega,fun q hq=>?_⟩;rcases tK.1 hq with rfl|hq
 ·exact⟨(JA h0 h1).2.2,by rw[Wc];decide⟩
 ·obtain⟨w,hw,rfl⟩:=tW.1 hq;exact⟨h.2 w hw,by rw[Wc];decide⟩
section
variable {p b:Int}{os:List (Str×Int)}(F:FK p b os){W h pa t o lo la g ah be:Int}(hW:W<=1000000)(ho:0<=o/\o<=1000000){bk:List Str}(B:BK bk)
include F hW ho B
theorem z5t {n:Int}{ws:List Str}(h0:0<=n)(h1:n<1000)(hn:NK ws):∃rs:List Rw,xu [fcD p b os,.lst (bk.map D.str),ruD W h pa t o lo la g ah be,.int n,eW ws]=.ok (.lst (rs.map eRw))/\zS [fcD p b os,.lst (bk.map D.str),ruD W h pa t o lo la g ah be,eQs (npr (tn n) ws),.lst ((npr (tn n) ws).map fun _=>.int 0)]=.ok (.lst (rs.map eRw))/\∀r∈rs,r.2.1.length<=100000:=by
 obtain⟨ps,d,bs,sp,C,hc,_⟩:=Jx F hW ho B (z6y h0 h1 hn) (h:=h) (pa:=pa) (t:=t) (lo:=lo) (la:=la) (g:=g) (ah:=ah) (be:=be);have hm:cnt ps=((npr (tn n) ws).map fun _=>(0:Int)).length:=by rw[tH];exact hc
 refine⟨rws ps ((npr (tn n) ws).map fun _=>0) sp 0 0 bs,?_,?_,fun r hr=>by have:=Yy C.s (rX _) C.h r hr;omega⟩
 ·suffices Y (xu [fcD p b os,.lst (bk.map D.str),ruD W h pa t o lo la g ah be,.int n,eW ws]) fun v=>v=.lst ((rws ps ((npr (tn n) ws).map fun _=>0) sp 0 0 bs).map eRw) by obtain⟨_,e,rfl⟩:=this;exact e
  delta xu jn
  refine zp (go ?_);refine (z4J h0 h1 hn.1).imp ?_;rintro _ rfl;refine go ?_;refine zt C.e1 (go ?_);refine zt C.e2 (go ?_);refine zt C.e3 (go ?_);refine (Yj (ms':=[]) C.K C.h hm C.s (Yz fun m hm=>by obtain⟨_,_,rfl⟩:=tW.1 hm;rfl)).imp ?_;rintro _ rfl;exact go rfl
 ·obtain⟨_,e,rfl⟩:=W7 F B C.K C.h hm C.e1 C.e2 C.e3 C.s;rw[<-e];show _=zS [_,_,_,_,.lst (List.map D.int (List.map _ _))];rw[rC];rfl
end
def z72 (n:Nat)(q:Int×Int×Str):eqF (n+1) (eQ q) (eQ q)=some true:=YZ n fun d hd=>by
 simp only[tK,sJ,or_false]at hd;rcases hd with rfl|rfl|rfl
 ·rw[jN];simp
 ·rw[jN];simp
 ·rw[YY];simp
def z4V (n:Nat)(r:Rw):eqF (n+3) (eRw r) (eRw r)=some true:=YZ (n+2) fun d hd=>by
 simp only[tK,sJ,or_false]at hd;rcases hd with rfl|rfl|rfl
 ·rw[jN];simp
 ·exact jK (n+1) fun d hd=>by obtain⟨q,_,rfl⟩:=tW.1 hd;exact z72 n q
 ·rw[jN];simp
def z4w (rs:List Rw):eqF 12 (.lst (rs.map eRw)) (.lst (rs.map eRw))=some true:=jK 11 fun d hd=>by obtain⟨q,_,rfl⟩:=tW.1 hd;exact z4V 8 q
def z21 {l:List D}:qw "list" (.lst l)=.ok (.bl true):=rfl
def z1u {l:List D}:qw "tuple" (.tup l)=.ok (.bl true):=rfl
def z2Y {a b c:D}:eqR true (.int ([a,b,c]:List D).length) (.int 3)=.ok (.bl false):=by rw[Jb];rfl
def Jp {rs:List Rw}(hr:∀r∈rs,r.2.1.length<=100000):Y (yP [.lst (rs.map eRw),.lst (rs.map eRw)]) fun v=>v=.bl true:=by
 delta yP qD
 refine zp (go ?_);refine zt z21 (go ?_);refine zt (VP nofun (z4w rs)) (go ?_);refine UE (fun τ=>∃x y,τ=[some (.lst (rs.map eRw)),some (.lst (rs.map eRw)),x,y]) ⟨_,_,rfl⟩ ?_ ?_
 ·rintro _ hd _ ⟨x,y,rfl⟩;obtain⟨r,hr',rfl⟩:=tW.1 hd;refine go ?_;refine zt z1u (go ?_);refine zt z2Y (go ?_);refine zt z21 (go ?_);refine UE (fun τ=>∃y,τ=[some (.lst (rs.map eRw)),some (.lst (rs.map eRw)),some (eRw r),y]) ⟨_,rfl⟩ ?_ ?_
  ·rintro d hd _ ⟨y,rfl⟩;obtain⟨i,rfl⟩:isI d:=by
    simp only[tK,sJ,or_false]at hd;rcases hd with rfl|rfl<;>exact iI
   refine go ?_;refine zt z0M (go ?_);refine zt z0b (go ?_);exact⟨_,rfl⟩
  ·rintro _ ⟨y,rfl⟩;refine go ?_;refine yU D.bl (fun b=>b=true) (fun d h=>?_) (fun ys _ h=>go ?_) (by have:=hr r hr';rw[tH];omega)
   ·obtain⟨c,hc,rfl⟩:=tW.1 h;refine go ?_;exact zt z1u (go rfl)
   ·refine zt Xj ?_;rw[Xv h];refine go ?_;exact⟨_,_,rfl⟩
 ·rintro _ ⟨x,y,rfl⟩;exact go rfl
def z0E (a0 a1 a2 a3 a4 a5 a6 a7 a8 a9:Int)(A:List Key)(B:List D)(k0:yf A B (.inr "width")=some (.int a0))(k1:yf A B (.inr "height")=some (.int a1))(k2:yf A B (.inr "part")=some (.int a2))(k3:yf A B (.inr "twin")=some (.int a3))(k4:yf A B (.inr "over")=some (.int a4))(k5:yf A B (.inr "lone")=some (.int a5))(k6:yf A B (.inr "late")=some (.int a6))(k7:yf A B (.inr "gap")=some (.int a7))(k8:yf A B (.inr "ahead")=some (.int a8))(k9:yf A B (.inr "behind")=some (.int a9)):L2.hitsD A B [.inr "width",.inr "height",.inr "part",.inr "twin",.inr "over",.inr "lone",.inr "late",.inr "gap",.inr "ahead",.inr "behind"] [.int a0,.int a1,.int a2,.int a3,.int a4,.int a5,.int a6,.int a7,.int a8,.int a9]=some true:=by
 simp only[L2.hitsD,k0,k1,k2,k3,k4,k5,k6,k7,k8,k9,D.isS,eqS,Bool.and_self,if_true,pL,beq_self_eq_true]
def z1q {bk:List Str}{W h pa t o lo la g ah be:Int}:WU (.lst [.lst (bk.map D.str),ruD W h pa t o lo la g ah be]) (.lst [.lst (bk.map D.str),ruD W h pa t o lo la g ah be])=.ok (.bl true):=by
 have e1:eqE (.lst (bk.map D.str)) (.lst (bk.map D.str))=some true:=jK 10 fun d hd=>by obtain⟨s,_,rfl⟩:=tW.1 hd;rw[YY];simp
 have e2:eqE (ruD W h pa t o lo la g ah be) (ruD W h pa t o lo la g ah be)=some true:=by
  show qr _ _ _ _=_;unfold qr;rw[jNk rfl];exact z0E _ _ _ _ _ _ _ _ _ _ _ _ rfl rfl rfl rfl rfl rfl rfl rfl rfl rfl
 unfold WU;dsimp only;rw[jNk rfl];unfold yA;rw[e1];unfold yA;rw[e2]
 rfl
def z54 (qs:List (Str×Str)):eqF 12 (eQs qs) (eQs qs)=some true:=jK 11 fun d hd=>by
 obtain⟨q,_,rfl⟩:=tW.1 hd;refine YZ 10 fun d hd=>?_;simp only[tK,sJ,or_false]at hd;rcases hd with rfl|rfl<;>rw[YY]<;>simp
def z6c (q:Str×Str):(eSS q).imm=true:=rfl
def z6F {i:Nat}{d:D}{τ:Tn}{rs:List Rw}{Q:Fl->Prop}(e:τ[i]?=some (some (.lst (rs.map eRw))))(hr:∀r∈rs,r.2.1.length<=100000)(k:∀l,Q (.nx (τ.set i (some l)))):Y (kz i 1 d τ) Q:=by
 refine⟨_,?_,k (.lst ((rs.map eRw).map (jd d 1)))⟩;unfold kz;rw[e];refine jNk (rK.2 fun x hx=>?_);obtain⟨r,h,rfl⟩:=tW.1 hx;have:=hr r h;exact decide_eq_true (by rw[jMc,tH];omega)
def law_true (ns:List Int)(hns:ns.length<=63):F_law [.frl (ns.map D.int)]=.ok (.bl true):=by
 suffices Y (F_law [.frl (ns.map D.int)]) fun v=>v=.bl true by obtain⟨_,e,rfl⟩:=this;exact e
 delta F_law J6
 refine zp (go ?_);refine (cell (by omega)).imp ?_;rintro _ ⟨c0,rfl⟩;refine go ?_;refine (cell (by omega)).imp ?_;rintro _ ⟨c1,rfl⟩;refine go ?_;refine face.imp ?_;rintro _ ⟨p,b,os,rfl,F,hp⟩;refine go ?_;refine (cell (by omega)).imp ?_;rintro _ ⟨c2,rfl⟩;refine go ?_;refine joints.imp ?_;rintro _ ⟨bk,rfl,B⟩;refine go ?_;refine (cell (by omega)).imp ?_;rintro _ ⟨c3,rfl⟩;refine go ?_;refine (cell (by omega)).imp ?_;rintro _ ⟨c4,rfl⟩;refine go ?_;refine (z5R F.p hp).imp ?_;rintro _ ⟨W,h,pa,t,o,lo,la,g,ah,be,rfl,hW,ho⟩;refine go ?_;refine blocks.imp ?_;rintro _ ⟨bs,rfl,hbl,hb⟩;refine go ?_;refine (z5Z hbl hb).imp ?_;rintro _ ⟨nt,zs',rfl,rfl,hz,hnl,hn⟩;refine go ?_;refine zt (kg (zV (fun _=>rfl) bk)) (go ?_);refine zt (a:=ruD W h pa t o lo la g ah be) rfl (go ?_);refine yL (UE (fun τ=>∃x9 x10 x11 x12 x13 x14 x15 x16:Option D,τ=[some (.frl (ns.map D.int)),some (.int (c0%26)),some (fcD p b os),some (.lst (bk.map D.str)),some (ruD W h pa t o lo la g ah be),some (.lst ((zs'.map (·.1)).map eB)),some (.lst (nt.map eW)),some (.lst (zs'.map fun z=>eQs z.2)),some (.lst [.lst (bk.map D.str),ruD W h pa t o lo la g ah be]),x9,x10,x11,x12,x13,x14,x15,x16]) ⟨_,_,_,_,_,_,_,_,rfl⟩ ?_ ?_)
 ·rintro d hd _ ⟨x9,x10,x11,x12,x13,x14,x15,x16,rfl⟩;obtain⟨z,hzm,rfl⟩:∃z∈zs',d=.tup [eB z.1,eQs z.2]:=by
   unfold uG at hd;rw[rC,List.zip_map',rC]at hd;obtain⟨z,hz,rfl⟩:=tW.1 hd;exact⟨z,hz,rfl⟩
  obtain⟨hB,hQ,hl⟩:=hz z hzm;obtain⟨v,e1,e2,hv⟩:=z2a F hW ho B hB hQ hl (h:=h) (pa:=pa) (t:=t) (lo:=lo) (la:=la) (g:=g) (ah:=ah) (be:=be);refine go ?_;refine zt e2 (go ?_);refine zt (kg (zV z6c z.2)) (go ?_);refine zt WJ (go ?_);refine zt V1 (go ?_);refine zt e1 (go ?_);refine zt (VP nofun (z54 z.2)) (go ?_);rcases hv with rfl|⟨rs,rfl,hrl,hr⟩
  ·exact go rfl
  refine go ?_;refine (Jp hr).imp ?_;rintro _ rfl;refine go ?_;refine⟨(1,[],0),rfl,by omega,go ?_⟩;refine z6F rfl (xI hr (by decide)) fun l=>go ?_;refine zt WJ (go ?_);refine zt V1 (go ?_);refine zt (kg (zV z6c z.2)) (go ?_);refine zt e1 (go ?_);refine (Jp hr).imp ?_;rintro _ rfl;refine go ?_;exact⟨_,_,_,_,_,_,_,_,rfl⟩
 rintro _ ⟨x9,x10,x11,x12,x13,x14,x15,x16,rfl⟩;refine go ?_;refine UE (fun τ=>∃x9 x10 x11 x12 x13 x14 x15 x16:Option D,τ=[some (.frl (ns.map D.int)),some (.int (c0%26)),some (fcD p b os),some (.lst (bk.map D.str)),some (ruD W h pa t o lo la g ah be),some (.lst ((zs'.map (·.1)).map eB)),some (.lst (nt.map eW)),some (.lst (zs'.map fun z=>eQs z.2)),some (.lst [.lst (bk.map D.str),ruD W h pa t o lo la g ah be]),x9,x10,x11,x12,x13,x14,x15,x16]) ⟨_,_,_,_,_,_,_,_,rfl⟩ ?_ ?_
 ·rintro d hd _ ⟨x9,x10,x11,x12,x13,x14,x15,x16,rfl⟩;obtain⟨k,rfl,hk0,hk1⟩:=xq hd;have hk:k<3/\k<nt.length:=by
   generalize hm:(if (nt.length:Int)<3 then (nt.length:Int) else 3)=m at hk1;split at hm<;>omega
  refine go ?_;refine (cell (by omega)).imp ?_;rintro _ ⟨c,rfl⟩;refine go ?_;refine jE (ds:=[k+1,k+9,k+58]) fun n hn'=>go ?_;have hn':0<=n/\n<1000:=by
   simp only[tK,sJ,or_false]at hn';omega
  obtain⟨l1,l2,_⟩:=JA hn'.1 hn'.2;refine⟨_,jNk l1,go ?_⟩;refine xr (by rw[show (".":Str).length=1 from by decide +kernel];omega) (go ?_);have hkn:k.toNat<nt.length:=by omega
  have ix:∀ {Q:D->Prop},Q (eW nt[k.toNat])->Y (ixD (.lst (nt.map eW)) (.int k)) Q:=fun q=>j8 hk0 (by rw[tN,tG hkn];rfl) q;have hN:=hn _ (sR hkn);have hNl:=hN.1;generalize nt[k.toNat]=ws at ix hN hNl;refine ix (go ?_);refine YR (fun w=>eSS (w,"")) (fun w _=>go rfl) (go ?_);refine Qm hNl (go ?_);obtain⟨rs,e1,e2,hr⟩:=z5t F hW ho B hn'.1 hn'.2 hN (h:=h) (pa:=pa) (t:=t) (lo:=lo) (la:=la) (g:=g) (ah:=ah) (be:=be);refine YR (fun _=>.int 0) (fun w _=>go rfl) (go ?_) (by simp only[tR,tH];omega);refine zt e2 (go ?_);refine zt WJ (go ?_);refine zt V1 (go ?_);refine ix (go ?_);refine zt e1 (go ?_);refine (Jp hr).imp ?_;rintro _ rfl;refine go ?_;exact⟨_,_,_,_,_,_,_,_,rfl⟩
 ·rintro _ ⟨x9,x10,x11,x12,x13,x14,x15,x16,rfl⟩;refine go ?_;exact zt z1q (go rfl)
open PySem PySem.Spec PySem.W PyProof.Rows L2
def lA:Nat->(List Value->Prop)->Prop
|0,P=>P []
|n+1,P=>∀a,lA n fun l=>P (a::l)
theorem lB:∀ {n:Nat} {P:List Value->Prop},lA n P->∀us:List Value,us.length=n->P us
|0,_,h,[],_=>h
|_+1,_,h,a::l,k=>lB (h a) l (Nat.succ.inj k)
def dq {w:World}{mg:Str->Option Value}{h:Heap}(m:Str)(t:Nat)(n:Str)(i:Nat)(ps:List Str)(a c:Addr)(X:(K0 w.params).In h)(G:h.Ns jMb mg)
  (hl:∀ {kV dc pm:Value} {an:Option Addr} {cd ct:Value} (us:List Value),us.length=ps.length->bindArgs (fnOf n n (defArgs (top i)) (defBody (top i)) (defScope (top i)) .none kV dc pm an cd ct) { pos:=us }=pure (ps.zip us):=by intro _ _ _ _ _ _;refine lB (n:=List.length _) ?_;(repeat intro _);rfl)
  (e:autoParam ((nsIn (K0 w.params) jMb n,(K0 w.params).lookup a,codeIn (K0 w.params) (.ref c) n,keepIn (K0 w.params) (.ref a))=(some (some (.ref a)),some ⟨.type "function",none,.func (fnOf n n (defArgs (top i)) (defBody (top i)) (defScope (top i)) .none .none .none (.str m t) none (.ref c) .none),#[]⟩,true,true)) L2.au19._auto_1):DefIn (K0 w.params) mg n (top i) ps:=HW.dfn X G hl e
def facts (w:World)(mg:Str->Option Value)(fa:Addr)(h:Heap)(X:(K0 w.params).In h)(G:h.Ns jMb mg)(hfa:mg "law"=some (.ref fa)):
  ∃fd:FuncData,(∀(s:jNg) (u:Value),BindsTo s fd ⟨[u],[]⟩ [("_law_script",u)])/\∀base:Heap,(K0 w.params).In base->base.Ns jMb mg->FnOk pw w (K0 w.params) mg base (cxx pw w) 11 fa fd ["_law_script"] (spM (K0 w.params) F_law 1):=by
 have y0:=fun (n:Str) (h:jJh (K0 w.params) jMb n=some none)=>PySem.W.mg_none_of X G h
 have y1:=fun (n:Str) (v:Value) (h:jJh (K0 w.params) jMb n=some (some v))=>jJp X G h
 have e:=hfa.symm.trans (y1 "law" (.ref 504) (by kernel_rfl));cases e;have B:Bl mg:=⟨y0 "isinstance" (by kernel_rfl),y0 "int" (by kernel_rfl),y0 "bool" (by kernel_rfl),y0 "str" (by kernel_rfl),y0 "dict" (by kernel_rfl),y0 "list" (by kernel_rfl),y0 "tuple" (by kernel_rfl),y0 "len" (by kernel_rfl),y0 "sum" (by kernel_rfl),y0 "max" (by kernel_rfl),y0 "min" (by kernel_rfl),y0 "all" (by kernel_rfl),y0 "range" (by kernel_rfl),y0 "enumerate" (by kernel_rfl),y0 "zip" (by kernel_rfl)⟩
 have Gv:Gl0 (K0 w.params) mg:=⟨⟨_,y1 "SIGNS" (.str "abcdefghijklmnopqrstuvwxyzABCDEFGHIJKLMNOPQRSTUVWXYZ0123456789.,;:!?'\"()-/" 329) (by kernel_rfl)⟩,⟨_,y1 "SMALL" (.str "abcdefghijklmnopqrstuvwxyz" 485) (by kernel_rfl)⟩,⟨_,y1 "MOST_SIGNS" (.int 40 532) (by kernel_rfl)⟩⟩
 have Cl:Cls (K0 w.params) mg:=⟨⟨49,(show jJh (K0 w.params) jMb "TooWide"=some (some (.ref 49)) from by kernel_rfl),(show PySem.W.excIn (K0 w.params) 49 [.type "ValueError",.type "Exception",.type "BaseException",.type "object"] "ValueError.__new__"=true from by kernel_rfl)⟩,49,y1 "TooWide" (.ref 49) (by kernel_rfl),fun C hC=>by have e:=hC.1;rw[(show jJh (K0 w.params) jMb "TooWide"=some (some (.ref 49)) from by kernel_rfl)]at e;cases e;exact (show jJd (K0 w.params) (.ref 49) (.ref 49)=some true from by kernel_rfl)⟩
 have V:En (K0 w.params) mg:=⟨B,Gv,Cl⟩
 refine⟨fnOf "law" "law" (defArgs (top 91)) (defBody (top 91)) (defScope (top 91)) .none .none .none (.str "law_quirehand_k20_rows_of_blocks" 768) none (.ref 503) .none,fun s v=>.of_eq rfl,fun base _ _=>?_⟩;have o6:=Z3 (P:=pw) (w:=w) (base:=base) (dq "quirehand.lines" 239 "ends_parted" 5 ["pieces","end"] 58 57 X G) V 
 have on:=jV (dq "quirehand.lines" 239 "dash_behind" 6 ["pieces","lay","end"] 65 64 X G) V o6;have om:=jF (P:=pw) (w:=w) (base:=base) (dq "quirehand.lines" 239 "blank_behind" 7 ["pieces","lay","end"] 72 71 X G) V 
 have o4f:=WS (dq "quirehand.lines" 239 "natural" 8 ["pieces","lay","begin","end"] 77 76 X G) V on om;have o3i:=Ve (dq "quirehand.lines" 239 "cost_at" 9 ["pieces","lay","begin","end","width"] 84 83 X G) V o6;have o1h:=Zm (dq "quirehand.lines" 239 "lines_from" 10 ["pieces","lay","begin"] 91 90 X G) V o3i om on;have ox:=Xp (dq "quirehand.breaking" 299 "ways_from" 12 ["pieces","lay","found","place"] 98 97 X G) V o1h o6;have o4j:=Uw (dq "quirehand.breaking" 299 "prices" 13 ["pieces","lay"] 103 102 X G) V ox;have ow:=UW (dq "quirehand.breaking" 299 "broken" 14 ["pieces","lay"] 108 107 X G) V o4j ox o6;have o4a:=Vp (P:=pw) (w:=w) (base:=base) (dq "quirehand.faces" 327 "is_sign" 17 ["thing"] 115 114 X G) V 
 have o0h:=z1g (P:=pw) (w:=w) (base:=base) (dq "quirehand.faces" 327 "wide" 18 ["face","line"] 120 119 X G) V 
 have oo:=Zd (dq "quirehand.cells" 344 "word_widths" 20 ["face","words"] 125 124 X G) V o0h;have o3a:=z0K (P:=pw) (w:=w) (base:=base) (dq "quirehand.cells" 344 "fill" 21 ["widths","blank","width"] 132 131 X G) V 
 have o1e:=jU (dq "quirehand.cells" 344 "filled_rows" 22 ["face","words","width"] 139 138 X G) V o3a oo;have o5i:=Jf (dq "quirehand.cells" 344 "go_in" 23 ["cells","blank","width","rows"] 144 143 X G) V o3a;have o1d:=Za (dq "quirehand.cells" 344 "least_width" 24 ["face","cells","rows"] 149 148 X G) V oo o5i;have o0d:=Vg (P:=pw) (w:=w) (base:=base) (dq "quirehand.columns" 387 "between" 26 ["face"] 156 155 X G) V 
 have o1a:=jy (P:=pw) (w:=w) (base:=base) (dq "quirehand.columns" 387 "column_cells" 27 ["table"] 161 160 X G) V 
 have o1i:=Zp (P:=pw) (w:=w) (base:=base) (dq "quirehand.columns" 387 "most_lines" 28 ["table"] 166 165 X G) V 
 have o0f:=WB (dq "quirehand.columns" 387 "columns" 29 ["face","rules","table"] 171 170 X G) V o1a o0d o1d o1i;have o0g:=Vv (dq "quirehand.columns" 387 "set_row" 30 ["face","row","widths"] 178 177 X G) V o1e o0d;have o3c:=Ws (P:=pw) (w:=w) (base:=base) (dq "quirehand.marks" 431 "notes_of" 32 ["block"] 185 184 X G) V 
 have o3j:=WD (P:=pw) (w:=w) (base:=base) (dq "quirehand.marks" 431 "tail_of" 33 ["first","many"] 190 189 X G) V 
 have o1j:=Zr (dq "quirehand.marks" 431 "text_pairs" 34 ["pairs","first"] 197 196 X G) V o3j;have o3b:=XH (dq "quirehand.marks" 431 "pairs_of" 35 ["block","first"] 202 201 X G) V o1j;have o5j:=J2 (dq "quirehand.marks" 431 "noted" 36 ["blocks"] 209 208 X G) V o3b o3c;have o2c:=Zv (P:=pw) (w:=w) (base:=base) (dq "quirehand.marks" 431 "note_pairs" 37 ["number","note"] 214 213 X G) V 
 have o0e:=Vc (P:=pw) (w:=w) (base:=base) (dq "quirehand.joints" 483 "mark_at" 40 ["joint"] 221 220 X G) V 
 have ou:=Zl (P:=pw) (w:=w) (base:=base) (dq "quirehand.joints" 483 "letters_of" 41 ["joint"] 228 227 X G) V 
 have o7b:=z07 (dq "quirehand.joints" 483 "fits" 42 ["joint","word","place"] 235 234 X G) V ou o0e;have o5f:=Kw (dq "quirehand.joints" 483 "rank" 43 ["joint"] 242 241 X G) V o0e;have o4c:=WV (dq "quirehand.joints" 483 "telling" 44 ["book","word","place"] 249 248 X G) V o7b o5f;have o4b:=WW (dq "quirehand.parting" 530 "is_word" 47 ["thing"] 254 253 X G) V o4a;have o2g:=YU (dq "quirehand.parting" 530 "need_word" 48 ["thing"] 261 260 X G) V o4b;have o8:=Xm (P:=pw) (w:=w) (base:=base) (dq "quirehand.parting" 530 "is_letter" 49 ["sign"] 268 267 X G) V 
 have o0i:=j6 (dq "quirehand.parting" 530 "letters_ahead" 50 ["word","place"] 275 274 X G) V o8;have o0c:=qI (dq "quirehand.parting" 530 "letters_behind" 51 ["word","place"] 282 281 X G) V o8;have o3d:=W5 (dq "quirehand.parting" 530 "may_part" 52 ["book","rules","word","place"] 289 288 X G) V o4c o0i o0c;have o4d:=WT (dq "quirehand.parting" 530 "is_soft" 53 ["word","place"] 296 295 X G) V o8;have o4e:=WX (dq "quirehand.parting" 530 "join_at" 54 ["book","rules","word","place"] 303 302 X G) V o3d o4d;have o0j:=qY (dq "quirehand.parting" 530 "joints_within" 55 ["book","word"] 308 307 X G) V ou;have o5a:=Q6 (dq "quirehand.parting" 530 "places" 56 ["book","rules","word"] 313 312 X G) V o2g o0j o4e;have o5b:=Us (dq "quirehand.parting" 530 "parted" 57 ["book","rules","word"] 320 319 X G) V o5a;have oj:=Q9 (dq "quirehand.pieces" 626 "lay_of" 59 ["face","rules"] 327 326 X G) V o0h;have oh:=Xh (dq "quirehand.pieces" 626 "pieces_of" 60 ["face","book","rules","pairs"] 334 333 X G) V o5b o0h;have o4g:=WI (dq "quirehand.spreading" 652 "runs_of" 62 ["pieces","begin","end"] 341 340 X G) V o6;have o3e:=Wv (dq "quirehand.spreading" 652 "spare_of" 63 ["pieces","lay","begin","end"] 348 347 X G) V o4f;have o5c:=Q5 (P:=pw) (w:=w) (base:=base) (dq "quirehand.spreading" 652 "shares" 64 ["spare","gaps"] 353 352 X G) V 
 have o1b:=Uz (dq "quirehand.spreading" 652 "spread" 65 ["pieces","lay","begin","end"] 360 359 X G) V o4g o5c o3e;have o3g:=XT (P:=pw) (w:=w) (base:=base) (dq "quirehand.rowing" 699 "marks_of" 67 ["block"] 365 364 X G) V 
 have o3f:=XG (P:=pw) (w:=w) (base:=base) (dq "quirehand.rowing" 699 "words_in" 68 ["pieces","begin","end"] 370 369 X G) V 
 have oy:=X6 (dq "quirehand.rowing" 699 "line_rows" 69 ["pieces","lay","breaks","marks"] 375 374 X G) V o3f o1b;have o2a:=Zy (dq "quirehand.rowing" 699 "table_rows" 70 ["face","rules","table"] 382 381 X G) V o0f o0g;have o2b:=ZC (dq "quirehand.rowing" 699 "block_rows" 71 ["face","rules","block","pieces","breaks"] 389 388 X G) V oy o2a oj o3g;have o4h:=Vl (dq "quirehand.rowing" 699 "rows_of" 72 ["face","book","rules","block","pairs"] 396 395 X G) V oh o2b ow oj;have o2j:=Xd (dq "quirehand.rowing" 699 "note_rows" 73 ["face","book","rules","number","note"] 403 402 X G) V oh oj oy o2c ow;have o7:=jz (P:=pw) (w:=w) (base:=base) (dq "law_quirehand_k20_rows_of_blocks" 768 "_law_cell_at" 75 ["_law_script","_law_k"] 410 409 X G) V 
 have oq:=kS (P:=pw) (w:=w) (base:=base) (dq "law_quirehand_k20_rows_of_blocks" 768 "_law_letter" 76 ["_law_n","_law_shift"] 417 416 X G) V 
 have oz:=Xf (dq "law_quirehand_k20_rows_of_blocks" 768 "_law_word" 77 ["_law_n","_law_shift"] 422 421 X G) V oq;have o9:=Zw (dq "law_quirehand_k20_rows_of_blocks" 768 "_law_words" 78 ["_law_n","_law_many","_law_shift"] 427 426 X G) V oz;have o2h:=X4 (dq "law_quirehand_k20_rows_of_blocks" 768 "_law_text" 79 ["_law_n","_law_room","_law_most","_law_shift"] 434 433 X G) V o9 oz;have o2d:=Zo (dq "law_quirehand_k20_rows_of_blocks" 768 "_law_table" 80 ["_law_n","_law_shift"] 439 438 X G) V o9;have o2e:=Zt (dq "law_quirehand_k20_rows_of_blocks" 768 "_law_block" 81 ["_law_n","_law_room","_law_shift"] 446 445 X G) V o2h o2d o9;have o1g:=Z8 (dq "law_quirehand_k20_rows_of_blocks" 768 "_law_blocks" 82 ["_law_script","_law_first","_law_most","_law_shift"] 453 452 X G) V o2e o7;have o2i:=Xo (P:=pw) (w:=w) (base:=base) (dq "law_quirehand_k20_rows_of_blocks" 768 "_law_face" 83 ["_law_cell"] 458 457 X G) V 
 have o1f:=Z1 (dq "law_quirehand_k20_rows_of_blocks" 768 "_law_joints" 84 ["_law_cell","_law_shift"] 463 462 X G) V oq;have o2f:=ZD (P:=pw) (w:=w) (base:=base) (dq "law_quirehand_k20_rows_of_blocks" 768 "_law_rules" 85 ["_law_first","_law_second","_law_plain"] 470 469 X G) V 
 have og:=qG (dq "law_quirehand_k20_rows_of_blocks" 768 "_law_line_rows" 86 ["_law_face_here","_law_book","_law_rules_here","_law_pairs","_law_marks"] 475 474 X G) V oh oj ow o1b;have o0b:=uQ (dq "law_quirehand_k20_rows_of_blocks" 768 "_law_table_rows" 87 ["_law_face_here","_law_rules_here","_law_table_here"] 482 481 X G) V o0g o0f;have o1c:=YF (dq "law_quirehand_k20_rows_of_blocks" 768 "_law_told" 88 ["_law_face_here","_law_book","_law_rules_here","_law_block_here","_law_pairs"] 489 488 X G) V o4h;have o3h:=WA (dq "law_quirehand_k20_rows_of_blocks" 768 "_law_due" 89 ["_law_face_here","_law_book","_law_rules_here","_law_block_here","_law_pairs"] 494 493 X G) V og o0b;have o0a:=Zs (P:=pw) (w:=w) (base:=base) (dq "law_quirehand_k20_rows_of_blocks" 768 "_law_right" 90 ["_law_found","_law_due_here"] 499 498 X G) V 
 exact z3a (show (K0 w.params).lookup 504=some (fO "law" 91 503 "law_quirehand_k20_rows_of_blocks" 768) from by kernel_rfl) (show codeIn (K0 w.params) (.ref 503) "law"=true from by kernel_rfl) sc_law (by decide) (Ke V o2i o1f o2f o1g o5j o7 o3h o1c og o0a o2j)
end K20
end
open PySem PySem.W PyProof.Rows L2
set_option maxRecDepth 100000 in
set_option maxHeartbeats 0 in
theorem PySem.Challenge.cw_quirehand_k20_rows_of_blocks_holds : PySem.Challenge.rw_quirehand_k20_rows_of_blocks.Holds := by
 w_on;o_law
 refine PySem.W.holds_open (q:=K20.q0) (loose:=[]) (Xt:=K20.X0) (XP:=XL K20.q0 []) (Yf:=K20.Y0) (Ya:=K20.A0) (YP:=InK K20.K0) (N:=6024) K20.left0 (InK.of K20.as_eq) InK.keeps (fun s e=>xl_of s (K20.x1 s e).1) XL.keeps (by rfl) (by rfl) (by rfl) (fun s e=>recFacts_of (K20.x1 s e).2) (by rfl) (by first|assumption|decide +kernel) (by decide +kernel) ⟨rfl,rfl,rfl,rfl,rfl,by decide +kernel⟩ ?hw ?hc
 case hw=>w_witness2
 case hc=>exact L2.law_walk (l:=PySem.Challenge.rw_quirehand_k20_rows_of_blocks) (Fm:=K20.F_law) (k:=11) (x:="_law_script") K20.law_true ⟨rfl,by decide,by decide⟩ rfl rfl (fun w h Y=>Y) K20.facts
