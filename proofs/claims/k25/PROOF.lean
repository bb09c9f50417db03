import PyProof.Rows.All
import Wide.All
import OpenK.AllK
import Wide.FinOn
import Lean
import PyProof.EqAt
import PyProof.EqKinds
import PyProof.TupleCall
import PyProof.ZipIter
import KE.KDictSum
import PyProof.Rows.SortStr
import PyProof.Rows.TupAdd
import PyProof.TupleOfGen
import PySem.Challenge.RW_quirehand_k25_whole_pages_placed
set_option Elab.async false
set_option linter.all false
set_option maxRecDepth 100000
set_option maxHeartbeats 4000000
set_option bootstrap.genMatcherCode false
set_option genSizeOfSpec false
noncomputable section
open PySem.Heap renaming get?_push_of_some->jYb,lt_size->jYc,get?_push_size->jYd
open Option.some renaming inj->jYe
open PySem.W renaming Frag->jJa,fnOf->jJb,kia_one->jJc,findIn->jJd,keepIn->jJe,codeIn->jJf,kitOne->jJg,nsIn->jJh,instObj->jJi,methodObj->jJj,lookIn->jJk,specialIn->jJm,mroIn->jJn,kitx_list->jJo,keq_eq->jJp,kitx_tuple->jJt,cellsFrom_some->jJv
open PySem.F renaming plainAttrs_list->jQr,slot_list_append->jQs,type_list_append->jQt,slot_tuple_add->jQu,entry_tuple_add->jQv,args_tuple_add_2->jQw,slot_list_ne->jQx,slot_dict_setdefault->jQy
open List renaming getElem?_cons_succ -> tD, getElem?_cons_zero -> tE, mem_cons_self -> tF, mem_cons_of_mem -> tG, length_map -> tI, map_cons -> tJ, length_append -> tK, length_cons -> tL, mem_append_right -> tN, append_assoc -> tO, set_cons_zero -> tP, append_nil -> tQ, set_cons_succ -> tR, size_toArray -> tS, getElem?_eq_some_iff -> tT, nil_append -> tU, mem_cons -> tV, mem_append -> tW, mem_append_left -> tX, replicate_succ -> tY, replicate_zero -> tZ, length_nil -> sA, getElem?_set_ne -> sC, cons_append -> sD, getElem?_set_self -> sE, nodup_append -> sF, length_take -> sG, nodup_cons -> sI, getElem?_map -> sJ, map_append -> sL, length_set -> sO, map_nil -> sP, lookup_cons -> sQ, length_drop -> sT, getElem?_append_right -> sU, take_append_drop -> sV, getElem?_append_left -> sW, take_of_length_le -> rA, pairwise_append -> rB, flatten_cons -> rC, getElem?_eq_getElem -> rD, mem_singleton -> rE, mem_map -> rF, drop_eq_getElem_cons -> rG, not_mem_nil -> rH, getElem?_take_of_lt -> rL, mem_of_mem_take -> rM, drop_drop -> rN, map_map -> rO, getElem_mem -> rP, perm_append_comm -> rR, length_replicate -> rS, sublist_append_right -> rU, getElem_drop -> rV, getElem_take -> rW, filterMap_cons -> rX, drop_length -> rY, all_eq_true -> rZ, nodup_nil -> pA, drop_eq_nil_of_le -> pB, pairwise_reverse -> pD, find?_cons -> pE, pairwise_iff_getElem -> pG, mem_range -> pH, nil_sublist -> pI, getElem?_replicate -> pJ, length_range -> pL, drop_zero -> pM, mem_reverse -> pP
open Bool renaming false_ne_true -> tH, false_eq_true -> sS, and_eq_true -> sY, not_true -> rQ, and_false -> pN, true_and -> pQ
open Nat renaming le_refl -> tM, zero_add -> sM, lt_of_lt_of_le -> sN, add_sub_cancel_left -> sR, ne_of_lt -> sX, zero_le -> sZ, le_trans -> rJ, le_of_lt -> rK, lt_irrefl -> pF, sub_self -> pO
open Option renaming map_eq_some_iff -> pC, bind_eq_some_iff -> pK
namespace L2
open PySem PyProof.Rows
def au0 (h:True:=by first|exact .inl rfl|exact .inr rfl|assumption):True:=trivial
def au1 (h:True:=by decide):True:=trivial
def au2 (h:True:=by intro _;rfl):True:=trivial
def au3 (h:True:=by rfl):True:=trivial
def au4 (h:True:=by exact fun _ _=>rfl):True:=trivial
def au5 (h:True:=by simp):True:=trivial
def au6 (h:True:=by first|exact Or.inl rfl|exact Or.inr (Or.inl rfl)|exact Or.inr (Or.inr rfl)):True:=trivial
def au7 (h:True:=by first|exact Or.inl rfl|exact Or.inr rfl):True:=trivial
def au8 (h:True:=by size_fits):True:=trivial
def Qh:Bool->Keyed->Array Keyed->Nat->Nat->Nat->StateT SortSt Sem (Option Nat):=sortPriv% PySem.Builtin.gallop
def Vh:Array Keyed->Array Keyed->StateT SortSt Sem (Array Keyed):=sortPriv% PySem.Builtin.mergeLo
section
variable {prog:Program}{w:World}{A:Around}{E:Value->Shared->Prop}{s:Shared}{κ:KeyKind}
def ky (κ:KeyKind)(p:Keyed):κ.α:=(κ.keyOf p.1).getD κ.dflt
def yz {xs:Array Keyed}{i:Nat}(h:i<xs.size):KK κ xs i=ky κ xs[i]:=by
 unfold KK ky;rw[getElem?_pos xs i h]
def Yi (κ:KeyKind)(p:Keyed):Prop:=∃a,κ.keyOf p.1=some a
def ui {x y:Keyed}{st:SortSt}{Q:Option Bool->SortSt->Prop}(hO:κ.OneLt)(hk:kindOf st=oneType')(hx:Yi κ x)(hy:Yi κ y)(h:Q (some (κ.blt (ky κ x) (ky κ y))) st):wpS (model prog w) A E s (lt' x y) Q st:=by
 obtain⟨a,ha⟩:=hx;obtain⟨b,hb⟩:=hy;unfold ky at h;rw[ha,hb]at h;rw[lt'_eq];refine wpS_bind (wpS_get ?_);rw[hk,keyLt'_oneType];refine wpS_bind (wpS_lift (wpAny_attempt (hO prog w A _ s x.1 y.1 a b ha hb ⟨rfl,?_⟩)));exact wpS_pure h
def zr {arr:Array Keyed}{i:Nat}{Q:Keyed->SortSt->Prop}{st:SortSt}(hi:i<arr.size)(h:Q arr[i] st):wpS (model prog w) A E s (elem' arr i) Q st:=by
 rw[elem'_eq,getElem?_pos arr i hi];exact wpS_pure h
def Bey (κ:KeyKind)(left:Bool)(key:Keyed)(arr:Array Keyed)(base i:Nat):Bool:=if left=true then κ.blt (KK κ arr (base+i)) (ky κ key) else !κ.blt (ky κ key) (KK κ arr (base+i))
structure Cut (B:Nat->Bool)(n lo hi:Nat):Prop where
 le:lo<=hi
 hn:hi<=n
 lo:∀i,i<lo->B i=true
 hi:∀i,hi<=i->i<n->B i=false
def yQ {left:Bool}{key:Keyed}{arr:Array Keyed}{base n hint:Nat}{st:SortSt}{Q:Option Nat->SortSt->Prop}(hO:κ.OneLt)(hk:kindOf st=oneType')(hkey:Yi κ key)(hz:base+n<=arr.size)(ha:∀p∈arr.toList,Yi κ p)
  (hm:∀i j,i<=j->j<n->Bey κ left key arr base j=true->Bey κ left key arr base i=true) (hh:hint<n)
  (h:∀r,r<=n->(∀i,i<r->Bey κ left key arr base i=true)->(∀i,r<=i->i<n->Bey κ left key arr base i=false)->Q (some r) st):wpS (model prog w) A E s (Qh left key arr base n hint) Q st:=by
 have hb:∀ {i:Nat} {R:Option Bool->SortSt->Prop},i<n->R (some (Bey κ left key arr base i)) st->wpS (model prog w) A E s (do
   let x <-elem' arr (base+i)
   if left=true then lt' x key else do
    let r <-lt' key x
    pure (r.map fun x=>!x)) R st:=fun {i R} hi hR=>by
  have hi':base+i<arr.size:=by omega
  have hx:Yi κ arr[base+i]:=ha _ (by simp);unfold Bey at hR;rw[yz hi']at hR;refine wpS_bind (zr hi' ?_);cases left with
  | true =>
   rw[if_pos rfl]at hR ⊢;exact ui hO hk hx hkey hR
  | false =>
   rw[if_neg tH]at hR ⊢;exact wpS_bind (ui hO hk hkey hx (wpS_pure hR))
 generalize hB:Bey κ left key arr base=B at *;refine wpS_bind (hb hh ?_);dsimp only;cases hr:B hint with
 | true =>
  rw[if_pos rfl];refine wpS_bind (wpS_mono (wpS_forRange (I:=fun x c st'=>st'=st/\∃la ofs,c=(none,la,ofs)/\la<ofs/\x+1<=ofs/\hint+la<n/\B (hint+la)=true)
   (Q:=fun c st'=>st'=st/\∃la ofs,c=(none,la,ofs)/\la<ofs/\hint+la<n/\B (hint+la)=true/\(n-hint<=ofs\/(hint+ofs<n/\B (hint+ofs)=false))) ?_ ?_ ⟨rfl,0,1,rfl,by omega,by omega,by omega,hr⟩) ?_)
  ·rintro x c st' _ hx ⟨rfl,la,ofs,rfl,a1,a2,a3,a4⟩;dsimp only
   by_cases hge:ofs>=n-hint
   ·rw[if_pos hge];exact wpS_pure ⟨rfl,la,ofs,rfl,a1,a3,a4,.inl hge⟩
   ·rw[if_neg hge];refine wpS_bind (hb (by omega) ?_);dsimp only;cases hq:B (hint+ofs)with
    | true =>
     rw[rQ,if_neg tH];exact wpS_pure ⟨rfl,ofs,2*ofs+1,rfl,by omega,by omega,by omega,hq⟩
    | false =>
     rw[Bool.not_false,if_pos rfl];exact wpS_pure ⟨rfl,la,ofs,rfl,a1,a3,a4,.inr ⟨by omega,hq⟩⟩
  ·rintro c st' ⟨rfl,la,ofs,rfl,a1,a2,a3,a4⟩;exact⟨rfl,la,ofs,rfl,a1,a3,a4,.inl (by omega)⟩
  ·rintro c st2 ⟨h0,la,ofs,rfl,a1,a3,a4,a5⟩;rw[h0];dsimp only;have F:Cut B n (hint+la+1) (hint+min ofs (n-hint)):=by
    refine⟨by omega,by omega,fun i hi=>hm i (hint+la) (by omega) a3 a4,fun i h1 h2=>?_⟩;rcases a5 with q|⟨q1,q2⟩
    ·omega
    ·cases e:B i with
     | false=>rfl
     | true=>rw[hm (hint+ofs) i (by omega) h2 e]at q2;cases q2
   revert F;generalize hint+la+1=L;generalize hint+min ofs (n-hint)=U;intro F;refine wpS_bind (wpS_mono (wpS_forRange (I:=fun x c st'=>st'=st/\∃l u,c=(none,l,u)/\u-l<=n-x/\Cut B n l u) (Q:=fun c st'=>st'=st/\∃l u,c=(none,l,u)/\u<=l/\Cut B n l u) ?_ ?_ ⟨rfl,L,U,rfl,by have:=F.hn;omega,F⟩) ?_)
   ·rintro x c st' _ hx ⟨rfl,l,u,rfl,a1,C⟩;dsimp only;have c1:=C.le;have c2:=C.hn
    by_cases hge:l>=u
    ·rw[if_pos hge];exact wpS_pure ⟨rfl,l,u,rfl,hge,C⟩
    ·rw[if_neg hge];refine wpS_bind (hb (by omega) ?_);dsimp only;cases hq:B (l+(u-l)/2)with
     | true =>
      rw[if_pos rfl];refine wpS_pure ⟨rfl,_,u,rfl,by omega,by omega,c2,fun i hi=>?_,C.hi⟩
      by_cases z:i<l
      ·exact C.lo i z
      ·exact hm i (l+(u-l)/2) (by omega) (by omega) hq
     | false =>
      rw[if_neg tH];refine wpS_pure ⟨rfl,l,_,rfl,by omega,by omega,by omega,C.lo,fun i h1 h2=>?_⟩;cases e:B i with
      | false=>rfl
      | true=>rw[hm (l+(u-l)/2) i h1 h2 e]at hq;cases hq
   ·rintro c st' ⟨rfl,l,u,rfl,a1,C⟩;have c1:=C.le;exact⟨rfl,l,u,rfl,by omega,C⟩
   ·rintro c st' ⟨rfl,l,u,rfl,a1,C⟩;dsimp only;have c1:=C.le;have e:l=u:=by omega
    subst e;exact wpS_pure (h l C.hn C.lo C.hi)
 | false =>
  rw[if_neg tH];refine wpS_bind (wpS_mono (wpS_forRange (I:=fun x c st'=>st'=st/\∃la ofs,c=(none,la,ofs)/\la<ofs/\x+1<=ofs/\la<=hint/\B (hint-la)=false)
   (Q:=fun c st'=>st'=st/\∃la ofs,c=(none,la,ofs)/\la<ofs/\la<=hint/\B (hint-la)=false/\(hint+1<=ofs\/(ofs<=hint/\B (hint-ofs)=true))) ?_ ?_ ⟨rfl,0,1,rfl,by omega,by omega,by omega,hr⟩) ?_)
  ·rintro x c st' _ hx ⟨rfl,la,ofs,rfl,a1,a2,a3,a4⟩;dsimp only
   by_cases hge:ofs>=hint+1
   ·rw[if_pos hge];exact wpS_pure ⟨rfl,la,ofs,rfl,a1,a3,a4,.inl hge⟩
   ·rw[if_neg hge];refine wpS_bind (hb (by omega) ?_);dsimp only;cases hq:B (hint-ofs)with
    | true =>
     rw[if_pos rfl];exact wpS_pure ⟨rfl,la,ofs,rfl,a1,a3,a4,.inr ⟨by omega,hq⟩⟩
    | false =>
     rw[if_neg tH];exact wpS_pure ⟨rfl,ofs,2*ofs+1,rfl,by omega,by omega,by omega,hq⟩
  ·rintro c st' ⟨rfl,la,ofs,rfl,a1,a2,a3,a4⟩;exact⟨rfl,la,ofs,rfl,a1,a3,a4,.inl (by omega)⟩
  ·rintro c st2 ⟨h0,la,ofs,rfl,a1,a3,a4,a5⟩;rw[h0];dsimp only;have F:Cut B n (hint+1-min ofs (hint+1)) (hint-la):=by
    refine⟨by omega,by omega,fun i hi=>?_,fun i h1 h2=>?_⟩
    ·rcases a5 with q|⟨q1,q2⟩
     ·omega
     ·exact hm i (hint-ofs) (by omega) (by omega) q2
    ·cases e:B i with
     | false=>rfl
     | true=>rw[hm (hint-la) i (by omega) h2 e]at a4;cases a4
   revert F;generalize hint+1-min ofs (hint+1)=L;generalize hint-la=U;intro F;refine wpS_bind (wpS_mono (wpS_forRange (I:=fun x c st'=>st'=st/\∃l u,c=(none,l,u)/\u-l<=n-x/\Cut B n l u) (Q:=fun c st'=>st'=st/\∃l u,c=(none,l,u)/\u<=l/\Cut B n l u) ?_ ?_ ⟨rfl,L,U,rfl,by have:=F.hn;omega,F⟩) ?_)
   ·rintro x c st' _ hx ⟨rfl,l,u,rfl,a1,C⟩;dsimp only;have c1:=C.le;have c2:=C.hn
    by_cases hge:l>=u
    ·rw[if_pos hge];exact wpS_pure ⟨rfl,l,u,rfl,hge,C⟩
    ·rw[if_neg hge];refine wpS_bind (hb (by omega) ?_);dsimp only;cases hq:B (l+(u-l)/2)with
     | true =>
      rw[if_pos rfl];refine wpS_pure ⟨rfl,_,u,rfl,by omega,by omega,c2,fun i hi=>?_,C.hi⟩
      by_cases z:i<l
      ·exact C.lo i z
      ·exact hm i (l+(u-l)/2) (by omega) (by omega) hq
     | false =>
      rw[if_neg tH];refine wpS_pure ⟨rfl,l,_,rfl,by omega,by omega,by omega,C.lo,fun i h1 h2=>?_⟩;cases e:B i with
      | false=>rfl
      | true=>rw[hm (l+(u-l)/2) i h1 h2 e]at hq;cases hq
   ·rintro c st' ⟨rfl,l,u,rfl,a1,C⟩;have c1:=C.le;exact⟨rfl,l,u,rfl,by omega,C⟩
   ·rintro c st' ⟨rfl,l,u,rfl,a1,C⟩;dsimp only;have c1:=C.le;have e:l=u:=by omega
    subst e;exact wpS_pure (h l C.hn C.lo C.hi)
end
open PySem PyProof.Rows
def XT:Nat->Nat->StateT SortSt Sem (Option Nat):=sortPriv% PySem.Builtin.countRun
section
variable {prog:Program}{w:World}{A:Around}{E:Value->Shared->Prop}{s:Shared}{κ:KeyKind}
def Seg (κ:KeyKind)(xs:Array Keyed)(lo hi:Nat):Prop:=∀i j,lo<=i->i<=j->j<hi->κ.kle (KK κ xs i) (KK κ xs j)
def Dsc (κ:KeyKind)(xs:Array Keyed)(lo hi:Nat):Prop:=∀i j,lo<=i->i<=j->j<hi->κ.kle (KK κ xs j) (KK κ xs i)
def AllK (κ:KeyKind)(xs:Array Keyed):Prop:=∀p∈xs.toList,Yi κ p
structure Pv (lo:Nat)(st st':SortSt):Prop where
 kind:kindOf st'=kindOf st
 failed:failedOf st'=failedOf st
 pend:pendingOf st'=pendingOf st
 perm:(arrOf st').Perm (arrOf st)
 pre:∀k,k<lo->(arrOf st')[k]?=(arrOf st)[k]?
theorem Pv.refl (lo:Nat)(st:SortSt):Pv lo st st:=⟨rfl,rfl,rfl,Array.Perm.refl _,fun _ _=>rfl⟩
theorem Pv.trans {lo:Nat}{a b c:SortSt}(h1:Pv lo a b)(h2:Pv lo b c):Pv lo a c:=⟨h2.kind.trans h1.kind,h2.failed.trans h1.failed,h2.pend.trans h1.pend,h2.perm.trans h1.perm,fun k hk=>(h2.pre k hk).trans (h1.pre k hk)⟩
theorem Pv.size {lo:Nat}{a b:SortSt}(h:Pv lo a b):(arrOf b).size=(arrOf a).size:=h.perm.size_eq
def Pv.allK {lo:Nat}{a b:SortSt}(h:Pv lo a b)(ha:AllK κ (arrOf a)):AllK κ (arrOf b):=fun p hp=>ha p ((Array.perm_iff_toList_perm.mp h.perm).mem_iff.mp hp)
theorem Pv.arr {lo:Nat}{st:SortSt}{xs:Array Keyed}(hp:xs.Perm (arrOf st))(h:∀k,k<lo->xs[k]?=(arrOf st)[k]?):Pv lo st (setArr st xs):=⟨rfl,rfl,rfl,hp,h⟩
theorem Pv.mirror {lo i j:Nat}{st:SortSt}(hi:lo<=i)(hj:j<=(arrOf st).size):Pv lo st (setArr st (mirror (arrOf st) i j ((j-i)/2))):=.arr (mirror_perm _ _ _ _) fun k hk=>by rw[getElem?_mirror_all hj,if_neg (by omega)]
theorem Pv.bubble {lo src d:Nat}{st:SortSt}(hs:src<(arrOf st).size)(hd:lo+d<=src):Pv lo st (setArr st (bubble (arrOf st) src d)):=.arr (bubble_perm _ _ _) fun k hk=>by rw[getElem?_bubble hs d (by omega),if_neg (by omega),if_neg (by omega)]
def xu {i j:Nat}{st:SortSt}{Q:Option Bool->SortSt->Prop}(hO:κ.OneLt)(hk:kindOf st=oneType')(ha:AllK κ (arrOf st))(hi:i<(arrOf st).size)(hj:j<(arrOf st).size)(h:Q (some (κ.blt (KK κ (arrOf st) i) (KK κ (arrOf st) j))) st):wpS (model prog w) A E s (ltAt' i j) Q st:=by
 rw[yz hi,yz hj]at h;rw[ltAt'_eq];exact wpS_bind (wpS_get (wpS_bind (zr hi (wpS_bind (zr hj (ui hO hk (ha _ (by simp)) (ha _ (by simp)) h))))))
def xQ {i j:Nat}{st:SortSt}{Q:Unit->SortSt->Prop}(h:Q () (setArr st (mirror (arrOf st) i j ((j-i)/2)))):wpS (model prog w) A E s (reverseSlice' i j) Q st:=by
 rw[reverseSlice'_eq];exact wpS_modify h
theorem Seg.one {xs:Array Keyed}{lo:Nat}:Seg κ xs lo (lo+1):=fun i j h1 h2 h3=>by
 have:i=j:=by omega
 subst this;exact KeyOrd.kle_refl _
theorem Seg.snoc {xs:Array Keyed}{lo hi:Nat}(h:Seg κ xs lo hi)(hl:lo<hi)(hx:κ.kle (KK κ xs (hi-1)) (KK κ xs hi)):Seg κ xs lo (hi+1):=fun i j h1 h2 h3=>by
 by_cases z:j<hi
 ·exact h i j h1 h2 z
 ·have:j=hi:=by omega
  subst this
  by_cases z2:i=j
  ·subst z2;exact KeyOrd.kle_refl _
  ·exact KeyOrd.kle_trans (h i (j-1) h1 (by omega) (by omega)) hx
theorem Dsc.snoc {xs:Array Keyed}{lo hi:Nat}(h:Dsc κ xs lo hi)(hl:lo<hi)(hx:κ.kle (KK κ xs hi) (KK κ xs (hi-1))):Dsc κ xs lo (hi+1):=fun i j h1 h2 h3=>by
 by_cases z:j<hi
 ·exact h i j h1 h2 z
 ·have:j=hi:=by omega
  subst this
  by_cases z2:i=j
  ·subst z2;exact KeyOrd.kle_refl _
  ·exact KeyOrd.kle_trans hx (h i (j-1) h1 (by omega) (by omega))
theorem Dsc.eqv {xs ys:Array Keyed}{lo hi:Nat}(h:Dsc κ xs lo hi)(e:∀k,KK κ ys k=KK κ xs k):Dsc κ ys lo hi:=fun i j h1 h2 h3=>by rw[e,e];exact h i j h1 h2 h3
theorem Dsc.turn {xs:Array Keyed}{lo hi:Nat}(h:Dsc κ xs lo hi)(hz:hi<=xs.size):Seg κ (mirror xs lo hi ((hi-lo)/2)) lo hi:=fun i j h1 h2 h3=>by
 rw[KK_mirror hz,KK_mirror hz,if_pos ⟨h1,by omega⟩,if_pos ⟨by omega,h3⟩];exact h _ _ (by omega) (by omega) (by omega)
def XU {lo nrem:Nat}{st:SortSt}{Q:Option Nat->SortSt->Prop}(hO:κ.OneLt)(hk:kindOf st=oneType')(ha:AllK κ (arrOf st))(hz:lo+nrem<=(arrOf st).size)(h1:1<=nrem)
  (h:∀m st',Pv lo st st'->1<=m->m<=nrem->Seg κ (arrOf st') lo (lo+m)->Q (some m) st'):wpS (model prog w) A E s (XT lo nrem) Q st:=by
 refine wpS_bind (wpS_mono (wpS_forRange (I:=fun x c st'=>st'=st/\c=(none,x)/\Seg κ (arrOf st) lo (lo+x)) (Q:=fun c st'=>st'=st/\∃v,c=(none,v)/\1<=v/\v<=nrem/\Seg κ (arrOf st) lo (lo+v)/\(v=nrem\/κ.klt (KK κ (arrOf st) (lo+v)) (KK κ (arrOf st) (lo+v-1)))) ?_ ?_ ⟨rfl,rfl,Seg.one⟩) ?_)
 ·rintro x c st' hx1 hx2 ⟨h0,rfl,hs'⟩;rw[h0];dsimp only;refine wpS_bind (xu hO hk ha (by omega) (by omega) ?_);dsimp only;cases hq:κ.blt (KK κ (arrOf st) (lo+x)) (KK κ (arrOf st) (lo+x-1))with
  | true =>
   rw[if_pos rfl];exact wpS_pure ⟨rfl,x,rfl,hx1,by omega,hs',.inr hq⟩
  | false =>
   rw[if_neg tH];exact wpS_pure ⟨rfl,rfl,hs'.snoc (by omega) hq⟩
 ·rintro c st' ⟨h0,rfl,hs'⟩;rw[show max 1 nrem=nrem by omega]at hs' ⊢;exact⟨h0,nrem,rfl,by omega,tM _,hs',.inl rfl⟩
 ·rintro c st2 ⟨h0,n,rfl,n1,n2,n3,n4⟩;rw[h0];dsimp only
  by_cases hnn:n=nrem
  ·rw[if_pos (by simpa using hnn)];exact wpS_pure (h n st (Pv.refl _ _) n1 n2 n3)
  ·rw[if_neg (by simpa using hnn)];have hlt:=n4.resolve_left hnn
   by_cases hgt:n>1
   ·rw[if_pos hgt];refine wpS_bind (xu hO hk ha (by omega) (by omega) ?_);dsimp only;cases hrose:κ.blt (KK κ (arrOf st) lo) (KK κ (arrOf st) (lo+n-1))with
    | true =>
     rw[if_pos rfl];exact wpS_pure (h n st (Pv.refl _ _) n1 n2 n3)
    | false =>
     rw[if_neg tH];have hall:∀k,lo<=k->k<lo+n->KK κ (arrOf st) k=KK κ (arrOf st) (lo+n-1):=fun k k1 k2=>KeyOrd.kle_antisymm (n3 k (lo+n-1) k1 (by omega) (by omega)) (KeyOrd.kle_trans hrose (n3 lo k (tM _) k1 k2));refine wpS_bind (xQ ?_);have P1:=Pv.mirror (st:=st) (lo:=lo) (i:=lo) (j:=lo+n) (tM _) (by omega);have D1:Dsc κ (arrOf (setArr st (mirror (arrOf st) lo (lo+n) ((lo+n-lo)/2)))) lo (lo+(n+1)):=by
      have D0:Dsc κ (arrOf st) lo (lo+n):=fun i j a1 a2 a3=>by rw[hall i a1 (by omega),hall j (by omega) a3];exact KeyOrd.kle_refl _
      exact (D0.snoc (by omega) (KeyOrd.kle_of_klt hlt)).eqv fun k=>KK_mirror_equal (by omega) hall k
     revert P1 D1;generalize setArr st (mirror (arrOf st) lo (lo+n) ((lo+n-lo)/2))=s1;intro P1 D1;refine wpS_bind (wpS_lift (wpAny_rule ⟨rfl,?_⟩));have hz1:(arrOf s1).size=(arrOf st).size:=P1.size;refine wpS_bind (wpS_mono (wpS_forRange (I:=fun x c st'=>∃q,c=(none,x,q)/\Pv lo st st'/\Dsc κ (arrOf st') lo (lo+x)/\q+1<=x/\∀i,lo+x-(q+1)<=i->i<lo+x->KK κ (arrOf st') i=KK κ (arrOf st') (lo+x-1))
      (Q:=fun c st'=>∃m q,c=(none,m,q)/\1<=m/\m<=nrem/\Pv lo st st'/\Dsc κ (arrOf st') lo (lo+m)/\q+1<=m/\∀i,lo+m-(q+1)<=i->i<lo+m->KK κ (arrOf st') i=KK κ (arrOf st') (lo+m-1)) ?_ ?_ ⟨0,rfl,P1,D1,by omega,fun i h1 h2=>by congr 1;omega⟩) ?_)
     ·rintro x c st' hx1 hx2 ⟨q,rfl,P',D',hq1,he⟩;have hk':=P'.kind.trans hk;have ha':=P'.allK ha;have hz':=P'.size;dsimp only;refine wpS_bind (xu hO hk' ha' (by omega) (by omega) ?_);dsimp only;cases hl:κ.blt (KK κ (arrOf st') (lo+x)) (KK κ (arrOf st') (lo+x-1))with
      | true =>
       rw[if_pos rfl];have D2:=D'.snoc (by omega) (KeyOrd.kle_of_klt hl)
       by_cases hneq:q>0
       ·rw[if_pos hneq];refine wpS_bind (xQ (wpS_pure ⟨0,rfl,P'.trans (Pv.mirror (by omega) (by omega)),D2.eqv fun k=>KK_mirror_equal (by omega) he k,by omega,fun i h1 h2=>by congr 1;omega⟩))
       ·rw[if_neg hneq];exact wpS_pure ⟨0,rfl,P',D2,by omega,fun i h1 h2=>by congr 1;omega⟩
      | false =>
       rw[if_neg tH];refine wpS_bind (xu hO hk' ha' (by omega) (by omega) ?_);dsimp only;cases hg:κ.blt (KK κ (arrOf st') (lo+x-1)) (KK κ (arrOf st') (lo+x))with
       | true =>
        rw[if_pos rfl];exact wpS_pure ⟨x,q,rfl,by omega,by omega,P',D',hq1,he⟩
       | false =>
        rw[if_neg tH];have ee:KK κ (arrOf st') (lo+x)=KK κ (arrOf st') (lo+x-1):=KeyOrd.kle_antisymm hg hl;refine wpS_pure ⟨q+1,rfl,P',D'.snoc (by omega) (by rw[ee];exact KeyOrd.kle_refl _),by omega,fun i h1 h2=>?_⟩;rw[show lo+(x+1)-1=lo+x by omega]
        by_cases z:i=lo+x
        ·rw[z]
        ·rw[ee];exact he i (by omega) (by omega)
     ·rintro c st' ⟨q,rfl,P',D',hq1,he⟩;rw[show max (n+1) nrem=nrem by omega]at *;exact⟨nrem,q,rfl,by omega,tM _,P',D',hq1,he⟩
     ·rintro c s2 ⟨m,q,rfl,m1,m2,P2,D2,hq1,he⟩;dsimp only;have hz2:=P2.size
      by_cases hneq:q>0
      ·rw[if_pos hneq];refine wpS_bind (xQ ?_);have P3:=P2.trans (Pv.mirror (lo:=lo) (i:=lo+m-(q+1)) (j:=lo+m) (by omega) (by omega));have D3:Dsc κ (arrOf (setArr s2 (mirror (arrOf s2) (lo+m-(q+1)) (lo+m) ((lo+m-(lo+m-(q+1)))/2)))) lo (lo+m):=D2.eqv fun k=>KK_mirror_equal (by omega) he k;revert P3 D3;generalize setArr s2 (mirror (arrOf s2) (lo+m-(q+1)) (lo+m) ((lo+m-(lo+m-(q+1)))/2))=s2';intro P3 D3;have hz3:=P3.size;refine wpS_bind (xQ ?_);have P4:=P3.trans (Pv.mirror (lo:=lo) (i:=lo) (j:=lo+m) (by omega) (by omega));have S4:Seg κ (arrOf (setArr s2' (mirror (arrOf s2') lo (lo+m) ((lo+m-lo)/2)))) lo (lo+m):=D3.turn (by omega);revert P4 S4;generalize setArr s2' (mirror (arrOf s2') lo (lo+m) ((lo+m-lo)/2))=s4;intro P4 S4;have hk4:=P4.kind.trans hk;have ha4:=P4.allK ha;have hz4:=P4.size;refine wpS_bind (wpS_mono (wpS_forRange (I:=fun x c st'=>st'=s4/\c=(none,x)/\Seg κ (arrOf s4) lo (lo+x)) (Q:=fun c st'=>st'=s4/\∃v,c=(none,v)/\m<=v/\v<=nrem/\Seg κ (arrOf s4) lo (lo+v)/\(v=nrem\/κ.klt (KK κ (arrOf s4) (lo+v)) (KK κ (arrOf s4) (lo+v-1)))) ?_ ?_ ⟨rfl,rfl,S4⟩) ?_)
       ·rintro x c st' hx1 hx2 ⟨h0,rfl,hs'⟩;rw[h0];dsimp only;refine wpS_bind (xu hO hk4 ha4 (by omega) (by omega) ?_);dsimp only;cases hq:κ.blt (KK κ (arrOf s4) (lo+x)) (KK κ (arrOf s4) (lo+x-1))with
        | true =>
         rw[if_pos rfl];exact wpS_pure ⟨rfl,x,rfl,hx1,by omega,hs',.inr hq⟩
        | false =>
         rw[if_neg tH];exact wpS_pure ⟨rfl,rfl,hs'.snoc (by omega) hq⟩
       ·rintro c st' ⟨h0,rfl,hs'⟩;rw[show max m nrem=nrem by omega]at hs' ⊢;exact⟨h0,nrem,rfl,by omega,tM _,hs',.inl rfl⟩
       ·rintro c st5 ⟨h0,u,rfl,u1,u2,u3,_⟩;rw[h0];dsimp only;exact wpS_pure (h u _ P4 (by omega) u2 u3)
      ·rw[if_neg hneq];have P3:=P2;have D3:=D2;have hz3:=P3.size;refine wpS_bind (xQ ?_);have P4:=P3.trans (Pv.mirror (lo:=lo) (i:=lo) (j:=lo+m) (by omega) (by omega));have S4:Seg κ (arrOf (setArr s2 (mirror (arrOf s2) lo (lo+m) ((lo+m-lo)/2)))) lo (lo+m):=D3.turn (by omega);revert P4 S4;generalize setArr s2 (mirror (arrOf s2) lo (lo+m) ((lo+m-lo)/2))=s4;intro P4 S4;have hk4:=P4.kind.trans hk;have ha4:=P4.allK ha;have hz4:=P4.size;refine wpS_bind (wpS_mono (wpS_forRange (I:=fun x c st'=>st'=s4/\c=(none,x)/\Seg κ (arrOf s4) lo (lo+x)) (Q:=fun c st'=>st'=s4/\∃v,c=(none,v)/\m<=v/\v<=nrem/\Seg κ (arrOf s4) lo (lo+v)/\(v=nrem\/κ.klt (KK κ (arrOf s4) (lo+v)) (KK κ (arrOf s4) (lo+v-1)))) ?_ ?_ ⟨rfl,rfl,S4⟩) ?_)
       ·rintro x c st' hx1 hx2 ⟨h0,rfl,hs'⟩;rw[h0];dsimp only;refine wpS_bind (xu hO hk4 ha4 (by omega) (by omega) ?_);dsimp only;cases hq:κ.blt (KK κ (arrOf s4) (lo+x)) (KK κ (arrOf s4) (lo+x-1))with
        | true =>
         rw[if_pos rfl];exact wpS_pure ⟨rfl,x,rfl,hx1,by omega,hs',.inr hq⟩
        | false =>
         rw[if_neg tH];exact wpS_pure ⟨rfl,rfl,hs'.snoc (by omega) hq⟩
       ·rintro c st' ⟨h0,rfl,hs'⟩;rw[show max m nrem=nrem by omega]at hs' ⊢;exact⟨h0,nrem,rfl,by omega,tM _,hs',.inl rfl⟩
       ·rintro c st5 ⟨h0,u,rfl,u1,u2,u3,_⟩;rw[h0];dsimp only;exact wpS_pure (h u _ P4 (by omega) u2 u3)
   ·rw[if_neg hgt];have e1:n=1:=by omega
    have P1:Pv lo st st:=Pv.refl lo st;have D1:Dsc κ (arrOf st) lo (lo+(n+1)):=by
     refine Dsc.snoc (hi:=lo+n) (fun i j a1 a2 a3=>?_) (by omega) (KeyOrd.kle_of_klt hlt);have:i=j:=by omega
     subst this;exact KeyOrd.kle_refl _
    refine wpS_bind (wpS_lift (wpAny_rule ⟨rfl,?_⟩));have hz1:(arrOf st).size=(arrOf st).size:=P1.size;refine wpS_bind (wpS_mono (wpS_forRange (I:=fun x c st'=>∃q,c=(none,x,q)/\Pv lo st st'/\Dsc κ (arrOf st') lo (lo+x)/\q+1<=x/\∀i,lo+x-(q+1)<=i->i<lo+x->KK κ (arrOf st') i=KK κ (arrOf st') (lo+x-1))
     (Q:=fun c st'=>∃m q,c=(none,m,q)/\1<=m/\m<=nrem/\Pv lo st st'/\Dsc κ (arrOf st') lo (lo+m)/\q+1<=m/\∀i,lo+m-(q+1)<=i->i<lo+m->KK κ (arrOf st') i=KK κ (arrOf st') (lo+m-1)) ?_ ?_ ⟨0,rfl,P1,D1,by omega,fun i h1 h2=>by congr 1;omega⟩) ?_)
    ·rintro x c st' hx1 hx2 ⟨q,rfl,P',D',hq1,he⟩;have hk':=P'.kind.trans hk;have ha':=P'.allK ha;have hz':=P'.size;dsimp only;refine wpS_bind (xu hO hk' ha' (by omega) (by omega) ?_);dsimp only;cases hl:κ.blt (KK κ (arrOf st') (lo+x)) (KK κ (arrOf st') (lo+x-1))with
     | true =>
      rw[if_pos rfl];have D2:=D'.snoc (by omega) (KeyOrd.kle_of_klt hl)
      by_cases hneq:q>0
      ·rw[if_pos hneq];refine wpS_bind (xQ (wpS_pure ⟨0,rfl,P'.trans (Pv.mirror (by omega) (by omega)),D2.eqv fun k=>KK_mirror_equal (by omega) he k,by omega,fun i h1 h2=>by congr 1;omega⟩))
      ·rw[if_neg hneq];exact wpS_pure ⟨0,rfl,P',D2,by omega,fun i h1 h2=>by congr 1;omega⟩
     | false =>
      rw[if_neg tH];refine wpS_bind (xu hO hk' ha' (by omega) (by omega) ?_);dsimp only;cases hg:κ.blt (KK κ (arrOf st') (lo+x-1)) (KK κ (arrOf st') (lo+x))with
      | true =>
       rw[if_pos rfl];exact wpS_pure ⟨x,q,rfl,by omega,by omega,P',D',hq1,he⟩
      | false =>
       rw[if_neg tH];have ee:KK κ (arrOf st') (lo+x)=KK κ (arrOf st') (lo+x-1):=KeyOrd.kle_antisymm hg hl;refine wpS_pure ⟨q+1,rfl,P',D'.snoc (by omega) (by rw[ee];exact KeyOrd.kle_refl _),by omega,fun i h1 h2=>?_⟩;rw[show lo+(x+1)-1=lo+x by omega]
       by_cases z:i=lo+x
       ·rw[z]
       ·rw[ee];exact he i (by omega) (by omega)
    ·rintro c st' ⟨q,rfl,P',D',hq1,he⟩;rw[show max (n+1) nrem=nrem by omega]at *;exact⟨nrem,q,rfl,by omega,tM _,P',D',hq1,he⟩
    ·rintro c s2 ⟨m,q,rfl,m1,m2,P2,D2,hq1,he⟩;dsimp only;have hz2:=P2.size
     by_cases hneq:q>0
     ·rw[if_pos hneq];refine wpS_bind (xQ ?_);have P3:=P2.trans (Pv.mirror (lo:=lo) (i:=lo+m-(q+1)) (j:=lo+m) (by omega) (by omega));have D3:Dsc κ (arrOf (setArr s2 (mirror (arrOf s2) (lo+m-(q+1)) (lo+m) ((lo+m-(lo+m-(q+1)))/2)))) lo (lo+m):=D2.eqv fun k=>KK_mirror_equal (by omega) he k;revert P3 D3;generalize setArr s2 (mirror (arrOf s2) (lo+m-(q+1)) (lo+m) ((lo+m-(lo+m-(q+1)))/2))=s2';intro P3 D3;have hz3:=P3.size;refine wpS_bind (xQ ?_);have P4:=P3.trans (Pv.mirror (lo:=lo) (i:=lo) (j:=lo+m) (by omega) (by omega));have S4:Seg κ (arrOf (setArr s2' (mirror (arrOf s2') lo (lo+m) ((lo+m-lo)/2)))) lo (lo+m):=D3.turn (by omega);revert P4 S4;generalize setArr s2' (mirror (arrOf s2') lo (lo+m) ((lo+m-lo)/2))=s4;intro P4 S4;have hk4:=P4.kind.trans hk;have ha4:=P4.allK ha;have hz4:=P4.size;refine wpS_bind (wpS_mono (wpS_forRange (I:=fun x c st'=>st'=s4/\c=(none,x)/\Seg κ (arrOf s4) lo (lo+x)) (Q:=fun c st'=>st'=s4/\∃v,c=(none,v)/\m<=v/\v<=nrem/\Seg κ (arrOf s4) lo (lo+v)/\(v=nrem\/κ.klt (KK κ (arrOf s4) (lo+v)) (KK κ (arrOf s4) (lo+v-1)))) ?_ ?_ ⟨rfl,rfl,S4⟩) ?_)
      ·rintro x c st' hx1 hx2 ⟨h0,rfl,hs'⟩;rw[h0];dsimp only;refine wpS_bind (xu hO hk4 ha4 (by omega) (by omega) ?_);dsimp only;cases hq:κ.blt (KK κ (arrOf s4) (lo+x)) (KK κ (arrOf s4) (lo+x-1))with
       | true =>
        rw[if_pos rfl];exact wpS_pure ⟨rfl,x,rfl,hx1,by omega,hs',.inr hq⟩
       | false =>
        rw[if_neg tH];exact wpS_pure ⟨rfl,rfl,hs'.snoc (by omega) hq⟩
      ·rintro c st' ⟨h0,rfl,hs'⟩;rw[show max m nrem=nrem by omega]at hs' ⊢;exact⟨h0,nrem,rfl,by omega,tM _,hs',.inl rfl⟩
      ·rintro c st5 ⟨h0,u,rfl,u1,u2,u3,_⟩;rw[h0];dsimp only;exact wpS_pure (h u _ P4 (by omega) u2 u3)
     ·rw[if_neg hneq];have P3:=P2;have D3:=D2;have hz3:=P3.size;refine wpS_bind (xQ ?_);have P4:=P3.trans (Pv.mirror (lo:=lo) (i:=lo) (j:=lo+m) (by omega) (by omega));have S4:Seg κ (arrOf (setArr s2 (mirror (arrOf s2) lo (lo+m) ((lo+m-lo)/2)))) lo (lo+m):=D3.turn (by omega);revert P4 S4;generalize setArr s2 (mirror (arrOf s2) lo (lo+m) ((lo+m-lo)/2))=s4;intro P4 S4;have hk4:=P4.kind.trans hk;have ha4:=P4.allK ha;have hz4:=P4.size;refine wpS_bind (wpS_mono (wpS_forRange (I:=fun x c st'=>st'=s4/\c=(none,x)/\Seg κ (arrOf s4) lo (lo+x)) (Q:=fun c st'=>st'=s4/\∃v,c=(none,v)/\m<=v/\v<=nrem/\Seg κ (arrOf s4) lo (lo+v)/\(v=nrem\/κ.klt (KK κ (arrOf s4) (lo+v)) (KK κ (arrOf s4) (lo+v-1)))) ?_ ?_ ⟨rfl,rfl,S4⟩) ?_)
      ·rintro x c st' hx1 hx2 ⟨h0,rfl,hs'⟩;rw[h0];dsimp only;refine wpS_bind (xu hO hk4 ha4 (by omega) (by omega) ?_);dsimp only;cases hq:κ.blt (KK κ (arrOf s4) (lo+x)) (KK κ (arrOf s4) (lo+x-1))with
       | true =>
        rw[if_pos rfl];exact wpS_pure ⟨rfl,x,rfl,hx1,by omega,hs',.inr hq⟩
       | false =>
        rw[if_neg tH];exact wpS_pure ⟨rfl,rfl,hs'.snoc (by omega) hq⟩
      ·rintro c st' ⟨h0,rfl,hs'⟩;rw[show max m nrem=nrem by omega]at hs' ⊢;exact⟨h0,nrem,rfl,by omega,tM _,hs',.inl rfl⟩
      ·rintro c st5 ⟨h0,u,rfl,u1,u2,u3,_⟩;rw[h0];dsimp only;exact wpS_pure (h u _ P4 (by omega) u2 u3)
end
open PySem PyProof.Rows
def ZV:Nat->Nat->Nat->StateT SortSt Sem Bool:=sortPriv% PySem.Builtin.binarySort
section
variable {prog:Program}{w:World}{A:Around}{E:Value->Shared->Prop}{s:Shared}{κ:KeyKind}
def J5 {lo n ok:Nat}{st:SortSt}{Q:Bool->SortSt->Prop}(hO:κ.OneLt)(hk:kindOf st=oneType')(ha:AllK κ (arrOf st))(hz:lo+n<=(arrOf st).size)(hok:1<=ok)(hon:ok<=n)(hs:Seg κ (arrOf st) lo (lo+ok))
  (h:∀st',Pv lo st st'->Seg κ (arrOf st') lo (lo+n)->Q true st'):wpS (model prog w) A E s (ZV lo n ok) Q st:=by
 refine wpS_bind (wpS_mono (wpS_forRange (I:=fun k c st'=>c=(none,())/\Pv lo st st'/\Seg κ (arrOf st') lo (lo+k)) (Q:=fun c st'=>c=(none,())/\Pv lo st st'/\Seg κ (arrOf st') lo (lo+n)) ?_ ?_ ⟨rfl,Pv.refl _ _,by rw[show max ok 1=ok by omega];exact hs⟩) ?_)
 ·rintro k c st' hk1 hk2 ⟨rfl,P,S⟩;have hk':=P.kind.trans hk;have ha':=P.allK ha;have hz':=P.size;dsimp only;refine wpS_bind (wpS_mono (wpS_forRange (I:=fun x c u=>u=st'/\∃l r,c=(none,l,r)/\l<=r/\r<=k/\r-l<=k-x/\(∀i,i<l->κ.kle (KK κ (arrOf st') (lo+i)) (KK κ (arrOf st') (lo+k)))/\∀i,r<=i->i<k->κ.klt (KK κ (arrOf st') (lo+k)) (KK κ (arrOf st') (lo+i)))
   (Q:=fun c u=>u=st'/\∃l r,c=(none,l,r)/\l<=k/\(∀i,i<l->κ.kle (KK κ (arrOf st') (lo+i)) (KK κ (arrOf st') (lo+k)))/\∀i,l<=i->i<k->κ.klt (KK κ (arrOf st') (lo+k)) (KK κ (arrOf st') (lo+i))) ?_ ?_ ⟨rfl,0,k,rfl,by omega,by omega,by omega,fun i hi=>by omega,fun i a1 a2=>by omega⟩) ?_)
  ·rintro x c u _ hx ⟨h0,l,r,rfl,b1,b2,b3,b4,b5⟩;rw[h0];dsimp only
   by_cases hge:l>=r
   ·rw[if_pos hge];have e:l=r:=by omega
    exact wpS_pure ⟨rfl,l,r,rfl,by omega,b4,fun i a1 a2=>b5 i (by omega) a2⟩
   ·rw[if_neg hge];refine wpS_bind (xu hO hk' ha' (by omega) (by omega) ?_);dsimp only;cases hq:κ.blt (KK κ (arrOf st') (lo+k)) (KK κ (arrOf st') (lo+(l+r)/2))with
    | true =>
     rw[if_pos rfl];exact wpS_pure ⟨rfl,l,_,rfl,by omega,by omega,by omega,b4,fun i a1 a2=>KeyOrd.klt_of_klt_of_kle hq (S _ _ (by omega) (by omega) (by omega))⟩
    | false =>
     rw[if_neg tH];exact wpS_pure ⟨rfl,_,r,rfl,by omega,by omega,by omega,fun i a1=>KeyOrd.kle_trans (S (lo+i) (lo+(l+r)/2) (by omega) (by omega) (by omega)) hq,b5⟩
  ·rintro c u ⟨h0,l,r,rfl,b1,b2,b3,b4,b5⟩;exact⟨h0,l,r,rfl,by omega,b4,fun i a1 a2=>b5 i (by omega) a2⟩
  ·rintro c u ⟨h0,l,r,rfl,b1,b4,b5⟩;rw[h0];dsimp only;refine wpS_bind (show wpS _ _ _ _ (moveDown' (lo+k) (lo+l)) _ _ from ?_);rw[moveDown'_eq];refine wpS_modify (wpS_pure ⟨rfl,P.trans (Pv.bubble (by omega) (by omega)),?_⟩);have hks:lo+k<(arrOf st').size:=by omega
   intro i j i1 ij j1;show κ.kle (KK κ (bubble (arrOf st') (lo+k) (lo+k-(lo+l))) i) (KK κ (bubble (arrOf st') (lo+k) (lo+k-(lo+l))) j);rw[KK_bubble hks (by omega),KK_bubble hks (by omega),show lo+k-(lo+k-(lo+l))=lo+l by omega];have g4:∀q,lo<=q->q<lo+l->κ.kle (KK κ (arrOf st') q) (KK κ (arrOf st') (lo+k)):=fun q q1 q2=>by
    have:=b4 (q-lo) (by omega);rw[show lo+(q-lo)=q by omega]at this;exact this
   have g5:∀q,lo+l<=q->q<lo+k->κ.klt (KK κ (arrOf st') (lo+k)) (KK κ (arrOf st') q):=fun q q1 q2=>by
    have:=b5 (q-lo) (by omega) (by omega);rw[show lo+(q-lo)=q by omega]at this;exact this
   repeat' split
   all_goals first
    | (exfalso;omega)
    | exact KeyOrd.kle_refl _
    | exact g4 _ (by omega) (by omega)
    | exact KeyOrd.kle_of_klt (g5 _ (by omega) (by omega))
    | exact S _ _ (by omega) (by omega) (by omega)
 ·rintro c st' ⟨rfl,P,S⟩;rw[show max (max ok 1) n=n by omega]at S;exact⟨rfl,P,S⟩
 ·rintro c st' ⟨rfl,P,S⟩;exact wpS_pure (h st' P S)
end
open PySem PyProof.Rows
section
variable {α:Type}{R:α->α->Prop}
structure Mg (R:α->α->Prop)(la lb lo:List α)(ia ib:Nat):Prop where
 perm:lo.Perm (la.take ia++lb.take ib)
 srt:lo.Pairwise R
 ra:∀p∈lo,∀q∈la.drop ia,R p q
 rb:∀p∈lo,∀q∈lb.drop ib,R p q
variable {la lb lo:List α}{ia ib:Nat}
def Mg.flip (h:Mg R la lb lo ia ib):Mg R lb la lo ib ia:=⟨h.perm.trans rR,h.srt,h.rb,h.ra⟩
def Mg.extA (h:Mg R la lb lo ia ib)(sa:la.Pairwise R){k:Nat}(hx:∀p∈(la.drop ia).take k,∀q∈lb.drop ib,R p q):Mg R la lb (lo++(la.drop ia).take k) (ia+k) ib:=by
 have hd:la.drop ia=(la.drop ia).take k++la.drop (ia+k):=by rw[<-rN,sV]
 have sd:(la.drop ia).Pairwise R:=List.Pairwise.sublist (List.drop_sublist _ _) sa;rw[hd]at sd;obtain⟨s1,s2,s3⟩:=rB.mp sd;refine⟨?_,rB.mpr ⟨h.srt,s1,fun p hp q hq=>h.ra p hp q (rM hq)⟩,fun p hp q hq=>?_,fun p hp q hq=>?_⟩
 ·rw[List.take_add];have p1:=h.perm.append_right ((la.drop ia).take k);refine p1.trans ?_;rw[tO,tO];exact List.Perm.append_left _ rR
 ·rcases tW.mp hp with hp|hp
  ·refine h.ra p hp q ?_;rw[hd];exact tN _ hq
  ·exact s3 p hp q hq
 ·rcases tW.mp hp with hp|hp
  ·exact h.rb p hp q hq
  ·exact hx p hp q hq
def Mg.extB (h:Mg R la lb lo ia ib)(sb:lb.Pairwise R){k:Nat}(hx:∀p∈(lb.drop ib).take k,∀q∈la.drop ia,R p q):Mg R la lb (lo++(lb.drop ib).take k) ia (ib+k):=(h.flip.extA sb hx).flip
def Res (R:α->α->Prop)(la lb lo:List α):Prop:=lo.Perm (la++lb)/\lo.Pairwise R
def Mg.finAB (h:Mg R la lb lo ia ib)(sa:la.Pairwise R)(sb:lb.Pairwise R)(hx:∀p∈la.drop ia,∀q∈lb.drop ib,R p q):Res R la lb (lo++la.drop ia++lb.drop ib):=by
 have m1:=h.extA sa (k:=la.length) (fun p hp=>hx p (rM hp));have e1:(la.drop ia).take la.length=la.drop ia:=rA (by rw[sT];omega);rw[e1]at m1;have d1:la.drop (ia+la.length)=[]:=pB (by omega);have m2:=m1.extB sb (k:=lb.length) (fun p _ q hq=>by rw[d1]at hq;cases hq);have e2:(lb.drop ib).take lb.length=lb.drop ib:=rA (by rw[sT];omega);rw[e2]at m2;refine⟨?_,m2.srt⟩;have:=m2.perm;rw[rA (by omega),rA (by omega)]at this;exact this
theorem Res.flip (h:Res R la lb lo):Res R lb la lo:=⟨h.1.trans rR,h.2⟩
def Mg.finBA (h:Mg R la lb lo ia ib)(sa:la.Pairwise R)(sb:lb.Pairwise R)(hx:∀p∈lb.drop ib,∀q∈la.drop ia,R p q):Res R la lb (lo++lb.drop ib++la.drop ia):=(h.flip.finAB sb sa hx).flip
def vH {la:List α}{i:Nat}(h:i<la.length):(la.drop i).take 1=[la[i]]:=by
 rw[rG h]
 rfl
def yV {la:List α}{i:Nat}{p:α}(h:p∈la.drop i):∃j,∃hj:j<la.length,i<=j/\la[j]=p:=by
 obtain⟨k,hk,e⟩:=List.mem_iff_getElem.mp h;rw[sT]at hk;refine⟨i+k,by omega,by omega,?_⟩;rw[<-e,rV]
def zH {la:List α}{i k:Nat}{p:α}(h:p∈(la.drop i).take k):∃j,∃hj:j<la.length,i<=j/\j<i+k/\la[j]=p:=by
 obtain⟨m,hm,e⟩:=List.mem_iff_getElem.mp h;rw[sG,sT]at hm;refine⟨i+m,by omega,by omega,by omega,?_⟩;rw[<-e,rW,rV]
end
section
variable {κ:KeyKind}
def Rk (κ:KeyKind)(p q:Keyed):Prop:=κ.kle (ky κ p) (ky κ q)
theorem Seg.pair {xs:Array Keyed}(h:Seg κ xs 0 xs.size):xs.toList.Pairwise (Rk κ):=by
 rw[pG];intro i j hi hj hij;have hi':i<xs.size:=by simpa using hi
 have hj':j<xs.size:=by simpa using hj
 have:=h i j (sZ _) (rK hij) hj';rw[yz hi',yz hj']at this
 simpa [Rk] using this
def zM {xs:Array Keyed}{i:Nat}(h:i<xs.toList.length):KK κ xs i=ky κ xs.toList[i]:=by
 have h':i<xs.size:=by simpa using h
 rw[yz h'];simp
def xY (xs:Array Keyed)(i j:Nat):(xs.extract i j).toList=(xs.toList.drop i).take (j-i):=by
 rw[Array.toList_extract]
def qo (xs:Array Keyed)(i:Nat):(xs.extract i xs.size).toList=xs.toList.drop i:=by
 rw[xY];exact rA (by rw[sT];simp)
end
open PySem PyProof.Rows
section
variable {κ:KeyKind}
structure Gv (st st':SortSt):Prop where
 kind:kindOf st'=kindOf st
 arr:arrOf st'=arrOf st
 pend:pendingOf st'=pendingOf st
 failed:failedOf st'=failedOf st
def Gv.refl (st:SortSt):Gv st st:=⟨rfl,rfl,rfl,rfl⟩
theorem Gv.trans {a b c:SortSt}(h1:Gv a b)(h2:Gv b c):Gv a c:=⟨h2.kind.trans h1.kind,h2.arr.trans h1.arr,h2.pend.trans h1.pend,h2.failed.trans h1.failed⟩
def wC {left:Bool}{key:Keyed}{arr:Array Keyed}{base n:Nat}(S:Seg κ arr 0 arr.size)(hz:base+n<=arr.size):∀i j,i<=j->j<n->Bey κ left key arr base j=true->Bey κ left key arr base i=true:=fun i j hij hj hb=>by
 have hs:=S (base+i) (base+j) (sZ _) (by omega) (by omega);unfold Bey at *;cases left with
 | true =>
  rw[if_pos rfl]at *;exact KeyOrd.klt_of_kle_of_klt hs hb
 | false =>
  rw[if_neg tH]at *;have h1:κ.kle (KK κ arr (base+j)) (ky κ key):=by simpa [KeyOrd.kle] using hb
  have h2:=KeyOrd.kle_trans hs h1
  simpa [KeyOrd.kle] using h2
variable {a b:Array Keyed}{ia ib k:Nat}
def zR (xs:Array Keyed):xs.toList.length=xs.size:=by simp
def gA1 (Sb:Seg κ b 0 b.size)(hb:ib<b.size)(h:∀i,i<k->Bey κ false b[ib] a ia i=true):∀p∈(a.toList.drop ia).take k,∀q∈b.toList.drop ib,Rk κ p q:=fun p hp q hq=>by
 obtain⟨j,hj,j1,j2,rfl⟩:=zH hp;obtain⟨m,hm,m1,rfl⟩:=yV hq;have h1:=h (j-ia) (by omega);unfold Bey at h1;rw[if_neg tH,show ia+(j-ia)=j by omega,zM hj]at h1;have h2:=Sb ib m (sZ _) m1 (by rw[<-zR];exact hm);rw[yz hb,zM hm]at h2;have h3:κ.kle (ky κ a.toList[j]) (ky κ b[ib]):=by simpa [KeyOrd.kle] using h1
 exact KeyOrd.kle_trans h3 h2
def gA2 (hb:ib<b.size)(h:∀i,k<=i->i<a.size-ia->Bey κ false b[ib] a ia i=false):∀p∈(b.toList.drop ib).take 1,∀q∈a.toList.drop (ia+k),Rk κ p q:=fun p hp q hq=>by
 obtain⟨j,hj,j1,j2,rfl⟩:=zH hp;obtain⟨m,hm,m1,rfl⟩:=yV hq;have ej:j=ib:=by omega
 subst ej;rw[zR]at hm;have h1:=h (m-ia) (by omega) (by omega);unfold Bey at h1;rw[if_neg tH,show ia+(m-ia)=m by omega,zM (by rw[zR];exact hm)]at h1;have h3:κ.klt (ky κ b[j]) (ky κ a.toList[m]):=by simpa [KeyOrd.klt] using h1
 have h4:=KeyOrd.kle_of_klt h3
 simpa [Rk] using h4
def gB1 (Sa:Seg κ a 0 a.size)(ha:ia<a.size)(h:∀i,i<k->Bey κ true a[ia] b ib i=true):∀p∈(b.toList.drop ib).take k,∀q∈a.toList.drop ia,Rk κ p q:=fun p hp q hq=>by
 obtain⟨j,hj,j1,j2,rfl⟩:=zH hp;obtain⟨m,hm,m1,rfl⟩:=yV hq;have h1:=h (j-ib) (by omega);unfold Bey at h1;rw[if_pos rfl,show ib+(j-ib)=j by omega,zM hj]at h1;have h2:=Sa ia m (sZ _) m1 (by rw[<-zR];exact hm);rw[yz ha,zM hm]at h2;exact KeyOrd.kle_trans (KeyOrd.kle_of_klt h1) h2
def gB2 (ha:ia<a.size)(h:∀i,k<=i->i<b.size-ib->Bey κ true a[ia] b ib i=false):∀p∈(a.toList.drop ia).take 1,∀q∈b.toList.drop (ib+k),Rk κ p q:=fun p hp q hq=>by
 obtain⟨j,hj,j1,j2,rfl⟩:=zH hp;obtain⟨m,hm,m1,rfl⟩:=yV hq;have ej:j=ia:=by omega
 subst ej;rw[zR]at hm;have h1:=h (m-ib) (by omega) (by omega);unfold Bey at h1;rw[if_pos rfl,show ib+(m-ib)=m by omega,zM (by rw[zR];exact hm)]at h1;have h4:κ.kle (ky κ a[j]) (ky κ b.toList[m]):=h1
 simpa [Rk] using h4
def cB1 (Sa:Seg κ a 0 a.size)(ha:ia<a.size)(hb:ib<b.size)(h:κ.blt (ky κ b[ib]) (ky κ a[ia])=true):∀p∈(b.toList.drop ib).take 1,∀q∈a.toList.drop ia,Rk κ p q:=gB1 Sa ha fun i hi=>by
 have:i=0:=by omega
 subst this;unfold Bey;rw[if_pos rfl,Nat.add_zero,yz hb];exact h
def cA1 (Sb:Seg κ b 0 b.size)(ha:ia<a.size)(hb:ib<b.size)(h:κ.blt (ky κ b[ib]) (ky κ a[ia])=false):∀p∈(a.toList.drop ia).take 1,∀q∈b.toList.drop ib,Rk κ p q:=gA1 Sb hb fun i hi=>by
 have:i=0:=by omega
 subst this;unfold Bey;rw[if_neg tH,Nat.add_zero,yz ha,h]
 rfl
abbrev MgA (κ:KeyKind)(a b out:Array Keyed)(ia ib:Nat):Prop:=Mg (Rk κ) a.toList b.toList out.toList ia ib
abbrev uG (κ:KeyKind)(a b out:Array Keyed):Prop:=Res (Rk κ) a.toList b.toList out.toList
variable {out:Array Keyed}
def MgA.pushA (h:MgA κ a b out ia ib)(Sa:Seg κ a 0 a.size)(ha:ia<a.size)(hx:∀p∈(a.toList.drop ia).take 1,∀q∈b.toList.drop ib,Rk κ p q):MgA κ a b (out.push a[ia]) (ia+1) ib:=by
 have:=Mg.extA h Sa.pair (k:=1) hx;rw[vH (by rw[zR];exact ha)]at this;show Mg _ _ _ (out.push a[ia]).toList _ _;rw[Array.toList_push]
 simpa using this
def MgA.pushB (h:MgA κ a b out ia ib)(Sb:Seg κ b 0 b.size)(hb:ib<b.size)(hx:∀p∈(b.toList.drop ib).take 1,∀q∈a.toList.drop ia,Rk κ p q):MgA κ a b (out.push b[ib]) ia (ib+1):=(MgA.pushA (Mg.flip h) Sb hb hx).flip
theorem MgA.extA (h:MgA κ a b out ia ib)(Sa:Seg κ a 0 a.size)(hx:∀p∈(a.toList.drop ia).take k,∀q∈b.toList.drop ib,Rk κ p q):MgA κ a b (out++a.extract ia (ia+k)) (ia+k) ib:=by
 have:=Mg.extA h Sa.pair hx;show Mg _ _ _ (out++a.extract ia (ia+k)).toList _ _;rw[Array.toList_append,xY,sR];exact this
theorem MgA.extB (h:MgA κ a b out ia ib)(Sb:Seg κ b 0 b.size)(hx:∀p∈(b.toList.drop ib).take k,∀q∈a.toList.drop ia,Rk κ p q):MgA κ a b (out++b.extract ib (ib+k)) ia (ib+k):=(MgA.extA (Mg.flip h) Sb hx).flip
theorem MgA.done (h:MgA κ a b out ia ib)(Sa:Seg κ a 0 a.size)(Sb:Seg κ b 0 b.size)(he:ia=a.size\/ib=b.size):uG κ a b (out++a.extract ia a.size++b.extract ib b.size):=by
 have:=Mg.finAB h Sa.pair Sb.pair (fun p hp q hq=>by
  rcases he with e|e
  ·rw[e,<-zR,rY]at hp;cases hp
  ·rw[e,<-zR,rY]at hq;cases hq)
 show Res _ _ _ (out++a.extract ia a.size++b.extract ib b.size).toList;rw[Array.toList_append,Array.toList_append,qo,qo];exact this
theorem MgA.last (h:MgA κ a b out ia ib)(Sa:Seg κ a 0 a.size)(Sb:Seg κ b 0 b.size)(he:ia+1=a.size)(hl:∀j,j<b.size->κ.kle (KK κ b j) (KK κ a (a.size-1))):uG κ a b (out++b.extract ib b.size++a.extract ia a.size):=by
 have:=Mg.finBA h Sa.pair Sb.pair (fun p hp q hq=>by
  obtain⟨j,hj,j1,rfl⟩:=yV hp;obtain⟨m,hm,m1,rfl⟩:=yV hq;have h1:=hl j (by rw[<-zR];exact hj);have em:m=a.size-1:=by rw[zR]at hm;omega
  rw[zM hj,<-em,zM hm]at h1;exact h1)
 show Res _ _ _ (out++b.extract ib b.size++a.extract ia a.size).toList;rw[Array.toList_append,Array.toList_append,qo,qo];exact this
end
open PySem PyProof.Rows
section
variable {prog:Program}{w:World}{A:Around}{E:Value->Shared->Prop}{s:Shared}{κ:KeyKind}
def ZM {a b:Array Keyed}{st:SortSt}{Q:Array Keyed->SortSt->Prop}(hO:κ.OneLt)(hk:kindOf st=oneType')(ka:AllK κ a)(kb:AllK κ b)(Sa:Seg κ a 0 a.size)(Sb:Seg κ b 0 b.size)(na:0<a.size)(nb:0<b.size)(h0:κ.klt (KK κ b 0) (KK κ a 0))(hl:∀j,j<b.size->κ.kle (KK κ b j) (KK κ a (a.size-1)))
  (h:∀xs st',Gv st st'->uG κ a b xs->Q xs st'):wpS (model prog w) A E s (Vh a b) Q st:=by
 refine wpS_bind (wpS_lift (wpAny_rule ⟨rfl,?_⟩));refine wpS_bind (zr nb ?_);dsimp only;have M0:MgA κ a b #[b[0]] 0 1:=by
  have e:MgA κ a b #[] 0 0:=⟨by simp,by simp,fun p hp=>by simp at hp,fun p hp=>by simp at hp⟩
  rw[yz nb,yz na]at h0;exact e.pushB Sb nb (cB1 Sa na nb h0)
 by_cases hb1:1=b.size
 ·rw[if_pos (by simpa using hb1)];exact wpS_pure (h _ _ (Gv.refl _) (M0.done Sa Sb (.inr hb1)))
 rw[if_neg (by simpa using hb1)]
 by_cases ha1:0+1=a.size
 ·rw[if_pos (by simpa using ha1)];exact wpS_pure (h _ _ (Gv.refl _) (M0.last Sa Sb ha1 hl))
 rw[if_neg (by simpa using ha1)];refine wpS_bind (wpS_get ?_);refine wpS_bind (wpS_mono (wpS_forRange (I:=fun x c st'=>Gv st st'/\∃out ia ib g,c=(none,out,ia,ib,g)/\MgA κ a b out ia ib/\ia+1<a.size/\ib<b.size/\x+1<=ia+ib)
  (Q:=fun c st'=>Gv st st'/\∃xs out ia ib g,c=(some xs,out,ia,ib,g)/\uG κ a b xs) ?_ ?_ ⟨Gv.refl _,_,0,1,_,rfl,M0,by omega,by omega,by omega⟩) ?_)
 rotate_left
 ·rintro c st' ⟨_,out,ia,ib,g,_,_,h1,h2,h3⟩;omega
 ·rintro c st' ⟨G,xs,out,ia,ib,g,rfl,R⟩;dsimp only;exact wpS_pure (h xs st' G R)
 rintro x c st' _ hx ⟨G,out0,ia0,ib0,g0,rfl,M,a1,b1,p1⟩;dsimp only;have hk':=G.kind.trans hk;refine wpS_bind (wpS_mono (wpS_forRange (I:=fun y c u=>u=st'/\∃out ia ib ac bc,c=(none,out,ia,ib,ac,bc)/\MgA κ a b out ia ib/\ia+1<a.size/\ib<b.size/\ia0+ib0+y<=ia+ib)
  (Q:=fun c u=>u=st'/\∃r out ia ib ac bc,c=(r,out,ia,ib,ac,bc)/\((∃xs,r=some xs/\uG κ a b xs)\/(r=none/\MgA κ a b out ia ib/\ia+1<a.size/\ib<b.size/\ia0+ib0+1<=ia+ib))) ?_ ?_ ⟨rfl,out0,ia0,ib0,0,0,rfl,M,a1,b1,by omega⟩) ?_)
 ·rintro y c u _ hy ⟨e0,out,ia,ib,ac,bc,rfl,M1,a2,b2,p2⟩;rw[e0];dsimp only;have a3:ia<a.size:=by omega
  refine wpS_bind (zr b2 ?_);refine wpS_bind (zr a3 ?_);refine wpS_bind (ui hO hk' (kb _ (by simp)) (ka _ (by simp)) ?_);dsimp only;cases hw:κ.blt (ky κ b[ib]) (ky κ a[ia])with
  | true =>
   rw[if_pos rfl];refine wpS_bind (zr b2 ?_);have M2:=M1.pushB Sb b2 (cB1 Sa a3 b2 hw)
   by_cases e:ib+1=b.size
   ·rw[if_pos (by simpa using e)];exact wpS_pure ⟨rfl,_,_,_,_,_,_,rfl,.inl ⟨_,rfl,M2.done Sa Sb (.inr e)⟩⟩
   ·rw[if_neg (by simpa using e)];split
    ·exact wpS_pure ⟨rfl,_,_,_,_,_,_,rfl,.inr ⟨rfl,M2,a2,by omega,by omega⟩⟩
    ·exact wpS_pure ⟨rfl,_,_,_,_,_,rfl,M2,a2,by omega,by omega⟩
  | false =>
   rw[if_neg tH];refine wpS_bind (zr a3 ?_);have M2:=M1.pushA Sa a3 (cA1 Sb a3 b2 hw)
   by_cases e:ia+1+1=a.size
   ·rw[if_pos (by simpa using e)];exact wpS_pure ⟨rfl,_,_,_,_,_,_,rfl,.inl ⟨_,rfl,M2.last Sa Sb e hl⟩⟩
   ·rw[if_neg (by simpa using e)];split
    ·exact wpS_pure ⟨rfl,_,_,_,_,_,_,rfl,.inr ⟨rfl,M2,by omega,b2,by omega⟩⟩
    ·exact wpS_pure ⟨rfl,_,_,_,_,_,rfl,M2,by omega,b2,by omega⟩
 ·rintro c u ⟨_,out,ia,ib,ac,bc,_,_,h1,h2,h3⟩;omega
 rintro c u ⟨e0,r,out1,ia1,ib1,ac1,bc1,rfl,(⟨xs,rfl,R⟩|⟨rfl,M1,a2,b2,p2⟩)⟩
 ·rw[e0];dsimp only;exact wpS_pure ⟨G,xs,_,_,_,_,rfl,R⟩
 rw[e0];dsimp only;refine wpS_bind (wpS_lift (wpAny_rule ⟨rfl,?_⟩));refine wpS_bind (wpS_mono (wpS_forRange (I:=fun y c u=>Gv st u/\∃out ia ib g ac bc,c=(none,out,ia,ib,g,ac,bc)/\MgA κ a b out ia ib/\ia+1<a.size/\ib<b.size/\ia1+ib1+y<=ia+ib)
  (Q:=fun c u=>Gv st u/\∃r out ia ib g ac bc,c=(r,out,ia,ib,g,ac,bc)/\((∃xs,r=some xs/\uG κ a b xs)\/(r=none/\MgA κ a b out ia ib/\ia+1<a.size/\ib<b.size/\ia1+ib1<=ia+ib))) ?_ ?_ ⟨G,out1,ia1,ib1,_,ac1,bc1,rfl,M1,a2,b2,by omega⟩) ?_)
 rotate_left
 ·rintro c u ⟨_,out,ia,ib,g,ac,bc,_,_,h1,h2,h3⟩;omega
 ·rintro c u ⟨G2,r,out,ia,ib,g,ac,bc,rfl,(⟨xs,rfl,R⟩|⟨rfl,M2,a3,b3,p3⟩)⟩
  ·dsimp only;exact wpS_pure ⟨G2,xs,_,_,_,_,rfl,R⟩
  ·dsimp only;refine wpS_bind (wpS_modify ?_);exact wpS_pure ⟨G2.trans ⟨rfl,rfl,rfl,rfl⟩,_,_,_,_,rfl,M2,a3,b3,by omega⟩
 rintro y c u _ hy ⟨G2,out,ia,ib,g,ac,bc,rfl,M2,a3,b3,p3⟩;dsimp only;have a4:ia<a.size:=by omega
 by_cases hg:g>1
 rw[if_pos hg]
 rotate_left
 rw[if_neg hg]
 all_goals
  refine wpS_bind (wpS_modify ?_);refine wpS_bind (zr b3 ?_);refine wpS_bind (yQ hO (G2.kind.trans hk) (kb _ (by simp)) (by omega) ka (wC Sa (by omega)) (by omega) fun k k1 k2 k3=>?_);dsimp only;have X1:=gA1 (a:=a) (ia:=ia) Sb b3 k2;have X2:=gA2 (a:=a) (ia:=ia) b3 k3;have G3:∀v:SortSt,kindOf v=kindOf u->arrOf v=arrOf u->pendingOf v=pendingOf u->failedOf v=failedOf u->Gv st v:=fun v w1 w2 w3 w4=>G2.trans ⟨w1,w2,w3,w4⟩
  by_cases kz:k>0
  ·rw[if_pos kz];have M3:=M2.extA Sa X1
   by_cases e1:ia+k+1=a.size
   ·rw[if_pos (by simpa using e1)];exact wpS_pure ⟨G3 _ rfl rfl rfl rfl,_,_,_,_,_,_,_,rfl,.inl ⟨_,rfl,M3.last Sa Sb e1 hl⟩⟩
   rw[if_neg (by simpa using e1)]
   by_cases e2:ia+k=a.size
   ·rw[if_pos (by simpa using e2)];exact wpS_pure ⟨G3 _ rfl rfl rfl rfl,_,_,_,_,_,_,_,rfl,.inl ⟨_,rfl,M3.done Sa Sb (.inl e2)⟩⟩
   rw[if_neg (by simpa using e2)];refine wpS_bind (zr b3 ?_);have M4:=MgA.pushB M3 Sb b3 X2
   by_cases e3:ib+1=b.size
   ·rw[if_pos (by simpa using e3)];exact wpS_pure ⟨G3 _ rfl rfl rfl rfl,_,_,_,_,_,_,_,rfl,.inl ⟨_,rfl,M4.done Sa Sb (.inr e3)⟩⟩
   rw[if_neg (by simpa using e3)];have a5:ia+k<a.size:=by omega
   refine wpS_bind (zr a5 ?_);refine wpS_bind (yQ hO (G2.kind.trans hk) (ka _ (by simp)) (by omega) kb (wC Sb (by omega)) (by omega) fun l l1 l2 l3=>?_);dsimp only;have Y1:=gB1 (b:=b) (ib:=ib+1) Sa a5 l2;have Y2:=gB2 (b:=b) (ib:=ib+1) a5 l3
   by_cases lz:l>0
   ·rw[if_pos lz];have M5:=M4.extB Sb Y1
    by_cases e4:ib+1+l=b.size
    ·rw[if_pos (by simpa using e4)];exact wpS_pure ⟨G3 _ rfl rfl rfl rfl,_,_,_,_,_,_,_,rfl,.inl ⟨_,rfl,M5.done Sa Sb (.inr e4)⟩⟩
    rw[if_neg (by simpa using e4)];refine wpS_bind (zr a5 ?_);have M6:=M5.pushA Sa a5 Y2
    by_cases e5:ia+k+1+1=a.size
    ·rw[if_pos (by simpa using e5)];exact wpS_pure ⟨G3 _ rfl rfl rfl rfl,_,_,_,_,_,_,_,rfl,.inl ⟨_,rfl,M6.last Sa Sb e5 hl⟩⟩
    rw[if_neg (by simpa using e5)];split
    ·exact wpS_pure ⟨G3 _ rfl rfl rfl rfl,_,_,_,_,_,_,_,rfl,.inr ⟨rfl,M6,by omega,by omega,by omega⟩⟩
    ·exact wpS_pure ⟨G3 _ rfl rfl rfl rfl,_,_,_,_,_,_,rfl,M6,by omega,by omega,by omega⟩
   ·rw[if_neg lz];have l0:l=0:=by omega
    subst l0;refine wpS_bind (zr a5 ?_);have M6:=M4.pushA Sa a5 Y2
    by_cases e5:ia+k+1+1=a.size
    ·rw[if_pos (by simpa using e5)];exact wpS_pure ⟨G3 _ rfl rfl rfl rfl,_,_,_,_,_,_,_,rfl,.inl ⟨_,rfl,M6.last Sa Sb e5 hl⟩⟩
    rw[if_neg (by simpa using e5)];split
    ·exact wpS_pure ⟨G3 _ rfl rfl rfl rfl,_,_,_,_,_,_,_,rfl,.inr ⟨rfl,M6,by omega,by omega,by omega⟩⟩
    ·exact wpS_pure ⟨G3 _ rfl rfl rfl rfl,_,_,_,_,_,_,rfl,M6,by omega,by omega,by omega⟩
  ·rw[if_neg kz];have k0:k=0:=by omega
   subst k0;have M3:=M2;refine wpS_bind (zr b3 ?_);have M4:=MgA.pushB M3 Sb b3 X2
   by_cases e3:ib+1=b.size
   ·rw[if_pos (by simpa using e3)];exact wpS_pure ⟨G3 _ rfl rfl rfl rfl,_,_,_,_,_,_,_,rfl,.inl ⟨_,rfl,M4.done Sa Sb (.inr e3)⟩⟩
   rw[if_neg (by simpa using e3)];have a5:ia<a.size:=by omega
   refine wpS_bind (zr a5 ?_);refine wpS_bind (yQ hO (G2.kind.trans hk) (ka _ (by simp)) (by omega) kb (wC Sb (by omega)) (by omega) fun l l1 l2 l3=>?_);dsimp only;have Y1:=gB1 (b:=b) (ib:=ib+1) Sa a5 l2;have Y2:=gB2 (b:=b) (ib:=ib+1) a5 l3
   by_cases lz:l>0
   ·rw[if_pos lz];have M5:=M4.extB Sb Y1
    by_cases e4:ib+1+l=b.size
    ·rw[if_pos (by simpa using e4)];exact wpS_pure ⟨G3 _ rfl rfl rfl rfl,_,_,_,_,_,_,_,rfl,.inl ⟨_,rfl,M5.done Sa Sb (.inr e4)⟩⟩
    rw[if_neg (by simpa using e4)];refine wpS_bind (zr a5 ?_);have M6:=M5.pushA Sa a5 Y2
    by_cases e5:ia+1+1=a.size
    ·rw[if_pos (by simpa using e5)];exact wpS_pure ⟨G3 _ rfl rfl rfl rfl,_,_,_,_,_,_,_,rfl,.inl ⟨_,rfl,M6.last Sa Sb e5 hl⟩⟩
    rw[if_neg (by simpa using e5)];split
    ·exact wpS_pure ⟨G3 _ rfl rfl rfl rfl,_,_,_,_,_,_,_,rfl,.inr ⟨rfl,M6,by omega,by omega,by omega⟩⟩
    ·exact wpS_pure ⟨G3 _ rfl rfl rfl rfl,_,_,_,_,_,_,rfl,M6,by omega,by omega,by omega⟩
   ·rw[if_neg lz];have l0:l=0:=by omega
    subst l0;refine wpS_bind (zr a5 ?_);have M6:=M4.pushA Sa a5 Y2
    by_cases e5:ia+1+1=a.size
    ·rw[if_pos (by simpa using e5)];exact wpS_pure ⟨G3 _ rfl rfl rfl rfl,_,_,_,_,_,_,_,rfl,.inl ⟨_,rfl,M6.last Sa Sb e5 hl⟩⟩
    rw[if_neg (by simpa using e5)];split
    ·exact wpS_pure ⟨G3 _ rfl rfl rfl rfl,_,_,_,_,_,_,_,rfl,.inr ⟨rfl,M6,by omega,by omega,by omega⟩⟩
    ·exact wpS_pure ⟨G3 _ rfl rfl rfl rfl,_,_,_,_,_,_,rfl,M6,by omega,by omega,by omega⟩
end
open PySem PyProof.Rows
def VX:Array Keyed->Array Keyed->StateT SortSt Sem (Array Keyed):=sortPriv% PySem.Builtin.mergeHi
section
variable {α:Type}{R:α->α->Prop}{la lb lo:List α}{na nb:Nat}
structure Mh (R:α->α->Prop)(la lb lo:List α)(na nb:Nat):Prop where
 mg:Mg (fun p q=>R q p) la.reverse lb.reverse lo (la.length-na) (lb.length-nb)
 ha:na<=la.length
 hb:nb<=lb.length
theorem Mh.flip (h:Mh R la lb lo na nb):Mh R lb la lo nb na:=⟨h.mg.flip,h.hb,h.ha⟩
def wF (h:na<=la.length):la.reverse.drop (la.length-na)=(la.take na).reverse:=by
 rw[List.drop_reverse];congr 2;omega
def Wg {at_:Nat}(h:na<=la.length)(h2:at_<=na):(la.reverse.drop (la.length-na)).take (na-at_)=((la.drop at_).take (na-at_)).reverse:=by
 rw[wF h,List.take_reverse,sG,show min na la.length-(na-at_)=at_ by omega,List.drop_take]
theorem Mh.extA (h:Mh R la lb lo na nb)(sa:la.Pairwise R){at_:Nat}(h2:at_<=na)(hx:∀p∈(la.drop at_).take (na-at_),∀q∈lb.take nb,R q p):Mh R la lb (lo++((la.drop at_).take (na-at_)).reverse) at_ nb:=by
 have e:=Wg h.ha h2;have sr:la.reverse.Pairwise (fun p q=>R q p):=pD.mpr sa;have ha:=h.ha;have:=h.mg.extA sr (k:=na-at_) (fun p hp q hq=>by
  rw[e,pP]at hp;rw[wF h.hb,pP]at hq;exact hx p hp q hq)
 rw[e,show la.length-na+(na-at_)=la.length-at_ by omega]at this;exact⟨this,by omega,h.hb⟩
def Mh.finAB (h:Mh R la lb lo na nb)(sa:la.Pairwise R)(sb:lb.Pairwise R)(hx:∀p∈la.take na,∀q∈lb.take nb,R p q):Res R la lb (la.take na++lb.take nb++lo.reverse):=by
 have sra:la.reverse.Pairwise (fun p q=>R q p):=pD.mpr sa;have srb:lb.reverse.Pairwise (fun p q=>R q p):=pD.mpr sb;have r:=h.mg.finBA sra srb (fun p hp q hq=>by
  rw[wF h.hb,pP]at hp;rw[wF h.ha,pP]at hq;exact hx q hq p hp)
 rw[wF h.ha,wF h.hb]at r;have e:lo++(lb.take nb).reverse++(la.take na).reverse=(la.take na++lb.take nb++lo.reverse).reverse:=by simp
 rw[e]at r;refine⟨?_,pD.mp r.2⟩;have p1:=(List.reverse_perm (la.take na++lb.take nb++lo.reverse)).symm.trans r.1;exact p1.trans ((List.reverse_perm la).append (List.reverse_perm lb))
def Mh.finBA (h:Mh R la lb lo na nb)(sa:la.Pairwise R)(sb:lb.Pairwise R)(hx:∀p∈lb.take nb,∀q∈la.take na,R p q):Res R la lb (lb.take nb++la.take na++lo.reverse):=(h.flip.finAB sb sa hx).flip
def yG {n:Nat}{p:α}(h:p∈la.take n):∃j,∃hj:j<la.length,j<n/\la[j]=p:=by
 obtain⟨k,hk,e⟩:=List.mem_iff_getElem.mp h;rw[sG]at hk;refine⟨k,by omega,by omega,?_⟩;rw[<-e,rW]
end
section
variable {κ:KeyKind}{a b out:Array Keyed}{na nb r:Nat}
abbrev MhA (κ:KeyKind)(a b out:Array Keyed)(na nb:Nat):Prop:=Mh (Rk κ) a.toList b.toList out.toList na nb
def Qi (xs:Array Keyed)(n:Nat):(xs.extract 0 n).toList=xs.toList.take n:=by rw[xY,pM,Nat.sub_zero]
theorem MhA.extA (h:MhA κ a b out na nb)(Sa:Seg κ a 0 a.size)(h2:r<=na)(hx:∀p∈(a.toList.drop r).take (na-r),∀q∈b.toList.take nb,Rk κ q p):MhA κ a b (out++(a.extract r na).reverse) r nb:=by
 have:=Mh.extA h Sa.pair h2 hx;show Mh _ _ _ (out++(a.extract r na).reverse).toList _ _;rw[Array.toList_append,Array.toList_reverse,xY];exact this
theorem MhA.extB (h:MhA κ a b out na nb)(Sb:Seg κ b 0 b.size)(h2:r<=nb)(hx:∀p∈(b.toList.drop r).take (nb-r),∀q∈a.toList.take na,Rk κ q p):MhA κ a b (out++(b.extract r nb).reverse) na r:=(MhA.extA (Mh.flip h) Sb h2 hx).flip
def MhA.pushA (h:MhA κ a b out na nb)(Sa:Seg κ a 0 a.size)(h0:0<na)(hn:na-1<a.size)(hx:∀p∈(a.toList.drop (na-1)).take 1,∀q∈b.toList.take nb,Rk κ q p):MhA κ a b (out.push a[na-1]) (na-1) nb:=by
 have:=Mh.extA h Sa.pair (at_:=na-1) (by omega) (by rw[show na-(na-1)=1 by omega];exact hx);rw[show na-(na-1)=1 by omega,vH (by rw[zR];exact hn)]at this;show Mh _ _ _ (out.push a[na-1]).toList _ _;rw[Array.toList_push]
 simpa using this
def MhA.pushB (h:MhA κ a b out na nb)(Sb:Seg κ b 0 b.size)(h0:0<nb)(hn:nb-1<b.size)(hx:∀p∈(b.toList.drop (nb-1)).take 1,∀q∈a.toList.take na,Rk κ q p):MhA κ a b (out.push b[nb-1]) na (nb-1):=(MhA.pushA (Mh.flip h) Sb h0 hn hx).flip
theorem MhA.done (h:MhA κ a b out na nb)(Sa:Seg κ a 0 a.size)(Sb:Seg κ b 0 b.size)(he:na=0\/nb=0):uG κ a b (a.extract 0 na++b.extract 0 nb++out.reverse):=by
 have:=Mh.finAB h Sa.pair Sb.pair (fun p hp q hq=>by
  rcases he with e|e
  ·rw[e,List.take_zero]at hp;cases hp
  ·rw[e,List.take_zero]at hq;cases hq)
 show Res _ _ _ (a.extract 0 na++b.extract 0 nb++out.reverse).toList;rw[Array.toList_append,Array.toList_append,Qi,Qi,Array.toList_reverse];exact this
def MhA.first (h:MhA κ a b out na nb)(Sa:Seg κ a 0 a.size)(Sb:Seg κ b 0 b.size)(he:nb=1)(na0:0<a.size)(h0:κ.klt (KK κ b 0) (KK κ a 0)):uG κ a b (b.extract 0 nb++a.extract 0 na++out.reverse):=by
 have:=Mh.finBA h Sa.pair Sb.pair (fun p hp q hq=>by
  obtain⟨j,hj,j1,rfl⟩:=yG hp;obtain⟨m,hm,m1,rfl⟩:=yG hq;have ej:j=0:=by omega
  subst ej;have h1:=Sa 0 m (tM _) (sZ _) (by rw[<-zR];exact hm);rw[zM hj]at h0;rw[zM hm]at h1;exact KeyOrd.kle_trans (KeyOrd.kle_of_klt h0) h1)
 show Res _ _ _ (b.extract 0 nb++a.extract 0 na++out.reverse).toList;rw[Array.toList_append,Array.toList_append,Qi,Qi,Array.toList_reverse];exact this
def hA1 (Sb:Seg κ b 0 b.size)(hb0:0<nb)(hb:nb-1<b.size)(h:∀i,r<=i->i<na->Bey κ false b[nb-1] a 0 i=false):∀p∈(a.toList.drop r).take (na-r),∀q∈b.toList.take nb,Rk κ q p:=fun p hp q hq=>by
 obtain⟨j,hj,j1,j2,rfl⟩:=zH hp;obtain⟨m,hm,m1,rfl⟩:=yG hq;have h1:=h j j1 (by omega);unfold Bey at h1;rw[if_neg tH,sM,zM hj]at h1;have h2:=Sb m (nb-1) (sZ _) (by omega) hb;rw[yz hb,zM hm]at h2;have h3:κ.klt (ky κ b[nb-1]) (ky κ a.toList[j]):=by simpa [KeyOrd.klt] using h1
 exact KeyOrd.kle_trans h2 (KeyOrd.kle_of_klt h3)
def hA2 (hb:nb-1<b.size)(h:∀i,i<r->Bey κ false b[nb-1] a 0 i=true):∀p∈(b.toList.drop (nb-1)).take 1,∀q∈a.toList.take r,Rk κ q p:=fun p hp q hq=>by
 obtain⟨j,hj,j1,j2,rfl⟩:=zH hp;obtain⟨m,hm,m1,rfl⟩:=yG hq;have ej:j=nb-1:=by omega
 subst ej;have h1:=h m m1;unfold Bey at h1;rw[if_neg tH,sM,zM hm]at h1;have h3:κ.kle (ky κ a.toList[m]) (ky κ b[nb-1]):=by simpa [KeyOrd.kle] using h1
 simpa [Rk] using h3
def hB1 (Sa:Seg κ a 0 a.size)(ha0:0<na)(ha:na-1<a.size)(h:∀i,r<=i->i<nb->Bey κ true a[na-1] b 0 i=false):∀p∈(b.toList.drop r).take (nb-r),∀q∈a.toList.take na,Rk κ q p:=fun p hp q hq=>by
 obtain⟨j,hj,j1,j2,rfl⟩:=zH hp;obtain⟨m,hm,m1,rfl⟩:=yG hq;have h1:=h j j1 (by omega);unfold Bey at h1;rw[if_pos rfl,sM,zM hj]at h1;have h2:=Sa m (na-1) (sZ _) (by omega) ha;rw[yz ha,zM hm]at h2;exact KeyOrd.kle_trans h2 h1
def hB2 (ha:na-1<a.size)(h:∀i,i<r->Bey κ true a[na-1] b 0 i=true):∀p∈(a.toList.drop (na-1)).take 1,∀q∈b.toList.take r,Rk κ q p:=fun p hp q hq=>by
 obtain⟨j,hj,j1,j2,rfl⟩:=zH hp;obtain⟨m,hm,m1,rfl⟩:=yG hq;have ej:j=na-1:=by omega
 subst ej;have h1:=h m m1;unfold Bey at h1;rw[if_pos rfl,sM,zM hm]at h1;have h3:=KeyOrd.kle_of_klt (O:=κ.toKeyOrd) h1
 simpa [Rk] using h3
def dA1 (Sb:Seg κ b 0 b.size)(ha0:0<na)(ha:na-1<a.size)(hb0:0<nb)(hb:nb-1<b.size)(h:κ.blt (ky κ b[nb-1]) (ky κ a[na-1])=true):∀p∈(a.toList.drop (na-1)).take 1,∀q∈b.toList.take nb,Rk κ q p:=by
 have:=hA1 (a:=a) (na:=na) (r:=na-1) Sb hb0 hb (fun i h1 h2=>by
  have:i=na-1:=by omega
  subst this;unfold Bey;rw[if_neg tH,sM,yz ha,h]
  rfl)
 rw[show na-(na-1)=1 by omega]at this;exact this
def dB1 (Sa:Seg κ a 0 a.size)(ha0:0<na)(ha:na-1<a.size)(hb0:0<nb)(hb:nb-1<b.size)(h:κ.blt (ky κ b[nb-1]) (ky κ a[na-1])=false):∀p∈(b.toList.drop (nb-1)).take 1,∀q∈a.toList.take na,Rk κ q p:=by
 have:=hB1 (b:=b) (nb:=nb) (r:=nb-1) Sa ha0 ha (fun i h1 h2=>by
  have:i=nb-1:=by omega
  subst this;unfold Bey;rw[if_pos rfl,sM,yz hb,h])
 rw[show nb-(nb-1)=1 by omega]at this;exact this
end
open PySem PyProof.Rows
section
variable {prog:Program}{w:World}{A:Around}{E:Value->Shared->Prop}{s:Shared}{κ:KeyKind}
def ZN {a b:Array Keyed}{st:SortSt}{Q:Array Keyed->SortSt->Prop}(hO:κ.OneLt)(hk:kindOf st=oneType')(ka:AllK κ a)(kb:AllK κ b)(Sa:Seg κ a 0 a.size)(Sb:Seg κ b 0 b.size)(na:0<a.size)(nb:0<b.size)(h0:κ.klt (KK κ b 0) (KK κ a 0))(hl:∀j,j<b.size->κ.kle (KK κ b j) (KK κ a (a.size-1)))
  (h:∀xs st',Gv st st'->uG κ a b xs->Q xs st'):wpS (model prog w) A E s (VX a b) Q st:=by
 refine wpS_bind (wpS_lift (wpAny_rule ⟨rfl,?_⟩));have n1:a.size-1<a.size:=by omega
 refine wpS_bind (zr n1 ?_);dsimp only;have M0:MhA κ a b #[a[a.size-1]] (a.size-1) b.size:=by
  have e:MhA κ a b #[] a.size b.size:=⟨⟨by simp,by simp,fun p hp=>by simp at hp,fun p hp=>by simp at hp⟩,by simp,by simp⟩
  refine e.pushA Sa na n1 fun p hp q hq=>?_;obtain⟨j,hj,j1,j2,rfl⟩:=zH hp;obtain⟨m,hm,m1,rfl⟩:=yG hq;have ej:j=a.size-1:=by omega
  have h1:=hl m (by rw[<-zR];exact hm);rw[zM hm,<-ej,zM hj]at h1;exact h1
 by_cases ha1:a.size-1=0
 ·rw[if_pos (by simpa using ha1)];exact wpS_pure (h _ _ (Gv.refl _) (M0.done Sa Sb (.inl ha1)))
 rw[if_neg (by simpa using ha1)]
 by_cases hb1:b.size=1
 ·rw[if_pos (by simpa using hb1)];exact wpS_pure (h _ _ (Gv.refl _) (M0.first Sa Sb hb1 na h0))
 rw[if_neg (by simpa using hb1)];refine wpS_bind (wpS_get ?_);refine wpS_bind (wpS_mono (wpS_forRange (I:=fun x c st'=>Gv st st'/\∃i j out g,c=(none,i,j,out,g)/\MhA κ a b out i j/\0<i/\i<=a.size/\1<j/\j<=b.size/\i+j+x+1<=a.size+b.size)
  (Q:=fun c st'=>Gv st st'/\∃xs i j out g,c=(some xs,i,j,out,g)/\uG κ a b xs) ?_ ?_ ⟨Gv.refl _,_,_,_,_,rfl,M0,by omega,by omega,by omega,by omega,by omega⟩) ?_)
 rotate_left
 ·rintro c st' ⟨_,i,j,out,g,_,_,h1,h2,h3,h4,h5⟩;omega
 ·rintro c st' ⟨G,xs,i,j,out,g,rfl,R⟩;dsimp only;exact wpS_pure (h xs st' G R)
 rintro x c st' _ hx ⟨G,i0,j0,out0,g0,rfl,M,a1,a1',b1,b1',p1⟩;dsimp only;have hk':=G.kind.trans hk;refine wpS_bind (wpS_mono (wpS_forRange (I:=fun y c u=>u=st'/\∃i j out ac bc,c=(none,i,j,out,ac,bc)/\MhA κ a b out i j/\0<i/\i<=a.size/\1<j/\j<=b.size/\i+j+y<=i0+j0)
  (Q:=fun c u=>u=st'/\∃r i j out ac bc,c=(r,i,j,out,ac,bc)/\((∃xs,r=some xs/\uG κ a b xs)\/(r=none/\MhA κ a b out i j/\0<i/\i<=a.size/\1<j/\j<=b.size/\i+j+1<=i0+j0))) ?_ ?_ ⟨rfl,i0,j0,out0,0,0,rfl,M,a1,a1',b1,b1',by omega⟩) ?_)
 ·rintro y c u _ hy ⟨e0,i,j,out,ac,bc,rfl,M1,a2,a2',b2,b2',p2⟩;rw[e0];dsimp only;have a3:i-1<a.size:=by omega
  have b3:j-1<b.size:=by omega
  refine wpS_bind (zr b3 ?_);refine wpS_bind (zr a3 ?_);refine wpS_bind (ui hO hk' (kb _ (by simp)) (ka _ (by simp)) ?_);dsimp only;cases hw:κ.blt (ky κ b[j-1]) (ky κ a[i-1])with
  | true =>
   rw[if_pos rfl];refine wpS_bind (zr a3 ?_);have M2:=M1.pushA Sa a2 a3 (dA1 Sb a2 a3 (by omega) b3 hw)
   by_cases e:i-1=0
   ·rw[if_pos (by simpa using e)];exact wpS_pure ⟨rfl,_,_,_,_,_,_,rfl,.inl ⟨_,rfl,M2.done Sa Sb (.inl e)⟩⟩
   ·rw[if_neg (by simpa using e)];split
    ·exact wpS_pure ⟨rfl,_,_,_,_,_,_,rfl,.inr ⟨rfl,M2,by omega,by omega,by omega,by omega,by omega⟩⟩
    ·exact wpS_pure ⟨rfl,_,_,_,_,_,rfl,M2,by omega,by omega,by omega,by omega,by omega⟩
  | false =>
   rw[if_neg tH];refine wpS_bind (zr b3 ?_);have M2:=M1.pushB Sb (by omega) b3 (dB1 Sa a2 a3 (by omega) b3 hw)
   by_cases e:j-1=1
   ·rw[if_pos (by simpa using e)];exact wpS_pure ⟨rfl,_,_,_,_,_,_,rfl,.inl ⟨_,rfl,M2.first Sa Sb e na h0⟩⟩
   ·rw[if_neg (by simpa using e)];split
    ·exact wpS_pure ⟨rfl,_,_,_,_,_,_,rfl,.inr ⟨rfl,M2,by omega,by omega,by omega,by omega,by omega⟩⟩
    ·exact wpS_pure ⟨rfl,_,_,_,_,_,rfl,M2,by omega,by omega,by omega,by omega,by omega⟩
 ·rintro c u ⟨_,i,j,out,ac,bc,_,_,h1,h2,h3,h4,h5⟩;omega
 rintro c u ⟨e0,r,i1,j1,out1,ac1,bc1,rfl,(⟨xs,rfl,R⟩|⟨rfl,M1,a2,a2',b2,b2',p2⟩)⟩
 ·rw[e0];dsimp only;exact wpS_pure ⟨G,xs,_,_,_,_,rfl,R⟩
 rw[e0];dsimp only;refine wpS_bind (wpS_lift (wpAny_rule ⟨rfl,?_⟩));refine wpS_bind (wpS_mono (wpS_forRange (I:=fun y c u=>Gv st u/\∃i j out g ac bc,c=(none,i,j,out,g,ac,bc)/\MhA κ a b out i j/\0<i/\i<=a.size/\1<j/\j<=b.size/\i+j+y<=i1+j1)
  (Q:=fun c u=>Gv st u/\∃r i j out g ac bc,c=(r,i,j,out,g,ac,bc)/\((∃xs,r=some xs/\uG κ a b xs)\/(r=none/\MhA κ a b out i j/\0<i/\i<=a.size/\1<j/\j<=b.size/\i+j<=i1+j1))) ?_ ?_ ⟨G,i1,j1,out1,_,ac1,bc1,rfl,M1,a2,a2',b2,b2',by omega⟩) ?_)
 rotate_left
 ·rintro c u ⟨_,i,j,out,g,ac,bc,_,_,h1,h2,h3,h4,h5⟩;omega
 ·rintro c u ⟨G2,r,i,j,out,g,ac,bc,rfl,(⟨xs,rfl,R⟩|⟨rfl,M2,a3,a3',b3,b3',p3⟩)⟩
  ·dsimp only;exact wpS_pure ⟨G2,xs,_,_,_,_,rfl,R⟩
  ·dsimp only;refine wpS_bind (wpS_modify ?_);exact wpS_pure ⟨G2.trans ⟨rfl,rfl,rfl,rfl⟩,_,_,_,_,rfl,M2,a3,a3',b3,b3',by omega⟩
 rintro y c u _ hy ⟨G2,i,j,out,g,ac,bc,rfl,M2,a3,a3',b3,b3',p3⟩;dsimp only;have b4:j-1<b.size:=by omega
 by_cases hg:g>1
 rw[if_pos hg]
 rotate_left
 rw[if_neg hg]
 all_goals
  refine wpS_bind (wpS_modify ?_);refine wpS_bind (zr b4 ?_);refine wpS_bind (yQ hO (G2.kind.trans hk) (kb _ (by simp)) (by omega) ka (wC Sa (by omega)) (by omega) fun k k1 k2 k3=>?_);dsimp only;have X1:=hA1 (a:=a) (na:=i) Sb (by omega) b4 k3;have X2:=hA2 (a:=a) b4 k2;have G3:∀v:SortSt,kindOf v=kindOf u->arrOf v=arrOf u->pendingOf v=pendingOf u->failedOf v=failedOf u->Gv st v:=fun v w1 w2 w3 w4=>G2.trans ⟨w1,w2,w3,w4⟩
  by_cases kz:i-k>0
  ·rw[if_pos kz];have M3:=M2.extA Sa k1 X1
   by_cases e2:k=0
   ·rw[if_pos (by simpa using e2)];exact wpS_pure ⟨G3 _ rfl rfl rfl rfl,_,_,_,_,_,_,_,rfl,.inl ⟨_,rfl,M3.done Sa Sb (.inl e2)⟩⟩
   rw[if_neg (by simpa using e2)];refine wpS_bind (zr b4 ?_);have M4:=MhA.pushB M3 Sb (by omega) b4 X2
   by_cases e3:j-1=1
   ·rw[if_pos (by simpa using e3)];exact wpS_pure ⟨G3 _ rfl rfl rfl rfl,_,_,_,_,_,_,_,rfl,.inl ⟨_,rfl,M4.first Sa Sb e3 na h0⟩⟩
   rw[if_neg (by simpa using e3)];have a5:k-1<a.size:=by omega
   refine wpS_bind (zr a5 ?_);refine wpS_bind (yQ hO (G2.kind.trans hk) (ka _ (by simp)) (by omega) kb (wC Sb (by omega)) (by omega) fun l l1 l2 l3=>?_);dsimp only;have Y1:=hB1 (b:=b) (nb:=j-1) Sa (by omega) a5 l3;have Y2:=hB2 (b:=b) a5 l2
   by_cases lz:j-1-l>0
   ·rw[if_pos lz];have M5:=M4.extB Sb l1 Y1
    by_cases e4:l=1
    ·rw[if_pos (by simpa using e4)];exact wpS_pure ⟨G3 _ rfl rfl rfl rfl,_,_,_,_,_,_,_,rfl,.inl ⟨_,rfl,M5.first Sa Sb e4 na h0⟩⟩
    rw[if_neg (by simpa using e4)]
    by_cases e6:l=0
    ·rw[if_pos (by simpa using e6)];exact wpS_pure ⟨G3 _ rfl rfl rfl rfl,_,_,_,_,_,_,_,rfl,.inl ⟨_,rfl,M5.done Sa Sb (.inr e6)⟩⟩
    rw[if_neg (by simpa using e6)];refine wpS_bind (zr a5 ?_);have M6:=M5.pushA Sa (by omega) a5 Y2
    by_cases e5:k-1=0
    ·rw[if_pos (by simpa using e5)];exact wpS_pure ⟨G3 _ rfl rfl rfl rfl,_,_,_,_,_,_,_,rfl,.inl ⟨_,rfl,M6.done Sa Sb (.inl e5)⟩⟩
    rw[if_neg (by simpa using e5)];split
    ·exact wpS_pure ⟨G3 _ rfl rfl rfl rfl,_,_,_,_,_,_,_,rfl,.inr ⟨rfl,M6,by omega,by omega,by omega,by omega,by omega⟩⟩
    ·exact wpS_pure ⟨G3 _ rfl rfl rfl rfl,_,_,_,_,_,_,rfl,M6,by omega,by omega,by omega,by omega,by omega⟩
   ·rw[if_neg lz];have l0:l=j-1:=by omega
    rw[l0]at Y2;refine wpS_bind (zr a5 ?_);have M6:=M4.pushA Sa (by omega) a5 Y2
    by_cases e5:k-1=0
    ·rw[if_pos (by simpa using e5)];exact wpS_pure ⟨G3 _ rfl rfl rfl rfl,_,_,_,_,_,_,_,rfl,.inl ⟨_,rfl,M6.done Sa Sb (.inl e5)⟩⟩
    rw[if_neg (by simpa using e5)];split
    ·exact wpS_pure ⟨G3 _ rfl rfl rfl rfl,_,_,_,_,_,_,_,rfl,.inr ⟨rfl,M6,by omega,by omega,by omega,by omega,by omega⟩⟩
    ·exact wpS_pure ⟨G3 _ rfl rfl rfl rfl,_,_,_,_,_,_,rfl,M6,by omega,by omega,by omega,by omega,by omega⟩
  ·rw[if_neg kz];have k0:k=i:=by omega
   subst k0;have M3:=M2;have e2:¬k=0:=by omega
   refine wpS_bind (zr b4 ?_);have M4:=MhA.pushB M3 Sb (by omega) b4 X2
   by_cases e3:j-1=1
   ·rw[if_pos (by simpa using e3)];exact wpS_pure ⟨G3 _ rfl rfl rfl rfl,_,_,_,_,_,_,_,rfl,.inl ⟨_,rfl,M4.first Sa Sb e3 na h0⟩⟩
   rw[if_neg (by simpa using e3)];have a5:k-1<a.size:=by omega
   refine wpS_bind (zr a5 ?_);refine wpS_bind (yQ hO (G2.kind.trans hk) (ka _ (by simp)) (by omega) kb (wC Sb (by omega)) (by omega) fun l l1 l2 l3=>?_);dsimp only;have Y1:=hB1 (b:=b) (nb:=j-1) Sa (by omega) a5 l3;have Y2:=hB2 (b:=b) a5 l2
   by_cases lz:j-1-l>0
   ·rw[if_pos lz];have M5:=M4.extB Sb l1 Y1
    by_cases e4:l=1
    ·rw[if_pos (by simpa using e4)];exact wpS_pure ⟨G3 _ rfl rfl rfl rfl,_,_,_,_,_,_,_,rfl,.inl ⟨_,rfl,M5.first Sa Sb e4 na h0⟩⟩
    rw[if_neg (by simpa using e4)]
    by_cases e6:l=0
    ·rw[if_pos (by simpa using e6)];exact wpS_pure ⟨G3 _ rfl rfl rfl rfl,_,_,_,_,_,_,_,rfl,.inl ⟨_,rfl,M5.done Sa Sb (.inr e6)⟩⟩
    rw[if_neg (by simpa using e6)];refine wpS_bind (zr a5 ?_);have M6:=M5.pushA Sa (by omega) a5 Y2
    by_cases e5:k-1=0
    ·rw[if_pos (by simpa using e5)];exact wpS_pure ⟨G3 _ rfl rfl rfl rfl,_,_,_,_,_,_,_,rfl,.inl ⟨_,rfl,M6.done Sa Sb (.inl e5)⟩⟩
    rw[if_neg (by simpa using e5)];split
    ·exact wpS_pure ⟨G3 _ rfl rfl rfl rfl,_,_,_,_,_,_,_,rfl,.inr ⟨rfl,M6,by omega,by omega,by omega,by omega,by omega⟩⟩
    ·exact wpS_pure ⟨G3 _ rfl rfl rfl rfl,_,_,_,_,_,_,rfl,M6,by omega,by omega,by omega,by omega,by omega⟩
   ·rw[if_neg lz];have l0:l=j-1:=by omega
    rw[l0]at Y2;refine wpS_bind (zr a5 ?_);have M6:=M4.pushA Sa (by omega) a5 Y2
    by_cases e5:k-1=0
    ·rw[if_pos (by simpa using e5)];exact wpS_pure ⟨G3 _ rfl rfl rfl rfl,_,_,_,_,_,_,_,rfl,.inl ⟨_,rfl,M6.done Sa Sb (.inl e5)⟩⟩
    rw[if_neg (by simpa using e5)];split
    ·exact wpS_pure ⟨G3 _ rfl rfl rfl rfl,_,_,_,_,_,_,_,rfl,.inr ⟨rfl,M6,by omega,by omega,by omega,by omega,by omega⟩⟩
    ·exact wpS_pure ⟨G3 _ rfl rfl rfl rfl,_,_,_,_,_,_,rfl,M6,by omega,by omega,by omega,by omega,by omega⟩
end
open PySem PyProof.Rows
section
variable {α:Type}{R:α->α->Prop}
def X5 {pre A B post mid:List α}(sa:(pre++A).Pairwise R)(sb:(B++post).Pairwise R)(h1:∀p∈pre,∀q∈B++post,R p q)(h2:∀p∈pre++A,∀q∈post,R p q)(r:Res R A B mid):(pre++mid++post).Pairwise R/\(pre++mid++post).Perm ((pre++A)++(B++post)):=by
 obtain⟨a1,a2,a3⟩:=rB.mp sa;obtain⟨b1,b2,b3⟩:=rB.mp sb;have mm:∀ {q},q∈mid->q∈A\/q∈B:=fun {q} hq=>tW.mp (r.1.mem_iff.mp hq);constructor
 ·refine rB.mpr ⟨rB.mpr ⟨a1,r.2,fun p hp q hq=>?_⟩,b2,fun p hp q hq=>?_⟩
  ·rcases mm hq with h|h
   ·exact a3 p hp q h
   ·exact h1 p hp q (tX _ h)
  ·rcases tW.mp hp with h|h
   ·exact h1 p h q (tN _ hq)
   ·rcases mm h with h|h
    ·exact h2 p (tN _ h) q hq
    ·exact b3 p h q hq
 ·have e:(pre++A)++(B++post)=pre++(A++B)++post:=by simp
  rw[e];exact (List.Perm.append_left pre r.1).append_right post
end
theorem XH (base:Nat):∀(l:List Keyed) (n:Nat) (xs:Array Keyed),base+n+l.length<=xs.size->((l.zipIdx n).foldl (fun a (p:Keyed×Nat)=>a.setIfInBounds (base+p.2) p.1) xs).toList=xs.toList.take (base+n)++l++xs.toList.drop (base+n+l.length)
 | [],n,xs,h=>by simp
 | p::l,n,xs,h=>by
  rw[tL]at h;rw[List.zipIdx_cons,List.foldl_cons];have ih:=XH base l (n+1) (xs.setIfInBounds (base+n) p) (by rw[Array.size_setIfInBounds];omega);rw[ih];have hl:base+n<xs.toList.length:=by rw[zR];omega
  have e:(xs.setIfInBounds (base+n) p).toList=xs.toList.take (base+n)++p::xs.toList.drop (base+n+1):=by
   rw[Array.toList_setIfInBounds,List.set_eq_take_append_cons_drop,if_pos hl]
  have l1:(xs.toList.take (base+n)).length=base+n:=by rw[sG];omega
  rw[e];have t1:(xs.toList.take (base+n)++p::xs.toList.drop (base+n+1)).take (base+(n+1))=xs.toList.take (base+n)++[p]:=by
   rw[List.take_append,l1,show base+(n+1)-(base+n)=1 by omega,rA (by omega)]
   rfl
  have t2:(xs.toList.take (base+n)++p::xs.toList.drop (base+n+1)).drop (base+(n+1)+l.length)=xs.toList.drop (base+n+(p::l).length):=by
   rw[List.drop_append,l1,pB (by omega),tU,show base+(n+1)+l.length-(base+n)=l.length+1 by omega,List.drop_succ_cons,rN,tL];congr 1;omega
  rw[t1,t2];simp
section
variable {κ:KeyKind}{xs:Array Keyed}{lo hi:Nat}
theorem Seg.list (h:Seg κ xs lo hi)(hz:hi<=xs.size):((xs.toList.drop lo).take (hi-lo)).Pairwise (Rk κ):=by
 rw[pG];intro i j hi' hj' hij;rw[sG,sT,zR]at hi' hj';have a1:lo+i<xs.toList.length:=by rw[zR];omega
 have a2:lo+j<xs.toList.length:=by rw[zR];omega
 have:=h (lo+i) (lo+j) (by omega) (by omega) (by omega);rw[zM a1,zM a2]at this;rw[rW,rV,rW,rV];exact this
def Seg.of_list (hz:hi<=xs.size)(h:((xs.toList.drop lo).take (hi-lo)).Pairwise (Rk κ)):Seg κ xs lo hi:=fun i j h1 h2 h3=>by
 by_cases e:i=j
 ·subst e;exact KeyOrd.kle_refl _
 ·have a1:i<xs.toList.length:=by rw[zR];omega
  have a2:j<xs.toList.length:=by rw[zR];omega
  have l:((xs.toList.drop lo).take (hi-lo)).length=hi-lo:=by rw[sG,sT,zR];omega
  have:=pG.mp h (i-lo) (j-lo) (by omega) (by omega) (by omega);rw[rW,rV,rW,rV]at this;simp only[show lo+(i-lo)=i by omega,show lo+(j-lo)=j by omega]at this;rw[zM a1,zM a2];exact this
def Seg.of_pair (h:xs.toList.Pairwise (Rk κ)):Seg κ xs 0 xs.size:=Seg.of_list (tM _) (by rw[pM,Nat.sub_zero,rA (by rw[zR];omega)];exact h)
def kn {i j q:Nat}(hq:i+q<j)(hj:j<=xs.size):KK κ (xs.extract i j) q=KK κ xs (i+q):=by
 unfold KK;rw[Array.getElem?_extract,if_pos (by omega)]
theorem AllK.ext {i j:Nat}(h:AllK κ xs):AllK κ (xs.extract i j):=fun p hp=>by
 rw[xY]at hp;exact h p (List.mem_of_mem_drop (rM hp))
end
open PySem PyProof.Rows
section
variable {κ:KeyKind}{arr xs:Array Keyed}{sa m:Nat}
def YC {M:List Keyed}(e:xs.toList=arr.toList.take sa++M++arr.toList.drop (sa+m))(hz:sa+m<=arr.size)(hp:M.Perm ((arr.toList.drop sa).take m))(hs:M.Pairwise (Rk κ)):xs.Perm arr/\(∀k,k<sa\/sa+m<=k->xs[k]?=arr[k]?)/\Seg κ xs sa (sa+m):=by
 have lm:M.length=m:=by rw[hp.length_eq,sG,sT,zR];omega
 have l1:(arr.toList.take sa).length=sa:=by rw[sG,zR];omega
 have eA:arr.toList=arr.toList.take sa++(arr.toList.drop sa).take m++arr.toList.drop (sa+m):=by
  rw[tO,<-rN,sV,sV]
 have hxp:xs.toList.Perm arr.toList:=by
  rw[e]
  conv=>rhs;rw[eA]
  exact (List.Perm.append_left _ hp).append_right _
 have hxs:xs.size=arr.size:=by rw[<-zR,<-zR];exact hxp.length_eq
 refine⟨Array.perm_iff_toList_perm.mpr hxp,fun k hk=>?_,?_⟩
 ·rw[<-Array.getElem?_toList,<-Array.getElem?_toList,e];rcases hk with hk|hk
  ·rw[tO,sW (by omega),rL hk]
  ·rw[sU (by rw[tK];omega),tK,l1,lm,List.getElem?_drop,show sa+m+(k-(sa+m))=k by omega]
 ·refine Seg.of_list (by omega) ?_;rw[e,tO,List.drop_append,l1,pB (by omega),tU,pO,pM,sR,List.take_append,lm,pO,List.take_zero,tQ,rA (by omega)];exact hs
def QR (L:List Keyed)(i a b:Nat):(L.drop i).take (a+b)=(L.drop i).take a++(L.drop (i+a)).take b:=by
 rw[List.take_add,rN]
end
section
variable {prog:Program}{w:World}{A:Around}{E:Value->Shared->Prop}{s:Shared}{κ:KeyKind}
def Uo {st st':SortSt}{Q:PUnit->SortSt->Prop}(h:Q ⟨⟩ st'):wpS (model prog w) A E s (set st':StateT SortSt Sem PUnit) Q st:=by
 unfold wpS;rw[StateT.run_set];exact wpAny_pure ⟨rfl,h⟩
def Wb {β:Type}{P1 P2:List β}{x y v:β}{q:Array β}(hp:q.toList=P1++x::y::P2):((q.setIfInBounds P1.length v).eraseIdxIfInBounds (P1.length+1)).toList=P1++v::P2:=by
 have e:q=(P1++x::y::P2).toArray:=by rw[<-hp]
 rw[e,List.setIfInBounds_toArray,List.eraseIdxIfInBounds_toArray];show ((P1++x::y::P2).set P1.length v).eraseIdx (P1.length+1)=_;rw[List.set_append_right _ _ (tM _),pO,tP,List.eraseIdx_append_of_length_le (by omega),sR]
 rfl
def Y9 {i:Nat}{st:SortSt}{Q:Bool->SortSt->Prop}{P1 P2:List (Nat×Nat×Nat)}{sa na pw nb pw':Nat}(hO:κ.OneLt)(hk:kindOf st=oneType')(hf:failedOf st=none)(ha:AllK κ (arrOf st))(hp:(pendingOf st).toList=P1++(sa,na,pw)::(sa+na,nb,pw')::P2)(hi:i=P1.length)(n1:0<na)(n2:0<nb)(hz:sa+na+nb<=(arrOf st).size)(Sa:Seg κ (arrOf st) sa (sa+na))(Sb:Seg κ (arrOf st) (sa+na) (sa+na+nb))
  (h:∀st',kindOf st'=kindOf st->failedOf st'=none->(pendingOf st').toList=P1++(sa,na+nb,pw)::P2->(arrOf st').Perm (arrOf st)->(∀k,k<sa\/sa+(na+nb)<=k->(arrOf st')[k]?=(arrOf st)[k]?)->Seg κ (arrOf st') sa (sa+(na+nb))->Q true st'):wpS (model prog w) A E s (mergeAt' i) Q st:=by
 subst hi;have q1:(pendingOf st)[P1.length]?=some (sa,na,pw):=by rw[<-Array.getElem?_toList,hp,sU (tM _),pO];rfl
 have q2:(pendingOf st)[P1.length+1]?=some (sa+na,nb,pw'):=by rw[<-Array.getElem?_toList,hp,sU (by omega),sR];rfl
 have hpe:=Wb (v:=(sa,na+nb,pw)) hp;refine wpS_bind (wpS_get ?_);rw[q1,q2];dsimp only;refine wpS_bind (Uo ?_);have hL:(arrOf st).toList.length=(arrOf st).size:=zR _;have b0:sa+na<(arrOf st).size:=by omega
 have kx:∀q,(hq:q<(arrOf st).size)->Yi κ (arrOf st)[q]:=fun q hq=>ha _ (by simp);have LA:(((arrOf st).toList.drop sa).take na).Pairwise (Rk κ):=by have:=Sa.list (by omega);rw[sR]at this;exact this
 have LB:(((arrOf st).toList.drop (sa+na)).take nb).Pairwise (Rk κ):=by have:=Sb.list (by omega);rw[sR]at this;exact this
 refine wpS_bind (zr b0 ?_);refine wpS_bind (yQ hO (by exact hk) (kx _ b0) (show sa+na<=(arrOf st).size by omega) ha (fun i j hij hj hb=>?_) n1 fun k k1 k2 k3=>?_)
 ·have hs:=Sa (sa+i) (sa+j) (by omega) (by omega) (by omega);unfold Bey at *;rw[if_neg tH]at *;have g1:κ.kle (KK κ (arrOf st) (sa+j)) (ky κ (arrOf st)[sa+na]):=by simpa [KeyOrd.kle] using hb
  have g2:=KeyOrd.kle_trans hs g1
  simpa [KeyOrd.kle] using g2
 dsimp only;have C1:∀p∈((arrOf st).toList.drop sa).take k,∀q∈((arrOf st).toList.drop (sa+na)).take nb,Rk κ p q:=fun p hp q hq=>by
  obtain⟨j,hj,j1,j2,rfl⟩:=zH hp;obtain⟨m,hm,m1,m2,rfl⟩:=zH hq;have g:=k2 (j-sa) (by omega);unfold Bey at g;rw[if_neg tH,show sa+(j-sa)=j by omega,zM hj]at g;have g1:κ.kle (ky κ (arrOf st).toList[j]) (ky κ (arrOf st)[sa+na]):=by simpa [KeyOrd.kle] using g
  have g2:=Sb (sa+na) m (tM _) m1 m2;rw[yz b0,zM hm]at g2;exact KeyOrd.kle_trans g1 g2
 by_cases kz:na-k=0
 ·rw[if_pos (by simpa using kz)];have ek:k=na:=by omega
  subst ek;obtain⟨r1,r2,r3⟩:=YC (κ:=κ) (arr:=(arrOf st)) (xs:=(arrOf st)) (sa:=sa) (m:=k+nb) (M:=((arrOf st).toList.drop sa).take (k+nb)) (by rw[tO,<-rN,sV,sV]) (by omega) (List.Perm.refl _) (by rw[QR];exact rB.mpr ⟨LA,LB,C1⟩);exact wpS_pure (h _ rfl hf hpe (Array.Perm.refl _) (fun _ _=>rfl) r3)
 rw[if_neg (by simpa using kz)];have a0:sa+k+(na-k)-1<(arrOf st).size:=by omega
 refine wpS_bind (zr a0 ?_);refine wpS_bind (yQ hO (by exact hk) (kx _ a0) (show sa+na+nb<=(arrOf st).size by omega) ha (fun i j hij hj hb=>?_) (by omega) fun l l1 l2 l3=>?_)
 ·have hs:=Sb (sa+na+i) (sa+na+j) (by omega) (by omega) (by omega);unfold Bey at *;rw[if_pos rfl]at *;exact KeyOrd.klt_of_kle_of_klt hs hb
 dsimp only;have C2:∀p∈((arrOf st).toList.drop sa).take na,∀q∈((arrOf st).toList.drop (sa+na+l)).take (nb-l),Rk κ p q:=fun p hp q hq=>by
  obtain⟨j,hj,j1,j2,rfl⟩:=zH hp;obtain⟨m,hm,m1,m2,rfl⟩:=zH hq;have g:=l3 (m-(sa+na)) (by omega) (by omega);unfold Bey at g;rw[if_pos rfl,show sa+na+(m-(sa+na))=m by omega,zM hm]at g;have g2:=Sa j (sa+k+(na-k)-1) j1 (by omega) (by omega);rw[yz a0,zM hj]at g2;exact KeyOrd.kle_trans g2 g
 have eA:((arrOf st).toList.drop sa).take na=((arrOf st).toList.drop sa).take k++((arrOf st).toList.drop (sa+k)).take (na-k):=by
  rw[<-QR,show k+(na-k)=na by omega]
 have eB:((arrOf st).toList.drop (sa+na)).take nb=((arrOf st).toList.drop (sa+na)).take l++((arrOf st).toList.drop (sa+na+l)).take (nb-l):=by
  rw[<-QR,show l+(nb-l)=nb by omega]
 have eL:((arrOf st).toList.drop sa).take (na+nb)=((arrOf st).toList.drop sa).take na++((arrOf st).toList.drop (sa+na)).take nb:=QR _ _ _ _
 by_cases lz:l=0
 ·rw[if_pos (by simpa using lz)];subst lz;obtain⟨r1,r2,r3⟩:=YC (κ:=κ) (arr:=(arrOf st)) (xs:=(arrOf st)) (sa:=sa) (m:=na+nb) (M:=((arrOf st).toList.drop sa).take (na+nb)) (by rw[tO,<-rN,sV,sV]) (by omega) (List.Perm.refl _) (by
   rw[eL];exact rB.mpr ⟨LA,LB,C2⟩)
  exact wpS_pure (h _ rfl hf hpe (Array.Perm.refl _) (fun _ _=>rfl) r3)
 rw[if_neg (by simpa using lz)];have zx:((arrOf st).extract (sa+k) (sa+na)).size=na-k:=by rw[Array.size_extract];omega
 have zy:((arrOf st).extract (sa+na) (sa+na+l)).size=l:=by rw[Array.size_extract];omega
 have tx:((arrOf st).extract (sa+k) (sa+na)).toList=((arrOf st).toList.drop (sa+k)).take (na-k):=by rw[xY,show sa+na-(sa+k)=na-k by omega]
 have ty:((arrOf st).extract (sa+na) (sa+na+l)).toList=((arrOf st).toList.drop (sa+na)).take l:=by rw[xY,sR]
 have sx:Seg κ ((arrOf st).extract (sa+k) (sa+na)) 0 ((arrOf st).extract (sa+k) (sa+na)).size:=Seg.of_pair (by
  rw[tx];rw[eA]at LA;exact (rB.mp LA).2.1)
 have sy:Seg κ ((arrOf st).extract (sa+na) (sa+na+l)) 0 ((arrOf st).extract (sa+na) (sa+na+l)).size:=Seg.of_pair (by
  rw[ty];rw[eB]at LB;exact (rB.mp LB).1)
 have hh0:κ.klt (KK κ ((arrOf st).extract (sa+na) (sa+na+l)) 0) (KK κ ((arrOf st).extract (sa+k) (sa+na)) 0):=by
  rw[kn (by omega) (by omega),kn (by omega) (by omega),Nat.add_zero,Nat.add_zero,yz b0];have g:=k3 k (tM _) (by omega);unfold Bey at g;rw[if_neg tH]at g
  simpa [KeyOrd.klt] using g
 have hhl:∀j,j<((arrOf st).extract (sa+na) (sa+na+l)).size->κ.kle (KK κ ((arrOf st).extract (sa+na) (sa+na+l)) j) (KK κ ((arrOf st).extract (sa+k) (sa+na)) (((arrOf st).extract (sa+k) (sa+na)).size-1)):=fun j hj=>by
  rw[zy]at hj;rw[zx,kn (by omega) (by omega),kn (by omega) (by omega)];have g:=l2 j hj;unfold Bey at g;rw[if_pos rfl,<-yz a0,show sa+k+(na-k)-1=sa+k+(na-k-1) by omega]at g;exact KeyOrd.kle_of_klt g
 have fin:∀(xs:Array Keyed) (u:SortSt),arrOf u=(arrOf st)->kindOf u=kindOf st->failedOf u=none->(pendingOf u).toList=P1++(sa,na+nb,pw)::P2->uG κ ((arrOf st).extract (sa+k) (sa+na)) ((arrOf st).extract (sa+na) (sa+na+l)) xs->Q true (setArr u (List.foldl (fun a (x:Keyed×Nat)=>a.setIfInBounds (sa+k+x.2) x.1) (arrOf u) xs.toList.zipIdx)):=fun xs u w1 w2 w3 w4 r=>by
  have r':Res (Rk κ) (((arrOf st).toList.drop (sa+k)).take (na-k)) (((arrOf st).toList.drop (sa+na)).take l) xs.toList:=by
   have:Res (Rk κ) ((arrOf st).extract (sa+k) (sa+na)).toList ((arrOf st).extract (sa+na) (sa+na+l)).toList xs.toList:=r;rw[tx,ty]at this;exact this
  have lx:xs.toList.length=na-k+l:=by rw[r'.1.length_eq,tK,sG,sG,sT,sT];omega
  have wr:=XH (sa+k) xs.toList 0 (arrOf st) (by omega);rw[eA]at LA C2;rw[eB]at LB C1;obtain⟨m1,m2⟩:=X5 LA LB C1 C2 r';obtain⟨r1,r2,r3⟩:=YC (κ:=κ) (arr:=(arrOf st)) (xs:=List.foldl (fun a (x:Keyed×Nat)=>a.setIfInBounds (sa+k+x.2) x.1) (arrOf st) xs.toList.zipIdx) (sa:=sa) (m:=na+nb) (M:=((arrOf st).toList.drop sa).take k++xs.toList++((arrOf st).toList.drop (sa+na+l)).take (nb-l)) (by
   rw[wr,Nat.add_zero,lx];have e1:(arrOf st).toList.take (sa+k)=(arrOf st).toList.take sa++((arrOf st).toList.drop sa).take k:=List.take_add ..;have e2:(arrOf st).toList.drop (sa+k+(na-k+l))=((arrOf st).toList.drop (sa+na+l)).take (nb-l)++(arrOf st).toList.drop (sa+(na+nb)):=by
    rw[show sa+(na+nb)=(sa+na+l)+(nb-l) by omega,<-rN (i:=nb-l),sV];congr 1;omega
   rw[e1,e2];simp only[tO]) (by omega) (by rw[eL,eA,eB];exact m2) m1
  rw[w1];exact h _ w2 w3 w4 r1 r2 r3
 by_cases hle:na-k<=l
 ·rw[if_pos hle];refine wpS_bind (ZM hO (by exact hk) ha.ext ha.ext sx sy (show 0<((arrOf st).extract (sa+k) (sa+na)).size by omega) (show 0<((arrOf st).extract (sa+na) (sa+na+l)).size by omega) hh0 hhl fun xs u g r=>?_);refine wpS_bind (wpS_modify (wpS_bind (wpS_get ?_)));have hfu:failedOf u=none:=g.failed.trans hf;have:=fin xs u g.arr g.kind hfu (by rw[g.pend];exact hpe) r;refine wpS_pure ?_;show Q (failedOf u).isNone _;rw[hfu];exact this
 ·rw[if_neg hle];refine wpS_bind (ZN hO (by exact hk) ha.ext ha.ext sx sy (show 0<((arrOf st).extract (sa+k) (sa+na)).size by omega) (show 0<((arrOf st).extract (sa+na) (sa+na+l)).size by omega) hh0 hhl fun xs u g r=>?_);refine wpS_bind (wpS_modify (wpS_bind (wpS_get ?_)));have hfu:failedOf u=none:=g.failed.trans hf;have:=fin xs u g.arr g.kind hfu (by rw[g.pend];exact hpe) r;refine wpS_pure ?_;show Q (failedOf u).isNone _;rw[hfu];exact this
end
open PySem PyProof.Rows
def Chn:List (Nat×Nat×Nat)->Nat->Nat->Prop
 | [],f,t=>f=t
 | q::r,f,t=>q.1=f/\0<q.2.1/\Chn r (f+q.2.1) t
theorem Chn.app:∀ {P Q:List (Nat×Nat×Nat)} {f t:Nat},Chn (P++Q) f t↔∃m,Chn P f m/\Chn Q m t
 | [],Q,f,t=>⟨fun h=>⟨f,rfl,h⟩,fun⟨m,h1,h2⟩=>by have h1:f=m:=h1;rw[h1];exact h2⟩
 | q::P,Q,f,t=>by
  constructor
  ·rintro⟨h1,h2,h3⟩;obtain⟨m,m1,m2⟩:=Chn.app.mp h3;exact⟨m,⟨h1,h2,m1⟩,m2⟩
  ·rintro⟨m,⟨h1,h2,h3⟩,h4⟩;exact⟨h1,h2,Chn.app.mpr ⟨m,h3,h4⟩⟩
theorem Chn.le:∀ {P:List (Nat×Nat×Nat)} {f t:Nat},Chn P f t->P.length+f<=t
 | [],f,t,h=>by have h:f=t:=h;simp[h]
 | q::P,f,t,hq3=>by
  obtain⟨h1,h2,h3⟩:=hq3;have:=Chn.le h3;rw[tL];omega
theorem Chn.mem:∀ {P:List (Nat×Nat×Nat)} {f t:Nat} {q:Nat×Nat×Nat},Chn P f t->q∈P->f<=q.1/\q.1+q.2.1<=t
 | [],_,_,_,_,h=>by cases h
 | p::P,f,t,q,hq4,h=>by
  obtain⟨h1,h2,h3⟩:=hq4;have l:=Chn.le h3;rcases tV.mp h with z|z
  ·subst z;omega
  ·have:=Chn.mem h3 z;omega
def Seg.congr {κ:KeyKind}{xs ys:Array Keyed}{lo hi:Nat}(h:Seg κ xs lo hi)(e:∀k,lo<=k->k<hi->ys[k]?=xs[k]?):Seg κ ys lo hi:=fun i j h1 h2 h3=>by
 rw[KK_congr (e i h1 (by omega)),KK_congr (e j (by omega) h3)];exact h i j h1 h2 h3
section
variable {prog:Program}{w:World}{A:Around}{E:Value->Shared->Prop}{s:Shared}{κ:KeyKind}
structure SO (κ:KeyKind)(a₀:Array Keyed)(st:SortSt)(lo hi:Nat):Prop where
 perm:(arrOf st).Perm a₀
 kind:kindOf st=oneType'
 failed:failedOf st=none
 ch:Chn (pendingOf st).toList 0 lo
 runs:∀q∈(pendingOf st).toList,Seg κ (arrOf st) q.1 (q.1+q.2.1)
 seg:Seg κ (arrOf st) lo hi
 le:lo<=hi
 hi:hi<=a₀.size
variable {a₀:Array Keyed}{st:SortSt}{lo hi:Nat}
theorem SO.size (h:SO κ a₀ st lo hi):(arrOf st).size=a₀.size:=h.perm.size_eq
def SO.allK (h:SO κ a₀ st lo hi)(h0:AllK κ a₀):AllK κ (arrOf st):=fun p hp=>h0 p ((Array.perm_iff_toList_perm.mp h.perm).mem_iff.mp hp)
def vh {i:Nat}{Q:Bool->SortSt->Prop}(hO:κ.OneLt)(h0:AllK κ a₀)(S:SO κ a₀ st lo hi)(hi':i+1<(pendingOf st).size)(h:∀st',SO κ a₀ st' lo hi->(pendingOf st').size+1=(pendingOf st).size->Q true st'):wpS (model prog w) A E s (mergeAt' i) Q st:=by
 have hl:(pendingOf st).toList.length=(pendingOf st).size:=by simp
 obtain⟨P1,x,y,P2,hp,hi2⟩:∃P1 x y P2,(pendingOf st).toList=P1++x::y::P2/\i=P1.length:=by
  refine⟨(pendingOf st).toList.take i,(pendingOf st).toList[i],(pendingOf st).toList[i+1],(pendingOf st).toList.drop (i+2),?_,by rw[sG];omega⟩;rw[<-rG (by omega),<-rG (by omega),sV]
 have ch:=S.ch;have runs:=S.runs;rw[hp]at ch runs;obtain⟨m,c1,c2⟩:=Chn.app.mp ch;obtain⟨sa,na,pw⟩:=x;obtain⟨sb,nb,pw'⟩:=y;obtain⟨e1,n1,e2,n2,c3⟩:=c2;dsimp only at e1 n1 e2 n2 c3;subst e1;subst e2;have l3:=Chn.le c3;have hz:=S.size;have hle:=S.le;have hhi:=S.hi;have r1:=runs (sa,na,pw) (by simp);have r2:=runs (sa+na,nb,pw') (by simp);refine Y9 hO S.kind S.failed (S.allK h0) hp hi2 n1 n2 (by omega) r1 r2 fun st' k1 k2 k3 k4 k5 k6=>h st' ⟨k4.trans S.perm,k1.trans S.kind,k2,?_,?_,S.seg.congr fun k q1 q2=>k5 k (.inr (by omega)),S.le,S.hi⟩ ?_
 ·rw[k3];exact Chn.app.mpr ⟨sa,c1,rfl,by show 0<na+nb;omega,by show Chn P2 (sa+(na+nb)) lo;rw[<-Nat.add_assoc];exact c3⟩
 ·intro q hq;rw[k3]at hq;rcases tW.mp hq with z|z
  ·have b:=Chn.mem c1 z;exact (runs q (tX _ z)).congr fun k q1 q2=>k5 k (.inl (by omega))
  ·rcases tV.mp z with z|z
   ·subst z;exact k6
   ·have b:=Chn.mem c3 z;exact (runs q (tN _ (tG _ (tG _ z)))).congr fun k q1 q2=>k5 k (.inr (by omega))
 ·have l1:(pendingOf st').toList.length=(pendingOf st').size:=by simp
  rw[<-l1,<-hl,k3,hp];simp;omega
def V6 {β:Type}{q:Array β}{P:List β}{x:β}{f:β->β}(h:q.toList=P++[x]):(q.modify (q.size-1) f).toList=P++[f x]:=by
 have e:q=(P++[x]).toArray:=by rw[<-h]
 have l:∀P:List β,(P++[x]).modify P.length f=P++[f x]:=by
  intro P
  induction P with
  | nil=>rfl
  | cons y P ih=>rw[tL,sD,List.modify_succ_cons,ih];rfl
 rw[e];simp[l]
def SO.power (S:SO κ a₀ st lo hi)(pw:Nat):SO κ a₀ (setPending st ((pendingOf st).modify ((pendingOf st).size-1) fun x=>(x.1,x.2.1,pw))) lo hi:=by
 have key:∀P:List (Nat×Nat×Nat),∀x:Nat×Nat×Nat,(pendingOf st).toList=P++[x]->SO κ a₀ (setPending st ((pendingOf st).modify ((pendingOf st).size-1) fun x=>(x.1,x.2.1,pw))) lo hi:=fun P x hp=>by
  have e:=V6 (f:=fun x:Nat×Nat×Nat=>(x.1,x.2.1,pw)) hp;have ch:=S.ch;have runs:=S.runs;rw[hp]at ch runs;obtain⟨m,c1,c2⟩:=Chn.app.mp ch;refine⟨S.perm,S.kind,S.failed,?_,?_,S.seg,S.le,S.hi⟩
  ·show Chn ((pendingOf st).modify ((pendingOf st).size-1) fun x=>(x.1,x.2.1,pw)).toList 0 lo;rw[e];exact Chn.app.mpr ⟨m,c1,c2⟩
  ·intro q hq;have hq:q∈((pendingOf st).modify ((pendingOf st).size-1) fun x=>(x.1,x.2.1,pw)).toList:=hq;rw[e]at hq;rcases tW.mp hq with z|z
   ·exact runs q (tX _ z)
   ·rw[rE.mp z];exact runs x (by simp)
 by_cases hn:(pendingOf st).toList=[]
 ·have e:(pendingOf st).modify ((pendingOf st).size-1) (fun x=>(x.1,x.2.1,pw))=pendingOf st:=by
   have:pendingOf st=#[]:=by rw[<-Array.toList_eq_nil_iff];exact hn
   rw[this]
   rfl
  rw[e];exact S
 ·exact key _ _ (List.dropLast_concat_getLast hn).symm
theorem SO.push (S:SO κ a₀ st lo hi)(hlt:lo<hi):SO κ a₀ (setPending st ((pendingOf st).push (lo,hi-lo,0))) hi hi:=by
 refine⟨S.perm,S.kind,S.failed,?_,?_,fun i j h1 h2 h3=>by omega,tM _,S.hi⟩
 ·show Chn ((pendingOf st).push (lo,hi-lo,0)).toList 0 hi;rw[Array.toList_push];exact Chn.app.mpr ⟨lo,S.ch,rfl,by show 0<hi-lo;omega,by show lo+(hi-lo)=hi;omega⟩
 ·intro q hq;have hq:q∈((pendingOf st).push (lo,hi-lo,0)).toList:=hq;rw[Array.toList_push]at hq;rcases tW.mp hq with z|z
  ·exact S.runs q z
  ·rw[rE.mp z];show Seg κ (arrOf st) lo (lo+(hi-lo));rw[show lo+(hi-lo)=hi by omega];exact S.seg
def SO.next {st':SortSt}{n:Nat}(S:SO κ a₀ st lo lo)(P:Pv lo st st')(g:Seg κ (arrOf st') lo (lo+n))(hn:lo+n<=a₀.size):SO κ a₀ st' lo (lo+n):=by
 refine⟨P.perm.trans S.perm,P.kind.trans S.kind,P.failed.trans S.failed,by rw[P.pend];exact S.ch,fun q hq=>?_,g,by omega,hn⟩;rw[P.pend]at hq;have b:=Chn.mem S.ch hq;exact (S.runs q hq).congr fun k q1 q2=>P.pre k (by omega)
def WK {Q:Unit->SortSt->Prop}(hO:κ.OneLt)(h0:AllK κ a₀)(hp:(arrOf st).Perm a₀)(hk:kindOf st=oneType')(hf:failedOf st=none)(hpe:pendingOf st=#[])(h2:2<=a₀.size)
  (h:∀st',(arrOf st').Perm a₀->failedOf st'=none->Seg κ (arrOf st') 0 a₀.size->Q () st'):wpS (model prog w) A E s sortRuns' Q st:=by
 refine wpS_bind (wpS_get ?_);have hsz:(arrOf st).size=a₀.size:=hp.size_eq;dsimp only;generalize hN:(arrOf st).size=N at *;generalize hM':(sortPriv% PySem.Builtin.minRun) N N 0=M at *;have hM:minRun' N N 0=M:=hM';have hM1:1<=M:=by
  rw[<-hM];have:∀f n r,1<=n+r->1<=minRun' f n r:=by
   intro f
   induction f with
   | zero=>intro n r hh;exact hh
   | succ f ih =>
    intro n r hh;rw[minRun'_succ];split
    ·exact hh
    ·exact ih _ _ (by omega)
  exact this _ _ _ (by omega)
 refine wpS_bind (wpS_mono (wpS_forRange (I:=fun x c st'=>∃lo,c=(none,lo)/\SO κ a₀ st' lo lo/\(x<=lo\/lo=N)) (Q:=fun c st'=>c=(none,N)/\SO κ a₀ st' N N) ?_ ?_ ⟨0,rfl,⟨hp,hk,hf,by rw[hpe];rfl,fun q hq=>by rw[hpe]at hq;simp at hq,fun i j h1 h2 h3=>by omega,tM _,sZ _⟩,.inl (tM _)⟩) ?_)
 ·rintro x c st1 _ hx ⟨lo,rfl,S,hxl⟩;dsimp only;have hlo:=S.hi
  by_cases hge:lo>=N
  ·rw[if_pos hge];have e:lo=N:=by omega
   subst e;exact wpS_pure ⟨rfl,S⟩
  rw[if_neg hge];have z1:=S.size;refine wpS_bind (XU hO S.kind (S.allK h0) (by omega) (by omega) fun m st2 P2 m1 m2 g2=>?_);dsimp only;have z2:=P2.size
  by_cases hlt:m<M
  ·rw[if_pos hlt];refine wpS_bind (wpS_lift (wpAny_rule ⟨rfl,?_⟩));refine wpS_bind (show wpS _ _ _ _ (ZV lo (min (N-lo) M) m) _ _ from ?_);have fn:lo+min (N-lo) M<=N:=by omega
   have fp:m<=min (N-lo) M:=by omega
   refine J5 hO (P2.kind.trans S.kind) (P2.allK (S.allK h0)) (by omega) m1 fp g2 fun st3 P3 g3=>?_;rw[rQ,if_neg tH];have T:=S.next (P2.trans P3) g3 (by omega);have np:0<min (N-lo) M:=by omega
   revert T np fn;generalize hn:min (N-lo) M=n;intro fn T np;refine wpS_bind (wpS_get ?_);cases hb:(pendingOf st3).back? with
   | none =>
    dsimp only;refine wpS_bind (wpS_modify (wpS_pure ⟨lo+n,rfl,?_,by omega⟩));have U:=T.push (by omega);rw[sR]at U;exact U
   | some q =>
    obtain⟨s1,n1,p1⟩:=q;dsimp only;refine wpS_bind (wpS_mono (wpS_forRange (I:=fun x c u=>c=(none,())/\SO κ a₀ u lo (lo+n)) (Q:=fun c u=>c=(none,())/\SO κ a₀ u lo (lo+n)) ?_ (fun c u hh=>hh) ⟨rfl,T⟩) ?_)
    ·rintro y c u _ hy ⟨rfl,V⟩;refine wpS_bind (wpS_get ?_)
     by_cases hs2:(pendingOf u).size>1
     ·rw[if_pos hs2];have hlt2:(pendingOf u).size-2<(pendingOf u).size:=by omega
      rw[getElem?_pos (pendingOf u) _ hlt2];dsimp only;split
      ·exact wpS_pure ⟨rfl,V⟩
      ·refine wpS_bind (vh hO h0 V (show (pendingOf u).size-2+1<(pendingOf u).size by omega) fun v W hv=>?_);rw[rQ,if_neg tH];exact wpS_pure ⟨rfl,W⟩
     ·rw[if_neg hs2];exact wpS_pure ⟨rfl,V⟩
    ·rintro c u ⟨rfl,V⟩;dsimp only;refine wpS_bind (wpS_modify (wpS_bind (wpS_modify (wpS_pure ⟨lo+n,rfl,?_,by omega⟩))));have U:=fun pw=>(V.power pw).push (by omega);simp only[sR]at U;exact U _
  ·rw[if_neg hlt];have T:=S.next P2 g2 (by omega);have np:0<m:=by omega
   have fn:lo+m<=N:=by omega
   have hn:m=m:=rfl;refine wpS_bind (wpS_get ?_);cases hb:(pendingOf st2).back? with
   | none =>
    dsimp only;refine wpS_bind (wpS_modify (wpS_pure ⟨lo+m,rfl,?_,by omega⟩));have U:=T.push (by omega);rw[sR]at U;exact U
   | some q =>
    obtain⟨s1,n1,p1⟩:=q;dsimp only;refine wpS_bind (wpS_mono (wpS_forRange (I:=fun x c u=>c=(none,())/\SO κ a₀ u lo (lo+m)) (Q:=fun c u=>c=(none,())/\SO κ a₀ u lo (lo+m)) ?_ (fun c u hh=>hh) ⟨rfl,T⟩) ?_)
    ·rintro y c u _ hy ⟨rfl,V⟩;refine wpS_bind (wpS_get ?_)
     by_cases hs2:(pendingOf u).size>1
     ·rw[if_pos hs2];have hlt2:(pendingOf u).size-2<(pendingOf u).size:=by omega
      rw[getElem?_pos (pendingOf u) _ hlt2];dsimp only;split
      ·exact wpS_pure ⟨rfl,V⟩
      ·refine wpS_bind (vh hO h0 V (show (pendingOf u).size-2+1<(pendingOf u).size by omega) fun v W hv=>?_);rw[rQ,if_neg tH];exact wpS_pure ⟨rfl,W⟩
     ·rw[if_neg hs2];exact wpS_pure ⟨rfl,V⟩
    ·rintro c u ⟨rfl,V⟩;dsimp only;refine wpS_bind (wpS_modify (wpS_bind (wpS_modify (wpS_pure ⟨lo+m,rfl,?_,by omega⟩))));have U:=fun pw=>(V.power pw).push (by omega);simp only[sR]at U;exact U _
 ·rintro c st' ⟨lo,rfl,S,hxl⟩;have:=S.hi;have e:lo=N:=by omega
  subst e;exact⟨rfl,S⟩
 ·rintro c st1 ⟨rfl,S⟩;dsimp only;have hl:∀u:SortSt,(pendingOf u).toList.length=(pendingOf u).size:=fun u=>by simp
  have c0:=Chn.le S.ch;rw[hl]at c0;refine wpS_bind (wpS_mono (wpS_forRange (I:=fun x c u=>c=(none,())/\SO κ a₀ u N N/\(pendingOf u).size<=N-x+0+(if x<=N then 0 else 0)\/(c=(none,())/\SO κ a₀ u N N/\(pendingOf u).size<=1)) (Q:=fun c u=>c=(none,())/\SO κ a₀ u N N/\(pendingOf u).size<=1) ?_ ?_ (.inl ⟨rfl,S,by omega⟩)) ?_)
  ·rintro x c u _ hx hI;obtain⟨rfl,T,hs⟩:c=(none,())/\SO κ a₀ u N N/\((pendingOf u).size<=N-x\/(pendingOf u).size<=1):=by
    rcases hI with⟨q1,q2,q3⟩|⟨q1,q2,q3⟩
    ·exact⟨q1,q2,.inl (by simpa using q3)⟩
    ·exact⟨q1,q2,.inr q3⟩
   refine wpS_bind (wpS_get ?_)
   by_cases hz:(pendingOf u).size<=1
   ·rw[if_pos hz];exact wpS_pure ⟨rfl,T,hz⟩
   rw[if_neg hz];refine wpS_bind (vh hO h0 T ?_ fun v W hv=>?_)
   ·have bd:∀(c:Prop) [Decidable c],(if c then (pendingOf u).size-2-1 else (pendingOf u).size-2)+1<(pendingOf u).size:=by
     intro c _;split<;>omega
    exact bd _
   ·rw[rQ,if_neg tH];exact wpS_pure (.inl ⟨rfl,W,by simp;omega⟩)
  ·rintro c u hI;rcases hI with⟨q1,q2,q3⟩|q
   ·refine⟨q1,q2,?_⟩;have q3:(pendingOf u).size<=N-max 0 N:=by simpa using q3
    omega
   ·exact q
  ·rintro c u ⟨rfl,T,hz⟩;have fin:Seg κ (arrOf u) 0 a₀.size:=by
    have ch:=T.ch;have runs:=T.runs;have l:=hl u;cases hq:(pendingOf u).toList with
    | nil=>rw[hq]at ch;have ch:0=N:=ch;omega
    | cons q r =>
     rw[hq]at ch runs l;rw[tL]at l;have er:r=[]:=List.eq_nil_of_length_eq_zero (by omega);subst er;obtain⟨e1,e2,e3⟩:=ch;have e3:0+q.2.1=N:=e3;have:=runs q (by simp);rw[e1,e3]at this;rw[<-hsz];exact this
   exact wpS_pure (h u T.perm T.failed fin)
end
open PySem PyProof.Rows
section
variable {prog:Program}{w:World}{A:Around}{E:Value->Shared->Prop}{s:Shared}{κ:KeyKind}
def VJ (hO:κ.OneLt){a:Addr}{vs:List Value}{n:Nat}{P:PySem.Fin->Shared->Prop}(ho:s.heap.get? a=some (seqObj "list" vs.toArray n))(h0:KeysOf κ (pairsOf vs))(hkk:∀x y r,vs=x::y::r->keyKind' (x::y::r).toArray=pure oneType')(hz:vs.length<=sizeLine)
  (h:∀u:SortSt,(arrOf u).Perm (pairsOf vs)->SortedToK κ (arrOf u) (pairsOf vs).size->P (.done (.ret .none)) { s with heap:=sortedHeap s.heap a vs ((arrOf u).map (·.2)) }):wpAny (model prog w) A (Builtin.«list.sort» ⟨[.ref a],[]⟩) P E s:=by
 rw[list_sort_plain];have al:a<s.heap.objs.size:=jYc ho;have lv:vs.toArray.size=vs.length:=by simp
 refine wpAny_bind (listItems_at ho rfl (wpAny_bind (listUpdate_at ho rfl ?_)));obtain⟨e1,o1⟩:∃e1,(s.heap.update a (Obj.mapSeq fun _=>#[])).get? a=some (seqObj "list" #[] e1):=⟨_,get?_update_seq ho (fun _=>#[])⟩
 have o6:(((s.heap.update a (Obj.mapSeq fun _=>#[])).push (seqObj "tuple" vs.toArray 0)).push (seqObj "list" #[] 0)).get? a=some (seqObj "list" #[] e1):=jYb _ (jYb _ o1);refine wpAny_bind (seqEpoch_at o1 rfl (wpAny_bind (wpAny_newTuple (wpAny_bind (wpAny_newList (wpAny_holding ?_))))));show wpAny (model prog w) A _ P E { s with heap:=((s.heap.update a (Obj.mapSeq fun _=>#[])).push (seqObj "tuple" vs.toArray 0)).push (seqObj "list" #[] 0) };dsimp only;have fin:∀u:SortSt,(arrOf u).Perm (pairsOf vs)->((arrOf u).map (·.2)).size<=sizeLine:=fun u hp=>by
  rw[Array.size_map,hp.size_eq,pairsOf_size];exact hz
 by_cases h2:vs.toArray.size<2
 ·rw[if_pos h2,if_pos h2];refine wpAny_bind (wpAny_pure ?_);rw[StateT.run_pure];refine wpAny_bind (wpAny_pure ?_);dsimp only;have pr:(arrOf (SortSt.mk' general' (vs.toArray.zip vs.toArray) #[] 7 none)).Perm (pairsOf vs):=Array.Perm.refl _;refine wpAny_bind (seqEpoch_at o6 rfl (wpAny_bind (listUpdate_at o6 rfl ?_ (hsz2:=Nat.le_succ_of_le (fin _ pr)))));simp only[bne_self_eq_false,sS,if_false];refine wpAny_pure (h _ pr fun i j ij hj=>?_);have:i=j:=by rw[pairsOf_size]at hj;omega
  rw[this];exact KeyOrd.kle_refl _
 ·rw[if_neg h2,if_neg h2];obtain⟨x,y,r,rfl⟩:∃x y r,vs=x::y::r:=by
   cases vs with
   | nil=>simp at h2
   | cons x vs=>cases vs with
    | nil=>simp at h2
    | cons y r=>exact⟨x,y,r,rfl⟩
  rw[hkk _ _ _ rfl];refine wpAny_bind (wpAny_pure ?_);have ak:AllK κ (pairsOf (x::y::r)):=fun p hp=>h0 p hp;refine wpAny_bind (wpAny_mono (WK (κ:=κ) hO (a₀:=pairsOf (x::y::r)) (st:=SortSt.mk' oneType' ((x::y::r).toArray.zip (x::y::r).toArray) #[] 7 none) (Q:=fun _ u=>(arrOf u).Perm (pairsOf (x::y::r))/\failedOf u=none/\Seg κ (arrOf u) 0 (pairsOf (x::y::r)).size) ak (Array.Perm.refl _) rfl rfl rfl (by rw[pairsOf_size];simp) fun u a1 a2 a3=>⟨a1,a2,a3⟩) ?_ fun _ _ e=>e);rintro⟨⟨⟩,u⟩ s' ⟨rfl,hp,hf,hs⟩;dsimp only;refine wpAny_bind (seqEpoch_at o6 rfl (wpAny_bind (listUpdate_at o6 rfl ?_ (hsz2:=Nat.le_succ_of_le (fin u hp)))));rw[hf];simp only[bne_self_eq_false,sS,if_false];exact wpAny_pure (h u hp fun i j ij hj=>hs i j (sZ _) ij hj)
def Yr (hO:κ.OneLt){l:Addr}{vs:List Value}{Q:Value->Shared->Prop}(hl:s.heap.IsList l vs.toArray)(h0:KeysOf κ (pairsOf vs))(hkk:∀x y r,vs=x::y::r->keyKind' (x::y::r).toArray=pure oneType')(hz:vs.length<=sizeLine)
  (h:∀u:SortSt,(arrOf u).Perm (pairsOf vs)->SortedToK κ (arrOf u) (pairsOf vs).size->Q (.ref (s.heap.objs.size+1)) { s with heap:=sortedAll s.heap vs ((arrOf u).map (·.2)) }):wpAny (model prog w) A (call (.builtin "sorted") [.ref l]) Q E s:=by
 refine Calls.call_function_entry kind_sorted plain_sorted entry_sorted (args_sorted1 _) ?_;unfold Builtin.«sorted»;refine wpAny_bind (m:=checkCount "sorted" 1 1 _) (wpAny_pure (wpAny_bind (collect_list hl (wpAny_bind (wpAny_newList ?_)) hz)));have z1:((s.heap.push (seqObj "list" #[] 0)).update s.heap.objs.size (Obj.mapSeq (·++vs.toArray))).objs.size=s.heap.objs.size+1:=by rw[Heap.size_update,size_push']
 have oL:(((s.heap.push (seqObj "list" #[] 0)).update s.heap.objs.size (Obj.mapSeq (·++vs.toArray))).push (seqObj "list" vs.toArray 0)).get? (s.heap.objs.size+1)=some (seqObj "list" vs.toArray 0):=by rw[<-z1];exact jYd _ rfl
 show wpAny _ _ _ _ _ { s with heap:=((s.heap.push (seqObj "list" #[] 0)).update s.heap.objs.size (Obj.mapSeq (·++vs.toArray))).push (seqObj "list" vs.toArray 0) };rw[z1];exact wpAny_bind (wpAny_holding (wpAny_call_entry slot_list_sort ⟨_,oL,rfl⟩ entry_list_sort (VJ hO oL h0 hkk hz fun u a1 a2=>⟨_,rfl,wpAny_pure ⟨_,rfl,h u a1 a2⟩⟩) (args_list_sort _)))
def kW {l:Addr}{vs:List Value}{ss:List Str}{Q:Value->Shared->Prop}(hl:s.heap.IsList l vs.toArray)(hS:StrsAre vs ss)(hz:vs.length<=sizeLine)
  (h:∀(out:Array Value) (ss':List Str),StrsAre out.toList ss'->ss'.Perm ss->sortedS ss'=true->Q (.ref (s.heap.objs.size+1)) { s with heap:=sortedAll s.heap vs out }):wpAny (model prog w) A (call (.builtin "sorted") [.ref l]) Q E s:=
 Yr strKind_oneLt hl hS.keysOf (fun x y r e=>keyKind_strs (by rw[<-e];exact hS)) hz fun u hp hs=>by
  obtain⟨ss',h1,h2,h3⟩:=sorted_out_str hS hp hs;exact h _ ss' h1 h2 h3
end
open PySem PySem.Spec PyProof.Rows
inductive Key where
 | inl (i:Int) | inr (x:Str) | non
 deriving DecidableEq
def Xm:Value->Bool
 | .none=>true
 | _=>false
def jI:Key->Value->Bool
 | .inl k,v=>Value.isInt k v
 | .inr x,v=>Value.isStrOf x v
 | .non,v=>Xm v
def z1K (w:World):Key->Int
 | .inl k=>hashInt k
 | .inr x=>hashStr w x
 | .non=>0xFCA86420
def jw {v:Value}(h:Xm v=true):v=.none:=by cases v<;>first|rfl|cases h
def zX:∀ {k:Key} {v:Value},jI k v=true->(∃i t,k=Key.inl i/\v=Value.int i t)\/(∃x t,k=Key.inr x/\v=Value.str x t)\/(k=Key.non/\v=Value.none)
 | .inl i,v,h=>by
  obtain⟨t,e⟩:=Value.isInt_shape (k:=i) (v:=v) h;exact .inl ⟨i,t,rfl,e⟩
 | .inr x,v,h=>by
  obtain⟨t,e⟩:=Value.isStrOf_shape (x:=x) (v:=v) h;exact .inr (.inl ⟨x,t,rfl,e⟩)
 | .non,v,h=>.inr (.inr ⟨rfl,jw h⟩)
def Wk (i:Int)(t:Tok):jI (.inl i) (.int i t)=true:=by simp[jI,Value.isInt]
def XW (x:Str)(t:Tok):jI (.inr x) (.str x t)=true:=by simp[jI,Value.isStrOf]
def KD (a b:Int):decide (Key.inl a=Key.inl b)=(a==b):=by
 by_cases e:a=b
 ·subst e;simp
 ·have h:¬Key.inl a=Key.inl b:=fun q=>e (Key.inl.inj q);rw[decide_eq_false h];exact (beq_eq_false_iff_ne.mpr e).symm
def Kx (a b:Str):decide (Key.inr a=Key.inr b)=decide (a=b):=by
 by_cases e:a=b
 ·subst e;simp
 ·have h:¬Key.inr a=Key.inr b:=fun q=>e (Key.inr.inj q);rw[decide_eq_false h,decide_eq_false e]
def slot_none_hash:Slot "NoneType" "__hash__" "NoneType.__hash__" :=
 .of (owner:="NoneType") (n:="__hash__") (by rw[typeLookup_type];rw[builtinLookup_eq_fast];kernel_rfl) (by decide +kernel) (by decide +kernel) (by decide +kernel)
  (by first|exact .inl (by decide +kernel)|exact .inr (by decide +kernel)) (by rw[isSubtype_type] ;kernel_rfl)
def qg:entryFor table "NoneType.__hash__"=some Builtin.«NoneType.__hash__»:=entryFor_of_fast (by kernel_rfl)
def qH (a:Value):argsOk "NoneType.__hash__" ⟨[a],[]⟩:=by unfold argsOk;kernel_rfl
def Wu {prog:Program}{w:World}{A:Around}{E:Value->Shared->Prop}{s:Shared}{Q:Int->Shared->Prop}(h:Q 0xFCA86420 { s with toks:=s.toks+1 }):wpAny (model prog w) A (pyHash .none) Q E s:=by
 have hT:s.TypeIs .none "NoneType":=rfl;show wpAny _ _ (pyHashByItsType .none) Q E s;unfold pyHashByItsType;refine wpAny_bind ?_;rw[cRoomFor,if_neg (by decide)];refine wpAny_pure (wpAny_bind (wpAny_specialOf hT slot_none_hash.lookup ?_));rw[if_neg (by decide)];refine wpAny_bind (wpAny_specialOf hT slot_none_hash.lookup ?_);rw[if_neg (by decide)];refine wpAny_bind (wpAny_callSpecialIfBoundUnlessNone?_slot hT slot_none_hash (wpAny_call_entry slot_none_hash hT qg ?_ (qH _)));show wpAny _ _ (do ret (<-mkInt 0xFCA86420)) _ _ s;refine wpAny_ret_mkInt ?_;show wpAny _ _ (pyHashByItsType.reduced 0xFCA86420) Q E _;unfold pyHashByItsType.reduced;rw[if_pos (by decide)];exact wpAny_pure h
def zN (prog:Program)(w:World):PySem.KeyKind prog w Key where
 is:=jI
 hash:=z1K w
 inj:=fun v a b ha hb=>by
  rcases zX ha with⟨i,t,rfl,rfl⟩|⟨x,t,rfl,rfl⟩|⟨rfl,rfl⟩
  ·rcases zX hb with⟨j,u,rfl,e⟩|⟨y,u,rfl,e⟩|⟨rfl,e⟩
   ·injection e with e1 _;rw[e1]
   ·exact nomatch e
   ·exact nomatch e
  ·rcases zX hb with⟨j,u,rfl,e⟩|⟨y,u,rfl,e⟩|⟨rfl,e⟩
   ·exact nomatch e
   ·injection e with e1 _;rw[e1]
   ·exact nomatch e
  ·rcases zX hb with⟨j,u,rfl,e⟩|⟨y,u,rfl,e⟩|⟨rfl,e⟩
   ·exact nomatch e
   ·exact nomatch e
   ·rfl
 byValue:=fun k v h=>by
  rcases zX h with⟨i,t,rfl,rfl⟩|⟨x,t,rfl,rfl⟩|⟨rfl,rfl⟩<;>rfl
 pyHash:=fun hv h=>by
  rcases zX hv with⟨i,t,rfl,rfl⟩|⟨x,t,rfl,rfl⟩|⟨rfl,rfl⟩
  ·exact wpAny_pyHash_int h
  ·exact wpAny_pyHash_str h
  ·exact Wu h
 eqBool:=fun hu hv h=>by
  rcases zX hu with⟨i,t,rfl,rfl⟩|⟨x,t,rfl,rfl⟩|⟨rfl,rfl⟩
  ·rcases zX hv with⟨j,u,rfl,rfl⟩|⟨y,u,rfl,rfl⟩|⟨rfl,rfl⟩
   ·rw[KD]at h;exact wpAny_eqBool_int h
   ·rw[decide_eq_false (by intro q;cases q)]at h;exact SeqAt.EqAt.int_str i t y u _ _ _ _ h
   ·rw[decide_eq_false (by intro q;cases q)]at h;exact SeqAt.EqAt.int_none i t _ _ _ _ h
  ·rcases zX hv with⟨j,u,rfl,rfl⟩|⟨y,u,rfl,rfl⟩|⟨rfl,rfl⟩
   ·rw[decide_eq_false (by intro q;cases q)]at h;exact SeqAt.EqAt.str_int x t j u _ _ _ _ h
   ·rw[Kx]at h;exact wpAny_eqBool_str h
   ·rw[decide_eq_false (by intro q;cases q)]at h;exact SeqAt.EqAt.str_none x t _ _ _ _ h
  ·rcases zX hv with⟨j,u,rfl,rfl⟩|⟨y,u,rfl,rfl⟩|⟨rfl,rfl⟩
   ·rw[decide_eq_false (by intro q;cases q)]at h;exact SeqAt.EqAt.none_int j u _ _ _ _ h
   ·rw[decide_eq_false (by intro q;cases q)]at h;exact SeqAt.EqAt.none_str y u _ _ _ _ h
   ·rw[decide_eq_true rfl]at h;exact SeqAt.EqAt.same .none _ _ _ _ h
 «strs»:=fun k x t v h=>by
  rcases zX h with⟨i,u,rfl,e⟩|⟨y,u,rfl,e⟩|⟨rfl,e⟩
  ·exact nomatch e
  ·injection e with e1 _;subst e1;cases v<;>rfl
  ·exact nomatch e
def ZR (prog:Program)(w:World)(i:Int)(t:Tok):(zN prog w).is (.inl i) (.int i t)=true:=Wk i t
def Zm (prog:Program)(w:World)(x:Str)(t:Tok):(zN prog w).is (.inr x) (.str x t)=true:=XW x t
def Zi (prog:Program)(w:World):(zN prog w).is .non .none=true:=rfl
inductive V where
 | non | bl (b:Bool) | int (i:Int) | str (x:Str) | byt (b:Array UInt8) | flt (b:UInt64) | ref (a:Addr) | ty (n:String)
 deriving DecidableEq
def RelV:V->Value->Prop
 | .non,u=>u=Value.none
 | .bl b,u=>u=Value.bool b
 | .int i,u=>∃t,u=Value.int i t
 | .str x,u=>∃t,u=Value.str x t
 | .byt b,u=>∃t,u=Value.bytes b t
 | .flt b,u=>∃t,u=Value.float b t
 | .ref a,u=>u=Value.ref a
 | .ty n,u=>u=Value.type n
abbrev Vals:List V->List Value->Prop:=Paired RelV
theorem Vals.length {xs:List V}{us:List Value}(r:Vals xs us):xs.length=us.length:=Paired.length r
theorem Vals.get:∀ {xs:List V} {us:List Value} {i:Nat} {x:V},Vals xs us->xs[i]?=some x->∃u,us[i]?=some u/\RelV x u
 | _,_,_,_,.nil,e=>by simp at e
 | _,_,0,_,.cons r _,e=>by simp at e;subst e;exact⟨_,rfl,r⟩
 | _,_,i+1,x,.cons _ t,e=>by
  obtain⟨u,h1,h2⟩:=Vals.get (i:=i) (x:=x) t (by simpa using e);exact⟨u,by simpa using h1,h2⟩
theorem Vals.set {x:V}{u:Value}(r:RelV x u):∀ {xs:List V} {us:List Value} (i:Nat),Vals xs us->Vals (xs.set i x) (us.set i u)
 | _,_,_,.nil=>.nil
 | _,_,0,.cons _ t=>.cons r t
 | _,_,i+1,.cons q t=>.cons q (Vals.set r i t)
theorem Vals.append:∀ {xs ys:List V} {us ws:List Value},Vals xs us->Vals ys ws->Vals (xs++ys) (us++ws)
 | _,_,_,_,.nil,s=>s
 | _,_,_,_,.cons r t,s=>.cons r (Vals.append t s)
theorem Vals.take:∀ {xs:List V} {us:List Value} (n:Nat),Vals xs us->Vals (xs.take n) (us.take n)
 | _,_,0,_=>.nil
 | _,_,_+1,.nil=>.nil
 | _,_,n+1,.cons r t=>.cons r (Vals.take n t)
theorem Vals.drop:∀ {xs:List V} {us:List Value} (n:Nat),Vals xs us->Vals (xs.drop n) (us.drop n)
 | _,_,0,r=>r
 | _,_,_+1,.nil=>.nil
 | _,_,n+1,.cons _ t=>Vals.drop n t
def RelO:Option V->Option Value->Prop
 | some v,some u=>RelV v u
 | none,none=>True
 | _,_=>False
def KV {κ:Type}:List (κ×V)->List (κ×Value)->Prop:=Paired fun (p:κ×V) (q:κ×Value)=>p.1=q.1/\RelV p.2 q.2
def kV:Key->V
 | .inl i=>.int i
 | .inr x=>.str x
 | .non=>.non
def TupN (h:Heap)(a:Addr)(items:Array Value):Prop:=∃o,h.get? a=some o/\o.cls=.type "tuple"/\(o.dict=none/\o.slots=#[])/\∃n,o.data=.seq items n
theorem TupN.tup {h:Heap}{a:Addr}{items:Array Value}(x:TupN h a items):IsTup h a items:=let ⟨o,ho,hc,_,n,hd⟩:=x;⟨o,ho,hc,n,hd⟩
theorem TupN.lt {h:Heap}{a:Addr}{items:Array Value}(x:TupN h a items):a<h.objs.size:=x.tup.lt
theorem TupN.new (h:Heap)(items:Array Value):TupN (h.push { cls:=.type "tuple",data:=.seq items }) h.objs.size items:=⟨_,jYd _ rfl,rfl,⟨rfl,rfl⟩,_,rfl⟩
inductive HO where
  | lst (xs:List V)
  | tup (xs:List V)
  | dK (kvs:List (Key×V)) | dT (kvs:List (List Key×V))
  | set (S:Int->Bool) (n:Nat)
  | ins (C dx:Addr) (fs:List (Str×V))
  | own (x:Addr)
  | xd (fs:List (Str×V))
  | met (f x:Addr)
  | rng (lo hi:Int)
  | frz (o:Obj) (u:HO)
  | tbl (ps:Array Value)
  | ext (φ:Heap->Prop)
abbrev Hp:=Addr->Option HO
def upd (H:Hp)(a:Addr)(o:HO):Hp:=fun b=>if b=a then some o else H b
def zE {H:Hp}{a:Addr}{o:HO}:upd H a o a=some o:=by unfold upd;rw[if_pos rfl]
def zK {H:Hp}{a b:Addr}{o:HO}(h:b≠a):upd H a o b=H b:=by unfold upd;rw[if_neg h]
def z1v {H:Hp}{a b:Addr}{o u:HO}(h:H a=some o)(h':H b=some u)(d:o≠u):a≠b:=by
 intro e;subst e;rw[h]at h';exact d (jYe h')
def yr {H:Hp}{a b:Addr}{o:HO}(h:H a=some o)(h':H b=none):a≠b:=by
 intro e;subst e;rw[h]at h';cases h'
section
variable (P:Program)(w:World)
def ObjOk (H:Hp)(h:Heap)(a:Addr):HO->Prop
 | .lst xs=>xs.length<=sizeLine/\∃(its:List Value) (n:Nat),Vals xs its/\h.get? a=some { cls:=.type "list",data:=.seq its.toArray n }
 | .tup xs=>xs.length<=sizeLine/\∃its:List Value,Vals xs its/\TupN h a its.toArray
 | .dK kvs=>kvs.length<=sizeLine/\(a==sysModules)=false/\∃vs,KV kvs vs/\h.DictOf (zN P w) a vs
 | .dT kvs=>kvs.length<=sizeLine/\(a==sysModules)=false/\∃xs:List (List Key×Addr×Value),
   Paired (fun (p:List Key×V) (q:List Key×Addr×Value)=>p.1=q.1/\H q.2.1=some (.tup (p.1.map kV))/\RelV p.2 q.2.2) kvs xs /\
   ∃o es ep,h.get? a=some o/\o.ExactDict/\o.data=.dict es ep/\es.toList=xs.map (entryOfKey (tupleKind (zN P w)))/\(xs.map (·.1)).Nodup
 | .set S n=>h.SetOf (intKind P w) a S n
 | .ins C dx fs=>H dx=some (.own a)/\fs.length<=1000/\dx≠a/\h.get? a=some (jJi C dx) /\
   ∃mA,h.Ns1 dx mA/\(∀f,RelO (fs.lookup f) (mA f))/\PySem.Within mA (fs.map (·.1))
 | .own _=>∃o,h.get? a=some o
 | .xd fs=>∃mA,h.Ns1 a mA/\∀f,RelO (fs.lookup f) (mA f)
 | .rng lo hi=>∃t u v,h.get? a=some { cls:=.type "range",data:=.fields #[.int lo t,.int hi u,.int 1 v] }
 | .frz o u=>h.get? a=some o/\ObjOk H h a u
 | .tbl ps=>∃qs,h.get? a=some { cls:=.none,data:=.fields qs }/\(qs=#[]\/∃l k q t0 c',ps[0]?=some l/\ps[1]?=some k/\ps[2]?=some (.str q t0)/\qs=#[l,k,.ref c']/\H c'=some (.own a)/\h.CodeRec (.ref c') q)
 | .met f x=>h.get? a=some (jJj (.ref f) (.ref x))
 | .ext φ=>φ h/\(∃o,h.get? a=some o)/\∀h1 h2:Heap,φ h1->(∀o,h1.get? a=some o->h2.get? a=some o)->φ h2
def HOk (H:Hp)(h:Heap):Prop:=∀a o,H a=some o->ObjOk P w H h a o
end
section
variable {P:Program}{w:World}{H H':Hp}{h h':Heap}{a:Addr}{o:HO}
theorem ObjOk.lt (x:ObjOk P w H h a o):a<h.objs.size:=by
 cases o with
 | lst xs=>obtain⟨_,_,_,_,e⟩:=x;exact jYc e
 | tup xs=>obtain⟨_,_,_,p⟩:=x;exact p.lt
 | dK kvs=>obtain⟨_,_,_,_,o,_,_,e,_⟩:=x;exact jYc e
 | dT kvs=>obtain⟨_,_,_,_,o,_,_,e,_⟩:=x;exact jYc e
 | set S n=>obtain⟨o,_,_,_,e,_⟩:=x;exact jYc e
 | ins C dx fs=>obtain⟨_,_,_,e,_⟩:=x;exact jYc e
 | own y=>obtain⟨_,e⟩:=x;exact jYc e
 | xd fs=>obtain⟨_,⟨_,_,_,e,_⟩,_⟩:=x;exact jYc e
 | rng lo hi=>obtain⟨_,_,_,e⟩:=x;exact jYc e
 | frz ob u=>obtain⟨e,_⟩:=x;exact jYc e
 | tbl ps=>obtain⟨_,e,_⟩:=x;exact jYc e
 | met f y=>exact jYc (show h.get? a=some _ from x)
 | ext φ=>obtain⟨_,⟨_,e⟩,_⟩:=x;exact jYc e
theorem Paired.mapP {α β:Type}{F G:α->β->Prop}:∀ {l₁:List α} {l₂:List β},Paired F l₁ l₂->(∀a b,F a b->G a b)->Paired G l₁ l₂
 | _,_,.nil,_=>.nil
 | _,_,.cons r t,f=>.cons (f _ _ r) (Paired.mapP t f)
theorem ObjOk.stay (x:ObjOk P w H h a o)(k:∀b u,(b=a\/H b=some (.own a))->h.get? b=some u->h'.get? b=some u)
  (ho:∀b,H b=some (.own a)->H' b=some (.own a)) (ht:∀b xs,H b=some (.tup xs)->H' b=some (.tup xs)):ObjOk P w H' h' a o:=by
 induction o with
 | lst xs=>obtain⟨z,its,n,r,e⟩:=x;exact⟨z,its,n,r,k _ _ (.inl rfl) e⟩
 | tup xs=>obtain⟨z,its,r,ob,e,c⟩:=x;exact⟨z,its,r,ob,k _ _ (.inl rfl) e,c⟩
 | dK kvs=>obtain⟨z,y,vs,r,ob,es,ep,e,c⟩:=x;exact⟨z,y,vs,r,ob,es,ep,k _ _ (.inl rfl) e,c⟩
 | dT kvs =>
  obtain⟨z,y,xs,r,ob,es,ep,e,c⟩:=x;exact⟨z,y,xs,Paired.mapP r fun p q z=>⟨z.1,ht _ _ z.2.1,z.2.2⟩,ob,es,ep,k _ _ (.inl rfl) e,c⟩
 | set S n=>obtain⟨ob,es,ep,t,e,c⟩:=x;exact⟨ob,es,ep,t,k _ _ (.inl rfl) e,c⟩
 | ins C dx fs =>
  obtain⟨d,z,ne,e,mA,⟨od,es,ep,e2,c⟩,r⟩:=x;exact⟨ho _ d,z,ne,k _ _ (.inl rfl) e,mA,⟨od,es,ep,k _ _ (.inr d) e2,c⟩,r⟩
 | own y=>obtain⟨ob,e⟩:=x;exact⟨ob,k _ _ (.inl rfl) e⟩
 | xd fs=>obtain⟨mA,⟨od,es,ep,e,c⟩,r⟩:=x;exact⟨mA,⟨od,es,ep,k _ _ (.inl rfl) e,c⟩,r⟩
 | rng lo hi=>obtain⟨t,u,v,e⟩:=x;exact⟨t,u,v,k _ _ (.inl rfl) e⟩
 | frz ob u ih=>obtain⟨e,q⟩:=x;exact⟨k _ _ (.inl rfl) e,ih q⟩
 | tbl ps =>
  obtain⟨qs,e,z⟩:=x;refine⟨qs,k a _ (.inl rfl) e,?_⟩;rcases z with z|⟨l,m,q,t0,c',z1,z2,z3,z4,z5,c,ob,vs,t,z6,z7,z8⟩
  ·exact .inl z
  ·cases z6;exact .inr ⟨l,m,q,t0,c',z1,z2,z3,z4,ho _ z5,c',ob,vs,t,rfl,k _ _ (.inr z5) z7,z8⟩
 | met f y =>
  have e:h.get? a=some (jJj (.ref f) (.ref y)):=x;show h'.get? a=some (jJj (.ref f) (.ref y));exact k a _ (.inl rfl) e
 | ext φ=>obtain⟨p,⟨o,e⟩,st⟩:=x;exact⟨st _ _ p fun o q=>k _ _ (.inl rfl) q,⟨o,k _ _ (.inl rfl) e⟩,st⟩
theorem HOk.lt (x:HOk P w H h)(e:H a=some o):a<h.objs.size:=(x a o e).lt
def HOk.fresh (x:HOk P w H h)(e:h.objs.size<=a):H a=none:=by
 cases q:H a with
 | none=>rfl
 | some u=>exact absurd (sN (x.lt q) e) (pF _)
theorem HOk.kept (x:HOk P w H h)(k:∀b u,h.get? b=some u->h'.get? b=some u):HOk P w H h':=fun a o e =>
 (x a o e).stay (fun b u _ q=>k b u q) (fun _ q=>q) fun _ _ q=>q
theorem HOk.laid (x:HOk P w H h)(k:∀b u,h.get? b=some u->h'.get? b=some u)(hp:h.objs.size<=a)(new:ObjOk P w (upd H a o) h' a o):HOk P w (upd H a o) h':=fun b u e=>by
 have hn:=x.fresh hp
 by_cases hb:b=a
 ·subst hb;rw[zE]at e;cases e;exact new
 ·rw[zK hb]at e;exact (x b u e).stay (fun c v _ q=>k c v q) (fun c q=>by rw[zK (yr q hn)];exact q) fun c xs q=>by rw[zK (yr q hn)];exact q
end
def Rd (H:Hp)(a:Addr)(u:HO):Prop:=H a=some u\/∃o,H a=some (.frz o u)
theorem Rd.ok {P:Program}{w:World}{H:Hp}{h:Heap}{a:Addr}{u:HO}(r:Rd H a u)(x:HOk P w H h):ObjOk P w H h a u:=by
 rcases r with r|⟨o,r⟩
 ·exact x a u r
 ·obtain⟨_,q⟩:=x a _ r;exact q
def Mut:Option HO->Prop
 | some (.lst _)=>True
 | some (.dK _)=>True
 | some (.dT _)=>True
 | some (.set _ _)=>True
 | some (.ins _ _ _)=>True
 | some (.ext _)=>True
 | _=>False
section
variable {P:Program}{w:World}{H:Hp}{h h':Heap}{x e:Addr}{o':HO}
def HOk.write (ok:HOk P w H h)(mu:Mut (H x))(he:e=x\/H e=some (.own x))(k:∀b u,b≠e->h.get? b=some u->h'.get? b=some u)(heo:∃u,h'.get? e=some u)
  (new:ObjOk P w (upd H x o') h' x o'):HOk P w (upd H x o') h':=fun b u q=>by
 have nown:∀c y,H c=some (.own y)->c≠x:=fun c y r z=>by subst z;rw[r]at mu;exact mu
 have ntup:∀c xs,H c=some (.tup xs)->c≠x:=fun c xs r z=>by subst z;rw[r]at mu;exact mu
 by_cases hb:b=x
 ·subst hb;rw[zE]at q;cases q;exact new
 ·rw[zK hb]at q
  by_cases hbe:b=e
  ·have q':H b=some (.own x):=by
    rcases he with z|z
    ·exact absurd (hbe.trans z) hb
    ·rw[hbe];exact z
   rw[q]at q';cases q';obtain⟨v,hv⟩:=heo;exact⟨v,by rw[hbe];exact hv⟩
  ·refine (ok b u q).stay (fun c v hc r=>k c v ?_ r) (fun c r=>by rw[zK (nown c b r)];exact r) fun c xs r=>by rw[zK (ntup c xs r)];exact r
   rcases hc with rfl|hc
   ·exact hbe
   ·rintro rfl;rcases he with z|z
    ·exact nown c b hc z
    ·rw[hc]at z;cases z;exact hb rfl
end
structure Un (fs ex:List Addr)(H H':Hp)(h h':Heap):Prop where
 keep:∀b o,h.get? b=some o->H b=none->b∉fs->b∉ex->h'.get? b=some o
 slot:∀b o,h.get? b=some o->H b=none->b∈fs->b∉ex->∃sl,h'.get? b=some { o with slots:=sl }
 free:∀b o,h.get? b=some o->H b=none->b∉ex->H' b=none
 there:∀b o,h.get? b=some o->b∉ex->∃o',h'.get? b=some o'
 tups:∀b xs,H b=some (.tup xs)->H' b=some (.tup xs)
 frzs:∀b o u,H b=some (.frz o u)->H' b=some (.frz o u)
 tbls:∀b ps,H b=some (.tbl ps)->∃more,H' b=some (.tbl (ps++more))
section
variable {fs fs' ex ex':List Addr}{H H1 H2:Hp}{h h1 h2 h':Heap}{a x e:Addr}{o:HO}
theorem Un.any (u:Un fs ex H H1 h h1){b:Addr}{ob:Obj}(q:h.get? b=some ob)(n:H b=none)(hx:b∉ex):∃sl,h1.get? b=some { ob with slots:=sl }:=by
 by_cases hb:b∈fs
 ·exact u.slot b ob q n hb hx
 ·exact⟨ob.slots,u.keep b ob q n hb hx⟩
def Un.trans (a:Un fs ex H H1 h h1)(b:Un fs ex H1 H2 h1 h2):Un fs ex H H2 h h2 where
 keep:=fun c ob q n hc hx=>b.keep c ob (a.keep c ob q n hc hx) (a.free c ob q n hx) hc hx
 slot:=fun c ob q n hc hx=>by
  obtain⟨sl,e1⟩:=a.slot c ob q n hc hx;obtain⟨sl',e2⟩:=b.slot c _ e1 (a.free c ob q n hx) hc hx;exact⟨sl',e2⟩
 free:=fun c ob q n hx=>by
  obtain⟨o',e1⟩:=a.there c ob q hx;exact b.free c o' e1 (a.free c ob q n hx) hx
 there:=fun c ob q hx=>by
  obtain⟨o',e1⟩:=a.there c ob q hx;exact b.there c o' e1 hx
 tups:=fun c xs q=>b.tups c xs (a.tups c xs q)
 frzs:=fun c ob xs q=>b.frzs c ob xs (a.frzs c ob xs q)
 tbls:=fun c ps q=>by
  obtain⟨m1,e1⟩:=a.tbls c ps q;obtain⟨m2,e2⟩:=b.tbls c _ e1;exact⟨m1++m2,by rw[e2,Array.append_assoc]⟩
def Un.kept (k:∀b u,h.get? b=some u->h'.get? b=some u):Un fs ex H H h h' :=
 ⟨fun b ob q _ _ _=>k b ob q,fun b ob q _ _ _=>⟨ob.slots,k b ob q⟩,fun _ _ _ n _=>n,fun b ob q _=>⟨ob,k b ob q⟩,fun _ _ q=>q,fun _ _ _ q=>q,fun _ ps q=>⟨#[],by rw[q];simp⟩⟩
def Un.refl:Un fs ex H H h h:=Un.kept fun _ _ q=>q
def Un.laid (k:∀b u,h.get? b=some u->h'.get? b=some u)(hp:h.objs.size<=a)(hn:H a=none):Un fs ex H (upd H a o) h h' where
 keep:=fun b u q _ _ _=>k b u q
 slot:=fun b u q _ _ _=>⟨u.slots,k b u q⟩
 free:=fun b u q n _=>by rw[zK (sX (sN (jYc q) hp))];exact n
 there:=fun b u q _=>⟨u,k b u q⟩
 tups:=fun b xs q=>by rw[zK (yr q hn)];exact q
 frzs:=fun b u xs q=>by rw[zK (yr q hn)];exact q
 tbls:=fun b ps q=>⟨#[],by rw[zK (yr q hn),q];simp⟩
def Un.write (mu:Mut (H x))(he:e=x\/H e=some (.own x))(k:∀b u,b≠e->h.get? b=some u->h'.get? b=some u)(heo:∃u,h'.get? e=some u):Un fs ex H (upd H x o) h h':=by
 have hx:∀b,H b=none->b≠x:=fun b n z=>by subst z;rw[n]at mu;exact mu
 have hb:∀b,H b=none->b≠e:=fun b n z=>by
  subst z;rcases he with r|r
  ·exact hx b n r
  ·rw[n]at r;cases r
 have hm:∀b u,H b=some u->¬Mut (some u)->b≠x:=fun b u q nm z=>by subst z;rw[q]at mu;exact nm mu
 refine⟨fun b u q n _ _=>k b u (hb b n) q,fun b u q n _ _=>⟨u.slots,k b u (hb b n) q⟩,fun b u q n _=>by rw[zK (hx b n)];exact n,fun b u q _=>?_,
  fun b xs q=>by rw[zK (hm b _ q fun z=>z)];exact q,fun b u xs q=>by rw[zK (hm b _ q fun z=>z)];exact q,fun b ps q=>⟨#[],by rw[zK (hm b _ q fun z=>z),q];simp⟩⟩
 by_cases hbe:b=e
 ·subst hbe;exact heo
 ·exact⟨u,k b u hbe q⟩
end
def trk (h:Heap)(H:Hp):List Addr:=(List.range h.objs.size).filter fun a=>(H a).isSome
def kT (h:Heap)(H:Hp):Heap:=PySem.W.hideAll h (trk h H)
def Wr (h:Heap)(H:Hp):(kT h H).objs.size=h.objs.size:=PySem.W.hideAll_size _ _
def Vm {h:Heap}{H:Hp}{b:Addr}{o:Obj}(e:h.get? b=some o)(n:H b=none):(kT h H).get? b=some o:=
 PySem.W.hideAll_get _ e fun hm=>by
  have q:(H b).isSome=true:=(List.mem_filter.mp hm).2;rw[n]at q;simp at q
def Q6 {h:Heap}{H:Hp}{b:Addr}{o:Obj}(e:(kT h H).get? b=some o):h.get? b=some o/\H b=none:=by
 have e':h.get? b=some o:=PySem.W.of_hideAll (trk h H) e;refine⟨e',?_⟩;cases q:H b with
 | none=>rfl
 | some x =>
  have hm:b∈trk h H:=List.mem_filter.mpr ⟨pH.mpr (jYc e'),by simp[q]⟩;have z:(kT h H).get? b=none:=PySem.W.hideAll_none (trk h H) hm;rw[z]at e;cases e
def Uz (g h:Heap)(L:Addr):List (Addr×Obj):=(List.range h.objs.size).filterMap fun a=>if a=L\/(g.get? a).isSome=true then none else (h.get? a).map fun o=>(a,o)
def rest (g h:Heap)(L d:Addr):List (Addr×Obj):=(Uz g h L).filter fun p=>decide (p.1≠d)
structure Mod (K:jJa)(mg:Str->Option Value)(base:Heap):Prop where
 kin:K.In base
 glob:base.Ns mainGlobals mg
 blt:∃mb,base.Ns builtinsNs mb/\∀x:Str,x≠"__name__"->mb x=bootBuiltins x
 nolimit:base.NoLimit
structure Cx where
 prog:Program
 w:World
 K:jJa
 mg:Str->Option Value
 base:Heap
 A:Around
 N:List Str
 s₀:Shared
 H₀:Hp
 env:Env
 outer:List Env
 stack:List Env
 ex:List Addr
 fn:Str->Bool
 calm:Bool
 pn:List (Addr×Obj)
 xe:Value->Shared->Prop
def frs (l:List Env):List Addr:=l.filterMap (·.frame)
abbrev Cx.fs (X:Cx):List Addr:=frs X.outer
def Vis (sc:Scope)(x:Str):Prop:=sc.names.lookup x=some .local\/sc.names.lookup x=some .cell\/sc.names.lookup x=some .free
def Loc (sc:Scope)(x:Str):Prop:=sc.names.lookup x=some .local\/sc.names.lookup x=some .cell
def z1I (env:Env)(h:Heap)(m:Str->Option Value)(x:Str)(u:Value):Prop:=
 (env.kindOf x=some .local/\m x=some u)\/((env.kindOf x=some .cell\/env.kindOf x=some .free)/\∃c,env.cells.lookup x=some c/\h.IsCell c (some u))
structure Cx.Ok (X:Cx):Prop where
 mod:Mod X.K X.mg X.base
 kind:X.env.scope.kind=.function
 glob:X.env.globals=mainGlobals
 blt:X.env.builtins=builtinsNs
 above:X.s₀.heap.objs.size<=X.env.locals
 inj:∀x y c,X.env.cells.lookup x=some c->X.env.cells.lookup y=some c->x=y
 has:∀x,(X.env.kindOf x=some .cell\/X.env.kindOf x=some .free)->∃c,X.env.cells.lookup x=some c
 cab:∀x c,X.fn x=true->X.env.cells.lookup x=some c->X.s₀.heap.objs.size<=c
 hd:X.calm=true->X.A.handled=none
 frames:X.A.frames=some X.stack
 stk:X.stack=X.outer\/(X.stack=X.env::X.outer/\X.env.frame=some X.env.locals)
 exf:∀b∈X.ex,b≠X.env.locals/\∀x c,X.env.cells.lookup x=some c->c≠b
 bs:∀b o,X.base.get? b=some o->X.s₀.heap.get? b=some o/\X.H₀ b=none
 bsz:X.base.objs.size<=X.s₀.heap.objs.size
 noex:∀b o,X.base.get? b=some o->b∉X.ex
 exfs:∀b∈X.ex,b∉X.fs
 funs:X.s₀.heap.FunFrames X.base X.outer
 frf:∀b∈X.fs,X.H₀ b=none
structure Inv (X:Cx)(pins:List (Addr×Obj))(σ:List (Option V))(H:Hp)(s:Shared):Prop where
 ok:X.Ok
 os:s.os=X.s₀.os
 bare:AllBare s.gens
 base:Un X.fs X.ex X.H₀ H X.s₀.heap s.heap
 loc:∃m,s.heap.Ns X.env.locals m/\∀(i:Nat) (x:Str) (v:V),X.N[i]?=some x->σ[i]?=some (some v)->Vis X.env.scope x->∃u,RelV v u/\z1I X.env s.heap m x u
 cell:∀x c,X.env.cells.lookup x=some c->∃v,s.heap.IsCell c v
 free:H X.env.locals=none
 freeC:∀x c,X.env.cells.lookup x=some c->H c=none
 pin:∀p∈X.pn++pins,s.heap.get? p.1=some p.2/\H p.1=none/\p.1≠X.env.locals/\p.1∉X.fs/\∀v,p.2.data≠.cell v
 hok:HOk X.prog X.w H s.heap
 len:σ.length=X.N.length
section
variable {X:Cx}{pins:List (Addr×Obj)}{σ:List (Option V)}{H H':Hp}{s:Shared}{h':Heap}
theorem Cx.Ok.nofr (ok:X.Ok){b:Addr}{o:Obj}(e:X.base.get? b=some o):b∉X.fs:=fun hb=>by
 have:=(ok.funs.mem hb).1;rw[e]at this;cases this
theorem Inv.bs (I:Inv X pins σ H s):∀b o,X.base.get? b=some o->s.heap.get? b=some o/\H b=none:=fun b o e =>
 ⟨I.base.keep b o (I.ok.bs b o e).1 (I.ok.bs b o e).2 (I.ok.nofr e) (I.ok.noex b o e),I.base.free b o (I.ok.bs b o e).1 (I.ok.bs b o e).2 (I.ok.noex b o e)⟩
theorem Inv.bk (I:Inv X pins σ H s):∀b o,X.base.get? b=some o->s.heap.get? b=some o:=fun b o e=>(I.bs b o e).1
theorem Inv.mod (I:Inv X pins σ H s):Mod X.K X.mg X.base:=I.ok.mod
theorem Inv.kIn (I:Inv X pins σ H s):X.K.In s.heap:=I.ok.mod.kin.keeps I.bk
theorem Inv.lt (I:Inv X pins σ H s):X.env.locals<s.heap.objs.size:=let ⟨_,hn,_⟩:=I.loc;hn.lt
theorem Inv.sz (I:Inv X pins σ H s):X.s₀.heap.objs.size<=s.heap.objs.size:=rJ I.ok.above (rK I.lt)
theorem Inv.nofs (I:Inv X pins σ H s){a:Addr}(h:s.heap.objs.size<=a):a∉X.fs:=fun hb=>by
 obtain⟨_,o,ho,_⟩:=I.ok.funs.mem hb;exact absurd (sN (jYc ho) (rJ I.sz h)) (pF _)
theorem Inv.cne (I:Inv X pins σ H s):∀x c,X.env.cells.lookup x=some c->c≠X.env.locals:=fun x c e z=>by
 obtain⟨v,o,ho,hd⟩:=I.cell x c e;obtain⟨m,⟨o',es,ep,ho',hd',_⟩,_⟩:=I.loc;rw[z,ho']at ho;cases ho;rw[hd']at hd;cases hd
theorem Inv.funs (I:Inv X pins σ H s):s.heap.FunFrames X.base X.outer:=by
 have all:∀(l:List Env),(∀b∈frs l,b∈X.fs)->X.s₀.heap.FunFrames X.base l->s.heap.FunFrames X.base l:=by
  intro l
  induction l with
  | nil=>intro _ _;trivial
  | cons env r ih =>
   intro hs hl;obtain⟨hk,⟨L,o,hf,hn,ho,hd⟩,hr⟩:=hl;have hL:L∈X.fs:=hs L (by unfold frs;rw[rX,hf];exact tF);obtain⟨sl,e⟩:=I.base.slot L o ho (I.ok.frf L hL) hL fun z=>I.ok.exfs L z hL;exact⟨hk,⟨L,_,hf,hn,e,hd⟩,ih (fun b hb=>hs b (by unfold frs;rw[rX,hf];exact tG _ hb)) hr⟩
 exact all X.outer (fun _ hb=>hb) I.ok.funs
theorem Inv.stack (I:Inv X pins σ H s):s.heap.FunFrames X.base X.stack:=by
 rcases I.ok.stk with e|⟨e,hf⟩
 ·rw[e];exact I.funs
 ·rw[e];obtain⟨m,hn,_⟩:=I.loc;refine .cons (by rw[I.ok.kind];decide) hf hn ?_ I.funs;exact Heap.get?_none_of_le (rJ I.ok.bsz I.ok.above)
def Inv.stkSub (I:Inv X pins σ H s):∀b∈frs X.stack,b∈X.env.locals::X.fs:=fun b hb=>by
 rcases I.ok.stk with e|⟨e,hf⟩
 ·rw[e]at hb;exact tG _ hb
 ·rw[e]at hb;unfold frs at hb;rw[rX,hf]at hb;exact hb
def Inv.stkFree (I:Inv X pins σ H s):∀b∈frs X.stack,H b=none:=fun b hb=>by
 rcases tV.mp (I.stkSub b hb)with e|hb
 ·rw[e];exact I.free
 ·obtain⟨_,o,ho,_⟩:=I.ok.funs.mem hb;exact I.base.free b o ho (I.ok.frf b hb) fun z=>I.ok.exfs b z hb
theorem Inv.step {g':Array GenState}{t':Nat}{d':Drawn}{ch:List Addr}(I:Inv X pins σ H s)
  (hch:∀b∈ch,(b∈X.ex\/X.s₀.heap.objs.size<=b)/\b≠X.env.locals/\(∀x c,X.env.cells.lookup x=some c->c≠b)/\∀p∈X.pn++pins,p.1≠b)
  (keep:∀b o,b≠X.env.locals->b∉X.fs->b∉ch->s.heap.get? b=some o->H b=none->h'.get? b=some o)
  (slot:∀b o,b≠X.env.locals->b∈X.fs->b∉ch->s.heap.get? b=some o->H b=none->∃sl,h'.get? b=some { o with slots:=sl }) (free:∀b o,b∉ch->s.heap.get? b=some o->H b=none->H' b=none)
  (there:∀b o,b∉ch->s.heap.get? b=some o->∃o',h'.get? b=some o')
  (tups:∀b xs,H b=some (.tup xs)->H' b=some (.tup xs)) (frzs:∀b o u,H b=some (.frz o u)->H' b=some (.frz o u)) (tbls:∀b ps,H b=some (.tbl ps)->∃more,H' b=some (.tbl (ps++more)))
  (ns:∀m,s.heap.Ns X.env.locals m->h'.Ns X.env.locals m) (hok:HOk X.prog X.w H' h') (hg:AllBare g'):
  Inv X pins σ H' { s with heap:=h',gens:=g',drawn:=d',toks:=t' }:=by
 have neL:∀b o,X.s₀.heap.get? b=some o->b≠X.env.locals:=fun b o e=>sX (sN (jYc e) I.ok.above);have neC:∀b o,X.s₀.heap.get? b=some o->b∉X.ex->b∉ch:=fun b o e hx hb=>by
  rcases (hch b hb).1 with z|z
  ·exact hx z
  ·exact absurd (sN (jYc e) z) (pF _)
 have cellK:∀x c,X.env.cells.lookup x=some c->∀v,s.heap.IsCell c v->h'.IsCell c v:=fun x c e v ⟨o,ho,hd⟩=>by
  have nch:c∉ch:=fun z=>(hch c z).2.2.1 x c e rfl
  by_cases hc:c∈X.fs
  ·obtain⟨sl,q⟩:=slot c o (I.cne x c e) hc nch ho (I.freeC x c e);exact⟨_,q,hd⟩
  ·exact⟨o,keep c o (I.cne x c e) hc nch ho (I.freeC x c e),hd⟩
 refine⟨I.ok,I.os,hg,⟨fun b o e n hb hx=>?_,fun b o e n hb hx=>?_,fun b o e n hx=>?_,fun b o e hx=>?_,fun b xs e=>tups b xs (I.base.tups b xs e),fun b o xs e=>frzs b o xs (I.base.frzs b o xs e),fun b ps e=>?_⟩,?_,fun x c e=>?_,?_,fun x c e=>?_,fun p hp=>?_,hok,I.len⟩
 ·exact keep b o (neL b o e) hb (neC b o e hx) (I.base.keep b o e n hb hx) (I.base.free b o e n hx)
 ·obtain⟨sl,e1⟩:=I.base.slot b o e n hb hx;obtain⟨sl',e2⟩:=slot b _ (neL b o e) hb (neC b o e hx) e1 (I.base.free b o e n hx);exact⟨sl',e2⟩
 ·obtain⟨o',e1⟩:=I.base.there b o e hx;exact free b o' (neC b o e hx) e1 (I.base.free b o e n hx)
 ·obtain⟨o',e1⟩:=I.base.there b o e hx;exact there b o' (neC b o e hx) e1
 ·obtain⟨m1,e1⟩:=I.base.tbls b ps e;obtain⟨m2,e2⟩:=tbls b _ e1;exact⟨m1++m2,by rw[e2,Array.append_assoc]⟩
 ·obtain⟨m,hn,hl⟩:=I.loc;refine⟨m,ns m hn,fun i x v e1 e2 e3=>?_⟩;obtain⟨u,r,l⟩:=hl i x v e1 e2 e3;refine⟨u,r,?_⟩;rcases l with l|⟨k,c,e,z⟩
  ·exact .inl l
  ·exact .inr ⟨k,c,e,cellK x c e _ z⟩
 ·obtain⟨v,z⟩:=I.cell x c e;exact⟨v,cellK x c e v z⟩
 ·obtain⟨m,⟨o,_,_,ho,_⟩,_⟩:=I.loc;exact free _ o (fun z=>(hch _ z).2.1 rfl) ho I.free
 ·obtain⟨v,o,ho,hd⟩:=I.cell x c e;exact free c o (fun z=>(hch c z).2.2.1 x c e rfl) ho (I.freeC x c e)
 ·obtain⟨e,n,ne,nf,d⟩:=I.pin p hp;have nch:p.1∉ch:=fun z=>(hch p.1 z).2.2.2 p hp rfl;exact⟨keep p.1 p.2 ne nf nch e n,free p.1 p.2 nch e n,ne,nf,d⟩
theorem Inv.un {t':Nat}(I:Inv X pins σ H s)(u:Un X.fs [] H H' s.heap h')(hok:HOk X.prog X.w H' h'):Inv X pins σ H' { s with heap:=h',toks:=t' }:=by
 obtain⟨m,⟨o,es,ep,ho,r⟩,_⟩:=id I.loc;obtain⟨sl,hL⟩:=u.any ho I.free (by simp);exact I.step (g':=s.gens) (d':=s.drawn) (ch:=[]) (fun _ z=>nomatch z) (fun b o _ hb _ e n=>u.keep b o e n hb (by simp)) (fun b o _ hb _ e n=>u.slot b o e n hb (by simp)) (fun b o _ e n=>u.free b o e n (by simp)) (fun b o _ e=>u.there b o e (by simp)) u.tups u.frzs u.tbls (fun m' hm=>by
  obtain⟨o',es',ep',ho',r'⟩:=hm;rw[ho]at ho';cases ho';exact⟨_,es',ep',hL,r'⟩) hok I.bare
theorem Inv.call {g':Array GenState}{t':Nat}{d':Drawn}{ch:List Addr}(I:Inv X pins σ H s)(u:Un (frs X.stack) ch H H' s.heap h')(hok:HOk X.prog X.w H' h')(hg:AllBare g')
  (hch:∀b∈ch,(b∈X.ex\/X.s₀.heap.objs.size<=b)/\b≠X.env.locals/\(∀x c,X.env.cells.lookup x=some c->c≠b)/\∀p∈X.pn++pins,p.1≠b):
  Inv X pins σ H' { s with heap:=h',gens:=g',drawn:=d',toks:=t' }:=by
 obtain⟨m,⟨o,es,ep,ho,r⟩,_⟩:=id I.loc;obtain⟨sl,hL⟩:=u.any ho I.free fun z=>(hch _ z).2.1 rfl;exact I.step (ch:=ch) hch (fun b o hL hb hc e n=>u.keep b o e n (fun z=>(tV.mp (I.stkSub b z)).elim hL hb) hc) (fun b o _ _ hc e n=>u.any e n hc) (fun b o hc e n=>u.free b o e n hc) (fun b o hc e=>u.there b o e hc) u.tups u.frzs u.tbls (fun m' hm=>by
  obtain⟨o',es',ep',ho',r'⟩:=hm;rw[ho]at ho';cases ho';exact⟨_,es',ep',hL,r'⟩) hok hg
def Inv.turned {t':Nat}{it:Addr}(I:Inv X pins σ H s)(k:∀b o,b≠it->s.heap.get? b=some o->h'.get? b=some o)(hn:H it=none)(hL:it≠X.env.locals)
  (h1:it∈X.ex\/X.s₀.heap.objs.size<=it) (h2:∀x c,X.env.cells.lookup x=some c->c≠it) (h3:∀p∈X.pn++pins,p.1≠it):Inv X pins σ H { s with heap:=h',toks:=t' }:=by
 have nit:∀b u,H b=some u->b≠it:=fun b u e z=>by rw[z,hn]at e;cases e
 refine I.step (g':=s.gens) (d':=s.drawn) (ch:=[it]) (fun b hb=>?_) (fun b o _ _ hc e _=>k b o (fun z=>hc (by simp[z])) e) (fun b o _ _ hc e _=>⟨o.slots,k b o (fun z=>hc (by simp[z])) e⟩) (fun _ _ _ _ n=>n)
  (fun b o hc e=>⟨o,k b o (fun z=>hc (by simp[z])) e⟩) (fun _ _ e=>e) (fun _ _ _ e=>e) (fun b ps e=>⟨#[],by rw[e];simp⟩) (fun m hm=>?_) (fun b u e=>?_) I.bare
 ·have e:b=it:=by simpa using hb
  subst e;exact⟨h1,hL,h2,h3⟩
 ·obtain⟨o,es,ep,ho,r⟩:=hm;exact⟨o,es,ep,k _ o (Ne.symm hL) ho,r⟩
 ·refine (I.hok b u e).stay (fun c v hc q=>k c v ?_ q) (fun _ q=>q) fun _ _ q=>q;rcases hc with z|z
  ·rw[z];exact nit b u e
  ·exact nit c _ z
theorem Inv.tok (I:Inv X pins σ H s)(t:Nat):Inv X pins σ H { s with toks:=t }:=I.un (h':=s.heap) (t':=t) Un.refl I.hok
theorem Inv.kept {t':Nat}(I:Inv X pins σ H s)(k:∀b u,s.heap.get? b=some u->h'.get? b=some u):Inv X pins σ H { s with heap:=h',toks:=t' }:=I.un (Un.kept k) (I.hok.kept k)
theorem Inv.laid {a:Addr}{o:HO}{t':Nat}(I:Inv X pins σ H s)(k:∀b u,s.heap.get? b=some u->h'.get? b=some u)(hp:s.heap.objs.size<=a)(new:ObjOk X.prog X.w (upd H a o) h' a o):
  Inv X pins σ (upd H a o) { s with heap:=h',toks:=t' }:=I.un (Un.laid k hp (I.hok.fresh hp)) (I.hok.laid k hp new)
theorem Inv.write {x e:Addr}{o:HO}{t':Nat}(I:Inv X pins σ H s)(mu:Mut (H x))(he:e=x\/H e=some (.own x))(k:∀b u,b≠e->s.heap.get? b=some u->h'.get? b=some u)(heo:∃u,h'.get? e=some u)
  (new:ObjOk X.prog X.w (upd H x o) h' x o):Inv X pins σ (upd H x o) { s with heap:=h',toks:=t' }:=I.un (Un.write mu he k heo) (I.hok.write mu he k heo new)
def Inv.pins_of {pins':List (Addr×Obj)}(I:Inv X pins σ H s)(h:∀p∈pins',s.heap.get? p.1=some p.2/\H p.1=none/\p.1≠X.env.locals/\p.1∉X.fs/\∀v,p.2.data≠.cell v):Inv X pins' σ H s:=
 ⟨I.ok,I.os,I.bare,I.base,I.loc,I.cell,I.free,I.freeC,fun p hp=>(tW.mp hp).elim (fun z=>I.pin p (tX _ z)) (h p),I.hok,I.len⟩
def Zs {N:List Str}(hN:N.Nodup){i j:Nat}{x:Str}(a:N[i]?=some x)(b:N[j]?=some x):i=j:=by
 obtain⟨h1,e1⟩:=tT.mp a;obtain⟨h2,e2⟩:=tT.mp b;exact (List.getElem_inj hN).mp (e1.trans e2.symm)
def We {M:Model}{A:Around}{E:Value->Shared->Prop}{i:Nat}{x:Str}{v:V}{u:Value}{Q:Unit->Shared->Prop}(I:Inv X pins σ H s)(hN:X.N.Nodup)(hi:X.N[i]?=some x)(hx:Loc X.env.scope x)(r:RelV v u)
  (h:∀s',Inv X pins (σ.set i (some v)) H s'->(∃a,Heap.SameBut a s.heap s'.heap/\(a=X.env.locals\/X.env.cells.lookup x=some a))->Q () s') (hf:autoParam (X.fn x=true\/X.env.scope.names.lookup x=some .local) au0._auto_1):wpAny M A (storeName X.env x u) Q E s:=by
 obtain⟨m,hn,hl⟩:=id I.loc;have hcls:(X.env.scope.kind==.class||(X.env.scope.kind==.module&&X.env.locals != X.env.globals))=false:=by rw[I.ok.kind];rfl
 have hiσ:i<σ.length:=by rw[I.len];exact (tT.mp hi).1
 have cne:=I.cne;have tracked:∀ {a:Addr} {h':Heap},(∃o,s.heap.get? a=some o/\H a=none)->Heap.SameBut a s.heap h'->HOk X.prog X.w H h':=fun {a h'} ha hs b ob e=>by
  obtain⟨_,_,hfree⟩:=ha;refine (I.hok b ob e).stay (fun c w' hc q=>(hs.2 c ?_).trans q) (fun _ q=>q) fun _ _ q=>q;rintro rfl;rcases hc with rfl|hc
  ·rw[hfree]at e;cases e
  ·rw[hfree]at hc;cases hc
 rcases hx with hk|hk
 ·refine wpAny_storeName_local hk hn (fun h' hn' hs=>?_) hcls;obtain⟨oL,_,_,hoL,_⟩:=id hn;refine h _ ⟨I.ok,I.os,I.bare,⟨fun b o e n hb hx=>?_,fun b o e n hb hx=>?_,I.base.free,fun b o e hx=>?_,I.base.tups,I.base.frzs,I.base.tbls⟩,⟨_,hn',fun j y v' e1 e2 e3=>?_⟩,fun y c e=>?_,I.free,I.freeC,fun p hp=>?_,tracked ⟨oL,hoL,I.free⟩ hs,by simpa using I.len⟩ ⟨_,hs,.inl rfl⟩
  ·exact (hs.2 b (sX (sN (jYc e) I.ok.above))).trans (I.base.keep b o e n hb hx)
  ·obtain⟨sl,e1⟩:=I.base.slot b o e n hb hx;exact⟨sl,(hs.2 b (sX (sN (jYc e) I.ok.above))).trans e1⟩
  ·obtain⟨o',e1⟩:=I.base.there b o e hx;exact⟨o',(hs.2 b (sX (sN (jYc e) I.ok.above))).trans e1⟩
  ·by_cases hj:j=i
   ·subst hj;rw[hi]at e1;cases e1;rw[sE hiσ]at e2;cases e2;exact⟨u,r,.inl ⟨hk,by simp⟩⟩
   ·rw[sC (Ne.symm hj)]at e2;obtain⟨u',r',q⟩:=hl j y v' e1 e2 e3;refine⟨u',r',?_⟩;rcases q with⟨k,e⟩|⟨k,c,e,z⟩
    ·refine .inl ⟨k,?_⟩;have:y≠x:=fun e=>hj (Zs hN e1 (e▸hi));simp[this,e]
    ·exact .inr ⟨k,c,e,z.sameBut hs (cne y c e)⟩
  ·obtain⟨w',z⟩:=I.cell y c e;exact⟨w',z.sameBut hs (cne y c e)⟩
  ·obtain⟨e,n,ne,nf,d⟩:=I.pin p hp;exact⟨(hs.2 p.1 ne).trans e,n,ne,nf,d⟩
 ·have hfn:X.fn x=true:=by
   rcases hf with z|z
   ·exact z
   ·rw[z]at hk;cases hk
  obtain⟨c,hc⟩:=I.ok.has x (.inl hk);obtain⟨w',z⟩:=I.cell x c hc;refine wpAny_storeName_cell I.ok.kind hk hc z (fun h' hc' hs=>?_);obtain⟨oc,hoc,hocd⟩:=id z;refine h { s with heap:=h' } ⟨I.ok,I.os,I.bare,⟨fun b o e n hb hx=>?_,fun b o e n hb hx=>?_,I.base.free,fun b o e hx=>?_,I.base.tups,I.base.frzs,I.base.tbls⟩,⟨m,hn.sameBut hs (Ne.symm (cne x c hc)),fun j y v' e1 e2 e3=>?_⟩,fun y c' e=>?_,I.free,I.freeC,fun p hp=>?_,tracked ⟨oc,hoc,I.freeC x c hc⟩ hs,by simpa using I.len⟩ ⟨c,hs,.inr hc⟩
  ·exact (hs.2 b (sX (sN (jYc e) (I.ok.cab x c hfn hc)))).trans (I.base.keep b o e n hb hx)
  ·obtain⟨sl,e1⟩:=I.base.slot b o e n hb hx;exact⟨sl,(hs.2 b (sX (sN (jYc e) (I.ok.cab x c hfn hc)))).trans e1⟩
  ·obtain⟨o',e1⟩:=I.base.there b o e hx;exact⟨o',(hs.2 b (sX (sN (jYc e) (I.ok.cab x c hfn hc)))).trans e1⟩
  ·by_cases hj:j=i
   ·subst hj;rw[hi]at e1;cases e1;rw[sE hiσ]at e2;cases e2;exact⟨u,r,.inr ⟨.inl hk,c,hc,hc'⟩⟩
   ·rw[sC (Ne.symm hj)]at e2;obtain⟨u',r',q⟩:=hl j y v' e1 e2 e3;refine⟨u',r',?_⟩;rcases q with q|⟨k,c',e,z'⟩
    ·exact .inl q
    ·refine .inr ⟨k,c',e,z'.sameBut hs ?_⟩;rintro rfl;exact hj (Zs hN e1 (I.ok.inj _ _ _ e hc▸hi))
  ·by_cases hcc:c'=c
   ·subst hcc;exact⟨_,hc'⟩
   ·obtain⟨w2,z2⟩:=I.cell y c' e;exact⟨w2,z2.sameBut hs hcc⟩
  ·obtain⟨e,n,ne,nf,d⟩:=I.pin p hp;refine⟨(hs.2 p.1 ?_).trans e,n,ne,nf,d⟩;intro q;rw[q,hoc]at e;have q':oc=p.2:=jYe e;exact d w' (by rw[<-q'];exact hocd)
def j4 {M:Model}{A:Around}{E:Value->Shared->Prop}{i:Nat}{x:Str}{v:V}{u:Value}{Q:Unit->Shared->Prop}(I:Inv X pins σ H s)(hN:X.N.Nodup)(hi:X.N[i]?=some x)(hx:Loc X.env.scope x)(r:RelV v u)
  (h:∀s',Inv X pins (σ.set i (some v)) H s'->Q () s') (hf:autoParam (X.fn x=true\/X.env.scope.names.lookup x=some .local) au0._auto_1):wpAny M A (storeName X.env x u) Q E s:=
 We I hN hi hx r (fun s' I' _=>h s' I') hf
def Inv.call' {s':Shared}{ch:List Addr}(I:Inv X pins σ H s)(ho:s'.os=s.os)(u:Un (frs X.stack) ch H H' s.heap s'.heap)(hok:HOk X.prog X.w H' s'.heap)(hg:AllBare s'.gens)
  (hch:∀b∈ch,(b∈X.ex\/X.s₀.heap.objs.size<=b)/\b≠X.env.locals/\(∀x c,X.env.cells.lookup x=some c->c≠b)/\∀p∈X.pn++pins,p.1≠b):Inv X pins σ H' s':=by
 obtain⟨h',g',d',t',o'⟩:=s';have e:o'=s.os:=ho;subst e;exact I.call (g':=g') (t':=t') (d':=d') u hok hg hch
end
abbrev XK:=Value->Option Addr->Hp->Prop
abbrev St:=List (Option V)
abbrev VK:=V->Hp->Prop
abbrev TE:=St->Hp->VK->Prop
abbrev TT:=St->Hp->(Bool->Hp->Prop)->Prop
abbrev TA:=St->Hp->(List V->Hp->Prop)->Prop
structure Ends where
 nx:St->Hp->Prop
 rt:VK
 bk:St->Hp->Prop:=fun _ _=>False
 ct:St->Hp->Prop:=fun _ _=>False
abbrev TS:=Ends->St->Hp->Prop
def EP (X:Cx)(pins:List (Addr×Obj))(σ:St)(Q:VK)(u:Value)(s':Shared):Prop:=∃v H',Inv X pins σ H' s'/\RelV v u/\Q v H'
def TP (X:Cx)(pins:List (Addr×Obj))(σ:St)(Q:Bool->Hp->Prop)(b:Bool)(s':Shared):Prop:=∃H',Inv X pins σ H' s'/\Q b H'
def AP (X:Cx)(pins:List (Addr×Obj))(σ:St)(Q:List V->Hp->Prop)(us:List Value)(s':Shared):Prop:=∃vs H',Inv X pins σ H' s'/\Vals vs us/\Q vs H'
def SP (X:Cx)(pins:List (Addr×Obj))(D:Ends)(f:Flow)(s':Shared):Prop:=
 match f with
 | .next=>∃σ' H',Inv X pins σ' H' s'/\D.nx σ' H'
 | .brk=>∃σ' H',Inv X pins σ' H' s'/\D.bk σ' H'
 | .cont=>∃σ' H',Inv X pins σ' H' s'/\D.ct σ' H'
 | .ret u=>∃v σ' H',Inv X pins σ' H' s'/\RelV v u/\D.rt v H'
def PE (X:Cx)(e:Expr)(t:TE):Prop:=
 ∀(pins:List (Addr×Obj)) (s:Shared) (σ:St) (H:Hp) (Q:VK),Inv X pins σ H s->t σ H Q->wpAny (model X.prog X.w) X.A (eval e X.env) (EP X pins σ Q) X.xe s
def PT (X:Cx)(e:Expr)(t:TT):Prop:=
 ∀(pins:List (Addr×Obj)) (s:Shared) (σ:St) (H:Hp) (Q:Bool->Hp->Prop),Inv X pins σ H s->t σ H Q->wpAny (model X.prog X.w) X.A (isTrue e X.env (eval e X.env)) (TP X pins σ Q) X.xe s
def PW (X:Cx)(e:Expr)(t:TT):Prop:=
 ∀(whole:Sem Value) (pins:List (Addr×Obj)) (s:Shared) (σ:St) (H:Hp) (Q:Bool->Hp->Prop),Inv X pins σ H s->t σ H Q->wpAny (model X.prog X.w) X.A (isTrue e X.env whole) (TP X pins σ Q) X.xe s
theorem PW.pt {X:Cx}{e:Expr}{t:TT}(h:PW X e t):PT X e t:=h _
def PA (X:Cx)(es:List Expr)(t:TA):Prop:=
 ∀(pos:Pos) (pins:List (Addr×Obj)) (s:Shared) (σ:St) (H:Hp) (Q:List V->Hp->Prop),Inv X pins σ H s->t σ H Q->wpAny (model X.prog X.w) X.A (spliced (backTo pos (starEach es X.env))) (AP X pins σ Q) X.xe s
def PS (X:Cx)(st:Stmt)(t:TS):Prop:=
 ∀(pins:List (Addr×Obj)) (s:Shared) (σ:St) (H:Hp) (D:Ends),Inv X pins σ H s->t D σ H->wpAny (model X.prog X.w) X.A (exec st X.env) (SP X pins D) X.xe s
def PSs (X:Cx)(st:List Stmt)(t:TS):Prop:=
 ∀(pins:List (Addr×Obj)) (s:Shared) (σ:St) (H:Hp) (D:Ends),Inv X pins σ H s->t D σ H->wpAny (model X.prog X.w) X.A (execs st X.env) (SP X pins D) X.xe s
def thn {α:Type}{t:Sem α}{Q Q':α->Shared->Prop}{M:Model}{A:Around}{E:Value->Shared->Prop}{s:Shared}(h:wpAny M A t Q E s)(hQ:∀a s,Q a s->Q' a s):wpAny M A t Q' E s:=wpAny_mono h hQ fun _ _ x=>x
section
variable {X:Cx}
def z0d (i:Nat):TE:=fun σ H Q=>∃v,σ[i]?=some (some v)/\Q v H
def tC (v:V):TE:=fun _ H Q=>Q v H
def wq {i:Nat}{x:Str}{pos:Pos}(hN:X.N[i]?=some x)(hv:Vis X.env.scope x)(hd:autoParam ((x==("__debug__":Str))=false) au1._auto_1)(hcd:autoParam ((x==("__classdict__":Str))=false) au1._auto_1):PE X (.Name x pos) (z0d i):=by
 intro pins s σ H Q I h;obtain⟨v,e,h⟩:=h;obtain⟨m,hn,hl⟩:=I.loc;obtain⟨u,r,l⟩:=hl i x v hN e hv;have fin:EP X pins σ Q u s:=⟨v,H,I,r,h⟩
 rcases l with⟨hk,hm⟩|⟨hk,c,hc,hcell⟩
 ·exact wpAny_Name (wpAny_loadName_local I.ok.kind hk hn hm fin) hd
 ·rcases hk with hk|hk
  ·exact wpAny_Name (wpAny_loadName_cell I.ok.kind hk hc hcell fin) hd
  ·exact wpAny_Name (wpAny_loadName_free I.ok.kind hk hc hcell fin hcd) hd
def YH {i j pos}:PE X (.Constant (.int i) j pos) (tC (.int i)):=fun _ _ _ H _ I h=>wpAny_Constant_int ⟨.int i,H,I.tok _,⟨_,rfl⟩,h⟩
def z0g {b j pos}:PE X (.Constant (.bool b) j pos) (tC (.bl b)):=fun _ _ _ H _ I h=>Constant_bool ⟨.bl b,H,I,rfl,h⟩
def z01 {j pos}:PE X (.Constant .none j pos) (tC .non):=fun _ _ _ H _ I h=>Constant_none ⟨.non,H,I,rfl,h⟩
def vi {x j pos}:PE X (.Constant (.str x) j pos) (tC (.str x)):=fun _ _ _ H _ I h=>Calls.Constant_str ⟨.str x,H,I.tok _,⟨_,rfl⟩,h⟩
def Gl (X:Cx)(x:Str):Prop:=X.env.kindOf x=some .globalImplicit
def QN {E:Value->Shared->Prop}{pins:List (Addr×Obj)}{s:Shared}{σ:St}{H:Hp}{x:Str}{u:Value}{pos:Pos}{Q:Value->Shared->Prop}(I:Inv X pins σ H s)(hg:Gl X x)(hm:X.mg x=some u)(h:Q u s)
  (hd:autoParam ((x==("__debug__":Str))=false) au1._auto_1):wpAny (model X.prog X.w) X.A (eval (.Name x pos) X.env) Q E s:=
 Calls.Name_function_global I.ok.kind hg (Calls.loadGlobal_global (by rw[I.ok.glob];exact I.mod.glob.keeps I.bk) hm h) hd
def jk {E:Value->Shared->Prop}{pins:List (Addr×Obj)}{s:Shared}{σ:St}{H:Hp}{x:Str}{u:Value}{pos:Pos}{Q:Value->Shared->Prop}(I:Inv X pins σ H s)(hg:Gl X x)(hm:X.mg x=none)(hv:bootBuiltins x=some u)(h:Q u s)
  (hn:autoParam (x≠"__name__") au1._auto_1) (hd:autoParam ((x==("__debug__":Str))=false) au1._auto_1):wpAny (model X.prog X.w) X.A (eval (.Name x pos) X.env) Q E s:=by
 obtain⟨mb,h1,h2⟩:=I.mod.blt;exact Calls.Name_function_global I.ok.kind hg (Calls.loadGlobal_builtin (by rw[I.ok.glob];exact I.mod.glob.keeps I.bk) hm (by rw[I.ok.blt];exact h1.keeps I.bk) ((h2 x hn).trans hv) h) hd
def vw {x:Str}{v:V}{u:Value}{pos:Pos}(hg:Gl X x)(hm:X.mg x=none)(hv:bootBuiltins x=some u)(r:RelV v u)(hn:autoParam (x≠"__name__") au1._auto_1)(hd:autoParam ((x==("__debug__":Str))=false) au1._auto_1):PE X (.Name x pos) (tC v):=
 fun _ _ _ H _ I h=>jk I hg hm hv ⟨v,H,I,r,h⟩ hn hd
variable {a b:Expr}{ta tb:TE}{pos:Pos}
def tB (t:TE):TT:=fun σ H Q=>t σ H fun x H1=>∃c,x=.bl c/\Q c H1
def JO {e:Expr}{t:TE}(h:PE X e t)(he:autoParam (∀whole,isTrue e X.env whole=(do let v <-whole;standAt e.pos;holding [v] (truthy v))) au2._auto_1):PT X e (tB t):=by
 intro pins s σ H Q I hw;refine isTrue_plain (thn (h pins s σ H _ I hw) fun v s1 ⟨x,H1,I1,r1,q1⟩=>?_) (he _);obtain⟨d,rfl,q⟩:=q1;cases r1;exact wpAny_truthy_bool ⟨H1,I1,q⟩
variable {tA tB':TT}{rest:List Expr}
def z0p (t u:TT):TT:=fun σ H Q=>t σ H fun c H1=>if c=true then u σ H1 Q else Q false H1
def tOr (t u:TT):TT:=fun σ H Q=>t σ H fun c H1=>if c=true then Q true H1 else u σ H1 Q
def z1g (t:TT):TT:=fun σ H Q=>t σ H fun c H1=>Q (!c) H1
def QJ (ha:PT X a tA):PW X (.BoolOp .And [a] pos) tA:=by
 intro wh pins s σ H Q I h;refine isTrue_and (thn (ha pins s σ H Q I h) fun c s1 e=>?_);cases c with
 | true=>exact isTrue_and_nil e
 | false=>exact e
def VP (ha:PT X a tA):PW X (.BoolOp .Or [a] pos) tA:=by
 intro wh pins s σ H Q I h;refine isTrue_or (thn (ha pins s σ H Q I h) fun c s1 e=>?_);cases c with
 | false=>exact isTrue_or_nil e
 | true=>exact e
def z0e (ha:PT X a tA)(hb:PW X (.BoolOp .And (b::rest) pos) tB'):PW X (.BoolOp .And (a::b::rest) pos) (z0p tA tB'):=by
 intro wh pins s σ H Q I h;refine isTrue_and (thn (ha pins s σ H _ I h) fun c s1 ⟨H1,I1,q1⟩=>?_);cases c with
 | true=>exact hb wh pins s1 σ H1 Q I1 q1
 | false=>exact⟨H1,I1,q1⟩
def Jm (ha:PT X a tA)(hb:PW X (.BoolOp .Or (b::rest) pos) tB'):PW X (.BoolOp .Or (a::b::rest) pos) (tOr tA tB'):=by
 intro wh pins s σ H Q I h;refine isTrue_or (thn (ha pins s σ H _ I h) fun c s1 ⟨H1,I1,q1⟩=>?_);cases c with
 | true=>exact⟨H1,I1,q1⟩
 | false=>exact hb wh pins s1 σ H1 Q I1 q1
def z08 (ha:PT X a tA):PT X (.UnaryOp .Not a pos) (z1g tA):=by
 intro pins s σ H Q I h;exact isTrue_not (ha pins s σ H (fun c H1=>Q (!c) H1) I h)
def tIf (t:TT)(ta tb:TE):TE:=fun σ H Q=>t σ H fun c H1=>if c=true then ta σ H1 Q else tb σ H1 Q
def WL {c:Expr}(hc:PT X c tA)(ha:PE X a ta)(hb:PE X b tb):PE X (.IfExp c a b pos) (tIf tA ta tb):=by
 intro pins s σ H Q I h;refine wpAny_IfExp (thn (hc pins s σ H _ I h) fun d s1 ⟨H1,I1,q1⟩=>?_);cases d with
 | true=>exact ha pins s1 σ H1 Q I1 q1
 | false=>exact hb pins s1 σ H1 Q I1 q1
end
def SqL (K:jJa)(H:Hp)(a:Addr)(xs:List V):Prop:=
 Rd H a (.lst xs) \/
  ∃(o:Obj) (its:Array Value) (n:Nat),K.lookup a=some o/\o.cls=.type "list"/\o.dict=none/\o.data=.seq its n/\its.size<=sizeLine/\Vals xs its.toList
def SqT (K:jJa)(H:Hp)(a:Addr)(xs:List V):Prop:=
 Rd H a (.tup xs) \/
  ∃(o:Obj) (its:Array Value) (n:Nat),K.lookup a=some o/\o.cls=.type "tuple"/\(o.dict=none/\o.slots=#[])/\o.data=.seq its n/\its.size<=sizeLine/\Vals xs its.toList
def z1T:Value->Option V
 | .none=>some .non
 | .bool b=>some (.bl b)
 | .int i _=>some (.int i)
 | .str x _=>some (.str x)
 | .bytes b _=>some (.byt b)
 | .float b _=>some (.flt b)
 | .ref a=>some (.ref a)
 | .type n=>some (.ty n)
 | _=>none
theorem RelV.abs {x:V}{u:Value}(r:RelV x u):z1T u=some x:=by
 cases x with
 | non=>cases r;rfl
 | bl _=>cases r;rfl
 | int _=>obtain⟨t,rfl⟩:=r;rfl
 | str _=>obtain⟨t,rfl⟩:=r;rfl
 | byt _=>obtain⟨t,rfl⟩:=r;rfl
 | flt _=>obtain⟨t,rfl⟩:=r;rfl
 | ref _=>cases r;rfl
 | ty _=>cases r;rfl
theorem RelV.inj {x y:V}{u:Value}(r:RelV x u)(q:RelV y u):x=y:=jYe (r.abs.symm.trans q.abs)
theorem Vals.inj:∀ {xs ys:List V} {us:List Value},Vals xs us->Vals ys us->xs=ys
 | _,_,_,.nil,.nil=>rfl
 | _,_,_,.cons r t,.cons r' t'=>by rw[r.inj r',Vals.inj t t']
section
variable {X:Cx}{pins:List (Addr×Obj)}{σ:St}{H:Hp}{s:Shared}{a:Addr}{xs ys:List V}
theorem SqL.of {K:jJa}(h:H a=some (.lst xs)):SqL K H a xs:=.inl (.inl h)
theorem SqT.of {K:jJa}(h:H a=some (.tup xs)):SqT K H a xs:=.inl (.inl h)
theorem Inv.list (I:Inv X pins σ H s)(h:SqL X.K H a xs):∃its:List Value,Vals xs its/\PlainL s.heap a its.toArray/\xs.length<=sizeLine:=by
 rcases h with h|⟨o,its,n,hk,hc,hd,hs,hz,r⟩
 ·obtain⟨z,its,n,r,e⟩:=h.ok I.hok;exact⟨its,r,⟨_,n,e,rfl,rfl,rfl⟩,z⟩
 ·refine⟨its.toList,r,⟨o,n,I.kIn a o hk,hc,hd,by simpa using hs⟩,?_⟩;have e:=r.length;simp only[Array.length_toList]at e;omega
def Inv.tuple (I:Inv X pins σ H s)(h:SqT X.K H a xs):∃its:List Value,Vals xs its/\IsTup s.heap a its.toArray/\xs.length<=sizeLine:=by
 rcases h with h|⟨o,its,n,hk,hc,_,hs,hz,r⟩
 ·obtain⟨z,its,r,p⟩:=h.ok I.hok;exact⟨its,r,p.tup,z⟩
 ·refine⟨its.toList,r,⟨o,I.kIn a o hk,hc,n,by simpa using hs⟩,?_⟩;have e:=r.length;simp only[Array.length_toList]at e;omega
def Inv.list_inj (I:Inv X pins σ H s)(h:SqL X.K H a xs)(h':SqL X.K H a ys):xs=ys:=by
 obtain⟨its,r,⟨o,n,e,_,_,d⟩,_⟩:=I.list h;obtain⟨its',r',⟨o',n',e',_,_,d'⟩,_⟩:=I.list h';rw[e]at e';cases e';rw[d]at d';injection d' with d1 _;have:its=its':=by simpa using congrArg Array.toList d1
 subst this;exact r.inj r'
def Inv.tuple_inj (I:Inv X pins σ H s)(h:SqT X.K H a xs)(h':SqT X.K H a ys):xs=ys:=by
 obtain⟨its,r,⟨o,e,_,n,d⟩,_⟩:=I.tuple h;obtain⟨its',r',⟨o',e',_,n',d'⟩,_⟩:=I.tuple h';rw[e]at e';cases e';rw[d]at d';injection d' with d1 _;have:its=its':=by simpa using congrArg Array.toList d1
 subst this;exact r.inj r'
end
abbrev Cx.wish (X:Cx)(E:Value->Shared->Prop):Cx:={ X with xe:=E }
abbrev Cx.nox (X:Cx):Cx:=X.wish fun _ _=>False
section
variable {X:Cx}{pins:List (Addr×Obj)}{σ:St}{H:Hp}{s:Shared}{E:Value->Shared->Prop}
end
section
variable {X:Cx}{st:Stmt}{rest:List Stmt}{t u:TS}{e:Expr}{te:TE}{pos:Pos}
def J8:TS:=fun D σ H=>D.nx σ H
def z0r (t u:TS):TS:=fun D σ H=>t { D with nx:=u D } σ H
def Up:PSs X [] J8:=fun _ _ σ H _ I h=>wpAny_execs_nil ⟨σ,H,I,h⟩
def Zu (h1:PS X st t)(h2:PSs X rest u):PSs X (st::rest) (z0r t u):=by
 intro pins s σ H D I h;refine wpAny_execs_cons (thn (h1 pins s σ H { D with nx:=u D } I h) fun f s1 q=>?_);cases f with
 | next =>
  obtain⟨σ',H',I',q⟩:=q;exact h2 pins s1 σ' H' D I' q
 | ret v=>exact q
 | brk=>exact q
 | cont=>exact q
def Xx (h1:PS X st t):PSs X [st] t:=by
 intro pins s σ H D I h;refine wpAny_execs_cons (thn (h1 pins s σ H D I h) fun f s1 q=>?_);cases f with
 | next=>exact wpAny_execs_nil q
 | ret v=>exact q
 | brk=>exact q
 | cont=>exact q
def Inv.quiet {pins:List (Addr×Obj)}{σ:St}{H:Hp}{s:Shared}(I:Inv X pins σ H s):interactive X.env=false:=by simp[interactive,I.ok.kind]
def z0W (te:TE):TS:=fun D σ H=>te σ H fun _ H1=>D.nx σ H1
def qq (he:PE X e te)(hs:autoParam (swapsWith e none pos.line X.env=pure false) au3._auto_1):PS X (.Expr e pos) (z0W te):=by
 intro pins s σ H D I h;exact wpAny_Expr_any (thn (he pins s σ H _ I h) fun v s1 ⟨x,H1,I1,r1,q1⟩=>⟨σ,H1,I1,q1⟩) I.quiet hs
def z1e (te:TE):TS:=fun D σ H=>te σ H D.rt
def JM (he:PE X e te):PS X (.Return (some e) pos) (z1e te):=by
 intro pins s σ H D I h;exact wpAny_Return_some (thn (he pins s σ H _ I h) fun v s1 ⟨x,H1,I1,r1,q1⟩=>⟨x,σ,H1,I1,r1,q1⟩)
def z1j (c:TT)(t u:TS):TS:=fun D σ H=>c σ H fun b H1=>if b=true then t D σ H1 else u D σ H1
def JB {c:Expr}{a b:List Stmt}{tc:TT}(hc:PT X c tc)(ha:PSs X a t)(hb:PSs X b u):PS X (.If c a b pos) (z1j tc t u):=by
 intro pins s σ H D I h;refine wpAny_If (thn (hc pins s σ H _ I h) fun d s1 ⟨H1,I1,q1⟩=>?_);cases d with
 | true=>exact ha pins s1 σ H1 D I1 q1
 | false=>exact hb pins s1 σ H1 D I1 q1
end
abbrev TG:=V->St->Hp->(St->Hp->Prop)->Prop
abbrev TGs:=List V->St->Hp->(St->Hp->Prop)->Prop
def PG (X:Cx)(target:Expr)(t:TG):Prop:=
 ∀(pins:List (Addr×Obj)) (s:Shared) (σ:St) (H:Hp) (v:V) (u:Value) (Q:St->Hp->Prop),Inv X pins σ H s->RelV v u->t v σ H Q ->
  wpAny (model X.prog X.w) X.A (assign target X.env u) (fun _ s'=>∃σ' H',Inv X pins σ' H' s'/\Q σ' H') X.xe s
def PGs (X:Cx)(ts:List Expr)(t:TGs):Prop:=
 ∀(pins:List (Addr×Obj)) (s:Shared) (σ:St) (H:Hp) (vs:List V) (us:List Value) (Q:St->Hp->Prop),Inv X pins σ H s->Vals vs us->t vs σ H Q ->
  wpAny (model X.prog X.w) X.A (assignInOrder ((assignEach ts X.env).map (·.2)) us) (fun _ s'=>∃σ' H',Inv X pins σ' H' s'/\Q σ' H') X.xe s
abbrev JN:=V->V->V->Hp->(Hp->Prop)->Prop
def z0U (X:Cx)(t:JN):Prop:=
 ∀(pins:List (Addr×Obj)) (s:Shared) (σ:St) (H:Hp) (o i v:V) (ov iv u:Value) (Q:Hp->Prop),Inv X pins σ H s->RelV o ov->RelV i iv->RelV v u->t o i v H Q ->
  wpAny (model X.prog X.w) X.A (setItem ov iv u) (fun _ s'=>∃H',Inv X pins σ H' s'/\Q H') X.xe s
abbrev TIp:=V->V->Hp->VK->Prop
def PIp (X:Cx)(op:Operator)(t:TIp):Prop:=
 ∀(pins:List (Addr×Obj)) (s:Shared) (σ:St) (H:Hp) (x y:V) (v u:Value) (Q:VK),Inv X pins σ H s->RelV x v->RelV y u->t x y H Q ->
  wpAny (model X.prog X.w) X.A (inplaceOp op v u) (EP X pins σ Q) X.xe s
section
variable {X:Cx}{pos:Pos}
def jr (i:Nat):TG:=fun v σ H Q=>Q (σ.set i (some v)) H
def QK {i:Nat}{x:Str}(hN:X.N.Nodup)(hi:X.N[i]?=some x)(hx:Loc X.env.scope x)(hf:autoParam (X.fn x=true\/X.env.scope.names.lookup x=some .local) au0._auto_1):PG X (.Name x pos) (jr i):=by
 intro pins s σ H v u Q I r h;exact wpAny_assign_Name (j4 I hN hi hx r (fun s' I'=>⟨_,H,I',h⟩) hf)
def z1l:TGs:=fun vs σ H Q=>vs=[]/\Q σ H
def z0N (t:TG)(u:TGs):TGs:=fun vs σ H Q=>∃v r,vs=v::r/\t v σ H fun σ' H'=>u r σ' H' Q
def UE:PGs X [] z1l:=by
 intro pins s σ H vs us Q I r h;obtain⟨e,h⟩:=h;subst e;cases r;exact assignInOrder_nil ⟨σ,H,I,h⟩
def U8 {e:Expr}{es:List Expr}{t:TG}{u:TGs}(h1:PG X e t)(h2:PGs X es u)
  (hs:autoParam ((assignEach (e::es) X.env).map (·.2)=assign e X.env::(assignEach es X.env).map (·.2)) au3._auto_1):PGs X (e::es) (z0N t u):=by
 intro pins s σ H vs us Q I r h;obtain⟨v,vr,e1,h⟩:=h;subst e1;cases r with
 | cons r rr =>
  rw[hs];refine assignInOrder_cons (thn (h1 pins s σ H _ _ _ I r h) fun _ s1 ⟨σ1,H1,I1,q1⟩=>?_);exact h2 pins s1 σ1 H1 _ _ Q I1 rr q1
def z19 (K:jJa)(n:Nat)(t:TGs):TG:=fun v σ H Q=>∃a xs,v=.ref a/\SqT K H a xs/\xs.length=n/\t xs σ H Q
def K2 {es:List Expr}{k:Nat}{t:TGs}{n:Nat}(hc:X.calm=true)(h:PGs X es t)
  (hn:autoParam ((assignEach es X.env).length=n) au3._auto_1) (hst:autoParam ((assignEach es X.env).findIdx? (·.1)=none) au3._auto_1):PG X (.Tuple es k pos) (z19 X.K n t):=by
 intro pins s σ H v u Q I r hw;obtain⟨a,xs,e1,hq,hl,hw⟩:=hw;subst e1;cases r;obtain⟨its,rv,ht,hz⟩:=I.tuple hq;refine assign_Tuple_tuple (I.ok.hd hc) ht (by simp[hn,<-hl,rv.length]) hst fun h' hx=>?_;have I1:Inv X pins σ H { s with heap:=h' }:=I.kept (t':=s.toks) fun b o e=>hx b o (sX (jYc e)) e;exact h pins _ σ H xs _ Q I1 (by simpa using rv) hw
def z1J (to ti:TE)(t:JN):TG:=fun v σ H Q=>to σ H fun o H1=>ti σ H1 fun i H2=>t o i v H2 fun H3=>Q σ H3
def KH {o i:Expr}{to ti:TE}{t:JN}(ho:PE X o to)(hi:PE X i ti)(hs:z0U X t)
  (ha:autoParam (∀v,assign (.Subscript o i pos) X.env v=(do
   let ov <-holding [v] (eval o X.env)
   let iv <-holding [v,ov] (eval i X.env)
   standAt pos
   holding [v,ov,iv] (setItem ov iv v)
   release [v,ov,iv] [])) au2._auto_1):PG X (.Subscript o i pos) (z1J to ti t):=by
 intro pins s σ H v u Q I r h;rw[ha];refine wpAny_bind (wpAny_holding (thn (ho pins s σ H _ I h) fun ov s1 ⟨x,H1,I1,r1,q1⟩=>?_));refine wpAny_bind (wpAny_holding (thn (hi pins s1 σ H1 _ I1 q1) fun iv s2 ⟨y,H2,I2,r2,q2⟩=>?_));refine wpAny_bind (wpAny_standAt (wpAny_bind (wpAny_holding (thn (hs pins s2 σ H2 x y v ov iv u _ I2 r1 r2 r q2) fun _ s3 ⟨H3,I3,q3⟩=>?_))));exact wpAny_release ⟨σ,H3,I3,q3⟩
def z0K (te:TE)(g:TG):TS:=fun D σ H=>te σ H fun x H1=>g x σ H1 D.nx
def U3 {tg e:Expr}{te:TE}{g:TG}(he:PE X e te)(hg:PG X tg g)(hs:autoParam (swapsWithSole [tg] e pos.line X.env=pure false) au3._auto_1)(hw:autoParam (swappedStores [tg] e X.env=pure none) au3._auto_1)
  (h1:autoParam ((assignEach [tg] X.env).map (·.2)=[assign tg X.env]) au3._auto_1):PS X (.Assign [tg] e pos) (z0K te g):=by
 intro pins s σ H D I h;refine wpAny_Assign_stores (thn (he pins s σ H _ I h) fun v s1 ⟨x,H1,I1,r1,q1⟩=>?_) hs hw;rw[h1];exact thn (hg pins s1 σ H1 x v _ I1 r1 q1) fun _ s2 q=>q
def Uh {i:Nat}{x:Str}{e:Expr}{te:TE}{pos':Pos}(hN:X.N.Nodup)(hi:X.N[i]?=some x)(hx:Loc X.env.scope x)(he:PE X e te)(hs:autoParam (swapsWith e (some (.Name x pos')) pos.line X.env=pure false) au3._auto_1)(hf:autoParam (X.fn x=true\/X.env.scope.names.lookup x=some .local) au0._auto_1):
  PS X (.Assign [.Name x pos'] e pos) (z0K te (jr i)):=by
 intro pins s σ H D I h;refine wpAny_Assign_Name (thn (he pins s σ H _ I h) fun v s1 ⟨y,H1,I1,r1,q1⟩=>?_) hs;exact j4 I1 hN hi hx r1 (fun s2 I2=>⟨_,H1,I2,q1⟩) hf
def z22 (i:Nat)(te:TE)(ti:TIp):TS:=fun D σ H=>∃x,σ[i]?=some (some x)/\te σ H fun y H1=>ti x y H1 fun z H2=>D.nx (σ.set i (some z)) H2
def KL {i:Nat}{x:Str}{e:Expr}{te:TE}{op:Operator}{ti:TIp}{pos':Pos}(hN:X.N.Nodup)(hi:X.N[i]?=some x)(hx:Loc X.env.scope x)(he:PE X e te)(ho:PIp X op ti)(hf:autoParam (X.fn x=true\/X.env.scope.names.lookup x=some .local) au0._auto_1):
  PS X (.AugAssign (.Name x pos') op e pos) (z22 i te ti):=by
 intro pins s σ H D I h;obtain⟨v,e1,h⟩:=h;obtain⟨m,hn,hl⟩:=I.loc;have vis:Vis X.env.scope x:=by rcases hx with k|k;exact .inl k;exact .inr (.inl k)
 obtain⟨u,r,l⟩:=hl i x v hi e1 vis;refine wpAny_AugAssign_Name ?_;have go:wpAny (model X.prog X.w) X.A (eval e X.env) (fun w s₂=>wpAny (model X.prog X.w) X.A (inplaceOp op u w) (fun r s₃=>wpAny (model X.prog X.w) X.A (storeName X.env x r) (fun _=>SP X pins D .next) X.xe s₃) X.xe s₂) X.xe s:=by
  refine thn (he pins s σ H _ I h) fun w s1 ⟨y,H1,I1,r1,q1⟩=>?_;refine thn (ho pins s1 σ H1 v y u w _ I1 r r1 q1) fun z s2 ⟨zv,H2,I2,r2,q2⟩=>?_;exact j4 I2 hN hi hx r2 (fun s3 I3=>⟨_,H2,I3,q2⟩) hf
 rcases l with⟨hk,hm⟩|⟨hk,c,hc,hcell⟩
 ·exact wpAny_loadName_local I.ok.kind hk hn hm go
 ·rcases hk with hk|hk
  ·exact wpAny_loadName_cell I.ok.kind hk hc hcell go
  ·rcases hx with k|k
   ·have:X.env.scope.names.lookup x=some .free:=hk;rw[k]at this;cases this
   ·have:X.env.scope.names.lookup x=some .free:=hk;rw[k]at this;cases this
def ipI (f:Int->Int->Int):TIp:=fun x y H Q=>∃i j,x=.int i/\y=.int j/\Q (.int (f i j)) H
def Kl:PIp X .Add (ipI fun i j=>i+j):=by
 intro pins s σ H x y v u Q I r1 r2 h;obtain⟨i,j,e1,e2,q⟩:=h;subst e1;subst e2;obtain⟨t,rfl⟩:=r1;obtain⟨t',rfl⟩:=r2;exact iadd_int ⟨.int _,H,I.tok _,⟨_,rfl⟩,q⟩
end
section
variable {X:Cx}{pos:Pos}
def z0f (c:TT)(tb:TS):TS:=fun D σ H=>∃W:Nat->St->Hp->Prop,(∃m,W m σ H)/\∀m σ H,W m σ H ->
 c σ H fun b H1=>if b=true then ∃N:St->Hp->Prop,(∀σ' H',N σ' H'->∃m',m'<m/\W m' σ' H')/\tb { D with nx:=N,ct:=N,bk:=D.nx } σ H1 else D.nx σ H1
def U2 {c:Expr}{body:List Stmt}{tc:TT}{tb:TS}(hp:PassesOwn (model X.prog X.w) X.A X.env X.xe)(hc:PT X c tc)(hb:PSs X body tb):PS X (.While c body [] pos) (z0f tc tb):=by
 intro pins s σ H D I h;obtain⟨W,⟨m0,w0⟩,turn⟩:=h;refine wpAny_While (codeAny_whileLoop (fun n s'=>∃σ' H',Inv X pins σ' H' s'/\W n σ' H') ?_ m0 ⟨σ,H,I,w0⟩);rintro n s1 ⟨σ1,H1,I1,w1⟩;refine wpAny_passesOwn hp (thn (hc pins s1 σ1 H1 _ I1 (turn n σ1 H1 w1)) fun b s2 ⟨H2,I2,q2⟩=>?_);cases b with
 | true =>
  obtain⟨N,hN,q2⟩:=q2;rw[if_pos rfl];refine wpAny_passesOwn hp (thn (hb pins s2 σ1 H2 _ I2 q2) fun f s3 q3=>?_);cases f with
  | next =>
   obtain⟨σ3,H3,I3,n3⟩:=q3;obtain⟨m',hm,w3⟩:=hN σ3 H3 n3;exact⟨m',hm,σ3,H3,I3,w3⟩
  | cont =>
   obtain⟨σ3,H3,I3,n3⟩:=q3;obtain⟨m',hm,w3⟩:=hN σ3 H3 n3;exact⟨m',hm,σ3,H3,I3,w3⟩
  | brk=>exact q3
  | ret v=>exact q3
 | false =>
  rw[if_neg tH];exact wpAny_execs_nil ⟨σ1,H2,I2,q2⟩
end
structure It where
 go:Nat->Hp->Prop
 yld:Nat->Hp->V->Hp->Prop
 stop:Nat->Hp->Prop
def qf (X:Cx)(pins:List (Addr×Obj))(H:Hp)(b:Addr):Prop:=
 H b=none/\b≠X.env.locals/\b∉X.fs/\(b∈X.ex\/X.s₀.heap.objs.size<=b)/\(∀x c,X.env.cells.lookup x=some c->c≠b)/\∀p∈X.pn++pins,p.1≠b
theorem Inv.fpOk {X:Cx}{pins:List (Addr×Obj)}{σ:St}{H H':Hp}{s:Shared}{b:Addr}(I:Inv X pins σ H s)(hb:s.heap.objs.size<=b)(hn:H' b=none):qf X pins H' b:=by
 refine⟨hn,Nat.ne_of_gt (sN I.lt hb),I.nofs hb,.inr (rJ I.sz hb),fun x c e z=>?_,fun p hp z=>?_⟩
 ·obtain⟨v,q⟩:=I.cell x c e;exact absurd (sN q.lt (by rw[z];exact hb)) (pF _)
 ·exact absurd (sN (jYc (I.pin p hp).1) (by rw[z];exact hb)) (pF _)
structure Turn (P:Program)(w:World)(K:jJa)(tg:Expr)(J:It)(fp:List Addr)(it:Addr)(tn:Nat->Heap->Prop):Prop where
 mem:it∈fp
 obj:∀i h,tn i h->∀b∈fp,∃o,h.get? b=some o/\∀v,o.data≠.cell v
 keep:∀i h h',tn i h->(∀b∈fp,∀o,h.get? b=some o->h'.get? b=some o)->tn i h'
 item:∀(X:Cx),X.prog=P->X.w=w->X.K=K->X.calm=true->∀(i:Nat) (pins:List (Addr×Obj)) (s:Shared) (σ:St) (H:Hp) (E:Value->Shared->Prop),Inv X pins σ H s->(∀b∈fp,qf X pins H b)->tn i s.heap->J.go i H ->
  wpAny (model P w) X.A (pyNext (.ref it)) (fun r s1=>∃u,r=some u /\
   wpAny (model P w) X.A (letOwnedTupleGo tg (.ref it) u) (fun _ s2=>∃x H',Inv X pins σ H' s2/\RelV x u/\J.yld i H x H'/\tn (i+1) s2.heap/\∀b∈fp,H' b=none) E s1) E s
 done:∀(X:Cx),X.prog=P->X.w=w->X.K=K->X.calm=true->∀(i:Nat) (pins:List (Addr×Obj)) (s:Shared) (σ:St) (H:Hp) (E:Value->Shared->Prop),Inv X pins σ H s->(∀b∈fp,qf X pins H b)->tn i s.heap->J.stop i H ->
  wpAny (model P w) X.A (pyNext (.ref it)) (fun r s1=>r=none/\Inv X pins σ H s1) E s
 self:∀(A:Around) (i:Nat) (s:Shared) (Q:Value->Shared->Prop) (E:Value->Shared->Prop),tn i s.heap->Q (.ref it) s->wpAny (model P w) A (pyIter (.ref it)) Q E s
abbrev TI:=St->Hp->(It->Hp->Prop)->Prop
def PIE (X:Cx)(pins:List (Addr×Obj))(σ:St)(tg:Expr)(R:It->Hp->Prop)(itv:Value)(s2:Shared):Prop:=
 ∃(it:Addr) (fp:List Addr) (tn:Nat->Heap->Prop) (J:It) (H':Hp),itv=.ref it/\Inv X pins σ H' s2/\Turn X.prog X.w X.K tg J fp it tn/\tn 0 s2.heap/\(∀b∈fp,qf X pins H' b)/\R J H'
def PI (X:Cx)(tg iter:Expr)(wi:TI):Prop:=
 ∀(pins:List (Addr×Obj)) (s:Shared) (σ:St) (H:Hp) (R:It->Hp->Prop),Inv X pins σ H s->wi σ H R ->
  wpAny (model X.prog X.w) X.A (eval iter X.env) (fun v s1=>wpAny (model X.prog X.w) X.A (pyIter v) (PIE X pins σ tg R) X.xe s1) X.xe s
def Zo {M:Model}{A:Around}{E:Value->Shared->Prop}{s:Shared}{tg:Expr}{it:Addr}{u:Value}{o:Obj}{n:String}{vs:Array Value}{Q:Unit->Shared->Prop}(ho:s.heap.get? it=some o)(hc:o.cls=.type n)(hd:o.data=.fields vs)
  (hn:["enumerate","zip","dict_itemiterator","dict_reverseitemiterator","odict_iterator","itertools.zip_longest","itertools.pairwise"].contains n=false) (hQ:Q () s):wpAny M A (letOwnedTupleGo tg (.ref it) u) Q E s:=by
 unfold letOwnedTupleGo;cases tg<;>first
  | exact wpAny_pure hQ
  | (cases u<;>first
    | exact wpAny_pure hQ
    | (refine wpAny_bind (wpAny_load ho ?_);rw[hc,hd];show wpAny M A (if (["enumerate","zip","dict_itemiterator","dict_reverseitemiterator","odict_iterator","itertools.zip_longest","itertools.pairwise"].contains n&&vs[0]?==some (rawInt _))=true then _ else _) Q E s;rw[if_neg (by intro h;rw[hn,Bool.false_and]at h;cases h)];exact wpAny_pure hQ))
def Itl (K:jJa)(a:Addr):It:=
 ⟨fun i H=>∃xs x,SqL K H a xs/\xs[i]?=some x,fun i H x H'=>H'=H/\∀xs,SqL K H a xs->xs[i]?=some x,fun i H=>∃xs,SqL K H a xs/\xs.length<=i⟩
def Itt (K:jJa)(a:Addr):It:=
 ⟨fun i H=>∃xs x,SqT K H a xs/\xs[i]?=some x,fun i H x H'=>H'=H/\∀xs,SqT K H a xs->xs[i]?=some x,fun i H=>∃xs,SqT K H a xs/\xs.length<=i⟩
def Itr (lo:Int)(n:Nat):It:=⟨fun i _=>i<n,fun i H x H'=>H'=H/\x=.int (lo+i),fun i _=>n<=i⟩
def XY {P:Program}{w:World}{K:jJa}{tg:Expr}(a it:Addr):Turn P w K tg (Itl K a) [it] it (fun i h=>h.IsListIter it a i) where
 mem:=by simp
 obj:=fun i h st b hb=>by
  have e:b=it:=by simpa using hb
  subst e;obtain⟨o,e,c,d⟩:=st;exact⟨o,e,fun v z=>by rw[d]at z;cases z⟩
 keep:=fun i h h' st k=>st.at fun o e=>k it (by simp) o e
 item:=by
  intro X hP hw hK hc i pins s σ H E I hf st hg;subst hP hw hK;obtain⟨xs,x,hq,hx⟩:=hg;obtain⟨its,rv,p,hz⟩:=I.list hq;obtain⟨u,hu,ru⟩:=rv.get hx;obtain⟨f0,f1,f2,f3,f4,f5⟩:=hf it (by simp);refine wpAny_pyNext_list_item st p.isList (x:=u) (by simpa using hu) fun h' st' sb=>?_;have I1:Inv X pins σ H { s with heap:=h' }:=I.turned (t':=s.toks) (fun b o hb e=>(sb.2 b hb).trans e) f0 f1 f3 f4 f5;obtain⟨o,e,c,d⟩:=id st';exact⟨u,rfl,Zo (s:={ s with heap:=h' }) e c d (by decide) ⟨x,H,I1,ru,⟨rfl,fun ys hy=>by rw[I.list_inj hy hq];exact hx⟩,st',fun b hb=>(hf b hb).1⟩⟩
 done:=by
  intro X hP hw hK hc i pins s σ H E I hf st hg;subst hP hw hK;obtain⟨xs,hq,hx⟩:=hg;obtain⟨its,rv,p,hz⟩:=I.list hq;obtain⟨f0,f1,f2,f3,f4,f5⟩:=hf it (by simp);have hl:=rv.length;exact wpAny_pyNext_list_end (I.ok.hd hc) st p.isList (by simp;omega) fun h' eb=>⟨rfl,I.turned (t':=s.toks) (fun b o hb e=>eb b o hb e) f0 f1 f3 f4 f5⟩
 self:=fun _ _ _ _ _ st h=>wpAny_pyIter_listiter st h
def Yk {P:Program}{w:World}{K:jJa}{tg:Expr}(a it:Addr):Turn P w K tg (Itt K a) [it] it (fun i h=>h.IsTupleIter it a i) where
 mem:=by simp
 obj:=fun i h st b hb=>by
  have e:b=it:=by simpa using hb
  subst e;obtain⟨o,e,c,d⟩:=st;exact⟨o,e,fun v z=>by rw[d]at z;cases z⟩
 keep:=fun i h h' st k=>st.at fun o e=>k it (by simp) o e
 item:=by
  intro X hP hw hK hc i pins s σ H E I hf st hg;subst hP hw hK;obtain⟨xs,x,hq,hx⟩:=hg;obtain⟨its,rv,p,hz⟩:=I.tuple hq;obtain⟨u,hu,ru⟩:=rv.get hx;obtain⟨f0,f1,f2,f3,f4,f5⟩:=hf it (by simp);refine wpAny_pyNext_tuple_item st (show s.heap.IsTuple a its.toArray from p) (x:=u) (by simpa using hu) fun h' st' sb=>?_;have I1:Inv X pins σ H { s with heap:=h' }:=I.turned (t':=s.toks) (fun b o hb e=>(sb.2 b hb).trans e) f0 f1 f3 f4 f5;obtain⟨o,e,c,d⟩:=id st';exact⟨u,rfl,Zo (s:={ s with heap:=h' }) e c d (by decide) ⟨x,H,I1,ru,⟨rfl,fun ys hy=>by rw[I.tuple_inj hy hq];exact hx⟩,st',fun b hb=>(hf b hb).1⟩⟩
 done:=by
  intro X hP hw hK hc i pins s σ H E I hf st hg;subst hP hw hK;obtain⟨xs,hq,hx⟩:=hg;obtain⟨its,rv,p,hz⟩:=I.tuple hq;obtain⟨f0,f1,f2,f3,f4,f5⟩:=hf it (by simp);have hl:=rv.length;exact wpAny_pyNext_tuple_end (I.ok.hd hc) st (show s.heap.IsTuple a its.toArray from p) (by simp;omega) fun h' eb=>⟨rfl,I.turned (t':=s.toks) (fun b o hb e=>eb b o hb e) f0 f1 f3 f4 f5⟩
 self:=fun _ _ _ _ _ st h=>wpAny_pyIter_tupleiter st h
def YU {P:Program}{w:World}{K:jJa}{tg:Expr}(it:Addr)(lo:Int)(n:Nat):Turn P w K tg (Itr lo n) [it] it (fun i h=>IsRangeIter h it (lo+(i:Nat)*1) ((n:Int)-(i:Nat)) 1) where
 mem:=by simp
 obj:=fun i h st b hb=>by
  have e:b=it:=by simpa using hb
  subst e;exact⟨_,st,fun v z=>by
   have z':Data.fields _=Data.cell v:=z;cases z'⟩
 keep:=fun i h h' st k=>k it (by simp) _ st
 item:=by
  intro X hP hw hK hc i pins s σ H E I hf st hg;subst hP hw hK;obtain⟨f0,f1,f2,f3,f4,f5⟩:=hf it (by simp);have W:=Walks.range (prog:=X.prog) (w:=X.w) (I.ok.hd hc) it lo 1 n;refine W.item i s _ _ hg st fun v h' tk hv st' kk=>?_;obtain⟨t,rfl⟩:=hv;have I1:Inv X pins σ H { s with heap:=h',toks:=tk }:=I.turned (fun b o hb e=>kk b o (by simpa using hb) e) f0 f1 f3 f4 f5;refine⟨_,rfl,Zo (s:={ s with heap:=h',toks:=tk }) (n:="range_iterator") st' rfl rfl (by decide) ⟨.int (lo+i),H,I1,⟨t,?_⟩,⟨rfl,rfl⟩,st',fun b hb=>(hf b hb).1⟩⟩;rw[Int.mul_one]
 done:=by
  intro X hP hw hK hc i pins s σ H E I hf st hg;subst hP hw hK;obtain⟨f0,f1,f2,f3,f4,f5⟩:=hf it (by simp);exact wpAny_pyNext_range_end (I.ok.hd hc) st (by have:n<=i:=hg;omega) fun h' eb=>⟨rfl,I.turned (t':=s.toks) (fun b o hb e=>eb b o hb e) f0 f1 f3 f4 f5⟩
 self:=fun _ _ _ _ _ st h=>wpAny_pyIter_rangeiter st h
section
variable {X:Cx}{tg:Expr}
def U1 (K:jJa)(tl:TE):TI:=fun σ H R=>tl σ H fun x H1=>∃a,x=.ref a/\(∃xs,SqL K H1 a xs)/\R (Itl K a) H1
def z0m (K:jJa)(tl:TE):TI:=fun σ H R=>tl σ H fun x H1=>∃a,x=.ref a/\(∃xs,SqT K H1 a xs)/\R (Itt K a) H1
def Z4 {l:Expr}{tl:TE}(hl:PE X l tl):PI X tg l (U1 X.K tl):=by
 intro pins s σ H R I h;refine thn (hl pins s σ H _ I h) fun v s1 ⟨x,H1,I1,r1,q1⟩=>?_;obtain⟨a,e,⟨xs,hq⟩,q⟩:=q1;subst e;cases r1;obtain⟨its,rv,p,hz⟩:=I1.list hq;refine wpAny_pyIter_list p.isList ?_;refine⟨s1.heap.objs.size,[s1.heap.objs.size],_,_,H1,rfl,I1.kept (t':=s1.toks) fun b o e=>jYb _ e,XY a _,⟨_,jYd _ rfl,rfl,rfl⟩,fun b hb=>?_,q⟩;have e:b=s1.heap.objs.size:=by simpa using hb
 subst e;exact I1.fpOk (tM _) (I1.hok.fresh (tM _))
def z00 {l:Expr}{tl:TE}(hl:PE X l tl):PI X tg l (z0m X.K tl):=by
 intro pins s σ H R I h;refine thn (hl pins s σ H _ I h) fun v s1 ⟨x,H1,I1,r1,q1⟩=>?_;obtain⟨a,e,⟨xs,hq⟩,q⟩:=q1;subst e;cases r1;obtain⟨its,rv,p,hz⟩:=I1.tuple hq;refine wpAny_pyIter_tuple (show s1.heap.IsTuple a its.toArray from p) ?_;refine⟨s1.heap.objs.size,[s1.heap.objs.size],_,_,H1,rfl,I1.kept (t':=s1.toks) fun b o e=>jYb _ e,Yk a _,⟨_,jYd _ rfl,rfl,rfl⟩,fun b hb=>?_,q⟩;have e:b=s1.heap.objs.size:=by simpa using hb
 subst e;exact I1.fpOk (tM _) (I1.hok.fresh (tM _))
def ZQ {pins:List (Addr×Obj)}{σ:St}{H:Hp}{s:Shared}{R:It->Hp->Prop}{E:Value->Shared->Prop}{lo hi:Int}{t u v:Tok}{tk:Nat}(I:Inv X pins σ H s)(h1:-(2 ^ 62)<=lo)(h2:lo<2 ^ 62)(h3:-(2 ^ 62)<=hi)(h4:hi<2 ^ 62)
  (q:R (Itr lo (hi-lo).toNat) H):wpAny (model X.prog X.w) X.A (pyIter (.ref s.heap.objs.size)) (PIE X pins σ tg R) E { s with heap:=s.heap.push { cls:=.type "range",data:=.fields #[.int lo t,.int hi u,.int 1 v] },toks:=tk }:=by
 refine wpAny_pyIter_range (IsRange.new ..) (small_one h1 h2 h3 h4) ?_;have I1:Inv X pins σ H { s with heap:=s.heap.push { cls:=.type "range",data:=.fields #[.int lo t,.int hi u,.int 1 v] },toks:=tk }:=I.kept fun b o e=>jYb _ e;refine⟨(s.heap.push { cls:=.type "range",data:=.fields #[.int lo t,.int hi u,.int 1 v] }).objs.size,[(s.heap.push { cls:=.type "range",data:=.fields #[.int lo t,.int hi u,.int 1 v] }).objs.size],_,_,H,rfl,
  I1.kept (t':=tk) fun b o e=>jYb _ e,YU _ lo (hi-lo).toNat,?_,fun b hb=>?_,q⟩
 ·have e1:lo+((0:Nat):Int)*1=lo:=by simp
  have e2:(((hi-lo).toNat:Nat):Int)-((0:Nat):Int)=Builtin.Range.rangeSize lo hi 1:=by rw[rangeSize_one];split<;>omega
  show IsRangeIter _ _ (lo+((0:Nat):Int)*1) ((((hi-lo).toNat:Nat):Int)-((0:Nat):Int)) 1;rw[e1,e2];exact jYd _ rfl
 ·have e:b=(s.heap.push { cls:=.type "range",data:=.fields #[.int lo t,.int hi u,.int 1 v] }).objs.size:=by simpa using hb
  subst e;exact I1.fpOk (tM _) (I1.hok.fresh (tM _))
def z0L (ta:TA):TI:=fun σ H R=>ta σ H fun vs H1=>∃j:Int,vs=[.int j]/\-(2 ^ 62)<=j/\j<2 ^ 62/\R (Itr 0 j.toNat) H1
def z1A (ta:TA):TI:=fun σ H R=>ta σ H fun vs H1=>∃i j:Int,vs=[.int i,.int j]/\(-(2 ^ 62)<=i/\i<2 ^ 62/\-(2 ^ 62)<=j/\j<2 ^ 62)/\R (Itr i (j-i).toNat) H1
def WC {a:Expr}{ta:TA}{p pos:Pos}(hg:Gl X "range")(hm:X.mg "range"=none)(ha:PA X [a] ta)(hs:autoParam (starEach [a] X.env=[(false,eval a X.env)]) au3._auto_1):PI X tg (.Call (.Name "range" p) [a] [] pos) (z0L ta):=by
 intro pins s σ H R I h;refine Call_ (jk I hg hm boot_range (PyProof.Rows.callWith_type1 (thn (ha pos pins s σ H _ I h) fun us s1 ⟨vs,H1,I1,r1,q1⟩=>?_) hs rfl));obtain⟨j,e,q1,q2,q⟩:=q1;subst e;cases r1 with
 | cons r rr =>
  cases rr;obtain⟨t,rfl⟩:=r;exact call_range_1 (ZQ I1 (by omega) (by omega) q1 q2 (by simpa using q))
def XX {a b:Expr}{ta:TA}{p pos:Pos}(hg:Gl X "range")(hm:X.mg "range"=none)(ha:PA X [a,b] ta)(hs:autoParam (starEach [a,b] X.env=[(false,eval a X.env),(false,eval b X.env)]) au3._auto_1)(hs2:autoParam (starEach [b] X.env=[(false,eval b X.env)]) au3._auto_1):
  PI X tg (.Call (.Name "range" p) [a,b] [] pos) (z1A ta):=by
 intro pins s σ H R I h;refine Call_ (jk I hg hm boot_range (PyProof.Rows.callWith_type1 (thn (ha pos pins s σ H _ I h) fun us s1 ⟨vs,H1,I1,r1,q1⟩=>?_) (by rw[hs,hs2]) (by rw[hs2];rfl)));obtain⟨i,j,e,⟨q1,q2,q3,q4⟩,q⟩:=q1;subst e;cases r1 with
 | cons r rr =>
  cases rr with
  | cons r' rr =>
   cases rr;obtain⟨t,rfl⟩:=r;obtain⟨t',rfl⟩:=r';exact call_range_2 (ZQ I1 q1 q2 q3 q4 q)
def z0J (wi:TI)(g:TG)(tb:TS):TS:=fun D σ H=>wi σ H fun J H1=>∃W:Nat->Nat->St->Hp->Prop,(∃m,W 0 m σ H1)/\∀i m σ H,W i m σ H ->
 (J.stop i H/\D.nx σ H)\/(J.go i H/\∃N:St->Hp->Prop,(∀σ' H',N σ' H'->∃m',m'<m/\W (i+1) m' σ' H')/\∀x H',J.yld i H x H'->g x σ H' fun σ2 H2=>tb { D with nx:=N,ct:=N,bk:=D.nx } σ2 H2)
def qQ (fp:List Addr)(h:Heap):List (Addr×Obj):=fp.filterMap fun b=>(h.get? b).map fun o=>(b,o)
def wK {fp:List Addr}{h:Heap}{b:Addr}{o:Obj}(hb:b∈fp)(e:h.get? b=some o):(b,o)∈qQ fp h:=List.mem_filterMap.mpr ⟨b,hb,by rw[e];rfl⟩
def Wi {fp:List Addr}{h:Heap}{p:Addr×Obj}(hp:p∈qQ fp h):p.1∈fp/\h.get? p.1=some p.2:=by
 obtain⟨b,hb,e⟩:=List.mem_filterMap.mp hp;cases q:h.get? b with
 | none=>rw[q]at e;cases e
 | some o =>
  rw[q]at e;have e':(b,o)=p:=jYe e;subst e';exact⟨hb,q⟩
def Inv.pinned {pins:List (Addr×Obj)}{σ:St}{H:Hp}{s:Shared}{fp:List Addr}(I:Inv X pins σ H s)(hf:∀b∈fp,qf X pins H b)(ho:∀b∈fp,∃o,s.heap.get? b=some o/\∀v,o.data≠.cell v):Inv X (pins++qQ fp s.heap) σ H s:=
 I.pins_of fun p hp=>(tW.mp hp).elim (fun z=>I.pin p (tN _ z)) fun z=>by
  obtain⟨hb,e⟩:=Wi z;obtain⟨f0,f1,f2,_⟩:=hf p.1 hb;obtain⟨o,e',d⟩:=ho p.1 hb;rw[e]at e';cases e';exact⟨e,f0,f1,f2,d⟩
def Inv.unpinned {pins pl:List (Addr×Obj)}{σ:St}{H:Hp}{s:Shared}(I:Inv X (pins++pl) σ H s):Inv X pins σ H s:=I.pins_of fun p hp=>I.pin p (tN _ (tX _ hp))
def Vj {iter:Expr}{body:List Stmt}{wi:TI}{g:TG}{tb:TS}{pos:Pos}(hp:PassesOwn (model X.prog X.w) X.A X.env X.xe)(hc:X.calm=true)(hi:PI X tg iter wi)(hg:PG X tg g)(hb:PSs X body tb)
  (hs:autoParam (∀x,foldedSetIterable iter X.env x=pure x) au2._auto_1):PS X (.For tg iter body [] pos) (z0J wi g tb):=by
 intro pins s σ H D I h;refine wpAny_For (thn (hi pins s σ H _ I h) fun v s1 h1=>thn h1 fun itv s2 h2=>?_) hs;obtain⟨it,fp,tn,J,H2,e,I2,T,st2,f2,W,⟨m0,w0⟩,turn⟩:=h2;subst e;have stat:∀ {H':Hp},(∀b∈fp,H' b=none)->∀b∈fp,qf X pins H' b:=fun hn b hb=>⟨hn b hb,(f2 b hb).2⟩
 refine codeAny_forLoop_any (fun n s'=>∃i σ' H',Inv X pins σ' H' s'/\tn i s'.heap/\(∀b∈fp,H' b=none)/\W i n σ' H') ?_ m0 ⟨0,σ,H2,I2,st2,fun b hb=>(f2 b hb).1,w0⟩;rintro n s3 ⟨i,σ3,H3,I3,st3,fr3,w3⟩;rcases turn i n σ3 H3 w3 with⟨stop,qn⟩|⟨go,N,hN,step⟩
 ·refine wpAny_passesOwn hp (thn (T.done X rfl rfl rfl hc i pins s3 σ3 H3 X.xe I3 (stat fr3) st3 stop) fun r s4 ⟨hr,I4⟩=>?_);subst hr;exact wpAny_execs_nil ⟨σ3,H3,I4,qn⟩
 ·refine wpAny_passesOwn hp (thn (T.item X rfl rfl rfl hc i pins s3 σ3 H3 X.xe I3 (stat fr3) st3 go) fun r s4 ⟨u,hr,h4⟩=>?_);subst hr;refine wpAny_passesOwn hp (thn h4 fun _ s5 ⟨x,H5,I5,r5,y5,st5,fr5⟩=>?_);have I5':=I5.pinned (stat fr5) (T.obj _ _ st5);refine wpAny_passesOwn hp (thn (hg _ s5 σ3 H5 x u _ I5' r5 (step x H5 y5)) fun _ s6 ⟨σ6,H6,I6,q6⟩=>?_);refine wpAny_passesOwn hp (thn (hb _ s6 σ6 H6 _ I6 q6) fun f s7 q7=>?_);have again:∀ {σ7:St} {H7:Hp},Inv X (pins++qQ fp s5.heap) σ7 H7 s7->N σ7 H7->∃m,m<n/\∃i σ' H',Inv X pins σ' H' s7/\tn i s7.heap/\(∀b∈fp,H' b=none)/\W i m σ' H':=fun {σ7 H7} I7 n7=>by
   obtain⟨m',hm,w7⟩:=hN σ7 H7 n7;refine⟨m',hm,i+1,σ7,H7,I7.unpinned,T.keep _ _ _ st5 fun b hb o e=>(I7.pin (b,o) (tN _ (tN _ (wK hb e)))).1,fun b hb=>?_,w7⟩;obtain⟨o,e,d⟩:=T.obj _ _ st5 b hb;exact (I7.pin (b,o) (tN _ (tN _ (wK hb e)))).2.1
  cases f with
  | next=>obtain⟨σ7,H7,I7,n7⟩:=q7;exact again I7 n7
  | cont=>obtain⟨σ7,H7,I7,n7⟩:=q7;exact again I7 n7
  | brk=>obtain⟨σ7,H7,I7,q7⟩:=q7;exact⟨σ7,H7,I7.unpinned,q7⟩
  | ret v=>obtain⟨x7,σ7,H7,I7,r7,q7⟩:=q7;exact⟨x7,σ7,H7,I7.unpinned,r7,q7⟩
end
abbrev R2:=V->V->Hp->VK->Prop
def OpR (X:Cx)(f:Value->Value->Sem Value)(r:R2):Prop:=
 ∀(pins:List (Addr×Obj)) (s:Shared) (σ:St) (H:Hp) (x y:V) (v u:Value) (Q:VK),Inv X pins σ H s->RelV x v->RelV y u->r x y H Q ->
  wpAny (model X.prog X.w) X.A (f v u) (EP X pins σ Q) X.xe s
def CallR (X:Cx)(f:Value)(r:List V->Hp->VK->Prop):Prop:=
 ∀(pins:List (Addr×Obj)) (s:Shared) (σ:St) (H:Hp) (xs:List V) (us:List Value) (Q:VK),Inv X pins σ H s->Vals xs us->r xs H Q ->
  wpAny (model X.prog X.w) X.A (call f us) (EP X pins σ Q) X.xe s
def tOp (r:R2)(ta tb:TE):TE:=fun σ H Q=>ta σ H fun x H1=>tb σ H1 fun y H2=>r x y H2 Q
def rI (C:Int->Int->Prop)(g:Int->Int->V):R2:=fun x y H Q=>∃i j,x=.int i/\y=.int j/\C i j/\Q (g i j) H
def rI0 (g:Int->Int->V):R2:=fun x y H Q=>∃i j,x=.int i/\y=.int j/\Q (g i j) H
section
variable {X:Cx}{a b c:Expr}{ta tb tc:TE}{pos:Pos}
def Kc (ha:PE X a ta)(hb:PE X b tb){pins:List (Addr×Obj)}{s:Shared}{σ:St}{H:Hp}{R:V->V->Hp->Prop}(I:Inv X pins σ H s)
  (h:ta σ H fun x H1=>tb σ H1 fun y H2=>R x y H2) {Q:Value->Shared->Prop} {f:Value->Value->Sem Value}
  (hf:∀v u s2 x y H2,Inv X pins σ H2 s2->RelV x v->RelV y u->R x y H2->wpAny (model X.prog X.w) X.A (f v u) Q X.xe s2):
  wpAny (model X.prog X.w) X.A (eval a X.env) (fun v s₁=>wpAny (model X.prog X.w) X.A (eval b X.env) (fun u s₂=>wpAny (model X.prog X.w) X.A (f v u) Q X.xe s₂) X.xe s₁) X.xe s:=by
 refine thn (ha pins s σ H _ I h) fun v s1 ⟨x,H1,I1,r1,q1⟩=>?_;refine thn (hb pins s1 σ H1 _ I1 q1) fun u s2 ⟨y,H2,I2,r2,q2⟩=>?_;exact hf v u s2 x y H2 I2 r1 r2 q2
def z1C {op:Operator}{r:R2}(ho:OpR X (binaryOp op) r)(ha:PE X a ta)(hb:PE X b tb):PE X (.BinOp a op b pos) (tOp r ta tb):=by
 intro pins s σ H Q I h;exact wpAny_BinOp (Kc ha hb I h fun v u s2 x y H2 I2 rx ry q=>ho pins s2 σ H2 x y v u Q I2 rx ry q)
def opI {f:Value->Value->Sem Value}{C:Int->Int->Prop}{g:Int->Int->Int}
  (rule:∀(i j:Int) (t u:Tok) (s:Shared) (Q:Value->Shared->Prop) (E:Value->Shared->Prop),C i j->Q (.int (g i j) s.toks) { s with toks:=s.toks+1 }->wpAny (model X.prog X.w) X.A (f (.int i t) (.int j u)) Q E s):
  OpR X f (rI C fun i j=>.int (g i j)):=by
 intro pins s σ H x y v u Q I rx ry h;obtain⟨i,j,rfl,rfl,hc,q⟩:=h;obtain⟨t,rfl⟩:=rx;obtain⟨t',rfl⟩:=ry;exact rule i j t t' s _ _ hc ⟨.int (g i j),H,I.tok _,⟨_,rfl⟩,q⟩
def z0u {f:Value->Value->Sem Value}{g:Int->Int->Int}
  (rule:∀(i j:Int) (t u:Tok) (s:Shared) (Q:Value->Shared->Prop) (E:Value->Shared->Prop),Q (.int (g i j) s.toks) { s with toks:=s.toks+1 }->wpAny (model X.prog X.w) X.A (f (.int i t) (.int j u)) Q E s):
  OpR X f (rI0 fun i j=>.int (g i j)):=by
 intro pins s σ H x y v u Q I rx ry h;obtain⟨i,j,rfl,rfl,q⟩:=h;obtain⟨t,rfl⟩:=rx;obtain⟨t',rfl⟩:=ry;exact rule i j t t' s _ _ ⟨.int (g i j),H,I.tok _,⟨_,rfl⟩,q⟩
def z0v {f:Value->Value->Sem Value}{g:Int->Int->Bool}
  (rule:∀(i j:Int) (t u:Tok) (s:Shared) (Q:Value->Shared->Prop) (E:Value->Shared->Prop),Q (.bool (g i j)) s->wpAny (model X.prog X.w) X.A (f (.int i t) (.int j u)) Q E s):
  OpR X f (rI0 fun i j=>.bl (g i j)):=by
 intro pins s σ H x y v u Q I rx ry h;obtain⟨i,j,rfl,rfl,q⟩:=h;obtain⟨t,rfl⟩:=rx;obtain⟨t',rfl⟩:=ry;exact rule i j t t' s _ _ ⟨.bl (g i j),H,I,rfl,q⟩
def z1c (i j:Int):Prop:=0<j/\j<1073741824
def CMul (i j:Int):Prop:=(-(2 ^ 64)<i/\i<2 ^ 64)\/(-(2 ^ 64)<j/\j<2 ^ 64)
theorem CMul.ok {i j:Int}(h:CMul i j):IntMulOk i j:=by
 rcases h with⟨h1,h2⟩|⟨h1,h2⟩
 ·exact .of_left (intBits_le_64 h1 h2)
 ·exact .of_right (intBits_le_64 h1 h2)
def Kz:OpR X (binaryOp .Add) (rI0 fun i j=>.int (i+j)):=z0u fun _ _ _ _ _ _ _ q=>add_int q
def vR:OpR X (binaryOp .Sub) (rI0 fun i j=>.int (i-j)):=z0u fun _ _ _ _ _ _ _ q=>sub_int q
def Ku:OpR X (binaryOp .Mult) (rI CMul fun i j=>.int (i*j)):=opI fun _ _ _ _ _ _ _ hc q=>mul_int q hc.ok
def wZ:OpR X (binaryOp .FloorDiv) (rI z1c fun i j=>.int (i/j)):=opI fun i j _ _ _ _ _ hc q=>by
 have h1:(0:Int)<j:=hc.1;have h2:j<1073741824:=hc.2;exact floordiv_int (by omega) (by rw[Int.fdiv_eq_ediv_of_nonneg i (by omega)];exact q) (.inl (PyProof.noPylong_small (by omega)))
def xE:OpR X (binaryOp .Mod) (rI (fun _ j=>0<j) fun i j=>.int (i%j)):=opI fun i j _ _ _ _ _ hc q=>by
 have h1:(0:Int)<j:=hc;exact mod_int' (by omega) (by rw[Int.fmod_eq_emod_of_nonneg i (by omega)];exact q)
end
section
variable {X:Cx}{a b c:Expr}{ta tb tc:TE}{pos:Pos}
def JF {pins:List (Addr×Obj)}{σ:St}{H:Hp}{s:Shared}{Q:VK}{k k':Bool}(I:Inv X pins σ H s)(q:Q (.bl k) H)(e:k=k'):EP X pins σ Q (.bool k') s:=by
 subst e;exact⟨.bl k,H,I,rfl,q⟩
def X6:OpR X (compareOp .Lt) (rI0 fun i j=>.bl (decide (i<j))):=z0v fun _ _ _ _ _ _ _ q=>lt_int q
def Ub:OpR X (compareOp .Gt) (rI0 fun i j=>.bl (decide (j<i))):=z0v fun _ _ _ _ _ _ _ q=>gt_int q
def Xd:OpR X (compareOp .IsNot) (fun x y H Q=>y=.non/\Q (.bl (!decide (x=.non))) H):=by
 intro pins s σ H x y v u Q I rx ry h;obtain⟨rfl,q⟩:=h;cases ry;refine isnot_none_gen (JF I q ?_);cases x<;>first
  | (cases rx;rfl)
  | (obtain⟨t,rfl⟩:=rx;rfl)
theorem OpR.or {f:Value->Value->Sem Value}{r r':R2}(h:OpR X f r)(h':OpR X f r'):OpR X f (fun x y H Q=>r x y H Q\/r' x y H Q):=by
 intro pins s σ H x y v u Q I rx ry q;rcases q with q|q
 ·exact h pins s σ H x y v u Q I rx ry q
 ·exact h' pins s σ H x y v u Q I rx ry q
def yY (b:Expr){op:CmpOp}(h:autoParam (op≠.In) au1._auto_1)(h2:autoParam (op≠.NotIn) au1._auto_1):behindInMarks op b=false:=by
 have e1:(op==CmpOp.In)=false:=by cases op<;>first|rfl|exact absurd rfl h
 have e2:(op==CmpOp.NotIn)=false:=by cases op<;>first|rfl|exact absurd rfl h2
 cases b with
 | Set elts k _ =>
  show (k==0&&(op==.In||op==.NotIn)&&elts.all (constantsAlone 8))=false;rw[e1,e2,Bool.or_self,pN,Bool.false_and]
 | _=>rfl
def QZ {op:CmpOp}{r:R2}(ho:OpR X (compareOp op) r)(ha:PE X a ta)(hb:PE X b tb)(hm:behindInMarks op b=false):PE X (.Compare a [op] [b] pos) (tOp r ta tb):=by
 intro pins s σ H Q I h;exact wpAny_Compare1 (Kc ha hb I h fun v u s2 x y H2 I2 rx ry q=>ho pins s2 σ H2 x y v u Q I2 rx ry q) hm
def z1x (t:TE):TT:=fun σ H Q=>t σ H fun x H'=>∃k,x=.bl k/\Q k H'
def Xa {op:CmpOp}{r:R2}(ho:OpR X (compareOp op) r)(ha:PE X a ta)(hb:PE X b tb)(hm:behindInMarks op b=false):PT X (.Compare a [op] [b] pos) (z1x (tOp r ta tb)):=by
 intro pins s σ H Q I h;refine wpAny_isTrue_Compare1 (thn (ha pins s σ H _ I h) fun v s1 ⟨x,H1,I1,r1,q1⟩=>thn (hb pins s1 σ H1 _ I1 q1) fun u s2 ⟨y,H2,I2,r2,q2⟩ =>
  thn (ho pins s2 σ H2 x y v u _ I2 r1 r2 q2) fun c s3 ⟨z,H3,I3,r3,k,e,q3⟩=>?_) hm
 subst e;cases r3;exact wpAny_truthy_bool ⟨H3,I3,q3⟩
def uI:(sizeLine:Nat)<2 ^ 63:=by rw[sizeLine_eq];decide
def X4:OpR X (binaryOp .Add) (fun x y H Q=>∃i j,x=.str i/\y=.str j/\i.length+j.length<=sizeLine/\Q (.str (i++j)) H):=by
 intro pins s σ H x y v u Q I rx ry h;obtain⟨i,j,rfl,rfl,hz,q⟩:=h;obtain⟨t,rfl⟩:=rx;obtain⟨t',rfl⟩:=ry;exact add_str (fun t' tk=>⟨.str (i++j),H,I.tok _,⟨_,rfl⟩,q⟩) hz
def Yd:OpR X (inplaceOp .Add) (fun x y H Q=>∃i j,x=.str i/\y=.str j/\i.length+j.length<=sizeLine/\Q (.str (i++j)) H):=by
 intro pins s σ H x y v u Q I rx ry h;obtain⟨i,j,rfl,rfl,hz,q⟩:=h;obtain⟨t,rfl⟩:=rx;obtain⟨t',rfl⟩:=ry;exact iadd_str (fun t' tk=>⟨.str (i++j),H,I.tok _,⟨_,rfl⟩,q⟩) hz
def wH {x:V}{us:List Value}(r:Vals [x] us):∃u,us=[u]/\RelV x u:=by
 cases r with
 | cons r1 r2=>cases r2;exact⟨_,rfl,r1⟩
def Vu {x y:V}{us:List Value}(r:Vals [x,y] us):∃u w',us=[u,w']/\RelV x u/\RelV y w':=by
 cases r with
 | cons r1 r2 =>
  cases r2 with
  | cons r3 r4=>cases r4;exact⟨_,_,rfl,r1,r3⟩
def uC (hc:X.calm=true):CallR X (.builtin "max") (fun xs H Q=>∃i j,xs=[.int i,.int j]/\Q (.int (if j>i then j else i)) H):=by
 intro pins s σ H xs us Q I r h;obtain⟨i,j,rfl,q⟩:=h;obtain⟨u,w',rfl,⟨t,rfl⟩,⟨t',rfl⟩⟩:=Vu r;refine max_two_ints (I.ok.hd hc) fun h' tk k=>⟨_,H,I.kept k,?_,q⟩
 by_cases hj:j>i
 ·rw[if_pos hj,if_pos hj];exact⟨_,rfl⟩
 ·rw[if_neg hj,if_neg hj];exact⟨_,rfl⟩
def XZ (hc:X.calm=true):CallR X (.builtin "min") (fun xs H Q=>∃i j,xs=[.int i,.int j]/\Q (.int (if j<i then j else i)) H):=by
 intro pins s σ H xs us Q I r h;obtain⟨i,j,rfl,q⟩:=h;obtain⟨u,w',rfl,⟨t,rfl⟩,⟨t',rfl⟩⟩:=Vu r;refine min_two_ints (I.ok.hd hc) fun h' tk k=>⟨_,H,I.kept k,?_,q⟩
 by_cases hj:j<i
 ·rw[if_pos hj,if_pos hj];exact⟨_,rfl⟩
 ·rw[if_neg hj,if_neg hj];exact⟨_,rfl⟩
def Ww:CallR X (.type "int") (fun xs H Q=>(∃i,xs=[.int i]/\Q (.int i) H)\/∃k,xs=[.bl k]/\Q (.int (if k then 1 else 0)) H):=by
 intro pins s σ H xs us Q I r h;rcases h with⟨i,rfl,q⟩|⟨k,rfl,q⟩
 ·obtain⟨u,rfl,t,rfl⟩:=wH r;exact call_int_int ⟨.int i,H,I,⟨_,rfl⟩,q⟩
 ·obtain⟨u,rfl,r1⟩:=wH r;cases r1;exact call_int_bool ⟨.int (if k then 1 else 0),H,I.tok _,⟨_,rfl⟩,q⟩
def xl:CallR X (.type "str") (fun xs H Q=>∃i,xs=[.int i]/\i.natAbs.log2<1920/\Q (.str (toString i)) H):=by
 intro pins s σ H xs us Q I r h;obtain⟨i,rfl,hz,q⟩:=h;obtain⟨u,rfl,t,rfl⟩:=wH r;exact PySem.P.str_of_int hz ⟨.str _,H,I.tok _,⟨_,rfl⟩,q⟩
end
structure ObjM (h:Heap)(x dx C:Addr)(mA:Str->Option Value):Prop where
 obj:h.get? x=some (jJi C dx)
 ns:h.Ns1 dx mA
 ne:dx≠x
def Wl {h:Heap}{dx:Addr}{mA:Str->Option Value}(n:h.Ns1 dx mA):∃od,h.get? dx=some od/\∀name,jJk name od=some (mA name):=by
 obtain⟨o,es,ep,ho,hd,hk,_,hm⟩:=n;refine⟨o,ho,fun name=>?_⟩;have e:=hm name;unfold nsFind findBy at e;rw[<-Array.find?_toList]at e;unfold jJk;rw[hd];dsimp only;split
 ·rename_i y q;rw[q]at e;exact congrArg some e
 ·rename_i q;rw[q]at e;have a:es.toList.any (·.refKey)=false:=by
   rw[List.any_eq_false];intro y hy;obtain⟨z,t,hkey⟩:=hk y (Array.mem_toList_iff.mp hy);simp[DictEntry.refKey,hkey]
  have a':¬es.toList.any (·.refKey)=true:=by rw[a];exact tH
  rw[if_neg a'];exact congrArg some e
theorem ObjM.look {h:Heap}{x dx C:Addr}{mA:Str->Option Value}(I:ObjM h x dx C mA):∃od,PySem.W.InstAt h x (jJi C dx) C (some od)/\∀name,jJk name od=some (mA name):=
 let ⟨od,ho,hl⟩:=Wl I.ns
 ⟨od,⟨I.obj,rfl,rfl,ho⟩,hl⟩
section
variable {prog:Program}{w:World}{A:Around}{E:Value->Shared->Prop}{s:Shared}{K:jJa}{x dx C f:Addr}{mA:Str->Option Value}{name:Str}{v:Value}
end
def z0Y (f:Str)(v:V):List (Str×V)->List (Str×V)
 | []=>[(f,v)]
 | (g,x)::r=>if g=f then (g,v)::r else (g,x)::z0Y f v r
def RelO.some_of {v:V}{o:Option Value}(r:RelO (some v) o):∃u,o=some u/\RelV v u:=by
 cases o with
 | none=>exact (show False from r).elim
 | some u=>exact⟨u,rfl,r⟩
section
variable {P:Program}{w:World}{H H':Hp}{h h':Heap}{a C dx:Addr}{fs fs':List (Str×V)}
def Qd (hok:HOk P w H h)(e:H a=some (.ins C dx fs)):∃mA,ObjM h a dx C mA/\(∀f,RelO (fs.lookup f) (mA f))/\PySem.Within mA (fs.map (·.1))/\fs.length<=1000/\H dx=some (.own a):=by
 obtain⟨d,z,ne,ob,mA,n,r,q⟩:=(show ObjOk P w H h a (.ins C dx fs) from hok a _ e)
 exact⟨mA,⟨ob,n,ne⟩,r,q,z,d⟩
end
structure Cls (K:jJa)(C:Addr):Prop where
 pg:PySem.W.plainGet K C Str.empty=true
 hd:PySem.W.hasDictIn K C=true
 po:PySem.W.plainOver K C=true
 sa:jJd K (.ref C) "__setattr__"=some (some (.builtin "object.__setattr__"))
theorem Cls.get {K:jJa}{C:Addr}(c:Cls K C)(f:Str):PySem.W.plainGet K C f=true:=c.pg
def Yj (K:jJa)(C:Addr)(f:Str):Prop:=jJd K (.ref C) f=some none
structure Con (K:jJa)(C:Addr)(f:Str)(v:V)(u:Value):Prop where
 at_:jJd K (.ref C) f=some (some u)
 rel:RelV v u
 get:jJm K u "__get__"=some none
 cp:PySem.W.copiedNames.contains f=false
structure Meth (K:jJa)(C:Addr)(m:Str)(f:Addr):Prop where
 at_:jJd K (.ref C) m=some (some (.ref f))
 fn:PySem.W.isFn K (.ref f)=true
 kp:jJe K (.ref f)=true
section
variable {X:Cx}{pins:List (Addr×Obj)}{σ:St}{H:Hp}{s:Shared}{a C dx:Addr}{fs:List (Str×V)}{f:Str}{v:V}{A:Around}{E:Value->Shared->Prop}
end
def z2h (K:jJa)(ta:TE)(f:Str):TE:=fun σ H Q=>ta σ H fun x H1=>∃a C dx fs v,x=.ref a/\H1 a=some (.ins C dx fs)/\Cls K C/\Yj K C f/\fs.lookup f=some v/\Q v H1
def z2f (K:jJa)(ta tv:TE)(f:Str):TS:=fun D σ H=>tv σ H fun y H1=>ta σ H1 fun x H2=>∃a C dx fs,x=.ref a/\H2 a=some (.ins C dx fs)/\Cls K C/\Yj K C f/\fs.length<1000 /\
 D.nx σ (upd H2 a (.ins C dx (z0Y f y fs)))
section
variable {X:Cx}{o e value:Expr}{f:Str}{pos pos' tpos:Pos}{ta tv:TE}
end
section
variable {X:Cx}{pins:List (Addr×Obj)}{σ:St}{H:Hp}{s:Shared}{A:Around}{E:Value->Shared->Prop}{Q:Value->Shared->Prop}{c:Value}{b:Bool}
inductive TyOf (K:jJa) (H:Hp):V->Value->Prop where
 | non:TyOf K H .non (.type "NoneType")
 | bl (x:Bool):TyOf K H (.bl x) (.type "bool")
 | int (i:Int):TyOf K H (.int i) (.type "int")
 | str (x:Str):TyOf K H (.str x) (.type "str")
 | flt (x:UInt64):TyOf K H (.flt x) (.type "float")
 | lst {a:Addr} {xs:List V} (e:H a=some (.lst xs)):TyOf K H (.ref a) (.type "list")
 | frz {a:Addr} {o:Obj} {xs:List V} (e:H a=some (.frz o (.lst xs))):TyOf K H (.ref a) (.type "list")
 | tup {a:Addr} {xs:List V} (e:H a=some (.tup xs)):TyOf K H (.ref a) (.type "tuple")
 | dK {a:Addr} {kvs:List (Key×V)} (e:H a=some (.dK kvs)):TyOf K H (.ref a) (.type "dict")
 | dT {a:Addr} {kvs:List (List Key×V)} (e:H a=some (.dT kvs)):TyOf K H (.ref a) (.type "dict")
 | ins {a C dx:Addr} {fs:List (Str×V)} (e:H a=some (.ins C dx fs)) (cl:Cls K C) (ha:jJd K (.ref C) "__class__"=some (some (.builtin "object.__class__")))
   (hn:jJm K (.builtin "object.__class__") "__get__"=some (some (.builtin "getset_descriptor.__get__"))) (htk:PySem.W.takesIn K (.builtin "object.__class__")=some true)
   (hm:jJn K C (.type "object")=some true):TyOf K H (.ref a) (.ref C)
def xT {x:V}{u t:Value}(I:Inv X pins σ H s)(rx:RelV x u)(ty:TyOf X.K H x t)(e:jJg X.K t c=some b)(h:∀tk,Q (.bool b) { s with toks:=tk }):
  wpAny (model X.prog X.w) A (call (.builtin "isinstance") [u,c]) Q E s:=by
 cases ty with
 | non=>cases (show u=Value.none from rx);exact jJc PySem.W.kitx_none I.kIn True.intro e (fun z=>nomatch z) h
 | bl y=>cases (show u=Value.bool y from rx);exact jJc PySem.W.kitx_bool I.kIn True.intro e (fun z=>nomatch z) h
 | int i=>obtain⟨t,q⟩:=(show ∃t,u=Value.int i t from rx);cases q;exact jJc PySem.W.kitx_int I.kIn True.intro e (fun z=>nomatch z) h
 | str y=>obtain⟨t,q⟩:=(show ∃t,u=Value.str y t from rx);cases q;exact jJc PySem.W.kitx_str I.kIn True.intro e (fun z=>nomatch z) h
 | flt y=>obtain⟨t,q⟩:=(show ∃t,u=Value.float y t from rx);cases q;exact jJc PySem.W.kitx_float I.kIn True.intro e (fun z=>nomatch z) h
 | @lst a xs ea =>
  cases (show u=Value.ref a from rx);obtain⟨_,_,n,_,h1⟩:=(show ObjOk X.prog X.w H s.heap a (.lst xs) from I.hok a _ ea)
  exact jJc jJo I.kIn ⟨_,h1,rfl⟩ e (fun z=>nomatch z) h
 | @frz a ob xs ea =>
  cases (show u=Value.ref a from rx);obtain⟨_,_,_,n,_,h1⟩:=(show ObjOk X.prog X.w H s.heap a (.frz ob (.lst xs)) from I.hok a _ ea)
  exact jJc jJo I.kIn ⟨_,h1,rfl⟩ e (fun z=>nomatch z) h
 | @tup a xs ea =>
  cases (show u=Value.ref a from rx);obtain⟨_,_,_,p⟩:=(show ObjOk X.prog X.w H s.heap a (.tup xs) from I.hok a _ ea)
  obtain⟨o,h1,h2,_⟩:=p;exact jJc jJt I.kIn ⟨o,h1,h2⟩ e (fun z=>nomatch z) h
 | @dK a kvs ea =>
  cases (show u=Value.ref a from rx);obtain⟨_,_,vs,_,p⟩:=(show ObjOk X.prog X.w H s.heap a (.dK kvs) from I.hok a _ ea)
  obtain⟨o,es,ep,h1,h2,_⟩:=p;exact jJc PySem.W.kitx_dict I.kIn ⟨o,h1,h2.1⟩ e (fun z=>nomatch z) h
 | @dT a kvs ea =>
  cases (show u=Value.ref a from rx);obtain⟨_,_,xs,_,o,es,ep,h1,h2,_⟩:=(show ObjOk X.prog X.w H s.heap a (.dT kvs) from I.hok a _ ea)
  exact jJc PySem.W.kitx_dict I.kIn ⟨o,h1,h2.1⟩ e (fun z=>nomatch z) h
 | @ins a C dx fs ea cl ha hn htk hm =>
  cases (show u=Value.ref a from rx);obtain⟨mA,O,_⟩:=Qd I.hok ea;obtain⟨od,J,_⟩:=O.look;exact jJc (PySem.W.kitx_own (cl.get _) cl.hd ha hn htk hm) I.kIn J e (fun z=>nomatch z) h
end
structure Room (k:Nat)(A:Around):Prop where
 hd:A.handled=none
 dp:A.depth+3*k+5<recursionLimit
 un:A.units+16*k+200<cLine
theorem Room.mono {j k:Nat}{A:Around}(r:Room k A)(h:j<=k):Room j A:=⟨r.hd,by have:=r.dp;omega,by have:=r.un;omega⟩
theorem Room.deeper {k:Nat}{A:Around}(r:Room (k+1) A)(env:Env):Room k (A.deeper env):=
 ⟨r.hd,by have:=r.dp;show A.depth+1+3*k+5<_;omega,by have:=r.un;show A.units+3+16*k+200<_;omega⟩
theorem Room.depth {k:Nat}{A:Around}(r:Room k A):A.depth<recursionLimit:=by have:=r.dp;omega
def KA:TA:=fun _ H Q=>Q [] H
def U9 (ta:TE)(tr:TA):TA:=fun σ H Q=>ta σ H fun x H1=>tr σ H1 fun xs H2=>Q (x::xs) H2
section
variable {X:Cx}{e:Expr}{es:List Expr}{te:TE}{t:TA}{pos:Pos}
def vX:PA X [] KA:=fun _ _ _ _ H Q I h=>Calls.spliced_nil ⟨[],H,I,.nil,h⟩
def wg (ha:PE X e te)(hr:PA X es t)(hs:autoParam (starEach (e::es) X.env=(false,eval e X.env)::starEach es X.env) au3._auto_1):PA X (e::es) (U9 te t):=by
 intro pos pins s σ H Q I h;rw[hs];show wpAny _ _ (spliced ((false,eval e X.env)::backTo pos (starEach es X.env))) _ _ s;refine Calls.spliced_cons (thn (ha pins s σ H _ I h) fun u s1 ⟨x,H1,I1,r1,q1⟩=>?_);exact thn (hr pos pins s1 σ H1 _ I1 q1) fun us s2 ⟨xs,H2,I2,r2,q2⟩=>⟨x::xs,H2,I2,.cons r1 r2,q2⟩
def Kk (t:TA):TE:=fun σ H Q=>t σ H fun xs H1=>xs.length<=sizeLine/\∀p,H1 p=none->Q (.ref p) (upd H1 p (.tup xs))
def z0M (t:TA):TE:=fun σ H Q=>t σ H fun xs H1=>xs.length<=sizeLine/\∀p,H1 p=none->Q (.ref p) (upd H1 p (.lst xs))
def WQ {x1}(h:PA X es t):PE X (.Tuple es x1 pos) (Kk t):=by
 intro pins s σ H Q I hq;refine wpAny_Tuple_spliced (thn (h pos pins s σ H _ I hq) fun us s1 ⟨xs,H1,I1,r,z,q⟩=>⟨by rw[<-r.length];exact z,?_⟩);have hf:H1 s1.heap.objs.size=none:=I1.hok.fresh (tM _);refine⟨.ref s1.heap.objs.size,upd H1 s1.heap.objs.size (.tup xs),I1.laid (t':=s1.toks) (fun b u e=>jYb _ e) (tM _) ?_,rfl,q _ hf⟩;exact⟨z,us,r,TupN.new _ _⟩
def JX (h:PA X es t):PE X (.List es pos) (z0M t):=by
 intro pins s σ H Q I hq;refine wpAny_List_spliced (thn (h pos pins s σ H _ I hq) fun us s1 ⟨xs,H1,I1,r,z,q⟩=>⟨by rw[<-r.length];exact z,?_⟩);have hf:H1 s1.heap.objs.size=none:=I1.hok.fresh (tM _);refine⟨.ref s1.heap.objs.size,upd H1 s1.heap.objs.size (.lst xs),I1.laid (t':=s1.toks) (fun b u e=>jYb _ e) (tM _) ?_,rfl,q _ hf⟩;exact⟨z,us,0,r,jYd _ rfl⟩
end
abbrev Sp:=List V->Hp->VK->XK->Prop
abbrev CXT:=List Env->Hp->Shared->XK->Value->Shared->Prop
structure Env0 (P:Program)(w:World)(K:jJa)(mg:Str->Option Value)(base:Heap)(A:Around)(outer:List Env)(s:Shared)(H:Hp):Prop where
 frames:A.frames=some outer
 mod:Mod K mg base
 bs:∀b o,base.get? b=some o->s.heap.get? b=some o/\H b=none
 bsz:base.objs.size<=s.heap.objs.size
 funs:s.heap.FunFrames base outer
 frf:∀b∈frs outer,H b=none
 hok:HOk P w H s.heap
 bare:AllBare s.gens
def CE (outer:List Env)(P:Program)(w:World)(H:Hp)(s:Shared)(Q:VK)(u:Value)(s':Shared):Prop:=
 ∃v H',s'.os=s.os/\AllBare s'.gens/\Un (frs outer) [] H H' s.heap s'.heap/\HOk P w H' s'.heap/\RelV v u/\Q v H'
def CR (CX:CXT)(outer:List Env)(P:Program)(w:World)(H:Hp)(s:Shared)(Q:VK)(E:XK)(r:Result)(s':Shared):Prop:=
 match r with
 | .ok (.ret u)=>CE outer P w H s Q u s'
 | .ok _=>False
 | .error e=>CX outer H s E e s'
structure FnOk (P:Program)(w:World)(K:jJa)(mg:Str->Option Value)(base:Heap)(CX:CXT)(k:Nat)(f:Addr)(fd:FuncData)(ps:List Str)(sp:Sp):Prop where
 len:∀vs H Q E,sp vs H Q E->vs.length=ps.length
 run:∀(A:Around) (outer:List Env) (s:Shared) (H:Hp) (args:Args) (us:List Value) (vs:List V) (Q:VK) (E:XK),Room k A->Env0 P w K mg base A outer s H->BindsTo s fd args (ps.zip us)->Vals vs us->sp vs H Q E ->
  codeAny (model P w) A (.call (.ref f) args) (CR CX outer P w H s Q E) s
theorem FnOk.mono {P:Program}{w:World}{K:jJa}{mg:Str->Option Value}{base:Heap}{CX:CXT}{j k:Nat}{f:Addr}{fd:FuncData}{ps:List Str}{sp:Sp}(F:FnOk P w K mg base CX j f fd ps sp)(h:j<=k):
  FnOk P w K mg base CX k f fd ps sp:=⟨F.len,fun A outer s H args us vs Q E hr=>F.run A outer s H args us vs Q E (hr.mono h)⟩
section
variable {X:Cx}{pins:List (Addr×Obj)}{σ:St}{H:Hp}{s s':Shared}
theorem Inv.env0 (I:Inv X pins σ H s):Env0 X.prog X.w X.K X.mg X.base X.A X.stack s H:=
 ⟨I.ok.frames,I.ok.mod,I.bs,rJ I.ok.bsz I.sz,I.stack,I.stkFree,I.hok,I.bare⟩
def Inv.after {Q:VK}{u:Value}(I:Inv X pins σ H s)(h:CE X.stack X.prog X.w H s Q u s'):EP X pins σ Q u s':=by
 obtain⟨v,H',os,bare,un,hok,r,q⟩:=h;obtain⟨hh,g,d,t,os'⟩:=s';obtain rfl:os'=s.os:=os;exact⟨v,H',I.call (h':=hh) (g':=g) (d':=d) (t':=t) (ch:=[]) un hok bare (fun b z=>absurd z (by simp)),r,q⟩
end
def J9 (sp:Sp)(dvs:List V)(E:XK)(t:TA):TE:=fun σ H Q=>t σ H fun vs H1=>sp (vs++dvs) H1 Q E
def Binds (K:jJa)(fd:FuncData)(ps:List Str)(ds:List Value):Prop:=
 ∀(s:Shared) (us:List Value),K.In s.heap->(us++ds).length=ps.length->BindsTo s fd ⟨us,[]⟩ (ps.zip (us++ds))
theorem Binds.all {K:jJa}{fd:FuncData}{ps:List Str}(h:∀us:List Value,us.length=ps.length->bindArgs fd ⟨us,[]⟩=pure (ps.zip us)):Binds K fd ps []:=fun s us _ hl=>by
 rw[tQ]at hl ⊢;exact .of_eq (h us hl)
def uz (CX:CXT)(X:Cx)(E:XK):Prop:=∀(pins:List (Addr×Obj)) (σ:St) (H:Hp) (s:Shared) (e:Value) (s':Shared),Inv X pins σ H s->CX X.stack H s E e s'->X.xe e s'
section
variable {X:Cx}{CX:CXT}{k:Nat}{f C:Addr}{fd:FuncData}{ps:List Str}{sp:Sp}{dvs:List V}{ds:List Value}{E:XK}{x m:Str}{p pos apos:Pos}{e o:Expr}{es:List Expr}{ta:TE}{t:TA}
def Kd {pins:List (Addr×Obj)}{σ:St}{H:Hp}{s:Shared}{Q:VK}{us:List Value}{vs:List V}(F:FnOk X.prog X.w X.K X.mg X.base CX k f fd ps sp)(hr:Room k X.A)(hb:Binds X.K fd ps ds)(hd:Vals dvs ds)(hx:uz CX X E)
  (I:Inv X pins σ H s) (r:Vals vs us) (h:sp (vs++dvs) H Q E):wpAny (model X.prog X.w) X.A (call (.ref f) us) (EP X pins σ Q) X.xe s:=by
 have r2:Vals (vs++dvs) (us++ds):=r.append hd;have hl:(us++ds).length=ps.length:=by rw[<-r2.length];exact F.len _ _ _ _ h
 refine wpAny_call (codeAny_mono (F.run X.A X.stack s H ⟨us,[]⟩ (us++ds) (vs++dvs) Q E hr I.env0 (hb s us I.kIn hl) r2 h) fun r s' hq=>?_);cases r with
 | error e=>exact hx pins σ H s e s' I hq
 | ok fl =>
  cases fl with
  | ret u=>exact I.after hq
  | next=>exact False.elim hq
  | brk=>exact False.elim hq
  | cont=>exact False.elim hq
def UA (F:FnOk X.prog X.w X.K X.mg X.base CX k f fd ps sp)(hr:Room k X.A)(hg:Gl X x)(hm:X.mg x=some (.ref f))(hk:jJe X.K (.ref f)=true)(hb:Binds X.K fd ps ds)(hd:Vals dvs ds)(hx:uz CX X E)
  (ha:PA X (e::es) t) (hdb:autoParam ((x==("__debug__":Str))=false) au1._auto_1) (he:autoParam (starEach (e::es) X.env=(false,eval e X.env)::starEach es X.env) au3._auto_1) (hpl:autoParam ((backTo pos (starEach es X.env)).any (·.1)=false) au3._auto_1):
  PE X (.Call (.Name x p) (e::es) [] pos) (J9 sp dvs E t):=by
 intro pins s σ H Q I h;refine wpAny_Call_Name_kw (QN I hg hm ?_ hdb);refine PySem.W.callWith_K (h₀:=X.base) I.ok.mod.kin hk (thn (ha pos pins s σ H _ I h) fun us s1 ⟨vs,H1,I1,r,q⟩=>⟨I1.kIn,?_⟩) he hpl;exact Kd F hr hb hd hx I1 r q
structure Mk (K:jJa)(C f:Addr):Prop where
 makes:PySem.W.makesIn K C=true
 init:jJd K (.ref C) "__init__"=some (some (.ref f))
 fn:PySem.W.isFn K (.ref f)=true
 kp:jJe K (.ref C)=true
end
section
variable {X:Cx}{CX:CXT}{k:Nat}{f C:Addr}{fd:FuncData}{ps ks:List Str}{sp:Sp}{E:XK}{x m:Str}{p pos apos kpos:Pos}{e o:Expr}{es:List Expr}{kws:List Keyword}{te ta:TE}{t tk:TA}{nm:Option Str}
structure KBinds (K:jJa)(fd:FuncData)(ps ks:List Str)(g:List Value->List Value->List Value)(gV:List V->List V->List V):Prop where
 to:∀(s:Shared) (us ws:List Value),K.In s.heap->(g us ws).length=ps.length->BindsTo s fd ⟨us,ks.zip ws⟩ (ps.zip (g us ws))
 rel:∀ {vs:List V} {us:List Value} {zs:List V} {ws:List Value},Vals vs us->Vals zs ws->Vals (gV vs zs) (g us ws)
variable {g:List Value->List Value->List Value}{gV:List V->List V->List V}
end
structure FnScope (N P:List Str)(sc:Scope):Prop where
 kind:sc.kind=.function
 co:sc.isCoroutine=false
 gen:sc.isGenerator=false
 nd:N.Nodup
 pre:N.take P.length=P
 par:∀x∈P,sc.names.lookup x=some .local\/sc.names.lookup x=some .cell
 nofree:∀y∈sc.names,y.2≠.free
theorem jX {kindOf:Str->Option NameKind}{x:Str}:∀ {binds:List (Str×Value)} {m:Str->Option Value},(∀v,(x,v)∉binds)->bindL kindOf binds m x=m x
 | [],_,_=>rfl
 | (n,v)::r,m,h=>by
  unfold bindL;rw[jX fun w hw=>h w (tG _ hw)];split
  ·have:x≠n:=by rintro rfl;exact h v tF
   simp[this]
  ·rfl
theorem jP {kindOf:Str->Option NameKind}{x:Str}:∀ {binds:List (Str×Value)} {m:Str->Option Value},(∀v,(x,v)∉binds)->bindC kindOf binds m x=m x
 | [],_,_=>rfl
 | (n,v)::r,m,h=>by
  unfold bindC;rw[jP fun w hw=>h w (tG _ hw)];split
  ·rfl
  ·have:x≠n:=by rintro rfl;exact h v tF
   simp[this]
theorem kl {kindOf:Str->Option NameKind}{x:Str}{v:Value}:∀ {P:List Str} {vs:List Value} {i:Nat} {m:Str->Option Value},P.Nodup->P[i]?=some x->vs[i]?=some v->kindOf x=some .local ->
  bindL kindOf (P.zip vs) m x=some v
 | [],_,_,_,_,h,_,_=>by simp at h
 | _::_,[],_,_,_,_,h,_=>by simp at h
 | p::P,w::vs,0,m,nd,h1,h2,hk=>by
  simp at h1 h2;subst h1;subst h2;show bindL kindOf ((p,w)::P.zip vs) m p=_;unfold bindL;rw[jX fun v hv=>(sI.mp nd).1 (List.of_mem_zip hv).1,if_pos hk];simp
 | p::P,w::vs,i+1,m,nd,h1,h2,hk=>by
  show bindL kindOf ((p,w)::P.zip vs) m x=_;unfold bindL;exact kl (i:=i) (sI.mp nd).2 (by simpa using h1) (by simpa using h2) hk
theorem kd {kindOf:Str->Option NameKind}{x:Str}{v:Value}:∀ {P:List Str} {vs:List Value} {i:Nat} {m:Str->Option Value},P.Nodup->P[i]?=some x->vs[i]?=some v->kindOf x≠some .local ->
  bindC kindOf (P.zip vs) m x=some v
 | [],_,_,_,_,h,_,_=>by simp at h
 | _::_,[],_,_,_,_,h,_=>by simp at h
 | p::P,w::vs,0,m,nd,h1,h2,hk=>by
  simp at h1 h2;subst h1;subst h2;show bindC kindOf ((p,w)::P.zip vs) m p=_;unfold bindC;rw[jP fun v hv=>(sI.mp nd).1 (List.of_mem_zip hv).1,if_neg hk];simp
 | p::P,w::vs,i+1,m,nd,h1,h2,hk=>by
  show bindC kindOf ((p,w)::P.zip vs) m x=_;unfold bindC;exact kd (i:=i) (sI.mp nd).2 (by simpa using h1) (by simpa using h2) hk
def start (N:List Str)(vs:List V):St:=vs.map some++List.replicate (N.length-vs.length) none
def uW (CX:CXT)(P:Program)(w:World)(K:jJa)(mg:Str->Option Value)(base:Heap)(N:List Str)(qual:Str)(scope:Scope)(f:Addr)(cd:Value)(A:Around)(outer:List Env)(s:Shared)(H:Hp)(E:XK):Cx where
 prog:=P
 w:=w
 K:=K
 mg:=mg
 base:=base
 A:=A.deeper (envOfC qual scope s.heap.objs.size f cd)
 N:=N
 s₀:=s
 H₀:=H
 env:=envOfC qual scope s.heap.objs.size f cd
 outer:=outer
 stack:=envOfC qual scope s.heap.objs.size f cd::outer
 ex:=[]
 calm:=true
 fn:=fun _=>true
 pn:=[]
 xe:=fun e s'=>wpAny (model P w) (A.deeper (envOfC qual scope s.heap.objs.size f cd)) (leaving (envOfC qual scope s.heap.objs.size f cd) e) (fun _ s''=>CX outer H s E e s'') (fun e' s''=>CX outer H s E e' s'') s'
def qY {sc:Scope}{n:Nat}{x:Str}(h:sc.names.lookup x=some .cell):∃c,(cellsFrom n sc.names []).lookup x=some c:=by
 have q:=jJv sc.names n [] (.inl h);exact Option.isSome_iff_exists.mp q
def Wz {CX:CXT}{P:Program}{w:World}{K:jJa}{mg:Str->Option Value}{base:Heap}{N ps:List Str}{qual:Str}{scope:Scope}{f:Addr}{cd:Value}{A:Around}{outer:List Env}{s s1:Shared}{H:Hp}{E:XK}{us:List Value}{vs:List V}
  (S:FnScope N ps scope) (hd:A.handled=none) (e0:Env0 P w K mg base A outer s H) (hl:vs.length=ps.length) (r:Vals vs us)
  (x:InCallC s s.heap.objs.size (bindL (envOfC qual scope s.heap.objs.size f cd).kindOf (ps.zip us) fun _=>none) (cellsFrom (s.heap.objs.size+1) scope.names []) (bindC (envOfC qual scope s.heap.objs.size f cd).kindOf (ps.zip us) fun _=>none) s1):
  Inv (uW CX P w K mg base N qual scope f cd A outer s H E) [] (start N vs) H s1:=by
 have hpl:ps.length<=N.length:=by have:=congrArg List.length S.pre;rw[sG]at this;omega
 obtain⟨h1,tk,rfl,hk⟩:=x.done;have noA:∀b:Addr,b∉(uW CX P w K mg base N qual scope f cd A outer s H E).ex:=fun b z=>absurd (show b∈([]:List Addr) from z) (by simp);refine⟨⟨e0.mod,S.kind,rfl,rfl,tM _,fun y z c h1 h2=>?_,fun y hy=>?_,fun y c _ h=>?_,fun _=>hd,Around.frames_deeper e0.frames,.inr ⟨rfl,rfl⟩,fun b z=>absurd z (noA b),e0.bs,e0.bsz,fun b _ _=>noA b,fun b z=>absurd z (noA b),e0.funs,e0.frf⟩,
  rfl,e0.bare,Un.kept hk,⟨_,x.toInCall.ns,fun i y v h1 h2 h3=>?_⟩,fun y c h=>⟨_,x.cell y c h⟩,e0.hok.fresh (tM _),fun y c h=>?_,fun p hp=>absurd (show p∈([]:List (Addr×Obj)) from hp) (by simp),e0.hok.kept hk,?_⟩
 ·exact name_of_addr x.apart (PySem.mem_of_lookup h1) (PySem.mem_of_lookup h2)
 ·have hy:scope.names.lookup y=some .cell\/scope.names.lookup y=some .free:=hy;rcases hy with hy|hy
  ·exact qY hy
  ·exact absurd rfl (S.nofree _ (PySem.mem_of_lookup hy))
 ·exact rK (x.above y c (PySem.mem_of_lookup h))
 ·have hi:i<vs.length:=by
   unfold start at h2
   by_cases hi:i<vs.length
   ·exact hi
   ·rw[sU (by simpa using hi)]at h2;rw[pJ]at h2;split at h2<;>cases h2
  have ha:vs[i]?=some v:=by
   unfold start at h2;rw[sW (by simpa using hi),sJ]at h2;cases e:vs[i]? with
   | none=>rw[e]at h2;cases h2
   | some a=>rw[e]at h2;cases h2;rfl
  obtain⟨u,hu,rv⟩:=r.get ha;have hp:ps[i]?=some y:=by
   rw[<-S.pre,rL (by omega)];exact h1
  have ndP:ps.Nodup:=by rw[<-S.pre];exact S.nd.sublist (List.take_sublist _ _)
  refine⟨u,rv,?_⟩;rcases S.par y (List.mem_of_getElem? hp)with k|k
  ·exact .inl ⟨k,kl ndP hp hu k⟩
  ·obtain⟨c,e⟩:=qY (n:=s.heap.objs.size+1) k;refine .inr ⟨.inl k,c,e,?_⟩;have q:=x.cell y c e;rw[kd ndP hp hu (by show scope.names.lookup y≠_;rw[k];decide)]at q;exact q
 ·exact e0.hok.fresh (rK (x.above y c (PySem.mem_of_lookup h)))
 ·unfold start;show _=N.length;rw[tK,tI,rS];omega
def Jg {CX:CXT}{P:Program}{w:World}{K:jJa}{mg:Str->Option Value}{base:Heap}{k:Nat}{f:Addr}{name qual:Str}{params:Arguments}{body:List Stmt}{scope:Scope}{dV kV doc pm cdv ct oc:Value}{an od:Option Addr}
  {osl:Array (Option Value)} {N ps:List Str} {sp:Sp} (lk:K.lookup f=some ⟨oc,od,.func (jJb name qual params body scope dV kV doc pm an cdv ct),osl⟩) (hcd:jJf K cdv qual=true) (S:FnScope N ps scope)
  (len:∀vs H Q E,sp vs H Q E->vs.length=ps.length)
  (hbody:∀(A:Around) (outer:List Env) (s:Shared) (H:Hp) (vs:List V) (Q:VK) (E:XK),Room k (A.deeper (envOfC qual scope s.heap.objs.size f cdv))->sp vs H Q E ->
   ∃t,PSs (uW CX P w K mg base N qual scope f cdv A outer s H E) body t/\t { nx:=fun _ H'=>Q .non H',rt:=Q } (start N vs) H):
  FnOk P w K mg base CX (k+1) f (jJb name qual params body scope dV kV doc pm an cdv ct) ps sp:=by
 refine⟨len,fun A outer s H args us vs Q E hr e0 hb r hsp=>?_⟩;have hl:=len _ _ _ _ hsp;have KX:K.In s.heap:=e0.mod.kin.keeps fun b o e=>(e0.bs b o e).1;have lim:s.heap.NoLimit:=e0.mod.nolimit.keeps fun b o e=>(e0.bs b o e).1;have hkind:∀y∈ps.zip us,scope.names.lookup y.1=some .local\/(scope.names.lookup y.1=some .cell/\((cellsFrom (s.heap.objs.size+1) scope.names []).lookup y.1).isSome=true):=fun⟨n,v⟩ hy=>by
  rcases S.par n (List.of_mem_zip hy).1 with q|q
  ·exact .inl q
  ·exact .inr ⟨q,jJv _ _ _ (.inl q)⟩
 refine codeAny_call_function hr.depth (KX _ _ lk) rfl S.co S.gen rfl (PySem.W.codeRec_of KX hcd) (hb _ _ _ _ ?_);refine wpAny_newFunctionEnv_cells S.kind hkind fun env he s1 x=>?_;subst he;refine⟨lim.keeps x.toInCall.keep,codeAny_func ?_⟩;obtain⟨t,ht,hq⟩:=hbody A outer s H vs Q E (hr.deeper _) hsp;have I:Inv (uW CX P w K mg base N qual scope f cdv A outer s H E) [] (start N vs) H s1:=Wz S hr.hd e0 hl r x;refine wpAny_mono (ht [] s1 (start N vs) H _ I hq) (fun fl s' hs=>?_) fun e s' hs=>hs;have fin:∀ {σ':St} {H':Hp} {v:V} {u:Value},Inv (uW CX P w K mg base N qual scope f cdv A outer s H E) [] σ' H' s'->RelV v u->Q v H'->CE outer P w H s Q u s' :=
  fun {σ' H' v u} J rv q=>⟨v,H',J.os,J.bare,J.base,J.hok,rv,q⟩
 cases fl with
 | ret u =>
  obtain⟨v,σ',H',J,rv,q⟩:=hs;exact fin J rv q
 | next =>
  obtain⟨σ',H',J,q⟩:=hs;exact fin (v:=V.non) (u:=Value.none) J rfl q
 | brk =>
  obtain⟨_,_,_,q⟩:=hs;exact False.elim q
 | cont =>
  obtain⟨_,_,_,q⟩:=hs;exact False.elim q
section
variable {X:Cx}{x:Str}{p pos:Pos}{e:Expr}{es:List Expr}{t:TA}{id T:String}{r:List V->Hp->VK->Prop}
def tCB (r:List V->Hp->VK->Prop)(t:TA):TE:=fun σ H Q=>t σ H fun vs H1=>r vs H1 Q
def Y5 (hc:CallR X (.builtin id) r)(hg:Gl X x)(hm:X.mg x=none)(hv:bootBuiltins x=some (.builtin id))(ha:PA X (e::es) t)(hn:autoParam (x≠"__name__") au1._auto_1)(hdb:autoParam ((x==("__debug__":Str))=false) au1._auto_1)
  (he:autoParam (starEach (e::es) X.env=(false,eval e X.env)::starEach es X.env) au3._auto_1) (hpl:autoParam ((backTo pos (starEach es X.env)).any (·.1)=false) au3._auto_1):PE X (.Call (.Name x p) (e::es) [] pos) (tCB r t):=by
 intro pins s σ H Q I h;refine wpAny_Call_Name_kw (jk I hg hm hv ?_ hn hdb);exact PyProof.Rows.callWith_builtin1 (thn (ha pos pins s σ H _ I h) fun us s1 ⟨vs,H1,I1,r1,q1⟩=>hc pins s1 σ H1 vs us Q I1 r1 q1) he hpl
def W7 (hc:CallR X (.type T) r)(hg:Gl X x)(hm:X.mg x=none)(hv:bootBuiltins x=some (.type T))(ha:PA X (e::es) t)(hn:autoParam (x≠"__name__") au1._auto_1)(hdb:autoParam ((x==("__debug__":Str))=false) au1._auto_1)
  (he:autoParam (starEach (e::es) X.env=(false,eval e X.env)::starEach es X.env) au3._auto_1) (hpl:autoParam ((backTo pos (starEach es X.env)).any (·.1)=false) au3._auto_1):PE X (.Call (.Name x p) (e::es) [] pos) (tCB r t):=by
 intro pins s σ H Q I h;refine wpAny_Call_Name_kw (jk I hg hm hv ?_ hn hdb);exact PyProof.Rows.callWith_type1 (thn (ha pos pins s σ H _ I h) fun us s1 ⟨vs,H1,I1,r1,q1⟩=>hc pins s1 σ H1 vs us Q I1 r1 q1) he hpl
end
end L2
namespace HT
open PySem PyProof.Rows
section
open PySem.SeqAt
open PySem.AutoSeq1 (wpAny_loadPart')
open PySem.MeetsSeq PySem.MeetsSeq2 PySem.MeetsSeq3
end
section
variable {prog:Program}{w:World}{A:Around}{E:Value->Shared->Prop}{s:Shared}
def cat_tup {t b:Addr}{vs ws:List Value}{Q:Value->Shared->Prop}(ht:IsTup s.heap t vs.toArray)(hb:IsTup s.heap b ws.toArray)(hv:vs≠[])
  (h1:ws=[]->Q (.ref t) s) (h2:ws≠[]->Q (.ref s.heap.objs.size) { s with heap:=s.heap.push { cls:=.type "tuple",data:=.seq (vs++ws).toArray } })
  (hsz:vs.length+ws.length<=sizeLine):wpAny (model prog w) A (binaryOp .Add (.ref t) (.ref b)) Q E s:=by
 obtain⟨⟨cls,dd,data,sl⟩,ho,hc,n,hd⟩:=id ht;obtain⟨⟨cls2,dd2,data2,sl2⟩,ho2,hc2,n2,hd2⟩:=id hb;simp only at hc hd hc2 hd2;subst hc hd hc2 hd2;have e:vs.toArray++ws.toArray=(vs++ws).toArray:=by simp
 by_cases hw:ws=[]
 ·exact concat_meets ⟨_,ho,rfl⟩ ⟨_,ho2,rfl⟩ noFill_tuple_add seq_tuple_add jQu jQv (jQw _ _)
   (tuple_addW1 t b vs.toArray ws.toArray n n2 dd dd2 sl sl2 (by simpa using hv) (by simp[hw])) ⟨ho,ho2,h1 hw⟩
 ·refine concat_meets ⟨_,ho,rfl⟩ ⟨_,ho2,rfl⟩ noFill_tuple_add seq_tuple_add jQu jQv (jQw _ _)
   (tuple_addW2 t b vs.toArray ws.toArray n n2 dd dd2 sl sl2 (by simpa using hv) (by simpa using hw) (by rw[tS,tS];exact hsz)) ⟨ho,ho2,?_⟩
  rw[e];exact h2 hw
def sIx (n d:Nat):Option Int->Nat
 | none=>d
 | some v=>if v<0 then (v+(n:Int)).toNat else min v.toNat n
def sIx_nat (n d k:Nat):sIx n d (some (k:Int))=min k n:=by
 show (if (k:Int)<0 then ((k:Int)+(n:Int)).toNat else min (k:Int).toNat n)=min k n;rw[if_neg (by omega),Int.toNat_natCast]
def K1 (n d:Nat)(hd:d<=n)(o:Option Int):sIx n d o<=n:=by
 cases o with
 | none=>exact hd
 | some v =>
  show (if v<0 then (v+(n:Int)).toNat else min v.toNat n)<=n
  by_cases hv:v<0
  ·rw[if_pos hv];omega
  ·rw[if_neg hv];exact Nat.min_le_right _ _
def Xe (v:Int)(n d:Nat):(if v<0 then max (v+(n:Int)) 0 else min v (n:Int))=((sIx n d (some v):Nat):Int):=by
 show (if v<0 then max (v+(n:Int)) 0 else min v (n:Int))=(((if v<0 then (v+(n:Int)).toNat else min v.toNat n):Nat):Int)
 by_cases hv:v<0
 ·simp only[if_pos hv];omega
 ·simp only[if_neg hv];omega
def YJ (lo hi:Option Int)(n:Nat):Builtin.Slice.sliceAdjust lo hi 1 (n:Int)=(((sIx n 0 lo:Nat):Int),((sIx n n hi:Nat):Int)):=by
 have h1:¬((1:Int)<0):=by omega
 unfold Builtin.Slice.sliceAdjust;simp only[h1,if_false];refine Prod.ext ?_ ?_
 ·cases lo with
  | none=>rfl
  | some v=>exact Xe v n 0
 ·cases hi with
  | none=>rfl
  | some v=>exact Xe v n n
def YD (i j:Nat):Builtin.Slice.slicePlaces (i:Int) (j:Int) 1=j-i:=by
 unfold Builtin.Slice.slicePlaces;have h1:(1:Int)>0:=by omega
 simp only[h1,if_true,Int.ediv_one];split<;>omega
def qw {v:Value}{o:Option Int}{Q:Option Int->Shared->Prop}(p:IsPart v o)(h:Q o s):wpAny (model prog w) A (Builtin.Slice.slicePartIndex v) Q E s:=by
 cases p with
 | none=>exact slicePart_none h
 | int i t=>exact slicePart_int h
def uB {sl:Addr}{vl vu:Value}{lo hi:Option Int}{n:Nat}{Q:Int×Int×Nat->Shared->Prop}(hs:s.heap.IsSliceOf sl vl vu .none)(pl:IsPart vl lo)(pu:IsPart vu hi)
  (h:Q (((sIx n 0 lo:Nat):Int),1,sIx n n hi-sIx n 0 lo) s):wpAny (model prog w) A (Builtin.Slice.sliceApplied (.ref sl) (pure (n:Int))) Q E s:=by
 obtain⟨os,hos,hcs,hds⟩:=id hs;unfold Builtin.Slice.sliceApplied Builtin.Slice.sliceFields;refine wpAny_bind (wpAny_bind (wpAny_field hos hds (x:=vl) rfl (wpAny_bind (wpAny_field hos hds (x:=vu) rfl (wpAny_bind (wpAny_field hos hds (x:=.none) rfl (wpAny_pure ?_)))))));refine wpAny_bind (slicePart_none ?_);show wpAny _ _ (if ((1:Int)==0)=true then _ else _) _ _ s;rw[if_neg (by decide)];refine wpAny_bind (qw pl (wpAny_bind (qw pu (wpAny_bind (wpAny_pure ?_)))));show wpAny _ _ (match Builtin.Slice.sliceAdjust lo hi 1 (n:Int)with|(lo,hi)=>pure (lo,(1:Int),Builtin.Slice.slicePlaces lo hi 1)) _ _ s;rw[YJ lo hi n];show wpAny _ _ (pure (((sIx n 0 lo:Nat):Int),(1:Int),Builtin.Slice.slicePlaces ((sIx n 0 lo:Nat):Int) ((sIx n n hi:Nat):Int) 1)) _ _ s;rw[YD];exact wpAny_pure h
def VN (xs:Array Value)(i k:Nat):((List.range k).filterMap fun (m:Nat)=>xs[((i:Int)+(m:Int)*1).toNat]?).toArray=((xs.toList.drop i).take k).toArray:=by
 have e:(fun (m:Nat)=>xs[((i:Int)+(m:Int)*1).toNat]?)=fun m=>xs[i+m]?:=by
  funext m
  have:((i:Int)+(m:Int)*1).toNat=i+m:=by omega
  rw[this]
 rw[e];have:=pick_run xs i k;rw[List.filterMap_map]at this;have e2:((fun x=>xs[x]?) ∘ fun x=>i+x)=fun m=>xs[i+m]?:=rfl;rw[e2]at this;rw[this]
def getItem_tuple_cut {t sl:Addr}{items:Array Value}{vl vu:Value}{lo hi:Option Int}{Q:Value->Shared->Prop}(ht:IsTup s.heap t items)(hs:s.heap.IsSliceOf sl vl vu .none)(pl:IsPart vl lo)(pu:IsPart vu hi)
  (hw:¬(sIx items.size 0 lo=0/\sIx items.size items.size hi=items.size))
  (h:Q (.ref s.heap.objs.size) { s with heap:=s.heap.push { cls:=.type "tuple",data:=.seq ((items.toList.drop (sIx items.size 0 lo)).take (sIx items.size items.size hi-sIx items.size 0 lo)).toArray } })
  (hsz:items.size<=sizeLine):wpAny (model prog w) A (getItem (.ref t) (.ref sl)) Q E s:=by
 have htake:sizeOk (.seq ((items.toList.drop (sIx items.size 0 lo)).take (sIx items.size items.size hi-sIx items.size 0 lo)).toArray):=by
  show ((items.toList.drop (sIx items.size 0 lo)).take (sIx items.size items.size hi-sIx items.size 0 lo)).toArray.size<=sizeLine;rw[tS,sG,sT,Array.length_toList];omega
 have hj:sIx items.size items.size hi<=items.size:=K1 _ _ (tM _) hi;obtain⟨os,hos,hcs,hds⟩:=id hs;have hTs:s.TypeIs (.ref sl) "slice":=⟨os,hos,hcs⟩
 unfold getItem
 try with_reducible refine wpAny_holding ?_
 first|refine wpAny_bind (wpAny_pure ?_)|skip
 refine wpAny_bind (wpAny_sequenceKey ht.typeIs (by decide) ?_);refine wpAny_bind (wpAny_callSpecial?_slot (name:=Str.ofString "__getitem__") ht.typeIs PyProof.Rows.slot_tuple_getitem
  (wpAny_call_entry PyProof.Rows.slot_tuple_getitem ht.typeIs entry_tuple_getitem ?_ (args_tuple_getitem _ _)))
 show wpAny _ _ (Builtin.Tuple.tupleItemsOf (.ref t) >>= _) _ _ s;refine wpAny_bind (tupleItemsOf_ ht ?_);refine wpAny_bind (wpAny_typeOf hTs ?_);rw[if_pos (by decide)];refine wpAny_bind (uB hs pl pu ?_);have hno:¬((((sIx items.size 0 lo:Nat):Int)==0&&(1:Int)==1&&(sIx items.size items.size hi-sIx items.size 0 lo)==items.size)=true):=by
  intro q;rw[sY,sY]at q;have q1:((sIx items.size 0 lo:Nat):Int)=0:=eq_of_beq q.1.1;have q2:sIx items.size items.size hi-sIx items.size 0 lo=items.size:=eq_of_beq q.2;exact hw ⟨by omega,by omega⟩
 show wpAny _ _ (if (((sIx items.size 0 lo:Nat):Int)==0&&(1:Int)==1&&(sIx items.size items.size hi-sIx items.size 0 lo)==items.size)=true then _ else _) _ _ s;rw[if_neg hno,VN]
 first
  | exact wpAny_bind (m:=Builtin.Tuple.tupleExact _) (wpAny_newObj_type (wpAny_pure ⟨_,rfl,wpAny_pure h⟩) htake)
  | exact wpAny_bind (m:=Builtin.Tuple.tupleExact _) (wpAny_newObj_type (wpAny_bind (wpAny_pure (wpAny_pure ⟨_,rfl,wpAny_pure h⟩))) htake)
  | exact wpAny_bind (wpAny_bind (m:=Builtin.Tuple.tupleExact _) (wpAny_newObj_type (wpAny_pure (wpAny_pure ⟨_,rfl,wpAny_pure h⟩)) htake))
  | exact wpAny_bind (wpAny_bind (m:=Builtin.Tuple.tupleExact _) (wpAny_newObj_type (wpAny_pure ⟨_,rfl,wpAny_pure h⟩) htake))
end
end HT
namespace L2
open PySem PySem.Spec PyProof.Rows
abbrev TO:=St->Hp->(Option Int->Hp->Prop)->Prop
def PO (X:Cx)(e:Option Expr)(t:TO):Prop:=
 ∀(pins:List (Addr×Obj)) (s:Shared) (σ:St) (H:Hp) (Q:Option Int->Hp->Prop),Inv X pins σ H s->t σ H Q ->
  wpAny (model X.prog X.w) X.A (evalPart e X.env) (fun u s'=>∃o H',Inv X pins σ H' s'/\IsPart u o/\Q o H') X.xe s
def XD:TO:=fun _ H Q=>Q none H
def Ju (t:TE):TO:=fun σ H Q=>t σ H fun x H1=>∃i,x=.int i/\Q (some i) H1
section
variable {X:Cx}{e:Expr}{te:TE}{lo hi:Option Expr}{tl th:TO}{pos p2:Pos}
def QB:PO X none XD:=by
 intro pins s σ H Q I h;rw[evalPart_none];exact wpAny_pure ⟨none,H,I,.none,h⟩
def Q0 (h:PE X e te):PO X (some e) (Ju te):=by
 intro pins s σ H Q I hw;rw[evalPart_some];refine thn (h pins s σ H _ I hw) fun u s1 ⟨x,H1,I1,r1,q1⟩=>?_;obtain⟨i,rfl,q⟩:=q1;obtain⟨t,rfl⟩:=r1;exact⟨some i,H1,I1,.int i t,q⟩
def SlR (X:Cx)(r:V->Option Int->Option Int->Hp->VK->Prop):Prop:=
 ∀(pins:List (Addr×Obj)) (s:Shared) (σ:St) (H:Hp) (x:V) (v vl vu:Value) (lo hi:Option Int) (sl:Addr) (Q:VK),Inv X pins σ H s->RelV x v->s.heap.IsSliceOf sl vl vu .none->IsPart vl lo->IsPart vu hi->r x lo hi H Q ->
  ∃T id,typeLookup (.type T) "__getitem__"=pure (some (.builtin id))/\s.TypeIs v T/\wpAny (model X.prog X.w) X.A (getItem v (.ref sl)) (EP X pins σ Q) X.xe s
theorem SlR.or {r r':V->Option Int->Option Int->Hp->VK->Prop}(h:SlR X r)(h':SlR X r'):SlR X (fun x lo hi H Q=>r x lo hi H Q\/r' x lo hi H Q):=by
 intro pins s σ H x v vl vu lo hi sl Q I rx hs pl pu q;rcases q with q|q
 ·exact h pins s σ H x v vl vu lo hi sl Q I rx hs pl pu q
 ·exact h' pins s σ H x v vl vu lo hi sl Q I rx hs pl pu q
def tSl (r:V->Option Int->Option Int->Hp->VK->Prop)(te:TE)(tl th:TO):TE:=fun σ H Q=>te σ H fun x H1=>tl σ H1 fun l H2=>th σ H2 fun u H3=>r x l u H3 Q
def Vz {r:V->Option Int->Option Int->Hp->VK->Prop}(hr:SlR X r)(he:PE X e te)(hl:PO X lo tl)(hu:PO X hi th):PE X (.Subscript e (.Slice lo hi none p2) pos) (tSl r te tl th):=by
 intro pins s σ H Q I h;refine Subscript_ (thn (he pins s σ H _ I h) fun v s1 ⟨x,H1,I1,r1,q1⟩=>?_);refine wpAny_Slice (thn (hl pins s1 σ H1 _ I1 q1) fun vl s2 ⟨l,H2,I2,pl,q2⟩=>thn (hu pins s2 σ H2 _ I2 q2) fun vu s3 ⟨u,H3,I3,pu,q3⟩=>?_);rw[evalPart_none];refine wpAny_pure ?_;have I4:Inv X pins σ H3 { s3 with heap:=s3.heap.push { cls:=.type "slice",data:=.fields #[vl,vu,.none] } }:=I3.kept (t':=s3.toks) fun b ob q=>jYb _ q;obtain⟨T,id,hT,ht,hg⟩:=hr pins { s3 with heap:=s3.heap.push { cls:=.type "slice",data:=.fields #[vl,vu,.none] } } σ H3 x v vl vu l u s3.heap.objs.size Q I4 r1 (Heap.IsSliceOf.new ..) pl pu q3;show wpAny (model X.prog X.w) X.A (subscriptTail e (.Slice lo hi none p2) v (.ref s3.heap.objs.size)) (EP X pins σ Q) X.xe { s3 with heap:=s3.heap.push { cls:=.type "slice",data:=.fields #[vl,vu,.none] } };exact tail_any (ops:=[.ref s3.heap.objs.size,v]) ht hT hg (by with_unfolding_all rfl)
def Y3 (xs:List V)(lo hi:Option Int):List V:=(xs.drop (HT.sIx xs.length 0 lo)).take (HT.sIx xs.length xs.length hi-HT.sIx xs.length 0 lo)
def uO (xs:List V)(lo hi:Option Int):(Y3 xs lo hi).length<=xs.length:=by
 unfold Y3;rw[sG,sT];omega
def z23 (K:jJa):V->Option Int->Option Int->Hp->VK->Prop:=fun x lo hi H Q=>∃a xs,x=.ref a/\SqT K H a xs /\
 ¬(HT.sIx xs.length 0 lo=0/\HT.sIx xs.length xs.length hi=xs.length)/\∀p,H p=none->Q (.ref p) (upd H p (.tup (Y3 xs lo hi)))
def KZ:SlR X (z23 X.K):=by
 intro pins s σ H x v vl vu lo hi sl Q I rx hs pl pu h;obtain⟨a,xs,rfl,hx,hw,q⟩:=h;cases rx;obtain⟨its,r,ht,hz⟩:=I.tuple hx;have hlen:its.toArray.size=xs.length:=by rw[tS];exact r.length.symm
 refine⟨"tuple",_,PyProof.Rows.slot_tuple_getitem.lookup,ht.typeIs,?_⟩;refine HT.getItem_tuple_cut ht hs pl pu (by rw[hlen];exact hw) ?_ (by rw[hlen];exact hz);rw[hlen];refine⟨.ref s.heap.objs.size,_,I.laid (t':=s.toks) (o:=.tup (Y3 xs lo hi)) (fun b ob q=>jYb _ q) (tM _) ?_,rfl,q _ (I.hok.fresh (tM _))⟩;exact⟨rJ (uO xs lo hi) hz,_,(r.drop (HT.sIx xs.length 0 lo)).take (HT.sIx xs.length xs.length hi-HT.sIx xs.length 0 lo),TupN.new _ _⟩
def J6 (K:jJa):R2:=fun x y H Q=>∃a b xs ys,x=.ref a/\y=.ref b/\SqT K H a xs/\SqT K H b ys/\xs≠[]/\xs.length+ys.length<=sizeLine /\
 (ys=[]->Q (.ref a) H)/\(ys≠[]->∀p,H p=none->Q (.ref p) (upd H p (.tup (xs++ys))))
def Vals.nil_iff {xs:List V}{us:List Value}(r:Vals xs us):us=[]↔xs=[]:=by
 cases r with
 | nil=>simp
 | cons _ _=>simp
def Qq:OpR X (binaryOp .Add) (J6 X.K):=by
 intro pins s σ H x y v u Q I rx ry h;obtain⟨a,b,xs,ys,rfl,rfl,ha,hb,hx,hz,q1,q2⟩:=h;cases rx;cases ry;obtain⟨its,r1,p1,_⟩:=I.tuple ha;obtain⟨its2,r2,p2,_⟩:=I.tuple hb;refine HT.cat_tup p1 p2 (fun z=>hx (r1.nil_iff.mp z)) (fun z=>⟨.ref a,H,I,rfl,q1 (r2.nil_iff.mp z)⟩) (fun z=>?_) (by rw[<-r1.length,<-r2.length];exact hz);refine⟨.ref s.heap.objs.size,_,I.laid (t':=s.toks) (o:=.tup (xs++ys)) (fun b ob q=>jYb _ q) (tM _) ?_,rfl,q2 (fun w=>z (r2.nil_iff.mpr w)) _ (I.hok.fresh (tM _))⟩;exact⟨by rw[tK];exact hz,_,r1.append r2,TupN.new _ _⟩
end
def ixN (n:Nat)(i:Int):Option Nat:=if 0<=i then (if i<n then some i.toNat else none) else if -(n:Int)<=i then some (i+n).toNat else none
def atI {α:Type}(xs:List α)(i:Int):Option α:=(ixN xs.length i).bind fun j=>xs[j]?
def kZ {n:Nat}{i:Int}{j:Nat}(h:ixN n i=some j):seqIndex? i n=some j/\j<n/\-(n:Int)<=i/\i<n:=by
 unfold ixN at h
 by_cases h0:0<=i
 ·rw[if_pos h0]at h
  by_cases h1:i<n
  ·rw[if_pos h1]at h;have e:i.toNat=j:=jYe h;exact⟨by rw[seqIndex_of h0 h1,e],by omega,by omega,h1⟩
  ·rw[if_neg h1]at h;cases h
 ·rw[if_neg h0]at h
  by_cases h1:-(n:Int)<=i
  ·rw[if_pos h1]at h;have e:(i+n).toNat=j:=jYe h;exact⟨by rw[seqIndex_neg (by omega) h1,e],by omega,h1,by omega⟩
  ·rw[if_neg h1]at h;cases h
def Z6 {α:Type}{xs:List α}{i:Int}{v:α}(h:atI xs i=some v):∃j,seqIndex? i xs.length=some j/\xs[j]?=some v/\j<xs.length/\-(xs.length:Int)<=i/\i<xs.length:=by
 unfold atI at h;cases e:ixN xs.length i with
 | none=>rw[e]at h;cases h
 | some j =>
  rw[e]at h;obtain⟨h1,h2,h3,h4⟩:=kZ e;exact⟨j,h1,h,h2,h3,h4⟩
def xS {α:Type}{xs:List α}{j:Nat}{v:α}(h:xs[j]?=some v):atI xs (j:Int)=some v:=by
 have hj:j<xs.length:=(tT.mp h).1;have e:ixN xs.length (j:Int)=some j:=by
  unfold ixN;rw[if_pos (by omega),if_pos (by omega)];simp
 unfold atI;rw[e];exact h
def XO (b:Expr):Prop:=∀o i,subscripted b false o i=operate [o,i] (getItem o i)
def IxR (X:Cx)(r:R2):Prop:=
 ∀(value slice:Expr) (pins:List (Addr×Obj)) (s:Shared) (σ:St) (H:Hp) (x y:V) (v u:Value) (Q:VK),Inv X pins σ H s->RelV x v->RelV y u->r x y H Q ->
  subscripted slice false v u=operate [v,u] (getItem v u)->wpAny (model X.prog X.w) X.A (subscriptTail value slice v u) (EP X pins σ Q) X.xe s
def MtR (X:Cx)(id:String)(r:V->List V->Hp->VK->Prop):Prop:=
 ∀(pins:List (Addr×Obj)) (s:Shared) (σ:St) (H:Hp) (x:V) (xs:List V) (v:Value) (us:List Value) (Q:VK),Inv X pins σ H s->RelV x v->Vals xs us->r x xs H Q ->
  wpAny (model X.prog X.w) X.A (call (.builtin id) (v::us)) (EP X pins σ Q) X.xe s
section
variable {X:Cx}{a b:Expr}{ta tb:TE}{pos:Pos}
theorem IxR.or {r r':R2}(h:IxR X r)(h':IxR X r'):IxR X (fun x y H Q=>r x y H Q\/r' x y H Q):=by
 intro value slice pins s σ H x y v u Q I rx ry q hs;rcases q with q|q
 ·exact h value slice pins s σ H x y v u Q I rx ry q hs
 ·exact h' value slice pins s σ H x y v u Q I rx ry q hs
def VU {r:R2}(hr:IxR X r)(ha:PE X a ta)(hb:PE X b tb)(hs:XO b):PE X (.Subscript a b pos) (tOp r ta tb):=by
 intro pins s σ H Q I h;exact Subscript_ (Kc ha hb I h fun v u s2 x y H2 I2 rx ry q=>hr a b pins s2 σ H2 x y v u Q I2 rx ry q (hs _ _))
def z0R (K:jJa):R2:=fun x y H Q=>∃p xs i v,x=.ref p/\y=.int i/\SqL K H p xs/\atI xs i=some v/\Q v H
def z1q (K:jJa):R2:=fun x y H Q=>∃p xs i v,x=.ref p/\y=.int i/\SqT K H p xs/\atI xs i=some v/\Q v H
def z0q:R2:=fun x y H Q=>∃z i c,x=.str z/\y=.int i/\z.length<=sizeLine/\atI z.cps.toList i=some c/\Q (.str ⟨#[c]⟩) H
def ix_list:IxR X (z0R X.K):=by
 intro value slice pins s σ H x y v u Q I rx ry h hs;obtain⟨p,xs,i,z,rfl,rfl,hq,he,q⟩:=h;cases rx;obtain⟨t,rfl⟩:=ry;obtain⟨its,r,pl,hz⟩:=I.list hq;obtain⟨j,h1,h2,h3,h4,h5⟩:=Z6 he;obtain⟨w,ew,rw'⟩:=r.get h2;have hl:=r.length;have hn:=uI;have fin:EP X pins σ Q w s:=⟨z,H,I,rw',q⟩
 by_cases h0:0<=i
 ·have hj:i.toNat=j:=by
   rw[seqIndex_of h0 h5]at h1;exact jYe h1
  exact item_listR pl.isList h0 (by omega) (by rw[hj];simpa using ew) fin hs
 ·have hj:(i+(its.toArray.size:Int)).toNat=j:=by
   rw[seqIndex_neg (by omega) h4]at h1;rw[tS,<-hl];exact jYe h1
  exact subscriptTail_builtinR (x:=w) pl.isList.typeIs slot_list_getitem.lookup
   (wpAny_getItem_list_neg (Q:=fun r s'=>r=w/\EP X pins σ Q r s') pl.isList (by omega) (by rw[tS]<;>omega) (by omega) (by rw[hj];simpa using ew) ⟨rfl,fin⟩) hs
def ix_tup:IxR X (z1q X.K):=by
 intro value slice pins s σ H x y v u Q I rx ry h hs;obtain⟨p,xs,i,z,rfl,rfl,hq,he,q⟩:=h;cases rx;obtain⟨t,rfl⟩:=ry;obtain⟨its,r,pl,hz⟩:=I.tuple hq;obtain⟨j,h1,h2,h3,h4,h5⟩:=Z6 he;obtain⟨w,ew,rw'⟩:=r.get h2;have hl:=r.length;have hn:=uI;have fin:EP X pins σ Q w s:=⟨z,H,I,rw',q⟩
 exact subscriptTail_builtinR (x:=w) pl.typeIs slot_tuple_getitem.lookup
  (getItem_tuple (j:=j) (Q:=fun r s'=>r=w/\EP X pins σ Q r s') pl (by omega) (by omega) (by rw[tS,<-hl];exact h1) (by simpa using ew) ⟨rfl,fin⟩) hs
def Kg:IxR X z0q:=by
 intro value slice pins s σ H x y v u Q I rx ry h hs;obtain⟨z,i,c,rfl,rfl,hz,he,q⟩:=h;obtain⟨t,rfl⟩:=rx;obtain⟨t',rfl⟩:=ry;obtain⟨j,h1,h2,h3,h4,h5⟩:=Z6 he;have hl:z.cps.toList.length=z.length:=by simp[Str.length]
 rw[hl]at h1 h4 h5;have hn:=uI;exact tail_any (typeIs_str s z t) slot_str_getitem.lookup (getItem_str (c:=c) (by
  have e1:decide (i < -(2 ^ 63:Int))=false:=decide_eq_false (by omega);have e2:decide (i>=2 ^ 63)=false:=decide_eq_false (by omega);rw[e1,e2,Bool.or_false]) (by rw[h1];simpa using h2) ⟨.str ⟨#[c]⟩,H,I.tok _,⟨_,rfl⟩,q⟩) hs
def rIx (K:jJa):R2:=fun x y H Q=>z0R K x y H Q\/z1q K x y H Q\/z0q x y H Q
def YV:IxR X (rIx X.K):=ix_list.or (ix_tup.or Kg)
def YK (its:List Value)(n j:Nat)(u:Value):Obj.mapSeq (·.setIfInBounds j u) { cls:=.type "list",data:=.seq its.toArray n }={ cls:=.type "list",data:=.seq (its.set j u).toArray n }:=by
 simp[Obj.mapSeq]
theorem Inv.lst {pins:List (Addr×Obj)}{σ:St}{H:Hp}{s:Shared}{p:Addr}{xs:List V}(I:Inv X pins σ H s)(h:H p=some (.lst xs)):
  ∃(its:List Value) (n:Nat),Vals xs its/\s.heap.get? p=some { cls:=.type "list",data:=.seq its.toArray n }/\xs.length<=sizeLine:=by
 obtain⟨z,its,n,r,e⟩:=I.hok p _ h;exact⟨its,n,r,e,z⟩
def Inv.lstUpd {pins:List (Addr×Obj)}{σ:St}{H:Hp}{s:Shared}{p:Addr}{xs ys:List V}{its its':List Value}{n n':Nat}{f:Obj->Obj}(I:Inv X pins σ H s)(h:H p=some (.lst xs))
  (ho:s.heap.get? p=some { cls:=.type "list",data:=.seq its.toArray n }) (hf:f { cls:=.type "list",data:=.seq its.toArray n }={ cls:=.type "list",data:=.seq its'.toArray n' }) (r:Vals ys its') (hz:ys.length<=sizeLine) (t:Nat):
  Inv X pins σ (upd H p (.lst ys)) { s with heap:=s.heap.update p f,toks:=t }:=by
 have e:(s.heap.update p f).get? p=some { cls:=.type "list",data:=.seq its'.toArray n' }:=by
  rw[Heap.get?_update_self f ho (by rw[hf]<;>rfl),hf]
 refine I.write (x:=p) (e:=p) (by rw[h];trivial) (.inl rfl) (fun b u hb q=>(Heap.get?_update_other _ _ (Ne.symm hb)).trans q) ⟨_,e⟩ ?_;exact⟨hz,its',n',r,e⟩
def z0B:V->V->V->Hp->(Hp->Prop)->Prop:=fun o i v H Q=>∃p xs k j,o=.ref p/\i=.int k/\H p=some (.lst xs)/\ixN xs.length k=some j/\Q (upd H p (.lst (xs.set j v)))
def WX:z0U X z0B:=by
 intro pins s σ H o i v ov iv u Q I ro ri rv h;obtain⟨p,xs,k,j,rfl,rfl,hp,hj,q⟩:=h;cases ro;obtain⟨t,rfl⟩:=ri;obtain⟨its,n,r,ho,hz⟩:=I.lst hp;obtain⟨h1,h2,h3,h4⟩:=kZ hj;have hl:=r.length;have hn:=uI;have I':Inv X pins σ (upd H p (.lst (xs.set j v))) { s with heap:=s.heap.update p (Obj.mapSeq (·.setIfInBounds j u)) }:=
  I.lstUpd hp ho (YK its n j u) (r.set rv j) (by rw[sO];exact hz) s.toks
 by_cases h0:0<=k
 ·have hk:k.toNat=j:=by
   rw[seqIndex_of h0 h4]at h1;exact jYe h1
  exact PySem.W.ki_setAt ho h0 (by omega) (by rw[tS,<-hl];exact h4) (by rw[hk];exact⟨_,I',q⟩)
 ·have hk:(k+(its.toArray.size:Int)).toNat=j:=by
   rw[seqIndex_neg (by omega) h3]at h1;rw[tS,<-hl];exact jYe h1
  exact PySem.W.ki_setBack ho (by omega) (by rw[tS,<-hl];exact h3) (by omega) (by rw[hk];exact⟨_,I',q⟩)
def kC (lo hi:Option Int)(n:Nat):(sliceBounds lo hi none n).1=((HT.sIx n 0 lo:Nat):Int)/\(sliceBounds lo hi none n).2.1=((HT.sIx n n hi:Nat):Int)/\(sliceBounds lo hi none n).2.2=1:=by
 refine⟨?_,?_,rfl⟩
 ·cases lo with
  | none=>simp[sliceBounds,HT.sIx]
  | some i =>
   simp only[sliceBounds,HT.sIx,Option.getD_none,show (1:Int)>0 by decide,if_true]
   by_cases h:i<0
   ·simp only[h,if_true]<;>omega
   ·simp only[h,if_false]<;>omega
 ·cases hi with
  | none=>simp[sliceBounds,HT.sIx]
  | some i =>
   simp only[sliceBounds,HT.sIx,Option.getD_none,show (1:Int)>0 by decide,if_true]
   by_cases h:i<0
   ·simp only[h,if_true]<;>omega
   ·simp only[h,if_false]<;>omega
def jx (its:List Value)(lo hi:Option Int):slicePick its.toArray lo hi none=((its.drop (HT.sIx its.length 0 lo)).take (HT.sIx its.length its.length hi-HT.sIx its.length 0 lo)).toArray:=by
 obtain⟨h1,h2,h3⟩:=kC lo hi its.toArray.size;unfold slicePick;rw[h1,h2,h3];simp only[sliceRange_one,pick_run,tS]<;>rfl
def z1V (K:jJa):V->Option Int->Option Int->Hp->VK->Prop:=fun x lo hi H Q=>∃a xs,x=.ref a/\SqL K H a xs/\∀p,H p=none->Q (.ref p) (upd H p (.lst (Y3 xs lo hi)))
def Um:SlR X (z1V X.K):=by
 intro pins s σ H x v vl vu lo hi sl Q I rx hs pl pu h;obtain⟨a,xs,rfl,hx,q⟩:=h;cases rx;obtain⟨its,r,ht,hz⟩:=I.list hx;have hlen:=r.length;refine⟨"list",_,slot_list_getitem.lookup,ht.isList.typeIs,?_⟩;refine wpAny_getItem_list_slice ht.isList hs pl pu .none (by simp) ?_ (by rw[tS]<;>omega);rw[jx,<-hlen];refine⟨.ref s.heap.objs.size,_,I.laid (t':=s.toks) (o:=.lst (Y3 xs lo hi)) (fun b ob q=>jYb _ q) (tM _) ?_,rfl,q _ (I.hok.fresh (tM _))⟩;exact⟨rJ (uO xs lo hi) hz,_,0,(r.drop (HT.sIx xs.length 0 lo)).take (HT.sIx xs.length xs.length hi-HT.sIx xs.length 0 lo),jYd _ rfl⟩
def kF:CallR X (.builtin "len") (fun xs H Q=>∃p ys,xs=[.ref p]/\(SqL X.K H p ys\/SqT X.K H p ys)/\Q (.int ys.length) H):=by
 intro pins s σ H xs us Q I r h;obtain⟨p,ys,rfl,hq,q⟩:=h;obtain⟨u,rfl,rx⟩:=wH r;cases rx;have hn:=uI;rcases hq with hq|hq
 ·obtain⟨its,r',pl,hz⟩:=I.list hq;have hlen:=r'.length;exact Calls.call_len_list pl.isList (by simp only[tS]<;>omega) ⟨.int ys.length,H,I.tok _,⟨s.toks+1,by rw[tS,hlen]⟩,q⟩
 ·obtain⟨its,r',pl,hz⟩:=I.tuple hq;have hlen:=r'.length;exact len_tuple pl (by simp only[tS]<;>omega) ⟨.int ys.length,H,I.tok _,⟨s.toks+1,by rw[tS,hlen]⟩,q⟩
def Z5:CallR X (.builtin "len") (fun xs H Q=>∃z,xs=[.str z]/\z.length<=sizeLine/\Q (.int z.length) H):=by
 intro pins s σ H xs us Q I r h;obtain⟨z,rfl,hz,q⟩:=h;obtain⟨u,rfl,t,rfl⟩:=wH r;have hn:=uI;exact len_str (by omega) ⟨.int z.length,H,I.tok _,⟨_,rfl⟩,q⟩
theorem CallR.or {f:Value}{r r':List V->Hp->VK->Prop}(h:CallR X f r)(h':CallR X f r'):CallR X f (fun xs H Q=>r xs H Q\/r' xs H Q):=by
 intro pins s σ H xs us Q I rs q;rcases q with q|q
 ·exact h pins s σ H xs us Q I rs q
 ·exact h' pins s σ H xs us Q I rs q
def xO:CallR X (.type "list") (fun xs H Q=>∃p ys,xs=[.ref p]/\(SqL X.K H p ys\/SqT X.K H p ys)/\∀l,H l=none->Q (.ref l) (upd H l (.lst ys))):=by
 intro pins s σ H xs us Q I r h;obtain⟨p,ys,rfl,hq,q⟩:=h;obtain⟨u,rfl,rx⟩:=wH r;cases rx;have fin:∀(its:List Value),Vals ys its->ys.length<=sizeLine->∀(h':Heap) (c':Nat),(∀b o',s.heap.get? b=some o'->h'.get? b=some o') ->
   h'.get? s.heap.objs.size=some { cls:=.type "list",dict:=none,data:=.seq its.toArray c',slots:=#[] }->EP X pins σ Q (.ref s.heap.objs.size) { s with heap:=h' }:=fun its r' hz h' c' kp e =>
  ⟨.ref s.heap.objs.size,_,I.laid (t':=s.toks) kp (tM _) (show ObjOk X.prog X.w _ h' _ (.lst ys) from⟨hz,its,c',r',e⟩),rfl,q _ (I.hok.fresh (tM _))⟩
 rcases hq with hq|hq
 ·obtain⟨its,r',pl,hz⟩:=I.list hq;have hlen:=r'.length;obtain⟨o,ho,hc,n,hd⟩:=pl.isList;exact call_list_seq p (.inl rfl) ho hc hd (fun h' c' kp e=>fin its r' hz h' c' kp e) (by simp only[tS]<;>omega)
 ·obtain⟨its,r',pl,hz⟩:=I.tuple hq;have hlen:=r'.length;obtain⟨o,ho,hc,n,hd⟩:=pl;exact call_list_seq p (.inr rfl) ho hc hd (fun h' c' kp e=>fin its r' hz h' c' kp e) (by simp only[tS]<;>omega)
def tyV (K:jJa)(T:String)(x:V)(H:Hp):Prop:=match x with
 | .str _=>T="str"
 | .int _=>T="int"
 | .ref p=>(T="list"/\∃xs,SqL K H p xs)\/(T="tuple"/\∃o,K.lookup p=some o/\o.cls=.type "tuple"/\o.dict=none) \/
   (T="dict"/\((∃kvs,H p=some (.dK kvs))\/∃kvs,H p=some (.dT kvs)))\/(T="set"/\∃S n,H p=some (.set S n))
 | _=>False
def JD {pins:List (Addr×Obj)}{σ:St}{H:Hp}{s:Shared}{T:String}{x:V}{v:Value}(I:Inv X pins σ H s)(r:RelV x v)(ty:tyV X.K T x H):
  s.TypeIs v T/\∀a,v=.ref a->∃ob,s.heap.get? a=some ob/\ob.dict=none:=by
 cases x with
 | str z =>
  obtain⟨t,rfl⟩:=r;cases (show T="str" from ty);exact⟨typeIs_str s z t,fun _ e=>nomatch e⟩
 | int i =>
  obtain⟨t,rfl⟩:=r;cases (show T="int" from ty);exact⟨typeIs_int s i t,fun _ e=>nomatch e⟩
 | ref p =>
  cases r;rcases ty with⟨rfl,xs,hq⟩|⟨rfl,o,hk,hc,hd⟩|⟨rfl,hk⟩|⟨rfl,S,n,hk⟩
  ·obtain⟨its,_,pl,_⟩:=I.list hq;refine⟨pl.isList.typeIs,fun a e=>?_⟩;cases e;obtain⟨o,n,e,c,hd,_⟩:=pl;exact⟨o,e,hd⟩
  ·refine⟨⟨o,I.kIn p o hk,hc⟩,fun a e=>?_⟩;cases e;exact⟨o,I.kIn _ o hk,hd⟩
  ·have z:∃o,s.heap.get? p=some o/\o.ExactDict:=by
    rcases hk with⟨kvs,hk⟩|⟨kvs,hk⟩
    ·obtain⟨_,_,_,_,o,_,_,e,ex,_⟩:=I.hok p _ hk;exact⟨o,e,ex⟩
    ·obtain⟨_,_,_,_,o,_,_,e,ex,_⟩:=I.hok p _ hk;exact⟨o,e,ex⟩
   obtain⟨o,e,ex⟩:=z;refine⟨⟨o,e,ex.1⟩,fun a e2=>?_⟩;cases e2;exact⟨o,e,ex.2.1⟩
  ·obtain⟨o,_,_,_,e,ex,_⟩:=I.hok p _ hk;refine⟨⟨o,e,ex.1⟩,fun a e2=>?_⟩;cases e2;exact⟨o,e,ex.2.1⟩
 | _=>exact False.elim ty
def tBM (K:jJa)(T:String)(r:V->List V->Hp->VK->Prop)(to:TE)(t:TA):TE:=fun σ H Q=>to σ H fun x H1=>tyV K T x H1/\t σ H1 fun xs H2=>r x xs H2 Q
variable {o e:Expr}{es:List Expr}{to:TE}{t:TA}{name:Str}{apos cpos:Pos}{T id:String}{r:V->List V->Hp->VK->Prop}
def Zc (pa:PlainAttrs T)(slot:Slot T name id)(hty:typeOf (.builtin id)=pure (.type "method_descriptor"))(hm:MtR X id r)(ho:PE X o to)(ha:PA X (e::es) t)
  (hbase:autoParam (attributeBase o name X.env (eval o X.env)=eval o X.env) au3._auto_1)
  (hfew:autoParam (((backTo cpos (starEach (e::es) X.env)).all (fun x=>!x.1)&&(backToKw cpos (keywordEach [] X.env)).all (fun x=>x.1.isSome)
   && decide ((e::es).length+([]:List Keyword).length+(if ([]:List Keyword).isEmpty then 0 else 1)<30))=true) au3._auto_1)
  (hline:autoParam ((apos.endLine==cpos.line)=true) au3._auto_1) (hs:autoParam (starEach (e::es) X.env=(false,eval e X.env)::starEach es X.env) au3._auto_1) (hplain:autoParam ((backTo cpos (starEach es X.env)).any (·.1)=false) au3._auto_1):
  PE X (.Call (.Attribute o name apos) (e::es) [] cpos) (tBM X.K T r to t):=by
 intro pins s σ H Q I h;refine wpAny_Call_method_late hbase hfew hline rfl (thn (ho pins s σ H _ I h) fun v s1 ⟨x,H1,I1,r1,ty,q1⟩=>?_);obtain⟨h1,h2⟩:=JD I1 r1 ty;refine⟨T,id,pa,slot,hty,h1,h2,?_⟩;have hA:=ha cpos pins s1 σ H1 _ I1 q1;rw[hs]at hA ⊢;refine Calls.callWith_builtin (by show (false||(backTo cpos (starEach es X.env)).any (·.1))=false;rw[hplain]<;>rfl) (Calls.evalArgs_plain ?_);exact thn hA fun us s2 ⟨vs,H2,I2,r2,q2⟩=>hm pins s2 σ H2 x vs v us Q I2 r1 r2 q2
end
def MtM (X:Cx)(id:String)(r:V->List V->Hp->VK->Prop):Prop:=
 ∀(pins:List (Addr×Obj)) (s:Shared) (σ:St) (H:Hp) (x:V) (xs:List V) (v:Value) (us:List Value) (Q:VK),Inv X pins σ H s->RelV x v->Vals xs us->r x xs H Q ->
  wpAny (model X.prog X.w) X.A (call (.builtin id) (v::us)) (EP X pins σ Q) X.xe s
theorem Vals.one:∀ {x:V} {us:List Value},Vals [x] us->∃u,us=[u]/\RelV x u
 | _,_,.cons r .nil=>⟨_,rfl,r⟩
theorem Vals.rep {xs:List V}{us:List Value}(h:Vals xs us):∀k:Nat,Vals (List.replicate k xs).flatten (List.replicate k us).flatten
 | 0=>.nil
 | k+1=>by
  rw[tY,tY,rC,rC];exact Vals.append h (Vals.rep h k)
theorem jS (its:List Value):∀(k:Nat) (acc:List Value),
  List.foldl (fun x1 x2=>x1++x2) acc.toArray (List.replicate k its.toArray)=(acc++(List.replicate k its).flatten).toArray
 | 0,acc=>by simp
 | k+1,acc=>by
  have e:acc.toArray++its.toArray=(acc++its).toArray:=by simp
  have e2:(acc++its)++(List.replicate k its).flatten=acc++(List.replicate (k+1) its).flatten:=by
   rw[tY,rC,tO]
  rw[<-e2,<-jS its k (acc++its),<-e,tY,List.foldl_cons]
section
variable {X:Cx}{pins:List (Addr×Obj)}{σ:St}{H:Hp}{s:Shared}{l b:Addr}{xs ys zs:List V}
theorem Inv.lset {its its':List Value}{n:Nat}{f:Array Value->Array Value}{t':Nat}(I:Inv X pins σ H s)(hH:H l=some (.lst xs))
  (e:s.heap.get? l=some { cls:=.type "list",data:=.seq its.toArray n }) (hf:f its.toArray=its'.toArray) (hv:Vals ys its') (hz:ys.length<=sizeLine):
  Inv X pins σ (upd H l (.lst ys)) { s with heap:=s.heap.update l (Obj.mapSeq f),toks:=t' }:=by
 have q:=PySem.IsL.update e f;rw[hf]at q;refine I.write (x:=l) (e:=l) (by rw[hH];exact trivial) (.inl rfl) (fun b' u hb hu=>(Heap.get?_update_other s.heap (Obj.mapSeq f) (Ne.symm hb)).trans hu) ⟨_,q⟩ ?_;exact⟨hz,its',_,hv,q⟩
theorem Inv.lnew {its:List Value}{t':Nat}(I:Inv X pins σ H s)(hv:Vals ys its)(hz:ys.length<=sizeLine):
  Inv X pins σ (upd H s.heap.objs.size (.lst ys)) { s with heap:=s.heap.push { cls:=.type "list",data:=.seq its.toArray },toks:=t' }:=
 I.laid (fun _ _ q=>jYb _ q) (tM _) ⟨hz,its,0,hv,jYd _ rfl⟩
theorem Inv.fresh (I:Inv X pins σ H s):H s.heap.objs.size=none:=I.hok.fresh (tM _)
theorem Inv.lstM (I:Inv X pins σ H s)(hH:H l=some (.lst xs)):xs.length<=sizeLine/\∃(its:List Value) (n:Nat),Vals xs its/\xs.length=its.length/\s.heap.get? l=some { cls:=.type "list",data:=.seq its.toArray n }:=by
 obtain⟨z,its,n,r,e⟩:=I.hok l _ hH;exact⟨z,its,n,r,r.length,e⟩
def jl {n:Nat}(h:n<=sizeLine):Builtin.List.listTooLong n=false:=by
 unfold Builtin.List.listTooLong;exact decide_eq_false (by omega)
end
section
variable {X:Cx}
def Q8:V->List V->Hp->VK->Prop:=fun x vs H Q=>∃l xs y,x=.ref l/\vs=[y]/\H l=some (.lst xs)/\xs.length<sizeLine/\Q .non (upd H l (.lst (xs++[y])))
def vA:MtM X "list.append" Q8:=by
 intro pins s σ H x vs v us Q I rx rv h;obtain⟨l,xs,y,rfl,rfl,hH,hz,q⟩:=h;cases rx;obtain⟨u,rfl,ru⟩:=rv.one;obtain⟨z,its,n,r,hl,e⟩:=I.lstM hH;refine call_meets F.slot_list_append ⟨_,e,rfl⟩ F.entry_list_append (F.args_list_append_2 _ _) (PySem.list_append l its.toArray n u (by rw[tS];omega)) ⟨e,?_⟩;refine⟨.non,_,I.lset (its':=its++[u]) hH e (by simp) (r.append (.cons ru .nil)) ?_,rfl,q⟩;rw[tK,List.length_singleton];omega
def QD:V->List V->Hp->VK->Prop:=fun x vs H Q=>∃l b xs zs,x=.ref l/\vs=[.ref b]/\H l=some (.lst xs)/\H b=some (.lst zs)/\xs.length+zs.length<=sizeLine/\Q .non (upd H l (.lst (xs++zs)))
def mt_extend:MtM X "list.extend" QD:=by
 intro pins s σ H x vs v us Q I rx rv h;obtain⟨l,b,xs,zs,rfl,rfl,hH,hB,hz,q⟩:=h;cases rx;obtain⟨u,rfl,ru⟩:=rv.one;cases ru;obtain⟨z,its,n,r,hl,e⟩:=I.lstM hH;obtain⟨z2,its2,n2,r2,hl2,e2⟩:=I.lstM hB;have hsz:its.toArray.size+its2.toArray.size<=sizeLine:=by rw[tS,tS];omega
 have hlong:¬(!its.toArray.isEmpty&&Builtin.List.listTooLong (its.toArray.size+its2.toArray.size))=true:=by
  rw[jl hsz,pN];exact tH
 refine call_meets F.slot_list_extend ⟨_,e,rfl⟩ F.entry_list_extend (F.args_list_extend_2 _ _)
  (AutoSeq1.list_extend_list_list_0 l its.toArray n b its2.toArray n2 hlong (by rw[tS];omega) (by omega)) ⟨e,e2,?_⟩
 refine⟨.non,_,I.lset (its':=its++its2) hH e (by simp) (r.append r2) ?_,rfl,q⟩;rw[tK];omega
def z1t:R2:=fun x y H Q=>∃l b xs zs,x=.ref l/\y=.ref b/\H l=some (.lst xs)/\H b=some (.lst zs)/\xs.length+zs.length<=sizeLine/\∀p,H p=none->Q (.ref p) (upd H p (.lst (xs++zs)))
def JL:OpR X (binaryOp .Add) z1t:=by
 intro pins s σ H x y v u Q I rx ry h;obtain⟨l,b,xs,zs,rfl,rfl,hH,hB,hz,q⟩:=h;cases rx;cases ry;obtain⟨z,its,n,r,hl,e⟩:=I.lstM hH;obtain⟨z2,its2,n2,r2,hl2,e2⟩:=I.lstM hB;refine PySem.P.add_list e e2 ?_ (by rw[tS,tS];omega);have ea:its.toArray++its2.toArray=(its++its2).toArray:=by simp
 rw[ea];exact⟨.ref _,_,I.lnew (t':=s.toks) (r.append r2) (by rw[tK];omega),rfl,q _ I.fresh⟩
def Ks:R2:=fun x y H Q=>∃l k xs,x=.ref l/\y=.int k/\H l=some (.lst xs)/\-(2 ^ 63)<=k/\k<2 ^ 63/\xs.length*k.toNat<=sizeLine /\
 ∀p,H p=none->Q (.ref p) (upd H p (.lst (List.replicate k.toNat xs).flatten))
def UH {α:Type}(xs:List α)(k:Nat):(List.replicate k xs).flatten.length=k*xs.length:=by
 induction k with
 | zero=>simp
 | succ k ih=>rw[tY,rC,tK,ih,Nat.succ_mul,Nat.add_comm]
def K9:OpR X (binaryOp .Mult) Ks:=by
 intro pins s σ H x y v u Q I rx ry h;obtain⟨l,k,xs,rfl,rfl,hH,h1,h2,hz,q⟩:=h;cases rx;obtain⟨t,rfl⟩:=ry;obtain⟨z,its,n,r,hl,e⟩:=I.lstM hH;have hlen:its.toArray.size*k.toNat<=sizeLine:=by rw[tS,<-hl];exact hz
 have hcap:¬its.toArray.size*k.toNat>(2 ^ 63-1)/8:=by
  have:(sizeLine:Nat)<=(2 ^ 63-1)/8:=by decide
  omega
 have hfit:¬(!Builtin.List.listFitsIndex k)=true:=by
  rw[fitsIndex_both h1 h2];exact tH
 have hlong:¬Builtin.List.listTooLong (its.toArray.size*k.toNat)=true:=by
  rw[jl hlen];exact tH
 have hnew:List.foldl (fun x1 x2=>x1++x2) #[] (List.replicate (if its.toArray.isEmpty=true then 0 else k.toNat) its.toArray)=(List.replicate k.toNat its).flatten.toArray:=by
  have f0:∀m:Nat,List.foldl (fun x1 x2=>x1++x2) #[] (List.replicate m its.toArray)=(List.replicate m its).flatten.toArray:=fun m=>by
   have:=jS its m [];rw[tU]at this;exact this
  rw[f0];cases its with
  | nil=>simp
  | cons a r'=>rw[if_neg (by simp)]
 refine wpAny_binaryOp_repeat_ref (T:="list") (U:="int") (by decide) ⟨_,e,rfl⟩ (fun s'=>typeIs_int s' k t) noFill_list_mul F.fills_int_mul F.slot_int_rmul repeat_list F.slot_int_index.lookup
  (call_meets F.slot_int_rmul (typeIs_int s k t) F.entry_int_rmul (F.args_int_rmul_2 _ _) (int___rmul___int_list k t l its.toArray n)
   ⟨e,rfl,⟨_,e,rfl⟩,call_meets F.slot_list_mul ⟨_,e,rfl⟩ F.entry_list_mul (F.args_list_mul_2 _ _) (AutoListH.list___mul___list_int_3 l its.toArray n k t hfit hcap hlong) ⟨e,?_⟩⟩)
 rw[hnew];exact⟨.ref _,_,I.lnew (t':=s.toks) (r.rep k.toNat) (by rw[UH,Nat.mul_comm];exact hz),rfl,q _ I.fresh⟩
end
section
variable {prog:Program}{w:World}{A:Around}{E:Value->Shared->Prop}{s:Shared}
end
section
variable {X:Cx}
end
section
variable {κ:Type}[DecidableEq κ]
def wN (kvs:List (κ×V))(k:κ):Option V:=(kvs.find? fun kv=>decide (kv.1=k)).map (·.2)
def xk (kvs:List (κ×V))(k:κ)(v:V):List (κ×V):=
 if (kvs.any fun kv=>decide (kv.1=k))=true then kvs.map (fun kv=>if kv.1=k then (kv.1,v) else kv) else kvs++[(k,v)]
def z2b (kvs:List (κ×V))(k:κ):List (κ×V):=kvs.filter fun kv=>decide (kv.1≠k)
def ud {p:κ×V}{r:List (κ×V)}{k:κ}(e:p.1=k):wN (p::r) k=some p.2:=by simp[wN,pE,e]
def vq {p:κ×V}{r:List (κ×V)}{k:κ}(e:¬p.1=k):wN (p::r) k=wN r k:=by simp[wN,pE,e]
theorem Ze (k:κ):∀kvs:List (κ×V),(kvs.any fun kv=>decide (kv.1=k))=(wN kvs k).isSome
 | []=>rfl
 | p::r=>by
  rw[List.any_cons]
  by_cases e:p.1=k
  ·simp only[ud e,decide_eq_true e,Bool.true_or,Option.isSome_some]
  ·rw[vq e,decide_eq_false e,Bool.false_or];exact Ze k r
def wm (kvs:List (κ×V))(k:κ)(v:V):(xk kvs k v).length<=kvs.length+1:=by
 unfold xk;split
 ·rw[tI];omega
 ·rw[tK,tL,sA];omega
def RelO.isSome_eq {o:Option V}{u:Option Value}(r:RelO o u):o.isSome=u.isSome:=by
 cases o with
 | none=>cases u with
  | none=>rfl
  | some _=>exact (show False from r).elim
 | some _=>cases u with
  | none=>exact (show False from r).elim
  | some _=>rfl
theorem KV.val {kvs:List (κ×V)}{vs:List (κ×Value)}(r:KV kvs vs)(k:κ):RelO (wN kvs k) (valueAt vs k):=by
 unfold KV at r
 induction r with
 | nil=>exact True.intro
 | @cons p q ps qs h t ih =>
  obtain⟨h1,h2⟩:=h
  by_cases e:p.1=k
  ·have e':q.1=k:=h1.symm.trans e;have b:valueAt (q::qs) k=some q.2:=by simp[valueAt,pE,e']
   rw[ud e,b];exact h2
  ·have e':¬q.1=k:=fun z=>e (h1.trans z);have b:valueAt (q::qs) k=valueAt qs k:=by simp[valueAt,pE,e']
   rw[vq e,b];exact ih
theorem KV.any {kvs:List (κ×V)}{vs:List (κ×Value)}(r:KV kvs vs)(k:κ):(kvs.any fun kv=>decide (kv.1=k))=vs.any fun kv=>decide (kv.1=k):=by
 unfold KV at r
 induction r with
 | nil=>rfl
 | cons h t ih=>rw[List.any_cons,List.any_cons,ih,h.1]
def KV.repl {kvs:List (κ×V)}{vs:List (κ×Value)}(r:KV kvs vs)(k:κ){y:V}{u:Value}(ry:RelV y u):
  KV (kvs.map fun kv=>if kv.1=k then (kv.1,y) else kv) (vs.map fun kv=>if kv.1=k then (kv.1,u) else kv):=by
 unfold KV at r ⊢
 induction r with
 | nil=>exact .nil
 | @cons p q ps qs h t ih =>
  rw[tJ,tJ];refine .cons ?_ ih;obtain⟨h1,h2⟩:=h
  by_cases e:p.1=k
  ·rw[if_pos e,if_pos (h1.symm.trans e)];exact⟨h1,ry⟩
  ·rw[if_neg e,if_neg (fun z=>e (h1.trans z))];exact⟨h1,h2⟩
theorem KV.put {kvs:List (κ×V)}{vs:List (κ×Value)}(r:KV kvs vs)(k:κ){y:V}{u:Value}(ry:RelV y u):KV (xk kvs k y) (stored vs k u):=by
 unfold xk stored;rw[r.any k]
 by_cases e:(vs.any fun kv=>decide (kv.1=k))=true
 ·rw[if_pos e,if_pos e];exact r.repl k ry
 ·rw[if_neg e,if_neg e];exact Paired.snoc r ⟨rfl,ry⟩
theorem KV.length {kvs:List (κ×V)}{vs:List (κ×Value)}(r:KV kvs vs):kvs.length=vs.length:=Paired.length r
end
def kj {P:Program}{w:World}{k:Key}{u:Value}(r:RelV (kV k) u):(zN P w).is k u=true:=by
 cases k with
 | inl i=>obtain⟨t,e⟩:=(show ∃t,u=Value.int i t from r);subst e;exact ZR P w i t
 | inr x=>obtain⟨t,e⟩:=(show ∃t,u=Value.str x t from r);subst e;exact Zm P w x t
 | non=>cases (show u=Value.none from r);exact Zi P w
theorem jZ {P:Program}{w:World}:∀ {ks:List Key} {us:List Value},Vals (ks.map kV) us->ItemsAre (zN P w) ks us
 | [],_,r=>by rw[sP]at r;cases r;exact .nil
 | k::ks,_,r=>by
  rw[tJ]at r;cases r with
  | cons h t=>exact .cons (kj h) (jZ t)
abbrev KT (H:Hp):List (List Key×V)->List (List Key×Addr×Value)->Prop:=Paired fun p q=>p.1=q.1/\H q.2.1=some (.tup (p.1.map kV))/\RelV p.2 q.2.2
theorem KT.val {H:Hp}{kvs:List (List Key×V)}{xs:List (List Key×Addr×Value)}(r:KT H kvs xs)(k:List Key):RelO (wN kvs k) ((atKey xs k).map (·.2)):=by
 induction r with
 | nil=>exact True.intro
 | @cons p q ps qs h t ih =>
  obtain⟨h1,_,h2⟩:=h
  by_cases e:p.1=k
  ·have e':q.1=k:=h1.symm.trans e;have b:atKey (q::qs) k=some q.2:=by simp[atKey,pE,e']
   rw[ud e,b];exact h2
  ·have e':¬q.1=k:=fun z=>e (h1.trans z);have b:atKey (q::qs) k=atKey qs k:=by simp[atKey,pE,e']
   rw[vq e,b];exact ih
def KT.repl {H:Hp}{kvs:List (List Key×V)}{xs:List (List Key×Addr×Value)}(r:KT H kvs xs)(k:List Key){y:V}{u:Value}(ry:RelV y u):
  KT H (kvs.map fun kv=>if kv.1=k then (kv.1,y) else kv) (xs.map (putAt k u)):=by
 induction r with
 | nil=>exact .nil
 | @cons p q ps qs h t ih =>
  rw[tJ,tJ];refine .cons ?_ ih;obtain⟨h1,h2,h3⟩:=h;unfold putAt
  by_cases e:p.1=k
  ·rw[if_pos e,if_pos (h1.symm.trans e)];exact⟨h1,h2,ry⟩
  ·rw[if_neg e,if_neg (fun z=>e (h1.trans z))];exact⟨h1,h2,h3⟩
theorem KT.put {H:Hp}{kvs:List (List Key×V)}{xs:List (List Key×Addr×Value)}(r:KT H kvs xs)(k:List Key){b:Addr}{y:V}{u:Value}(hb:H b=some (.tup (k.map kV)))(ry:RelV y u):
  KT H (xk kvs k y) (storedH xs k b u):=by
 have e:(kvs.any fun kv=>decide (kv.1=k))=(atKey xs k).isSome:=by
  rw[Ze,(r.val k).isSome_eq,Option.isSome_map]
 unfold xk storedH;rw[e]
 by_cases q:(atKey xs k).isSome=true
 ·rw[if_pos q,if_pos q];exact r.repl k ry
 ·rw[if_neg q,if_neg q];exact Paired.snoc r ⟨rfl,hb,ry⟩
def KT.keeps {H H':Hp}{kvs:List (List Key×V)}{xs:List (List Key×Addr×Value)}(r:KT H kvs xs)(ht:∀b ys,H b=some (.tup ys)->H' b=some (.tup ys)):KT H' kvs xs:=
 Paired.mapP r fun _ _ z=>⟨z.1,ht _ _ z.2.1,z.2.2⟩
section
variable {P:Program}{w:World}{H:Hp}{h:Heap}{a:Addr}
def Jd {u:HO}(ok:HOk P w H h)(e:Rd H a u):ObjOk P w H h a u:=e.ok ok
def vK {kvs:List (Key×V)}(ok:HOk P w H h)(e:Rd H a (.dK kvs)):kvs.length<=sizeLine/\(a==sysModules)=false/\∃vs,KV kvs vs/\h.DictOf (zN P w) a vs:=
 show ObjOk P w H h a (.dK kvs) from Jd ok e
def Y6 {kvs:List (Key×V)}(ok:HOk P w H h)(e:H a=some (.dK kvs)):kvs.length<=sizeLine/\(a==sysModules)=false/\∃vs,KV kvs vs/\h.DictOf (zN P w) a vs:=vK ok (.inl e)
def YQ {ks:List Key}(ok:HOk P w H h)(e:H a=some (.tup (ks.map kV))):(tupleKind (zN P w)).is h ks a:=by
 obtain⟨_,its,r,o,h1,h2,_,n,h3⟩:=(show ObjOk P w H h a (.tup (ks.map kV)) from ok a _ e)
 exact⟨o,its.toArray,n,h1,h2,h3,by simpa using jZ r⟩
def Xo {kvs:List (List Key×V)}(ok:HOk P w H h)(e:Rd H a (.dT kvs)):kvs.length<=sizeLine/\(a==sysModules)=false /\
  ∃xs,KT H kvs xs/\h.DictOfH (tupleKind (zN P w)) a xs:=by
 obtain⟨z,y,xs,r,o,es,ep,h1,h2,h3,h4,h5⟩:=(show ObjOk P w H h a (.dT kvs) from Jd ok e)
 refine⟨z,y,xs,r,o,es,ep,h1,h2,h3,h4,fun x hx=>?_,h5⟩;have all:∀ {l:List (List Key×V)} {m:List (List Key×Addr×Value)},KT H l m->∀x∈m,(tupleKind (zN P w)).is h x.1 x.2.1:=by
  intro l m q
  induction q with
  | nil=>intro x hx;exact nomatch hx
  | @cons p q ps qs hq t ih =>
   intro x hx;rcases tV.mp hx with e|hx
   ·subst e;exact YQ ok (by rw[<-hq.1];exact hq.2.1)
   ·exact ih x hx
 exact all r x hx
def z1D {kvs:List (List Key×V)}(ok:HOk P w H h)(e:H a=some (.dT kvs)):kvs.length<=sizeLine/\(a==sysModules)=false /\
  ∃xs,KT H kvs xs/\h.DictOfH (tupleKind (zN P w)) a xs:=Xo ok (.inl e)
end
def DGet (H:Hp)(a:Addr)(y:V)(r:Option V):Prop:=
 (∃kvs k,Rd H a (.dK kvs)/\y=kV k/\r=wN kvs k)\/∃kvs k b,Rd H a (.dT kvs)/\y=.ref b/\H b=some (.tup (k.map kV))/\r=wN kvs k
def DPut (H:Hp)(a:Addr)(y v:V)(H':Hp):Prop:=
 (∃kvs k,H a=some (.dK kvs)/\y=kV k/\kvs.length<sizeLine/\H'=upd H a (.dK (xk kvs k v))) \/
 ∃kvs k b,H a=some (.dT kvs)/\y=.ref b/\H b=some (.tup (k.map kV))/\kvs.length<sizeLine/\H'=upd H a (.dT (xk kvs k v))
theorem DGet.k {H:Hp}{a:Addr}{kvs:List (Key×V)}{k:Key}(e:H a=some (.dK kvs)):DGet H a (kV k) (wN kvs k):=.inl ⟨kvs,k,.inl e,rfl,rfl⟩
theorem DPut.k {H:Hp}{a:Addr}{kvs:List (Key×V)}{k:Key}{v:V}(e:H a=some (.dK kvs))(hl:kvs.length<sizeLine):DPut H a (kV k) v (upd H a (.dK (xk kvs k v))):=.inl ⟨kvs,k,e,rfl,hl,rfl⟩
section
variable {X:Cx}{pins:List (Addr×Obj)}{σ:St}{H:Hp}{s:Shared}{a:Addr}{y v:V}{u r:Value}{o:Option V}{A:Around}{E:Value->Shared->Prop}
theorem Inv.big (I:Inv X pins σ H s):sysModules<s.heap.objs.size:=by
 have h:mainGlobals<s.heap.objs.size:=(I.mod.glob.keeps I.bk).lt;exact Nat.lt_trans (by decide) h
def WG {Q:Value->Shared->Prop}(hu:A.units+1<cLine)(I:Inv X pins σ H s)(g:DGet H a y (some v))(ry:RelV y u)(h:∀w' s',Inv X pins σ H s'->RelV v w'->Q w' s'):
  wpAny (model X.prog X.w) A (getItem (.ref a) u) Q E s:=by
 rcases g with⟨kvs,k,e,ey,l⟩|⟨kvs,k,b,e,ey,eb,l⟩
 ·subst ey;obtain⟨z,hd,vs,rel,dd⟩:=vK I.hok e;obtain⟨w',hw,rw'⟩:=RelO.some_of (v:=v) (o:=valueAt vs k) (by rw[l];exact rel.val k);exact wpAny_getItem_of (kj ry) dd.mapOf hw (h w' _ (I.tok _) rw')
 ·subst ey;cases (show u=Value.ref b from ry);obtain⟨z,hd,xs,rel,dd⟩:=Xo I.hok e;obtain⟨w',hw,rw'⟩:=RelO.some_of (v:=v) (o:=(atKey xs k).map (·.2)) (by rw[l];exact rel.val k);obtain⟨p,hp,hp2⟩:=pC.mp hw;refine wpAny_getItem_heap (tupleKind_room_in1 hu) (YQ I.hok eb) dd hp ?_;rw[hp2];exact h w' _ (I.tok _) rw'
def qt {h':Heap}{t':Nat}{ob:HO}(I:Inv X pins σ H s)(mu:Mut (H a))(hs:Heap.SameBut a s.heap h')(he:∃q,h'.get? a=some q)(new:ObjOk X.prog X.w (upd H a ob) h' a ob):
  Inv X pins σ (upd H a ob) { s with heap:=h',toks:=t' }:=
 I.write (x:=a) (e:=a) mu (.inl rfl) (fun b q hb z=>(hs.2 b hb).trans z) he new
def Yn {P:Program}{w:World}{H':Hp}{h':Heap}{kvs:List (Key×V)}{vs:List (Key×Value)}(z:kvs.length<=sizeLine)(hd:(a==sysModules)=false)(rel:KV kvs vs)(dd:h'.DictOf (zN P w) a vs):
  ObjOk P w H' h' a (.dK kvs):=⟨z,hd,vs,rel,dd⟩
def WB {H':Hp}{Q:Unit->Shared->Prop}(hu:A.units+1<cLine)(I:Inv X pins σ H s)(g:DPut H a y v H')(ry:RelV y u)(rv:RelV v r)(h:∀s',Inv X pins σ H' s'->Q () s'):
  wpAny (model X.prog X.w) A (setItem (.ref a) u r) Q E s:=by
 rcases g with⟨kvs,k,e,ey,l,eH⟩|⟨kvs,k,b,e,ey,eb,l,eH⟩
 ·subst ey eH;obtain⟨z,hd,vs,rel,dd⟩:=Y6 I.hok e;have hz:vs.length<=sizeLine:=by rw[<-rel.length];exact z
  have hl:(xk kvs k v).length<=sizeLine:=by have:=wm kvs k v;omega
  refine wpAny_setItem_pairs (hsz:=hz) (kj ry) dd fun h' dd' hs=>h _ ?_;have he:∃q,h'.get? a=some q:=let ⟨q,_,_,hq,_⟩:=dd';⟨q,hq⟩;exact qt I (by rw[e];exact True.intro) hs he (Yn hl hd (rel.put k rv) dd')
 ·subst ey eH;cases (show u=Value.ref b from ry);obtain⟨z,hd,xs,rel,dd⟩:=z1D I.hok e;have hz:xs.length<=sizeLine:=by rw[<-Paired.length rel];exact z
  have hl:(xk kvs k v).length<=sizeLine:=by have:=wm kvs k v;omega
  refine wpAny_setItem_heap (hsz:=hz) (tupleKind_room_in1 hu) (YQ I.hok eb) dd fun h' dd' hs=>h _ ?_;obtain⟨q,es,ep,hq,h2,h3,h4,_,h5⟩:=dd';refine qt I (by rw[e];exact True.intro) hs ⟨q,hq⟩ ⟨hl,hd,_,(rel.put k eb rv).keeps fun c ys ec=>?_,q,es,ep,hq,h2,h3,h4,h5⟩;rw[zK (z1v ec e (fun z=>nomatch z))];exact ec
end
section
variable {X:Cx}{pins:List (Addr×Obj)}{σ:St}{H:Hp}{s:Shared}{a:Addr}{kvs:List (Key×V)}{k:Key}{u:Value}{A:Around}{E:Value->Shared->Prop}
def z0H {Q:Value->Shared->Prop}(I:Inv X pins σ H s)(e:Rd H a (.dK kvs))(h:∀t s',Inv X pins σ H s'->Q (.int kvs.length t) s'):wpAny (model X.prog X.w) A (call (.builtin "len") [.ref a]) Q E s:=by
 obtain⟨z,hd,vs,rel,dd⟩:=vK I.hok e;refine call_len_dict hd dd (by rw[<-rel.length];rw[sizeLine_eq]at z;omega) ?_;rw[<-rel.length];exact h _ _ (I.tok _)
end
def z0A (i:Expr):Prop:=∀ov iv,subscripted i false ov iv=operate [ov,iv] (getItem ov iv)
def J3 {prog:Program}{w:World}{A:Around}{E:Value->Shared->Prop}{s:Shared}{env:Env}{value slice:Expr}{pos:Pos}{T id:String}{Q:Value->Shared->Prop}
  (hl:typeLookup (.type T) "__getitem__"=pure (some (.builtin id))) (hs:z0A slice)
  (h:wpAny (model prog w) A (eval value env) (fun o s₁=>wpAny (model prog w) A (eval slice env) (fun i s₂=>s₂.TypeIs o T/\wpAny (model prog w) A (getItem o i) Q E s₂) E s₁) E s):
  wpAny (model prog w) A (eval (.Subscript value slice pos) env) Q E s:=by
 refine Subscript_ (wpAny_mono h (fun o s₁ h₁=>wpAny_mono h₁ (fun i s₂ h₂=>?_) fun _ _ x=>x) fun _ _ x=>x);obtain⟨hT,h₂⟩:=h₂;unfold subscriptTail;refine wpAny_bind ?_;rw[getitemInPython_of_ne hT.not_modules];refine wpAny_bind (wpAny_specialOf hT hl ?_);have fin:wpAny (model prog w) A (subscripted slice false o i) (fun r s₃=>wpAny (model prog w) A (letTemporaryGo value o r >>= fun _=>pure r) Q E s₃) E s₂:=by
  rw[hs o i];exact wpAny_operating (wpAny_mono h₂ (fun r s₃ h₃=>wpAny_bind (wpAny_letTemporaryGo (wpAny_pure h₃))) fun _ _ x=>x)
 first
  | exact wpAny_pure (wpAny_bind fin)
  | exact wpAny_bind (wpAny_pure (wpAny_bind fin))
  | exact wpAny_bind fin
def Y7 {X:Cx}{pins:List (Addr×Obj)}{σ:St}{H:Hp}{s:Shared}{a:Addr}{y:V}{o:Option V}(I:Inv X pins σ H s)(g:DGet H a y o):s.TypeIs (.ref a) "dict":=by
 rcases g with⟨kvs,k,e,_,_⟩|⟨kvs,k,b,e,_,_,_⟩
 ·obtain⟨_,_,vs,_,dd⟩:=vK I.hok e;exact dd.typeIs
 ·obtain⟨_,_,xs,_,dd⟩:=Xo I.hok e;exact dd.typeIs
def Ja (td ty:TE):TE:=fun σ H Q=>td σ H fun x H1=>ty σ H1 fun y H2=>∃a v,x=.ref a/\DGet H2 a y (some v)/\Q v H2
def z0P (td ty tv:TE):TS:=fun D σ H=>tv σ H fun v H1=>td σ H1 fun x H2=>ty σ H2 fun y H3=>∃a H4,x=.ref a/\DPut H3 a y v H4/\D.nx σ H4
section
variable {X:Cx}{o i e value:Expr}{pos pos' tpos:Pos}{td ty tv:TE}
def QC (hu:X.A.units+1<cLine)(ho:PE X o td)(hi:PE X i ty)(hs:z0A i):PE X (.Subscript o i pos) (Ja td ty):=by
 intro pins s σ H Q I h;refine J3 PySem.F.slot_dict_getitem.lookup hs (thn (ho pins s σ H _ I h) fun u s1 ⟨x,H1,I1,rx,q1⟩=>thn (hi pins s1 σ H1 _ I1 q1) fun iv s2 ⟨y,H2,I2,ry,a,v,ex,g,q2⟩=>?_);subst ex;obtain rfl:u=Value.ref a:=rx;exact⟨Y7 I2 g,WG hu I2 g ry fun w' s3 I3 rw'=>⟨v,H2,I3,rw',q2⟩⟩
def US (hu:X.A.units+1<cLine)(ho:PE X o td)(hi:PE X i ty)(hv:PE X value tv)(hs:swapsWith value (some (.Subscript o i pos')) pos.line X.env=pure false):
  PS X (.Assign [.Subscript o i pos'] value pos) (z0P td ty tv):=by
 intro pins s σ H D I h;refine wpAny_Assign_Subscript (thn (hv pins s σ H _ I h) fun r s1 ⟨v,H1,I1,rv,q1⟩=>thn (ho pins s1 σ H1 _ I1 q1) fun u s2 ⟨x,H2,I2,rx,q2⟩=>thn (hi pins s2 σ H2 _ I2 q2) fun iv s3 ⟨y,H3,I3,ry,a,H4,ex,g,q3⟩=>?_) hs;subst ex;obtain rfl:u=Value.ref a:=rx;exact WB hu I3 g ry rv fun s4 I4=>⟨σ,H4,I4,q3⟩
end
def ZT {P:Program}{w:World}{H:Hp}(h:Heap)(hb:sysModules<h.objs.size):ObjOk P w H (h.push { cls:=.type "dict",data:=.dict #[] }) h.objs.size (.dK []):=
 ⟨sZ _,beq_eq_false_iff_ne.mpr (Ne.symm (sX hb)),[],.nil,Heap.DictOf.new h⟩
def JI:TE:=fun _ H Q=>∀p,H p=none->Q (.ref p) (upd H p (.dK []))
section
variable {X:Cx}{pos:Pos}
def U6:PE X (.Dict [] [] pos) JI:=fun pins s σ H Q I h =>
 wpAny_Dict_empty ⟨.ref s.heap.objs.size,_,I.laid (a:=s.heap.objs.size) (o:=.dK []) (t':=s.toks) (fun _ _ q=>jYb _ q) (tM _) (ZT s.heap I.big),rfl,h _ (I.hok.fresh (tM _))⟩
end
def Za:List (TE×TE)->St->Hp->(List (V×V)->Hp->Prop)->Prop
 | [],_,H,Q=>Q [] H
 | (tk,tv)::r,σ,H,Q=>tk σ H fun x H1=>tv σ H1 fun y H2=>Za r σ H2 fun ps H3=>Q ((x,y)::ps) H3
abbrev VV:List (V×V)->List (Value×Value)->Prop:=Paired fun p q=>RelV p.1 q.1/\RelV p.2 q.2
def PPs (X:Cx)(pos:Pos)(keys:List (Option Expr))(values:List Expr)(trs:List (TE×TE)):Prop:=
 ∀(pins:List (Addr×Obj)) (s:Shared) (σ:St) (H:Hp) (Q:List (V×V)->Hp->Prop),Inv X pins σ H s->Za trs σ H Q ->
  wpAny (model X.prog X.w) X.A (evalPairs (pairTrees keys values X.env pos)) (fun vs s'=>∃ps H',Inv X pins σ H' s'/\VV ps vs/\Q ps H') X.xe s
def Qa {X:Cx}{pos:Pos}:PPs X pos [] [] []:=fun pins s σ H Q I h=>pairTrees_nil_walk ⟨[],H,I,.nil,h⟩
def WI {X:Cx}{pos:Pos}{k v:Expr}{ks:List (Option Expr)}{vs:List Expr}{tk tv:TE}{trs:List (TE×TE)}(hk:PE X k tk)(hv:PE X v tv)(hr:PPs X pos ks vs trs):
  PPs X pos (some k::ks) (v::vs) ((tk,tv)::trs):=fun pins s σ H Q I h =>
 pairTrees_cons_walk (thn (hk pins s σ H _ I h) fun u s1 ⟨x,H1,I1,rx,q1⟩=>thn (hv pins s1 σ H1 _ I1 q1) fun w2 s2 ⟨y,H2,I2,ry,q2⟩ =>
  thn (hr pins s2 σ H2 _ I2 q2) fun ws s3 ⟨ps,H3,I3,rel,q3⟩=>⟨(x,y)::ps,H3,I3,.cons ⟨rx,ry⟩ rel,q3⟩)
def x5 (kvs more:List (Key×V)):List (Key×V):=more.foldl (fun acc kv=>xk acc kv.1 kv.2) kvs
def KV.merge:∀ {more:List (Key×V)} {rs:List (Key×Value)} {kvs:List (Key×V)} {vs:List (Key×Value)},KV more rs->KV kvs vs->KV (x5 kvs more) (merged vs rs):=by
 intro more rs kvs vs r;unfold KV at r
 induction r generalizing kvs vs with
 | nil=>intro q;exact q
 | @cons p q ps qs h t ih =>
  intro r0;have e:KV (xk kvs p.1 p.2) (stored vs q.1 q.2):=by
   have:=r0.put p.1 h.2;rw[<-h.1];exact this
  exact ih e
theorem vN:∀(more kvs:List (Key×V)),(x5 kvs more).length<=kvs.length+more.length
 | [],kvs=>by show kvs.length<=kvs.length+0;omega
 | p::r,kvs=>by
  have h1:=vN r (xk kvs p.1 p.2);have h2:=wm kvs p.1 p.2;show (x5 (xk kvs p.1 p.2) r).length<=_;rw[tL];omega
theorem j6 {P:Program}{w:World}:∀ {kvs:List (Key×V)} {ws:List (Value×Value)},VV (kvs.map fun kv=>(kV kv.1,kv.2)) ws->∃rs,Carries (zN P w) ws rs/\KV kvs rs
 | [],_,r=>by rw[sP]at r;cases r;exact⟨[],True.intro,.nil⟩
 | p::kvs,_,r=>by
  rw[tJ]at r;cases r with
  | @cons a b as bs h t =>
   obtain⟨rs,c,q⟩:=j6 (P:=P) (w:=w) t;obtain⟨b1,b2⟩:=b;exact⟨(p.1,b2)::rs,⟨kj h.1,rfl,c⟩,.cons ⟨rfl,h.2⟩ q⟩
def z0x (trs:List (TE×TE)):TE:=fun σ H Q=>∀p,H p=none->Za trs σ (upd H p (.dK [])) fun ps H2=>H2 p=some (.dK [])/\∃kvs:List (Key×V),ps=kvs.map (fun kv=>(kV kv.1,kv.2))/\kvs.length<=15/\Q (.ref p) (upd H2 p (.dK (x5 [] kvs)))
def Us {X:Cx}{pos:Pos}{keys:List (Option Expr)}{values:List Expr}{trs:List (TE×TE)}(h:PPs X pos keys values trs)(hall:keys.all (·.isSome)=true)(hl:keys.length=values.length)(h0:keys≠[])
  (h15:keys.length<=15):PE X (.Dict keys values pos) (z0x trs):=by
 intro pins s σ H Q I q;have hn:=I.hok.fresh (tM s.heap.objs.size);have I1:=I.laid (a:=s.heap.objs.size) (o:=.dK []) (h':=s.heap.push { cls:=.type "dict",data:=.dict #[] }) (t':=s.toks) (fun _ _ q=>jYb _ q) (tM _) (ZT s.heap I.big);refine wpAny_Dict_walk (knd:=zN X.prog X.w) hall hl h0 h15 (thn (h pins _ σ _ _ I1 (q _ hn)) fun ws s2 ⟨ps,H2,I2,rel,e,kvs,ep,lk,q2⟩=>?_);subst ep;obtain⟨rs,c,rk⟩:=j6 (P:=X.prog) (w:=X.w) rel;obtain⟨z,hd,vs0,r0,dd⟩:=Y6 I2.hok e;cases r0;refine⟨rs,c,dd,fun h' dd' hs=>⟨.ref s.heap.objs.size,_,?_,rfl,q2⟩⟩;have hz:(x5 [] kvs).length<=sizeLine:=by
  have h1:=vN kvs [];rw[sA]at h1;rw[sizeLine_eq];omega
 have he:∃q,h'.get? s.heap.objs.size=some q:=let ⟨q,_,_,hq,_⟩:=dd';⟨q,hq⟩;exact qt I2 (by rw[e];exact True.intro) hs he (Yn hz hd (rk.merge .nil) dd')
structure M1 (X:Cx)(o:Expr)(m:Str)(apos:Pos)(e:Expr)(cpos:Pos):Prop where
 base:attributeBase o m X.env (eval o X.env)=eval o X.env
 few:((backTo cpos (starEach [e] X.env)).all (fun x=>!x.1)&&(backToKw cpos (keywordEach [] X.env)).all (fun x=>x.1.isSome)
  && decide (([e]:List Expr).length+([]:List Keyword).length+(if ([]:List Keyword).isEmpty then 0 else 1)<30))=true
 line:(apos.endLine==cpos.line)=true
 trees:backTo cpos (starEach [e] X.env)=[(false,eval e X.env)]
structure M2 (X:Cx)(o:Expr)(m:Str)(apos:Pos)(e f:Expr)(cpos:Pos):Prop where
 base:attributeBase o m X.env (eval o X.env)=eval o X.env
 few:((backTo cpos (starEach [e,f] X.env)).all (fun x=>!x.1)&&(backToKw cpos (keywordEach [] X.env)).all (fun x=>x.1.isSome)
  && decide (([e,f]:List Expr).length+([]:List Keyword).length+(if ([]:List Keyword).isEmpty then 0 else 1)<30))=true
 line:(apos.endLine==cpos.line)=true
 trees:backTo cpos (starEach [e,f] X.env)=[(false,eval e X.env),(false,eval f X.env)]
def IsD (H:Hp)(a:Addr):Prop:=(∃kvs,Rd H a (.dK kvs))\/∃kvs,Rd H a (.dT kvs)
def K6 {X:Cx}{pins:List (Addr×Obj)}{σ:St}{H:Hp}{s:Shared}{a:Addr}(I:Inv X pins σ H s)(d:IsD H a):
  s.TypeIs (.ref a) "dict"/\(∀b,Value.ref a=.ref b->∃ob,s.heap.get? b=some ob/\ob.dict=none)/\(a==sysModules)=false:=by
 rcases d with⟨kvs,e⟩|⟨kvs,e⟩
 ·obtain⟨_,hd,vs,_,dd⟩:=vK I.hok e;refine⟨dd.typeIs,fun b q=>?_,hd⟩;cases q;obtain⟨ob,_,_,h1,h2,_⟩:=dd;exact⟨ob,h1,h2.2.1⟩
 ·obtain⟨_,hd,xs,_,dd⟩:=Xo I.hok e;refine⟨dd.typeIs,fun b q=>?_,hd⟩;cases q;obtain⟨ob,_,_,h1,h2,_⟩:=dd;exact⟨ob,h1,h2.2.1⟩
section
variable {X:Cx}{pins:List (Addr×Obj)}{σ:St}{H:Hp}{s:Shared}{a:Addr}{y d:V}{u r:Value}{o:Option V}{A:Around}{E:Value->Shared->Prop}
end
section
variable {X:Cx}{o e f:Expr}{apos cpos:Pos}{td ty tx:TE}
end
section
variable {X:Cx}{pins:List (Addr×Obj)}{σ:St}{H:Hp}{s:Shared}{a:Addr}{kvs:List (Key×V)}{A:Around}{E:Value->Shared->Prop}
end
section
variable {X:Cx}{pins:List (Addr×Obj)}{σ:St}{H:Hp}{s:Shared}{a:Addr}{y:V}{u:Value}{A:Around}{E:Value->Shared->Prop}
end
end L2
namespace Att
open PySem PySem.W PySem.Calls PyProof.Rows
def q5 {P:Params}{h:Heap}:∀(ns:List Int) (vs:List Value),WellAll P h vs (ns.map WData.int)->IntsAre vs ns:=by
 intro ns
 induction ns with
 | nil =>
  intro vs w;rw[sP]at w;cases w;exact .nil
 | cons n ns ih =>
  intro vs w;rw[tJ]at w;cases w with
  | cons a b =>
   cases a;exact .cons _ _ (ih _ b)
def Wq {l:OpenLaw}{n:Nat}(hn:l.most=some n){P:Params}{h:Heap}{args:List WData}{vals:List Value}
  (hpre:l.row.toRowW.claim.pre args=true) (hwl:WellAll P h vals args):
  ∃a vs ns,vals=[Value.ref a]/\args=[WData.list (ns.map WData.int)]/\h.get? a=some { cls:=.type "list",data:=.seq vs.toArray }/\IntsAre vs ns/\ns.length<=n:=by
 have hsh:WShape.hasAll [] args [.list .int]=true:=(pre_splitW hpre).1;have hc:l.pre.holds [] { args:=args }=true:=(pre_splitW hpre).2;obtain⟨d,r,rfl,h1,h2⟩:=hasAllW_cons hsh;obtain rfl:=hasAllW_nil h2;obtain⟨xs,rfl,h3⟩:=hasW_list h1;obtain⟨ns,rfl⟩:=items_int h3;have hlen:ns.length<=n:=by
  unfold OpenLaw.pre at hc;have h4:(WTm.not (.lt (.lit (.int (n:Int))) (.len (.arg 0)))).holds [] { args:=[.list (ns.map .int)] }=true:=by
   have h4:=(holds_andW hc).1;rw[hn]at h4;exact h4
  have h5:=condW_of h4 (w_not (w_lt w_lit (w_len_list (w_arg rfl))));rw[tI]at h5;refine Nat.le_of_not_lt fun q=>?_;have q':(n:Int)<((ns.length:Nat):Int):=by omega
  first
   | (rw[decide_eq_true q']at h5;exact absurd h5 (by decide))
   | (simp at h5;omega)
 cases hwl with
 | cons w1 w2 =>
  cases w2;cases w1 with
  | list ho hall=>exact⟨_,_,ns,rfl,rfl,ho,q5 ns _ hall,hlen⟩
def WE (l:OpenLaw)(args:List WData):l.row.toRowW.claim.post args (.bool true) args=true:=
 postW_of (r:=l.row.toRowW) (X:=(true==true))
  (show WShape.has [] (.bool true) .bool=true by first|rfl|decide|simp[WShape.has,WShape.arms,WShape.armsAll])
  (show (WTm.eq .res (.lit (.bool true))).value [] { args:=args,res:=some (.bool true),after:=args }=some (.bool (true==true)) from w_eq_bool (w_res rfl) w_lit) rfl
def attach_call {l:OpenLaw}{n:Nat}{q:Program}{loose:List Str}{XP:(Str->Option Value)->Heap->Prop}{YP:World->Heap->Prop}{d:DefRec}
  (hn:l.most=some n) (hdf:d.params.defaults=[])
  (call:∀(w:World) (s₀ s₁:Shared) (mg mb:Str->Option Value) (fa:Addr) (o:Obj) (pm cd doc:Value) (a:Addr) (vs:List Value) (ns:List Int),
   Ground q loose [] XP w s₀ mg mb s₁.heap->YP w s₁.heap ->
   s₁.heap.get? fa=some o->o.data=.func (docDef d.name d.params d.body d.scope pm cd doc)->s₁.heap.CodeRec cd d.name->mg d.name=some (.ref fa) ->
   s₁.heap.get? a=some { cls:=.type "list",data:=.seq vs.toArray }->IntsAre vs ns->ns.length<=n->s₁.gens=#[] ->
   codeAny (model l.prog w) callerA (.call (.ref fa) ⟨[.ref a],[]⟩) (fun r s'=>r=.ok (.ret (.bool true))/\OldK s₁.heap s'.heap/\s'.os=s₁.os/\AllBare s'.gens) s₁):
  WalkO q loose XP YP l.row.toRowW d [] (fun f vs=>PySem.call f vs):=by
 intro w s₀ s₁ mg mb G Y fa o pm cd doc dV kV ho hd hcd hD hmg hg args vals as hpre hlay hrd hwl hlo;obtain rfl:dV=.none:=Dflts.none hD hdf;obtain rfl:kV=.none:=Dflts.noKw hD;obtain⟨a,vs,ns,rfl,rfl,hobj,hints,hlen⟩:=Wq hn hpre hwl;refine enter_call (codeAny_mono (call w s₀ s₁ mg mb fa o pm cd doc a vs ns G Y ho (fd_plain hd) hcd hmg hobj hints hlen hg) fun r s' hq=>?_);obtain⟨rfl,h2,h3,h4⟩:=hq;exact⟨.inl ⟨.bool true,.bool true,[],rfl,fun _=>rfl,.bool true,WE l _,fun _=>⟨List.Pairwise.nil,fun _ hm=>(nomatch hm)⟩⟩,h2,h3,h4⟩
section
variable {prog:Program}{w:World}{A:Around}{E:Value->Shared->Prop}{s:Shared}{K:Frag}
end
end Att
namespace L2
open PySem PySem.Spec PyProof.Rows
theorem jJ:∀ {vs:List Value} {ns:List Int},IntsAre vs ns->Vals (ns.map V.int) vs
 | _,_,.nil=>.nil
 | _,_,.cons n t h=>.cons ⟨t,rfl⟩ (jJ h)
def Qe (H:Hp):Prop:=∀b,H b=none\/∃o xs,H b=some (.frz o (.lst xs))
def Vo {P:Program}{w:World}{K:jJa}{mg mb:Str->Option Value}{CX:CXT}{k:Nat}{fa a:Addr}{fd:FuncData}{x:Str}{sp:Sp}{s₁:Shared}{vs:List Value}{ns:List Int}
  (KX:K.In s₁.heap) (hns:s₁.heap.Ns mainGlobals mg) (hb:s₁.heap.Ns builtinsNs mb) (hbb:∀x:Str,x≠"__name__"->mb x=bootBuiltins x) (hlim:s₁.heap.NoLimit) (hg:s₁.gens=#[])
  (ha:s₁.heap.get? a=some { cls:=.type "list",data:=.seq vs.toArray }) (hi:IntsAre vs ns) (hl:ns.length<=sizeLine) (hr:Room k callerA)
  (F:∀base:Heap,K.In base->base.Ns mainGlobals mg->FnOk P w K mg base CX k fa fd [x] sp) (hbind:∀(s:Shared) (u:Value),BindsTo s fd ⟨[u],[]⟩ [(x,u)])
  (hsp:∀H:Hp,Qe H->SqL K H a (ns.map V.int)->sp [.ref a] H (fun v _=>v=.bl true) fun _ _ _=>False)
  (hCX:∀H e s',CX [] H s₁ (fun _ _ _=>False) e s'->False):
  codeAny (model P w) callerA (.call (.ref fa) ⟨[.ref a],[]⟩) (fun r s'=>r=.ok (.ret (.bool true))/\OldK s₁.heap s'.heap/\s'.os=s₁.os/\AllBare s'.gens) s₁:=by
 have rv:=jJ hi;have lenV:=hi.length;have core:∀H:Hp,Qe H->SqL K H a (ns.map V.int)->HOk P w H s₁.heap->(∀b,H b≠none->b=a)->(H a≠none->K.lookup a=none) ->
   codeAny (model P w) callerA (.call (.ref fa) ⟨[.ref a],[]⟩) (fun r s'=>r=.ok (.ret (.bool true))/\OldK s₁.heap s'.heap/\s'.os=s₁.os/\AllBare s'.gens) s₁:=by
  intro H hO hS hok hA hK;have base_of:∀ {b:Addr} {o:Obj},s₁.heap.get? b=some o->H b=none->(kT s₁.heap H).get? b=some o:=fun e n=>Vm e n;have noA:∀ {b:Addr} {o:Obj} {es:Array DictEntry} {ep:Nat},s₁.heap.get? b=some o->o.data=.dict es ep->H b=none:=fun {b o es ep} e d=>by
   cases q:H b with
   | none=>rfl
   | some u =>
    have e':b=a:=hA b (by rw[q];simp);subst e';rw[ha]at e;cases e;have d':Data.seq vs.toArray _=Data.dict es ep:=d;cases d'
  have nsK:∀ {b:Addr} {m:Str->Option Value},s₁.heap.Ns b m->(kT s₁.heap H).Ns b m:=fun {b m} ⟨o,es,ep,e,d,r⟩=>⟨o,es,ep,base_of e (noA e d),d,r⟩
  have hKb:K.In (kT s₁.heap H):=fun b o e=>base_of (KX b o e) (by
   cases q:H b with
   | none=>rfl
   | some u =>
    have e':b=a:=hA b (by rw[q];simp);subst e';rw[hK (by rw[q];simp)]at e;cases e)
  have hM:Mod K mg (kT s₁.heap H):=⟨hKb,nsK hns,⟨mb,nsK hb,hbb⟩,let ⟨mc,h1,h2⟩:=hlim;⟨mc,nsK h1,h2⟩⟩
  have e0:Env0 P w K mg (kT s₁.heap H) callerA [] s₁ H:=⟨rfl,hM,fun b o e=>Q6 e,Nat.le_of_eq (Wr _ _),trivial,fun b hb=>absurd (show b∈([]:List Addr) from hb) (by simp),hok,.of_eq hg⟩
  refine codeAny_mono ((F _ hKb (nsK hns)).run callerA [] s₁ H ⟨[.ref a],[]⟩ [.ref a] [.ref a] _ _ hr e0 (hbind s₁ (.ref a)) (.cons rfl .nil) (hsp H hO hS)) fun r s' h=>?_;cases r with
  | error e=>exact (hCX H e s' h).elim
  | ok fl =>
   cases fl with
   | next=>exact False.elim h
   | brk=>exact False.elim h
   | cont=>exact False.elim h
   | ret u =>
    obtain⟨v,H',os,bare,un,hok',r',q⟩:=h;have q':v=.bl true:=q;subst q';obtain rfl:u=Value.bool true:=r';refine⟨rfl,OldK.of_keep fun b o e=>?_,os,bare⟩;cases q:H b with
    | none=>exact un.keep b o e q (by intro z;exact absurd (show b∈([]:List Addr) from z) (by simp)) (by simp)
    | some u =>
     rcases hO b with z|⟨ob,xs,z⟩
     ·rw[q]at z;cases z
     ·have z2:=un.frzs b ob _ z;obtain⟨e1,_⟩:=hok b _ z;obtain⟨e2,_⟩:=hok' b _ z2;rw[e]at e1;cases e1;exact e2
 cases hk:K.lookup a with
 | some o =>
  have e:=KX a o hk;rw[ha]at e;cases e;refine core (fun _=>none) (fun _=>.inl rfl) (.inr ⟨_,vs.toArray,_,hk,rfl,rfl,rfl,by rw[tS,lenV];exact hl,by simpa using rv⟩) (fun b u z=>by have z':(none:Option HO)=some u:=z;cases z') (fun b z=>absurd rfl z) fun z=>absurd rfl z
 | none =>
  refine core (fun b=>if b=a then some (.frz { cls:=.type "list",data:=.seq vs.toArray } (.lst (ns.map V.int))) else none) (fun b=>?_) (.inl (.inr ⟨{ cls:=.type "list",data:=.seq vs.toArray },if_pos rfl⟩)) (fun b u z=>?_) (fun b z=>?_) fun _=>hk
  ·by_cases hb:b=a
   ·exact .inr ⟨_,_,if_pos hb⟩
   ·exact .inl (if_neg hb)
  ·by_cases hb:b=a
   ·have z':=(if_pos hb).symm.trans z;cases z';subst hb;exact⟨ha,by rw[tI];exact hl,vs,_,rv,ha⟩
   ·have z':=(if_neg hb).symm.trans z;cases z'
  ·by_cases hb:b=a
   ·exact hb
   ·exact absurd (if_neg hb) z
def walk_of {l:PySem.W.OpenLaw}{n k:Nat}{q:Program}{loose:List Str}{XP:(Str->Option Value)->Heap->Prop}{YP:World->Heap->Prop}{d:DefRec}{K:Params->jJa}{CX:World->CXT}{sp:World->Sp}{x:Str}
  (hn:l.most=some n) (hn2:n<=sizeLine) (hdf:d.params.defaults=[]) (hr:Room k callerA)
  (hY:∀(w:World) (h:Heap),YP w h->(K w.params).In h)
  (F:∀(w:World) (mg:Str->Option Value) (fa:Addr) (h:Heap),(K w.params).In h->h.Ns mainGlobals mg->mg d.name=some (.ref fa) ->
   ∃fd:FuncData,(∀(s:Shared) (u:Value),BindsTo s fd ⟨[u],[]⟩ [(x,u)]) /\
    ∀base:Heap,(K w.params).In base->base.Ns mainGlobals mg->FnOk l.prog w (K w.params) mg base (CX w) k fa fd [x] (sp w))
  (hsp:∀(w:World) (H:Hp) (a:Addr) (ns:List Int),ns.length<=n->Qe H->SqL (K w.params) H a (ns.map V.int)->sp w [.ref a] H (fun v _=>v=.bl true) fun _ _ _=>False)
  (hCX:∀(w:World) (H:Hp) (s:Shared) (e:Value) (s':Shared),CX w [] H s (fun _ _ _=>False) e s'->False):
  PySem.W.WalkO q loose XP YP l.row.toRowW d [] (fun f vs=>PySem.call f vs):=by
 refine Att.attach_call hn hdf fun w s₀ s₁ mg mb fa o pm cd doc a vs ns G Y ho hd hcd hmg hobj hints hlen hg=>?_;have KX:=hY w _ Y;obtain⟨fd,hb,hF⟩:=F w mg fa _ KX G.T.g hmg;exact Vo KX G.T.g G.T.b G.T.builtins G.T.nolimit hg hobj hints (rJ hlen hn2) hr hF hb (fun H hO hS=>hsp w H a ns hlen hO hS) fun H e s'=>hCX w H s₁ e s'
def defArgs (s:Stmt):Arguments:=match s with
 | .FunctionDef _ a _ _ _ _ _ _ _ _=>a
 | _=>{ posonlyargs:=[],args:=[],vararg:=none,kwonlyargs:=[],kw_defaults:=[],kwarg:=none,defaults:=[] }
def defBody (s:Stmt):List Stmt:=match s with
 | .FunctionDef _ _ b _ _ _ _ _ _ _=>b
 | _=>[]
def defScope (s:Stmt):Scope:=match s with
 | .FunctionDef _ _ _ _ _ _ sc _ _ _=>sc
 | _=>{ kind:=.function,names:=[],isGenerator:=false,isCoroutine:=false }
abbrev CX0:CXT:=fun _ _ _ _ _ _=>False
structure Fun (K:jJa)(x qual:Str)(st:Stmt)(f:Addr)(fd:FuncData):Prop where
 ex:∃(oc:Value) (od:Option Addr) (kV doc pm:Value) (an:Option Addr) (cdv ct:Value) (osl:Array (Option Value)),
  fd=jJb x qual (defArgs st) (defBody st) (defScope st) .none kV doc pm an cdv ct/\K.lookup f=some ⟨oc,od,.func fd,osl⟩/\jJf K cdv qual=true
 kp:jJe K (.ref f)=true
section
variable {P:Program}{w:World}{K:jJa}{mg:Str->Option Value}{base:Heap}
def Fun.binds {x qual:Str}{st:Stmt}{f:Addr}{fd:FuncData}{ps:List Str}(F:Fun K x qual st f fd)
  (h:∀(kV doc pm:Value) (an:Option Addr) (cdv ct:Value) (us:List Value),us.length=ps.length->bindArgs (jJb x qual (defArgs st) (defBody st) (defScope st) .none kV doc pm an cdv ct) ⟨us,[]⟩=pure (ps.zip us)):Binds K fd ps []:=by
 obtain⟨oc,od,kV,doc,pm,an,cdv,ct,osl,rfl,lk,hcd⟩:=F.ex;exact .all (h kV doc pm an cdv ct)
def VS {x qual:Str}{st:Stmt}{f:Addr}{oc:Value}{od an:Option Addr}{osl:Array (Option Value)}{kV doc pm cdv ct:Value}(l:K.lookup f=some ⟨oc,od,.func (jJb x qual (defArgs st) (defBody st) (defScope st) .none kV doc pm an cdv ct),osl⟩)
  (c:jJf K cdv qual=true) (k:jJe K (.ref f)=true):Fun K x qual st f (jJb x qual (defArgs st) (defBody st) (defScope st) .none kV doc pm an cdv ct):=⟨⟨oc,od,kV,doc,pm,an,cdv,ct,osl,rfl,l,c⟩,k⟩
end
section
variable {X:Cx}
def Wm:CallR X (.builtin "len") (fun xs H Q=>∃a kvs,xs=[V.ref a]/\H a=some (.dK kvs)/\Q (.int kvs.length) H):=by
 intro pins s σ H xs us Q I r h;obtain⟨a,kvs,rfl,ha,q⟩:=h;obtain⟨u,rfl,ru⟩:=wH r;cases ru;exact z0H I (.inl ha) fun t s' I'=>⟨.int kvs.length,H,I',⟨t,rfl⟩,q⟩
end
def Same (H H':Hp):Prop:=∀b o,H b=some o->H' b=some o
theorem Same.refl (H:Hp):Same H H:=fun _ _ h=>h
theorem Same.trans {H H1 H2:Hp}(a:Same H H1)(b:Same H1 H2):Same H H2:=fun c o h=>b c o (a c o h)
theorem Same.free {H H':Hp}(e:Same H H'){l:Addr}(h:H' l=Option.none):H l=Option.none:=by
 cases q:H l with
 | none=>rfl
 | some o =>
  rw[e l o q]at h;cases h
section
variable {κ:Type}[DecidableEq κ]
end
def z0O (fr:List Env)(H:Hp)(old:Addr->Prop)(e:Addr)(cls:Value)(h:Heap):Prop:=
 ∃(B:Heap) (a0:Value),Heap.FlyingW B fr e cls a0 h/\∀b o,h.get? b=some o->b∉frs fr->(H b≠none\/old b)->B.get? b=some o
def cxx (P:Program)(w:World):CXT:=fun outer H s E ev s'=>∃(e:Addr) (cls:Value) (H':Hp),ev=.ref e/\s'.os=s.os/\AllBare s'.gens /\
 Un (frs outer) [] H H' s.heap s'.heap/\HOk P w H' s'.heap/\z0O outer H' (fun b=>∃o,s.heap.get? b=some o) e cls s'.heap/\E cls none H'
theorem ObjOk.there {P:Program}{w:World}{H:Hp}{h:Heap}{a:Addr}{o:HO}(x:ObjOk P w H h a o):∃ob,h.get? a=some ob:=by
 cases o with
 | lst xs=>obtain⟨_,_,_,_,e⟩:=x;exact⟨_,e⟩
 | tup xs=>obtain⟨_,_,_,_,e,_⟩:=x;exact⟨_,e⟩
 | dK kvs=>obtain⟨_,_,_,_,o,_,_,e,_⟩:=x;exact⟨_,e⟩
 | dT kvs=>obtain⟨_,_,_,_,o,_,_,e,_⟩:=x;exact⟨_,e⟩
 | set S n=>obtain⟨o,_,_,_,e,_⟩:=x;exact⟨_,e⟩
 | ins C dx fs=>obtain⟨_,_,_,e,_⟩:=x;exact⟨_,e⟩
 | own y=>obtain⟨_,e⟩:=x;exact⟨_,e⟩
 | xd fs=>obtain⟨_,⟨_,_,_,e,_⟩,_⟩:=x;exact⟨_,e⟩
 | rng lo hi=>obtain⟨_,_,_,e⟩:=x;exact⟨_,e⟩
 | frz ob u=>obtain⟨e,_⟩:=x;exact⟨_,e⟩
 | tbl ps=>obtain⟨_,e,_⟩:=x;exact⟨_,e⟩
 | met f y=>exact⟨_,(show h.get? a=some _ from x)⟩
 | ext φ=>obtain⟨_,⟨_,e⟩,_⟩:=x;exact⟨_,e⟩
section
variable {X:Cx}{pins:List (Addr×Obj)}{σ:St}{H:Hp}{s:Shared}
def Inv.trkNo (I:Inv X pins σ H s){b:Addr}{u:HO}(q:H b=some u):b∉frs X.stack:=fun m=>by
 have z:=I.stkFree b m;rw[q]at z;cases z
def Inv.oldNo (I:Inv X pins σ H s)(hst:X.stack=X.env::X.outer)(hf:X.env.frame=some X.env.locals){b:Addr}{o:Obj}(q:X.s₀.heap.get? b=some o)(n:b∉X.fs):b∉frs X.stack:=fun m=>by
 rcases tV.mp (I.stkSub b m)with z|z
 ·exact absurd z (sX (sN (jYc q) I.ok.above))
 ·exact n z
def Qb {h' B:Heap}{e:Addr}{cls a0:Value}{E:XK}(I:Inv X pins σ H s)(hst:X.stack=X.env::X.outer)(hf:X.env.frame=some X.env.locals)(hex:X.ex=[])
  (fl:Heap.FlyingW B X.outer e cls a0 h') (cov:∀b o,s.heap.get? b=some o->b∉frs X.stack->(H b≠none\/∃o,X.s₀.heap.get? b=some o)->B.get? b=some o)
  (up:s.heap.UpToSlots h') (hE:E cls none H):cxx X.prog X.w X.outer X.H₀ X.s₀ E (.ref e) { s with heap:=h' }:=by
 have nex:∀b:Addr,b∉X.ex:=fun b z=>by rw[hex]at z;cases z
 have trkd:∀b u v,H b=some u->s.heap.get? b=some v->h'.get? b=some v:=fun b u v q r=>fl.1 b v (cov b v r (I.trkNo q) (.inl (by rw[q];simp)));have oldd:∀b o v,X.s₀.heap.get? b=some o->b∉X.fs->s.heap.get? b=some v->h'.get? b=some v:=fun b o v q n r=>fl.1 b v (cov b v r (I.oldNo hst hf q n) (.inr ⟨o,q⟩));have frms:∀b o,b∈X.fs->s.heap.get? b=some o->∃sl,h'.get? b=some { o with slots:=sl }:=fun b o hb q=>by
  obtain⟨_,o2,ho2,nf⟩:=I.funs.mem hb;rw[q]at ho2;cases ho2;exact up b o q nf
 refine⟨e,cls,H,rfl,I.os,I.bare,⟨fun b o q n hb hx=>?_,fun b o q n hb hx=>?_,fun b o q n hx=>I.base.free b o q n (nex b),fun b o q hx=>?_,I.base.tups,I.base.frzs,I.base.tbls⟩,fun b u q=>?_,⟨B,a0,fl,fun b o q n hor=>?_⟩,hE⟩
 ·exact oldd b o o q hb (I.base.keep b o q n hb (nex b))
 ·obtain⟨sl,e1⟩:=I.base.slot b o q n hb (nex b);obtain⟨sl',e2⟩:=frms b _ hb e1;exact⟨sl',e2⟩
 ·obtain⟨o1,e1⟩:=I.base.there b o q (nex b)
  by_cases hb:b∈X.fs
  ·obtain⟨sl,e2⟩:=frms b o1 hb e1;exact⟨_,e2⟩
  ·exact⟨o1,oldd b o o1 q hb e1⟩
 ·refine (I.hok b u q).stay (fun c v hc r=>?_) (fun _ z=>z) fun _ _ z=>z;rcases hc with z|z
  ·exact trkd c u v (by rw[z];exact q) r
  ·exact trkd c _ v z r
 ·have q:h'.get? b=some o:=q;rcases hor with hb|⟨o0,e0⟩
  ·obtain⟨u,hu⟩:=Option.ne_none_iff_exists'.mp hb;obtain⟨o1,e1⟩:=(I.hok b u hu).there;have:=trkd b u o1 hu e1;rw[q]at this;cases this;exact cov b _ e1 (I.trkNo hu) (.inl hb)
  ·obtain⟨o1,e1⟩:=I.base.there b o0 e0 (nex b);have:=oldd b o0 o1 e0 n e1;rw[q]at this;cases this;exact cov b _ e1 (I.oldNo hst hf e0 n) (.inr ⟨o0,e0⟩)
end
section
variable {P:Program}{w:World}{K:jJa}{mg:Str->Option Value}{base:Heap}{N:List Str}{qual:Str}{scope:Scope}{f:Addr}{cd:Value}{A:Around}{outer:List Env}{s:Shared}{H:Hp}{E:XK}
def zt:uz (cxx P w) (uW (cxx P w) P w K mg base N qual scope f cd A outer s H E) E:=by
 intro pins σ H1 s1 ev s' I hq;obtain⟨e,cls,H',rfl,os,bare,un,hok,⟨B,a0,fl,cov⟩,hE⟩:=hq;have I':=I.call' (ch:=[]) os un hok bare (fun b z=>nomatch z);have hfr:(A.deeper (envOfC qual scope s.heap.objs.size f cd)).frames=some (envOfC qual scope s.heap.objs.size f cd::outer):=I.ok.frames;refine wpAny_leaves_onW (L:=s.heap.objs.size) hfr rfl fl fun h' fl' up=>?_;exact Qb (E:=E) I' rfl rfl rfl fl' (fun b o e1 e2 e3=>cov b o e1 e2 (by
  rcases e3 with z|⟨o0,z⟩
  ·exact .inl z
  ·exact .inr (I.base.there b o0 z (fun q=>nomatch q)))) up hE
def uF {X:Cx}:uz (cxx P w) X (fun _ _ _=>False):=fun _ _ _ _ _ _ _ ⟨_,_,_,_,_,_,_,_,_,z⟩=>z.elim
def Kj {outer:List Env}{H:Hp}{s:Shared}{e:Value}{s':Shared}(h:cxx P w outer H s (fun _ _ _=>False) e s'):False:=let ⟨_,_,_,_,_,_,_,_,_,z⟩:=h;z
end
structure ErrCls (K:jJa)(mg:Str->Option Value)(x:Str)(C:Addr)(bm:List Value)(newId:String):Prop where
 gl:mg x=some (.ref C)
 own:∀h:Heap,K.In h->h.Ns mainGlobals mg->OwnCls x C bm newId mg h
structure ErrC (K:jJa)(x:Str)(C:Addr):Prop where
 ns:jJh K mainGlobals x=some (some (.ref C))
 ex:PySem.W.excIn K C [.type "ValueError",.type "Exception",.type "BaseException",.type "object"] "ValueError.__new__"=true
section
variable {X:Cx}{pins:List (Addr×Obj)}{σ:St}{H:Hp}{s:Shared}
end
abbrev Cx.within (X:Cx)(e:Addr)(oe:Obj):Cx:={ X with A:=X.A.mark (some (.ref e)),calm:=false,pn:=X.pn++[(e,oe)],xe:=fun _ _=>False }
section
variable {X:Cx}{pins:List (Addr×Obj)}{σ:St}{H:Hp}{s:Shared}{e:Addr}{oe:Obj}
end
structure ErrI (K:jJa)(C:Addr):Prop where
 ga:jJd K (.ref C) "__getattribute__"=some (some (.builtin "BaseException.__getattribute__"))
 gt:jJd K (.ref C) "__getattr__"=some none
 cl:jJd K (.ref C) "__class__"=some (some (.builtin "object.__class__"))
 sp:jJm K (.builtin "object.__class__") "__get__"=some (some (.builtin "getset_descriptor.__get__"))
 tk:PySem.W.takesIn K (.builtin "object.__class__")=some true
 mo:jJn K C (.type "object")=some true
 mb:jJn K C (.type "BaseException")=some true
 it:(PySem.W.clsIn K C).isSome=true
section
open PySem.W Builtin Builtin.ObjectAttr Builtin.Getset_descriptor
variable {prog:Program}{w:World}{A:Around}{E:Value->Shared->Prop}{s:Shared}{K:Frag}{e C:Addr}
end
section
open PySem.W
variable {K:Frag}{e C:Addr}
end
inductive IsTy (K:jJa) (pn:List (Addr×Obj)) (H:Hp):V->Value->Prop where
 | of {x:V} {t:Value} (h:TyOf K H x t):IsTy K pn H x t
 | frd {a:Addr} {o:Obj} {kvs:List (Key×V)} (e:H a=some (.frz o (.dK kvs))):IsTy K pn H (.ref a) (.type "dict")
 | exc {a C:Addr} {oe:Obj} (hm:(a,oe)∈pn) (hc:oe.cls=.ref C) (c:ErrI K C):IsTy K pn H (.ref a) (.ref C)
inductive ClV:V->Value->Prop where
 | ref (a:Addr):ClV (.ref a) (.ref a)
 | ty (n:String):ClV (.ty n) (.type n)
section
variable {X:Cx}{pins:List (Addr×Obj)}{σ:St}{H:Hp}{s:Shared}
end
def wj (cells:List (Str×Addr)):List (Str×NameKind)->List (Str×Addr)->List (Str×Addr)
 | [],acc=>acc
 | (n,k)::r,acc=>wj cells r (if (k==.free)=true then (n,(cells.lookup n).getD 0)::acc else acc)
def jv {scope:Scope}{env:Env}(h:∀y∈scope.names,y.2=.free->∃c,env.cells.lookup y.1=some c):closureFor scope env=pure (wj env.cells scope.names []):=by
 have go:∀(l:List (Str×NameKind)) (acc:List (Str×Addr)),(∀y∈l,y.2=.free->∃c,env.cells.lookup y.1=some c) ->
   (forIn l acc fun (x:Str×NameKind) (r:List (Str×Addr))=>(if (x.2==.free)=true then (do let a <-cellOf env x.1;pure (ForInStep.yield ((x.1,a)::r))) else pure (ForInStep.yield r):Sem (ForInStep (List (Str×Addr)))))=pure (wj env.cells l acc):=by
  intro l
  induction l with
  | nil=>intro acc _;rfl
  | cons x r ih =>
   intro acc hx;obtain⟨n,k⟩:=x;rw[List.forIn_cons];have hr:=fun acc=>ih acc fun y hy=>hx y (tG _ hy)
   by_cases hk:(k==NameKind.free)=true
   ·obtain⟨c,hc⟩:=hx (n,k) tF (by simpa using hk);have hc':env.cells.lookup n=some c:=hc;have e1:cellOf env n=pure c:=by unfold cellOf;rw[hc']
    simp only[hk,if_true,e1,pure_bind];unfold wj;rw[if_pos hk,hc'];exact hr _
   ·simp only[hk,sS,if_false,pure_bind];unfold wj;rw[if_neg hk];exact hr _
 unfold closureFor;have e:=go scope.names [] h;simp only[bind_pure_comp,map_pure]at e ⊢
 first|exact e|(simp only[e,bind_pure];done)|(rw[show (forIn scope.names ([]:List (Str×Addr)) _)=_ from e];rfl)
theorem uj {cells:List (Str×Addr)}{x:Str}{c:Addr}:∀ {names:List (Str×NameKind)} {acc:List (Str×Addr)},(wj cells names acc).lookup x=some c->acc.lookup x=some c\/((x,NameKind.free)∈names/\c=(cells.lookup x).getD 0)
 | [],acc,h=>.inl h
 | (n,k)::r,acc,h=>by
  unfold wj at h;rcases uj h with z|⟨z,e⟩
  ·by_cases hk:(k==NameKind.free)=true
   ·rw[if_pos hk]at z
    by_cases hx:(x==n)=true
    ·rw[sQ,hx]at z;have e1:x=n:=by simpa using hx
     have e2:k=NameKind.free:=by simpa using hk
     subst e1 e2;exact .inr ⟨tF,(jYe z).symm⟩
    ·have hx':(x==n)=false:=by simpa using hx
     rw[sQ,hx']at z;exact .inl z
   ·rw[if_neg hk]at z;exact .inl z
  ·exact .inr ⟨tG _ z,e⟩
theorem uy {cells:List (Str×Addr)}{x:Str}:∀ {names:List (Str×NameKind)} {acc:List (Str×Addr)},((x,NameKind.free)∈names\/∃c,acc.lookup x=some c)->∃c,(wj cells names acc).lookup x=some c
 | [],acc,h=>by
  rcases h with h|h
  ·cases h
  ·exact h
 | (n,k)::r,acc,h=>by
  unfold wj;refine uy ?_;rcases h with h|⟨c,h⟩
  ·rcases tV.mp h with z|z
   ·cases z;refine .inr ⟨(cells.lookup x).getD 0,?_⟩;rw[if_pos (by decide),sQ];simp only[beq_self_eq_true]
   ·exact .inl z
  ·by_cases hk:(k==NameKind.free)=true
   ·rw[if_pos hk]
    by_cases hx:(x==n)=true
    ·exact .inr ⟨_,by rw[sQ,hx]⟩
    ·have hx':(x==n)=false:=by simpa using hx
     exact .inr ⟨c,by rw[sQ,hx'];exact h⟩
   ·rw[if_neg hk];exact .inr ⟨c,h⟩
theorem xp {env:Env}{x:Str}{k:NameKind}:∀ {names:List (Str×NameKind)},(names.map fun (n,k)=>if (k==NameKind.free&&env.scope.kind==.function&&env.kindOf n==some .cell) then (n,NameKind.cell) else (n,k)).lookup x=some k ->
  ∃k',names.lookup x=some k'/\(k=k'\/(k'=.free/\k=.cell))
 | [],h=>by cases h
 | (n,j)::r,h=>by
  rw[tJ]at h
  by_cases hx:(x==n)=true
  ·refine⟨j,by rw[sQ,hx],?_⟩;dsimp only at h
   by_cases hc:(j==NameKind.free&&env.scope.kind==.function&&env.kindOf n==some .cell)=true
   ·rw[if_pos hc,sQ,hx]at h;simp only[sY]at hc;exact .inr ⟨by simpa using hc.1.1,(jYe h).symm⟩
   ·rw[if_neg hc,sQ,hx]at h;exact .inl (jYe h).symm
  ·have hx':(x==n)=false:=by simpa using hx
   have e:(r.map fun (n,k)=>if (k==NameKind.free&&env.scope.kind==.function&&env.kindOf n==some .cell) then (n,NameKind.cell) else (n,k)).lookup x=some k:=by
    dsimp only at h
    by_cases hc:(j==NameKind.free&&env.scope.kind==.function&&env.kindOf n==some .cell)=true
    ·rw[if_pos hc,sQ,hx']at h;exact h
    ·rw[if_neg hc,sQ,hx']at h;exact h
   obtain⟨k',e1,e2⟩:=xp e;exact⟨k',by rw[sQ,hx'];exact e1,e2⟩
structure CompScope (X:Cx)(N':List Str)(fr:List (Option Nat))(scope:Scope):Prop where
 kind:scope.kind=.function
 nocell:∀y∈scope.names,y.2≠.cell
 loc:∀y∈scope.names,y.2=.local->scope.names.lookup y.1=some .local
 free:∀y∈scope.names,y.2=.free->∃c,X.env.cells.lookup y.1=some c
 len:fr.length=N'.length
 fre:∀(j i:Nat) (x:Str),fr[j]?=some (some i)->N'[j]?=some x->X.N[i]?=some x/\scope.names.lookup x=some .free/\(X.env.kindOf x=some .cell\/X.env.kindOf x=some .free)
def wx (fr:List (Option Nat))(σ:St):St:=fr.map fun o=>o.bind fun i=>(σ[i]?).join
def yD (X:Cx)(scope:Scope)(N':List Str)(s₃:Shared)(H₃:Hp)(fp:List Addr)(pins:List (Addr×Obj)):Cx:=
 { X with N:=N',s₀:=s₃,H₀:=H₃,env:=compEnvC scope (wj X.env.cells scope.names []) s₃.heap.objs.size X.env,outer:=X.stack,stack:=X.stack,ex:=fp,fn:=fun _=>false,pn:=X.pn++pins,xe:=fun _ _=>False }
section
variable {X:Cx}{pins:List (Addr×Obj)}{σ:St}{H:Hp}{s:Shared}{N':List Str}{fr:List (Option Nat)}{scope:Scope}{fp:List Addr}
def xf (S:CompScope X N' fr scope){x:Str}{c:Addr}(h:(wj X.env.cells scope.names []).lookup x=some c):X.env.cells.lookup x=some c:=by
 rcases uj h with z|⟨z,e⟩
 ·cases z
 ·obtain⟨c',hc⟩:=S.free _ z rfl;have hc:X.env.cells.lookup x=some c':=hc;rw[hc]at e;rw[hc,e];rfl
def Qj (I:Inv X pins σ H s)(S:CompScope X N' fr scope)(hf:∀b∈fp,qf X pins H b)(hlt:∀b∈fp,b<s.heap.objs.size):(yD X scope N' s H fp pins).Ok:=by
 refine⟨I.ok.mod,S.kind,I.ok.glob,I.ok.blt,tM _,fun x y c h1 h2=>I.ok.inj x y c (xf S h1) (xf S h2),fun x hx=>?_,(fun x c z=>by cases z),I.ok.hd,I.ok.frames,.inl rfl,fun b hb=>⟨sX (hlt b hb),fun x c h=>(hf b hb).2.2.2.2.1 x c (xf S h)⟩,
  I.bs,rJ I.ok.bsz I.sz,fun b o e hb=>?_,fun b hb hm=>?_,I.stack,I.stkFree⟩
 ·have hx:(relabel scope X.env).names.lookup x=some .cell\/(relabel scope X.env).names.lookup x=some .free:=hx;have key:scope.names.lookup x=some .free:=by
   rcases hx with h|h
   ·obtain⟨k',e1,e2⟩:=xp h;rcases e2 with z|⟨z,_⟩
    ·exact absurd z.symm (S.nocell _ (PySem.mem_of_lookup e1))
    ·rw[e1,z]
   ·obtain⟨k',e1,e2⟩:=xp h;rcases e2 with z|⟨_,z⟩
    ·rw[e1,<-z]
    ·cases z
  exact uy (.inl (PySem.mem_of_lookup key))
 ·rcases (hf b hb).2.2.2.1 with z|z
  ·exact I.ok.noex b o e z
  ·exact absurd (sN (jYc e) (rJ I.ok.bsz z)) (pF _)
 ·rcases tV.mp (I.stkSub b hm)with z|z
  ·exact (hf b hb).2.1 z
  ·exact (hf b hb).2.2.1 z
def UY {h':Heap}{m:Str->Option Value}{tk:Nat}(I:Inv X pins σ H s)(S:CompScope X N' fr scope)(hf:∀b∈fp,qf X pins H b)(hlt:∀b∈fp,b<s.heap.objs.size)(hn:h'.Ns s.heap.objs.size m)
  (hk:∀b o,s.heap.get? b=some o->h'.get? b=some o):Inv (yD X scope N' s H fp pins) [] (wx fr σ) H { s with heap:=h',toks:=tk }:=by
 refine⟨Qj I S hf hlt,rfl,I.bare,Un.kept hk,⟨m,hn,fun j x v e1 e2 e3=>?_⟩,fun x c h=>?_,I.hok.fresh (tM _),fun x c h=>I.freeC x c (xf S h),fun p hp=>?_,I.hok.kept hk,by unfold wx;rw[tI];exact S.len⟩
 ·have e1:N'[j]?=some x:=e1;unfold wx at e2;rw[sJ]at e2;cases hj:fr[j]? with
  | none=>rw[hj]at e2;cases e2
  | some o =>
   rw[hj]at e2;cases o with
   | none=>cases e2
   | some i =>
    have e2:(σ[i]?).join=some v:=jYe e2;have e2':σ[i]?=some (some v):=by
     cases hq:σ[i]? with
     | none=>rw[hq]at e2;cases e2
     | some w=>rw[hq]at e2;rw[show w=some v from e2]
    obtain⟨n1,n2,n3⟩:=S.fre j i x hj e1;obtain⟨m0,hn0,hl⟩:=I.loc;have hvis:Vis X.env.scope x:=by
     rcases n3 with z|z
     ·exact .inr (.inl z)
     ·exact .inr (.inr z)
    obtain⟨u,r,l⟩:=hl i x v n1 e2' hvis;refine⟨u,r,.inr ⟨?_,?_⟩⟩
    ·have hh:∀ {names:List (Str×NameKind)},names.lookup x=some .free->(names.map fun (n,k)=>if (k==NameKind.free&&X.env.scope.kind==.function&&X.env.kindOf n==some .cell) then (n,NameKind.cell) else (n,k)).lookup x=some .cell \/
       (names.map fun (n,k)=>if (k==NameKind.free&&X.env.scope.kind==.function&&X.env.kindOf n==some .cell) then (n,NameKind.cell) else (n,k)).lookup x=some .free:=by
      intro names
      induction names with
      | nil=>intro z;cases z
      | cons y r ih =>
       obtain⟨n,k⟩:=y;intro z;rw[tJ];dsimp only
       by_cases hx:(x==n)=true
       ·rw[sQ,hx]at z
        by_cases hc:(k==NameKind.free&&X.env.scope.kind==.function&&X.env.kindOf n==some .cell)=true
        ·rw[if_pos hc];exact .inl (by rw[sQ,hx])
        ·rw[if_neg hc];exact .inr (by rw[sQ,hx];exact z)
       ·have hx':(x==n)=false:=by simpa using hx
        rw[sQ,hx']at z;have:=ih z
        by_cases hc:(k==NameKind.free&&X.env.scope.kind==.function&&X.env.kindOf n==some .cell)=true
        ·rw[if_pos hc,sQ,hx'];exact this
        ·rw[if_neg hc,sQ,hx'];exact this
     exact hh n2
    ·rcases l with⟨k,_⟩|⟨k,c,e,z⟩
     ·rcases n3 with q|q
      ·rw[q]at k;cases k
      ·rw[q]at k;cases k
     ·obtain⟨c',hc'⟩:=uy (cells:=X.env.cells) (x:=x) (names:=scope.names) (acc:=[]) (.inl (PySem.mem_of_lookup n2));have e':=xf S hc';rw[e]at e';cases e';obtain⟨o,ho,hd⟩:=z;exact⟨c,hc',o,hk _ _ ho,hd⟩
 ·obtain⟨v,o,ho,hd⟩:=I.cell x c (xf S h);exact⟨v,o,hk _ _ ho,hd⟩
 ·have hp:p∈(X.pn++pins)++[]:=hp;rw[tQ]at hp;obtain⟨q,n,ne,nf,d⟩:=I.pin p hp;refine⟨hk _ _ q,n,sX (jYc q),fun hm=>?_,d⟩;rcases tV.mp (I.stkSub p.1 hm)with z|z
  ·exact ne z
  ·exact nf z
end
section
variable {X:Cx}{pins:List (Addr×Obj)}{σ τ:St}{H H₃ H5:Hp}{s₃ s5:Shared}{N':List Str}{scope:Scope}{fp:List Addr}
def U0 {h':Heap}(I:Inv X pins σ H₃ s₃)(J:Inv (yD X scope N' s₃ H₃ fp pins) [] τ H5 s5)(hf:∀b∈fp,qf X pins H₃ b)(hs:Heap.SameBut s₃.heap.objs.size s5.heap h'):Inv X pins σ H5 { s5 with heap:=h' }:=by
 have hb:∀b o,s₃.heap.get? b=some o->b≠s₃.heap.objs.size:=fun b o q=>sX (jYc q);have u:Un (frs X.stack) fp H₃ H5 s₃.heap s5.heap:=J.base;refine I.call' (s':={ s5 with heap:=h' }) (ch:=fp) J.os ⟨fun b o q n h1 h2=>(hs.2 b (hb b o q)).trans (u.keep b o q n h1 h2),fun b o q n h1 h2=>?_,u.free,fun b o q h2=>?_,u.tups,u.frzs,u.tbls⟩ (fun b ob q=>?_) J.bare (fun b m=>⟨(hf b m).2.2.2.1,(hf b m).2.1,(hf b m).2.2.2.2.1,(hf b m).2.2.2.2.2⟩)
 ·obtain⟨sl,e⟩:=u.slot b o q n h1 h2;exact⟨sl,(hs.2 b (hb b o q)).trans e⟩
 ·obtain⟨o',e⟩:=u.there b o q h2;exact⟨o',(hs.2 b (hb b o q)).trans e⟩
 ·have fr:H5 s₃.heap.objs.size=none:=J.free;refine (J.hok b ob q).stay (fun c v hc r=>(hs.2 c ?_).trans r) (fun _ z=>z) fun _ _ z=>z;rintro rfl;rcases hc with rfl|hc
  ·rw[fr]at q;cases q
  ·rw[fr]at hc;cases hc
end
def PTs (X:Cx)(ifs:List Expr)(t:TT):Prop:=
 ∀(pins:List (Addr×Obj)) (s:Shared) (σ:St) (H:Hp) (Q:Bool->Hp->Prop),Inv X pins σ H s->t σ H Q ->
  wpAny (model X.prog X.w) X.A (forIn ifs true fun c r=>if r=true then do let ok <-isTrue c X.env (eval c X.env);pure (ForInStep.yield ok) else pure (ForInStep.yield r)) (TP X pins σ Q) X.xe s
def z0y:TT:=fun _ H Q=>Q true H
def Uk {X:Cx}:PTs X [] z0y:=fun _ _ _ H _ I h=>wpAny_tests_nil ⟨H,I,h⟩
def VG (fr:List (Option Nat))(wi:TI)(g:TG)(tc:TT)(te:TE):TE:=fun σ H Q=>wi σ H fun J H1=>∀D,H1 D=none ->
 ∃W:Nat->Nat->List V->St->Hp->Prop,(∃m,W 0 m [] (wx fr σ) (upd H1 D (.lst [])))/\∀i m ys τ H2,W i m ys τ H2->H2 D=some (.lst ys) /\
  ((J.stop i H2/\Q (.ref D) H2)\/(J.go i H2/\∀x H3,J.yld i H2 x H3->g x τ H3 fun τ' H4=>tc τ' H4 fun b H5=>if b=true then te τ' H5 fun y H6=>H6 D=some (.lst ys)/\ys.length<sizeLine/\∃m',m'<m/\W (i+1) m' (ys++[y]) τ' (upd H6 D (.lst (ys++[y])))
   else ∃m',m'<m/\W (i+1) m' ys τ' H5))
def Uc {X:Cx}{N':List Str}{fr:List (Option Nat)}{scope:Scope}{tg iter elt:Expr}{ifs:List Expr}{wi:TI}{g:TG}{tc:TT}{te:TE}{pos cp:Pos}{use:Option (Value->Sem Unit)}{Qf:Value->Shared->Prop}(hc:X.calm=true)(S:CompScope X N' fr scope)(hi:PI X tg iter wi)
  (hg:∀s₃ H₃ fp pins,PG (yD X scope N' s₃ H₃ fp pins) tg g) (ht:∀s₃ H₃ fp pins,PTs (yD X scope N' s₃ H₃ fp pins) ifs tc) (he:∀s₃ H₃ fp pins,PE (yD X scope N' s₃ H₃ fp pins) elt te)
  (hs:∀x,foldedSetIterable iter X.env x=pure x) {pins:List (Addr×Obj)} {s:Shared} {σ:St} {H:Hp} {Q:VK} (I:Inv X pins σ H s) (h:VG fr wi g tc te σ H Q)
  (hfin:∀(s₃:Shared) (H₃:Hp) (fp:List Addr) (D:Addr) (s6:Shared) (τ:St) (H5:Hp) (fl:Flow),Inv X pins σ H₃ s₃->(∀b∈fp,qf X pins H₃ b)->Inv (yD X scope N' s₃ H₃ fp pins) [] τ H5 s6->Q (.ref D) H5 ->
   compPost (model X.prog X.w) X.A X.xe use Qf (.ref D) s₃.heap.objs.size (.ok fl) s6):
  wpAny (model X.prog X.w) X.A (comprehension (.ListComp elt [⟨tg,iter,ifs,0⟩] scope pos) scope X.env cp (newList []) false (eval iter X.env) use) Qf X.xe s:=by
 refine wpAny_comprehension_free (use:=use) rfl hs (jv S.free) S.kind S.loc ?_;refine thn (hi pins s σ H _ I h) fun v s1 h1=>thn h1 fun itv s2 h2=>?_;obtain⟨it,fp,tn,J,H2,rfl,I2,T,st2,f2,hW⟩:=h2;refine wpAny_newObj_type ?_ (by size_fits);have hD:H2 s2.heap.objs.size=none:=I2.hok.fresh (tM _);have I3:Inv X pins σ (upd H2 s2.heap.objs.size (.lst [])) { s2 with heap:=s2.heap.push { cls:=.type "list",data:=.seq ([]:List Value).toArray },toks:=s2.toks }:=
  I2.laid (fun b u e=>jYb _ e) (tM _) ⟨sZ _,[],0,.nil,jYd _ rfl⟩
 generalize eD:s2.heap.objs.size=D at I3 hD ⊢;generalize eH:upd H2 D (.lst [])=H3 at I3;have f3:∀b∈fp,qf X pins H3 b:=fun b hb=>by
  obtain⟨g0,g1⟩:=f2 b hb;refine⟨?_,g1⟩;obtain⟨o,ho,_⟩:=T.obj 0 _ st2 b hb;rw[<-eH,zK (by rw[<-eD];exact sX (jYc ho))];exact g0
 have lt3:∀b∈fp,b<(s2.heap.push { cls:=.type "list",data:=.seq ([]:List Value).toArray }).objs.size:=fun b hb=>by
  obtain⟨o,ho,_⟩:=T.obj 0 _ st2 b hb;rw[Heap.size_push];exact Nat.lt_succ_of_lt (jYc ho)
 have st3:tn 0 (s2.heap.push { cls:=.type "list",data:=.seq ([]:List Value).toArray }):=T.keep _ _ _ st2 fun b _ o e=>jYb _ e;obtain⟨W,⟨m0,w0⟩,turn⟩:=hW D hD;rw[eH]at w0;generalize es3:({ s2 with heap:=s2.heap.push { cls:=.type "list",data:=.seq ([]:List Value).toArray },toks:=s2.toks }:Shared)=s3 at I3;have lt3:∀b∈fp,b<s3.heap.objs.size:=by rw[<-es3];exact lt3
 have st3:tn 0 s3.heap:=by rw[<-es3];exact st3
 refine wpAny_newFunctionEnv S.nocell (by intro y hy;cases hy) (fun h4 hn4 hsb4=>?_) S.kind;have k4:∀b o,s3.heap.get? b=some o->h4.get? b=some o:=fun b o e=>(hsb4.2 b (sX (jYc e))).trans (jYb _ e);have I4:Inv (yD X scope N' s3 H3 fp pins) [] (wx fr σ) H3 { s3 with heap:=h4,toks:=s3.toks+([]:List (Str×Value)).length }:=UY I3 S f3 lt3 hn4 k4;have st4:tn 0 h4:=T.keep _ _ _ st3 fun b _ o e=>k4 b o e;have stat:∀ {H':Hp} {p':List (Addr×Obj)},p'=[]->(∀b∈fp,H' b=none)->∀b∈fp,qf (yD X scope N' s3 H3 fp pins) p' H' b:=fun {H' p'} hp hn b hb=>by
  subst hp;obtain⟨g0,g1,g2,g3,g4,g5⟩:=f3 b hb;refine⟨hn b hb,sX (lt3 b hb),fun hm=>?_,.inl hb,fun x c h=>g4 x c (xf S h),fun p hp=>?_⟩
  ·rcases tV.mp (I3.stkSub b hm)with z|z
   ·exact g1 z
   ·exact g2 z
  ·have hp:p∈(X.pn++pins)++[]:=hp;rw[tQ]at hp;exact g5 p hp
 have loop:∀s':Shared,s'={ s3 with heap:=h4,toks:=s3.toks+([]:List (Str×Value)).length }->codeAny (model X.prog X.w) X.A (.compLoop (.ListComp elt [⟨tg,iter,ifs,0⟩] scope pos) 0 (.ref it) (.ref D) (compEnvC scope (wj X.env.cells scope.names []) s3.heap.objs.size X.env))
   (compPost (model X.prog X.w) X.A X.xe use Qf (.ref D) s3.heap.objs.size) s':=by
  rintro s' rfl;refine codeAny_loop rfl (fun n s'=>∃i ys τ H',Inv (yD X scope N' s3 H3 fp pins) [] τ H' s'/\tn i s'.heap/\(∀b∈fp,H' b=none)/\W i n ys τ H') ?_ m0 ⟨0,[],_,H3,I4,st4,fun b hb=>(f3 b hb).1,w0⟩;rintro n s5 ⟨i,ys,τ,H5,I5,st5,fr5,w5⟩;show wpAny _ X.A ((compTurn (.ListComp elt [⟨tg,iter,ifs,0⟩] scope pos) 0 (.ref it) (.ref D) (compEnvC scope (wj X.env.cells scope.names []) s3.heap.objs.size X.env)).onRaise (fun x=>do noteFrame x (compEnvC scope (wj X.env.cells scope.names []) s3.heap.objs.size X.env);theTreesLotGoes x)) _ _ s5;refine wpAny_noted ?_;rw[compTurn_list];obtain⟨hDy,hor⟩:=turn i n ys τ H5 w5;rcases hor with⟨stop,q⟩|⟨go,step⟩
  ·refine wpAny_bind (wpAny_standAt (wpAny_bind (thn (T.done (yD X scope N' s3 H3 fp pins) rfl rfl rfl hc i [] s5 τ H5 _ I5 (stat rfl fr5) st5 stop) fun r s6 ⟨hr,I6⟩=>?_)));subst hr;exact wpAny_pure (hfin s3 H3 fp D s6 τ H5 _ I3 f3 I6 q)
  ·refine wpAny_bind (wpAny_standAt (wpAny_bind (thn (T.item (yD X scope N' s3 H3 fp pins) rfl rfl rfl hc i [] s5 τ H5 _ I5 (stat rfl fr5) st5 go) fun r s6 ⟨u,hr,h6⟩=>?_)));subst hr;refine wpAny_bind (thn h6 fun _ s7 ⟨x,H7,I7,r7,y7,st7,fr7⟩=>?_);have I7':=I7.pinned (stat rfl fr7) (T.obj _ _ st7);refine wpAny_bind (wpAny_mono (hg s3 H3 fp pins _ s7 τ H7 x u _ I7' r7 (step x H7 y7)) (fun _ s8 ⟨τ8,H8,I8,q8⟩=>?_) fun _ _ z=>False.elim z);refine wpAny_bind (wpAny_mono (ht s3 H3 fp pins _ s8 τ8 H8 _ I8 q8) (fun b s9 ⟨H9,I9,q9⟩=>?_) fun _ _ z=>False.elim z);have again:∀ {s':Shared} {H':Hp},Inv (yD X scope N' s3 H3 fp pins) ([]++qQ fp s7.heap) τ8 H' s'->tn (i+1) s'.heap/\∀b∈fp,H' b=none:=fun {s' H'} I'=>by
    refine⟨T.keep _ _ _ st7 fun b hb o e=>(I'.pin (b,o) (tN _ (tN _ (wK hb e)))).1,fun b hb=>?_⟩;obtain⟨o,e,d⟩:=T.obj _ _ st7 b hb;exact (I'.pin (b,o) (tN _ (tN _ (wK hb e)))).2.1
   cases b with
   | false =>
    rw[if_neg tH]at q9;obtain⟨m',hm,w9⟩:=q9;obtain⟨a1,a2⟩:=again I9;refine wpAny_pure ⟨rfl,m',hm,i+1,ys,τ8,H9,I9.unpinned,a1,a2,w9⟩
   | true =>
    rw[if_pos rfl]at q9;refine wpAny_bind (wpAny_bind (wpAny_mono (he s3 H3 fp pins _ s9 τ8 H9 _ I9 q9) (fun yv s10 ⟨y,H10,I10,r10,hD10,hz,m',hm,w10⟩=>?_) fun _ _ z=>False.elim z));refine wpAny_bind (wpAny_mono (vA (X:=yD X scope N' s3 H3 fp pins) _ s10 τ8 H10 (.ref D) [y] (.ref D) [yv] (fun _ H11=>H11=upd H10 D (.lst (ys++[y]))) I10 rfl (.cons r10 .nil) ⟨D,ys,y,rfl,rfl,hD10,hz,rfl⟩) (fun _ s11 ⟨_,H11,I11,_,q11⟩=>?_) fun _ _ z=>False.elim z);subst q11;obtain⟨a1,a2⟩:=again I11;exact wpAny_pure (wpAny_pure ⟨rfl,m',hm,i+1,ys++[y],τ8,_,I11.unpinned,a1,a2,w10⟩)
 exact codeAny_compStart_list (loop _ rfl) (T.self _ 0 _ _ _ st4 (loop _ rfl))
def UN {X:Cx}{N':List Str}{fr:List (Option Nat)}{scope:Scope}{tg iter elt:Expr}{ifs:List Expr}{wi:TI}{g:TG}{tc:TT}{te:TE}{pos:Pos}(hc:X.calm=true)(S:CompScope X N' fr scope)(hi:PI X tg iter wi)
  (hg:∀s₃ H₃ fp pins,PG (yD X scope N' s₃ H₃ fp pins) tg g) (ht:∀s₃ H₃ fp pins,PTs (yD X scope N' s₃ H₃ fp pins) ifs tc) (he:∀s₃ H₃ fp pins,PE (yD X scope N' s₃ H₃ fp pins) elt te)
  (hs:autoParam (∀x,foldedSetIterable iter X.env x=pure x) au2._auto_1):PE X (.ListComp elt [⟨tg,iter,ifs,0⟩] scope pos) (VG fr wi g tc te):=by
 intro pins s σ H Q I h;rw[eval_ListComp];refine Uc (use:=none) hc S hi hg ht he hs I h fun s3 H3 fp D s6 τ H5 fl I3 f3 I6 q=>?_;obtain⟨m6,hn6,_⟩:=I6.loc;exact⟨m6,hn6,fun h7 hs7=>⟨.ref D,H5,U0 I3 I6 f3 hs7,rfl,q⟩⟩
section
variable {X:Cx}
end
def KQ (x:Str)(i:Nat)(v:V):Prop:=∃c,x.cps[i]?=some c/\v=.str ⟨#[c]⟩
def Its (x:Str):It:=⟨fun i _=>i<x.cps.size,fun i H v H'=>H'=H/\KQ x i v,fun i _=>x.cps.size<=i⟩
def YF {P:Program}{w:World}{K:jJa}{tg:Expr}(x:Str)(t:Tok)(it:Addr):Turn P w K tg (Its x) [it] it (fun i h=>h.IsStrIter it "str_ascii_iterator" x t i) where
 mem:=by simp
 obj:=fun i h st b hb=>by
  have e:b=it:=by simpa using hb
  subst e;obtain⟨o,e,c,d⟩:=st;exact⟨o,e,fun v z=>by rw[d]at z;cases z⟩
 keep:=fun i h h' st k=>let ⟨o,ho,r⟩:=st;⟨o,k it (by simp) o ho,r⟩
 item:=by
  intro X hP hw hK hc i pins s σ H E I hf st hg;subst hP hw hK;have hg:i<x.cps.size:=hg;obtain⟨f0,f1,f2,f3,f4,f5⟩:=hf it (by simp);refine wpAny_pyNext_ascii_item st (c:=x.cps[i]) (by simp[hg]) fun h' st' sb=>?_;have I1:Inv X pins σ H { s with heap:=h',toks:=s.toks+1 }:=I.turned (fun b o hb e=>(sb.2 b hb).trans e) f0 f1 f3 f4 f5;obtain⟨o,e,c,d⟩:=id st';exact⟨_,rfl,Zo (s:={ s with heap:=h',toks:=s.toks+1 }) e c d (by decide) ⟨.str ⟨#[x.cps[i]]⟩,H,I1,⟨_,rfl⟩,⟨rfl,_,by simp[hg],rfl⟩,st',fun b hb=>(hf b hb).1⟩⟩
 done:=by
  intro X hP hw hK hc i pins s σ H E I hf st hg;subst hP hw hK;have hg:x.cps.size<=i:=hg;obtain⟨f0,f1,f2,f3,f4,f5⟩:=hf it (by simp);exact wpAny_pyNext_ascii_end (I.ok.hd hc) st (by simp[hg]) fun h' eb=>⟨rfl,I.turned (t':=s.toks) (fun b o hb e=>eb b o hb e) f0 f1 f3 f4 f5⟩
 self:=fun _ _ _ _ _ st h=>wpAny_pyIter_striter_ascii st h
def Wd {P:Program}{w:World}{K:jJa}{tg:Expr}(x:Str)(t:Tok)(it:Addr):Turn P w K tg (Its x) [it] it (fun i h=>h.IsStrIter it "str_iterator" x t i) where
 mem:=by simp
 obj:=fun i h st b hb=>by
  have e:b=it:=by simpa using hb
  subst e;obtain⟨o,e,c,d⟩:=st;exact⟨o,e,fun v z=>by rw[d]at z;cases z⟩
 keep:=fun i h h' st k=>let ⟨o,ho,r⟩:=st;⟨o,k it (by simp) o ho,r⟩
 item:=by
  intro X hP hw hK hc i pins s σ H E I hf st hg;subst hP hw hK;have hg:i<x.cps.size:=hg;obtain⟨f0,f1,f2,f3,f4,f5⟩:=hf it (by simp);refine wpAny_pyNext_wide_item st (c:=x.cps[i]) (by simp[hg]) fun h' st' sb=>?_;have I1:Inv X pins σ H { s with heap:=h',toks:=s.toks+1 }:=I.turned (fun b o hb e=>(sb.2 b hb).trans e) f0 f1 f3 f4 f5;obtain⟨o,e,c,d⟩:=id st';exact⟨_,rfl,Zo (s:={ s with heap:=h',toks:=s.toks+1 }) e c d (by decide) ⟨.str ⟨#[x.cps[i]]⟩,H,I1,⟨_,rfl⟩,⟨rfl,_,by simp[hg],rfl⟩,st',fun b hb=>(hf b hb).1⟩⟩
 done:=by
  intro X hP hw hK hc i pins s σ H E I hf st hg;subst hP hw hK;have hg:x.cps.size<=i:=hg;obtain⟨f0,f1,f2,f3,f4,f5⟩:=hf it (by simp);exact wpAny_pyNext_wide_end (I.ok.hd hc) st (by simp[hg]) fun h' eb=>⟨rfl,I.turned (t':=s.toks) (fun b o hb e=>eb b o hb e) f0 f1 f3 f4 f5⟩
 self:=fun _ _ _ _ _ st h=>wpAny_pyIter_striter_wide st h
def z0i (te:TE):TI:=fun σ H R=>te σ H fun v H1=>∃x,v=.str x/\R (Its x) H1
def z04 {X:Cx}{tg e:Expr}{te:TE}(he:PE X e te):PI X tg e (z0i te):=by
 intro pins s σ H R I h;refine thn (he pins s σ H _ I h) fun v s1 ⟨y,H1,I1,r1,q1⟩=>?_;obtain⟨x,rfl,q⟩:=q1;obtain⟨t,rfl⟩:=r1;cases ha:x.cps.all (·<128)
 ·refine wpAny_pyIter_wide ha ?_;refine⟨s1.heap.objs.size,[s1.heap.objs.size],_,_,H1,rfl,I1.kept (t':=s1.toks) fun b o e=>jYb _ e,Wd x t _,⟨_,jYd _ rfl,rfl,rfl⟩,fun b hb=>?_,q⟩;have e:b=s1.heap.objs.size:=by simpa using hb
  subst e;exact I1.fpOk (tM _) (I1.hok.fresh (tM _))
 ·refine wpAny_pyIter_ascii ha ?_;refine⟨s1.heap.objs.size,[s1.heap.objs.size],_,_,H1,rfl,I1.kept (t':=s1.toks) fun b o e=>jYb _ e,YF x t _,⟨_,jYd _ rfl,rfl,rfl⟩,fun b hb=>?_,q⟩;have e:b=s1.heap.objs.size:=by simpa using hb
  subst e;exact I1.fpOk (tM _) (I1.hok.fresh (tM _))
section
variable {X:Cx}
def z29:V->Option Int->Option Int->Hp->VK->Prop:=fun x lo hi H Q=>∃z,x=.str z/\z.length<=sizeLine/\Q (.str (Txt.slice z lo hi)) H
def JE:SlR X z29:=by
 intro pins s σ H x v vl vu lo hi sl Q I rx hs pl pu h;obtain⟨z,rfl,hz,q⟩:=h;obtain⟨t,rfl⟩:=rx;refine⟨"str",_,F.slot_str_getitem.lookup,typeIs_str _ _ _,?_⟩;have fin:∀(l u:Option (Int×Tok)),vl=partValue l->vu=partValue u->l.map (·.1)=lo->u.map (·.1)=hi->wpAny (model X.prog X.w) X.A (getItem (.str z t) (.ref sl)) (EP X pins σ Q) X.xe s:=by
  intro l u e1 e2 e3 e4;subst e1 e2 e3 e4;refine wpAny_getItem_str_slice (st:=none) hs rfl (post_val_or_str ⟨rJ (Txt.slice_le z _ _) hz,fun t' k=>?_⟩);exact⟨.str _,H,I.tok k,⟨t',rfl⟩,q⟩
 cases pl with
 | none =>
  cases pu with
  | none=>exact fin none none rfl rfl rfl rfl
  | int j tj=>exact fin none (some (j,tj)) rfl rfl rfl rfl
 | int i ti =>
  cases pu with
  | none=>exact fin (some (i,ti)) none rfl rfl rfl rfl
  | int j tj=>exact fin (some (i,ti)) (some (j,tj)) rfl rfl rfl rfl
end
section
variable {prog:Program}{w:World}{A:Around}{E:Value->Shared->Prop}{s:Shared}{K:Type}[DecidableEq K]{knd:KeyKind prog w K}{d:Addr}{kvs:List (K×Value)}{ep:Nat}
end
section
variable {X:Cx}
end
structure DefIn (K:jJa)(mg:Str->Option Value)(x:Str)(st:Stmt)(ps:List Str):Prop where
 ex:∃f fd,Fun K x x st f fd/\mg x=some (.ref f)/\Binds K fd ps []
def Ve {K:jJa}{mg:Str->Option Value}{x:Str}{st:Stmt}{ps:List Str}{h:Heap}{f:Addr}{oc:Value}{od an:Option Addr}{osl:Array (Option Value)}{kV doc pm cdv ct:Value}(X:K.In h)(G:h.Ns mainGlobals mg)
  (hb:∀(kV doc pm:Value) (an:Option Addr) (cdv ct:Value) (us:List Value),us.length=ps.length->bindArgs (jJb x x (defArgs st) (defBody st) (defScope st) .none kV doc pm an cdv ct) ⟨us,[]⟩=pure (ps.zip us))
  (a:jJh K mainGlobals x=some (some (.ref f))) (l:K.lookup f=some ⟨oc,od,.func (jJb x x (defArgs st) (defBody st) (defScope st) .none kV doc pm an cdv ct),osl⟩)
  (c:jJf K cdv x=true) (k:jJe K (.ref f)=true):DefIn K mg x st ps:=
 ⟨f,_,VS l c k,PySem.W.mg_of X G a,(VS (st:=st) l c k).binds hb⟩
structure Own (P:Program)(w:World)(K:jJa)(mg:Str->Option Value)(base:Heap)(x:Str)(k:Nat)(ps:List Str)(sp:Sp):Prop where
 ex:∃f fd,FnOk P w K mg base (cxx P w) k f fd ps sp/\mg x=some (.ref f)/\jJe K (.ref f)=true/\Binds K fd ps []
section
variable {P:Program}{w:World}{K:jJa}{mg:Str->Option Value}{base:Heap}{x:Str}{st:Stmt}{N ps:List Str}{k:Nat}{sp:Sp}
theorem DefIn.own (D:DefIn K mg x st ps)(S:FnScope N ps (defScope st))(len:∀vs H Q E,sp vs H Q E->vs.length=ps.length)
  (hbody:∀(f:Addr) (cdv:Value) (A:Around) (outer:List Env) (s:Shared) (H:Hp) (vs:List V) (Q:VK) (E:XK),Room k (A.deeper (envOfC x (defScope st) s.heap.objs.size f cdv))->sp vs H Q E ->
   ∃t,PSs (uW (cxx P w) P w K mg base N x (defScope st) f cdv A outer s H E) (defBody st) t/\t { nx:=fun _ H'=>Q .non H',rt:=Q } (start N vs) H):Own P w K mg base x (k+1) ps sp:=by
 obtain⟨f,fd,F,hm,hb⟩:=D.ex;obtain⟨oc,od,kV,doc,pm,an,cdv,ct,osl,rfl,lk,hcd⟩:=F.ex;exact⟨f,_,Jg lk hcd S len fun A outer s H vs Q E hr hsp=>hbody f cdv A outer s H vs Q E hr hsp,hm,F.kp,hb⟩
theorem Own.mono {j:Nat}(O:Own P w K mg base x j ps sp)(h:j<=k):Own P w K mg base x k ps sp:=by
 obtain⟨f,fd,F,a,b,c⟩:=O.ex;exact⟨f,fd,F.mono h,a,b,c⟩
end
section
variable {X:Cx}{x:Str}{k:Nat}{ps:List Str}{sp:Sp}{E:XK}{e:Expr}{es:List Expr}{t:TA}{p pos:Pos}
def KP (O:Own X.prog X.w X.K X.mg X.base x k ps sp)(hr:Room k X.A)(hg:Gl X x)(hx:uz (cxx X.prog X.w) X E)(ha:PA X (e::es) t)(hdb:autoParam ((x==("__debug__":Str))=false) au1._auto_1)
  (he:autoParam (starEach (e::es) X.env=(false,eval e X.env)::starEach es X.env) au3._auto_1) (hpl:autoParam ((backTo pos (starEach es X.env)).any (·.1)=false) au3._auto_1):PE X (.Call (.Name x p) (e::es) [] pos) (J9 sp [] E t):=by
 obtain⟨f,fd,F,hm,hk,hb⟩:=O.ex;exact UA F hr hg hm hk hb .nil hx ha hdb he hpl
end
def uP:List String:=["NoneType","bool","int","str","list","tuple","dict"]
section
variable {K:jJa}
def QL:∀ {T:String},T∈uP->jJg K (.type T) (.type "int")=some (T=="int"||T=="bool"):=by
 intro T h;simp only[uP,tV,rH,or_false]at h;rcases h with rfl|rfl|rfl|rfl|rfl|rfl|rfl<;>kernel_rfl
def VB:∀ {T:String},T∈uP->jJg K (.type T) (.type "bool")=some (T=="bool"):=by
 intro T h;simp only[uP,tV,rH,or_false]at h;rcases h with rfl|rfl|rfl|rfl|rfl|rfl|rfl<;>kernel_rfl
def Ud:∀ {T U:String},T∈uP->U∈(["str","list","tuple","dict"]:List String)->jJg K (.type T) (.type U)=some (T==U):=by
 intro T U h g;simp only[uP,tV,rH,or_false]at h g;rcases g with rfl|rfl|rfl|rfl<;>rcases h with rfl|rfl|rfl|rfl|rfl|rfl|rfl<;>kernel_rfl
end
inductive D where
 | non | bl (b:Bool) | int (i:Int) | str (x:Str) | tup (xs:List D) | lst (xs:List D) | dic (ks:List Key) (xs:List D) | frl (xs:List D) | obj (C:Addr) (ns:List Str) (xs:List D)
inductive R (α:Type) where
 | ok (a:α) | err (c:Str) | bad
def R.bind {α β:Type}(r:R α)(f:α->R β):R β:=match r with
 | .ok a=>f a
 | .err c=>.err c
 | .bad=>.bad
def jYa {α β:Type}(a:α)(f:α->R β):(R.ok a).bind f=f a:=rfl
mutual
def D.imm:D->Bool
 | .tup xs=>D.imms xs
 | .lst _=>false
 | .dic _ _=>false
 | .obj _ _ _=>false
 | _=>true
def D.imms:List D->Bool
 | []=>true
 | d::ds=>D.imm d&&D.imms ds
end
def SqF (K:jJa)(H:Hp)(a:Addr)(vs:List V):Prop:=(∃o,H a=some (.frz o (.lst vs))) \/
 ∃(o:Obj) (its:Array Value) (n:Nat),K.lookup a=some o/\o.cls=.type "list"/\o.dict=none/\o.data=.seq its n/\its.size<=sizeLine/\Vals vs its.toList
theorem SqF.sq {K:jJa}{H:Hp}{a:Addr}{vs:List V}(h:SqF K H a vs):SqL K H a vs:=by
 rcases h with⟨o,h⟩|h
 ·exact .inl (.inr ⟨o,h⟩)
 ·exact .inr h
mutual
def Rep (K:jJa)(H:Hp):D->V->List Addr->Prop
 | .non,v,L=>v=.non/\L=[]
 | .bl b,v,L=>v=.bl b/\L=[]
 | .int i,v,L=>v=.int i/\L=[]
 | .str x,v,L=>v=.str x/\L=[]
 | .tup ds,v,L=>∃a vs,v=.ref a/\SqT K H a vs/\Reps K H ds vs L
 | .lst ds,v,L=>∃a vs L',v=.ref a/\H a=some (.lst vs)/\L=a::L'/\Reps K H ds vs L'
 | .dic ks ds,v,L=>∃a kvs L',v=.ref a/\H a=some (.dK kvs)/\L=a::L'/\kvs.map (·.1)=ks/\ks.Nodup/\Reps K H ds (kvs.map (·.2)) L'
 | .frl ds,v,L=>∃a vs,v=.ref a/\SqF K H a vs/\L=[]/\D.imms ds=true/\Reps K H ds vs []
 | .obj C ns ds,v,L=>∃a dx fs,v=.ref a/\H a=some (.ins C dx fs)/\fs.map (·.1)=ns/\Reps K H ds (fs.map (·.2)) L
def Reps (K:jJa)(H:Hp):List D->List V->List Addr->Prop
 | [],vs,L=>vs=[]/\L=[]
 | d::ds,vs,L=>∃v vs' L1 L2,vs=v::vs'/\L=L1++L2/\Rep K H d v L1/\Reps K H ds vs' L2
end
structure TF (H H':Hp):Prop where
 tup:∀a xs,H a=some (.tup xs)->H' a=some (.tup xs)
 frz:∀a o u,H a=some (.frz o u)->H' a=some (.frz o u)
 ins:∀a C dx fs,H a=some (.ins C dx fs)->H' a=some (.ins C dx fs)
theorem Same.tf {H H':Hp}(h:Same H H'):TF H H':=⟨fun a xs e=>h a _ e,fun a o u e=>h a _ e,fun a C dx fs e=>h a _ e⟩
theorem Same.non {H H1:Hp}(s:Same H H1){a:Addr}(h:H1 a=none):H a=none:=by
 cases e:H a with
 | none=>rfl
 | some o=>rw[s a o e]at h;cases h
theorem Same.new {H:Hp}{p:Addr}{o:HO}(h:H p=none):Same H (upd H p o):=fun b u e=>by
 rw[zK (yr e h)];exact e
theorem SqF.tf {K:jJa}{H H':Hp}{a:Addr}{vs:List V}(h:SqF K H a vs)(s:TF H H'):SqF K H' a vs:=by
 rcases h with⟨o,h⟩|h
 ·exact .inl ⟨o,s.frz _ _ _ h⟩
 ·exact .inr h
theorem SqT.tf {K:jJa}{H H':Hp}{a:Addr}{vs:List V}(h:SqT K H a vs)(s:TF H H'):SqT K H' a vs:=by
 rcases h with h|h
 ·rcases h with h|⟨o,h⟩
  ·exact .inl (.inl (s.tup _ _ h))
  ·exact .inl (.inr ⟨o,s.frz _ _ _ h⟩)
 ·exact .inr h
section
variable {K:jJa}{H H':Hp}
mutual
theorem Rep.keep (s:TF H H'):∀(d:D) (v:V) (L:List Addr),Rep K H d v L->(∀a∈L,H' a=H a)->Rep K H' d v L
 | .non,_,_,h,_=>h
 | .bl _,_,_,h,_=>h
 | .int _,_,_,h,_=>h
 | .str _,_,_,h,_=>h
 | .tup ds,_,L,hq3,k=>by
  obtain⟨a,vs,e,h,r⟩:=hq3;exact⟨a,vs,e,h.tf s,Reps.keep s ds vs L r k⟩
 | .obj C ns ds,_,L,hq3,k=>by
  obtain⟨a,dx,fs,e,h,hn,r⟩:=hq3;exact⟨a,dx,fs,e,s.ins _ _ _ _ h,hn,Reps.keep s ds _ L r k⟩
 | .lst ds,_,L,hq3,k=>by
   obtain⟨a,vs,L',e,h1,h2,h3⟩:=hq3;subst h2;exact⟨a,vs,L',e,by rw[k a tF];exact h1,rfl,Reps.keep s ds vs L' h3 fun b hb=>k b (tG _ hb)⟩
 | .frl ds,_,L,hq3,k=>by
  obtain⟨a,vs,e,h1,h2,h3,h4⟩:=hq3;exact⟨a,vs,e,h1.tf s,h2,h3,Reps.keep s ds vs [] h4 (fun _ hb=>nomatch hb)⟩
 | .dic ks ds,_,L,hq3,k=>by
   obtain⟨a,kvs,L',e,h1,h2,h3,h4,h5⟩:=hq3;subst h2;exact⟨a,kvs,L',e,by rw[k a tF];exact h1,rfl,h3,h4,Reps.keep s ds _ L' h5 fun b hb=>k b (tG _ hb)⟩
theorem Reps.keep (s:TF H H'):∀(ds:List D) (vs:List V) (L:List Addr),Reps K H ds vs L->(∀a∈L,H' a=H a)->Reps K H' ds vs L
 | [],_,_,h,_=>h
 | d::ds,_,_,hq3,k=>by
  obtain⟨v,vs',L1,L2,e1,e2,h1,h2⟩:=hq3;subst e2;exact⟨v,vs',L1,L2,e1,rfl,Rep.keep s d v L1 h1 fun a ha=>k a (tX _ ha),Reps.keep s ds vs' L2 h2 fun a ha=>k a (tN _ ha)⟩
end
mutual
theorem Rep.dom:∀(d:D) (v:V) (L:List Addr),Rep K H d v L->∀a∈L,(∃vs,H a=some (.lst vs))\/∃kvs,H a=some (.dK kvs)
 | .non,_,_,h,a,ha=>by rw[h.2]at ha;cases ha
 | .bl _,_,_,h,a,ha=>by rw[h.2]at ha;cases ha
 | .int _,_,_,h,a,ha=>by rw[h.2]at ha;cases ha
 | .str _,_,_,h,a,ha=>by rw[h.2]at ha;cases ha
 | .tup ds,_,L,hq3,b,hb=>by
  obtain⟨a,vs,e,h,r⟩:=hq3;exact Reps.dom ds vs L r b hb
 | .obj C ns ds,_,L,hq3,b,hb=>by
  obtain⟨a,dx,fs,e,h,hn,r⟩:=hq3;exact Reps.dom ds _ L r b hb
 | .lst ds,_,L,hq3,b,hb=>by
   obtain⟨a,vs,L',e,h1,h2,h3⟩:=hq3;subst h2;rcases tV.mp hb with z|z
   ·subst z;exact .inl ⟨vs,h1⟩
   ·exact Reps.dom ds vs L' h3 b z
 | .frl ds,_,L,hq3,b,hb=>by
  obtain⟨a,vs,e,h1,h2,h3,h4⟩:=hq3;rw[h2]at hb;cases hb
 | .dic ks ds,_,L,hq3,b,hb=>by
   obtain⟨a,kvs,L',e,h1,h2,h3,h4,h5⟩:=hq3;subst h2;rcases tV.mp hb with z|z
   ·subst z;exact .inr ⟨kvs,h1⟩
   ·exact Reps.dom ds _ L' h5 b z
theorem Reps.dom:∀(ds:List D) (vs:List V) (L:List Addr),Reps K H ds vs L->∀a∈L,(∃vs,H a=some (.lst vs))\/∃kvs,H a=some (.dK kvs)
 | [],_,_,h,a,ha=>by rw[h.2]at ha;cases ha
 | d::ds,_,_,hq3,a,ha=>by
  obtain⟨v,vs',L1,L2,e1,e2,h1,h2⟩:=hq3;subst e2;rcases tW.mp ha with z|z
  ·exact Rep.dom d v L1 h1 a z
  ·exact Reps.dom ds vs' L2 h2 a z
end
mutual
theorem Rep.imm:∀(d:D) (v:V) (L:List Addr),Rep K H d v L->d.imm=true->L=[]
 | .non,_,_,h,_=>h.2
 | .bl _,_,_,h,_=>h.2
 | .int _,_,_,h,_=>h.2
 | .str _,_,_,h,_=>h.2
 | .tup ds,_,L,hq3,h=>by
  obtain⟨_,vs,_,_,r⟩:=hq3;exact Reps.imm ds vs L r h
 | .lst _,_,_,_,h=>nomatch h
 | .dic _ _,_,_,_,h=>nomatch h
 | .obj _ _ _,_,_,_,h=>nomatch h
 | .frl _,_,_,hq3,_=>by
  obtain⟨_,_,_,_,h,_⟩:=hq3;exact h
theorem Reps.imm:∀(ds:List D) (vs:List V) (L:List Addr),Reps K H ds vs L->D.imms ds=true->L=[]
 | [],_,_,h,_=>h.2
 | d::ds,_,_,hq3,h=>by
  obtain⟨v,vs',L1,L2,_,e2,h1,h2⟩:=hq3;have h:(d.imm&&D.imms ds)=true:=h;rw[sY]at h;rw[e2,Rep.imm d v L1 h1 h.1,Reps.imm ds vs' L2 h2 h.2];rfl
end
def Rep.there {d:D}{v:V}{L:List Addr}(h:Rep K H d v L){a:Addr}(ha:a∈L):H a≠none:=by
 rcases Rep.dom d v L h a ha with⟨_,e⟩|⟨_,e⟩<;>rw[e]<;>simp
theorem Reps.there {d:List D}{v:List V}{L:List Addr}(h:Reps K H d v L){a:Addr}(ha:a∈L):H a≠none:=by
 rcases Reps.dom d v L h a ha with⟨_,e⟩|⟨_,e⟩<;>rw[e]<;>simp
theorem Same.at {a:Addr}(s:Same H H')(h:H a≠none):H' a=H a:=by
 cases e:H a with
 | none=>exact absurd e h
 | some o=>exact s a o e
theorem Rep.same {d:D}{v:V}{L:List Addr}(h:Rep K H d v L)(s:Same H H'):Rep K H' d v L:=Rep.keep s.tf d v L h fun _ ha=>s.at (h.there ha)
theorem Reps.same {d:List D}{v:List V}{L:List Addr}(h:Reps K H d v L)(s:Same H H'):Reps K H' d v L:=Reps.keep s.tf d v L h fun _ ha=>s.at (h.there ha)
theorem Reps.length:∀ {ds:List D} {vs:List V} {L:List Addr},Reps K H ds vs L->vs.length=ds.length
 | [],_,_,hq3=>by
  obtain⟨e,_⟩:=hq3;rw[e];rfl
 | d::ds,_,_,hq3=>by
  obtain⟨v,vs',L1,L2,e1,e2,h1,h2⟩:=hq3;rw[e1,tL,tL,Reps.length h2]
theorem Reps.nil:Reps K H [] [] []:=⟨rfl,rfl⟩
theorem Reps.cons {d:D}{v:V}{L1:List Addr}{ds:List D}{vs:List V}{L2:List Addr}(h:Rep K H d v L1)(t:Reps K H ds vs L2):Reps K H (d::ds) (v::vs) (L1++L2):=⟨v,vs,L1,L2,rfl,rfl,h,t⟩
theorem Reps.get:∀ {ds:List D} {vs:List V} {L:List Addr} {i:Nat} {d:D},Reps K H ds vs L->ds[i]?=some d->∃v L1,vs[i]?=some v/\Rep K H d v L1/\List.Sublist L1 L
 | [],_,_,_,_,_,e=>by simp at e
 | d::ds,_,_,0,_,hq5,e=>by
  obtain⟨v,vs',L1,L2,e1,e2,h1,h2⟩:=hq5;subst e1 e2;simp at e;subst e;exact⟨v,L1,rfl,h1,List.sublist_append_left _ _⟩
 | d::ds,_,_,i+1,d',hq5,e=>by
  obtain⟨v,vs',L1,L2,e1,e2,h1,h2⟩:=hq5;subst e1 e2;obtain⟨v',L',a,b,c⟩:=Reps.get (i:=i) (d:=d') h2 (by simpa using e);exact⟨v',L',by simpa using a,b,c.trans (rU _ _)⟩
theorem Reps.append:∀ {ds ds':List D} {vs vs':List V} {L L':List Addr},Reps K H ds vs L->Reps K H ds' vs' L'->Reps K H (ds++ds') (vs++vs') (L++L')
 | [],_,_,_,_,_,hq6,h=>by
  obtain⟨e1,e2⟩:=hq6;subst e1 e2;exact h
 | d::ds,_,_,_,_,_,hq6,h=>by
  obtain⟨v,vs',L1,L2,e1,e2,h1,h2⟩:=hq6;subst e1 e2;have:=Reps.cons h1 (Reps.append h2 h);rw[<-tO]at this;exact this
theorem Reps.take:∀ {ds:List D} {vs:List V} {L:List Addr} (n:Nat),Reps K H ds vs L->∃L',Reps K H (ds.take n) (vs.take n) L'/\List.Sublist L' L
 | _,_,_,0,_=>⟨[],by simpa using Reps.nil,pI _⟩
 | [],_,_,n+1,hq4=>by
  obtain⟨e1,e2⟩:=hq4;subst e1 e2;exact⟨[],by simpa using Reps.nil,pI _⟩
 | d::ds,_,_,n+1,hq4=>by
  obtain⟨v,vs',L1,L2,e1,e2,h1,h2⟩:=hq4;subst e1 e2;obtain⟨L',a,b⟩:=Reps.take n h2;exact⟨L1++L',by simpa using Reps.cons h1 a,List.Sublist.append (List.Sublist.refl _) b⟩
theorem Reps.drop:∀ {ds:List D} {vs:List V} {L:List Addr} (n:Nat),Reps K H ds vs L->∃L',Reps K H (ds.drop n) (vs.drop n) L'/\List.Sublist L' L
 | _,_,L,0,h=>⟨L,by simpa using h,List.Sublist.refl _⟩
 | [],_,_,n+1,hq4=>by
  obtain⟨e1,e2⟩:=hq4;subst e1 e2;exact⟨[],by simpa using Reps.nil,pI _⟩
 | d::ds,_,_,n+1,hq4=>by
  obtain⟨v,vs',L1,L2,e1,e2,h1,h2⟩:=hq4;subst e1 e2;obtain⟨L',a,b⟩:=Reps.drop n h2;exact⟨L',by simpa using a,b.trans (rU _ _)⟩
end
abbrev Tn:=List (Option D)
inductive Cl where
 | own | shr | brw | dead
 deriving DecidableEq
inductive Rc where
 | fresh | shr | bor
 deriving DecidableEq
structure EOk (K:jJa)(Γ:List Cl)(O:Addr->Prop)(H:Hp)(σ:St)(τ:Tn):Prop where
 dom:∀a,O a->H a≠none
 slot:∀(i:Nat) (c:Cl),Γ[i]?=some c->c≠.dead->∃v d L,σ[i]?=some (some v)/\τ[i]?=some (some d)/\Rep K H d v L/\(c=.shr->∀a∈L,¬O a)
def RcOk (c:Rc)(O:Addr->Prop)(H:Hp)(L:List Addr):Prop:=match c with
 | .fresh=>L.Nodup/\∀a∈L,H a=none
 | .shr=>∀a∈L,¬O a
 | .bor=>True
def post (K:jJa)(E:XK)(O:Addr->Prop)(c:Rc)(H:Hp)(Q:VK):R D->Prop
 | .ok d=>∀v H' L,Same H H'->Rep K H' d v L->RcOk c O H L->Q v H'
 | .err n=>∀C H',ErrC K n C->Same H H'->E (.ref C) none H'
 | .bad=>False
def postL (K:jJa)(E:XK)(O:Addr->Prop)(c:Rc)(H:Hp)(Q:List V->Hp->Prop):R (List D)->Prop
 | .ok ds=>∀vs H' L,Same H H'->Reps K H' ds vs L->RcOk c O H L->Q vs H'
 | .err n=>∀C H',ErrC K n C->Same H H'->E (.ref C) none H'
 | .bad=>False
def postB (K:jJa)(E:XK)(H:Hp)(Q:Bool->Hp->Prop):R Bool->Prop
 | .ok b=>∀H',Same H H'->Q b H'
 | .err n=>∀C H',ErrC K n C->Same H H'->E (.ref C) none H'
 | .bad=>False
section
variable {K:jJa}{Γ:List Cl}{O:Addr->Prop}{H H1:Hp}{σ:St}{τ:Tn}{E:XK}{c:Rc}{Q:VK}
theorem EOk.same (e:EOk K Γ O H σ τ)(s:Same H H1):EOk K Γ O H1 σ τ:=
 ⟨fun a h=>by rw[s.at (e.dom a h)];exact e.dom a h,fun i c h1 h2=>by
  obtain⟨v,d,L,a1,a2,a3,a4⟩:=e.slot i c h1 h2;exact⟨v,d,L,a1,a2,a3.same s,a4⟩⟩
theorem RcOk.same {L:List Addr}(h:RcOk c O H1 L)(s:Same H H1):RcOk c O H L:=by
 cases c with
 | fresh=>exact⟨h.1,fun a ha=>s.non (h.2 a ha)⟩
 | shr=>exact h
 | bor=>exact h
theorem RcOk.shr {L:List Addr}(dom:∀a,O a->H a≠none)(hc:c≠.bor)(h:RcOk c O H L):∀a∈L,¬O a:=by
 cases c with
 | fresh=>exact fun a ha ho=>dom a ho (h.2 a ha)
 | shr=>exact h
 | bor=>exact absurd rfl hc
theorem RcOk.nil:RcOk c O H []:=by
 cases c with
 | fresh=>exact⟨pA,fun a ha=>by cases ha⟩
 | shr=>exact fun a ha=>by cases ha
 | bor=>trivial
theorem post.same {r:R D}(h:post K E O c H Q r)(s:Same H H1):post K E O c H1 Q r:=by
 cases r with
 | ok d=>exact fun v H' L s' r' c'=>h v H' L (s.trans s') r' (c'.same s)
 | err n=>exact fun C H' e s'=>h C H' e (s.trans s')
 | bad=>exact h
theorem postL.same {Q:List V->Hp->Prop}{r:R (List D)}(h:postL K E O c H Q r)(s:Same H H1):postL K E O c H1 Q r:=by
 cases r with
 | ok d=>exact fun v H' L s' r' c'=>h v H' L (s.trans s') r' (c'.same s)
 | err n=>exact fun C H' e s'=>h C H' e (s.trans s')
 | bad=>exact h
theorem postB.same {Q:Bool->Hp->Prop}{r:R Bool}(h:postB K E H Q r)(s:Same H H1):postB K E H1 Q r:=by
 cases r with
 | ok d=>exact fun H' s'=>h H' (s.trans s')
 | err n=>exact fun C H' e s'=>h C H' e (s.trans s')
 | bad=>exact h
end
def ME (X:Cx)(E:XK)(Γ:List Cl)(e:Expr)(t:Tn->R D)(c:Rc):Prop:=
 ∃te,PE X e te/\∀O σ H τ Q,EOk X.K Γ O H σ τ->post X.K E O c H Q (t τ)->te σ H Q
def MA (X:Cx)(E:XK)(Γ:List Cl)(es:List Expr)(t:Tn->R (List D))(c:Rc):Prop:=
 (∀τ ds,t τ=.ok ds->ds.length=es.length)/\∃ta,PA X es ta/\∀O σ H τ Q,EOk X.K Γ O H σ τ->postL X.K E O c H Q (t τ)->ta σ H Q
def MT (X:Cx)(E:XK)(Γ:List Cl)(e:Expr)(t:Tn->R Bool):Prop:=
 ∃te,PT X e te/\∀O σ H τ Q,EOk X.K Γ O H σ τ->postB X.K E H Q (t τ)->te σ H Q
def MW (X:Cx)(E:XK)(Γ:List Cl)(e:Expr)(t:Tn->R Bool):Prop:=
 ∃te,PW X e te/\∀O σ H τ Q,EOk X.K Γ O H σ τ->postB X.K E H Q (t τ)->te σ H Q
theorem MW.mt {X:Cx}{E:XK}{Γ:List Cl}{e:Expr}{t:Tn->R Bool}(h:MW X E Γ e t):MT X E Γ e t:=by
 obtain⟨te,p,q⟩:=h;exact⟨te,p.pt,q⟩
def Rc.of:Cl->Rc
 | .shr=>.shr
 | _=>.bor
def Rc.both:Rc->Rc->Rc
 | .fresh,.fresh=>.fresh
 | .bor,_=>.bor
 | _,.bor=>.bor
 | _,_=>.shr
def zb (i:Nat):Tn->R D:=fun τ=>match τ[i]? with
 | some (some d)=>.ok d
 | _=>.bad
def eC (d:D):Tn->R D:=fun _=>.ok d
def xm (t:Tn->R D):Tn->R D:=fun τ=>(t τ).bind fun d=>if d.imm=true then .ok d else .bad
def zd (g:D->D->R D)(a b:Tn->R D):Tn->R D:=fun τ=>(a τ).bind fun x=>(b τ).bind fun y=>g x y
def eUn (g:D->R D)(a:Tn->R D):Tn->R D:=fun τ=>(a τ).bind g
def ze:Tn->R (List D):=fun _=>.ok []
def za (a:Tn->R D)(b:Tn->R (List D)):Tn->R (List D):=fun τ=>(a τ).bind fun x=>(b τ).bind fun xs=>.ok (x::xs)
def eL (g:List D->R D)(a:Tn->R (List D)):Tn->R D:=fun τ=>(a τ).bind g
def asB:D->R Bool
 | .bl b=>.ok b
 | _=>.bad
def zz (a:Tn->R D):Tn->R Bool:=fun τ=>(a τ).bind asB
def YT (a b:Tn->R Bool):Tn->R Bool:=fun τ=>(a τ).bind fun x=>if x=true then b τ else .ok false
def bOr (a b:Tn->R Bool):Tn->R Bool:=fun τ=>(a τ).bind fun x=>if x=true then .ok true else b τ
def xJ (a:Tn->R Bool):Tn->R Bool:=fun τ=>(a τ).bind fun x=>.ok (!x)
def eIf (c:Tn->R Bool)(a b:Tn->R D):Tn->R D:=fun τ=>(c τ).bind fun k=>if k=true then a τ else b τ
section
variable {X:Cx}{E:XK}{Γ:List Cl}{e a b:Expr}{t ta tb tc:Tn->R D}{c ca cb:Rc}{pos:Pos}
def Uq {i:Nat}{x:Str}{k:Cl}(hN:X.N[i]?=some x)(hk:Γ[i]?=some k)(hd:k≠.dead)(hv:Vis X.env.scope x)(hb:autoParam ((x==("__debug__":Str))=false) au1._auto_1)(hcd:autoParam ((x==("__classdict__":Str))=false) au1._auto_1):
  ME X E Γ (.Name x pos) (zb i) (Rc.of k):=by
 refine⟨z0d i,wq hN hv hb hcd,fun O σ H τ Q ok h=>?_⟩;obtain⟨v,d,L,e1,e2,e3,e4⟩:=ok.slot i k hk hd;unfold zb at h;rw[e2]at h;refine⟨v,e1,h v H L (Same.refl H) e3 ?_⟩;cases k with
 | shr=>exact e4 rfl
 | own=>trivial
 | brw=>trivial
 | dead=>trivial
def Q3 {d:D}{v:V}(hp:PE X e (tC v))(hr:∀H,Rep X.K H d v []):ME X E Γ e (eC d) .fresh:=
 ⟨tC v,hp,fun O σ H τ Q ok h=>h v H [] (Same.refl H) (hr H) RcOk.nil⟩
def zi {i:Int}{j}:ME X E Γ (.Constant (.int i) j pos) (eC (.int i)) .fresh:=Q3 YH fun _=>⟨rfl,rfl⟩
def ur {i:Bool}{j}:ME X E Γ (.Constant (.bool i) j pos) (eC (.bl i)) .fresh:=Q3 z0g fun _=>⟨rfl,rfl⟩
def qD {j}:ME X E Γ (.Constant .none j pos) (eC .non) .fresh:=Q3 z01 fun _=>⟨rfl,rfl⟩
def xy {x:Str}{j}:ME X E Γ (.Constant (.str x) j pos) (eC (.str x)) .fresh:=Q3 vi fun _=>⟨rfl,rfl⟩
def xA (h:ME X E Γ e t c):ME X E Γ e (xm t) .fresh:=by
 obtain⟨te,p,q⟩:=h;refine⟨te,p,fun O σ H τ Q ok h=>q O σ H τ Q ok ?_⟩;unfold xm at h;cases ht:t τ with
 | ok d =>
  rw[ht]at h;refine fun v H' L s r k=>?_;rw[jYa]at h
  by_cases hi:d.imm=true
  ·rw[if_pos hi]at h;have:=Rep.imm d v L r hi;subst this;exact h v H' [] s r RcOk.nil
  ·rw[if_neg hi]at h;exact h.elim
 | err n=>rw[ht]at h;exact h
 | bad=>rw[ht]at h;exact h
theorem post.bind {K:jJa}{O:Addr->Prop}{H:Hp}{Q Q':VK}{r:R D}{f:D->R D}(h:post K E O c H Q (r.bind f))(hf:∀d,r=.ok d->post K E O c H Q (f d)->∀v H' L,Same H H'->Rep K H' d v L->RcOk ca O H L->Q' v H'):post K E O ca H Q' r:=by
 cases r with
 | ok d=>exact hf d rfl h
 | err n=>exact h
 | bad=>exact h
def zk:MA X E Γ [] ze .fresh:=⟨fun τ ds h=>by cases h;rfl,KA,vX,fun O σ H τ Q ok h=>h [] H [] (Same.refl H) Reps.nil RcOk.nil⟩
def RcOk.append {K:jJa}{O:Addr->Prop}{H H1:Hp}{d:D}{v:V}{L1 L2:List Addr}(dom:∀a,O a->H a≠none)(s:Same H H1)(r:Rep K H1 d v L1)(h1:RcOk ca O H L1)(h2:RcOk cb O H1 L2):RcOk (Rc.both ca cb) O H (L1++L2):=by
 have dom1:∀a,O a->H1 a≠none:=fun a h=>by rw[s.at (dom a h)];exact dom a h
 by_cases hf:ca=.fresh/\cb=.fresh
 ·obtain⟨rfl,rfl⟩:=hf;refine⟨sF.mpr ⟨h1.1,h2.1,fun a ha b hb z=>?_⟩,fun a ha=>?_⟩
  ·subst z;exact r.there ha (h2.2 a hb)
  ·rcases tW.mp ha with z|z
   ·exact h1.2 a z
   ·exact s.non (h2.2 a z)
 ·have key:ca≠.bor->cb≠.bor->∀a∈L1++L2,¬O a:=fun n1 n2 a ha=>by
   rcases tW.mp ha with z|z
   ·exact h1.shr dom n1 a z
   ·exact h2.shr dom1 n2 a z
  cases ca<;>cases cb<;>first|exact absurd ⟨rfl,rfl⟩ hf|trivial|exact key (by simp) (by simp)
def zc {es:List Expr}{u:Tn->R (List D)}(h:ME X E Γ e t ca)(r:MA X E Γ es u cb)(hs:autoParam (starEach (e::es) X.env=(false,eval e X.env)::starEach es X.env) au3._auto_1):MA X E Γ (e::es) (za t u) (Rc.both ca cb):=by
 obtain⟨te,p1,q1⟩:=h;obtain⟨hl,ta,p2,q2⟩:=r;refine⟨fun τ ds h=>?_,U9 te ta,wg p1 p2 hs,fun O σ H τ Q ok h=>?_⟩
 ·unfold za at h;cases h1:t τ with
  | ok d =>
   rw[h1,jYa]at h;cases h2:u τ with
   | ok xs =>
    rw[h2,jYa]at h;cases h;rw[tL,tL,hl τ xs h2]
   | err n=>rw[h2]at h;cases h
   | bad=>rw[h2]at h;cases h
  | err n=>rw[h1]at h;cases h
  | bad=>rw[h1]at h;cases h
 ·unfold za at h;refine q1 O σ H τ _ ok ?_;cases h1:t τ with
  | ok d =>
   rw[h1,jYa]at h;refine fun v H1 L1 s1 r1 k1=>q2 O σ H1 τ _ (ok.same s1) ?_;cases h2:u τ with
   | ok xs =>
    rw[h2,jYa]at h;exact fun vs H2 L2 s2 r2 k2=>h (v::vs) H2 (L1++L2) (s1.trans s2) (Reps.cons (r1.same s2) r2) (RcOk.append ok.dom s1 r1 k1 k2)
   | err n=>rw[h2]at h;exact fun C H' e s'=>h C H' e (s1.trans s')
   | bad=>rw[h2]at h;exact h
  | err n=>rw[h1]at h;exact h
  | bad=>rw[h1]at h;exact h
def xK {es:List Expr}{u:Tn->R (List D)}{x1}(h:MA X E Γ es u c)(hz:autoParam (es.length<=1000) au1._auto_1):ME X E Γ (.Tuple es x1 pos) (eL (fun ds=>.ok (.tup ds)) u) c:=by
 obtain⟨hl,ta,p,q⟩:=h;refine⟨Kk ta,WQ p,fun O σ H τ Q ok h=>q O σ H τ _ ok ?_⟩;unfold eL at h;have hs:sizeLine=16777216:=sizeLine_eq;cases hu:u τ with
 | ok ds =>
  rw[hu,jYa]at h;refine fun vs H1 L s r k=>⟨by rw[r.length,hl τ ds hu];lia,fun p hp=>?_⟩
  refine h _ _ L (s.trans (Same.new hp)) ⟨p,vs,rfl,SqT.of zE,r.same (Same.new hp)⟩ k
 | err n=>rw[hu]at h;exact h
 | bad=>rw[hu]at h;exact h
def y3 {es:List Expr}{u:Tn->R (List D)}(h:MA X E Γ es u c)(hz:autoParam (es.length<=1000) au1._auto_1):ME X E Γ (.List es pos) (eL (fun ds=>.ok (.lst ds)) u) c:=by
 obtain⟨hl,ta,p,q⟩:=h;refine⟨z0M ta,JX p,fun O σ H τ Q ok h=>q O σ H τ _ ok ?_⟩;unfold eL at h;have hs:sizeLine=16777216:=sizeLine_eq;cases hu:u τ with
 | ok ds =>
  rw[hu,jYa]at h;refine fun vs H1 L s r k=>⟨by rw[r.length,hl τ ds hu];lia,fun p hp=>?_⟩
  refine h _ _ (p::L) (s.trans (Same.new hp)) ⟨p,vs,L,rfl,zE,rfl,r.same (Same.new hp)⟩ ?_;have np:H p=none:=s.non hp;cases c with
  | fresh =>
   refine⟨sI.mpr ⟨fun z=>r.there z hp,k.1⟩,fun a ha=>?_⟩;rcases tV.mp ha with z|z
   ·rw[z];exact np
   ·exact k.2 a z
  | shr =>
   intro a ha;rcases tV.mp ha with z|z
   ·rw[z];exact fun o=>ok.dom p o np
   ·exact k a z
  | bor=>trivial
 | err n=>rw[hu]at h;exact h
 | bad=>rw[hu]at h;exact h
def wt (h:ME X E Γ e t c)(he:autoParam (∀whole,isTrue e X.env whole=(do let v <-whole;standAt e.pos;holding [v] (truthy v))) au2._auto_1):MT X E Γ e (zz t):=by
 obtain⟨te,p,q⟩:=h;refine⟨tB te,JO p he,fun O σ H τ Q ok h=>q O σ H τ _ ok ?_⟩;unfold zz at h;cases ht:t τ with
 | ok d =>
  rw[ht,jYa]at h;refine fun v H' L s r _=>?_;cases d with
  | bl k=>exact⟨k,r.1,h H' s⟩
  | _=>exact h.elim
 | err n=>rw[ht]at h;exact h
 | bad=>rw[ht]at h;exact h
variable {u v:Tn->R Bool}{rest:List Expr}
def wL (h:MT X E Γ a u):MT X E Γ (.UnaryOp .Not a pos) (xJ u):=by
 obtain⟨te,p,q⟩:=h;refine⟨z1g te,z08 p,fun O σ H τ Q ok h=>q O σ H τ _ ok ?_⟩;unfold xJ at h;cases ht:u τ with
 | ok d=>rw[ht,jYa]at h;exact h
 | err n=>rw[ht]at h;exact h
 | bad=>rw[ht]at h;exact h
def XI (h:MT X E Γ a u):MW X E Γ (.BoolOp .And [a] pos) u:=by
 obtain⟨te,p,q⟩:=h;exact⟨te,QJ p,q⟩
def kD (h:MT X E Γ a u):MW X E Γ (.BoolOp .Or [a] pos) u:=by
 obtain⟨te,p,q⟩:=h;exact⟨te,VP p,q⟩
def V2 (h:MT X E Γ a u)(r:MW X E Γ (.BoolOp .And (b::rest) pos) v):MW X E Γ (.BoolOp .And (a::b::rest) pos) (YT u v):=by
 obtain⟨te,p,q⟩:=h;obtain⟨te',p',q'⟩:=r;refine⟨z0p te te',z0e p p',fun O σ H τ Q ok h=>q O σ H τ _ ok ?_⟩;unfold YT at h;cases ht:u τ with
 | ok d =>
  rw[ht,jYa]at h;refine fun H1 s1=>?_;cases d with
  | true=>rw[if_pos rfl]at h ⊢;exact q' O σ H1 τ Q (ok.same s1) (h.same s1)
  | false=>rw[if_neg tH]at h ⊢;exact h H1 s1
 | err n=>rw[ht]at h;exact h
 | bad=>rw[ht]at h;exact h
def Zw (h:MT X E Γ a u)(r:MW X E Γ (.BoolOp .Or (b::rest) pos) v):MW X E Γ (.BoolOp .Or (a::b::rest) pos) (bOr u v):=by
 obtain⟨te,p,q⟩:=h;obtain⟨te',p',q'⟩:=r;refine⟨tOr te te',Jm p p',fun O σ H τ Q ok h=>q O σ H τ _ ok ?_⟩;unfold bOr at h;cases ht:u τ with
 | ok d =>
  rw[ht,jYa]at h;refine fun H1 s1=>?_;cases d with
  | true=>rw[if_pos rfl]at h ⊢;exact h H1 s1
  | false=>rw[if_neg tH]at h ⊢;exact q' O σ H1 τ Q (ok.same s1) (h.same s1)
 | err n=>rw[ht]at h;exact h
 | bad=>rw[ht]at h;exact h
def KI {k:Expr}(hk:MT X E Γ k u)(ha:ME X E Γ a ta c)(hb:ME X E Γ b tb c):ME X E Γ (.IfExp k a b pos) (eIf u ta tb) c:=by
 obtain⟨te,p,q⟩:=hk;obtain⟨te1,p1,q1⟩:=ha;obtain⟨te2,p2,q2⟩:=hb;refine⟨tIf te te1 te2,WL p p1 p2,fun O σ H τ Q ok h=>q O σ H τ _ ok ?_⟩;unfold eIf at h;cases ht:u τ with
 | ok d =>
  rw[ht,jYa]at h;refine fun H1 s1=>?_;cases d with
  | true=>rw[if_pos rfl]at h ⊢;exact q1 O σ H1 τ Q (ok.same s1) (h.same s1)
  | false=>rw[if_neg tH]at h ⊢;exact q2 O σ H1 τ Q (ok.same s1) (h.same s1)
 | err n=>rw[ht]at h;exact h
 | bad=>rw[ht]at h;exact h
def OpB (K:jJa)(r:R2)(g:D->D->R D):Prop:=
 ∀H x y dx dy Lx Ly (Q:VK),Rep K H dx x Lx->Rep K H dy y Ly->(∃d,g dx dy=.ok d/\∀v H' L,Same H H'->Rep K H' d v L->L.Nodup->(∀a∈L,H a=none)->Q v H')->r x y H Q
def w6 (g:D->D->R D):Prop:=∀x y n,g x y≠.err n
def Yl {r:R2}{g:D->D->R D}{te te':TE}(hB:OpB X.K r g)(hn:w6 g)(q:∀O σ H τ Q,EOk X.K Γ O H σ τ->post X.K E O ca H Q (ta τ)->te σ H Q)(q':∀O σ H τ Q,EOk X.K Γ O H σ τ->post X.K E O cb H Q (tb τ)->te' σ H Q)
  {O:Addr->Prop} {σ:St} {H:Hp} {τ:Tn} {Q:VK} (ok:EOk X.K Γ O H σ τ) (h:post X.K E O .fresh H Q (zd g ta tb τ)):tOp r te te' σ H Q:=by
 unfold zd at h;refine q O σ H τ _ ok (post.bind h fun dx _ h x H1 Lx s1 rx _=>q' O σ H1 τ _ (ok.same s1) (post.bind (h.same s1) fun dy _ h y H2 Ly s2 ry _=>?_));cases hg:g dx dy with
 | ok d =>
  rw[hg]at h;exact hB H2 x y dx dy Lx Ly Q (rx.same s2) ry ⟨d,hg,fun v H' L s r n1 n2=>h v H' L (s2.trans s) r ⟨n1,fun a ha=>s2.non (n2 a ha)⟩⟩
 | err n=>exact absurd hg (hn _ _ _)
 | bad=>rw[hg]at h;exact h.elim
def zq {op:Operator}{r:R2}{g:D->D->R D}(ho:OpR X (binaryOp op) r)(hB:OpB X.K r g)(hn:w6 g)(ha:ME X E Γ a ta ca)(hb:ME X E Γ b tb cb):ME X E Γ (.BinOp a op b pos) (zd g ta tb) .fresh:=by
 obtain⟨te,p,q⟩:=ha;obtain⟨te',p',q'⟩:=hb;exact⟨_,z1C ho p p',fun O σ H τ Q ok h=>Yl hB hn q q' ok h⟩
def kq {op:CmpOp}{r:R2}{g:D->D->R D}(ho:OpR X (compareOp op) r)(hB:OpB X.K r g)(hn:w6 g)(ha:ME X E Γ a ta ca)(hb:ME X E Γ b tb cb)(hm:behindInMarks op b=false):ME X E Γ (.Compare a [op] [b] pos) (zd g ta tb) .fresh:=by
 obtain⟨te,p,q⟩:=ha;obtain⟨te',p',q'⟩:=hb;exact⟨_,QZ ho p p' hm,fun O σ H τ Q ok h=>Yl hB hn q q' ok h⟩
def W0 {K:jJa}{O:Addr->Prop}{H:Hp}{Q:Bool->Hp->Prop}{r:R D}(h:postB K E H Q (r.bind asB)):post K E O c H (fun x H'=>∃k,x=.bl k/\Q k H') r:=by
 cases r with
 | ok d =>
  refine fun v H' L s r _=>?_;cases d with
  | bl k=>exact⟨k,r.1,h H' s⟩
  | _=>exact h.elim
 | err n=>exact h
 | bad=>exact h
def wc {op:CmpOp}{r:R2}{g:D->D->R D}(ho:OpR X (compareOp op) r)(hB:OpB X.K r g)(hn:w6 g)(ha:ME X E Γ a ta ca)(hb:ME X E Γ b tb cb)(hm:behindInMarks op b=false):MT X E Γ (.Compare a [op] [b] pos) (zz (zd g ta tb)):=by
 obtain⟨te,p,q⟩:=ha;obtain⟨te',p',q'⟩:=hb;exact⟨_,Xa ho p p' hm,fun O σ H τ Q ok h=>Yl (O:=O) hB hn q q' ok (W0 h)⟩
def ClB (K:jJa)(r:List V->Hp->VK->Prop)(g:List D->R D):Prop:=
 ∀H xs ds L (Q:VK),Reps K H ds xs L->(∃d,g ds=.ok d/\∀v H' L',Same H H'->Rep K H' d v L'->L'.Nodup->(∀a∈L',H a=none)->Q v H')->r xs H Q
def xh (g:List D->R D):Prop:=∀ds n,g ds≠.err n
variable {uL:Tn->R (List D)}{es:List Expr}
def Jo {r:List V->Hp->VK->Prop}{g:List D->R D}{ta':TA}(hB:ClB X.K r g)(hn:xh g)(q:∀O σ H τ Q,EOk X.K Γ O H σ τ->postL X.K E O ca H Q (uL τ)->ta' σ H Q)
  {O:Addr->Prop} {σ:St} {H:Hp} {τ:Tn} {Q:VK} (ok:EOk X.K Γ O H σ τ) (h:post X.K E O .fresh H Q (eL g uL τ)):tCB r ta' σ H Q:=by
 refine q O σ H τ _ ok ?_;unfold eL at h;cases hu:uL τ with
 | ok ds =>
  rw[hu,jYa]at h;refine fun vs H1 L s1 r1 _=>?_;cases hg:g ds with
  | ok d =>
   rw[hg]at h;exact hB H1 vs ds L Q r1 ⟨d,hg,fun v H' L s r n1 n2=>h v H' L (s1.trans s) r ⟨n1,fun a ha=>s1.non (n2 a ha)⟩⟩
  | err n=>exact absurd hg (hn _ _)
  | bad=>rw[hg]at h;exact h.elim
 | err n=>rw[hu]at h;exact h
 | bad=>rw[hu]at h;exact h
variable {x:Str}{id T:String}{p:Pos}
def zG {r:List V->Hp->VK->Prop}{g:List D->R D}(hc:CallR X (.builtin id) r)(hB:ClB X.K r g)(hn:xh g)(hg:Gl X x)(hm:X.mg x=none)(hv:bootBuiltins x=some (.builtin id))(ha:MA X E Γ (e::es) uL ca)(hx:autoParam (x≠"__name__") au1._auto_1)(hdb:autoParam ((x==("__debug__":Str))=false) au1._auto_1)
  (he:autoParam (starEach (e::es) X.env=(false,eval e X.env)::starEach es X.env) au3._auto_1) (hpl:autoParam ((backTo pos (starEach es X.env)).any (·.1)=false) au3._auto_1):ME X E Γ (.Call (.Name x p) (e::es) [] pos) (eL g uL) .fresh:=by
 obtain⟨_,ta',p',q⟩:=ha;exact⟨_,Y5 hc hg hm hv p' hx hdb he hpl,fun O σ H τ Q ok h=>Jo hB hn q ok h⟩
def yE {r:List V->Hp->VK->Prop}{g:List D->R D}(hc:CallR X (.type T) r)(hB:ClB X.K r g)(hn:xh g)(hg:Gl X x)(hm:X.mg x=none)(hv:bootBuiltins x=some (.type T))(ha:MA X E Γ (e::es) uL ca)(hx:autoParam (x≠"__name__") au1._auto_1)(hdb:autoParam ((x==("__debug__":Str))=false) au1._auto_1)
  (he:autoParam (starEach (e::es) X.env=(false,eval e X.env)::starEach es X.env) au3._auto_1) (hpl:autoParam ((backTo pos (starEach es X.env)).any (·.1)=false) au3._auto_1):ME X E Γ (.Call (.Name x p) (e::es) [] pos) (eL g uL) .fresh:=by
 obtain⟨_,ta',p',q⟩:=ha;exact⟨_,W7 hc hg hm hv p' hx hdb he hpl,fun O σ H τ Q ok h=>Jo hB hn q ok h⟩
end
def wpE (K:jJa)(E:XK)(Γ:List Cl)(t:Tn->R D)(c:Rc):TE:=fun σ H Q=>∃O τ,EOk K Γ O H σ τ/\post K E O c H Q (t τ)
def wpT (K:jJa)(E:XK)(Γ:List Cl)(t:Tn->R Bool):TT:=fun σ H Q=>∃O τ,EOk K Γ O H σ τ/\postB K E H Q (t τ)
theorem ME.pe {X:Cx}{E:XK}{Γ:List Cl}{e:Expr}{t:Tn->R D}{c:Rc}(h:ME X E Γ e t c):PE X e (wpE X.K E Γ t c):=by
 obtain⟨te,p,q⟩:=h;rintro pins s σ H Q I ⟨O,τ,ok,z⟩;exact p pins s σ H Q I (q O σ H τ Q ok z)
structure SOk (K:jJa)(Γ:List Cl)(B H:Hp)(σ:St)(τ:Tn)(T:List Addr):Prop where
 ext:Same B H
 lσ:σ.length=Γ.length
 lτ:τ.length=Γ.length
 ex:∃Ls:Nat->List Addr,
  (∀i c,Γ[i]?=some c->c≠.dead->∃v d,σ[i]?=some (some v)/\τ[i]?=some (some d)/\Rep K H d v (Ls i)) /\
  (∀i,Γ[i]?=some .own->(Ls i).Nodup/\∀a∈Ls i,B a=none) /\
  (∀i j c,i≠j->Γ[i]?=some .own->Γ[j]?=some c->c≠.dead->∀a∈Ls i,a∉Ls j) /\
  T.Nodup/\(∀a∈T,B a=none/\H a≠none)/\(∀i c,Γ[i]?=some c->c≠.dead->∀a∈Ls i,a∉T)
inductive Fl where
 | nx (τ:Tn) | rt (d:D) | bk (τ:Tn) | ct (τ:Tn)
def z0Q (K:jJa)(E:XK)(B:Hp)(Γ':List Cl)(σ:St)(τ:Tn)(T:List Addr)(H:Hp)(Q:VK):R D->Prop
 | .ok d=>∀v H' L,Same H H'->Rep K H' d v L->SOk K Γ' B H' σ τ (L++T)->Q v H'
 | .err n=>∀C H',ErrC K n C->Same B H'->E (.ref C) none H'
 | .bad=>False
def JS (K:jJa)(E:XK)(B:Hp)(Γ':List Cl)(σ:St)(τ:Tn)(T:List Addr)(H:Hp)(Q:List V->Hp->Prop):R (List D)->Prop
 | .ok ds=>∀vs H' L,Same H H'->Reps K H' ds vs L->SOk K Γ' B H' σ τ (L++T)->Q vs H'
 | .err n=>∀C H',ErrC K n C->Same B H'->E (.ref C) none H'
 | .bad=>False
def vj (K:jJa)(E:XK)(B:Hp)(Γl Γ':List Cl)(Z:Ends):R Fl->Prop
 | .ok (.nx τ')=>∀σ' H',SOk K Γ' B H' σ' τ' []->Z.nx σ' H'
 | .ok (.rt d)=>∀v H' L,Same B H'->Rep K H' d v L->L.Nodup->(∀a∈L,B a=none)->Z.rt v H'
 | .ok (.bk τ')=>∀σ' H',SOk K Γl B H' σ' τ' []->Z.bk σ' H'
 | .ok (.ct τ')=>∀σ' H',SOk K Γl B H' σ' τ' []->Z.ct σ' H'
 | .err n=>∀C H',ErrC K n C->Same B H'->E (.ref C) none H'
 | .bad=>False
def MV (X:Cx)(E:XK)(Γ:List Cl)(e:Expr)(t:Tn->R D)(Γ':List Cl):Prop:=
 ∃te,PE X e te/\∀B σ H τ T Q,SOk X.K Γ B H σ τ T->z0Q X.K E B Γ' σ τ T H Q (t τ)->te σ H Q
def MVs (X:Cx)(E:XK)(Γ:List Cl)(es:List Expr)(t:Tn->R (List D))(Γ':List Cl):Prop:=
 (∀τ ds,t τ=.ok ds->ds.length=es.length)/\∃ta,PA X es ta/\∀B σ H τ T Q,SOk X.K Γ B H σ τ T->JS X.K E B Γ' σ τ T H Q (t τ)->ta σ H Q
def MS (X:Cx)(E:XK)(Γl Γ:List Cl)(s:Stmt)(t:Tn->R Fl)(Γ':List Cl):Prop:=
 ∃ts,PS X s ts/\∀B σ H τ Z,SOk X.K Γ B H σ τ []->vj X.K E B Γl Γ' Z (t τ)->ts Z σ H
def MSs (X:Cx)(E:XK)(Γl Γ:List Cl)(s:List Stmt)(t:Tn->R Fl)(Γ':List Cl):Prop:=
 ∃ts,PSs X s ts/\∀B σ H τ Z,SOk X.K Γ B H σ τ []->vj X.K E B Γl Γ' Z (t τ)->ts Z σ H
section
variable {K:jJa}{Γ Γ':List Cl}{B H H1:Hp}{σ:St}{τ:Tn}{T:List Addr}
theorem SOk.eok (h:SOk K Γ B H σ τ T):∃O:Addr->Prop,EOk K Γ O H σ τ/\(∀L:List Addr,(∀a∈L,¬O a)->∃Ls:Nat->List Addr,
  (∀i c,Γ[i]?=some c->c≠.dead->∃v d,σ[i]?=some (some v)/\τ[i]?=some (some d)/\Rep K H d v (Ls i)) /\
  (∀i,Γ[i]?=some .own->(Ls i).Nodup/\∀a∈Ls i,B a=none) /\
  (∀i j c,i≠j->Γ[i]?=some .own->Γ[j]?=some c->c≠.dead->∀a∈Ls i,a∉Ls j) /\
  T.Nodup/\(∀a∈T,B a=none/\H a≠none)/\(∀i c,Γ[i]?=some c->c≠.dead->∀a∈Ls i,a∉T)/\∀i,Γ[i]?=some .own->∀a∈Ls i,a∉L):=by
 obtain⟨Ls,h1,h2,h3,h4,h5,h6⟩:=h.ex;refine⟨fun a=>∃i,Γ[i]?=some .own/\a∈Ls i,⟨fun a ⟨i,e,ha⟩=>?_,fun i c e hc=>?_⟩,fun L hL=>⟨Ls,h1,h2,h3,h4,h5,h6,fun i e a ha hm=>hL a hm ⟨i,e,ha⟩⟩⟩
 ·obtain⟨v,d,_,_,r⟩:=h1 i _ e (by simp);exact r.there ha
 ·obtain⟨v,d,e1,e2,r⟩:=h1 i c e hc;refine⟨v,d,Ls i,e1,e2,r,fun z a ha ⟨j,ej,hj⟩=>?_⟩;subst z;have hij:j≠i:=fun z=>by subst z;rw[e]at ej;cases ej
  exact h3 j i _ hij ej e (by simp) a hj ha
theorem SOk.same (h:SOk K Γ B H σ τ T)(s:Same H H1):SOk K Γ B H1 σ τ T:=by
 obtain⟨Ls,h1,h2,h3,h4,h5,h6⟩:=h.ex;refine⟨h.ext.trans s,h.lσ,h.lτ,Ls,fun i c e hc=>?_,h2,h3,h4,fun a ha=>⟨(h5 a ha).1,by rw[s.at (h5 a ha).2];exact (h5 a ha).2⟩,h6⟩;obtain⟨v,d,e1,e2,r⟩:=h1 i c e hc;exact⟨v,d,e1,e2,r.same s⟩
def SOk.aside {L:List Addr}(h:SOk K Γ B H σ τ T)(s:Same H H1)(r:∀a∈L,H1 a≠none)(n1:L.Nodup)(n2:∀a∈L,H a=none):SOk K Γ B H1 σ τ (L++T):=by
 obtain⟨Ls,h1,h2,h3,h4,h5,h6⟩:=h.ex;refine⟨h.ext.trans s,h.lσ,h.lτ,Ls,fun i c e hc=>?_,h2,h3,sF.mpr ⟨n1,h4,fun a ha b hb z=>?_⟩,fun a ha=>?_,fun i c e hc a ha hm=>?_⟩
 ·obtain⟨v,d,e1,e2,r⟩:=h1 i c e hc;exact⟨v,d,e1,e2,r.same s⟩
 ·subst z;exact (h5 a hb).2 (n2 a ha)
 ·rcases tW.mp ha with z|z
  ·exact⟨h.ext.non (n2 a z),r a z⟩
  ·exact⟨(h5 a z).1,by rw[s.at (h5 a z).2];exact (h5 a z).2⟩
 ·obtain⟨v,d,e1,e2,r'⟩:=h1 i c e hc;rcases tW.mp hm with z|z
  ·exact r'.there ha (n2 a z)
  ·exact h6 i c e hc a ha z
theorem SOk.perm {T':List Addr}(h:SOk K Γ B H σ τ T)(p:T.Perm T'):SOk K Γ B H σ τ T':=by
 obtain⟨Ls,h1,h2,h3,h4,h5,h6⟩:=h.ex;exact⟨h.ext,h.lσ,h.lτ,Ls,h1,h2,h3,p.nodup_iff.mp h4,fun a ha=>h5 a (p.mem_iff.mpr ha),fun i c e hc a ha hm=>h6 i c e hc a ha (p.mem_iff.mpr hm)⟩
def wk1:Cl->Cl->Bool
 | _,.dead=>true
 | .own,.own=>true
 | .own,.shr=>true
 | .shr,.shr=>true
 | _,_=>false
def wk:List Cl->List Cl->Bool
 | [],[]=>true
 | a::r,b::q=>wk1 a b&&wk r q
 | _,_=>false
theorem YG:∀ {Γ Γ':List Cl},wk Γ Γ'=true->Γ.length=Γ'.length
 | [],[],_=>rfl
 | a::r,b::q,h=>by
  have h:(wk1 a b&&wk r q)=true:=h;rw[sY]at h;rw[tL,tL,YG h.2]
theorem Jx:∀ {Γ Γ':List Cl} {i:Nat} {c:Cl},wk Γ Γ'=true->Γ'[i]?=some c->∃k,Γ[i]?=some k/\wk1 k c=true
 | [],[],_,_,_,e=>by simp at e
 | a::r,b::q,0,c,h,e=>by
  have h:(wk1 a b&&wk r q)=true:=h;rw[sY]at h;simp at e;subst e;exact⟨a,rfl,h.1⟩
 | a::r,b::q,i+1,c,h,e=>by
  have h:(wk1 a b&&wk r q)=true:=h;rw[sY]at h;obtain⟨k,h1,h2⟩:=Jx (i:=i) (c:=c) h.2 (by simpa using e);exact⟨k,by simpa using h1,h2⟩
theorem SOk.weak (h:SOk K Γ B H σ τ T)(w:wk Γ Γ'=true):SOk K Γ' B H σ τ T:=by
 obtain⟨Ls,h1,h2,h3,h4,h5,h6⟩:=h.ex;have live:∀(i:Nat) (c:Cl),Γ'[i]?=some c->c≠Cl.dead->∃k,Γ[i]?=some k/\k≠Cl.dead/\(c=Cl.own->k=Cl.own):=fun i c e hc=>by
  obtain⟨k,e',w'⟩:=Jx w e;refine⟨k,e',fun z=>?_,fun z=>?_⟩
  ·subst z;cases c<;>first|exact absurd rfl hc|cases w'
  ·subst z;cases k<;>first|rfl|cases w'
 refine⟨h.ext,by rw[<-YG w];exact h.lσ,by rw[<-YG w];exact h.lτ,Ls,fun i c e hc=>?_,fun i e=>?_,fun i j c hij ei ej hc=>?_,h4,h5,fun i c e hc=>?_⟩
 ·obtain⟨k,e',n,_⟩:=live i c e hc;exact h1 i k e' n
 ·obtain⟨k,e',n,o⟩:=live i _ e (by simp);rw[o rfl]at e';exact h2 i e'
 ·obtain⟨k,e',n,o⟩:=live i _ ei (by simp);obtain⟨k2,e2,n2,_⟩:=live j c ej hc;rw[o rfl]at e';exact h3 i j k2 hij e' e2 n2
 ·obtain⟨k,e',n,_⟩:=live i c e hc;exact h6 i k e' n
theorem SOk.out {i:Nat}(h:SOk K Γ B H σ τ T)(e:Γ[i]?=some .own):∃v d L,σ[i]?=some (some v)/\τ[i]?=some (some d)/\Rep K H d v L/\SOk K (Γ.set i .dead) B H σ τ (L++T):=by
 obtain⟨Ls,h1,h2,h3,h4,h5,h6⟩:=h.ex;obtain⟨v,d,e1,e2,r⟩:=h1 i _ e (by simp);have hi:i<Γ.length:=(tT.mp e).1;have at':∀(j:Nat) (c:Cl),(Γ.set i .dead)[j]?=some c->c≠.dead->j≠i/\Γ[j]?=some c:=fun j c ej hc=>by
  by_cases z:i=j
  ·subst z;rw[sE hi]at ej;exact absurd (jYe ej).symm hc
  ·rw[sC z]at ej;exact⟨Ne.symm z,ej⟩
 refine⟨v,d,Ls i,e1,e2,r,⟨h.ext,by rw[sO];exact h.lσ,by rw[sO];exact h.lτ,Ls,fun j c ej hc=>h1 j c (at' j c ej hc).2 hc,fun j ej=>h2 j (at' j _ ej (by simp)).2,fun j k c hjk ej ek hc=>h3 j k c hjk (at' j _ ej (by simp)).2 (at' k c ek hc).2 hc,
  sF.mpr ⟨(h2 i e).1,h4,fun a ha b hb z=>?_⟩,fun a ha=>?_,fun j c ej hc a ha hm=>?_⟩⟩
 ·subst z;exact h6 i _ e (by simp) a ha hb
 ·rcases tW.mp ha with z|z
  ·exact⟨(h2 i e).2 a z,r.there z⟩
  ·exact h5 a z
 ·obtain⟨n,ej'⟩:=at' j c ej hc;rcases tW.mp hm with z|z
  ·exact h3 i j c (Ne.symm n) e ej' hc a z ha
  ·exact h6 j c ej' hc a ha z
def Yq (Ls:Nat->List Addr)(i:Nat)(L:List Addr):Nat->List Addr:=fun j=>if j=i then L else Ls j
def y0 {Ls:Nat->List Addr}{i:Nat}{L:List Addr}:Yq Ls i L i=L:=if_pos rfl
def Xk {Ls:Nat->List Addr}{i j:Nat}{L:List Addr}(h:j=i):Yq Ls i L j=L:=if_pos h
def zU {Ls:Nat->List Addr}{i j:Nat}{L:List Addr}(h:j≠i):Yq Ls i L j=Ls j:=if_neg h
theorem SOk.into {i:Nat}{d:D}{v:V}{L:List Addr}(h:SOk K Γ B H σ τ (L++T))(r:Rep K H d v L)(hi:i<Γ.length):SOk K (Γ.set i .own) B H (σ.set i (some v)) (τ.set i (some d)) T:=by
 obtain⟨Ls,h1,h2,h3,h4,h5,h6⟩:=h.ex;have hσ:i<σ.length:=by rw[h.lσ];exact hi
 have hτ:i<τ.length:=by rw[h.lτ];exact hi
 obtain⟨n1,n2,n3⟩:=sF.mp h4;have at':∀(j:Nat) (c:Cl),j≠i->(Γ.set i .own)[j]?=some c->Γ[j]?=some c:=fun j c hj e=>by rw[sC (Ne.symm hj)]at e;exact e
 refine⟨h.ext,by rw[sO,sO];exact h.lσ,by rw[sO,sO];exact h.lτ,Yq Ls i L,fun j c e hc=>?_,fun j e=>?_,fun j k c hjk ej ek hc a ha hm=>?_,n2,fun a ha=>h5 a (tN _ ha),fun j c e hc a ha hm=>?_⟩
 ·by_cases z:j=i
  ·subst z;refine⟨v,d,by rw[sE hσ],by rw[sE hτ],?_⟩;rw[y0];exact r
  ·obtain⟨v',d',e1,e2,r'⟩:=h1 j c (at' j c z e) hc;refine⟨v',d',by rw[sC (Ne.symm z)];exact e1,by rw[sC (Ne.symm z)];exact e2,?_⟩;rw[zU z];exact r'
 ·by_cases z:j=i
  ·subst z;rw[y0];exact⟨n1,fun a ha=>(h5 a (tX _ ha)).1⟩
  ·rw[zU z];exact h2 j (at' j _ z e)
 ·by_cases z:j=i
  ·subst z;rw[y0]at ha;rw[zU (Ne.symm hjk)]at hm;exact h6 k c (at' k c (Ne.symm hjk) ek) hc a hm (tX _ ha)
  ·rw[zU z]at ha
   by_cases z2:k=i
   ·subst z2;rw[y0]at hm;exact h6 j _ (at' j _ z ej) (by simp) a ha (tX _ hm)
   ·rw[zU z2]at hm;exact h3 j k c hjk (at' j _ z ej) (at' k c z2 ek) hc a ha hm
 ·by_cases z:j=i
  ·subst z;rw[y0]at ha;exact n3 a ha a hm rfl
  ·rw[zU z]at ha;exact h6 j c (at' j c z e) hc a ha (tN _ hm)
end
section
variable {K:jJa}{Γ Γ':List Cl}{B H H1:Hp}{σ:St}{τ:Tn}{T:List Addr}
def SOk.intoS {i:Nat}{d:D}{v:V}{L:List Addr}{Ls:Nat->List Addr}(e0:Same B H)(l1:σ.length=Γ.length)(l2:τ.length=Γ.length)
  (h1:∀i c,Γ[i]?=some c->c≠.dead->∃v d,σ[i]?=some (some v)/\τ[i]?=some (some d)/\Rep K H d v (Ls i)) (h2:∀i,Γ[i]?=some .own->(Ls i).Nodup/\∀a∈Ls i,B a=none)
  (h3:∀i j c,i≠j->Γ[i]?=some .own->Γ[j]?=some c->c≠.dead->∀a∈Ls i,a∉Ls j) (h7:∀i,Γ[i]?=some .own->∀a∈Ls i,a∉L) (r:Rep K H d v L) (hi:i<Γ.length):
  SOk K (Γ.set i .shr) B H (σ.set i (some v)) (τ.set i (some d)) []:=by
 have hσ:i<σ.length:=by rw[l1];exact hi
 have hτ:i<τ.length:=by rw[l2];exact hi
 have at':∀(j:Nat) (c:Cl),j≠i->(Γ.set i .shr)[j]?=some c->Γ[j]?=some c:=fun j c hj e=>by rw[sC (Ne.symm hj)]at e;exact e
 have nown:∀j:Nat,(Γ.set i .shr)[j]?=some .own->j≠i:=fun j e z=>by subst z;rw[sE hi]at e;cases e
 refine⟨e0,by rw[sO,sO];exact l1,by rw[sO,sO];exact l2,Yq Ls i L,fun j c e hc=>?_,fun j e=>?_,fun j k c hjk ej ek hc a ha hm=>?_,pA,fun a ha=>(nomatch ha),fun j c e hc a ha hm=>(nomatch hm)⟩
 ·by_cases z:j=i
  ·subst z;refine⟨v,d,by rw[sE hσ],by rw[sE hτ],?_⟩;rw[y0];exact r
  ·obtain⟨v',d',e1,e2,r'⟩:=h1 j c (at' j c z e) hc;refine⟨v',d',by rw[sC (Ne.symm z)];exact e1,by rw[sC (Ne.symm z)];exact e2,?_⟩;rw[zU z];exact r'
 ·have z:=nown j e;rw[zU z];exact h2 j (at' j _ z e)
 ·have z:=nown j ej;rw[zU z]at ha
  by_cases z2:k=i
  ·rw[Xk z2]at hm;exact h7 j (at' j _ z ej) a ha hm
  ·rw[zU z2]at hm;exact h3 j k c hjk (at' j _ z ej) (at' k c z2 ek) hc a ha hm
end
section
variable {X:Cx}{E:XK}{Γ Γ1 Γ' Γl:List Cl}{e a b:Expr}{es:List Expr}{t:Tn->R D}{u:Tn->R (List D)}{c:Rc}{pos:Pos}
def zg (h:ME X E Γ e t .fresh):MV X E Γ e t Γ:=by
 obtain⟨te,p,q⟩:=h;refine⟨te,p,fun B σ H τ T Q ok h=>?_⟩;obtain⟨O,eo,_⟩:=ok.eok;refine q O σ H τ Q eo ?_;cases ht:t τ with
 | ok d =>
  rw[ht]at h;exact fun v H' L s r k=>h v H' L s r (ok.aside s (fun a ha=>r.there ha) k.1 k.2)
 | err n=>rw[ht]at h;exact fun C H' e s=>h C H' e (ok.ext.trans s)
 | bad=>rw[ht]at h;exact h
def UR {i:Nat}{x:Str}(hN:X.N[i]?=some x)(hk:Γ[i]?=some .own)(hv:Vis X.env.scope x)(hb:autoParam ((x==("__debug__":Str))=false) au1._auto_1)(hcd:autoParam ((x==("__classdict__":Str))=false) au1._auto_1):MV X E Γ (.Name x pos) (zb i) (Γ.set i .dead):=by
 refine⟨z0d i,wq hN hv hb hcd,fun B σ H τ T Q ok h=>?_⟩;obtain⟨v,d,L,e1,e2,r,ok'⟩:=ok.out hk;unfold zb at h;rw[e2]at h;exact⟨v,e1,h v H L (Same.refl H) r ok'⟩
def vx:MVs X E Γ [] ze Γ:=⟨fun τ ds h=>by cases h;rfl,KA,vX,fun B σ H τ T Q ok h=>h [] H [] (Same.refl H) Reps.nil ok⟩
def zW (h:MV X E Γ e t Γ1)(r:MVs X E Γ1 es u Γ')(hs:autoParam (starEach (e::es) X.env=(false,eval e X.env)::starEach es X.env) au3._auto_1):MVs X E Γ (e::es) (za t u) Γ':=by
 obtain⟨te,p1,q1⟩:=h;obtain⟨hl,ta,p2,q2⟩:=r;refine⟨fun τ ds h=>?_,U9 te ta,wg p1 p2 hs,fun B σ H τ T Q ok h=>?_⟩
 ·unfold za at h;cases h1:t τ with
  | ok d =>
   rw[h1,jYa]at h;cases h2:u τ with
   | ok xs =>
    rw[h2,jYa]at h;cases h;rw[tL,tL,hl τ xs h2]
   | err n=>rw[h2]at h;cases h
   | bad=>rw[h2]at h;cases h
  | err n=>rw[h1]at h;cases h
  | bad=>rw[h1]at h;cases h
 ·unfold za at h;refine q1 B σ H τ T _ ok ?_;cases h1:t τ with
  | ok d =>
   rw[h1,jYa]at h;refine fun v H1 L1 s1 r1 k1=>q2 B σ H1 τ (L1++T) _ k1 ?_;cases h2:u τ with
   | ok xs =>
    rw[h2,jYa]at h;refine fun vs H2 L2 s2 r2 k2=>h (v::vs) H2 (L1++L2) (s1.trans s2) (Reps.cons (r1.same s2) r2) (k2.perm ?_);rw[<-tO];exact List.Perm.append_right _ rR
   | err n=>rw[h2]at h;exact h
   | bad=>rw[h2]at h;exact h
  | err n=>rw[h1]at h;exact h
  | bad=>rw[h1]at h;exact h
def uA {x1}(h:MVs X E Γ es u Γ')(hz:autoParam (es.length<=1000) au1._auto_1):MV X E Γ (.Tuple es x1 pos) (eL (fun ds=>.ok (.tup ds)) u) Γ':=by
 obtain⟨hl,ta,p,q⟩:=h;refine⟨Kk ta,WQ p,fun B σ H τ T Q ok h=>q B σ H τ T _ ok ?_⟩;unfold eL at h;have hs:sizeLine=16777216:=sizeLine_eq;cases hu:u τ with
 | ok ds =>
  rw[hu,jYa]at h;refine fun vs H1 L s r k=>⟨by rw[r.length,hl τ ds hu];lia,fun p hp=>?_⟩
  exact h _ _ L (s.trans (Same.new hp)) ⟨p,vs,rfl,SqT.of zE,r.same (Same.new hp)⟩ (k.same (Same.new hp))
 | err n=>rw[hu]at h;exact h
 | bad=>rw[hu]at h;exact h
def yi:Tn->R Fl:=fun τ=>.ok (.nx τ)
def zj (a b:Tn->R Fl):Tn->R Fl:=fun τ=>(a τ).bind fun f=>match f with
 | .nx τ'=>b τ'
 | f=>.ok f
def zB (t:Tn->R D):Tn->R Fl:=fun τ=>(t τ).bind fun d=>.ok (.rt d)
def zl (i:Nat)(t:Tn->R D):Tn->R Fl:=fun τ=>(t τ).bind fun d=>.ok (.nx (τ.set i (some d)))
def sIf (k:Tn->R Bool)(a b:Tn->R Fl):Tn->R Fl:=fun τ=>(k τ).bind fun x=>if x=true then a τ else b τ
def xo:MSs X E Γl Γ [] yi Γ:=⟨J8,Up,fun B σ H τ Z ok h=>h σ H ok⟩
def zp {s:Stmt}{t:Tn->R Fl}(h:MS X E Γl Γ s t Γ'):MSs X E Γl Γ [s] t Γ':=by
 obtain⟨ts,p,q⟩:=h;exact⟨ts,Xx p,q⟩
def zh {s:Stmt}{r:List Stmt}{t1 t2:Tn->R Fl}(h:MS X E Γl Γ s t1 Γ1)(k:MSs X E Γl Γ1 r t2 Γ'):MSs X E Γl Γ (s::r) (zj t1 t2) Γ':=by
 obtain⟨ts,p,q⟩:=h;obtain⟨ts',p',q'⟩:=k;refine⟨z0r ts ts',Zu p p',fun B σ H τ Z ok h=>q B σ H τ _ ok ?_⟩;unfold zj at h;cases ht:t1 τ with
 | ok f =>
  rw[ht,jYa]at h;cases f with
  | nx τ'=>exact fun σ' H' ok'=>q' B σ' H' τ' Z ok' h
  | rt d=>exact h
  | bk τ'=>exact h
  | ct τ'=>exact h
 | err n=>rw[ht]at h;exact h
 | bad=>rw[ht]at h;exact h
def WZ {s:List Stmt}{t:Tn->R Fl}(h:MSs X E Γl Γ s t Γ1)(w:wk Γ1 Γ'=true):MSs X E Γl Γ s t Γ':=by
 obtain⟨ts,p,q⟩:=h;refine⟨ts,p,fun B σ H τ Z ok h=>q B σ H τ Z ok ?_⟩;cases ht:t τ with
 | ok f =>
  rw[ht]at h;cases f with
  | nx τ'=>exact fun σ' H' ok'=>h σ' H' (ok'.weak w)
  | rt d=>exact h
  | bk τ'=>exact h
  | ct τ'=>exact h
 | err n=>rw[ht]at h;exact h
 | bad=>rw[ht]at h;exact h
def YY {s:Stmt}{t:Tn->R Fl}(h:MS X E Γl Γ1 s t Γ')(w:wk Γ Γ1=true):MS X E Γl Γ s t Γ':=by
 obtain⟨ts,p,q⟩:=h;exact⟨ts,p,fun B σ H τ Z ok h=>q B σ H τ Z (ok.weak w) h⟩
def zQ (h:MV X E Γ e t Γ1):MS X E Γl Γ (.Return (some e) pos) (zB t) Γ':=by
 obtain⟨te,p,q⟩:=h;refine⟨z1e te,JM p,fun B σ H τ Z ok h=>q B σ H τ [] _ ok ?_⟩;unfold zB at h;cases ht:t τ with
 | ok d =>
  rw[ht,jYa]at h;refine fun v H' L s r ok'=>?_;obtain⟨Ls,_,_,_,h4,h5,_⟩:=ok'.ex;rw[tQ]at h4 h5;exact h v H' L ok'.ext r h4 fun a ha=>(h5 a ha).1
 | err n=>rw[ht]at h;exact h
 | bad=>rw[ht]at h;exact h
def vp {k:Expr}{u:Tn->R Bool}{sa sb:List Stmt}{t1 t2:Tn->R Fl}(hk:MT X E Γ k u)(ha:MSs X E Γl Γ sa t1 Γ')(hb:MSs X E Γl Γ sb t2 Γ'):MS X E Γl Γ (.If k sa sb pos) (sIf u t1 t2) Γ':=by
 obtain⟨te,p,q⟩:=hk;obtain⟨ts1,p1,q1⟩:=ha;obtain⟨ts2,p2,q2⟩:=hb;refine⟨z1j te ts1 ts2,JB p p1 p2,fun B σ H τ Z ok h=>?_⟩;obtain⟨O,eo,_⟩:=ok.eok;refine q O σ H τ _ eo ?_;unfold sIf at h;cases ht:u τ with
 | ok x =>
  rw[ht,jYa]at h;refine fun H1 s1=>?_;cases x with
  | true=>rw[if_pos rfl]at h ⊢;exact q1 B σ H1 τ Z (ok.same s1) h
  | false=>rw[if_neg tH]at h ⊢;exact q2 B σ H1 τ Z (ok.same s1) h
 | err n=>rw[ht]at h;exact fun C H' e s=>h C H' e (ok.ext.trans s)
 | bad=>rw[ht]at h;exact h
def Kh {i:Nat}{x:Str}{pos':Pos}(hN:X.N.Nodup)(hi:X.N[i]?=some x)(hl:i<Γ1.length)(h:MV X E Γ e t Γ1)(hx:Loc X.env.scope x)(hs:autoParam (swapsWith e (some (.Name x pos')) pos.line X.env=pure false) au3._auto_1)(hf:autoParam (X.fn x=true\/X.env.scope.names.lookup x=some .local) au0._auto_1):
  MS X E Γl Γ (.Assign [.Name x pos'] e pos) (zl i t) (Γ1.set i .own):=by
 obtain⟨te,p,q⟩:=h;refine⟨_,Uh hN hi hx p hs hf,fun B σ H τ Z ok h=>q B σ H τ [] _ ok ?_⟩;unfold zl at h;cases ht:t τ with
 | ok d =>
  rw[ht,jYa]at h;exact fun v H' L s r ok'=>h _ _ (ok'.into r hl)
 | err n=>rw[ht]at h;exact h
 | bad=>rw[ht]at h;exact h
def UI {i:Nat}{x:Str}{pos':Pos}(hN:X.N.Nodup)(hi:X.N[i]?=some x)(hl:i<Γ.length)(h:ME X E Γ e t c)(hc:c≠.bor)(hx:Loc X.env.scope x)(hs:autoParam (swapsWith e (some (.Name x pos')) pos.line X.env=pure false) au3._auto_1)(hf:autoParam (X.fn x=true\/X.env.scope.names.lookup x=some .local) au0._auto_1):
  MS X E Γl Γ (.Assign [.Name x pos'] e pos) (zl i t) (Γ.set i .shr):=by
 obtain⟨te,p,q⟩:=h;refine⟨_,Uh hN hi hx p hs hf,fun B σ H τ Z ok h=>?_⟩;obtain⟨O,eo,hL⟩:=ok.eok;refine q O σ H τ _ eo ?_;unfold zl at h;cases ht:t τ with
 | ok d =>
  rw[ht,jYa]at h;refine fun v H' L s r k=>h _ _ ?_;obtain⟨Ls,h1,h2,h3,_,_,_,h7⟩:=hL L (k.shr eo.dom hc);exact SOk.intoS (ok.ext.trans s) ok.lσ ok.lτ (fun j c e hc=>by obtain⟨v',d',e1,e2,r'⟩:=h1 j c e hc;exact⟨v',d',e1,e2,r'.same s⟩) h2 h3 h7 r hl
 | err n=>rw[ht]at h;exact fun C H' e s=>h C H' e (ok.ext.trans s)
 | bad=>rw[ht]at h;exact h
end
section
variable {K:jJa}{Γ Γ':List Cl}{B H H1:Hp}{σ:St}{τ:Tn}{T:List Addr}
theorem SOk.slot {i:Nat}(h:SOk K Γ B H σ τ T)(e:Γ[i]?=some .own):∃v d L,σ[i]?=some (some v)/\τ[i]?=some (some d)/\Rep K H d v L/\L.Nodup/\(∀a∈L,B a=none/\a∉T) /\
  ∀(H2:Hp) (d2:D) (L2 Le T':List Addr),T=Le++T'->TF H H2->(∀b,b∉L->H b≠none->H2 b=H b)->Rep K H2 d2 v L2->(∀a∈L2,a∈L\/a∈Le)->L2.Nodup->SOk K Γ B H2 σ (τ.set i (some d2)) T':=by
 obtain⟨Ls,h1,h2,h3,h4,h5,h6⟩:=h.ex;obtain⟨v,d,e1,e2,r⟩:=h1 i _ e (by simp);refine⟨v,d,Ls i,e1,e2,r,(h2 i e).1,fun a ha=>⟨(h2 i e).2 a ha,h6 i _ e (by simp) a ha⟩,?_⟩;rintro H2 d2 L2 Le T' rfl tf kp r2 sub nd;obtain⟨n1,n2,n3⟩:=sF.mp h4;have hτ:i<τ.length:=(tT.mp e2).1;have notL:∀b,B b≠none->b∉Ls i:=fun b hb hm=>hb ((h2 i e).2 b hm);refine⟨fun b o q=>?_,h.lσ,by rw[sO];exact h.lτ,Yq Ls i L2,fun j c ej hc=>?_,fun j ej=>?_,fun j k c hjk ej ek hc a ha hm=>?_,n2,fun a ha=>⟨(h5 a (tN _ ha)).1,?_⟩,fun j c ej hc a ha hm=>?_⟩
 ·have hq:=h.ext b o q;rw[kp b (notL b (by rw[q];simp)) (by rw[hq];simp)];exact hq
 ·by_cases z:j=i
  ·subst z;refine⟨v,d2,e1,by rw[sE hτ],?_⟩;rw[y0];exact r2
  ·obtain⟨v',d',q1,q2,r'⟩:=h1 j c ej hc;refine⟨v',d',q1,by rw[sC (Ne.symm z)];exact q2,?_⟩;rw[zU z];exact Rep.keep tf d' v' _ r' fun a ha=>kp a (fun hm=>h3 i j c (Ne.symm z) e ej hc a hm ha) (r'.there ha)
 ·by_cases z:j=i
  ·subst z;rw[y0];refine⟨nd,fun a ha=>?_⟩;rcases sub a ha with m|m
   ·exact (h2 _ e).2 a m
   ·exact (h5 a (tX _ m)).1
  ·rw[zU z];exact h2 j ej
 ·by_cases z:j=i
  ·subst z;rw[y0]at ha;rw[zU (Ne.symm hjk)]at hm;rcases sub a ha with m|m
   ·exact h3 _ k c hjk e ek hc a m hm
   ·exact h6 k c ek hc a hm (tX _ m)
  ·rw[zU z]at ha
   by_cases z2:k=i
   ·subst z2;rw[y0]at hm;rcases sub a hm with m|m
    ·exact h3 j _ _ hjk ej e (by simp) a ha m
    ·exact h6 j _ ej (by simp) a ha (tX _ m)
   ·rw[zU z2]at hm;exact h3 j k c hjk ej ek hc a ha hm
 ·have q:=(h5 a (tN _ ha)).2;rw[kp a (fun hm=>h6 i _ e (by simp) a hm (tN _ ha)) q];exact q
 ·by_cases z:j=i
  ·rw[Xk z]at ha;rcases sub a ha with m|m
   ·exact h6 i _ e (by simp) a m (tN _ hm)
   ·exact n3 a m a hm rfl
  ·rw[zU z]at ha;exact h6 j c ej hc a ha (tN _ hm)
theorem TF.upd {a:Addr}{o:HO}(h:(∃vs,H a=some (.lst vs))\/∃kvs,H a=some (.dK kvs)):TF H (upd H a o):=by
 refine⟨fun b xs e=>?_,fun b p u e=>?_,fun b C dx fs e=>?_⟩<;>(rw[zK];exact e;rintro rfl;rcases h with⟨_,h⟩|⟨_,h⟩<;>rw[h]at e<;>cases e)
theorem Rep.upd {d:D}{v:V}{L:List Addr}{a:Addr}{o:HO}(r:Rep K H d v L)(h:(∃vs,H a=some (.lst vs))\/∃kvs,H a=some (.dK kvs))(n:a∉L):Rep K (L2.upd H a o) d v L:=
 Rep.keep (TF.upd h) d v L r fun b hb=>zK fun z=>n (z▸hb)
theorem Reps.upd {d:List D}{v:List V}{L:List Addr}{a:Addr}{o:HO}(r:Reps K H d v L)(h:(∃vs,H a=some (.lst vs))\/∃kvs,H a=some (.dK kvs))(n:a∉L):Reps K (L2.upd H a o) d v L:=
 Reps.keep (TF.upd h) d v L r fun b hb=>zK fun z=>n (z▸hb)
theorem Reps.set:∀ {ds:List D} {vs:List V} {L:List Addr} {d:D} {v:V} {Le:List Addr} (j:Nat),Reps K H ds vs L->Rep K H d v Le->j<ds.length->∃L2,Reps K H (ds.set j d) (vs.set j v) L2/\(∀a∈L2,a∈L\/a∈Le)/\((L++Le).Nodup->L2.Nodup)
 | [],_,_,_,_,_,_,_,_,h=>by simp at h
 | d::ds,_,_,d',v',Le,0,hq7,r,_=>by
  obtain⟨v,vs',L1,L2,e1,e2,h1,h2⟩:=hq7;subst e1 e2;refine⟨Le++L2,by simpa using Reps.cons r h2,fun a ha=>?_,fun n=>?_⟩
  ·rcases tW.mp ha with z|z
   ·exact .inr z
   ·exact .inl (tN _ z)
  ·obtain⟨n1,n2,n3⟩:=sF.mp n;obtain⟨m1,m2,m3⟩:=sF.mp n1;exact sF.mpr ⟨n2,m2,fun a ha b hb z=>n3 b (tN _ hb) a ha z.symm⟩
 | d::ds,_,_,d',v',Le,j+1,hq7,r,hj=>by
  obtain⟨v,vs',L1,L2,e1,e2,h1,h2⟩:=hq7;subst e1 e2;obtain⟨L3,a1,a2,a3⟩:=Reps.set j h2 r (by simpa using hj);refine⟨L1++L3,by simpa using Reps.cons h1 a1,fun a ha=>?_,fun n=>?_⟩
  ·rcases tW.mp ha with z|z
   ·exact .inl (tX _ z)
   ·rcases a2 a z with m|m
    ·exact .inl (tN _ m)
    ·exact .inr m
  ·rw[tO]at n;obtain⟨n1,n2,n3⟩:=sF.mp n;refine sF.mpr ⟨n1,a3 n2,fun a ha b hb z=>?_⟩;rcases a2 b hb with m|m
   ·exact n3 a ha b (tX _ m) z
   ·exact n3 a ha b (tN _ m) z
end
section
variable {X:Cx}{E:XK}{Γ Γ1 Γ' Γl:List Cl}{e a b:Expr}{es:List Expr}{t t':Tn->R D}{u:Tn->R (List D)}{c:Rc}{pos:Pos}
def xH (i:Nat)(t:Tn->R D):Tn->R Fl:=fun τ=>(zb i τ).bind fun l=>match l with
 | .lst ds=>(t τ).bind fun d=>if ds.length<sizeLine then .ok (.nx (τ.set i (some (.lst (ds++[d]))))) else .bad
 | _=>.bad
def Wo {i:Nat}{x:Str}{p0 p1 p2:Pos}(hN:X.N[i]?=some x)(h0:Γ[i]?=some .own)(h:MV X E Γ e t Γ1)(hk:Γ1[i]?=some .own)(hv:Vis X.env.scope x)(hb:autoParam ((x==("__debug__":Str))=false) au1._auto_1)(hcd:autoParam ((x==("__classdict__":Str))=false) au1._auto_1)
  (hbase:autoParam (attributeBase (.Name x p0) "append" X.env (eval (.Name x p0) X.env)=eval (.Name x p0) X.env) au3._auto_1)
  (hfew:autoParam (((backTo p2 (starEach [e] X.env)).all (fun x=>!x.1)&&(backToKw p2 (keywordEach [] X.env)).all (fun x=>x.1.isSome)&&decide ([e].length+([]:List Keyword).length+(if ([]:List Keyword).isEmpty then 0 else 1)<30))=true) au3._auto_1)
  (hline:autoParam ((p1.endLine==p2.line)=true) au3._auto_1) (hs:autoParam (starEach [e] X.env=(false,eval e X.env)::starEach [] X.env) au3._auto_1) (hplain:autoParam ((backTo p2 (starEach [] X.env)).any (·.1)=false) au3._auto_1)
  (hsw:autoParam (swapsWith (.Call (.Attribute (.Name x p0) "append" p1) [e] [] p2) none pos.line X.env=pure false) au3._auto_1):
  MS X E Γl Γ (.Expr (.Call (.Attribute (.Name x p0) "append" p1) [e] [] p2) pos) (xH i t) Γ1:=by
 obtain⟨te,p,q⟩:=h;refine⟨_,qq (Zc jQr jQs jQt vA (wq (pos:=p0) hN hv hb hcd) (wg p vX hs) hbase hfew hline hs hplain) hsw,fun B σ H τ Z ok h=>?_⟩;obtain⟨v,d,L,e1,e2,r,_⟩:=ok.slot h0;refine⟨v,e1,?_⟩;unfold xH at h;have ev:zb i τ=.ok d:=by unfold zb;rw[e2]
 rw[ev,jYa]at h;cases d with
 | lst ds =>
  obtain⟨a,vs,L',rfl,ha,_,rs⟩:=r;refine⟨.inl ⟨rfl,vs,SqL.of ha⟩,q B σ H τ [] _ ok ?_⟩;dsimp only at h;cases ht:t τ with
  | ok d' =>
   rw[ht,jYa]at h;refine fun y H1 Le s1 ry ok1=>?_;obtain⟨v1,d1,L1,q1,q2,r1,n1,n2,fin⟩:=ok1.slot hk;rw[e1]at q1;cases q1;rw[e2]at q2;cases q2;obtain⟨a1,vs1,L1',z1,ha1,z2,rs1⟩:=r1;cases z1;subst z2;have hl:vs1.length=ds.length:=rs1.length
   by_cases hz:ds.length<sizeLine
   ·rw[if_pos hz]at h;have mu:(∃vs,H1 a=some (.lst vs))\/∃kvs,H1 a=some (.dK kvs):=.inl ⟨_,ha1⟩;have na:a∉Le:=fun m=>(n2 a tF).2 (tX _ m);obtain⟨m1,m2⟩:=sI.mp n1;refine⟨a,vs1,y,rfl,rfl,ha1,by lia,h _ _ (fin _ _ (a::(L1'++Le)) Le [] rfl (TF.upd mu) (fun b hb _=>zK fun z=>hb (z▸tF)) ?_ (fun b hb=>?_) ?_)⟩
    ·refine⟨a,vs1++[y],L1'++Le,rfl,zE,rfl,Reps.append (rs1.upd mu m1) ?_⟩;have:=Reps.cons (ry.upd (o:=.lst (vs1++[y])) mu na) (Reps.nil (K:=X.K) (H:=upd H1 a (.lst (vs1++[y]))));rw[tQ]at this;exact this
    ·rcases tV.mp hb with z|z
     ·exact .inl (z▸tF)
     ·rcases tW.mp z with z|z
      ·exact .inl (tG _ z)
      ·exact .inr z
    ·refine sI.mpr ⟨fun z=>?_,sF.mpr ⟨m2,?_,fun b hb b' hb' z=>?_⟩⟩
     ·rcases tW.mp z with z|z
      ·exact m1 z
      ·exact na z
     ·obtain⟨_,_,_,_,w4,_⟩:=ok1.ex;rw[tQ]at w4;exact w4
     ·subst z;exact (n2 b (tG _ hb)).2 (tX _ hb')
   ·rw[if_neg hz]at h;exact h.elim
  | err n=>rw[ht]at h;exact h
  | bad=>rw[ht]at h;exact h
 | _=>exact h.elim
def z0h (ds:List D)(k:Int)(d:D):R D:=match ixN ds.length k with
 | some j=>.ok (.lst (ds.set j d))
 | none=>.bad
def KC (i:Nat)(t ti:Tn->R D):Tn->R Fl:=fun τ=>(t τ).bind fun d=>(zb i τ).bind fun l=>(ti τ).bind fun k=>match l,k with
 | .lst ds,.int k=>(z0h ds k d).bind fun l'=>.ok (.nx (τ.set i (some l')))
 | _,_=>.bad
def JR {i:Nat}{x:Str}{p0 p1:Pos}{ix:Expr}{ti:Tn->R D}(hN:X.N[i]?=some x)(h:MV X E Γ e t Γ1)(hi:ME X E Γ1 ix ti c)(hk:Γ1[i]?=some .own)(hv:Vis X.env.scope x)(hb:autoParam ((x==("__debug__":Str))=false) au1._auto_1)(hcd:autoParam ((x==("__classdict__":Str))=false) au1._auto_1)
  (ha:autoParam (∀v,assign (.Subscript (.Name x p0) ix p1) X.env v=(do
   let ov <-holding [v] (eval (.Name x p0) X.env)
   let iv <-holding [v,ov] (eval ix X.env)
   standAt p1
   holding [v,ov,iv] (setItem ov iv v)
   release [v,ov,iv] [])) au2._auto_1)
  (hs:autoParam (swapsWithSole [.Subscript (.Name x p0) ix p1] e pos.line X.env=pure false) au3._auto_1) (hw:autoParam (swappedStores [.Subscript (.Name x p0) ix p1] e X.env=pure none) au3._auto_1)
  (h1:autoParam ((assignEach [.Subscript (.Name x p0) ix p1] X.env).map (·.2)=[assign (.Subscript (.Name x p0) ix p1) X.env]) au3._auto_1):
  MS X E Γl Γ (.Assign [.Subscript (.Name x p0) ix p1] e pos) (KC i t ti) Γ1:=by
 obtain⟨te,p,q⟩:=h;obtain⟨te',p',q'⟩:=hi;refine⟨_,U3 p (KH (wq (pos:=p0) hN hv hb hcd) p' WX ha) hs hw h1,fun B σ H τ Z ok h=>q B σ H τ [] _ ok ?_⟩;unfold KC at h;cases ht:t τ with
 | ok d' =>
  rw[ht,jYa]at h;refine fun y H1 Le s1 ry ok1=>?_;obtain⟨v1,d1,L1,q1,q2,r1,n1,n2,_⟩:=ok1.slot hk;refine⟨v1,q1,?_⟩;have ev:zb i τ=.ok d1:=by unfold zb;rw[q2]
  rw[ev,jYa]at h;obtain⟨O,eo,_⟩:=ok1.eok;refine q' O σ H1 τ _ eo ?_;cases hk':ti τ with
  | ok dk =>
   rw[hk',jYa]at h;refine fun kv H2 Lk s2 rk _=>?_;have ok2:=ok1.same s2;obtain⟨v2,d2,L2,q3,q4,r2,m1,m2,fin⟩:=ok2.slot hk;rw[q1]at q3;cases q3;rw[q2]at q4;cases q4;cases d1 with
   | lst ds =>
    cases dk with
    | int k =>
     obtain⟨a,vs,L',rfl,ha2,z2,rs⟩:=r2;subst z2;dsimp only at h;unfold z0h at h;cases hj:ixN ds.length k with
     | none=>rw[hj]at h;exact h.elim
     | some j =>
      rw[hj]at h;have hjl:j<ds.length:=(kZ hj).2.1;have mu:(∃vs,H2 a=some (.lst vs))\/∃kvs,H2 a=some (.dK kvs):=.inl ⟨_,ha2⟩;have na:a∉Le:=fun m=>(m2 a tF).2 (tX _ m);obtain⟨w1,w2⟩:=sI.mp m1;have nLe:Le.Nodup:=by
       obtain⟨_,_,_,_,w4,_⟩:=ok1.ex;rw[tQ]at w4;exact w4
      have r3:=(ry.same s2).upd (o:=.lst (vs.set j y)) mu na;obtain⟨L3,a1,a2,a3⟩:=Reps.set j (rs.upd (o:=.lst (vs.set j y)) mu w1) r3 hjl;refine⟨a,vs,k,j,rfl,rk.1,ha2,by rw[rs.length];exact hj,h _ _ (fin _ _ (a::L3) Le [] rfl (TF.upd mu) (fun b hb _=>zK fun z=>hb (z▸tF)) ⟨a,_,L3,rfl,zE,rfl,a1⟩ (fun b hb=>?_) ?_)⟩
      ·rcases tV.mp hb with z|z
       ·exact .inl (z▸tF)
       ·rcases a2 b z with z|z
        ·exact .inl (tG _ z)
        ·exact .inr z
      ·refine sI.mpr ⟨fun z=>?_,a3 (sF.mpr ⟨w2,nLe,fun b hb b' hb' z=>?_⟩)⟩
       ·rcases a2 a z with z|z
        ·exact w1 z
        ·exact na z
       ·subst z;exact (m2 b (tG _ hb)).2 (tX _ hb')
    | _=>exact h.elim
   | _=>exact h.elim
  | err n=>rw[hk']at h;exact fun C H' e s=>h C H' e (ok1.ext.trans s)
  | bad=>rw[hk']at h;exact h
 | err n=>rw[ht]at h;exact h
 | bad=>rw[ht]at h;exact h
end
section
variable {K:jJa}{Γ Γ':List Cl}{B B' H H1:Hp}{σ:St}{τ:Tn}{T:List Addr}
def SOk.rebase (h:SOk K Γ B' H σ τ T)(s:Same B B'):SOk K Γ B H σ τ T:=by
 obtain⟨Ls,h1,h2,h3,h4,h5,h6⟩:=h.ex;exact⟨s.trans h.ext,h.lσ,h.lτ,Ls,h1,fun i e=>⟨(h2 i e).1,fun a ha=>s.non ((h2 i e).2 a ha)⟩,h3,h4,fun a ha=>⟨s.non (h5 a ha).1,(h5 a ha).2⟩,h6⟩
open Classical in
theorem SOk.base (h:SOk K Γ B H σ τ []):∃O:Addr->Prop,EOk K Γ O H σ τ/\(∀a,O a->(∃vs,H a=some (.lst vs))\/∃kvs,H a=some (.dK kvs)) /\
  ∀H1,Same H H1->∃B1,Same B B1/\SOk K Γ B1 H1 σ τ []/\∀a,¬O a->B1 a=H1 a:=by
 obtain⟨Ls,h1,h2,h3,h4,h5,h6⟩:=h.ex;refine⟨fun a=>∃i,Γ[i]?=some .own/\a∈Ls i,⟨fun a ⟨i,e,ha⟩=>?_,fun i c e hc=>?_⟩,fun a ⟨i,e,ha⟩=>?_,fun H1 s1=>⟨fun a=>if (∃i,Γ[i]?=some .own/\a∈Ls i) then none else H1 a,fun b o q=>?_,⟨fun b o q=>?_,h.lσ,h.lτ,Ls,fun i c e hc=>?_,fun i e=>⟨(h2 i e).1,fun a ha=>if_pos ⟨i,e,ha⟩⟩,h3,h4,fun a ha=>(nomatch ha),h6⟩,fun a n=>if_neg n⟩⟩
 ·obtain⟨v,d,_,_,r⟩:=h1 i _ e (by simp);exact r.there ha
 ·obtain⟨v,d,e1,e2,r⟩:=h1 i c e hc;refine⟨v,d,Ls i,e1,e2,r,fun z a ha ⟨j,ej,hj⟩=>?_⟩;subst z;have hij:j≠i:=fun z=>by subst z;rw[e]at ej;cases ej
  exact h3 j i _ hij ej e (by simp) a hj ha
 ·obtain⟨v,d,_,_,r⟩:=h1 i _ e (by simp);exact Rep.dom d v _ r a ha
 ·show (if (∃i,Γ[i]?=some .own/\b∈Ls i) then none else H1 b)=some o;rw[if_neg]
  ·exact s1 b o (h.ext b o q)
  ·rintro⟨i,e,hb⟩;rw[(h2 i e).2 b hb]at q;cases q
 ·have q:(if (∃i,Γ[i]?=some .own/\b∈Ls i) then none else H1 b)=some o:=q
  by_cases z:∃i,Γ[i]?=some .own/\b∈Ls i
  ·rw[if_pos z]at q;cases q
  ·rw[if_neg z]at q;exact q
 ·obtain⟨v,d,e1,e2,r⟩:=h1 i c e hc;exact⟨v,d,e1,e2,r.same s1⟩
def SOk.shrIn {i:Nat}{d:D}{v:V}{L:List Addr}(h:SOk K Γ B H σ τ [])(r:Rep K H d v L)(hL:∀a∈L,B a≠none)(hi:i<Γ.length):SOk K (Γ.set i .shr) B H (σ.set i (some v)) (τ.set i (some d)) []:=by
 obtain⟨Ls,h1,h2,h3,h4,h5,h6⟩:=h.ex;exact SOk.intoS h.ext h.lσ h.lτ h1 h2 h3 (fun j e a ha hm=>hL a hm ((h2 j e).2 a ha)) r hi
end
def yC {α:Type}:List (Option α)->List Nat->List α->List (Option α)
 | σ,i::is,v::vs=>yC (σ.set i (some v)) is vs
 | σ,_,_=>σ
def shrAll:List Cl->List Nat->List Cl
 | Γ,[]=>Γ
 | Γ,i::is=>shrAll (Γ.set i .shr) is
theorem SOk.shrAll {K:jJa}{B H:Hp}{Γ:List Cl}{σ:St}{τ:Tn}{is:List Nat}{ds:List D}{vs:List V}{L:List Addr}(h:SOk K Γ B H σ τ [])(r:Reps K H ds vs L)(hL:∀a∈L,B a≠none)(hl:ds.length=is.length)(hi:∀i∈is,i<Γ.length):
  SOk K (L2.shrAll Γ is) B H (yC σ is vs) (yC τ is ds) []:=by
 induction is generalizing Γ σ τ ds vs L with
 | nil =>
  cases ds with
  | nil=>cases r.1;exact h
  | cons=>cases hl
 | cons i is ih =>
  cases ds with
  | nil=>cases hl
  | cons d ds =>
   obtain⟨v,vs',La,Lb,e1,e2,r1,r2⟩:=r;subst e1 e2;exact ih (h.shrIn r1 (fun a ha=>hL a (tX _ ha)) (hi i tF)) r2 (fun a ha=>hL a (tN _ ha)) (Nat.succ.inj hl) (fun j hj=>by rw[sO];exact hi j (tG _ hj))
def ItOk (K:jJa)(J:It)(ds:List D)(L:List Addr)(H:Hp):Prop:=(∀a∈L,H a≠none)/\∀H',TF H H'->(∀a∈L,H' a=H a)->∀i,
 (∀d,ds[i]?=some d->J.go i H'/\∀x H'',J.yld i H' x H''->Same H' H''/\∃L',Rep K H'' d x L'/\∀a∈L',a∈L)/\(ds.length<=i->J.stop i H')
def Jp (K:jJa)(E:XK)(O:Addr->Prop)(c:Rc)(H:Hp)(Rr:It->Hp->Prop):R (List D)->Prop
 | .ok ds=>∀J H' L,Same H H'->ItOk K J ds L H'->(c≠.bor->∀a∈L,¬O a)->Rr J H'
 | .err n=>∀C H',ErrC K n C->Same H H'->E (.ref C) none H'
 | .bad=>False
def MI (X:Cx)(E:XK)(Γ:List Cl)(tg iter:Expr)(t:Tn->R (List D))(c:Rc):Prop:=
 ∃wi,PI X tg iter wi/\∀O σ H τ Rr,EOk X.K Γ O H σ τ->Jp X.K E O c H Rr (t τ)->wi σ H Rr
inductive Tgt where
 | one (i:Nat) | many (is:List Nat)
def Tgt.slots:Tgt->List Nat
 | .one i=>[i]
 | .many is=>is
def Tgt.asg:Tgt->D->Tn->R Tn
 | .one i,d,τ=>.ok (τ.set i (some d))
 | .many is,.tup ds,τ=>if ds.length=is.length then .ok (yC τ is ds) else .bad
 | .many _,_,_=>.bad
def MG (X:Cx)(tg:Expr):Tgt->Prop
 | .one i=>PG X tg (jr i)
 | .many is=>∃g,PG X tg (z19 X.K is.length g)/\∀(vs:List V) (σ:St) (H:Hp) (Q:St->Hp->Prop),vs.length=is.length->Q (yC σ is vs) H->g vs σ H Q
def yl (asg:D->Tn->R Tn)(body:Tn->R Fl):List D->Tn->R Fl
 | [],τ=>.ok (.nx τ)
 | d::ds,τ=>(asg d τ).bind fun τ1=>(body τ1).bind fun f=>match f with
  | .nx τ2=>yl asg body ds τ2
  | .ct τ2=>yl asg body ds τ2
  | .bk τ2=>.ok (.nx τ2)
  | .rt r=>.ok (.rt r)
def yn (it:Tn->R (List D))(tg:Tgt)(body:Tn->R Fl):Tn->R Fl:=fun τ=>(it τ).bind fun ds=>yl tg.asg body ds τ
section
variable {X:Cx}{E:XK}{Γ Γ1 Γ2 Γ' Γl:List Cl}{pos:Pos}
def tgG (K:jJa)(g:Tgt):TG:=fun v σ H Q=>match g with
 | .one i=>Q (σ.set i (some v)) H
 | .many is=>∃a vs,v=.ref a/\SqT K H a vs/\vs.length=is.length/\Q (yC σ is vs) H
theorem MG.pg {tg:Expr}{g:Tgt}(h:MG X tg g):PG X tg (tgG X.K g):=by
 cases g with
 | one i=>exact h
 | many is =>
  obtain⟨G,p,q⟩:=h;rintro pins s σ H v u Q I r ⟨a,vs,e,hs,hl,z⟩;exact p pins s σ H v u Q I r ⟨a,vs,e,hs,hl,q vs σ H Q hl z⟩
def V7 {K:jJa}{B H:Hp}{σ:St}{τ τ1:Tn}{d:D}{v:V}{L:List Addr}{g:Tgt}(h:SOk K Γ B H σ τ [])(r:Rep K H d v L)(hL:∀a∈L,B a≠none)(hi:∀i∈g.slots,i<Γ.length)(ha:g.asg d τ=.ok τ1)
  {Q:St->Hp->Prop} (k:∀σ1,SOk K (L2.shrAll Γ g.slots) B H σ1 τ1 []->Q σ1 H):tgG K g v σ H Q:=by
 cases g with
 | one i=>cases ha;exact k _ (h.shrIn r hL (hi i (by simp[Tgt.slots])))
 | many is =>
  cases d with
  | tup ds =>
   unfold Tgt.asg at ha;dsimp only at ha
   by_cases hl:ds.length=is.length
   ·rw[if_pos hl]at ha;cases ha;obtain⟨a,vs,rfl,hs,rs⟩:=r;have hv:vs.length=is.length:=rs.length.trans hl;exact⟨a,vs,rfl,hs,hv,k _ (h.shrAll rs hL hl hi)⟩
   ·rw[if_neg hl]at ha;cases ha
  | _=>cases ha
def z18 {it:Tn->R (List D)}{g:Tgt}{tb:Tn->R Fl}{c:Rc}{wi:TI}{ts:TS}(hcl:c≠.bor)(hn:∀i∈g.slots,i<Γ.length)(hw:wk Γ2 Γ=true)(q:∀O σ H τ Rr,EOk X.K Γ O H σ τ->Jp X.K E O c H Rr (it τ)->wi σ H Rr)(q':∀B σ H τ Z,SOk X.K (shrAll Γ g.slots) B H σ τ []->vj X.K E B Γ Γ2 Z (tb τ)->ts Z σ H)
  (B:Hp) (σ:St) (H:Hp) (τ:Tn) (Z:Ends) (ok:SOk X.K Γ B H σ τ []) (h:vj X.K E B Γl Γ Z (yn it g tb τ)):z0J wi (tgG X.K g) ts Z σ H:=by
 obtain⟨O,eo,Od,hB⟩:=ok.base;refine q O σ H τ _ eo ?_;unfold yn at h;cases ht:it τ with
 | ok ds =>
  rw[ht,jYa]at h;refine fun J H1 L s1 hit hO=>?_;have hO:=hO hcl;obtain⟨hLd,hit⟩:=hit;obtain⟨B1,sB,ok1,hB1⟩:=hB H1 s1;have inL:∀a∈L,B1 a=H1 a:=fun a ha=>hB1 a (hO a ha);have Od1:∀a,O a->(∃vs,H1 a=some (.lst vs))\/∃kvs,H1 a=some (.dK kvs):=fun a o=>by
   rcases Od a o with⟨vs,e⟩|⟨kvs,e⟩
   ·exact .inl ⟨vs,s1 _ _ e⟩
   ·exact .inr ⟨kvs,s1 _ _ e⟩
  have stay:∀H2,Same B1 H2->TF H1 H2/\∀a∈L,H2 a=H1 a:=fun H2 s2=>by
   refine⟨⟨fun a xs e=>?_,fun a o u e=>?_,fun a C dx fs e=>?_⟩,fun a ha=>?_⟩
   ·refine s2 a _ ((hB1 a fun z=>?_).trans e);rcases Od1 a z with⟨_,w⟩|⟨_,w⟩<;>rw[e]at w<;>cases w
   ·refine s2 a _ ((hB1 a fun z=>?_).trans e);rcases Od1 a z with⟨_,w⟩|⟨_,w⟩<;>rw[e]at w<;>cases w
   ·refine s2 a _ ((hB1 a fun z=>?_).trans e);rcases Od1 a z with⟨_,w⟩|⟨_,w⟩<;>rw[e]at w<;>cases w
   ·rw[s2.at (by rw[inL a ha];exact hLd a ha),inL a ha]
  refine⟨fun i m σ2 H2=>m=ds.length-i/\i<=ds.length/\∃τ2,SOk X.K Γ B1 H2 σ2 τ2 []/\vj X.K E B Γl Γ Z (yl g.asg tb (ds.drop i) τ2),⟨ds.length,by simp,sZ _,τ,ok1,h⟩,?_⟩;rintro i m σ2 H2 ⟨rfl,hile,τ2,ok2,h2⟩;obtain⟨tf,kp⟩:=stay H2 ok2.ext;obtain⟨go,stop⟩:=hit H2 tf kp i
  by_cases hlt:i<ds.length
  ·obtain⟨hgo,hy⟩:=go ds[i] (by simp[hlt]);rw[rG hlt]at h2;refine .inr ⟨hgo,fun σ' H'=>i+1<=ds.length/\∃τ',SOk X.K Γ B1 H' σ' τ' []/\vj X.K E B Γl Γ Z (yl g.asg tb (ds.drop (i+1)) τ'),fun σ' H' ⟨z,w⟩=>⟨ds.length-(i+1),by omega,rfl,z,w⟩,fun x H3 y=>?_⟩;obtain⟨s3,L',r',sub⟩:=hy x H3 y;unfold yl at h2;cases ha:g.asg ds[i] τ2 with
   | ok τ3 =>
    rw[ha,jYa]at h2;refine V7 (ok2.same s3) r' (fun a ha=>by rw[inL a (sub a ha)];exact hLd a (sub a ha)) hn ha fun σ3 ok3=>?_;refine q' B1 σ3 H3 τ3 _ ok3 ?_;cases hb:tb τ3 with
    | ok f =>
     rw[hb,jYa]at h2;cases f with
     | nx τ4=>exact fun σ' H' ok4=>⟨hlt,τ4,ok4.weak hw,h2⟩
     | ct τ4=>exact fun σ' H' ok4=>⟨hlt,τ4,ok4,h2⟩
     | bk τ4=>exact fun σ' H' ok4=>h2 σ' H' (ok4.rebase sB)
     | rt d=>exact fun v H' L s r n1 n2=>h2 v H' L (sB.trans s) r n1 fun a ha=>sB.non (n2 a ha)
    | err n=>rw[hb]at h2;exact fun C H' e s=>h2 C H' e (sB.trans s)
    | bad=>rw[hb]at h2;exact h2
   | err n =>
    cases g with
    | one i=>cases ha
    | many is =>
     unfold Tgt.asg at ha;split at ha
     ·cases ha
     ·split at ha<;>cases ha
     ·cases ha
   | bad=>rw[ha]at h2;exact h2.elim
  ·have e:i=ds.length:=by omega
   subst e;rw[rY]at h2;exact .inl ⟨stop (tM _),h2 σ2 H2 (ok2.rebase sB)⟩
 | err n=>rw[ht]at h;exact fun C H' e s=>h C H' e (ok.ext.trans s)
 | bad=>rw[ht]at h;exact h
def yN {tg iter:Expr}{body:List Stmt}{it:Tn->R (List D)}{g:Tgt}{tb:Tn->R Fl}{c:Rc}(hp:PassesOwn (model X.prog X.w) X.A X.env X.xe)(hc:X.calm=true)(hi:MI X E Γ tg iter it c)(hcl:c≠.bor)(hg:MG X tg g)
  (hn:∀i∈g.slots,i<Γ.length) (hb:MSs X E Γ (shrAll Γ g.slots) body tb Γ2) (hw:wk Γ2 Γ=true) (hs:autoParam (∀x,foldedSetIterable iter X.env x=pure x) au2._auto_1):MS X E Γl Γ (.For tg iter body [] pos) (yn it g tb) Γ:=by
 obtain⟨wi,p,q⟩:=hi;obtain⟨ts,p',q'⟩:=hb;exact⟨_,Vj hp hc p hg.pg p' hs,z18 hcl hn hw q q'⟩
def we (k:Tn->R Bool)(body:Tn->R Fl):Nat->Tn->R Fl
 | 0,_=>.bad
 | n+1,τ=>(k τ).bind fun x=>if x=true then (body τ).bind fun f=>match f with
  | .nx τ2=>we k body n τ2
  | .ct τ2=>we k body n τ2
  | .bk τ2=>.ok (.nx τ2)
  | .rt r=>.ok (.rt r)
  else .ok (.nx τ)
open Classical in
def xw (k:Tn->R Bool)(body:Tn->R Fl):Tn->R Fl:=fun τ=>if h:∃n,we k body n τ≠.bad then we k body (Classical.choose h) τ else .bad
theorem ux {k:Tn->R Bool}{body:Tn->R Fl}:∀(n:Nat) (τ:Tn),we k body n τ≠.bad->we k body (n+1) τ=we k body n τ
 | 0,τ,h=>absurd rfl h
 | n+1,τ,h=>by
  unfold we at h;rw[we,we];cases hk:k τ with
  | ok x =>
   rw[hk,jYa]at h;rw[jYa,jYa];cases x with
   | true =>
    rw[if_pos rfl]at h;rw[if_pos rfl,if_pos rfl];cases hb:body τ with
    | ok f =>
     rw[hb,jYa]at h;rw[jYa,jYa];cases f with
     | nx τ2=>exact ux n τ2 h
     | ct τ2=>exact ux n τ2 h
     | bk τ2=>rfl
     | rt d=>rfl
    | err n=>rfl
    | bad=>rfl
   | false=>rfl
  | err n=>rfl
  | bad=>rfl
def Xn {k:Tn->R Bool}{body:Tn->R Fl}{n m:Nat}{τ:Tn}(h:we k body n τ≠.bad)(hm:n<=m):we k body m τ=we k body n τ:=by
 obtain⟨j,rfl⟩:=Nat.le.dest hm
 induction j with
 | zero=>rfl
 | succ j ih =>
  have:=ih (Nat.le_add_right _ _);rw[<-Nat.add_assoc,ux (n+j) τ (by rw[this];exact h),this]
def jF {k:Tn->R Bool}{body:Tn->R Fl}{n:Nat}{τ:Tn}{r:R Fl}(h:we k body n τ=r)(hr:r≠.bad):xw k body τ=r:=by
 have hx:∃n,we k body n τ≠.bad:=⟨n,by rw[h];exact hr⟩
 unfold xw;rw[dif_pos hx];have h2:=Classical.choose_spec hx;rcases Nat.le_total n (Classical.choose hx)with z|z
 ·rw[Xn (by rw[h];exact hr) z,h]
 ·rw[<-Xn h2 z,h]
def qJ {k:Tn->R Bool}{body:Tn->R Fl}{τ:Tn}:xw k body τ=.bad\/∃n,we k body n τ=xw k body τ/\xw k body τ≠.bad:=by
 by_cases hx:∃n,we k body n τ≠.bad
 ·refine .inr ⟨Classical.choose hx,?_,?_⟩<;>unfold xw<;>rw[dif_pos hx];exact Classical.choose_spec hx
 ·refine .inl ?_;unfold xw;rw[dif_neg hx]
def WU {k:Expr}{body:List Stmt}{u:Tn->R Bool}{tb:Tn->R Fl}(hp:PassesOwn (model X.prog X.w) X.A X.env X.xe)(hk:MT X E Γ k u)(hb:MSs X E Γ Γ body tb Γ2)(hw:wk Γ2 Γ=true):MS X E Γl Γ (.While k body [] pos) (xw u tb) Γ:=by
 obtain⟨te,p,q⟩:=hk;obtain⟨ts,p',q'⟩:=hb;refine⟨_,U2 hp p p',fun B σ H τ Z ok h=>?_⟩;rcases qJ (k:=u) (body:=tb) (τ:=τ)with z|⟨n,hn,_⟩
 ·rw[z]at h;exact h.elim
 rw[<-hn]at h;refine⟨fun m σ2 H2=>∃τ2,SOk X.K Γ B H2 σ2 τ2 []/\vj X.K E B Γl Γ Z (we u tb m τ2),⟨n,τ,ok,h⟩,?_⟩;rintro m σ2 H2 ⟨τ2,ok2,h2⟩;cases m with
 | zero=>exact h2.elim
 | succ m =>
  obtain⟨O,eo,_⟩:=ok2.eok;refine q O σ2 H2 τ2 _ eo ?_;unfold we at h2;cases ht:u τ2 with
  | ok x =>
   rw[ht,jYa]at h2;refine fun H3 s3=>?_;cases x with
   | true =>
    rw[if_pos rfl]at h2 ⊢;refine⟨fun σ' H'=>∃τ',SOk X.K Γ B H' σ' τ' []/\vj X.K E B Γl Γ Z (we u tb m τ'),fun σ' H' w=>⟨m,Nat.lt_succ_self _,w⟩,q' B σ2 H3 τ2 _ (ok2.same s3) ?_⟩;cases hb:tb τ2 with
    | ok f =>
     rw[hb,jYa]at h2;cases f with
     | nx τ4=>exact fun σ' H' ok4=>⟨τ4,ok4.weak hw,h2⟩
     | ct τ4=>exact fun σ' H' ok4=>⟨τ4,ok4,h2⟩
     | bk τ4=>exact fun σ' H' ok4=>h2 σ' H' ok4
     | rt d=>exact h2
    | err n=>rw[hb]at h2;exact h2
    | bad=>rw[hb]at h2;exact h2
   | false=>rw[if_neg tH]at h2 ⊢;exact h2 σ2 H3 (ok2.same s3)
  | err n=>rw[ht]at h2;exact fun C H' e s=>h2 C H' e (ok2.ext.trans s)
  | bad=>rw[ht]at h2;exact h2
end
def Zj (x:Str):List D:=x.cps.toList.map fun c=>.str ⟨#[c]⟩
def WT:D->R (List D)
 | .lst ds=>.ok ds
 | .tup ds=>.ok ds
 | .str x=>.ok (Zj x)
 | _=>.bad
def yf (t:Tn->R D):Tn->R (List D):=fun τ=>(t τ).bind WT
def rng (lo:Int)(n:Nat):List D:=(List.range n).map fun (i:Nat)=>.int (lo+i)
def xU:List D->R (List D)
 | [.int j]=>if -(2 ^ 62)<=j/\j<2 ^ 62 then .ok (rng 0 j.toNat) else .bad
 | _=>.bad
def jn:List D->R (List D)
 | [.int i,.int j]=>if -(2 ^ 62)<=i/\i<2 ^ 62/\-(2 ^ 62)<=j/\j<2 ^ 62 then .ok (rng i (j-i).toNat) else .bad
 | _=>.bad
def iL (g:List D->R (List D))(u:Tn->R (List D)):Tn->R (List D):=fun τ=>(u τ).bind g
section
variable {X:Cx}{E:XK}{Γ:List Cl}{tg e:Expr}{t:Tn->R D}{u:Tn->R (List D)}{c:Rc}{p pos:Pos}
theorem ItOk.list {K:jJa}{H:Hp}{a:Addr}{vs:List V}{ds:List D}{L L':List Addr}(ha:H a=some (.lst vs))(e:L=a::L')(r:Reps K H ds vs L'):ItOk K (Itl K a) ds L H:=by
 subst e;refine⟨fun b hb=>?_,fun H' tf kp i=>⟨fun d hd=>?_,fun hl=>?_⟩⟩
 ·rcases tV.mp hb with z|z
  ·rw[z,ha];simp
  ·exact r.there z
 ·have ha':H' a=some (.lst vs):=(kp a tF).trans ha;obtain⟨v,L1,e1,r1,sub⟩:=r.get hd;refine⟨⟨vs,v,SqL.of ha',e1⟩,fun x H'' ⟨e2,hy⟩=>?_⟩;subst e2;have:=hy vs (SqL.of ha');rw[e1]at this;cases this;exact⟨Same.refl _,L1,Rep.keep tf d _ L1 r1 fun b hb=>kp b (tG _ (sub.subset hb)),fun b hb=>tG _ (sub.subset hb)⟩
 ·have ha':H' a=some (.lst vs):=(kp a tF).trans ha;exact⟨vs,SqL.of ha',by rw[r.length];exact hl⟩
theorem ItOk.tup {K:jJa}{H:Hp}{a:Addr}{vs:List V}{ds:List D}{L:List Addr}(ha:SqT K H a vs)(r:Reps K H ds vs L):ItOk K (Itt K a) ds L H:=by
 refine⟨fun b hb=>r.there hb,fun H' tf kp i=>⟨fun d hd=>?_,fun hl=>?_⟩⟩
 ·have ha':=ha.tf tf;obtain⟨v,L1,e1,r1,sub⟩:=r.get hd;refine⟨⟨vs,v,ha',e1⟩,fun x H'' ⟨e2,hy⟩=>?_⟩;subst e2;have:=hy vs ha';rw[e1]at this;cases this;exact⟨Same.refl _,L1,Rep.keep tf d _ L1 r1 fun b hb=>kp b (sub.subset hb),fun b hb=>sub.subset hb⟩
 ·exact⟨vs,ha.tf tf,by rw[r.length];exact hl⟩
theorem ItOk.str {K:jJa}{H:Hp}{x:Str}:ItOk K (Its x) (Zj x) [] H:=by
 refine⟨fun b hb=>(nomatch hb),fun H' tf kp i=>⟨fun d hd=>?_,fun hl=>?_⟩⟩
 ·unfold Zj at hd;rw[sJ]at hd;cases hq:x.cps.toList[i]? with
  | none=>rw[hq]at hd;cases hd
  | some k =>
   rw[hq]at hd;have hd:D.str ⟨#[k]⟩=d:=jYe hd;subst hd;have hi:i<x.cps.size:=by
    have:=(tT.mp hq).1
    simpa using this
   refine⟨hi,fun y H'' ⟨e2,c',e3,e4⟩=>?_⟩;subst e2 e4;rw[<-Array.getElem?_toList,hq]at e3;cases e3;exact⟨Same.refl _,[],⟨rfl,rfl⟩,fun b hb=>(nomatch hb)⟩
 ·have:(Zj x).length=x.cps.size:=by simp[Zj]
  show x.cps.size<=i;lia
theorem ItOk.rng {K:jJa}{H:Hp}{lo:Int}{n:Nat}:ItOk K (Itr lo n) (L2.rng lo n) [] H:=by
 refine⟨fun b hb=>(nomatch hb),fun H' tf kp i=>⟨fun d hd=>?_,fun hl=>?_⟩⟩
 ·unfold L2.rng at hd;rw[sJ]at hd
  by_cases hi:i<n
  ·rw[List.getElem?_range hi]at hd;have hd:D.int (lo+(i:Int))=d:=jYe hd;subst hd;refine⟨hi,fun y H'' ⟨e2,e3⟩=>?_⟩;subst e2 e3;exact⟨Same.refl _,[],⟨rfl,rfl⟩,fun b hb=>(nomatch hb)⟩
  ·rw[List.getElem?_eq_none (by simp;lia)]at hd;cases hd
 ·have:(L2.rng lo n).length=n:=by simp[L2.rng]
  show n<=i;lia
def yA (h:ME X E Γ e t c):MI X E Γ tg e (yf t) c:=by
 obtain⟨te,p,q⟩:=h;refine⟨fun σ H Rr=>U1 X.K te σ H Rr\/z0m X.K te σ H Rr\/z0i te σ H Rr,fun pins s σ H Rr I z=>?_,fun O σ H τ Rr ok h=>?_⟩
 ·rcases z with z|z|z
  ·exact Z4 p pins s σ H Rr I z
  ·exact z00 p pins s σ H Rr I z
  ·exact z04 p pins s σ H Rr I z
 ·unfold yf at h;cases ht:t τ with
  | ok d =>
   rw[ht,jYa]at h;cases d with
   | lst ds =>
    refine .inl (q O σ H τ _ ok ?_);rw[ht];refine fun v H1 L s r k=>?_;obtain⟨a,vs,L',rfl,ha,e,rs⟩:=r;exact⟨a,rfl,⟨vs,SqL.of ha⟩,h _ H1 L s (ItOk.list ha e rs) fun n=>k.shr ok.dom n⟩
   | tup ds =>
    refine .inr (.inl (q O σ H τ _ ok ?_));rw[ht];refine fun v H1 L s r k=>?_;obtain⟨a,vs,rfl,ha,rs⟩:=r;exact⟨a,rfl,⟨vs,ha⟩,h _ H1 L s (ItOk.tup ha rs) fun n=>k.shr ok.dom n⟩
   | str x =>
    refine .inr (.inr (q O σ H τ _ ok ?_));rw[ht];refine fun v H1 L s r k=>?_;exact⟨x,r.1,h _ H1 [] s ItOk.str fun n a ha=>(nomatch ha)⟩
   | _=>exact h.elim
  | err n =>
   rw[ht]at h;refine .inl (q O σ H τ _ ok ?_);rw[ht];exact h
  | bad=>rw[ht]at h;exact h.elim
def wJ {a:Expr}(hg:Gl X "range")(hm:X.mg "range"=none)(ha:MA X E Γ [a] u c)(hs:autoParam (starEach [a] X.env=[(false,eval a X.env)]) au3._auto_1):MI X E Γ tg (.Call (.Name "range" p) [a] [] pos) (iL xU u) .fresh:=by
 obtain⟨_,ta,p',q⟩:=ha;refine⟨_,WC hg hm p' hs,fun O σ H τ Rr ok h=>q O σ H τ _ ok ?_⟩;unfold iL at h;cases ht:u τ with
 | ok ds =>
  rw[ht,jYa]at h;refine fun vs H1 L s r k=>?_;unfold xU at h;split at h
  ·rename_i j;obtain⟨v,vs',L1,L2,e1,_,r1,r2⟩:=r;obtain⟨rfl,_⟩:=r1;obtain⟨rfl,_⟩:=r2
   by_cases hj:-(2 ^ 62)<=j/\j<2 ^ 62
   ·rw[if_pos hj]at h;exact⟨j,e1,hj.1,hj.2,h _ H1 [] s ItOk.rng fun n a ha=>(nomatch ha)⟩
   ·rw[if_neg hj]at h;exact h.elim
  ·exact h.elim
 | err n=>rw[ht]at h;exact h
 | bad=>rw[ht]at h;exact h
def ki {a b:Expr}(hg:Gl X "range")(hm:X.mg "range"=none)(ha:MA X E Γ [a,b] u c)(hs:autoParam (starEach [a,b] X.env=[(false,eval a X.env),(false,eval b X.env)]) au3._auto_1)(hs2:autoParam (starEach [b] X.env=[(false,eval b X.env)]) au3._auto_1):MI X E Γ tg (.Call (.Name "range" p) [a,b] [] pos) (iL jn u) .fresh:=by
 obtain⟨_,ta,p',q⟩:=ha;refine⟨_,XX hg hm p' hs hs2,fun O σ H τ Rr ok h=>q O σ H τ _ ok ?_⟩;unfold iL at h;cases ht:u τ with
 | ok ds =>
  rw[ht,jYa]at h;refine fun vs H1 L s r k=>?_;unfold jn at h;split at h
  ·rename_i i j;obtain⟨v,vs',L1,L2,e1,_,r1,v2,vs2,L3,L4,e2,_,r2,r3⟩:=r;obtain⟨rfl,_⟩:=r1;obtain⟨rfl,_⟩:=r2;obtain⟨rfl,_⟩:=r3;subst e2
   by_cases hj:-(2 ^ 62)<=i/\i<2 ^ 62/\-(2 ^ 62)<=j/\j<2 ^ 62
   ·rw[if_pos hj]at h;exact⟨i,j,e1,hj,h _ H1 [] s ItOk.rng fun n a ha=>(nomatch ha)⟩
   ·rw[if_neg hj]at h;exact h.elim
  ·exact h.elim
 | err n=>rw[ht]at h;exact h
 | bad=>rw[ht]at h;exact h
end
def vo (fr:List (Option Nat))(τ:Tn):Tn:=fr.map fun o=>o.bind fun i=>(τ[i]?).join
def xi (fr:List (Option Nat))(Γ:List Cl):List Cl:=fr.map fun o=>match o with
 | some i=>(match Γ[i]? with
  | some .shr=>.shr
  | some .own=>.brw
  | some .brw=>.brw
  | _=>.dead)
 | none=>.dead
def xB (k:Cl):List Cl->List Nat->List Cl
 | Γ,[]=>Γ
 | Γ,i::is=>xB k (Γ.set i k) is
def Cl.ofIt:Rc->Cl
 | .bor=>.brw
 | _=>.shr
def xZ (f:D->R (Option D)):List D->R (List D)
 | []=>.ok []
 | d::ds=>(f d).bind fun o=>(xZ f ds).bind fun ys=>.ok (o.toList++ys)
def ZA {α:Type}:R α->R α
 | .err _=>.bad
 | r=>r
def Y4 (asg:D->Tn->R Tn)(cnd:Tn->R Bool)(elt:Tn->R D)(τ:Tn)(d:D):R (Option D):=
 ZA ((asg d τ).bind fun τ1=>(cnd τ1).bind fun k=>if k=true then (elt τ1).bind fun y=>.ok (some y) else .ok none)
def yh (fr:List (Option Nat))(it:Tn->R (List D))(g:Tgt)(cnd:Tn->R Bool)(elt:Tn->R D):Tn->R D:=fun τ=>(it τ).bind fun xs=>(xZ (Y4 g.asg cnd elt (vo fr τ)) xs).bind fun ys=>if ys.length<=sizeLine then .ok (.lst ys) else .bad
def MTs (X:Cx)(E:XK)(Γ:List Cl)(ifs:List Expr)(t:Tn->R Bool):Prop:=
 ∃te,PTs X ifs te/\∀O σ H τ Q,EOk X.K Γ O H σ τ->postB X.K E H Q (t τ)->te σ H Q
def yx {X:Cx}{E:XK}{Γ:List Cl}:MTs X E Γ [] (fun _=>.ok true):=⟨z0y,Uk,fun O σ H τ Q ok h=>h H (Same.refl H)⟩
theorem MTs.pts {X:Cx}{E:XK}{Γ:List Cl}{e:List Expr}{t:Tn->R Bool}(h:MTs X E Γ e t):PTs X e (wpT X.K E Γ t):=by
 obtain⟨te,p,q⟩:=h;rintro pins s σ H Q I ⟨O,τ,ok,z⟩;exact p pins s σ H Q I (q O σ H τ Q ok z)
def Same.upd_of {H H1 H2:Hp}{p:Addr}{o:HO}(h:H p=none)(s:Same H H2):Same H (upd H2 p o):=fun b u e=>by
 rw[zK (yr e h)];exact s b u e
section
variable {K:jJa}{Γ:List Cl}{O:Addr->Prop}{H:Hp}{σ:St}{τ:Tn}
theorem EOk.comp {fr:List (Option Nat)}(h:EOk K Γ O H σ τ):EOk K (xi fr Γ) O H (wx fr σ) (vo fr τ):=by
 refine⟨h.dom,fun j c e hc=>?_⟩;unfold xi at e;rw[sJ]at e;cases ho:fr[j]? with
 | none=>rw[ho]at e;cases e
 | some o =>
  rw[ho]at e;cases o with
  | none=>exact absurd (jYe e).symm hc
  | some i =>
   have e:(match Γ[i]? with|some .shr=>Cl.shr|some .own=>.brw|some .brw=>.brw|_=>.dead)=c:=jYe e;have key:∃k,Γ[i]?=some k/\k≠.dead/\(c=.shr->k=.shr):=by
    cases hk:Γ[i]? with
    | none=>rw[hk]at e;exact absurd e.symm hc
    | some k =>
     rw[hk]at e;cases k with
     | own=>subst e;exact⟨_,rfl,by simp,fun z=>by cases z⟩
     | shr=>exact⟨_,rfl,by simp,fun _=>rfl⟩
     | brw=>subst e;exact⟨_,rfl,by simp,fun z=>by cases z⟩
     | dead=>exact absurd e.symm hc
   obtain⟨k,k1,k2,k3⟩:=key;obtain⟨v,d,L,e1,e2,r,hs⟩:=h.slot i k k1 k2;refine⟨v,d,L,?_,?_,r,fun z=>hs (k3 z)⟩
   ·unfold wx;rw[sJ,ho];show some ((σ[i]?).join)=_;rw[e1];rfl
   ·unfold vo;rw[sJ,ho];show some ((τ[i]?).join)=_;rw[e2];rfl
theorem EOk.put {i:Nat}{k:Cl}{d:D}{v:V}{L:List Addr}(h:EOk K Γ O H σ τ)(r:Rep K H d v L)(hk:k=.shr->∀a∈L,¬O a)(h1:σ.length=Γ.length)(h2:τ.length=Γ.length):EOk K (Γ.set i k) O H (σ.set i (some v)) (τ.set i (some d)):=by
 refine⟨h.dom,fun j c e hc=>?_⟩
 by_cases z:i=j
 ·subst z;have hi:i<Γ.length:=by
   have:=(tT.mp e).1
   simpa using this
  rw[sE hi]at e;cases e;exact⟨v,d,L,by rw[sE (by lia)],by rw[sE (by lia)],r,hk⟩
 ·rw[sC z]at e;obtain⟨v',d',L',a1,a2,a3,a4⟩:=h.slot j c e hc;exact⟨v',d',L',by rw[sC z];exact a1,by rw[sC z];exact a2,a3,a4⟩
end
def EOk.putAll {K:jJa}{O:Addr->Prop}{H:Hp}{k:Cl}{Γ:List Cl}{σ:St}{τ:Tn}{is:List Nat}{ds:List D}{vs:List V}{L:List Addr}(h:EOk K Γ O H σ τ)(r:Reps K H ds vs L)(hL:k=.shr->∀a∈L,¬O a)(hl:ds.length=is.length)(h1:σ.length=Γ.length)(h2:τ.length=Γ.length):
  EOk K (xB k Γ is) O H (yC σ is vs) (yC τ is ds):=by
 induction is generalizing Γ σ τ ds vs L with
 | nil =>
  cases ds with
  | nil=>cases r.1;exact h
  | cons=>cases hl
 | cons i is ih =>
  cases ds with
  | nil=>cases hl
  | cons d ds =>
   obtain⟨v,vs',L1,L2,e1,e2,r1,r2⟩:=r;subst e1 e2;exact ih (h.put r1 (fun z a ha=>hL z a (tX _ ha)) h1 h2) r2 (fun z a ha=>hL z a (tN _ ha)) (Nat.succ.inj hl) (by rw[sO,sO];exact h1) (by rw[sO,sO];exact h2)
theorem jg {α:Type}:∀(is:List Nat) (σ:List (Option α)) (vs:List α),(yC σ is vs).length=σ.length
 | [],σ,vs=>by unfold yC;rfl
 | i::is,σ,[]=>by unfold yC;rfl
 | i::is,σ,v::vs=>by unfold yC;rw[jg is,sO]
theorem jL {α:Type}{j:Nat}:∀(is:List Nat) (σ:List (Option α)) (vs:List α),j∉is->(yC σ is vs)[j]?=σ[j]?
 | [],σ,vs,_=>by unfold yC;rfl
 | i::is,σ,[],_=>by unfold yC;rfl
 | i::is,σ,v::vs,h=>by
  unfold yC;rw[jL is _ vs (fun z=>h (tG _ z)),sC (fun (z:i=j)=>h (z▸tF))]
def JJ {K:jJa}{Γ:List Cl}{O:Addr->Prop}{H:Hp}{σ:St}{τ τ1:Tn}{d:D}{v:V}{L:List Addr}{g:Tgt}{k:Cl}(h:EOk K Γ O H σ τ)(r:Rep K H d v L)(hL:k=.shr->∀a∈L,¬O a)(h1:σ.length=Γ.length)(h2:τ.length=Γ.length)(ha:g.asg d τ=.ok τ1)
  {Q:St->Hp->Prop} (kk:∀σ1,EOk K (xB k Γ g.slots) O H σ1 τ1->σ1.length=σ.length->(∀j,j∉g.slots->σ1[j]?=σ[j]?)->Q σ1 H):tgG K g v σ H Q:=by
 cases g with
 | one i =>
  cases ha;exact kk _ (h.put r hL h1 h2) (by simp) fun j hj=>sC fun z=>hj (by simp[Tgt.slots,z])
 | many is =>
  cases d with
  | tup ds =>
   unfold Tgt.asg at ha;dsimp only at ha
   by_cases hl:ds.length=is.length
   ·rw[if_pos hl]at ha;cases ha;obtain⟨a,vs,rfl,hs,rs⟩:=r;have hv:vs.length=is.length:=rs.length.trans hl;exact⟨a,vs,rfl,hs,hv,kk _ (h.putAll rs hL hl h1 h2) (jg _ _ _) fun j hj=>jL is σ vs hj⟩
   ·rw[if_neg hl]at ha;cases ha
  | _=>cases ha
abbrev noX:XK:=fun _ _ _=>False
def Vy {α:Type}{r:R α}{a:α}(h:ZA r=.ok a):r=.ok a:=by
 cases r with
 | ok b=>exact h
 | err n=>cases h
 | bad=>cases h
def Wv {α:Type}{r:R α}{n:Str}(h:ZA r=.err n):False:=by cases r<;>cases h
theorem uS {f:D->R (Option D)}(hf:∀d n,f d≠.err n):∀(ds:List D) (n:Str),xZ f ds≠.err n
 | [],n,h=>by cases h
 | d::ds,n,h=>by
  unfold xZ at h;cases h1:f d with
  | ok o =>
   rw[h1,jYa]at h;cases h2:xZ f ds with
   | ok ys=>rw[h2]at h;cases h
   | err m=>exact uS hf ds m h2
   | bad=>rw[h2]at h;cases h
  | err m=>exact hf d m h1
  | bad=>rw[h1]at h;cases h
def wV {α β:Type}{r:R α}{f:α->R β}{b:β}(h:r.bind f=.ok b):∃a,r=.ok a/\f a=.ok b:=by
 cases r with
 | ok a=>exact⟨a,rfl,h⟩
 | err n=>cases h
 | bad=>cases h
def YN {f:D->R (Option D)}{d:D}{ds ys:List D}(h:xZ f (d::ds)=.ok ys):∃o zs,f d=.ok o/\xZ f ds=.ok zs/\ys=o.toList++zs:=by
 unfold xZ at h;obtain⟨o,h1,h⟩:=wV h;obtain⟨zs,h2,h⟩:=wV h;cases h;exact⟨o,zs,h1,h2,rfl⟩
theorem EOk.live {K:jJa}{Γ:List Cl}{O:Addr->Prop}{H:Hp}{σ σ':St}{τ:Tn}(h:EOk K Γ O H σ τ)(e:∀(j:Nat) (c:Cl),Γ[j]?=some c->c≠Cl.dead->σ'[j]?=σ[j]?):EOk K Γ O H σ' τ:=
 ⟨h.dom,fun i c e1 hc=>by
  obtain⟨v,d,L,a1,a2,a3,a4⟩:=h.slot i c e1 hc;exact⟨v,d,L,by rw[e i c e1 hc];exact a1,a2,a3,a4⟩⟩
section
variable {X:Cx}{E:XK}{Γ:List Cl}{pos:Pos}
def VC {fr:List (Option Nat)}{tg iter:Expr}{it:Tn->R (List D)}{g:Tgt}{cnd:Tn->R Bool}{te:Tn->R D}{ci c:Rc}(hi:MI X E Γ tg iter it ci)(hcl:c≠.bor)(hd:∀j∈g.slots,(xi fr Γ)[j]?=some .dead):
  ∃wi,PI X tg iter wi/\∀O σ H τ Q,EOk X.K Γ O H σ τ->post X.K E O c H Q (yh fr it g cnd te τ)->VG fr wi (tgG X.K g) (wpT X.K noX (xB (Cl.ofIt ci) (xi fr Γ) g.slots) cnd) (wpE X.K noX (xB (Cl.ofIt ci) (xi fr Γ) g.slots) te c) σ H Q:=by
 have hT0:∀σ H Q,(∃O τ,EOk X.K (xB (Cl.ofIt ci) (xi fr Γ) g.slots) O H σ τ/\postB X.K noX H Q (cnd τ))->wpT X.K noX (xB (Cl.ofIt ci) (xi fr Γ) g.slots) cnd σ H Q:=fun _ _ _ h=>h;have hE0:∀σ H Q,(∃O τ,EOk X.K (xB (Cl.ofIt ci) (xi fr Γ) g.slots) O H σ τ/\post X.K noX O c H Q (te τ))->wpE X.K noX (xB (Cl.ofIt ci) (xi fr Γ) g.slots) te c σ H Q:=fun _ _ _ h=>h;generalize wpT X.K noX (xB (Cl.ofIt ci) (xi fr Γ) g.slots) cnd=TC at hT0 ⊢;generalize wpE X.K noX (xB (Cl.ofIt ci) (xi fr Γ) g.slots) te c=TE0 at hE0 ⊢;obtain⟨wi,p,q⟩:=hi;refine⟨wi,p,fun O σ H τ Q ok h=>q O σ H τ _ ok ?_⟩;unfold yh at h;cases hit':it τ with
 | err n=>rw[hit']at h;exact h
 | bad=>rw[hit']at h;exact h
 | ok ds =>
  rw[hit',jYa]at h;refine fun J H1 L s1 hJ hO dd hD=>?_;obtain⟨hLd,hit⟩:=hJ;generalize hF:Y4 g.asg cnd te (vo fr τ)=F at h;cases hcL:xZ F ds with
  | err n=>exact absurd hcL (uS (fun d n z=>by rw[<-hF]at z;exact Wv z) ds n)
  | bad=>rw[hcL]at h;exact h.elim
  | ok ys =>
   rw[hcL,jYa]at h
   by_cases hz:ys.length<=sizeLine
   ·rw[if_pos hz]at h;have hD0:H dd=none:=s1.non hD;have z1p:(wx fr σ).length=(xi fr Γ).length:=by simp[wx,xi]
    have lenT:(vo fr τ).length=(xi fr Γ).length:=by simp[vo,xi]
    obtain⟨W,hW⟩:∃W:Nat->Nat->List V->St->Hp->Prop,∀i m ysv τ' H2,W i m ysv τ' H2↔(m=ds.length-i/\i<=ds.length/\H2 dd=some (.lst ysv)/\(∀b,b≠dd->H1 b≠none->H2 b=H1 b)/\τ'.length=(xi fr Γ).length/\(∀j,j∉g.slots->τ'[j]?=(wx fr σ)[j]?) /\
     ∃dn rs Ly,ys=dn++rs/\xZ F (ds.drop i)=.ok rs/\Reps X.K H2 dn ysv Ly/\dd∉Ly/\RcOk c O H1 Ly):=⟨_,fun _ _ _ _ _=>Iff.rfl⟩
    refine⟨W,⟨ds.length,(hW _ _ _ _ _).mpr ⟨by simp,sZ _,zE,fun b hb _=>zK hb,z1p,fun _ _=>rfl,[],ys,[],rfl,by simpa using hcL,Reps.nil,by simp,RcOk.nil⟩⟩,?_⟩;intro i m ysv τ' H2 hw0;obtain⟨rfl,hile,hDy,kp,hl',hj',dn,rs,Ly,eys,hrs,rdn,nD,kLy⟩:=(hW _ _ _ _ _).mp hw0;refine⟨hDy,?_⟩;have sH:Same H H2:=fun b o e=>by
     have e1:=s1 b o e;have nb:b≠dd:=yr e hD0;rw[kp b nb (by rw[e1];simp)];exact e1
    have s12:∀b o,H1 b=some o->H2 b=some o:=fun b o e=>by
     rw[kp b (yr e hD) (by rw[e];simp)];exact e
    have okO:EOk X.K Γ (fun a=>O a\/a=dd) H2 σ τ:=by
     refine⟨fun a ha=>?_,fun j k e hk=>?_⟩
     ·rcases ha with ha|ha
      ·exact (ok.same sH).dom a ha
      ·rw[ha,hDy];simp
     ·obtain⟨v,d,L0,a1,a2,a3,a4⟩:=ok.slot j k e hk;refine⟨v,d,L0,a1,a2,a3.same sH,fun z a ha hm=>?_⟩;rcases hm with hm|hm
      ·exact a4 z a ha hm
      ·exact a3.there ha (hm▸hD0)
    have okc:EOk X.K (xi fr Γ) (fun a=>O a\/a=dd) H2 τ' (vo fr τ):=(okO.comp (fr:=fr)).live fun j k e hk=>hj' j fun hm=>by
     rw[hd j hm]at e;exact hk (jYe e).symm
    obtain⟨go,stop⟩:=hit H2 ⟨fun a xs e=>s12 a _ e,fun a o u e=>s12 a _ e,fun a C dx fs e=>s12 a _ e⟩ (fun a ha=>kp a (fun z=>hLd a ha (z▸hD)) (hLd a ha)) i
    by_cases hlt:i<ds.length
    ·obtain⟨hgo,hy⟩:=go ds[i] (by simp[hlt]);refine .inr ⟨hgo,fun x H3 y=>?_⟩;obtain⟨s3,L',r',sub⟩:=hy x H3 y;rw[rG hlt]at hrs;obtain⟨o,zs,ho,hzs,ers⟩:=YN hrs;rw[<-hF]at ho;have ho:=Vy ho;obtain⟨τ1,ha,ho⟩:=wV ho;obtain⟨k,hk,ho⟩:=wV ho;refine JJ (k:=Cl.ofIt ci) (okc.same s3) r' (fun z a ha hm=>?_) hl' lenT ha fun σ1 ok1 hl1 hj1=>?_
     ·have hci:ci≠.bor:=fun w=>by subst w;cases z
      rcases hm with hm|hm
      ·exact hO hci a (sub a ha) hm
      ·exact hLd a (sub a ha) (hm▸hD)
     ·refine hT0 _ _ _ ⟨_,τ1,ok1,?_⟩;rw[hk];refine fun H5 s5=>?_;have s25:=s3.trans s5;cases k with
      | true =>
       rw[if_pos rfl]at ho;dsimp only;rw[if_pos rfl];obtain⟨yd,hyd,ho⟩:=wV ho;cases ho;refine hE0 _ _ _ ⟨_,τ1,ok1.same s5,?_⟩;rw[hyd];refine fun yv H6 Lw s6 r6 k6=>?_;have s26:=s25.trans s6;have hD6:H6 dd=some (.lst ysv):=s26 dd _ hDy;have hlen:ysv.length=dn.length:=rdn.length;have nDw:dd∉Lw:=fun hm=>by
        cases c with
        | fresh=>have:=k6.2 dd hm;rw[s25 dd _ hDy]at this;cases this
        | shr=>exact k6 dd hm (.inr rfl)
        | bor=>exact hcl rfl
       have mu:(∃vs,H6 dd=some (.lst vs))\/∃kvs,H6 dd=some (.dK kvs):=.inl ⟨_,hD6⟩;refine⟨hD6,?_,ds.length-(i+1),by lia,(hW _ _ _ _ _).mpr ⟨rfl,hlt,zE,fun b hb hn=>?_,by rw[hl1];exact hl',fun j hj=>(hj1 j hj).trans (hj' j hj),dn++[yd],zs,Ly++Lw,?_,hzs,?_,?_,?_⟩⟩
       ·rw[eys,ers,tK,tK]at hz;simp only[Option.toList,List.length_singleton]at hz;lia
       ·rw[zK hb,<-kp b hb hn];exact s26.at (by rw[kp b hb hn];exact hn)
       ·rw[eys,ers,tO];rfl
       ·have:=Reps.append ((rdn.same s26).upd (o:=.lst (ysv++[yv])) mu nD) (Reps.cons (r6.upd (o:=.lst (ysv++[yv])) mu nDw) Reps.nil);rw[tQ]at this;exact this
       ·intro hm;rcases tW.mp hm with z|z
        ·exact nD z
        ·exact nDw z
       ·cases c with
        | fresh =>
         refine⟨sF.mpr ⟨kLy.1,k6.1,fun a ha b hb z=>?_⟩,fun a ha=>?_⟩
         ·subst z;have h2:=rdn.there ha;have h5:=k6.2 a hb;exact h2 (s25.non h5)
         ·rcases tW.mp ha with z|z
          ·exact kLy.2 a z
          ·have h5:=k6.2 a z;have h2:H2 a=none:=s25.non h5;cases e1:H1 a with
           | none=>rfl
           | some o=>rw[s12 a o e1]at h2;cases h2
        | shr =>
         intro a ha;rcases tW.mp ha with z|z
         ·exact kLy a z
         ·exact fun w=>k6 a z (.inl w)
        | bor=>exact absurd rfl hcl
      | false =>
       rw[if_neg tH]at ho;dsimp only;rw[if_neg tH];cases ho;refine⟨ds.length-(i+1),by lia,(hW _ _ _ _ _).mpr ⟨rfl,hlt,s25 dd _ hDy,fun b hb hn=>?_,by rw[hl1];exact hl',fun j hj=>(hj1 j hj).trans (hj' j hj),dn,zs,Ly,?_,hzs,rdn.same s25,nD,kLy⟩⟩
       ·rw[<-kp b hb hn];exact s25.at (by rw[kp b hb hn];exact hn)
       ·rw[eys,ers];rfl
    ·have e:i=ds.length:=by lia
     subst e;rw[rY]at hrs;cases hrs;rw[tQ]at eys;subst eys;refine .inl ⟨stop (tM _),h (.ref dd) H2 (dd::Ly) sH ⟨dd,ysv,Ly,rfl,hDy,rfl,rdn⟩ ?_⟩;cases c with
     | fresh =>
      refine⟨sI.mpr ⟨nD,kLy.1⟩,fun a ha=>?_⟩;rcases tV.mp ha with z|z
      ·rw[z];exact hD0
      ·exact s1.non (kLy.2 a z)
     | shr =>
      intro a ha;rcases tV.mp ha with z|z
      ·rw[z];exact fun w=>ok.dom dd w hD0
      ·exact kLy a z
     | bor=>exact absurd rfl hcl
   ·rw[if_neg hz]at h;exact h.elim
def yy {N':List Str}{fr:List (Option Nat)}{scope:Scope}{tg iter elt:Expr}{ifs:List Expr}{it:Tn->R (List D)}{g:Tgt}{cnd:Tn->R Bool}{te:Tn->R D}{ci c:Rc}(hc:X.calm=true)(S:CompScope X N' fr scope)(hi:MI X E Γ tg iter it ci)
  (hg:∀s₃ H₃ fp pins,MG (yD X scope N' s₃ H₃ fp pins) tg g) (ht:∀s₃ H₃ fp pins,MTs (yD X scope N' s₃ H₃ fp pins) noX (xB (Cl.ofIt ci) (xi fr Γ) g.slots) ifs cnd)
  (he:∀s₃ H₃ fp pins,ME (yD X scope N' s₃ H₃ fp pins) noX (xB (Cl.ofIt ci) (xi fr Γ) g.slots) elt te c) (hcl:c≠.bor) (hd:∀j∈g.slots,(xi fr Γ)[j]?=some .dead)
  (hs:autoParam (∀x,foldedSetIterable iter X.env x=pure x) au2._auto_1):ME X E Γ (.ListComp elt [⟨tg,iter,ifs,0⟩] scope pos) (yh fr it g cnd te) c:=by
 obtain⟨wi,p,q⟩:=VC (cnd:=cnd) (te:=te) hi hcl hd;exact⟨_,UN hc S p (fun s₃ H₃ fp pins=>(hg s₃ H₃ fp pins).pg) (fun s₃ H₃ fp pins=>(ht s₃ H₃ fp pins).pts) (fun s₃ H₃ fp pins=>(he s₃ H₃ fp pins).pe) hs,q⟩
end
def spM (K:jJa)(F:List D->R D)(n:Nat):Sp:=fun vs H Q E=>vs.length=n/\∃ds L,Reps K H ds vs L/\post K E (fun _=>False) .fresh H Q (F ds)
def zF (n:Nat)(t:Tn->R Fl)(ds:List D):R D:=match t (ds.map some++List.replicate (n-ds.length) none)with
 | .ok (.rt d)=>.ok d
 | .ok (.nx _)=>.ok .non
 | .err c=>.err c
 | _=>.bad
def Z0 (n m:Nat):List Cl:=List.replicate m .shr++List.replicate (n-m) .dead
theorem Reps.slot {K:jJa}{H:Hp}{ds:List D}{vs:List V}{L:List Addr}(r:Reps K H ds vs L):∃Ls:Nat->List Addr,∀(i:Nat) (d:D),ds[i]?=some d->∃v,vs[i]?=some v/\Rep K H d v (Ls i):=by
 have:∀i:Nat,∃L1:List Addr,∀d,ds[i]?=some d->∃v,vs[i]?=some v/\Rep K H d v L1:=fun i=>by
  cases h:ds[i]? with
  | none=>exact⟨[],fun d z=>by cases z⟩
  | some d =>
   obtain⟨v,L1,e1,r1,_⟩:=r.get h;exact⟨L1,fun d' z=>by cases z;exact⟨v,e1,r1⟩⟩
 exact⟨fun i=>Classical.choose (this i),fun i=>Classical.choose_spec (this i)⟩
theorem SOk.start {K:jJa}{H:Hp}{N:List Str}{ds:List D}{vs:List V}{L:List Addr}(r:Reps K H ds vs L)(hn:vs.length<=N.length):SOk K (Z0 N.length vs.length) H H (L2.start N vs) (ds.map some++List.replicate (N.length-ds.length) none) []:=by
 have hl:=r.length;have lp:(Z0 N.length vs.length).length=N.length:=by unfold Z0;rw[tK,rS,rS];lia
 obtain⟨Ls,hL⟩:=r.slot;have cls:∀i c,(Z0 N.length vs.length)[i]?=some c->c≠.dead->i<vs.length/\c=.shr:=fun i c e hc=>by
  unfold Z0 at e
  by_cases hi:i<vs.length
  ·rw[sW (by simpa using hi),pJ,if_pos hi]at e;exact⟨hi,(jYe e).symm⟩
  ·rw[sU (by simp;lia),pJ]at e;split at e
   ·exact absurd (jYe e).symm hc
   ·cases e
 have no:∀i:Nat,(Z0 N.length vs.length)[i]?≠some Cl.own:=fun i e=>by
  have:=(cls i _ e (by simp)).2;cases this
 refine⟨Same.refl H,?_,?_,Ls,fun i c e hc=>?_,fun i e=>absurd e (no i),fun i j c _ e=>absurd e (no i),pA,fun a ha=>(nomatch ha),fun i c e hc a ha hm=>(nomatch hm)⟩
 ·unfold L2.start;rw[lp,tK,tI,rS];lia
 ·rw[lp,tK,tI,rS];lia
 ·obtain⟨hi,_⟩:=cls i c e hc;have hi':i<ds.length:=by lia
  obtain⟨v,e1,r1⟩:=hL i ds[i] (by simp[hi']);refine⟨v,ds[i],?_,?_,r1⟩
  ·unfold L2.start;rw[sW (by simpa using hi),sJ,e1];rfl
  ·rw[sW (by simpa using hi'),sJ];simp[hi']
section
variable {P:Program}{w:World}{K:jJa}{mg:Str->Option Value}{base:Heap}{x:Str}{st:Stmt}{N ps:List Str}{k:Nat}{t:Tn->R Fl}{Γ':List Cl}
theorem DefIn.mir (Df:DefIn K mg x st ps)(S:FnScope N ps (defScope st))(hn:ps.length<=N.length)
  (hbody:∀(f:Addr) (cdv:Value) (A:Around) (outer:List Env) (s:Shared) (H:Hp) (E:XK),Room k (A.deeper (envOfC x (defScope st) s.heap.objs.size f cdv)) ->
   MSs (uW (cxx P w) P w K mg base N x (defScope st) f cdv A outer s H E) E [] (Z0 N.length ps.length) (defBody st) t Γ'):Own P w K mg base x (k+1) ps (spM K (zF N.length t) ps.length):=by
 refine Df.own S (fun vs H Q E h=>h.1) fun f cdv A outer s H vs Q E hr h=>?_;obtain⟨hl,ds,L,r,h⟩:=h;obtain⟨ts,p,q⟩:=hbody f cdv A outer s H E hr;refine⟨ts,p,q H (start N vs) H _ _ (hl▸SOk.start r (by lia)) ?_⟩;unfold zF at h;cases ht:t (ds.map some++List.replicate (N.length-ds.length) none)with
 | ok f =>
  rw[ht]at h;cases f with
  | nx τ'=>exact fun σ' H' ok'=>h .non H' [] ok'.ext ⟨rfl,rfl⟩ RcOk.nil
  | rt d=>exact fun v H' L s r n1 n2=>h v H' L s r ⟨n1,n2⟩
  | bk τ'=>exact h.elim
  | ct τ'=>exact h.elim
 | err n=>rw[ht]at h;exact fun C H' e s=>h C H' e s
 | bad=>rw[ht]at h;exact h.elim
end
section
variable {X:Cx}{E:XK}{Γ Γ' Γl:List Cl}{x:Str}{k:Nat}{ps:List Str}{F:List D->R D}{e:Expr}{es:List Expr}{u:Tn->R (List D)}{c:Rc}{p pos:Pos}{n:Nat}
def zJ (O:Own X.prog X.w X.K X.mg X.base x k ps (spM X.K F n))(hr:Room k X.A)(hg:Gl X x)(hx:uz (cxx X.prog X.w) X E)(ha:MA X E Γ (e::es) u c)(hl:autoParam ((e::es).length=n) au3._auto_1)(hdb:autoParam ((x==("__debug__":Str))=false) au1._auto_1)
  (he:autoParam (starEach (e::es) X.env=(false,eval e X.env)::starEach es X.env) au3._auto_1) (hpl:autoParam ((backTo pos (starEach es X.env)).any (·.1)=false) au3._auto_1):ME X E Γ (.Call (.Name x p) (e::es) [] pos) (eL F u) .fresh:=by
 obtain⟨hlen,ta,pa,q⟩:=ha;refine⟨_,KP O hr hg hx pa hdb he hpl,fun O' σ H τ Q ok h=>q O' σ H τ _ ok ?_⟩;unfold eL at h;cases hu:u τ with
 | ok ds =>
  rw[hu,jYa]at h;refine fun vs H1 L s1 r1 _=>?_;have hv:(vs++[]).length=n:=by rw[tQ,r1.length,hlen τ ds hu];exact hl
  refine⟨hv,ds,L,by rw[tQ];exact r1,?_⟩;have h1:=h.same s1;cases hF:F ds with
  | ok d=>rw[hF]at h1;exact h1
  | err n=>rw[hF]at h1;exact h1
  | bad=>rw[hF]at h1;exact h1
 | err n=>rw[hu]at h;exact h
 | bad=>rw[hu]at h;exact h
end
def D.isS:D->Bool
 | .non=>true
 | .bl _=>true
 | .int _=>true
 | .str _=>true
 | _=>false
def eqS:D->D->Bool
 | .non,.non=>true
 | .bl a,.bl b=>a==b
 | .bl a,.int b=>(if a then 1 else 0)==b
 | .int a,.bl b=>a==(if b then 1 else 0)
 | .int a,.int b=>a==b
 | .str a,.str b=>a==b
 | _,_=>false
def yj (f:D->D->Option Bool):List D->List D->Option Bool
 | x::xs,y::ys=>match f x y,yj f xs ys with
  | some a,some b=>some (a&&b)
  | _,_=>none
 | _,_=>some true
def ve {b:Bool}(h:(none:Option Bool)=some b):False:=by cases h
def eqF:Nat->D->D->Option Bool
 | 0,x,y=>if (x.isS&&y.isS)=true then some (eqS x y) else none
 | n+1,x,y=>match x,y with
  | .lst xs,.lst ys=>if xs.length=ys.length then yj (eqF n) xs ys else some false
  | .tup xs,.tup ys=>(yj (eqF n) xs ys).map fun b=>b&&xs.length==ys.length
  | .frl xs,.lst ys=>if xs.length=ys.length then yj (eqF n) xs ys else some false
  | .frl xs,.frl ys=>if xs.length=ys.length then yj (eqF n) xs ys else some false
  | .lst _,.tup _=>some false
  | .tup _,.lst _=>some false
  | .lst _,y=>if y.isS=true then some false else none
  | .tup _,y=>if y.isS=true then some false else none
  | x,.lst _=>if x.isS=true then some false else none
  | x,.tup _=>if x.isS=true then some false else none
  | x,y=>if (x.isS&&y.isS)=true then some (eqS x y) else none
def Xq {K:jJa}{H:Hp}{d:D}{v:V}{L:List Addr}{u:Value}(h:d.isS=true)(r:Rep K H d v L)(q:RelV v u):
  (d=.non/\u=.none)\/(∃b,d=.bl b/\u=.bool b)\/(∃i t,d=.int i/\u=.int i t)\/∃x t,d=.str x/\u=.str x t:=by
 cases d with
 | non=>obtain⟨rfl,_⟩:=r;exact .inl ⟨rfl,q⟩
 | bl b=>obtain⟨rfl,_⟩:=r;exact .inr (.inl ⟨b,rfl,q⟩)
 | int i=>obtain⟨rfl,_⟩:=r;obtain⟨t,e⟩:=q;exact .inr (.inr (.inl ⟨i,t,rfl,e⟩))
 | str x=>obtain⟨rfl,_⟩:=r;obtain⟨t,e⟩:=q;exact .inr (.inr (.inr ⟨x,t,rfl,e⟩))
 | _=>cases h
open SeqAt in
def Z3 {A:Around}{s:Shared}{K:jJa}{H:Hp}{d1 d2:D}{v1 v2:V}{L1 L2:List Addr}{u1 u2:Value}(h1:d1.isS=true)(h2:d2.isS=true)(r1:Rep K H d1 v1 L1)(r2:Rep K H d2 v2 L2)(q1:RelV v1 u1)(q2:RelV v2 u2):
  RcAt A s u1 u2 (eqS d1 d2)/\EqAt A s u1 u2 (eqS d1 d2)/\RcNeAt A s u1 u2 (!eqS d1 d2):=by
 rcases Xq h1 r1 q1 with⟨rfl,rfl⟩|⟨a,rfl,rfl⟩|⟨a,t,rfl,rfl⟩|⟨a,t,rfl,rfl⟩ <;>
 rcases Xq h2 r2 q2 with⟨rfl,rfl⟩|⟨b,rfl,rfl⟩|⟨b,t',rfl,rfl⟩|⟨b,t',rfl,rfl⟩
 ·exact⟨RcAt.none_none,EqAt.same _,RcNeAt.none_none⟩
 ·exact⟨RcAt.none_bool b,EqAt.none_bool b,RcNeAt.none_bool b⟩
 ·exact⟨RcAt.none_int b _,EqAt.none_int b _,RcNeAt.none_int b _⟩
 ·exact⟨RcAt.none_str b _,EqAt.none_str b _,RcNeAt.none_str b _⟩
 ·exact⟨RcAt.bool_none a,EqAt.bool_none a,RcNeAt.bool_none a⟩
 ·exact⟨RcAt.bool_bool a b,EqAt.bool_bool a b,RcNeAt.bool_bool a b⟩
 ·exact⟨RcAt.bool_int a b _,EqAt.bool_int a b _,RcNeAt.bool_int a b _⟩
 ·exact⟨RcAt.bool_str a b _,EqAt.bool_str a b _,RcNeAt.bool_str a b _⟩
 ·exact⟨RcAt.int_none a _,EqAt.int_none a _,RcNeAt.int_none a _⟩
 ·exact⟨RcAt.int_bool a _ b,EqAt.int_bool a _ b,RcNeAt.int_bool a _ b⟩
 ·exact⟨RcAt.int_int a _ b _,EqAt.int_int a _ b _,RcNeAt.int_int a _ b _⟩
 ·exact⟨RcAt.int_str a _ b _,EqAt.int_str a _ b _,RcNeAt.int_str a _ b _⟩
 ·exact⟨RcAt.str_none a _,EqAt.str_none a _,RcNeAt.str_none a _⟩
 ·exact⟨RcAt.str_bool a _ b,EqAt.str_bool a _ b,RcNeAt.str_bool a _ b⟩
 ·exact⟨RcAt.str_int a _ b _,EqAt.str_int a _ b _,RcNeAt.str_int a _ b _⟩
 ·exact⟨RcAt.str_str a _ b _,EqAt.str_str a _ b _,RcNeAt.str_str a _ b _⟩
open SeqAt in
def Zt {A:Around}{s:Shared}{K:jJa}{H:Hp}{d:D}{v:V}{L:List Addr}{u:Value}{l:Addr}{items:Array Value}(hd:d.isS=true)(r:Rep K H d v L)(q:RelV v u)(hl:s.heap.IsList l items)(hu:A.units<cLine):
  (RcAt A s (.ref l) u false/\EqAt A s (.ref l) u false/\RcNeAt A s (.ref l) u true)/\RcAt A s u (.ref l) false/\EqAt A s u (.ref l) false/\RcNeAt A s u (.ref l) true:=by
 rcases Xq hd r q with⟨rfl,rfl⟩|⟨b,rfl,rfl⟩|⟨b,t',rfl,rfl⟩|⟨b,t',rfl,rfl⟩
 ·exact⟨⟨RcAt.list_none hl hu,EqAt.list_none hl hu,RcNeAt.list_none hl hu⟩,RcAt.none_list hl hu,EqAt.none_list hl hu,RcNeAt.none_list hl hu⟩
 ·exact⟨⟨RcAt.list_bool b hl hu,EqAt.list_bool b hl hu,RcNeAt.list_bool b hl hu⟩,RcAt.bool_list b hl hu,EqAt.bool_list b hl hu,RcNeAt.bool_list b hl hu⟩
 ·exact⟨⟨RcAt.list_int b _ hl hu,EqAt.list_int b _ hl hu,RcNeAt.list_int b _ hl hu⟩,RcAt.int_list b _ hl hu,EqAt.int_list b _ hl hu,RcNeAt.int_list b _ hl hu⟩
 ·exact⟨⟨RcAt.list_str b _ hl hu,EqAt.list_str b _ hl hu,RcNeAt.list_str b _ hl hu⟩,RcAt.str_list b _ hl hu,EqAt.str_list b _ hl hu,RcNeAt.str_list b _ hl hu⟩
open SeqAt in
def ZI {A:Around}{s:Shared}{K:jJa}{H:Hp}{d:D}{v:V}{L:List Addr}{u:Value}{l:Addr}{items:Array Value}(hd:d.isS=true)(r:Rep K H d v L)(q:RelV v u)(hl:s.heap.IsTuple l items)(hu:A.units<cLine):
  (RcAt A s (.ref l) u false/\EqAt A s (.ref l) u false/\RcNeAt A s (.ref l) u true)/\RcAt A s u (.ref l) false/\EqAt A s u (.ref l) false/\RcNeAt A s u (.ref l) true:=by
 rcases Xq hd r q with⟨rfl,rfl⟩|⟨b,rfl,rfl⟩|⟨b,t',rfl,rfl⟩|⟨b,t',rfl,rfl⟩
 ·exact⟨⟨RcAt.tuple_none hl hu,EqAt.tuple_none hl hu,RcNeAt.tuple_none hl hu⟩,RcAt.none_tuple hl hu,EqAt.none_tuple hl hu,RcNeAt.none_tuple hl hu⟩
 ·exact⟨⟨RcAt.tuple_bool b hl hu,EqAt.tuple_bool b hl hu,RcNeAt.tuple_bool b hl hu⟩,RcAt.bool_tuple b hl hu,EqAt.bool_tuple b hl hu,RcNeAt.bool_tuple b hl hu⟩
 ·exact⟨⟨RcAt.tuple_int b _ hl hu,EqAt.tuple_int b _ hl hu,RcNeAt.tuple_int b _ hl hu⟩,RcAt.int_tuple b _ hl hu,EqAt.int_tuple b _ hl hu,RcNeAt.int_tuple b _ hl hu⟩
 ·exact⟨⟨RcAt.tuple_str b _ hl hu,EqAt.tuple_str b _ hl hu,RcNeAt.tuple_str b _ hl hu⟩,RcAt.str_tuple b _ hl hu,EqAt.str_tuple b _ hl hu,RcNeAt.str_tuple b _ hl hu⟩
def wo (f:D->D->Option Bool)(xs ys:List D)(j:Nat):Bool:=match xs[j]?,ys[j]? with
 | some x,some y=>(f x y).getD false
 | _,_=>true
theorem vt {f:D->D->Option Bool}:∀ {xs ys:List D} {b:Bool},yj f xs ys=some b->b=(List.range (min xs.length ys.length)).all (wo f xs ys)/\∀j x y,xs[j]?=some x->ys[j]?=some y->f x y=some (wo f xs ys j)
 | [],ys,b,h=>by
  unfold yj at h;cases h;exact⟨by simp,fun j x y e=>by simp at e⟩
 | x::xs,[],b,h=>by
  unfold yj at h;cases h;exact⟨by simp,fun j x y e e'=>by simp at e'⟩
 | x::xs,y::ys,b,h=>by
  unfold yj at h;cases h1:f x y with
  | none=>rw[h1]at h;cases h
  | some a =>
   cases h2:yj f xs ys with
   | none=>rw[h1,h2]at h;cases h
   | some b' =>
    rw[h1,h2]at h;cases h;obtain⟨e1,e2⟩:=vt h2;have z0:wo f (x::xs) (y::ys) 0=a:=by simp[wo,h1]
    have zs:∀j,wo f (x::xs) (y::ys) (j+1)=wo f xs ys j:=fun j=>by simp[wo]
    refine⟨?_,fun j x' y' ex ey=>?_⟩
    ·have hm:min (x::xs).length (y::ys).length=min xs.length ys.length+1:=by simp[Nat.succ_min_succ]
     rw[hm,List.range_succ_eq_map,List.all_cons,List.all_map,z0,e1];congr 1
    ·cases j with
     | zero=>simp at ex ey;subst ex ey;rw[z0];exact h1
     | succ j=>rw[zs];exact e2 j x' y' (by simpa using ex) (by simpa using ey)
section
variable {X:Cx}{pins:List (Addr×Obj)}{σ:St}{H:Hp}{s:Shared}
def D.ofV:V->D
 | .bl b=>.bl b
 | .int i=>.int i
 | .str x=>.str x
 | _=>.non
theorem Rep.ofV {K:jJa}{H:Hp}{d:D}{v:V}{L:List Addr}(h:∀a,v≠.ref a)(r:Rep K H d v L):d=D.ofV v:=by
 cases d with
 | non=>rw[r.1];rfl
 | bl=>rw[r.1];rfl
 | int=>rw[r.1];rfl
 | str=>rw[r.1];rfl
 | tup=>obtain⟨a,_,e,_⟩:=r;exact absurd e (h a)
 | lst=>obtain⟨a,_,_,e,_⟩:=r;exact absurd e (h a)
 | dic=>obtain⟨a,_,_,e,_⟩:=r;exact absurd e (h a)
 | frl=>obtain⟨a,_,e,_⟩:=r;exact absurd e (h a)
 | obj=>obtain⟨a,_,_,e,_⟩:=r;exact absurd e (h a)
theorem Rep.oneS {K:jJa}{H:Hp}{d d':D}{u v:V}{L L':List Addr}(e:v=u)(hs:∀a,u≠.ref a)(r:Rep K H d v L)(r':Rep K H d' v L'):d=d':=by
 subst e;exact (r.ofV hs).trans (r'.ofV hs).symm
theorem Rep.noS {K:jJa}{H:Hp}{d:D}{a:Addr}{L:List Addr}(r:Rep K H d (.ref a) L)(h:d.isS=true):False:=by
 cases d with
 | non=>cases r.1
 | bl=>cases r.1
 | int=>cases r.1
 | str=>cases r.1
 | _=>cases h
def ke {a:Addr}{vs:List V}{o:HO}(I:Inv X pins σ H s)(h:SqT X.K H a vs)(h':H a=some o)(n1:∀xs,o≠.tup xs)(n2:∀p xs,o≠.frz p (.tup xs)):False:=by
 rcases h with (z|⟨p,z⟩)|⟨o',its,n,hk,hc,_⟩
 ·rw[z]at h';exact n1 _ (jYe h').symm
 ·rw[z]at h';exact n2 _ _ (jYe h').symm
 ·have:=(I.bs a o' (I.mod.kin a o' hk)).2;rw[this]at h';cases h'
def kf {a:Addr}{vs:List V}{o:HO}(I:Inv X pins σ H s)(h:SqF X.K H a vs)(h':H a=some o)(n2:∀p xs,o≠.frz p (.lst xs)):False:=by
 rcases h with⟨p,z⟩|⟨o',its,n,hk,hc,_⟩
 ·rw[z]at h';exact n2 _ _ (jYe h').symm
 ·have:=(I.bs a o' (I.mod.kin a o' hk)).2;rw[this]at h';cases h'
def Jj {a:Addr}{vs ws:List V}(I:Inv X pins σ H s)(h':SqT X.K H a ws)(h:SqF X.K H a vs):False:=by
 obtain⟨its,_,⟨o1,n1,e1,c1,_⟩,_⟩:=I.list h.sq;obtain⟨its2,_,⟨o2,e2,c2,_⟩,_⟩:=I.tuple h';rw[e1]at e2;cases e2;rw[c1]at c2;exact absurd c2 (by simp)
def Jv {a:Addr}{xs:List V}{kvs:List (Key×V)}{H:Hp}(h:H a=some (.lst xs))(h':H a=some (.dK kvs)):False:=by
 rw[h]at h';cases h'
mutual
theorem Rep.one (I:Inv X pins σ H s):∀(d d':D) (v:V) (L L':List Addr),Rep X.K H d v L->Rep X.K H d' v L'->d=d'
 | .non,_,_,_,_,r,r'=>Rep.oneS r.1 (fun _ z=>V.noConfusion z) r r'
 | .bl _,_,_,_,_,r,r'=>Rep.oneS r.1 (fun _ z=>V.noConfusion z) r r'
 | .int _,_,_,_,_,r,r'=>Rep.oneS r.1 (fun _ z=>V.noConfusion z) r r'
 | .str _,_,_,_,_,r,r'=>Rep.oneS r.1 (fun _ z=>V.noConfusion z) r r'
 | .tup ds,d',_,L,L',hq5,r=>by
  obtain⟨a,vs,e,h,rs⟩:=hq5;subst e;cases d' with
  | non=>exact (Rep.noS r rfl).elim
  | bl _=>exact (Rep.noS r rfl).elim
  | int _=>exact (Rep.noS r rfl).elim
  | str _=>exact (Rep.noS r rfl).elim
  | tup ds' =>
   obtain⟨a',vs',e,h',rs'⟩:=r;cases e;cases I.tuple_inj h h';rw[Reps.one I ds ds' vs L L' rs rs']
  | lst _ =>
   obtain⟨_,_,_,e,h',_⟩:=r;cases e;exact (ke I h h' (fun _ z=>HO.noConfusion z) fun _ _ z=>HO.noConfusion z).elim
  | dic _ _ =>
   obtain⟨_,_,_,e,h',_⟩:=r;cases e;exact (ke I h h' (fun _ z=>HO.noConfusion z) fun _ _ z=>HO.noConfusion z).elim
  | frl _ =>
   obtain⟨_,_,e,h',_⟩:=r;cases e;exact (Jj I h h').elim
  | obj _ _ _ =>
   obtain⟨_,_,_,e,h',_⟩:=r;cases e;exact (ke I h h' (fun _ z=>HO.noConfusion z) fun _ _ z=>HO.noConfusion z).elim
 | .lst ds,d',_,L,L',hq5,r=>by
  obtain⟨a,vs,L1,e,h,_,rs⟩:=hq5;subst e;cases d' with
  | non=>exact (Rep.noS r rfl).elim
  | bl _=>exact (Rep.noS r rfl).elim
  | int _=>exact (Rep.noS r rfl).elim
  | str _=>exact (Rep.noS r rfl).elim
  | tup ds' =>
   obtain⟨a',vs',e,h',rs'⟩:=r;cases e;exact (ke I h' h (fun _ z=>HO.noConfusion z) fun _ _ z=>HO.noConfusion z).elim
  | lst ds' =>
   obtain⟨_,_,_,e,h',_,rs'⟩:=r;cases e;rw[h]at h';cases h';rw[Reps.one I ds ds' vs _ _ rs rs']
  | dic _ _ =>
   obtain⟨_,_,_,e,h',_⟩:=r;cases e;exact (Jv h h').elim
  | frl _ =>
   obtain⟨_,_,e,h',_⟩:=r;cases e;exact (kf I h' h fun _ _ z=>HO.noConfusion z).elim
  | obj _ _ _ =>
   obtain⟨_,_,_,e,h',_⟩:=r;cases e;rw[h]at h';cases h'
 | .dic ks ds,d',_,L,L',hq5,r=>by
  obtain⟨a,kvs,L1,e,h,_,hk,_,rs⟩:=hq5;subst e;cases d' with
  | non=>exact (Rep.noS r rfl).elim
  | bl _=>exact (Rep.noS r rfl).elim
  | int _=>exact (Rep.noS r rfl).elim
  | str _=>exact (Rep.noS r rfl).elim
  | tup ds' =>
   obtain⟨a',vs',e,h',rs'⟩:=r;cases e;exact (ke I h' h (fun _ z=>HO.noConfusion z) fun _ _ z=>HO.noConfusion z).elim
  | lst ds' =>
   obtain⟨_,_,_,e,h',_,rs'⟩:=r;cases e;exact (Jv h' h).elim
  | dic ks' ds' =>
   obtain⟨_,_,_,e,h',_,hk',_,rs'⟩:=r;cases e;rw[h]at h';cases h';rw[<-hk,<-hk',Reps.one I ds ds' _ _ _ rs rs']
  | frl _ =>
   obtain⟨_,_,e,h',_⟩:=r;cases e;exact (kf I h' h fun _ _ z=>HO.noConfusion z).elim
  | obj _ _ _ =>
   obtain⟨_,_,_,e,h',_⟩:=r;cases e;rw[h]at h';cases h'
 | .frl ds,d',_,L,L',hq5,r=>by
  obtain⟨a,vs,e,h,_,_,rs⟩:=hq5;subst e;cases d' with
  | non=>exact (Rep.noS r rfl).elim
  | bl _=>exact (Rep.noS r rfl).elim
  | int _=>exact (Rep.noS r rfl).elim
  | str _=>exact (Rep.noS r rfl).elim
  | tup ds' =>
   obtain⟨a',vs',e,h',rs'⟩:=r;cases e;exact (Jj I h' h).elim
  | lst ds' =>
   obtain⟨_,_,_,e,h',_,rs'⟩:=r;cases e;exact (kf I h h' fun _ _ z=>HO.noConfusion z).elim
  | dic ks' ds' =>
   obtain⟨_,_,_,e,h',_,hk',_,rs'⟩:=r;cases e;exact (kf I h h' fun _ _ z=>HO.noConfusion z).elim
  | frl ds' =>
   obtain⟨_,_,e,h',_,_,rs'⟩:=r;cases e;have:=I.list_inj h.sq h'.sq;subst this;rw[Reps.one I ds ds' vs _ _ rs rs']
  | obj _ _ _ =>
   obtain⟨_,_,_,e,h',_⟩:=r;cases e;exact (kf I h h' fun _ _ z=>HO.noConfusion z).elim
 | .obj C ns ds,d',_,L,L',hq5,r=>by
  obtain⟨a,dx,fs,e,h,hk,rs⟩:=hq5;subst e;cases d' with
  | non=>exact (Rep.noS r rfl).elim
  | bl _=>exact (Rep.noS r rfl).elim
  | int _=>exact (Rep.noS r rfl).elim
  | str _=>exact (Rep.noS r rfl).elim
  | tup ds' =>
   obtain⟨a',vs',e,h',rs'⟩:=r;cases e;exact (ke I h' h (fun _ z=>HO.noConfusion z) fun _ _ z=>HO.noConfusion z).elim
  | lst ds' =>
   obtain⟨_,_,_,e,h',_,rs'⟩:=r;cases e;rw[h]at h';cases h'
  | dic ks' ds' =>
   obtain⟨_,_,_,e,h',_,hk',_,rs'⟩:=r;cases e;rw[h]at h';cases h'
  | frl ds' =>
   obtain⟨_,_,e,h',_,_,rs'⟩:=r;cases e;exact (kf I h' h fun _ _ z=>HO.noConfusion z).elim
  | obj C' ns' ds' =>
   obtain⟨_,_,_,e,h',hk',rs'⟩:=r;cases e;rw[h]at h';cases h';rw[<-hk,<-hk',Reps.one I ds ds' _ _ _ rs rs']
theorem Reps.one (I:Inv X pins σ H s):∀(ds ds':List D) (vs:List V) (L L':List Addr),Reps X.K H ds vs L->Reps X.K H ds' vs L'->ds=ds'
 | [],ds',_,_,_,hq5,r=>by
  obtain⟨e,_⟩:=hq5;subst e;cases ds' with
  | nil=>rfl
  | cons _ _=>obtain⟨_,_,_,_,e,_⟩:=r;cases e
 | d::ds,ds',_,_,_,hq5,r=>by
  obtain⟨v,vs',L1,L2,e1,_,h1,h2⟩:=hq5;subst e1;cases ds' with
  | nil=>obtain⟨e,_⟩:=r;cases e
  | cons d' ds' =>
   obtain⟨v',vs2,L3,L4,e,_,r1,r2⟩:=r;cases e;rw[Rep.one I d d' v _ _ h1 r1,Reps.one I ds ds' vs' _ _ h2 r2]
end
end
def ZO:∀(d:D),d.isS=true->eqS d d=true
 | .non,_=>rfl
 | .bl b,_=>beq_self_eq_true b
 | .int b,_=>beq_self_eq_true b
 | .str b,_=>beq_self_eq_true b
 | .tup _,h=>nomatch h
 | .lst _,h=>nomatch h
 | .dic _ _,h=>nomatch h
 | .frl _,h=>nomatch h
 | .obj _ _ _,h=>nomatch h
def VY:∀(n:Nat) (d:D) (b:Bool),eqF n d d=some b->b=true:=by
 intro n
 induction n with
 | zero =>
  intro d b h
  replace h:(if (d.isS&&d.isS)=true then some (eqS d d) else none)=some b:=h
  split at h
  ·rename_i hs;simp only[Bool.and_self]at hs;rw[ZO d hs]at h;exact (jYe h).symm
  ·cases h
 | succ n ih =>
  have zip:∀(xs:List D) (b:Bool),yj (eqF n) xs xs=some b->b=true:=by
   intro xs
   induction xs with
   | nil=>intro b h;unfold yj at h;exact (jYe h).symm
   | cons x xs ihx =>
    intro b h;unfold yj at h;cases h1:eqF n x x with
    | none=>rw[h1]at h;cases h
    | some a =>
     cases h2:yj (eqF n) xs xs with
     | none=>rw[h1,h2]at h;cases h
     | some b' =>
      rw[h1,h2]at h;cases h;rw[ih x a h1,ihx b' h2];rfl
  intro d b h;cases d with
  | lst xs =>
   have h:(if xs.length=xs.length then yj (eqF n) xs xs else some false)=some b:=h;rw[if_pos rfl]at h;exact zip xs b h
  | tup xs =>
   have h:(yj (eqF n) xs xs).map (fun b=>b&&xs.length==xs.length)=some b:=h;cases h1:yj (eqF n) xs xs with
   | none=>rw[h1]at h;cases h
   | some b'=>rw[h1]at h;rw[zip xs b' h1]at h;simp at h;exact h.symm▸rfl
  | non=>have h:some true=some b:=h;exact (jYe h).symm
  | bl x=>have h:some (x==x)=some b:=h;exact (jYe h).symm.trans (beq_self_eq_true x)
  | int x=>have h:some (x==x)=some b:=h;exact (jYe h).symm.trans (beq_self_eq_true x)
  | str x=>have h:some (x==x)=some b:=h;exact (jYe h).symm.trans (beq_self_eq_true x)
  | dic _ _=>cases h
  | obj _ _ _=>cases h
  | frl xs =>
   have h:(if xs.length=xs.length then yj (eqF n) xs xs else some false)=some b:=h;rw[if_pos rfl]at h;exact zip xs b h
open SeqAt in
def jf {A:Around}{s:Shared}{a a':Addr}{b:Bool}(h:RcAt A s (.ref a) (.ref a') b)(hs:a=a'->b=true):EqAt A s (.ref a) (.ref a') b:=by
 by_cases z:a=a'
 ·subst z;rw[hs rfl];exact EqAt.same _
 ·exact EqAt.of_refs z h
open SeqAt in
def ja {X:Cx}{pins:List (Addr×Obj)}{σ:St}{H:Hp}{s:Shared}(I:Inv X pins σ H s){n:Nat}{A:Around}(hu0:A.units<cLine)
  (ih:∀(d1 d2:D) (v1 v2:V) (L1 L2:List Addr) (u1 u2:Value) (b:Bool),eqF n d1 d2=some b->Rep X.K H d1 v1 L1->Rep X.K H d2 v2 L2->RelV v1 u1->RelV v2 u2->EqAt A.in1 s u1 u2 b)
  {a a2:Addr} {vs vs2:List V} {xs ys:List D} {L L2:List Addr} {b:Bool} (ha:SqL X.K H a vs) (rs:Reps X.K H xs vs L) (ha2:SqL X.K H a2 vs2) (rs2:Reps X.K H ys vs2 L2)
  (h:(if xs.length=ys.length then yj (eqF n) xs ys else some false)=some b) (same:a=a2->b=true):RcAt A s (.ref a) (.ref a2) b/\EqAt A s (.ref a) (.ref a2) b/\RcNeAt A s (.ref a) (.ref a2) (!b):=by
 obtain⟨its,rv,pl,_⟩:=I.list ha;obtain⟨its2,rv2,pl2,_⟩:=I.list ha2;have l1:its.length=xs.length:=by rw[<-rv.length,rs.length]
 have l2:its2.length=ys.length:=by rw[<-rv2.length,rs2.length]
 by_cases hl:xs.length=ys.length
 ·rw[if_pos hl]at h;obtain⟨e1,e2⟩:=vt h;have he:∀j (h1:j<its.toArray.size) (h2:j<its2.toArray.size),EqAt A.in1 s its.toArray[j] its2.toArray[j] (wo (eqF n) xs ys j):=fun j h1 h2=>by
   have h1':j<xs.length:=by simpa [l1] using h1
   have h2':j<ys.length:=by simpa [l2] using h2
   obtain⟨w1,L3,g1,g2,_⟩:=rs.get (i:=j) (d:=xs[j]) (by simp[h1']);obtain⟨w2,L4,g3,g4,_⟩:=rs2.get (i:=j) (d:=ys[j]) (by simp[h2']);obtain⟨z1,k1,k2⟩:=rv.get g1;obtain⟨z2,k3,k4⟩:=rv2.get g3;have m1:its.toArray[j]=z1:=by
    have:=(tT.mp k1).2
    simpa using this
   have m2:its2.toArray[j]=z2:=by
    have:=(tT.mp k3).2
    simpa using this
   rw[m1,m2];exact ih _ _ w1 w2 L3 L4 z1 z2 _ (e2 j _ _ (by simp[h1']) (by simp[h2'])) g2 g4 k2 k4
  have hsz:its.toArray.size=its2.toArray.size:=by simp[l1,l2,hl]
  have eb:b=(List.range its.toArray.size).all (wo (eqF n) xs ys):=by
   rw[e1];congr 2;simp[l1,hl]
  have rc:=RcAt.lists pl.isList pl2.isList hsz hu0 he;have rn:=RcNeAt.lists pl.isList pl2.isList hsz hu0 he;rw[<-eb]at rc rn;exact⟨rc,jf rc same,rn⟩
 ·rw[if_neg hl]at h;cases h;have hsz:(its.toArray.size != its2.toArray.size)=true:=by simp[l1,l2,hl]
  have rc:=RcAt.lists_lengths pl.isList pl2.isList hsz hu0;exact⟨rc,jf rc same,RcNeAt.lists_lengths pl.isList pl2.isList hsz hu0⟩
open SeqAt in
def VL {X:Cx}{pins:List (Addr×Obj)}{σ:St}{H:Hp}{s:Shared}(I:Inv X pins σ H s):∀(n:Nat) (A:Around) (d1 d2:D) (v1 v2:V) (L1 L2:List Addr) (u1 u2:Value) (b:Bool),A.units+n<cLine->eqF n d1 d2=some b ->
  Rep X.K H d1 v1 L1->Rep X.K H d2 v2 L2->RelV v1 u1->RelV v2 u2->RcAt A s u1 u2 b/\EqAt A s u1 u2 b/\RcNeAt A s u1 u2 (!b):=by
 intro n
 induction n with
 | zero =>
  intro A d1 d2 v1 v2 L1 L2 u1 u2 b hu h r1 r2 q1 q2;have h:(if (d1.isS&&d2.isS)=true then some (eqS d1 d2) else none)=some b:=h;split at h
  ·rename_i hs;rw[sY]at hs;cases h;exact Z3 hs.1 hs.2 r1 r2 q1 q2
  ·cases h
 | succ n ih =>
  intro A d1 d2 v1 v2 L1 L2 u1 u2 b hu h r1 r2 q1 q2;have hu0:A.units<cLine:=by lia
  have hu1:A.in1.units+n<cLine:=by show A.units+1+n<cLine;lia
  have same:∀a,v1=.ref a->v2=.ref a->b=true:=fun a e1 e2=>by
   subst e1 e2;have:=Rep.one I d1 d2 _ _ _ r1 r2;subst this;exact VY (n+1) d1 b h
  by_cases s1:d1.isS=true
  ·by_cases s2:d2.isS=true
   ·have e:b=eqS d1 d2:=by
     cases d1<;>first|exact absurd s1 tH|(cases d2<;>first|exact absurd s2 tH|exact (jYe h).symm)
    subst e;exact Z3 s1 s2 r1 r2 q1 q2
   ·cases d2 with
    | lst ys =>
     have e:b=false:=by cases d1<;>first|exact absurd s1 tH|exact (jYe h).symm
     subst e;obtain⟨a,vs,L',e2,ha,_,rs⟩:=r2;have q2:u2=Value.ref a:=by rw[e2]at q2;exact q2
     rw[q2];obtain⟨its,rv,pl,_⟩:=I.list (SqL.of ha);exact (Zt s1 r1 q1 pl.isList hu0).2
    | tup ys =>
     have e:b=false:=by cases d1<;>first|exact absurd s1 tH|exact (jYe h).symm
     subst e;obtain⟨a,vs,e2,ha,rs⟩:=r2;have q2:u2=Value.ref a:=by rw[e2]at q2;exact q2
     rw[q2];obtain⟨its,rv,pl,_⟩:=I.tuple ha;exact (ZI s1 r1 q1 pl hu0).2
    | dic _ _=>cases d1<;>first | exact absurd s1 tH | exact (ve (b:=b) h).elim
    | frl _=>cases d1<;>first | exact absurd s1 tH | exact (ve (b:=b) h).elim
    | obj _ _ _=>cases d1<;>first | exact absurd s1 tH | exact (ve (b:=b) h).elim
    | _=>exact absurd rfl s2
  ·cases d1 with
   | lst xs =>
    obtain⟨a,vs,L',e1,ha,_,rs⟩:=r1;have q1:u1=Value.ref a:=by rw[e1]at q1;exact q1
    rw[q1];obtain⟨its,rv,pl,_⟩:=I.list (SqL.of ha);cases d2 with
    | lst ys =>
     obtain⟨a2,vs2,L2',e2,ha2,_,rs2⟩:=r2;have q2:u2=Value.ref a2:=by rw[e2]at q2;exact q2
     rw[q2];exact ja I hu0 (fun d1 d2 v1 v2 L1 L2 u1 u2 b e r1 r2 q1 q2=>(ih A.in1 d1 d2 v1 v2 L1 L2 u1 u2 b hu1 e r1 r2 q1 q2).2.1) (SqL.of ha) rs (SqL.of ha2) rs2 h fun z=>same a e1 (by rw[z];exact e2)
    | tup ys =>
     obtain⟨a2,vs2,e2,ha2,rs2⟩:=r2;have q2:u2=Value.ref a2:=by rw[e2]at q2;exact q2
     rw[q2];obtain⟨its2,rv2,pl2,_⟩:=I.tuple ha2;cases (jYe (show some false=some b from h));exact⟨RcAt.list_tuple pl.isList pl2 hu0,EqAt.list_tuple pl.isList pl2 hu0,RcNeAt.list_tuple pl.isList pl2 hu0⟩
    | dic _ _=>exact (ve (b:=b) h).elim
    | frl _=>exact (ve (b:=b) h).elim
    | obj _ _ _=>exact (ve (b:=b) h).elim
    | non=>cases (jYe (show some false=some b from h));exact (Zt (d:=.non) rfl r2 q2 pl.isList hu0).1
    | bl x=>cases (jYe (show some false=some b from h));exact (Zt (d:=.bl x) rfl r2 q2 pl.isList hu0).1
    | int x=>cases (jYe (show some false=some b from h));exact (Zt (d:=.int x) rfl r2 q2 pl.isList hu0).1
    | str x=>cases (jYe (show some false=some b from h));exact (Zt (d:=.str x) rfl r2 q2 pl.isList hu0).1
   | tup xs =>
    obtain⟨a,vs,e1,ha,rs⟩:=r1;have q1:u1=Value.ref a:=by rw[e1]at q1;exact q1
    rw[q1];obtain⟨its,rv,pl,_⟩:=I.tuple ha;cases d2 with
    | tup ys =>
     obtain⟨a2,vs2,e2,ha2,rs2⟩:=r2;have q2:u2=Value.ref a2:=by rw[e2]at q2;exact q2
     rw[q2];obtain⟨its2,rv2,pl2,_⟩:=I.tuple ha2;have h:(yj (eqF n) xs ys).map (fun b=>b&&xs.length==ys.length)=some b:=h;have l1:its.length=xs.length:=by rw[<-rv.length,rs.length]
     have l2:its2.length=ys.length:=by rw[<-rv2.length,rs2.length]
     cases hz:yj (eqF n) xs ys with
     | none=>rw[hz]at h;cases h
     | some b' =>
      rw[hz]at h;have h:(b'&&xs.length==ys.length)=b:=jYe h;have e1':=e1;have e2':=e2;obtain⟨e1,e2⟩:=vt hz;have he:∀j (h1:j<its.toArray.size) (h2:j<its2.toArray.size),EqAt A.in1 s its.toArray[j] its2.toArray[j] (wo (eqF n) xs ys j):=fun j h1 h2=>by
       have h1':j<xs.length:=by simpa [l1] using h1
       have h2':j<ys.length:=by simpa [l2] using h2
       obtain⟨w1,L3,g1,g2,_⟩:=rs.get (i:=j) (d:=xs[j]) (by simp[h1']);obtain⟨w2,L4,g3,g4,_⟩:=rs2.get (i:=j) (d:=ys[j]) (by simp[h2']);obtain⟨z1,k1,k2⟩:=rv.get g1;obtain⟨z2,k3,k4⟩:=rv2.get g3;have m1:its.toArray[j]=z1:=by
        have:=(tT.mp k1).2
        simpa using this
       have m2:its2.toArray[j]=z2:=by
        have:=(tT.mp k3).2
        simpa using this
       rw[m1,m2];exact (ih A.in1 _ _ w1 w2 L3 L4 z1 z2 _ hu1 (e2 j _ _ (by simp[h1']) (by simp[h2'])) g2 g4 k2 k4).2.1
      have eb:b=((List.range (min its.toArray.size its2.toArray.size)).all (wo (eqF n) xs ys)&&its.toArray.size==its2.toArray.size):=by
       rw[<-h,e1];simp[l1,l2]
      have rc:=RcAt.tuples pl pl2 hu0 he;have rn:=RcNeAt.tuples pl pl2 hu0 he;rw[<-eb]at rc rn;exact⟨rc,jf rc fun z=>same a e1' (by rw[z];exact e2'),rn⟩
    | lst ys =>
     obtain⟨a2,vs2,L2',e2,ha2,_,rs2⟩:=r2;have q2:u2=Value.ref a2:=by rw[e2]at q2;exact q2
     rw[q2];obtain⟨its2,rv2,pl2,_⟩:=I.list (SqL.of ha2);cases (jYe (show some false=some b from h));exact⟨RcAt.tuple_list pl pl2.isList hu0,EqAt.tuple_list pl pl2.isList hu0,RcNeAt.tuple_list pl pl2.isList hu0⟩
    | dic _ _=>exact (ve (b:=b) h).elim
    | frl _=>exact (ve (b:=b) h).elim
    | obj _ _ _=>exact (ve (b:=b) h).elim
    | non=>cases (jYe (show some false=some b from h));exact (ZI (d:=.non) rfl r2 q2 pl hu0).1
    | bl x=>cases (jYe (show some false=some b from h));exact (ZI (d:=.bl x) rfl r2 q2 pl hu0).1
    | int x=>cases (jYe (show some false=some b from h));exact (ZI (d:=.int x) rfl r2 q2 pl hu0).1
    | str x=>cases (jYe (show some false=some b from h));exact (ZI (d:=.str x) rfl r2 q2 pl hu0).1
   | dic _ _=>cases d2<;>exact (ve (b:=b) h).elim
   | obj _ _ _=>cases d2<;>exact (ve (b:=b) h).elim
   | frl xs =>
    cases d2 with
    | lst ys =>
     obtain⟨a,vs,e1,ha,_,_,rs⟩:=r1;have q1:u1=Value.ref a:=by rw[e1]at q1;exact q1
     rw[q1];obtain⟨a2,vs2,L2',e2,ha2,_,rs2⟩:=r2;have q2:u2=Value.ref a2:=by rw[e2]at q2;exact q2
     rw[q2];exact ja I hu0 (fun d1 d2 v1 v2 L1 L2 u1 u2 b e r1 r2 q1 q2=>(ih A.in1 d1 d2 v1 v2 L1 L2 u1 u2 b hu1 e r1 r2 q1 q2).2.1) ha.sq rs (SqL.of ha2) rs2 h fun z=>same a e1 (by rw[z];exact e2)
    | tup ys=>exact (ve (b:=b) h).elim
    | dic _ _=>exact (ve (b:=b) h).elim
    | obj _ _ _=>exact (ve (b:=b) h).elim
    | frl ys =>
     obtain⟨a,vs,e1,ha,_,_,rs⟩:=r1;have q1:u1=Value.ref a:=by rw[e1]at q1;exact q1
     rw[q1];obtain⟨a2,vs2,e2,ha2,_,_,rs2⟩:=r2;have q2:u2=Value.ref a2:=by rw[e2]at q2;exact q2
     rw[q2];exact ja I hu0 (fun d1 d2 v1 v2 L1 L2 u1 u2 b e r1 r2 q1 q2=>(ih A.in1 d1 d2 v1 v2 L1 L2 u1 u2 b hu1 e r1 r2 q1 q2).2.1) ha.sq rs ha2.sq rs2 h fun z=>same a e1 (by rw[z];exact e2)
    | non=>exact (ve (b:=b) h).elim
    | bl x=>exact (ve (b:=b) h).elim
    | int x=>exact (ve (b:=b) h).elim
    | str x=>exact (ve (b:=b) h).elim
   | _=>exact absurd rfl s1
def yp {K:jJa}{H:Hp}{ds:List D}{vs:List V}{L:List Addr}(r:Reps K H ds vs L)(h:D.imms ds=true):Reps K H ds vs []:=by
 have:=Reps.imm ds vs L r h;subst this;exact r
def wU {K:jJa}{H:Hp}{ds:List D}{vs:List V}{p:Addr}{Q:VK}(r:Reps K H ds vs [])(hp:H p=none)(q:∀v H' L,Same H H'->Rep K H' (.lst ds) v L->L.Nodup->(∀a∈L,H a=none)->Q v H'):Q (.ref p) (upd H p (.lst vs)):=
 q _ _ [p] (Same.new hp) ⟨p,vs,[],rfl,zE,rfl,r.same (Same.new hp)⟩ (by simp) (fun a ha=>by rw[rE.mp ha];exact hp)
def zw:D->D->R D
 | .int i,.int j=>.ok (.int (i+j))
 | .str x,.str y=>if x.length+y.length<=sizeLine then .ok (.str (x++y)) else .bad
 | .lst xs,.lst ys=>if D.imms xs=true/\D.imms ys=true/\xs.length+ys.length<=sizeLine then .ok (.lst (xs++ys)) else .bad
 | .tup xs,.tup ys=>if D.imms xs=true/\D.imms ys=true/\xs≠[]/\xs.length+ys.length<=sizeLine then .ok (.tup (xs++ys)) else .bad
 | _,_=>.bad
def J7 (K:jJa):R2:=fun x y H Q=>(∃i j,x=.int i/\y=.int j/\Q (.int (i+j)) H)\/(∃i j,x=.str i/\y=.str j/\i.length+j.length<=sizeLine/\Q (.str (i++j)) H)\/z1t x y H Q\/J6 K x y H Q
def zA {X:Cx}:OpR X (binaryOp .Add) (J7 X.K):=(OpR.or Kz (OpR.or X4 (OpR.or JL Qq)))
def zT {K:jJa}:OpB K (J7 K) zw:=by
 rintro H x y dx dy Lx Ly Q rx ry ⟨d,hg,q⟩;unfold zw at hg;split at hg
 ·cases hg;exact .inl ⟨_,_,rx.1,ry.1,q _ H [] (Same.refl H) ⟨rfl,rfl⟩ (by simp) (fun a ha=>nomatch ha)⟩
 ·split at hg
  ·rename_i hz;cases hg;exact .inr (.inl ⟨_,_,rx.1,ry.1,hz,q _ H [] (Same.refl H) ⟨rfl,rfl⟩ (by simp) (fun a ha=>nomatch ha)⟩)
  ·cases hg
 ·rename_i xs ys;split at hg
  ·rename_i hz;cases hg;obtain⟨a,vs,L1,rfl,ha,_,rs⟩:=rx;obtain⟨b,ws,L2,rfl,hb,_,qs⟩:=ry;refine .inr (.inr (.inl ⟨a,b,vs,ws,rfl,rfl,ha,hb,by rw[rs.length,qs.length];exact hz.2.2,fun p hp=>wU (ds:=xs++ys) ?_ hp q⟩));exact Reps.append (yp rs hz.1) (yp qs hz.2.1)
  ·cases hg
 ·rename_i xs ys;split at hg
  ·rename_i hz;cases hg;obtain⟨a,vs,rfl,ha,rs⟩:=rx;obtain⟨b,ws,rfl,hb,qs⟩:=ry;have hne:vs≠[]:=fun z=>hz.2.2.1 (by have:=rs.length;rw[z]at this;exact List.length_eq_zero_iff.mp this.symm);have rr:=Reps.append (yp rs hz.1) (yp qs hz.2.1);refine .inr (.inr (.inr ⟨a,b,vs,ws,rfl,rfl,ha,hb,hne,by rw[rs.length,qs.length];exact hz.2.2.2,fun z=>?_,fun _ p hp=>?_⟩))
   ·subst z;rw[tQ]at rr;exact q _ H [] (Same.refl H) ⟨a,vs,rfl,ha,rr⟩ (by simp) (fun a ha=>nomatch ha)
   ·exact q _ _ [] (Same.new hp) ⟨p,vs++ws,rfl,SqT.of zE,rr.same (Same.new hp)⟩ (by simp) (fun a ha=>nomatch ha)
  ·cases hg
 ·cases hg
def zS:w6 zw:=fun x y n h=>by
 unfold zw at h;split at h
 ·cases h
 ·split at h<;>cases h
 ·split at h<;>cases h
 ·split at h<;>cases h
 ·cases h
def intD (C:Int->Int->Bool)(g:Int->Int->D):D->D->R D
 | .int i,.int j=>if C i j=true then .ok (g i j) else .bad
 | _,_=>.bad
def zZ {C:Int->Int->Bool}{g:Int->Int->D}:w6 (intD C g):=fun x y n h=>by
 unfold intD at h;split at h
 ·split at h<;>cases h
 ·cases h
def Kn:D->V
 | .int i=>.int i
 | .bl b=>.bl b
 | .str x=>.str x
 | _=>.non
def ZP {K:jJa}{H:Hp}:∀ {d:D},d.isS=true->Rep K H d (Kn d) []
 | .non,_=>⟨rfl,rfl⟩
 | .bl _,_=>⟨rfl,rfl⟩
 | .int _,_=>⟨rfl,rfl⟩
 | .str _,_=>⟨rfl,rfl⟩
 | .tup _,h=>nomatch h
 | .lst _,h=>nomatch h
 | .dic _ _,h=>nomatch h
 | .frl _,h=>nomatch h
 | .obj _ _ _,h=>nomatch h
def Jr {K:jJa}{C:Int->Int->Bool}{g:Int->Int->D}{P:Int->Int->Prop}{gv:Int->Int->V}(hP:∀i j,C i j=true->P i j)(hs:∀i j,(g i j).isS=true)(hv:∀i j,Kn (g i j)=gv i j):OpB K (rI P gv) (intD C g):=by
 rintro H x y dx dy Lx Ly Q rx ry ⟨d,hg,q⟩;unfold intD at hg;split at hg
 ·split at hg
  ·rename_i i j hz;cases hg;refine⟨i,j,rx.1,ry.1,hP i j hz,?_⟩;rw[<-hv];exact q _ H [] (Same.refl H) (ZP (hs i j)) (by simp) (fun a ha=>nomatch ha)
  ·cases hg
 ·cases hg
def Yw {K:jJa}{g:Int->Int->D}{gv:Int->Int->V}(hs:∀i j,(g i j).isS=true)(hv:∀i j,Kn (g i j)=gv i j):OpB K (rI0 gv) (intD (fun _ _=>true) g):=by
 rintro H x y dx dy Lx Ly Q rx ry ⟨d,hg,q⟩;unfold intD at hg;split at hg
 ·rw[if_pos rfl]at hg;rename_i i j;cases hg;refine⟨i,j,rx.1,ry.1,?_⟩;rw[<-hv];exact q _ H [] (Same.refl H) (ZP (hs i j)) (by simp) (fun a ha=>nomatch ha)
 ·cases hg
abbrev vD:D->D->R D:=intD (fun _ _=>true) fun i j=>.int (i-j)
abbrev yL:D->D->R D:=intD (fun _ j=>decide (0<j)&&decide (j<1073741824)) fun i j=>.int (i/j)
abbrev ym:D->D->R D:=intD (fun _ j=>decide (0<j)) fun i j=>.int (i%j)
abbrev ltD:D->D->R D:=intD (fun _ _=>true) fun i j=>.bl (decide (i<j))
abbrev gtD:D->D->R D:=intD (fun _ _=>true) fun i j=>.bl (decide (j<i))
def qW {K:jJa}:OpB K (rI0 fun i j=>.int (i-j)) vD:=Yw (fun _ _=>rfl) fun _ _=>rfl
def vY {K:jJa}:OpB K (rI z1c fun i j=>.int (i/j)) yL:=Jr (fun i j h=>by simp only[sY,decide_eq_true_eq]at h;exact h) (fun _ _=>rfl) fun _ _=>rfl
def wG {K:jJa}:OpB K (rI (fun _ j=>0<j) fun i j=>.int (i%j)) ym:=Jr (fun i j h=>by simpa using h) (fun _ _=>rfl) fun _ _=>rfl
def Q1 {K:jJa}:OpB K (rI0 fun i j=>.bl (decide (i<j))) ltD:=Yw (fun _ _=>rfl) fun _ _=>rfl
def z02 {K:jJa}:OpB K (rI0 fun i j=>.bl (decide (j<i))) gtD:=Yw (fun _ _=>rfl) fun _ _=>rfl
def wb:D->D->R D
 | .int i,.int j=>if ((decide (-(2 ^ 64)<i)&&decide (i<2 ^ 64))||(decide (-(2 ^ 64)<j)&&decide (j<2 ^ 64)))=true then .ok (.int (i*j)) else .bad
 | .lst xs,.int k=>if D.imms xs=true/\-(2 ^ 63)<=k/\k<2 ^ 63/\xs.length*k.toNat<=sizeLine then .ok (.lst (List.replicate k.toNat xs).flatten) else .bad
 | _,_=>.bad
def ZJ:w6 wb:=fun x y n h=>by
 unfold wb at h;split at h
 ·split at h<;>cases h
 ·split at h<;>cases h
 ·cases h
def uq {X:Cx}:OpR X (binaryOp .Mult) (fun x y H Q=>rI CMul (fun i j=>.int (i*j)) x y H Q\/Ks x y H Q):=OpR.or Ku K9
theorem Reps.rep {K:jJa}{H:Hp}{ds:List D}{vs:List V}(r:Reps K H ds vs []):∀k:Nat,Reps K H (List.replicate k ds).flatten (List.replicate k vs).flatten []
 | 0=>by simpa using Reps.nil
 | k+1=>by
  rw[tY,tY,rC,rC];exact Reps.append r (Reps.rep r k)
def Zd {K:jJa}:OpB K (fun x y H Q=>rI CMul (fun i j=>.int (i*j)) x y H Q\/Ks x y H Q) wb:=by
 rintro H x y dx dy Lx Ly Q rx ry ⟨d,hg,q⟩;unfold wb at hg;split at hg
 ·split at hg
  ·rename_i i j hz;cases hg;refine .inl ⟨i,j,rx.1,ry.1,?_,q _ H [] (Same.refl H) ⟨rfl,rfl⟩ (by simp) (fun a ha=>nomatch ha)⟩
   simpa [CMul] using hz
  ·cases hg
 ·split at hg
  ·rename_i xs k hz;cases hg;obtain⟨a,vs,L1,rfl,ha,_,rs⟩:=rx;exact .inr ⟨a,k,vs,rfl,ry.1,ha,hz.2.1,hz.2.2.1,by rw[rs.length];exact hz.2.2.2,fun p hp=>wU (Reps.rep (yp rs hz.1) _) hp q⟩
  ·cases hg
 ·cases hg
def W8 (K:jJa)(neg:Bool):R2:=fun x y H Q=>∃dx dy Lx Ly b,Rep K H dx x Lx/\Rep K H dy y Ly/\eqF 12 dx dy=some b/\Q (.bl (if neg=true then !b else b)) H
def Ke {X:Cx}(hu:X.A.units+12<cLine):OpR X (compareOp .Eq) (W8 X.K false):=by
 rintro pins s σ H x y v u Q I rx ry ⟨dx,dy,Lx,Ly,b,r1,r2,he,q⟩;exact (VL I 12 X.A dx dy x y Lx Ly v u b hu he r1 r2 rx ry).1 X.prog X.w X.xe _ ⟨.bl b,H,I,rfl,q⟩
def Kp {X:Cx}(hu:X.A.units+12<cLine):OpR X (compareOp .NotEq) (W8 X.K true):=by
 rintro pins s σ H x y v u Q I rx ry ⟨dx,dy,Lx,Ly,b,r1,r2,he,q⟩;exact (VL I 12 X.A dx dy x y Lx Ly v u b hu he r1 r2 rx ry).2.2 X.prog X.w X.xe _ ⟨.bl (!b),H,I,rfl,q⟩
def lookD:List Key->List D->Key->Option D
 | k::ks,d::ds,j=>if k=j then some d else lookD ks ds j
 | _,_,_=>none
def hitsD (js:List Key)(ys:List D):List Key->List D->Option Bool
 | k::ks,x::xs=>match lookD js ys k with
  | none=>some false
  | some y=>if (x.isS&&y.isS)=true then (hitsD js ys ks xs).map (eqS x y&&·) else none
 | _,_=>some true
theorem wA {K:jJa}{H:Hp}:∀ {kvs:List (Key×V)} {ds:List D} {L:List Addr} {k:Key} {d:D},Reps K H ds (kvs.map (·.2)) L->lookD (kvs.map (·.1)) ds k=some d->∃v L1,wN kvs k=some v/\Rep K H d v L1/\List.Sublist L1 L
 | [],ds,_,k,d,r,h=>by cases ds<;>cases h
 | p::kvs,[],_,k,d,r,h=>by obtain⟨e,_⟩:=r;cases e
 | p::kvs,d0::ds,_,k,d,hq5,h=>by
  obtain⟨v,vs',L1,L2,e1,e2,r1,r2⟩:=hq5;subst e2;rw[tJ]at e1;cases e1;rw[tJ]at h;unfold lookD at h
  by_cases hk:p.1=k
  ·rw[if_pos hk]at h;cases h;exact⟨p.2,L1,ud hk,r1,List.sublist_append_left _ _⟩
  ·rw[if_neg hk]at h;obtain⟨v,L',a,b,c⟩:=wA r2 h;exact⟨v,L',by rw[vq hk];exact a,b,c.trans (rU _ _)⟩
theorem uH {K:jJa}{H:Hp}:∀ {kvs:List (Key×V)} {ds:List D} {L:List Addr} {k:Key},Reps K H ds (kvs.map (·.2)) L->lookD (kvs.map (·.1)) ds k=none->wN kvs k=none
 | [],ds,_,k,r,h=>rfl
 | p::kvs,[],_,k,r,h=>by obtain⟨e,_⟩:=r;cases e
 | p::kvs,d0::ds,_,k,hq4,h=>by
  obtain⟨v,vs',L1,L2,e1,e2,r1,r2⟩:=hq4;subst e2;rw[tJ]at e1;cases e1;rw[tJ]at h;unfold lookD at h
  by_cases hk:p.1=k
  ·rw[if_pos hk]at h;cases h
  ·rw[if_neg hk]at h;rw[vq hk];exact uH r2 h
def Z8 {K:jJa}{H:Hp}{A:Around}{s:Shared}{kvb:List (Key×V)}{vb:List (Key×Value)}{ys:List D}{Lb:List Addr}(rb:KV kvb vb)(qb:Reps K H ys (kvb.map (·.2)) Lb):
  ∀ {kva:List (Key×V)} {va:List (Key×Value)} {xs:List D} {La:List Addr} {b:Bool},KV kva va->Reps K H xs (kva.map (·.2)) La->hitsD (kvb.map (·.1)) ys (kva.map (·.1)) xs=some b->PySem.W.KeqHits A s vb va b:=by
 intro kva va xs La b ra
 induction ra generalizing xs La b with
 | nil =>
  intro r h;cases xs with
  | nil=>cases h;exact .nil
  | cons _ _=>obtain⟨_,_,_,_,e,_⟩:=r;cases e
 | @cons p q l1 l2 h1 _ ih =>
  intro r h;cases xs with
  | nil=>obtain⟨e,_⟩:=r;cases e
  | cons x xs =>
   obtain⟨v,vs',L1,L2,e1,e2,r1,r2⟩:=r;rw[tJ]at e1;cases e1;rw[tJ]at h;unfold hitsD at h;have ek:q.1=p.1:=h1.1.symm;have hv:=rb.val p.1;cases hl:lookD (kvb.map (·.1)) ys p.1 with
   | none =>
    rw[hl]at h;cases h;rw[uH qb hl]at hv;have:valueAt vb q.1=none:=by
     rw[ek];cases hq:valueAt vb p.1 with
     | none=>rfl
     | some y=>rw[hq]at hv;exact hv.elim
    exact PySem.W.KeqHits.miss (k:=q.1) (v:=q.2) this
   | some y =>
    rw[hl]at h;dsimp only at h;split at h
    ·rename_i hs;rw[sY]at hs;cases hr:hitsD (kvb.map (·.1)) ys (l1.map (·.1)) xs with
     | none=>rw[hr]at h;cases h
     | some b' =>
      rw[hr]at h;have h:(eqS x y&&b')=b:=jYe h;obtain⟨w,Lw,g1,g2,_⟩:=wA qb hl;rw[g1]at hv;obtain⟨yv,hy,ry⟩:=RelO.some_of (v:=w) (o:=valueAt vb p.1) hv;rw[<-h];exact PySem.W.KeqHits.hit (k:=q.1) (v:=q.2) (by rw[ek];exact hy) (Z3 (A:=A) (s:=s) hs.1 hs.2 r1 g2 h1.2 ry).2.1 (ih r2 hr)
    ·cases h
def jY (K:jJa)(neg:Bool):R2:=fun x y H Q=>∃a b kva kvb xs ys La Lb r,x=.ref a/\y=.ref b/\Rd H a (.dK kva)/\Rd H b (.dK kvb)/\Reps K H xs (kva.map (·.2)) La/\Reps K H ys (kvb.map (·.2)) Lb /\
 (kva.length=kvb.length->hitsD (kvb.map (·.1)) ys (kva.map (·.1)) xs=some r)/\Q (.bl (if neg=true then !(kva.length==kvb.length&&r) else (kva.length==kvb.length&&r))) H
def Q5 {X:Cx}(hu:X.A.units<cLine):OpR X (compareOp .Eq) (jY X.K false):=by
 rintro pins s σ H x y v u Q I rx ry ⟨a,b,kva,kvb,xs,ys,La,Lb,r,e1,e2,ha,hb,qa,qb,hh,q⟩;subst e1 e2;obtain rfl:v=Value.ref a:=rx;obtain rfl:u=Value.ref b:=ry;obtain⟨_,da,va,ra,oa⟩:=vK I.hok ha;obtain⟨_,db,vb,rb,ob⟩:=vK I.hok hb;have l1:va.length=kva.length:=ra.length.symm;have l2:vb.length=kvb.length:=rb.length.symm;refine jJp (r:=r) da db oa ob hu (fun e=>Z8 rb qb ra qa (hh (by lia))) ?_;rw[l1,l2];exact⟨.bl _,H,I,rfl,q⟩
def QU {X:Cx}(hu:X.A.units<cLine):OpR X (compareOp .NotEq) (jY X.K true):=by
 rintro pins s σ H x y v u Q I rx ry ⟨a,b,kva,kvb,xs,ys,La,Lb,r,e1,e2,ha,hb,qa,qb,hh,q⟩;subst e1 e2;obtain rfl:v=Value.ref a:=rx;obtain rfl:u=Value.ref b:=ry;obtain⟨_,da,va,ra,oa⟩:=vK I.hok ha;obtain⟨_,db,vb,rb,ob⟩:=vK I.hok hb;have l1:va.length=kva.length:=ra.length.symm;have l2:vb.length=kvb.length:=rb.length.symm;refine PySem.W.keq_ne (r:=r) da db oa ob hu (fun e=>Z8 rb qb ra qa (hh (by lia))) ?_;rw[l1,l2];exact⟨.bl _,H,I,rfl,q⟩
def um (ks:List Key)(xs:List D)(js:List Key)(ys:List D):Option Bool:=if ks.length=js.length then hitsD js ys ks xs else some false
def eqR (neg:Bool):D->D->R D
 | .dic ks xs,.dic js ys=>match um ks xs js ys with
  | some b=>.ok (.bl (if neg=true then !b else b))
  | none=>.bad
 | x,y=>match eqF 12 x y with
  | some b=>.ok (.bl (if neg=true then !b else b))
  | none=>.bad
def VF {neg:Bool}:w6 (eqR neg):=fun x y n h=>by
 unfold eqR at h;split at h
 ·split at h<;>cases h
 ·split at h<;>cases h
def W9 {K:jJa}{neg:Bool}:OpB K (fun x y H Q=>W8 K neg x y H Q\/jY K neg x y H Q) (eqR neg):=by
 rintro H x y dx dy Lx Ly Q rx ry ⟨d,hg,q⟩;unfold eqR at hg;split at hg
 ·rename_i ks xs js ys;obtain⟨a,kva,L1,rfl,ha,_,hk,_,rs⟩:=rx;obtain⟨b,kvb,L2,rfl,hb,_,hj,_,qs⟩:=ry;have l1:ks.length=kva.length:=by rw[<-hk,tI]
  have l2:js.length=kvb.length:=by rw[<-hj,tI]
  unfold um at hg
  by_cases hl:ks.length=js.length
  ·rw[if_pos hl]at hg;cases hr:hitsD js ys ks xs with
   | none=>rw[hr]at hg;cases hg
   | some r =>
    rw[hr]at hg;cases hg;refine .inr ⟨a,b,kva,kvb,xs,ys,_,_,r,rfl,rfl,.inl ha,.inl hb,rs,qs,fun _=>by rw[hk,hj];exact hr,?_⟩;have e:(kva.length==kvb.length&&r)=r:=by
     have:(kva.length==kvb.length)=true:=by simp;lia
     rw[this,pQ]
    rw[e];exact q _ H [] (Same.refl H) ⟨rfl,rfl⟩ (by simp) (fun a ha=>nomatch ha)
  ·rw[if_neg hl]at hg;cases hg;refine .inr ⟨a,b,kva,kvb,xs,ys,_,_,false,rfl,rfl,.inl ha,.inl hb,rs,qs,fun z=>absurd z (by lia),?_⟩;rw[pN];exact q _ H [] (Same.refl H) ⟨rfl,rfl⟩ (by simp) (fun a ha=>nomatch ha)
 ·split at hg
  ·rename_i b hb;cases hg;exact .inl ⟨dx,dy,Lx,Ly,b,rx,ry,hb,q _ H [] (Same.refl H) ⟨rfl,rfl⟩ (by simp) (fun a ha=>nomatch ha)⟩
  ·cases hg
def uh {X:Cx}(hu:X.A.units+12<cLine):OpR X (compareOp .Eq) (fun x y H Q=>W8 X.K false x y H Q\/jY X.K false x y H Q):=OpR.or (Ke hu) (Q5 (by lia))
def ZX {X:Cx}(hu:X.A.units+12<cLine):OpR X (compareOp .NotEq) (fun x y H Q=>W8 X.K true x y H Q\/jY X.K true x y H Q):=OpR.or (Kp hu) (QU (by lia))
def X3:D->Bool
 | .non=>true
 | _=>false
def isN (neg:Bool):D->D->R D
 | x,.non=>.ok (.bl (if neg=true then !X3 x else X3 x))
 | _,_=>.bad
def Jb {neg:Bool}:w6 (isN neg):=fun x y n h=>by
 unfold isN at h;split at h<;>cases h
def QI {K:jJa}{H:Hp}{d:D}{v:V}{L:List Addr}(r:Rep K H d v L):decide (v=V.non)=X3 d:=by
 cases d with
 | non=>obtain⟨rfl,_⟩:=r;rfl
 | bl b=>obtain⟨rfl,_⟩:=r;rfl
 | int b=>obtain⟨rfl,_⟩:=r;rfl
 | str b=>obtain⟨rfl,_⟩:=r;rfl
 | tup _=>obtain⟨_,_,rfl,_⟩:=r;rfl
 | lst _=>obtain⟨_,_,_,rfl,_⟩:=r;rfl
 | dic _ _=>obtain⟨_,_,_,rfl,_⟩:=r;rfl
 | frl _=>obtain⟨_,_,rfl,_⟩:=r;rfl
 | obj _ _ _=>obtain⟨_,_,_,rfl,_⟩:=r;rfl
def WM {K:jJa}:OpB K (fun x y H Q=>y=.non/\Q (.bl (!decide (x=.non))) H) (isN true):=by
 rintro H x y dx dy Lx Ly Q rx ry ⟨d,hg,q⟩;unfold isN at hg;split at hg
 ·cases hg;refine⟨ry.1,?_⟩;rw[QI rx];exact q _ H [] (Same.refl H) ⟨rfl,rfl⟩ (by simp) (fun a ha=>nomatch ha)
 ·cases hg
def keyOf:D->Option Key
 | .int i=>some (.inl i)
 | .str x=>some (.inr x)
 | .non=>some .non
 | _=>none
def ixD:D->D->R D
 | .lst ds,.int i=>match atI ds i with
  | some d=>.ok d
  | none=>.bad
 | .tup ds,.int i=>match atI ds i with
  | some d=>.ok d
  | none=>.bad
 | .frl ds,.int i=>match atI ds i with
  | some d=>.ok d
  | none=>.bad
 | .str x,.int i=>if x.length<=sizeLine then (match atI x.cps.toList i with
  | some c=>.ok (.str ⟨#[c]⟩)
  | none=>.bad) else .bad
 | .dic ks ds,k=>match keyOf k with
  | some k=>(match lookD ks ds k with
   | some d=>.ok d
   | none=>.bad)
  | none=>.bad
 | _,_=>.bad
def z1M:w6 ixD:=fun x y n h=>by
 unfold ixD at h;split at h
 ·split at h<;>cases h
 ·split at h<;>cases h
 ·split at h<;>cases h
 ·split at h
  ·split at h<;>cases h
  ·cases h
 ·split at h
  ·split at h<;>cases h
  ·cases h
 ·cases h
def vz {K:jJa}{H:Hp}{d:D}{v:V}{L:List Addr}{k:Key}(h:keyOf d=some k)(r:Rep K H d v L):v=kV k:=by
 cases d with
 | non=>cases h;exact r.1
 | int i=>cases h;exact r.1
 | str x=>cases h;exact r.1
 | _=>cases h
theorem Reps.atI {K:jJa}{H:Hp}{ds:List D}{vs:List V}{L:List Addr}{i:Int}{d:D}(r:Reps K H ds vs L)(h:L2.atI ds i=some d):∃v L1,L2.atI vs i=some v/\Rep K H d v L1/\List.Sublist L1 L:=by
 unfold L2.atI at h ⊢;rw[r.length];cases e:ixN ds.length i with
 | none=>rw[e]at h;cases h
 | some j =>
  rw[e]at h;obtain⟨v,L1,a,b,c⟩:=r.get h;exact⟨v,L1,a,b,c⟩
section
variable {X:Cx}{E:XK}{Γ:List Cl}{e a b:Expr}{es:List Expr}{t ta tb:Tn->R D}{u:Tn->R (List D)}{c ca cb:Rc}{pos p p2:Pos}
theorem RcOk.sub {O:Addr->Prop}{H:Hp}{L L':List Addr}(h:RcOk c O H L)(s:List.Sublist L' L):RcOk c O H L':=by
 cases c with
 | fresh=>exact⟨h.1.sublist s,fun a ha=>h.2 a (s.subset ha)⟩
 | shr=>exact fun a ha=>h a (s.subset ha)
 | bor=>trivial
theorem post.bind2 {K:jJa}{O:Addr->Prop}{H H1:Hp}{Q Q':VK}{r:R D}{f:D->R D}(h:post K E O c H Q (r.bind f))(s:Same H H1)(hf:∀d,r=.ok d->post K E O c H Q (f d)->∀v H' L,Same H1 H'->Rep K H' d v L->RcOk ca O H1 L->Q' v H'):post K E O ca H1 Q' r:=by
 cases r with
 | ok d=>exact hf d rfl h
 | err n=>exact fun C H' e s'=>h C H' e (s.trans s')
 | bad=>exact h
def WA {K:jJa}{H:Hp}{dx dy d:D}{x y:V}{Lx Ly:List Addr}{Q:VK}(hn:∀ks ds,dx≠.dic ks ds)(h:ixD dx dy=.ok d)(rx:Rep K H dx x Lx)(ry:Rep K H dy y Ly)(q:∀v L1,Rep K H d v L1->List.Sublist L1 Lx->Q v H):rIx K x y H Q:=by
 unfold ixD at h;split at h
 ·split at h
  ·rename_i hd;cases h;obtain⟨a,vs,L',rfl,ha,e,rs⟩:=rx;subst e;obtain⟨v,L1,g1,g2,g3⟩:=rs.atI hd;exact .inl ⟨a,vs,_,v,rfl,ry.1,SqL.of ha,g1,q v L1 g2 (g3.trans (List.sublist_cons_self _ _))⟩
  ·cases h
 ·split at h
  ·rename_i hd;cases h;obtain⟨a,vs,rfl,ha,rs⟩:=rx;obtain⟨v,L1,g1,g2,g3⟩:=rs.atI hd;exact .inr (.inl ⟨a,vs,_,v,rfl,ry.1,ha,g1,q v L1 g2 g3⟩)
  ·cases h
 ·split at h
  ·rename_i hd;cases h;obtain⟨a,vs,rfl,ha,e,_,rs⟩:=rx;subst e;obtain⟨v,L1,g1,g2,g3⟩:=rs.atI hd;exact .inl ⟨a,vs,_,v,rfl,ry.1,ha.sq,g1,q v L1 g2 g3⟩
  ·cases h
 ·split at h
  ·rename_i hz;split at h
   ·rename_i hd;cases h;exact .inr (.inr ⟨_,_,_,rx.1,ry.1,hz,hd,q _ [] ⟨rfl,rfl⟩ (pI _)⟩)
   ·cases h
  ·cases h
 ·rename_i ks ds;exact absurd rfl (hn _ _)
 ·cases h
def zD (hu:X.A.units+1<cLine)(ha:ME X E Γ a ta ca)(hb:ME X E Γ b tb cb)(hs:autoParam (XO b) au4._auto_1):ME X E Γ (.Subscript a b pos) (zd ixD ta tb) ca:=by
 obtain⟨te,p,q⟩:=ha;obtain⟨te',p',q'⟩:=hb;refine⟨fun σ H Q=>tOp (rIx X.K) te te' σ H Q\/Ja te te' σ H Q,fun pins s σ H Q I z=>?_,fun O σ H τ Q ok h=>?_⟩
 ·rcases z with z|z
  ·exact VU YV p p' hs pins s σ H Q I z
  ·exact QC hu p p' hs pins s σ H Q I z
 ·unfold zd at h
  by_cases hd:∃ks ds,ta τ=.ok (.dic ks ds)
  ·obtain⟨ks,ds,hd⟩:=hd;refine .inr (q O σ H τ _ ok (post.bind h fun dx hx h x H1 Lx s1 rx kx=>?_));rw[hd]at hx;cases hx;refine q' O σ H1 τ _ (ok.same s1) (post.bind2 h s1 fun dy _ h y H2 Ly s2 ry _=>?_);have h:post X.K E O ca H Q (match keyOf dy with
    | some k=>(match lookD ks ds k with
     | some d=>.ok d
     | none=>.bad)
    | none=>.bad):=h
   cases hk:keyOf dy with
   | none=>rw[hk]at h;exact h.elim
   | some k =>
    rw[hk]at h;dsimp only at h;cases hl:lookD ks ds k with
    | none=>rw[hl]at h;exact h.elim
    | some d =>
     rw[hl]at h;obtain⟨ad,kvs,L',rfl,had,e2,hks,_,rs⟩:=rx;subst e2;rw[<-hks]at hl;obtain⟨v,L1,g1,g2,g3⟩:=wA rs hl;refine⟨ad,v,rfl,?_,h v H2 L1 (s1.trans s2) (g2.same s2) (kx.sub (g3.trans (List.sublist_cons_self _ _)))⟩;rw[vz hk ry,<-g1];exact DGet.k (s2 _ _ had)
  ·refine .inl (q O σ H τ _ ok (post.bind h fun dx hx h x H1 Lx s1 rx kx=>q' O σ H1 τ _ (ok.same s1) (post.bind2 h s1 fun dy _ h y H2 Ly s2 ry _=>?_)));cases hg:ixD dx dy with
   | ok d =>
    rw[hg]at h;exact WA (fun ks ds z=>hd ⟨ks,ds,by rw[hx,z]⟩) hg (rx.same s2) ry fun v L1 g1 g2=>h v H2 L1 (s1.trans s2) g1 (kx.sub g2)
   | err n=>exact absurd hg (z1M _ _ _)
   | bad=>rw[hg]at h;exact h.elim
def uZ {α:Type}(xs:List α)(lo hi:Option Int):List α:=(xs.drop (HT.sIx xs.length 0 lo)).take (HT.sIx xs.length xs.length hi-HT.sIx xs.length 0 lo)
def slD (x:D)(lo hi:Option Int):R D:=match x with
 | .lst ds=>if D.imms ds=true then .ok (.lst (uZ ds lo hi)) else .bad
 | .str z=>if z.length<=sizeLine then .ok (.str (Txt.slice z lo hi)) else .bad
 | .tup ds=>if D.imms ds=true/\¬(HT.sIx ds.length 0 lo=0/\HT.sIx ds.length ds.length hi=ds.length) then .ok (.tup (uZ ds lo hi)) else .bad
 | _=>.bad
def eSl (t:Tn->R D)(tl th:Tn->R (Option Int)):Tn->R D:=fun τ=>(t τ).bind fun x=>(tl τ).bind fun l=>(th τ).bind fun h=>slD x l h
def jV:Tn->R (Option Int):=fun _=>.ok none
def ya (t:Tn->R D):Tn->R (Option Int):=fun τ=>(t τ).bind fun d=>match d with
 | .int i=>.ok (some i)
 | _=>.bad
def z0T (K:jJa)(E:XK)(H:Hp)(Q:Option Int->Hp->Prop):R (Option Int)->Prop
 | .ok o=>∀H',Same H H'->Q o H'
 | .err n=>∀C H',ErrC K n C->Same H H'->E (.ref C) none H'
 | .bad=>False
def MO (X:Cx)(E:XK)(Γ:List Cl)(e:Option Expr)(t:Tn->R (Option Int)):Prop:=
 ∃to,PO X e to/\∀O σ H τ Q,EOk X.K Γ O H σ τ->z0T X.K E H Q (t τ)->to σ H Q
def Ql:MO X E Γ none jV:=⟨XD,QB,fun O σ H τ Q ok h=>h H (Same.refl H)⟩
def yU (h:ME X E Γ e t c):MO X E Γ (some e) (ya t):=by
 obtain⟨te,p,q⟩:=h;refine⟨Ju te,Q0 p,fun O σ H τ Q ok h=>q O σ H τ _ ok ?_⟩;unfold ya at h;cases ht:t τ with
 | ok d =>
  rw[ht,jYa]at h;refine fun v H' L s r _=>?_;cases d with
  | int i=>exact⟨i,r.1,h H' s⟩
  | _=>exact h.elim
 | err n=>rw[ht]at h;exact h
 | bad=>rw[ht]at h;exact h
theorem Reps.cut {K:jJa}{H:Hp}{ds:List D}{vs:List V}{L:List Addr}(r:Reps K H ds vs L)(lo hi:Option Int):∃L',Reps K H (uZ ds lo hi) (Y3 vs lo hi) L'/\List.Sublist L' L:=by
 obtain⟨L1,a,b⟩:=r.drop (HT.sIx ds.length 0 lo);obtain⟨L2,c,d⟩:=a.take (HT.sIx ds.length ds.length hi-HT.sIx ds.length 0 lo);refine⟨L2,?_,d.trans b⟩;unfold uZ Y3;rw[r.length];exact c
def qC {lo hi:Option Expr}{tl th:Tn->R (Option Int)}(he:ME X E Γ e t c)(hl:MO X E Γ lo tl)(hh:MO X E Γ hi th):ME X E Γ (.Subscript e (.Slice lo hi none p2) pos) (eSl t tl th) .fresh:=by
 obtain⟨te,p,q⟩:=he;obtain⟨tl',pl,ql⟩:=hl;obtain⟨th',ph,qh⟩:=hh;refine⟨_,Vz (SlR.or Um (SlR.or JE KZ)) p pl ph,fun O σ H τ Q ok h=>?_⟩;unfold eSl at h;refine q O σ H τ _ ok (post.bind h fun dx hx h x H1 Lx s1 rx kx=>ql O σ H1 τ _ (ok.same s1) ?_);cases h1:tl τ with
 | err n=>rw[h1]at h;exact fun C H' e s'=>h C H' e (s1.trans s')
 | bad=>rw[h1]at h;exact h
 | ok l =>
  rw[h1,jYa]at h;refine fun H2 s2=>qh O σ H2 τ _ ((ok.same s1).same s2) ?_;cases h2:th τ with
  | err n=>rw[h2]at h;exact fun C H' e s'=>h C H' e ((s1.trans s2).trans s')
  | bad=>rw[h2]at h;exact h
  | ok g =>
   rw[h2,jYa]at h;refine fun H3 s3=>?_;have s03:=(s1.trans s2).trans s3;have rx:=(rx.same s2).same s3;unfold slD at h;cases dx with
   | lst ds =>
    dsimp only at h
    by_cases hz:D.imms ds=true
    ·rw[if_pos hz]at h;obtain⟨a,vs,L',rfl,ha,_,rs⟩:=rx;obtain⟨L2,rc,_⟩:=(yp rs hz).cut l g;have e0:L2=[]:=List.sublist_nil.mp ‹_›;subst e0;refine .inl ⟨a,vs,rfl,SqL.of ha,fun p hp=>wU rc hp fun v H' L s r n1 n2=>h v H' L (s03.trans s) r ⟨n1,fun a ha=>s03.non (n2 a ha)⟩⟩
    ·rw[if_neg hz]at h;exact h.elim
   | str z =>
    dsimp only at h
    by_cases hz:z.length<=sizeLine
    ·rw[if_pos hz]at h;exact .inr (.inl ⟨z,rx.1,hz,h _ H3 [] s03 ⟨rfl,rfl⟩ RcOk.nil⟩)
    ·rw[if_neg hz]at h;exact h.elim
   | tup ds =>
    dsimp only at h
    by_cases hz:D.imms ds=true/\¬(HT.sIx ds.length 0 l=0/\HT.sIx ds.length ds.length g=ds.length)
    ·rw[if_pos hz]at h;obtain⟨a,vs,rfl,ha,rs⟩:=rx;obtain⟨L2,rc,_⟩:=(yp rs hz.1).cut l g;have e0:L2=[]:=List.sublist_nil.mp ‹_›;subst e0;exact .inr (.inr ⟨a,vs,rfl,ha,by rw[rs.length];exact hz.2,fun p hp=>h _ _ [] (s03.trans (Same.new hp)) ⟨p,_,rfl,SqT.of zE,rc.same (Same.new hp)⟩ RcOk.nil⟩)
    ·rw[if_neg hz]at h;exact h.elim
   | _=>exact h.elim
end
section
variable {X:Cx}
def x9:List D->R D
 | [.lst ds]=>.ok (.int ds.length)
 | [.tup ds]=>.ok (.int ds.length)
 | [.frl ds]=>.ok (.int ds.length)
 | [.str x]=>if x.length<=sizeLine then .ok (.int x.length) else .bad
 | [.dic ks _]=>.ok (.int ks.length)
 | _=>.bad
def uo:xh x9:=fun ds n h=>by
 rcases ds with _|⟨d,_|⟨_,_⟩⟩
 ·cases h
 ·cases d with
  | str x =>
   replace h:(if x.length<=sizeLine then R.ok (D.int x.length) else .bad)=R.err n:=h
   split at h<;>cases h
  | _=>cases h
 ·cases d<;>cases h
def yW:CallR X (.builtin "len") (fun xs H Q=>(∃p ys,xs=[.ref p]/\(SqL X.K H p ys\/SqT X.K H p ys)/\Q (.int ys.length) H)\/(∃z,xs=[.str z]/\z.length<=sizeLine/\Q (.int z.length) H)\/∃a kvs,xs=[V.ref a]/\H a=some (.dK kvs)/\Q (.int kvs.length) H):=
 CallR.or kF (CallR.or Z5 Wm)
def xM {K:jJa}{H:Hp}{d:D}{xs:List V}{L:List Addr}(r:Reps K H [d] xs L):∃v,xs=[v]/\Rep K H d v L:=by
 obtain⟨v,vs',L1,L2,e1,e2,r1,r2⟩:=r;obtain⟨rfl,rfl⟩:=r2;rw[tQ]at e2;subst e2;exact⟨v,e1,r1⟩
def Jw {K:jJa}{H:Hp}{d d':D}{xs:List V}{L:List Addr}(r:Reps K H [d,d'] xs L):∃v v' L1 L2,xs=[v,v']/\L=L1++L2/\Rep K H d v L1/\Rep K H d' v' L2:=by
 obtain⟨v,vs',L1,L2,e1,e2,r1,r2⟩:=r;obtain⟨v',rfl,r3⟩:=xM r2;exact⟨v,v',L1,L2,e1,e2,r1,r3⟩
def uu {K:jJa}:ClB K (fun xs H Q=>(∃p ys,xs=[.ref p]/\(SqL K H p ys\/SqT K H p ys)/\Q (.int ys.length) H)\/(∃z,xs=[.str z]/\z.length<=sizeLine/\Q (.int z.length) H)\/∃a kvs,xs=[V.ref a]/\H a=some (.dK kvs)/\Q (.int kvs.length) H) x9:=by
 rintro H xs ds L Q r ⟨d,hg,q⟩;have fin:∀n:Int,d=.int n->Q (.int n) H:=fun n e=>q _ H [] (Same.refl H) (e▸⟨rfl,rfl⟩) (by simp) (fun a ha=>nomatch ha);rcases ds with _|⟨e,_|⟨_,_⟩⟩
 ·cases hg
 ·cases e with
  | lst es =>
   cases hg;obtain⟨v,rfl,a,vs,L',rfl,ha,_,rs⟩:=xM r;exact .inl ⟨a,vs,rfl,.inl (SqL.of ha),fin _ (by rw[rs.length])⟩
  | tup es =>
   cases hg;obtain⟨v,rfl,a,vs,rfl,ha,rs⟩:=xM r;exact .inl ⟨a,vs,rfl,.inr ha,fin _ (by rw[rs.length])⟩
  | frl es =>
   cases hg;obtain⟨v,rfl,a,vs,rfl,ha,_,_,rs⟩:=xM r;exact .inl ⟨a,vs,rfl,.inl ha.sq,fin _ (by rw[rs.length])⟩
  | str x =>
   replace hg:(if x.length<=sizeLine then R.ok (D.int x.length) else .bad)=R.ok d:=hg
   split at hg
   ·rename_i hz;cases hg;obtain⟨v,rfl,rfl,_⟩:=xM r;exact .inr (.inl ⟨_,rfl,hz,fin _ rfl⟩)
   ·cases hg
  | dic ks es =>
   cases hg;obtain⟨v,rfl,a,kvs,L',rfl,ha,_,hk,_⟩:=xM r;exact .inr (.inr ⟨a,kvs,rfl,ha,fin _ (by rw[<-hk,tI])⟩)
  | _=>cases hg
 ·cases e<;>cases hg
def wy:List D->Option (List Int)
 | []=>some []
 | .int i::ds=>(wy ds).map (i::·)
 | _=>none
theorem uV {K:jJa}{H:Hp}:∀ {ds:List D} {vs:List V} {L:List Addr} {ns:List Int},Reps K H ds vs L->wy ds=some ns->vs=ns.map V.int
 | [],_,_,ns,hq4,h=>by
  obtain⟨e,_⟩:=hq4;subst e;cases h;rfl
 | .int i::ds,_,_,ns,hq4,h=>by
  obtain⟨v,vs',L1,L2,e1,_,r1,r2⟩:=hq4;subst e1;have h:(wy ds).map (i::·)=some ns:=h;cases hi:wy ds with
  | none=>rw[hi]at h;cases h
  | some ms =>
   rw[hi]at h;cases h;rw[r1.1,uV r2 hi];rfl
 | .non::_,_,_,_,_,h=>by cases h
 | .bl _::_,_,_,_,_,h=>by cases h
 | .str _::_,_,_,_,_,h=>by cases h
 | .tup _::_,_,_,_,_,h=>by cases h
 | .lst _::_,_,_,_,_,h=>by cases h
 | .dic _ _::_,_,_,_,_,h=>by cases h
 | .frl _::_,_,_,_,_,h=>by cases h
 | .obj _ _ _::_,_,_,_,_,h=>by cases h
theorem qB:∀ {ns:List Int} {us:List Value},Vals (ns.map V.int) us->∃xs:List (Int×Tok),us=xs.map (fun p=>Value.int p.1 p.2)/\xs.map (·.1)=ns
 | [],us,r=>by cases r;exact⟨[],rfl,rfl⟩
 | n::ns,_,r=>by
  rw[tJ]at r;cases r with
  | cons r1 r2 =>
   obtain⟨t,rfl⟩:=r1;obtain⟨xs,rfl,e⟩:=qB r2;exact⟨(n,t)::xs,rfl,by simp[e]⟩
def wB:List D->R D
 | [.lst ds]=>match wy ds with
  | some ns=>.ok (.int ns.sum)
  | none=>.bad
 | _=>.bad
def qK:xh wB:=fun ds n h=>by
 unfold wB at h;split at h
 ·split at h<;>cases h
 ·cases h
def Jq (K:jJa):List V->Hp->VK->Prop:=fun xs H Q=>∃(p:Addr) (ns:List Int),xs=[.ref p]/\SqL K H p (ns.map V.int)/\Q (.int ns.sum) H
def kL (xs:List (Int×Tok)):preSum (numAt xs.toArray) xs.toArray.size=(xs.map (·.1)).sum:=by
 rw[preSum_eq,rA (by simp)]
def xx (hc:X.calm=true):CallR X (.builtin "sum") (Jq X.K):=by
 intro pins s σ H xs us Q I r h;obtain⟨p,ns,rfl,hs,q⟩:=h;obtain⟨u,rfl,ru⟩:=wH r;obtain rfl:u=Value.ref p:=ru;obtain⟨its,rv,pl,hz⟩:=I.list hs;obtain⟨ys,rfl,e⟩:=qB rv;have hl:s.heap.IsList p (intItems ys.toArray):=by
  have:=pl.isList
  simpa [intItems] using this
 refine sum_intListG (I.ok.hd hc) hl fun h' tk t' hk=>⟨.int ns.sum,H,I.kept hk,⟨t',?_⟩,q⟩
 rw[kL,e]
def je {K:jJa}:ClB K (Jq K) wB:=by
 rintro H xs ds L Q r ⟨d,hg,q⟩;unfold wB at hg;split at hg
 ·split at hg
  ·rename_i ds ns hn;cases hg;obtain⟨v,rfl,a,vs,L',rfl,ha,_,rs⟩:=xM r;exact⟨a,ns,rfl,by rw[<-uV rs hn];exact SqL.of ha,q _ H [] (Same.refl H) ⟨rfl,rfl⟩ (by simp) (fun a ha=>nomatch ha)⟩
  ·cases hg
 ·cases hg
def Zk:List D->R D
 | [.int i]=>.ok (.int i)
 | [.bl k]=>.ok (.int (if k then 1 else 0))
 | _=>.bad
def JK:xh Zk:=fun ds n h=>by
 rcases ds with _|⟨d,_|⟨_,_⟩⟩
 ·cases h
 ·cases d<;>cases h
 ·cases d<;>cases h
def JT {K:jJa}:ClB K (fun xs H Q=>(∃i,xs=[.int i]/\Q (.int i) H)\/∃k,xs=[.bl k]/\Q (.int (if k then 1 else 0)) H) Zk:=by
 rintro H xs ds L Q r ⟨d,hg,q⟩;rcases ds with _|⟨e,_|⟨_,_⟩⟩
 ·cases hg
 ·cases e with
  | int i =>
   cases hg;obtain⟨v,rfl,rfl,_⟩:=xM r;exact .inl ⟨_,rfl,q _ H [] (Same.refl H) ⟨rfl,rfl⟩ (by simp) (fun a ha=>nomatch ha)⟩
  | bl k =>
   cases hg;obtain⟨v,rfl,rfl,_⟩:=xM r;exact .inr ⟨_,rfl,q _ H [] (Same.refl H) ⟨rfl,rfl⟩ (by simp) (fun a ha=>nomatch ha)⟩
  | _=>cases hg
 ·cases e<;>cases hg
def wI:List D->R D
 | [.int i,.int j]=>.ok (.int (if j>i then j else i))
 | _=>.bad
def YA:xh wI:=fun ds n h=>by unfold wI at h;split at h<;>cases h
def YB {K:jJa}:ClB K (fun xs H Q=>∃i j,xs=[.int i,.int j]/\Q (.int (if j>i then j else i)) H) wI:=by
 rintro H xs ds L Q r ⟨d,hg,q⟩;unfold wI at hg;split at hg
 ·cases hg;obtain⟨v,v',L1,L2,rfl,_,⟨rfl,_⟩,⟨rfl,_⟩⟩:=Jw r;exact⟨_,_,rfl,q _ H [] (Same.refl H) ⟨rfl,rfl⟩ (by simp) (fun a ha=>nomatch ha)⟩
 ·cases hg
def yT:List D->R D
 | [.lst ds]=>if D.imms ds=true then .ok (.lst ds) else .bad
 | [.tup ds]=>if D.imms ds=true then .ok (.lst ds) else .bad
 | _=>.bad
def qm:xh yT:=fun ds n h=>by
 unfold yT at h;split at h
 ·split at h<;>cases h
 ·split at h<;>cases h
 ·cases h
def qp {K:jJa}:ClB K (fun xs H Q=>∃p ys,xs=[.ref p]/\(SqL K H p ys\/SqT K H p ys)/\∀l,H l=none->Q (.ref l) (upd H l (.lst ys))) yT:=by
 rintro H xs ds L Q r ⟨d,hg,q⟩;unfold yT at hg;split at hg
 ·split at hg
  ·rename_i hz;cases hg;obtain⟨v,rfl,a,vs,L',rfl,ha,_,rs⟩:=xM r;exact⟨a,vs,rfl,.inl (SqL.of ha),fun l hl=>wU (yp rs hz) hl q⟩
  ·cases hg
 ·split at hg
  ·rename_i hz;cases hg;obtain⟨v,rfl,a,vs,rfl,ha,rs⟩:=xM r;exact⟨a,vs,rfl,.inr ha,fun l hl=>wU (yp rs hz) hl q⟩
  ·cases hg
 ·cases hg
def j9:D->String
 | .non=>"NoneType"
 | .bl _=>"bool"
 | .int _=>"int"
 | .str _=>"str"
 | .tup _=>"tuple"
 | .lst _=>"list"
 | .frl _=>"list"
 | .dic _ _=>"dict"
 | .obj _ _ _=>"NoneType"
def D.isO:D->Bool
 | .obj _ _ _=>true
 | _=>false
def W2 (d:D):j9 d∈uP:=by cases d<;>simp[j9,uP]
def V4 (d:D)(T:String):Bool:=j9 d==T||(j9 d=="bool"&&T=="int")
def z1O (K:jJa):List V->Hp->VK->Prop:=fun xs H Q=>∃x T d L,xs=[x,.ty T]/\Rep K H d x L/\d.isO=false/\T∈(["int","bool","str","list","tuple","dict"]:List String)/\Q (.bl (V4 d T)) H
def UX {K:jJa}{d:D}{U:String}(hU:U∈(["int","bool","str","list","tuple","dict"]:List String)):jJg K (.type (j9 d)) (.type U)=some (V4 d U):=by
 have hT:=W2 d;unfold V4;simp only[tV,rH,or_false]at hU;rcases hU with rfl|rfl|hU
 ·rw[QL hT];simp
 ·rw[VB hT];have:(j9 d=="bool"&&("bool":String)=="int")=false:=by simp
  rw[this,Bool.or_false]
 ·rw[Ud hT (by simpa using hU)];have:(j9 d=="bool"&&U=="int")=false:=by
   rcases hU with rfl|rfl|rfl|rfl<;>simp
  rw[this,Bool.or_false]
def VT:CallR X (.builtin "isinstance") (z1O X.K):=by
 intro pins s σ H xs us Q I r h;obtain⟨x,T,d,L,rfl,rd,hO,hT,q⟩:=h;obtain⟨u,u2,rfl,rx,rT⟩:=Vu r;obtain rfl:u2=Value.type T:=rT;have hk:=UX (K:=X.K) (d:=d) hT;have fin:∀tk,EP X pins σ Q (.bool (V4 d T)) { s with toks:=tk }:=fun tk=>⟨.bl _,H,I.tok tk,rfl,q⟩
 cases d with
 | non=>obtain⟨rfl,_⟩:=rd;exact xT I rx .non hk fin
 | bl b=>obtain⟨rfl,_⟩:=rd;exact xT I rx (.bl b) hk fin
 | int b=>obtain⟨rfl,_⟩:=rd;exact xT I rx (.int b) hk fin
 | str b=>obtain⟨rfl,_⟩:=rd;exact xT I rx (.str b) hk fin
 | lst _=>obtain⟨a,_,_,rfl,e,_⟩:=rd;exact xT I rx (.lst e) hk fin
 | frl _ =>
  obtain⟨a,vs,rfl,ha,_⟩:=rd;obtain rfl:u=Value.ref a:=rx;obtain⟨its,_,⟨o,n,h1,h2,_⟩,_⟩:=I.list ha.sq;exact jJc jJo I.kIn ⟨o,h1,h2⟩ hk (fun z=>nomatch z) fin
 | dic _ _=>obtain⟨a,_,_,rfl,e,_⟩:=rd;exact xT I rx (.dK e) hk fin
 | tup _ =>
  obtain⟨a,vs,rfl,ha,_⟩:=rd;obtain rfl:u=Value.ref a:=rx;obtain⟨its,_,⟨o,h1,h2,_⟩,_⟩:=I.tuple ha;exact jJc jJt I.kIn ⟨o,h1,h2⟩ hk (fun z=>nomatch z) fin
 | obj _ _ _=>cases hO
end
section
variable {X:Cx}{E:XK}{Γ:List Cl}{e c':Expr}{t:Tn->R D}{c:Rc}{pos p:Pos}
def wD (T:String):D->R D
 | .obj _ _ _=>.bad
 | d=>.ok (.bl (V4 d T))
def uw {T:String}(hT:T∈(["int","bool","str","list","tuple","dict"]:List String))(hg:Gl X "isinstance")(hm:X.mg "isinstance"=none)(hc:PE X c' (tC (.ty T)))(he:ME X E Γ e t c)(hs:autoParam (starEach [e,c'] X.env=(false,eval e X.env)::starEach [c'] X.env) au3._auto_1)(hs2:autoParam (starEach [c'] X.env=(false,eval c' X.env)::starEach [] X.env) au3._auto_1)
  (hpl:autoParam ((backTo pos (starEach [c'] X.env)).any (·.1)=false) au3._auto_1):ME X E Γ (.Call (.Name "isinstance" p) [e,c'] [] pos) (eUn (wD T) t) .fresh:=by
 obtain⟨te,p',q⟩:=he;refine⟨_,Y5 (x:="isinstance") VT hg hm Boot.«isinstance» (wg p' (wg hc vX hs2) hs) (by decide) (by decide) hs hpl,fun O σ H τ Q ok h=>q O σ H τ _ ok (post.bind h fun d _ h v H1 L s1 r1 _=>?_)⟩;cases d<;>first|exact h.elim|exact⟨v,T,_,L,rfl,r1,rfl,hT,h _ H1 [] s1 ⟨rfl,rfl⟩ RcOk.nil⟩
end
def z0s (ks:List Key)(vs:List V):List (V×V):=(ks.zip vs).map fun kv=>(kV kv.1,kv.2)
def qT {kvs:List (Key×V)}{k:Key}{v:V}(h:k∉kvs.map (·.1)):xk kvs k v=kvs++[(k,v)]:=by
 unfold xk;rw[if_neg];intro z;rw[List.any_eq_true]at z;obtain⟨p,hp,e⟩:=z;exact h (rF.mpr ⟨p,hp,by simpa using e⟩)
theorem qX:∀(more kvs:List (Key×V)),((kvs++more).map (·.1)).Nodup->x5 kvs more=kvs++more
 | [],kvs,_=>by simp[x5]
 | p::r,kvs,h=>by
  have hp:p.1∉kvs.map (·.1):=by
   rw[sL,tJ]at h;obtain⟨_,_,h3⟩:=sF.mp h;exact fun z=>h3 p.1 z p.1 tF rfl
  show x5 (xk kvs p.1 p.2) r=_;rw[qT hp,qX r _ (by rw[tO];exact h),tO]
  rfl
theorem kP:∀(ks:List Key) (vs:List V),vs.length=ks.length->(ks.zip vs).map (·.1)=ks
 | [],_,_=>rfl
 | k::ks,[],h=>by cases h
 | k::ks,v::vs,h=>by rw[List.zip_cons_cons,tJ,kP ks vs (by simpa using h)]
theorem Xz:∀(ks:List Key) (vs:List V),vs.length=ks.length->(ks.zip vs).map (·.2)=vs
 | [],[],_=>rfl
 | [],_::_,h=>by cases h
 | k::ks,[],h=>by cases h
 | k::ks,v::vs,h=>by rw[List.zip_cons_cons,tJ,Xz ks vs (by simpa using h)]
section
variable {X:Cx}{E:XK}{Γ:List Cl}{e k v:Expr}{t:Tn->R D}{u:Tn->R (List D)}{c ca cb:Rc}{pos p:Pos}{ks:List Key}{keys:List (Option Expr)}{values:List Expr}
def MPs (X:Cx)(E:XK)(Γ:List Cl)(pos:Pos)(keys:List (Option Expr))(values:List Expr)(ks:List Key)(t:Tn->R (List D))(c:Rc):Prop:=
 (∀τ ds,t τ=.ok ds->ds.length=ks.length)/\∃trs,PPs X pos keys values trs/\∀O σ H τ (Q:List (V×V)->Hp->Prop),EOk X.K Γ O H σ τ->postL X.K E O c H (fun vs H'=>Q (z0s ks vs) H') (t τ)->Za trs σ H Q
def UZ:MPs X E Γ pos [] [] [] ze .fresh:=⟨fun τ ds h=>by cases h;rfl,[],Qa,fun O σ H τ Q ok h=>h [] H [] (Same.refl H) Reps.nil RcOk.nil⟩
def xV {key:Key}(hk:PE X k (tC (kV key)))(h:ME X E Γ v t ca)(r:MPs X E Γ pos keys values ks u cb):MPs X E Γ pos (some k::keys) (v::values) (key::ks) (za t u) (Rc.both ca cb):=by
 obtain⟨te,p1,q1⟩:=h;obtain⟨hl,trs,p2,q2⟩:=r;refine⟨fun τ ds h=>?_,_,WI hk p1 p2,fun O σ H τ Q ok h=>?_⟩
 ·unfold za at h;obtain⟨d,h1,h⟩:=wV h;obtain⟨xs,h2,h⟩:=wV h;cases h;rw[tL,tL,hl τ xs h2]
 ·unfold za at h;refine q1 O σ H τ _ ok ?_;cases h1:t τ with
  | ok d =>
   rw[h1,jYa]at h;refine fun v H1 L1 s1 r1 k1=>q2 O σ H1 τ _ (ok.same s1) ?_;cases h2:u τ with
   | ok xs =>
    rw[h2,jYa]at h;exact fun vs H2 L2 s2 r2 k2=>h (v::vs) H2 (L1++L2) (s1.trans s2) (Reps.cons (r1.same s2) r2) (RcOk.append ok.dom s1 r1 k1 k2)
   | err n=>rw[h2]at h;exact fun C H' e s'=>h C H' e (s1.trans s')
   | bad=>rw[h2]at h;exact h
  | err n=>rw[h1]at h;exact h
  | bad=>rw[h1]at h;exact h
def Ut (h:MPs X E Γ pos keys values ks u c)(hc:c≠.bor)(hnd:autoParam (ks.Nodup) au1._auto_1)(hlk:autoParam (ks.length<=15) au1._auto_1)(hall:autoParam (keys.all (·.isSome)=true) au3._auto_1)(hl:autoParam (keys.length=values.length) au3._auto_1)(h0:autoParam (keys≠[]) au5._auto_1)(h15:autoParam (keys.length<=15) au1._auto_1):
  ME X E Γ (.Dict keys values pos) (eL (fun ds=>.ok (.dic ks ds)) u) c:=by
 obtain⟨hlen,trs,p,q⟩:=h;refine⟨_,Us p hall hl h0 h15,fun O σ H τ Q ok h dd hd=>?_⟩;have s0:Same H (upd H dd (.dK [])):=Same.new hd;have okO:EOk X.K Γ (fun a=>O a\/a=dd) (upd H dd (.dK [])) σ τ:=by
  refine⟨fun a ha=>?_,fun j k e hk=>?_⟩
  ·rcases ha with ha|ha
   ·exact (ok.same s0).dom a ha
   ·rw[ha,zE];simp
  ·obtain⟨v,d,L0,a1,a2,a3,a4⟩:=ok.slot j k e hk;refine⟨v,d,L0,a1,a2,a3.same s0,fun z a ha hm=>?_⟩;rcases hm with hm|hm
   ·exact a4 z a ha hm
   ·exact a3.there ha (hm▸hd)
 refine q _ σ _ τ _ okO ?_;unfold eL at h;cases hu:u τ with
 | err n=>rw[hu]at h;exact fun C H' e s'=>h C H' e (s0.trans s')
 | bad=>rw[hu]at h;exact h
 | ok ds =>
  rw[hu,jYa]at h;refine fun vs H2 L s2 r k2=>?_;have hD2:H2 dd=some (.dK []):=s2 _ _ zE;have hv:vs.length=ks.length:=by rw[r.length,hlen τ ds hu]
  have nD:dd∉L:=fun hm=>by
   cases c with
   | fresh=>have:=k2.2 dd hm;rw[zE]at this;cases this
   | shr=>exact k2 dd hm (.inr rfl)
   | bor=>exact hc rfl
  refine⟨hD2,ks.zip vs,rfl,by rw[List.length_zip];lia,?_⟩;have em:x5 [] (ks.zip vs)=ks.zip vs:=by
   have:=qX (ks.zip vs) [] (by rw[tU,kP ks vs hv];exact hnd);rw[this];rfl
  rw[em];have mu:(∃vs,H2 dd=some (.lst vs))\/∃kvs,H2 dd=some (.dK kvs):=.inr ⟨_,hD2⟩;refine h (.ref dd) _ (dd::L) ?_ ⟨dd,ks.zip vs,L,rfl,zE,rfl,kP ks vs hv,hnd,?_⟩ ?_
  ·exact Same.upd_of (H1:=H) hd (s0.trans s2)
  ·rw[Xz ks vs hv];exact r.upd mu nD
  ·cases c with
   | fresh =>
    refine⟨sI.mpr ⟨nD,k2.1⟩,fun a ha=>?_⟩;rcases tV.mp ha with z|z
    ·rw[z];exact hd
    ·exact s0.non (k2.2 a z)
   | shr =>
    intro a ha;rcases tV.mp ha with z|z
    ·rw[z];exact fun w=>ok.dom dd w hd
    ·exact fun w=>k2 a z (.inl w)
   | bor=>exact absurd rfl hc
def Vn:List D->R D
 | [.dic ks ds]=>if D.imms ds=true then .ok (.dic ks ds) else .bad
 | _=>.bad
def Z1:List V->Hp->VK->Prop:=fun xs H Q=>∃a kvs,xs=[.ref a]/\Rd H a (.dK kvs)/\∀l,H l=none->Q (.ref l) (upd H l (.dK kvs))
def YO:CallR X (.type "dict") Z1:=by
 intro pins s σ H xs us Q I r h;obtain⟨a,kvs,rfl,hr,q⟩:=h;obtain⟨u,rfl,ru⟩:=wH r;obtain rfl:u=Value.ref a:=ru;obtain⟨z,hd,vs,rel,dd⟩:=vK I.hok hr;refine kt_call_dict hd dd (by rw[<-rel.length];exact z) fun h' hm hs=>?_;have hk:∀b o,s.heap.get? b=some o->h'.get? b=some o:=fun b o e=>(hs.2 b (sX (jYc e))).trans (jYb _ e);have hsz:s.heap.objs.size<=s.heap.objs.size:=tM _;refine⟨.ref s.heap.objs.size,_,I.laid (o:=.dK kvs) (t':=s.toks) hk hsz ?_,rfl,q _ (I.hok.fresh hsz)⟩;refine⟨z,?_,vs,rel,hm⟩;exact beq_eq_false_iff_ne.mpr (Ne.symm (sX I.big))
def J1 {K:jJa}:ClB K Z1 Vn:=by
 rintro H xs ds L Q r ⟨d,hg,q⟩;unfold Vn at hg;split at hg
 ·split at hg
  ·rename_i hz;cases hg;obtain⟨v,rfl,a,kvs,L',rfl,ha,_,hk,hn,rs⟩:=xM r;refine⟨a,kvs,rfl,.inl ha,fun l hl=>q _ _ [l] (Same.new hl) ⟨l,kvs,[],rfl,zE,rfl,hk,hn,(yp rs hz).same (Same.new hl)⟩ (by simp) (fun b hb=>by rw[rE.mp hb];exact hl)⟩
  ·cases hg
 ·cases hg
end
theorem Room.u12 {k:Nat}{A:Around}(r:Room k A):A.units+12<cLine:=by have:=r.un;lia
theorem Room.u1 {k:Nat}{A:Around}(r:Room k A):A.units+1<cLine:=by have:=r.un;lia
def kJ (outer:Scope)(N N':List Str)(fr:List (Option Nat))(scope:Scope):Bool:=
 decide (scope.kind=.function)&&scope.names.all (fun y=>decide (y.2≠.cell))&&scope.names.all (fun y=>decide (y.2≠.local)||decide (scope.names.lookup y.1=some .local)) &&
 scope.names.all (fun y=>decide (y.2≠.free)||decide (outer.names.lookup y.1=some .cell)||decide (outer.names.lookup y.1=some .free))&&decide (fr.length=N'.length) &&
 (List.range fr.length).all fun j=>match fr[j]?,N'[j]? with
  | some (some i),some x=>decide (N[i]?=some x)&&decide (scope.names.lookup x=some .free)&&(decide (outer.names.lookup x=some .cell)||decide (outer.names.lookup x=some .free))
  | _,_=>true
def YX {X:Cx}{N':List Str}{fr:List (Option Nat)}{scope:Scope}(hc:∀x,(X.env.scope.names.lookup x=some .cell\/X.env.scope.names.lookup x=some .free)->∃c,X.env.cells.lookup x=some c)(h:kJ X.env.scope X.N N' fr scope=true):CompScope X N' fr scope:=by
 unfold kJ at h;simp only[sY,decide_eq_true_eq,rZ,Bool.or_eq_true]at h;obtain⟨⟨⟨⟨⟨h1,h2⟩,h3⟩,h4⟩,h5⟩,h6⟩:=h;refine⟨h1,h2,fun y hy e=>?_,fun y hy e=>?_,h5,fun j i x e1 e2=>?_⟩
 ·rcases h3 y hy with z|z
  ·exact absurd e z
  ·exact z
 ·rcases h4 y hy with (z|z)|z
  ·exact absurd e z
  ·exact hc y.1 (.inl z)
  ·exact hc y.1 (.inr z)
 ·have hj:j<fr.length:=(tT.mp e1).1;have:=h6 j (pH.mpr hj);rw[e1,e2]at this;simp only[sY,decide_eq_true_eq,Bool.or_eq_true]at this;exact⟨this.1.1,this.1.2,this.2⟩
def yZ {CX:CXT}{P:Program}{w:World}{K:jJa}{mg:Str->Option Value}{base:Heap}{N:List Str}{qual:Str}{sc:Scope}{f:Addr}{cd:Value}{A:Around}{outer:List Env}{s:Shared}{H:Hp}{E:XK}{N':List Str}{fr:List (Option Nat)}{scope:Scope}
  (nf:∀y∈sc.names,y.2≠.free) (h:kJ sc N N' fr scope=true):CompScope (uW CX P w K mg base N qual sc f cd A outer s H E) N' fr scope:=
 YX (X:=uW CX P w K mg base N qual sc f cd A outer s H E) (fun x hx=>by
  rcases hx with hx|hx
  ·exact qY hx
  ·exact absurd rfl (nf _ (PySem.mem_of_lookup hx))) h
section
variable {X:Cx}{E:XK}{Γ Γ1 Γ' Γl:List Cl}{e:Expr}{t:Tn->R D}{c:Rc}{pos pos':Pos}
def MGs (X:Cx)(es:List Expr)(is:List Nat):Prop:=∃g,PGs X es g/\∀(vs:List V) (σ:St) (H:Hp) (Q:St->Hp->Prop),vs.length=is.length->Q (yC σ is vs) H->g vs σ H Q
def vB:MGs X [] []:=⟨z1l,UE,fun vs σ H Q hl q=>by
 have:vs=[]:=List.length_eq_zero_iff.mp hl;subst this;exact⟨rfl,q⟩⟩
def yk {x:Expr}{es:List Expr}{i:Nat}{is:List Nat}(h:PG X x (jr i))(r:MGs X es is)(hs:autoParam ((assignEach (x::es) X.env).map (·.2)=assign x X.env::(assignEach es X.env).map (·.2)) au3._auto_1):MGs X (x::es) (i::is):=by
 obtain⟨g,p,q⟩:=r;refine⟨_,U8 h p hs,fun vs σ H Q hl k=>?_⟩;cases vs with
 | nil=>cases hl
 | cons v vs=>exact⟨v,vs,rfl,q vs _ H Q (by simpa using hl) k⟩
def vC {es:List Expr}{k:Nat}{is:List Nat}(hc:X.calm=true)(h:MGs X es is)(hn:autoParam ((assignEach es X.env).length=is.length) au3._auto_1)(hst:autoParam ((assignEach es X.env).findIdx? (·.1)=none) au3._auto_1):MG X (.Tuple es k pos) (.many is):=by
 obtain⟨g,p,q⟩:=h;exact⟨g,K2 hc p hn hst,q⟩
def zO {i:Nat}{x:Expr}(h:PG X x (jr i)):MG X x (.one i):=h
def Z9 (g:Tgt)(t:Tn->R D):Tn->R Fl:=fun τ=>(t τ).bind fun d=>(g.asg d τ).bind fun τ1=>.ok (.nx τ1)
def Ui {tg:Expr}{g:Tgt}(h:ME X E Γ e t c)(hc:c≠.bor)(hg:MG X tg g)(hn:∀i∈g.slots,i<Γ.length)(hs:autoParam (swapsWithSole [tg] e pos.line X.env=pure false) au3._auto_1)(hw:autoParam (swappedStores [tg] e X.env=pure none) au3._auto_1)
  (h1:autoParam ((assignEach [tg] X.env).map (·.2)=[assign tg X.env]) au3._auto_1):MS X E Γl Γ (.Assign [tg] e pos) (Z9 g t) (shrAll Γ g.slots):=by
 obtain⟨te,p,q⟩:=h;refine⟨_,U3 p hg.pg hs hw h1,fun B σ H τ Z ok h=>?_⟩;obtain⟨O,eo,Od,hB⟩:=ok.base;refine q O σ H τ _ eo ?_;unfold Z9 at h;cases ht:t τ with
 | ok d =>
  rw[ht,jYa]at h;refine fun v H' L s r k=>?_;obtain⟨B1,sB,ok1,hB1⟩:=hB H' s;have hL:∀a∈L,B1 a≠none:=fun a ha=>by rw[hB1 a (k.shr eo.dom hc a ha)];exact r.there ha
  cases ha:g.asg d τ with
  | ok τ1 =>
   rw[ha,jYa]at h;exact V7 ok1 r hL hn ha fun σ1 ok2=>h σ1 H' (ok2.rebase sB)
  | err n =>
   cases g with
   | one i=>cases ha
   | many is =>
    unfold Tgt.asg at ha;split at ha
    ·cases ha
    ·split at ha<;>cases ha
    ·cases ha
  | bad=>rw[ha]at h;exact h.elim
 | err n=>rw[ht]at h;exact fun C H' e s=>h C H' e (ok.ext.trans s)
 | bad=>rw[ht]at h;exact h
def uM (i:Nat)(g:D->D->R D)(t:Tn->R D):Tn->R Fl:=fun τ=>(zb i τ).bind fun x=>(t τ).bind fun y=>(g x y).bind fun z=>.ok (.nx (τ.set i (some z)))
def KW {i:Nat}{x:Str}{op:Operator}{r:R2}{g:D->D->R D}{k:Cl}(hN:X.N.Nodup)(hi:X.N[i]?=some x)(hk:Γ[i]?=some k)(hkd:k≠.dead)(hB:OpB X.K r g)(hn:w6 g)(ho:PIp X op r)(h:ME X E Γ e t c)(hx:Loc X.env.scope x)
  (hf:autoParam (X.fn x=true\/X.env.scope.names.lookup x=some .local) au0._auto_1):MS X E Γl Γ (.AugAssign (.Name x pos') op e pos) (uM i g t) (Γ.set i .own):=by
 obtain⟨te,p,q⟩:=h;refine⟨_,KL hN hi hx p ho hf,fun B σ H τ Z ok h=>?_⟩;obtain⟨O,eo,_⟩:=ok.eok;obtain⟨v,d,L,e1,e2,e3,_⟩:=eo.slot i k hk hkd;refine⟨v,e1,q O σ H τ _ eo ?_⟩;unfold uM at h;have ev:zb i τ=.ok d:=by unfold zb;rw[e2]
 rw[ev,jYa]at h;have hl:i<Γ.length:=(tT.mp hk).1;cases ht:t τ with
 | ok dy =>
  rw[ht,jYa]at h;refine fun y H1 Ly s1 ry _=>?_;cases hg:g d dy with
  | ok dz =>
   rw[hg,jYa]at h;refine hB H1 v y d dy L Ly _ (e3.same s1) ry ⟨dz,hg,fun z H2 L2 s2 rz n1 n2=>h _ _ ?_⟩;have ok2:=(ok.same s1).aside s2 (fun a ha=>rz.there ha) n1 n2;exact SOk.into (T:=[]) ok2 rz hl
  | err n=>exact absurd hg (hn _ _ _)
  | bad=>rw[hg]at h;exact h.elim
 | err n=>rw[ht]at h;exact fun C H' e s=>h C H' e (ok.ext.trans s)
 | bad=>rw[ht]at h;exact h
theorem PIp.or {op:Operator}{r r':R2}(h:PIp X op r)(h':PIp X op r'):PIp X op (fun x y H Q=>r x y H Q\/r' x y H Q):=by
 intro pins s σ H x y v u Q I r1 r2 z;rcases z with z|z
 ·exact h pins s σ H x y v u Q I r1 r2 z
 ·exact h' pins s σ H x y v u Q I r1 r2 z
def vd:D->D->R D
 | .int i,.int j=>.ok (.int (i+j))
 | .str x,.str y=>if x.length+y.length<=sizeLine then .ok (.str (x++y)) else .bad
 | _,_=>.bad
def kG:w6 vd:=fun x y n h=>by
 unfold vd at h;split at h
 ·cases h
 ·split at h<;>cases h
 ·cases h
def jo:PIp X .Add (fun x y H Q=>ipI (fun i j=>i+j) x y H Q\/∃i j,x=.str i/\y=.str j/\i.length+j.length<=sizeLine/\Q (.str (i++j)) H):=PIp.or Kl fun pins s σ H x y v u Q I r1 r2 z=>Yd pins s σ H x y v u Q I r1 r2 z
def kN {K:jJa}:OpB K (fun x y H Q=>ipI (fun i j=>i+j) x y H Q\/∃i j,x=.str i/\y=.str j/\i.length+j.length<=sizeLine/\Q (.str (i++j)) H) vd:=by
 rintro H x y dx dy Lx Ly Q rx ry ⟨d,hg,q⟩;unfold vd at hg;split at hg
 ·cases hg;exact .inl ⟨_,_,rx.1,ry.1,q _ H [] (Same.refl H) ⟨rfl,rfl⟩ (by simp) (fun a ha=>nomatch ha)⟩
 ·split at hg
  ·rename_i hz;cases hg;exact .inr ⟨_,_,rx.1,ry.1,hz,q _ H [] (Same.refl H) ⟨rfl,rfl⟩ (by simp) (fun a ha=>nomatch ha)⟩
  ·cases hg
 ·cases hg
structure Bl (mg:Str->Option Value):Prop where
 isinstance:mg "isinstance"=none
 int:mg "int"=none
 bool:mg "bool"=none
 str:mg "str"=none
 dict:mg "dict"=none
 list:mg "list"=none
 tuple:mg "tuple"=none
 len:mg "len"=none
 sum:mg "sum"=none
 max:mg "max"=none
 min:mg "min"=none
 all:mg "all"=none
 range:mg "range"=none
 enumerate:mg "enumerate"=none
 zip:mg "zip"=none
end
section
variable {X:Cx}{E:XK}{Γ Γ1 Γ' Γl:List Cl}{e:Expr}{t:Tn->R D}{c:Rc}{pos pos':Pos}
def mn (i:Nat)(k:Cl){x:Str}(hN:autoParam (X.N[i]?=some x) au3._auto_1)(hk:autoParam (Γ[i]?=some k) au3._auto_1)(hd:autoParam (k≠.dead) au1._auto_1)(hv:autoParam (Vis X.env.scope x) au6._auto_1)(hb:autoParam ((x==("__debug__":Str))=false) au1._auto_1)(hcd:autoParam ((x==("__classdict__":Str))=false) au1._auto_1):
  ME X E Γ (.Name x pos) (zb i) (Rc.of k):=Uq hN hk hd hv hb hcd
def mvn (i:Nat){x:Str}(hN:autoParam (X.N[i]?=some x) au3._auto_1)(hk:autoParam (Γ[i]?=some .own) au3._auto_1)(hv:autoParam (Vis X.env.scope x) au6._auto_1)(hb:autoParam ((x==("__debug__":Str))=false) au1._auto_1)(hcd:autoParam ((x==("__classdict__":Str))=false) au1._auto_1):
  MV X E Γ (.Name x pos) (zb i) (Γ.set i .dead):=UR hN hk hv hb hcd
def st (i:Nat){x:Str}(nd:X.N.Nodup)(h:MV X E Γ e t Γ1)(hi:autoParam (X.N[i]?=some x) au3._auto_1)(hl:autoParam (i<Γ1.length) au1._auto_1)(hx:autoParam (Loc X.env.scope x) au7._auto_1)(hs:autoParam (swapsWith e (some (.Name x pos')) pos.line X.env=pure false) au3._auto_1)(hf:autoParam (X.fn x=true\/X.env.scope.names.lookup x=some .local) au0._auto_1):
  MS X E Γl Γ (.Assign [.Name x pos'] e pos) (zl i t) (Γ1.set i .own):=Kh nd hi hl h hx hs hf
def stS (i:Nat){x:Str}(nd:X.N.Nodup)(h:ME X E Γ e t c)(hc:autoParam (c≠.bor) au1._auto_1)(hi:autoParam (X.N[i]?=some x) au3._auto_1)(hl:autoParam (i<Γ.length) au1._auto_1)(hx:autoParam (Loc X.env.scope x) au7._auto_1)(hs:autoParam (swapsWith e (some (.Name x pos')) pos.line X.env=pure false) au3._auto_1)(hf:autoParam (X.fn x=true\/X.env.scope.names.lookup x=some .local) au0._auto_1):
  MS X E Γl Γ (.Assign [.Name x pos'] e pos) (zl i t) (Γ.set i .shr):=UI nd hi hl h hc hx hs hf
def pgn (i:Nat){x:Str}(nd:X.N.Nodup)(hi:autoParam (X.N[i]?=some x) au3._auto_1)(hx:autoParam (Loc X.env.scope x) au7._auto_1)(hf:autoParam (X.fn x=true\/X.env.scope.names.lookup x=some .local) au0._auto_1):PG X (.Name x pos) (jr i):=QK nd hi hx hf
def app (i:Nat){x:Str}{p0 p1 p2:Pos}(h:MV X E Γ e t Γ1)(hN:autoParam (X.N[i]?=some x) au3._auto_1)(h0:autoParam (Γ[i]?=some .own) au3._auto_1)(hk:autoParam (Γ1[i]?=some .own) au3._auto_1)(hv:autoParam (Vis X.env.scope x) au6._auto_1)(hb:autoParam ((x==("__debug__":Str))=false) au1._auto_1)(hcd:autoParam ((x==("__classdict__":Str))=false) au1._auto_1)
  (hbase:autoParam (attributeBase (.Name x p0) "append" X.env (eval (.Name x p0) X.env)=eval (.Name x p0) X.env) au3._auto_1)
  (hfew:autoParam (((backTo p2 (starEach [e] X.env)).all (fun x=>!x.1)&&(backToKw p2 (keywordEach [] X.env)).all (fun x=>x.1.isSome)&&decide ([e].length+([]:List Keyword).length+(if ([]:List Keyword).isEmpty then 0 else 1)<30))=true) au3._auto_1)
  (hline:autoParam ((p1.endLine==p2.line)=true) au3._auto_1) (hs:autoParam (starEach [e] X.env=(false,eval e X.env)::starEach [] X.env) au3._auto_1) (hplain:autoParam ((backTo p2 (starEach [] X.env)).any (·.1)=false) au3._auto_1)
  (hsw:autoParam (swapsWith (.Call (.Attribute (.Name x p0) "append" p1) [e] [] p2) none pos.line X.env=pure false) au3._auto_1):
  MS X E Γl Γ (.Expr (.Call (.Attribute (.Name x p0) "append" p1) [e] [] p2) pos) (xH i t) Γ1:=Wo hN h0 h hk hv hb hcd hbase hfew hline hs hplain hsw
def put (i:Nat){x:Str}{p0 p1:Pos}{ix:Expr}{ti:Tn->R D}(h:MV X E Γ e t Γ1)(hi:ME X E Γ1 ix ti c)(hN:autoParam (X.N[i]?=some x) au3._auto_1)(hk:autoParam (Γ1[i]?=some .own) au3._auto_1)(hv:autoParam (Vis X.env.scope x) au6._auto_1)(hb:autoParam ((x==("__debug__":Str))=false) au1._auto_1)(hcd:autoParam ((x==("__classdict__":Str))=false) au1._auto_1)
  (ha:autoParam (∀v,assign (.Subscript (.Name x p0) ix p1) X.env v=(do
   let ov <-holding [v] (eval (.Name x p0) X.env)
   let iv <-holding [v,ov] (eval ix X.env)
   standAt p1
   holding [v,ov,iv] (setItem ov iv v)
   release [v,ov,iv] [])) au2._auto_1)
  (hs:autoParam (swapsWithSole [.Subscript (.Name x p0) ix p1] e pos.line X.env=pure false) au3._auto_1) (hw:autoParam (swappedStores [.Subscript (.Name x p0) ix p1] e X.env=pure none) au3._auto_1)
  (h1:autoParam ((assignEach [.Subscript (.Name x p0) ix p1] X.env).map (·.2)=[assign (.Subscript (.Name x p0) ix p1) X.env]) au3._auto_1):
  MS X E Γl Γ (.Assign [.Subscript (.Name x p0) ix p1] e pos) (KC i t ti) Γ1:=JR hN h hi hk hv hb hcd ha hs hw h1
def aug (i:Nat)(k:Cl){x:Str}{op:Operator}{r:R2}{g:D->D->R D}(nd:X.N.Nodup)(hB:OpB X.K r g)(hn:w6 g)(ho:PIp X op r)(h:ME X E Γ e t c)(hi:autoParam (X.N[i]?=some x) au3._auto_1)(hk:autoParam (Γ[i]?=some k) au3._auto_1)(hkd:autoParam (k≠.dead) au1._auto_1)(hx:autoParam (Loc X.env.scope x) au7._auto_1)
  (hf:autoParam (X.fn x=true\/X.env.scope.names.lookup x=some .local) au0._auto_1):MS X E Γl Γ (.AugAssign (.Name x pos') op e pos) (uM i g t) (Γ.set i .own):=KW nd hi hk hkd hB hn ho h hx hf
end
section
variable {P:Program}{w:World}{K:jJa}{mg:Str->Option Value}{base:Heap}{x:Str}{st:Stmt}{N ps:List Str}{k:Nat}{t:Tn->R Fl}{Γ':List Cl}
def Kr {f:Addr}{oc:Value}{od an:Option Addr}{osl:Array (Option Value)}{kV doc pm cdv ct:Value}(lk:K.lookup f=some ⟨oc,od,.func (jJb x x (defArgs st) (defBody st) (defScope st) .none kV doc pm an cdv ct),osl⟩)(hcd:jJf K cdv x=true)
  (S:FnScope N ps (defScope st)) (hn:ps.length<=N.length)
  (hbody:∀(f:Addr) (cdv:Value) (A:Around) (outer:List Env) (s:Shared) (H:Hp) (E:XK),Room k (A.deeper (envOfC x (defScope st) s.heap.objs.size f cdv)) ->
   MSs (uW (cxx P w) P w K mg base N x (defScope st) f cdv A outer s H E) E [] (Z0 N.length ps.length) (defBody st) t Γ'):
  FnOk P w K mg base (cxx P w) (k+1) f (jJb x x (defArgs st) (defBody st) (defScope st) .none kV doc pm an cdv ct) ps (spM K (zF N.length t) ps.length):=by
 refine Jg lk hcd S (fun vs H Q E h=>h.1) fun A outer s H vs Q E hr h=>?_;obtain⟨hl,ds,L,r,h⟩:=h;obtain⟨ts,p,q⟩:=hbody f cdv A outer s H E hr;refine⟨ts,p,q H (start N vs) H _ _ (hl▸SOk.start r (by lia)) ?_⟩;unfold zF at h;cases ht:t (ds.map some++List.replicate (N.length-ds.length) none)with
 | ok f =>
  rw[ht]at h;cases f with
  | nx τ'=>exact fun σ' H' ok'=>h .non H' [] ok'.ext ⟨rfl,rfl⟩ RcOk.nil
  | rt d=>exact fun v H' L s r n1 n2=>h v H' L s r ⟨n1,n2⟩
  | bk τ'=>exact h.elim
  | ct τ'=>exact h.elim
 | err n=>rw[ht]at h;exact fun C H' e s=>h C H' e s
 | bad=>rw[ht]at h;exact h.elim
end
theorem jU:∀ns:List Int,D.imms (ns.map D.int)=true
 | []=>rfl
 | n::ns=>by rw[tJ];show (true&&D.imms (ns.map D.int))=true;rw[jU ns];rfl
theorem jW {K:jJa}{H:Hp}:∀ns:List Int,Reps K H (ns.map D.int) (ns.map V.int) []
 | []=>Reps.nil
 | n::ns=>Reps.cons (L1:=[]) ⟨rfl,rfl⟩ (jW ns)
def UL {K:jJa}{H:Hp}{a:Addr}{ns:List Int}{F:List D->R D}(hO:Qe H)(hS:SqL K H a (ns.map V.int))(hF:F [.frl (ns.map D.int)]=.ok (.bl true)):spM K F 1 [.ref a] H (fun v _=>v=.bl true) fun _ _ _=>False:=by
 have hs:SqF K H a (ns.map V.int):=by
  rcases hS with (z|z)|z
  ·rcases hO a with w|⟨o,xs,w⟩
   ·rw[w]at z;cases z
   ·rw[w]at z;cases z
  ·exact .inl z
  ·exact .inr z
 refine⟨rfl,[.frl (ns.map D.int)],[],Reps.cons (L1:=[]) ⟨a,ns.map V.int,rfl,hs,rfl,jU ns,jW ns⟩ Reps.nil,?_⟩;rw[hF];exact fun v H' L s r _=>r.1
def law_walk {Fm:List D->R D}{k:Nat}{x:Str}{l:PySem.W.OpenLaw}{q:Program}{loose:List Str}{XP:(Str->Option Value)->Heap->Prop}{YP:World->Heap->Prop}{d:DefRec}{K:Params->jJa}(hF:∀ns:List Int,ns.length<=63->Fm [.frl (ns.map D.int)]=.ok (.bl true))(hr:Room k callerA)(hn:l.most=some 63)(hdf:d.params.defaults=[])
  (hY:∀(w:World) (h:Heap),YP w h->(K w.params).In h)
  (F:∀(w:World) (mg:Str->Option Value) (fa:Addr) (h:Heap),(K w.params).In h->h.Ns mainGlobals mg->mg d.name=some (.ref fa) ->
   ∃fd:FuncData,(∀(s:Shared) (u:Value),BindsTo s fd ⟨[u],[]⟩ [(x,u)])/\∀base:Heap,(K w.params).In base->base.Ns mainGlobals mg->FnOk l.prog w (K w.params) mg base (cxx l.prog w) k fa fd [x] (spM (K w.params) Fm 1)):
  PySem.W.WalkO q loose XP YP l.row.toRowW d [] (fun f vs=>PySem.call f vs):=
 L2.walk_of (n:=63) (k:=k) (x:=x) (CX:=fun w=>cxx l.prog w) (sp:=fun w=>spM (K w.params) Fm 1) hn (by decide) hdf hr hY F (fun w H a ns hl hO hS=>UL hO hS (hF ns hl)) fun w H s e s' z=>Kj z
section
variable {i j:Int}{C:Int->Int->Bool}{g:Int->Int->D}
def yH:zw (.int i) (.int j)=.ok (.int (i+j)):=rfl
def Uj:L2.intD C g (.int i) (.int j)=if C i j=true then .ok (g i j) else .bad:=rfl
def UJ (h1:-(2 ^ 64)<j)(h2:j<2 ^ 64):wb (.int i) (.int j)=.ok (.int (i*j)):=by
 have:((decide (-(2 ^ 64)<i)&&decide (i<2 ^ 64))||(decide (-(2 ^ 64)<j)&&decide (j<2 ^ 64)))=true:=by rw[decide_eq_true h1,decide_eq_true h2];simp
 exact if_pos this
def Qv (h1:-(2 ^ 64)<i)(h2:i<2 ^ 64):wb (.int i) (.int j)=.ok (.int (i*j)):=by
 have:((decide (-(2 ^ 64)<i)&&decide (i<2 ^ 64))||(decide (-(2 ^ 64)<j)&&decide (j<2 ^ 64)))=true:=by rw[decide_eq_true h1,decide_eq_true h2];simp
 exact if_pos this
def X7 (h1:-18446744073709551616<j)(h2:j<18446744073709551616):wb (.int i) (.int j)=.ok (.int (i*j)):=UJ (by lia) (by lia)
def km (h1:-18446744073709551616<i)(h2:i<18446744073709551616):wb (.int i) (.int j)=.ok (.int (i*j)):=Qv (by lia) (by lia)
def wQ (h1:0<j)(h2:j<1073741824):yL (.int i) (.int j)=.ok (.int (i/j)):=by
 simp[yL,Uj,h1,h2]
def KY (h1:0<j):ym (.int i) (.int j)=.ok (.int (i%j)):=by
 simp[ym,Uj,h1]
def Ys {neg:Bool}:eqR neg (.int i) (.int j)=.ok (.bl (if neg=true then !(i==j) else i==j)):=by
 cases neg<;>rfl
def UU {neg:Bool}:eqR neg (.int i) .non=.ok (.bl (if neg=true then !false else false)):=by
 cases neg<;>rfl
end
def Vg {α:Type}{xs:List α}{i:Int}{x:α}(h0:0<=i)(h:xs[i.toNat]?=some x):atI xs i=some x:=by
 have hj:i.toNat<xs.length:=(tT.mp h).1;have:=xS h;rw[Int.toNat_of_nonneg h0]at this;exact this
def YI {ds:List D}{i:Int}{d:D}(h:atI ds i=some d):ixD (.lst ds) (.int i)=.ok d:=by show (match atI ds i with|some d=>R.ok d|none=>R.bad)=_;rw[h]
def z05 {ds:List D}{i:Int}{d:D}(h:atI ds i=some d):ixD (.frl ds) (.int i)=.ok d:=by show (match atI ds i with|some d=>R.ok d|none=>R.bad)=_;rw[h]
def wu {a:D}{ds:List D}:ixD (.tup (a::ds)) (.int 0)=.ok a:=by
 have:atI (a::ds) 0=some a:=xS (j:=0) rfl;show (match atI (a::ds) 0 with|some d=>R.ok d|none=>R.bad)=_;rw[this]
def vg {a b:D}{ds:List D}:ixD (.tup (a::b::ds)) (.int 1)=.ok b:=by
 have:atI (a::b::ds) 1=some b:=xS (j:=1) rfl;show (match atI (a::b::ds) 1 with|some d=>R.ok d|none=>R.bad)=_;rw[this]
def qR {a b c:D}{ds:List D}:ixD (.tup (a::b::c::ds)) (.int 2)=.ok c:=by
 have:atI (a::b::c::ds) 2=some c:=xS (j:=2) rfl;show (match atI (a::b::c::ds) 2 with|some d=>R.ok d|none=>R.bad)=_;rw[this]
def Yo {a b c d:D}{ds:List D}:ixD (.tup (a::b::c::d::ds)) (.int 3)=.ok d:=by
 have:atI (a::b::c::d::ds) 3=some d:=xS (j:=3) rfl;show (match atI (a::b::c::d::ds) 3 with|some d=>R.ok d|none=>R.bad)=_;rw[this]
def u9 {ds:List D}:x9 [.lst ds]=.ok (.int ds.length):=rfl
def Xl {ds:List D}:x9 [.frl ds]=.ok (.int ds.length):=rfl
theorem jc:∀ns:List Int,wy (ns.map D.int)=some ns
 | []=>rfl
 | n::ns=>by rw[tJ];show (wy (ns.map D.int)).map (n::·)=_;rw[jc ns];rfl
def Va {ns:List Int}:wB [.lst (ns.map D.int)]=.ok (.int ns.sum):=by
 simp only[wB,jc]
theorem zY {α:Type}{f:α->D}(h:∀a,(f a).imm=true):∀xs:List α,D.imms (xs.map f)=true
 | []=>rfl
 | x::xs=>by rw[tJ];show ((f x).imm&&D.imms (xs.map f))=true;rw[h,zY h xs];rfl
theorem uK {α:Type}{enc:α->D}{f:D->R (Option D)}{o:α->Option D}:∀ {xs:List α},(∀x∈xs,f (enc x)=.ok (o x))->xZ f (xs.map enc)=.ok (xs.filterMap o)
 | [],_=>rfl
 | x::xs,h=>by
  rw[tJ];unfold xZ;rw[h x tF,jYa,uK fun y hy=>h y (tG _ hy),jYa];cases ho:o x with
  | none=>simp[rX,ho]
  | some d=>simp[rX,ho]
def ua {j:Int}(h1:-(2 ^ 62)<=j)(h2:j<2 ^ 62):xU [.int j]=.ok (rng 0 j.toNat):=if_pos ⟨h1,h2⟩
def XB {i j:Int}(h1:-(2 ^ 62)<=i)(h2:i<2 ^ 62)(h3:-(2 ^ 62)<=j)(h4:j<2 ^ 62):jn [.int i,.int j]=.ok (rng i (j-i).toNat):=if_pos ⟨h1,h2,h3,h4⟩
def VW {α:Type}{xs:List α}{a b:Nat}(hb:b<=xs.length)(hab:a<=b):uZ xs (some (a:Int)) (some (b:Int))=(xs.drop a).take (b-a):=by
 unfold uZ;rw[HT.sIx_nat,HT.sIx_nat];congr 1
 ·lia
 ·congr 1;lia
def QW {x y:Str}(h:x.length+y.length<=sizeLine):zw (.str x) (.str y)=.ok (.str (x++y)):=if_pos h
def Yu {i j:Int}:vD (.int i) (.int j)=.ok (.int (i-j)):=rfl
def Je {i j:Int}:ltD (.int i) (.int j)=.ok (.bl (decide (i<j))):=rfl
def Yz {ds:List D}{lo hi:Option Int}(h:D.imms ds=true):slD (.lst ds) lo hi=.ok (.lst (uZ ds lo hi)):=if_pos h
def ue {ds:List D}(h:D.imms ds=true):yT [.lst ds]=.ok (.lst ds):=if_pos h
def Qu {α β:Type}(f:α->β)(xs:List α)(lo hi:Option Int):uZ (xs.map f) lo hi=(uZ xs lo hi).map f:=by
 unfold uZ;rw[tI,List.map_drop.symm,List.map_take]
def vJ {α β:Type}(f:α->β)(xs:List α)(a n:Nat):((xs.map f).drop a).take n=((xs.drop a).take n).map f:=by
 rw[List.map_take,List.map_drop]
def Xh {α β:Type}(f:α->β)(xs:List α):xs.filterMap (fun x=>some (f x))=xs.map f:=by
 induction xs with
 | nil=>rfl
 | cons x xs ih=>simp
theorem wY {f:D->D->Option Bool}:∀ {ds:List D},(∀d∈ds,f d d=some true)->yj f ds ds=some true
 | [],_=>rfl
 | d::ds,h=>by
  unfold yj;rw[h d tF,wY fun x hx=>h x (tG _ hx)]
  rfl
def v7 (n:Nat)(i j:Int):eqF n (.int i) (.int j)=some (i==j):=by cases n<;>rfl
def Xs (n:Nat)(i j:Str):eqF n (.str i) (.str j)=some (i==j):=by cases n<;>rfl
def QE (n:Nat):eqF n .non .non=some true:=by cases n<;>rfl
def ub (n:Nat){xs:List D}(h:∀d∈xs,eqF n d d=some true):eqF (n+1) (.tup xs) (.tup xs)=some true:=by
 show (yj (eqF n) xs xs).map _=_;rw[wY h];simp
def v9 (n:Nat){xs:List D}(h:∀d∈xs,eqF n d d=some true):eqF (n+1) (.lst xs) (.lst xs)=some true:=by
 show (if xs.length=xs.length then yj (eqF n) xs xs else some false)=_;rw[if_pos rfl,wY h]
def W4 {d:D}(hd:∀ks xs,d≠.dic ks xs)(h:eqF 12 d d=some true):eqR false d d=.ok (.bl true):=by
 cases d with
 | dic ks xs=>exact absurd rfl (hd ks xs)
 | _=>simp only[eqR,h]<;>rfl
def qc (i:Nat)(τ:Tn)(ds:List D)(d:D):R Fl:=if ds.length<sizeLine then .ok (.nx (τ.set i (some (.lst (ds++[d]))))) else .bad
def KR (i:Nat)(t:Tn->R D)(τ:Tn):D->R Fl
 | .lst ds=>(t τ).bind fun d=>qc i τ ds d
 | _=>.bad
def xN {i:Nat}{t:Tn->R D}{τ:Tn}:xH i t τ=(zb i τ).bind (KR i t τ):=by
 unfold xH KR qc
 rfl
def xP {i:Nat}{t:Tn->R D}{τ:Tn}{ds:List D}:KR i t τ (.lst ds)=(t τ).bind fun d=>qc i τ ds d:=rfl
def z0D (ys:List D):R D:=if ys.length<=sizeLine then .ok (.lst ys) else .bad
def XJ {ys:List D}(h:ys.length<=16777216):z0D ys=.ok (.lst ys):=if_pos (by rw[sizeLine_eq];exact h)
def ZU {fr:List (Option Nat)}{it:Tn->R (List D)}{g:Tgt}{c:Tn->R Bool}{e:Tn->R D}{τ:Tn}:yh fr it g c e τ=(it τ).bind fun xs=>(xZ (Y4 g.asg c e (vo fr τ)) xs).bind z0D:=rfl
def Z2 (d:D):R D:=if d.imm=true then .ok d else .bad
def yP {t:Tn->R D}{τ:Tn}:xm t τ=(t τ).bind Z2:=rfl
def v8 {i:Int}:Z2 (.int i)=.ok (.int i):=rfl
def UG {s:Str}:Z2 (.str s)=.ok (.str s):=rfl
def Qz {ds:List D}(h:D.imms ds=true):Z2 (.tup ds)=.ok (.tup ds):=if_pos h
def UQ:D.imms []=true:=rfl
def Qx {i:Int}{ds:List D}:D.imms (.int i::ds)=D.imms ds:=pQ _
def QF {i:Str}{ds:List D}:D.imms (.str i::ds)=D.imms ds:=pQ _
def goF (asg:D->Tn->R Tn)(body:Tn->R Fl)(ds:List D):Fl->R Fl
 | .nx τ2=>yl asg body ds τ2
 | .ct τ2=>yl asg body ds τ2
 | .bk τ2=>.ok (.nx τ2)
 | .rt r=>.ok (.rt r)
def yc {asg:D->Tn->R Tn}{body:Tn->R Fl}{d:D}{ds:List D}{τ:Tn}:yl asg body (d::ds) τ=(asg d τ).bind fun τ1=>(body τ1).bind (goF asg body ds):=rfl
def yI {asg:D->Tn->R Tn}{body:Tn->R Fl}{ds:List D}{τ:Tn}:goF asg body ds (.nx τ)=yl asg body ds τ:=rfl
def yO {it:Tn->R (List D)}{g:Tgt}{B:Tn->R Fl}{τ:Tn}{ds:List D}{f:R Fl}(h1:it τ=.ok ds)(h2:yl g.asg B ds τ=f):yn it g B τ=f:=by
 unfold yn;rw[h1];exact h2
def jb:List D->R D
 | [.int i,.int j]=>.ok (.int (if j<i then j else i))
 | _=>.bad
def Kq:xh jb:=fun ds n h=>by unfold jb at h;split at h<;>cases h
def JU {K:jJa}:ClB K (fun xs H Q=>∃i j,xs=[.int i,.int j]/\Q (.int (if j<i then j else i)) H) jb:=by
 rintro H xs ds L Q r ⟨d,hg,q⟩;unfold jb at hg;split at hg
 ·cases hg;obtain⟨v,v',L1,L2,rfl,_,⟨rfl,_⟩,⟨rfl,_⟩⟩:=Jw r;exact⟨_,_,rfl,q _ H [] (Same.refl H) ⟨rfl,rfl⟩ (by simp) (fun a ha=>nomatch ha)⟩
 ·cases hg
section
variable {X:Cx}{E:XK}{Γ:List Cl}{e:Expr}{t:Tn->R D}{c:Rc}{pos p2:Pos}
end
section
variable {X:Cx}
end
def Itn (lo:Int)(n:Nat):It:=⟨fun i _=>i<n,fun i H x H'=>H'=H/\x=.int (lo-i),fun i _=>n<=i⟩
section
variable {X:Cx}{tg:Expr}
def z2a (ta:TA):TI:=fun σ H R=>ta σ H fun vs H1=>∃i j:Int,vs=[.int i,.int j,.int (-1)]/\(-(2 ^ 62)<=i/\i<2 ^ 62/\-(2 ^ 62)<=j/\j<2 ^ 62)/\R (Itn i (i-j).toNat) H1
end
section
variable {X:Cx}{E:XK}{Γ:List Cl}{tg:Expr}{u:Tn->R (List D)}{c:Rc}{p pos:Pos}
end
def xj:List D->R D
 | [.int i]=>if i.natAbs.log2<1920 then .ok (.str (toString i)) else .bad
 | _=>.bad
def j3:xh xj:=fun ds n h=>by
 unfold xj at h;split at h
 ·split at h<;>cases h
 ·cases h
def qz {K:jJa}:ClB K (fun xs H Q=>∃i,xs=[.int i]/\i.natAbs.log2<1920/\Q (.str (toString i)) H) xj:=by
 rintro H xs ds L Q r ⟨d,hg,q⟩;unfold xj at hg;split at hg
 ·split at hg
  ·rename_i i hz;cases hg;obtain⟨v,rfl,rfl,_⟩:=xM r;exact⟨i,rfl,hz,q _ H [] (Same.refl H) ⟨rfl,rfl⟩ (by simp) (fun a ha=>nomatch ha)⟩
  ·cases hg
 ·cases hg
theorem qV:∀ {bs:List Bool} {us:List Value},Vals (bs.map V.bl) us->us=bs.map Value.bool
 | [],us,r=>by cases r;rfl
 | b::bs,_,r=>by
  rw[tJ]at r;cases r with
  | cons r1 r2 =>
   obtain rfl:_=Value.bool b:=r1;rw[tJ,qV r2]
def WN (bs:List Bool):((List.range bs.length).all fun i=>(bs[i]?).getD true)=bs.all id:=by
 rw[Bool.eq_iff_iff,rZ,rZ];constructor
 ·intro h b hb;obtain⟨i,hi,e⟩:=List.getElem_of_mem hb;have:=h i (pH.mpr hi);rw[rD hi,e]at this;exact this
 ·intro h i hi;have hi:=pH.mp hi;rw[rD hi];exact h _ (rP hi)
def Jf (K:jJa):List V->Hp->VK->Prop:=fun xs H Q=>∃(p:Addr) (bs:List Bool),xs=[.ref p]/\SqL K H p (bs.map V.bl)/\Q (.bl (bs.all id)) H
section
variable {X:Cx}
def uE (hc:X.calm=true):CallR X (.builtin "all") (Jf X.K):=by
 intro pins s σ H xs us Q I r h;obtain⟨p,bs,rfl,hs,q⟩:=h;obtain⟨u,rfl,ru⟩:=wH r;obtain rfl:u=Value.ref p:=ru;obtain⟨its,rv,pl,hz⟩:=I.list hs;have e:=qV rv;subst e;have hl:s.heap.IsList p (bs.map Value.bool).toArray:=pl.isList;have hlt:p<s.heap.objs.size:=by obtain⟨_,e,_⟩:=hl;exact jYc e
 refine call_all_walk (wpAny_pyIter_list hl ?_);refine⟨_,_,_,_,_,_,fun i=>(bs[i]?).getD true,rfl,Walks.list (A:=X.A.in1) (I.ok.hd hc) _ p (sX hlt) (bs.map Value.bool).toArray,⟨⟨_,jYd _ rfl,rfl,rfl⟩,hl.push _⟩,fun i v s' Q' E' hP hQ=>?_,fun h' tk hk=>?_⟩
 ·have hP:(bs.map Value.bool)[i]?=some v:=by simpa using hP
  rw[sJ]at hP;cases hb:bs[i]? with
  | none=>rw[hb]at hP;cases hP
  | some b =>
   rw[hb]at hP;cases hP;simp only[hb,Option.getD_some]at hQ;exact wpAny_truthy_bool hQ
 ·have e:((List.range (bs.map Value.bool).toArray.size).all fun i=>(bs[i]?).getD true)=bs.all id:=by
   rw[tS,tI];exact WN bs
  rw[e];refine⟨.bl (bs.all id),H,I.kept fun b o eb=>hk b o (fun hm=>?_) (jYb _ eb),rfl,q⟩;rw[rE.mp hm]at eb;exact pF _ (jYc eb)
end
def wR:List D->Option (List Bool)
 | []=>some []
 | .bl b::ds=>(wR ds).map (b::·)
 | _=>none
theorem uf {K:jJa}{H:Hp}:∀ {ds:List D} {bs:List Bool} {vs:List V} {L:List Addr},Reps K H ds vs L->wR ds=some bs->vs=bs.map V.bl
 | [],bs,_,_,hq4,h=>by
  obtain⟨e,_⟩:=hq4;cases h;exact e
 | .bl b::ds,bs,_,_,hq4,h=>by
  obtain⟨v,vs',L1,L2,e1,e2,r1,r2⟩:=hq4;unfold wR at h;cases hb:wR ds with
  | none=>rw[hb]at h;cases h
  | some cs =>
   rw[hb]at h;cases h;rw[e1,r1.1,uf r2 hb]
   rfl
 | .non::_,_,_,_,_,h=>by cases h
 | .int _::_,_,_,_,_,h=>by cases h
 | .str _::_,_,_,_,_,h=>by cases h
 | .tup _::_,_,_,_,_,h=>by cases h
 | .lst _::_,_,_,_,_,h=>by cases h
 | .dic _ _::_,_,_,_,_,h=>by cases h
 | .frl _::_,_,_,_,_,h=>by cases h
 | .obj _ _ _::_,_,_,_,_,h=>by cases h
def ug:List D->R D
 | [.lst ds]=>match wR ds with
  | some bs=>.ok (.bl (bs.all id))
  | none=>.bad
 | _=>.bad
def Vs:xh ug:=fun ds n h=>by
 unfold ug at h;split at h
 ·split at h<;>cases h
 ·cases h
def Vd {K:jJa}:ClB K (Jf K) ug:=by
 rintro H xs ds L Q r ⟨d,hg,q⟩;unfold ug at hg;split at hg
 ·split at hg
  ·rename_i ds bs hn;cases hg;obtain⟨v,rfl,a,vs,L',rfl,ha,_,rs⟩:=xM r;exact⟨a,bs,rfl,by rw[<-uf rs hn];exact SqL.of ha,q _ H [] (Same.refl H) ⟨rfl,rfl⟩ (by simp) (fun a ha=>nomatch ha)⟩
  ·cases hg
 ·cases hg
def eSm (g:Str->List D->R D)(t:Tn->R D)(u:Tn->R (List D)):Tn->R D:=fun τ=>(t τ).bind fun d=>match d with
 | .str z=>(u τ).bind fun ds=>g z ds
 | _=>.bad
def SmB (K:jJa)(r:V->List V->Hp->VK->Prop)(g:Str->List D->R D):Prop:=
 ∀H z xs ds L (Q:VK),Reps K H ds xs L->(∃d,g z ds=.ok d/\∀v H' L',Same H H'->Rep K H' d v L'->L'.Nodup->(∀a∈L',H a=none)->Q v H')->r (.str z) xs H Q
section
variable {X:Cx}{E:XK}{Γ:List Cl}{o e:Expr}{es:List Expr}{t:Tn->R D}{u:Tn->R (List D)}{c ca:Rc}{name:Str}{apos cpos:Pos}{id:String}
def z1a {r:V->List V->Hp->VK->Prop}{g:Str->List D->R D}(pa:PlainAttrs "str")(slot:Slot "str" name id)(hty:typeOf (.builtin id)=pure (.type "method_descriptor"))(hm:MtR X id r)(hB:SmB X.K r g)(hn:∀z,xh (g z))(ho:ME X E Γ o t c)(ha:MA X E Γ (e::es) u ca)
  (hbase:autoParam (attributeBase o name X.env (eval o X.env)=eval o X.env) au3._auto_1)
  (hfew:autoParam (((backTo cpos (starEach (e::es) X.env)).all (fun x=>!x.1)&&(backToKw cpos (keywordEach [] X.env)).all (fun x=>x.1.isSome)
   && decide ((e::es).length+([]:List Keyword).length+(if ([]:List Keyword).isEmpty then 0 else 1)<30))=true) au3._auto_1)
  (hline:autoParam ((apos.endLine==cpos.line)=true) au3._auto_1) (hs:autoParam (starEach (e::es) X.env=(false,eval e X.env)::starEach es X.env) au3._auto_1) (hplain:autoParam ((backTo cpos (starEach es X.env)).any (·.1)=false) au3._auto_1):
  ME X E Γ (.Call (.Attribute o name apos) (e::es) [] cpos) (eSm g t u) .fresh:=by
 obtain⟨te,p,q⟩:=ho;obtain⟨_,ta',p',q'⟩:=ha;refine⟨_,Zc pa slot hty hm p p' hbase hfew hline hs hplain,fun O σ H τ Q ok h=>?_⟩;unfold eSm at h;refine q O σ H τ _ ok (post.bind h fun d hd h x H1 L1 s1 r1 _=>?_);cases d with
 | str z =>
  obtain⟨rfl,_⟩:=r1;refine⟨rfl,q' O σ H1 τ _ (ok.same s1) ?_⟩;dsimp only at h;cases hu:u τ with
  | ok ds =>
   rw[hu,jYa]at h;refine fun vs H2 L s2 r2 _=>?_;cases hg:g z ds with
   | ok d =>
    rw[hg]at h;exact hB H2 z vs ds L Q r2 ⟨d,hg,fun v H' L s r n1 n2=>h v H' L ((s1.trans s2).trans s) r ⟨n1,fun a ha=>(s1.trans s2).non (n2 a ha)⟩⟩
   | err n=>exact absurd hg (hn _ _ _)
   | bad=>rw[hg]at h;exact h.elim
  | err n=>rw[hu]at h;exact fun C H' e s'=>h C H' e (s1.trans s')
  | bad=>rw[hu]at h;exact h
 | _=>exact h.elim
end
def vm:List D->Option (List Str)
 | []=>some []
 | .str b::ds=>(vm ds).map (b::·)
 | _=>none
theorem uQ {K:jJa}{H:Hp}:∀ {ds:List D} {bs:List Str} {vs:List V} {L:List Addr},Reps K H ds vs L->vm ds=some bs->vs=bs.map V.str
 | [],bs,_,_,hq4,h=>by
  obtain⟨e,_⟩:=hq4;cases h;exact e
 | .str b::ds,bs,_,_,hq4,h=>by
  obtain⟨v,vs',L1,L2,e1,e2,r1,r2⟩:=hq4;unfold vm at h;cases hb:vm ds with
  | none=>rw[hb]at h;cases h
  | some cs =>
   rw[hb]at h;cases h;rw[e1,r1.1,uQ r2 hb]
   rfl
 | .non::_,_,_,_,_,h=>by cases h
 | .int _::_,_,_,_,_,h=>by cases h
 | .bl _::_,_,_,_,_,h=>by cases h
 | .tup _::_,_,_,_,_,h=>by cases h
 | .lst _::_,_,_,_,_,h=>by cases h
 | .dic _ _::_,_,_,_,_,h=>by cases h
 | .frl _::_,_,_,_,_,h=>by cases h
 | .obj _ _ _::_,_,_,_,_,h=>by cases h
theorem TupN.push {h:Heap}{a:Addr}{items:Array Value}(x:TupN h a items)(o:Obj):TupN (h.push o) a items:=let ⟨o',ho,r⟩:=x;⟨o',jYb o ho,r⟩
theorem TupN.at {h h':Heap}{a:Addr}{items:Array Value}(x:TupN h a items)(k:∀b o,h.get? b=some o->h'.get? b=some o):TupN h' a items:=let ⟨o',ho,r⟩:=x;⟨o',k _ _ ho,r⟩
def TupN.isTuple {h:Heap}{a:Addr}{items:Array Value}(x:TupN h a items):h.IsTuple a items:=x.tup
def vU {h h':Heap}{a:Addr}{items:Array Value}(x:h.IsTuple a items)(k:∀b o,h.get? b=some o->h'.get? b=some o):h'.IsTuple a items:=let ⟨o',ho,r⟩:=x;⟨o',k _ _ ho,r⟩
theorem Inv.tupN {X:Cx}{pins:List (Addr×Obj)}{σ:St}{H:Hp}{s:Shared}{a:Addr}{xs:List V}(I:Inv X pins σ H s)(h:SqT X.K H a xs):∃its:List Value,Vals xs its/\TupN s.heap a its.toArray/\xs.length<=sizeLine:=by
 rcases h with h|⟨o,its,n,hk,hc,hn,hs,hz,r⟩
 ·obtain⟨z,its,r,p⟩:=h.ok I.hok;exact⟨its,r,p,z⟩
 ·refine⟨its.toList,r,⟨o,I.kIn a o hk,hc,hn,n,by simpa using hs⟩,?_⟩;have e:=r.length;simp only[Array.length_toList]at e;omega
def qi:typeLookup (.type "tuple") "keys"=pure none:=by rw[typeLookup_type,builtinLookup_eq_fast];kernel_rfl
set_option maxRecDepth 8000 in
def vE {prog:Program}{w:World}{A:Around}{E:Value->Shared->Prop}{s:Shared}{a:Addr}{o:Obj}{xs:Array Value}{k:Nat}{name:Str}{Q:Option Value->Shared->Prop}
  (hx:s.heap.get? a=some o) (hc:o.cls=.type "tuple") (hdat:o.data=.seq xs k) (hd:o.dict=none) (hmiss:typeLookup (.type "tuple") name=pure none) (hname:(["__module__","__name__","__qualname__","__doc__","__annotations__"]:List Str).contains name=false) (hA:A.handled=none)
  (h:∀h' tk,(∀b o,s.heap.get? b=some o->h'.get? b=some o)->Q none { s with heap:=h',toks:=tk }) (hsz:autoParam (name.length+100<=sizeLine) au8._auto_1):
  wpAny (model prog w) A (getAttr? (.ref a) name) Q E s:=by
 obtain⟨c,dct,dat,sl⟩:=o;simp only at hc hdat hd;subst hc hdat hd;obtain⟨hp,g,d,tk,os⟩:=s;have hT:∀tk',(⟨hp,g,d,tk',os⟩:Shared).TypeIs (.ref a) "tuple":=fun _=>⟨_,hx,rfl⟩
 have f1:=sub_AttributeError;have f3:=PySem.F.slot_tuple_getattribute.lookup;have f4:=PySem.F.slot_tuple_getattribute.bind (.ref a);have f5:=am_tuple_getattr_none;unfold getAttr? getAttrBy? getAttrBy
 repeat (any_goals (first|assumption|exact hT _|((with_reducible show wpAny _ _ (call (Value.builtin "tuple.__getattribute__") _ _) _ _ _);refine call_meets PySem.F.slot_tuple_getattribute (hT _) am_entry_tuple_getattribute (PySem.F.args_tuple_getattribute_2 _ _) (meets_getattribute_miss_tuple a xs k sl name _ hmiss hname hsz) ⟨hx,hA,fun h' tk' e hx'=>?_⟩)|wp_step))
 obtain⟨t',u',he⟩:=hx'.there;have hkeep:=hx'.of.keeps;show wpAny _ _ (getattributeRaised _ _ _ _ _ _ _) _ _ _;unfold getattributeRaised
 repeat (any_goals (first|assumption|wp_step))
 all_goals exact h _ _ hkeep
def xt:entryFor table "dict.update.loop"=some Builtin.«dict.update.loop»:=entryFor_of_tree (by kernel_rfl)
def yb:plainId "dict.update.loop"=true:=by decide +kernel
def PairsAt (P:Program)(w:World)(h:Heap):List Value->List (Key×Value)->Prop:=Paired fun (v:Value) (p:Key×Value)=>∃b key,v=.ref b/\h.IsTuple b #[key,p.2]/\(zN P w).is p.1 key=true
theorem PairsAt.get {P:Program}{w:World}{h:Heap}:∀ {its:List Value} {ps:List (Key×Value)} {i:Nat},PairsAt P w h its ps->i<its.length->∃b key p,its[i]?=some (.ref b)/\ps[i]?=some p/\h.IsTuple b #[key,p.2]/\(zN P w).is p.1 key=true
 | _,_,i,.nil,hi=>by simp at hi
 | _,_,0,.cons (a:=v) (b:=p) r t,_=>by
  obtain⟨b,key,e,x,y⟩:=r;exact⟨b,key,p,by rw[e];rfl,rfl,x,y⟩
 | _,_,i+1,.cons r t,hi=>by
  obtain⟨b,key,p,e,e2,x,y⟩:=PairsAt.get (i:=i) t (by simpa using hi);exact⟨b,key,p,by simpa using e,by simpa using e2,x,y⟩
section
variable {prog:Program}{w:World}{A:Around}{R:Result->Shared->Prop}
def qj {h0:Heap}{d I t:Addr}{items:List Value}{ps:List (Key×Value)}(hh:A.in1.handled=none)(hd0:h0.get? d=none)(hI0:h0.get? I=none)(hdI:d≠I)(ht0:h0.IsTuple t items.toArray)(hp:PairsAt prog w h0 items ps)(hz:ps.length<=sizeLine):
  ∀(k i:Nat) (j:Int) (tk:Tok) (s:Shared),items.length-i=k->i<=items.length->s.heap.IsTupleIter I t i->s.heap.DictOf (zN prog w) d (merged [] (ps.take i))->(∀b o,h0.get? b=some o->s.heap.get? b=some o) ->
   (∀h' tk',h'.DictOf (zN prog w) d (merged [] ps)->(∀b o,h0.get? b=some o->h'.get? b=some o)->R (.ok (.ret .none)) { s with heap:=h',toks:=tk' }) ->
   codeAny (model prog w) A (.builtin "dict.update.loop" ⟨[.ref d,.ref I,.int j tk,.none],[]⟩) R s:=by
 have hlen:items.length=ps.length:=Paired.length hp;have hne:∀ {b o},h0.get? b=some o->b≠d/\b≠I:=fun {b o} e=>⟨(fun z=>by rw[z,hd0]at e;cases e),(fun z=>by rw[z,hI0]at e;cases e)⟩
 intro k
 induction k with
 | zero =>
  intro i j tk s hk hi hit hD hkeep hR;have hin:i=items.length:=by omega
  subst hin;refine codeAny_builtin xt ?_;rw[Around.under_plainId yb _];show wpAny _ A.in1 (pyNext (.ref I) >>= _) _ _ s;refine wpAny_bind (wpAny_pyNext_tuple_end hh hit (vU ht0 hkeep) (by simp) fun h' eb=>?_);show wpAny _ A.in1 (Builtin.Dict.addKeywords d [] >>= _) _ _ _;refine wpAny_bind (wpAny_pure (wpAny_pure (hR h' s.toks ?_ fun b o e=>eb b o (hne e).2 (hkeep b o e))));obtain⟨o,es,ep,ho,rest⟩:=hD;rw[hlen,List.take_length]at rest;exact⟨o,es,ep,eb d o hdI ho,rest⟩
 | succ k ih =>
  intro i j tk s hk hi hit hD hkeep hR;have hlt:i<items.length:=by omega
  obtain⟨b,key,p,e1,e2,x,y⟩:=hp.get hlt;refine codeAny_builtin xt ?_;rw[Around.under_plainId yb _];show wpAny _ A.in1 (pyNext (.ref I) >>= _) _ _ s;refine wpAny_bind (wpAny_pyNext_tuple_item hit (vU ht0 hkeep) (x:=.ref b) (by simpa using e1) fun h1 hit1 sb1=>?_);have hkeep1:∀b o,h0.get? b=some o->h1.get? b=some o:=fun b o e=>(sb1.2 b (hne e).2).trans (hkeep b o e);have hD1:h1.DictOf (zN prog w) d (merged [] (ps.take i)):=by
   obtain⟨o,es,ep,ho,rest⟩:=hD;exact⟨o,es,ep,(sb1.2 d hdI).trans ho,rest⟩
  have x1:=vU x hkeep1;show wpAny _ A.in1 (holding [Value.ref b] _ >>= _) _ _ _;refine wpAny_bind (wpAny_holding ?_);refine wpAny_bind (wpAny_tryCatch ?_);obtain⟨ob,hob,hcb,nb,hdb⟩:=x1;unfold Builtin.Dict.pairItems;refine wpAny_bind (wpAny_typeOf ⟨ob,hob,hcb⟩ ?_);rw[if_pos (by decide)];refine wpAny_bind (wpAny_seqItems hob hdb ?_);refine wpAny_pure ?_;show wpAny _ A.in1 (holding [key,p.2] (dictSet d key p.2)) _ _ _;have hz1:(merged [] (ps.take i)).length<=sizeLine:=by
   have:=merged_length_le [] (ps.take i);rw[sG]at this;simp only[sA]at this;omega
  refine wpAny_holding (wpAny_dictSet_pairs (hsz:=hz1) y hD1 fun h2 hD2 sb2=>?_);rw[<-merged_take_succ [] ps i p e2]at hD2;refine wpAny_pure ⟨plainId_quiet yb _,ih (i+1) _ _ _ (by omega) hlt ?_ hD2 (fun b o e=>(sb2.2 b (hne e).1).trans (hkeep1 b o e)) ?_⟩
  ·obtain⟨oi,hoi,r⟩:=hit1;exact⟨oi,(sb2.2 I (Ne.symm hdI)).trans hoi,r⟩
  ·exact hR
end
section
variable {prog:Program}{w:World}{A:Around}{E:Value->Shared->Prop}{s:Shared}
def qd {t:Addr}{items:List Value}{ps:List (Key×Value)}{Q:Value->Shared->Prop}(hh:A.handled=none)(ht:TupN s.heap t items.toArray)(hp:PairsAt prog w s.heap items ps)(hz:ps.length<=sizeLine)
  (h:∀h' tk,h'.DictOf (zN prog w) s.heap.objs.size (merged [] ps)->(∀b o,s.heap.get? b=some o->h'.get? b=some o)->Q (.ref s.heap.objs.size) { s with heap:=h',toks:=tk }):
  wpAny (model prog w) A (call (.type "dict") [.ref t]) Q E s:=by
 refine callType_codes (Q₁:=fun obj s₁=>obj=.ref s.heap.objs.size/\s₁={ s with heap:=s.heap.push { cls:=.type "dict",data:=.dict #[] } }) PySem.F.kt_called_dict (PySem.F.kt_typeCall_dict_1 _) PySem.F.entry_dict_init (kt_code_dict_new _ ⟨rfl,rfl⟩) ?_;rintro obj s₁ ⟨rfl,rfl⟩;have hnew:(s.heap.push { cls:=.type "dict",data:=.dict #[] }).DictOf (zN prog w) s.heap.objs.size []:=Heap.DictOf.new s.heap;have ht':=ht.push { cls:=.type "dict",data:=.dict #[] };refine⟨hnew.typeIs,PySem.F.args_dict_init_2 _ _,?_⟩;unfold Builtin.«dict.__init__»;refine wpAny_bind ?_;unfold Builtin.Dict.selfAndRest;refine wpAny_bind (wpAny_notOrdered_dict hnew.typeIs ?_);show wpAny _ _ (pure (s.heap.objs.size,[Value.ref t])) _ _ _;refine wpAny_pure ?_;show wpAny _ _ (Builtin.Dict.updateFrom "dict.__init__" s.heap.objs.size (.ref t) [] .none) _ _ _;unfold Builtin.Dict.updateFrom;obtain⟨ot,ht1,ht2,⟨ht3,_⟩,nt,ht4⟩:=ht';refine wpAny_bind (wpAny_typeOf ⟨ot,ht1,ht2⟩ ?_);rw[if_pos (by decide)];refine wpAny_bind (vE ht1 ht2 ht4 ht3 qi (by decide) hh (fun h1 tk1 k1=>?_) (by size_fits));rw[if_pos (show (none:Option Value).isNone=true from rfl)];refine wpAny_bind (wpAny_rule ?_);have hlt:s.heap.objs.size<h1.objs.size:=by
  have:h1.get? s.heap.objs.size=some _:=k1 _ _ (jYd s.heap (o:={ cls:=.type "dict",data:=.dict #[] }) rfl);exact jYc this
 have hk01:∀b o,s.heap.get? b=some o->h1.get? b=some o:=fun b o e=>k1 b o (jYb _ e);refine wpAny_bind (wpAny_pyIter_tuple (ht.at hk01).isTuple ?_);have hfr:∀b,s.heap.objs.size<=b->s.heap.get? b=none:=fun b hb=>by
  cases e:s.heap.get? b with
  | none=>rfl
  | some o=>exact absurd (jYc e) (Nat.not_lt.mpr hb)
 refine wpAny_pure ⟨plainId_quiet yb _,qj (A:=A.in1) (h0:=s.heap) (d:=s.heap.objs.size) (I:=h1.objs.size) (t:=t) (items:=items) (ps:=ps) hh (hfr _ (tM _)) (hfr _ (rK hlt)) (sX hlt) ht.isTuple hp hz (items.length-0) 0 0 0 _ rfl (sZ _) ⟨_,jYd _ rfl,rfl,rfl⟩ ?_ (fun b o e=>jYb _ (hk01 b o e)) ?_⟩
 ·obtain⟨o,es,ep,ho,rest⟩:=hnew;exact⟨o,es,ep,jYb _ (k1 _ _ ho),rest⟩
 ·exact fun h' tk' hD hk=>⟨rfl,h h' tk' hD hk⟩
end
def uk {β:Type}:List Key->List β->Key->β->List β
 | k'::ks,x::xs,k,y=>(if k'=k then y else x)::uk ks xs k y
 | _,_,_,_=>[]
def xI (ks:List Key)(ds:List D)(k:Key)(d:D):List Key×List D:=if k∈ks then (ks,uk ks ds k d) else (ks++[k],ds++[d])
def wX:List Key->List D->List (Key×D)->List Key×List D
 | ks,ds,[]=>(ks,ds)
 | ks,ds,(k,d)::r=>wX (xI ks ds k d).1 (xI ks ds k d).2 r
section
variable {K:jJa}{H:Hp}
def QO:∀ {kvs:List (Key×V)} {k:Key} {v:V},k∈kvs.map (·.1)->xk kvs k v=kvs.map (fun kv=>if kv.1=k then (kv.1,v) else kv):=by
 intro kvs k v h;unfold xk;rw[if_pos];rw[List.any_eq_true];obtain⟨p,hp,e⟩:=rF.mp h;exact⟨p,hp,by simpa using e⟩
theorem ZE:∀(kvs:List (Key×V)) (k:Key) (v:V),(kvs.map (fun kv=>if kv.1=k then (kv.1,v) else kv)).map (·.1)=kvs.map (·.1)
 | [],_,_=>rfl
 | p::r,k,v=>by
  rw[tJ,tJ,tJ,ZE r k v];congr 1;split<;>rfl
theorem Zr:∀(kvs:List (Key×V)) (k:Key) (v:V),(kvs.map (fun kv=>if kv.1=k then (kv.1,v) else kv)).map (·.2)=uk (kvs.map (·.1)) (kvs.map (·.2)) k v
 | [],_,_=>rfl
 | p::r,k,v=>by
  rw[tJ,tJ,tJ,tJ,Zr r k v];show _=(if p.1=k then v else p.2)::_;congr 1;split<;>rfl
theorem Reps.repl {k:Key}{d:D}{v:V}(rd:Rep K H d v []):∀ {ks:List Key} {ds:List D} {vs:List V} {L:List Addr},Reps K H ds vs L->ks.length=ds.length->∃L2,Reps K H (uk ks ds k d) (uk ks vs k v) L2/\List.Sublist L2 L
 | [],[],_,_,hq4,_=>by
  obtain⟨e1,e2⟩:=hq4;exact⟨[],by subst e1;exact Reps.nil,pI _⟩
 | [],_::_,_,_,_,h=>by cases h
 | _::_,[],_,_,_,h=>by cases h
 | k'::ks,d'::ds,_,_,hq4,h=>by
  obtain⟨v',vs',L1,L2,e1,e2,h1,h2⟩:=hq4;subst e1 e2;obtain⟨L3,a,b⟩:=Reps.repl (ks:=ks) rd h2 (by simpa using h)
  by_cases e:k'=k
  ·refine⟨[]++L3,?_,?_⟩
   ·show Reps K H ((if k'=k then d else d')::uk ks ds k d) ((if k'=k then v else v')::uk ks vs' k v) _;rw[if_pos e,if_pos e];exact Reps.cons rd a
   ·exact b.trans (rU _ _)
  ·refine⟨L1++L3,?_,List.Sublist.append (List.Sublist.refl _) b⟩;show Reps K H ((if k'=k then d else d')::uk ks ds k d) ((if k'=k then v else v')::uk ks vs' k v) _;rw[if_neg e,if_neg e];exact Reps.cons h1 a
def kH {kvs:List (Key×V)}{ds:List D}{L:List Addr}{k:Key}{d:D}{v:V}(rs:Reps K H ds (kvs.map (·.2)) L)(nd:(kvs.map (·.1)).Nodup)(rd:Rep K H d v []):
  (xk kvs k v).map (·.1)=(xI (kvs.map (·.1)) ds k d).1/\(xI (kvs.map (·.1)) ds k d).1.Nodup/\∃L2,Reps K H (xI (kvs.map (·.1)) ds k d).2 ((xk kvs k v).map (·.2)) L2/\List.Sublist L2 L:=by
 unfold xI
 by_cases h:k∈kvs.map (·.1)
 ·rw[if_pos h,QO h,ZE,Zr];refine⟨rfl,nd,Reps.repl rd rs ?_⟩;rw[<-rs.length,tI,tI]
 ·rw[if_neg h,qT h];refine⟨by rw[sL];rfl,?_,L,?_,List.Sublist.refl _⟩
  ·refine sF.mpr ⟨nd,by simp,fun a ha b hb z=>?_⟩;rw[rE]at hb;subst hb z;exact h ha
  ·rw[sL];have:=Reps.append rs (Reps.cons rd (Reps.nil (K:=K) (H:=H)));rw[tQ,tQ]at this;exact this
theorem kg:∀(ps:List (Key×D)) (qs:List (Key×V)) (kvs:List (Key×V)) (ds:List D),Paired (fun (p:Key×D) (q:Key×V)=>p.1=q.1/\Rep K H p.2 q.2 []) ps qs->Reps K H ds (kvs.map (·.2)) []->(kvs.map (·.1)).Nodup ->
  (x5 kvs qs).map (·.1)=(wX (kvs.map (·.1)) ds ps).1/\(wX (kvs.map (·.1)) ds ps).1.Nodup/\Reps K H (wX (kvs.map (·.1)) ds ps).2 ((x5 kvs qs).map (·.2)) []
 | [],_,kvs,ds,h,rs,nd=>by
  cases h;exact⟨rfl,nd,rs⟩
 | p::ps,_,kvs,ds,h,rs,nd=>by
  cases h with
  | @cons _ q _ qs e t =>
   obtain⟨e1,e2⟩:=e;obtain⟨a1,a2,L2,a3,a4⟩:=kH (k:=p.1) rs nd e2;have z:L2=[]:=by simpa using a4
   subst z;obtain⟨b1,b2,b3⟩:=kg ps qs (xk kvs p.1 q.2) _ t a3 (a1▸a2);show (x5 (xk kvs q.1 q.2) qs).map (·.1)=(wX (xI (kvs.map (·.1)) ds p.1 p.2).1 (xI (kvs.map (·.1)) ds p.1 p.2).2 ps).1/\_;rw[<-e1,<-a1];refine⟨b1,?_,?_⟩
   ·show (wX (xI (kvs.map (·.1)) ds p.1 p.2).1 (xI (kvs.map (·.1)) ds p.1 p.2).2 ps).1.Nodup;rw[<-a1];exact b2
   ·show Reps K H (wX (xI (kvs.map (·.1)) ds p.1 p.2).1 (xI (kvs.map (·.1)) ds p.1 p.2).2 ps).2 ((x5 (xk kvs q.1 q.2) qs).map (·.2)) [];rw[<-a1,<-e1];exact b3
def V3:List D->Option (List (Key×D))
 | []=>some []
 | .tup [k,d]::ps=>match keyOf k with
  | some k'=>if d.imm=true then (V3 ps).map ((k',d)::·) else none
  | none=>none
 | _=>none
theorem qZ:∀ {ps:List D} {kds:List (Key×D)} {vs:List V} {L:List Addr},Reps K H ps vs L->V3 ps=some kds ->
  ∃qs:List (Key×V),Paired (fun (v:V) (q:Key×V)=>∃b,v=.ref b/\SqT K H b [kV q.1,q.2]) vs qs/\Paired (fun (p:Key×D) (q:Key×V)=>p.1=q.1/\Rep K H p.2 q.2 []) kds qs
 | [],kds,_,_,hq4,h=>by
  obtain⟨e,_⟩:=hq4;cases h;subst e;exact⟨[],.nil,.nil⟩
 | d::ps,kds,_,_,hq4,h=>by
  obtain⟨v,vs',L1,L2,e1,e2,r1,r2⟩:=hq4;subst e1;unfold V3 at h;split at h
  ·rename_i e;cases e
  ·rename_i k d' ps' e;injection e with e3 e4;subst e3 e4;split at h
   ·rename_i k' hk;split at h
    ·rename_i hi;cases hp:V3 ps with
     | none=>rw[hp]at h;cases h
     | some r =>
      rw[hp]at h;cases h;obtain⟨qs,a,b⟩:=qZ r2 hp;obtain⟨bb,ws,ev,hs,⟨v1,ws',M1,M2,f1,f2,g1,v2,ws'',M3,M4,f3,f4,g2,g3,_⟩⟩:=r1;subst f1 f3 g3;have hM:=Rep.imm _ _ _ g2 hi;subst hM;refine⟨(k',v2)::qs,.cons ⟨bb,ev,?_⟩ a,.cons ⟨rfl,g2⟩ b⟩;rw[<-vz hk g1];exact hs
    ·cases h
   ·cases h
  ·cases h
end
def vO (i:Nat)(t ti:Tn->R D):Tn->R Fl:=fun τ=>(t τ).bind fun d=>(zb i τ).bind fun l=>(ti τ).bind fun k=>match l,keyOf k with
 | .dic ks ds,some k=>if d.imm=true/\ks.length<sizeLine then .ok (.nx (τ.set i (some (.dic (xI ks ds k d).1 (xI ks ds k d).2)))) else .bad
 | _,_=>.bad
section
variable {X:Cx}{E:XK}{Γ Γ1 Γ' Γl:List Cl}{e a b o f:Expr}{es:List Expr}{t t' u v:Tn->R D}{c ca cb:Rc}{pos:Pos}
def JZ (i:Nat){x:Str}{p0 p1:Pos}{ix:Expr}{ti:Tn->R D}(hu:X.A.units+1<cLine)(h:MV X E Γ e t Γ1)(hi:ME X E Γ1 ix ti c)(hN:autoParam (X.N[i]?=some x) au3._auto_1)(hk:autoParam (Γ1[i]?=some .own) au3._auto_1)(hv:autoParam (Vis X.env.scope x) au6._auto_1)(hb:autoParam ((x==("__debug__":Str))=false) au1._auto_1)(hcd:autoParam ((x==("__classdict__":Str))=false) au1._auto_1)
  (hs:autoParam (swapsWith e (some (.Subscript (.Name x p0) ix p1)) pos.line X.env=pure false) au3._auto_1):
  MS X E Γl Γ (.Assign [.Subscript (.Name x p0) ix p1] e pos) (vO i t ti) Γ1:=by
 obtain⟨te,p,q⟩:=h;obtain⟨te',p',q'⟩:=hi;refine⟨_,US hu (wq (pos:=p0) hN hv hb hcd) p' p hs,fun B σ H τ Z ok h=>q B σ H τ [] _ ok ?_⟩;unfold vO at h;cases ht:t τ with
 | ok d' =>
  rw[ht,jYa]at h;refine fun y H1 Le s1 ry ok1=>?_;obtain⟨v1,d1,L1,q1,q2,r1,n1,n2,_⟩:=ok1.slot hk;refine⟨v1,q1,?_⟩;have ev:zb i τ=.ok d1:=by unfold zb;rw[q2]
  rw[ev,jYa]at h;obtain⟨O,eo,_⟩:=ok1.eok;refine q' O σ H1 τ _ eo ?_;cases hk':ti τ with
  | ok dk =>
   rw[hk',jYa]at h;refine fun kv H2 Lk s2 rk _=>?_;have ok2:=ok1.same s2;obtain⟨v2,d2,L2,q3,q4,r2,m1,m2,fin⟩:=ok2.slot hk;rw[q1]at q3;cases q3;rw[q2]at q4;cases q4;cases d1 with
   | dic ks ds =>
    cases hko:keyOf dk with
    | none=>rw[hko]at h;exact h.elim
    | some k =>
     rw[hko]at h;dsimp only at h
     by_cases hz:d'.imm=true/\ks.length<sizeLine
     ·rw[if_pos hz]at h;obtain⟨a,kvs,L',rfl,ha2,z2,hks,hnd,rs⟩:=r2;subst z2;have mu:(∃vs,H2 a=some (.lst vs))\/∃kvs,H2 a=some (.dK kvs):=.inr ⟨_,ha2⟩;have zL:=Rep.imm _ _ _ ry hz.1;subst zL;obtain⟨w1,w2⟩:=sI.mp m1;have r3:=(ry.same s2).upd (o:=.dK (xk kvs k y)) mu (by simp);have rs3:=rs.upd (o:=.dK (xk kvs k y)) mu w1;subst hks;obtain⟨a1,a2,L3,a3,a4⟩:=kH (k:=k) rs3 hnd r3;refine⟨a,_,rfl,?_,h _ _ (fin _ _ (a::L3) [] [] rfl (TF.upd mu) (fun b hb _=>zK fun z=>hb (z▸tF)) ⟨a,_,L3,rfl,zE,rfl,a1,a2,a3⟩ (fun b hb=>?_) ?_)⟩
      ·rw[vz hko rk];exact DPut.k ha2 (by have:=hz.2;rw[tI]at this;exact this)
      ·rcases tV.mp hb with z|z
       ·exact .inl (z▸tF)
       ·exact .inl (tG _ (a4.subset z))
      ·exact sI.mpr ⟨fun z=>w1 (a4.subset z),w2.sublist a4⟩
     ·rw[if_neg hz]at h;exact h.elim
   | _=>exact h.elim
  | err n=>rw[hk']at h;exact fun C H' e s=>h C H' e (ok1.ext.trans s)
  | bad=>rw[hk']at h;exact h
 | err n=>rw[ht]at h;exact h
 | bad=>rw[ht]at h;exact h
end
def Yv (K:jJa):List V->Hp->VK->Prop:=fun xs H Q=>∃a vs,∃qs:List (Key×V),xs=[.ref a]/\SqT K H a vs/\Paired (fun (v:V) (q:Key×V)=>∃b,v=.ref b/\SqT K H b [kV q.1,q.2]) vs qs/\∀l,H l=none->Q (.ref l) (upd H l (.dK (x5 [] qs)))
section
variable {X:Cx}
theorem Zv {pins:List (Addr×Obj)}{σ:St}{H:Hp}{s:Shared}(I:Inv X pins σ H s):∀ {vs:List V} {qs:List (Key×V)} {its:List Value},Paired (fun (v:V) (q:Key×V)=>∃b,v=.ref b/\SqT X.K H b [kV q.1,q.2]) vs qs->Vals vs its ->
  ∃ps:List (Key×Value),PairsAt X.prog X.w s.heap its ps/\KV qs ps
 | _,_,_,.nil,.nil=>⟨[],.nil,.nil⟩
 | _,_,_,.cons (b:=q) h t,.cons r t2=>by
  obtain⟨b,rfl,hs⟩:=h;obtain⟨ps,a1,a2⟩:=Zv I t t2;obtain⟨its2,r2,pl,_⟩:=I.tuple hs;cases r;cases r2 with
  | cons rk r3 =>
   cases r3 with
   | cons rv r4 =>
    cases r4;rename_i key u;exact⟨(q.1,u)::ps,.cons ⟨b,key,rfl,pl,kj rk⟩ a1,.cons ⟨rfl,rv⟩ a2⟩
def YW (hc:X.calm=true):CallR X (.type "dict") (Yv X.K):=by
 intro pins s σ H xs us Q I r h;obtain⟨a,vs,qs,rfl,ha,hp,q⟩:=h;obtain⟨u,rfl,ru⟩:=wH r;obtain rfl:u=Value.ref a:=ru;obtain⟨its,rv,tn,hz⟩:=I.tupN ha;obtain⟨ps,hps,kv⟩:=Zv I hp rv;have hl1:vs.length=qs.length:=Paired.length hp;have hl2:=kv.length;refine qd (I.ok.hd hc) tn hps (by omega) fun h' tk hD hk=>?_;refine⟨.ref s.heap.objs.size,_,I.laid (o:=.dK (x5 [] qs)) (t':=tk) hk (tM _) ?_,rfl,q _ (I.hok.fresh (tM _))⟩;have hm:KV (x5 [] qs) (merged [] ps):=KV.merge kv .nil;refine⟨?_,beq_eq_false_iff_ne.mpr (Ne.symm (sX I.big)),_,hm,hD⟩;have e1:=hm.length;have e2:=merged_length_le [] ps;simp only[sA]at e2;omega
def Yh (hc:X.calm=true):CallR X (.type "dict") (fun xs H Q=>Z1 xs H Q\/Yv X.K xs H Q):=CallR.or YO (YW hc)
end
def vV:List D->R D
 | [.dic ks ds]=>if D.imms ds=true then .ok (.dic ks ds) else .bad
 | [.tup ps]=>match V3 ps with
  | some kds=>.ok (.dic (wX [] [] kds).1 (wX [] [] kds).2)
  | none=>.bad
 | _=>.bad
def Qp:xh vV:=fun ds n h=>by
 unfold vV at h;split at h
 ·split at h<;>cases h
 ·split at h<;>cases h
 ·cases h
def J4 {K:jJa}:ClB K (fun xs H Q=>Z1 xs H Q\/Yv K xs H Q) vV:=by
 rintro H xs ds L Q r ⟨d,hg,q⟩;unfold vV at hg;split at hg
 ·rename_i ks ds;refine .inl (J1 H xs _ L Q r ⟨d,hg,q⟩)
 ·rename_i ps;split at hg
  ·rename_i kds hp;cases hg;obtain⟨v,rfl,a,vs,rfl,ha,rs⟩:=xM r;obtain⟨qs,h1,h2⟩:=qZ rs hp;refine .inr ⟨a,vs,qs,rfl,ha,h1,fun l hl=>?_⟩;obtain⟨b1,b2,b3⟩:=kg kds qs [] [] h2 Reps.nil pA;exact q _ _ [l] (Same.new hl) ⟨l,_,[],rfl,zE,rfl,b1,b2,b3.same (Same.new hl)⟩ (by simp) (fun b hb=>by rw[rE.mp hb];exact hl)
  ·cases hg
 ·cases hg
section
variable {X:Cx}{E:XK}{Γ:List Cl}{u:Tn->R (List D)}{c:Rc}{p pos:Pos}
end
def jQ (i:Nat)(τ:Tn)(d:D):D->D->R Fl
 | .dic ks ds,k=>(match keyOf k with
  | some k=>if d.imm=true/\ks.length<sizeLine then .ok (.nx (τ.set i (some (.dic (xI ks ds k d).1 (xI ks ds k d).2)))) else .bad
  | none=>.bad)
 | _,_=>.bad
def Vq {i:Nat}{t ti:Tn->R D}{τ:Tn}:vO i t ti τ=(t τ).bind fun d=>(zb i τ).bind fun l=>(ti τ).bind fun k=>jQ i τ d l k:=by
 unfold vO;congr 1;funext d;congr 1;funext l;congr 1;funext k;cases l with
 | dic ks ds =>
  cases h:keyOf k<;>simp only[jQ,h]
 | _=>rfl
def kS {i:Nat}{τ:Tn}{d:D}{ks:List Key}{ds:List D}{x:Str}(hd:d.imm=true)(hl:ks.length<16777216):jQ i τ d (.dic ks ds) (.str x)=.ok (.nx (τ.set i (some (.dic (xI ks ds (.inr x) d).1 (xI ks ds (.inr x) d).2)))):=if_pos ⟨hd,by rw[sizeLine_eq];exact hl⟩
theorem qG:∀ys:List Str,vm (ys.map D.str)=some ys
 | []=>rfl
 | y::ys=>by rw[tJ];show (vm (ys.map D.str)).map (y::·)=_;rw[qG ys];rfl
def Qt {d:D}(hd:∀ks xs,d≠.dic ks xs)(h:eqF 12 d d=some true):eqR true d d=.ok (.bl false):=by
 cases d with
 | dic ks xs=>exact absurd rfl (hd ks xs)
 | _=>simp only[eqR,h]<;>rfl
section
variable {prog:Program}{w:World}{A:Around}{R:Result->Shared->Prop}
end
section
variable {prog:Program}{w:World}{A:Around}{E:Value->Shared->Prop}{s:Shared}
end
section
variable {X:Cx}{E:XK}{Γ:List Cl}{e f:Expr}{t u:Tn->R D}{ca cb:Rc}{p pos kp:Pos}{te tf:TE}
end
theorem uT:∀bs:List Bool,wR (bs.map D.bl)=some bs
 | []=>rfl
 | b::bs=>by rw[tJ];show (wR (bs.map D.bl)).map (b::·)=_;rw[uT bs];rfl
def UD {bs:List Bool}:ug [.lst (bs.map D.bl)]=.ok (.bl (bs.all id)):=by
 simp only[ug,uT]
section
open PySem.SeqAt PySem.MeetsSeq3
open PySem.AutoSeq1 (wpAny_loadPart')
end
section
variable {X:Cx}{E:XK}{Γ Γ1 Γ' Γl:List Cl}{e:Expr}{t:Tn->R D}{pos:Pos}
end
def EqX (P:Program)(w:World)(A:Around)(s:Shared)(y x:Value)(b:Bool):Prop:=∀(E:Value->Shared->Prop) (Q:Bool->Shared->Prop),Q b s->wpAny (model P w) A (eqBool y x) Q E s
section
open PySem.SeqAt PySem.MeetsSeq3
open PySem.AutoSeq1 (wpAny_loadPart')
end
def eqE:D->D->Option Bool
 | .dic ks xs,.dic js ys=>um ks xs js ys
 | x,y=>eqF 11 x y
section
variable {X:Cx}{pins:List (Addr×Obj)}{σ:St}{H:Hp}{s:Shared}
theorem jH:∀ {ks:List Key} {xs:List D},ks.Nodup->ks.length=xs.length->∀(pk:List Key) (px:List D),pk.length=px.length->(pk++ks).Nodup->∀b,hitsD (pk++ks) (px++xs) ks xs=some b->b=true
 | [],xs,_,_,pk,px,_,_,b,h=>by unfold hitsD at h;cases h;rfl
 | k::ks,[],_,hl,_,_,_,_,_,_=>by cases hl
 | k::ks,x::xs,hn,hl,pk,px,hp,hnd,b,h=>by
  have hlk:∀(pk:List Key) (px:List D),pk.length=px.length->k∉pk->lookD (pk++k::ks) (px++x::xs) k=some x:=by
   intro pk
   induction pk with
   | nil =>
    intro px hp _;cases px with
    | nil=>show lookD (k::ks) (x::xs) k=_;unfold lookD;rw[if_pos rfl]
    | cons _ _=>cases hp
   | cons k' pk ih =>
    intro px hp hk;cases px with
    | nil=>cases hp
    | cons x' px =>
     show lookD (k'::(pk++k::ks)) (x'::(px++x::xs)) k=_;unfold lookD;rw[if_neg (show ¬k'=k from fun z=>hk (by rw[z];exact tF))];exact ih px (by simpa using hp) (fun z=>hk (tG _ z))
  have hk:k∉pk:=fun z=>(sF.mp hnd).2.2 k z k tF rfl;unfold hitsD at h;rw[hlk pk px hp hk]at h;dsimp only at h;split at h
  ·rename_i hs;rw[sY]at hs;have e1:pk++k::ks=(pk++[k])++ks:=by simp
   have e2:px++x::xs=(px++[x])++xs:=by simp
   cases hr:hitsD (pk++k::ks) (px++x::xs) ks xs with
   | none=>rw[hr]at h;cases h
   | some b' =>
    rw[hr]at h;rw[e1,e2]at hr;have:=jH (sI.mp hn).2 (by simpa using hl) (pk++[k]) (px++[x]) (by simp[hp]) (by rw[<-e1];exact hnd) b' hr;have h:(eqS x x&&b')=b:=jYe h;rw[<-h,this,ZO x hs.1]
    rfl
  ·cases h
def z0c (I:Inv X pins σ H s)(A:Around)(hu:A.units+11<cLine)(d1 d2:D)(v1 v2:V)(L1 L2:List Addr)(u1 u2:Value)(b:Bool)(h:eqE d1 d2=some b)(r1:Rep X.K H d1 v1 L1)(r2:Rep X.K H d2 v2 L2)(q1:RelV v1 u1)(q2:RelV v2 u2):EqX X.prog X.w A s u1 u2 b:=by
 by_cases hd:∃ks xs js ys,d1=.dic ks xs/\d2=.dic js ys
 ·obtain⟨ks,xs,js,ys,rfl,rfl⟩:=hd;have h:um ks xs js ys=some b:=h;obtain⟨a1,kv1,M1,rfl,ha1,_,hk1,hn1,rs1⟩:=r1;obtain⟨a2,kv2,M2,rfl,ha2,_,hk2,hn2,rs2⟩:=r2;obtain rfl:u1=Value.ref a1:=q1;obtain rfl:u2=Value.ref a2:=q2;obtain⟨_,da,va,ra,oa⟩:=Y6 I.hok ha1;obtain⟨_,db,vb,rb,ob⟩:=Y6 I.hok ha2;have l1:va.length=kv1.length:=ra.length.symm;have l2:vb.length=kv2.length:=rb.length.symm;have lk1:ks.length=kv1.length:=by rw[<-hk1,tI]
  have lk2:js.length=kv2.length:=by rw[<-hk2,tI]
  intro E Q hq;unfold eqBool;refine wpAny_holding ?_
  by_cases hz:a1=a2
  ·subst hz;rw[ha1]at ha2;cases ha2;have hkj:ks=js:=hk1.symm.trans hk2;subst hkj;have hds:xs=ys:=Reps.one I xs ys _ _ _ rs1 rs2;subst hds;have hb:b=true:=by
    unfold um at h;rw[if_pos rfl]at h;exact jH hn1 (by rw[lk1,<-rs1.length,tI]) [] [] rfl (by simpa using hn1) b (by simpa using h)
   subst hb;refine wpAny_ite_split (fun _=>?_) (fun hab=>absurd (beq_self_eq_true _) hab);exact wpAny_bind (wpAny_rule (wpAny_pure hq))
  ·refine wpAny_ite_split (fun hab=>absurd (by have:=eq_of_beq hab;injection this) hz) (fun _=>?_);refine wpAny_bind ?_;have hu0:A.units<cLine:=by omega
   by_cases hl:kv1.length=kv2.length
   ·have hh:hitsD (kv2.map (·.1)) ys (kv1.map (·.1)) xs=some b:=by
     unfold um at h;rw[if_pos (by omega)]at h;rw[hk1,hk2];exact h
    refine jJp (r:=b) da db oa ob hu0 (fun e=>Z8 rb rs2 ra rs1 hh) ?_;rw[l1,l2,hl,beq_self_eq_true,pQ];exact wpAny_truthy_bool hq
   ·have hb:b=false:=by
     unfold um at h;rw[if_neg (by omega)]at h;exact (jYe h).symm
    subst hb;refine jJp (r:=false) da db oa ob hu0 (fun e=>absurd e (by omega)) ?_;rw[pN];exact wpAny_truthy_bool hq
 ·have h':eqF 11 d1 d2=some b:=by
   cases d1 with
   | dic ks xs =>
    cases d2 with
    | dic js ys=>exact absurd ⟨ks,xs,js,ys,rfl,rfl⟩ hd
    | _=>exact h
   | _=>exact h
  exact (VL I 11 A d1 d2 v1 v2 L1 L2 u1 u2 b hu h' r1 r2 q1 q2).2.1 X.prog X.w
end
structure Src (P:Program)(w:World)(i l:Addr)(xs:Array Value)(st:Nat->Heap->Prop):Prop where
 keep:∀k h h',st k h->(∀b,b=i\/b=l->∀o,h.get? b=some o->h'.get? b=some o)->st k h'
 obj:∀k h,st k h->∃o vs,h.get? i=some o/\o.data=.fields vs
 item:∀(A:Around) (k:Nat) (s:Shared) (Q:Value->Shared->Prop) (E:Value->Shared->Prop) (x:Value),st k s.heap->xs[k]?=some x->(∀h',st (k+1) h'->Heap.SameBut i s.heap h'->Q x { s with heap:=h' })->wpAny (model P w) A (Builtin.SmallTypes.nextOf (.ref i)) Q E s
 stop:∀(A:Around) (k:Nat) (s:Shared) (Q:Value->Shared->Prop) (E:Value->Shared->Prop),A.handled=none->st k s.heap->xs[k]?=none->(∀h' e,Heap.ExtBut i s.heap h'->(∃o,h'.get? e=some o/\o.cls=.type "StopIteration")->E (.ref e) { s with heap:=h' })->wpAny (model P w) A (Builtin.SmallTypes.nextOf (.ref i)) Q E s
section
variable {prog:Program}{w:World}{A:Around}{E:Value->Shared->Prop}{s:Shared}
end
section
variable {prog:Program}{w:World}{A:Around}{E:Value->Shared->Prop}{s:Shared}
variable {z TI TO i1 i2 l1 l2:Addr}{k:Nat}{xs ys:Array Value}{st1 st2:Nat->Heap->Prop}{a b:Value}
structure ZSt (z TI TO i1 i2:Addr)(st1 st2:Nat->Heap->Prop)(f0:Value)(k1 k2:Nat)(h:Heap):Prop where
 z:IsZip h z TI TO f0
 ti:IsPair h TI (.ref i1) (.ref i2)
 to':∃a b,IsPair h TO a b
 s1:st1 k1 h
 s2:st2 k2 h
theorem ZSt.keep {f0:Value}{k1 k2:Nat}{h h':Heap}(D:ZipApart z TI TO i1 i2 l1 l2)(S1:Src prog w i1 l1 xs st1)(S2:Src prog w i2 l2 ys st2)(S:ZSt z TI TO i1 i2 st1 st2 f0 k1 k2 h)(e:∀c o,h.get? c=some o->h'.get? c=some o):ZSt z TI TO i1 i2 st1 st2 f0 k1 k2 h' :=
 ⟨e _ _ S.z,e _ _ S.ti,let ⟨a,b,q⟩:=S.to';⟨a,b,e _ _ q⟩,S1.keep _ _ _ S.s1 fun c _ o=>e c o,S2.keep _ _ _ S.s2 fun c _ o=>e c o⟩
end
def IIt:Bool->Heap->Addr->Addr->Nat->Prop
 | true,h,i,l,k=>h.IsTupleIter i l k
 | false,h,i,l,k=>h.IsListIter i l k
def ISq:Bool->Heap->Addr->Array Value->Prop
 | true,h,l,xs=>h.IsTuple l xs
 | false,h,l,xs=>h.IsList l xs
def Sq (t:Bool)(K:jJa)(H:Hp)(a:Addr)(xs:List V):Prop:=if t=true then SqT K H a xs else SqL K H a xs
section
variable {X:Cx}{pins:List (Addr×Obj)}{σ:St}{H:Hp}{s:Shared}{a:Addr}{xs ys:List V}{h':Heap}
end
def Itz (K:jJa)(t1 t2:Bool)(a b:Addr):It:=
 ⟨fun i H=>∃xs ys x y,Sq t1 K H a xs/\Sq t2 K H b ys/\xs[i]?=some x/\ys[i]?=some y,
   fun i H v H'=>∃p x y,H p=none/\v=.ref p/\H'=upd H p (.tup [x,y])/\∀xs ys,Sq t1 K H a xs->Sq t2 K H b ys->xs[i]?=some x/\ys[i]?=some y,
   fun i H=>∃xs ys,Sq t1 K H a xs/\Sq t2 K H b ys/\(xs.length<=i\/ys.length<=i)⟩
section
variable {prog:Program}{w:World}{A:Around}{E:Value->Shared->Prop}{s:Shared}
end
section
variable {X:Cx}
end
def z2c (ds es:List D):List D:=(ds.zip es).map fun p=>.tup [p.1,p.2]
section
variable {X:Cx}{E:XK}{Γ:List Cl}{u:Tn->R (List D)}{c:Rc}{p pos:Pos}
end
section
variable {prog:Program}{w:World}{A:Around}{E:Value->Shared->Prop}{s:Shared}
end
section
variable {X:Cx}{E:XK}{Γ:List Cl}{e:Expr}{t:Tn->R D}{c:Rc}{p2 pos:Pos}
end
section
variable {X:Cx}{E:XK}{Γ Γl:List Cl}{pos:Pos}
end
def Suite (X:Cx)(CS:Addr)(i:Nat)(sts:List Stmt)(g:Str->Option D):Prop:=∀(m:Str) (d:D),g m=some d->∀C,ErrC X.K m C->PySem.W.exmOne X.K (.ref C) (.ref CS)=some true /\
 ∃ts:Addr->Obj->TS,(∀e oe,PSs (X.within e oe) sts (ts e oe))/\∀e oe (Z:Ends) (σ:St) (H:Hp),σ.length=X.N.length->oe.cls=.ref C->H e=none->σ[i]?=some (some (.ref e))->(∀v H',Same H H'->Rep X.K H' d v []->Z.rt v H')->ts e oe Z σ H
def Suite.ts {X:Cx}{CS:Addr}{i:Nat}{sts:List Stmt}{g:Str->Option D}(hs:Suite X CS i sts g)(e:Addr)(oe:Obj):TS:=fun Z σ H=>∃(m:Str) (d:L2.D) (hg:g m=some d) (C:Addr) (hC:ErrC X.K m C),Classical.choose (hs m d hg C hC).2 e oe Z σ H
section
variable {X:Cx}{E:XK}{Γ Γl Γ':List Cl}{k:Nat}{CS:Addr}{ps:List Str}{F:List D->R D}{nA:Nat}{x xc n:Str}{p pos pos' pc hpos tpos:Pos}{e:Expr}{es:List Expr}{u:Tn->R (List D)}{c:Rc}{i:Nat}{b₀:Stmt}{suite:List Stmt}{g:Str->Option D}
end
inductive ClVs:List V->List Value->Prop where
 | nil:ClVs [] []
 | cons {c:V} {u:Value} {cs:List V} {us:List Value} (h:ClV c u) (t:ClVs cs us):ClVs (c::cs) (u::us)
section
variable {X:Cx}{E:XK}{Γ Γl:List Cl}{pos:Pos}
end
section
variable {X:Cx}{E:XK}{Γ Γl Γ':List Cl}{k:Nat}{ps:List Str}{F:List D->R D}{nA:Nat}{x xc n:Str}{p pos pos' pc hpos tpos:Pos}{e:Expr}{es:List Expr}{u:Tn->R (List D)}{c:Rc}{i:Nat}{b₀:Stmt}{suite:List Stmt}{g:Str->Option D}
end
structure CompScopeC (X:Cx)(xc:Str)(N':List Str)(fr:List (Option Nat))(scope:Scope):Prop where
 kind:scope.kind=.function
 one:∃pre post,scope.names=pre++(xc,NameKind.cell)::post/\∀y∈pre++post,y.2≠.cell
 nox:∀y∈scope.names,y.1=xc->y.2=.cell
 loc:∀y∈scope.names,y.2=.local->scope.names.lookup y.1=some .local
 free:∀y∈scope.names,y.2=.free->∃c,X.env.cells.lookup y.1=some c
 len:fr.length=N'.length
 fre:∀(j i:Nat) (x:Str),fr[j]?=some (some i)->N'[j]?=some x->X.N[i]?=some x/\scope.names.lookup x=some .free/\(X.env.kindOf x=some .cell\/X.env.kindOf x=some .free)
section
variable {X:Cx}{pins:List (Addr×Obj)}{σ:St}{H:Hp}{s:Shared}{xc:Str}{N':List Str}{fr:List (Option Nat)}{scope:Scope}{fp:List Addr}
end
section
variable {X:Cx}{pins:List (Addr×Obj)}{σ τ:St}{H H₃ H5:Hp}{s₃ s5:Shared}{xc:Str}{N':List Str}{scope:Scope}{fp:List Addr}
end
section
variable {X:Cx}{E:XK}{Γ:List Cl}{pos:Pos}
end
def z1p {α:Type}{us:List α}{n:Nat}(h:us.length=n+1):∃a t,us=a::t/\t.length=n:=by
 cases us with
 | nil=>cases h
 | cons a t=>exact⟨a,t,rfl,Nat.succ.inj h⟩
def SOk.deadPut {K:jJa}{Γ:List Cl}{B H:Hp}{σ:St}{τ:Tn}{T:List Addr}{i:Nat}{w:Option V}(h:SOk K Γ B H σ τ T)(e:Γ[i]?=some .dead):SOk K Γ B H (σ.set i w) τ T:=by
 obtain⟨Ls,h1,h2⟩:=h.ex;refine⟨h.ext,by rw[sO];exact h.lσ,h.lτ,Ls,fun j c ej hc=>?_,h2⟩;obtain⟨v,d,a1,a2,a3⟩:=h1 j c ej hc;refine⟨v,d,?_,a2,a3⟩
 by_cases hij:i=j
 ·subst hij;rw[e]at ej;exact absurd (jYe ej).symm hc
 ·rw[sC hij];exact a1
section
variable {X:Cx}{E:XK}{Γ Γl:List Cl}{x1 x2 xr d nm:Str}{F1 F2:List D->R D}{es:List Expr}{u:Tn->R (List D)}{c:Rc}{i k n:Nat}{f1 f2:Addr}{ps:List Str}{p1 p2 p3 p4 p5 p6 p7 p8 p9 p10 p11 p12:Pos}{ct:Nat}{jj:_}
end
def Vc {X:Cx}{E:XK}{Γ:List Cl}{pos:Pos}:ME X E Γ (.Dict [] [] pos) (eC (.dic [] [])) .fresh:=
 ⟨_,U6,fun O σ H τ Q ok h p hp=>h (.ref p) _ [p] (Same.new hp) ⟨p,[],[],rfl,zE,rfl,rfl,pA,rfl,rfl⟩ ⟨sI.mpr ⟨rH,pA⟩,fun a ha=>by rw[rE.mp ha];exact hp⟩⟩
section
variable {K:jJa}{Γ:List Cl}{B H:Hp}{σ:St}{τ:Tn}{T T':List Addr}
end
section
variable {P:Program}{w:World}{K:jJa}{mg:Str->Option Value}{base:Heap}{x:Str}{st:Stmt}{N ps:List Str}{k:Nat}{t:Tn->R Fl}{Γ':List Cl}
end
section
variable {K:jJa}{pn:List (Addr×Obj)}{σ:St}{H:Hp}{Q:VK}{e:Addr}{oe:Obj}{C:Addr}
end
section
variable {X:Cx}{E:XK}{Γ Γ1 Γ2 Γa Γb Γl Γ':List Cl}{pos:Pos}
end
theorem VQ {K:jJa}{H:Hp}{d:D}:∀ {ds:List D} {vs:List V} {L:List Addr} {k:Nat},Reps K H ds vs L->ds[k]?=some d->L.Nodup->∃v Ld,vs[k]?=some v/\Rep K H d v Ld/\Ld.Nodup/\(∀a∈Ld,a∈L) /\
  ∀(H2:Hp) (d2:D) (L2:List Addr),TF H H2->(∀b,b∉Ld->H b≠none->H2 b=H b)->Rep K H2 d2 v L2->(∀a∈L2,a∈Ld)->L2.Nodup->∃L',Reps K H2 (ds.set k d2) vs L'/\(∀a∈L',a∈L)/\L'.Nodup
 | [],_,_,k,_,h,_=>by cases k<;>cases h
 | e::ds,_,_,0,hq,h,nd=>by
  obtain⟨v,vs',L1,L2,e1,e2,r1,r2⟩:=hq;subst e1 e2;cases h;obtain⟨n1,n2,n3⟩:=sF.mp nd;refine⟨v,L1,rfl,r1,n1,fun a ha=>tX _ ha,fun H2 d2 L3 tf kp r3 sb nd3=>⟨L3++L2,?_,fun a ha=>?_,?_⟩⟩
  ·exact⟨v,vs',L3,L2,rfl,rfl,r3,Reps.keep tf ds vs' L2 r2 fun a ha=>kp a (fun z=>n3 a z a ha rfl) (r2.there ha)⟩
  ·rcases tW.mp ha with z|z
   ·exact tX _ (sb a z)
   ·exact tN _ z
  ·exact sF.mpr ⟨nd3,n2,fun a ha b hb z=>n3 a (sb a ha) b hb z⟩
 | e::ds,_,_,k+1,hq,h,nd=>by
  obtain⟨v,vs',L1,L2,e1,e2,r1,r2⟩:=hq;subst e1 e2;obtain⟨n1,n2,n3⟩:=sF.mp nd;obtain⟨w,Ld,g1,g2,g3,g4,g5⟩:=VQ (k:=k) r2 (by simpa using h) n2;refine⟨w,Ld,by simpa using g1,g2,g3,fun a ha=>tN _ (g4 a ha),fun H2 d2 L3 tf kp r3 sb nd3=>?_⟩;obtain⟨L',q1,q2,q3⟩:=g5 H2 d2 L3 tf kp r3 sb nd3;refine⟨L1++L',?_,fun a ha=>?_,?_⟩
  ·exact⟨v,vs',L1,L',rfl,rfl,Rep.keep tf e v L1 r1 fun a ha=>kp a (fun z=>n3 a ha a (g4 a z) rfl) (r1.there ha),q1⟩
  ·rcases tW.mp ha with z|z
   ·exact tX _ z
   ·exact tN _ (q2 a z)
  ·exact sF.mpr ⟨n1,q3,fun a ha b hb z=>n3 a ha b (q2 b hb) z⟩
section
variable {X:Cx}{E:XK}{Γ Γl:List Cl}{pos:Pos}{e:Expr}{t:Tn->R D}{c:Rc}
end
section
open PySem.SeqAt PySem.MeetsSeq3
open PySem.AutoSeq1 (wpAny_loadPart')
def V0 {P:Program}{w:World}(l b:Addr)(items items2:Array Value)(n n2:Nat)(dd dd2:Option Addr)(sl sl2:Array (Option Value))(hz:items.size=items2.size)(e:Nat->Bool)(k:Nat):
  ∀i:Nat,items.size-i=k->MeetsIn P w (Builtin.«list.__eq__.loop» ⟨[.ref l,.ref b,rawInt i,rawInt 3],[]⟩)
   (fun A R s=>((s.heap.get? l=some { cls:=.type "list",dict:=dd,data:=.seq items n,slots:=sl }/\s.heap.get? b=some { cls:=.type "list",dict:=dd2,data:=.seq items2 n2,slots:=sl2 }) /\
    ∀j (h1:j<items.size) (h2:j<items2.size),EqX P w A.in1 s items[j] items2[j] (e j))/\R (.ok (.ret (.bool (!((List.range items.size).drop i).all e)))) s):=by
 induction k with
 | zero =>
  intro i hk A R s h;obtain⟨hp,g,d,tk,os⟩:=s;obtain⟨⟨⟨hl,hb⟩,he⟩,h⟩:=h
  wp_walk using wpAny_loadPart' hl,wpAny_loadPart' hb
  have e1:items[((i:Nat):Int).toNat]?=none:=by simp;omega
  have d1:(List.range items.size).drop i=[]:=pB (by simp;omega);rw[d1]at h;rw[e1]
  wp_walk using wpAny_loadPart' hl,wpAny_loadPart' hb
  have e4:items2[((i:Nat):Int).toNat]?=none:=by simp;omega
  show R (.ok (.ret (.bool (items.size != items2.size)))) _;rw[hz]
  simpa using h
 | succ k ih =>
  intro i hk A R s h;obtain⟨hp,g,d,tk,os⟩:=s;obtain⟨⟨⟨hl,hb⟩,he⟩,h⟩:=h
  wp_walk using wpAny_loadPart' hl,wpAny_loadPart' hb
  have h1:i<items.size:=by omega
  have h2:i<items2.size:=by omega
  have e1:items[((i:Nat):Int).toNat]?=some items[i]:=by simp[h1]
  have e2:items2[((i:Nat):Int).toNat]?=some items2[i]:=by simp[h2]
  have d1:(List.range items.size).drop i=i::(List.range items.size).drop (i+1):=by simp[rG,h1]
  have hc:((i:Int)+1)=((i+1:Nat):Int):=by push_cast;rfl
  rw[d1,List.all_cons]at h;rw[e1,e2];refine wpAny_bind (he i h1 h2 _ _ ?_);cases hb':e i with
  | true =>
   rw[hb',pQ]at h
   wp_walk
   rw[hc];exact⟨plainId_quiet plain_eq_loop _,codeAny_builtin entry_eq_loop (by
    rw[Around.under_plainId plain_eq_loop _];exact ih (i+1) (by omega) A R _ ⟨⟨⟨hl,hb⟩,he⟩,h⟩)⟩
  | false =>
   rw[hb',Bool.false_and]at h
   wp_walk using wpAny_loadPart' hl,wpAny_loadPart' hb
   rw[e1,e2]
   wp_walk
   simpa using h
def WY {P:Program}{w:World}(l b:Addr)(items items2:Array Value)(n n2:Nat)(dd dd2:Option Addr)(sl sl2:Array (Option Value))(hz:items.size=items2.size)(e:Nat->Bool):
  MeetsIn P w (Builtin.«list.__ne__» ⟨[.ref l,.ref b],[]⟩)
   (fun A R s=>((s.heap.get? l=some { cls:=.type "list",dict:=dd,data:=.seq items n,slots:=sl }/\s.heap.get? b=some { cls:=.type "list",dict:=dd2,data:=.seq items2 n2,slots:=sl2 }) /\
    ∀j (h1:j<items.size) (h2:j<items2.size),EqX P w A.in1 s items[j] items2[j] (e j))/\R (.ok (.ret (.bool (!(List.range items.size).all e)))) s):=by
 intro A R s h;obtain⟨hp,g,d,tk,os⟩:=s;obtain⟨⟨⟨hl,hb⟩,he⟩,h⟩:=h;have f3:=AutoSeq1.sub_list_list;have hne:¬(items.size != items2.size)=true:=by simp[hz]
 wp_walk using wpAny_loadPart' hl,wpAny_loadPart' hb
 exact⟨plainId_quiet plain_eq_loop _,codeAny_builtin entry_eq_loop (by
  rw[Around.under_plainId plain_eq_loop _];exact V0 l b items items2 n n2 dd dd2 sl sl2 hz e _ 0 rfl A R _ ⟨⟨⟨hl,hb⟩,he⟩,h⟩)⟩
end
def kY:D->D->R D
 | .lst xs,.lst ys=>(match (if xs.length=ys.length then yj eqE xs ys else some false)with
  | some b=>.ok (.bl (!b))
  | none=>.bad)
 | _,_=>.bad
def z0V:w6 kY:=fun x y n h=>by
 unfold kY at h;split at h
 ·split at h<;>cases h
 ·cases h
def z1f (K:jJa):R2:=fun x y H Q=>∃a b vs ws xs ys La Lb r,x=.ref a/\y=.ref b/\SqL K H a vs/\SqL K H b ws/\Reps K H xs vs La/\Reps K H ys ws Lb/\(if xs.length=ys.length then yj eqE xs ys else some false)=some r/\Q (.bl (!r)) H
def K3 {X:Cx}(hu:X.A.units+12<cLine):OpR X (compareOp .NotEq) (z1f X.K):=by
 intro pins s σ H x y v u Q I rx ry h;obtain⟨a,b,vs,ws,xs,ys,La,Lb,r,rfl,rfl,ha,hb,rs,rs2,hr,q⟩:=h;obtain rfl:v=Value.ref a:=rx;obtain rfl:u=Value.ref b:=ry;obtain⟨its,rv,pl,_⟩:=I.list ha;obtain⟨its2,rv2,pl2,_⟩:=I.list hb;have l1:its.length=xs.length:=by rw[<-rv.length,rs.length]
 have l2:its2.length=ys.length:=by rw[<-rv2.length,rs2.length]
 have hu0:X.A.units<cLine:=by omega
 by_cases hl:xs.length=ys.length
 ·rw[if_pos hl]at hr;obtain⟨e1,e2⟩:=vt hr;have he:∀j (h1:j<its.toArray.size) (h2:j<its2.toArray.size),EqX X.prog X.w X.A.in1 s its.toArray[j] its2.toArray[j] (wo eqE xs ys j):=fun j h1 h2=>by
   have h1':j<xs.length:=by simpa [l1] using h1
   have h2':j<ys.length:=by simpa [l2] using h2
   obtain⟨w1,L3,g1,g2,_⟩:=rs.get (i:=j) (d:=xs[j]) (by simp[h1']);obtain⟨w2,L4,g3,g4,_⟩:=rs2.get (i:=j) (d:=ys[j]) (by simp[h2']);obtain⟨z1,k1,k2⟩:=rv.get g1;obtain⟨z2,k3,k4⟩:=rv2.get g3;have m1:its.toArray[j]=z1:=by
    have:=(tT.mp k1).2
    simpa using this
   have m2:its2.toArray[j]=z2:=by
    have:=(tT.mp k3).2
    simpa using this
   rw[m1,m2];exact z0c I _ (by show X.A.units+1+11<cLine;omega) _ _ w1 w2 L3 L4 z1 z2 _ (e2 j _ _ (by simp[h1']) (by simp[h2'])) g2 g4 k2 k4
  have hsz:its.toArray.size=its2.toArray.size:=by simp[l1,l2,hl]
  have eb:r=(List.range its.toArray.size).all (wo eqE xs ys):=by
   rw[e1];congr 2;simp[l1,hl]
  obtain⟨⟨cls,dd,data,sl⟩,ho,hc,n,hd⟩:=pl.isList;obtain⟨⟨cls2,dd2,data2,sl2⟩,ho2,hc2,n2,hd2⟩:=pl2.isList;simp only at hc hd hc2 hd2;subst hc hd hc2 hd2;refine wpAny_richCompare_same_room (op:=.NotEq) ⟨_,ho,rfl⟩ ⟨_,ho2,rfl⟩ jQx (call_meetsIn jQx ⟨_,ho,rfl⟩ PySem.F.entry_list_ne (PySem.F.args_list_ne_2 _ _) (WY a b _ _ n n2 dd dd2 sl sl2 hsz (wo eqE xs ys)) ⟨⟨⟨ho,ho2⟩,?_⟩,?_⟩) hu0
  ·exact he
  ·rw[<-eb];exact⟨(fun x=>nomatch x),.bl (!r),H,I,rfl,q⟩
 ·rw[if_neg hl]at hr;cases hr;have hsz:(its.toArray.size != its2.toArray.size)=true:=by simp[l1,l2,hl]
  exact SeqAt.RcNeAt.lists_lengths pl.isList pl2.isList hsz hu0 X.prog X.w X.xe _ ⟨.bl true,H,I,rfl,q⟩
def z1s {K:jJa}:OpB K (z1f K) kY:=by
 rintro H x y dx dy Lx Ly Q rx ry ⟨d,hg,q⟩;unfold kY at hg;split at hg
 ·rename_i xs ys;split at hg
  ·rename_i r hr;cases hg;obtain⟨a,vs,L',rfl,ha,_,rs⟩:=rx;obtain⟨b,ws,L2',rfl,hb,_,rs2⟩:=ry;exact⟨a,b,vs,ws,xs,ys,_,_,r,rfl,rfl,SqL.of ha,SqL.of hb,rs,rs2,hr,q _ H [] (Same.refl H) ⟨rfl,rfl⟩ (by simp) (fun a ha=>nomatch ha)⟩
  ·cases hg
 ·cases hg
theorem MtM.or2 {X:Cx}{id:String}{r r':V->List V->Hp->VK->Prop}(h:MtM X id r)(h':MtM X id r'):MtM X id (fun x xs H Q=>r x xs H Q\/r' x xs H Q):=by
 intro pins s σ H x xs v us Q I rx rs q;rcases q with q|q
 ·exact h pins s σ H x xs v us Q I rx rs q
 ·exact h' pins s σ H x xs v us Q I rx rs q
def z0F (K:jJa):V->List V->Hp->VK->Prop:=fun x vs H Q=>∃l b xs zs,x=.ref l/\vs=[.ref b]/\H l=some (.lst xs)/\SqT K H b zs/\xs.length+zs.length<=sizeLine/\Q .non (upd H l (.lst (xs++zs)))
def QQ {X:Cx}:MtM X "list.extend" (z0F X.K):=by
 intro pins s σ H x vs v us Q I rx rv h;obtain⟨l,b,xs,zs,rfl,rfl,hH,hB,hz,q⟩:=h;cases rx;obtain⟨u,rfl,ru⟩:=rv.one;cases ru;obtain⟨z,its,n,r,hl,e⟩:=I.lstM hH;obtain⟨its2,r2,⟨o,ho,hc,⟨hd,hs⟩,n2,hdat⟩,hz2⟩:=I.tupN hB;have hl2:=r2.length;obtain⟨cls,dct,dat,sl⟩:=o;simp only at hc hd hs hdat;subst hc hd hs hdat;have hsz:its.toArray.size+its2.toArray.size<=sizeLine:=by rw[tS,tS];omega
 have hlong:¬(!its.toArray.isEmpty&&Builtin.List.listTooLong (its.toArray.size+its2.toArray.size))=true:=by
  rw[jl hsz,pN];exact tH
 refine call_meets F.slot_list_extend ⟨_,e,rfl⟩ F.entry_list_extend (F.args_list_extend_2 _ _)
  (AutoSeq1.list_extend_list_tuple_0 l its.toArray n b its2.toArray n2 hlong (by rw[tS];omega) (by omega)) ⟨e,ho,?_⟩
 refine⟨.non,_,I.lset (its':=its++its2) hH e (by simp) (r.append r2) ?_,rfl,q⟩;rw[tK];omega
section
variable {X:Cx}{E:XK}{Γ Γl:List Cl}{pos:Pos}{e:Expr}{t:Tn->R D}{c:Rc}
def uX (i:Nat)(t:Tn->R D):Tn->R Fl:=fun τ=>match τ[i]? with
 | some (some (.lst xs))=>(t τ).bind fun y=>(match y with
  | .lst ys=>if D.imms ys=true/\xs.length+ys.length<=sizeLine then .ok (.nx (τ.set i (some (.lst (xs++ys))))) else .bad
  | .tup ys=>if D.imms ys=true/\xs.length+ys.length<=sizeLine then .ok (.nx (τ.set i (some (.lst (xs++ys))))) else .bad
  | _=>.bad)
 | _=>.bad
def VR (i:Nat){x:Str}{p0 p1 p2:Pos}(he:ME X E Γ e t c)(hN:autoParam (X.N[i]?=some x) au3._auto_1)(h0:autoParam (Γ[i]?=some .own) au3._auto_1)(hv:autoParam (Vis X.env.scope x) au6._auto_1)(hb:autoParam ((x==("__debug__":Str))=false) au1._auto_1)(hcd:autoParam ((x==("__classdict__":Str))=false) au1._auto_1)
  (hbase:autoParam (attributeBase (.Name x p0) "extend" X.env (eval (.Name x p0) X.env)=eval (.Name x p0) X.env) au3._auto_1)
  (hfew:autoParam (((backTo p2 (starEach [e] X.env)).all (fun x=>!x.1)&&(backToKw p2 (keywordEach [] X.env)).all (fun x=>x.1.isSome)&&decide ([e].length+([]:List Keyword).length+(if ([]:List Keyword).isEmpty then 0 else 1)<30))=true) au3._auto_1)
  (hline:autoParam ((p1.endLine==p2.line)=true) au3._auto_1) (hs:autoParam (starEach [e] X.env=(false,eval e X.env)::starEach [] X.env) au3._auto_1) (hplain:autoParam ((backTo p2 (starEach [] X.env)).any (·.1)=false) au3._auto_1)
  (hsw:autoParam (swapsWith (.Call (.Attribute (.Name x p0) "extend" p1) [e] [] p2) none pos.line X.env=pure false) au3._auto_1):
  MS X E Γl Γ (.Expr (.Call (.Attribute (.Name x p0) "extend" p1) [e] [] p2) pos) (uX i t) Γ:=by
 obtain⟨te,p,q⟩:=he;refine⟨_,qq (Zc jQr PySem.F.slot_list_extend PySem.F.type_list_extend (mt_extend.or2 QQ) (wq (pos:=p0) hN hv hb hcd) (wg p vX hs) hbase hfew hline hs hplain) hsw,fun B σ H τ Z ok h=>?_⟩;unfold uX at h;obtain⟨v,d,L,e1,e2,r,nd,_,_⟩:=ok.slot h0;rw[e2]at h;cases d with
 | lst xs =>
  dsimp only at h;obtain⟨a,ws,L',rfl,ha,rfl,rs⟩:=r;refine⟨_,e1,.inl ⟨rfl,ws,SqL.of ha⟩,?_⟩;obtain⟨O,eo,_⟩:=ok.eok;refine q O σ H τ _ eo ?_;cases ht:t τ with
  | err m=>rw[ht]at h;exact fun C H' e s=>h C H' e (ok.ext.trans s)
  | bad=>rw[ht]at h;exact h
  | ok dy =>
   rw[ht,jYa]at h;refine fun y H1 Ly s1 ry _=>?_;cases dy with
   | lst ys =>
    dsimp only at h
    by_cases hz:D.imms ys=true/\xs.length+ys.length<=sizeLine
    ·rw[if_pos hz]at h;obtain⟨c1,zs,Lz,rfl,hc1,rfl,qs⟩:=ry;obtain⟨v',d',L1,e1',e2',r',nd',n2',fin'⟩:=(ok.same s1).slot h0;rw[e1]at e1';cases e1';rw[e2]at e2';cases e2';obtain⟨a',ws',L2',ea,ha',rfl,rs'⟩:=r';cases ea;rw[s1 _ _ ha]at ha';cases ha';have mu:(∃vs,H1 a=some (.lst vs))\/∃kvs,H1 a=some (.dK kvs):=.inl ⟨_,s1 _ _ ha⟩;obtain⟨w1,w2⟩:=sI.mp nd';refine .inl ⟨a,c1,ws,zs,rfl,rfl,s1 _ _ ha,hc1,by rw[rs.length,qs.length];exact hz.2,?_⟩;have qs0:=(yp qs hz.1).upd (o:=.lst (ws++zs)) mu (by simp);have rs0:=rs'.upd (o:=.lst (ws++zs)) mu w1;have rr:=Reps.append rs0 qs0;rw[tQ]at rr;exact h _ _ (fin' _ _ (a::L2') [] [] rfl (TF.upd mu) (fun c hc _=>zK fun z=>hc (z▸tF)) ⟨a,ws++zs,L2',rfl,zE,rfl,rr⟩ (fun c hc=>.inl hc) nd')
    ·rw[if_neg hz]at h;exact h.elim
   | tup ys =>
    dsimp only at h
    by_cases hz:D.imms ys=true/\xs.length+ys.length<=sizeLine
    ·rw[if_pos hz]at h;obtain⟨c1,zs,rfl,hc1,qs⟩:=ry;obtain⟨v',d',L1,e1',e2',r',nd',n2',fin'⟩:=(ok.same s1).slot h0;rw[e1]at e1';cases e1';rw[e2]at e2';cases e2';obtain⟨a',ws',L2',ea,ha',rfl,rs'⟩:=r';cases ea;rw[s1 _ _ ha]at ha';cases ha';have mu:(∃vs,H1 a=some (.lst vs))\/∃kvs,H1 a=some (.dK kvs):=.inl ⟨_,s1 _ _ ha⟩;obtain⟨w1,w2⟩:=sI.mp nd';refine .inr ⟨a,c1,ws,zs,rfl,rfl,s1 _ _ ha,hc1,by rw[rs.length,qs.length];exact hz.2,?_⟩;have qs0:=(yp qs hz.1).upd (o:=.lst (ws++zs)) mu (by simp);have rs0:=rs'.upd (o:=.lst (ws++zs)) mu w1;have rr:=Reps.append rs0 qs0;rw[tQ]at rr;exact h _ _ (fin' _ _ (a::L2') [] [] rfl (TF.upd mu) (fun c hc _=>zK fun z=>hc (z▸tF)) ⟨a,ws++zs,L2',rfl,zE,rfl,rr⟩ (fun c hc=>.inl hc) nd')
    ·rw[if_neg hz]at h;exact h.elim
   | _=>exact h.elim
 | _=>exact h.elim
end
section
variable {X:Cx}{E:XK}{Γ:List Cl}{o:Expr}{t:Tn->R D}{c:Rc}{apos cpos:Pos}
end
section
variable {X:Cx}{E:XK}{Γ:List Cl}{e:Expr}{t:Tn->R D}{c:Rc}
end
section
variable {X:Cx}{E:XK}{Γ:List Cl}{e:Expr}{t:Tn->R D}{c:Rc}{p2 p3 p4 pos:Pos}{j:Nat}
end
def TF.trans {H H1 H2:Hp}(a:TF H H1)(b:TF H1 H2):TF H H2:=⟨fun x xs e=>b.tup x xs (a.tup x xs e),fun x o u e=>b.frz x o u (a.frz x o u e),fun x C dx fs e=>b.ins x C dx fs (a.ins x C dx fs e)⟩
def SOk.slotF {K:jJa}{Γ:List Cl}{B H:Hp}{σ:St}{τ:Tn}{i:Nat}(h:SOk K Γ B H σ τ [])(e:Γ[i]?=some .own):∃v d L,σ[i]?=some (some v)/\τ[i]?=some (some d)/\Rep K H d v L/\L.Nodup/\(∀a∈L,B a=none) /\
  ∀(H2:Hp) (d2:D) (L2:List Addr),TF H H2->(∀b,b∉L->H b≠none->H2 b=H b)->Rep K H2 d2 v L2->(∀a∈L2,a∈L\/H a=none)->L2.Nodup->SOk K Γ B H2 σ (τ.set i (some d2)) []:=by
 obtain⟨Ls,h1,h2,h3,h4,h5,h6⟩:=h.ex;obtain⟨v,d,e1,e2,r⟩:=h1 i _ e (by simp);refine⟨v,d,Ls i,e1,e2,r,(h2 i e).1,(h2 i e).2,?_⟩;intro H2 d2 L2 tf kp r2 sub nd;have hτ:i<τ.length:=(tT.mp e2).1;have notL:∀b,B b≠none->b∉Ls i:=fun b hb hm=>hb ((h2 i e).2 b hm);refine⟨fun b o q=>?_,h.lσ,by rw[sO];exact h.lτ,Yq Ls i L2,fun j c ej hc=>?_,fun j ej=>?_,fun j k c hjk ej ek hc a ha hm=>?_,pA,fun a ha=>(nomatch ha),fun j c ej hc a ha hm=>(nomatch hm)⟩
 ·have hq:=h.ext b o q;rw[kp b (notL b (by rw[q];simp)) (by rw[hq];simp)];exact hq
 ·by_cases z:j=i
  ·subst z;refine⟨v,d2,e1,by rw[sE hτ],?_⟩;rw[y0];exact r2
  ·obtain⟨v',d',q1,q2,r'⟩:=h1 j c ej hc;refine⟨v',d',q1,by rw[sC (Ne.symm z)];exact q2,?_⟩;rw[zU z];exact Rep.keep tf d' v' _ r' fun a ha=>kp a (fun hm=>h3 i j c (Ne.symm z) e ej hc a hm ha) (r'.there ha)
 ·by_cases z:j=i
  ·subst z;rw[y0];refine⟨nd,fun a ha=>?_⟩;rcases sub a ha with m|m
   ·exact (h2 _ e).2 a m
   ·exact h.ext.non m
  ·rw[zU z];exact h2 j ej
 ·by_cases z:j=i
  ·subst z;rw[y0]at ha;rw[zU (Ne.symm hjk)]at hm;rcases sub a ha with m|m
   ·exact h3 _ k c hjk e ek hc a m hm
   ·obtain⟨v',d',q1,q2,r'⟩:=h1 k c ek hc;exact r'.there hm m
  ·rw[zU z]at ha
   by_cases z2:k=i
   ·subst z2;rw[y0]at hm;rcases sub a hm with m|m
    ·exact h3 j _ _ hjk ej e (by simp) a ha m
    ·obtain⟨v',d',q1,q2,r'⟩:=h1 j _ ej (by simp);exact r'.there ha m
   ·rw[zU z2]at hm;exact h3 j k c hjk ej ek hc a ha hm
section
variable {X:Cx}{E:XK}{Γ Γl:List Cl}{pos:Pos}{e:Expr}{t:Tn->R D}{c:Rc}
end
section
variable {X:Cx}{E:XK}{Γ Γl:List Cl}{pos:Pos}{e:Expr}{t:Tn->R D}{c:Rc}
end
open PySem PySem.Spec PyProof.Rows PySem.Builtin.Str
def Uu {K:jJa}{H:Hp}{y:Str}{vs:List V}{L:List Addr}(r:Reps K H [.str y] vs L):vs=[.str y]:=by
 obtain⟨v,vs',L1,L2,e1,_,r1,r2⟩:=r;rw[e1,r1.1,r2.1]
section
variable {X:Cx}{E:XK}{Γ:List Cl}{o:Expr}{t:Tn->R D}{c:Rc}{apos cpos:Pos}
end
def PEp (X:Cx)(e:Expr)(t:TE):Prop:=
 ∀(pins:List (Addr×Obj)) (s:Shared) (σ:St) (H:Hp) (Q:VK),0<s.toks->Inv X pins σ H s->t σ H Q->wpAny (model X.prog X.w) X.A (eval e X.env) (EP X pins σ Q) X.xe s
section
variable {X:Cx}{o:Expr}{to:TE}{a b:Str}{j1 j2:Nat}{p1 p2 apos cpos:Pos}
end
section
end
def MEp (X:Cx)(E:XK)(Γ:List Cl)(e:Expr)(t:Tn->R D)(c:Rc):Prop:=
 ∃te,PEp X e te/\∀O σ H τ Q,EOk X.K Γ O H σ τ->post X.K E O c H Q (t τ)->te σ H Q
section
variable {X:Cx}{E:XK}{Γ Γ' Γl:List Cl}{e o:Expr}{t:Tn->R D}{c:Rc}{a b:Str}{j1 j2:Nat}{p1 p2 apos cpos pos:Pos}
end
section
variable {P:Program}{w:World}{K:jJa}{mg:Str->Option Value}{base:Heap}{x:Str}{st:Stmt}{N ps:List Str}{k:Nat}{t:Tn->R Fl}{Γ':List Cl}
end
section
open PySem.SeqAt PySem.MeetsSeq3
open PySem.AutoSeq1 (wpAny_loadPart')
end
section
open PySem.SeqAt PySem.MeetsSeq PySem.MeetsSeq3
open PySem.AutoSeq1 (wpAny_loadPart')
end
section
variable {X:Cx}{E:XK}{Γ Γs Γl:List Cl}{x:Str}{k:Nat}{ps:List Str}{F:List D->R D}{e:Expr}{es:List Expr}{t:Tn->R D}{u:Tn->R (List D)}{c:Rc}{p pos:Pos}{n:Nat}
end
section
variable {X:Cx}{E:XK}{Γ Γl:List Cl}{pos:Pos}
end
section
end
def SuiteA (X:Cx)(CS:Addr)(i j:Nat)(sts:List Stmt)(g:Str->Option Int):Prop:=∀(m:Str) (k:Int),g m=some k->∀C,ErrC X.K m C->PySem.W.exmOne X.K (.ref C) (.ref CS)=some true /\
 ∃ts:Addr->Obj->TS,(∀e oe,PSs (X.within e oe) sts (ts e oe))/\∀e oe (Z:Ends) (σ:St) (H:Hp) (n:Int),σ.length=X.N.length->oe.cls=.ref C->H e=none->σ[i]?=some (some (.ref e))->σ[j]?=some (some (.int n))->(∀H',Same H H'->Z.nx (σ.set j (some (.int (n+k)))) H')->ts e oe Z σ H
def SuiteA.ts {X:Cx}{CS:Addr}{i j:Nat}{sts:List Stmt}{g:Str->Option Int}(hs:SuiteA X CS i j sts g)(e:Addr)(oe:Obj):TS:=fun Z σ H=>∃(m:Str) (k:Int) (hg:g m=some k) (C:Addr) (hC:ErrC X.K m C),Classical.choose (hs m k hg C hC).2 e oe Z σ H
section
variable {X:Cx}{E:XK}{Γ Γl Γ':List Cl}{k:Nat}{CS:Addr}{ps:List Str}{F:List D->R D}{nA:Nat}{x xc n:Str}{p pos pos' pc hpos tpos:Pos}{e:Expr}{es:List Expr}{u:Tn->R (List D)}{c:Rc}{i j:Nat}{b₀:Stmt}{suite:List Stmt}{g:Str->Option Int}
end
section
variable {X:Cx}{E:XK}{Γ:List Cl}{pos:Pos}{x:Str}
end
section
variable {X:Cx}{E:XK}{Γ Γl:List Cl}{pos p0:Pos}{ix:Expr}{ti:Tn->R D}{c:Rc}
end
section
variable {X:Cx}{E:XK}{Γ Γl Γ':List Cl}{k:Nat}{ps:List Str}{F:List D->R D}{nA:Nat}{x xc n:Str}{p pos pos' pc hpos tpos:Pos}{e:Expr}{es:List Expr}{u:Tn->R (List D)}{c:Rc}{i j:Nat}{b₀:Stmt}{suite:List Stmt}{g:Str->Option Int}
end
section
variable {X:Cx}{E:XK}{Γ Γl:List Cl}{pos:Pos}
end
section
variable {X:Cx}{st:Stmt}{rest:List Stmt}{t u:TS}
end
section
variable {X:Cx}{tg:Expr}
end
section
variable {X:Cx}{E:XK}{Γ Γ1 Γ2 Γ' Γl:List Cl}{pos:Pos}{e:Expr}{t:Tn->R D}{c:Rc}
end
def wa (a b:Str):Bool:=!decide (b.cps.toList<a.cps.toList)
section
variable {X:Cx}
theorem jm:∀ {us:List Value} {ss:List Str},StrsAre us ss->Vals (ss.map V.str) us
 | _,_,.nil=>.nil
 | _,_,.cons x t h=>.cons ⟨t,rfl⟩ (jm h)
end
def xC (a b:Str):wa a b=true↔a.cps.toList<=b.cps.toList:=by
 unfold wa;rw[Bool.not_eq_true',decide_eq_false_iff_not];exact Iff.rfl
def uN (a b c:Str)(h1:wa a b=true)(h2:wa b c=true):wa a c=true:=(xC a c).mpr (List.le_trans ((xC a b).mp h1) ((xC b c).mp h2))
def Zx (a b:Str):(wa a b||wa b a)=true:=by
 rw[Bool.or_eq_true];rcases List.le_total a.cps.toList b.cps.toList with h|h
 ·exact .inl ((xC a b).mpr h)
 ·exact .inr ((xC b a).mpr h)
def jh (a b:Str)(h1:wa a b=true)(h2:wa b a=true):a=b:=by
 have e:=List.le_antisymm ((xC a b).mp h1) ((xC b a).mp h2);obtain⟨x⟩:=a;obtain⟨y⟩:=b;have e:x=y:=Array.toList_inj.mp e;rw[e]
theorem jK:∀(l:List Str) (p:Str),risingS p l=true->(p::l).Pairwise (fun a b=>wa a b=true)
 | [],p,_=>List.pairwise_singleton _ _
 | x::r,p,h=>by
  have h:(!ltCps x.cps.toList p.cps.toList&&risingS x r)=true:=h;rw[sY]at h;have ih:=jK r x h.2;have h0:wa p x=true:=by
   have:=h.1;rw[ltCps_eq]at this;exact this
  refine List.pairwise_cons.mpr ⟨fun y hy=>?_,ih⟩;rcases tV.mp hy with e|e
  ·rw[e];exact h0
  ·exact uN _ _ _ h0 ((List.pairwise_cons.mp ih).1 y e)
def Wa:∀(l:List Str),sortedS l=true->l.Pairwise (fun a b=>wa a b=true)
 | [],_=>.nil
 | x::r,h=>jK r x h
def uR (ss:List Str):List Str:=ss.mergeSort wa
def jq (ss:List Str):(uR ss).Pairwise (fun a b=>wa a b=true):=List.pairwise_mergeSort uN Zx ss
def vT (ss:List Str):(uR ss).Perm ss:=List.mergeSort_perm ss wa
def Yy {ss ss':List Str}(hp:ss'.Perm ss)(hs:sortedS ss'=true):ss'=uR ss:=
 List.Perm.eq_of_pairwise (fun a b _ _=>jh a b) (Wa ss' hs) (jq ss) (hp.trans (vT ss).symm)
theorem vP {K:jJa}{H:Hp}:∀ss:List Str,Reps K H (ss.map D.str) (ss.map V.str) []
 | []=>Reps.nil
 | z::ss=>⟨_,_,[],[],rfl,rfl,⟨rfl,rfl⟩,vP ss⟩
section
variable {prog:Program}{w:World}{A:Around}{E:Value->Shared->Prop}{s:Shared}
end
section
variable {X:Cx}{E:XK}{Γ:List Cl}{e:Expr}{t:Tn->R D}{c:Rc}{p2 p3 p4 pos:Pos}{j:Nat}
end
section
variable {X:Cx}{E:XK}{Γ Γl:List Cl}{pos:Pos}
end
section
variable {X:Cx}{E:XK}{Γ Γl:List Cl}{pos:Pos}
end
open PySem PySem.Spec PyProof.Rows PySem.W
open PySem.AutoSeq1 (wpAny_loadPart')
section
variable {prog:Program}{w:World}{A:Around}{E:Value->Shared->Prop}{s:Shared}{T:String}{r d:Addr}{n:Nat}{P:Nat->Value->Prop}{OK:Heap->Prop}
end
section
variable {K:jJa}{Γ:List Cl}{B H H1:Hp}{σ:St}{τ:Tn}
end
section
variable {X:Cx}{E:XK}{Γ Γl:List Cl}{pos pos':Pos}
end
def z21 (X:Cx)(ifs:List Expr)(t:TT):Prop:=
 ∀(pins:List (Addr×Obj)) (s:Shared) (σ:St) (H:Hp) (Q:Bool->Hp->Prop),0<s.toks->Inv X pins σ H s->t σ H Q ->
  wpAny (model X.prog X.w) X.A (forIn ifs true fun c r=>if r=true then do let ok <-isTrue c X.env (eval c X.env);pure (ForInStep.yield ok) else pure (ForInStep.yield r)) (TP X pins σ Q) X.xe s
def z2g (X:Cx)(E:XK)(Γ:List Cl)(ifs:List Expr)(t:Tn->R Bool):Prop:=
 ∃te,z21 X ifs te/\∀O σ H τ Q,EOk X.K Γ O H σ τ->postB X.K E H Q (t τ)->te σ H Q
section
variable {X:Cx}{E:XK}{Γ Γ' Γl:List Cl}{pos p:Pos}{e a b:Expr}{t ta tb:Tn->R D}{c ca cb:Rc}{x:Str}{id:String}
end
def Itu (lo k:Int)(n:Nat):It:=⟨fun i _=>i<n,fun i H x H'=>H'=H/\x=.int (lo+(i:Int)*k),fun i _=>n<=i⟩
section
variable {X:Cx}{tg:Expr}
end
def upw (lo k:Int)(n:Nat):List D:=(List.range n).map fun (i:Nat)=>.int (lo+(i:Int)*k)
section
variable {X:Cx}{E:XK}{Γ:List Cl}{tg:Expr}{u:Tn->R (List D)}{c:Rc}{p pos:Pos}
end
section
variable {X:Cx}{E:XK}{Γ Γl:List Cl}{pos:Pos}
end
end L2
namespace HW
open PySem PySem.W
def vI {α:Type}:List α->List α
 | a::_::r=>a::vI r
 | l=>l
def jt {α:Type}:List α->List α
 | _::b::r=>b::jt r
 | _=>[]
theorem kh {α:Type}:∀(l:List α) (k:Nat),(vI l)[k]?=l[2*k]?
 | [],k=>by simp[vI]
 | [a],k=>by cases k<;>simp[vI]
 | a::b::r,0=>by simp[vI]
 | a::b::r,k+1=>by
  have ih:=kh r k;show (a::vI r)[k+1]?=_;rw[tD,ih,show 2*(k+1)=2*k+1+1 by omega,tD,tD]
theorem Yc {α:Type}:∀(l:List α) (k:Nat),(jt l)[k]?=l[2*k+1]?
 | [],k=>by simp[jt]
 | [a],k=>by simp[jt]
 | a::b::r,0=>by simp[jt]
 | a::b::r,k+1=>by
  have ih:=Yc r k;show (b::jt r)[k+1]?=_;rw[tD,ih,show 2*(k+1)+1=2*k+1+1+1 by omega,tD,tD]
theorem jO {α:Type}:∀l:List α,(vI l).length<=l.length
 | []=>tM _
 | [_]=>tM _
 | a::b::r=>by show (vI r).length+1<=r.length+1+1;have:=jO r;omega
theorem ZK {α:Type}:∀l:List α,(jt l).length<=l.length
 | []=>tM _
 | [_]=>sZ _
 | a::b::r=>by show (jt r).length+1<=r.length+1+1;have:=ZK r;omega
def tr:Nat->List Obj->BT
 | n+1,o::l=>.node o (tr n (vI l)) (tr n (jt l))
 | _,_=>.nil
theorem YZ:∀(n:Nat) (l:List Obj),l.length<=n->∀i,(tr n l).get i=l[i]?
 | 0,[],_,i=>by simp[tr,BT.get]
 | 0,_::_,h,_=>by cases h
 | n+1,[],_,i=>by simp[tr,BT.get]
 | n+1,o::l,h,i=>by
  have hl:l.length<=n:=by simpa using h
  show (BT.node o (tr n (vI l)) (tr n (jt l))).get i=_;rw[BT.get_node]
  by_cases h0:i=0
  ·subst h0;rfl
  ·rw[if_neg h0]
   by_cases h1:i%2=1
   ·rw[if_pos h1,YZ n _ (rJ (jO l) hl),kh];obtain⟨k,rfl⟩:∃k,i=2*k+1:=⟨i/2,by omega⟩
    rw[show (2*k+1)/2=k by omega,tD]
   ·rw[if_neg h1,YZ n _ (rJ (ZK l) hl),Yc];obtain⟨k,rfl⟩:∃k,i=2*k+1+1:=⟨i/2-1,by omega⟩
    rw[show (2*k+1+1)/2-1=k by omega,tD]
def UB (l:List Obj):(tr l.length l).list l.length=l:=by
 unfold BT.list;refine List.ext_getElem? fun i=>?_;rw[sJ]
 by_cases h:i<l.length
 ·rw[List.getElem?_range h,Option.map_some,YZ _ _ (tM _),rD h];rfl
 ·rw[List.getElem?_eq_none (by rw[pL];omega),List.getElem?_eq_none (by omega)];rfl
def asT (s:Shared):SharedT:=⟨tr s.heap.objs.toList.length s.heap.objs.toList,s.heap.objs.toList.length,s.heap.life,s.gens,s.drawn,s.toks,s.os⟩
def UT (s:Shared):(asT s).abs=s:=by
 obtain⟨⟨⟨l⟩,life⟩,gens,drawn,toks,os⟩:=s;show (⟨⟨((tr l.length l).list l.length).toArray,life⟩,gens,drawn,toks,os⟩:Shared)=_;rw[UB]
def env0 (p:Program):Env:={ scope:=p.main.scope,locals:=mainNs,globals:=mainNs,cells:=[],code:=.ref 13,frame:=some 14 }
def p0:Pos:=⟨0,0,0,0⟩
def j8 (p:Program):Code:=.body (behindTheImports p) (env0 p)
def runAll (p q:Program)(loose:List Str)(Xt:Shared->Bool){α:Type}(Yf:Shared->α)(n1:Nat)(w:World)(os:OsState):=
 (Fast.tw15667345088766844465 Fast.tw14364793385576792824 p w 11 (some (.ref 6)) 12 ⟨boot_heap w.params,Array.mk [],boot_drawn,boot_toks,os⟩ (topStub p)).bind fun a =>
 (Fast.tw14374325043358763698 Fast.tw14364793385576792824 p w 11 (some (.ref 6)) 1 1 a.1 (blockOf (behindTheImports p) (env0 p) (j8 p) p0 [topFrame p0])).bind fun b =>
 (Fast.tw10110043849684766642 Fast.tw14364793385576792824 p w 11 (some (.ref 6)) 1 n1 (asT b.2.1) (piecesOf (behindTheImports p) (env0 p) (j8 p) b.2.2.2 [topFrame p0])).bind fun c =>
 (Fast.tw14082659384304107361 Fast.tw14364793385576792824 p w 11 (some (.ref 6)) 2 c.2.1.abs ⟨doneF .next,j8 p,c.2.2.2,[topFrame p0]⟩).map fun s =>
  (a.2,(b.1,b.2.2.1),(c.1,c.2.2.1),(staticsOk (Fast.tw5923862056798008813 p.main.body) (boot_heap w.params) s.heap&&namesBound p s.heap&&gensDone s&&laidKept (boot_heap w.params) s.heap),Fast.tw4187177175401517315 q loose (Fast.tw5923862056798008813 p.main.body) Xt true s,Yf s)
section
variable (p q:Program)(loose:List Str)(Xt:Shared->Bool){α:Type}(Yf:Shared->α)(Ya:World->α)(n1:Nat)
def Pa:Prop:=∀w os,(runAll p q loose Xt Yf n1 w os).map (fun r=>(r.1,r.2.1,r.2.2.1,r.2.2.2.1,r.2.2.2.2.2))=some (⟨Fast.tw11892475500146522536 Fast.tw14364793385576792824 (j8 p),j8 p,p0,[topFrame p0]⟩,(.next,j8 p),(.next,j8 p),true,Ya w)
def Pb:Prop:=∀w os,(runAll p q loose Xt Yf n1 w os).map (fun r=>(r.2.2.2.2.1.1,r.2.2.2.2.1.2.1))=some (PyProof.Rows.expectedOf q,bltViewBooted)
def Pc:Prop:=∀w os,(runAll p q loose Xt Yf n1 w os).map (fun r=>r.2.2.2.2.1.2.2.1)=some true
def Pd:Prop:=∀w os,(runAll p q loose Xt Yf n1 w os).map (fun r=>(r.2.2.2.2.1.2.2.2.1,r.2.2.2.2.1.2.2.2.2.1))=some (true,pinGoodD (PyProof.Rows.drecsOf q))
def Pe:Prop:=∀w os,(runAll p q loose Xt Yf n1 w os).map (fun r=>r.2.2.2.2.1.2.2.2.2.2.1)=some (PyProof.Rows.plainGoodE q (looseW q loose))
def Pf:Prop:=∀w os,(runAll p q loose Xt Yf n1 w os).map (fun r=>r.2.2.2.2.1.2.2.2.2.2.2)=some (PyProof.Rows.plainGoodD q loose,wideGood q,clsGoodW q loose)
end
def left_of {p q:Program}{loose:List Str}{Xt:Shared->Bool}{α:Type}{Yf:Shared->α}{Ya:World->α}{n1 N:Nat}
  (e:opening p=plainProg p.main.scope.names) (hN:Nat.ble 600 N=true) (f:∀s,fenceModules? p s=some s)
  (size:∀w:World,((boot_heap w.params).isNs mainGlobals&&(Array.mk []:Array GenState).size==0,(boot_heap w.params).objs.size,(boot_heap w.params).nsMap mainGlobals "__annotations__")=(true,11,some (.ref 6)))
  (le:Nat.ble (12+(1+(n1+2))) N=true)
  (ha:Pa p q loose Xt Yf Ya n1) (hb:Pb p q loose Xt Yf n1) (hc:Pc p q loose Xt Yf n1) (hd:Pd p q loose Xt Yf n1) (he:Pe p q loose Xt Yf n1) (hf:Pf p q loose Xt Yf n1):LeftO p q loose Xt Yf Ya N:=fun w=>by
 obtain⟨⟨hp,gn,dr,tk,os⟩,op,same⟩:=pC.mp (boot_open e hN f w);simp only[Prod.mk.injEq]at same;obtain⟨rfl,rfl,rfl,rfl⟩:=same;have sz:=size w;simp only[Prod.mk.injEq]at sz;obtain⟨⟨r1,r2,r3,r4,⟨s1,s2,s3,s4,s5,s6,s7⟩,r6⟩,hr,e1⟩:=pC.mp (ha w os);have e2:=hb w os;have e3:=hc w os;have e4:=hd w os;have e5:=he w os;have e6:=hf w os;rw[hr]at e2 e3 e4 e5 e6;simp only[Option.map_some,Option.some.injEq,Prod.mk.injEq]at e1 e2 e3 e4 e5 e6;obtain⟨rfl,rfl,rfl,rfl,rfl⟩:=e1;obtain⟨rfl,rfl⟩:=e2;obtain rfl:=e3;obtain⟨rfl,rfl⟩:=e4;obtain rfl:=e5;subst e6;unfold runAll at hr;rw[<-Fast.te15667345088766844465,<-Fast.te14364793385576792824,<-Fast.te14374325043358763698,<-Fast.te10110043849684766642,<-Fast.te5923862056798008813,<-Fast.te4187177175401517315,<-Fast.te14082659384304107361,<-Fast.te11892475500146522536]at hr;obtain⟨⟨sa,ta⟩,ha,hr⟩:=pK.mp hr;obtain⟨⟨fb,sb,cb,pb⟩,hb,hr⟩:=pK.mp hr;obtain⟨⟨fc,sc,cc,pc⟩,hc,hr⟩:=pK.mp hr;obtain⟨s1,hd,hr⟩:=pC.mp hr;simp only[Prod.mk.injEq]at hr;obtain⟨rfl,⟨rfl,rfl⟩,⟨rfl,rfl⟩,good,seen,told⟩:=hr;dsimp only at hb hc hd;have hc2:=segRun_of hc;rw[UT]at hc2;have whole:=piece_app (rest:=[]) hc2 (piece_nil hd);rw[tQ]at whole;have run:=topRun_mono (N-(12+(1+(n1+2)))) _ _ _ _ (go_top ha (piece_block hb whole));have eN:12+(1+(n1+2))+(N-(12+(1+(n1+2))))=N:=by have z:=Nat.le_of_ble_eq_true le;omega
 rw[eN]at run;have ends:topFrom treeTable p w N ⟨boot_heap w.params,Array.mk [],boot_drawn,boot_toks,os⟩=some s1:=by
  show (match (boot_heap w.params).isNs mainGlobals&&(Array.mk []:Array GenState).size==0 with|true=>_|false=>_)=_;rw[sz.1,sz.2.1,sz.2.2];show Option.bind (topRun treeTable p w 11 (some (.ref 6)) N _ _) _=_;rw[run];show (match (_:Bool)with|true=>some s1|false=>none)=_;rw[good]
 have both:openEnds treeTable p w N=some s1:=by unfold openEnds;rw[op];exact ends
 rw[both,Option.map_some,seen,told];rfl
open PySem.Spec PyProof.Rows L2 in
def dfn {K:Frag}{mg:Str->Option Value}{h:Heap}{n:Str}{st:Stmt}{ps:List Str}{a c:Addr}{m:Str}{t:Nat}(X:K.In h)(G:h.Ns mainGlobals mg)
  (hl:∀ {kV dc pm:Value} {an:Option Addr} {cd ct:Value} (us:List Value),us.length=ps.length->bindArgs (fnOf n n (defArgs st) (defBody st) (defScope st) .none kV dc pm an cd ct) { pos:=us }=pure (ps.zip us))
  (e:(nsIn K mainGlobals n,K.lookup a,codeIn K (.ref c) n,keepIn K (.ref a))=(some (some (.ref a)),some ⟨.type "function",none,.func (fnOf n n (defArgs st) (defBody st) (defScope st) .none .none .none (.str m t) none (.ref c) .none),#[]⟩,true,true)):DefIn K mg n st ps:=by
 simp only[Prod.mk.injEq]at e;exact Ve X G (fun _ _ _ _ _ _=>hl) e.1 e.2.1 e.2.2.1 e.2.2.2
end HW
namespace L2
open PySem PySem.Spec PyProof.Rows
def atF (j:Nat)(v:V)(t:TE):TE:=fun σ H Q=>σ[j]?=some (some v)/\t σ H Q
section
variable {X:Cx}{E:XK}{Γ:List Cl}{pos:Pos}
def MEF (X:Cx)(E:XK)(Γ:List Cl)(j:Nat)(v:V)(e:Expr)(t:Tn->R D)(c:Rc):Prop:=
 ∃te,PE X e te/\∀O σ H τ Q,σ[j]?=some (some v)->EOk X.K Γ O H σ τ->post X.K E O c H Q (t τ)->te σ H Q
end
def spF (K:jJa)(F:List D->R D)(n:Nat)(v:V):Sp:=fun vs H Q E=>∃ws,vs=ws++[v]/\ws.length=n/\∃ds L,Reps K H ds ws L/\post K E (fun _=>False) .fresh H Q (F ds)
section
variable {P:Program}{w:World}{K:jJa}{mg:Str->Option Value}{base:Heap}{N:List Str}{x:Str}{st:Stmt}{ps:List Str}{t:Tn->R Fl}{k n:Nat}{v:V}{Γ':List Cl}
end
section
variable {X:Cx}{E:XK}{Γ:List Cl}{pos p:Pos}{e:Expr}{es:List Expr}{t:Tn->R D}{u:Tn->R (List D)}{ca cb c:Rc}{v:V}
end
def z2e (P:Program)(w:World)(K:jJa)(mg:Str->Option Value)(base:Heap)(x:Str)(k:Nat)(ps:List Str)(F:List D->R D)(n:Nat)(g:Str):Prop:=∃f,mg g=some (.ref f)/\Own P w K mg base x k ps (spF K F n (.ref f))
def QT {X:Cx}{e:Expr}{te:TE}(h:PE X e te):PE X e (fun σ H Q=>te σ H fun v H1=>∃l xs,v=.ref l/\H1 l=some (.lst xs)/\∀o,Q v (upd H1 l (.frz o (.lst xs)))):=by
 intro pins s σ H Q I hq;refine wpAny_mono (h pins s σ H _ I hq) (fun u s1 hz=>?_) fun _ _ z=>z;obtain⟨v,H1,I1,r,l,xs,rfl,hl,q⟩:=hz;obtain⟨z,its,n,rv,hg⟩:=I1.hok l _ hl;refine⟨.ref l,upd H1 l (.frz { cls:=.type "list",data:=.seq its.toArray n } (.lst xs)),?_,r,q _⟩;exact I1.write (x:=l) (e:=l) (h':=s1.heap) (t':=s1.toks) (by rw[hl];trivial) (.inl rfl) (fun b u _ e=>e) ⟨_,hg⟩ ⟨hg,z,its,n,rv,hg⟩
def qv (d:D):R D:=match d with
 | .lst ds=>if D.imms ds=true then .ok (.frl ds) else .bad
 | _=>.bad
def kU {X:Cx}{E:XK}{Γ:List Cl}{e:Expr}{t:Tn->R D}(h:ME X E Γ e t .fresh):ME X E Γ e (eUn qv t) .fresh:=by
 obtain⟨te,p,q⟩:=h;refine⟨_,QT p,fun O σ H τ Q ok h=>q O σ H τ _ ok ?_⟩;unfold eUn at h;cases ht:t τ with
 | err n=>rw[ht]at h;exact h
 | bad=>rw[ht]at h;exact h
 | ok d =>
  rw[ht,jYa]at h;intro v H1 L s1 r1 k1;unfold qv at h;cases d with
  | lst ds =>
   dsimp only at h
   by_cases hi:D.imms ds=true
   ·rw[if_pos hi]at h;obtain⟨l,vs,L',rfl,hl,eL,rs⟩:=r1;have hl0:H l=none:=k1.2 l (by first|(rw[eL.1];exact tF)|(rw[eL];exact tF)|simp[eL]);refine⟨l,vs,rfl,hl,fun o=>?_⟩;have mu:(∃vs,H1 l=some (.lst vs))\/∃kvs,H1 l=some (.dK kvs):=.inl ⟨_,hl⟩;exact h (.ref l) _ [] (fun b o' e=>by rw[zK (yr e hl0)];exact s1 b o' e) ⟨l,vs,rfl,.inl ⟨o,zE⟩,rfl,hi,(yp rs hi).upd mu (by simp)⟩ RcOk.nil
   ·rw[if_neg hi]at h;exact h.elim
  | _=>exact h.elim
section
variable {prog:Program}{w:World}{A:Around}{E:Value->Shared->Prop}{s:Shared}
end
open PySem PySem.Spec PyProof.Rows PySem.Builtin.Str
section
variable {X:Cx}{E:XK}{Γ Γl:List Cl}{pos:Pos}
end
open PySem PySem.Spec PyProof.Rows PySem.Builtin.Str
section
variable {X:Cx}{pins:List (Addr×Obj)}{σ:St}{H:Hp}{s:Shared}
structure LamAt (X:Cx)(P:Addr)(ps:Array Value)(lp:Pos)(q:Str):Prop where
 tb:∃more,X.H₀ P=some (.tbl (ps++more))
 p0:ps[0]?=some (rawInt lp.line)
 p1:ps[1]?=some (rawInt lp.col)
 p2:∃t,ps[2]?=some (.str q t)
 cd:∃c,X.env.code=.ref c/\PySem.W.CodeHd X.base c P
 bb:X.base.BuiltinsAt X.mg P
 nm:mainGlobals≠P
end
section
variable {X:Cx}{pins:List (Addr×Obj)}{σ:St}{H:Hp}{s:Shared}{P:Addr}{ps:Array Value}{params:Arguments}{body:Expr}{scope:Scope}{lp:Pos}
end
section
variable {X:Cx}{pins:List (Addr×Obj)}{σ:St}{H:Hp}{s:Shared}
end
section
variable {X:Cx}{pins:List (Addr×Obj)}{σ:St}{H:Hp}
end
section
variable {X:Cx}{pins:List (Addr×Obj)}{σ:St}{H:Hp}{s:Shared}
end
def z0w (tk:Tn->R D):List D->Option (List (List Int))
 | []=>some []
 | .tup es::ds=>(match wy es,tk [some (.tup es)],z0w tk ds with
  | some _,.ok (.tup fs),some ks=>(match wy fs with
   | some ns=>if ns.length=2 then some (ns::ks) else none
   | none=>none)
  | _,_,_=>none)
 | _::_=>none
section
variable {X:Cx}{E:XK}{Γ:List Cl}{e:Expr}{t:Tn->R D}{c:Rc}{p pos kp lp:Pos}{te:TE}{P:Addr}{ps:Array Value}{params:Arguments}{body:Expr}{scope:Scope}{tk:Tn->R D}{y:Str}{k:Nat}
end
section
variable {X:Cx}{E:XK}{Γ:List Cl}{e:Expr}{t:Tn->R D}{c:Rc}{pos:Pos}{C:Addr}{f:Str}
end
structure OwnM (P:Program)(w:World)(K:jJa)(mg:Str->Option Value)(base:Heap)(C:Addr)(m:Str)(k:Nat)(ps:List Str)(sp:Sp):Prop where
 ex:∃f fd,FnOk P w K mg base (cxx P w) k f fd ps sp/\Meth K C m f/\Binds K fd ps []
section
variable {P:Program}{w:World}{K:jJa}{mg:Str->Option Value}{base:Heap}{x qual:Str}{st:Stmt}{N ps:List Str}{k:Nat}{t:Tn->R Fl}{Γ':List Cl}{TP:Addr}{tps:Array Value}
end
section
variable {X:Cx}{E:XK}{Γ:List Cl}{x m:Str}{k:Nat}{ps:List Str}{F:List D->R D}{o e:Expr}{es:List Expr}{to:Tn->R D}{u:Tn->R (List D)}{c co:Rc}{p pos apos:Pos}{n:Nat}{C TP:Addr}{tps:Array Value}{sp:Sp}{ta:TE}{t:TA}
end
def z0j:List Str:=["strips","rules","feet","marks","found"]
def z0:D:=.lst [.int 0]
def z1m (C:Addr)(S Ru fe ma:D)(fo:List D):D:=.obj C z0j [S,Ru,fe,ma,.lst fo]
def Jn (C:Addr)(tB tRow:Tn->R D)(S Hh Ru fe ma:D):Nat->List D->R (List D)
 | 0,dn=>.ok dn
 | k+1,dn=>(tB [some (z1m C S Ru fe ma (List.replicate (k+1) z0++dn)),some S,some Hh,some Ru,some (.int k),none]).bind fun bo =>
   (tRow [some (z1m C S Ru fe ma (List.replicate (k+1) z0++dn)),some S,some Hh,some Ru,some (.int k),some bo]).bind fun row=>Jn C tB tRow S Hh Ru fe ma k (row::dn)
def JA:D->Option (List Int)
 | .lst es=>wy es
 | _=>none
def z2d (C:Addr)(tFe tMa tLen:Tn->R D)(u:Tn->R (List D))(tB tRow:Tn->R D):List D->R (List D)
 | [S,Hh,Ru]=>(tFe [none,some S,some Hh,some Ru,none,none]).bind fun fe=>(tMa [none,some S,some Hh,some Ru,none,none]).bind fun ma =>
   match JA fe,JA ma,tLen [none,some S,some Hh,some Ru,none,none],u [none,some S,some Hh,some Ru,none,none]with
   | some _,some _,.ok (.int k),.ok [.int i,.int j,.int m]=>if 1<=k/\k<1000000/\i=k-2/\j=-1/\m=-1 then (Jn C tB tRow S Hh Ru fe ma (k-1).toNat [z0]).bind fun fo=>.ok [fe,ma,.lst fo] else .bad
   | _,_,_,_=>.bad
 | _=>.bad
def spI (K:jJa)(C:Addr)(Fi:List D->R (List D)):Sp:=fun vs H Q E=>∃x dx v0 v1 v2 ds L fe ma fo Hb,vs=[.ref x,v0,v1,v2]/\H x=some (.ins C dx [])/\Hb x=none/\Same Hb H/\Reps K Hb ds [v0,v1,v2] L/\Fi ds=.ok [fe,ma,fo] /\
 ∀H' v3 v4 v5 L',Same Hb H'->H' x=some (.ins C dx [("strips",v0),("rules",v2),("feet",v3),("marks",v4),("found",v5)])->Reps K H' [fe,ma,fo] [v3,v4,v5] L'->L'.Nodup->(∀a∈L',Hb a=none)->Q .non H'
section
variable {K:jJa}{C x dx af z:Addr}{v0 v1 v2 vF vM:V}{S Hh Ru fe ma:D}{L M:List Addr}{H0:Hp}
structure LoopI (K:jJa)(C x dx af z:Addr)(v0 v1 v2 vF vM:V)(S Hh Ru fe ma:D)(L M:List Addr)(H0:Hp)(k:Nat)(dn:List D)(σ:St)(H:Hp):Prop where
 kp:Same H0 H
 hx:H x=some (.ins C dx [("strips",v0),("rules",v2),("feet",vF),("marks",vM),("found",.ref af)])
 ra:Reps K H [S,Hh,Ru] [v0,v1,v2] L
 rf:Reps K H [fe,ma] [vF,vM] M
 ex:∃dv Ld,H af=some (.lst (List.replicate k (.ref z)++dv))/\Reps K H dn dv Ld/\(M++Ld).Nodup/\af∉M++Ld/\∀a∈Ld,H0 a=none
 hz:H z=some (.lst [.int 0])
 ls:σ.length=6
 s0:σ[0]?=some (some (.ref x))
 s1:σ[1]?=some (some v0)
 s2:σ[2]?=some (some v1)
 s3:σ[3]?=some (some v2)
theorem LoopI.same {k:Nat}{dn:List D}{σ σ':St}{H H':Hp}(h:LoopI K C x dx af z v0 v1 v2 vF vM S Hh Ru fe ma L M H0 k dn σ H)(s:Same H H')(hl:σ'.length=6)(hs:∀i,i<4->σ'[i]?=σ[i]?):LoopI K C x dx af z v0 v1 v2 vF vM S Hh Ru fe ma L M H0 k dn σ' H':=by
 obtain⟨dv,Ld,h1,h2,h3,h4,h5⟩:=h.ex;exact⟨h.kp.trans s,s _ _ h.hx,h.ra.same s,h.rf.same s,⟨dv,Ld,s _ _ h1,h2.same s,h3,h4,h5⟩,s _ _ h.hz,hl,by rw[hs 0 (by omega)];exact h.s0,by rw[hs 1 (by omega)];exact h.s1,by rw[hs 2 (by omega)];exact h.s2,by rw[hs 3 (by omega)];exact h.s3⟩
end
section
variable {X:Cx}{E:XK}{C:Addr}{tFe tMa tLen tB tRow:Tn->R D}{u:Tn->R (List D)}{ta:TA}{b1 b2 b3 b4 b5 b6:Stmt}
def Γi1:List Cl:=[.dead,.shr,.shr,.shr,.dead,.dead]
def Γi2:List Cl:=[.shr,.shr,.shr,.shr,.shr,.dead]
def Γi3:List Cl:=[.shr,.shr,.shr,.shr,.shr,.shr]
end
structure OwnI (P:Program)(w:World)(K:jJa)(mg:Str->Option Value)(base:Heap)(x:Str)(C:Addr)(k:Nat)(ps:List Str)(sp:Sp):Prop where
 ex:∃f fd,FnOk P w K mg base (cxx P w) k f fd ps sp/\Mk K C f/\Binds K fd ps []/\mg x=some (.ref C)
section
variable {P:Program}{w:World}{K:jJa}{mg:Str->Option Value}{base:Heap}{x qual:Str}{st:Stmt}{N ps:List Str}{k:Nat}{C:Addr}{b1 b2 b3 b4 b5 b6:Stmt}{Fi:List D->R (List D)}
end
section
variable {X:Cx}{E:XK}{Γ:List Cl}{x:Str}{k:Nat}{ps:List Str}{Fi:List D->R (List D)}{a b c:Expr}{u:Tn->R (List D)}{ca:Rc}{p pos fpos:Pos}{C:Addr}{t:TA}
end
structure MethIn (K:jJa)(C:Addr)(m qual:Str)(st:Stmt)(ps:List Str)(cv:Value):Prop where
 ex:∃(f:Addr) (oc:Value) (od an:Option Addr) (osl:Array (Option Value)) (kV doc pm ct:Value),K.lookup f=some ⟨oc,od,.func (jJb m qual (defArgs st) (defBody st) (defScope st) .none kV doc pm an cv ct),osl⟩/\jJf K cv qual=true/\Meth K C m f/\Binds K (jJb m qual (defArgs st) (defBody st) (defScope st) .none kV doc pm an cv ct) ps []
structure InitIn (K:jJa)(mg:Str->Option Value)(C:Addr)(x qual:Str)(st:Stmt)(ps:List Str)(cv:Value):Prop where
 ex:∃(f:Addr) (oc:Value) (od an:Option Addr) (osl:Array (Option Value)) (kV doc pm ct:Value),K.lookup f=some ⟨oc,od,.func (jJb "__init__" qual (defArgs st) (defBody st) (defScope st) .none kV doc pm an cv ct),osl⟩/\jJf K cv qual=true/\Mk K C f/\Binds K (jJb "__init__" qual (defArgs st) (defBody st) (defScope st) .none kV doc pm an cv ct) ps []/\mg x=some (.ref C)
structure FilC (K:jJa)(C:Addr):Prop where
 cl:Cls K C
 no:∀f∈z0j,Yj K C f
section
variable {P:Program}{w:World}{K:jJa}{mg:Str->Option Value}{base:Heap}{x m qual:Str}{st:Stmt}{N ps:List Str}{k:Nat}{t:Tn->R Fl}{Γ':List Cl}{TP C:Addr}{tps:Array Value}{cv:Value}
end
section
variable {prog:Program}{w:World}{A:Around}{R:Result->Shared->Prop}
end
section
open PySem.SeqAt PySem.MeetsSeq3
open PySem.AutoSeq1 (wpAny_loadPart')
end
section
variable {X:Cx}{pins:List (Addr×Obj)}{σ:St}{H:Hp}{s:Shared}
end
section
variable {X:Cx}{pins:List (Addr×Obj)}{σ:St}{H:Hp}
end
def Jz (K:jJa):R2:=fun x y H Q=>∃l b xs zs,x=.ref l/\y=.ref b/\SqL K H l xs/\SqL K H b zs/\xs.length+zs.length<=sizeLine/\∀p,H p=none->Q (.ref p) (upd H p (.lst (xs++zs)))
def UM {X:Cx}:OpR X (binaryOp .Add) (Jz X.K):=by
 intro pins s σ H x y v u Q I rx ry h;obtain⟨l,b,xs,zs,rfl,rfl,hl,hb,hz,q⟩:=h;cases rx;cases ry;obtain⟨its,r,p1,_⟩:=I.list hl;obtain⟨its2,r2,p2,_⟩:=I.list hb;have l1:=r.length;have l2:=r2.length;obtain⟨⟨cls,dd,data,sl⟩,ho,hc,n,hd⟩:=p1.isList;obtain⟨⟨cls2,dd2,data2,sl2⟩,ho2,hc2,n2,hd2⟩:=p2.isList;simp only at hc hd hc2 hd2;subst hc hd hc2 hd2;have ea:its.toArray++its2.toArray=(its++its2).toArray:=by simp
 refine concat_meets ⟨_,ho,rfl⟩ ⟨_,ho2,rfl⟩ noFill_list_add seq_list_add PySem.F.slot_list_add PySem.F.entry_list_add (PySem.F.args_list_add_2 _ _) (PyProof.Rows.list_addW l b its.toArray its2.toArray n n2 dd dd2 sl sl2 (by rw[tS,tS];omega)) ⟨ho,ho2,?_⟩;rw[ea];exact⟨.ref _,_,I.lnew (t':=s.toks) (r.append r2) (by rw[tK];omega),rfl,q _ I.fresh⟩
def asL:D->Option (List D)
 | .lst xs=>some xs
 | .frl xs=>some xs
 | _=>none
def uU (x y:D):R D:=match asL x,asL y with
 | some xs,some ys=>if D.imms xs=true/\D.imms ys=true/\xs.length+ys.length<=sizeLine then .ok (.lst (xs++ys)) else .bad
 | _,_=>.bad
def JV:w6 uU:=fun x y n h=>by
 unfold uU at h;split at h
 ·split at h<;>cases h
 ·cases h
def Xp {K:jJa}{H:Hp}{d:D}{v:V}{L:List Addr}{xs:List D}(h:asL d=some xs)(hi:D.imms xs=true)(r:Rep K H d v L):∃a vs,v=.ref a/\SqL K H a vs/\Reps K H xs vs []:=by
 cases d with
 | lst ds =>
  cases h;obtain⟨a,vs,L1,rfl,ha,_,rs⟩:=r;exact⟨a,vs,rfl,SqL.of ha,yp rs hi⟩
 | frl ds =>
  cases h;obtain⟨a,vs,rfl,ha,_,_,rs⟩:=r;exact⟨a,vs,rfl,ha.sq,rs⟩
 | _=>cases h
def Ky {K:jJa}:OpB K (Jz K) uU:=by
 rintro H x y dx dy Lx Ly Q rx ry ⟨d,hg,q⟩;unfold uU at hg;split at hg
 ·rename_i xs ys h1 h2;split at hg
  ·rename_i hz;cases hg;obtain⟨a,vs,rfl,ha,rs⟩:=Xp h1 hz.1 rx;obtain⟨b,ws,rfl,hb,qs⟩:=Xp h2 hz.2.1 ry;exact⟨a,b,vs,ws,rfl,rfl,ha,hb,by rw[rs.length,qs.length];exact hz.2.2,fun p hp=>wU (ds:=xs++ys) (Reps.append rs qs) hp q⟩
  ·cases hg
 ·cases hg
section
variable {X:Cx}{E:XK}{Γ Γl:List Cl}{pos:Pos}
end
def xn (t:Tn->R D):Tn->R (List D):=fun τ=>(t τ).bind fun d=>match d with
 | .frl ds=>.ok ds
 | _=>.bad
theorem ItOk.frl {K:jJa}{H:Hp}{a:Addr}{vs:List V}{ds:List D}(ha:SqF K H a vs)(r:Reps K H ds vs []):ItOk K (Itl K a) ds [] H:=by
 refine⟨fun b hb=>(nomatch hb),fun H' tf kp i=>⟨fun d hd=>?_,fun hl=>?_⟩⟩
 ·have ha':=(ha.tf tf).sq;obtain⟨v,L1,e1,r1,sub⟩:=r.get hd;refine⟨⟨vs,v,ha',e1⟩,fun x H'' ⟨e2,hy⟩=>?_⟩;subst e2;have:=hy vs ha';rw[e1]at this;cases this;exact⟨Same.refl _,L1,Rep.keep tf d _ L1 r1 fun b hb=>kp b (sub.subset hb),fun b hb=>sub.subset hb⟩
 ·exact⟨vs,(ha.tf tf).sq,by rw[r.length];exact hl⟩
section
variable {X:Cx}{E:XK}{Γ:List Cl}{tg e:Expr}{t:Tn->R D}{c:Rc}
def wM (h:ME X E Γ e t c):MI X E Γ tg e (xn t) c:=by
 obtain⟨te,p,q⟩:=h;refine⟨U1 X.K te,Z4 p,fun O σ H τ Rr ok h=>q O σ H τ _ ok ?_⟩;unfold xn at h;cases ht:t τ with
 | ok d =>
  rw[ht,jYa]at h;cases d with
  | frl ds =>
   refine fun v H1 L s r k=>?_;obtain⟨a,vs,rfl,ha,rfl,hi,rs⟩:=r;exact⟨a,rfl,⟨vs,ha.sq⟩,h _ H1 [] s (ItOk.frl ha rs) fun n a ha=>(nomatch ha)⟩
  | _=>exact h.elim
 | err n=>rw[ht]at h;exact h
 | bad=>rw[ht]at h;exact h
end
open PySem PySem.Spec PyProof.Rows PySem.Builtin.Str
def VH (K:jJa):List V->Hp->VK->Prop:=fun xs H Q=>∃(p:Addr) (ss:List Str),xs=[.ref p]/\SqL K H p (ss.map V.str)/\∀ss':List Str,ss'.Perm ss->sortedS ss'=true->∀l,H l=none->Q (.ref l) (upd H l (.lst (ss'.map V.str)))
theorem u7:∀ {ss:List Str} {us:List Value},Vals (ss.map V.str) us->StrsAre us ss
 | [],us,r=>by cases r;exact .nil
 | z::ss,_,r=>by
  rw[tJ]at r;cases r with
  | cons r1 r2 =>
   obtain⟨t,rfl⟩:=r1;exact .cons z t (u7 r2)
def qU {X:Cx}:CallR X (.builtin "sorted") (VH X.K):=by
 intro pins s σ H xs us Q I r h;obtain⟨p,ss,rfl,hs,q⟩:=h;obtain⟨u,rfl,ru⟩:=wH r;obtain rfl:u=Value.ref p:=ru;obtain⟨its,rv,pl,hz⟩:=I.list hs;have hS:=u7 rv;have hln:its.length=ss.length:=by
  have:=congrArg List.length hS.strs;rw[tI]at this;exact this
 refine kW pl.isList hS (by rw[hln];rw[tI]at hz;exact hz) fun out ss' h1 h2 h3=>?_;obtain⟨e,he⟩:=sortedAll_at s.heap its out;have hl2:(ss'.map V.str).length<=sizeLine:=by
  rw[tI,h2.length_eq];rw[tI]at hz;exact hz
 refine⟨.ref (s.heap.objs.size+1),_,I.laid (t':=s.toks) (o:=.lst (ss'.map V.str)) (fun b ob q=>sortedAll_old q) (Nat.le_succ _) ⟨hl2,out.toList,e,jm h1,?_⟩,rfl,q ss' h2 h3 _ (I.hok.fresh (Nat.le_succ _))⟩;rw[Array.toArray_toList];exact he
def wd:List D->R D
 | [.lst ds]=>match vm ds with
  | some ss=>.ok (.lst ((uR ss).map D.str))
  | none=>.bad
 | _=>.bad
def Xw:xh wd:=fun ds n h=>by
 unfold wd at h;split at h
 ·split at h<;>cases h
 ·cases h
def Xc {K:jJa}:ClB K (VH K) wd:=by
 rintro H xs ds L Q r ⟨d,hg,q⟩;unfold wd at hg;split at hg
 ·split at hg
  ·rename_i ds ss hn;cases hg;obtain⟨v,rfl,a,vs,L',rfl,ha,_,rs⟩:=xM r;refine⟨a,ss,rfl,by rw[<-uQ rs hn];exact SqL.of ha,fun ss' hp hs l hl=>?_⟩;rw[Yy hp hs];exact wU (vP _) hl q
  ·cases hg
 ·cases hg
def kc (z y:Str):List Str:=[(Txt.partition z y).1,(Txt.partition z y).2.1,(Txt.partition z y).2.2]
def Ji:V->List V->Hp->VK->Prop:=fun x xs H Q=>∃z y,x=.str z/\xs=[.str y]/\(y.length==0)=false/\z.length<=sizeLine/\∀p,H p=none->Q (.ref p) (upd H p (.tup ((kc z y).map V.str)))
def jD {X:Cx}:MtR X "str.partition" Ji:=by
 intro pins s σ H x xs v us Q I rx rs h;obtain⟨z,y,rfl,rfl,hy,hz,q⟩:=h;obtain⟨t,rfl⟩:=rx;obtain⟨w,rfl,ru⟩:=wH rs;obtain⟨u,rfl⟩:=ru;have key:∀(vs:List Value) (k:Nat),Vals ((kc z y).map V.str) vs->∃v H1,Inv X pins σ H1 { s with heap:=s.heap.push { cls:=.type "tuple",data:=.seq vs.toArray },toks:=k }/\RelV v (.ref s.heap.objs.size)/\Q v H1:=fun vs k e=>by
  refine⟨.ref s.heap.objs.size,upd H s.heap.objs.size (.tup ((kc z y).map V.str)),I.laid (fun b ob q=>jYb _ q) (tM _) ?_,rfl,q _ (I.hok.fresh (tM _))⟩;exact⟨by rw[tI];exact (by decide:3<=sizeLine),vs,e,_,jYd _ rfl,rfl,⟨rfl,rfl⟩,_,rfl⟩
 refine call_meets F.slot_str_partition (typeIs_str _ _ _) F.entry_str_partition (F.args_str_partition_2 _ _) (meets_str_partition z y t u hy hz) ?_;have key2:=key;unfold kc Txt.partition at key2;revert key2;cases occurrences z y 0 z.length 1 with
 | nil=>intro key2;exact key2 _ _ (.cons ⟨_,rfl⟩ (.cons ⟨_,rfl⟩ (.cons ⟨_,rfl⟩ .nil)))
 | cons i r=>intro key2;exact key2 _ _ (.cons ⟨_,rfl⟩ (.cons ⟨_,rfl⟩ (.cons ⟨_,rfl⟩ .nil)))
def yK (z:Str):List D->R D
 | [.str y]=>if (y.length==0)=false/\z.length<=sizeLine then .ok (.tup ((kc z y).map D.str)) else .bad
 | _=>.bad
def Zl (z:Str):xh (yK z):=fun ds n h=>by
 unfold yK at h;split at h
 ·split at h<;>cases h
 ·cases h
def ZZ {K:jJa}:SmB K Ji yK:=by
 rintro H z xs ds L Q rs ⟨d,hg,q⟩;unfold yK at hg;split at hg
 ·rename_i y;split at hg
  ·rename_i hz;cases hg;exact⟨z,y,rfl,Uu rs,hz.1,hz.2,fun p hp=>q (.ref p) _ [] (Same.new hp) ⟨p,_,rfl,SqT.of zE,(vP _)⟩ (by simp) (fun a ha=>nomatch ha)⟩
  ·cases hg
 ·cases hg
section
variable {X:Cx}{pins:List (Addr×Obj)}{σ:St}{H:Hp}{s:Shared}{a:Addr}{kvs:List (Key×V)}{k:Key}{u:Value}{A:Around}{E:Value->Shared->Prop}
def Vf {r:Value}{d:V}{Q:Value->Shared->Prop}(I:Inv X pins σ H s)(e:H a=some (.dK kvs))(hz:kvs.length<sizeLine)(ry:RelV (kV k) u)(rd:RelV d r)
  (h1:∀v,wN kvs k=some v->∀w' s',Inv X pins σ H s'->RelV v w'->Q w' s') (h2:wN kvs k=none->∀s',Inv X pins σ (upd H a (.dK (xk kvs k d))) s'->Q r s'):
  wpAny (model X.prog X.w) A (call (.builtin "dict.setdefault") [.ref a,u,r]) Q E s:=by
 obtain⟨z,hd,vs,rel,dd⟩:=Y6 I.hok e;refine call_meetsIn jQy dd.typeIs PySem.F.entry_dict_setdefault (PySem.F.args_dict_setdefault_3 _ _ _) (kt_meets_setdefault (zN X.prog X.w) a (kj ry) hd r)
  ⟨vs,dd,by rw[<-rel.length];exact z,fun v hv=>?_,fun hn h' dd' hs=>?_⟩
 ·have hR:=rel.val k;rw[hv]at hR;cases hw:wN kvs k with
  | none=>rw[hw]at hR;exact hR.elim
  | some v0 =>
   rw[hw]at hR;exact h1 v0 hw v _ (I.tok _) hR
 ·have hR:=rel.val k;rw[hn]at hR;cases hw:wN kvs k with
  | some v0=>rw[hw]at hR;exact hR.elim
  | none =>
   have he:∃q,h'.get? a=some q:=let ⟨q,_,_,hq,_⟩:=dd';⟨q,hq⟩;exact h2 hw _ (qt I (by rw[e];exact True.intro) hs he (Yn (rJ (wm kvs k d) hz) hd (rel.put k rd) dd'))
end
def z1i (td ty tx:TE):TE:=fun σ H Q=>td σ H fun x H1=>∃a,x=.ref a/\IsD H1 a/\ty σ H1 fun y H2=>tx σ H2 fun z H3=>∃kvs k,H3 a=some (.dK kvs)/\kvs.length<sizeLine/\y=kV k /\
 (∀v,wN kvs k=some v->Q v H3)/\(wN kvs k=none->Q z (upd H3 a (.dK (xk kvs k z))))
def W5 {X:Cx}{o e f:Expr}{apos cpos:Pos}{td ty tx:TE}(ho:PE X o td)(he:PE X e ty)(hf:PE X f tx)(m:M2 X o "setdefault" apos e f cpos):PE X (.Call (.Attribute o "setdefault" apos) [e,f] [] cpos) (z1i td ty tx):=by
 intro pins s σ H Q I h;refine wpAny_Call_method m.base m.few m.line PySem.F.plainAttrs_dict jQy PySem.F.type_dict_setdefault (thn (ho pins s σ H _ I h) fun u s1 ⟨x,H1,I1,rx,a,ex,d,q1⟩=>?_);subst ex;obtain rfl:u=Value.ref a:=rx;obtain⟨t1,t2,_⟩:=K6 I1 d;refine⟨t1,t2,?_⟩;rw[m.trees];refine Calls.callWith_builtin rfl (Calls.evalArgs_plain (Calls.spliced_cons (thn (he pins s1 σ H1 _ I1 q1) fun iv s2 ⟨y,H2,I2,ry,q2⟩ =>
  Calls.spliced_cons (thn (hf pins s2 σ H2 _ I2 q2) fun fv s3 ⟨z,H3,I3,rz,kvs,k,ea,hz,ey,q3,q4⟩=>Calls.spliced_nil ?_))))
 subst ey;exact Vf I3 ea hz ry rz (fun v hv w' s4 I4 rw'=>⟨v,H3,I4,rw',q3 v hv⟩) fun hn s4 I4=>⟨z,_,I4,rz,q4 hn⟩
def jM (ty:Tn->R D)(u:Tn->R Bool)(t1 t2:Tn->R Fl)(v:Str):Tn->R Fl:=fun τ=>(ty τ).bind fun y=>match y with
 | .str y=>(if v=y then u τ else .ok true).bind fun b=>if b=true then t1 τ else t2 τ
 | _=>.bad
def vS (i:Nat)(tk tx ty:Tn->R D)(u:Tn->R Bool)(t1 t2:Tn->R Fl):Tn->R Fl:=fun τ=>(zb i τ).bind fun l=>match l with
 | .dic ks ds=>(tk τ).bind fun k=>(tx τ).bind fun z=>(match keyOf k,z with
  | some k,.str z=>if ks.length<sizeLine then (match lookD ks ds k with
   | some (.str v)=>jM ty u t1 t2 v τ
   | none=>jM ty u t1 t2 z (τ.set i (some (.dic (xI ks ds k (.str z)).1 (xI ks ds k (.str z)).2)))
   | _=>.bad) else .bad
  | _,_=>.bad)
 | _=>.bad
section
variable {X:Cx}{E:XK}{Γ Γ' Γl:List Cl}{pos:Pos}
def WH {ty:Tn->R D}{u:Tn->R Bool}{t1 t2:Tn->R Fl}{tey:TE}{tu:TT}{ts1 ts2:TS}{cy:Rc}{v:Str}{B H:Hp}{σ:St}{τ:Tn}{Z:Ends}
  (qy:∀O σ H τ Q,EOk X.K Γ O H σ τ->post X.K E O cy H Q (ty τ)->tey σ H Q) (qu:∀O σ H τ Q,EOk X.K Γ O H σ τ->postB X.K E H Q (u τ)->tu σ H Q)
  (q1:∀B σ H τ Z,SOk X.K Γ B H σ τ []->vj X.K E B Γl Γ' Z (t1 τ)->ts1 Z σ H) (q2:∀B σ H τ Z,SOk X.K Γ B H σ τ []->vj X.K E B Γl Γ' Z (t2 τ)->ts2 Z σ H)
  (ok:SOk X.K Γ B H σ τ []) (h:vj X.K E B Γl Γ' Z (jM ty u t1 t2 v τ)):
  tey σ H fun y H2=>(W8 X.K true (.str v) y H2 fun z H'=>∃k,z=.bl k/\(if k=true then (if true=true then ts1 Z σ H' else ts2 Z σ H') else tu σ H' fun b H1=>if b=true then ts1 Z σ H1 else ts2 Z σ H1))\/(jY X.K true (.str v) y H2 fun z H'=>∃k,z=.bl k/\(if k=true then (if true=true then ts1 Z σ H' else ts2 Z σ H') else tu σ H' fun b H1=>if b=true then ts1 Z σ H1 else ts2 Z σ H1)):=by
 obtain⟨O,eo,_⟩:=ok.eok;refine qy O σ H τ _ eo ?_;unfold jM at h;cases ht:ty τ with
 | err n=>rw[ht]at h;exact fun C H' e s=>h C H' e (ok.ext.trans s)
 | bad=>rw[ht]at h;exact h
 | ok d =>
  rw[ht,jYa]at h;cases d with
  | str y =>
   refine fun w H2 L s2 r2 _=>?_;dsimp only at h;have ok2:=ok.same s2;refine W9 (neg:=true) H2 (.str v) w (.str v) (.str y) [] L _ ⟨rfl,rfl⟩ r2 ⟨.bl (!decide (v=y)),?_,fun x H3 L3 s3 r3 n1 n2=>?_⟩
   ·have e0:(v==y)=decide (v=y):=rfl;rw[<-e0]
    rfl
   ·obtain rfl:x=V.bl (!decide (v=y)):=r3.1;refine⟨_,rfl,?_⟩;have ok3:=ok2.same s3
    by_cases e:v=y
    ·rw[if_pos e]at h;rw[decide_eq_true e,if_neg (by simp)];obtain⟨O3,eo3,_⟩:=ok3.eok;refine qu O3 σ H3 τ _ eo3 ?_;cases hu:u τ with
     | err n=>rw[hu]at h;exact fun C H' e s=>h C H' e (ok3.ext.trans s)
     | bad=>rw[hu]at h;exact h
     | ok b =>
      rw[hu,jYa]at h;refine fun H4 s4=>?_;cases b with
      | true=>rw[if_pos rfl]at h ⊢;exact q1 B σ H4 τ Z (ok3.same s4) h
      | false=>rw[if_neg tH]at h ⊢;exact q2 B σ H4 τ Z (ok3.same s4) h
    ·rw[if_neg e,jYa,if_pos rfl]at h;rw[decide_eq_false e,if_pos (by rfl),if_pos rfl];exact q1 B σ H3 τ Z ok3 h
  | _=>exact h.elim
def VM (i:Nat){x:Str}{ek ex ey er:Expr}{sa sb:List Stmt}{tk tx ty:Tn->R D}{u:Tn->R Bool}{t1 t2:Tn->R Fl}{ck cx cy:Rc}{p0 p1 p2 p3 p4:Pos}(hu:X.A.units+12<cLine)
  (hk:ME X E Γ ek tk ck) (hx:ME X E Γ ex tx cx) (hy:ME X E Γ ey ty cy) (hr:MT X E Γ er u) (ha:MSs X E Γl Γ sa t1 Γ') (hb':MSs X E Γl Γ sb t2 Γ')
  (hN:autoParam (X.N[i]?=some x) au3._auto_1) (h0:autoParam (Γ[i]?=some .own) au3._auto_1) (hv:autoParam (Vis X.env.scope x) au6._auto_1) (hb:autoParam ((x==("__debug__":Str))=false) au1._auto_1) (hcd:autoParam ((x==("__classdict__":Str))=false) au1._auto_1)
  (hbase:autoParam (attributeBase (.Name x p0) "setdefault" X.env (eval (.Name x p0) X.env)=eval (.Name x p0) X.env) au3._auto_1)
  (hfew:autoParam (((backTo p2 (starEach [ek,ex] X.env)).all (fun x=>!x.1)&&(backToKw p2 (keywordEach [] X.env)).all (fun x=>x.1.isSome)&&decide (([ek,ex]:List Expr).length+([]:List Keyword).length+(if ([]:List Keyword).isEmpty then 0 else 1)<30))=true) au3._auto_1)
  (hline:autoParam ((p1.endLine==p2.line)=true) au3._auto_1) (htr:autoParam (backTo p2 (starEach [ek,ex] X.env)=[(false,eval ek X.env),(false,eval ex X.env)]) au3._auto_1):
  MS X E Γl Γ (.If (.BoolOp .Or [.Compare (.Call (.Attribute (.Name x p0) "setdefault" p1) [ek,ex] [] p2) [.NotEq] [ey] p3,er] p4) sa sb pos) (vS i tk tx ty u t1 t2) Γ':=by
 obtain⟨tek,pk,qk⟩:=hk;obtain⟨tex,px,qx⟩:=hx;obtain⟨tey,py,qy⟩:=hy;obtain⟨tu,pu,qu⟩:=hr;obtain⟨ts1,p1',q1⟩:=ha;obtain⟨ts2,p2',q2⟩:=hb';refine⟨_,JB (PW.pt (Jm (Xa (ZX hu) (W5 (wq (pos:=p0) hN hv hb hcd) pk px ⟨hbase,hfew,hline,htr⟩) py (yY _)) (VP pu))) p1' p2',fun B σ H τ Z ok h=>?_⟩;obtain⟨v1,d1,L1,e1,e2,r1,_⟩:=ok.slotF h0;unfold vS at h;have ev:zb i τ=.ok d1:=by unfold zb;rw[e2]
 rw[ev,jYa]at h;cases d1 with
 | dic ks ds =>
  obtain⟨a,kvs,L',rfl,ha,z2,hks,hnd,rs⟩:=r1;refine⟨_,e1,a,rfl,.inl ⟨kvs,.inl ha⟩,?_⟩;obtain⟨O,eo,_⟩:=ok.eok;refine qk O σ H τ _ eo ?_;dsimp only at h;cases hk':tk τ with
  | err n=>rw[hk']at h;exact fun C H' e s=>h C H' e (ok.ext.trans s)
  | bad=>rw[hk']at h;exact h
  | ok dk =>
   rw[hk',jYa]at h;refine fun kv H2 Lk s2 rk _=>?_;have ok2:=ok.same s2;obtain⟨O2,eo2,_⟩:=ok2.eok;refine qx O2 σ H2 τ _ eo2 ?_;cases hx':tx τ with
   | err n=>rw[hx']at h;exact fun C H' e s=>h C H' e (ok2.ext.trans s)
   | bad=>rw[hx']at h;exact h
   | ok dz =>
    rw[hx',jYa]at h;refine fun zv H3 Lz s3 rz _=>?_;have ok3:=ok2.same s3;obtain⟨v2,d2,L2,q3,q4,r2,m1,m2,fin⟩:=ok3.slotF h0;rw[e1]at q3;cases q3;rw[e2]at q4;cases q4;cases hko:keyOf dk with
    | none=>rw[hko]at h;exact h.elim
    | some k =>
     rw[hko]at h;cases dz with
     | str z =>
      dsimp only at h
      by_cases hz:ks.length<sizeLine
      ·rw[if_pos hz]at h;obtain⟨a2,kvs2,L2',e5,ha2,z3,hks2,hnd2,rs2⟩:=r2;cases e5;subst z3;subst hks2;obtain rfl:zv=V.str z:=rz.1;have mu:(∃vs,H3 a=some (.lst vs))\/∃kvs,H3 a=some (.dK kvs):=.inr ⟨_,ha2⟩;obtain⟨w1,w2⟩:=sI.mp m1;refine⟨kvs2,k,ha2,by rw[tI]at hz;exact hz,vz hko rk,fun v hv=>?_,fun hn=>?_⟩
       ·cases hl:lookD (kvs2.map (·.1)) ds k with
        | none=>rw[uH rs2 hl]at hv;cases hv
        | some dv =>
         rw[hl]at h;obtain⟨vv,LL,g1,g2,g3⟩:=wA rs2 hl;rw[hv]at g1;cases g1;cases dv with
         | str sv =>
          obtain rfl:v=V.str sv:=g2.1;exact WH qy qu q1 q2 ok3 h
         | _=>exact h.elim
       ·cases hl:lookD (kvs2.map (·.1)) ds k with
        | some dv =>
         obtain⟨vv,LL,g1,g2,g3⟩:=wA rs2 hl;rw[hn]at g1;cases g1
        | none =>
         rw[hl]at h;have rs3:=rs2.upd (o:=.dK (xk kvs2 k (.str z))) mu w1;obtain⟨a1,a2,L3,a3,a4⟩:=kH (k:=k) (d:=.str z) (v:=.str z) rs3 hnd2 ⟨rfl,rfl⟩;refine WH qy qu q1 q2 (fin _ (.dic (xI (kvs2.map (·.1)) ds k (.str z)).1 (xI (kvs2.map (·.1)) ds k (.str z)).2) (a::L3) (TF.upd mu) (fun b hb _=>zK fun z=>hb (z▸tF)) ⟨a,_,L3,rfl,zE,rfl,a1,a2,a3⟩ (fun b hb=>.inl ?_) (sI.mpr ⟨fun z=>w1 (a4.subset z),w2.sublist a4⟩)) h;rcases tV.mp hb with z|z
         ·exact z▸tF
         ·exact tG _ (a4.subset z)
      ·rw[if_neg hz]at h;exact h.elim
     | _=>exact h.elim
 | _=>exact h.elim
end
def w8 (f:D->D)(rows:List D)(j:Nat):List D:=(rows.take j).map f++rows.drop j
def Yt {f:D->D}{rows:List D}:w8 f rows 0=rows:=by unfold w8;simp
def Wj {f:D->D}{rows:List D}:w8 f rows rows.length=rows.map f:=by unfold w8;simp
def VD {f:D->D}{rows:List D}{j:Nat}(h:j<rows.length):(w8 f rows j)[j]?=some rows[j]:=by
 unfold w8;rw[sU (by simp;lia)];simp[Nat.min_eq_left (rK h),h]
def Wt {f:D->D}{rows:List D}{j:Nat}(h:j<rows.length):(w8 f rows j).set j (f rows[j])=w8 f rows (j+1):=by
 apply List.ext_getElem?;intro q;unfold w8;rw[List.getElem?_set]
 by_cases hq:j=q
 ·subst hq;rw[if_pos rfl,if_pos (by simp;lia),sW (by simp;lia),sJ,rL (by lia),rD h]
  rfl
 ·rw[if_neg hq]
  by_cases hl:q<j
  ·rw[sW (by simp;lia),sW (by simp;lia),sJ,sJ,rL hl,rL (by lia)]
  ·have e1:((rows.take j).map f).length=j:=by simp;lia
   have e2:((rows.take (j+1)).map f).length=j+1:=by simp;lia
   rw[sU (by lia),sU (by lia),e1,e2,List.getElem?_drop,List.getElem?_drop];congr 1;lia
def kE (d:D)(k1 k2:Nat):D->D
 | .tup ds=>(match ds[k1]?,ds[k2]? with
  | some (.lst xs),some (.lst ys)=>.tup ((ds.set k1 (.lst (xs++[d]))).set k2 (.lst (ys++[d])))
  | _,_=>.tup ds)
 | e=>e
def VZ (k1 k2:Nat):D->Bool
 | .tup ds=>(match ds[k1]?,ds[k2]? with
  | some (.lst xs),some (.lst ys)=>decide (xs.length<sizeLine)&&decide (ys.length<sizeLine)
  | _,_=>false)
 | _=>false
def UK {k1 k2:Nat}{e:D}(h:VZ k1 k2 e=true):∃ds xs ys,e=.tup ds/\ds[k1]?=some (.lst xs)/\ds[k2]?=some (.lst ys)/\xs.length<sizeLine/\ys.length<sizeLine:=by
 unfold VZ at h;split at h
 ·rename_i ds;split at h
  ·rename_i xs ys h1 h2;rw[sY]at h;exact⟨ds,xs,ys,rfl,h1,h2,of_decide_eq_true h.1,of_decide_eq_true h.2⟩
  ·cases h
 ·cases h
def ZY {K:jJa}{H:Hp}{d:D}{pages ds xs:List D}{vs:List V}{L:List Addr}{m k:Nat}(rs:Reps K H pages vs L)(nd:L.Nodup)(hm:pages[m]?=some (.tup ds))(hk:ds[k]?=some (.lst xs)):
  ∃am us bk ws,vs[m]?=some (.ref am)/\SqT K H am us/\us[k]?=some (.ref bk)/\H bk=some (.lst ws)/\ws.length=xs.length/\bk∈L /\
   ∀H1 w,Same H H1->Rep K H1 d w []->H1 bk=some (.lst ws)/\TF H (upd H1 bk (.lst (ws++[w])))/\(∀c,c∉L->H c≠none->upd H1 bk (.lst (ws++[w])) c=H c) /\
    ∃L',Reps K (upd H1 bk (.lst (ws++[w]))) (pages.set m (.tup (ds.set k (.lst (xs++[d]))))) vs L'/\(∀a∈L',a∈L)/\L'.Nodup:=by
 obtain⟨v,Ld,g1,g2,g3,g4,g5⟩:=VQ rs hm nd;obtain⟨am,us,rfl,hs,qs⟩:=g2;obtain⟨v2,Lk,c1,c2,c3,c4,c5⟩:=VQ qs hk g3;obtain⟨bk,ws,Lx,rfl,hbk,rfl,qx⟩:=c2;obtain⟨x1,x2⟩:=sI.mp c3;refine⟨am,us,bk,ws,g1,hs,c1,hbk,qx.length,g4 _ (c4 _ tF),fun H1 w s1 rw1=>?_⟩;have hb1:=s1 _ _ hbk;have mu:(∃vs,H1 bk=some (.lst vs))\/∃kvs,H1 bk=some (.dK kvs):=.inl ⟨_,hb1⟩;have tf:TF H (upd H1 bk (.lst (ws++[w]))):=s1.tf.trans (TF.upd mu);have kp:∀c,c∉bk::Lx->H c≠none->upd H1 bk (.lst (ws++[w])) c=H c:=fun c hc hn=>by rw[zK (fun z:c=bk=>hc (z▸tF)),s1.at hn]
 refine⟨hb1,tf,fun c hc hn=>kp c (fun z=>hc (g4 _ (c4 _ z))) hn,?_⟩;have rr:=Reps.append ((qx.same s1).upd (o:=.lst (ws++[w])) mu x1) (Reps.cons (rw1.upd (o:=.lst (ws++[w])) mu (by simp)) (Reps.nil (K:=K) (H:=upd H1 bk (.lst (ws++[w])))));rw[tQ,tQ]at rr;obtain⟨L5,r5,sub5,nd5⟩:=c5 _ (.lst (xs++[d])) (bk::Lx) tf kp ⟨bk,ws++[w],Lx,rfl,zE,rfl,rr⟩ (fun c hc=>hc) c3;exact g5 _ (.tup (ds.set k (.lst (xs++[d])))) L5 tf (fun c hc hn=>kp c (fun z=>hc (c4 c z)) hn) ⟨am,us,rfl,hs.tf tf,r5⟩ sub5 nd5
def kI (i k1 k2:Nat)(d:D):Tn->R Fl:=fun τ=>match τ[i]? with
 | some (some (.lst rows))=>if rows.all (VZ k1 k2)=true then .ok (.nx (τ.set i (some (.lst (rows.map (kE d k1 k2)))))) else .bad
 | _=>.bad
section
variable {X:Cx}{E:XK}{Γ Γl:List Cl}{pos:Pos}{e e':Expr}{t t':Tn->R D}{c c':Rc}
def z1B (i k1 k2 j:Nat)(d:D){x y:Str}{n1 n2:Int}{c0 c1:Nat}{p0 p1 p2 p3 p4 p5 p6 p7 q1 q2 q3 q4 q6 q7:Pos}(hp:PassesOwn (model X.prog X.w) X.A X.env X.xe)(hc:X.calm=true)(he:ME X E Γ e t c)(he':ME X E Γ e' t' c')(hg:PG X (.Name y p5) (jr j))(hd:∀τ,t τ=.ok d)(hd':∀τ,t' τ=.ok d)(hi:autoParam (d.imm=true) au3._auto_1)(hij:autoParam ((i==j)=false) au3._auto_1)(hkk:autoParam ((k1==k2)=false) au3._auto_1)(hn1:autoParam (n1=(k1:Int)) au3._auto_1)(hn2:autoParam (n2=(k2:Int)) au3._auto_1)(hN:autoParam (X.N[i]?=some x) au3._auto_1)(hNy:autoParam (X.N[j]?=some y) au3._auto_1)(h0:autoParam (Γ[i]?=some .own) au3._auto_1)(hj:autoParam (Γ[j]?=some .dead) au3._auto_1)(hv:autoParam (Vis X.env.scope x) au6._auto_1)(hvy:autoParam (Vis X.env.scope y) au6._auto_1)(hb:autoParam ((x==("__debug__":Str))=false) au1._auto_1)(hcd:autoParam ((x==("__classdict__":Str))=false) au1._auto_1)(hby:autoParam ((y==("__debug__":Str))=false) au1._auto_1)(hcdy:autoParam ((y==("__classdict__":Str))=false) au1._auto_1)
  (hbase:autoParam (attributeBase (.Subscript (.Name y p6) (.Constant (.int n1) c0 p3) p4) "append" X.env (eval (.Subscript (.Name y p6) (.Constant (.int n1) c0 p3) p4) X.env)=eval (.Subscript (.Name y p6) (.Constant (.int n1) c0 p3) p4) X.env) au3._auto_1)
  (hfew:autoParam (((backTo p2 (starEach [e] X.env)).all (fun x=>!x.1)&&(backToKw p2 (keywordEach [] X.env)).all (fun x=>x.1.isSome)&&decide ([e].length+([]:List Keyword).length+(if ([]:List Keyword).isEmpty then 0 else 1)<30))=true) au3._auto_1)
  (hline:autoParam ((p1.endLine==p2.line)=true) au3._auto_1) (hs:autoParam (starEach [e] X.env=(false,eval e X.env)::starEach [] X.env) au3._auto_1) (hplain:autoParam ((backTo p2 (starEach [] X.env)).any (·.1)=false) au3._auto_1)
  (hsw:autoParam (swapsWith (.Call (.Attribute (.Subscript (.Name y p6) (.Constant (.int n1) c0 p3) p4) "append" p1) [e] [] p2) none p7.line X.env=pure false) au3._auto_1)
  (hbase':autoParam (attributeBase (.Subscript (.Name y q6) (.Constant (.int n2) c1 q3) q4) "append" X.env (eval (.Subscript (.Name y q6) (.Constant (.int n2) c1 q3) q4) X.env)=eval (.Subscript (.Name y q6) (.Constant (.int n2) c1 q3) q4) X.env) au3._auto_1)
  (hfew':autoParam (((backTo q2 (starEach [e'] X.env)).all (fun x=>!x.1)&&(backToKw q2 (keywordEach [] X.env)).all (fun x=>x.1.isSome)&&decide ([e'].length+([]:List Keyword).length+(if ([]:List Keyword).isEmpty then 0 else 1)<30))=true) au3._auto_1)
  (hline':autoParam ((q1.endLine==q2.line)=true) au3._auto_1) (hs':autoParam (starEach [e'] X.env=(false,eval e' X.env)::starEach [] X.env) au3._auto_1) (hplain':autoParam ((backTo q2 (starEach [] X.env)).any (·.1)=false) au3._auto_1)
  (hsw':autoParam (swapsWith (.Call (.Attribute (.Subscript (.Name y q6) (.Constant (.int n2) c1 q3) q4) "append" q1) [e'] [] q2) none q7.line X.env=pure false) au3._auto_1)
  (hss:autoParam (∀v,foldedSetIterable (.Name x p0) X.env v=pure v) au2._auto_1):
  MS X E Γl Γ (.For (.Name y p5) (.Name x p0) [.Expr (.Call (.Attribute (.Subscript (.Name y p6) (.Constant (.int n1) c0 p3) p4) "append" p1) [e] [] p2) p7,.Expr (.Call (.Attribute (.Subscript (.Name y q6) (.Constant (.int n2) c1 q3) q4) "append" q1) [e'] [] q2) q7] [] pos) (kI i k1 k2 d) Γ:=by
 subst hn1 hn2;have hij:i≠j:=by simpa using hij
 have hkk:k1≠k2:=by simpa using hkk
 obtain⟨te,p,q⟩:=he;obtain⟨te',p',q'⟩:=he';refine⟨_,Vj hp hc (Z4 (wq (pos:=p0) hN hv hb hcd)) hg (Zu (qq (Zc jQr jQs jQt vA (VU YV (wq (pos:=p6) hNy hvy hby hcdy) YH (fun _ _=>rfl)) (wg p vX hs) hbase hfew hline hs hplain) hsw) (Xx (qq (Zc jQr jQs jQt vA (VU YV (wq (pos:=q6) hNy hvy hby hcdy) YH (fun _ _=>rfl)) (wg p' vX hs') hbase' hfew' hline' hs' hplain') hsw'))) hss,fun B σ H τ Z ok h=>?_⟩;unfold kI at h;cases hτ:τ[i]? with
 | none=>rw[hτ]at h;exact h.elim
 | some o =>
  cases o with
  | none=>rw[hτ]at h;exact h.elim
  | some l =>
   cases l with
   | lst rows =>
    rw[hτ]at h;dsimp only at h
    by_cases hall:rows.all (VZ k1 k2)=true
    ·rw[if_pos hall]at h;obtain⟨v0,d0,L,e1,e2,r,nd,n2,fin⟩:=ok.slotF h0;rw[hτ]at e2;cases e2;obtain⟨b,vs,L',rfl,hb2,rfl,qs⟩:=r;obtain⟨m1,m2⟩:=sI.mp nd;have hlen:vs.length=rows.length:=qs.length;have hjσ:j<σ.length:=by rw[ok.lσ];exact (tT.mp hj).1
     refine⟨_,e1,b,rfl,⟨vs,SqL.of hb2⟩,?_⟩;refine⟨fun m f σ2 H2=>f=rows.length-m/\m<=rows.length/\(σ2=σ\/∃w,σ2=σ.set j (some w))/\H2 b=some (.lst vs)/\TF H H2/\(∀c,c∉b::L'->H c≠none->H2 c=H c)/\∃L2,Reps X.K H2 (w8 (kE d k1 k2) rows m) vs L2/\(∀a∈L2,a∈L')/\L2.Nodup,⟨rows.length,rfl,sZ _,.inl rfl,hb2,(Same.refl H).tf,fun _ _ _=>rfl,L',by rw[Yt];exact qs,fun a ha=>ha,m2⟩,?_⟩;rintro m f σ2 H2 ⟨rfl,hm,hσ,hb3,tf,kp,L2,rs2,sub2,nd2⟩;have SKG:∀(σ3:St) (H3:Hp) (rows3:List D) (L3:List Addr),(σ3=σ\/∃w,σ3=σ.set j (some w))->H3 b=some (.lst vs)->TF H H3->(∀c,c∉b::L'->H c≠none->H3 c=H c)->Reps X.K H3 rows3 vs L3->(∀a∈L3,a∈L')->L3.Nodup->SOk X.K Γ B H3 σ3 (τ.set i (some (.lst rows3))) []:=by
      intro σ3 H3 rows3 L3 hσ hb tf kp rs sub nd3;have:=fin H3 (.lst rows3) (b::L3) tf kp ⟨b,vs,L3,rfl,hb,rfl,rs⟩ (fun a ha=>.inl (by
       rcases tV.mp ha with z|z
       ·exact z▸tF
       ·exact tG _ (sub a z))) (sI.mpr ⟨fun z=>m1 (sub _ z),nd3⟩)
      rcases hσ with rfl|⟨w,rfl⟩
      ·exact this
      ·exact this.deadPut hj
     by_cases hlt:m<rows.length
     ·refine .inr ⟨⟨vs,vs[m]'(by lia),SqL.of hb3,by simp⟩,fun σ' H'=>m+1<=rows.length/\(σ'=σ\/∃w,σ'=σ.set j (some w))/\H' b=some (.lst vs)/\TF H H'/\(∀c,c∉b::L'->H c≠none->H' c=H c)/\∃L2,Reps X.K H' (w8 (kE d k1 k2) rows (m+1)) vs L2/\(∀a∈L2,a∈L')/\L2.Nodup,fun σ' H' z=>⟨rows.length-(m+1),by lia,rfl,z⟩,?_⟩;rintro x0 H3 ⟨rfl,hx⟩;have hx:=hx vs (SqL.of hb3);obtain⟨ds,xs,ys,hrow,hk1,hk2,hl1,hl2⟩:=UK (rZ.mp hall _ (rP hlt));have hat:(w8 (kE d k1 k2) rows m)[m]?=some (.tup ds):=by rw[VD hlt,hrow]
      obtain⟨am,us,b1,ws1,g1,g2,g3,g4,g5,g6,g7⟩:=ZY (d:=d) rs2 nd2 hat hk1;rw[hx]at g1;cases g1;have hσj:∀σ3:St,(σ3=σ\/∃w,σ3=σ.set j (some w))->(σ3.set j (some (V.ref am)))[j]?=some (some (.ref am)):=fun σ3 hσ=>sE (by rcases hσ with rfl|⟨w,rfl⟩<;>simpa using hjσ);have hσn:σ2.set j (some (V.ref am))=σ.set j (some (V.ref am)):=by
       rcases hσ with rfl|⟨w,rfl⟩
       ·rfl
       ·exact List.set_set ..
      refine⟨.ref am,hσj _ hσ,.inr (.inl ⟨am,us,(k1:Int),.ref b1,rfl,rfl,g2,xS g3,.inl ⟨rfl,ws1,SqL.of g4⟩,?_⟩)⟩;obtain⟨O,eo,_⟩:=(SKG (σ2.set j (some (.ref am))) H3 _ L2 (.inr ⟨_,hσn⟩) hb3 tf kp rs2 sub2 nd2).eok;refine q O _ H3 _ _ eo ?_;rw[hd];refine fun y1 H4 Le s4 ry _=>?_;have zL:=Rep.imm _ _ _ ry hi;subst zL;obtain⟨f1,f2,f3,L5,f4,f5,f6⟩:=g7 H4 y1 s4 ry;refine⟨b1,ws1,y1,rfl,rfl,f1,by lia,?_⟩;have nb1:b≠b1:=fun z=>m1 (z▸sub2 _ g6);have hb5:upd H4 b1 (.lst (ws1++[y1])) b=some (.lst vs):=by rw[zK nb1];exact s4 _ _ hb3
      have kp5:∀c,c∉b::L'->H c≠none->upd H4 b1 (.lst (ws1++[y1])) c=H c:=fun c hc hn=>by
       have e5:=kp c hc hn;rw[f3 c (fun z=>hc (tG _ (sub2 _ z))) (by rw[e5];exact hn),e5]
      have hat2:((w8 (kE d k1 k2) rows m).set m (.tup (ds.set k1 (.lst (xs++[d])))))[m]?=some (.tup (ds.set k1 (.lst (xs++[d])))):=sE (tT.mp hat).1;have hk2':(ds.set k1 (.lst (xs++[d])))[k2]?=some (.lst ys):=by rw[sC hkk];exact hk2
      obtain⟨am',us',b2,ws2,a1,a2,a3,a4,a5,a6,a7⟩:=ZY (d:=d) f4 f6 hat2 hk2';rw[hx]at a1;cases a1;refine⟨.ref am,hσj _ hσ,.inr (.inl ⟨am,us',(k2:Int),.ref b2,rfl,rfl,a2,xS a3,.inl ⟨rfl,ws2,SqL.of a4⟩,?_⟩)⟩;obtain⟨O',eo',_⟩:=(SKG (σ2.set j (some (.ref am))) _ _ L5 (.inr ⟨_,hσn⟩) hb5 (tf.trans f2) kp5 f4 (fun a ha=>sub2 _ (f5 a ha)) f6).eok;refine q' O' _ _ _ _ eo' ?_;rw[hd'];refine fun y2 H6 Le' s6 ry' _=>?_;have zL':=Rep.imm _ _ _ ry' hi;subst zL';obtain⟨u1,u2,u3,L7,u4,u5,u6⟩:=a7 H6 y2 s6 ry';have nb2:b≠b2:=fun z=>m1 (z▸sub2 _ (f5 _ a6));refine⟨b2,ws2,y2,rfl,rfl,u1,by lia,hlt,.inr ⟨_,hσn⟩,?_,(tf.trans f2).trans u2,?_,L7,?_,fun a ha=>sub2 _ (f5 _ (u5 _ ha)),u6⟩
      ·rw[zK nb2];exact s6 _ _ hb5
      ·intro c hc hn;have e5:=kp5 c hc hn;rw[u3 c (fun z=>hc (tG _ (sub2 _ (f5 _ z)))) (by rw[e5];exact hn),e5]
      ·have ecur:w8 (kE d k1 k2) rows (m+1)=((w8 (kE d k1 k2) rows m).set m (.tup (ds.set k1 (.lst (xs++[d]))))).set m (.tup ((ds.set k1 (.lst (xs++[d]))).set k2 (.lst (ys++[d])))):=by
        rw[List.set_set,<-Wt hlt,hrow];unfold kE;simp only[hk1,hk2]
       rw[ecur];exact u4
     ·have em:m=rows.length:=by lia
      subst em;rw[Wj]at rs2;exact .inl ⟨⟨vs,SqL.of hb3,by lia⟩,h _ _ (SKG σ2 H2 _ L2 hσ hb3 tf kp rs2 sub2 nd2)⟩
    ·rw[if_neg hall]at h;exact h.elim
   | _=>rw[hτ]at h;exact h.elim
end
end L2
namespace K25
open PySem PySem.Spec PyProof.Rows L2
def top (i:Nat):Stmt:=PySem.Challenge.pw_quirehand_k25_whole_pages_placed.main.body.getD i (.Pass ⟨0,0,0,0⟩)
section
variable {P:Program}{w:World}{K:jJa}{mg:Str->Option Value}{base:Heap}
structure Cls (K:jJa)(mg:Str->Option Value):Prop where
 so:mg "sorted"=none
def qS:Tn->R Fl:=(zB (eL wB (za (yh [none] (yf (eSl (zb 0) (ya (zb 1)) (ya (zb 2)))) (.one 0) (fun _=>.ok true) (zd ixD (zb 0) (eC (.int 3)))) ze)))
def yR:List D->R D:=zF 3 qS
def sc_marks_in:FnScope ["strips","begin","end"] ["strips","begin","end"] (defScope (top 1)):=by constructor<;>first|rfl|decide +kernel
def Y8 (Df:DefIn K mg "marks_in" (top 1) ["strips","begin","end"])(B:Bl mg)(Cl:Cls K mg) :Own P w K mg base "marks_in" 1 ["strips","begin","end"] (spM K yR 3):=
 Df.mir (k:=0) (Γ':=[.shr,.shr,.shr]) sc_marks_in (by decide) fun f cdv A outer s H E hr=>(zp (zQ (zg (zG (xx rfl) je qK (by exact rfl) B.sum PyProof.Rows.boot_sum (zc (yy (N':=["strip"]) (fr:=[none]) rfl (yZ sc_marks_in.nofree (by decide +kernel)) (yA (qC (mn 0 .shr) (yU (mn 1 .shr)) (yU (mn 2 .shr)))) (fun _ _ _ _=>(zO (pgn 0 (show List.Nodup (["strip"]:List Str) from by decide +kernel)))) (fun _ _ _ _=>yx) (fun _ _ _ _=>(zD hr.u1 (mn 0 .shr) zi)) (by decide) (by decide)) zk)))))
def vL:Tn->R Fl:=(zj (zl 3 (eL wB (za (yh [none] (yf (eSl (zb 0) (ya (zb 1)) (ya (zb 2)))) (.one 0) (fun _=>.ok true) (zd ixD (zb 0) (eC (.int 1)))) ze))) (zB (zd zw (zb 3) (eL wB (za (yh [none] (yf (eSl (zb 0) (ya (zd zw (zb 1) (eC (.int 1)))) (ya (zb 2)))) (.one 0) (fun _=>.ok true) (zd ixD (zb 0) (eC (.int 0)))) ze)))))
def yt:List D->R D:=zF 4 vL
def sc_body_height:FnScope ["strips","begin","end","height"] ["strips","begin","end"] (defScope (top 2)):=by constructor<;>first|rfl|decide +kernel
def qM (Df:DefIn K mg "body_height" (top 2) ["strips","begin","end"])(B:Bl mg)(Cl:Cls K mg) :Own P w K mg base "body_height" 1 ["strips","begin","end"] (spM K yt 3):=
 Df.mir (k:=0) (Γ':=[.shr,.shr,.shr,.dead]) sc_body_height (by decide) fun f cdv A outer s H E hr=>(zh (L2.st 3 sc_body_height.nd (zg (zG (xx rfl) je qK (by exact rfl) B.sum PyProof.Rows.boot_sum (zc (yy (N':=["strip"]) (fr:=[none]) rfl (yZ sc_body_height.nofree (by decide +kernel)) (yA (qC (mn 0 .shr) (yU (mn 1 .shr)) (yU (mn 2 .shr)))) (fun _ _ _ _=>(zO (pgn 0 (show List.Nodup (["strip"]:List Str) from by decide +kernel)))) (fun _ _ _ _=>yx) (fun _ _ _ _=>(zD hr.u1 (mn 0 .shr) zi)) (by decide) (by decide)) zk)))) (zp (zQ (zg (zq zA zT zS (mn 3 .own) (zG (xx rfl) je qK (by exact rfl) B.sum PyProof.Rows.boot_sum (zc (yy (N':=["strip"]) (fr:=[none]) rfl (yZ sc_body_height.nofree (by decide +kernel)) (yA (qC (mn 0 .shr) (yU (zq zA zT zS (mn 1 .shr) zi)) (yU (mn 2 .shr)))) (fun _ _ _ _=>(zO (pgn 0 (show List.Nodup (["strip"]:List Str) from by decide +kernel)))) (fun _ _ _ _=>yx) (fun _ _ _ _=>(zD hr.u1 (mn 0 .shr) zi)) (by decide) (by decide)) zk)))))))
def uD:Tn->R Fl:=(zj (zl 5 (eL yR (za (zb 0) (za (eC (.int 0)) (za (zb 1) ze))))) (zB (eL (fun ds=>.ok (.tup ds)) (za (eL wI (za (eC (.int 0)) (za (zd vD (zb 5) (zb 3)) ze))) (za (zd vD (zd zw (zb 5) (eL yR (za (zb 0) (za (zb 1) (za (zb 2) ze))))) (zb 4)) ze)))))
def yX:List D->R D:=zF 6 uD
def sc_foot_of:FnScope ["strips","begin","end","ahead","late","before"] ["strips","begin","end","ahead","late"] (defScope (top 3)):=by constructor<;>first|rfl|decide +kernel
def Yp (Df:DefIn K mg "foot_of" (top 3) ["strips","begin","end","ahead","late"])(B:Bl mg)(Cl:Cls K mg)(oj:Own P w K mg base "marks_in" 1 ["strips","begin","end"] (spM K yR 3)):Own P w K mg base "foot_of" 2 ["strips","begin","end","ahead","late"] (spM K yX 5):=
 Df.mir (k:=1) (Γ':=[.shr,.shr,.shr,.shr,.shr,.dead]) sc_foot_of (by decide) fun f cdv A outer s H E hr=>(zh (L2.st 5 sc_foot_of.nd (zg (zJ (oj.mono (by decide)) hr (by exact rfl) zt (zc (mn 0 .shr) (zc zi (zc (mn 1 .shr) zk)))))) (zp (zQ (zg (xK (zc (zG (uC (by exact rfl)) YB YA (by exact rfl) B.max PyProof.Rows.boot_max (zc zi (zc (zq vR qW zZ (mn 5 .own) (mn 3 .shr)) zk))) (zc (zq vR qW zZ (zq zA zT zS (mn 5 .own) (zJ (oj.mono (by decide)) hr (by exact rfl) zt (zc (mn 0 .shr) (zc (mn 1 .shr) (zc (mn 2 .shr) zk))))) (mn 4 .shr)) zk)))))))
def Qr:Tn->R Fl:=(zj (zl 1 (eL (fun ds=>.ok (.lst ds)) ze)) (zj (zl 2 (eC (.int 0))) (zj (zl 3 (eC (.int 0))) (zj (yn (yf (zb 0)) (.many [4,5]) (zj (xH 1 (xm (eL (fun ds=>.ok (.tup ds)) (za (zb 2) (za (zb 4) (za (zb 3) (za (zb 5) ze))))))) (zj (zl 2 (zb 4)) (zl 3 (zb 5))))) (zB (zb 1))))))
def uc:List D->R D:=zF 6 Qr
def sc_spans:FnScope ["leaves","told","begin","ahead","end","late"] ["leaves"] (defScope (top 4)):=by constructor<;>first|rfl|decide +kernel
def WS (Df:DefIn K mg "spans" (top 4) ["leaves"])(B:Bl mg)(Cl:Cls K mg) :Own P w K mg base "spans" 1 ["leaves"] (spM K uc 1):=
 Df.mir (k:=0) (Γ':=[.shr,.dead,.dead,.dead,.dead,.dead]) sc_spans (by decide) fun f cdv A outer s H E hr=>(zh (L2.st 1 sc_spans.nd (zg (y3 zk))) (zh (L2.st 2 sc_spans.nd (zg zi)) (zh (L2.st 3 sc_spans.nd (zg zi)) (zh (YY (Γ1:=[.shr,.own,.shr,.shr,.dead,.dead]) (yN (Γ2:=[.shr,.own,.shr,.shr,.shr,.shr]) PassesOwn.leaving rfl (yA (mn 0 .shr)) (by decide) (vC rfl (yk (pgn 4 sc_spans.nd) (yk (pgn 5 sc_spans.nd) vB))) (by decide) (zh (app 1 (zg (xA (xK (zc (mn 2 .shr) (zc (mn 4 .shr) (zc (mn 3 .shr) (zc (mn 5 .shr) zk)))))))) (zh (stS 2 sc_spans.nd (mn 4 .shr)) (zp (stS 3 sc_spans.nd (mn 5 .shr))))) rfl) rfl) (zp (zQ (mvn 1)))))))
def W3:Tn->R Fl:=(zB (yh [none,none,none,some 1] (xn (zb 0)) (.many [0,1,2]) (fun _=>.ok true) (xm (eL (fun ds=>.ok (.tup ds)) (za (zd zw (zb 0) (zb 3)) (za (zb 1) (za (zb 2) ze)))))))
def yB:List D->R D:=zF 2 W3
def sc_lowered:FnScope ["spots","rows"] ["spots","rows"] (defScope (top 6)):=by constructor<;>first|rfl|decide +kernel
def YR (Df:DefIn K mg "lowered" (top 6) ["spots","rows"])(B:Bl mg)(Cl:Cls K mg) :Own P w K mg base "lowered" 1 ["spots","rows"] (spM K yB 2):=
 Df.mir (k:=0) (Γ':=[.shr,.shr]) sc_lowered (by decide) fun f cdv A outer s H E hr=>(zp (zQ (zg (yy (N':=["top","left","text","rows"]) (fr:=[none,none,none,some 1]) rfl (yZ sc_lowered.nofree (by decide +kernel)) (wM (mn 0 .shr)) (fun _ _ _ _=>(vC rfl (yk (pgn 0 (show List.Nodup (["top","left","text","rows"]:List Str) from by decide +kernel)) (yk (pgn 1 (show List.Nodup (["top","left","text","rows"]:List Str) from by decide +kernel)) (yk (pgn 2 (show List.Nodup (["top","left","text","rows"]:List Str) from by decide +kernel)) vB))))) (fun _ _ _ _=>yx) (fun _ _ _ _=>(xA (xK (zc (zq zA zT zS (mn 0 .shr) (mn 3 .shr)) (zc (mn 1 .shr) (zc (mn 2 .shr) zk)))))) (by decide) (by decide)))))
def kX:Tn->R Fl:=(zj (zl 4 (eL (fun ds=>.ok (.lst ds)) ze)) (zj (zl 5 (eC (.int 0))) (zj (yn (iL jn (za (zb 2) (za (zb 3) ze))) (.one 6) (zj (sIf (zz (zd gtD (zb 6) (zb 2))) (uM 5 vd (zd ixD (zd ixD (zb 0) (zb 6)) (eC (.int 0)))) yi) (zj (uX 4 (eL yB (za (zd ixD (zd ixD (zb 1) (zb 6)) (eC (.int 1))) (za (zb 5) ze)))) (uM 5 vd (zd ixD (zd ixD (zb 0) (zb 6)) (eC (.int 1))))))) (zB (zb 4)))))
def yo:List D->R D:=zF 7 kX
def sc_body_spots:FnScope ["strips","rows","begin","end","spots","top","place"] ["strips","rows","begin","end"] (defScope (top 7)):=by constructor<;>first|rfl|decide +kernel
def jB (Df:DefIn K mg "body_spots" (top 7) ["strips","rows","begin","end"])(B:Bl mg)(Cl:Cls K mg)(o4:Own P w K mg base "lowered" 1 ["spots","rows"] (spM K yB 2)):Own P w K mg base "body_spots" 2 ["strips","rows","begin","end"] (spM K yo 4):=
 Df.mir (k:=1) (Γ':=[.shr,.shr,.shr,.shr,.dead,.dead,.dead]) sc_body_spots (by decide) fun f cdv A outer s H E hr=>(zh (L2.st 4 sc_body_spots.nd (zg (y3 zk))) (zh (L2.st 5 sc_body_spots.nd (zg zi)) (zh (yN (Γ2:=[.shr,.shr,.shr,.shr,.own,.own,.shr]) PassesOwn.leaving rfl (ki rfl B.range (zc (mn 2 .shr) (zc (mn 3 .shr) zk))) (by decide) (zO (pgn 6 sc_body_spots.nd)) (by decide) (zh (vp (wc Ub z02 zZ (mn 6 .shr) (mn 2 .shr) (yY _)) (zp (aug 5 .own sc_body_spots.nd kN kG jo (zD hr.u1 (zD hr.u1 (mn 0 .shr) (mn 6 .shr)) zi))) xo) (zh (VR 4 (zJ (o4.mono (by decide)) hr (by exact rfl) zt (zc (zD hr.u1 (zD hr.u1 (mn 1 .shr) (mn 6 .shr)) zi) (zc (mn 5 .own) zk)))) (zp (aug 5 .own sc_body_spots.nd kN kG jo (zD hr.u1 (zD hr.u1 (mn 0 .shr) (mn 6 .shr)) zi))))) rfl) (zp (zQ (mvn 4))))))
def vG:Tn->R Fl:=(zB (eL wB (za (yh [none] (xn (zb 0)) (.one 0) (fun _=>.ok true) (zd ixD (zb 0) (eC (.int 0)))) ze)))
def yM:List D->R D:=zF 1 vG
def sc_note_height:FnScope ["note"] ["note"] (defScope (top 8)):=by constructor<;>first|rfl|decide +kernel
def qA (Df:DefIn K mg "note_height" (top 8) ["note"])(B:Bl mg)(Cl:Cls K mg) :Own P w K mg base "note_height" 1 ["note"] (spM K yM 1):=
 Df.mir (k:=0) (Γ':=[.shr]) sc_note_height (by decide) fun f cdv A outer s H E hr=>(zp (zQ (zg (zG (xx rfl) je qK (by exact rfl) B.sum PyProof.Rows.boot_sum (zc (yy (N':=["row"]) (fr:=[none]) rfl (yZ sc_note_height.nofree (by decide +kernel)) (wM (mn 0 .shr)) (fun _ _ _ _=>(zO (pgn 0 (show List.Nodup (["row"]:List Str) from by decide +kernel)))) (fun _ _ _ _=>yx) (fun _ _ _ _=>(zD hr.u1 (mn 0 .shr) zi)) (by decide) (by decide)) zk)))))
def kM:Tn->R Fl:=(zj (zl 2 (eL (fun ds=>.ok (.lst ds)) ze)) (zj (zl 3 (zb 1)) (zj (yn (yf (zb 0)) (.one 4) (yn (xn (zb 4)) (.one 5) (zj (uX 2 (eL yB (za (zd ixD (zb 5) (eC (.int 1))) (za (zb 3) ze)))) (uM 3 vd (zd ixD (zb 5) (eC (.int 0))))))) (zB (zb 2)))))
def yF:List D->R D:=zF 6 kM
def sc_foot_spots:FnScope ["notes","first","spots","top","note","row"] ["notes","first"] (defScope (top 9)):=by constructor<;>first|rfl|decide +kernel
def jy (Df:DefIn K mg "foot_spots" (top 9) ["notes","first"])(B:Bl mg)(Cl:Cls K mg)(o4:Own P w K mg base "lowered" 1 ["spots","rows"] (spM K yB 2)):Own P w K mg base "foot_spots" 2 ["notes","first"] (spM K yF 2):=
 Df.mir (k:=1) (Γ':=[.shr,.shr,.dead,.dead,.dead,.dead]) sc_foot_spots (by decide) fun f cdv A outer s H E hr=>(zh (L2.st 2 sc_foot_spots.nd (zg (y3 zk))) (zh (stS 3 sc_foot_spots.nd (mn 1 .shr)) (zh (yN (Γ2:=[.shr,.shr,.own,.shr,.shr,.dead]) PassesOwn.leaving rfl (yA (mn 0 .shr)) (by decide) (zO (pgn 4 sc_foot_spots.nd)) (by decide) (zp (yN (Γ2:=[.shr,.shr,.own,.own,.shr,.shr]) PassesOwn.leaving rfl (wM (mn 4 .shr)) (by decide) (zO (pgn 5 sc_foot_spots.nd)) (by decide) (zh (VR 2 (zJ (o4.mono (by decide)) hr (by exact rfl) zt (zc (zD hr.u1 (mn 5 .shr) zi) (zc (mn 3 .shr) zk)))) (zp (aug 3 .shr sc_foot_spots.nd kN kG jo (zD hr.u1 (mn 5 .shr) zi)))) rfl)) rfl) (zp (zQ (mvn 2))))))
def Wh:Tn->R Fl:=(zj (zl 5 (zd ixD (zb 4) (eC (.int 0)))) (zj (zl 6 (zd ixD (zb 4) (eC (.int 1)))) (zj (zl 7 (eL yo (za (zb 1) (za (zb 2) (za (zb 5) (za (zb 6) ze)))))) (zj (zl 8 (eL yX (za (zb 1) (za (zb 5) (za (zb 6) (za (zd ixD (zb 4) (eC (.int 2))) (za (zd ixD (zb 4) (eC (.int 3))) ze))))))) (zj (zl 9 (eSl (zb 3) (ya (zd ixD (zb 8) (eC (.int 0)))) (ya (zd ixD (zb 8) (eC (.int 1)))))) (zj (sIf (zz (zd (eqR false) (eL x9 (za (zb 9) ze)) (eC (.int 0)))) (zB (eL (fun ds=>.ok (.tup ds)) (za (zb 7) (za (eC .non) (za (eL (fun ds=>.ok (.lst ds)) ze) ze))))) yi) (zj (zl 10 (eL wB (za (yh [none] (yf (zb 9)) (.one 0) (fun _=>.ok true) (eL yM (za (zb 0) ze))) ze))) (zj (zl 11 (eL wI (za (eL yt (za (zb 1) (za (zb 5) (za (zb 6) ze)))) (za (zd vD (zd vD (zd ixD (zb 0) (eC (.str "height"))) (zb 10)) (eC (.int 1))) ze)))) (zB (eL (fun ds=>.ok (.tup ds)) (za (zb 7) (za (xm (zb 11)) (za (eL yF (za (zb 9) (za (zd zw (zb 11) (eC (.int 1))) ze))) ze)))))))))))))
def xD:List D->R D:=zF 12 Wh
def sc_page_of:FnScope ["rules","strips","rows","notes","span","begin","end","body","foot","own","height","rule"] ["rules","strips","rows","notes","span"] (defScope (top 10)):=by constructor<;>first|rfl|decide +kernel
def YL (Df:DefIn K mg "page_of" (top 10) ["rules","strips","rows","notes","span"])(B:Bl mg)(Cl:Cls K mg)(ol:Own P w K mg base "body_spots" 2 ["strips","rows","begin","end"] (spM K yo 4))(ow:Own P w K mg base "foot_of" 2 ["strips","begin","end","ahead","late"] (spM K yX 5))(o9:Own P w K mg base "body_height" 1 ["strips","begin","end"] (spM K yt 3))(om:Own P w K mg base "foot_spots" 2 ["notes","first"] (spM K yF 2))(og:Own P w K mg base "note_height" 1 ["note"] (spM K yM 1)):Own P w K mg base "page_of" 3 ["rules","strips","rows","notes","span"] (spM K xD 5):=
 Df.mir (k:=2) (Γ':=[.shr,.shr,.shr,.shr,.shr,.dead,.dead,.dead,.dead,.dead,.dead,.dead]) sc_page_of (by decide) fun f cdv A outer s H E hr=>(zh (stS 5 sc_page_of.nd (zD hr.u1 (mn 4 .shr) zi)) (zh (stS 6 sc_page_of.nd (zD hr.u1 (mn 4 .shr) zi)) (zh (L2.st 7 sc_page_of.nd (zg (zJ (ol.mono (by decide)) hr (by exact rfl) zt (zc (mn 1 .shr) (zc (mn 2 .shr) (zc (mn 5 .shr) (zc (mn 6 .shr) zk))))))) (zh (L2.st 8 sc_page_of.nd (zg (zJ (ow.mono (by decide)) hr (by exact rfl) zt (zc (mn 1 .shr) (zc (mn 5 .shr) (zc (mn 6 .shr) (zc (zD hr.u1 (mn 4 .shr) zi) (zc (zD hr.u1 (mn 4 .shr) zi) zk)))))))) (zh (L2.st 9 sc_page_of.nd (zg (qC (mn 3 .shr) (yU (zD hr.u1 (mn 8 .own) zi)) (yU (zD hr.u1 (mn 8 .own) zi))))) (zh (vp (wc (uh hr.u12) W9 VF (zG yW uu uo (by exact rfl) B.len PySem.boot_len (zc (mn 9 .own) zk)) zi (yY _)) (zp (zQ (uA (zW (mvn 7) (zW (zg qD) (zW (zg (y3 zk)) vx)))))) xo) (zh (L2.st 10 sc_page_of.nd (zg (zG (xx rfl) je qK (by exact rfl) B.sum PyProof.Rows.boot_sum (zc (yy (N':=["note"]) (fr:=[none]) rfl (yZ sc_page_of.nofree (by decide +kernel)) (yA (mn 9 .own)) (fun _ _ _ _=>(zO (pgn 0 (show List.Nodup (["note"]:List Str) from by decide +kernel)))) (fun _ _ _ _=>yx) (fun _ _ _ _=>(zJ (og.mono (by decide)) hr (by exact rfl) uF (zc (mn 0 .brw) zk))) (by decide) (by decide)) zk)))) (zh (L2.st 11 sc_page_of.nd (zg (zG (uC (by exact rfl)) YB YA (by exact rfl) B.max PyProof.Rows.boot_max (zc (zJ (o9.mono (by decide)) hr (by exact rfl) zt (zc (mn 1 .shr) (zc (mn 5 .shr) (zc (mn 6 .shr) zk)))) (zc (zq vR qW zZ (zq vR qW zZ (zD hr.u1 (mn 0 .shr) xy) (mn 10 .own)) zi) zk))))) (zp (zQ (uA (zW (mvn 7) (zW (zg (xA (mn 11 .own))) (zW (zg (zJ (om.mono (by decide)) hr (by exact rfl) zt (zc (mn 9 .own) (zc (zq zA zT zS (mn 11 .own) zi) zk)))) vx))))))))))))))
def ZD:Tn->R Fl:=(zB (yh [none,some 0,some 1,some 2,some 3] (yf (eL uc (za (zb 4) ze))) (.one 0) (fun _=>.ok true) (eL xD (za (zb 1) (za (zb 2) (za (zb 3) (za (zb 4) (za (zb 0) ze))))))))
def xv:List D->R D:=zF 5 ZD
def sc_placed:FnScope ["rules","strips","rows","notes","leaves"] ["rules","strips","rows","notes","leaves"] (defScope (top 11)):=by constructor<;>first|rfl|decide +kernel
def XQ (Df:DefIn K mg "placed" (top 11) ["rules","strips","rows","notes","leaves"])(B:Bl mg)(Cl:Cls K mg)(ox:Own P w K mg base "page_of" 3 ["rules","strips","rows","notes","span"] (spM K xD 5))(oy:Own P w K mg base "spans" 1 ["leaves"] (spM K uc 1)):Own P w K mg base "placed" 4 ["rules","strips","rows","notes","leaves"] (spM K xv 5):=
 Df.mir (k:=3) (Γ':=[.shr,.shr,.shr,.shr,.shr]) sc_placed (by decide) fun f cdv A outer s H E hr=>(zp (zQ (zg (yy (N':=["span","rules","strips","rows","notes"]) (fr:=[none,some 0,some 1,some 2,some 3]) rfl (yZ sc_placed.nofree (by decide +kernel)) (yA (zJ (oy.mono (by decide)) hr (by exact rfl) zt (zc (mn 4 .shr) zk))) (fun _ _ _ _=>(zO (pgn 0 (show List.Nodup (["span","rules","strips","rows","notes"]:List Str) from by decide +kernel)))) (fun _ _ _ _=>yx) (fun _ _ _ _=>(zJ (ox.mono (by decide)) hr (by exact rfl) uF (zc (mn 1 .shr) (zc (mn 2 .shr) (zc (mn 3 .shr) (zc (mn 4 .shr) (zc (mn 0 .shr) zk))))))) (by decide) (by decide)))))
def xX:Tn->R Fl:=(zj (sIf (zz (zd ltD (zb 1) (eL x9 (za (zb 0) ze)))) (zB (xm (zd ixD (zb 0) (zb 1)))) yi) (zB (eC (.int 0))))
def zo:List D->R D:=zF 2 xX
def uY:FnScope ["_law_script","_law_k"] ["_law_script","_law_k"] (defScope (top 13)):=by constructor<;>first|rfl|decide +kernel
def qe (Df:DefIn K mg "_law_cell_at" (top 13) ["_law_script","_law_k"])(B:Bl mg)(Cl:Cls K mg) :Own P w K mg base "_law_cell_at" 1 ["_law_script","_law_k"] (spM K zo 2):=
 Df.mir (k:=0) (Γ':=[.shr,.shr]) uY (by decide) fun f cdv A outer s H E hr=>(zh (vp (wc X6 Q1 zZ (mn 1 .shr) (zG yW uu uo (by exact rfl) B.len PySem.boot_len (zc (mn 0 .shr) zk)) (yY _)) (zp (zQ (zg (xA (zD hr.u1 (mn 0 .shr) (mn 1 .shr)))))) xo) (zp (zQ (zg zi))))
def kQ:Tn->R Fl:=(zj (zl 3 (eL (fun ds=>.ok (.lst ds)) ze)) (zj (yn (iL xU (za (zb 1) ze)) (.one 4) (yn (iL xU (za (zd ym (zd yL (zb 0) (zd zw (eC (.int 3)) (zb 4))) (eC (.int 3))) ze)) (.one 5) (xH 3 (xm (eL (fun ds=>.ok (.tup ds)) (za (zb 4) (za (zd zw (zd wb (eC (.int 5)) (zb 5)) (zd ym (zb 0) (eC (.int 4)))) (za (zd zw (zd zw (zd zw (zb 2) (eL xj (za (zb 4) ze))) (eC (.str "-"))) (eL xj (za (zb 5) ze))) ze)))))))) (zB (zb 3))))
def zP:List D->R D:=zF 6 kQ
def sc__law_spots:FnScope ["_law_cell","_law_height","_law_name","_law_found","_law_top","_law_k"] ["_law_cell","_law_height","_law_name"] (defScope (top 14)):=by constructor<;>first|rfl|decide +kernel
def ju (Df:DefIn K mg "_law_spots" (top 14) ["_law_cell","_law_height","_law_name"])(B:Bl mg)(Cl:Cls K mg) :Own P w K mg base "_law_spots" 1 ["_law_cell","_law_height","_law_name"] (spM K zP 3):=
 Df.mir (k:=0) (Γ':=[.shr,.shr,.shr,.dead,.dead,.dead]) sc__law_spots (by decide) fun f cdv A outer s H E hr=>(zh (L2.st 3 sc__law_spots.nd (zg (y3 zk))) (zh (yN (Γ2:=[.shr,.shr,.shr,.own,.shr,.dead]) PassesOwn.leaving rfl (wJ rfl B.range (zc (mn 1 .shr) zk)) (by decide) (zO (pgn 4 sc__law_spots.nd)) (by decide) (zp (yN (Γ2:=[.shr,.shr,.shr,.own,.shr,.shr]) PassesOwn.leaving rfl (wJ rfl B.range (zc (zq xE wG zZ (zq wZ vY zZ (mn 0 .shr) (zq zA zT zS zi (mn 4 .shr))) zi) zk)) (by decide) (zO (pgn 5 sc__law_spots.nd)) (by decide) (zp (app 3 (zg (xA (xK (zc (mn 4 .shr) (zc (zq zA zT zS (zq uq Zd ZJ zi (mn 5 .shr)) (zq xE wG zZ (mn 0 .shr) zi)) (zc (zq zA zT zS (zq zA zT zS (zq zA zT zS (mn 2 .shr) (yE xl qz j3 (by exact rfl) B.str Boot.«str» (zc (mn 4 .shr) zk))) xy) (yE xl qz j3 (by exact rfl) B.str Boot.«str» (zc (mn 5 .shr) zk))) zk)))))))) rfl)) rfl) (zp (zQ (mvn 3)))))
def ZH:Tn->R Fl:=(zj (zl 1 (eL (fun ds=>.ok (.lst ds)) ze)) (zj (zl 2 (eL (fun ds=>.ok (.lst ds)) ze)) (zj (zl 3 (eL (fun ds=>.ok (.lst ds)) ze)) (zj (yn (iL xU (za (zd ym (eL zo (za (zb 0) (za (eC (.int 0)) ze))) (eC (.int 21))) ze)) (.one 4) (zj (zl 5 (zd ym (zd wb (zd zw (eL zo (za (zb 0) (za (zd zw (eC (.int 4)) (zd ym (zb 4) (eC (.int 18)))) ze))) (zd wb (eC (.int 17)) (zb 4))) (eC (.int 48271))) (eC (.int 1000003)))) (zj (zl 6 (zd ixD (eL (fun ds=>.ok (.lst ds)) (za (eC (.int 1)) (za (eC (.int 1)) (za (eC (.int 1)) (za (eC (.int 2)) (za (eC (.int 3)) ze)))))) (zd ym (zb 5) (eC (.int 5))))) (zj (zl 7 (zd ixD (eL (fun ds=>.ok (.lst ds)) (za (eC (.int 0)) (za (eC (.int 0)) (za (eC (.int 1)) (za (eC (.int 0)) (za (eC (.int 2)) ze)))))) (zd ym (zd yL (zb 5) (eC (.int 5))) (eC (.int 5))))) (zj (xH 1 (xm (eL (fun ds=>.ok (.tup ds)) (za (zb 6) (za (eUn qv (eL zP (za (zd yL (zb 5) (eC (.int 25))) (za (zb 6) (za (zd zw (zd zw (eC (.str "row")) (eL xj (za (zb 4) ze))) (eC (.str "."))) ze))))) (za (zb 7) ze)))))) (zj (xH 2 (xm (eL (fun ds=>.ok (.tup ds)) (za (zd ixD (eL (fun ds=>.ok (.lst ds)) (za (eC (.int 0)) (za (eC (.int 1)) (za (eC (.int 0)) (za (eC (.int 2)) (za (eC (.int 3)) ze)))))) (zd ym (zd yL (zb 5) (eC (.int 125))) (eC (.int 5)))) (za (zb 6) (za (eC (.int 0)) (za (zb 7) ze))))))) (yn (iL xU (za (zb 7) ze)) (.one 8) (zj (zl 9 (zd yL (zb 5) (zd zw (eC (.int 11)) (zb 8)))) (zj (zl 10 (zd zw (zd zw (eC (.str "note")) (eL xj (za (eL x9 (za (zb 3) ze)) ze))) (eC (.str ".")))) (xH 3 (eUn qv (yh [none,some 9,some 10] (iL xU (za (zd zw (eC (.int 1)) (zd ym (zb 9) (eC (.int 3)))) ze)) (.one 0) (fun _=>.ok true) (eL (fun ds=>.ok (.tup ds)) (za (eC (.int 1)) (za (eUn qv (eL zP (za (zd yL (zb 1) (zd zw (eC (.int 3)) (zb 0))) (za (eC (.int 1)) (za (zd zw (zb 2) (eL xj (za (zb 0) ze))) ze))))) (za (eC (.int 0)) ze)))))))))))))))) (zB (eL (fun ds=>.ok (.tup ds)) (za (zb 1) (za (zb 2) (za (zb 3) ze)))))))))
def yS:List D->R D:=zF 11 ZH
def sc__law_rows:FnScope ["_law_script","_law_rows_here","_law_strips","_law_notes","_law_k","_law_cell","_law_height","_law_many","_law_j","_law_more","_law_name"] ["_law_script"] (defScope (top 15)):=by constructor<;>first|rfl|decide +kernel
def kO (Df:DefIn K mg "_law_rows" (top 15) ["_law_script"])(B:Bl mg)(Cl:Cls K mg)(o3:Own P w K mg base "_law_cell_at" 1 ["_law_script","_law_k"] (spM K zo 2))(o5:Own P w K mg base "_law_spots" 1 ["_law_cell","_law_height","_law_name"] (spM K zP 3)):Own P w K mg base "_law_rows" 2 ["_law_script"] (spM K yS 1):=
 Df.mir (k:=1) (Γ':=[.shr,.dead,.dead,.dead,.dead,.dead,.dead,.dead,.dead,.dead,.dead]) sc__law_rows (by decide) fun f cdv A outer s H E hr=>(zh (L2.st 1 sc__law_rows.nd (zg (y3 zk))) (zh (L2.st 2 sc__law_rows.nd (zg (y3 zk))) (zh (L2.st 3 sc__law_rows.nd (zg (y3 zk))) (zh (yN (Γ2:=[.shr,.own,.own,.own,.shr,.own,.own,.own,.dead,.dead,.dead]) PassesOwn.leaving rfl (wJ rfl B.range (zc (zq xE wG zZ (zJ (o3.mono (by decide)) hr (by exact rfl) zt (zc (mn 0 .shr) (zc zi zk))) zi) zk)) (by decide) (zO (pgn 4 sc__law_rows.nd)) (by decide) (zh (L2.st 5 sc__law_rows.nd (zg (zq xE wG zZ (zq uq Zd ZJ (zq zA zT zS (zJ (o3.mono (by decide)) hr (by exact rfl) zt (zc (mn 0 .shr) (zc (zq zA zT zS zi (zq xE wG zZ (mn 4 .shr) zi)) zk))) (zq uq Zd ZJ zi (mn 4 .shr))) zi) zi))) (zh (L2.st 6 sc__law_rows.nd (zg (zD hr.u1 (y3 (zc zi (zc zi (zc zi (zc zi (zc zi zk)))))) (zq xE wG zZ (mn 5 .own) zi)))) (zh (L2.st 7 sc__law_rows.nd (zg (zD hr.u1 (y3 (zc zi (zc zi (zc zi (zc zi (zc zi zk)))))) (zq xE wG zZ (zq wZ vY zZ (mn 5 .own) zi) zi)))) (zh (app 1 (zg (xA (xK (zc (mn 6 .own) (zc (kU (zJ (o5.mono (by decide)) hr (by exact rfl) zt (zc (zq wZ vY zZ (mn 5 .own) zi) (zc (mn 6 .own) (zc (zq zA zT zS (zq zA zT zS xy (yE xl qz j3 (by exact rfl) B.str Boot.«str» (zc (mn 4 .shr) zk))) xy) zk))))) (zc (mn 7 .own) zk))))))) (zh (app 2 (zg (xA (xK (zc (zD hr.u1 (y3 (zc zi (zc zi (zc zi (zc zi (zc zi zk)))))) (zq xE wG zZ (zq wZ vY zZ (mn 5 .own) zi) zi)) (zc (mn 6 .own) (zc zi (zc (mn 7 .own) zk)))))))) (zp (yN (Γ2:=[.shr,.own,.own,.own,.shr,.own,.own,.own,.shr,.own,.own]) PassesOwn.leaving rfl (wJ rfl B.range (zc (mn 7 .own) zk)) (by decide) (zO (pgn 8 sc__law_rows.nd)) (by decide) (zh (L2.st 9 sc__law_rows.nd (zg (zq wZ vY zZ (mn 5 .own) (zq zA zT zS zi (mn 8 .shr))))) (zh (L2.st 10 sc__law_rows.nd (zg (zq zA zT zS (zq zA zT zS xy (yE xl qz j3 (by exact rfl) B.str Boot.«str» (zc (zG yW uu uo (by exact rfl) B.len PySem.boot_len (zc (mn 3 .own) zk)) zk))) xy))) (zp (app 3 (zg (kU (yy (N':=["_law_n","_law_more","_law_name"]) (fr:=[none,some 9,some 10]) rfl (yZ sc__law_rows.nofree (by decide +kernel)) (wJ rfl B.range (zc (zq zA zT zS zi (zq xE wG zZ (mn 9 .own) zi)) zk)) (fun _ _ _ _=>(zO (pgn 0 (show List.Nodup (["_law_n","_law_more","_law_name"]:List Str) from by decide +kernel)))) (fun _ _ _ _=>yx) (fun _ _ _ _=>(xK (zc zi (zc (kU (zJ (o5.mono (by decide)) hr (by exact rfl) uF (zc (zq wZ vY zZ (mn 1 .brw) (zq zA zT zS zi (mn 0 .shr))) (zc zi (zc (zq zA zT zS (mn 2 .brw) (yE xl qz j3 (by exact rfl) B.str Boot.«str» (zc (mn 0 .shr) zk))) zk))))) (zc zi zk))))) (by decide) (by decide)))))))) rfl))))))) rfl) (zp (zQ (uA (zW (mvn 1) (zW (mvn 2) (zW (mvn 3) vx))))))))))
def jE:Tn->R Fl:=(zj (zl 2 (eL (fun ds=>.ok (.lst ds)) ze)) (zj (zl 3 (eC (.int 0))) (zj (xw (zz (zd ltD (zb 3) (eL x9 (za (zb 1) ze)))) (zj (zl 4 (zd zw (eL zo (za (zb 0) (za (zd zw (eC (.int 22)) (zd ym (eL x9 (za (zb 2) ze)) (eC (.int 12)))) ze))) (zd wb (eC (.int 5)) (eL x9 (za (zb 2) ze))))) (zj (zl 5 (eL jb (za (eL x9 (za (zb 1) ze)) (za (zd zw (zd zw (zb 3) (eC (.int 1))) (zd ym (zb 4) (eC (.int 6)))) ze)))) (zj (zl 6 (eL wB (za (yh [none] (yf (eSl (zb 1) (ya (zb 3)) (ya (zb 5)))) (.one 0) (fun _=>.ok true) (zd ixD (zb 0) (eC (.int 3)))) ze))) (zj (zl 7 (eIf (zz (zd ltD (zb 5) (eL x9 (za (zb 1) ze)))) (zd ym (zd yL (zb 4) (eC (.int 6))) (zd zw (zb 6) (eC (.int 1)))) (eC (.int 0)))) (zj (xH 2 (xm (eL (fun ds=>.ok (.tup ds)) (za (zb 5) (za (zb 7) ze))))) (zl 3 (xm (zb 5))))))))) (zB (zb 2)))))
def yu:List D->R D:=zF 8 jE
def sc__law_leaves:FnScope ["_law_script","_law_strips","_law_found","_law_begin","_law_cell","_law_end","_law_own","_law_late"] ["_law_script","_law_strips"] (defScope (top 16)):=by constructor<;>first|rfl|decide +kernel
def qL (Df:DefIn K mg "_law_leaves" (top 16) ["_law_script","_law_strips"])(B:Bl mg)(Cl:Cls K mg)(o3:Own P w K mg base "_law_cell_at" 1 ["_law_script","_law_k"] (spM K zo 2)):Own P w K mg base "_law_leaves" 2 ["_law_script","_law_strips"] (spM K yu 2):=
 Df.mir (k:=1) (Γ':=[.shr,.shr,.dead,.dead,.dead,.dead,.dead,.dead]) sc__law_leaves (by decide) fun f cdv A outer s H E hr=>(zh (L2.st 2 sc__law_leaves.nd (zg (y3 zk))) (zh (L2.st 3 sc__law_leaves.nd (zg zi)) (zh (WU (Γ2:=[.shr,.shr,.own,.own,.own,.own,.own,.own]) PassesOwn.leaving (wc X6 Q1 zZ (mn 3 .own) (zG yW uu uo (by exact rfl) B.len PySem.boot_len (zc (mn 1 .shr) zk)) (yY _)) (zh (L2.st 4 sc__law_leaves.nd (zg (zq zA zT zS (zJ (o3.mono (by decide)) hr (by exact rfl) zt (zc (mn 0 .shr) (zc (zq zA zT zS zi (zq xE wG zZ (zG yW uu uo (by exact rfl) B.len PySem.boot_len (zc (mn 2 .own) zk)) zi)) zk))) (zq uq Zd ZJ zi (zG yW uu uo (by exact rfl) B.len PySem.boot_len (zc (mn 2 .own) zk)))))) (zh (L2.st 5 sc__law_leaves.nd (zg (zG (XZ (by exact rfl)) JU Kq (by exact rfl) B.min PyProof.Rows.boot_min (zc (zG yW uu uo (by exact rfl) B.len PySem.boot_len (zc (mn 1 .shr) zk)) (zc (zq zA zT zS (zq zA zT zS (mn 3 .own) zi) (zq xE wG zZ (mn 4 .own) zi)) zk))))) (zh (L2.st 6 sc__law_leaves.nd (zg (zG (xx rfl) je qK (by exact rfl) B.sum PyProof.Rows.boot_sum (zc (yy (N':=["_law_strip"]) (fr:=[none]) rfl (yZ sc__law_leaves.nofree (by decide +kernel)) (yA (qC (mn 1 .shr) (yU (mn 3 .own)) (yU (mn 5 .own)))) (fun _ _ _ _=>(zO (pgn 0 (show List.Nodup (["_law_strip"]:List Str) from by decide +kernel)))) (fun _ _ _ _=>yx) (fun _ _ _ _=>(zD hr.u1 (mn 0 .shr) zi)) (by decide) (by decide)) zk)))) (zh (L2.st 7 sc__law_leaves.nd (zg (KI (wc X6 Q1 zZ (mn 5 .own) (zG yW uu uo (by exact rfl) B.len PySem.boot_len (zc (mn 1 .shr) zk)) (yY _)) (zq xE wG zZ (zq wZ vY zZ (mn 4 .own) zi) (zq zA zT zS (mn 6 .own) zi)) zi))) (zh (app 2 (zg (xA (xK (zc (mn 5 .own) (zc (mn 7 .own) zk)))))) (zp (L2.st 3 sc__law_leaves.nd (zg (xA (mn 5 .own)))))))))) rfl) (zp (zQ (mvn 2))))))
def kr:Tn->R Fl:=(zj (zl 2 (eL (fun ds=>.ok (.lst ds)) ze)) (zj (yn (yf (zb 0)) (.one 3) (zj (zl 2 (zd zw (zb 2) (yh [none,some 1] (xn (zd ixD (zb 3) (eC (.int 1)))) (.one 0) (fun _=>.ok true) (eL (fun ds=>.ok (.tup ds)) (za (zd zw (zb 1) (zd ixD (zb 0) (eC (.int 0)))) (za (zd ixD (zb 0) (eC (.int 1))) (za (zd ixD (zb 0) (eC (.int 2))) ze))))))) (zl 1 (zd zw (zb 1) (zd ixD (zb 3) (eC (.int 0))))))) (zB (eL (fun ds=>.ok (.tup ds)) (za (zb 2) (za (xm (zb 1)) ze))))))
def zV:List D->R D:=zF 4 kr
def sc__law_under:FnScope ["_law_rows_here","_law_top","_law_found","_law_row"] ["_law_rows_here","_law_top"] (defScope (top 17)):=by constructor<;>first|rfl|decide +kernel
def jz (Df:DefIn K mg "_law_under" (top 17) ["_law_rows_here","_law_top"])(B:Bl mg)(Cl:Cls K mg) :Own P w K mg base "_law_under" 1 ["_law_rows_here","_law_top"] (spM K zV 2):=
 Df.mir (k:=0) (Γ':=[.shr,.shr,.dead,.dead]) sc__law_under (by decide) fun f cdv A outer s H E hr=>(zh (L2.st 2 sc__law_under.nd (zg (y3 zk))) (zh (yN (Γ2:=[.shr,.own,.own,.shr]) PassesOwn.leaving rfl (yA (mn 0 .shr)) (by decide) (zO (pgn 3 sc__law_under.nd)) (by decide) (zh (L2.st 2 sc__law_under.nd (zg (zq zA zT zS (mn 2 .own) (yy (N':=["_law_spot","_law_top"]) (fr:=[none,some 1]) rfl (yZ sc__law_under.nofree (by decide +kernel)) (wM (zD hr.u1 (mn 3 .shr) zi)) (fun _ _ _ _=>(zO (pgn 0 (show List.Nodup (["_law_spot","_law_top"]:List Str) from by decide +kernel)))) (fun _ _ _ _=>yx) (fun _ _ _ _=>(xK (zc (zq zA zT zS (mn 1 .shr) (zD hr.u1 (mn 0 .shr) zi)) (zc (zD hr.u1 (mn 0 .shr) zi) (zc (zD hr.u1 (mn 0 .shr) zi) zk))))) (by decide) (by decide))))) (zp (L2.st 1 sc__law_under.nd (zg (zq zA zT zS (mn 1 .shr) (zD hr.u1 (mn 3 .shr) zi)))))) rfl) (zp (zQ (uA (zW (mvn 2) (zW (zg (xA (mn 1 .shr))) vx)))))))
def YM:Tn->R Fl:=(zj (zl 5 (eL (fun ds=>.ok (.lst ds)) ze)) (zj (zl 6 (eC (.int 0))) (zj (zl 7 (eC (.int 0))) (zj (yn (yf (zb 4)) (.many [8,9]) (zj (zl 10 (eL (fun ds=>.ok (.lst ds)) ze)) (zj (zl 11 (eC (.int 0))) (zj (yn (iL jn (za (zb 6) (za (zb 8) ze))) (.one 12) (zj (Z9 (.many [13,11]) (eL zV (za (eL (fun ds=>.ok (.lst ds)) (za (zd ixD (zb 2) (zb 12)) ze)) (za (zd zw (zb 11) (zd wb (zd ixD (zd ixD (zb 1) (zb 12)) (eC (.int 0))) (eL Zk (za (zd gtD (zb 12) (zb 6)) ze)))) ze)))) (zl 10 (zd zw (zb 10) (zb 13))))) (zj (zl 14 (zd vD (eL wB (za (yh [none] (yf (eSl (zb 1) jV (ya (zb 8)))) (.one 0) (fun _=>.ok true) (zd ixD (zb 0) (eC (.int 3)))) ze)) (zb 9))) (zj (zl 15 (eL (fun ds=>.ok (.lst ds)) ze)) (zj (yn (yf (eSl (zb 3) (ya (zb 7)) (ya (zb 14)))) (.one 16) (zl 15 (zd uU (zb 15) (zb 16)))) (zj (sIf (zz (zd (eqR false) (zb 15) (eL (fun ds=>.ok (.lst ds)) ze))) (xH 5 (eL (fun ds=>.ok (.tup ds)) (za (zb 10) (za (eC .non) (za (eL (fun ds=>.ok (.lst ds)) ze) ze))))) (zj (zl 17 (eL wI (za (zb 11) (za (zd vD (zd vD (zd ixD (zb 0) (eC (.str "height"))) (eC (.int 1))) (eL x9 (za (zb 15) ze))) ze)))) (xH 5 (eL (fun ds=>.ok (.tup ds)) (za (zb 10) (za (xm (zb 17)) (za (zd ixD (eL zV (za (zb 15) (za (zd zw (zb 17) (eC (.int 1))) ze))) (eC (.int 0))) ze))))))) (zj (zl 6 (zb 8)) (zl 7 (xm (zb 14)))))))))))) (zB (zb 5))))))
def xb:List D->R D:=zF 18 YM
def sc__law_due:FnScope ["_law_rules","_law_strips","_law_rows_here","_law_notes","_law_leaves_here","_law_due_here","_law_begin","_law_shown","_law_end","_law_late","_law_body","_law_top","_law_k","_law_spots_here","_law_last","_law_feet","_law_note","_law_rule"] ["_law_rules","_law_strips","_law_rows_here","_law_notes","_law_leaves_here"] (defScope (top 18)):=by constructor<;>first|rfl|decide +kernel
def Zz (Df:DefIn K mg "_law_due" (top 18) ["_law_rules","_law_strips","_law_rows_here","_law_notes","_law_leaves_here"])(B:Bl mg)(Cl:Cls K mg)(o7:Own P w K mg base "_law_under" 1 ["_law_rows_here","_law_top"] (spM K zV 2)):Own P w K mg base "_law_due" 2 ["_law_rules","_law_strips","_law_rows_here","_law_notes","_law_leaves_here"] (spM K xb 5):=
 Df.mir (k:=1) (Γ':=[.shr,.shr,.shr,.shr,.shr,.dead,.dead,.dead,.dead,.dead,.dead,.dead,.dead,.dead,.dead,.dead,.dead,.dead]) sc__law_due (by decide) fun f cdv A outer s H E hr=>(zh (L2.st 5 sc__law_due.nd (zg (y3 zk))) (zh (L2.st 6 sc__law_due.nd (zg zi)) (zh (L2.st 7 sc__law_due.nd (zg zi)) (zh (YY (Γ1:=[.shr,.shr,.shr,.shr,.shr,.own,.shr,.own,.dead,.dead,.dead,.dead,.dead,.dead,.dead,.dead,.dead,.dead]) (yN (Γ2:=[.shr,.shr,.shr,.shr,.shr,.own,.shr,.own,.shr,.shr,.dead,.shr,.dead,.dead,.own,.own,.dead,.dead]) PassesOwn.leaving rfl (yA (mn 4 .shr)) (by decide) (vC rfl (yk (pgn 8 sc__law_due.nd) (yk (pgn 9 sc__law_due.nd) vB))) (by decide) (zh (L2.st 10 sc__law_due.nd (zg (y3 zk))) (zh (L2.st 11 sc__law_due.nd (zg zi)) (zh (YY (Γ1:=[.shr,.shr,.shr,.shr,.shr,.own,.shr,.own,.shr,.shr,.own,.shr,.dead,.dead,.dead,.dead,.dead,.dead]) (yN (Γ2:=[.shr,.shr,.shr,.shr,.shr,.own,.shr,.own,.shr,.shr,.own,.shr,.shr,.shr,.dead,.dead,.dead,.dead]) PassesOwn.leaving rfl (ki rfl B.range (zc (mn 6 .shr) (zc (mn 8 .shr) zk))) (by decide) (zO (pgn 12 sc__law_due.nd)) (by decide) (zh (Ui (zJ (o7.mono (by decide)) hr (by exact rfl) zt (zc (y3 (zc (zD hr.u1 (mn 2 .shr) (mn 12 .shr)) zk)) (zc (zq zA zT zS (mn 11 .shr) (zq uq Zd ZJ (zD hr.u1 (zD hr.u1 (mn 1 .shr) (mn 12 .shr)) zi) (yE Ww JT JK (by exact rfl) B.int Boot.«int» (zc (kq Ub z02 zZ (mn 12 .shr) (mn 6 .shr) (yY _)) zk)))) zk))) (by decide) (vC rfl (yk (pgn 13 sc__law_due.nd) (yk (pgn 11 sc__law_due.nd) vB))) (by decide)) (zp (L2.st 10 sc__law_due.nd (zg (zq zA zT zS (mn 10 .own) (mn 13 .shr)))))) rfl) rfl) (zh (L2.st 14 sc__law_due.nd (zg (zq vR qW zZ (zG (xx rfl) je qK (by exact rfl) B.sum PyProof.Rows.boot_sum (zc (yy (N':=["_law_strip"]) (fr:=[none]) rfl (yZ sc__law_due.nofree (by decide +kernel)) (yA (qC (mn 1 .shr) Ql (yU (mn 8 .shr)))) (fun _ _ _ _=>(zO (pgn 0 (show List.Nodup (["_law_strip"]:List Str) from by decide +kernel)))) (fun _ _ _ _=>yx) (fun _ _ _ _=>(zD hr.u1 (mn 0 .shr) zi)) (by decide) (by decide)) zk)) (mn 9 .shr)))) (zh (L2.st 15 sc__law_due.nd (zg (y3 zk))) (zh (yN (Γ2:=[.shr,.shr,.shr,.shr,.shr,.own,.shr,.own,.shr,.shr,.own,.shr,.dead,.dead,.own,.own,.shr,.dead]) PassesOwn.leaving rfl (yA (qC (mn 3 .shr) (yU (mn 7 .own)) (yU (mn 14 .own)))) (by decide) (zO (pgn 16 sc__law_due.nd)) (by decide) (zp (L2.st 15 sc__law_due.nd (zg (zq UM Ky JV (mn 15 .own) (mn 16 .shr))))) rfl) (zh (vp (wc (uh hr.u12) W9 VF (mn 15 .own) (y3 zk) (yY _)) (zp (app 5 (uA (zW (mvn 10) (zW (zg qD) (zW (zg (y3 zk)) vx)))))) (WZ (Γ':=[.shr,.shr,.shr,.shr,.shr,.own,.shr,.own,.shr,.shr,.dead,.shr,.dead,.dead,.own,.own,.dead,.dead]) (zh (L2.st 17 sc__law_due.nd (zg (zG (uC (by exact rfl)) YB YA (by exact rfl) B.max PyProof.Rows.boot_max (zc (mn 11 .shr) (zc (zq vR qW zZ (zq vR qW zZ (zD hr.u1 (mn 0 .shr) xy) zi) (zG yW uu uo (by exact rfl) B.len PySem.boot_len (zc (mn 15 .own) zk))) zk))))) (zp (app 5 (uA (zW (mvn 10) (zW (zg (xA (mn 17 .own))) (zW (zg (zD hr.u1 (zJ (o7.mono (by decide)) hr (by exact rfl) zt (zc (mn 15 .own) (zc (zq zA zT zS (mn 17 .own) zi) zk))) zi)) vx))))))) rfl)) (zh (stS 6 sc__law_due.nd (mn 8 .shr)) (zp (L2.st 7 sc__law_due.nd (zg (xA (mn 14 .own))))))))))))) rfl) rfl) (zp (zQ (mvn 5)))))))
def Z7:Tn->R Fl:=(zj (sIf (bOr (xJ (zz (eUn (wD "list") (zb 0)))) (zz (zd (eqR true) (zb 0) (zb 1)))) (zB (eC (.bl false))) yi) (zj (yn (yf (zb 0)) (.one 2) (zj (sIf (bOr (xJ (zz (eUn (wD "tuple") (zb 2)))) (bOr (xJ (zz (eUn (wD "list") (zd ixD (zb 2) (eC (.int 0)))))) (xJ (zz (eUn (wD "list") (zd ixD (zb 2) (eC (.int 2)))))))) (zB (eC (.bl false))) yi) (sIf (bOr (zz (eUn (wD "bool") (zd ixD (zb 2) (eC (.int 1))))) (xJ (zz (eL ug (za (yh [none] (yf (zd zw (zd ixD (zb 2) (eC (.int 0))) (zd ixD (zb 2) (eC (.int 2))))) (.one 0) (fun _=>.ok true) (eUn (wD "tuple") (zb 0))) ze))))) (zB (eC (.bl false))) yi))) (zB (eC (.bl true)))))
def ye:List D->R D:=zF 3 Z7
def sc__law_right:FnScope ["_law_found","_law_due_here","_law_page"] ["_law_found","_law_due_here"] (defScope (top 19)):=by constructor<;>first|rfl|decide +kernel
def jA (Df:DefIn K mg "_law_right" (top 19) ["_law_found","_law_due_here"])(B:Bl mg)(Cl:Cls K mg) :Own P w K mg base "_law_right" 1 ["_law_found","_law_due_here"] (spM K ye 2):=
 Df.mir (k:=0) (Γ':=[.shr,.shr,.dead]) sc__law_right (by decide) fun f cdv A outer s H E hr=>(zh (vp (MW.mt (Zw (wL (wt (uw (T:="list") (by decide) rfl B.isinstance (vw (v:=.ty "list") rfl B.list Boot.«list» rfl) (mn 0 .shr)))) (kD (wc (ZX hr.u12) W9 VF (mn 0 .shr) (mn 1 .shr) (yY _))))) (zp (zQ (zg ur))) xo) (zh (yN (Γ2:=[.shr,.shr,.shr]) PassesOwn.leaving rfl (yA (mn 0 .shr)) (by decide) (zO (pgn 2 sc__law_right.nd)) (by decide) (zh (vp (MW.mt (Zw (wL (wt (uw (T:="tuple") (by decide) rfl B.isinstance (vw (v:=.ty "tuple") rfl B.tuple Boot.«tuple» rfl) (mn 2 .shr)))) (Zw (wL (wt (uw (T:="list") (by decide) rfl B.isinstance (vw (v:=.ty "list") rfl B.list Boot.«list» rfl) (zD hr.u1 (mn 2 .shr) zi)))) (kD (wL (wt (uw (T:="list") (by decide) rfl B.isinstance (vw (v:=.ty "list") rfl B.list Boot.«list» rfl) (zD hr.u1 (mn 2 .shr) zi)))))))) (zp (zQ (zg ur))) xo) (zp (vp (MW.mt (Zw (wt (uw (T:="bool") (by decide) rfl B.isinstance (vw (v:=.ty "bool") rfl B.bool Boot.«bool» rfl) (zD hr.u1 (mn 2 .shr) zi))) (kD (wL (wt (zG (uE (by exact rfl)) Vd Vs (by exact rfl) B.all Boot.«all» (zc (yy (N':=["_law_spot"]) (fr:=[none]) rfl (yZ sc__law_right.nofree (by decide +kernel)) (yA (zq zA zT zS (zD hr.u1 (mn 2 .shr) zi) (zD hr.u1 (mn 2 .shr) zi))) (fun _ _ _ _=>(zO (pgn 0 (show List.Nodup (["_law_spot"]:List Str) from by decide +kernel)))) (fun _ _ _ _=>yx) (fun _ _ _ _=>(uw (T:="tuple") (by decide) rfl B.isinstance (vw (v:=.ty "tuple") rfl B.tuple Boot.«tuple» rfl) (mn 0 .shr))) (by decide) (by decide)) zk))))))) (zp (zQ (zg ur))) xo))) rfl) (zp (zQ (zg ur)))))
def kA:Tn->R Fl:=(zj (zl 3 (eL (fun ds=>.ok (.lst ds)) ze)) (zj (yn (yf (zb 0)) (.many [4,5,6]) (zj (zl 7 (eC (.dic [] []))) (zj (yn (yf (zd zw (zb 4) (zb 6))) (.one 8) (zj (xH 3 (xm (zd ixD (zb 8) (eC (.int 2))))) (zj (zl 9 (zd ixD (eSm yK (zd ixD (zb 8) (eC (.int 2))) (za (eC (.str ".")) ze)) (eC (.int 0)))) (vS 7 (zd ixD (zb 8) (eC (.int 0))) (zb 9) (zb 9) (zz (zd (eqR false) (zd ixD (zb 8) (eC (.int 0))) (zb 5))) (zB (eC (.bl false))) yi)))) (zj (sIf (YT (zz (zd (isN true) (zb 5) (eC .non))) (xJ (zz (eL ug (za (yh [none,some 5] (yf (zb 4)) (.one 0) (fun _=>.ok true) (zd ltD (zd ixD (zb 0) (eC (.int 0))) (zb 1))) ze))))) (zB (eC (.bl false))) yi) (sIf (YT (zz (zd (isN true) (zb 5) (eC .non))) (xJ (zz (eL ug (za (yh [none,some 5] (yf (zb 6)) (.one 0) (fun _=>.ok true) (zd gtD (zd ixD (zb 0) (eC (.int 0))) (zb 1))) ze))))) (zB (eC (.bl false))) yi))))) (zj (zl 10 (eL (fun ds=>.ok (.lst ds)) ze)) (zj (yn (yf (zb 1)) (.one 11) (zl 10 (zd zw (zb 10) (yh [none] (xn (zd ixD (zb 11) (eC (.int 1)))) (.one 0) (fun _=>.ok true) (zd ixD (zb 0) (eC (.int 2))))))) (zj (yn (yf (zb 2)) (.one 12) (yn (xn (zb 12)) (.one 11) (zl 10 (zd zw (zb 10) (yh [none] (xn (zd ixD (zb 11) (eC (.int 1)))) (.one 0) (fun _=>.ok true) (zd ixD (zb 0) (eC (.int 2)))))))) (zB (zd (eqR false) (eL wd (za (zb 3) ze)) (eL wd (za (zb 10) ze)))))))))
def yJ:List D->R D:=zF 13 kA
def sc__law_apart:FnScope ["_law_pages","_law_rows_here","_law_notes","_law_texts","_law_body","_law_rule","_law_foot","_law_owners","_law_spot","_law_name","_law_due_here","_law_row","_law_note"] ["_law_pages","_law_rows_here","_law_notes"] (defScope (top 20)):=by constructor<;>first|rfl|decide +kernel
def jC (Df:DefIn K mg "_law_apart" (top 20) ["_law_pages","_law_rows_here","_law_notes"])(B:Bl mg)(Cl:Cls K mg) :Own P w K mg base "_law_apart" 1 ["_law_pages","_law_rows_here","_law_notes"] (spM K yJ 3):=
 Df.mir (k:=0) (Γ':=[.shr,.shr,.shr,.dead,.dead,.dead,.dead,.dead,.dead,.dead,.dead,.dead,.dead]) sc__law_apart (by decide) fun f cdv A outer s H E hr=>(zh (L2.st 3 sc__law_apart.nd (zg (y3 zk))) (zh (yN (Γ2:=[.shr,.shr,.shr,.own,.shr,.shr,.shr,.own,.dead,.dead,.dead,.dead,.dead]) PassesOwn.leaving rfl (yA (mn 0 .shr)) (by decide) (vC rfl (yk (pgn 4 sc__law_apart.nd) (yk (pgn 5 sc__law_apart.nd) (yk (pgn 6 sc__law_apart.nd) vB)))) (by decide) (zh (L2.st 7 sc__law_apart.nd (zg Vc)) (zh (yN (Γ2:=[.shr,.shr,.shr,.own,.shr,.shr,.shr,.own,.shr,.own,.dead,.dead,.dead]) PassesOwn.leaving rfl (yA (zq zA zT zS (mn 4 .shr) (mn 6 .shr))) (by decide) (zO (pgn 8 sc__law_apart.nd)) (by decide) (zh (app 3 (zg (xA (zD hr.u1 (mn 8 .shr) zi)))) (zh (L2.st 9 sc__law_apart.nd (zg (zD hr.u1 (z1a PySem.F.plainAttrs_str PySem.F.slot_str_partition PySem.F.type_str_partition jD ZZ Zl (zD hr.u1 (mn 8 .shr) zi) (zc xy zk)) zi))) (zp (VM 7 hr.u12 (zD hr.u1 (mn 8 .shr) zi) (mn 9 .own) (mn 9 .own) (wc (uh hr.u12) W9 VF (zD hr.u1 (mn 8 .shr) zi) (mn 5 .shr) (yY _)) (zp (zQ (zg ur))) xo)))) rfl) (zh (vp (MW.mt (V2 (wc Xd WM Jb (mn 5 .shr) qD (yY _)) (XI (wL (wt (zG (uE (by exact rfl)) Vd Vs (by exact rfl) B.all Boot.«all» (zc (yy (N':=["_law_spot","_law_rule"]) (fr:=[none,some 5]) rfl (yZ sc__law_apart.nofree (by decide +kernel)) (yA (mn 4 .shr)) (fun _ _ _ _=>(zO (pgn 0 (show List.Nodup (["_law_spot","_law_rule"]:List Str) from by decide +kernel)))) (fun _ _ _ _=>yx) (fun _ _ _ _=>(kq X6 Q1 zZ (zD hr.u1 (mn 0 .shr) zi) (mn 1 .shr) (yY _))) (by decide) (by decide)) zk))))))) (zp (zQ (zg ur))) xo) (zp (vp (MW.mt (V2 (wc Xd WM Jb (mn 5 .shr) qD (yY _)) (XI (wL (wt (zG (uE (by exact rfl)) Vd Vs (by exact rfl) B.all Boot.«all» (zc (yy (N':=["_law_spot","_law_rule"]) (fr:=[none,some 5]) rfl (yZ sc__law_apart.nofree (by decide +kernel)) (yA (mn 6 .shr)) (fun _ _ _ _=>(zO (pgn 0 (show List.Nodup (["_law_spot","_law_rule"]:List Str) from by decide +kernel)))) (fun _ _ _ _=>yx) (fun _ _ _ _=>(kq Ub z02 zZ (zD hr.u1 (mn 0 .shr) zi) (mn 1 .shr) (yY _))) (by decide) (by decide)) zk))))))) (zp (zQ (zg ur))) xo))))) rfl) (zh (L2.st 10 sc__law_apart.nd (zg (y3 zk))) (zh (yN (Γ2:=[.shr,.shr,.shr,.own,.dead,.dead,.dead,.dead,.dead,.dead,.own,.shr,.dead]) PassesOwn.leaving rfl (yA (mn 1 .shr)) (by decide) (zO (pgn 11 sc__law_apart.nd)) (by decide) (zp (L2.st 10 sc__law_apart.nd (zg (zq zA zT zS (mn 10 .own) (yy (N':=["_law_spot"]) (fr:=[none]) rfl (yZ sc__law_apart.nofree (by decide +kernel)) (wM (zD hr.u1 (mn 11 .shr) zi)) (fun _ _ _ _=>(zO (pgn 0 (show List.Nodup (["_law_spot"]:List Str) from by decide +kernel)))) (fun _ _ _ _=>yx) (fun _ _ _ _=>(zD hr.u1 (mn 0 .shr) zi)) (by decide) (by decide)))))) rfl) (zh (yN (Γ2:=[.shr,.shr,.shr,.own,.dead,.dead,.dead,.dead,.dead,.dead,.own,.dead,.shr]) PassesOwn.leaving rfl (yA (mn 2 .shr)) (by decide) (zO (pgn 12 sc__law_apart.nd)) (by decide) (zp (yN (Γ2:=[.shr,.shr,.shr,.own,.dead,.dead,.dead,.dead,.dead,.dead,.own,.shr,.shr]) PassesOwn.leaving rfl (wM (mn 12 .shr)) (by decide) (zO (pgn 11 sc__law_apart.nd)) (by decide) (zp (L2.st 10 sc__law_apart.nd (zg (zq zA zT zS (mn 10 .own) (yy (N':=["_law_spot"]) (fr:=[none]) rfl (yZ sc__law_apart.nofree (by decide +kernel)) (wM (zD hr.u1 (mn 11 .shr) zi)) (fun _ _ _ _=>(zO (pgn 0 (show List.Nodup (["_law_spot"]:List Str) from by decide +kernel)))) (fun _ _ _ _=>yx) (fun _ _ _ _=>(zD hr.u1 (mn 0 .shr) zi)) (by decide) (by decide)))))) rfl)) rfl) (zp (zQ (zg (kq (uh hr.u12) W9 VF (zG qU Xc Xw (by exact rfl) Cl.so PyProof.Rows.boot_sorted (zc (mn 3 .own) zk)) (zG qU Xc Xw (by exact rfl) Cl.so PyProof.Rows.boot_sorted (zc (mn 10 .own) zk)) (yY _))))))))))
def Jk:Tn->R Fl:=(zj (Z9 (.many [1,2,3]) (eL yS (za (zb 0) ze))) (zj (zl 4 (eL yu (za (zb 0) (za (zb 2) ze)))) (zj (zl 5 (eL (fun ds=>.ok (.dic [.inr "width",.inr "part",.inr "twin",.inr "over",.inr "lone",.inr "late",.inr "gap"] ds)) (za (eC (.int 40)) (za (eC (.int 1)) (za (eC (.int 2)) (za (eC (.int 3)) (za (eC (.int 4)) (za (eC (.int 5)) (za (eC (.int 1)) ze))))))))) (zj (vO 5 (zd zw (eC (.int 4)) (zd ym (eL zo (za (zb 0) (za (eC (.int 1)) ze))) (eC (.int 11)))) (eC (.str "height"))) (zj (vO 5 (eC (.int 2)) (eC (.str "ahead"))) (zj (vO 5 (eC (.int 2)) (eC (.str "behind"))) (zj (zl 6 (eL xb (za (zb 5) (za (zb 2) (za (zb 1) (za (zb 3) (za (zb 4) ze))))))) (zj (zl 7 (eL (fun ds=>.ok (.lst ds)) (za (eL vV (za (zb 5) ze)) (za (eL yT (za (zb 2) ze)) (za (eL yT (za (zb 1) ze)) (za (eL yT (za (zb 3) ze)) (za (eL yT (za (zb 4) ze)) ze))))))) (zj (zl 8 (eL xv (za (zd ixD (zb 7) (eC (.int 0))) (za (zd ixD (zb 7) (eC (.int 1))) (za (zd ixD (zb 7) (eC (.int 2))) (za (zd ixD (zb 7) (eC (.int 3))) (za (zd ixD (zb 7) (eC (.int 4))) ze))))))) (zj (sIf (bOr (xJ (zz (eL ye (za (zb 8) (za (zb 6) ze))))) (zz (zd kY (zb 7) (eL (fun ds=>.ok (.lst ds)) (za (zb 5) (za (zb 2) (za (zb 1) (za (zb 3) (za (zb 4) ze))))))))) (zB (eC (.bl false))) yi) (zj (sIf (xJ (zz (eL yJ (za (zb 8) (za (zb 1) (za (zb 3) ze)))))) (zB (eC (.bl false))) yi) (zj (kI 8 0 2 (.tup [.int 0,.int 0,.str "more"])) (zj (xH 8 (eL (fun ds=>.ok (.tup ds)) (za (eL (fun ds=>.ok (.lst ds)) ze) (za (eC .non) (za (eL (fun ds=>.ok (.lst ds)) ze) ze))))) (zB (eL ye (za (eL xv (za (zb 5) (za (zb 2) (za (zb 1) (za (zb 3) (za (zb 4) ze)))))) (za (zb 6) ze)))))))))))))))))
def F_law:List D->R D:=zF 10 Jk
def sc_law:FnScope ["_law_script","_law_rows_here","_law_strips","_law_notes","_law_leaves_here","_law_rules","_law_due_here","_law_handed","_law_found","_law_page"] ["_law_script"] (defScope (top 21)):=by constructor<;>first|rfl|decide +kernel
def WO (B:Bl mg)(Cl:Cls K mg)(oo:Own P w K mg base "_law_rows" 2 ["_law_script"] (spM K yS 1))(oh:Own P w K mg base "_law_leaves" 2 ["_law_script","_law_strips"] (spM K yu 2))(oq:Own P w K mg base "_law_due" 2 ["_law_rules","_law_strips","_law_rows_here","_law_notes","_law_leaves_here"] (spM K xb 5))(ou:Own P w K mg base "placed" 4 ["rules","strips","rows","notes","leaves"] (spM K xv 5))(o8:Own P w K mg base "_law_right" 1 ["_law_found","_law_due_here"] (spM K ye 2))(on:Own P w K mg base "_law_apart" 1 ["_law_pages","_law_rows_here","_law_notes"] (spM K yJ 3))(o3:Own P w K mg base "_law_cell_at" 1 ["_law_script","_law_k"] (spM K zo 2)):∀(f:Addr) (cdv:Value) (A:Around) (outer:List Env) (s:Shared) (H:Hp) (E:XK),Room 4 (A.deeper (envOfC "law" (defScope (top 21)) s.heap.objs.size f cdv))->MSs (uW (cxx P w) P w K mg base ["_law_script","_law_rows_here","_law_strips","_law_notes","_law_leaves_here","_law_rules","_law_due_here","_law_handed","_law_found","_law_page"] "law" (defScope (top 21)) f cdv A outer s H E) E [] (Z0 10 1) (defBody (top 21)) Jk [.shr,.dead,.dead,.dead,.dead,.dead,.dead,.dead,.dead,.dead]:=
 fun f cdv A outer s H E hr=>(zh (Ui (zJ (oo.mono (by decide)) hr (by exact rfl) zt (zc (mn 0 .shr) zk)) (by decide) (vC rfl (yk (pgn 1 sc_law.nd) (yk (pgn 2 sc_law.nd) (yk (pgn 3 sc_law.nd) vB)))) (by decide)) (zh (L2.st 4 sc_law.nd (zg (zJ (oh.mono (by decide)) hr (by exact rfl) zt (zc (mn 0 .shr) (zc (mn 2 .shr) zk))))) (zh (L2.st 5 sc_law.nd (zg (Ut (xV (key:=.inr "width") vi zi (xV (key:=.inr "part") vi zi (xV (key:=.inr "twin") vi zi (xV (key:=.inr "over") vi zi (xV (key:=.inr "lone") vi zi (xV (key:=.inr "late") vi zi (xV (key:=.inr "gap") vi zi UZ))))))) (by decide)))) (zh (JZ 5 hr.u1 (zg (zq zA zT zS zi (zq xE wG zZ (zJ (o3.mono (by decide)) hr (by exact rfl) zt (zc (mn 0 .shr) (zc zi zk))) zi))) xy) (zh (JZ 5 hr.u1 (zg zi) xy) (zh (JZ 5 hr.u1 (zg zi) xy) (zh (L2.st 6 sc_law.nd (zg (zJ (oq.mono (by decide)) hr (by exact rfl) zt (zc (mn 5 .own) (zc (mn 2 .shr) (zc (mn 1 .shr) (zc (mn 3 .shr) (zc (mn 4 .own) zk)))))))) (zh (L2.st 7 sc_law.nd (zg (y3 (zc (yE (Yh (by exact rfl)) J4 Qp (by exact rfl) B.dict Boot.«dict» (zc (mn 5 .own) zk)) (zc (yE xO qp qm (by exact rfl) B.list Boot.«list» (zc (mn 2 .shr) zk)) (zc (yE xO qp qm (by exact rfl) B.list Boot.«list» (zc (mn 1 .shr) zk)) (zc (yE xO qp qm (by exact rfl) B.list Boot.«list» (zc (mn 3 .shr) zk)) (zc (yE xO qp qm (by exact rfl) B.list Boot.«list» (zc (mn 4 .own) zk)) zk)))))))) (zh (L2.st 8 sc_law.nd (zg (zJ (ou.mono (by decide)) hr (by exact rfl) zt (zc (zD hr.u1 (mn 7 .own) zi) (zc (zD hr.u1 (mn 7 .own) zi) (zc (zD hr.u1 (mn 7 .own) zi) (zc (zD hr.u1 (mn 7 .own) zi) (zc (zD hr.u1 (mn 7 .own) zi) zk)))))))) (zh (vp (MW.mt (Zw (wL (wt (zJ (o8.mono (by decide)) hr (by exact rfl) zt (zc (mn 8 .own) (zc (mn 6 .own) zk))))) (kD (wc (K3 hr.u12) z1s z0V (mn 7 .own) (y3 (zc (mn 5 .own) (zc (mn 2 .shr) (zc (mn 1 .shr) (zc (mn 3 .shr) (zc (mn 4 .own) zk)))))) (yY _))))) (zp (zQ (zg ur))) xo) (zh (vp (wL (wt (zJ (on.mono (by decide)) hr (by exact rfl) zt (zc (mn 8 .own) (zc (mn 1 .shr) (zc (mn 3 .shr) zk)))))) (zp (zQ (zg ur))) xo) (zh (z1B 8 0 2 9 (.tup [.int 0,.int 0,.str "more"]) PassesOwn.leaving rfl (xK (zc zi (zc zi (zc xy zk)))) (xK (zc zi (zc zi (zc xy zk)))) (pgn 9 sc_law.nd) (fun _=>rfl) (fun _=>rfl)) (zh (app 8 (zg (xK (zc (y3 zk) (zc qD (zc (y3 zk) zk)))))) (zp (zQ (zg (zJ (o8.mono (by decide)) hr (by exact rfl) zt (zc (zJ (ou.mono (by decide)) hr (by exact rfl) zt (zc (mn 5 .own) (zc (mn 2 .shr) (zc (mn 1 .shr) (zc (mn 3 .shr) (zc (mn 4 .own) zk)))))) (zc (mn 6 .own) zk)))))))))))))))))))
end
structure Spt where
 t:Int
 l:Int
 x:Str
structure Rw where
 g:Int
 h:Int
 m:Nat
 sp:List Spt
def zm (s:Spt):D:=.tup [.int s.t,.int s.l,.str s.x]
def zu (r:Rw):D:=.tup [.int r.h,.frl (r.sp.map zm),.int (r.m:Int)]
def zC (r:Rw):D:=.tup [.int r.g,.int r.h,.int 0,.int (r.m:Int)]
def zI (n:List Rw):D:=.frl (n.map zu)
def low (k:Int)(s:Spt):Spt:=⟨s.t+k,s.l,s.x⟩
def p0 (s:Spt):ixD (zm s) (.int 0)=.ok (.int s.t):=wu
def p1 (s:Spt):ixD (zm s) (.int 1)=.ok (.int s.l):=vg
def p2 (s:Spt):ixD (zm s) (.int 2)=.ok (.str s.x):=qR
def r0 (r:Rw):ixD (zu r) (.int 0)=.ok (.int r.h):=wu
def r1 (r:Rw):ixD (zu r) (.int 1)=.ok (.frl (r.sp.map zm)):=vg
def r2 (r:Rw):ixD (zu r) (.int 2)=.ok (.int (r.m:Int)):=qR
def s0 (r:Rw):ixD (zC r) (.int 0)=.ok (.int r.g):=wu
def s1 (r:Rw):ixD (zC r) (.int 1)=.ok (.int r.h):=vg
def s3 (r:Rw):ixD (zC r) (.int 3)=.ok (.int (r.m:Int)):=Yo
def X8 (s:Spt):(zm s).imm=true:=rfl
def Vp (r:Rw):(zC r).imm=true:=rfl
def Xu (r:Rw):(zu r).imm=true:=rfl
def Jy (n:List Rw):(zI n).imm=true:=rfl
def eL1 {g:List D->R D}{t:Tn->R D}{τ:Tn}{d:D}{r:R D}(h:t τ=.ok d)(hg:g [d]=r):eL g (za t ze) τ=r:=by
 unfold eL za ze;rw[h,jYa,jYa,jYa];exact hg
def u0 {α:Type}{enc:α->D}{fr:List (Option Nat)}{it:Tn->R (List D)}{el:Tn->R D}{τ τ0:Tn}{xs:List α}{f:α->D}(h:it τ=.ok (xs.map enc))(hx:xs.length<=100000)(hf:vo (none::fr) τ=none::τ0)(he:∀s∈xs,el (some (enc s)::τ0)=.ok (f s)):yh (none::fr) it (.one 0) (fun _=>.ok true) el τ=.ok (.lst (xs.map f)):=by
 have h1:xZ (Y4 (Tgt.one 0).asg (fun _=>.ok true) el (vo (none::fr) τ)) (xs.map enc)=.ok (xs.map f):=by
  rw[uK (o:=fun s:α=>some (f s)) (fun s hs=>?_),Xh];rw[hf];show ZA ((R.ok (some (enc s)::τ0)).bind _)=_;rw[jYa,jYa,if_pos rfl,he s hs]
  rfl
 rw[ZU,h,jYa,h1,jYa,XJ (by rw[tI];omega)]
def sl {ss:List Rw}{t2 t3:Tn->R D}{τ:Tn}{b e:Nat}{i j:Int}(v:Nat)(h0:zb v τ=.ok (.lst (ss.map zC)))(h2:t2 τ=.ok (.int i))(h3:t3 τ=.ok (.int j))(hi:i=b)(hj:j=e)(h:b<=e)(he:e<=ss.length):yf (eSl (zb v) (ya t2) (ya t3)) τ=.ok (((ss.drop b).take (e-b)).map zC):=by
 have e1:slD (.lst (ss.map zC)) (some i) (some j)=.ok (.lst (((ss.drop b).take (e-b)).map zC)):=by
  rw[Yz (zY Vp ss),hi,hj,VW (by rw[tI];exact he) h,vJ]
 unfold yf eSl ya;rw[h0,jYa,h2,jYa];dsimp only;rw[jYa,h3,jYa];dsimp only;rw[jYa,e1,jYa]
 rfl
def cut (ss:List Rw)(b e:Nat):List Rw:=(ss.drop b).take (e-b)
def qr {ss:List Rw}{b e:Nat}(h:b<=e)(he:e<=ss.length):(cut ss b e).length=e-b:=by
 unfold cut;rw[sG,sT];omega
def vk {ss:List Rw}{b e:Nat}(h:b<e)(he:e<=ss.length):cut ss b e=ss[b]'(by omega)::cut ss (b+1) e:=by
 unfold cut;rw[rG (by omega),show e-b=(e-(b+1))+1 by omega,List.take_succ_cons]
def Xg (ss:List Rw)(e:Nat):cut ss e e=[]:=by unfold cut;rw[pO,List.take_zero]
def mk (ss:List Rw)(e:Nat):Nat:=((ss.take e).map Rw.m).sum
def kR {ss:List Rw}{b e:Nat}(h:b<=e):mk ss e=mk ss b+((cut ss b e).map Rw.m).sum:=by
 unfold mk cut;have:ss.take e=ss.take b++(ss.drop b).take (e-b):=by
  rw[<-List.take_add,show b+(e-b)=e by omega]
 rw[this,sL,List.sum_append]
def j5 (xs:List Rw):(xs.map fun r=>(r.m:Int)).sum=(((xs.map Rw.m).sum:Nat):Int):=by
 induction xs with
 | nil=>rfl
 | cons x xs ih=>simp only[tJ,List.sum_cons,ih];omega
def Wf (xs:List Rw)(f:Rw->Int):wB [.lst (xs.map fun s=>.int (f s))]=.ok (.int (xs.map f).sum):=by
 have:=Va (ns:=xs.map f);rw[rO]at this;exact this
def z20 {X:Tn->R D}{a b c x:D}(h:X [some a,some b,some c]=.ok x):zF 3 (zB X) [a,b,c]=.ok x:=by
 simp -implicitDefEqProofs only [zF,zB,jYa,tJ,sP,tL,sA,tZ,sD,tU,Nat.reduceAdd,Nat.reduceSub,sM,h]
def el3 (s:Rw)(τ0:Tn):(zd ixD (zb 0) (eC (.int 3))) (some (zC s)::τ0)=.ok (.int (s.m:Int)):=by
 have:=s3 s;generalize zC s=S at *;simp -implicitDefEqProofs only [zb,eC,zd,jYa,tE,this]
def el1 (s:Rw)(τ0:Tn):(zd ixD (zb 0) (eC (.int 1))) (some (zC s)::τ0)=.ok (.int s.h):=by
 have:=s1 s;generalize zC s=S at *;simp -implicitDefEqProofs only [zb,eC,zd,jYa,tE,this]
def el0 (s:Rw)(τ0:Tn):(zd ixD (zb 0) (eC (.int 0))) (some (zC s)::τ0)=.ok (.int s.g):=by
 have:=s0 s;generalize zC s=S at *;simp -implicitDefEqProofs only [zb,eC,zd,jYa,tE,this]
def elh (s:Rw)(τ0:Tn):(zd ixD (zb 0) (eC (.int 0))) (some (zu s)::τ0)=.ok (.int s.h):=by
 have:=r0 s;generalize zu s=S at *;simp -implicitDefEqProofs only [zb,eC,zd,jYa,tE,this]
def elx (s:Spt)(τ0:Tn):(zd ixD (zb 0) (eC (.int 2))) (some (zm s)::τ0)=.ok (.str s.x):=by
 have:=p2 s;generalize zm s=S at *;simp -implicitDefEqProofs only [zb,eC,zd,jYa,tE,this]
def ZL {ss:List Rw}{b e:Nat}(h:b<=e)(he:e<=ss.length)(hn:ss.length<=1000):yR [.lst (ss.map zC),.int (b:Int),.int (e:Int)]=.ok (.int (((cut ss b e).map Rw.m).sum:Nat)):=by
 have hT:yR=zF 3 qS:=rfl;rw[hT,<-j5];exact z20 (eL1 (u0 (f:=fun s:Rw=>.int (s.m:Int)) (sl 0 rfl rfl rfl rfl rfl h he) (by have:=qr h he;unfold cut at this;omega) rfl fun s _=>el3 s _) (Wf _ _))
def Kv (X Y:Tn->R D)(P b e:D)(x y:Int)(hX:X [some P,some b,some e,none]=.ok (.int x))(hY:Y [some P,some b,some e,some (.int x)]=.ok (.int y)):zF 4 (zj (zl 3 X) (zB (zd zw (zb 3) Y))) [P,b,e]=.ok (.int (x+y)):=by
 simp -implicitDefEqProofs only [zF,zj,zl,zB,zb,zd,jYa,tJ,sP,tL,sA,tY,tZ,sD,tU,tE,tD,tP,tR,Nat.reduceAdd,Nat.reduceSub,sM,yH,hX,hY]
def z27 (P b e x:Option D)(i:Int)(hb:b=some (.int i)):(zd zw (zb 1) (eC (.int 1))) [P,b,e,x]=.ok (.int (i+1)):=by
 subst hb;simp -implicitDefEqProofs only [zb,eC,zd,jYa,tE,tD,yH]
def z0G {ss:List Rw}{b e:Nat}(h:b<e)(he:e<=ss.length)(hn:ss.length<=1000):yt [.lst (ss.map zC),.int (b:Int),.int (e:Int)]=.ok (.int (((cut ss b e).map Rw.h).sum+((cut ss (b+1) e).map Rw.g).sum)):=by
 have hT:yt=zF 4 vL:=rfl;rw[hT];have l1:=qr (ss:=ss) (b:=b) (e:=e) (by omega) he;have l2:=qr (ss:=ss) (b:=b+1) (e:=e) (by omega) he;unfold cut at l1 l2;exact Kv _ _ _ _ _ _ _ (eL1 (u0 (f:=fun s:Rw=>.int s.h) (sl 0 rfl rfl rfl rfl rfl (by omega) he) (by omega) rfl fun s _=>el1 s _) (Wf _ _)) (eL1 (u0 (f:=fun s:Rw=>.int s.g) (sl 0 rfl (z27 _ _ _ _ _ rfl) rfl (by omega) rfl (by omega) he) (by omega) rfl fun s _=>el0 s _) (Wf _ _))
def VE (P b e:D)(m o:Int)(av tv:Int)(h1:yR [P,.int 0,b]=.ok (.int m))(h2:yR [P,b,e]=.ok (.int o)):yX [P,b,e,.int av,.int tv]=.ok (.tup [.int (if m-av>0 then m-av else 0),.int (m+o-tv)]):=by
 have hT:yX=zF 6 uD:=rfl;have hm:∀i j:Int,wI [.int i,.int j]=.ok (.int (if j>i then j else i)):=fun _ _=>rfl;rw[hT,uD];simp -implicitDefEqProofs only [zF,zj,zl,zB,zb,eC,zd,eL,ze,za,jYa,tJ,sP,tL,sA,tY,tZ,sD,tU,tE,tD,tP,tR,Nat.reduceAdd,Nat.reduceSub,sM,yH,Yu,h1,h2,hm]
def QV {ss:List Rw}{b e a t:Nat}(h:b<=e)(he:e<=ss.length)(hn:ss.length<=1000)(ha:a<=mk ss b)(ht:t<=mk ss e):yX [.lst (ss.map zC),.int (b:Int),.int (e:Int),.int (a:Int),.int (t:Int)]=.ok (.tup [.int ((mk ss b-a:Nat):Int),.int ((mk ss e-t:Nat):Int)]):=by
 have h1:=ZL (ss:=ss) (b:=0) (e:=b) (sZ _) (by omega) hn;have e0:((cut ss 0 b).map Rw.m).sum=mk ss b:=by
  have:=kR (ss:=ss) (b:=0) (e:=b) (sZ _);have z:mk ss 0=0:=rfl;omega
 rw[e0]at h1;have h2:=ZL (ss:=ss) h he hn;have e1:=kR (ss:=ss) h;rw[VE _ _ _ _ _ _ _ h1 h2];have e2:(if ((mk ss b:Nat):Int)-(a:Int)>0 then ((mk ss b:Nat):Int)-(a:Int) else 0)=((mk ss b-a:Nat):Int):=by split<;>omega
 have e3:((mk ss b:Nat):Int)+((((cut ss b e).map Rw.m).sum:Nat):Int)-(t:Int)=((mk ss e-t:Nat):Int):=by omega
 rw[e2,e3]
def iF {τ:Tn}{t:Tn->R D}{ds:List D}(h:t τ=.ok (.frl ds)):xn t τ=.ok ds:=by
 unfold xn;rw[h,jYa]
def iS {τ:Tn}{t:Tn->R D}{ds:List D}(h:t τ=.ok (.lst ds)):yf t τ=.ok ds:=by
 unfold yf;rw[h,jYa];rfl
def elL:Tn->R D:=(xm (eL (fun ds=>.ok (.tup ds)) (za (zd zw (zb 0) (zb 3)) (za (zb 1) (za (zb 2) ze)))))
def Kf (s:Spt)(k:Int):elL [some (.int s.t),some (.int s.l),some (.str s.x),some (.int k)]=.ok (zm (low k s)):=by
 unfold elL;simp -implicitDefEqProofs only [yP,Qz,UQ,Qx,QF,zb,zd,eL,ze,za,jYa,tE,tD,yH]
 rfl
def z1U {X:Tn->R D}{a b x:D}(h:X [some a,some b]=.ok x):zF 2 (zB X) [a,b]=.ok x:=by
 simp -implicitDefEqProofs only [zF,zB,jYa,tJ,sP,tL,sA,tZ,sD,tU,Nat.reduceAdd,Nat.reduceSub,sM,h]
def vW (sp:List Spt)(k:Int)(hl:sp.length<=1000):yB [.frl (sp.map zm),.int k]=.ok (.lst ((sp.map (low k)).map zm)):=by
 have hT:yB=zF 2 (zB (yh [none,none,none,some 1] (xn (zb 0)) (.many [0,1,2]) (fun _=>.ok true) elL)):=rfl;rw[hT];refine z1U ?_;have h1:xZ (Y4 (Tgt.many [0,1,2]).asg (fun _=>.ok true) elL (vo [none,none,none,some 1] [some (.frl (sp.map zm)),some (.int k)])) (sp.map zm)=.ok (sp.map fun s=>zm (low k s)):=by
  rw[uK (o:=fun s:Spt=>some (zm (low k s))) (fun s hs=>?_),Xh];show ZA ((R.ok [some (D.int s.t),some (D.int s.l),some (D.str s.x),some (D.int k)]).bind _)=_;rw[jYa,jYa,if_pos rfl,Kf]
  rfl
 rw[ZU,iF (ds:=sp.map zm) rfl,jYa,h1,jYa,XJ (by rw[tI];omega),rO]
 rfl
def xa (k:Int)(sp:List Spt):List Spt:=sp.map (low k)
def yg:List Rw->Int->List Spt
 | [],_=>[]
 | r::rs,t=>xa (t+r.g) r.sp++yg rs (t+r.g+r.h)
def xq:List Rw->Int->Int
 | [],t=>t
 | r::rs,t=>xq rs (t+r.g+r.h)
def zf:List Rw->List Rw
 | []=>[]
 | r::rs=>{ r with g:=0 }::rs
def Uv {ss:List Rw}{k:Nat}{i:Int}(h:k<ss.length)(hi:i=k):ixD (.lst (ss.map zC)) (.int i)=.ok (zC ss[k]):=by
 rw[hi];exact YI (xS (by rw[sJ,rD h];rfl))
def QS {ss:List Rw}{k:Nat}{i:Int}(h:k<ss.length)(hi:i=k):ixD (.lst (ss.map zu)) (.int i)=.ok (zu ss[k]):=by
 rw[hi];exact YI (xS (by rw[sJ,rD h];rfl))
def V8 {i:Nat}{t:Tn->R D}{τ:Tn}{xs ys:List Spt}(h0:τ[i]?=some (some (.lst (xs.map zm))))(h:t τ=.ok (.lst (ys.map zm)))(hl:xs.length+ys.length<=16777216):uX i t τ=.ok (.nx (τ.set i (some (.lst ((xs++ys).map zm))))):=by
 unfold uX;rw[h0];dsimp only;rw[h,jYa];dsimp only;rw[if_pos ⟨zY X8 _,by rw[tI,tI,sizeLine_eq];exact hl⟩,sL]
def qE (E:Tn->R D):Tn->R Fl:=(zj (sIf (zz (zd gtD (zb 6) (zb 2))) (uM 5 vd (zd ixD (zd ixD (zb 0) (zb 6)) (eC (.int 0)))) yi) (zj (uX 4 E) (uM 5 vd (zd ixD (zd ixD (zb 0) (zb 6)) (eC (.int 1))))))
def kB:Tn->R D:=(eL yB (za (zd ixD (zd ixD (zb 1) (zb 6)) (eC (.int 1))) (za (zb 5) ze)))
def JP (i j:Int):vd (.int i) (.int j)=.ok (.int (i+j)):=rfl
def Xy (S RR b e q t i row:D)(r1':D)(x:D)(h1:ixD RR i=.ok row)(h2:ixD row (.int 1)=.ok r1')(h3:yB [r1',t]=.ok x):kB [some S,some RR,some b,some e,some q,some t,some i]=.ok x:=by
 unfold kB;simp -implicitDefEqProofs only [zb,eC,zd,eL,ze,za,jYa,tE,tD,h1,h2,h3]
def Zg (E:Tn->R D)(S RR e:D)(b i g h t:Int)(st:D)(xs ys:List Spt)(h1:ixD S (.int i)=.ok st)(h2:ixD st (.int 0)=.ok (.int g))(h3:ixD st (.int 1)=.ok (.int h))(t2:Int)(ht:t2=if i>b then t+g else t)
  (hE:E [some S,some RR,some (.int b),some e,some (.lst (xs.map zm)),some (.int t2),some (.int i)]=.ok (.lst (ys.map zm))) (hl:xs.length+ys.length<=16777216):
  qE E [some S,some RR,some (.int b),some e,some (.lst (xs.map zm)),some (.int t),some (.int i)]=.ok (.nx [some S,some RR,some (.int b),some e,some (.lst ((xs++ys).map zm)),some (.int (t2+h)),some (.int i)]):=by
 have h5:uX 4 E [some S,some RR,some (.int b),some e,some (.lst (xs.map zm)),some (.int t2),some (.int i)]=.ok (.nx [some S,some RR,some (.int b),some e,some (.lst ((xs++ys).map zm)),some (.int t2),some (.int i)]):=V8 rfl hE hl;unfold qE
 by_cases hb:i>b
 ·rw[if_pos hb]at ht;subst ht;have hg:gtD (.int i) (.int b)=.ok (.bl true):=by show R.ok (D.bl (decide (b<i)))=_;rw[decide_eq_true hb]
  generalize (D.lst (xs.map zm))=XS at *;generalize (D.lst ((xs++ys).map zm))=YS at *;simp -implicitDefEqProofs only [zj,sIf,zz,asB,uM,zb,eC,zd,jYa,tE,tD,tP,tR,if_true,h1,h2,h3,hg,JP,h5]
 ·rw[if_neg hb]at ht;subst ht;have hg:gtD (.int i) (.int b)=.ok (.bl false):=by show R.ok (D.bl (decide (b<i)))=_;rw[decide_eq_false hb]
  generalize (D.lst (xs.map zm))=XS at *;generalize (D.lst ((xs++ys).map zm))=YS at *;simp -implicitDefEqProofs only [zj,sIf,yi,zz,asB,uM,zb,eC,zd,jYa,tE,tD,tP,tR,if_false,sS,h1,h2,h3,hg,JP,h5]
def xF (i:Int)(k:Nat):rng i (k+1)=.int i::rng (i+1) k:=by
 unfold rng;rw[List.range_succ_eq_map,tJ,rO];congr 1
 ·show D.int (i+(0:Nat))=_;rw[show (i+((0:Nat):Int))=i by omega]
 ·apply List.map_congr_left;intro a _;show D.int (i+((a+1:Nat):Int))=.int (i+1+(a:Int));rw[show (i+((a+1:Nat):Int))=i+1+(a:Int) by omega]
def wO (k:Int)(sp:List Spt):(xa k sp).length=sp.length:=tI ..
theorem Xv {ss:List Rw}{b e:Nat}(he:e<=ss.length)(h1000:∀r∈ss,r.sp.length<=1000):∀(k i:Nat) (xs:List Spt) (t:Int) (q:Option D),b<i->i+k=e->xs.length+1000*k<=16777216 ->
  ∃q',yl (Tgt.one 6).asg (qE kB) (rng i k) [some (.lst (ss.map zC)),some (.lst (ss.map zu)),some (.int (b:Int)),some (.int (e:Int)),some (.lst (xs.map zm)),some (.int t),q]=.ok (.nx [some (.lst (ss.map zC)),some (.lst (ss.map zu)),some (.int (b:Int)),some (.int (e:Int)),some (.lst ((xs++yg (cut ss i e) t).map zm)),some (.int (xq (cut ss i e) t)),q'])
 | 0,i,xs,t,q,_,hi,_=>by
  have:i=e:=by omega
  subst this;refine⟨q,?_⟩;rw[Xg];show R.ok _=_;rw[show yg [] t=[] from rfl,tQ]
  rfl
 | k+1,i,xs,t,q,hb,hi,hl=>by
  have hil:i<ss.length:=by omega
  have hr:=h1000 ss[i] (rP hil);have l2:=wO (t+ss[i].g) ss[i].sp;have hgt:((i:Int)>(b:Int)):=by omega
  obtain⟨q',hq⟩:=Xv (b:=b) he h1000 k (i+1) (xs++xa (t+ss[i].g) ss[i].sp) (t+ss[i].g+ss[i].h) (some (.int (i:Int))) (by omega) (by omega) (by rw[tK,l2];omega);refine⟨q',?_⟩;have hB:=Zg kB (.lst (ss.map zC)) (.lst (ss.map zu)) (.int (e:Int)) (b:Int) (i:Int) ss[i].g ss[i].h t (zC ss[i]) xs (xa (t+ss[i].g) ss[i].sp) (Uv hil rfl) (s0 _) (s1 _) (t+ss[i].g) (by rw[if_pos hgt]) (Xy _ _ _ _ _ _ _ _ _ _ (QS hil rfl) (r1 _) (vW _ _ hr)) (by rw[l2];omega);rw[xF,yc];show (qE kB [some (.lst (ss.map zC)),some (.lst (ss.map zu)),some (.int (b:Int)),some (.int (e:Int)),some (.lst (xs.map zm)),some (.int t),some (.int (i:Int))]).bind _=_;rw[hB,jYa,yI,show (i:Int)+1=((i+1:Nat):Int) by omega,hq,vk (b:=i) (by omega) he];rw[show yg (ss[i]::cut ss (i+1) e) t=xa (t+ss[i].g) ss[i].sp++yg (cut ss (i+1) e) (t+ss[i].g+ss[i].h) from rfl,tO]
  rfl
def VI {ss:List Rw}{b e:Nat}(hbe:b<e)(he:e<=ss.length)(hn:ss.length<=1000)(h1000:∀r∈ss,r.sp.length<=1000)(q:Option D):
  ∃q' t',yl (Tgt.one 6).asg (qE kB) (rng b (e-b)) [some (.lst (ss.map zC)),some (.lst (ss.map zu)),some (.int (b:Int)),some (.int (e:Int)),some (.lst []),some (.int 0),q]=.ok (.nx [some (.lst (ss.map zC)),some (.lst (ss.map zu)),some (.int (b:Int)),some (.int (e:Int)),some (.lst ((yg (zf (cut ss b e)) 0).map zm)),t',q']):=by
 have hil:b<ss.length:=by omega
 have hr:=h1000 ss[b] (rP hil);have l2:=wO 0 ss[b].sp;obtain⟨q',hq⟩:=Xv (b:=b) he h1000 (e-b-1) (b+1) (xa 0 ss[b].sp) ss[b].h (some (.int (b:Int))) (by omega) (by omega) (by rw[l2];omega);refine⟨q',some (.int (xq (cut ss (b+1) e) ss[b].h)),?_⟩;have hB:=Zg kB (.lst (ss.map zC)) (.lst (ss.map zu)) (.int (e:Int)) (b:Int) (b:Int) ss[b].g ss[b].h 0 (zC ss[b]) [] (xa 0 ss[b].sp) (Uv hil rfl) (s0 _) (s1 _) 0 (by rw[if_neg (by omega)]) (Xy _ _ _ _ _ _ _ _ _ _ (QS hil rfl) (r1 _) (vW _ _ hr)) (by rw[l2];show 0+_<=_;omega);rw[show e-b=(e-b-1)+1 by omega,xF,yc];show (qE kB [some (.lst (ss.map zC)),some (.lst (ss.map zu)),some (.int (b:Int)),some (.int (e:Int)),some (.lst (List.map zm [])),some (.int 0),some (.int (b:Int))]).bind _=_;rw[hB,jYa,yI,show (b:Int)+1=((b+1:Nat):Int) by omega,tU,show (0:Int)+ss[b].h=ss[b].h by omega,hq,vk (b:=b) hbe he];rw[show yg (zf (ss[b]::cut ss (b+1) e)) 0=xa (0+0) ss[b].sp++yg (cut ss (b+1) e) (0+0+ss[b].h) from rfl,show (0:Int)+0=0 from rfl,show (0:Int)+ss[b].h=ss[b].h by omega]
def JW (F:Tn->R Fl)(S RR b e x:D)(t' q':Option D)(h:F [some S,some RR,some b,some e,some (.lst []),some (.int 0),none]=.ok (.nx [some S,some RR,some b,some e,some x,t',q'])):zF 7 (zj (zl 4 (eL (fun ds=>.ok (.lst ds)) ze)) (zj (zl 5 (eC (.int 0))) (zj F (zB (zb 4))))) [S,RR,b,e]=.ok x:=by
 simp -implicitDefEqProofs only [zF,zj,zl,zB,zb,eC,eL,ze,jYa,tJ,sP,tL,sA,tY,tZ,sD,tU,tE,tD,tP,tR,Nat.reduceAdd,Nat.reduceSub,sM,h]
def z1n (S RR x t q:Option D)(b e:Nat)(h:e<=1000)(h2:b<=e):(iL jn (za (zb 2) (za (zb 3) ze))) [S,RR,some (.int (b:Int)),some (.int (e:Int)),x,t,q]=.ok (rng b (e-b)):=by
 have h1:jn [.int (b:Int),.int (e:Int)]=.ok (rng b (e-b)):=by
  rw[XB (by omega) (by omega) (by omega) (by omega),show ((e:Int)-(b:Int)).toNat=e-b by omega]
 simp -implicitDefEqProofs only [iL,za,ze,zb,jYa,tE,tD,h1]
def UW {ss:List Rw}{b e:Nat}(hbe:b<e)(he:e<=ss.length)(hn:ss.length<=1000)(h1000:∀r∈ss,r.sp.length<=1000):yo [.lst (ss.map zC),.lst (ss.map zu),.int (b:Int),.int (e:Int)]=.ok (.lst ((yg (zf (cut ss b e)) 0).map zm)):=by
 obtain⟨q',t',h⟩:=VI hbe he hn h1000 none;have hT:yo=zF 7 (zj (zl 4 (eL (fun ds=>.ok (.lst ds)) ze)) (zj (zl 5 (eC (.int 0))) (zj (yn (iL jn (za (zb 2) (za (zb 3) ze))) (.one 6) (qE kB)) (zB (zb 4))))):=rfl;rw[hT];exact JW _ _ _ _ _ _ _ _ (yO (z1n _ _ _ _ _ b e (by omega) (by omega)) h)
def z1Q {X:Tn->R D}{a x:D}(h:X [some a]=.ok x):zF 1 (zB X) [a]=.ok x:=by
 simp -implicitDefEqProofs only [zF,zB,jYa,tJ,sP,tL,sA,tZ,sD,tU,Nat.reduceSub,sM,h]
def z1F (n:List Rw)(hl:n.length<=1000):yM [zI n]=.ok (.int (n.map Rw.h).sum):=by
 have hT:yM=zF 1 vG:=rfl;rw[hT];exact z1Q (eL1 (u0 (enc:=zu) (f:=fun s:Rw=>.int s.h) (iF rfl) (by omega) rfl fun s _=>elh s _) (Wf _ _))
def yw:List Rw->Int->List Spt
 | [],_=>[]
 | r::rs,t=>xa t r.sp++yw rs (t+r.h)
def uJ:List Rw->Int->Int
 | [],t=>t
 | r::rs,t=>uJ rs (t+r.h)
theorem jG:∀(a b:List Rw) (t:Int),yw (a++b) t=yw a t++yw b (uJ a t)
 | [],b,t=>rfl
 | r::a,b,t=>by
  show xa t r.sp++yw (a++b) (t+r.h)=xa t r.sp++yw a (t+r.h)++yw b (uJ a (t+r.h));rw[jG a b,tO]
theorem ZS:∀(a b:List Rw) (t:Int),uJ (a++b) t=uJ b (uJ a t)
 | [],b,t=>rfl
 | r::a,b,t=>ZS a b (t+r.h)
theorem jT:∀(a:List Rw) (t:Int),(∀r∈a,r.sp.length<=1000)->(yw a t).length<=1000*a.length
 | [],t,_=>sZ _
 | r::a,t,h=>by
  have h1:=jT a (t+r.h) fun x hx=>h x (tG _ hx);have h2:=h r tF;show (xa t r.sp++yw a (t+r.h)).length<=1000*(a.length+1);rw[tK,wO];omega
def Wx:Tn->R D:=(eL yB (za (zd ixD (zb 5) (eC (.int 1))) (za (zb 3) ze)))
def jR:Tn->R Fl:=(zj (uX 2 Wx) (uM 3 vd (zd ixD (zb 5) (eC (.int 0)))))
def QM (a b c n t row r1' x:D)(h2:ixD row (.int 1)=.ok r1')(h3:yB [r1',t]=.ok x):Wx [some a,some b,some c,some t,some n,some row]=.ok x:=by
 unfold Wx;simp -implicitDefEqProofs only [zb,eC,zd,eL,ze,za,jYa,tE,tD,h2,h3]
def Kb (E:Tn->R D)(a b n row:D)(t h:Int)(XS YS:D)(hs:uX 2 E [some a,some b,some XS,some (.int t),some n,some row]=.ok (.nx [some a,some b,some YS,some (.int t),some n,some row]))(h3:ixD row (.int 0)=.ok (.int h)):
  (zj (uX 2 E) (uM 3 vd (zd ixD (zb 5) (eC (.int 0))))) [some a,some b,some XS,some (.int t),some n,some row]=.ok (.nx [some a,some b,some YS,some (.int (t+h)),some n,some row]):=by
 simp -implicitDefEqProofs only [zj,uM,zb,eC,zd,jYa,tE,tD,tP,tR,h3,JP,hs]
theorem XM (a b n:D):∀(rs:List Rw) (xs:List Spt) (t:Int) (q:Option D),(∀r∈rs,r.sp.length<=1000)->xs.length+1000*rs.length<=16777216 ->
  ∃q',yl (Tgt.one 5).asg jR (rs.map zu) [some a,some b,some (.lst (xs.map zm)),some (.int t),some n,q]=.ok (.nx [some a,some b,some (.lst ((xs++yw rs t).map zm)),some (.int (uJ rs t)),some n,q'])
 | [],xs,t,q,_,_=>⟨q,by
  show R.ok _=_;rw[show yw [] t=[] from rfl,tQ]
  rfl⟩
 | r::rs,xs,t,q,h1,hl=>by
  have hr:=h1 r tF;have l2:=wO t r.sp;have hl:xs.length+1000*(rs.length+1)<=16777216:=hl;obtain⟨q',hq⟩:=XM a b n rs (xs++xa t r.sp) (t+r.h) (some (zu r)) (fun x hx=>h1 x (tG _ hx)) (by rw[tK,l2];omega);refine⟨q',?_⟩;have hE:Wx [some a,some b,some (.lst (xs.map zm)),some (.int t),some n,some (zu r)]=.ok (.lst ((xa t r.sp).map zm)):=QM _ _ _ _ _ _ _ _ (r1 r) (vW _ _ hr);have hX:uX 2 Wx [some a,some b,some (.lst (xs.map zm)),some (.int t),some n,some (zu r)]=.ok (.nx [some a,some b,some (.lst ((xs++xa t r.sp).map zm)),some (.int t),some n,some (zu r)]):=V8 rfl hE (by rw[l2];omega);have hB:=Kb Wx a b n (zu r) t r.h _ _ hX (r0 r);rw[tJ,yc];show (jR [some a,some b,some (.lst (xs.map zm)),some (.int t),some n,some (zu r)]).bind _=_;rw[show jR [some a,some b,some (.lst (xs.map zm)),some (.int t),some n,some (zu r)]=_ from hB,jYa,yI,hq,tO]
  rfl
theorem Zn (a b:D):∀(ns:List (List Rw)) (xs:List Spt) (t:Int) (p q:Option D),(∀n∈ns,n.length<=10/\∀r∈n,r.sp.length<=1000)->xs.length+10000*ns.length<=16777216 ->
  ∃p' q',yl (Tgt.one 4).asg (yn (xn (zb 4)) (.one 5) jR) (ns.map zI) [some a,some b,some (.lst (xs.map zm)),some (.int t),p,q]=.ok (.nx [some a,some b,some (.lst ((xs++yw ns.flatten t).map zm)),some (.int (uJ ns.flatten t)),p',q'])
 | [],xs,t,p,q,_,_=>⟨p,q,by
  show R.ok _=_;rw[show yw (List.flatten []) t=[] from rfl,tQ]
  rfl⟩
 | n::ns,xs,t,p,q,h1,hl=>by
  have hr:=h1 n tF;have hl:xs.length+10000*(ns.length+1)<=16777216:=hl;have l2:=jT n t hr.2;obtain⟨q1,hq1⟩:=XM a b (zI n) n xs t q hr.2 (by omega);obtain⟨p',q',hq⟩:=Zn a b ns (xs++yw n t) (uJ n t) (some (zI n)) q1 (fun x hx=>h1 x (tG _ hx)) (by rw[tK];omega);refine⟨p',q',?_⟩;rw[tJ,yc];show ((yn (xn (zb 4)) (.one 5) jR) [some a,some b,some (.lst (xs.map zm)),some (.int t),some (zI n),q]).bind _=_;rw[yO (iF rfl) hq1,jYa,yI,hq,rC,jG,ZS,tO]
def Ki (F:Tn->R Fl)(N x:D)(f:Int)(t' p' q':Option D)(h:F [some N,some (.int f),some (.lst []),some (.int f),none,none]=.ok (.nx [some N,some (.int f),some x,t',p',q'])):zF 6 (zj (zl 2 (eL (fun ds=>.ok (.lst ds)) ze)) (zj (zl 3 (zb 1)) (zj F (zB (zb 2))))) [N,.int f]=.ok x:=by
 simp -implicitDefEqProofs only [zF,zj,zl,zB,zb,eL,ze,jYa,tJ,sP,tL,sA,tY,tZ,sD,tU,tE,tD,tP,tR,Nat.reduceAdd,Nat.reduceSub,sM,h]
def z1z (ns:List (List Rw))(f:Int)(h:∀n∈ns,n.length<=10/\∀r∈n,r.sp.length<=1000)(hn:ns.length<=1000):yF [.lst (ns.map zI),.int f]=.ok (.lst ((yw ns.flatten f).map zm)):=by
 obtain⟨p',q',e⟩:=Zn (.lst (ns.map zI)) (.int f) ns [] f none none h (by show 0+_<=_;omega);rw[tU]at e;have hT:yF=zF 6 (zj (zl 2 (eL (fun ds=>.ok (.lst ds)) ze)) (zj (zl 3 (zb 1)) (zj (yn (yf (zb 0)) (.one 4) (yn (xn (zb 4)) (.one 5) jR)) (zB (zb 2))))):=rfl;rw[hT];exact Ki _ _ _ _ _ _ _ (yO (iS rfl) e)
def xG (p:Nat×Nat):D:=.tup [.int (p.1:Int),.int (p.2:Int)]
structure Span where
 b:Nat
 e:Nat
 a:Nat
 t:Nat
def vZ (p:Span):D:=.tup [.int (p.b:Int),.int (p.e:Int),.int (p.a:Int),.int (p.t:Int)]
def spn:List (Nat×Nat)->Nat->Nat->List Span
 | [],_,_=>[]
 | p::ls,b,a=>⟨b,p.1,a,p.2⟩::spn ls p.1 p.2
theorem kK:∀(ls:List (Nat×Nat)) (b a:Nat),(spn ls b a).length=ls.length
 | [],_,_=>rfl
 | p::ls,b,a=>congrArg (·+1) (kK ls p.1 p.2)
def Zb:Tn->R Fl:=(zj (xH 1 (xm (eL (fun ds=>.ok (.tup ds)) (za (zb 2) (za (zb 4) (za (zb 3) (za (zb 5) ze))))))) (zj (zl 2 (zb 4)) (zl 3 (zb 5))))
def bX (P:Option D)(xs:List Span)(b a e t:Nat)(h:xs.length<=1000000):Zb [P,some (.lst (xs.map vZ)),some (.int (b:Int)),some (.int (a:Int)),some (.int (e:Int)),some (.int (t:Int))]=.ok (.nx [P,some (.lst ((xs++[(⟨b,e,a,t⟩:Span)]).map vZ)),some (.int (e:Int)),some (.int (t:Int)),some (.int (e:Int)),some (.int (t:Int))]):=by
 have e1:(xs++[(⟨b,e,a,t⟩:Span)]).map vZ=xs.map vZ++[.tup [.int (b:Int),.int (e:Int),.int (a:Int),.int (t:Int)]]:=by rw[sL];rfl
 have hl:(xs.map vZ).length<16777216:=by rw[tI];omega
 rw[e1];generalize xs.map vZ=L at *;have ha:∀(τ:Tn) (d:D),qc 1 τ L d=.ok (.nx (τ.set 1 (some (.lst (L++[d]))))):=fun τ d=>if_pos (by rw[sizeLine_eq];exact hl);have hi:Z2 (.tup [.int (b:Int),.int (e:Int),.int (a:Int),.int (t:Int)])=.ok (.tup [.int (b:Int),.int (e:Int),.int (a:Int),.int (t:Int)]):=rfl;unfold Zb;simp -implicitDefEqProofs only [zj,zl,xN,xP,yP,zb,eL,za,ze,jYa,tE,tD,tP,tR,ha,hi]
theorem WR (P:Option D):∀(ls:List (Nat×Nat)) (xs:List Span) (b a:Nat) (q r:Option D),xs.length+ls.length<=1000000->∃b' a' q' r',yl (Tgt.many [4,5]).asg Zb (ls.map xG) [P,some (.lst (xs.map vZ)),some (.int (b:Int)),some (.int (a:Int)),q,r]=.ok (.nx [P,some (.lst ((xs++spn ls b a).map vZ)),b',a',q',r'])
 | [],xs,b,a,q,r,_=>⟨_,_,q,r,by
  show R.ok _=_;rw[show spn [] b a=[] from rfl,tQ]⟩
 | p::ls,xs,b,a,q,r,h=>by
  have h:xs.length+(ls.length+1)<=1000000:=h;obtain⟨b',a',q',r',e⟩:=WR P ls (xs++[(⟨b,p.1,a,p.2⟩:Span)]) p.1 p.2 (some (.int (p.1:Int))) (some (.int (p.2:Int))) (by rw[tK];show xs.length+1+_<=_;omega);refine⟨b',a',q',r',?_⟩;rw[tJ,yc];show (Zb [P,some (.lst (xs.map vZ)),some (.int (b:Int)),some (.int (a:Int)),some (.int (p.1:Int)),some (.int (p.2:Int))]).bind _=_;rw[bX _ _ _ _ _ _ (by omega),jYa,yI,e,tO]
  rfl
def K7 (F:Tn->R Fl)(N x:D)(t' p' q' r':Option D)(h:F [some N,some (.lst []),some (.int 0),some (.int 0),none,none]=.ok (.nx [some N,some x,t',p',q',r'])):zF 6 (zj (zl 1 (eL (fun ds=>.ok (.lst ds)) ze)) (zj (zl 2 (eC (.int 0))) (zj (zl 3 (eC (.int 0))) (zj F (zB (zb 1)))))) [N]=.ok x:=by
 simp -implicitDefEqProofs only [zF,zj,zl,zB,zb,eC,eL,ze,jYa,tJ,sP,tL,sA,tY,tZ,sD,tU,tE,tD,tP,tR,Nat.reduceSub,sM,h]
def Vx (ls:List (Nat×Nat))(h:ls.length<=1000):uc [.lst (ls.map xG)]=.ok (.lst ((spn ls 0 0).map vZ)):=by
 obtain⟨b',a',q',r',e⟩:=WR (some (.lst (ls.map xG))) ls [] 0 0 none none (by show 0+_<=_;omega);rw[tU]at e;have hT:uc=zF 6 (zj (zl 1 (eL (fun ds=>.ok (.lst ds)) ze)) (zj (zl 2 (eC (.int 0))) (zj (zl 3 (eC (.int 0))) (zj (yn (yf (zb 0)) (.many [4,5]) Zb) (zB (zb 1)))))):=rfl;rw[hT];exact K7 _ _ _ _ _ _ _ (yO (iS rfl) e)
structure Pg where
 body:List Spt
 rule:Option Int
 foot:List Spt
def vf:Option Int->D
 | none=>.non
 | some i=>.int i
def x6 (p:Pg):D:=.tup [.lst (p.body.map zm),vf p.rule,.lst (p.foot.map zm)]
def x8 (H top:Int)(n:Nat):Int:=if H-1-(n:Int)>top then H-1-(n:Int) else top
def uv (H:Int)(xs fs:List Rw):Pg:=match fs with
 | []=>⟨yg (zf xs) 0,none,[]⟩
 | f::fr=>⟨yg (zf xs) 0,some (x8 H (xq (zf xs) 0) (fr.length+1)),yw (f::fr) (x8 H (xq (zf xs) 0) (fr.length+1)+1)⟩
def wW (ns:List (List Rw))(b e:Nat):List (List Rw):=(ns.drop b).take (e-b)
theorem ZW:∀(xs:List Rw) (t:Int),xq xs t=t+(xs.map Rw.h).sum+(xs.map Rw.g).sum
 | [],t=>by show t=t+0+0;omega
 | r::xs,t=>by
  show xq xs (t+r.g+r.h)=t+(r.h+(xs.map Rw.h).sum)+(r.g+(xs.map Rw.g).sum)
  rw[ZW xs];omega
def Qc {ss:List Rw}{b e:Nat}(h:b<e)(he:e<=ss.length):xq (zf (cut ss b e)) 0=((cut ss b e).map Rw.h).sum+((cut ss (b+1) e).map Rw.g).sum:=by
 rw[vk h he];show xq (cut ss (b+1) e) (0+0+ss[b].h)=(ss[b].h+((cut ss (b+1) e).map Rw.h).sum)+_;rw[ZW];omega
def z0C (ns:List (List Rw)){b e:Nat}(h:b<=e)(he:e<=ns.length):slD (.lst (ns.map zI)) (some (b:Int)) (some (e:Int))=.ok (.lst ((wW ns b e).map zI)):=by
 rw[Yz (zY Jy ns),VW (by rw[tI];exact he) h,vJ]
 rfl
def Zq (ns:List (List Rw)){b e:Nat}(h:b<=e)(he:e<=ns.length):(wW ns b e).length=e-b:=by
 unfold wW;rw[sG,sT];omega
def qF {ns:List (List Rw)}{b e:Nat}{n:List Rw}(h:n∈wW ns b e):n∈ns:=List.mem_of_mem_drop (rM h)
def Q4:Tn->R D:=(yh [none] (yf (zb 9)) (.one 0) (fun _=>.ok true) (eL yM (za (zb 0) ze)))
def U7 (C:Tn->R D):Tn->R Fl:=(zj (zl 10 (eL wB (za C ze))) (zj (zl 11 (eL wI (za (eL yt (za (zb 1) (za (zb 5) (za (zb 6) ze)))) (za (zd vD (zd vD (zd ixD (zb 0) (eC (.str "height"))) (zb 10)) (eC (.int 1))) ze)))) (zB (eL (fun ds=>.ok (.tup ds)) (za (zb 7) (za (xm (zb 11)) (za (eL yF (za (zb 9) (za (zd zw (zb 11) (eC (.int 1))) ze))) ze)))))))
def Vb (C:Tn->R D)(RL S RR N X b e BD FO OW HS FS:D)(hh bh H:Int)(hC:C [some RL,some S,some RR,some N,some X,some b,some e,some BD,some FO,some OW,none,none]=.ok HS)(h1:wB [HS]=.ok (.int hh))(h2:yt [S,b,e]=.ok (.int bh))(h3:ixD RL (.str "height")=.ok (.int H))
  (h4:yF [OW,.int ((if H-hh-1>bh then H-hh-1 else bh)+1)]=.ok FS):U7 C [some RL,some S,some RR,some N,some X,some b,some e,some BD,some FO,some OW,none,none]=.ok (.rt (.tup [BD,.int (if H-hh-1>bh then H-hh-1 else bh),FS])):=by
 have hm:∀i j:Int,wI [.int i,.int j]=.ok (.int (if j>i then j else i)):=fun _ _=>rfl;unfold U7;simp -implicitDefEqProofs only [zj,zl,zB,yP,v8,yH,Yu,eC,zd,zb,eL,za,ze,jYa,tE,tD,tP,tR,hC,h1,h2,h3,h4,hm]
def TP (R0:Tn->R Fl):Tn->R Fl:=(zj (zl 5 (zd ixD (zb 4) (eC (.int 0)))) (zj (zl 6 (zd ixD (zb 4) (eC (.int 1)))) (zj (zl 7 (eL yo (za (zb 1) (za (zb 2) (za (zb 5) (za (zb 6) ze)))))) (zj (zl 8 (eL yX (za (zb 1) (za (zb 5) (za (zb 6) (za (zd ixD (zb 4) (eC (.int 2))) (za (zd ixD (zb 4) (eC (.int 3))) ze))))))) (zj (zl 9 (eSl (zb 3) (ya (zd ixD (zb 8) (eC (.int 0)))) (ya (zd ixD (zb 8) (eC (.int 1)))))) (zj (sIf (zz (zd (eqR false) (eL x9 (za (zb 9) ze)) (eC (.int 0)))) (zB (eL (fun ds=>.ok (.tup ds)) (za (zb 7) (za (eC .non) (za (eL (fun ds=>.ok (.lst ds)) ze) ze))))) yi) R0))))))
def TP0 (R0:Tn->R Fl)(RL S RR N X b e a t BD FO OW:D)(lo hi:Int)(x0:ixD X (.int 0)=.ok b)(x1:ixD X (.int 1)=.ok e)(x2:ixD X (.int 2)=.ok a)(x3:ixD X (.int 3)=.ok t)(hb:yo [S,RR,b,e]=.ok BD)(hf:yX [S,b,e,a,t]=.ok FO)(f0:ixD FO (.int 0)=.ok (.int lo))(f1:ixD FO (.int 1)=.ok (.int hi))(hs:slD N (some lo) (some hi)=.ok OW)(hl:x9 [OW]=.ok (.int 0)):
  zF 12 (TP R0) [RL,S,RR,N,X]=.ok (.tup [BD,.non,.lst []]):=by
 have h0:eqR false (.int 0) (.int 0)=.ok (.bl true):=by rw[Ys];rfl
 unfold TP;simp -implicitDefEqProofs only [zF,zj,zl,zB,sIf,zz,asB,eSl,ya,eC,zd,zb,eL,za,ze,jYa,tJ,sP,tL,sA,tY,tZ,sD,tU,Nat.reduceAdd,Nat.reduceSub,sM,tE,tD,tP,tR,if_true,x0,x1,x2,x3,hb,hf,f0,f1,hs,hl,h0]
def TP1 (R0:Tn->R Fl)(RL S RR N X b e a t BD FO OW x:D)(lo hi n:Int)(x0:ixD X (.int 0)=.ok b)(x1:ixD X (.int 1)=.ok e)(x2:ixD X (.int 2)=.ok a)(x3:ixD X (.int 3)=.ok t)(hb:yo [S,RR,b,e]=.ok BD)(hf:yX [S,b,e,a,t]=.ok FO)(f0:ixD FO (.int 0)=.ok (.int lo))(f1:ixD FO (.int 1)=.ok (.int hi))(hs:slD N (some lo) (some hi)=.ok OW)(hl:x9 [OW]=.ok (.int n))(hn:n≠0)(hr:R0 [some RL,some S,some RR,some N,some X,some b,some e,some BD,some FO,some OW,none,none]=.ok (.rt x)):
  zF 12 (TP R0) [RL,S,RR,N,X]=.ok x:=by
 have h0:eqR false (.int n) (.int 0)=.ok (.bl false):=by rw[Ys];simp[hn]
 unfold TP;simp -implicitDefEqProofs only [zF,zj,zl,zB,sIf,yi,zz,asB,eSl,ya,eC,zd,zb,eL,za,ze,jYa,tJ,sP,tL,sA,tY,tZ,sD,tU,Nat.reduceAdd,Nat.reduceSub,sM,tE,tD,tP,tR,if_false,sS,x0,x1,x2,x3,hb,hf,f0,f1,hs,hl,h0,hr]
def QY (a b c d e f g h i:Option D)(x y:Option D)(ns:List (List Rw))(hn:ns.length<=1000)(h10:∀n∈ns,n.length<=10):Q4 [a,b,c,d,e,f,g,h,i,some (.lst (ns.map zI)),x,y]=.ok (.lst (ns.map fun n=>.int (n.map Rw.h).sum)):=by
 unfold Q4;refine u0 (enc:=zI) (f:=fun n:List Rw=>.int (n.map Rw.h).sum) (iS rfl) (by omega) rfl fun n hm=>eL1 rfl (z1F n ?_);have:=h10 n hm;omega
structure Gd (ss:List Rw)(ns:List (List Rw)):Prop where
 hn:ss.length<=20
 hm:mk ss ss.length=ns.length
 hs:∀r∈ss,r.sp.length<=10/\1<=r.h/\r.h<=3/\0<=r.g/\r.g<=3/\r.m<=2
 hk:∀n∈ns,n≠[]/\n.length<=3/\∀r∈n,r.h=1/\r.sp.length<=10
theorem XF:∀(xs:List Rw),(∀r∈xs,r.h=1)->(xs.map Rw.h).sum=(xs.length:Int)
 | [],_=>rfl
 | r::xs,h=>by
  rw[tJ,List.sum_cons,XF xs fun x hx=>h x (tG _ hx),h r tF,tL];omega
theorem Zp:∀(ns:List (List Rw)),(∀n∈ns,∀r∈n,r.h=1)->(ns.map fun n=>(n.map Rw.h).sum).sum=((ns.flatten).length:Int)
 | [],_=>rfl
 | n::ns,h=>by
  rw[tJ,List.sum_cons,Zp ns fun x hx=>h x (tG _ hx),rC,tK,XF n (h n tF)];omega
def vc {ss:List Rw}{b e:Nat}(h:b<=e):mk ss b<=mk ss e:=by have:=kR (ss:=ss) h;omega
def Ue (ss:List Rw):∀(n:Nat),(∀r∈ss,r.m<=2)->mk ss n<=2*ss.length:=by
 intro n h;have:∀(xs:List Rw),(∀r∈xs,r.m<=2)->(xs.map Rw.m).sum<=2*xs.length:=by
  intro xs hx
  induction xs with
  | nil=>exact tM _
  | cons x xs ih =>
   have h1:=ih fun y hy=>hx y (tG _ hy);have h2:=hx x tF;rw[tJ,List.sum_cons,tL];omega
 have h1:=this (ss.take n) fun r hr=>h r (rM hr);have h2:(ss.take n).length<=ss.length:=by rw[sG];omega
 unfold mk;omega
theorem Gd.n40 {ss:List Rw}{ns:List (List Rw)}(G:Gd ss ns):ns.length<=40:=by
 have:=Ue ss ss.length fun r hr=>(G.hs r hr).2.2.2.2.2;have:=G.hm;have:=G.hn;omega
def xW (H:Int)(ss:List Rw)(ns:List (List Rw))(x:Span):Pg:=uv H (cut ss x.b x.e) (wW ns (mk ss x.b-x.a) (mk ss x.e-x.t)).flatten
structure SpOk (ss:List Rw)(x:Span):Prop where
 be:x.b<x.e
 en:x.e<=ss.length
 a:x.a<=mk ss x.b
 t:x.t<=mk ss x.e-mk ss x.b
def UC {ss:List Rw}{ns:List (List Rw)}(G:Gd ss ns){RL:D}{H:Int}(hH:ixD RL (.str "height")=.ok (.int H)){x:Span}(X:SpOk ss x):
  xD [RL,.lst (ss.map zC),.lst (ss.map zu),.lst (ns.map zI),vZ x]=.ok (x6 (xW H ss ns x)):=by
 have hT:xD=zF 12 (TP (U7 Q4)):=rfl;have hn:=G.hn;have hm:=G.hm;have h40:=G.n40;have hbe:=X.be;have hen:=X.en;have ha:=X.a;have ht:=X.t;have mm:=vc (ss:=ss) (rK hbe);have mn:=vc (ss:=ss) hen;have hb:=UW (ss:=ss) hbe hen (by omega) fun r hr=>by have:=(G.hs r hr).1;omega
 have hf:=QV (ss:=ss) (a:=x.a) (t:=x.t) (rK hbe) hen (by omega) ha (by omega);have hs:=z0C ns (b:=mk ss x.b-x.a) (e:=mk ss x.e-x.t) (by omega) (by omega);have hl:x9 [.lst ((wW ns (mk ss x.b-x.a) (mk ss x.e-x.t)).map zI)]=.ok (.int ((wW ns (mk ss x.b-x.a) (mk ss x.e-x.t)).length:Int)):=by rw[u9,tI]
 have hc:=Zq ns (b:=mk ss x.b-x.a) (e:=mk ss x.e-x.t) (by omega) (by omega);rw[hT];unfold xW;have hO:∀n∈wW ns (mk ss x.b-x.a) (mk ss x.e-x.t),n∈ns:=fun n hn=>qF hn;generalize wW ns (mk ss x.b-x.a) (mk ss x.e-x.t)=O at *;cases O with
 | nil=>exact TP0 _ _ _ _ _ _ _ _ _ _ _ _ _ _ _ wu vg qR Yo hb hf wu vg hs hl
 | cons n0 nr =>
  have hk:∀n∈n0::nr,n≠[]/\n.length<=3/\∀r∈n,r.h=1/\r.sp.length<=10:=fun n hm=>G.hk n (hO n hm);have hcm:=Zp (n0::nr) fun n hn r hr=>((hk n hn).2.2 r hr).1;have hsum:wB [.lst ((n0::nr).map fun n=>.int (n.map Rw.h).sum)]=.ok (.int (((n0::nr).flatten).length:Int)):=by
   have:=Va (ns:=(n0::nr).map fun n=>(n.map Rw.h).sum);rw[rO,hcm]at this;exact this
  have hbh:=z0G (ss:=ss) hbe hen (by omega);rw[<-Qc hbe hen]at hbh;obtain⟨f,fr,hfl⟩:∃f fr,(n0::nr).flatten=f::fr:=by
   have:=(hk n0 tF).1;cases n0 with
   | nil=>exact absurd rfl this
   | cons f n0=>exact⟨f,n0++nr.flatten,rfl⟩
  have er:∀top:Int,(if H-(((n0::nr).flatten).length:Int)-1>top then H-(((n0::nr).flatten).length:Int)-1 else top)=x8 H top ((n0::nr).flatten).length:=fun top=>by
   unfold x8;rw[show H-(((n0::nr).flatten).length:Int)-1=H-1-(((n0::nr).flatten).length:Int) by omega]
  have hfs:=z1z (n0::nr) (x8 H (xq (zf (cut ss x.b x.e)) 0) ((n0::nr).flatten).length+1) (fun n hn=>⟨by have:=(hk n hn).2.1;omega,fun r hr=>by have:=((hk n hn).2.2 r hr).2;omega⟩) (by omega);have hR:=Vb Q4 RL (.lst (ss.map zC)) (.lst (ss.map zu)) (.lst (ns.map zI)) (vZ x) (.int (x.b:Int)) (.int (x.e:Int)) (.lst ((yg (zf (cut ss x.b x.e)) 0).map zm)) (.tup [.int ((mk ss x.b-x.a:Nat):Int),.int ((mk ss x.e-x.t:Nat):Int)]) (.lst ((n0::nr).map zI)) _ (.lst ((yw (n0::nr).flatten (x8 H (xq (zf (cut ss x.b x.e)) 0) ((n0::nr).flatten).length+1)).map zm)) _ _ H (QY _ _ _ _ _ _ _ _ _ _ _ (n0::nr) (by omega) fun n hn=>by have:=(hk n hn).2.1;omega) hsum hbh hH (by rw[er];exact hfs);refine (TP1 _ RL _ _ _ (vZ x) _ _ _ _ _ _ _ _ _ _ _ wu vg qR Yo hb hf wu vg hs hl (by rw[tL];omega) hR).trans ?_;rw[er,hfl]
  rfl
def z1R {X:Tn->R D}{a b c d e x:D}(h:X [some a,some b,some c,some d,some e]=.ok x):zF 5 (zB X) [a,b,c,d,e]=.ok x:=by
 simp -implicitDefEqProofs only [zF,zB,jYa,tJ,sP,tL,sA,tZ,sD,tU,Nat.reduceAdd,Nat.reduceSub,sM,h]
def elP (a b c d x p:D)(h:xD [a,b,c,d,x]=.ok p):(eL xD (za (zb 1) (za (zb 2) (za (zb 3) (za (zb 4) (za (zb 0) ze)))))) [some x,some a,some b,some c,some d]=.ok p:=by
 simp -implicitDefEqProofs only [zb,eL,ze,za,jYa,tE,tD,h]
def Wn {ss:List Rw}{ns:List (List Rw)}(G:Gd ss ns){RL:D}{H:Int}(hH:ixD RL (.str "height")=.ok (.int H)){ls:List (Nat×Nat)}(hl:ls.length<=1000)(hX:∀x∈spn ls 0 0,SpOk ss x):
  xv [RL,.lst (ss.map zC),.lst (ss.map zu),.lst (ns.map zI),.lst (ls.map xG)]=.ok (.lst (((spn ls 0 0).map (xW H ss ns)).map x6)):=by
 have hT:xv=zF 5 ZD:=rfl;rw[hT,rO];exact z1R (u0 (enc:=vZ) (f:=fun x=>x6 (xW H ss ns x)) (iS (eL1 rfl (Vx ls hl))) (by rw[kK];omega) rfl fun x hx=>elP _ _ _ _ _ _ (UC G hH (hX x hx)))
def Vk (xs ys:List Spt)(h:xs.length+ys.length<=16777216):zw (.lst (xs.map zm)) (.lst (ys.map zm))=.ok (.lst ((xs++ys).map zm)):=by
 rw[sL];exact if_pos ⟨zY X8 _,zY X8 _,by rw[tI,tI,sizeLine_eq];exact h⟩
def elU:Tn->R D:=(eL (fun ds=>.ok (.tup ds)) (za (zd zw (zb 1) (zd ixD (zb 0) (eC (.int 0)))) (za (zd ixD (zb 0) (eC (.int 1))) (za (zd ixD (zb 0) (eC (.int 2))) ze))))
def z03 (s:Spt)(k:Int):elU [some (zm s),some (.int k)]=.ok (zm (low k s)):=by
 have h0:=p0 s;have h1:=p1 s;have h2:=p2 s;show _=R.ok (D.tup [.int (s.t+k),.int s.l,.str s.x]);rw[Int.add_comm];generalize zm s=P at *;unfold elU;simp -implicitDefEqProofs only [zb,eC,zd,eL,ze,za,jYa,tE,tD,yH,h0,h1,h2]
def Ws:Tn->R D:=(yh [none,some 1] (xn (zd ixD (zb 3) (eC (.int 1)))) (.one 0) (fun _=>.ok true) elU)
def ixC {τ:Tn}{i:Nat}{n:Int}{d x:D}(h:τ[i]?=some (some d))(hx:ixD d (.int n)=.ok x):(zd ixD (zb i) (eC (.int n))) τ=.ok x:=by
 unfold zd zb eC;rw[h];dsimp only;rw[jYa,jYa];exact hx
def Qg (a c:Option D)(t:Int)(r:Rw)(hl:r.sp.length<=1000):Ws [a,some (.int t),c,some (zu r)]=.ok (.lst ((xa t r.sp).map zm)):=by
 unfold Ws xa;rw[rO];exact u0 (enc:=zm) (f:=fun s=>zm (low t s)) (iF (ixC rfl (r1 r))) (by omega) rfl fun s _=>z03 s t
def Ye (C:Tn->R D):Tn->R Fl:=(zj (zl 2 (zd zw (zb 2) C)) (zl 1 (zd zw (zb 1) (zd ixD (zb 3) (eC (.int 0))))))
def bU (C:Tn->R D)(a X Y Z r:D)(t h:Int)(hC:C [some a,some (.int t),some X,some r]=.ok Y)(h1:zw X Y=.ok Z)(h2:ixD r (.int 0)=.ok (.int h)):Ye C [some a,some (.int t),some X,some r]=.ok (.nx [some a,some (.int (t+h)),some Z,some r]):=by
 unfold Ye;simp -implicitDefEqProofs only [zj,zl,eC,zd,zb,jYa,tE,tD,tP,tR,yH,hC,h1,h2]
theorem z1d (a:D):∀(rs:List Rw) (xs:List Spt) (t:Int) (q:Option D),(∀r∈rs,r.sp.length<=1000)->xs.length+1000*rs.length<=16777216 ->
  ∃q',yl (Tgt.one 3).asg (Ye Ws) (rs.map zu) [some a,some (.int t),some (.lst (xs.map zm)),q]=.ok (.nx [some a,some (.int (uJ rs t)),some (.lst ((xs++yw rs t).map zm)),q'])
 | [],xs,t,q,_,_=>⟨q,by
  show R.ok _=_;rw[show yw [] t=[] from rfl,tQ]
  rfl⟩
 | r::rs,xs,t,q,h1,hl=>by
  have hr:=h1 r tF;have l2:=wO t r.sp;have hl:xs.length+1000*(rs.length+1)<=16777216:=hl;obtain⟨q',hq⟩:=z1d a rs (xs++xa t r.sp) (t+r.h) (some (zu r)) (fun x hx=>h1 x (tG _ hx)) (by rw[tK,l2];omega);refine⟨q',?_⟩;have hB:=bU Ws a _ _ _ (zu r) t r.h (Qg _ _ t r hr) (Vk xs (xa t r.sp) (by rw[l2];omega)) (r0 r);rw[tJ,yc];show (Ye Ws [some a,some (.int t),some (.lst (xs.map zm)),some (zu r)]).bind _=_;rw[hB,jYa,yI,hq,tO]
  rfl
def Kt (F:Tn->R Fl)(N x:D)(f t:Int)(q':Option D)(h:F [some N,some (.int f),some (.lst []),none]=.ok (.nx [some N,some (.int t),some x,q'])):zF 4 (zj (zl 2 (eL (fun ds=>.ok (.lst ds)) ze)) (zj F (zB (eL (fun ds=>.ok (.tup ds)) (za (zb 2) (za (xm (zb 1)) ze)))))) [N,.int f]=.ok (.tup [x,.int t]):=by
 simp -implicitDefEqProofs only [yP,v8,zF,zj,zl,zB,zb,eL,ze,za,jYa,tJ,sP,tL,sA,tY,tZ,sD,tU,tE,tD,tP,tR,Nat.reduceAdd,Nat.reduceSub,sM,h]
def ji (rs:List Rw)(t:Int)(h:∀r∈rs,r.sp.length<=1000)(hn:rs.length<=1000):zV [.lst (rs.map zu),.int t]=.ok (.tup [.lst ((yw rs t).map zm),.int (uJ rs t)]):=by
 obtain⟨q',e⟩:=z1d (.lst (rs.map zu)) rs [] t none h (by show 0+_<=_;omega);rw[tU]at e;have hT:zV=zF 4 (zj (zl 2 (eL (fun ds=>.ok (.lst ds)) ze)) (zj (yn (yf (zb 0)) (.one 3) (Ye Ws)) (zB (eL (fun ds=>.ok (.tup ds)) (za (zb 2) (za (xm (zb 1)) ze)))))):=rfl;rw[hT];exact Kt _ _ _ _ _ _ (yO (iS rfl) e)
def qP:Tn->R Fl:=(zj (Z9 (.many [13,11]) (eL zV (za (eL (fun ds=>.ok (.lst ds)) (za (zd ixD (zb 2) (zb 12)) ze)) (za (zd zw (zb 11) (zd wb (zd ixD (zd ixD (zb 1) (zb 12)) (eC (.int 0))) (eL Zk (za (zd gtD (zb 12) (zb 6)) ze)))) ze)))) (zl 10 (zd zw (zb 10) (zb 13))))
def bD (a0 a3 a4 a5 a7 a8 a9 a14 a15 a16 a17 q:Option D)(S RR r st X Y Z:D)(b i g t t2 t3:Int)(h1:ixD RR (.int i)=.ok r)(h2:ixD S (.int i)=.ok st)(h3:ixD st (.int 0)=.ok (.int g))(ht:t2=if i>b then t+g else t)(hU:zV [.lst [r],.int t2]=.ok (.tup [Y,.int t3]))(hA:zw X Y=.ok Z):
  qP [a0,some S,some RR,a3,a4,a5,some (.int b),a7,a8,a9,some X,some (.int t),some (.int i),q,a14,a15,a16,a17]=.ok (.nx [a0,some S,some RR,a3,a4,a5,some (.int b),a7,a8,a9,some Z,some (.int t3),some (.int i),some Y,a14,a15,a16,a17]):=by
 have hm:∀k:Int,(k=0\/k=1)->wb (.int g) (.int k)=.ok (.int (g*k)):=fun k hk=>X7 (by omega) (by omega);have hg:∀k:Bool,Zk [.bl k]=.ok (.int (if k then 1 else 0)):=fun _=>rfl;have hgt:gtD (.int i) (.int b)=.ok (.bl (decide (b<i))):=rfl;unfold qP
 by_cases hb:i>b
 ·rw[if_pos hb]at ht;rw[decide_eq_true hb]at hgt;have e:t+g*1=t2:=by omega
  have hm1:=hm 1 (.inr rfl);simp -implicitDefEqProofs only [zj,zl,Z9,Tgt.asg,yC,eL,za,ze,eC,zd,zb,jYa,tE,tD,tP,tR,tL,sA,yH,h1,h2,h3,hgt,hg,if_true,hm1,e,hU,hA,Nat.reduceAdd]
 ·rw[if_neg hb]at ht;rw[decide_eq_false hb]at hgt;have e:t+g*0=t2:=by omega
  have hm1:=hm 0 (.inl rfl);simp -implicitDefEqProofs only [zj,zl,Z9,Tgt.asg,yC,eL,za,ze,eC,zd,zb,jYa,tE,tD,tP,tR,tL,sA,yH,h1,h2,h3,hgt,hg,if_true,if_false,sS,hm1,e,hU,hA,Nat.reduceAdd]
def Jl (r:Rw)(t:Int):yw [r] t=xa t r.sp:=tQ _
theorem z1y {ss:List Rw}{b e:Nat}(he:e<=ss.length)(h1000:∀r∈ss,r.sp.length<=1000)(a0 a3 a4 a5 a7 a8 a9 a14 a15 a16 a17:Option D):∀(k i:Nat) (xs:List Spt) (t:Int) (p q:Option D),b<i->i+k=e->xs.length+1000*k<=16777216 ->
  ∃p' q',yl (Tgt.one 12).asg qP (rng i k) [a0,some (.lst (ss.map zC)),some (.lst (ss.map zu)),a3,a4,a5,some (.int (b:Int)),a7,a8,a9,some (.lst (xs.map zm)),some (.int t),p,q,a14,a15,a16,a17]=.ok (.nx [a0,some (.lst (ss.map zC)),some (.lst (ss.map zu)),a3,a4,a5,some (.int (b:Int)),a7,a8,a9,some (.lst ((xs++yg (cut ss i e) t).map zm)),some (.int (xq (cut ss i e) t)),p',q',a14,a15,a16,a17])
 | 0,i,xs,t,p,q,_,hi,_=>by
  have:i=e:=by omega
  subst this;refine⟨p,q,?_⟩;rw[Xg];show R.ok _=_;rw[show yg [] t=[] from rfl,tQ]
  rfl
 | k+1,i,xs,t,p,q,hb,hi,hl=>by
  have hil:i<ss.length:=by omega
  have hr:=h1000 ss[i] (rP hil);have l2:=wO (t+ss[i].g) ss[i].sp;have hgt:((i:Int)>(b:Int)):=by omega
  obtain⟨p',q',hq⟩:=z1y (b:=b) he h1000 a0 a3 a4 a5 a7 a8 a9 a14 a15 a16 a17 k (i+1) (xs++xa (t+ss[i].g) ss[i].sp) (t+ss[i].g+ss[i].h) (some (.int (i:Int))) (some (.lst ((xa (t+ss[i].g) ss[i].sp).map zm))) (by omega) (by omega) (by rw[tK,l2];omega);refine⟨p',q',?_⟩;have hU:=ji [ss[i]] (t+ss[i].g) (fun r hr'=>by rw[rE.mp hr'];exact hr) (Nat.le_of_ble_eq_true rfl);rw[Jl]at hU;have hB:=bD a0 a3 a4 a5 a7 a8 a9 a14 a15 a16 a17 q (.lst (ss.map zC)) (.lst (ss.map zu)) (zu ss[i]) (zC ss[i]) _ _ _ (b:Int) (i:Int) ss[i].g t (t+ss[i].g) _ (QS hil rfl) (Uv hil rfl) (s0 _) (by rw[if_pos hgt]) hU (Vk xs _ (by rw[l2];omega));rw[xF,yc];show (qP [a0,some (.lst (ss.map zC)),some (.lst (ss.map zu)),a3,a4,a5,some (.int (b:Int)),a7,a8,a9,some (.lst (xs.map zm)),some (.int t),some (.int (i:Int)),q,a14,a15,a16,a17]).bind _=_;rw[hB,jYa,yI,show (i:Int)+1=((i+1:Nat):Int) by omega,show uJ [ss[i]] (t+ss[i].g)=t+ss[i].g+ss[i].h from rfl,hq,vk (b:=i) (by omega) he];rw[show yg (ss[i]::cut ss (i+1) e) t=xa (t+ss[i].g) ss[i].sp++yg (cut ss (i+1) e) (t+ss[i].g+ss[i].h) from rfl,tO]
  rfl
def z0X {ss:List Rw}{b e:Nat}(hbe:b<e)(he:e<=ss.length)(hn:ss.length<=1000)(h1000:∀r∈ss,r.sp.length<=1000)(a0 a3 a4 a5 a7 a8 a9 a14 a15 a16 a17 p q:Option D):
  ∃p' q',yl (Tgt.one 12).asg qP (rng b (e-b)) [a0,some (.lst (ss.map zC)),some (.lst (ss.map zu)),a3,a4,a5,some (.int (b:Int)),a7,a8,a9,some (.lst []),some (.int 0),p,q,a14,a15,a16,a17]=.ok (.nx [a0,some (.lst (ss.map zC)),some (.lst (ss.map zu)),a3,a4,a5,some (.int (b:Int)),a7,a8,a9,some (.lst ((yg (zf (cut ss b e)) 0).map zm)),some (.int (xq (zf (cut ss b e)) 0)),p',q',a14,a15,a16,a17]):=by
 have hil:b<ss.length:=by omega
 have hr:=h1000 ss[b] (rP hil);have l2:=wO 0 ss[b].sp;obtain⟨p',q',hq⟩:=z1y (b:=b) he h1000 a0 a3 a4 a5 a7 a8 a9 a14 a15 a16 a17 (e-b-1) (b+1) (xa 0 ss[b].sp) ss[b].h (some (.int (b:Int))) (some (.lst ((xa 0 ss[b].sp).map zm))) (by omega) (by omega) (by rw[l2];omega);refine⟨p',q',?_⟩;have hU:=ji [ss[b]] 0 (fun r hr'=>by rw[rE.mp hr'];exact hr) (Nat.le_of_ble_eq_true rfl);rw[Jl]at hU;have hB:=bD a0 a3 a4 a5 a7 a8 a9 a14 a15 a16 a17 q (.lst (ss.map zC)) (.lst (ss.map zu)) (zu ss[b]) (zC ss[b]) _ _ _ (b:Int) (b:Int) ss[b].g 0 0 _ (QS hil rfl) (Uv hil rfl) (s0 _) (by rw[if_neg (by omega)]) hU (Vk [] _ (by rw[l2];show 0+_<=_;omega));rw[show e-b=(e-b-1)+1 by omega,xF,yc];show (qP [a0,some (.lst (ss.map zC)),some (.lst (ss.map zu)),a3,a4,a5,some (.int (b:Int)),a7,a8,a9,some (.lst (List.map zm [])),some (.int 0),some (.int (b:Int)),q,a14,a15,a16,a17]).bind _=_;rw[hB,jYa,yI,show (b:Int)+1=((b+1:Nat):Int) by omega,tU,show uJ [ss[b]] 0=0+ss[b].h from rfl,show (0:Int)+ss[b].h=ss[b].h by omega,hq,vk (b:=b) hbe he];rw[show yg (zf (ss[b]::cut ss (b+1) e)) 0=xa (0+0) ss[b].sp++yg (cut ss (b+1) e) (0+0+ss[b].h) from rfl,show xq (zf (ss[b]::cut ss (b+1) e)) 0=xq (cut ss (b+1) e) (0+0+ss[b].h) from rfl,show (0:Int)+0=0 from rfl,show (0:Int)+ss[b].h=ss[b].h by omega]
def ZG:Tn->R Fl:=(zl 15 (zd uU (zb 15) (zb 16)))
def bN (a0 a1 a2 a3 a4 a5 a6 a7 a8 a9 a10 a11 a12 a13 a14 a17:Option D)(X Y Z:D)(h:uU X Y=.ok Z):ZG [a0,a1,a2,a3,a4,a5,a6,a7,a8,a9,a10,a11,a12,a13,a14,some X,some Y,a17]=.ok (.nx [a0,a1,a2,a3,a4,a5,a6,a7,a8,a9,a10,a11,a12,a13,a14,some Z,some Y,a17]):=by
 unfold ZG;simp -implicitDefEqProofs only [zl,zd,zb,jYa,tE,tD,tP,tR,h]
def z24 (xs n:List Rw)(h:xs.length+n.length<=16777216):uU (.lst (xs.map zu)) (zI n)=.ok (.lst ((xs++n).map zu)):=by
 rw[sL];exact if_pos ⟨zY Xu _,zY Xu _,by rw[tI,tI,sizeLine_eq];exact h⟩
theorem z0S (a0 a1 a2 a3 a4 a5 a6 a7 a8 a9 a10 a11 a12 a13 a14 a17:Option D):∀(ns:List (List Rw)) (xs:List Rw) (q:Option D),(∀n∈ns,n.length<=10)->xs.length+10*ns.length<=16777216->∃q',yl (Tgt.one 16).asg ZG (ns.map zI) [a0,a1,a2,a3,a4,a5,a6,a7,a8,a9,a10,a11,a12,a13,a14,some (.lst (xs.map zu)),q,a17]=.ok (.nx [a0,a1,a2,a3,a4,a5,a6,a7,a8,a9,a10,a11,a12,a13,a14,some (.lst ((xs++ns.flatten).map zu)),q',a17])
 | [],xs,q,_,_=>⟨q,by
  show R.ok _=_;rw[List.flatten_nil,tQ]⟩
 | n::ns,xs,q,h,hl=>by
  have hl:xs.length+10*(ns.length+1)<=16777216:=hl;have hn:=h n tF;obtain⟨q',e⟩:=z0S a0 a1 a2 a3 a4 a5 a6 a7 a8 a9 a10 a11 a12 a13 a14 a17 ns (xs++n) (some (zI n)) (fun x hx=>h x (tG _ hx)) (by rw[tK];omega);refine⟨q',?_⟩;rw[tJ,yc];show (ZG [a0,a1,a2,a3,a4,a5,a6,a7,a8,a9,a10,a11,a12,a13,a14,some (.lst (xs.map zu)),some (zI n),a17]).bind _=_;rw[bN _ _ _ _ _ _ _ _ _ _ _ _ _ _ _ _ _ _ _ (z24 xs n (by omega)),jYa,yI,e,rC,tO]
def KS:eqR false (.lst []) (.lst [])=.ok (.bl true):=rfl
def J2 (x:D)(xs:List D):eqR false (.lst (x::xs)) (.lst [])=.ok (.bl false):=by
 have h:eqF 12 (.lst (x::xs)) (.lst [])=some false:=by
  show (if (x::xs).length=([]:List D).length then yj (eqF 11) (x::xs) [] else some false)=some false;rw[if_neg (by simp)]
 show (match eqF 12 (.lst (x::xs)) (.lst [])with
  | some b=>R.ok (D.bl (if false=true then !b else b))
  | none=>.bad)=_
 rw[h]
 rfl
def z07:Tn->R D:=(eL (fun ds=>.ok (.tup ds)) (za (zb 10) (za (eC .non) (za (eL (fun ds=>.ok (.lst ds)) ze) ze))))
def JQ:Tn->R D:=(eL (fun ds=>.ok (.tup ds)) (za (zb 10) (za (xm (zb 17)) (za (zd ixD (eL zV (za (zb 15) (za (zd zw (zb 17) (eC (.int 1))) ze))) (eC (.int 0))) ze))))
def ifX:Tn->R Fl:=(sIf (zz (zd (eqR false) (zb 15) (eL (fun ds=>.ok (.lst ds)) ze))) (xH 5 z07) (zj (zl 17 (eL wI (za (zb 11) (za (zd vD (zd vD (zd ixD (zb 0) (eC (.str "height"))) (eC (.int 1))) (eL x9 (za (zb 15) ze))) ze)))) (xH 5 JQ)))
def z0Z {X:Tn->R D}{a0 a1 a2 a3 a4 a6 a7 a8 a9 a10 a11 a12 a13 a14 a15 a16 a17:Option D}{L:List D}{d:D}(h:X [a0,a1,a2,a3,a4,some (.lst L),a6,a7,a8,a9,a10,a11,a12,a13,a14,a15,a16,a17]=.ok d)(hl:L.length<16777216):xH 5 X [a0,a1,a2,a3,a4,some (.lst L),a6,a7,a8,a9,a10,a11,a12,a13,a14,a15,a16,a17]=.ok (.nx [a0,a1,a2,a3,a4,some (.lst (L++[d])),a6,a7,a8,a9,a10,a11,a12,a13,a14,a15,a16,a17]):=by
 have ha:∀(τ:Tn) (d:D),qc 5 τ L d=.ok (.nx (τ.set 5 (some (.lst (L++[d]))))):=fun τ d=>if_pos (by rw[sizeLine_eq];exact hl);simp -implicitDefEqProofs only [xN,xP,zb,jYa,tE,tD,tP,tR,ha,h]
def Q7 (a0 a1 a2 a3 a4 a5 a6 a7 a8 a9 a11 a12 a13 a14 a15 a16 a17:Option D)(B:D):z07 [a0,a1,a2,a3,a4,a5,a6,a7,a8,a9,some B,a11,a12,a13,a14,a15,a16,a17]=.ok (.tup [B,.non,.lst []]):=by
 unfold z07;simp -implicitDefEqProofs only [eL,za,ze,eC,zb,jYa,tE,tD]
def QP (a0 a1 a2 a3 a4 a5 a6 a7 a8 a9 a11 a12 a13 a14 a16:Option D)(B FE u x:D)(r:Int)(h1:zV [FE,.int (r+1)]=.ok u)(h2:ixD u (.int 0)=.ok x):JQ [a0,a1,a2,a3,a4,a5,a6,a7,a8,a9,some B,a11,a12,a13,a14,some FE,a16,some (.int r)]=.ok (.tup [B,.int r,x]):=by
 unfold JQ;simp -implicitDefEqProofs only [eL,za,ze,eC,zb,zd,yP,v8,yH,jYa,tE,tD,h1,h2]
def z1W (P Q:Tn->R Fl)(a0 a1 a2 a3 a4 a6 a7 a8 a9 a11 a12 a13 a14 a16 a17:Option D)(L:List D)(B FE:D)(he:eqR false FE (.lst [])=.ok (.bl true))(hP:P [a0,a1,a2,a3,a4,some (.lst L),a6,a7,a8,a9,some B,a11,a12,a13,a14,some FE,a16,a17]=.ok (.nx [a0,a1,a2,a3,a4,some (.lst (L++[.tup [B,.non,.lst []]])),a6,a7,a8,a9,some B,a11,a12,a13,a14,some FE,a16,a17])):
  (sIf (zz (zd (eqR false) (zb 15) (eL (fun ds=>.ok (.lst ds)) ze))) P Q) [a0,a1,a2,a3,a4,some (.lst L),a6,a7,a8,a9,some B,a11,a12,a13,a14,some FE,a16,a17]=.ok (.nx [a0,a1,a2,a3,a4,some (.lst (L++[.tup [B,.non,.lst []]])),a6,a7,a8,a9,some B,a11,a12,a13,a14,some FE,a16,a17]):=by
 simp -implicitDefEqProofs only [sIf,zz,asB,eL,ze,zd,zb,jYa,tE,tD,if_true,he,hP]
def z1X (P Q:Tn->R Fl)(a1 a2 a3 a4 a6 a7 a8 a9 a12 a13 a14 a16 a17:Option D)(L:List D)(RL B FE x:D)(H top:Int)(n:Nat)(hH:ixD RL (.str "height")=.ok (.int H))(hl:x9 [FE]=.ok (.int (n:Int)))(he:eqR false FE (.lst [])=.ok (.bl false))(hQ:Q [some RL,a1,a2,a3,a4,some (.lst L),a6,a7,a8,a9,some B,some (.int top),a12,a13,a14,some FE,a16,some (.int (x8 H top n))]=.ok (.nx [some RL,a1,a2,a3,a4,some (.lst (L++[x])),a6,a7,a8,a9,some B,some (.int top),a12,a13,a14,some FE,a16,some (.int (x8 H top n))])):
  (sIf (zz (zd (eqR false) (zb 15) (eL (fun ds=>.ok (.lst ds)) ze))) P (zj (zl 17 (eL wI (za (zb 11) (za (zd vD (zd vD (zd ixD (zb 0) (eC (.str "height"))) (eC (.int 1))) (eL x9 (za (zb 15) ze))) ze)))) Q)) [some RL,a1,a2,a3,a4,some (.lst L),a6,a7,a8,a9,some B,some (.int top),a12,a13,a14,some FE,a16,a17]=.ok (.nx [some RL,a1,a2,a3,a4,some (.lst (L++[x])),a6,a7,a8,a9,some B,some (.int top),a12,a13,a14,some FE,a16,some (.int (x8 H top n))]):=by
 have hm:wI [.int top,.int (H-1-(n:Int))]=.ok (.int (x8 H top n)):=rfl;simp -implicitDefEqProofs only [sIf,zj,zl,zz,asB,eL,za,ze,zd,zb,eC,Yu,jYa,tE,tD,tP,tR,if_false,sS,he,hH,hl,hm,hQ]
def Ka (a1 a2 a3 a4 a6 a7 a8 a9 a12 a13 a14 a16 a17:Option D)(L:List D)(RL:D)(H:Int)(xs fs:List Rw)(hH:ixD RL (.str "height")=.ok (.int H))(hf:∀r∈fs,r.sp.length<=1000)(hn:fs.length<=1000)(hl:L.length<16777216):
  ∃z,ifX [some RL,a1,a2,a3,a4,some (.lst L),a6,a7,a8,a9,some (.lst ((yg (zf xs) 0).map zm)),some (.int (xq (zf xs) 0)),a12,a13,a14,some (.lst (fs.map zu)),a16,a17]=.ok (.nx [some RL,a1,a2,a3,a4,some (.lst (L++[x6 (uv H xs fs)])),a6,a7,a8,a9,some (.lst ((yg (zf xs) 0).map zm)),some (.int (xq (zf xs) 0)),a12,a13,a14,some (.lst (fs.map zu)),a16,z]):=by
 cases fs with
 | nil=>exact⟨a17,z1W _ _ _ _ _ _ _ _ _ _ _ _ _ _ _ _ _ _ _ _ KS (z0Z (Q7 _ _ _ _ _ _ _ _ _ _ _ _ _ _ _ _ _ _) hl)⟩
 | cons f fr =>
  have hu:=ji (f::fr) (x8 H (xq (zf xs) 0) (fr.length+1)+1) hf hn;have hln:x9 [.lst ((f::fr).map zu)]=.ok (.int ((fr.length+1:Nat):Int)):=by rw[u9,tI];rfl
  exact⟨_,z1X _ _ _ _ _ _ _ _ _ _ _ _ _ _ _ L RL _ _ _ H _ (fr.length+1) hH hln (J2 _ _) (z0Z (QP _ _ _ _ _ _ _ _ _ _ _ _ _ _ _ _ _ _ _ _ hu wu) hl)⟩
def smX:Tn->R D:=(zd vD (eL wB (za (yh [none] (yf (eSl (zb 1) jV (ya (zb 8)))) (.one 0) (fun _=>.ok true) (zd ixD (zb 0) (eC (.int 3)))) ze)) (zb 9))
def sl0 {ss:List Rw}{τ:Tn}{e:Nat}(h0:zb 1 τ=.ok (.lst (ss.map zC)))(h3:zb 8 τ=.ok (.int (e:Int)))(he:e<=ss.length):yf (eSl (zb 1) jV (ya (zb 8))) τ=.ok ((ss.take e).map zC):=by
 have e1:slD (.lst (ss.map zC)) none (some (e:Int))=.ok (.lst ((ss.take e).map zC)):=by
  have e2:uZ ss none (some (e:Int))=ss.take e:=by
   unfold uZ;rw[HT.sIx_nat,show HT.sIx ss.length 0 none=0 from rfl,pM,Nat.sub_zero];congr 1;omega
  rw[Yz (zY Vp ss),Qu,e2]
 unfold yf eSl ya jV;rw[h0,jYa,jYa,h3,jYa];dsimp only;rw[jYa,e1,jYa]
 rfl
def KJ {ss:List Rw}{e t:Nat}(a0 a2 a3 a4 a5 a6 a7 a10 a11 a12 a13 a14 a15 a16 a17:Option D)(he:e<=ss.length)(hn:ss.length<=1000)(ht:t<=mk ss e):smX [a0,some (.lst (ss.map zC)),a2,a3,a4,a5,a6,a7,some (.int (e:Int)),some (.int (t:Int)),a10,a11,a12,a13,a14,a15,a16,a17]=.ok (.int ((mk ss e-t:Nat):Int)):=by
 have h1:(eL wB (za (yh [none] (yf (eSl (zb 1) jV (ya (zb 8)))) (.one 0) (fun _=>.ok true) (zd ixD (zb 0) (eC (.int 3)))) ze)) [a0,some (.lst (ss.map zC)),a2,a3,a4,a5,a6,a7,some (.int (e:Int)),some (.int (t:Int)),a10,a11,a12,a13,a14,a15,a16,a17]=.ok (.int (mk ss e:Nat)):=by
  rw[mk,<-j5];exact eL1 (u0 (f:=fun s:Rw=>.int (s.m:Int)) (sl0 rfl rfl he) (by rw[sG];omega) rfl fun s _=>el3 s _) (Wf _ _)
 unfold smX;show ((_:R D)).bind _=_;rw[h1,jYa];show R.ok (D.int (((mk ss e:Nat):Int)-(t:Int)))=_;rw[show ((mk ss e:Nat):Int)-(t:Int)=((mk ss e-t:Nat):Int) by omega]
def Yg (F1:Tn->R Fl)(SM:Tn->R D)(F2 IX:Tn->R Fl):Tn->R Fl:=(zj (zl 10 (eL (fun ds=>.ok (.lst ds)) ze)) (zj (zl 11 (eC (.int 0))) (zj F1 (zj (zl 14 SM) (zj (zl 15 (eL (fun ds=>.ok (.lst ds)) ze)) (zj F2 (zj IX (zj (zl 6 (zb 8)) (zl 7 (xm (zb 14)))))))))))
def V5 (F1:Tn->R Fl)(SM:Tn->R D)(F2 IX:Tn->R Fl)(a0 a1 a2 a3 a4 a5 a6 a7 a8 a9 a10 a11 a12 a13 a14 a15 a16 a17 b5 b10 b11 b12 b13 b15 b16 b17:Option D)(e hi:Int)(h8:a8=some (.int e))
  (h1:F1 [a0,a1,a2,a3,a4,a5,a6,a7,a8,a9,some (.lst []),some (.int 0),a12,a13,a14,a15,a16,a17]=.ok (.nx [a0,a1,a2,a3,a4,a5,a6,a7,a8,a9,b10,b11,b12,b13,a14,a15,a16,a17]))
  (h2:SM [a0,a1,a2,a3,a4,a5,a6,a7,a8,a9,b10,b11,b12,b13,a14,a15,a16,a17]=.ok (.int hi))
  (h3:F2 [a0,a1,a2,a3,a4,a5,a6,a7,a8,a9,b10,b11,b12,b13,some (.int hi),some (.lst []),a16,a17]=.ok (.nx [a0,a1,a2,a3,a4,a5,a6,a7,a8,a9,b10,b11,b12,b13,some (.int hi),b15,b16,a17]))
  (h4:IX [a0,a1,a2,a3,a4,a5,a6,a7,a8,a9,b10,b11,b12,b13,some (.int hi),b15,b16,a17]=.ok (.nx [a0,a1,a2,a3,a4,b5,a6,a7,a8,a9,b10,b11,b12,b13,some (.int hi),b15,b16,b17])):
  Yg F1 SM F2 IX [a0,a1,a2,a3,a4,a5,a6,a7,a8,a9,a10,a11,a12,a13,a14,a15,a16,a17]=.ok (.nx [a0,a1,a2,a3,a4,b5,some (.int e),some (.int hi),a8,a9,b10,b11,b12,b13,some (.int hi),b15,b16,b17]):=by
 subst h8;unfold Yg;simp -implicitDefEqProofs only [zj,zl,eL,ze,zb,eC,yP,v8,jYa,tE,tD,tP,tR,h1,h2,h3,h4]
def Qy:Tn->R Fl:=(yn (iL jn (za (zb 6) (za (zb 8) ze))) (.one 12) qP)
def Q2:Tn->R Fl:=(yn (yf (eSl (zb 3) (ya (zb 7)) (ya (zb 14)))) (.one 16) ZG)
def z1S (a0 a1 a2 a3 a4 a5 a7 a9 a10 a11 a12 a13 a14 a15 a16 a17:Option D)(b e:Nat)(h:e<=1000)(h2:b<=e):(iL jn (za (zb 6) (za (zb 8) ze))) [a0,a1,a2,a3,a4,a5,some (.int (b:Int)),a7,some (.int (e:Int)),a9,a10,a11,a12,a13,a14,a15,a16,a17]=.ok (rng b (e-b)):=by
 have h1:jn [.int (b:Int),.int (e:Int)]=.ok (rng b (e-b)):=by
  rw[XB (by omega) (by omega) (by omega) (by omega),show ((e:Int)-(b:Int)).toNat=e-b by omega]
 simp -implicitDefEqProofs only [iL,za,ze,zb,jYa,tE,tD,h1]
def z26 (a0 a1 a2 a4 a5 a6 a8 a9 a10 a11 a12 a13 a15 a16 a17:Option D)(N:D)(lo hi:Int)(X:List D)(h:slD N (some lo) (some hi)=.ok (.lst X)):(yf (eSl (zb 3) (ya (zb 7)) (ya (zb 14)))) [a0,a1,a2,some N,a4,a5,a6,some (.int lo),a8,a9,a10,a11,a12,a13,some (.int hi),a15,a16,a17]=.ok X:=by
 simp -implicitDefEqProofs only [yf,eSl,ya,WT,zb,jYa,tE,tD,h]
def UO {ss:List Rw}{ns:List (List Rw)}(G:Gd ss ns){RL:D}{H:Int}(hH:ixD RL (.str "height")=.ok (.int H)){x:Span}(X:SpOk ss x)(L:List D)(hL:L.length<16777216)(LV:D)(a10 a11 a12 a13 a14 a15 a16 a17:Option D):
  ∃z10 z11 z12 z13 z14 z15 z16 z17,Yg Qy smX Q2 ifX [some RL,some (.lst (ss.map zC)),some (.lst (ss.map zu)),some (.lst (ns.map zI)),some LV,some (.lst L),some (.int (x.b:Int)),some (.int ((mk ss x.b-x.a:Nat):Int)),some (.int (x.e:Int)),some (.int (x.t:Int)),a10,a11,a12,a13,a14,a15,a16,a17]=.ok (.nx [some RL,some (.lst (ss.map zC)),some (.lst (ss.map zu)),some (.lst (ns.map zI)),some LV,some (.lst (L++[x6 (xW H ss ns x)])),some (.int (x.e:Int)),some (.int ((mk ss x.e-x.t:Nat):Int)),some (.int (x.e:Int)),some (.int (x.t:Int)),z10,z11,z12,z13,z14,z15,z16,z17]):=by
 have hn:=G.hn;have hm:=G.hm;have h40:=G.n40;have hbe:=X.be;have hen:=X.en;have ha:=X.a;have ht:=X.t;have mm:=vc (ss:=ss) (rK hbe);have mn:=vc (ss:=ss) hen;have hk:∀n∈wW ns (mk ss x.b-x.a) (mk ss x.e-x.t),n≠[]/\n.length<=3/\∀r∈n,r.h=1/\r.sp.length<=10:=fun n hm=>G.hk n (qF hm);have hc:=Zq ns (b:=mk ss x.b-x.a) (e:=mk ss x.e-x.t) (by omega) (by omega);have hs:=z0C ns (b:=mk ss x.b-x.a) (e:=mk ss x.e-x.t) (by omega) (by omega);unfold xW;generalize wW ns (mk ss x.b-x.a) (mk ss x.e-x.t)=O at *;have hfl:O.flatten.length<=3*O.length:=by
  clear hs hc
  induction O with
  | nil=>exact tM _
  | cons n O ih =>
   have h1:=ih fun y hy=>hk y (tG _ hy);have h2:=(hk n tF).2.1;rw[rC,tK,tL];omega
 have hfr:∀r∈O.flatten,r.sp.length<=1000:=fun r hr=>by
  obtain⟨n,hn,hr⟩:=List.mem_flatten.mp hr;have:=((hk n hn).2.2 r hr).2;omega
 obtain⟨p',q',h1⟩:=z0X (ss:=ss) hbe hen (by omega) (fun r hr=>by have:=(G.hs r hr).1;omega) (some RL) (some (.lst (ns.map zI))) (some LV) (some (.lst L)) (some (.int ((mk ss x.b-x.a:Nat):Int))) (some (.int (x.e:Int))) (some (.int (x.t:Int))) a14 a15 a16 a17 a12 a13;obtain⟨q3,h3⟩:=z0S (some RL) (some (.lst (ss.map zC))) (some (.lst (ss.map zu))) (some (.lst (ns.map zI))) (some LV) (some (.lst L)) (some (.int (x.b:Int))) (some (.int ((mk ss x.b-x.a:Nat):Int))) (some (.int (x.e:Int))) (some (.int (x.t:Int))) (some (.lst ((yg (zf (cut ss x.b x.e)) 0).map zm))) (some (.int (xq (zf (cut ss x.b x.e)) 0))) p' q' (some (.int ((mk ss x.e-x.t:Nat):Int))) a17 O [] a16 (fun n hn=>by have:=(hk n hn).2.1;omega) (by show 0+_<=_;omega);rw[tU]at h3;obtain⟨z,h4⟩:=Ka (some (.lst (ss.map zC))) (some (.lst (ss.map zu))) (some (.lst (ns.map zI))) (some LV) (some (.int (x.b:Int))) (some (.int ((mk ss x.b-x.a:Nat):Int))) (some (.int (x.e:Int))) (some (.int (x.t:Int))) p' q' (some (.int ((mk ss x.e-x.t:Nat):Int))) q3 a17 L RL H (cut ss x.b x.e) O.flatten hH hfr (by omega) hL;exact⟨_,_,_,_,_,_,_,_,V5 Qy smX Q2 ifX _ _ _ _ _ _ _ _ _ _ _ _ _ _ _ _ _ _ _ _ _ _ _ _ _ _ (x.e:Int) ((mk ss x.e-x.t:Nat):Int) rfl (yO (z1S _ _ _ _ _ _ _ _ _ _ _ _ _ _ _ _ x.b x.e (by omega) (by omega)) h1) (KJ _ _ _ _ _ _ _ _ _ _ _ _ _ _ _ hen (by omega) (by omega)) (yO (z26 _ _ _ _ _ _ _ _ _ _ _ _ _ _ _ _ _ _ _ hs) h3) h4⟩
theorem z1E {ss:List Rw}{ns:List (List Rw)}(G:Gd ss ns){RL:D}{H:Int}(hH:ixD RL (.str "height")=.ok (.int H))(LV:D):∀(ls:List (Nat×Nat)) (b a:Nat) (L:List D) (a8 a9 a10 a11 a12 a13 a14 a15 a16 a17:Option D),(∀x∈spn ls b a,SpOk ss x)->L.length+ls.length<16777216 ->
  ∃z6 z7 z8 z9 z10 z11 z12 z13 z14 z15 z16 z17,yl (Tgt.many [8,9]).asg (Yg Qy smX Q2 ifX) (ls.map xG) [some RL,some (.lst (ss.map zC)),some (.lst (ss.map zu)),some (.lst (ns.map zI)),some LV,some (.lst L),some (.int (b:Int)),some (.int ((mk ss b-a:Nat):Int)),a8,a9,a10,a11,a12,a13,a14,a15,a16,a17]=.ok (.nx [some RL,some (.lst (ss.map zC)),some (.lst (ss.map zu)),some (.lst (ns.map zI)),some LV,some (.lst (L++((spn ls b a).map (xW H ss ns)).map x6)),z6,z7,z8,z9,z10,z11,z12,z13,z14,z15,z16,z17])
 | [],b,a,L,a8,a9,a10,a11,a12,a13,a14,a15,a16,a17,_,_=>⟨_,_,_,_,_,_,_,_,_,_,_,_,by
  show R.ok _=_;rw[show ((spn [] b a).map (xW H ss ns)).map x6=[] from rfl,tQ]⟩
 | p::ls,b,a,L,a8,a9,a10,a11,a12,a13,a14,a15,a16,a17,hX,hl=>by
  have hl:L.length+(ls.length+1)<16777216:=hl;obtain⟨z10,z11,z12,z13,z14,z15,z16,z17,h1⟩:=UO G hH (hX _ tF) L (by omega) LV a10 a11 a12 a13 a14 a15 a16 a17;obtain⟨y6,y7,y8,y9,y10,y11,y12,y13,y14,y15,y16,y17,h2⟩:=z1E G hH LV ls p.1 p.2 (L++[x6 (xW H ss ns ⟨b,p.1,a,p.2⟩)]) (some (.int (p.1:Int))) (some (.int (p.2:Int))) z10 z11 z12 z13 z14 z15 z16 z17 (fun x hx=>hX x (tG _ hx)) (by rw[tK];show L.length+1+_<_;omega);refine⟨y6,y7,y8,y9,y10,y11,y12,y13,y14,y15,y16,y17,?_⟩;rw[tJ,yc];have ha:(Tgt.many [8,9]).asg (xG p) [some RL,some (.lst (ss.map zC)),some (.lst (ss.map zu)),some (.lst (ns.map zI)),some LV,some (.lst L),some (.int (b:Int)),some (.int ((mk ss b-a:Nat):Int)),a8,a9,a10,a11,a12,a13,a14,a15,a16,a17]=.ok [some RL,some (.lst (ss.map zC)),some (.lst (ss.map zu)),some (.lst (ns.map zI)),some LV,some (.lst L),some (.int (b:Int)),some (.int ((mk ss b-a:Nat):Int)),some (.int (p.1:Int)),some (.int (p.2:Int)),a10,a11,a12,a13,a14,a15,a16,a17]:=rfl;rw[ha,jYa];rw[h1,jYa,yI,h2,tO]
  rfl
def z09 (F:Tn->R Fl)(RL S RR N LV x:D)(z6 z7 z8 z9 z10 z11 z12 z13 z14 z15 z16 z17:Option D)(h:F [some RL,some S,some RR,some N,some LV,some (.lst []),some (.int 0),some (.int 0),none,none,none,none,none,none,none,none,none,none]=.ok (.nx [some RL,some S,some RR,some N,some LV,some x,z6,z7,z8,z9,z10,z11,z12,z13,z14,z15,z16,z17])):zF 18 (zj (zl 5 (eL (fun ds=>.ok (.lst ds)) ze)) (zj (zl 6 (eC (.int 0))) (zj (zl 7 (eC (.int 0))) (zj F (zB (zb 5)))))) [RL,S,RR,N,LV]=.ok x:=by
 simp -implicitDefEqProofs only [zF,zj,zl,zB,eL,ze,zb,eC,jYa,tJ,sP,tL,sA,tY,tZ,sD,tU,Nat.reduceAdd,Nat.reduceSub,sM,tE,tD,tP,tR,h]
def z0b {ss:List Rw}{ns:List (List Rw)}(G:Gd ss ns){RL:D}{H:Int}(hH:ixD RL (.str "height")=.ok (.int H)){ls:List (Nat×Nat)}(hl:ls.length<=1000)(hX:∀x∈spn ls 0 0,SpOk ss x):
  xb [RL,.lst (ss.map zC),.lst (ss.map zu),.lst (ns.map zI),.lst (ls.map xG)]=.ok (.lst (((spn ls 0 0).map (xW H ss ns)).map x6)):=by
 obtain⟨z6,z7,z8,z9,z10,z11,z12,z13,z14,z15,z16,z17,h⟩:=z1E G hH (.lst (ls.map xG)) ls 0 0 [] none none none none none none none none none none hX (by show 0+_<_;omega);rw[tU]at h;have hT:xb=zF 18 (zj (zl 5 (eL (fun ds=>.ok (.lst ds)) ze)) (zj (zl 6 (eC (.int 0))) (zj (zl 7 (eC (.int 0))) (zj (yn (yf (zb 4)) (.many [8,9]) (Yg Qy smX Q2 ifX)) (zB (zb 5)))))):=rfl;rw[hT];exact z09 _ _ _ _ _ _ _ _ _ _ _ _ _ _ _ _ _ _ _ (yO (iS rfl) h)
def eqP (n:Nat)(s:Spt):eqF (n+1) (zm s) (zm s)=some true:=by
 refine ub n fun d hd=>?_;simp only[tV,rH,or_false]at hd;rcases hd with rfl|rfl|rfl
 ·rw[v7];simp
 ·rw[v7];simp
 ·rw[Xs];simp
def z0n (n:Nat)(xs:List Spt):eqF (n+2) (.lst (xs.map zm)) (.lst (xs.map zm))=some true:=
 v9 (n+1) fun d hd=>by
  obtain⟨s,_,rfl⟩:=rF.mp hd;exact eqP n s
def eqG (n:Nat)(p:Pg):eqF (n+3) (x6 p) (x6 p)=some true:=by
 refine ub (n+2) fun d hd=>?_;simp only[tV,rH,or_false]at hd;rcases hd with rfl|rfl|rfl
 ·exact z0n n _
 ·cases p.rule with
  | none=>exact QE _
  | some i =>
   show eqF _ (.int i) (.int i)=_;rw[v7];simp
 ·exact z0n n _
def z1L (ps:List Pg):eqF 12 (.lst (ps.map x6)) (.lst (ps.map x6))=some true:=
 v9 11 fun d hd=>by
  obtain⟨p,_,rfl⟩:=rF.mp hd;exact eqG 8 p
def Wy:Tn->R D:=(yh [none] (yf (zd zw (zd ixD (zb 2) (eC (.int 0))) (zd ixD (zb 2) (eC (.int 2))))) (.one 0) (fun _=>.ok true) (eUn (wD "tuple") (zb 0)))
def qO (C:Tn->R D):Tn->R Fl:=(zj (sIf (bOr (xJ (zz (eUn (wD "tuple") (zb 2)))) (bOr (xJ (zz (eUn (wD "list") (zd ixD (zb 2) (eC (.int 0)))))) (xJ (zz (eUn (wD "list") (zd ixD (zb 2) (eC (.int 2)))))))) (zB (eC (.bl false))) yi) (sIf (bOr (zz (eUn (wD "bool") (zd ixD (zb 2) (eC (.int 1))))) (xJ (zz (eL ug (za C ze))))) (zB (eC (.bl false))) yi))
def g0 (p:Pg):ixD (x6 p) (.int 0)=.ok (.lst (p.body.map zm)):=wu
def g1 (p:Pg):ixD (x6 p) (.int 1)=.ok (vf p.rule):=vg
def g2 (p:Pg):ixD (x6 p) (.int 2)=.ok (.lst (p.foot.map zm)):=qR
def bRt (C:Tn->R D)(a b:Option D)(P X Y r Q:D)(x0:ixD P (.int 0)=.ok X)(x1:ixD P (.int 1)=.ok r)(x2:ixD P (.int 2)=.ok Y)(i0:wD "tuple" P=.ok (.bl true))(i1:wD "list" X=.ok (.bl true))(i2:wD "list" Y=.ok (.bl true))(i3:wD "bool" r=.ok (.bl false))(hC:C [a,b,some P]=.ok Q)(hQ:ug [Q]=.ok (.bl true)):qO C [a,b,some P]=.ok (.nx [a,b,some P]):=by
 unfold qO;simp -implicitDefEqProofs only [zj,sIf,yi,bOr,xJ,zz,asB,eUn,eL,za,ze,zd,zb,eC,jYa,tE,tD,if_false,sS,rQ,x0,x1,x2,i0,i1,i2,i3,hC,hQ]
def z1o (a b:Option D)(P X Y Z:D)(x0:ixD P (.int 0)=.ok X)(x2:ixD P (.int 2)=.ok Y)(h:zw X Y=.ok Z):(zd zw (zd ixD (zb 2) (eC (.int 0))) (zd ixD (zb 2) (eC (.int 2)))) [a,b,some P]=.ok Z:=by
 simp -implicitDefEqProofs only [zd,zb,eC,jYa,tE,tD,x0,x2,h]
def Ur (a b:Option D)(p:Pg)(h:p.body.length+p.foot.length<=100000):Wy [a,b,some (x6 p)]=.ok (.lst ((p.body++p.foot).map fun _=>.bl true)):=by
 unfold Wy;exact u0 (enc:=zm) (f:=fun _=>.bl true) (iS (z1o _ _ _ _ _ _ (g0 p) (g2 p) (Vk p.body p.foot (by omega)))) (by rw[tK];omega) rfl fun s _=>rfl
def Yx (xs:List Spt):ug [.lst (xs.map fun _=>.bl true)]=.ok (.bl true):=by
 have:=UD (bs:=xs.map fun _=>true);rw[rO]at this;refine this.trans ?_;rw[show (xs.map fun _=>true).all id=true by rw[rZ];intro x hx;obtain⟨_,_,rfl⟩:=rF.mp hx;rfl]
theorem z1k (a b:Option D):∀(ps:List Pg) (q:Option D),(∀p∈ps,p.body.length+p.foot.length<=100000)->∃q',yl (Tgt.one 2).asg (qO Wy) (ps.map x6) [a,b,q]=.ok (.nx [a,b,q'])
 | [],q,_=>⟨q,rfl⟩
 | p::ps,q,h=>by
  obtain⟨q',e⟩:=z1k a b ps (some (x6 p)) fun x hx=>h x (tG _ hx);refine⟨q',?_⟩;have i3:wD "bool" (vf p.rule)=.ok (.bl false):=by cases p.rule<;>rfl
  rw[tJ,yc];show (qO Wy [a,b,some (x6 p)]).bind _=_;rw[bRt Wy a b (x6 p) _ _ _ _ (g0 p) (g1 p) (g2 p) rfl rfl rfl i3 (Ur a b p (h p tF)) (Yx _),jYa,yI,e]
def z0a (F:Tn->R Fl)(X:D)(q':Option D)(h0:wD "list" X=.ok (.bl true))(h1:eqR true X X=.ok (.bl false))(h:F [some X,some X,none]=.ok (.nx [some X,some X,q'])):zF 3 (zj (sIf (bOr (xJ (zz (eUn (wD "list") (zb 0)))) (zz (zd (eqR true) (zb 0) (zb 1)))) (zB (eC (.bl false))) yi) (zj F (zB (eC (.bl true))))) [X,X]=.ok (.bl true):=by
 simp -implicitDefEqProofs only [yi,zF,zj,zB,sIf,zb,eC,zd,eUn,zz,bOr,xJ,asB,jYa,tJ,sP,tL,sA,tY,tZ,sD,tU,tE,tD,Nat.reduceAdd,Nat.reduceSub,sM,if_false,sS,rQ,h0,h1,h]
def Vr (ps:List Pg)(h:∀p∈ps,p.body.length+p.foot.length<=100000):ye [.lst (ps.map x6),.lst (ps.map x6)]=.ok (.bl true):=by
 obtain⟨q',e⟩:=z1k (some (.lst (ps.map x6))) (some (.lst (ps.map x6))) ps none h;have hT:ye=zF 3 (zj (sIf (bOr (xJ (zz (eUn (wD "list") (zb 0)))) (zz (zd (eqR true) (zb 0) (zb 1)))) (zB (eC (.bl false))) yi) (zj (yn (yf (zb 0)) (.one 2) (qO Wy)) (zB (eC (.bl true))))):=rfl;rw[hT];exact z0a _ _ _ rfl (Qt (fun ks xs z=>nomatch z) (z1L ps)) (yO (iS rfl) e)
def vn (z:Str):Str:=(Txt.partition z ".").1
def Ux (z:Str)(h:z.length<=16777216):∃d,yK z [.str "."]=.ok d/\ixD d (.int 0)=.ok (.str (vn z)):=by
 have h1:yK z [.str "."]=.ok (.tup ((kc z ".").map D.str)):=if_pos ⟨rfl,by rw[sizeLine_eq];exact h⟩;exact⟨_,h1,wu⟩
def j7 (f:Int->Str)(ts:List Int):D:=.dic (ts.map Key.inl) (ts.map fun t=>.str (f t))
theorem YE (f:Int->Str)(t:Int):∀ts:List Int,lookD (ts.map Key.inl) (ts.map fun t=>D.str (f t)) (Key.inl t)=if t∈ts then some (.str (f t)) else none
 | []=>by simp[lookD]
 | u::ts=>by
  rw[tJ,tJ];unfold lookD
  by_cases h:u=t
  ·rw[if_pos (by rw[h]),if_pos (by rw[h];exact tF),h]
  ·rw[if_neg (fun z=>h (Key.inl.inj z)),YE f t ts];have:(t∈u::ts)↔t∈ts:=by
    rw[tV];exact⟨fun z=>z.elim (fun z=>absurd z.symm h) id,.inr⟩
   simp only[this]
def z1u (f:Int->Str)(t:Int)(ts:List Int)(h:t∉ts):D.dic (xI (ts.map Key.inl) (ts.map fun t=>D.str (f t)) (Key.inl t) (.str (f t))).1 (xI (ts.map Key.inl) (ts.map fun t=>D.str (f t)) (Key.inl t) (.str (f t))).2=j7 f (ts++[t]):=by
 unfold xI j7;rw[if_neg (fun z=>by obtain⟨u,hu,e⟩:=rF.mp z;cases e;exact h hu),sL,sL]
 rfl
def z1w {f:Int->Str}{ts:List Int}{tk ty:Tn->R D}{u:Tn->R Bool}{t2:Tn->R Fl}{t1:Tn->R Fl}{t:Int}(a0 a1 a2 a3 a4 a5 a6 a8 a9 a10 a11 a12:Option D)(hl:ts.length<16777216)(hk:tk [a0,a1,a2,a3,a4,a5,a6,some (j7 f ts),a8,a9,a10,a11,a12]=.ok (.int t))(hy:∀w,ty [a0,a1,a2,a3,a4,a5,a6,w,a8,a9,a10,a11,a12]=.ok (.str (f t)))(hu:∀w,u [a0,a1,a2,a3,a4,a5,a6,w,a8,a9,a10,a11,a12]=.ok false)(h2:∀τ,t2 τ=.ok (.nx τ)):
  ∃ts',(ts'.length<=ts.length+1)/\vS 7 tk ty ty u t1 t2 [a0,a1,a2,a3,a4,a5,a6,some (j7 f ts),a8,a9,a10,a11,a12]=.ok (.nx [a0,a1,a2,a3,a4,a5,a6,some (j7 f ts'),a8,a9,a10,a11,a12]):=by
 have hg:∀w,jM ty u t1 t2 (f t) [a0,a1,a2,a3,a4,a5,a6,w,a8,a9,a10,a11,a12]=.ok (.nx [a0,a1,a2,a3,a4,a5,a6,w,a8,a9,a10,a11,a12]):=fun w=>by
  unfold jM;rw[hy,jYa];dsimp only;rw[if_pos rfl,hu,jYa,if_neg tH,h2]
 have hv:zb 7 [a0,a1,a2,a3,a4,a5,a6,some (j7 f ts),a8,a9,a10,a11,a12]=.ok (j7 f ts):=rfl;have hlen:(ts.map Key.inl).length<sizeLine:=by rw[tI,sizeLine_eq];exact hl
 have hko:keyOf (.int t)=some (.inl t):=rfl
 by_cases hm:t∈ts
 ·refine⟨ts,Nat.le_succ _,?_⟩;have hlk:=YE f t ts;rw[if_pos hm]at hlk;unfold vS;rw[hv,jYa];show ((tk _).bind fun k=>_)=_;rw[hk,jYa,hy,jYa,hko];dsimp only;rw[if_pos hlen,hlk];exact hg _
 ·refine⟨ts++[t],by rw[tK];exact tM _,?_⟩;have hlk:=YE f t ts;rw[if_neg hm]at hlk;unfold vS;rw[hv,jYa];show ((tk _).bind fun k=>_)=_;rw[hk,jYa,hy,jYa,hko];dsimp only;rw[if_pos hlen,hlk];dsimp only;rw[z1u f t ts hm];exact hg _
def XC (SI:Tn->R Fl):Tn->R Fl:=(zj (xH 3 (xm (zd ixD (zb 8) (eC (.int 2))))) (zj (zl 9 (zd ixD (eSm yK (zd ixD (zb 8) (eC (.int 2))) (za (eC (.str ".")) ze)) (eC (.int 0)))) SI))
def siX:Tn->R Fl:=(vS 7 (zd ixD (zb 8) (eC (.int 0))) (zb 9) (zb 9) (zz (zd (eqR false) (zd ixD (zb 8) (eC (.int 0))) (zb 5))) (zB (eC (.bl false))) yi)
def bS (SI:Tn->R Fl)(a0 a1 a2 a4 a5 a6 a7 a9 a10 a11 a12:Option D)(P pd:D)(z nm:Str)(L:List D)(w:Tn)(hl:L.length<16777216)(x2:ixD P (.int 2)=.ok (.str z))(hp:yK z [.str "."]=.ok pd)(hn:ixD pd (.int 0)=.ok (.str nm))(hS:SI [a0,a1,a2,some (.lst (L++[.str z])),a4,a5,a6,a7,some P,some (.str nm),a10,a11,a12]=.ok (.nx w)):
  XC SI [a0,a1,a2,some (.lst L),a4,a5,a6,a7,some P,a9,a10,a11,a12]=.ok (.nx w):=by
 have ha:∀(τ:Tn) (d:D),qc 3 τ L d=.ok (.nx (τ.set 3 (some (.lst (L++[d]))))):=fun τ d=>if_pos (by rw[sizeLine_eq];exact hl);unfold XC;simp -implicitDefEqProofs only [zj,zl,xN,xP,yP,UG,eSm,za,ze,zd,zb,eC,jYa,tE,tD,tP,tR,ha,x2,hp,hn,hS]
theorem z0l (f:Int->Str)(r:Option Int)(a0 a1 a2 a4 a6 a10 a11 a12:Option D):∀(xs:List Spt) (L:List D) (ts:List Int) (a8 a9:Option D),(∀s∈xs,vn s.x=f s.t/\r≠some s.t/\s.x.length<=16777216)->L.length+xs.length<16777216->ts.length+xs.length<16777216 ->
  ∃z7 z8 z9,yl (Tgt.one 8).asg (XC siX) (xs.map zm) [a0,a1,a2,some (.lst L),a4,some (vf r),a6,some (j7 f ts),a8,a9,a10,a11,a12]=.ok (.nx [a0,a1,a2,some (.lst (L++xs.map fun s=>.str s.x)),a4,some (vf r),a6,z7,z8,z9,a10,a11,a12])
 | [],L,ts,a8,a9,_,_,_=>⟨_,_,_,by
  show R.ok _=_;rw[sP,tQ]⟩
 | s::xs,L,ts,a8,a9,h,hL,hts=>by
  have hL:L.length+(xs.length+1)<16777216:=hL;have hts:ts.length+(xs.length+1)<16777216:=hts;obtain⟨h1,h2,h3⟩:=h s tF;obtain⟨pd,e1,e2⟩:=Ux s.x h3;have hk:∀(a b c d e f g i j k l:Option D),(zd ixD (zb 8) (eC (.int 0))) [a,b,c,d,e,f,g,i,some (zm s),j,k,l,none]=.ok (.int s.t):=fun _ _ _ _ _ _ _ _ _ _ _=>ixC rfl (p0 s);have hu:eqR false (.int s.t) (vf r)=.ok (.bl false):=by
   cases r with
   | none=>exact UU
   | some i =>
    show eqR false (.int s.t) (.int i)=_;rw[Ys];have:¬s.t=i:=fun z=>h2 (by rw[z]);simp[this]
  obtain⟨ts',l',hS⟩:=z1w (f:=f) (ts:=ts) (tk:=(zd ixD (zb 8) (eC (.int 0)))) (ty:=zb 9) (u:=(zz (zd (eqR false) (zd ixD (zb 8) (eC (.int 0))) (zb 5)))) (t1:=(zB (eC (.bl false)))) (t2:=yi) (t:=s.t) a0 a1 a2 (some (.lst (L++[.str s.x]))) a4 (some (vf r)) a6 (some (zm s)) (some (.str (vn s.x))) a10 a11 a12 (by omega) (ixC rfl (p0 s)) (fun w=>by rw[<-h1];rfl) (fun w=>by
   have hx:=p0 s;generalize zm s=P at *;generalize vf r=O at *;simp -implicitDefEqProofs only [zz,asB,zd,zb,eC,jYa,tE,tD,hx,hu]) (fun τ=>rfl)
  obtain⟨z7,z8,z9,e⟩:=z0l f r a0 a1 a2 a4 a6 a10 a11 a12 xs (L++[.str s.x]) ts' (some (zm s)) (some (.str (vn s.x))) (fun x hx=>h x (tG _ hx)) (by rw[tK];show L.length+1+_<_;omega) (by omega);refine⟨z7,z8,z9,?_⟩;have hB:=bS siX a0 a1 a2 a4 (some (vf r)) a6 (some (j7 f ts)) a9 a10 a11 a12 (zm s) pd s.x (vn s.x) L _ (by omega) (p2 s) e1 e2 hS;have ha:(Tgt.one 8).asg (zm s) [a0,a1,a2,some (.lst L),a4,some (vf r),a6,some (j7 f ts),a8,a9,a10,a11,a12]=.ok [a0,a1,a2,some (.lst L),a4,some (vf r),a6,some (j7 f ts),some (zm s),a9,a10,a11,a12]:=rfl;rw[tJ,yc,ha,jYa,hB,jYa,yI,e,tO]
  rfl
structure PgOk (p:Pg):Prop where
 own:∃f:Int->Str,∀s∈p.body++p.foot,vn s.x=f s.t/\p.rule≠some s.t/\s.x.length<=16777216
 up:∀r,p.rule=some r->(∀s∈p.body,s.t<r)/\∀s∈p.foot,r<s.t
 len:p.body.length+p.foot.length<=1000
def Vl:Tn->R D:=(yh [none,some 5] (yf (zb 4)) (.one 0) (fun _=>.ok true) (zd ltD (zd ixD (zb 0) (eC (.int 0))) (zb 1)))
def Vw:Tn->R D:=(yh [none,some 5] (yf (zb 6)) (.one 0) (fun _=>.ok true) (zd gtD (zd ixD (zb 0) (eC (.int 0))) (zb 1)))
def ltE (s:Spt)(r:Int)(h:s.t<r):(zd ltD (zd ixD (zb 0) (eC (.int 0))) (zb 1)) [some (zm s),some (.int r)]=.ok (.bl true):=by
 have hx:=p0 s;have hl:ltD (.int s.t) (.int r)=.ok (.bl true):=by show R.ok (D.bl (decide (s.t<r)))=_;rw[decide_eq_true h]
 generalize zm s=P at *;simp -implicitDefEqProofs only [zd,zb,eC,jYa,tE,tD,hx,hl]
def gtE (s:Spt)(r:Int)(h:r<s.t):(zd gtD (zd ixD (zb 0) (eC (.int 0))) (zb 1)) [some (zm s),some (.int r)]=.ok (.bl true):=by
 have hx:=p0 s;have hl:gtD (.int s.t) (.int r)=.ok (.bl true):=by show R.ok (D.bl (decide (r<s.t)))=_;rw[decide_eq_true h]
 generalize zm s=P at *;simp -implicitDefEqProofs only [zd,zb,eC,jYa,tE,tD,hx,hl]
def Uw (a0 a1 a2 a3 a6 a7 a8 a9 a10 a11 a12:Option D)(xs:List Spt)(r:Int)(hl:xs.length<=1000)(h:∀s∈xs,s.t<r):Vl [a0,a1,a2,a3,some (.lst (xs.map zm)),some (.int r),a6,a7,a8,a9,a10,a11,a12]=.ok (.lst (xs.map fun _=>.bl true)):=by
 unfold Vl;exact u0 (enc:=zm) (f:=fun _=>.bl true) (iS rfl) (by omega) rfl fun s hs=>ltE s r (h s hs)
def Qo (a0 a1 a2 a3 a4 a7 a8 a9 a10 a11 a12:Option D)(xs:List Spt)(r:Int)(hl:xs.length<=1000)(h:∀s∈xs,r<s.t):Vw [a0,a1,a2,a3,a4,some (.int r),some (.lst (xs.map zm)),a7,a8,a9,a10,a11,a12]=.ok (.lst (xs.map fun _=>.bl true)):=by
 unfold Vw;exact u0 (enc:=zm) (f:=fun _=>.bl true) (iS rfl) (by omega) rfl fun s hs=>gtE s r (h s hs)
def ifU (C:Tn->R D):Tn->R Fl:=(sIf (YT (zz (zd (isN true) (zb 5) (eC .non))) (xJ (zz (eL ug (za C ze))))) (zB (eC (.bl false))) yi)
def VA (C:Tn->R D)(a0 a1 a2 a3 a4 a6 a7 a8 a9 a10 a11 a12:Option D)(r:Option Int)(h:∀i,r=some i->∃Q,C [a0,a1,a2,a3,a4,some (.int i),a6,a7,a8,a9,a10,a11,a12]=.ok Q/\ug [Q]=.ok (.bl true)):ifU C [a0,a1,a2,a3,a4,some (vf r),a6,a7,a8,a9,a10,a11,a12]=.ok (.nx [a0,a1,a2,a3,a4,some (vf r),a6,a7,a8,a9,a10,a11,a12]):=by
 cases r with
 | none =>
  have h0:isN true .non .non=.ok (.bl false):=rfl;show ifU C [a0,a1,a2,a3,a4,some .non,a6,a7,a8,a9,a10,a11,a12]=.ok (.nx [a0,a1,a2,a3,a4,some .non,a6,a7,a8,a9,a10,a11,a12]);unfold ifU;simp -implicitDefEqProofs only [sIf,yi,YT,xJ,zz,asB,eL,za,ze,zd,zb,eC,jYa,tE,tD,if_false,sS,h0]
 | some i =>
  obtain⟨Q,h1,h2⟩:=h i rfl;have h0:isN true (.int i) .non=.ok (.bl true):=rfl;show ifU C [a0,a1,a2,a3,a4,some (.int i),a6,a7,a8,a9,a10,a11,a12]=.ok (.nx [a0,a1,a2,a3,a4,some (.int i),a6,a7,a8,a9,a10,a11,a12]);unfold ifU;simp -implicitDefEqProofs only [sIf,yi,YT,xJ,zz,asB,eL,za,ze,zd,zb,eC,jYa,tE,tD,if_true,if_false,sS,rQ,h0,h1,h2]
def qI (FS I1 I2:Tn->R Fl):Tn->R Fl:=(zj (zl 7 (eC (.dic [] []))) (zj FS (zj I1 I2)))
def bPg (FS I1 I2:Tn->R Fl)(a0 a1 a2 a3 a4 a5 a6 a7 a8 a9 a10 a11 a12:Option D)(t1 t2 t3:Tn)(h1:FS [a0,a1,a2,a3,a4,a5,a6,some (.dic [] []),a8,a9,a10,a11,a12]=.ok (.nx t1))(h2:I1 t1=.ok (.nx t2))(h3:I2 t2=.ok (.nx t3)):qI FS I1 I2 [a0,a1,a2,a3,a4,a5,a6,a7,a8,a9,a10,a11,a12]=.ok (.nx t3):=by
 unfold qI;simp -implicitDefEqProofs only [zj,zl,eC,jYa,tP,tR,h1,h2,h3]
def Kw:Tn->R Fl:=(yn (yf (zd zw (zb 4) (zb 6))) (.one 8) (XC siX))
def z0E (a0 a1 a2 a3 a5 a7 a8 a9 a10 a11 a12:Option D)(X Y:D)(Z:List D)(h:zw X Y=.ok (.lst Z)):(yf (zd zw (zb 4) (zb 6))) [a0,a1,a2,a3,some X,a5,some Y,a7,a8,a9,a10,a11,a12]=.ok Z:=by
 simp -implicitDefEqProofs only [yf,WT,zd,zb,jYa,tE,tD,h]
def txP (p:Pg):List D:=(p.body++p.foot).map fun s=>.str s.x
def Q9 (p:Pg)(P:PgOk p)(a0 a1 a2 a7 a8 a9 a10 a11 a12:Option D)(L:List D)(hl:L.length+1000<16777216):
  ∃z7 z8 z9,qI Kw (ifU Vl) (ifU Vw) [a0,a1,a2,some (.lst L),some (.lst (p.body.map zm)),some (vf p.rule),some (.lst (p.foot.map zm)),a7,a8,a9,a10,a11,a12]=.ok (.nx [a0,a1,a2,some (.lst (L++txP p)),some (.lst (p.body.map zm)),some (vf p.rule),some (.lst (p.foot.map zm)),z7,z8,z9,a10,a11,a12]):=by
 obtain⟨f,hf⟩:=P.own;have hlen:=P.len;obtain⟨z7,z8,z9,h1⟩:=z0l f p.rule a0 a1 a2 (some (.lst (p.body.map zm))) (some (.lst (p.foot.map zm))) a10 a11 a12 (p.body++p.foot) L [] a8 a9 hf (by rw[tK];omega) (by rw[tK];show 0+_<_;omega);refine⟨z7,z8,z9,bPg _ _ _ _ _ _ _ _ _ _ _ _ _ _ _ _ _ _ _ (yO (z0E _ _ _ _ _ _ _ _ _ _ _ _ _ _ (Vk p.body p.foot (by omega))) h1) (VA _ _ _ _ _ _ _ _ _ _ _ _ _ p.rule fun i hi=>?_) (VA _ _ _ _ _ _ _ _ _ _ _ _ _ p.rule fun i hi=>?_)⟩
 ·exact⟨_,Uw _ _ _ _ _ _ _ _ _ _ _ p.body i (by omega) (P.up i hi).1,Yx _⟩
 ·exact⟨_,Qo _ _ _ _ _ _ _ _ _ _ _ p.foot i (by omega) (P.up i hi).2,Yx _⟩
theorem z1G (a0 a1 a2 a10 a11 a12:Option D):∀(ps:List Pg) (L:List D) (a4 a5 a6 a7 a8 a9:Option D),(∀p∈ps,PgOk p)->L.length+1000*ps.length<16776000 ->
  ∃z4 z5 z6 z7 z8 z9,yl (Tgt.many [4,5,6]).asg (qI Kw (ifU Vl) (ifU Vw)) (ps.map x6) [a0,a1,a2,some (.lst L),a4,a5,a6,a7,a8,a9,a10,a11,a12]=.ok (.nx [a0,a1,a2,some (.lst (L++ps.flatMap txP)),z4,z5,z6,z7,z8,z9,a10,a11,a12])
 | [],L,a4,a5,a6,a7,a8,a9,_,_=>⟨_,_,_,_,_,_,by
  show R.ok _=_;rw[List.flatMap_nil,tQ]⟩
 | p::ps,L,a4,a5,a6,a7,a8,a9,h,hl=>by
  have hl:L.length+1000*(ps.length+1)<16776000:=hl;have P:=h p tF;have hlen:=P.len;have lt:(txP p).length=p.body.length+p.foot.length:=by unfold txP;rw[tI,tK]
  obtain⟨z7,z8,z9,h1⟩:=Q9 p P a0 a1 a2 a7 a8 a9 a10 a11 a12 L (by omega);obtain⟨y4,y5,y6,y7,y8,y9,h2⟩:=z1G a0 a1 a2 a10 a11 a12 ps (L++txP p) (some (.lst (p.body.map zm))) (some (vf p.rule)) (some (.lst (p.foot.map zm))) z7 z8 z9 (fun x hx=>h x (tG _ hx)) (by rw[tK];omega);refine⟨y4,y5,y6,y7,y8,y9,?_⟩;have ha:(Tgt.many [4,5,6]).asg (x6 p) [a0,a1,a2,some (.lst L),a4,a5,a6,a7,a8,a9,a10,a11,a12]=.ok [a0,a1,a2,some (.lst L),some (.lst (p.body.map zm)),some (vf p.rule),some (.lst (p.foot.map zm)),a7,a8,a9,a10,a11,a12]:=rfl;rw[tJ,yc,ha,jYa,h1,jYa,yI,h2,List.flatMap_cons,tO]
def txR (r:Rw):List D:=r.sp.map fun s=>.str s.x
def z1Z {α β:Type}(f:α->D)(g:β->D)(xs:List α)(ys:List β)(hf:∀a,(f a).imm=true)(hg:∀a,(g a).imm=true)(h:xs.length+ys.length<=16777216):zw (.lst (xs.map f)) (.lst (ys.map g))=.ok (.lst (xs.map f++ys.map g)):=
 if_pos ⟨zY hf _,zY hg _,by rw[tI,tI,sizeLine_eq];exact h⟩
def QX:Tn->R D:=(yh [none] (xn (zd ixD (zb 11) (eC (.int 1)))) (.one 0) (fun _=>.ok true) (zd ixD (zb 0) (eC (.int 2))))
def qN:Tn->R Fl:=(zl 10 (zd zw (zb 10) QX))
def Qs (a0 a1 a2 a3 a4 a5 a6 a7 a8 a9 a10 a12:Option D)(r:Rw)(hl:r.sp.length<=1000):QX [a0,a1,a2,a3,a4,a5,a6,a7,a8,a9,a10,some (zu r),a12]=.ok (.lst (txR r)):=by
 unfold QX txR;exact u0 (enc:=zm) (f:=fun s=>.str s.x) (iF (ixC rfl (r1 r))) (by omega) rfl fun s _=>elx s _
def z0t (C:Tn->R D)(a0 a1 a2 a3 a4 a5 a6 a7 a8 a9 a11 a12:Option D)(X Y Z:D)(hC:C [a0,a1,a2,a3,a4,a5,a6,a7,a8,a9,some X,a11,a12]=.ok Y)(h:zw X Y=.ok Z):(zl 10 (zd zw (zb 10) C)) [a0,a1,a2,a3,a4,a5,a6,a7,a8,a9,some X,a11,a12]=.ok (.nx [a0,a1,a2,a3,a4,a5,a6,a7,a8,a9,some Z,a11,a12]):=by
 simp -implicitDefEqProofs only [zl,zd,zb,jYa,tE,tD,tP,tR,hC,h]
theorem KU (a0 a1 a2 a3 a4 a5 a6 a7 a8 a9 a12:Option D):∀(rs:List Rw) (L:List Str) (a11:Option D),(∀r∈rs,r.sp.length<=1000)->L.length+1000*rs.length<=16776000 ->
  ∃z11,yl (Tgt.one 11).asg qN (rs.map zu) [a0,a1,a2,a3,a4,a5,a6,a7,a8,a9,some (.lst (L.map D.str)),a11,a12]=.ok (.nx [a0,a1,a2,a3,a4,a5,a6,a7,a8,a9,some (.lst ((L++rs.flatMap fun r=>r.sp.map Spt.x).map D.str)),z11,a12])
 | [],L,a11,_,_=>⟨_,by
  show R.ok _=_;rw[List.flatMap_nil,tQ]⟩
 | r::rs,L,a11,h,hl=>by
  have hl:L.length+1000*(rs.length+1)<=16776000:=hl;have hr:=h r tF;obtain⟨z,e⟩:=KU a0 a1 a2 a3 a4 a5 a6 a7 a8 a9 a12 rs (L++r.sp.map Spt.x) (some (zu r)) (fun x hx=>h x (tG _ hx)) (by rw[tK,tI];omega);refine⟨z,?_⟩;have ha:(Tgt.one 11).asg (zu r) [a0,a1,a2,a3,a4,a5,a6,a7,a8,a9,some (.lst (L.map D.str)),a11,a12]=.ok [a0,a1,a2,a3,a4,a5,a6,a7,a8,a9,some (.lst (L.map D.str)),some (zu r),a12]:=rfl;have hA:=z1Z D.str (fun s:Spt=>.str s.x) L r.sp (fun _=>rfl) (fun _=>rfl) (by omega);have e1:L.map D.str++r.sp.map (fun s=>.str s.x)=(L++r.sp.map Spt.x).map D.str:=by rw[sL,rO];rfl
  rw[e1]at hA;rw[tJ,yc,ha,jYa,show qN [a0,a1,a2,a3,a4,a5,a6,a7,a8,a9,some (.lst (L.map D.str)),some (zu r),a12]=_ from z0t QX _ _ _ _ _ _ _ _ _ _ _ _ _ _ _ (Qs _ _ _ _ _ _ _ _ _ _ _ _ r hr) hA,jYa,yI,e,List.flatMap_cons,tO]
theorem Jc (a0 a1 a2 a3 a4 a5 a6 a7 a8 a9:Option D):∀(ns:List (List Rw)) (L:List Str) (a11 a12:Option D),(∀n∈ns,n.length<=10/\∀r∈n,r.sp.length<=10)->L.length+10000*ns.length<=16700000 ->
  ∃z11 z12,yl (Tgt.one 12).asg (yn (xn (zb 12)) (.one 11) qN) (ns.map zI) [a0,a1,a2,a3,a4,a5,a6,a7,a8,a9,some (.lst (L.map D.str)),a11,a12]=.ok (.nx [a0,a1,a2,a3,a4,a5,a6,a7,a8,a9,some (.lst ((L++ns.flatten.flatMap fun r=>r.sp.map Spt.x).map D.str)),z11,z12])
 | [],L,a11,a12,_,_=>⟨_,_,by
  show R.ok _=_;rw[List.flatten_nil,List.flatMap_nil,tQ]⟩
 | n::ns,L,a11,a12,h,hl=>by
  have hl:L.length+10000*(ns.length+1)<=16700000:=hl;have hn:=h n tF;have hfl:∀(rs:List Rw),(∀r∈rs,r.sp.length<=10)->(rs.flatMap fun r=>r.sp.map Spt.x).length<=10*rs.length:=by
   intro rs hr
   induction rs with
   | nil=>exact tM _
   | cons r rs ih =>
    have h1:=ih fun x hx=>hr x (tG _ hx);have h2:=hr r tF;rw[List.flatMap_cons,tK,tI,tL];omega
  have l2:=hfl n hn.2;obtain⟨z,e⟩:=KU a0 a1 a2 a3 a4 a5 a6 a7 a8 a9 (some (zI n)) n L a11 (fun r hr=>by have:=hn.2 r hr;omega) (by omega);obtain⟨y11,y12,e2⟩:=Jc a0 a1 a2 a3 a4 a5 a6 a7 a8 a9 ns (L++n.flatMap fun r=>r.sp.map Spt.x) z (some (zI n)) (fun x hx=>h x (tG _ hx)) (by rw[tK];omega);refine⟨y11,y12,?_⟩;have ha:(Tgt.one 12).asg (zI n) [a0,a1,a2,a3,a4,a5,a6,a7,a8,a9,some (.lst (L.map D.str)),a11,a12]=.ok [a0,a1,a2,a3,a4,a5,a6,a7,a8,a9,some (.lst (L.map D.str)),a11,some (zI n)]:=rfl;rw[tJ,yc,ha,jYa,yO (iF rfl) e,jYa,yI,e2,rC,List.flatMap_append,tO]
def XN (ss:List Str):wd [.lst (ss.map D.str)]=.ok (.lst ((uR ss).map D.str)):=by
 show (match vm (ss.map D.str)with
  | some ss=>R.ok (D.lst ((uR ss).map D.str))
  | none=>.bad)=_
 rw[qG]
def W6 {a b:List Str}(h:a.Perm b):uR a=uR b:=
 List.Perm.eq_of_pairwise (fun a b _ _=>jh a b) (jq a) (jq b) (((vT a).trans h).trans (vT b).symm)
def Uy (ss:List Str):eqR false (.lst (ss.map D.str)) (.lst (ss.map D.str))=.ok (.bl true):=
 W4 (fun ks xs z=>nomatch z) (v9 11 fun d hd=>by
  obtain⟨s,_,rfl⟩:=rF.mp hd;rw[Xs];simp)
def TA (FP FX FN:Tn->R Fl):Tn->R Fl:=(zj (zl 3 (eL (fun ds=>.ok (.lst ds)) ze)) (zj FP (zj (zl 10 (eL (fun ds=>.ok (.lst ds)) ze)) (zj FX (zj FN (zB (zd (eqR false) (eL wd (za (zb 3) ze)) (eL wd (za (zb 10) ze)))))))))
def JH (FP FX FN:Tn->R Fl)(P S N T U S1 S2 r:D)(b4 b5 b6 b7 b8 b9 c10 c11 d11 d12:Option D)(h1:FP [some P,some S,some N,some (.lst []),none,none,none,none,none,none,none,none,none]=.ok (.nx [some P,some S,some N,some T,b4,b5,b6,b7,b8,b9,none,none,none]))
  (h2:FX [some P,some S,some N,some T,b4,b5,b6,b7,b8,b9,some (.lst []),none,none]=.ok (.nx [some P,some S,some N,some T,b4,b5,b6,b7,b8,b9,c10,c11,none]))
  (h3:FN [some P,some S,some N,some T,b4,b5,b6,b7,b8,b9,c10,c11,none]=.ok (.nx [some P,some S,some N,some T,b4,b5,b6,b7,b8,b9,some U,d11,d12]))
  (h4:wd [T]=.ok S1) (h5:wd [U]=.ok S2) (h6:eqR false S1 S2=.ok r):zF 13 (TA FP FX FN) [P,S,N]=.ok r:=by
 unfold TA;simp -implicitDefEqProofs only [zF,zj,zl,zB,eL,za,ze,zd,zb,jYa,tJ,sP,tL,sA,tY,tZ,sD,tU,Nat.reduceAdd,Nat.reduceSub,sM,tE,tD,tP,tR,h1,h2,h3,h4,h5,h6]
def txs (ps:List Pg):List Str:=ps.flatMap fun p=>(p.body++p.foot).map Spt.x
def txw (rs:List Rw):List Str:=rs.flatMap fun r=>r.sp.map Spt.x
theorem Xr:∀ps:List Pg,ps.flatMap txP=(txs ps).map D.str
 | []=>rfl
 | p::ps=>by
  have h:txP p=((p.body++p.foot).map Spt.x).map D.str:=by unfold txP;rw[rO];rfl
  show txP p++ps.flatMap txP=((p.body++p.foot).map Spt.x++txs ps).map D.str;rw[sL,Xr ps,h]
def VO {ss:List Rw}{ns:List (List Rw)}(G:Gd ss ns)(ps:List Pg)(hp:∀p∈ps,PgOk p)(hl:ps.length<=1000)(hperm:(txs ps).Perm (txw ss++txw ns.flatten)):
  yJ [.lst (ps.map x6),.lst (ss.map zu),.lst (ns.map zI)]=.ok (.bl true):=by
 have hn:=G.hn;have h40:=G.n40;obtain⟨z4,z5,z6,z7,z8,z9,h1⟩:=z1G (some (.lst (ps.map x6))) (some (.lst (ss.map zu))) (some (.lst (ns.map zI))) none none none ps [] none none none none none none hp (by show 0+_<_;omega);rw[tU,Xr]at h1;obtain⟨z11,h2⟩:=KU (some (.lst (ps.map x6))) (some (.lst (ss.map zu))) (some (.lst (ns.map zI))) (some (.lst ((txs ps).map D.str))) z4 z5 z6 z7 z8 z9 none ss [] none (fun r hr=>by have:=(G.hs r hr).1;omega) (by show 0+_<=_;omega);rw[tU]at h2;have lx:(txw ss).length<=10*ss.length:=by
  have:∀rs:List Rw,(∀r∈rs,r.sp.length<=10)->(txw rs).length<=10*rs.length:=by
   intro rs hr
   induction rs with
   | nil=>exact tM _
   | cons r rs ih =>
    have h1:=ih fun x hx=>hr x (tG _ hx);have h2:=hr r tF;show (r.sp.map Spt.x++txw rs).length<=_;rw[tK,tI,tL];omega
  exact this ss fun r hr=>(G.hs r hr).1
 obtain⟨y11,y12,h3⟩:=Jc (some (.lst (ps.map x6))) (some (.lst (ss.map zu))) (some (.lst (ns.map zI))) (some (.lst ((txs ps).map D.str))) z4 z5 z6 z7 z8 z9 ns (txw ss) z11 none (fun n hn=>⟨by have:=(G.hk n hn).2.1;omega,fun r hr=>((G.hk n hn).2.2 r hr).2⟩) (by omega);have hT:yJ=zF 13 (TA (yn (yf (zb 0)) (.many [4,5,6]) (qI Kw (ifU Vl) (ifU Vw))) (yn (yf (zb 1)) (.one 11) qN) (yn (yf (zb 2)) (.one 12) (yn (xn (zb 12)) (.one 11) qN))):=rfl;rw[hT];exact JH _ _ _ _ _ _ _ _ _ _ _ _ _ _ _ _ _ _ _ _ _ (yO (iS rfl) h1) (yO (iS rfl) h2) (yO (iS rfl) h3) (XN _) (XN _) (by rw[W6 hperm];exact Uy _)
def Xj (k:Int)(sp:List Spt):(xa k sp).map Spt.x=sp.map Spt.x:=by unfold xa;rw[rO];rfl
theorem ku:∀(xs:List Rw) (t:Int),(yg xs t).map Spt.x=txw xs
 | [],_=>rfl
 | r::xs,t=>by
  show (xa (t+r.g) r.sp++yg xs (t+r.g+r.h)).map Spt.x=r.sp.map Spt.x++txw xs;rw[sL,Xj,ku xs]
theorem Ym:∀(xs:List Rw) (t:Int),(yw xs t).map Spt.x=txw xs
 | [],_=>rfl
 | r::xs,t=>by
  show (xa t r.sp++yw xs (t+r.h)).map Spt.x=r.sp.map Spt.x++txw xs;rw[sL,Xj,Ym xs]
def z0o:∀xs:List Rw,txw (zf xs)=txw xs
 | []=>rfl
 | r::xs=>rfl
def Km (H:Int)(xs fs:List Rw):((uv H xs fs).body++(uv H xs fs).foot).map Spt.x=txw xs++txw fs:=by
 cases fs with
 | nil =>
  show (yg (zf xs) 0++[]).map Spt.x=_;rw[tQ,ku,z0o];exact (tQ _).symm
 | cons f fr =>
  show (yg (zf xs) 0++yw (f::fr) _).map Spt.x=_;rw[sL,ku,z0o,Ym]
def X9 (a b:List Rw):txw (a++b)=txw a++txw b:=List.flatMap_append
def LvOk (ss:List Rw):List (Nat×Nat)->Nat->Nat->Prop
 | [],b,a=>b=ss.length/\a=0
 | p::ls,b,a=>SpOk ss ⟨b,p.1,a,p.2⟩/\LvOk ss ls p.1 p.2
theorem LvOk.sp {ss:List Rw}:∀ {ls:List (Nat×Nat)} {b a:Nat},LvOk ss ls b a->∀x∈spn ls b a,SpOk ss x
 | [],_,_,_,x,hx=>nomatch hx
 | p::ls,b,a,h,x,hx=>by
  rcases tV.mp hx with rfl|hx
  ·exact h.1
  ·exact LvOk.sp h.2 x hx
theorem LvOk.len {ss:List Rw}:∀ {ls:List (Nat×Nat)} {b a:Nat},LvOk ss ls b a->b+ls.length<=ss.length
 | [],b,a,h=>by rw[h.1];exact tM _
 | p::ls,b,a,h=>by
  have h1:=LvOk.len h.2;have h2:=h.1.be;have h2:b<p.1:=h2;rw[tL];omega
theorem XE {ss:List Rw}{ns:List (List Rw)}(hm:mk ss ss.length=ns.length)(H:Int):∀ {ls:List (Nat×Nat)} {b a:Nat},LvOk ss ls b a->(txs ((spn ls b a).map (xW H ss ns))).Perm (txw (ss.drop b)++txw (ns.drop (mk ss b-a)).flatten)
 | [],b,a,h=>by
  obtain⟨rfl,rfl⟩:=h;rw[rY,hm,Nat.sub_zero,rY];exact List.Perm.refl _
 | p::ls,b,a,h=>by
  obtain⟨X,h2⟩:=h;have ih:=XE hm H h2;have be:b<p.1:=X.be;have en:p.1<=ss.length:=X.en;have ha:a<=mk ss b:=X.a;have ht:p.2<=mk ss p.1-mk ss b:=X.t;have mm:=vc (ss:=ss) (rK be);have mn:=vc (ss:=ss) en;have e1:ss.drop b=cut ss b p.1++ss.drop p.1:=by
   unfold cut;have:=(sV (p.1-b) (ss.drop b)).symm;rw[rN,show b+(p.1-b)=p.1 by omega]at this;exact this
  have e2:ns.drop (mk ss b-a)=wW ns (mk ss b-a) (mk ss p.1-p.2)++ns.drop (mk ss p.1-p.2):=by
   unfold wW;have:=(sV (mk ss p.1-p.2-(mk ss b-a)) (ns.drop (mk ss b-a))).symm;rw[rN,show mk ss b-a+(mk ss p.1-p.2-(mk ss b-a))=mk ss p.1-p.2 by omega]at this;exact this
  rw[e1,e2,List.flatten_append,X9,X9];show (((xW H ss ns ⟨b,p.1,a,p.2⟩).body++(xW H ss ns ⟨b,p.1,a,p.2⟩).foot).map Spt.x++txs ((spn ls p.1 p.2).map (xW H ss ns))).Perm _;rw[show ((xW H ss ns ⟨b,p.1,a,p.2⟩).body++(xW H ss ns ⟨b,p.1,a,p.2⟩).foot).map Spt.x=txw (cut ss b p.1)++txw (wW ns (mk ss b-a) (mk ss p.1-p.2)).flatten from Km _ _ _];generalize txw (cut ss b p.1)=A;generalize txw (wW ns (mk ss b-a) (mk ss p.1-p.2)).flatten=C;generalize txw (ss.drop p.1)=B at *;generalize txw (ns.drop (mk ss p.1-p.2)).flatten=E at *;refine (List.Perm.append_left (A++C) ih).trans ?_;rw[tO,tO];refine List.Perm.append_left A ?_;rw[<-tO,<-tO];exact List.Perm.append_right E rR
def vQ (r:Rw):Prop:=0<=r.g/\0<=r.h/\r.sp.length<=6/\∃nm:Str,∀s∈r.sp,0<=s.t/\s.t<r.h/\vn s.x=nm/\s.x.length<=16777216
structure Gt (ss:List Rw)(ns:List (List Rw)):Prop where
 s:∀r∈ss,vQ r
 n:∀n∈ns,∀r∈n,vQ r
theorem XG:∀(xs:List Rw) (t:Int),(∀r∈xs,vQ r)->t<=xq xs t
 | [],t,_=>Int.le_refl _
 | r::xs,t,h=>by
  have h1:=XG xs (t+r.g+r.h) fun x hx=>h x (tG _ hx);have h2:=h r tF;have h3:=h2.1;have h4:=h2.2.1;show t<=xq xs (t+r.g+r.h);omega
theorem ZF:∀(xs:List Rw) (t:Int),(∀r∈xs,vQ r)->∃f:Int->Str,∀s∈yg xs t,vn s.x=f s.t/\t<=s.t/\s.t<xq xs t/\s.x.length<=16777216
 | [],t,_=>⟨fun _=>"",fun s hs=>nomatch hs⟩
 | r::xs,t,h=>by
  obtain⟨f,hf⟩:=ZF xs (t+r.g+r.h) fun x hx=>h x (tG _ hx);have hle:=XG xs (t+r.g+r.h) fun x hx=>h x (tG _ hx);obtain⟨g0,h0,_,nm,hn⟩:=h r tF;refine⟨fun z=>if z<t+r.g+r.h then nm else f z,fun s hs=>?_⟩;show vn s.x=(if s.t<t+r.g+r.h then nm else f s.t)/\t<=s.t/\s.t<xq xs (t+r.g+r.h)/\s.x.length<=16777216;rcases tW.mp (show s∈xa (t+r.g) r.sp++yg xs (t+r.g+r.h) from hs)with hs|hs
  ·obtain⟨s0,m0,rfl⟩:=rF.mp hs;obtain⟨e1,e2,e3,e4⟩:=hn s0 m0;show vn s0.x=(if s0.t+(t+r.g)<t+r.g+r.h then nm else f (s0.t+(t+r.g)))/\t<=s0.t+(t+r.g)/\s0.t+(t+r.g)<xq xs (t+r.g+r.h)/\s0.x.length<=16777216;rw[if_pos (by omega)];exact⟨e3,by omega,by omega,e4⟩
  ·obtain⟨e1,e2,e3,e4⟩:=hf s hs;rw[if_neg (by omega)];exact⟨e1,by omega,e3,e4⟩
theorem Zf:∀(xs:List Rw) (t:Int),(∀r∈xs,vQ r)->∃f:Int->Str,∀s∈yw xs t,vn s.x=f s.t/\t<=s.t/\s.x.length<=16777216
 | [],t,_=>⟨fun _=>"",fun s hs=>nomatch hs⟩
 | r::xs,t,h=>by
  obtain⟨f,hf⟩:=Zf xs (t+r.h) fun x hx=>h x (tG _ hx);obtain⟨g0,h0,_,nm,hn⟩:=h r tF;refine⟨fun z=>if z<t+r.h then nm else f z,fun s hs=>?_⟩;show vn s.x=(if s.t<t+r.h then nm else f s.t)/\t<=s.t/\s.x.length<=16777216;rcases tW.mp (show s∈xa t r.sp++yw xs (t+r.h) from hs)with hs|hs
  ·obtain⟨s0,m0,rfl⟩:=rF.mp hs;obtain⟨e1,e2,e3,e4⟩:=hn s0 m0;show vn s0.x=(if s0.t+t<t+r.h then nm else f (s0.t+t))/\t<=s0.t+t/\s0.x.length<=16777216;rw[if_pos (by omega)];exact⟨e3,by omega,e4⟩
  ·obtain⟨e1,e2,e4⟩:=hf s hs;rw[if_neg (by omega)];exact⟨e1,by omega,e4⟩
def Jh {xs:List Rw}(h:∀r∈xs,vQ r):(txw xs).length<=6*xs.length:=by
 induction xs with
 | nil=>exact tM _
 | cons r rs ih =>
  have h1:=ih fun x hx=>h x (tG _ hx);have h2:=(h r tF).2.2.1;show (r.sp.map Spt.x++txw rs).length<=_;rw[tK,tI,tL];omega
def z1P {xs:List Rw}(h:∀r∈xs,vQ r):∀r∈zf xs,vQ r:=by
 cases xs with
 | nil=>exact h
 | cons r rs =>
  intro x hx;rcases tV.mp hx with rfl|hx
  ·have:=h r tF;exact⟨Int.le_refl _,this.2.1,this.2.2.1,this.2.2.2⟩
  ·exact h x (tG _ hx)
def K8 (xs:List Rw):(zf xs).length=xs.length:=by cases xs<;>rfl
def Ua {xs:List Rw}{t:Int}(h:∀r∈xs,vQ r):(yg xs t).length<=6*xs.length:=by
 have h1:=congrArg List.length (ku xs t);rw[tI]at h1;rw[h1];exact Jh h
def WV {xs:List Rw}{t:Int}(h:∀r∈xs,vQ r):(yw xs t).length<=6*xs.length:=by
 have h1:=congrArg List.length (Ym xs t);rw[tI]at h1;rw[h1];exact Jh h
def XR (H:Int)(xs fs:List Rw)(hx:∀r∈xs,vQ r)(hf:∀r∈fs,vQ r)(lx:xs.length<=20)(lf:fs.length<=120):PgOk (uv H xs fs):=by
 have hz:=z1P hx;obtain⟨fb,hb⟩:=ZF (zf xs) 0 hz;have l1:=Ua (t:=0) hz;rw[K8]at l1;cases fs with
 | nil =>
  refine⟨⟨fb,fun s hs=>?_⟩,fun r hr=>(by cases hr),?_⟩
  ·have hs:s∈yg (zf xs) 0++[]:=hs;rw[tQ]at hs;obtain⟨e1,_,_,e4⟩:=hb s hs;exact⟨e1,fun z=>(by cases z),e4⟩
  ·show (yg (zf xs) 0).length+0<=1000;omega
 | cons f fr =>
  obtain⟨ff,hh⟩:=Zf (f::fr) (x8 H (xq (zf xs) 0) (fr.length+1)+1) hf;have l2:=WV (t:=x8 H (xq (zf xs) 0) (fr.length+1)+1) hf;have hr:xq (zf xs) 0<=x8 H (xq (zf xs) 0) (fr.length+1):=by unfold x8;split<;>omega
  unfold uv;dsimp only;generalize x8 H (xq (zf xs) 0) (fr.length+1)=q at *;refine⟨⟨fun z=>if z<q then fb z else ff z,fun s hs=>?_⟩,fun r hr'=>?_,?_⟩
  ·show vn s.x=(if s.t<q then fb s.t else ff s.t)/\some q≠some s.t/\s.x.length<=16777216;rcases tW.mp hs with hs|hs
   ·obtain⟨e1,e2,e3,e4⟩:=hb s hs;rw[if_pos (by omega)];exact⟨e1,fun z=>by have:=jYe z;omega,e4⟩
   ·obtain⟨e1,e2,e4⟩:=hh s hs;rw[if_neg (by omega)];exact⟨e1,fun z=>by have:=jYe z;omega,e4⟩
  ·have hr':some q=some r:=hr';have:=jYe hr';exact⟨fun s hs=>by obtain⟨_,_,e3,_⟩:=hb s hs;omega,fun s hs=>by obtain⟨_,e2,_⟩:=hh s hs;omega⟩
  ·show (yg (zf xs) 0).length+(yw (f::fr) (q+1)).length<=1000;omega
def QH {ss:List Rw}{ns:List (List Rw)}(G:Gd ss ns)(T:Gt ss ns)(H:Int)(x:Span):PgOk (xW H ss ns x):=by
 have hn:=G.hn;have h40:=G.n40;have hk:∀n∈wW ns (mk ss x.b-x.a) (mk ss x.e-x.t),n∈ns:=fun n hm=>qF hm;have hl:(wW ns (mk ss x.b-x.a) (mk ss x.e-x.t)).length<=40:=by unfold wW;rw[sG,sT];omega
 unfold xW;generalize wW ns (mk ss x.b-x.a) (mk ss x.e-x.t)=O at *;have hfl:O.flatten.length<=3*O.length:=by
  clear hl
  induction O with
  | nil=>exact tM _
  | cons n O ih =>
   have h1:=ih fun y hy=>hk y (tG _ hy);have h2:=(G.hk n (hk n tF)).2.1;rw[rC,tK,tL];omega
 refine XR H _ _ (fun r hr=>T.s r (List.mem_of_mem_drop (rM hr))) (fun r hr=>?_) ?_ (by omega)
 ·obtain⟨n,hn,hr⟩:=List.mem_flatten.mp hr;exact T.n n (hk n hn) r hr
 ·unfold cut;rw[sG,sT];omega
def xR (a b:Str):(a++b).cps.toList=a.cps.toList++b.cps.toList:=Array.toList_append
def ko {a b:Str}(h:a.cps.toList=b.cps.toList):a=b:=by
 obtain⟨x⟩:=a;obtain⟨y⟩:=b;have h:x.toList=y.toList:=h;rw[Array.toList_inj.mp h]
def vy (a b c:Str):a++b++c=a++(b++c):=ko (by rw[xR,xR,xR,xR,tO])
def KO:((".":Str))=⟨#[46]⟩:=by decide +kernel
def U4 (p z:Str)(h:46∉p.cps.toList):vn (p++"."++z)=p:=by
 unfold vn;rw[KO];have hx:(p++(⟨#[46]⟩:Str)++z).cps.toList=p.cps.toList++46::z.cps.toList:=by rw[xR,xR,tO];rfl
 have at_p:(p++(⟨#[46]⟩:Str)++z).cps.toList[p.cps.toList.length]?=some 46:=by
  rw[hx,sU (tM _),pO];rfl
 have nat_lt:∀k,k<p.cps.toList.length->(p++(⟨#[46]⟩:Str)++z).cps.toList[k]?≠some 46:=fun k hk e=>by
  rw[hx,sW hk]at e;exact h (List.mem_of_getElem? e)
 rcases partition_head (p++(⟨#[46]⟩:Str)++z) ⟨#[46]⟩with⟨_,hn⟩|⟨i,e,hi,hn⟩
 ·exact absurd ((StrLaws.subAt_one _ 46 _).mpr at_p) (hn _)
 ·have h1:=(StrLaws.subAt_one _ 46 i).mp hi;have hip:i=p.cps.toList.length:=by
   rcases Nat.lt_trichotomy i p.cps.toList.length with q|q|q
   ·exact absurd h1 (nat_lt i q)
   ·exact q
   ·exact absurd ((StrLaws.subAt_one _ 46 _).mpr at_p) (hn _ q)
  rw[e,strSub_mk];apply ko;show ((((p++(⟨#[46]⟩:Str)++z).cps.toList.drop 0).take (i-0)).toArray).toList=_;rw[List.toList_toArray,pM,Nat.sub_zero,hx,hip,List.take_left]
def cell (ns:List Int)(k:Int)(hk:0<=k)(hl:ns.length<=63):∃v,zo [.frl (ns.map .int),.int k]=.ok (.int v):=by
 by_cases h:k<(ns.length:Int)
 ·have hm:k.toNat<ns.length:=by omega
  have hix:ixD (.frl (ns.map .int)) (.int k)=.ok (.int ns[k.toNat]):=z05 (Vg hk (by rw[sJ,rD hm];rfl));have e1:decide (k<(ns.length:Int))=true:=decide_eq_true h;refine⟨ns[k.toNat],?_⟩;generalize ns[k.toNat]=v at *;simp -implicitDefEqProofs only [zo,xX,yP,v8,yi,zF,zj,zB,sIf,zb,eC,zd,eL,ze,za,zz,asB,jYa,tJ,sP,tL,sA,tZ,sD,tU,tE,tD,Nat.reduceAdd,Nat.reduceSub,sM,Je,Xl,if_true,tI,e1,hix]
 ·have e1:decide (k<(ns.length:Int))=false:=decide_eq_false h;refine⟨0,?_⟩;simp -implicitDefEqProofs only [zo,xX,yP,yi,zF,zj,zB,sIf,zb,eC,zd,eL,ze,za,zz,asB,jYa,tJ,sP,tL,sA,tZ,sD,tU,tE,tD,Nat.reduceAdd,Nat.reduceSub,sM,Je,Xl,if_false,sS,tI,e1]
def Zy {x y:Str}(h1:x.length<=10000)(h2:y.length<=10000):zw (.str x) (.str y)=.ok (.str (x++y)):=QW (by rw[sizeLine_eq];omega)
def KG {i:Int}(h0:0<=i)(h1:i<1000000):i.natAbs.log2<1920:=by
 by_cases hz:i.natAbs=0
 ·rw[hz];decide
 ·have:i.natAbs.log2<20:=(Nat.log2_lt hz).mpr (by omega);omega
def jd {i:Int}(h0:0<=i)(h1:i<1000000):xj [.int i]=.ok (.str (toString i)):=if_pos (KG h0 h1)
def Qw:∀j,j<50->(Str.ofString (toString ((j:Nat):Int))).length<=2/\46∉(Str.ofString (toString ((j:Nat):Int))).cps.toList:=by decide +kernel
def wz {i:Int}(h0:0<=i)(h1:i<50):(Str.ofString (toString i)).length<=2/\46∉(Str.ofString (toString i)).cps.toList:=by
 have:=Qw i.toNat (by omega);rw[show ((i.toNat:Nat):Int)=i by omega]at this;exact this
def yq (a b:Str):(a++b).length=a.length+b.length:=Str.length_append a b
def UP:Tn->R Fl:=(xH 3 (xm (eL (fun ds=>.ok (.tup ds)) (za (zb 4) (za (zd zw (zd wb (eC (.int 5)) (zb 5)) (zd ym (zb 0) (eC (.int 4)))) (za (zd zw (zd zw (zd zw (zb 2) (eL xj (za (zb 4) ze))) (eC (.str "-"))) (eL xj (za (zb 5) ze))) ze))))))
def Qm (c h t k:Int)(nm:Str)(L:List D)(hl:L.length<16777216)(hn:nm.length<=100)(t0:0<=t)(t1:t<50)(k0:0<=k)(k1:k<50):UP [some (.int c),some (.int h),some (.str nm),some (.lst L),some (.int t),some (.int k)]=.ok (.nx [some (.int c),some (.int h),some (.str nm),some (.lst (L++[zm ⟨t,5*k+c%4,nm++(toString t:Str)++("-":Str)++(toString k:Str)⟩])),some (.int t),some (.int k)]):=by
 have l1:(toString t:Str).length<=2:=(wz t0 t1).1;have l2:(toString k:Str).length<=2:=(wz k0 k1).1;have l3:("-":Str).length=1:=by decide +kernel
 have e1:xj [.int t]=.ok (.str (toString t)):=jd t0 (by omega);have e2:xj [.int k]=.ok (.str (toString k)):=jd k0 (by omega);have a1:zw (.str nm) (.str (toString t))=.ok (.str (nm++(toString t:Str))):=Zy (by omega) (by omega);have a2:zw (.str (nm++(toString t:Str))) (.str "-")=.ok (.str (nm++(toString t:Str)++("-":Str))):=Zy (by rw[yq];omega) (by omega);have a3:zw (.str (nm++(toString t:Str)++("-":Str))) (.str (toString k))=.ok (.str (nm++(toString t:Str)++("-":Str)++(toString k:Str))):=Zy (by rw[yq,yq];omega) (by omega);have m4:ym (.int c) (.int 4)=.ok (.int (c%4)):=rfl;have ha:∀(τ:Tn) (d:D),qc 3 τ L d=.ok (.nx (τ.set 3 (some (.lst (L++[d]))))):=fun τ d=>if_pos (by rw[sizeLine_eq];exact hl);have hi:∀(x y:Int) (z:Str),Z2 (.tup [.int x,.int y,.str z])=.ok (.tup [.int x,.int y,.str z]):=fun _ _ _=>rfl;have hm:wb (.int 5) (.int k)=.ok (.int (5*k)):=km (by decide) (by decide);unfold zm;dsimp only;generalize nm++(toString t:Str)++("-":Str)++(toString k:Str)=Z at *;generalize nm++(toString t:Str)++("-":Str)=Y at *;generalize nm++(toString t:Str)=W at *;unfold UP;simp -implicitDefEqProofs only [xN,xP,yP,eL,za,ze,zd,zb,eC,jYa,tE,tD,tP,tR,yH,e1,e2,a1,a2,a3,m4,hm,ha,hi]
def SpD (nm:Str)(h:Int)(s:Spt):Prop:=0<=s.t/\s.t<h/\∃z:Str,z.length<=5/\s.x=nm++z
theorem Js (c h t:Int)(nm:Str)(hn:nm.length<=100)(t0:0<=t)(t1:t<h)(h50:h<=50):∀(m k:Nat) (xs:List Spt) (q:Option D),k+m<=2->xs.length+m<=100->∃ys q',yl (Tgt.one 5).asg UP (rng k m) [some (.int c),some (.int h),some (.str nm),some (.lst (xs.map zm)),some (.int t),q]=.ok (.nx [some (.int c),some (.int h),some (.str nm),some (.lst ((xs++ys).map zm)),some (.int t),q'])/\ys.length=m/\∀s∈ys,SpD nm h s
 | 0,k,xs,q,_,_=>⟨[],q,by rw[tQ];rfl,rfl,fun s hs=>nomatch hs⟩
 | m+1,k,xs,q,hk,hl=>by
  have hB:=Qm c h t (k:Int) nm (xs.map zm) (by rw[tI];omega) hn t0 (by omega) (by omega) (by omega);have l1:(toString t:Str).length<=2:=(wz t0 (by omega)).1;have l2:(toString (k:Int):Str).length<=2:=(wz (i:=(k:Int)) (by omega) (by omega)).1;have l3:("-":Str).length=1:=by decide +kernel
  obtain⟨ys,q',e,hy,hs⟩:=Js c h t nm hn t0 t1 h50 m (k+1) (xs++[⟨t,5*(k:Int)+c%4,nm++(toString t:Str)++("-":Str)++(toString (k:Int):Str)⟩]) (some (.int (k:Int))) (by omega) (by rw[tK];show xs.length+1+_<=_;omega);refine⟨⟨t,5*(k:Int)+c%4,nm++(toString t:Str)++("-":Str)++(toString (k:Int):Str)⟩::ys,q',?_,by rw[tL,hy],fun s hs'=>?_⟩
  ·have ha:(Tgt.one 5).asg (.int (k:Int)) [some (.int c),some (.int h),some (.str nm),some (.lst (xs.map zm)),some (.int t),q]=.ok [some (.int c),some (.int h),some (.str nm),some (.lst (xs.map zm)),some (.int t),some (.int (k:Int))]:=rfl;rw[xF,yc,ha,jYa,hB,jYa,yI,show (k:Int)+1=((k+1:Nat):Int) by omega];rw[sL]at e;refine Eq.trans ?_ (e.trans ?_)
   ·rfl
   ·rw[tO];rfl
  ·rcases tV.mp hs' with rfl|hs'
   ·refine⟨t0,t1,(toString t:Str)++("-":Str)++(toString (k:Int):Str),by rw[yq,yq];omega,?_⟩;show nm++(toString t:Str)++("-":Str)++(toString (k:Int):Str)=_;rw[vy,vy,vy]
   ·exact hs s hs'
def z06:Tn->R Fl:=(yn (iL xU (za (zd ym (zd yL (zb 0) (zd zw (eC (.int 3)) (zb 4))) (eC (.int 3))) ze)) (.one 5) UP)
def itT (c h t:Int)(a2 a3 a5:Option D)(t0:0<=t)(t1:t<50):(iL xU (za (zd ym (zd yL (zb 0) (zd zw (eC (.int 3)) (zb 4))) (eC (.int 3))) ze)) [some (.int c),some (.int h),a2,a3,some (.int t),a5]=.ok (rng 0 (c/(3+t)%3).toNat):=by
 have h1:yL (.int c) (.int (3+t))=.ok (.int (c/(3+t))):=wQ (by omega) (by omega);have h2:ym (.int (c/(3+t))) (.int 3)=.ok (.int (c/(3+t)%3)):=rfl;have h3:xU [.int (c/(3+t)%3)]=.ok (rng 0 (c/(3+t)%3).toNat):=ua (by omega) (by omega);simp -implicitDefEqProofs only [iL,za,ze,zd,zb,eC,yH,jYa,tE,tD,h1,h2,h3]
theorem Jt (c h:Int)(nm:Str)(hn:nm.length<=100)(h50:h<=3):∀(m t:Nat) (xs:List Spt) (p q:Option D),((t+m:Nat):Int)<=h->xs.length<=2*t->∃ys p' q',yl (Tgt.one 4).asg z06 (rng t m) [some (.int c),some (.int h),some (.str nm),some (.lst (xs.map zm)),p,q]=.ok (.nx [some (.int c),some (.int h),some (.str nm),some (.lst ((xs++ys).map zm)),p',q'])/\ys.length<=2*m/\∀s∈ys,SpD nm h s
 | 0,t,xs,p,q,_,_=>⟨[],p,q,by rw[tQ];rfl,sZ _,fun s hs=>nomatch hs⟩
 | m+1,t,xs,p,q,hk,hl=>by
  have hc:(c/(3+(t:Int))%3).toNat<=2:=by omega
  obtain⟨y1,q1,e1,l1,s1⟩:=Js c h (t:Int) nm hn (by omega) (by omega) (by omega) (c/(3+(t:Int))%3).toNat 0 xs q (by omega) (by omega);obtain⟨ys,p',q',e,hy,hs⟩:=Jt c h nm hn h50 m (t+1) (xs++y1) (some (.int (t:Int))) q1 (by omega) (by rw[tK];omega);refine⟨y1++ys,p',q',?_,by rw[tK];omega,fun s hs'=>?_⟩
  ·have ha:(Tgt.one 4).asg (.int (t:Int)) [some (.int c),some (.int h),some (.str nm),some (.lst (xs.map zm)),p,q]=.ok [some (.int c),some (.int h),some (.str nm),some (.lst (xs.map zm)),some (.int (t:Int)),q]:=rfl;have hf:z06 [some (.int c),some (.int h),some (.str nm),some (.lst (xs.map zm)),some (.int (t:Int)),q]=.ok (.nx [some (.int c),some (.int h),some (.str nm),some (.lst ((xs++y1).map zm)),some (.int (t:Int)),q1]):=yO (itT c h (t:Int) _ _ _ (by omega) (by omega)) e1;rw[xF,yc,ha,jYa,hf,jYa,yI,show (t:Int)+1=((t+1:Nat):Int) by omega,e,tO]
  ·rcases tW.mp hs' with z|z
   ·exact s1 s z
   ·exact hs s z
def K5 (F:Tn->R Fl)(c h nm x:D)(p' q':Option D)(e:F [some c,some h,some nm,some (.lst []),none,none]=.ok (.nx [some c,some h,some nm,some x,p',q'])):zF 6 (zj (zl 3 (eL (fun ds=>.ok (.lst ds)) ze)) (zj F (zB (zb 3)))) [c,h,nm]=.ok x:=by
 simp -implicitDefEqProofs only [zF,zj,zl,zB,zb,eL,ze,jYa,tJ,sP,tL,sA,tY,tZ,sD,tU,tE,tD,tP,tR,Nat.reduceAdd,Nat.reduceSub,sM,e]
def it1 (c nm:D)(h:Int)(h0:0<=h)(h3:h<=3):(iL xU (za (zb 1) ze)) [some c,some (.int h),some nm,some (.lst []),none,none]=.ok (rng ((0:Nat):Int) h.toNat):=by
 have h1:xU [.int h]=.ok (rng ((0:Nat):Int) h.toNat):=ua (by omega) (by omega);simp -implicitDefEqProofs only [iL,za,ze,zb,jYa,tE,tD,h1]
def Zh (c h:Int)(nm:Str)(hn:nm.length<=100)(h0:0<=h)(h3:h<=3):∃sp:List Spt,zP [.int c,.int h,.str nm]=.ok (.lst (sp.map zm))/\sp.length<=6/\∀s∈sp,SpD nm h s:=by
 obtain⟨ys,p',q',e,hy,hs⟩:=Jt c h nm hn h3 h.toNat 0 [] none none (by omega) (sZ _);rw[tU]at e;have hT:zP=zF 6 (zj (zl 3 (eL (fun ds=>.ok (.lst ds)) ze)) (zj (yn (iL xU (za (zb 1) ze)) (.one 4) z06) (zB (zb 3)))):=rfl;refine⟨ys,?_,by omega,hs⟩;rw[hT];exact K5 _ _ _ _ _ _ _ (yO (it1 _ _ h h0 h3) e)
theorem SpD.row {nm p y:Str}{h:Int}{s:Spt}(H:SpD nm h s)(hn:nm=p++"."++y)(hp:46∉p.cps.toList)(hl:nm.length<=100):0<=s.t/\s.t<h/\vn s.x=p/\s.x.length<=16777216:=by
 obtain⟨h1,h2,z,hz,e⟩:=H;refine⟨h1,h2,?_,by rw[e,yq];omega⟩;rw[e,hn,vy];exact U4 p (y++z) hp
def ZC (n:List Rw):Prop:=n≠[]/\n.length<=3/\∀r∈n,r.h=1/\vQ r
def JC (r:Rw):Prop:=1<=r.h/\r.h<=3/\r.g<=3/\r.m<=2/\vQ r
def elJ:Tn->R D:=(eL (fun ds=>.ok (.tup ds)) (za (eC (.int 1)) (za (eUn qv (eL zP (za (zd yL (zb 1) (zd zw (eC (.int 3)) (zb 0))) (za (eC (.int 1)) (za (zd zw (zb 2) (eL xj (za (zb 0) ze))) ze))))) (za (eC (.int 0)) ze))))
def V9 (sp:List Spt):qv (.lst (sp.map zm))=.ok (.frl (sp.map zm)):=if_pos (zY X8 sp)
def Ko (n c:Int)(nm:Str)(sp:List Spt)(n0:0<=n)(n1:n<50)(hl:nm.length<=90)(h:zP [.int (c/(3+n)),.int 1,.str (nm++(toString n:Str))]=.ok (.lst (sp.map zm))):elJ [some (.int n),some (.int c),some (.str nm)]=.ok (zu ⟨0,1,0,sp⟩):=by
 have l1:(toString n:Str).length<=2:=(wz n0 n1).1;have e1:xj [.int n]=.ok (.str (toString n)):=jd n0 (by omega);have a1:zw (.str nm) (.str (toString n))=.ok (.str (nm++(toString n:Str))):=Zy (by omega) (by omega);have h1:yL (.int c) (.int (3+n))=.ok (.int (c/(3+n))):=wQ (by omega) (by omega);have hz:=V9 sp;show _=R.ok (D.tup [.int 1,.frl (sp.map zm),.int 0]);generalize sp.map zm=SP at *;generalize nm++(toString n:Str)=Z at *;unfold elJ;simp -implicitDefEqProofs only [eL,za,ze,zd,eUn,zb,eC,jYa,tE,tD,yH,e1,a1,h1,h,hz]
def WJ:Tn->R D:=(yh [none,some 9,some 10] (iL xU (za (zd zw (eC (.int 1)) (zd ym (zb 9) (eC (.int 3)))) ze)) (.one 0) (fun _=>.ok true) elJ)
def itJ (a0 a1 a2 a3 a4 a5 a6 a7 a8 a10:Option D)(c:Int):(iL xU (za (zd zw (eC (.int 1)) (zd ym (zb 9) (eC (.int 3)))) ze)) [a0,a1,a2,a3,a4,a5,a6,a7,a8,some (.int c),a10]=.ok (rng 0 (1+c%3).toNat):=by
 have h2:ym (.int c) (.int 3)=.ok (.int (c%3)):=rfl;have h3:xU [.int (1+c%3)]=.ok (rng 0 (1+c%3).toNat):=ua (by omega) (by omega);simp -implicitDefEqProofs only [iL,za,ze,zd,zb,eC,yH,jYa,tE,tD,h2,h3]
def Ul (a0 a1 a2 a3 a4 a5 a6 a7 a8:Option D)(c:Int)(p:Str)(hl:p.length<=80)(hp:46∉p.cps.toList):∃n,WJ [a0,a1,a2,a3,a4,a5,a6,a7,a8,some (.int c),some (.str (p++"."))]=.ok (.lst (n.map zu))/\ZC n:=by
 have l0:(".":Str).length=1:=by decide +kernel
 have key:∀n:Nat,∃sp:List Spt,n<50->zP [.int (c/(3+(0+(n:Int)))),.int 1,.str (p++"."++(toString (0+(n:Int)):Str))]=.ok (.lst (sp.map zm))/\vQ ⟨0,1,0,sp⟩:=fun n=>by
  by_cases hn:n<50
  ·have l1:(toString (0+(n:Int)):Str).length<=2:=(wz (i:=0+(n:Int)) (by omega) (by omega)).1;obtain⟨sp,h1,h2,h3⟩:=Zh (c/(3+(0+(n:Int)))) 1 (p++"."++(toString (0+(n:Int)):Str)) (by rw[yq,yq];omega) (by omega) (by omega);exact⟨sp,fun _=>⟨h1,Int.le_refl _,(by decide:(0:Int)<=1),h2,p,fun s hs=>(h3 s hs).row rfl hp (by rw[yq,yq];omega)⟩⟩
  ·exact⟨[],fun z=>absurd z hn⟩
 obtain⟨f,hf⟩:=Classical.skolem.mp key;have hm:(1+c%3).toNat<=3/\1<=(1+c%3).toNat:=by omega
 refine⟨(List.range (1+c%3).toNat).map fun n=>⟨0,1,0,f n⟩,?_,?_,?_,?_⟩
 ·unfold WJ;rw[rO];refine u0 (enc:=fun i:Nat=>.int (0+(i:Int))) (f:=fun n:Nat=>zu ⟨0,1,0,f n⟩) (itJ _ _ _ _ _ _ _ _ _ _ c) (by rw[pL];omega) rfl fun n hn=>?_;have hn:=pH.mp hn;exact Ko _ c _ (f n) (by omega) (by omega) (by rw[yq];omega) (hf n (by omega)).1
 ·intro z;have:=congrArg List.length z;rw[tI,pL]at this;have:(1+c%3).toNat=0:=this;omega
 ·rw[tI,pL];exact hm.1
 ·intro r hr;obtain⟨n,hn,rfl⟩:=rF.mp hr;have hn:=pH.mp hn;exact⟨rfl,(hf n (by omega)).2⟩
def Xf (C:Tn->R D):Tn->R Fl:=(zj (zl 9 (zd yL (zb 5) (zd zw (eC (.int 11)) (zb 8)))) (zj (zl 10 (zd zw (zd zw (eC (.str "note")) (eL xj (za (eL x9 (za (zb 3) ze)) ze))) (eC (.str ".")))) (xH 3 (eUn qv C))))
def bJ (C:Tn->R D)(a0 a1 a2 a4 a6 a7 a9 a10:Option D)(L:List D)(c j:Int)(X Y:D)(hl:L.length<50)(j0:0<=j)(j1:j<50)(hC:C [a0,a1,a2,some (.lst L),a4,some (.int c),a6,a7,some (.int j),some (.int (c/(11+j))),some (.str ((("note":Str)++(toString (L.length:Int):Str))++"."))]=.ok X)(hX:qv X=.ok Y):
  Xf C [a0,a1,a2,some (.lst L),a4,some (.int c),a6,a7,some (.int j),a9,a10]=.ok (.nx [a0,a1,a2,some (.lst (L++[Y])),a4,some (.int c),a6,a7,some (.int j),some (.int (c/(11+j))),some (.str ((("note":Str)++(toString (L.length:Int):Str))++"."))]):=by
 have l0:("note":Str).length=4:=by decide +kernel
 have l1:(toString (L.length:Int):Str).length<=2:=(wz (i:=(L.length:Int)) (by omega) (by omega)).1;have l2:(".":Str).length=1:=by decide +kernel
 have e0:x9 [.lst L]=.ok (.int (L.length:Int)):=u9;have e1:xj [.int (L.length:Int)]=.ok (.str (toString (L.length:Int))):=jd (by omega) (by omega);have a1':zw (.str "note") (.str (toString (L.length:Int)))=.ok (.str (("note":Str)++(toString (L.length:Int):Str))):=Zy (by omega) (by omega);have a2':zw (.str (("note":Str)++(toString (L.length:Int):Str))) (.str ".")=.ok (.str ((("note":Str)++(toString (L.length:Int):Str))++".")):=Zy (by rw[yq];omega) (by omega);have h1:yL (.int c) (.int (11+j))=.ok (.int (c/(11+j))):=wQ (by omega) (by omega);have ha:∀(τ:Tn) (d:D),qc 3 τ L d=.ok (.nx (τ.set 3 (some (.lst (L++[d]))))):=fun τ d=>if_pos (by rw[sizeLine_eq];omega);generalize (("note":Str)++(toString (L.length:Int):Str))++"."=Z at *;generalize ("note":Str)++(toString (L.length:Int):Str)=W at *;unfold Xf;simp -implicitDefEqProofs only [zj,zl,xN,xP,eL,za,ze,zd,eUn,zb,eC,jYa,tE,tD,tP,tR,yH,e0,e1,a1',a2',h1,hC,hX,ha]
def z25 (n:List Rw):qv (.lst (n.map zu))=.ok (zI n):=if_pos (zY Xu n)
def U5 {i:Int}(h0:0<=i)(h1:i<50):(("note":Str)++(toString i:Str)).length<=6/\46∉(("note":Str)++(toString i:Str)).cps.toList:=by
 have l0:("note":Str).length=4:=by decide +kernel
 have d0:46∉("note":Str).cps.toList:=by decide +kernel
 have hn:=wz h0 h1;refine⟨by rw[yq];exact Nat.add_le_add (Nat.le_of_eq l0) hn.1,fun z=>?_⟩;rw[xR]at z;rcases tW.mp z with z|z
 ·exact d0 z
 ·exact hn.2 z
def Qk {i:Int}(h0:0<=i)(h1:i<50):(("row":Str)++(toString i:Str)).length<=5/\46∉(("row":Str)++(toString i:Str)).cps.toList:=by
 have l0:("row":Str).length=3:=by decide +kernel
 have d0:46∉("row":Str).cps.toList:=by decide +kernel
 have hn:=wz h0 h1;refine⟨by rw[yq];exact Nat.add_le_add (Nat.le_of_eq l0) hn.1,fun z=>?_⟩;rw[xR]at z;rcases tW.mp z with z|z
 ·exact d0 z
 ·exact hn.2 z
theorem z0k (a0 a1 a2 a4 a6 a7:Option D)(c:Int):∀(m j:Nat) (ns:List (List Rw)) (a8 a9 a10:Option D),j+m<=2->ns.length+m<=49->∃xs z8 z9 z10,yl (Tgt.one 8).asg (Xf WJ) (rng j m) [a0,a1,a2,some (.lst (ns.map zI)),a4,some (.int c),a6,a7,a8,a9,a10]=.ok (.nx [a0,a1,a2,some (.lst ((ns++xs).map zI)),a4,some (.int c),a6,a7,z8,z9,z10])/\xs.length=m/\∀n∈xs,ZC n
 | 0,j,ns,a8,a9,a10,_,_=>⟨[],_,_,_,by rw[tQ];rfl,rfl,fun s hs=>nomatch hs⟩
 | m+1,j,ns,a8,a9,a10,hj,hl=>by
  have hd:=U5 (i:=((ns.map zI).length:Int)) (by omega) (by rw[tI];omega);obtain⟨n,hC,hN⟩:=Ul a0 a1 a2 (some (.lst (ns.map zI))) a4 (some (.int c)) a6 a7 (some (.int (j:Int))) (c/(11+(j:Int))) (("note":Str)++(toString ((ns.map zI).length:Int):Str)) (by omega) hd.2;have hB:=bJ WJ a0 a1 a2 a4 a6 a7 a9 a10 (ns.map zI) c (j:Int) _ _ (by rw[tI];omega) (by omega) (by omega) hC (z25 n);obtain⟨xs,z8,z9,z10,e,hx,hs⟩:=z0k a0 a1 a2 a4 a6 a7 c m (j+1) (ns++[n]) (some (.int (j:Int))) (some (.int (c/(11+(j:Int))))) (some (.str ((("note":Str)++(toString ((ns.map zI).length:Int):Str))++"."))) (by omega) (by rw[tK];show ns.length+1+_<=_;omega);refine⟨n::xs,z8,z9,z10,?_,by rw[tL,hx],fun s hs'=>?_⟩
  ·have ha:(Tgt.one 8).asg (.int (j:Int)) [a0,a1,a2,some (.lst (ns.map zI)),a4,some (.int c),a6,a7,a8,a9,a10]=.ok [a0,a1,a2,some (.lst (ns.map zI)),a4,some (.int c),a6,a7,some (.int (j:Int)),a9,a10]:=rfl;have em:(ns++[n]).map zI=ns.map zI++[zI n]:=by rw[sL];rfl
   rw[em,tO]at e;rw[xF,yc,ha,jYa,hB,jYa,yI,show (j:Int)+1=((j+1:Nat):Int) by omega];exact e
  ·rcases tV.mp hs' with rfl|z
   ·exact hN
   ·exact hs s z
def V1 {vs:List Int}{i:Int}(h0:0<=i)(h1:i<(vs.length:Int)):∃v,ixD (.lst (vs.map D.int)) (.int i)=.ok (.int v)/\v∈vs:=by
 have hi:i.toNat<vs.length:=by omega
 exact⟨vs[i.toNat],YI (Vg h0 (by rw[sJ,rD hi];rfl)),rP hi⟩
def jN:Tn->R D:=(zd ym (zd wb (zd zw (eL zo (za (zb 0) (za (zd zw (eC (.int 4)) (zd ym (zb 4) (eC (.int 18)))) ze))) (zd wb (eC (.int 17)) (zb 4))) (eC (.int 48271))) (eC (.int 1000003)))
def A1:Tn->R D:=(xm (eL (fun ds=>.ok (.tup ds)) (za (zb 6) (za (eUn qv (eL zP (za (zd yL (zb 5) (eC (.int 25))) (za (zb 6) (za (zd zw (zd zw (eC (.str "row")) (eL xj (za (zb 4) ze))) (eC (.str "."))) ze))))) (za (zb 7) ze)))))
def A2:Tn->R D:=(xm (eL (fun ds=>.ok (.tup ds)) (za (zd ixD (eL (fun ds=>.ok (.lst ds)) (za (eC (.int 0)) (za (eC (.int 1)) (za (eC (.int 0)) (za (eC (.int 2)) (za (eC (.int 3)) ze)))))) (zd ym (zd yL (zb 5) (eC (.int 125))) (eC (.int 5)))) (za (zb 6) (za (eC (.int 0)) (za (zb 7) ze))))))
def Yb (C X1 X2:Tn->R D)(FJ:Tn->R Fl):Tn->R Fl:=(zj (zl 5 C) (zj (zl 6 (zd ixD (eL (fun ds=>.ok (.lst ds)) (za (eC (.int 1)) (za (eC (.int 1)) (za (eC (.int 1)) (za (eC (.int 2)) (za (eC (.int 3)) ze)))))) (zd ym (zb 5) (eC (.int 5))))) (zj (zl 7 (zd ixD (eL (fun ds=>.ok (.lst ds)) (za (eC (.int 0)) (za (eC (.int 0)) (za (eC (.int 1)) (za (eC (.int 0)) (za (eC (.int 2)) ze)))))) (zd ym (zd yL (zb 5) (eC (.int 5))) (eC (.int 5))))) (zj (xH 1 X1) (zj (xH 2 X2) FJ)))))
def WW (S0:D)(k v:Int)(a1 a2 a3 a5 a6 a7 a8 a9 a10:Option D)(h:zo [S0,.int (4+k%18)]=.ok (.int v)):jN [some S0,a1,a2,a3,some (.int k),a5,a6,a7,a8,a9,a10]=.ok (.int ((v+17*k)*48271%1000003)):=by
 have m1:ym (.int k) (.int 18)=.ok (.int (k%18)):=rfl;have m2:wb (.int 17) (.int k)=.ok (.int (17*k)):=km (by decide) (by decide);have m3:wb (.int (v+17*k)) (.int 48271)=.ok (.int ((v+17*k)*48271)):=X7 (by decide) (by decide);have m4:ym (.int ((v+17*k)*48271)) (.int 1000003)=.ok (.int ((v+17*k)*48271%1000003)):=rfl;unfold jN;simp -implicitDefEqProofs only [eL,za,ze,zd,zb,eC,jYa,tE,tD,yH,h,m1,m2,m3,m4]
def z1b (a0 a1 a2 a3 a8 a9 a10:Option D)(k c h m:Int)(sp:List Spt)(k0:0<=k)(k1:k<50)(hs:zP [.int (c/25),.int h,.str ((("row":Str)++(toString k:Str))++".")]=.ok (.lst (sp.map zm))):A1 [a0,a1,a2,a3,some (.int k),some (.int c),some (.int h),some (.int m),a8,a9,a10]=.ok (.tup [.int h,.frl (sp.map zm),.int m]):=by
 have l0:("row":Str).length=3:=by decide +kernel
 have l1:(toString k:Str).length<=2:=(wz k0 k1).1;have l2:(".":Str).length=1:=by decide +kernel
 have e1:xj [.int k]=.ok (.str (toString k)):=jd k0 (by omega);have a1':zw (.str "row") (.str (toString k))=.ok (.str (("row":Str)++(toString k:Str))):=Zy (by omega) (by omega);have a2':zw (.str (("row":Str)++(toString k:Str))) (.str ".")=.ok (.str ((("row":Str)++(toString k:Str))++".")):=Zy (by rw[yq];omega) (by omega);have h1:yL (.int c) (.int 25)=.ok (.int (c/25)):=wQ (by decide) (by decide);have hz:=V9 sp;have hi:Z2 (.tup [.int h,.frl (sp.map zm),.int m])=.ok (.tup [.int h,.frl (sp.map zm),.int m]):=rfl;generalize sp.map zm=SP at *;generalize (("row":Str)++(toString k:Str))++"."=Z at *;generalize ("row":Str)++(toString k:Str)=W at *;unfold A1;simp -implicitDefEqProofs only [yP,eL,za,ze,zd,eUn,zb,eC,jYa,tE,tD,e1,a1',a2',h1,hs,hz,hi]
def z1r (a0 a1 a2 a3 a4 a8 a9 a10:Option D)(c g h m:Int)(hg:ixD (.lst [.int 0,.int 1,.int 0,.int 2,.int 3]) (.int (c/125%5))=.ok (.int g)):A2 [a0,a1,a2,a3,a4,some (.int c),some (.int h),some (.int m),a8,a9,a10]=.ok (.tup [.int g,.int h,.int 0,.int m]):=by
 have h1:yL (.int c) (.int 125)=.ok (.int (c/125)):=wQ (by decide) (by decide);have h2:ym (.int (c/125)) (.int 5)=.ok (.int (c/125%5)):=rfl;have hi:Z2 (.tup [.int g,.int h,.int 0,.int m])=.ok (.tup [.int g,.int h,.int 0,.int m]):=rfl;unfold A2;simp -implicitDefEqProofs only [yP,eL,za,ze,zd,zb,eC,jYa,tE,tD,h1,h2,hg,hi]
def bW (C X1 X2:Tn->R D)(FJ:Tn->R Fl)(a0 a3 a4 a5 a6 a7 a8 a9 a10:Option D)(L1 L2:List D)(c h m:Int)(d1 d2:D)(τ:Tn)(hl1:L1.length<16777216)(hl2:L2.length<16777216)(hC:C [a0,some (.lst L1),some (.lst L2),a3,a4,a5,a6,a7,a8,a9,a10]=.ok (.int c))
  (hh:ixD (.lst [.int 1,.int 1,.int 1,.int 2,.int 3]) (.int (c%5))=.ok (.int h)) (hm:ixD (.lst [.int 0,.int 0,.int 1,.int 0,.int 2]) (.int (c/5%5))=.ok (.int m))
  (h1:X1 [a0,some (.lst L1),some (.lst L2),a3,a4,some (.int c),some (.int h),some (.int m),a8,a9,a10]=.ok d1) (h2:X2 [a0,some (.lst (L1++[d1])),some (.lst L2),a3,a4,some (.int c),some (.int h),some (.int m),a8,a9,a10]=.ok d2)
  (hJ:FJ [a0,some (.lst (L1++[d1])),some (.lst (L2++[d2])),a3,a4,some (.int c),some (.int h),some (.int m),a8,a9,a10]=.ok (.nx τ)):
  Yb C X1 X2 FJ [a0,some (.lst L1),some (.lst L2),a3,a4,a5,a6,a7,a8,a9,a10]=.ok (.nx τ):=by
 have e1:yL (.int c) (.int 5)=.ok (.int (c/5)):=wQ (by decide) (by decide);have e2:ym (.int (c/5)) (.int 5)=.ok (.int (c/5%5)):=rfl;have e3:ym (.int c) (.int 5)=.ok (.int (c%5)):=rfl;have ha1:∀(τ:Tn) (d:D),qc 1 τ L1 d=.ok (.nx (τ.set 1 (some (.lst (L1++[d]))))):=fun τ d=>if_pos (by rw[sizeLine_eq];exact hl1);have ha2:∀(τ:Tn) (d:D),qc 2 τ L2 d=.ok (.nx (τ.set 2 (some (.lst (L2++[d]))))):=fun τ d=>if_pos (by rw[sizeLine_eq];exact hl2);unfold Yb;simp -implicitDefEqProofs only [zj,zl,xN,xP,eL,za,ze,zd,zb,eC,jYa,tE,tD,tP,tR,hC,e1,e2,e3,hh,hm,h1,h2,ha1,ha2,hJ]
def Vi:Tn->R Fl:=(yn (iL xU (za (zb 7) ze)) (.one 8) (Xf WJ))
def it7 (a0 a1 a2 a3 a4 a5 a6 a8 a9 a10:Option D)(m:Nat)(h:m<=2):(iL xU (za (zb 7) ze)) [a0,a1,a2,a3,a4,a5,a6,some (.int (m:Int)),a8,a9,a10]=.ok (rng ((0:Nat):Int) m):=by
 have h1:xU [.int (m:Int)]=.ok (rng ((0:Nat):Int) m):=by
  have:=ua (j:=(m:Int)) (by omega) (by omega);rw[show ((m:Int)).toNat=m by omega]at this;exact this
 simp -implicitDefEqProofs only [iL,za,ze,zb,jYa,tE,tD,h1]
def Ug (S0:D)(k:Nat)(v:Int)(ss:List Rw)(ns:List (List Rw))(hk:k<21)(hs:ss.length<=100)(hn:ns.length<=45)(a5 a6 a7 a8 a9 a10:Option D)(hv:zo [S0,.int (4+(k:Int)%18)]=.ok (.int v)):
  ∃r xs z5 z6 z7 z8 z9 z10,Yb jN A1 A2 Vi [some S0,some (.lst (ss.map zu)),some (.lst (ss.map zC)),some (.lst (ns.map zI)),some (.int (k:Int)),a5,a6,a7,a8,a9,a10]=.ok (.nx [some S0,some (.lst ((ss++[r]).map zu)),some (.lst ((ss++[r]).map zC)),some (.lst ((ns++xs).map zI)),some (.int (k:Int)),z5,z6,z7,z8,z9,z10])/\JC r/\xs.length=r.m/\∀n∈xs,ZC n:=by
 have hC:=WW S0 (k:Int) v (some (.lst (ss.map zu))) (some (.lst (ss.map zC))) (some (.lst (ns.map zI))) a5 a6 a7 a8 a9 a10 hv;generalize (v+17*(k:Int))*48271%1000003=c at hC;obtain⟨h,hh,mh⟩:=V1 (vs:=[1,1,1,2,3]) (i:=c%5) (by omega) (by show _<(5:Int);omega);obtain⟨m,hm,mm⟩:=V1 (vs:=[0,0,1,0,2]) (i:=c/5%5) (by omega) (by show _<(5:Int);omega);obtain⟨g,hg,mg⟩:=V1 (vs:=[0,1,0,2,3]) (i:=c/125%5) (by omega) (by show _<(5:Int);omega);simp only[tV,rH,or_false]at mh mm mg;have hd:=Qk (i:=(k:Int)) (by omega) (by omega);have l2:(".":Str).length=1:=by decide +kernel
 obtain⟨sp,h1,h2,h3⟩:=Zh (c/25) h ((("row":Str)++(toString (k:Int):Str))++".") (by rw[yq];omega) (by omega) (by omega);obtain⟨mn,hmn⟩:∃mn:Nat,m=(mn:Int):=⟨m.toNat,by omega⟩
 subst hmn;have hm2:mn<=2:=by omega
 obtain⟨xs,z8,z9,z10,e,hx,hN⟩:=z0k (some S0) (some (.lst ((ss++[(⟨g,h,mn,sp⟩:Rw)]).map zu))) (some (.lst ((ss++[(⟨g,h,mn,sp⟩:Rw)]).map zC))) (some (.int (k:Int))) (some (.int h)) (some (.int (mn:Int))) c mn 0 ns a8 a9 a10 (by omega) (by omega);have eR:(ss++[(⟨g,h,mn,sp⟩:Rw)]).map zu=ss.map zu++[.tup [.int h,.frl (sp.map zm),.int (mn:Int)]]:=by rw[sL];rfl
 have eS:(ss++[(⟨g,h,mn,sp⟩:Rw)]).map zC=ss.map zC++[.tup [.int g,.int h,.int 0,.int (mn:Int)]]:=by rw[sL];rfl
 have hJ:Vi _=_:=yO (it7 (some S0) (some (.lst ((ss++[(⟨g,h,mn,sp⟩:Rw)]).map zu))) (some (.lst ((ss++[(⟨g,h,mn,sp⟩:Rw)]).map zC))) (some (.lst (ns.map zI))) (some (.int (k:Int))) (some (.int c)) (some (.int h)) a8 a9 a10 mn hm2) e;rw[eR,eS]at hJ;refine⟨⟨g,h,mn,sp⟩,xs,some (.int c),some (.int h),some (.int (mn:Int)),z8,z9,z10,?_,⟨by show 1<=h;omega,by show h<=3;omega,by show g<=3;omega,hm2,by show 0<=g;omega,by show 0<=h;omega,h2,("row":Str)++(toString (k:Int):Str),fun s hs=>?_⟩,hx,hN⟩
 ·rw[eR,eS];exact bW jN A1 A2 Vi _ _ _ _ _ _ _ _ _ _ _ c h (mn:Int) _ _ _ (by rw[tI];omega) (by rw[tI];omega) hC hh hm (z1b _ _ _ _ _ _ _ (k:Int) c h (mn:Int) sp (by omega) (by omega) h1) (z1r _ _ _ _ _ _ _ _ c g h (mn:Int) hg) hJ
 ·exact (h3 s hs).row (y:="") (by apply ko;rw[xR _ ""];exact (tQ _).symm) hd.2 (by rw[yq];omega)
def J0 (ss:List Rw)(r:Rw):mk (ss++[r]) (ss++[r]).length=mk ss ss.length+r.m:=by
 unfold mk;rw[List.take_length,List.take_length,sL,List.sum_append]
 rfl
theorem z0z (ns0:List Int)(h63:ns0.length<=63):∀(m k:Nat) (ss:List Rw) (ns:List (List Rw)) (a4 a5 a6 a7 a8 a9 a10:Option D),k+m<=20->ss.length=k->ns.length=mk ss ss.length->(∀r∈ss,JC r)->(∀n∈ns,ZC n) ->
  ∃(ss':List Rw) (ns':List (List Rw)) (z4 z5 z6 z7 z8 z9 z10:Option D),yl (Tgt.one 4).asg (Yb jN A1 A2 Vi) (rng k m) [some (.frl (ns0.map D.int)),some (.lst (ss.map zu)),some (.lst (ss.map zC)),some (.lst (ns.map zI)),a4,a5,a6,a7,a8,a9,a10]=.ok (.nx [some (.frl (ns0.map D.int)),some (.lst (ss'.map zu)),some (.lst (ss'.map zC)),some (.lst (ns'.map zI)),z4,z5,z6,z7,z8,z9,z10])/\ss'.length=k+m/\ns'.length=mk ss' ss'.length/\(∀r∈ss',JC r)/\(∀n∈ns',ZC n)
 | 0,k,ss,ns,a4,a5,a6,a7,a8,a9,a10,_,hs,hn,h1,h2=>⟨ss,ns,_,_,_,_,_,_,_,rfl,hs,hn,h1,h2⟩
 | m+1,k,ss,ns,a4,a5,a6,a7,a8,a9,a10,hk,hs,hn,h1,h2=>by
  obtain⟨v,hv⟩:=cell ns0 (4+(k:Int)%18) (by omega) h63;have h40:=Ue ss ss.length fun r hr=>(h1 r hr).2.2.2.1;obtain⟨r,xs,z5,z6,z7,z8,z9,z10,e,hr,hx,hN⟩:=Ug (.frl (ns0.map D.int)) k v ss ns (by omega) (by omega) (by omega) a5 a6 a7 a8 a9 a10 hv;have hmk:=J0 ss r;obtain⟨ss',ns',y4,y5,y6,y7,y8,y9,y10,e2,g1,g2,g3,g4⟩:=z0z ns0 h63 m (k+1) (ss++[r]) (ns++xs) (some (.int (k:Int))) z5 z6 z7 z8 z9 z10 (by omega) (by rw[tK];show ss.length+1=_;omega) (by rw[hmk,tK];omega) (fun x hx=>by
    rcases tW.mp hx with z|z
    ·exact h1 x z
    ·rw[rE.mp z];exact hr) (fun x hx=>by
    rcases tW.mp hx with z|z
    ·exact h2 x z
    ·exact hN x z)
  refine⟨ss',ns',y4,y5,y6,y7,y8,y9,y10,?_,by omega,g2,g3,g4⟩;have ha:(Tgt.one 4).asg (.int (k:Int)) [some (.frl (ns0.map D.int)),some (.lst (ss.map zu)),some (.lst (ss.map zC)),some (.lst (ns.map zI)),a4,a5,a6,a7,a8,a9,a10]=.ok [some (.frl (ns0.map D.int)),some (.lst (ss.map zu)),some (.lst (ss.map zC)),some (.lst (ns.map zI)),some (.int (k:Int)),a5,a6,a7,a8,a9,a10]:=rfl;rw[xF,yc,ha,jYa,e,jYa,yI,show (k:Int)+1=((k+1:Nat):Int) by omega];exact e2
def JG (F:Tn->R Fl)(S0 x y z:D)(z4 z5 z6 z7 z8 z9 z10:Option D)(e:F [some S0,some (.lst []),some (.lst []),some (.lst []),none,none,none,none,none,none,none]=.ok (.nx [some S0,some x,some y,some z,z4,z5,z6,z7,z8,z9,z10])):zF 11 (zj (zl 1 (eL (fun ds=>.ok (.lst ds)) ze)) (zj (zl 2 (eL (fun ds=>.ok (.lst ds)) ze)) (zj (zl 3 (eL (fun ds=>.ok (.lst ds)) ze)) (zj F (zB (eL (fun ds=>.ok (.tup ds)) (za (zb 1) (za (zb 2) (za (zb 3) ze))))))))) [S0]=.ok (.tup [x,y,z]):=by
 simp -implicitDefEqProofs only [zF,zj,zl,zB,eL,za,ze,zb,jYa,tJ,sP,tL,sA,tY,tZ,sD,tU,Nat.reduceSub,sM,tE,tD,tP,tR,e]
def it0 (S0:D)(v:Int)(h:zo [S0,.int 0]=.ok (.int v))(a1 a2 a3 a4 a5 a6 a7 a8 a9 a10:Option D):(iL xU (za (zd ym (eL zo (za (zb 0) (za (eC (.int 0)) ze))) (eC (.int 21))) ze)) [some S0,a1,a2,a3,a4,a5,a6,a7,a8,a9,a10]=.ok (rng ((0:Nat):Int) (v%21).toNat):=by
 have h1:ym (.int v) (.int 21)=.ok (.int (v%21)):=rfl;have h2:xU [.int (v%21)]=.ok (rng ((0:Nat):Int) (v%21).toNat):=ua (by omega) (by omega);simp -implicitDefEqProofs only [iL,eL,za,ze,zd,zb,eC,jYa,tE,h,h1,h2]
def Qn (ns0:List Int)(h63:ns0.length<=63):∃(ss:List Rw) (ns:List (List Rw)),yS [.frl (ns0.map D.int)]=.ok (.tup [.lst (ss.map zu),.lst (ss.map zC),.lst (ns.map zI)])/\Gd ss ns/\Gt ss ns:=by
 obtain⟨v,hv⟩:=cell ns0 0 (by omega) h63;obtain⟨ss,ns,z4,z5,z6,z7,z8,z9,z10,e,g1,g2,g3,g4⟩:=z0z ns0 h63 (v%21).toNat 0 [] [] none none none none none none none (by omega) rfl rfl (fun _ h=>nomatch h) (fun _ h=>nomatch h);have hT:yS=zF 11 (zj (zl 1 (eL (fun ds=>.ok (.lst ds)) ze)) (zj (zl 2 (eL (fun ds=>.ok (.lst ds)) ze)) (zj (zl 3 (eL (fun ds=>.ok (.lst ds)) ze)) (zj (yn (iL xU (za (zd ym (eL zo (za (zb 0) (za (eC (.int 0)) ze))) (eC (.int 21))) ze)) (.one 4) (Yb jN A1 A2 Vi)) (zB (eL (fun ds=>.ok (.tup ds)) (za (zb 1) (za (zb 2) (za (zb 3) ze))))))))):=rfl;refine⟨ss,ns,?_,⟨by omega,g2.symm,fun r hr=>?_,fun n hn=>?_⟩,⟨fun r hr=>(g3 r hr).2.2.2.2,fun n hn r hr=>((g4 n hn).2.2 r hr).2⟩⟩
 ·rw[hT];exact JG _ _ _ _ _ _ _ _ _ _ _ _ (yO (it0 _ v hv _ _ _ _ _ _ _ _ _ _) e)
 ·obtain⟨e1,e2,e3,e4,e5,e6,e7,_⟩:=g3 r hr;exact⟨by omega,e1,e2,e5,e3,e4⟩
 ·obtain⟨e1,e2,e3⟩:=g4 n hn;refine⟨e1,e2,fun r hr=>⟨(e3 r hr).1,?_⟩⟩;have:=(e3 r hr).2.2.2.1;omega
def XA {k:Tn->R Bool}{b:Tn->R Fl}{τ:Tn}(h:k τ=.ok false):xw k b τ=.ok (.nx τ):=jF (n:=1) (by rw[we,h];rfl) (by simp)
def QG {k:Tn->R Bool}{b:Tn->R Fl}{τ τ2:Tn}{f:Fl}(h:k τ=.ok true)(hb:b τ=.ok (.nx τ2))(hw:xw k b τ2=.ok f):xw k b τ=.ok f:=by
 rcases qJ (k:=k) (body:=b) (τ:=τ2)with e|⟨n,e,_⟩
 ·rw[e]at hw;cases hw
 ·exact jF (n:=n+1) (by rw[we,h,jYa,if_pos rfl,hb,jYa];rw[hw]at e;exact e) (by simp)
def kVv:Tn->R Bool:=(zz (zd ltD (zb 3) (eL x9 (za (zb 1) ze))))
def QA:Tn->R D:=(eL wB (za (yh [none] (yf (eSl (zb 1) (ya (zb 3)) (ya (zb 5)))) (.one 0) (fun _=>.ok true) (zd ixD (zb 0) (eC (.int 3)))) ze))
def Xi (O:Tn->R D):Tn->R Fl:=(zj (zl 4 (zd zw (eL zo (za (zb 0) (za (zd zw (eC (.int 22)) (zd ym (eL x9 (za (zb 2) ze)) (eC (.int 12)))) ze))) (zd wb (eC (.int 5)) (eL x9 (za (zb 2) ze))))) (zj (zl 5 (eL jb (za (eL x9 (za (zb 1) ze)) (za (zd zw (zd zw (zb 3) (eC (.int 1))) (zd ym (zb 4) (eC (.int 6)))) ze)))) (zj (zl 6 O) (zj (zl 7 (eIf (zz (zd ltD (zb 5) (eL x9 (za (zb 1) ze)))) (zd ym (zd yL (zb 4) (eC (.int 6))) (zd zw (zb 6) (eC (.int 1)))) (eC (.int 0)))) (zj (xH 2 (xm (eL (fun ds=>.ok (.tup ds)) (za (zb 5) (za (zb 7) ze))))) (zl 3 (xm (zb 5))))))))
def Vt (a0 a2 a4 a5 a6 a7:Option D)(S:D)(b n:Int)(hS:x9 [S]=.ok (.int n)):kVv [a0,some S,a2,some (.int b),a4,a5,a6,a7]=.ok (decide (b<n)):=by
 have hl:ltD (.int b) (.int n)=.ok (.bl (decide (b<n))):=rfl;unfold kVv;simp -implicitDefEqProofs only [zz,asB,eL,za,ze,zd,zb,jYa,tE,tD,hS,hl]
def bV (O:Tn->R D)(S0 S:D)(L:List D)(a4 a5 a6 a7:Option D)(b n c0 c e own late:Int)(hl:L.length<16777216)(hS:x9 [S]=.ok (.int n))(hc:zo [S0,.int (22+(L.length:Int)%12)]=.ok (.int c0))(hcc:c0+5*(L.length:Int)=c)(he:(if b+1+c%6<n then b+1+c%6 else n)=e)(hO:O [some S0,some S,some (.lst L),some (.int b),some (.int c),some (.int e),a6,a7]=.ok (.int own))(ho:0<=own)(ht:(if e<n then c/6%(own+1) else 0)=late):
  Xi O [some S0,some S,some (.lst L),some (.int b),a4,a5,a6,a7]=.ok (.nx [some S0,some S,some (.lst (L++[.tup [.int e,.int late]])),some (.int e),some (.int c),some (.int e),some (.int own),some (.int late)]):=by
 have e0:x9 [.lst L]=.ok (.int (L.length:Int)):=u9;have m1:ym (.int (L.length:Int)) (.int 12)=.ok (.int ((L.length:Int)%12)):=rfl;have m2:wb (.int 5) (.int (L.length:Int))=.ok (.int (5*(L.length:Int))):=km (by decide) (by decide);have m3:ym (.int c) (.int 6)=.ok (.int (c%6)):=rfl;have m4:jb [.int n,.int (b+1+c%6)]=.ok (.int e):=by rw[<-he];rfl
 have m5:yL (.int c) (.int 6)=.ok (.int (c/6)):=wQ (by decide) (by decide);have m6:ym (.int (c/6)) (.int (own+1))=.ok (.int (c/6%(own+1))):=KY (by omega);have hlt:ltD (.int e) (.int n)=.ok (.bl (decide (e<n))):=rfl;have hi:Z2 (.tup [.int e,.int late])=.ok (.tup [.int e,.int late]):=rfl;have ha:∀(τ:Tn) (d:D),qc 2 τ L d=.ok (.nx (τ.set 2 (some (.lst (L++[d]))))):=fun τ d=>if_pos (by rw[sizeLine_eq];exact hl);unfold Xi
 by_cases hq:e<n
 ·rw[if_pos hq]at ht;rw[decide_eq_true hq]at hlt;subst ht;simp -implicitDefEqProofs only [zj,zl,xN,xP,yP,v8,eIf,zz,asB,eL,za,ze,zd,zb,eC,jYa,tE,tD,tP,tR,yH,if_true,hS,e0,m1,m2,m3,m4,m5,m6,hc,hcc,hO,hlt,hi,ha]
 ·rw[if_neg hq]at ht;rw[decide_eq_false hq]at hlt;subst ht;simp -implicitDefEqProofs only [zj,zl,xN,xP,yP,v8,eIf,zz,asB,eL,za,ze,zd,zb,eC,jYa,tE,tD,tP,tR,yH,if_false,sS,hS,e0,m1,m2,m3,m4,hc,hcc,hO,hlt,hi,ha]
def K4 {ss:List Rw}{b e:Nat}(a0 a2 a4 a6 a7:Option D)(h:b<=e)(he:e<=ss.length)(hn:ss.length<=1000):QA [a0,some (.lst (ss.map zC)),a2,some (.int (b:Int)),a4,some (.int (e:Int)),a6,a7]=.ok (.int ((mk ss e-mk ss b:Nat):Int)):=by
 have e1:=kR (ss:=ss) h;rw[show mk ss e-mk ss b=((cut ss b e).map Rw.m).sum by omega,<-j5];exact eL1 (u0 (f:=fun s:Rw=>.int (s.m:Int)) (sl 1 rfl rfl rfl rfl rfl h he) (by have:=qr h he;unfold cut at this;omega) rfl fun s _=>el3 s _) (Wf _ _)
def z1H (ns0:List Int)(h63:ns0.length<=63){ss:List Rw}(hn:ss.length<=1000):∀(f b a:Nat) (ls:List (Nat×Nat)) (a4 a5 a6 a7:Option D),ss.length-b<=f->b<=ss.length->a<=mk ss b->(b=ss.length->a=0)->ls.length+f<=100000->∃(xs:List (Nat×Nat)) (z3 z4 z5 z6 z7:Option D),xw kVv (Xi QA) [some (.frl (ns0.map D.int)),some (.lst (ss.map zC)),some (.lst (ls.map xG)),some (.int (b:Int)),a4,a5,a6,a7]=.ok (.nx [some (.frl (ns0.map D.int)),some (.lst (ss.map zC)),some (.lst ((ls++xs).map xG)),z3,z4,z5,z6,z7])/\LvOk ss xs b a:=by
 intro f;have hS:x9 [.lst (ss.map zC)]=.ok (.int (ss.length:Int)):=by rw[u9,tI]
 induction f with
 | zero =>
  intro b a ls a4 a5 a6 a7 hf hb ha h0 hl;have hbn:b=ss.length:=by omega
  have hk:=Vt (some (.frl (ns0.map D.int))) (some (.lst (ls.map xG))) a4 a5 a6 a7 (.lst (ss.map zC)) (b:Int) (ss.length:Int) hS;rw[decide_eq_false (by omega)]at hk;exact⟨[],_,_,_,_,_,by rw[tQ];exact XA hk,hbn,h0 hbn⟩
 | succ f ih =>
  intro b a ls a4 a5 a6 a7 hf hb ha h0 hl;have hk:=Vt (some (.frl (ns0.map D.int))) (some (.lst (ls.map xG))) a4 a5 a6 a7 (.lst (ss.map zC)) (b:Int) (ss.length:Int) hS
  by_cases hbn:b=ss.length
  ·rw[decide_eq_false (by omega)]at hk;exact⟨[],_,_,_,_,_,by rw[tQ];exact XA hk,hbn,h0 hbn⟩
  ·rw[decide_eq_true (by omega)]at hk;obtain⟨c0,hc⟩:=cell ns0 (22+((ls.map xG).length:Int)%12) (by omega) h63;obtain⟨c,hcc⟩:∃c,c0+5*((ls.map xG).length:Int)=c:=⟨_,rfl⟩
   obtain⟨e,he,hbe,hen⟩:∃e:Nat,(if (b:Int)+1+c%6<(ss.length:Int) then (b:Int)+1+c%6 else (ss.length:Int))=(e:Int)/\b<e/\e<=ss.length:=by
    by_cases hq:(b:Int)+1+c%6<(ss.length:Int)
    ·rw[if_pos hq];exact⟨((b:Int)+1+c%6).toNat,by omega,by omega,by omega⟩
    ·rw[if_neg hq];exact⟨ss.length,rfl,by omega,tM _⟩
   have mm:=vc (ss:=ss) (rK hbe);obtain⟨t,ht,htl,htn⟩:∃t:Nat,(if (e:Int)<(ss.length:Int) then c/6%(((mk ss e-mk ss b:Nat):Int)+1) else 0)=(t:Int)/\t<=mk ss e-mk ss b/\(e=ss.length->t=0):=by
    by_cases hq:(e:Int)<(ss.length:Int)
    ·rw[if_pos hq];have h1:=Int.emod_nonneg (c/6) (b:=((mk ss e-mk ss b:Nat):Int)+1) (by omega);have h2:=Int.emod_lt_of_pos (c/6) (b:=((mk ss e-mk ss b:Nat):Int)+1) (by omega);exact⟨(c/6%(((mk ss e-mk ss b:Nat):Int)+1)).toNat,by omega,by omega,fun z=>by omega⟩
    ·rw[if_neg hq];exact⟨0,rfl,sZ _,fun _=>rfl⟩
   have hB:=bV QA (.frl (ns0.map D.int)) (.lst (ss.map zC)) (ls.map xG) a4 a5 a6 a7 (b:Int) (ss.length:Int) c0 c (e:Int) ((mk ss e-mk ss b:Nat):Int) (t:Int) (by rw[tI];omega) hS hc hcc he (K4 _ _ _ _ _ (rK hbe) hen hn) (by omega) ht;obtain⟨xs,z3,z4,z5,z6,z7,hw,hL⟩:=ih e t (ls++[(e,t)]) (some (.int c)) (some (.int (e:Int))) (some (.int ((mk ss e-mk ss b:Nat):Int))) (some (.int (t:Int))) (by omega) hen (by omega) htn (by rw[tK];show ls.length+1+_<=_;omega);refine⟨(e,t)::xs,z3,z4,z5,z6,z7,QG hk hB ?_,⟨hbe,hen,ha,htl⟩,hL⟩;have em:(ls++[(e,t)]).map xG=ls.map xG++[.tup [.int (e:Int),.int (t:Int)]]:=by rw[sL];rfl
   rw[em,tO]at hw;exact hw
def JY (F:Tn->R Fl)(S0 S x:D)(z3 z4 z5 z6 z7:Option D)(e:F [some S0,some S,some (.lst []),some (.int 0),none,none,none,none]=.ok (.nx [some S0,some S,some x,z3,z4,z5,z6,z7])):zF 8 (zj (zl 2 (eL (fun ds=>.ok (.lst ds)) ze)) (zj (zl 3 (eC (.int 0))) (zj F (zB (zb 2))))) [S0,S]=.ok x:=by
 simp -implicitDefEqProofs only [zF,zj,zl,zB,zb,eC,eL,ze,jYa,tJ,sP,tL,sA,tY,tZ,sD,tU,tE,tD,tP,tR,Nat.reduceAdd,Nat.reduceSub,sM,e]
def Wc (ns0:List Int)(h63:ns0.length<=63)(ss:List Rw)(hn:ss.length<=1000):∃ls:List (Nat×Nat),yu [.frl (ns0.map D.int),.lst (ss.map zC)]=.ok (.lst (ls.map xG))/\LvOk ss ls 0 0:=by
 obtain⟨xs,z3,z4,z5,z6,z7,hw,hL⟩:=z1H ns0 h63 hn ss.length 0 0 [] none none none none (by omega) (sZ _) (sZ _) (fun _=>rfl) (by show 0+_<=_;omega);have hT:yu=zF 8 (zj (zl 2 (eL (fun ds=>.ok (.lst ds)) ze)) (zj (zl 3 (eC (.int 0))) (zj (xw kVv (Xi QA)) (zB (zb 2))))):=rfl;refine⟨xs,?_,hL⟩;rw[hT];exact JY _ _ _ _ _ _ _ _ _ hw
def xg (H:Int):D:=(.dic [.inr "width",.inr "part",.inr "twin",.inr "over",.inr "lone",.inr "late",.inr "gap",.inr "height",.inr "ahead",.inr "behind"] [.int 40,.int 1,.int 2,.int 3,.int 4,.int 5,.int 1,.int H,.int 2,.int 2])
def z0I (H:Int):ixD (xg H) (.str "height")=.ok (.int H):=rfl
def Vv (H:Int):eqE (xg H) (xg H)=some true:=by
 have k0:L2.lookD [.inr "width",.inr "part",.inr "twin",.inr "over",.inr "lone",.inr "late",.inr "gap",.inr "height",.inr "ahead",.inr "behind"] [.int 40,.int 1,.int 2,.int 3,.int 4,.int 5,.int 1,.int H,.int 2,.int 2] (.inr "width")=some (.int 40):=rfl;have k1:L2.lookD [.inr "width",.inr "part",.inr "twin",.inr "over",.inr "lone",.inr "late",.inr "gap",.inr "height",.inr "ahead",.inr "behind"] [.int 40,.int 1,.int 2,.int 3,.int 4,.int 5,.int 1,.int H,.int 2,.int 2] (.inr "part")=some (.int 1):=rfl;have k2:L2.lookD [.inr "width",.inr "part",.inr "twin",.inr "over",.inr "lone",.inr "late",.inr "gap",.inr "height",.inr "ahead",.inr "behind"] [.int 40,.int 1,.int 2,.int 3,.int 4,.int 5,.int 1,.int H,.int 2,.int 2] (.inr "twin")=some (.int 2):=rfl;have k3:L2.lookD [.inr "width",.inr "part",.inr "twin",.inr "over",.inr "lone",.inr "late",.inr "gap",.inr "height",.inr "ahead",.inr "behind"] [.int 40,.int 1,.int 2,.int 3,.int 4,.int 5,.int 1,.int H,.int 2,.int 2] (.inr "over")=some (.int 3):=rfl;have k4:L2.lookD [.inr "width",.inr "part",.inr "twin",.inr "over",.inr "lone",.inr "late",.inr "gap",.inr "height",.inr "ahead",.inr "behind"] [.int 40,.int 1,.int 2,.int 3,.int 4,.int 5,.int 1,.int H,.int 2,.int 2] (.inr "lone")=some (.int 4):=rfl;have k5:L2.lookD [.inr "width",.inr "part",.inr "twin",.inr "over",.inr "lone",.inr "late",.inr "gap",.inr "height",.inr "ahead",.inr "behind"] [.int 40,.int 1,.int 2,.int 3,.int 4,.int 5,.int 1,.int H,.int 2,.int 2] (.inr "late")=some (.int 5):=rfl;have k6:L2.lookD [.inr "width",.inr "part",.inr "twin",.inr "over",.inr "lone",.inr "late",.inr "gap",.inr "height",.inr "ahead",.inr "behind"] [.int 40,.int 1,.int 2,.int 3,.int 4,.int 5,.int 1,.int H,.int 2,.int 2] (.inr "gap")=some (.int 1):=rfl;have k7:L2.lookD [.inr "width",.inr "part",.inr "twin",.inr "over",.inr "lone",.inr "late",.inr "gap",.inr "height",.inr "ahead",.inr "behind"] [.int 40,.int 1,.int 2,.int 3,.int 4,.int 5,.int 1,.int H,.int 2,.int 2] (.inr "height")=some (.int H):=rfl;have k8:L2.lookD [.inr "width",.inr "part",.inr "twin",.inr "over",.inr "lone",.inr "late",.inr "gap",.inr "height",.inr "ahead",.inr "behind"] [.int 40,.int 1,.int 2,.int 3,.int 4,.int 5,.int 1,.int H,.int 2,.int 2] (.inr "ahead")=some (.int 2):=rfl;have k9:L2.lookD [.inr "width",.inr "part",.inr "twin",.inr "over",.inr "lone",.inr "late",.inr "gap",.inr "height",.inr "ahead",.inr "behind"] [.int 40,.int 1,.int 2,.int 3,.int 4,.int 5,.int 1,.int H,.int 2,.int 2] (.inr "behind")=some (.int 2):=rfl;show um _ _ _ _=some true;simp[um,L2.hitsD,k0,k1,k2,k3,k4,k5,k6,k7,k8,k9,D.isS,eqS]
def Xb (n:Nat){xs:List D}(h:∀d∈xs,eqF n d d=some true):eqF (n+1) (.frl xs) (.frl xs)=some true:=by
 show (if xs.length=xs.length then yj (eqF n) xs xs else some false)=_;rw[if_pos rfl,wY h]
def z1h (n:Nat)(r:Rw):eqF (n+4) (zu r) (zu r)=some true:=by
 refine ub (n+3) fun d hd=>?_;simp only[tV,rH,or_false]at hd;rcases hd with rfl|rfl|rfl
 ·rw[v7];simp
 ·refine Xb (n+2) fun d hd=>?_;obtain⟨s,_,rfl⟩:=rF.mp hd;exact eqP (n+1) s
 ·rw[v7];simp
def z28 (n:Nat)(r:Rw):eqF (n+1) (zC r) (zC r)=some true:=by
 refine ub n fun d hd=>?_;simp only[tV,rH,or_false]at hd;rcases hd with rfl|rfl|rfl|rfl<;>rw[v7]<;>simp
def z1Y (n:Nat)(p:Nat×Nat):eqF (n+1) (xG p) (xG p)=some true:=by
 refine ub n fun d hd=>?_;simp only[tV,rH,or_false]at hd;rcases hd with rfl|rfl<;>rw[v7]<;>simp
def z1N (n:Nat)(x:List Rw):eqF (n+5) (zI x) (zI x)=some true:=
 Xb (n+4) fun d hd=>by
  obtain⟨r,_,rfl⟩:=rF.mp hd;exact z1h n r
def WD (H:Int)(ss:List Rw)(ns:List (List Rw))(ls:List (Nat×Nat)):kY (.lst [xg H,.lst (ss.map zC),.lst (ss.map zu),.lst (ns.map zI),.lst (ls.map xG)]) (.lst [xg H,.lst (ss.map zC),.lst (ss.map zu),.lst (ns.map zI),.lst (ls.map xG)])=.ok (.bl false):=by
 have h1:=Vv H;have h2:eqE (.lst (ss.map zC)) (.lst (ss.map zC))=some true:=v9 10 fun d hd=>by
  obtain⟨k,_,rfl⟩:=rF.mp hd;exact z28 9 k
 have h3:eqE (.lst (ss.map zu)) (.lst (ss.map zu))=some true:=v9 10 fun d hd=>by
  obtain⟨k,_,rfl⟩:=rF.mp hd;exact z1h 6 k
 have h4:eqE (.lst (ns.map zI)) (.lst (ns.map zI))=some true:=v9 10 fun d hd=>by
  obtain⟨k,_,rfl⟩:=rF.mp hd;exact z1N 5 k
 have h5:eqE (.lst (ls.map xG)) (.lst (ls.map xG))=some true:=v9 10 fun d hd=>by
  obtain⟨k,_,rfl⟩:=rF.mp hd;exact z1Y 9 k
 have hz:yj eqE [xg H,.lst (ss.map zC),.lst (ss.map zu),.lst (ns.map zI),.lst (ls.map xG)] [xg H,.lst (ss.map zC),.lst (ss.map zu),.lst (ns.map zI),.lst (ls.map xG)]=some true:=by
  simp only[yj,h1,h2,h3,h4,h5]
  rfl
 unfold kY;dsimp only;rw[if_pos rfl,hz]
 rfl
def TL (G2:Tn->R Fl):Tn->R Fl:=(zj (Z9 (.many [1,2,3]) (eL yS (za (zb 0) ze))) (zj (zl 4 (eL yu (za (zb 0) (za (zb 2) ze)))) (zj (zl 5 (eL (fun ds=>.ok (.dic [.inr "width",.inr "part",.inr "twin",.inr "over",.inr "lone",.inr "late",.inr "gap"] ds)) (za (eC (.int 40)) (za (eC (.int 1)) (za (eC (.int 2)) (za (eC (.int 3)) (za (eC (.int 4)) (za (eC (.int 5)) (za (eC (.int 1)) ze))))))))) (zj (vO 5 (zd zw (eC (.int 4)) (zd ym (eL zo (za (zb 0) (za (eC (.int 1)) ze))) (eC (.int 11)))) (eC (.str "height"))) (zj (vO 5 (eC (.int 2)) (eC (.str "ahead"))) (zj (vO 5 (eC (.int 2)) (eC (.str "behind"))) (zj (zl 6 (eL xb (za (zb 5) (za (zb 2) (za (zb 1) (za (zb 3) (za (zb 4) ze))))))) (zj (zl 7 (eL (fun ds=>.ok (.lst ds)) (za (eL vV (za (zb 5) ze)) (za (eL yT (za (zb 2) ze)) (za (eL yT (za (zb 1) ze)) (za (eL yT (za (zb 3) ze)) (za (eL yT (za (zb 4) ze)) ze))))))) (zj (zl 8 (eL xv (za (zd ixD (zb 7) (eC (.int 0))) (za (zd ixD (zb 7) (eC (.int 1))) (za (zd ixD (zb 7) (eC (.int 2))) (za (zd ixD (zb 7) (eC (.int 3))) (za (zd ixD (zb 7) (eC (.int 4))) ze))))))) (zj (sIf (bOr (xJ (zz (eL ye (za (zb 8) (za (zb 6) ze))))) (zz (zd kY (zb 7) (eL (fun ds=>.ok (.lst ds)) (za (zb 5) (za (zb 2) (za (zb 1) (za (zb 3) (za (zb 4) ze))))))))) (zB (eC (.bl false))) yi) (zj (sIf (xJ (zz (eL yJ (za (zb 8) (za (zb 1) (za (zb 3) ze)))))) (zB (eC (.bl false))) yi) (zj G2 (zj (xH 8 (eL (fun ds=>.ok (.tup ds)) (za (eL (fun ds=>.ok (.lst ds)) ze) (za (eC .non) (za (eL (fun ds=>.ok (.lst ds)) ze) ze))))) (zB (eL ye (za (eL xv (za (zb 5) (za (zb 2) (za (zb 1) (za (zb 3) (za (zb 4) ze)))))) (za (zb 6) ze)))))))))))))))))
def KN (G2:Tn->R Fl)(S0 RW ST NT LV:D)(PS PS2:List D)(v H:Int)(hH:4+v%11=H)(hP2:PS2.length<16777216)(hR:yS [S0]=.ok (.tup [RW,ST,NT]))(hL:yu [S0,ST]=.ok LV)(hc:zo [S0,.int 1]=.ok (.int v))(du:xb [xg H,ST,RW,NT,LV]=.ok (.lst PS))(l1:yT [ST]=.ok ST)(l2:yT [RW]=.ok RW)(l3:yT [NT]=.ok NT)(l4:yT [LV]=.ok LV)
  (pl:xv [xg H,ST,RW,NT,LV]=.ok (.lst PS)) (rt:ye [.lst PS,.lst PS]=.ok (.bl true)) (ne:kY (.lst [xg H,ST,RW,NT,LV]) (.lst [xg H,ST,RW,NT,LV])=.ok (.bl false)) (ap:yJ [.lst PS,RW,NT]=.ok (.bl true))
  (hG:∀a0 a1 a2 a3 a4 a5 a6 a7 a9:Option D,G2 [a0,a1,a2,a3,a4,a5,a6,a7,some (.lst PS),a9]=.ok (.nx [a0,a1,a2,a3,a4,a5,a6,a7,some (.lst PS2),a9])):zF 10 (TL G2) [S0]=.ok (.bl true):=by
 have k7:∀τ:Tn,jQ 5 τ (.int H) (.dic [.inr "width",.inr "part",.inr "twin",.inr "over",.inr "lone",.inr "late",.inr "gap"] [.int 40,.int 1,.int 2,.int 3,.int 4,.int 5,.int 1]) (.str "height")=.ok (.nx (τ.set 5 (some (.dic [.inr "width",.inr "part",.inr "twin",.inr "over",.inr "lone",.inr "late",.inr "gap",.inr "height"] [.int 40,.int 1,.int 2,.int 3,.int 4,.int 5,.int 1,.int H])))):=fun τ=>by rw[kS rfl (by decide)];rfl
 have k8:∀τ:Tn,jQ 5 τ (.int 2) (.dic [.inr "width",.inr "part",.inr "twin",.inr "over",.inr "lone",.inr "late",.inr "gap",.inr "height"] [.int 40,.int 1,.int 2,.int 3,.int 4,.int 5,.int 1,.int H]) (.str "ahead")=.ok (.nx (τ.set 5 (some (.dic [.inr "width",.inr "part",.inr "twin",.inr "over",.inr "lone",.inr "late",.inr "gap",.inr "height",.inr "ahead"] [.int 40,.int 1,.int 2,.int 3,.int 4,.int 5,.int 1,.int H,.int 2])))):=fun τ=>by rw[kS rfl (by decide)];rfl
 have k9:∀τ:Tn,jQ 5 τ (.int 2) (.dic [.inr "width",.inr "part",.inr "twin",.inr "over",.inr "lone",.inr "late",.inr "gap",.inr "height",.inr "ahead"] [.int 40,.int 1,.int 2,.int 3,.int 4,.int 5,.int 1,.int H,.int 2]) (.str "behind")=.ok (.nx (τ.set 5 (some (xg H)))):=fun τ=>by rw[kS rfl (by decide)];rfl
 have m1:ym (.int v) (.int 11)=.ok (.int (v%11)):=rfl;have d1:vV [xg H]=.ok (xg H):=rfl;have x0:∀a b c d e:D,ixD (.lst [a,b,c,d,e]) (.int 0)=.ok a:=fun _ _ _ _ _=>rfl;have x1:∀a b c d e:D,ixD (.lst [a,b,c,d,e]) (.int 1)=.ok b:=fun _ _ _ _ _=>rfl;have x2:∀a b c d e:D,ixD (.lst [a,b,c,d,e]) (.int 2)=.ok c:=fun _ _ _ _ _=>rfl;have x3:∀a b c d e:D,ixD (.lst [a,b,c,d,e]) (.int 3)=.ok d:=fun _ _ _ _ _=>rfl;have x4:∀a b c d e:D,ixD (.lst [a,b,c,d,e]) (.int 4)=.ok e:=fun _ _ _ _ _=>rfl;have ha:∀(τ:Tn) (d:D),qc 8 τ PS2 d=.ok (.nx (τ.set 8 (some (.lst (PS2++[d]))))):=fun τ d=>if_pos (by rw[sizeLine_eq];exact hP2);generalize xg H=RL at *;unfold TL;simp -implicitDefEqProofs only [zF,zj,zl,zB,sIf,yi,Z9,Tgt.asg,yC,bOr,xJ,zz,asB,eL,za,ze,zd,zb,eC,xN,xP,Vq,jYa,tJ,sP,tL,sA,tY,tZ,sD,tU,Nat.reduceAdd,Nat.reduceSub,sM,tE,tD,tP,tR,if_true,if_false,sS,rQ,yH,hR,hL,hc,m1,hH,k7,k8,k9,du,d1,l1,l2,l3,l4,x0,x1,x2,x3,x4,pl,rt,ne,ap,hG,ha]
def law_true (ns0:List Int)(h63:ns0.length<=63):F_law [.frl (ns0.map D.int)]=.ok (.bl true):=by
 obtain⟨ss,ns,hR,G,T⟩:=Qn ns0 h63;have hn:=G.hn;obtain⟨ls,hL,L⟩:=Wc ns0 h63 ss (by omega);obtain⟨v,hc⟩:=cell ns0 1 (by omega) h63;have hll:=L.len;have hsp:=L.sp;have du:=z0b G (z0I (4+v%11)) (ls:=ls) (by omega) hsp;have pl:=Wn G (z0I (4+v%11)) (ls:=ls) (by omega) hsp;have hpg:∀p∈(spn ls 0 0).map (xW (4+v%11) ss ns),PgOk p:=fun p hp=>by
  obtain⟨x,_,rfl⟩:=rF.mp hp;exact QH G T _ x
 have hpl:((spn ls 0 0).map (xW (4+v%11) ss ns)).length<=20:=by rw[tI,kK];omega
 have rt:=Vr ((spn ls 0 0).map (xW (4+v%11) ss ns)) fun p hp=>by have:=(hpg p hp).len;omega
 have ap:=VO G _ hpg (by omega) (XE G.hm _ L);have hT:F_law=zF 10 (TL (kI 8 0 2 (.tup [.int 0,.int 0,.str "more"]))):=rfl;rw[hT];refine KN _ _ _ _ _ _ _ ((((spn ls 0 0).map (xW (4+v%11) ss ns)).map x6).map (kE (.tup [.int 0,.int 0,.str "more"]) 0 2)) v _ rfl (by rw[tI,tI];omega) hR hL hc du (ue (zY Vp ss)) (ue (zY Xu ss)) (ue (zY Jy ns)) (ue (zY (fun _=>rfl) ls)) pl rt (WD _ ss ns ls) ap fun a0 a1 a2 a3 a4 a5 a6 a7 a9=>?_;have hall:(((spn ls 0 0).map (xW (4+v%11) ss ns)).map x6).all (VZ 0 2)=true:=by
  rw[rZ];intro d hd;obtain⟨p,hp,rfl⟩:=rF.mp hd;have hlen:=(hpg p hp).len;show (decide ((p.body.map zm).length<sizeLine)&&decide ((p.foot.map zm).length<sizeLine))=true;rw[tI,tI,sizeLine_eq,decide_eq_true (by omega),decide_eq_true (by omega)]
  rfl
 exact if_pos hall
open PySem PySem.W PyProof.Rows
def e (P:Params)(k:Str)(t:Nat)(v:Value):DictEntry:={ hash:=PyData.keyHash P k,key:=.str k t,val:=v }
def dO (v:Array DictEntry)(n:Nat):Obj:={ cls:=.type "dict",data:=.dict v n }
def cO (n:Str)(t l a f r k:Nat):Obj:={ cls:=.type "code",data:=.fields #[.str n t,.str n (t+1),.str "/claim/cut.py" (t+2),.int l 0,.int a 0,.int 0 0,.int 0 0,.int f 0,.ref r,.bool true,.int 181 0,.ref (r+1),.none,.ref (r+2),.ref (r+3),.ref (r+4),.int k 0,.int l 0,.str "/claim/cut.py" (k+1)] }
def cN (n:Str)(t l a r:Nat):Obj:={ cls:=.type "code",data:=.fields #[.str n t,.str n (t+1),.str "/claim/cut.py" (t+2),.int l 0,.int a 0,.int 0 0,.int 0 0,.int 3 0,.ref r,.bool true,.int 181 0,.ref (r+1),.none,.none,.none,.ref (r+2),.int (t+3) 0,.int l 0,.str "/claim/cut.py" (t+4)] }
def fO (n:Str)(i c:Nat)(m:Str)(t:Nat):Obj:=⟨.type "function",none,.func (fnOf n n (L2.defArgs (top i)) (L2.defBody (top i)) (L2.defScope (top i)) .none .none .none (.str m t) none (.ref c) .none),#[]⟩
def K0 (P:Params):Frag:=[
 (3,dO #[e P "__name__" 165 (.str "law_quirehand_k25_whole_pages_placed" 276),e P "__doc__" 166 .none,e P "__package__" 167 .none,e P "__loader__" 168 (.builtin "__main__.__loader__#opaque"),e P "__spec__" 169 .none,e P "__annotations__" 170 (.ref 6),e P "__builtins__" 171 (.ref 4),e P "__file__" 173 (.str "/claim/cut.py" 172),e P "__cached__" 174 .none,e P "marks_in" 194 (.ref 19),e P "body_height" 200 (.ref 24),e P "foot_of" 212 (.ref 31),e P "spans" 224 (.ref 38),e P "lowered" 232 (.ref 43),e P "body_spots" 245 (.ref 50),e P "note_height" 251 (.ref 55),e P "foot_spots" 263 (.ref 62),e P "page_of" 269 (.ref 67),e P "placed" 275 (.ref 72),e P "_law_cell_at" 285 (.ref 79),e P "_law_spots" 297 (.ref 86),e P "_law_rows" 303 (.ref 91),e P "_law_leaves" 309 (.ref 96),e P "_law_under" 315 (.ref 101),e P "_law_due" 321 (.ref 106),e P "_law_right" 327 (.ref 111),e P "_law_apart" 333 (.ref 116),e P "law" 349 (.ref 123)] 28),
 (6,dO #[] 0),
 (18,cN "marks_in" 189 2 3 15),
 (19,fO "marks_in" 1 18 "quirehand.leaves" 187),
 (23,cN "body_height" 195 4 3 20),
 (24,fO "body_height" 2 23 "quirehand.leaves" 187),
 (30,cO "foot_of" 201 7 5 3 25 210),
 (31,fO "foot_of" 3 30 "quirehand.leaves" 187),
 (37,cO "spans" 213 10 1 3 32 222),
 (38,fO "spans" 4 37 "quirehand.leaves" 187),
 (42,cN "lowered" 227 20 2 39),
 (43,fO "lowered" 6 42 "quirehand.placing" 225),
 (49,cO "body_spots" 233 22 4 3 44 243),
 (50,fO "body_spots" 7 49 "quirehand.placing" 225),
 (54,cN "note_height" 246 31 1 51),
 (55,fO "note_height" 8 54 "quirehand.placing" 225),
 (61,cO "foot_spots" 252 33 2 3 56 261),
 (62,fO "foot_spots" 9 61 "quirehand.placing" 225),
 (66,cN "page_of" 264 41 5 63),
 (67,fO "page_of" 10 66 "quirehand.placing" 225),
 (71,cN "placed" 270 52 5 68),
 (72,fO "placed" 11 71 "quirehand.placing" 225),
 (78,cO "_law_cell_at" 278 55 2 3 73 283),
 (79,fO "_law_cell_at" 13 78 "law_quirehand_k25_whole_pages_placed" 276),
 (85,cO "_law_spots" 286 59 3 3 80 295),
 (86,fO "_law_spots" 14 85 "law_quirehand_k25_whole_pages_placed" 276),
 (90,cN "_law_rows" 298 65 1 87),
 (91,fO "_law_rows" 15 90 "law_quirehand_k25_whole_pages_placed" 276),
 (95,cN "_law_leaves" 304 80 2 92),
 (96,fO "_law_leaves" 16 95 "law_quirehand_k25_whole_pages_placed" 276),
 (100,cN "_law_under" 310 91 2 97),
 (101,fO "_law_under" 17 100 "law_quirehand_k25_whole_pages_placed" 276),
 (105,cN "_law_due" 316 97 5 102),
 (106,fO "_law_due" 18 105 "law_quirehand_k25_whole_pages_placed" 276),
 (110,cN "_law_right" 322 119 2 107),
 (111,fO "_law_right" 19 110 "law_quirehand_k25_whole_pages_placed" 276),
 (115,cN "_law_apart" 328 128 3 112),
 (116,fO "_law_apart" 20 115 "law_quirehand_k25_whole_pages_placed" 276),
 (122,cO "law" 334 148 1 3 117 347),
 (123,fO "law" 21 122 "law_quirehand_k25_whole_pages_placed" 276)]
abbrev pw:Program:=PySem.Challenge.pw_quirehand_k25_whole_pages_placed
def as0:List Addr:=[3,6,18,19,23,24,30,31,37,38,42,43,49,50,54,55,61,62,66,67,71,72,78,79,85,86,90,91,95,96,100,101,105,106,110,111,115,116,122,123]
def as_eq:∀P,as0=(K0 P).map (·.1):=fun _=>rfl
def q0:Program:=view pw [1,2,3,4,6,7,8,9,10,11,13,14,15,16,17,18,19,20,21]
def X0 (s:Shared):Bool:=xlAt q0 [] s&&recOk [] s
def x1 (s:Shared)(e:X0 s=true):xlAt q0 [] s=true/\recOk [] s=true:=(Bool.and_eq_true_iff).mp e
def Y0 (s:Shared):List (Option Obj):=as0.map s.heap.get?
def A0 (w:World):List (Option Obj):=(K0 w.params).map fun p=>some p.2
def t0:(PySem.Challenge.pw_quirehand_k25_whole_pages_placed.main.body.length==22)=true:=by k_qdec
section
set_option maxHeartbeats 0
theorem Pa:HW.Pa pw q0 [] X0 Y0 A0 611:=by intro w os;unfold HW.runAll q0 pw;rw[Fast.te1964640262564205034];kernel_rfl
theorem Pb:HW.Pb pw q0 [] X0 Y0 611:=by intro w os;unfold HW.runAll q0 pw;rw[Fast.te1964640262564205034];kernel_rfl
theorem Pc:HW.Pc pw q0 [] X0 Y0 611:=by intro w os;unfold HW.runAll q0 pw;rw[Fast.te1964640262564205034];kernel_rfl
theorem Pd:HW.Pd pw q0 [] X0 Y0 611:=by intro w os;unfold HW.runAll q0 pw;rw[Fast.te1964640262564205034];kernel_rfl
theorem Pe:HW.Pe pw q0 [] X0 Y0 611:=by intro w os;unfold HW.runAll q0 pw;rw[Fast.te1964640262564205034];kernel_rfl
theorem Pf:HW.Pf pw q0 [] X0 Y0 611:=by intro w os;unfold HW.runAll q0 pw;rw[Fast.te1964640262564205034];kernel_rfl
def left0:LeftO pw q0 [] X0 Y0 A0 1282:=HW.left_of (n1:=611) (by kernel_rfl) rfl (fun _=>rfl) (fun _=>by kernel_rfl) rfl Pa Pb Pc Pd Pe Pf
end
open PySem PySem.Spec PySem.W PyProof.Rows L2
def facts (w:World)(mg:Str->Option Value)(fa:Addr)(h:Heap)(X:(K0 w.params).In h)(G:h.Ns mainGlobals mg)(hfa:mg "law"=some (.ref fa)):
  ∃fd:FuncData,(∀(s:Shared) (u:Value),BindsTo s fd ⟨[u],[]⟩ [("_law_script",u)])/\∀base:Heap,(K0 w.params).In base->base.Ns mainGlobals mg->FnOk pw w (K0 w.params) mg base (cxx pw w) 5 fa fd ["_law_script"] (spM (K0 w.params) F_law 1):=by
 have y0:=fun (n:Str) (h:jJh (K0 w.params) mainGlobals n=some none)=>PySem.W.mg_none_of X G h
 have y1:=fun (n:Str) (v:Value) (h:jJh (K0 w.params) mainGlobals n=some (some v))=>PySem.W.mg_of X G h
 have y2:=fun (a:Addr) (v:Value) (b:Bool) (h:jJg (K0 w.params) (.ref a) v=some b)=>h
 have yd:=fun m t n i ps a c=>HW.dfn (n:=n) (st:=top i) (ps:=ps) (a:=a) (c:=c) (m:=m) (t:=t) X G
 have yl:=yd "law_quirehand_k07_written_and_read" 598
 have e:=hfa.symm.trans (y1 "law" (.ref 123) (by kernel_rfl));cases e;have B:Bl mg:=⟨y0 "isinstance" (by kernel_rfl),y0 "int" (by kernel_rfl),y0 "bool" (by kernel_rfl),y0 "str" (by kernel_rfl),y0 "dict" (by kernel_rfl),y0 "list" (by kernel_rfl),y0 "tuple" (by kernel_rfl),y0 "len" (by kernel_rfl),y0 "sum" (by kernel_rfl),y0 "max" (by kernel_rfl),y0 "min" (by kernel_rfl),y0 "all" (by kernel_rfl),y0 "range" (by kernel_rfl),y0 "enumerate" (by kernel_rfl),y0 "zip" (by kernel_rfl)⟩
 have Cl:Cls (K0 w.params) mg:=⟨y0 "sorted" (by kernel_rfl)⟩
 refine⟨fnOf "law" "law" (defArgs (top 21)) (defBody (top 21)) (defScope (top 21)) .none .none .none (.str "law_quirehand_k25_whole_pages_placed" 276) none (.ref 122) .none,fun s v=>.of_eq rfl,fun base _ _=>?_⟩;have o1a:=yd "quirehand.leaves" 187 "marks_in" 1 ["strips","begin","end"] 19 18 (fun us hl=>match us,hl with | [_,_,_],_=>rfl) (by kernel_rfl);have oj:=Y8 (P:=pw) (w:=w) (base:=base) o1a B Cl 
 have o0a:=yd "quirehand.leaves" 187 "body_height" 2 ["strips","begin","end"] 24 23 (fun us hl=>match us,hl with | [_,_,_],_=>rfl) (by kernel_rfl);have o9:=qM (P:=pw) (w:=w) (base:=base) o0a B Cl 
 have o1c:=yd "quirehand.leaves" 187 "foot_of" 3 ["strips","begin","end","ahead","late"] 31 30 (fun us hl=>match us,hl with | [_,_,_,_,_],_=>rfl) (by kernel_rfl);have ow:=Yp (P:=pw) (w:=w) (base:=base) o1c B Cl oj;have o1g:=yd "quirehand.leaves" 187 "spans" 4 ["leaves"] 38 37 (fun us hl=>match us,hl with | [_],_=>rfl) (by kernel_rfl);have oy:=WS (P:=pw) (w:=w) (base:=base) o1g B Cl 
 have o1d:=yd "quirehand.placing" 225 "lowered" 6 ["spots","rows"] 43 42 (fun us hl=>match us,hl with | [_,_],_=>rfl) (by kernel_rfl);have o4:=YR (P:=pw) (w:=w) (base:=base) o1d B Cl 
 have o0d:=yd "quirehand.placing" 225 "body_spots" 7 ["strips","rows","begin","end"] 50 49 (fun us hl=>match us,hl with | [_,_,_,_],_=>rfl) (by kernel_rfl);have ol:=jB (P:=pw) (w:=w) (base:=base) o0d B Cl o4;have o0b:=yd "quirehand.placing" 225 "note_height" 8 ["note"] 55 54 (fun us hl=>match us,hl with | [_],_=>rfl) (by kernel_rfl);have og:=qA (P:=pw) (w:=w) (base:=base) o0b B Cl 
 have o0e:=yd "quirehand.placing" 225 "foot_spots" 9 ["notes","first"] 62 61 (fun us hl=>match us,hl with | [_,_],_=>rfl) (by kernel_rfl);have om:=jy (P:=pw) (w:=w) (base:=base) o0e B Cl o4;have o1e:=yd "quirehand.placing" 225 "page_of" 10 ["rules","strips","rows","notes","span"] 67 66 (fun us hl=>match us,hl with | [_,_,_,_,_],_=>rfl) (by kernel_rfl);have ox:=YL (P:=pw) (w:=w) (base:=base) o1e B Cl ol ow o9 om og;have o1f:=yd "quirehand.placing" 225 "placed" 11 ["rules","strips","rows","notes","leaves"] 72 71 (fun us hl=>match us,hl with | [_,_,_,_,_],_=>rfl) (by kernel_rfl);have ou:=XQ (P:=pw) (w:=w) (base:=base) o1f B Cl ox oy;have oz:=yd "law_quirehand_k25_whole_pages_placed" 276 "_law_cell_at" 13 ["_law_script","_law_k"] 79 78 (fun us hl=>match us,hl with | [_,_],_=>rfl) (by kernel_rfl);have o3:=qe (P:=pw) (w:=w) (base:=base) oz B Cl 
 have o0f:=yd "law_quirehand_k25_whole_pages_placed" 276 "_law_spots" 14 ["_law_cell","_law_height","_law_name"] 86 85 (fun us hl=>match us,hl with | [_,_,_],_=>rfl) (by kernel_rfl);have o5:=ju (P:=pw) (w:=w) (base:=base) o0f B Cl 
 have o0j:=yd "law_quirehand_k25_whole_pages_placed" 276 "_law_rows" 15 ["_law_script"] 91 90 (fun us hl=>match us,hl with | [_],_=>rfl) (by kernel_rfl);have oo:=kO (P:=pw) (w:=w) (base:=base) o0j B Cl o3 o5;have o0c:=yd "law_quirehand_k25_whole_pages_placed" 276 "_law_leaves" 16 ["_law_script","_law_strips"] 96 95 (fun us hl=>match us,hl with | [_,_],_=>rfl) (by kernel_rfl);have oh:=qL (P:=pw) (w:=w) (base:=base) o0c B Cl o3;have o0g:=yd "law_quirehand_k25_whole_pages_placed" 276 "_law_under" 17 ["_law_rows_here","_law_top"] 101 100 (fun us hl=>match us,hl with | [_,_],_=>rfl) (by kernel_rfl);have o7:=jz (P:=pw) (w:=w) (base:=base) o0g B Cl 
 have o1b:=yd "law_quirehand_k25_whole_pages_placed" 276 "_law_due" 18 ["_law_rules","_law_strips","_law_rows_here","_law_notes","_law_leaves_here"] 106 105 (fun us hl=>match us,hl with | [_,_,_,_,_],_=>rfl) (by kernel_rfl);have oq:=Zz (P:=pw) (w:=w) (base:=base) o1b B Cl o7;have o0h:=yd "law_quirehand_k25_whole_pages_placed" 276 "_law_right" 19 ["_law_found","_law_due_here"] 111 110 (fun us hl=>match us,hl with | [_,_],_=>rfl) (by kernel_rfl);have o8:=jA (P:=pw) (w:=w) (base:=base) o0h B Cl 
 have o0i:=yd "law_quirehand_k25_whole_pages_placed" 276 "_law_apart" 20 ["_law_pages","_law_rows_here","_law_notes"] 116 115 (fun us hl=>match us,hl with | [_,_,_],_=>rfl) (by kernel_rfl);have on:=jC (P:=pw) (w:=w) (base:=base) o0i B Cl 
 exact Kr (show (K0 w.params).lookup 123=some (fO "law" 21 122 "law_quirehand_k25_whole_pages_placed" 276) from by kernel_rfl) (show codeIn (K0 w.params) (.ref 122) "law"=true from by kernel_rfl) sc_law (by decide) (WO B Cl oo oh oq ou o8 on o3)
end K25
end
open PySem PySem.W PyProof.Rows L2
set_option maxRecDepth 100000 in
set_option maxHeartbeats 0 in
theorem PySem.Challenge.cw_quirehand_k25_whole_pages_placed_holds : PySem.Challenge.rw_quirehand_k25_whole_pages_placed.Holds := by
 w_on;o_law
 refine PySem.W.holds_open (q:=K25.q0) (loose:=[]) (Xt:=K25.X0) (XP:=XL K25.q0 []) (Yf:=K25.Y0) (Ya:=K25.A0) (YP:=InK K25.K0) (N:=1282) K25.left0 (InK.of K25.as_eq) InK.keeps (fun s e=>xl_of s (K25.x1 s e).1) XL.keeps (by rfl) (by rfl) (by rfl) (fun s e=>recFacts_of (K25.x1 s e).2) (by rfl) (by first|assumption|decide +kernel) (by decide +kernel) ⟨rfl,rfl,rfl,rfl,rfl,by decide +kernel⟩ ?hw ?hc
 case hw=>w_witness2
 case hc=>exact L2.law_walk (l:=PySem.Challenge.rw_quirehand_k25_whole_pages_placed) (Fm:=K25.F_law) (k:=5) (x:="_law_script") K25.law_true ⟨rfl,by decide,by decide⟩ rfl rfl (fun w h Y=>Y) K25.facts
#print axioms PySem.Challenge.cw_quirehand_k25_whole_pages_placed_holds
